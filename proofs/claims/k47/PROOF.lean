import PyProof.Rows.All
import Wide.All
import OpenK.AllK
import Wide.FinOn
import Lean
import PyProof.EqAt
import PyProof.EqKinds
import PyProof.TupleCall
import PyProof.NeData
import PyProof.P3Eq
import KE.KTryMore
import PyProof.ExcArgs
import PyProof.Rows.CountFlat
import PyProof.ExcBaseAll.ValueError
import PyProof.Conv_int_bool
import PyProof.IsiPairs
import PyProof.IsiNone
import PyProof.IsiStr
import PyProof.IsiBool
import PyProof.IsiHeapPairs
import KE.KRevIter
import PyProof.CollectIter
import PyProof.WalksMore
import PyProof.Rows.SortRunsK
import KE.KSortKey
import PyProof.Rows.RuleN_abs
import PyProof.Rows.CallKwBuiltin
import PySem.Challenge.RW_everyplace_k47_zeros_of_four
set_option Elab.async false
set_option maxHeartbeats 8000000
set_option compiler.extract_closed false
set_option genInjectivity false
set_option genSizeOf false
set_option bootstrap.genMatcherCode false
set_option maxRecDepth 100000
noncomputable section
abbrev Vl:=@PySem.wpAny_bind
abbrev Vm:=@if_neg
abbrev Vn:=@Int.mul_ne_zero
abbrev Vo:=@if_pos
abbrev Vp:=@PySem.wpAny_pure
abbrev Vq:=@List.mem_cons
abbrev Vr:=@Classical.byContradiction
abbrev Vs:=@PyProof.Rows.wpS_bind
abbrev Vt:=@PySem.Heap.get?_push_of_some
abbrev Vu:=@Nat.le_refl
abbrev Vv:=@List.mem_of_getElem?
abbrev Vw:=@List.mem_cons_of_mem
abbrev Vx:=@List.length_map
abbrev Vy:=@PyProof.Rows.wpS_pure
abbrev Vz:=@List.getElem?_eq_getElem
abbrev VA:=@List.not_mem_nil
abbrev VB:=@Int.mul_le_mul_of_nonneg_left
abbrev VC:=@List.mem_cons_self
abbrev VD:=@List.getD_eq_getElem?_getD
abbrev VE:=@List.getElem?_eq_some_iff
abbrev VF:=@PySem.Heap.lt_size
abbrev VG:=@List.mem_map
abbrev VH:=@of_decide_eq_true
abbrev VI:=@Array.length_toList
abbrev VJ:=@List.getElem?_map
abbrev VL:=@Int.dvd_of_emod_eq_zero
abbrev VM:=@PySem.Heap.get?_push_size
abbrev VN:=@Int.le_of_dvd
abbrev VO:=@Bool.false_ne_true
abbrev VP:=@Option.some.inj
abbrev VQ:=@List.size_toArray
abbrev VR:=@Int.emod_lt_of_pos
abbrev VS:=@Int.pow_succ
abbrev VT:=@Int.natAbs_mul
abbrev VU:=@List.mem_append_right
abbrev VV:=@Int.emod_nonneg
abbrev VW:=@decide_eq_false
abbrev VX:=@Int.mul_one
abbrev VY:=@Nat.lt_of_lt_of_le
abbrev VZ:=@Int.mul_assoc
abbrev V0:=@List.mem_singleton
abbrev V1:=@Int.dvd_trans
abbrev V2:=@Nat.ne_of_lt
abbrev V3:=@decide_eq_true
abbrev V4:=@of_decide_eq_false
abbrev V5:=@List.length_append
abbrev V6:=@Int.mul_comm
abbrev V7:=@Nat.le_trans
abbrev V8:=@Int.pow_zero
abbrev V9:=@PySem.W.mg_none_of
abbrev V_:=@PySem.Heap.SameBut.update
abbrev Wa:=@List.map_cons
abbrev Wb:=@or_false
abbrev Wc:=@List.all_eq_true
abbrev Wd:=@Int.fdiv_eq_ediv_of_nonneg
abbrev We:=@Int.mul_le_mul
abbrev Wf:=@Int.mul_nonpos_of_nonneg_of_nonpos
abbrev Wg:=@Int.mul_zero
abbrev Wh:=@List.append_assoc
abbrev Wi:=@Bool.and_eq_true
abbrev Wj:=@Int.mul_pos
abbrev Wk:=@List.mem_append
abbrev Wl:=@List.length_cons
abbrev Wm:=@Int.mul_le_mul_of_nonneg_right
abbrev Wn:=@Nat.zero_le
abbrev Wo:=@Int.le_refl
abbrev Wq:=@Int.one_mul
abbrev Wr:=@Int.emod_eq_zero_of_dvd
abbrev Ws:=@Int.pow_pos
abbrev Wt:=@PyProof.Rows.wpS_forRange
abbrev Wu:=@Int.fmod_eq_emod_of_nonneg
abbrev Wv:=@List.take_append_drop
abbrev Ww:=@Array.toList_append
abbrev Wx:=@List.mem_filter
abbrev Wy:=@Bool.eq_iff_iff
abbrev Wz:=@List.mem_range
abbrev WA:=@List.Perm.append_right
abbrev WB:=@Int.lt_or_gt_of_ne
abbrev WC:=@Int.emod_add_mul_ediv
abbrev WD:=@PySem.wpAny_ite_split
abbrev WE:=@List.filter_cons_of_neg
abbrev WG:=@List.filter_cons_of_pos
abbrev WH:=@PySem.wpAny_newObj_type
abbrev WI:=@Bool.and_eq_true_iff
abbrev WJ:=@decide_eq_true_iff
abbrev WK:=@Int.pow_add
abbrev WL:=@List.nodup_cons
abbrev WM:=@List.length_set
abbrev WN:=@Int.natCast_mul
abbrev WO:=@List.take_length
abbrev WQ:=@Int.mul_emod
abbrev WR:=@List.replicate_succ
abbrev WS:=@Int.natAbs_dvd_natAbs
abbrev WT:=@Array.getElem?_toList
abbrev WU:=@List.mem_append_left
abbrev WV:=@Int.mul_eq_zero
abbrev WW:=@PySem.wpAny_call_entry
abbrev WX:=@Int.dvd_neg
abbrev WY:=@Array.getElem?_eq_getElem
abbrev WZ:=@PySem.wpAny_truthy_bool
abbrev W0:=@Nat.lt_succ_of_lt
abbrev W2:=@List.take_add_one
abbrev W3:=@Int.gcd_dvd_right
abbrev W4:=@Nat.le_of_lt
abbrev W5:=@Int.mul_fdiv_cancel_left
abbrev W6:=@Int.lt_or_le
abbrev W7:=@List.Perm.append_left
abbrev W8:=@Nat.le_of_ble_eq_true
abbrev W9:=@List.pairwise_cons
abbrev W_:=@PySem.wpAny_callSpecial?_slot
abbrev Xa:=@List.length_eq_zero_iff
abbrev Xb:=@PyProof.Rows.wpS_mono
abbrev Xc:=@PySem.wpAny_holding
abbrev Xd:=@List.getElem?_append_right
abbrev Xe:=@Int.mul_nonneg
abbrev Xf:=@Int.dvd_natAbs
abbrev Xg:=@Array.getElem_mem
abbrev Xh:=@List.getElem?_append_left
abbrev Xi:=@List.getElem?_zip_eq_some
abbrev Xj:=@Int.emod_two_eq
abbrev Xk:=@Int.mul_neg_of_neg_of_pos
abbrev Xl:=@List.find?_cons
abbrev Xm:=@PySem.Heap.get?_update_self
abbrev Xn:=@List.perm_append_comm
abbrev Xo:=@Bool.false_eq_true
abbrev Xp:=@Int.gcd_dvd_left
abbrev Xq:=@PySem.F.called_set
abbrev Xr:=@PySem.F.slot_dict_keyiterator_next
abbrev Xs:=@Array.toList_push
abbrev Xt:=@PyProof.Rows.callWith_type1
abbrev Xu:=@Nat.not_lt_zero
abbrev Xv:=@Int.dvd_refl
abbrev Xw:=@Int.mul_add
abbrev Xx:=@Int.dvd_sub
abbrev Xy:=@List.take_of_length_le
abbrev Xz:=@List.length_take
abbrev XA:=@PySem.wpAny_Call_Name_kw
abbrev XB:=@PySem.Heap.size_push
abbrev XC:=@List.getElem?_eq_none
abbrev XD:=@List.mem_iff_getElem?
abbrev XE:=@Int.mul_pos_of_neg_of_neg
abbrev XF:=@PySem.wpAny_mono
abbrev XG:=@Nat.pow_le_pow_right
abbrev XH:=@Int.le_of_lt
abbrev XI:=@List.Pairwise.imp_of_mem
abbrev XJ:=@List.flatten_cons
abbrev XM:=@decide_eq_true_eq
abbrev XN:=@Int.emod_eq_of_lt
abbrev XO:=@List.any_cons
abbrev XQ:=@PySem.wpAny_typeNameOfWhole_keyiter
abbrev XR:=@PySem.mem_of_lookup
abbrev XS:=@if_false
abbrev XT:=@List.length_drop
abbrev XU:=@List.lookup_cons
abbrev XW:=@Nat.lt_succ_self
abbrev XX:=@List.getElem_mem
abbrev XY:=@PySem.wpAny_fieldsOf
abbrev XZ:=@PySem.wpAny_setField
abbrev X0:=@PySem.sizeLine_eq
abbrev X1:=@Int.mul_sub
abbrev X2:=@PyProof.Rows.wpS_modify
abbrev X3:=@Int.lt_or_eq_of_le
abbrev X4:=@PyProof.Rows.F.plain_set_update_loop
abbrev X5:=@PySem.Obj.data_mapFields
abbrev X6:=@PySem.wpAny_passesOwn
abbrev X7:=@Bool.or_eq_true
abbrev X8:=@Nat.lt_irrefl
abbrev X9:=@PySem.wpAny_attempt
abbrev X_:=@Int.lt_trichotomy
abbrev Ya:=@Int.mul_nonpos_of_nonpos_of_nonneg
abbrev Yb:=@PySem.wpAny_setState_of
abbrev Yc:=@Int.emod_emod_of_dvd
abbrev Yd:=@Nat.mul_le_mul_right
abbrev Ye:=@Int.mul_ediv_cancel'
abbrev Yf:=@Array.getElem_toList
abbrev Yg:=@List.mem_iff_getElem
abbrev Yh:=@PySem.Around.under_plainId
abbrev Yi:=@Ne.symm
abbrev Yj:=@Option.isSome_iff_exists
abbrev Yk:=@Nat.pow_succ
abbrev Yl:=@List.any_eq_true
abbrev Ym:=@PySem.wpAny_typeNameOf_keyiter
abbrev Yn:=@PySem.wpAny_setEntries_of
abbrev Yo:=@Int.toNat_of_nonneg
abbrev Yp:=@PyProof.Rows.slot_tuple_getitem
abbrev Yq:=@PySem.Paired.length
abbrev Yr:=@if_true
abbrev Ys:=@PyProof.Rows.wpS_get
abbrev Yt:=@Array.mem_def
abbrev Yu:=@List.append_nil
abbrev Yv:=@Nat.lt_of_le_of_lt
abbrev Yw:=@PySem.PassesOwn.never
abbrev Yx:=@List.map_append
abbrev Yy:=@List.length_zip
abbrev Yz:=@PySem.codeAny_builtin
abbrev YA:=@List.getElem?_set_self
abbrev YB:=@PySem.W.cellsFrom_some
abbrev YC:=@Nat.le_succ
abbrev YD:=@Nat.le_mul_of_pos_left
abbrev YE:=@List.drop_eq_nil_of_le
abbrev YF:=@List.eq_nil_of_length_eq_zero
abbrev YG:=@List.pairwise_map
abbrev YH:=@Option.some.injEq
abbrev YI:=@Option.isSome_map
abbrev YJ:=@List.map_nil
abbrev YK:=@List.nodup_nil
abbrev YL:=@Nat.mul_le_mul
abbrev YM:=@Int.gcd_pos_of_ne_zero_left
abbrev YN:=@beq_self_eq_true
abbrev YO:=@Nat.not_lt
abbrev YQ:=@Array.toList_extract
abbrev YR:=@Array.toList_reverse
abbrev YS:=@List.mem_of_mem_take
abbrev YT:=@Array.perm_iff_toList_perm
abbrev YU:=@Bool.true_and
abbrev YV:=@Int.dvd_add
abbrev YW:=@dif_pos
abbrev YX:=@List.nil_append
abbrev YY:=@Nat.two_pow_pos
abbrev YZ:=@Int.ediv_nonneg
abbrev Y0:=@Int.mul_neg_of_pos_of_neg
abbrev Y1:=@List.drop_eq_getElem_cons
abbrev Y2:=@PyProof.Rows.get?_update_seq
abbrev Y3:=@PySem.codeAny_mono
abbrev Y4:=@Nat.eq_zero_or_pos
abbrev Y5:=@Int.zero_mul
abbrev Y6:=@Int.gcd_zero_right
abbrev Y7:=@Nat.lt_or_eq_of_le
abbrev Y8:=@PyProof.Rows.F.entry_set_update_loop
abbrev Y9:=@getElem?_pos
abbrev Y_:=@beq_iff_eq
abbrev Za:=@decide_eq_false_iff_not
abbrev Zb:=@Nat.le_mul_of_pos_right
abbrev Zc:=@Nat.le_of_succ_le
abbrev Zd:=@Int.mul_nonneg_of_nonpos_of_nonpos
abbrev Ze:=@PySem.fits_of_scanBound
abbrev Zf:=@List.length_range
abbrev Zg:=@List.nodup_append
abbrev Zh:=@Sum.inr.inj
abbrev Zi:=@PyProof.Rows.boot_list
abbrev Zj:=@Int.fmod_nonneg_of_pos
abbrev Zk:=@Nat.mod_eq_zero_of_dvd
abbrev Zl:=@Array.getElem?_eq_none
abbrev Zm:=@PySem.plainId_quiet
abbrev Zn:=@List.filter_cons
abbrev Zo:=@List.nodup_range
abbrev Zp:=@List.cons_append
abbrev Zq:=@List.length_singleton
abbrev Zr:=@Bool.beq_eq_decide_eq
abbrev Zs:=@PySem.Obj.isFreed_of_fields
abbrev Zt:=@PySem.wpAny_isOneOf_keyiter
abbrev Zu:=@List.getElem?_set_ne
abbrev Zv:=@List.of_mem_zip
abbrev Zw:=@PyProof.Rows.callWith_builtin1
abbrev Zx:=@Nat.le_of_eq
abbrev Zy:=@List.mem_erase_of_ne
abbrev Zz:=@List.map_map
abbrev ZA:=@Int.natCast_pow
abbrev ZC:=@Int.dvd_zero
abbrev ZD:=@Nat.beq_eq
abbrev ZE:=@Int.add_zero
abbrev ZG:=@PySem.F.args_dict_keyiterator_next_1
abbrev ZH:=@PySem.F.entry_dict_keyiterator_next
abbrev ZI:=@beq_eq_false_iff_ne
abbrev ZJ:=@List.filterMap_cons
abbrev ZK:=@List.filter_eq_self
abbrev ZL:=@Int.gcd_eq_zero_iff
abbrev ZM:=@List.map_congr_left
abbrev ZN:=@List.take_succ
abbrev ZP:=@List.take_zero
abbrev ZQ:=@Nat.log2_lt
abbrev ZR:=@Int.mul_pow
abbrev ZS:=@Int.fmod_lt_of_pos
abbrev ZT:=@Int.dvd_of_mul_dvd_mul_left
abbrev ZU:=@Nat.one_lt_two_pow
abbrev ZV:=@PySem.Calls.Name_function_global
abbrev ZX:=@PySem.wpAny_newList
abbrev ZY:=@PySem.W.mg_of
abbrev ZZ:=@Nat.le_of_dvd
abbrev Z0:=@Int.eq_of_mul_eq_mul_right
abbrev Z4:=@Int.add_mul_emod_self_left
abbrev Z5:=@List.perm_append_singleton
abbrev Z6:=@Array.toList_setIfInBounds
abbrev Z7:=@PyProof.Rows.listUpdate_at
abbrev Z8:=@PySem.Value.isInt_shape
abbrev Z9:=@PySem.wpAny_pyIter_list
abbrev Z_:=@List.foldl_append
abbrev aaa:=@Classical.not_imp
abbrev aab:=@PySem.wpAny_pyIter_slot
abbrev aac:=@PySem.Obj.cls_mapFields
abbrev aad:=@Bool.not_eq_true'
abbrev aae:=@Int.emod_add_emod
abbrev aaf:=@PySem.wpAny_dictEntries
abbrev aag:=@List.reverse_perm
abbrev aah:=@Int.eq_of_mul_eq_mul_left
abbrev aai:=@List.pairwise_iff_getElem
abbrev aaj:=@PySem.wpAny_rule
abbrev aak:=@PySem.F.plain_extend_loop
abbrev aal:=@Nat.le_of_mul_le_mul_left
abbrev aam:=@decide_eq_decide
abbrev aan:=@Nat.ne_of_gt
abbrev aao:=@List.getElem?_take_of_lt
abbrev aap:=@Prod.ext
abbrev aaq:=@Nat.le_of_not_lt
abbrev aar:=@Int.gcd_comm
abbrev aas:=@Int.le_trans
abbrev aat:=@Nat.lt_succ_iff_lt_or_eq
abbrev aau:=@Nat.min_eq_right
abbrev aav:=@Nat.lt_trans
abbrev aaw:=@PySem.wpAny_askSetting
abbrev aax:=@PySem.wpAny_isInstance
abbrev aay:=@Array.size_setIfInBounds
abbrev aaz:=@List.mem_flatMap
abbrev aaA:=@Int.natCast_dvd_natCast
abbrev aaB:=@List.getLast?_cons_cons
abbrev aaC:=@PySem.F.plain_list_iadd
abbrev aaD:=@PySem.wpAny_execs_nil
abbrev aaE:=@List.foldl_cons
abbrev aaF:=@PySem.pushCells_keeps
abbrev aaG:=@Int.natCast_add
abbrev aaH:=@List.range_succ
abbrev aaI:=@Int.dvd_coe_gcd
abbrev aaJ:=@Nat.min_eq_left
abbrev aaK:=@PySem.wpAny_dictEpoch
abbrev aaL:=@PySem.size_of_entries
abbrev aaM:=@Int.mul_neg
abbrev aaN:=@Int.pow_mul
abbrev aaO:=@List.pairwise_lt_range
abbrev aaP:=@List.drop_of_length_le
abbrev aaQ:=@List.length_replicate
abbrev aaR:=@List.length_filter_le
abbrev aaS:=@Int.ediv_lt_of_lt_mul
abbrev aaT:=@List.Perm.refl
abbrev aaU:=@List.Pairwise.sublist
abbrev aaV:=@PySem.F.plain_set_new
abbrev aaW:=@List.getElem?_toArray
abbrev aaX:=@PySem.F.slot_set_iter
abbrev aaY:=@Int.natAbs_dvd
abbrev aaZ:=@List.drop_drop
abbrev aa0:=@List.all_cons
abbrev aa1:=@Prod.mk.injEq
abbrev aa2:=@Int.natAbs_eq
abbrev aa3:=@Int.zero_add
abbrev aa4:=@Int.le_total
abbrev aa5:=@Int.zero_dvd
abbrev aa6:=@Nat.lt_or_ge
abbrev aa7:=@Int.add_comm
abbrev aa8:=@Bool.or_true
set_option linter.all false
set_option maxRecDepth 100000
namespace L2
open PySem PySem.Spec PyProof.Rows
variable{s:Shared}{x:Str}{pins:List (Addr×Obj)}{w:World}{u:Value}{op:CmpOp}{K:PySem.W.Frag}{A:Around}{pos:Pos}{P:Program}{i t' k n:Nat}{h:Heap}{e tg c:Expr}{us:List Value}{ch fp:List Addr}{M:Model}{body:List Stmt}{f:Value->Value->Sem Value}
abbrev Key:=Sum Int Str
def ue:Key->Value->Bool
 |.inl k,v=>Value.isInt k v
 |.inr x,v=>Value.isStrOf x v
def Qd(w:World):Key->Int
 |.inl k=>hashInt k
 |.inr x=>hashStr w x
def bW:∀{k:Key} {v:Value},ue k v=true->(∃i t,k=Sum.inl i/\v=Value.int i t)\/(∃x t,k=Sum.inr x/\v=Value.str x t)
 |.inl i,v,h=>by
  obtain⟨t,e⟩:=Z8 (k:=i) (v:=v) h;exact .inl ⟨i,t,rfl,e⟩
 |.inr x,v,h=>by
  obtain⟨t,e⟩:=Value.isStrOf_shape (x:=x) (v:=v) h;exact .inr ⟨x,t,rfl,e⟩
def BD(i:Int)(t:Tok):ue (.inl i) (.int i t)=true:=by simp[ue,Value.isInt]
def B6(x:Str)(t:Tok):ue (.inr x) (.str x t)=true:=by simp[ue,Value.isStrOf]
def Ks(a b:Int):decide ((Sum.inl a:Key)=Sum.inl b)=(a==b):=by
 by_cases e:a=b
 .subst e;simp
 .have h:¬(Sum.inl a:Key)=Sum.inl b:=fun q=>e (Sum.inl.inj q);rw[VW h];exact(ZI.mpr e).symm
def K6(a b:Str):decide ((Sum.inr a:Key)=Sum.inr b)=decide (a=b):=by
 by_cases e:a=b
 .subst e;simp
 .have h:¬(Sum.inr a:Key)=Sum.inr b:=fun q=>e (Zh q);rw[VW h,VW e]
def KP(a:Int)(b:Str):decide ((Sum.inl a:Key)=Sum.inr b)=false:=VW (fun q=>nomatch q)
def LI(a:Str)(b:Int):decide ((Sum.inr a:Key)=Sum.inl b)=false:=VW (fun q=>nomatch q)
def da(prog:Program)(w:World):PySem.KeyKind prog w Key where
 is:=ue
 hash:=Qd w
 inj:=fun v a b ha d=>by
  rcases bW ha with⟨i,t,rfl,rfl⟩|⟨x,t,rfl,rfl⟩
  .rcases bW d with⟨j,u,rfl,e⟩|⟨y,u,rfl,e⟩
   .injection e with e1 _;rw[e1]
   .exact nomatch e
  .rcases bW d with⟨j,u,rfl,e⟩|⟨y,u,rfl,e⟩
   .exact nomatch e
   .injection e with e1 _;rw[e1]
 byValue:=fun k v h=>by
  rcases bW h with⟨i,t,rfl,rfl⟩|⟨x,t,rfl,rfl⟩<;>rfl
 pyHash:=fun c h=>by
  rcases bW c with⟨i,t,rfl,rfl⟩|⟨x,t,rfl,rfl⟩
  .exact wpAny_pyHash_int h
  .exact wpAny_pyHash_str h
 eqBool:=fun f c h=>by
  rcases bW f with⟨i,t,rfl,rfl⟩|⟨x,t,rfl,rfl⟩
  .rcases bW c with⟨j,u,rfl,rfl⟩|⟨y,u,rfl,rfl⟩
   .rw[Ks] at h;exact wpAny_eqBool_int h
   .rw[KP] at h;exact SeqAt.EqAt.int_str i t y u _ _ _ _ h
  .rcases bW c with⟨j,u,rfl,rfl⟩|⟨y,u,rfl,rfl⟩
   .rw[LI] at h;exact SeqAt.EqAt.str_int x t j u _ _ _ _ h
   .rw[K6] at h;exact wpAny_eqBool_str h
 «strs»:=fun k x t v h=>by
  rcases bW h with⟨i,u,rfl,e⟩|⟨y,u,rfl,e⟩
  .exact nomatch e
  .injection e with e1 _;subst e1;cases v<;>rfl
def xc(prog:Program)(w:World)(i:Int)(t:Tok):(da prog w).is (.inl i) (.int i t)=true:=BD i t
def wV(prog:Program)(w:World)(x:Str)(t:Tok):(da prog w).is (.inr x) (.str x t)=true:=B6 x t
def bI(b:Bool):Int:=if b then 1 else 0
def NB(k:Int)(v:Value):Bool:=match v with
 |.int i _=>i==k
 |.bool b=>bI b==k
 |_=>false
def cF{k:Int}{v:Value}(h:NB k v=true):(∃t,v=Value.int k t)\/∃b,k=bI b/\v=Value.bool b:=by
 cases v with
 |int i t=>exact .inl ⟨t,by rw[eq_of_beq (show(i==k)=true from h)]⟩
 |bool b=>exact .inr ⟨b,(eq_of_beq (show(bI b==k)=true from h)).symm,rfl⟩
 |_=>exact nomatch h
def vj{prog:Program}{E:Value->Shared->Prop}{b:Bool}{Q:Int->Shared->Prop}(h:Q (hashInt (bI b)) {s with toks:=s.toks+1}):wpAny (model prog w) A (pyHash (.bool b)) Q E s:=by
 refine PySem.W.pyHash_slot (T:="bool") rfl F.slot_bool_hash entry_int_hash (args_int_hash _) (beq_builtin_none _) (.inl rfl) ?_;cases b
 .exact(show wpAny _ _ (do ret (<-mkInt 0)) _ _ s from Vl (wpAny_mkInt (Vp ⟨0,_,rfl,h⟩)))
 .exact(show wpAny _ _ (do ret (<-mkInt 1)) _ _ s from Vl (wpAny_mkInt (Vp ⟨1,_,rfl,h⟩)))
def G6(a b:Int):decide (a=b)=(a==b):=by
 by_cases e:a=b
 .subst e;simp
 .rw[VW e];exact(ZI.mpr e).symm
def zz(prog:Program)(w:World):PySem.KeyKind prog w Int where
 is:=NB
 hash:=hashInt
 inj:=fun v a b ha d=>by
  rcases cF ha with⟨t,rfl⟩|⟨x,rfl,rfl⟩
  .rcases cF d with⟨u,e⟩|⟨y,rfl,e⟩
   .injection e
   .cases e
  .rcases cF d with⟨u,e⟩|⟨y,rfl,e⟩
   .cases e
   .injection e with e;rw[e]
 byValue:=fun k v h=>by
  rcases cF h with⟨t,rfl⟩|⟨x,rfl,rfl⟩<;>rfl
 pyHash:=fun c h=>by
  rcases cF c with⟨t,rfl⟩|⟨x,rfl,rfl⟩
  .exact wpAny_pyHash_int h
  .exact vj h
 eqBool:=fun {A E s a b u v Q} f c h=>by
  rw[G6] at h;rcases cF f with⟨t,rfl⟩|⟨x,rfl,rfl⟩
  .rcases cF c with⟨t',rfl⟩|⟨y,rfl,rfl⟩
   .exact wpAny_eqBool_int h
   .exact SeqAt.EqAt.int_bool _ t y _ _ _ _ h
  .rcases cF c with⟨t',rfl⟩|⟨y,rfl,rfl⟩
   .exact SeqAt.EqAt.bool_int x _ t' _ _ _ _ h
   .refine SeqAt.EqAt.bool_bool x y _ _ _ _ ?_;rw[show(x==y)=(bI x==bI y) by cases x<;>cases y<;>rfl];exact h
 «strs»:=fun k x t v h=>by
  rcases cF h with⟨u,e⟩|⟨y,_,e⟩<;>cases e
def kl(k:Int×Bool):List Int:=[k.1,bI k.2]
def ES{x y:Int×Bool}(h:kl x=kl y):x=y:=by
 obtain⟨c,b⟩:=x;obtain⟨d,a⟩:=y;have h1:c=d/\bI b=bI a:=by simpa [kl] using h
 obtain⟨rfl,h2⟩:=h1;cases b<;>cases a<;>first|rfl|exact absurd h2 (by decide)
def KQ(x y:Int×Bool):decide (kl x=kl y)=decide (x=y):=aam.mpr ⟨ES,fun h=>by rw[h]⟩
def gE(prog:Program)(w:World):PySem.HeapKind prog w (Int×Bool) where
 is:=fun h k a=>IsTupleKey (zz prog w) h (kl k) a
 hash:=fun k=>tupleKeyHash (zz prog w) (kl k)
 draws:=fun _=>3
 room:=fun A=>A.units<cLine
 inj:=fun f e=>ES (f.inj e)
 keeps:=fun x i j g=>x.keeps i j g
 pyHash:=fun c d h=>wpAny_pyHash_tuple c d h
 eqBool:=fun {A E s x y a b Q} c f e h=>wpAny_eqBool_tuple c f e (by rw[KQ];exact h)
 quiet:=fun d h=>wpAny_eqIsQuiet_tuple d h
def kP{prog:Program}(a:A.units+1<cLine):(gE prog w).room A.in1:=a
set_option genInjectivity true in
inductive V where
 |non|bl (b:Bool)|int (i:Int)|str (x:Str)|byt (b:Array UInt8)|flt (b:UInt64)|ref (a:Addr)|ty (n:String)
 deriving DecidableEq
variable{v:V}
def RelV:V->Value->Prop
 |.non,u=>u=Value.none
 |.bl b,u=>u=Value.bool b
 |.int i,u=>∃t,u=Value.int i t
 |.str x,u=>∃t,u=Value.str x t
 |.byt b,u=>∃t,u=Value.bytes b t
 |.flt b,u=>∃t,u=Value.float b t
 |.ref a,u=>u=Value.ref a
 |.ty n,u=>u=Value.type n
abbrev Vals:List V->List Value->Prop:=Paired RelV
theorem Vals.length{xs:List V}{us:List Value}(r:Vals xs us):xs.length=us.length:=Yq r
theorem Vals.get:∀{xs:List V} {us:List Value} {i:Nat} {x:V},Vals xs us->xs[i]?=some x->∃u,us[i]?=some u/\RelV x u
 |_,_,_,_,.nil,e=>by simp at e
 |_,_,0,_,.cons r _,e=>by simp at e;subst e;exact⟨_,rfl,r⟩
 |_,_,i+1,x,.cons _ t,e=>by
  obtain⟨u,h1,h2⟩:=Vals.get (i:=i) (x:=x) t (by simpa using e);exact⟨u,by simpa using h1,h2⟩
theorem Vals.set{x:V}{u:Value}(r:RelV x u):∀{xs:List V} {us:List Value} (i:Nat),Vals xs us->Vals (xs.set i x) (us.set i u)
 |_,_,_,.nil=>.nil
 |_,_,0,.cons _ t=>.cons r t
 |_,_,i+1,.cons q t=>.cons q (Vals.set r i t)
theorem Vals.append:∀{xs ys:List V} {us a:List Value},Vals xs us->Vals ys a->Vals (xs++ys) (us++a)
 |_,_,_,_,.nil,s=>s
 |_,_,_,_,.cons r t,s=>.cons r (Vals.append t s)
theorem Vals.take:∀{xs:List V} {us:List Value} (n:Nat),Vals xs us->Vals (xs.take n) (us.take n)
 |_,_,0,_=>.nil
 |_,_,_+1,.nil=>.nil
 |_,_,n+1,.cons r t=>.cons r (Vals.take n t)
theorem Vals.drop:∀{xs:List V} {us:List Value} (n:Nat),Vals xs us->Vals (xs.drop n) (us.drop n)
 |_,_,0,r=>r
 |_,_,_+1,.nil=>.nil
 |_,_,n+1,.cons _ t=>Vals.drop n t
def yj:Option V->Option Value->Prop
 |some v,some u=>RelV v u
 |none,none=>True
 |_,_=>False
def KV{κ:Type}:List (κ×V)->List (κ×Value)->Prop:=Paired fun(p:κ×V) (q:κ×Value)=>p.1=q.1/\RelV p.2 q.2
def kV:Key->V
 |.inl i=>.int i
 |.inr x=>.str x
def kB(k:Int×Bool):List V:=[.int k.1,.bl k.2]
inductive HO where
 |lst (xs:List V)
 |tup (xs:List V)
 |dK (kvs:List (Key×V))|dT (kvs:List (List Key×V))
 |dB (kvs:List ((Int×Bool)×V))
 |set (S:Int->Bool) (n:Nat)
 |ins (C dx:Addr) (fs:List (Str×V))
 |own (x:Addr)
 |xd (fs:List (Str×V))
 |met (f x:Addr)
 |rng (lo hi:Int)
 |frz (o:Obj) (u:HO)
 |tbl (ps:Array Value)
 |ext (φ:Heap->Prop)
variable{o:HO}
abbrev Hp:=Addr->Option HO
variable{H:Hp}
def upd(H:Hp)(a:Addr)(o:HO):Hp:=fun b=>if b=a then some o else H b
def aP{a:Addr}:upd H a o a=some o:=by unfold upd;rw[Vo rfl]
def aA{a b:Addr}(h:b≠a):upd H a o b=H b:=by unfold upd;rw[Vm h]
def E8{a b:Addr}{u:HO}(h:H a=some o)(h':H b=some u)(d:o≠u):a≠b:=by
 intro e;subst e;rw[h] at h';exact d (VP h')
def bN{a b:Addr}(h:H a=some o)(h':H b=none):a≠b:=by
 intro e;subst e;rw[h] at h';cases h'
section
variable(P:Program)(w:World)
def bP(H:Hp)(h:Heap)(a:Addr):HO->Prop
 |.lst xs=>xs.length<=sizeLine/\∃(its:List Value) (n:Nat),Vals xs its/\h.get? a=some {cls:=.type "list",data:=.seq its.toArray n}
 |.tup xs=>xs.length<=sizeLine/\∃its:List Value,Vals xs its/\IsTup h a its.toArray
 |.dK kvs=>kvs.length<=sizeLine/\(a==sysModules)=false/\∃vs,KV kvs vs/\h.DictOf (da P w) a vs
 |.dT kvs=>kvs.length<=sizeLine/\(a==sysModules)=false/\∃xs:List (List Key×Addr×Value),
   Paired (fun(p:List Key×V) (q:List Key×Addr×Value)=>p.1=q.1/\H q.2.1=some (.tup (p.1.map kV))/\RelV p.2 q.2.2) kvs xs /\
   ∃o es ep,h.get? a=some o/\o.ExactDict/\o.data=.dict es ep/\es.toList=xs.map (entryOfKey (tupleKind (da P w)))/\(xs.map (·.1)).Nodup
 |.dB kvs=>kvs.length<=sizeLine/\(a==sysModules)=false/\∃xs:List ((Int×Bool)×Addr×Value),
   Paired (fun(p:(Int×Bool)×V) (q:(Int×Bool)×Addr×Value)=>p.1=q.1/\H q.2.1=some (.tup (kB p.1))/\RelV p.2 q.2.2) kvs xs /\
   ∃o es ep,h.get? a=some o/\o.ExactDict/\o.data=.dict es ep/\es.toList=xs.map (entryOfKey (gE P w))/\(xs.map (·.1)).Nodup
 |.set S n=>h.SetOf (intKind P w) a S n
 |.ins C dx fs=>H dx=some (.own a)/\fs.length<=1000/\dx≠a/\h.get? a=some (PySem.W.instObj C dx) /\
   ∃mA,h.Ns1 dx mA/\(∀f,yj (fs.lookup f) (mA f))/\PySem.Within mA (fs.map (·.1))
 |.own _=>∃o,h.get? a=some o
 |.xd fs=>∃mA,h.Ns1 a mA/\∀f,yj (fs.lookup f) (mA f)
 |.rng lo hi=>∃t u v,h.get? a=some {cls:=.type "range",data:=.fields #[.int lo t,.int hi u,.int 1 v]}
 |.frz o u=>h.get? a=some o/\bP H h a u
 |.tbl ps=>h.get? a=some {cls:=.none,data:=.fields ps}
 |.met f x=>h.get? a=some (PySem.W.methodObj (.ref f) (.ref x))
 |.ext φ=>φ h/\(∃o,h.get? a=some o)/\∀h1 h2:Heap,φ h1->(∀o,h1.get? a=some o->h2.get? a=some o)->φ h2
def kJ(H:Hp)(h:Heap):Prop:=∀a o,H a=some o->bP P w H h a o
end
section
variable{P:Program}{w:World}{H H':Hp}{h h':Heap}{a:Addr}{o:HO}
theorem bP.lt(x:bP P w H h a o):a<h.objs.size:=by
 cases o with
 |lst xs=>obtain⟨_,_,_,_,e⟩:=x;exact VF e
 |tup xs=>obtain⟨_,_,_,p⟩:=x;exact p.lt
 |dK kvs=>obtain⟨_,_,_,_,o,_,_,e,_⟩:=x;exact VF e
 |dT kvs=>obtain⟨_,_,_,_,o,_,_,e,_⟩:=x;exact VF e
 |dB kvs=>obtain⟨_,_,_,_,o,_,_,e,_⟩:=x;exact VF e
 |set S n=>obtain⟨o,_,_,_,e,_⟩:=x;exact VF e
 |ins C dx fs=>obtain⟨_,_,_,e,_⟩:=x;exact VF e
 |own y=>obtain⟨_,e⟩:=x;exact VF e
 |xd fs=>obtain⟨_,⟨_,_,_,e,_⟩,_⟩:=x;exact VF e
 |rng lo hi=>obtain⟨_,_,_,e⟩:=x;exact VF e
 |frz ob u=>obtain⟨e,_⟩:=x;exact VF e
 |tbl ps=>exact VF (show h.get? a=some _ from x)
 |met f y=>exact VF (show h.get? a=some _ from x)
 |ext φ=>obtain⟨_,⟨_,e⟩,_⟩:=x;exact VF e
theorem Paired.FC{α β:Type}{F G:α->β->Prop}:∀{d:List α} {c:List β},Paired F d c->(∀a b,F a b->G a b)->Paired G d c
 |_,_,.nil,_=>.nil
 |_,_,.cons r t,f=>.cons (f _ _ r) (Paired.FC t f)
def bP.wR(x:bP P w H h a o)(k:∀b u,(b=a\/H b=some (.own a))->h.get? b=some u->h'.get? b=some u)
  (i:∀b,H b=some (.own a)->H' b=some (.own a)) (g:∀b xs,H b=some (.tup xs)->H' b=some (.tup xs)):bP P w H' h' a o:=by
 induction o with
 |lst xs=>obtain⟨z,its,n,r,e⟩:=x;exact⟨z,its,n,r,k _ _ (.inl rfl) e⟩
 |tup xs=>obtain⟨z,its,r,ob,e,c⟩:=x;exact⟨z,its,r,ob,k _ _ (.inl rfl) e,c⟩
 |dK kvs=>obtain⟨z,y,vs,r,ob,es,ep,e,c⟩:=x;exact⟨z,y,vs,r,ob,es,ep,k _ _ (.inl rfl) e,c⟩
 |dT kvs =>
  obtain⟨z,y,xs,r,ob,es,ep,e,c⟩:=x;exact⟨z,y,xs,Paired.FC r fun p q z=>⟨z.1,g _ _ z.2.1,z.2.2⟩,ob,es,ep,k _ _ (.inl rfl) e,c⟩
 |dB kvs =>
  obtain⟨z,y,xs,r,ob,es,ep,e,c⟩:=x;exact⟨z,y,xs,Paired.FC r fun p q z=>⟨z.1,g _ _ z.2.1,z.2.2⟩,ob,es,ep,k _ _ (.inl rfl) e,c⟩
 |set S n=>obtain⟨ob,es,ep,t,e,c⟩:=x;exact⟨ob,es,ep,t,k _ _ (.inl rfl) e,c⟩
 |ins C dx fs =>
  obtain⟨d,z,ne,e,mA,⟨od,es,ep,e2,c⟩,r⟩:=x;exact⟨i _ d,z,ne,k _ _ (.inl rfl) e,mA,⟨od,es,ep,k _ _ (.inr d) e2,c⟩,r⟩
 |own y=>obtain⟨ob,e⟩:=x;exact⟨ob,k _ _ (.inl rfl) e⟩
 |xd fs=>obtain⟨mA,⟨od,es,ep,e,c⟩,r⟩:=x;exact⟨mA,⟨od,es,ep,k _ _ (.inl rfl) e,c⟩,r⟩
 |rng lo hi=>obtain⟨t,u,v,e⟩:=x;exact⟨t,u,v,k _ _ (.inl rfl) e⟩
 |frz ob u j=>obtain⟨e,q⟩:=x;exact⟨k _ _ (.inl rfl) e,j q⟩
 |tbl ps =>
  have e:h.get? a=some {cls:=.none,data:=.fields ps}:=x;show h'.get? a=some {cls:=.none,data:=.fields ps};exact k a _ (.inl rfl) e
 |met f y =>
  have e:h.get? a=some (PySem.W.methodObj (.ref f) (.ref y)):=x;show h'.get? a=some (PySem.W.methodObj (.ref f) (.ref y));exact k a _ (.inl rfl) e
 |ext φ=>obtain⟨p,⟨o,e⟩,st⟩:=x;exact⟨st _ _ p fun o q=>k _ _ (.inl rfl) q,⟨o,k _ _ (.inl rfl) e⟩,st⟩
theorem kJ.lt(x:kJ P w H h)(e:H a=some o):a<h.objs.size:=(x a o e).lt
def kJ.fresh(x:kJ P w H h)(e:h.objs.size<=a):H a=none:=by
 cases q:H a with
 |none=>rfl
 |some u=>exact absurd (VY (x.lt q) e) (X8 _)
def kJ.kept(x:kJ P w H h)(k:∀b u,h.get? b=some u->h'.get? b=some u):kJ P w H h':=fun a o e =>
 (x a o e).wR (fun b u _ q=>k b u q) (fun _ q=>q) fun _ _ q=>q
def kJ.laid(x:kJ P w H h)(k:∀b u,h.get? b=some u->h'.get? b=some u)(hp:h.objs.size<=a)(new:bP P w (upd H a o) h' a o):kJ P w (upd H a o) h':=fun b u e=>by
 have f:=x.fresh hp;by_cases d:b=a
 .subst d;rw[aP] at e;cases e;exact new
 .rw[aA d] at e;exact(x b u e).wR (fun c v _ q=>k c v q) (fun c q=>by rw[aA (bN q f)];exact q) fun c xs q=>by rw[aA (bN q f)];exact q
end
def Rd(H:Hp)(a:Addr)(u:HO):Prop:=H a=some u\/∃o,H a=some (.frz o u)
def Rd.ok{a:Addr}{u:HO}(r:Rd H a u)(x:kJ P w H h):bP P w H h a u:=by
 rcases r with r|⟨o,r⟩
 .exact x a u r
 .obtain⟨_,q⟩:=x a _ r;exact q
def NS:Option HO->Prop
 |some (.lst _)=>True
 |some (.dK _)=>True
 |some (.dT _)=>True
 |some (.dB _)=>True
 |some (.set _ _)=>True
 |some (.ins _ _ _)=>True
 |some (.ext _)=>True
 |_=>False
section
variable{P:Program}{w:World}{H:Hp}{h h':Heap}{x e:Addr}{o':HO}
def kJ.write(ok:kJ P w H h)(g:NS (H x))(he:e=x\/H e=some (.own x))(k:∀b u,b≠e->h.get? b=some u->h'.get? b=some u)(l:∃u,h'.get? e=some u)
  (new:bP P w (upd H x o') h' x o'):kJ P w (upd H x o') h':=fun b u q=>by
 have d:∀c y,H c=some (.own y)->c≠x:=fun c y r z=>by subst z;rw[r] at g;exact g
 have f:∀c xs,H c=some (.tup xs)->c≠x:=fun c xs r z=>by subst z;rw[r] at g;exact g
 by_cases i:b=x
 .subst i;rw[aP] at q;cases q;exact new
 .rw[aA i] at q;by_cases a:b=e
  .have m:H b=some (.own x):=by
    rcases he with z|z
    .exact absurd (a.trans z) i
    .rw[a];exact z
   rw[q] at m;cases m;obtain⟨v,n⟩:=l;exact⟨v,by rw[a];exact n⟩
  .refine(ok b u q).wR (fun c v j r=>k c v ?_ r) (fun c r=>by rw[aA (d c b r)];exact r) fun c xs r=>by rw[aA (f c xs r)];exact r
   rcases j with rfl|j
   .exact a
   .rintro rfl;rcases he with z|z
    .exact d c b j z
    .rw[j] at z;cases z;exact i rfl
end
structure Un(fs ex:List Addr)(H H':Hp)(h h':Heap):Prop where
 keep:∀b o,h.get? b=some o->H b=none->b∉fs->b∉ex->h'.get? b=some o
 slot:∀b o,h.get? b=some o->H b=none->b∈fs->b∉ex->∃sl,h'.get? b=some {o with slots:=sl}
 free:∀b o,h.get? b=some o->H b=none->b∉ex->H' b=none
 there:∀b o,h.get? b=some o->b∉ex->∃o',h'.get? b=some o'
 tups:∀b xs,H b=some (.tup xs)->H' b=some (.tup xs)
 frzs:∀b o u,H b=some (.frz o u)->H' b=some (.frz o u)
 tbls:∀b ps,H b=some (.tbl ps)->∃more,H' b=some (.tbl (ps++more))
section
variable{fs fs' ex ex':List Addr}{H H1 H2:Hp}{h h1 h2 h':Heap}{a x e:Addr}{o:HO}
def Un.any(u:Un fs ex H H1 h h1){b:Addr}{ob:Obj}(q:h.get? b=some ob)(n:H b=none)(a:b∉ex):∃sl,h1.get? b=some {ob with slots:=sl}:=by
 by_cases c:b∈fs
 .exact u.slot b ob q n c a
 .exact⟨ob.slots,u.keep b ob q n c a⟩
def Un.trans(a:Un fs ex H H1 h h1)(b:Un fs ex H1 H2 h1 h2):Un fs ex H H2 h h2 where
 keep:=fun c ob q n e d=>b.keep c ob (a.keep c ob q n e d) (a.free c ob q n d) e d
 slot:=fun c ob q n e d=>by
  obtain⟨sl,e1⟩:=a.slot c ob q n e d;obtain⟨f,e2⟩:=b.slot c _ e1 (a.free c ob q n d) e d;exact⟨f,e2⟩
 free:=fun c ob q n d=>by
  obtain⟨o',e1⟩:=a.there c ob q d;exact b.free c o' e1 (a.free c ob q n d) d
 there:=fun c ob q d=>by
  obtain⟨o',e1⟩:=a.there c ob q d;exact b.there c o' e1 d
 tups:=fun c xs q=>b.tups c xs (a.tups c xs q)
 frzs:=fun c ob xs q=>b.frzs c ob xs (a.frzs c ob xs q)
 tbls:=fun c ps q=>by
  obtain⟨m1,e1⟩:=a.tbls c ps q;obtain⟨m2,e2⟩:=b.tbls c _ e1;exact⟨m1++m2,by rw[e2,Array.append_assoc]⟩
def Un.kept(k:∀b u,h.get? b=some u->h'.get? b=some u):Un fs ex H H h h' :=
 ⟨fun b ob q _ _ _=>k b ob q,fun b ob q _ _ _=>⟨ob.slots,k b ob q⟩,fun _ _ _ n _=>n,fun b ob q _=>⟨ob,k b ob q⟩,fun _ _ q=>q,fun _ _ _ q=>q,fun _ ps q=>⟨#[],by rw[q];simp⟩⟩
def Un.refl:Un fs ex H H h h:=Un.kept fun _ _ q=>q
def Un.laid(k:∀b u,h.get? b=some u->h'.get? b=some u)(hp:h.objs.size<=a)(c:H a=none):Un fs ex H (upd H a o) h h' where
 keep:=fun b u q _ _ _=>k b u q
 slot:=fun b u q _ _ _=>⟨u.slots,k b u q⟩
 free:=fun b u q n _=>by rw[aA (V2 (VY (VF q) hp))];exact n
 there:=fun b u q _=>⟨u,k b u q⟩
 tups:=fun b xs q=>by rw[aA (bN q c)];exact q
 frzs:=fun b u xs q=>by rw[aA (bN q c)];exact q
 tbls:=fun b ps q=>⟨#[],by rw[aA (bN q c),q];simp⟩
def Un.write(c:NS (H x))(he:e=x\/H e=some (.own x))(k:∀b u,b≠e->h.get? b=some u->h'.get? b=some u)(f:∃u,h'.get? e=some u):Un fs ex H (upd H x o) h h':=by
 have i:∀b,H b=none->b≠x:=fun b n z=>by subst z;rw[n] at c;exact c
 have g:∀b,H b=none->b≠e:=fun b n z=>by
  subst z;rcases he with r|r
  .exact i b n r
  .rw[n] at r;cases r
 have d:∀b u,H b=some u->¬NS (some u)->b≠x:=fun b u q nm z=>by subst z;rw[q] at c;exact nm c
 refine⟨fun b u q n _ _=>k b u (g b n) q,fun b u q n _ _=>⟨u.slots,k b u (g b n) q⟩,fun b u q n _=>by rw[aA (i b n)];exact n,fun b u q _=>?_,
  fun b xs q=>by rw[aA (d b _ q fun z=>z)];exact q,fun b u xs q=>by rw[aA (d b _ q fun z=>z)];exact q,fun b ps q=>⟨#[],by rw[aA (d b _ q fun z=>z),q];simp⟩⟩
 by_cases a:b=e
 .subst a;exact f
 .exact⟨u,k b u a q⟩
end
def OR(h:Heap)(H:Hp):List Addr:=(List.range h.objs.size).filter fun a=>(H a).isSome
def vI(h:Heap)(H:Hp):Heap:=PySem.W.hideAll h (OR h H)
def BM(h:Heap)(H:Hp):(vI h H).objs.size=h.objs.size:=PySem.W.hideAll_size _ _
def El{b:Addr}{o:Obj}(e:h.get? b=some o)(n:H b=none):(vI h H).get? b=some o :=
 PySem.W.hideAll_get _ e fun a=>by
  have q:(H b).isSome=true:=(Wx.mp a).2;rw[n] at q;simp at q
def Ii{b:Addr}{o:Obj}(e:(vI h H).get? b=some o):h.get? b=some o/\H b=none:=by
 have a:h.get? b=some o:=PySem.W.of_hideAll (OR h H) e;refine⟨a,?_⟩;cases q:H b with
 |none=>rfl
 |some x =>
  have c:b∈OR h H:=Wx.mpr ⟨Wz.mpr (VF a),by simp[q]⟩;have z:(vI h H).get? b=none:=PySem.W.hideAll_none (OR h H) c;rw[z] at e;cases e
structure Mod(K:PySem.W.Frag)(mg:Str->Option Value)(base:Heap):Prop where
 kin:K.In base
 glob:base.Ns mainGlobals mg
 blt:∃mb,base.Ns builtinsNs mb/\∀x:Str,x≠"__name__"->mb x=bootBuiltins x
 nolimit:base.NoLimit
/-- the context: a def's body (or a comprehension's block) running. base: fixed through the whole law; s₀, H₀: the entry; outer: the frames whose slots others may change (a def's callers); stack: all frames that run;
   ex: iterators that were made ahead of the entry and are walked here (a comprehension's);fn: the names whose cells were made at the entry (a def: all;a comprehension's block: its own);calm: not within an except suite;pn: pins that every state bears;xe: what is wanted of an exception that leaves the code -/
structure Cx where
 prog:Program
 w:World
 K:PySem.W.Frag
 mg:Str->Option Value
 base:Heap
 A:Around
 N:List Str
 s₀:Shared
 H₀:Hp
 env:Env
 outer:List Env
 stack:List Env
 ex:List Addr
 fn:Str->Bool
 calm:Bool
 pn:List (Addr×Obj)
 xe:Value->Shared->Prop
variable{X:Cx}
def zY(l:List Env):List Addr:=l.filterMap (·.frame)
abbrev Cx.fs(X:Cx):List Addr:=zY X.outer
def Hh(a:Scope)(x:Str):Prop:=a.names.lookup x=some .local\/a.names.lookup x=some .cell\/a.names.lookup x=some .free
def Loc(a:Scope)(x:Str):Prop:=a.names.lookup x=some .local\/a.names.lookup x=some .cell
def Look(env:Env)(h:Heap)(m:Str->Option Value)(x:Str)(u:Value):Prop :=
 (env.kindOf x=some .local/\m x=some u)\/((env.kindOf x=some .cell\/env.kindOf x=some .free)/\∃c,env.cells.lookup x=some c/\h.IsCell c (some u))
structure Cx.Ok(X:Cx):Prop where
 mod:Mod X.K X.mg X.base
 kind:X.env.scope.kind=.function
 glob:X.env.globals=mainGlobals
 blt:X.env.builtins=builtinsNs
 above:X.s₀.heap.objs.size<=X.env.locals
 inj:∀x y c,X.env.cells.lookup x=some c->X.env.cells.lookup y=some c->x=y
 has:∀x,(X.env.kindOf x=some .cell\/X.env.kindOf x=some .free)->∃c,X.env.cells.lookup x=some c
 cab:∀x c,X.fn x=true->X.env.cells.lookup x=some c->X.s₀.heap.objs.size<=c
 hd:X.calm=true->X.A.handled=none
 frames:X.A.frames=some X.stack
 stk:X.stack=X.outer\/(X.stack=X.env::X.outer/\X.env.frame=some X.env.locals)
 exf:∀b∈X.ex,b≠X.env.locals/\∀x c,X.env.cells.lookup x=some c->c≠b
 bs:∀b o,X.base.get? b=some o->X.s₀.heap.get? b=some o/\X.H₀ b=none
 bsz:X.base.objs.size<=X.s₀.heap.objs.size
 noex:∀b o,X.base.get? b=some o->b∉X.ex
 exfs:∀b∈X.ex,b∉X.fs
 nQ:X.s₀.heap.FunFrames X.base X.outer
 frf:∀b∈X.fs,X.H₀ b=none
structure Inv(X:Cx)(pins:List (Addr×Obj))(σ:List (Option V))(H:Hp)(s:Shared):Prop where
 ok:X.Ok
 os:s.os=X.s₀.os
 bare:AllBare s.gens
 base:Un X.fs X.ex X.H₀ H X.s₀.heap s.heap
 loc:∃m,s.heap.Ns X.env.locals m/\∀(i:Nat) (x:Str) (v:V),X.N[i]?=some x->σ[i]?=some (some v)->Hh X.env.scope x->∃u,RelV v u/\Look X.env s.heap m x u
 cell:∀x c,X.env.cells.lookup x=some c->∃v,s.heap.IsCell c v
 free:H X.env.locals=none
 freeC:∀x c,X.env.cells.lookup x=some c->H c=none
 pin:∀p∈X.pn++pins,s.heap.get? p.1=some p.2/\H p.1=none/\p.1≠X.env.locals/\p.1∉X.fs/\∀v,p.2.data≠.cell v
 hok:kJ X.prog X.w H s.heap
 len:σ.length=X.N.length
section
variable{X:Cx}{pins:List (Addr×Obj)}{σ:List (Option V)}{H H':Hp}{s:Shared}{h':Heap}
def Cx.Ok.PN(ok:X.Ok){b:Addr}{o:Obj}(e:X.base.get? b=some o):b∉X.fs:=fun a=>by
 have:=(ok.nQ.mem a).1;rw[e] at this;cases this
theorem Inv.bs(I:Inv X pins σ H s):∀b o,X.base.get? b=some o->s.heap.get? b=some o/\H b=none:=fun b o e =>
 ⟨I.base.keep b o (I.ok.bs b o e).1 (I.ok.bs b o e).2 (I.ok.PN e) (I.ok.noex b o e),I.base.free b o (I.ok.bs b o e).1 (I.ok.bs b o e).2 (I.ok.noex b o e)⟩
def Inv.bk(I:Inv X pins σ H s):∀b o,X.base.get? b=some o->s.heap.get? b=some o:=fun b o e=>(I.bs b o e).1
theorem Inv.mod(I:Inv X pins σ H s):Mod X.K X.mg X.base:=I.ok.mod
def Inv.Mi(I:Inv X pins σ H s):X.K.In s.heap:=I.ok.mod.kin.keeps I.bk
theorem Inv.lt(I:Inv X pins σ H s):X.env.locals<s.heap.objs.size:=let ⟨_,hn,_⟩:=I.loc;hn.lt
def Inv.sz(I:Inv X pins σ H s):X.s₀.heap.objs.size<=s.heap.objs.size:=V7 I.ok.above (W4 I.lt)
def Inv.PL(I:Inv X pins σ H s){a:Addr}(h:s.heap.objs.size<=a):a∉X.fs:=fun c=>by
 obtain⟨_,o,b,_⟩:=I.ok.nQ.mem c;exact absurd (VY (VF b) (V7 I.sz h)) (X8 _)
def Inv.KN(I:Inv X pins σ H s):∀x c,X.env.cells.lookup x=some c->c≠X.env.locals:=fun x c e z=>by
 obtain⟨v,o,d,f⟩:=I.cell x c e;obtain⟨m,⟨o',es,ep,b,a,_⟩,_⟩:=I.loc;rw[z,b] at d;cases d;rw[a] at f;cases f
theorem Inv.nQ(I:Inv X pins σ H s):s.heap.FunFrames X.base X.outer:=by
 have all:∀(l:List Env),(∀b∈zY l,b∈X.fs)->X.s₀.heap.FunFrames X.base l->s.heap.FunFrames X.base l:=by
  intro l
  induction l with
  |nil=>intro _ _;trivial
  |cons env r i =>
   intro f n;obtain⟨j,⟨L,o,a,m,g,h⟩,k⟩:=n;have d:L∈X.fs:=f L (by unfold zY;rw[ZJ,a];exact VC);obtain⟨sl,e⟩:=I.base.slot L o g (I.ok.frf L d) d fun z=>I.ok.exfs L z d;exact⟨j,⟨L,_,a,m,e,h⟩,i (fun b c=>f b (by unfold zY;rw[ZJ,a];exact Vw _ c)) k⟩
 exact all X.outer (fun _ c=>c) I.ok.nQ
theorem Inv.stack(I:Inv X pins σ H s):s.heap.FunFrames X.base X.stack:=by
 rcases I.ok.stk with e|⟨e,a⟩
 .rw[e];exact I.nQ
 .rw[e];obtain⟨m,b,_⟩:=I.loc;refine .cons (by rw[I.ok.kind];decide) a b ?_ I.nQ;exact Heap.get?_none_of_le (V7 I.ok.bsz I.ok.above)
def Inv.vo(I:Inv X pins σ H s):∀b∈zY X.stack,b∈X.env.locals::X.fs:=fun b a=>by
 rcases I.ok.stk with e|⟨e,c⟩
 .rw[e] at a;exact Vw _ a
 .rw[e] at a;unfold zY at a;rw[ZJ,c] at a;exact a
def Inv.AH(I:Inv X pins σ H s):∀b∈zY X.stack,H b=none:=fun b a=>by
 rcases Vq.mp (I.vo b a) with e|a
 .rw[e];exact I.free
 .obtain⟨_,o,c,_⟩:=I.ok.nQ.mem a;exact I.base.free b o c (I.ok.frf b a) fun z=>I.ok.exfs b z a
def Inv.step{g':Array GenState}{d':Drawn}(I:Inv X pins σ H s)
  (f:∀b∈ch,(b∈X.ex\/X.s₀.heap.objs.size<=b)/\b≠X.env.locals/\(∀x c,X.env.cells.lookup x=some c->c≠b)/\∀p∈X.pn++pins,p.1≠b)
  (keep:∀b o,b≠X.env.locals->b∉X.fs->b∉ch->s.heap.get? b=some o->H b=none->h'.get? b=some o)
  (slot:∀b o,b≠X.env.locals->b∈X.fs->b∉ch->s.heap.get? b=some o->H b=none->∃sl,h'.get? b=some {o with slots:=sl}) (free:∀b o,b∉ch->s.heap.get? b=some o->H b=none->H' b=none)
  (there:∀b o,b∉ch->s.heap.get? b=some o->∃o',h'.get? b=some o')
  (y:∀b xs,H b=some (.tup xs)->H' b=some (.tup xs)) (A:∀b o u,H b=some (.frz o u)->H' b=some (.frz o u)) (B:∀b ps,H b=some (.tbl ps)->∃more,H' b=some (.tbl (ps++more)))
  (ns:∀m,s.heap.Ns X.env.locals m->h'.Ns X.env.locals m) (D:kJ X.prog X.w H' h') (K:AllBare g'):
  Inv X pins σ H' {s with heap:=h',gens:=g',drawn:=d',toks:=t'}:=by
 have C:∀b o,X.s₀.heap.get? b=some o->b≠X.env.locals:=fun b o e=>V2 (VY (VF e) I.ok.above)
 have h:∀b o,X.s₀.heap.get? b=some o->b∉X.ex->b∉ch:=fun b o e a j=>by
  rcases(f b j).1 with z|z
  .exact a z
  .exact absurd (VY (VF e) z) (X8 _)
 have cellK:∀x c,X.env.cells.lookup x=some c->∀v,s.heap.IsCell c v->h'.IsCell c v:=fun x c e v ⟨o,t,F⟩=>by
  have g:c∉ch:=fun z=>(f c z).2.2.1 x c e rfl;by_cases G:c∈X.fs
  .obtain⟨sl,q⟩:=slot c o (I.KN x c e) G g t (I.freeC x c e);exact⟨_,q,F⟩
  .exact⟨o,keep c o (I.KN x c e) G g t (I.freeC x c e),F⟩
 refine⟨I.ok,I.os,K,⟨fun b o e n j a=>?_,fun b o e n j a=>?_,fun b o e n a=>?_,fun b o e a=>?_,fun b xs e=>y b xs (I.base.tups b xs e),fun b o xs e=>A b o xs (I.base.frzs b o xs e),fun b ps e=>?_⟩,?_,fun x c e=>?_,?_,fun x c e=>?_,fun p hp=>?_,D,I.len⟩
 .exact keep b o (C b o e) j (h b o e a) (I.base.keep b o e n j a) (I.base.free b o e n a)
 .obtain⟨sl,e1⟩:=I.base.slot b o e n j a;obtain⟨E,e2⟩:=slot b _ (C b o e) j (h b o e a) e1 (I.base.free b o e n a);exact⟨E,e2⟩
 .obtain⟨o',e1⟩:=I.base.there b o e a;exact free b o' (h b o e a) e1 (I.base.free b o e n a)
 .obtain⟨o',e1⟩:=I.base.there b o e a;exact there b o' (h b o e a) e1
 .obtain⟨m1,e1⟩:=I.base.tbls b ps e;obtain⟨m2,e2⟩:=B b _ e1;exact⟨m1++m2,by rw[e2,Array.append_assoc]⟩
 .obtain⟨m,M,L⟩:=I.loc;refine⟨m,ns m M,fun i x v e1 e2 e3=>?_⟩;obtain⟨u,r,l⟩:=L i x v e1 e2 e3;refine⟨u,r,?_⟩;rcases l with l|⟨k,c,e,z⟩
  .exact .inl l
  .exact .inr ⟨k,c,e,cellK x c e _ z⟩
 .obtain⟨v,z⟩:=I.cell x c e;exact⟨v,cellK x c e v z⟩
 .obtain⟨m,⟨o,_,_,t,_⟩,_⟩:=I.loc;exact free _ o (fun z=>(f _ z).2.1 rfl) t I.free
 .obtain⟨v,o,t,F⟩:=I.cell x c e;exact free c o (fun z=>(f c z).2.2.1 x c e rfl) t (I.freeC x c e)
 .obtain⟨e,n,ne,J,d⟩:=I.pin p hp;have g:p.1∉ch:=fun z=>(f p.1 z).2.2.2 p hp rfl;exact⟨keep p.1 p.2 ne J g e n,free p.1 p.2 g e n,ne,J,d⟩
def Inv.un(I:Inv X pins σ H s)(u:Un X.fs [] H H' s.heap h')(d:kJ X.prog X.w H' h'):Inv X pins σ H' {s with heap:=h',toks:=t'}:=by
 obtain⟨m,⟨o,es,ep,h,r⟩,_⟩:=id I.loc;obtain⟨sl,k⟩:=u.any h I.free (by simp)
 exact I.step (g':=s.gens) (d':=s.drawn) (ch:=[]) (fun _ z=>nomatch z) (fun b o _ f _ e n=>u.keep b o e n f (by simp)) (fun b o _ f _ e n=>u.slot b o e n f (by simp)) (fun b o _ e n=>u.free b o e n (by simp)) (fun b o _ e=>u.there b o e (by simp)) u.tups u.frzs u.tbls (fun l i=>by
  obtain⟨o',c,g,a,j⟩:=i;rw[h] at a;cases a
  exact⟨_,c,g,k,j⟩) d I.bare
def Inv.call{g':Array GenState}{d':Drawn}(I:Inv X pins σ H s)(u:Un (zY X.stack) ch H H' s.heap h')(g:kJ X.prog X.w H' h')(q:AllBare g')
  (d:∀b∈ch,(b∈X.ex\/X.s₀.heap.objs.size<=b)/\b≠X.env.locals/\(∀x c,X.env.cells.lookup x=some c->c≠b)/\∀p∈X.pn++pins,p.1≠b):
  Inv X pins σ H' {s with heap:=h',gens:=g',drawn:=d',toks:=t'}:=by
 obtain⟨m,⟨o,es,ep,k,r⟩,_⟩:=id I.loc;obtain⟨sl,h⟩:=u.any k I.free fun z=>(d _ z).2.1 rfl
 exact I.step (ch:=ch) d (fun b o h v a e n=>u.keep b o e n (fun z=>(Vq.mp (I.vo b z)).elim h v) a) (fun b o _ _ a e n=>u.any e n a) (fun b o a e n=>u.free b o e n a) (fun b o a e=>u.there b o e a) u.tups u.frzs u.tbls (fun y l=>by
  obtain⟨o',i,j,f,t⟩:=l;rw[k] at f;cases f
  exact⟨_,i,j,h,t⟩) g q
def Inv.turned{it:Addr}(I:Inv X pins σ H s)(k:∀b o,b≠it->s.heap.get? b=some o->h'.get? b=some o)(j:H it=none)(f:it≠X.env.locals)
  (h1:it∈X.ex\/X.s₀.heap.objs.size<=it) (h2:∀x c,X.env.cells.lookup x=some c->c≠it) (l:∀p∈X.pn++pins,p.1≠it):Inv X pins σ H {s with heap:=h',toks:=t'}:=by
 have d:∀b u,H b=some u->b≠it:=fun b u e z=>by rw[z,j] at e;cases e
 refine I.step (g':=s.gens) (d':=s.drawn) (ch:=[it]) (fun b h=>?_) (fun b o _ _ a e _=>k b o (fun z=>a (by simp[z])) e) (fun b o _ _ a e _=>⟨o.slots,k b o (fun z=>a (by simp[z])) e⟩) (fun _ _ _ _ n=>n)
  (fun b o a e=>⟨o,k b o (fun z=>a (by simp[z])) e⟩) (fun _ _ e=>e) (fun _ _ _ e=>e) (fun b ps e=>⟨#[],by rw[e];simp⟩) (fun m i=>?_) (fun b u e=>?_) I.bare
 .have e:b=it:=by simpa using h
  subst e;exact⟨h1,f,h2,l⟩
 .obtain⟨o,es,ep,g,r⟩:=i;exact⟨o,es,ep,k _ o (Yi f) g,r⟩
 .refine(I.hok b u e).wR (fun c v a q=>k c v ?_ q) (fun _ q=>q) fun _ _ q=>q;rcases a with z|z
  .rw[z];exact d b u e
  .exact d c _ z
def Inv.tok(I:Inv X pins σ H s)(t:Nat):Inv X pins σ H {s with toks:=t}:=I.un (h':=s.heap) (t':=t) Un.refl I.hok
theorem Inv.kept{t':Nat}(I:Inv X pins σ H s)(k:∀b u,s.heap.get? b=some u->h'.get? b=some u):Inv X pins σ H {s with heap:=h',toks:=t'}:=I.un (Un.kept k) (I.hok.kept k)
theorem Inv.laid{a:Addr}{o:HO}{t':Nat}(I:Inv X pins σ H s)(k:∀b u,s.heap.get? b=some u->h'.get? b=some u)(hp:s.heap.objs.size<=a)(new:bP X.prog X.w (upd H a o) h' a o):
  Inv X pins σ (upd H a o) {s with heap:=h',toks:=t'}:=I.un (Un.laid k hp (I.hok.fresh hp)) (I.hok.laid k hp new)
theorem Inv.write{x e:Addr}{o:HO}{t':Nat}(I:Inv X pins σ H s)(c:NS (H x))(he:e=x\/H e=some (.own x))(k:∀b u,b≠e->s.heap.get? b=some u->h'.get? b=some u)(a:∃u,h'.get? e=some u)
  (new:bP X.prog X.w (upd H x o) h' x o):Inv X pins σ (upd H x o) {s with heap:=h',toks:=t'}:=I.un (Un.write c he k a) (I.hok.write c he k a new)
def Inv.weak{σ':List (Option V)}(I:Inv X pins σ H s)(a:σ'.length=σ.length)(w:∀(i:Nat) v,σ'[i]?=some (some v)->σ[i]?=some (some v)):Inv X pins σ' H s :=
 ⟨I.ok,I.os,I.bare,I.base,let ⟨m,hn,hl'⟩:=I.loc;⟨m,hn,fun i x v e1 e2 e3=>hl' i x v e1 (w i v e2) e3⟩,I.cell,I.free,I.freeC,I.pin,I.hok,a.trans I.len⟩
def Inv.mO{a:List (Addr×Obj)}(I:Inv X pins σ H s)(h:∀p∈a,s.heap.get? p.1=some p.2/\H p.1=none/\p.1≠X.env.locals/\p.1∉X.fs/\∀v,p.2.data≠.cell v):Inv X a σ H s :=
 ⟨I.ok,I.os,I.bare,I.base,I.loc,I.cell,I.free,I.freeC,fun p hp=>(Wk.mp hp).elim (fun z=>I.pin p (WU _ z)) (h p),I.hok,I.len⟩
def xl{N:List Str}(c:N.Nodup){j:Nat}(a:N[i]?=some x)(b:N[j]?=some x):i=j:=by
 obtain⟨h1,e1⟩:=VE.mp a;obtain⟨h2,e2⟩:=VE.mp b;exact(List.getElem_inj c).mp (e1.trans e2.symm)
def BE{E:Value->Shared->Prop}{Q:Unit->Shared->Prop}(I:Inv X pins σ H s)(hN:X.N.Nodup)(hi:X.N[i]?=some x)(l:Loc X.env.scope x)(r:RelV v u)
  (h:∀s',Inv X pins (σ.set i (some v)) H s'->(∃a,Heap.SameBut a s.heap s'.heap/\(a=X.env.locals\/X.env.cells.lookup x=some a))->Q () s') (hf:X.fn x=true\/X.env.scope.names.lookup x=some .local:=by first|exact .inl rfl|exact .inr rfl|assumption):wpAny M A (storeName X.env x u) Q E s:=by
 obtain⟨m,Z,hl⟩:=id I.loc;have P:(X.env.scope.kind==.class || (X.env.scope.kind==.module&&X.env.locals != X.env.globals))=false:=by rw[I.ok.kind];rfl
 have O:i<σ.length:=by rw[I.len];exact(VE.mp hi).1
 have KN:=I.KN
 have tracked:∀{a:Addr} {h':Heap},(∃o,s.heap.get? a=some o/\H a=none)->Heap.SameBut a s.heap h'->kJ X.prog X.w H h':=fun {a h'} ha f b ob e=>by
  obtain⟨_,_,t⟩:=ha;refine(I.hok b ob e).wR (fun c R g q=>(f.2 c ?_).trans q) (fun _ q=>q) fun _ _ q=>q;rintro rfl;rcases g with rfl|g
  .rw[t] at e;cases e
  .rw[t] at g;cases g
 rcases l with B|B
 .refine wpAny_storeName_local B Z (fun h' Y f=>?_) P;obtain⟨oL,_,_,U,_⟩:=id Z;refine h _ ⟨I.ok,I.os,I.bare,⟨fun b o e n C l=>?_,fun b o e n C l=>?_,I.base.free,fun b o e l=>?_,I.base.tups,I.base.frzs,I.base.tbls⟩,⟨_,Y,fun j y V e1 e2 e3=>?_⟩,fun y c e=>?_,I.free,I.freeC,fun p hp=>?_,tracked ⟨oL,U,I.free⟩ f,by simpa using I.len⟩ ⟨_,f,.inl rfl⟩
  .exact(f.2 b (V2 (VY (VF e) I.ok.above))).trans (I.base.keep b o e n C l)
  .obtain⟨sl,e1⟩:=I.base.slot b o e n C l;exact⟨sl,(f.2 b (V2 (VY (VF e) I.ok.above))).trans e1⟩
  .obtain⟨o',e1⟩:=I.base.there b o e l;exact⟨o',(f.2 b (V2 (VY (VF e) I.ok.above))).trans e1⟩
  .by_cases F:j=i
   .subst F;rw[hi] at e1;cases e1;rw[YA O] at e2;cases e2;exact⟨u,r,.inl ⟨B,by simp⟩⟩
   .rw[Zu (Yi F)] at e2;obtain⟨S,T,q⟩:=hl j y V e1 e2 e3;refine⟨S,T,?_⟩;rcases q with⟨k,e⟩|⟨k,c,e,z⟩
    .refine .inl ⟨k,?_⟩;have:y≠x:=fun e=>F (xl hN e1 (e▸hi));simp[this,e]
    .exact .inr ⟨k,c,e,z.sameBut f (KN y c e)⟩
  .obtain⟨R,z⟩:=I.cell y c e;exact⟨R,z.sameBut f (KN y c e)⟩
  .obtain⟨e,n,ne,W,d⟩:=I.pin p hp;exact⟨(f.2 p.1 ne).trans e,n,ne,W,d⟩
 .have D:X.fn x=true:=by
   rcases hf with z|z
   .exact z
   .rw[z] at B;cases B
  obtain⟨c,g⟩:=I.ok.has x (.inl B);obtain⟨R,z⟩:=I.cell x c g;refine wpAny_storeName_cell I.ok.kind B g z (fun h' L f=>?_);obtain⟨oc,J,G⟩:=id z;refine h {s with heap:=h'} ⟨I.ok,I.os,I.bare,⟨fun b o e n C l=>?_,fun b o e n C l=>?_,I.base.free,fun b o e l=>?_,I.base.tups,I.base.frzs,I.base.tbls⟩,⟨m,Z.sameBut f (Yi (KN x c g)),fun j y V e1 e2 e3=>?_⟩,fun y c' e=>?_,I.free,I.freeC,fun p hp=>?_,tracked ⟨oc,J,I.freeC x c g⟩ f,by simpa using I.len⟩ ⟨c,f,.inr g⟩
  .exact(f.2 b (V2 (VY (VF e) (I.ok.cab x c D g)))).trans (I.base.keep b o e n C l)
  .obtain⟨sl,e1⟩:=I.base.slot b o e n C l;exact⟨sl,(f.2 b (V2 (VY (VF e) (I.ok.cab x c D g)))).trans e1⟩
  .obtain⟨o',e1⟩:=I.base.there b o e l;exact⟨o',(f.2 b (V2 (VY (VF e) (I.ok.cab x c D g)))).trans e1⟩
  .by_cases F:j=i
   .subst F;rw[hi] at e1;cases e1;rw[YA O] at e2;cases e2;exact⟨u,r,.inr ⟨.inl B,c,g,L⟩⟩
   .rw[Zu (Yi F)] at e2;obtain⟨S,T,q⟩:=hl j y V e1 e2 e3;refine⟨S,T,?_⟩;rcases q with q|⟨k,c',e,z'⟩
    .exact .inl q
    .refine .inr ⟨k,c',e,z'.sameBut f ?_⟩;rintro rfl;exact F (xl hN e1 (I.ok.inj _ _ _ e g▸hi))
  .by_cases K:c'=c
   .subst K;exact⟨_,L⟩
   .obtain⟨w2,z2⟩:=I.cell y c' e;exact⟨w2,z2.sameBut f K⟩
  .obtain⟨e,n,ne,W,d⟩:=I.pin p hp;refine⟨(f.2 p.1 ?_).trans e,n,ne,W,d⟩;intro q;rw[q,J] at e;have q':oc=p.2:=VP e;exact d R (by rw[<-q'];exact G)
def xO{E:Value->Shared->Prop}{Q:Unit->Shared->Prop}(I:Inv X pins σ H s)(a:X.N.Nodup)(hi:X.N[i]?=some x)(b:Loc X.env.scope x)(r:RelV v u)
  (h:∀s',Inv X pins (σ.set i (some v)) H s'->Q () s') (c:X.fn x=true\/X.env.scope.names.lookup x=some .local:=by first|exact .inl rfl|exact .inr rfl|assumption):wpAny M A (storeName X.env x u) Q E s :=
 BE I a hi b r (fun s' d _=>h s' d) c
def Inv.Od{s':Shared}(I:Inv X pins σ H s)(f:s'.os=s.os)(u:Un (zY X.stack) ch H H' s.heap s'.heap)(d:kJ X.prog X.w H' s'.heap)(g:AllBare s'.gens)
  (a:∀b∈ch,(b∈X.ex\/X.s₀.heap.objs.size<=b)/\b≠X.env.locals/\(∀x c,X.env.cells.lookup x=some c->c≠b)/\∀p∈X.pn++pins,p.1≠b):Inv X pins σ H' s':=by
 obtain⟨h',g',d',t',o'⟩:=s';have e:o'=s.os:=f;subst e;exact I.call (g':=g') (t':=t') (d':=d') u d g a
end
abbrev XK:=Value->Option Addr->Hp->Prop
abbrev St:=List (Option V)
variable{σ:St}
abbrev VK:=V->Hp->Prop
variable{Q:VK}
abbrev TE:=St->Hp->VK->Prop
abbrev TT:=St->Hp->(Bool->Hp->Prop)->Prop
abbrev TA:=St->Hp->(List V->Hp->Prop)->Prop
structure Ends where
 nx:St->Hp->Prop
 rt:VK
 bk:St->Hp->Prop:=fun _ _=>False
 ct:St->Hp->Prop:=fun _ _=>False
abbrev TS:=Ends->St->Hp->Prop
variable{tb:TS}
def EP(X:Cx)(pins:List (Addr×Obj))(σ:St)(Q:VK)(u:Value)(s':Shared):Prop:=∃v H',Inv X pins σ H' s'/\RelV v u/\Q v H'
def TP(X:Cx)(pins:List (Addr×Obj))(σ:St)(Q:Bool->Hp->Prop)(b:Bool)(s':Shared):Prop:=∃H',Inv X pins σ H' s'/\Q b H'
def AP(X:Cx)(pins:List (Addr×Obj))(σ:St)(Q:List V->Hp->Prop)(us:List Value)(s':Shared):Prop:=∃vs H',Inv X pins σ H' s'/\Vals vs us/\Q vs H'
def SP(X:Cx)(pins:List (Addr×Obj))(D:Ends)(f:Flow)(s':Shared):Prop :=
 match f with
 |.next=>∃σ' H',Inv X pins σ' H' s'/\D.nx σ' H'
 |.brk=>∃σ' H',Inv X pins σ' H' s'/\D.bk σ' H'
 |.cont=>∃σ' H',Inv X pins σ' H' s'/\D.ct σ' H'
 |.ret u=>∃v σ' H',Inv X pins σ' H' s'/\RelV v u/\D.rt v H'
def PE(X:Cx)(e:Expr)(t:TE):Prop :=
 ∀(pins:List (Addr×Obj)) (s:Shared) (σ:St) (H:Hp) (Q:VK),Inv X pins σ H s->t σ H Q->wpAny (model X.prog X.w) X.A (eval e X.env) (EP X pins σ Q) X.xe s
def PT(X:Cx)(e:Expr)(t:TT):Prop :=
 ∀(pins:List (Addr×Obj)) (s:Shared) (σ:St) (H:Hp) (Q:Bool->Hp->Prop),Inv X pins σ H s->t σ H Q->wpAny (model X.prog X.w) X.A (isTrue e X.env (eval e X.env)) (TP X pins σ Q) X.xe s
def PW(X:Cx)(e:Expr)(t:TT):Prop :=
 ∀(whole:Sem Value) (pins:List (Addr×Obj)) (s:Shared) (σ:St) (H:Hp) (Q:Bool->Hp->Prop),Inv X pins σ H s->t σ H Q->wpAny (model X.prog X.w) X.A (isTrue e X.env whole) (TP X pins σ Q) X.xe s
def PW.pt{t:TT}(h:PW X e t):PT X e t:=h _
def PA(X:Cx)(es:List Expr)(t:TA):Prop :=
 ∀(pos:Pos) (pins:List (Addr×Obj)) (s:Shared) (σ:St) (H:Hp) (Q:List V->Hp->Prop),Inv X pins σ H s->t σ H Q->wpAny (model X.prog X.w) X.A (spliced (backTo pos (starEach es X.env))) (AP X pins σ Q) X.xe s
def PS(X:Cx)(st:Stmt)(t:TS):Prop :=
 ∀(pins:List (Addr×Obj)) (s:Shared) (σ:St) (H:Hp) (D:Ends),Inv X pins σ H s->t D σ H->wpAny (model X.prog X.w) X.A (exec st X.env) (SP X pins D) X.xe s
def p4(X:Cx)(st:List Stmt)(t:TS):Prop :=
 ∀(pins:List (Addr×Obj)) (s:Shared) (σ:St) (H:Hp) (D:Ends),Inv X pins σ H s->t D σ H->wpAny (model X.prog X.w) X.A (execs st X.env) (SP X pins D) X.xe s
def b8{α:Type}{t:Sem α}{Q b:α->Shared->Prop}{E:Value->Shared->Prop}(h:wpAny M A t Q E s)(c:∀a s,Q a s->b a s):wpAny M A t b E s:=XF h c fun _ _ x=>x
section
variable{X:Cx}
def Na(i:Nat):TE:=fun σ H Q=>∃v,σ[i]?=some (some v)/\Q v H
def tC(v:V):TE:=fun _ H Q=>Q v H
def Kd(n:X.N[i]?=some x)(j:Hh X.env.scope x)(d:(x==("__debug__":Str))=false:=by decide)(f:(x==("__classdict__":Str))=false:=by decide):PE X (.Name x pos) (Na i):=by
 intro pins s σ H Q I h;obtain⟨v,e,h⟩:=h;obtain⟨m,o,p⟩:=I.loc;obtain⟨u,r,l⟩:=p i x v n e j;have fin:EP X pins σ Q u s:=⟨v,H,I,r,h⟩;rcases l with⟨b,k⟩|⟨b,c,g,a⟩
 .exact wpAny_Name (wpAny_loadName_local I.ok.kind b o k fin) d
 .rcases b with b|b
  .exact wpAny_Name (wpAny_loadName_cell I.ok.kind b g a fin) d
  .exact wpAny_Name (wpAny_loadName_free I.ok.kind b g a fin f) d
def LJ{i j pos}:PE X (.Constant (.int i) j pos) (tC (.int i)):=fun _ _ _ H _ I h=>wpAny_Constant_int ⟨.int i,H,I.tok _,⟨_,rfl⟩,h⟩
def Nu{b j pos}:PE X (.Constant (.bool b) j pos) (tC (.bl b)):=fun _ _ _ H _ I h=>Constant_bool ⟨.bl b,H,I,rfl,h⟩
def K9{j pos}:PE X (.Constant .none j pos) (tC .non):=fun _ _ _ H _ I h=>Constant_none ⟨.non,H,I,rfl,h⟩
def Gl(X:Cx)(x:Str):Prop:=X.env.kindOf x=some .globalImplicit
def vR{E:Value->Shared->Prop}{Q:Value->Shared->Prop}(I:Inv X pins σ H s)(a:Gl X x)(b:X.mg x=some u)(h:Q u s)
  (c:(x==("__debug__":Str))=false:=by decide):wpAny (model X.prog X.w) X.A (eval (.Name x pos) X.env) Q E s :=
 ZV I.ok.kind a (Calls.loadGlobal_global (by rw[I.ok.glob];exact I.mod.glob.keeps I.bk) b h) c
def hV{E:Value->Shared->Prop}{Q:Value->Shared->Prop}(I:Inv X pins σ H s)(a:Gl X x)(e:X.mg x=none)(d:bootBuiltins x=some u)(h:Q u s)
  (b:x≠"__name__":=by decide) (c:(x==("__debug__":Str))=false:=by decide):wpAny (model X.prog X.w) X.A (eval (.Name x pos) X.env) Q E s:=by
 obtain⟨f,h1,h2⟩:=I.mod.blt;exact ZV I.ok.kind a (Calls.loadGlobal_builtin (by rw[I.ok.glob];exact I.mod.glob.keeps I.bk) e (by rw[I.ok.blt];exact h1.keeps I.bk) ((h2 x b).trans d) h) c
def Af(a:Gl X x)(c:X.mg x=some u)(r:RelV v u)(b:(x==("__debug__":Str))=false:=by decide):PE X (.Name x pos) (tC v) :=
 fun _ _ _ H _ I h=>vR I a c ⟨v,H,I,r,h⟩ b
def IC(a:Gl X x)(e:X.mg x=none)(d:bootBuiltins x=some u)(r:RelV v u)(b:x≠"__name__":=by decide)(c:(x==("__debug__":Str))=false:=by decide):PE X (.Name x pos) (tC v) :=
 fun _ _ _ H _ I h=>hV I a e d ⟨v,H,I,r,h⟩ b c
variable{a b:Expr}{ta tb:TE}{pos:Pos}
def PC(X:Cx)(op:CmpOp)(a b:Expr)(t:TE):Prop :=
 ∀(pins:List (Addr×Obj)) (s:Shared) (σ:St) (H:Hp) (Q:VK),Inv X pins σ H s->t σ H Q ->
  wpAny (model X.prog X.w) X.A (eval a X.env) (fun v c=>wpAny (model X.prog X.w) X.A (eval b X.env) (fun u d=>wpAny (model X.prog X.w) X.A (compareOp op v u) (EP X pins σ Q) X.xe d) X.xe c) X.xe s
def xG(b:Expr)(h:op≠.In)(h2:op≠.NotIn):behindInMarks op b=false:=by
 have e1:(op==CmpOp.In)=false:=by cases op<;>first|rfl|exact absurd rfl h
 have e2:(op==CmpOp.NotIn)=false:=by cases op<;>first|rfl|exact absurd rfl h2
 cases b<;>simp[behindInMarks,e1,e2]
def PQ(ta:TE):TE:=fun σ H Q=>ta σ H fun x H1=>Q (.bl (decide (x=.non))) H1
def NH(ta:TE):TE:=fun σ H Q=>ta σ H fun x H1=>Q (.bl (!decide (x=.non))) H1
def RelV.xo{x:V}{v:Value}(r:RelV x v):(v==Value.none)=decide (x=.non):=by
 cases x with
 |non=>cases r;rfl
 |bl _=>cases r;rfl
 |int _=>obtain⟨t,rfl⟩:=r;rfl
 |str _=>obtain⟨t,rfl⟩:=r;rfl
 |byt _=>obtain⟨t,rfl⟩:=r;rfl
 |flt _=>obtain⟨t,rfl⟩:=r;rfl
 |ref _=>cases r;rfl
 |ty _=>cases r;rfl
def EC{j pos'}(ha:PE X a ta):PC X .Is a (.Constant .none j pos') (PQ ta):=by
 intro pins s σ H Q I h;refine b8 (ha pins s σ H _ I h) fun v d ⟨x,H1,c,b,q1⟩=>?_;exact Constant_none (is_none_gen ⟨.bl _,H1,c,by rw[b.xo];rfl,q1⟩)
def Ad{j pos'}(ha:PE X a ta):PC X .IsNot a (.Constant .none j pos') (NH ta):=by
 intro pins s σ H Q I h;refine b8 (ha pins s σ H _ I h) fun v d ⟨x,H1,c,b,q1⟩=>?_;exact Constant_none (isnot_none_gen ⟨.bl _,H1,c,by rw[b.xo];rfl,q1⟩)
def tB(t:TE):TT:=fun σ H Q=>t σ H fun x H1=>∃c,x=.bl c/\Q c H1
def D4{t:TE}(h:PC X op a b t)(h1:behindInMarks op b=false:=by first|exact xG _ (by decide) (by decide)|rfl):PE X (.Compare a [op] [b] pos) t:=fun pins s σ H Q I c=>wpAny_Compare1 (h pins s σ H Q I c) h1
def Ey{t:TE}(h:PC X op a b t)(h1:behindInMarks op b=false:=by first|exact xG _ (by decide) (by decide)|rfl):PT X (.Compare a [op] [b] pos) (tB t):=by
 intro pins s σ H Q I e;refine wpAny_isTrue_Compare1 (b8 (h pins s σ H _ I e) fun v k h1=>b8 h1 fun u i h2=>b8 h2 fun c j ⟨x,H1,g,f,q1⟩=>?_) h1;obtain⟨d,rfl,q⟩:=q1;cases f;exact WZ ⟨H1,g,q⟩
def KG{t:TE}(h:PE X e t)(he:∀whole,isTrue e X.env whole=(do let v <-whole;standAt e.pos;holding [v] (truthy v)):=by intro _;rfl):PT X e (tB t):=by
 intro pins s σ H Q I a;refine isTrue_plain (b8 (h pins s σ H _ I a) fun v f ⟨x,H1,c,b,q1⟩=>?_) (he _);obtain⟨d,rfl,q⟩:=q1;cases b;exact WZ ⟨H1,c,q⟩
variable{tA tB':TT}{rest:List Expr}
def Qh(t u:TT):TT:=fun σ H Q=>t σ H fun c H1=>if c=true then u σ H1 Q else Q false H1
def Rf(t u:TT):TT:=fun σ H Q=>t σ H fun c H1=>if c=true then Q true H1 else u σ H1 Q
def Pc(t:TT):TT:=fun σ H Q=>t σ H fun c H1=>Q (!c) H1
def HF(ha:PT X a tA):PW X (.BoolOp .And [a] pos) tA:=by
 intro b pins s σ H Q I h;refine isTrue_and (b8 (ha pins s σ H Q I h) fun c d e=>?_);cases c with
 |true=>exact isTrue_and_nil e
 |false=>exact e
def Lq(ha:PT X a tA):PW X (.BoolOp .Or [a] pos) tA:=by
 intro b pins s σ H Q I h;refine isTrue_or (b8 (ha pins s σ H Q I h) fun c d e=>?_);cases c with
 |false=>exact isTrue_or_nil e
 |true=>exact e
def FD(ha:PT X a tA)(f:PW X (.BoolOp .And (b::rest) pos) tB'):PW X (.BoolOp .And (a::b::rest) pos) (Qh tA tB'):=by
 intro e pins s σ H Q I h;refine isTrue_and (b8 (ha pins s σ H _ I h) fun c g ⟨H1,d,q1⟩=>?_);cases c with
 |true=>exact f e pins g σ H1 Q d q1
 |false=>exact⟨H1,d,q1⟩
def Jo(ha:PT X a tA)(f:PW X (.BoolOp .Or (b::rest) pos) tB'):PW X (.BoolOp .Or (a::b::rest) pos) (Rf tA tB'):=by
 intro e pins s σ H Q I h;refine isTrue_or (b8 (ha pins s σ H _ I h) fun c g ⟨H1,d,q1⟩=>?_);cases c with
 |true=>exact⟨H1,d,q1⟩
 |false=>exact f e pins g σ H1 Q d q1
def JY(ha:PT X a tA):PT X (.UnaryOp .Not a pos) (Pc tA):=by
 intro pins s σ H Q I h;exact isTrue_not (ha pins s σ H (fun c H1=>Q (!c) H1) I h)
def N_(ta tb:TE):TE:=fun σ H Q=>ta σ H fun x H1=>∃c,x=.bl c/\if c=true then tb σ H1 Q else Q (.bl false) H1
def Pr(ta tb:TE):TE:=fun σ H Q=>ta σ H fun x H1=>∃c,x=.bl c/\if c=true then Q (.bl true) H1 else tb σ H1 Q
def OF(ta:TE):TE:=fun σ H Q=>ta σ H fun x H1=>∃c,x=.bl c/\Q (.bl (!c)) H1
def LL{op}{t:TE}(h:PE X a t):PE X (.BoolOp op [a] pos) t:=fun pins s σ H Q I b=>BoolOp_one (h pins s σ H Q I b)
def EG(ha:PE X a ta)(e:PE X (.BoolOp .And (b::rest) pos) tb):PE X (.BoolOp .And (a::b::rest) pos) (N_ ta tb):=by
 intro pins s σ H Q I h;refine BoolOp_and (b8 (ha pins s σ H _ I h) fun v g ⟨x,H1,d,f,q1⟩=>?_);obtain⟨c,rfl,q1⟩:=q1;cases f;refine WZ ?_;cases c with
 |true=>exact e pins g σ H1 Q d q1
 |false=>exact⟨.bl false,H1,d,rfl,q1⟩
def IX(ha:PE X a ta)(e:PE X (.BoolOp .Or (b::rest) pos) tb):PE X (.BoolOp .Or (a::b::rest) pos) (Pr ta tb):=by
 intro pins s σ H Q I h;refine BoolOp_or (b8 (ha pins s σ H _ I h) fun v g ⟨x,H1,d,f,q1⟩=>?_);obtain⟨c,rfl,q1⟩:=q1;cases f;refine WZ ?_;cases c with
 |false=>exact e pins g σ H1 Q d q1
 |true=>exact⟨.bl true,H1,d,rfl,q1⟩
def Ly(ha:PE X a ta):PE X (.UnaryOp .Not a pos) (OF ta):=by
 intro pins s σ H Q I h;refine UnaryOp_ (b8 (ha pins s σ H _ I h) fun v e ⟨x,H1,d,b,q1⟩=>?_);obtain⟨c,rfl,q1⟩:=q1;cases b;exact not_of (WZ ⟨.bl (!c),H1,d,rfl,q1⟩)
def QS(t:TT)(ta tb:TE):TE:=fun σ H Q=>t σ H fun c H1=>if c=true then ta σ H1 Q else tb σ H1 Q
def iF(g:PT X c tA)(ha:PE X a ta)(i:PE X b tb):PE X (.IfExp c a b pos) (QS tA ta tb):=by
 intro pins s σ H Q I h;refine wpAny_IfExp (b8 (g pins s σ H _ I h) fun d f ⟨H1,e,q1⟩=>?_);cases d with
 |true=>exact ha pins f σ H1 Q e q1
 |false=>exact i pins f σ H1 Q e q1
end
def dX(K:PySem.W.Frag)(H:Hp)(a:Addr)(xs:List V):Prop :=
 Rd H a (.lst xs) \/
  ∃(o:Obj) (its:Array Value) (n:Nat),K.lookup a=some o/\o.cls=.type "list"/\o.dict=none/\o.data=.seq its n/\its.size<=sizeLine/\Vals xs its.toList
def x_(K:PySem.W.Frag)(H:Hp)(a:Addr)(xs:List V):Prop :=
 Rd H a (.tup xs) \/
  ∃(o:Obj) (its:Array Value) (n:Nat),K.lookup a=some o/\o.cls=.type "tuple"/\o.data=.seq its n/\its.size<=sizeLine/\Vals xs its.toList
def Pn:Value->Option V
 |.none=>some .non
 |.bool b=>some (.bl b)
 |.int i _=>some (.int i)
 |.str x _=>some (.str x)
 |.bytes b _=>some (.byt b)
 |.float b _=>some (.flt b)
 |.ref a=>some (.ref a)
 |.type n=>some (.ty n)
 |_=>none
def RelV.abs{x:V}(r:RelV x u):Pn u=some x:=by
 cases x with
 |non=>cases r;rfl
 |bl _=>cases r;rfl
 |int _=>obtain⟨t,rfl⟩:=r;rfl
 |str _=>obtain⟨t,rfl⟩:=r;rfl
 |byt _=>obtain⟨t,rfl⟩:=r;rfl
 |flt _=>obtain⟨t,rfl⟩:=r;rfl
 |ref _=>cases r;rfl
 |ty _=>cases r;rfl
def RelV.inj{x y:V}{u:Value}(r:RelV x u)(q:RelV y u):x=y:=VP (r.abs.symm.trans q.abs)
theorem Vals.inj:∀{xs ys:List V} {us:List Value},Vals xs us->Vals ys us->xs=ys
 |_,_,_,.nil,.nil=>rfl
 |_,_,_,.cons r t,.cons a t'=>by rw[r.inj a,Vals.inj t t']
section
variable{X:Cx}{pins:List (Addr×Obj)}{σ:St}{H:Hp}{s:Shared}{a:Addr}{xs ys:List V}
def dX.of(h:H a=some (.lst xs)):dX K H a xs:=.inl (.inl h)
def Inv.list(I:Inv X pins σ H s)(h:dX X.K H a xs):∃its:List Value,Vals xs its/\PlainL s.heap a its.toArray/\xs.length<=sizeLine:=by
 rcases h with h|⟨o,its,n,f,c,d,b,hz,r⟩
 .obtain⟨z,its,n,r,e⟩:=h.ok I.hok;exact⟨its,r,⟨_,n,e,rfl,rfl,rfl⟩,z⟩
 .refine⟨its.toList,r,⟨o,n,I.Mi a o f,c,d,by simpa using b⟩,?_⟩;have e:=r.length;simp only[VI] at e;lia
def Inv.tuple(I:Inv X pins σ H s)(h:x_ X.K H a xs):∃its:List Value,Vals xs its/\IsTup s.heap a its.toArray/\xs.length<=sizeLine:=by
 rcases h with h|⟨o,its,n,d,c,b,hz,r⟩
 .obtain⟨z,its,r,p⟩:=h.ok I.hok;exact⟨its,r,p,z⟩
 .refine⟨its.toList,r,⟨o,I.Mi a o d,c,n,by simpa using b⟩,?_⟩;have e:=r.length;simp only[VI] at e;lia
def Inv.qN(I:Inv X pins σ H s)(h:dX X.K H a xs)(h':dX X.K H a ys):xs=ys:=by
 obtain⟨its,r,⟨o,n,e,_,_,d⟩,_⟩:=I.list h;obtain⟨its',c,⟨o',f,b,_,_,d'⟩,_⟩:=I.list h';rw[e] at b;cases b;rw[d] at d';injection d' with d1 _;have:its=its':=by simpa using congrArg Array.toList d1
 subst this;exact r.inj c
def Inv.Bi(I:Inv X pins σ H s)(h:x_ X.K H a xs)(h':x_ X.K H a ys):xs=ys:=by
 obtain⟨its,r,⟨o,e,_,n,d⟩,_⟩:=I.tuple h;obtain⟨its',c,⟨o',b,_,f,d'⟩,_⟩:=I.tuple h';rw[e] at b;cases b;rw[d] at d';injection d' with d1 _;have:its=its':=by simpa using congrArg Array.toList d1
 subst this;exact r.inj c
end
abbrev Cx.sO(X:Cx)(E:Value->Shared->Prop):Cx:={X with xe:=E}
abbrev Cx.JK(X:Cx):Cx:=X.sO fun _ _=>False
theorem Cx.Ok.sO{X:Cx}(ok:X.Ok)(E:Value->Shared->Prop):(X.sO E).Ok :=
 ⟨ok.mod,ok.kind,ok.glob,ok.blt,ok.above,ok.inj,ok.has,ok.cab,ok.hd,ok.frames,ok.stk,ok.exf,ok.bs,ok.bsz,ok.noex,ok.exfs,ok.nQ,ok.frf⟩
def Cx.Ok.jU{E:Value->Shared->Prop}(ok:(X.sO E).Ok):X.Ok :=
 ⟨ok.mod,ok.kind,ok.glob,ok.blt,ok.above,ok.inj,ok.has,ok.cab,ok.hd,ok.frames,ok.stk,ok.exf,ok.bs,ok.bsz,ok.noex,ok.exfs,ok.nQ,ok.frf⟩
section
variable{X:Cx}{pins:List (Addr×Obj)}{σ:St}{H:Hp}{s:Shared}{E:Value->Shared->Prop}
theorem Inv.sO(I:Inv X pins σ H s)(E:Value->Shared->Prop):Inv (X.sO E) pins σ H s:=⟨I.ok.sO E,I.os,I.bare,I.base,I.loc,I.cell,I.free,I.freeC,I.pin,I.hok,I.len⟩
theorem Inv.jU(I:Inv (X.sO E) pins σ H s):Inv X pins σ H s:=⟨I.ok.jU,I.os,I.bare,I.base,I.loc,I.cell,I.free,I.freeC,I.pin,I.hok,I.len⟩
theorem SP.jU{D:Ends}{f:Flow}{s':Shared}(h:SP (X.sO E) pins D f s'):SP X pins D f s':=by
 cases f with
 |next=>obtain⟨σ',H',I,q⟩:=h;exact⟨σ',H',I.jU,q⟩
 |brk=>obtain⟨σ',H',I,q⟩:=h;exact⟨σ',H',I.jU,q⟩
 |cont=>obtain⟨σ',H',I,q⟩:=h;exact⟨σ',H',I.jU,q⟩
 |ret u=>obtain⟨v,σ',H',I,r,q⟩:=h;exact⟨v,σ',H',I.jU,r,q⟩
theorem p4.JK{st:List Stmt}{t:TS}(h:p4 X.JK st t):p4 X st t:=fun pins s σ H D I a =>
 XF (h pins s σ H D (I.sO _) a) (fun _ _ q=>q.jU) fun _ _ z=>False.elim z
variable{st:Stmt}{rest:List Stmt}{t u:TS}{e:Expr}{te:TE}{pos:Pos}
def NJ:TS:=fun D σ H=>D.nx σ H
def PD(t u:TS):TS:=fun D σ H=>t {D with nx:=u D} σ H
def Hs:p4 X [] NJ:=fun _ _ σ H _ I h=>aaD ⟨σ,H,I,h⟩
def Dw(h1:PS X st t)(h2:p4 X rest u):p4 X (st::rest) (PD t u):=by
 intro pins s σ H D I h;refine wpAny_execs_cons (b8 (h1 pins s σ H {D with nx:=u D} I h) fun f b q=>?_);cases f with
 |next =>
  obtain⟨σ',H',a,q⟩:=q;exact h2 pins b σ' H' D a q
 |ret v=>exact q
 |brk=>exact q
 |cont=>exact q
def Inv.quiet{pins:List (Addr×Obj)}{σ:St}{H:Hp}{s:Shared}(I:Inv X pins σ H s):interactive X.env=false:=by simp[interactive,I.ok.kind]
def MS(te:TE):TS:=fun D σ H=>te σ H fun _ H1=>D.nx σ H1
def zS(he:PE X e te)(a:swapsWith e none pos.line X.env=pure false:=by rfl):PS X (.Expr e pos) (MS te):=by
 intro pins s σ H D I h;exact wpAny_Expr_any (b8 (he pins s σ H _ I h) fun v c ⟨x,H1,b,d,q1⟩=>⟨σ,H1,b,q1⟩) I.quiet a
def Qk(te:TE):TS:=fun D σ H=>te σ H D.rt
def Fb(he:PE X e te):PS X (.Return (some e) pos) (Qk te):=by
 intro pins s σ H D I h;exact wpAny_Return_some (b8 (he pins s σ H _ I h) fun v c ⟨x,H1,b,a,q1⟩=>⟨x,σ,H1,b,a,q1⟩)
def PH(c:TT)(t u:TS):TS:=fun D σ H=>c σ H fun b H1=>if b=true then t D σ H1 else u D σ H1
def JR{a b:List Stmt}{tc:TT}(i:PT X c tc)(ha:p4 X a t)(g:p4 X b u):PS X (.If c a b pos) (PH tc t u):=by
 intro pins s σ H D I h;refine wpAny_If (b8 (i pins s σ H _ I h) fun d f ⟨H1,e,q1⟩=>?_);cases d with
 |true=>exact ha pins f σ H1 D e q1
 |false=>exact g pins f σ H1 D e q1
def LO:TS:=fun _ _ _=>False
def tU{a:List Stmt}:p4 X a LO:=fun _ _ _ _ _ _ h=>h.elim
end
abbrev TG:=V->St->Hp->(St->Hp->Prop)->Prop
variable{g:TG}
abbrev JZ:=List V->St->Hp->(St->Hp->Prop)->Prop
def PG(X:Cx)(target:Expr)(t:TG):Prop :=
 ∀(pins:List (Addr×Obj)) (s:Shared) (σ:St) (H:Hp) (v:V) (u:Value) (Q:St->Hp->Prop),Inv X pins σ H s->RelV v u->t v σ H Q ->
  wpAny (model X.prog X.w) X.A (assign target X.env u) (fun _ s'=>∃σ' H',Inv X pins σ' H' s'/\Q σ' H') X.xe s
def OX(X:Cx)(a:List Expr)(t:JZ):Prop :=
 ∀(pins:List (Addr×Obj)) (s:Shared) (σ:St) (H:Hp) (vs:List V) (us:List Value) (Q:St->Hp->Prop),Inv X pins σ H s->Vals vs us->t vs σ H Q ->
  wpAny (model X.prog X.w) X.A (assignInOrder ((assignEach a X.env).map (·.2)) us) (fun _ s'=>∃σ' H',Inv X pins σ' H' s'/\Q σ' H') X.xe s
abbrev K2:=V->V->V->Hp->(Hp->Prop)->Prop
def N1(X:Cx)(t:K2):Prop :=
 ∀(pins:List (Addr×Obj)) (s:Shared) (σ:St) (H:Hp) (o i v:V) (a b u:Value) (Q:Hp->Prop),Inv X pins σ H s->RelV o a->RelV i b->RelV v u->t o i v H Q ->
  wpAny (model X.prog X.w) X.A (setItem a b u) (fun _ s'=>∃H',Inv X pins σ H' s'/\Q H') X.xe s
section
variable{X:Cx}{pos:Pos}
def jR(i:Nat):TG:=fun v σ H Q=>Q (σ.set i (some v)) H
def lL(a:X.N.Nodup)(hi:X.N[i]?=some x)(b:Loc X.env.scope x)(c:X.fn x=true\/X.env.scope.names.lookup x=some .local:=by first|exact .inl rfl|exact .inr rfl|assumption):PG X (.Name x pos) (jR i):=by
 intro pins s σ H v u Q I r h;exact wpAny_assign_Name (xO I a hi b r (fun s' d=>⟨_,H,d,h⟩) c)
def Gs:JZ:=fun vs σ H Q=>vs=[]/\Q σ H
def rE(t:TG)(u:JZ):JZ:=fun vs σ H Q=>∃v r,vs=v::r/\t v σ H fun σ' H'=>u r σ' H' Q
def Be:OX X [] Gs:=by
 intro pins s σ H vs us Q I r h;obtain⟨e,h⟩:=h;subst e;cases r;exact assignInOrder_nil ⟨σ,H,I,h⟩
def lO{es:List Expr}{t:TG}{u:JZ}(h1:PG X e t)(h2:OX X es u)
  (a:(assignEach (e::es) X.env).map (·.2)=assign e X.env::(assignEach es X.env).map (·.2):=by rfl):OX X (e::es) (rE t u):=by
 intro pins s σ H vs us Q I r h;obtain⟨v,f,e1,h⟩:=h;subst e1;cases r with
 |cons r b =>
  rw[a];refine assignInOrder_cons (b8 (h1 pins s σ H _ _ _ I r h) fun _ d ⟨σ1,H1,c,q1⟩=>?_);exact h2 pins d σ1 H1 _ _ Q c b q1
def GQ(K:PySem.W.Frag)(n:Nat)(t:JZ):TG:=fun v σ H Q=>∃a xs,v=.ref a/\x_ K H a xs/\xs.length=n/\t xs σ H Q
def C_{es:List Expr}{t:JZ}(j:X.calm=true)(h:OX X es t)
  (p:(assignEach es X.env).length=n:=by rfl) (c:(assignEach es X.env).findIdx? (·.1)=none:=by rfl):PG X (.Tuple es k pos) (GQ X.K n t):=by
 intro pins s σ H v u Q I r d;obtain⟨a,xs,e1,g,i,d⟩:=d;subst e1;cases r;obtain⟨its,f,l,hz⟩:=I.tuple g;refine assign_Tuple_tuple (I.ok.hd j) l (by simp[p,<-i,f.length]) c fun h' m=>?_;have q:Inv X pins σ H {s with heap:=h'}:=I.kept (t':=s.toks) fun b o e=>m b o (V2 (VF e)) e;exact h pins _ σ H xs _ Q q (by simpa using f) d
def O4(to b:TE)(t:K2):TG:=fun v σ H Q=>to σ H fun o H1=>b σ H1 fun i H2=>t o i v H2 fun a=>Q σ a
def LP{o i:Expr}{to c:TE}{t:K2}(l:PE X o to)(hi:PE X i c)(d:N1 X t)
  (ha:∀v,assign (.Subscript o i pos) X.env v=(do
   let a <-holding [v] (eval o X.env);let b <-holding [v,a] (eval i X.env)
   standAt pos
   holding [v,a,b] (setItem a b v)
   release [v,a,b] []):=by intro _;rfl):PG X (.Subscript o i pos) (O4 to c t):=by
 intro pins s σ H v u Q I r h;rw[ha];refine Vl (Xc (b8 (l pins s σ H _ I h) fun a w ⟨x,H1,q,j,q1⟩=>?_));refine Vl (Xc (b8 (hi pins w σ H1 _ q q1) fun b g ⟨y,H2,n,m,e⟩=>?_));refine Vl (wpAny_standAt (Vl (Xc (b8 (d pins g σ H2 x y v a b u _ n j m r e) fun _ z ⟨p,k,f⟩=>?_))));exact wpAny_release ⟨σ,p,k,f⟩
def Oc(te:TE)(g:TG):TS:=fun D σ H=>te σ H fun x H1=>g x σ H1 D.nx
def J_{te:TE}(he:PE X e te)(b:PG X tg g)(a:swapsWithSole [tg] e pos.line X.env=pure false:=by rfl)(c:swappedStores [tg] e X.env=pure none:=by rfl)
  (h1:(assignEach [tg] X.env).map (·.2)=[assign tg X.env]:=by rfl):PS X (.Assign [tg] e pos) (Oc te g):=by
 intro pins s σ H D I h;refine wpAny_Assign_stores (b8 (he pins s σ H _ I h) fun v i ⟨x,H1,f,d,q1⟩=>?_) a c;rw[h1];exact b8 (b pins i σ H1 x v _ f d q1) fun _ j q=>q
def uQ{te:TE}{pos':Pos}(d:X.N.Nodup)(hi:X.N[i]?=some x)(g:Loc X.env.scope x)(he:PE X e te)(a:swapsWith e (some (.Name x pos')) pos.line X.env=pure false:=by rfl)(b:X.fn x=true\/X.env.scope.names.lookup x=some .local:=by first|exact .inl rfl|exact .inr rfl|assumption):
  PS X (.Assign [.Name x pos'] e pos) (Oc te (jR i)):=by
 intro pins s σ H D I h;refine wpAny_Assign_Name (b8 (he pins s σ H _ I h) fun v l ⟨y,H1,j,f,q1⟩=>?_) a;exact xO j d hi g f (fun k c=>⟨_,H1,c,q1⟩) b
def Kr(c:TT)(tb:TS):TS:=fun D σ H=>∃W:Nat->St->Hp->Prop,(∃m,W m σ H)/\∀m σ H,W m σ H ->
 c σ H fun b H1=>if b=true then ∃N:St->Hp->Prop,(∀σ' H',N σ' H'->∃a,a<m/\W a σ' H')/\tb {D with nx:=N,ct:=N,bk:=D.nx} σ H1 else D.nx σ H1
def C6{tc:TT}(hp:PassesOwn (model X.prog X.w) X.A X.env X.xe)(q:PT X c tc)(u:p4 X body tb):PS X (.While c body [] pos) (Kr tc tb):=by
 intro pins s σ H D I h;obtain⟨W,⟨t,p⟩,turn⟩:=h;refine wpAny_While (codeAny_whileLoop (fun n s'=>∃σ' H',Inv X pins σ' H' s'/\W n σ' H') ?_ t ⟨σ,H,I,p⟩);rintro n z ⟨σ1,H1,y,x⟩;refine X6 hp (b8 (q pins z σ1 H1 _ y (turn n σ1 H1 x)) fun b r ⟨H2,o,d⟩=>?_);cases b with
 |true =>
  obtain⟨N,m,d⟩:=d;rw[Vo rfl];refine X6 hp (b8 (u pins r σ1 H2 _ o d) fun f B e=>?_);cases f with
  |next =>
   obtain⟨σ3,a,j,g⟩:=e;obtain⟨k,i,l⟩:=m σ3 a g;exact⟨k,i,σ3,a,j,l⟩
  |cont =>
   obtain⟨σ3,a,j,g⟩:=e;obtain⟨k,i,l⟩:=m σ3 a g;exact⟨k,i,σ3,a,j,l⟩
  |brk=>exact e
  |ret v=>exact e
 |false =>
  rw[Vm VO];exact aaD ⟨σ1,H2,o,d⟩
end
structure It where
 go:Nat->Hp->Prop
 yld:Nat->Hp->V->Hp->Prop
 stop:Nat->Hp->Prop
def sG(X:Cx)(pins:List (Addr×Obj))(H:Hp)(b:Addr):Prop :=
 H b=none/\b≠X.env.locals/\b∉X.fs/\(b∈X.ex\/X.s₀.heap.objs.size<=b)/\(∀x c,X.env.cells.lookup x=some c->c≠b)/\∀p∈X.pn++pins,p.1≠b
def Inv.Co{H':Hp}{b:Addr}(I:Inv X pins σ H s)(a:s.heap.objs.size<=b)(d:H' b=none):sG X pins H' b:=by
 refine⟨d,aan (VY I.lt a),I.PL a,.inr (V7 I.sz a),fun x c e z=>?_,fun p hp z=>?_⟩
 .obtain⟨v,q⟩:=I.cell x c e;exact absurd (VY q.lt (by rw[z];exact a)) (X8 _)
 .exact absurd (VY (VF (I.pin p hp).1) (by rw[z];exact a)) (X8 _)
structure Turn(P:Program)(w:World)(K:PySem.W.Frag)(tg:Expr)(J:It)(fp:List Addr)(it:Addr)(tn:Nat->Heap->Prop):Prop where
 mem:it∈fp
 obj:∀i h,tn i h->∀b∈fp,∃o,h.get? b=some o/\∀v,o.data≠.cell v
 keep:∀i h h',tn i h->(∀b∈fp,∀o,h.get? b=some o->h'.get? b=some o)->tn i h'
 item:∀(X:Cx),X.prog=P->X.w=w->X.K=K->X.calm=true->∀(i:Nat) (pins:List (Addr×Obj)) (s:Shared) (σ:St) (H:Hp) (E:Value->Shared->Prop),Inv X pins σ H s->(∀b∈fp,sG X pins H b)->tn i s.heap->J.go i H ->
  wpAny (model P w) X.A (pyNext (.ref it)) (fun r s1=>∃u,r=some u /\
   wpAny (model P w) X.A (letOwnedTupleGo tg (.ref it) u) (fun _ s2=>∃x H',Inv X pins σ H' s2/\RelV x u/\J.yld i H x H'/\tn (i+1) s2.heap/\∀b∈fp,H' b=none) E s1) E s
 done:∀(X:Cx),X.prog=P->X.w=w->X.K=K->X.calm=true->∀(i:Nat) (pins:List (Addr×Obj)) (s:Shared) (σ:St) (H:Hp) (E:Value->Shared->Prop),Inv X pins σ H s->(∀b∈fp,sG X pins H b)->tn i s.heap->J.stop i H ->
  wpAny (model P w) X.A (pyNext (.ref it)) (fun r s1=>r=none/\Inv X pins σ H s1) E s
 self:∀(A:Around) (i:Nat) (s:Shared) (Q:Value->Shared->Prop) (E:Value->Shared->Prop),tn i s.heap->Q (.ref it) s->wpAny (model P w) A (pyIter (.ref it)) Q E s
abbrev TI:=St->Hp->(It->Hp->Prop)->Prop
def Pa(X:Cx)(pins:List (Addr×Obj))(σ:St)(tg:Expr)(R:It->Hp->Prop)(a:Value)(c:Shared):Prop :=
 ∃(it:Addr) (fp:List Addr) (tn:Nat->Heap->Prop) (J:It) (H':Hp),a=.ref it/\Inv X pins σ H' c/\Turn X.prog X.w X.K tg J fp it tn/\tn 0 c.heap/\(∀b∈fp,sG X pins H' b)/\R J H'
def PI(X:Cx)(tg iter:Expr)(wi:TI):Prop :=
 ∀(pins:List (Addr×Obj)) (s:Shared) (σ:St) (H:Hp) (R:It->Hp->Prop),Inv X pins σ H s->wi σ H R ->
  wpAny (model X.prog X.w) X.A (eval iter X.env) (fun v a=>wpAny (model X.prog X.w) X.A (pyIter v) (Pa X pins σ tg R) X.xe a) X.xe s
def wC{M : Model}{A : Around}{E : Value->Shared->Prop}{s : Shared}{tg : Expr}{it : Addr}{u : Value}{o : Obj}{n : String}{vs : Array Value}{Q : Unit->Shared->Prop}(c : s.heap.get? it=some o)(b : o.cls=.type n)(d : o.data=.fields vs)
    (e : ["enumerate","zip","dict_itemiterator","dict_reverseitemiterator","odict_iterator","itertools.zip_longest","itertools.pairwise"].contains n=false) (a : Q () s) : wpAny M A (letOwnedTupleGo tg (.ref it) u) Q E s:=by
  unfold letOwnedTupleGo
  cases tg<;>first
    |exact Vp a
    | (cases u <;> first
        |exact Vp a
        | (refine Vl (wpAny_load c ?_)
           rw[b,d];show wpAny M A (if (["enumerate","zip","dict_itemiterator","dict_reverseitemiterator","odict_iterator","itertools.zip_longest","itertools.pairwise"].contains n&&vs[0]?==some (rawInt _))=true then _ else _) Q E s;rw[Vm (by intro h;rw[e,Bool.false_and] at h;cases h)]
           exact Vp a))
def Nt(K:PySem.W.Frag)(a:Addr):It :=
 ⟨fun i H=>∃xs x,dX K H a xs/\xs[i]?=some x,fun i H x H'=>H'=H/\∀xs,dX K H a xs->xs[i]?=some x,fun i H=>∃xs,dX K H a xs/\xs.length<=i⟩
def QF(K:PySem.W.Frag)(a:Addr):It :=
 ⟨fun i H=>∃xs x,x_ K H a xs/\xs[i]?=some x,fun i H x H'=>H'=H/\∀xs,x_ K H a xs->xs[i]?=some x,fun i H=>∃xs,x_ K H a xs/\xs.length<=i⟩
def MC(lo:Int)(n:Nat):It:=⟨fun i _=>i<n,fun i H x H'=>H'=H/\x=.int (lo+i),fun i _=>n<=i⟩
def B2(a it:Addr):Turn P w K tg (Nt K a) [it] it (fun i h=>h.IsListIter it a i) where
 mem:=by simp
 obj:=fun i h st b f=>by
  have e:b=it:=by simpa using f
  subst e;obtain⟨o,e,c,d⟩:=st;exact⟨o,e,fun v z=>by rw[d] at z;cases z⟩
 keep:=fun i h h' st k=>st.at fun o e=>k it (by simp) o e
 item:=by
  intro X r A F G i pins s σ H E I l st n;subst r A F;obtain⟨xs,x,j,q⟩:=n;obtain⟨its,C,p,hz⟩:=I.list j;obtain⟨u,O,M⟩:=C.get q;obtain⟨t,D,J,y,B,m⟩:=l it (by simp);refine wpAny_pyNext_list_item st p.isList (x:=u) (by simpa using O) fun h' g N=>?_;have L:Inv X pins σ H {s with heap:=h'}:=I.turned (t':=s.toks) (fun b o f e=>(N.2 b f).trans e) t D y B m;obtain⟨o,e,c,d⟩:=id g;exact⟨u,rfl,wC (s:={s with heap:=h'}) e c d (by decide) ⟨x,H,L,M,⟨rfl,fun ys Q=>by rw[I.qN Q j];exact q⟩,g,fun b f=>(l b f).1⟩⟩
 done:=by
  intro X r A F G i pins s σ H E I l st n;subst r A F;obtain⟨xs,j,q⟩:=n;obtain⟨its,C,p,hz⟩:=I.list j;obtain⟨t,D,J,y,B,m⟩:=l it (by simp);have S:=C.length;exact wpAny_pyNext_list_end (I.ok.hd G) st p.isList (by simp;lia) fun h' R=>⟨rfl,I.turned (t':=s.toks) (fun b o f e=>R b o f e) t D y B m⟩
 self:=fun _ _ _ _ _ st h=>wpAny_pyIter_listiter st h
def zh(a it:Addr):Turn P w K tg (QF K a) [it] it (fun i h=>h.IsTupleIter it a i) where
 mem:=by simp
 obj:=fun i h st b f=>by
  have e:b=it:=by simpa using f
  subst e;obtain⟨o,e,c,d⟩:=st;exact⟨o,e,fun v z=>by rw[d] at z;cases z⟩
 keep:=fun i h h' st k=>st.at fun o e=>k it (by simp) o e
 item:=by
  intro X r A F G i pins s σ H E I l st n;subst r A F;obtain⟨xs,x,j,q⟩:=n;obtain⟨its,C,p,hz⟩:=I.tuple j;obtain⟨u,O,M⟩:=C.get q;obtain⟨t,D,J,y,B,m⟩:=l it (by simp);refine wpAny_pyNext_tuple_item st (show s.heap.IsTuple a its.toArray from p) (x:=u) (by simpa using O) fun h' g N=>?_;have L:Inv X pins σ H {s with heap:=h'}:=I.turned (t':=s.toks) (fun b o f e=>(N.2 b f).trans e) t D y B m;obtain⟨o,e,c,d⟩:=id g;exact⟨u,rfl,wC (s:={s with heap:=h'}) e c d (by decide) ⟨x,H,L,M,⟨rfl,fun ys Q=>by rw[I.Bi Q j];exact q⟩,g,fun b f=>(l b f).1⟩⟩
 done:=by
  intro X r A F G i pins s σ H E I l st n;subst r A F;obtain⟨xs,j,q⟩:=n;obtain⟨its,C,p,hz⟩:=I.tuple j;obtain⟨t,D,J,y,B,m⟩:=l it (by simp);have S:=C.length;exact wpAny_pyNext_tuple_end (I.ok.hd G) st (show s.heap.IsTuple a its.toArray from p) (by simp;lia) fun h' R=>⟨rfl,I.turned (t':=s.toks) (fun b o f e=>R b o f e) t D y B m⟩
 self:=fun _ _ _ _ _ st h=>wpAny_pyIter_tupleiter st h
def y_(it:Addr)(lo:Int)(n:Nat):Turn P w K tg (MC lo n) [it] it (fun i h=>IsRangeIter h it (lo+(i:Nat)*1) ((n:Int)-(i:Nat)) 1) where
 mem:=by simp
 obj:=fun i h st b a=>by
  have e:b=it:=by simpa using a
  subst e
  exact⟨_,st,fun v z=>by
   have C:Data.fields _=Data.cell v:=z
   cases C⟩
 keep:=fun i h h' st k=>k it (by simp) _ st
 item:=by
  intro X l q x j i pins s σ H E I d st g;subst l q x;obtain⟨m,u,A,p,r,f⟩:=d it (by simp);have W:=Walks.range (prog:=X.prog) (w:=X.w) (I.ok.hd j) it lo 1 n;refine W.item i s _ _ g st fun v h' tk y c kk=>?_;obtain⟨t,rfl⟩:=y;have B:Inv X pins σ H {s with heap:=h',toks:=tk}:=I.turned (fun b o a e=>kk b o (by simpa using a) e) m u p r f;refine⟨_,rfl,wC (s:={s with heap:=h',toks:=tk}) (n:="range_iterator") c rfl rfl (by decide) ⟨.int (lo+i),H,B,⟨t,?_⟩,⟨rfl,rfl⟩,c,fun b a=>(d b a).1⟩⟩;rw[VX]
 done:=by
  intro X l q x j i pins s σ H E I d st g;subst l q x;obtain⟨m,u,A,p,r,f⟩:=d it (by simp);exact wpAny_pyNext_range_end (I.ok.hd j) st (by have:n<=i:=g;lia) fun h' D=>⟨rfl,I.turned (t':=s.toks) (fun b o a e=>D b o a e) m u p r f⟩
 self:=fun _ _ _ _ _ st h=>wpAny_pyIter_rangeiter st h
section
variable{X:Cx}{tg:Expr}
def NG(K:PySem.W.Frag)(tl:TE):TI:=fun σ H R=>tl σ H fun x H1=>∃a,x=.ref a/\(∃xs,dX K H1 a xs)/\R (Nt K a) H1
def O5(K:PySem.W.Frag)(tl:TE):TI:=fun σ H R=>tl σ H fun x H1=>∃a,x=.ref a/\(∃xs,x_ K H1 a xs)/\R (QF K a) H1
def As{l:Expr}{tl:TE}(g:PE X l tl):PI X tg l (NG X.K tl):=by
 intro pins s σ H R I h;refine b8 (g pins s σ H _ I h) fun v d ⟨x,H1,c,j,q1⟩=>?_;obtain⟨a,e,⟨xs,f⟩,q⟩:=q1;subst e;cases j;obtain⟨its,k,p,hz⟩:=c.list f;refine Z9 p.isList ?_;refine⟨d.heap.objs.size,[d.heap.objs.size],_,_,H1,rfl,c.kept (t':=d.toks) fun b o e=>Vt _ e,B2 a _,⟨_,VM _ rfl,rfl,rfl⟩,fun b i=>?_,q⟩;have e:b=d.heap.objs.size:=by simpa using i
 subst e;exact c.Co (Vu _) (c.hok.fresh (Vu _))
def Lg{l:Expr}{tl:TE}(g:PE X l tl):PI X tg l (O5 X.K tl):=by
 intro pins s σ H R I h;refine b8 (g pins s σ H _ I h) fun v c ⟨x,H1,d,j,q1⟩=>?_;obtain⟨a,e,⟨xs,f⟩,q⟩:=q1;subst e;cases j;obtain⟨its,k,p,hz⟩:=d.tuple f;refine wpAny_pyIter_tuple (show c.heap.IsTuple a its.toArray from p) ?_;refine⟨c.heap.objs.size,[c.heap.objs.size],_,_,H1,rfl,d.kept (t':=c.toks) fun b o e=>Vt _ e,zh a _,⟨_,VM _ rfl,rfl,rfl⟩,fun b i=>?_,q⟩;have e:b=c.heap.objs.size:=by simpa using i
 subst e;exact d.Co (Vu _) (d.hok.fresh (Vu _))
def FW{R:It->Hp->Prop}{E:Value->Shared->Prop}{lo hi:Int}{t u v:Tok}{tk:Nat}(I:Inv X pins σ H s)(h1:-(2^62)<=lo)(h2:lo<2^62)(f:-(2^62)<=hi)(d:hi<2^62)
  (q:R (MC lo (hi-lo).toNat) H):wpAny (model X.prog X.w) X.A (pyIter (.ref s.heap.objs.size)) (Pa X pins σ tg R) E {s with heap:=s.heap.push {cls:=.type "range",data:=.fields #[.int lo t,.int hi u,.int 1 v]},toks:=tk}:=by
 refine wpAny_pyIter_range (IsRange.new ..) (small_one h1 h2 f d) ?_;have a:Inv X pins σ H {s with heap:=s.heap.push {cls:=.type "range",data:=.fields #[.int lo t,.int hi u,.int 1 v]},toks:=tk}:=I.kept fun b o e=>Vt _ e
 refine⟨(s.heap.push {cls:=.type "range",data:=.fields #[.int lo t,.int hi u,.int 1 v]}).objs.size,[(s.heap.push {cls:=.type "range",data:=.fields #[.int lo t,.int hi u,.int 1 v]}).objs.size],_,_,H,rfl,
  a.kept (t':=tk) fun b o e=>Vt _ e,y_ _ lo (hi-lo).toNat,?_,fun b c=>?_,q⟩
 .have e1:lo+((0:Nat):Int)*1=lo:=by simp
  have e2:(((hi-lo).toNat:Nat):Int)-((0:Nat):Int)=Builtin.Range.rangeSize lo hi 1:=by rw[rangeSize_one];split<;>lia
  show IsRangeIter _ _ (lo+((0:Nat):Int)*1) ((((hi-lo).toNat:Nat):Int)-((0:Nat):Int)) 1;rw[e1,e2];exact VM _ rfl
 .have e:b=(s.heap.push {cls:=.type "range",data:=.fields #[.int lo t,.int hi u,.int 1 v]}).objs.size:=by simpa using c
  subst e;exact a.Co (Vu _) (a.hok.fresh (Vu _))
def NC(ta:TA):TI:=fun σ H R=>ta σ H fun vs H1=>∃j:Int,vs=[.int j]/\-(2^62)<=j/\j<2^62/\R (MC 0 j.toNat) H1
def B7{a:Expr}{ta:TA}{p:Pos}(g:Gl X "range")(f:X.mg "range"=none)(ha:PA X [a] ta)(b:starEach [a] X.env=[(false,eval a X.env)]:=by rfl):PI X tg (.Call (.Name "range" p) [a] [] pos) (NC ta):=by
 intro pins s σ H R I h;refine Call_ (hV I g f boot_range (Xt (b8 (ha pos pins s σ H _ I h) fun us l ⟨vs,H1,k,i,q1⟩=>?_) b rfl));obtain⟨j,e,q1,c,q⟩:=q1;subst e;cases i with
 |cons r d =>
  cases d;obtain⟨t,rfl⟩:=r;exact call_range_1 (FW k (by lia) (by lia) q1 c (by simpa using q))
def N8(wi:TI)(g:TG)(tb:TS):TS:=fun D σ H=>wi σ H fun J H1=>∃W:Nat->Nat->St->Hp->Prop,(∃m,W 0 m σ H1)/\∀i m σ H,W i m σ H ->
 (J.stop i H/\D.nx σ H)\/(J.go i H/\∃N:St->Hp->Prop,(∀σ' H',N σ' H'->∃a,a<m/\W (i+1) a σ' H')/\∀x H',J.yld i H x H'->g x σ H' fun σ2 H2=>tb {D with nx:=N,ct:=N,bk:=D.nx} σ2 H2)
def qx(fp:List Addr)(h:Heap):List (Addr×Obj):=fp.filterMap fun b=>(h.get? b).map fun o=>(b,o)
def iR{b:Addr}{o:Obj}(a:b∈fp)(e:h.get? b=some o):(b,o)∈qx fp h:=List.mem_filterMap.mpr ⟨b,a,by rw[e];rfl⟩
def Cm{p:Addr×Obj}(hp:p∈qx fp h):p.1∈fp/\h.get? p.1=some p.2:=by
 obtain⟨b,a,e⟩:=List.mem_filterMap.mp hp;cases q:h.get? b with
 |none=>rw[q] at e;cases e
 |some o =>
  rw[q] at e;have c:(b,o)=p:=VP e;subst c;exact⟨a,q⟩
def Inv.pinned(I:Inv X pins σ H s)(h:∀b∈fp,sG X pins H b)(g:∀b∈fp,∃o,s.heap.get? b=some o/\∀v,o.data≠.cell v):Inv X (pins++qx fp s.heap) σ H s :=
 I.mO fun p hp=>(Wk.mp hp).elim (fun z=>I.pin p (VU _ z)) fun z=>by
  obtain⟨a,e⟩:=Cm z;obtain⟨f,j,i,_⟩:=h p.1 a;obtain⟨o,c,d⟩:=g p.1 a;rw[e] at c;cases c;exact⟨e,f,j,i,d⟩
def Inv.lJ{pl:List (Addr×Obj)}(I:Inv X (pins++pl) σ H s):Inv X pins σ H s:=I.mO fun p hp=>I.pin p (VU _ (WU _ hp))
def qF{iter:Expr}{wi:TI}(hp:PassesOwn (model X.prog X.w) X.A X.env X.xe)(M:X.calm=true)(hi:PI X tg iter wi)(Y:PG X tg g)(j:p4 X body tb)
  (hs:∀x,foldedSetIterable iter X.env x=pure x:=by intro _;rfl):PS X (.For tg iter body [] pos) (N8 wi g tb):=by
 intro pins s σ H D I h;refine wpAny_For (b8 (hi pins s σ H _ I h) fun v s1 h1=>b8 h1 fun itv s2 h2=>?_) hs;obtain⟨it,fp,tn,J,H2,e,I2,T,C,K,W,⟨Z,U⟩,turn⟩:=h2;subst e
 -- what stays true of the iterator's objects through the loop
 have c:∀{H':Hp},(∀b∈fp,H' b=none)->∀b∈fp,sG X pins H' b:=fun hn b j=>⟨hn b j,(K b j).2⟩;refine codeAny_forLoop_any (fun n s'=>∃i σ' H',Inv X pins σ' H' s'/\tn i s'.heap/\(∀b∈fp,H' b=none)/\W i n σ' H') ?_ Z ⟨0,σ,H2,I2,C,fun b j=>(K b j).1,U⟩;rintro n O ⟨i,σ3,z,P,q,y,w3⟩;rcases turn i n σ3 z w3 with⟨stop,qn⟩|⟨go,N,hN,step⟩
 .refine X6 hp (b8 (T.done X rfl rfl rfl M i pins O σ3 z X.xe P (c y) q stop) fun r s4 ⟨G,S⟩=>?_);subst G;exact aaD ⟨σ3,z,S,qn⟩
 .refine X6 hp (b8 (T.item X rfl rfl rfl M i pins O σ3 z X.xe P (c y) q go) fun r s4 ⟨u,G,h4⟩=>?_);subst G;refine X6 hp (b8 h4 fun _ Q ⟨x,L,I5,r5,y5,p,B⟩=>?_);have E:=I5.pinned (c B) (T.obj _ _ p);refine X6 hp (b8 (Y _ Q σ3 L x u _ E r5 (step x L y5)) fun _ s6 ⟨σ6,H6,I6,q6⟩=>?_);refine X6 hp (b8 (j _ s6 σ6 H6 _ I6 q6) fun f F l=>?_)
  have again:∀{σ7:St} {k:Hp},Inv X (pins++qx fp Q.heap) σ7 k F->N σ7 k->∃m,m<n/\∃i σ' H',Inv X pins σ' H' F/\tn i F.heap/\(∀b∈fp,H' b=none)/\W i m σ' H':=fun {σ7 k} a t=>by
   obtain⟨m',V,R⟩:=hN σ7 k t;refine⟨m',V,i+1,σ7,k,a.lJ,T.keep _ _ _ p fun b j o e=>(a.pin (b,o) (VU _ (VU _ (iR j e)))).1,fun b j=>?_,R⟩;obtain⟨o,e,d⟩:=T.obj _ _ p b j;exact(a.pin (b,o) (VU _ (VU _ (iR j e)))).2.1
  cases f with
  |next=>obtain⟨σ7,k,a,t⟩:=l;exact again a t
  |cont=>obtain⟨σ7,k,a,t⟩:=l;exact again a t
  |brk=>obtain⟨σ7,k,a,l⟩:=l;exact⟨σ7,k,a.lJ,l⟩
  |ret v=>obtain⟨x7,σ7,k,a,r7,l⟩:=l;exact⟨x7,σ7,k,a.lJ,r7,l⟩
end
def DY{a:Addr}{xs:List V}{D:Ends}(Pv:Nat->St->Hp->Prop)(j:Pv 0 σ H)(k:∀i σ H,i<=xs.length->Pv i σ H->dX K H a xs)
  (d:∀i x σ H,xs[i]?=some x->Pv i σ H->g x σ H fun σ2 H2=>tb {D with nx:=Pv (i+1),ct:=Pv (i+1),bk:=D.nx} σ2 H2) (h:∀σ H,Pv xs.length σ H->D.nx σ H):
  ∃W:Nat->Nat->St->Hp->Prop,(∃m,W 0 m σ H)/\∀i m σ H,W i m σ H ->
   ((Nt K a).stop i H/\D.nx σ H)\/((Nt K a).go i H/\∃N:St->Hp->Prop,(∀σ' H',N σ' H'->∃c,c<m/\W (i+1) c σ' H')/\∀x H',(Nt K a).yld i H x H'->g x σ H' fun σ2 H2=>tb {D with nx:=N,ct:=N,bk:=D.nx} σ2 H2):=by
 refine⟨fun i m σ H=>m=xs.length-i/\i<=xs.length/\Pv i σ H,⟨xs.length,by simp,Wn _,j⟩,?_⟩;rintro i m σ H ⟨rfl,hi,p⟩;have q:=k i σ H hi p;by_cases b:i<xs.length
 .refine .inr ⟨⟨xs,xs[i],q,by simp[b]⟩,Pv (i+1),fun σ' H' f=>⟨xs.length-(i+1),by lia,rfl,b,f⟩,fun x H' y=>?_⟩;obtain⟨e,y⟩:=y;subst e;exact d i x σ _ (y xs q) p
 .have e:i=xs.length:=by lia
  subst e;exact .inl ⟨⟨xs,q,Vu _⟩,h σ H p⟩
def BQ{lo:Int}{D:Ends}(Pv:Nat->St->Hp->Prop)(h:Pv 0 σ H)
  (c:∀i σ H,i<n->Pv i σ H->g (.int (lo+i)) σ H fun σ2 H2=>tb {D with nx:=Pv (i+1),ct:=Pv (i+1),bk:=D.nx} σ2 H2) (f:∀σ H,Pv n σ H->D.nx σ H):
  ∃W:Nat->Nat->St->Hp->Prop,(∃m,W 0 m σ H)/\∀i m σ H,W i m σ H ->
   ((MC lo n).stop i H/\D.nx σ H)\/((MC lo n).go i H/\∃N:St->Hp->Prop,(∀σ' H',N σ' H'->∃b,b<m/\W (i+1) b σ' H')/\∀x H',(MC lo n).yld i H x H'->g x σ H' fun σ2 H2=>tb {D with nx:=N,ct:=N,bk:=D.nx} σ2 H2):=by
 refine⟨fun i m σ H=>m=n-i/\i<=n/\Pv i σ H,⟨n,by simp,Wn _,h⟩,?_⟩;rintro i m σ H ⟨rfl,hi,p⟩;by_cases a:i<n
 .refine .inr ⟨a,Pv (i+1),fun σ' H' d=>⟨n-(i+1),by lia,rfl,a,d⟩,fun x H' y=>?_⟩;obtain⟨e,y⟩:=y;subst e y;exact c i σ _ a p
 .have e:i=n:=by lia
  subst e;exact .inl ⟨Vu _,f σ H p⟩
abbrev R2:=V->V->Hp->VK->Prop
variable{r:R2}
def ku(X:Cx)(f:Value->Value->Sem Value)(r:R2):Prop :=
 ∀(pins:List (Addr×Obj)) (s:Shared) (σ:St) (H:Hp) (x y:V) (v u:Value) (Q:VK),Inv X pins σ H s->RelV x v->RelV y u->r x y H Q ->
  wpAny (model X.prog X.w) X.A (f v u) (EP X pins σ Q) X.xe s
def Ph(X:Cx)(f:Value->Sem Value)(r:V->Hp->VK->Prop):Prop :=
 ∀(pins:List (Addr×Obj)) (s:Shared) (σ:St) (H:Hp) (x:V) (v:Value) (Q:VK),Inv X pins σ H s->RelV x v->r x H Q ->
  wpAny (model X.prog X.w) X.A (f v) (EP X pins σ Q) X.xe s
def jL(X:Cx)(f:Value)(r:List V->Hp->VK->Prop):Prop :=
 ∀(pins:List (Addr×Obj)) (s:Shared) (σ:St) (H:Hp) (xs:List V) (us:List Value) (Q:VK),Inv X pins σ H s->Vals xs us->r xs H Q ->
  wpAny (model X.prog X.w) X.A (call f us) (EP X pins σ Q) X.xe s
def O3(r:R2)(ta tb:TE):TE:=fun σ H Q=>ta σ H fun x H1=>tb σ H1 fun y H2=>r x y H2 Q
def Q1(r:V->Hp->VK->Prop)(ta:TE):TE:=fun σ H Q=>ta σ H fun x H1=>r x H1 Q
def rI(C:Int->Int->Prop)(g:Int->Int->V):R2:=fun x y H Q=>∃i j,x=.int i/\y=.int j/\C i j/\Q (g i j) H
def GZ(g:Int->Int->V):R2:=fun x y H Q=>∃i j,x=.int i/\y=.int j/\Q (g i j) H
def rU(g:Int->V):V->Hp->VK->Prop:=fun x H Q=>∃i,x=.int i/\Q (g i) H
section
variable{X:Cx}{a b c:Expr}{ta tb tc:TE}{pos:Pos}
def Ka(ha:PE X a ta)(k:PE X b tb){R:V->V->Hp->Prop}(I:Inv X pins σ H s)
  (h:ta σ H fun x H1=>tb σ H1 fun y H2=>R x y H2) {Q:Value->Shared->Prop} {f:Value->Value->Sem Value}
  (g:∀v u c x y H2,Inv X pins σ H2 c->RelV x v->RelV y u->R x y H2->wpAny (model X.prog X.w) X.A (f v u) Q X.xe c):
  wpAny (model X.prog X.w) X.A (eval a X.env) (fun v j=>wpAny (model X.prog X.w) X.A (eval b X.env) (fun u l=>wpAny (model X.prog X.w) X.A (f v u) Q X.xe l) X.xe j) X.xe s:=by
 refine b8 (ha pins s σ H _ I h) fun v o ⟨x,H1,n,m,q1⟩=>?_;refine b8 (k pins o σ H1 _ n q1) fun u c ⟨y,H2,i,d,e⟩=>?_;exact g v u c x y H2 i m d e
def Bc{op:Operator}(d:ku X (binaryOp op) r)(ha:PE X a ta)(g:PE X b tb):PE X (.BinOp a op b pos) (O3 r ta tb):=by
 intro pins s σ H Q I h;exact wpAny_BinOp (Ka ha g I h fun v u i x y H2 f c e q=>d pins i σ H2 x y v u Q f c e q)
def NZ{op:UnaryOp}{r:V->Hp->VK->Prop}(d:Ph X (unaryOp op) r)(ha:PE X a ta):PE X (.UnaryOp op a pos) (Q1 r ta):=by
 intro pins s σ H Q I h;exact UnaryOp_ (b8 (ha pins s σ H _ I h) fun v b ⟨x,H1,e,c,q1⟩=>d pins b σ H1 x v Q e c q1)
def NF{C:Int->Int->Prop}{g:Int->Int->Int}
  (rule:∀(i j:Int) (t u:Tok) (s:Shared) (Q:Value->Shared->Prop) (E:Value->Shared->Prop),C i j->Q (.int (g i j) s.toks) {s with toks:=s.toks+1}->wpAny (model X.prog X.w) X.A (f (.int i t) (.int j u)) Q E s):
  ku X f (rI C fun i j=>.int (g i j)):=by
 intro pins s σ H x y v u Q I a b h;obtain⟨i,j,rfl,rfl,c,q⟩:=h;obtain⟨t,rfl⟩:=a;obtain⟨t',rfl⟩:=b;exact rule i j t t' s _ _ c ⟨.int (g i j),H,I.tok _,⟨_,rfl⟩,q⟩
def OI{g:Int->Int->Int}
  (rule:∀(i j:Int) (t u:Tok) (s:Shared) (Q:Value->Shared->Prop) (E:Value->Shared->Prop),Q (.int (g i j) s.toks) {s with toks:=s.toks+1}->wpAny (model X.prog X.w) X.A (f (.int i t) (.int j u)) Q E s):
  ku X f (GZ fun i j=>.int (g i j)):=by
 intro pins s σ H x y v u Q I a b h;obtain⟨i,j,rfl,rfl,q⟩:=h;obtain⟨t,rfl⟩:=a;obtain⟨t',rfl⟩:=b;exact rule i j t t' s _ _ ⟨.int (g i j),H,I.tok _,⟨_,rfl⟩,q⟩
def Io{g:Int->Int->Bool}
  (rule:∀(i j:Int) (t u:Tok) (s:Shared) (Q:Value->Shared->Prop) (E:Value->Shared->Prop),Q (.bool (g i j)) s->wpAny (model X.prog X.w) X.A (f (.int i t) (.int j u)) Q E s):
  ku X f (GZ fun i j=>.bl (g i j)):=by
 intro pins s σ H x y v u Q I a b h;obtain⟨i,j,rfl,rfl,q⟩:=h;obtain⟨t,rfl⟩:=a;obtain⟨t',rfl⟩:=b;exact rule i j t t' s _ _ ⟨.bl (g i j),H,I,rfl,q⟩
def Er(i j:Int):Prop:=0<=j/\j<=1000000/\i.natAbs<2^64
def Hv(i j:Int):Prop:=(-(2^64)<i/\i<2^64)\/(-(2^64)<j/\j<2^64)
def Hv.ok{i j:Int}(h:Hv i j):IntMulOk i j:=by
 rcases h with⟨h1,h2⟩|⟨h1,h2⟩
 .exact .of_left (intBits_le_64 h1 h2)
 .exact .of_right (intBits_le_64 h1 h2)
def L6:ku X (binaryOp .Add) (GZ fun i j=>.int (i+j)):=OI fun _ _ _ _ _ _ _ q=>add_int q
def Li:ku X (binaryOp .Sub) (GZ fun i j=>.int (i-j)):=OI fun _ _ _ _ _ _ _ q=>sub_int q
def Hq:ku X (binaryOp .Mod) (rI (fun _ j=>j≠0) fun i j=>.int (i.fmod j)):=NF fun _ _ _ _ _ _ _ a q=>mod_int' a q
def LQ:ku X (binaryOp .Pow) (rI Er fun i j=>.int (i^j.toNat)):=NF fun _ _ _ _ _ _ _ a q=>pow_int_small a.1 a.2.1 a.2.2 q
def K0:ku X (binaryOp .LShift) (rI Er fun i j=>.int (i*2^j.toNat)):=NF fun _ _ _ _ _ _ _ a q=>lshift_int_small a.1 a.2.1 a.2.2 q
def QV{f:Value->Sem Value}{g:Int->Int}
  (rule:∀(i:Int) (t:Tok) (s:Shared) (Q:Value->Shared->Prop) (E:Value->Shared->Prop),Q (.int (g i) s.toks) {s with toks:=s.toks+1}->wpAny (model X.prog X.w) X.A (f (.int i t)) Q E s):
  Ph X f (rU fun i=>.int (g i)):=by
 intro pins s σ H x v Q I a h;obtain⟨i,rfl,q⟩:=h;obtain⟨t,rfl⟩:=a;exact rule i t s _ _ ⟨.int (g i),H,I.tok _,⟨_,rfl⟩,q⟩
def Ld:Ph X (unaryOp .USub) (rU fun i=>.int (-i)):=QV fun _ _ _ _ _ q=>neg_int q
end
def Nh:V->V->Bool
 |.non,.non=>true|.non,.int _=>true|.int _,.non=>true|.non,.bl _=>true|.bl _,.non=>true|.non,.str _=>true|.str _,.non=>true
 |.int _,.int _=>true|.bl _,.bl _=>true|.str _,.str _=>true|.byt _,.byt _=>true
 |.int _,.str _=>true|.str _,.int _=>true|.bl _,.str _=>true|.str _,.bl _=>true
 |_,_=>false
def Q5:R2:=fun x y H Q=>Nh x y=true/\Q (.bl (decide (x=y))) H
def QW:R2:=fun x y H Q=>Nh x y=true/\Q (.bl (!decide (x=y))) H
def qq{i j:Int}:decide (V.int i=V.int j)=(i==j):=by
 rw[Wy];simp
def EY{i j:Bool}:decide (V.bl i=V.bl j)=(i==j):=by
 rw[Wy];simp
def Az{i j:Str}:decide (V.str i=V.str j)=(i==j):=by
 rw[Wy];simp
def AV{i j:Array UInt8}:decide (V.byt i=V.byt j)=(i.toList==j.toList):=by
 rw[Wy];cases i;cases j;simp
section
variable{X:Cx}{a b c:Expr}{ta tb tc:TE}{pos:Pos}
def ba{k a:Bool}(I:Inv X pins σ H s)(q:Q (.bl k) H)(e:k=a):EP X pins σ Q (.bool a) s:=by
 subst e;exact⟨.bl k,H,I,rfl,q⟩
def Ow:ku X (compareOp .Eq) Q5:=by
 intro pins s σ H x y v u Q I c a h;obtain⟨b,q⟩:=h;cases x with
 |non =>
  cases c;cases y with
  |non=>cases a;exact PySem.EqNone.eq_none_none (ba I q (by simp))
  |bl j=>cases a;exact PySem.EqNone.eq_none_bool (ba I q (by simp))
  |int j=>obtain⟨t',rfl⟩:=a;exact PySem.EqNone.eq_none_int (ba I q (by simp))
  |str j=>obtain⟨t',rfl⟩:=a;exact PySem.EqNone.eq_none_str (ba I q (by simp))
  |_=>exact absurd (show false=true from b) VO
 |bl i =>
  cases c;cases y with
  |non=>cases a;exact PySem.EqNone.eq_bool_none (ba I q (by simp))
  |bl j=>cases a;exact eq_bool (ba I q EY)
  |str j=>obtain⟨t',rfl⟩:=a;exact PySem.EqMixed.eq_bool_str (ba I q (by simp))
  |_=>exact absurd (show false=true from b) VO
 |int i =>
  obtain⟨t,rfl⟩:=c;cases y with
  |non=>cases a;exact PySem.EqNone.eq_int_none (ba I q (by simp))
  |int j=>obtain⟨t',rfl⟩:=a;exact eq_int (ba I q qq)
  |str j=>obtain⟨t',rfl⟩:=a;exact PySem.EqMixed.eq_int_str (ba I q (by simp))
  |_=>exact absurd (show false=true from b) VO
 |str i =>
  obtain⟨t,rfl⟩:=c;cases y with
  |non=>cases a;exact PySem.EqNone.eq_str_none (ba I q (by simp))
  |bl j=>cases a;exact PySem.EqMixed.eq_str_bool (ba I q (by simp))
  |int j=>obtain⟨t',rfl⟩:=a;exact PySem.EqMixed.eq_str_int (ba I q (by simp))
  |str j=>obtain⟨t',rfl⟩:=a;exact eq_str (ba I q Az)
  |_=>exact absurd (show false=true from b) VO
 |byt i =>
  obtain⟨t,rfl⟩:=c;cases y with
  |byt j=>obtain⟨t',rfl⟩:=a;exact PySem.W.eq_bytes (ba I q AV)
  |_=>exact absurd (show false=true from b) VO
 |_=>cases y<;>exact absurd (show false=true from b) VO
def NV:ku X (compareOp .NotEq) QW:=by
 intro pins s σ H x y v u Q I c a h;obtain⟨b,q⟩:=h;cases x with
 |non =>
  cases c;cases y with
  |non=>cases a;exact PySem.EqNone.ne_none_none (ba I q (by simp))
  |bl j=>cases a;exact PySem.EqNone.ne_none_bool (ba I q (by simp))
  |int j=>obtain⟨t',rfl⟩:=a;exact PySem.EqNone.ne_none_int (ba I q (by simp))
  |str j=>obtain⟨t',rfl⟩:=a;exact PySem.EqNone.ne_none_str (ba I q (by simp))
  |_=>exact absurd (show false=true from b) VO
 |bl i =>
  cases c;cases y with
  |non=>cases a;exact PySem.EqNone.ne_bool_none (ba I q (by simp))
  |bl j=>cases a;exact ne_bool (ba I q (congrArg not EY))
  |str j=>obtain⟨t',rfl⟩:=a;exact PySem.EqMixed.ne_bool_str (ba I q (by simp))
  |_=>exact absurd (show false=true from b) VO
 |int i =>
  obtain⟨t,rfl⟩:=c;cases y with
  |non=>cases a;exact PySem.EqNone.ne_int_none (ba I q (by simp))
  |int j=>obtain⟨t',rfl⟩:=a;exact ne_int (ba I q (congrArg not qq))
  |str j=>obtain⟨t',rfl⟩:=a;exact PySem.EqMixed.ne_int_str (ba I q (by simp))
  |_=>exact absurd (show false=true from b) VO
 |str i =>
  obtain⟨t,rfl⟩:=c;cases y with
  |non=>cases a;exact PySem.EqNone.ne_str_none (ba I q (by simp))
  |bl j=>cases a;exact PySem.EqMixed.ne_str_bool (ba I q (by simp))
  |int j=>obtain⟨t',rfl⟩:=a;exact PySem.EqMixed.ne_str_int (ba I q (by simp))
  |str j=>obtain⟨t',rfl⟩:=a;exact ne_str (ba I q (congrArg not Az))
  |_=>exact absurd (show false=true from b) VO
 |byt i =>
  obtain⟨t,rfl⟩:=c;cases y with
  |byt j=>obtain⟨t',rfl⟩:=a;exact PySem.W.ne_bytes (ba I q (congrArg not AV))
  |_=>exact absurd (show false=true from b) VO
 |_=>cases y<;>exact absurd (show false=true from b) VO
def M8:ku X (compareOp .Lt) (GZ fun i j=>.bl (decide (i<j))):=Io fun _ _ _ _ _ _ _ q=>lt_int q
def NN:ku X (compareOp .LtE) (GZ fun i j=>.bl (decide (i<=j))):=Io fun _ _ _ _ _ _ _ q=>le_int q
def MW:ku X (compareOp .Gt) (GZ fun i j=>.bl (decide (j<i))):=Io fun _ _ _ _ _ _ _ q=>gt_int q
def N0:ku X (compareOp .GtE) (GZ fun i j=>.bl (decide (j<=i))):=Io fun _ _ _ _ _ _ _ q=>ge_int q
def Ez(b:Expr)(h:op≠.In:=by decide)(h2:op≠.NotIn:=by decide):behindInMarks op b=false:=by
 have e1:(op==CmpOp.In)=false:=by cases op<;>first|rfl|exact absurd rfl h
 have e2:(op==CmpOp.NotIn)=false:=by cases op<;>first|rfl|exact absurd rfl h2
 cases b<;>simp[behindInMarks,e1,e2]
def HD(d:ku X (compareOp op) r)(ha:PE X a ta)(i:PE X b tb)(g:behindInMarks op b=false):PE X (.Compare a [op] [b] pos) (O3 r ta tb):=by
 intro pins s σ H Q I h;exact wpAny_Compare1 (Ka ha i I h fun v u j x y H2 f c e q=>d pins j σ H2 x y v u Q f c e q) g
def IJ(t:TE):TT:=fun σ H Q=>t σ H fun x H'=>∃k,x=.bl k/\Q k H'
def G_(d:ku X (compareOp op) r)(ha:PE X a ta)(m:PE X b tb)(l:behindInMarks op b=false):PT X (.Compare a [op] [b] pos) (IJ (O3 r ta tb)):=by
 intro pins s σ H Q I h
 refine wpAny_isTrue_Compare1 (b8 (ha pins s σ H _ I h) fun v A ⟨x,H1,w,p,q1⟩=>b8 (m pins A σ H1 _ w q1) fun u o ⟨y,H2,i,f,g⟩ =>
  b8 (d pins o σ H2 x y v u _ i p f g) fun c B ⟨z,t,q,n,k,e,j⟩=>?_) l
 subst e;cases n;exact WZ ⟨t,q,j⟩
def CW(r d:R2)(ta tb tc:TE):TE:=fun σ H Q=>ta σ H fun x H1=>tb σ H1 fun y H2=>r x y H2 fun z a=>∃k,z=.bl k /\
 (if k=true then tc σ a fun c b=>d y c b Q else Q (.bl false) a)
def F1{f:CmpOp}{j:R2}(G:ku X (compareOp op) r)(g:ku X (compareOp f) j)(ha:PE X a ta)(L:PE X b tb)(C:PE X c tc)
  (A:lastMarks [op,f] [b,c]=false:=by with_unfolding_all rfl):PE X (.Compare a [op,f] [b,c] pos) (CW r j ta tb tc):=by
 intro pins s σ H Q I h
 refine Compare_chain (b8 (ha pins s σ H _ I h) fun v P ⟨x,H1,O,E,q1⟩=>chain_link (b8 (L pins P σ H1 _ O q1) fun u D ⟨y,H2,K,m,t⟩ =>
  b8 (G pins D σ H2 x y v u _ K E m t) fun d N ⟨z,n,l,B,k,e,i⟩=>?_)) A
 subst e;cases B;refine WZ ?_;cases k with
 |false=>exact ite_ff ⟨.bl false,n,l,rfl,i⟩
 |true=>exact ite_tt (chain_last (b8 (C pins N σ n _ l i) fun q F ⟨J,p,w,M,o⟩=>g pins F σ p y J u q Q w m M o))
def FZ{f:CmpOp}{j:R2}(M:ku X (compareOp op) r)(g:ku X (compareOp f) j)(ha:PE X a ta)(P:PE X b tb)(E:PE X c tc)
  (C:lastMarks [op,f] [b,c]=false:=by with_unfolding_all rfl):PT X (.Compare a [op,f] [b,c] pos) (IJ (CW r j ta tb tc)):=by
 intro pins s σ H Q I h
 refine isTrue_chain (b8 (ha pins s σ H _ I h) fun v W ⟨x,H1,V,J,q1⟩=>test_link (b8 (P pins W σ H1 _ V q1) fun u F ⟨y,H2,O,m,A⟩ =>
  b8 (M pins F σ H2 x y v u _ O J m A) fun d T ⟨z,n,l,D,k,e,i⟩=>?_)) C
 subst e;cases D;refine WZ ?_;cases k with
 |false =>
  obtain⟨Y,K,S⟩:=i;cases K;exact ite_ff ⟨n,l,S⟩
 |true =>
  refine ite_tt (test_last (b8 (E pins T σ n _ l i) fun w L ⟨N,t,B,R,p⟩=>b8 (g pins L σ t y N u w _ B m R p) fun d' s5 ⟨z2,G,q,U,Z,e2,o⟩=>?_));subst e2;cases U;exact WZ ⟨G,q,o⟩
def vv:(sizeLine:Nat)<2^63:=by rw[X0];decide
def vals1{x:V}(r:Vals [x] us):∃u,us=[u]/\RelV x u:=by
 cases r with
 |cons b a=>cases a;exact⟨_,rfl,b⟩
def vals2{x y:V}(r:Vals [x,y] us):∃u a,us=[u,a]/\RelV x u/\RelV y a:=by
 cases r with
 |cons c d =>
  cases d with
  |cons b e=>cases e;exact⟨_,_,rfl,c,b⟩
def Fd:jL X (.builtin "abs") (fun xs H Q=>∃i,xs=[.int i]/\Q (.int (if i<0 then -i else i)) H):=by
 intro pins s σ H xs us Q I r h;obtain⟨i,rfl,q⟩:=h;obtain⟨u,rfl,t,rfl⟩:=vals1 r;exact call_abs_int fun u tk=>⟨.int (if i<0 then -i else i),H,I.tok _,⟨_,rfl⟩,q⟩
def B9(b:X.calm=true):jL X (.builtin "max") (fun xs H Q=>∃i j,xs=[.int i,.int j]/\Q (.int (if j>i then j else i)) H):=by
 intro pins s σ H xs us Q I r h;obtain⟨i,j,rfl,q⟩:=h;obtain⟨u,c,rfl,⟨t,rfl⟩,⟨t',rfl⟩⟩:=vals2 r;refine max_two_ints (I.ok.hd b) fun h' tk k=>⟨_,H,I.kept k,?_,q⟩;by_cases a:j>i
 .rw[Vo a,Vo a];exact⟨_,rfl⟩
 .rw[Vm a,Vm a];exact⟨_,rfl⟩
def BU(b:X.calm=true):jL X (.builtin "min") (fun xs H Q=>∃i j,xs=[.int i,.int j]/\Q (.int (if j<i then j else i)) H):=by
 intro pins s σ H xs us Q I r h;obtain⟨i,j,rfl,q⟩:=h;obtain⟨u,c,rfl,⟨t,rfl⟩,⟨t',rfl⟩⟩:=vals2 r;refine min_two_ints (I.ok.hd b) fun h' tk k=>⟨_,H,I.kept k,?_,q⟩;by_cases a:j<i
 .rw[Vo a,Vo a];exact⟨_,rfl⟩
 .rw[Vm a,Vm a];exact⟨_,rfl⟩
variable{prog:Program}{w:World}{A:Around}{E:Value->Shared->Prop}{s:Shared}{K:PySem.W.Frag}{x dx C f:Addr}{mA:Str->Option Value}{name:Str}{v:Value}
end
section
variable{P:Program}{w:World}{H H':Hp}{h h':Heap}{a C dx:Addr}{fs fs':List (Str×V)}
variable{X:Cx}{pins:List (Addr×Obj)}{σ:St}{s:Shared}{f:Str}{v:V}{A:Around}{E:Value->Shared->Prop}
variable{o e value:Expr}{pos pos' tpos:Pos}{ta tv:TE}
variable{Q:Value->Shared->Prop}{c:Value}{b:Bool}
end
structure dv(k:Nat)(A:Around):Prop where
 hd:A.handled=none
 dp:A.depth+3*k+5<recursionLimit
 un:A.units+16*k+200<cLine
def dv.mono{j:Nat}(r:dv k A)(h:j<=k):dv j A:=⟨r.hd,by have:=r.dp;lia,by have:=r.un;lia⟩
theorem dv.deeper{k:Nat}{A:Around}(r:dv (k+1) A)(env:Env):dv k (A.deeper env) :=
 ⟨r.hd,by have:=r.dp;show A.depth+1+3*k+5<_;lia,by have:=r.un;show A.units+3+16*k+200<_;lia⟩
theorem dv.depth{k:Nat}{A:Around}(r:dv k A):A.depth<recursionLimit:=by have:=r.dp;lia
def Nx:TA:=fun _ H Q=>Q [] H
def OC(ta:TE)(tr:TA):TA:=fun σ H Q=>ta σ H fun x H1=>tr σ H1 fun xs H2=>Q (x::xs) H2
section
variable{X:Cx}{e:Expr}{es:List Expr}{te:TE}{t:TA}{pos:Pos}
def bq:PA X [] Nx:=fun _ _ _ _ H Q I h=>Calls.spliced_nil ⟨[],H,I,.nil,h⟩
def aB(ha:PE X e te)(f:PA X es t)(a:starEach (e::es) X.env=(false,eval e X.env)::starEach es X.env:=by rfl):PA X (e::es) (OC te t):=by
 intro pos pins s σ H Q I h;rw[a];show wpAny _ _ (spliced ((false,eval e X.env)::backTo pos (starEach es X.env))) _ _ s;refine Calls.spliced_cons (b8 (ha pins s σ H _ I h) fun u j ⟨x,H1,i,g,q1⟩=>?_);exact b8 (f pos pins j σ H1 _ i q1) fun us k ⟨xs,H2,d,b,c⟩=>⟨x::xs,H2,d,.cons g b,c⟩
def Pq(t:TA):TE:=fun σ H Q=>t σ H fun xs H1=>xs.length<=sizeLine/\∀p,H1 p=none->Q (.ref p) (upd H1 p (.tup xs))
def P5(t:TA):TE:=fun σ H Q=>t σ H fun xs H1=>xs.length<=sizeLine/\∀p,H1 p=none->Q (.ref p) (upd H1 p (.lst xs))
def Lu{x1}(h:PA X es t):PE X (.Tuple es x1 pos) (Pq t):=by
 intro pins s σ H Q I d;refine wpAny_Tuple_spliced (b8 (h pos pins s σ H _ I d) fun us a ⟨xs,H1,c,r,z,q⟩=>⟨by rw[<-r.length];exact z,?_⟩);have f:H1 a.heap.objs.size=none:=c.hok.fresh (Vu _);refine⟨.ref a.heap.objs.size,upd H1 a.heap.objs.size (.tup xs),c.laid (t':=a.toks) (fun b u e=>Vt _ e) (Vu _) ?_,rfl,q _ f⟩;exact⟨z,us,r,⟨_,VM _ rfl,rfl,_,rfl⟩⟩
def yi(h:PA X es t):PE X (.List es pos) (P5 t):=by
 intro pins s σ H Q I d;refine wpAny_List_spliced (b8 (h pos pins s σ H _ I d) fun us a ⟨xs,H1,c,r,z,q⟩=>⟨by rw[<-r.length];exact z,?_⟩);have f:H1 a.heap.objs.size=none:=c.hok.fresh (Vu _);refine⟨.ref a.heap.objs.size,upd H1 a.heap.objs.size (.lst xs),c.laid (t':=a.toks) (fun b u e=>Vt _ e) (Vu _) ?_,rfl,q _ f⟩;exact⟨z,us,0,r,VM _ rfl⟩
end
abbrev Sp:=List V->Hp->VK->XK->Prop
abbrev Cq:=List Env->Hp->Shared->XK->Value->Shared->Prop
structure Hd(P:Program)(w:World)(K:PySem.W.Frag)(mg:Str->Option Value)(base:Heap)(A:Around)(outer:List Env)(s:Shared)(H:Hp):Prop where
 frames:A.frames=some outer
 mod:Mod K mg base
 bs:∀b o,base.get? b=some o->s.heap.get? b=some o/\H b=none
 bsz:base.objs.size<=s.heap.objs.size
 nQ:s.heap.FunFrames base outer
 frf:∀b∈zY outer,H b=none
 hok:kJ P w H s.heap
 bare:AllBare s.gens
def CE(outer:List Env)(P:Program)(w:World)(H:Hp)(s:Shared)(Q:VK)(u:Value)(s':Shared):Prop :=
 ∃v H',s'.os=s.os/\AllBare s'.gens/\Un (zY outer) [] H H' s.heap s'.heap/\kJ P w H' s'.heap/\RelV v u/\Q v H'
def CR(CX:Cq)(outer:List Env)(P:Program)(w:World)(H:Hp)(s:Shared)(Q:VK)(E:XK)(r:Result)(s':Shared):Prop :=
 match r with
 |.ok (.ret u)=>CE outer P w H s Q u s'
 |.ok _=>False
 |.error e=>CX outer H s E e s'
structure ff(P:Program)(w:World)(K:PySem.W.Frag)(mg:Str->Option Value)(base:Heap)(CX:Cq)(k:Nat)(f:Addr)(fd:FuncData)(ps:List Str)(sp:Sp):Prop where
 len:∀vs H Q E,sp vs H Q E->vs.length=ps.length
 run:∀(A:Around) (outer:List Env) (s:Shared) (H:Hp) (args:Args) (us:List Value) (vs:List V) (Q:VK) (E:XK),dv k A->Hd P w K mg base A outer s H->BindsTo s fd args (ps.zip us)->Vals vs us->sp vs H Q E ->
  codeAny (model P w) A (.call (.ref f) args) (CR CX outer P w H s Q E) s
section
variable{X:Cx}{pins:List (Addr×Obj)}{σ:St}{H:Hp}{s s':Shared}
def Inv.Ql(I:Inv X pins σ H s):Hd X.prog X.w X.K X.mg X.base X.A X.stack s H :=
 ⟨I.ok.frames,I.ok.mod,I.bs,V7 I.ok.bsz I.sz,I.stack,I.AH,I.hok,I.bare⟩
def Inv.after(I:Inv X pins σ H s)(h:CE X.stack X.prog X.w H s Q u s'):EP X pins σ Q u s':=by
 obtain⟨v,H',os,bare,un,a,r,q⟩:=h;obtain⟨e,g,d,t,c⟩:=s';obtain rfl:c=s.os:=os;exact⟨v,H',I.call (h':=e) (g':=g) (d':=d) (t':=t) (ch:=[]) un a bare (fun b z=>absurd z (by simp)),r,q⟩
end
def Jk(sp:Sp)(dvs:List V)(E:XK)(t:TA):TE:=fun σ H Q=>t σ H fun vs H1=>sp (vs++dvs) H1 Q E
def Binds(K:PySem.W.Frag)(fd:FuncData)(ps:List Str)(ds:List Value):Prop :=
 ∀(s:Shared) (us:List Value),K.In s.heap->(us++ds).length=ps.length->BindsTo s fd ⟨us,[]⟩ (ps.zip (us++ds))
def Binds.all{fd:FuncData}{ps:List Str}(h:∀us:List Value,us.length=ps.length->bindArgs fd ⟨us,[]⟩=pure (ps.zip us)):Binds K fd ps []:=fun s us _ a=>by
 rw[Yu] at a ⊢;exact .of_eq (h us a)
def Passes(CX:Cq)(X:Cx)(E:XK):Prop:=∀(pins:List (Addr×Obj)) (σ:St) (H:Hp) (s:Shared) (e:Value) (s':Shared),Inv X pins σ H s->CX X.stack H s E e s'->X.xe e s'
section
variable{X:Cx}{CX:Cq}{k:Nat}{f C:Addr}{fd:FuncData}{ps:List Str}{sp:Sp}{dvs:List V}{ds:List Value}{E:XK}{x m:Str}{p pos apos:Pos}{e o:Expr}{es:List Expr}{ta:TE}{t:TA}
def FR{vs:List V}(F:ff X.prog X.w X.K X.mg X.base CX k f fd ps sp)(g:dv k X.A)(i:Binds X.K fd ps ds)(d:Vals dvs ds)(j:Passes CX X E)
  (I:Inv X pins σ H s) (r:Vals vs us) (h:sp (vs++dvs) H Q E):wpAny (model X.prog X.w) X.A (call (.ref f) us) (EP X pins σ Q) X.xe s:=by
 have b:Vals (vs++dvs) (us++ds):=r.append d;have l:(us++ds).length=ps.length:=by rw[<-b.length];exact F.len _ _ _ _ h
 refine wpAny_call (Y3 (F.run X.A X.stack s H ⟨us,[]⟩ (us++ds) (vs++dvs) Q E g I.Ql (i s us I.Mi l) b h) fun r s' a=>?_);cases r with
 |error e=>exact j pins σ H s e s' I a
 |ok c =>
  cases c with
  |ret u=>exact I.after a
  |next=>exact False.elim a
  |brk=>exact False.elim a
  |cont=>exact False.elim a
def f9(F:ff X.prog X.w X.K X.mg X.base CX k f fd ps sp)(g:dv k X.A)(l:Gl X x)(i:X.mg x=some (.ref f))(d:PySem.W.keepIn X.K (.ref f)=true)(j:Binds X.K fd ps ds)(c:Vals dvs ds)(m:Passes CX X E)
  (ha:PA X (e::es) t) (a:(x==("__debug__":Str))=false:=by decide) (he:starEach (e::es) X.env=(false,eval e X.env)::starEach es X.env:=by rfl) (hpl:(backTo pos (starEach es X.env)).any (·.1)=false:=by rfl):
  PE X (.Call (.Name x p) (e::es) [] pos) (Jk sp dvs E t):=by
 intro pins s σ H Q I h;refine XA (vR I l i ?_ a);refine PySem.W.callWith_K (h₀:=X.base) I.ok.mod.kin d (b8 (ha pos pins s σ H _ I h) fun us n ⟨vs,H1,b,r,q⟩=>⟨b.Mi,?_⟩) he hpl;exact FR F g j c m b r q
def E1(F:ff X.prog X.w X.K X.mg X.base CX k f fd ps sp)(i:dv k X.A)(b:Gl X x)(d:X.mg x=some (.ref f))(g:PySem.W.keepIn X.K (.ref f)=true)(j:Binds X.K fd ps ds)(e:Vals dvs ds)(c:Passes CX X E)
  (a:(x==("__debug__":Str))=false:=by decide):PE X (.Call (.Name x p) [] [] pos) (Jk sp dvs E Nx):=by
 intro pins s σ H Q I h;refine XA (vR I b d ?_ a);exact PySem.W.callWith_K0 I.Mi g (FR (us:=[]) F i j e c I .nil h)
variable{ks:List Str}{kpos:Pos}{kws:List Keyword}{te:TE}{tk:TA}{nm:Option Str}{g:List Value->List Value->List Value}{gV:List V->List V->List V}
end
structure aj(N P:List Str)(sc:Scope):Prop where
 kind:sc.kind=.function
 co:sc.isCoroutine=false
 gen:sc.isGenerator=false
 nd:N.Nodup
 pre:N.take P.length=P
 par:∀x∈P,sc.names.lookup x=some .local\/sc.names.lookup x=some .cell
 nofree:∀y∈sc.names,y.2≠.free
theorem t8{kindOf:Str->Option NameKind}{x:Str}:∀{binds:List (Str×Value)} {m:Str->Option Value},(∀v,(x,v)∉binds)->bindL kindOf binds m x=m x
 |[],_,_=>rfl
 | (n,v) :: r,m,h=>by
  unfold bindL;rw[t8 fun w a=>h w (Vw _ a)];split
  .have:x≠n:=by rintro rfl;exact h v VC
   simp[this]
  .rfl
theorem s_{kindOf:Str->Option NameKind}{x:Str}:∀{binds:List (Str×Value)} {m:Str->Option Value},(∀v,(x,v)∉binds)->bindC kindOf binds m x=m x
 |[],_,_=>rfl
 | (n,v) :: r,m,h=>by
  unfold bindC;rw[s_ fun w a=>h w (Vw _ a)];split
  .rfl
  .have:x≠n:=by rintro rfl;exact h v VC
   simp[this]
theorem sX{kindOf:Str->Option NameKind}{x:Str}{v:Value}:∀{P:List Str} {vs:List Value} {i:Nat} {m:Str->Option Value},P.Nodup->P[i]?=some x->vs[i]?=some v->kindOf x=some .local ->
  bindL kindOf (P.zip vs) m x=some v
 |[],_,_,_,_,h,_,_=>by simp at h
 |_::_,[],_,_,_,_,h,_=>by simp at h
 |p::P,w::vs,0,m,b,h1,h2,a=>by
  simp at h1 h2;subst h1;subst h2;show bindL kindOf ((p,w)::P.zip vs) m p=_;unfold bindL;rw[t8 fun v c=>(WL.mp b).1 (Zv c).1,Vo a];simp
 |p::P,w::vs,i+1,m,b,h1,h2,a=>by
  show bindL kindOf ((p,w)::P.zip vs) m x=_;unfold bindL;exact sX (i:=i) (WL.mp b).2 (by simpa using h1) (by simpa using h2) a
theorem tE{kindOf:Str->Option NameKind}{x:Str}{v:Value}:∀{P:List Str} {vs:List Value} {i:Nat} {m:Str->Option Value},P.Nodup->P[i]?=some x->vs[i]?=some v->kindOf x≠some .local ->
  bindC kindOf (P.zip vs) m x=some v
 |[],_,_,_,_,h,_,_=>by simp at h
 |_::_,[],_,_,_,_,h,_=>by simp at h
 |p::P,w::vs,0,m,b,h1,h2,a=>by
  simp at h1 h2;subst h1;subst h2;show bindC kindOf ((p,w)::P.zip vs) m p=_;unfold bindC;rw[s_ fun v c=>(WL.mp b).1 (Zv c).1,Vm a];simp
 |p::P,w::vs,i+1,m,b,h1,h2,a=>by
  show bindC kindOf ((p,w)::P.zip vs) m x=_;unfold bindC;exact tE (i:=i) (WL.mp b).2 (by simpa using h1) (by simpa using h2) a
def start(N:List Str)(vs:List V):St:=vs.map some++List.replicate (N.length-vs.length) none
def sM(CX:Cq)(P:Program)(w:World)(K:PySem.W.Frag)(mg:Str->Option Value)(base:Heap)(N:List Str)(qual:Str)(scope:Scope)(f:Addr)(cd:Value)(A:Around)(outer:List Env)(s:Shared)(H:Hp)(E:XK):Cx where
 prog:=P
 w:=w
 K:=K
 mg:=mg
 base:=base
 A:=A.deeper (envOfC qual scope s.heap.objs.size f cd)
 N:=N
 s₀:=s
 H₀:=H
 env:=envOfC qual scope s.heap.objs.size f cd
 outer:=outer
 stack:=envOfC qual scope s.heap.objs.size f cd::outer
 ex:=[]
 calm:=true
 fn:=fun _=>true
 pn:=[]
 xe:=fun e s'=>wpAny (model P w) (A.deeper (envOfC qual scope s.heap.objs.size f cd)) (leaving (envOfC qual scope s.heap.objs.size f cd) e) (fun _ a=>CX outer H s E e a) (fun b a=>CX outer H s E b a) s'
def xI{a:Scope}(h:a.names.lookup x=some .cell):∃c,(cellsFrom n a.names []).lookup x=some c:=by
 have q:=YB a.names n [] (.inl h);exact Yj.mp q
def Bv{CX:Cq}{mg:Str->Option Value}{base:Heap}{N ps:List Str}{qual:Str}{scope:Scope}{f:Addr}{cd:Value}{outer:List Env}{t:Shared}{E:XK}{vs:List V}
  (S:aj N ps scope) (B:A.handled=none) (d:Hd P w K mg base A outer s H) (D:vs.length=ps.length) (r:Vals vs us)
  (x:InCallC s s.heap.objs.size (bindL (envOfC qual scope s.heap.objs.size f cd).kindOf (ps.zip us) fun _=>none) (cellsFrom (s.heap.objs.size+1) scope.names []) (bindC (envOfC qual scope s.heap.objs.size f cd).kindOf (ps.zip us) fun _=>none) t):
  Inv (sM CX P w K mg base N qual scope f cd A outer s H E) [] (start N vs) H t:=by
 have hpl:ps.length<=N.length:=by have:=congrArg List.length S.pre;rw[Xz] at this;lia
 obtain⟨h1,tk,rfl,m⟩:=x.done;have j:∀b:Addr,b∉(sM CX P w K mg base N qual scope f cd A outer s H E).ex:=fun b z=>absurd (show b∈([]:List Addr) from z) (by simp)
 refine⟨⟨d.mod,S.kind,rfl,rfl,Vu _,fun y z c h1 h2=>?_,fun y g=>?_,fun y c _ h=>?_,fun _=>B,Around.frames_deeper d.frames,.inr ⟨rfl,rfl⟩,fun b z=>absurd z (j b),d.bs,d.bsz,fun b _ _=>j b,fun b z=>absurd z (j b),d.nQ,d.frf⟩,
  rfl,d.bare,Un.kept m,⟨_,x.toInCall.ns,fun i y v h1 h2 F=>?_⟩,fun y c h=>⟨_,x.cell y c h⟩,d.hok.fresh (Vu _),fun y c h=>?_,fun p hp=>absurd (show p∈([]:List (Addr×Obj)) from hp) (by simp),d.hok.kept m,?_⟩
 .exact name_of_addr x.apart (XR h1) (XR h2)
 .have g:scope.names.lookup y=some .cell\/scope.names.lookup y=some .free:=g;rcases g with g|g
  .exact xI g
  .exact absurd rfl (S.nofree _ (XR g))
 .exact W4 (x.above y c (XR h))
 .have hi:i<vs.length:=by
   unfold start at h2;by_cases hi:i<vs.length
   .exact hi
   .rw[Xd (by simpa using hi)] at h2;rw[List.getElem?_replicate] at h2;split at h2<;>cases h2
  have ha:vs[i]?=some v:=by
   unfold start at h2;rw[Xh (by simpa using hi),VJ] at h2;cases e:vs[i]? with
   |none=>rw[e] at h2;cases h2
   |some a=>rw[e] at h2;cases h2;rfl
  obtain⟨u,o,C⟩:=r.get ha
  have hp:ps[i]?=some y:=by
   rw[<-S.pre,aao (by lia)];exact h1
  have l:ps.Nodup:=by rw[<-S.pre];exact S.nd.sublist (List.take_sublist _ _)
  refine⟨u,C,?_⟩;rcases S.par y (Vv hp) with k|k
  .exact .inl ⟨k,sX l hp o k⟩
  .obtain⟨c,e⟩:=xI (n:=s.heap.objs.size+1) k;refine .inr ⟨.inl k,c,e,?_⟩;have q:=x.cell y c e;rw[tE l hp o (by show scope.names.lookup y≠_;rw[k];decide)] at q;exact q
 .exact d.hok.fresh (W4 (x.above y c (XR h)))
 .unfold start;show _=N.length;rw[V5,Vx,aaQ];lia
def N5{CX:Cq}{mg:Str->Option Value}{base:Heap}{f:Addr}{name qual:Str}{params:Arguments}{scope:Scope}{z kV doc B a ct G:Value}{C od:Option Addr}
  {m:Array (Option Value)} {N ps:List Str} {sp:Sp} (X:K.lookup f=some ⟨G,od,.func (PySem.W.fnOf name qual params body scope z kV doc B C a ct),m⟩) (j:PySem.W.codeIn K a qual=true) (S:aj N ps scope)
  (len:∀vs H Q E,sp vs H Q E->vs.length=ps.length)
  (c:∀(A:Around) (outer:List Env) (s:Shared) (H:Hp) (vs:List V) (Q:VK) (E:XK),dv k (A.deeper (envOfC qual scope s.heap.objs.size f a))->sp vs H Q E ->
   ∃t,p4 (sM CX P w K mg base N qual scope f a A outer s H E) body t/\t {nx:=fun _ H'=>Q .non H',rt:=Q} (start N vs) H):
  ff P w K mg base CX (k+1) f (PySem.W.fnOf name qual params body scope z kV doc B C a ct) ps sp:=by
 refine⟨len,fun A outer s H args us vs Q E l i T r h=>?_⟩;have M:=len _ _ _ _ h;have D:K.In s.heap:=i.mod.kin.keeps fun b o e=>(i.bs b o e).1;have lim:s.heap.NoLimit:=i.mod.nolimit.keeps fun b o e=>(i.bs b o e).1
 have d:∀y∈ps.zip us,scope.names.lookup y.1=some .local\/(scope.names.lookup y.1=some .cell/\((cellsFrom (s.heap.objs.size+1) scope.names []).lookup y.1).isSome=true):=fun⟨n,v⟩ U=>by
  rcases S.par n (Zv U).1 with q|q
  .exact .inl q
  .exact .inr ⟨q,YB _ _ _ (.inl q)⟩
 refine codeAny_call_function l.depth (D _ _ X) rfl S.co S.gen rfl (PySem.W.codeRec_of D j) (T _ _ _ _ ?_);refine wpAny_newFunctionEnv_cells S.kind d fun env he F x=>?_;subst he;refine⟨lim.keeps x.toInCall.keep,codeAny_func ?_⟩;obtain⟨t,L,R⟩:=c A outer s H vs Q E (l.deeper _) h;have I:Inv (sM CX P w K mg base N qual scope f a A outer s H E) [] (start N vs) H F:=Bv S l.hd i M r x;refine XF (L [] F (start N vs) H _ I R) (fun O s' g=>?_) fun e s' g=>g
 have fin:∀{σ':St} {H':Hp} {v:V} {u:Value},Inv (sM CX P w K mg base N qual scope f a A outer s H E) [] σ' H' s'->RelV v u->Q v H'->CE outer P w H s Q u s' :=
  fun {σ' H' v u} J p q=>⟨v,H',J.os,J.bare,J.base,J.hok,p,q⟩
 cases O with
 |ret u =>
  obtain⟨v,σ',H',J,p,q⟩:=g;exact fin J p q
 |next =>
  obtain⟨σ',H',J,q⟩:=g;exact fin (v:=V.non) (u:=Value.none) J rfl q
 |brk =>
  obtain⟨_,_,_,q⟩:=g;exact False.elim q
 |cont =>
  obtain⟨_,_,_,q⟩:=g;exact False.elim q
section
variable{X:Cx}{x:Str}{p pos:Pos}{e:Expr}{es:List Expr}{t:TA}{id T:String}{r:List V->Hp->VK->Prop}
def Qu(r:List V->Hp->VK->Prop)(t:TA):TE:=fun σ H Q=>t σ H fun vs H1=>r vs H1 Q
def fA(f:jL X (.builtin id) r)(d:Gl X x)(c:X.mg x=none)(b:bootBuiltins x=some (.builtin id))(ha:PA X (e::es) t)(i:x≠"__name__":=by decide)(a:(x==("__debug__":Str))=false:=by decide)
  (he:starEach (e::es) X.env=(false,eval e X.env)::starEach es X.env:=by rfl) (hpl:(backTo pos (starEach es X.env)).any (·.1)=false:=by rfl):PE X (.Call (.Name x p) (e::es) [] pos) (Qu r t):=by
 intro pins s σ H Q I h;refine XA (hV I d c b ?_ i a);exact Zw (b8 (ha pos pins s σ H _ I h) fun us k ⟨vs,H1,j,g,q1⟩=>f pins k σ H1 vs us Q j g q1) he hpl
def tq(f:jL X (.type T) r)(d:Gl X x)(c:X.mg x=none)(b:bootBuiltins x=some (.type T))(ha:PA X (e::es) t)(i:x≠"__name__":=by decide)(a:(x==("__debug__":Str))=false:=by decide)
  (he:starEach (e::es) X.env=(false,eval e X.env)::starEach es X.env:=by rfl) (hpl:(backTo pos (starEach es X.env)).any (·.1)=false:=by rfl):PE X (.Call (.Name x p) (e::es) [] pos) (Qu r t):=by
 intro pins s σ H Q I h;refine XA (hV I d c b ?_ i a);exact Xt (b8 (ha pos pins s σ H _ I h) fun us k ⟨vs,H1,j,g,q1⟩=>f pins k σ H1 vs us Q j g q1) he hpl
end
end L2
namespace HT
open PySem PyProof.Rows
section
open PySem.SeqAt
open PySem.AutoSeq1 (wpAny_loadPart')
open PySem.MeetsSeq PySem.MeetsSeq2 PySem.MeetsSeq3
end
section
variable{prog:Program}{w:World}{A:Around}{E:Value->Shared->Prop}{s:Shared}
def e8(n d:Nat):Option Int->Nat
 |none=>d
 |some v=>if v<0 then (v+(n:Int)).toNat else min v.toNat n
def mG(n d:Nat):e8 n d none=d:=rfl
def qp(n d k:Nat):e8 n d (some (k:Int))=min k n:=by
 show(if (k:Int)<0 then ((k:Int)+(n:Int)).toNat else min (k:Int).toNat n)=min k n;rw[Vm (by lia),Int.toNat_natCast]
def LA(n d:Nat)(b:d<=n)(o:Option Int):e8 n d o<=n:=by
 cases o with
 |none=>exact b
 |some v =>
  show(if v<0 then (v+(n:Int)).toNat else min v.toNat n)<=n;by_cases a:v<0
  .rw[Vo a];lia
  .rw[Vm a];exact Nat.min_le_right _ _
def zR(v:Int)(n d:Nat):(if v<0 then max (v+(n:Int)) 0 else min v (n:Int))=((e8 n d (some v):Nat):Int):=by
 show(if v<0 then max (v+(n:Int)) 0 else min v (n:Int))=(((if v<0 then (v+(n:Int)).toNat else min v.toNat n):Nat):Int);by_cases a:v<0
 .simp only[Vo a];lia
 .simp only[Vm a];lia
def yk(lo hi:Option Int)(n:Nat):Builtin.Slice.sliceAdjust lo hi 1 (n:Int)=(((e8 n 0 lo:Nat):Int),((e8 n n hi:Nat):Int)):=by
 have h1:¬((1:Int)<0):=by lia
 unfold Builtin.Slice.sliceAdjust;simp only[h1,XS];refine aap ?_ ?_
 .cases lo with
  |none=>rfl
  |some v=>exact zR v n 0
 .cases hi with
  |none=>rfl
  |some v=>exact zR v n n
def yL(i j:Nat):Builtin.Slice.slicePlaces (i:Int) (j:Int) 1=j-i:=by
 unfold Builtin.Slice.slicePlaces;have h1:(1:Int)>0:=by lia
 simp only[h1,Yr,Int.ediv_one];split<;>lia
def qE{v:Value}{o:Option Int}{Q:Option Int->Shared->Prop}(p:IsPart v o)(h:Q o s):wpAny (model prog w) A (Builtin.Slice.slicePartIndex v) Q E s:=by
 cases p with
 |none=>exact slicePart_none h
 |int i t=>exact slicePart_int h
def mZ{sl:Addr}{d c:Value}{lo hi:Option Int}{n:Nat}{Q:Int×Int×Nat->Shared->Prop}(e:s.heap.IsSliceOf sl d c .none)(pl:IsPart d lo)(pu:IsPart c hi)
  (h:Q (((e8 n 0 lo:Nat):Int),1,e8 n n hi-e8 n 0 lo) s):wpAny (model prog w) A (Builtin.Slice.sliceApplied (.ref sl) (pure (n:Int))) Q E s:=by
 obtain⟨os,b,f,a⟩:=id e;unfold Builtin.Slice.sliceApplied Builtin.Slice.sliceFields;refine Vl (Vl (wpAny_field b a (x:=d) rfl (Vl (wpAny_field b a (x:=c) rfl (Vl (wpAny_field b a (x:=.none) rfl (Vp ?_)))))));refine Vl (slicePart_none ?_);show wpAny _ _ (if ((1:Int)==0)=true then _ else _) _ _ s;rw[Vm (by decide)];refine Vl (qE pl (Vl (qE pu (Vl (Vp ?_)))));show wpAny _ _ (match Builtin.Slice.sliceAdjust lo hi 1 (n:Int) with|(lo,hi)=>pure (lo,(1:Int),Builtin.Slice.slicePlaces lo hi 1)) _ _ s;rw[yk lo hi n];show wpAny _ _ (pure (((e8 n 0 lo:Nat):Int),(1:Int),Builtin.Slice.slicePlaces ((e8 n 0 lo:Nat):Int) ((e8 n n hi:Nat):Int) 1)) _ _ s;rw[yL];exact Vp h
def Dh(xs:Array Value)(i k:Nat):((List.range k).filterMap fun(m:Nat)=>xs[((i:Int)+(m:Int)*1).toNat]?).toArray=((xs.toList.drop i).take k).toArray:=by
 have e:(fun(m:Nat)=>xs[((i:Int)+(m:Int)*1).toNat]?)=fun m=>xs[i+m]?:=by
  funext m;have:((i:Int)+(m:Int)*1).toNat=i+m:=by lia
  rw[this]
 rw[e];have:=pick_run xs i k;rw[List.filterMap_map] at this;have e2:((fun x=>xs[x]?)∘fun x=>i+x)=fun m=>xs[i+m]?:=rfl;rw[e2] at this;rw[this]
def mF{t sl:Addr}{items:Array Value}{j i:Value}{lo hi:Option Int}{Q:Value->Shared->Prop}(b:IsTup s.heap t items)(g:s.heap.IsSliceOf sl j i .none)(pl:IsPart j lo)(pu:IsPart i hi)
  (l:¬(e8 items.size 0 lo=0/\e8 items.size items.size hi=items.size))
  (h:Q (.ref s.heap.objs.size) {s with heap:=s.heap.push {cls:=.type "tuple",data:=.seq ((items.toList.drop (e8 items.size 0 lo)).take (e8 items.size items.size hi-e8 items.size 0 lo)).toArray}})
  (hsz:items.size<=sizeLine):wpAny (model prog w) A (getItem (.ref t) (.ref sl)) Q E s:=by
 have a:sizeOk (.seq ((items.toList.drop (e8 items.size 0 lo)).take (e8 items.size items.size hi-e8 items.size 0 lo)).toArray):=by
  show((items.toList.drop (e8 items.size 0 lo)).take (e8 items.size items.size hi-e8 items.size 0 lo)).toArray.size<=sizeLine;rw[VQ,Xz,XT,VI];lia
 have o:e8 items.size items.size hi<=items.size:=LA _ _ (Vu _) hi;obtain⟨os,c,f,k⟩:=id g;have d:s.TypeIs (.ref sl) "slice":=⟨os,c,f⟩;unfold getItem
 try with_reducible refine Xc ?_
 first|refine Vl (Vp ?_)|skip
 refine Vl (wpAny_sequenceKey b.typeIs (by decide) ?_)
 refine Vl (W_ (name:=Str.ofString "__getitem__") b.typeIs Yp
  (WW Yp b.typeIs entry_tuple_getitem ?_ (args_tuple_getitem _ _)))
 show wpAny _ _ (Builtin.Tuple.tupleItemsOf (.ref t) >>= _) _ _ s;refine Vl (tupleItemsOf_ b ?_);refine Vl (wpAny_typeOf d ?_);rw[Vo (by decide)];refine Vl (mZ g pl pu ?_)
 have e:¬((((e8 items.size 0 lo:Nat):Int)==0&&(1:Int)==1&&(e8 items.size items.size hi-e8 items.size 0 lo)==items.size)=true):=by
  intro q;rw[Wi,Wi] at q;have q1:((e8 items.size 0 lo:Nat):Int)=0:=eq_of_beq q.1.1;have n:e8 items.size items.size hi-e8 items.size 0 lo=items.size:=eq_of_beq q.2;exact l ⟨by lia,by lia⟩
 show wpAny _ _ (if (((e8 items.size 0 lo:Nat):Int)==0&&(1:Int)==1&&(e8 items.size items.size hi-e8 items.size 0 lo)==items.size)=true then _ else _) _ _ s;rw[Vm e,Dh]
 first
  |exact Vl (m:=Builtin.Tuple.tupleExact _) (WH (Vp ⟨_,rfl,Vp h⟩) a)
  |exact Vl (m:=Builtin.Tuple.tupleExact _) (WH (Vl (Vp (Vp ⟨_,rfl,Vp h⟩))) a)
  |exact Vl (Vl (m:=Builtin.Tuple.tupleExact _) (WH (Vp (Vp ⟨_,rfl,Vp h⟩)) a))
  |exact Vl (Vl (m:=Builtin.Tuple.tupleExact _) (WH (Vp ⟨_,rfl,Vp h⟩) a))
end
end HT
namespace L2
open PySem PySem.Spec PyProof.Rows
variable{n:Nat}{s:Shared}{its:List Value}{x:V}
abbrev TO:=St->Hp->(Option Int->Hp->Prop)->Prop
def PO(X:Cx)(e:Option Expr)(t:TO):Prop :=
 ∀(pins:List (Addr×Obj)) (s:Shared) (σ:St) (H:Hp) (Q:Option Int->Hp->Prop),Inv X pins σ H s->t σ H Q ->
  wpAny (model X.prog X.w) X.A (evalPart e X.env) (fun u s'=>∃o H',Inv X pins σ H' s'/\IsPart u o/\Q o H') X.xe s
def HX:TO:=fun _ H Q=>Q none H
def Ob(t:TE):TO:=fun σ H Q=>t σ H fun x H1=>∃i,x=.int i/\Q (some i) H1
def intsAre_of{ns:List Int}:∀{us:List Value},Vals (ns.map V.int) us->IntsAre us ns:=by
 induction ns with
 |nil=>intro us r;rw[YJ] at r;cases r;exact .nil
 |cons n ns b =>
  intro us r;rw[Wa] at r;cases r with
  |cons a c =>
   obtain⟨t,e⟩:=a;subst e;exact .cons n t (b c)
section
variable{X:Cx}{e:Expr}{te:TE}{lo hi:Option Expr}{tl th:TO}{pos p2:Pos}
def qh:PO X none HX:=by
 intro pins s σ H Q I h;rw[evalPart_none];exact Vp ⟨none,H,I,.none,h⟩
def qi(h:PE X e te):PO X (some e) (Ob te):=by
 intro pins s σ H Q I a;rw[evalPart_some];refine b8 (h pins s σ H _ I a) fun u d ⟨x,H1,c,b,q1⟩=>?_;obtain⟨i,rfl,q⟩:=q1;obtain⟨t,rfl⟩:=b;exact⟨some i,H1,c,.int i t,q⟩
def Pm(X:Cx)(r:V->Option Int->Option Int->Hp->VK->Prop):Prop :=
 ∀(pins:List (Addr×Obj)) (s:Shared) (σ:St) (H:Hp) (x:V) (v a b:Value) (lo hi:Option Int) (sl:Addr) (Q:VK),Inv X pins σ H s->RelV x v->s.heap.IsSliceOf sl a b .none->IsPart a lo->IsPart b hi->r x lo hi H Q ->
  ∃T id,typeLookup (.type T) "__getitem__"=pure (some (.builtin id))/\s.TypeIs v T/\wpAny (model X.prog X.w) X.A (getItem v (.ref sl)) (EP X pins σ Q) X.xe s
def Q9(r:V->Option Int->Option Int->Hp->VK->Prop)(te:TE)(tl th:TO):TE:=fun σ H Q=>te σ H fun x H1=>tl σ H1 fun l H2=>th σ H2 fun u a=>r x l u a Q
def mf{r:V->Option Int->Option Int->Hp->VK->Prop}(k:Pm X r)(he:PE X e te)(y:PO X lo tl)(z:PO X hi th):PE X (.Subscript e (.Slice lo hi none p2) pos) (Q9 r te tl th):=by
 intro pins s σ H Q I h;refine Subscript_ (b8 (he pins s σ H _ I h) fun v E ⟨x,H1,D,p,q1⟩=>?_);refine wpAny_Slice (b8 (y pins E σ H1 _ D q1) fun d n ⟨l,H2,B,pl,g⟩=>b8 (z pins n σ H2 _ B g) fun c a ⟨u,f,t,pu,j⟩=>?_);rw[evalPart_none];refine Vp ?_;have i:Inv X pins σ f {a with heap:=a.heap.push {cls:=.type "slice",data:=.fields #[d,c,.none]}}:=t.kept (t':=a.toks) fun b ob q=>Vt _ q;obtain⟨T,id,C,o,m⟩:=k pins {a with heap:=a.heap.push {cls:=.type "slice",data:=.fields #[d,c,.none]}} σ f x v d c l u a.heap.objs.size Q i p (Heap.IsSliceOf.new ..) pl pu j;show wpAny (model X.prog X.w) X.A (subscriptTail e (.Slice lo hi none p2) v (.ref a.heap.objs.size)) (EP X pins σ Q) X.xe {a with heap:=a.heap.push {cls:=.type "slice",data:=.fields #[d,c,.none]}};exact tail_any (ops:=[.ref a.heap.objs.size,v]) o C m (by with_unfolding_all rfl)
def jt(xs:List V)(lo hi:Option Int):List V:=(xs.drop (HT.e8 xs.length 0 lo)).take (HT.e8 xs.length xs.length hi-HT.e8 xs.length 0 lo)
def oD(xs:List V)(lo hi:Option Int):(jt xs lo hi).length<=xs.length:=by
 unfold jt;rw[Xz,XT];lia
def Qi(K:PySem.W.Frag):V->Option Int->Option Int->Hp->VK->Prop:=fun x lo hi H Q=>∃a xs,x=.ref a/\x_ K H a xs /\
 ¬(HT.e8 xs.length 0 lo=0/\HT.e8 xs.length xs.length hi=xs.length)/\∀p,H p=none->Q (.ref p) (upd H p (.tup (jt xs lo hi)))
def LR:Pm X (Qi X.K):=by
 intro pins s σ H x v k j lo hi sl Q I f e pl pu h;obtain⟨a,xs,rfl,i,g,q⟩:=h;cases f;obtain⟨its,r,d,hz⟩:=I.tuple i;have c:its.toArray.size=xs.length:=by rw[VQ];exact r.length.symm
 refine⟨"tuple",_,Yp.lookup,d.typeIs,?_⟩;refine HT.mF d e pl pu (by rw[c];exact g) ?_ (by rw[c];exact hz);rw[c];refine⟨.ref s.heap.objs.size,_,I.laid (t':=s.toks) (o:=.tup (jt xs lo hi)) (fun b ob q=>Vt _ q) (Vu _) ?_,rfl,q _ (I.hok.fresh (Vu _))⟩;exact⟨V7 (oD xs lo hi) hz,_,(r.drop (HT.e8 xs.length 0 lo)).take (HT.e8 xs.length xs.length hi-HT.e8 xs.length 0 lo),IsTup.new _ _⟩
end
def Cr(n:Nat)(i:Int):Option Nat:=if 0<=i then (if i<n then some i.toNat else none) else if -(n:Int)<=i then some (i+n).toNat else none
def zv{α:Type}(xs:List α)(i:Int):Option α:=(Cr xs.length i).bind fun j=>xs[j]?
def lU{i:Int}{j:Nat}(h:Cr n i=some j):seqIndex? i n=some j/\j<n/\-(n:Int)<=i/\i<n:=by
 unfold Cr at h;by_cases a:0<=i
 .rw[Vo a] at h;by_cases h1:i<n
  .rw[Vo h1] at h;have e:i.toNat=j:=VP h;exact⟨by rw[seqIndex_of a h1,e],by lia,by lia,h1⟩
  .rw[Vm h1] at h;cases h
 .rw[Vm a] at h;by_cases h1:-(n:Int)<=i
  .rw[Vo h1] at h;have e:(i+n).toNat=j:=VP h;exact⟨by rw[seqIndex_neg (by lia) h1,e],by lia,h1,by lia⟩
  .rw[Vm h1] at h;cases h
def my{α:Type}{xs:List α}{i:Int}{v:α}(h:zv xs i=some v):∃j,seqIndex? i xs.length=some j/\xs[j]?=some v/\j<xs.length/\-(xs.length:Int)<=i/\i<xs.length:=by
 unfold zv at h;cases e:Cr xs.length i with
 |none=>rw[e] at h;cases h
 |some j =>
  rw[e] at h;obtain⟨h1,h2,b,a⟩:=lU e;exact⟨j,h1,h,h2,b,a⟩
def GS{α:Type}{xs:List α}{j:Nat}{v:α}(h:xs[j]?=some v):zv xs (j:Int)=some v:=by
 have a:j<xs.length:=(VE.mp h).1
 have e:Cr xs.length (j:Int)=some j:=by
  unfold Cr;rw[Vo (by lia),Vo (by lia)];simp
 unfold zv;rw[e];exact h
def pZ(b:Expr):Prop:=∀o i,subscripted b false o i=operate [o,i] (getItem o i)
def Po(X:Cx)(r:R2):Prop :=
 ∀(value slice:Expr) (pins:List (Addr×Obj)) (s:Shared) (σ:St) (H:Hp) (x y:V) (v u:Value) (Q:VK),Inv X pins σ H s->RelV x v->RelV y u->r x y H Q ->
  subscripted slice false v u=operate [v,u] (getItem v u)->wpAny (model X.prog X.w) X.A (subscriptTail value slice v u) (EP X pins σ Q) X.xe s
def Qn(X:Cx)(id:String)(r:V->List V->Hp->VK->Prop):Prop :=
 ∀(pins:List (Addr×Obj)) (s:Shared) (σ:St) (H:Hp) (x:V) (xs:List V) (v:Value) (us:List Value) (Q:VK),Inv X pins σ H s->RelV x v->Vals xs us->r x xs H Q ->
  wpAny (model X.prog X.w) X.A (call (.builtin id) (v::us)) (EP X pins σ Q) X.xe s
section
variable{X:Cx}{a b:Expr}{ta tb:TE}{pos:Pos}
def wG{r:R2}(g:Po X r)(ha:PE X a ta)(i:PE X b tb)(c:pZ b):PE X (.Subscript a b pos) (O3 r ta tb):=by
 intro pins s σ H Q I h;exact Subscript_ (Ka ha i I h fun v u j x y H2 f d e q=>g a b pins j σ H2 x y v u Q f d e q (c _ _))
def Qo(K:PySem.W.Frag):R2:=fun x y H Q=>∃p xs i v,x=.ref p/\y=.int i/\dX K H p xs/\zv xs i=some v/\Q v H
def O_(K:PySem.W.Frag):R2:=fun x y H Q=>∃p xs i v,x=.ref p/\y=.int i/\x_ K H p xs/\zv xs i=some v/\Q v H
def zX:Po X (Qo X.K):=by
 intro value slice pins s σ H x y v u Q I f m h c;obtain⟨p,xs,i,z,rfl,rfl,l,he,q⟩:=h;cases f;obtain⟨t,rfl⟩:=m;obtain⟨its,r,pl,hz⟩:=I.list l;obtain⟨j,h1,h2,A,n,g⟩:=my he;obtain⟨w,e,a⟩:=r.get h2;have k:=r.length;have o:=vv;have fin:EP X pins σ Q w s:=⟨z,H,I,a,q⟩;by_cases d:0<=i
 .have b:i.toNat=j:=by
   rw[seqIndex_of d g] at h1;exact VP h1
  exact item_listR pl.isList d (by lia) (by rw[b];simpa using e) fin c
 .have b:(i+(its.toArray.size:Int)).toNat=j:=by
   rw[seqIndex_neg (by lia) n] at h1;rw[VQ,<-k];exact VP h1
  exact subscriptTail_builtinR (x:=w) pl.isList.typeIs slot_list_getitem.lookup
   (wpAny_getItem_list_neg (Q:=fun r s'=>r=w/\EP X pins σ Q r s') pl.isList (by lia) (by rw[VQ]<;>lia) (by lia) (by rw[b];simpa using e) ⟨rfl,fin⟩) c
def yW:Po X (O_ X.K):=by
 intro value slice pins s σ H x y v u Q I c f h b;obtain⟨p,xs,i,z,rfl,rfl,e,he,q⟩:=h;cases c;obtain⟨t,rfl⟩:=f;obtain⟨its,r,pl,hz⟩:=I.tuple e;obtain⟨j,h1,h2,n,l,k⟩:=my he;obtain⟨w,g,a⟩:=r.get h2;have d:=r.length;have m:=vv;have fin:EP X pins σ Q w s:=⟨z,H,I,a,q⟩
 exact subscriptTail_builtinR (x:=w) pl.typeIs slot_tuple_getitem.lookup
  (getItem_tuple (j:=j) (Q:=fun r s'=>r=w/\EP X pins σ Q r s') pl (by lia) (by lia) (by rw[VQ,<-d];exact h1) (by simpa using g) ⟨rfl,fin⟩) b
def yt(its:List Value)(n j:Nat)(u:Value):Obj.mapSeq (·.setIfInBounds j u) {cls:=.type "list",data:=.seq its.toArray n}={cls:=.type "list",data:=.seq (its.set j u).toArray n}:=by
 simp[Obj.mapSeq]
theorem Inv.lst{pins:List (Addr×Obj)}{σ:St}{H:Hp}{s:Shared}{p:Addr}{xs:List V}(I:Inv X pins σ H s)(h:H p=some (.lst xs)):
  ∃(its:List Value) (n:Nat),Vals xs its/\s.heap.get? p=some {cls:=.type "list",data:=.seq its.toArray n}/\xs.length<=sizeLine:=by
 obtain⟨z,its,n,r,e⟩:=I.hok p _ h;exact⟨its,n,r,e,z⟩
def Inv.Kw{pins:List (Addr×Obj)}{σ:St}{H:Hp}{p:Addr}{xs ys:List V}{its':List Value}{a:Nat}{f:Obj->Obj}(I:Inv X pins σ H s)(h:H p=some (.lst xs))
  (d:s.heap.get? p=some {cls:=.type "list",data:=.seq its.toArray n}) (c:f {cls:=.type "list",data:=.seq its.toArray n}={cls:=.type "list",data:=.seq its'.toArray a}) (r:Vals ys its') (hz:ys.length<=sizeLine) (t:Nat):
  Inv X pins σ (upd H p (.lst ys)) {s with heap:=s.heap.update p f,toks:=t}:=by
 have e:(s.heap.update p f).get? p=some {cls:=.type "list",data:=.seq its'.toArray a}:=by
  rw[Xm f d (by rw[c]<;>rfl),c]
 refine I.write (x:=p) (e:=p) (by rw[h];trivial) (.inl rfl) (fun b u g q=>(Heap.get?_update_other _ _ (Yi g)).trans q) ⟨_,e⟩ ?_;exact⟨hz,its',a,r,e⟩
def Of:V->V->V->Hp->(Hp->Prop)->Prop:=fun o i v H Q=>∃p xs k j,o=.ref p/\i=.int k/\H p=some (.lst xs)/\Cr xs.length k=some j/\Q (upd H p (.lst (xs.set j v)))
def set_list:N1 X Of:=by
 intro pins s σ H o i v y z u Q I w x m h;obtain⟨p,xs,k,j,rfl,rfl,hp,l,q⟩:=h;cases w;obtain⟨t,rfl⟩:=x;obtain⟨its,n,r,c,hz⟩:=I.lst hp;obtain⟨h1,h2,g,e⟩:=lU l;have b:=r.length;have A:=vv
 have d:Inv X pins σ (upd H p (.lst (xs.set j v))) {s with heap:=s.heap.update p (Obj.mapSeq (·.setIfInBounds j u))} :=
  I.Kw hp c (yt its n j u) (r.set m j) (by rw[WM];exact hz) s.toks
 by_cases f:0<=k
 .have a:k.toNat=j:=by
   rw[seqIndex_of f e] at h1;exact VP h1
  exact PySem.W.ki_setAt c f (by lia) (by rw[VQ,<-b];exact e) (by rw[a];exact⟨_,d,q⟩)
 .have a:(k+(its.toArray.size:Int)).toNat=j:=by
   rw[seqIndex_neg (by lia) g] at h1;rw[VQ,<-b];exact VP h1
  exact PySem.W.ki_setBack c (by lia) (by rw[VQ,<-b];exact g) (by lia) (by rw[a];exact⟨_,d,q⟩)
def uw(lo hi:Option Int)(n:Nat):(sliceBounds lo hi none n).1=((HT.e8 n 0 lo:Nat):Int)/\(sliceBounds lo hi none n).2.1=((HT.e8 n n hi:Nat):Int)/\(sliceBounds lo hi none n).2.2=1:=by
 refine⟨?_,?_,rfl⟩
 .cases lo with
  |none=>simp[sliceBounds,HT.e8]
  |some i =>
   simp only[sliceBounds,HT.e8,Option.getD_none,show(1:Int)>0 by decide,Yr];by_cases h:i<0
   .simp only[h,Yr]<;>lia
   .simp only[h,XS]<;>lia
 .cases hi with
  |none=>simp[sliceBounds,HT.e8]
  |some i =>
   simp only[sliceBounds,HT.e8,Option.getD_none,show(1:Int)>0 by decide,Yr];by_cases h:i<0
   .simp only[h,Yr]<;>lia
   .simp only[h,XS]<;>lia
def sA(its:List Value)(lo hi:Option Int):slicePick its.toArray lo hi none=((its.drop (HT.e8 its.length 0 lo)).take (HT.e8 its.length its.length hi-HT.e8 its.length 0 lo)).toArray:=by
 obtain⟨h1,h2,a⟩:=uw lo hi its.toArray.size;unfold slicePick;rw[h1,h2,a];simp only[sliceRange_one,pick_run,VQ]<;>rfl
def Px(K:PySem.W.Frag):V->Option Int->Option Int->Hp->VK->Prop:=fun x lo hi H Q=>∃a xs,x=.ref a/\dX K H a xs/\∀p,H p=none->Q (.ref p) (upd H p (.lst (jt xs lo hi)))
def vQ:Pm X (Px X.K):=by
 intro pins s σ H x v j i lo hi sl Q I f e pl pu h;obtain⟨a,xs,rfl,g,q⟩:=h;cases f;obtain⟨its,r,d,hz⟩:=I.list g;have c:=r.length;refine⟨"list",_,slot_list_getitem.lookup,d.isList.typeIs,?_⟩;refine wpAny_getItem_list_slice d.isList e pl pu .none (by simp) ?_ (by rw[VQ]<;>lia);rw[sA,<-c];refine⟨.ref s.heap.objs.size,_,I.laid (t':=s.toks) (o:=.lst (jt xs lo hi)) (fun b ob q=>Vt _ q) (Vu _) ?_,rfl,q _ (I.hok.fresh (Vu _))⟩;exact⟨V7 (oD xs lo hi) hz,_,0,(r.drop (HT.e8 xs.length 0 lo)).take (HT.e8 xs.length xs.length hi-HT.e8 xs.length 0 lo),VM _ rfl⟩
def oB:V->Bool
 |.non=>true
 |.bl _=>true
 |.int _=>true
 |.str _=>true
 |_=>false
def IH:V->V->Bool
 |.non,.non=>true
 |.bl a,.bl b=>a==b
 |.bl a,.int b=>(if a then 1 else 0)==b
 |.int a,.bl b=>a==(if b then 1 else 0)
 |.int a,.int b=>a==b
 |.str a,.str b=>a==b
 |_,_=>false
def LW{A:Around}{y:V}{u v:Value}(d:RelV y u)(c:RelV x v)(f:oB y=true)(e:oB x=true):SeqAt.EqAt A s u v (IH y x):=by
 cases y with
 |non =>
  cases d;cases x with
  |non=>cases c;exact SeqAt.EqAt.same _
  |bl b=>cases c;exact SeqAt.EqAt.none_bool b
  |int b=>obtain⟨t,rfl⟩:=c;exact SeqAt.EqAt.none_int b t
  |str b=>obtain⟨t,rfl⟩:=c;exact SeqAt.EqAt.none_str b t
  |_=>exact absurd (show false=true from e) VO
 |bl a =>
  cases d;cases x with
  |non=>cases c;exact SeqAt.EqAt.bool_none a
  |bl b=>cases c;exact SeqAt.EqAt.bool_bool a b
  |int b=>obtain⟨t,rfl⟩:=c;exact SeqAt.EqAt.bool_int a b t
  |str b=>obtain⟨t,rfl⟩:=c;exact SeqAt.EqAt.bool_str a b t
  |_=>exact absurd (show false=true from e) VO
 |int a =>
  obtain⟨t',rfl⟩:=d;cases x with
  |non=>cases c;exact SeqAt.EqAt.int_none a t'
  |bl b=>cases c;exact SeqAt.EqAt.int_bool a t' b
  |int b=>obtain⟨t,rfl⟩:=c;exact SeqAt.EqAt.int_int a t' b t
  |str b=>obtain⟨t,rfl⟩:=c;exact SeqAt.EqAt.int_str a t' b t
  |_=>exact absurd (show false=true from e) VO
 |str a =>
  obtain⟨t',rfl⟩:=d;cases x with
  |non=>cases c;exact SeqAt.EqAt.str_none a t'
  |bl b=>cases c;exact SeqAt.EqAt.str_bool a t' b
  |int b=>obtain⟨t,rfl⟩:=c;exact SeqAt.EqAt.str_int a t' b t
  |str b=>obtain⟨t,rfl⟩:=c;exact SeqAt.EqAt.str_str a t' b t
  |_=>exact absurd (show false=true from e) VO
 |_=>exact absurd (show false=true from f) VO
def Iz(x:V)(u:Value):Bool:=match u with
 |.none=>IH .non x
 |.bool b=>IH (.bl b) x
 |.int i _=>IH (.int i) x
 |.str z _=>IH (.str z) x
 |_=>false
def DV{y:V}{u:Value}(r:RelV y u)(f:oB y=true):Iz x u=IH y x:=by
 cases y with
 |non=>cases r;rfl
 |bl b=>cases r;rfl
 |int i=>obtain⟨t,rfl⟩:=r;rfl
 |str z=>obtain⟨t,rfl⟩:=r;rfl
 |_=>exact absurd (show false=true from f) VO
theorem uG{x:V}:∀{xs:List V} {us:List Value},Vals xs us->xs.all oB=true->us.any (Iz x)=xs.any fun y=>IH y x
 |_,_,.nil,_=>rfl
 |y::xs,u::us,.cons r t,f=>by
  rw[aa0,Wi] at f;rw[XO,XO,DV r f.1,uG t f.2]
theorem qL{A:Around}{s:Shared}{x:V}{v:Value}(b:RelV x v)(c:oB x=true):∀{xs:List V} {us:List Value},Vals xs us->xs.all oB=true->∀u∈us,SeqAt.EqAt A s u v (Iz x u)
 |_,_,.nil,_=>fun u a=>by cases a
 |y::xs,u::us,.cons r t,f=>fun d a=>by
  rw[aa0,Wi] at f;rcases Vq.mp a with rfl|a
  .rw[DV r f.1];exact LW r b f.1 c
  .exact qL b c t f.2 d a
def Qr(x:V)(xs:List V):Bool:=xs.any fun y=>IH y x
def Ra(K:PySem.W.Frag)(neg:Bool):R2:=fun x y H Q=>∃p xs,y=.ref p/\(dX K H p xs\/x_ K H p xs)/\oB x=true/\xs.all oB=true/\Q (.bl (if neg then !Qr x xs else Qr x xs)) H
def BO:ku X (compareOp .In) (Ra X.K false):=by
 intro pins s σ H x y v u Q I c e h;obtain⟨p,xs,rfl,a,d,fs,q⟩:=h;cases e;rcases a with a|a
 .obtain⟨its,r,pl,hz⟩:=I.list a;refine SeqAt.in_listAt (Iz x) pl.isList (fun w b=>qL c d r fs w (by simpa using b)) ⟨.bl _,H,I,rfl,?_⟩;rw[show its.toArray.any (Iz x)=its.any (Iz x) by simp,uG r fs];exact q
 .obtain⟨its,r,pl,hz⟩:=I.tuple a;refine SeqAt.in_tupleAt (Iz x) pl (fun w b=>qL c d r fs w (by simpa using b)) ⟨.bl _,H,I,rfl,?_⟩;rw[show its.toArray.any (Iz x)=its.any (Iz x) by simp,uG r fs];exact q
def vk:jL X (.builtin "len") (fun xs H Q=>∃p ys,xs=[.ref p]/\(dX X.K H p ys\/x_ X.K H p ys)/\Q (.int ys.length) H):=by
 intro pins s σ H xs us Q I r h;obtain⟨p,ys,rfl,b,q⟩:=h;obtain⟨u,rfl,d⟩:=vals1 r;cases d;have e:=vv;rcases b with b|b
 .obtain⟨its,c,pl,hz⟩:=I.list b;have a:=c.length;exact Calls.call_len_list pl.isList (by simp only[VQ]<;>lia) ⟨.int ys.length,H,I.tok _,⟨s.toks+1,by rw[VQ,a]⟩,q⟩
 .obtain⟨its,c,pl,hz⟩:=I.tuple b;have a:=c.length;exact len_tuple pl (by simp only[VQ]<;>lia) ⟨.int ys.length,H,I.tok _,⟨s.toks+1,by rw[VQ,a]⟩,q⟩
def lY:jL X (.type "list") (fun xs H Q=>∃p ys,xs=[.ref p]/\(dX X.K H p ys\/x_ X.K H p ys)/\∀l,H l=none->Q (.ref l) (upd H l (.lst ys))):=by
 intro pins s σ H xs us Q I r h;obtain⟨p,ys,rfl,d,q⟩:=h;obtain⟨u,rfl,j⟩:=vals1 r;cases j
 have fin:∀(its:List Value),Vals ys its->ys.length<=sizeLine->∀(h':Heap) (c':Nat),(∀b o',s.heap.get? b=some o'->h'.get? b=some o') ->
   h'.get? s.heap.objs.size=some {cls:=.type "list",dict:=none,data:=.seq its.toArray c',slots:=#[]}->EP X pins σ Q (.ref s.heap.objs.size) {s with heap:=h'}:=fun its a hz h' c' kp e =>
  ⟨.ref s.heap.objs.size,_,I.laid (t':=s.toks) kp (Vu _) (show bP X.prog X.w _ h' _ (.lst ys) from ⟨hz,its,c',a,e⟩),rfl,q _ (I.hok.fresh (Vu _))⟩
 rcases d with d|d
 .obtain⟨its,a,pl,hz⟩:=I.list d;have c:=a.length;obtain⟨o,f,i,n,g⟩:=pl.isList;exact call_list_seq p (.inl rfl) f i g (fun h' c' kp e=>fin its a hz h' c' kp e) (by simp only[VQ]<;>lia)
 .obtain⟨its,a,pl,hz⟩:=I.tuple d;have c:=a.length;obtain⟨o,f,i,n,g⟩:=pl;exact call_list_seq p (.inr rfl) f i g (fun h' c' kp e=>fin its a hz h' c' kp e) (by simp only[VQ]<;>lia)
def P6(K:PySem.W.Frag)(T:String)(x:V)(H:Hp):Prop:=match x with
 |.str _=>T="str"
 |.int _=>T="int"
 |.ref p=>(T="list"/\∃xs,dX K H p xs)\/(T="tuple"/\∃o,K.lookup p=some o/\o.cls=.type "tuple"/\o.dict=none) \/
   (T="dict"/\((∃kvs,H p=some (.dK kvs))\/∃kvs,H p=some (.dT kvs)))\/(T="set"/\∃S n,H p=some (.set S n))
 |_=>False
def F4{pins:List (Addr×Obj)}{σ:St}{H:Hp}{T:String}{v:Value}(I:Inv X pins σ H s)(r:RelV x v)(ty:P6 X.K T x H):
  s.TypeIs v T/\∀a,v=.ref a->∃ob,s.heap.get? a=some ob/\ob.dict=none:=by
 cases x with
 |str z =>
  obtain⟨t,rfl⟩:=r;cases (show T="str" from ty);exact⟨typeIs_str s z t,fun _ e=>nomatch e⟩
 |int i =>
  obtain⟨t,rfl⟩:=r;cases (show T="int" from ty);exact⟨typeIs_int s i t,fun _ e=>nomatch e⟩
 |ref p =>
  cases r;rcases ty with⟨rfl,xs,f⟩|⟨rfl,o,b,g,d⟩|⟨rfl,b⟩|⟨rfl,S,n,b⟩
  .obtain⟨its,_,pl,_⟩:=I.list f;refine⟨pl.isList.typeIs,fun a e=>?_⟩;cases e;obtain⟨o,n,e,c,d,_⟩:=pl;exact⟨o,e,d⟩
  .refine⟨⟨o,I.Mi p o b,g⟩,fun a e=>?_⟩;cases e;exact⟨o,I.Mi _ o b,d⟩
  .have z:∃o,s.heap.get? p=some o/\o.ExactDict:=by
    rcases b with⟨kvs,b⟩|⟨kvs,b⟩
    .obtain⟨_,_,_,_,o,_,_,e,ex,_⟩:=I.hok p _ b;exact⟨o,e,ex⟩
    .obtain⟨_,_,_,_,o,_,_,e,ex,_⟩:=I.hok p _ b;exact⟨o,e,ex⟩
   obtain⟨o,e,ex⟩:=z;refine⟨⟨o,e,ex.1⟩,fun a e2=>?_⟩;cases e2;exact⟨o,e,ex.2.1⟩
  .obtain⟨o,_,_,_,e,ex,_⟩:=I.hok p _ b;refine⟨⟨o,e,ex.1⟩,fun a e2=>?_⟩;cases e2;exact⟨o,e,ex.2.1⟩
 |_=>exact False.elim ty
def Qg(K:PySem.W.Frag)(T:String)(r:V->List V->Hp->VK->Prop)(to:TE):TE:=fun σ H Q=>to σ H fun x H1=>P6 K T x H1/\r x [] H1 Q
def QX(K:PySem.W.Frag)(T:String)(r:V->List V->Hp->VK->Prop)(to:TE)(t:TA):TE:=fun σ H Q=>to σ H fun x H1=>P6 K T x H1/\t σ H1 fun xs H2=>r x xs H2 Q
variable{o e:Expr}{es:List Expr}{to:TE}{t:TA}{name:Str}{apos cpos:Pos}{T id:String}{r:V->List V->Hp->VK->Prop}
def KR(f:PlainAttrs T)(slot:Slot T name id)(c:typeOf (.builtin id)=pure (.type "method_descriptor"))(i:Qn X id r)(g:PE X o to)
  (b:attributeBase o name X.env (eval o X.env)=eval o X.env:=by rfl) (a:(apos.endLine==cpos.line)=true:=by rfl):PE X (.Call (.Attribute o name apos) [] [] cpos) (Qg X.K T r to):=by
 intro pins s σ H Q I h;refine wpAny_Call_method0_late b a (b8 (g pins s σ H _ I h) fun v j ⟨x,H1,e,d,ty,q1⟩=>?_);obtain⟨h1,h2⟩:=F4 e d ty;exact⟨T,id,f,slot,c,h1,h2,Calls.callWith_builtin rfl (PySem.evalArgs_none (i pins j σ H1 x [] v [] Q e d .nil q1))⟩
def MP(p:PlainAttrs T)(slot:Slot T name id)(f:typeOf (.builtin id)=pure (.type "method_descriptor"))(m:Qn X id r)(q:PE X o to)(ha:PA X (e::es) t)
  (c:attributeBase o name X.env (eval o X.env)=eval o X.env:=by rfl)
  (d:((backTo cpos (starEach (e::es) X.env)).all (fun x=>!x.1)&&(backToKw cpos (keywordEach [] X.env)).all (fun x=>x.1.isSome)
   && decide ((e::es).length+([]:List Keyword).length+(if ([]:List Keyword).isEmpty then 0 else 1)<30))=true:=by rfl)
  (b:(apos.endLine==cpos.line)=true:=by rfl) (k:starEach (e::es) X.env=(false,eval e X.env)::starEach es X.env:=by rfl) (a:(backTo cpos (starEach es X.env)).any (·.1)=false:=by rfl):
  PE X (.Call (.Attribute o name apos) (e::es) [] cpos) (QX X.K T r to t):=by
 intro pins s σ H Q I h;refine wpAny_Call_method_late c d b rfl (b8 (q pins s σ H _ I h) fun v y ⟨x,H1,j,g,ty,q1⟩=>?_);obtain⟨h1,h2⟩:=F4 j g ty;refine⟨T,id,p,slot,f,h1,h2,?_⟩;have i:=ha cpos pins y σ H1 _ j q1;rw[k] at i ⊢;refine Calls.callWith_builtin (by show(false || (backTo cpos (starEach es X.env)).any (·.1))=false;rw[a]<;>rfl) (Calls.evalArgs_plain ?_);exact b8 i fun us n ⟨vs,H2,w,u,l⟩=>m pins n σ H2 x vs v us Q w g u l
end
def Q7(X:Cx)(id:String)(r:V->List V->Hp->VK->Prop):Prop :=
 ∀(pins:List (Addr×Obj)) (s:Shared) (σ:St) (H:Hp) (x:V) (xs:List V) (v:Value) (us:List Value) (Q:VK),Inv X pins σ H s->RelV x v->Vals xs us->r x xs H Q ->
  wpAny (model X.prog X.w) X.A (call (.builtin id) (v::us)) (EP X pins σ Q) X.xe s
def Vals.one:∀{x:V} {us:List Value},Vals [x] us->∃u,us=[u]/\RelV x u
 |_,_,.cons r .nil=>⟨_,rfl,r⟩
theorem Vals.rep{xs:List V}{us:List Value}(h:Vals xs us):∀k:Nat,Vals (List.replicate k xs).flatten (List.replicate k us).flatten
 |0=>.nil
 |k+1=>by
  rw[WR,WR,XJ,XJ];exact Vals.append h (Vals.rep h k)
theorem foldl_rep(its:List Value):∀(k:Nat) (a:List Value),
  List.foldl (fun b c=>b++c) a.toArray (List.replicate k its.toArray)=(a++(List.replicate k its).flatten).toArray
 |0,a=>by simp
 |k+1,a=>by
  have e:a.toArray++its.toArray=(a++its).toArray:=by simp
  have e2:(a++its)++(List.replicate k its).flatten=a++(List.replicate (k+1) its).flatten:=by
   rw[WR,XJ,Wh]
  rw[<-e2,<-foldl_rep its k (a++its),<-e,WR,aaE]
section
variable{X:Cx}{pins:List (Addr×Obj)}{σ:St}{H:Hp}{s:Shared}{l b:Addr}{xs ys zs:List V}
def Inv.O8{its':List Value}{f:Array Value->Array Value}{t':Nat}(I:Inv X pins σ H s)(g:H l=some (.lst xs))
  (e:s.heap.get? l=some {cls:=.type "list",data:=.seq its.toArray n}) (d:f its.toArray=its'.toArray) (c:Vals ys its') (hz:ys.length<=sizeLine):
  Inv X pins σ (upd H l (.lst ys)) {s with heap:=s.heap.update l (Obj.mapSeq f),toks:=t'}:=by
 have q:=PySem.IsL.update e f;rw[d] at q;refine I.write (x:=l) (e:=l) (by rw[g];exact trivial) (.inl rfl) (fun b' u a b=>(Heap.get?_update_other s.heap (Obj.mapSeq f) (Yi a)).trans b) ⟨_,q⟩ ?_;exact⟨hz,its',_,c,q⟩
def Inv.HZ{t':Nat}(I:Inv X pins σ H s)(a:Vals ys its)(hz:ys.length<=sizeLine):
  Inv X pins σ (upd H s.heap.objs.size (.lst ys)) {s with heap:=s.heap.push {cls:=.type "list",data:=.seq its.toArray},toks:=t'} :=
 I.laid (fun _ _ q=>Vt _ q) (Vu _) ⟨hz,its,0,a,VM _ rfl⟩
theorem Inv.fresh(I:Inv X pins σ H s):H s.heap.objs.size=none:=I.hok.fresh (Vu _)
def Inv.Ij(I:Inv X pins σ H s)(a:H l=some (.lst xs)):xs.length<=sizeLine/\∃(its:List Value) (n:Nat),Vals xs its/\xs.length=its.length/\s.heap.get? l=some {cls:=.type "list",data:=.seq its.toArray n}:=by
 obtain⟨z,its,n,r,e⟩:=I.hok l _ a;exact⟨z,its,n,r,r.length,e⟩
def DP(h:n<=sizeLine):Builtin.List.listTooLong n=false:=by
 unfold Builtin.List.listTooLong;exact VW (by lia)
def GN:V->List V->Hp->VK->Prop:=fun x vs H Q=>∃l xs y,x=.ref l/\vs=[y]/\H l=some (.lst xs)/\xs.length<sizeLine/\Q .non (upd H l (.lst (xs++[y])))
def tX:Q7 X "list.append" GN:=by
 intro pins s σ H x vs v us Q I b d h;obtain⟨l,xs,y,rfl,rfl,a,hz,q⟩:=h;cases b;obtain⟨u,rfl,c⟩:=d.one;obtain⟨z,its,n,r,f,e⟩:=I.Ij a;refine call_meets F.slot_list_append ⟨_,e,rfl⟩ F.entry_list_append (F.args_list_append_2 _ _) (PySem.list_append l its.toArray n u (by rw[VQ];lia)) ⟨e,?_⟩;refine⟨.non,_,I.O8 (its':=its++[u]) a e (by simp) (r.append (.cons c .nil)) ?_,rfl,q⟩;rw[V5,Zq];lia
def Qe:R2:=fun x y H Q=>∃l b xs zs,x=.ref l/\y=.ref b/\H l=some (.lst xs)/\H b=some (.lst zs)/\xs.length+zs.length<=sizeLine/\∀p,H p=none->Q (.ref p) (upd H p (.lst (xs++zs)))
def Ko:ku X (binaryOp .Add) Qe:=by
 intro pins s σ H x y v u Q I c g h;obtain⟨l,b,xs,zs,rfl,rfl,i,j,hz,q⟩:=h;cases c;cases g;obtain⟨z,its,n,r,p,e⟩:=I.Ij i;obtain⟨o,a,m,d,f,e2⟩:=I.Ij j;refine PySem.P.add_list e e2 ?_ (by rw[VQ,VQ];lia);have k:its.toArray++a.toArray=(its++a).toArray:=by simp
 rw[k];exact⟨.ref _,_,I.HZ (t':=s.toks) (r.append d) (by rw[V5];lia),rfl,q _ I.fresh⟩
def Qm:R2:=fun x y H Q=>∃l k xs,x=.ref l/\y=.int k/\H l=some (.lst xs)/\-(2^63)<=k/\k<2^63/\xs.length*k.toNat<=sizeLine /\
 ∀p,H p=none->Q (.ref p) (upd H p (.lst (List.replicate k.toNat xs).flatten))
def len_rep{α:Type}(xs:List α)(k:Nat):(List.replicate k xs).flatten.length=k*xs.length:=by
 induction k with
 |zero=>simp
 |succ k a=>rw[WR,XJ,V5,a,Nat.succ_mul,Nat.add_comm]
def LU:ku X (binaryOp .Mult) Qm:=by
 intro pins s σ H x y v u Q I o B h;obtain⟨l,k,xs,rfl,rfl,p,h1,h2,hz,q⟩:=h;cases o;obtain⟨t,rfl⟩:=B;obtain⟨z,its,n,r,w,e⟩:=I.Ij p;have c:its.toArray.size*k.toNat<=sizeLine:=by rw[VQ,<-w];exact hz
 have g:¬its.toArray.size*k.toNat>(2^63-1)/8:=by
  have:(sizeLine:Nat)<=(2^63-1)/8:=by decide
  lia
 have d:¬(!Builtin.List.listFitsIndex k)=true:=by
  rw[fitsIndex_both h1 h2];exact VO
 have b:¬Builtin.List.listTooLong (its.toArray.size*k.toNat)=true:=by
  rw[DP c];exact VO
 have f:List.foldl (fun i j=>i++j) #[] (List.replicate (if its.toArray.isEmpty=true then 0 else k.toNat) its.toArray)=(List.replicate k.toNat its).flatten.toArray:=by
  have A:∀m:Nat,List.foldl (fun i j=>i++j) #[] (List.replicate m its.toArray)=(List.replicate m its).flatten.toArray:=fun m=>by
   have:=foldl_rep its m [];rw[YX] at this;exact this
  rw[A];cases its with
  |nil=>simp
  |cons a C=>rw[Vm (by simp)]
 refine wpAny_binaryOp_repeat_ref (T:="list") (U:="int") (by decide) ⟨_,e,rfl⟩ (fun s'=>typeIs_int s' k t) noFill_list_mul F.fills_int_mul F.slot_int_rmul repeat_list F.slot_int_index.lookup
  (call_meets F.slot_int_rmul (typeIs_int s k t) F.entry_int_rmul (F.args_int_rmul_2 _ _) (int___rmul___int_list k t l its.toArray n)
   ⟨e,rfl,⟨_,e,rfl⟩,call_meets F.slot_list_mul ⟨_,e,rfl⟩ F.entry_list_mul (F.args_list_mul_2 _ _) (AutoListH.list___mul___list_int_3 l its.toArray n k t d g b) ⟨e,?_⟩⟩)
 rw[f];exact⟨.ref _,_,I.HZ (t':=s.toks) (r.rep k.toNat) (by rw[len_rep,Nat.mul_comm];exact hz),rfl,q _ I.fresh⟩
variable{prog:Program}{w:World}{A:Around}{E:Value->Shared->Prop}
end
end L2
namespace Att
open PySem PySem.W PySem.Calls PyProof.Rows
def pb{P:Params}{h:Heap}:∀(ns:List Int) (vs:List Value),WellAll P h vs (ns.map WData.int)->IntsAre vs ns:=by
 intro ns
 induction ns with
 |nil =>
  intro vs w;rw[YJ] at w;cases w;exact .nil
 |cons n ns c =>
  intro vs w;rw[Wa] at w;cases w with
  |cons a b =>
   cases a;exact .cons _ _ (c _ b)
def Cj{l:OpenLaw}{n:Nat}(p:l.most=some n){P:Params}{h:Heap}{args:List WData}{vals:List Value}
  (b:l.row.toRowW.claim.pre args=true) (i:WellAll P h vals args):
  ∃a vs ns,vals=[Value.ref a]/\args=[WData.list (ns.map WData.int)]/\h.get? a=some {cls:=.type "list",data:=.seq vs.toArray}/\IntsAre vs ns/\ns.length<=n:=by
 have j:WShape.hasAll [] args [.list .int]=true:=(pre_splitW b).1;have k:l.pre.holds [] {args:=args}=true:=(pre_splitW b).2;obtain⟨d,r,rfl,h1,h2⟩:=hasAllW_cons j;obtain rfl:=hasAllW_nil h2;obtain⟨xs,rfl,t⟩:=hasW_list h1;obtain⟨ns,rfl⟩:=items_int t
 have c:ns.length<=n:=by
  unfold OpenLaw.pre at k
  have g:(WTm.not (.lt (.lit (.int (n:Int))) (.len (.arg 0)))).holds [] {args:=[.list (ns.map .int)]}=true:=by
   have g:=(holds_andW k).1;rw[p] at g;exact g
  have f:=condW_of g (w_not (w_lt w_lit (w_len_list (w_arg rfl))));rw[Vx] at f;refine aaq fun q=>?_;have s:(n:Int)<((ns.length:Nat):Int):=by lia
  first
   |(rw[V3 s] at f;exact absurd f (by decide))
   |(simp at f;lia)
 cases i with
 |cons u m =>
  cases m;cases u with
  |list o e=>exact⟨_,_,ns,rfl,rfl,o,pb ns _ e,c⟩
def Cf(l:OpenLaw)(args:List WData):l.row.toRowW.claim.post args (.bool true) args=true :=
 postW_of (r:=l.row.toRowW) (X:=(true==true))
  (show WShape.has [] (.bool true) .bool=true by first|rfl|decide|simp[WShape.has,WShape.arms,WShape.armsAll])
  (show(WTm.eq .res (.lit (.bool true))).value [] {args:=args,res:=some (.bool true),after:=args}=some (.bool (true==true)) from w_eq_bool (w_res rfl) w_lit) rfl
def wj{l:OpenLaw}{n:Nat}{q:Program}{loose:List Str}{x:(Str->Option Value)->Heap->Prop}{v:World->Heap->Prop}{d:DefRec}
  (J:l.most=some n) (k:d.params.defaults=[])
  (call:∀(w:World) (t b:Shared) (mg p:Str->Option Value) (h:Addr) (o:Obj) (s cd doc:Value) (a:Addr) (vs:List Value) (ns:List Int),
   Ground q loose [] x w t mg p b.heap->v w b.heap ->
   b.heap.get? h=some o->o.data=.func (docDef d.name d.params d.body d.scope s cd doc)->b.heap.CodeRec cd d.name->mg d.name=some (.ref h) ->
   b.heap.get? a=some {cls:=.type "list",data:=.seq vs.toArray}->IntsAre vs ns->ns.length<=n->b.gens=#[] ->
   codeAny (model l.prog w) callerA (.call (.ref h) ⟨[.ref a],[]⟩) (fun r s'=>r=.ok (.ret (.bool true))/\OldK b.heap s'.heap/\s'.os=b.os/\AllBare s'.gens) b):
  WalkO q loose x v l.row.toRowW d [] (fun f vs=>PySem.call f vs):=by
 intro w t b mg p G Y h o s cd doc H kV E F j u i C args vals as g y z m A;obtain rfl:H=.none:=Dflts.none u k;obtain rfl:kV=.none:=Dflts.noKw u;obtain⟨a,vs,ns,rfl,rfl,e,hints,c⟩:=Cj J g m;refine enter_call (Y3 (call w t b mg p h o s cd doc a vs ns G Y E (fd_plain F) j i e hints c C) fun r s' D=>?_);obtain⟨rfl,h2,K,I⟩:=D;exact⟨.inl ⟨.bool true,.bool true,[],rfl,fun _=>rfl,.bool true,Cf l _,fun _=>⟨List.Pairwise.nil,fun _ B=>(nomatch B)⟩⟩,h2,K,I⟩
section
variable{prog:Program}{w:World}{A:Around}{E:Value->Shared->Prop}{s:Shared}{K:Frag}
end
end Att
namespace L2
open PySem PySem.Spec PyProof.Rows
variable{x qual:Str}{n k:Nat}{K:PySem.W.Frag}{X:Cx}{f:Addr}{H:Hp}{env:Env}{c:Int}
theorem t6:∀{vs:List Value} {ns:List Int},IntsAre vs ns->Vals (ns.map V.int) vs
 |_,_,.nil=>.nil
 |_,_,.cons n t h=>.cons ⟨t,rfl⟩ (t6 h)
def Hm(H:Hp):Prop:=∀b,H b=none\/∃o xs,H b=some (.frz o (.lst xs))
def Fp{P:Program}{w:World}{mg D:Str->Option Value}{CX:Cq}{M a:Addr}{fd:FuncData}{sp:Sp}{c:Shared}{vs:List Value}{ns:List Int}
  (S:K.In c.heap) (t:c.heap.Ns mainGlobals mg) (f:c.heap.Ns builtinsNs D) (E:∀x:Str,x≠"__name__"->D x=bootBuiltins x) (y:c.heap.NoLimit) (T:c.gens=#[])
  (ha:c.heap.get? a=some {cls:=.type "list",data:=.seq vs.toArray}) (hi:IntsAre vs ns) (R:ns.length<=sizeLine) (Y:dv k callerA)
  (F:∀base:Heap,K.In base->base.Ns mainGlobals mg->ff P w K mg base CX k M fd [x] sp) (i:∀(s:Shared) (u:Value),BindsTo s fd ⟨[u],[]⟩ [(x,u)])
  (J:∀H:Hp,Hm H->dX K H a (ns.map V.int)->sp [.ref a] H (fun v _=>v=.bl true) fun _ _ _=>False)
  (G:∀H e s',CX [] H c (fun _ _ _=>False) e s'->False):
  codeAny (model P w) callerA (.call (.ref M) ⟨[.ref a],[]⟩) (fun r s'=>r=.ok (.ret (.bool true))/\OldK c.heap s'.heap/\s'.os=c.os/\AllBare s'.gens) c:=by
 have Q:=t6 hi;have j:=hi.length
 -- from an abstract heap in which nothing but the script may be tracked
 have core:∀H:Hp,Hm H->dX K H a (ns.map V.int)->kJ P w H c.heap->(∀b,H b≠none->b=a)->(H a≠none->K.lookup a=none) ->
   codeAny (model P w) callerA (.call (.ref M) ⟨[.ref a],[]⟩) (fun r s'=>r=.ok (.ret (.bool true))/\OldK c.heap s'.heap/\s'.os=c.os/\AllBare s'.gens) c:=by
  intro H N X l O hK;have base_of:∀{b:Addr} {o:Obj},c.heap.get? b=some o->H b=none->(vI c.heap H).get? b=some o:=fun e n=>El e n
  have L:∀{b:Addr} {o:Obj} {es:Array DictEntry} {ep:Nat},c.heap.get? b=some o->o.data=.dict es ep->H b=none:=fun {b o es ep} e d=>by
   cases q:H b with
   |none=>rfl
   |some u =>
    have I:b=a:=O b (by rw[q];simp);subst I;rw[ha] at e;cases e;have d':Data.seq vs.toArray _=Data.dict es ep:=d;cases d'
  have g:∀{b:Addr} {m:Str->Option Value},c.heap.Ns b m->(vI c.heap H).Ns b m:=fun {b m} ⟨o,es,ep,e,d,r⟩=>⟨o,es,ep,base_of e (L e d),d,r⟩
  have A:K.In (vI c.heap H):=fun b o e=>base_of (S b o e) (by
   cases q:H b with
   |none=>rfl
   |some u =>
    have I:b=a:=O b (by rw[q];simp);subst I
    rw[hK (by rw[q];simp)] at e;cases e)
  have hM:Mod K mg (vI c.heap H):=⟨A,g t,⟨D,g f,E⟩,let ⟨mc,h1,h2⟩:=y;⟨mc,g h1,h2⟩⟩;have W:Hd P w K mg (vI c.heap H) callerA [] c H:=⟨rfl,hM,fun b o e=>Ii e,Zx (BM _ _),trivial,fun b f=>absurd (show b∈([]:List Addr) from f) (by simp),l,.of_eq T⟩;refine Y3 ((F _ A (g t)).run callerA [] c H ⟨[.ref a],[]⟩ [.ref a] [.ref a] _ _ Y W (i c (.ref a)) (.cons rfl .nil) (J H N X)) fun r s' h=>?_;cases r with
  |error e=>exact(G H e s' h).elim
  |ok U =>
   cases U with
   |next=>exact False.elim h
   |brk=>exact False.elim h
   |cont=>exact False.elim h
   |ret u =>
    obtain⟨v,H',os,bare,un,p,Z,q⟩:=h;have q':v=.bl true:=q;subst q';obtain rfl:u=Value.bool true:=Z;refine⟨rfl,OldK.of_keep fun b o e=>?_,os,bare⟩;cases q:H b with
    |none=>exact un.keep b o e q (by intro z;exact absurd (show b∈([]:List Addr) from z) (by simp)) (by simp)
    |some u =>
     rcases N b with z|⟨ob,xs,z⟩
     .rw[q] at z;cases z
     .have z2:=un.frzs b ob _ z;obtain⟨e1,_⟩:=l b _ z;obtain⟨e2,_⟩:=p b _ z2;rw[e] at e1;cases e1;exact e2
 cases C:K.lookup a with
 |some o =>
  -- the script is one of the module's own objects
  have e:=S a o C;rw[ha] at e;cases e;refine core (fun _=>none) (fun _=>.inl rfl) (.inr ⟨_,vs.toArray,_,C,rfl,rfl,rfl,by rw[VQ,j];exact R,by simpa using Q⟩) (fun b u z=>by have B:(none:Option HO)=some u:=z;cases B) (fun b z=>absurd rfl z) fun z=>absurd rfl z
 |none =>
  refine core (fun b=>if b=a then some (.frz {cls:=.type "list",data:=.seq vs.toArray} (.lst (ns.map V.int))) else none) (fun b=>?_) (.inl (.inr ⟨{cls:=.type "list",data:=.seq vs.toArray},Vo rfl⟩)) (fun b u z=>?_) (fun b z=>?_) fun _=>C
  .by_cases f:b=a
   .exact .inr ⟨_,_,Vo f⟩
   .exact .inl (Vm f)
  .by_cases f:b=a
   .have B:=(Vo f).symm.trans z;cases B;subst f;exact⟨ha,by rw[Vx];exact R,vs,_,Q,ha⟩
   .have B:=(Vm f).symm.trans z;cases B
  .by_cases f:b=a
   .exact f
   .exact absurd (Vm f) z
abbrev si{h:Heap}(_:K.In h):PySem.W.Frag:=K
def HA{l:PySem.W.OpenLaw}{q:Program}{loose:List Str}{M:(Str->Option Value)->Heap->Prop}{z:World->Heap->Prop}{d:DefRec}{K:Params->PySem.W.Frag}{CX:World->Cq}{sp:World->Sp}
  (P:l.most=some n) (t:n<=sizeLine) (p:d.params.defaults=[]) (I:dv k callerA)
  (B:∀(w:World) (h:Heap),z w h->(K w.params).In h)
  (F:∀(w:World) (mg:Str->Option Value) (j:Addr) (h:Heap),(K w.params).In h->h.Ns mainGlobals mg->mg d.name=some (.ref j) ->
   ∃fd:FuncData,(∀(s:Shared) (u:Value),BindsTo s fd ⟨[u],[]⟩ [(x,u)]) /\
    ∀base:Heap,(K w.params).In base->base.Ns mainGlobals mg->ff l.prog w (K w.params) mg base (CX w) k j fd [x] (sp w))
  (y:∀(w:World) (H:Hp) (a:Addr) (ns:List Int),ns.length<=n->Hm H->dX (K w.params) H a (ns.map V.int)->sp w [.ref a] H (fun v _=>v=.bl true) fun _ _ _=>False)
  (r:∀(w:World) (H:Hp) (s:Shared) (e:Value) (s':Shared),CX w [] H s (fun _ _ _=>False) e s'->False):
  PySem.W.WalkO q loose M z l.row.toRowW d [] (fun f vs=>PySem.call f vs):=by
 refine Att.wj P p fun w X N mg Q j o U cd doc a vs ns G Y R S D m i hints c J=>?_;have A:=B w _ Y;obtain⟨fd,O,L⟩:=F w mg j _ A G.T.g m;exact Fp A G.T.g G.T.b G.T.builtins G.T.nolimit J i hints (V7 c t) I L O (fun H C E=>y w H a ns c C E) fun H e s'=>r w H N e s'
def CN{l:PySem.W.OpenLaw}{q:Program}{loose:List Str}{r:(Str->Option Value)->Heap->Prop}{j:World->Heap->Prop}{d:DefRec}{K:Params->PySem.W.Frag}{CX:Cq}{sp:PySem.W.Frag->Sp}
  (t:l.most=some n) (g:n<=sizeLine) (b:d.params.defaults=[]) (p:dv k callerA)
  (o:∀(w:World) (h:Heap),j w h->(K w.params).In h)
  (F:∀(w:World) (mg:Str->Option Value) (m:Addr) (h:Heap),(K w.params).In h->h.Ns mainGlobals mg->mg d.name=some (.ref m) ->
   ∃fd:FuncData,(∀(s:Shared) (u:Value),BindsTo s fd ⟨[u],[]⟩ [(x,u)]) /\
    ∀base:Heap,(K w.params).In base->base.Ns mainGlobals mg->ff l.prog w (K w.params) mg base CX k m fd [x] (sp (K w.params)))
  (i:∀(K:PySem.W.Frag) (H:Hp) (a:Addr) (ns:List Int),ns.length<=n->Hm H->dX K H a (ns.map V.int)->sp K [.ref a] H (fun v _=>v=.bl true) fun _ _ _=>False)
  (c:∀(H:Hp) (s:Shared) (e:Value) (s':Shared),CX [] H s (fun _ _ _=>False) e s'->False):
  PySem.W.WalkO q loose r j l.row.toRowW d [] (fun f vs=>PySem.call f vs) :=
 HA (K:=K) (CX:=fun _=>CX) (sp:=fun w=>sp (K w.params)) t g b p o F (fun w H a ns h1 h2 y=>i (K w.params) H a ns h1 h2 y) fun _ H s e s'=>c H s e s'
def dD(s:Stmt):Arguments:=match s with
 |.FunctionDef _ a _ _ _ _ _ _ _ _=>a
 |_=>{posonlyargs:=[],args:=[],vararg:=none,kwonlyargs:=[],kw_defaults:=[],kwarg:=none,defaults:=[]}
def bR(s:Stmt):List Stmt:=match s with
 |.FunctionDef _ _ b _ _ _ _ _ _ _=>b
 |_=>[]
def ag(s:Stmt):Scope:=match s with
 |.FunctionDef _ _ _ _ _ _ a _ _ _=>a
 |_=>{kind:=.function,names:=[],isGenerator:=false,isCoroutine:=false}
abbrev oo:Cq:=fun _ _ _ _ _ _=>False
abbrev E0:XK:=fun _ _ _=>False
def kI:Passes oo X E0:=fun _ _ _ _ _ _ _ h=>h.elim
structure se(K:PySem.W.Frag)(x qual:Str)(st:Stmt)(f:Addr)(fd:FuncData):Prop where
 ex:∃(oc:Value) (od:Option Addr) (kV doc pm:Value) (an:Option Addr) (cdv ct:Value) (osl:Array (Option Value)),
  fd=PySem.W.fnOf x qual (dD st) (bR st) (ag st) .none kV doc pm an cdv ct/\K.lookup f=some ⟨oc,od,.func fd,osl⟩/\PySem.W.codeIn K cdv qual=true
 kp:PySem.W.keepIn K (.ref f)=true
section
variable{P:Program}{w:World}{K:PySem.W.Frag}{mg:Str->Option Value}{base:Heap}
def se.ok{st:Stmt}{fd:FuncData}{N ps:List Str}{sp:Sp}(F:se K x qual st f fd)(S:aj N ps (ag st))(len:∀vs H Q E,sp vs H Q E->vs.length=ps.length)
  (b:∀(a:Value) (A:Around) (outer:List Env) (s:Shared) (H:Hp) (vs:List V) (Q:VK) (E:XK),dv k (A.deeper (envOfC qual (ag st) s.heap.objs.size f a))->sp vs H Q E ->
   ∃t,p4 (sM oo P w K mg base N qual (ag st) f a A outer s H E).JK (bR st) t/\t {nx:=fun _ H'=>Q .non H',rt:=Q} (start N vs) H):ff P w K mg base oo (k+1) f fd ps sp:=by
 obtain⟨j,od,kV,doc,l,m,a,ct,g,rfl,i,c⟩:=F.ex;refine N5 i c S len fun A outer s H vs Q E e d=>?_;obtain⟨t,h,q⟩:=b a A outer s H vs Q E e d;exact⟨t,h.JK,q⟩
def se.binds{st:Stmt}{fd:FuncData}{ps:List Str}(F:se K x qual st f fd)
  (h:∀(kV doc b:Value) (c:Option Addr) (a ct:Value) (us:List Value),us.length=ps.length->bindArgs (PySem.W.fnOf x qual (dD st) (bR st) (ag st) .none kV doc b c a ct) ⟨us,[]⟩=pure (ps.zip us)):Binds K fd ps []:=by
 obtain⟨g,od,kV,doc,b,c,a,ct,e,rfl,i,d⟩:=F.ex;exact .all (h kV doc b c a ct)
def J3{st:Stmt}{g:Value}{od e:Option Addr}{b:Array (Option Value)}{kV doc d a ct:Value}(l:K.lookup f=some ⟨g,od,.func (PySem.W.fnOf x qual (dD st) (bR st) (ag st) .none kV doc d e a ct),b⟩)
  (c:PySem.W.codeIn K a qual=true) (k:PySem.W.keepIn K (.ref f)=true):se K x qual st f (PySem.W.fnOf x qual (dD st) (bR st) (ag st) .none kV doc d e a ct):=⟨⟨g,od,kV,doc,d,e,a,ct,b,rfl,l,c⟩,k⟩
end
def di(h:n<=1000):n<sizeLine:=Yv h (by decide)
section
variable{X:Cx}
def pv(i:Nat){pos:Pos}(c:X.N[i]?=some x:=by rfl)(b:Hh X.env.scope x:=by first|exact Or.inl rfl|exact Or.inr (Or.inl rfl)|exact Or.inr (Or.inr rfl))(d:(x==("__debug__":Str))=false:=by decide)
  (a:(x==("__classdict__":Str))=false:=by decide):PE X (.Name x pos) (Na i):=Kd c b d a
end
def sR{A B:Prop}(h:B):if false=true then A else B:=by
 rw[Vm VO];exact h
def sP{A B:Prop}(h:A):if true=true then A else B:=by
 rw[Vo rfl];exact h
def aD(H H':Hp):Prop:=∀b o,H b=some o->H' b=some o
def aD.refl(H:Hp):aD H H:=fun _ _ h=>h
def aD.trans{H1 H2:Hp}(a:aD H H1)(b:aD H1 H2):aD H H2:=fun c o h=>b c o (a c o h)
def aD.free{H':Hp}(e:aD H H'){l:Addr}(h:H' l=Option.none):H l=Option.none:=by
 cases q:H l with
 |none=>rfl
 |some o =>
  rw[e l o q] at h;cases h
def aD.seq{H':Hp}{a:Addr}{xs:List V}(e:aD H H')(h:dX K H a xs):dX K H' a xs:=by
 rcases h with(h|⟨o,h⟩)|h
 .exact .inl (.inl (e _ _ h))
 .exact .inl (.inr ⟨o,e _ _ h⟩)
 .exact .inr h
def Hy(a:List (Str×Addr)):Prop:=∀x y c,a.lookup x=some c->a.lookup y=some c->x=y
def aW{α:Type}{n:Str}{a c:α}{r:List (Str×α)}(h:List.lookup x ((n,a)::r)=some c):(x=n/\a=c)\/(x≠n/\r.lookup x=some c):=by
 rw[XU] at h;cases b:x==n with
 |true=>rw[b] at h;cases h;exact .inl ⟨Y_.mp b,rfl⟩
 |false=>rw[b] at h;exact .inr ⟨(fun z=>by(rw[z,YN] at b;cases b)),h⟩
theorem zW:∀(names:List (Str×NameKind)) (n:Nat) (d:List (Str×Addr)),Hy d->(∀x c,d.lookup x=some c->c<n) ->
  Hy (cellsFrom n names d)/\∀x c,(cellsFrom n names d).lookup x=some c->d.lookup x=some c\/n<=c
 |[],_,_,hi,_=>⟨hi,fun _ _ h=>.inl h⟩
 | (y,k) :: r,n,d,hi,g=>by
  unfold cellsFrom;by_cases j:(k==NameKind.cell)=true
  .rw[Vo j]
   have h1:Hy ((y,n)::d):=fun a b c e1 e2=>by
    rcases aW e1 with⟨q1,f⟩|⟨q1,f⟩<;>rcases aW e2 with⟨i,p2⟩|⟨i,p2⟩
    .rw[q1,i]
    .exact absurd (g _ _ p2) (by rw[<-f];exact X8 _)
    .exact absurd (g _ _ f) (by rw[<-p2];exact X8 _)
    .exact hi a b c f p2
   have h2:∀x c,List.lookup x ((y,n)::d)=some c->c<n+1:=fun x c e=>by
    rcases aW e with⟨_,f⟩|⟨_,f⟩
    .rw[<-f];exact XW _
    .exact W0 (g _ _ f)
   obtain⟨l,m⟩:=zW r (n+1) ((y,n)::d) h1 h2;refine⟨l,fun x c e=>?_⟩;rcases m x c e with q|q
   .rcases aW q with⟨_,f⟩|⟨_,f⟩
    .exact .inr (Zx f)
    .exact .inl f
   .exact .inr (Zc q)
  .rw[Vm j];exact zW r n d hi g
theorem uT:∀(names:List (Str×NameKind)) (h:Heap) (a:List (Str×Addr)) (x:Str) (c:Addr),(cellsFrom h.objs.size names a).lookup x=some c->a.lookup x=some c\/(pushCells h names).IsCell c none
 |[],_,_,_,_,e=>.inl e
 | (y,k) :: r,h,a,x,c,e=>by
  unfold cellsFrom at e;unfold pushCells;by_cases d:(k==NameKind.cell)=true
  .rw[Vo d] at e ⊢;have f:(cellsFrom (h.push {cls:=.type "cell",data:=.cell none}).objs.size r ((y,h.objs.size)::a)).lookup x=some c:=by rw[XB];exact e
   rcases uT r (h.push {cls:=.type "cell",data:=.cell none}) ((y,h.objs.size)::a) x c f with q|q
   .rcases aW q with⟨_,b⟩|⟨_,b⟩
    .refine .inr ?_;subst b;exact⟨_,aaF _ _ _ _ (VM _ rfl),rfl⟩
    .exact .inl b
   .exact .inr q
  .rw[Vm d] at e ⊢;exact uT r h a x c e
theorem uM:∀(names:List (Str×NameKind)) (n:Nat) (a:List (Str×Addr)) (x:Str),(∀y∈names,y.1=x->y.2≠.cell)->(cellsFrom n names a).lookup x=a.lookup x
 |[],_,_,_,_=>rfl
 | (y,k) :: r,n,a,x,h=>by
  unfold cellsFrom;by_cases b:(k==NameKind.cell)=true
  .rw[Vo b,uM r (n+1) _ x fun z hz=>h z (Vw _ hz),XU]
   have d:(x==y)=false:=by
    cases c:x==y with
    |false=>rfl
    |true=>exact absurd (by simpa using b) (h (y,k) VC (Y_.mp c).symm)
   rw[d]
  .rw[Vm b];exact uM r n a x fun z hz=>h z (Vw _ hz)
def fO(env:Env):List (Str×NameKind)->List (Str×Addr)->List (Str×Addr)
 |[],a=>a
 |(n,k)::r,a=>fO env r (if k==.free then (n,(env.cells.lookup n).getD 0)::a else a)
theorem AO{env:Env}:∀(names:List (Str×NameKind)) (b:List (Str×Addr)),(∀x∈names,x.2=.free->∃c,env.cells.lookup x.1=some c) ->
  (forIn names b fun x cs=>(if (x.2==NameKind.free)=true then (do let a <-cellOf env x.1;pure (ForInStep.yield ((x.1,a)::cs))) else pure (ForInStep.yield cs):Sem (ForInStep (List (Str×Addr)))))=pure (fO env names b)
 |[],_,_=>rfl
 | (n,k) :: r,b,h=>by
  rw[List.forIn_cons];have g:=fun b=>AO r b fun x j=>h x (Vw _ j);unfold fO;by_cases f:(k==NameKind.free)=true
  .obtain⟨c,i⟩:=h (n,k) VC (by simpa using f);have d:env.cells.lookup n=some c:=i;have e:cellOf env n=pure c:=by unfold cellOf;rw[d]
   simp only[f,Yr,e,d,Option.getD_some,pure_bind];exact g _
  .simp only[f,XS,pure_bind];exact g _
def jf{scope:Scope}(h:∀x∈scope.names,x.2=.free->∃c,env.cells.lookup x.1=some c):closureFor scope env=pure (fO env scope.names []):=by
 have:=AO (env:=env) scope.names [] h;unfold closureFor;simp only[bind_pure_comp]
 first|exact this|simpa using this
theorem cW{env:Env}{x:Str}:∀(names:List (Str×NameKind)) (a:List (Str×Addr)) (c:Addr),(∀y∈names,y.2=.free->∃c,env.cells.lookup y.1=some c)->(fO env names a).lookup x=some c->a.lookup x=some c\/env.cells.lookup x=some c
 |[],_,_,_,e=>.inl e
 | (n,k) :: r,a,c,h,e=>by
  unfold fO at e;have i:=fun a=>cW (x:=x) r a c fun y j=>h y (Vw _ j);by_cases g:(k==NameKind.free)=true
  .rw[Vo g] at e;rcases i _ e with q|q
   .rcases aW q with⟨q1,d⟩|⟨_,d⟩
    .obtain⟨c',f⟩:=h (n,k) VC (by simpa using g);have b:env.cells.lookup n=some c':=f;rw[b] at d;right;rw[q1,b];exact congrArg some d
    .exact .inl d
   .exact .inr q
  .rw[Vm g] at e;exact i _ e
theorem rA{env:Env}{x:Str}:∀(names:List (Str×NameKind)) (a:List (Str×Addr)),((x,NameKind.free)∈names\/∃c,a.lookup x=some c)->∃c,(fO env names a).lookup x=some c
 |[],_,h=>h.elim (fun z=>nomatch z) id
 | (n,k) :: r,a,h=>by
  unfold fO;refine rA r _ ?_;rcases h with h|⟨c,h⟩
  .rcases Vq.mp h with e|h
   .cases e;right;rw[Vo (by decide)];exact⟨_,by rw[XU,YN]⟩
   .exact .inl h
  .right;split
   .rw[XU];split
    .exact⟨_,rfl⟩
    .exact⟨c,h⟩
   .exact⟨c,h⟩
def ic(X:Cx)(N:List Str)(scope:Scope)(C:Addr)(s:Shared)(H:Hp)(fp:List Addr):Cx where
 prog:=X.prog
 w:=X.w
 K:=X.K
 mg:=X.mg
 base:=X.base
 A:=X.A
 N:=N
 s₀:=s
 H₀:=H
 env:={scope:=relabel scope X.env,locals:=C,globals:=X.env.globals,cells:=cellsFrom (C+1) scope.names (fO X.env scope.names []),qual:=X.env.qual,func:=none,code:=X.env.code,frame:=X.env.frame,builtins:=X.env.builtins}
 outer:=X.stack
 stack:=X.stack
 ex:=fp
 fn:=fun x=>match scope.names.lookup x with|some .cell=>true|_=>false
 calm:=X.calm
 pn:=[]
 xe:=fun _ _=>False
theorem eK{env:Env}:∀{names:List (Str×NameKind)} {x:Str} {k:NameKind},(names.map fun(n,k)=>if (k==NameKind.free&&env.scope.kind==.function&&env.kindOf n==some .cell) then (n,NameKind.cell) else (n,k)).lookup x=some k ->
  ∃d,names.lookup x=some d/\(k=d\/d=.free)
 |[],_,_,h=>by simp at h
 | (n,q) :: r,x,k,h=>by
  rw[Wa] at h;have h':List.lookup x ((if (q==NameKind.free&&env.scope.kind==.function&&env.kindOf n==some .cell)=true then (n,NameKind.cell) else (n,q))::_)=some k:=h;have a:∀b:Bool,(if b=true then (n,NameKind.cell) else (n,q))=(n,if b=true then NameKind.cell else q):=fun b=>by cases b<;>rfl
  rw[a] at h';rw[XU];rcases aW h' with⟨e1,e2⟩|⟨e1,e2⟩
  .rw[e1,YN];refine⟨q,rfl,?_⟩;rw[<-e2];by_cases c:(q==NameKind.free&&env.scope.kind==.function&&env.kindOf n==some .cell)=true
   .right;have:=(WI.mp (WI.mp c).1).1;simpa using this
   .left;rw[Vm c]
  .have e:(x==n)=false:=by
    cases c:x==n with
    |false=>rfl
    |true=>exact absurd (Y_.mp c) e1
   rw[e];exact eK e2
structure gm(X:Cx)(scope:Scope)(tn:List Str)(js:List Nat):Prop where
 kind:scope.kind=.function
 loc:∀x∈scope.names,x.2=.local->scope.names.lookup x.1=some .local
 fre:∀x∈scope.names,x.2=.free->scope.names.lookup x.1=some .free/\(X.env.kindOf x.1=some .cell\/X.env.kindOf x.1=some .free)
 one:∀x∈scope.names,∀y∈scope.names,x.1=y.1->x.2=y.2
 js:∀j∈js,∃x,X.N[j]?=some x/\scope.names.lookup x=some .free
def cN(X:Cx)(tn:List Str)(js:List Nat):List Str:=tn++js.map fun j=>(X.N[j]?).getD ("":Str)
def cσ(σ:St)(tn:List Str)(js:List Nat):St:=tn.map (fun _=>none)++js.map fun j=>(σ[j]?).getD none
def bx{names:List (Str×NameKind)}{k:NameKind}(h:names.lookup x=some k):(x,k)∈names:=XR h
section
variable{X:Cx}{pins:List (Addr×Obj)}{σ:St}{H:Hp}{s:Shared}{scope:Scope}{tn:List Str}{js:List Nat}{fp:List Addr}
def fH(ok:X.Ok)(S:gm X scope tn js):∀x∈scope.names,x.2=.free->∃c,X.env.cells.lookup x.1=some c:=fun x b a=>ok.has x.1 (S.fre x b a).2
def Ca(ok:X.Ok)(S:gm X scope tn js)(b:∀x c,X.env.cells.lookup x=some c->c<n):
  Hy (cellsFrom n scope.names (fO X.env scope.names []))/\∀x c,(cellsFrom n scope.names (fO X.env scope.names [])).lookup x=some c->X.env.cells.lookup x=some c\/n<=c:=by
 have a:∀x c,(fO X.env scope.names []).lookup x=some c->X.env.cells.lookup x=some c:=fun x c e=>by
  rcases cW scope.names [] c (fH ok S) e with q|q
  .cases q
  .exact q
 obtain⟨h1,h2⟩:=zW scope.names n (fO X.env scope.names []) (fun x y c e1 e2=>ok.inj x y c (a x c e1) (a y c e2)) (fun x c e=>b x c (a x c e));exact⟨h1,fun x c e=>(h2 x c e).imp (a x c) id⟩
def BZ{R:Heap}{m:Str->Option Value}{t':Nat}(I:Inv X pins σ H s)(S:gm X scope tn js)(Q:∀b∈fp,sG X pins H b/\b<s.heap.objs.size)(hns:R.Ns s.heap.objs.size m)
  (B:∀b o,s.heap.get? b=some o->R.get? b=some o) (E:∀x c,(cellsFrom (s.heap.objs.size+1) scope.names (fO X.env scope.names [])).lookup x=some c->X.env.cells.lookup x=some c\/R.IsCell c none):
  Inv (ic X (cN X tn js) scope s.heap.objs.size s H fp) [] (cσ σ tn js) H {s with heap:=R,toks:=t'}:=by
 have G:∀x c,X.env.cells.lookup x=some c->c<s.heap.objs.size+1:=fun x c e=>by
  obtain⟨v,q⟩:=I.cell x c e;exact W0 q.lt
 obtain⟨P,F⟩:=Ca I.ok S G;have hC:H s.heap.objs.size=none:=I.hok.fresh (Vu _)
 refine⟨⟨I.ok.mod,S.kind,I.ok.glob,I.ok.blt,Vu _,P,fun x Z=>?_,fun x c Z e=>?_,I.ok.hd,I.ok.frames,.inl rfl,fun b C=>⟨V2 (Q b C).2,fun x c e z=>?_⟩,I.bs,V7 I.ok.bsz I.sz,fun b o e C=>?_,fun b C z=>?_,I.stack,I.AH⟩,
  rfl,I.bare,Un.kept B,⟨m,hns,fun i x v h1 h2 h3=>?_⟩,fun x c e=>?_,hC,fun x c e=>?_,(fun p hp=>nomatch hp),I.hok.kept B,?_⟩
 .-- has
  have A:(relabel scope X.env).names.lookup x=some .cell\/(relabel scope X.env).names.lookup x=some .free:=Z
  have own:scope.names.lookup x=some .cell->∃c,(cellsFrom (s.heap.objs.size+1) scope.names (fO X.env scope.names [])).lookup x=some c:=fun q =>
   Yj.mp (YB scope.names _ _ (.inl q))
  have J:scope.names.lookup x=some .free->∃c,(cellsFrom (s.heap.objs.size+1) scope.names (fO X.env scope.names [])).lookup x=some c:=fun q =>
   Yj.mp (YB scope.names _ _ (.inr (Yj.mpr (rA scope.names [] (.inl (bx q))))))
  rcases A with q|q
  .obtain⟨k0,q1,g⟩:=eK q;rcases g with g|g
   .subst g;exact own q1
   .subst g;exact J q1
  .obtain⟨k0,q1,g⟩:=eK q;rcases g with g|g
   .subst g;exact J q1
   .subst g;exact J q1
 .-- cab
  rcases F x c e with q|q
  .exfalso;have A:(match scope.names.lookup x with|some .cell=>true|_=>false)=true:=Z;split at A
   .rename_i hl
    -- an own cell is new
    have C:∀y c',(fO X.env scope.names []).lookup y=some c'->c'<s.heap.objs.size+1:=fun y c' e'=>by
     rcases cW scope.names [] c' (fH I.ok S) e' with z|z
     .cases z
     .exact G y c' z
    have W:(fO X.env scope.names []).lookup x=none:=by
     cases z:(fO X.env scope.names []).lookup x with
     |none=>rfl
     |some c' =>
      exfalso
      have mem:∀(names:List (Str×NameKind)) (t:List (Str×Addr)),(∃c',(fO X.env names t).lookup x=some c')->(x,NameKind.free)∈names\/∃c',t.lookup x=some c':=by
       intro names
       induction names with
       |nil=>exact fun t z=>.inr z
       |cons p r ih =>
        obtain⟨n,k⟩:=p;intro t z;unfold fO at z;rcases ih _ z with z|⟨c',z⟩
        .exact .inl (Vw _ z)
        .split at z
         .rename_i B;rcases aW z with⟨e1,_⟩|⟨_,e2⟩
          .left;have:k=NameKind.free:=by simpa using B
           rw[e1,this];exact VC
          .exact .inr ⟨c',e2⟩
         .exact .inr ⟨c',z⟩
      rcases mem scope.names [] ⟨c',z⟩ with z|⟨_,z⟩
      .have:=S.one _ z _ (bx hl) rfl;cases this
      .cases z
    have hh:=zW scope.names (s.heap.objs.size+1) (fO X.env scope.names []) (fun a b c' e1 e2=>by
     rcases cW scope.names [] c' (fH I.ok S) e1 with z|z
     .cases z
     .rcases cW scope.names [] c' (fH I.ok S) e2 with z'|z'
      .cases z'
      .exact I.ok.inj a b c' z z') C
    rcases hh.2 x c e with z|z
    .rw[W] at z;cases z
    .exact absurd (G x c q) (YO.mpr z)
   .cases A
  .exact Zc q
 .-- exf
  obtain⟨⟨f0,f1,V,f3,f4,f5⟩,D⟩:=Q b C;rcases F x c e with q|q
  .exact f4 x c q z
  .rw[z] at q;exact absurd D (YO.mpr (Zc q))
 .-- noex
  obtain⟨⟨f0,f1,V,f3,f4,f5⟩,D⟩:=Q b C;rcases f3 with q|q
  .exact I.ok.noex b o e q
  .exact absurd (VY (VF e) (V7 I.ok.bsz q)) (X8 _)
 .-- exfs
  obtain⟨⟨f0,f1,V,f3,f4,f5⟩,D⟩:=Q b C;rcases Vq.mp (I.vo b z) with q|q
  .exact f1 q
  .exact V q
 .-- the names
  have d:(cσ σ tn js)[i]?=some (some v):=h2;have l:(cN X tn js)[i]?=some x:=h1;unfold cσ at d;unfold cN at l;by_cases hi:i<tn.length
  .rw[Xh (by simpa using hi),VJ] at d;cases q:tn[i]? with
   |none=>rw[q] at d;cases d
   |some y=>rw[q] at d;cases d
  .rw[Xd (by simpa using hi),VJ,Vx] at d;rw[Xd (by simpa using hi),VJ] at l;cases q:js[i-tn.length]? with
   |none=>rw[q] at d;cases d
   |some j =>
    rw[q] at d l;obtain⟨y,K,h⟩:=S.js j (Vv q)
    have exy:y=x:=by
     have:some ((X.N[j]?).getD ("":Str))=some x:=l;rw[K] at this;exact VP this
    subst exy
    have hv:σ[j]?=some (some v):=by
     have:some ((σ[j]?).getD none)=some (some v):=d;cases z:σ[j]? with
     |none=>rw[z] at this;cases this
     |some o=>rw[z] at this;exact congrArg some (VP this)
    have O:=(S.fre _ (bx h) rfl).2;have vis:Hh X.env.scope y:=O.elim (fun z=>.inr (.inl z)) fun z=>.inr (.inr z);obtain⟨m0,hn0,hl0⟩:=I.loc;obtain⟨u,ru,lk⟩:=hl0 j y v K hv vis;refine⟨u,ru,.inr ⟨?_,?_⟩⟩
    .have h3':(relabel scope X.env).names.lookup y=some .local\/(relabel scope X.env).names.lookup y=some .cell\/(relabel scope X.env).names.lookup y=some .free:=h3;rcases h3' with z|z|z
     .obtain⟨k0,z1,T⟩:=eK z;rw[h] at z1;cases z1;rcases T with T|T
      .cases T
      .exfalso
       -- free is relabelled to cell or stays
       have:=z
       have f:∀{names:List (Str×NameKind)},(∀p∈names,p.1=y->p.2=.free)->(names.map fun(n,k)=>if (k==NameKind.free&&X.env.scope.kind==.function&&X.env.kindOf n==some .cell) then (n,NameKind.cell) else (n,k)).lookup y≠some .local:=by
        intro names
        induction names with
        |nil=>intro _ w;simp at w
        |cons p r ih =>
         obtain⟨n,k⟩:=p;intro hp w;rw[Wa] at w;have w':List.lookup y ((if (k==NameKind.free&&X.env.scope.kind==.function&&X.env.kindOf n==some .cell)=true then (n,NameKind.cell) else (n,k))::_)=some .local:=w;have M:∀b:Bool,(if b=true then (n,NameKind.cell) else (n,k))=(n,if b=true then NameKind.cell else k):=fun b=>by cases b<;>rfl
         rw[M] at w';rcases aW w' with⟨e1,e2⟩|⟨e1,e2⟩
         .have B:k=.free:=hp (n,k) VC e1.symm;subst B;split at e2<;>cases e2
         .exact ih (fun p U=>hp p (Vw _ U)) e2
       exact f (fun p hp e=>S.one p hp _ (bx h) e) z
     .exact .inl z
     .exact .inr z
    .have lk':∃c,X.env.cells.lookup y=some c/\s.heap.IsCell c (some u):=by
      rcases lk with⟨z,_⟩|⟨_,z⟩
      .exfalso;rcases O with q|q
       .rw[q] at z;cases z
       .rw[q] at z;cases z
      .exact z
     obtain⟨c,Y,hc2⟩:=lk';refine⟨c,?_,hc2.keeps B⟩;show(cellsFrom (s.heap.objs.size+1) scope.names (fO X.env scope.names [])).lookup y=some c;rw[uM scope.names _ _ y fun p hp e=>by(rw[S.one p hp _ (bx h) e];intro z;cases z)];obtain⟨c',L⟩:=rA (env:=X.env) scope.names [] (.inl (bx h));rcases cW scope.names [] c' (fH I.ok S) L with z|z
     .cases z
     .rw[Y] at z;cases z;exact L
 .-- cells are there
  rcases E x c e with q|q
  .obtain⟨v,z⟩:=I.cell x c q;exact⟨v,z.keeps B⟩
  .exact⟨none,q⟩
 .-- and free
  rcases F x c e with q|q
  .exact I.freeC x c q
  .exact I.hok.fresh (Zc q)
 .show(cσ σ tn js).length=(cN X tn js).length;unfold cσ cN;simp
variable{M:Model}{A:Around}{E:Value->Shared->Prop}
def wN{scope:Scope}{globals:Addr}{cl:List (Str×Addr)}{Q:Env->Shared->Prop}
  (d:∀h',h'.Ns s.heap.objs.size (fun _=>none)->(∀b o,s.heap.get? b=some o->h'.get? b=some o)->(∀x c,(cellsFrom (s.heap.objs.size+1) scope.names cl).lookup x=some c->cl.lookup x=some c\/h'.IsCell c none) ->
   Q {scope,locals:=s.heap.objs.size,globals,cells:=cellsFrom (s.heap.objs.size+1) scope.names cl,qual,func:=none,code:=env.code,frame:=env.frame,builtins:=env.builtins} {s with heap:=h'}):
  wpAny M A (newFunctionEnv scope globals cl [] qual none .none (some env)) Q E s:=by
 simp only[newFunctionEnv,Option.isSome_some,Yr];refine Vl (wpAny_alloc ?_);refine Vl (wpAny_layCells _ (fun name kind cells=>by cases a:kind==NameKind.cell<;>simp[a]) _ _ _ _ ?_);rw[show({s with heap:=s.heap.push {cls:=.type "dict",data:=.dict #[]}}:Shared).heap.objs.size=s.heap.objs.size+1 from XB ..];refine Vl ?_;rw[List.forIn_nil];refine Vp (Vp ?_);refine d _ ((Heap.Ns.new s.heap (.type "dict")).keeps (aaF _ _)) (fun b o e=>aaF _ _ b o (Vt _ e)) fun x c e=>?_;refine uT scope.names _ cl x c ?_;rw[XB];exact e
variable{prog:Program}{w:World}{R:Result->Shared->Prop}
def Bp{elt target iter:Expr}{ifs:List Expr}{scope:Scope}{pos:Pos}{it a:Value}(I:Nat->Shared->Prop)
  (turn:∀n s,I n s->wpAny (model prog w) A (pyNext it) (fun r f=>match r with
   |none=>R (.ok .next) f
   |some v=>wpAny (model prog w) A (letOwnedTupleGo target it v) (fun _ b=>wpAny (model prog w) A (assign target env v) (fun _ i =>
     wpAny (model prog w) A (forIn ifs true fun c r=>if r=true then do let ok <-isTrue c env (eval c env);pure (ForInStep.yield ok) else pure (ForInStep.yield r)) (fun ok d =>
      if ok=true then wpAny (model prog w) A (eval elt env) (fun x j =>
       wpAny (model prog w) A (call (.builtin "list.append") [a,x]) (fun _ l=>∃m,m<n/\I m l) (fun _ _=>False) j) (fun _ _=>False) d
      else ∃m,m<n/\I m d) (fun _ _=>False) i) (fun _ _=>False) b) (fun _ _=>False) f) (fun _ _=>False) s)
  (n:Nat) (h:I n s):
  codeAny (model prog w) A (.compLoop (.ListComp elt [⟨target,iter,ifs,0⟩] scope pos) 0 it a env) R s:=by
 refine codeAny_loop rfl I (fun n s p=>?_) n h;show wpAny _ A ((compTurn (.ListComp elt [⟨target,iter,ifs,0⟩] scope pos) 0 it a env).onRaise (fun x=>do noteFrame x env;theTreesLotGoes x)) _ _ s;refine wpAny_noted ?_;rw[compTurn_list];refine Vl (wpAny_standAt (Vl (XF (turn n s p) (fun r f k=>?_) fun _ _ z=>z.elim)));cases r with
 |none=>exact Vp k
 |some v =>
  refine Vl (XF k (fun _ b e=>?_) fun _ _ z=>z.elim);refine Vl (XF e (fun _ i o=>Vl (XF o (fun ok d g=>?_) fun _ _ z=>z.elim)) fun _ _ z=>z.elim);cases ok with
  |false=>exact Vp ⟨rfl,g⟩
  |true =>
   exact Vl (Vl (XF g (fun x j t=>Vl (XF t (fun _ l q=>Vp (Vp ⟨rfl,q⟩)) fun _ _ z=>z.elim)) fun _ _ z=>z.elim))
end
def PF(X:Cx)(ifs:List Expr)(t:TT):Prop :=
 ∀(pins:List (Addr×Obj)) (s:Shared) (σ:St) (H:Hp) (Q:Bool->Hp->Prop),Inv X pins σ H s->t σ H Q ->
  wpAny (model X.prog X.w) X.A (forIn ifs true fun c r=>if r=true then do let ok <-isTrue c X.env (eval c X.env);pure (ForInStep.yield ok) else pure (ForInStep.yield r)) (TP X pins σ Q) X.xe s
def Lp:PF X [] (fun _ H Q=>Q true H):=fun pins s σ H Q I q=>wpAny_tests_nil ⟨H,I,q⟩
def KU{c:Expr}{t:TT}(h:PT X c t):PF X [c] t:=fun pins s σ H Q I q=>wpAny_tests_one (h pins s σ H Q I q)
def zN(σ:St)(tn:List Str)(js:List Nat)(σ':St):Prop:=(∀(j:Nat) (v:V),tn.length<=j->(cσ σ tn js)[j]?=some (some v)->σ'[j]?=some (some v))/\σ'.length=(cσ σ tn js).length
def OY(wi:TI)(tn:List Str)(js:List Nat)(g:TG)(tt:TT)(te:TE):TE:=fun σ H Q=>wi σ H fun J H1=>∀D,H1 D=none->∃W:Nat->Nat->Hp->List V->Prop,(∃m,W 0 m (upd H1 D (.lst [])) []) /\
 ∀i m H xs,W i m H xs->H D=some (.lst xs)/\((J.stop i H/\Q (.ref D) H)\/(J.go i H/\∀x H',J.yld i H x H'->g x (cσ σ tn js) H' fun σ2 H2=>zN σ tn js σ2/\tt σ2 H2 fun ok c =>
  if ok=true then te σ2 c fun y b=>b D=some (.lst xs)/\xs.length<sizeLine/\∃a,a<m/\W (i+1) a (upd b D (.lst (xs++[y]))) (xs++[y])
  else ∃a,a<m/\W (i+1) a c xs))
section
variable{X:Cx}{pins:List (Addr×Obj)}{σ:St}{H:Hp}{s:Shared}{scope:Scope}{tn:List Str}{js:List Nat}{elt target iter:Expr}{ifs:List Expr}{pos:Pos}{wi:TI}{g:TG}{tt:TT}{te:TE}
def tZ{Q:VK}{RR:Value->Addr->Result->Shared->Prop}(S:gm X scope tn js)(hc:X.calm=true)(hi:PI X target iter wi)
  (a:∀C s H fp,PG (ic X (cN X tn js) scope C s H fp) target g/\PF (ic X (cN X tn js) scope C s H fp) ifs tt/\PE (ic X (cN X tn js) scope C s H fp) elt te)
  (I:Inv X pins σ H s) (h:OY wi tn js g tt te σ H Q)
  (hRR:∀D C s' H' oC m,Inv X (pins++[(C,oC)]) σ H' s'->s'.heap.get? C=some oC->s'.heap.Ns C m->X.s₀.heap.objs.size<=C->C≠X.env.locals->(∀x c,X.env.cells.lookup x=some c->c≠C)->(∀p∈X.pn++pins,p.1≠C)->Q (.ref D) H'->RR (.ref D) C (.ok .next) s'):
  wpAny (model X.prog X.w) X.A (eval iter X.env) (fun x s₁=>wpAny (model X.prog X.w) X.A (pyIter x) (fun it s₂=>wpAny (model X.prog X.w) X.A (newList []) (fun acc s₃ =>
   wpAny (model X.prog X.w) X.A (newFunctionEnv scope X.env.globals (fO X.env scope.names []) [] X.env.qual none .none (some X.env)) (fun B s₄ =>
    codeAny (model X.prog X.w) X.A (.compStart (.ListComp elt [⟨target,iter,ifs,0⟩] scope pos) 0 it acc {B with scope:=relabel scope X.env}) (RR acc B.locals) s₄) X.xe s₃) X.xe s₂) X.xe s₁) X.xe s:=by
 refine b8 (hi pins s σ H _ I h) fun v s1 h1=>b8 h1 fun itv f h2=>?_;obtain⟨it,fp,O,J,H2,e,l,T,Z,f2,hJ⟩:=h2;subst e;refine ZX ?_;have D0:H2 f.heap.objs.size=none:=l.hok.fresh (Vu _);obtain⟨W,⟨m0,w0⟩,turn⟩:=hJ f.heap.objs.size D0;have I3:Inv X pins σ (upd H2 f.heap.objs.size (.lst [])) {f with heap:=f.heap.push {cls:=.type "list",data:=.seq ([]:List Value).toArray},toks:=f.toks}:=l.HZ .nil (Wn _);generalize N:({f with heap:=f.heap.push {cls:=.type "list",data:=.seq ([]:List Value).toArray},toks:=f.toks}:Shared)=s3 at I3;have s3s:s3.heap.objs.size=f.heap.objs.size+1:=by rw[<-N];exact XB ..
 have k23:∀b o,f.heap.get? b=some o->s3.heap.get? b=some o:=fun b o e=>by rw[<-N];exact Vt _ e
 have u23:Un (zY X.stack) fp H2 (upd H2 f.heap.objs.size (.lst [])) f.heap s3.heap:=Un.laid k23 (Vu _) D0;generalize hH3:upd H2 f.heap.objs.size (.lst [])=k at I3 u23 w0;generalize hD:f.heap.objs.size=D at *
 have fpl:∀b∈fp,b<D:=fun b a=>by
  obtain⟨o,e,_⟩:=T.obj 0 _ Z b a;rw[<-hD];exact VF e
 have f3:∀b∈fp,sG X pins k b/\b<s3.heap.objs.size:=fun b a=>by
  obtain⟨q0,q⟩:=f2 b a;refine⟨⟨?_,q⟩,by have:=fpl b a;rw[s3s];exact W0 this⟩;rw[<-hH3,aA (V2 (fpl b a))];exact q0
 refine wN fun h4 hns hk M=>?_
 have cl0:∀x c,(fO X.env scope.names []).lookup x=some c->X.env.cells.lookup x=some c:=fun x c e=>by
  rcases cW scope.names [] c (fH I.ok S) e with q|q
  .cases q
  .exact q
 have I4:Inv (ic X (cN X tn js) scope s3.heap.objs.size s3 k fp) [] (cσ σ tn js) k {s3 with heap:=h4,toks:=s3.toks}:=BZ I3 S f3 hns hk fun x c e=>(M x c e).imp (cl0 x c) id;have st4:O 0 h4:=T.keep 0 _ _ Z fun b a o e=>hk b o (k23 b o e)
 have P:∀{H':Hp},(∀b∈fp,H' b=none)->∀b∈fp,sG (ic X (cN X tn js) scope s3.heap.objs.size s3 k fp) [] H' b:=fun hn b a=>by
  obtain⟨⟨q0,q1,q2,q3,q4,q5⟩,ql⟩:=f3 b a;refine⟨hn b a,V2 ql,fun z=>?_,.inl a,fun x c e z=>?_,fun p hp=>nomatch hp⟩
  .rcases Vq.mp (I3.vo b z) with q|q
   .exact q1 q
   .exact q2 q
  .exact(I4.ok.exf b a).2 x c e z
 have loop:codeAny (model X.prog X.w) X.A (.compLoop (.ListComp elt [⟨target,iter,ifs,0⟩] scope pos) 0 (.ref it) (.ref D) (ic X (cN X tn js) scope s3.heap.objs.size s3 k fp).env) (RR (.ref D) s3.heap.objs.size) {s3 with heap:=h4,toks:=s3.toks}:=by
  refine Bp (fun n s'=>∃i σ' H' xs,Inv (ic X (cN X tn js) scope s3.heap.objs.size s3 k fp) [] σ' H' s'/\O i s'.heap/\(∀b∈fp,H' b=none)/\W i n H' xs/\zN σ tn js σ') ?_ m0
   ⟨0,_,k,[],I4,st4,fun b a=>(f3 b a).1.1,w0,fun _ _ _ z=>z,rfl⟩
  rintro n s5 ⟨i,σ5,E,xs,I5,st5,Y,w5,kσ,lσ⟩
  -- the state with the targets forgotten
  have I5':Inv (ic X (cN X tn js) scope s3.heap.objs.size s3 k fp) [] (cσ σ tn js) E s5:=I5.weak lσ.symm fun j v e=>by
   by_cases hj:tn.length<=j
   .exact kσ j v hj e
   .exfalso;unfold cσ at e;rw[Xh (by simpa using Nat.lt_of_not_le hj),VJ] at e;cases q:tn[j]? with
    |none=>rw[q] at e;cases e
    |some y=>rw[q] at e;cases e
  obtain⟨hDx,K⟩:=turn i n E xs w5;rcases K with⟨stop,q⟩|⟨go,step⟩
  .refine b8 (T.done (ic X (cN X tn js) scope s3.heap.objs.size s3 k fp) rfl rfl rfl hc i [] s5 _ E (fun _ _=>False) I5' (P Y) st5 stop) fun r s6 ⟨hr,U⟩=>?_;subst hr
   -- back to the def's own state
   have u36:Un (zY X.stack) fp k E s3.heap s6.heap:=U.base;have u26:Un (zY X.stack) fp H2 E f.heap s6.heap:=u23.trans u36;have I6X:Inv X pins σ E s6:=l.Od (U.os.trans (show s3.os=f.os by rw[<-N])) u26 U.hok U.bare fun b a=>⟨(f2 b a).2.2.2.1,(f2 b a).2.1,(f2 b a).2.2.2.2.1,(f2 b a).2.2.2.2.2⟩;obtain⟨mm,hnn,_⟩:=U.loc;obtain⟨oC,es,ep,hoC,rC⟩:=id hnn;have F:D<=s3.heap.objs.size:=by rw[s3s];exact YC _
   have G:∀{b:Addr} {o:Obj},f.heap.get? b=some o->b≠s3.heap.objs.size:=fun e z=>absurd (VF e) (YO.mpr (by rw[hD,z];exact F))
   have cC:∀x c,X.env.cells.lookup x=some c->c≠s3.heap.objs.size:=fun x c e z=>by
    obtain⟨v,o,q1,_⟩:=l.cell x c e;exact G q1 z
   have pC:∀p∈X.pn++pins,p.1≠s3.heap.objs.size:=fun p hp=>G (l.pin p hp).1
   have lC:s3.heap.objs.size≠X.env.locals:=fun z=>by
    have:=l.lt;rw[hD,<-z] at this;exact absurd this (YO.mpr F)
   refine hRR D s3.heap.objs.size s6 E oC mm (I6X.mO fun p hp=>?_) hoC hnn (V7 l.sz (by rw[hD];exact F)) lC cC pC q;rcases Wk.mp hp with hp|hp
   .exact I6X.pin p (VU _ hp)
   .have:p=(s3.heap.objs.size,oC):=by simpa using hp
    subst this;refine⟨hoC,U.free,lC,fun z=>?_,fun v z=>?_⟩
    .have:=l.ok.nQ.mem z;have hz:=l.nQ.mem z;obtain⟨_,o,hz,_⟩:=hz;exact G hz rfl
    .have:=rC.1;rw[z] at this;cases this
  .refine b8 (T.item (ic X (cN X tn js) scope s3.heap.objs.size s3 k fp) rfl rfl rfl hc i [] s5 _ E (fun _ _=>False) I5' (P Y) st5 go) fun r s6 ⟨u,hr,h6⟩=>?_;subst hr;refine b8 h6 fun _ s7 ⟨x,H7,I7,r7,y7,L,fr7⟩=>?_;have I7':=I7.pinned (P fr7) (T.obj _ _ L);refine b8 ((a s3.heap.objs.size s3 k fp).1 _ s7 _ H7 x u _ I7' r7 (step x H7 y7)) fun _ s8 ⟨σ8,H8,I8,kc8,q8⟩=>?_
   -- what the pins say of the iterator,later
   have again:∀{σ':St} {H':Hp} {s':Shared} {R:List V} {t:Nat},Inv (ic X (cN X tn js) scope s3.heap.objs.size s3 k fp) ([]++qx fp s7.heap) σ' H' s'->t<n->W (i+1) t H' R->zN σ tn js σ' ->
     ∃m,m<n/\∃i σ' H' xs,Inv (ic X (cN X tn js) scope s3.heap.objs.size s3 k fp) [] σ' H' s'/\O i s'.heap/\(∀b∈fp,H' b=none)/\W i m H' xs/\zN σ tn js σ':=fun {σ' H' s' R t} I' hm w' k'=>by
    refine⟨t,hm,i+1,σ',H',R,I'.lJ,T.keep _ _ _ L fun b a o e=>(I'.pin (b,o) (VU _ (VU _ (iR a e)))).1,fun b a=>?_,w',k'⟩;obtain⟨o,e,d⟩:=T.obj _ _ L b a;exact(I'.pin (b,o) (VU _ (VU _ (iR a e)))).2.1
   refine b8 ((a s3.heap.objs.size s3 k fp).2.1 _ s8 σ8 H8 _ I8 q8) fun ok s9 ⟨H9,I9,q9⟩=>?_;cases ok with
   |false =>
    have q9':∃t,t<n/\W (i+1) t H9 xs:=by
     have z:=q9;rw[Vm VO] at z;exact z
    obtain⟨t,hm,w9⟩:=q9';exact again I9 hm w9 kc8
   |true =>
    rw[Vo rfl] at q9 ⊢;refine b8 ((a s3.heap.objs.size s3 k fp).2.2 _ s9 σ8 H9 _ I9 q9) fun yv s10 ⟨y,H10,I10,r10,hD10,hz,t,hm,w10⟩=>?_
    exact b8 (tX _ s10 σ8 H10 (.ref D) [y] (.ref D) [yv] (fun _ H'=>H'=upd H10 D (.lst (xs++[y]))) I10 rfl (.cons r10 .nil) ⟨D,xs,y,rfl,rfl,hD10,hz,rfl⟩) fun _ s11 ⟨_,H11,I11,_,e11⟩=>by
     subst e11;exact again I11 hm w10 kc8
 exact codeAny_compStart_list loop (T.self _ 0 _ _ _ st4 loop)
def N9(S:gm X scope tn js)(j:X.calm=true)(hi:PI X target iter wi)
  (c:∀C s H fp,PG (ic X (cN X tn js) scope C s H fp) target g/\PF (ic X (cN X tn js) scope C s H fp) ifs tt/\PE (ic X (cN X tn js) scope C s H fp) elt te)
  (f:∀x,foldedSetIterable iter X.env x=pure x:=by intro _;rfl):PE X (.ListComp elt [⟨target,iter,ifs,0⟩] scope pos) (OY wi tn js g tt te):=by
 intro pins s σ H Q I h;rw[eval_ListComp];refine wpAny_comprehension_free (use:=none) rfl f (jf (fH I.ok S)) S.kind S.loc ?_;refine tZ (RR:=fun d C=>compPost (model X.prog X.w) X.A X.xe none (EP X pins σ Q) d C) S j hi c I h ?_;intro D C s' H' i m a k r h1 h2 t n q;refine⟨m,r,fun h' u=>⟨.ref D,H',?_,rfl,q⟩⟩;have l:Inv X pins σ H' s':=a.mO fun p hp=>a.pin p (VU _ (WU _ hp));exact l.turned (t':=s'.toks) (fun b o c e=>u.extBut b o c e) (a.pin (C,i) (VU _ (VU _ (by simp)))).2.1 (Yi (Yi h2)) (.inr h1) t n
def DO{i:Nat}{y:Str}{py a:Pos}(E:X.N.Nodup)(f:X.N[i]?=some y)(M:Loc X.env.scope y)(L:X.fn y=true\/X.env.scope.names.lookup y=some .local)(S:gm X scope tn js)(F:X.calm=true)(hi:PI X target iter wi)
  (k:∀C s H fp,PG (ic X (cN X tn js) scope C s H fp) target g/\PF (ic X (cN X tn js) scope C s H fp) ifs tt/\PE (ic X (cN X tn js) scope C s H fp) elt te)
  (l:swapsWith (.ListComp elt [⟨target,iter,ifs,0⟩] scope pos) (some (.Name y py)) a.line X.env=pure true)
  (t:∀x,foldedSetIterable iter X.env x=pure x:=by intro _;rfl):PS X (.Assign [.Name y py] (.ListComp elt [⟨target,iter,ifs,0⟩] scope pos) a) (fun D σ H=>OY wi tn js g tt te σ H fun v H1=>D.nx (σ.set i (some v)) H1):=by
 intro pins s σ H r I h;rw[exec_Assign_Name_used _ _ _ _ l];refine Vl (wpAny_standAt (Vl ?_));show wpAny _ X.A (do let _ <-comprehension (.ListComp elt [⟨target,iter,ifs,0⟩] scope pos) scope X.env _ (newList []) false (eval iter X.env) (some (assign (.Name y py) X.env))) _ _ s;refine Vl (XF (wpAny_comprehension_free (use:=some (assign (.Name y py) X.env)) (Q:=fun _ s'=>SP X pins r .next s') rfl t (jf (fH I.ok S)) S.kind S.loc ?_) (fun _ s' J=>Vp (Vp J)) fun _ _ e=>e);refine tZ (RR:=fun n C=>compPost (model X.prog X.w) X.A X.xe (some (assign (.Name y py) X.env)) (fun _ s'=>SP X pins r .next s') n C) S F hi k I h ?_;intro D C s' H' z m B d P h1 h2 R O q;show wpAny _ X.A (assign (.Name y py) X.env (.ref D)) _ _ _;refine b8 (lL (pos:=py) E f M L _ s' σ H' (.ref D) (.ref D) (fun σ2 H2=>σ2=σ.set i (some (.ref D))/\H2=H') B rfl ⟨rfl,rfl⟩) fun _ c ⟨σ2,H2,j,e1,e2⟩=>?_;subst e1 e2;obtain⟨K,u,_⟩:=j.pin (C,z) (VU _ (VU _ (by simp)));refine⟨m,P.at' fun o e=>?_,fun h' T=>?_⟩
 .rw[d] at e;cases e;exact K
 .have G:Inv X pins (σ.set i (some (.ref D))) H2 c:=j.mO fun p hp=>j.pin p (VU _ (WU _ hp));exact⟨_,H2,G.turned (t':=c.toks) (fun b o k e=>T.extBut b o k e) u h2 (.inr h1) R O,q⟩
def GK:ku X (binaryOp .Mult) (rI IntMulOk fun i j=>.int (i*j)):=NF fun _ _ _ _ _ _ _ a q=>mul_int q a
def zM(_ j:Int):Prop:=j≠0/\j.natAbs.log2<9000
def Cw:ku X (binaryOp .FloorDiv) (rI zM fun i j=>.int (i.fdiv j)):=NF fun _ _ _ _ _ _ _ a q=>floordiv_int a.1 q (.inl (PyProof.noPylong_of_log2 a.2))
def MG(lo c:Int)(n:Nat):It:=⟨fun i _=>i<n,fun i H x H'=>H'=H/\x=.int (lo+i*c),fun i _=>n<=i⟩
def xu{P:Program}{w:World}{tg:Expr}(it:Addr)(lo c:Int)(n:Nat):Turn P w K tg (MG lo c n) [it] it (fun i h=>IsRangeIter h it (lo+(i:Nat)*c) ((n:Int)-(i:Nat)) c) where
 mem:=by simp
 obj:=fun i h st b a=>by
  have e:b=it:=by simpa using a
  subst e
  exact⟨_,st,fun v z=>by
   have D:Data.fields _=Data.cell v:=z
   cases D⟩
 keep:=fun i h h' st k=>k it (by simp) _ st
 item:=by
  intro X m r y l i pins s σ H E I f st j;subst m r y;obtain⟨p,x,B,q,u,g⟩:=f it (by simp);have W:=Walks.range (prog:=X.prog) (w:=X.w) (I.ok.hd l) it lo c n;refine W.item i s _ _ j st fun v h' tk A d kk=>?_;obtain⟨t,rfl⟩:=A;have C:Inv X pins σ H {s with heap:=h',toks:=tk}:=I.turned (fun b o a e=>kk b o (by simpa using a) e) p x q u g;exact⟨_,rfl,wC (s:={s with heap:=h',toks:=tk}) (n:="range_iterator") d rfl rfl (by decide) ⟨.int (lo+i*c),H,C,⟨t,rfl⟩,⟨rfl,rfl⟩,d,fun b a=>(f b a).1⟩⟩
 done:=by
  intro X m r y l i pins s σ H E I f st j;subst m r y;obtain⟨p,x,B,q,u,g⟩:=f it (by simp);exact wpAny_pyNext_range_end (I.ok.hd l) st (by have:n<=i:=j;lia) fun h' F=>⟨rfl,I.turned (t':=s.toks) (fun b o a e=>F b o a e) p x q u g⟩
 self:=fun _ _ _ _ _ st h=>wpAny_pyIter_rangeiter st h
def HL{a b:Int}(ha:-(2^62)<=a)(d:a<2^62)(i:-(2^62)<=b)(g:b<2^62)(h:c≠0)(e:-1000<=c)(f:c<=1000):Builtin.Range.small a b c=true:=by
 have h1:=rangeSize_toNat a b c;have h2:=rangeSize_toNat_le a b c;unfold Builtin.Range.small;generalize Builtin.Range.rangeSize a b c=r at *;simp only[Builtin.Range.rangeFitsLong,Wi,X7,XM,Y_];refine⟨⟨⟨⟨⟨by lia,by lia⟩,by lia,by lia⟩,by lia,by lia⟩,by lia,by lia⟩,?_⟩;right;split<;>simp only[Wi,XM]<;>lia
variable{tg:Expr}
def B3{pins:List (Addr×Obj)}{σ:St}{H:Hp}{s:Shared}{R:It->Hp->Prop}{E:Value->Shared->Prop}{lo hi:Int}{t u v:Tok}{tk:Nat}(I:Inv X pins σ H s)(h1:-(2^62)<=lo)(h2:lo<2^62)(g:-(2^62)<=hi)(f:hi<2^62)
  (c0:c≠0) (c1:-1000<=c) (c2:c<=1000)
  (q:R (MG lo c (Builtin.Range.rangeSize lo hi c).toNat) H):wpAny (model X.prog X.w) X.A (pyIter (.ref s.heap.objs.size)) (Pa X pins σ tg R) E {s with heap:=s.heap.push {cls:=.type "range",data:=.fields #[.int lo t,.int hi u,.int c v]},toks:=tk}:=by
 refine wpAny_pyIter_range (IsRange.new ..) (HL h1 h2 g f c0 c1 c2) ?_;have a:Inv X pins σ H {s with heap:=s.heap.push {cls:=.type "range",data:=.fields #[.int lo t,.int hi u,.int c v]},toks:=tk}:=I.kept fun b o e=>Vt _ e
 refine⟨(s.heap.push {cls:=.type "range",data:=.fields #[.int lo t,.int hi u,.int c v]}).objs.size,[(s.heap.push {cls:=.type "range",data:=.fields #[.int lo t,.int hi u,.int c v]}).objs.size],_,_,H,rfl,
  a.kept (t':=tk) fun b o e=>Vt _ e,xu _ lo c (Builtin.Range.rangeSize lo hi c).toNat,?_,fun b d=>?_,q⟩
 .have e1:lo+((0:Nat):Int)*c=lo:=by simp
  have e2:(((Builtin.Range.rangeSize lo hi c).toNat:Nat):Int)-((0:Nat):Int)=Builtin.Range.rangeSize lo hi c:=by have:=rangeSize_toNat lo hi c;lia
  show IsRangeIter _ _ (lo+((0:Nat):Int)*c) ((((Builtin.Range.rangeSize lo hi c).toNat:Nat):Int)-((0:Nat):Int)) c;rw[e1,e2];exact VM _ rfl
 .have e:b=(s.heap.push {cls:=.type "range",data:=.fields #[.int lo t,.int hi u,.int c v]}).objs.size:=by simpa using d
  subst e;exact a.Co (Vu _) (a.hok.fresh (Vu _))
def NY(ta:TA):TI:=fun σ H R=>ta σ H fun vs H1=>∃i j c:Int,vs=[.int i,.int j,.int c]/\(-(2^62)<=i/\i<2^62/\-(2^62)<=j/\j<2^62)/\(c≠0/\-1000<=c/\c<=1000)/\R (MG i c (Builtin.Range.rangeSize i j c).toNat) H1
def Bo{a b c:Expr}{ta:TA}{p pos:Pos}(o:Gl X "range")(n:X.mg "range"=none)(ha:PA X [a,b,c] ta)(he:starEach [a,b,c] X.env=(false,eval a X.env)::starEach [b,c] X.env:=by rfl)
  (hpl:(backTo pos (starEach [b,c] X.env)).any (·.1)=false:=by rfl):PI X tg (.Call (.Name "range" p) [a,b,c] [] pos) (NY ta):=by
 intro pins s σ H R I h;refine Call_ (hV I o n boot_range (Xt (b8 (ha pos pins s σ H _ I h) fun us x ⟨vs,H1,w,v,q1⟩=>?_) he hpl));obtain⟨i,j,c,e,⟨q1,k,m,g⟩,⟨c0,c1,c2⟩,q⟩:=q1;subst e;cases v with
 |cons r d =>
  cases d with
  |cons u d =>
   cases d with
   |cons f d =>
    cases d;obtain⟨t,rfl⟩:=r;obtain⟨t',rfl⟩:=u;obtain⟨l,rfl⟩:=f;exact call_range_3 c0 (B3 w q1 k m g c0 c1 c2 q) (.inl (PyProof.noPylong_small (by lia)))
def yR{lo:Int}{g:TG}{tb:TS}{D:Ends}{σ:St}{H:Hp}(Pv:Nat->St->Hp->Prop)(j:Pv 0 σ H)
  (d:∀i σ H,i<n->Pv i σ H->g (.int (lo+i*c)) σ H fun σ2 H2=>tb {D with nx:=Pv (i+1),ct:=Pv (i+1),bk:=D.nx} σ2 H2) (h:∀σ H,Pv n σ H->D.nx σ H):
  ∃W:Nat->Nat->St->Hp->Prop,(∃m,W 0 m σ H)/\∀i m σ H,W i m σ H ->
   ((MG lo c n).stop i H/\D.nx σ H)\/((MG lo c n).go i H/\∃N:St->Hp->Prop,(∀σ' H',N σ' H'->∃b,b<m/\W (i+1) b σ' H')/\∀x H',(MG lo c n).yld i H x H'->g x σ H' fun σ2 H2=>tb {D with nx:=N,ct:=N,bk:=D.nx} σ2 H2):=by
 refine⟨fun i m σ H=>m=n-i/\i<=n/\Pv i σ H,⟨n,by simp,Wn _,j⟩,?_⟩;rintro i m σ H ⟨rfl,hi,p⟩;by_cases a:i<n
 .refine .inr ⟨a,Pv (i+1),fun σ' H' f=>⟨n-(i+1),by lia,rfl,a,f⟩,fun x H' y=>?_⟩;obtain⟨e,y⟩:=y;subst e y;exact d i σ _ a p
 .have e:i=n:=by lia
  subst e;exact .inl ⟨Vu _,h σ H p⟩
end
mutual
inductive DR(K:PySem.W.Frag)(H:Hp):V->PyData->Prop
 |non:DR K H .non .none
 |bl (b:Bool):DR K H (.bl b) (.bool b)
 |int (i:Int):DR K H (.int i) (.int i)
 |str (x:Str):DR K H (.str x) (.str x)
 |lst {a:Addr} {xs:List V} {ds:List PyData}:dX K H a xs->Ce K H xs ds->DR K H (.ref a) (.list ds)
 |tup {a:Addr} {xs:List V} {ds:List PyData}:x_ K H a xs->Ce K H xs ds->DR K H (.ref a) (.tuple ds)
inductive Ce(K:PySem.W.Frag)(H:Hp):List V->List PyData->Prop
 |nil:Ce K H [] []
 |cons {x:V} {xs:List V} {d:PyData} {ds:List PyData}:DR K H x d->Ce K H xs ds->Ce K H (x::xs) (d::ds)
end
section
variable{X:Cx}{pins:List (Addr×Obj)}{σ:St}{H:Hp}{s:Shared}
mutual
theorem DR.reads(I:Inv X pins σ H s):∀{x:V} {d:PyData} {u:Value},DR X.K H x d->RelV x u->∃as,Reads s.heap u d as
 |_,_,_,.non,r=>by cases r;exact⟨_,.none⟩
 |_,_,_,.bl b,r=>by cases r;exact⟨_,.bool b⟩
 |_,_,_,.int i,r=>by obtain⟨t,rfl⟩:=r;exact⟨_,.int i t⟩
 |_,_,_,.str x,r=>by obtain⟨t,rfl⟩:=r;exact⟨_,.str x t⟩
 |_,_,_,.lst h a,r=>by
  cases r;obtain⟨its,e,p,_⟩:=I.list h;obtain⟨as,c⟩:=Ce.reads I a e;obtain⟨o,e1,e2,n,e3⟩:=p.isList;exact⟨_,.list e1 e2 e3 (by simpa using c)⟩
 |_,_,_,.tup h a,r=>by
  cases r;obtain⟨its,e,p,_⟩:=I.tuple h;obtain⟨as,c⟩:=Ce.reads I a e;obtain⟨o,e1,e2,n,e3⟩:=p;exact⟨_,.tuple e1 e2 e3 (by simpa using c)⟩
theorem Ce.reads(I:Inv X pins σ H s):∀{xs:List V} {ds:List PyData} {us:List Value},Ce X.K H xs ds->Vals xs us->∃as,ReadsAll s.heap us ds as
 |_,_,_,.nil,r=>by cases r;exact⟨_,.nil⟩
 |_,_,_,.cons h c,r=>by
  cases r with
  |cons d e =>
   obtain⟨as,a⟩:=DR.reads I h d;obtain⟨bs,b⟩:=Ce.reads I c e;exact⟨_,.cons a b⟩
end
def P9(K:PySem.W.Frag):R2:=fun x y H Q=>∃d e,DR K H x d/\DR K H y e/\d.canLay0=true/\e.canLay0=true/\d.depth<=60/\Q (.bl (PyData.eqv d e)) H
def PK(K:PySem.W.Frag):R2:=fun x y H Q=>∃d e,DR K H x d/\DR K H y e/\d.canLay0=true/\e.canLay0=true/\d.depth<=60/\Q (.bl (!PyData.eqv d e)) H
def K5(i:X.A.units+60<cLine):ku X (compareOp .Eq) (P9 X.K):=by
 intro pins s σ H x y v u Q I a c h;obtain⟨d,e,b,he,c1,c2,dp,q⟩:=h;obtain⟨as,f⟩:=b.reads I a;obtain⟨bs,g⟩:=he.reads I c;exact SeqAt.compareEq_reads f g c1 c2 (by have:=Nat.min_le_left d.depth e.depth;lia) ⟨.bl _,H,I,rfl,q⟩
def LV(i:X.A.units+60<cLine):ku X (compareOp .NotEq) (PK X.K):=by
 intro pins s σ H x y v u Q I a c h;obtain⟨d,e,b,he,c1,c2,dp,q⟩:=h;obtain⟨as,f⟩:=b.reads I a;obtain⟨bs,g⟩:=he.reads I c;exact SeqAt.compareNe_reads f g c1 c2 (by have:=Nat.min_le_left d.depth e.depth;lia) ⟨.bl _,H,I,rfl,q⟩
end
end L2
namespace L2.EP
open PySem PySem.Spec PyProof.Rows
variable{i j:Int}{H H' H0:Hp}{c c':Bool}{p C:Addr}{K:PySem.W.Frag}{v:V}{x y:Str}{n m:Nat}{X:Cx}{xs:List V}{s:Shared}{e:Expr}{op:CmpOp}{σ:St}{es:List Expr}{rest:List Stmt}{tn:List Str}{js:List Nat}{fp:List Addr}
open Classical in
def off(H:Hp)(O:Addr->Prop):Hp:=fun b=>if O b then none else H b
def aT{O:Addr->Prop}{b:Addr}(h:¬O b):off H O b=H b:=by unfold off;rw[Vm h]
def l4{O:Addr->Prop}{b:Addr}(h:O b):off H O b=none:=by unfold off;rw[Vo h]
def cV{O:Addr->Prop}{b:Addr}{o:HO}(h:off H O b=some o):¬O b/\H b=some o:=by
 by_cases a:O b
 .rw[l4 a] at h;cases h
 .rw[aT a] at h;exact⟨a,h⟩
def au(H:Hp)(O:Addr->Prop):aD (off H O) H:=fun _ _ h=>(cV h).2
def ah{O:Addr->Prop}(s:aD H H'):aD (off H O) (off H' O):=fun b o h=>by
 obtain⟨h1,h2⟩:=cV h;rw[aT h1];exact s _ _ h2
def l_{O a:Addr->Prop}(l:∀b,a b->O b):aD (off H O) (off H a):=fun b o h=>by
 obtain⟨h1,h2⟩:=cV h;rw[aT fun z=>h1 (l _ z)];exact h2
def G0(H:Hp):off H (fun _=>False)=H:=funext fun _=>aT fun z=>z
def pX{O:Addr->Prop}{o:HO}(h:O p):off (upd H p o) O=off H O:=funext fun b=>by
 by_cases a:O b
 .rw[l4 a,l4 a]
 .rw[aT a,aT a,aA];rintro rfl;exact a h
def eP(h:H p=none)(o:HO):aD H (upd H p o):=fun b u q=>by rw[aA (bN q h)];exact q
def aD.rd{a:Addr}{u:HO}(e:aD H H')(h:Rd H a u):Rd H' a u:=by
 rcases h with h|⟨o,h⟩
 .exact .inl (e _ _ h)
 .exact .inr ⟨o,e _ _ h⟩
def Rt(H:Hp)(p:Addr)(xs:List V):Prop:=H p=some (.tup xs)\/∃_:Empty,H p=some (.tup xs)
def Rt.pl(h:Rt H p xs):H p=some (.tup xs):=by
 rcases h with h|⟨o,h⟩
 .exact h
 .exact h
def Rt.rd(h:Rt H p xs):Rd H p (.tup xs):=.inl h.pl
def aD.rt{a:Addr}{u:List V}(e:aD H H')(h:Rt H a u):Rt H' a u:=.inl (e _ _ h.pl)
def uu(e:aD H H')(h:Rt H p xs):x_ K H' p xs:=.inl (aD.rt e h).rd
inductive Nn where
 |any
 |new (H0:Hp)
 |set (D:Addr->Prop)
variable{N:Nn}
inductive Mt where
 |inl (xs:List V)
 |inr (kvs:List (Key×V))
 |inT (kvs:List (List Key×V))
 |inB (kvs:List ((Int×Bool)×V))
def mo:Mt->HO
 |.inl xs=>.lst xs
 |.inr kvs=>.dK kvs
 |.inT kvs=>.dT kvs
 |.inB kvs=>.dB kvs
def Mo(K:PySem.W.Frag)(H:Hp)(p:Addr):Mt->Prop
 |.inl xs=>dX K H p xs
 |.inr kvs=>Rd H p (.dK kvs)
 |.inT kvs=>Rd H p (.dT kvs)
 |.inB kvs=>Rd H p (.dB kvs)
def Mo.mono{o:Mt}(s:aD H H')(h:Mo K H p o):Mo K H' p o:=by
 cases o with
 |inl xs=>exact s.seq h
 |inr kvs=>exact aD.rd s h
 |inT kvs=>exact aD.rd s h
 |inB kvs=>exact aD.rd s h
theorem Mo.of{K:PySem.W.Frag}{H:Hp}{p:Addr}{o:Mt}(h:H p=some (mo o)):Mo K H p o:=by
 cases o with
 |inl xs=>exact dX.of h
 |inr kvs=>exact .inl h
 |inT kvs=>exact .inl h
 |inB kvs=>exact .inl h
def Nn.has:Nn->Hp->Addr->Mt->Prop
 |.any,_,_,_=>True
 |.new H0,H,p,xs=>H0 p=none/\H p=some (mo xs)
 |.set D,H,p,xs=>D p/\H p=some (mo xs)
def Nn.mono{xs:Mt}(s:aD H H')(h:N.has H p xs):N.has H' p xs:=by
 cases N with
 |any=>exact True.intro
 |new H0=>exact⟨h.1,s _ _ h.2⟩
 |set D=>exact⟨h.1,s _ _ h.2⟩
class Py(α:Type) where
 rp:PySem.W.Frag->Nn->Hp->V->α->Prop
 tr:∀{K:PySem.W.Frag} {N N':Nn} {H H':Hp} {v:V} {a:α},(∀p (o:Mt),Mo K H p o->N.has H p o->Mo K H' p o/\N'.has H' p o)->(∀p xs,Rt H p xs->Rt H' p xs)->rp K N H v a->rp K N' H' v a
def aw{α:Type}[Py α]{a:α}(s:aD H H')(h:Py.rp K N H v a):Py.rp K N H' v a :=
 Py.tr (fun _ _ q n=>⟨Mo.mono s q,Nn.mono s n⟩) (fun _ _ q=>aD.rt s q) h
def bp{α:Type}[Py α]{N':Nn}{a:α}(w:∀p (o:Mt),N.has H p o->N'.has H p o)(h:Py.rp K N H v a):Py.rp K N' H v a :=
 Py.tr (fun _ _ q n=>⟨q,w _ _ n⟩) (fun _ _ q=>q) h
instance:Py Int where
 rp _ _ _ v a:=v=.int a
 tr _ _ h:=h
instance:Py Bool where
 rp _ _ _ v a:=v=.bl a
 tr _ _ h:=h
instance:Py Unit where
 rp _ _ _ v _:=v=.non
 tr _ _ h:=h
instance{α:Type}[Py α]:Py (Option α) where
 rp K N H v a:=match a with|none=>v=.non|some b=>Py.rp K N H v b
 tr {K N N' H H' v a} l t h:=by
  cases a with
  |none=>exact h
  |some b=>exact Py.tr (α:=α) l t h
instance{α β:Type}[Py α][Py β]:Py (α×β) where
 rp K N H v a:=∃p x y,v=.ref p/\Rt H p [x,y]/\Py.rp K N H x a.1/\Py.rp K N H y a.2
 tr l t h:=by
  obtain⟨p,x,y,e,s,h1,h2⟩:=h;exact⟨p,x,y,e,t _ _ s,Py.tr l t h1,Py.tr l t h2⟩
theorem bB{α β:Type}{F G:α->β->Prop}(f:∀a b,F a b->G a b):∀{d:List α} {c:List β},Paired F d c->Paired G d c
 |_,_,.nil=>.nil
 |_,_,.cons h t=>.cons (f _ _ h) (bB f t)
theorem bL{α β:Type}{F:α->β->Prop}:∀{b:List α} {a:List β},Paired F b a->b.length=a.length
 |_,_,.nil=>rfl
 |_,_,.cons _ t=>congrArg (·+1) (bL t)
theorem j4{α β:Type}{F:α->β->Prop}:∀{d:List α} {c:List β} {i:Nat} {b:β},Paired F d c->c[i]?=some b->∃a,d[i]?=some a/\F a b
 |_,_,_,_,.nil,e=>by simp at e
 |_,_,0,_,.cons h _,e=>by simp at e;subst e;exact⟨_,rfl,h⟩
 |_,_,i+1,_,.cons _ t,e=>by
  obtain⟨a,h1,h2⟩:=j4 (i:=i) t (by simpa using e);exact⟨a,by simpa using h1,h2⟩
theorem qr{α β:Type}{F:α->β->Prop}:∀{d:List α} {c:List β} {i:Nat} {a:α},Paired F d c->d[i]?=some a->∃b,c[i]?=some b/\F a b
 |_,_,_,_,.nil,e=>by simp at e
 |_,_,0,_,.cons h _,e=>by simp at e;subst e;exact⟨_,rfl,h⟩
 |_,_,i+1,_,.cons _ t,e=>by
  obtain⟨a,h1,h2⟩:=qr (i:=i) t (by simpa using e);exact⟨a,by simpa using h1,h2⟩
theorem uP{α β:Type}{F:α->β->Prop}:∀{b m₁:List α} {a m₂:List β},Paired F b a->Paired F m₁ m₂->Paired F (b++m₁) (a++m₂)
 |_,_,_,_,.nil,h=>h
 |_,_,_,_,.cons h t,h'=>.cons h (uP t h')
theorem F0{α β:Type}{F:α->β->Prop}{a:α}{b:β}(f:F a b):∀{d:List α} {c:List β} (i:Nat),Paired F d c->Paired F (d.set i a) (c.set i b)
 |_,_,_,.nil=>.nil
 |_,_,0,.cons _ t=>.cons f t
 |_,_,i+1,.cons h t=>.cons h (F0 f i t)
theorem vH{α β:Type}{F:α->β->Prop}:∀{b:List α} {a:List β} (n:Nat),Paired F b a->Paired F (b.drop n) (a.drop n)
 |_,_,0,h=>h
 |_,_,_+1,.nil=>.nil
 |_,_,n+1,.cons _ t=>vH n t
theorem uI{α β:Type}{F:α->β->Prop}:∀{b:List α} {a:List β} (n:Nat),Paired F b a->Paired F (b.take n) (a.take n)
 |_,_,0,_=>.nil
 |_,_,_+1,.nil=>.nil
 |_,_,n+1,.cons h t=>.cons h (uI n t)
instance{α:Type}[Py α]:Py (List α) where
 rp K N H v a:=∃p xs,v=.ref p/\dX K H p xs/\N.has H p (.inl xs)/\Paired (fun x b=>Py.rp K N H x b) xs a
 tr l t h:=by
  obtain⟨p,xs,e,s,n,r⟩:=h;obtain⟨s',c⟩:=l _ (.inl xs) s n;exact⟨p,xs,e,s',c,bB (fun _ _ q=>Py.tr l t q) r⟩
class PyD(α:Type) extends Py α where
 dat:α->PyData
 dr:∀{K:PySem.W.Frag} {N:Nn} {H:Hp} {v:V} {a:α},Py.rp K N H v a->DR K H v (dat a)
 lay:∀a,(dat a).canLay0=true
 dep:Nat
 depth:∀a,(dat a).depth<=dep
 eqv:∀a b,PyData.eqv (dat a) (dat b)=true↔a=b
instance:PyD Int where
 dat:=.int
 dr h:=by cases h;exact .int _
 lay _:=rfl
 dep:=0
 depth _:=Vu _
 eqv a b:=by simp[PyData.eqv]
instance{α β:Type}[PyD α][PyD β]:PyD (α×β) where
 dat a:=.tuple [PyD.dat a.1,PyD.dat a.2]
 dr h:=by
  obtain⟨p,x,y,e,s,h1,h2⟩:=h;subst e;exact .tup (.inl s.rd) (.cons (PyD.dr h1) (.cons (PyD.dr h2) .nil))
 lay a:=by
  show PyData.canLayAll0 [PyD.dat a.1,PyD.dat a.2]=true;simp[PyData.canLayAll0,PyD.lay]
 dep:=max (PyD.dep α) (PyD.dep β)+1
 depth a:=by
  have h1:=PyD.depth a.1;have h2:=PyD.depth a.2;show PyData.depthAll [PyD.dat a.1,PyD.dat a.2]+1<=_;simp only[PyData.depthAll];lia
 eqv a b:=by
  rw[PyData.eqv];simp only[PyData.eqvAll,Bool.and_true,Wi,PyD.eqv];exact⟨fun h=>aap h.1 h.2,fun h=>by subst h;exact⟨rfl,rfl⟩⟩
theorem rq{α:Type}[PyD α]{K:PySem.W.Frag}{N:Nn}{H:Hp}:∀{xs:List V} {as:List α},Paired (fun x b=>Py.rp K N H x b) xs as->Ce K H xs (as.map PyD.dat)
 |_,_,.nil=>.nil
 |_,_,.cons h t=>.cons (PyD.dr h) (rq t)
theorem qt{α:Type}[PyD α]:∀as:List α,PyData.canLayAll0 (as.map PyD.dat)=true
 |[]=>rfl
 |a::as=>by simp[PyData.canLayAll0,PyD.lay,qt as]
theorem xK{α:Type}[PyD α]:∀as:List α,PyData.depthAll (as.map PyD.dat)<=PyD.dep α
 |[]=>Wn _
 |a::as=>by
  have h1:=PyD.depth a;have h2:=xK as;simp only[Wa,PyData.depthAll];lia
theorem wZ{α:Type}[PyD α]:∀as bs:List α,PyData.eqvAll (as.map PyD.dat) (bs.map PyD.dat)=true↔as=bs
 |[],[]=>by simp[PyData.eqvAll]
 |[],_::_=>by simp[PyData.eqvAll]
 |_::_,[]=>by simp[PyData.eqvAll]
 |a::as,b::bs=>by simp[PyData.eqvAll,PyD.eqv,wZ as bs]
instance{α:Type}[PyD α]:PyD (List α) where
 dat a:=.list (a.map PyD.dat)
 dr h:=by
  obtain⟨p,xs,e,s,n,r⟩:=h;subst e;exact .lst s (rq r)
 lay a:=qt a
 dep:=PyD.dep α+1
 depth a:=by
  show PyData.depthAll (a.map PyD.dat)+1<=_;have:=xK a;lia
 eqv a b:=by rw[PyData.eqv];exact wZ a b
inductive Bd:Type 1
 |val {α:Type} [Py α] (b:Bool) (a:α):Bd
 |own {α:Type} [Py α] (b:Bool) (as:List α):Bd
 |dpo {α:Type} [Py α] (a:α):Bd
variable{g:Bd}
abbrev aL:=List (Option Bd)
def Nf(H0:Hp):Bool->Nn
 |true=>.new H0
 |false=>.any
def Nf.wk{b:Bool}{xs:Mt}(h:H0 p=none)(a:H p=some (mo xs)):(Nf H0 b).has H p xs:=by cases b;exact True.intro;exact⟨h,a⟩
def Nf.le{b b':Bool}{xs:Mt}(l:b'=true->b=true)(h:(Nf H0 b).has H p xs):(Nf H0 b').has H p xs:=by
 cases b' with
 |false=>exact True.intro
 |true=>rw[l rfl] at h;exact h
def Bd.ok(K:PySem.W.Frag)(H0:Hp)(O:Addr->Prop)(H:Hp)(v:V):Bd->Prop
 |@Bd.val _ _ b a=>Py.rp K (Nf H0 b) (off H O) v a
 |@Bd.own _ _ _ _=>False
 |@Bd.dpo _ _ _=>False
def Bd.zr(K:PySem.W.Frag)(H0:Hp)(O:Addr->Prop)(H:Hp)(D:Addr->Prop)(v:V):Bd->Prop
 |@Bd.val _ _ _ _=>False
 |@Bd.own _ _ b as=>∃p xs,v=.ref p/\D p/\H p=some (.lst xs)/\Paired (fun x a=>Py.rp K (Nf H0 b) (off H O) x a) xs as
 |@Bd.dpo _ _ a=>Py.rp K (.set D) H v a
def Bd.gA:Bd->Prop
 |@Bd.val _ _ _ _=>False
 |@Bd.own _ _ _ _=>True
 |@Bd.dpo _ _ _=>True
structure dA(K:PySem.W.Frag)(H0:Hp)(F O:Addr->Prop)(Γ:aL)(σ:St)(H:Hp):Prop where
 same:aD H0 H
 fo:∀p,F p->O p
 f0:∀p,F p->∃xs:Mt,H0 p=some (mo xs)
 own:∀p,O p->∃xs:Mt,H p=some (mo xs)
 len:σ.length=Γ.length
 at_:∀(i:Nat) (g:Bd),Γ[i]?=some (some g)->¬g.gA->∃v,σ[i]?=some (some v)/\g.ok K H0 O H v
 dis:∃D:Nat->Addr->Prop,(∀i j p,D i p->D j p->i=j)/\(∀i p,D i p->O p/\H0 p=none)/\∀(i:Nat) (g:Bd),Γ[i]?=some (some g)->g.gA->∃v,σ[i]?=some (some v)/\g.zr K H0 O H (D i) v
section
variable{K:PySem.W.Frag}{H0:Hp}{F O:Addr->Prop}{Γ:aL}{σ:St}{H H':Hp}
def Bd.go(s:aD H H')(h:g.ok K H0 O H v):g.ok K H0 O H' v:=by
 cases g with
 |val b a=>exact aw (ah s) h
 |own b as=>exact h
 |dpo a=>exact h
def Bd.N2{D j:Addr->Prop}(h:g.zr K H0 O H D v)(i:∀p (xs:Mt),D p->H p=some (mo xs)->H' p=some (mo xs))(d:aD (off H O) (off H' j))(m:∀p,D p->O p)(f:∀p,O p->∃xs:Mt,H p=some (mo xs)):g.zr K H0 j H' D v:=by
 cases g with
 |val b a=>exact h
 |own b as =>
  obtain⟨p,xs,e,o,q,r⟩:=h;exact⟨p,xs,e,o,i p (.inl xs) o q,bB (fun _ _ z=>aw d z) r⟩
 |dpo a =>
  have h':Py.rp K (.set D) H v a:=h;refine Py.tr (α:=_) (a:=a) (fun p xs q n=>?_) (fun p xs q=>?_) h'
  .obtain⟨k,l⟩:=n;have h2:=i p xs k l;exact⟨Mo.of h2,k,h2⟩
  .have hp:∀u,(H p=some (.tup u)\/∃o,H p=some (.frz o (.tup u)))->¬O p:=fun u z hp=>by
    obtain⟨ys,w⟩:=f p hp;rcases z with z|⟨o,z⟩
    .rw[z] at w;rcases ys with ys|ys|ys<;>cases w
    .rw[z] at w;rcases ys with ys|ys|ys<;>cases w
   have c:=hp xs q.rd;rcases q with q|⟨o,q⟩
   .exact .inl ((au _ _) _ _ (d _ _ (by rw[aT c];exact q)))
   .exact .inr ⟨o,(au _ _) _ _ (d _ _ (by rw[aT c];exact q))⟩
theorem dA.go(S:dA K H0 F O Γ σ H)(s:aD H H'):dA K H0 F O Γ σ H' where
 same:=S.same.trans s
 fo:=S.fo
 f0:=S.f0
 own:=fun p h=>let ⟨xs,q⟩:=S.own p h;⟨xs,s _ _ q⟩
 len:=S.len
 at_:=fun i g e n=>let ⟨v,q,r⟩:=S.at_ i g e n;⟨v,q,Bd.go s r⟩
 dis:=by
  obtain⟨D,c,a,b⟩:=S.dis;refine⟨D,c,a,fun i g e o=>?_⟩;obtain⟨v,q,r⟩:=b i g e o;exact⟨v,q,Bd.N2 r (fun p xs _ z=>s _ _ z) (ah s) (fun p z=>(a i p z).1) S.own⟩
def dA.gU(S:dA K H0 F O Γ σ H)(h:H p=none):H0 p=none:=S.same.free h
def dA.k_(S:dA K H0 F O Γ σ H)(h:H p=none):¬O p:=fun o=>by
 obtain⟨xs,q⟩:=S.own p o;rw[h] at q;cases q
def dA.back{α:Type}[Py α]{b:Bool}{a:α}(S:dA K H0 F O Γ σ H)(h:Py.rp K (Nf H b) (off H' O) v a):Py.rp K (Nf H0 b) (off H' O) v a :=
 bp (fun p xs n=>by cases b with|true=>exact⟨S.gU n.1,n.2⟩|false=>exact True.intro) h
end
theorem get_set_ne.{u}{α:Type u}{l:List α}{i j:Nat}{a:α}(h:j≠i):(l.set i a)[j]?=l[j]?:=by
 rw[Zu (Yi h)]
theorem get_set_eq.{u}{α:Type u}{l:List α}{i:Nat}{a:α}(h:i<l.length):(l.set i a)[i]?=some a:=by
 rw[YA h]
theorem get_set_some.{u}{α:Type u}{l:List (Option α)}{i:Nat}{a x:α}(h:(l.set i (some a))[i]?=some (some x)):i<l.length/\a=x:=by
 by_cases b:i<l.length
 .rw[get_set_eq b] at h;injection h with h;injection h with h;exact⟨b,h⟩
 .rw[XC (by rw[WM];lia)] at h;cases h
theorem dA.set{K:PySem.W.Frag}{H0:Hp}{F O:Addr->Prop}{Γ:aL}{σ:St}{H:Hp}{α:Type}[Py α]{b:Bool}{a:α}{v:V}{i:Nat}(S:dA K H0 F O Γ σ H)(r:Py.rp K (Nf H0 b) (off H O) v a):
  dA K H0 F O (Γ.set i (some (.val b a))) (σ.set i (some v)) H where
 same:=S.same
 fo:=S.fo
 f0:=S.f0
 own:=S.own
 len:=by rw[WM,WM];exact S.len
 at_:=fun j g e n=>by
  by_cases c:j=i
  .subst c;obtain⟨l,d⟩:=get_set_some e;subst d;exact⟨v,get_set_eq (by rw[S.len];exact l),r⟩
  .rw[get_set_ne c] at e;obtain⟨w,q,z⟩:=S.at_ j g e n;exact⟨w,by rw[get_set_ne c];exact q,z⟩
 dis:=by
  obtain⟨D,h,k,f⟩:=S.dis;refine⟨D,h,k,fun j g e o=>?_⟩
  have c:j≠i:=by
   rintro rfl;obtain⟨_,d⟩:=get_set_some e;subst d;exact o
  rw[get_set_ne c] at e;obtain⟨w,q,z⟩:=f j g e o;exact⟨w,by rw[get_set_ne c];exact q,z⟩
def tV{α:Type}[Py α](K:PySem.W.Frag)(Γ:aL)(b:Bool)(a:α):TE:=fun σ H Q=>∃H0 F O,dA K H0 F O Γ σ H/\∀v H',aD H H'->Py.rp K (Nf H0 b) (off H' O) v a->Q v H'
@[irreducible] def E{α:Type}[Py α](X:Cx)(Γ:aL)(e:Expr)(b:Bool)(a:α):Prop:=PE X e (tV X.K Γ b a)
def J5(K:PySem.W.Frag)(Γ:aL)(c:Bool):TT:=fun σ H Q=>∃H0 F O,dA K H0 F O Γ σ H/\∀H',aD H H'->Q c H'
@[irreducible] def T(X:Cx)(Γ:aL)(e:Expr)(c:Bool):Prop:=PT X e (J5 X.K Γ c)
@[irreducible] def TW(X:Cx)(Γ:aL)(e:Expr)(c:Bool):Prop:=PW X e (J5 X.K Γ c)
def aN{t t':TE}(h:PE X e t)(w:∀σ H Q,t' σ H Q->t σ H Q):PE X e t':=fun pins s σ H Q I q=>h pins s σ H Q I (w _ _ _ q)
def tT{t t':TT}(h:PT X e t)(w:∀σ H Q,t' σ H Q->t σ H Q):PT X e t':=fun pins s σ H Q I q=>h pins s σ H Q I (w _ _ _ q)
def AB{t t':TT}(h:PW X e t)(w:∀σ H Q,t' σ H Q->t σ H Q):PW X e t':=fun a pins s σ H Q I q=>h a pins s σ H Q I (w _ _ _ q)
section
variable{X:Cx}{Γ:aL}{α β γ:Type}[Py α][Py β][Py γ]{e e1 e2 e3:Expr}{b b1 b2 b3:Bool}{pos:Pos}
def ae(i:Nat){a:α}(h:Γ[i]?=some (some (.val b a)):=by rfl)(f:X.N[i]?=some x:=by rfl)(e:Hh X.env.scope x:=by first|exact Or.inl rfl|exact Or.inr (Or.inl rfl)|exact Or.inr (Or.inr rfl))
  (d:(x==("__debug__":Str))=false:=by decide) (c:(x==("__classdict__":Str))=false:=by decide):E X Γ (.Name x pos) b a:=by
 with_unfolding_all
  exact aN (pv i f e d c) fun σ H Q ⟨H0,F,O,S,q⟩=>by
    obtain⟨v,h1,h2⟩:=S.at_ i _ h (fun z=>z);exact⟨v,h1,q v H (aD.refl _) h2⟩
def af{j:Nat}:E X Γ (.Constant (.int i) j pos) true i:=by
 with_unfolding_all
  exact aN LJ fun σ H Q ⟨H0,F,O,S,q⟩=>q _ H (aD.refl _) rfl
def iV{i:Bool}{j:Nat}:E X Γ (.Constant (.bool i) j pos) true i:=by
 with_unfolding_all
  exact aN Nu fun σ H Q ⟨H0,F,O,S,q⟩=>q _ H (aD.refl _) rfl
def kR{j:Nat}:E X Γ (.Constant .none j pos) true (none:Option α):=by
 with_unfolding_all
  exact aN K9 fun σ H Q ⟨H0,F,O,S,q⟩=>q _ H (aD.refl _) rfl
theorem E.some{a:α}(h:E X Γ e b a):E X Γ e b (some a):=by
 with_unfolding_all
  exact aN h fun σ H Q ⟨H0,F,O,S,q⟩=>⟨H0,F,O,S,fun v H' s r=>q v H' s r⟩
def y6{op:Operator}{C:Int->Int->Prop}{g:Int->Int->Int}(b:ku X (binaryOp op) (rI C fun i j=>.int (g i j)))(ha:E X Γ e1 b1 i)(d:E X Γ e2 b2 j)(e:C i j):E X Γ (.BinOp e1 op e2 pos) true (g i j):=by
 with_unfolding_all
  exact aN (Bc b ha d) fun σ H Q ⟨H0,F,O,S,q⟩=>⟨H0,F,O,S,fun v H1 a h=>⟨H0,F,O,S.go a,fun w H2 f c=>⟨i,j,h,c,e,q _ H2 (a.trans f) rfl⟩⟩⟩
def bC(ha:E X Γ e1 b1 i)(c:E X Γ e2 b2 j):E X Γ (.BinOp e1 .Add e2 pos) true (i+j):=by
 with_unfolding_all
  exact y6 (C:=fun _ _=>True) (fun pins s σ H x y v u Q I a b ⟨i,j,h1,h2,_,q⟩=>L6 pins s σ H x y v u Q I a b ⟨i,j,h1,h2,q⟩) ha c True.intro
def eU(ha:E X Γ e1 b1 i)(c:E X Γ e2 b2 j):E X Γ (.BinOp e1 .Sub e2 pos) true (i-j):=by
 with_unfolding_all
  exact y6 (C:=fun _ _=>True) (fun pins s σ H x y v u Q I a b ⟨i,j,h1,h2,_,q⟩=>Li pins s σ H x y v u Q I a b ⟨i,j,h1,h2,q⟩) ha c True.intro
def aC(ha:E X Γ e1 b1 i)(b:E X Γ e2 b2 j)(a:IntMulOk i j):E X Γ (.BinOp e1 .Mult e2 pos) true (i*j):=by
 with_unfolding_all
  exact y6 GK ha b a
def aZ(ha:E X Γ e1 b1 i)(b:E X Γ e2 b2 j)(a:zM i j):E X Γ (.BinOp e1 .FloorDiv e2 pos) true (i.fdiv j):=by
 with_unfolding_all
  exact y6 Cw ha b a
def aQ(ha:E X Γ e1 b1 i)(b:E X Γ e2 b2 j)(a:j≠0):E X Γ (.BinOp e1 .Mod e2 pos) true (i.fmod j):=by
 with_unfolding_all
  exact y6 Hq ha b a
def Oh(ha:E X Γ e1 b1 i)(b:E X Γ e2 b2 j)(a:Er i j):E X Γ (.BinOp e1 .Pow e2 pos) true (i^j.toNat):=by
 with_unfolding_all
  exact y6 LQ ha b a
def fC(ha:E X Γ e1 b1 i):E X Γ (.UnaryOp .USub e1 pos) true (-i):=by
 with_unfolding_all
  exact aN (NZ Ld ha) fun σ H Q ⟨H0,F,O,S,q⟩=>⟨H0,F,O,S,fun v H1 b a=>⟨i,a,q _ H1 b rfl⟩⟩
def CV(X:Cx)(op:CmpOp)(x:α)(y:β)(c:Bool):Prop:=∃r,ku X (compareOp op) r/\∀(N N':Nn) (H:Hp) (u v:V) (Q:VK),Py.rp X.K N H u x->Py.rp X.K N' H v y->Q (.bl c) H->r u v H Q
def AL{g:Int->Int->Bool}(a:ku X (compareOp op) (GZ fun i j=>.bl (g i j)))(i j:Int):CV X op i j (g i j):=⟨_,a,fun N N' H u v Q h1 h2 q=>⟨i,j,h1,h2,q⟩⟩
def gJ:CV X .Lt i j (decide (i<j)):=AL M8 i j
def CC:CV X .LtE i j (decide (i<=j)):=AL NN i j
def fB:CV X .Gt i j (decide (j<i)):=AL MW i j
def CT:CV X .GtE i j (decide (j<=i)):=AL N0 i j
def ax:CV X .Eq i j (decide (i=j)):=⟨_,Ow,fun N N' H u v Q h1 h2 q=>by
 cases h1;cases h2;refine⟨rfl,?_⟩
 rw[qq,Zr];exact q⟩
def fU:CV X .NotEq i j (!decide (i=j)):=⟨_,NV,fun N N' H u v Q h1 h2 q=>by
 cases h1;cases h2;refine⟨rfl,?_⟩
 rw[qq,Zr];exact q⟩
def Ou{α:Type}[PyD α][DecidableEq α]{x y:α}(a:X.A.units+60<cLine)(b:PyD.dep α<=60:=by decide):CV X .Eq x y (decide (x=y)):=⟨_,K5 a,fun N N' H u v Q h1 h2 q=>by
 refine⟨_,_,PyD.dr h1,PyD.dr h2,PyD.lay _,PyD.lay _,V7 (PyD.depth _) b,?_⟩
 have e:PyData.eqv (PyD.dat x) (PyD.dat y)=decide (x=y):=by
  by_cases h:x=y
  .rw[V3 h];exact(PyD.eqv x y).mpr h
  .rw[VW h];exact Bool.eq_false_iff.mpr fun z=>h ((PyD.eqv x y).mp z)
 rw[e];exact q⟩
def MU{α:Type}[PyD α][DecidableEq α]{x y:α}(a:X.A.units+60<cLine)(b:PyD.dep α<=60:=by decide):CV X .NotEq x y (!decide (x=y)):=⟨_,LV a,fun N N' H u v Q h1 h2 q=>by
 refine⟨_,_,PyD.dr h1,PyD.dr h2,PyD.lay _,PyD.lay _,V7 (PyD.depth _) b,?_⟩
 have e:PyData.eqv (PyD.dat x) (PyD.dat y)=decide (x=y):=by
  by_cases h:x=y
  .rw[V3 h];exact(PyD.eqv x y).mpr h
  .rw[VW h];exact Bool.eq_false_iff.mpr fun z=>h ((PyD.eqv x y).mp z)
 rw[e];exact q⟩
def fE{x:α}{y:β}(i:CV X op x y c)(ha:E X Γ e1 b1 x)(h:E X Γ e2 b2 y)(g:behindInMarks op e2=false:=by first|exact Ez _|rfl):E X Γ (.Compare e1 [op] [e2] pos) true c:=by
 with_unfolding_all
  obtain⟨r,d,f⟩:=i
  exact aN (HD d ha h g) fun σ H Q ⟨H0,F,O,S,q⟩=>⟨H0,F,O,S,fun v H1 b j=>⟨H0,F,O,S.go b,fun w H2 a e =>
   f _ _ H2 v w _ (aw ((ah a).trans (au _ _)) j) (aw (au _ _) e) (q _ H2 (b.trans a) rfl)⟩⟩
def av{x:α}{y:β}(i:CV X op x y c)(ha:E X Γ e1 b1 x)(h:E X Γ e2 b2 y)(g:behindInMarks op e2=false:=by first|exact Ez _|rfl):T X Γ (.Compare e1 [op] [e2] pos) c:=by
 with_unfolding_all
  obtain⟨r,d,f⟩:=i
  exact tT (G_ d ha h g) fun σ H Q ⟨H0,F,O,S,q⟩=>⟨H0,F,O,S,fun v H1 b j=>⟨H0,F,O,S.go b,fun w H2 a e =>
   f _ _ H2 v w _ (aw ((ah a).trans (au _ _)) j) (aw (au _ _) e) ⟨c,rfl,q H2 (b.trans a)⟩⟩⟩
def Ng{x:Option α}{j:Nat}{p:Pos}(ha:E X Γ e1 b1 x)(d:∀(K:PySem.W.Frag) (N:Nn) (H:Hp) (a:α),¬Py.rp K N H .non a):E X Γ (.Compare e1 [.Is] [.Constant .none j p] pos) true x.isNone:=by
 with_unfolding_all
  exact aN (D4 (EC ha)) fun σ H Q ⟨H0,F,O,S,q⟩=>⟨H0,F,O,S,fun v H1 e b=>by
    have:=q (.bl (decide (v=.non))) H1 e;refine this ?_;cases x with
    |none=>cases b;rfl
    |some a =>
     have c:v≠.non:=by rintro rfl;exact d _ _ _ a b
     show V.bl (decide (v=.non))=.bl false
     rw[VW c]⟩
def xB{x:Option α}{j:Nat}{p:Pos}(ha:E X Γ e1 b1 x)(d:∀(K:PySem.W.Frag) (N:Nn) (H:Hp) (a:α),¬Py.rp K N H .non a):T X Γ (.Compare e1 [.Is] [.Constant .none j p] pos) x.isNone:=by
 with_unfolding_all
  exact tT (Ey (EC ha)) fun σ H Q ⟨H0,F,O,S,q⟩=>⟨H0,F,O,S,fun v H1 f b=>by
    refine⟨decide (v=.non),rfl,?_⟩
    have e:decide (v=.non)=x.isNone:=by
     cases x with
     |none=>cases b;rfl
     |some a =>
      have c:v≠.non:=by rintro rfl;exact d _ _ _ a b
      rw[VW c];rfl
    rw[e];exact q H1 f⟩
def fY(h:E X Γ e b c)(he:∀whole,isTrue e X.env whole=(do let v <-whole;standAt e.pos;holding [v] (truthy v)):=by intro _;rfl):T X Γ e c:=by
 with_unfolding_all
  exact tT (KG h he) fun σ H Q ⟨H0,F,O,S,q⟩=>⟨H0,F,O,S,fun v H1 d a=>⟨c,a,q H1 d⟩⟩
def jM(h:T X Γ e c):T X Γ (.UnaryOp .Not e pos) (!c):=by
 with_unfolding_all
  exact tT (JY h) fun σ H Q ⟨H0,F,O,S,q⟩=>⟨H0,F,O,S,fun H1 a=>q H1 a⟩
variable{rest:List Expr}
def kf(h:T X Γ e c):TW X Γ (.BoolOp .And [e] pos) c:=by
 with_unfolding_all
  exact HF h
def nC(h:T X Γ e c):TW X Γ (.BoolOp .Or [e] pos) c:=by
 with_unfolding_all
  exact Lq h
def IP:PW X e (fun _ _ _=>False):=fun _ _ _ _ _ _ _ h=>h.elim
def oF:PE X e (fun _ _ _=>False):=fun _ _ _ _ _ _ h=>h.elim
def nF(h:T X Γ e1 c)(h':c=true->TW X Γ (.BoolOp .And (e2::rest) pos) c'):TW X Γ (.BoolOp .And (e1::e2::rest) pos) (c&&c'):=by
 with_unfolding_all
  cases c with
  |true=>exact AB (FD h (h' rfl)) fun σ H Q ⟨H0,F,O,S,q⟩=>⟨H0,F,O,S,fun H1 a=>sP ⟨H0,F,O,S.go a,fun H2 b=>q H2 (a.trans b)⟩⟩
  |false=>exact AB (FD h IP) fun σ H Q ⟨H0,F,O,S,q⟩=>⟨H0,F,O,S,fun H1 a=>sR (q H1 a)⟩
def tO(h:T X Γ e1 c)(h':c=false->TW X Γ (.BoolOp .Or (e2::rest) pos) c'):TW X Γ (.BoolOp .Or (e1::e2::rest) pos) (c || c'):=by
 with_unfolding_all
  cases c with
  |false=>exact AB (Jo h (h' rfl)) fun σ H Q ⟨H0,F,O,S,q⟩=>⟨H0,F,O,S,fun H1 a=>sR ⟨H0,F,O,S.go a,fun H2 b=>q H2 (a.trans b)⟩⟩
  |true=>exact AB (Jo h IP) fun σ H Q ⟨H0,F,O,S,q⟩=>⟨H0,F,O,S,fun H1 a=>sP (q H1 a)⟩
def TW.t(h:TW X Γ e c):T X Γ e c:=by
 with_unfolding_all
  exact h.pt
def jG{op:BoolOp}{a:α}(h:E X Γ e b a):E X Γ (.BoolOp op [e] pos) b a:=by
 with_unfolding_all
  exact LL h
def oZ(h:E X Γ e1 b1 c)(h':c=true->E X Γ (.BoolOp .And (e2::rest) pos) b2 c'):E X Γ (.BoolOp .And (e1::e2::rest) pos) true (c&&c'):=by
 with_unfolding_all
  cases c with
  |true=>exact aN (EG h (h' rfl)) fun σ H Q ⟨H0,F,O,S,q⟩=>⟨H0,F,O,S,fun v H1 a b=>⟨true,b,sP ⟨H0,F,O,S.go a,fun w H2 e d=>q w H2 (a.trans e) d⟩⟩⟩
  |false=>exact aN (EG h oF) fun σ H Q ⟨H0,F,O,S,q⟩=>⟨H0,F,O,S,fun v H1 a b=>⟨false,b,sR (q _ H1 a rfl)⟩⟩
def DM(h:E X Γ e1 b1 c)(h':c=false->E X Γ (.BoolOp .Or (e2::rest) pos) b2 c'):E X Γ (.BoolOp .Or (e1::e2::rest) pos) true (c || c'):=by
 with_unfolding_all
  cases c with
  |false=>exact aN (IX h (h' rfl)) fun σ H Q ⟨H0,F,O,S,q⟩=>⟨H0,F,O,S,fun v H1 a b=>⟨false,b,sR ⟨H0,F,O,S.go a,fun w H2 e d=>q w H2 (a.trans e) d⟩⟩⟩
  |true=>exact aN (IX h oF) fun σ H Q ⟨H0,F,O,S,q⟩=>⟨H0,F,O,S,fun v H1 a b=>⟨true,b,sP (q _ H1 a rfl)⟩⟩
def Dj(h:E X Γ e b c):E X Γ (.UnaryOp .Not e pos) true (!c):=by
 with_unfolding_all
  exact aN (Ly h) fun σ H Q ⟨H0,F,O,S,q⟩=>⟨H0,F,O,S,fun v H1 d a=>⟨c,a,q _ H1 d rfl⟩⟩
def jw{x y:α}(g:T X Γ e c)(ha:c=true->E X Γ e1 b x)(h:c=false->E X Γ e2 b y):E X Γ (.IfExp e e1 e2 pos) b (if c then x else y):=by
 with_unfolding_all
  cases c with
  |true=>exact aN (iF g (ha rfl) oF) fun σ H Q ⟨H0,F,O,S,q⟩=>⟨H0,F,O,S,fun H1 a=>sP ⟨H0,F,O,S.go a,fun w H2 f d=>q w H2 (a.trans f) d⟩⟩
  |false=>exact aN (iF g oF (h rfl)) fun σ H Q ⟨H0,F,O,S,q⟩=>⟨H0,F,O,S,fun H1 a=>sR ⟨H0,F,O,S.go a,fun w H2 f d=>q w H2 (a.trans f) d⟩⟩
def A3{xs:Mt}(h:(Nf H0 b1).has H p xs):(Nf H0 (b1&&b2)).has H p xs:=Nf.le (fun z=>(WI.mp z).1) h
def AE{xs:Mt}(h:(Nf H0 b2).has H p xs):(Nf H0 (b1&&b2)).has H p xs:=Nf.le (fun z=>(WI.mp z).2) h
def wq{F O:Addr->Prop}{Γ:aL}(S:dA K H0 F O Γ σ H)(hp:H p=none):aD H (upd H p (.tup xs))/\Rt (off (upd H p (.tup xs)) O) p xs:=by
 with_unfolding_all
  exact⟨eP hp _,.inl (by rw[aT (S.k_ hp)];exact aP)⟩
def cL{F O:Addr->Prop}{Γ:aL}(S:dA K H0 F O Γ σ H)(hp:H p=none):aD H (upd H p (.lst xs))/\off (upd H p (.lst xs)) O p=some (.lst xs):=by
 with_unfolding_all
  exact⟨eP hp _,by rw[aT (S.k_ hp)];exact aP⟩
def bJ{x:α}{y:β}{k:Nat}(ha:E X Γ e1 b1 x)(h:E X Γ e2 b2 y)(e:starEach [e1,e2] X.env=(false,eval e1 X.env)::starEach [e2] X.env:=by rfl)(b:starEach [e2] X.env=(false,eval e2 X.env)::starEach [] X.env:=by rfl):
  E X Γ (.Tuple [e1,e2] k pos) (b1&&b2) (x,y):=by
 with_unfolding_all
  exact aN (Lu (aB ha (aB h bq b) e)) fun σ H Q ⟨H0,F,O,S,q⟩=>⟨H0,F,O,S,fun v H1 d i=>⟨H0,F,O,S.go d,fun w H2 c f=>⟨by show 2<=sizeLine;decide,fun p hp=>by
    obtain⟨a,g⟩:=wq (xs:=[v,w]) ((S.go d).go c) hp;refine q _ _ (d.trans (c.trans a)) ⟨p,v,w,rfl,g,?_,?_⟩
    .exact bp (fun _ _ n=>A3 n) (aw ((ah c).trans (ah a)) i)
    .exact bp (fun _ _ n=>AE n) (aw (ah a) f)⟩⟩⟩
@[irreducible] def EA(X:Cx)(Γ:aL)(es:List Expr)(b:Bool)(as:List α):Prop :=
 PA X es fun σ H Q=>∃H0 F O,dA X.K H0 F O Γ σ H/\∀vs H',aD H H'->Paired (fun x a=>Py.rp X.K (Nf H0 b) (off H' O) x a) vs as->Q vs H'
def II{X:Cx}{t t':TA}(h:PA X es t)(w:∀σ H Q,t' σ H Q->t σ H Q):PA X es t':=fun p pins s σ H Q I q=>h p pins s σ H Q I (w _ _ _ q)
def ck:EA X Γ [] b ([]:List α):=by
 with_unfolding_all
  exact II bq fun σ H Q ⟨H0,F,O,S,q⟩=>q [] H (aD.refl _) .nil
def aJ{a:α}{as:List α}(h:E X Γ e b a)(h':EA X Γ es b as)(f:starEach (e::es) X.env=(false,eval e X.env)::starEach es X.env:=by rfl):EA X Γ (e::es) b (a::as):=by
 with_unfolding_all
  exact II (aB h h' f) fun σ H Q ⟨H0,F,O,S,q⟩=>⟨H0,F,O,S,fun v H1 d i=>⟨H0,F,O,S.go d,fun vs H2 c g=>q _ H2 (d.trans c) (.cons (aw (ah c) i) g)⟩⟩
def fI{as:List α}(h:EA X Γ es b as)(f:as.length<=1000):E X Γ (.List es pos) b as:=by
 with_unfolding_all
  exact aN (yi h) fun σ H Q ⟨H0,F,O,S,q⟩=>⟨H0,F,O,S,fun vs H1 a e=>⟨by rw[bL e];exact W4 (di f),fun p hp=>by
    obtain⟨c,d⟩:=cL (xs:=vs) (S.go a) hp
    exact q _ _ (a.trans c) ⟨p,vs,rfl,dX.of d,Nf.wk ((S.go a).gU hp) d,bB (fun _ _ r=>aw (ah c) r) e⟩⟩⟩
def a9{xs:List α}{a:α}(ha:E X Γ e1 b xs)(y:E X Γ e2 b2 i)(h:zv xs i=some a)(l:pZ e2:=by intro _ _;rfl):E X Γ (.Subscript e1 e2 pos) b a:=by
 with_unfolding_all
  exact aN (wG zX ha y l) fun σ H Q ⟨H0,F,O,S,q⟩=>⟨H0,F,O,S,fun v H1 g o=>⟨H0,F,O,S.go g,fun w H2 c u=>by
    obtain⟨p,vs,e,s,n,r⟩:=o;obtain⟨j,h1,h2,B,A,z⟩:=my h;obtain⟨x,t,m⟩:=j4 r h2;refine⟨p,vs,i,x,e,u,(au _ _).seq ((ah c).seq s),?_,q x H2 (g.trans c) (aw (ah c) m)⟩;unfold zv at h ⊢;rw[bL r];cases f:Cr xs.length i with
    |none=>rw[f] at h;cases h
    |some k =>
     have d:=(lU f).1;rw[h1] at d;cases d
     exact t⟩⟩
def a_{u:α×β}{j:Nat}{f:Pos}(ha:E X Γ e1 b u):E X Γ (.Subscript e1 (.Constant (.int 0) j f) pos) b u.1:=by
 with_unfolding_all
  exact aN (wG yW ha af (fun _ _=>rfl)) fun σ H Q ⟨H0,F,O,S,q⟩=>⟨H0,F,O,S,fun v H1 c i=>⟨H0,F,O,S.go c,fun w H2 a h=>by
    obtain⟨p,u,l,e,d,g,k⟩:=i
    exact⟨p,_,0,u,e,h,uu (au _ _) (aD.rt (ah a) d),rfl,q u H2 (c.trans a) (aw (ah a) g)⟩⟩⟩
def bz{u:α×β}{j:Nat}{g:Pos}(ha:E X Γ e1 b u):E X Γ (.Subscript e1 (.Constant (.int 1) j g) pos) b u.2:=by
 with_unfolding_all
  exact aN (wG yW ha af (fun _ _=>rfl)) fun σ H Q ⟨H0,F,O,S,q⟩=>⟨H0,F,O,S,fun v H1 d k=>⟨H0,F,O,S.go d,fun w H2 a i=>by
    obtain⟨p,u,c,e,f,l,h⟩:=k
    exact⟨p,_,1,c,e,i,uu (au _ _) (aD.rt (ah a) f),rfl,q c H2 (d.trans a) (aw (ah a) h)⟩⟩⟩
def gR{p:Pos}(c:Gl X "abs")(f:X.mg "abs"=none)(ha:E X Γ e b i)(a:starEach [e] X.env=(false,eval e X.env)::starEach [] X.env:=by rfl):E X Γ (.Call (.Name "abs" p) [e] [] pos) true (if i<0 then -i else i):=by
 with_unfolding_all
  exact aN (fA Fd c f boot_abs (aB ha bq a) (he:=a)) fun σ H Q ⟨H0,F,O,S,q⟩=>⟨H0,F,O,S,fun v H1 g d=>⟨i,by cases d;rfl,q _ H1 g rfl⟩⟩
def IQ{p:Pos}(h:X.calm=true)(g:Gl X "min")(e:X.mg "min"=none)(ha:E X Γ e1 b1 i)(f:E X Γ e2 b2 j)(b:starEach [e1,e2] X.env=(false,eval e1 X.env)::starEach [e2] X.env:=by rfl)(a:starEach [e2] X.env=(false,eval e2 X.env)::starEach [] X.env:=by rfl)(hpl:(backTo pos (starEach [e2] X.env)).any (·.1)=false:=by rfl):
  E X Γ (.Call (.Name "min" p) [e1,e2] [] pos) true (if j<i then j else i):=by
 with_unfolding_all
  exact aN (fA (BU h) g e boot_min (aB ha (aB f bq a) b) (he:=b) (hpl:=hpl)) fun σ H Q ⟨H0,F,O,S,q⟩=>⟨H0,F,O,S,fun v H1 c l=>⟨H0,F,O,S.go c,fun w H2 k d=>⟨i,j,by cases l;cases d;rfl,q _ H2 (c.trans k) rfl⟩⟩⟩
def M7{p:Pos}(h:X.calm=true)(g:Gl X "max")(e:X.mg "max"=none)(ha:E X Γ e1 b1 i)(f:E X Γ e2 b2 j)(b:starEach [e1,e2] X.env=(false,eval e1 X.env)::starEach [e2] X.env:=by rfl)(a:starEach [e2] X.env=(false,eval e2 X.env)::starEach [] X.env:=by rfl)(hpl:(backTo pos (starEach [e2] X.env)).any (·.1)=false:=by rfl):
  E X Γ (.Call (.Name "max" p) [e1,e2] [] pos) true (if j>i then j else i):=by
 with_unfolding_all
  exact aN (fA (B9 h) g e boot_max (aB ha (aB f bq a) b) (he:=b) (hpl:=hpl)) fun σ H Q ⟨H0,F,O,S,q⟩=>⟨H0,F,O,S,fun v H1 c l=>⟨H0,F,O,S.go c,fun w H2 k d=>⟨i,j,by cases l;cases d;rfl,q _ H2 (c.trans k) rfl⟩⟩⟩
def bD{xs:List α}{p:Pos}(f:Gl X "len")(d:X.mg "len"=none)(ha:E X Γ e b xs)(a:starEach [e] X.env=(false,eval e X.env)::starEach [] X.env:=by rfl):E X Γ (.Call (.Name "len" p) [e] [] pos) true (xs.length:Int):=by
 with_unfolding_all
  exact aN (fA vk f d PySem.boot_len (aB ha bq a) (he:=a)) fun σ H Q ⟨H0,F,O,S,q⟩=>⟨H0,F,O,S,fun v H1 h g=>by
    obtain⟨p,vs,e,c,n,r⟩:=g;refine⟨p,vs,by rw[e],.inl ((au _ _).seq c),q _ H1 h ?_⟩;show V.int _=V.int _
    rw[bL r]⟩
end
structure GD where
 nx:aL->Prop
 rt:Bd->Prop
 bk:aL->Prop:=fun _=>False
 ct:aL->Prop:=fun _=>False
def Bd.QR(K:PySem.W.Frag)(H0:Hp)(F:Addr->Prop)(H:Hp)(v:V):Bd->Prop
 |@Bd.val _ _ b a=>Py.rp K (Nf H0 b) (off H F) v a
 |@Bd.own _ _ _ _=>False
 |@Bd.dpo _ _ _=>False
def tG(K:PySem.W.Frag)(Γ:aL)(D:GD):TS:=fun b σ H=>∃H0 F O,dA K H0 F O Γ σ H /\
 (∀Γ' σ' H' a,aD (off H O) (off H' a)->dA K H0 F a Γ' σ' H'->D.nx Γ'->b.nx σ' H') /\
 (∀g v H',aD H0 H'->Bd.QR K H0 F H' v g->D.rt g->b.rt v H') /\
 (∀Γ' σ' H' a,aD (off H O) (off H' a)->dA K H0 F a Γ' σ' H'->D.bk Γ'->b.bk σ' H') /\
 (∀Γ' σ' H' a,aD (off H O) (off H' a)->dA K H0 F a Γ' σ' H'->D.ct Γ'->b.ct σ' H')
@[irreducible] def S(X:Cx)(Γ:aL)(st:List Stmt)(D:GD):Prop:=p4 X st (tG X.K Γ D)
@[irreducible] def S1(X:Cx)(Γ:aL)(st:Stmt)(D:GD):Prop:=PS X st (tG X.K Γ D)
def eC{st:Stmt}{t t':TS}(h:PS X st t)(w:∀D σ H,t' D σ H->t D σ H):PS X st t':=fun pins s σ H D I q=>h pins s σ H D I (w _ _ _ q)
def rN{st:List Stmt}{t t':TS}(h:p4 X st t)(w:∀D σ H,t' D σ H->t D σ H):p4 X st t':=fun pins s σ H D I q=>h pins s σ H D I (w _ _ _ q)
section
variable{X:Cx}{Γ:aL}{D:GD}{α β γ:Type}[Py α][Py β][Py γ]{e e1 e2 e3:Expr}{b b1 b2 b3:Bool}{pos:Pos}{st:Stmt}{rest body orelse:List Stmt}
def aH(h:D.nx Γ):S X Γ [] D:=by
 with_unfolding_all
  exact rN Hs fun a σ H ⟨H0,F,O,Z,n,_⟩=>n Γ σ H O (aD.refl _) Z h
def Eh{X:Cx}{st:List Stmt}{ι:Type 1}{P:ι->Prop}{t:ι->TS}(h:∀i,P i->p4 X st (t i)):p4 X st (fun D σ H=>∃i,P i/\t i D σ H):=fun pins s σ H D I ⟨i,p,q⟩=>h i p pins s σ H D I q
def eO(h:S1 X Γ st {D with nx:=fun Γ'=>S X Γ' rest D}):S X Γ (st::rest) D:=by
 with_unfolding_all
  exact rN (Dw h (Eh (ι:=aL) (P:=fun Γ'=>S X Γ' rest D) (t:=fun Γ'=>tG X.K Γ' D) fun _ q=>q)) fun g σ H ⟨H0,F,O,Z,n,r,bk,ct⟩ =>
    ⟨H0,F,O,Z,fun Γ' σ' H' e sm f q=>⟨Γ',q,H0,F,e,f,fun Γ2 σ2 H2 d a b c=>n Γ2 σ2 H2 d (sm.trans a) b c,r,fun Γ2 σ2 H2 d a b c=>bk Γ2 σ2 H2 d (sm.trans a) b c,
     fun Γ2 σ2 H2 d a b c=>ct Γ2 σ2 H2 d (sm.trans a) b c⟩,r,bk,ct⟩
def ai(i:Nat){a:α}{p:Pos}(g:X.N.Nodup)(he:E X Γ e b a)(h:S X (Γ.set i (some (.val b a))) rest D)(hi:X.N[i]?=some x:=by rfl)(k:Loc X.env.scope x:=by first|exact Or.inl rfl|exact Or.inr rfl)
  (d:swapsWith e (some (.Name x p)) pos.line X.env=pure false:=by rfl) (f:X.fn x=true\/X.env.scope.names.lookup x=some .local:=by first|exact .inl rfl|exact .inr rfl):S X Γ (.Assign [.Name x p] e pos::rest) D:=by
 with_unfolding_all
  exact eO (eC (uQ g hi k he d f) fun l σ H ⟨H0,F,O,Z,n,_⟩=>⟨H0,F,O,Z,fun v H1 c j=>n _ _ H1 O (ah c) ((Z.go c).set j) h⟩)
def vi{a:α}(he:E X Γ e b a)(h:S X Γ rest D)(d:swapsWith e none pos.line X.env=pure false:=by rfl):S X Γ (.Expr e pos::rest) D:=by
 with_unfolding_all
  exact eO (eC (zS he d) fun g σ H ⟨H0,F,O,Z,n,_⟩=>⟨H0,F,O,Z,fun v H1 c f=>n Γ σ H1 O (ah c) (Z.go c) h⟩)
def aq{a:α}(he:E X Γ e b a)(h:D.rt (.val b a)):S X Γ (.Return (some e) pos::rest) D:=by
 with_unfolding_all
  exact eO (eC (Fb he) fun f σ H ⟨H0,F,O,Z,n,r,_⟩=>⟨H0,F,O,Z,fun v H1 d c=>r (.val b a) v H1 ((Z.go d).same) (aw (l_ Z.fo) c) h⟩)
def ND(d:T X Γ e c)(h1:c=true->S X Γ body {D with nx:=fun Γ'=>S X Γ' rest D})(h2:c=false->S X Γ orelse {D with nx:=fun Γ'=>S X Γ' rest D}):S X Γ (.If e body orelse pos::rest) D:=by
 with_unfolding_all
  cases c with
  |true=>exact eO (eC (JR d (h1 rfl) tU) fun f σ H ⟨H0,F,O,Z,n,r,bk,ct⟩=>⟨H0,F,O,Z,fun H1 b=>sP ⟨H0,F,O,Z.go b,fun Γ2 σ2 H2 a sm=>n Γ2 σ2 H2 a ((ah b).trans sm),r,fun Γ2 σ2 H2 a sm=>bk Γ2 σ2 H2 a ((ah b).trans sm),fun Γ2 σ2 H2 a sm=>ct Γ2 σ2 H2 a ((ah b).trans sm)⟩⟩)
  |false=>exact eO (eC (JR d tU (h2 rfl)) fun f σ H ⟨H0,F,O,Z,n,r,bk,ct⟩=>⟨H0,F,O,Z,fun H1 b=>sR ⟨H0,F,O,Z.go b,fun Γ2 σ2 H2 a sm=>n Γ2 σ2 H2 a ((ah b).trans sm),r,fun Γ2 σ2 H2 a sm=>bk Γ2 σ2 H2 a ((ah b).trans sm),fun Γ2 σ2 H2 a sm=>ct Γ2 σ2 H2 a ((ah b).trans sm)⟩⟩)
def aE(a:T X Γ e c)(h1:c=true->S X Γ body {D with nx:=fun Γ'=>S X Γ' rest D})(h2:c=false->S X Γ rest D):S X Γ (.If e body [] pos::rest) D:=by
 with_unfolding_all
  exact ND a h1 fun z=>aH (h2 z)
def kL(X:Cx)(body:List Stmt):TS:=fun b σ H=>∃Γ',∃a,S X Γ' body a/\tG X.K Γ' a b σ H
def iu:p4 X body (kL X body):=by
 with_unfolding_all
  exact fun pins s σ H b I ⟨Γ',a,t,q⟩=>(show p4 X body (tG X.K Γ' a) from t) pins s σ H b I q
def cb{ι:Type}(J:ι->aL->Prop)(μ:ι->Nat)(v:ι)(x:J v Γ)(y:∀i Γ',J i Γ'->∃c,T X Γ' e c/\(c=true->S X Γ' body {D with nx:=fun Γ2=>∃j,J j Γ2/\μ j<μ i,ct:=fun Γ2=>∃j,J j Γ2/\μ j<μ i,bk:=fun Γ2=>S X Γ2 rest D})/\(c=false->S X Γ' rest D))
  (hp:PassesOwn (model X.prog X.w) X.A X.env X.xe:=by exact Yw):S X Γ (.While e body [] pos::rest) D:=by
 with_unfolding_all
  refine eO (eC (C6 (tc:=fun σ H Q=>∃Γ',∃c,T X Γ' e c/\J5 X.K Γ' c σ H Q) (tb:=kL X body) hp
   (fun pins s σ H Q I ⟨Γ',c,t,q⟩=>(show PT X e (J5 X.K Γ' c) from t) pins s σ H Q I q) iu) fun B σ H ⟨H0,F,O,Z,n,r,bk,ct⟩=>?_)
  refine⟨fun m σ' H'=>∃i Γ' g,aD (off H O) (off H' g)/\dA X.K H0 F g Γ' σ' H'/\J i Γ'/\m=μ i,⟨_,v,Γ,O,aD.refl _,Z,x,rfl⟩,?_⟩;rintro m σ' H' ⟨i,Γ',g,sm,u,j,rfl⟩;obtain⟨c,t,o,p⟩:=y i Γ' j;refine⟨Γ',c,t,H0,F,g,u,fun H1 h=>?_⟩;cases c with
  |true =>
   refine sP ⟨fun σ2 H2=>∃d Γ2 b,aD (off H O) (off H2 b)/\dA X.K H0 F b Γ2 σ2 H2/\J d Γ2/\μ d<μ i,fun σ2 H2 ⟨d,Γ2,b,a,f,z,l⟩=>⟨μ d,l,d,Γ2,b,a,f,z,rfl⟩,Γ',_,o rfl,H0,F,g,u.go h,?_,r,?_,?_⟩
   .exact fun Γ2 σ2 H2 b a f ⟨d,q1,k⟩=>⟨d,Γ2,b,sm.trans ((ah h).trans a),f,q1,k⟩
   .exact fun Γ2 σ2 H2 b a f q=>n Γ2 σ2 H2 b (sm.trans ((ah h).trans a)) f q
   .exact fun Γ2 σ2 H2 b a f ⟨d,q1,k⟩=>⟨d,Γ2,b,sm.trans ((ah h).trans a),f,q1,k⟩
  |false=>exact sR (n Γ' σ' H1 g (sm.trans (ah h)) (u.go h) (p rfl))
def GP(g:TG)(α:Type)[Py α](put:Bool->α->aL->aL)(tc:Nat->Prop)(K:PySem.W.Frag):Prop :=
 ∀(b:Bool) (a:α) (H0:Hp) (F O:Addr->Prop) (Γ:aL) (σ:St) (H:Hp) (v:V) (Q:St->Hp->Prop),dA K H0 F O Γ σ H->Py.rp K (Nf H0 b) (off H O) v a ->
  (∀σ',dA K H0 F O (put b a Γ) σ' H->σ'.length=σ.length->(∀j,¬tc j->σ'[j]?=σ[j]?)->Q σ' H)->g v σ H Q
def G(X:Cx)(tg:Expr)(g:TG)(α:Type)[Py α](put:Bool->α->aL->aL)(tc:Nat->Prop):Prop:=PG X tg g/\GP g α put tc X.K
def bE(i:Nat):GP (jR i) α (fun b a Γ=>Γ.set i (some (.val b a))) (·=i) K:=fun b a H0 F O Γ σ H v Q Z r q=>q _ (Z.set r) (WM ..) fun j c=>get_set_ne c
def cu(i:Nat)(c:X.N.Nodup)(hi:X.N[i]?=some x:=by rfl)(e:Loc X.env.scope x:=by first|exact Or.inl rfl|exact Or.inr rfl)(d:X.fn x=true\/X.env.scope.names.lookup x=some .local:=by first|exact .inl rfl|exact .inr rfl):
  G X (.Name x pos) (jR i) α (fun b a Γ=>Γ.set i (some (.val b a))) (·=i):=⟨lL c hi e d,bE i⟩
variable{δ:Type}[Py δ]{tg:Expr}{g:TG}{tc:Nat->Prop}
def dQ{put:Bool->Int->aL->aL}{n:Int}{p ps:Pos}(J:Nat->aL->Prop)(y:Gl X "range")(u:X.mg "range"=none)(m:G X tg g Int put tc)(he:E X Γ e b n)(h1:-(2^62)<=n)(h2:n<2^62)(t:J 0 Γ)
  (B:∀(i:Nat) Γ',i<n.toNat->J i Γ'->S X (put true (i:Int) Γ') body {D with nx:=J (i+1),ct:=J (i+1),bk:=fun Γ2=>S X Γ2 rest D}) (L:∀Γ',J n.toNat Γ'->S X Γ' rest D)
  (z:X.calm=true:=by rfl) (hp:PassesOwn (model X.prog X.w) X.A X.env X.xe:=by exact Yw) (s:starEach [e] X.env=[(false,eval e X.env)]:=by rfl) (h:starEach [e] X.env=(false,eval e X.env)::starEach [] X.env:=by rfl)
  (k:∀x,foldedSetIterable (.Call (.Name "range" p) [e] [] ps) X.env x=pure x:=by intro _;rfl):S X Γ (.For tg (.Call (.Name "range" p) [e] [] ps) body [] pos::rest) D:=by
 with_unfolding_all
  refine eO (eC (qF hp z (B7 y u (aB he bq h) s) m.1 (tb:=kL X body) iu k) fun I σ H ⟨H0,F,O,Z,nx,r,bk,ct⟩=>?_);refine⟨H0,F,O,Z,fun v H1 o C=>⟨n,by cases C;rfl,h1,h2,BQ (lo:=0) (n:=n.toNat) (g:=g) (tb:=kL X body) (D:=I) (fun i σ' H'=>∃Γ' d,aD (off H O) (off H' d)/\dA X.K H0 F d Γ' σ' H'/\J i Γ') ⟨Γ,O,ah o,Z.go o,t⟩ ?_ ?_⟩⟩
  .rintro i σ' H' hi ⟨Γ',d,sm,l,j⟩;refine m.2 true (i:Int) H0 F d Γ' σ' H' _ _ l (by show V.int _=V.int _;rw[aa3]) fun σ2 c _ _=>?_;refine⟨_,_,B i Γ' hi j,H0,F,d,c,?_,r,?_,?_⟩
   .exact fun Γ2 σ2 H2 f a c q=>⟨Γ2,f,sm.trans a,c,q⟩
   .exact fun Γ2 σ2 H2 f a c q=>nx Γ2 σ2 H2 f (sm.trans a) c q
   .exact fun Γ2 σ2 H2 f a c q=>⟨Γ2,f,sm.trans a,c,q⟩
  .rintro σ' H' ⟨Γ',d,sm,l,j⟩;exact nx Γ' σ' H' d sm l (L Γ' j)
def oH{put:Bool->Int->aL->aL}{lo n c:Int}{p ps:Pos}(J:Nat->aL->Prop)(M:Gl X "range")(L:X.mg "range"=none)(C:G X tg g Int put tc)(l:E X Γ e1 b1 lo)(k:E X Γ e2 b2 n)(u:E X Γ e3 b3 c)(Y:-(2^62)<=lo/\lo<2^62/\-(2^62)<=n/\n<2^62)(t:c≠0/\-1000<=c/\c<=1000)(I:J 0 Γ)
  (R:∀(i:Nat) Γ',i<(Builtin.Range.rangeSize lo n c).toNat->J i Γ'->S X (put true (lo+i*c:Int) Γ') body {D with nx:=J (i+1),ct:=J (i+1),bk:=fun Γ2=>S X Γ2 rest D}) (V:∀Γ',J (Builtin.Range.rangeSize lo n c).toNat Γ'->S X Γ' rest D)
  (Q:X.calm=true:=by rfl) (hp:PassesOwn (model X.prog X.w) X.A X.env X.xe:=by exact Yw)
  (e:starEach [e1,e2,e3] X.env=(false,eval e1 X.env)::starEach [e2,e3] X.env:=by rfl) (o:starEach [e2,e3] X.env=(false,eval e2 X.env)::starEach [e3] X.env:=by rfl) (z:starEach [e3] X.env=(false,eval e3 X.env)::starEach [] X.env:=by rfl)
  (hpl:(backTo ps (starEach [e2,e3] X.env)).any (·.1)=false:=by rfl) (m:∀x,foldedSetIterable (.Call (.Name "range" p) [e1,e2,e3] [] ps) X.env x=pure x:=by intro _;rfl):S X Γ (.For tg (.Call (.Name "range" p) [e1,e2,e3] [] ps) body [] pos::rest) D:=by
 with_unfolding_all
  refine eO (eC (qF hp Q (Bo M L (aB l (aB k (aB u bq z) o) e) e hpl) C.1 (tb:=kL X body) iu m) fun U σ H ⟨H0,F,O,Z,nx,r,bk,ct⟩=>?_);refine⟨H0,F,O,Z,fun v H1 h T=>⟨H0,F,O,Z.go h,fun v' H2 s W=>⟨H0,F,O,Z.go (h.trans s),fun P H3 B N=>⟨lo,n,c,by cases T;cases W;cases N;rfl,Y,t,yR (lo:=lo) (c:=c) (n:=(Builtin.Range.rangeSize lo n c).toNat) (g:=g) (tb:=kL X body) (D:=U) (fun i σ' H'=>∃Γ' d,aD (off H O) (off H' d)/\dA X.K H0 F d Γ' σ' H'/\J i Γ') ⟨Γ,O,ah (h.trans (s.trans B)),Z.go (h.trans (s.trans B)),I⟩ ?_ ?_⟩⟩⟩⟩
  .rintro i σ' H' hi ⟨Γ',d,sm,y,j⟩;refine C.2 true (lo+i*c:Int) H0 F d Γ' σ' H' _ _ y rfl fun σ2 b _ _=>?_;refine⟨_,_,R i Γ' hi j,H0,F,d,b,?_,r,?_,?_⟩
   .exact fun Γ2 σ2 H2 f a b q=>⟨Γ2,f,sm.trans a,b,q⟩
   .exact fun Γ2 σ2 H2 f a b q=>nx Γ2 σ2 H2 f (sm.trans a) b q
   .exact fun Γ2 σ2 H2 f a b q=>⟨Γ2,f,sm.trans a,b,q⟩
  .rintro σ' H' ⟨Γ',d,sm,y,j⟩;exact nx Γ' σ' H' d sm y (V Γ' j)
def nE{put:Bool->α->aL->aL}{xs:List α}(J:Nat->aL->Prop)(o:G X tg g α put tc)(he:E X Γ e b xs)(t:J 0 Γ)
  (y:∀(i:Nat) (a:α) Γ',xs[i]?=some a->J i Γ'->S X (put b a Γ') body {D with nx:=J (i+1),ct:=J (i+1),bk:=fun Γ2=>S X Γ2 rest D}) (C:∀Γ',J xs.length Γ'->S X Γ' rest D)
  (u:X.calm=true:=by rfl) (hp:PassesOwn (model X.prog X.w) X.A X.env X.xe:=by exact Yw)
  (l:∀x,foldedSetIterable e X.env x=pure x:=by intro _;rfl):S X Γ (.For tg e body [] pos::rest) D:=by
 with_unfolding_all
  refine eO (eC (qF hp u (As he) o.1 (tb:=kL X body) iu l) fun B σ H ⟨H0,F,O,Z,nx,r,bk,ct⟩=>?_);refine⟨H0,F,O,Z,fun v H1 m z=>?_⟩;obtain⟨p,vs,e,s,nn,n⟩:=z;refine⟨p,e,⟨vs,(au _ _).seq s⟩,DY (K:=X.K) (a:=p) (xs:=vs) (g:=g) (tb:=kL X body) (D:=B) (fun i σ' H'=>∃Γ' d,aD (off H1 O) (off H' d)/\dA X.K H0 F d Γ' σ' H'/\J i Γ') ⟨Γ,O,aD.refl _,Z.go m,t⟩ ?_ ?_ ?_⟩
  .rintro i σ' H' hi ⟨Γ',d,sm,k,j⟩;exact(au _ _).seq (sm.seq s)
  .rintro i x σ' H' hi ⟨Γ',d,sm,k,j⟩;obtain⟨a,h1,h2⟩:=qr n hi;refine o.2 b a H0 F d Γ' σ' H' _ _ k (aw sm h2) fun σ2 f _ _=>?_;refine⟨_,_,y i a Γ' h1 j,H0,F,d,f,?_,r,?_,?_⟩
   .exact fun Γ2 σ2 H2 h c f q=>⟨Γ2,h,sm.trans c,f,q⟩
   .exact fun Γ2 σ2 H2 h c f q=>nx Γ2 σ2 H2 h ((ah m).trans (sm.trans c)) f q
   .exact fun Γ2 σ2 H2 h c f q=>⟨Γ2,h,sm.trans c,f,q⟩
  .rintro σ' H' ⟨Γ',d,sm,k,j⟩;rw[bL n] at j;exact nx Γ' σ' H' d ((ah m).trans sm) k (C Γ' j)
end
structure aI(P:Program)(w:World)(K:PySem.W.Frag)(mg:Str->Option Value)(base:Heap)(k:Nat)(name:Str)(ps:List Str)(sp:Sp):Prop where
 ex:∃(f:Addr) (fd:FuncData),ff P w K mg base oo k f fd ps sp/\Binds K fd ps []/\PySem.W.keepIn K (.ref f)=true/\mg name=some (.ref f)
def nr(H:Hp)(O:Addr->Prop):Prop:=∀p,O p->∃xs:Mt,H p=some (mo xs)
def cR{α β:Type}[Py α][Py β](K:PySem.W.Frag)(pre:α->Prop)(b:Bool)(f:α->β):Sp:=fun vs H Q _=>∃O v a,nr H O/\vs=[v]/\Py.rp K .any (off H O) v a/\pre a/\∀r H',aD H H'->Py.rp K (Nf H b) (off H' O) r (f a)->Q r H'
def cw{α β γ:Type}[Py α][Py β][Py γ](K:PySem.W.Frag)(pre:α->β->Prop)(b:Bool)(f:α->β->γ):Sp:=fun vs H Q _=>∃O v w a c,nr H O/\vs=[v,w]/\Py.rp K .any (off H O) v a/\Py.rp K .any (off H O) w c/\pre a c/\∀r H',aD H H'->Py.rp K (Nf H b) (off H' O) r (f a c)->Q r H'
def tF{α β γ δ:Type}[Py α][Py β][Py γ][Py δ](K:PySem.W.Frag)(pre:α->β->γ->Prop)(b:Bool)(f:α->β->γ->δ):Sp:=fun vs H Q _=>∃O v w x a c d,nr H O/\vs=[v,w,x]/\Py.rp K .any (off H O) v a/\Py.rp K .any (off H O) w c/\Py.rp K .any (off H O) x d/\pre a c d/\∀r H',aD H H'->Py.rp K (Nf H b) (off H' O) r (f a c d)->Q r H'
def Gk{α β γ δ ε:Type}[Py α][Py β][Py γ][Py δ][Py ε](K:PySem.W.Frag)(pre:α->β->γ->δ->Prop)(b:Bool)(f:α->β->γ->δ->ε):Sp:=fun vs H Q _=>∃O v w x y a c d g,nr H O/\vs=[v,w,x,y]/\Py.rp K .any (off H O) v a/\Py.rp K .any (off H O) w c/\Py.rp K .any (off H O) x d/\Py.rp K .any (off H O) y g/\pre a c d g/\∀r H',aD H H'->Py.rp K (Nf H b) (off H' O) r (f a c d g)->Q r H'
def br{b:Bool}:∀p xs,(Nf H0 b).has H p xs->Nn.any.has H p xs:=fun _ _ _=>True.intro
section
variable{X:Cx}{Γ:aL}{D:GD}{α β γ δ ε:Type}[Py α][Py β][Py γ][Py δ][Py ε]{e e1 e2 e3 e4:Expr}{b b1 b2 b3 b4:Bool}{p pos:Pos}{k:Nat}{name:Str}{ps:List Str}
def aF{pre:α->Prop}{f:α->β}{a:α}(C:aI X.prog X.w X.K X.mg X.base k name ps (cR X.K pre b f))(g:dv k X.A)(i:Gl X name)(h1:E X Γ e1 b1 a)(hp:pre a)
  (c:starEach [e1] X.env=(false,eval e1 X.env)::starEach [] X.env:=by rfl) (d:(name==("__debug__":Str))=false:=by decide) (hpl:(backTo pos (starEach [] X.env)).any (·.1)=false:=by rfl):
  E X Γ (.Call (.Name name p) [e1] [] pos) b (f a):=by
 with_unfolding_all
  obtain⟨l,fd,F,B,kp,m⟩:=C.ex
  exact aN (f9 F g i m kp B .nil kI (aB h1 bq c) d c hpl) fun σ H Q ⟨H0,F,O,S,q⟩=>⟨H0,F,O,S,fun h H1 e j =>
   ⟨O,h,a,(S.go e).own,rfl,bp br j,hp,fun r H' s' z=>q r H' (e.trans s') ((S.go e).back z)⟩⟩
def az{pre:α->β->Prop}{f:α->β->γ}{a:α}{c:β}(C:aI X.prog X.w X.K X.mg X.base k name ps (cw X.K pre b f))(l:dv k X.A)(n:Gl X name)(h1:E X Γ e1 b1 a)(h2:E X Γ e2 b2 c)(hp:pre a c)
  (d:starEach [e1,e2] X.env=(false,eval e1 X.env)::starEach [e2] X.env:=by rfl) (h:starEach [e2] X.env=(false,eval e2 X.env)::starEach [] X.env:=by rfl) (i:(name==("__debug__":Str))=false:=by decide) (hpl:(backTo pos (starEach [e2] X.env)).any (·.1)=false:=by rfl):
  E X Γ (.Call (.Name name p) [e1,e2] [] pos) b (f a c):=by
 with_unfolding_all
  obtain⟨u,fd,F,B,kp,m⟩:=C.ex
  exact aN (f9 F l n m kp B .nil kI (aB h1 (aB h2 bq h) d) i d hpl) fun σ H Q ⟨H0,F,O,S,q⟩=>⟨H0,F,O,S,fun t H1 g o=>⟨H0,F,O,S.go g,fun j H2 e s =>
   ⟨O,t,j,a,c,(S.go (g.trans e)).own,rfl,bp br (aw (ah e) o),bp br s,hp,fun r H' s' z=>q r H' (g.trans (e.trans s')) ((S.go (g.trans e)).back z)⟩⟩⟩
def dc{pre:α->β->γ->Prop}{f:α->β->γ->δ}{a:α}{c:β}{d:γ}(C:aI X.prog X.w X.K X.mg X.base k name ps (tF X.K pre b f))(s:dv k X.A)(t:Gl X name)(h1:E X Γ e1 b1 a)(h2:E X Γ e2 b2 c)(G:E X Γ e3 b3 d)(hp:pre a c d)
  (e:starEach [e1,e2,e3] X.env=(false,eval e1 X.env)::starEach [e2,e3] X.env:=by rfl) (j:starEach [e2,e3] X.env=(false,eval e2 X.env)::starEach [e3] X.env:=by rfl) (n:starEach [e3] X.env=(false,eval e3 X.env)::starEach [] X.env:=by rfl)
  (l:(name==("__debug__":Str))=false:=by decide) (hpl:(backTo pos (starEach [e2,e3] X.env)).any (·.1)=false:=by rfl):
  E X Γ (.Call (.Name name p) [e1,e2,e3] [] pos) b (f a c d):=by
 with_unfolding_all
  obtain⟨I,fd,F,B,kp,m⟩:=C.ex
  exact aN (f9 F s t m kp B .nil kI (aB h1 (aB h2 (aB G bq n) j) e) l e hpl) fun σ H Q ⟨H0,F,O,S,q⟩=>⟨H0,F,O,S,fun y H1 i v=>⟨H0,F,O,S.go i,fun o H2 h x=>⟨H0,F,O,S.go (i.trans h),fun D J g u =>
   ⟨O,y,o,D,a,c,d,(S.go (i.trans (h.trans g))).own,rfl,bp br (aw ((ah h).trans (ah g)) v),bp br (aw (ah g) x),bp br u,hp,fun r H' s' z=>q r H' (i.trans (h.trans (g.trans s'))) ((S.go (i.trans (h.trans g))).back z)⟩⟩⟩⟩
def vO{pre:α->β->γ->δ->Prop}{f:α->β->γ->δ->ε}{a:α}{c:β}{d:γ}{g:δ}(C:aI X.prog X.w X.K X.mg X.base k name ps (Gk X.K pre b f))(v:dv k X.A)(x:Gl X name)(h1:E X Γ e1 b1 a)(h2:E X Γ e2 b2 c)(N:E X Γ e3 b3 d)(L:E X Γ e4 b4 g)(hp:pre a c d g)
  (l:starEach [e1,e2,e3,e4] X.env=(false,eval e1 X.env)::starEach [e2,e3,e4] X.env:=by rfl) (n:starEach [e2,e3,e4] X.env=(false,eval e2 X.env)::starEach [e3,e4] X.env:=by rfl) (t:starEach [e3,e4] X.env=(false,eval e3 X.env)::starEach [e4] X.env:=by rfl) (o:starEach [e4] X.env=(false,eval e4 X.env)::starEach [] X.env:=by rfl)
  (s:(name==("__debug__":Str))=false:=by decide) (hpl:(backTo pos (starEach [e2,e3,e4] X.env)).any (·.1)=false:=by rfl):
  E X Γ (.Call (.Name name p) [e1,e2,e3,e4] [] pos) b (f a c d g):=by
 with_unfolding_all
  obtain⟨T,fd,F,B,kp,m⟩:=C.ex
  exact aN (f9 F v x m kp B .nil kI (aB h1 (aB h2 (aB N (aB L bq o) t) n) l) s l hpl) fun σ H Q ⟨H0,F,O,S,q⟩=>⟨H0,F,O,S,fun I H1 j D=>⟨H0,F,O,S.go j,fun u H2 h G=>⟨H0,F,O,S.go (j.trans h),fun M R e y=>⟨H0,F,O,S.go (j.trans (h.trans e)),fun v4 P i J =>
   ⟨O,I,u,M,v4,a,c,d,g,(S.go (j.trans (h.trans (e.trans i)))).own,rfl,bp br (aw ((ah h).trans ((ah e).trans (ah i))) D),bp br (aw ((ah e).trans (ah i)) G),bp br (aw (ah i) y),bp br J,hp,fun r H' s' z=>q r H' (j.trans (h.trans (e.trans (i.trans s')))) ((S.go (j.trans (h.trans (e.trans i)))).back z)⟩⟩⟩⟩⟩
end
def Nd(N:List Str)(gs:List Bd):aL:=gs.map some++List.replicate (N.length-gs.length) none
def RT{α:Type}[Py α](b:Bool)(a:α):GD:={nx:=fun _=>False,rt:=fun g=>g=.val b a}
inductive Args(K:PySem.W.Frag)(H:Hp):List V->List Bd->Prop
 |nil:Args K H [] []
 |cons {α:Type} [Py α] {v:V} {a:α} {vs:List V} {gs:List Bd}:Py.rp K .any H v a->Args K H vs gs->Args K H (v::vs) (.val false a::gs)
theorem Args.len{K:PySem.W.Frag}{H:Hp}:∀{vs:List V} {gs:List Bd},Args K H vs gs->vs.length=gs.length
 |_,_,.nil=>rfl
 |_,_,@Args.cons _ _ _ _ _ _ _ _ _ t=>congrArg (·+1) t.len
theorem Args.get{K:PySem.W.Frag}{H0 H:Hp}{O:Addr->Prop}:∀{vs:List V} {gs:List Bd} {i:Nat} {g:Bd},Args K (off H O) vs gs->gs[i]?=some g->∃v,vs[i]?=some v/\g.ok K H0 O H v/\¬g.gA
 |_,_,_,_,.nil,e=>by simp at e
 |_,_,0,_,@Args.cons _ _ _ _ _ _ _ _ h _,e=>by simp at e;subst e;exact⟨_,rfl,h,fun z=>z⟩
 |_,_,i+1,_,@Args.cons _ _ _ _ _ _ _ _ _ t,e=>by
  obtain⟨a,h1,h2⟩:=Args.get (i:=i) t (by simpa using e);exact⟨a,by simpa using h1,h2⟩
def nX{O:Addr->Prop}{N:List Str}{vs:List V}{gs:List Bd}(b:nr H O)(h:Args K (off H O) vs gs):dA K H O O (Nd N gs) (start N vs) H:=by
 have c:=h.len
 have a:∀(i:Nat) (g:Bd),(Nd N gs)[i]?=some (some g)->gs[i]?=some g:=fun i g e=>by
  unfold Nd at e;by_cases hi:i<(gs.map some).length
  .rw[Xh hi,VJ] at e;cases q:gs[i]? with
   |none=>rw[q] at e;cases e
   |some g'=>rw[q] at e;simpa using e
  .rw[Xd (by lia)] at e;have:=Vv e;rw[List.mem_replicate] at this;cases this.2
 refine⟨aD.refl _,fun _ z=>z,b,b,by simp[Nd,start,c],fun i g e _=>?_,⟨fun _ _=>False,fun _ _ _ z=>z.elim,fun _ _ z=>z.elim,fun i g e o=>?_⟩⟩
 .obtain⟨v,h1,h2,_⟩:=Args.get (H0:=H) h (a i g e);refine⟨v,?_,h2⟩;unfold start
  have hi:i<(vs.map some).length:=by
   rw[Vx];exact(VE.mp h1).1
  rw[Xh hi,VJ,h1];rfl
 .obtain⟨_,_,_,no⟩:=Args.get (H0:=H) h (a i g e);exact absurd o no
section
variable{P:Program}{w:World}{K:PySem.W.Frag}{mg:Str->Option Value}{base:Heap}{N ps:List Str}{k:Nat}{x qual:Str}{st:Stmt}{f:Addr}{fd:FuncData}
abbrev cx(P:Program)(w:World)(K:PySem.W.Frag)(mg:Str->Option Value)(base:Heap)(N:List Str)(qual:Str)(st:Stmt)(f:Addr)(a:Value)(A:Around)(outer:List Env)(s:Shared)(H:Hp)(E:XK):Cx:=(sM oo P w K mg base N qual (ag st) f a A outer s H E).JK
def Body(P:Program)(w:World)(K:PySem.W.Frag)(mg:Str->Option Value)(base:Heap)(N:List Str)(qual:Str)(st:Stmt)(f:Addr)(k:Nat)(gs:List Bd)(D:GD):Prop :=
 ∀(a:Value) (A:Around) (outer:List Env) (s:Shared) (H:Hp) (E:XK),dv k (A.deeper (envOfC qual (ag st) s.heap.objs.size f a))->S (cx P w K mg base N qual st f a A outer s H E) (Nd N gs) (bR st) D
def mP{gs:List Bd}{vs:List V}{O:Addr->Prop}{α:Type}[Py α]{b:Bool}{a:α}{Q:VK}{c:Value}{A:Around}{outer:List Env}{E:XK}(B:Body P w K mg base N qual st f k gs (RT b a))(i:dv k (A.deeper (envOfC qual (ag st) s.heap.objs.size f c)))
  (d:nr H O) (h:Args K (off H O) vs gs) (q:∀r H',aD H H'->Py.rp K (Nf H b) (off H' O) r a->Q r H'):
  ∃t,p4 (sM oo P w K mg base N qual (ag st) f c A outer s H E).JK (bR st) t/\t {nx:=fun _ H'=>Q .non H',rt:=Q} (start N vs) H:=by
 with_unfolding_all
  refine⟨_,B c A outer s H E i,H,O,O,nX d h,fun _ _ _ _ _ _ z=>z.elim,fun g v H' sm z e=>?_,fun _ _ _ _ _ _ z=>z.elim,fun _ _ _ _ _ _ z=>z.elim⟩;have j:g=.val b a:=e;subst j;exact q v H' sm z
def om{α β:Type}[Py α][Py β]{pre:α->Prop}{b:Bool}{g:α->β}(F:se K x qual st f fd)(i:aj N ps (ag st))(j:ps.length=1)(B:∀a,pre a->Body P w K mg base N qual st f k [.val false a] (RT b (g a))):
  ff P w K mg base oo (k+1) f fd ps (cR K pre b g):=by
 with_unfolding_all
  refine F.ok i (fun vs H Q E h=>?_) fun c A outer s H vs Q E e h=>?_
  .obtain⟨O,v,a,_,rfl,_⟩:=h;rw[j];rfl
  .obtain⟨O,v,a,d,rfl,r,hp,q⟩:=h;exact mP (B a hp) e d (.cons r .nil) q
def lE{α β γ:Type}[Py α][Py β][Py γ]{pre:α->β->Prop}{b:Bool}{g:α->β->γ}(F:se K x qual st f fd)(m:aj N ps (ag st))(i:ps.length=2)(B:∀a c,pre a c->Body P w K mg base N qual st f k [.val false a,.val false c] (RT b (g a c))):
  ff P w K mg base oo (k+1) f fd ps (cw K pre b g):=by
 with_unfolding_all
  refine F.ok m (fun vs H Q E h=>?_) fun n A outer s H vs Q E e h=>?_
  .obtain⟨O,v,d,a,c,_,rfl,_⟩:=h;rw[i];rfl
  .obtain⟨O,v,d,a,c,j,rfl,r,l,hp,q⟩:=h;exact mP (B a c hp) e j (.cons r (.cons l .nil)) q
def IL{α β γ δ:Type}[Py α][Py β][Py γ][Py δ]{pre:α->β->γ->Prop}{b:Bool}{g:α->β->γ->δ}(F:se K x qual st f fd)(p:aj N ps (ag st))(l:ps.length=3)(B:∀a c d,pre a c d->Body P w K mg base N qual st f k [.val false a,.val false c,.val false d] (RT b (g a c d))):
  ff P w K mg base oo (k+1) f fd ps (tF K pre b g):=by
 with_unfolding_all
  refine F.ok p (fun vs H Q E h=>?_) fun t A outer s H vs Q E i h=>?_
  .obtain⟨O,v,e,o,a,c,d,_,rfl,_⟩:=h;rw[l];rfl
  .obtain⟨O,v,e,o,a,c,d,m,rfl,r,n,j,hp,q⟩:=h;exact mP (B a c d hp) i m (.cons r (.cons n (.cons j .nil))) q
def Qq{α β γ δ ε:Type}[Py α][Py β][Py γ][Py δ][Py ε]{pre:α->β->γ->δ->Prop}{b:Bool}{g:α->β->γ->δ->ε}(F:se K x qual st f fd)(t:aj N ps (ag st))(l:ps.length=4)(B:∀a c d y,pre a c d y->Body P w K mg base N qual st f k [.val false a,.val false c,.val false d,.val false y] (RT b (g a c d y))):
  ff P w K mg base oo (k+1) f fd ps (Gk K pre b g):=by
 with_unfolding_all
  refine F.ok t (fun vs H Q E h=>?_) fun u A outer s H vs Q E i h=>?_
  .obtain⟨O,v,e,p,v4,a,c,d,y,_,rfl,_⟩:=h;rw[l];rfl
  .obtain⟨O,v,e,p,v4,a,c,d,y,m,rfl,r,n,j,o,hp,q⟩:=h;exact mP (B a c d y hp) i m (.cons r (.cons n (.cons j (.cons o .nil)))) q
variable{X:Cx}{Γ:aL}{α β:Type}[Py α][Py β]{e:Expr}{b:Bool}{p p2 pos:Pos}
def FX{a:α}{T:Str}{d:String}(o:Gl X "isinstance")(n:X.mg "isinstance"=none)(i:Gl X T)(g:X.mg T=none)(l:bootBuiltins T=some (.type d))(ha:E X Γ e b a)
  (m:∀(pins:List (Addr×Obj)) (s:Shared) (σ:St) (H:Hp) (N:Nn) (v:V) (u:Value) (Q:Value->Shared->Prop),Inv X pins σ H s->Py.rp X.K N H v a->RelV v u->(∀tk,Q (.bool c) {s with toks:=tk})->wpAny (model X.prog X.w) X.A (call (.builtin "isinstance") [u,.type d]) Q X.xe s)
  (j:starEach [e,.Name T p2] X.env=(false,eval e X.env)::starEach [.Name T p2] X.env:=by rfl) (f:starEach [.Name T p2] X.env=(false,eval (.Name T p2) X.env)::starEach [] X.env:=by rfl) (hpl:(backTo pos (starEach [.Name T p2] X.env)).any (·.1)=false:=by rfl)
  (C:T≠"__name__":=by decide) (y:(T==("__debug__":Str))=false:=by decide):
  E X Γ (.Call (.Name "isinstance" p) [e,.Name T p2] [] pos) true c:=by
 with_unfolding_all
  have t:jL X (.builtin "isinstance") (fun xs H Q=>∃N v,xs=[v,.ty d]/\Py.rp X.K N H v a/\Q (.bl c) H):=by
   intro pins s σ H xs us Q I r h;obtain⟨N,v,rfl,B,q⟩:=h;obtain⟨u,G,rfl,k,z⟩:=vals2 r;cases z;exact m pins s σ H N v u _ I B k fun tk=>⟨.bl c,H,I.tok _,rfl,q⟩
  exact aN (fA t o n boot_isinstance (aB ha (aB (IC (v:=.ty d) i g l rfl C y) bq f) j) (he:=j) (hpl:=hpl)) fun σ H Q ⟨H0,F,O,S,q⟩=>⟨H0,F,O,S,fun v H1 D x=>⟨_,v,rfl,aw (au _ _) x,q _ H1 D rfl⟩⟩
def yT(g:Gl X "isinstance")(f:X.mg "isinstance"=none)(c:Gl X "int")(a:X.mg "int"=none)(ha:E X Γ e b i)
  (d:starEach [e,.Name "int" p2] X.env=(false,eval e X.env)::starEach [.Name "int" p2] X.env:=by rfl):E X Γ (.Call (.Name "isinstance" p) [e,.Name "int" p2] [] pos) true true:=by
 with_unfolding_all
  exact FX g f c a PyProof.Rows.boot_int ha (fun pins s σ H N v u Q I h r q=>by
    cases h;obtain⟨t,rfl⟩:=r
    exact IsiPair.int_int (q s.toks)) d
def yx(g:Gl X "isinstance")(f:X.mg "isinstance"=none)(c:Gl X "bool")(a:X.mg "bool"=none)(ha:E X Γ e b i)
  (d:starEach [e,.Name "bool" p2] X.env=(false,eval e X.env)::starEach [.Name "bool" p2] X.env:=by rfl):E X Γ (.Call (.Name "isinstance" p) [e,.Name "bool" p2] [] pos) true false:=by
 with_unfolding_all
  exact FX g f c a PyProof.Rows.boot_bool ha (fun pins s σ H N v u Q I h r q=>by
    cases h;obtain⟨t,rfl⟩:=r
    exact IsiPair.int_bool (q (s.toks+1))) d
def Ek{xs:List α}(i:Gl X "isinstance")(h:X.mg "isinstance"=none)(d:Gl X "list")(c:X.mg "list"=none)(ha:E X Γ e b xs)
  (f:starEach [e,.Name "list" p2] X.env=(false,eval e X.env)::starEach [.Name "list" p2] X.env:=by rfl):E X Γ (.Call (.Name "isinstance" p) [e,.Name "list" p2] [] pos) true true:=by
 with_unfolding_all
  exact FX i h d c Zi ha (fun pins s σ H N v u Q I j r q=>by
    obtain⟨a,ys,rfl,g,_,_⟩:=j;cases r;obtain⟨its,k,pl,_⟩:=I.list g;obtain⟨o,h1,h2,n,l⟩:=pl.isList
    exact call_isinstance (isinstance_true (Tx:="list") F.isi_meta_list AutoSeq1.sub_list_list) ⟨⟨o,h1,h2⟩,q s.toks⟩) f
end
def Sm(n:Nat)(i:Int):Prop:=i.natAbs<2^n
def Sm.bits(h:Sm n i):Builtin.Int.intBits i<=n:=by
 unfold Builtin.Int.intBits;split
 .exact Wn _
 .rename_i hi
  have a:i.natAbs≠0:=by
   intro z;apply hi;simp;lia
  have:=(ZQ a).mpr h;lia
def Sm.le(h:Sm m i)(l:m<=n):Sm n i:=VY h (XG (by decide) l)
def Sm.ok(h:Sm m i)(h':Sm n j)(l:m<=1048576:=by decide)(a:n<=1048576:=by decide):IntMulOk i j:=IntMulOk.of_bits (V7 h.bits (V7 l (by decide))) (V7 h'.bits (V7 a (by decide)))
def Sm.mul(h:Sm m i)(h':Sm n j):Sm (m+n) (i*j):=by
 unfold Sm at *;rw[VT,Nat.pow_add];rcases Y4 j.natAbs with z|z
 .rw[z,Nat.mul_zero];exact Nat.mul_pos (YY _) (YY _)
 .exact Nat.mul_lt_mul_of_lt_of_le h (W4 h') (YY _)
def Sm.add(h:Sm m i)(h':Sm n j):Sm (max m n+1) (i+j):=by
 have h1:i.natAbs<2^max m n:=VY h (XG (by decide) (Nat.le_max_left _ _));have h2:j.natAbs<2^max m n:=VY h' (XG (by decide) (Nat.le_max_right _ _));have a:=Int.natAbs_add_le i j;unfold Sm;rw[Yk];lia
def Sm.neg(h:Sm m i):Sm m (-i):=by unfold Sm at *;rw[Int.natAbs_neg];exact h
def Sm.of_le(h:i.natAbs<=j.natAbs)(h':Sm n j):Sm n i:=Yv h h'
def Sm.div(h:Sm n j)(a:j≠0)(l:n<=9000:=by decide):zM i j:=⟨a,(ZQ (by lia)).mpr (VY h (XG (by decide) l))⟩
def mulL(h1:-(2^64)<i)(h2:i<2^64):IntMulOk i j:=Hv.ok (.inl ⟨h1,h2⟩)
def mulR(h1:-(2^64)<j)(h2:j<2^64):IntMulOk i j:=Hv.ok (.inr ⟨h1,h2⟩)
def uR(h:j≠0:=by decide)(h2:j.natAbs.log2<9000:=by decide):zM i j:=⟨h,h2⟩
def Q3(h:0<=j:=by decide)(h2:j<=1000000:=by decide)(a:i.natAbs<2^64:=by decide):Er i j:=⟨h,h2,a⟩
def Cb{k:Nat}{A:Around}(a:dv k A):A.units+60<cLine:=by have:=a.un;lia
structure Bu(mg:Str->Option Value):Prop where
 abs:mg "abs"=none
 len:mg "len"=none
 min:mg "min"=none
 max:mg "max"=none
 range:mg "range"=none
 isinstance:mg "isinstance"=none
 int:mg "int"=none
 bool:mg "bool"=none
 list:mg "list"=none
 tuple:mg "tuple"=none
 sum:mg "sum"=none
 all:mg "all"=none
 zip:mg "zip"=none
 enumerate:mg "enumerate"=none
 any:mg "any"=none
 sorted:mg "sorted"=none
 set:mg "set"=none
 str:mg "str"=none
 reversed:mg "reversed"=none
def dy{a b:Int}(h:0<b):0<=a.fmod b/\a.fmod b<b:=⟨Zj a h,ZS a h⟩
def Df(K:PySem.W.Frag)(x:Str)(st:Stmt):Prop:=∃(f:Addr) (fd:FuncData),PySem.W.nsIn K mainGlobals x=some (some (.ref f))/\se K x x st f fd
def Df.mk{st:Stmt}{f:Addr}{h:Value}{od g:Option Addr}{d:Array (Option Value)}{kV doc e b ct:Value}(a:PySem.W.nsIn K mainGlobals x=some (some (.ref f)))
  (l:K.lookup f=some ⟨h,od,.func (PySem.W.fnOf x x (dD st) (bR st) (ag st) .none kV doc e g b ct),d⟩) (c:PySem.W.codeIn K b x=true) (k:PySem.W.keepIn K (.ref f)=true):Df K x st:=⟨f,_,a,J3 l c k⟩
def OD{h:Heap}{mg:Str->Option Value}(X:K.In h)(G:h.Ns mainGlobals mg)(l:PySem.W.nsIn K mainGlobals "abs"=some none)(p:PySem.W.nsIn K mainGlobals "len"=some none)(r:PySem.W.nsIn K mainGlobals "min"=some none)(q:PySem.W.nsIn K mainGlobals "max"=some none)
  (m:PySem.W.nsIn K mainGlobals "range"=some none) (n:PySem.W.nsIn K mainGlobals "isinstance"=some none) (s:PySem.W.nsIn K mainGlobals "int"=some none) (o:PySem.W.nsIn K mainGlobals "bool"=some none) (t:PySem.W.nsIn K mainGlobals "list"=some none) (f:PySem.W.nsIn K mainGlobals "tuple"=some none)
  (k:PySem.W.nsIn K mainGlobals "sum"=some none) (j:PySem.W.nsIn K mainGlobals "all"=some none) (e:PySem.W.nsIn K mainGlobals "zip"=some none) (i:PySem.W.nsIn K mainGlobals "enumerate"=some none) (c:PySem.W.nsIn K mainGlobals "any"=some none) (a:PySem.W.nsIn K mainGlobals "sorted"=some none) (b:PySem.W.nsIn K mainGlobals "set"=some none) (g:PySem.W.nsIn K mainGlobals "str"=some none) (d:PySem.W.nsIn K mainGlobals "reversed"=some none):Bu mg :=
 ⟨V9 X G l,V9 X G p,V9 X G r,V9 X G q,V9 X G m,V9 X G n,V9 X G s,V9 X G o,V9 X G t,V9 X G f,V9 X G k,V9 X G j,V9 X G e,V9 X G i,V9 X G c,V9 X G a,V9 X G b,V9 X G g,V9 X G d⟩
section
variable{P:Program}{w:World}{K:PySem.W.Frag}{mg:Str->Option Value}{base h:Heap}{x:Str}{st:Stmt}{N ps:List Str}{k:Nat}
def Df.K4{sp:Sp}(D:Df K x st)(X:K.In h)(G:h.Ns mainGlobals mg)(e:∀(kV doc c:Value) (d:Option Addr) (b ct:Value) (us:List Value),us.length=ps.length->bindArgs (PySem.W.fnOf x x (dD st) (bR st) (ag st) .none kV doc c d b ct) ⟨us,[]⟩=pure (ps.zip us))
  (ok:∀f fd,se K x x st f fd->ff P w K mg base oo k f fd ps sp):aI P w K mg base k x ps sp:=by
 obtain⟨f,fd,a,F⟩:=D;exact⟨f,fd,ok f fd F,F.binds e,F.kp,ZY X G a⟩
def wO(K:PySem.W.Frag):Sp:=cR K (fun(ns:List Int)=>ns.length<=63) true (fun _=>true)
theorem vV{K:PySem.W.Frag}{N:Nn}{H:Hp}:∀ns:List Int,Paired (fun x (b:Int)=>Py.rp K N H x b) (ns.map V.int) ns
 |[]=>.nil
 |_::r=>.cons rfl (vV r)
def B5(K:PySem.W.Frag)(H:Hp)(a:Addr)(ns:List Int)(c:ns.length<=63)(b:dX K H a (ns.map V.int)):wO K [.ref a] H (fun v _=>v=.bl true) fun _ _ _=>False :=
 ⟨fun _=>False,.ref a,ns,fun _ z=>z.elim,rfl,by rw[G0];exact⟨a,_,rfl,b,True.intro,vV ns⟩,c,fun r H' _ z=>z⟩
def GO{j:Addr}{i:Program}(D:Df K "law" st)(X:K.In h)(G:h.Ns mainGlobals mg)(g:mg "law"=some (.ref j))
  (n:∀(kV doc c:Value) (d:Option Addr) (b ct:Value) (s:Shared) (u:Value),BindsTo s (PySem.W.fnOf "law" "law" (dD st) (bR st) (ag st) .none kV doc c d b ct) ⟨[u],[]⟩ [(y,u)])
  (ok:∀base,K.In base->base.Ns mainGlobals mg->∀f fd,se K "law" "law" st f fd->ff i w K mg base oo k f fd [y] (wO K)):
  ∃fd:FuncData,(∀(s:Shared) (u:Value),BindsTo s fd ⟨[u],[]⟩ [(y,u)])/\∀base:Heap,K.In base->base.Ns mainGlobals mg->ff i w K mg base oo k j fd [y] (wO K):=by
 obtain⟨f,fd,a,F⟩:=D;have e:=g.symm.trans (ZY X G a);cases e;refine⟨fd,?_,fun base o nb=>ok base o nb _ fd F⟩;obtain⟨p,od,kV,doc,c,d,b,ct,m,rfl,q,l⟩:=F.ex;exact n kV doc c d b ct
end
def QD{α:Type}[Py α](K:PySem.W.Frag)(H0:Hp)(O:Addr->Prop)(b:Bool)(as:List α)(J:It)(H1:Hp):Prop :=
 ∀(H':Hp) (d:Addr->Prop),nr H' d->aD (off H1 O) (off H' d)->(∀(i:Nat) (a:α),as[i]?=some a->J.go i H'/\∀x c,J.yld i H' x c->aD H' c/\Py.rp K (Nf H0 b) (off c d) x a)/\J.stop as.length H'
def EI{α:Type}[Py α](X:Cx)(Γ:aL)(tg iter:Expr)(b:Bool)(as:List α):Prop:=∃wi,PI X tg iter wi /\
 ∀(σ:St) (H H0:Hp) (F O:Addr->Prop) (R:It->Hp->Prop),dA X.K H0 F O Γ σ H->(∀J H1,aD H H1->QD X.K H0 O b as J H1->R J H1)->wi σ H R
section
variable{X:Cx}{Γ:aL}{α β:Type}[Py α][Py β]{e e1 e2 e3 tg:Expr}{b b1 b2 b3:Bool}
def bt{xs:List α}(he:E X Γ e b xs):EI X Γ tg e b xs:=by
 with_unfolding_all
  exact⟨_,As he,fun σ H H0 F O R Z q=>⟨H0,F,O,Z,fun v H1 k g=>by
   obtain⟨p,vs,e,c,nn,f⟩:=g;refine⟨p,e,⟨vs,(au _ _).seq c⟩,q _ H1 k fun H' l _ sm=>⟨fun i a ha=>?_,?_⟩⟩
   .obtain⟨x,h1,h2⟩:=j4 f ha;refine⟨⟨vs,x,(au _ _).seq (sm.seq c),h1⟩,fun y j d=>?_⟩;obtain⟨h,d⟩:=d;subst h;have:=d vs ((au _ _).seq (sm.seq c));rw[h1] at this;cases this;exact⟨aD.refl _,aw sm h2⟩
   .exact⟨vs,(au _ _).seq (sm.seq c),by rw[bL f];exact Vu _⟩⟩⟩
def oQ{D:GD}{pos:Pos}{body:List Stmt}{g:TG}{tc:Nat->Prop}{put:Bool->α->aL->aL}{as:List α}(J:Nat->aL->Prop)(t:G X tg g α put tc)(he:EI X Γ tg e b as)(v:J 0 Γ)
  (z:∀(i:Nat) (a:α) Γ',as[i]?=some a->J i Γ'->S X (put b a Γ') body {D with nx:=J (i+1),ct:=J (i+1),bk:=fun Γ2=>S X Γ2 rest D}) (E:∀Γ',J as.length Γ'->S X Γ' rest D)
  (y:X.calm=true:=by rfl) (hp:PassesOwn (model X.prog X.w) X.A X.env X.xe:=by exact Yw)
  (o:∀x,foldedSetIterable e X.env x=pure x:=by intro _;rfl):S X Γ (.For tg e body [] pos::rest) D:=by
 with_unfolding_all
  obtain⟨wi,hi,L⟩:=he;refine eO (eC (qF hp y hi t.1 (tb:=kL X body) iu o) fun Q σ H ⟨H0,F,O,Z,nx,r,bk,ct⟩=>?_);refine L σ H H0 F O _ Z fun R H1 s its=>?_;refine⟨fun i m σ' H'=>m=as.length-i/\i<=as.length/\∃Γ' h,aD (off H1 O) (off H' h)/\dA X.K H0 F h Γ' σ' H'/\J i Γ',⟨_,rfl,Wn _,Γ,O,aD.refl _,Z.go s,v⟩,?_⟩;rintro i m σ' H' ⟨rfl,P,Γ',h,sm,p,j⟩;obtain⟨B,C⟩:=its H' h p.own sm;by_cases k:i<as.length
  .have ha:as[i]?=some as[i]:=Vz k;obtain⟨go,N⟩:=B i _ ha;refine .inr ⟨go,fun σ2 H2=>∃Γ2 d,aD (off H1 O) (off H2 d)/\dA X.K H0 F d Γ2 σ2 H2/\J (i+1) Γ2,fun σ2 H2 q=>⟨as.length-(i+1),by lia,rfl,k,q⟩,fun x l I=>?_⟩;obtain⟨n,u⟩:=N x l I;refine t.2 b as[i] H0 F h Γ' σ' l _ _ (p.go n) u fun σ2 f _ _=>?_;refine⟨_,_,z i _ Γ' ha j,H0,F,h,f,?_,r,?_,?_⟩
   .exact fun Γ2 σ2 H2 d c f q=>⟨Γ2,d,sm.trans ((ah n).trans c),f,q⟩
   .exact fun Γ2 σ2 H2 d c f q=>nx Γ2 σ2 H2 d ((ah s).trans (sm.trans ((ah n).trans c))) f q
   .exact fun Γ2 σ2 H2 d c f q=>⟨Γ2,d,sm.trans ((ah n).trans c),f,q⟩
  .have M:i=as.length:=by lia
   subst M;exact .inl ⟨C,nx Γ' σ' H' h ((ah s).trans sm) p (E Γ' j)⟩
end
def cB:Option (Option Bd)->Option Bd
 |some (some (@Bd.val _ _ b a))=>some (.val b a)
 |_=>none
def cΓ(Γ:aL)(tn:List Str)(js:List Nat):aL:=tn.map (fun _=>none)++js.map fun j=>cB Γ[j]?
def J6{o:Option (Option Bd)}(h:cB o=some g):o=some (some g)/\¬g.gA:=by
 unfold cB at h;split at h
 .cases h;exact⟨rfl,fun z=>z⟩
 .cases h
def EW{Γ:aL}{i:Nat}(h:(cΓ Γ tn js)[i]?=some (some g)):∃j,js[i-tn.length]?=some j/\tn.length<=i/\Γ[j]?=some (some g)/\¬g.gA/\(cσ σ tn js)[i]?=some ((σ[j]?).getD none):=by
 unfold cΓ at h;unfold cσ;by_cases hi:i<tn.length
 .rw[Xh (by simpa using hi),VJ] at h;cases q:tn[i]? with
  |none=>rw[q] at h;cases h
  |some y=>rw[q] at h;cases h
 .rw[Xd (by simpa using hi),VJ,Vx] at h;rw[Xd (by simpa using hi),VJ,Vx];cases q:js[i-tn.length]? with
  |none=>rw[q] at h;cases h
  |some j =>
   rw[q] at h;obtain⟨h1,h2⟩:=J6 (VP h);exact⟨j,rfl,by lia,h1,h2,rfl⟩
section
variable{K:PySem.W.Frag}{H0:Hp}{F O:Addr->Prop}{Γ:aL}{σ:St}{H:Hp}
def dA.ic(Z:dA K H0 F O Γ σ H)(tn:List Str)(js:List Nat):dA K H0 F O (cΓ Γ tn js) (cσ σ tn js) H where
 same:=Z.same
 fo:=Z.fo
 f0:=Z.f0
 own:=Z.own
 len:=by unfold cΓ cσ;simp
 at_:=fun i g e n=>by
  obtain⟨j,h1,h2,d,a,c⟩:=EW (σ:=σ) e;obtain⟨v,q1,b⟩:=Z.at_ j g d n;exact⟨v,by rw[c,q1];rfl,b⟩
 dis:=⟨fun _ _=>False,fun _ _ _ z=>z.elim,fun _ _ z=>z.elim,fun i g e o=>by
  obtain⟨_,_,_,_,a,_⟩:=EW (σ:=σ) e
  exact absurd o a⟩
def dA.ownIn{D:Addr}(Z:dA K H0 F O Γ σ H)(j:H D=none)(sm:aD H H')(s:H' D=some (.lst xs)):dA K H0 F (fun p=>O p\/p=D) Γ σ H'/\aD (off H O) (off H' fun p=>O p\/p=D):=by
 have d:aD (off H O) (off H' fun p=>O p\/p=D):=fun b o h=>by
  obtain⟨h1,h2⟩:=cV h;have m:b≠D:=fun z=>by rw[z,j] at h2;cases h2
  rw[aT (by rintro(z|z);exact h1 z;exact m z)];exact sm _ _ h2
 refine⟨⟨Z.same.trans sm,fun p h=>.inl (Z.fo p h),Z.f0,fun p h=>?_,Z.len,fun i g e n=>?_,?_⟩,d⟩
 .rcases h with h|h
  .obtain⟨ys,q⟩:=Z.own p h;exact⟨ys,sm _ _ q⟩
  .subst h;exact⟨.inl xs,s⟩
 .obtain⟨v,q1,c⟩:=Z.at_ i g e n;refine⟨v,q1,?_⟩;cases g with
  |val b a=>exact aw d c
  |own b as=>exact c
  |dpo a=>exact c
 .obtain⟨k,r,f,l⟩:=Z.dis;refine⟨k,r,fun i p h=>⟨.inl (f i p h).1,(f i p h).2⟩,fun i g e o=>?_⟩;obtain⟨v,q1,c⟩:=l i g e o;exact⟨v,q1,Bd.N2 c (fun p ys _ z=>sm _ _ z) d (fun p z=>(f i p z).1) Z.own⟩
variable{X:Cx}{D:GD}{α β:Type}[Py α][Py β]{elt target iter c:Expr}{b b':Bool}{pos:Pos}{scope:Scope}{tn:List Str}{js:List Nat}{g:TG}{tc:Nat->Prop}{put:Bool->α->aL->aL}{as:List α}{f:α->β}{p:α->Bool}{ifs:List Expr}
def Qy(X:Cx)(tn:List Str)(js:List Nat)(scope:Scope)(elt:Expr)(β:Type)[Py β](b:Bool):TE:=fun σ H Q=>∃Γ',∃v:β,(∀C s H fp,E (ic X (cN X tn js) scope C s H fp) Γ' elt b v)/\tV X.K Γ' b v σ H Q
@[irreducible] def FT(X:Cx)(Γ:aL)(ifs:List Expr)(c:Bool):Prop:=PF X ifs (J5 X.K Γ c)
def QG(X:Cx)(tn:List Str)(js:List Nat)(scope:Scope)(ifs:List Expr):TT:=fun σ H Q=>∃Γ' c,(∀C s H fp,FT (ic X (cN X tn js) scope C s H fp) Γ' ifs c)/\J5 X.K Γ' c σ H Q
def FI:FT X Γ [] true:=by
 with_unfolding_all
  exact fun pins s σ H Q I ⟨H0,F,O,Z,q⟩=>Lp pins s σ H Q I (q H (aD.refl _))
def vp{k:Bool}(h:T X Γ c k):FT X Γ [c] k:=by
 with_unfolding_all
  exact KU h
def Ah{wi:TI}(hw:∀(σ:St) (H H0:Hp) (F O:Addr->Prop) (R:It->Hp->Prop),dA X.K H0 F O Γ σ H->(∀J H1,aD H H1->QD X.K H0 O b as J H1->R J H1)->wi σ H R)
  (I:GP g α put tc X.K) (L:∀j,tc j->j<tn.length)
  (ht:∀(i:Nat) (a:α),as[i]?=some a->∀C s H fp,FT (ic X (cN X tn js) scope C s H fp) (put b a (cΓ Γ tn js)) ifs (p a))
  (hb:∀(i:Nat) (a:α),as[i]?=some a->p a=true->∀C s H fp,E (ic X (cN X tn js) scope C s H fp) (put b a (cΓ Γ tn js)) elt b' (f a)) (hl:as.length<=1000)
  {σ:St} {H:Hp} {Q:VK} {H0:Hp} {F O:Addr->Prop} (Z:dA X.K H0 F O Γ σ H) (q:∀v H',aD H H'->Py.rp X.K (Nf H0 b') (off H' O) v ((as.filter p).map f)->Q v H'):
  OY wi tn js g (QG X tn js scope ifs) (Qy X tn js scope elt β b') σ H Q:=by
 with_unfolding_all
  refine hw σ H H0 F O _ Z fun J H1 T its D l=>?_;have G:=Z.go T
  refine⟨fun i m H' xs=>m=as.length-i/\i<=as.length/\aD H1 H'/\H' D=some (.lst xs)/\Paired (fun x a=>Py.rp X.K (Nf H0 b') (off H' fun p=>O p\/p=D) x a) xs (((as.take i).filter p).map f),
   ⟨_,rfl,Wn _,eP l _,aP,.nil⟩,?_⟩
  rintro i m H' xs ⟨rfl,hi,sm,r,t⟩;refine⟨r,?_⟩;obtain⟨S,so⟩:=G.ownIn l sm r;obtain⟨t1,t2⟩:=its H' _ S.own so;by_cases k:i<as.length
  .have ha:as[i]?=some as[i]:=Vz k;have u:as.take (i+1)=as.take i++[as[i]]:=by rw[ZN,ha];rfl
   obtain⟨go,yl⟩:=t1 i _ ha;refine .inr ⟨go,fun x A hy=>?_⟩;obtain⟨d,rx⟩:=yl x A hy;refine I b as[i] H0 F _ (cΓ Γ tn js) (cσ σ tn js) A x _ ((S.go d).ic tn js) rx fun σ2 P Y W=>?_;refine⟨⟨fun j v hj e=>?_,Y⟩,_,_,ht i _ ha,H0,F,_,P,fun H3 h=>?_⟩
   .rw[W j fun z=>absurd (L j z) (YO.mpr hj)];exact e
   cases hp:p as[i] with
   |false =>
    refine sR ⟨as.length-(i+1),by lia,rfl,k,sm.trans (d.trans h),h _ _ (d _ _ r),?_⟩;rw[u,List.filter_append,Zn,hp];simp only[Xo,XS,List.filter_nil,Yu];exact bB (fun _ _ z=>aw (ah (d.trans h)) z) t
   |true =>
    refine sP ⟨_,_,hb i _ ha hp,H0,F,_,P.go h,fun y U N ry=>?_⟩;have B:U D=some (.lst xs):=N _ _ (h _ _ (d _ _ r));have M:(fun p=>O p\/p=D) D:=.inr rfl;refine⟨B,?_,as.length-(i+1),by lia,rfl,k,?_,aP,?_⟩
    .have:=bL t;rw[Vx] at this;have h2:=aaR p (as.take i);have h3:=List.length_take_le i as;exact Yv (by lia) (di hl)
    .exact fun c o z=>by
      have V:c≠D:=fun w=>by rw[w,l] at z;cases z
      rw[aA V];exact N _ _ (h _ _ (d _ _ (sm _ _ z)))
    .rw[pX M,u,List.filter_append,Zn,hp];simp only[Yr,List.filter_nil,Yx,Wa,YJ];exact uP (bB (fun _ _ z=>aw (ah (d.trans (h.trans N))) z) t) (.cons ry .nil)
  .have ei:i=as.length:=by lia
   subst ei;rw[WO] at t;have n:off H' O D=some (.lst xs):=by rw[aT (G.k_ l)];exact r
   refine .inl ⟨t2,q _ H' (T.trans sm) ⟨D,xs,rfl,dX.of n,Nf.wk (G.gU l) n,?_⟩⟩
   .exact bB (fun _ _ z=>aw (l_ fun _ w=>.inl w) z) t
def EZ{H:Hp}:PE (ic X (cN X tn js) scope C s H fp) elt (Qy X tn js scope elt β b'):=by
 with_unfolding_all
  exact fun pins s' σ H' Q I ⟨Γ',v,h,q⟩=>(show PE (ic X (cN X tn js) scope C s H fp) elt (tV X.K Γ' b' v) from h C s H fp) pins s' σ H' Q I q
def FF{H:Hp}:PF (ic X (cN X tn js) scope C s H fp) ifs (QG X tn js scope ifs):=by
 with_unfolding_all
  exact fun pins s' σ H' Q I ⟨Γ',c,h,q⟩=>(show PF (ic X (cN X tn js) scope C s H fp) ifs (J5 X.K Γ' c) from h C s H fp) pins s' σ H' Q I q
def A0(tn:List Str)(js:List Nat)(S:gm X scope tn js)(he:EI X Γ target iter b as)(c:GP g α put tc X.K)(k:∀C s H fp,PG (ic X (cN X tn js) scope C s H fp) target g)(d:∀j,tc j->j<tn.length)
  (n:∀(i:Nat) (a:α),as[i]?=some a->∀C s H fp,FT (ic X (cN X tn js) scope C s H fp) (put b a (cΓ Γ tn js)) ifs (p a))
  (h:∀(i:Nat) (a:α),as[i]?=some a->p a=true->∀C s H fp,E (ic X (cN X tn js) scope C s H fp) (put b a (cΓ Γ tn js)) elt b' (f a)) (o:as.length<=1000) (m:X.calm=true:=by rfl)
  (e:∀x,foldedSetIterable iter X.env x=pure x:=by intro _;rfl):E X Γ (.ListComp elt [⟨target,iter,ifs,0⟩] scope pos) b' ((as.filter p).map f):=by
 with_unfolding_all
  obtain⟨wi,hi,l⟩:=he;exact aN (N9 S m hi (fun C s H fp=>⟨k C s H fp,FF,EZ⟩) e) fun σ H Q ⟨H0,F,O,Z,q⟩=>Ah l c d n h o Z q
def fP(tn:List Str)(js:List Nat)(S:gm X scope tn js)(he:EI X Γ target iter b as)(c:GP g α put tc X.K)(l:∀C s H fp,PG (ic X (cN X tn js) scope C s H fp) target g)(d:∀j,tc j->j<tn.length)
  (k:∀(i:Nat) (a:α),as[i]?=some a->∀C s H fp,E (ic X (cN X tn js) scope C s H fp) (put b a (cΓ Γ tn js)) elt b' (f a)) (n:as.length<=1000) (m:X.calm=true:=by rfl)
  (e:∀x,foldedSetIterable iter X.env x=pure x:=by intro _;rfl):E X Γ (.ListComp elt [⟨target,iter,[],0⟩] scope pos) b' (as.map f):=by
 with_unfolding_all
  have h:=A0 (pos:=pos) (p:=fun _=>true) tn js S he c l d (fun i a _ C s H fp=>FI) (fun i a ha _=>k i a ha) n m e;rw[ZK.mpr (fun _ _=>rfl)] at h;exact h
def qf(i:Nat){py c:Pos}(t:X.N.Nodup)(tn:List Str)(js:List Nat)(r:gm X scope tn js)(he:EI X Γ target iter b as)(d:GP g α put tc X.K)(q:∀C s H fp,PG (ic X (cN X tn js) scope C s H fp) target g)(e:∀j,tc j->j<tn.length)
  (w:∀(i:Nat) (a:α),as[i]?=some a->∀C s H fp,FT (ic X (cN X tn js) scope C s H fp) (put b a (cΓ Γ tn js)) ifs (p a))
  (I:∀(i:Nat) (a:α),as[i]?=some a->p a=true->∀C s H fp,E (ic X (cN X tn js) scope C s H fp) (put b a (cΓ Γ tn js)) elt b' (f a)) (A:as.length<=1000)
  (h:S X (Γ.set i (some (.val b' ((as.filter p).map f)))) rest D) (k:X.N[i]?=some y:=by rfl) (G:Loc X.env.scope y:=by first|exact Or.inl rfl|exact Or.inr rfl)
  (B:X.fn y=true\/X.env.scope.names.lookup y=some .local:=by first|exact .inl rfl|exact .inr rfl) (u:X.calm=true:=by rfl)
  (l:swapsWith (.ListComp elt [⟨target,iter,ifs,0⟩] scope pos) (some (.Name y py)) c.line X.env=pure true:=by rfl)
  (o:∀x,foldedSetIterable iter X.env x=pure x:=by intro _;rfl):EP.S X Γ (.Assign [.Name y py] (.ListComp elt [⟨target,iter,ifs,0⟩] scope pos) c::rest) D:=by
 with_unfolding_all
  obtain⟨wi,hi,J⟩:=he;exact eO (eC (DO t k G B r u hi (fun C s H fp=>⟨q C s H fp,FF,EZ⟩) l o) fun L σ H ⟨H0,F,O,Z,n,_⟩=>Ah J d e w I A Z fun v H1 m z=>n _ _ H1 O (ah m) ((Z.go m).set z) h)
def vq(i:Nat){py c:Pos}(u:X.N.Nodup)(tn:List Str)(js:List Nat)(t:gm X scope tn js)(he:EI X Γ target iter b as)(d:GP g α put tc X.K)(r:∀C s H fp,PG (ic X (cN X tn js) scope C s H fp) target g)(k:∀j,tc j->j<tn.length)
  (q:∀(i:Nat) (a:α),as[i]?=some a->∀C s H fp,E (ic X (cN X tn js) scope C s H fp) (put b a (cΓ Γ tn js)) elt b' (f a)) (w:as.length<=1000)
  (h:S X (Γ.set i (some (.val b' (as.map f)))) rest D) (e:X.N[i]?=some y:=by rfl) (o:Loc X.env.scope y:=by first|exact Or.inl rfl|exact Or.inr rfl)
  (n:X.fn y=true\/X.env.scope.names.lookup y=some .local:=by first|exact .inl rfl|exact .inr rfl) (v:X.calm=true:=by rfl)
  (l:swapsWith (.ListComp elt [⟨target,iter,[],0⟩] scope pos) (some (.Name y py)) c.line X.env=pure true:=by rfl)
  (m:∀x,foldedSetIterable iter X.env x=pure x:=by intro _;rfl):EP.S X Γ (.Assign [.Name y py] (.ListComp elt [⟨target,iter,[],0⟩] scope pos) c::rest) D:=by
 with_unfolding_all
  refine qf (p:=fun _=>true) i u tn js t he d r k (fun i a _ C s H fp=>FI) (fun i a ha _=>q i a ha) w ?_ e o n v l m;rw[ZK.mpr (fun _ _=>rfl)];exact h
end
theorem xA:∀{bs:List Bool} {us:List Value},Vals (bs.map V.bl) us->LSm.BoolsAre us bs
 |[],_,h=>by cases h;exact .nil
 |b::r,_,h=>by
  cases h with
  |cons h1 h2=>cases h1;exact .cons b (xA h2)
section
variable{X:Cx}
def Bw(l:X.calm=true):jL X (.builtin "all") (fun xs H Q=>∃p,∃bs:List Bool,xs=[.ref p]/\dX X.K H p (bs.map V.bl)/\Q (.bl (bs.all id)) H):=by
 intro pins s σ H xs us Q I r h;obtain⟨p,bs,rfl,n,q⟩:=h;obtain⟨u,rfl,g⟩:=vals1 r;cases g;obtain⟨its,j,pl,_⟩:=I.list n;have d:=xA j;have c:=pl.isList;have a:p<s.heap.objs.size:=by obtain⟨_,e,_⟩:=c;exact VF e
 refine call_all_walk (Z9 c ?_)
 refine⟨s.heap.objs.size,[s.heap.objs.size,p],[s.heap.objs.size],its.toArray.size,_,_,fun i=>(bs[i]?).getD true,rfl,Walks.list (A:=X.A.in1) (I.ok.hd l) _ p (V2 a) its.toArray,
  ⟨⟨_,VM _ rfl,rfl,rfl⟩,c.push _⟩,fun i v s' o t m f=>?_,fun h' tk k=>?_⟩
 .obtain⟨b,e,rfl⟩:=d.get i v (by simpa using m);simp only[e,Option.getD_some] at f;exact WZ f
 .have e:((List.range its.toArray.size).all fun i=>(bs[i]?).getD true)=bs.all id:=by
   rw[VQ,d.length];exact LSm.range_all bs
  rw[e];exact⟨.bl _,H,I.kept (LSm.kept_iter k),rfl,q⟩
end
theorem JC{K:PySem.W.Frag}{N:Nn}{H:Hp}:∀{xs:List V} {bs:List Bool},Paired (fun x (b:Bool)=>Py.rp K N H x b) xs bs->xs=bs.map V.bl
 |_,_,.nil=>rfl
 |_,_,.cons h t=>by rw[show _=V.bl _ from h,JC t];rfl
theorem qD{K:PySem.W.Frag}{N:Nn}{H:Hp}:∀{xs:List V} {bs:List Int},Paired (fun x (b:Int)=>Py.rp K N H x b) xs bs->xs=bs.map V.int
 |_,_,.nil=>rfl
 |_,_,.cons h t=>by rw[show _=V.int _ from h,qD t];rfl
section
variable{X:Cx}{Γ:aL}{α β γ:Type}[Py α][Py β][Py γ]{e e1 e2 e3:Expr}{b b1 b2 b3:Bool}{pos:Pos}
def JI{bs:List Bool}{p:Pos}(g:X.calm=true)(f:Gl X "all")(d:X.mg "all"=none)(ha:E X Γ e b bs)(a:starEach [e] X.env=(false,eval e X.env)::starEach [] X.env:=by rfl):E X Γ (.Call (.Name "all" p) [e] [] pos) true (bs.all id):=by
 with_unfolding_all
  exact aN (fA (Bw g) f d PyProof.Rows.boot_all (aB ha bq a) (he:=a)) fun σ H Q ⟨H0,F,O,S,q⟩=>⟨H0,F,O,S,fun v H1 i h=>by
    obtain⟨p,vs,e,c,n,r⟩:=h;rw[JC r] at c
    exact⟨p,bs,by rw[e],(au _ _).seq c,q _ H1 i rfl⟩⟩
end
def QL(a:Scope)(N:List Str)(scope:Scope)(js:List Nat):Bool :=
 (scope.kind==.function)&&scope.names.all (fun x=>(!(x.2==.local) || scope.names.lookup x.1==some .local)&&(!(x.2==.free) || (scope.names.lookup x.1==some .free&&(a.names.lookup x.1==some .cell || a.names.lookup x.1==some .free)))&&scope.names.all (fun y=>!(x.1==y.1) || x.2==y.2)) &&
  js.all (fun j=>match N[j]? with|some x=>scope.names.lookup x==some .free|none=>false)
def cj{scope:Scope}(b:Scope)(N:List Str)(h1:X.env.scope=b)(h2:X.N=N)(h:QL b N scope js=true):gm X scope tn js:=by
 subst h1 h2;unfold QL at h;simp only[Wi,Wc] at h;obtain⟨⟨i,ha⟩,k⟩:=h;refine⟨by simpa using i,fun x a e=>?_,fun x a e=>?_,fun x a y l e=>?_,fun j f=>?_⟩
 .obtain⟨⟨h1,h2⟩,c⟩:=ha x a;simpa [e] using h1
 .obtain⟨⟨h1,h2⟩,c⟩:=ha x a;have d:(scope.names.lookup x.1==some .free&&(X.env.scope.names.lookup x.1==some .cell || X.env.scope.names.lookup x.1==some .free))=true:=by simpa [e] using h2
  obtain⟨q1,g⟩:=WI.mp d;refine⟨by simpa using q1,?_⟩;rcases Bool.or_eq_true_iff.mp g with z|z
  .exact .inl (show X.env.scope.names.lookup x.1=_ by simpa using z)
  .exact .inr (show X.env.scope.names.lookup x.1=_ by simpa using z)
 .obtain⟨⟨h1,h2⟩,c⟩:=ha x a;have:=c y l;simpa [e] using this
 .have:=k j f;split at this
  .rename_i x a;exact⟨x,a,by simpa using this⟩
  .cases this
theorem F6{env:Env}{x:Str}:∀(names:List (Str×NameKind)),(names.map fun(n,k)=>if (k==NameKind.free&&env.scope.kind==.function&&env.kindOf n==some .cell) then (n,NameKind.cell) else (n,k)).lookup x =
  (names.lookup x).map fun k=>if (k==NameKind.free&&env.scope.kind==.function&&env.kindOf x==some .cell) then NameKind.cell else k
 |[]=>rfl
 | (n,k) :: r=>by
  have b:=F6 (env:=env) (x:=x) r;by_cases e:x=n
  .subst e
   cases a:(k==NameKind.free&&env.scope.kind==.function&&env.kindOf x==some .cell) <;>
    simp only[a,Wa,XU,YN,Yr,Option.map_some,Xo,XS]
  .have c:(x==n)=false:=by simpa using e
   cases a:(k==NameKind.free&&env.scope.kind==.function&&env.kindOf n==some .cell) <;>
    simp only[a,c,Wa,XU,Yr,Xo,XS]<;>exact b
def vJ{env:Env}{names:List (Str×NameKind)}(h:names.lookup x=some .cell):(names.map fun(n,k)=>if (k==NameKind.free&&env.scope.kind==.function&&env.kindOf n==some .cell) then (n,NameKind.cell) else (n,k)).lookup x=some .cell:=by
 rw[F6,h];rfl
def dt{scope:Scope}{pos:Pos}(i:Nat)(N:List Str)(h:cN X tn js=N:=by rfl)(b:N.Nodup:=by decide +kernel)(hi:N[i]?=some x:=by rfl)
  (a:scope.names.lookup x=some .local\/scope.names.lookup x=some .cell:=by first|exact .inl rfl|exact .inr rfl):PG (ic X (cN X tn js) scope C s H fp) (.Name x pos) (jR i):=by
 refine lL (show(cN X tn js).Nodup by rw[h];exact b) (show(cN X tn js)[i]?=some x by rw[h];exact hi) ?_ ?_
 .rcases a with z|z
  .exact .inl (lookup_relabel_local z)
  .exact .inr (vJ z)
 .rcases a with z|z
  .exact .inr (lookup_relabel_local z)
  .refine .inl ?_;show(match scope.names.lookup x with|some .cell=>true|_=>false)=true;rw[z]
def bg{i:Nat}(h:i<n:=by decide):∀j,j=i->j<n:=fun j e=>by rw[e];exact h
section
variable{K:PySem.W.Frag}{H0:Hp}{F O:Addr->Prop}{Γ:aL}{σ:St}{H H':Hp}
def dA.Fu{i:Nat}(Z:dA K H0 F O Γ σ H)(sm:aD H H')(N:Addr->Prop)(f:∀q,N q->H q=none/\∃xs:Mt,H' q=some (mo xs))(g:Bd)(A:g.gA)(x:g.zr K H0 (fun p=>O p\/N p) H' N v):
  dA K H0 F (fun p=>O p\/N p) (Γ.set i (some g)) (σ.set i (some v)) H'/\aD (off H O) (off H' fun p=>O p\/N p):=by
 have t:aD (off H O) (off H' fun p=>O p\/N p):=fun b o h=>by
  obtain⟨h1,h2⟩:=cV h;have C:¬N b:=fun z=>by rw[(f b z).1] at h2;cases h2
  rw[aT (by rintro(z|z);exact h1 z;exact C z)];exact sm _ _ h2
 refine⟨⟨Z.same.trans sm,fun p h=>.inl (Z.fo p h),Z.f0,fun p h=>?_,by rw[WM,WM];exact Z.len,fun j g' e n=>?_,?_⟩,t⟩
 .rcases h with h|h
  .obtain⟨ys,q⟩:=Z.own p h;exact⟨ys,sm _ _ q⟩
  .exact(f p h).2
 .by_cases c:j=i
  .subst c;obtain⟨u,s⟩:=get_set_some e;subst s;exact absurd A n
  .rw[get_set_ne c] at e;obtain⟨w,q1,d⟩:=Z.at_ j g' e n;refine⟨w,by rw[get_set_ne c];exact q1,?_⟩;cases g' with
   |val b a=>exact aw t d
   |own b as=>exact d
   |dpo a=>exact d
 .obtain⟨D,B,l,y⟩:=Z.dis;refine⟨fun j q=>(j=i/\N q)\/(j≠i/\D j q),fun j k q h1 h2=>?_,fun j q h=>?_,fun j g' e o=>?_⟩
  .rcases h1 with⟨e1,r⟩|⟨e1,r⟩<;>rcases h2 with⟨e2,m⟩|⟨e2,m⟩
   .rw[e1,e2]
   .exact absurd (l k q m).1 (Z.k_ (f q r).1)
   .exact absurd (l j q r).1 (Z.k_ (f q m).1)
   .exact B j k q r m
  .rcases h with⟨_,n⟩|⟨_,n⟩
   .exact⟨.inr n,Z.gU (f q n).1⟩
   .exact⟨.inl (l j q n).1,(l j q n).2⟩
  .by_cases c:j=i
   .subst c;obtain⟨u,s⟩:=get_set_some e;subst s;refine⟨v,get_set_eq (by rw[Z.len];exact u),?_⟩;have:(fun q=>(j=j/\N q)\/(j≠j/\D j q))=N:=funext fun q=>propext ⟨fun z=>by rcases z with⟨_,z⟩|⟨z,_⟩;exact z;exact absurd rfl z,fun z=>.inl ⟨rfl,z⟩⟩;show Bd.zr K H0 (fun p=>O p\/N p) H' (fun q=>(j=j/\N q)\/(j≠j/\D j q)) v g;rw[this];exact x
   .rw[get_set_ne c] at e;obtain⟨w,q1,d⟩:=y j g' e o;refine⟨w,by rw[get_set_ne c];exact q1,?_⟩;have:(fun q=>(j=i/\N q)\/(j≠i/\D j q))=D j:=funext fun q=>propext ⟨fun z=>by rcases z with⟨z,_⟩|⟨_,z⟩;exact absurd z c;exact z,fun z=>.inr ⟨c,z⟩⟩;show Bd.zr K H0 (fun p=>O p\/N p) H' (fun q=>(j=i/\N q)\/(j≠i/\D j q)) w g';rw[this];exact Bd.N2 d (fun p ys _ z=>sm _ _ z) t (fun p z=>(l j p z).1) Z.own
def dA.yF{i:Nat}(Z:dA K H0 F O Γ σ H)(t:Γ[i]?=some (some g))(G:g.gA):∃v D,σ[i]?=some (some v)/\g.zr K H0 O H D v/\(∀p,D p->O p/\H0 p=none) /\
  ∀(p:Addr) (ys:Mt) (g':Option Bd),D p->(∀d,g'=some d->d.gA/\d.zr K H0 O (upd H p (mo ys)) D v)->dA K H0 F O (Γ.set i g') σ (upd H p (mo ys))/\off (upd H p (mo ys)) O=off H O:=by
 obtain⟨D,B,m,A⟩:=Z.dis;obtain⟨v,q1,C⟩:=A i g t G;refine⟨v,D i,q1,C,m i,fun p ys g' hp k=>?_⟩;have y:=(m i p hp).1;have r:=pX (H:=H) (o:=mo ys) y;refine⟨⟨fun b o z=>?_,Z.fo,Z.f0,fun b I=>?_,by rw[WM];exact Z.len,fun j c e n=>?_,D,B,m,fun j c e o=>?_⟩,r⟩
 .have:b≠p:=fun w=>by rw[w,(m i p hp).2] at z;cases z
  rw[aA this];exact Z.same _ _ z
 .by_cases l:b=p
  .subst l;exact⟨ys,aP⟩
  .rw[aA l];exact Z.own b I
 .by_cases f:j=i
  .subst f;have x:j<Γ.length:=(VE.mp t).1;rw[get_set_eq x] at e;have u:g'=some c:=VP e;exact absurd (k c u).1 n
  .rw[get_set_ne f] at e;obtain⟨w,s,h⟩:=Z.at_ j c e n;refine⟨w,s,?_⟩;cases c with
   |val b a =>
    show Py.rp K _ (off (upd H p _) O) w a;rw[r];exact h
   |own b as=>exact h
   |dpo a=>exact h
 .by_cases f:j=i
  .subst f;have x:j<Γ.length:=(VE.mp t).1;rw[get_set_eq x] at e;have u:g'=some c:=VP e;exact⟨v,q1,(k c u).2⟩
  .rw[get_set_ne f] at e;obtain⟨w,s,h⟩:=A j c e o;refine⟨w,s,Bd.N2 h (fun q xs E z=>?_) (by rw[r];exact aD.refl _) (fun q z=>(m j q z).1) Z.own⟩;have:q≠p:=fun w=>f (B j i q E (w▸hp));rw[aA this];exact z
def dA.write{i:Nat}(Z:dA K H0 F O Γ σ H)(h:Γ[i]?=some (some g))(e:g.gA):∃v D,σ[i]?=some (some v)/\g.zr K H0 O H D v/\(∀p,D p->O p/\H0 p=none) /\
  ∀(p:Addr) (ys:List V) (g':Option Bd),D p->(∀d,g'=some d->d.gA/\d.zr K H0 O (upd H p (.lst ys)) D v)->dA K H0 F O (Γ.set i g') σ (upd H p (.lst ys))/\off (upd H p (.lst ys)) O=off H O:=by
 obtain⟨v,D,a,b,c,f⟩:=Z.yF h e;exact⟨v,D,a,b,c,fun p ys=>f p (.inl ys)⟩
def dA.freeze{i:Nat}{g':Bd}(Z:dA K H0 F O Γ σ H)(G:Γ[i]?=some (some g))(I:g.gA)(J:¬g'.gA)
  (E:∀(D c:Addr->Prop) v,g.zr K H0 O H D v->(∀p,D p->H0 p=none/\¬c p)->aD (off H O) (off H c)->(∀p xs,Rt H p xs->Rt (off H c) p xs)->g'.ok K H0 c H v):
  ∃c,dA K H0 F c (Γ.set i (some g')) σ H/\aD (off H O) (off H c):=by
 obtain⟨D,B,m,A⟩:=Z.dis;obtain⟨v,q1,C⟩:=A i g G I;have s:aD (off H O) (off H fun p=>O p/\¬D i p):=l_ fun p h=>h.1;refine⟨fun p=>O p/\¬D i p,⟨Z.same,fun p h=>⟨Z.fo p h,fun z=>?_⟩,Z.f0,fun p h=>Z.own p h.1,by rw[WM];exact Z.len,fun j l e n=>?_,fun j q=>j≠i/\D j q,fun j k q h1 h2=>B j k q h1.2 h2.2,fun j q h=>⟨⟨(m j q h.2).1,fun z=>h.1 (B j i q h.2 z)⟩,(m j q h.2).2⟩,fun j l e o=>?_⟩,s⟩
 .obtain⟨xs,w⟩:=Z.f0 p h;rw[(m i p z).2] at w;cases w
 .by_cases r:j=i
  .subst r;obtain⟨_,y⟩:=get_set_some e;subst y;refine⟨v,q1,E (D j) _ v C (fun p z=>⟨(m j p z).2,fun w=>w.2 z⟩) s fun p xs q=>?_⟩
   have hp:∀u,(H p=some (.tup u)\/∃o,H p=some (.frz o (.tup u)))->¬(O p/\¬D j p):=fun u z w=>by
    obtain⟨ys,t⟩:=Z.own p w.1;rcases z with z|⟨o,z⟩
    .rw[z] at t;rcases ys with ys|ys|ys<;>cases t
    .rw[z] at t;rcases ys with ys|ys|ys<;>cases t
   have d:=hp xs q.rd;rcases q with q|⟨o,q⟩
   .exact .inl (by rw[aT d];exact q)
   .exact .inr ⟨o,by rw[aT d];exact q⟩
  .rw[get_set_ne r] at e;obtain⟨w,x,f⟩:=Z.at_ j l e n;refine⟨w,x,?_⟩;cases l with
   |val b a=>exact aw s f
   |own b as=>exact f
   |dpo a=>exact f
 .have r:j≠i:=by
   rintro rfl;obtain⟨_,y⟩:=get_set_some e;subst y;exact J o
  rw[get_set_ne r] at e;obtain⟨w,x,f⟩:=A j l e o;refine⟨w,x,?_⟩;have:(fun q=>j≠i/\D j q)=D j:=funext fun q=>propext ⟨fun z=>z.2,fun z=>⟨r,z⟩⟩;show Bd.zr K H0 (fun p=>O p/\¬D i p) H (fun q=>j≠i/\D j q) w l;rw[this];exact Bd.N2 f (fun p ys _ z=>z) s (fun p z=>(m j p z).1) Z.own
def KC{α:Type}[Py α]{b:Bool}{as:List α}{D a:Addr->Prop}(h:(Bd.own b as).zr K H0 O H D v)(c:∀p,D p->H0 p=none/\¬a p)(f:aD (off H O) (off H a)):(Bd.val b as).ok K H0 a H v:=by
 obtain⟨p,xs,e,o,q,r⟩:=h;have d:off H a p=some (.lst xs):=by rw[aT (c p o).2];exact q
 exact⟨p,xs,e,dX.of d,Nf.wk (c p o).1 d,bB (fun _ _ z=>aw f z) r⟩
def Kk{α:Type}[Py α]{a:α}{D b:Addr->Prop}(h:(Bd.dpo a).zr K H0 O H D v)(c:∀p,D p->H0 p=none/\¬b p)(f:∀p xs,Rt H p xs->Rt (off H b) p xs):(Bd.val true a).ok K H0 b H v:=by
 refine Py.tr (fun p xs q n=>?_) f h;obtain⟨e,g⟩:=n;have d:off H b p=some (mo xs):=by rw[aT (c p e).2];exact g
 exact⟨Mo.of d,(c p e).1,d⟩
variable{X:Cx}{D:GD}{α β γ:Type}[Py α][Py β][Py γ]{e e1 e2:Expr}{b b1 b2:Bool}{pos:Pos}{rest st:List Stmt}
def Jb(i:Nat)(α:Type)[Py α]{p p2:Pos}(g:X.N.Nodup)(h:S X (Γ.set i (some (.own true ([]:List α)))) rest D)(hi:X.N[i]?=some x:=by rfl)(j:Loc X.env.scope x:=by first|exact Or.inl rfl|exact Or.inr rfl)
  (b:swapsWith (.List [] p2) (some (.Name x p)) pos.line X.env=pure false:=by rfl) (d:X.fn x=true\/X.env.scope.names.lookup x=some .local:=by first|exact .inl rfl|exact .inr rfl):S X Γ (.Assign [.Name x p] (.List [] p2) pos::rest) D:=by
 with_unfolding_all
  exact eO (eC (uQ g hi j (yi bq) b d) fun k σ H ⟨H0,F,O,Z,n,_⟩=>⟨Wn _,fun q a=>by
    obtain⟨f,c⟩:=Z.Fu (i:=i) (v:=.ref q) (eP a (.lst [])) (·=q) (fun r e=>by subst e;exact⟨a,.inl [],aP⟩) (Bd.own true ([]:List α)) True.intro ⟨q,[],rfl,rfl,aP,.nil⟩
    exact n _ _ _ _ c f h⟩)
def mr(i:Nat){as:List α}{a:α}{p ap j:Pos}(C:Γ[i]?=some (some (.own b as)))(he:E X Γ e b a)(K:as.length<=1000)(h:S X (Γ.set i (some (.own b (as++[a])))) rest D)(hi:X.N[i]?=some x:=by rfl)
  (I:Hh X.env.scope x:=by first|exact Or.inl rfl|exact Or.inr (Or.inl rfl)|exact Or.inr (Or.inr rfl)) (M:(x==("__debug__":Str))=false:=by decide) (r:(x==("__classdict__":Str))=false:=by decide)
  (f:attributeBase (.Name x p) "append" X.env (eval (.Name x p) X.env)=eval (.Name x p) X.env:=by rfl)
  (k:((backTo j (starEach [e] X.env)).all (fun x=>!x.1)&&(backToKw j (keywordEach [] X.env)).all (fun x=>x.1.isSome)
   && decide (([e]:List Expr).length+([]:List Keyword).length+(if ([]:List Keyword).isEmpty then 0 else 1)<30))=true:=by rfl)
  (d:(ap.endLine==j.line)=true:=by rfl) (B:starEach [e] X.env=(false,eval e X.env)::starEach [] X.env:=by rfl) (c:(backTo j (starEach [] X.env)).any (·.1)=false:=by rfl)
  (w:swapsWith (.Call (.Attribute (.Name x p) "append" ap) [e] [] j) none pos.line X.env=pure false:=by rfl):
  S X Γ (.Expr (.Call (.Attribute (.Name x p) "append" ap) [e] [] j) pos::rest) D:=by
 with_unfolding_all
  exact eO (eC (zS (MP PySem.F.plainAttrs_list PySem.F.slot_list_append PySem.F.type_list_append tX (pv i hi I M r) (aB he bq B) f k d B c) w) fun De σ H ⟨H0,F,O,Z,n,_⟩=>by
    obtain⟨v,Di,m,⟨q,xs,A,W,g,s⟩,_,_⟩:=Z.write C True.intro;subst A;refine⟨.ref q,m,.inl ⟨rfl,xs,dX.of g⟩,H0,F,O,Z,fun y H2 o R=>⟨q,xs,y,rfl,rfl,o _ _ g,?_,?_⟩⟩
    .rw[bL s];exact di K
    .obtain⟨P,D',BS,⟨q',l,Y,t,Q,U⟩,u,wr⟩:=(Z.go o).write C True.intro;rw[m] at BS;have ev:V.ref q=P:=by injection BS with z;injection z
     subst ev;cases Y
     have ex:l=xs:=by
      have:=o _ _ g;rw[Q] at this;cases this;rfl
     subst ex
     obtain⟨T,G⟩:=wr q (l++[y]) (some (.own b (as++[a]))) t fun L J=>by
      cases J;refine⟨True.intro,q,_,rfl,t,aP,?_⟩;rw[pX (u q t).1];exact uP U (.cons R .nil)
     exact n _ _ _ _ (by rw[G];exact ah o) T h)
def AX{g':Bd}(i:Nat)(k:Γ[i]?=some (some g))(d:g.gA)(l:¬g'.gA)
  (f:∀(H0 H:Hp) (O D a:Addr->Prop) v,g.zr X.K H0 O H D v->(∀p,D p->H0 p=none/\¬a p)->aD (off H O) (off H a)->(∀p xs,Rt H p xs->Rt (off H a) p xs)->g'.ok X.K H0 a H v)
  (h:S X (Γ.set i (some g')) st D):S X Γ st D:=by
 with_unfolding_all
  exact rN h fun m σ H ⟨H0,F,O,Z,n,r,bk,ct⟩=>by
   obtain⟨a,j,c⟩:=Z.freeze k d l fun e a v=>f H0 H O e a v;exact⟨H0,F,a,j,fun Γ2 σ2 H2 b sm=>n Γ2 σ2 H2 b (c.trans sm),r,fun Γ2 σ2 H2 b sm=>bk Γ2 σ2 H2 b (c.trans sm),fun Γ2 σ2 H2 b sm=>ct Γ2 σ2 H2 b (c.trans sm)⟩
def dn(i:Nat){as:List α}(d:Γ[i]?=some (some (.own b as)))(h:S X (Γ.set i (some (.val b as))) st D):S X Γ st D:=by
 with_unfolding_all
  exact AX (g':=.val b as) i d True.intro (fun z=>z) (fun H0 H O f g v a c e _=>KC a c e) h
def KZ(i:Nat){a:α}(d:Γ[i]?=some (some (.dpo a)))(h:S X (Γ.set i (some (.val true a))) st D):S X Γ st D:=by
 with_unfolding_all
  exact AX (g':=.val true a) i d True.intro (fun z=>z) (fun H0 H O f g v b c _ e=>Kk b c e) h
def Dt(i j:Nat){K:PySem.W.Frag}:GP (GQ K 2 (rE (jR i) (rE (jR j) Gs))) (α×β) (fun b u Γ=>(Γ.set i (some (.val b u.1))).set j (some (.val b u.2))) (fun k=>k=i\/k=j) K:=fun b u H0 F O Γ σ H v Q Z r q=>by
 obtain⟨p,g,a,h,d,f,e⟩:=r;refine⟨p,_,h,uu (au _ _) d,rfl,g,[a],rfl,a,[],rfl,rfl,?_⟩;exact q _ ((Z.set f).set e) (by rw[WM,WM]) fun k c=>by rw[get_set_ne fun z=>c (.inr z),get_set_ne fun z=>c (.inl z)]
end
end L2.EP
namespace L2
open PySem PySem.Spec PyProof.Rows
def PY(K : PySem.W.Frag)(a b : Addr) : It :=
  ⟨fun i H=>∃xs ys x y,dX K H a xs/\dX K H b ys/\xs[i]?=some x/\ys[i]?=some y,
   fun i H v H'=>∃T x y,H T=none/\v=.ref T/\H'=upd H T (.tup [x,y])/\(∀xs,dX K H a xs->xs[i]?=some x)/\∀ys,dX K H b ys->ys[i]?=some y,
   fun i H=>∃xs ys,dX K H a xs/\dX K H b ys/\(xs.length<=i\/ys.length<=i)⟩
def dm{h:Heap}{a b:Addr}{o u:Obj}(e1:h.get? a=some o)(e2:h.get? b=some u)(d:o.cls≠u.cls):a≠b:=fun z=>by
 subst z;rw[e1] at e2;cases e2;exact d rfl
def ud{h:Heap}{z TI TO j k i l:Addr}{u r y o w:Value}{q p:Nat}{xs ys:Array Value}(hz:IsZip h z TI TO u)(b:IsPair h TI r y)(a:IsPair h TO o w)(h1:h.IsListIter j i q)(h2:h.IsListIter k l p)
  (n:h.IsList i xs) (m:h.IsList l ys) (x:TI≠TO) (v:j≠k):ZipApart z TI TO j k i l:=by
 obtain⟨A,d,b1,_⟩:=h1;obtain⟨C,c,b2,_⟩:=h2;obtain⟨B,c1,f,_⟩:=n;obtain⟨p2,c2,g,_⟩:=m;have X:∀{s t:String},s≠t->Value.type s≠Value.type t:=fun ne e=>ne (by injection e)
 exact⟨dm b hz (X (by decide)),dm a hz (X (by decide)),dm d hz (by rw[b1];exact X (by decide)),dm c hz (by rw[b2];exact X (by decide)),x,dm b d (by rw[b1];exact X (by decide)),dm b c (by rw[b2];exact X (by decide)),
  dm a d (by rw[b1];exact X (by decide)),dm a c (by rw[b2];exact X (by decide)),v,dm c1 hz (by rw[f];exact X (by decide)),dm c1 a (by rw[f];exact X (by decide)),dm c1 d (by rw[f,b1];exact X (by decide)),dm c1 c (by rw[f,b2];exact X (by decide)),
  dm c2 hz (by rw[g];exact X (by decide)),dm c2 a (by rw[g];exact X (by decide)),dm c2 d (by rw[g,b1];exact X (by decide)),dm c2 c (by rw[g,b2];exact X (by decide))⟩
section
variable{X:Cx}{pins:List (Addr×Obj)}{σ:St}{H H':Hp}{s:Shared}
def Inv.GR{h':Heap}{t':Nat}{ch:List Addr}{T:Addr}{xs:List V}(I:Inv X pins σ H s)(i:s.heap.objs.size<=T)(k:∀b o,b∉ch->s.heap.get? b=some o->h'.get? b=some o)(th:∀b o,s.heap.get? b=some o->∃o',h'.get? b=some o')(f:∀b∈ch,sG X pins H b)
  (new:bP X.prog X.w (upd H T (.tup xs)) h' T (.tup xs)):Inv X pins σ (upd H T (.tup xs)) {s with heap:=h',toks:=t'}:=by
 with_unfolding_all
  have h:H T=none:=I.hok.fresh i;have g:∀b u,H b=some u->b∉ch:=fun b u e z=>by rw[(f b z).1] at e;cases e
  refine I.step (g':=s.gens) (d':=s.drawn) (ch:=ch) (fun b d=>⟨(f b d).2.2.2.1,(f b d).2.1,(f b d).2.2.2.2.1,(f b d).2.2.2.2.2⟩) (fun b o _ _ a e _=>k b o a e) (fun b o _ _ a e _=>⟨o.slots,k b o a e⟩)
   (fun b o a e n=>by rw[aA (V2 (VY (VF e) i))];exact n) (fun b o a e=>⟨o,k b o a e⟩) (fun b ys e=>by rw[aA (bN e h)];exact e) (fun b u ys e=>by rw[aA (bN e h)];exact e) (fun b ps e=>⟨#[],by rw[aA (bN e h),e];simp⟩) (fun m j=>?_) (fun b u e=>?_) I.bare
  .obtain⟨o,es,ep,l,r⟩:=j;exact⟨o,es,ep,k _ o (fun z=>(f _ z).2.1 rfl) l,r⟩
  .by_cases d:b=T
   .subst d;rw[aP] at e;cases e;exact new
   .rw[aA d] at e;refine(I.hok b u e).wR (fun c v a q=>k c v ?_ q) (fun c z=>?_) fun c ys z=>?_
    .rcases a with z|z
     .rw[z];exact g b u e
     .exact g c _ z
    .rw[aA (bN z h)];exact z
    .rw[aA (bN z h)];exact z
end
def FP{P:Program}{w:World}{K:PySem.W.Frag}{elts:List Expr}{kk:Nat}{tp:Pos}(z TI TO j l a b:Addr)(n1:TI≠TO)(n2:j≠l):Turn P w K (.Tuple elts kk tp) (PY K a b) [z,TI,TO,j,l] z
  (fun i h=>IsZip h z TI TO .none/\IsPair h TI (.ref j) (.ref l)/\(∃x y,IsPair h TO x y)/\h.IsListIter j a i/\h.IsListIter l b i) where
 mem:=by simp
 obj:=fun i h st c J=>by
  obtain⟨hz,f,⟨x,y,g⟩,h1,h2⟩:=st;have d:c=z\/c=TI\/c=TO\/c=j\/c=l:=by simpa using J
  rcases d with e|e|e|e|e
  .subst e;exact⟨_,hz,fun v q=>by cases q⟩
  .subst e;exact⟨_,f,fun v q=>by cases q⟩
  .subst e;exact⟨_,g,fun v q=>by cases q⟩
  .subst e;obtain⟨o,q1,L,C⟩:=h1;exact⟨o,q1,fun v q=>by rw[C] at q;cases q⟩
  .subst e;obtain⟨o,q1,L,C⟩:=h2;exact⟨o,q1,fun v q=>by rw[C] at q;cases q⟩
 keep:=fun i h h' st k=>by
  obtain⟨hz,f,⟨x,y,g⟩,h1,h2⟩:=st;exact⟨k z (by simp) _ hz,k TI (by simp) _ f,⟨x,y,k TO (by simp) _ g⟩,h1.at fun o e=>k j (by simp) o e,h2.at fun o e=>k l (by simp) o e⟩
 item:=by
  intro X R Y hK J i pins s σ H E I A st Q;subst R Y hK;obtain⟨xs,ys,x,y,M,N,gx,gy⟩:=Q;obtain⟨hz,f,⟨wa,wb,g⟩,h1,h2⟩:=st;obtain⟨ix,rx,F,_⟩:=I.list M;obtain⟨iy,ry,py,_⟩:=I.list N;have D:=ud hz f g h1 h2 F.isList py.isList n1 n2;obtain⟨u,ux,U⟩:=rx.get gx;obtain⟨v,vy,O⟩:=ry.get gy;refine wpAny_pyNext_zip_item D hz f g h1 h2 F.isList py.isList (by simpa using ux) (by simpa using vy) fun h' a1 a2 a3 a4 a5 a6 t=>?_;have hT0:H s.heap.objs.size=none:=I.hok.fresh (Vu _)
  have I1:Inv X pins σ (upd H s.heap.objs.size (.tup [x,y])) {s with heap:=h',toks:=s.toks}:=by
   refine I.GR (ch:=[z,TO,j,l]) (Vu _) (fun c o d e=>t c o (fun q=>d (by simp[q])) (fun q=>d (by simp[q])) (fun q=>d (by simp[q])) (fun q=>d (by simp[q])) e) (fun c o e=>?_) (fun c d=>A c (by simp at d ⊢;rcases d with q|q|q|q<;>simp[q])) ?_
   .have hlt:=VF e;have:c<h'.objs.size:=by rw[a6];exact W0 hlt
    by_cases q1:c=z
    .subst q1;exact⟨_,a1⟩
    by_cases L:c=TO
    .subst L;exact⟨_,a2⟩
    by_cases C:c=j
    .subst C;obtain⟨o',q,_⟩:=a3;exact⟨o',q⟩
    by_cases q4:c=l
    .subst q4;obtain⟨o',q,_⟩:=a4;exact⟨o',q⟩
    exact⟨o,t c o q1 L C q4 e⟩
   .exact⟨by show 2<=sizeLine;decide,[u,v],.cons U (.cons O .nil),⟨_,a5,rfl,_,rfl⟩⟩
  refine⟨_,rfl,?_⟩;have B:=A z (by simp);refine wpAny_letOwnedTupleGo_zip a1 fun h2' hz' p=>?_;have zT:z≠s.heap.objs.size:=V2 (VF hz);have I2:Inv X pins σ (upd H s.heap.objs.size (.tup [x,y])) {({s with heap:=h',toks:=s.toks}:Shared) with heap:=h2',toks:=s.toks}:=I1.turned (fun c o d e=>p.extBut c o d e) (by rw[aA zT];exact B.1) B.2.1 B.2.2.2.1 B.2.2.2.2.1 B.2.2.2.2.2;refine⟨.ref s.heap.objs.size,upd H s.heap.objs.size (.tup [x,y]),I2,rfl,⟨s.heap.objs.size,x,y,hT0,rfl,rfl,fun xs' S=>?_,fun ys' sy'=>?_⟩,⟨hz',p.extBut _ _ D.TIz (t _ _ D.TIz D.TITO D.TIi1 D.TIi2 f),⟨_,_,p.extBut _ _ D.TOz a2⟩,a3.extBut p.extBut D.i1z,a4.extBut p.extBut D.i2z⟩,fun c d=>?_⟩
  .rw[I.qN S M];exact gx
  .rw[I.qN sy' N];exact gy
  .have Z:c<s.heap.objs.size:=by
    have T:c=z\/c=TI\/c=TO\/c=j\/c=l:=by simpa using d
    rcases T with e|e|e|e|e
    .subst e;exact VF hz
    .subst e;exact VF f
    .subst e;exact VF g
    .subst e;obtain⟨_,q,_⟩:=h1;exact VF q
    .subst e;obtain⟨_,q,_⟩:=h2;exact VF q
   rw[aA (V2 Z)];exact(A c d).1
 done:=by
  intro X R Y hK J i pins s σ H E I A st Q;subst R Y hK;obtain⟨xs,ys,M,N,G⟩:=Q;obtain⟨hz,f,⟨wa,wb,g⟩,h1,h2⟩:=st;obtain⟨ix,rx,F,_⟩:=I.list M;obtain⟨iy,ry,py,_⟩:=I.list N;have D:=ud hz f g h1 h2 F.isList py.isList n1 n2;refine wpAny_pyNext_zip_end (I.ok.hd J) D hz f g h1 h2 F.isList py.isList ?_ fun h' t=>⟨rfl,?_⟩
  .rcases G with q|q
   .left;simp[<-rx.length];lia
   .right;simp[<-ry.length];lia
  .have B:=A z (by simp);have fo:=A TO (by simp);have f1:=A j (by simp);have f2:=A l (by simp)
   refine I.step (g':=s.gens) (d':=s.drawn) (t':=s.toks) (ch:=[z,TO,j,l]) (fun b hb=>?_) (fun b o _ _ d e _=>t b o (fun q=>d (by simp[q])) (fun q=>d (by simp[q])) (fun q=>d (by simp[q])) (fun q=>d (by simp[q])) e) (fun b o _ _ d e _=>⟨o.slots,t b o (fun q=>d (by simp[q])) (fun q=>d (by simp[q])) (fun q=>d (by simp[q])) (fun q=>d (by simp[q])) e⟩) (fun _ _ _ _ n=>n)
    (fun b o d e=>⟨o,t b o (fun q=>d (by simp[q])) (fun q=>d (by simp[q])) (fun q=>d (by simp[q])) (fun q=>d (by simp[q])) e⟩) (fun _ _ e=>e) (fun _ _ _ e=>e) (fun b ps e=>⟨#[],by rw[e];simp⟩) (fun m hm=>?_) (fun b u e=>?_) I.bare
   .have q:=A b (by simp at hb ⊢;rcases hb with q|q|q|q<;>simp[q]);exact⟨q.2.2.2.1,q.2.1,q.2.2.2.2.1,q.2.2.2.2.2⟩
   .obtain⟨o,es,ep,ho,r⟩:=hm;exact⟨o,es,ep,t _ o (Yi B.2.1) (Yi fo.2.1) (Yi f1.2.1) (Yi f2.2.1) ho,r⟩
   .have nn:∀c v,H c=some v->c≠z/\c≠TO/\c≠j/\c≠l:=fun c v e=>⟨(fun q=>by(rw[q,B.1] at e;cases e)),(fun q=>by(rw[q,fo.1] at e;cases e)),(fun q=>by(rw[q,f1.1] at e;cases e)),(fun q=>by(rw[q,f2.1] at e;cases e))⟩;refine(I.hok b u e).wR (fun c v d q=>?_) (fun _ q=>q) fun _ _ q=>q;have:=nn c;rcases d with e'|e'
    .subst e';obtain⟨w1,w2,w3,V⟩:=nn c _ e;exact t c v w1 w2 w3 V q
    .obtain⟨w1,w2,w3,V⟩:=nn c _ e';exact t c v w1 w2 w3 V q
 self:=fun _ _ _ _ _ st h=>wpAny_pyIter_zip st.1 h
section
variable{X:Cx}{elts:List Expr}{kk:Nat}{tp:Pos}
def PM(K:PySem.W.Frag)(ta:TA):TI:=fun σ H R=>ta σ H fun vs H1=>∃a b,vs=[.ref a,.ref b]/\(∃xs,dX K H1 a xs)/\(∃ys,dX K H1 b ys)/\R (PY K a b) H1
def Mm{e1 e2:Expr}{ta:TA}{p pos:Pos}(m:Gl X "zip")(l:X.mg "zip"=none)(ha:PA X [e1,e2] ta)(he:starEach [e1,e2] X.env=(false,eval e1 X.env)::starEach [e2] X.env:=by rfl)
  (hpl:(backTo pos (starEach [e2] X.env)).any (·.1)=false:=by rfl):PI X (.Tuple elts kk tp) (.Call (.Name "zip" p) [e1,e2] [] pos) (PM X.K ta):=by
 intro pins s σ H R I h;refine Call_ (hV I m l PyProof.Rows.boot_zip (Xt (b8 (ha pos pins s σ H _ I h) fun us d ⟨vs,H1,f,r,q1⟩=>?_) he hpl));obtain⟨a,b,e,⟨xs,w⟩,⟨ys,x⟩,q⟩:=q1;subst e;obtain⟨u,J,rfl,A,t⟩:=vals2 r;cases A;cases t;obtain⟨D,C,o,_⟩:=f.list w;obtain⟨F,G,py,_⟩:=f.list x;refine call_zip_2 o.isList py.isList fun h' j y B n v E k=>?_;have z:Inv X pins σ H1 {d with heap:=h',toks:=d.toks}:=f.kept k;refine wpAny_pyIter_zip (s:={d with heap:=h'}) j ?_;refine⟨d.heap.objs.size+4,[d.heap.objs.size+4,d.heap.objs.size+2,d.heap.objs.size+3,d.heap.objs.size,d.heap.objs.size+1],_,PY X.K a b,H1,rfl,z,FP (d.heap.objs.size+4) (d.heap.objs.size+2) (d.heap.objs.size+3) d.heap.objs.size (d.heap.objs.size+1) a b (V2 (XW _)) (V2 (XW _)),⟨j,y,⟨_,_,B⟩,n,v⟩,fun c i=>?_,q⟩
 have g:d.heap.objs.size<=c:=by
  simp at i;rcases i with e|e|e|e|e<;>subst e<;>lia
 exact f.Co g (f.hok.fresh g)
end
end L2
namespace L2.EP
open PySem PySem.Spec PyProof.Rows
section
variable{X:Cx}{Γ:aL}{α β:Type}[Py α][Py β]{e1 e2:Expr}{b1 b2:Bool}{elts:List Expr}{kk:Nat}{tp p ps:Pos}
def vx{xs:List α}{ys:List β}(I:Gl X "zip")(G:X.mg "zip"=none)(h1:E X Γ e1 b1 xs)(h2:E X Γ e2 b2 ys)(d:starEach [e1,e2] X.env=(false,eval e1 X.env)::starEach [e2] X.env:=by rfl)(k:starEach [e2] X.env=(false,eval e2 X.env)::starEach [] X.env:=by rfl)
  (hpl:(backTo ps (starEach [e2] X.env)).any (·.1)=false:=by rfl):EI X Γ (.Tuple elts kk tp) (.Call (.Name "zip" p) [e1,e2] [] ps) (b1&&b2) (xs.zip ys):=by
 with_unfolding_all
  exact⟨_,Mm I G (aB h1 (aB h2 bq k) d) d hpl,fun σ H H0 F O R Z q=>⟨H0,F,O,Z,fun v H1 C S=>⟨H0,F,O,Z.go C,fun w H2 l U=>by
    obtain⟨a,j,ea,Q,na,A⟩:=S;obtain⟨c,g,ec,r,nc,rc⟩:=U;have b:=(ah (O:=O) l).seq Q;refine⟨a,c,by rw[ea,ec],⟨j,(au _ _).seq b⟩,⟨g,(au _ _).seq r⟩,q _ H2 (C.trans l) fun H' P m sm=>⟨fun i u K=>?_,?_⟩⟩
    .obtain⟨J,L⟩:=Xi.mp K;obtain⟨x,s,M⟩:=j4 A J;obtain⟨y,B,V⟩:=j4 rc L;have e:=(au _ _).seq (sm.seq b);have f:=(au _ _).seq (sm.seq r);refine⟨⟨j,g,x,y,e,f,s,B⟩,fun v' W N=>?_⟩;obtain⟨T,x',y',h,rfl,rfl,Y,D⟩:=N;have ex:=Y j e;have t:=D g f;rw[s] at ex;cases ex;rw[B] at t;cases t
     have o:¬P T:=fun z=>by
      obtain⟨zs,w⟩:=m T z;rw[h] at w;cases w
     refine⟨eP h _,T,x,y,rfl,.inl (by rw[aT o];exact aP),?_,?_⟩
     .exact bp (fun _ _ n=>A3 n) (aw ((ah l).trans (sm.trans (ah (eP h _)))) M)
     .exact bp (fun _ _ n=>AE n) (aw (sm.trans (ah (eP h _))) V)
    .refine⟨j,g,(au _ _).seq (sm.seq b),(au _ _).seq (sm.seq r),?_⟩;rw[bL A,bL rc,Yy]
     lia⟩⟩⟩
def Mg{scope:Scope}{tn:List Str}{js:List Nat}{C:Addr}{s:Shared}{H:Hp}{fp:List Addr}{x y:Str}{c p2 d:Pos}{k:Nat}(i j:Nat)(N:List Str)(f:X.calm=true:=by rfl)(h:cN X tn js=N:=by rfl)(b:N.Nodup:=by decide +kernel)(hi:N[i]?=some x:=by rfl)(e:N[j]?=some y:=by rfl)
  (g:scope.names.lookup x=some .local\/scope.names.lookup x=some .cell:=by first|exact .inl rfl|exact .inr rfl) (a:scope.names.lookup y=some .local\/scope.names.lookup y=some .cell:=by first|exact .inl rfl|exact .inr rfl):
  PG (ic X (cN X tn js) scope C s H fp) (.Tuple [.Name x c,.Name y p2] k d) (GQ X.K 2 (rE (jR i) (rE (jR j) Gs))) :=
 C_ (X:=ic X (cN X tn js) scope C s H fp) f (lO (dt i N h b hi g) (lO (dt j N h b e a) Be))
def BY{i j n:Nat}(h:i<n:=by decide)(h2:j<n:=by decide):∀k,k=i\/k=j->k<n:=fun k e=>by rcases e with e|e<;>rw[e]<;>assumption
end
class PyT(β:Type)[Py β]:Prop where
 free:∀{K:PySem.W.Frag} {N N':Nn} {H H':Hp} {v:V} {b:β},(∀p xs,Rt H p xs->Rt H' p xs)->Py.rp K N H v b->Py.rp K N' H' v b
 nl:∀{K:PySem.W.Frag} {N:Nn} {H:Hp} {q:Addr} {b:β} {xs:List V},Py.rp K N H (.ref q) b->H q=some (.lst xs)->False
instance:PyT Int where
 free _ h:=h
 nl h _:=nomatch h
instance:PyT Bool where
 free _ h:=h
 nl h _:=nomatch h
instance{α β:Type}[Py α][Py β][PyT α][PyT β]:PyT (α×β) where
 free t h:=by
  obtain⟨p,x,y,e,s,h1,h2⟩:=h;exact⟨p,x,y,e,t _ _ s,PyT.free t h1,PyT.free t h2⟩
 nl h e:=by
  obtain⟨p,x,y,a,s,h1,h2⟩:=h;cases a;rcases s with s|⟨o,s⟩
  .rw[e] at s;cases s
  .rw[e] at s;cases s
def tN{α:Type}[Py α](K:PySem.W.Frag)(Γ:aL)(a:α):TE:=fun σ H Q=>∃H0 F O,dA K H0 F O Γ σ H/\∀v H',aD H H'->Py.rp K (.new H) (off H' O) v a->Q v H'
@[irreducible] def EN{α:Type}[Py α](X:Cx)(Γ:aL)(e:Expr)(a:α):Prop:=PE X e (tN X.K Γ a)
def mN{α:Type}[Py α]{K:PySem.W.Frag}{H H1 b:Hp}{v:V}{a:α}(s:aD H H1)(h:Py.rp K (.new H1) b v a):Py.rp K (.new H) b v a:=bp (N:=.new H1) (N':=.new H) (fun _ _ n=>⟨s.free n.1,n.2⟩) h
section
variable{X:Cx}{Γ:aL}{D:GD}{α β γ:Type}[Py α][Py β][Py γ]{e e1 e2:Expr}{b b1 b2:Bool}{pos p:Pos}{rest st:List Stmt}{k:Nat}{name:Str}{ps:List Str}
def wI{pre:α->β->Prop}{f:α->β->γ}{a:α}{c:β}(C:aI X.prog X.w X.K X.mg X.base k name ps (cw X.K pre true f))(j:dv k X.A)(l:Gl X name)(h1:E X Γ e1 b1 a)(h2:E X Γ e2 b2 c)(hp:pre a c)
  (b:starEach [e1,e2] X.env=(false,eval e1 X.env)::starEach [e2] X.env:=by rfl) (g:starEach [e2] X.env=(false,eval e2 X.env)::starEach [] X.env:=by rfl) (h:(name==("__debug__":Str))=false:=by decide) (hpl:(backTo pos (starEach [e2] X.env)).any (·.1)=false:=by rfl):
  EN X Γ (.Call (.Name name p) [e1,e2] [] pos) (f a c):=by
 with_unfolding_all
  obtain⟨t,fd,F,B,kp,m⟩:=C.ex
  exact aN (f9 F j l m kp B .nil kI (aB h1 (aB h2 bq g) b) h b hpl) fun σ H Q ⟨H0,F,O,S,q⟩=>⟨H0,F,O,S,fun s H1 e n=>⟨H0,F,O,S.go e,fun i H2 d o =>
   ⟨O,s,i,a,c,(S.go (e.trans d)).own,rfl,bp br (aw (ah d) n),bp br o,hp,fun r H' s' z=>q r H' (e.trans (d.trans s')) (mN (e.trans d) z)⟩⟩⟩
def qS(i:Nat){x:Str}{a:α}{p:Pos}(j:X.N.Nodup)(he:EN X Γ e a)(h:S X (Γ.set i (some (.dpo a))) rest D)(hi:X.N[i]?=some x:=by rfl)(l:Loc X.env.scope x:=by first|exact Or.inl rfl|exact Or.inr rfl)
  (c:swapsWith e (some (.Name x p)) pos.line X.env=pure false:=by rfl) (f:X.fn x=true\/X.env.scope.names.lookup x=some .local:=by first|exact .inl rfl|exact .inr rfl):S X Γ (.Assign [.Name x p] e pos::rest) D:=by
 with_unfolding_all
  exact eO (eC (uQ j hi l he c f) fun o σ H ⟨H0,F,O,Z,n,_⟩=>⟨H0,F,O,Z,fun v H1 m k=>by
    obtain⟨g,d⟩:=Z.Fu (i:=i) (v:=v) m (fun q=>H q=none/\∃xs:Mt,H1 q=some (mo xs)) (fun q z=>z) (Bd.dpo a) True.intro (by
     refine Py.tr (fun q xs b nn=>?_) (fun q xs b=>aD.rt (au _ _) b) k;have:=(au _ _) _ _ nn.2
     exact⟨Mo.of this,⟨nn.1,xs,this⟩,this⟩)
    exact n _ _ _ _ d g h⟩)
variable{b':Bool}
def E.up[PyT α]{a:α}(h:E X Γ e b a):E X Γ e b' a:=by
 with_unfolding_all
  exact aN h fun σ H Q ⟨H0,F,O,S,q⟩=>⟨H0,F,O,S,fun v H' s r=>q v H' s (PyT.free (fun _ _ z=>z) r)⟩
def j8[PyT α]{a:α}(h:E X Γ e b a):E X Γ e b' a:=by
 with_unfolding_all
  exact E.up h
def Ht[PyT α]{xs:List α}{p:Pos}(j:Gl X "list")(i:X.mg "list"=none)(ha:E X Γ e b xs)(c:starEach [e] X.env=(false,eval e X.env)::starEach [] X.env:=by rfl):E X Γ (.Call (.Name "list" p) [e] [] pos) true xs:=by
 with_unfolding_all
  exact aN (tq lY j i Zi (aB ha bq c) (he:=c)) fun σ H Q ⟨H0,F,O,S,q⟩=>⟨H0,F,O,S,fun v H1 a k=>by
    obtain⟨p,vs,e,h,n,r⟩:=k;refine⟨p,vs,by rw[e],.inl ((au _ _).seq h),fun l g=>?_⟩;obtain⟨d,f⟩:=cL (xs:=vs) (S.go a) g
    exact q _ _ (a.trans d) ⟨l,vs,rfl,dX.of f,Nf.wk ((S.go a).gU g) f,bB (fun _ _ z=>PyT.free (fun _ _ t=>aD.rt (ah d) t) z) r⟩⟩
end
def nM{α β:Type}{g:β->α->β}{z:β}{us:List α}{i:Nat}{a:α}(h:us[i]?=some a):(us.take (i+1)).foldl g z=g ((us.take i).foldl g z) a:=by
 rw[W2,h,Z_];rfl
end L2.EP
namespace Q
variable{p k d r m x l e q s c A y f B u g v:Int}{L:List Int}{n i:Nat}
def mC(a b:Int):Int.gcd b (a.fmod b)=Int.gcd a b:=by
 rw[Int.fmod_def,aar a b];exact Int.gcd_sub_mul_left_right ..
def A5(a b:Int)(c:b≠0):(a.fmod b).natAbs<b.natAbs:=by
 rcases WB c with h|h
 .have e:=Int.neg_fmod_neg a b;have h':(0:Int) < -b:=by lia
  have h1:=Zj (-a) h';have h2:=ZS (-a) h';lia
 .have h1:=Zj a h;have h2:=ZS a h;lia
def fd(t b:Int):Int:=if b<0 then -(Int.gcd t b:Int) else (Int.gcd t b:Int)
def fr(t b:Int):Int×Int:=(t.fdiv (fd t b),b.fdiv (fd t b))
def wJ{t b:Int}(a:b≠0):fd t b≠0:=by
 have h:Int.gcd t b≠0:=by
  intro h;rw[ZL] at h;exact a h.2
 unfold fd;split<;>lia
def xX(t b:Int):fd t b∣t:=by
 unfold fd;split
 .exact(Int.neg_dvd).mpr (Xp ..)
 .exact Xp ..
def vA(t b:Int):fd t b∣b:=by
 unfold fd;split
 .exact(Int.neg_dvd).mpr (W3 ..)
 .exact W3 ..
def wx{a:Int}(h:d∣a):d*a.fdiv d=a:=by
 have e:=Int.mul_fdiv_cancel' h;exact e
def zy(t b:Int):fd t b*(fr t b).1=t:=wx (xX t b)
def vC(t b:Int):fd t b*(fr t b).2=b:=wx (vA t b)
def Dr(t b:Int):(fr t b).1*b=t*(fr t b).2:=by
 have h1:=zy t b;have h2:=vC t b;generalize (fr t b).1=x at *;generalize (fr t b).2=y at *;generalize fd t b=d at *;subst h1;subst h2;rw[<-VZ,V6 x d]
def Mc{t b:Int}(f:b≠0):1<=(fr t b).2:=by
 have h2:=vC t b;have c:=wJ (t:=t) f
 have e:fd t b<0↔b<0:=by
  unfold fd;have:0<=(Int.gcd t b:Int):=Int.natCast_nonneg _;unfold fd at c;split<;>split at c<;>lia
 generalize (fr t b).2=y at *;generalize fd t b=d at *;apply Int.not_lt.mp;intro g;have a:y<=0:=by lia
 rcases WB c with h|h
 .have:=Zd (XH h) a;have:=e.mp h;lia
 .have:=Wf (XH h) a;have:¬b<0:=fun q=>by have:=e.mpr q;lia
  lia
def Eb(t b:Int):(fd t b).natAbs=Int.gcd t b:=by
 unfold fd;split<;>lia
def KH{t b:Int}(f:b≠0):Int.gcd (fr t b).1 (fr t b).2=1:=by
 have h1:=zy t b;have h2:=vC t b;have g:=wJ (t:=t) f;have d:=Eb t b;have a:Int.gcd (fd t b*(fr t b).1) (fd t b*(fr t b).2)=(fd t b).natAbs*Int.gcd (fr t b).1 (fr t b).2:=Int.gcd_mul_left ..;rw[h1,h2,d] at a;have e:0<Int.gcd t b:=by lia
 have c:Int.gcd t b*1=Int.gcd t b*Int.gcd (fr t b).1 (fr t b).2:=by lia
 exact(Nat.eq_of_mul_eq_mul_left e c).symm
def Kc{t b:Int}(c:1<=b)(a:Int.gcd t b=1):fr t b=(t,b):=by
 have e:fd t b=1:=by unfold fd;rw[a,Vm (by lia)];rfl
 unfold fr;rw[e,Int.fdiv_one,Int.fdiv_one]
def G3{t b:Int}(a:b≠0):(fr t b).1.natAbs<=t.natAbs:=by
 have h1:=zy t b;have c:=wJ (t:=t) a;have h:t.natAbs=(fd t b).natAbs*(fr t b).1.natAbs:=by rw[<-VT,h1]
 rw[h];exact YD _ (by lia)
def Gz{t b:Int}(a:b≠0):(fr t b).2.natAbs<=b.natAbs:=by
 have h1:=vC t b;have c:=wJ (t:=t) a;have h:b.natAbs=(fd t b).natAbs*(fr t b).2.natAbs:=by rw[<-VT,h1]
 rw[h];exact YD _ (by lia)
def NA{t b:Int}(a:b≠0):(fd t b).natAbs<=b.natAbs:=by
 rw[Eb];exact ZZ (by lia) (WS.mpr (W3 t b))
def M6(u v:Int×Int):Int×Int:=fr (u.1*v.2) (u.2*v.1)
def O1(u:Int×Int):Prop:=1<=u.2/\Int.gcd u.1 u.2=1
def IG{t b:Int}(a:b≠0):O1 (fr t b):=⟨Mc a,KH a⟩
abbrev Fr:=Int×Int
def fZ(us:List Fr):Int:=us.foldl (fun b u=>(b*u.2).fdiv (Int.gcd b u.2:Nat)) 1
def xD{b:Int}(i:1<=b)(o:1<=c):1<=(b*c).fdiv (Int.gcd b c:Nat)/\b∣(b*c).fdiv (Int.gcd b c:Nat)/\c∣(b*c).fdiv (Int.gcd b c:Nat)/\(b*c).fdiv (Int.gcd b c:Nat)<=b*c:=by
 have n:0<Int.gcd b c:=by
  rcases Y4 (Int.gcd b c) with h|h
  .rw[ZL] at h;lia
  .exact h
 have j:((Int.gcd b c:Nat):Int)∣b:=Xp ..;have m:((Int.gcd b c:Nat):Int)∣c:=W3 ..;generalize Int.gcd b c=g at *;obtain⟨x,l⟩:=j;obtain⟨y,a⟩:=m
 have e:(b*c).fdiv (g:Int)=b*y:=by
  rw[a,<-VZ,V6 b (g:Int),VZ];rw[W5 _ (by lia)]
 have f:(1:Int)<=g:=by lia
 have k:1<=x:=by
  apply Int.not_lt.mp;intro h;have:(g:Int)*x<=0:=Wf (by lia) (by lia);lia
 have d:1<=y:=by
  apply Int.not_lt.mp;intro h;have:(g:Int)*y<=0:=Wf (by lia) (by lia);lia
 rw[e];refine⟨?_,⟨y,rfl⟩,⟨x,?_⟩,?_⟩
 .have:=We i d (by lia) (by lia);simpa using this
 .rw[l,a];grind
 .refine VB ?_ (by lia);rw[a];have:=Wm f (show 0<=y by lia);simpa using this
theorem CG:∀(us:List Fr) (b:Int),1<=b->(∀u∈us,1<=u.2)->1<=us.foldl (fun b u=>(b*u.2).fdiv (Int.gcd b u.2:Nat)) b/\b∣us.foldl (fun b u=>(b*u.2).fdiv (Int.gcd b u.2:Nat)) b/\∀u∈us,u.2∣us.foldl (fun b u=>(b*u.2).fdiv (Int.gcd b u.2:Nat)) b
 |[],b,c,_=>⟨c,Xv _,fun _ h=>by cases h⟩
 |u::us,b,c,h=>by
  obtain⟨k,i,j,_⟩:=xD c (h u VC);obtain⟨g,d,f⟩:=CG us _ k fun w a=>h w (Vw _ a);refine⟨g,V1 i d,fun w a=>?_⟩;rcases Vq.mp a with e|a
  .rw[e];exact V1 j d
  .exact f w a
def FV{us:List Fr}(h:∀u∈us,1<=u.2){u:Fr}(a:u∈us):u.2∣fZ us:=(CG us 1 (by decide) h).2.2 u a
def D9(us:List Fr):List Int×Int:=(us.map fun u=>u.1*(fZ us).fdiv u.2,fZ us)
def Bk{α β:Type}{xs:List α}{ys:List β}{p:α×β}(h:p∈xs.zip ys):p.1∈xs/\p.2∈ys:=Zv (a:=p.1) (b:=p.2) h
def getD_mem{α:Type}{l:List α}{d:α}(h:i<l.length):l.getD i d∈l:=by
 rw[VD,Vz h];exact XX h
def m_{α:Type}{P:α->Prop}(c:∀a b,P a->P b->a=b){a:α}(h:P a):a=@Classical.epsilon α ⟨a⟩ P :=
 c _ _ h (@Classical.epsilon_spec α P ⟨a,h⟩)
def ur:Nat->Nat
 |0=>0
 |n+1=>if (ur n+1)*(ur n+1)<=n+1 then ur n+1 else ur n
theorem DX:∀n,ur n*ur n<=n
 |0=>Vu _
 |n+1=>by
  have:=DX n;unfold ur;split<;>lia
theorem EH:∀n,n<(ur n+1)*(ur n+1)
 |0=>by decide
 |n+1=>by
  have h:=EH n;unfold ur;split
  .have:(ur n+1)*(ur n+1)<(ur n+1+1)*(ur n+1+1):=Nat.mul_lt_mul'' (by lia) (by lia);lia
  .lia
def rt(k:Int):Int:=(ur k.toNat:Int)
def iw(k:Int):0<=rt k:=by unfold rt;lia
def E5(h:0<=k):rt k*rt k<=k:=by
 have:=DX k.toNat;unfold rt;have e:((ur k.toNat*ur k.toNat:Nat):Int)<=((k.toNat:Nat):Int):=by lia
 rw[WN] at e;lia
def Je(h:0<=k):k<(rt k+1)*(rt k+1):=by
 have:=EH k.toNat;unfold rt;have e:((k.toNat:Nat):Int)<(((ur k.toNat+1)*(ur k.toNat+1):Nat):Int):=by lia
 rw[WN] at e;simp only[aaG,Int.natCast_one] at e;lia
def xa{a b:Int}(c:0<=a)(h:a*a<b*b)(d:0<=b):a<b:=by
 apply Vr;intro e;have:b*b<=a*a:=We (by lia) (by lia) d c;lia
def D6{a b:Int}(c:0<=a)(h:a<=b):a*a<=b*b:=We h h c (by lia)
def kc(d:0<=r)(h1:r*r<=k)(h2:k<(r+1)*(r+1)):r=rt k:=by
 have e:0<=k:=aas (Xe d d) h1;have a:=E5 e;have b:=Je e;have c:=iw k;have:=xa d (show r*r<(rt k+1)*(rt k+1) by lia) (by lia);have:=xa c (show rt k*rt k<(r+1)*(r+1) by lia) (by lia);lia
def xh(h:0<=k)(a:0<=d):d<rt k+1↔d*d<=k:=by
 constructor
 .intro z;exact aas (D6 a (by lia)) (E5 h)
 .intro z;exact xa a (by have:=Je h;lia) (by have:=iw k;lia)
def L0(c:0<=k)(a:0<r)(h:k<r*r):0<=(r+k.fdiv r).fdiv 2/\(r+k.fdiv r).fdiv 2<r/\k<((r+k.fdiv r).fdiv 2+1)*((r+k.fdiv r).fdiv 2+1):=by
 rw[Wd k (by lia),Wd _ (by decide)];have e:=Int.mul_ediv_add_emod k r;have i:=VV k (show r≠0 by lia);have m1:=VR k a;have g:0<=k/r:=YZ c (by lia);have q1:k/r<r:=aaS a h;generalize k/r=q at *;generalize k%r=m at *;have j:2*((r+q)/2)<=r+q:=by lia
 have b:r+q+1<=2*((r+q)/2)+2:=by lia
 refine⟨by lia,by lia,?_⟩;generalize (r+q)/2=n at *;have d:(r+q+1)*(r+q+1)<=(2*n+2)*(2*n+2):=D6 (by lia) b
 have f:0<=(r-(q+1))*(r-(q+1)):=by
  rcases aa4 0 (r-(q+1)) with z|z
  .exact Xe z z
  .exact Zd z z
 grind
def uo(k:Int):Prop:=∀d:Int,3<=d->d*d<=k->d%2=1->¬d∣k
open Classical in
def aR(k:Int):Bool:=decide (k=2\/(3<=k/\k%2=1/\uo k))
open Classical in
def bT:aR k=true↔k=2\/(3<=k/\k%2=1/\uo k):=by unfold aR;exact WJ
def ao(h:aR k=true):2<=k:=by rcases bT.mp h with h|h<;>lia
def xf(n:Nat)(m:Nat):Bool:=@Nat.rec (fun _=>Bool) true (fun i a=>cond (Nat.beq (n%(2*i+3)) 0) false a) m
theorem wt{n:Nat}:∀{m:Nat},xf n m=true->∀i,i<m->n%(2*i+3)≠0
 |0,_,i,hi=>absurd hi (Xu _)
 |m+1,h,i,hi=>by
  have h':cond (Nat.beq (n%(2*m+3)) 0) false (xf n m)=true:=h;cases a:Nat.beq (n%(2*m+3)) 0 with
  |true=>rw[a] at h';cases h'
  |false =>
   rw[a] at h';rcases aat.mp hi with z|z
   .exact wt h' i z
   .subst z;intro e;rw[e] at a;cases a
def yM{m:Nat}(h:xf n m=true)(k:n<(2*m+3)*(2*m+3)):uo (n:Int):=by
 intro d l g j b
 have i:d<(2*m+3:Int):=xa (by lia) (by
  have:(n:Int)<(((2*m+3)*(2*m+3):Nat):Int):=by lia
  rw[WN] at this;simp only[aaG,WN] at this
  exact Int.lt_of_le_of_lt g this) (by lia)
 have z:=wt h ((d.toNat-3)/2) (by lia);have e:2*((d.toNat-3)/2)+3=d.toNat:=by lia
 rw[e] at z;obtain⟨c,f⟩:=b;apply z
 have a:d.toNat∣n:=by
  have:(d.toNat:Int)∣(n:Int):=⟨c,by rw[f];congr 1;lia⟩;exact aaA.mp this
 exact Zk a
def iT{m:Nat}(h:xf n m=true)(b:3<=n)(c:n%2=1)(a:n<(2*m+3)*(2*m+3)):aR (n:Int)=true :=
 bT.mpr (.inr ⟨by lia,by lia,yM h a⟩)
def PB:Int:=1070000011
def rH:aR PB=true:=iT (n:=1070000011) (m:=16384) (by decide +kernel) (by decide) (by decide) (by decide)
def JB:Nat->Int->Int
 |0,k=>k
 |n+1,k=>if aR k then k else JB n (k+2)
def pf(k:Int):Int:=if k<3 then 2 else JB 1073741824 (k+1-k%2)
theorem qT:∀(n:Nat) (k p:Int),aR p=true->k<=p->(p-k)%2=0->p-k<=2*n->aR (JB n k)=true/\k<=JB n k/\JB n k<=p/\(JB n k-k)%2=0
 |0,k,p,hp,h1,h2,f=>by
  have:k=p:=by lia
  subst this;exact⟨hp,Wo _,Wo _,by unfold JB;lia⟩
 |n+1,k,p,hp,h1,h2,f=>by
  unfold JB;split
  .rename_i h;exact⟨h,Wo _,h1,by lia⟩
  .rename_i h;have e:k≠p:=by rintro rfl;exact h hp
   obtain⟨a,b,c,d⟩:=qT n (k+2) p hp (by lia) (by lia) (by lia);exact⟨a,by lia,c,by lia⟩
def aO:aR 2=true:=bT.mpr (.inl rfl)
def qG(h:k<=PB):aR (pf k)=true:=by
 unfold pf;split
 .exact aO
 .exact(qT _ _ PB rH (by unfold PB at *;lia) (by unfold PB at *;lia) (by unfold PB at *;lia)).1
def Nv(h:k<=PB):pf k<=PB:=by
 unfold pf;split
 .decide
 .exact(qT _ _ PB rH (by unfold PB at *;lia) (by unfold PB at *;lia) (by unfold PB at *;lia)).2.2.1
def qK(hp:aR p=true)(h:k<=p)(b:p%2=1)(c:p<=PB)(a:3<=k):pf k<=p:=by
 unfold pf;rw[Vm (by lia)];exact(qT _ _ p hp (by lia) (by lia) (by unfold PB at *;lia)).2.2.1
def zA(h:k<=PB)(e:3<=k):pf k%2=1/\k<=pf k:=by
 unfold pf;rw[Vm (by lia)];obtain⟨a,b,c,d⟩:=qT 1073741824 (k+1-k%2) PB rH (by unfold PB at *;lia) (by unfold PB at *;lia) (by unfold PB at *;lia);lia
def Cp(k b m:Int)(r:Option Int):Prop:=match r with
 |none=>∀d,b<=d->d<m->(d-b)%2=0->¬d∣k
 |some d=>b<=d/\d<m/\(d-b)%2=0/\d∣k/\∀d',b<=d'->d'<d->(d'-b)%2=0->¬d'∣k
def Cp.uniq{b:Int}:∀r a,Cp k b m r->Cp k b m a->r=a
 |none,none,_,_=>rfl
 |none,some d,h,h'=>absurd h'.2.2.2.1 (h d h'.1 h'.2.1 h'.2.2.1)
 |some d,none,h,h'=>absurd h.2.2.2.1 (h' d h.1 h.2.1 h.2.2.1)
 |some d,some d',h,h'=>by
  rcases X_ d d' with z|z|z
  .exact absurd h.2.2.2.1 (h'.2.2.2.2 d h.1 z h.2.2.1)
  .rw[z]
  .exact absurd h'.2.2.2.1 (h.2.2.2.2 d' h'.1 z h'.2.2.1)
theorem Cp.ex(k b m:Int):∀n:Nat,(∃d,Cp k b m (some d))\/∀d,b<=d->d<m->d<b+2*n->(d-b)%2=0->¬d∣k
 |0=>.inr fun d h1 h2 a=>by lia
 |n+1=>by
  rcases Cp.ex k b m n with h|h
  .exact .inl h
  .by_cases c:b+2*n<m/\(b+2*n:Int)∣k
   .exact .inl ⟨b+2*n,by lia,c.1,by lia,c.2,fun d' h1 h2 a=>h d' h1 (by lia) h2 a⟩
   .refine .inr fun d h1 h2 a g f=>?_;by_cases e:d=b+2*n
    .subst e;exact c ⟨h2,f⟩
    .exact h d h1 h2 (by lia) g f
def MY(k b m:Int):Option Int:=Classical.epsilon (Cp k b m)
def u9{b:Int}{r:Option Int}(h:Cp k b m r):r=MY k b m:=m_ Cp.uniq h
def yw(k b m:Int):Cp k b m (MY k b m):=by
 rcases Cp.ex k b m (m-b).toNat with⟨d,h⟩|h
 .rw[<-u9 h];exact h
 .have z:Cp k b m none:=fun d h1 h2 a=>h d h1 h2 (by lia) a;rw[<-u9 z];exact z
def oU(k b e:Int):Option Int:=MY k b (if rt k+1<e then rt k+1 else e)
def gu:k.fmod d=0↔d∣k:=⟨Int.dvd_of_fmod_eq_zero,Int.fmod_eq_zero_of_dvd⟩
def Iu(c:3<=k)(e:k%2=1):(oU k 3 k).isNone=aR k:=by
 have hz:=yw k 3 (if rt k+1<k then rt k+1 else k)
 have f:rt k+1<=k:=by
  have:=(xh (show 0<=k by lia) (show 0<=k by lia)).mp;apply Vr;intro h;have z:=this (by lia);have:3*k<=k*k:=We c (Wo k) (by lia) (by lia);lia
 have b:(if rt k+1<k then rt k+1 else k)=rt k+1:=by split<;>lia
 rw[b] at hz;unfold oU;rw[b];cases a:MY k 3 (rt k+1) with
 |none =>
  rw[a] at hz;symm;refine bT.mpr (.inr ⟨c,e,fun d h1 h2 g=>hz d h1 ((xh (by lia) (by lia)).mpr h2) (by lia)⟩)
 |some d =>
  rw[a] at hz;symm;show aR k=false;cases hp:aR k with
  |false=>rfl
  |true =>
   rcases bT.mp hp with z|⟨_,_,z⟩
   .lia
   .have h1:3<=d:=hz.1;exact absurd hz.2.2.2.1 (z d hz.1 ((xh (by lia) (by lia)).mp hz.2.1) (by have:=hz.2.2.1;lia))
def fk(hp:aR p=true)(o:0<d)(h:d∣p):d=1\/d=p:=by
 obtain⟨e,he⟩:=h;have m:=ao hp
 have j:0<e:=by
  apply Vr;intro g;have:d*e<=0:=Wf (by lia) (by lia);lia
 rcases bT.mp hp with h2|⟨q,n,i⟩
 .have:d<=2:=by
   have:=VN (show(0:Int)<2 by decide) (⟨e,by lia⟩:d∣2);lia
  lia
 .apply Vr;intro g;have k:d≠1:=fun z=>g (.inl z);have hd2:d≠p:=fun z=>g (.inr z);have l:e≠1:=by rintro rfl;lia
  have b:d%2=1:=by
   rcases Xj d with z|z
   .obtain⟨c,f⟩:=VL z;rw[f,VZ] at he;lia
   .exact z
  have a:e%2=1:=by
   rcases Xj e with z|z
   .obtain⟨c,f⟩:=VL z;rw[f,Int.mul_left_comm] at he;lia
   .exact z
  rcases aa4 d e with z|z
  .exact i d (by lia) (by rw[he];exact VB z (by lia)) b ⟨e,he⟩
  .exact i e (by lia) (by rw[he];exact Wm z (by lia)) a ⟨d,by rw[he,V6]⟩
def euclid{a b:Int}(hp:aR p=true)(h:p∣a*b):p∣a\/p∣b:=by
 have e:=ao hp
 have c:(0:Int)<(Int.gcd p a:Nat):=by
  have:=YM a (show p≠0 by lia);lia
 rcases fk hp c (Xp p a) with z|z
 .right
  have d:Nat.Coprime p.natAbs a.natAbs:=by
   show Nat.gcd p.natAbs a.natAbs=1;have:Int.gcd p a=1:=by lia
   exact this
  have:=WS.mpr h;rw[VT] at this;exact WS.mp (d.dvd_of_dvd_mul_left this)
 .left;rw[<-z];exact W3 p a
def uY{a b:Int}:a%m=b%m↔m∣a-b:=by
 rw[Int.emod_eq_emod_iff_emod_sub_eq_zero];exact⟨VL,Wr⟩
theorem iC(x m:Int):∀n:Nat,(x%m)^n%m=x^n%m
 |0=>by rw[V8,V8]
 |n+1=>by rw[VS,VS,WQ,iC x m n,Yc _ (Xv m),<-WQ]
def Fn{M:List Int}(g:M.Nodup)(c:∀x,x∈M->x∈L):∃b,L.Perm (M++b):=by
 induction M generalizing L with
 |nil=>exact⟨L,aaT _⟩
 |cons x M e =>
  have f:x∈L:=c x (VC ..);have a:=WL.mp g;obtain⟨b,h⟩:=e (L:=L.erase x) a.2 fun y d=>(Zy (by rintro rfl;exact a.1 d)).mpr (c y (Vw _ d));exact⟨b,(List.perm_cons_erase f).trans (List.Perm.cons x h)⟩
def c_:List Int->Int
 |[]=>1
 |x::l=>x*c_ l
def rB{l a:List Int}(h:l.Perm a):c_ l=c_ a:=by
 induction h with
 |nil=>rfl
 |cons x _ b=>show x*_=x*_;rw[b]
 |swap x y l=>show y*(x*_)=x*(y*_);rw[Int.mul_left_comm]
 |trans _ _ h1 h2=>exact h1.trans h2
theorem sT{p a:Int}:∀l:List Int,p∣c_ (l.map fun x=>a*x%p)-a^l.length*c_ l
 |[]=>⟨0,by simp[c_]⟩
 |x::l=>by
  obtain⟨c,b⟩:=sT (p:=p) (a:=a) l;have e:=Int.emod_def (a*x) p;have e1:c_ (List.map (fun x=>a*x%p) (x::l))=(a*x%p)*c_ (l.map fun x=>a*x%p):=rfl;have e2:c_ (x::l)=x*c_ l:=rfl;rw[e1,e2,Wl,VS];generalize c_ (l.map fun x=>a*x%p)=u at *;generalize a*x/p=q at *;generalize a*x%p=r at *;generalize a^l.length=t at *;generalize c_ l=v at *;have d:u=t*v+p*c:=by lia
  exact⟨a*x*c-q*u,by rw[e];grind⟩
theorem g5{p:Int}(hp:aR p=true):∀l:List Int,(∀x,x∈l->¬p∣x)->¬p∣c_ l
 |[],_=>fun h=>by
  have:=ao hp;have:=VN (by decide) (show p∣(1:Int) from h);lia
 |x::l,a=>fun h=>by
  rcases euclid hp (show p∣x*c_ l from h) with z|z
  .exact a x (VC ..) z
  .exact g5 hp l (fun y b=>a y (Vw _ b)) z
def bV(h:p∣x)(h1:-p<x)(h2:x<p):x=0:=by
 obtain⟨c,rfl⟩:=h;have hp:0<p:=by lia
 by_cases a:c=0
 .rw[a,Wg]
 .rcases WB a with z|z
  .have:p*c<=p*(-1):=VB (by lia) (by lia);lia
  .have:p*1<=p*c:=VB (by lia) (by lia);lia
def Fv{a:Int}(hp:aR p=true)(ha:¬p∣a):p∣a^(p-1).toNat-1:=by
 have t:=ao hp;let L:List Int:=(List.range (p-1).toNat).map fun i:Nat=>(i:Int)+1
 have k:∀x,x∈L↔1<=x/\x<p:=by
  intro x;simp only[L,VG,Wz];constructor
  .rintro⟨i,h,rfl⟩;lia
  .rintro⟨h1,h2⟩;exact⟨(x-1).toNat,by lia,by lia⟩
 have l:L.Nodup:=by
  refine YG.mpr (XI ?_ (Zo (n:=(p-1).toNat)));intro i j _ _ s;lia
 have d:L.length=(p-1).toNat:=by simp[L]
 clear_value L
 have e:∀x,x∈L->¬p∣x:=fun x f r=>by
  have:=(k x).mp f;have:=bV r (by lia) (by lia);lia
 have w:(L.map fun x=>a*x%p).Nodup:=by
  refine YG.mpr (XI ?_ l);intro x y f m u he;have h1:p∣a*(x-y):=by rw[X1];exact uY.mp he
  rcases euclid hp h1 with z|z
  .exact ha z
  .have:=(k x).mp f;have:=(k y).mp m;have:=bV z (by lia) (by lia);lia
 have q:∀x,x∈(L.map fun x=>a*x%p)->x∈L:=by
  intro y m;obtain⟨x,f,rfl⟩:=VG.mp m;have A:=VV (a*x) (show p≠0 by lia);have h1:=VR (a*x) (show 0<p by lia);refine(k _).mpr ⟨?_,h1⟩;apply Vr;intro C;have hz:a*x%p=0:=by lia
  rcases euclid hp (VL hz) with z|z
  .exact ha z
  .exact e x f z
 obtain⟨v,b⟩:=Fn w q
 have o:v=[]:=by
  have:=b.length_eq;rw[V5,Vx] at this;exact YF (by lia)
 rw[o,Yu] at b;have g:=sT (p:=p) (a:=a) L;rw[<-rB b,d] at g
 have h2:p∣(a^(p-1).toNat-1)*c_ L:=by
  obtain⟨c,B⟩:=g;exact⟨-c,by rw[Int.sub_mul,Wq,aaM];lia⟩
 rcases euclid hp h2 with z|z
 .exact z
 .exact absurd z (g5 hp L e)
def Oz{a:Int}(hp:aR p=true)(h2:p≠2)(ha:¬p∣a):p∣a^((p-1)/2).toNat-1\/p∣a^((p-1)/2).toNat+1:=by
 have d:p%2=1:=by rcases bT.mp hp with z|z<;>lia
 have c:=ao hp;have b:=Fv hp ha;rw[show(p-1).toNat=((p-1)/2).toNat+((p-1)/2).toNat by lia,WK] at b;generalize a^((p-1)/2).toNat=y at *;exact euclid hp (show p∣(y-1)*(y+1) by rw[show(y-1)*(y+1)=y*y-1 by grind];exact b)
def bf(k p:Int):Int:=if k%p=0 then 0 else if p=2 then 1 else if (k%p)^((p-1)/2).toNat%p=1 then 1 else -1
def dw(h:p∣k):bf k p=0:=Vo (Wr h)
def ui(k p:Int):bf (k%p) p=bf k p:=by unfold bf;rw[Yc _ (Xv p)]
def lS(h:k%p=l%p):bf k p=bf l p:=by unfold bf;rw[h]
def dY(hp:aR p=true)(h2:p≠2)(a:¬p∣k):bf k p=1↔p∣k^((p-1)/2).toNat-1:=by
 have b:=ao hp;unfold bf;rw[Vm (fun z=>a (VL z)),Vm h2,iC,<-uY,XN (show(0:Int)<=1 by decide) (show(1:Int)<p by lia)];split
 .rename_i h;exact⟨fun _=>h,fun _=>rfl⟩
 .rename_i h;exact⟨fun z=>absurd z (by decide),fun z=>absurd z h⟩
def bO(a:¬p∣k):bf k p=1\/bf k p=-1:=by
 unfold bf;rw[Vm (fun z=>a (VL z))];split
 .exact .inl rfl
 .split
  .exact .inl rfl
  .exact .inr rfl
def fv(hp:aR p=true)(h2:p≠2)(a:¬p∣k):bf k p=-1↔p∣k^((p-1)/2).toNat+1:=by
 have g:=ao hp;have e:=dY hp h2 a;rcases Oz hp h2 a with z|z
 .rw[e.mpr z];refine⟨fun w=>absurd w (by decide),fun w=>?_⟩
  have:p∣2:=by
   obtain⟨c,b⟩:=z;obtain⟨d,f⟩:=w;exact⟨d-c,by rw[X1];lia⟩
  have:=VN (by decide) this;lia
 .refine⟨fun _=>z,fun _=>?_⟩;rcases bO a with w|w
  .have:p∣2:=by
    obtain⟨c,b⟩:=e.mp w;obtain⟨d,f⟩:=z;exact⟨d-c,by rw[X1];lia⟩
   have:=VN (by decide) this;lia
  .exact w
def dE(hp:aR p=true)(a b:Int):bf (a*b) p=bf a p*bf b p:=by
 have o:=ao hp;by_cases ha:p∣a
 .rw[dw ha,Y5,dw (V1 ha ⟨b,rfl⟩)]
 by_cases g:p∣b
 .rw[dw g,Wg,dw (V1 g ⟨a,V6 ..⟩)]
 have f:¬p∣a*b:=fun z=>by rcases euclid hp z with z|z<;>contradiction
 by_cases h2:p=2
 .subst h2;have e:∀k:Int,¬(2:Int)∣k->bf k 2=1:=fun k n=>by unfold bf;rw[Vm (fun z=>n (VL z)),Vo rfl]
  rw[e _ ha,e _ g,e _ f];rfl
 have j:(a*b)^((p-1)/2).toNat=a^((p-1)/2).toNat*b^((p-1)/2).toNat:=ZR ..;rcases bO ha with h|h<;>rcases bO g with i|i<;>rw[h,i]
 .refine(dY hp h2 f).mpr ?_;obtain⟨c,m⟩:=(dY hp h2 ha).mp h;obtain⟨d,l⟩:=(dY hp h2 g).mp i;rw[j];exact⟨c*d*p+c+d,by grind⟩
 .refine(fv hp h2 f).mpr ?_;obtain⟨c,m⟩:=(dY hp h2 ha).mp h;obtain⟨d,l⟩:=(fv hp h2 g).mp i;rw[j];exact⟨c*d*p-c+d,by grind⟩
 .refine(fv hp h2 f).mpr ?_;obtain⟨c,m⟩:=(fv hp h2 ha).mp h;obtain⟨d,l⟩:=(dY hp h2 g).mp i;rw[j];exact⟨c*d*p+c-d,by grind⟩
 .refine(dY hp h2 f).mpr ?_;obtain⟨c,m⟩:=(fv hp h2 ha).mp h;obtain⟨d,l⟩:=(fv hp h2 g).mp i;rw[j];exact⟨c*d*p-c-d,by grind⟩
def x8(k d:Int)(r:Int×Int):Prop:=0<=r.1/\k=r.2*d^r.1.toNat/\¬d∣r.2
def x8.lt(f:2<=d){r a:Int×Int}(h:x8 k d r)(h':x8 k d a)(i:r.1<a.1):False:=by
 obtain⟨g,c,b⟩:=h;obtain⟨b1,b2,b3⟩:=h';have e:a.1.toNat=(a.1.toNat-r.1.toNat-1)+1+r.1.toNat:=by lia
 rw[e,WK,VS] at b2;have hp:d^r.1.toNat≠0:=Int.pow_ne_zero (by lia);have z:r.2*d^r.1.toNat=(a.2*d^(a.1.toNat-r.1.toNat-1)*d)*d^r.1.toNat:=by rw[<-c,b2];grind
 have w:=Z0 hp z;exact b ⟨a.2*d^(a.1.toNat-r.1.toNat-1),by rw[w,V6]⟩
def x8.uniq(b:2<=d)(r a:Int×Int)(h:x8 k d r)(h':x8 k d a):r=a:=by
 have h1:r.1=a.1:=by
  rcases X_ r.1 a.1 with z|z|z
  .exact(x8.lt b h h' z).elim
  .exact z
  .exact(x8.lt b h' h z).elim
 have hp:d^r.1.toNat≠0:=Int.pow_ne_zero (by lia)
 have h2:r.2=a.2:=by
  have:=h.2.1.symm.trans h'.2.1;rw[<-h1] at this;exact Z0 hp this
 exact aap h1 h2
theorem x8.ex{d:Int}(f:2<=d):∀(n:Nat) (k:Int),k≠0->k.natAbs<=n->∃r,x8 k d r
 |0,k,e,i=>by lia
 |n+1,k,e,i=>by
  by_cases h:d∣k
  .obtain⟨c,a⟩:=h;have b:c≠0:=by rintro rfl;rw[Wg] at a;exact e a
   have g:c.natAbs<k.natAbs:=by
    rw[a,VT];have:2*c.natAbs<=d.natAbs*c.natAbs:=Yd _ (by lia);lia
   obtain⟨r,h1,h2,j⟩:=x8.ex f n c b (by lia);refine⟨(r.1+1,r.2),by dsimp only;lia,?_,j⟩;dsimp only;rw[show(r.1+1).toNat=r.1.toNat+1 by lia,VS,a];rw[show d*c=d*(r.2*d^r.1.toNat) by rw[<-h2]];grind
  .exact⟨(0,k),Wo 0,by dsimp only;rw[show(0:Int).toNat=0 from rfl,V8,VX],h⟩
def aV(k d:Int):Int×Int:=Classical.epsilon (x8 k d)
def jF(a:2<=d){r:Int×Int}(h:x8 k d r):aV k d=r:=(m_ (x8.uniq a) h).symm
def eB(b:2<=d)(h:k≠0):x8 k d (aV k d):=by
 obtain⟨r,a⟩:=x8.ex b k.natAbs k h (Vu _);rw[jF b a];exact a
def ma{v:Nat}(a:2<=d)(h:¬d∣k):aV (k*d^v) d=((v:Int),k) :=
 jF a ⟨by dsimp only;lia,by dsimp only;rw[Int.toNat_natCast],h⟩
def Ak{a b:Int}(hp:aR p=true)(ha:a≠0)(e:b≠0):aV (a*b) p=((aV a p).1+(aV b p).1,(aV a p).2*(aV b p).2):=by
 have c:=ao hp;obtain⟨g,d,f⟩:=eB c ha;obtain⟨b1,b2,b3⟩:=eB c e;refine jF c ⟨by dsimp only;lia,?_,fun z=>by rcases euclid hp z with w|w<;>contradiction⟩;dsimp only;rw[show((aV a p).1+(aV b p).1).toNat=(aV a p).1.toNat+(aV b p).1.toNat by lia,WK];generalize (aV a p).1.toNat=m at *;generalize (aV b p).1.toNat=n at *;generalize (aV a p).2=u at *;generalize (aV b p).2=v at *;rw[d,b2];generalize p^m=x;generalize p^n=y;grind
def EO(f:2<=d)(h:d∣k)(b:k≠0):k.fdiv d*d=k/\k.fdiv d≠0/\(k.fdiv d).natAbs<k.natAbs:=by
 obtain⟨c,rfl⟩:=h;have e:(d*c).fdiv d=c:=W5 c (by lia);rw[e];have a:c≠0:=by rintro rfl;simp at b
 refine⟨V6 ..,a,?_⟩;rw[VT];have:2*c.natAbs<=d.natAbs*c.natAbs:=Yd _ (by lia);lia
def cls(k p:Int):Int×Int:=((aV k p).1%2,if p=2 then (aV k p).2%8 else bf (aV k p).2 p)
def b1(c:Bool):Int:=if c then 1 else 0
def eT(x y:Int×Int):Bool:=decide ((b1 (decide (x.2%4=3)&&decide (y.2%4=3))+b1 (decide (x.1=1)&&(decide (y.2=3) || decide (y.2=5)))+b1 (decide (y.1=1)&&(decide (x.2=3) || decide (x.2=5))))%2=0)
def Ck(x y:Int×Int)(p:Int):Bool:=decide ((if x.1=1 then y.2 else 1)*(if y.1=1 then x.2 else 1)*(if x.1=1/\y.1=1 then bf (-1) p else 1)=1)
def ay(a b p:Int):Bool:=if p=0 then decide (0<a) || decide (0<b) else if p=2 then eT (cls a p) (cls b p) else Ck (cls a p) (cls b p) p
def a7(x y:Int×Int)(p:Int):Int×Int:=((x.1+y.1)%2,if p=2 then x.2*y.2%8 else x.2*y.2)
def aK{a b:Int}(hp:aR p=true)(ha:a≠0)(c:b≠0):cls (a*b) p=a7 (cls a p) (cls b p) p:=by
 unfold cls a7;rw[Ak hp ha c];dsimp only;by_cases h:p=2
 .rw[Vo h,Vo h,Vo h,Vo h];exact aap (by dsimp only;lia) (WQ ..)
 .rw[Vm h,Vm h,Vm h,Vm h];exact aap (by dsimp only;lia) (dE hp ..)
def CO:List (Int×Int):=[(0,1),(0,-1),(1,1),(1,-1)]
def C2:List (Int×Int):=[(0,1),(0,3),(0,5),(0,7),(1,1),(1,3),(1,5),(1,7)]
def cc{a:Int}(hp:2<=p)(h2:p≠2)(ha:a≠0):cls a p∈CO:=by
 obtain⟨_,_,b⟩:=eB hp ha;unfold cls;rw[Vm h2];rcases Xj (aV a p).1 with z|z<;>rcases bO b with w|w<;>rw[z,w]<;>decide
def cH{a:Int}(ha:a≠0):cls a 2∈C2:=by
 obtain⟨_,_,b⟩:=eB (d:=2) (by decide) ha;have h':(aV a 2).2%2≠0:=fun z=>b (VL z);have:(aV a 2).2%8=1\/(aV a 2).2%8=3\/(aV a 2).2%8=5\/(aV a 2).2%8=7:=by lia
 unfold cls;rw[Vo rfl];rcases Xj (aV a 2).1 with z|z<;>rcases this with w|w|w|w<;>rw[z,w]<;>decide
def rS(hp:2<=p):bf (-1) p∈[(1:Int),-1]:=by
 have:¬p∣-1:=fun z=>by
  have:=VN (by decide) ((WX).mp z);lia
 rcases bO this with w|w<;>rw[w]<;>decide
def kG(x y:Int×Int)(m:Int):Bool:=decide ((if x.1=1 then y.2 else 1)*(if y.1=1 then x.2 else 1)*(if x.1=1/\y.1=1 then m else 1)=1)
def Kx(x y:Int×Int)(p:Int):Ck x y p=kG x y (bf (-1) p):=rfl
def MV:∀x∈CO,∀y∈CO,∀m∈[(1:Int),-1],kG x y m=kG y x m:=by decide
def LM:∀x∈C2,∀y∈C2,eT x y=eT y x:=by decide
def Oy:∀x∈CO,∀y∈CO,∀z∈CO,∀m∈[(1:Int),-1],kG x (a7 y z 3) m=(kG x y m==kG x z m):=by decide +kernel
def Ke:∀x∈C2,∀y∈C2,∀z∈C2,eT x (a7 y z 2)=(eT x y==eT x z):=by decide +kernel
def Pw:∀x∈CO,∀y∈CO,a7 (a7 x y 3) y 3=x:=by decide
def NU:∀x∈C2,∀y∈C2,a7 (a7 x y 2) y 2=x:=by decide
def Nw:∀x∈CO,∀m∈[(1:Int),-1],kG x (a7 (0,m) x 3) m=true:=by decide
def Mk:∀x∈C2,eT x (a7 (0,7) x 2)=true:=by decide
def Jh:∀x∈CO,∀y∈CO,∀m∈[(1:Int),-1],kG x (a7 y y 3) m=true:=by decide
def C4:∀x∈C2,∀y∈C2,eT x (a7 y y 2)=true:=by decide
def bK{x y:Int×Int}(h:p≠2):a7 x y p=a7 x y 3:=by unfold a7;rw[Vm h,Vm (by decide)]
def Pl(p:Int):Prop:=p=0\/aR p=true
def aM{a b:Int}:ay a b 0=(decide (0<a) || decide (0<b)):=Vo rfl
def aU{a b:Int}:ay a b 2=eT (cls a 2) (cls b 2):=by unfold ay;rw[Vm (by decide),Vo rfl]
def aY{a b:Int}(c:p≠0)(h2:p≠2):ay a b p=kG (cls a p) (cls b p) (bf (-1) p):=by unfold ay;rw[Vm c,Vm h2,Kx]
def Pl.cases(h:Pl p){Q:Prop}(a:p=0->Q)(h2:p=2->Q)(b:aR p=true->p≠2->p≠0->2<=p->Q):Q:=by
 rcases h with z|z
 .exact a z
 .have:=ao z;by_cases w:p=2
  .exact h2 w
  .exact b z w (by lia) this
def bA{a b:Int}(h:Pl p)(ha:a≠0)(e:b≠0):ay b a p=ay a b p:=by
 refine h.cases (fun z=>?_) (fun z=>?_) (fun hp h2 d c=>?_)
 .subst z;rw[aM,aM,Bool.or_comm]
 .subst z;rw[aU,aU];exact LM _ (cH e) _ (cH ha)
 .rw[aY d h2,aY d h2];exact MV _ (cc c h2 e) _ (cc c h2 ha) _ (rS c)
def dU{b:Int}(d:b≠0)(a:c≠0):0<b*c↔(0<b↔0<c):=by
 rcases WB d with z|z<;>rcases WB a with w|w
 .have:=XE z w;constructor<;>intro<;>lia
 .have:=Xk z w;constructor<;>intro<;>lia
 .have:=Y0 z w;constructor<;>intro<;>lia
 .have:=Wj z w;constructor<;>intro<;>lia
def cY{a b:Int}(h:Pl p)(ha:a≠0)(e:b≠0)(d:c≠0):ay a (b*c) p=(ay a b p==ay a c p):=by
 refine h.cases (fun z=>?_) (fun z=>?_) (fun hp h2 g f=>?_)
 .subst z;rw[aM,aM,aM];have:=dU e d;by_cases w:0<a
  .simp[w]
  .by_cases x:0<b<;>by_cases y:0<c<;>simp[w,x,y,this]
 .subst z;rw[aU,aU,aU,aK aO e d];exact Ke _ (cH ha) _ (cH e) _ (cH d)
 .rw[aY g h2,aY g h2,aY g h2,aK hp e d,bK h2];exact Oy _ (cc f h2 ha) _ (cc f h2 e) _ (cc f h2 d) _ (rS f)
def qM{a:Int}(hp:aR p=true)(ha:a≠0)(b:r≠0):cls (a*r*r) p=cls a p:=by
 rw[aK hp (Vn ha b) b,aK hp ha b];have c:=ao hp;by_cases h2:p=2
 .subst h2;exact NU _ (cH ha) _ (cH b)
 .rw[bK h2,bK h2];exact Pw _ (cc c h2 ha) _ (cc c h2 b)
def mK{a b:Int}(h:Pl p)(ha:a≠0)(c:r≠0):ay (a*r*r) b p=ay a b p:=by
 refine h.cases (fun z=>?_) (fun z=>?_) (fun hp h2 d f=>?_)
 .subst z;rw[aM,aM]
  have e:0<a*r*r↔0<a:=by
   rw[VZ,dU ha (Vn c c)];have:0<r*r:=(dU c c).mpr Iff.rfl;constructor
   .intro z;exact z.mpr this
   .intro z;exact⟨fun _=>this,fun _=>z⟩
  rw[aam.mpr e]
 .subst z;rw[aU,aU,qM aO ha c]
 .rw[aY d h2,aY d h2,qM hp ha c]
def rg(hp:aR p=true):cls (-1) p=(0,if p=2 then 7 else bf (-1) p):=by
 have b:=ao hp
 have a:¬p∣-1:=fun z=>by
  have:=VN (by decide) ((WX).mp z);lia
 have e:aV (-1) p=(0,-1):=jF b ⟨Wo 0,by dsimp only;rw[show(0:Int).toNat=0 from rfl,V8,VX],a⟩;unfold cls;rw[e];rfl
def rM{a:Int}(h:Pl p)(ha:a≠0):ay a (0-a) p=true:=by
 have c:0-a=-1*a:=by lia
 refine h.cases (fun z=>?_) (fun z=>?_) (fun hp h2 d b=>?_)
 .subst z;rw[aM];simp;lia
 .subst z;rw[aU,c,aK aO (by decide) ha,rg aO,Vo rfl];exact Mk _ (cH ha)
 .rw[aY d h2,c,aK hp (by decide) ha,rg hp,Vm h2,bK h2];exact Nw _ (cc b h2 ha) _ (rS b)
def rO{a:Int}(h:Pl p)(ha:a≠0)(b:r≠0):ay a (r*r) p=true:=by
 refine h.cases (fun z=>?_) (fun z=>?_) (fun hp h2 d c=>?_)
 .subst z;rw[aM];have:0<r*r:=(dU b b).mpr Iff.rfl;simp[this]
 .subst z;rw[aU,aK aO b b];exact C4 _ (cH ha) _ (cH b)
 .rw[aY d h2,aK hp b b,bK h2];exact Jh _ (cc c h2 ha) _ (cc c h2 b) _ (rS c)
def mh{a:Int}(hp:2<=p)(h:¬p∣a):aV a p=(0,a) :=
 jF hp ⟨Wo 0,by dsimp only;rw[show(0:Int).toNat=0 from rfl,V8,VX],h⟩
def iI{a b:Int}(hp:aR p=true)(h2:p≠2)(ha:¬p∣a)(d:¬p∣b):ay a b p=true:=by
 have c:=ao hp;rw[aY (by lia) h2];unfold cls;rw[mh c ha,mh c d];rfl
def lB{a:Int}(hp:aR p=true)(h2:p≠2)(h:p∣a-1):bf a p=1:=by
 have b:=ao hp;rw[lS (l:=1) (uY.mpr h)];unfold bf;rw[XN (by decide) (by lia),Vm (by decide),Vm h2,Int.one_pow,XN (by decide) (by lia),Vo rfl]
def Bn(e:Int):Nat->List (Int×Int)->Int->Int->List (Int×Int)×Int
 |0,fs,l,_=>(fs,l)
 |n+1,fs,l,b=>match oU l b e with
  |none=>(fs,l)
  |some d=>Bn e n (fs++[(d,(aV l d).1)]) (aV l d).2 (d+2)
def xH(k:Int):List (Int×Int):=if 0<(aV k 2).1 then [(2,(aV k 2).1)] else []
def bj(k e:Int):List (Int×Int)×Int:=Bn e k.toNat (xH k) (aV k 2).2 3
def jA{b:Int}(j:0<=l)(k:1<=b)(h:oU l b e=some d):b<=d/\d<e/\d*d<=l/\(d-b)%2=0/\d∣l/\∀d',b<=d'->d'<d->(d'-b)%2=0->¬d'∣l:=by
 have z:=yw l b (if rt l+1<e then rt l+1 else e);unfold oU at h;rw[h] at z;obtain⟨a,i,f,c,g⟩:=z;have h1:d<rt l+1/\d<e:=by split at i<;>lia
 exact⟨a,h1.2,(xh j (by lia)).mp h1.1,f,c,g⟩
def xx{b:Int}(f:0<=l)(g:1<=b)(h:oU l b e=none):∀d,b<=d->d<e->d*d<=l->(d-b)%2=0->¬d∣l:=by
 have z:=yw l b (if rt l+1<e then rt l+1 else e);unfold oU at h;rw[h] at z;intro d h1 h2 c a;have:=(xh f (by lia)).mpr c;exact z d h1 (by split<;>lia) a
def vF(b:2<=d)(i:0<l)(h:d∣l):0<(aV l d).2/\2*(aV l d).2<=l/\1<=(aV l d).1/\(aV l d).2∣l:=by
 obtain⟨h1,h2,g⟩:=eB b (show l≠0 by lia)
 have a:1<=(aV l d).1:=by
  apply Vr;intro f;have e:(aV l d).1.toNat=0:=by lia
  rw[e,V8,VX] at h2;exact g (h2▸h)
 have hp:(2:Int)<=d^(aV l d).1.toNat:=by
  have e:(aV l d).1.toNat=((aV l d).1.toNat-1)+1:=by lia
  rw[e,VS];have:(0:Int)<d^((aV l d).1.toNat-1):=Ws (by lia);have:1*2<=d^((aV l d).1.toNat-1)*d:=We (by lia) b (by decide) (by lia);lia
 generalize (aV l d).2=x at *;generalize d^(aV l d).1.toNat=t at *
 have c:0<x:=by
  apply Vr;intro f;have:x*t<=0:=Ya (by lia) (by lia);lia
 have:x*2<=x*t:=VB hp (by lia);exact⟨c,by lia,a,⟨t,h2⟩⟩
def pp:List (Int×Int)->Int
 |[]=>1
 |u::us=>u.1^u.2.toNat*pp us
theorem pQ(u:Int×Int):∀us,pp (us++[u])=pp us*u.1^u.2.toNat
 |[]=>by show _*1=1*_;rw[VX,Wq]
 |v::us=>by
  show v.1^v.2.toNat*pp (us++[u])=v.1^v.2.toNat*pp us*_;rw[pQ u us,VZ]
def fM:Int->List (Int×Int)->Int->Prop
 |a,[],b=>a<b
 |a,u::us,b=>a<u.1/\aR u.1=true/\1<=u.2/\fM u.1 us b
theorem fM.snoc{b b':Int}{u:Int×Int}(d:aR u.1=true)(h1:1<=u.2)(e:b<=u.1)(c:u.1<b'):∀{a us},fM a us b->fM a (us++[u]) b'
 |_,[],h=>⟨Int.lt_of_lt_of_le h e,d,h1,c⟩
 |_,_::_,h=>⟨h.1,h.2.1,h.2.2.1,fM.snoc d h1 e c h.2.2.2⟩
structure yB(k:Int)(fs:List (Int×Int))(l b:Int):Prop where
 rise:fM 1 fs b
 prod:pp fs*l=k
 pos:0<l
 odd:l%2=1
 b3:3<=b
 bo:b%2=1
 free:∀d,3<=d->d<b->d%2=1->¬d∣l
def yB.prime{fs:List (Int×Int)}{b:Int}(I:yB k fs l b)(h:oU l b e=some d):aR d=true:=by
 obtain⟨h1,h2,s,r,n,o⟩:=jA (XH I.pos) (by have:=I.b3;lia) h;have q:=I.b3;have m:=I.bo;refine bT.mpr (.inr ⟨by lia,by lia,fun f g p j i=>?_⟩);have a:f∣l:=V1 i n
 have c:f<d:=by
  have:f*3<=f*f:=VB g (by lia);lia
 rcases W6 f b with z|z
 .exact I.free f g z j a
 .exact o f z c (by lia) a
def yB.step{fs:List (Int×Int)}{b:Int}(I:yB k fs l b)(h:oU l b e=some d):yB k (fs++[(d,(aV l d).1)]) (aV l d).2 (d+2):=by
 obtain⟨h1,h2,D,C,s,v⟩:=jA (XH I.pos) (by have:=I.b3;lia) h;have B:=I.b3;have q:=I.bo;obtain⟨j,x,u,i⟩:=vF (show 2<=d by lia) I.pos s;obtain⟨E,p,t⟩:=eB (show 2<=d by lia) (show l≠0 by have:=I.pos;lia);refine⟨I.rise.snoc (I.prime h) u h1 (by lia),?_,j,?_,by lia,by lia,fun f n w m g=>?_⟩
 .rw[pQ,VZ,V6 (d^_),<-p,I.prod]
 .have A:=I.odd;obtain⟨c,r⟩:=i;rcases Xj (aV l d).2 with z|z
  .obtain⟨y,o⟩:=VL z;rw[o,VZ] at r;lia
  .exact z
 .have a:f∣l:=V1 g i;rcases X_ f d with z|z|z
  .rcases W6 f b with y|y
   .exact I.free f n y m a
   .exact v f y z (by lia) a
  .rw[z] at g;exact t g
  .lia
theorem Eo{k e:Int}:∀(n:Nat) (fs:List (Int×Int)) (l b:Int),yB k fs l b->l<=n->∃b',yB k (Bn e n fs l b).1 (Bn e n fs l b).2 b'/\oU (Bn e n fs l b).2 b' e=none
 |0,fs,l,b,I,h=>by have:=I.pos;lia
 |n+1,fs,l,b,I,h=>by
  unfold Bn;cases a:oU l b e with
  |none=>exact⟨b,I,a⟩
  |some d =>
   obtain⟨h1,h2,m,j,c,p⟩:=jA (XH I.pos) (by have:=I.b3;lia) a;obtain⟨f,g,o,i⟩:=vF (show 2<=d by have:=I.b3;lia) I.pos c;exact Eo n _ _ _ (I.step a) (by lia)
def nB(h:1<=k):yB k (xH k) (aV k 2).2 3/\(aV k 2).2<=k:=by
 obtain⟨j,c,i⟩:=eB (show(2:Int)<=2 by decide) (show k≠0 by lia);have a:(aV k 2).2%2=1:=by lia
 have hp:(0:Int)<2^(aV k 2).1.toNat:=Ws (by decide)
 have b:0<(aV k 2).2:=by
  apply Vr;intro g;have:(aV k 2).2*2^(aV k 2).1.toNat<=0:=Ya (by lia) (by lia);lia
 have f:(aV k 2).2<=k:=by
  have:(aV k 2).2*1<=(aV k 2).2*2^(aV k 2).1.toNat:=VB (by lia) (by lia);lia
 refine⟨⟨?_,?_,b,a,by decide,by decide,fun d h1 h2=>by lia⟩,f⟩
 .unfold xH;split
  .exact⟨by show(1:Int)<2;decide,aO,by dsimp only;lia,by show(2:Int)<3;decide⟩
  .show(1:Int)<3;decide
 .unfold xH;split
  .show(2^(aV k 2).1.toNat*1)*_=k;rw[VX,V6];exact c.symm
  .have e:(aV k 2).1.toNat=0:=by lia
   rw[e,V8,VX] at c;show 1*_=k;rw[Wq];exact c.symm
def kh(a:1<=k):∃b,yB k (bj k e).1 (bj k e).2 b/\oU (bj k e).2 b e=none:=by
 obtain⟨I,h⟩:=nB a;exact Eo k.toNat _ _ 3 I (by lia)
def nR(k:Int):List (Int×Int):=(bj k (k+1)).1++(if 1<(bj k (k+1)).2 then [((bj k (k+1)).2,1)] else [])
theorem iX:∀{us:List (Int×Int)} {a b:Int},0<=a->fM a us b->0<pp us
 |[],_,_,_,_=>by show(0:Int)<1;decide
 |u::us,a,b,ha,h=>Wj (Ws (by have:=h.1;lia)) (iX (by have:=h.1;lia) h.2.2.2)
def nJ(m:1<=k):(∃b,fM 1 (nR k) b)/\pp (nR k)=k:=by
 obtain⟨b,I,o⟩:=kh (e:=k+1) m
 have l:(bj k (k+1)).2<=k:=by
  have h1:=I.prod;have h2:=iX (by decide) I.rise;have q:=I.pos;have:1*(bj k (k+1)).2<=pp (bj k (k+1)).1*(bj k (k+1)).2:=Wm (by lia) (by lia);lia
 unfold nR;generalize bj k (k+1)=r at *;split
 .rename_i s;have a:=I.odd;have p:=I.b3;have n:=I.bo
  have c:b<=r.2:=by
   rcases W6 r.2 b with z|z
   .exact absurd (Xv r.2) (I.free r.2 (by lia) z a)
   .exact z
  have d:aR r.2=true:=by
   refine bT.mpr (.inr ⟨by lia,a,fun f h j i g=>?_⟩);rcases W6 f b with z|z
   .exact I.free f h z i g
   .refine xx (by lia) (by lia) o f z ?_ j (by lia) g;have:f*3<=f*f:=VB h (by lia);lia
  refine⟨⟨r.2+1,I.rise.snoc d (Wo 1) c (by dsimp only;lia)⟩,?_⟩;rw[pQ];show pp r.1*r.2^(1:Int).toNat=k;rw[show(1:Int).toNat=1 from rfl,VS,V8,Wq];exact I.prod
 .have:r.2=1:=by have:=I.pos;lia
  rw[Yu];refine⟨⟨b,I.rise⟩,?_⟩;have:=I.prod;rw[‹r.2=1›,VX] at this;exact this
def bM:List Int->Int
 |[]=>0
 |x::l=>x+bM l
def tP{l a:List Int}(h:l.Perm a):bM l=bM a:=by
 induction h with
 |nil=>rfl
 |cons x _ b=>show x+_=x+_;rw[b]
 |swap x y l=>show y+(x+_)=x+(y+_);lia
 |trans _ _ h1 h2=>exact h1.trans h2
def gr(a p k:Int):Int:=a*k%p
def vd(a p k:Int):Int:=if gr a p k<=(p-1)/2 then 0 else 1
def gs(a p k:Int):Int:=if gr a p k<=(p-1)/2 then gr a p k else p-gr a p k
def mS(n:Int):Int:=if n%2=0 then 1 else -1
def zP(m n:Int):mS (m+n)=mS m*mS n:=by
 unfold mS;rcases Xj m with a|a<;>rcases Xj n with b|b
 .rw[Vo (by lia),Vo a,Vo b];rfl
 .rw[Vm (by lia),Vo a,Vm (by lia)];rfl
 .rw[Vm (by lia),Vm (by lia),Vo b];rfl
 .rw[Vo (by lia),Vm (by lia),Vm (by lia)];rfl
def xi{n:Int}(h:m%2=n%2):mS m=mS n:=by unfold mS;rw[h]
def Hl(p:Int):List Int:=(List.range ((p-1)/2).toNat).map fun i:Nat=>(i:Int)+1
def kW:x∈Hl p↔1<=x/\x<=(p-1)/2:=by
 unfold Hl;simp only[VG,Wz];constructor
 .rintro⟨i,h,rfl⟩;lia
 .rintro⟨h1,h2⟩;exact⟨(x-1).toNat,by lia,by lia⟩
def CP(p:Int):(Hl p).Nodup:=by
 refine YG.mpr (XI ?_ (Zo (n:=((p-1)/2).toNat)));intro i j _ _ a;lia
def LD(p:Int):(Hl p).length=((p-1)/2).toNat:=by simp[Hl]
section
variable{p a:Int}(hp:aR p=true)(h2:p≠2)(ha:¬p∣a)
include hp h2 in
theorem fG:p%2=1/\3<=p:=by
 have:=ao hp;rcases bT.mp hp with z|z<;>lia
include hp h2 ha in
theorem N4(d:k∈Hl p):1<=gr a p k/\gr a p k<p:=by
 have e:=fG hp h2;have b:=kW.mp d;have f:=VV (a*k) (show p≠0 by lia);have h1:=VR (a*k) (show 0<p by lia);refine⟨?_,h1⟩;apply Vr;intro c;have hz:a*k%p=0:=by unfold gr at c;lia
 rcases euclid hp (VL hz) with z|z
 .exact ha z
 .have:=bV z (by lia) (by lia);lia
include hp h2 ha in
theorem Nm(b:k∈Hl p):gs a p k∈Hl p:=by
 have c:=fG hp h2;have:=N4 hp h2 ha b;unfold gs;split
 .exact kW.mpr ⟨this.1,by assumption⟩
 .exact kW.mpr ⟨by lia,by lia⟩
def KA(a p k:Int):p∣a*k-gr a p k:=by
 have:=WC (a*k) p;exact⟨a*k/p,by unfold gr;lia⟩
def yE(a p k:Int):p∣a*k-mS (vd a p k)*gs a p k:=by
 obtain⟨c,b⟩:=KA a p k;unfold vd gs mS;split
 .exact⟨c,by simp;lia⟩
 .exact⟨c+1,by rw[Xw];simp;lia⟩
include hp h2 ha in
theorem vn:(Hl p).Perm ((Hl p).map (gs a p)):=by
 have q:=fG hp h2
 have e:((Hl p).map (gs a p)).Nodup:=by
  refine YG.mpr (XI ?_ (CP p));intro x y h f l he;have k:=kW.mp h;have n:=kW.mp f;obtain⟨c,m⟩:=yE a p x;obtain⟨d,i⟩:=yE a p y;rw[<-he] at i;have e1:mS (vd a p x)=1\/mS (vd a p x)=-1:=by unfold mS;split<;>simp
  have e2:mS (vd a p y)=1\/mS (vd a p y)=-1:=by unfold mS;split<;>simp
  have key:p∣a*(x-y)\/p∣a*(x+y):=by
   rcases e1 with z|z<;>rcases e2 with w|w<;>rw[z] at m<;>rw[w] at i
   .exact .inl ⟨c-d,by rw[X1,X1];lia⟩
   .exact .inr ⟨c+d,by rw[Xw,Xw];lia⟩
   .exact .inr ⟨c+d,by rw[Xw,Xw];lia⟩
   .exact .inl ⟨c-d,by rw[X1,X1];lia⟩
  rcases key with z|z
  .rcases euclid hp z with w|w
   .exact ha w
   .have:=bV w (by lia) (by lia);lia
  .rcases euclid hp z with w|w
   .exact ha w
   .have:=bV w (by lia) (by lia);lia
 have j:∀x,x∈(Hl p).map (gs a p)->x∈Hl p:=by
  intro y f;obtain⟨x,h,rfl⟩:=VG.mp f;exact Nm hp h2 ha h
 obtain⟨o,b⟩:=Fn e j
 have g:o=[]:=by
  have:=b.length_eq;rw[V5,Vx] at this;exact YF (by lia)
 rw[g,Yu] at b;exact b
theorem EL(a p:Int):∀l:List Int,p∣a^l.length*c_ l-mS (bM (l.map (vd a p)))*c_ (l.map (gs a p))
 |[]=>⟨0,by simp[c_,bM,mS]⟩
 |k::l=>by
  obtain⟨c,b⟩:=EL a p l;obtain⟨d,e⟩:=yE a p k;show p∣a^(l.length+1)*(k*c_ l)-mS (vd a p k+bM (l.map (vd a p)))*(gs a p k*c_ (l.map (gs a p)));rw[zP,VS];generalize mS (vd a p k)=e1 at *;generalize mS (bM (l.map (vd a p)))=e2 at *;generalize c_ (l.map (gs a p))=v at *;generalize c_ l=u at *;generalize a^l.length=t at *;generalize gs a p k=g at *;have h1:t*u=e2*v+p*c:=by lia
  have h2:a*k=e1*g+p*d:=by lia
  exact⟨a*k*c+d*(e2*v),by grind⟩
include hp h2 ha in
theorem EK:bf a p=mS (bM ((Hl p).map (vd a p))):=by
 have f:=fG hp h2;have c:=EL a p (Hl p);rw[<-rB (vn hp h2 ha),LD] at c;have e:p∣(a^((p-1)/2).toNat-mS (bM ((Hl p).map (vd a p))))*c_ (Hl p):=by rw[Int.sub_mul];exact c
 rcases euclid hp e with z|z
 .unfold mS at *;split
  .rename_i h;rw[Vo h] at z;exact(dY hp h2 ha).mpr z
  .rename_i h;rw[Vm h] at z;exact(fv hp h2 ha).mpr (by rw[show a^((p-1)/2).toNat+1=a^((p-1)/2).toNat - -1 by lia];exact z)
 .refine absurd z (g5 hp _ fun x d b=>?_);have:=kW.mp d;have:=bV b (by lia) (by lia);lia
def M4{a p:Int}(g:p%2=1):(a*k-a*k/p-gs a p k-vd a p k)%2=0:=by
 have e:=WC (a*k) p;have b:∃c,p=2*c+1:=⟨p/2,by lia⟩;obtain⟨c,d⟩:=b
 have f:p*(a*k/p)=2*(c*(a*k/p))+a*k/p:=by
  rw[d];generalize a*k/(2*c+1)=z;grind
 unfold gs vd gr;generalize a*k/p=q at *;generalize c*q=y at *;split<;>lia
theorem FG{a p:Int}(b:p%2=1):∀l:List Int,(a*bM l-bM (l.map fun k=>a*k/p)-bM (l.map (gs a p))-bM (l.map (vd a p)))%2=0
 |[]=>by simp[bM]
 |k::l=>by
  have h1:=FG (a:=a) b l;have h2:=M4 (a:=a) (k:=k) b;show(a*(k+bM l)-(a*k/p+bM (l.map fun k=>a*k/p))-(gs a p k+bM (l.map (gs a p)))-(vd a p k+bM (l.map (vd a p))))%2=0;rw[Xw];generalize a*bM l=c at *;generalize a*k=d at *;lia
include hp h2 ha in
theorem Js(e:a%2=1):bM ((Hl p).map (vd a p))%2=bM ((Hl p).map fun k=>a*k/p)%2:=by
 have h:=FG (a:=a) (fG hp h2).1 (Hl p);rw[<-tP (vn hp h2 ha)] at h;have d:∃c,a=2*c+1:=⟨a/2,by lia⟩;obtain⟨c,b⟩:=d
 have:a*bM (Hl p)=2*(c*bM (Hl p))+bM (Hl p):=by
  rw[b];generalize bM (Hl p)=z;grind
 generalize c*bM (Hl p)=y at *;lia
end
def Me(n:Nat):2*bM ((List.range n).map fun i:Nat=>(i:Int)+1)=(n:Int)*(n+1):=by
 have ap:∀(l:List Int) (x:Int),bM (l++[x])=bM l+x:=fun l x=>by
  induction l with
  |nil=>show x+0=0+x;lia
  |cons y l a=>show y+bM (l++[x])=y+bM l+x;lia
 induction n with
 |zero=>rfl
 |succ n a =>
  rw[aaH,Yx,Wa,YJ,ap,Xw,a];have:((n+1:Nat):Int)=(n:Int)+1:=by lia
  rw[this];generalize (n:Int)=x;grind
def HE(hp:aR p=true)(h2:p≠2):bf 2 p=if p%8=1\/p%8=7 then 1 else -1:=by
 have n:=fG hp h2
 have ha:¬p∣2:=fun z=>by
  have:=VN (by decide) z;lia
 rw[EK hp h2 ha];have h:=FG (a:=2) n.1 (Hl p);rw[<-tP (vn hp h2 ha)] at h
 have q:∀l:List Int,(∀k,k∈l->k∈Hl p)->bM (l.map fun k=>2*k/p)=0:=fun l=>by
  induction l with
  |nil=>intro _;rfl
  |cons k l o =>
   intro d;have v:=kW.mp (d k (VC ..));have e:2*k/p=0:=Int.ediv_eq_zero_of_lt (by lia) (by lia);show 2*k/p+bM (l.map fun k=>2*k/p)=0;rw[e,o fun y t=>d y (Vw _ t)];rfl
 rw[q _ fun _ z=>z] at h;have b:=Me ((p-1)/2).toNat;have u:bM (Hl p)=bM ((List.range ((p-1)/2).toNat).map fun i:Nat=>(i:Int)+1):=rfl;rw[<-u] at b;have j:(((p-1)/2).toNat:Int)=(p-1)/2:=by lia
 rw[j] at b;have g:∃c r,p=8*c+r/\(r=1\/r=3\/r=5\/r=7):=⟨p/8,p%8,by lia,by lia⟩;obtain⟨c,r,s,f⟩:=g;have key:∀x:Int,(p-1)/2=x->2*bM (Hl p)=x*(x+1):=fun x m=>by rw[<-m];exact b
 rcases f with rfl|rfl|rfl|rfl
 .have k:=key (4*c) (by lia)
  have:bM (Hl p)=2*(c*(4*c+1)):=by
   have:4*c*(4*c+1)=2*(2*(c*(4*c+1))):=by grind
   lia
  rw[Vo (by lia)];unfold mS;rw[Vo (by lia)]
 .have k:=key (4*c+1) (by lia)
  have:bM (Hl p)=2*(4*(c*c)+3*c)+1:=by
   have:(4*c+1)*(4*c+1+1)=2*(2*(4*(c*c)+3*c)+1):=by grind
   lia
  rw[Vm (by lia)];unfold mS;rw[Vm (by lia)]
 .have k:=key (4*c+2) (by lia)
  have:bM (Hl p)=2*(4*(c*c)+5*c+1)+1:=by
   have:(4*c+2)*(4*c+2+1)=2*(2*(4*(c*c)+5*c+1)+1):=by grind
   lia
  rw[Vm (by lia)];unfold mS;rw[Vm (by lia)]
 .have k:=key (4*c+3) (by lia)
  have:bM (Hl p)=2*(4*(c*c)+7*c+3):=by
   have:(4*c+3)*(4*c+3+1)=2*(2*(4*(c*c)+7*c+3)):=by grind
   lia
  rw[Vo (by lia)];unfold mS;rw[Vo (by lia)]
def BL(hp:aR p=true)(h2:p≠2):bf (-1) p=if p%4=3 then -1 else 1:=by
 have b:=fG hp h2
 have ha:¬p∣-1:=fun z=>by
  have:=VN (by decide) ((WX).mp z);lia
 have a:∀n:Nat,(-1:Int)^(2*n)=1:=fun n=>by rw[aaN,show(-1:Int)^2=1 from rfl,Int.one_pow]
 split
 .refine(fv hp h2 ha).mpr ?_;have e:((p-1)/2).toNat=2*(((p-1)/2).toNat/2)+1:=by lia
  rw[e,VS,a];exact⟨0,by lia⟩
 .refine(dY hp h2 ha).mpr ?_;have e:((p-1)/2).toNat=2*(((p-1)/2).toNat/2):=by lia
  rw[e,a];exact⟨0,by lia⟩
def sm(n:Nat)(f:Nat->Int):Int:=bM ((List.range n).map f)
def eN(n:Nat)(f:Nat->Int):sm (n+1) f=sm n f+f n:=by
 have ap:∀(l:List Int) (x:Int),bM (l++[x])=bM l+x:=fun l x=>by
  induction l with
  |nil=>show x+0=0+x;lia
  |cons y l a=>show y+bM (l++[x])=y+bM l+x;lia
 unfold sm;rw[aaH,Yx,Wa,YJ,ap]
def yJ(n:Nat)(f g:Nat->Int):sm n (fun i=>f i+g i)=sm n f+sm n g:=by
 induction n with
 |zero=>rfl
 |succ n a=>rw[eN,eN,eN,a];lia
def pL{f g:Nat->Int}(h:∀i,i<n->f i=g i):sm n f=sm n g:=by
 induction n with
 |zero=>rfl
 |succ n a=>rw[eN,eN,a fun i hi=>h i (by lia),h n (by lia)]
def Hj(n:Nat):sm n (fun _=>0)=0:=by
 induction n with
 |zero=>rfl
 |succ n a=>rw[eN,a];rfl
def HW(m n:Nat)(f:Nat->Nat->Int):sm m (fun i=>sm n (f i))=sm n (fun j=>sm m fun i=>f i j):=by
 induction m with
 |zero=>rw[show(fun j=>sm 0 fun i=>f i j)=fun _=>0 from rfl,Hj];rfl
 |succ m a =>
  rw[eN,a,show(fun j=>sm (m+1) fun i=>f i j)=fun j=>(sm m fun i=>f i j)+f m j from funext fun j=>eN m _,yJ]
def KS(n:Nat):sm n (fun _=>1)=n:=by
 induction n with
 |zero=>rfl
 |succ n a=>rw[eN,a];lia
def cnt(b:0<=x):sm n (fun j=>if (j:Int)+1<=x then 1 else 0)=if x<=n then x else n:=by
 induction n with
 |zero=>show(0:Int)=_;split<;>lia
 |succ n a =>
  rw[eN,a];split<;>split<;>split<;>lia
def below{t:Int}(hp:0<p)(d:0<=t)(b:¬p∣t)(f:t/p<=n):sm n (fun j=>if p*((j:Int)+1)<t then 1 else 0)=t/p:=by
 have c:0<=t/p:=YZ d (by lia);have e:=cnt (n:=n) c;rw[Vo f] at e;rw[<-e];refine pL fun j _=>?_
 have a:p*((j:Int)+1)<t↔(j:Int)+1<=t/p:=by
  rw[Int.le_ediv_iff_mul_le hp,V6];constructor
  .intro z;lia
  .intro z;rcases X3 z with w|w
   .exact w
   .exact absurd ⟨_,by rw[<-w,V6]⟩ b
 by_cases z:p*((j:Int)+1)<t
 .rw[Vo z,Vo (a.mp z)]
 .rw[Vm z,Vm fun w=>z (a.mpr w)]
def IY(hp:aR p=true)(h2:p≠2)(d:aR q=true)(b:q≠2)(e:p≠q):
  bM ((Hl p).map fun k=>q*k/p)=sm ((p-1)/2).toNat fun i=>sm ((q-1)/2).toNat fun j=>if p*((j:Int)+1)<q*((i:Int)+1) then 1 else 0:=by
 have g:=fG hp h2;have f:=fG d b
 have a:¬p∣q:=fun z=>by
  rcases fk d (show 0<p by lia) z with w|w<;>lia
 unfold Hl sm;rw[Zz];show sm ((p-1)/2).toNat _=sm ((p-1)/2).toNat _;refine pL fun i hi=>?_;show q*((i:Int)+1)/p=sm _ _;refine(below (by lia) (Xe (by lia) (by lia)) (fun z=>?_) ?_).symm
 .rcases euclid hp z with w|w
  .exact a w
  .have:=bV w (by lia) (by lia);lia
 .have h1:q*((i:Int)+1)<((q-1)/2+1)*p:=by
   have c:2*((i:Int)+1)<=p-1:=by lia
   have:q*(2*((i:Int)+1))<=q*(p-1):=VB c (by lia);have e2:2*((q-1)/2+1)=q+1:=by lia
   have e3:2*(((q-1)/2+1)*p)=(q+1)*p:=by rw[<-VZ,e2]
   have e4:q*(2*((i:Int)+1))=2*(q*((i:Int)+1)):=by grind
   have h:q*(p-1)=q*p-q:=by grind
   have l:(q+1)*p=q*p+p:=by grind
   lia
  have:=aaS (show 0<p by lia) h1;lia
def Gy(hp:aR p=true)(h2:p≠2)(d:aR q=true)(a:q≠2)(b:p≠q):
  bM ((Hl p).map fun k=>q*k/p)+bM ((Hl q).map fun k=>p*k/q)=(p-1)/2*((q-1)/2):=by
 have m:=fG hp h2;have l:=fG d a
 have e:¬p∣q:=fun z=>by
  rcases fk d (show 0<p by lia) z with w|w<;>lia
 rw[IY hp h2 d a b,IY d a hp h2 (fun z=>b z.symm),HW ((q-1)/2).toNat,<-yJ]
 have e1:sm ((p-1)/2).toNat (fun i=>(sm ((q-1)/2).toNat fun j=>if p*((j:Int)+1)<q*((i:Int)+1) then 1 else 0)+sm ((q-1)/2).toNat fun f=>if q*((i:Int)+1)<p*((f:Int)+1) then 1 else 0)=sm ((p-1)/2).toNat fun _=>(((q-1)/2).toNat:Int):=by
  refine pL fun i hi=>?_;rw[<-yJ,<-KS ((q-1)/2).toNat];refine pL fun j o=>?_
  have g:p*((j:Int)+1)≠q*((i:Int)+1):=fun z=>by
   rcases euclid hp (show p∣q*((i:Int)+1) from ⟨_,z.symm⟩) with w|w
   .exact e w
   .have:=bV w (by lia) (by lia);lia
  generalize p*((j:Int)+1)=x at *;generalize q*((i:Int)+1)=y at *;split<;>split<;>lia
 rw[e1]
 have e2:∀(n:Nat) (c:Int),sm n (fun _=>c)=n*c:=fun n c=>by
  induction n with
  |zero=>show(0:Int)=_;simp
  |succ n h=>rw[eN,h];simp[Int.add_mul]
 rw[e2];rw[show(((p-1)/2).toNat:Int)=(p-1)/2 by lia,show(((q-1)/2).toNat:Int)=(q-1)/2 by lia]
def Dy(hp:aR p=true)(h2:p≠2)(d:aR q=true)(c:q≠2)(g:p≠q):bf q p*bf p q=if p%4=3/\q%4=3 then -1 else 1:=by
 have i:=fG hp h2;have h:=fG d c
 have e:¬p∣q:=fun z=>by
  rcases fk d (show 0<p by lia) z with w|w<;>lia
 have f:¬q∣p:=fun z=>by
  rcases fk hp (show 0<q by lia) z with w|w<;>lia
 rw[EK hp h2 e,EK d c f,xi (Js hp h2 e h.1),xi (Js d c f i.1),<-zP,Gy hp h2 d c g];unfold mS;have j:=WQ ((p-1)/2) ((q-1)/2) 2;rw[j];by_cases a:p%4=3<;>by_cases b:q%4=3
 .rw[show(p-1)/2%2=1 by lia,show(q-1)/2%2=1 by lia];simp[a,b]
 .rw[show(p-1)/2%2=1 by lia,show(q-1)/2%2=0 by lia];simp[a,b]
 .rw[show(p-1)/2%2=0 by lia];simp[a]
 .rw[show(p-1)/2%2=0 by lia];simp[a]
def Cg(p a b:Int):Prop:=p∣a-b
def gO(p a:Int):Cg p a a:=⟨0,by lia⟩
def vD{a b:Int}(h:Cg p a b):Cg p b a:=by obtain⟨c,h⟩:=h;exact⟨-c,by rw[aaM];lia⟩
def bZ{a b:Int}(h:Cg p a b)(h':Cg p b c):Cg p a c:=by
 obtain⟨x,h⟩:=h;obtain⟨y,h'⟩:=h';exact⟨x+y,by rw[Xw];lia⟩
def hE{a b:Int}(h:Cg p a b)(h':Cg p c d):Cg p (a*c) (b*d):=by
 obtain⟨x,h⟩:=h;obtain⟨y,h'⟩:=h';exact⟨x*c+b*y,by grind⟩
theorem nP{p a b:Int}(h:Cg p a b):∀n:Nat,Cg p (a^n) (b^n)
 |0=>by rw[V8,V8];exact gO _ _
 |n+1=>by rw[VS,VS];exact hE (nP h n) h
def cX(p a:Int):Cg p (a%p) a:=by
 have:=WC a p;exact⟨-(a/p),by rw[aaM];lia⟩
def JP{a b:Int}(ha:0<=a/\a<p)(c:0<=b/\b<p)(h:Cg p a b):a=b:=by
 have:=bV h (by lia) (by lia);lia
def Oq(hp:aR p=true)(h:Cg p (y*y) 1):Cg p y 1\/Cg p y (-1):=by
 have:p∣(y-1)*(y+1):=by rw[show(y-1)*(y+1)=y*y-1 by grind];exact h
 rcases euclid hp this with z|z
 .exact .inl z
 .exact .inr (by unfold Cg;rw[show y - -1=y+1 by lia];exact z)
def Jr(p k:Int):Prop:=2<=k/\bf k p=-1/\∀j,2<=j->j<k->bf j p≠-1
def Jr.uniq(a b:Int)(ha:Jr p a)(c:Jr p b):a=b:=by
 rcases X_ a b with z|z|z
 .exact absurd ha.2.1 (c.2.2 a ha.1 z)
 .exact z
 .exact absurd c.2.1 (ha.2.2 b c.1 z)
def lH(p:Int):Int:=Classical.epsilon (Jr p)
def Mr(h:Jr p k):k=lH p:=m_ Jr.uniq h
def NR(p:Int):Prop:=∃g,2<=g/\bf g p=-1
def qJ(h:NR p):Jr p (lH p):=by
 obtain⟨g,h1,d⟩:=h
 have:∀n:Nat,(∃k,Jr p k)\/∀j:Int,2<=j->j<2+(n:Int)->bf j p≠-1:=fun n=>by
  induction n with
  |zero=>exact .inr fun j a b=>by lia
  |succ n c =>
   rcases c with z|z
   .exact .inl z
   .by_cases w:bf (2+(n:Int)) p=-1
    .exact .inl ⟨2+(n:Int),by lia,w,fun j a b=>z j a b⟩
    .refine .inr fun j a b=>?_;by_cases e:j=2+(n:Int)
     .rw[e];exact w
     .exact z j a (by lia)
 rcases this (g-1).toNat with⟨k,z⟩|z
 .rw[<-Mr z];exact z
 .exact absurd d (z g h1 (by lia))
def Gx(e p s:Int):Prop:=0<=s/\Cg p (e^2^s.toNat) 1/\∀j:Nat,(j:Int)<s->¬Cg p (e^2^j) 1
def Gx.uniq(a b:Int)(ha:Gx e p a)(c:Gx e p b):a=b:=by
 rcases X_ a b with z|z|z
 .exact absurd ha.2.1 (c.2.2 a.toNat (by have:=ha.1;lia))
 .exact z
 .exact absurd c.2.1 (ha.2.2 b.toNat (by have:=c.1;lia))
def iU(e p:Int):Int:=Classical.epsilon (Gx e p)
def Ku(h:Gx e p s):s=iU e p:=m_ Gx.uniq h
def Fw(h:Cg p (e^2^n) 1):Gx e p (iU e p)/\iU e p<=n:=by
 have:∀m:Nat,(∃s:Nat,s<=m/\Gx e p s)\/∀j:Nat,j<=m->¬Cg p (e^2^j) 1:=fun m=>by
  induction m with
  |zero =>
   by_cases w:Cg p (e^2^0) 1
   .exact .inl ⟨0,Vu 0,by lia,w,fun j a=>by lia⟩
   .exact .inr fun j a=>by rw[Nat.le_zero.mp a];exact w
  |succ m c =>
   rcases c with⟨s,b,z⟩|z
   .exact .inl ⟨s,by lia,z⟩
   .by_cases w:Cg p (e^2^(m+1)) 1
    .exact .inl ⟨m+1,Vu _,by lia,w,fun j a=>z j (by lia)⟩
    .refine .inr fun j a=>?_;by_cases q:j=m+1
     .rw[q];exact w
     .exact z j (by lia)
 rcases this n with⟨s,b,z⟩|z
 .rw[<-Ku z];exact⟨z,by lia⟩
 .exact absurd h (z n (Vu n))
def mq(p m:Int):Nat->Int
 |0=>m
 |i+1=>mq p m i*mq p m i%p
theorem Jd(p m:Int):∀i,Cg p (mq p m i) (m^2^i)
 |0=>by show Cg p m (m^1);rw[VS,V8,Wq];exact gO _ _
 |i+1=>by
  have h:=Jd p m i;refine bZ (cX p _) ?_;rw[show(2:Nat)^(i+1)=2^i+2^i by rw[Yk];lia,WK];exact hE h h
def FE(hp:0<p)(a:0<=m/\m<p):∀i,0<=mq p m i/\mq p m i<p
 |0=>a
 |_+1=>⟨VV _ (by lia),VR _ hp⟩
def oA(p:Int):Nat->Int->Int->Int->Int->Int
 |0,_,r,_,_=>r
 |n+1,t,r,e,m=>if e=1 then r else oA p n (iU e p) (r*mq p m (t-iU e p-1).toNat%p) (e*(mq p m (t-iU e p-1).toNat*mq p m (t-iU e p-1).toNat%p)%p) (mq p m (t-iU e p-1).toNat*mq p m (t-iU e p-1).toNat%p)
structure MM(p k t r e m:Int):Prop where
 r0:0<=r/\r<p
 e0:0<=e/\e<p
 m0:0<=m/\m<p
 t1:1<=t
 rr:Cg p (r*r) (k*e)
 ee:Cg p (e^2^(t-1).toNat) 1
 mm:e≠1->Cg p (m^2^(t-1).toNat) (-1)
def MM.step{t:Int}(hp:aR p=true)(I:MM p k t r e m)(he:e≠1):
  Gx e p (iU e p)/\1<=iU e p/\iU e p<t/\MM p k (iU e p) (r*mq p m (t-iU e p-1).toNat%p) (e*(mq p m (t-iU e p-1).toNat*mq p m (t-iU e p-1).toNat%p)%p) (mq p m (t-iU e p-1).toNat*mq p m (t-iU e p-1).toNat%p):=by
 have j:=ao hp;obtain⟨b,g⟩:=Fw I.ee;have o:=I.t1
 have a:1<=iU e p:=by
  apply Vr;intro q;have hz:iU e p=0:=by have:=b.1;lia
  have h1:=b.2.1;rw[hz] at h1
  have f:Cg p e 1:=by
   have:e^2^(0:Int).toNat=e:=by show e^1=e;rw[VS,V8,Wq]
   rwa [this] at h1
  exact he (JP I.e0 ⟨by decide,by lia⟩ f)
 have c:iU e p<t:=by lia
 refine⟨b,a,c,?_⟩;generalize i:iU e p=s at *;have l:=Jd p m (t-s-1).toNat;have n:=FE (show 0<p by lia) I.m0 (t-s-1).toNat;generalize mq p m (t-s-1).toNat=x at *
 have e1:Cg p (e^2^(s-1).toNat) (-1):=by
  have d:Cg p (e^2^(s-1).toNat*e^2^(s-1).toNat) 1:=by
   rw[<-WK,show 2^(s-1).toNat+2^(s-1).toNat=2^s.toNat by rw[show s.toNat=(s-1).toNat+1 by lia,Yk];lia];exact b.2.1
  rcases Oq hp d with z|z
  .exact absurd z (b.2.2 (s-1).toNat (by lia))
  .exact z
 have h:Cg p (x^2^s.toNat) (-1):=by
  refine bZ (nP l _) ?_;rw[<-aaN,<-Nat.pow_add,show(t-s-1).toNat+s.toNat=(t-1).toNat by lia];exact I.mm he
 have m1:Cg p ((x*x%p)^2^(s-1).toNat) (-1):=by
  refine bZ (nP (cX p _) _) ?_;rw[ZR,<-WK,show 2^(s-1).toNat+2^(s-1).toNat=2^s.toNat by rw[show s.toNat=(s-1).toNat+1 by lia,Yk];lia];exact h
 have bd:∀y:Int,0<=y%p/\y%p<p:=fun y=>⟨VV _ (by lia),VR _ (by lia)⟩;refine⟨bd _,bd _,bd _,a,?_,?_,fun _=>m1⟩
 .have h1:Cg p (r*x%p*(r*x%p)) (r*x*(r*x)):=hE (cX _ _) (cX _ _);have h2:Cg p (k*(e*(x*x%p)%p)) (k*(e*(x*x))):=hE (gO _ _) (bZ (cX _ _) (hE (gO _ _) (cX _ _)));refine bZ h1 (bZ ?_ (vD h2));rw[show r*x*(r*x)=r*r*(x*x) by grind,show k*(e*(x*x))=k*e*(x*x) by grind];exact hE I.rr (gO _ _)
 .refine bZ (nP (cX p _) _) ?_;rw[ZR];refine bZ (hE e1 m1) ?_;exact gO _ _
theorem Ac{p k:Int}(hp:aR p=true):∀(n:Nat) (t r e m:Int),MM p k t r e m->t<=n->(0<=oA p n t r e m/\oA p n t r e m<p)/\Cg p (oA p n t r e m*oA p n t r e m) k
 |0,t,r,e,m,I,h=>by have:=I.t1;lia
 |n+1,t,r,e,m,I,h=>by
  unfold oA;split
  .rename_i he;refine⟨I.r0,?_⟩;have:=I.rr
   rwa [he,VX] at this
  .rename_i he;obtain⟨d,a,b,c⟩:=I.step hp he;exact Ac hp n _ _ _ _ c (by lia)
def Gj(k p:Int):Int:=oA p (aV (p-1) 2).1.toNat (aV (p-1) 2).1 (k^(((aV (p-1) 2).2+1)/2).toNat%p) (k^(aV (p-1) 2).2.toNat%p) (if k^(aV (p-1) 2).2.toNat%p≠1 then lH p^(aV (p-1) 2).2.toNat%p else 1)
def r_(hp:aR p=true)(h2:p≠2):1<=(aV (p-1) 2).1/\(aV (p-1) 2).2%2=1/\1<=(aV (p-1) 2).2/\(aV (p-1) 2).2.toNat*2^((aV (p-1) 2).1-1).toNat=((p-1)/2).toNat:=by
 have f:=fG hp h2;obtain⟨b,d,a,h⟩:=vF (show(2:Int)<=2 by decide) (show 0<p-1 by lia) (show(2:Int)∣p-1 by lia);obtain⟨b1,b2,b3⟩:=eB (show(2:Int)<=2 by decide) (show p-1≠0 by lia);refine⟨a,by lia,by lia,?_⟩;generalize (aV (p-1) 2).1=t at *;generalize (aV (p-1) 2).2=o at *;have e:t.toNat=(t-1).toNat+1:=by lia
 rw[e,VS] at b2
 have g:o*2^(t-1).toNat=(p-1)/2:=by
  have:p-1=2*(o*2^(t-1).toNat):=by rw[b2];grind
  lia
 have c:((o.toNat*2^(t-1).toNat:Nat):Int)=o*2^(t-1).toNat:=by
  rw[WN,ZA];rw[show((o.toNat:Nat):Int)=o by lia];rfl
 lia
def xj(hp:aR p=true)(h2:p≠2)(i:0<=k/\k<p)(a:bf k p=1)(f:NR p):
  MM p k (aV (p-1) 2).1 (k^(((aV (p-1) 2).2+1)/2).toNat%p) (k^(aV (p-1) 2).2.toNat%p) (if k^(aV (p-1) 2).2.toNat%p≠1 then lH p^(aV (p-1) 2).2.toNat%p else 1):=by
 have h:=fG hp h2;obtain⟨e,g,j,heq⟩:=r_ hp h2;generalize (aV (p-1) 2).1=t at *;generalize (aV (p-1) 2).2=o at *;have bd:∀y:Int,0<=y%p/\y%p<p:=fun y=>⟨VV _ (by lia),VR _ (by lia)⟩;have b:¬p∣k:=fun z=>by rw[dw z] at a;cases a
 refine⟨bd _,bd _,?_,e,?_,?_,fun he=>?_⟩
 .split
  .exact bd _
  .exact⟨by decide,by lia⟩
 .have h1:Cg p (k^((o+1)/2).toNat%p*(k^((o+1)/2).toNat%p)) (k^((o+1)/2).toNat*k^((o+1)/2).toNat):=hE (cX _ _) (cX _ _);refine bZ h1 ?_;rw[<-WK,show((o+1)/2).toNat+((o+1)/2).toNat=o.toNat+1 by lia,VS,V6];exact hE (gO _ _) (vD (cX _ _))
 .refine bZ (nP (cX p _) _) ?_;rw[<-aaN,heq];exact(dY hp h2 b).mp a
 .rw[Vo he];refine bZ (nP (cX p _) _) ?_;rw[<-aaN,heq];have d:=qJ f
  have c:¬p∣lH p:=fun z=>by
   have:=d.2.1;rw[dw z] at this;cases this
  have:=(fv hp h2 c).mp d.2.1;unfold Cg;rw[show ∀y:Int,y - -1=y+1 from fun y=>by lia];exact this
def Kl(hp:aR p=true)(h2:p≠2)(c:0<=k/\k<p)(a:bf k p=1)(b:NR p):(0<=Gj k p/\Gj k p<p)/\Cg p (Gj k p*Gj k p) k:=by
 obtain⟨d,_⟩:=r_ hp h2;exact Ac hp _ _ _ _ _ (xj hp h2 c a b) (by lia)
def uH(k p:Int):Option Int:=if bf k p=-1 then none else if bf k p=0\/p=2 then some (bf k p) else some (Gj (k%p) p)
def qy:uH k p=none↔bf k p=-1:=by
 unfold uH;split
 .rename_i h;exact⟨fun _=>h,fun _=>rfl⟩
 .rename_i h;split
  .exact⟨fun z=>(Option.some_ne_none _ z).elim,fun z=>absurd z h⟩
  .exact⟨fun z=>(Option.some_ne_none _ z).elim,fun z=>absurd z h⟩
def LX(hp:aR p=true)(h2:p≠2)(e:NR p)(h:uH k p=some r):(0<=r/\r<p)/\Cg p (r*r) k:=by
 have i:=ao hp;unfold uH at h;by_cases h1:bf k p=-1
 .rw[Vo h1] at h;cases h
 .rw[Vm h1] at h;by_cases a:bf k p=0
  .rw[Vo (.inl a)] at h
   have d:r=0:=by
    have:=VP h;lia
   have g:p∣k:=by
    apply Vr;intro e;rcases bO e with z|z<;>lia
   rw[d];obtain⟨c,j⟩:=g;exact⟨⟨by decide,by lia⟩,⟨-c,by rw[aaM];lia⟩⟩
  .rw[Vm (fun z=>z.elim a h2)] at h;have d:=VP h;have b:¬p∣k:=fun z=>a (dw z);have f:bf k p=1:=by rcases bO b with z|z<;>lia
   have:=Kl (k:=k%p) hp h2 ⟨VV _ (by lia),VR _ (by lia)⟩ (by rw[ui];exact f) e;rw[d] at this;exact⟨this.1,bZ this.2 (cX _ _)⟩
def mI{n:Int}(h:k∣n*m)(a:Int.gcd k m=1):k∣n:=by
 have:=Int.dvd_mul_gcd_iff_dvd_mul.mpr h;rw[a] at this;simpa using this
def kF(n:Int):Prop:=n≠0/\∀d:Int,2<=d->¬d*d∣n
def mD:kF 1:=⟨by decide,fun d a h=>by
 have:=VN (by decide) h;have:2*2<=d*d:=We a a (by decide) (by lia)
 lia⟩
def pT{n:Int}(h:kF n):kF (-n):=⟨by have:=h.1;lia,fun d a z=>h.2 d a (WX.mp z)⟩
def Bf{n:Int}(h:kF n)(a:m∣n):kF m:=⟨by rintro rfl;exact h.1 (aa5.mp a),fun d h2 z=>h.2 d h2 (V1 z a)⟩
def km(hp:aR p=true)(h:¬p∣d):Int.gcd d p=1:=by
 have a:=ao hp
 have h1:=fk hp (d:=(Int.gcd d p:Int)) (by
  have:0<Int.gcd d p:=Int.gcd_pos_of_ne_zero_right _ (by lia)
  lia) (W3 ..)
 rcases h1 with h1|h1
 .lia
 .exact absurd (by rw[<-h1];exact Xp ..) h
def kM{n:Int}(h:kF n)(hp:aR p=true)(f:¬p∣n):kF (n*p):=⟨Vn h.1 (by have:=ao hp;lia),fun d b z=>by
 have e:=ao hp;by_cases a:p∣d
 .obtain⟨c,rfl⟩:=a;have:p*p∣n*p:=V1 ⟨c*c,by grind⟩ z;exact f (Int.dvd_of_mul_dvd_mul_right (by lia) this)
 .exact h.2 d b (mI z (km hp fun w=>by rcases euclid hp w with w|w<;>exact a w))⟩
def Mj(b:Int.gcd r s=1):Int.gcd (s*s) (r*r)=1:=by
 have a:Int.gcd s (r*r)=1:=by rw[Int.gcd_mul_right_right_of_gcd_eq_one (by rw[aar];exact b),aar];exact b
 rw[Int.gcd_mul_right_left_of_gcd_eq_one a];exact a
def Bb(b:kF f)(c:0<s)(a:Int.gcd r s=1)(h:s*s∣f*(r*r)):s=1:=by
 have h2:s*s∣f:=mI h (Mj a);rcases W6 s 2 with z|z
 .lia
 .exact absurd h2 (b.2 s z)
def wU{n:Int}(k:kF n)(j:kF f)(o:0<r)(m:0<s)(e:n*(r*r)=f*(s*s)):n=f/\r=s:=by
 obtain⟨g,a,s',h,b,l,es⟩:∃g a s':Int,0<g/\Int.gcd a s'=1/\r=g*a/\s=g*s':=by
  have i:0<Int.gcd r s:=YM _ (by lia);refine⟨Int.gcd r s,r/Int.gcd r s,s/Int.gcd r s,by lia,?_,(Ye (Xp ..)).symm,(Ye (W3 ..)).symm⟩;rw[Int.gcd_ediv_gcd_ediv_gcd i]
 subst l es
 have c:0<a:=by
  rcases W6 0 a with z|z
  .exact z
  .have:=Wf (XH h) z;lia
 have d:0<s':=by
  rcases W6 0 s' with z|z
  .exact z
  .have:=Wf (XH h) z;lia
 have p:n*(a*a)=f*(s'*s'):=by
  have:(g*g)*(n*(a*a))=(g*g)*(f*(s'*s')):=by grind
  exact aah (Vn (by lia) (by lia)) this
 have h1:s'=1:=Bb k d b ⟨f,by grind⟩;have h2:a=1:=Bb j c (by rw[aar];exact b) ⟨n,by grind⟩;subst h1 h2;exact⟨by lia,rfl⟩
def yb(A:Int):Prop:=∀q,aR q=true->q∣A->q<32768
def HJ(l:Int):Prop:=∀q,aR q=true->q∣l->32768<=q
def nj(h:2<=k):∃q,aR q=true/\q∣k:=by
 obtain⟨⟨b,a⟩,hp⟩:=nJ (k:=k) (by lia);cases c:nR k with
 |nil=>rw[c] at hp;simp only[pp] at hp;lia
 |cons u us =>
  rw[c] at a hp;refine⟨u.1,a.2.1,?_⟩;rw[<-hp,pp];have h1:=a.2.2.1;obtain⟨m,d⟩:∃m,u.2.toNat=m+1:=⟨u.2.toNat-1,by lia⟩;rw[d,VS];exact⟨u.1^m*pp us,by grind⟩
def Fo{a b:Int}(h:∀q,aR q=true->q∣a->¬q∣b)(ha:a≠0):Int.gcd a b=1:=by
 have c:0<Int.gcd a b:=YM _ ha;rcases aa6 (Int.gcd a b) 2 with z|z
 .lia
 .obtain⟨q,h1,h2⟩:=nj (k:=(Int.gcd a b:Int)) (by lia);exact absurd (V1 h2 (W3 ..)) (h q h1 (V1 h2 (Xp ..)))
def uL(ha:yb A)(c:HJ l)(a:l≠0):Int.gcd l A=1:=Fo (fun q h1 h2 b=>by have:=ha q h1 b;have:=c q h1 h2;lia) a
def ka(ha:yb A)(a:yb B):yb (A*B):=fun q h1 h2=>by rcases euclid h1 h2 with z|z;exact ha q h1 z;exact a q h1 z
def IB(ha:HJ A)(a:HJ B):HJ (A*B):=fun q h1 h2=>by rcases euclid h1 h2 with z|z;exact ha q h1 z;exact a q h1 z
def uJ(a:0<A)(h:A<32768):yb A:=fun q _ h2=>by have:=VN a h2;lia
def IF:HJ 1:=fun q h1 h2=>by have:=VN (by decide) h2;have:=ao h1;lia
theorem AF{q:Int}(a:aR q=true)(h:q<32768):∀n:Nat,yb (q^n)
 |0=>fun r h1 h2=>by rw[V8] at h2;have:=VN (by decide) h2;have:=ao h1;lia
 |n+1=>by
  rw[VS];exact ka (AF a h n) fun r h1 h2=>by have:=VN (by have:=ao a;lia) h2;lia
def lV{b:Int}(i:0<l)(g:l%2=1)(b3:3<=b)(h:b%2=1)(f:∀d,3<=d->d<b->d%2=1->¬d∣l)(c:oU l b 32768=none):∀d,3<=d->d<32768->d*d<=l->d%2=1->¬d∣l:=fun d h1 h2 e a=>by
 rcases W6 d b with z|z
 .exact f d h1 z a
 .exact xx (by lia) (by lia) c d z h2 e (by lia)
def rf{b:Int}{fs:List (Int×Int)}(I:yB k fs l b)(g:oU l b 32768=none)(h1:1<l)(h2:l<1073741824):aR l=true/\b<=l:=by
 have h:=lV I.pos I.odd I.b3 I.bo I.free g;have a:=I.odd;refine⟨bT.mpr (.inr ⟨by lia,a,fun d e f c=>h d e ?_ f c⟩),?_⟩
 .rcases W6 d 32768 with z|z
  .exact z
  .have:32768*32768<=d*d:=We z z (by decide) (by lia);lia
 .rcases W6 l b with z|z
  .exact absurd (Xv l) (I.free l (by lia) z a)
  .exact z
def rj{b:Int}{fs:List (Int×Int)}(I:yB k fs l b)(d:oU l b 32768=none)(h:1073741824<=l):HJ l:=fun q h1 h2=>by
 have a:=lV I.pos I.odd I.b3 I.bo I.free d;rcases W6 q 32768 with z|z
 .rcases bT.mp h1 with w|⟨e,c,f⟩
  .subst w;have:=I.odd;lia
  .have:q*q<=32768*32768:=We (by lia) (by lia) (by lia) (by decide);exact absurd h2 (a q e z (by lia) c)
 .exact z
theorem sY{k e:Int}:∀(n:Nat) (fs:List (Int×Int)) (l b:Int),yB k fs l b->(∀u∈fs,u.1<e)->∀u∈(Bn e n fs l b).1,u.1<e
 |0,fs,l,b,I,h=>h
 |n+1,fs,l,b,I,h=>by
  unfold Bn;cases a:oU l b e with
  |none=>exact h
  |some d =>
   refine sY n _ _ _ (I.step a) fun u c=>?_;rcases Wk.mp c with z|z
   .exact h u z
   .have:=jA (XH I.pos) (by have:=I.b3;lia) a;simp only[V0] at z;subst z;exact this.2.1
def qI(b:1<=k)(he:2<e):∀u∈(bj k e).1,u.1<e:=by
 refine sY _ _ _ _ (nB b).1 fun u a=>?_;unfold xH at a;split at a
 .simp only[V0] at a;subst a;exact he
 .cases a
theorem ip:∀{us:List (Int×Int)} {a b:Int},fM a us b->∀u∈us,aR u.1=true/\1<=u.2
 |u::us,a,b,h,v,c=>by
  rcases Vq.mp c with z|z
  .subst z;exact⟨h.2.1,h.2.2.1⟩
  .exact ip h.2.2.2 v z
theorem zu:∀{us:List (Int×Int)},(∀u∈us,aR u.1=true/\u.1<32768)->yb (pp us)
 |[],_=>fun q h1 h2=>by have b:q∣1:=h2;have:=VN (by decide) b;have:=ao h1;lia
 |u::us,h=>ka (AF (h u (VC ..)).1 (h u (VC ..)).2 _) (zu fun v a=>h v (Vw _ a))
def yK(c:1<=s):∃A L,yb A/\HJ L/\0<A/\0<L/\s=A*L:=by
 obtain⟨b,I,f⟩:=kh (k:=s) (e:=32768) c;have a:yb (pp (bj s 32768).1):=zu fun u d=>⟨(ip I.rise u d).1,qI c (by decide) u d⟩;have hp:=iX (by decide) I.rise;have g:=I.pos;by_cases h1:(bj s 32768).2<32768
 .exact⟨s,1,by rw[<-I.prod];exact ka a (uJ g h1),IF,by lia,by decide,by lia⟩
 .refine⟨_,_,a,?_,hp,g,I.prod.symm⟩;by_cases h2:(bj s 32768).2<1073741824
  .have:=rf I f (by lia) h2;intro q q1 h;rcases fk this.1 (by have:=ao q1;lia) h with z|z
   .have:=ao q1;lia
   .lia
  .exact rj I f (by lia)
def L5{L:Int}(g:yb A)(b:yb B)(h:HJ l)(c:HJ L)(a:0<l)(h1:0<L)(e:A*l=B*L):l=L:=by
 have d:l∣L:=mI (k:=l) (n:=L) (m:=B) ⟨A,by grind⟩ (uL b h (by lia));have f:L∣l:=mI (k:=L) (n:=l) (m:=A) ⟨B,by grind⟩ (uL g c (by lia));have:=VN h1 d;have:=VN a f;lia
def Tame(k:Int):Prop:=(∃f s,yb f/\0<f/\1<=s/\k=f*(s*s))\/(∃f P,yb f/\0<f/\aR P=true/\P<1073741824/\k=f*P)
def Bl{b:Int}{fs:List (Int×Int)}(h:Tame k)(y:1<=k)(I:yB k fs l b)(t:∀u∈fs,u.1<32768)(w:oU l b 32768=none):l<1073741824\/rt l*rt l=l:=by
 rcases W6 l 1073741824 with z|z
 .exact .inl z
 have q:=rj I w z;have a:yb (pp fs):=zu fun u g=>⟨(ip I.rise u g).1,t u g⟩;have d:=I.prod;rcases h with⟨f,s,h1,h2,c,p⟩|⟨f,P,h1,h2,c,p,B⟩
 .obtain⟨A,L,o,i,x,j,r⟩:=yK c;have e:l=L*L:=L5 a (ka h1 (ka o o)) q (IB i i) (by lia) (Wj j j) (by rw[d,p,r];grind);right;have:L=rt l:=kc (by lia) (by lia) (by rw[e];grind);rw[<-this,e]
 .have v:l∣P:=mI (k:=l) (n:=P) (m:=f) ⟨pp fs,by grind⟩ (uL h1 q (by lia));have:=VN (by have:=ao c;lia) v;lia
def lI(c:Int×Int)(u:Int×Int):Int×Int:=(if u.2%2=1 then c.1*u.1 else c.1,c.2*u.1^(u.2/2).toNat)
theorem zq:∀{us:List (Int×Int)} {a b:Int} {c:Int×Int},fM a us b->kF c.1->(∀q,aR q=true->a<q->¬q∣c.1)->0<c.2 ->
  kF (us.foldl lI c).1/\0<(us.foldl lI c).2/\(us.foldl lI c).1*((us.foldl lI c).2*(us.foldl lI c).2)=c.1*(c.2*c.2)*pp us
 |[],a,b,c,_,f,_,i=>⟨f,i,by simp[pp]⟩
 |u::us,a,b,c,p,f,g,i=>by
  obtain⟨t,h,w,r⟩:=p;have n:=ao h;have e:0<u.1^(u.2/2).toNat:=Ws (by lia)
  have o:kF (lI c u).1:=by
   unfold lI;dsimp only;split
   .exact kM f h (g _ h t)
   .exact f
  have s:∀q,aR q=true->u.1<q->¬q∣(lI c u).1:=fun q h1 h2 d=>by
   unfold lI at d;dsimp only at d;split at d
   .rcases euclid h1 d with z|z
    .exact g q h1 (by lia) z
    .have:=VN (by lia) z;lia
   .exact g q h1 (by lia) d
  have v:0<(lI c u).2:=Wj i e;obtain⟨k,m,l⟩:=zq (c:=lI c u) r o s v;refine⟨k,m,?_⟩;rw[aaE,l,pp]
  have j:(if u.2%2=1 then u.1 else 1)*(u.1^(u.2/2).toNat*u.1^(u.2/2).toNat)=u.1^u.2.toNat:=by
   rw[<-WK];by_cases z:u.2%2=1
   .rw[Vo z,show u.2.toNat=((u.2/2).toNat+(u.2/2).toNat)+1 by lia,VS,V6]
   .rw[Vm z,Wq,show u.2.toNat=(u.2/2).toNat+(u.2/2).toNat by lia]
  unfold lI;dsimp only;rw[<-j];generalize u.1^(u.2/2).toNat=y;split<;>grind
def o_(k:Int):List (Int×Int)×Int :=
 if 1<(bj k 32768).2/\(bj k 32768).2<1073741824 then ((bj k 32768).1++[((bj k 32768).2,1)],1) else ((bj k 32768).1,rt (bj k 32768).2)
def yA(d:1<=k)(h:Tame k):(1<(bj k 32768).2/\(bj k 32768).2<1073741824\/rt (bj k 32768).2*rt (bj k 32768).2=(bj k 32768).2)/\(∃b,fM 1 (o_ k).1 b)/\0<(o_ k).2/\pp (o_ k).1*((o_ k).2*(o_ k).2)=k:=by
 obtain⟨b,I,f⟩:=kh (k:=k) (e:=32768) d;have l:=Bl h d I (qI d (by decide)) f;have g:=I.pos;have a:=I.prod;unfold o_;by_cases h1:1<(bj k 32768).2/\(bj k 32768).2<1073741824
 .rw[Vo h1];obtain⟨i,p2⟩:=rf I f h1.1 h1.2;refine⟨.inl h1,⟨_,fM.snoc i (by dsimp only;decide) p2 (b':=(bj k 32768).2+1) (by dsimp only;lia) I.rise⟩,by dsimp only;decide,?_⟩;dsimp only;rw[pQ];dsimp only;rw[show(1:Int).toNat=1 from rfl,VS,V8,Wq,VX,VX,a]
 .rw[Vm h1]
  have c:rt (bj k 32768).2*rt (bj k 32768).2=(bj k 32768).2:=by
   rcases l with z|z
   .have e1:(bj k 32768).2=1:=by lia
    rw[e1];have:(1:Int)=rt 1:=kc (by decide) (by decide) (by decide);rw[<-this];rfl
   .exact z
  have j:=iw (bj k 32768).2;refine⟨.inr c,⟨b,I.rise⟩,?_,?_⟩
  .dsimp only;rcases X3 j with z|z
   .exact z
   .rw[<-z] at c;lia
  .dsimp only;rw[c,a]
def HN(t b:Int):Int×Int:=(o_ (t.natAbs*b)).1.foldl lI (if 0<t then 1 else -1,(o_ (t.natAbs*b)).2)
def C0{t b:Int}(x:t≠0)(p:0<b)(a:Tame (t.natAbs*b))(k:kF f)(g:0<s)(e:t*b=f*(s*s)):HN t b=(f,s):=by
 have l:1<=(t.natAbs:Int)*b:=by
  have:0<(t.natAbs:Int)*b:=Wj (by lia) p;lia
 obtain⟨_,⟨b',o⟩,j,hp⟩:=yA l a;have m:kF (if 0<t then (1:Int) else -1):=by split;exact mD;exact pT mD
 have r:∀q,aR q=true->1<q->¬q∣(if 0<t then (1:Int) else -1):=fun q h1 h2 d=>by
  split at d
  .have:=VN (by decide) d;lia
  .have:=VN (by decide) (WX.mp d);lia
 obtain⟨u,i,h⟩:=zq (c:=(if 0<t then (1:Int) else -1,(o_ (t.natAbs*b)).2)) o m r j
 have n:(HN t b).1*((HN t b).2*(HN t b).2)=f*(s*s):=by
  show((o_ (t.natAbs*b)).1.foldl lI _).1*(((o_ (t.natAbs*b)).1.foldl lI _).2*((o_ (t.natAbs*b)).1.foldl lI _).2)=_;rw[h,<-e];dsimp only;rw[show(if 0<t then (1:Int) else -1)*((o_ (t.natAbs*b)).2*(o_ (t.natAbs*b)).2)*pp (o_ (t.natAbs*b)).1=(if 0<t then (1:Int) else -1)*(pp (o_ (t.natAbs*b)).1*((o_ (t.natAbs*b)).2*(o_ (t.natAbs*b)).2)) by grind,hp];by_cases z:0<t
  .rw[Vo z,show(t.natAbs:Int)=t by lia];lia
  .rw[Vm z,show(t.natAbs:Int)=-t by lia];grind
 obtain⟨v,w⟩:=wU u k i g n;exact aap v w
def bQ{a:Int}(hp:2<=p)(h:¬p∣a):cls a p=(0,if p=2 then a%8 else bf a p):=by
 unfold cls;rw[mh hp h];rfl
def w8(hp:aR p=true)(b:x≠0)(c:cls y p=(0,1)):ay x y p=true:=by
 have a:=ao hp;by_cases h2:p=2
 .subst h2;rw[aU,c];exact C4 _ (cH b) (0,1) (by decide)
 .rw[aY (by lia) h2,c];exact Jh _ (cc a h2 b) (0,1) (by decide) _ (rS a)
def FQ{a:Int}(hp:aR p=true)(h:¬p∣a):bf (a*a) p=1:=by
 rw[dE hp];rcases bO h with z|z<;>rw[z]<;>rfl
def La:∀c∈CO,∀a∈[(1:Int),-1],∀b∈[(1:Int),-1],kG (a7 (0,a) c 3) (a7 (0,b) c 3) (a*b)=true:=by decide
def Kb:∀a∈[(1:Int),3,5,7],∀b∈[(1:Int),3,5,7],eT (a7 (1,a) (0,(b+2*a)%8) 2) (a7 (0,b) (0,(b+2*a)%8) 2)=true:=by decide
def Lo:∀a∈[(1:Int),3,5,7],∀b∈[(1:Int),3,5,7],eT (a7 (0,a) (0,(b+4)%8) 2) (a7 (0,b) (0,(b+4)%8) 2)=true:=by decide
def LS:∀c∈C2,∀b∈[(1:Int),3,5,7],eT (a7 c (0,b) 2) (a7 (0,b) (0,b) 2)=true:=by decide
def Kg:∀c∈[(1:Int),3,5,7],∀a∈[(1:Int),3,5,7],eT (a7 (0,a) (1,c) 2) (a7 (0,(2*c-a)%8) (1,c) 2)=true:=by decide
def Km:∀c∈[(1:Int),3,5,7],∀a∈[(1:Int),3,5,7],eT (a7 (0,a) (0,c) 2) (a7 (0,(4-a)%8) (0,c) 2)=true:=by decide
def Mv:∀c∈C2,∀a∈[(1:Int),3,5,7],eT (a7 (0,a) c 2) (a7 (0,(0-a)%8) c 2)=true:=by decide
def sC(h:u%2=1):u%8∈[(1:Int),3,5,7]:=by
 have:u%8=1\/u%8=3\/u%8=5\/u%8=7:=by lia
 rcases this with z|z|z|z<;>rw[z]<;>decide
def xP{X:Int}(f:X≠0)(h:X%2=0):(∃x,x%2=1/\X=2*x/\cls X 2=(1,x%8))\/(∃x,x%2=1/\X=4*x/\cls X 2=(0,x%8))\/X%8=0:=by
 obtain⟨h1,h2,g⟩:=eB (d:=2) (by decide) f;have b:(aV X 2).2%2=1:=by lia
 have a:cls X 2=((aV X 2).1%2,(aV X 2).2%8):=rfl;generalize (aV X 2).2=x at *;generalize (aV X 2).1=v at *
 have c:v.toNat=0\/v.toNat=1\/v.toNat=2\/∃m,v.toNat=m+3:=by
  rcases aa6 v.toNat 3 with z|z
  .lia
  .exact .inr (.inr (.inr ⟨v.toNat-3,by lia⟩))
 rcases c with e|e|e|⟨m,e⟩
 .rw[e] at h2;lia
 .rw[e] at h2;exact .inl ⟨x,b,by lia,by rw[a,show v=1 by lia];rfl⟩
 .rw[e] at h2;exact .inr (.inl ⟨x,b,by lia,by rw[a,show v=2 by lia];rfl⟩)
 .rw[e,WK] at h2;right;right;have:(2:Int)^3=8:=by decide
  rw[this,<-VZ] at h2;rw[h2];exact Int.mul_emod_left ..
def Hw(b:A≠0)(e:B≠0)(a:A+B≠0)(h:¬(A%2=0/\B%2=0)):ay (A*(A+B)) (B*(A+B)) 2=true:=by
 have key:∀A B:Int,A≠0->A%2=0->B%2=1->A+B≠0->ay (A*(A+B)) (B*(A+B)) 2=true:=fun A B b ha d a=>by
  have e:B≠0:=by lia
  have cB:cls B 2=(0,B%8):=by rw[bQ (by decide) (by lia)];rfl
  have g:cls (A+B) 2=(0,(A+B)%8):=by rw[bQ (by decide) (by lia)];rfl
  rw[aU,aK aO b a,aK aO e a,cB,g];rcases xP b ha with⟨x,h1,h2,c⟩|⟨x,h1,h2,c⟩|h1
  .rw[c,show(A+B)%8=(B%8+2*(x%8))%8 by lia];exact Kb _ (sC h1) _ (sC d)
  .rw[c,show(A+B)%8=(B%8+4)%8 by lia];exact Lo _ (sC h1) _ (sC d)
  .rw[show(A+B)%8=B%8 by lia];exact LS _ (cH b) _ (sC d)
 rcases Xj A with ha|ha
 .exact key A B b ha (by lia) a
 .rcases Xj B with d|d
  .have:=key B A e d ha (by lia);rw[aa7] at this;rw[bA (.inr aO) (Vn e a) (Vn b a)];exact this
  .have f:cls A 2=(0,A%8):=by rw[bQ (by decide) (by lia)];rfl
   have cB:cls B 2=(0,B%8):=by rw[bQ (by decide) (by lia)];rfl
   rw[aU,aK aO b a,aK aO e a,f,cB];rcases xP a (by lia) with⟨x,h1,h2,c⟩|⟨x,h1,h2,c⟩|h1
   .rw[c,show B%8=(2*(x%8)-A%8)%8 by lia];exact Kg _ (sC h1) _ (sC ha)
   .rw[c,show B%8=(4-A%8)%8 by lia];exact Km _ (sC h1) _ (sC ha)
   .rw[show B%8=(0-A%8)%8 by lia];exact Mv _ (cH a) _ (sC ha)
def HH(hp:aR p=true)(h2:p≠2)(f:A≠0)(g:B≠0)(d:A+B≠0)(h:¬(p∣A/\p∣B)):ay (A*(A+B)) (B*(A+B)) p=true:=by
 have b:=ao hp
 have key:∀A B:Int,A≠0->B≠0->A+B≠0->p∣A->¬p∣B->ay (A*(A+B)) (B*(A+B)) p=true:=fun A B f g d ha c=>by
  have a:¬p∣A+B:=fun z=>c (by have:=Xx z ha;rwa [show A+B-A=B by lia] at this);refine w8 hp (Vn f d) ?_;rw[bQ b (fun z=>by rcases euclid hp z with w|w;exact c w;exact a w),Vm h2];rw[lS (l:=B*B) (uY.mpr (by rw[show B*(A+B)-B*B=A*B by grind];exact V1 ha ⟨B,rfl⟩)),FQ hp c]
 by_cases ha:p∣A
 .exact key A B f g d ha fun z=>h ⟨ha,z⟩
 .by_cases c:p∣B
  .have:=key B A g f (by lia) c ha;rw[aa7] at this;rw[bA (.inr hp) (Vn g d) (Vn f d)];exact this
  .by_cases a:p∣A+B
   .have e:bf A p*bf B p=bf (-1) p:=by
     rw[<-dE hp,lS (l:=-1*(A*A)) (uY.mpr (by rw[show A*B - -1*(A*A)=A*(A+B) by grind];exact V1 a ⟨A,V6 ..⟩)),dE hp,FQ hp ha,VX]
    rw[aY (by lia) h2,aK hp f d,aK hp g d,bQ b ha,bQ b c,Vm h2,Vm h2,bK h2,bK h2,<-e];refine La _ (cc b h2 d) _ ?_ _ ?_
    .rcases bO ha with z|z<;>rw[z]<;>decide
    .rcases bO c with z|z<;>rw[z]<;>decide
   .exact iI hp h2 (fun z=>by rcases euclid hp z with w|w;exact ha w;exact a w) (fun z=>by rcases euclid hp z with w|w;exact c w;exact a w)
def iH{a b:Int}(h:Pl p)(ha:a≠0)(d:b≠0)(c:r≠0):ay a (b*r*r) p=ay a b p:=by
 rw[bA h (Vn (Vn d c) c) ha,mK h d c,bA h ha d]
theorem sV{p:Int}(hp:aR p=true):∀(n:Nat) (A B:Int),A.natAbs<=n->A≠0->B≠0->A+B≠0->ay (A*(A+B)) (B*(A+B)) p=true
 |0,A,B,m,f,d,g=>by lia
 |n+1,A,B,m,f,d,g=>by
  have l:=ao hp;by_cases h:p∣A/\p∣B
  .obtain⟨⟨a,ha⟩,⟨b,k⟩⟩:=h;subst ha k;have h1:a≠0:=fun z=>f (by rw[z,Wg]);have h2:b≠0:=fun z=>d (by rw[z,Wg]);have e:a+b≠0:=fun z=>g (by rw[<-Xw,z,Wg])
   have i:a.natAbs<=n:=by
    have:(p*a).natAbs=p.natAbs*a.natAbs:=VT ..;have o:2*a.natAbs<=p.natAbs*a.natAbs:=Yd _ (by lia);lia
   have j:=sV hp n a b i h1 h2 e;have c:p≠0:=by lia
   rw[show p*a*(p*a+p*b)=a*(a+b)*p*p by grind,show p*b*(p*a+p*b)=b*(a+b)*p*p by grind,
    mK (.inr hp) (Vn h1 e) c,iH (.inr hp) (Vn h1 e) (Vn h2 e) c]
   exact j
  .by_cases h2:p=2
   .subst h2;exact Hw f d g fun z=>h ⟨VL z.1,VL z.2⟩
   .exact HH hp h2 f d g h
def CA(hp:Pl p)(c:A≠0)(b:B≠0)(a:A+B≠0):ay (A*(A+B)) (B*(A+B)) p=true:=by
 rcases hp with rfl|hp
 .rw[aM]
  have:0<(A+B)*(A+B):=by
   rcases WB a with z|z
   .exact XE z z
   .exact Wj z z
  rw[Int.add_mul] at this;by_cases z:0<A*(A+B)
  .simp[z]
  .have:0<B*(A+B):=by lia
   simp[this]
 .exact sV hp _ A B (Vu _) c b a
def DQ{a b w:Int}(hp:Pl p)(ha:a≠0)(f:b≠0)(c:w≠0)(e:a*x*x+b*y*y=w):ay (a*w) (b*w) p=true:=by
 by_cases g:x=0
 .subst g;have h:w=b*y*y:=by rw[<-e];grind
  have d:y≠0:=by rintro rfl;exact c (by rw[h];grind)
  rw[show b*w=(b*y)*(b*y) by rw[h];grind];exact rO hp (Vn ha c) (Vn f d)
 .by_cases d:y=0
  .subst d;have h:w=a*x*x:=by rw[<-e];grind
   rw[bA hp (Vn f c) (Vn ha c),show a*w=(a*x)*(a*x) by rw[h];grind];exact rO hp (Vn f c) (Vn ha g)
  .have:=CA (A:=a*x*x) (B:=b*y*y) hp (Vn (Vn ha g) g) (Vn (Vn f d) d) (by rw[e];exact c);rw[e,show a*x*x*w=a*w*x*x by grind,show b*y*y*w=b*w*y*y by grind,mK hp (Vn ha c) g,iH hp (Vn ha c) (Vn f c) d] at this;exact this
def BX{a b:Int}(h:Pl p)(ha:a≠0)(e:b≠0)(d:c≠0):ay (a*b) c p=(ay a c p==ay b c p):=by
 rw[bA h d (Vn ha e),cY h d ha e,bA h ha d,bA h e d]
def mW{a:Int}(h:Pl p)(ha:a≠0):ay a a p=ay a (-1) p:=by
 have h1:=rM h ha;rw[show(0:Int)-a=-1*a by lia,cY h ha (by decide) ha] at h1;have:=eq_of_beq h1;exact this.symm
def tj(a b c p:Int):Bool:=ay (-a*c) (-b*c) p
def Kq(k p:Int):Prop:=cls k p=(0,1)
instance{k p:Int}:Decidable (Kq k p):=inferInstanceAs (Decidable (cls k p=(0,1)))
def iO{P:Int->Prop}{a:Int}{l:List Int}:(∃x,x∈a::l/\P x)↔P a\/∃x,x∈l/\P x:=by
 constructor
 .rintro⟨x,h,q⟩;rcases Vq.mp h with z|z
  .subst z;exact .inl q
  .exact .inr ⟨x,z,q⟩
 .rintro(q|⟨x,h,q⟩)
  .exact⟨a,VC ..,q⟩
  .exact⟨x,Vw _ h,q⟩
def Ea:List Int->Int
 |[]=>0
 |[a]=>a
 |a::l=>if Ea l<a then Ea l else a
def EM:List Int->Int
 |[]=>0
 |[a]=>a
 |a::l=>if a<EM l then EM l else a
theorem Ao:∀l:List Int,Ea l<0↔∃x∈l,x<0
 |[]=>by simp[Ea]
 |[a]=>by simp[Ea]
 |a::b::l=>by
  have c:=Ao (b::l);unfold Ea;rw[iO,<-c];split<;>lia
theorem AK:∀l:List Int,0<EM l↔∃x∈l,0<x
 |[]=>by simp[EM]
 |[a]=>by simp[EM]
 |a::b::l=>by
  have c:=AK (b::l);unfold EM;rw[iO,<-c];split<;>lia
def cz(l:List Int)(p:Int):Bool:=if p=0 then decide (Ea l<0)&&decide (0<EM l) else match l with
 |[]=>true
 |[_]=>false
 |[a,b]=>decide (Kq (-a*b) p)
 |[a,b,c]=>tj a b c p
 |[a,b,c,d]=>!(decide (Kq (a*b*c*d) p)) || tj a b c p
 |_=>true
def jO{l:List Int}(a:p≠0)(b:5<=l.length):cz l p=true:=by
 unfold cz;rw[Vm a]
 match l,b with
 |_::_::_::_::_::_,_=>rfl
def p9{a:Int}(b:p≠0):cz [a] p=false:=by unfold cz;rw[Vm b]
def qd{a b:Int}(c:p≠0):cz [a,b] p=decide (Kq (-a*b) p):=by unfold cz;rw[Vm c]
def dR{a b:Int}(d:p≠0):cz [a,b,c] p=tj a b c p:=by unfold cz;rw[Vm d]
def jH{a b:Int}(e:p≠0):cz [a,b,c,d] p=(!(decide (Kq (a*b*c*d) p)) || tj a b c p):=by unfold cz;rw[Vm e]
def dJ{l:List Int}:cz l 0=true↔(∃x∈l,x<0)/\∃x∈l,0<x:=by
 unfold cz;rw[Vo rfl,Wi,WJ,WJ,Ao,AK]
def dC:List Int->List Int->Int
 |a::l,x::xs=>a*x*x+dC l xs
 |_,_=>0
def ev:List Int->Int->Int
 |[],_=>0
 |c::cs,x=>c+x*ev cs x
def qo(r:Int):List Int->List Int
 |[]=>[]
 |[_]=>[]
 |_::d::cs=>ev (d::cs) r::qo r (d::cs)
theorem CH(r:Int):∀(c:Int) (cs:List Int),(qo r (c::cs)).length=cs.length
 |_,[]=>rfl
 |_,d::cs=>by simp only[qo,Wl];rw[CH r d cs]
theorem zI(r:Int):∀(c d:Int) (cs:List Int),(qo r (c::d::cs)).getLast?=(c::d::cs).getLast?
 |c,d,[]=>by simp[qo,ev]
 |c,d,e::cs=>by
  have a:=zI r d e cs;have h1:qo r (c::d::e::cs)=ev (d::e::cs) r::qo r (d::e::cs):=rfl;rw[h1,aaB,<-a];have h2:qo r (d::e::cs)=ev (e::cs) r::qo r (e::cs):=rfl;rw[h2,aaB]
theorem IK(r x:Int):∀cs:List Int,ev cs x-ev cs r=(x-r)*ev (qo r cs) x
 |[]=>by simp[ev,qo]
 |[c]=>by simp[ev,qo]
 |c::d::cs=>by
  have a:=IK r x (d::cs);have h1:qo r (c::d::cs)=ev (d::cs) r::qo r (d::cs):=rfl;rw[h1];have e1:ev (c::d::cs) x=c+x*ev (d::cs) x:=rfl;have e2:ev (c::d::cs) r=c+r*ev (d::cs) r:=rfl;have e3:ev (ev (d::cs) r::qo r (d::cs)) x=ev (d::cs) r+x*ev (qo r (d::cs)) x:=rfl;rw[e1,e2,e3];generalize ev (d::cs) x=u at *;generalize ev (d::cs) r=v at *;generalize ev (qo r (d::cs)) x=t at *;grind
theorem MO{p:Int}(hp:aR p=true):∀(f cs:List Int),cs.length<=f.length->f.Pairwise (fun a b=>¬p∣a-b)->(∀r∈f,p∣ev cs r)->∀c,cs.getLast?=some c->p∣c
 |_,[],_,_,_,c,o=>by simp at o
 |[],_::_,h,_,_,_,_=>by simp at h
 |r::f,[c],_,_,g,d,l=>by
  have:=g r (VC ..);simp[ev] at this;simp at l;rw[<-l];exact this
 |r::f,c::d::cs,q,i,g,e,he=>by
  obtain⟨h1,h2⟩:=W9.mp i;refine MO hp f (qo r (c::d::cs)) (by rw[CH];simpa using q) h2 (fun s j=>?_) e (by rw[zI];exact he);have n:=g s (Vw _ j);have m:=g r (VC ..);have k:=Xx n m;rw[IK] at k;rcases euclid hp k with z|z
  .exact absurd (by rw[show r-s=-(s-r) by lia];exact WX.mpr z) (h1 s j)
  .exact z
def xn(n:Nat):List Int:=-1::(List.replicate n 0++[1])
theorem CY(x:Int):∀n:Nat,ev (List.replicate n 0++[1]) x=x^n
 |0=>by simp[ev]
 |n+1=>by
  rw[WR,Zp];show 0+x*ev (List.replicate n 0++[1]) x=_;rw[CY x n,VS,V6];lia
def JJ(hp:aR p=true)(h2:p≠2):∃g,2<=g/\g<p/\bf g p=-1:=by
 have u:=fG hp h2;have k:=ao hp;apply Vr;intro q
 have c:∀g:Int,1<=g->g<p->p∣g^((p-1)/2).toNat-1:=fun g v f=>by
  have e:¬p∣g:=fun z=>by have:=VN (by lia) z;lia
  refine(dY hp h2 e).mp ?_;rcases bO e with z|z
  .exact z
  .refine absurd ⟨g,?_,f,z⟩ q;rcases W6 g 2 with w|w
   .have:g=1:=by lia
    subst this;rw[lB hp h2 ⟨0,by lia⟩] at z;cases z
   .exact w
 obtain⟨m,l⟩:∃m:Nat,((p-1)/2).toNat=m+1:=⟨((p-1)/2).toNat-1,by lia⟩
 have h1:=MO hp ((List.range (p-1).toNat).map fun i:Nat=>(i:Int)+1) (xn m) (by simp[xn];lia) (by
   rw[YG];refine XI ?_ (Zo (n:=(p-1).toNat));intro a b ha o d z;have h:=Wz.mp ha;have t:=Wz.mp o;have:=bV z (by lia) (by lia)
   exact d (by lia)) (fun r j=>by
   obtain⟨i,hi,rfl⟩:=VG.mp j;have s:=Wz.mp hi;have:=c ((i:Int)+1) (by lia) (by lia);rw[l] at this;show p∣-1+((i:Int)+1)*ev (List.replicate m 0++[1]) _;rw[CY,V6,<-VS];rw[show -1+((i:Int)+1)^(m+1)=((i:Int)+1)^(m+1)-1 by lia]
   exact this) 1 (by show((-1::List.replicate m 0)++[1]).getLast?=some 1;exact List.getLast?_concat)
 have:=VN (by decide) h1;lia
def P8:List Int:=[2,3,5,7,11,13,17,19]
def qY:∀r∈P8,aR r=true:=by
 intro r a;simp only[P8,Vq,VA,Wb] at a;rcases a with rfl|rfl|rfl|rfl|rfl|rfl|rfl|rfl
 .exact aO
 .exact iT (m:=0) (n:=3) (by decide) (by decide) (by decide) (by decide)
 .exact iT (m:=0) (n:=5) (by decide) (by decide) (by decide) (by decide)
 .exact iT (m:=0) (n:=7) (by decide) (by decide) (by decide) (by decide)
 .exact iT (m:=1) (n:=11) (by decide) (by decide) (by decide) (by decide)
 .exact iT (m:=1) (n:=13) (by decide) (by decide) (by decide) (by decide)
 .exact iT (m:=1) (n:=17) (by decide) (by decide) (by decide) (by decide)
 .exact iT (m:=1) (n:=19) (by decide) (by decide) (by decide) (by decide)
def sN(u:Int×Int):Int×(Int×Int):=((HN u.1 u.2).1,fr (HN u.1 u.2).2 u.2)
theorem yQ:∀(a b:List (Int×Int)),pp (a++b)=pp a*pp b
 |[],b=>by simp[pp]
 |u::a,b=>by rw[Zp,pp,pp,yQ a b,VZ]
theorem nH:∀{us:List (Int×Int)} {a b:Int},fM a us b->∀i,∃b',fM a (us.take i) b'
 |us,a,b,h,0=>⟨a+1,by rw[ZP];show a<a+1;lia⟩
 |[],a,b,h,i+1=>⟨b,h⟩
 |u::us,a,b,h,i+1=>by
  obtain⟨b',h'⟩:=nH h.2.2.2 i;exact⟨b',h.1,h.2.1,h.2.2.1,h'⟩
theorem nY:∀{us:List (Int×Int)} {a b:Int},fM a us b->∀i,∃a',fM a' (us.drop i) b/\a<=a'
 |us,a,b,h,0=>⟨a,h,Wo _⟩
 |[],a,b,h,i+1=>⟨a,h,Wo _⟩
 |u::us,a,b,h,i+1=>by
  obtain⟨a',h',c⟩:=nY h.2.2.2 i;exact⟨a',h',by have:=h.1;lia⟩
def i_{a b:Int}(ha:0<a)(c:1<=b):a<=a*b:=by
 have:a*1<=a*b:=VB c (by lia);lia
def HR{us:List (Int×Int)}{b a R:Int}(m:fM 1 us b)(j:0<R)(g:a=1\/a=-1)(i:Nat):
  ((us.take i).foldl lI (a,R)).1.natAbs<=(pp us*(R*R)).natAbs/\0<((us.take i).foldl lI (a,R)).2/\((us.take i).foldl lI (a,R)).2<=pp us*(R*R):=by
 obtain⟨b',h'⟩:=nH m i;obtain⟨k,h,v⟩:=nY m i;have r:kF a:=by rcases g with z|z<;>rw[z];exact mD;exact pT mD
 have t:∀q,aR q=true->1<q->¬q∣a:=fun q h1 h2 d=>by
  rcases g with z|z
  .rw[z] at d;have:=VN (by decide) d;lia
  .rw[z] at d;have:=VN (by decide) (WX.mp d);lia
 obtain⟨s,f,l⟩:=zq (c:=(a,R)) h' r t j;have e:pp us=pp (us.take i)*pp (us.drop i):=by rw[<-yQ,Wv]
 have n:=iX (by decide) h';have p2:=iX (show 0<=k by lia) h;have RR:=Wj j j;dsimp only at l;generalize (us.take i).foldl lI (a,R)=c at *
 have w:(c.1.natAbs:Int)*(c.2*c.2)=pp (us.take i)*(R*R):=by
  have h1:0<c.2*c.2:=Wj f f;have h2:0<pp (us.take i)*(R*R):=Wj n RR;generalize c.2*c.2=X at *;generalize R*R=Y at *;generalize pp (us.take i)=Z at *;have d:=congrArg Int.natAbs l;rw[VT,VT,VT,show a.natAbs=1 by rcases g with z|z<;>rw[z]<;>rfl,Nat.one_mul] at d;have o:((c.1.natAbs*X.natAbs:Nat):Int)=((Y.natAbs*Z.natAbs:Nat):Int):=by rw[d]
  rw[WN,WN,show(X.natAbs:Int)=X by lia,show(Y.natAbs:Int)=Y by lia,show(Z.natAbs:Int)=Z by lia] at o;rw[o,V6]
 have u:pp (us.take i)*(R*R)<=pp us*(R*R):=by
  rw[e];exact Wm (i_ n (by lia)) (by lia)
 have p:0<(c.1.natAbs:Int):=by have:=s.1;lia
 have c2:0<c.2*c.2:=Wj f f;have m1:=i_ p (show 1<=c.2*c.2 by lia);have m2:c.2*c.2<=(c.1.natAbs:Int)*(c.2*c.2):=by rw[V6 (c.1.natAbs:Int)];exact i_ c2 (by lia)
 have m3:=i_ f (show 1<=c.2 by lia);exact⟨by lia,f,by lia⟩
def Hn{us:List (Int×Int)}{b:Int}(c:fM 1 us b){u:Int×Int}(a:us[i]?=some u):2<=u.1/\1<=u.2/\u.1^(u.2/2).toNat<=pp us/\u.1<=pp us/\(u.2:Int)<pp us:=by
 have j:=ip c u (Vv a);have h2:=ao j.1;have hi:i<us.length:=(VE.mp a).1
 have e:us.drop i=u::us.drop (i+1):=by
  rw[Y1 hi];rw[Vz hi] at a;rw[VP a]
 obtain⟨b',h'⟩:=nH c i;obtain⟨h,f,p⟩:=nY c (i+1)
 have e2:pp us=pp (us.take i)*(u.1^u.2.toNat*pp (us.drop (i+1))):=by
  have:pp us=pp (us.take i++us.drop i):=by rw[Wv]
  rw[this,yQ,e,pp]
 have r:=iX (by decide) h';have p2:=iX (show 0<=h by lia) f;have k:0<u.1^u.2.toNat:=Ws (by lia)
 have l:u.1^u.2.toNat<=pp us:=by
  rw[e2];have:=i_ k (show 1<=pp (us.drop (i+1)) by lia);have q:=Wj k p2;have w:u.1^u.2.toNat*pp (us.drop (i+1))<=pp (us.take i)*(u.1^u.2.toNat*pp (us.drop (i+1))):=by rw[V6 (pp (us.take i))];exact i_ q (by lia)
  lia
 have mono:∀m n:Nat,m<=n->u.1^m<=u.1^n:=fun m n o=>by
  obtain⟨d,rfl⟩:∃d,n=m+d:=⟨n-m,by lia⟩;rw[WK];exact i_ (Ws (by lia)) (by have:=Ws (n:=u.1) (m:=d) (by lia);lia)
 refine⟨h2,j.2,aas (mono _ _ (by lia)) l,?_,?_⟩
 .have:=mono 1 u.2.toNat (by lia);rw[VS,V8,Wq] at this;lia
 .have:((u.2.toNat:Nat):Int)<u.1^u.2.toNat:=by
   have g:∀n:Nat,(n:Int)<u.1^n:=fun n=>by
    induction n with
    |zero=>rw[V8];decide
    |succ n s =>
     rw[VS];have:u.1^n*2<=u.1^n*u.1:=VB h2 (XH (Ws (by lia)));lia
   exact g _
  lia
def FN{α:Type}{l:List α}{a:α}(h:l[i]?=some a):l.drop i=a::l.drop (i+1):=by
 have hi:i<l.length:=(VE.mp h).1;rw[Y1 hi];rw[Vz hi] at h;rw[VP h]
theorem yn:∀l:List Int,0<l.length->Ea l∈l/\∀a∈l,Ea l<=a
 |[a],_=>by simp[Ea]
 |a::b::l,_=>by
  obtain⟨h1,h2⟩:=yn (b::l) (by simp);unfold Ea;split
  .refine⟨Vw _ h1,fun c d=>?_⟩;rcases Vq.mp d with z|z
   .lia
   .exact h2 c z
  .refine⟨VC ..,fun c d=>?_⟩;rcases Vq.mp d with z|z
   .lia
   .have:=h2 c z;lia
theorem yN:∀l:List Int,0<l.length->EM l∈l/\∀a∈l,a<=EM l
 |[a],_=>by simp[EM]
 |a::b::l,_=>by
  obtain⟨h1,h2⟩:=yN (b::l) (by simp);unfold EM;split
  .refine⟨Vw _ h1,fun c d=>?_⟩;rcases Vq.mp d with z|z
   .lia
   .exact h2 c z
  .refine⟨VC ..,fun c d=>?_⟩;rcases Vq.mp d with z|z
   .lia
   .have:=h2 c z;lia
def F5{b:Int}(hp:aR p=true)(h2:p≠2)(c:¬p∣b):cls (p*b) p=(1,bf b p):=by
 have a:=ao hp;unfold cls;rw[show p*b=b*p^1 by rw[Int.pow_one];exact V6 ..,ma a c,Vm h2];rfl
def md{a:Int}(hp:aR p=true)(h2:p≠2)(ha:¬p∣a):cls a p=(0,bf a p):=by
 rw[bQ (ao hp) ha,Vm h2]
def mx{a b:Int}(hp:aR p=true)(h2:p≠2)(ha:¬p∣a)(c:¬p∣b):ay a (p*b) p=decide (bf a p=1):=by
 have d:=ao hp;rw[aY (by lia) h2,F5 hp h2 c,md hp h2 ha];unfold kG;simp
def dO(hp:aR p=true):¬p∣-1:=fun h=>by
 have:=ao hp;have:=VN (by decide) (WX.mp h);lia
def gh(hp:aR p=true)(h2:p≠2):p%2=1:=by
 apply Vr;intro a;rcases bT.mp hp with z|z
 .lia
 .lia
def c8{a:Int}(h:a%2=1):cls a 2=(0,a%8):=by
 rw[bQ (by decide) (by lia),Vo rfl]
def Pg(hp:aR p=true)(h2:p≠2):ay p (-1) p=!decide (p%4=3)/\ay (-p) (-1) p=!decide (p%4=3):=by
 have b:=ao hp;have m1:=dO hp;have a:¬p∣1:=fun h=>m1 (WX.mpr h)
 have key:decide (bf (-1) p=1)=!decide (p%4=3):=by
  rw[BL hp h2];by_cases z:p%4=3
  .rw[Vo z];simp[z]
  .rw[Vm z];simp[z]
 constructor
 .rw[<-bA (.inr hp) (by lia) (by decide)];have:=mx hp h2 m1 a;rw[VX] at this;rw[this,key]
 .rw[<-bA (.inr hp) (by lia) (by decide)];have:=mx hp h2 m1 m1;rw[show p*-1=-p by lia] at this;rw[this,key]
def Qf(b:p%2=1):ay p (-1) 2=!decide (p%4=3):=by
 rw[aU,c8 b,c8 (a:=-1) (by decide)];have e:p%8%4=p%4:=by lia
 unfold eT;simp only[e];by_cases z:p%4=3
 .simp[z,b1]
 .simp[z,b1]
def Pj(h:0<p):ay p (-1) 0=true/\ay (-p) (-1) 0=false:=by
 rw[aM,aM];constructor
 .simp[h]
 .simp;lia
def mQ(L:List Int)(f:Int->Bool):Bool:=decide ((L.filter fun p=>!f p).length%2=0)
def du(p:Int)(L:List Int)(f:Int->Bool):mQ (p::L) f=(f p==mQ L f):=by
 unfold mQ;rw[Zn];cases f p
 .simp only[Bool.not_false,Yr,Wl];by_cases h:(L.filter fun p=>!f p).length%2=0
  .have:¬((L.filter fun p=>!f p).length+1)%2=0:=by lia
   simp[h,this]
  .have:((L.filter fun p=>!f p).length+1)%2=0:=by lia
   simp[h,this]
 .simp
def vE(f:Int->Bool):mQ [] f=true:=rfl
theorem zJ(f g:Int->Bool):∀L:List Int,mQ L (fun p=>f p==g p)=(mQ L f==mQ L g)
 |[]=>rfl
 |p::L=>by
  rw[du,du,du,zJ f g L];generalize f p=a;generalize g p=b;generalize mQ L f=c;generalize mQ L g=d;revert a b c d;decide
def rY{f g:Int->Bool}(h:∀p∈L,f p=g p):mQ L f=mQ L g:=by
 unfold mQ;rw[List.filter_congr fun p hp=>by rw[h p hp]]
def p_{f:Int->Bool}{S:List Int}(c:L.Nodup)(e:S.Nodup)(b:∀p∈S,p∈L)(h:∀p∈L,p∉S->f p=true):mQ L f=mQ S f:=by
 unfold mQ
 have:(L.filter fun p=>!f p).Perm (S.filter fun p=>!f p):=by
  refine(List.perm_ext_iff_of_nodup (c.filter _) (e.filter _)).mpr fun a=>?_;rw[Wx,Wx];constructor
  .rintro⟨h1,h2⟩;refine⟨Vr fun d=>?_,h2⟩;rw[h a h1 d] at h2;cases h2
  .rintro⟨h1,h2⟩;exact⟨b a h1,h2⟩
 rw[this.length_eq]
def u5{f:Int->Bool}(h:∀p∈L,f p=true):mQ L f=true:=by
 unfold mQ;rw[List.filter_eq_nil_iff.mpr fun p hp=>by rw[h p hp];decide];rfl
structure xN(L:List Int):Prop where
 nd:L.Nodup
 pr:∀p∈L,aR p=true
 two:(2:Int)∈L
def mU(L:List Int)(x:Int):Prop:=x≠0/\∀q,aR q=true->q∣x->q∈L
def E7(h:xN L):(0:Int)∉L:=fun z=>by have:=ao (h.pr 0 z);lia
def xN.all(h:xN L):((0:Int)::L).Nodup:=WL.mpr ⟨E7 h,h.nd⟩
def xN.pl(h:xN L):∀p∈(0:Int)::L,Pl p:=fun p hp=>by
 rcases Vq.mp hp with z|z
 .exact .inl z
 .exact .inr (h.pr p z)
def o8(L:List Int)(x y:Int):Bool:=mQ (0::L) (ay x y)
def ke(h:xN L)(a:x≠0)(b:y≠0):o8 L y x=o8 L x y:=rY fun p hp=>bA (h.pl p hp) a b
def zV(h:xN L){z:Int}(a:x≠0)(b:y≠0)(hz:z≠0):o8 L x (y*z)=(o8 L x y==o8 L x z):=by
 unfold o8;rw[<-zJ];exact rY fun p hp=>cY (h.pl p hp) a b hz
def bH(hp:aR p=true)(c:aR q=true)(h:p∣q):p=q:=by
 have h1:=ao hp;have h2:=ao c;apply Vr;intro g;have f:=km (p:=p) (d:=q) hp;by_cases z:q∣p
 .have a:=VN (by lia) h;have b:=VN (by lia) z;lia
 .have e:=km (p:=q) (d:=p) c z;have:=aaI (Xv p) h;rw[e] at this;have:=VN (by decide) this;lia
def pJ(hp:aR p=true)(h2:p≠2)(a:∀q,aR q=true->q∣x->q≠p)(b:∀q,aR q=true->q∣y->q≠p):ay x y p=true :=
 iI hp h2 (fun z=>a p hp z rfl) fun z=>b p hp z rfl
def f_(a:aR q=true):∀r,aR r=true->r∣q->r=q:=fun r b h=>bH b a h
def Jv:∀r,aR r=true->¬r∣(-1:Int):=fun r a=>dO a
def Lk{f:Int->Bool}(a b:Int):mQ [a,b] f=(f a==f b):=by
 rw[du,du,vE];cases f a<;>cases f b<;>rfl
def PJ{f:Int->Bool}(a b c:Int):mQ [a,b,c] f=(f a==(f b==f c)):=by
 rw[du,du,du,vE];cases f a<;>cases f b<;>cases f c<;>rfl
def Qa(h:xN L):o8 L (-1) (-1)=true:=by
 unfold o8;rw[p_ (S:=[0,2]) h.all (by decide) (fun p hp=>?_) (fun p hp b=>?_),Lk,aM,aU,c8 (a:=-1) (by decide)]
 .rfl
 .simp only[Vq,VA,Wb] at hp;rcases hp with rfl|rfl
  .exact VC
  .exact Vw _ h.two
 .simp only[Vq,VA,Wb,not_or] at b hp;have:=h.pr p (hp.resolve_left b.1);exact iI this b.2 (dO this) (dO this)
def EV:cls 2 2=(1,1):=by
 unfold cls;rw[show aV 2 2=(1,1) from jF (by decide) ⟨by decide,by decide,by lia⟩];rfl
def J9(h:xN L):o8 L (-1) 2=true:=by
 refine u5 fun p hp=>?_;rcases Vq.mp hp with rfl|z
 .rw[aM];rfl
 have b:=h.pr p z;by_cases h2:p=2
 .subst h2;rw[aU,EV,c8 (a:=-1) (by decide)];rfl
 .exact pJ b h2 (fun q c d=>absurd d (Jv q c)) fun q c d e=>h2 (by rw[<-e];exact f_ aO q c d)
def Ni(h:xN L)(a:q∈L):∀p∈[2,q],p∈(0:Int)::L:=fun p hp=>by
 simp only[Vq,VA,Wb] at hp;rcases hp with rfl|rfl
 .exact Vw _ h.two
 .exact Vw _ a
def L4(h:xN L)(f:q∈L)(h2:q≠2):o8 L (-1) q=true:=by
 have hp:=h.pr q f;have g:=ao hp;rw[<-ke h (by decide) (by lia)];unfold o8;rw[p_ (S:=[2,q]) h.all (by simp;lia) (Ni h f) (fun p a b=>?_),Lk,Qf (gh hp h2),(Pg hp h2).1]
 .simp
 .simp only[Vq,VA,Wb,not_or] at b a;rcases a with rfl|z
  .exact(Pj (by lia)).1
  .exact pJ (h.pr p z) b.1 (fun r d c e=>b.2 (by rw[<-e];exact f_ hp r d c)) fun r d c=>absurd c (Jv r d)
def Dq(h:xN L)(a:x≠0):o8 L x x=o8 L (-1) x:=by
 rw[ke (x:=x) (y:=-1) h a (by decide)];exact rY fun p hp=>mW (h.pl p hp) a
def NM(h:xN L)(f:q∈L)(h2:q≠2):o8 L 2 q=true:=by
 have hp:=h.pr q f;have l:=ao hp;have g:=gh hp h2;have i:¬q∣2:=fun z=>h2 (f_ aO q hp z);have j:¬q∣1:=fun z=>dO hp (WX.mpr z);unfold o8;rw[p_ (S:=[2,q]) h.all (by simp;lia) (Ni h f) (fun p a b=>?_),Lk,aU,EV,c8 g]
 .have e:=mx hp h2 i j;rw[VX] at e;rw[e,HE hp h2];have k:q%8=1\/q%8=3\/q%8=5\/q%8=7:=by lia
  rcases k with z|z|z|z<;>rw[z]<;>rfl
 .simp only[Vq,VA,Wb,not_or] at b a;rcases a with rfl|z
  .rw[aM];rfl
  .exact pJ (h.pr p z) b.1 (fun r d c e=>b.1 (by rw[<-e];exact f_ aO r d c)) (fun r d c e=>b.2 (by rw[<-e];exact f_ hp r d c))
def Pk(h:xN L)(n:q∈L)(h2:q≠2)(m:r∈L)(c:r≠2)(d:q≠r):o8 L q r=true:=by
 have hp:=h.pr q n;have a:=h.pr r m;have D:=ao hp;have C:=ao a;have A:=gh hp h2;have i:=gh a c;have l:¬q∣r:=fun z=>d (f_ a q hp z);have j:¬r∣q:=fun z=>d (f_ hp r a z).symm;have x:¬q∣1:=fun z=>dO hp (WX.mpr z);have y:¬r∣1:=fun z=>dO a (WX.mpr z);unfold o8;rw[p_ (S:=[2,q,r]) h.all (by simp;lia) (fun p b=>?_) (fun p b f=>?_),PJ,aU,c8 A,c8 i]
 .have e1:ay q r q=decide (bf r q=1):=by
   rw[<-bA (.inr hp) (by lia) (by lia)];have e:=mx hp h2 l x
   rwa [VX] at e
  have e2:ay q r r=decide (bf q r=1):=by
   have e:=mx a c j y
   rwa [VX] at e
  rw[e1,e2];have ex:=Dy hp h2 a c d
  have t:eT (0,q%8) (0,r%8)=!decide (q%4=3/\r%4=3):=by
   unfold eT;have w:q%8%4=q%4:=by lia
   have o:r%8%4=r%4:=by lia
   simp only[w,o];by_cases z:q%4=3<;>by_cases B:r%4=3<;>simp[z,B,b1]
  rw[t];by_cases z:q%4=3/\r%4=3
  .rw[Vo z] at ex;rw[V3 z];rcases bO l with u|u<;>rcases bO j with v|v<;>rw[u,v] at ex ⊢<;>simp_all
  .rw[Vm z] at ex;rw[VW z];rcases bO l with u|u<;>rcases bO j with v|v<;>rw[u,v] at ex ⊢<;>simp_all
 .simp only[Vq,VA,Wb] at b;rcases b with rfl|rfl|rfl
  .exact Vw _ h.two
  .exact Vw _ n
  .exact Vw _ m
 .simp only[Vq,VA,Wb,not_or] at f b;rcases b with rfl|z
  .rw[aM];simp;lia
  .exact pJ (h.pr p z) f.1 (fun s g k e=>f.2.1 (by rw[<-e];exact f_ hp s g k)) (fun s g k e=>f.2.2 (by rw[<-e];exact f_ a s g k))
theorem rQ{L:List Int}{Q:Int->Prop}(h1:Q 1)(f:Q (-1))(b:∀q∈L,aR q=true->Q q)(hmul:∀x y,x≠0->y≠0->Q x->Q y->Q (x*y)):∀(n:Nat) (x:Int),x.natAbs<=n->mU L x->Q x
 |0,x,o,h=>absurd (show x=0 by lia) h.1
 |n+1,x,o,h=>by
  have j:=h.1;by_cases z:x=1
  .rw[z];exact h1
  by_cases i:x=-1
  .rw[i];exact f
  obtain⟨q,q1,c,m⟩:=nj (k:=x.natAbs) (by lia);have s:=ao q1;have a:q∣x:=Xf.mp ⟨c,m⟩;obtain⟨d,rfl⟩:=a;have g:d≠0:=by rintro rfl;exact j (Wg _)
  have p:d.natAbs<=n:=by
   have e:(q*d).natAbs=q.natAbs*d.natAbs:=VT ..;have:2*d.natAbs<=q.natAbs*d.natAbs:=Yd _ (by lia);lia
  refine hmul q d (by lia) g (b q (h.2 q q1 ⟨d,rfl⟩) q1) (rQ h1 f b hmul n d p ⟨g,fun r l a=>h.2 r l ?_⟩);obtain⟨e,rfl⟩:=a;exact⟨q*e,by grind⟩
def AQ(h:xN L)(b:x≠0):o8 L x 1=true:=u5 fun p hp=>by
 have:=rO (a:=x) (r:=1) (h.pl p hp) b (by decide)
 rwa [VX] at this
def CF(h:xN L)(k:mU L x)(c:mU L y):o8 L x y=true:=by
 have base:∀g,(g=-1\/g∈L)->∀y,mU L y->g≠0/\o8 L g y=true:=fun g d y c=>by
  have i:g≠0:=by
   rcases d with rfl|d
   .decide
   .have:=ao (h.pr g d);lia
  refine⟨i,rQ (L:=L) (Q:=fun y=>o8 L g y=true) (AQ h i) ?_ (fun q f j=>?_) (fun x y k c h1 h2=>by rw[zV h i k c,h1,h2];rfl) y.natAbs y (Vu _) c⟩
  .rcases d with rfl|d
   .exact Qa h
   .rw[<-ke h i (by decide)];by_cases z:g=2
    .rw[z];exact J9 h
    .exact L4 h d z
  .have o:=ao j;rcases d with rfl|d
   .by_cases z:q=2
    .rw[z];exact J9 h
    .exact L4 h f z
   .by_cases e:g=q
    .subst e;rw[Dq h i];by_cases z:g=2
     .rw[z];exact J9 h
     .exact L4 h d z
    by_cases z:g=2
    .rw[z];exact NM h f (by lia)
    by_cases m:q=2
    .rw[m,ke h (by decide) i];exact NM h d z
    .exact Pk h d z f m e
 have l:∀x y,o8 L y x=true->x≠0->y≠0->o8 L x y=true:=fun x y e h1 h2=>by rw[ke h h2 h1];exact e
 rw[ke h c.1 k.1];exact rQ (L:=L) (Q:=fun x=>o8 L y x=true) (AQ h c.1) (l _ _ (base _ (.inl rfl) y c).2 c.1 (by decide)) (fun q f j=>l _ _ (base q (.inr f) y c).2 c.1 (base q (.inr f) y c).1) (fun a b ha n h1 h2=>by rw[zV h c.1 ha n,h1,h2];rfl) x.natAbs x (Vu _) k
def u_(h1:1<=k)(h2:k<1073741824):Tame k:=by
 by_cases c:yb k
 .exact .inl ⟨k,1,c,by lia,by decide,by lia⟩
 .have ⟨q,e⟩:=Classical.not_forall.mp c;have ⟨q1,b⟩:=aaa.mp e;have ⟨⟨f,h⟩,j⟩:=aaa.mp b
  have d:0<f:=by
   apply Vr;intro g;have:q*f<=0:=Wf (by lia) (by lia);lia
  have i:f<32768:=by
   apply Vr;intro g;have:32768*32768<=q*f:=We (by lia) (by lia) (by decide) (by lia);lia
  have a:q<1073741824:=by
   have:q*1<=q*f:=VB (by lia) (by lia);lia
  exact .inr ⟨f,q,uJ d i,d,q1,a,by rw[h];exact V6 ..⟩
theorem AY:∀(n:Nat) (x:Int),x≠0->x.natAbs<=n->∃f s,kF f/\0<s/\x=f*(s*s)
 |0,x,a,l=>absurd (show x=0 by lia) a
 |n+1,x,a,l=>by
  by_cases i:kF x
  .exact⟨x,1,i,by decide,by lia⟩
  .have h:¬∀d:Int,2<=d->¬d*d∣x:=fun z=>i ⟨a,z⟩;have ⟨d,k⟩:=Classical.not_forall.mp h;have ⟨j,b⟩:=aaa.mp k;have ⟨c,g⟩:=Classical.not_not.mp b;have c0:c≠0:=by rintro rfl;exact a (by rw[g,Wg])
   have o:c.natAbs<=n:=by
    have e:x.natAbs=(d*d).natAbs*c.natAbs:=by rw[g,VT]
    have:2<=(d*d).natAbs:=by
     have:2*2<=d*d:=We j j (by decide) (by lia);lia
    have:2*c.natAbs<=(d*d).natAbs*c.natAbs:=Yd _ this;lia
   obtain⟨f,s,h1,h2,m⟩:=AY n c c0 o;exact⟨f,s*d,h1,Wj h2 (by lia),by rw[g,m];grind⟩
def GU(a:0<s)(e:x=f*(s*s)):f.natAbs<=x.natAbs:=by
 rw[e,VT];have:1<=(s*s).natAbs:=by have:=Wj a a;lia
 have:=Nat.mul_le_mul_left f.natAbs this;lia
theorem FJ:∀{us:List (Int×Int)} {a b:Int},fM a us b->∀u∈us,u.1∣pp us
 |[],_,_,_,u,h=>absurd h VA
 |v::us,a,b,c,u,h=>by
  rcases Vq.mp h with rfl|z
  .show u.1∣u.1^u.2.toNat*pp us;have:=c.2.2.1;rw[show u.2.toNat=(u.2.toNat-1)+1 by lia,VS];exact⟨u.1^(u.2.toNat-1)*pp us,by grind⟩
  .exact V1 (FJ c.2.2.2 u z) ⟨v.1^v.2.toNat,V6 ..⟩
theorem Fq{q:Int}(c:aR q=true):∀{us:List (Int×Int)} {a b:Int},fM a us b->q∣pp us->∃u∈us,u.1=q
 |[],_,_,_,h=>by
  have:=VN (by decide) (show q∣1 from h);have:=ao c;lia
 |v::us,a,b,d,h=>by
  rcases euclid c (show q∣v.1^v.2.toNat*pp us from h) with z|z
  .have:∀n:Nat,q∣v.1^n->q∣v.1:=fun n=>by
    induction n with
    |zero =>
     intro h;rw[V8] at h;have:=VN (by decide) h;have:=ao c;lia
    |succ n e =>
     intro h;rw[VS] at h;rcases euclid c h with y|y
     .exact e y
     .exact y
   exact⟨v,VC,(bH c d.2.1 (this _ z)).symm⟩
  .obtain⟨u,h1,h2⟩:=Fq c d.2.2.2 z;exact⟨u,Vw _ h1,h2⟩
def gP(c:1<=k):q∈(nR k).map (·.1)↔aR q=true/\q∣k:=by
 obtain⟨⟨b,a⟩,e⟩:=nJ c;rw[VG];constructor
 .rintro⟨u,h1,rfl⟩;exact⟨(ip a u h1).1,e▸FJ a u h1⟩
 .rintro⟨h1,h2⟩;rw[<-e] at h2;exact Fq h1 a h2
def qX(hp:aR p=true)(h2:p≠2):NR p:=by
 obtain⟨g,h1,_,a⟩:=JJ hp h2;exact⟨g,h1,a⟩
def JT(k m x:Int):Prop:=0<=x/\x<m/\m∣k*x-1
def JT.uniq(x y:Int)(g:JT k m x)(d:JT k m y):x=y:=by
 obtain⟨j,l,i⟩:=g;obtain⟨p,o,e⟩:=d
 have h:m∣x-y:=by
  obtain⟨a,ha⟩:=i;obtain⟨b,n⟩:=e;refine⟨a*y-b*x,?_⟩;have e1:k*x=1+m*a:=by lia
  have e2:k*y=1+m*b:=by lia
  have:y*(k*x)=x*(k*y):=by grind
  rw[e1,e2] at this;grind
 obtain⟨c,f⟩:=h
 have:c=0:=by
  rcases X_ c 0 with z|z|z
  .have:m*c<=m*(-1):=VB (by lia) (by lia);lia
  .exact z
  .have:m*1<=m*c:=VB (by lia) (by lia);lia
 rw[this,Wg] at f;lia
def tD(k m:Int):Int:=Classical.epsilon (JT k m)
def DZ(h:JT k m x):tD k m=x:=(m_ JT.uniq h).symm
structure BP(k m r b f g:Int)(u v s:Int):Prop where
 r0:1<=r
 b0:0<=b
 lt:b<r
 rm:r<=m
 gc:Int.gcd r b=1
 fr:m∣k*f-r
 fb:m∣k*g-b
 sg:s=1\/s=-1
 fu:f=-s*u
 gv:g=s*v
 u0:0<=u
 v0:0<=v
 um:u<=m
 sum:u*b+v*r=m
def BP.start(b:2<=m)(a:Int.gcd k m=1):BP k m m (k%m) 0 1 0 1 1:=by
 refine⟨by lia,VV _ (by lia),VR _ (by lia),Wo m,?_,⟨-1,by lia⟩,?_,.inl rfl,by lia,by lia,by decide,by decide,by lia,by lia⟩
 .have e:k%m=k.fmod m:=(Wu k (show 0<=m by lia)).symm;rw[e,mC,a]
 .refine⟨k/m,?_⟩;have:=WC k m;lia
def BP.step{b:Int}(I:BP k m r b f g u v s)(x:b≠0):BP k m b (r-r/b*b) g (f-r/b*g) v (u+r/b*v) (-s):=by
 obtain⟨o,h,lt,z,w,fr,j,G,p,l,u0,i,C,sum⟩:=I;have a:=WC r b;have D:=VV r x;have m1:=VR r (show 0<b by lia);have t:0<=r/b:=YZ (by lia) h;have e:r-r/b*b=r%b:=by rw[V6] at a;lia
 generalize H:r/b=q at *;have E:0<=q*v:=Xe t i;refine⟨by lia,by lia,by lia,by lia,?_,j,?_,by lia,by rw[l];grind,by rw[p,l];grind,i,by lia,?_,by grind⟩
 .have n:r%b=r.fmod b:=(Wu r h).symm;rw[e,n,mC,w]
 .obtain⟨c,B⟩:=fr;obtain⟨d,F⟩:=j;refine⟨c-q*d,?_⟩;have e1:k*f=r+m*c:=by lia
  have e2:k*g=b+m*d:=by lia
  have:k*(f-q*g)=k*f-q*(k*g):=by grind
  rw[this,e1,e2];grind
 .have A:v*1<=v*r:=VB o i;have y:0<=u*b:=Xe u0 h;lia
def BP.done(I:BP k m r 0 f g u v s)(b:2<=m):tD k m=f%m:=by
 have h1:r=1:=by
  have:=I.gc;rw[Y6] at this;have:=I.r0;lia
 refine DZ ⟨VV _ (by lia),VR _ (by lia),?_⟩;obtain⟨c,a⟩:=I.fr;rw[h1] at a;have e:=WC f m;refine⟨c-k*(f/m),?_⟩;have:k*(f%m)=k*f-k*(m*(f/m)):=by rw[<-X1];congr 1;lia
 rw[this,show k*f=1+m*c by lia];grind
def BP.bd{b:Int}(I:BP k m r b f g u v s):f.natAbs<=m/\g.natAbs<=m:=by
 obtain⟨e,d,lt,j,i,fr,l,c,q,n,u0,a,p,sum⟩:=I;have o:v*1<=v*r:=VB e a;have h:0<=u*b:=Xe u0 d;rcases c with rfl|rfl<;>lia
def Jp(l:2<=m)(j:Int.gcd k m=1):JT k m (tD k m):=by
 have:∀(n:Nat) (r b f g u v s:Int),BP k m r b f g u v s->b.toNat<=n->∃x,JT k m x:=fun n=>by
  induction n with
  |zero =>
   intro r b f g u v s I h;have a:b=0:=by have:=I.b0;lia
   subst a
   have h1:r=1:=by
    have:=I.gc;rw[Y6] at this;have:=I.r0;lia
   refine⟨f%m,VV _ (by lia),VR _ (by lia),?_⟩;obtain⟨c,o⟩:=I.fr;rw[h1] at o;have e:=WC f m;refine⟨c-k*(f/m),?_⟩;have:k*(f%m)=k*f-k*(m*(f/m)):=by rw[<-X1];congr 1;lia
   rw[this,show k*f=1+m*c by lia];grind
  |succ n d =>
   intro r b f g u v s I h;by_cases a:b=0
   .subst a;exact d r 0 f g u v s I (by lia)
   .refine d _ _ _ _ _ _ _ (I.step a) ?_;have:=(I.step a).lt;have:=(I.step a).b0;lia
 obtain⟨x,i⟩:=this _ _ _ _ _ _ _ _ (BP.start l j) (Vu _);rw[DZ i];exact i
def x9(one m other p:Int):Int:=one+m*((other-one)*tD m p%p)
def MR{one other:Int}(hp:2<=p)(h:1<=m)(a:Int.gcd m p=1)(f:0<=one)(h1:one<m):(0<=x9 one m other p/\x9 one m other p<m*p)/\m∣x9 one m other p-one/\p∣x9 one m other p-other:=by
 obtain⟨k,b1,c,j⟩:=Jp hp a;unfold x9;have b:=VV ((other-one)*tD m p) (show p≠0 by lia);have d:=VR ((other-one)*tD m p) (show 0<p by lia);have g:=WC ((other-one)*tD m p) p;generalize i:(other-one)*tD m p%p=y at *;generalize (other-one)*tD m p/p=w at *;refine⟨⟨?_,?_⟩,⟨y,by lia⟩,?_⟩
 .have:=Xe (show 0<=m by lia) b;lia
 .have:m*y<=m*(p-1):=VB (by lia) (by lia);have e:m*(p-1)=m*p-m:=by rw[X1,VX]
  lia
 .refine⟨(other-one)*c-m*w,?_⟩;have e1:y=(other-one)*tD m p-p*w:=by lia
  have e2:m*tD m p=1+p*c:=by lia
  rw[e1];have:m*((other-one)*tD m p-p*w)=(other-one)*(m*tD m p)-m*(p*w):=by grind
  rw[this,e2];grind
def Ia(k:Int):List (Int×Int)->Int->Int->Option Int
 |[],a,_=>some a
 |u::us,a,d=>match uH k u.1 with
  |none=>none
  |some r=>Ia k us (x9 a d r u.1) (d*u.1)
def Dv(k m:Int):Option Int:=Ia k (nR m) 0 1
def A6(hp:aR p=true)(h:uH k p=some r):(0<=r/\r<p)/\Cg p (r*r) k:=by
 by_cases h2:p=2
 .subst h2;unfold uH at h
  have a:bf k 2=k%2:=by
   unfold bf;by_cases z:k%2=0
   .rw[Vo z,z]
   .rw[Vm z,Vo rfl];lia
  rw[a] at h;split at h
  .cases h
  .rw[Vo (.inr rfl)] at h;cases h;refine⟨by lia,?_⟩;have:k%2=0\/k%2=1:=by lia
   rcases this with z|z
   .rw[z];exact⟨-(k/2),by lia⟩
   .rw[z];exact⟨-(k/2),by lia⟩
 .exact LX hp h2 (qX hp h2) h
structure Gh(k a d:Int)(ps:List Int):Prop where
 d1:1<=d
 a0:0<=a
 a1:a<d
 pr:∀q,aR q=true->q∣d->q∈ps
 sq:∀q∈ps,q∣a*a-k/\q∣d
def Gh.step{a:Int}{ps:List Int}(I:Gh k a d ps)(hp:aR p=true)(s:p∉ps)(h:uH k p=some r):Gh k (x9 a d r p) (d*p) (ps++[p])/\Int.gcd d p=1/\(0<=r/\r<p):=by
 have e:=ao hp;have f:Int.gcd d p=1:=km hp fun z=>s (I.pr p hp z);obtain⟨⟨m,u⟩,n,j⟩:=MR (one:=a) (other:=r) e I.d1 f I.a0 I.a1;obtain⟨l,o⟩:=A6 hp h;refine⟨⟨?_,m,u,fun q b i=>?_,fun q b=>?_⟩,f,l⟩
 .have:=Wj (show 0<d by have:=I.d1;lia) (show 0<p by lia);lia
 .rcases euclid b i with z|z
  .exact WU _ (I.pr q b z)
  .exact VU _ (V0.mpr (bH b hp z))
 .rcases Wk.mp b with z|z
  .obtain⟨v,g⟩:=I.sq q z;refine⟨?_,V1 g ⟨p,rfl⟩⟩;have t:q∣x9 a d r p-a:=V1 g n;generalize x9 a d r p=w at *;have:w*w-k=(w-a)*(w+a)+(a*a-k):=by grind
   rw[this];exact YV (V1 t ⟨w+a,rfl⟩) v
  .rw[V0.mp z];refine⟨?_,⟨d,V6 ..⟩⟩;generalize x9 a d r p=w at *;have c:p∣r*r-k:=o;have:w*w-k=(w-r)*(w+r)+(r*r-k):=by grind
   rw[this];exact YV (V1 j ⟨w+r,rfl⟩) c
def Gh.zero(k:Int):Gh k 0 1 []:=⟨by decide,by decide,by decide,fun q a b=>by
 have:=VN (by decide) b;have:=ao a
 lia,fun q h=>absurd h VA⟩
theorem rK:∀{us:List (Int×Int)} {a b:Int},fM a us b->(us.map (·.1)).Pairwise (·<·)/\∀q∈us.map (·.1),a<q
 |[],_,_,_=>⟨List.Pairwise.nil,fun _ h=>absurd h VA⟩
 |u::us,a,b,h=>by
  obtain⟨h1,h2,g,f⟩:=h;obtain⟨d,c⟩:=rK f;refine⟨W9.mpr ⟨c,d⟩,fun q e=>?_⟩;rcases Vq.mp e with rfl|z
  .exact h1
  .have:=c q z;lia
def dp:List (Int×Int)->Int
 |[]=>1
 |u::us=>u.1*dp us
theorem E3:∀{us:List (Int×Int)} {a b:Int},0<=a->fM a us b->1<=dp us/\dp us<=pp us
 |[],_,_,_,_=>⟨Wo 1,Wo 1⟩
 |u::us,a,b,ha,h=>by
  obtain⟨h1,h2,f,c⟩:=h;obtain⟨e,d⟩:=E3 (by lia) c
  have hp:u.1<=u.1^u.2.toNat:=by
   rw[show u.2.toNat=(u.2.toNat-1)+1 by lia,VS,V6];have:(0:Int)<u.1^(u.2.toNat-1):=Ws (by lia);have:u.1*1<=u.1*u.1^(u.2.toNat-1):=VB (by lia) (by lia);lia
  constructor
  .have:=Wj (show 0<u.1 by lia) (show 0<dp us by lia);show 1<=u.1*dp us;lia
  .exact We hp d (by lia) (by lia)
theorem C9{k M:Int}:∀(us:List (Int×Int)) (a d:Int) (ps:List Int) (b c:Int),fM c us b->(∀q∈ps,q<=c)->0<=c->Gh k a d ps->d*dp us<=M ->
  (Ia k us a d=none/\∃u∈us,bf k u.1=-1)\/(∃x e,Ia k us a d=some x/\Gh k x e (ps++us.map (·.1))/\e<=M/\∀u∈us,bf k u.1≠-1)
 |[],a,d,ps,b,c,j,g,m,I,i=>.inr ⟨a,d,rfl,by rw[YJ,Yu];exact I,by have:d*1<=M:=i;lia,fun u h=>absurd h VA⟩
 |u::us,a,d,ps,b,c,j,g,m,I,i=>by
  obtain⟨h1,h2,y,s⟩:=j;rw[Ia];cases f:uH k u.1 with
  |none=>exact .inl ⟨rfl,u,VC,qy.mp f⟩
  |some r =>
   have t:u.1∉ps:=fun z=>by have:=g _ z;lia
   obtain⟨n,_⟩:=I.step h2 t f
   have p:=C9 us (x9 a d r u.1) (d*u.1) (ps++[u.1]) b u.1 s (fun q o=>by
    rcases Wk.mp o with z|z
    .have:=g q z;lia
    .rw[V0.mp z];exact Wo _) (by lia) n (by rw[VZ];exact i)
   dsimp only;rcases p with⟨e1,v,e2,e3⟩|⟨x,e,e1,e2,e3,e4⟩
   .exact .inl ⟨e1,v,Vw _ e2,e3⟩
   .refine .inr ⟨x,e,e1,by rw[Wa,List.append_cons];exact e2,e3,fun v l=>?_⟩;rcases Vq.mp l with z|z
    .rw[z];intro w;rw[qy.mpr w] at f;cases f
    .exact e4 v z
def Lc(d:1<=m):(Dv k m=none/\∃q,aR q=true/\q∣m/\bf k q=-1)\/(∃x,Dv k m=some x/\0<=x/\x<m/\∀q,aR q=true->q∣m->q∣x*x-k/\bf k q≠-1):=by
 obtain⟨⟨b,f⟩,c⟩:=nJ d;obtain⟨n,l⟩:=E3 (by decide) f;rw[c] at l;rcases C9 (k:=k) (M:=m) (nR m) 0 1 [] b 1 f (fun q h=>absurd h VA) (by decide) (Gh.zero k) (by lia) with⟨e1,u,e2,e3⟩|⟨x,e,e1,e2,e3,e4⟩
 .have:=(gP d).mp (VG.mpr ⟨u,e2,rfl⟩);exact .inl ⟨e1,u.1,this.1,this.2,e3⟩
 .refine .inr ⟨x,e1,e2.a0,by have:=e2.a1;lia,fun q g j=>?_⟩;have a:=(gP d).mpr ⟨g,j⟩;obtain⟨u,i,rfl⟩:=VG.mp a;exact⟨(e2.sq u.1 (by rw[YX];exact a)).1,e4 u i⟩
end Q
namespace L2.EP
open PySem PySem.Spec PyProof.Rows
section
variable{X:Cx}{Γ:aL}{D:GD}{α β:Type}[Py α][Py β]{e e1 e2:Expr}{b b1 b2:Bool}{pos:Pos}{rest:List Stmt}
def Nq{i j:Int}(ha:E X Γ e1 b1 i)(b:E X Γ e2 b2 j)(a:Er i j):E X Γ (.BinOp e1 .LShift e2 pos) true (i*2^j.toNat):=by
 with_unfolding_all
  exact y6 (g:=fun i j=>i*2^j.toNat) K0 ha b a
def Ho:Qn X "int.bit_length" (fun x xs H Q=>∃i,x=.int i/\xs=[]/\Q (.int (Builtin.Int.intBits i:Nat)) H):=by
 intro pins s σ H x xs v us Q I r a h;obtain⟨i,rfl,rfl,q⟩:=h;obtain⟨t,rfl⟩:=r;cases a;exact call_int_bit_length ⟨.int (Builtin.Int.intBits i:Nat),H,I.tok _,⟨_,rfl⟩,q⟩
def KO{i:Int}{apos:Pos}(ha:E X Γ e b i)(c:attributeBase e "bit_length" X.env (eval e X.env)=eval e X.env:=by rfl)(a:(apos.endLine==pos.line)=true:=by rfl):E X Γ (.Call (.Attribute e "bit_length" apos) [] [] pos) true ((Builtin.Int.intBits i:Nat):Int):=by
 with_unfolding_all
  exact aN (KR PySem.F.plainAttrs_int PySem.F.slot_int_bit_length PySem.F.type_int_bit_length Ho ha c a) fun σ H Q ⟨H0,F,O,S,q⟩=>⟨H0,F,O,S,fun v H1 d f=>by
    cases f
    exact⟨rfl,i,rfl,rfl,q _ H1 d rfl⟩⟩
def ER{i:Int}{u:Int×Int}:CV X .In i u (decide (u.1=i) || decide (u.2=i)):=⟨_,BO,fun N N' H v w Q h1 h2 q=>by
 obtain⟨p,x,y,rfl,a,c,b⟩:=h2;cases h1;cases c;cases b;refine⟨p,_,rfl,.inr (uu (aD.refl _) a),rfl,rfl,?_⟩
 simpa [Qr,IH,Zr] using q⟩
def S.QB{D:GD}{a:aL->Prop}{st:List Stmt}(h:S X Γ st D)(w:∀Γ',D.nx Γ'->a Γ'):S X Γ st {D with nx:=a}:=by
 with_unfolding_all
  exact rN h fun d σ H ⟨H0,F,O,Z,n,r,bk,ct⟩=>⟨H0,F,O,Z,fun Γ' σ' H' b sm c q=>n Γ' σ' H' b sm c (w Γ' q),r,bk,ct⟩
def lK{c:Bool}{body orelse:List Stmt}(J:aL->Prop)(a:T X Γ e c)(h1:c=true->S X Γ body {D with nx:=J})(h2:c=false->S X Γ orelse {D with nx:=J})(h:∀Γ',J Γ'->S X Γ' rest D):S X Γ (.If e body orelse pos::rest) D:=by
 with_unfolding_all
  exact ND a (fun z=>(h1 z).QB h) (fun z=>(h2 z).QB h)
def xT(mg:Str->Option Value)(x:Str)(i:Int):Prop:=∃t,mg x=some (.int i t)
def v9{x:Str}{i:Int}(b:Gl X x)(a:xT X.mg x i)(c:(x==("__debug__":Str))=false:=by decide):E X Γ (.Name x pos) true i:=by
 with_unfolding_all
  obtain⟨t,a⟩:=a;exact aN (Af (v:=.int i) b a ⟨t,rfl⟩ c) fun σ H Q ⟨H0,F,O,S,q⟩=>q _ H (aD.refl _) rfl
end
variable{K:PySem.W.Frag}{H:Hp}{p:Addr}{xs:List V}{x:Str}{c:Bool}
def rL{α:Type}{xs:List α}{k:Int}{d:α}(b:0<=k)(h:k<(xs.length:Int)):zv xs k=some (xs.getD k.toNat d):=by
 have a:k.toNat<xs.length:=by lia
 have e:k=((k.toNat:Nat):Int):=by lia
 have q:zv xs ((k.toNat:Nat):Int)=some xs[k.toNat]:=GS (by rw[Vz a]);rw[<-e] at q;rw[q,VD,Vz a];rfl
structure yo(α:Type) where
 l:List α
def JQ(K:PySem.W.Frag)(H:Hp)(p:Addr)(xs:List V):Prop:=Rt H p xs\/∃(o:Obj) (its:Array Value) (n:Nat),K.lookup p=some o/\o.cls=.type "tuple"/\o.data=.seq its n/\its.size<=sizeLine/\Vals xs its.toList
def JQ.t(h:JQ K H p xs):x_ K H p xs:=h.imp Rt.rd id
def Kn{H':Hp}(t:∀p xs,Rt H p xs->Rt H' p xs)(h:JQ K H p xs):JQ K H' p xs:=h.imp (t _ _) id
def cK{H':Hp}(e:aD H H')(h:JQ K H p xs):JQ K H' p xs:=h.imp (fun z=>aD.rt e z) id
instance{α:Type}[Py α]:Py (yo α) where
 rp K N H v a:=∃p xs,v=.ref p/\JQ K H p xs/\Paired (fun x b=>Py.rp K N H x b) xs a.l
 tr l t h:=by
  obtain⟨p,xs,e,s,r⟩:=h;exact⟨p,xs,e,Kn t s,bB (fun _ _ q=>Py.tr l t q) r⟩
instance{α β:Type}[Py α][Py β]:Py (α⊕β) where
 rp K N H v a:=match a with|.inl x=>Py.rp K N H v x|.inr y=>Py.rp K N H v y
 tr {K N N' H H' v a} l t h:=by
  cases a with
  |inl x=>exact Py.tr (α:=α) l t h
  |inr y=>exact Py.tr (α:=β) l t h
def lW(K:PySem.W.Frag)(N:Nn)(H:Hp)(a:Int):¬Py.rp K N H .non a:=fun h=>nomatch h
section
variable{X:Cx}{Γ:aL}{D:GD}{α β:Type}[Py α][Py β]{e e1 e2 tg:Expr}{b b1 b2:Bool}{pos:Pos}{rest:List Stmt}
def I_{a:α}(h:E X Γ e b a):E X Γ e b (Sum.inl a:α⊕β):=by
 with_unfolding_all
  exact h
def En{a:β}(h:E X Γ e b a):E X Γ e b (Sum.inr a:α⊕β):=by
 with_unfolding_all
  exact h
def Jg{a:α}(h:E X Γ e b (Sum.inl a:α⊕β)):E X Γ e b a:=by
 with_unfolding_all
  exact h
def tY{a:β}(h:E X Γ e b (Sum.inr a:α⊕β)):E X Γ e b a:=by
 with_unfolding_all
  exact h
def E9{xs:List α}(he:E X Γ e b (yo.mk xs)):EI X Γ tg e b xs:=by
 with_unfolding_all
  exact⟨_,Lg he,fun σ H H0 F O R Z q=>⟨H0,F,O,Z,fun v H1 k h=>by
   obtain⟨p,vs,e,c,f⟩:=h;refine⟨p,e,⟨vs,(cK (au _ _) c).t⟩,q _ H1 k fun H' l _ sm=>⟨fun i a ha=>?_,?_⟩⟩
   .obtain⟨x,h1,h2⟩:=j4 f ha;refine⟨⟨vs,x,(cK (au _ _) (cK sm c)).t,h1⟩,fun y g d=>?_⟩;obtain⟨j,d⟩:=d;subst j;have:=d vs ((cK (au _ _) (cK sm c)).t);rw[h1] at this;cases this;exact⟨aD.refl _,aw sm h2⟩
   .exact⟨vs,(cK (au _ _) (cK sm c)).t,by rw[bL f];exact Vu _⟩⟩⟩
def AG{xs:yo α}{ys:List α}{k:Int}{p2:Pos}(ha:E X Γ e1 b xs)(y:E X Γ e2 b2 k)(A:0<k)(j:0<xs.l.length)(x:xs.l.drop k.toNat=ys:=by rfl):E X Γ (.Subscript e1 (.Slice (some e2) none none p2) pos) b (yo.mk ys):=by
 with_unfolding_all
  subst x
  exact aN (mf LR ha (qi y) qh) fun σ H Q ⟨H0,F,O,S,q⟩=>⟨H0,F,O,S,fun v H1 f n=>⟨H0,F,O,S.go f,fun w H2 a s=>by
   obtain⟨p,vs,e,o,r⟩:=n;have g:=bL r;have i:k=((k.toNat:Nat):Int):=by lia
   have d:HT.e8 vs.length 0 (some k)≠0:=by
    rw[i,HT.qp];lia
   refine⟨k,s,p,vs,e,(cK (au _ _) (cK (ah a) o)).t,fun z=>d z.1,fun l j=>?_⟩;obtain⟨m,u⟩:=wq (xs:=jt vs (some k) none) ((S.go f).go a) j;refine q _ _ (f.trans (a.trans m)) ⟨l,_,rfl,.inl u,?_⟩
   have ec:jt vs (some k) none=vs.drop k.toNat:=by
    unfold jt;rw[i,HT.qp,HT.mG];simp only[Int.toNat_natCast];by_cases c:k.toNat<=vs.length
    .rw[aaJ c,Xy (by rw[XT];exact Vu _)]
    .rw[aau (by lia),YE (Vu _),YE (by lia)];simp
   have h:=bB (fun _ _ z=>aw ((ah a).trans (ah m)) z) (vH k.toNat r);rw[<-ec] at h
   exact h⟩⟩
def vY(K:PySem.W.Frag)(mg:Str->Option Value)(x:Str)(xs:List Int):Prop:=∃(p:Addr) (o:Obj) (its:Array Value) (n:Nat),mg x=some (.ref p)/\K.lookup p=some o/\o.cls=.type "tuple"/\o.data=.seq its n/\its.size<=sizeLine/\Vals (xs.map V.int) its.toList
def t7{xs:List Int}(c:Gl X x)(a:vY X.K X.mg x xs)(b:(x==("__debug__":Str))=false:=by decide):E X Γ (.Name x pos) true (yo.mk xs):=by
 with_unfolding_all
  obtain⟨p,o,its,n,a,h1,h2,f,d,e⟩:=a;exact aN (Af (v:=.ref p) c a rfl b) fun σ H Q ⟨H0,F,O,S,q⟩=>q _ H (aD.refl _) ⟨p,_,rfl,.inr ⟨o,its,n,h1,h2,f,d,e⟩,vV xs⟩
def xT.mk{h:Heap}{mg:Str->Option Value}{i:Int}{t:Tok}(Y:K.In h)(G:h.Ns mainGlobals mg)(a:PySem.W.nsIn K mainGlobals x=some (some (.int i t))):xT mg x i:=⟨t,ZY Y G a⟩
def vY.mk{h:Heap}{mg:Str->Option Value}{xs:List Int}{od:Option Addr}{its:Array Value}{n:Nat}{b:Array (Option Value)}(Y:K.In h)(G:h.Ns mainGlobals mg)(a:PySem.W.nsIn K mainGlobals x=some (some (.ref p)))
  (l:K.lookup p=some ⟨.type "tuple",od,.seq its n,b⟩) (hz:its.size<=1000) (c:Vals (xs.map V.int) its.toList):vY K mg x xs:=⟨p,_,its,n,ZY Y G a,l,rfl,rfl,W4 (di hz),c⟩
def eL{a:α}(h:E X Γ e b (some a)):E X Γ e b a:=by
 with_unfolding_all
  exact h
def iJ{a:α}(h:E X Γ e b a):E X Γ e b (some a):=by
 with_unfolding_all
  exact h
def P4{x:Option α}{j:Nat}{p:Pos}(ha:E X Γ e1 b1 x)(d:∀(K:PySem.W.Frag) (N:Nn) (H:Hp) (a:α),¬Py.rp K N H .non a):E X Γ (.Compare e1 [.IsNot] [.Constant .none j p] pos) true (!x.isNone):=by
 with_unfolding_all
  exact aN (D4 (Ad ha)) fun σ H Q ⟨H0,F,O,S,q⟩=>⟨H0,F,O,S,fun v H1 f b=>by
    have e:decide (v=.non)=x.isNone:=by
     cases x with
     |none=>cases b;rfl
     |some a =>
      have c:v≠.non:=by rintro rfl;exact d _ _ _ a b
      rw[VW c];rfl
    have:=q (.bl (!decide (v=.non))) H1 f;show Q (.bl (!decide (v=.non))) H1;rw[e] at this ⊢
    exact this rfl⟩
def zH{x:Option α}{j:Nat}{p:Pos}(ha:E X Γ e1 b1 x)(d:∀(K:PySem.W.Frag) (N:Nn) (H:Hp) (a:α),¬Py.rp K N H .non a):T X Γ (.Compare e1 [.IsNot] [.Constant .none j p] pos) (!x.isNone):=by
 with_unfolding_all
  exact tT (Ey (Ad ha)) fun σ H Q ⟨H0,F,O,S,q⟩=>⟨H0,F,O,S,fun v H1 f b=>by
    refine⟨!decide (v=.non),rfl,?_⟩
    have e:decide (v=.non)=x.isNone:=by
     cases x with
     |none=>cases b;rfl
     |some a =>
      have c:v≠.non:=by rintro rfl;exact d _ _ _ a b
      rw[VW c];rfl
    rw[e];exact q H1 f⟩
variable{γ:Type}[Py γ]{e3:Expr}{b3:Bool}
def GI{op a:CmpOp}{x:α}{y:β}{z:γ}{c':Bool}(h1:CV X op x y c)(h2:CV X a y z c')(ha:E X Γ e1 b1 x)(p:E X Γ e2 b2 y)(m:E X Γ e3 b3 z)(k:lastMarks [op,a] [e2,e3]=false:=by with_unfolding_all rfl):E X Γ (.Compare e1 [op,a] [e2,e3] pos) true (c&&c'):=by
 with_unfolding_all
  obtain⟨r,o,j⟩:=h1;obtain⟨s,e,f⟩:=h2
  exact aN (F1 o e ha p m k) fun σ H Q ⟨H0,F,O,S,q⟩=>⟨H0,F,O,S,fun v H1 d n=>⟨H0,F,O,S.go d,fun w H2 b h =>
   j _ _ H2 v w _ (aw ((ah b).trans (au _ _)) n) (aw (au _ _) h) ⟨c,rfl,by
    cases c with
    |false=>exact q _ H2 (d.trans b) rfl
    |true=>exact⟨H0,F,O,(S.go d).go b,fun u i g l=>f _ _ i w u _ (aw ((ah g).trans (au _ _)) h) (aw (au _ _) l) (q _ i (d.trans (b.trans g)) rfl)⟩⟩⟩⟩
def Aq{op a:CmpOp}{x:α}{y:β}{z:γ}{c':Bool}(h1:CV X op x y c)(h2:CV X a y z c')(ha:E X Γ e1 b1 x)(p:E X Γ e2 b2 y)(m:E X Γ e3 b3 z)(k:lastMarks [op,a] [e2,e3]=false:=by with_unfolding_all rfl):T X Γ (.Compare e1 [op,a] [e2,e3] pos) (c&&c'):=by
 with_unfolding_all
  obtain⟨r,o,j⟩:=h1;obtain⟨s,e,f⟩:=h2
  exact tT (FZ o e ha p m k) fun σ H Q ⟨H0,F,O,S,q⟩=>⟨H0,F,O,S,fun v H1 d n=>⟨H0,F,O,S.go d,fun w H2 b h =>
   j _ _ H2 v w _ (aw ((ah b).trans (au _ _)) n) (aw (au _ _) h) ⟨c,rfl,by
    cases c with
    |false=>exact⟨false,rfl,q H2 (d.trans b)⟩
    |true=>exact⟨H0,F,O,(S.go d).go b,fun u i g l=>f _ _ i w u _ (aw ((ah g).trans (au _ _)) h) (aw (au _ _) l) ⟨c',rfl,q i (d.trans (b.trans g))⟩⟩⟩⟩⟩
end
def OV:GD:={nx:=fun _=>True,rt:=fun _=>False}
section
variable{P:Program}{w:World}{K:PySem.W.Frag}{mg:Str->Option Value}{base:Heap}{N ps:List Str}{x qual:Str}{st:Stmt}{f:Addr}{k:Nat}{fd:FuncData}
def Cc{gs:List Bd}{vs:List V}{O:Addr->Prop}{b:Bool}{Q:VK}{a:Value}{A:Around}{outer:List Env}{s:Shared}{E:XK}(B:Body P w K mg base N qual st f k gs OV)(d:dv k (A.deeper (envOfC qual (ag st) s.heap.objs.size f a)))
  (c:nr H O) (h:Args K (off H O) vs gs) (q:∀r H',aD H H'->Py.rp K (Nf H b) (off H' O) r ()->Q r H'):
  ∃t,p4 (sM oo P w K mg base N qual (ag st) f a A outer s H E).JK (bR st) t/\t {nx:=fun _ H'=>Q .non H',rt:=Q} (start N vs) H:=by
 with_unfolding_all
  refine⟨_,B a A outer s H E d,H,O,O,nX c h,fun _ _ H' _ _ Z _=>q .non H' Z.same rfl,fun g v H' sm z e=>e.elim,fun _ _ _ _ _ _ z=>z.elim,fun _ _ _ _ _ _ z=>z.elim⟩
def qC{α:Type}(_:α):Unit:=()
def NL{α:Type}[Py α]{pre:α->Prop}{b:Bool}(F:se K x qual st f fd)(g:aj N ps (ag st))(i:ps.length=1)(B:∀a,pre a->Body P w K mg base N qual st f k [.val false a] OV):
  ff P w K mg base oo (k+1) f fd ps (cR K pre b (qC (α:=α))):=by
 with_unfolding_all
  refine F.ok g (fun vs H Q E h=>?_) fun c A outer s H vs Q E e h=>?_
  .obtain⟨O,v,a,_,rfl,_⟩:=h;rw[i];rfl
  .obtain⟨O,v,a,d,rfl,r,hp,q⟩:=h;exact Cc (B a hp) e d (.cons r .nil) q
end
def zG{O:Addr->Prop}(b:∀p,O p->∃xs:Mt,H p=some (mo xs))(p:Addr)(xs:List V)(h:Rt H p xs):Rt (off H O) p xs:=by
 have a:¬O p:=fun z=>by
  obtain⟨ys,e⟩:=b p z;rcases h with h|⟨o,h⟩
  .rw[e] at h;rcases ys with ys|ys|ys<;>cases h
  .rw[e] at h;rcases ys with ys|ys|ys<;>cases h
 rcases h with h|⟨o,h⟩
 .exact .inl (by rw[aT a];exact h)
 .exact .inr ⟨o,by rw[aT a];exact h⟩
theorem uB{α β:Type}{F:α->β->Prop}:∀{b a:List α} {m₁ m₂:List β},Paired F b m₁->Paired F a m₂->Paired F (b++a) (m₁++m₂)
 |_,_,_,_,.nil,h=>h
 |_,_,_,_,.cons h r,h'=>.cons h (uB r h')
section
variable{X:Cx}{Γ:aL}{D:GD}{α β γ:Type}[Py α][Py β][Py γ]{e e1 e2:Expr}{b b1 b2:Bool}{pos:Pos}{st rest:List Stmt}
def eR{a a':α}(h:E X Γ e b a)(ha:a=a'):E X Γ e b a':=by
 with_unfolding_all
  subst ha;exact h
def Dn{xs ys:List α}(ha:E X Γ e1 true xs)(u:E X Γ e2 true ys)(n:xs.length+ys.length<=1000):E X Γ (.BinOp e1 .Add e2 pos) true (xs++ys):=by
 with_unfolding_all
  exact aN (Bc Ko ha u) fun σ H Q ⟨H0,F,O,S,q⟩=>⟨H0,F,O,S,fun v H1 g m=>⟨H0,F,O,S.go g,fun w H2 d r=>by
    obtain⟨p,vs,e1,k,t,e⟩:=m;obtain⟨i,a,e2,s,o,f⟩:=r;have h1:H2 p=some (.lst vs):=d _ _ ((au _ _) _ _ t.2);have h2:H2 i=some (.lst a):=(au _ _) _ _ o.2;refine⟨p,i,vs,a,e1,e2,h1,h2,by rw[bL e,bL f];exact W4 (di n),fun l c=>?_⟩;obtain⟨h,j⟩:=cL (xs:=vs++a) ((S.go g).go d) c
    exact q _ _ (g.trans (d.trans h)) ⟨l,_,rfl,dX.of j,Nf.wk (b:=true) (((S.go g).go d).gU c) j,uB (bB (fun _ _ z=>aw ((ah d).trans (ah h)) z) e) (bB (fun _ _ z=>aw (ah h) z) f)⟩⟩⟩
def yD[PyT α]{es:List Expr}{as:List α}(h:EA X Γ es b as)(f:as.length<=1000):EN X Γ (.List es pos) as:=by
 with_unfolding_all
  exact aN (yi h) fun σ H Q ⟨H0,F,O,S,q⟩=>⟨H0,F,O,S,fun vs H1 a e=>⟨by rw[bL e];exact W4 (di f),fun p hp=>by
    obtain⟨c,d⟩:=cL (xs:=vs) (S.go a) hp
    exact q _ _ (a.trans c) ⟨p,vs,rfl,dX.of d,⟨a.free hp,d⟩,bB (fun _ _ r=>PyT.free (fun _ _ w=>w) (aw (ah c) r)) e⟩⟩⟩
def OE{x y:α}(f:T X Γ e c)(ha:c=true->EN X Γ e1 x)(g:c=false->EN X Γ e2 y):EN X Γ (.IfExp e e1 e2 pos) (if c then x else y):=by
 with_unfolding_all
  cases c with
  |true=>exact aN (iF f (ha rfl) oF) fun σ H Q ⟨H0,F,O,S,q⟩=>⟨H0,F,O,S,fun H1 a=>sP ⟨H0,F,O,S.go a,fun w H2 d b=>q w H2 (a.trans d) (mN a b)⟩⟩
  |false=>exact aN (iF f oF (g rfl)) fun σ H Q ⟨H0,F,O,S,q⟩=>⟨H0,F,O,S,fun H1 a=>sR ⟨H0,F,O,S.go a,fun w H2 d b=>q w H2 (a.trans d) (mN a b)⟩⟩
def A7[PyT α](i:Nat)(b:Bool){as:List α}(c:Γ[i]?=some (some (.dpo as)))(h:S X (Γ.set i (some (.own b as))) st D):S X Γ st D:=by
 with_unfolding_all
  exact rN h fun x σ H ⟨H0,F,O,Z,n,r,bk,ct⟩=>by
   refine⟨H0,F,O,⟨Z.same,Z.fo,Z.f0,Z.own,by rw[WM];exact Z.len,fun j g e no=>?_,?_⟩,n,r,bk,ct⟩
   .by_cases a:j=i
    .subst a;have f:j<Γ.length:=(VE.mp c).1;rw[get_set_eq f] at e;have d:Bd.own b as=g:=VP (VP e);exact absurd (d▸(True.intro:(Bd.own b as).gA)) no
    .rw[get_set_ne a] at e;exact Z.at_ j g e no
   .obtain⟨s,t,u,l⟩:=Z.dis;refine⟨s,t,u,fun j g e o=>?_⟩;by_cases a:j=i
    .subst a;have f:j<Γ.length:=(VE.mp c).1;rw[get_set_eq f] at e;have d:Bd.own b as=g:=VP (VP e);subst d;obtain⟨v,q1,p,xs,q,w,k,m⟩:=l j _ c True.intro;exact⟨v,q1,p,xs,q,k.1,k.2,bB (fun _ _ z=>PyT.free (zG Z.own) z) m⟩
    .rw[get_set_ne a] at e;exact l j g e o
end
end L2.EP
namespace L2
open PySem PySem.Spec PyProof.Rows
section
variable{X:Cx}{pos:Pos}
end
end L2
namespace L2.EP
open PySem PySem.Spec PyProof.Rows
section
variable{X:Cx}{Γ:aL}{D:GD}{α β γ:Type}[Py α][Py β][Py γ]{e e1 e2:Expr}{b b1 b2:Bool}{pos:Pos}{rest st:List Stmt}
def Gp{xs:List α}{k:Int}{p2:Pos}(ha:E X Γ e1 b xs)(t:E X Γ e2 b2 k)(u:0<=k):E X Γ (.Subscript e1 (.Slice none (some e2) none p2) pos) b (xs.take k.toNat):=by
 with_unfolding_all
  exact aN (mf vQ ha qh (qi t)) fun σ H Q ⟨H0,F,O,S,q⟩=>⟨H0,F,O,S,fun v H1 c m=>⟨H0,F,O,S.go c,fun w H2 a s=>by
    obtain⟨p,vs,e,o,n,r⟩:=m;refine⟨k,s,p,vs,e,(au _ _).seq ((ah a).seq o),fun l g=>?_⟩;obtain⟨h,i⟩:=cL (xs:=jt vs none (some k)) ((S.go c).go a) g;refine q _ _ (c.trans (a.trans h)) ⟨l,_,rfl,dX.of i,Nf.wk (((S.go c).go a).gU g) i,?_⟩
    have ec:jt vs none (some k)=vs.take k.toNat:=by
     unfold jt;have j:k=((k.toNat:Nat):Int):=by lia
     rw[j,HT.qp,HT.mG];simp only[Int.toNat_natCast,List.drop_zero,Nat.sub_zero];by_cases d:k.toNat<=vs.length
     .rw[aaJ d]
     .rw[aau (by lia),Xy (Vu _),Xy (by lia)]
    have f:=bB (fun _ _ z=>aw ((ah a).trans (ah h)) z) (uI k.toNat r);rw[<-ec] at f
    exact f⟩⟩
def By(k:X.calm=true):jL X (.builtin "min") (fun xs H Q=>∃p,∃ns:List Int,xs=[.ref p]/\dX X.K H p (ns.map V.int)/\0<ns.length/\∀M,M∈ns->(∀a,a∈ns->M<=a)->Q (.int M) H):=by
 intro pins s σ H xs us Q I r h;obtain⟨p,ns,rfl,l,b,q⟩:=h;obtain⟨u,rfl,e⟩:=vals1 r;cases e;obtain⟨its,f,pl,_⟩:=I.list l;have hi:=intsAre_of f;obtain⟨ys,d⟩:=hi.allInts.items;have c:s.heap.IsList p (intItems ys):=d▸pl.isList
 have e1:ns=ys.toList.map (·.1):=by
  rw[<-nums_intItems,<-d];exact(show numsOf its.toArray.toList=ns from hi.numsOf).symm
 have hsz:0<ys.size:=by rw[e1,Vx,VI] at b;exact b
 refine min_intList (I.ok.hd k) c hsz fun v h' tk g i=>?_;obtain⟨t,rfl⟩:=intItems_at g;obtain⟨h1,h2⟩:=argBest_lt (numAt ys) (ys.size-1);refine⟨.int _,H,I.kept i,⟨_,rfl⟩,q _ ?_ fun a ha=>?_⟩
 .rw[e1,numAt_eq];exact getD_mem (by rw[Vx,VI];lia)
 .rw[e1] at ha;obtain⟨j,m,rfl⟩:=mem_getD ha;rw[Vx,VI] at m;rw[<-numAt_eq];exact h2 j (by lia)
def BN(k:X.calm=true):jL X (.builtin "max") (fun xs H Q=>∃p,∃ns:List Int,xs=[.ref p]/\dX X.K H p (ns.map V.int)/\0<ns.length/\∀M,M∈ns->(∀a,a∈ns->a<=M)->Q (.int M) H):=by
 intro pins s σ H xs us Q I r h;obtain⟨p,ns,rfl,l,b,q⟩:=h;obtain⟨u,rfl,e⟩:=vals1 r;cases e;obtain⟨its,f,pl,_⟩:=I.list l;have hi:=intsAre_of f;obtain⟨ys,d⟩:=hi.allInts.items;have c:s.heap.IsList p (intItems ys):=d▸pl.isList
 have e1:ns=ys.toList.map (·.1):=by
  rw[<-nums_intItems,<-d];exact(show numsOf its.toArray.toList=ns from hi.numsOf).symm
 have hsz:0<ys.size:=by rw[e1,Vx,VI] at b;exact b
 refine max_intList (I.ok.hd k) c hsz fun v h' tk g i=>?_;obtain⟨t,rfl⟩:=intItems_at g;obtain⟨h1,h2⟩:=argBest_gt (numAt ys) (ys.size-1);refine⟨.int _,H,I.kept i,⟨_,rfl⟩,q _ ?_ fun a ha=>?_⟩
 .rw[e1,numAt_eq];exact getD_mem (by rw[Vx,VI];lia)
 .rw[e1] at ha;obtain⟨j,m,rfl⟩:=mem_getD ha;rw[Vx,VI] at m;rw[<-numAt_eq];exact h2 j (by lia)
def Es{ns:List Int}{m:Int}{p:Pos}(i:X.calm=true)(h:Gl X "min")(g:X.mg "min"=none)(ha:E X Γ e b ns)(f:0<ns.length)(h1:m∈ns)(h2:∀a,a∈ns->m<=a)(c:starEach [e] X.env=(false,eval e X.env)::starEach [] X.env:=by rfl):E X Γ (.Call (.Name "min" p) [e] [] pos) true m:=by
 with_unfolding_all
  exact aN (fA (By i) h g boot_min (aB ha bq c) (he:=c)) fun σ H Q ⟨H0,F,O,S,q⟩=>⟨H0,F,O,S,fun v H1 k j=>by
    obtain⟨p,vs,e,d,n,r⟩:=j;rw[qD r] at d;refine⟨p,ns,by rw[e],(au _ _).seq d,f,fun M m1 m2=>q _ H1 k ?_⟩;have:=h2 M m1;have:=m2 m h1;show V.int M=V.int m
    rw[show M=m by lia]⟩
def DL{ns:List Int}{m:Int}{p:Pos}(i:X.calm=true)(h:Gl X "max")(g:X.mg "max"=none)(ha:E X Γ e b ns)(f:0<ns.length)(h1:m∈ns)(h2:∀a,a∈ns->a<=m)(c:starEach [e] X.env=(false,eval e X.env)::starEach [] X.env:=by rfl):E X Γ (.Call (.Name "max" p) [e] [] pos) true m:=by
 with_unfolding_all
  exact aN (fA (BN i) h g boot_max (aB ha bq c) (he:=c)) fun σ H Q ⟨H0,F,O,S,q⟩=>⟨H0,F,O,S,fun v H1 k j=>by
    obtain⟨p,vs,e,d,n,r⟩:=j;rw[qD r] at d;refine⟨p,ns,by rw[e],(au _ _).seq d,f,fun M m1 m2=>q _ H1 k ?_⟩;have:=h2 M m1;have:=m2 m h1;show V.int M=V.int m
    rw[show M=m by lia]⟩
end
def GA{X:Cx}:ku X (binaryOp .Add) (fun x y H Q=>∃l b xs zs,x=.ref l/\y=.ref b/\dX X.K H l xs/\dX X.K H b zs/\xs.length+zs.length<=sizeLine/\∀p,H p=none->Q (.ref p) (upd H p (.lst (xs++zs)))):=by
 intro pins s σ H x y v u Q I w D h;obtain⟨l,b,xs,zs,rfl,rfl,A,B,hz,q⟩:=h;cases w;cases D;obtain⟨its,r,pl,_⟩:=I.list A;obtain⟨a,o,g,_⟩:=I.list B;obtain⟨⟨cls,L,data,sl⟩,n,k,j,d,m⟩:=pl;obtain⟨⟨t,z,data2,i⟩,C,e,f,c,hd2⟩:=g;simp only at j d m f c hd2;subst j d m f c hd2;have G:=r.length;have J:=o.length;have E:its.toArray++a.toArray=(its++a).toArray:=by simp
 refine concat_meets ⟨_,k,rfl⟩ ⟨_,e,rfl⟩ noFill_list_add seq_list_add PySem.F.slot_list_add PySem.F.entry_list_add (PySem.F.args_list_add_2 _ _) (list_addW l b its.toArray a.toArray n C none none sl i (by rw[VQ,VQ];lia)) ⟨k,e,?_⟩;rw[E];exact⟨.ref _,_,I.HZ (t':=s.toks) (r.append o) (by rw[V5];lia),rfl,q _ I.fresh⟩
section
variable{X:Cx}{Γ:aL}{D:GD}{α β γ:Type}[Py α][Py β][Py γ]{e e1 e2:Expr}{b b1 b2:Bool}{pos:Pos}{rest st:List Stmt}
def jT[PyT α]{xs ys:List α}(ha:E X Γ e1 b1 xs)(s:E X Γ e2 b2 ys)(n:xs.length+ys.length<=1000):E X Γ (.BinOp e1 .Add e2 pos) true (xs++ys):=by
 with_unfolding_all
  exact aN (Bc GA ha s) fun σ H Q ⟨H0,F,O,S,q⟩=>⟨H0,F,O,S,fun v H1 g m=>⟨H0,F,O,S.go g,fun w H2 d r=>by
    obtain⟨p,vs,e1,h,x,e⟩:=m;obtain⟨o,c,e2,j,u,f⟩:=r;refine⟨p,o,vs,c,e1,e2,(au _ _).seq ((ah d).seq h),(au _ _).seq j,by rw[bL e,bL f];exact W4 (di n),fun l a=>?_⟩;obtain⟨i,k⟩:=cL (xs:=vs++c) ((S.go g).go d) a;refine q _ _ (g.trans (d.trans i)) ⟨l,_,rfl,dX.of k,Nf.wk (b:=true) (((S.go g).go d).gU a) k,uB ?_ ?_⟩
    .exact bB (fun _ _ z=>PyT.free (fun _ _ t=>aD.rt ((ah d).trans (ah i)) t) z) e
    .exact bB (fun _ _ z=>PyT.free (fun _ _ t=>aD.rt (ah i) t) z) f⟩⟩
end
end L2.EP
namespace L2
open PySem PySem.Spec PyProof.Rows
section
variable{X:Cx}{elts:List Expr}{kk:Nat}{tp:Pos}
end
end L2
namespace L2.EP
open PySem PySem.Spec PyProof.Rows
section
variable{X:Cx}{Γ:aL}{α β:Type}[Py α][Py β]{e1 e2:Expr}{b1 b2:Bool}{elts:List Expr}{kk:Nat}{tp p ps:Pos}
end
theorem Fs{α β:Type}{F:α->β->Prop}{l:List α}{m:List β}(h:Paired F l m):∀k,Paired F (List.replicate k l).flatten (List.replicate k m).flatten
 |0=>.nil
 |k+1=>by
  rw[WR,XJ,WR,XJ];exact uB h (Fs h k)
section
variable{X:Cx}{Γ:aL}{D:GD}{α β γ:Type}[Py α][Py β][Py γ]{e e1 e2:Expr}{b b1 b2:Bool}{pos:Pos}{rest st:List Stmt}
def Oa{xs:List α}{k:Int}(ha:E X Γ e1 true xs)(o:E X Γ e2 b2 k)(r:0<=k)(h1:k<=1000)(j:xs.length*k.toNat<=1000):E X Γ (.BinOp e1 .Mult e2 pos) true (List.replicate k.toNat xs).flatten:=by
 with_unfolding_all
  exact aN (Bc LU ha o) fun σ H Q ⟨H0,F,O,S,q⟩=>⟨H0,F,O,S,fun v H1 e i=>⟨H0,F,O,S.go e,fun w H2 c m=>by
    obtain⟨p,vs,e1,h,n,d⟩:=i;have h1:H2 p=some (.lst vs):=c _ _ ((au _ _) _ _ n.2);refine⟨p,k,vs,e1,m,h1,by lia,by lia,by rw[bL d];exact W4 (di j),fun l a=>?_⟩;obtain⟨f,g⟩:=cL (xs:=(List.replicate k.toNat vs).flatten) ((S.go e).go c) a
    exact q _ _ (e.trans (c.trans f)) ⟨l,_,rfl,dX.of g,Nf.wk (b:=true) (((S.go e).go c).gU a) g,Fs (bB (fun _ _ z=>aw ((ah c).trans (ah f)) z) d) _⟩⟩⟩
theorem AD{a:α}:∀k,(List.replicate k [a]).flatten=List.replicate k a
 |0=>rfl
 |k+1=>by rw[WR,XJ,AD k,WR];rfl
def LK{a:α}{k:Int}(ha:E X Γ e1 true [a])(c:E X Γ e2 b2 k)(b:0<=k)(h1:k<=1000):E X Γ (.BinOp e1 .Mult e2 pos) true (List.replicate k.toNat a):=by
 rw[<-AD];exact Oa ha c b h1 (by simp;lia)
end
end L2.EP
namespace L2.Sx
open PySem
variable{i j n:Nat}{xs:Array Nat}{ns:List Int}{l:Bool}{h:Heap}{k:Int}{f:Value}{os:List Nat}
def BF(xs:Array Nat):Prop:=xs.toList.Pairwise (·<·)
def pP(h:BF xs){a b:Nat}(c:a<b)(d:b<xs.size):xs.getD a 0<xs.getD b 0:=by
 have h1:=aai.mp h a b (by simpa using aav c d) (by simpa using d) c;rw[Yf,Yf] at h1;simp only[Array.getD,YW (aav c d),YW d];exact h1
structure Lb(xs:Array Nat)(j i:Nat):Prop where
 le:i<=xs.size
 lo:∀k,k<i->xs.getD k 0<j
 hi:∀k,i<=k->k<xs.size->j<=xs.getD k 0
def CL{k d e:Nat}(h:k<xs.size):xs.getD k d=xs.getD k e:=by
 simp only[Array.getD,YW h]
theorem EU{xs:Array Nat}{j:Nat}(h:BF xs):∀(fuel lo hi:Nat),hi-lo<=fuel->lo<=hi->hi<=xs.size->(∀k,k<lo->xs.getD k 0<j)->(∀k,hi<=k->k<xs.size->j<=xs.getD k 0)->Lb xs j (SetTable.below.go xs j fuel lo hi)
 |0,lo,hi,h1,h2,l,f,g=>by
  unfold SetTable.below.go;exact⟨by lia,f,fun k a b=>g k (by lia) b⟩
 |fuel+1,lo,hi,h1,h2,l,f,g=>by
  unfold SetTable.below.go;by_cases d:lo<hi
  .rw[Vo d];dsimp only;have i:(lo+hi)/2<xs.size:=by lia
   rw[CL (e:=0) i];by_cases c:xs.getD ((lo+hi)/2) 0<j
   .rw[Vo c];refine EU h fuel _ _ (by lia) (by lia) l (fun k m=>?_) g;rcases Y7 (Nat.le_of_lt_succ m) with z|z
    .exact aav (pP h z i) c
    .rw[z];exact c
   .rw[Vm c];refine EU h fuel _ _ (by lia) (by lia) (by lia) f (fun k a b=>?_);rcases Y7 a with z|z
    .exact V7 (aaq c) (W4 (pP h z b))
    .rw[<-z];exact aaq c
  .rw[Vm d];exact⟨by lia,f,fun k a b=>g k (by lia) b⟩
def rD(c:BF xs)(j:Nat):Lb xs j (SetTable.below xs j) :=
 EU c _ _ _ (by lia) (by lia) (Vu _) (fun k h=>absurd h (Xu k)) (fun k a b=>absurd b (by lia))
def ym(a:BF xs):SetTable.below xs 0=0:=by
 have h:=rD a 0;rcases Y4 (SetTable.below xs 0) with z|z
 .exact z
 .exact absurd (h.lo 0 z) (Xu _)
def zf(a:BF xs)(hi:i<xs.size):SetTable.below xs (xs.getD i 0+1)=i+1:=by
 have h:=rD a (xs.getD i 0+1);rcases Nat.lt_trichotomy (SetTable.below xs (xs.getD i 0+1)) (i+1) with z|z|z
 .have:=h.hi i (by lia) hi;lia
 .exact z
 .have h1:=h.lo (i+1) z;have h2:=pP a (show i<i+1 by lia) (VY z h.le);lia
def B4(n:Nat):BF (Array.range n):=by
 unfold BF;rw[Array.toList_range];exact aaO
def HG(g:BF xs)(n:xs[SetTable.below xs j]?≠some j):BF (SetTable.insertAt xs (SetTable.below xs j) j):=by
 have h:=rD g j;unfold BF;rw[SetTable.toList_insertAt];refine List.pairwise_append.mpr ⟨aaU (List.take_sublist ..) g,W9.mpr ⟨fun y l=>?_,aaU (List.drop_sublist ..) g⟩,fun a ha y l=>?_⟩
 .obtain⟨k,i,e⟩:=Yg.mp l;rw[List.getElem_drop,Yf] at e;rw[XT,VI] at i;have c:SetTable.below xs j+k<xs.size:=by lia
  have h1:=h.hi (SetTable.below xs j+k) (by lia) c;simp only[Array.getD,YW c] at h1;rcases Y4 k with z|z
  .subst z;have h2:xs[SetTable.below xs j]?=some xs[SetTable.below xs j]:=WY (by lia);rcases Y7 h1 with q|q
   .rw[<-e];exact q
   .refine absurd ?_ n;rw[h2];exact congrArg some (by simpa using q.symm)
  .have h2:=pP g (a:=SetTable.below xs j) (b:=SetTable.below xs j+k) (by lia) c;have p:=h.hi (SetTable.below xs j) (Vu _) (by lia);simp only[Array.getD,YW c] at h2;rw[<-e];exact Yv p h2
 .obtain⟨k,i,e⟩:=Yg.mp ha;rw[List.getElem_take,Yf] at e;rw[Xz,VI] at i;have h1:=h.lo k (by lia);simp only[Array.getD,YW (show k<xs.size by lia)] at h1;have d:a<j:=by rw[<-e];exact h1
  rcases Vq.mp l with z|z
  .rw[z];exact d
  .obtain⟨m,o,e2⟩:=Yg.mp z;rw[List.getElem_drop,Yf] at e2;rw[XT,VI] at o;have f:SetTable.below xs j+m<xs.size:=by lia
   have h2:=h.hi (SetTable.below xs j+m) (by lia) f;simp only[Array.getD,YW f] at h2;rw[<-e2];exact VY d h2
def p8(t:SetTable)(j:Nat):Prop:=t.place[SetTable.below t.place j]?≠some j
def xV{t:SetTable}(h:t.slot j=.empty\/t.slot j=.dummy):p8 t j:=fun e=>by
 unfold SetTable.slot at h;simp only[e,YN,Yr] at h;rcases h with h|h<;>cases h
def ua(t:SetTable)(p:SetTable.Probe):(t.advance p).dummy=p.dummy:=by
 unfold SetTable.advance;split<;>rfl
theorem nK{t:SetTable}{f:Nat->Int}{h:Int}:∀(n:Nat) (p:SetTable.Probe),(∀d,p.dummy=some d->p8 t d)->∀j d,SetTable.probe.go t f h n p=some (.empty j d)->p8 t (d.getD j)
 |0,p,_,j,d,e=>by simp[SetTable.probe.go] at e
 |n+1,p,hp,j,d,e=>by
  unfold SetTable.probe.go at e;cases b:t.slot p.j with
  |empty =>
   rw[b] at e;simp only[YH,SetTable.Met.empty.injEq] at e;obtain⟨rfl,rfl⟩:=e;cases c:p.dummy with
   |none=>exact xV (.inl b)
   |some d=>exact hp d c
  |dummy =>
   rw[b] at e;refine nK n _ (fun d' a=>?_) j d e;rw[ua] at a;simp only[YH] at a;rw[<-a];exact xV (.inr b)
  |live i =>
   rw[b] at e;simp only at e;split at e
   .simp at e
   .exact nK n _ (fun d' a=>hp d' (by rw[ua] at a;exact a)) j d e
def E6{t:SetTable}{h:Int}{b:Bool}(e:t.freeSlot h=some (j,b)):p8 t j:=by
 unfold SetTable.freeSlot at e;split at e
 .rename_i f d a;have:=nK (t:=t) _ _ (fun d c=>by simp[SetTable.probeStart] at c) _ _ a;simp only[YH,aa1] at e;rw[<-e.1];exact this
 .cases e
structure Gd(l:Bool)(t:SetTable):Prop where
 led:t.led=l
 inc:BF t.place
def DF(l:Bool):Gd l (.fresh 0 0 l):=⟨rfl,by unfold BF SetTable.fresh;exact .nil⟩
def mJ{t:SetTable}(h:Gd l t)(n:Nat):Gd l (t.standIn n):=⟨h.led,B4 n⟩
def K1{t:SetTable}(h:Gd l t)(es:Array (Int×Value))(a:Int)(x:Value):Gd l (layNew t es a x).2.1:=by
 unfold layNew;split
 .rename_i j b e;have c:=E6 e;have g:Gd l (t.put j).1:=⟨h.led,HG h.inc c⟩;show Gd l ((t.put j).1.orStandIn _);unfold SetTable.orStandIn;split
  .exact g
  .exact mJ g _
 .exact mJ h _
def Ih{mask m mo:Nat}{pl:Bool}{i:Array Int}{t:SetTable}{o:Array Nat}(e:SetTable.laid mask m mo l pl i=some (t,o)):Gd l t:=by
 unfold SetTable.laid at e;cases k:SetTable.layClean mask i with
 |none=>rw[k] at e;cases e
 |some g =>
  rw[k] at e;simp only[Option.bind_eq_bind,Option.bind_some,Option.pure_def,YH,aa1] at e;rw[<-e.1];refine⟨rfl,?_⟩;unfold BF;simp only;rw[List.map_filterMap]
  have:∀l:List Nat,l.Pairwise (·<·)->(l.filterMap fun j=>Option.map (·.1) ((g.getD j none).map fun x=>(j,x))).Pairwise (·<·):=fun l n=>by
   refine List.Pairwise.filterMap _ (fun a a' h b f b' c=>?_) n;cases ha:g.getD a none with
   |none=>rw[ha] at f;simp at f
   |some u =>
    rw[ha] at f;cases d:g.getD a' none with
    |none=>rw[d] at c;simp at c
    |some p =>
     rw[d] at c;simp only[Option.map_some,YH] at f c;rw[<-f,<-c];exact h
  exact this _ aaO
def C5{t:SetTable}(h:Gd l t)(es:Array (Int×Value))(n:Nat):Gd l (relayAll t es n).2.1:=by
 unfold relayAll;split
 .rename_i t' o e;dsimp only;split
  .unfold SetTable.relaid at e;rw[h.led] at e;exact Ih e
  .exact mJ h _
 .exact mJ h _
open PySem PyProof.Rows
structure jr(p:Program)(w:World)(l:Bool)(h:Heap)(a:Addr)(o:Obj)(es:Array (Int×Value))(ep:Nat)(t:SetTable):Prop where
 get:h.get? a=some o
 ex:o.ExactSet
 dat:o.data=.set es ep t
 el:ElemsOf (intKind p w) es.toList
 bd:es.size<scanBound
 fit:t.fits es.size=true
 gd:Gd l t
def nU(p:Program)(w:World)(l:Bool)(h:Heap)(a:Addr)(ns:List Int):Prop :=
 ∃o es ep t,jr p w l h a o es ep t/\(∀k,k∈ns↔∃e∈es.toList,(intKind p w).is k e.2=true)/\es.size=ns.length
def nU.keep{p:Program}{w:World}{h':Heap}{a:Addr}(q:nU p w l h a ns)(k:∀o,h.get? a=some o->h'.get? a=some o):nU p w l h' a ns:=by
 obtain⟨o,es,ep,t,g,m,z⟩:=q;exact⟨o,es,ep,t,⟨k o g.get,g.ex,g.dat,g.el,g.bd,g.fit,g.gd⟩,m,z⟩
def ins(ns:List Int)(k:Int):List Int:=if k∈ns then ns else ns++[k]
section
variable{p:Program}{w:World}{A:Around}{E:Value->Shared->Prop}{s:Shared}{l:Bool}{a:Addr}
def xW{o:Obj}{es:Array (Int×Value)}{ep:Nat}{t:SetTable}(g:jr p w l h a o es ep t){b:Array (Int×Value)}{t':SetTable}(he:ElemsOf (intKind p w) b.toList)(e:b.size<scanBound)(d:t'.fits b.size=true)(c:Gd l t'):
  jr p w l (h.update a (Obj.putSet b t')) a {o with data:=.set b (ep+1) t'} b (ep+1) t':=by
 refine⟨?_,g.ex,rfl,he,e,d,c⟩;have q:=Xm (Obj.putSet b t') g.get (by rw[putSet_of b t' g.dat];rfl)
 rwa [putSet_of b t' g.dat] at q
def add_int{u:Tok}{Q:Bool->Shared->Prop}(hS:nU p w l s.heap a ns)(hr:ns.length+1<scanBound)(h:∀b h',Heap.SameBut a s.heap h'->nU p w l h' a (ins ns k)->Q b {s with heap:=h'}):
  wpAny (model p w) A (setAddHashed a (.int k u) ((intKind p w).hash k)) Q E s:=by
 obtain⟨o,es,ep,t,g,H,hz⟩:=hS;have G:(intKind p w).is k (.int k u)=true:=intKind_is _ _ _ _;have v:(Value.int k u).scannable=true:=rfl;have N:byScan (.int k u) es=true:=byScan_of v g.bd g.el;unfold setAddHashed setAddHashedIn;refine Xc (Vl (Yb g.get g.dat g.fit ?_));dsimp only;rw[Vo N];unfold setAddByScan;refine Vl (Vl (aaj (Vl (wpAny_setScan_of G g.get g.dat g.fit g.el ?_))));cases V:es.toList.findIdx? (fun e=>(intKind p w).is k e.2) with
 |some j =>
  obtain⟨hj,hp,_⟩:=List.findIdx?_eq_some_iff_getElem.mp V;have O:k∈ns:=(H k).mpr ⟨_,XX hj,hp⟩;refine Vp (Vp (h false s.heap (Heap.SameBut.refl a s.heap) ?_));unfold ins;rw[Vo O];exact⟨o,es,ep,t,g,H,hz⟩
 |none =>
  have D:k∉ns:=fun z=>by
   obtain⟨e,he,hp⟩:=(H k).mp z;have q:=List.findIdx?_eq_none_iff.mp V e he;rw[hp] at q;cases q
  have W:∀(b:Bool) (S:Shared) (R:Unit->Shared->Prop),R () S->wpAny (model p w) A (match b with|true=>rule "set.scan.the-table-gave-way" |false=>pure ()) R E S:=fun b S R q=>by
   cases b with
   |true=>exact aaj q
   |false=>exact Vp q
  have n:=layNew_perm t es ((intKind p w).hash k) (.int k u);have I:=layNew_fits t es ((intKind p w).hash k) (.int k u);have K:=K1 g.gd es ((intKind p w).hash k) (.int k u);generalize layNew t es ((intKind p w).hash k) (.int k u)=L at n I K ⊢;obtain⟨c,P,wd,gv⟩:=L;dsimp only at n I K ⊢;rw[Xs] at n
  have sz:c.size=es.size+1:=by
   rw[<-VI,n.length_eq,V5,VI];rfl
  have F:ElemsOf (intKind p w) c.toList:=(g.el.push G v).perm n
  have i:∀y,y∈ns++[k]↔∃e∈c.toList,(intKind p w).is y e.2=true:=fun y=>by
   rw[Wk,H y,V0];constructor
   .rintro(⟨e,he,q⟩|rfl)
    .exact⟨e,n.mem_iff.mpr (WU _ he),q⟩
    .exact⟨_,n.mem_iff.mpr (VU _ (V0.mpr rfl)),G⟩
   .rintro⟨e,he,q⟩;rcases Wk.mp (n.mem_iff.mp he) with z|z
    .exact .inl ⟨e,z,q⟩
    .rw[V0.mp z] at q;exact .inr ((intKind p w).inj _ y k q G)
  have m:ins ns k=ns++[k]:=by unfold ins;rw[Vm D]
  refine Vl (W _ _ _ ?_)
  have tail:∀d:SetTable,d.fits c.size=true->Gd l d->wpAny (model p w) A (do
    storeSet a c d
    if (!wd&&d.tooFull)=true then do
      (match (relayAll d c (SetTable.grown c.size)).2.2 with|true=>rule "set.scan.the-table-gave-way" |false=>pure ())
      storeSet a (relayAll d c (SetTable.grown c.size)).1 (relayAll d c (SetTable.grown c.size)).2.1
      pure (some true)
     else pure (some true)) (fun r s'=>wpAny (model p w) A (match r with|some b=>pure b|none=>setAddHashedIn a (.int k u) ((intKind p w).hash k) 99999) Q E s') E s:=fun d Y T=>by
   have J:=xW g F (by lia) Y T;have X:=V_ s.heap a (Obj.putSet c d);refine Vl (wpAny_storeSet_of g.get g.dat ?_ (Ze (by lia)));by_cases U:(!wd&&d.tooFull)=true
   .rw[Vo U];have f:=relayAll_perm d c (SetTable.grown c.size);have x:=relayAll_fits d c (SetTable.grown c.size);have B:=C5 T c (SetTable.grown c.size);generalize relayAll d c (SetTable.grown c.size)=R at f x B ⊢;obtain⟨C,t3,Z⟩:=R;dsimp only at f x B ⊢;have M:C.size=c.size:=by rw[<-VI,f.length_eq,VI]
    have G2:=xW J (F.perm f) (by lia) x B;refine Vl (W _ _ _ (Vl (wpAny_storeSet_of J.get J.dat ?_ (Ze (by lia)))));refine Vp (Vp (h true _ (X.trans (V_ _ a _)) ?_));rw[m];refine⟨_,C,_,t3,G2,fun y=>(i y).trans ⟨fun⟨e,he,q⟩=>⟨e,f.mem_iff.mpr he,q⟩,fun⟨e,he,q⟩=>⟨e,f.mem_iff.mp he,q⟩⟩,?_⟩;rw[V5,M,sz,hz];rfl
   .rw[Vm U];refine Vp (Vp (h true _ X ?_));rw[m];refine⟨_,c,_,d,J,i,?_⟩;rw[V5,sz,hz];rfl
  cases hp:P.plain with
  |true =>
   rw[Vo rfl,hashByValue_scannable 8 v];exact Vl (Vp (tail P I K))
  |false =>
   exact Vl (Vp (tail P I K))
end
open PySem PyProof.Rows PySem.Spec
def met(f:Nat->Int)(i:Nat):List Int:=((List.range i).map f).foldl ins []
def lZ(f:Nat->Int)(i:Nat):met f (i+1)=ins (met f i) (f i):=by
 unfold met;rw[aaH,Yx,Z_];rfl
theorem pO(f:Nat->Int):∀i,(met f i).length<=i
 |0=>Vu _
 |i+1=>by
  have z:=pO f i;rw[lZ];unfold ins;split
  .lia
  .rw[V5];simp;lia
section
variable{p:Program}{w:World}{A:Around}{E:Value->Shared->Prop}{s:Shared}{l:Bool}
def Ex{R:Result->Shared->Prop}{I S:Addr}{fp wr:List Addr}{G:Array GenState->Array GenState->Prop}{P:Nat->Value->Prop}{St:Nat->Shared->Prop}(W:WalksS p w A.in1 I fp wr G n P St)(x:S∉fp)(f:Nat->Int)(C:∀i v,P i v->∃t,v=.int (f i) t)(F:n+1<scanBound):
  ∀(k i:Nat) (s:Shared),i+k=n->St i s->nU p w l s.heap S (met f i)->(∀s',Moved (S::wr) G s s'->nU p w l s'.heap S (met f n)->R (.ok (.ret .none)) s') ->
   codeAny (model p w) A (.builtin "set.update.loop" ⟨[.ref S,.ref I],[]⟩) R s:=by
 have q:S∉wr:=fun z=>x (W.sub _ z);have up:∀b∈wr,b∈S::wr:=fun b z=>Vw _ z;intro k
 induction k with
 |zero =>
  intro i s y st g fin;obtain rfl:i=n:=by lia
  refine Yz Y8 ?_;rw[Yh X4 _];show wpAny _ A.in1 (pyNext (.ref I) >>= _) _ _ s;exact Vl (W.done s _ _ st fun s' a=>Vp (fin s' (a.mono up) (g.keep fun o e=>a.heap S o q e)))
 |succ k E =>
  intro i s y st g fin;refine Yz Y8 ?_;rw[Yh X4 _];show wpAny _ A.in1 (pyNext (.ref I) >>= _) _ _ s;refine Vl (W.item i s _ _ (by lia) st fun v s' B m a=>?_);obtain⟨t,rfl⟩:=C i v B;have g':=g.keep (h':=s'.heap) fun o e=>a.heap S o q e;show wpAny _ A.in1 (holding [Value.int (f i) t] (setAdd S (.int (f i) t)) >>= _) _ _ s';unfold setAdd;refine Vl (Xc (Xc (Vl ((intKind p w).pyHash (k:=f i) (intKind_is _ _ _ _) ?_))));have room:(met f i).length+1<scanBound:=by have:=pO f i;lia
  refine add_int (s:={s' with toks:=s'.toks+1}) g' room fun b h' u r=>?_;rw[<-lZ] at r;refine Vp ⟨Zm X4 _,E (i+1) _ (by lia) (W.frame _ s' _ _ m (YC _) fun c h o e=>?_) r fun d j D=>fin d (Moved.trans W.gtrans ((a.mono up).then_heap (YC _) fun c o h e=>?_) j) D⟩
  .rw[u.2 c fun z=>x (z▸h)];exact e
  .rw[u.2 c fun z=>h (z▸VC)];exact e
abbrev qU(w:World):Bool:=!w.params.followText "set-order"
abbrev eS(w:World):Obj:={cls:=.type "set",dict:=none,data:=.set #[] 0 (.fresh 0 0 (qU w))}
def HV(a:Value){R:Value->Shared->Prop}(h:R (.ref s.heap.objs.size) {s with heap:=s.heap.push (eS w)}):codeAny (model p w) A (.call (.builtin "set.__new__") ⟨[.type "set",a],[]⟩) (wants R E) s:=by
 refine codeAny_of_tree (show wpAny _ A.in1 (checkBuiltinCall "set.__new__" ⟨[.type "set",a],[]⟩ >>= fun _=>again (.builtin "set.__new__" ⟨[.type "set",a],[]⟩)) _ _ s from ?_);refine Vl (wpAny_of_eq (PySem.F.newCall_set_1 a) (Vp ⟨Zm aaV _,Yz PySem.F.entry_set_new ?_⟩));rw[Yh aaV _];unfold Builtin.«set.__new__» Builtin.Frozenset.newClass;have sub:=sub_set_self;obtain⟨hp,g,d,tk,os⟩:=s;dsimp only
 wp_walk
 refine aaw (Vp ?_);simp only[newObj];exact Vl (wpAny_alloc (Vp (Vp h)))
def He{a:Addr}(e:h.get? a=some (eS w)):nU p w (qU w) h a [] :=
 ⟨_,#[],0,_,⟨e,⟨rfl,rfl,rfl⟩,rfl,(fun x b=>by simp at b),by decide,rfl,DF _⟩,(fun k=>by simp),rfl⟩
def FH{l:Addr}{items:Array Value}(E:A.handled=none)(D:s.heap.IsList l items)(hi:IntsAre items.toList ns)(G:items.size+1<scanBound){R:Result->Shared->Prop}
  (h:∀h' tk,nU p w (qU w) h' s.heap.objs.size (met (fun i=>ns.getD i 0) items.size)->(∀b o,s.heap.get? b=some o->h'.get? b=some o)->R (.ok (.ret .none)) {s with heap:=h',toks:=tk}):
  wpAny (model p w) A.in1 (Builtin.«set.__init__» ⟨[.ref s.heap.objs.size,.ref l],[]⟩) (fun fin s'=>match fin with|.done f=>R (.ok f) s'|.again c'=>c'.quiet=true/\codeAny (model p w) A c' R s') (fun e s'=>R (.error e) s') {s with heap:=s.heap.push (eS w)}:=by
 obtain⟨ol,m,q,nl,n⟩:=D;obtain⟨x,c,u,a⟩:=ol;simp only at q n;subst q n;have z:(s.heap.push (eS w)).get? s.heap.objs.size=some (eS w):=VM _ rfl;have k:(s.heap.push (eS w)).get? l=some {cls:=.type "list",dict:=c,data:=.seq items nl,slots:=a}:=Vt _ m;have q1:=PySem.F.sub_list_set;have J:=PySem.F.sub_list_frozenset;have K:(Value.type "list"==Value.type "dict")=false:=by decide
 have r:(s.heap.push (eS w)).IsList l items:=⟨_,k,rfl,nl,rfl⟩;have d:l<s.heap.objs.size:=VF m;have sz:(s.heap.push (eS w)).objs.size=s.heap.objs.size+1:=XB ..;unfold Builtin.«set.__init__» noKeywords Builtin.Frozenset.updateFrom;generalize hp:pyIter=I
 wp_walk
 subst hp;refine Z9 r (Vl (wpAny_runValue ?_));have C:l≠(s.heap.push (eS w)).objs.size:=by rw[sz];exact V2 (W0 d)
 have B:s.heap.objs.size∉[(s.heap.push (eS w)).objs.size,l]:=by
  rw[sz];simp only[Vq,VA,Wb,not_or];exact⟨V2 (XW _),aan d⟩
 refine Ex (A:=A.in1) (l:=qU w) ((Walks.list (by simp[E]) _ l C items).toS) B (fun i=>ns.getD i 0) (fun i v y=>IntsAre.int_at hi i v (by rw[WT];exact y)) G items.size 0 _ (by lia) ⟨⟨_,VM _ rfl,rfl,rfl⟩,r.push _⟩ (He (Vt _ z)) fun s' t g=>?_;obtain⟨h',H,dr,tk,os⟩:=s';obtain rfl:H=s.gens:=t.gens;obtain rfl:dr=s.drawn:=t.drawn;obtain rfl:os=s.os:=t.os;refine Vp (Vp (h h' tk g fun b o e=>?_));have j:=VF e;refine t.heap b o ?_ (Vt _ (Vt _ e));rw[sz];simp only[Vq,VA,Wb,not_or];exact⟨V2 j,V2 (W0 j)⟩
def E_{l:Addr}{items:Array Value}{Q:Value->Shared->Prop}(u:A.handled=none)(q:s.heap.IsList l items)(hi:IntsAre items.toList ns)(x:items.size+1<scanBound)
  (h:∀h' tk,nU p w (qU w) h' s.heap.objs.size (met (fun i=>ns.getD i 0) items.size)->(∀b o,s.heap.get? b=some o->h'.get? b=some o)->Q (.ref s.heap.objs.size) {s with heap:=h',toks:=tk}):
  wpAny (model p w) A (call (.type "set") [.ref l]) Q E s:=by
 obtain⟨c,tl,m1⟩:=Xq.mro;have m2:=Xq.made;have m3:=Xq.sub;have m4:=Xq.notType;have m5:=Xq.canCreate;have C:=PySem.F.typeCall_set_1 (.ref l);refine wpAny_call (codeAny_of_tree (show wpAny _ _ (callAny (.type "set") _) _ _ _ from Vp ⟨Code.quiet_builtin _ (by decide +kernel),Yz PySem.F.entry_type_call ?_⟩));rw[Around.under_plain (weight_type_call_type "set" [.ref l] []) rfl]
 repeat any_goals first|assumption|wp_step
 refine Y3 (HV (.ref l) (E:=E) (R:=fun v j=>v=.ref s.heap.objs.size/\j={s with heap:=s.heap.push (eS w)}) ⟨rfl,rfl⟩) fun r j d=>?_;cases r with
 |error e=>exact d
 |ok t =>
  cases t with
  |ret v =>
   obtain⟨rfl,rfl⟩:=d;have y:Shared.TypeIs {s with heap:=s.heap.push (eS w)} (.ref s.heap.objs.size) "set":=⟨_,VM _ rfl,rfl⟩;have z:=Xq.init.lookup;have B:=Xq.init.bind (.ref s.heap.objs.size)
   repeat any_goals first|assumption|wp_step
   refine Y3 (codeAny_call_builtin (R:=wants (fun r f=>r=.none/\∃h' tk,f={s with heap:=h',toks:=tk}/\nU p w (qU w) h' s.heap.objs.size (met (fun i=>ns.getD i 0) items.size)/\∀b o,s.heap.get? b=some o->h'.get? b=some o) E) Xq.init.plain PySem.F.entry_set_init (check_set_init_1 y (FH (by simp[u]) q hi x fun h' tk g k=>⟨rfl,h',tk,rfl,g,k⟩))) fun n f a=>?_;cases n with
   |error e=>exact a
   |ok m =>
    cases m with
    |ret r =>
     obtain⟨rfl,h',tk,rfl,g,k⟩:=a
     repeat any_goals first|assumption|wp_step
     exact h _ _ g k
    |_=>exact a.elim
  |_=>exact d.elim
variable{S:Addr}{o:Obj}{es:Array (Int×Value)}{ep:Nat}{t:SetTable}
def sl(t:SetTable):Nat->Nat
 |0=>0
 |i+1=>t.place.getD i 0+1
def p6{Q:Bool->Shared->Prop}(h:Q (w.params.followText "set-order") s):wpAny (model p w) A setsByText Q E s:=by
 unfold setsByText;exact Vl (aaw (Vp h))
def yh(g:jr p w (qU w) s.heap S o es ep t)(c:w.params.followText "set-order"=false)(d:t.plain=true\/es.size<=1)(hi:i<=es.size){Q:Option (Value×Nat)->Shared->Prop}(h:Q (es[i]?.map fun e=>(e.2,sl t (i+1))) s):
  wpAny (model p w) A (setNext S (sl t i) i ep) Q E s:=by
 unfold setNext;refine Vl (Yb g.get g.dat g.fit (Vl (p6 ?_)));rw[c]
 have dr:(!t.plain&&decide (es.size>1))=false:=by
  rcases d with z|z
  .rw[z];rfl
  .rw[VW (by lia)];simp
 refine WD (fun q=>absurd q VO) fun _=>?_;refine WD (fun q=>absurd (show(!t.plain&&decide (es.size>1))=true from q) (by rw[dr];exact VO)) fun _=>?_;have ld:t.led=true:=by rw[g.gd.led];show(!w.params.followText "set-order")=true;rw[c];rfl
 refine Vl (show wpAny _ _ (if (!t.led&&!es.isEmpty)=true then unsupported "set:maker-not-led" else pure ()) _ _ _ from ?_);rw[Vm (by rw[ld];simp)];refine Vp ?_;have sz:t.place.size=es.size:=by have f:=g.fit;simp only[SetTable.fits,Wi,Y_] at f;exact f.1
 have b:SetTable.below t.place (sl t i)=i:=by
  cases i with
  |zero=>exact ym g.gd.inc
  |succ i=>exact zf g.gd.inc (by lia)
 dsimp only;rw[b];refine Vp ?_;by_cases a:i<es.size
 .have h1:es[i]?=some es[i]:=WY a
  have h2:t.place[i]?=some (t.place.getD i 0):=by
   rw[WY (by lia)];simp only[Array.getD,YW (show i<t.place.size by lia)];rfl
  rw[h1,h2];rw[h1] at h;exact h
 .have h1:es[i]?=none:=Zl (by lia);rw[h1];rw[h1] at h;exact h
def BH(g:jr p w (qU w) s.heap S o es ep t)(a:w.params.followText "set-order"=true){Q:Option (Value×Nat)->Shared->Prop}(h:Q ((pickOrder (w.params.setOrder S ep) es)[i]?.map fun e=>(e.2,j)) s):
  wpAny (model p w) A (setNext S j i ep) Q E s:=by
 unfold setNext;refine Vl (Yb g.get g.dat g.fit (Vl (p6 ?_)));rw[a];refine WD (fun _=>?_) fun q=>absurd rfl q;refine WD (fun q=>absurd q (by simp)) fun _=>?_;unfold setWalk;refine Vl (Vl (Yb g.get g.dat g.fit (Vl (p6 ?_))));rw[a];refine WD (fun _=>?_) fun q=>absurd rfl q;exact Vl (aaw (Vp (Vp h)))
end
def eJ:Slot "set_iterator" "__next__" "set_iterator.__next__" :=
 .of (owner:="set_iterator") (n:="__next__") (by rw[typeLookup_type,builtinLookup_eq_fast];kernel_rfl) (by decide +kernel) (by decide +kernel) (by decide +kernel)
  (by first|exact .inr (by decide +kernel)|exact .inl (by decide +kernel)) (by rw[isSubtype_type];kernel_rfl)
def l9:entryFor table "set_iterator.__next__"=some Builtin.«set_iterator.__next__»:=entryFor_of_tree (by kernel_rfl)
def Dl:Manifest.owners.lookup (String.ofList ['r','o','t','a','r','e','t','i','_','t','e','s'].reverse)=some Manifest.sig_set_iterator:=by kernel_rfl
def pY(a:Value):argsOk "set_iterator.__next__" ⟨[a],[]⟩:=by
 unfold argsOk;rw[signature?_of (id:="set_iterator.__next__") (n:=['_','_','t','x','e','n','_','_']) (o:=['r','o','t','a','r','e','t','i','_','t','e','s']) (by kernel_rfl) Dl];kernel_rfl
def xy:Slot "set_iterator" "__iter__" "set_iterator.__iter__" :=
 .of (owner:="set_iterator") (n:="__iter__") (by rw[typeLookup_type,builtinLookup_eq_fast];kernel_rfl) (by decide +kernel) (by decide +kernel) (by decide +kernel)
  (by first|exact .inr (by decide +kernel)|exact .inl (by decide +kernel)) (by rw[isSubtype_type];kernel_rfl)
def Bx:entryFor table "set_iterator.__iter__"=some Builtin.«dict_keyiterator.__iter__»:=entryFor_alias (id':="dict_keyiterator.__iter__") (by kernel_rfl) rfl (by decide +kernel) (by kernel_rfl)
def F3(a:Value):argsOk "set_iterator.__iter__" ⟨[a],[]⟩:=by unfold argsOk;kernel_rfl
def Ej:entryFor table "set.__iter__"=some Builtin.«frozenset.__iter__»:=entryFor_alias (id':="frozenset.__iter__") (by kernel_rfl) rfl (by decide +kernel) (by kernel_rfl)
def lr(h:Heap)(I:Addr)(f:Value)(i:Nat)(S:Addr)(n ep:Nat):Prop:=∃o,h.get? I=some o/\o.cls=.type "set_iterator"/\o.data=.fields #[f,.int i 0,.ref S,.int n 0,.int ep 0]
section
variable{p:Program}{w:World}{A:Around}{E:Value->Shared->Prop}{s:Shared}{I S:Addr}{o:Obj}{es:Array (Int×Value)}{ep:Nat}{t:SetTable}
def lr.ty(q:lr s.heap I f i S n ep):s.TypeIs (.ref I) "set_iterator":=let ⟨x,a,b,_⟩:=q;⟨x,a,b⟩
def Ba{Q:Value->Shared->Prop}(q:lr s.heap I f i S n ep)(h:Q (.ref I) s):wpAny (model p w) A (pyIter (.ref I)) Q E s:=by
 refine aab q.ty xy (WW xy q.ty Bx (show wpAny _ _ (ret (.ref I)) _ _ s from ?_) (F3 _));exact Vp ⟨_,rfl,"set_iterator",_,q.ty,eJ.lookup,h⟩
def lr.put{x:Value}(q:lr h I f i S n ep):lr (h.update I (Obj.mapFields (·.setIfInBounds 0 x))) I x i S n ep/\∀j:Nat,lr (h.update I (Obj.mapFields (·.setIfInBounds 1 (rawInt j)))) I f j S n ep:=by
 obtain⟨a,b,c,d⟩:=q;refine⟨⟨_,Xm _ b (Zs (X5 d _)),(aac ..).trans c,?_⟩,fun j=>⟨_,Xm _ b (Zs (X5 d _)),(aac ..).trans c,?_⟩⟩
 .rw[X5 d];simp
 .rw[X5 d];simp[rawInt]
def GG{u:Nat}{x:Value}{nx:Nat}(q:lr s.heap I (.int u 0) i S es.size ep)(g:jr p w (qU w) s.heap S o es ep t){Q:Option Value->Shared->Prop}
  (e:∀(A:Around) (E:Value->Shared->Prop) (R:Option (Value×Nat)->Shared->Prop),R (some (x,nx)) s->wpAny (model p w) A (setNext S u i ep) R E s)
  (h:∀h',lr h' I (.int nx 0) (i+1) S es.size ep->Heap.SameBut I s.heap h'->Q (some x) {s with heap:=h'}):wpAny (model p w) A (pyNext (.ref I)) Q E s:=by
 obtain⟨l,a,k,b⟩:=id q;unfold pyNext;refine Vl (X9 (W_ (name:=Str.ofString "__next__") q.ty eJ (WW eJ q.ty l9 ?_ (pY _))));unfold Builtin.«set_iterator.__next__»;refine Vl (Vp (Vl (XY a b ?_)));dsimp only;refine Vl (Yn g.get g.dat g.fit ?_);refine WD (fun z=>absurd z (by simp)) fun _=>?_;dsimp only[Int.toNat_natCast];refine Vl (e _ _ _ ?_);dsimp only;have q1:=(q.put (x:=rawInt nx)).1;obtain⟨j,d,f,c⟩:=id q1;refine Vl (XZ a b (by simp) (Vl (XZ d c (by simp) (Vp ⟨x,rfl,Vp (h _ ?_ ((V_ ..).trans (V_ ..)))⟩))));exact(q1.put (x:=.none)).2 (i+1)
def t9{Q:Option Value->Shared->Prop}(c:A.handled=none)(h:∀h',(∀b o,s.heap.get? b=some o->h'.get? b=some o)->Q none {s with heap:=h'}):
  wpAny (model p w) A.in1 (newExc (.type "StopIteration") [] >>= fun x=>raiseNew (α:=Fin) x) (fun fin s'=>∃v,fin=Fin.done (Flow.ret v)/\wpAny (model p w) A (pure (some v)) Q E s')
   (fun e s'=>wpAny (model p w) A (isInstance e (Value.type "StopIteration") >>= fun b=>if b=true then pure none else throw e) Q E s') s:=by
 refine Vl ?_;simp only[newExc,newTuple];refine Vl (WH ?_ (by size_fits));refine Vl (m:=firstArgMember _ _) (wpAny_of_eq (a:=Value.none) (by first|(simp only[firstArgMember];rfl)|rfl) ?_);refine WH ?_ (by size_fits);simp only[raiseNew];refine Vl (wpAny_handled ?_);rw[show A.in1.handled=none from c];refine Vl (Vp (wpAny_throw ?_));refine Vl (aax (T:="StopIteration") (b:=true) ⟨_,VM _ rfl,rfl⟩ isSubtype_stop (Vp (h _ fun b o e=>?_)));exact Vt _ (Vt _ e)
def Ls{u:Nat}(f:A.handled=none)(q:lr s.heap I (.int u 0) i S es.size ep)(g:jr p w (qU w) s.heap S o es ep t){Q:Option Value->Shared->Prop}
  (j:∀(A:Around) (E:Value->Shared->Prop) (R:Option (Value×Nat)->Shared->Prop),R none s->wpAny (model p w) A (setNext S u i ep) R E s)
  (h:∀h',(∀b o,b≠I->s.heap.get? b=some o->h'.get? b=some o)->Q none {s with heap:=h'}):wpAny (model p w) A (pyNext (.ref I)) Q E s:=by
 obtain⟨m,a,l,c⟩:=id q;unfold pyNext;refine Vl (X9 (W_ (name:=Str.ofString "__next__") q.ty eJ (WW eJ q.ty l9 ?_ (pY _))));unfold Builtin.«set_iterator.__next__»;refine Vl (Vp (Vl (XY a c ?_)));dsimp only;refine Vl (Yn g.get g.dat g.fit ?_);refine WD (fun z=>absurd z (by simp)) fun _=>?_;dsimp only[Int.toNat_natCast];refine Vl (j _ _ _ ?_);dsimp only;refine Vl (XZ a c (by simp) ?_);refine t9 (s:={s with heap:=s.heap.update I (Obj.mapFields (·.setIfInBounds 2 Value.none))}) f fun h' k=>h h' fun b o d e=>k b o ?_;rw[(V_ s.heap I _).2 b d];exact e
def qz{vs:List Value}{f:Nat->Nat}(B:A.handled=none)(n:S≠I)(D:vs.length=es.size)
  (u:∀(s:Shared) (i:Nat) (A:Around) (E:Value->Shared->Prop) (R:Option (Value×Nat)->Shared->Prop),i<=es.size->jr p w (qU w) s.heap S o es ep t->R (vs[i]?.map fun v=>(v,f (i+1))) s->wpAny (model p w) A (setNext S (f i) i ep) R E s):
  Walks p w A I [I,S] [I] vs.length (fun i v=>vs[i]?=some v) (fun i h=>i<=vs.length/\lr h I (.int (f i) 0) i S es.size ep/\jr p w (qU w) h S o es ep t) where
 sub:=fun b j=>by simp at j;simp[j]
 frame:=fun i h h' st k=>by
  obtain⟨d,⟨x,a,b,c⟩,g⟩:=st;exact⟨d,⟨x,k I (by simp) x a,b,c⟩,⟨k S (by simp) o g.get,g.ex,g.dat,g.el,g.bd,g.fit,g.gd⟩⟩
 item:=fun i s Q E hi st l=>by
  obtain⟨d,q,g⟩:=st;have e:vs[i]?=some vs[i]:=Vz hi;refine GG (x:=vs[i]) (nx:=f (i+1)) q g (fun A E R r=>u s i A E R (by lia) g (by rw[e];exact r)) fun h' C y=>l _ h' s.toks e ⟨hi,C,?_⟩ fun b o' j m=>?_
  .exact⟨by rw[y.2 S n];exact g.get,g.ex,g.dat,g.el,g.bd,g.fit,g.gd⟩
  .rw[y.2 b fun z=>j (by simp[z])];exact m
 done:=fun s Q E st l=>by
  obtain⟨d,q,g⟩:=st;exact Ls B q g (fun A E R r=>u s _ A E R (by lia) g (by rw[XC (Vu _)];exact r)) fun h' k=>l h' s.toks fun b o' j m=>k b o' (fun z=>j (by simp[z])) m
 self:=fun i s Q E st l=>Ba st.2.1 l
variable{T:Addr}
theorem lj{α:Type}:∀(l:List α) (i:Nat) (h:i<l.length),(l[i]::l.eraseIdx i).Perm l
 |x::l,0,_=>.refl _
 |x::l,i+1,h=>by
  have:=lj l i (by simpa using h);simp only[List.getElem_cons_succ,List.eraseIdx_cons_succ];exact(List.Perm.swap ..).trans (this.cons x)
def yI{src:Source}{Q:Nat->Shared->Prop}(a:n≠0)(h:∀i d,i<n->Q i {s with drawn:=d}):wpAny (model p w) A (choose src n) Q E s:=by
 intro Γ q b;show Sem.wp _ _ (.choose src n .pure) _ _ _ _;rw[Sem.wp_choose];exact⟨a,h _ _ (Nat.mod_lt _ (Nat.pos_of_ne_zero a))⟩
theorem wM{α:Type}:∀(n:Nat) (xs:List α) (s:Shared) (Q:List α->Shared->Prop),xs.length=n->(∀ys d,ys.Perm xs->Q ys {s with drawn:=d})->wpAny (model p w) A (drawOrder n xs) Q E s
 |0,xs,s,Q,a,h=>by
  obtain rfl:xs=[]:=Xa.mp a;unfold drawOrder;exact Vp (h [] s.drawn (.refl _))
 |n+1,[],s,Q,a,h=>by simp at a
 |n+1,x::xs,s,Q,a,h=>by
  unfold drawOrder;refine Vl (yI (by simp) fun i d hi=>?_);have e:(x::xs)[i]?=some (x::xs)[i]:=Vz hi;rw[e];refine Vl (wM n _ _ _ (by rw[List.length_eraseIdx,Vo hi];simp at a ⊢;lia) fun ys c b=>?_);refine Vp (h _ c ?_);exact(List.Perm.cons _ b).trans (lj _ i hi)
def G9{e:Int×Value}{c:Obj}{f:Nat}(q:lr s.heap I (.ref T) i S es.size ep)(g:jr p w (qU w) s.heap S o es ep t)(k:s.heap.get? T=some c)(dT:c.data=.seq (os.map fun n:Nat=>rawInt (n:Int)).toArray f)(d:os[i]?=some j)(he:es[j]?=some e){Q:Option Value->Shared->Prop}
  (h:∀h',lr h' I (.ref T) (i+1) S es.size ep->Heap.SameBut I s.heap h'->Q (some e.2) {s with heap:=h'}):wpAny (model p w) A (pyNext (.ref I)) Q E s:=by
 obtain⟨m,a,l,b⟩:=id q;unfold pyNext;refine Vl (X9 (W_ (name:=Str.ofString "__next__") q.ty eJ (WW eJ q.ty l9 ?_ (pY _))));unfold Builtin.«set_iterator.__next__»;refine Vl (Vp (Vl (XY a b ?_)));dsimp only;refine Vl (Yn g.get g.dat g.fit ?_);refine WD (fun z=>absurd z (by simp)) fun _=>?_;dsimp only[Int.toNat_natCast];refine Vl (wpAny_seqItems k dT ?_);dsimp only
 have e1:(os.map fun n:Nat=>rawInt (n:Int)).toArray[i]?=some (rawInt (j:Int)):=by
  rw[aaW,VJ,d];rfl
 rw[e1];dsimp only[rawInt,Int.toNat_natCast];unfold setNextDrawn;refine Vl (Vl (Yb g.get g.dat g.fit ?_));refine WD (fun z=>absurd z (by simp)) fun _=>?_;rw[he];refine Vp (Vl (XZ a b (by simp) (Vp ⟨e.2,rfl,Vp (h _ ?_ (V_ ..))⟩)));exact(q.put (x:=.none)).2 (i+1)
def Lv{d:Obj}{u:Nat}(r:A.handled=none)(q:lr s.heap I (.ref T) i S es.size ep)(g:jr p w (qU w) s.heap S o es ep t)(v:s.heap.get? T=some d)(dT:d.data=.seq (os.map fun n:Nat=>rawInt (n:Int)).toArray u)(m:os[i]?=none){Q:Option Value->Shared->Prop}
  (h:∀h',(∀b o,b≠I->s.heap.get? b=some o->h'.get? b=some o)->Q none {s with heap:=h'}):wpAny (model p w) A (pyNext (.ref I)) Q E s:=by
 obtain⟨D,a,C,c⟩:=id q;unfold pyNext;refine Vl (X9 (W_ (name:=Str.ofString "__next__") q.ty eJ (WW eJ q.ty l9 ?_ (pY _))));unfold Builtin.«set_iterator.__next__»;refine Vl (Vp (Vl (XY a c ?_)));dsimp only;refine Vl (Yn g.get g.dat g.fit ?_);refine WD (fun z=>absurd z (by simp)) fun _=>?_;dsimp only[Int.toNat_natCast];refine Vl (wpAny_seqItems v dT ?_);dsimp only
 have e1:(os.map fun n:Nat=>rawInt (n:Int)).toArray[i]?=none:=by
  rw[aaW,VJ,m];rfl
 rw[e1];dsimp only;have q1:=(q.put (x:=rawInt 0)).1;obtain⟨B,l,y,j⟩:=id q1;refine Vl (XZ a c (by simp) (Vl (XZ l j (by simp) ?_)));refine t9 (s:={s with heap:=(s.heap.update I (Obj.mapFields (·.setIfInBounds 0 (rawInt 0)))).update I (Obj.mapFields (·.setIfInBounds 2 Value.none))}) r fun h' k=>h h' fun b o f e=>k b o ?_;rw[(V_ _ I _).2 b f,(V_ s.heap I _).2 b f];exact e
def yz(G:A.handled=none)(D:S≠I)(J:T≠I)(hp:os.Perm (List.range es.size)):
  Walks p w A I [I,S,T] [I] os.length (fun i v=>∃j e,os[i]?=some j/\es[j]?=some e/\v=e.2) (fun i h=>i<=os.length/\lr h I (.ref T) i S es.size ep/\jr p w (qU w) h S o es ep t/\∃d u,h.get? T=some d/\d.data=.seq (os.map fun n:Nat=>rawInt (n:Int)).toArray u) where
 sub:=fun b r=>by simp at r;simp[r]
 frame:=fun i h h' st k=>by
  obtain⟨f,⟨x,a,b,c⟩,g,d,u,l,m⟩:=st;exact⟨f,⟨x,k I (by simp) x a,b,c⟩,⟨k S (by simp) o g.get,g.ex,g.dat,g.el,g.bd,g.fit,g.gd⟩,d,u,k T (by simp) d l,m⟩
 item:=fun i s Q E hi st y=>by
  obtain⟨f,q,g,d,u,l,m⟩:=st;have e:os[i]?=some os[i]:=Vz hi;have F:os[i]<es.size:=Wz.mp (hp.mem_iff.mp (XX hi));have e2:es[os[i]]?=some es[os[i]]:=WY F;refine G9 q g l m e e2 fun h' H C=>y _ h' s.toks ⟨_,_,e,e2,rfl⟩ ⟨hi,H,?_,d,u,by rw[C.2 T J];exact l,m⟩ fun b o' r B=>?_
  .exact⟨by rw[C.2 S D];exact g.get,g.ex,g.dat,g.el,g.bd,g.fit,g.gd⟩
  .rw[C.2 b fun z=>r (by simp[z])];exact B
 done:=fun s Q E st y=>by
  obtain⟨f,q,g,d,u,l,m⟩:=st;exact Lv G q g l m (XC (Vu _)) fun h' k=>y h' s.toks fun b o' r B=>k b o' (fun z=>r (by simp[z])) B
 self:=fun i s Q E st y=>Ba st.2.1 y
end
open PySem PyProof.Rows PySem.Spec PySem.W PySem.Calls
structure w6(s s':Shared):Prop where
 keep:∀b o,s.heap.get? b=some o->s'.heap.get? b=some o
 gens:s'.gens=s.gens
 os:s'.os=s.os
structure N3(p:Program)(w:World)(s s':Shared)(S I:Addr)(es:Array (Int×Value)):Prop where
 gr:w6 s s'
 new:s.heap.objs.size<=I
 wk:∃(fp:List Addr) (n:Nat) (P:Nat->Value->Prop) (St:Nat->Heap->Prop) (vs:List Value),(∀A:Around,A.handled=none->Walks p w A I fp [I] n P St)/\St 0 s'.heap/\(∀b∈fp,b=S\/s.heap.objs.size<=b)/\vs.length=n/\(∀i v,P i v->vs[i]?=some v)/\vs.Perm (es.toList.map (·.2))
theorem Aw{α:Type}(f:Nat->Nat):∀(n k:Nat) (l:List α) (out:Array α),l.length=n->(pickOrder.go f n k l out).toList.Perm (out.toList++l)
 |0,k,l,out,h=>by
  obtain rfl:l=[]:=Xa.mp h;simp[pickOrder.go]
 |n+1,k,l,out,h=>by
  have hi:f k%l.length<l.length:=Nat.mod_lt _ (by lia);unfold pickOrder.go;rw[Vz hi];refine(Aw f n (k+1) _ _ (by rw[List.length_eraseIdx,Vo hi];lia)).trans ?_;rw[Xs,Wh];exact W7 _ (lj l _ hi)
def B_{α:Type}(f:Nat->Nat)(xs:Array α):(pickOrder f xs).toList.Perm xs.toList:=by
 have:=Aw f xs.size 0 xs.toList #[] (by simp);simpa [pickOrder] using this
section
variable{p:Program}{w:World}{A:Around}{E:Value->Shared->Prop}{s:Shared}{S:Addr}{o:Obj}{es:Array (Int×Value)}{ep:Nat}{t:SetTable}
def nA{h':Heap}(g:jr p w (qU w) h S o es ep t)(k:∀b o,h.get? b=some o->h'.get? b=some o):jr p w (qU w) h' S o es ep t:=⟨k _ _ g.get,g.ex,g.dat,g.el,g.bd,g.fit,g.gd⟩
def Dm(g:jr p w (qU w) s.heap S o es ep t){Q:Value->Shared->Prop}(h:∀I s',N3 p w s s' S I es->Q (.ref I) s'):wpAny (model p w) A (pyIter (.ref S)) Q E s:=by
 have ty:s.TypeIs (.ref S) "set":=⟨o,g.get,g.ex.1⟩;have B:S<s.heap.objs.size:=VF g.get;refine aab ty aaX (WW aaX ty Ej ?_ (PySem.F.args_set_iter_1 _));unfold Builtin.«frozenset.__iter__» Builtin.Frozenset.slot0 Builtin.Frozenset.sizeOf;refine Vl (Vl (Vp (Vp ?_)));refine Vl (Vl (Yn g.get g.dat g.fit (Vp ?_)));unfold setDrawn;refine Vl (Vl (Yb g.get g.dat g.fit (Vl (p6 (Vp ?_)))));refine WD (fun y=>?_) fun y=>?_
 .have a:(!w.params.followText "set-order"&&(!t.plain&&decide (es.size>1)))=true:=y;refine Vl (wM es.size (List.range es.size) _ _ Zf fun os d k=>?_);have lo:os.length=es.size:=by rw[k.length_eq,Zf]
  refine Vl (wpAny_newTuple ?_ (by rw[Vx,lo];exact Ze g.bd));refine Vl (wpAny_setEpoch_of (Vt _ g.get) g.dat g.fit ?_);refine Vl (WH (Vp ⟨_,rfl,"set_iterator",_,⟨_,VM _ rfl,rfl⟩,eJ.lookup,h _ _ ?_⟩));refine⟨⟨fun b o e=>Vt _ (Vt _ e),rfl,rfl⟩,by rw[XB];exact YC _,?_⟩;have q:S≠(s.heap.push {cls:=.type "tuple",data:=.seq (os.map fun n:Nat=>rawInt (n:Int)).toArray}).objs.size:=by rw[XB];exact V2 (W0 B)
  have D:s.heap.objs.size≠(s.heap.push {cls:=.type "tuple",data:=.seq (os.map fun n:Nat=>rawInt (n:Int)).toArray}).objs.size:=by rw[XB];exact V2 (XW _)
  refine⟨_,_,_,_,os.map fun j=>(es.getD j (0,.none)).2,fun A l=>yz (o:=o) (t:=t) (ep:=ep) l q D k,⟨Wn _,⟨_,VM _ rfl,rfl,rfl⟩,nA g fun b o e=>Vt _ (Vt _ e),_,_,Vt _ (VM _ rfl),rfl⟩,?_,?_,?_,?_⟩
  .intro b c;simp only[Vq,VA,Wb] at c;rcases c with rfl|rfl|rfl
   .exact .inr (by rw[XB];exact YC _)
   .exact .inl rfl
   .exact .inr (Vu _)
  .rw[Vx]
  .rintro i v ⟨j,e,e1,e2,rfl⟩;rw[VJ,e1];show some (es.getD j (0,.none)).2=some e.2;obtain⟨C,e3⟩:=Array.getElem?_eq_some_iff.mp e2;simp only[Array.getD,YW C];exact congrArg (fun x:Int×Value=>some x.2) e3
  .refine(k.map _).trans ?_
   have:(List.range es.size).map (fun j=>(es.getD j (0,.none)).2)=es.toList.map (·.2):=by
    refine List.ext_getElem? fun i=>?_;rw[VJ,VJ];by_cases hi:i<es.size
    .have h2:es.toList[i]?=some (es.getD i (0,.none)):=by
      rw[WT,WY hi];simp only[Array.getD,YW hi];rfl
     rw[List.getElem?_range hi,h2];rfl
    .have h2:es.toList[i]?=none:=by rw[WT];exact Zl (by lia)
     rw[XC (by rw[Zf];lia),h2];rfl
   rw[this]
 .have a:¬(!w.params.followText "set-order"&&(!t.plain&&decide (es.size>1)))=true:=y;refine Vl (Vp (Vl (wpAny_setEpoch_of g.get g.dat g.fit ?_)));refine Vl (WH (Vp ⟨_,rfl,"set_iterator",_,⟨_,VM _ rfl,rfl⟩,eJ.lookup,h _ _ ?_⟩));refine⟨⟨fun b o e=>Vt _ e,rfl,rfl⟩,Vu _,?_⟩;have q:S≠s.heap.objs.size:=V2 B
  have m:∀b∈[s.heap.objs.size,S],b=S\/s.heap.objs.size<=b:=fun b c=>by
   simp only[Vq,VA,Wb] at c;rcases c with rfl|rfl
   .exact .inr (Vu _)
   .exact .inl rfl
  have z:jr p w (qU w) (s.heap.push {cls:=.type "set_iterator",data:=.fields [rawInt 0,rawInt 0,.ref S,rawInt es.size,rawInt ep].toArray}) S o es ep t:=nA g fun b o e=>Vt _ e;cases c:w.params.followText "set-order" with
  |false =>
   rw[c] at a
   have hpl:t.plain=true\/es.size<=1:=by
    cases hp:t.plain with
    |true=>exact .inl rfl
    |false =>
     rw[hp] at a;refine .inr ?_;simpa using a
   have u:(es.toList.map (·.2)).length=es.size:=by rw[Vx,VI]
   refine⟨_,_,_,_,es.toList.map (·.2),fun A l=>qz (vs:=es.toList.map (·.2)) (f:=sl t) (o:=o) (t:=t) (ep:=ep) l q u fun s i A E R hi g r=>yh g c hpl hi ?_,⟨Wn _,⟨_,VM _ rfl,rfl,rfl⟩,z⟩,m,rfl,fun i v e=>e,.refl _⟩;rw[VJ,WT,Option.map_map] at r;exact r
  |true =>
   have k:=(B_ (w.params.setOrder S ep) es).map (·.2);have u:((pickOrder (w.params.setOrder S ep) es).toList.map (·.2)).length=es.size:=by rw[k.length_eq,Vx,VI]
   refine⟨_,_,_,_,(pickOrder (w.params.setOrder S ep) es).toList.map (·.2),fun A l=>qz (vs:=(pickOrder (w.params.setOrder S ep) es).toList.map (·.2)) (f:=fun _=>0) (o:=o) (t:=t) (ep:=ep) l q u fun s i A E R hi g r=>BH g c ?_,⟨Wn _,⟨_,VM _ rfl,rfl,rfl⟩,z⟩,m,rfl,fun i v e=>e,k⟩;rw[VJ,WT,Option.map_map] at r;exact r
def Dz{Q:Bool->Shared->Prop}(ty:s.TypeIs (.ref S) "set")(h:Q false s):wpAny (model p w) A (Builtin.List.listLengthHint (.ref S)) Q E s:=by
 unfold Builtin.List.listLengthHint;refine Vl (wpAny_specialOf ty PySem.F.slot_set_len.lookup ?_);generalize a:("set.__len__":String)=c
 wp_delta
 rw[show splitId c=some ("set","__len__") from by subst a;decide +kernel];subst a;refine Vl (aax (T:="set") (b:=true) ty (by rw[isSubtype_type];kernel_rfl) (WD (fun z=>absurd z (by decide)) fun _=>?_));exact WD (fun _=>Vl (wpAny_typeOf ty (Vp h))) fun z=>absurd (by decide +kernel) z
def zx{L:Addr}{c:Nat}{R:Result->Shared->Prop}{res:Value}(G:A.handled=none)(g:jr p w (qU w) s.heap S o es ep t)(E:s.heap.get? L=some {cls:=.type "list",data:=.seq #[] c})(l:L≠S)
  (h:∀s' a c',(∀b o,b≠L->s.heap.get? b=some o->s'.heap.get? b=some o)->s'.gens=s.gens->s'.os=s.os->s'.heap.get? L=some {cls:=.type "list",dict:=none,data:=.seq a c',slots:=#[]}->a.toList.Perm (es.toList.map (·.2))->R (.ok (.ret res)) s'):
  wpAny (model p w) A.in1 (Builtin.List.listExtendWith (.ref L) (.ref S) res) (fun fin s'=>match fin with|.done f=>R (.ok f) s'|.again c'=>c'.quiet=true/\codeAny (model p w) A c' R s') (fun e s'=>R (.error e) s') s:=by
 have ty:s.TypeIs (.ref S) "set":=⟨o,g.get,g.ex.1⟩;unfold Builtin.List.listExtendWith;refine Vl (wpAny_typeOf (T:="set") ty ?_);have V:Builtin.List.listSameRef (.ref L) (.ref S)=false:=by simp[Builtin.List.listSameRef,l]
 have Y:(Value.type "set"==Value.type "list")=false:=by decide
 have Z:(Value.type "set"==Value.type "tuple")=false:=by decide
 simp only[V,Y,Z,Bool.or_false,Xo,XS];refine Vl (Dm g fun I s' wk=>?_);obtain⟨gr,nw,fp,n,P,St,vs,W,st,y,U,J,k⟩:=wk;have C:L<s.heap.objs.size:=VF E
 have r:L∉fp:=fun z=>by
  rcases y L z with q|q
  .exact l q
  .exact absurd C (YO.mpr q)
 have v:n<=sizeLine:=by
  rw[<-U,k.length_eq,Vx,VI];exact Ze g.bd
 have key:∀(d:Shared) (c1:Nat),St 0 d.heap->(∀b o,b≠L->s'.heap.get? b=some o->d.heap.get? b=some o)->d.gens=s'.gens->d.os=s'.os->d.heap.get? L=some {cls:=.type "list",data:=.seq #[] c1}->codeAny (model p w) A (.builtin "list.extend.loop" ⟨[.ref L,.ref I,res],[]⟩) R d:=fun d c1 B H N M O=>by
  refine codeAny_extend_loopS ((W A.in1 G).toS) v L r res n 0 d #[] c1 rfl (Wn _) B O (ItemsOf.nil _) fun F a c2 x K it=>?_;refine h F a c2 (fun b o j e=>x.heap b o (fun z=>?_) (H b o j (gr.keep b o e))) ?_ ?_ K ?_
  .rcases Vq.mp z with q|q
   .exact j q
   .exact absurd (VF e) (YO.mpr (by rw[V0.mp q];exact nw))
  .exact(show F.gens=d.gens from x.gens).trans (N.trans gr.gens)
  .exact x.os.trans (M.trans gr.os)
  .have:a.toList=vs:=by
    refine List.ext_getElem? fun i=>?_;by_cases hi:i<a.toList.length
    .have e:=Vz hi;rw[e];exact(J i _ (it.2 i _ (by rw[<-WT];exact e))).symm
    .have Q:a.toList.length=n:=by rw[VI];exact it.1
     rw[XC (by lia),XC (by lia)]
   rw[this];exact k
 have u:=gr.keep _ _ E;refine Vl (Xc (Dz ⟨o,gr.keep _ _ g.get,g.ex.1⟩ ?_));refine WD (fun _=>?_) (fun _=>Vp ⟨Zm aak _,key _ c st (fun b o _ e=>e) rfl rfl u⟩);refine Vl (aaj (Vl (show wpAny _ _ (updateSeq L (·.push .none) >>= fun _=>updateSeq L (·.pop)) _ _ _ from Vl (wpAny_updateSeq u rfl ?_))));have D:=Xm (Obj.mapSeq (·.push Value.none)) u rfl;refine wpAny_updateSeq (hz:=by seq_fits) D rfl ?_;have X:=Xm (Obj.mapSeq (·.pop)) D rfl
 have m:∀b o,b≠L->s'.heap.get? b=some o->((s'.heap.update L (Obj.mapSeq (·.push Value.none))).update L (Obj.mapSeq (·.pop))).get? b=some o:=fun b o j e=>by
  rw[(V_ _ L _).2 b j,(V_ _ L _).2 b j];exact e
 exact Vp ⟨Zm aak _,key _ _ ((W A.in1 G).frame 0 _ _ st fun b j o e=>m b o (fun q=>r (q▸j)) e) m rfl rfl X⟩
end
def kv:Value->Int
 |.int k _=>k
 |_=>0
theorem zK:∀{vs:List Value},(∀v∈vs,∃k t,v=.int k t)->IntsAre vs (vs.map kv)
 |[],_=>.nil
 |v::vs,h=>by
  obtain⟨k,t,rfl⟩:=h v (VC ..);exact .cons k t (zK fun v a=>h v (Vw _ a))
theorem oK:∀{m l:List Int},m.Nodup->(∀x∈m,x∈l)->m.length=l.length->m.Perm l
 |[],l,_,_,h=>by
  obtain rfl:l=[]:=Xa.mp h.symm;exact .nil
 |x::m,l,d,a,h=>by
  have g:x∈l:=a x (VC ..);obtain⟨f,c⟩:=WL.mp d;have pl:=List.perm_cons_erase g;refine(List.Perm.cons x (oK c (fun y b=>?_) ?_)).trans pl.symm
  .exact(Zy (fun e:y=x=>f (e▸b))).mpr (a y (Vw _ b))
  .have:=pl.length_eq;simp only[Wl] at this h ⊢;lia
def BA(h:ns.Nodup):(ins ns k).Nodup:=by
 unfold ins;split
 .exact h
 .rename_i d;rw[Zg];exact⟨h,by simp,fun a ha b c e=>d (by rw[<-V0.mp c,<-e];exact ha)⟩
def Gq{x:Int}:x∈ins ns k↔x∈ns\/x=k:=by
 unfold ins;split
 .rename_i a;exact⟨.inl,fun h=>h.elim id fun e=>e▸a⟩
 .rw[Wk,V0]
theorem n_(f:Nat->Int):∀i,(met f i).Nodup
 |0=>YK
 |i+1=>by rw[lZ];exact BA (n_ f i)
theorem Aa(f:Nat->Int){x:Int}:∀i,x∈met f i↔∃j,j<i/\f j=x
 |0=>by simp[met]
 |i+1=>by
  rw[lZ,Gq,Aa f i];constructor
  .rintro(⟨j,h1,h2⟩|e)
   .exact⟨j,by lia,h2⟩
   .exact⟨i,by lia,e.symm⟩
  .rintro⟨j,h1,h2⟩;rcases Y7 (Nat.le_of_lt_succ h1) with z|z
   .exact .inl ⟨j,z,h2⟩
   .exact .inr (by rw[<-h2,z])
section
variable{p:Program}{w:World}{A:Around}{E:Value->Shared->Prop}{s:Shared}{S:Addr}{o:Obj}{es:Array (Int×Value)}{ep:Nat}{t:SetTable}
def xq{R:List Value->Shared->Prop}(i:A.handled=none)(g:jr p w (qU w) s.heap S o es ep t)(h:∀s' vs,w6 s s'->vs.Perm (es.toList.map (·.2))->R vs s'):wpAny (model p w) A (collect (.ref S)) R E s:=by
 have d:S<s.heap.objs.size:=VF g.get;unfold collect;refine Vl (wpAny_runValue (Yz entry_proto_collect' ?_));rw[Yh PySem.F.plain_proto_collect _];refine(show wpAny _ A.in1 (newList [] >>= fun l=>again (.builtin "list.__iadd__" ⟨[l,.ref S],[]⟩)) _ _ s from Vl (WH (Vp ⟨Zm aaC _,Yz entry_list_iadd' ?_⟩)));rw[Yh aaC _];have j:(s.heap.push {cls:=.type "list",data:=.seq ([]:List Value).toArray}).get? s.heap.objs.size=some {cls:=.type "list",data:=.seq #[]}:=VM _ rfl;refine(show wpAny _ A.in1 (Builtin.List.listExtendWith (.ref s.heap.objs.size) (.ref S) (.ref s.heap.objs.size)) _ _ _ from ?_)
 have key:=zx (A:=A) (s:={s with heap:=s.heap.push {cls:=.type "list",data:=.seq ([]:List Value).toArray}}) (res:=.ref s.heap.objs.size)
  (R:=fun q s'=>∃a c',q=.ok (.ret (.ref s.heap.objs.size))/\w6 s s'/\s'.heap.get? s.heap.objs.size=some {cls:=.type "list",dict:=none,data:=.seq a c',slots:=#[]}/\a.toList.Perm (es.toList.map (·.2)))
  i (nA g fun b o e=>Vt _ e) j (aan d) fun s' a c' k n os l c=>⟨a,c',rfl,⟨fun b o e=>k b o (V2 (VF e)) (Vt _ e),n,os⟩,l,c⟩
 refine XF key (fun fin s' x=>?_) fun e s' x=>?_
 .cases fin with
  |done f =>
   obtain⟨a,c',e,gr,l,c⟩:=x;cases e;exact show wpAny _ A (load s.heap.objs.size >>= _) _ _ _ from Vl (wpAny_load l (Vp (h s' _ gr c)))
  |again c1 =>
   refine⟨x.1,Y3 x.2 fun q m y=>?_⟩;obtain⟨a,c',e,gr,l,c⟩:=y;cases e;exact show wpAny _ A (load s.heap.objs.size >>= _) _ _ _ from Vl (wpAny_load l (Vp (h m _ gr c)))
 .obtain⟨_,_,r,_⟩:=x;cases r
def wD{Q:Value->Shared->Prop}{m:List Int}(D:A.handled=none)(q:nU p w (qU w) s.heap S m)(u:m.Nodup)(c:m.length<64)
  (h:∀(a:Shared) (vs:List Value) (out:Array Value) (ns:List Int),w6 s a->IntsAre out.toList ns->ns.Perm m->ns.Pairwise (·<=·)->Q (.ref a.heap.objs.size) {a with heap:=sortedHeap (a.heap.push (seqObj "list" vs.toArray 0)) a.heap.objs.size vs out}):
  wpAny (model p w) A (call (.builtin "sorted") [.ref S]) Q E s:=by
 obtain⟨o,es,ep,t,g,y,hz⟩:=q;refine Calls.call_function_entry kind_sorted plain_sorted entry_sorted (args_sorted1 _) ?_;unfold Builtin.«sorted»;refine Vl (m:=checkCount "sorted" 1 1 _) (Vp (Vl (xq (A:=A.in1) D g fun a vs gr f=>?_)));have i:vs.length=m.length:=by rw[f.length_eq,Vx,VI,hz]
 have allI:∀v∈vs,∃k t,v=.int k t:=fun v r=>by
  obtain⟨e,he,rfl⟩:=VG.mp (f.mem_iff.mp r);obtain⟨⟨k,b,_⟩,_⟩:=g.el e he;obtain⟨t,d⟩:=Z8 b;exact⟨k,t,d⟩
 have C:(vs.map kv).Perm m:=by
  refine(oK u (fun x B=>?_) (by rw[Vx,i])).symm;obtain⟨e,he,b⟩:=(y x).mp B;obtain⟨t,d⟩:=Z8 b;exact VG.mpr ⟨e.2,f.mem_iff.mpr (VG.mpr ⟨e,he,rfl⟩),by rw[d];rfl⟩
 refine Vl (ZX ?_ (by rw[i];exact V7 (W4 c) (by decide)));have j:(a.heap.push (seqObj "list" vs.toArray 0)).get? a.heap.objs.size=some (seqObj "list" vs.toArray 0):=VM _ rfl;refine Vl (Xc (WW slot_list_sort ⟨_,j,rfl⟩ entry_list_sort (list_sort_tree j (zK allI) (by lia) fun out ns z n l=>⟨_,rfl,?_⟩) (args_list_sort _)));exact Vp ⟨_,rfl,h a vs out ns gr z (n.trans C) l⟩
end
end L2.Sx
namespace L2.EP
open PySem PySem.Spec PyProof.Rows L2.Sx
def vS(x:Int):List Int->List Int
 |[]=>[x]
 |y::l=>if x<y then x::y::l else if x=y then y::l else y::vS x l
def sset(ns:List Int):List Int:=ns.foldr vS []
theorem rh{x a:Int}:∀{l:List Int},a∈vS x l↔a=x\/a∈l
 |[]=>by simp[vS]
 |y::l=>by
  unfold vS;split
  .simp
  .split
   .rename_i h;subst h;simp
   .rw[Vq,rh (l:=l),Vq];constructor
    .rintro(h|h|h)
     .exact .inr (.inl h)
     .exact .inl h
     .exact .inr (.inr h)
    .rintro(h|h|h)
     .exact .inr (.inl h)
     .exact .inl h
     .exact .inr (.inr h)
theorem wy{x:Int}:∀{l:List Int},l.Pairwise (·<·)->(vS x l).Pairwise (·<·)
 |[],_=>by simp[vS]
 |y::l,h=>by
  obtain⟨h1,h2⟩:=W9.mp h;unfold vS;split
  .rename_i b;refine W9.mpr ⟨fun a ha=>?_,h⟩;rcases Vq.mp ha with z|z
   .lia
   .have:=h1 a z;lia
  .split
   .exact h
   .refine W9.mpr ⟨fun a ha=>?_,wy h2⟩;rcases rh.mp ha with z|z
    .lia
    .exact h1 a z
theorem gi{a:Int}:∀{ns:List Int},a∈sset ns↔a∈ns
 |[]=>by simp[sset]
 |x::ns=>by
  show a∈vS x (sset ns)↔_;rw[rh,gi (ns:=ns),Vq]
theorem iG:∀(ns:List Int),(sset ns).Pairwise (·<·)
 |[]=>.nil
 |x::ns=>wy (iG ns)
theorem rP:∀{l m:List Int},l.Pairwise (·<·)->m.Pairwise (·<·)->(∀a,a∈l↔a∈m)->l=m
 |[],[],_,_,_=>rfl
 |[],y::m,_,_,h=>absurd ((h y).mpr (VC ..)) (by simp)
 |x::l,[],_,_,h=>absurd ((h x).mp (VC ..)) (by simp)
 |x::l,y::m,h1,h2,h=>by
  obtain⟨b,c⟩:=W9.mp h1;obtain⟨b1,b2⟩:=W9.mp h2
  have e:x=y:=by
   rcases Vq.mp ((h x).mp (VC ..)) with z|z
   .exact z
   .rcases Vq.mp ((h y).mpr (VC ..)) with q|q
    .exact q.symm
    .have:=b1 x z;have:=b y q;lia
  subst e;refine congrArg (x::·) (rP c b2 fun a=>⟨fun ha=>?_,fun ha=>?_⟩)
  .rcases Vq.mp ((h a).mp (Vw _ ha)) with z|z
   .have:=b a ha;lia
   .exact z
  .rcases Vq.mp ((h a).mpr (Vw _ ha)) with z|z
   .have:=b1 a ha;lia
   .exact z
def Hr{ns m r:List Int}(h1:r.Perm m)(d:m.Nodup)(h2:r.Pairwise (·<=·))(e:∀a,a∈m↔a∈ns):r=sset ns:=by
 refine rP ?_ (iG ns) fun a=>by rw[h1.mem_iff,e,gi]
 have c:r.Nodup:=h1.symm.nodup d
 exact(List.Pairwise.and h2 c).imp fun {a b} q=>by
  have:=q.1;have:=q.2;lia
def Inv.grown{X:Cx}{pins:List (Addr×Obj)}{σ:St}{H:Hp}{s s':Shared}(I:Inv X pins σ H s)(g:w6 s s'):Inv X pins σ H s':=by
 obtain⟨h',a,d,tk,os⟩:=s';obtain⟨k,e1,e2⟩:=g;have J:=I.kept (h':=h') (t':=tk) k;simp only at e1 e2;subst e1 e2;exact⟨J.ok,J.os,J.bare,J.base,J.loc,J.cell,J.free,J.freeC,J.pin,J.hok,J.len⟩
theorem uv:∀{vs:List Value} {ns:List Int},IntsAre vs ns->Vals (ns.map V.int) vs
 |_,_,.nil=>.nil
 |_,_,.cons n t h=>.cons ⟨t,rfl⟩ (uv h)
section
variable{X:Cx}{Γ:aL}{D:GD}{e:Expr}{b:Bool}{te:TE}
def yq{T p2 pos c:Pos}(G:X.calm=true)(D:Gl X "sorted")(E:X.mg "sorted"=none)(y:Gl X "set")(F:X.mg "set"=none)(ha:PE X e te)
  (L:starEach [e] X.env=(false,eval e X.env)::starEach [] X.env:=by rfl) (n:starEach [.Call (.Name "set" p2) [e] [] c] X.env=(false,eval (.Call (.Name "set" p2) [e] [] c) X.env)::starEach [] X.env:=by rfl)
  (B:(backTo pos (starEach [] X.env)).any (·.1)=false:=by rfl) (C:(backTo c (starEach [] X.env)).any (·.1)=false:=by rfl):
  PE X (.Call (.Name "sorted" T) [.Call (.Name "set" p2) [e] [] c] [] pos) (fun σ H Q=>te σ H fun v H1=>∃a,∃ns:List Int,v=.ref a/\dX X.K H1 a (ns.map V.int)/\ns.length<64/\∀l,H1 l=none->Q (.ref l) (upd H1 l (.lst ((sset ns).map V.int)))):=by
 intro pins s σ H Q I h
 have inner:wpAny (model X.prog X.w) X.A (eval (.Call (.Name "set" p2) [e] [] c) X.env) (fun u x=>∃(S:Addr) (H1:Hp) (ns:List Int),u=.ref S/\Inv X pins σ H1 x/\nU X.prog X.w (qU X.w) x.heap S (met (fun i=>ns.getD i 0) ns.length)/\ns.length<64/\∀l,H1 l=none->Q (.ref l) (upd H1 l (.lst ((sset ns).map V.int)))) X.xe s:=by
  refine XA (hV I y F PyProof.Rows.boot_set ?_ (by decide) (by decide));refine Xt (b8 (aB ha bq L c pins s σ H (fun xs H1=>match xs with|[v]=>∃a,∃ns:List Int,v=.ref a/\dX X.K H1 a (ns.map V.int)/\ns.length<64/\∀l,H1 l=none->Q (.ref l) (upd H1 l (.lst ((sset ns).map V.int)))|_=>False) I h) fun us x ⟨xs,H1,m,Z,q1⟩=>?_) L C;cases Z with
  |nil=>exact q1.elim
  |@cons v u vs us W t =>
   cases t with
   |cons _ _=>exact q1.elim
   |nil =>
    obtain⟨a,ns,rfl,R,d,q⟩:=q1;cases W;obtain⟨its,t,pl,_⟩:=m.list R;have hi:=intsAre_of t;have M:its.length=ns.length:=by rw[<-t.length,Vx]
    refine E_ (items:=its.toArray) (ns:=ns) (m.ok.hd G) pl.isList (by simpa using hi) (by rw[VQ,M];exact VY (Nat.add_lt_add_right d 1) (by decide)) fun h' tk g k=>?_;rw[show its.toArray.size=ns.length by rw[VQ,M]] at g;exact⟨_,H1,ns,rfl,m.kept k,g,d,q⟩
 refine XA (hV I D E PyProof.Rows.boot_sorted ?_ (by decide) (by decide));refine Zw ?_ n B;rw[n];refine Calls.spliced_cons (b8 inner fun u x ⟨S,H1,ns,e,m,g,d,q⟩=>Calls.spliced_nil ?_);subst e;refine wD (m.ok.hd G) g (n_ _ _) (Yv (pO _ _) d) fun f vs out z gr ia N P=>?_
 have Y:z=sset ns:=Hr N (n_ _ _) P fun a=>by
  rw[Aa];constructor
  .rintro⟨j,r,rfl⟩;rw[VD,Vz r];exact XX r
  .intro ha;obtain⟨j,r,e⟩:=Yg.mp ha;exact⟨j,r,by rw[VD,Vz r];exact e⟩
 subst Y;have J:=Inv.grown m gr
 have lo:((sset ns).map V.int).length<=sizeLine:=by
  rw[Vx,N.length_eq];exact V7 (pO _ _) (V7 (W4 d) (by decide))
 have p:∀b o,f.heap.get? b=some o->b≠f.heap.objs.size:=fun b o e=>V2 (VF e)
 have kp:∀b o,f.heap.get? b=some o->(sortedHeap (f.heap.push (seqObj "list" vs.toArray 0)) f.heap.objs.size vs out).get? b=some o:=fun b o e=>by
  unfold sortedHeap;rw[(V_ _ _ _).2 b (p b o e)];refine Vt _ (Vt _ ?_);rw[(V_ _ _ _).2 b (p b o e)];exact Vt _ e
 obtain⟨c1,U⟩:∃c1,(((f.heap.push (seqObj "list" vs.toArray 0)).update f.heap.objs.size (Obj.mapSeq fun _=>#[])).get? f.heap.objs.size)=some (seqObj "list" #[] c1):=⟨_,Y2 (VM _ rfl) (fun _=>#[])⟩;have O:=Y2 (Vt (seqObj "list" #[] 0) (Vt (seqObj "tuple" vs.toArray 0) U)) (fun _=>out);refine⟨.ref f.heap.objs.size,_,J.laid (t':=f.toks) (o:=.lst ((sset ns).map V.int)) kp (Vu _) ⟨lo,out.toList,_,uv ia,O⟩,rfl,q _ (J.hok.fresh (Vu _))⟩
def tR{ns:List Int}{B p2 pos c:Pos}(w:X.calm=true)(i:Gl X "sorted")(j:X.mg "sorted"=none)(o:Gl X "set")(k:X.mg "set"=none)(ha:E X Γ e b ns)(z:ns.length<64)
  (u:starEach [e] X.env=(false,eval e X.env)::starEach [] X.env:=by rfl) (g:starEach [.Call (.Name "set" p2) [e] [] c] X.env=(false,eval (.Call (.Name "set" p2) [e] [] c) X.env)::starEach [] X.env:=by rfl)
  (f:(backTo pos (starEach [] X.env)).any (·.1)=false:=by rfl) (h:(backTo c (starEach [] X.env)).any (·.1)=false:=by rfl):
  E X Γ (.Call (.Name "sorted" B) [.Call (.Name "set" p2) [e] [] c] [] pos) true (sset ns):=by
 with_unfolding_all
  exact aN (yq w i j o k ha u g f h) fun σ H Q ⟨H0,F,O,S,q⟩=>⟨H0,F,O,S,fun v H1 p y=>by
    obtain⟨a,vs,e,s,n,r⟩:=y;rw[qD r] at s;refine⟨a,ns,by rw[e],(au _ _).seq s,z,fun l d=>?_⟩;obtain⟨A,t⟩:=cL (xs:=(sset ns).map V.int) (S.go p) d;refine q _ _ (p.trans A) ⟨l,_,rfl,dX.of t,Nf.wk (b:=true) ((S.go p).gU d) t,?_⟩;generalize sset ns=m
    induction m with
    |nil=>exact .nil
    |cons x m C=>exact .cons rfl C⟩
end
end L2.EP
namespace Q
variable{p x k c s n q y N r m v d A u:Int}{l L:List Int}{w:List (Int×Int)}
theorem rT(f:Int->Bool):∀(xs ys:List Int),mQ (xs++ys) f=(mQ xs f==mQ ys f)
 |[],ys=>by rw[YX,vE];cases mQ ys f<;>rfl
 |x::xs,ys=>by
  rw[Zp,du,du,rT f xs ys];generalize f x=a;generalize mQ xs f=b;generalize mQ ys f=c;revert a b c;decide
theorem nV:∀{L M:List Int},L.Nodup->(∀x∈L,x∈M)->L.length<=M.length
 |[],M,_,_=>Wn _
 |x::L,M,d,h=>by
  obtain⟨f,c⟩:=WL.mp d;have a:=h x VC;have e:=nV (M:=M.erase x) c fun y b=>(Zy (by rintro rfl;exact f b)).mpr (h y (Vw _ b));have g:0<M.length:=List.length_pos_of_mem a;rw[List.length_erase_of_mem a] at e;rw[Wl];lia
def M0(c:Int)(h:p∣x):p∣c*x:=V1 h ⟨c,V6 _ _⟩
def Ge:List Int:=[3,5,7,11,13]
def Hg{a:Int}(hp:aR p=true)(h:bf a p=1):∃r t:Int,r*r=a+p*t:=by
 cases b:uH a p with
 |none=>rw[qy.mp b] at h;cases h
 |some r =>
  obtain⟨_,t,c⟩:=A6 hp b;exact⟨r,t,by lia⟩
def MF{a b:Int}(hp:aR p=true)(ha:¬p∣a)(c:¬p∣b):¬p∣a*b:=fun z=>(euclid hp z).elim ha c
def O6(r:Nat):Int×Int:=if r%2=1 then (0,((r%8:Nat):Int)) else (1,(((r/2)%8:Nat):Int))
def QE:List Nat:=[0,1,4,9]
def GB{a:Int}(h:a%4≠0):cls a 2=O6 (a%16).toNat:=by
 unfold O6;by_cases b:a%2=1
 .rw[Vo (by lia),bQ (by decide) (by lia),Vo rfl];congr 1;lia
 .rw[Vm (by lia)];have:=ma (k:=a/2) (d:=2) (v:=1) (by decide) (by lia);rw[Int.pow_one,show a/2*2=a by lia] at this;unfold cls;rw[this,Vo rfl];show((1:Int)%2,a/2%8)=_;congr 1;lia
def P0(x:Int):(x*x%16).toNat∈QE/\((x*x%16).toNat%2=1↔¬(2:Int)∣x):=by
 have e:x*x%16=(x%16)*(x%16)%16:=by rw[WQ]
 have h1:0<=x%16/\x%16<16:=by lia
 have h2:(2:Int)∣x↔(x%16)%2=0:=by lia
 rw[e,h2];generalize x%16=r at *;have:r=0\/r=1\/r=2\/r=3\/r=4\/r=5\/r=6\/r=7\/r=8\/r=9\/r=10\/r=11\/r=12\/r=13\/r=14\/r=15:=by lia
 rcases this with rfl|rfl|rfl|rfl|rfl|rfl|rfl|rfl|rfl|rfl|rfl|rfl|rfl|rfl|rfl|rfl<;>decide
def Q6:List Int:=[2,3,5,7,11,13]
def OQ(p:Int):List Int:=if p=3 then [1] else if p=5 then [1,4] else if p=7 then [1,2,4] else if p=11 then [1,3,4,5,9] else [1,3,4,9,10,12]
def M3:∀p∈([3,5,7,11,13]:List Nat),∀r∈List.range p,(bf (r:Int) (p:Int)=1↔(r:Int)∈OQ (p:Int)):=by decide +kernel
def Lz(hp:p∈Ge):bf k p=1↔k%p∈OQ p:=by
 have b:p.toNat∈([3,5,7,11,13]:List Nat):=by
  simp only[Ge,Vq,VA,Wb] at hp;rcases hp with rfl|rfl|rfl|rfl|rfl<;>decide
 have a:0<p:=by
  simp only[Ge,Vq,VA,Wb] at hp;lia
 have h1:=VV k (Int.ne_of_gt a);have h2:=VR k a;have:=M3 p.toNat b (k%p).toNat (Wz.mpr (by lia));rw[show(((k%p).toNat:Nat):Int)=k%p by lia,show((p.toNat:Nat):Int)=p by lia,ui] at this;exact this
def cE(s:Int)(w:List (Int×Int)):Int:=(Q6.zip w).foldl (fun a u=>if u.2.1=1 then a*u.1 else a) s
structure GW(s:Int)(w:List (Int×Int)):Prop where
 sg:s=1\/s=-1
 len:w.length=6
 a:∀j,j<6->(w.getD j (0,1)).1=0\/(w.getD j (0,1)).1=1
 u2:(w.getD 0 (0,1)).2∈[(1:Int),3,5,7]
 u:∀j,1<=j->j<6->(w.getD j (0,1)).2=1\/(w.getD j (0,1)).2=-1
def bits:List (List Int):=(List.range 64).map fun(m:Nat)=>[(m:Int)%2,(m:Int)/2%2,(m:Int)/4%2,(m:Int)/8%2,(m:Int)/16%2,(m:Int)/32%2]
def G8(s:Int)(a:List Int):Int:=(Q6.zip a).foldl (fun b u=>if u.2=1 then b*u.1 else b) s
def yC(k p a:Int):Int:=if a=1 then k/p else k
def L8:∀s∈[(1:Int),-1],∀a∈bits,G8 s a≠0/\(-30030<=G8 s a/\G8 s a<=30030)/\(0<G8 s a↔s=1)/\∀j∈List.range 6,((a.getD j 0=1->G8 s a/Q6.getD j 1*Q6.getD j 1=G8 s a)/\yC (G8 s a) (Q6.getD j 1) (a.getD j 0)%Q6.getD j 1≠0):=by decide +kernel
def Gu:∀c∈[(0:Int),1],∀b∈[(0:Int),1],∀f∈[(0:Int),1],∀a∈[(0:Int),1],∀d∈[(0:Int),1],∀e∈[(0:Int),1],[c,b,f,a,d,e]∈bits:=by decide +kernel
def six{α:Type}{w:List α}(h:w.length=6):∃a b c d e f,w=[a,b,c,d,e,f]:=by
 match w,h with
 |[a,b,c,d,e,f],_=>exact⟨a,b,c,d,e,f,rfl⟩
def C1(h:w.length=6):cE s w=G8 s (w.map (·.1)):=by
 obtain⟨a,b,c,d,e,f,rfl⟩:=six h;rfl
theorem GW.bits{s:Int}{w:List (Int×Int)}(h:GW s w):w.map (·.1)∈Q.bits:=by
 obtain⟨a,b,c,d,e,f,rfl⟩:=six h.len;have z:=fun j g=>h.a j g;have m:∀x:Int,x=0\/x=1->x∈[(0:Int),1]:=fun x i=>by simpa using i
 exact Gu _ (m _ (z 0 (by decide))) _ (m _ (z 1 (by decide))) _ (m _ (z 2 (by decide))) _ (m _ (z 3 (by decide))) _ (m _ (z 4 (by decide))) _ (m _ (z 5 (by decide)))
def GW.st(h:GW s w):cE s w≠0/\(-30030<=cE s w/\cE s w<=30030)/\(0<cE s w↔s=1)/\∀j,j<6->(((w.getD j (0,1)).1=1->cE s w/Q6.getD j 1*Q6.getD j 1=cE s w)/\¬Q6.getD j 1∣yC (cE s w) (Q6.getD j 1) (w.getD j (0,1)).1):=by
 have c:s∈[(1:Int),-1]:=by simpa using h.sg
 obtain⟨h1,h2,b,a⟩:=L8 s c _ h.bits;rw[<-C1 h.len] at h1 h2 b a;refine⟨h1,h2,b,fun j d=>?_⟩;have:=a j (Wz.mpr d)
 have e:(w.map (·.1)).getD j 0=(w.getD j (0,1)).1:=by
  have f:=h.len;rw[VD,VD,VJ,Vz (by lia)];rfl
 rw[e] at this;exact⟨this.1,fun z=>this.2 (Wr z)⟩
def jK:∀j,j<6->aR (Q6.getD j 1)=true:=fun j a=>qY _ (by
 have:j=0\/j=1\/j=2\/j=3\/j=4\/j=5:=by lia
 rcases this with rfl|rfl|rfl|rfl|rfl|rfl<;>decide)
def OZ(q:Int):Prop:=∀j,j<6->¬Q6.getD j 1∣q
def Br(a:aR q=true)(h:17<=q):OZ q:=fun j b z=>by
 have:=bH (jK j b) a z;have:j=0\/j=1\/j=2\/j=3\/j=4\/j=5:=by lia
 rcases this with rfl|rfl|rfl|rfl|rfl|rfl<;>(simp[Q6] at *;lia)
def Jw(h:GW s w)(f:OZ q){j:Nat}(d:j<6):aV (cE s w*q) (Q6.getD j 1)=((w.getD j (0,1)).1,yC (cE s w) (Q6.getD j 1) (w.getD j (0,1)).1*q)/\¬Q6.getD j 1∣yC (cE s w) (Q6.getD j 1) (w.getD j (0,1)).1*q:=by
 obtain⟨_,_,_,g⟩:=h.st;obtain⟨e1,e2⟩:=g j d;have hp:=jK j d;have b:=ao hp;have c:¬Q6.getD j 1∣yC (cE s w) (Q6.getD j 1) (w.getD j (0,1)).1*q:=fun z=>(euclid hp z).elim e2 (f j d);refine⟨?_,c⟩;rcases h.a j d with z|z
 .have e:yC (cE s w) (Q6.getD j 1) (w.getD j (0,1)).1=cE s w:=by unfold yC;rw[Vm (by lia)]
  rw[e] at c ⊢;rw[mh b c,z]
 .have e:yC (cE s w) (Q6.getD j 1) (w.getD j (0,1)).1=cE s w/Q6.getD j 1:=by unfold yC;rw[Vo z]
  have e3:=e1 z;rw[e] at c ⊢;have:=ma (k:=cE s w/Q6.getD j 1*q) (v:=1) b c;rw[Int.pow_one,show cE s w/Q6.getD j 1*q*Q6.getD j 1=(cE s w/Q6.getD j 1*Q6.getD j 1)*q by grind,e3] at this;rw[this,z];rfl
def A8(k s:Int)(w:List (Int×Int)):Bool:=decide ((if 0<k then 1 else -1)=s)&&(Q6.zip w).all fun u=>decide (cls k u.1=u.2)
def ME(k p:Int):Int:=if k%p=0 then k/p else k
def yU:∀j,j<5->Ge.getD j 1=Q6.getD (j+1) 1/\Ge.getD j 1∈Ge/\Ge.getD j 1≠2:=fun j a=>by
 have:j=0\/j=1\/j=2\/j=3\/j=4:=by lia
 rcases this with rfl|rfl|rfl|rfl|rfl<;>decide
def yf(h:GW s w)(f:OZ q){j:Nat}(b:j<6):ME (cE s w*q) (Q6.getD j 1)=yC (cE s w) (Q6.getD j 1) (w.getD j (0,1)).1*q:=by
 obtain⟨_,d⟩:=Jw h f b;obtain⟨_,_,_,g⟩:=h.st;obtain⟨e1,_⟩:=g j b;have i:=ao (jK j b);unfold ME;rcases h.a j b with z|z
 .have e:yC (cE s w) (Q6.getD j 1) (w.getD j (0,1)).1=cE s w:=by unfold yC;rw[Vm (by lia)]
  rw[e] at d ⊢;rw[Vm fun c=>d (VL c)]
 .have e:yC (cE s w) (Q6.getD j 1) (w.getD j (0,1)).1=cE s w/Q6.getD j 1:=by unfold yC;rw[Vo z]
  have e3:=e1 z;rw[e];generalize cE s w/Q6.getD j 1=m at *;rw[<-e3,Vo (Wr ⟨m*q,by grind⟩),show m*Q6.getD j 1*q=(m*q)*Q6.getD j 1 by grind,Int.mul_ediv_cancel _ (by lia)]
def Ar(n:w.length=6):A8 k s w=true↔(if 0<k then (1:Int) else -1)=s/\∀j,j<6->cls k (Q6.getD j 1)=w.getD j (0,1):=by
 obtain⟨a,b,c,d,e,f,rfl⟩:=six n;unfold A8;rw[Wi,XM];refine and_congr Iff.rfl ?_;have:(Q6.zip [a,b,c,d,e,f])=[(2,a),(3,b),(5,c),(7,d),(11,e),(13,f)]:=rfl;rw[this];simp only[aa0,List.all_nil,Wi,XM,and_true];constructor
 .rintro⟨l,h1,h2,m,g,i⟩ j o;have:j=0\/j=1\/j=2\/j=3\/j=4\/j=5:=by lia
  rcases this with rfl|rfl|rfl|rfl|rfl|rfl
  .exact l
  .exact h1
  .exact h2
  .exact m
  .exact g
  .exact i
 .intro h;exact⟨h 0 (by decide),h 1 (by decide),h 2 (by decide),h 3 (by decide),h 4 (by decide),h 5 (by decide)⟩
def GV(h:GW s w)(i:OZ q)(g:0<q):A8 (cE s w*q) s w=true↔ME (cE s w*q) 2%8=(w.getD 0 (0,1)).2/\∀j,j<5->bf (ME (cE s w*q) (Ge.getD j 1)) (Ge.getD j 1)=(w.getD (j+1) (0,1)).2:=by
 obtain⟨m,_,d,_⟩:=h.st;rw[Ar h.len]
 have k:(if 0<cE s w*q then (1:Int) else -1)=s:=by
  rcases h.sg with z|z
  .rw[Vo (Wj (d.mpr z) g),z]
  .have:¬0<cE s w:=fun c=>by have:=d.mp c;lia
   have:cE s w*q<0:=Xk (by lia) g;rw[Vm (by lia),z]
 have ec:∀j,j<6->(cls (cE s w*q) (Q6.getD j 1)=w.getD j (0,1)↔(if Q6.getD j 1=2 then ME (cE s w*q) (Q6.getD j 1)%8 else bf (ME (cE s w*q) (Q6.getD j 1)) (Q6.getD j 1))=(w.getD j (0,1)).2):=fun j b=>by
  obtain⟨e1,_⟩:=Jw h i b;rw[yf h i b];unfold cls;rw[e1];dsimp only;have l:(w.getD j (0,1)).1%2=(w.getD j (0,1)).1:=by rcases h.a j b with z|z<;>rw[z]<;>decide
  rw[l];constructor
  .intro c;rw[<-c]
  .intro c;rw[c]
 constructor
 .rintro⟨_,c⟩;refine⟨?_,fun j b=>?_⟩
  .have:=(ec 0 (by decide)).mp (c 0 (by decide));exact this
  .obtain⟨e,p2,f⟩:=yU j b;have:=(ec (j+1) (by lia)).mp (c (j+1) (by lia));rw[<-e,Vm f] at this;exact this
 .rintro⟨c0,c⟩;refine⟨k,fun j b=>(ec j b).mpr ?_⟩
  match j,b with
  |0,_=>exact c0
  |j+1,b =>
   obtain⟨e,p2,f⟩:=yU j (by lia);rw[<-e,Vm f];exact c j (by lia)
def QH:List Nat:=[17,19,23,29,31,37,41,43,47,53,59,61,67,71,73,79,83,89,97,101,103,107,109,113,127,131,137,139,149,151,157,167,173,179,181,191,193,197,199,211,223,229,233,239,241,251,257,263,269,271,277,281,283,293,307,311,313,317,331,337,349,353,389,397,401,421,439,443,461,463,467,479,491,503,509,521,563,569,587,593,601,607,613,619,631,641,643,647,683,733,739,743,751,757,773,797,823,827,839,859,863,883,937,967,997,1009,1019,1031,1061,1171,1321,1361,1381,1483,1559,1609,1621,1723,1733,1873,1913,1931,2017,2521,2689,2699,3583,8089]
def PR(q:Nat):Nat:=((List.range 46).find? fun m=>decide (q<(2*m+3)*(2*m+3))).getD 0
def BW:∀q∈QH,xf q (PR q)=true/\17<=q/\q%2=1/\q<=8089/\q<(2*PR q+3)*(2*PR q+3):=by decide +kernel
def qm(q:Nat)(p:Int):Bool:=decide ((q:Int)%p∈OQ p)
def G7:∀c∈[1,3,5,7],∀a∈[true,false],∀e1∈[true,false],∀e2∈[true,false],∀e3∈[true,false],∀e4∈[true,false],(QH.any fun q=>decide (q%8=c)&&(qm q 3==a)&&(qm q 5==e1)&&(qm q 7==e2)&&(qm q 11==e3)&&(qm q 13==e4))=true:=by decide +kernel
def QT{a b:Int}(ha:a=1\/a=-1)(e:b=1\/b=-1)(d:c=1\/c=-1)(h:decide (b=1)=(decide (a=1)==decide (c=1))):a*b=c:=by
 rcases ha with rfl|rfl<;>rcases e with rfl|rfl<;>rcases d with rfl|rfl<;>revert h<;>decide
def O9(h:GW s w):∃q,aR q=true/\17<=q/\q<=8089/\A8 (cE s w*q) s w=true:=by
 obtain⟨m,l⟩:∃m:Nat->Int,∀j,m j=yC (cE s w) (Q6.getD j 1) (w.getD j (0,1)).1:=⟨_,fun _=>rfl⟩;have p:∀j,j<6->¬Q6.getD j 1∣m j:=fun j o=>by rw[l];exact(h.st.2.2.2 j o).2
 have m2:m 0%2=1:=by
  have:=p 0 (by decide);simp[Q6] at this;lia
 have A:((m 0*(w.getD 0 (0,1)).2)%8).toNat∈[1,3,5,7]:=by
  have c:=h.u2;simp only[Vq,VA,Wb] at c ⊢;have i:m 0%8=1\/m 0%8=3\/m 0%8=5\/m 0%8=7:=by lia
  rw[WQ];rcases c with z|z|z|z<;>rcases i with y|y|y|y<;>rw[z,y]<;>decide
 have bl:∀b:Bool,b∈[true,false]:=by decide
 obtain⟨e,he⟩:∃e:Nat->Bool,∀j,e j=(decide (bf (m (j+1)) (Ge.getD j 1)=1)==decide ((w.getD (j+1) (0,1)).2=1)):=⟨_,fun _=>rfl⟩;obtain⟨q,E,r⟩:=Yl.mp (G7 _ A (e 0) (bl _) (e 1) (bl _) (e 2) (bl _) (e 3) (bl _) (e 4) (bl _));simp only[Wi,XM,Y_] at r;obtain⟨⟨⟨⟨⟨J,v⟩,H⟩,x⟩,F⟩,C⟩:=r;obtain⟨D,K,B,M,I⟩:=BW q E;have hp:aR (q:Int)=true:=iT D (by lia) B I;have d:=Br hp (by lia);refine⟨q,hp,by lia,by lia,(GV h d (by lia)).mpr ⟨?_,fun j o=>?_⟩⟩
 .have:=yf h d (show 0<6 by decide);rw[<-l] at this;rw[show(2:Int)=Q6.getD 0 1 from rfl,this];have c:=h.u2;simp only[Vq,VA,Wb] at c;have i:m 0%8=1\/m 0%8=3\/m 0%8=5\/m 0%8=7:=by lia
  have f:(q:Int)%8=(m 0*(w.getD 0 (0,1)).2)%8:=by lia
  rw[WQ,f,WQ (m 0) ((w.getD 0 (0,1)).2)];rcases c with z|z|z|z<;>rcases i with y|y|y|y<;>rw[z,y]<;>decide
 .obtain⟨n,p2,L⟩:=yU j o;have:=yf h d (show j+1<6 by lia);rw[<-l] at this;rw[n,this];have g:=jK (j+1) (by lia);rw[dE g]
  have a:qm q (Q6.getD (j+1) 1)=e j:=by
   have:j=0\/j=1\/j=2\/j=3\/j=4:=by lia
   rcases this with rfl|rfl|rfl|rfl|rfl
   .exact v
   .exact H
   .exact x
   .exact F
   .exact C
  rw[he,n] at a;unfold qm at a;rw[n] at p2;have t:=Lz (k:=(q:Int)) p2;have G:decide ((q:Int)%Q6.getD (j+1) 1∈OQ (Q6.getD (j+1) 1))=decide (bf (q:Int) (Q6.getD (j+1) 1)=1):=aam.mpr t.symm;rw[G] at a;exact QT (bO (p (j+1) (by lia))) (bO (d (j+1) (by lia))) (h.u (j+1) (by lia) (by lia)) a
def PZ(l:List Int)(p N:Int):Prop:=∃xs:List Int,xs.length=l.length/\N∣dC l xs/\∃x∈xs,¬p∣x
def yV{a:Int}(hp:aR p=true)(ha:¬p∣a)(h:p∣a*x*x-a*y*y):p∣x-y\/p∣x+y:=by
 rw[show a*x*x-a*y*y=a*((x-y)*(x+y)) by grind] at h;rcases euclid hp h with h|h
 .exact absurd h ha
 .exact euclid hp h
def half(p:Int):List Int:=(List.range ((p+1)/2).toNat).map fun(i:Nat)=>(i:Int)
def Ew(hp:2<=p):x∈half p↔0<=x/\x<(p+1)/2:=by
 unfold half;simp only[VG,Wz];constructor
 .rintro⟨i,h,rfl⟩;lia
 .rintro⟨h1,h2⟩;exact⟨x.toNat,by lia,by lia⟩
theorem nodup_map_on{f:Int->Int}:∀{l:List Int},l.Nodup->(∀x∈l,∀y∈l,f x=f y->x=y)->(l.map f).Nodup
 |[],_,_=>YK
 |a::l,c,g=>by
  rw[WL] at c;rw[Wa,WL];refine⟨fun h=>?_,nodup_map_on c.2 fun x i y j=>g x (by simp[i]) y (by simp[j])⟩;obtain⟨b,d,e⟩:=VG.mp h;have:=g b (by simp[d]) a (by simp) e;subst this;exact c.1 d
def qV(p:Int):(half p).Nodup:=by
 unfold half;rw[show(List.range ((p+1)/2).toNat).map (fun(i:Nat)=>(i:Int))=((List.range ((p+1)/2).toNat).map fun(i:Nat)=>(i:Int)) from rfl];exact Zo.map _ fun a b h e=>h (by lia)
def xY(hp:aR p=true)(h2:p≠2)(b:¬p∣s)(g:x∈half p)(f:y∈half p)(e:(c+s*x*x)%p=(c+s*y*y)%p):x=y:=by
 have a:=ao hp;have i:=gh hp h2;rw[Ew a] at g f
 have d:p∣s*x*x-s*y*y:=by
  have:=uY.mp e
  rwa [show c+s*x*x-(c+s*y*y)=s*x*x-s*y*y by lia] at this
 rcases yV hp b d with h|h
 .have:=bV h (by lia) (by lia);lia
 .have:=bV h (by lia) (by lia);lia
def Ec{a b:Int}(c:Int)(hp:aR p=true)(h2:p≠2)(ha:¬p∣a)(q:¬p∣b):∃x y:Int,p∣a*x*x+b*y*y-c:=by
 have r:=ao hp;have B:=gh hp h2;apply Vr;intro t;have k:¬p∣-b:=fun z=>q (WX.mp z);have o:((half p).map fun x=>(0+a*x*x)%p).Nodup:=nodup_map_on (qV p) fun x g y f e=>xY hp h2 ha g f e;have l:((half p).map fun y=>(c+-b*y*y)%p).Nodup:=nodup_map_on (qV p) fun x g y f e=>xY hp h2 k g f e
 have n:((half p).map (fun x=>(0+a*x*x)%p)++(half p).map fun y=>(c+-b*y*y)%p).Nodup:=by
  rw[Zg];refine⟨o,l,fun u d v m e=>t ?_⟩;obtain⟨x,_,rfl⟩:=VG.mp d;obtain⟨y,_,rfl⟩:=VG.mp m;refine⟨x,y,?_⟩;have:=uY.mp e
  rwa [show 0+a*x*x-(c+-b*y*y)=a*x*x+b*y*y-c by grind] at this
 have A:=nV n (M:=(List.range p.toNat).map fun(i:Nat)=>(i:Int)) fun u d=>by
  have j:∃w,u=w%p:=by
   rcases Wk.mp d with h|h
   .obtain⟨x,_,rfl⟩:=VG.mp h;exact⟨_,rfl⟩
   .obtain⟨x,_,rfl⟩:=VG.mp h;exact⟨_,rfl⟩
  obtain⟨w,rfl⟩:=j;have h1:=VV w (b:=p) (by lia);have C:=VR w (b:=p) (by lia);exact VG.mpr ⟨(w%p).toNat,Wz.mpr (by lia),by lia⟩
 have s:(half p).length=((p+1)/2).toNat:=by unfold half;simp
 simp only[V5,Vx,Zf,s] at A;lia
def fw(xs:List Int):dC [] xs=0:=by cases xs<;>rfl
theorem kg:∀l:List Int,dC l (List.replicate l.length 0)=0
 |[]=>rfl
 |a::l=>by
  show a*0*0+dC l (List.replicate l.length 0)=0;rw[kg l];lia
theorem i8:∀{l m xs ys:List Int},l.length=xs.length->dC (l++m) (xs++ys)=dC l xs+dC m ys
 |[],_,[],_,_=>by rw[fw];show dC _ _=_;simp
 |a::l,m,x::xs,ys,h=>by
  show a*x*x+dC (l++m) (xs++ys)=a*x*x+dC l xs+dC m ys;rw[i8 (by simpa using h)];lia
def PZ.more(m:List Int)(h:PZ l p N):PZ (l++m) p N:=by
 obtain⟨xs,h1,h2,x,b,a⟩:=h;refine⟨xs++List.replicate m.length 0,by simp[h1],?_,x,by simp[b],a⟩;rw[i8 h1.symm,kg];simpa using h2
def xZ(hp:aR p=true)(h2:p≠2):∀{l:List Int},(∀a∈l,¬p∣a)->(PZ l p p↔3<=l.length\/∃a b,l=[a,b]/\bf (-a*b) p=1)
 |[],_=>by
  constructor
  .rintro⟨xs,h1,_,x,j,_⟩;cases xs with
   |nil=>cases j
   |cons _ _=>cases h1
  .rintro(h|⟨a,b,h,_⟩)
   .cases h
   .cases h
 |[a],g=>by
  constructor
  .rintro⟨xs,h1,j,x,q,f⟩
   match xs,h1 with
   |[y],_ =>
    have e:x=y:=by simpa using q
    subst e;have m:p∣a*x*x:=by simpa [dC] using j
    exact absurd m (MF hp (MF hp (g a (by simp)) f) f)
  .rintro(h|⟨c,b,h,_⟩)
   .exact absurd h (by simp)
   .cases h
 |[a,b],g=>by
  have ha:=g a (by simp);have s:=g b (by simp);constructor
  .rintro⟨xs,h1,j,x,q,f⟩
   match xs,h1 with
   |[y,z],_ =>
    have o:p∣a*y*y+b*z*z:=by simpa [dC] using j
    have i:¬p∣y/\¬p∣z:=by
     have D:p∣y->p∣z:=fun E=>by
      have:p∣b*z*z:=by
       have:=Xx o (M0 (a*y) E)
       rwa [show a*y*y+b*z*z-a*y*y=b*z*z by lia] at this
      rcases euclid hp this with w|w
      .exact(euclid hp w).elim (fun w=>absurd w s) id
      .exact w
     have C:p∣z->p∣y:=fun hz=>by
      have:p∣a*y*y:=by
       have:=Xx o (M0 (b*z) hz)
       rwa [show a*y*y+b*z*z-b*z*z=a*y*y by lia] at this
      rcases euclid hp this with w|w
      .exact(euclid hp w).elim (fun w=>absurd w ha) id
      .exact w
     rcases Vq.mp q with e|e
     .subst e;exact⟨f,fun w=>f (C w)⟩
     .have e:x=z:=by simpa using e
      subst e;exact⟨fun w=>f (D w),f⟩
    refine .inr ⟨a,b,rfl,?_⟩
    have e:bf (-a*b*z*z) p=bf ((a*y)*(a*y)) p:=lS (uY.mpr (by
     rw[show -a*b*z*z-a*y*(a*y)=-a*(a*y*y+b*z*z) by grind]
     exact M0 _ o))
    have k:¬p∣-a*b:=MF hp (fun w=>ha (WX.mp w)) s;rw[dE hp,dE hp,dE hp (a*y)] at e;have n:=MF hp ha i.1;rcases bO k with u|u<;>rcases bO i.2 with v|v<;>rcases bO n with w|w<;>rw[u,v,w] at e<;>first|exact u|(exfalso;revert e;decide)
  .rintro(h|⟨c,d,h,A⟩)
   .exact absurd h (by simp)
   .cases h;obtain⟨r,t,B⟩:=Hg hp A;refine⟨[r,a],rfl,?_,a,by simp,ha⟩;show p∣a*r*r+(b*a*a+0);rw[show a*r*r+(b*a*a+0)=a*(r*r+a*b) by grind,B];exact⟨a*t,by grind⟩
 |a::b::c::l,g=>by
  refine⟨fun _=>.inl (by simp),fun _=>?_⟩;obtain⟨x,y,F⟩:=Ec (-c) hp h2 (g a (by simp)) (g b (by simp))
  have:PZ [a,b,c] p p:=by
   refine⟨[x,y,1],rfl,?_,1,by simp,fun w=>by have:=VN (by decide) w;have:=ao hp;lia⟩;show p∣a*x*x+(b*y*y+(c*1*1+0))
   rwa [show a*x*x+(b*y*y+(c*1*1+0))=a*x*x+b*y*y - -c by lia]
  exact this.more l
def sel(f:Int->Bool):List Int->List Int->List Int
 |a::l,x::xs=>if f a then x::sel f l xs else sel f l xs
 |_,_=>[]
def fj(p a:Int):Bool:=decide (a%p=0)
def oW(p:Int)(l:List Int):List Int:=l.filter fun a=>!fj p a
def pS(p:Int)(l:List Int):List Int:=(l.filter (fj p)).map (·/p)
def JF{a:Int}(z:fj p a=true):oW p (a::l)=oW p l:=by unfold oW;exact WE (p:=fun a=>!fj p a) (by simp[z])
def Jm{a:Int}(z:fj p a=true):pS p (a::l)=a/p::pS p l:=by unfold pS;rw[WG z];rfl
def IS{a:Int}(z:¬fj p a=true):oW p (a::l)=a::oW p l:=by unfold oW;exact WG (p:=fun a=>!fj p a) (by simp[z])
def Jl{a:Int}(z:¬fj p a=true):pS p (a::l)=pS p l:=by unfold pS;rw[WE z]
def ki{f:Int->Bool}{a:Int}{xs:List Int}(z:f a=true):sel f (a::l) (x::xs)=x::sel f l xs:=Vo z
def kr{f:Int->Bool}{a:Int}{xs:List Int}(z:¬f a=true):sel f (a::l) (x::xs)=sel f l xs:=Vm z
theorem uk(f:Int->Bool):∀{l xs:List Int},xs.length=l.length->(sel f l xs).length=(l.filter f).length
 |[],[],_=>rfl
 |a::l,x::xs,h=>by
  have b:=uk f (l:=l) (xs:=xs) (by simpa using h);unfold sel;by_cases z:f a=true
  .rw[Vo z,WG z,Wl,Wl,b]
  .rw[Vm z,WE z,b]
theorem kj{p:Int}(hp:2<=p):∀{l xs:List Int},xs.length=l.length->dC l xs=dC (oW p l) (sel (fun a=>!fj p a) l xs)+p*dC (pS p l) (sel (fj p) l xs)
 |[],[],_=>by simp[dC,oW,pS]
 |a::l,x::xs,h=>by
  have c:=kj hp (l:=l) (xs:=xs) (by simpa using h);show a*x*x+dC l xs=_;rw[c];by_cases z:fj p a=true
  .have b:¬(!fj p a)=true:=by simp[z]
   have e:p*(a/p)=a:=Ye (VL (VH z));rw[JF z,Jm z,ki z,kr (f:=fun a=>!fj p a) b];show _=_+p*(a/p*x*x+_);rw[Xw,show p*(a/p*x*x)=(p*(a/p))*x*x by grind,e];lia
  .have b:(!fj p a)=true:=by simp[z]
   rw[IS z,Jl z,kr z,ki (f:=fun a=>!fj p a) b];show _=a*x*x+_+_;lia
theorem CZ(f:Int->Bool):∀{l xs:List Int} {Q:Int->Prop},xs.length=l.length->(∃x∈xs,Q x)->(∃x∈sel f l xs,Q x)\/∃x∈sel (fun a=>!f a) l xs,Q x
 |[],[],_,_,⟨x,h,_⟩=>by cases h
 |a::l,x::xs,Q,h,he=>by
  have c:=CZ f (l:=l) (xs:=xs) (Q:=Q) (by simpa using h);rw[iO] at he;by_cases z:f a=true
  .have b:¬(!f a)=true:=by simp[z]
   rw[ki z,kr (f:=fun a=>!f a) b,iO];rcases he with he|he
   .exact .inl (.inl he)
   .exact(c he).imp .inr id
  .have b:(!f a)=true:=by simp[z]
   rw[kr z,ki (f:=fun a=>!f a) b,iO];rcases he with he|he
   .exact .inr (.inl he)
   .exact(c he).imp id .inr
def DG(f:Int->Bool):List Int->List Int->List Int->List Int
 |a::l,ys,zs=>if f a then (match ys with|y::ys=>y::DG f l ys zs|[]=>0::DG f l [] zs) else (match zs with|z::zs=>z::DG f l ys zs|[]=>0::DG f l ys [])
 |[],_,_=>[]
theorem u4(f:Int->Bool):∀{l ys zs:List Int},ys.length=(l.filter f).length->zs.length=(l.filter fun a=>!f a).length->(DG f l ys zs).length=l.length/\sel f l (DG f l ys zs)=ys/\sel (fun a=>!f a) l (DG f l ys zs)=zs
 |[],ys,zs,h1,h2=>by
  have e1:ys=[]:=Xa.mp h1;have e2:zs=[]:=Xa.mp h2;subst e1;subst e2;exact⟨rfl,rfl,rfl⟩
 |a::l,ys,zs,h1,h2=>by
  by_cases z:f a=true
  .have b:¬(!f a)=true:=by simp[z]
   rw[WG z] at h1;rw[WE (p:=fun a=>!f a) b] at h2
   match ys,h1 with
   |y::ys,h1 =>
    obtain⟨d,c,e⟩:=u4 f (l:=l) (ys:=ys) (zs:=zs) (by simpa using h1) h2;unfold DG;rw[Vo z];dsimp only;rw[ki z,kr (f:=fun a=>!f a) b,c,e];exact⟨by simp[d],rfl,rfl⟩
  .have b:(!f a)=true:=by simp[z]
   rw[WE z] at h1;rw[WG (p:=fun a=>!f a) b] at h2
   match zs,h2 with
   |w::zs,h2 =>
    obtain⟨d,c,e⟩:=u4 f (l:=l) (ys:=ys) (zs:=zs) h1 (by simpa using h2);unfold DG;rw[Vm z];dsimp only;rw[kr z,ki (f:=fun a=>!f a) b,c,e];exact⟨by simp[d],rfl,rfl⟩
theorem qj(f:Int->Bool):∀{l xs:List Int} {x:Int},x∈sel f l xs->x∈xs
 |[],_,_,h=>by simp[sel] at h
 |_::_,[],_,h=>by simp[sel] at h
 |a::l,y::xs,x,h=>by
  unfold sel at h;split at h
  .rcases Vq.mp h with e|e
   .exact Vq.mpr (.inl e)
   .exact Vq.mpr (.inr (qj f e))
  .exact Vq.mpr (.inr (qj f h))
theorem Ab{d:Int}:∀{l xs:List Int},(∀x∈xs,d∣x)->d*d∣dC l xs
 |[],xs,_=>by rw[fw];exact ZC _
 |_::_,[],_=>ZC _
 |a::l,x::xs,h=>by
  show d*d∣a*x*x+dC l xs;obtain⟨t,rfl⟩:=h x (by simp);exact YV ⟨a*t*t,by grind⟩ (Ab fun y b=>h y (by simp[b]))
theorem Jn{p:Int}(hp:aR p=true)(h2:p≠2):∀{l xs:List Int} (r:Int),xs.length=l.length->(∀a∈l,¬p∣a)->p∣dC l xs-r->(∃x∈xs,¬p∣x)->∃ys:List Int,ys.length=l.length/\p*p∣dC l ys-r/\∃y∈ys,¬p∣y
 |[],[],_,_,_,_,⟨x,h,_⟩=>by cases h
 |a::l,x::xs,r,k,m,B,he=>by
  have o:=ao hp;by_cases d:p∣x
  .have f:∃y∈xs,¬p∣y:=by
    rw[iO] at he;exact he.resolve_left fun z=>z d
   obtain⟨ys,w,F,s⟩:=Jn hp h2 (l:=l) (xs:=xs) (r-a*x*x) (by simpa using k) (fun b D=>m b (by simp[D])) (by
    show p∣dC l xs-(r-a*x*x)
    rwa [show dC l xs-(r-a*x*x)=(a*x*x+dC l xs)-r by lia]) f
   refine⟨x::ys,by simp[w],?_,?_⟩
   .show p*p∣a*x*x+dC l ys-r
    rwa [show a*x*x+dC l ys-r=dC l ys-(r-a*x*x) by lia]
   .obtain⟨y,E,j⟩:=s;exact⟨y,by simp[E],j⟩
  .-- x+p t: a (x+p t)^2=a x^2+2 a x p t+p^2 ..
   obtain⟨q,A⟩:=B;have c:¬p∣(2:Int):=fun z=>h2 (bH hp aO z);have j:¬p∣2*a*x:=MF hp (MF hp c (m a (by simp))) d
   obtain⟨u,v,i⟩:∃u v:Int,2*a*x*u=1+p*v:=by
    have C:=Fv hp j;obtain⟨v,n⟩:=C;have g:(p-1).toNat=(p-2).toNat+1:=by lia
    refine⟨(2*a*x)^(p-2).toNat,v,?_⟩;rw[g,VS] at n;have:2*a*x*(2*a*x)^(p-2).toNat=(2*a*x)^(p-2).toNat*(2*a*x):=V6 _ _;lia
   refine⟨(x+p*(-(q*u)))::xs,by simpa using k,?_,x+p*(-(q*u)),by simp,fun z=>d ?_⟩
   .show p*p∣a*(x+p*(-(q*u)))*(x+p*(-(q*u)))+dC l xs-r;have e:a*x*x+dC l xs-r=p*q:=A;refine⟨-(q*v)+a*(q*u)*(q*u),?_⟩;have e2:a*(x+p*(-(q*u)))*(x+p*(-(q*u)))+dC l xs-r=(a*x*x+dC l xs-r)-p*q*(2*a*x*u)+p*p*(a*(q*u)*(q*u)):=by grind
    rw[e2,e,i];grind
   .have:=Xx z ⟨-(q*u),rfl⟩
    rwa [show x+p*(-(q*u))-p*(-(q*u))=x by lia] at this
def wg(hp:aR p=true)(h2:p≠2):PZ l p (p*p)↔PZ (oW p l) p p\/PZ (pS p l) p p:=by
 have b:=ao hp
 have B:∀a∈oW p l,¬p∣a:=fun a ha z=>by
  have:=(Wx.mp ha).2;simp only[fj,aad,Za] at this;exact this (Wr z)
 have g:(pS p l).length=(l.filter (fj p)).length:=by unfold pS;rw[Vx]
 constructor
 .rintro⟨xs,h1,c,f⟩;have m:=kj b h1;have A:=uk (fun a=>!fj p a) h1;have w:=uk (fj p) h1;by_cases h:∃x∈sel (fun a=>!fj p a) l xs,¬p∣x
  .refine .inl ⟨_,A,?_,h⟩;have:p∣dC l xs:=V1 ⟨p,rfl⟩ c;rw[m] at this;have:=Xx this ⟨dC (pS p l) (sel (fj p) l xs),rfl⟩
   rwa [Int.add_sub_cancel] at this
  .refine .inr ⟨_,w.trans g.symm,?_,?_⟩
   .have hz:∀x∈sel (fun a=>!fj p a) l xs,p∣x:=fun x i=>Vr fun z=>h ⟨x,i,z⟩;have u:=Ab (l:=oW p l) hz;rw[m] at c;have n:=Xx c u;rw[show dC (oW p l) (sel (fun a=>!fj p a) l xs)+p*dC (pS p l) (sel (fj p) l xs)-dC (oW p l) (sel (fun a=>!fj p a) l xs)=p*dC (pS p l) (sel (fj p) l xs) by lia] at n;exact ZT (by lia) n
   .exact(CZ (fj p) h1 f).resolve_right h
 .rintro(⟨ys,h1,c,f⟩|⟨zs,h1,c,f⟩)
  .obtain⟨d,v,r,o⟩:=Jn hp h2 (l:=oW p l) (xs:=ys) 0 h1 B (by simpa using c) f
   obtain⟨m1,m2,m3⟩:=u4 (fun a=>!fj p a) (l:=l) (ys:=d) (zs:=List.replicate (pS p l).length 0) v (by
    rw[aaQ,g];congr 2;funext a;simp)
   refine⟨_,m1,?_,?_⟩
   .rw[kj b m1,m2]
    have:sel (fj p) l (DG (fun a=>!fj p a) l d (List.replicate (pS p l).length 0))=List.replicate (pS p l).length 0:=by
     have q:=m3;rw[show(fun a=>!!fj p a)=fj p by funext a;simp] at q;exact q
    rw[this,kg];simpa using r
   .obtain⟨y,j,k⟩:=o;exact⟨y,qj _ (by rw[m2];exact j),k⟩
  .obtain⟨m1,m2,m3⟩:=u4 (fun a=>!fj p a) (l:=l) (ys:=List.replicate (oW p l).length 0) (zs:=zs) (by simp[oW]) (by
    rw[h1,g];congr 2;funext a;simp)
   have e:sel (fj p) l (DG (fun a=>!fj p a) l (List.replicate (oW p l).length 0) zs)=zs:=by
    have:=m3;rw[show(fun a=>!!fj p a)=fj p by funext a;simp] at this;exact this
   refine⟨_,m1,?_,?_⟩
   .rw[kj b m1,m2,e,kg];obtain⟨t,s⟩:=c;exact⟨t,by rw[s];grind⟩
   .obtain⟨y,j,k⟩:=f;exact⟨y,qj _ (by rw[e];exact j),k⟩
def K7(m:Int):List (Int×Int)->Bool
 |[]=>true
 |[_]=>false
 |[a,b]=>decide (a7 (a7 (0,m) a 3) b 3=(0,1))
 |[a,b,c]=>kG (a7 (a7 (0,m) a 3) c 3) (a7 (a7 (0,m) b 3) c 3) m
 |[a,b,c,d]=>!decide (a7 (a7 (a7 a b 3) c 3) d 3=(0,1)) || kG (a7 (a7 (0,m) a 3) c 3) (a7 (a7 (0,m) b 3) c 3) m
 |_=>true
def Oi(m:Int)(cs:List (Int×Int)):Bool:=match cs with
 |[a,b]=>decide (m*a.2*b.2=1)
 |_::_::_::_=>true
 |_=>false
def IM(m:Int)(cs:List (Int×Int)):Bool:=Oi m (cs.filter fun c=>decide (c.1=0)) || Oi m (cs.filter fun c=>decide (c.1=1))
def Q0:∀m∈[(1:Int),-1],∀a∈CO,K7 m [a]=IM m [a]:=by decide +kernel
def Q_:∀m∈[(1:Int),-1],∀a∈CO,∀b∈CO,K7 m [a,b]=IM m [a,b]:=by decide +kernel
def Rc:∀m∈[(1:Int),-1],∀a∈CO,∀b∈CO,∀c∈CO,K7 m [a,b,c]=IM m [a,b,c]:=by decide +kernel
def Q2:∀m∈[(1:Int),-1],∀a∈CO,∀b∈CO,∀c∈CO,∀d∈CO,K7 m [a,b,c,d]=IM m [a,b,c,d]:=by decide +kernel
def sW{cs:List (Int×Int)}(h:3<=cs.length):Oi m cs=true:=by
 match cs,h with
 |_::_::_::_,_=>rfl
def Du{cs:List (Int×Int)}(h:∀c∈cs,c.1=0\/c.1=1):(cs.filter fun c=>decide (c.1=0)).length+(cs.filter fun c=>decide (c.1=1)).length=cs.length:=by
 induction cs with
 |nil=>rfl
 |cons c cs a =>
  have a:=a fun d b=>h d (by simp[b]);rcases h c (by simp) with z|z
  .rw[WG (by simp[z]),WE (by simp[z])];simp only[Wl];lia
  .rw[WE (by simp[z]),WG (by simp[z])];simp only[Wl];lia
def Pu{c:Int×Int}(h:c∈CO):c.1=0\/c.1=1:=by
 revert c;decide
def D1(f:m∈[(1:Int),-1]):∀{cs:List (Int×Int)},(∀c∈cs,c∈CO)->1<=cs.length->K7 m cs=IM m cs
 |[a],h,_=>Q0 m f a (h a (by simp))
 |[a,b],h,_=>Q_ m f a (h a (by simp)) b (h b (by simp))
 |[a,b,c],h,_=>Rc m f a (h a (by simp)) b (h b (by simp)) c (h c (by simp))
 |[a,b,c,d],h,_=>Q2 m f a (h a (by simp)) b (h b (by simp)) c (h c (by simp)) d (h d (by simp))
 |a::b::c::d::e::l,h,_=>by
  have g:=Du fun c i=>Pu (h c i);show true=_;unfold IM;simp only[Wl] at g;rcases aa6 ((a::b::c::d::e::l).filter fun(c:Int×Int)=>decide (c.1=0)).length 3 with z|z
  .rw[sW (cs:=(a::b::c::d::e::l).filter fun(c:Int×Int)=>decide (c.1=1)) (by lia),aa8]
  .rw[sW z,Bool.true_or]
def A4(hp:aR p=true):bf (-1) p∈[(1:Int),-1]:=rS (ao hp)
def l7{a:Int}(hp:aR p=true)(h2:p≠2)(ha:a≠0):cls (-a) p=a7 (0,bf (-1) p) (cls a p) 3:=by
 rw[show -a=-1*a by lia,aK hp (by decide) ha,rg hp,Vm h2,bK h2]
def pW(hp:aR p=true)(h2:p≠2):∀{l:List Int},(∀a∈l,a≠0)->cz l p=K7 (bf (-1) p) (l.map fun a=>cls a p)
 |[],_=>by unfold cz K7;have:=ao hp;rw[Vm (by lia)];rfl
 |[a],_=>by have:=ao hp;rw[p9 (by lia)];rfl
 |[a,b],h=>by
  have:=ao hp;have ha:=h a (by simp);have f:=h b (by simp);rw[qd (by lia)];show decide (cls (-a*b) p=(0,1))=decide (_=_);rw[aK hp (by lia) f,l7 hp h2 ha,bK h2]
 |[a,b,c],h=>by
  have:=ao hp;have ha:=h a (by simp);have f:=h b (by simp);have g:=h c (by simp);rw[dR (by lia)];unfold tj;rw[aY (by lia) h2,aK hp (by lia) g,aK hp (by lia) g,l7 hp h2 ha,l7 hp h2 f,bK h2,bK h2];rfl
 |[a,b,c,d],h=>by
  have:=ao hp;have ha:=h a (by simp);have f:=h b (by simp);have g:=h c (by simp);have j:=h d (by simp);have i:=Vn ha f;rw[jH (by lia)];unfold tj;rw[aY (by lia) h2,aK hp (a:=-a) (by lia) g,aK hp (a:=-b) (by lia) g,l7 hp h2 ha,l7 hp h2 f,bK h2,bK h2];show(!decide (cls (a*b*c*d) p=(0,1)) || _)=(!decide (_=_) || _);rw[aK hp (Vn i g) j,aK hp i g,aK hp ha f,bK h2,bK h2,bK h2]
 |a::b::c::d::e::l,_=>by
  have:=ao hp;rw[jO (by lia) (by simp)];rfl
def On(p:Int)(l:List Int):Prop:=∀a∈l,¬p*p∣a
def On.nz(h:On p l):∀a∈l,a≠0:=fun a ha z=>h a ha (by rw[z];exact ZC _)
def Jf{a:Int}(hp:aR p=true)(h2:p≠2)(h:¬fj p a=true):cls a p=(0,bf a p):=md hp h2 fun z=>h (V3 (Wr z))
def EE{a:Int}(hp:aR p=true)(h2:p≠2)(h:fj p a=true)(c:¬p*p∣a):cls a p=(1,bf (a/p) p)/\¬p∣a/p:=by
 have e:p*(a/p)=a:=Ye (VL (VH h));have b:¬p∣a/p:=fun⟨t,z⟩=>c ⟨t,by rw[<-e,z];grind⟩;refine⟨?_,b⟩;have:=F5 hp h2 b
 rwa [e] at this
theorem zE{p:Int}(hp:aR p=true)(h2:p≠2):∀{l:List Int},On p l->((l.map fun a=>cls a p).filter fun c=>decide (c.1=0))=(oW p l).map fun a=>((0:Int),bf a p)
 |[],_=>rfl
 |a::l,h=>by
  have d:=zE hp h2 (l:=l) fun b f=>h b (by simp[f]);rw[Wa];by_cases z:fj p a=true
  .have e:=(EE hp h2 z (h a (by simp))).1;rw[JF z,WE (by rw[e];simp),d]
  .have e:=Jf hp h2 z;rw[IS z,WG (by rw[e];simp),d,e,Wa]
theorem yy{p:Int}(hp:aR p=true)(h2:p≠2):∀{l:List Int},On p l->((l.map fun a=>cls a p).filter fun c=>decide (c.1=1))=(pS p l).map fun a=>((1:Int),bf a p)
 |[],_=>rfl
 |a::l,h=>by
  have d:=yy hp h2 (l:=l) fun b f=>h b (by simp[f]);rw[Wa];by_cases z:fj p a=true
  .have e:=(EE hp h2 z (h a (by simp))).1;rw[Jm z,WG (by rw[e];simp),d,e,Wa]
  .have e:=Jf hp h2 z;rw[Jl z,WE (by rw[e];simp),d]
def Ag:∀a∈oW p l,¬p∣a:=fun a ha z=>by
 have:=(Wx.mp ha).2;simp only[fj,aad,Za] at this;exact this (Wr z)
def A2(h:On p l):∀a∈pS p l,¬p∣a:=fun a ha ⟨t,z⟩=>by
 obtain⟨b,c,rfl⟩:=VG.mp ha;obtain⟨h1,h2⟩:=Wx.mp c;have e:p*(b/p)=b:=Ye (VL (VH h2));exact h b h1 ⟨t,by rw[<-e,z];grind⟩
def wA(hp:aR p=true)(h2:p≠2)(h:∀a∈l,¬p∣a):PZ l p p↔Oi (bf (-1) p) (l.map fun a=>(v,bf a p))=true:=by
 rw[xZ hp h2 h]
 match l with
 |[]=>exact⟨fun z=>by rcases z with z|⟨_,_,z,_⟩;(· cases z);(· cases z),fun z=>by cases z⟩
 |[a]=>exact⟨fun z=>by rcases z with z|⟨_,_,z,_⟩;(· exact absurd z (by simp));(· cases z),fun z=>by cases z⟩
 |[a,b] =>
  show _↔decide (bf (-1) p*bf a p*bf b p=1)=true;rw[WJ,<-dE hp,<-dE hp];constructor
  .rintro(z|⟨c,d,z,q⟩)
   .exact absurd z (by simp)
   .cases z;rwa [show -1*a*b=-a*b by grind]
  .intro q;exact .inr ⟨a,b,rfl,by rwa [show -a*b=-1*a*b by grind]⟩
 |a::b::c::l=>exact⟨fun _=>rfl,fun _=>.inl (by simp)⟩
def JW(hp:aR p=true)(h2:p≠2)(h:On p l)(h1:1<=l.length):PZ l p (p*p)↔cz l p=true:=by
 rw[wg hp h2,wA (v:=0) hp h2 Ag,wA (v:=1) hp h2 (A2 h),pW hp h2 h.nz,D1 (A4 hp) ?_ (by simpa using h1)]
 .unfold IM;rw[zE hp h2 h,yy hp h2 h,X7]
 .intro c b;obtain⟨a,ha,rfl⟩:=VG.mp b;exact cc (ao hp) h2 (h.nz a ha)
def vX:List Nat:=[1,2,3,5,6,7,9,10,11,13,14,15]
def iA:List Nat->Nat->Bool->Bool
 |[],c,o=>o&&Nat.beq (c%16) 0
 |a::l,c,o=>iA l c o || (iA l (c+a) true || (iA l (c+9*a) true || iA l (c+4*a) o))
def BS:List (Int×Int)->Bool
 |[]=>true
 |[_]=>false
 |[a,b]=>decide (a7 (a7 (0,7) a 2) b 2=(0,1))
 |[a,b,c]=>eT (a7 (a7 (0,7) a 2) c 2) (a7 (a7 (0,7) b 2) c 2)
 |[a,b,c,d]=>!decide (a7 (a7 (a7 a b 2) c 2) d 2=(0,1)) || eT (a7 (a7 (0,7) a 2) c 2) (a7 (a7 (0,7) b 2) c 2)
 |_=>true
def vN(r:Nat):Nat:=1-r%2
def uN(r:Nat):Nat:=cond (Nat.beq (r%2) 1) (r%8) (r/2%8)
def q1(v w:Nat):Bool:=Nat.beq v 0&&Nat.beq w 1
def b4(c:Bool):Nat:=cond c 1 0
def Pe(w:Nat):Bool:=Nat.beq w 3 || Nat.beq w 5
def tw(v w b a:Nat):Bool:=Nat.beq ((b4 (Nat.beq (w%4) 3&&Nat.beq (a%4) 3)+b4 (Nat.beq v 1&&Pe a)+b4 (Nat.beq b 1&&Pe w))%2) 0
def QN(a b c:Nat):Bool:=tw ((vN a+vN c)%2) (7*uN a*uN c%8) ((vN b+vN c)%2) (7*uN b*uN c%8)
def Qc(a b c d:Nat):Bool:=!q1 ((vN a+vN b+vN c+vN d)%2) (uN a*uN b*uN c*uN d%8) || QN a b c
def m1:∀a∈vX,iA [a] 0 false=false:=by decide +kernel
def m2:∀a∈vX,∀b∈vX,iA [a,b] 0 false=q1 ((vN a+vN b)%2) (7*uN a*uN b%8):=by decide +kernel
def m3:∀a∈vX,∀b∈vX,∀c∈vX,iA [a,b,c] 0 false=QN a b c:=by decide +kernel
def m4:(vX.all fun a=>vX.all fun b=>vX.all fun c=>vX.all fun d=>(iA [a,b,c,d] 0 false==Qc a b c d))=true:=by decide +kernel
def m5:(vX.all fun a=>vX.all fun b=>vX.all fun c=>vX.all fun d=>(Qc a b c d || vX.all fun e=>iA [a,b,c,d,e] 0 false))=true:=by decide +kernel
theorem AN:∀(l:List Int) (c:Nat) (o:Bool),iA (l.map fun a=>(a%16).toNat) c o=true↔∃xs:List Int,xs.length=l.length/\(16:Int)∣(c:Int)+dC l xs/\(o=true\/∃x∈xs,¬(2:Int)∣x)
 |[],c,o=>by
  show(o&&Nat.beq (c%16) 0)=true↔_;rw[Wi,ZD];constructor
  .rintro⟨h1,h2⟩;exact⟨[],rfl,by rw[fw];lia,.inl h1⟩
  .rintro⟨xs,h1,h2,d⟩;have e:xs=[]:=Xa.mp h1;subst e;rw[fw] at h2;exact⟨d.resolve_right fun⟨x,g,_⟩=>(by cases g),by lia⟩
 |a::l,c,o=>by
  have key:∀(s:Int) (x:Int) (o':Bool),(16:Int)∣x*x-s->0<=s->(iA (l.map fun a=>(a%16).toNat) (c+s.toNat*(a%16).toNat) o'=true↔∃xs:List Int,xs.length=l.length/\(16:Int)∣(c:Int)+(a*x*x+dC l xs)/\(o'=true\/∃x∈xs,¬(2:Int)∣x)):=by
   intro s x o' ⟨t,F⟩ f;rw[AN l _ o'];have C:=VV a (b:=16) (by decide)
   have e1:((c+s.toNat*(a%16).toNat:Nat):Int)=c+s*(a%16):=by
    rw[aaG,WN,Yo f,Yo C]
   have e2:a=a%16+16*(a/16):=(WC a 16).symm
   have e3:∀w:Int,(c:Int)+(a*x*x+w)=((c:Int)+s*(a%16)+w)+16*(a*t+s*(a/16)):=fun w=>by
    have:x*x=s+16*t:=by lia
    rw[show a*x*x=a*(x*x) by grind,this];generalize a%16=r at *;generalize a/16=q at *;subst e2;grind
   constructor
   .rintro⟨xs,h1,h2,d⟩;refine⟨xs,h1,?_,d⟩;rw[e3];rw[e1] at h2;exact YV h2 ⟨_,rfl⟩
   .rintro⟨xs,h1,h2,d⟩;refine⟨xs,h1,?_,d⟩;rw[e3] at h2;rw[e1];have:=Xx h2 ⟨a*t+s*(a/16),rfl⟩
    rwa [Int.add_sub_cancel] at this
  show(iA (l.map fun a=>(a%16).toNat) c o || (iA (l.map fun a=>(a%16).toNat) (c+(a%16).toNat) true || (iA (l.map fun a=>(a%16).toNat) (c+9*(a%16).toNat) true || iA (l.map fun a=>(a%16).toNat) (c+4*(a%16).toNat) o)))=true↔_;have p:=key 0 0 o ⟨0,by decide⟩ (by decide);have A:=key 1 1 true ⟨0,by decide⟩ (by decide);have B:=key 9 3 true ⟨0,by decide⟩ (by decide);have v:=key 4 2 o ⟨0,by decide⟩ (by decide);rw[show c+(0:Int).toNat*(a%16).toNat=c by simp] at p;rw[show c+(1:Int).toNat*(a%16).toNat=c+(a%16).toNat by simp] at A;rw[show(9:Int).toNat=9 from rfl] at B;rw[show(4:Int).toNat=4 from rfl] at v;rw[X7,X7,X7,p,A,B,v];constructor
  .rintro(⟨xs,h1,h2,d⟩|⟨xs,h1,h2,d⟩|⟨xs,h1,h2,d⟩|⟨xs,h1,h2,d⟩)
   .exact⟨0::xs,by simp[h1],h2,d.imp id fun⟨x,g,n⟩=>⟨x,by simp[g],n⟩⟩
   .exact⟨1::xs,by simp[h1],h2,.inr ⟨1,by simp,by decide⟩⟩
   .exact⟨3::xs,by simp[h1],h2,.inr ⟨3,by simp,by decide⟩⟩
   .exact⟨2::xs,by simp[h1],h2,d.imp id fun⟨x,g,n⟩=>⟨x,by simp[g],n⟩⟩
  .rintro⟨xs,h1,h2,d⟩
   match xs,h1 with
   |x::xs,h1 =>
    have m:(16:Int)∣(c:Int)+(a*x*x+dC l xs):=h2;have k:xs.length=l.length:=by simpa using h1
    have f:=P0 x;have E:=VV (x*x) (b:=16) (by decide)
    have j:∀y:Int,x*x%16=y*y%16->(16:Int)∣(c:Int)+(a*y*y+dC l xs):=fun y e=>by
     have D:(16:Int)∣x*x-y*y:=uY.mp e;have:=Xx m (M0 a D)
     rwa [show(c:Int)+(a*x*x+dC l xs)-a*(x*x-y*y)=c+(a*y*y+dC l xs) by grind] at this
    have i:o=true\/¬(2:Int)∣x\/∃x∈xs,¬(2:Int)∣x:=by
     rcases d with d|d
     .exact .inl d
     .rw[iO] at d;exact .inr d
    have u:=f.1;simp only[QE,Vq,VA,Wb] at u;rcases u with e|e|e|e
    .refine .inl ⟨xs,k,j 0 (by lia),?_⟩;have:(2:Int)∣x:=Vr fun z=>by have:=f.2.mpr z;lia
     rcases i with h|h|h
     .exact .inl h
     .exact absurd this h
     .exact .inr h
    .exact .inr (.inl ⟨xs,k,j 1 (by lia),.inl rfl⟩)
    .refine .inr (.inr (.inr ⟨xs,k,j 2 (by lia),?_⟩));have:(2:Int)∣x:=Vr fun z=>by have:=f.2.mpr z;lia
     rcases i with h|h|h
     .exact .inl h
     .exact absurd this h
     .exact .inr h
    .exact .inr (.inr (.inl ⟨xs,k,j 3 (by lia),.inl rfl⟩))
def qe:PZ l 2 16↔iA (l.map fun a=>(a%16).toNat) 0 false=true:=by
 rw[AN];constructor
 .rintro⟨xs,h1,h2,b⟩;exact⟨xs,h1,by simpa using h2,.inr b⟩
 .rintro⟨xs,h1,h2,b⟩;exact⟨xs,h1,by simpa using h2,b.resolve_left fun z=>by cases z⟩
def tH{a:Int}(h:a%4≠0):(a%16).toNat∈vX:=by
 have c:=VV a (b:=16) (by decide);have h1:=VR a (b:=16) (by decide);simp only[vX,Vq,VA,Wb];lia
def Kh{a:Int}(h:a%4≠0):cls a 2=(((vN (a%16).toNat:Nat):Int),((uN (a%16).toNat:Nat):Int)):=by
 rw[GB h];revert h;have b:∀r∈vX,O6 r=(((vN r:Nat):Int),((uN r:Nat):Int)):=by decide +kernel
 exact fun h=>b _ (tH h)
def lM(a b c d:Nat):a7 ((a:Int),(b:Int)) ((c:Int),(d:Int)) 2=((((a+c)%2:Nat):Int),((b*d%8:Nat):Int)):=by
 unfold a7;rw[Vo rfl];simp
def QI(v w:Nat):decide (((v:Int),(w:Int))=((0:Int),(1:Int)))=q1 v w:=by
 unfold q1;rw[Wy,Wi,ZD,ZD,WJ,aa1];lia
def Q8(c:Bool):b1 c=((b4 c:Nat):Int):=by cases c<;>rfl
def Mb(a b:Nat):decide ((a:Int)=(b:Int))=Nat.beq a b:=by
 rw[Wy,WJ,ZD];lia
def Qz(v w a b:Nat):eT ((v:Int),(w:Int)) ((a:Int),(b:Int))=tw v w a b:=by
 unfold eT tw Pe;dsimp only;have c:∀x:Nat,decide ((x:Int)%4=3)=Nat.beq (x%4) 3:=fun x=>by rw[Wy,WJ,ZD];lia
 have h1:∀x:Nat,decide ((x:Int)=1)=Nat.beq x 1:=fun x=>Mb x 1;have e:∀x:Nat,decide ((x:Int)=3)=Nat.beq x 3:=fun x=>Mb x 3;have d:∀x:Nat,decide ((x:Int)=5)=Nat.beq x 5:=fun x=>Mb x 5;simp only[c,h1,e,d,Q8];rw[Wy,WJ,ZD];lia
def G4(g:∀a∈l,a%4≠0)(h1:1<=l.length):iA (l.map fun a=>(a%16).toNat) 0 false=cz l 2:=by
 have nz:∀a∈l,a≠0:=fun a ha z=>g a ha (by rw[z];rfl);have q:cls (-1) 2=(((0:Nat):Int),((7:Nat):Int)):=by rw[rg aO];rfl
 have cn:∀a,a∈l->cls (-a) 2=((((0+vN (a%16).toNat)%2:Nat):Int),((7*uN (a%16).toNat%8:Nat):Int)):=fun a ha=>by
  rw[show -a=-1*a by lia,aK aO (by decide) (nz a ha),q,Kh (g a ha),lM]
 have i:∀x y:Nat,x%8*y%8=x*y%8:=fun x y=>by rw[Nat.mod_mul_mod]
 have m:∀x y z:Nat,x%8*y*z%8=x*y*z%8:=fun x y z=>by rw[Nat.mul_assoc,i,<-Nat.mul_assoc]
 have k:∀x y:Nat,((0+x)%2+y)%2=(x+y)%2:=fun x y=>by lia
 match l,h1 with
 |[a],_ =>
  rw[p9 (by decide)];exact m1 _ (tH (g a (by simp)))
 |[a,b],_ =>
  rw[qd (by decide)];show iA [_,_] 0 false=decide (cls (-a*b) 2=(0,1));rw[m2 _ (tH (g a (by simp))) _ (tH (g b (by simp))),aK aO (by have:=nz a (by simp);lia) (nz b (by simp)),cn a (by simp),Kh (g b (by simp)),lM,k,i];exact(QI _ _).symm
 |[a,b,c],_ =>
  rw[dR (by decide)];unfold tj;show iA [_,_,_] 0 false=_;rw[m3 _ (tH (g a (by simp))) _ (tH (g b (by simp))) _ (tH (g c (by simp))),aU,aK aO (by have:=nz a (by simp);lia) (nz c (by simp)),aK aO (by have:=nz b (by simp);lia) (nz c (by simp)),cn a (by simp),cn b (by simp),Kh (g c (by simp)),lM,lM,k,k,i,i,Qz];rfl
 |[a,b,c,d],_ =>
  rw[jH (by decide)];unfold tj;show iA [_,_,_,_] 0 false=(!decide (cls (a*b*c*d) 2=(0,1)) || _);have f:=m4;rw[Wc] at f;have f:=f _ (tH (g a (by simp)));rw[Wc] at f;have f:=f _ (tH (g b (by simp)));rw[Wc] at f;have f:=f _ (tH (g c (by simp)));rw[Wc] at f;have f:=eq_of_beq (f _ (tH (g d (by simp))));rw[f];have ha:=nz a (by simp);have o:=nz b (by simp);have n:=nz c (by simp);have j:=Vn ha o
  rw[aU,aK aO (a:=-a) (by lia) (nz c (by simp)),aK aO (a:=-b) (by lia) (nz c (by simp)),aK aO (Vn j n) (nz d (by simp)),aK aO j n,aK aO ha o,
   cn a (by simp),cn b (by simp),Kh (g a (by simp)),Kh (g b (by simp)),Kh (g c (by simp)),Kh (g d (by simp)),lM,lM,lM,lM,lM,k,k,i,i,i,m,Qz,QI]
  unfold Qc;rw[show ∀x y z w:Nat,(((x+y)%2+z)%2+w)%2=(x+y+z+w)%2 from fun x y z w=>by lia];rfl
 |a::b::c::d::e::l,_ =>
  rw[jO (by decide) (by simp)];have h:=m5;rw[Wc] at h;have h:=h _ (tH (g a (by simp)));rw[Wc] at h;have h:=h _ (tH (g b (by simp)));rw[Wc] at h;have h:=h _ (tH (g c (by simp)));rw[Wc] at h;have h:=h _ (tH (g d (by simp)));rw[X7] at h
  have r:PZ [a,b,c,d,e] 2 16:=by
   rcases h with h|h
   .have f:=m4;rw[Wc] at f;have f:=f _ (tH (g a (by simp)));rw[Wc] at f;have f:=f _ (tH (g b (by simp)));rw[Wc] at f;have f:=f _ (tH (g c (by simp)));rw[Wc] at f;have f:=eq_of_beq (f _ (tH (g d (by simp))));rw[h] at f;have:PZ [a,b,c,d] 2 16:=qe.mpr f;exact this.more [e]
   .rw[Wc] at h;exact qe.mpr (h _ (tH (g e (by simp))))
  have p:PZ (a::b::c::d::e::l) 2 16:=r.more l;exact qe.mp p
def Mf(b:∀a∈l,a%4≠0)(h1:1<=l.length):PZ l 2 16↔cz l 2=true:=by
 rw[qe,G4 b h1]
def J2(N p:Int)(l:List Int)(k:Int×Bool):Prop:=∃xs:List Int,xs.length=l.length/\(∀x∈xs,0<=x/\x<=N/2)/\k.1=dC l xs%N/\k.2=xs.any fun x=>!decide (x%p=0)
def HI(k:Int×Bool):J2 N p [] k↔k=(0,false):=by
 constructor
 .rintro⟨xs,h1,_,c,d⟩;have e:xs=[]:=Xa.mp h1;subst e;rw[fw] at c;obtain⟨a,b⟩:=k;simp only at c d;rw[c,d];simp
 .rintro rfl;exact⟨[],rfl,fun x f=>(by cases f),(by rw[fw];simp),rfl⟩
def FK{a:Int}(j:0<N)(k:Int×Bool):J2 N p (l++[a]) k↔∃b,J2 N p l b/\∃x:Int,0<=x/\x<=N/2/\k=((b.1+a*x*x)%N,b.2 || !decide (x%p=0)):=by
 constructor
 .rintro⟨xs,h1,h2,e,d⟩;have c:xs≠[]:=fun z=>by subst z;simp at h1
  obtain⟨ys,x,rfl⟩:∃ys x,xs=ys++[x]:=⟨xs.dropLast,xs.getLast c,(List.dropLast_concat_getLast c).symm⟩;have i:ys.length=l.length:=by simpa using h1
  refine⟨(dC l ys%N,ys.any fun x=>!decide (x%p=0)),⟨ys,i,fun y g=>h2 y (by simp[g]),rfl,rfl⟩,x,(h2 x (by simp)).1,(h2 x (by simp)).2,?_⟩;obtain⟨n,m⟩:=k;simp only at e d ⊢;rw[e,d,i8 i.symm];congr 1
  .show(dC l ys+(a*x*x+dC [] []))%N=_;rw[fw,ZE,aae]
  .simp
 .rintro⟨b,⟨ys,h1,h2,e,d⟩,x,h,f,rfl⟩;refine⟨ys++[x],by simp[h1],fun y g=>?_,?_,?_⟩
  .rcases Wk.mp g with z|z
   .exact h2 y z
   .rw[V0.mp z];exact⟨h,f⟩
  .show(b.1+a*x*x)%N=_;rw[e,i8 h1.symm];show _=(dC l ys+(a*x*x+dC [] []))%N;rw[fw,ZE,aae]
  .show(b.2 || _)=_;rw[d];simp
def lF(N x:Int):Int:=if x%N<=N/2 then x%N else N-x%N
def uj(c:0<N):0<=lF N x/\lF N x<=N/2/\N∣lF N x*lF N x-x*x/\(N∣lF N x-x\/N∣lF N x+x):=by
 have a:=VV x (b:=N) (by lia);have h1:=VR x c;have e:=WC x N;unfold lF;generalize f:x%N=r at *;generalize d:x/N=q at *;subst e;split
 .rename_i h;exact⟨a,h,⟨-(q*(2*r+N*q)),by grind⟩,.inl ⟨-q,by grind⟩⟩
 .rename_i h;exact⟨by lia,by lia,⟨N-2*r-q*(2*r+N*q),by grind⟩,.inr ⟨q+1,by grind⟩⟩
theorem AI{N:Int}(b:0<N):∀{l xs:List Int},N∣dC l (xs.map (lF N))-dC l xs
 |[],xs=>by rw[fw,fw];simp
 |_::_,[]=>by simp[dC]
 |a::l,x::xs=>by
  show N∣a*lF N x*lF N x+dC l (xs.map (lF N))-(a*x*x+dC l xs);rw[show a*lF N x*lF N x+dC l (xs.map (lF N))-(a*x*x+dC l xs)=a*(lF N x*lF N x-x*x)+(dC l (xs.map (lF N))-dC l xs) by grind];exact YV (M0 a (uj b).2.2.1) (AI b)
def Nc(a:0<N)(hp:p∣N):p∣lF N x↔p∣x:=by
 obtain⟨_,_,_,h|h⟩:=uj (x:=x) a
 .have:=V1 hp h;constructor
  .intro z;have:=Xx z this
   rwa [show lF N x-(lF N x-x)=x by lia] at this
  .intro z;have:=YV this z
   rwa [show lF N x-x+x=lF N x by lia] at this
 .have:=V1 hp h;constructor
  .intro z;have:=Xx this z
   rwa [show lF N x+x-lF N x=x by lia] at this
  .intro z;have:=Xx this z
   rwa [show lF N x+x-x=lF N x by lia] at this
def Lj(a:0<N)(hp:p∣N):J2 N p l (0,true)↔PZ l p N:=by
 constructor
 .rintro⟨xs,h1,_,f,e⟩;refine⟨xs,h1,VL f.symm,?_⟩;obtain⟨x,c,b⟩:=Yl.mp e.symm;exact⟨x,c,fun z=>by rw[V3 (Wr z)] at b;cases b⟩
 .rintro⟨xs,h1,h2,x,c,b⟩;refine⟨xs.map (lF N),by simp[h1],fun y d=>?_,?_,?_⟩
  .obtain⟨z,_,rfl⟩:=VG.mp d;exact⟨(uj a).1,(uj a).2.1⟩
  .show(0:Int)=_;have:=YV (AI a (l:=l) (xs:=xs)) h2;rw[show dC l (xs.map (lF N))-dC l xs+dC l xs=dC l (xs.map (lF N)) by lia] at this;exact(Wr this).symm
  .show true=_;refine(Yl.mpr ⟨lF N x,VG.mpr ⟨x,c,rfl⟩,?_⟩).symm;rw[VW (fun z=>b ((Nc a hp).mp (VL z)))];rfl
def Fl{L:List (Int×Bool)}(j:L.Nodup)(m:∀k∈L,0<=k.1/\k.1<N):L.length<=2*N.toNat:=by
 have f:∀x∈L,∀y∈L,(2*x.1+if x.2 then 1 else 0)=(2*y.1+if y.2 then 1 else 0)->x=y:=fun x _ y _ e=>by
  obtain⟨a,b⟩:=x;obtain⟨c,d⟩:=y;cases b<;>cases d<;>simp at e ⊢<;>lia
 have g:(L.map fun k:Int×Bool=>2*k.1+if k.2 then 1 else 0).Nodup:=by
  clear m
  induction L with
  |nil=>exact YK
  |cons a l p =>
   rw[WL] at j;rw[Wa,WL];refine⟨fun h=>?_,p j.2 fun x s y r=>f x (by simp[s]) y (by simp[r])⟩;obtain⟨b,n,e⟩:=VG.mp h;have:=f b (by simp[n]) a (by simp) e;subst this;exact j.1 n
 have:=nV g (M:=(List.range (2*N.toNat)).map fun(i:Nat)=>(i:Int)) fun u o=>by
  obtain⟨k,q,rfl⟩:=VG.mp o;have:=m k q;refine VG.mpr ⟨(2*k.1+if k.2 then 1 else 0).toNat,Wz.mpr ?_,?_⟩
  .split<;>lia
  .split<;>lia
 simpa using this
def jB{a:Int}(ha:a≠0):cls (-a) 2=a7 (0,7) (cls a 2) 2:=by
 rw[show -a=-1*a by lia,aK aO (by decide) ha,rg aO];rfl
def v_:∀{l:List Int},(∀a∈l,a≠0)->cz l 2=BS (l.map fun a=>cls a 2)
 |[],_=>rfl
 |[a],_=>by rw[p9 (by decide)];rfl
 |[a,b],h=>by
  have ha:=h a (by simp);have f:=h b (by simp);rw[qd (by decide)];show decide (cls (-a*b) 2=(0,1))=decide (_=_);rw[aK aO (by lia) f,jB ha]
 |[a,b,c],h=>by
  have ha:=h a (by simp);have f:=h b (by simp);have g:=h c (by simp);rw[dR (by decide)];unfold tj;rw[aU,aK aO (by lia) g,aK aO (by lia) g,jB ha,jB f];rfl
 |[a,b,c,d],h=>by
  have ha:=h a (by simp);have f:=h b (by simp);have g:=h c (by simp);have j:=h d (by simp);have i:=Vn ha f;rw[jH (by decide)];unfold tj;rw[aU,aK aO (a:=-a) (by lia) g,aK aO (a:=-b) (by lia) g,jB ha,jB f];show(!decide (cls (a*b*c*d) 2=(0,1)) || _)=(!decide (_=_) || _);rw[aK aO (Vn i g) j,aK aO i g,aK aO ha f]
 |a::b::c::d::e::l,_=>by
  rw[jO (by decide) (by simp)];rfl
def tJ(hp:aR p=true){m:List Int}(b:∀a∈l,a≠0)(c:∀a∈m,a≠0)(e:l.map (fun a=>cls a p)=m.map fun a=>cls a p):cz l p=cz m p:=by
 by_cases h2:p=2
 .subst h2;rw[v_ b,v_ c,e]
 .rw[pW hp h2 b,pW hp h2 c,e]
def Ct(l:List Int):Option Int->Prop
 |none=>cz l 0=true/\∀q,aR q=true->cz l q=true
 |some p=>cz l p=false/\(p=0\/(aR p=true/\cz l 0=true/\∀q,aR q=true->q<p->cz l q=true))
def Ct.uniq:∀r e,Ct l r->Ct l e->r=e
 |none,none,_,_=>rfl
 |none,some p,h,h'=>by
  obtain⟨h1,h2⟩:=h;obtain⟨c,d⟩:=h';rcases d with rfl|⟨d,_⟩
  .rw[h1] at c;cases c
  .rw[h2 p d] at c;cases c
 |some p,none,h',h=>by
  obtain⟨h1,h2⟩:=h;obtain⟨c,d⟩:=h';rcases d with rfl|⟨d,_⟩
  .rw[h1] at c;cases c
  .rw[h2 p d] at c;cases c
 |some p,some q,h,h'=>by
  obtain⟨h1,h2⟩:=h;obtain⟨c,d⟩:=h';rcases h2 with rfl|⟨h2,j,i⟩
  .rcases d with rfl|⟨d,g,f⟩
   .rfl
   .rw[g] at h1;cases h1
  .rcases d with rfl|⟨d,g,f⟩
   .rw[j] at c;cases c
   .have a:¬q<p:=fun z=>by rw[i q d z] at c;cases c
    have b:¬p<q:=fun z=>by rw[f p h2 z] at h1;cases h1
    rw[show p=q by lia]
def kD(l:List Int):Option Int:=Classical.epsilon (Ct l)
def m9{r:Option Int}(h:Ct l r):r=kD l:=m_ Ct.uniq h
def x3(hp:aR p=true)(h2:p≠2)(b:3<=l.length)(h:∀a∈l,¬p∣a):cz l p=true:=by
 rw[<-JW hp h2 (fun a ha z=>h a ha (V1 ⟨p,rfl⟩ z)) (by lia),wg hp h2];refine .inl ?_
 have e:oW p l=l:=by
  unfold oW;rw[ZK];intro a ha;simp only[fj,aad,Za];exact fun z=>h a ha (VL z)
 rw[e,xZ hp h2 h];exact .inl b
def uZ(l:List Int):Ct l (kD l):=by
 have:∃r,Ct l r:=by
  by_cases hz:cz l 0=true
  .by_cases hp:∃p,aR p=true/\cz l p=false
   .obtain⟨p,hp,f⟩:=hp
    have:∀n:Nat,∀q:Int,aR q=true->cz l q=false->q<=n->∃p,Ct l (some p):=by
     intro n
     induction n with
     |zero=>intro q h1 _ h2;have:=ao h1;lia
     |succ n e =>
      intro q h1 h i;by_cases a:∃r,aR r=true/\r<q/\cz l r=false
      .obtain⟨r,c,d,g⟩:=a;exact e r c g (by lia)
      .exact⟨q,h,.inr ⟨h1,hz,fun r c d=>Vr fun z=>a ⟨r,c,d,by simpa using z⟩⟩⟩
    obtain⟨r,b⟩:=this p.toNat p hp f (by lia);exact⟨some r,b⟩
   .exact⟨none,hz,fun q a=>Vr fun z=>hp ⟨q,a,by simpa using z⟩⟩
  .exact⟨some 0,by simpa using hz,.inl rfl⟩
 obtain⟨r,b⟩:=this;rw[<-m9 b];exact b
def pz(a b:Int):Prop:=∀p,Pl p->ay a b p=true
def pz.swap{a b:Int}(ha:a≠0)(c:b≠0)(h:pz a b):pz b a:=fun p hp=>by
 rw[bA hp ha c];exact h p hp
def Cz{a:Int}(hp:Pl p)(ha:a≠0)(h:r*r-a≠0):ay a (r*r-a) p=true:=by
 by_cases b:r=0
 .subst b;have:=rM hp ha;rw[Wg];exact this
 .have h1:=DQ (x:=1) (y:=1) (w:=r*r) hp ha h (Vn b b) (by simp only[VX];lia);rw[<-VZ,<-VZ,mK hp ha b,iH hp ha h b] at h1;exact h1
def pz.step{a b:Int}(ha:a≠0)(g:b≠0)(i:c≠0)(f:s≠0)(h:pz a b)(e:r*r-a=b*c*(s*s)):pz a c:=fun p hp=>by
 have d:b*c≠0:=Vn g i;have h1:=Cz (r:=r) hp ha (by rw[e];exact Vn d (Vn f f));rw[e,<-VZ,iH hp ha d f,cY hp ha g i,h p hp] at h1;cases q:ay a c p with
 |true=>rfl
 |false=>rw[q] at h1;cases h1
def C8{a b:Int}(hp:Pl p)(ha:a≠0)(h:b≠0)(i:c≠0):tj a b c p=ay (-a*b) (-a*c) p:=by
 have d:-a*c≠0:=Vn (by (first|lia|omega)) i;have f:-a*b≠0:=Vn (by (first|lia|omega)) h;have g:-b*c≠0:=Vn (by (first|lia|omega)) i
 have h1:ay (-a*c) ((-b*c)*(-a*b)) p=true:=by
  have e:(-b*c)*(-a*b)=(0-(-a*c))*b*b:=by grind
  rw[e,iH hp d (by (first|lia|omega)) h];exact rM hp d
 rw[cY hp d g f] at h1;unfold tj;rw[bA hp d f];cases q:ay (-a*c) (-b*c) p<;>cases j:ay (-a*c) (-a*b) p<;>rw[q,j] at h1<;>first|rfl|cases h1
def B0{a b B:Int}(hp:Pl p)(c:A≠0)(d:B≠0)(e:u≠0)(f:v≠0)(g:a=A*(u*u))(h:b=B*(v*v)):ay a b p=ay A B p:=by
 rw[g,h,<-VZ,<-VZ,mK hp c e,iH hp c d f]
def Mh{a b:Int}(hp:aR p=true)(ha:a≠0)(e:¬p*p∣b)(d:p∣b)(h:ay a b p=true):bf a p≠-1:=by
 by_cases h2:p=2
 .subst h2;intro z;unfold bf at z;split at z<;>lia
 .have p2:=ao hp;by_cases c:p∣a
  .rw[dw c];decide
  .intro z;rw[aY (by lia) h2,bQ p2 c,Vm h2,z,(EE hp h2 (by simpa [fj] using Wr d) e).1] at h;simp[kG] at h
theorem vM{n:Int}:∀(k:Nat) (m:Int),m.natAbs<=k->0<m->kF m->(∀q,aR q=true->q∣m->q∣n)->m∣n
 |0,m,l,g,_,_=>by lia
 |k+1,m,l,g,e,h=>by
  by_cases h1:m=1
  .rw[h1];exact Int.one_dvd n
  .obtain⟨q,d,⟨b,rfl⟩⟩:=nj (k:=m) (by lia);have f:=ao d;have p:0<b:=Int.pos_of_mul_pos_right g (by lia)
   have lt:b<q*b:=by
    have:=Wm f (show 0<=b by lia);lia
   obtain⟨t,i⟩:=vM k b (by lia) p (Bf e (Int.dvd_mul_left _ _)) fun r o j=>h r o (V1 j (Int.dvd_mul_left _ _));have a:=h q d (Int.dvd_mul_right _ _);rw[i] at a;rcases euclid d a with z|z
   .exfalso;obtain⟨c,rfl⟩:=z;exact e.2 q f ⟨c,by rw[VZ]⟩
   .obtain⟨c,rfl⟩:=z;exact⟨c,by rw[i];grind⟩
def FU{a b:Int}(ha:a≠0)(d:kF b)(h:pz a b):∃x,Dv a b.natAbs=some x/\0<=x/\x<b.natAbs/\b∣x*x-a:=by
 have p:=d.1;rcases Lc (k:=a) (m:=b.natAbs) (by lia) with⟨_,q,c,f,z⟩|⟨x,e,j,l,o⟩
 .have i:=Xf.mp f;exact absurd z (Mh c ha (fun w=>d.2 q (ao c) w) i (h q (.inr c)))
 .refine⟨x,e,j,l,?_⟩
  have g:kF (b.natAbs:Int):=by
   rcases aa2 b with z|z
   .rw[<-z];exact d
   .have:(b.natAbs:Int)=-b:=by lia
    rw[this];exact pT d
  exact aaY.mp (vM (n:=x*x-a) _ (b.natAbs:Int) (Vu _) (by lia) g fun q c f=>(o q c f).1)
def tI{a:Int}(ha:kF a)(h1:a≠1)(e:x*x=a*(y*y)):y=0:=by
 apply Vr;intro b
 have c:x≠0:=fun z=>by
  rw[z,Wg] at e;exact Vn ha.1 (Vn b b) e.symm
 have e2:a*((y.natAbs:Int)*(y.natAbs:Int))=1*((x.natAbs:Int)*(x.natAbs:Int)):=by
  rw[Wq,<-WN,<-WN,Int.natAbs_mul_self,Int.natAbs_mul_self];exact e.symm
 exact h1 (wU ha mD (by lia) (by lia) e2).1
def lg(a:Int):Nat:=Nat.log2 a.natAbs
def qR(a b:Int):Nat:=2*(lg a+lg b)+if b.natAbs<a.natAbs then 1 else 0
def Ax{b:Int}(f:2<=b.natAbs)(g:c≠0)(h:4*c.natAbs<=b.natAbs+4):lg c+1<=lg b:=by
 unfold lg;have a:b.natAbs≠0:=by lia
 have d:c.natAbs≠0:=by lia
 have h1:b.natAbs<2^(Nat.log2 b.natAbs+1):=(ZQ a).mp (XW _);have h2:1<=Nat.log2 b.natAbs:=(Nat.le_log2 a).mpr (by lia);obtain⟨m,e⟩:∃m,Nat.log2 b.natAbs=m+1:=⟨Nat.log2 b.natAbs-1,by lia⟩;rw[e] at h1 ⊢;have e1:2^(m+1+1)=4*2^m:=by rw[Yk,Yk];lia
 have e2:2^(m+1)=2*2^m:=by rw[Yk];lia
 have:c.natAbs<2^(m+1):=by
  have:=YY m;lia
 have:=(ZQ d).mpr this;lia
def tS{a:Int}(b:a≠0)(h:a.natAbs<1073741824):lg a<=29:=by
 have:Nat.log2 a.natAbs<30:=(ZQ (by lia)).mpr (by lia);unfold lg;lia
def Ff{a b:Int}(h:b.natAbs<a.natAbs):qR b a+1<=qR a b:=by
 unfold qR;rw[Vo h,Vm (by lia)];lia
def Ft{a b:Int}(h:a.natAbs<=b.natAbs)(d:lg c+1<=lg b):qR a c+1<=qR a b:=by
 unfold qR;rw[Vm (show ¬b.natAbs<a.natAbs by lia)];split<;>lia
def LC{a b:Int}(ha:a≠0)(c:b≠0)(h1:a.natAbs<1073741824)(h2:b.natAbs<1073741824):qR a b<=117:=by
 have:=tS ha h1;have:=tS c h2;unfold qR;split<;>lia
def Ha{a b:Int}(h:a.natAbs<=b.natAbs)(c:2*r.natAbs<=b.natAbs)(f:b≠0)(e:r*r-a=b*k):4*k.natAbs<=b.natAbs+4:=by
 have h1:b.natAbs*k.natAbs<=r.natAbs*r.natAbs+a.natAbs:=by
  rw[<-VT,<-VT,<-e];lia
 have h2:(2*r.natAbs)*(2*r.natAbs)<=b.natAbs*b.natAbs:=YL c c
 have e2:(2*r.natAbs)*(2*r.natAbs)=4*(r.natAbs*r.natAbs):=by
  rw[Nat.mul_mul_mul_comm]
 have d:b.natAbs*(4*k.natAbs)<=b.natAbs*(b.natAbs+4):=by
  rw[Nat.mul_left_comm,Nat.mul_add];lia
 exact aal d (by lia)
def IE{a b:Int}(h:s≠0)(k:2*r.natAbs<=b.natAbs)(l:b≠0)(f:a.natAbs<=1073741824)(i:b.natAbs<=1073741824)(e:r*r-a=b*c*(s*s)):(c*s).natAbs<2147483648:=by
 have h2:(c*s).natAbs<=(c*(s*s)).natAbs:=by
  rw[<-VZ,VT (c*s)];exact Zb _ (by lia)
 have o:b.natAbs*(c*(s*s)).natAbs<=r.natAbs*r.natAbs+a.natAbs:=by
  rw[<-VT,<-VT,<-VZ,<-e];lia
 have d:1<=b.natAbs:=by lia
 have m:r.natAbs*r.natAbs<=b.natAbs*536870912:=YL (by lia) (by lia);have n:a.natAbs<=b.natAbs*1073741824:=V7 f (YD _ d);have g:b.natAbs*(c*(s*s)).natAbs<=b.natAbs*1610612736:=by lia
 have j:=aal g (by lia);lia
def Im{a b t g f d t':Int}(h:g≠0)(o:x*x=a*(y*y)+c*(t*t))(e:r*r-a=b*c*(s*s))(ex:x*r+a*y=g*f)(l:x+r*y=g*d)(i:c*s*t=g*t'):f*f=a*(d*d)+b*(t'*t'):=by
 have k:(x*r+a*y)*(x*r+a*y)=a*((x+r*y)*(x+r*y))+b*((c*s*t)*(c*s*t)):=by
  have m:(x*r+a*y)*(x*r+a*y)-a*((x+r*y)*(x+r*y))=(x*x-a*(y*y))*(r*r-a):=by grind
  have n:x*x-a*(y*y)=c*(t*t):=by lia
  rw[n,e] at m;have p:c*(t*t)*(b*c*(s*s))=b*((c*s*t)*(c*s*t)):=by grind
  lia
 rw[ex,l,i] at k;have j:(g*g)*(f*f)=(g*g)*(a*(d*d)+b*(t'*t')):=by grind
 exact aah (Vn h h) j
def Lw{a b B t g e d t':Int}(f:g≠0)(e1:-a*b=A*(u*u))(e2:-a*c=B*(v*v))(l:x*x=A*(y*y)+B*(t*t))(ex:x*u*v=g*e)(h:y*a*v=g*d)(i:t*a*u=g*t'):a*(e*e)+b*(d*d)+c*(t'*t')=0:=by
 have k:a*((x*u*v)*(x*u*v))+b*((y*a*v)*(y*a*v))+c*((t*a*u)*(t*a*u))=0:=by
  have e3:a*((x*u*v)*(x*u*v))+b*((y*a*v)*(y*a*v))+c*((t*a*u)*(t*a*u))=a*((x*x)*(u*u)*(v*v)-(-a*b)*(y*y)*(v*v)-(-a*c)*(t*t)*(u*u)):=by grind
  rw[e3,e1,e2,l];grind
 rw[ex,h,i] at k;have j:(g*g)*(a*(e*e)+b*(d*d)+c*(t'*t'))=0:=by grind
 rcases WV.mp j with z|z
 .exact absurd z (Vn f f)
 .exact z
def zZ(a:A≠0)(c:0<u)(e:k=A*(u*u)):u.natAbs<=k.natAbs:=by
 have b:k=u*(u*A):=by rw[e];grind
 conv=>rhs;rw[b,VT]
 refine Zb _ ?_;have:u*A≠0:=Vn (by lia) a;lia
def lsN(p:Int):Nat->Int->Int
 |0,n=>n
 |k+1,n=>if n%(p*p)=0 then lsN p k (n/(p*p)) else n
def vW(n p:Int):Int:=lsN p n.natAbs n
def FO(hp:2<=p)(b:n≠0)(h:n%(p*p)=0):n/(p*p)≠0/\(n/(p*p)).natAbs<n.natAbs/\n=n/(p*p)*(p*p):=by
 have pp:4<=p*p:=We hp hp (by decide) (by lia);have e:=Int.ediv_mul_cancel (VL h);have a:n/(p*p)≠0:=fun z=>b (by rw[<-e,z,Y5]);refine⟨a,?_,e.symm⟩
 conv=>rhs;rw[<-e,VT]
 have:1*(n/(p*p)).natAbs<(p*p).natAbs*(n/(p*p)).natAbs:=Nat.mul_lt_mul_of_pos_right (by lia) (by lia);rw[Nat.mul_comm];lia
def wm(h:¬n%(p*p)=0):∀k,lsN p k n=n
 |0=>rfl
 |k+1=>by unfold lsN;exact Vm h
def CU{k:Nat}(h:n%(p*p)=0):lsN p (k+1) n=lsN p k (n/(p*p)):=by
 rw[lsN.eq_2];exact Vo h
theorem Ds{p:Int}(hp:2<=p):∀(k:Nat) (n:Int),n≠0->n.natAbs<=k->∃s,s≠0/\n=lsN p k n*s*s/\¬p*p∣lsN p k n/\(lsN p k n).natAbs<=n.natAbs
 |0,n,h,d=>by lia
 |k+1,n,h,d=>by
  by_cases a:n%(p*p)=0
  .obtain⟨b,q1,e⟩:=FO hp h a;obtain⟨s,c,e2,h2,f⟩:=Ds hp k (n/(p*p)) b (by lia);rw[CU a];refine⟨p*s,Vn (by lia) c,?_,h2,by lia⟩
   conv=>lhs;rw[e,e2]
   grind
  .rw[wm a];exact⟨1,by decide,by lia,fun z=>a (Wr z),Vu _⟩
def uF(hp:2<=p)(a:n≠0):∃s,s≠0/\n=vW n p*s*s/\¬p*p∣vW n p/\(vW n p).natAbs<=n.natAbs:=Ds hp _ n a (Vu _)
def DJ(hp:2<=p)(a:n≠0):vW n p≠0:=fun z=>by
 obtain⟨s,_,e,_⟩:=uF hp a;rw[z,Y5,Y5] at e;exact a e
def Iy(hp:aR p=true)(c:∀a∈l,a≠0):cz (l.map fun a=>vW a p) p=cz l p:=by
 have p2:=ao hp;refine tJ hp (fun a ha=>?_) c ?_
 .obtain⟨b,f,rfl⟩:=VG.mp ha;exact DJ p2 (c b f)
 .rw[Zz];refine ZM fun a ha=>?_;obtain⟨s,d,e,_,_⟩:=uF p2 (c a ha);show cls (vW a p) p=cls a p
  conv=>rhs;rw[e]
  exact(qM hp (DJ p2 (c a ha)) d).symm
def GC(hp:2<=p)(c:∀a∈l,a≠0):On p (l.map fun a=>vW a p):=fun a ha=>by
 obtain⟨b,d,rfl⟩:=VG.mp ha;obtain⟨s,_,_,h,_⟩:=uF hp (c b d);exact h
def Mz(p:Int)(g:List Int):Bool:=match g with
 |[a,b]=>decide (bf (-a*b) p=1)
 |_::_::_::_=>true
 |_=>false
def JH(hp:aR p=true):∀g:List Int,Oi (bf (-1) p) (g.map fun a=>(v,bf a p))=Mz p g
 |[]=>rfl
 |[_]=>rfl
 |[a,b]=>by
  show decide (bf (-1) p*bf a p*bf b p=1)=decide (bf (-a*b) p=1);rw[<-dE hp,<-dE hp,show -1*a*b=-a*b by grind]
 |_::_::_::_=>rfl
def K3(hp:aR p=true)(h2:p≠2)(h:On p l)(h1:1<=l.length):cz l p=(Mz p (oW p l) || Mz p (pS p l)):=by
 have p2:=ao hp
 rw[pW hp h2 h.nz,D1 (A4 hp) (fun c b=>by
  obtain⟨a,ha,rfl⟩:=VG.mp b
  exact cc p2 h2 (h.nz a ha)) (by rw[Vx];exact h1)]
 unfold IM;rw[zE hp h2 h,yy hp h2 h,JH hp,JH hp]
def Ir(a:0<=x)(b:x<=8):∃y:Int,0<=y/\y<4/\(16:Int)∣y*y-x*x/\y%2=x%2:=by
 have:x=0\/x=1\/x=2\/x=3\/x=4\/x=5\/x=6\/x=7\/x=8:=by lia
 rcases this with rfl|rfl|rfl|rfl|rfl|rfl|rfl|rfl|rfl
 .exact⟨0,by decide,by decide,by decide,by decide⟩
 .exact⟨1,by decide,by decide,by decide,by decide⟩
 .exact⟨2,by decide,by decide,by decide,by decide⟩
 .exact⟨3,by decide,by decide,by decide,by decide⟩
 .exact⟨0,by decide,by decide,by decide,by decide⟩
 .exact⟨3,by decide,by decide,by decide,by decide⟩
 .exact⟨2,by decide,by decide,by decide,by decide⟩
 .exact⟨1,by decide,by decide,by decide,by decide⟩
 .exact⟨0,by decide,by decide,by decide,by decide⟩
def Fh{a:Int}(k:Int×Bool):J2 16 2 (l++[a]) k↔∃b,J2 16 2 l b/\∃x:Int,0<=x/\x<4/\k=((b.1+a*x*x)%16,b.2 || !decide (x%2=0)):=by
 rw[FK (by decide)];constructor
 .rintro⟨b,h,x,d,j,rfl⟩;obtain⟨y,g,f,e,he⟩:=Ir d (by lia);refine⟨b,h,y,g,f,?_⟩;rw[he];congr 1;obtain⟨c,i⟩:=e;rw[show b.1+a*y*y=(b.1+a*x*x)+16*(a*c) by grind,Z4]
 .rintro⟨b,h,x,d,m,rfl⟩;exact⟨b,h,x,d,by lia,rfl⟩
theorem xQ:∀{us:List (Int×Int)} {a b:Int},2<=a->fM a us b->(3:Int)^us.length<=pp us
 |[],a,b,_,_=>by show(1:Int)<=1;decide
 |u::us,a,b,ha,h=>by
  obtain⟨h1,h2,f,c⟩:=h;have e:=xQ (by lia) c;obtain⟨n,d⟩:∃n,u.2.toNat=n+1:=⟨u.2.toNat-1,by lia⟩
  have hp:(3:Int)<=u.1^u.2.toNat:=by
   rw[d,VS];have:(1:Int)<=u.1^n:=by have:=Ws (n:=u.1) (m:=n) (by lia);lia
   have:=We this (show(3:Int)<=u.1 by lia) (by decide) (by lia);lia
  show(3:Int)^(us.length+1)<=u.1^u.2.toNat*pp us;rw[VS,V6];exact We hp e (by have:=Ws (n:=3) (m:=us.length) (by decide);lia) (by lia)
def Bg(h1:1<=k)(h2:k<1073741824):(nR k).length<=19:=by
 obtain⟨⟨b,a⟩,e⟩:=nJ h1;cases c:nR k with
 |nil=>simp
 |cons u us =>
  rw[c] at a e;obtain⟨r,p,q,i⟩:=a;have f:=xQ (by lia) i;have o:u.1^u.2.toNat*pp us=k:=e;have h:(1:Int)<=u.1^u.2.toNat:=by have:=Ws (n:=u.1) (m:=u.2.toNat) (by lia);lia
  have p2:pp us<=k:=by
   rw[<-o];have d:0<=pp us:=by have:=Ws (n:=3) (m:=us.length) (by decide);lia
   have:=Wm h d;lia
  apply Vr;intro l;have s:19<=us.length:=by simp at l;lia
  obtain⟨m,j⟩:∃m,us.length=19+m:=⟨us.length-19,by lia⟩;rw[j,WK] at f;have:(1:Int)<=3^m:=by have:=Ws (n:=3) (m:=m) (by decide);lia
  have:=VB this (show(0:Int)<=3^19 by decide);have g:(3:Int)^19=1162261467:=by decide
  lia
def dk:Nat->List Int
 |0=>[1,-1]
 |i+1=>dk i++(dk i).map fun k=>k*Q6.getD i 1
def HU:∀i,i<=6->(dk i).length<=128:=by decide +kernel
def tu:(dk 6).length=128/\∀k∈dk 6,k≠0/\-30030<=k/\k<=30030/\30030%k=0:=by decide +kernel
def L9:∀s∈[(1:Int),-1],∀a∈bits,G8 s a∈dk 6:=by decide +kernel
def KL:∀i,i<=6->∀k∈dk i,-30030<=k/\k<=30030:=by decide +kernel
def P7:List Int:=[0,2,3,5,7,11,13]
def dW(k p:Int):Int⊕(Int×Int):=if p=0 then .inl (if 0<k then 1 else -1) else .inr (cls k p)
def o5(a b:Int⊕(Int×Int))(p:Int):Int⊕(Int×Int):=match a,b with
 |.inl x,.inl y=>.inl (x*y)
 |.inr u,.inr v=>.inr (a7 u v p)
 |_,_=>.inl 0
def h_:∀p∈Q6,aR p=true:=fun p hp=>by
 obtain⟨j,b,e⟩:=Yg.mp hp;have a:j<6:=b;have:=jK j a;rw[VD,Vz b,e] at this;exact this
def eE(h:p∈P7):p=0\/(p≠0/\aR p=true/\p∈Q6):=by
 have:p=0\/p∈Q6:=Vq.mp h;rcases this with z|z
 .exact .inl z
 .have q:=h_ p z;have:=ao q;exact .inr ⟨by lia,q,z⟩
def f7{a b:Int}(hp:p∈P7)(ha:a≠0)(d:b≠0):o5 (dW a p) (dW b p) p=dW (a*b) p:=by
 rcases eE hp with rfl|⟨c,pp,_⟩
 .unfold dW o5;rw[Vo rfl,Vo rfl,Vo rfl];show Sum.inl _=Sum.inl _;congr 1;rcases WB ha with x|x<;>rcases WB d with y|y
  .rw[Vm (by lia),Vm (by lia),Vo (XE x y)];rfl
  .rw[Vm (by lia),Vo y,Vm (by have:=Xk x y;lia)];rfl
  .rw[Vo x,Vm (by lia),Vm (by have:=Y0 x y;lia)];rfl
  .rw[Vo x,Vo y,Vo (Wj x y)];rfl
 .unfold dW o5;rw[Vm c,Vm c,Vm c];show Sum.inr _=Sum.inr _;rw[aK pp ha d]
def zd{a:Int}(hp:p∈P7)(ha:a≠0)(c:r≠0):dW (a*r*r) p=dW a p:=by
 rcases eE hp with rfl|⟨b,pp,_⟩
 .unfold dW;rw[Vo rfl,Vo rfl];congr 1
  have q:0<r*r:=by
   rcases WB c with z|z
   .exact XE z z
   .exact Wj z z
  rw[VZ];by_cases z:0<a
  .rw[Vo z,Vo (Wj z q)]
  .rw[Vm z,Vm (by have:=Xk (show a<0 by lia) q;lia)]
 .unfold dW;rw[Vm b,Vm b,qM pp ha c]
def wz{f:Int}(hp:p∈P7)(a:f≠0)(c:k≠0)(b:n≠0):dW k p=o5 (dW f p) (dW n p) p↔dW (k*f) p=dW n p:=by
 rw[f7 hp a b];constructor
 .intro h;rw[<-f7 hp c a,h,f7 hp (Vn a b) a,show f*n*f=n*f*f by grind,zd hp b a]
 .intro h;rw[<-f7 hp a b,<-h,f7 hp a (Vn c a),show f*(k*f)=k*f*f by grind,zd hp c a]
def iP(hp:aR p=true)(b:n≠0):((cls n p).1=0\/(cls n p).1=1)/\(p=2->(cls n p).2∈[(1:Int),3,5,7])/\(p≠2->(cls n p).2=1\/(cls n p).2=-1):=by
 have t:=eB (ao hp) b;have a:¬p∣(aV n p).2:=t.2.2;refine⟨?_,fun h2=>?_,fun h2=>?_⟩
 .show(aV n p).1%2=0\/(aV n p).1%2=1;lia
 .show(if p=2 then (aV n p).2%8 else bf (aV n p).2 p)∈_;rw[Vo h2];rw[h2] at a;have:(aV n 2).2%8=1\/(aV n 2).2%8=3\/(aV n 2).2%8=5\/(aV n 2).2%8=7:=by lia
  rw[h2];simp only[Vq,VA,Wb];exact this
 .show(if p=2 then (aV n p).2%8 else bf (aV n p).2 p)=1\/(if p=2 then (aV n p).2%8 else bf (aV n p).2 p)=-1;rw[Vm h2];exact bO a
def CJ{ns:List Int}(D:ns.length=7)(A:∀n∈ns,n≠0):∃k q,k∈dk 6/\aR q=true/\17<=q/\q<=8089/\∀j,j<7->dW (k*q) (P7.getD j 0)=dW (ns.getD j 1) (P7.getD j 0):=by
 obtain⟨u,r,o,l,s,i,t,rfl⟩:∃a b c d e f g,ns=[a,b,c,d,e,f,g]:=by
  match ns,D with
  |[a,b,c,d,e,f,g],_=>exact⟨a,b,c,d,e,f,g,rfl⟩
 have m:∀n,n∈[u,r,o,l,s,i,t]->n≠0:=A
 have h:GW (if 0<u then 1 else -1) [cls r 2,cls o 3,cls l 5,cls s 7,cls i 11,cls t 13]:=by
  have c1:=iP (n:=r) (p:=2) (h_ 2 (by decide)) (m _ (by simp));have c2:=iP (n:=o) (p:=3) (h_ 3 (by decide)) (m _ (by simp));have c3:=iP (n:=l) (p:=5) (h_ 5 (by decide)) (m _ (by simp));have c4:=iP (n:=s) (p:=7) (h_ 7 (by decide)) (m _ (by simp));have v:=iP (n:=i) (p:=11) (h_ 11 (by decide)) (m _ (by simp));have x:=iP (n:=t) (p:=13) (h_ 13 (by decide)) (m _ (by simp));refine⟨by split<;>simp,rfl,fun j w=>?_,c1.2.1 rfl,fun j h1 w=>?_⟩
  .have:j=0\/j=1\/j=2\/j=3\/j=4\/j=5:=by lia
   rcases this with rfl|rfl|rfl|rfl|rfl|rfl
   .exact c1.1
   .exact c2.1
   .exact c3.1
   .exact c4.1
   .exact v.1
   .exact x.1
  .have:j=1\/j=2\/j=3\/j=4\/j=5:=by lia
   rcases this with rfl|rfl|rfl|rfl|rfl
   .exact c2.2.2 (by decide)
   .exact c3.2.2 (by decide)
   .exact c4.2.2 (by decide)
   .exact v.2.2 (by decide)
   .exact x.2.2 (by decide)
 obtain⟨q,q1,B,C,y⟩:=O9 h;have ha:=(Ar (k:=cE _ _*q) h.len).mp y;refine⟨cE (if 0<u then 1 else -1) [cls r 2,cls o 3,cls l 5,cls s 7,cls i 11,cls t 13],q,?_,q1,B,C,fun j w=>?_⟩
 .rw[C1 h.len];exact L9 _ (by rcases h.sg with z|z<;>rw[z]<;>simp) _ h.bits
 .have:j=0\/j=1\/j=2\/j=3\/j=4\/j=5\/j=6:=by lia
  rcases this with rfl|rfl|rfl|rfl|rfl|rfl|rfl
  .exact congrArg Sum.inl ha.1
  .exact congrArg Sum.inr (ha.2 0 (by decide))
  .exact congrArg Sum.inr (ha.2 1 (by decide))
  .exact congrArg Sum.inr (ha.2 2 (by decide))
  .exact congrArg Sum.inr (ha.2 3 (by decide))
  .exact congrArg Sum.inr (ha.2 4 (by decide))
  .exact congrArg Sum.inr (ha.2 5 (by decide))
def jn(a b:Int):Int:=a.fdiv ((Int.gcd a b:Nat):Int)*b.fdiv ((Int.gcd a b:Nat):Int)
def Jq{a b:Int}(ha:a≠0):∃g u v,0<g/\a=g*u/\b=g*v/\jn a b=u*v/\Int.gcd u v=1:=by
 obtain⟨u,c⟩:=Xp a b;obtain⟨v,d⟩:=W3 a b;have e:((Int.gcd a b:Nat):Int)≠0:=fun z=>ha (by rw[c,z,Y5])
 have j:a.fdiv ((Int.gcd a b:Nat):Int)=u:=by
  have:=W5 u e;rw[<-c] at this;exact this
 have ev:b.fdiv ((Int.gcd a b:Nat):Int)=v:=by
  have:=W5 v e;rw[<-d] at this;exact this
 have u0:u≠0:=fun z=>ha (by rw[c,z,Wg]);refine⟨((Int.gcd a b:Nat):Int),u,v,by lia,c,d,by unfold jn;rw[j,ev],Fo (fun q i ⟨s,f⟩ ⟨t,h⟩=>?_) u0⟩;have h1:((Int.gcd a b:Nat):Int)*q∣a:=⟨s,by rw[VZ,<-f];exact c⟩;have h2:((Int.gcd a b:Nat):Int)*q∣b:=⟨t,by rw[VZ,<-h];exact d⟩;have k:=aaI h1 h2;have l:=VN (by lia) k;have:=ao i;have:=VB (show(2:Int)<=q by lia) (show(0:Int)<=((Int.gcd a b:Nat):Int) by lia);lia
def Ox{a b:Int}(ha:a≠0):∃g u,0<g/\a=g*u/\a*b=jn a b*(g*g):=by
 obtain⟨g,u,v,c,e1,e2,e3,_⟩:=Jq (b:=b) ha;refine⟨g,u,c,e1,?_⟩;rw[e3,e1,e2];grind
def LB{a b:Int}(ha:a≠0)(h1:a∣m)(h2:b∣m):jn a b∣m:=by
 obtain⟨g,u,v,f,e1,e2,e3,e4⟩:=Jq (b:=b) ha;rw[e3];have d:u∣m:=V1 ⟨g,by rw[e1,V6]⟩ h1;have e:v∣m:=V1 ⟨g,by rw[e2,V6]⟩ h2;have c:Nat.Coprime u.natAbs v.natAbs:=e4;have:=Nat.Coprime.mul_dvd_of_dvd_of_dvd c (WS.mpr d) (WS.mpr e);rw[<-VT] at this;exact WS.mp this
def P1:∀d∈List.range 174,2<=d->30030%(d*d)≠0:=by decide +kernel
def Lh:kF 30030:=⟨by decide,fun d c z=>by
 have h1:=VN (by decide) z
 have e:d<174:=by
  apply Vr;intro b;have:=We (show(174:Int)<=d by lia) (show(174:Int)<=d by lia) (by decide) (by lia);lia
 obtain⟨n,rfl⟩:=Int.eq_ofNat_of_zero_le (show 0<=d by lia);have:=P1 n (Wz.mpr (by lia)) (by lia)
 have a:n*n∣30030:=by
  have:=WS.mpr z;rw[VT] at this;exact this
 exact this (Zk a)⟩
def kC(h:k∈dk 6):k∣30030:=VL (tu.2 k h).2.2.2
def JA(a:aR q=true)(h:q∣30030):q∈Q6:=by
 have e:(30030:Int)=2*(3*(5*(7*(11*13)))):=by decide
 rw[e] at h;have m:∀{p:Int},p∈Q6->q∣p->q∈Q6:=fun {p} hp b=>by rw[bH a (h_ p hp) b];exact hp
 rcases euclid a h with z|h
 .exact m (by decide) z
 rcases euclid a h with z|h
 .exact m (by decide) z
 rcases euclid a h with z|h
 .exact m (by decide) z
 rcases euclid a h with z|h
 .exact m (by decide) z
 rcases euclid a h with z|h
 .exact m (by decide) z
 .exact m (by decide) h
def Dk(h:k∈dk 6)(a:aR q=true)(b:q∣k):q∈Q6:=JA a (V1 b (kC h))
def uX:∀k∈dk 6,-k∈dk 6/\(k.natAbs:Int)∈dk 6/\jn k 1=k/\jn k (-1)=-k:=by decide +kernel
def qZ(h:k∈dk 6):mU Q6 k:=⟨(tu.2 k h).1,fun _ a b=>Dk h a b⟩
def Ga(k p:Int):Bool:=if p=0 then decide (0<k) else decide (cls k p=(0,1))
def lG(p:Int):List Int:=if p=0 then [1,-1] else if p=2 then [1,3,5,7,2,6,10,14] else [1,lH p,p,p*lH p]
def tW(hp:p∈P7):∀k∈lG p,k≠0:=fun k a=>by
 unfold lG at a;split at a
 .simp only[Vq,VA,Wb] at a;lia
 .rename_i b;split at a
  .simp only[Vq,VA,Wb] at a;lia
  .rename_i h2;obtain⟨_,pp,_⟩:=(eE hp).resolve_left b;have n:=(qJ (qX pp h2)).1;simp only[Vq,VA,Wb] at a;rcases a with rfl|rfl|rfl|rfl
   .decide
   .lia
   .exact b
   .exact Vn b (by lia)
def DU(p:Int):(lG p).length<=8:=by unfold lG;split;decide;split<;>simp
def rX{a:Int}(h:dW a p=dW k p):ay a c p=ay k c p:=by
 unfold dW at h;by_cases b:p=0
 .subst b;rw[Vo rfl,Vo rfl] at h;have e:=Sum.inl.inj h;rw[aM,aM];congr 1;by_cases x:0<a<;>by_cases y:0<k<;>simp[x,y] at e ⊢
 .rw[Vm b,Vm b] at h;have e:=Zh h;unfold ay;rw[Vm b,Vm b,e]
def cM(h:k∈dk 6):k≠0:=(tu.2 k h).1
def g7(h:k∈dk 6):k.natAbs<=30030:=by have:=tu.2 k h;lia
def Qj:∀a∈List.range 174,∀b∈List.range 174,30030%(174*a+b)=0->((174*a+b:Nat):Int)∈dk 6:=by decide +kernel
def Ap(h:n∣30030):n∈dk 6:=by
 have h1:n.natAbs∣30030:=WS.mpr h;have h2:=ZZ (by decide) h1
 have key:(n.natAbs:Int)∈dk 6:=by
  have e:n.natAbs=174*(n.natAbs/174)+n.natAbs%174:=by lia
  have:=Qj (n.natAbs/174) (Wz.mpr (by lia)) (n.natAbs%174) (Wz.mpr (by lia));rw[<-e] at this;exact this (Zk h1)
 rcases aa2 n with e|e
 .rw[e];exact key
 .rw[e];exact(uX _ key).1
def Ma{a b:Int}(ha:a∈dk 6)(c:b∈dk 6):jn a b∈dk 6:=Ap (LB (cM ha) (kC ha) (kC c))
def wW(hp:Pl p)(b:x≠0)(h:Ga n p=true):ay x n p=true:=by
 unfold Ga at h;by_cases a:p=0
 .subst a;rw[Vo rfl] at h;rw[aM,h,aa8]
 .rw[Vm a] at h;exact w8 (hp.resolve_left a) b (VH h)
def Ml:∀cn∈C2,∀a∈C2,∀c1 c2:Bool,(c1=false->cn≠(0,1))->(c2=false->a≠(0,1))->(cn=a->c1=c2)->∃s∈[((0:Int),(1:Int)),(0,3),(0,5),(0,7),(1,1),(1,3),(1,5),(1,7)],eT s cn=c1/\eT s a=c2:=by decide
def Lx:∀cn∈CO,∀a∈CO,∀m∈[(1:Int),-1],∀c1 c2:Bool,(c1=false->cn≠(0,1))->(c2=false->a≠(0,1))->(cn=a->c1=c2)->∃s∈[((0:Int),(1:Int)),(0,-1),(1,1),(1,-1)],kG s cn m=c1/\kG s a m=c2:=by decide
def Hc(hp:p∈P7)(B:n≠0)(y:m≠0)(c1 c2:Bool)(h1:c1=false->Ga n p=false)(h2:c2=false->Ga m p=false)(w:dW n p=dW m p->c1=c2):∃k∈lG p,ay k n p=c1/\ay k m p=c2:=by
 by_cases c:p=0
 .subst c;have i:∀x:Int,dW x 0=.inl (if 0<x then 1 else -1):=fun x=>by unfold dW;rw[Vo rfl]
  have d:∀x:Int,Ga x 0=false->¬0<x:=fun x h=>by
   unfold Ga at h;rw[Vo rfl] at h;exact V4 h
  have sn:∀x:Int,ay (-1) x 0=decide (0<x):=fun x=>by rw[aM];rfl
  have eq:¬0<n->¬0<m->c1=c2:=fun a b=>w (by rw[i,i,Vm a,Vm b]);by_cases o:c1=true/\c2=true
  .refine⟨1,by unfold lG;simp,?_⟩;rw[aM,aM,o.1,o.2];exact⟨rfl,rfl⟩
  .refine⟨-1,by unfold lG;simp,?_⟩;rw[sn,sn];cases c1 with
   |false =>
    have a:=d n (h1 rfl);cases c2 with
    |false=>exact⟨VW a,VW (d m (h2 rfl))⟩
    |true=>exact⟨VW a,V3 (Vr fun z=>by have:=eq a z;cases this)⟩
   |true =>
    cases c2 with
    |true=>exact absurd ⟨rfl,rfl⟩ o
    |false =>
     have a:=d m (h2 rfl);exact⟨V3 (Vr fun z=>by have:=eq z a;cases this),VW a⟩
 obtain⟨_,pp,_⟩:=(eE hp).resolve_left c;have p2:=ao pp
 have d:∀x:Int,Ga x p=false->cls x p≠(0,1):=fun x h=>by
  unfold Ga at h;rw[Vm c] at h;exact V4 h
 have i:cls n p=cls m p->dW n p=dW m p:=fun e=>by unfold dW;rw[Vm c,Vm c,e]
 by_cases e2:p=2
 .subst e2;obtain⟨s,f,q,t⟩:=Ml _ (cH B) _ (cH y) c1 c2 (fun h=>d _ (h1 h)) (fun h=>d _ (h2 h)) (fun e=>w (i e));have key:∀k:Int,k∈lG 2->cls k 2=s->∃k∈lG 2,ay k n 2=c1/\ay k m 2=c2:=fun k l ek=>⟨k,l,by rw[aU,ek];exact q,by rw[aU,ek];exact t⟩;have sm:lG 2=[1,3,5,7,2,6,10,14]:=by unfold lG;rw[Vm (by decide),Vo rfl]
  rw[sm] at key ⊢;have od:∀x:Int,¬(2:Int)∣x->cls x 2=(0,x%8):=fun x h=>by rw[bQ (by decide) h];rfl
  have ev:∀x:Int,x≠0->¬(2:Int)∣x->cls (2*x) 2=(1,x%8):=fun x E h=>by
   have:=f7 (p:=2) (a:=2) (b:=x) (by decide) (by decide) E;unfold dW at this;rw[Vm (by decide),Vm (by decide),Vm (by decide),EV,od x h] at this;have e:=Zh this.symm;rw[e];show((1+0)%2,_)=_;rw[show((1:Int)+0)%2=1 by decide];have:(1*(x%8))%8=x%8:=by lia
   exact congrArg (Prod.mk (1:Int)) this
  simp only[Vq,VA,Wb] at f;rcases f with rfl|rfl|rfl|rfl|rfl|rfl|rfl|rfl
  .exact key 1 (by simp) (od 1 (by decide))
  .exact key 3 (by simp) (od 3 (by decide))
  .exact key 5 (by simp) (od 5 (by decide))
  .exact key 7 (by simp) (od 7 (by decide))
  .exact key 2 (by simp) (ev 1 (by decide) (by decide))
  .exact key 6 (by simp) (ev 3 (by decide) (by decide))
  .exact key 10 (by simp) (ev 5 (by decide) (by decide))
  .exact key 14 (by simp) (ev 7 (by decide) (by decide))
 .obtain⟨s,f,q,t⟩:=Lx _ (cc p2 e2 B) _ (cc p2 e2 y) _ (rS p2) c1 c2 (fun h=>d _ (h1 h)) (fun h=>d _ (h2 h)) (fun e=>w (i e));have key:∀k:Int,k∈lG p->cls k p=s->∃k∈lG p,ay k n p=c1/\ay k m p=c2:=fun k l ek=>⟨k,l,by rw[aY c e2,ek];exact q,by rw[aY c e2,ek];exact t⟩;have sm:lG p=[1,lH p,p,p*lH p]:=by unfold lG;rw[Vm c,Vm e2]
  rw[sm] at key ⊢;obtain⟨F,r,_⟩:=qJ (qX pp e2)
  have D:¬p∣lH p:=fun z=>by
   rw[dw z] at r;cases r
  have cn:cls (lH p) p=(0,-1):=by rw[bQ p2 D,Vm e2,r]
  have g:¬p∣1:=fun z=>by have:=VN (by decide) z;lia
  have C:bf 1 p=1:=lB pp e2 ⟨0,by lia⟩;have j:cls 1 p=(0,1):=by rw[bQ p2 g,Vm e2,C]
  have A:cls p p=(1,1):=by
   have:=ma (v:=1) p2 g;rw[VS,V8,Wq,Wq] at this;unfold cls;rw[this,Vm e2];dsimp only;rw[C];rfl
  have u:cls (p*lH p) p=(1,-1):=by
   have:=f7 (p:=p) (a:=p) (b:=lH p) hp c (by lia);unfold dW at this;rw[Vm c,Vm c,Vm c,A,cn] at this;have e:=Zh this.symm;rw[e];show((1+0)%2,_)=_;rw[Vm e2];rfl
  simp only[Vq,VA,Wb] at f;rcases f with rfl|rfl|rfl|rfl
  .exact key 1 (by simp) j
  .exact key (lH p) (by simp) cn
  .exact key p (by simp) A
  .exact key (p*lH p) (by simp) u
def Np(pp:aR p=true):cls 1 p=(0,1):=by
 have p2:=ao pp;have a:¬p∣1:=fun z=>by have:=VN (by decide) z;lia
 rw[bQ p2 a];by_cases e2:p=2
 .rw[Vo e2];rfl
 .rw[Vm e2,lB pp e2 ⟨0,by lia⟩]
def k7{a b:Int}(h:Pl p)(ha:a≠0)(d:b≠0)(c:k≠0):ay (a*k) (b*k) p=(ay k (-1*(a*b)) p==ay a b p):=by
 have e:=Vn ha d;rw[BX h ha c (Vn d c),cY h ha d c,cY h c d c,mW h c,cY h c (by decide) e,cY h c ha d,bA h c ha];cases ay a b p<;>cases ay k a p<;>cases ay k b p<;>cases ay k (-1) p<;>rfl
def y3{a b:Int}(h:Pl p)(ha:a≠0)(c:b≠0):ay a (-1*(a*b)) p=ay a b p:=by
 rw[cY h ha (by decide) (Vn ha c),cY h ha ha c,mW h ha];cases ay a b p<;>cases ay a (-1) p<;>rfl
def Bj{a b:Int}(hp:p∈P7)(ha:a≠0)(m:b≠0)(w:c≠0)(B:d≠0)(h:cz [a,b,c,d] p=true):∃k∈lG p,cz [a,b,-k] p=true/\cz [c,d,k] p=true:=by
 by_cases i:p=0
 .subst i;have sm:lG 0=[1,-1]:=by unfold lG;rw[Vo rfl]
  rw[sm];rw[dJ] at h
  have key:∀k:Int,k∈[(1:Int),-1]->((a<0\/b<0\/0<k)/\(0<a\/0<b\/k<0))->((c<0\/d<0\/k<0)/\(0<c\/0<d\/0<k))->∃k∈[(1:Int),-1],cz [a,b,-k] 0=true/\cz [c,d,k] 0=true:=fun k l e1 e2=>by
   refine⟨k,l,?_,?_⟩
   .rw[dJ];constructor
    .rcases e1.1 with z|z|z
     .exact⟨a,by simp,z⟩
     .exact⟨b,by simp,z⟩
     .exact⟨-k,by simp,by lia⟩
    .rcases e1.2 with z|z|z
     .exact⟨a,by simp,z⟩
     .exact⟨b,by simp,z⟩
     .exact⟨-k,by simp,by lia⟩
   .rw[dJ];constructor
    .rcases e2.1 with z|z|z
     .exact⟨c,by simp,z⟩
     .exact⟨d,by simp,z⟩
     .exact⟨k,by simp,z⟩
    .rcases e2.2 with z|z|z
     .exact⟨c,by simp,z⟩
     .exact⟨d,by simp,z⟩
     .exact⟨k,by simp,z⟩
  obtain⟨⟨x,o,A⟩,⟨y,r,C⟩⟩:=h;simp only[Vq,VA,Wb] at o r;by_cases q:0<a/\0<b\/((a<0/\0<b\/0<a/\b<0)/\c<0)
  .refine key 1 (by simp) ⟨by lia,by lia⟩ ⟨?_,by lia⟩;rcases o with rfl|rfl|rfl|rfl<;>lia
  .refine key (-1) (by simp) ⟨by lia,by lia⟩ ⟨by lia,?_⟩;rcases r with rfl|rfl|rfl|rfl<;>lia
 obtain⟨_,pp,_⟩:=(eE hp).resolve_left i;have pl:Pl p:=.inr pp;have f:-c≠0:=by lia
 have g:-d≠0:=by lia
 have nn:-1*(a*b)≠0:=Vn (by decide) (Vn ha m);have j:-1*(-c*-d)≠0:=Vn (by decide) (Vn f g)
 obtain⟨k,l,t,u⟩:=Hc hp nn j (ay a b p) (ay (-c) (-d) p) (fun e=>by
   cases z:Ga (-1*(a*b)) p with
   |false=>rfl
   |true =>
    have:=wW pl ha z;rw[y3 pl ha m,e] at this
    cases this) (fun e=>by
   cases z:Ga (-1*(-c*-d)) p with
   |false=>rfl
   |true =>
    have:=wW pl f z;rw[y3 pl f g,e] at this
    cases this) (fun e=>by
   have s:Kq (a*b*c*d) p:=by
    have e1:=f7 hp nn j;rw[e,f7 hp j j] at e1;have e2:=zd (a:=1) hp (by decide) j;rw[Wq,e1] at e2;unfold dW at e2;rw[Vm i,Vm i] at e2;have e3:=Zh e2;have e4:-1*(a*b)*(-1*(-c*-d))=a*b*c*d:=by grind
    rw[e4] at e3;show cls (a*b*c*d) p=(0,1);rw[e3];exact Np pp
   rw[jH i,V3 s] at h;have tz:tj a b c p=true:=h;unfold tj at tz;rw[show -a*c=a*-c by grind,show -b*c=b*-c by grind,k7 pl ha m f] at tz
   have v:ay (-c) (-1*(a*b)) p=ay (-c) (-d) p:=by
    rw[bA pl nn f,rX e,bA pl f j,y3 pl f g]
   rw[v] at tz
   exact(Y_.mp tz).symm)
 have n:=tW hp k l;refine⟨k,l,?_,?_⟩
 .rw[dR i];unfold tj;rw[show -a*-k=a*k by grind,show -b*-k=b*k by grind,k7 pl ha m n,t];simp
 .rw[dR i];unfold tj;rw[k7 pl f g n,u];simp
def Og(c:mU Q6 x)(d:mU Q6 y)(h:∀p∈P7,ay x y p=true):∀p,Pl p->ay x y p=true:=fun p hp=>by
 by_cases a:p∈P7
 .exact h p a
 rcases hp with rfl|hp
 .exact absurd (by decide) a
 have b:p∉Q6:=fun z=>a (Vw _ z);refine iI hp (fun z=>b (by rw[z];decide)) (fun z=>b (c.2 p hp z)) (fun z=>b (d.2 p hp z))
def NT(k:aR q=true)(m:17<=q)(j:mU (Q6++[q]) x)(i:mU (Q6++[q]) y)(h:∀p∈P7,ay x y p=true):∀p,Pl p->ay x y p=true:=by
 have g:∀p∈Q6,p<=13:=by decide
 have f:xN (Q6++[q]):=⟨Zg.mpr ⟨by decide,by simp,fun a ha b l=>by
   rw[V0.mp l];have:=g a ha
   lia⟩,fun p hp=>by
   rcases Wk.mp hp with hp|hp
   .exact h_ p hp
   .rw[V0.mp hp];exact k,by simp[Q6]⟩
 have ev:=CF f j i;unfold o8 at ev;rw[show(0:Int)::(Q6++[q])=P7++[q] from rfl,rT,u5 h] at ev
 have n:ay x y q=true:=by
  cases z:ay x y q with
  |true=>rfl
  |false =>
   exfalso
   have:mQ [q] (ay x y)=false:=by
    unfold mQ;rw[Zn,z];rfl
   rw[this] at ev;cases ev
 intro p hp;by_cases e:p∈P7
 .exact h p e
 by_cases c:p=q
 .rw[c];exact n
 rcases hp with rfl|hp
 .exact absurd (by decide) e
 have d:p∉Q6++[q]:=fun z=>by
  rcases Wk.mp z with z|z
  .exact e (Vw _ z)
  .exact c (V0.mp z)
 refine iI hp (fun z=>d (by rw[z];simp[Q6])) (fun z=>d (j.2 p hp z)) (fun z=>d (i.2 p hp z))
def AZ{a:Int}(ha:a≠0)(b:k≠0):0<a*k↔(0<a/\0<k)\/(a<0/\k<0):=by
 rcases WB ha with h|h<;>rcases WB b with h'|h'
 .exact⟨fun _=>.inr ⟨h,h'⟩,fun _=>XE h h'⟩
 .have:=Xk h h';exact⟨fun z=>by lia,fun z=>by lia⟩
 .have:=Y0 h h';exact⟨fun z=>by lia,fun z=>by lia⟩
 .exact⟨fun _=>.inl ⟨h,h'⟩,fun _=>Wj h h'⟩
def AU{a b:Int}(ha:a≠0)(j:b≠0)(d:c≠0):cz [a,b,c] p=ay (-a*c) (-b*c) p:=by
 by_cases g:p=0
 .subst g;rw[Wy,dJ,aM,X7,XM,XM,AZ (by lia) d,AZ (by lia) d];constructor
  .rintro⟨⟨x,f,h⟩,⟨y,e,i⟩⟩;simp only[Vq,VA,Wb] at f e;rcases f with rfl|rfl|rfl<;>rcases e with rfl|rfl|rfl<;>lia
  .intro z;have n:a<0\/b<0\/c<0:=by lia
   have q:0<a\/0<b\/0<c:=by lia
   constructor
   .rcases n with n|n|n
    .exact⟨a,by simp,n⟩
    .exact⟨b,by simp,n⟩
    .exact⟨c,by simp,n⟩
   .rcases q with n|n|n
    .exact⟨a,by simp,n⟩
    .exact⟨b,by simp,n⟩
    .exact⟨c,by simp,n⟩
 .rw[dR g];rfl
def Jc(a b c d p:Int):List (Int⊕(Int×Int)):=((lG p).filter fun k=>cz [a,b,-k] p&&cz [c,d,k] p).map fun k=>dW k p
def Om{a b:Int}(hp:p∈P7)(ha:a≠0)(i:b≠0)(e:c≠0)(f:d≠0)(h:cz [a,b,c,d] p=true):Jc a b c d p≠[]:=fun z=>by
 obtain⟨k,g,h1,h2⟩:=Bj hp ha i e f h;have:dW k p∈Jc a b c d p:=VG.mpr ⟨k,Wx.mpr ⟨g,by rw[h1,h2];rfl⟩,rfl⟩;rw[z] at this;cases this
def Av{a b t:Int}(hp:p∈P7)(ha:a≠0)(i:b≠0)(o:c≠0)(n:d≠0)(m:t≠0)(h:dW t p∈Jc a b c d p):ay (a*t) (b*t) p=true/\ay (-c*t) (-d*t) p=true:=by
 obtain⟨k,g,e⟩:=VG.mp h;obtain⟨g,z⟩:=Wx.mp g;rw[Wi] at z;have f:=tW hp k g
 have pl:Pl p:=by
  rcases eE hp with z|z
  .exact .inl z
  .exact .inr z.2.1
 obtain⟨j,l⟩:=z;rw[AU ha i (by lia),show -a*-k=a*k by grind,show -b*-k=b*k by grind,k7 pl ha i f,rX e] at j;rw[AU o n f,k7 pl (by lia) (by lia) f,rX e] at l;rw[k7 pl ha i m,k7 pl (by lia) (by lia) m];exact⟨j,l⟩
def iS(b:mU L x)(c:mU L y):mU L (x*y):=⟨Vn b.1 c.1,fun q a d=>(euclid a d).elim (b.2 q a) (c.2 q a)⟩
def uS{M:List Int}(h:∀p∈L,p∈M)(a:mU L x):mU M x:=⟨a.1,fun q b c=>h q (a.2 q b c)⟩
def vt(a:mU L x):mU L (-x):=⟨by have:=a.1;lia,fun q b c=>a.2 q b (WX.mp c)⟩
def Gn{a b:Int}(e:mU Q6 a)(ob:mU Q6 b)(f:mU Q6 c)(od:mU Q6 d)(v:k∈dk 6)(m:q=1\/(aR q=true/\17<=q/\q<=8089))(h:∀p∈P7,dW (k*q) p∈Jc a b c d p):
  ∀p,Pl p->cz [a,b,-(k*q)] p=true/\cz [c,d,k*q] p=true:=by
 have ok:=qZ v
 have l:q≠0:=by
  rcases m with rfl|⟨_,h,_⟩
  .decide
  .lia
 have j:k*q≠0:=Vn ok.1 l
 have all:∀{x y:Int},mU Q6 x->mU Q6 y->(∀p∈P7,ay (x*(k*q)) (y*(k*q)) p=true)->∀p,Pl p->ay (x*(k*q)) (y*(k*q)) p=true:=fun {x y} s o g=>by
  rcases m with rfl|⟨n,i,_⟩
  .rw[VX] at g ⊢;exact Og (iS s ok) (iS o ok) g
  .have sub:∀p∈Q6,p∈Q6++[q]:=fun p hp=>WU _ hp
   have A:mU (Q6++[q]) q:=⟨l,fun r w u=>by
    have B:=ao w;rcases fk n (by lia) u with z|z
    .lia
    .rw[z];simp⟩
   have t:=iS (uS sub ok) A;exact NT n i (iS (uS sub s) t) (iS (uS sub o) t) g
 have one:=all e ob fun p hp=>(Av hp e.1 ob.1 f.1 od.1 j (h p hp)).1;have two:=all (vt f) (vt od) fun p hp=>(Av hp e.1 ob.1 f.1 od.1 j (h p hp)).2;intro p hp;rw[AU e.1 ob.1 (by lia),AU f.1 od.1 j,show -a*-(k*q)=a*(k*q) by grind,show -b*-(k*q)=b*(k*q) by grind];exact⟨one p hp,two p hp⟩
def Hf{a:Int}(ha:a∈dk 6)(i:k∈dk 6)(d:q=1\/(aR q=true/\17<=q/\q<=8089)):Tame (a*(k*q)).natAbs/\(HN (a*(k*q)) 1).1.natAbs<1073741824:=by
 have n:=cM ha;have v:=cM i;have D:=g7 ha;have E:=g7 i
 have C:0<q/\q<=8089:=by
  rcases d with rfl|⟨_,h,h'⟩
  .decide
  .lia
 have sm:yb ((a.natAbs:Int)*(k.natAbs:Int)):=ka (uJ (by lia) (by lia)) (uJ (by lia) (by lia));have ps:0<(a.natAbs:Int)*(k.natAbs:Int):=Wj (by lia) (by lia)
 have y:((a*(k*q)).natAbs:Int)=(a.natAbs:Int)*(k.natAbs:Int)*q:=by
  rw[VT,VT,WN,WN,show(q.natAbs:Int)=q by lia,VZ]
 have o:Tame (a*(k*q)).natAbs:=by
  rw[y];rcases d with rfl|⟨c,j,A⟩
  .exact .inl ⟨_,1,sm,ps,by decide,by lia⟩
  .exact .inr ⟨_,q,sm,ps,c,by lia,rfl⟩
 refine⟨o,?_⟩;obtain⟨g,u,r,_,e⟩:=Ox (a:=a) (b:=k) n;have l:=Ma ha i;have js:kF (jn a k):=Bf Lh (kC l);have x:=g7 l
 have w:kF (jn a k*q):=by
  rcases d with rfl|⟨c,j,A⟩
  .rw[VX];exact js
  .refine kM js c fun z=>?_;have:=JA c (V1 z (kC l));have m:∀p∈Q6,p<=13:=by decide
   have:=m q this;lia
 have B:a*(k*q)≠0:=Vn n (Vn v (by lia));rw[C0 (t:=a*(k*q)) (b:=1) (f:=jn a k*q) (s:=g) B (by decide) (by rw[VX];exact o) w r (by rw[VX,<-VZ,e];grind)];show(jn a k*q).natAbs<1073741824;rw[VT];have:=YL x (show q.natAbs<=8089 by lia);lia
end Q
namespace L2
open PySem PySem.Spec PyProof.Rows
section
variable{κ:Type}[DecidableEq κ]
def kE(kvs:List (κ×V))(k:κ):Option V:=(kvs.find? fun kv=>decide (kv.1=k)).map (·.2)
def putK(kvs:List (κ×V))(k:κ)(v:V):List (κ×V) :=
 if (kvs.any fun kv=>decide (kv.1=k))=true then kvs.map (fun kv=>if kv.1=k then (kv.1,v) else kv) else kvs++[(k,v)]
def jN{p:κ×V}{r:List (κ×V)}{k:κ}(e:p.1=k):kE (p::r) k=some p.2:=by simp[kE,Xl,e]
def j6{p:κ×V}{r:List (κ×V)}{k:κ}(e:¬p.1=k):kE (p::r) k=kE r k:=by simp[kE,Xl,e]
theorem rW(k:κ):∀kvs:List (κ×V),(kvs.any fun kv=>decide (kv.1=k))=(kE kvs k).isSome
 |[]=>rfl
 |p::r=>by
  rw[XO];by_cases e:p.1=k
  .simp only[jN e,V3 e,Bool.true_or,Option.isSome_some]
  .rw[j6 e,VW e,Bool.false_or];exact rW k r
def j0(kvs:List (κ×V))(k:κ)(v:V):(putK kvs k v).length<=kvs.length+1:=by
 unfold putK;split
 .rw[Vx];lia
 .rw[V5,Wl,List.length_nil];lia
def yj.iB{o:Option V}{u:Option Value}(r:yj o u):o.isSome=u.isSome:=by
 cases o with
 |none=>cases u with
  |none=>rfl
  |some _=>exact(show False from r).elim
 |some _=>cases u with
  |none=>exact(show False from r).elim
  |some _=>rfl
def KV.val{kvs:List (κ×V)}{vs:List (κ×Value)}(r:KV kvs vs)(k:κ):yj (kE kvs k) (valueAt vs k):=by
 unfold KV at r
 induction r with
 |nil=>exact True.intro
 |@cons p q ps c h t d =>
  obtain⟨h1,h2⟩:=h;by_cases e:p.1=k
  .have a:q.1=k:=h1.symm.trans e;have b:valueAt (q::c) k=some q.2:=by simp[valueAt,Xl,a]
   rw[jN e,b];exact h2
  .have a:¬q.1=k:=fun z=>e (h1.trans z);have b:valueAt (q::c) k=valueAt c k:=by simp[valueAt,Xl,a]
   rw[j6 e,b];exact d
theorem KV.any{kvs:List (κ×V)}{vs:List (κ×Value)}(r:KV kvs vs)(k:κ):(kvs.any fun kv=>decide (kv.1=k))=vs.any fun kv=>decide (kv.1=k):=by
 unfold KV at r
 induction r with
 |nil=>rfl
 |cons h t a=>rw[XO,XO,a,h.1]
def KV.Ei{kvs:List (κ×V)}{vs:List (κ×Value)}(r:KV kvs vs)(k:κ){y:V}{u:Value}(b:RelV y u):
  KV (kvs.map fun kv=>if kv.1=k then (kv.1,y) else kv) (vs.map fun kv=>if kv.1=k then (kv.1,u) else kv):=by
 unfold KV at r ⊢
 induction r with
 |nil=>exact .nil
 |@cons p q ps c h t a =>
  rw[Wa,Wa];refine .cons ?_ a;obtain⟨h1,h2⟩:=h;by_cases e:p.1=k
  .rw[Vo e,Vo (h1.symm.trans e)];exact⟨h1,b⟩
  .rw[Vm e,Vm (fun z=>e (h1.trans z))];exact⟨h1,h2⟩
def KV.put{kvs:List (κ×V)}{vs:List (κ×Value)}(r:KV kvs vs)(k:κ){y:V}{u:Value}(a:RelV y u):KV (putK kvs k y) (stored vs k u):=by
 unfold putK stored;rw[r.any k];by_cases e:(vs.any fun kv=>decide (kv.1=k))=true
 .rw[Vo e,Vo e];exact r.Ei k a
 .rw[Vm e,Vm e];exact Paired.snoc r ⟨rfl,a⟩
theorem KV.length{kvs:List (κ×V)}{vs:List (κ×Value)}(r:KV kvs vs):kvs.length=vs.length:=Yq r
end
variable{H H':Hp}{u:Value}{kvs:List (List Key×V)}{P:Program}{w:World}{y:V}{xs:List (List Key×Addr×Value)}
def DD{k:Key}(r:RelV (kV k) u):(da P w).is k u=true:=by
 cases k with
 |inl i=>obtain⟨t,e⟩:=(show ∃t,u=Value.int i t from r);subst e;exact xc P w i t
 |inr x=>obtain⟨t,e⟩:=(show ∃t,u=Value.str x t from r);subst e;exact wV P w x t
theorem uh{P:Program}{w:World}:∀{ks:List Key} {us:List Value},Vals (ks.map kV) us->ItemsAre (da P w) ks us
 |[],_,r=>by rw[YJ] at r;cases r;exact .nil
 |k::ks,_,r=>by
  rw[Wa] at r;cases r with
  |cons h t=>exact .cons (DD h) (uh t)
abbrev KT(H:Hp):List (List Key×V)->List (List Key×Addr×Value)->Prop:=Paired fun p q=>p.1=q.1/\H q.2.1=some (.tup (p.1.map kV))/\RelV p.2 q.2.2
def KT.val{H:Hp}{kvs:List (List Key×V)}{xs:List (List Key×Addr×Value)}(r:KT H kvs xs)(k:List Key):yj (kE kvs k) ((atKey xs k).map (·.2)):=by
 induction r with
 |nil=>exact True.intro
 |@cons p q ps c h t d =>
  obtain⟨h1,_,h2⟩:=h;by_cases e:p.1=k
  .have a:q.1=k:=h1.symm.trans e;have b:atKey (q::c) k=some q.2:=by simp[atKey,Xl,a]
   rw[jN e,b];exact h2
  .have a:¬q.1=k:=fun z=>e (h1.trans z);have b:atKey (q::c) k=atKey c k:=by simp[atKey,Xl,a]
   rw[j6 e,b];exact d
def KT.Ei(r:KT H kvs xs)(k:List Key)(c:RelV y u):
  KT H (kvs.map fun kv=>if kv.1=k then (kv.1,y) else kv) (xs.map (putAt k u)):=by
 induction r with
 |nil=>exact .nil
 |@cons p q ps d h t a =>
  rw[Wa,Wa];refine .cons ?_ a;obtain⟨h1,h2,b⟩:=h;unfold putAt;by_cases e:p.1=k
  .rw[Vo e,Vo (h1.symm.trans e)];exact⟨h1,h2,c⟩
  .rw[Vm e,Vm (fun z=>e (h1.trans z))];exact⟨h1,h2,b⟩
def KT.put(r:KT H kvs xs)(k:List Key){b:Addr}(c:H b=some (.tup (k.map kV)))(a:RelV y u):
  KT H (putK kvs k y) (storedH xs k b u):=by
 have e:(kvs.any fun kv=>decide (kv.1=k))=(atKey xs k).isSome:=by
  rw[rW,(r.val k).iB,YI]
 unfold putK storedH;rw[e];by_cases q:(atKey xs k).isSome=true
 .rw[Vo q,Vo q];exact r.Ei k a
 .rw[Vm q,Vm q];exact Paired.snoc r ⟨rfl,c,a⟩
def KT.keeps(r:KT H kvs xs)(a:∀b ys,H b=some (.tup ys)->H' b=some (.tup ys)):KT H' kvs xs :=
 Paired.FC r fun _ _ z=>⟨z.1,a _ _ z.2.1,z.2.2⟩
def zB{k:Int×Bool}{us:List Value}(r:Vals (kB k) us):ItemsAre (zz P w) (kl k) us:=by
 cases r with
 |cons h1 a =>
  cases a with
  |cons h2 b =>
   cases b;obtain⟨t,rfl⟩:=(show ∃t,_=Value.int k.1 t from h1);cases (show _=Value.bool k.2 from h2);exact .cons (by show(k.1==k.1)=true;simp) (.cons (by show(bI k.2==bI k.2)=true;simp) .nil)
abbrev KB(H:Hp):List ((Int×Bool)×V)->List ((Int×Bool)×Addr×Value)->Prop:=Paired fun p q=>p.1=q.1/\H q.2.1=some (.tup (kB p.1))/\RelV p.2 q.2.2
def KB.val{H:Hp}{kvs:List ((Int×Bool)×V)}{xs:List ((Int×Bool)×Addr×Value)}(r:KB H kvs xs)(k:Int×Bool):yj (kE kvs k) ((atKey xs k).map (·.2)):=by
 induction r with
 |nil=>exact True.intro
 |@cons p q ps c h t d =>
  obtain⟨h1,_,h2⟩:=h;by_cases e:p.1=k
  .have a:q.1=k:=h1.symm.trans e;have b:atKey (q::c) k=some q.2:=by simp[atKey,Xl,a]
   rw[jN e,b];exact h2
  .have a:¬q.1=k:=fun z=>e (h1.trans z);have b:atKey (q::c) k=atKey c k:=by simp[atKey,Xl,a]
   rw[j6 e,b];exact d
def KB.Ei{kvs:List ((Int×Bool)×V)}{xs:List ((Int×Bool)×Addr×Value)}(r:KB H kvs xs)(k:Int×Bool)(b:RelV y u):
  KB H (kvs.map fun kv=>if kv.1=k then (kv.1,y) else kv) (xs.map (putAt k u)):=by
 induction r with
 |nil=>exact .nil
 |@cons p q ps d h t a =>
  rw[Wa,Wa];refine .cons ?_ a;obtain⟨h1,h2,c⟩:=h;unfold putAt;by_cases e:p.1=k
  .rw[Vo e,Vo (h1.symm.trans e)];exact⟨h1,h2,b⟩
  .rw[Vm e,Vm (fun z=>e (h1.trans z))];exact⟨h1,h2,c⟩
def KB.put{kvs:List ((Int×Bool)×V)}{xs:List ((Int×Bool)×Addr×Value)}(r:KB H kvs xs)(k:Int×Bool){b:Addr}(c:H b=some (.tup (kB k)))(a:RelV y u):
  KB H (putK kvs k y) (storedH xs k b u):=by
 have e:(kvs.any fun kv=>decide (kv.1=k))=(atKey xs k).isSome:=by
  rw[rW,(r.val k).iB,YI]
 unfold putK storedH;rw[e];by_cases q:(atKey xs k).isSome=true
 .rw[Vo q,Vo q];exact r.Ei k a
 .rw[Vm q,Vm q];exact Paired.snoc r ⟨rfl,c,a⟩
def KB.keeps{kvs:List ((Int×Bool)×V)}{xs:List ((Int×Bool)×Addr×Value)}(r:KB H kvs xs)(a:∀b ys,H b=some (.tup ys)->H' b=some (.tup ys)):KB H' kvs xs :=
 Paired.FC r fun _ _ z=>⟨z.1,a _ _ z.2.1,z.2.2⟩
section
variable{P:Program}{w:World}{H:Hp}{h:Heap}{a:Addr}
def Ai{u:HO}(ok:kJ P w H h)(e:Rd H a u):bP P w H h a u:=e.ok ok
def Jj{kvs:List (Key×V)}(ok:kJ P w H h)(e:Rd H a (.dK kvs)):kvs.length<=sizeLine/\(a==sysModules)=false/\∃vs,KV kvs vs/\h.DictOf (da P w) a vs :=
 show bP P w H h a (.dK kvs) from Ai ok e
def MZ{kvs:List (Key×V)}(ok:kJ P w H h)(e:H a=some (.dK kvs)):kvs.length<=sizeLine/\(a==sysModules)=false/\∃vs,KV kvs vs/\h.DictOf (da P w) a vs:=Jj ok (.inl e)
def zC{ks:List Key}(ok:kJ P w H h)(e:H a=some (.tup (ks.map kV))):(tupleKind (da P w)).is h ks a:=by
 obtain⟨_,its,r,o,h1,h2,n,b⟩:=(show bP P w H h a (.tup (ks.map kV)) from ok a _ e);exact⟨o,its.toArray,n,h1,h2,b,by simpa using uh r⟩
def IV(ok:kJ P w H h)(e:Rd H a (.dT kvs)):kvs.length<=sizeLine/\(a==sysModules)=false /\
  ∃xs,KT H kvs xs/\h.DictOfH (tupleKind (da P w)) a xs:=by
 obtain⟨z,y,xs,r,o,es,ep,h1,h2,i,f,g⟩:=(show bP P w H h a (.dT kvs) from Ai ok e);refine⟨z,y,xs,r,o,es,ep,h1,h2,i,f,fun x b=>?_,g⟩
 have all:∀{l:List (List Key×V)} {m:List (List Key×Addr×Value)},KT H l m->∀x∈m,(tupleKind (da P w)).is h x.1 x.2.1:=by
  intro l m q
  induction q with
  |nil=>intro x b;exact nomatch b
  |@cons p q ps j c t d =>
   intro x b;rcases Vq.mp b with e|b
   .subst e;exact zC ok (by rw[<-c.1];exact c.2.1)
   .exact d x b
 exact all r x b
def Oe(ok:kJ P w H h)(e:H a=some (.dT kvs)):kvs.length<=sizeLine/\(a==sysModules)=false /\
  ∃xs,KT H kvs xs/\h.DictOfH (tupleKind (da P w)) a xs:=IV ok (.inl e)
def p5{ks:Int×Bool}(ok:kJ P w H h)(e:H a=some (.tup (kB ks))):(gE P w).is h ks a:=by
 obtain⟨_,its,r,o,h1,h2,n,b⟩:=(show bP P w H h a (.tup (kB ks)) from ok a _ e);exact⟨o,its.toArray,n,h1,h2,b,by simpa using zB r⟩
def Jz{kvs:List ((Int×Bool)×V)}(ok:kJ P w H h)(e:Rd H a (.dB kvs)):kvs.length<=sizeLine/\(a==sysModules)=false /\
  ∃xs,KB H kvs xs/\h.DictOfH (gE P w) a xs:=by
 obtain⟨z,y,xs,r,o,es,ep,h1,h2,i,f,g⟩:=(show bP P w H h a (.dB kvs) from Ai ok e);refine⟨z,y,xs,r,o,es,ep,h1,h2,i,f,fun x b=>?_,g⟩
 have all:∀{l:List ((Int×Bool)×V)} {m:List ((Int×Bool)×Addr×Value)},KB H l m->∀x∈m,(gE P w).is h x.1 x.2.1:=by
  intro l m q
  induction q with
  |nil=>intro x b;exact nomatch b
  |@cons p q ps j c t d =>
   intro x b;rcases Vq.mp b with e|b
   .subst e;exact p5 ok (by rw[<-c.1];exact c.2.1)
   .exact d x b
 exact all r x b
def JE{kvs:List ((Int×Bool)×V)}(ok:kJ P w H h)(e:H a=some (.dB kvs)):kvs.length<=sizeLine/\(a==sysModules)=false /\
  ∃xs,KB H kvs xs/\h.DictOfH (gE P w) a xs:=Jz ok (.inl e)
end
def Nl(H:Hp)(a:Addr)(y:V)(r:Option V):Prop :=
 (∃kvs k,Rd H a (.dK kvs)/\y=kV k/\r=kE kvs k)\/(∃kvs k b,Rd H a (.dT kvs)/\y=.ref b/\H b=some (.tup (k.map kV))/\r=kE kvs k) \/
 ∃kvs k b,Rd H a (.dB kvs)/\y=.ref b/\H b=some (.tup (kB k))/\r=kE kvs k
def Kf(H:Hp)(a:Addr)(y v:V)(H':Hp):Prop :=
 (∃kvs k,H a=some (.dK kvs)/\y=kV k/\kvs.length<sizeLine/\H'=upd H a (.dK (putK kvs k v))) \/
 (∃kvs k b,H a=some (.dT kvs)/\y=.ref b/\H b=some (.tup (k.map kV))/\kvs.length<sizeLine/\H'=upd H a (.dT (putK kvs k v))) \/
 ∃kvs k b,H a=some (.dB kvs)/\y=.ref b/\H b=some (.tup (kB k))/\kvs.length<sizeLine/\H'=upd H a (.dB (putK kvs k v))
section
variable{X:Cx}{pins:List (Addr×Obj)}{σ:St}{H:Hp}{s:Shared}{a:Addr}{y v:V}{u r:Value}{o:Option V}{A:Around}{E:Value->Shared->Prop}
def Inv.big(I:Inv X pins σ H s):sysModules<s.heap.objs.size:=by
 have h:mainGlobals<s.heap.objs.size:=(I.mod.glob.keeps I.bk).lt;exact aav (by decide) h
def Ip{Q:Value->Shared->Prop}(m:A.units+1<cLine)(I:Inv X pins σ H s)(g:Nl H a y o)(i:RelV y u)(h:∀s',Inv X pins σ H s'->Q (.bool (!o.isSome)) s'):
  wpAny (model X.prog X.w) A (compareOp .NotIn u (.ref a)) Q E s:=by
 rcases g with⟨kvs,k,e,d,l⟩|⟨kvs,k,b,e,d,j,l⟩|⟨kvs,k,b,e,d,j,l⟩
 .subst d;obtain⟨z,f,vs,rel,c⟩:=Jj I.hok e;refine wpAny_notIn_of (DD i) f c.mapOf ?_;rw[<-(rel.val k).iB,<-l];exact h _ (I.tok _)
 .subst d;cases (show u=Value.ref b from i);obtain⟨z,f,xs,rel,c⟩:=IV I.hok e;refine wpAny_notIn_heap (tupleKind_room_in1 m) (zC I.hok j) f c ?_;have q:=(rel.val k).iB;rw[YI] at q;rw[<-q,<-l];exact h _ (I.tok _)
 .subst d;cases (show u=Value.ref b from i);obtain⟨z,f,xs,rel,c⟩:=Jz I.hok e;refine wpAny_notIn_heap (kP m) (p5 I.hok j) f c ?_;have q:=(rel.val k).iB;rw[YI] at q;rw[<-q,<-l];exact h _ (I.tok _)
def pM{h':Heap}{t':Nat}{ob:HO}(I:Inv X pins σ H s)(d:NS (H a))(c:Heap.SameBut a s.heap h')(he:∃q,h'.get? a=some q)(new:bP X.prog X.w (upd H a ob) h' a ob):
  Inv X pins σ (upd H a ob) {s with heap:=h',toks:=t'} :=
 I.write (x:=a) (e:=a) d (.inl rfl) (fun b q f z=>(c.2 b f).trans z) he new
def KD{h':Heap}{kvs:List (Key×V)}{vs:List (Key×Value)}(z:kvs.length<=sizeLine)(c:(a==sysModules)=false)(rel:KV kvs vs)(b:h'.DictOf (da P w) a vs):
  bP P w H' h' a (.dK kvs):=⟨z,c,vs,rel,b⟩
def BB{Q:Unit->Shared->Prop}(G:A.units+1<cLine)(I:Inv X pins σ H s)(g:Kf H a y v H')(B:RelV y u)(D:RelV v r)(h:∀s',Inv X pins σ H' s'->Q () s'):
  wpAny (model X.prog X.w) A (setItem (.ref a) u r) Q E s:=by
 rcases g with⟨kvs,k,e,n,l,p⟩|⟨kvs,k,b,e,n,t,l,p⟩|⟨kvs,k,b,e,n,t,l,p⟩
 .subst n p;obtain⟨z,o,vs,rel,m⟩:=MZ I.hok e;have hz:vs.length<=sizeLine:=by rw[<-rel.length];exact z
  have j:(putK kvs k v).length<=sizeLine:=by have:=j0 kvs k v;lia
  refine wpAny_setItem_pairs (hsz:=hz) (DD B) m fun h' d i=>h _ ?_;have he:∃q,h'.get? a=some q:=let ⟨q,_,_,f,_⟩:=d;⟨q,f⟩;exact pM I (by rw[e];exact True.intro) i he (KD j o (rel.put k D) d)
 .subst n p;cases (show u=Value.ref b from B);obtain⟨z,o,xs,rel,m⟩:=Oe I.hok e;have hz:xs.length<=sizeLine:=by rw[<-Yq rel];exact z
  have j:(putK kvs k v).length<=sizeLine:=by have:=j0 kvs k v;lia
  refine wpAny_setItem_heap (hsz:=hz) (tupleKind_room_in1 G) (zC I.hok t) m fun h' d i=>h _ ?_;obtain⟨q,es,ep,f,h2,F,C,_,x⟩:=d;refine pM I (by rw[e];exact True.intro) i ⟨q,f⟩ ⟨j,o,_,(rel.put k t D).keeps fun c ys ec=>?_,q,es,ep,f,h2,F,C,x⟩;rw[aA (E8 ec e (fun z=>nomatch z))];exact ec
 .subst n p;cases (show u=Value.ref b from B);obtain⟨z,o,xs,rel,m⟩:=JE I.hok e;have hz:xs.length<=sizeLine:=by rw[<-Yq rel];exact z
  have j:(putK kvs k v).length<=sizeLine:=by have:=j0 kvs k v;lia
  refine wpAny_setItem_heap (hsz:=hz) (kP G) (p5 I.hok t) m fun h' d i=>h _ ?_;obtain⟨q,es,ep,f,h2,F,C,_,x⟩:=d;refine pM I (by rw[e];exact True.intro) i ⟨q,f⟩ ⟨j,o,_,(rel.put k t D).keeps fun c ys ec=>?_,q,es,ep,f,h2,F,C,x⟩;rw[aA (E8 ec e (fun z=>nomatch z))];exact ec
variable{kvs:List (Key×V)}{k:Key}
end
def N6(td ty tv:TE):TS:=fun D σ H=>tv σ H fun v H1=>td σ H1 fun x H2=>ty σ H2 fun y c=>∃a b,x=.ref a/\Kf c a y v b/\D.nx σ b
section
variable{X:Cx}{o i e value:Expr}{pos pos' tpos:Pos}{td ty tv:TE}
def Gr(n:X.A.units+1<cLine)(p:PE X o td)(hi:PE X i ty)(e:PE X value tv)(b:swapsWith value (some (.Subscript o i pos')) pos.line X.env=pure false):
  PS X (.Assign [.Subscript o i pos'] value pos) (N6 td ty tv):=by
 intro pins s σ H D I h;refine wpAny_Assign_Subscript (b8 (e pins s σ H _ I h) fun r B ⟨v,H1,z,w,q1⟩=>b8 (p pins B σ H1 _ z q1) fun u l ⟨x,H2,t,c,f⟩=>b8 (hi pins l σ H2 _ t f) fun C G ⟨y,F,m,q,a,d,ex,g,k⟩=>?_) b;subst ex;obtain rfl:u=Value.ref a:=c;exact BB n m g q w fun E j=>⟨σ,d,j,k⟩
end
def v8(h:Heap)(a:sysModules<h.objs.size):bP P w H (h.push {cls:=.type "dict",data:=.dict #[]}) h.objs.size (.dB []) :=
 ⟨Wn _,ZI.mpr (Yi (V2 a)),[],.nil,_,#[],0,VM _ rfl,⟨rfl,rfl,rfl⟩,rfl,rfl,YK⟩
def Mu:TE:=fun _ H Q=>∀p,H p=none->Q (.ref p) (upd H p (.dB []))
section
variable{X:Cx}{pos:Pos}
def EB:PE X (.Dict [] [] pos) Mu:=fun pins s σ H Q I h =>
 wpAny_Dict_empty ⟨V.ref s.heap.objs.size,_,I.laid (a:=s.heap.objs.size) (o:=.dB []) (t':=s.toks) (fun _ _ q=>Vt _ q) (Vu _) (v8 s.heap I.big),rfl,h _ (I.hok.fresh (Vu _))⟩
variable{pins:List (Addr×Obj)}{σ:St}{H:Hp}{s:Shared}{a:Addr}{y d:V}{u r:Value}{o:Option V}{A:Around}{E:Value->Shared->Prop}
end
section
variable{X:Cx}{o e f:Expr}{apos cpos:Pos}{td ty tx:TE}
variable{pins:List (Addr×Obj)}{σ:St}{H:Hp}{s:Shared}{a:Addr}{kvs:List (Key×V)}{A:Around}{E:Value->Shared->Prop}
variable{y:V}{u:Value}
end
end L2
namespace L2.EP
open PySem PySem.Spec PyProof.Rows
section
variable{X:Cx}{Γ:aL}{D:GD}{α β γ:Type}[Py α][Py β][Py γ]{e e1 e2 ek:Expr}{b b1 b2:Bool}{pos:Pos}{rest st:List Stmt}
def Iw(c:X.A.units+1<cLine):ku X (compareOp .NotIn) (fun x y H Q=>∃a o,y=.ref a/\Nl H a x o/\Q (.bl (!o.isSome)) H):=by
 intro pins s σ H x y v u Q I b d h;obtain⟨a,o,rfl,g,q⟩:=h;cases d;exact Ip c I g b fun s' e=>⟨.bl _,H,e,rfl,q⟩
def AA(i j:Nat){x y:Str}{a p2 g:Pos}{k:Nat}(d:X.N.Nodup)(n:X.calm=true:=by rfl)(hi:X.N[i]?=some x:=by rfl)(h:X.N[j]?=some y:=by rfl)
  (p:Loc X.env.scope x:=by first|exact Or.inl rfl|exact Or.inr rfl) (l:Loc X.env.scope y:=by first|exact Or.inl rfl|exact Or.inr rfl)
  (f:X.fn x=true\/X.env.scope.names.lookup x=some .local:=by first|exact .inl rfl|exact .inr rfl) (c:X.fn y=true\/X.env.scope.names.lookup y=some .local:=by first|exact .inl rfl|exact .inr rfl)
  (q:(assignEach [.Name x a,.Name y p2] X.env).length=2:=by rfl)
  (e:(assignEach [.Name x a,.Name y p2] X.env).findIdx? (·.1)=none:=by rfl) (m:assignEach [.Name x a,.Name y p2] X.env=(false,assign (.Name x a) X.env)::assignEach [.Name y p2] X.env:=by rfl) (o:assignEach [.Name y p2] X.env=(false,assign (.Name y p2) X.env)::assignEach [] X.env:=by rfl):
  G X (.Tuple [.Name x a,.Name y p2] k g) (GQ X.K 2 (rE (jR i) (rE (jR j) Gs))) (α×β) (fun b u Γ=>(Γ.set i (some (.val b u.1))).set j (some (.val b u.2))) (fun k=>k=i\/k=j):=by
 with_unfolding_all
  exact⟨C_ n (lO (lL d hi p f) (lO (lL d h l c) Be)),Dt i j⟩
end
variable{x:Str}
def Bd.wk:Bd->Bd
 |@Bd.val _ _ _ a=>.val false a
 |@Bd.own _ _ _ as=>.own false as
 |@Bd.dpo _ _ a=>.dpo a
def MJ(Γ:aL):aL:=Γ.map (Option.map Bd.wk)
def Am{Γ:aL}{i:Nat}{g:Bd}(h:(MJ Γ)[i]?=some (some g)):∃a,Γ[i]?=some (some a)/\g=a.wk:=by
 unfold MJ at h;rw[VJ] at h;cases e:Γ[i]? with
 |none=>rw[e] at h;cases h
 |some o =>
  cases o with
  |none=>rw[e] at h;cases h
  |some a=>rw[e] at h;cases h;exact⟨a,rfl,rfl⟩
section
variable{K:PySem.W.Frag}{H0 H H':Hp}{F O:Addr->Prop}{Γ:aL}{σ:St}{a:Addr}{u:HO}{kvs:List (Key×V)}{o:Obj}
def off_ne{H H':Hp}(ne:∀b,b≠a->H' b=H b):∀b,b≠a->off H' O b=off H O b:=fun b c=>by
 by_cases h:O b
 .rw[l4 h,l4 h]
 .rw[aT h,aT h,ne b c]
variable{X:Cx}{D:GD}{α β γ:Type}[Py α][Py β][Py γ]{e e1 e2 tg:Expr}{b b1 b2:Bool}{pos:Pos}{rest body:List Stmt}
variable{e3:Expr}{b3:Bool}{st:List Stmt}
def KY{xs:List α}{i:Int}{a:α}(ha:E X Γ e1 b (yo.mk xs))(y:E X Γ e2 b2 i)(h:zv xs i=some a)(l:pZ e2:=by intro _ _;rfl):E X Γ (.Subscript e1 e2 pos) b a:=by
 with_unfolding_all
  exact aN (wG yW ha y l) fun σ H Q ⟨H0,F,O,S,q⟩=>⟨H0,F,O,S,fun v H1 g n=>⟨H0,F,O,S.go g,fun w H2 c u=>by
    obtain⟨p,vs,e,o,r⟩:=n;obtain⟨j,h1,h2,B,A,z⟩:=my h;obtain⟨x,s,m⟩:=j4 r h2;refine⟨p,vs,i,x,e,u,(cK (au _ _) (cK (ah c) o)).t,?_,q x H2 (g.trans c) (aw (ah c) m)⟩;unfold zv at h ⊢;rw[bL r];cases f:Cr xs.length i with
    |none=>rw[f] at h;cases h
    |some k =>
     have d:=(lU f).1;rw[h1] at d;cases d
     exact s⟩⟩
end
instance:PyD (Int⊕(Int×Int)) where
 dat a:=match a with|.inl i=>.int i|.inr u=>.tuple [.int u.1,.int u.2]
 dr {K N H v a} h:=by
  cases a with
  |inl i=>exact PyD.dr (α:=Int) (N:=N) h
  |inr u=>exact PyD.dr (α:=Int×Int) (N:=N) h
 lay a:=by
  cases a with
  |inl i=>exact PyD.lay (α:=Int) i
  |inr u=>exact PyD.lay (α:=Int×Int) u
 dep:=PyD.dep (Int×Int)
 depth a:=by
  cases a with
  |inl i=>exact V7 (PyD.depth (α:=Int) i) (Wn _)
  |inr u=>exact PyD.depth (α:=Int×Int) u
 eqv a b:=by
  cases a with
  |inl i=>cases b with
   |inl j=>exact(PyD.eqv (α:=Int) i j).trans ⟨fun h=>by rw[h],fun h=>by injection h⟩
   |inr u=>simp[PyData.eqv]
  |inr v=>cases b with
   |inl j=>simp[PyData.eqv]
   |inr u=>exact(PyD.eqv (α:=Int×Int) v u).trans ⟨fun h=>by rw[h],fun h=>by injection h⟩
section
variable{X:Cx}{Γ:aL}{D:GD}{α β γ:Type}[Py α][Py β][Py γ]{e e1 e2 ek:Expr}{b b1 b2:Bool}{pos:Pos}{rest st:List Stmt}
def Dg(i:Nat){as:List α}{a:α}{k:Int}{p c:Pos}(t:Γ[i]?=some (some (.own b as)))(G:E X Γ ek b2 k)(he:E X Γ e b a)(C:0<=k)(L:k<as.length)(h:S X (Γ.set i (some (.own b (as.set k.toNat a)))) rest D)(hi:X.N[i]?=some x:=by rfl)
  (B:Hh X.env.scope x:=by first|exact Or.inl rfl|exact Or.inr (Or.inl rfl)|exact Or.inr (Or.inr rfl)) (R:(x==("__debug__":Str))=false:=by decide) (l:(x==("__classdict__":Str))=false:=by decide)
  (ha:∀v,assign (.Subscript (.Name x p) ek c) X.env v=(do
   let f <-holding [v] (eval (.Name x p) X.env);let m <-holding [v,f] (eval ek X.env)
   standAt c
   holding [v,f,m] (setItem f m v)
   release [v,f,m] []):=by intro _;rfl)
  (w:swapsWithSole [.Subscript (.Name x p) ek c] e pos.line X.env=pure false:=by rfl) (hw:swappedStores [.Subscript (.Name x p) ek c] e X.env=pure none:=by rfl)
  (h1:(assignEach [.Subscript (.Name x p) ek c] X.env).map (·.2)=[assign (.Subscript (.Name x p) ek c) X.env]:=by rfl):S X Γ (.Assign [.Subscript (.Name x p) ek c] e pos::rest) D:=by
 with_unfolding_all
  exact eO (eC (J_ he (LP (pv i hi B R l) G set_list ha) w hw h1) fun De σ H ⟨H0,F,O,Z,n,_⟩=>⟨H0,F,O,Z,fun u H1 g J=>by
    obtain⟨v,T,d,_,_,_⟩:=(Z.go g).write t True.intro;refine⟨v,d,H0,F,O,Z.go g,fun y H3 r W=>?_⟩;obtain⟨U,T,BS,⟨q,ys,e1,o,P,s⟩,z,wr⟩:=(Z.go (g.trans r)).write t True.intro;rw[d] at BS;have ev:v=U:=VP (VP BS);subst ev;have Q:y=V.int k:=W;subst Q;have I:k<ys.length:=by rw[bL s];exact L
    have j:Cr ys.length k=some k.toNat:=by
     unfold Cr;rw[Vo C,Vo (by lia)]
    refine⟨q,ys,k,k.toNat,e1,rfl,P,j,?_⟩
    obtain⟨Y,A⟩:=wr q (ys.set k.toNat u) (some (.own b (as.set k.toNat a))) o fun M K=>by
     cases K;refine⟨True.intro,q,_,e1,o,aP,?_⟩;rw[pX (z q o).1];exact F0 (aw (ah r) J) k.toNat s
    exact n _ _ _ _ (by rw[A];exact ah (g.trans r)) Y h⟩)
variable{δ:Type}[Py δ]{e3:Expr}{b3:Bool}{p:Pos}{k:Nat}{name:Str}{ps:List Str}
def Oo{a:α}(h:EN X Γ e a):E X Γ e true a:=by
 with_unfolding_all
  exact aN h fun σ H Q ⟨H0,F,O,Z,q⟩=>⟨H0,F,O,Z,fun v H1 c b=>q v H1 c (mN Z.same b)⟩
def JO(o:Nat){as:List α}{i:Int}{a:α}{p:Pos}(g:Γ[o]?=some (some (.own b as)))(d:E X Γ e2 b2 i)(h:zv as i=some a)(hi:X.N[o]?=some x:=by rfl)
  (s:Hh X.env.scope x:=by first|exact Or.inl rfl|exact Or.inr (Or.inl rfl)|exact Or.inr (Or.inr rfl)) (u:(x==("__debug__":Str))=false:=by decide) (e:(x==("__classdict__":Str))=false:=by decide)
  (n:pZ e2:=by intro _ _;rfl):E X Γ (.Subscript (.Name x p) e2 pos) b a:=by
 with_unfolding_all
  exact aN (wG zX (pv o hi s u e) d n) fun σ H Q ⟨H0,F,O,Z,q⟩=>by
   obtain⟨v,A,c,_,_,_⟩:=Z.write g True.intro;refine⟨v,c,H0,F,O,Z,fun w H2 l z=>?_⟩;obtain⟨B,A,BS,⟨D,ys,e1,G,t,f⟩,_,_⟩:=(Z.go l).write g True.intro;rw[c] at BS;have ev:v=B:=VP (VP BS);subst ev;obtain⟨j,h1,h2,K,J,I⟩:=my h;obtain⟨y,C,r⟩:=j4 f h2;refine⟨D,ys,i,y,e1,z,dX.of t,?_,q y H2 l r⟩;unfold zv at h ⊢;rw[bL f];cases m:Cr as.length i with
   |none=>rw[m] at h;cases h
   |some k =>
    have d:=(lU m).1;rw[h1] at d;cases d;exact C
end
section
variable{X:Cx}{Γ:aL}{D:GD}{α β γ:Type}[Py α][Py β][Py γ]{elt target iter c:Expr}{b b' b1:Bool}{pos:Pos}{scope:Scope}{tn:List Str}{js:List Nat}{g:TG}{tc:Nat->Prop}{put:Bool->α->aL->aL}{as:List α}{f:α->β}{p:α->Bool}{ifs:List Expr}
variable{M:Model}{A:Around}{E:Value->Shared->Prop}{s:Shared}{base:Heap}{env:Env}{outer:List Env}{L C e:Addr}
variable{pins:List (Addr×Obj)}{σ:St}{H H':Hp}{h':Heap}
end
section
variable{X:Cx}{pins:List (Addr×Obj)}{σ:St}{H:Hp}{s s':Shared}{E:XK}
variable{R:RB}{Γ:aL}{D:GD}{α β γ:Type}[Py α][Py β][Py γ]{e e1 e2 e3:Expr}{b b1 b2 b3:Bool}{p pos np cpos cps:Pos}{st:Stmt}{rest body orelse:List Stmt}{C:Addr}{cn:Str}
variable{es:List Expr}{f:Addr}{x name:Str}{k:Nat}{ps:List Str}{fd:FuncData}{t:TA}{sp:Sp}
variable{P:Program}{w:World}{K:PySem.W.Frag}{mg:Str->Option Value}{base:Heap}{N:List Str}{qual:Str}
end
mutual
inductive DN(K:PySem.W.Frag)(N:Nn)(H:Hp):V->PyData->Prop
 |non:DN K N H .non .none
 |bl (b:Bool):DN K N H (.bl b) (.bool b)
 |int (i:Int):DN K N H (.int i) (.int i)
 |str (x:Str):DN K N H (.str x) (.str x)
 |lst {a:Addr} {xs:List V} {ds:List PyData}:dX K H a xs->N.has H a (.inl xs)->ya K N H xs ds->DN K N H (.ref a) (.list ds)
 |tup {a:Addr} {xs:List V} {ds:List PyData}:Rt H a xs->ya K N H xs ds->DN K N H (.ref a) (.tuple ds)
inductive ya(K:PySem.W.Frag)(N:Nn)(H:Hp):List V->List PyData->Prop
 |nil:ya K N H [] []
 |cons {x:V} {xs:List V} {d:PyData} {ds:List PyData}:DN K N H x d->ya K N H xs ds->ya K N H (x::xs) (d::ds)
end
mutual
theorem DN.tr{K:PySem.W.Frag}{N N':Nn}{H H':Hp}(l:∀p (o:Mt),Mo K H p o->N.has H p o->Mo K H' p o/\N'.has H' p o)(t:∀p xs,Rt H p xs->Rt H' p xs):∀{v:V} {d:PyData},DN K N H v d->DN K N' H' v d
 |_,_,.non=>.non
 |_,_,.bl b=>.bl b
 |_,_,.int i=>.int i
 |_,_,.str x=>.str x
 |_,_,.lst (xs:=xs) s n r=>.lst (l _ (.inl xs) s n).1 (l _ (.inl xs) s n).2 (ya.tr l t r)
 |_,_,.tup s r=>.tup (t _ _ s) (ya.tr l t r)
theorem ya.tr{K:PySem.W.Frag}{N N':Nn}{H H':Hp}(l:∀p (o:Mt),Mo K H p o->N.has H p o->Mo K H' p o/\N'.has H' p o)(t:∀p xs,Rt H p xs->Rt H' p xs):∀{v:List V} {d:List PyData},ya K N H v d->ya K N' H' v d
 |_,_,.nil=>.nil
 |_,_,.cons h r=>.cons (DN.tr l t h) (ya.tr l t r)
end
mutual
theorem DN.dr{K:PySem.W.Frag}{N:Nn}{H:Hp}:∀{v:V} {d:PyData},DN K N H v d->DR K H v d
 |_,_,.non=>.non
 |_,_,.bl b=>.bl b
 |_,_,.int i=>.int i
 |_,_,.str x=>.str x
 |_,_,.lst s _ r=>.lst s (ya.dr r)
 |_,_,.tup s r=>.tup (JQ.t (.inl s)) (ya.dr r)
theorem ya.dr{K:PySem.W.Frag}{N:Nn}{H:Hp}:∀{v:List V} {d:List PyData},ya K N H v d->Ce K H v d
 |_,_,.nil=>.nil
 |_,_,.cons h r=>.cons (DN.dr h) (ya.dr r)
end
section
variable{X:Cx}{Γ:aL}{α β:Type}[Py α][Py β]{e e1 e2:Expr}{b b1 b2:Bool}{p p2 pos:Pos}
def zO[PyT α]{xs:List α}{k:Int}(ha:E X Γ e1 b xs)(u:E X Γ e2 b2 k)(x:0<=k):E X Γ (.Subscript e1 (.Slice (some e2) none none p2) pos) true (xs.drop k.toNat):=by
 with_unfolding_all
  exact aN (mf vQ ha (qi u) qh) fun σ H Q ⟨H0,F,O,S,q⟩=>⟨H0,F,O,S,fun v H1 c m=>⟨H0,F,O,S.go c,fun w H2 a s=>by
    obtain⟨p,vs,e,o,n,r⟩:=m;refine⟨k,s,p,vs,e,(au _ _).seq ((ah a).seq o),fun l g=>?_⟩;obtain⟨h,i⟩:=cL (xs:=jt vs (some k) none) ((S.go c).go a) g;refine q _ _ (c.trans (a.trans h)) ⟨l,_,rfl,dX.of i,Nf.wk (b:=true) (((S.go c).go a).gU g) i,?_⟩
    have ec:jt vs (some k) none=vs.drop k.toNat:=by
     unfold jt;have j:k=((k.toNat:Nat):Int):=by lia
     rw[j,HT.qp,HT.mG];simp only[Int.toNat_natCast];by_cases d:k.toNat<=vs.length
     .rw[aaJ d,Xy (by rw[XT];exact Vu _)]
     .rw[aau (by lia),YE (Vu _),YE (by lia)];simp
    have f:=bB (fun _ _ z=>PyT.free (N':=Nf H0 true) (fun _ _ t=>aD.rt ((ah a).trans (ah h)) t) z) (vH k.toNat r);rw[<-ec] at f
    exact f⟩⟩
variable{D:GD}{γ:Type}[Py γ]{rest st:List Stmt}
end
@[irreducible] def EX{α:Type}[Py α](X:Cx)(Γ:aL)(e:Expr)(b:Bool)(post:α->Prop):Prop:=PE X e fun σ H Q=>∃H0 F O,dA X.K H0 F O Γ σ H/\∀a v H',post a->aD H H'->Py.rp X.K (Nf H0 b) (off H' O) v a->Q v H'
def wX{α:Type}[Py α](b:Bool)(post:α->Prop):GD:={nx:=fun _=>False,rt:=fun g=>∃a,post a/\g=.val b a}
def k6{α β:Type}[Py α][Py β](K:PySem.W.Frag)(pre:α->Prop)(b:Bool)(post:α->β->Prop):Sp:=fun vs H Q _=>∃O v a,nr H O/\vs=[v]/\Py.rp K .any (off H O) v a/\pre a/\∀z r H',post a z->aD H H'->Py.rp K (Nf H b) (off H' O) r z->Q r H'
def sJ{α β γ:Type}[Py α][Py β][Py γ](K:PySem.W.Frag)(pre:α->β->Prop)(b:Bool)(post:α->β->γ->Prop):Sp:=fun vs H Q _=>∃O v w a c,nr H O/\vs=[v,w]/\Py.rp K .any (off H O) v a/\Py.rp K .any (off H O) w c/\pre a c/\∀z r H',post a c z->aD H H'->Py.rp K (Nf H b) (off H' O) r z->Q r H'
def Cn{α β γ δ:Type}[Py α][Py β][Py γ][Py δ](K:PySem.W.Frag)(pre:α->β->γ->Prop)(b:Bool)(post:α->β->γ->δ->Prop):Sp:=fun vs H Q _=>∃O v w x a c d,nr H O/\vs=[v,w,x]/\Py.rp K .any (off H O) v a/\Py.rp K .any (off H O) w c/\Py.rp K .any (off H O) x d/\pre a c d/\∀z r H',post a c d z->aD H H'->Py.rp K (Nf H b) (off H' O) r z->Q r H'
section
variable{X:Cx}{Γ:aL}{D:GD}{α β γ δ:Type}[Py α][Py β][Py γ][Py δ]{e e1 e2 e3:Expr}{b b1 b2 b3:Bool}{p pos:Pos}{rest:List Stmt}{k:Nat}{name:Str}{ps:List Str}
def gq{pre:α->Prop}{post:α->β->Prop}{a:α}(C:aI X.prog X.w X.K X.mg X.base k name ps (k6 X.K pre b post))(f:dv k X.A)(g:Gl X name)(h1:E X Γ e1 b1 a)(hp:pre a)
  (c:starEach [e1] X.env=(false,eval e1 X.env)::starEach [] X.env:=by rfl) (d:(name==("__debug__":Str))=false:=by decide) (hpl:(backTo pos (starEach [] X.env)).any (·.1)=false:=by rfl):
  EX X Γ (.Call (.Name name p) [e1] [] pos) b (post a):=by
 with_unfolding_all
  obtain⟨l,fd,F,B,kp,m⟩:=C.ex
  exact aN (f9 F f g m kp B .nil kI (aB h1 bq c) d c hpl) fun σ H Q ⟨H0,F,O,S,q⟩=>⟨H0,F,O,S,fun i H1 e h =>
   ⟨O,i,a,(S.go e).own,rfl,bp br h,hp,fun z r H' hz s' j=>q z r H' hz (e.trans s') ((S.go e).back j)⟩⟩
def jy{pre:α->β->Prop}{post:α->β->γ->Prop}{a:α}{c:β}(C:aI X.prog X.w X.K X.mg X.base k name ps (sJ X.K pre b post))(j:dv k X.A)(l:Gl X name)(h1:E X Γ e1 b1 a)(h2:E X Γ e2 b2 c)(hp:pre a c)
  (d:starEach [e1,e2] X.env=(false,eval e1 X.env)::starEach [e2] X.env:=by rfl) (g:starEach [e2] X.env=(false,eval e2 X.env)::starEach [] X.env:=by rfl) (h:(name==("__debug__":Str))=false:=by decide) (hpl:(backTo pos (starEach [e2] X.env)).any (·.1)=false:=by rfl):
  EX X Γ (.Call (.Name name p) [e1,e2] [] pos) b (post a c):=by
 with_unfolding_all
  obtain⟨u,fd,F,B,kp,m⟩:=C.ex
  exact aN (f9 F j l m kp B .nil kI (aB h1 (aB h2 bq g) d) h d hpl) fun σ H Q ⟨H0,F,O,S,q⟩=>⟨H0,F,O,S,fun s H1 f n=>⟨H0,F,O,S.go f,fun i H2 e o =>
   ⟨O,s,i,a,c,(S.go (f.trans e)).own,rfl,bp br (aw (ah e) n),bp br o,hp,fun z r H' hz s' t=>q z r H' hz (f.trans (e.trans s')) ((S.go (f.trans e)).back t)⟩⟩⟩
def v7{pre:α->β->γ->Prop}{post:α->β->γ->δ->Prop}{a:α}{c:β}{d:γ}(C:aI X.prog X.w X.K X.mg X.base k name ps (Cn X.K pre b post))(o:dv k X.A)(s:Gl X name)(h1:E X Γ e1 b1 a)(h2:E X Γ e2 b2 c)(G:E X Γ e3 b3 d)(hp:pre a c d)
  (e:starEach [e1,e2,e3] X.env=(false,eval e1 X.env)::starEach [e2,e3] X.env:=by rfl) (i:starEach [e2,e3] X.env=(false,eval e2 X.env)::starEach [e3] X.env:=by rfl) (l:starEach [e3] X.env=(false,eval e3 X.env)::starEach [] X.env:=by rfl)
  (j:(name==("__debug__":Str))=false:=by decide) (hpl:(backTo pos (starEach [e2,e3] X.env)).any (·.1)=false:=by rfl):
  EX X Γ (.Call (.Name name p) [e1,e2,e3] [] pos) b (post a c d):=by
 with_unfolding_all
  obtain⟨I,fd,F,B,kp,m⟩:=C.ex
  exact aN (f9 F o s m kp B .nil kI (aB h1 (aB h2 (aB G bq l) i) e) j e hpl) fun σ H Q ⟨H0,F,O,S,q⟩=>⟨H0,F,O,S,fun x H1 h u=>⟨H0,F,O,S.go h,fun n H2 g v=>⟨H0,F,O,S.go (h.trans g),fun D J f t =>
   ⟨O,x,n,D,a,c,d,(S.go (h.trans (g.trans f))).own,rfl,bp br (aw ((ah g).trans (ah f)) u),bp br (aw (ah f) v),bp br t,hp,fun z r H' hz s' y=>q z r H' hz (h.trans (g.trans (f.trans s'))) ((S.go (h.trans (g.trans f))).back y)⟩⟩⟩⟩
def g_(i:Nat){post:α->Prop}{p:Pos}(g:X.N.Nodup)(he:EX X Γ e b post)(h:∀a,post a->S X (Γ.set i (some (.val b a))) rest D)(hi:X.N[i]?=some x:=by rfl)(k:Loc X.env.scope x:=by first|exact Or.inl rfl|exact Or.inr rfl)
  (d:swapsWith e (some (.Name x p)) pos.line X.env=pure false:=by rfl) (f:X.fn x=true\/X.env.scope.names.lookup x=some .local:=by first|exact .inl rfl|exact .inr rfl):S X Γ (.Assign [.Name x p] e pos::rest) D:=by
 with_unfolding_all
  exact eO (eC (uQ g hi k he d f) fun l σ H ⟨H0,F,O,Z,n,_⟩=>⟨H0,F,O,Z,fun a v H1 hz c j=>n _ _ H1 O (ah c) ((Z.go c).set j) (h a hz)⟩)
variable{P:Program}{w:World}{K:PySem.W.Frag}{mg:Str->Option Value}{base:Heap}{N:List Str}{x qual:Str}{st:Stmt}{f:Addr}{fd:FuncData}
def ko{gs:List Bd}{vs:List V}{H:Hp}{O:Addr->Prop}{α:Type}[Py α]{b:Bool}{post:α->Prop}{Q:VK}{c:Value}{A:Around}{outer:List Env}{s:Shared}{E:XK}(B:Body P w K mg base N qual st f k gs (wX b post))(i:dv k (A.deeper (envOfC qual (ag st) s.heap.objs.size f c)))
  (d:nr H O) (h:Args K (off H O) vs gs) (q:∀a r H',post a->aD H H'->Py.rp K (Nf H b) (off H' O) r a->Q r H'):
  ∃t,p4 (sM oo P w K mg base N qual (ag st) f c A outer s H E).JK (bR st) t/\t {nx:=fun _ H'=>Q .non H',rt:=Q} (start N vs) H:=by
 with_unfolding_all
  refine⟨_,B c A outer s H E i,H,O,O,nX d h,fun _ _ _ _ _ _ z=>z.elim,fun g v H' sm z e=>?_,fun _ _ _ _ _ _ z=>z.elim,fun _ _ _ _ _ _ z=>z.elim⟩;obtain⟨a,ha,j⟩:=e;subst j;exact q a v H' ha sm z
def BJ{α β:Type}[Py α][Py β]{pre:α->Prop}{b:Bool}{post:α->β->Prop}(F:se K x qual st f fd)(g:aj N ps (ag st))(i:ps.length=1)(B:∀a,pre a->Body P w K mg base N qual st f k [.val false a] (wX b (post a))):
  ff P w K mg base oo (k+1) f fd ps (k6 K pre b post):=by
 with_unfolding_all
  refine F.ok g (fun vs H Q E h=>?_) fun c A outer s H vs Q E e h=>?_
  .obtain⟨O,v,a,_,rfl,_⟩:=h;rw[i];rfl
  .obtain⟨O,v,a,d,rfl,r,hp,q⟩:=h;exact ko (B a hp) e d (.cons r .nil) q
def HK{α β γ:Type}[Py α][Py β][Py γ]{pre:α->β->Prop}{b:Bool}{post:α->β->γ->Prop}(F:se K x qual st f fd)(l:aj N ps (ag st))(g:ps.length=2)(B:∀a c,pre a c->Body P w K mg base N qual st f k [.val false a,.val false c] (wX b (post a c))):
  ff P w K mg base oo (k+1) f fd ps (sJ K pre b post):=by
 with_unfolding_all
  refine F.ok l (fun vs H Q E h=>?_) fun m A outer s H vs Q E e h=>?_
  .obtain⟨O,v,d,a,c,_,rfl,_⟩:=h;rw[g];rfl
  .obtain⟨O,v,d,a,c,i,rfl,r,j,hp,q⟩:=h;exact ko (B a c hp) e i (.cons r (.cons j .nil)) q
def Nz{α β γ δ:Type}[Py α][Py β][Py γ][Py δ]{pre:α->β->γ->Prop}{b:Bool}{post:α->β->γ->δ->Prop}(F:se K x qual st f fd)(o:aj N ps (ag st))(j:ps.length=3)(B:∀a c d,pre a c d->Body P w K mg base N qual st f k [.val false a,.val false c,.val false d] (wX b (post a c d))):
  ff P w K mg base oo (k+1) f fd ps (Cn K pre b post):=by
 with_unfolding_all
  refine F.ok o (fun vs H Q E h=>?_) fun p A outer s H vs Q E g h=>?_
  .obtain⟨O,v,e,n,a,c,d,_,rfl,_⟩:=h;rw[j];rfl
  .obtain⟨O,v,e,n,a,c,d,l,rfl,r,m,i,hp,q⟩:=h;exact ko (B a c d hp) g l (.cons r (.cons m (.cons i .nil))) q
end
end L2.EP
namespace L2
open PySem PySem.Spec PyProof.Rows
section
variable{prog:Program}{w:World}{A:Around}{E:Value->Shared->Prop}{s:Shared}{d it:Addr}{o od:Obj}{es:Array DictEntry}{ep i:Nat}
def Fx{Q:Value->Shared->Prop}(e:(d==sysModules)=false)(c:s.heap.get? d=some o)(g:o.ExactDict)(a:o.data=.dict es ep)
  (f:Q (.ref s.heap.objs.size) {s with heap:=s.heap.push {cls:=.type "dict_keyiterator",data:=.fields #[.ref d,.int 0 0,.int es.size 0,.int ep 0]}}):
  wpAny (model prog w) A (pyIter (.ref d)) Q E s:=by
 have b:s.TypeIs (.ref d) "dict":=⟨o,c,g.1⟩;refine aab b F.slot_dict_iter (WW F.slot_dict_iter b F.entry_dict_iter ?_ (F.args_dict_iter_1 _));unfold Builtin.«dict.__iter__»;refine Vl ?_;unfold Builtin.Dict.dictSlotNone;refine Vl (wpAny_notOrdered_dict b ?_);show wpAny _ _ (pure (Value.ref d)) _ _ s;refine Vp ?_;show wpAny _ _ (Builtin.Dict.showsAll d >>= _) _ _ s;unfold Builtin.Dict.showsAll;rw[Vm (by rw[e];exact VO)];refine Vl (Vp (Vl (aaf c a (Vl (aaK c a ?_)))));refine Vl (WH (Vp ⟨_,rfl,"dict_keyiterator",_,⟨_,VM _ rfl,rfl⟩,Xr.lookup,?_⟩));simpa [rawInt] using f
def CB{Q:Option Value->Shared->Prop}(hit:s.heap.IsKeyIter it d i es.size ep)(b:s.heap.get? d=some od)(e:od.data=.dict es ep)(g:i<es.size)
  (h:∀h',h'.IsKeyIter it d (i+1) es.size ep->Heap.SameBut it s.heap h'->Q (some es[i].key) {s with heap:=h'}):
  wpAny (model prog w) A (pyNext (.ref it)) Q E s:=by
 obtain⟨o,f,j,c⟩:=id hit;unfold pyNext;refine Vl (X9 (W_ (name:=Str.ofString "__next__") hit.typeIs Xr (WW Xr hit.typeIs ZH ?_ (ZG _))));refine Vl (Vp (Vl (Vl ?_)))
 first|refine Vl (XQ hit.typeIs (Vp (Vl (XY f c ?_))))|refine Vl (Ym hit.typeIs (Vp (Vl (XY f c ?_))))
 simp only[show Builtin.Dict_items.ownsTuple "dict_keyiterator"=false by decide,Xo,XS];show wpAny _ _ (if (Value.ref d==Value.none)=true then _ else _) _ _ s;rw[Vm (show ¬((Value.ref d==Value.none)=true) from VO)];refine Vl (Vp (Vl (aaf b e ?_)));rw[Vm (by simp)];refine Vl (Vp (Vl (aaK b e ?_)));rw[Vm (by simp)];refine Vp ?_;simp only[show ¬((i:Int)<0) from by lia,XS,Int.toNat_natCast,WY g];refine Vl ?_
 first|refine Vl (XQ hit.typeIs (Vp (Vl (Zt hit.typeIs ?_))))|refine Vl (Ym hit.typeIs (Vp (Vl (Zt hit.typeIs ?_))))
 show wpAny _ _ (setField (.ref it) 1 (rawInt ((i:Int)+1)) >>= _) _ _ s;refine Vl (XZ f c (by simp) ?_);have a:(s.heap.update it (Obj.mapFields (·.setIfInBounds 1 (rawInt ((i:Int)+1))))).IsKeyIter it d (i+1) es.size ep:=⟨_,Xm _ f (Zs (X5 c _)),(aac ..).trans j,by rw[X5 c];simp[rawInt]⟩;refine Vl (Xc (Vl (Zt (s:={s with heap:=s.heap.update it (Obj.mapFields (·.setIfInBounds 1 (rawInt ((i:Int)+1))))}) a.typeIs ?_)));show wpAny _ _ (pure es[i].key) _ _ _;exact Vp (Vp ⟨_,rfl,Vp (h _ a (V_ ..))⟩)
def next_end{Q:Option Value->Shared->Prop}(k:A.handled=none)(hit:s.heap.IsKeyIter it d i es.size ep)(e:s.heap.get? d=some od)(c:od.data=.dict es ep)(h:es.size<=i)
  (j:∀h',Heap.ExtBut it s.heap h'->Q none {s with heap:=h'}):wpAny (model prog w) A (pyNext (.ref it)) Q E s:=by
 obtain⟨o,f,l,g⟩:=id hit;unfold pyNext;refine Vl (X9 (W_ (name:=Str.ofString "__next__") hit.typeIs Xr (WW Xr hit.typeIs ZH ?_ (ZG _))));refine Vl (Vp (Vl (Vl ?_)))
 first|refine Vl (XQ hit.typeIs (Vp (Vl (XY f g ?_))))|refine Vl (Ym hit.typeIs (Vp (Vl (XY f g ?_))))
 simp only[show Builtin.Dict_items.ownsTuple "dict_keyiterator"=false by decide,Xo,XS];show wpAny _ _ (if (Value.ref d==Value.none)=true then _ else _) _ _ s;rw[Vm (show ¬((Value.ref d==Value.none)=true) from VO)];refine Vl (Vp (Vl (aaf e c ?_)));rw[Vm (by simp)];refine Vl (Vp (Vl (aaK e c ?_)));rw[Vm (by simp)];refine Vp ?_;simp only[show ¬((i:Int)<0) from by lia,XS,Int.toNat_natCast,Zl h];refine Vl ?_
 first|refine Vl (XQ hit.typeIs (Vp ?_))|refine Vl (Ym hit.typeIs (Vp ?_))
 show wpAny _ _ (setField (.ref it) 0 .none >>= _) _ _ s;refine Vl (XZ f g (by simp) ?_);show wpAny _ _ (newExc (.type "StopIteration") [] >>= _) _ _ _;refine Vl ?_;simp only[newExc,newTuple];refine Vl (WH ?_ (by size_fits));refine Vl (m:=firstArgMember _ _) (wpAny_of_eq (a:=Value.none) (by first|rfl|(simp only[firstArgMember];rfl)) (WH ?_ (by size_fits)));simp only[raiseNew];refine Vl (wpAny_handled ?_);rw[show A.in1.handled=none from k];refine Vl (Vp (wpAny_throw ?_));refine Vl (aax (T:="StopIteration") (b:=true) ⟨_,VM _ rfl,rfl⟩ isSubtype_stop (Vp ?_));exact j _ (((V_ ..).extBut.push _).push _)
end
def QO(a : Addr)(o : Obj)(kvs : List ((Int×Bool)×V)) : It :=
  ⟨fun i H=>H a=some (.frz o (.dB kvs))/\i<kvs.length,
   fun i H x H'=>H'=H/\∃kv b,kvs[i]?=some kv/\x=.ref b/\H b=some (.tup (kB kv.1)),
   fun i H=>H a=some (.frz o (.dB kvs))/\kvs.length<=i⟩
def zj{P:Program}{w:World}{K:PySem.W.Frag}{tg:Expr}(a it:Addr)(o:Obj)(kvs:List ((Int×Bool)×V)):Turn P w K tg (QO a o kvs) [it] it (fun i h=>∃es ep,o.data=.dict es ep/\h.IsKeyIter it a i kvs.length ep) where
 mem:=by simp
 obj:=fun i h st b f=>by
  have e:b=it:=by simpa using f
  subst e;obtain⟨es,ep,_,o',e,c,d⟩:=st;exact⟨o',e,fun v z=>by rw[d] at z;cases z⟩
 keep:=fun i h h' st k=>by
  obtain⟨es,ep,e,st⟩:=st;exact⟨es,ep,e,st.at fun o e=>k it (by simp) o e⟩
 item:=by
  intro X r A M N i pins s σ H E I p st q;subst r A M;obtain⟨es,ep,g,st⟩:=st;obtain⟨t,hi⟩:=q;obtain⟨go,hz,Z,xs,kv,o',u,L,e1,r1,l,n,r4⟩:=(show bP X.prog X.w H s.heap a (.frz o (.dB kvs)) from I.hok a _ t);rw[go] at e1;cases e1;rw[g] at l;cases l;have D:kvs.length=xs.length:=Yq kv;have hsz:es.size=kvs.length:=by rw[D];exact aaL n
  obtain⟨F,J,Q,G,B,C⟩:=p it (by simp);have j:i<es.size:=by lia
  rw[<-hsz] at st;refine CB st go g j fun h' m Y=>?_;have U:Inv X pins σ H {s with heap:=h'}:=I.turned (t':=s.toks) (fun b o f e=>(Y.2 b f).trans e) F J G B C;obtain⟨o2,e2,c2,R⟩:=id m;obtain⟨x,hx⟩:∃x,xs[i]?=some x:=⟨xs[i]'(by lia),Vz (by lia)⟩;obtain⟨y,S,q1,q2,q3⟩:=EP.qr kv (Vz hi)
  have T:es[i].key=.ref y.2.1:=by
   have:=entry_at n i;rw[S,WY j] at this;rw[VP this];rfl
  refine⟨es[i].key,rfl,wC (s:={s with heap:=h'}) e2 c2 R (by decide) ⟨.ref y.2.1,H,U,T,⟨rfl,_,y.2.1,Vz hi,rfl,q2⟩,⟨es,ep,g,by rw[<-hsz];exact m⟩,fun b f=>(p b f).1⟩⟩
 done:=by
  intro X r A M N i pins s σ H E I p st q;subst r A M;obtain⟨es,ep,g,st⟩:=st;obtain⟨t,hi⟩:=q;obtain⟨go,hz,Z,xs,kv,o',u,L,e1,r1,l,n,r4⟩:=(show bP X.prog X.w H s.heap a (.frz o (.dB kvs)) from I.hok a _ t);rw[go] at e1;cases e1;rw[g] at l;cases l;have D:kvs.length=xs.length:=Yq kv;have hsz:es.size=kvs.length:=by rw[D];exact aaL n
  obtain⟨F,J,Q,G,B,C⟩:=p it (by simp);rw[<-hsz] at st;exact next_end (I.ok.hd N) st go g (by lia) fun h' O=>⟨rfl,I.turned (t':=s.toks) (fun b o f e=>O b o f e) F J G B C⟩
 self:=fun _ _ _ _ _ st h=>by
  obtain⟨es,ep,_,st⟩:=st;exact wpAny_pyIter_keyiter st h
def F9(kvs:List ((Int×Bool)×V))(u:HO):Prop:=u=.dB kvs\/∃o,u=.frz o (.dB kvs)
section
variable{X:Cx}{tg:Expr}{pins:List (Addr×Obj)}{σ:St}{H:Hp}{s:Shared}{a:Addr}{u0 u:HO}{kvs:List ((Int×Bool)×V)}
def Inv.Jx(I:Inv X pins σ H s)(e:H a=some u0)(i:F9 kvs u0)(ok:bP X.prog X.w H s.heap a u)(m:∀o' j,X.H₀ a=some (.frz o' j)->u=.frz o' j):Inv X pins σ (upd H a u) s:=by
 have g:∀b,H b=none->b≠a:=fun b n z=>by subst z;rw[n] at e;cases e
 have l:∀b xs,H b=some (.tup xs)->b≠a:=fun b xs q z=>by
  subst z;rw[e] at q;rcases i with d|⟨o,d⟩<;>(rw[d] at q;cases q)
 have t:∀b x,H b=some (.own x)->b≠a:=fun b xs q z=>by
  subst z;rw[e] at q;rcases i with d|⟨o,d⟩<;>(rw[d] at q;cases q)
 have st:∀b v,bP X.prog X.w H s.heap b v->bP X.prog X.w (upd H a u) s.heap b v:=fun b v z=>z.wR (fun c v _ q=>q) (fun c q=>by rw[aA (t c _ q)];exact q) fun c xs q=>by rw[aA (l c xs q)];exact q
 refine⟨I.ok,I.os,I.bare,⟨I.base.keep,I.base.slot,fun b o q n y=>?_,I.base.there,fun b xs q=>?_,fun b o v q=>?_,fun b ps q=>?_⟩,I.loc,I.cell,?_,fun x c q=>?_,fun p hp=>?_,fun b v q=>?_,I.len⟩
 .have:=I.base.free b o q n y;rw[aA (g b this)];exact this
 .have:=I.base.tups b xs q;rw[aA (l b xs this)];exact this
 .by_cases f:b=a
  .subst f;rw[aP,m _ _ q]
  .rw[aA f];exact I.base.frzs b o v q
 .obtain⟨more,h⟩:=I.base.tbls b ps q
  have f:b≠a:=fun z=>by
   subst z;rw[e] at h;rcases i with d|⟨o,d⟩<;>(rw[d] at h;cases h)
  exact⟨more,by rw[aA f];exact h⟩
 .rw[aA (g _ I.free)];exact I.free
 .rw[aA (g _ (I.freeC x c q))];exact I.freeC x c q
 .obtain⟨q1,k,r⟩:=I.pin p hp;exact⟨q1,by rw[aA (g _ k)];exact k,r⟩
 .by_cases f:b=a
  .subst f;rw[aP] at q;cases q;exact st _ _ ok
  .rw[aA f] at q;exact st _ _ (I.hok b v q)
def D_(X:Cx)(tl:TE):TI:=fun σ H R=>tl σ H fun x H1=>∃a kvs u,x=.ref a/\H1 a=some u/\F9 kvs u /\
 ∀o,(u=.dB kvs\/u=.frz o (.dB kvs))->(∀o' b,X.H₀ a=some (.frz o' b)->u=.frz o' b)->R (QO a o kvs) (upd H1 a (.frz o (.dB kvs)))
def DA{l:Expr}{tl:TE}(p:PE X l tl):PI X tg l (D_ X tl):=by
 intro pins s σ H R I h;refine b8 (p pins s σ H _ I h) fun v f ⟨x,H1,k,n,q1⟩=>?_;obtain⟨a,kvs,u,e,j,r,q⟩:=q1;subst e;cases n
 have rd:Rd H1 a (.dB kvs):=by
  rcases r with d|⟨o,d⟩
  .exact .inl (by rw[j,d])
  .exact .inr ⟨o,by rw[j,d]⟩
 have g:=(show bP X.prog X.w H1 f.heap a (.dB kvs) from Ai k.hok rd);obtain⟨hz,B,xs,kv,o,es,ep,e1,n,y,C,E⟩:=id g
 have i:u=.dB kvs\/u=.frz o (.dB kvs):=by
  rcases r with d|⟨o',d⟩
  .exact .inl d
  .refine .inr ?_;have:=(show bP X.prog X.w H1 f.heap a (.frz o' (.dB kvs)) from k.hok a _ (by rw[j,d])).1;rw[e1] at this;rw[d,VP this]
 have A:∀o' c,X.H₀ a=some (.frz o' c)->u=.frz o' c:=fun o' c z=>by
  have:=k.base.frzs a o' c z;rw[j] at this;exact VP this
 have m:∀o' c,X.H₀ a=some (.frz o' c)->HO.frz o (.dB kvs)=.frz o' c:=fun o' c z=>by
  have:=A o' c z;rcases i with d|d
  .rw[d] at this;cases this
  .rw[<-d];exact this
 have t:=k.Jx (u:=.frz o (.dB kvs)) j r ⟨e1,g⟩ m;refine Fx B e1 n y ?_;have p:kvs.length=xs.length:=Yq kv;have hsz:es.size=kvs.length:=by rw[p];exact aaL C
 refine⟨f.heap.objs.size,[f.heap.objs.size],_,_,_,rfl,t.kept (t':=f.toks) fun b o e=>Vt _ e,zj a _ o kvs,⟨es,ep,y,by rw[<-hsz];exact⟨_,VM _ rfl,rfl,rfl⟩⟩,fun b D=>?_,q o i A⟩;have e:b=f.heap.objs.size:=by simpa using D
 subst e;exact t.Co (Vu _) (t.hok.fresh (Vu _))
def Qx(X:Cx)(D:Ends):Ends:={D with
 nx:=fun σ' H'=>∃a kvs u o,H' a=some (.frz o (.dB kvs))/\(u=.dB kvs\/u=.frz o (.dB kvs))/\(∀o' b,X.H₀ a=some (.frz o' b)->u=.frz o' b)/\D.nx σ' (upd H' a u)
 rt:=fun v H'=>D.rt v H'\/∃a kvs u o,H' a=some (.frz o (.dB kvs))/\(u=.dB kvs\/u=.frz o (.dB kvs))/\(∀o' b,X.H₀ a=some (.frz o' b)->u=.frz o' b)/\D.rt v (upd H' a u)}
def Inv.Eu{o:Obj}(I:Inv X pins σ H s)(e:H a=some (.frz o (.dB kvs)))(c:u=.dB kvs\/u=.frz o (.dB kvs))(f:∀o' b,X.H₀ a=some (.frz o' b)->u=.frz o' b):Inv X pins σ (upd H a u) s:=by
 have ok:=(show bP X.prog X.w H s.heap a (.frz o (.dB kvs)) from I.hok a _ e);refine I.Jx e (.inr ⟨o,rfl⟩) ?_ f;rcases c with d|d
 .rw[d];exact ok.2
 .rw[d];exact ok
def EF{l:Expr}{tl:TE}{body:List Stmt}{g:TG}{tb:TS}{pos:Pos}(hp:PassesOwn (model X.prog X.w) X.A X.env X.xe)(m:X.calm=true)(n:PE X l tl)(k:PG X tg g)(p:p4 X body tb)
  (j:∀x,foldedSetIterable l X.env x=pure x:=by intro _;rfl):PS X (.For tg l body [] pos) (fun D σ H=>N8 (D_ X tl) g tb (Qx X D) σ H):=by
 intro pins s σ H D I h;refine b8 (qF hp m (DA n) k p j pins s σ H (Qx X D) I h) fun f s' q=>?_;cases f with
 |next =>
  obtain⟨σ',H',b,a,kvs,u,o,e,c,d,q⟩:=q;exact⟨σ',_,b.Eu e c d,q⟩
 |brk=>exact q
 |cont=>exact q
 |ret v =>
  obtain⟨i,σ',H',b,r,q|⟨a,kvs,u,o,e,c,d,q⟩⟩:=q
  .exact⟨i,σ',H',b,r,q⟩
  .exact⟨i,σ',_,b.Eu e c d,r,q⟩
end
end L2
namespace L2.EP
open PySem PySem.Spec PyProof.Rows
variable{p:Addr}{v:V}{H:Hp}{k:Int×Bool}{kvs:List ((Int×Bool)×V)}{K:PySem.W.Frag}{N:Nn}
structure Db(β:Type) where
 l:List ((Int×Bool)×β)
def Db.val{β:Type}(d:Db β)(k:Int×Bool):Option β:=(d.l.find? fun u=>decide (u.1=k)).map (·.2)
def Db.put{β:Type}(d:Db β)(k:Int×Bool)(c:β):Db β:=⟨if (d.l.any fun u=>decide (u.1=k))=true then d.l.map (fun u=>if u.1=k then (u.1,c) else u) else d.l++[(k,c)]⟩
def DB{β:Type}[Py β](K:PySem.W.Frag)(N:Nn)(H:Hp)(x:(Int×Bool)×V)(y:(Int×Bool)×β):Prop:=x.1=y.1/\Py.rp K N H x.2 y.2
instance{β:Type}[Py β]:Py (Db β) where
 rp K N H v d:=∃p kvs,v=.ref p/\Rd H p (.dB kvs)/\N.has H p (.inB kvs)/\Paired (DB K N H) kvs d.l
 tr l t h:=by
  obtain⟨p,kvs,e,s,n,r⟩:=h;obtain⟨s',a⟩:=l _ (.inB kvs) s n;exact⟨p,kvs,e,s',a,bB (fun _ _ q=>⟨q.1,Py.tr l t q.2⟩) r⟩
open Classical in
def yd(H0:Hp)(a:Addr)(o:Obj)(kvs:List ((Int×Bool)×V)):Hp:=if H0 a=none then H0 else upd H0 a (.frz o (.dB kvs))
section
variable{K:PySem.W.Frag}{H0 H H':Hp}{F O:Addr->Prop}{Γ:aL}{σ:St}{a:Addr}{u:HO}{kvs:List ((Int×Bool)×V)}{o:Obj}
def lQ:yd H0 a o kvs p=none↔H0 p=none:=by
 unfold yd;split
 .exact Iff.rfl
 .rename_i h;by_cases e:p=a
  .subst e;rw[aP];exact⟨fun z=>(by cases z),fun z=>absurd z h⟩
  .rw[aA e]
def u7(h:p≠a):yd H0 a o kvs p=H0 p:=by
 unfold yd;split
 .rfl
 .rw[aA h]
def FA(h:H0 a≠none):yd H0 a o kvs a=some (.frz o (.dB kvs)):=by
 unfold yd;rw[Vm h,aP]
def uK{G g:Hp}{u i:HO}(ne:∀b,b≠a->g b=G b)(e:G a=some u)(j:g a=some i)(d:F9 kvs u)(d':F9 kvs i){m:Mt}(h:Mo K G p m):Mo K g p m:=by
 by_cases hp:p=a
 .subst hp;cases m with
  |inl xs =>
   rcases h with(h|⟨c,h⟩)|h
   .rw[e] at h;rcases d with d|⟨f,d⟩<;>(rw[d] at h;cases h)
   .rw[e] at h;rcases d with d|⟨f,d⟩<;>(rw[d] at h;cases h)
   .exact .inr h
  |inB ks =>
   have ek:ks=kvs:=by
    rcases h with h|⟨c,h⟩
    .rw[e] at h;rcases d with d|⟨f,d⟩<;>(rw[d] at h;cases h);rfl
    .rw[e] at h;rcases d with d|⟨f,d⟩<;>(rw[d] at h;cases h);rfl
   subst ek;rcases d' with d'|⟨f,d'⟩
   .exact .inl (by rw[j,d'])
   .exact .inr ⟨f,by rw[j,d']⟩
  |inT ks =>
   exfalso;rcases h with h|⟨c,h⟩
   .rw[e] at h;rcases d with d|⟨f,d⟩<;>(rw[d] at h;cases h)
   .rw[e] at h;rcases d with d|⟨f,d⟩<;>(rw[d] at h;cases h)
  |inr ks =>
   exfalso;rcases h with h|⟨c,h⟩
   .rw[e] at h;rcases d with d|⟨f,d⟩<;>(rw[d] at h;cases h)
   .rw[e] at h;rcases d with d|⟨f,d⟩<;>(rw[d] at h;cases h)
 .cases m with
  |inl xs =>
   rcases h with(h|⟨c,h⟩)|h
   .exact .inl (.inl (by rw[ne p hp];exact h))
   .exact .inl (.inr ⟨c,by rw[ne p hp];exact h⟩)
   .exact .inr h
  |inr ks =>
   rcases h with h|⟨c,h⟩
   .exact .inl (by rw[ne p hp];exact h)
   .exact .inr ⟨c,by rw[ne p hp];exact h⟩
  |inT ks =>
   rcases h with h|⟨c,h⟩
   .exact .inl (by rw[ne p hp];exact h)
   .exact .inr ⟨c,by rw[ne p hp];exact h⟩
  |inB ks =>
   rcases h with h|⟨c,h⟩
   .exact .inl (by rw[ne p hp];exact h)
   .exact .inr ⟨c,by rw[ne p hp];exact h⟩
def qk{G f:Hp}{u:HO}(ne:∀b,b≠a->f b=G b)(e:G a=some u)(d:F9 kvs u){xs:List V}(h:Rt G p xs):Rt f p xs:=by
 have hp:p≠a:=fun z=>by
  subst z;rcases h with h|⟨c,h⟩
  .rw[e] at h;rcases d with d|⟨g,d⟩<;>(rw[d] at h;cases h)
  .rw[e] at h;rcases d with d|⟨g,d⟩<;>(rw[d] at h;cases h)
 rcases h with h|⟨c,h⟩
 .exact .inl (by rw[ne p hp];exact h)
 .exact .inr ⟨c,by rw[ne p hp];exact h⟩
def dA.Nb(Z:dA K H0 F O Γ σ H)(ha:¬O a)(e:H a=some u)(j:F9 kvs u):dA K (yd H0 a o kvs) F O (MJ Γ) σ (upd H a (.frz o (.dB kvs))):=by
 have ne:∀b,b≠a->upd H a (.frz o (.dB kvs)) b=H b:=fun b d=>aA d;have k:∀p,O p->p≠a:=fun p h z=>ha (z▸h);have E:off H O a=some u:=by rw[aT ha];exact e
 have y:off (upd H a (.frz o (.dB kvs))) O a=some (.frz o (.dB kvs)):=by rw[aT ha];exact aP
 have d':F9 kvs (.frz o (.dB kvs)):=.inr ⟨o,rfl⟩
 have any:∀{β:Type} [Py β] {N:Nn} {v:V} {x:β},Py.rp K N (off H O) v x->Py.rp K .any (off (upd H a (.frz o (.dB kvs))) O) v x:=fun r =>
  Py.tr (fun p m h _=>⟨uK (off_ne ne) E y j d' h,True.intro⟩) (fun p xs h=>qk (off_ne ne) E j h) r
 refine⟨fun b w h=>?_,Z.fo,fun p h=>?_,fun p h=>?_,?_,fun i g t l=>?_,?_⟩
 .by_cases d:b=a
  .subst d;have l:H0 b≠none:=fun z=>by rw[lQ.mpr z] at h;cases h
   rw[FA l] at h;rw[aP];exact h
  .rw[u7 d] at h;rw[aA d];exact Z.same _ _ h
 .obtain⟨xs,q⟩:=Z.f0 p h;exact⟨xs,by rw[u7 (k p (Z.fo p h))];exact q⟩
 .obtain⟨xs,q⟩:=Z.own p h;exact⟨xs,by rw[aA (k p h)];exact q⟩
 .unfold MJ;rw[Vx];exact Z.len
 .obtain⟨s,c,rfl⟩:=Am t;cases s with
  |val b x =>
   obtain⟨v,h1,h2⟩:=Z.at_ i _ c (fun z=>z);exact⟨v,h1,any h2⟩
  |own b as=>exact absurd True.intro l
  |dpo x=>exact absurd True.intro l
 .obtain⟨D,J,f,C⟩:=Z.dis;refine⟨D,J,fun i p h=>⟨(f i p h).1,lQ.mpr (f i p h).2⟩,fun i g t L=>?_⟩;obtain⟨s,c,rfl⟩:=Am t;cases s with
  |val b x=>exact absurd L (fun z=>z)
  |own b as =>
   obtain⟨v,h1,p,xs,q1,B,I,G⟩:=C i _ c True.intro;exact⟨v,h1,p,xs,q1,B,by rw[aA (k p (f i p B).1)];exact I,bB (fun _ _ z=>any z) G⟩
  |dpo x =>
   obtain⟨v,h1,h2⟩:=C i _ c True.intro;refine⟨v,h1,?_⟩;have A:Py.rp K (.set (D i)) H v x:=h2;exact Py.tr (a:=x) (N:=.set (D i)) (N':=.set (D i)) (fun p m h n=>⟨uK ne e aP j d' h,n.1,by rw[aA (k p (f i p n.1).1)];exact n.2⟩) (fun p xs h=>qk ne e j h) A
def u3{β:Type}[Py β]{b:Bool}{x:β}{O:Addr->Prop}(ha:¬O a)(e:H' a=some (.frz o (.dB kvs)))(i:u=.dB kvs\/u=.frz o (.dB kvs))(h:Py.rp K (Nf (yd H0 a o kvs) b) (off H' O) v x):Py.rp K (Nf H0 b) (off (upd H' a u) O) v x:=by
 have ne:∀b,b≠a->upd H' a u b=H' b:=fun b j=>aA j;have f:off H' O a=some (.frz o (.dB kvs)):=by rw[aT ha];exact e
 have c:off (upd H' a u) O a=some u:=by rw[aT ha];exact aP
 have g:F9 kvs u:=i.imp id fun d=>⟨o,d⟩;refine Py.tr (fun p m h n=>⟨uK (off_ne ne) f c (.inr ⟨o,rfl⟩) g h,?_⟩) (fun p xs h=>qk (off_ne ne) f (.inr ⟨o,rfl⟩) h) h;cases b with
 |false=>exact True.intro
 |true =>
  have hp:p≠a:=fun z=>by
   subst z;have:=n.2;rw[f] at this;rcases m with m|m|m|m<;>cases this
  exact⟨lQ.mp n.1,by rw[off_ne ne p hp];exact n.2⟩
def dA.LH{j:Addr->Prop}{Γ':aL}{σ':St}(Z:dA K H0 F O Γ σ H)(ha:H a=some u)(c:dA K (yd H0 a o kvs) F j Γ' σ' H')(na:¬j a)(e:H' a=some (.frz o (.dB kvs)))(r:u=.dB kvs\/u=.frz o (.dB kvs)):dA K H0 F j Γ' σ' (upd H' a u):=by
 have ne:∀b,b≠a->upd H' a u b=H' b:=fun b f=>aA f;have s:∀p,j p->p≠a:=fun p h z=>na (z▸h);have J:F9 kvs u:=r.imp id fun d=>⟨o,d⟩;refine⟨fun b w h=>?_,c.fo,Z.f0,fun p h=>?_,c.len,fun i g l t=>?_,?_⟩
 .by_cases f:b=a
  .subst f;have:=Z.same _ _ h;rw[aP,<-ha];exact this
  .rw[aA f];exact c.same _ _ (by rw[u7 f];exact h)
 .obtain⟨xs,q⟩:=c.own p h;exact⟨xs,by rw[aA (s p h)];exact q⟩
 .obtain⟨v,h1,h2⟩:=c.at_ i g l t;refine⟨v,h1,?_⟩;cases g with
  |val b x=>exact u3 na e r h2
  |own b as=>exact absurd True.intro t
  |dpo x=>exact absurd True.intro t
 .obtain⟨D,I,k,E⟩:=c.dis;refine⟨D,I,fun i p h=>⟨(k i p h).1,lQ.mp (k i p h).2⟩,fun i g l B=>?_⟩;obtain⟨v,h1,h2⟩:=E i g l B;refine⟨v,h1,?_⟩;cases g with
  |val b x=>exact absurd B (fun z=>z)
  |own b as =>
   obtain⟨p,xs,q1,A,G,C⟩:=h2;exact⟨p,xs,q1,A,by rw[aA (s p (k i p A).1)];exact G,bB (fun _ _ z=>u3 na e r z) C⟩
  |dpo x =>
   have y:Py.rp K (.set (D i)) H' v x:=h2;exact Py.tr (a:=x) (N:=.set (D i)) (N':=.set (D i)) (fun p m h n=>⟨uK ne e aP (.inr ⟨o,rfl⟩) J h,n.1,by rw[aA (s p (k i p n.1).1)];exact n.2⟩) (fun p xs h=>qk ne e (.inr ⟨o,rfl⟩) h) y
def uc{g:Addr->Prop}(ha:¬O a)(e:H a=some u)(s:aD (off (upd H a (.frz o (.dB kvs))) O) (off H' g)):¬g a/\H' a=some (.frz o (.dB kvs))/\aD (off H O) (off (upd H' a u) g):=by
 have h1:off (upd H a (.frz o (.dB kvs))) O a=some (.frz o (.dB kvs)):=by rw[aT ha];exact aP
 obtain⟨n,h2⟩:=cV (s _ _ h1);refine⟨n,h2,fun b w h=>?_⟩;by_cases d:b=a
 .subst d;rw[aT ha,e] at h;rw[aT n,aP];exact h
 .have:=s b w (by rw[off_ne (a:=a) (H:=H) (fun c f=>aA f) b d];exact h);rw[off_ne (a:=a) (H:=H') (fun c f=>aA f) b d];exact this
variable{X:Cx}{D:GD}{α β γ:Type}[Py α][Py β][Py γ]{e e1 e2 tg:Expr}{b b1 b2:Bool}{pos:Pos}{rest body:List Stmt}
theorem HP{g:TG}{tc:Nat->Prop}{put:Bool->Int×Bool->aL->aL}{d:Db β}(J:Nat->aL->Prop)(hG:G X tg g (Int×Bool) put tc)(he:E X Γ e b d)(h0:J 0 (MJ Γ))
  (ht:∀(i:Nat) (k:Int×Bool) Γ',(d.l.map (·.1))[i]?=some k->J i Γ'->S X (put true k Γ') body {D with nx:=J (i+1),ct:=J (i+1),bk:=fun Γ2=>S X Γ2 rest D}) (hd:∀Γ',J d.l.length Γ'->S X Γ' rest D)
  (hc:X.calm=true:=by rfl) (hp:PassesOwn (model X.prog X.w) X.A X.env X.xe:=by exact Yw)
  (hfs:∀x,foldedSetIterable e X.env x=pure x:=by intro _;rfl):S X Γ (.For tg e body [] pos::rest) D:=by
 with_unfolding_all
  refine eO (eC (EF hp hc he hG.1 (tb:=kL X body) iu hfs) fun De σ H ⟨H0,F,O,Z,nx,r,bk,ct⟩=>?_);refine⟨H0,F,O,Z,fun v H1 s1 r1=>?_⟩;obtain⟨a,kvs,ev,rd,_,rr⟩:=r1
  have U:¬O a/\∃u,H1 a=some u/\F9 kvs u:=by
   rcases rd with h|⟨o,h⟩
   .obtain⟨n,h⟩:=cV h;exact⟨n,_,h,.inl rfl⟩
   .obtain⟨n,h⟩:=cV h;exact⟨n,_,h,.inr ⟨o,rfl⟩⟩
  obtain⟨na,u,L,dz⟩:=U;refine⟨a,kvs,u,ev,L,dz,fun o t hf=>?_⟩;have V:=Z.go s1;have lk:kvs.length=d.l.length:=bL rr
  have out:∀(Q:St->Hp->Prop) (P:aL->Prop),(∀Γ' σ' H' c,aD (off H O) (off H' c)->dA X.K H0 F c Γ' σ' H'->P Γ'->Q σ' H')->∀Γ' σ' H' c,aD (off (upd H1 a (.frz o (.dB kvs))) O) (off H' c)->dA X.K (yd H0 a o kvs) F c Γ' σ' H'->P Γ' ->
    ∃a kvs u o,H' a=some (.frz o (.dB kvs))/\(u=.dB kvs\/u=.frz o (.dB kvs))/\(∀o' u',X.H₀ a=some (.frz o' u')->u=.frz o' u')/\Q σ' (upd H' a u):=fun Q P q Γ' σ' H' c sm M p=>by
   obtain⟨n',N,R⟩:=uc na L sm;exact⟨a,kvs,u,o,N,t,hf,q Γ' σ' _ c ((ah s1).trans R) (V.LH L M n' N t) p⟩
  refine⟨fun i m σ' H'=>m=d.l.length-i/\i<=d.l.length/\∃Γ' c,aD (off (upd H1 a (.frz o (.dB kvs))) O) (off H' c)/\dA X.K (yd H0 a o kvs) F c Γ' σ' H'/\J i Γ',⟨_,rfl,Wn _,MJ Γ,O,aD.refl _,V.Nb na L dz,h0⟩,?_⟩;rintro i m σ' H' ⟨rfl,hi',Γ',c,sm,M,j⟩;obtain⟨n',N,R⟩:=uc na L sm;by_cases hlt:i<d.l.length
  .refine .inr ⟨⟨N,by lia⟩,fun σ2 H2=>∃Γ2 B,aD (off (upd H1 a (.frz o (.dB kvs))) O) (off H2 B)/\dA X.K (yd H0 a o kvs) F B Γ2 σ2 H2/\J (i+1) Γ2,fun σ2 H2 q=>⟨d.l.length-(i+1),by lia,rfl,hlt,q⟩,fun x H'' W=>?_⟩;obtain⟨rfl,kv,bb,hk,rfl,I⟩:=W;obtain⟨y,W,Y⟩:=qr rr hk;refine hG.2 true y.1 (yd H0 a o kvs) F c Γ' σ' H'' _ _ M ⟨bb,_,_,rfl,.inl (by rw[aT (fun z=>by obtain⟨m,hm⟩:=M.own bb z;rw[hm] at I;cases m<;>cases I),I,Y.1];rfl),rfl,rfl⟩ fun σ2 C _ _=>?_;refine⟨_,_,ht i y.1 Γ' (by rw[VJ,W];rfl) j,yd H0 a o kvs,F,c,C,?_,?_,?_,?_⟩
   .exact fun Γ2 σ2 H2 B f C q=>⟨Γ2,B,sm.trans f,C,q⟩
   .intro g v H2 T s q;by_cases hn:H0 a=none
    .have e0:yd H0 a o kvs=H0:=by unfold yd;rw[Vo hn]
     rw[e0] at T s;exact .inl (r g v H2 T s q)
    .have e2:H2 a=some (.frz o (.dB kvs)):=T _ _ (FA hn);refine .inr ⟨a,kvs,u,o,e2,t,hf,r g v _ (fun b w h=>?_) ?_ q⟩
     .by_cases hb:b=a
      .subst hb;have:=V.same _ _ h;rw[aP,<-L];exact this
      .rw[aA hb];exact T _ _ (by rw[u7 hb];exact h)
     .cases g with
      |val b x=>exact u3 (fun z=>na (Z.fo a z)) e2 t s
      |own b as=>exact s
      |dpo x=>exact s
   .exact fun Γ2 σ2 H2 B f C q=>out _ _ nx Γ2 σ2 H2 B (sm.trans f) C q
   .exact fun Γ2 σ2 H2 B f C q=>⟨Γ2,B,sm.trans f,C,q⟩
  .have ei:i=d.l.length:=by lia
   subst ei;exact .inl ⟨⟨N,by lia⟩,out _ _ nx Γ' σ' H' c sm M (hd Γ' j)⟩
end
def LY{a b:Addr}(e:H a=some (.dB kvs))(c:H b=some (.tup (kB k)))(d:kvs.length<sizeLine):Kf H a (.ref b) v (upd H a (.dB (putK kvs k v))):=.inr (.inr ⟨kvs,k,b,e,rfl,c,d,rfl⟩)
def Fz(h:Py.rp K N H v k):∃b,v=.ref b/\H b=some (.tup (kB k)):=by
 obtain⟨p,x,y,e,s,h1,h2⟩:=h;have e1:x=V.int _:=h1;have e2:y=V.bl _:=h2;subst e1;subst e2;exact⟨p,e,s.pl⟩
theorem DH{β:Type}[Py β]{K:PySem.W.Frag}{N:Nn}{H:Hp}(k:Int×Bool):∀{kvs:List ((Int×Bool)×V)} {l:List ((Int×Bool)×β)},Paired (DB K N H) kvs l ->
  (∀c,(Db.mk l).val k=some c->∃v,kE kvs k=some v/\Py.rp K N H v c)/\((Db.mk l).val k=none->kE kvs k=none)
 |_,_,.nil=>⟨fun c h=>(by cases h),fun _=>rfl⟩
 |_,_,.cons (a:=x) (b:=y) h t=>by
  obtain⟨g,i⟩:=DH k t;by_cases e:y.1=k
  .have f:x.1=k:=by rw[h.1,e]
   have d:∀r,(Db.mk (y::r)).val k=some y.2:=fun r=>by unfold Db.val;rw[Xl];simp[e]
   rw[d,jN f];exact⟨fun c j=>(by cases j;exact⟨_,rfl,h.2⟩),fun z=>(by cases z)⟩
  .have f:¬x.1=k:=by rw[h.1];intro z;exact e (z)
   have d:∀r,(Db.mk (y::r)).val k=(Db.mk r).val k:=fun r=>by unfold Db.val;rw[Xl];simp[e]
   rw[d,j6 f];exact⟨g,i⟩
def Il{β:Type}[Py β](k:Int×Bool){l:List ((Int×Bool)×β)}(r:Paired (DB K N H) kvs l):(kE kvs k).isSome=((Db.mk l).val k).isSome:=by
 obtain⟨h1,h2⟩:=DH k r;cases e:(Db.mk l).val k with
 |none=>rw[h2 e];rfl
 |some c =>
  obtain⟨v,a,_⟩:=h1 c e;rw[a];rfl
def Kz{β:Type}[Py β]{c:β}{l:List ((Int×Bool)×β)}(r:Paired (DB K N H) kvs l)(h:Py.rp K N H v c):Paired (DB K N H) (putK kvs k v) ((Db.mk l).put k c).l:=by
 have ha:∀{kvs:List ((Int×Bool)×V)} {l:List ((Int×Bool)×β)},Paired (DB K N H) kvs l->(kvs.any fun kv=>decide (kv.1=k))=(l.any fun u=>decide (u.1=k)):=fun r=>by
  induction r with
  |nil=>rfl
  |cons h t a =>
   rw[XO,XO,a,h.1]
 have b:∀{kvs:List ((Int×Bool)×V)} {l:List ((Int×Bool)×β)},Paired (DB K N H) kvs l->Paired (DB K N H) (kvs.map fun kv=>if kv.1=k then (kv.1,v) else kv) (l.map fun u=>if u.1=k then (u.1,c) else u):=fun r=>by
  induction r with
  |nil=>exact .nil
  |@cons x y _ _ g t a =>
   rw[Wa,Wa];refine .cons ?_ a;by_cases e:y.1=k
   .rw[Vo e,Vo (by rw[g.1,e])];exact⟨g.1,h⟩
   .rw[Vm e,Vm (by rw[g.1];intro z;exact e (z))];exact g
 unfold putK Db.put;dsimp only;rw[ha r];split
 .exact b r
 .exact uP r (.cons ⟨rfl,h⟩ .nil)
section
variable{X:Cx}{Γ:aL}{D:GD}{α β γ:Type}[Py α][Py β][Py γ] {e e1 e2 ek ec:Expr}{b b1 b2:Bool}{pos:Pos}{rest st:List Stmt}
def DT:EN X Γ (.Dict [] [] pos) (Db.mk ([]:List ((Int×Bool)×β))):=by
 with_unfolding_all
  exact aN EB fun σ H Q ⟨H0,F,O,Z,q⟩ p hp=>by
   have a:off (upd H p (.dB [])) O p=some (.dB []):=by rw[aT (Z.k_ hp)];exact aP
   exact q _ _ (eP hp _) ⟨p,[],rfl,.inl a,⟨hp,a⟩,.nil⟩
def HC[PyT β](i:Nat){d:Db β}{c:β}{x:Str}{p J:Pos}(hu:X.A.units+60<cLine)(G:Γ[i]?=some (some (.dpo d)))(R:E X Γ ek b2 k)(he:E X Γ e b c)(V:d.l.length<=1000)(h:S X (Γ.set i (some (.dpo (d.put k c)))) rest D)(hi:X.N[i]?=some x:=by rfl)
  (Q:Hh X.env.scope x:=by first|exact Or.inl rfl|exact Or.inr (Or.inl rfl)|exact Or.inr (Or.inr rfl)) (hd:(x==("__debug__":Str))=false:=by decide) (m:(x==("__classdict__":Str))=false:=by decide)
  (M:swapsWith e (some (.Subscript (.Name x p) ek J)) pos.line X.env=pure false:=by rfl):S X Γ (.Assign [.Subscript (.Name x p) ek J] e pos::rest) D:=by
 with_unfolding_all
  exact eO (eC (Gr (by lia) (pv i hi Q hd m) R he M) fun De σ H ⟨H0,F,O,Z,n,_⟩=>⟨H0,F,O,Z,fun u H1 j T=>by
    obtain⟨v,t,g,_,_,_⟩:=(Z.go j).yF G True.intro;refine⟨v,g,H0,F,O,Z.go j,fun y f B ry=>?_⟩;obtain⟨v',t,BS,⟨q,kvs,e1,rd,nn,C⟩,hO,wr⟩:=(Z.go (j.trans B)).yF G True.intro;rw[g] at BS;have ev:v=v':=VP (VP BS);subst ev;obtain⟨a,Y,ha⟩:=Fz ry;subst Y;have s:f a=some (.tup (kB k)):=au _ _ _ _ ha;have L:f q=some (.dB kvs):=nn.2
    have I:∀p xs,Rt f p xs->Rt (upd f q (.dB (putK kvs k u))) p xs:=fun p xs h=>by
     have hp:p≠q:=fun w=>by
      subst w;have:=h.pl;rw[L] at this;cases this
     exact .inl (by rw[aA hp];exact h.pl)
    refine⟨q,_,e1,LY (k:=k) L s (by rw[bL C];exact di V),?_⟩;have o:Paired (DB X.K (.set t) (upd f q (.dB (putK kvs k u)))) kvs d.l:=bB (fun _ _ z=>⟨z.1,PyT.free I z.2⟩) C;have r:Py.rp X.K (.set t) (upd f q (.dB (putK kvs k u))) u c:=PyT.free (fun p xs w=>I p xs (aD.rt ((au _ _).trans B) w)) T
    obtain⟨Z',P⟩:=wr q (.inB (putK kvs k u)) (some (.dpo (d.put k c))) nn.1 fun W U=>by
     cases U;exact⟨True.intro,q,_,e1,.inl aP,⟨nn.1,aP⟩,Kz o r⟩
    exact n _ _ _ _ (by rw[show upd f q (HO.dB (putK kvs k u))=upd f q (mo (.inB (putK kvs k u))) from rfl,P];exact ah (j.trans B)) Z' h⟩)
end
end L2.EP
namespace L2
open PySem PySem.Spec PyProof.Rows
def HQ(tk tv:TE):TE:=fun σ H Q=>∀p,H p=none->tk σ (upd H p (.dB [])) fun x H1=>tv σ H1 fun v H2=>H2 p=some (.dB [])/\∃k b,x=.ref b/\H2 b=some (.tup (kB k))/\Q (.ref p) (upd H2 p (.dB [(k,v)]))
def Bm{X:Cx}{pos:Pos}{ek ev:Expr}{tk tv:TE}(t:X.A.units<cLine)(n:PE X ek tk)(l:PE X ev tv):PE X (.Dict [some ek] [ev] pos) (HQ tk tv):=by
 intro pins s σ H Q I q;have E:=I.hok.fresh (Vu s.heap.objs.size);have G:=I.laid (a:=s.heap.objs.size) (o:=.dB []) (h':=s.heap.push {cls:=.type "dict",data:=.dict #[]}) (t':=s.toks) (fun _ _ q=>Vt _ q) (Vu _) (v8 s.heap I.big);refine wpAny_Dict_any rfl rfl (by simp) (by simp) (pairTrees_cons_walk (b8 (n pins _ σ _ _ G (q _ E)) fun u J ⟨x,H1,j,i,q1⟩=>b8 (l pins J σ H1 _ j q1) fun r K ⟨v,H2,f,D,e,k,b,ex,c,m⟩=>pairTrees_nil_walk ?_));subst ex;cases (show u=Value.ref b from i);obtain⟨z,B,xs,rel,y⟩:=JE f.hok e;cases rel;unfold storeAll;rw[List.forIn_cons];refine Vl (Vl (wpAny_dictSet_heap (knd:=gE X.prog X.w) (hsz:=Wn _) t (p5 f.hok c) y fun h' d h=>Vp ?_));dsimp only;rw[List.forIn_nil];obtain⟨o,es,ep,g,h2,F,C,_,p⟩:=d;refine Vp ⟨.ref s.heap.objs.size,upd H2 s.heap.objs.size (.dB [(k,v)]),pM (ob:=.dB [(k,v)]) f (by rw[e];exact True.intro) h ⟨o,g⟩ ⟨by rw[X0];simp,B,_,.cons ⟨rfl,?_,D⟩ .nil,o,es,ep,g,h2,F,C,p⟩,rfl,m⟩;rw[aA (E8 c e (fun z=>nomatch z))];exact c
end L2
namespace L2.EP
open PySem PySem.Spec PyProof.Rows
section
variable{X:Cx}{Γ:aL}{D:GD}{β:Type}[Py β]{ek ev:Expr}{b1 b2:Bool}{pos:Pos}
def Ki[PyT β]{k:Int×Bool}{c:β}(w:X.A.units+60<cLine)(s:E X Γ ek b1 k)(r:E X Γ ev b2 c):EN X Γ (.Dict [some ek] [ev] pos) (Db.mk [(k,c)]):=by
 with_unfolding_all
  exact aN (Bm (by lia) s r) fun σ H Q ⟨H0,F,O,Z,q⟩ p hp=>by
   have i:=eP hp (.dB []);refine⟨H0,F,O,Z.go i,fun x H1 l n=>⟨H0,F,O,(Z.go i).go l,fun y H2 f v=>?_⟩⟩;obtain⟨a,ex,ha⟩:=Fz n;have g:H2 a=some (.tup (kB k)):=f _ _ (au _ _ _ _ ha);have b:H2 p=some (.dB []):=f _ _ (l _ _ aP);have u:∀a o,H a=some o->a≠p:=fun a o h e=>by rw[e,hp] at h;cases h
   refine⟨b,k,a,ex,g,?_⟩;have m:off (upd H2 p (.dB [(k,y)])) O p=some (.dB [(k,y)]):=by rw[aT (Z.k_ hp)];exact aP
   refine q _ _ (fun a o h=>?_) ⟨p,[(k,y)],rfl,.inl m,⟨hp,m⟩,.cons ⟨rfl,?_⟩ .nil⟩
   .rw[aA (u a o h)];exact f _ _ (l _ _ (i _ _ h))
   .refine PyT.free (fun a xs t=>?_) v
    have na:a≠p:=fun e=>by
     subst e;rcases t with h|⟨o,h⟩<;>· have:=(cV h).2;rw[b] at this;cases this
    rcases t with h|⟨o,h⟩
    .obtain⟨j,d⟩:=cV h;exact .inl (by rw[aT j,aA na];exact d)
    .obtain⟨j,d⟩:=cV h;exact .inr ⟨o,by rw[aT j,aA na];exact d⟩
end
variable{k:Int×Bool}
def Db.ks{β:Type}(d:Db β):List (Int×Bool):=d.l.map (·.1)
def Db.L_{β:Type}{d:Db β}:(d.val k).isSome=true↔k∈d.ks:=by
 unfold Db.val Db.ks;rw[YI,List.find?_isSome,VG];constructor
 .rintro⟨u,a,e⟩;exact⟨u,a,VH e⟩
 .rintro⟨u,a,e⟩;exact⟨u,a,V3 e⟩
def Db.D5{β:Type}{d:Db β}{c:β}:(d.put k c).ks=if k∈d.ks then d.ks else d.ks++[k]:=by
 have e:((d.l.any fun u=>decide (u.1=k))=true)↔k∈d.ks:=by
  unfold Db.ks;rw[Yl,VG];constructor
  .rintro⟨u,a,e⟩;exact⟨u,a,VH e⟩
  .rintro⟨u,a,e⟩;exact⟨u,a,V3 e⟩
 unfold Db.put;by_cases h:k∈d.ks
 .rw[Vo h,Vo (e.mpr h)];unfold Db.ks;rw[Zz];apply ZM;intro u _;show(if u.1=k then (u.1,c) else u).1=u.1;split<;>rfl
 .rw[Vm h,Vm (fun z=>h (e.mp z))];unfold Db.ks;rw[Yx];rfl
def Db.Ig{β:Type}{d:Db β}{a:Int×Bool}{c:β}:a∈(d.put k c).ks↔a=k\/a∈d.ks:=by
 rw[Db.D5];split
 .rename_i h;exact⟨.inr,fun z=>z.elim (fun e=>e▸h) id⟩
 .rw[Wk,V0];exact⟨fun z=>z.elim .inr .inl,fun z=>z.elim .inr .inl⟩
def Db.Ln{β:Type}{d:Db β}{c:β}(h:d.ks.Nodup):(d.put k c).ks.Nodup:=by
 rw[Db.D5];split
 .exact h
 .rename_i g;rw[Zg];exact⟨h,by simp,fun a ha b f e=>g (by rw[<-V0.mp f,<-e];exact ha)⟩
def Db.Fg{β:Type}{d:Db β}:d.ks.length=d.l.length:=Vx _
section
variable{X:Cx}{Γ:aL}{D:GD}{α β γ:Type}[Py α][Py β][Py γ]{e e1 e2:Expr}{b b1 b2:Bool}{pos:Pos}{rest st:List Stmt}
def NO{c:Bool}{post:α->Prop}(h:T X Γ e c)(ha:c=true->EX X Γ e1 b post)(i:c=false->EX X Γ e2 b post):EX X Γ (.IfExp e e1 e2 pos) b post:=by
 with_unfolding_all
  cases c with
  |true=>exact aN (iF h (ha rfl) oF) fun σ H Q ⟨H0,F,O,S,q⟩=>⟨H0,F,O,S,fun H1 d=>sP ⟨H0,F,O,S.go d,fun a w H2 hz g f=>q a w H2 hz (d.trans g) f⟩⟩
  |false=>exact aN (iF h oF (i rfl)) fun σ H Q ⟨H0,F,O,S,q⟩=>⟨H0,F,O,S,fun H1 d=>sR ⟨H0,F,O,S.go d,fun a w H2 hz g f=>q a w H2 hz (d.trans g) f⟩⟩
def ou{post:α->Prop}(he:EX X Γ e b post)(h:∀a,post a->D.rt (.val b a)):S X Γ (.Return (some e) pos::rest) D:=by
 with_unfolding_all
  exact eO (eC (Fb he) fun f σ H ⟨H0,F,O,Z,n,r,_⟩=>⟨H0,F,O,Z,fun a v H1 hz d c=>r (.val b a) v H1 ((Z.go d).same) (aw (l_ Z.fo) c) (h a hz)⟩)
variable{δ ε:Type}[Py δ][Py ε]{e3 e4:Expr}{b3 b4:Bool}{p:Pos}{k:Nat}{name:Str}{ps:List Str}
def Ik{pre:α->β->γ->δ->Prop}{f:α->β->γ->δ->ε}{a:α}{c:β}{d:γ}{post:δ->Prop}(C:aI X.prog X.w X.K X.mg X.base k name ps (Gk X.K pre b f))(x:dv k X.A)(n:Gl X name)(h1:E X Γ e1 b1 a)(h2:E X Γ e2 b2 c)(N:E X Γ e3 b3 d)(L:EX X Γ e4 b4 post)(hp:∀g,post g->pre a c d g)
  (l:starEach [e1,e2,e3,e4] X.env=(false,eval e1 X.env)::starEach [e2,e3,e4] X.env:=by rfl) (o:starEach [e2,e3,e4] X.env=(false,eval e2 X.env)::starEach [e3,e4] X.env:=by rfl) (u:starEach [e3,e4] X.env=(false,eval e3 X.env)::starEach [e4] X.env:=by rfl) (s:starEach [e4] X.env=(false,eval e4 X.env)::starEach [] X.env:=by rfl)
  (t:(name==("__debug__":Str))=false:=by decide) (hpl:(backTo pos (starEach [e2,e3,e4] X.env)).any (·.1)=false:=by rfl):
  EX X Γ (.Call (.Name name p) [e1,e2,e3,e4] [] pos) b (fun r=>∃g,post g/\r=f a c d g):=by
 with_unfolding_all
  obtain⟨T,fd,F,B,kp,m⟩:=C.ex
  exact aN (f9 F x n m kp B .nil kI (aB h1 (aB h2 (aB N (aB L bq s) u) o) l) t l hpl) fun σ H Q ⟨H0,F,O,S,q⟩=>⟨H0,F,O,S,fun G H1 j z=>⟨H0,F,O,S.go j,fun v H2 h D=>⟨H0,F,O,S.go (j.trans h),fun M R e y=>⟨H0,F,O,S.go (j.trans (h.trans e)),fun g v4 P n i J =>
   ⟨O,G,v,M,v4,a,c,d,g,(S.go (j.trans (h.trans (e.trans i)))).own,rfl,bp br (aw ((ah h).trans ((ah e).trans (ah i))) z),bp br (aw ((ah e).trans (ah i)) D),bp br (aw (ah i) y),bp br J,hp g n,fun r H' s' I=>q _ r H' ⟨g,n,rfl⟩ (j.trans (h.trans (e.trans (i.trans s')))) ((S.go (j.trans (h.trans (e.trans i)))).back I)⟩⟩⟩⟩⟩
end
def Gw{X:Cx}{β:Type}[Py β]{d:Db β}(b:X.A.units+60<cLine):CV X .NotIn k d (!(d.val k).isSome):=⟨_,Iw (by lia),fun N N' H u v Q h1 h2 q=>by
 obtain⟨p,kvs,rfl,rd,n,r⟩:=h2;obtain⟨a,rfl,ha⟩:=Fz h1;refine⟨p,kE kvs k,rfl,.inr (.inr ⟨kvs,k,a,rd,rfl,ha,rfl⟩),?_⟩;rw[Il k r]
 exact q⟩
end L2.EP
namespace L2.Srt
open PySem PyProof.Rows
variable{out arr:Array Keyed}{i n na nb j ia ib k lo:Nat}{us:List Value}
def QP:Bool->Keyed->Array Keyed->Nat->Nat->Nat->StateT SortSt Sem (Option Nat):=sortPriv% PySem.Builtin.gallop
def QA:Array Keyed->Array Keyed->StateT SortSt Sem (Array Keyed):=sortPriv% PySem.Builtin.mergeLo
def QJ:Array Keyed->Array Keyed->StateT SortSt Sem (Array Keyed):=sortPriv% PySem.Builtin.mergeHi
section
variable{w:World}{prog:Program}{s:Shared}{E:Value->Shared->Prop}{A:Around}
def oE(x:Keyed):Prop:=∃n t,x.1=Value.int n t
def wK{st:SortSt}{x y:Keyed}{Q:Option Bool->SortSt->Prop}(f:kindOf st=oneType')(c:oE x)(g:oE y)(h:∀b,Q (some b) st):wpS (model prog w) A E s (lt' x y) Q st:=by
 obtain⟨a,t,d⟩:=c;obtain⟨b,u,e⟩:=g;rw[lt'_eq];refine Vs (Ys ?_);rw[f,keyLt'_oneType,d,e];exact Vs (wpS_lift (X9 (oneLt_int ⟨rfl,Vy (h _)⟩)))
def wp_rule{st:SortSt}{tag:String}{Q:Unit->SortSt->Prop}(h:Q () st):wpS (model prog w) A E s (liftM (rule tag):StateT SortSt Sem Unit) Q st:=wpS_lift (aaj ⟨rfl,h⟩)
def a8{st:SortSt}{Q:Keyed->SortSt->Prop}(hi:i<arr.size)(h:Q arr[i] st):wpS (model prog w) A E s (elem' arr i) Q st:=by
 rw[elem'_eq,Y9 arr i hi];exact Vy h
def we{st:SortSt}{left:Bool}{key:Keyed}{Q:Option Bool->SortSt->Prop}(c:kindOf st=oneType')(f:∀x∈arr,oE x)(e:oE key)(d:j<arr.size)(h:∀b,Q (some b) st):
  wpS (model prog w) A E s (elem' arr j >>= fun x=>if left=true then lt' x key else (lt' key x >>= fun r=>pure (Option.map (fun b=>!b) r))) Q st:=by
 refine Vs (a8 d ?_);have a:=f arr[j] (Xg d);cases left
 .exact Vs (wK c e a fun b=>Vy (h _))
 .exact wK c a e h
def oh{st:SortSt}{left:Bool}{key:Keyed}{base hint:Nat}{Q:Option Nat->SortSt->Prop}(m:kindOf st=oneType')(q:∀x∈arr,oE x)(p:oE key)(G:hint<n)(F:base+n<=arr.size)(h:∀k,k<=n->Q (some k) st):wpS (model prog w) A E s (QP left key arr base n hint) Q st:=by
 unfold QP;refine Vs (we m q p (by lia) fun right=>?_)
 have d:∀{f:Nat->Option (Option Nat)×Nat×Nat->StateT SortSt Sem (ForInStep (Option (Option Nat)×Nat×Nat))} {g:Option (Option Nat)×Nat×Nat->StateT SortSt Sem (Option Nat)} {c:Option (Option Nat)×Nat×Nat} (P:Nat×Nat->Prop),
   (∀i u,P u->wpS (model prog w) A E s (f i (none,u)) (fun r j=>j=st/\((∃v,r=.done (none,v)/\P v)\/∃v,r=.yield (none,v)/\P v)) st)->c.1=none->P c.2->(∀u,P u->wpS (model prog w) A E s (g (none,u)) Q st)->wpS (model prog w) A E s (forIn [0:n] c f >>= g) Q st:=by
  intro f g c P D B C y;refine Vs (Wt (I:=fun _ c j=>j=st/\c.1=none/\P c.2) ?_ ?_ ⟨rfl,B,C⟩)
  .rintro i ⟨o,u⟩ j _ _ ⟨rfl,rfl,e⟩;refine Xb (D i u e) ?_;rintro r j ⟨rfl,⟨v,rfl,t⟩|⟨v,rfl,t⟩⟩
   .exact y v t
   .exact⟨rfl,rfl,t⟩
  .rintro⟨o,u⟩ j ⟨rfl,rfl,e⟩;exact y u e
 cases right
 .dsimp only;simp only[XS,Xo];refine d (fun _=>True) ?_ rfl True.intro ?_
  .rintro i ⟨a,l⟩ _;dsimp only;by_cases z:l≥hint+1
   .rw[Vo z];exact Vy ⟨rfl,.inl ⟨_,rfl,True.intro⟩⟩
   .rw[Vm z];refine Vs (we m q p (by lia) fun b=>?_);cases b
    .exact Vy ⟨rfl,.inr ⟨_,rfl,True.intro⟩⟩
    .exact Vy ⟨rfl,.inl ⟨_,rfl,True.intro⟩⟩
  .rintro⟨a,l⟩ _;dsimp only;refine d (fun u=>u.2<=n) ?_ rfl (by dsimp only;lia) ?_
   .rintro i ⟨lo,hi⟩ e;dsimp only at e ⊢;by_cases z:lo≥hi
    .rw[Vo z];exact Vy ⟨rfl,.inl ⟨_,rfl,e⟩⟩
    .rw[Vm z];refine Vs (we m q p (by lia) fun b=>?_);cases b
     .exact Vy ⟨rfl,.inr ⟨_,rfl,by dsimp only;lia⟩⟩
     .exact Vy ⟨rfl,.inr ⟨_,rfl,e⟩⟩
   .rintro⟨lo,hi⟩ e;exact Vy (h _ e)
 .dsimp only;simp only[Yr];refine d (fun _=>True) ?_ rfl True.intro ?_
  .rintro i ⟨a,l⟩ _;dsimp only;by_cases z:l≥n-hint
   .rw[Vo z];exact Vy ⟨rfl,.inl ⟨_,rfl,True.intro⟩⟩
   .rw[Vm z];refine Vs (we m q p (by lia) fun b=>?_);cases b
    .exact Vy ⟨rfl,.inl ⟨_,rfl,True.intro⟩⟩
    .exact Vy ⟨rfl,.inr ⟨_,rfl,True.intro⟩⟩
  .rintro⟨a,l⟩ _;dsimp only;refine d (fun u=>u.2<=n) ?_ rfl (by dsimp only;lia) ?_
   .rintro i ⟨lo,hi⟩ e;dsimp only at e ⊢;by_cases z:lo≥hi
    .rw[Vo z];exact Vy ⟨rfl,.inl ⟨_,rfl,e⟩⟩
    .rw[Vm z];refine Vs (we m q p (by lia) fun b=>?_);cases b
     .exact Vy ⟨rfl,.inr ⟨_,rfl,by dsimp only;lia⟩⟩
     .exact Vy ⟨rfl,.inr ⟨_,rfl,e⟩⟩
   .rintro⟨lo,hi⟩ e;exact Vy (h _ e)
def aS{α:Type}{c:Prop}[Decidable c]{x y:StateT SortSt Sem α}{Q:α->SortSt->Prop}{st:SortSt}(h1:c->wpS (model prog w) A E s x Q st)(h2:¬c->wpS (model prog w) A E s y Q st):wpS (model prog w) A E s (if c then x else y) Q st:=by
 by_cases z:c
 .rw[Vo z];exact h1 z
 .rw[Vm z];exact h2 z
def pU{α:Type}{c:Prop}[Decidable c]{x y:StateT SortSt Sem α}{Q:α->SortSt->Prop}{st:SortSt}(h2:¬c->wpS (model prog w) A E s y Q st)(h1:c->wpS (model prog w) A E s x Q st):wpS (model prog w) A E s (if c then x else y) Q st:=aS h1 h2
def MK{α β γ δ ε:Type}{P:α×β×γ×δ×ε->Prop}(h:∀a b c d e,P (a,b,c,d,e))(x:α×β×γ×δ×ε):P x:=h x.1 x.2.1 x.2.2.1 x.2.2.2.1 x.2.2.2.2
def My{α β γ δ ε ζ:Type}{P:α×β×γ×δ×ε×ζ->Prop}(h:∀a b c d e f,P (a,b,c,d,e,f))(x:α×β×γ×δ×ε×ζ):P x:=h x.1 x.2.1 x.2.2.1 x.2.2.2.1 x.2.2.2.2.1 x.2.2.2.2.2
def Mx{α β γ δ ε ζ η:Type}{P:α×β×γ×δ×ε×ζ×η->Prop}(h:∀a b c d e f g,P (a,b,c,d,e,f,g))(x:α×β×γ×δ×ε×ζ×η):P x:=h x.1 x.2.1 x.2.2.1 x.2.2.2.1 x.2.2.2.2.1 x.2.2.2.2.2.1 x.2.2.2.2.2.2
def Nr{P R:Nat->Prop}(h:∀m,P m->P (m-1)->R m)(k:∀m,P m)(m:Nat):R m:=h m (k m) (k (m-1))
def Nk{α β:Type}{C P R:α->β->Prop}(h:∀x y,(∀x y,C x y->P x y)->R x y)(k:∀x y,C x y->P x y)(x:α)(y:β):R x y:=h x y k
def MI(a b:Array Keyed)(out:Array Keyed)(ia ib:Nat):Prop:=out.toList.Perm (a.toList.take ia++b.toList.take ib)
def Al(a b out:Array Keyed):Prop:=out.toList.Perm (a.toList++b.toList)
def JU{α:Type}(a b c d:List α):((a++b)++(c++d)).Perm ((a++c)++(b++d)):=by
 rw[Wh,Wh];refine W7 a ?_;rw[<-Wh];rw[<-Wh];exact WA d Xn
def MI.fin{a b:Array Keyed}(h:MI a b out ia ib):(out.toList++(a.toList.drop ia++b.toList.drop ib)).Perm (a.toList++b.toList):=by
 refine(WA _ h).trans ((JU _ _ _ _).trans ?_);rw[Wv,Wv]
def pK(a:Array Keyed)(i:Nat):(a.extract i a.size).toList=a.toList.drop i:=by
 rw[YQ];show(a.toList.drop i).take (a.size-i)=_;rw[Xy (by rw[XT,VI];exact Vu _)]
def Fy(a:Array Keyed)(i k:Nat):(a.extract i (i+k)).toList=(a.toList.drop i).take k:=by
 rw[YQ];show(a.toList.drop i).take (i+k-i)=_;rw[Nat.add_sub_cancel_left]
def MI.done{a b:Array Keyed}(h:MI a b out ia ib):Al a b (out++a.extract ia++b.extract ib):=by
 show(out++a.extract ia a.size++b.extract ib b.size).toList.Perm _;rw[Ww,Ww,pK,pK,Wh];exact h.fin
def MI.last{a b:Array Keyed}(h:MI a b out ia ib):Al a b (out++b.extract ib++a.extract ia):=by
 show(out++b.extract ib b.size++a.extract ia a.size).toList.Perm _;rw[Ww,Ww,pK,pK,Wh];exact(W7 _ Xn).trans h.fin
def uy{a:Array Keyed}(h:i<a.size):a.toList.take (i+1)=a.toList.take i++[a[i]]:=by
 rw[W2];have e:a.toList[i]?=some a[i]:=by rw[WT];exact Y9 a i h
 rw[e];rfl
def DW(a:Array Keyed)(i k:Nat):a.toList.take (i+k)=a.toList.take i++(a.toList.drop i).take k:=List.take_add ..
theorem MI.b{a b out:Array Keyed}{ia ib:Nat}(h:MI a b out ia ib)(c:ib<b.size):MI a b (out.push b[ib]) ia (ib+1):=by
 unfold MI;rw[Xs,uy c,<-Wh];exact WA _ h
theorem MI.a{a b out:Array Keyed}{ia ib:Nat}(h:MI a b out ia ib)(ha:ia<a.size):MI a b (out.push a[ia]) (ia+1) ib:=by
 unfold MI;rw[Xs,uy ha,Wh];refine(WA _ h).trans ?_;rw[Wh];exact W7 _ Xn
def MI.bk{a b:Array Keyed}(h:MI a b out ia ib)(k:Nat):MI a b (out++b.extract ib (ib+k)) ia (ib+k):=by
 unfold MI;rw[Ww,Fy,DW,<-Wh];exact WA _ h
def MI.ak{a b:Array Keyed}(h:MI a b out ia ib)(k:Nat):MI a b (out++a.extract ia (ia+k)) (ia+k) ib:=by
 unfold MI;rw[Ww,Fy,DW,Wh];refine(WA _ h).trans ?_;rw[Wh];exact W7 _ Xn
def Sg(st a:SortSt):Prop:=kindOf a=kindOf st/\arrOf a=arrOf st/\pendingOf a=pendingOf st/\failedOf a=failedOf st
def Sg.refl(st:SortSt):Sg st st:=⟨rfl,rfl,rfl,rfl⟩
def Qw:Nat->StateT SortSt Sem Unit:=sortPriv% PySem.Builtin.setMinGallop
def uU{a st:SortSt}{g:Nat}{Q:Unit->SortSt->Prop}(c:Sg a st)(h:∀b,Sg a b->Q () b):wpS (model prog w) A E s (Qw g) Q st:=by
 unfold Qw;exact X2 (h _ c)
def Mp{st:SortSt}{a b:Array Keyed}{Q:Array Keyed->SortSt->Prop}(W:kindOf st=oneType')(ha:∀x∈a,oE x)(hb:∀x∈b,oE x)(a1:1<=a.size)(b1:1<=b.size)(h:∀out f,Sg st f->Al a b out->Q out f):wpS (model prog w) A E s (QA a b) Q st:=by
 have P:∀{i:Nat} (hi:i<a.size),oE a[i]:=fun hi=>ha _ (Xg hi);have V:∀{i:Nat} (hi:i<b.size),oE b[i]:=fun hi=>hb _ (Xg hi);unfold QA;refine Vs (wp_rule ?_);dsimp only;refine Vs (a8 (by lia) ?_)
 have Y:MI a b #[b[0]] 0 1:=by
  unfold MI;rw[uy (by lia:0<b.size)];exact aaT _
 by_cases z1:1=b.size
 .rw[Vo (by simpa using z1)];exact Vy (h _ _ (Sg.refl _) Y.done)
 rw[Vm (by simpa using z1)];by_cases z2:0+1=a.size
 .rw[Vo (by simpa using z2)];exact Vy (h _ _ (Sg.refl _) Y.last)
 rw[Vm (by simpa using z2)];refine Vs (Ys ?_);refine Vs (Xb (Wt (I:=fun i c f=>Sg st f/\c.1=none/\MI a b c.2.1 c.2.2.1 c.2.2.2.1/\c.2.2.1+1<a.size/\c.2.2.2.1<b.size/\i+1<=c.2.2.1+c.2.2.2.1) (Q:=fun c f=>Sg st f/\∃r,c.1=some r/\Al a b r) ?_ ?_ ⟨Sg.refl _,rfl,Y,by dsimp only;lia,by dsimp only;lia,by dsimp only;lia⟩) ?_)
 .intro i;refine MK fun o out ia ib mg=>?_;intro J _ hi n;have L:=n.1;have H:=n.2.1;have l:=n.2.2.1;have m:=n.2.2.2.1;have e:=n.2.2.2.2.1;have pr:=n.2.2.2.2.2;clear n;dsimp only at H l m e pr ⊢;refine Vs (Xb (Wt (I:=fun j c f=>f=J/\c.1=none/\MI a b c.2.1 c.2.2.1 c.2.2.2.1/\c.2.2.1+1<a.size/\c.2.2.2.1<b.size/\ia+ib+j<=c.2.2.1+c.2.2.2.1) (Q:=fun c f=>f=J/\((∃r,c.1=some r/\Al a b r)\/(c.1=none/\MI a b c.2.1 c.2.2.1 c.2.2.2.1/\c.2.2.1+1<a.size/\c.2.2.2.1<b.size/\ia+ib+1<=c.2.2.1+c.2.2.2.1))) ?_ ?_ ⟨rfl,rfl,l,m,e,by dsimp only;lia⟩) ?_)
  .intro j;refine My fun o out p B ac bc=>?_;intro N _ hj n;have e2:=n.1;have H:=n.2.1;have l:=n.2.2.1;have m:=n.2.2.2.1;have e:=n.2.2.2.2.1;have G:=n.2.2.2.2.2;clear n;subst e2;dsimp only at H l m e G ⊢;refine Vs (a8 e (Vs (a8 (by lia:p<a.size) (Vs (wK (by rw[L.1];exact W) (V e) (P (by lia)) fun bw=>?_)))));cases bw
   .refine Vs (a8 (by lia:p<a.size) ?_);have t:=l.a (by lia:p<a.size);by_cases z:p+1+1=a.size
    .rw[Vo (by simpa using z)];exact Vy ⟨rfl,.inl ⟨_,rfl,t.last⟩⟩
    .rw[Vm (by simpa using z)];split
     .exact Vy ⟨rfl,.inr ⟨rfl,t,by dsimp only;lia,e,by dsimp only;lia⟩⟩
     .exact Vy ⟨rfl,rfl,t,by dsimp only;lia,e,by dsimp only;lia⟩
   .refine Vs (a8 e ?_);have t:=l.b e;by_cases z:B+1=b.size
    .rw[Vo (by simpa using z)];exact Vy ⟨rfl,.inl ⟨_,rfl,t.done⟩⟩
    .rw[Vm (by simpa using z)];split
     .exact Vy ⟨rfl,.inr ⟨rfl,t,m,by dsimp only;lia,by dsimp only;lia⟩⟩
     .exact Vy ⟨rfl,rfl,t,m,by dsimp only;lia,by dsimp only;lia⟩
  .refine My fun o out p B ac bc=>?_;rintro N ⟨rfl,H,l,m,e,G⟩;dsimp only at H l m e G;exact⟨rfl,.inr ⟨H,l,m,e,by dsimp only;lia⟩⟩
  .refine My fun o out p B ac bc=>?_;rintro N ⟨rfl,⟨r,u,al⟩|⟨u,l,m,e,G⟩⟩
   .dsimp only at u ⊢;subst u;exact Vy ⟨L,r,rfl,al⟩
   .dsimp only at u l m e G ⊢;subst u;refine Vs (wp_rule ?_);refine Vs (Xb (Wt (I:=fun j c f=>Sg st f/\c.1=none/\MI a b c.2.1 c.2.2.1 c.2.2.2.1/\c.2.2.1+1<a.size/\c.2.2.2.1<b.size/\p+B<=c.2.2.1+c.2.2.2.1) (Q:=fun c f=>Sg st f/\((∃r,c.1=some r/\Al a b r)\/(c.1=none/\MI a b c.2.1 c.2.2.1 c.2.2.2.1/\c.2.2.1+1<a.size/\c.2.2.2.1<b.size/\p+B<=c.2.2.1+c.2.2.2.1))) ?_ ?_ ⟨L,rfl,l,m,e,Vu _⟩) ?_)
    .intro j;refine Mx fun o out g v F R U=>?_;intro M _ hj n;have y:=n.1;have H:=n.2.1;have l:=n.2.2.1;have m:=n.2.2.2.1;have e:=n.2.2.2.2.1;have q:=n.2.2.2.2.2;clear n;dsimp only at H l m e q ⊢;revert F;apply Nr
     .intro F h1 h2;apply pU
      .exact fun _=>h1
      .exact fun _=>h2
     intro F;refine Vs (uU y fun st4 d=>?_);refine Vs (a8 e ?_);refine Vs (oh (by rw[d.1];exact W) ha (V e) (by lia) (by lia) fun k X=>?_);dsimp only;revert out g
     exact Nk (C:=fun o i=>MI a b o i v/\i+1<a.size/\p+B<=i+v) (fun out g key l m q X=>by
      apply pU
      .exact fun k0=>key out g ⟨l,m,q⟩
      intro k0;have mk:=l.ak k;refine aS (fun z=>Vy ⟨d,.inl ⟨_,rfl,mk.last⟩⟩) (fun z=>?_);refine aS (fun z'=>Vy ⟨d,.inl ⟨_,rfl,mk.done⟩⟩) (fun z'=>?_)
      exact key _ _ ⟨mk,by simp at z z';lia,by lia⟩) (fun out g ⟨l,m,q⟩=>by
      refine Vs (a8 e ?_);have Z:=l.b e;refine aS (fun z=>Vy ⟨d,.inl ⟨_,rfl,Z.done⟩⟩) (fun z=>?_);have O:v+1<b.size:=by simp at z;lia
      refine Vs (a8 (show g<a.size by lia) ?_);refine Vs (oh (by rw[d.1];exact W) hb (P (show g<a.size by lia)) (by lia) (by lia) fun k' hk'=>?_);dsimp only;refine aS (fun k0'=>?_) (fun k0'=>?_)
      .have S:=Z.bk k';refine aS (fun z=>Vy ⟨d,.inl ⟨_,rfl,S.done⟩⟩) (fun z=>?_);have T:v+1+k'<b.size:=by simp at z;lia
       refine Vs (a8 (show g<a.size by lia) ?_);have K:=S.a (show g<a.size by lia);refine aS (fun z=>Vy ⟨d,.inl ⟨_,rfl,K.last⟩⟩) (fun z=>?_);have D:g+1+1<a.size:=by simp at z;lia
       refine aS (fun z=>Vy ⟨d,.inr ⟨rfl,K,D,T,by dsimp only;lia⟩⟩) (fun z=>Vy ⟨d,rfl,K,D,T,by dsimp only;lia⟩)
      .refine Vs (a8 (show g<a.size by lia) ?_);have K:=Z.a (show g<a.size by lia);refine aS (fun z=>Vy ⟨d,.inl ⟨_,rfl,K.last⟩⟩) (fun z=>?_);have D:g+1+1<a.size:=by simp at z;lia
       refine aS (fun z=>Vy ⟨d,.inr ⟨rfl,K,D,O,by dsimp only;lia⟩⟩) (fun z=>Vy ⟨d,rfl,K,D,O,by dsimp only;lia⟩))
    .refine Mx fun o out g v F R U=>?_;rintro M ⟨y,H,l,m,e,q⟩;exact⟨y,.inr ⟨H,l,m,e,q⟩⟩
    .refine Mx fun o out g v F R U=>?_;rintro M ⟨y,⟨r,u,al⟩|⟨u,l,m,e,q⟩⟩
     .dsimp only at u ⊢;subst u;exact Vy ⟨y,r,rfl,al⟩
     .dsimp only at u l m e q ⊢;subst u;exact Vs (uU y fun st4 d=>Vy ⟨d,rfl,l,m,e,by dsimp only;lia⟩)
 .refine MK fun o out ia ib mg=>?_;rintro J ⟨L,H,l,m,e,pr⟩;exfalso;dsimp only at m e pr;lia
 .refine MK fun o out ia ib mg=>?_;rintro J ⟨L,r,u,al⟩;dsimp only at u ⊢;subst u;exact Vy (h _ _ L al)
def MH(a b:Array Keyed)(out:Array Keyed)(na nb:Nat):Prop:=out.toList.Perm (a.toList.drop na++b.toList.drop nb)
def pR(a:Array Keyed)(n:Nat):(a.extract 0 n).toList=a.toList.take n:=by
 rw[YQ];rfl
def kq(a:Array Keyed)(i j:Nat):(a.extract i j).toList=(a.toList.drop i).take (j-i):=by
 rw[YQ]
def MH.fin{a b:Array Keyed}(h:MH a b out na nb):(a.toList.take na++b.toList.take nb++out.toList.reverse).Perm (a.toList++b.toList):=by
 refine(W7 _ ((aag _).trans h)).trans ((JU _ _ _ _).trans ?_);rw[Wv,Wv]
def MH.done{a b:Array Keyed}(h:MH a b out na nb):Al a b (a.extract 0 na++b.extract 0 nb++out.reverse):=by
 unfold Al;rw[Ww,Ww,pR,pR,YR];exact h.fin
def MH.first{a b:Array Keyed}(h:MH a b out na nb):Al a b (b.extract 0 nb++a.extract 0 na++out.reverse):=by
 unfold Al;rw[Ww,Ww,pR,pR,YR];exact(WA _ Xn).trans h.fin
def vf{a:Array Keyed}(h1:1<=n)(h:n-1<a.size):a.toList.drop (n-1)=a[n-1]::a.toList.drop n:=by
 have e:=Y1 (l:=a.toList) (i:=n-1) (by rw[VI];exact h);rw[e,show n-1+1=n by lia];rfl
theorem MH.a{a b out:Array Keyed}{na nb:Nat}(h:MH a b out na nb)(h1:1<=na)(c:na-1<a.size):MH a b (out.push a[na-1]) (na-1) nb:=by
 unfold MH;rw[Xs,vf h1 c];exact(Z5 _ _).trans (List.Perm.cons _ h)
theorem MH.b{a b out:Array Keyed}{na nb:Nat}(h:MH a b out na nb)(h1:1<=nb)(c:nb-1<b.size):MH a b (out.push b[nb-1]) na (nb-1):=by
 unfold MH;rw[Xs,vf h1 c];exact(Z5 _ _).trans ((List.Perm.cons _ h).trans List.perm_middle.symm)
def vm{a:Array Keyed}(h:k<=n):a.toList.drop k=(a.toList.drop k).take (n-k)++a.toList.drop n:=by
 have e:=(Wv (n-k) (a.toList.drop k)).symm;rw[aaZ,show k+(n-k)=n by lia] at e;exact e
def MH.ak{a b:Array Keyed}(h:MH a b out na nb)(h1:k<=na)(c:na<=a.size):MH a b (out++(a.extract k na).reverse) k nb:=by
 unfold MH;rw[Ww,YR,kq,vm h1,Wh];rw[show(List.take (na-k) (List.take (na-k) (List.drop k a.toList)++List.drop na a.toList))=List.take (na-k) (List.drop k a.toList) by rw[<-vm h1]];exact(Xn.trans (List.Perm.append (aag _) h))
def MH.bk{a b:Array Keyed}(h:MH a b out na nb)(h1:k<=nb)(c:nb<=b.size):MH a b (out++(b.extract k nb).reverse) na k:=by
 unfold MH;rw[Ww,YR,kq,vm h1];rw[show(List.take (nb-k) (List.take (nb-k) (List.drop k b.toList)++List.drop nb b.toList))=List.take (nb-k) (List.drop k b.toList) by rw[<-vm h1]];refine(WA _ h).trans ?_;rw[Wh];exact W7 _ (Xn.trans (WA _ (aag _)))
def KW{st:SortSt}{a b:Array Keyed}{Q:Array Keyed->SortSt->Prop}(hk:kindOf st=oneType')(ha:∀x∈a,oE x)(hb:∀x∈b,oE x)(a1:1<=a.size)(b1:1<=b.size)(h:∀out m,Sg st m->Al a b out->Q out m):wpS (model prog w) A E s (QJ a b) Q st:=by
 have V:∀{i:Nat} (hi:i<a.size),oE a[i]:=fun hi=>ha _ (Xg hi);have Z:∀{i:Nat} (hi:i<b.size),oE b[i]:=fun hi=>hb _ (Xg hi);unfold QJ;refine Vs (wp_rule ?_);dsimp only;refine Vs (a8 (show a.size-1<a.size by lia) ?_)
 have m0:MH a b #[a[a.size-1]] (a.size-1) b.size:=by
  unfold MH;rw[vf a1 (by lia),aaP (by rw[VI];exact Vu _),aaP (by rw[VI];exact Vu _)];exact aaT _
 refine aS (fun z=>Vy (h _ _ (Sg.refl _) m0.done)) (fun z1=>?_);refine aS (fun z=>Vy (h _ _ (Sg.refl _) m0.first)) (fun z2=>?_);have na0:1<=a.size-1:=by simp at z1;lia
 have nb0:2<=b.size:=by simp at z2;lia
 refine Vs (Ys ?_);refine Vs (Xb (Wt (I:=fun i c m=>Sg st m/\c.1=none/\MH a b c.2.2.2.1 c.2.1 c.2.2.1/\1<=c.2.1/\c.2.1<=a.size/\2<=c.2.2.1/\c.2.2.1<=b.size/\c.2.1+c.2.2.1+i+1<=a.size+b.size) (Q:=fun c m=>Sg st m/\∃r,c.1=some r/\Al a b r) ?_ ?_ ⟨Sg.refl _,rfl,m0,na0,by dsimp only;lia,nb0,Vu _,by dsimp only;lia⟩) ?_)
 .intro i;refine MK fun o na nb out mg=>?_;intro M _ hi l;have P:=l.1;have K:=l.2.1;have n:=l.2.2.1;have p:=l.2.2.2.1;have d:=l.2.2.2.2.1;have t:=l.2.2.2.2.2.1;have e:=l.2.2.2.2.2.2.1;have pr:=l.2.2.2.2.2.2.2;clear l;dsimp only at K n p d t e pr ⊢;refine Vs (Xb (Wt (I:=fun j c m=>m=M/\c.1=none/\MH a b c.2.2.2.1 c.2.1 c.2.2.1/\1<=c.2.1/\c.2.1<=a.size/\2<=c.2.2.1/\c.2.2.1<=b.size/\c.2.1+c.2.2.1+j<=na+nb) (Q:=fun c m=>m=M/\((∃r,c.1=some r/\Al a b r)\/(c.1=none/\MH a b c.2.2.2.1 c.2.1 c.2.2.1/\1<=c.2.1/\c.2.1<=a.size/\2<=c.2.2.1/\c.2.2.1<=b.size/\c.2.1+c.2.2.1+1<=na+nb))) ?_ ?_ ⟨rfl,rfl,n,p,d,t,e,by dsimp only;lia⟩) ?_)
  .intro j;refine My fun o v u out ac bc=>?_;intro T _ hj l;have e2:=l.1;have K:=l.2.1;have n:=l.2.2.1;have p:=l.2.2.2.1;have d:=l.2.2.2.2.1;have t:=l.2.2.2.2.2.1;have e:=l.2.2.2.2.2.2.1;have J:=l.2.2.2.2.2.2.2;clear l;subst e2;dsimp only at K n p d t e J ⊢;refine Vs (a8 (show u-1<b.size by lia) (Vs (a8 (show v-1<a.size by lia) (Vs (wK (by rw[P.1];exact hk) (Z (by lia)) (V (by lia)) fun bw=>?_)))));cases bw
   .refine Vs (a8 (show u-1<b.size by lia) ?_);have B:=n.b (show 1<=u by lia) (show u-1<b.size by lia);refine aS (fun z=>Vy ⟨rfl,.inl ⟨_,rfl,B.first⟩⟩) (fun z=>?_);have L:2<=u-1:=by simp at z;lia
    refine aS (fun _=>Vy ⟨rfl,.inr ⟨rfl,B,p,d,L,by dsimp only;lia,by dsimp only;lia⟩⟩) (fun _=>Vy ⟨rfl,rfl,B,p,d,L,by dsimp only;lia,by dsimp only;lia⟩)
   .refine Vs (a8 (show v-1<a.size by lia) ?_);have B:=n.a p (show v-1<a.size by lia);refine aS (fun z=>Vy ⟨rfl,.inl ⟨_,rfl,B.done⟩⟩) (fun z=>?_);have L:1<=v-1:=by simp at z;lia
    refine aS (fun _=>Vy ⟨rfl,.inr ⟨rfl,B,L,by dsimp only;lia,t,e,by dsimp only;lia⟩⟩) (fun _=>Vy ⟨rfl,rfl,B,L,by dsimp only;lia,t,e,by dsimp only;lia⟩)
  .refine My fun o v u out ac bc=>?_;rintro T ⟨rfl,K,n,p,d,t,e,J⟩;dsimp only at K n p d t e J;exact⟨rfl,.inr ⟨K,n,p,d,t,e,by dsimp only;lia⟩⟩
  .refine My fun o v u out ac bc=>?_;rintro T ⟨rfl,⟨r,D,al⟩|⟨D,n,p,d,t,e,J⟩⟩
   .dsimp only at D ⊢;subst D;exact Vy ⟨P,r,rfl,al⟩
   .dsimp only at D n p d t e J ⊢;subst D;refine Vs (wp_rule ?_);refine Vs (Xb (Wt (I:=fun j c m=>Sg st m/\c.1=none/\MH a b c.2.2.2.1 c.2.1 c.2.2.1/\1<=c.2.1/\c.2.1<=a.size/\2<=c.2.2.1/\c.2.2.1<=b.size/\c.2.1+c.2.2.1<=v+u) (Q:=fun c m=>Sg st m/\((∃r,c.1=some r/\Al a b r)\/(c.1=none/\MH a b c.2.2.2.1 c.2.1 c.2.2.1/\1<=c.2.1/\c.2.1<=a.size/\2<=c.2.2.1/\c.2.2.1<=b.size/\c.2.1+c.2.2.1<=v+u))) ?_ ?_ ⟨P,rfl,n,p,d,t,e,Vu _⟩) ?_)
    .intro j;refine Mx fun o f q out H W Y=>?_;intro R _ hj l;have F:=l.1;have K:=l.2.1;have n:=l.2.2.1;have p:=l.2.2.2.1;have d:=l.2.2.2.2.1;have t:=l.2.2.2.2.2.1;have e:=l.2.2.2.2.2.2.1;have y:=l.2.2.2.2.2.2.2;clear l;dsimp only at K n p d t e y ⊢;revert H;apply Nr
     .intro H h1 h2;apply pU
      .exact fun _=>h1
      .exact fun _=>h2
     intro H;refine Vs (uU F fun st4 g=>?_);refine Vs (a8 (show q-1<b.size by lia) ?_);refine Vs (oh (by rw[g.1];exact hk) ha (Z (show q-1<b.size by lia)) (by lia) (by lia) fun k S=>?_);dsimp only;generalize hc:f-k=c;revert out f
     exact Nk (C:=fun i o=>MH a b o i q/\1<=i/\i<=a.size/\i+q<=v+u) (fun f out key n p d y S hc=>by
      apply pU
      .exact fun k0=>key f out ⟨n,p,d,y⟩
      intro k0;have mk:=n.ak S (show f<=a.size by lia);refine aS (fun L=>Vy ⟨g,.inl ⟨_,rfl,mk.done⟩⟩) (fun L=>?_)
      exact key _ _ ⟨mk,by simp at L;lia,by lia,by lia⟩) (fun f out ⟨n,p,d,y⟩=>by
      refine Vs (a8 (show q-1<b.size by lia) ?_);have mb:=n.b (show 1<=q by lia) (show q-1<b.size by lia);refine aS (fun z=>Vy ⟨g,.inl ⟨_,rfl,mb.first⟩⟩) (fun z=>?_);have U:2<=q-1:=by simp at z;lia
      refine Vs (a8 (show f-1<a.size by lia) ?_);refine Vs (oh (by rw[g.1];exact hk) hb (V (show f-1<a.size by lia)) (by lia) (by lia) fun k' hk'=>?_);dsimp only;refine aS (fun k0'=>?_) (fun k0'=>?_)
      .have N:=mb.bk hk' (show q-1<=b.size by lia);refine aS (fun z=>Vy ⟨g,.inl ⟨_,rfl,N.first⟩⟩) (fun z=>?_);refine aS (fun L=>Vy ⟨g,.inl ⟨_,rfl,N.done⟩⟩) (fun L=>?_);have X:2<=k':=by simp at z L;lia
       refine Vs (a8 (show f-1<a.size by lia) ?_);have O:=N.a (show 1<=f by lia) (show f-1<a.size by lia);refine aS (fun z=>Vy ⟨g,.inl ⟨_,rfl,O.done⟩⟩) (fun z=>?_);have G:1<=f-1:=by simp at z;lia
       refine aS (fun z=>Vy ⟨g,.inr ⟨rfl,O,G,by dsimp only;lia,X,by dsimp only;lia,by dsimp only;lia⟩⟩) (fun z=>Vy ⟨g,rfl,O,G,by dsimp only;lia,X,by dsimp only;lia,by dsimp only;lia⟩)
      .refine Vs (a8 (show f-1<a.size by lia) ?_);have O:=mb.a (show 1<=f by lia) (show f-1<a.size by lia);refine aS (fun z=>Vy ⟨g,.inl ⟨_,rfl,O.done⟩⟩) (fun z=>?_);have G:1<=f-1:=by simp at z;lia
       refine aS (fun z=>Vy ⟨g,.inr ⟨rfl,O,G,by dsimp only;lia,U,by dsimp only;lia,by dsimp only;lia⟩⟩) (fun z=>Vy ⟨g,rfl,O,G,by dsimp only;lia,U,by dsimp only;lia,by dsimp only;lia⟩))
    .refine Mx fun o f q out H W Y=>?_;rintro R ⟨F,K,n,p,d,t,e,y⟩;exact⟨F,.inr ⟨K,n,p,d,t,e,y⟩⟩
    .refine Mx fun o f q out H W Y=>?_;rintro R ⟨F,⟨r,D,al⟩|⟨D,n,p,d,t,e,y⟩⟩
     .dsimp only at D ⊢;subst D;exact Vy ⟨F,r,rfl,al⟩
     .dsimp only at D n p d t e y ⊢;subst D;exact Vs (uU F fun st4 g=>Vy ⟨g,rfl,n,p,d,t,e,by dsimp only;lia⟩)
 .refine MK fun o na nb out mg=>?_;rintro M ⟨P,K,n,p,d,t,e,pr⟩;exfalso;dsimp only at p t pr;lia
 .refine MK fun o na nb out mg=>?_;rintro M ⟨P,r,D,al⟩;dsimp only at D ⊢;subst D;exact Vy (h _ _ P al)
variable{a₀:Array Keyed}{pd:Array (Nat×Nat×Nat)}
structure PB(a₀:Array Keyed)(pd:Array (Nat×Nat×Nat))(st:SortSt):Prop where
 perm:(arrOf st).Perm a₀
 kind:kindOf st=oneType'
 failed:failedOf st=none
 pend:pendingOf st=pd
theorem PB.size{st:SortSt}(h:PB a₀ pd st):(arrOf st).size=a₀.size:=h.perm.size_eq
def PB.QK{st:SortSt}(h:PB a₀ pd st)(a:∀x∈a₀,oE x):∀x∈arrOf st,oE x:=fun x b=>a x (Yt.mpr ((YT.mp h.perm).mem_iff.mp (Yt.mp b)))
def ej{st:SortSt}{Q:Option Bool->SortSt->Prop}(d:PB a₀ pd st)(e:∀x∈a₀,oE x)(hi:i<a₀.size)(f:j<a₀.size)(h:∀b,Q (some b) st):wpS (model prog w) A E s (ltAt' i j) Q st:=by
 rw[ltAt'_eq];have c:i<(arrOf st).size:=by rw[d.size];exact hi
 have a:j<(arrOf st).size:=by rw[d.size];exact f
 have k:=d.QK e;exact Vs (Ys (Vs (a8 c (Vs (a8 a (wK d.kind (k _ (Xg c)) (k _ (Xg a)) h))))))
def iZ{st:SortSt}{Q:Unit->SortSt->Prop}(b:PB a₀ pd st)(h:∀a,PB a₀ pd a->Q () a):wpS (model prog w) A E s (reverseSlice' i j) Q st:=by
 rw[reverseSlice'_eq];exact X2 (h _ ⟨(mirror_perm _ _ _ _).trans b.perm,b.kind,b.failed,b.pend⟩)
def K8{st:SortSt}{Q:Unit->SortSt->Prop}(b:PB a₀ pd st)(h:∀a,PB a₀ pd a->Q () a):wpS (model prog w) A E s (moveDown' i j) Q st:=by
 rw[moveDown'_eq];exact X2 (h _ ⟨(bubble_perm _ _ _).trans b.perm,b.kind,b.failed,b.pend⟩)
def Md{st:SortSt}{ok:Nat}{Q:Bool->SortSt->Prop}(v:PB a₀ pd st)(t:∀x∈a₀,oE x)(C:lo+n<=a₀.size)(h:∀a,PB a₀ pd a->Q true a):wpS (model prog w) A E s (binarySort' lo n ok) Q st:=by
 unfold binarySort';refine Vs (Xb (Wt (I:=fun _ c a=>PB a₀ pd a/\c.1=none) (Q:=fun c a=>PB a₀ pd a/\c.1=none) ?_ (fun c a q=>q) ⟨v,rfl⟩) ?_)
 .rintro k ⟨o,u⟩ f _ y ⟨e,d⟩;dsimp only at d ⊢;subst d;refine Vs (Xb (Wt (I:=fun _ c a=>a=f/\c.1=none/\c.2.2<=k) (Q:=fun c a=>a=f/\c.1=none/\c.2.2<=k) ?_ (fun c a q=>q) ⟨rfl,rfl,Vu _⟩) ?_)
  .rintro j ⟨o,l,r⟩ i _ B ⟨rfl,d,g⟩;dsimp only at d g ⊢;subst d;refine aS (fun _=>Vy ⟨rfl,rfl,g⟩) (fun z=>?_);refine Vs (ej e t (by lia) (by lia) fun b=>?_);cases b
   .exact Vy ⟨rfl,rfl,g⟩
   .exact Vy ⟨rfl,rfl,by dsimp only;lia⟩
  .rintro⟨o,l,r⟩ i ⟨rfl,d,g⟩;dsimp only at d ⊢;subst d;exact Vs (K8 e fun p m=>Vy ⟨m,rfl⟩)
 .rintro⟨o,u⟩ f ⟨e,d⟩;dsimp only at d ⊢;subst d;exact Vy (h _ e)
def Ll{st:SortSt}{a:Nat}{Q:Option Nat->SortSt->Prop}(L:PB a₀ pd st)(B:∀x∈a₀,oE x)(h1:1<=a)(O:lo+a<=a₀.size)(h:∀m e,PB a₀ pd e->1<=m->m<=a->Q (some m) e):wpS (model prog w) A E s (countRun' lo a) Q st:=by
 unfold countRun';refine Vs (Xb (Wt (I:=fun x c e=>PB a₀ pd e/\c.1=none/\1<=c.2/\c.2<=a/\(c.2=x\/a<=x)) (Q:=fun c e=>PB a₀ pd e/\c.1=none/\1<=c.2/\c.2<=a) ?_ ?_ ⟨L,rfl,Vu _,h1,.inl rfl⟩) ?_)
 .rintro x ⟨o,n⟩ H G u ⟨k,f,g,i,r⟩;dsimp only at f g i r ⊢;subst f;refine Vs (ej k B (by lia) (by lia) fun b=>?_);cases b
  .exact Vy ⟨k,rfl,by dsimp only;lia,by dsimp only;lia,by dsimp only;lia⟩
  .exact Vy ⟨k,rfl,g,i⟩
 .rintro⟨o,n⟩ H ⟨k,f,g,i,r⟩;exact⟨k,f,g,i⟩
 .rintro⟨o,n⟩ H ⟨k,f,g,i⟩;dsimp only at f g i ⊢;subst f;refine aS (fun _=>Vy (h _ _ k g i)) (fun z=>?_);have N:n<a:=by simp at z;lia
  refine aS (fun M=>?_) (fun M=>?_)
  .refine Vs (ej k B (by lia) (by lia) fun b=>?_);cases b
   .dsimp only;refine aS (fun q=>absurd q (by decide)) (fun _=>?_);refine Vs (iZ k fun K F=>?_);refine Vs (wp_rule ?_);refine Vs (Xb (Wt (I:=fun x c e=>PB a₀ pd e/\c.1=none/\1<=c.2.1/\c.2.1<=a/\(c.2.1=x\/a<=x)) (Q:=fun c e=>PB a₀ pd e/\c.1=none/\1<=c.2.1/\c.2.1<=a) ?_ ?_ ⟨F,rfl,by dsimp only;lia,by dsimp only;lia,.inl rfl⟩) ?_)
    .rintro x ⟨o,J,ne⟩ y G u ⟨j,f,g,i,r⟩;dsimp only at f g i r ⊢;subst f;refine Vs (ej j B (by lia) (by lia) fun b=>?_);cases b
     .refine Vs (ej j B (by lia) (by lia) fun b=>?_);cases b
      .exact Vy ⟨j,rfl,by dsimp only;lia,by dsimp only;lia,by dsimp only;lia⟩
      .exact Vy ⟨j,rfl,g,i⟩
     .dsimp only;refine aS (fun _=>?_) (fun q=>absurd rfl q);refine aS (fun _=>?_) (fun _=>?_)
      .exact Vs (iZ j fun D p=>Vy ⟨p,rfl,by dsimp only;lia,by dsimp only;lia,by dsimp only;lia⟩)
      .exact Vy ⟨j,rfl,by dsimp only;lia,by dsimp only;lia,by dsimp only;lia⟩
    .rintro⟨o,J,ne⟩ y ⟨j,f,g,i,r⟩;exact⟨j,f,g,i⟩
    .rintro⟨o,J,ne⟩ y ⟨j,f,g,i⟩;dsimp only at f g i ⊢;subst f;dsimp only;refine aS (fun _=>?_) (fun _=>?_)
     .refine Vs (iZ j fun D p=>?_);refine Vs (iZ p fun C t=>?_);refine Vs (Xb (Wt (I:=fun x c e=>PB a₀ pd e/\c.1=none/\1<=c.2/\c.2<=a/\(c.2=x\/a<=x)) (Q:=fun c e=>PB a₀ pd e/\c.1=none/\1<=c.2/\c.2<=a) ?_ ?_ ⟨t,rfl,by dsimp only;lia,by dsimp only;lia,.inl rfl⟩) ?_)
      .rintro x ⟨o,v⟩ l G u ⟨d,f,g,i,r⟩;dsimp only at f g i r ⊢;subst f;refine Vs (ej d B (by lia) (by lia) fun b=>?_);cases b
       .exact Vy ⟨d,rfl,by dsimp only;lia,by dsimp only;lia,by dsimp only;lia⟩
       .exact Vy ⟨d,rfl,g,i⟩
      .rintro⟨o,v⟩ l ⟨d,f,g,i,r⟩;exact⟨d,f,g,i⟩
      .rintro⟨o,v⟩ l ⟨d,f,g,i⟩;dsimp only at f g i ⊢;subst f;exact Vy (h _ _ d g i)
     .have p:=j;refine Vs (iZ p fun C t=>?_);refine Vs (Xb (Wt (I:=fun x c e=>PB a₀ pd e/\c.1=none/\1<=c.2/\c.2<=a/\(c.2=x\/a<=x)) (Q:=fun c e=>PB a₀ pd e/\c.1=none/\1<=c.2/\c.2<=a) ?_ ?_ ⟨t,rfl,by dsimp only;lia,by dsimp only;lia,.inl rfl⟩) ?_)
      .rintro x ⟨o,v⟩ l G u ⟨d,f,g,i,r⟩;dsimp only at f g i r ⊢;subst f;refine Vs (ej d B (by lia) (by lia) fun b=>?_);cases b
       .exact Vy ⟨d,rfl,by dsimp only;lia,by dsimp only;lia,by dsimp only;lia⟩
       .exact Vy ⟨d,rfl,g,i⟩
      .rintro⟨o,v⟩ l ⟨d,f,g,i,r⟩;exact⟨d,f,g,i⟩
      .rintro⟨o,v⟩ l ⟨d,f,g,i⟩;dsimp only at f g i ⊢;subst f;exact Vy (h _ _ d g i)
   .exact Vy (h _ _ k g i)
  .have F:=k;refine Vs (wp_rule ?_);refine Vs (Xb (Wt (I:=fun x c e=>PB a₀ pd e/\c.1=none/\1<=c.2.1/\c.2.1<=a/\(c.2.1=x\/a<=x)) (Q:=fun c e=>PB a₀ pd e/\c.1=none/\1<=c.2.1/\c.2.1<=a) ?_ ?_ ⟨F,rfl,by dsimp only;lia,by dsimp only;lia,.inl rfl⟩) ?_)
   .rintro x ⟨o,J,ne⟩ y G u ⟨j,f,g,i,r⟩;dsimp only at f g i r ⊢;subst f;refine Vs (ej j B (by lia) (by lia) fun b=>?_);cases b
    .refine Vs (ej j B (by lia) (by lia) fun b=>?_);cases b
     .exact Vy ⟨j,rfl,by dsimp only;lia,by dsimp only;lia,by dsimp only;lia⟩
     .exact Vy ⟨j,rfl,g,i⟩
    .dsimp only;refine aS (fun _=>?_) (fun q=>absurd rfl q);refine aS (fun _=>?_) (fun _=>?_)
     .exact Vs (iZ j fun D p=>Vy ⟨p,rfl,by dsimp only;lia,by dsimp only;lia,by dsimp only;lia⟩)
     .exact Vy ⟨j,rfl,by dsimp only;lia,by dsimp only;lia,by dsimp only;lia⟩
   .rintro⟨o,J,ne⟩ y ⟨j,f,g,i,r⟩;exact⟨j,f,g,i⟩
   .rintro⟨o,J,ne⟩ y ⟨j,f,g,i⟩;dsimp only at f g i ⊢;subst f;dsimp only;refine aS (fun _=>?_) (fun _=>?_)
    .refine Vs (iZ j fun D p=>?_);refine Vs (iZ p fun C t=>?_);refine Vs (Xb (Wt (I:=fun x c e=>PB a₀ pd e/\c.1=none/\1<=c.2/\c.2<=a/\(c.2=x\/a<=x)) (Q:=fun c e=>PB a₀ pd e/\c.1=none/\1<=c.2/\c.2<=a) ?_ ?_ ⟨t,rfl,by dsimp only;lia,by dsimp only;lia,.inl rfl⟩) ?_)
     .rintro x ⟨o,v⟩ l G u ⟨d,f,g,i,r⟩;dsimp only at f g i r ⊢;subst f;refine Vs (ej d B (by lia) (by lia) fun b=>?_);cases b
      .exact Vy ⟨d,rfl,by dsimp only;lia,by dsimp only;lia,by dsimp only;lia⟩
      .exact Vy ⟨d,rfl,g,i⟩
     .rintro⟨o,v⟩ l ⟨d,f,g,i,r⟩;exact⟨d,f,g,i⟩
     .rintro⟨o,v⟩ l ⟨d,f,g,i⟩;dsimp only at f g i ⊢;subst f;exact Vy (h _ _ d g i)
    .have p:=j;refine Vs (iZ p fun C t=>?_);refine Vs (Xb (Wt (I:=fun x c e=>PB a₀ pd e/\c.1=none/\1<=c.2/\c.2<=a/\(c.2=x\/a<=x)) (Q:=fun c e=>PB a₀ pd e/\c.1=none/\1<=c.2/\c.2<=a) ?_ ?_ ⟨t,rfl,by dsimp only;lia,by dsimp only;lia,.inl rfl⟩) ?_)
     .rintro x ⟨o,v⟩ l G u ⟨d,f,g,i,r⟩;dsimp only at f g i r ⊢;subst f;refine Vs (ej d B (by lia) (by lia) fun b=>?_);cases b
      .exact Vy ⟨d,rfl,by dsimp only;lia,by dsimp only;lia,by dsimp only;lia⟩
      .exact Vy ⟨d,rfl,g,i⟩
     .rintro⟨o,v⟩ l ⟨d,f,g,i,r⟩;exact⟨d,f,g,i⟩
     .rintro⟨o,v⟩ l ⟨d,f,g,i⟩;dsimp only at f g i ⊢;subst f;exact Vy (h _ _ d g i)
theorem JN{xs:Array Keyed}(b:Nat):∀(m:List Keyed) (j:Nat) (xs:Array Keyed),b+j+m.length<=xs.size->((m.zipIdx j).foldl (fun a p=>a.setIfInBounds (b+p.2) p.1) xs).toList=xs.toList.take (b+j)++(m++xs.toList.drop (b+j+m.length))
 |[],j,xs,_=>by
  show xs.toList=_;rw[YX];exact(Wv _ _).symm
 |p::m,j,xs,h=>by
  rw[Wl] at h;rw[List.zipIdx_cons,aaE];have c:=JN (xs:=xs) b m (j+1) (xs.setIfInBounds (b+j) p) (by rw[aay];lia);rw[c,Z6];have d:b+j<xs.toList.length:=by rw[VI];lia
  rw[show b+(j+1)=b+j+1 by lia,W2,List.take_set_of_le (Vu _),YA d,List.drop_set_of_lt (by lia),Wl,Wh];rw[show b+j+1+m.length=b+j+(m.length+1) by lia];rfl
def Lr{st a:SortSt}{Q:PUnit->SortSt->Prop}(h:Q ⟨⟩ a):wpS (model prog w) A E s (set a:StateT SortSt Sem PUnit) Q st:=Vp ⟨rfl,h⟩
def LN{st:SortSt}{d v c q:Nat}{Q:Bool->SortSt->Prop}(r:PB a₀ pd st)(R:∀x∈a₀,oE x)(O:pd[i]?=some (d,na,v))(p2:pd[i+1]?=some (c,nb,q))(e:c=d+na)(hn:c+nb<=a₀.size)(n1:1<=na)(n2:1<=nb)(h:∀u,PB a₀ ((pd.setIfInBounds i (d,na+nb,v)).eraseIdxIfInBounds (i+1)) u->Q true u):wpS (model prog w) A E s (mergeAt' i) Q st:=by
 unfold mergeAt';refine Vs (Ys ?_);have P:=r.size;have hK:=r.QK R;obtain⟨T,b,C,mg,N⟩:=st;have e1:T=oneType':=r.kind;have e2:N=none:=r.failed;have e3:C=pd:=r.pend;have e4:b.Perm a₀:=r.perm;subst e1 e2 e3;have U:b.size=a₀.size:=P;have f:∀x∈b,oE x:=hK;dsimp only;rw[O,p2];dsimp only;refine Vs (Lr ?_);refine Vs (a8 (show c<b.size by lia) ?_);refine Vs (oh rfl f (f _ (Xg _)) (by lia) (by lia) fun k hk=>?_);dsimp only;have t:PB a₀ ((C.setIfInBounds i (d,na+nb,v)).eraseIdxIfInBounds (i+1)) (SortSt.mk' oneType' b ((C.setIfInBounds i (d,na+nb,v)).eraseIdxIfInBounds (i+1)) mg none):=⟨e4,rfl,rfl,rfl⟩;refine aS (fun _=>Vy (h _ t)) (fun z=>?_);have z':k<na:=by simp at z;lia
 refine Vs (a8 (show d+k+(na-k)-1<b.size by lia) ?_);refine Vs (oh rfl f (f _ (Xg _)) (by lia) (by lia) fun m hm=>?_);dsimp only;refine aS (fun _=>Vy (h _ t)) (fun X=>?_);have Y:1<=m:=by simp at X;lia
 have V:(b.extract (d+k) c).size=na-k:=by rw[Array.size_extract];lia
 have W:(b.extract c (c+m)).size=m:=by rw[Array.size_extract];lia
 have I:∀x∈b.extract (d+k) c,oE x:=fun x F=>f x (by
  have:=Yt.mp F;rw[kq] at this
  exact Yt.mpr (List.mem_of_mem_drop (YS this)))
 have K:∀x∈b.extract c (c+m),oE x:=fun x F=>f x (by
  have:=Yt.mp F;rw[kq] at this
  exact Yt.mpr (List.mem_of_mem_drop (YS this)))
 have J:∀merged:Array Keyed,Al (b.extract (d+k) c) (b.extract c (c+m)) merged->(merged.toList.zipIdx.foldl (fun a x=>match x with|(p,j)=>a.setIfInBounds (d+k+j) p) b).Perm a₀:=fun merged al=>by
  refine(YT.mpr ?_).trans e4;have o:merged.toList.Perm ((b.extract (d+k) c).toList++(b.extract c (c+m)).toList):=al;have L:merged.toList.length=na-k+m:=by rw[o.length_eq,V5,VI,VI,V,W]
  have Z:=JN (xs:=b) (d+k) merged.toList 0 b (by rw[L];lia);have H:(merged.toList.zipIdx.foldl (fun a x=>match x with|(p,j)=>a.setIfInBounds (d+k+j) p) b).toList=_:=Z;rw[H,Nat.add_zero,L]
  have e5:(b.extract (d+k) c).toList++(b.extract c (c+m)).toList=(b.toList.drop (d+k)).take (na-k+m):=by
   rw[kq,kq,List.take_add,aaZ];rw[show c-(d+k)=na-k by lia,show c+m-c=m by lia,show d+k+(na-k)=c by lia]
  rw[e5] at o;refine(W7 _ (WA _ o)).trans ?_;have S:b.toList.drop (d+k+(na-k+m))=(b.toList.drop (d+k)).drop (na-k+m):=by rw[aaZ]
  rw[S,Wv,Wv]
 refine aS (fun _=>?_) (fun _=>?_)
 .refine Vs (Mp rfl I K (by lia) (by lia) fun merged l g al=>?_);obtain⟨D,y,n,M,B⟩:=l;have e1:D=oneType':=g.1;have e2:y=b:=g.2.1;have e3:n=_:=g.2.2.1;have G:B=none:=g.2.2.2;subst e1 e2 e3 G;refine Vs (X2 ?_);refine Vs (Ys ?_);exact Vy (h _ ⟨J merged al,rfl,rfl,rfl⟩)
 .refine Vs (KW rfl I K (by lia) (by lia) fun merged l g al=>?_);obtain⟨D,y,n,M,B⟩:=l;have e1:D=oneType':=g.1;have e2:y=b:=g.2.1;have e3:n=_:=g.2.2.1;have G:B=none:=g.2.2.2;subst e1 e2 e3 G;refine Vs (X2 ?_);refine Vs (Ys ?_);exact Vy (h _ ⟨J merged al,rfl,rfl,rfl⟩)
def Cg:List (Nat×Nat×Nat)->Nat->Nat->Prop
 |[],b,e=>b=e
 |u::l,b,e=>u.1=b/\1<=u.2.1/\Cg l (b+u.2.1) e
theorem IT:∀{l:List (Nat×Nat×Nat)} {b e:Nat},Cg l b e->b<=e
 |[],_,_,h=>Zx h
 |_::_,_,_,⟨_,_,h⟩=>V7 (Nat.le_add_right _ _) (IT h)
theorem E2:∀{l:List (Nat×Nat×Nat)} {b e i:Nat} {u v:Nat×Nat×Nat},Cg l b e->l[i]?=some u->l[i+1]?=some v->(v.1=u.1+u.2.1/\1<=u.2.1/\1<=v.2.1/\v.1+v.2.1<=e)/\Cg ((l.set i (u.1,u.2.1+v.2.1,u.2.2)).eraseIdx (i+1)) b e
 |[],_,_,_,_,_,_,h,_=>by cases h
 |[_],_,_,0,_,_,_,_,h=>by cases h
 |x::y::l,b,e,0,u,v,⟨h1,h2,d,k,j⟩,f,g=>by
  cases f;cases g;have:=IT j;refine⟨⟨by rw[d,h1],h2,k,by rw[d];exact this⟩,h1,by dsimp only;lia,?_⟩;show Cg l (b+(x.2.1+y.2.1)) e;rw[<-Nat.add_assoc];exact j
 |x::l,b,e,i+1,u,v,⟨h1,h2,d⟩,f,g=>by
  obtain⟨a,c⟩:=E2 (i:=i) d f g;exact⟨a,h1,h2,c⟩
theorem Ef:∀{l:List (Nat×Nat×Nat)} {b e n q:Nat},Cg l b e->1<=n->Cg (l++[(e,n,q)]) b (e+n)
 |[],_,_,_,_,h,h1=>by cases h;exact⟨rfl,h1,rfl⟩
 |_::_,_,_,_,_,⟨a,c,d⟩,h1=>⟨a,c,Ef d h1⟩
def pN{pd:Array (Nat×Nat×Nat)}{e q:Nat}(h:Cg pd.toList 0 e)(h1:1<=n):Cg (pd.push (e,n,q)).toList 0 (e+n):=by
 rw[Xs];exact Ef h h1
theorem Et{f:Nat×Nat×Nat->Nat×Nat×Nat}(a:∀u,(f u).1=u.1/\(f u).2.1=u.2.1):∀{l:List (Nat×Nat×Nat)} {b e:Nat} (i:Nat),Cg l b e->Cg (l.modify i f) b e
 |[],_,_,i,h=>by rw[List.modify_nil];exact h
 |u::l,b,e,0,⟨h1,h2,c⟩=>by
  rw[List.modify_zero_cons];refine⟨(a u).1.trans h1,by rw[(a u).2];exact h2,by rw[(a u).2];exact c⟩
 |u::l,b,e,i+1,⟨h1,h2,c⟩=>by
  rw[List.modify_succ_cons];exact⟨h1,h2,Et a i c⟩
def cX{pd:Array (Nat×Nat×Nat)}{e:Nat}{f:Nat×Nat×Nat->Nat×Nat×Nat}(h:Cg pd.toList 0 e)(a:∀u,(f u).1=u.1/\(f u).2.1=u.2.1:=by intro u;exact⟨rfl,rfl⟩):Cg (pd.modify i f).toList 0 e:=by
 rw[Array.toList_modify];exact Et a i h
def ET{st:SortSt}{Q:Bool->SortSt->Prop}(r:PB a₀ pd st)(k:∀x∈a₀,oE x)(p:Cg pd.toList 0 lo)(g:lo<=a₀.size)(hi:i+1<pd.size)(h:∀b a,PB a₀ b a->Cg b.toList 0 lo->Q true a):wpS (model prog w) A E s (mergeAt' i) Q st:=by
 obtain⟨⟨n,na,v⟩,e⟩:∃u,pd[i]?=some u:=⟨_,Y9 pd i (by lia)⟩;obtain⟨⟨t,nb,q⟩,p2⟩:∃u,pd[i+1]?=some u:=⟨_,Y9 pd (i+1) hi⟩;have q1:pd.toList[i]?=some (n,na,v):=by rw[WT];exact e
 have l:pd.toList[i+1]?=some (t,nb,q):=by rw[WT];exact p2
 obtain⟨⟨o,j,f,m⟩,c⟩:=E2 p q1 l;refine LN r k e p2 o (by dsimp only at m;lia) j f fun a d=>h _ a d ?_;rw[Array.eraseIdxIfInBounds,YW (by rw[aay];exact hi),Array.toList_eraseIdx,Z6];exact c
def PB.Aj{st:SortSt}{u:Nat×Nat×Nat}(h:PB a₀ pd st):PB a₀ (pd.push u) (SortSt.mk' (kindOf st) (arrOf st) ((pendingOf st).push u) (gallopOf st) (failedOf st)):=⟨h.perm,h.kind,h.failed,by show(pendingOf st).push u=_;rw[h.pend]⟩
def PB.N7{st:SortSt}{f:Nat×Nat×Nat->Nat×Nat×Nat}(h:PB a₀ pd st):PB a₀ (pd.modify (pd.size-1) f) (SortSt.mk' (kindOf st) (arrOf st) ((pendingOf st).modify ((pendingOf st).size-1) f) (gallopOf st) (failedOf st)):=⟨h.perm,h.kind,h.failed,by show(pendingOf st).modify ((pendingOf st).size-1) f=_;rw[h.pend]⟩
def L7{st:SortSt}{Q:Unit->SortSt->Prop}(O:PB a₀ #[] st)(F:∀x∈a₀,oE x)(h:∀b pd,PB a₀ pd b->Q () b):wpS (model prog w) A E s sortRuns' Q st:=by
 unfold sortRuns';refine Vs (Ys ?_);have M:=O.size;dsimp only[arrOf] at M;dsimp only;rw[M];refine Vs (Xb (Wt (I:=fun _ c b=>∃a,PB a₀ a b/\c.1=none/\Cg a.toList 0 c.2/\c.2<=a₀.size) (Q:=fun c b=>∃a,PB a₀ a b/\c.1=none/\Cg a.toList 0 c.2/\c.2<=a₀.size) ?_ (fun c b q=>q) ⟨#[],O,rfl,(show Cg [] 0 0 from rfl),Wn _⟩) ?_)
 .rintro x ⟨o,lo⟩ L _ Y ⟨l,y,D,B,v⟩;dsimp only at D B v ⊢;subst D;refine aS (fun _=>Vy ⟨l,y,rfl,B,v⟩) (fun Z=>?_);refine Vs (Ll y F (by lia) (by lia) fun m C k m1 m2=>?_);dsimp only;refine aS (fun T=>?_) (fun T=>?_)
  .refine Vs (wp_rule ?_);refine Vs (Md k F (by lia) fun C k=>?_);refine aS (fun q=>absurd q (by decide)) (fun _=>?_)
   have n:1<=min (a₀.size-lo) (minRun' a₀.size a₀.size 0):=by
    have:m<minRun' a₀.size a₀.size 0:=T;lia
   refine Vs (Ys ?_);cases W:(pendingOf C).back? with
   |none =>
    dsimp only;refine Vs (X2 ?_);exact Vy ⟨_,(k.Aj),rfl,pN B n,by dsimp only;lia⟩
   |some u =>
    obtain⟨X,V,q1⟩:=u;dsimp only;refine Vs (Xb (Wt (I:=fun _ c b=>c.1=none/\∃a,PB a₀ a b/\Cg a.toList 0 lo) (Q:=fun c b=>c.1=none/\∃a,PB a₀ a b/\Cg a.toList 0 lo) ?_ (fun c b q=>q) ⟨rfl,l,k,B⟩) ?_)
    .rintro P ⟨G,K⟩ i _ _ ⟨e,j,d,f⟩;dsimp only at e ⊢;subst e;refine Vs (Ys ?_);obtain⟨U,N,g,R,S⟩:=i;dsimp only;have ep:g=j:=d.pend;subst ep;by_cases H:g.size>1
     .rw[Vo H];rw[Y9 g (g.size-2) (by lia)];dsimp only;refine aS (fun _=>Vy ⟨rfl,g,d,f⟩) (fun _=>?_);refine Vs (ET d F f (by lia) (by lia) fun r J t p=>?_);exact Vy ⟨rfl,r,t,p⟩
     .rw[Vm H];exact Vy ⟨rfl,g,d,f⟩
    .rintro⟨G,K⟩ i ⟨e,j,d,f⟩;dsimp only at e ⊢;subst e;refine Vs (X2 ?_);refine Vs (X2 ?_);exact Vy ⟨_,d.N7.Aj,rfl,pN (cX f) n,by dsimp only;lia⟩
  .have n:=m1;refine Vs (Ys ?_);cases W:(pendingOf C).back? with
   |none =>
    dsimp only;refine Vs (X2 ?_);exact Vy ⟨_,(k.Aj),rfl,pN B n,by dsimp only;lia⟩
   |some u =>
    obtain⟨X,V,q1⟩:=u;dsimp only;refine Vs (Xb (Wt (I:=fun _ c b=>c.1=none/\∃a,PB a₀ a b/\Cg a.toList 0 lo) (Q:=fun c b=>c.1=none/\∃a,PB a₀ a b/\Cg a.toList 0 lo) ?_ (fun c b q=>q) ⟨rfl,l,k,B⟩) ?_)
    .rintro P ⟨G,K⟩ i _ _ ⟨e,j,d,f⟩;dsimp only at e ⊢;subst e;refine Vs (Ys ?_);obtain⟨U,N,g,R,S⟩:=i;dsimp only;have ep:g=j:=d.pend;subst ep;by_cases H:g.size>1
     .rw[Vo H];rw[Y9 g (g.size-2) (by lia)];dsimp only;refine aS (fun _=>Vy ⟨rfl,g,d,f⟩) (fun _=>?_);refine Vs (ET d F f (by lia) (by lia) fun r J t p=>?_);exact Vy ⟨rfl,r,t,p⟩
     .rw[Vm H];exact Vy ⟨rfl,g,d,f⟩
    .rintro⟨G,K⟩ i ⟨e,j,d,f⟩;dsimp only at e ⊢;subst e;refine Vs (X2 ?_);refine Vs (X2 ?_);exact Vy ⟨_,d.N7.Aj,rfl,pN (cX f) n,by dsimp only;lia⟩
 .rintro⟨o,lo⟩ L ⟨l,y,D,B,v⟩;dsimp only at D B v ⊢;subst D;refine Vs (Xb (Wt (I:=fun _ c b=>c.1=none/\∃a,PB a₀ a b/\Cg a.toList 0 lo) (Q:=fun c b=>c.1=none/\∃a,PB a₀ a b/\Cg a.toList 0 lo) ?_ (fun c b q=>q) ⟨rfl,l,y,B⟩) ?_)
  .rintro P ⟨G,K⟩ i _ _ ⟨e,j,d,f⟩;dsimp only at e ⊢;subst e;refine Vs (Ys ?_);obtain⟨U,N,g,R,S⟩:=i;dsimp only;have ep:g=j:=d.pend;subst ep;refine aS (fun _=>Vy ⟨rfl,g,d,f⟩) (fun z=>?_);have key:∀(c:Prop) [Decidable c],(if c then g.size-2-1 else g.size-2)+1<g.size:=fun c _=>by split<;>lia
   refine Vs (ET d F f (by lia) (key _) fun r J t p=>?_);exact Vy ⟨rfl,r,t,p⟩
  .rintro⟨G,K⟩ i ⟨e,j,d,f⟩;dsimp only at e ⊢;subst e;exact Vy (h _ _ d)
variable{vs:List Value}{ns:List Int}{a kS:Addr}{keys:Array Value}{e e1:Nat}{P:PySem.Fin->Shared->Prop}
theorem w_:∀{vs:List Value},(∀v∈vs,∃n t,v=Value.int n t)->IntsAre vs (vs.map numOf)
 |[],_=>.nil
 |v::vs,h=>by
  obtain⟨n,t,rfl⟩:=h v (VC ..);exact .cons n t (w_ fun u a=>h u (Vw _ a))
def BC{vs:List Value}{ns:List Int}(h:us.Perm vs)(b:IntsAre vs ns):∃a,IntsAre us a/\a.Perm ns:=by
 refine⟨us.map numOf,w_ fun v c=>b.all v (h.mem_iff.mp c),?_⟩;rw[<-b.nums];exact h.map _
def Kp(a kS:Addr)(h h':Heap):Prop:=∀b o,b≠a->b≠kS->h.get? b=some o->h'.get? b=some o
def Kt{st:SortSt}(m:s.heap.get? kS=some (seqObj "list" keys e))(na:s.heap.get? a=some (seqObj "list" #[] e1))(j:kS≠a)(hz:keys.size<=1000)(g:(arrOf st).size<=1000)(f:failedOf st=none)
  (h:∀h' tk c,Kp a kS s.heap h'->h'.get? a=some (seqObj "list" ((arrOf st).map (·.2)) c)->P (.done (.ret .none)) {s with heap:=h',toks:=tk}):wpAny (model prog w) A (ksk_tail a false e1 (.ref kS) st) P E s:=by
 have k:=V_ s.heap kS (Obj.mapSeq fun _=>(#[]:Array Value));have d:(s.heap.update kS (Obj.mapSeq fun _=>(#[]:Array Value))).get? a=some (seqObj "list" #[] e1):=(k.2 a j.symm).trans na;have l:=V_ (s.heap.update kS (Obj.mapSeq fun _=>(#[]:Array Value))) a (Obj.mapSeq fun _=>(arrOf st).map (·.2));obtain⟨c2,i⟩:∃c2,((s.heap.update kS (Obj.mapSeq fun _=>(#[]:Array Value))).update a (Obj.mapSeq fun _=>(arrOf st).map (·.2))).get? a=some (seqObj "list" ((arrOf st).map (·.2)) c2):=⟨_,Y2 d fun _=>(arrOf st).map (·.2)⟩;have p:((arrOf st).map (·.2)).size<=1000:=by rw[Array.size_map];exact g
 unfold ksk_tail;dsimp only;refine Vl (Z7 m rfl ?_ (by rw[X0];lia) (Wn _));refine Vl (wpAny_letGo (Vl (seqEpoch_at d rfl ?_)));refine Vl (Z7 d rfl ?_ (Wn _) (by show((arrOf st).map (·.2)).size<=_;rw[X0];lia));rw[f];simp only[XS,Xo,bne_self_eq_false];refine Vp (h _ _ c2 (fun b o b1 b2 n=>?_) i);exact(l.2 b b1).trans ((k.2 b b2).trans n)
def s_end(m:s.heap.get? kS=some (seqObj "list" keys e))(na:s.heap.get? a=some (seqObj "list" #[] e1))(g:kS≠a){j:List Int}(d:IntsAre keys.toList j)(i:j.length=vs.length)(h2:2<=vs.length)(n:vs.length<=1000)
  (h:∀h' tk out c,Kp a kS s.heap h'->h'.get? a=some (seqObj "list" out c)->out.toList.Perm vs->P (.done (.ret .none)) {s with heap:=h',toks:=tk}):wpAny (model prog w) A (ksk_end a false vs.toArray e1 (.ref kS) keys) P E s:=by
 have hsz:keys.size=vs.length:=by
  have h1:=d.length;rw[VI] at h1;lia
 have f:(keys.zip vs.toArray).size=vs.length:=by rw[Array.size_zip,hsz,VQ,Nat.min_self]
 unfold ksk_end;dsimp only;rw[Vm (by decide),Vm (by rw[VQ];lia),Vm (by rw[VQ];lia),ksk_kind d (by lia)];refine Vl (Vp ?_);have k:∀x∈keys.zip vs.toArray,oE x:=fun x o=>ksk_intKeys (vs:=vs) d x (Yt.mp o);refine Vl (XF (L7 (a₀:=keys.zip vs.toArray) (st:=SortSt.mk' oneType' (keys.zip vs.toArray) #[] 7 none) (Q:=fun _ b=>∃pd,PB (keys.zip vs.toArray) pd b) ⟨Array.Perm.refl _,rfl,rfl,rfl⟩ k fun b pd hp=>⟨pd,hp⟩) ?_ fun _ _ z=>z);rintro⟨⟨⟩,b⟩ s' ⟨rfl,pd,hp⟩;dsimp only;refine Kt m na g (by lia) (by rw[hp.size,f];exact n) hp.failed fun h' tk c kp l=>h h' tk _ c kp l ?_;have q:=(YT.mp hp.perm).map Prod.snd;rw[Array.toList_map];rw[ksk_zip] at q;have e2:(keys.toList.zip vs).map Prod.snd=vs:=List.map_snd_zip (Zx (hsz.symm.trans (VI (xs:=keys)).symm));rw[e2] at q;exact q
variable{l:Addr}{Q:Value->Shared->Prop}
def o9(n:Int):Int:=if n<0 then -n else n
def CM{a:List Int}(h:IntsAre us a):us.length=a.length:=h.length
def GH{b:List Int}{x:Value}(h:IntsAre us b)(a:us[j]?=some x):∃n t,x=Value.int n t/\b[j]?=some n:=by
 induction h generalizing j with
 |nil=>cases a
 |cons n t _ c =>
  cases j with
  |zero=>cases a;exact⟨n,t,rfl,rfl⟩
  |succ j=>exact c a
def J7(H:s.heap.get? kS=some (seqObj "list" #[] 0))(na:s.heap.get? a=some (seqObj "list" #[] e1))(l:kS≠a)(F:IntsAre vs ns)(h2:2<=vs.length)(L:vs.length<=1000)
  (h:∀h' tk out c,Kp a kS s.heap h'->h'.get? a=some (seqObj "list" out c)->out.toList.Perm vs->P (.done (.ret .none)) {s with heap:=h',toks:=tk}):wpAny (model prog w) A (ksk_rest a (.builtin "abs") false vs.toArray e1 (.ref kS)) P E s:=by
 have J:=CM F;unfold ksk_rest;refine Vl (aaj ?_);rw[List.forIn_toArray];refine Vl (ksk_fold (fun i s'=>∃h' tk f e,s'={s with heap:=h',toks:=tk}/\Kp a kS s.heap h'/\h'.get? kS=some (seqObj "list" f e)/\h'.get? a=some (seqObj "list" #[] e1)/\IntsAre f.toList ((ns.map o9).take i)) vs 0 s ⟨s.heap,s.toks,#[],0,rfl,fun _ _ _ _ z=>z,H,na,IntsAre.nil⟩ ?_ ?_)
 .rintro j x s' D ⟨h',tk,f,e,rfl,kp,d,g,k⟩;simp only[Nat.zero_add] at k ⊢;obtain⟨n,t,rfl,r⟩:=GH F D;have O:j<vs.length:=(VE.mp D).1;have q:(ns.map o9)[j]?=some (o9 n):=by rw[VJ,r];rfl
  have hz:f.size<=1000:=by
   have h1:=k.length;rw[VI,Xz] at h1;lia
  refine Vl (X9 (call_abs_int fun u I=>?_));dsimp only;have G:=V_ h' kS (Obj.mapSeq (·.push (.int (o9 n) u)));obtain⟨c2,v⟩:∃c2,(h'.update kS (Obj.mapSeq (·.push (.int (o9 n) u)))).get? kS=some (seqObj "list" (f.push (.int (o9 n) u)) c2):=⟨_,Y2 d (·.push (.int (o9 n) u))⟩;have ek:(ns.map o9).take (j+1)=(ns.map o9).take j++[o9 n]:=by rw[W2,q];rfl
  have N:(f.push (Value.int (o9 n) u)).toList=f.toList++[Value.int (o9 n) u]:=Xs ..;refine Vl (Z7 d rfl ?_ (by rw[X0];lia) (V7 (Zx (Array.size_push ..)) (by rw[X0];lia)));refine Vp ⟨rfl,_,_,f.push (.int (o9 n) u),c2,rfl,fun b o b1 b2 C=>(G.2 b b2).trans (kp b o b1 b2 C),v,(G.2 a l.symm).trans g,by rw[N,ek];exact ksk_snoc k⟩
 .rintro s' ⟨h',tk,f,e,rfl,kp,d,g,k⟩
  have m:IntsAre f.toList (ns.map o9):=by
   rw[Xy (by rw[Vx];lia)] at k;exact k
  refine Vl (listItems_at d rfl ?_);exact s_end d g l m (by rw[Vx];lia) h2 L fun M p out c B y K=>h M p out c (fun b o b1 b2 C=>B b o b1 b2 (kp b o b1 b2 C)) y K
def Mw(f:s.heap.get? a=some (seqObj "list" vs.toArray n))(j:IntsAre vs ns)(h2:2<=vs.length)(m:vs.length<=1000)
  (h:∀h' tk out c,(∀b o,b≠a->s.heap.get? b=some o->h'.get? b=some o)->h'.get? a=some (seqObj "list" out c)->out.toList.Perm vs->P (.done (.ret .none)) {s with heap:=h',toks:=tk}):wpAny (model prog w) A (ksk_tree a (.builtin "abs") false) P E s:=by
 have ha:a<s.heap.objs.size:=VF f;have p:=V_ s.heap a (Obj.mapSeq fun _=>(#[]:Array Value));obtain⟨e1,e⟩:∃e1,(s.heap.update a (Obj.mapSeq fun _=>(#[]:Array Value))).get? a=some (seqObj "list" #[] e1):=⟨_,Y2 f fun _=>#[]⟩;have d:((s.heap.update a (Obj.mapSeq fun _=>(#[]:Array Value))).push (seqObj "tuple" vs.toArray 0)).objs.size=s.heap.objs.size+1:=by rw[size_push',Heap.size_update]
 unfold ksk_tree;refine Vl (listItems_at f rfl ?_);refine Vl (Z7 f rfl ?_ (by rw[VQ,X0];lia) (Wn _));refine Vl (seqEpoch_at e rfl (Vl (wpAny_newTuple ?_ (by show vs.length<=_;rw[X0];lia))));refine Vl (ZX ?_ (Wn _));refine Xc ?_;refine J7 (s:={s with heap:=((s.heap.update a (Obj.mapSeq fun _=>(#[]:Array Value))).push (seqObj "tuple" vs.toArray 0)).push (seqObj "list" #[] 0)}) (kS:=((s.heap.update a (Obj.mapSeq fun _=>(#[]:Array Value))).push (seqObj "tuple" vs.toArray 0)).objs.size) (VM _ rfl) (Vt _ (Vt _ e)) (by rw[d];exact aan (W0 ha)) j h2 m ?_;intro h' tk out c kp k l;refine h h' tk out c (fun b o b1 i=>?_) k l;have g:b<s.heap.objs.size:=VF i;exact kp b o b1 (by rw[d];exact V2 (W0 g)) (Vt _ (Vt _ ((p.2 b b1).trans i)))
def D8(k:s.heap.IsList l vs.toArray)(g:IntsAre vs ns)(h2:2<=vs.length)(j:vs.length<=1000)
  (h:∀h' tk out c,(∀b o,s.heap.get? b=some o->h'.get? b=some o)->h'.get? (s.heap.objs.size+1)=some (seqObj "list" out c)->out.toList.Perm vs->Q (.ref (s.heap.objs.size+1)) {s with heap:=h',toks:=tk}):wpAny (model prog w) A (call (.builtin "sorted") [.ref l] [(Str.ofString "key",.builtin "abs")]) Q E s:=by
 refine call_function_entry_kw kind_sorted plain_sorted entry_sorted (ksk_s1 _ _) ?_;unfold Builtin.«sorted»;refine Vl (m:=checkCount "sorted" 1 1 _) (Vp (Vl (collect_list k ?_ (by rw[X0];lia))));refine Vl (ZX ?_ (by rw[X0];lia));have hsz:((s.heap.push (seqObj "list" #[] 0)).update s.heap.objs.size (Obj.mapSeq (·++vs.toArray))).objs.size=s.heap.objs.size+1:=by rw[Heap.size_update,size_push']
 have d:(((s.heap.push (seqObj "list" #[] 0)).update s.heap.objs.size (Obj.mapSeq (·++vs.toArray))).push (seqObj "list" vs.toArray 0)).get? (s.heap.objs.size+1)=some (seqObj "list" vs.toArray 0):=by rw[<-hsz];exact VM _ rfl
 have keep:∀b o,s.heap.get? b=some o->(((s.heap.push (seqObj "list" #[] 0)).update s.heap.objs.size (Obj.mapSeq (·++vs.toArray))).push (seqObj "list" vs.toArray 0)).get? b=some o:=fun b o q=>by
  have a:b<s.heap.objs.size:=VF q;rw[Heap.get?_push_ne _ _ _ (by rw[hsz];exact V2 (W0 a)),Heap.get?_update_ne _ _ _ _ (V2 a),Heap.get?_push_ne _ _ _ (V2 a)];exact q
 show wpAny _ _ _ _ _ {s with heap:=((s.heap.push (seqObj "list" #[] 0)).update s.heap.objs.size (Obj.mapSeq (·++vs.toArray))).push (seqObj "list" vs.toArray 0)};rw[hsz];refine Vl (Xc (wpAny_call_entry_kw slot_list_sort ⟨_,d,rfl⟩ entry_list_sort ?_ (ksk_l1 _ _)));rw[ksk_t4];refine Mw d g h2 j fun h' tk out c kp i f=>⟨_,rfl,?_⟩;refine Vp ⟨_,rfl,h h' tk out c (fun b o e=>kp b o (fun z=>?_) (keep b o e)) i f⟩;have a:b<s.heap.objs.size:=VF e;rw[z] at a;exact absurd a (YO.mpr (YC _))
end
end L2.Srt
namespace L2.EP
open PySem PySem.Spec PyProof.Rows
section
variable{X:Cx}{Γ:aL}{e:Expr}{b:Bool}{p q kp pos:Pos}{t:TA}
def Qv(K:PySem.W.Frag)(xs:List V)(H:Hp)(Q:VK):Prop:=∃p,∃ns:List Int,xs=[.ref p]/\dX K H p (ns.map V.int)/\2<=ns.length/\ns.length<=1000/\∀l (a:List Int),H l=none->a.Perm ns->Q (.ref l) (upd H l (.lst (a.map V.int)))
def yG{pins:List (Addr×Obj)}{s:Shared}{σ:St}{H:Hp}{xs:List V}{us:List Value}{Q:VK}(I:Inv X pins σ H s)(r:Vals xs us)(h:Qv X.K xs H Q):wpAny (model X.prog X.w) X.A (call (.builtin "sorted") us [(Str.ofString "key",.builtin "abs")]) (EP X pins σ Q) X.xe s:=by
 obtain⟨p,ns,rfl,i,h2,k,q⟩:=h;obtain⟨u,rfl,e⟩:=vals1 r;cases e;obtain⟨its,d,pl,_⟩:=I.list i;have hi:=intsAre_of d;have l:its.length=ns.length:=by rw[<-d.length,Vx]
 refine L2.Srt.D8 pl.isList hi (by lia) (by lia) fun h' tk out c kp g j=>?_;obtain⟨a,f,b⟩:=L2.Srt.BC j hi
 have lo:(a.map V.int).length<=sizeLine:=by
  rw[Vx,b.length_eq];exact V7 k (by decide)
 exact⟨.ref (s.heap.objs.size+1),_,I.laid (t':=tk) (o:=.lst (a.map V.int)) kp (YC _) ⟨lo,out.toList,c,uv f,g⟩,rfl,q _ a (I.hok.fresh (YC _)) b⟩
def Fc(f:Gl X "sorted")(d:X.mg "sorted"=none)(b:Gl X "abs")(a:X.mg "abs"=none)(ha:PA X [e] t)(he:starEach [e] X.env=(false,eval e X.env)::starEach [] X.env:=by rfl):
  PE X (.Call (.Name "sorted" p) [e] [⟨some (Str.ofString "key"),.Name "abs" q,kp⟩] pos) (fun σ H Q=>t σ H fun vs H1=>Qv X.K vs H1 Q):=by
 intro pins s σ H Q I h;refine XA (hV I f d boot_sorted ?_);refine callWith_kw (b8 (ha pos pins s σ H _ I h) fun us i ⟨vs,H1,c,g,q1⟩=>?_) (by rw[he];rfl) (by rw[he];rfl);refine kws_cons (hV c b a boot_abs (kws_nil ?_));exact yG c g q1
def Fm{ns:List Int}(o:Gl X "sorted")(k:X.mg "sorted"=none)(f:Gl X "abs")(d:X.mg "abs"=none)(ha:E X Γ e b ns)(h2:2<=ns.length)(y:ns.length<=1000)(h:starEach [e] X.env=(false,eval e X.env)::starEach [] X.env:=by rfl):
  EX X Γ (.Call (.Name "sorted" p) [e] [⟨some (Str.ofString "key"),.Name "abs" q,kp⟩] pos) true (fun c:List Int=>c.Perm ns):=by
 with_unfolding_all
  exact aN (Fc o k f d (aB ha bq h) h) fun σ H Q ⟨H0,F,O,S,q⟩=>⟨H0,F,O,S,fun v H1 g s=>by
    obtain⟨p,vs,e,i,n,r⟩:=s;rw[qD r] at i;refine⟨p,ns,by rw[e],(au _ _).seq i,h2,y,fun l c a u=>?_⟩;obtain⟨t,j⟩:=cL (xs:=c.map V.int) (S.go g) a;refine q c _ _ u (g.trans t) ⟨l,_,rfl,dX.of j,Nf.wk (b:=true) ((S.go g).gU a) j,?_⟩;generalize c=m
    induction m with
    |nil=>exact .nil
    |cons x m w=>exact .cons rfl w⟩
def P2(K:PySem.W.Frag)(neg:Bool):R2:=fun x y H Q=>∃p xs d ds,y=.ref p/\dX K H p xs/\DR K H x d/\Ce K H xs ds/\d.canLay0=true/\PyData.canLayAll0 ds=true/\d.depth<=50/\Q (.bl (if neg then !(ds.any fun e=>PyData.eqv e d) else ds.any fun e=>PyData.eqv e d)) H
theorem xM{h:Heap}:∀{us:List Value} {ds:List PyData} {as:List Addr},ReadsAll h us ds as->PyData.canLayAll0 ds=true->∀u∈us,∃c cs,Reads h u c cs/\c.canLay0=true/\c∈ds
 |_,_,_,.nil,_,u,d=>by cases d
 |_,_,_,.cons r f,e,u,d=>by
  rw[PyData.canLayAll0,Wi] at e;rcases Vq.mp d with rfl|d
  .exact⟨_,_,r,e.1,VC ..⟩
  .obtain⟨c,cs,a,b,m⟩:=xM f e.2 u d;exact⟨c,cs,a,b,Vw _ m⟩
theorem uf{h:Heap}{f:Value->Bool}{g:PyData->Bool}:∀{us:List Value} {ds:List PyData} {as:List Addr},ReadsAll h us ds as->PyData.canLayAll0 ds=true->(∀u c cs,Reads h u c cs->c.canLay0=true->f u=g c)->us.any f=ds.any g
 |_,_,_,.nil,_,_=>rfl
 |_,_,_,.cons r b,a,k=>by
  rw[PyData.canLayAll0,Wi] at a;rw[XO,XO,k _ _ _ r a.1,uf b a.2 k]
def eD(h:Heap)(d:PyData)(w:Value):Bool:=open Classical in decide (∃c cs,Reads h w c cs/\c.canLay0=true/\PyData.eqv c d=true)
def M_{h:Heap}{d c:PyData}{w:Value}{cs:List Addr}(r:Reads h w c cs)(lc:c.canLay0=true):eD h d w=PyData.eqv c d:=by
 unfold eD;cases z:PyData.eqv c d with
 |true=>exact @V3 _ (Classical.propDecidable _) ⟨c,cs,r,lc,z⟩
 |false =>
  refine @VW _ (Classical.propDecidable _) ?_;rintro⟨c',a,e,f,b⟩;have:=SeqAt.Reads.unique c c' w cs a lc r e;rw[<-this,z] at b;cases b
def BI(t:X.A.units+60<cLine){neg:Bool}{op:CmpOp}(k:op=if neg then .NotIn else .In):ku X (compareOp op) (P2 X.K neg):=by
 intro pins s σ H x y v u Q I g m h;obtain⟨p,xs,d,ds,rfl,j,l,f,c1,c2,dp,q⟩:=h;cases m;obtain⟨its,r,pl,hz⟩:=I.list j;obtain⟨as,o⟩:=l.reads I g;obtain⟨bs,a⟩:=f.reads I r;have key:∀w c cs,Reads s.heap w c cs->c.canLay0=true->eD s.heap d w=PyData.eqv c d:=fun w c cs i lc=>M_ i lc
 have he:∀w,w∈its.toArray->SeqAt.EqAt X.A.in1 s w v (eD s.heap d w):=fun w n=>by
  obtain⟨c,cs,rc,lc,_⟩:=xM a c2 w (by simpa using n);rw[key w c cs rc lc];refine SeqAt.eqAt_reads c d X.A.in1 s w v cs as rc o lc c1 ?_;have h1:=Nat.min_le_right c.depth d.depth;have h2:X.A.in1.units=X.A.units+1:=rfl;lia
 have b:its.toArray.any (eD s.heap d)=ds.any fun e=>PyData.eqv e d:=by
  rw[show its.toArray.any (eD s.heap d)=its.any (eD s.heap d) by simp];exact uf a c2 key
 subst k;cases neg
 .exact SeqAt.in_listAt _ pl.isList he ⟨.bl _,H,I,rfl,by rw[b];exact q⟩
 .exact SeqAt.notIn_listAt _ pl.isList he ⟨.bl _,H,I,rfl,by rw[b];exact q⟩
def Ic{α:Type}[PyD α]{a:α}{as:List α}{c:Bool}(h:c=true↔a∈as):((as.map PyD.dat).any fun e=>PyData.eqv e (PyD.dat a))=c:=by
 rw[Wy,h,Yl];constructor
 .rintro⟨x,d,e⟩;obtain⟨b,f,rfl⟩:=VG.mp d;rw[<-(PyD.eqv b a).mp e];exact f
 .intro m;exact⟨_,List.mem_map_of_mem m,(PyD.eqv a a).mpr rfl⟩
def GJ{α:Type}[PyD α]{a:α}{as:List α}{c:Bool}(d:X.A.units+60<cLine)(f:PyD.dep α<=50)(h:c=true↔a∈as):CV X .NotIn a as (!c):=⟨_,BI d (neg:=true) rfl,fun N N' H u v Q h1 h2 q=>by
 obtain⟨p,vs,e,b,n,r⟩:=h2
 exact⟨p,vs,_,_,e,b,PyD.dr h1,rq r,PyD.lay a,qt as,V7 (PyD.depth a) f,by rw[Ic h];exact q⟩⟩
end
def Ib{β:Type}[Py β](K:PySem.W.Frag)(b:Bool)(post:β->Prop):Sp:=fun vs H Q _=>∃O,nr H O/\vs=[]/\∀z r H',post z->aD H H'->Py.rp K (Nf H b) (off H' O) r z->Q r H'
section
variable{X:Cx}{Γ:aL}{β:Type}[Py β]{b:Bool}{p pos:Pos}{k:Nat}{name:Str}{ps:List Str}
def E4{post:β->Prop}(C:aI X.prog X.w X.K X.mg X.base k name ps (Ib X.K b post))(d:dv k X.A)(e:Gl X name)(a:(name==("__debug__":Str))=false:=by decide):
  EX X Γ (.Call (.Name name p) [] [] pos) b post:=by
 with_unfolding_all
  obtain⟨f,fd,F,B,kp,m⟩:=C.ex;exact aN (E1 F d e m kp B .nil kI a) fun σ H Q ⟨H0,F,O,S,q⟩=>⟨O,S.own,rfl,fun z r H' hz s' c=>q z r H' hz s' (S.back c)⟩
variable{P:Program}{w:World}{K:PySem.W.Frag}{mg:Str->Option Value}{base:Heap}{N:List Str}{x qual:Str}{st:Stmt}{f:Addr}{fd:FuncData}
def Qs{β:Type}[Py β]{b:Bool}{post:β->Prop}(F:se K x qual st f fd)(e:aj N ps (ag st))(g:ps.length=0)(B:Body P w K mg base N qual st f k [] (wX b post)):ff P w K mg base oo (k+1) f fd ps (Ib K b post):=by
 with_unfolding_all
  refine F.ok e (fun vs H Q E h=>?_) fun a A outer s H vs Q E d h=>?_
  .obtain⟨O,_,rfl,_⟩:=h;rw[g];rfl
  .obtain⟨O,c,rfl,q⟩:=h;exact ko B d c .nil q
variable{D:GD}{α γ δ ε:Type}[Py α][Py γ][Py δ][Py ε]{e e1 e2 e3 e4:Expr}{b1 b2 b3 b4:Bool}{rest:List Stmt}
def vL[PyT α]{xs:List α}{p:Pos}(j:Gl X "list")(i:X.mg "list"=none)(ha:E X Γ e b (yo.mk xs))(c:starEach [e] X.env=(false,eval e X.env)::starEach [] X.env:=by rfl):E X Γ (.Call (.Name "list" p) [e] [] pos) true xs:=by
 with_unfolding_all
  exact aN (tq lY j i Zi (aB ha bq c) (he:=c)) fun σ H Q ⟨H0,F,O,S,q⟩=>⟨H0,F,O,S,fun v H1 a k=>by
    obtain⟨p,vs,e,h,r⟩:=k;refine⟨p,vs,by rw[e],.inr (cK (au _ _) h).t,fun l g=>?_⟩;obtain⟨d,f⟩:=cL (xs:=vs) (S.go a) g
    exact q _ _ (a.trans d) ⟨l,vs,rfl,dX.of f,Nf.wk ((S.go a).gU g) f,bB (fun _ _ z=>PyT.free (fun _ _ t=>aD.rt (ah d) t) z) r⟩⟩
def NX{xs:List α}{k:Int}{p2:Pos}(ha:E X Γ e1 b xs)(s:E X Γ e2 b2 k)(h1:k=-1):E X Γ (.Subscript e1 (.Slice none (some e2) none p2) pos) b (xs.take (xs.length-1)):=by
 with_unfolding_all
  exact aN (mf vQ ha qh (qi s)) fun σ H Q ⟨H0,F,O,S,q⟩=>⟨H0,F,O,S,fun v H1 c j=>⟨H0,F,O,S.go c,fun w H2 a o=>by
    obtain⟨p,vs,e,m,n,r⟩:=j;refine⟨k,o,p,vs,e,(au _ _).seq ((ah a).seq m),fun l f=>?_⟩;obtain⟨g,h⟩:=cL (xs:=jt vs none (some k)) ((S.go c).go a) f;refine q _ _ (c.trans (a.trans g)) ⟨l,_,rfl,dX.of h,Nf.wk (((S.go c).go a).gU f) h,?_⟩;have i:=bL r
    have ec:jt vs none (some k)=vs.take (xs.length-1):=by
     unfold jt;rw[HT.mG]
     have:HT.e8 vs.length vs.length (some k)=xs.length-1:=by
      show(if k<0 then (k+(vs.length:Int)).toNat else min k.toNat vs.length)=_;rw[Vo (by lia),h1];lia
     rw[this];simp only[List.drop_zero,Nat.sub_zero]
    have d:=bB (fun _ _ z=>aw ((ah a).trans (ah g)) z) (uI (xs.length-1) r);rw[<-ec] at d
    exact d⟩⟩
end
def QY{α:Type}{us:List α}(h:us.length=0):us=[]:=YF h
def QZ{α:Type}{us:List α}(h:us.length=1):∃a,us=[a]:=match us,h with|[a],_=>⟨a,rfl⟩
def ln2{α:Type}{us:List α}(h:us.length=2):∃a b,us=[a,b]:=match us,h with|[a,b],_=>⟨a,b,rfl⟩
def Rb{α:Type}{us:List α}(h:us.length=3):∃a b c,us=[a,b,c]:=match us,h with|[a,b,c],_=>⟨a,b,c,rfl⟩
def Q4{α:Type}{us:List α}(h:us.length=4):∃a b c d,us=[a,b,c,d]:=match us,h with|[a,b,c,d],_=>⟨a,b,c,d,rfl⟩
def cD{N P:List Str}{a:Scope}(h1:a.kind=.function:=by rfl)(h2:a.isCoroutine=false:=by rfl)(d:a.isGenerator=false:=by rfl)(b:N.Nodup:=by decide +kernel)(c:N.take P.length=P:=by rfl)(f:∀x∈P,a.names.lookup x=some .local\/a.names.lookup x=some .cell:=by decide +kernel)(e:∀y∈a.names,y.2≠.free:=by decide +kernel):aj N P a:=⟨h1,h2,d,b,c,f,e⟩
section
variable{P:Program}{w:World}{K:PySem.W.Frag}{mg:Str->Option Value}{base h:Heap}{x p q r t:Str}{st:Stmt}{k:Nat}{sp:Sp}
def Df.c0(D:Df K x st)(X:K.In h)(G:h.Ns mainGlobals mg)(ok:∀f fd,se K x x st f fd->ff P w K mg base oo k f fd [] sp)(e:∀(kV doc b:Value) (d:Option Addr) (a ct:Value) (us:List Value),us.length=0->bindArgs (PySem.W.fnOf x x (dD st) (bR st) (ag st) .none kV doc b d a ct) ⟨us,[]⟩=pure (([]:List Str).zip us):=by intro _ _ _ _ _ _ us c;cases QY c;rfl):aI P w K mg base k x [] sp:=D.K4 X G e ok
def Df.c1(D:Df K x st)(X:K.In h)(G:h.Ns mainGlobals mg)(ok:∀f fd,se K x x st f fd->ff P w K mg base oo k f fd [p] sp)(e:∀(kV doc b:Value) (d:Option Addr) (a ct:Value) (us:List Value),us.length=1->bindArgs (PySem.W.fnOf x x (dD st) (bR st) (ag st) .none kV doc b d a ct) ⟨us,[]⟩=pure ([p].zip us):=by intro _ _ _ _ _ _ us c;obtain⟨_,rfl⟩:=QZ c;rfl):aI P w K mg base k x [p] sp:=D.K4 X G e ok
def Df.c2(D:Df K x st)(X:K.In h)(G:h.Ns mainGlobals mg)(ok:∀f fd,se K x x st f fd->ff P w K mg base oo k f fd [p,q] sp)(e:∀(kV doc b:Value) (d:Option Addr) (a ct:Value) (us:List Value),us.length=2->bindArgs (PySem.W.fnOf x x (dD st) (bR st) (ag st) .none kV doc b d a ct) ⟨us,[]⟩=pure ([p,q].zip us):=by intro _ _ _ _ _ _ us c;obtain⟨_,_,rfl⟩:=ln2 c;rfl):aI P w K mg base k x [p,q] sp:=D.K4 X G e ok
def Df.c3(D:Df K x st)(X:K.In h)(G:h.Ns mainGlobals mg)(ok:∀f fd,se K x x st f fd->ff P w K mg base oo k f fd [p,q,r] sp)(e:∀(kV doc b:Value) (d:Option Addr) (a ct:Value) (us:List Value),us.length=3->bindArgs (PySem.W.fnOf x x (dD st) (bR st) (ag st) .none kV doc b d a ct) ⟨us,[]⟩=pure ([p,q,r].zip us):=by intro _ _ _ _ _ _ us c;obtain⟨_,_,_,rfl⟩:=Rb c;rfl):aI P w K mg base k x [p,q,r] sp:=D.K4 X G e ok
def Df.c4(D:Df K x st)(X:K.In h)(G:h.Ns mainGlobals mg)(ok:∀f fd,se K x x st f fd->ff P w K mg base oo k f fd [p,q,r,t] sp)(e:∀(kV doc b:Value) (d:Option Addr) (a ct:Value) (us:List Value),us.length=4->bindArgs (PySem.W.fnOf x x (dD st) (bR st) (ag st) .none kV doc b d a ct) ⟨us,[]⟩=pure ([p,q,r,t].zip us):=by intro _ _ _ _ _ _ us c;obtain⟨_,_,_,_,rfl⟩:=Q4 c;rfl):aI P w K mg base k x [p,q,r,t] sp:=D.K4 X G e ok
end
end L2.EP
namespace L2.EP.K
open PySem PySem.Spec PyProof.Rows
open Q (fr fd)
variable{l xs z:List Int}{x p d q m c A y r:Int}{n i j:Nat}
def top(i:Nat):Stmt:=PySem.Challenge.pw_everyplace_k47_zeros_of_four.main.body.getD i (.Pass ⟨0,0,0,0⟩)
abbrev ll:Stmt:=top 5
abbrev qW:List Str:=["k"]
def xw:aj qW ["k"] (ag ll):=cD
abbrev vP:Stmt:=top 6
abbrev Au:List Str:=["base","exponent","answer","step"]
def mz:aj Au ["base","exponent"] (ag vP):=cD
abbrev lA:Stmt:=top 7
abbrev sd:List Str:=["base","exponent","m","answer","square"]
def cy:aj sd ["base","exponent","m"] (ag lA):=cD
abbrev jW:Stmt:=top 8
abbrev oO:List Str:=["k","divisor","often","left"]
def eQ:aj oO ["k","divisor"] (ag jW):=cD
abbrev hW:Stmt:=top 9
abbrev kK:List Str:=["k","root"]
def gj:aj kK ["k"] (ag hW):=cD
abbrev cO:Stmt:=top 10
abbrev eV:List Str:=["k","root"]
def eI:aj eV ["k"] (ag cO):=cD
abbrev nv:Stmt:=top 11
abbrev sS:List Str:=["k","m","rest","below","factor","factor_below","often","left","factor_left"]
def bG:aj sS ["k","m"] (ag nv):=cD
abbrev fe:Stmt:=top 13
abbrev iz:List Str:=["a","b","rest"]
def cP:aj iz ["a","b"] (ag fe):=cD
abbrev gL:Stmt:=top 14
abbrev k5:List Str:=["top","bottom","divisor"]
def jE:aj k5 ["top","bottom"] (ag gL):=cD
abbrev yu:Stmt:=top 15
abbrev DK:List Str:=["u","v"]
def IA:aj DK ["u","v"] (ag yu):=cD
abbrev gD:Stmt:=top 19
abbrev jX:List Str:=["k","begin","end","divisor"]
def je:aj jX ["k","begin","end"] (ag gD):=cD
abbrev kX:Stmt:=top 20
abbrev qA:List Str:=["k"]
def xF:aj qA ["k"] (ag kX):=cD
abbrev i9:Stmt:=top 21
abbrev mH:List Str:=["k","answer"]
def g9:aj mH ["k"] (ag i9):=cD
abbrev ny:Stmt:=top 22
abbrev tf:List Str:=["k","end","out","found","left","divisor"]
def cZ:aj tf ["k","end"] (ag ny):=cD
abbrev ve:Stmt:=top 23
abbrev An:List Str:=["k","known","last"]
def qO:aj An ["k"] (ag ve):=cD
abbrev iQ:Stmt:=top 24
abbrev lX:List Str:=["k","known","root"]
def g6:aj lX ["k"] (ag iQ):=cD
abbrev uD:Stmt:=top 25
abbrev zU:List Str:=["u","known","number","root","part"]
def gB:aj zU ["u"] (ag uD):=cD
abbrev jP:Stmt:=top 27
abbrev oV:List Str:=["k","p","rest"]
def l8:aj oV ["k","p"] (ag jP):=cD
abbrev eG:Stmt:=top 28
abbrev gY:List Str:=["p","k"]
def dN:aj gY ["p"] (ag eG):=cD
abbrev jC:Stmt:=top 29
abbrev oM:List Str:=["k","p","often"]
def gf:aj oM ["k","p"] (ag jC):=cD
abbrev fc:Stmt:=top 30
abbrev ij:List Str:=["k","p","out","twos","odd","root","error","mender","often","step"]
def aG:aj ij ["k","p"] (ag fc):=cD
abbrev fT:Stmt:=top 31
abbrev jb:List Str:=["k","p","kind"]
def iD:aj jb ["k","p"] (ag fT):=cD
abbrev iY:Stmt:=top 32
abbrev mL:List Str:=["one","m","other","p"]
def sL:aj mL ["one","m","other","p"] (ag iY):=cD
abbrev mX:Stmt:=top 33
abbrev sZ:List Str:=["k","m","answer","done","part","root"]
def dM:aj sZ ["k","m"] (ag mX):=cD
abbrev iK:Stmt:=top 35
abbrev kU:List Str:=["k","p","out","rest"]
def dS:aj kU ["k","p"] (ag iK):=cD
abbrev gN:Stmt:=top 36
abbrev jV:List Str:=["k","p"]
def pF:aj jV ["k","p"] (ag gN):=cD
abbrev kT:Stmt:=top 37
abbrev rV:List Str:=["one","other","reasons"]
def fD:aj rV ["one","other"] (ag kT):=cD
abbrev ly:Stmt:=top 38
abbrev rR:List Str:=["one","other","p","said"]
def fJ:aj rR ["one","other","p"] (ag ly):=cD
abbrev yH:Stmt:=top 39
abbrev Cy:List Str:=["a","b","p","one","other"]
def vz:aj Cy ["a","b","p"] (ag yH):=cD
abbrev jz:Stmt:=top 40
abbrev oG:List Str:=["numbers","found","k","part"]
def gb:aj oG ["numbers"] (ag jz):=cD
abbrev fR:Stmt:=top 43
abbrev jh:List Str:=["k"]
def ni:aj jh ["k"] (ag fR):=cD
abbrev l6:Stmt:=top 44
abbrev rF:List Str:=["row"]
def Ci:aj rF ["row"] (ag l6):=cD
abbrev fK:Stmt:=top 45
abbrev jj:List Str:=["row"]
def nG:aj jj ["row"] (ag fK):=cD
abbrev dZ:Stmt:=top 46
abbrev gQ:List Str:=["a","b","c","p"]
def kZ:aj gQ ["a","b","c","p"] (ag dZ):=cD
abbrev eZ:Stmt:=top 47
abbrev iq:List Str:=["numbers","p","product"]
def gS:aj iq ["numbers","p"] (ag eZ):=cD
abbrev jQ:Stmt:=top 48
abbrev oX:List Str:=["numbers","p"]
def uO:aj oX ["numbers","p"] (ag jQ):=cD
abbrev dG:Stmt:=top 50
abbrev fN:List Str:=["numbers","barring"]
def ik:aj fN ["numbers"] (ag dG):=cD
abbrev fS:Stmt:=top 51
abbrev ji:List Str:=["row"]
def nL:aj ji ["row"] (ag fS):=cD
abbrev lx:Stmt:=top 54
abbrev rk:List Str:=["k","left","p"]
def gX:aj rk ["k"] (ag lx):=cD
abbrev ja:Stmt:=top 58
abbrev lN:List Str:=["p","no_square"]
def kN:aj lN ["p"] (ag ja):=cD
abbrev dI:Stmt:=top 59
abbrev gI:List Str:=["one","other","p","rest"]
def fX:aj gI ["one","other","p"] (ag dI):=cD
abbrev bX:Stmt:=top 60
abbrev c9:List Str:=["found","p"]
def bS:aj c9 [] (ag bX):=cD
abbrev gg:Stmt:=top 61
abbrev iW:List Str:=["k","places"]
def sQ:aj iW ["k","places"] (ag gg):=cD
abbrev dh:Stmt:=top 62
abbrev e9:List Str:=["k","places","wishes","answer","p","classes","own"]
def cQ:aj e9 ["k","places","wishes"] (ag dh):=cD
abbrev j5:Stmt:=top 63
abbrev oS:List Str:=["classes","wishes","own","wish"]
def mw:aj oS ["classes","wishes"] (ag j5):=cD
abbrev d9:Stmt:=top 64
abbrev gC:List Str:=["places","wishes","starts","k","known","further","left","classes"]
def bF:aj gC ["places","wishes"] (ag d9):=cD
abbrev df:Stmt:=top 65
abbrev fg:List Str:=["one","other","p"]
def mj:aj fg ["one","other","p"] (ag df):=cD
abbrev j_:Stmt:=top 66
abbrev n9:List Str:=["one","other","places"]
def q_:aj n9 ["one","other"] (ag j_):=cD
abbrev fV:Stmt:=top 68
abbrev jo:List Str:=["numbers","bottom","u"]
def dj:aj jo ["numbers"] (ag fV):=cD
abbrev cS:Stmt:=top 69
abbrev d8:List Str:=["numbers","bottom"]
def gp:aj d8 ["numbers"] (ag cS):=cD
abbrev cT:Stmt:=top 71
abbrev d_:List Str:=["numbers","divisor","k"]
def cG:aj d_ ["numbers"] (ag cT):=cD
abbrev fL:Stmt:=top 73
abbrev jk:List Str:=["a","b","answer"]
def ig:aj jk ["a","b"] (ag fL):=cD
abbrev hZ:Stmt:=top 74
abbrev kH:List Str:=["a","lesser","root","zero","x","y"]
def gH:aj kH ["a","lesser","root","zero"] (ag hZ):=cD
abbrev fQ:Stmt:=top 75
abbrev jq:List Str:=["k","m","root"]
def iE:aj jq ["k","m"] (ag fQ):=cD
abbrev dF:Stmt:=top 76
abbrev jd:List Str:=["a","b","found","root","lesser"]
def cg:aj jd ["a","b"] (ag dF):=cD
abbrev fW:Stmt:=top 77
abbrev jg:List Str:=["row","one","other","found","root","other_root","x"]
def bu:aj jg ["row"] (ag fW):=cD
abbrev eF:Stmt:=top 80
abbrev gK:List Str:=["numbers"]
def ph:aj gK ["numbers"] (ag eF):=cD
abbrev b7:Stmt:=top 81
abbrev cU:List Str:=["numbers","t","one","other"]
def cI:aj cU ["numbers"] (ag b7):=cD
abbrev eA:Stmt:=top 84
abbrev gG:List Str:=["numbers"]
def jc:aj gG ["numbers"] (ag eA):=cD
abbrev i7:Stmt:=top 85
abbrev mE:List Str:=["x"]
def sj:aj mE ["x"] (ag i7):=cD
abbrev bU:Stmt:=top 86
abbrev cJ:List Str:=["numbers","known","zero"]
def e_:aj cJ ["numbers"] (ag bU):=cD
abbrev ng:Stmt:=top 87
abbrev tK:List Str:=["row"]
def yp:aj tK ["row"] (ag ng):=cD
abbrev g8:Stmt:=top 89
abbrev kQ:List Str:=["_law_script","_law_k"]
def rl:aj kQ ["_law_script","_law_k"] (ag g8):=cD
abbrev nD:Stmt:=top 90
abbrev ug:List Str:=["_law_cell","_law_k","_law_number","_law_j","_law_part"]
def eW:aj ug ["_law_cell","_law_k"] (ag nD):=cD
abbrev j9:Stmt:=top 91
abbrev oR:List Str:=["_law_cell","_law_number","_law_bits","_law_p"]
def dg:aj oR ["_law_cell"] (ag j9):=cD
abbrev nN:Stmt:=top 92
abbrev tL:List Str:=["_law_cell","_law_size","_law_row_here","_law_rest","_law_k","_law_root"]
def dP:aj tL ["_law_cell","_law_size"] (ag nN):=cD
abbrev iM:Stmt:=top 93
abbrev l5:List Str:=["_law_cell","_law_other","_law_size","_law_row_here","_law_place_here","_law_total","_law_k","_law_x"]
def b9:aj l5 ["_law_cell","_law_other","_law_size"] (ag iM):=cD
abbrev gF:Stmt:=top 94
abbrev jx:List Str:=["_law_number","_law_left","_law_p"]
def dH:aj jx ["_law_number"] (ag gF):=cD
abbrev jD:Stmt:=top 95
abbrev oI:List Str:=["_law_k","_law_often","_law_p","_law_found"]
def bY:aj oI ["_law_k","_law_often","_law_p"] (ag jD):=cD
abbrev lq:Stmt:=top 96
abbrev qP:List Str:=["_law_number","_law_p"]
def oP:aj qP ["_law_number","_law_p"] (ag lq):=cD
abbrev jI:Stmt:=top 97
abbrev oN:List Str:=["_law_group","_law_p"]
def uz:aj oN ["_law_group","_law_p"] (ag jI):=cD
abbrev eX:Stmt:=top 98
abbrev il:List Str:=["_law_row_here","_law_sums","_law_number","_law_wider","_law_rest","_law_odd","_law_x","_law_new_rest"]
def aX:aj il ["_law_row_here"] (ag eX):=cD
abbrev eY:Stmt:=top 99
abbrev gM:List Str:=["_law_row_here","_law_p","_law_less_here","_law_plain","_law_divided"]
def gT:aj gM ["_law_row_here","_law_p"] (ag eY):=cD
abbrev jY:Stmt:=top 100
abbrev oY:List Str:=["_law_k","_law_d"]
def iL:aj oY ["_law_k"] (ag jY):=cD
abbrev jJ:Stmt:=top 101
abbrev oJ:List Str:=["_law_p"]
def vw:aj oJ ["_law_p"] (ag jJ):=cD
abbrev iN:Stmt:=top 102
abbrev mB:List Str:=["_law_a","_law_b","_law_rest"]
def fh:aj mB ["_law_a","_law_b"] (ag iN):=cD
abbrev hX:Stmt:=top 103
abbrev kO:List Str:=["_law_row_here","_law_zero","_law_part","_law_total","_law_k"]
def cf:aj kO ["_law_row_here","_law_zero"] (ag hX):=cD
abbrev gZ:Stmt:=top 104
abbrev jZ:List Str:=["_law_cell","_law_other","_law_size","_law_row_here","_law_sign"]
def d7:aj jZ ["_law_cell","_law_other","_law_size"] (ag gZ):=cD
abbrev lD:Stmt:=top 105
abbrev rG:List Str:=["_law_row_here","_law_handed","_law_zero","_law_p"]
def gW:aj rG ["_law_row_here"] (ag lD):=cD
abbrev DI:Stmt:=top 106
abbrev IZ:List Str:=["_law_script","_law_k","_law_row_here"]
def yg:aj IZ ["_law_script"] (ag DI):=cD
section
variable{P:Program}{w:World}{K:PySem.W.Frag}{mg:Str->Option Value}{base:Heap}{f:Addr}{k:Nat}(B:Bu mg)
include B in
theorem zD(x:Int):Body P w K mg base qW "is_whole" ll f kk [.val false x] (RT true true):=by
 intro a A outer s H E b;exact aq (oZ (yT rfl B.isinstance rfl B.int (ae 0)) fun _=>(jG (Dj (yx rfl B.isinstance rfl B.bool (ae 0))))) rfl
def x5(b e m:Int):Int:=b^e.toNat%m
def bh{a:Int}(h:1<=m):a.fmod m=a%m:=Wu a (by lia)
def A9{S:Int}(h:n%2=1):(A*S%m)*(S*S%m)^(n/2)%m=A*S^n%m:=by
 rw[WQ,Yc _ (Xv m),Q.iC,<-WQ,ZR,<-WK,VZ];congr 2;have e:S^n=S^(1+(n/2+n/2)):=by congr 1;lia
 rw[e,WK S 1,VS,V8,Wq,WK]
def vZ{S:Int}(h:n%2=0):A*(S*S%m)^(n/2)%m=A*S^n%m:=by
 rw[WQ,Q.iC,<-WQ,ZR,<-WK];congr 3;lia
def qH{e:Int}(h:0<=e):(e.fdiv 2).toNat=e.toNat/2/\0<=e.fdiv 2:=by
 rw[Wd _ (by decide)];lia
def yO(x e m:Int)(he:0<=e)(c:1<=m)(p:m<2^62):Body P w K mg base sd "power_by" lA f kk [.val false x,.val false e,.val false m] (RT true (x5 x e m)):=by
 intro t A outer s H E y;refine ai 3 cy.nd (aQ af (ae 2) (by lia)) ?_;refine ai 4 cy.nd (aQ (ae 0) (ae 2) (by lia)) ?_;rw[bh c,bh c]
 refine cb (ι:=Bool×Int×Int×Int) (fun i Γ=>Γ=[some (.val false x),some (.val i.1 i.2.1),some (.val false m),some (.val true i.2.2.1),some (.val true i.2.2.2)]/\0<=i.2.1/\i.2.2.1*i.2.2.2^i.2.1.toNat%m=x^e.toNat%m/\0<=i.2.2.1/\i.2.2.1<m/\0<=i.2.2.2/\i.2.2.2<m) (fun i=>i.2.1.toNat) (false,e,1%m,x%m)
  ⟨rfl,he,by dsimp only;rw[WQ,Yc _ (Xv m),Q.iC,<-WQ,Wq],VV _ (by lia),VR _ (by lia),VV _ (by lia),VR _ (by lia)⟩ ?_
 rintro⟨u,n,a,q⟩ Γ' ⟨rfl,r,hi,j,o,v,q1⟩;dsimp only at *;refine⟨_,av fB (ae 1) af,fun b=>?_,fun b=>?_⟩
 .have k:0<n:=by simpa using b
  have d:=qH r;have h:=VV (q*q) (show m≠0 by lia);have l:=VR (q*q) (show 0<m by lia);refine aE (av ax (aQ (ae 1) af (by decide)) af) (fun b=>?_) (fun b=>?_)
  .have g:n.toNat%2=1:=by
    have:n.fmod 2=1:=by simpa using b
    rw[bh (by decide)] at this;lia
   refine ai 3 cy.nd (aQ (aC (ae 3) (ae 4) (mulL (by lia) (by lia))) (ae 2) (by lia)) (aH ?_);refine ai 4 cy.nd (aQ (aC (ae 4) (ae 4) (mulL (by lia) (by lia))) (ae 2) (by lia)) ?_;refine ai 1 cy.nd (aZ (ae 1) af uR) ?_;rw[bh c,bh c];refine aH ⟨(true,n.fdiv 2,a*q%m,q*q%m),⟨rfl,d.2,?_,VV _ (by lia),VR _ (by lia),h,l⟩,?_⟩
   .dsimp only;rw[d.1,A9 g,hi]
   .dsimp only;lia
  .have g:n.toNat%2=0:=by
    have:¬n.fmod 2=1:=by simpa using b
    rw[bh (by decide)] at this;lia
   refine ai 4 cy.nd (aQ (aC (ae 4) (ae 4) (mulL (by lia) (by lia))) (ae 2) (by lia)) ?_;refine ai 1 cy.nd (aZ (ae 1) af uR) ?_;rw[bh c];refine aH ⟨(true,n.fdiv 2,a,q*q%m),⟨rfl,d.2,?_,j,o,h,l⟩,?_⟩
   .dsimp only;rw[d.1,vZ g,hi]
   .dsimp only;lia
 .have hz:n.toNat=0:=by
   have:¬0<n:=by simpa using b
   lia
  rw[hz,V8,VX,XN j o] at hi;refine aq (ae 3) ?_;show Bd.val _ _=Bd.val _ _;unfold x5;rw[<-hi]
def EJ{k l n:Int}(g:0<=n)(he:k=l*d^n.toNat)(e:2<=d)(f:l.fmod d=0)(hz:l≠0):0<=n+1/\k=l.fdiv d*d^(n+1).toNat/\l.fdiv d≠0/\(l.fdiv d).natAbs<l.natAbs:=by
 obtain⟨a,b,c⟩:=Q.EO e (Q.gu.mp f) hz;refine⟨by lia,?_,b,c⟩;rw[show(n+1).toNat=n.toNat+1 by lia,VS,he];generalize d^n.toNat=t;generalize l.fdiv d=q at *;rw[<-a];grind
def xv(x d:Int)(k:x≠0)(c:2<=d)(g:Sm 9000 d):Body P w K mg base oO "taken_out" jW f kk [.val false x,.val false d] (RT true (Q.aV x d)):=by
 intro p A outer s H E u;refine ai 2 eQ.nd af ?_;refine ai 3 eQ.nd (ae 0) ?_;refine cb (ι:=Bool×Int×Int) (fun i Γ=>Γ=[some (.val false x),some (.val false d),some (.val true i.2.1),some (.val i.1 i.2.2)]/\0<=i.2.1/\x=i.2.2*d^i.2.1.toNat/\i.2.2≠0) (fun i=>i.2.2.natAbs) (false,0,x) ⟨rfl,Wo 0,by dsimp only;rw[show(0:Int).toNat=0 from rfl,V8,VX],k⟩ ?_;rintro⟨t,n,l⟩ Γ' ⟨rfl,e,he,q⟩;dsimp only at *;refine⟨_,av ax (aQ (ae 3) (ae 1) (by lia)) af,fun b=>?_,fun b=>?_⟩
 .have a:l.fmod d=0:=by simpa using b
  refine ai 3 eQ.nd (aZ (ae 3) (ae 1) (g.div (by lia))) ?_;refine ai 2 eQ.nd (bC (ae 2) af) ?_;obtain⟨o,j,h,m⟩:=EJ e he c a q;exact aH ⟨(true,n+1,l.fdiv d),⟨rfl,o,j,h⟩,m⟩
 .have a:¬l.fmod d=0:=by simpa using b
  refine aq (bJ (ae 2) (j8 (b':=true) (ae 3))) ?_;show Bd.val _ _=Bd.val _ _;rw[Q.jF c (r:=(n,l)) ⟨e,he,fun z=>a (Q.gu.mpr z)⟩];rfl
def GL{k:Int}(b:0<=k):k<(2:Int)^((Builtin.Int.intBits k+1)/2)*2^((Builtin.Int.intBits k+1)/2):=by
 have d:k.natAbs<2^Builtin.Int.intBits k:=by
  unfold Builtin.Int.intBits;by_cases hz:k=0
  .subst hz;decide
  .rw[Vm (by simpa using hz)];exact Nat.lt_log2_self
 have h2:Builtin.Int.intBits k<=(Builtin.Int.intBits k+1)/2+(Builtin.Int.intBits k+1)/2:=by lia
 have c:(2:Nat)^Builtin.Int.intBits k<=2^((Builtin.Int.intBits k+1)/2+(Builtin.Int.intBits k+1)/2):=XG (by decide) h2;rw[<-WK];have a:((2^((Builtin.Int.intBits k+1)/2+(Builtin.Int.intBits k+1)/2):Nat):Int)=(2:Int)^((Builtin.Int.intBits k+1)/2+(Builtin.Int.intBits k+1)/2):=by rw[ZA];rfl
 rw[<-a];lia
def sI(x:Int)(g:0<=x)(i:Sm 8000 x):Body P w K mg base kK "square_root" hW f k [.val false x] (RT true (Q.rt x)):=by
 intro j A outer s H E t;have q:Builtin.Int.intBits x<=8000:=i.bits
 have d:((Builtin.Int.intBits x:Int)+1).fdiv 2=(((Builtin.Int.intBits x+1)/2:Nat):Int):=by
  rw[Wd _ (by decide)];lia
 refine ai 1 gj.nd (Nq af (aZ (bC (KO (ae 0)) af) af uR) ⟨by rw[d];lia,by rw[d];lia,by decide⟩) ?_;rw[d,Wq,Int.toNat_natCast];have u:=GL g
 have o:Sm 8001 ((2:Int)^((Builtin.Int.intBits x+1)/2)):=by
  unfold Sm;rw[Int.natAbs_pow];exact Nat.pow_lt_pow_right (by decide) (by lia)
 have hp:(0:Int)<2^((Builtin.Int.intBits x+1)/2):=Ws (by decide);generalize (2:Int)^((Builtin.Int.intBits x+1)/2)=R at *
 refine cb (ι:=Int) (fun r Γ=>Γ=[some (.val false x),some (.val true r)]/\0<=r/\r<=R/\x<(r+1)*(r+1)) (fun r=>r.toNat) R ⟨rfl,by lia,by lia,by
  have:R*R<=(R+1)*(R+1):=Q.D6 (by lia) (by lia)
  lia⟩ ?_
 rintro r Γ' ⟨rfl,h,v,n⟩;have b:Sm 8001 r:=Sm.of_le (by lia) o;refine⟨_,av fB (aC (ae 1) (ae 1) (b.ok b)) (ae 0),fun e=>?_,fun e=>?_⟩
 .have a:x<r*r:=by simpa using e
  have c:0<r:=by
   rcases X3 h with z|z
   .exact z
   .rw[<-z] at a;simp at a;lia
  refine ai 1 gj.nd (aZ (bC (ae 1) (aZ (ae 0) (ae 1) (b.div (by lia)))) af uR) ?_;obtain⟨m,p,l⟩:=Q.L0 g c a;exact aH ⟨_,⟨rfl,m,by lia,l⟩,by lia⟩
 .have a:r*r<=x:=by simpa using e
  refine aq (ae 1) ?_;show Bd.val _ _=Bd.val _ _;rw[Q.kc h a n]
def Cv(k:Int):Option Int:=if k<0 then none else if Q.rt k*Q.rt k=k then some (Q.rt k) else none
def OJ{k:Int}(b:0<=k)(a:Sm n k):Sm n (Q.rt k):=by
 have h1:=Q.E5 b;have h2:=Q.iw k;refine Sm.of_le ?_ a
 have:Q.rt k<=k:=by
  rcases W6 (Q.rt k) 1 with z|z
  .lia
  .have:Q.rt k*1<=Q.rt k*Q.rt k:=VB z h2;lia
 lia
abbrev UA(P w K mg base):=aI P w K mg base 1 "square_root" ["k"] (cR K (fun k=>0<=k/\Sm 8000 k) true Q.rt)
def ju(g:UA P w K mg base)(x:Int)(b:Sm 8000 x):Body P w K mg base eV "square_root_or_none" cO f 1 [.val false x] (RT true (Cv x)):=by
 intro d A outer s H E i;refine aE (av gJ (ae 0) af) (fun a=>?_) (fun a=>?_)
 .have e:Cv x=none:=Vo (by simpa using a);rw[e];exact aq (kR (α:=Int)) rfl
 have h:¬x<0:=by simpa using a
 refine ai 1 eI.nd (aF g (i.mono (by decide)) rfl (ae 0) ⟨by lia,b⟩) ?_;have c:=OJ (by lia) b;refine aq (jw (av ax (aC (ae 1) (ae 1) (c.ok c)) (ae 0)) (fun _=>(ae 1).some) fun _=>kR (α:=Int)) ?_;show Bd.val _ _=Bd.val _ _;congr 1;unfold Cv;rw[Vm h];by_cases z:Q.rt x*Q.rt x=x
 .rw[Vo z,Vo (by simpa using z)]
 .rw[Vm z,Vm (by simpa using z)]
include B in
theorem nu(a b:Int):Body P w K mg base iz "common_divisor" fe f k [.val false a,.val false b] (RT true ((Int.gcd a b:Nat):Int)):=by
 intro g A outer s H E h;refine cb (ι:=Bool×Bool×Int×Int) (fun i Γ=>∃r,Γ=[some (.val i.1 i.2.2.1),some (.val i.2.1 i.2.2.2),r]/\Int.gcd i.2.2.1 i.2.2.2=Int.gcd a b) (fun i=>i.2.2.2.natAbs) (false,false,a,b) ⟨none,rfl,rfl⟩ ?_;rintro⟨b1,b2,x,y⟩ Γ' ⟨r,rfl,d⟩;refine⟨_,av fU (ae 1) af,fun e=>?_,fun e=>?_⟩
 .have c:y≠0:=by simpa using e
  refine ai 2 cP.nd (aQ (ae 0) (ae 1) c) ?_;refine ai 0 cP.nd (ae 1) ?_;refine ai 1 cP.nd (ae 2) ?_;exact aH ⟨(b2,true,y,x.fmod y),⟨_,rfl,(Q.mC x y).trans d⟩,Q.A5 x y c⟩
 .have c:y=0:=by simpa using e
  refine aq (gR rfl B.abs (ae 0)) ?_;dsimp only at d ⊢;rw[c,Y6] at d;rw[<-d];show Bd.val _ _=Bd.val _ _;congr 1;split<;>lia
def Pf(_ b:Int):Prop:=b≠0/\Sm 9000 b
abbrev UB(P w K mg base):=aI P w K mg base 1 "common_divisor" ["a","b"] (cw K (fun _ _=>True) true fun a b=>((Int.gcd a b:Nat):Int))
def zc(j:UB P w K mg base)(t b:Int)(e:b≠0)(h:Sm 9000 b):
  Body P w K mg base k5 "fraction" gL f 1 [.val false t,.val false b] (RT true (fr t b)):=by
 intro c A outer s H E i;have g:=Q.wJ (t:=t) e;have hz:Sm 9000 (fd t b):=Sm.of_le (Q.NA e) h;refine ai 2 jE.nd (az j i rfl (ae 0) (ae 1) True.intro) ?_
 have last:∀d:Int,d=fd t b->S (cx P w K mg base k5 "fraction" gL f c A outer s H E) [some (.val false t),some (.val false b),some (.val true d)] [(bR gL).getD 2 (.Pass ⟨0,0,0,0⟩)] (RT true (fr t b)):=by
  rintro d rfl;exact aq (bJ (aZ (ae 0) (ae 2) (hz.div g)) (aZ (ae 1) (ae 2) (hz.div g))) rfl
 refine aE (av gJ (ae 1) af) (fun a=>?_) (fun a=>?_)
 .refine ai 2 jE.nd (fC (ae 2)) (aH ?_);exact last _ (by unfold fd;rw[Vo (by simpa using a)])
 .exact last _ (by unfold fd;rw[Vm (by simpa using a)])
def Oj{b:Int}:i<(Builtin.Range.rangeSize b m 2).toNat↔b+(i:Int)*2<m:=by
 unfold Builtin.Range.rangeSize;simp;split<;>lia
include B in
theorem rJ(q:UA P w K mg base)(x b e:Int)(hp:1<=x/\Sm 8000 x/\1<=b/\b<2^62/\-(2^62)<=e/\e<2^62):
  Body P w K mg base jX "next_divisor" gD f 1 [.val false x,.val false b,.val false e] (RT true (Q.oU x b e)):=by
 intro u A outer s H E p;obtain⟨h1,h2,y,t,v,C⟩:=hp;have m:=Q.iw x;have l:-(2^62)<=(if Q.rt x+1<e then Q.rt x+1 else e)/\(if Q.rt x+1<e then Q.rt x+1 else e)<2^62:=by split<;>lia
 have k:Q.oU x b e=Q.MY x b (if Q.rt x+1<e then Q.rt x+1 else e):=rfl;refine oH (fun i Γ=>∃r,Γ=[some (.val false x),some (.val false b),some (.val false e),r]/\∀j:Nat,j<i->¬(b+(j:Int)*2)∣x) rfl B.range (cu 3 je.nd) (ae 1) (IQ rfl rfl B.min (ae 2) (bC (aF q (p.mono (by decide)) rfl (ae 0) ⟨by lia,h2⟩) af)) af ⟨by lia,t,l.1,l.2⟩ (by decide) ⟨none,rfl,fun j a=>absurd a (Xu _)⟩ ?_ ?_
 .rintro i Γ' hi ⟨r,rfl,a⟩;have h:=Oj.mp hi;refine aE (av ax (aQ (ae 0) (ae 3) (by lia)) af) (fun d=>?_) (fun d=>?_)
  .have g:(b+(i:Int)*2)∣x:=Q.gu.mp (by simpa using d);refine aq (ae 3).some ?_;show Bd.val _ _=Bd.val _ _;rw[k,<-Q.u9 (r:=some (b+(i:Int)*2)) ⟨by lia,h,by lia,g,fun d' q1 n o=>?_⟩];have:=a ((d'-b)/2).toNat (by lia)
   rwa [show b+((((d'-b)/2).toNat:Nat):Int)*2=d' by lia] at this
  .have g:¬(b+(i:Int)*2)∣x:=fun z=>by
    have:=Q.gu.mpr z;simp[this] at d
   refine aH ⟨_,rfl,fun j c=>?_⟩;rcases aat.mp c with z|z
   .exact a j z
   .rw[z];exact g
 .rintro Γ' ⟨r,rfl,a⟩;refine aq (kR (α:=Int)) ?_;show Bd.val _ _=Bd.val _ _;rw[k,<-Q.u9 (r:=none) fun d' q1 n o=>?_];have:=a ((d'-b)/2).toNat (Oj.mpr (by lia))
  rwa [show b+((((d'-b)/2).toNat:Nat):Int)*2=d' by lia] at this
def Ju(k:Int):k.fmod 2=k%2:=Wu k (by decide)
abbrev UC(P w K mg base):=aI P w K mg base 2 "next_divisor" ["k","begin","end"] (tF K (fun k b e=>1<=k/\Sm 8000 k/\1<=b/\b<2^62/\-(2^62)<=e/\e<2^62) true Q.oU)
def yY(e:UC P w K mg base)(x:Int)(d:x<2^62):
  Body P w K mg base qA "is_prime" kX f 2 [.val false x] (RT true (Q.aR x)):=by
 intro c A outer s H E g;refine aE (TW.t (tO (av gJ (ae 0) af) fun _=>(nC (av ax (aQ (ae 0) af (by decide)) af)))) (fun b=>?_) (fun b=>?_)
 .have a:x<3\/x%2=0:=by simpa [Ju] using b
  refine aq (fE ax (ae 0) af) ?_;show Bd.val _ _=Bd.val _ _;congr 1;rw[Wy,Q.bT,WJ];constructor
  .exact .inl
  .rintro(z|z)<;>lia
 .have a:3<=x/\x%2=1:=by
   have:¬(x<3\/x%2=0):=by simpa [Ju] using b
   lia
  refine aq (Ng (dc e (g.mono (by decide)) rfl (ae 0) af (ae 0) ⟨by lia,Sm.le (m:=62) (by unfold Sm;lia) (by decide),by decide,by decide,by lia,d⟩) fun _ _ _ _ h=>nomatch h) ?_;show Bd.val _ _=Bd.val _ _;rw[Q.Iu a.1 a.2]
def OL(k e:Int):Prop:=1<=k/\Sm 900 k/\0<=e/\e<2^61
theorem DC:∀{us:List (Int×Int)} {a b:Int},1<=a->Q.fM a us b->(2:Int)^us.length<=Q.pp us
 |[],_,_,_,_=>by show(2:Int)^0<=1;decide
 |u::us,a,b,ha,h=>by
  have h1:=DC (show 1<=u.1 by have:=h.1;lia) h.2.2.2
  have c:(2:Int)<=u.1^u.2.toNat:=by
   have e:u.2.toNat=(u.2.toNat-1)+1:=by have:=h.2.2.1;lia
   rw[e,VS];have:(0:Int)<u.1^(u.2.toNat-1):=Ws (by have:=h.1;lia);have:=h.1;have:1*2<=u.1^(u.2.toNat-1)*u.1:=We (by lia) (by lia) (by decide) (by lia);lia
  show(2:Int)^(us.length+1)<=u.1^u.2.toNat*Q.pp us;rw[VS,V6];have d:(0:Int)<2^us.length:=Ws (by decide);exact We c h1 (by lia) (by lia)
def FL{k:Int}{fs:List (Int×Int)}{l b:Int}(I:Q.yB k fs l b):l<=k/\(2:Int)^fs.length<=k:=by
 have h1:=I.prod;have h2:=Q.iX (by decide) I.rise;have d:=I.pos;have a:=DC (Wo 1) I.rise;have c:1*l<=Q.pp fs*l:=Wm (by lia) (by lia);have e:Q.pp fs*1<=Q.pp fs*l:=VB (by lia) (by lia);lia
def y9{m:Nat}{k:Int}(h:(2:Int)^m<=k)(a:Sm 900 k):m<=900:=by
 apply Vr;intro b;unfold Sm at a;have h1:(2:Nat)^900<=2^m:=XG (by decide) (by lia);have h2:((2^m:Nat):Int)=(2:Int)^m:=by rw[ZA];rfl
 lia
abbrev UD(P w K mg base):=aI P w K mg base 1 "taken_out" ["k","divisor"] (cw K (fun k d=>k≠0/\2<=d/\Sm 9000 d) true Q.aV)
def Bq(t:UD P w K mg base)(u:UC P w K mg base)(x e:Int)(hp:OL x e):
  Body P w K mg base tf "divided" ny f 2 [.val false x,.val false e] (RT true (Q.bj x e)):=by
 intro J A outer s H E o;obtain⟨h1,h2,X,V⟩:=hp;obtain⟨y,k⟩:=Q.nB h1;have two:Sm 9000 (2:Int):=Sm.le (m:=2) (by unfold Sm;decide) (by decide);refine ai 2 cZ.nd (az t (o.mono (by decide)) rfl (ae 0) af ⟨by lia,by decide,two⟩) ?_;refine qS 3 cZ.nd (OE (av fB (a_ (ae 2)) af) (fun _=>yD (α:=Int×Int) (aJ (bJ af (a_ (ae 2))) ck) (W8 rfl)) fun _=>yD (α:=Int×Int) (b:=true) ck (W8 rfl)) ?_
 have G:(if decide (0<(Q.aV x 2).1)=true then [((2:Int),(Q.aV x 2).1)] else [])=Q.xH x:=by
  unfold Q.xH;by_cases z:0<(Q.aV x 2).1
  .rw[Vo z,Vo (by simpa using z)]
  .rw[Vm z,Vm (by simpa using z)]
 rw[G];refine A7 (α:=Int×Int) 3 true rfl ?_;refine ai 4 cZ.nd (bz (ae 2)) ?_;have j:∀l:Int,0<l->l<=x->Sm 8000 l:=fun l a b=>Sm.le (Sm.of_le (by lia) h2) (by decide);have p:=y.pos;refine ai 5 cZ.nd (dc u (o.mono (by decide)) rfl (ae 4) af (ae 1) ⟨by lia,j _ p k,by decide,by decide,by lia,by lia⟩) ?_;refine cb (ι:=Nat×List (Int×Int)×Int×Int) (fun i Γ=>∃r,Γ=[some (.val false x),some (.val false e),r,some (.own true i.2.1),some (.val true i.2.2.1),some (.val true (Q.oU i.2.2.1 i.2.2.2 e))]/\Q.yB x i.2.1 i.2.2.1 i.2.2.2/\i.2.2.1<=(i.1:Int)/\Q.Bn e i.1 i.2.1 i.2.2.1 i.2.2.2=Q.bj x e) (fun i=>i.1) (x.toNat,Q.xH x,(Q.aV x 2).2,3) ⟨_,rfl,y,by dsimp only;lia,rfl⟩ ?_;rintro⟨n,fs,l,b⟩ Γ' ⟨r,rfl,I,W,v⟩;dsimp only at *;have q:=I.pos;have D:=I.b3;obtain⟨B,g⟩:=FL I;cases n with
 |zero=>lia
 |succ n =>
 refine⟨_,zH (α:=Int) (ae 5) lW,fun h=>?_,fun h=>?_⟩
 .cases c:Q.oU l b e with
  |none=>rw[c] at h;cases h
  |some d =>
   obtain⟨O,R,N,M,C,L⟩:=Q.jA (by lia) (by lia) c;obtain⟨F,T,S,U⟩:=Q.vF (show 2<=d by lia) q C;refine ai 2 cZ.nd (az t (o.mono (by decide)) rfl (ae 4) (eL (α:=Int) (a:=d) (ae 5)) ⟨by lia,by lia,Sm.le (m:=62) (by unfold Sm;lia) (by decide)⟩) ?_;refine mr 3 rfl (j8 (b':=true) (bJ (eL (α:=Int) (a:=d) (ae 5)) (a_ (ae 2)))) (by have:=y9 g h2;lia) ?_;refine ai 4 cZ.nd (bz (ae 2)) ?_;refine ai 5 cZ.nd (dc u (o.mono (by decide)) rfl (ae 4) (bC (eL (α:=Int) (a:=d) (ae 5)) af) (ae 1) ⟨by lia,j _ F (by lia),by lia,by lia,by lia,by lia⟩) ?_;refine aH ⟨(n,fs++[(d,(Q.aV l d).1)],(Q.aV l d).2,d+2),⟨_,rfl,I.step c,by dsimp only;lia,?_⟩,by dsimp only;lia⟩;rw[<-v];show _=Q.Bn e (n+1) fs l b;rw[Q.Bn,c]
 .have c:Q.oU l b e=none:=by
   cases hz:Q.oU l b e with
   |none=>rfl
   |some d=>rw[hz] at h;cases h
  refine dn 3 rfl ?_;have e2:Q.Bn e (n+1) fs l b=(fs,l):=by rw[Q.Bn,c]
  rw[<-v,e2];refine aq (bJ (ae 3) (ae 4)) ?_;rfl
abbrev UE(P w K mg base):=aI P w K mg base 3 "divided" ["k","end"] (cw K OL true Q.bj)
def HS(d:UE P w K mg base)(x:Int)(hp:1<=x/\x<2^60):Body P w K mg base An "parts" ve f 3 [.val false x] (RT true (Q.nR x)):=by
 intro g A outer s H E h;have c:Sm 900 x:=Sm.le (m:=60) (by unfold Sm;lia) (by decide);refine ai 1 qO.nd (az d (h.mono (by decide)) rfl (ae 0) (bC (ae 0) af) ⟨hp.1,c,by lia,by lia⟩) ?_;refine ai 2 qO.nd (jw (av fB (bz (ae 1)) af) (fun _=>(fI (α:=Int×Int) (aJ (bJ (bz (ae 1)) af) ck) (W8 rfl))) fun _=>(fI (α:=Int×Int) ck (W8 rfl))) ?_;obtain⟨b,I,_⟩:=Q.kh (e:=x+1) hp.1;obtain⟨_,a⟩:=FL I;have i:=y9 a c;refine aq (Dn (a_ (ae 1)) (ae 2) ?_) ?_
 .split
  .show _+1<=1000;lia
  .show _+0<=1000;lia
 .show Bd.val _ _=Bd.val _ _;unfold Q.nR;congr 2;by_cases z:1<(Q.bj x (x+1)).2
  .rw[Vo z,Vo (by simpa using z)]
  .rw[Vm z,Vm (by simpa using z)]
def LF(k:Int):Option (List (Int×Int)×Int) :=
 if 1<(Q.bj k 32768).2/\(Q.bj k 32768).2<1073741824 then some ((Q.bj k 32768).1++[((Q.bj k 32768).2,1)],1) else (Cv (Q.bj k 32768).2).map fun q=>((Q.bj k 32768).1,q)
abbrev UG(P w K mg base):=aI P w K mg base 2 "square_root_or_none" ["k"] (cR K (fun k=>Sm 8000 k) true Cv)
def u6(n:xT mg "GREAT_PRIMES_FROM" 32768)(m:xT mg "GREAT_FROM" 1073741824)(j:UE P w K mg base)(o:UG P w K mg base)(x:Int)(hp:1<=x/\Sm 900 x):
  Body P w K mg base lX "tame_parts" iQ f 3 [.val false x] (RT true (LF x)):=by
 intro k A outer s H E i;refine ai 1 g6.nd (az j (i.mono (by decide)) rfl (ae 0) (v9 rfl n) ⟨hp.1,hp.2,by decide,by decide⟩) ?_;obtain⟨b,I,_⟩:=Q.kh (e:=32768) hp.1;obtain⟨l,c⟩:=FL I;have t:=y9 c hp.2;have g:=I.pos;refine aE (Aq gJ gJ af (bz (ae 1)) (v9 rfl m)) (fun d=>?_) (fun d=>?_)
 .have e:LF x=some ((Q.bj x 32768).1++[((Q.bj x 32768).2,1)],1):=Vo (by simpa using d);rw[e];exact aq (iJ (bJ (Dn (a_ (ae 1)) (fI (α:=Int×Int) (b:=true) (aJ (j8 (b':=true) (bJ (bz (ae 1)) af)) ck) (W8 rfl)) (by show _+1<=1000;lia)) af)) rfl
 have e:LF x=(Cv (Q.bj x 32768).2).map fun q=>((Q.bj x 32768).1,q):=Vm (by simpa using d);rw[e];refine ai 2 g6.nd (aF o (i.mono (by decide)) rfl (bz (ae 1)) (Sm.le (Sm.of_le (by lia) hp.2) (by decide))) ?_;cases p:Cv (Q.bj x 32768).2 with
 |none=>exact aq (jw (α:=Option (List (Int×Int)×Int)) (x:=none) (y:=none) (xB (α:=Int) (x:=none) (ae 2) lW) (fun _=>kR (α:=List (Int×Int)×Int)) fun h=>absurd h (by decide)) rfl
 |some r =>
  refine aq (jw (α:=Option (List (Int×Int)×Int)) (x:=none) (y:=some ((Q.bj x 32768).1,r)) (xB (α:=Int) (x:=some r) (ae 2) lW) (fun h=>absurd h VO) fun _=>iJ (bJ (a_ (ae 1)) (eL (α:=Int) (a:=r) (ae 2)))) ?_;rfl
def OU(b e:Int):Int:=b^e.toNat
def Qt(b e:Int):Prop:=1<=b/\0<=e/\e<2^62/\Sm 1000 (b^e.toNat)/\Sm 1000 b
def wY{b:Int}(a:1<=b){m:Nat}(h:m<=n):b^m<=b^n:=by
 obtain⟨d,rfl⟩:∃d,n=m+d:=⟨n-m,by lia⟩;rw[WK];exact Q.i_ (Ws (by lia)) (by have:=Ws (n:=b) (m:=d) (by lia);lia)
include B in
theorem H_(b e:Int)(hp:Qt b e):Body P w K mg base Au "power" vP f kk [.val false b,.val false e] (RT true (OU b e)):=by
 intro h A outer s H E j;obtain⟨h1,h2,g,c,d⟩:=hp;refine ai 2 mz.nd af ?_;refine dQ (n:=e) (fun i Γ=>∃r,Γ=[some (.val false b),some (.val false e),some (.val true (b^i)),r]) rfl B.range (cu 3 mz.nd) (ae 1) (by lia) g ⟨none,by rw[V8];rfl⟩ ?_ ?_
 .rintro i Γ' hi ⟨r,rfl⟩
  have a:Sm 1000 (b^i):=by
   have:=wY h1 (W4 hi);have:=Ws (n:=b) (m:=i) (by lia);exact Sm.of_le (by lia) c
  refine ai 2 mz.nd (aC (ae 2) (ae 0) (a.ok d)) ?_;exact aH ⟨_,by rw[VS];rfl⟩
 .rintro Γ' ⟨r,rfl⟩;exact aq (ae 2) rfl
def Hk{α β:Type}[Py α][Py β](K:PySem.W.Frag)(N:Nn)(H:Hp)(a:α×β):¬Py.rp K N H .non a:=fun⟨_,_,_,e,_⟩=>nomatch e
def o9(i:Int):(if i<0 then -i else i)=(i.natAbs:Int):=by split<;>lia
def MD(u:Int×Int):Prop:=u.1≠0/\1<=u.2/\Sm 400 u.1/\Sm 400 u.2/\Q.Tame (u.1.natAbs*u.2)
def CD{k:Int}(a:1<=k)(c:Q.Tame k):LF k=some (Q.o_ k):=by
 obtain⟨h1,_,_,_⟩:=Q.yA a c;obtain⟨b,I,_⟩:=Q.kh (k:=k) (e:=32768) a;have hp:=I.pos;unfold LF Q.o_;by_cases z:1<(Q.bj k 32768).2/\(Q.bj k 32768).2<1073741824
 .rw[Vo z,Vo z]
 .rw[Vm z,Vm z]
  have h2:Q.rt (Q.bj k 32768).2*Q.rt (Q.bj k 32768).2=(Q.bj k 32768).2:=by
   rcases h1 with h1|h1
   .exact absurd h1 z
   .exact h1
  unfold Cv;rw[Vm (by lia),Vo h2];rfl
abbrev UH(P w K mg base):=aI P w K mg base 2 "fraction" ["top","bottom"] (cw K Pf true fr)
include B in
theorem GX(R:aI P w K mg base 1 "power" ["base","exponent"] (cw K Qt true OU))(X:UH P w K mg base)(S:aI P w K mg base 4 "tame_parts" ["k"] (cR K (fun k=>1<=k/\Sm 900 k) true LF))(u:Int×Int)(hp:MD u):
  Body P w K mg base zU "freed" uD f 4 [.val false u] (RT true (Q.sN u)):=by
 intro Z A outer s H E C;obtain⟨h0,h1,O,G,L⟩:=hp;have q:Sm 400 (u.1.natAbs:Int):=Sm.of_le (by lia) O
 have y:1<=(u.1.natAbs:Int)*u.2:=by
  have:0<(u.1.natAbs:Int)*u.2:=Wj (by lia) (by lia);lia
 have j:Sm 800 ((u.1.natAbs:Int)*u.2):=q.mul G;refine ai 1 gB.nd (aF S (C.mono (by decide)) rfl (eR (aC (gR rfl B.abs (a_ (ae 0))) (bz (ae 0)) (by rw[o9];exact q.ok G)) (by rw[o9])) ⟨y,Sm.le j (by decide)⟩) ?_;rw[CD y L];obtain⟨_,⟨b,e⟩,F,d⟩:=Q.yA y L;have t:Q.sN u=(((Q.o_ (u.1.natAbs*u.2)).1.foldl Q.lI (if 0<u.1 then 1 else -1,(Q.o_ (u.1.natAbs*u.2)).2)).1,fr ((Q.o_ (u.1.natAbs*u.2)).1.foldl Q.lI (if 0<u.1 then 1 else -1,(Q.o_ (u.1.natAbs*u.2)).2)).2 u.2):=rfl;rw[t];generalize (u.1.natAbs:Int)*u.2=k at *;generalize hT:Q.o_ k=T at *;refine aE (xB (α:=List (Int×Int)×Int) (x:=some T) (ae 1) Hk) (fun h=>absurd h (by simp)) (fun h=>?_);refine ai 2 gB.nd (jw (av fB (a_ (ae 0)) af) (fun _=>af) fun _=>(fC af)) ?_
 have D:(if decide (0<u.1)=true then (1:Int) else -1)=(if 0<u.1 then 1 else -1):=by
  by_cases z:0<u.1
  .rw[Vo (by simpa using z),Vo z]
  .rw[Vm (by simpa using z),Vm z]
 rw[D];have p:(if 0<u.1 then (1:Int) else -1)=1\/(if 0<u.1 then (1:Int) else -1)=-1:=by split<;>simp
 generalize (if 0<u.1 then (1:Int) else -1)=o at *;refine ai 3 gB.nd (bz (eL (α:=List (Int×Int)×Int) (a:=T) (ae 1))) ?_;have bd:=fun i=>Q.HR e F p i;rw[d] at bd
 have M:Q.pp T.1<=k:=by
  rw[<-d];exact Q.i_ (Q.iX (by decide) e) (by have:=Wj F F;lia)
 refine oQ (fun i Γ=>∃r,Γ=[some (.val false u),some (.val true (some T)),some (.val true ((T.1.take i).foldl Q.lI (o,T.2)).1),some (.val true ((T.1.take i).foldl Q.lI (o,T.2)).2),r]) (cu 4 gB.nd) (bt (a_ (eL (α:=List (Int×Int)×Int) (a:=T) (ae 1)))) ⟨none,rfl⟩ ?_ ?_
 .rintro i v Γ' J ⟨r,rfl⟩;obtain⟨b1,b2,b3⟩:=bd i;obtain⟨W,v2,v3,v4,v5⟩:=Q.Hn e J;have Y:(T.1.take (i+1)).foldl Q.lI (o,T.2)=Q.lI ((T.1.take i).foldl Q.lI (o,T.2)) v:=nM J;rw[Y];generalize (T.1.take i).foldl Q.lI (o,T.2)=c at *;have sn:Sm 800 c.1:=Sm.of_le b1 j;have U:Sm 800 c.2:=Sm.of_le (by lia) j;have I:Sm 800 v.1:=Sm.of_le (by lia) j;have sp:Sm 800 (v.1^(v.2/2).toNat):=Sm.of_le (by have:=Ws (n:=v.1) (m:=(v.2/2).toNat) (by lia);lia) j;have l:v.2.fdiv 2=v.2/2:=Wd _ (by decide)
  have v2b:v.2<2^62:=by
   apply Vr;intro hn
   have g1:(2:Int)^900<=v.1^(v.2/2).toNat:=by
    have a1:(2:Int)^900<=2^(v.2/2).toNat:=wY (by decide) (by lia)
    have N:∀n:Nat,(2:Int)^n<=v.1^n:=fun n=>by
     induction n with
     |zero=>rw[V8,V8];decide
     |succ n V =>
      rw[VS,VS];exact We V W (by decide) (XH (Ws (by lia)))
    have:=N (v.2/2).toNat;lia
   have g2:(v.1^(v.2/2).toNat).natAbs<2^800:=sp;have g3:((2:Int)^800)<2^900:=by decide +kernel
   have g4:((2^800:Nat):Int)=(2:Int)^800:=by decide +kernel
   lia
  refine lK (fun Γ=>Γ=[some (.val false u),some (.val true (some T)),some (.val true (if v.2%2=1 then c.1*v.1 else c.1)),some (.val true c.2),some (.val true v)]) (av ax (aQ (bz (ae 4)) af (by decide)) af) (fun h=>?_) (fun h=>?_) ?_
  .have g:v.2%2=1:=by simpa [bh] using h
   rw[Vo g];exact ai 2 gB.nd (aC (ae 2) (a_ (ae 4)) (sn.ok I)) (aH rfl)
  .have g:¬v.2%2=1:=by simpa [bh] using h
   rw[Vm g];exact aH rfl
  rintro Γ' rfl;refine ai 3 gB.nd (aC (ae 3) (az R (C.mono (by decide)) rfl (a_ (ae 4)) (aZ (bz (ae 4)) af uR) ⟨by lia,by rw[l];lia,by rw[l];lia,by rw[l];exact Sm.le sp (by decide),Sm.le I (by decide)⟩) (by show IntMulOk c.2 (v.1^(v.2.fdiv 2).toNat);rw[l];exact U.ok sp)) ?_;refine aH ⟨some (.val true v),?_⟩;unfold Q.lI OU;rw[l];rfl
 .rintro Γ' ⟨r,rfl⟩;rw[WO];refine aq (bJ (ae 2) (az X (C.mono (by decide)) rfl (ae 3) (bz (ae 0)) ⟨by lia,Sm.le G (by decide)⟩)) ?_;rfl
abbrev UI(P w K mg base):=aI P w K mg base 1 "power_by" ["base","exponent","m"] (tF K (fun _ e m=>0<=e/\1<=m/\m<2^62) true x5)
def xt(h:UI P w K mg base)(x p:Int)(hp:2<=p)(b:p<2^62):Body P w K mg base oV "square_by" jP f 1 [.val false x,.val false p] (RT true (Q.bf x p)):=by
 intro i A outer s H E g;have d:(p-1).fdiv 2=(p-1)/2:=Wd _ (by decide);refine ai 2 l8.nd (aQ (ae 0) (ae 1) (by lia)) ?_;rw[bh (show 1<=p by lia)];refine aE (TW.t (tO (av ax (ae 2) af) fun _=>(nC (av ax (ae 1) af)))) (fun c=>?_) (fun c=>?_)
 .have a:x%p=0\/p=2:=by simpa using c
  have e:Q.bf x p=x%p:=by
   unfold Q.bf;by_cases z:x%p=0
   .rw[Vo z,z]
   .rcases a with w|w
    .exact absurd w z
    .rw[Vm z,Vo w];subst w;lia
  rw[e];exact aq (ae 2) rfl
 .have a:¬(x%p=0\/p=2):=by simpa using c
  refine aq (jw (av ax (dc h (g.mono (by decide)) rfl (ae 2) (aZ (eU (ae 1) af) af uR) (ae 1) ⟨by rw[d];lia,by lia,b⟩) af) (fun _=>af) fun _=>(fC af)) ?_;show Bd.val _ _=Bd.val _ _;unfold Q.bf x5;rw[Vm (fun z=>a (.inl z)),Vm (fun z=>a (.inr z)),d];congr 1;by_cases z:(x%p)^((p-1)/2).toNat%p=1
  .rw[Vo z,Vo (by simpa using z)]
  .rw[Vm z,Vm (by simpa using z)]
def QM(k m:Int):Prop:=Int.gcd k m=1/\2<=m/\m<2^62
def BK(x m:Int)(q:Int.gcd x m=1)(j:2<=m)(t:m<2^62):Body P w K mg base sS "back_by" nv f kk [.val false x,.val false m] (RT true (Q.tD x m)):=by
 intro B A outer s H E G;refine ai 2 bG.nd (j8 (b':=true) (ae 1)) ?_;refine ai 3 bG.nd (aQ (ae 0) (ae 1) (by lia)) ?_;rw[bh (by lia)];refine ai 4 bG.nd af ?_;refine ai 5 bG.nd af ?_;refine cb (ι:=Int×Int×Int×Int) (fun i Γ=>(∃p o l,Γ=[some (.val false x),some (.val false m),some (.val true i.1),some (.val true i.2.1),some (.val true i.2.2.1),some (.val true i.2.2.2),p,o,l])/\∃u v s,Q.BP x m i.1 i.2.1 i.2.2.1 i.2.2.2 u v s) (fun i=>i.2.1.toNat) (m,x%m,0,1) ⟨⟨none,none,none,rfl⟩,0,1,1,Q.BP.start j q⟩ ?_;rintro⟨r,b,z,h⟩ Γ' ⟨⟨p,o,l,rfl⟩,u,v,s,I⟩;dsimp only at I ⊢;have D:=I.r0;have g:=I.b0;have L:=I.lt;have N:=I.rm;have M:=I.bd;have k:∀{a c:Int},a.natAbs<=m->c.natAbs<=m->IntMulOk a c:=fun {a c} h1 h2=>(show Sm 70 a by unfold Sm;lia).ok (show Sm 70 c by unfold Sm;lia);refine⟨_,av fU (ae 3) af,fun e=>?_,fun e=>?_⟩
 .have d:b≠0:=by simpa using e
  have st:=I.step d;have y:r.fdiv b=r/b:=Wd _ g;have F:0<=r/b:=YZ (by lia) g
  have q1:r/b<=m:=by
   have:=Int.ediv_le_self b (show 0<=r by lia);lia
  refine ai 6 bG.nd (aZ (ae 2) (ae 3) (Sm.div (n:=70) (by unfold Sm;lia) d)) ?_;rw[y];refine ai 7 bG.nd (eU (ae 2) (aC (ae 6) (ae 3) (k (by lia) (by lia)))) ?_;refine ai 8 bG.nd (eU (ae 4) (aC (ae 6) (ae 5) (k (by lia) (by lia)))) ?_;refine ai 2 bG.nd (ae 3) ?_;refine ai 3 bG.nd (ae 7) ?_;refine ai 4 bG.nd (ae 5) ?_;refine ai 5 bG.nd (ae 8) ?_;have C:=st.lt;have J:=st.b0;exact aH ⟨(b,r-r/b*b,h,z-r/b*h),⟨⟨_,_,_,rfl⟩,v,u+r/b*v,-s,st⟩,by dsimp only;lia⟩
 .have d:b=0:=by simpa using e
  subst d;rw[I.done j,<-bh (show 1<=m by lia)];exact aq (aQ (ae 4) (ae 1) (by lia)) rfl
abbrev UJ(P w K mg base):=aI P w K mg base 2 "square_by" ["k","p"] (cw K (fun _ p=>2<=p/\p<2^62) true Q.bf)
def lT(n:UJ P w K mg base)(p:Int)(m:Q.NR p)(hp:2<=p/\p<2^62):Body P w K mg base gY "least_no_square" eG f 2 [.val false p] (RT true (Q.lH p)):=by
 intro o A outer s H E j;obtain⟨i,d,h⟩:=Q.qJ m;refine ai 1 dN.nd af ?_;refine cb (ι:=Int) (fun k Γ=>Γ=[some (.val false p),some (.val true k)]/\2<=k/\k<=Q.lH p) (fun k=>(Q.lH p-k).toNat) 2 ⟨rfl,by decide,i⟩ ?_;rintro k Γ' ⟨rfl,l,e⟩;refine⟨_,av fU (az n (j.mono (by decide)) rfl (ae 1) (ae 0) hp) (fC af),fun b=>?_,fun b=>?_⟩
 .have a:Q.bf k p≠-1:=by simpa using b
  have c:k≠Q.lH p:=by rintro rfl;exact a d
  exact ai 1 dN.nd (bC (ae 1) af) (aH ⟨k+1,⟨rfl,by lia,by lia⟩,by lia⟩)
 .have a:Q.bf k p=-1:=by simpa using b
  have g:k=Q.lH p:=by
   rcases X3 e with z|z
   .exact absurd a (h k l z)
   .exact z
  rw[<-g];exact aq (ae 1) rfl
def Pp(e p:Int):Prop:=(∃n:Nat,Q.Cg p (e^2^n) 1)/\(0<=e/\e<p)/\2<=p/\p<2^62
def xU(e p:Int)(hp:Pp e p):Body P w K mg base oM "squarings" jC f kk [.val false e,.val false p] (RT true (Q.iU e p)):=by
 intro q A outer s H E u;obtain⟨⟨n,o⟩,he,p2,t⟩:=hp;obtain⟨⟨j,h,m⟩,_⟩:=Q.Fw o;refine ai 2 gf.nd af ?_;refine cb (ι:=Bool×Nat×Int) (fun i Γ=>Γ=[some (.val i.1 i.2.2),some (.val false p),some (.val true (i.2.1:Int))]/\Q.Cg p i.2.2 (e^2^i.2.1)/\(0<=i.2.2/\i.2.2<p)/\(i.2.1:Int)<=Q.iU e p) (fun i=>(Q.iU e p-(i.2.1:Int)).toNat) (false,0,e) ⟨rfl,by show Q.Cg p e (e^1);rw[VS,V8,Wq];exact Q.gO _ _,he,j⟩ ?_;rintro⟨r,i,k⟩ Γ' ⟨rfl,b,g,hi⟩;dsimp only at *;refine⟨_,av fU (ae 0) af,fun d=>?_,fun d=>?_⟩
 .have a:k≠1:=by simpa using d
  have c:¬Q.Cg p (e^2^i) 1:=fun z=>a (Q.JP g ⟨by decide,by lia⟩ (Q.bZ b z))
  have l:(i:Int)<Q.iU e p:=by
   rcases X3 hi with z|z
   .exact z
   .rw[<-z,Int.toNat_natCast] at h;exact absurd h c
  refine ai 0 gf.nd (aQ (aC (ae 0) (ae 0) (mulL (by lia) (by lia))) (ae 1) (by lia)) ?_;refine ai 2 gf.nd (bC (ae 2) af) ?_;rw[bh (by lia)];refine aH ⟨(true,i+1,k*k%p),⟨rfl,?_,⟨VV _ (by lia),VR _ (by lia)⟩,by dsimp only;lia⟩,by dsimp only;lia⟩;dsimp only;refine Q.bZ (Q.cX _ _) ?_;rw[show(2:Nat)^(i+1)=2^i+2^i by rw[Yk];lia,WK];exact Q.hE b b
 .have a:k=1:=by simpa using d
  have heq:(i:Int)=Q.iU e p:=by
   rcases X3 hi with z|z
   .rw[a] at b;exact absurd (Q.vD b) (m i z)
   .exact z
  rw[<-heq];exact aq (ae 2) rfl
def Qp(k p:Int):Prop:=Q.aR p=true/\p≠2/\p<2^60/\(0<=k/\k<p)/\Q.bf k p=1/\Q.NR p
abbrev UK(P w K mg base):=aI P w K mg base 3 "least_no_square" ["p"] (cR K (fun p=>Q.NR p/\2<=p/\p<2^62) true Q.lH)
include B in
theorem mY(J:UD P w K mg base)(q:UI P w K mg base)(R:UK P w K mg base)(M:aI P w K mg base 1 "squarings" ["k","p"] (cw K Pp true Q.iU))
  (k p:Int) (hp:Qp k p):Body P w K mg base ij "root_of_square" fc f 3 [.val false k,.val false p] (RT true (Q.Gj k p)):=by
 intro V A outer s H E d;obtain⟨a,h2,D,F,y,o⟩:=hp;have ho:=Q.fG a h2;obtain⟨t1,o1,o2,_⟩:=Q.r_ a h2;have two:Sm 9000 (2:Int):=Sm.le (m:=2) (by unfold Sm;decide) (by decide);refine ai 2 aG.nd (az J (d.mono (by decide)) rfl (eU (ae 1) af) af ⟨by lia,by decide,two⟩) ?_;refine ai 3 aG.nd (a_ (ae 2)) ?_;refine ai 4 aG.nd (bz (ae 2)) ?_;have v:((Q.aV (p-1) 2).2+1).fdiv 2=((Q.aV (p-1) 2).2+1)/2:=Wd _ (by decide);refine ai 5 aG.nd (dc q (d.mono (by decide)) rfl (ae 0) (aZ (bC (ae 4) af) af uR) (ae 1) ⟨by rw[v];lia,by lia,by lia⟩) ?_;refine ai 6 aG.nd (dc q (d.mono (by decide)) rfl (ae 0) (ae 4) (ae 1) ⟨by lia,by lia,by lia⟩) ?_;refine ai 7 aG.nd (jw (av fU (ae 6) af) (fun _=>(dc q (d.mono (by decide)) rfl (aF R (d.mono (by decide)) rfl (ae 1) ⟨o,by lia,by lia⟩) (ae 4) (ae 1) ⟨by lia,by lia,by lia⟩)) fun _=>af) ?_;have T:=Q.xj a h2 F y o
 have em:(if (!decide (x5 k (Q.aV (p-1) 2).2 p=1))=true then x5 (Q.lH p) (Q.aV (p-1) 2).2 p else 1)=(if k^(Q.aV (p-1) 2).2.toNat%p≠1 then Q.lH p^(Q.aV (p-1) 2).2.toNat%p else 1):=by
  unfold x5;by_cases z:k^(Q.aV (p-1) 2).2.toNat%p=1
  .rw[Vm (by simp[z]),Vm (by simp[z])]
  .rw[Vo (by simp[z]),Vo z]
 rw[em,v]
 refine cb (ι:=Nat×Int×Int×Int×Int) (fun i Γ=>∃u g,Γ=[some (.val false k),some (.val false p),some (.val true (Q.aV (p-1) 2)),some (.val true i.2.1),some (.val true (Q.aV (p-1) 2).2),some (.val true i.2.2.1),some (.val true i.2.2.2.1),some (.val true i.2.2.2.2),u,g]/\Q.MM p k i.2.1 i.2.2.1 i.2.2.2.1 i.2.2.2.2/\i.2.1<=(i.1:Int)/\i.2.1<2^61/\Q.oA p i.1 i.2.1 i.2.2.1 i.2.2.2.1 i.2.2.2.2=Q.Gj k p) (fun i=>i.1)
  ((Q.aV (p-1) 2).1.toNat,(Q.aV (p-1) 2).1,k^(((Q.aV (p-1) 2).2+1)/2).toNat%p,k^(Q.aV (p-1) 2).2.toNat%p,if k^(Q.aV (p-1) 2).2.toNat%p≠1 then Q.lH p^(Q.aV (p-1) 2).2.toNat%p else 1) ⟨none,none,rfl,T,by dsimp only;lia,?_,rfl⟩ ?_
 .dsimp only;obtain⟨b1,b2,b3⟩:=Q.eB (show(2:Int)<=2 by decide) (show p-1≠0 by lia);apply Vr;intro o
  have g1:((Q.aV (p-1) 2).1.toNat:Int)<(2:Int)^(Q.aV (p-1) 2).1.toNat:=by
   have:=Nat.lt_two_pow_self (n:=(Q.aV (p-1) 2).1.toNat);have c1:((2^(Q.aV (p-1) 2).1.toNat:Nat):Int)=(2:Int)^(Q.aV (p-1) 2).1.toNat:=by rw[ZA];rfl
   lia
  have W:1*(2:Int)^(Q.aV (p-1) 2).1.toNat<=(Q.aV (p-1) 2).2*2^(Q.aV (p-1) 2).1.toNat:=Wm (by lia) (by lia);lia
 rintro⟨n,t,r,e,m⟩ Γ' ⟨u,g,rfl,I,U,N,b⟩;dsimp only at *;have L:=I.t1;cases n with
 |zero=>lia
 |succ n =>
 refine⟨_,av fU (ae 6) af,fun l=>?_,fun l=>?_⟩
 .have he:e≠1:=by simpa using l
  obtain⟨Z,C,O,G⟩:=I.step a he;have Y:=I.e0;have X:=I.r0;refine ai 8 aG.nd (az M (d.mono (by decide)) rfl (ae 6) (ae 1) ⟨⟨_,I.ee⟩,I.e0,by lia,by lia⟩) ?_;refine dQ (fun j Γ=>∃g,Γ=[some (.val false k),some (.val false p),some (.val true (Q.aV (p-1) 2)),some (.val true t),some (.val true (Q.aV (p-1) 2).2),some (.val true r),some (.val true e),some (.val true (Q.mq p m j)),some (.val true (Q.iU e p)),g]) rfl B.range (cu 9 aG.nd) (eU (eU (ae 3) (ae 8)) af) (by lia) (by lia) ⟨_,rfl⟩ ?_ ?_
  .rintro j Γ' hj ⟨g,rfl⟩;have S:=Q.FE (show 0<p by lia) I.m0 j;refine ai 7 aG.nd (aQ (aC (ae 7) (ae 7) (mulL (by lia) (by lia))) (ae 1) (by lia)) ?_;rw[bh (by lia)];exact aH ⟨_,rfl⟩
  .rintro Γ' ⟨g,rfl⟩;have S:=Q.FE (show 0<p by lia) I.m0 (t-Q.iU e p-1).toNat;have c:Q.oA p (n+1) t r e m=Q.oA p n (Q.iU e p) (r*Q.mq p m (t-Q.iU e p-1).toNat%p) (e*(Q.mq p m (t-Q.iU e p-1).toNat*Q.mq p m (t-Q.iU e p-1).toNat%p)%p) (Q.mq p m (t-Q.iU e p-1).toNat*Q.mq p m (t-Q.iU e p-1).toNat%p):=by rw[Q.oA,Vm he]
   rw[c] at b;generalize Q.mq p m (t-Q.iU e p-1).toNat=x at *;refine ai 5 aG.nd (aQ (aC (ae 5) (ae 7) (mulL (by lia) (by lia))) (ae 1) (by lia)) ?_;refine ai 7 aG.nd (aQ (aC (ae 7) (ae 7) (mulL (by lia) (by lia))) (ae 1) (by lia)) ?_;refine ai 6 aG.nd (aQ (aC (ae 6) (ae 7) (mulL (by lia) (by lia))) (ae 1) (by lia)) ?_;refine ai 3 aG.nd (ae 8) ?_;rw[bh (by lia),bh (by lia),bh (by lia)];exact aH ⟨(n,Q.iU e p,r*x%p,e*(x*x%p)%p,x*x%p),⟨_,_,rfl,G,by dsimp only;lia,by dsimp only;lia,b⟩,by dsimp only;lia⟩
 .have he:e=1:=by simpa using l
  have h:Q.oA p (n+1) t r e m=r:=by rw[Q.oA,Vo he]
  rw[<-b,h];exact aq (ae 5) rfl
def PV(k p:Int):Prop:=Q.aR p=true/\p<2^60
def pg(l:UJ P w K mg base)(n:aI P w K mg base 4 "root_of_square" ["k","p"] (cw K Qp true Q.Gj))(k p:Int)(hp:PV k p):Body P w K mg base jb "root_by_prime" fT f 4 [.val false k,.val false p] (RT true (Q.uH k p)):=by
 intro o A outer s H E j;obtain⟨b,g⟩:=hp;have i:=Q.ao b;refine ai 2 iD.nd (az l (j.mono (by decide)) rfl (ae 0) (ae 1) ⟨i,by lia⟩) ?_;refine aE (av ax (ae 2) (fC af)) (fun a=>?_) (fun a=>?_)
 .have e:Q.uH k p=none:=Vo (by simpa using a);rw[e];exact aq (kR (α:=Int)) rfl
 have h1:¬Q.bf k p=-1:=by simpa using a
 refine aE (TW.t (tO (av ax (ae 2) af) fun _=>(nC (av ax (ae 1) af)))) (fun a=>?_) (fun a=>?_)
 .have e:Q.uH k p=some (Q.bf k p):=by unfold Q.uH;rw[Vm h1,Vo (by simpa using a)]
  rw[e];exact aq (iJ (ae 2)) rfl
 have d:¬(Q.bf k p=0\/p=2):=by simpa using a
 have e:Q.uH k p=some (Q.Gj (k%p) p):=by unfold Q.uH;rw[Vm h1,Vm d]
 have h2:p≠2:=fun z=>d (.inr z);have m:=Q.qX b h2;have h:¬p∣k:=fun z=>d (.inl (Q.dw z));have c:Q.bf k p=1:=by rcases Q.bO h with z|z<;>lia
 rw[e,<-bh (show 1<=p by lia)];refine aq (iJ (az n (j.mono (by decide)) rfl (aQ (ae 0) (ae 1) (by lia)) (ae 1) ⟨b,h2,g,?_,?_,m⟩)) rfl
 .rw[bh (by lia)];exact⟨VV _ (by lia),VR _ (by lia)⟩
 .rw[bh (by lia),Q.ui];exact c
def PU(a m o p:Int):Prop:=(0<=a/\a<m)/\(0<=o/\o<p)/\Int.gcd m p=1/\m<2^60/\2<=p/\p<2^60
def uE(g:aI P w K mg base 1 "back_by" ["k","m"] (cw K QM true Q.tD))(a m o p:Int)(hp:PU a m o p):Body P w K mg base mL "with_rests" iY f 1 [.val false a,.val false m,.val false o,.val false p] (RT true (Q.x9 a m o p)):=by
 intro i A outer s H E h;obtain⟨⟨l,r⟩,⟨o0,j⟩,b,n,h2,t⟩:=hp;obtain⟨u,b1,_⟩:=Q.Jp h2 b;have q:=VV ((o-a)*Q.tD m p) (show p≠0 by lia);have k:=VR ((o-a)*Q.tD m p) (show 0<p by lia);have e:((o-a)*Q.tD m p).fmod p=(o-a)*Q.tD m p%p:=bh (by lia);have d:∀{a c:Int},a.natAbs<2^64->c.natAbs<2^64->IntMulOk a c:=fun {a c} h1 h2=>(show Sm 64 a from h1).ok (show Sm 64 c from h2);refine aq (bC (ae 0) (aC (ae 1) (aQ (aC (eU (ae 2) (ae 0)) (az g (h.mono (by decide)) rfl (ae 1) (ae 3) ⟨b,h2,by lia⟩) (d (by lia) (by lia))) (ae 3) (by lia)) (d (by lia) (by rw[e];lia)))) ?_;show Bd.val _ _=Bd.val _ _;unfold Q.x9;rw[e]
abbrev UL(P w K mg base):=aI P w K mg base 4 "parts" ["k"] (cR K (fun k=>1<=k/\k<2^60) true Q.nR)
def BG(R9:UL P w K mg base)(X:aI P w K mg base 5 "root_by_prime" ["k","p"] (cw K PV true Q.uH))(Y:aI P w K mg base 2 "with_rests" ["one","m","other","p"] (Gk K PU true Q.x9))(k m:Int)(U:1<=m)(O:m<2^60):Body P w K mg base sZ "root_by" mX f 5 [.val false k,.val false m] (RT true (Q.Dv k m)):=by
 intro cdv A outer s H E L;obtain⟨⟨b,l⟩,G⟩:=Q.nJ U;obtain⟨_,S⟩:=Q.E3 (by decide) l;rw[G] at S;refine ai 2 dM.nd af ?_;refine ai 3 dM.nd af ?_;have e0:Q.Dv k m=Q.Ia k (Q.nR m) 0 1:=rfl;have o:=Q.ip l;have t:=(Q.rK l).1;generalize J:Q.nR m=us at *;rw[e0];refine nE (xs:=us) (fun i Γ=>∃a d r M,Γ=[some (.val false k),some (.val false m),some (.val true a),some (.val true d),r,M]/\Q.Gh k a d ((us.take i).map (·.1))/\Q.Ia k us 0 1=Q.Ia k (us.drop i) a d/\d*Q.dp (us.drop i)<=m/\1<=Q.dp (us.drop i)) (cu 4 dM.nd) (eR (aF R9 (L.mono (by decide)) rfl (ae 1) ⟨U,O⟩) J) ⟨0,1,none,none,rfl,Q.Gh.zero k,rfl,by show 1*Q.dp us<=m;lia,by show 1<=Q.dp us;lia⟩ ?_ ?_
 .rintro i u Γ' p ⟨a,d,r,M,rfl,I,c,T,h⟩;obtain⟨up,u1⟩:=o u (Vv p);have C:=Q.ao up;rw[Q.FN p] at c T h;have D:d*(u.1*Q.dp (us.drop (i+1)))<=m:=T;have y:1<=u.1*Q.dp (us.drop (i+1)):=h
  have g:1<=Q.dp (us.drop (i+1)):=by
   apply Vr;intro V;have:u.1*Q.dp (us.drop (i+1))<=0:=Wf (by lia) (by lia);lia
  have d1:=I.d1
  have ub:u.1<=m/\d<=m:=by
   have t1:u.1*1<=u.1*Q.dp (us.drop (i+1)):=VB g (by lia);have t2:d*1<=d*(u.1*Q.dp (us.drop (i+1))):=VB y (by lia);have t3:1*(u.1*Q.dp (us.drop (i+1)))<=d*(u.1*Q.dp (us.drop (i+1))):=Wm d1 (by lia);lia
  refine ai 5 dM.nd (az X (L.mono (by decide)) rfl (ae 0) (a_ (ae 4)) ⟨up,by show u.1<2^60;lia⟩) ?_;rw[Q.Ia] at c;cases R:Q.uH k u.1 with
  |none =>
   rw[R] at c;refine aE (xB (α:=Int) (x:=none) (ae 5) lW) (fun _=>?_) (fun N=>absurd N (by decide));rw[c];exact aq (kR (α:=Int)) rfl
  |some q =>
   rw[R] at c
   have V:u.1∉(us.take i).map (·.1):=fun z=>by
    obtain⟨v,Z,e⟩:=VG.mp z;obtain⟨j,B⟩:=List.getElem?_of_mem Z
    have n:j<i:=by
     have:=(VE.mp B).1;rw[Xz] at this;lia
    rw[aao n] at B;have F:=aai.mp t j i (by rw[Vx];exact(VE.mp B).1) (by rw[Vx];exact(VE.mp p).1) n;rw[List.getElem_map,List.getElem_map,(VE.mp B).2,(VE.mp p).2] at F;lia
   obtain⟨I',hg,W,q1⟩:=I.step up V R;refine aE (xB (α:=Int) (x:=some q) (ae 5) lW) (fun N=>absurd N VO) (fun _=>?_);refine ai 2 dM.nd (vO Y (L.mono (by decide)) rfl (ae 2) (ae 3) (eL (α:=Int) (a:=q) (ae 5)) (a_ (ae 4)) ⟨⟨I.a0,I.a1⟩,⟨W,q1⟩,hg,by lia,C,by show u.1<2^60;lia⟩) ?_;refine ai 3 dM.nd (aC (ae 3) (a_ (ae 4)) ((show Sm 64 d by unfold Sm;lia).ok (show Sm 64 u.1 by unfold Sm;lia))) ?_;refine aH ⟨Q.x9 a d q u.1,d*u.1,_,_,rfl,?_,c,by rw[VZ];exact D,g⟩;rw[ZN,p];simpa using I'
 .rintro Γ' ⟨a,d,r,M,rfl,I,c,T,h⟩;rw[List.drop_length] at c;rw[c];exact aq (iJ (ae 2)) rfl
def za(e:UD P w K mg base)(g:UJ P w K mg base)(x p:Int)(h:x≠0)(hp:2<=p)(a:p<2^62):Body P w K mg base kU "class_at" iK f 2 [.val false x,.val false p] (RT true (Q.cls x p)):=by
 intro d A outer s H E c;refine aE (av ax (ae 1) af) (fun b=>?_) (fun b=>?_)
 .exact absurd (show p=0 by simpa using b) (by lia)
 refine ai 2 dS.nd (az e (c.mono (by decide)) rfl (ae 0) (ae 1) ⟨h,hp,Sm.le (m:=62) (by unfold Sm;lia) (by decide)⟩) ?_;refine ai 3 dS.nd (jw (av ax (ae 1) af) (fun _=>(aQ (bz (ae 2)) af (by decide))) fun _=>(az g (c.mono (by decide)) rfl (bz (ae 2)) (ae 1) ⟨hp,a⟩)) ?_;refine aq (bJ (aQ (a_ (ae 2)) af (by decide)) (ae 3)) ?_;show Bd.val _ _=Bd.val _ _;unfold Q.cls;rw[bh (by decide),bh (by decide)];congr 2;by_cases z:p=2
 .rw[Vo z,Vo (by simpa using z)]
 .rw[Vm z,Vm (by simpa using z)]
def rn(k p:Int):Int⊕(Int×Int):=if p=0 then .inl (if 0<k then 1 else -1) else .inr (Q.cls k p)
def xr(h:UD P w K mg base)(i:UJ P w K mg base)(x p:Int)(g:x≠0)(hp:p=0\/(2<=p/\p<2^62)):Body P w K mg base kU "class_at" iK f 2 [.val false x,.val false p] (RT true (rn x p)):=by
 intro j A outer s H E d;refine aE (av ax (ae 1) af) (fun b=>?_) (fun b=>?_)
 .have e:rn x p=.inl (if decide (0<x)=true then 1 else -1):=by
   unfold rn;rw[Vo (by simpa using b)];congr 1;by_cases z:0<x
   .rw[Vo z,Vo (by simpa using z)]
   .rw[Vm z,Vm (by simpa using z)]
  rw[e];exact aq (I_ (β:=Int×Int) (jw (av fB (ae 0) af) (fun _=>af) fun _=>(fC af))) rfl
 have c:¬p=0:=by simpa using b
 have a:2<=p/\p<2^62:=by lia
 refine ai 2 dS.nd (az h (d.mono (by decide)) rfl (ae 0) (ae 1) ⟨g,a.1,Sm.le (m:=62) (by unfold Sm;lia) (by decide)⟩) ?_;refine ai 3 dS.nd (jw (av ax (ae 1) af) (fun _=>(aQ (bz (ae 2)) af (by decide))) fun _=>(az i (d.mono (by decide)) rfl (bz (ae 2)) (ae 1) a)) ?_;refine aq (En (α:=Int) (bJ (aQ (a_ (ae 2)) af (by decide)) (ae 3))) ?_;show Bd.val _ _=Bd.val _ _;unfold rn Q.cls;rw[bh (by decide),bh (by decide),Vm c];congr 3;by_cases z:p=2
 .rw[Vo z,Vo (by simpa using z)]
 .rw[Vm z,Vm (by simpa using z)]
def yS(x y:Int×Int):Body P w K mg base rV "two_says" kT f kk [.val false x,.val false y] (RT true (Q.eT x y)):=by
 intro c A outer s H E d;refine ai 2 fD.nd af ?_;refine lK (fun Γ=>Γ=[some (.val false x),some (.val false y),some (.val true (0+Q.b1 (decide (x.2.fmod 4=3)&&decide (y.2.fmod 4=3))))]) (TW.t (nF (av ax (aQ (bz (ae 0)) af (by decide)) af) fun _=>(kf (av ax (aQ (bz (ae 1)) af (by decide)) af)))) (fun b=>?_) (fun b=>?_) ?_
 .exact ai 2 fD.nd (bC (ae 2) af) (aH (by rw[b];rfl))
 .exact aH (by rw[b];rfl)
 rintro Γ' rfl;refine lK (fun Γ=>Γ=[some (.val false x),some (.val false y),some (.val true (0+Q.b1 (decide (x.2.fmod 4=3)&&decide (y.2.fmod 4=3))+Q.b1 (decide (x.1=1)&&(decide ((3:Int)=y.2) || decide ((5:Int)=y.2)))))]) (TW.t (nF (av ax (a_ (ae 0)) af) fun _=>(kf (av ER (bz (ae 1)) (bJ af af))))) (fun b=>?_) (fun b=>?_) ?_
 .exact ai 2 fD.nd (bC (ae 2) af) (aH (by rw[b];rfl))
 .exact aH (by rw[b];show [_,_,_]=[_,_,_];simp[Q.b1])
 rintro Γ' rfl;refine lK (fun Γ=>Γ=[some (.val false x),some (.val false y),some (.val true (0+Q.b1 (decide (x.2.fmod 4=3)&&decide (y.2.fmod 4=3))+Q.b1 (decide (x.1=1)&&(decide ((3:Int)=y.2) || decide ((5:Int)=y.2)))+Q.b1 (decide (y.1=1)&&(decide ((3:Int)=x.2) || decide ((5:Int)=x.2)))))]) (TW.t (nF (av ax (a_ (ae 1)) af) fun _=>(kf (av ER (bz (ae 0)) (bJ af af))))) (fun b=>?_) (fun b=>?_) ?_
 .exact ai 2 fD.nd (bC (ae 2) af) (aH (by rw[b];rfl))
 .exact aH (by rw[b];show [_,_,_]=[_,_,_];simp[Q.b1])
 rintro Γ' rfl;refine aq (fE ax (aQ (ae 2) af (by decide)) af) ?_;show Bd.val _ _=Bd.val _ _;unfold Q.eT;congr 1;rw[bh (by decide),bh (by decide),bh (by decide),aa3];simp only[eq_comm (a:=(3:Int)),eq_comm (a:=(5:Int))]
def tM(x p:Int):-2<=Q.bf x p/\Q.bf x p<=2:=by
 unfold Q.bf
 repeat' split
 all_goals decide
def zg(e:UJ P w K mg base)(x y:Int×Int)(p:Int)(hp:(-2<=x.2/\x.2<=2)/\(-2<=y.2/\y.2<=2)/\2<=p/\p<2^62):Body P w K mg base rR "odd_says" ly f 2 [.val false x,.val false y,.val false p] (RT true (Q.Ck x y p)):=by
 intro g A outer s H E d;obtain⟨j,i,b,c⟩:=hp;have h:=tM (-1) p;refine ai 3 fJ.nd af ?_;refine lK (fun Γ=>Γ=[some (.val false x),some (.val false y),some (.val false p),some (.val true (1*(if x.1=1 then y.2 else 1)))]) (av ax (a_ (ae 0)) af) (fun a=>?_) (fun a=>?_) ?_
 .exact ai 3 fJ.nd (aC (ae 3) (bz (ae 1)) (mulL (by decide) (by decide))) (aH (by rw[Vo (by simpa using a)];rfl))
 .exact aH (by rw[Vm (by simpa using a)];rfl)
 rintro Γ' rfl;refine lK (fun Γ=>Γ=[some (.val false x),some (.val false y),some (.val false p),some (.val true (1*(if x.1=1 then y.2 else 1)*(if y.1=1 then x.2 else 1)))]) (av ax (a_ (ae 1)) af) (fun a=>?_) (fun a=>?_) ?_
 .exact ai 3 fJ.nd (aC (ae 3) (bz (ae 0)) (mulR (by lia) (by lia))) (aH (by rw[Vo (show y.1=1 by simpa using a)];rfl))
 .exact aH (by rw[Vm (show ¬y.1=1 by simpa using a),VX])
 rintro Γ' rfl;refine lK (fun Γ=>Γ=[some (.val false x),some (.val false y),some (.val false p),some (.val true (1*(if x.1=1 then y.2 else 1)*(if y.1=1 then x.2 else 1)*(if x.1=1/\y.1=1 then Q.bf (-1) p else 1)))]) (TW.t (nF (av ax (a_ (ae 0)) af) fun _=>(kf (av ax (a_ (ae 1)) af)))) (fun a=>?_) (fun a=>?_) ?_
 .exact ai 3 fJ.nd (aC (ae 3) (az e (d.mono (by decide)) rfl (fC af) (ae 2) ⟨b,c⟩) (mulR (by lia) (by lia))) (aH (by rw[Vo (show x.1=1/\y.1=1 by simpa using a)];rfl))
 .exact aH (by rw[Vm (show ¬(x.1=1/\y.1=1) by simpa using a),VX])
 rintro Γ' rfl;refine aq (fE ax (ae 3) af) ?_;show Bd.val _ _=Bd.val _ _;unfold Q.Ck;rw[Wq]
def tQ(x:Int)(h2:p≠2):-2<=(Q.cls x p).2/\(Q.cls x p).2<=2:=by
 unfold Q.cls;dsimp only;rw[Vm h2];exact tM _ _
abbrev UN(P w K mg base):=aI P w K mg base 3 "odd_says" ["one","other","p"] (tF K (fun x y p=>(-2<=x.2/\x.2<=2)/\(-2<=y.2/\y.2<=2)/\2<=p/\p<2^62) true Q.Ck)
abbrev UM(P w K mg base):=aI P w K mg base 3 "class_at" ["k","p"] (cw K (fun k p=>k≠0/\2<=p/\p<2^62) true Q.cls)
def LG(i:UM P w K mg base)(l:aI P w K mg base 1 "two_says" ["one","other"] (cw K (fun _ _=>True) true Q.eT))
  (j:UN P w K mg base) (a b p:Int) (ha:a≠0) (k:b≠0) (hp:p=0\/(2<=p/\p<2^62)):Body P w K mg base Cy "says" yH f 3 [.val false a,.val false b,.val false p] (RT true (Q.ay a b p)):=by
 intro m A outer s H E d;refine aE (av ax (ae 2) af) (fun h=>?_) (fun h=>?_)
 .have g:p=0:=by simpa using h
  have e:Q.ay a b p=(decide (0<a) || decide (0<b)):=Vo g;rw[e];exact aq (DM (fE fB (ae 0) af) fun _=>(jG (fE fB (ae 1) af))) rfl
 have g:¬p=0:=by simpa using h
 have c:2<=p/\p<2^62:=by lia
 refine ai 3 vz.nd (az i (d.mono (by decide)) rfl (ae 0) (ae 2) ⟨ha,c⟩) ?_;refine ai 4 vz.nd (az i (d.mono (by decide)) rfl (ae 1) (ae 2) ⟨k,c⟩) ?_;refine aq (jw (av ax (ae 2) af) (fun _=>(az l (d.mono (by decide)) rfl (ae 3) (ae 4) True.intro)) fun h2=>(dc j (d.mono (by decide)) rfl (ae 3) (ae 4) (ae 2) ⟨tQ a (by simpa using h2),tQ b (by simpa using h2),c⟩)) ?_;show Bd.val _ _=Bd.val _ _;congr 1;unfold Q.ay;rw[Vm g];by_cases z:p=2
 .rw[Vo z,Vo (by simpa using z)]
 .rw[Vm z,Vm (by simpa using z)]
def ye(ns:List Int):List Int:=2::ns.flatMap fun k=>(Q.nR (k.natAbs:Int)).map (·.1)
def qg(ns:List Int):List Int:=sset (ye ns)
structure Gb(ns:List Int):Prop where
 len:ns.length<=100
 rng:∀k∈ns,1<=(k.natAbs:Int)/\(k.natAbs:Int)<2^60
 few:(ye ns).length<64
def AS{ns:List Int}{k:Int}(h:ns[i]?=some k):ye (ns.take (i+1))=ye (ns.take i)++(Q.nR (k.natAbs:Int)).map (·.1):=by
 unfold ye;rw[ZN,h];simp[List.flatMap_append]
def JX{ns:List Int}(i:Nat):(ye (ns.take i)).length<=(ye ns).length:=by
 unfold ye
 have:ns.flatMap (fun k=>(Q.nR (k.natAbs:Int)).map (·.1))=(ns.take i).flatMap (fun k=>(Q.nR (k.natAbs:Int)).map (·.1))++(ns.drop i).flatMap (fun k=>(Q.nR (k.natAbs:Int)).map (·.1)):=by
  rw[<-List.flatMap_append,Wv]
 rw[this];simp
def C3(x:Int):(if x<0 then -x else x)=(x.natAbs:Int):=by split<;>lia
include B in
theorem xJ(n:UL P w K mg base)(ns:List Int)(h:Gb ns):Body P w K mg base oG "primes_of" jz f 4 [.val false ns] (RT true (qg ns)):=by
 intro q A outer s H E m;have c:=h.few;refine qS 1 gb.nd (yD (aJ af ck) (by simp)) ?_;refine A7 1 true rfl ?_;refine nE (fun i Γ=>∃d a,Γ=[some (.val false ns),some (.own true (ye (ns.take i))),d,a]) (cu 2 gb.nd) (ae 0) ⟨none,none,rfl⟩ ?_ ?_
 .rintro i k Γ' g ⟨d,a,rfl⟩;obtain⟨p,o⟩:=h.rng k (Vv g);rw[AS g];have e:=JX (ns:=ns) (i+1);rw[AS g,V5,Vx] at e;generalize hp:Q.nR (k.natAbs:Int)=pr at *;refine oQ (as:=pr) (b:=true) (fun j Γ=>∃a,Γ=[some (.val false ns),some (.own true (ye (ns.take i)++(pr.take j).map (·.1))),some (.val false k),a]) (cu 3 gb.nd) (bt (eR (aF n (m.mono (by decide)) rfl (gR rfl B.abs (ae 2)) (by rw[C3];exact⟨p,o⟩)) (by rw[C3];exact hp))) ⟨a,by simp⟩ ?_ ?_
  .rintro j u Γ' l ⟨a,rfl⟩;refine mr 1 rfl (j8 (b':=true) (a_ (ae 3))) ?_ (aH ⟨some (.val true u),?_⟩)
   .have:(pr.take j).length<=pr.length:=by rw[Xz];lia
    rw[V5,Vx];lia
   .rw[ZN,l];simp
  .rintro Γ' ⟨a,rfl⟩;rw[WO];exact aH ⟨_,_,rfl⟩
 .rintro Γ' ⟨d,a,rfl⟩;rw[WO];refine dn 1 rfl ?_;exact aq (tR rfl rfl B.sorted rfl B.set (ae 1) c) rfl
def y8(k:Int):Bool:=decide (k≠0/\k.natAbs<1073741824)
abbrev UO(P w K mg base):=aI P w K mg base 1 "is_whole" ["k"] (cR K (fun(_:Int)=>True) true (fun _=>true))
include B in
theorem o6(d:xT mg "GREAT_FROM" 1073741824)(a:UO P w K mg base)(x:Int):Body P w K mg base jh "is_row_number" fR f 1 [.val false x] (RT true (y8 x)):=by
 intro c A outer s H E b;refine aq (oZ (aF a (b.mono (by decide)) rfl (ae 0) True.intro) fun _=>(oZ (fE fU (ae 0) af) fun _=>(jG (fE gJ (gR rfl B.abs (ae 0)) (v9 rfl d))))) ?_;show Bd.val _ _=Bd.val _ _;congr 1;unfold y8;rw[Wy,WJ];simp;intro _;split<;>lia
def b_(xs:List Int):Bool:=decide (1<=xs.length/\xs.length<=8)&&xs.all y8
def sU(h:b_ xs=true):1<=xs.length/\xs.length<=8:=by
 unfold b_ at h;have:=(WI.mp h).1;simpa using this
def de(h:b_ xs=true)(a:x∈xs):x≠0/\x.natAbs<1073741824:=by
 unfold b_ at h;have:=Wc.mp (WI.mp h).2 x a;unfold y8 at this;simpa using this
abbrev UP(P w K mg base):=aI P w K mg base 2 "is_row_number" ["k"] (cR K (fun(_:Int)=>True) true y8)
include B in
theorem Fj(c:xT mg "LONGEST" 8)(d:UP P w K mg base)(xs:List Int)(j:xs.length<=1000):Body P w K mg base rF "is_row" l6 f 2 [.val false xs] (RT true (b_ xs)):=by
 intro h A outer s H E g;refine aE (TW.t (tO (jM (fY (Ek rfl B.isinstance rfl B.list (ae 0)))) fun _=>(nC (jM (Aq CC CC af (bD rfl B.len (ae 0)) (v9 rfl c)))))) (fun b=>?_) (fun b=>?_)
 .have a:¬(1<=xs.length/\xs.length<=8):=by
   simp at b;lia
  have e:b_ xs=false:=by unfold b_;rw[VW a];rfl
  rw[e];exact aq iV rfl
 .have a:1<=xs.length/\xs.length<=8:=by
   simp at b;lia
  refine aq (JI rfl rfl B.all (fP (f:=y8) ["k"] [] (cj (ag l6) rF rfl rfl (by decide +kernel)) (bt (ae 0)) (bE 0) (fun C s H fp=>dt 0 ["k"]) bg (fun i u k C s H fp=>aF d (g.mono (by decide)) rfl (ae 0) True.intro) j)) ?_;show Bd.val _ _=Bd.val _ _;congr 1;unfold b_;rw[V3 a,YU,List.all_map];rfl
abbrev UQ(P w K mg base):=aI P w K mg base 3 "is_row" ["row"] (cR K (fun(xs:List Int)=>xs.length<=1000) true b_)
def o7(e:UQ P w K mg base)(xs:List Int)(b:b_ xs=true):Body P w K mg base jj "refuse_no_row" fK f 3 [.val false xs] OV:=by
 intro d A outer s H E c;have:=sU b;refine aE (jM (fY (aF e (c.mono (by decide)) rfl (ae 0) (by lia)))) (fun a=>?_) (fun a=>?_)
 .rw[b] at a;cases a
 .exact aH True.intro
def Hi(k p:Int):Bool:=decide (Q.Kq k p)
def rZ(c:UM P w K mg base)(k p:Int)(hp:k≠0/\2<=p/\p<2^62):Body P w K mg base jV "is_square_at" gN f 3 [.val false k,.val false p] (RT true (Hi k p)):=by
 intro b A outer s H E a;refine aq (fE (Ou (α:=Int×Int) (Cb a)) (az c (a.mono (by decide)) rfl (ae 0) (ae 1) hp) (jw (α:=Int×Int) (x:=(0,1)) (y:=(0,1)) (av ax (ae 1) af) (fun h=>absurd (show p=0 by simpa using h) (by lia)) fun _=>(j8 (b':=true) (bJ af af)))) ?_;show Bd.val _ _=Bd.val _ _;rw[ite_self];rfl
def OM(a b c p:Int):Prop:=a≠0/\b≠0/\c≠0/\2<=p/\p<2^62/\Sm 62 a/\Sm 62 b/\Sm 62 c
abbrev UR(P w K mg base):=aI P w K mg base 4 "says" ["a","b","p"] (tF K (fun a b p=>a≠0/\b≠0/\(p=0\/(2<=p/\p<2^62))) true Q.ay)
def lP(j:UR P w K mg base)(a b c p:Int)(hp:OM a b c p):Body P w K mg base gQ "three_have_zero" dZ f 4 [.val false a,.val false b,.val false c,.val false p] (RT true (Q.tj a b c p)):=by
 intro k A outer s H E i;obtain⟨ha,m,d,g,p2,h,l,e⟩:=hp;exact aq (dc j (i.mono (by decide)) rfl (aC (fC (ae 0)) (ae 2) (h.neg.ok e)) (aC (fC (ae 1)) (ae 2) (l.neg.ok e)) (ae 3) ⟨Vn (by lia) d,Vn (by lia) d,.inr ⟨g,p2⟩⟩) rfl
def Pz(l:List Int)(p:Int):Prop:=l.length=4/\(∀a∈l,a≠0/\Sm 62 a)/\2<=p/\p<2^62
abbrev UT(P w K mg base):=aI P w K mg base 5 "three_have_zero" ["a","b","c","p"] (Gk K OM true Q.tj)
abbrev US(P w K mg base):=aI P w K mg base 4 "is_square_at" ["k","p"] (cw K (fun k p=>k≠0/\2<=p/\p<2^62) true Hi)
def oz(q:US P w K mg base)(o:UT P w K mg base)(l:List Int)(p:Int)(hp:Pz l p):Body P w K mg base iq "four_have_zero" eZ f 5 [.val false l,.val false p] (RT true (Q.cz l p)):=by
 intro u A outer s H E n;obtain⟨t,e,m,p2⟩:=hp
 match l,t,e with
 |[a,b,c,d],_,e =>
 have ha:=e a (by simp);have h:=e b (by simp);have i:=e c (by simp);have k:=e d (by simp);have j:=ha.2.mul h.2;have g:=j.mul i.2;refine ai 2 gS.nd (aC (aC (aC (a9 (a:=a) (ae 0) af rfl) (a9 (a:=b) (ae 0) af rfl) (ha.2.ok h.2)) (a9 (a:=c) (ae 0) af rfl) (j.ok i.2)) (a9 (a:=d) (ae 0) af rfl) (g.ok k.2)) ?_;have r:a*b*c*d≠0:=Vn (Vn (Vn ha.1 h.1) i.1) k.1;refine aq (DM (Dj (az q (n.mono (by decide)) rfl (ae 2) (ae 1) ⟨r,m,p2⟩)) fun _=>(jG (vO o (n.mono (by decide)) rfl (a9 (a:=a) (ae 0) af rfl) (a9 (a:=b) (ae 0) af rfl) (a9 (a:=c) (ae 0) af rfl) (ae 1) ⟨ha.1,h.1,i.1,m,p2,ha.2,h.2,i.2⟩))) ?_;show Bd.val _ _=Bd.val _ _;rw[Q.jH (by lia)];rfl
def NQ(l:List Int)(p:Int):Prop:=1<=l.length/\(∀a∈l,a≠0/\Sm 62 a)/\(p=0\/(2<=p/\p<2^62))
include B in
theorem xE(u:US P w K mg base)(o:UT P w K mg base)(v:aI P w K mg base 6 "four_have_zero" ["numbers","p"] (cw K Pz true Q.cz))(l:List Int)(p:Int)(hp:NQ l p):Body P w K mg base oX "have_zero" jQ f 6 [.val false l,.val false p] (RT true (Q.cz l p)):=by
 intro x A outer s H E k;obtain⟨h1,i,r⟩:=hp;refine aE (av ax (ae 1) af) (fun d=>?_) (fun d=>?_)
 .have g:p=0:=by simpa using d
  subst g;obtain⟨t,q⟩:=Q.yn l (by lia);obtain⟨b1,b2⟩:=Q.yN l (by lia);refine aq (GI gJ gJ (Es rfl rfl B.min (ae 0) (by lia) t q) af (DL rfl rfl B.max (ae 0) (by lia) b1 b2)) ?_;show Bd.val _ _=Bd.val _ _;unfold Q.cz;rw[Vo rfl]
 have g:¬p=0:=by simpa using d
 have m:2<=p:=by lia
 have p2:p<2^62:=by lia
 have len:∀n:Nat,decide ((l.length:Int)=(n:Int))=true->l.length=n:=fun n h=>by
  have:(l.length:Int)=(n:Int):=by simpa using h
  lia
 have e:∀n:Nat,decide ((l.length:Int)=(n:Int))=false->l.length≠n:=fun n h=>by
  have:¬(l.length:Int)=(n:Int):=by simpa using h
  lia
 refine aE (av ax (bD rfl B.len (ae 0)) af) (fun d=>?_) (fun c1=>?_)
 .match l,len 1 d with
  |[a],_=>rw[Q.p9 g];exact aq iV rfl
 refine aE (av ax (bD rfl B.len (ae 0)) af) (fun d=>?_) (fun c2=>?_)
 .match l,len 2 d,i with
  |[a,b],_,i =>
  have ha:=i a (by simp);have j:=i b (by simp);rw[Q.qd g];exact aq (az u (k.mono (by decide)) rfl (aC (fC (a9 (a:=a) (ae 0) af rfl)) (a9 (a:=b) (ae 0) af rfl) (ha.2.neg.ok j.2)) (ae 1) ⟨Vn (by have:=ha.1;lia) j.1,m,p2⟩) rfl
 refine aE (av ax (bD rfl B.len (ae 0)) af) (fun d=>?_) (fun c3=>?_)
 .match l,len 3 d,i with
  |[a,b,c],_,i =>
  have ha:=i a (by simp);have j:=i b (by simp);have d:=i c (by simp);rw[Q.dR g];exact aq (vO o (k.mono (by decide)) rfl (a9 (a:=a) (ae 0) af rfl) (a9 (a:=b) (ae 0) af rfl) (a9 (a:=c) (ae 0) af rfl) (ae 1) ⟨ha.1,j.1,d.1,m,p2,ha.2,j.2,d.2⟩) rfl
 refine aE (av ax (bD rfl B.len (ae 0)) af) (fun d=>?_) (fun c4=>?_)
 .exact aq (az v (k.mono (by decide)) rfl (ae 0) (ae 1) ⟨len 4 d,i,m,p2⟩) rfl
 rw[Q.jO g (by have:=e 1 c1;have:=e 2 c2;have:=e 3 c3;have:=e 4 c4;lia)];exact aq iV rfl
def zb(h:b_ l=true):∀a∈l,a≠0/\Sm 62 a:=fun a ha=>by
 have:=de h ha;exact⟨this.1,by unfold Sm;lia⟩
def jv(xs:List Int):Int:=xs.foldl (fun g k=>((Int.gcd g k:Nat):Int)) 0
def wd(xs:List Int):List Int:=xs.map fun k=>k.fdiv (jv xs)
def J8(xs:List Int):Prop:=xs.length<=100/\jv xs≠0/\Sm 8000 (jv xs)
def xg(h:xs[i]?=some x):jv (xs.take (i+1))=((Int.gcd (jv (xs.take i)) x:Nat):Int):=by
 unfold jv;rw[W2,h];simp[Z_]
def lR(c:UB P w K mg base)(xs:List Int)(hp:J8 xs):Body P w K mg base d_ "without_divisor" cT f 1 [.val false xs] (RT true (wd xs)):=by
 intro e A outer s H E b;obtain⟨h1,h2,d⟩:=hp;refine ai 1 cG.nd af ?_;refine nE (fun i Γ=>∃r,Γ=[some (.val false xs),some (.val true (jv (xs.take i))),r]) (cu 2 cG.nd) (ae 0) ⟨none,rfl⟩ ?_ ?_
 .rintro i a Γ' ha ⟨r,rfl⟩;refine ai 1 cG.nd (az c (b.mono (by decide)) rfl (ae 1) (ae 2) True.intro) (aH ?_);dsimp only;rw[xg ha];exact⟨_,rfl⟩
 .rintro Γ' ⟨r,rfl⟩;rw[WO];exact aq (fP (f:=fun k:Int=>k.fdiv (jv xs)) ["k"] [1] (cj (ag cT) d_ rfl rfl (by decide +kernel)) (bt (ae 0)) (bE 0) (fun C s H fp=>dt 0 ["k","divisor"]) bg (fun i u g C s H fp=>aZ (ae 0) (ae 1) (Sm.div (n:=8000) d h2)) (by lia)) rfl
theorem Dc:∀(xs:List Int) (a:Int),(xs.foldl (fun g k=>((Int.gcd g k:Nat):Int)) a∣a)/\∀x∈xs,xs.foldl (fun g k=>((Int.gcd g k:Nat):Int)) a∣x
 |[],a=>⟨Xv a,fun x h=>by cases h⟩
 |y::ys,a=>by
  obtain⟨h1,h2⟩:=Dc ys ((Int.gcd a y:Nat):Int);refine⟨V1 h1 (Xp a y),fun x b=>?_⟩;rcases Vq.mp b with rfl|b
  .exact V1 h1 (W3 a x)
  .exact h2 x b
theorem Em{d:Int}:∀(xs:List Int) (a:Int),d∣a->(∀x∈xs,d∣x)->d∣xs.foldl (fun g k=>((Int.gcd g k:Nat):Int)) a
 |[],a,h,_=>h
 |y::ys,a,h,b=>Em ys _ (aaI h (b y (VC ..))) fun x q=>b x (Vw _ q)
theorem yX:∀(xs:List Int) (a:Int),0<=a->0<=xs.foldl (fun g k=>((Int.gcd g k:Nat):Int)) a
 |[],a,h=>h
 |y::ys,a,_=>yX ys _ (Int.natCast_nonneg _)
def pV(h:x∈xs):jv xs∣x:=(Dc xs 0).2 x h
def AM(h:x∈xs)(a:x≠0):0<jv xs:=by
 have h1:0<=jv xs:=yX xs 0 (Wo 0)
 have h2:jv xs≠0:=fun z=>a (by
  have:=pV h;rw[z] at this
  exact aa5.mp this)
 lia
def og(h:0<jv xs)(b:x∈xs):x=jv xs*x.fdiv (jv xs):=by
 obtain⟨c,a⟩:=pV b
 have e:x.fdiv (jv xs)=c:=by
  conv=>lhs;arg 1;rw[a]
  exact W5 c (by lia)
 rw[e];exact a
def ED(h:0<jv xs):jv (wd xs)=1:=by
 have c:0<=jv (wd xs):=yX _ 0 (Wo 0)
 have h1:jv xs*jv (wd xs)∣jv xs*1:=by
  rw[VX];refine Em xs 0 (ZC _) fun x a=>?_;have b:x.fdiv (jv xs)∈wd xs:=VG.mpr ⟨x,a,rfl⟩;have:=Int.mul_dvd_mul_left (jv xs) (pV b);rw[<-og h a] at this;exact this
 have h2:=ZT (by lia) h1;have:=VN (by decide) h2;have:jv (wd xs)≠0:=fun z=>by rw[z] at h2;exact absurd (aa5.mp h2) (by decide)
 lia
def A_(h:0<jv xs)(a:x∈xs):(x.fdiv (jv xs)).natAbs<=x.natAbs:=by
 have:=og h a
 conv=>rhs;rw[this,VT]
 exact YD _ (by lia)
def DE(h:x∈xs)(b:x≠0)(a:Sm n x):Sm n (jv xs):=by
 have:=WS.mpr (pV h);exact Sm.of_le (ZZ (by lia) this) a
def qu{t:Int}(h:¬(x=0/\y=0/\t=0))(i:Sm n x)(d:Sm n y)(f:Sm n t)(j:n<=8000):
  J8 [x,y,t]/\∃g c b t',0<g/\wd [x,y,t]=[c,b,t']/\x=g*c/\y=g*b/\t=g*t'/\jv [c,b,t']=1/\Sm n c/\Sm n b/\Sm n t':=by
 obtain⟨z,hz,e,sz⟩:∃z∈[x,y,t],z≠0/\Sm n z:=by
  by_cases h1:x=0
  .by_cases h2:y=0
   .exact⟨t,by simp,fun z=>h ⟨h1,h2,z⟩,f⟩
   .exact⟨y,by simp,h2,d⟩
  .exact⟨x,by simp,h1,i⟩
 have a:=AM hz e;have m1:x∈[x,y,t]:=by simp
 have m2:y∈[x,y,t]:=by simp
 have m3:t∈[x,y,t]:=by simp
 exact⟨⟨by show 3<=100;decide,by lia,(DE hz e sz).le j⟩,jv [x,y,t],_,_,_,a,rfl,og a m1,og a m2,og a m3,ED a,Sm.of_le (A_ a m1) i,Sm.of_le (A_ a m2) d,Sm.of_le (A_ a m3) f⟩
structure Gf(l:List Int):Prop where
 row:b_ l=true
 po:Gb l
 three:3<=l.length
def zi(l:List Int):List Int:=(qg l).filter fun p=>!(Q.cz l p)
def JV(f:b_ l=true)(hz:Q.cz l 0=true)(t:3<=l.length):Q.Ct l (zi l).head?:=by
 have o:∀q:Int,q∈qg l↔q=2\/(Q.aR q=true/\∃a∈l,q∣a):=fun q=>by
  unfold qg;rw[gi];unfold ye;rw[Vq,aaz];refine or_congr_right ?_;constructor
  .rintro⟨a,ha,c⟩;have h1:1<=(a.natAbs:Int):=by have:=de f ha;lia
   obtain⟨k,m⟩:=(Q.gP h1).mp c;exact⟨k,a,ha,Xf.mp m⟩
  .rintro⟨k,a,ha,m⟩;have h1:1<=(a.natAbs:Int):=by have:=de f ha;lia
   exact⟨a,ha,(Q.gP h1).mpr ⟨k,Xf.mpr m⟩⟩
 have d:∀q,Q.aR q=true->q∉qg l->Q.cz l q=true:=fun q c h=>by
  rw[o] at h;exact Q.x3 c (fun z=>h (.inl z)) t fun a ha r=>h (.inr ⟨c,a,ha,r⟩)
 have n:∀q,q∈qg l->Q.aR q=true:=fun q c=>by
  rcases(o q).mp c with z|z
  .rw[z];exact Q.aO
  .exact z.1
 cases j:zi l with
 |nil =>
  refine⟨hz,fun q c=>?_⟩;by_cases b:q∈qg l
  .apply Vr;intro h;have:q∈zi l:=Wx.mpr ⟨b,by simpa using h⟩;rw[j] at this;cases this
  .exact d q c b
 |cons p ps =>
  have hp:p∈zi l:=by rw[j];exact VC ..
  obtain⟨h1,h2⟩:=Wx.mp hp;refine⟨by simpa using h2,.inr ⟨n p h1,hz,fun q c s=>?_⟩⟩;by_cases b:q∈qg l
  .apply Vr;intro h;have i:q∈zi l:=Wx.mpr ⟨b,by simpa using h⟩;have g:(zi l).Pairwise (·<·):=(iG _).filter _;rw[j] at i g;rcases Vq.mp i with e|e
   .lia
   .have:=(W9.mp g).1 q e;lia
  .exact d q c b
def Eg(h:Gb l):(qg l).length<=64:=by
 have h1:(qg l).length<=(ye l).length:=Q.nV ((iG _).imp fun h=>by lia) fun x a=>gi.mp a;have:=h.few;lia
def BV(b:b_ l=true)(h:q∈qg l):2<=q/\q<2^62:=by
 unfold qg at h;rw[gi] at h;unfold ye at h;rcases Vq.mp h with z|z
 .rw[z];decide
 .obtain⟨a,ha,c⟩:=aaz.mp z;have f:=de b ha;have h1:1<=(a.natAbs:Int):=by lia
  obtain⟨d,e⟩:=(Q.gP h1).mp c;have:=VN (by lia) e;exact⟨Q.ao d,by lia⟩
abbrev UU(P w K mg base):=aI P w K mg base 5 "primes_of" ["numbers"] (cR K Gb true qg)
include B in
theorem pD(t:UU P w K mg base)(k:aI P w K mg base 7 "have_zero" ["numbers","p"] (cw K NQ true Q.cz))(l:List Int)(hp:Gf l):Body P w K mg base fN "first_barring" dG f 8 [.val false l] (RT true (Q.kD l)):=by
 intro u A outer s H E e;have m:=sU hp.row;have j:∀a∈l,a≠0/\Sm 62 a:=zb hp.row;refine aE (jM (fY (az k (e.mono (by decide)) rfl (ae 0) af ⟨m.1,j,.inl rfl⟩))) (fun b=>?_) (fun b=>?_)
 .have hz:Q.cz l 0=false:=by simpa using b
  rw[<-Q.m9 (r:=some 0) ⟨hz,.inl rfl⟩];exact aq (iJ af) rfl
 have hz:Q.cz l 0=true:=by simpa using b
 refine aE (av ax (bD rfl B.len (ae 0)) af) (fun b=>?_) (fun b=>?_)
 .have h2:(l.length:Int)=2:=by simpa using b
  have:=hp.three;lia
 have h2:¬(l.length:Int)=2:=by simpa using b
 refine aE (av fB (bD rfl B.len (ae 0)) af) (fun b=>?_) (fun b=>?_)
 .have v:4<(l.length:Int):=by simpa using b
  rw[<-Q.m9 (r:=none) ⟨hz,fun q n=>Q.jO (by have:=Q.ao n;lia) (by lia)⟩];exact aq (kR (α:=Int)) rfl
 have o:=hp.three;have g:=Eg hp.po;refine qf (f:=fun q:Int=>q) (p:=fun q=>!(Q.cz l q)) (b':=true) 1 ik.nd ["p"] [0] (cj (ag dG) fN rfl rfl (by decide +kernel)) (bt (aF t (e.mono (by decide)) rfl (ae 0) hp.po)) (bE 0) (fun C s H fp=>dt 0 ["p","numbers"]) bg (fun i q hi C s H fp=>vp (jM (fY (az k (e.mono (by decide)) rfl (ae 1) (ae 0) ⟨m.1,j,.inr (BV hp.row (Vv hi))⟩)))) (fun i q hi _ C s H fp=>j8 (b':=true) (ae 0)) (by lia) ?_;rw[List.map_id'];have c:=JV hp.row hz o;rw[<-Q.m9 c];unfold zi;generalize (qg l).filter (fun q=>!(Q.cz l q))=bl;cases bl with
 |nil =>
  refine aq (jw (α:=Option Int) (x:=none) (y:=none) (av fB (bD rfl B.len (ae 1)) af) (fun h=>absurd (show(0:Int)<0 by simpa using h) (by decide)) fun _=>kR (α:=Int)) ?_;show Bd.val _ _=Bd.val _ _;rw[ite_self];rfl
 |cons p ps =>
  refine aq (jw (α:=Option Int) (x:=some p) (y:=some p) (av fB (bD rfl B.len (ae 1)) af) (fun h=>(iJ (a9 (a:=p) (ae 1) af (by rw[rL (d:=p) (by decide) (by simp)];rfl)))) fun h=>absurd (show(0:Int)<((p::ps).length:Int) by simp) (by simpa using h)) ?_;show Bd.val _ _=Bd.val _ _;rw[ite_self];rfl
abbrev UW(P w K mg base):=aI P w K mg base 4 "refuse_no_row" ["row"] (cR K (fun(xs:List Int)=>b_ xs=true) true qC)
def o4(c:UW P w K mg base)(d:aI P w K mg base 9 "first_barring" ["numbers"] (cR K Gf true Q.kD))(l:List Int)(hp:Gf l):Body P w K mg base ji "first_without" fS f 9 [.val false l] (RT true (Q.kD l)):=by
 intro b A outer s H E a;refine vi (aF c (a.mono (by decide)) rfl (ae 0) hp.row) ?_;exact aq (aF d (a.mono (by decide)) rfl (ae 0) hp) rfl
open Q (kF pz qR)
def ML(a b:Int):Int×(Int×Int):=Q.sN (a*b,1)
def CQ(a b:Int):Prop:=a≠0/\b≠0/\Sm 60 a/\Sm 60 b/\Q.Tame (a*b).natAbs/\(ML a b).1.natAbs<1073741824
def yP{k:Int}(h:k≠0)(a:Sm 200 k)(b:Q.Tame k.natAbs):MD (k,1):=⟨h,Wo 1,a.le (by decide),by show(1:Int).natAbs<2^400;exact ZU (by decide),by show Q.Tame (k.natAbs*1);rw[VX];exact b⟩
abbrev UX(P w K mg base):=aI P w K mg base 5 "freed" ["u"] (cR K MD true Q.sN)
include B in
theorem pH(i:xT mg "GREAT_FROM" 1073741824)(RE:UX P w K mg base)(a b:Int)(h:CQ a b):Body P w K mg base jk "freed_product" fL f 5 [.val false a,.val false b] (RT true (ML a b)):=by
 intro m A outer s H E j;obtain⟨ha,k,c,e,l,n⟩:=h;refine ai 2 ig.nd (aF RE (j.mono (by decide)) rfl (bJ (aC (ae 0) (ae 1) (c.ok e)) af) (yP (Vn ha k) ((c.mul e).le (by decide)) l)) ?_;refine aE (av CT (gR rfl B.abs (a_ (ae 2))) (v9 rfl i)) (fun d=>?_) (fun _=>?_)
 .exfalso;have g:(Q.sN (a*b,1)).1.natAbs<1073741824:=n;rw[o9] at d;have:(1073741824:Int)<=((Q.sN (a*b,1)).1.natAbs:Int):=VH d;lia
 .exact aq (ae 2) rfl
def vU{k:Int}(h:k≠0)(b:Q.Tame k.natAbs):∃A u,Q.sN (k,1)=(A,(u,1))/\kF A/\0<u/\k=A*(u*u):=by
 obtain⟨f,s,h1,h2,a⟩:=Q.AY _ k h (Vu _);have t:Q.Tame (k.natAbs*1):=by rw[VX];exact b
 have e:=Q.C0 h (by decide) t h1 h2 (by rw[VX];exact a);refine⟨f,s,?_,h1,h2,a⟩;show((Q.HN k 1).1,fr (Q.HN k 1).2 1)=_;rw[e];show(f,fr s 1)=(f,(s,1));rw[Q.Kc (by decide) (Int.gcd_one_right s)]
def O0(a:Int)(l:Int×(Int×Int))(r:Int)(z:List Int):List Int:=wd [z.getD 0 0*r+a*z.getD 1 0,z.getD 0 0+r*z.getD 1 0,l.1*l.2.1*z.getD 2 0]
structure OK(a:Int)(l:Int×(Int×Int))(r:Int)(z:List Int):Prop where
 len:z.length=3
 sa:Sm 40 a
 s1:Sm 40 l.1
 s2:Sm 40 l.2.1
 sr:Sm 40 r
 sz:∀x∈z,Sm 4000 x
 nz:¬(z.getD 0 0*r+a*z.getD 1 0=0/\z.getD 0 0+r*z.getD 1 0=0/\l.1*l.2.1*z.getD 2 0=0)
abbrev UY(P w K mg base):=aI P w K mg base 2 "without_divisor" ["numbers"] (cR K J8 true wd)
def sE(i:UY P w K mg base)(a:Int)(l:Int×(Int×Int))(r:Int)(z:List Int)(hp:OK a l r z):Body P w K mg base kH "from_lesser" hZ f 2 [.val false a,.val false l,.val false r,.val false z] (RT true (O0 a l r z)):=by
 intro o A outer s H E k;obtain⟨len,h,g,e,c,sz,nz⟩:=hp
 match z,len with
 |[x,y,t],_ =>
 have d:=sz x (by simp);have b:=sz y (by simp);have st:=sz t (by simp);have n:Sm 4100 (x*r+a*y):=((d.mul c).add (h.mul b)).le (by decide);have m:Sm 4100 (x+r*y):=(d.add (c.mul b)).le (by decide);have j:Sm 4100 (l.1*l.2.1*t):=((g.mul e).mul st).le (by decide);refine ai 4 gH.nd (bC (aC (a9 (a:=x) (ae 3) af rfl) (ae 2) (d.ok c)) (aC (ae 0) (a9 (a:=y) (ae 3) af rfl) (h.ok b))) ?_;refine ai 5 gH.nd (bC (a9 (a:=x) (ae 3) af rfl) (aC (ae 2) (a9 (a:=y) (ae 3) af rfl) (c.ok b))) ?_;exact aq (aF i (k.mono (by decide)) rfl (fI (aJ (ae 4) (aJ (ae 5) (aJ (aC (aC (a_ (ae 1)) (a_ (bz (ae 1))) (g.ok e)) (a9 (a:=t) (ae 3) af rfl) ((g.mul e).ok st)) ck))) (by show 3<=1000;decide)) (qu nz n m j (by decide)).1) rfl
def Fi(k m:Int):Int:=if m<2*(Q.Dv k m).getD 0 then (Q.Dv k m).getD 0-m else (Q.Dv k m).getD 0
def OW(k m:Int):Prop:=1<=m/\m<2^60/\∃x,Q.Dv k m=some x/\0<=x/\x<m
def pj(c:aI P w K mg base 6 "root_by" ["k","m"] (cw K (fun _ m=>1<=m/\m<2^60) true Q.Dv))(k m:Int)(hp:OW k m):Body P w K mg base jq "least_root_by" fQ f 6 [.val false k,.val false m] (RT true (Fi k m)):=by
 intro g A outer s H E d;obtain⟨m1,m2,x,b,i,j⟩:=hp;refine ai 2 iE.nd (az c (d.mono (by decide)) rfl (ae 0) (ae 1) ⟨m1,m2⟩) ?_;have e:Fi k m=if m<2*x then x-m else x:=by unfold Fi;rw[b];rfl
 rw[b,e];refine aq (jw (av fB (aC af (eL (a:=x) (ae 2)) (mulL (by decide) (by decide))) (ae 1)) (fun _=>eU (eL (a:=x) (ae 2)) (ae 1)) fun _=>eL (a:=x) (ae 2)) ?_;show Bd.val _ _=Bd.val _ _;congr 1;by_cases h:m<2*x
 .rw[Vo h,V3 h];rfl
 .rw[Vm h,VW h];rfl
def OG{a b:Int}(ha:a≠0)(i:kF b)(h:pz a b)(p:b.natAbs<1073741824):OW a b.natAbs/\2*(Fi a b.natAbs).natAbs<=b.natAbs/\b∣Fi a b.natAbs*Fi a b.natAbs-a:=by
 obtain⟨x,e,k,l,f⟩:=Q.FU ha i h;have o:=i.1;have j:Fi a b.natAbs=if (b.natAbs:Int)<2*x then x-b.natAbs else x:=by unfold Fi;rw[e];rfl
 refine⟨⟨by lia,by lia,x,e,k,l⟩,?_,?_⟩
 .rw[j];split<;>lia
 .rw[j];split
  .have g:b∣(b.natAbs:Int):=Xf.mpr (Xv b);obtain⟨c,n⟩:=g;obtain⟨d,f⟩:=f;refine⟨d-2*x*c+(b.natAbs:Int)*c,?_⟩;generalize (b.natAbs:Int)=m at *;grind
  .exact f
structure Gm(a b:Int):Prop where
 qa:kF a
 qb:kF b
 la:a.natAbs<1073741824
 lb:b.natAbs<1073741824
 yes:pz a b
def LZ(a b:Int)(z:List Int):Prop:=∃x y t,z=[x,y,t]/\x*x=a*(y*y)+b*(t*t)/\¬(x=0/\y=0/\t=0)/\Sm (31*(Q.lg a+Q.lg b)+40) x/\Sm (31*(Q.lg a+Q.lg b)+40) y/\Sm (31*(Q.lg a+Q.lg b)+40) t
def Gm.two{a b:Int}(h:Gm a b)(ha:a≠1)(c:b≠1)(g:a.natAbs<=b.natAbs):2<=b.natAbs:=by
 have d:=h.qa.1;have f:=h.qb.1;apply Vr;intro e;have e1:a=-1:=by lia
 have e2:b=1\/b=-1:=by lia
 rcases e2 with e2|e2
 .exact absurd e2 c
 .have:=h.yes 0 (.inl rfl);rw[e1,e2,Q.aM] at this;exact absurd this (by decide)
structure MX(a b r:Int)(l:Int×(Int×Int)):Prop where
 ex:∃c s,l=(c,(s,1))/\Gm a c/\0<s/\r*r-a=b*c*(s*s)/\qR a c+1<=qR a b/\s.natAbs<1073741824/\Q.lg c+1<=Q.lg b
def Gv{a b:Int}(h:Gm a b)(h1:a≠1)(n:a.natAbs<=b.natAbs)(h2:2<=b.natAbs)(p:2*r.natAbs<=b.natAbs)(t:b∣r*r-a):((r*r-a).fdiv b≠0/\((r*r-a).fdiv b).natAbs<1073741824)/\MX a b r (Q.sN ((r*r-a).fdiv b,1)):=by
 obtain⟨k,f⟩:=t;have i:=h.qb.1;have o:=h.qa.1;have ek:(r*r-a).fdiv b=k:=by rw[f];exact W5 k i
 have j:r*r-a≠0:=fun z=>by
  have:=Q.tI (x:=r) (y:=1) h.qa h1 (by rw[VX,VX];(first|lia|omega));exact absurd this (by decide)
 have m:k≠0:=fun z=>j (by rw[f,z,Wg]);have bd:=Q.Ha n p i f;have u:=h.lb;have kl:k.natAbs<1073741824:=by (first|lia|omega)
 rw[ek];refine⟨⟨m,kl⟩,?_⟩;obtain⟨c,s,e,d,l,g⟩:=vU m (Q.u_ (by (first|lia|omega)) (by (first|lia|omega)));have cl:=Q.GU l g;have e3:r*r-a=b*c*(s*s):=by rw[f,g];grind
 have sl:s.natAbs<=k.natAbs:=by
  have q:k=s*(s*c):=by rw[g];grind
  conv=>rhs;rw[q,VT]
  refine Zb _ ?_;have:s*c≠0:=Vn (by (first|lia|omega)) d.1;(first|lia|omega)
 exact⟨c,s,e,⟨h.qa,d,h.la,by (first|lia|omega),h.yes.step o i d.1 (by (first|lia|omega)) e3⟩,l,e3,Q.Ft n (Q.Ax h2 d.1 (by (first|lia|omega))),by (first|lia|omega),Q.Ax h2 d.1 (by (first|lia|omega))⟩
def AR{a b:Int}{l:Int×(Int×Int)}(h:Gm a b)(h1:a≠1)(Y:qR a b<118)(G:2*r.natAbs<=b.natAbs)(H:MX a b r l)(hz:LZ a l.1 z):OK a l r z/\LZ a b (O0 a l r z):=by
 obtain⟨c,s,rfl,u,W,e,P,sl,J⟩:=H.ex;obtain⟨x,y,t,rfl,i,nz,d,f,st⟩:=hz;have d:Sm (31*(Q.lg a+Q.lg c)+40) x:=d;have f:Sm (31*(Q.lg a+Q.lg c)+40) y:=f;have st:Sm (31*(Q.lg a+Q.lg c)+40) t:=st;have i:x*x=a*(y*y)+c*(t*t):=i;have M:=h.la;have F:=h.lb;have lc:=u.lb;have Z:=Q.tS h.qa.1 M;have V:=Q.tS h.qb.1 F
 have o:¬(x*r+a*y=0/\x+r*y=0/\c*s*t=0):=fun⟨A,j,n⟩=>by
  have w:t=0:=by
   rcases WV.mp n with z|z
   .exact absurd z (Vn u.qb.1 (by lia))
   .exact z
  rw[w,Wg,Wg,ZE] at i;have D:=Q.tI h.qa h1 i;rw[D,Wg,ZE] at j;exact nz ⟨j,D,w⟩
 have q:Sm 30 a:=by unfold Sm;lia
 have m:Sm 30 r:=by unfold Sm;lia
 have k:Sm 31 (c*s):=Q.IE (by lia) G h.qb.1 (by lia) (by lia) e;have X:31*(Q.lg a+Q.lg c)+40+31<=31*(Q.lg a+Q.lg b)+40:=by lia
 have R:Sm (31*(Q.lg a+Q.lg b)+40) (x*r+a*y):=((d.mul m).add (q.mul f)).le (by lia);have I:Sm (31*(Q.lg a+Q.lg b)+40) (x+r*y):=(d.add (m.mul f)).le (by lia);have N:Sm (31*(Q.lg a+Q.lg b)+40) (c*s*t):=(k.mul st).le (by lia);obtain⟨_,g,S,L,t',U,O,ex,B,C,_,E,K,T⟩:=qu o R I N (by lia);refine⟨⟨rfl,q.le (by decide),(show Sm 30 c by unfold Sm;lia).le (by decide),(show Sm 30 s by unfold Sm;lia).le (by decide),m.le (by decide),fun v p=>?_,o⟩,S,L,t',O,?_,fun⟨A,j,n⟩=>o ⟨by rw[ex,A,Wg],by rw[B,j,Wg],by rw[C,n,Wg]⟩,E,K,T⟩
 .simp only[Vq,VA,Wb] at p;rcases p with rfl|rfl|rfl
  .exact d.le (by lia)
  .exact f.le (by lia)
  .exact st.le (by lia)
 .exact Q.Im (by lia) i e ex B C
section
variable(RE:UX P w K mg base)(RF:aI P w K mg base 3 "from_lesser" ["a","lesser","root","zero"] (Gk K OK true O0))(Ry:aI P w K mg base 7 "least_root_by" ["k","m"] (cw K OW true Fi))
def QC:Sm (n+40) 0:=by unfold Sm;exact YY _
def OO:Sm (n+40) 1:=by unfold Sm;exact ZU (by lia)
include B RE RF Ry in
theorem pe(n:Nat)(G:aI P w K mg base (8+n) "square_of_two" ["a","b"] (sJ K (fun a b=>Gm a b/\qR a b<n/\qR a b<118) true LZ))(a b:Int)(h:Gm a b)(Z:qR a b<n+1)(C:qR a b<118):Body P w K mg base jd "square_of_two" dF f (8+n) [.val false a,.val false b] (wX true (LZ a b)):=by
 intro W A outer s H E i;have v:=h.qa.1;have D:=h.qb.1;have Y:=h.la;have J:=h.lb;refine aE (av ax (ae 0) af) (fun d=>?_) (fun d=>?_)
 .have ha:a=1:=VH d;exact aq (fI (as:=[1,1,0]) (aJ af (aJ af (aJ af ck))) (by show 3<=1000;decide)) ⟨_,⟨1,1,0,rfl,by rw[ha];grind,fun z=>absurd z.1 (by decide),OO,OO,QC⟩,rfl⟩
 have h1:a≠1:=V4 d;refine aE (av ax (ae 1) af) (fun d=>?_) (fun d=>?_)
 .have T:b=1:=VH d;exact aq (fI (as:=[1,0,1]) (aJ af (aJ af (aJ af ck))) (by show 3<=1000;decide)) ⟨_,⟨1,0,1,rfl,by rw[T];grind,fun z=>absurd z.1 (by decide),OO,QC,OO⟩,rfl⟩
 have m:=d;refine aE (av fB (gR rfl B.abs (ae 0)) (gR rfl B.abs (ae 1))) (fun d=>?_) (fun d=>?_)
 .rw[o9,o9] at d;have p:(b.natAbs:Int)<a.natAbs:=VH d;have k:b.natAbs<a.natAbs:=by lia
  have u:=Q.Ff k;refine g_ 2 cg.nd (jy G i rfl (ae 1) (ae 0) ⟨⟨h.qb,h.qa,h.lb,h.la,h.yes.swap v D⟩,by lia,by lia⟩) fun z hz=>?_;obtain⟨x,y,t,rfl,X,nz,N,O,st⟩:=hz;have le:31*(Q.lg b+Q.lg a)+40<=31*(Q.lg a+Q.lg b)+40:=by lia
  exact aq (fI (as:=[x,t,y]) (aJ (a9 (a:=x) (ae 2) af rfl) (aJ (a9 (a:=t) (ae 2) af rfl) (aJ (a9 (a:=y) (ae 2) af rfl) ck))) (by show 3<=1000;decide)) ⟨_,⟨x,t,y,rfl,by rw[X,aa7],fun⟨M,S,U⟩=>nz ⟨M,U,S⟩,N.le le,st.le le,O.le le⟩,rfl⟩
 rw[o9,o9] at d;have p:¬(b.natAbs:Int)<a.natAbs:=V4 d;have j:a.natAbs<=b.natAbs:=by lia
 have h2:=h.two h1 (V4 m) j;obtain⟨pl,e,R⟩:=OG v h.qb h.yes J;refine ai 3 cg.nd (az Ry (i.mono (by lia)) rfl (ae 0) (eR (gR rfl B.abs (ae 1)) (o9 b)) pl) ?_;generalize Fi a b.natAbs=r at *;obtain⟨⟨I,kl⟩,o⟩:=Gv h h1 j h2 e R;have F:Sm 30 r:=by unfold Sm;lia
 have L:Sm 30 ((r*r-a).fdiv b):=by unfold Sm;lia
 refine ai 4 cg.nd (aF RE (i.mono (by lia)) rfl (bJ (aZ (eU (aC (ae 3) (ae 3) (F.ok F)) (ae 0)) (ae 1) (Sm.div (n:=30) (by unfold Sm;lia) D)) af) (yP I (L.le (by decide)) (Q.u_ (by lia) (by lia)))) ?_;generalize Q.sN ((r*r-a).fdiv b,1)=l at *;obtain⟨c,q,V,d,_,_,u,_,_⟩:=o.ex;have g:l.1=c:=by rw[V]
 refine ou (Ik RF (i.mono (by lia)) rfl (ae 0) (ae 4) (ae 3) (jy G i rfl (ae 0) (a_ (ae 4)) ⟨by rw[g];exact d,by rw[g];lia,by rw[g];lia⟩) fun z hz=>(AR h h1 C e o hz).1) ?_;rintro y ⟨z,hz,rfl⟩;exact⟨_,(AR h h1 C e o hz).2,rfl⟩
include B RE RF Ry in
theorem o3{h:Heap}(D:Df K "square_of_two" dF)(X:K.In h)(G:h.Ns mainGlobals mg):∀n:Nat,aI P w K mg base (8+n) "square_of_two" ["a","b"] (sJ K (fun a b=>Gm a b/\qR a b<n/\qR a b<118) true LZ)
 |0=>D.K4 X G (fun _ _ _ _ _ _ us d=>match us,d with|[_,_],_=>rfl) fun f fd F=>HK F cg rfl fun a c hp=>absurd hp.2.1 (Xu _)
 |n+1=>D.K4 X G (fun _ _ _ _ _ _ us d=>match us,d with|[_,_],_=>rfl) fun f fd F=>HK F cg rfl fun a c hp=>pe B RE RF Ry n (o3 D X G n) a c hp.1 hp.2.1 hp.2.2
end
structure C7(l:List Int):Prop where
 row:b_ l=true
 len:l.length=3
 po:Gb l
 q1:CQ (-l.getD 0 0) (l.getD 1 0)
 q2:CQ (-l.getD 0 0) (l.getD 2 0)
def Z3(row:List Int)(z:Option (List Int)):Prop:=(Q.kD row≠none/\z=none)\/(Q.kD row=none/\∃x y t,z=some [x,y,t]/\jv [x,y,t]=1/\row.getD 0 0*(x*x)+row.getD 1 0*(y*y)+row.getD 2 0*(t*t)=0/\Sm 2000 x/\Sm 2000 y/\Sm 2000 t)
def KJ{a b B u v:Int}(ha:a≠0)(e:b≠0)(g:c≠0)(o:A≠0)(n:B≠0)(r:0<u)(s:0<v)(e1:-a*b=A*(u*u))(e2:-a*c=B*(v*v))(h:Q.Ct [a,b,c] none):pz A B:=fun p hp=>by
 obtain⟨d,k⟩:=h;rw[<-Q.B0 hp o n (by lia) (by lia) e1 e2];rcases hp with rfl|hp
 .rw[Q.aM];rw[Q.dJ] at d;obtain⟨⟨x,i,q⟩,⟨y,f,t⟩⟩:=d
  have key:0 < -a*b\/0 < -a*c:=by
   apply Vr;intro j;have m:¬0 < -a*b:=fun z=>j (.inl z);have l:¬0 < -a*c:=fun z=>j (.inr z);rw[Q.dU (by lia) e] at m;rw[Q.dU (by lia) g] at l;simp only[Vq,VA,Wb] at i f;rcases i with rfl|rfl|rfl<;>rcases f with rfl|rfl|rfl<;>lia
  rcases key with z|z
  .rw[V3 z];rfl
  .rw[V3 z,aa8]
 .have:=k p hp;rw[Q.dR (by have:=Q.ao hp;lia),Q.C8 (.inr hp) ha e g] at this;exact this
abbrev UZ(P w K mg base):=aI P w K mg base 10 "first_without" ["row"] (cR K Gf true Q.kD)
def pG(Rl:UW P w K mg base)(Rj:UY P w K mg base)(Rq:UZ P w K mg base)
  (Z:aI P w K mg base 6 "freed_product" ["a","b"] (cw K CQ true ML)) (RZ:aI P w K mg base 126 "square_of_two" ["a","b"] (sJ K (fun a b=>Gm a b/\qR a b<118/\qR a b<118) true LZ)) (row:List Int) (hp:C7 row):Body P w K mg base jg "zero_of_three" fW f 126 [.val false row] (wX true (Z3 row)):=by
 intro cdv A outer s H E j;obtain⟨q,hl,O,q1,L⟩:=hp
 match row,hl with
 |[a,b,c],_ =>
 have q1:CQ (-a) b:=q1;have L:CQ (-a) c:=L;have ha:=de q (x:=a) (by simp);have U:=de q (x:=b) (by simp);have d:=de q (x:=c) (by simp);refine vi (aF Rl (j.mono (by decide)) rfl (ae 0) q) ?_;refine ai 1 bu.nd (az Z (j.mono (by decide)) rfl (fC (a9 (a:=a) (ae 0) af rfl)) (a9 (a:=b) (ae 0) af rfl) q1) ?_;refine ai 2 bu.nd (az Z (j.mono (by decide)) rfl (fC (a9 (a:=a) (ae 0) af rfl)) (a9 (a:=c) (ae 0) af rfl) L) ?_;have I:Gf [a,b,c]:=⟨q,O,Vu 3⟩;obtain⟨_,_,_,_,t1,m⟩:=q1;obtain⟨_,_,_,_,t2,l⟩:=L;obtain⟨M,u,V,i,u0,e1⟩:=vU (Vn (by lia) U.1) t1;obtain⟨N,v,T,o,v0,e2⟩:=vU (Vn (by lia) d.1) t2;have r:ML (-a) b=(M,(u,1)):=V;have B:ML (-a) c=(N,(v,1)):=T;rw[r] at m ⊢;rw[B] at l ⊢;have m:M.natAbs<1073741824:=m;have l:N.natAbs<1073741824:=l;have ok:=Q.uZ [a,b,c];cases F:Q.kD [a,b,c] with
 |some p =>
  refine aE (zH (x:=some p) (α:=Int) (eR (aF Rq (j.mono (by decide)) rfl (ae 0) I) F) fun _ _ _ _ h=>nomatch h) (fun _=>?_) (fun d=>nomatch d);exact aq (kR (α:=List Int)) ⟨_,.inl ⟨(by rw[F];exact fun z=>nomatch z),rfl⟩,rfl⟩
 |none =>
  rw[F] at ok;refine aE (zH (x:=none) (α:=Int) (eR (aF Rq (j.mono (by decide)) rfl (ae 0) I) F) fun _ _ _ _ h=>nomatch h) (fun d=>nomatch d) (fun _=>?_);have yes:=KJ ha.1 U.1 d.1 i.1 o.1 u0 v0 e1 e2 ok;have W:=Q.LC i.1 o.1 m l;have hl1:=Q.tS i.1 m;have hl2:=Q.tS o.1 l;refine g_ 3 bu.nd (jy RZ (j.mono (by decide)) rfl (eR (a':=M) (a_ (u:=(M,(u,(1:Int)))) (ae 1)) rfl) (eR (a':=N) (a_ (u:=(N,(v,(1:Int)))) (ae 2)) rfl) ⟨⟨i,o,m,l,yes⟩,Nat.lt_succ_of_le W,Nat.lt_succ_of_le W⟩) fun z hz=>?_;obtain⟨x,y,t,rfl,ez,nz,C,D,st⟩:=hz;have C:Sm 1850 x:=C.le (by lia);have D:Sm 1850 y:=D.le (by lia);have st:Sm 1850 t:=st.le (by lia)
  have X:∀{k A u:Int},A≠0->0<u->k.natAbs<1073741824*1073741824->k=A*(u*u)->Sm 60 u:=fun {k A u} i hu hk e=>by
   have:=Q.zZ i hu e;unfold Sm;lia
  have Y:∀{x y:Int},x.natAbs<1073741824->y.natAbs<1073741824->(-x*y).natAbs<1073741824*1073741824:=fun {x y} h1 h2=>by
   rw[VT,Int.natAbs_neg];exact Nat.mul_lt_mul'' h1 h2
  have G:=X i.1 u0 (Y ha.2 U.2) e1;have J:=X o.1 v0 (Y ha.2 d.2) e2;have n:Sm 30 a:=by unfold Sm;exact ha.2
  refine ai 4 bu.nd (a_ (bz (ae 1))) ?_;refine ai 5 bu.nd (a_ (bz (ae 2))) ?_;refine ai 6 bu.nd (aC (aC (a9 (a:=x) (ae 3) af rfl) (ae 4) (C.ok G)) (ae 5) ((C.mul G).ok J)) ?_
  have hn:¬(x*u*v=0/\y*a*v=0/\t*a*u=0):=fun⟨z1,z2,z3⟩=>nz ⟨by
    rcases WV.mp z1 with z|z
    .rcases WV.mp z with z|z
     .exact z
     .lia
    .lia,by
    rcases WV.mp z2 with z|z
    .rcases WV.mp z with z|z
     .exact z
     .exact absurd z ha.1
    .lia,by
    rcases WV.mp z3 with z|z
    .rcases WV.mp z with z|z
     .exact z
     .exact absurd z ha.1
    .lia⟩
  have w1:Sm 2000 (x*u*v):=((C.mul G).mul J).le (by decide);have w2:Sm 2000 (y*a*v):=((D.mul n).mul J).le (by decide);have w3:Sm 2000 (t*a*u):=((st.mul n).mul G).le (by decide);obtain⟨pw,g,R,S,t',g0,ew,ex,ey,et,hg,s1,s2,s3⟩:=qu hn w1 w2 w3 (by decide);have heq:a*(R*R)+b*(S*S)+c*(t'*t')=0:=Q.Lw (by lia) e1 e2 ez ex ey et;refine aq (iJ (aF Rj (j.mono (by decide)) rfl (fI (as:=[x*u*v,y*a*v,t*a*u]) (aJ (ae 6) (aJ (aC (aC (a9 (a:=y) (ae 3) af rfl) (j8 (b':=true) (a9 (a:=a) (ae 0) af rfl)) (D.ok n)) (ae 5) ((D.mul n).ok J)) (aJ (aC (aC (a9 (a:=t) (ae 3) af rfl) (j8 (b':=true) (a9 (a:=a) (ae 0) af rfl)) (st.ok n)) (ae 4) ((st.mul n).ok G)) ck))) (by show 3<=1000;decide)) pw)) ?_;rw[ew];exact⟨_,.inr ⟨F,R,S,t',rfl,hg,heq,s1,s2,s3⟩,rfl⟩
def D7{row:List Int}(nz:∀x∈row,x≠0):q∈qg row↔q=2\/(Q.aR q=true/\∃a∈row,q∣a):=by
 unfold qg;rw[gi];unfold ye;rw[Vq,aaz];refine or_congr_right ?_;constructor
 .rintro⟨a,ha,d⟩;have h1:1<=(a.natAbs:Int):=by have:=nz a ha;lia
  obtain⟨b,c⟩:=(Q.gP h1).mp d;exact⟨b,a,ha,Xf.mp c⟩
 .rintro⟨b,a,ha,c⟩;have h1:1<=(a.natAbs:Int):=by have:=nz a ha;lia
  exact⟨a,ha,(Q.gP h1).mpr ⟨b,Xf.mpr c⟩⟩
def Mq{a b:Int}(h:∀x∈[a,b,c],x≠0/\x.natAbs<1073741824)(q1:CQ (-a) b)(f:CQ (-a) c):C7 [a,b,c]:=by
 refine⟨?_,rfl,⟨by show 3<=100;decide,fun k g=>by have:=h k g;lia,?_⟩,q1,f⟩
 .unfold b_;rw[V3 (by show 1<=3/\3<=8;decide),YU];exact Wc.mpr fun x d=>by unfold y8;exact V3 (h x d)
 .have e:∀x∈[a,b,c],(Q.nR (x.natAbs:Int)).length<=19:=fun x d=>by
   have:=h x d;exact Q.Bg (by lia) (by lia)
  have i:=e a (by simp);have l:=e b (by simp);have j:=e c (by simp);unfold ye;simp only[List.flatMap_cons,List.flatMap_nil,Wl,V5,Vx,List.length_nil];lia
def Dd{K:PySem.W.Frag}{N:Nn}{H:Hp}{a:List Int}:¬Py.rp K N H .non a:=fun h=>by
 obtain⟨_,_,e,_⟩:=h;cases e
abbrev mR:=List (Int⊕(Int×Int))
instance:DecidableEq (Int⊕(Int×Int)):=fun a b=>match a,b with
 |.inl x,.inl y=>decidable_of_iff (x=y) ⟨fun h=>by rw[h],fun h=>Sum.inl.inj h⟩
 |.inr x,.inr y=>decidable_of_iff (x=y) ⟨fun h=>by rw[h],fun h=>Zh h⟩
 |.inl _,.inr _=>isFalse fun h=>by cases h
 |.inr _,.inl _=>isFalse fun h=>by cases h
def Ny(c:Int⊕(Int×Int))(cs:mR):Bool:=cs.any fun d=>decide (d=c)
def mM{c:Int⊕(Int×Int)}{cs:mR}:Ny c cs=true↔c∈cs:=by
 unfold Ny;rw[Yl];constructor
 .rintro⟨d,a,e⟩;rw[<-VH e];exact a
 .intro h;exact⟨c,h,V3 rfl⟩
def Cu(k:Int)(ps:List Int):mR:=ps.map (Q.dW k)
def uW(m:aI P w K mg base 3 "is_prime" ["k"] (cR K (fun k=>k<2^62) true Q.aR))(x:Int)(h2:2<=x)(p:x<=10000):Body P w K mg base mH "next_prime" i9 f 3 [.val false x] (RT true (Q.pf (x+1))):=by
 intro n A outer s H E l;have j:Q.PB=1070000011:=rfl;have h:x+1<=Q.PB:=by lia
 have c:=Q.qG h;have i:=Q.Nv h;have b:=Q.zA h (by lia);refine ai 1 g9.nd (bC (ae 0) af) ?_;refine cb (ι:=Int) (fun d Γ=>Γ=[some (.val false x),some (.val true d)]/\x+1<=d/\d<=Q.pf (x+1)) (fun d=>(Q.pf (x+1)-d).toNat) (x+1) ⟨rfl,Wo _,b.2⟩ ?_;rintro d Γ' ⟨rfl,h1,q⟩;refine⟨_,jM (fY (aF m (l.mono (by decide)) rfl (ae 1) (by lia))),fun a=>?_,fun a=>?_⟩
 .have o:d≠Q.pf (x+1):=fun z=>by rw[z,c] at a;cases a
  refine ai 1 g9.nd (bC (ae 1) af) ?_;exact aH ⟨d+1,⟨rfl,by lia,by lia⟩,by lia⟩
 .have hp:Q.aR d=true:=by simpa using a
  have e:Q.pf (x+1)=d:=by
   have g:d%2=1:=by
    rcases Q.bT.mp hp with z|z
    .lia
    .exact z.2.1
   have:=Q.qK hp h1 g (by lia) (by lia);lia
  rw[e];exact aq (ae 1) rfl
def Qb(a b:Int⊕(Int×Int))(p:Int):Prop:=p∈Q.P7/\∃m n:Int,m≠0/\n≠0/\a=Q.dW m p/\b=Q.dW n p
def JG{n:Int}(hp:Q.aR p=true)(a:n≠0):Sm 4 (Q.cls n p).2:=by
 obtain⟨_,h2,b⟩:=Q.iP hp a;by_cases z:p=2
 .have:=h2 z;simp only[Vq,VA,Wb] at this;unfold Sm;lia
 .have:=b z;unfold Sm;lia
def kY(a b:Int⊕(Int×Int))(p:Int)(hp:Qb a b p):Body P w K mg base gI "class_of_product" dI f kk [.val false a,.val false b,.val false p] (RT true (Q.o5 a b p)):=by
 intro l A outer s H E o;obtain⟨hp,m,n,k,j,rfl,rfl⟩:=hp;rcases Q.eE hp with rfl|⟨c,pp,_⟩
 .have g:Q.dW m 0=Sum.inl (if 0<m then 1 else -1):=Vo rfl;have h:Q.dW n 0=Sum.inl (if 0<n then 1 else -1):=Vo rfl;rw[g,h];have i:Sm 1 (if 0<m then (1:Int) else -1):=by unfold Sm;split<;>decide
  have e:Sm 1 (if 0<n then (1:Int) else -1):=by unfold Sm;split<;>decide
  generalize (if 0<m then (1:Int) else -1)=x at *;generalize (if 0<n then (1:Int) else -1)=y at *;refine aE (av ax (ae 2) af) (fun _=>?_) (fun d=>absurd d (by decide));exact aq (I_ (β:=Int×Int) (aC (Jg (β:=Int×Int) (a:=x) (ae 0)) (Jg (β:=Int×Int) (a:=y) (ae 1)) (i.ok e))) rfl
 .have g:Q.dW m p=Sum.inr (Q.cls m p):=Vm c;have h:Q.dW n p=Sum.inr (Q.cls n p):=Vm c;have i:=JG pp k;have e:=JG pp j;rw[g,h];generalize Q.cls m p=u at *;generalize Q.cls n p=v at *;refine aE (av ax (ae 2) af) (fun d=>absurd (by simpa using d) c) (fun _=>?_);refine ai 3 fX.nd (aC (bz (tY (α:=Int) (a:=u) (ae 0))) (bz (tY (α:=Int) (a:=v) (ae 1))) (i.ok e)) ?_;by_cases z:p=2
  .refine aq (En (α:=Int) (bJ (aQ (bC (a_ (tY (α:=Int) (a:=u) (ae 0))) (a_ (tY (α:=Int) (a:=v) (ae 1)))) af (by decide)) (jw (av ax (ae 2) af) (fun _=>aQ (ae 3) af (by decide)) (fun _=>ae 3)))) ?_;show Bd.val _ _=Bd.val _ (Sum.inr (Q.a7 u v p));unfold Q.a7;rw[Vo z,Vo (V3 z),Wu _ (by decide),Wu _ (by decide)];rfl
  .refine aq (En (α:=Int) (bJ (aQ (bC (a_ (tY (α:=Int) (a:=u) (ae 0))) (a_ (tY (α:=Int) (a:=v) (ae 1)))) af (by decide)) (jw (av ax (ae 2) af) (fun _=>aQ (ae 3) af (by decide)) (fun _=>ae 3)))) ?_;show Bd.val _ _=Bd.val _ (Sum.inr (Q.a7 u v p));unfold Q.a7;rw[Vm z,Vm (by rw[VW z];decide),Wu _ (by decide)];rfl
def Ov(h:Q.Q6[i]?=some p):p=Q.Q6.getD i 1/\i<6/\0<=p/\p<=13:=by
 have hi:i<6:=(VE.mp h).1;have e:p=Q.Q6.getD i 1:=by rw[VD,h];rfl
 have m:p∈Q.Q6:=Vv h;simp only[Q.Q6,Vq,VA,Wb] at m;exact⟨e,hi,by lia,by lia⟩
include B in
theorem jS(l:vY K mg "SMALL_PLACES" [0,2,3,5,7,11,13]):Body P w K mg base c9 "small_free_numbers" bX f kk [] (wX true (fun(g:List Int)=>g.Perm (Q.dk 6))):=by
 intro o A outer s H E r;refine ai 0 bS.nd (fI (as:=[(1:Int),-1]) (b:=true) (aJ af (aJ (fC af) ck)) (W8 rfl)) ?_;refine oQ (as:=Q.Q6) (fun i Γ=>∃d,i<=6/\Γ=[some (.val true (Q.dk i)),d]) (cu 1 bS.nd) (E9 (AG (t7 rfl l) af (by decide) (by decide))) ⟨none,by decide,rfl⟩ ?_ ?_
 .rintro i p Γ' hp ⟨d,e,rfl⟩;obtain⟨ep,hi,q,n⟩:=Ov hp;have u:=Q.HU i e;have c:=Q.KL i e
  refine ai 0 bS.nd (eR (a':=Q.dk (i+1)) (Dn (ae 0) (fP (b':=true) (f:=fun k:Int=>k*p) ["k"] [1] (cj (ag bX) c9 rfl rfl (by decide +kernel)) (bt (ae 0)) (bE 0) (fun C s H fp=>dt 0 ["k","p"]) bg (fun j k m C s H fp=>by
   have:=c k (Vv m)
   exact aC (ae 0) (ae 1) ((show Sm 15 k by unfold Sm;lia).ok (show Sm 4 p by unfold Sm;lia))) (by lia)) (by rw[Vx];lia)) (by rw[ep];rfl)) ?_
  exact aH ⟨_,by lia,rfl⟩
 .rintro Γ' ⟨d,_,rfl⟩;have t:=Q.tu.1;exact ou (Fm rfl B.sorted rfl B.abs (ae 0) (by show 2<=(Q.dk 6).length;lia) (by show(Q.dk 6).length<=1000;lia)) fun a h=>⟨a,h,rfl⟩
def wu(h:p∈Q.P7):p=0\/(2<=p/\p<2^62):=by
 simp only[Q.P7,Vq,VA,Wb] at h;lia
abbrev U0(P w K mg base):=aI P w K mg base 3 "class_at" ["k","p"] (cw K (fun k p=>k≠0/\(p=0\/(2<=p/\p<2^62))) true rn)
def uA(c:U0 P w K mg base)(k:Int)(ps:List Int)(a:k≠0)(e:ps=Q.P7):Body P w K mg base iW "classes_of" gg f 3 [.val false k,.val false ps] (RT true (Cu k ps)):=by
 intro d A outer s H E b;subst e;exact aq (fP (b':=true) (f:=Q.dW k) ["p"] [0] (cj (ag gg) iW rfl rfl (by decide +kernel)) (bt (ae 1)) (bE 0) (fun C s H fp=>dt 0 ["p","k"]) bg (fun j p hp C s H fp=>az c (b.mono (by decide)) rfl (ae 1) (ae 0) ⟨a,wu (Vv hp)⟩) (by decide)) rfl
def G5(a:List mR):Prop:=a.length=7/\(∀cs∈a,cs.length<=100)/\∀j,j<7->∀c∈a.getD j [],∃n:Int,n≠0/\c=Q.dW n (Q.P7.getD j 0)
def x6(k:Int)(ps:List Int)(a:List mR):List mR:=(ps.zip a).map fun u=>u.2.map fun c=>Q.o5 (Q.dW k u.1) c u.1
def KI{a:List mR}{u:Int×mR}(c:a.length=7)(h:(Q.P7.zip a)[i]?=some u):i<7/\u.1=Q.P7.getD i 0/\u.2=a.getD i []/\u.1∈Q.P7/\u.2∈a:=by
 have hi:i<(Q.P7.zip a).length:=(VE.mp h).1;rw[Yy,c] at hi;have b:i<7:=by have:Q.P7.length=7:=rfl;lia
 have h1:Q.P7[i]?=some u.1:=by have:=congrArg (Option.map Prod.fst) h;rw[<-VJ,List.map_fst_zip (by rw[c];decide)] at this;exact this
 have h2:a[i]?=some u.2:=by have:=congrArg (Option.map Prod.snd) h;rw[<-VJ,List.map_snd_zip (by rw[c];decide)] at this;exact this
 exact⟨b,by rw[VD,h1];rfl,by rw[VD,h2];rfl,Vv h1,Vv h2⟩
include B in
theorem nZ(F:U0 P w K mg base)(I:aI P w K mg base 1 "class_of_product" ["one","other","p"] (tF K Qb true Q.o5))(k:Int)(ps:List Int)(b:List mR)(o:k≠0)(e:ps=Q.P7)(G:G5 b):Body P w K mg base e9 "wishes_without" dh f 3 [.val false k,.val false ps,.val false b] (RT true (x6 k ps b)):=by
 intro z A outer s H E p;subst e;obtain⟨D,d,y⟩:=G;refine Jb 3 mR cQ.nd ?_;refine oQ (as:=Q.P7.zip b) (fun i Γ=>∃l m h,Γ=[some (.val false k),some (.val false Q.P7),some (.val false b),some (.own true (((Q.P7.zip b).take i).map fun u=>u.2.map fun c=>Q.o5 (Q.dW k u.1) c u.1)),l,m,h]) (AA 4 5 cQ.nd) (vx rfl B.zip (ae 1) (ae 2)) ⟨none,none,none,rfl⟩ ?_ ?_
 .rintro i u Γ' r ⟨l,m,h,rfl⟩;obtain⟨hi,e1,e2,m1,m2⟩:=KI D r;refine ai 6 cQ.nd (az F (p.mono (by decide)) rfl (ae 0) (ae (a:=u.1) 4) ⟨o,wu m1⟩) ?_;have q:=d _ m2;refine mr 3 (a:=u.2.map fun c=>Q.o5 (Q.dW k u.1) c u.1) rfl (fP (b':=true) (f:=fun c=>Q.o5 (Q.dW k u.1) c u.1) ["wish"] [6,4] (cj (ag dh) e9 rfl rfl (by decide +kernel)) (bt (ae (a:=u.2) 5)) (bE 0) (fun C s H fp=>dt 0 ["wish","own","p"]) bg (fun j c g C s H fp=>?_) (by lia)) ?_ ?_
  .have v:c∈u.2:=Vv g;rw[e2] at v;obtain⟨n,x,t⟩:=y i hi c v;rw[<-e1] at t;exact dc I (p.mono (by decide)) rfl (ae 1) (ae 0) (ae 2) ⟨m1,k,n,o,x,rfl,t⟩
  .rw[Vx,Xz];lia
  .refine aH ⟨some (.val false u.1),some (.val false u.2),some (.val true (rn k u.1)),?_⟩;rw[W2,r,Option.toList_some,Yx];rfl
 .rintro Γ' ⟨l,m,h,rfl⟩;refine dn 3 rfl ?_;rw[WO];exact aq (ae 3) rfl
def Gg(cl:mR)(a:List mR):Bool:=(cl.zip a).all fun u=>Ny u.1 u.2
include B in
theorem wH(cl:mR)(d:List mR):Body P w K mg base oS "are_among" j5 f kk [.val false cl,.val false d] (RT true (Gg cl d)):=by
 intro p A outer s H E m;refine oQ (as:=cl.zip d) (fun i Γ=>(∀u∈(cl.zip d).take i,u.1∈u.2)/\∃h j,Γ=[some (.val false cl),some (.val false d),h,j]) (AA 2 3 mw.nd) (vx rfl B.zip (ae 0) (ae 1)) ⟨(fun u b=>by rw[ZP] at b;cases b),none,none,rfl⟩ ?_ ?_
 .rintro i u Γ' b ⟨g,h,j,rfl⟩;refine aE (av (GJ (a:=u.1) (as:=u.2) (c:=Ny u.1 u.2) (Cb m) (by decide) mM) (ae 2) (ae 3)) (fun k=>?_) (fun k=>?_)
  .have o:Ny u.1 u.2=false:=by simpa using k
   have e:Gg cl d=false:=by
    unfold Gg;rw[List.all_eq_false];exact⟨u,Vv b,by rw[o];decide⟩
   rw[e];exact aq iV rfl
  .have n:u.1∈u.2:=mM.mp (by simpa using k);refine aH ⟨fun x l=>?_,_,_,rfl⟩;rw[W2,b] at l;rcases Wk.mp l with w|w
   .exact g x w
   .rw[V0.mp w];exact n
 .rintro Γ' ⟨g,h,j,rfl⟩
  have e:Gg cl d=true:=by
   unfold Gg;rw[Wc];intro u b;rw[WO] at g;exact mM.mpr (g u b)
  rw[e];exact aq iV rfl
def MB(a:List mR)(n:Int):Prop:=∃k q:Int,n=k*q/\k∈Q.dk 6/\(q=1\/(Q.aR q=true/\17<=q/\q<=8089))/\∀j,j<7->Q.dW n (Q.P7.getD j 0)∈a.getD j []
def NW{f:Int}{a:List mR}(d:a.length=7)(b:j<7):(x6 f Q.P7 a).getD j []=(a.getD j []).map fun c=>Q.o5 (Q.dW f (Q.P7.getD j 0)) c (Q.P7.getD j 0):=by
 have h1:Q.P7[j]?=some (Q.P7.getD j 0):=by rw[VD,Vz (show j<Q.P7.length from b)];rfl
 have h2:a[j]?=some (a.getD j []):=by rw[VD,Vz (show j<a.length by lia)];rfl
 unfold x6;rw[VD,VJ,(Xi (z:=(Q.P7.getD j 0,a.getD j []))).mpr ⟨h1,h2⟩];rfl
def Fe{f k:Int}{b:List mR}(l:b.length=7)(s:G5 b)(g:f≠0)(i:k≠0):Gg (Cu k Q.P7) (x6 f Q.P7 b)=true↔∀j,j<7->Q.dW (k*f) (Q.P7.getD j 0)∈b.getD j []:=by
 have lw:(x6 f Q.P7 b).length=7:=by unfold x6;rw[Vx,Yy,l];rfl
 have o:∀{j:Nat},j<7->Q.P7.getD j 0∈Q.P7:=fun {j} a=>by rw[VD,Vz (show j<Q.P7.length from a)];exact XX _
 have key:∀j,j<7->(Q.dW k (Q.P7.getD j 0)∈(x6 f Q.P7 b).getD j []↔Q.dW (k*f) (Q.P7.getD j 0)∈b.getD j []):=fun j a=>by
  rw[NW l a,VG];constructor
  .rintro⟨c,m,e⟩;obtain⟨n,q,rfl⟩:=s.2.2 j a c m;rw[(Q.wz (o a) g i q).mp e.symm];exact m
  .intro r;refine⟨_,r,?_⟩;exact((Q.wz (o a) g i (Vn i g)).mpr rfl).symm
 unfold Gg Cu;rw[Wc];constructor
 .intro h j a;rw[<-key j a]
  have h1:(Q.P7.map (Q.dW k))[j]?=some (Q.dW k (Q.P7.getD j 0)):=by
   rw[VJ,Vz (show j<Q.P7.length from a),VD,Vz (show j<Q.P7.length from a)];rfl
  have h2:(x6 f Q.P7 b)[j]?=some ((x6 f Q.P7 b).getD j []):=by rw[VD,Vz (by lia)];rfl
  have:=h (Q.dW k (Q.P7.getD j 0),(x6 f Q.P7 b).getD j []) (Vv ((Xi (z:=(Q.dW k (Q.P7.getD j 0),(x6 f Q.P7 b).getD j []))).mpr ⟨h1,h2⟩));exact mM.mp this
 .intro h u p;obtain⟨j,a⟩:=XD.mp p;have hz:=(Xi (z:=u)).mp a;have d:j<7:=by have:=(VE.mp hz.2).1;lia
  have e1:u.1=Q.dW k (Q.P7.getD j 0):=by
   have:=hz.1;rw[VJ,Vz (show j<Q.P7.length from d)] at this;rw[VD,Vz (show j<Q.P7.length from d)];exact(VP this).symm
  have e2:u.2=(x6 f Q.P7 b).getD j []:=by rw[VD,hz.2];rfl
  refine mM.mpr ?_;rw[e1,e2,key j d];exact h j d
def Ol{a:List mR}(t:G5 a)(e:∀j,j<7->a.getD j []≠[]):∃k q,k∈Q.dk 6/\Q.aR q=true/\17<=q/\q<=8089/\∀j,j<7->Q.dW (k*q) (Q.P7.getD j 0)∈a.getD j []:=by
 have ch:∀j,j<7->∃n:Int,n≠0/\Q.dW n (Q.P7.getD j 0)∈a.getD j []:=fun j b=>by
  obtain⟨c,f⟩:=List.exists_mem_of_ne_nil _ (e j b);obtain⟨n,d,rfl⟩:=t.2.2 j b c f;exact⟨n,d,f⟩
 obtain⟨d,x,C⟩:=ch 0 (by decide);obtain⟨s,A,b1⟩:=ch 1 (by decide);obtain⟨r,z,b2⟩:=ch 2 (by decide);obtain⟨l,w,b3⟩:=ch 3 (by decide);obtain⟨u,F,b4⟩:=ch 4 (by decide);obtain⟨h,y,B⟩:=ch 5 (by decide);obtain⟨v,D,E⟩:=ch 6 (by decide)
 obtain⟨k,q,o,q1,i,m,p⟩:=Q.CJ (ns:=[d,s,r,l,u,h,v]) rfl (fun n g=>by
  simp only[Vq,VA,Wb] at g
  rcases g with rfl|rfl|rfl|rfl|rfl|rfl|rfl<;>assumption)
 refine⟨k,q,o,q1,i,m,fun j b=>?_⟩;rw[p j b];have:j=0\/j=1\/j=2\/j=3\/j=4\/j=5\/j=6:=by lia
 rcases this with rfl|rfl|rfl|rfl|rfl|rfl|rfl<;>assumption
abbrev U5(P w K mg base):=aI P w K mg base 1 "are_among" ["classes","wishes"] (cw K (fun(_:mR) (_:List mR)=>True) true Gg)
abbrev U4(P w K mg base):=aI P w K mg base 4 "wishes_without" ["k","places","wishes"] (tF K (fun(k:Int) (ps:List Int) (a:List mR)=>k≠0/\ps=Q.P7/\G5 a) true x6)
abbrev U3(P w K mg base):=aI P w K mg base 4 "classes_of" ["k","places"] (cw K (fun(k:Int) (ps:List Int)=>k≠0/\ps=Q.P7) true Cu)
abbrev U2(P w K mg base):=aI P w K mg base 1 "small_free_numbers" [] (Ib K true (fun(a:List Int)=>a.Perm (Q.dk 6)))
abbrev U1(P w K mg base):=aI P w K mg base 4 "next_prime" ["k"] (cR K (fun k=>2<=k/\k<=10000) true (fun k=>Q.pf (k+1)))
include B in
theorem qB(Rh:vY K mg "SMALL_PLACES" [0,2,3,5,7,11,13])(S:U1 P w K mg base)(RH:U2 P w K mg base)(Sd:U3 P w K mg base)(Z:U4 P w K mg base)(Sn:U5 P w K mg base)
  (ps:List Int) (g:List mR) (e:ps=Q.P7) (m:G5 g) (y:∀j,j<7->g.getD j []≠[]):Body P w K mg base gC "number_among" d9 f 4 [.val false ps,.val false g] (wX true (MB g)):=by
 intro cdv A outer s H E r;subst e;have N:=m.1;obtain⟨M,o,n,J,p2,p3,F⟩:=Ol m y;have D:=Q.tu;refine g_ 2 bF.nd (E4 RH (r.mono (by decide)) rfl) ?_;intro b hp;have ml:b.length=128:=by rw[hp.length_eq];exact D.1
 have G:∀k∈b,k≠0/\-30030<=k/\k<=30030:=fun k c=>by
  have:=D.2 k (hp.mem_iff.mp c);exact⟨this.1,this.2.1,this.2.2.1⟩
 refine vq 4 bF.nd (b':=true) (f:=fun k=>Cu k Q.P7) ["k"] [0] (cj (ag d9) gC rfl rfl (by decide +kernel)) (bt (ae 2)) (bE 0) (fun C s H fp=>dt 0 ["k","places"]) bg (fun j k c C s H fp=>az Sd (r.mono (by decide)) rfl (ae 0) (ae 1) ⟨(G k (Vv c)).1,rfl⟩) (by lia) ?_;refine ai 5 bF.nd af ?_
 have x:Q.pf (13+1)=17:=by
  have h1:=Q.qK (k:=14) (p:=17) (Q.qY 17 (by decide)) (by decide) (by decide) (by decide) (by decide);have h2:=Q.zA (k:=14) (by decide) (by decide);have R:=Q.qG (k:=14) (by decide)
  have:Q.pf 14≠15:=fun z=>by
   rw[z] at R;have:=(Q.fk R (d:=3) (by decide) (by decide));lia
  show Q.pf 14=17;lia
 have T:Q.PB=1070000011:=rfl
 have ho:o%2=1:=by
  rcases Q.bT.mp J with z|z
  .lia
  .exact z.2.1
 refine cb (ι:=Int) (fun q Γ=>∃h I l,Γ=[some (.val false Q.P7),some (.val false g),some (.val true b),h,some (.val true (b.map fun k=>Cu k Q.P7)),some (.val true q),I,l]/\(q=1\/(Q.aR q=true/\17<=q))/\q<=o) (fun q=>(o-q).toNat) 1 ⟨none,none,none,rfl,.inl rfl,by lia⟩ ?_;rintro q Γ' ⟨h,I,l,rfl,O,X⟩;have q1:1<=q:=by lia
 refine⟨true,fY iV,fun _=>?_,fun z=>nomatch z⟩;refine ai 6 bF.nd (dc Z (r.mono (by decide)) rfl (ae 5) (ae 0) (ae 1) ⟨by lia,rfl,m⟩) ?_;refine oQ (as:=b.zip (b.map fun k=>Cu k Q.P7)) (fun i Γ=>(∀k∈b.take i,Gg (Cu k Q.P7) (x6 q Q.P7 g)=false)/\∃h l,Γ=[some (.val false Q.P7),some (.val false g),some (.val true b),h,some (.val true (b.map fun k=>Cu k Q.P7)),some (.val true q),some (.val true (x6 q Q.P7 g)),l]) (AA 3 7 bF.nd) (vx rfl B.zip (ae 2) (ae 4)) ⟨(fun k c=>by rw[ZP] at c;cases c),h,l,rfl⟩ ?_ ?_
 .rintro i u Γ' W ⟨v,h,l,rfl⟩;have hz:=(Xi (z:=u)).mp W;have mk:=Vv hz.1;obtain⟨V,k2,k3⟩:=G _ mk
  have e2:u.2=Cu u.1 Q.P7:=by
   have:=hz.2;rw[VJ,hz.1] at this;exact(VP this).symm
  refine aE (fY (az Sn (r.mono (by decide)) rfl (ae (a:=u.2) 7) (ae 6) True.intro)) (fun t=>?_) (fun t=>?_)
  .rw[e2] at t;have Y:=(Fe N m (show q≠0 by lia) V).mp t;refine aq (aC (ae (a:=u.1) 3) (ae 5) ((show Sm 15 u.1 by unfold Sm;lia).ok (show Sm 13 q by unfold Sm;lia))) ⟨u.1*q,⟨u.1,q,rfl,hp.mem_iff.mp mk,?_,Y⟩,rfl⟩;rcases O with z|z
   .exact .inl z
   .exact .inr ⟨z.1,z.2,by lia⟩
  .refine aH ⟨fun k c=>?_,_,_,rfl⟩;rw[W2,hz.1] at c;rcases Wk.mp c with w|w
   .exact v k w
   .rw[V0.mp w,<-e2];exact t
 .rintro Γ' ⟨v,h,l,rfl⟩;have U:(b.zip (b.map fun k=>Cu k Q.P7)).length=b.length:=by rw[Yy,Vx,Nat.min_self]
  rw[U,WO] at v
  have L:q≠o:=fun z=>by
   have:=v M (hp.mem_iff.mpr n);rw[z,(Fe N m (show o≠0 by lia) (D.2 M n).1).mpr F] at this;cases this
  refine ai 5 bF.nd (aF S (r.mono (by decide)) rfl (M7 rfl rfl B.max (ae 5) (KY (a:=13) (t7 rfl Rh) af rfl)) ⟨by split<;>lia,by split<;>lia⟩) ?_;rcases O with z|⟨z1,z2⟩
  .have e:(if (13:Int)>q then (13:Int) else q)=13:=Vo (by lia);rw[e,x];exact aH ⟨17,⟨_,_,_,rfl,.inr ⟨Q.qY 17 (by decide),by decide⟩,p2⟩,by lia⟩
  .have e:(if (13:Int)>q then (13:Int) else q)=q:=Vm (by lia);rw[e];have h1:=Q.qK (k:=q+1) J (by lia) ho (by lia) (by lia);have h2:=Q.zA (k:=q+1) (by lia) (by lia);exact aH ⟨_,⟨_,_,_,rfl,.inr ⟨Q.qG (by lia),by lia⟩,h1⟩,by lia⟩
open Q (P7 lG cz dW Jc)
def D2(hp:p∈P7)(d:p≠0)(h2:p≠2):Q.NR p/\Sm 4 p/\Sm 4 (Q.lH p):=by
 obtain⟨_,pp,_⟩:=(Q.eE hp).resolve_left d;have a:=Q.qX pp h2;obtain⟨g,c,f,b⟩:=Q.JJ pp h2;obtain⟨i,h,e⟩:=Q.qJ a;have:¬g<Q.lH p:=fun z=>e g c z b;simp only[P7,Vq,VA,Wb] at hp;refine⟨a,?_,?_⟩
 .unfold Sm;lia
 .unfold Sm;lia
include B in
theorem vg(j:vY K mg "AT_NOUGHT" [1,-1])(e:vY K mg "AT_TWO" [1,3,5,7,2,6,10,14])(k:UK P w K mg base)(p:Int)(hp:p∈P7):Body P w K mg base lN "samples_at" ja f 3 [.val false p] (RT true (lG p)):=by
 intro g A outer s H E d;unfold lG;refine aE (av ax (ae 0) af) (fun a=>?_) (fun a=>?_)
 .rw[Vo (VH a)];exact aq (vL rfl B.list (t7 rfl j)) rfl
 have c:p≠0:=V4 a;rw[Vm c];refine aE (av ax (ae 0) af) (fun a=>?_) (fun a=>?_)
 .rw[Vo (VH a)];exact aq (vL rfl B.list (t7 rfl e)) rfl
 have h2:p≠2:=V4 a;rw[Vm h2];obtain⟨l,i,h⟩:=D2 hp c h2;have:=(wu hp).resolve_left c;refine ai 1 kN.nd (aF k (d.mono (by decide)) rfl (ae 0) ⟨l,this⟩) ?_;exact aq (fI (as:=[1,Q.lH p,p,p*Q.lH p]) (b:=true) (aJ af (aJ (ae 1) (aJ (j8 (b':=true) (ae 0)) (aJ (aC (ae 0) (ae 1) (i.ok h)) ck)))) (by show 4<=1000;decide)) rfl
structure P_(one other:List Int)(p:Int):Prop where
 l1:one.length<=8
 l2:other.length<=8
 o1:∀a∈one,a≠0/\Sm 62 a
 o2:∀a∈other,a≠0/\Sm 62 a
 p7:p∈P7
def Cs(one other:List Int)(p:Int):mR:=((lG p).filter fun k=>cz (one++[-k]) p&&cz (other++[k]) p).map fun k=>rn k p
def wQ(a b c d p:Int):Cs [a,b] [c,d] p=Jc a b c d p:=rfl
def IU{k:Int}(hp:p∈P7)(a:k∈lG p):Sm 62 k/\Sm 62 (-k):=by
 have key:Sm 20 k:=by
  by_cases b:p=0
  .subst b;unfold lG at a;rw[Vo rfl] at a;simp only[Vq,VA,Wb] at a;unfold Sm;lia
  by_cases h2:p=2
  .subst h2;unfold lG at a;rw[Vm (by decide),Vo rfl] at a;simp only[Vq,VA,Wb] at a;unfold Sm;lia
  obtain⟨_,d,c⟩:=D2 hp b h2;unfold lG at a;rw[Vm b,Vm h2] at a;simp only[Vq,VA,Wb] at a;rcases a with rfl|rfl|rfl|rfl
  .show(1:Int).natAbs<2^20;decide
  .exact c.le (by decide)
  .exact d.le (by decide)
  .exact(d.mul c).le (by decide)
 exact⟨key.le (by decide),by have:Sm 62 k:=key.le (by decide);unfold Sm at *;lia⟩
def n8(h:U0 P w K mg base)(j:aI P w K mg base 4 "samples_at" ["p"] (cR K (fun(p:Int)=>p∈P7) true lG))(d:aI P w K mg base 7 "have_zero" ["numbers","p"] (cw K NQ true cz))(one other:List Int)(p:Int)(hp:P_ one other p):
  Body P w K mg base fg "shared_classes" df f 7 [.val false one,.val false other,.val false p] (RT true (Cs one other p)):=by
 intro m A outer s H E c;have b:=hp.p7
 have ok:∀{l:List Int} {k:Int},(∀a∈l,a≠0/\Sm 62 a)->k≠0->Sm 62 k->NQ (l++[k]) p:=fun {l k} n g e=>⟨by rw[V5];exact Nat.le_add_left _ _,fun a ha=>by
  rcases Wk.mp ha with ha|ha
  .exact n a ha
  .rw[V0.mp ha];exact⟨g,e⟩,wu b⟩
 refine aq (A0 (f:=fun k:Int=>rn k p) (p:=fun k=>cz (one++[-k]) p&&cz (other++[k]) p) (b':=true) ["k"] [0,1,2] (cj (ag df) fg rfl rfl (by decide +kernel)) (bt (aF j (c.mono (by decide)) rfl (ae 2) b)) (bE 0) (fun C s H fp=>dt 0 ["k","one","other","p"]) bg (fun i k hi C s H fp=>vp (TW.t (nF (fY (az d (c.mono (by decide)) rfl (jT (ae 1) (fI (aJ (fC (ae 0)) ck) (by simp)) ?_) (ae 3) ?_)) fun _=>(kf (fY (az d (c.mono (by decide)) rfl (jT (ae 2) (fI (aJ (ae 0) ck) (by simp)) ?_) (ae 3) ?_)))))) (fun i k hi _ C s H fp=>az h (c.mono (by decide)) rfl (ae 0) (ae 3) ⟨Q.tW b k (Vv hi),wu b⟩) (by have:=Q.DU p;lia)) rfl
 .have:=hp.l1;rw[Zq];lia
 .have:=Q.tW b k (Vv hi);exact ok hp.o1 (by lia) (IU b (Vv hi)).2
 .have:=hp.l2;rw[Zq];lia
 .exact ok hp.o2 (Q.tW b k (Vv hi)) (IU b (Vv hi)).1
structure OS(one other:List Int):Prop where
 l1:one.length<=8
 l2:other.length<=8
 o1:∀a∈one,a≠0/\Sm 62 a
 o2:∀a∈other,a≠0/\Sm 62 a
 po:Gb (one++other)
 pl:(qg (one++other)).length<=50
 p7:∀q∈qg (one++other),q∈P7
 ne:∀p∈P7,Cs one other p≠[]
def yr{α:Type}(g:Int->List α)(h:j<7):(P7.map g).getD j []=g (P7.getD j 0):=by
 rw[VD,VJ,VD,Vz (show j<P7.length from h)];rfl
def Ja(a:j<7):P7.getD j 0∈P7:=by
 rw[VD,Vz (show j<P7.length from a)];exact XX _
def NP(one other:List Int):G5 (P7.map fun p=>Cs one other p):=by
 refine⟨rfl,fun cs b=>?_,fun j d c a=>?_⟩
 .obtain⟨p,_,rfl⟩:=VG.mp b;unfold Cs;rw[Vx];exact V7 (aaR ..) (V7 (Q.DU p) (by decide))
 .rw[yr _ d] at a;unfold Cs at a;obtain⟨k,e,rfl⟩:=VG.mp a;exact⟨k,Q.tW (Ja d) k (Wx.mp e).1,rfl⟩
include B in
theorem B8(l:vY K mg "SMALL_PLACES" [0,2,3,5,7,11,13])(q:UU P w K mg base)(h:aI P w K mg base 8 "shared_classes" ["one","other","p"] (tF K P_ true Cs))(k:aI P w K mg base 5 "number_among" ["places","wishes"] (sJ K (fun(ps:List Int) (c:List mR)=>ps=P7/\G5 c/\∀j,j<7->c.getD j []≠[]) true (fun _ c (n:Int)=>MB c n)))(one other:List Int)(hp:OS one other):
  Body P w K mg base n9 "meeting" j_ f 8 [.val false one,.val false other] (wX true (MB (P7.map fun p=>Cs one other p))):=by
 intro r A outer s H E d;have g:=hp.l1;have o:=hp.l2;have pl:=hp.pl
 have b:sset ([0,2,3,5,7,11,13]++qg (one++other))=P7:=rP (iG _) (by decide) fun a=>by
  rw[gi,Wk];exact⟨fun z=>z.elim id (hp.p7 a),.inl⟩
 refine ai 2 q_.nd (eR (a':=P7) (tR rfl rfl B.sorted rfl B.set (jT (vL rfl B.list (t7 rfl l)) (aF q (d.mono (by decide)) rfl (jT (ae 0) (ae 1) (by lia)) hp.po) (by show 7+_<=1000;lia)) (by rw[V5];show 7+_<64;lia)) b) ?_;exact ou (jy k (d.mono (by decide)) rfl (ae 2) (fP (b':=true) (f:=fun p=>Cs one other p) ["p"] [0,1] (cj (ag j_) n9 rfl rfl (by decide +kernel)) (bt (ae 2)) (bE 0) (fun C s H fp=>dt 0 ["p","one","other"]) bg (fun i p hi C s H fp=>dc h (d.mono (by decide)) rfl (ae 1) (ae 2) (ae 0) ⟨g,o,hp.o1,hp.o2,Vv hi⟩) (by decide)) ⟨rfl,NP one other,fun j e=>by rw[yr _ e];exact hp.ne _ (Ja e)⟩) fun t m=>⟨_,m,rfl⟩
abbrev U6(P w K mg base):=aI P w K mg base 127 "zero_of_three" ["row"] (k6 K C7 true Z3)
include B in
theorem pA(c:U6 P w K mg base)(l:List Int)(hp:C7 l):Body P w K mg base gG "zero_of_free" eA f 127 [.val false l] (wX true (Z3 l)):=by
 intro b A outer s H E d;have e:=hp.len;refine aE (av ax (bD rfl B.len (ae 0)) af) (fun a=>?_) (fun _=>?_)
 .exfalso;have:=VH a;lia
 refine aE (av ax (bD rfl B.len (ae 0)) af) (fun _=>?_) (fun a=>?_)
 .exact ou (gq c (d.mono (by decide)) rfl (ae 0) hp) fun z hz=>⟨_,hz,rfl⟩
 .exfalso;have:=V4 a;lia
open Q (dk kD)
def zQ(l z:List Int):Nat->Int
 |0=>0
 |i+1=>zQ l z i+l.getD i 0*(z.getD i 0*z.getD i 0)
structure ZF(l z:List Int):Prop where
 len:z.length=l.length
 nz:∃x∈z,x≠0
 eq:zQ l z l.length=0
 sm:∀x∈z,Sm 6100 x
structure GY(l:List Int):Prop where
 len:l.length=4
 fn:∀a∈l,a∈dk 6
 no:kD l=none
def z_(h:kD l=none):cz l 0=true/\∀q,Q.aR q=true->cz l q=true:=by
 have:=Q.uZ l;rw[h] at this;exact this
def CI(h:∀p,Q.Pl p->cz l p=true):kD l=none:=(Q.m9 (r:=none) ⟨h 0 (.inl rfl),fun q a=>h q (.inr a)⟩).symm
def MT(h:kD l=none)(hp:p∈P7):cz l p=true:=by
 rcases Q.eE hp with z|z
 .rw[z];exact(z_ h).1
 .exact(z_ h).2 p z.2.1
def J4{a:Int}(h:Q.mU Q.Q6 a):(Q.nR (a.natAbs:Int)).length<=6:=by
 have n:=h.1;have h1:1<=(a.natAbs:Int):=by lia
 have key:((Q.nR (a.natAbs:Int)).map (·.1)).length<=Q.Q6.length:=Q.nV (by obtain⟨⟨b,f⟩,_⟩:=Q.nJ h1;exact(Q.rK f).1.imp fun h=>by lia) fun x e=>by
  obtain⟨c,d⟩:=(Q.gP h1).mp e;exact h.2 x c (Xf.mp d)
 rw[Vx] at key;exact key
theorem Ep:∀{l:List Int} {n:Nat},(∀a∈l,(Q.nR (a.natAbs:Int)).length<=n)->(l.flatMap fun k=>(Q.nR (k.natAbs:Int)).map (·.1)).length<=l.length*n
 |[],n,_=>by simp
 |a::l,n,h=>by
  have h1:=Ep (l:=l) (n:=n) fun x b=>h x (Vw _ b);have h2:=h a (VC ..);rw[List.flatMap_cons,V5,Vx,Wl,Nat.add_mul,Nat.one_mul];lia
def DS(c:l.length<=9)(h:∀a∈l,a.natAbs<1073741824/\Q.mU Q.Q6 a):Gb l:=by
 refine⟨by lia,fun k b=>?_,?_⟩
 .have:=h k b;have:=this.2.1;lia
 .have:=Ep (n:=6) fun a ha=>J4 (h a ha).2;unfold ye;rw[Wl];lia
def Hu(b:l.length<=9)(h:∀a∈l,a∈dk 6):Gb l:=DS b fun a ha=>⟨by have:=Q.g7 (h a ha);lia,Q.qZ (h a ha)⟩
def Jy(h:∀a∈l,a∈dk 6)(b:q∈qg l):q∈P7:=by
 rcases(D7 fun x c=>Q.cM (h x c)).mp b with z|⟨z,a,ha,d⟩
 .rw[z];decide
 .exact Vw _ (Q.Dk (h a ha) z d)
def Kj(h:∀a∈l,a∈dk 6):(qg l).length<=50:=by
 have:(qg l).length<=P7.length:=Q.nV ((iG _).imp fun h=>by lia) fun x b=>Jy h b;have e:P7.length=7:=rfl;lia
def JL{a:Int}(h:a∈dk 6):a≠0/\Sm 62 a:=by
 have:=Q.g7 h;exact⟨Q.cM h,by unfold Sm;lia⟩
def Dx{a b:Int}(ha:a∈dk 6)(j:b∈dk 6)(f:c∈dk 6)(i:d∈dk 6)(h:kD [a,b,c,d]=none):OS [a,b] [c,d]:=by
 have all:∀x∈[a,b]++[c,d],x∈dk 6:=fun x e=>by
  simp only[Zp,YX,Vq,VA,Wb] at e;rcases e with rfl|rfl|rfl|rfl<;>assumption
 exact⟨by show 2<=8;decide,by show 2<=8;decide,fun x e=>JL (all x (WU _ e)),fun x e=>JL (all x (VU _ e)),Hu (by show 4<=9;decide) all,Kj all,fun q g=>Jy all g,fun p hp=>by
  rw[wQ]
  exact Q.Om hp (Q.cM ha) (Q.cM j) (Q.cM f) (Q.cM i) (MT h hp)⟩
def OP(q:Int):Prop:=q=1\/(Q.aR q=true/\17<=q/\q<=8089)
def JS{k:Int}(b:k∈dk 6)(c:OP q):k*q≠0/\(k*q).natAbs<1073741824:=by
 have l:=Q.g7 b
 have a:q≠0/\q.natAbs<=8089:=by
  rcases c with rfl|⟨_,h,h'⟩
  .decide
  .lia
 refine⟨Vn (Q.cM b) a.1,?_⟩;rw[VT];have:=YL l a.2;lia
def Dp{a k:Int}(ha:a∈dk 6)(c:k∈dk 6)(b:OP q):CQ (-a) (k*q):=by
 obtain⟨t,l⟩:=Q.Hf (Q.uX a ha).1 c b;have h1:=Q.g7 ha;have h2:=Q.cM ha;obtain⟨d,e⟩:=JS c b;exact⟨by lia,d,by unfold Sm;lia,by unfold Sm;lia,t,l⟩
def Mn{a b:Int}(ha:a∈dk 6)(c:b∈dk 6):CQ (-a) b:=by
 have:=Dp (q:=1) ha c (.inl rfl);rw[VX] at this;exact this
def Ed{a b k:Int}(ha:a∈dk 6)(c:b∈dk 6)(f:k∈dk 6)(d:OP q):C7 [a,b,k*q]:=Mq (fun x e=>by
  have h1:=Q.g7 ha;have h2:=Q.cM ha;have h:=Q.g7 c;have g:=Q.cM c;simp only[Vq,VA,Wb] at e;rcases e with rfl|rfl|rfl
  .lia
  .lia
  .exact JS f d) (Mn ha c) (Dp ha f d)
def HM{a b t w u v s:Int}(e1:a*(x*x)+b*(y*y)+-t*(w*w)=0)(e2:c*(u*u)+d*(v*v)+t*(s*s)=0):0+a*((x*s)*(x*s))+b*((y*s)*(y*s))+c*((u*w)*(u*w))+d*((v*w)*(v*w))=0:=by
 have h1:0+a*((x*s)*(x*s))+b*((y*s)*(y*s))+c*((u*w)*(u*w))+d*((v*w)*(v*w))=(s*s)*(a*(x*x)+b*(y*y)+-t*(w*w))+(w*w)*(c*(u*u)+d*(v*v)+t*(s*s)):=by grind
 rw[h1,e1,e2,Wg,Wg];rfl
def Ee{t:Int}(h:jv [x,y,t]=1):¬(x=0/\y=0/\t=0):=fun⟨h1,h2,a⟩=>by
 subst h1 h2 a;exact absurd h (by decide)
abbrev U7(P w K mg base):=aI P w K mg base 9 "meeting" ["one","other"] (sJ K OS true (fun one other (t:Int)=>MB (P7.map fun p=>Cs one other p) t))
include B in
theorem lu(SN:U7 P w K mg base)(Rz:U6 P w K mg base)(R0:aI P w K mg base 128 "zero_of_free" ["numbers"] (k6 K C7 true Z3))(l:List Int)(hp:GY l):
  Body P w K mg base cU "zero_by_meeting" b7 f 128 [.val false l] (wX true (ZF l)):=by
 intro cdv A outer o H E O;obtain⟨hl,F,L⟩:=hp
 match l,hl with
 |[a,b,c,d],_ =>
 have ha:=F a (by simp);have T:=F b (by simp);have g:=F c (by simp);have M:=F d (by simp);refine g_ 1 cI.nd (jy SN (O.mono (by decide)) rfl (eR (a':=[a,b]) (Gp (ae 0) af (by decide)) rfl) (eR (a':=[c,d]) (zO (ae 0) af (by decide)) rfl) (Dx ha T g M L)) fun t ht=>?_;obtain⟨k,q,et,J,D,N⟩:=ht;subst et;have D:OP q:=D
 have sh:∀p∈P7,dW (k*q) p∈Jc a b c d p:=fun p hp=>by
  obtain⟨j,U⟩:=XD.mp hp;have V:j<7:=(VE.mp U).1;have:=N j V;rw[yr _ V,wQ] at this;have e:P7.getD j 0=p:=by rw[VD,U];rfl
  rw[e] at this;exact this
 have mo:=Q.Gn (Q.qZ ha) (Q.qZ T) (Q.qZ g) (Q.qZ M) J D sh;have n1:kD [a,b,-(k*q)]=none:=CI fun p hp=>(mo p hp).1;have n2:kD [c,d,k*q]=none:=CI fun p hp=>(mo p hp).2
 have p1:C7 [a,b,-(k*q)]:=by
  have:=Ed ha T (Q.uX k J).1 D;rw[Int.neg_mul] at this;exact this
 have p2:C7 [c,d,k*q]:=Ed g M J D;generalize k*q=t at *;refine g_ 2 cI.nd (gq Rz (O.mono (by decide)) rfl (eR (a':=[a,b,-t]) (jT (eR (a':=[a,b]) (Gp (ae 0) af (by decide)) rfl) (fI (as:=[-t]) (b:=true) (aJ (fC (ae 1)) ck) (by show 1<=1000;decide)) (by show 2+1<=1000;decide)) rfl) p1) fun z hz=>?_;rcases hz with⟨hz,_⟩|⟨_,x,y,w,rfl,g1,e1,R,S,sw⟩
 .exact absurd n1 hz
 have e1:a*(x*x)+b*(y*y)+-t*(w*w)=0:=e1;refine aE (av ax (a9 (a:=w) (eL (a:=[x,y,w]) (ae 2)) af rfl) af) (fun g=>?_) (fun g=>?_)
 .have h:w=0:=VH g;subst h;refine aq (eR (a':=[x,y,0,0]) (jT (Gp (eL (a:=[x,y,0]) (ae 2)) af (by decide)) (LK (a:=(0:Int)) (fI (as:=[0]) (b:=true) (aJ af ck) (by show 1<=1000;decide)) (eU (bD rfl B.len (ae 0)) af) (by show(0:Int)<=4-2;decide) (by show(4:Int)-2<=1000;decide)) (by show 2+2<=1000;decide)) rfl) ⟨[x,y,0,0],⟨rfl,?_,?_,fun v X=>?_⟩,rfl⟩
  .by_cases r:x=0
   .exact⟨y,by simp,fun I=>Ee g1 ⟨r,I,rfl⟩⟩
   .exact⟨x,by simp,r⟩
  .show 0+a*(x*x)+b*(y*y)+c*(0*0)+d*(0*0)=0;simp only[Wg,ZE,aa3] at e1 ⊢;exact e1
  .simp only[Vq,VA,Wb] at X;rcases X with rfl|rfl|rfl|rfl
   .exact R.le (by decide)
   .exact S.le (by decide)
   .exact sw.le (by decide)
   .exact sw.le (by decide)
 have h:w≠0:=V4 g;refine g_ 3 cI.nd (gq R0 (O.mono (by decide)) rfl (eR (a':=[c,d,t]) (jT (eR (a':=[c,d]) (zO (ae 0) af (by decide)) rfl) (fI (as:=[t]) (b:=true) (aJ (ae 1) ck) (by show 1<=1000;decide)) (by show 2+1<=1000;decide)) rfl) p2) fun z hz=>?_;rcases hz with⟨hz,_⟩|⟨_,u,v,s,rfl,Z,e2,Y,W,G⟩
 .exact absurd n2 hz
 have e2:c*(u*u)+d*(v*v)+t*(s*s)=0:=e2;refine aq (eR (a':=[x*s,y*s,u*w,v*w]) (jT (fP (b':=true) (f:=fun n:Int=>n*s) ["x"] [3] (cj (ag b7) cU rfl rfl (by decide +kernel)) (bt (eR (a':=[x,y]) (Gp (eL (a:=[x,y,w]) (ae 2)) af (by decide)) rfl)) (bE 0) (fun C _ H fp=>dt 0 ["x","other"]) bg (fun i n m C _ H fp=>aC (ae 0) (a9 (a:=s) (eL (a:=[u,v,s]) (ae 1)) (fC af) rfl) ?_) (by show 2<=1000;decide)) (fP (b':=true) (f:=fun n:Int=>n*w) ["x"] [2] (cj (ag b7) cU rfl rfl (by decide +kernel)) (bt (eR (a':=[u,v]) (NX (eL (a:=[u,v,s]) (ae 3)) (fC af) (by decide)) rfl)) (bE 0) (fun C _ H fp=>dt 0 ["x","one"]) bg (fun i n m C _ H fp=>aC (ae 0) (a9 (a:=w) (eL (a:=[x,y,w]) (ae 1)) af rfl) ?_) (by show 2<=1000;decide)) (by show 2+2<=1000;decide)) rfl) ⟨[x*s,y*s,u*w,v*w],⟨rfl,?_,HM e1 e2,fun n m=>?_⟩,rfl⟩
 .have:=Vv m;simp only[Vq,VA,Wb] at this;rcases this with rfl|rfl
  .exact R.ok G
  .exact S.ok G
 .have:=Vv m;simp only[Vq,VA,Wb] at this;rcases this with rfl|rfl
  .exact Y.ok sw
  .exact W.ok sw
 .by_cases h1:u*w=0
  .by_cases h2:v*w=0
   .have u0:=(WV.mp h1).resolve_right h;have v0:=(WV.mp h2).resolve_right h;have o:s≠0:=fun o=>Ee Z ⟨u0,v0,o⟩;by_cases r:x=0
    .by_cases I:y=0
     .exfalso;rw[r,I] at e1;have:t*(w*w)=0:=by rw[Int.neg_mul] at e1;(first|lia|omega)
      have t0:=(WV.mp this).resolve_right (Vn h h);exact de p2.row (x:=t) (by simp) |>.1 t0
     .exact⟨y*s,by simp,Vn I o⟩
    .exact⟨x*s,by simp,Vn r o⟩
   .exact⟨v*w,by simp,h2⟩
  .exact⟨u*w,by simp,h1⟩
 .simp only[Vq,VA,Wb] at m;rcases m with rfl|rfl|rfl|rfl
  .exact(R.mul G).le (by decide)
  .exact(S.mul G).le (by decide)
  .exact(Y.mul sw).le (by decide)
  .exact(W.mul sw).le (by decide)
include B in
theorem pE(b:aI P w K mg base 129 "zero_by_meeting" ["numbers"] (k6 K GY true ZF))(l:List Int)(hp:GY l):Body P w K mg base gG "zero_of_free" eA f 139 [.val false l] (wX true (ZF l)):=by
 intro c A outer e H E d;have g:=hp.len;refine aE (av ax (bD rfl B.len (ae 0)) af) (fun a=>?_) (fun _=>?_)
 .exfalso;have:=VH a;lia
 refine aE (av ax (bD rfl B.len (ae 0)) af) (fun a=>?_) (fun _=>?_)
 .exfalso;have:=VH a;lia
 refine ou (NO (av ax (bD rfl B.len (ae 0)) af) (fun _=>gq b (d.mono (by decide)) rfl (ae 0) hp) fun a=>?_) fun z hz=>⟨_,hz,rfl⟩;exfalso;have:=V4 a;lia
open Q (Fr O1 fZ D9 dk kD cz)
def Ky(u v:Int×Int):Prop:=u.2=1/\v.2=1/\v.1≠0/\Sm 7000 u.1/\Sm 40 v.1
def Ot(h:1<=n):Sm n 1:=by unfold Sm;exact ZU (by lia)
def Iv(j:UH P w K mg base)(u v:Int×Int)(h:Ky u v):Body P w K mg base DK "over" yu f 2 [.val false u,.val false v] (RT true (Q.M6 u v)):=by
 intro g A outer s H E d;obtain⟨h1,h2,i,c,a⟩:=h;have b:Sm 1 u.2:=by rw[h1];exact Ot (by decide)
 have e:Sm 1 v.2:=by rw[h2];exact Ot (by decide)
 exact aq (az j (d.mono (by decide)) rfl (aC (a_ (ae 0)) (bz (ae 1)) (c.ok e)) (aC (bz (ae 0)) (a_ (ae 1)) (b.ok a)) ⟨Vn (by lia) i,(b.mul a).le (by decide)⟩) rfl
structure F_(us:List Fr):Prop where
 len:us.length<=10
 low:∀u∈us,O1 u
 s1:∀u∈us,Sm 7000 u.1
 s2:∀u∈us,Sm 40 u.2
def Ae{us:List Fr}(h:F_ us)(i:Nat)(hi:i<=us.length):1<=fZ (us.take i)/\Sm (1+40*i) (fZ (us.take i)):=by
 induction i with
 |zero=>exact⟨by show(1:Int)<=1;decide,by show(1:Int).natAbs<2^1;decide⟩
 |succ i c =>
  obtain⟨h1,h2⟩:=c (by lia);have a:us[i]?=some us[i]:=Vz (by lia);have b:=Vv a;have e:fZ (us.take (i+1))=(fZ (us.take i)*us[i].2).fdiv (Int.gcd (fZ (us.take i)) us[i].2:Nat):=nM a;have z:=Q.xD h1 (h.low _ b).1;rw[<-e] at z;refine⟨z.1,?_⟩;have s:=h2.mul (h.s2 _ b);have l:=z.2.2.2;have:Sm (1+40*i+40) (fZ (us.take (i+1))):=Sm.of_le (by lia) s;exact this.le (by lia)
def xb{us:List Fr}(h:F_ us):1<=fZ us/\Sm 401 (fZ us):=by
 have z:=Ae h us.length (Vu _);rw[WO] at z;exact⟨z.1,z.2.le (by have:=h.len;lia)⟩
def ID{a b:Int}(c:1<=b)(h:Sm n b):((Int.gcd a b:Nat):Int)≠0/\Sm n ((Int.gcd a b:Nat):Int):=by
 have h1:Int.gcd a b≠0:=fun z=>by rw[ZL] at z;lia
 refine⟨by lia,Sm.of_le ?_ h⟩;have:(Int.gcd a b)<=b.natAbs:=ZZ (by lia) (Int.gcd_dvd_natAbs_right a b);lia
def wo{a b:Int}(ha:1<=a)(c:1<=b)(h:Sm n a):Sm n (a.fdiv b):=by
 refine Sm.of_le ?_ h;rw[Wd a (by lia)];have h1:0<=a/b:=YZ (by lia) (by lia);have h2:a/b<=a:=Int.ediv_le_self b (by lia);lia
def nW(k:UB P w K mg base)(us:List Fr)(h:F_ us):Body P w K mg base jo "common_bottom" fV f 1 [.val false us] (RT true (fZ us)):=by
 intro l A outer s H E e;refine ai 1 dj.nd af ?_;refine nE (fun i Γ=>∃r,Γ=[some (.val false us),some (.val true (fZ (us.take i))),r]) (cu 2 dj.nd) (ae 0) ⟨none,rfl⟩ ?_ ?_
 .rintro i u Γ' b ⟨r,rfl⟩;have c:=Vv b;have hi:i<us.length:=(VE.mp b).1;obtain⟨m,d⟩:=Ae h i (by lia);have j:Sm 401 (fZ (us.take i)):=d.le (by have:=h.len;lia);have g:=ID (a:=fZ (us.take i)) (h.low u c).1 (h.s2 u c);refine ai 1 dj.nd (aZ (aC (ae 1) (bz (ae 2)) (j.ok (h.s2 u c))) (az k (e.mono (by decide)) rfl (ae 1) (bz (ae 2)) True.intro) (g.2.div g.1)) ?_;refine aH ⟨some (.val false u),?_⟩;unfold fZ;rw[nM b];rfl
 .rintro Γ' ⟨r,rfl⟩;rw[WO];exact aq (ae 1) rfl
def lh(e:aI P w K mg base 2 "common_bottom" ["numbers"] (cR K F_ true fZ))(us:List Fr)(h:F_ us):Body P w K mg base d8 "over_one_bottom" cS f 2 [.val false us] (RT true (D9 us)):=by
 intro g A outer s H E d;obtain⟨b,c⟩:=xb h;refine ai 1 gp.nd (aF e (d.mono (by decide)) rfl (ae 0) h) ?_;exact aq (bJ (fP (f:=fun u:Fr=>u.1*(fZ us).fdiv u.2) ["u"] [1] (cj (ag cS) d8 rfl rfl (by decide +kernel)) (bt (ae 0)) (bE 0) (fun C s H fp=>dt 0 ["u","bottom"]) bg (fun k u a C s H fp=>aC (a_ (ae 0)) (aZ (ae 1) (bz (ae 0)) ((h.s2 u (Vv a)).div (by have:=(h.low u (Vv a)).1;lia))) ((h.s1 u (Vv a)).ok (wo b (h.low u (Vv a)).1 c))) (by have:=h.len;lia)) (ae 1)) rfl
def NK(us:List Fr):List Int:=wd (D9 us).1
def Nj(us:List Fr):Prop:=F_ us/\J8 (D9 us).1
def uV(b:UY P w K mg base)(c:aI P w K mg base 3 "over_one_bottom" ["numbers"] (cR K F_ true D9))(us:List Fr)(h:Nj us):Body P w K mg base mE "made_whole" i7 f 3 [.val false us] (RT true (NK us)):=by
 intro d A outer s H E a;exact aq (aF b (a.mono (by decide)) rfl (a_ (aF c (a.mono (by decide)) rfl (ae 0) h.1)) h.2) rfl
def fF(a:Int):Int:=(Q.sN (a,1)).1
def sF(a:Int):Int:=(Q.sN (a,1)).2.1
def yc(a:Int):Prop:=a.natAbs<1073741824/\Q.mU Q.Q6 a
def HB{g:Int}(h:Q.kF g)(c:Q.mU Q.Q6 g):g∈dk 6:=by
 have f:=h.1
 have e:Q.kF (g.natAbs:Int):=by
  rcases aa2 g with z|z
  .rw[<-z];exact h
  .have:(g.natAbs:Int)=-g:=by lia
   rw[this];exact Q.pT h
 have a:∀p∈Q.Q6,p∣(30030:Int):=by decide
 exact Q.Ap (aaY.mp (Q.vM (n:=30030) _ (g.natAbs:Int) (Vu _) (by lia) e fun q b d=>a q (c.2 q b (Xf.mp d))))
def yc.ok{a:Int}(h:yc a):Q.sN (a,1)=(fF a,(sF a,1))/\a=fF a*(sF a*sF a)/\fF a∈dk 6/\0<sF a/\Sm 30 (sF a)/\a≠0/\Q.Tame a.natAbs:=by
 obtain⟨m,e,k⟩:=h;have i:Q.Tame a.natAbs:=Q.u_ (by lia) (by lia);obtain⟨f,s,b,c,g,d⟩:=vU e i;have e1:fF a=f:=by unfold fF;rw[b]
 have e2:sF a=s:=by unfold sF;rw[b]
 rw[e1,e2];have u:=HB c ⟨c.1,fun q j l=>k q j (by rw[d];exact V1 l (Int.dvd_mul_right f _))⟩;have:=Q.zZ c.1 g d;refine⟨b,d,u,g,?_,e,i⟩;unfold Sm;lia
def HY(h:∀a∈l,yc a):kD (l.map fF)=kD l:=by
 have nz:∀a∈l,a≠0:=fun a ha=>(h a ha).ok.2.2.2.2.2.1
 have A:∀a∈l.map fF,a≠0:=fun a ha=>by
  obtain⟨b,d,rfl⟩:=VG.mp ha;exact Q.cM (h b d).ok.2.2.1
 have pr:∀p,Q.aR p=true->cz (l.map fF) p=cz l p:=fun p hp=>Q.tJ hp A nz (by
  rw[Zz];refine ZM fun a ha=>?_;obtain⟨_,e,m,i,_⟩:=(h a ha).ok;show Q.cls (fF a) p=_
  conv=>rhs;rw[e,<-VZ]
  exact(Q.qM hp (Q.cM m) (by lia)).symm)
 have f:∀a∈l,(fF a<0↔a<0)/\(0<fF a↔0<a):=fun a ha=>by
  obtain⟨_,e,m,i,_⟩:=(h a ha).ok;have n:=Q.cM m;have ps:0<sF a*sF a:=Wj i i;generalize fF a=g at *;generalize sF a*sF a=q at *;rcases WB n with z|z
  .have:=Xk z ps;lia
  .have:=Wj z ps;lia
 have o:cz (l.map fF) 0=cz l 0:=by
  rw[Wy,Q.dJ,Q.dJ];constructor
  .rintro⟨⟨x,w,k⟩,⟨y,B,s⟩⟩;obtain⟨a,ha,rfl⟩:=VG.mp w;obtain⟨b,d,rfl⟩:=VG.mp B;exact⟨⟨a,ha,(f a ha).1.mp k⟩,⟨b,d,(f b d).2.mp s⟩⟩
  .rintro⟨⟨a,ha,k⟩,⟨b,d,s⟩⟩;exact⟨⟨_,VG.mpr ⟨a,ha,rfl⟩,(f a ha).1.mpr k⟩,⟨_,VG.mpr ⟨b,d,rfl⟩,(f b d).2.mpr s⟩⟩
 refine(Q.m9 ?_).symm;have ok:=Q.uZ l;cases q:kD l with
 |none =>
  rw[q] at ok;exact⟨by rw[o];exact ok.1,fun p hp=>by rw[pr p hp];exact ok.2 p hp⟩
 |some p =>
  rw[q] at ok;obtain⟨u,c⟩:=ok;rcases c with c|⟨c,C,v⟩
  .exact⟨by rw[c,o,<-c];exact u,.inl c⟩
  .exact⟨by rw[pr p c];exact u,.inr ⟨c,by rw[o];exact C,fun r t j=>by rw[pr r t];exact v r t j⟩⟩
theorem xR{l f s z zs:List Int}{G M:Int}:∀n:Nat,(∀i,i<n->l.getD i 0=f.getD i 0*(s.getD i 0*s.getD i 0)/\G*(zs.getD i 0*s.getD i 0)=M*z.getD i 0)->(G*G)*zQ l zs n=(M*M)*zQ f z n
 |0,_=>by show G*G*0=M*M*0;rw[Wg,Wg]
 |n+1,h=>by
  have g:=xR n fun i hi=>h i (by lia);obtain⟨h1,h2⟩:=h n (by lia);show(G*G)*(zQ l zs n+l.getD n 0*(zs.getD n 0*zs.getD n 0))=(M*M)*(zQ f z n+f.getD n 0*(z.getD n 0*z.getD n 0));rw[Xw,Xw,g,h1];generalize f.getD n 0=a at *;generalize s.getD n 0=b at *;generalize zs.getD n 0=c at *;generalize z.getD n 0=d at *;have e:G*G*(a*(b*b)*(c*c))=a*((G*(c*b))*(G*(c*b))):=by grind
  rw[e,h2];congr 1;grind
def getD_at{α:Type}{l:List α}{a d:α}(h:l[i]?=some a):l.getD i d=a:=by rw[VD,h];rfl
def uq(l z:List Int):List Fr:=(z.zip (l.map fun k=>Q.sN (k,1))).map fun u=>Q.M6 (u.1,1) u.2.2
def JM(b:∀a∈l,yc a)(hz:z.length=l.length)(hi:i<l.length):∃a x,l[i]?=some a/\z[i]?=some x/\a∈l/\x∈z/\(uq l z)[i]?=some (fr x (sF a)):=by
 have h1:l[i]?=some l[i]:=Vz hi;have h2:z[i]?=some z[i]:=Vz (by lia);refine⟨_,_,h1,h2,Vv h1,Vv h2,?_⟩;unfold uq;rw[VJ,show(z.zip (l.map fun k=>Q.sN (k,1)))[i]?=some (z[i],Q.sN (l[i],1)) from Xi.mpr ⟨h2,by rw[VJ,h1];rfl⟩];obtain⟨e,_⟩:=(b _ (Vv h1)).ok;show some (fr (z[i]*(Q.sN (l[i],1)).2.2) (1*(Q.sN (l[i],1)).2.1))=_;rw[e];show some (fr (z[i]*1) (1*sF l[i]))=_;rw[VX,Wq]
structure ZW(l zs:List Int):Prop where
 len:zs.length=l.length
 one:jv zs=1
 eq:zQ l zs l.length=0
 sm:∀x∈zs,Sm 7500 x
def NI(W:l.length<=9)(g:∀a∈l,yc a)(hz:ZF (l.map fF) z):Nj (uq l z)/\ZW l (NK (uq l z)):=by
 obtain⟨r,⟨X,B,xn⟩,H,zs⟩:=hz;rw[Vx] at r H;have len:(uq l z).length=l.length:=by unfold uq;rw[Vx,Yy,Vx,r];lia
 have mem:∀u∈uq l z,∃a x,a∈l/\x∈z/\u=fr x (sF a):=fun u j=>by
  obtain⟨i,hi⟩:=XD.mp j;have n:=(VE.mp hi).1;rw[len] at n;obtain⟨a,x,_,_,ha,d,e⟩:=JM g r n;rw[e] at hi;exact⟨a,x,ha,d,(VP hi).symm⟩
 have b:F_ (uq l z):=by
  refine⟨by lia,fun u j=>?_,fun u j=>?_,fun u j=>?_⟩<;>obtain⟨a,x,ha,d,rfl⟩:=mem u j<;>obtain⟨_,_,_,J,C,_⟩:=(g a ha).ok
  .exact Q.IG (by lia)
  .exact Sm.of_le (Q.G3 (by lia)) ((zs x d).le (by decide))
  .exact Sm.of_le (Q.Gz (by lia)) (C.le (by decide))
 obtain⟨m1,m2⟩:=xb b
 have top:∀i,i<l.length->∃a x t,l[i]?=some a/\z[i]?=some x/\(D9 (uq l z)).1[i]?=some t/\a∈l/\t*sF a=fZ (uq l z)*x/\Sm 7500 t:=fun i hi=>by
  obtain⟨a,x,h1,h2,ha,d,v⟩:=JM g r hi;obtain⟨_,_,_,J,C,_⟩:=(g a ha).ok;have p:=Vv v;refine⟨a,x,_,h1,h2,by show((uq l z).map _)[i]?=_;rw[VJ,v];rfl,ha,?_,?_⟩
  .have cr:=Q.Dr x (sF a);obtain⟨c,K⟩:=Q.FV (fun u h=>(b.low u h).1) p;have lw:=(b.low _ p).1;show(fr x (sF a)).1*(fZ (uq l z)).fdiv (fr x (sF a)).2*sF a=_;rw[K,W5 _ (by lia)];have:(fr x (sF a)).1*c*sF a=((fr x (sF a)).1*sF a)*c:=by grind
   rw[this,cr];grind
  .exact((b.s1 _ p).mul (wo m1 (b.low _ p).1 m2)).le (by decide)
 have m:(D9 (uq l z)).1.length=l.length:=by show((uq l z).map _).length=_;rw[Vx,len]
 have U:NK (uq l z)=wd (D9 (uq l z)).1:=rfl;unfold Nj;rw[U];generalize (D9 (uq l z)).1=T at *;generalize fZ (uq l z)=M at *;obtain⟨R,k⟩:=XD.mp B;have O:=(VE.mp k).1;obtain⟨V,Y,N,h1,h2,v,P,F,A⟩:=top R (by lia);rw[k] at h2;cases h2
 have tn:N≠0:=fun q=>by
  rw[q,Y5] at F;exact Vn (by lia) xn F.symm
 have D:=Vv v;have w:=AM D tn;refine⟨⟨b,by lia,by lia,(DE D tn A).le (by decide)⟩,by unfold wd;rw[Vx];exact m,ED w,?_,fun x d=>?_⟩
 .have I:=xR (l:=l) (f:=l.map fF) (s:=l.map sF) (z:=z) (zs:=wd T) (G:=jv T) (M:=M) l.length fun i hi=>by
   obtain⟨a,x,t,y,L,o,ha,e,_⟩:=top i hi;obtain⟨_,S,_⟩:=(g a ha).ok;rw[getD_at y,getD_at (l:=l.map fF) (a:=fF a) (by rw[VJ,y];rfl),getD_at (l:=l.map sF) (a:=sF a) (by rw[VJ,y];rfl),getD_at L,getD_at (l:=wd T) (a:=t.fdiv (jv T)) (by unfold wd;rw[VJ,o];rfl)];refine⟨S,?_⟩;rw[<-VZ,<-og w (Vv o)];exact e
  rw[H,Wg] at I;exact(WV.mp I).resolve_left (Vn (by lia) (by lia))
 .obtain⟨t,E,rfl⟩:=VG.mp d;obtain⟨i,hi⟩:=XD.mp E;have li:=(VE.mp hi).1;obtain⟨_,_,t',_,_,o,_,_,st⟩:=top i (by lia);rw[hi] at o;cases o;exact Sm.of_le (A_ w E) st
def lf:List Int->Int->Int
 |[],x=>x
 |p::ps,x=>lf ps (Q.aV x p).2
theorem zL(p:Int):∀(ps:List Int) (x:Int),lf (ps++[p]) x=(Q.aV (lf ps x) p).2
 |[],x=>rfl
 |q::ps,x=>zL p ps _
def AW{ps:List Int}(h:ps[i]?=some p):lf (ps.take (i+1)) x=(Q.aV (lf (ps.take i) x) p).2:=by
 rw[W2,h];exact zL p _ x
def GF{k:Int}(a:2<=d)(b:0<k):0<(Q.aV k d).2/\(Q.aV k d).2<=k:=by
 obtain⟨h1,h2,e⟩:=Q.eB a (show k≠0 by lia);have hp:(0:Int)<d^(Q.aV k d).1.toNat:=Ws (by lia);generalize (Q.aV k d).2=l at *;generalize d^(Q.aV k d).1.toNat=t at *
 have f:0<l:=by
  apply Vr;intro c;have:l*t<=0:=Ya (by lia) (by lia);lia
 have:l*1<=l*t:=VB (by lia) (by lia);lia
theorem nt:∀(ps:List Int) (x:Int),(∀p,p∈ps->2<=p)->0<x->0<lf ps x/\lf ps x<=x
 |[],x,_,h=>⟨h,Wo x⟩
 |p::ps,x,hp,h=>by
  have a:=GF (hp p (VC ..)) h;have b:=nt ps (Q.aV x p).2 (fun q c=>hp q (Vw _ c)) a.1;exact⟨b.1,aas b.2 a.2⟩
def SP:List Int:=[2,3,5,7,11,13]
def k8(k:Int):Bool:=y8 k&&decide (Q.rt (lf SP k.natAbs)*Q.rt (lf SP k.natAbs)=lf SP k.natAbs)
def xp:∀p,p∈SP->2<=p:=by decide
def F8:∀p,p∈SP->2<=p/\p<100:=by decide
def IW{k:Int}(h:y8 k=true)(i:Nat):0<lf (SP.take i) k.natAbs/\lf (SP.take i) k.natAbs<1073741824:=by
 unfold y8 at h;have h':k≠0/\k.natAbs<1073741824:=by simpa using h
 have:=nt (SP.take i) (k.natAbs:Int) (fun p hp=>xp p (YS hp)) (by lia);lia
include B in
theorem zF(d:vY K mg "SMALL_PLACES" [0,2,3,5,7,11,13])(j:UP P w K mg base)(k:UD P w K mg base)
  (o:UG P w K mg base) (x:Int):Body P w K mg base rk "is_small" lx f 2 [.val false x] (RT true (k8 x)):=by
 intro n A outer s H E b;have l:∀i:Int,(if i<0 then -i else i)=(i.natAbs:Int):=fun i=>by split<;>lia
 refine aE (jM (fY (aF j (b.mono (by decide)) rfl (ae 0) True.intro))) (fun c=>?_) (fun c=>?_)
 .have e:k8 x=false:=by
   unfold k8;rw[show y8 x=false by simpa using c];rfl
  rw[e];exact aq iV rfl
 have hi:y8 x=true:=by simpa using c
 refine ai 1 gX.nd (gR rfl B.abs (ae 0)) ?_;rw[l];refine oQ (as:=SP) (fun i Γ=>∃r,Γ=[some (.val false x),some (.val true (lf (SP.take i) x.natAbs)),r]) (cu 2 gX.nd) (E9 (AG (t7 rfl d) af (by decide) (by decide))) ⟨none,rfl⟩ ?_ ?_
 .rintro i a Γ' ha ⟨r,rfl⟩;have hz:=IW hi i;have hp:=F8 a (Vv ha);refine ai 1 gX.nd (bz (az k (b.mono (by decide)) rfl (ae 1) (ae 2) ⟨by lia,hp.1,Sm.le (m:=62) (by unfold Sm;lia) (by decide)⟩)) ?_;refine aH ?_;dsimp only;rw[AW ha];exact⟨_,rfl⟩
 .rintro Γ' ⟨r,rfl⟩;have hz:=IW hi 6;refine aq (P4 (aF o (b.mono (by decide)) rfl (ae 1) (Sm.le (m:=62) (by unfold Sm;show(lf (SP.take 6) x.natAbs).natAbs<_;lia) (by decide))) fun _ _ _ _ h=>nomatch h) ?_;show Bd.val _ _=Bd.val _ _;congr 1;unfold k8;rw[hi,YU];show(!(Cv (lf SP x.natAbs)).isNone)=_;have g:0<lf SP x.natAbs:=hz.1;unfold Cv;rw[Vm (by lia)];split
  .rename_i h;rw[V3 h];rfl
  .rename_i h;rw[VW h];rfl
open Q (Fr dk kD cz)
def CS{a:Int}(hp:2<=p)(ha:a≠0):(Q.aV a p).2≠0:=fun z=>by
 obtain⟨_,_,b⟩:=Q.eB hp ha;exact b (by rw[z];exact ZC _)
theorem vK:∀(ps:List Int) {a b:Int},(∀p∈ps,Q.aR p=true)->a≠0->b≠0->lf ps (a*b)=lf ps a*lf ps b
 |[],a,b,_,_,_=>rfl
 |p::ps,a,b,h,ha,c=>by
  have hp:=h p (VC ..);have p2:=Q.ao hp;show lf ps (Q.aV (a*b) p).2=lf ps (Q.aV a p).2*lf ps (Q.aV b p).2;rw[Q.Ak hp ha c];exact vK ps (fun q d=>h q (Vw _ d)) (CS p2 ha) (CS p2 c)
def vh:∀p∈SP,Q.aR p=true:=Q.h_
def M1:lf SP 30030=1:=by
 have b:∀(a p:Int),2<=p->¬p∣a->(Q.aV (a*p) p).2=a:=fun a p hp c=>by
  have:=Q.ma (v:=1) hp c;rw[VS,V8,Wq] at this;rw[this]
 show(Q.aV (Q.aV (Q.aV (Q.aV (Q.aV (Q.aV 30030 2).2 3).2 5).2 7).2 11).2 13).2=1;rw[show(30030:Int)=15015*2 from rfl,b 15015 2 (by decide) (by decide),show(15015:Int)=5005*3 from rfl,b 5005 3 (by decide) (by decide),show(5005:Int)=1001*5 from rfl,b 1001 5 (by decide) (by decide),show(1001:Int)=143*7 from rfl,b 143 7 (by decide) (by decide),show(143:Int)=13*11 from rfl,b 13 11 (by decide) (by decide)];exact b 1 13 (by decide) (by decide)
def K_{g:Int}(h:g∈dk 6):lf SP g.natAbs=1:=by
 have n:=Q.cM h;obtain⟨c,d⟩:(g.natAbs:Int)∣30030:=aaY.mpr (Q.kC h)
 have c0:0<c:=by
  apply Vr;intro z;have:=Wf (a:=(g.natAbs:Int)) (b:=c) (by lia) (by lia);lia
 have e:=M1;rw[d,vK SP vh (by lia) (by lia)] at e;have f:=(nt SP (g.natAbs:Int) xp (by lia)).1;have p2:=(nt SP c xp c0).1;exact Int.eq_one_of_mul_eq_one_right (by lia) e
def yc.small{a:Int}(h:yc a):k8 a=true:=by
 obtain⟨_,e,c,b,_,d,_⟩:=h.ok;have i:=h.1;unfold k8 y8;rw[V3 ⟨d,i⟩,YU];have n:=Q.cM c
 have g:(a.natAbs:Int)=((fF a).natAbs:Int)*(sF a*sF a):=by
  conv=>lhs;rw[e,VT,WN]
  congr 1;have:=Wj b b;lia
 have f:lf SP a.natAbs=lf SP (sF a)*lf SP (sF a):=by
  rw[g,vK SP vh (by lia) (Vn (by lia) (by lia)),K_ c,Wq,vK SP vh (by lia) (by lia)]
 rw[f];have p:=(nt SP (sF a) xp b).1;generalize lf SP (sF a)=r at *;have:r=Q.rt (r*r):=Q.kc (by lia) (Wo _) (by grind);rw[<-this];exact V3 rfl
structure Ms(PF:List Int->Prop)(l:List Int):Prop where
 fb:Gf l
 len:l.length<=9
 sm:∀a∈l,yc a
 pf:kD l=none->PF (l.map fF)
def ZO(l:List Int)(z:Option (List Int)):Prop:=(kD l≠none/\z=none)\/(kD l=none/\∃zs,z=some zs/\ZW l zs)
include B in
theorem pB{PF:List Int->Prop}(RE:UX P w K mg base)(n:aI P w K mg base 9 "first_barring" ["numbers"] (cR K Gf true kD))(r:aI P w K mg base 140 "zero_of_free" ["numbers"] (k6 K PF true ZF))(y:aI P w K mg base 3 "over" ["u","v"] (cw K Ky true Q.M6))(L:aI P w K mg base 4 "made_whole" ["x"] (cR K Nj true NK))(l:List Int)(hp:Ms PF l):
  Body P w K mg base cJ "zero_of_small" bU f 140 [.val false l] (wX true (ZO l)):=by
 intro O A outer v H E b;obtain⟨o,G,d,pf⟩:=hp;cases c:kD l with
 |some p =>
  refine aE (zH (x:=some p) (α:=Int) (eR (aF n (b.mono (by decide)) rfl (ae 0) o) c) fun _ _ _ _ h=>nomatch h) (fun _=>?_) (fun j=>nomatch j);exact aq (kR (α:=List Int)) ⟨_,.inl ⟨(by rw[c];exact fun z=>nomatch z),rfl⟩,rfl⟩
 |none =>
  refine aE (zH (x:=none) (α:=Int) (eR (aF n (b.mono (by decide)) rfl (ae 0) o) c) fun _ _ _ _ h=>nomatch h) (fun j=>nomatch j) (fun _=>?_);refine vq 1 e_.nd (b':=true) (f:=fun k:Int=>Q.sN (k,1)) ["k"] [] (cj (ag bU) cJ rfl rfl (by decide +kernel)) (bt (ae 0)) (bE 0) (fun C _ H fp=>dt 0 ["k"]) bg (fun i a ha C _ H fp=>aF RE (b.mono (by decide)) rfl (bJ (ae 0) af) ?_) (by lia) ?_
  .have g:=Vv ha;obtain⟨_,_,_,_,_,s,F⟩:=(d a g).ok;exact yP s (by have:=(d a g).1;exact Sm.le (m:=30) (by unfold Sm;lia) (by decide)) F
  refine g_ 2 e_.nd (gq r (b.mono (by decide)) rfl (eR (a':=l.map fF) (fP (b':=true) (f:=fun u:Int×(Int×Int)=>u.1) ["one"] [] (cj (ag bU) cJ rfl rfl (by decide +kernel)) (bt (ae 1)) (bE 0) (fun C _ H fp=>dt 0 ["one"]) bg (fun i u q C _ H fp=>a_ (ae 0)) (by rw[Vx];lia)) (by rw[Zz];rfl)) (pf c)) fun z hz=>?_;have M:=hz.len;rw[Vx] at M;obtain⟨I,t⟩:=NI G d hz;refine aq (iJ (aF L (b.mono (by decide)) rfl (eR (a':=uq l z) (fP (b':=true) (f:=fun u:Int×(Int×(Int×Int))=>Q.M6 (u.1,1) u.2.2) ["x","one"] [] (cj (ag bU) cJ rfl rfl (by decide +kernel)) (vx rfl B.zip (ae 2) (ae 1)) (Dt 0 1) (fun C _ H fp=>Mg 0 1 ["x","one"]) BY (fun i u q C _ H fp=>az y (b.mono (by decide)) rfl (bJ (ae 0) af) (bz (ae 1)) ?_) (by rw[Yy,Vx];lia)) rfl) I)) ⟨_,.inr ⟨c,_,rfl,t⟩,rfl⟩;have g:=Vv q;obtain⟨m1,m2⟩:=Q.Bk g;obtain⟨a,ha,N⟩:=VG.mp m2;obtain⟨e,_,_,v,D,_⟩:=(d a ha).ok;have J:u.2=(fF a,(sF a,1)):=by rw[<-N,e]
  rw[J];exact⟨rfl,rfl,by show sF a≠0;lia,(hz.sm _ m1).le (by decide),D.le (by decide)⟩
include B in
theorem qQ(b:aI P w K mg base 3 "is_small" ["k"] (cR K (fun(_:Int)=>True) true k8))(r:List Int)(e:r.length<=1000)(ha:r.all k8=true):Body P w K mg base gK "refuse_great" eF f 3 [.val false r] OV:=by
 intro d A outer s H E c;refine aE (jM (fY (JI rfl rfl B.all (fP (f:=k8) ["k"] [] (cj (ag eF) gK rfl rfl (by decide +kernel)) (bt (ae 0)) (bE 0) (fun C s H fp=>dt 0 ["k"]) bg (fun i u g C s H fp=>aF b (c.mono (by decide)) rfl (ae 0) True.intro) e)))) (fun a=>?_) (fun _=>aH True.intro);rw[List.all_map,show r.all (id∘k8)=r.all k8 from rfl,ha] at a;cases a
abbrev U8(P w K mg base):=aI P w K mg base 4 "refuse_great" ["numbers"] (cR K (fun(ns:List Int)=>ns.length<=1000/\ns.all k8=true) true qC)
def BR{PF:List Int->Prop}(e:UW P w K mg base)(h:U8 P w K mg base)(g:aI P w K mg base 141 "zero_of_small" ["numbers"] (k6 K (Ms PF) true ZO))(l:List Int)(c:b_ l=true)(hp:Ms PF l):Body P w K mg base tK "zero_of" ng f 141 [.val false l] (wX true (ZO l)):=by
 intro d A outer i H E b;refine vi (aF e (b.mono (by decide)) rfl (ae 0) c) ?_;refine vi (aF h (b.mono (by decide)) rfl (ae 0) ⟨by have:=hp.len;lia,Wc.mpr fun a ha=>(hp.sm a ha).small⟩) ?_;exact ou (gq g (b.mono (by decide)) rfl (ae 0) hp) fun z hz=>⟨_,hz,rfl⟩
def D3(d:l.length=4)(c:∀a∈l,yc a):b_ l=true/\Ms GY l:=by
 have row:b_ l=true:=by
  unfold b_;rw[V3 (by lia),YU]
  exact Wc.mpr fun x f=>by
   have:=(c x f).small;unfold k8 at this;exact(WI.mp this).1
 refine⟨row,⟨row,DS (by lia) c,by lia⟩,by lia,c,fun e=>⟨by rw[Vx];exact d,fun a ha=>?_,by rw[HY c];exact e⟩⟩;obtain⟨b,g,rfl⟩:=VG.mp ha;exact(c b g).ok.2.2.1
def wc(xs:List Int)(k:Int):Int:=if k<(xs.length:Int) then xs.getD k.toNat 0 else 0
include B in
theorem sH(xs:List Int)(k:Int)(g:0<=k):Body P w K mg base kQ "_law_cell_at" g8 f kk [.val false xs,.val false k] (RT true (wc xs k)):=by
 intro c A outer s H E h;refine aE (av gJ (ae 1) (bD rfl B.len (ae 0))) (fun b=>?_) (fun b=>?_)
 .have a:k<(xs.length:Int):=by simpa using b
  have e:wc xs k=xs.getD k.toNat 0:=Vo a;rw[e];exact aq (j8 (a9 (ae 0) (ae 1) (rL (d:=0) g a))) rfl
 .have a:¬k<(xs.length:Int):=by simpa using b
  have e:wc xs k=0:=Vm a;rw[e];exact aq af rfl
def QU(c k j:Int):Int:=(((c.natAbs:Int).fmod 2147483647+97*k+131*j+13)*(16807+j*j+k)).fmod 2147483647
def ON(c k:Int):Nat->Int
 |0=>0
 |i+1=>ON c k i*2147483659+(QU c k i*48271).fmod 2147483647
def M9(c k:Int):Int:=if 10^18<=(c.natAbs:Int) then c else ON c k 9
include B in
theorem Bs(c k:Int)(p:0<=k)(h1:k<=100):Body P w K mg base ug "_law_big" nD f kk [.val false c,.val false k] (RT true (M9 c k)):=by
 intro n A outer s H E q;have h:∀i:Int,(if i<0 then -i else i)=(i.natAbs:Int):=fun i=>by split<;>lia
 refine aE (av CT (gR rfl B.abs (ae 0)) (Oh af af Q3)) (fun d=>?_) (fun d=>?_)
 .rw[h] at d;have e:M9 c k=c:=Vo (by simpa using d);rw[e];exact aq (j8 (ae 0)) rfl
 rw[h] at d;have e:M9 c k=ON c k 9:=Vm (by simpa using d);rw[e];refine ai 2 eW.nd af ?_;refine dQ (fun i Γ=>∃r g,Γ=[some (.val false c),some (.val false k),some (.val true (ON c k i)),r,g]) rfl B.range (cu 3 eW.nd) af (by decide) (by decide) ⟨none,none,rfl⟩ ?_ ?_
 .rintro i Γ' hi ⟨r,g,rfl⟩;have l:i<9:=hi;have t:=dy (a:=(c.natAbs:Int)) (b:=2147483647) (by decide);have m:(i:Int)*(i:Int)<=9*9:=We (by lia) (by lia) (by lia) (by decide);have j:(0:Int)<=(i:Int)*(i:Int):=Xe (by lia) (by lia);refine ai 4 eW.nd (bC (bC (bC (aQ (gR rfl B.abs (ae 0)) af (by decide)) (aC af (ae 1) (mulL (by decide) (by decide)))) (aC af (ae 3) (mulL (by decide) (by decide)))) af) ?_;rw[h];refine ai 4 eW.nd (aQ (aC (ae 4) (bC (bC af (aC (ae 3) (ae 3) (mulL (by lia) (by lia)))) (ae 1)) (mulL (by lia) (by lia))) af (by decide)) ?_;have o:=dy (a:=((c.natAbs:Int).fmod 2147483647+97*k+131*(i:Int)+13)*(16807+(i:Int)*(i:Int)+k)) (b:=2147483647) (by decide);refine ai 2 eW.nd (bC (aC (ae 2) af (mulR (by decide) (by decide))) (aQ (aC (ae 4) af (mulR (by decide) (by decide))) af (by decide))) ?_;exact aH ⟨_,_,rfl⟩
 .rintro Γ' ⟨r,g,rfl⟩;exact aq (ae 2) rfl
def MQ(a b:Int):Int:=((Int.gcd a b:Nat):Int)
include B in
theorem vG(a b:Int):Body P w K mg base mB "_law_common" iN f k [.val false a,.val false b] (RT true (MQ a b)):=by
 intro g A outer s H E h;refine cb (ι:=Bool×Bool×Int×Int) (fun i Γ=>∃r,Γ=[some (.val i.1 i.2.2.1),some (.val i.2.1 i.2.2.2),r]/\Int.gcd i.2.2.1 i.2.2.2=Int.gcd a b) (fun i=>i.2.2.2.natAbs) (false,false,a,b) ⟨none,rfl,rfl⟩ ?_;rintro⟨b1,b2,x,y⟩ Γ' ⟨r,rfl,d⟩;refine⟨_,av fU (ae 1) af,fun e=>?_,fun e=>?_⟩
 .have c:y≠0:=by simpa using e
  refine ai 2 fh.nd (aQ (ae 0) (ae 1) c) ?_;refine ai 0 fh.nd (ae 1) ?_;refine ai 1 fh.nd (ae 2) ?_;exact aH ⟨(b2,true,y,x.fmod y),⟨_,rfl,(Q.mC x y).trans d⟩,Q.A5 x y c⟩
 .have c:y=0:=by simpa using e
  refine aq (gR rfl B.abs (ae 0)) ?_;dsimp only at d ⊢;rw[c,Y6] at d;unfold MQ;rw[<-d];show Bd.val _ _=Bd.val _ _;congr 1;split<;>lia
def zp(zero:List Int):Nat->Int
 |0=>0
 |i+1=>MQ (zp zero i) (zero.getD i 0)
def zt(row zero:List Int):Nat->Int
 |0=>0
 |i+1=>zt row zero i+row.getD i 0*zero.getD i 0*zero.getD i 0
def M5(row zero:List Int):Bool:=decide (zp zero row.length=1)&&decide (zt row zero row.length=0)
def Pb(row zero:List Int):Prop:=zero.length=row.length/\row.length<=100/\(∀x,x∈row->Sm 7600 x)/\∀x,x∈zero->Sm 7600 x
def getD_mem(h:i<xs.length):xs.getD i 0∈xs:=by
 rw[VD,Vz h];exact XX h
def MN(h:i<xs.length):zv xs (i:Int)=some (xs.getD i 0):=rL (d:=0) (by lia) (by lia)
abbrev U9(P w K mg base):=aI P w K mg base 1 "_law_common" ["_law_a","_law_b"] (cw K (fun _ _=>True) true MQ)
include B in
theorem sD(g:U9 P w K mg base)(row zero:List Int)(hp:Pb row zero):Body P w K mg base kO "_law_is_zero" hX f 1 [.val false row,.val false zero] (RT true (M5 row zero)):=by
 intro k A outer s H E j;obtain⟨l,h,d,c⟩:=hp;refine aE (TW.t (tO (jM (fY (Ek rfl B.isinstance rfl B.list (ae 1)))) fun _=>(nC (av fU (bD rfl B.len (ae 1)) (bD rfl B.len (ae 0)))))) (fun a=>?_) (fun a=>?_)
 .exfalso;simp at a;lia
 refine ai 2 cf.nd af ?_;refine ai 3 cf.nd af ?_;refine dQ (fun i Γ=>∃r,Γ=[some (.val false row),some (.val false zero),some (.val true (zp zero i)),some (.val true (zt row zero i)),r]) rfl B.range (cu 4 cf.nd) (bD rfl B.len (ae 0)) (by lia) (by lia) ⟨none,rfl⟩ ?_ ?_
 .rintro i Γ' hi ⟨r,rfl⟩;have h1:i<row.length:=by lia
  have h2:i<zero.length:=by lia
  have e:=d _ (getD_mem h1);have b:=c _ (getD_mem h2);refine aE (TW.t (tO (jM (fY (yT rfl B.isinstance rfl B.int (a9 (ae 1) (ae 4) (MN h2))))) fun _=>(nC (fY (yx rfl B.isinstance rfl B.bool (a9 (ae 1) (ae 4) (MN h2))))))) (fun a=>?_) (fun a=>?_)
  .cases a
  refine ai 2 cf.nd (az g (j.mono (by decide)) rfl (ae 2) (a9 (ae 1) (ae 4) (MN h2)) True.intro) ?_;refine ai 3 cf.nd (bC (ae 3) (aC (aC (a9 (ae 0) (ae 4) (MN h1)) (a9 (ae 1) (ae 4) (MN h2)) (e.ok b)) (a9 (ae 1) (ae 4) (MN h2)) ((e.mul b).ok b))) ?_;exact aH ⟨_,rfl⟩
 .rintro Γ' ⟨r,rfl⟩;exact aq (oZ (fE ax (ae 2) af) fun _=>(jG (fE ax (ae 3) af))) rfl
def wF(x e m:Int)(he:0<=e)(p:2<=m)(r:m<2^62):Body P w K mg base oI "_law_power" jD f kk [.val false x,.val false e,.val false m] (RT true (x5 x e m)):=by
 intro u A outer s H E z;have c:1<=m:=by lia
 refine ai 3 bY.nd (eR af (show(1:Int)=1%m from (XN (by decide) (by lia)).symm)) ?_;refine ai 0 bY.nd (aQ (ae 0) (ae 2) (by lia)) ?_;rw[bh c]
 refine cb (ι:=Bool×Int×Int×Int) (fun i Γ=>Γ=[some (.val true i.2.2.2),some (.val i.1 i.2.1),some (.val false m),some (.val true i.2.2.1)]/\0<=i.2.1/\i.2.2.1*i.2.2.2^i.2.1.toNat%m=x^e.toNat%m/\0<=i.2.2.1/\i.2.2.1<m/\0<=i.2.2.2/\i.2.2.2<m) (fun i=>i.2.1.toNat) (false,e,1%m,x%m)
  ⟨rfl,he,by dsimp only;rw[WQ,Yc _ (Xv m),Q.iC,<-WQ,Wq],VV _ (by lia),VR _ (by lia),VV _ (by lia),VR _ (by lia)⟩ ?_
 rintro⟨v,n,a,q⟩ Γ' ⟨rfl,t,hi,j,o,y,q1⟩;dsimp only at *;refine⟨_,av fB (ae 1) af,fun b=>?_,fun b=>?_⟩
 .have k:0<n:=by simpa using b
  have d:=qH t;have h:=VV (q*q) (show m≠0 by lia);have l:=VR (q*q) (show 0<m by lia);refine aE (av ax (aQ (ae 1) af (by decide)) af) (fun b=>?_) (fun b=>?_)
  .have g:n.toNat%2=1:=by
    have:n.fmod 2=1:=by simpa using b
    rw[bh (by decide)] at this;lia
   refine ai 3 bY.nd (aQ (aC (ae 3) (ae 0) (mulL (by lia) (by lia))) (ae 2) (by lia)) (aH ?_);refine ai 0 bY.nd (aQ (aC (ae 0) (ae 0) (mulL (by lia) (by lia))) (ae 2) (by lia)) ?_;refine ai 1 bY.nd (aZ (ae 1) af uR) ?_;rw[bh c,bh c];refine aH ⟨(true,n.fdiv 2,a*q%m,q*q%m),⟨rfl,d.2,?_,VV _ (by lia),VR _ (by lia),h,l⟩,?_⟩
   .dsimp only;rw[d.1,A9 g,hi]
   .dsimp only;lia
  .have g:n.toNat%2=0:=by
    have:¬n.fmod 2=1:=by simpa using b
    rw[bh (by decide)] at this;lia
   refine ai 0 bY.nd (aQ (aC (ae 0) (ae 0) (mulL (by lia) (by lia))) (ae 2) (by lia)) ?_;refine ai 1 bY.nd (aZ (ae 1) af uR) ?_;rw[bh c];refine aH ⟨(true,n.fdiv 2,a,q*q%m),⟨rfl,d.2,?_,j,o,h,l⟩,?_⟩
   .dsimp only;rw[d.1,vZ g,hi]
   .dsimp only;lia
 .have hz:n.toNat=0:=by
   have:¬0<n:=by simpa using b
   lia
  rw[hz,V8,VX,XN j o] at hi;refine aq (ae 3) ?_;show Bd.val _ _=Bd.val _ _;unfold x5;rw[<-hi]
open Q (aR vW lsN oW pS Mz fj)
def zk(n p:Int)(h:n≠0)(h2:2<=p)(r:p<2^31):Body P w K mg base qP "_law_less" lq f kk [.val false n,.val false p] (RT true (vW n p)):=by
 intro o A outer s H E q;have g:p*p≠0:=Vn (by lia) (by lia);have sp:Sm 31 p:=by unfold Sm;lia
 refine cb (ι:=Bool×Nat×Int) (fun i Γ=>Γ=[some (.val i.1 i.2.2),some (.val false p)]/\i.2.2≠0/\i.2.2.natAbs<=i.2.1/\lsN p i.2.1 i.2.2=vW n p) (fun i=>i.2.2.natAbs) (false,n.natAbs,n) ⟨rfl,h,Vu _,rfl⟩ ?_;rintro⟨b,k,x⟩ Γ' ⟨rfl,c,l,e⟩;have c:x≠0:=c;have l:x.natAbs<=k:=l;have e:lsN p k x=vW n p:=e;refine⟨_,av ax (aQ (ae 0) (aC (ae 1) (ae 1) (sp.ok sp)) g) af,fun d=>?_,fun d=>?_⟩
 .have a:x.fmod (p*p)=0:=VH d;rw[Wu _ (Xe (by lia) (by lia))] at a;obtain⟨m,q1,_⟩:=Q.FO h2 c a;obtain⟨j,rfl⟩:∃j,k=j+1:=⟨k-1,by lia⟩;rw[Q.CU a] at e;refine ai 0 oP.nd (aZ (ae 0) (aC (ae 1) (ae 1) (sp.ok sp)) (Sm.div (sp.mul sp) g)) ?_;rw[Wd _ (Xe (by lia) (by lia))];exact aH ⟨(true,j,x/(p*p)),⟨rfl,m,by dsimp only;lia,e⟩,q1⟩
 .have a:¬x.fmod (p*p)=0:=V4 d;rw[Wu _ (Xe (by lia) (by lia))] at a;rw[Q.wm a] at e;rw[<-e];cases b with
  |true=>exact aq (ae 0) rfl
  |false=>exact aq (j8 (b':=true) (ae 0)) rfl
def OT(g:List Int)(p:Int):Bool:=!Mz p g
structure O7(g:List Int)(p:Int):Prop where
 pr:aR p=true
 ne:p≠2
 lt:p<2^31
 un:∀a∈g,¬p∣a
 sz:∀a∈g,Sm 62 a
abbrev U_(P w K mg base):=aI P w K mg base 1 "_law_power" ["_law_k","_law_often","_law_p"] (tF K (fun _ e m=>0<=e/\2<=m/\m<2^62) true x5)
include B in
theorem wB(u:U_ P w K mg base)(g:List Int)(p:Int)(h:O7 g p):Body P w K mg base oN "_law_alone" jI f 1 [.val false g,.val false p] (RT true (OT g p)):=by
 intro k A outer s H E m;obtain⟨hp,h2,t,un,sz⟩:=h;have p2:=Q.ao hp
 match g,un,sz with
 |[],_,_ =>
  refine aE (av gJ (bD rfl B.len (ae 0)) af) (fun d=>?_) (fun d=>absurd (V4 d) (by simp));exact aq iV rfl
 |[_],_,_ =>
  refine aE (av gJ (bD rfl B.len (ae 0)) af) (fun d=>?_) (fun d=>absurd (V4 d) (by simp));exact aq iV rfl
 |[a,b],un,sz =>
  have ha:=un a (by simp);have n:=un b (by simp);have l:=sz a (by simp);have o:=sz b (by simp);refine aE (av gJ (bD rfl B.len (ae 0)) af) (fun d=>absurd (VH d) (by simp)) (fun _=>?_);refine aE (av fB (bD rfl B.len (ae 0)) af) (fun d=>absurd (VH d) (by simp)) (fun _=>?_);have i:(p-1).fdiv 2=(p-1)/2:=Wd _ (by decide);refine aq (fE ax (dc u (m.mono (by decide)) rfl (eU af (aC (a9 (a:=a) (ae 0) af rfl) (a9 (a:=b) (ae 0) af rfl) (l.ok o))) (aZ (eU (ae 1) af) af uR) (ae 1) ⟨by rw[i];lia,p2,by lia⟩) (eU (ae 1) af)) ?_;show Bd.val _ _=Bd.val _ _;congr 1
  have e:¬p∣-a*b:=fun z=>by
   rcases Q.euclid hp z with z|z
   .exact ha (WX.mp z)
   .exact n z
  show decide (x5 (0-a*b) ((p-1).fdiv 2) p=p-1)=!decide (Q.bf (-a*b) p=1);rw[i,show 0-a*b=-a*b by grind]
  have j:x5 (-a*b) ((p-1)/2) p=p-1↔Q.bf (-a*b) p=-1:=by
   rw[Q.fv hp h2 e];unfold x5;generalize (-a*b)^((p-1)/2).toNat=q;constructor
   .intro z;refine VL ?_;rw[<-aae,z,show p-1+1=p by lia,Int.emod_self]
   .rintro⟨c,d⟩;rw[show q=(p-1)+p*(c-1) by grind,Z4];exact XN (by lia) (by lia)
  rcases Q.bO e with z|z
  .rw[VW (fun w=>by rw[j,z] at w;exact absurd w (by decide)),z];rfl
  .rw[V3 (j.mpr z),z];rfl
 |a::b::c::r,_,_ =>
  have t:((a::b::c::r).length:Int)=(r.length:Int)+3:=by simp only[Wl];lia
  refine aE (av gJ (bD rfl B.len (ae 0)) af) (fun d=>?_) (fun _=>?_)
  .have:=VH d;lia
  refine aE (av fB (bD rfl B.len (ae 0)) af) (fun _=>?_) (fun d=>?_)
  .exact aq iV rfl
  .have:=V4 d;lia
open Classical in
def Kv(l:List Int):Bool:=!decide (Q.PZ l 2 16)
open Classical in
def AJ:Kv l=false↔Q.PZ l 2 16:=by unfold Kv;rw[Bool.not_eq_false',WJ]
def CK{c:Bool}(h:c=true↔Q.PZ l 2 16):(!c)=Kv l:=by
 cases c with
 |true=>exact(AJ.mpr (h.mp rfl)).symm
 |false =>
  cases q:Kv l with
  |true=>rfl
  |false=>exact nomatch h.mpr (AJ.mp q)
def Pt(l:List Int)(d:Db Bool):Prop:=d.ks.Nodup/\∀k,k∈d.ks↔Q.J2 16 2 l k
def xm(a:Int)(k:Int×Bool)(x:Int):Int×Bool:=((k.1+a*x*x).fmod 16,k.2 || decide (x.fmod 2=1))
def Bt(a:Int)(ks:List (Int×Bool))(j m:Nat)(d:Db Bool):Prop:=d.ks.Nodup/\∀k,k∈d.ks↔(∃i key,i<j/\ks[i]?=some key/\∃x:Nat,x<4/\k=xm a key x)\/∃key,ks[j]?=some key/\∃x:Nat,x<m/\k=xm a key x
def Bt.len{a:Int}{ks:List (Int×Bool)}{m:Nat}{d:Db Bool}(h:Bt a ks j m d):d.l.length<=40:=by
 have:=Q.Fl (N:=16) h.1 fun k c=>by
  have b:∀key x,0<=(xm a key x).1/\(xm a key x).1<16:=fun key x=>dy (by decide);rcases(h.2 k).mp c with⟨i,key,_,_,x,_,rfl⟩|⟨key,_,x,_,rfl⟩<;>exact b _ _
 rw[Db.Fg] at this;lia
theorem Bt.put{a:Int}{ks:List (Int×Bool)}{j m:Nat}{d:Db Bool}{key:Int×Bool}{c:Bool}(g:ks[j]?=some key)(h:Bt a ks j m d):Bt a ks j (m+1) (d.put (xm a key m) c):=by
 refine⟨Db.Ln h.1,fun k=>?_⟩;rw[Db.Ig,h.2];constructor
 .rintro(rfl|h1|⟨f,b,x,i,rfl⟩)
  .exact .inr ⟨key,g,m,XW m,rfl⟩
  .exact .inl h1
  .exact .inr ⟨f,b,x,by lia,rfl⟩
 .rintro(h1|⟨f,b,x,i,rfl⟩)
  .exact .inr (.inl h1)
  .rw[g] at b;cases b;by_cases e:x=m
   .subst e;exact .inl rfl
   .exact .inr (.inr ⟨key,g,x,by lia,rfl⟩)
def Bt.next{a:Int}{ks:List (Int×Bool)}{d:Db Bool}{key:Int×Bool}(m:ks[j]?=some key)(h:Bt a ks j 4 d):Bt a ks (j+1) 0 d:=by
 refine⟨h.1,fun k=>?_⟩;rw[h.2];constructor
 .rintro(⟨i,b,h1,h2,l⟩|⟨b,f,x,c,e⟩)
  .exact .inl ⟨i,b,by lia,h2,l⟩
  .exact .inl ⟨j,b,by lia,f,x,by lia,e⟩
 .rintro(⟨i,b,h1,h2,x,c,e⟩|⟨b,_,x,c,_⟩)
  .by_cases g:i=j
   .subst g;exact .inr ⟨b,h2,x,by lia,e⟩
   .exact .inl ⟨i,b,by lia,h2,x,c,e⟩
  .exact absurd c (Xu x)
def Bt.done{a:Int}{c d:Db Bool}(g:Pt l c)(h:Bt a c.ks c.ks.length 0 d):Pt (l++[a]) d:=by
 refine⟨h.1,fun k=>?_⟩;rw[h.2,Q.Fh]
 have f:∀key (x:Int),xm a key x=((key.1+a*x*x)%16,key.2 || !decide (x%2=0)):=fun key x=>by
  unfold xm;rw[bh (by decide),bh (by decide)];congr 2;by_cases z:x%2=1
  .rw[z];rfl
  .rw[show x%2=0 by lia];rfl
 constructor
 .rintro(⟨i,key,h1,h2,x,j,e⟩|⟨key,_,x,j,_⟩)
  .exact⟨key,(g.2 key).mp (Vv h2),x,by lia,by lia,by rw[e,f]⟩
  .exact absurd j (Xu x)
 .rintro⟨key,n,x,b,m,e⟩;obtain⟨i,hi⟩:=XD.mp ((g.2 key).mpr n);refine .inl ⟨i,key,(VE.mp hi).1,hi,x.toNat,by lia,?_⟩;rw[e,f,Yo b]
include B in
theorem mV(l:List Int)(N:∀a∈l,Sm 62 a):Body P w K mg base il "_law_by_sixteen" eX f kk [.val false l] (RT true (Kv l)):=by
 intro O A outer s H E y;refine ai 1 aX.nd (Oo (Ki (k:=(0,false)) (c:=true) (Cb y) (j8 (b':=true) (bJ af iV)) iV)) ?_;refine oQ (α:=Int) (as:=l) (fun i Γ=>∃o b d F D r u g e,Γ=[some (.val o l),some (.val b d),F,D,r,u,g,e]/\Pt (l.take i) d) (cu 2 aX.nd) (bt (ae 0)) ⟨_,_,Db.mk [((0,false),true)],none,none,none,none,none,none,rfl,WL.mpr ⟨by simp,YK⟩,fun k=>?_⟩ ?_ ?_
 .rw[ZP,Q.HI];show k∈[((0:Int),false)]↔_;exact V0
 .rintro i a Γ' ha ⟨o,b,v,F,D,r,u,g,e,rfl,I⟩;have R:=N a (Vv ha);refine qS 3 aX.nd (DT (β:=Bool)) ?_;refine HP (d:=v) (fun j Γ=>∃o q t d r u g e,Γ=[some (.val o l),some (.val q v),some (.val t a),some (.dpo d),r,u,g,e]/\Bt a v.ks j 0 d) (AA 4 5 aX.nd) (ae 1) ⟨_,_,_,Db.mk [],_,_,_,_,rfl,YK,fun k=>?_⟩ ?_ ?_
  .constructor
   .intro z;cases z
   .rintro(⟨i,_,h1,_⟩|⟨_,_,x,h1,_⟩)
    .exact absurd h1 (Xu i)
    .exact absurd h1 (Xu x)
  .rintro j key Γ' p ⟨o,q,t,d,r,u,g,e,rfl,h⟩;refine dQ (n:=4) (fun m Γ=>∃o q t G C d g e,Γ=[some (.val o l),some (.val q v),some (.val t a),some (.dpo d),some (.val G key.1),some (.val C key.2),g,e]/\Bt a v.ks j m d) rfl B.range (cu 6 aX.nd) af (by decide) (by decide) ⟨_,_,_,_,_,d,_,_,rfl,h⟩ ?_ ?_
   .rintro m Γ' L ⟨o,q,t,G,C,d,g,e,rfl,h⟩;have M:(m:Int)<4:=by have:m<4:=L;lia
    have J:=h.len;refine ai 7 aX.nd (aQ (bC (ae 4) (aC (aC (ae 2) (ae 6) (mulR (by lia) (by lia))) (ae 6) (mulR (by lia) (by lia)))) af (by decide)) ?_;refine HC 3 (k:=xm a key m) (c:=true) (Cb y) rfl (j8 (b':=true) (bJ (ae 7) (DM (ae 5) fun _=>(jG (fE ax (aQ (ae 6) af (by decide)) af))))) iV (by lia) ?_;exact aH ⟨_,_,_,_,_,_,_,_,rfl,h.put p⟩
   .rintro Γ' ⟨o,q,t,G,C,d,g,e,rfl,h⟩;exact aH ⟨_,_,_,d,_,_,_,_,rfl,h.next p⟩
  .rintro Γ' ⟨o,q,t,d,r,u,g,e,rfl,h⟩;refine KZ 3 rfl ?_;refine ai 1 aX.nd (ae 3) ?_;refine aH ⟨_,_,d,_,_,_,_,_,_,rfl,?_⟩;rw[W2,ha];rw[<-Db.Fg] at h;exact Bt.done I h
 .rintro Γ' ⟨o,b,d,F,D,r,u,g,e,rfl,h⟩;refine aq (fE (Gw (k:=(0,true)) (Cb y)) (j8 (b':=true) (bJ af iV)) (ae 1)) ?_;show Bd.val _ _=Bd.val _ _;rw[CK (l:=l) (by rw[Db.L_,h.2,WO,Q.Lj (by decide) (by decide)])]
def MA(l:List Int)(p:Int):Bool:=!Q.cz l p
structure Pd(l:List Int)(p:Int):Prop where
 len:1<=l.length/\l.length<=100
 nz:∀a∈l,a≠0/\Sm 62 a
 pl:p=0\/(aR p=true/\p<2^31)
def Hz(h2:2<=p)(nz:∀a∈l,a≠0/\Sm 62 a):∀a∈l.map (fun a=>vW a p),Sm 62 a:=fun a ha=>by
 obtain⟨b,c,rfl⟩:=VG.mp ha;obtain⟨_,_,_,_,h⟩:=Q.uF h2 (nz b c).1;exact Sm.of_le h (nz b c).2
abbrev Va(P w K mg base):=aI P w K mg base 1 "_law_by_sixteen" ["_law_row_here"] (cR K (fun(l:List Int)=>∀a∈l,Sm 62 a) true Kv)
include B in
theorem zo(J:aI P w K mg base 1 "_law_less" ["_law_number","_law_p"] (cw K (fun n p=>n≠0/\2<=p/\p<2^31) true vW))(x:aI P w K mg base 2 "_law_alone" ["_law_group","_law_p"] (cw K O7 true OT))(F:Va P w K mg base)(l:List Int)(p:Int)(h:Pd l p):Body P w K mg base gM "_law_bars" eY f 2 [.val false l,.val false p] (RT true (MA l p)):=by
 intro L A outer s H E r;obtain⟨⟨O,S⟩,nz,pl⟩:=h;have c:∀a∈l,a≠0:=fun a ha=>(nz a ha).1;refine aE (av ax (ae 1) af) (fun g=>?_) (fun g=>?_)
 .have k:p=0:=VH g;subst k;obtain⟨y,I⟩:=Q.yn l (by lia);obtain⟨b1,b2⟩:=Q.yN l (by lia);refine aq (DM (fE fB (Es rfl rfl B.min (ae 0) (by lia) y I) af) fun _=>(jG (fE gJ (DL rfl rfl B.max (ae 0) (by lia) b1 b2) af))) ?_;show Bd.val _ _=Bd.val _ _;congr 1;have R:=c _ y;have T:=c _ b1;unfold MA Q.cz;rw[Vo rfl,Bool.not_and];congr 1
  .rw[Wy];simp;lia
  .rw[Wy];simp;lia
 have G:¬p=0:=V4 g;obtain⟨hp,d⟩:=pl.resolve_left G;have p2:=Q.ao hp;refine vq 2 gT.nd (b':=true) (f:=fun a:Int=>vW a p) ["_law_number"] [1] (cj (ag eY) gM rfl rfl (by decide +kernel)) (bt (ae 0)) (bE 0) (fun C s H fp=>dt 0 ["_law_number","_law_p"]) bg (fun i a ha C s H fp=>az J (r.mono (by decide)) rfl (ae 0) (ae 1) ⟨c a (Vv ha),p2,d⟩) (by lia) ?_;have o:=Hz p2 nz;have j:=Q.GC p2 c;have u:=Q.Iy hp c;have v:(l.map fun a=>vW a p).length=l.length:=Vx ..;unfold MA;rw[<-u];generalize (l.map fun a=>vW a p)=m at *;refine aE (av ax (ae 1) af) (fun g=>?_) (fun g=>?_)
 .have k:p=2:=VH g;subst k;refine aq (aF F (r.mono (by decide)) rfl (ae 2) o) ?_;show Bd.val _ _=Bd.val _ _;congr 1;exact(CK (Q.Mf (fun a ha=>fun z=>j a ha (VL z)) (by lia)).symm).symm
 have h2:p≠2:=V4 g;have q:∀a:Int,(!decide (a.fmod p=0))=!fj p a:=fun a=>by unfold fj;rw[bh (by lia)]
 refine qf (f:=fun a:Int=>a) (p:=fun a=>!fj p a) (b':=true) 3 gT.nd ["_law_number"] [1] (cj (ag eY) gM rfl rfl (by decide +kernel)) (bt (ae 2)) (bE 0) (fun C s H fp=>dt 0 ["_law_number","_law_p"]) bg (fun i a hi C s H fp=>by rw[<-q];exact vp (av fU (aQ (ae 0) (ae 1) (by lia)) af)) (fun i a hi _ C s H fp=>j8 (b':=true) (ae 0)) (by lia) ?_
 refine qf (f:=fun a:Int=>a/p) (p:=fun a=>fj p a) (b':=true) 4 gT.nd ["_law_number"] [1] (cj (ag eY) gM rfl rfl (by decide +kernel)) (bt (ae 2)) (bE 0) (fun C s H fp=>dt 0 ["_law_number","_law_p"]) bg (fun i a hi C s H fp=>by
   have e:fj p a=decide (a.fmod p=0):=by unfold fj;rw[bh (by lia)]
   rw[e]
   exact vp (av ax (aQ (ae 0) (ae 1) (by lia)) af)) (fun i a hi _ C s H fp=>eR (aZ (ae 0) (ae 1) (Sm.div (n:=40) (by unfold Sm;lia) (by lia))) (Wd _ (by lia))) (by lia) ?_
 rw[List.map_id'];have M:(m.filter fun a=>!fj p a)=oW p m:=rfl;have ev:(m.filter fun a=>fj p a).map (fun a=>a/p)=pS p m:=rfl;rw[M,ev,Q.K3 hp h2 j (by lia)];have N:∀a∈oW p m,Sm 62 a:=fun a ha=>o a (Wx.mp ha).1
 have D:∀a∈pS p m,Sm 62 a:=fun a ha=>by
  obtain⟨b,t,rfl⟩:=VG.mp ha;obtain⟨t,_⟩:=Wx.mp t;refine Sm.of_le ?_ (o b t);exact Int.natAbs_ediv_le_natAbs b p
 refine aq (oZ (az x (r.mono (by decide)) rfl (ae 3) (ae 1) ⟨hp,h2,d,Q.Ag,N⟩) fun _=>(jG (az x (r.mono (by decide)) rfl (ae 4) (ae 1) ⟨hp,h2,d,Q.A2 j,D⟩))) ?_;show Bd.val _ _=Bd.val _ _;congr 1;unfold OT;rw[Bool.not_or]
open Q (dk)
def t_(c:Int):Nat->Int×Int
 |0=>(1-2*c.fmod 2,c.fdiv 2)
 |i+1=>((if (t_ c i).2.fmod 2=1 then (t_ c i).1*SP.getD i 1 else (t_ c i).1),(t_ c i).2.fdiv 2)
def Lf(c:Int):Int:=(t_ c 6).1
include B in
theorem wL(c:Int):Body P w K mg base oR "_law_small" j9 f kk [.val false c] (RT true (Lf c)):=by
 intro j A outer s H E k;refine ai 1 dg.nd (eU af (aC af (aQ (ae 0) af (by decide)) (mulL (by decide) (by decide)))) ?_;refine ai 2 dg.nd (aZ (ae 0) af uR) ?_;refine nE (xs:=SP) (b:=true) (fun i Γ=>∃d,Γ=[some (.val false c),some (.val true (t_ c i).1),some (.val true (t_ c i).2),d]) (cu 3 dg.nd) (fI (aJ af (aJ af (aJ af (aJ af (aJ af (aJ af ck)))))) (W8 rfl)) ⟨none,rfl⟩ ?_ ?_
 .rintro i a Γ' ha ⟨d,rfl⟩;have hi:i<6:=(VE.mp ha).1;have h:SP.getD i 1=a:=by rw[VD,ha];rfl
  have l:=F8 a (Vv ha);have e:t_ c (i+1)=((if (t_ c i).2.fmod 2=1 then (t_ c i).1*a else (t_ c i).1),(t_ c i).2.fdiv 2):=by rw[<-h];rfl
  rw[e];refine lK (fun Γ=>Γ=[some (.val false c),some (.val true (if (t_ c i).2.fmod 2=1 then (t_ c i).1*a else (t_ c i).1)),some (.val true (t_ c i).2),some (.val true a)]) (av ax (aQ (ae 2) af (by decide)) af) (fun g=>?_) (fun g=>?_) ?_
  .rw[Vo (by simpa using g)];refine ai 1 dg.nd (aC (ae 1) (ae 3) (mulR (by lia) (by lia))) ?_;exact aH rfl
  .rw[Vm (by simpa using g)];exact aH rfl
  .rintro Γ' rfl;refine ai 2 dg.nd (aZ (ae 2) af uR) ?_;exact aH ⟨_,rfl⟩
 .rintro Γ' ⟨d,rfl⟩;exact aq (ae 1) rfl
def Bh(c:Int):Int:=if (c.fdiv 128).fmod 4=0 then 1+(c.fdiv 512).fmod 12 else 1
def nh(c:Int):Nat->List Int×Int
 |0=>([],c)
 |i+1=>((nh c i).1++[Lf (nh c i).2*Bh (nh c i).2*Bh (nh c i).2],(nh c i).2.fdiv 6144)
def Gi(c n:Int):List Int:=(nh c n.toNat).1
def F2(c:Int):1<=Bh c/\Bh c<=12:=by
 have z:=dy (a:=c.fdiv 512) (b:=12) (by decide);unfold Bh;split<;>lia
theorem vT(c:Int):∀i:Nat,(nh c i).1.length=i
 |0=>rfl
 |i+1=>by simp[nh,vT c i]
include B in
theorem Cd(k:aI P w K mg base 1 "_law_small" ["_law_cell"] (cR K (fun(_:Int)=>True) true Lf))(c n:Int)(o:0<=n)(q:n<=8):Body P w K mg base tL "_law_row" nN f 1 [.val false c,.val false n] (RT true (Gi c n)):=by
 intro l A outer s H E j;refine Jb 2 Int dP.nd ?_;refine ai 3 dP.nd (ae 0) ?_;refine dQ (n:=n) (fun i Γ=>∃b d h,Γ=[some (.val false c),some (.val false n),some (.own true (nh c i).1),some (.val b (nh c i).2),d,h]) rfl B.range (cu 4 dP.nd) (ae 1) (by lia) (by lia) ⟨_,none,none,rfl⟩ ?_ ?_
 .rintro i Γ' hi ⟨b,d,h,rfl⟩;have m:=vT c i;obtain⟨r,p⟩:=F2 (nh c i).2;refine ai 5 dP.nd af ?_;refine lK (fun Γ=>Γ=[some (.val false c),some (.val false n),some (.own true (nh c i).1),some (.val b (nh c i).2),some (.val true (i:Int)),some (.val true (Bh (nh c i).2))]) (av ax (aQ (aZ (ae 3) af uR) af (by decide)) af) (fun g=>?_) (fun g=>?_) ?_
  .have e:Bh (nh c i).2=1+((nh c i).2.fdiv 512).fmod 12:=Vo (by simpa using g);rw[e];refine ai 5 dP.nd (bC af (aQ (aZ (ae 3) af uR) af (by decide))) ?_;exact aH rfl
  .have e:Bh (nh c i).2=1:=Vm (by simpa using g);rw[e];exact aH rfl
  .rintro Γ' rfl;refine mr 2 (a:=Lf (nh c i).2*Bh (nh c i).2*Bh (nh c i).2) rfl (aC (aC (aF k (j.mono (by decide)) rfl (ae 3) True.intro) (ae 5) (mulR (by lia) (by lia))) (ae 5) (mulR (by lia) (by lia))) (by lia) ?_;refine ai 3 dP.nd (aZ (ae 3) af uR) ?_;exact aH ⟨_,_,_,rfl⟩
 .rintro Γ' ⟨b,d,h,rfl⟩;refine dn 2 rfl ?_;exact aq (ae 2) rfl
theorem Ay(c:Int):∀i,(t_ c i).1∈dk i
 |0=>by
  have z:=dy (a:=c) (b:=2) (by decide);have:c.fmod 2=0\/c.fmod 2=1:=by lia
  show(1-2*c.fmod 2)∈[(1:Int),-1];rcases this with e|e<;>rw[e]<;>decide
 |i+1=>by
  have d:=Ay c i;show(if (t_ c i).2.fmod 2=1 then (t_ c i).1*SP.getD i 1 else (t_ c i).1)∈dk i++(dk i).map fun k=>k*Q.Q6.getD i 1;split
  .exact VU _ (VG.mpr ⟨_,d,rfl⟩)
  .exact WU _ d
def Ie(c:Int):Lf c∈dk 6:=Ay c 6
def PX:∀q∈List.range 13,Q.aR (q:Int)=true->(q:Int)∈Q.Q6:=by
 have key:∀q∈List.range 13,¬((q:Int)∈Q.Q6)->q<2\/∃d∈List.range 13,2<=d/\d<q/\q%d=0:=by decide
 intro q b hp;by_cases h:(q:Int)∈Q.Q6
 .exact h
 .exfalso;have f:=Q.ao hp;rcases key q b h with z|⟨d,_,g,e,c⟩
  .lia
  .have a:(d:Int)∣(q:Int):=aaA.mpr (Nat.dvd_of_mod_eq_zero c);rcases Q.fk hp (by lia) a with z|z<;>lia
def F7(h1:1<=r)(h2:r<=12):Q.mU Q.Q6 r:=⟨by lia,fun q a b=>by
 have:=VN (by lia) b;have c:=Q.ao a;have:=PX q.toNat (Wz.mpr (by lia)) (by rw[Yo (by lia)];exact a);rw[Yo (by lia)] at this
 exact this⟩
def QQ(x:Int):Prop:=yc x/\x.natAbs<=4324320
theorem uC(c:Int):∀i:Nat,∀x∈(nh c i).1,QQ x
 |0,x,h=>by cases h
 |i+1,x,a=>by
  rcases Wk.mp a with a|a
  .exact uC c i x a
  .rw[V0.mp a];obtain⟨b,d⟩:=F2 (nh c i).2;have e:=Ie (nh c i).2;have l:=Q.g7 e;have k:(Bh (nh c i).2).natAbs<=12:=by lia
   have bd:(Lf (nh c i).2*Bh (nh c i).2*Bh (nh c i).2).natAbs<=4324320:=by
    rw[VT,VT];have:=YL (YL l k) k;lia
   exact⟨⟨by lia,Q.iS (Q.iS (Q.qZ e) (F7 b d)) (F7 b d)⟩,bd⟩
def yc.neg(h:yc x):yc (0-x):=by
 rw[Int.zero_sub];exact⟨by have:=h.1;lia,Q.vt h.2⟩
open Q (dk)
def Hb(n:Int):Bool:=decide (n.natAbs<1073741824)&&decide (lf SP (n.natAbs:Int)=1)
include B in
theorem qw(n:Int)(y:n≠0):Body P w K mg base jx "_law_is_small" gF f kk [.val false n] (RT true (Hb n)):=by
 intro v A outer s H E C;refine ai 1 dH.nd (eR (gR rfl B.abs (ae 0)) (o9 n)) ?_;refine aE (av CT (ae 1) af) (fun c=>?_) (fun c=>?_)
 .have a:(1073741824:Int)<=n.natAbs:=VH c;have e:Hb n=false:=by unfold Hb;rw[VW (by lia)];rfl
  rw[e];exact aq iV rfl
 have a:¬(1073741824:Int)<=n.natAbs:=V4 c;refine nE (xs:=SP) (b:=true) (fun i Γ=>∃d,Γ=[some (.val false n),some (.val true (lf (SP.take i) (n.natAbs:Int))),d]/\i<=6) (cu 2 dH.nd) (fI (aJ af (aJ af (aJ af (aJ af (aJ af (aJ af ck)))))) (W8 rfl)) ⟨none,rfl,Wn _⟩ ?_ ?_
 .rintro i p Γ' hp ⟨d,rfl,_⟩;have hi:i<6:=(VE.mp hp).1;have D:SP.getD i 1=p:=by rw[VD,hp];rfl
  obtain⟨p2,F⟩:=F8 p (Vv hp);have j:lf (SP.take i) (n.natAbs:Int)≠0:=by have:=(nt (SP.take i) (n.natAbs:Int) (fun p hp=>xp p (YS hp)) (by lia)).1;lia
  have e1:lf (SP.take (i+1)) (n.natAbs:Int)=(Q.aV (lf (SP.take i) (n.natAbs:Int)) p).2:=AW hp;rw[e1];generalize lf (SP.take i) (n.natAbs:Int)=x at *;refine cb (ι:=Int×Int) (fun u Γ=>Γ=[some (.val false n),some (.val true u.2),some (.val true p)]/\0<=u.1/\x=u.2*p^u.1.toNat/\u.2≠0) (fun u=>u.2.natAbs) (0,x) ⟨rfl,Wo 0,by show x=x*p^(0:Int).toNat;rw[show(0:Int).toNat=0 from rfl,V8,VX],j⟩ ?_;rintro⟨m,l⟩ Γ' ⟨rfl,g,he,q⟩;dsimp only at *;refine⟨_,av ax (aQ (ae 1) (ae 2) (by lia)) af,fun c=>?_,fun c=>?_⟩
  .have a:l.fmod p=0:=VH c;obtain⟨o,k,h,t⟩:=EJ g he p2 a q;refine ai 1 dH.nd (aZ (ae 1) (ae 2) (Sm.div (n:=10) (by unfold Sm;lia) (by lia))) ?_;exact aH ⟨(m+1,l.fdiv p),⟨rfl,o,k,h⟩,t⟩
  .have a:¬l.fmod p=0:=V4 c;refine aH ⟨some (.val true p),?_,hi⟩;rw[Q.jF p2 (r:=(m,l)) ⟨g,he,fun z=>a (Q.gu.mpr z)⟩]
 .rintro Γ' ⟨d,rfl,_⟩;have e:Hb n=decide (lf SP (n.natAbs:Int)=1):=by unfold Hb;rw[V3 (by lia),YU]
  rw[e];exact aq (fE ax (ae 1) af) rfl
theorem JD{q:Int}(a:Q.aR q=true):∀(ps:List Int) (x:Int),(∀p∈ps,Q.aR p=true)->x≠0->q∣x->q∈ps\/q∣lf ps x
 |[],x,_,_,h=>.inr h
 |p::ps,x,hp,b,h=>by
  have pp:=hp p (VC ..);have p2:=Q.ao pp;obtain⟨_,g,_⟩:=Q.eB p2 b;by_cases e:q=p
  .exact .inl (by rw[e];exact VC ..)
  have c:q∣(Q.aV x p).2:=by
   rw[g] at h;rcases Q.euclid a h with z|z
   .exact z
   .exfalso
    have key:∀n:Nat,q∣p^n->q=p:=fun n=>by
     induction n with
     |zero=>intro z;rw[V8] at z;have:=VN (by decide) z;have:=Q.ao a;lia
     |succ n d =>
      intro z;rw[VS] at z;rcases Q.euclid a z with z|z
      .exact d z
      .exact Q.bH a pp z
    exact e (key _ z)
  rcases JD a ps _ (fun r f=>hp r (Vw _ f)) (CS p2 b) c with z|z
  .exact .inl (Vw _ z)
  .exact .inr z
def J0{n:Int}(c:n≠0)(h:Hb n=true):yc n:=by
 unfold Hb at h;obtain⟨h1,h2⟩:=WI.mp h;refine⟨VH h1,c,fun q a b=>?_⟩;rcases JD a SP (n.natAbs:Int) vh (by lia) (Xf.mpr b) with z|z
 .exact z
 .rw[VH h2] at z;have:=VN (by decide) z;have:=Q.ao a;lia
def Bz(n:Int)(r:List Int):Prop:=r.length=n.toNat/\∀x∈r,yc x
def OH(c:Int){n:Int}:Bz n (Gi c n):=⟨vT _ _,fun x a=>(uC _ _ x a).1⟩
theorem Bz.set{n:Int}{r:List Int}{i:Nat}{x:Int}(h:Bz n r)(a:yc x):Bz n (r.set i x):=⟨by rw[WM];exact h.1,fun y b=>by
 rcases List.mem_or_eq_of_mem_set b with z|z
 .exact h.2 y z
 .rw[z];exact a⟩
abbrev Vc(P w K mg base):=aI P w K mg base 1 "_law_is_small" ["_law_number"] (cR K (fun n=>n≠0) true Hb)
abbrev Vb(P w K mg base):=aI P w K mg base 2 "_law_row" ["_law_cell","_law_size"] (cw K (fun(_ n:Int)=>0<=n/\n<=8) true Gi)
include B in
theorem vB(u:Vb P w K mg base)(m:Vc P w K mg base)(cell other n:Int)(h1:1<=n)(o:n<=8):Body P w K mg base l5 "_law_solved" iM f 2 [.val false cell,.val false other,.val false n] (wX true (Bz n)):=by
 intro y A outer s H E j;refine qS 3 b9.nd (wI u (j.mono (by decide)) rfl (ae 0) (ae 2) ⟨by lia,o⟩) ?_;refine A7 3 true rfl ?_;have g:=OH cell (n:=n);have r:∀x∈Gi cell n,x.natAbs<=4324320:=fun x p=>(uC _ _ x p).2;have q:(Gi cell n).length=n.toNat:=g.1;generalize Gi cell n=row at *;have z:=dy (a:=other) (b:=n) (by lia);refine ai 4 b9.nd (aQ (ae 1) (ae 2) (by lia)) ?_;generalize other.fmod n=pl at *;refine ai 5 b9.nd af ?_;refine dQ (n:=n) (fun i Γ=>∃t h e,Γ=[some (.val false cell),some (.val false other),some (.val false n),some (.own true row),some (.val true pl),some (.val true (t:Int)),h,e]) rfl B.range (cu 6 b9.nd) (ae 2) (by lia) (by lia) ⟨_,none,none,rfl⟩ ?_ ?_
 .rintro i Γ' hi ⟨t,h,e,rfl⟩;have v:i<row.length:=by rw[q];lia
  have ha:=rL (d:=0) (xs:=row) (k:=(i:Int)) (by lia) (by lia);have C:=r _ (Q.getD_mem (d:=0) (l:=row) (i:=(i:Int).toNat) (by lia));refine aE (av fU (ae 6) (ae 4)) (fun _=>?_) (fun _=>aH ⟨_,_,_,rfl⟩);have F:=dy (a:=(other.fdiv 8).fdiv (5+(i:Int))) (b:=4) (by decide);refine ai 7 b9.nd (aQ (aZ (aZ (ae 1) af uR) (bC af (ae 6)) (Sm.div (n:=20) (by unfold Sm;lia) (by lia))) af (by decide)) ?_;refine ai 5 b9.nd (bC (ae 5) (aC (aC (JO 3 rfl (ae 6) ha) (ae 7) (mulR (by lia) (by lia))) (ae 7) (mulR (by lia) (by lia)))) ?_;exact aH (aH ⟨_,_,_,rfl⟩)
 .rintro Γ' ⟨t,h,e,rfl⟩;refine aE (TW.t (nF (av fU (ae 5) af) fun c=>(kf (fY (aF m (j.mono (by decide)) rfl (eU af (ae 5)) ?_))))) (fun c=>?_) (fun _=>?_)
  .have:¬t=0:=by simpa using c
   lia
  .obtain⟨c1,c2⟩:=WI.mp c;have D:¬t=0:=by simpa using c1
   refine Dg 3 rfl (ae 4) (eU af (ae 5)) (by lia) (by lia) (aH ?_);refine dn 3 rfl ?_;exact aq (ae 3) ⟨_,g.set (J0 (by lia) c2),rfl⟩
  .refine dn 3 rfl ?_;exact aq (ae 3) ⟨_,g,rfl⟩
abbrev Vd(P w K mg base):=aI P w K mg base 3 "_law_solved" ["_law_cell","_law_other","_law_size"] (Cn K (fun(_ _ n:Int)=>1<=n/\n<=8) true (fun _ _ n r=>Bz n r))
include B in
theorem xC(L:Vb P w K mg base)(I:Vd P w K mg base)(cell other n:Int)(h1:1<=n)(t:n<=8):Body P w K mg base jZ "_law_drawn" gZ f 3 [.val false cell,.val false other,.val false n] (wX true (Bz n)):=by
 intro M A outer s H E q;refine qS 3 d7.nd (wI L (q.mono (by decide)) rfl (aZ (ae 0) af uR) (ae 2) ⟨by lia,t⟩) ?_;refine A7 3 true rfl ?_;have h:=OH (cell.fdiv 4) (n:=n);have G:(Gi (cell.fdiv 4) n).length=n.toNat:=h.1;generalize Gi (cell.fdiv 4) n=row at *;refine aE (av ax (aQ (ae 0) af (by decide)) af) (fun c=>?_) (fun _=>?_)
 .have u:cell.fmod 4=0:=VH c;refine dn 3 rfl ?_;refine g_ 3 d7.nd (v7 I (q.mono (by decide)) rfl (aZ (ae 0) af uR) (ae 1) (ae 2) ⟨h1,t⟩) fun r o=>aH ?_;refine aE (av ax (aQ (ae 0) af (by decide)) af) (fun c=>absurd (VH c) (by lia)) (fun _=>?_);refine aE (av ax (aQ (ae 0) af (by decide)) af) (fun c=>absurd (VH c) (by lia)) (fun _=>?_);exact aq (ae 3) ⟨_,o,rfl⟩
 .refine aE (av ax (aQ (ae 0) af (by decide)) af) (fun c=>?_) (fun _=>?_)
  .have u:cell.fmod 4=1:=VH c;have v:=dy (a:=cell.fdiv 4) (b:=2) (by decide);refine ai 4 d7.nd (eU af (aC af (aQ (aZ (ae 0) af uR) af (by decide)) (mulL (by decide) (by decide)))) ?_;have j:1-2*(cell.fdiv 4).fmod 2=1\/1-2*(cell.fdiv 4).fmod 2=-1:=by lia
   generalize 1-2*(cell.fdiv 4).fmod 2=g at *;refine dn 3 rfl ?_;refine vq 3 d7.nd (b':=true) (f:=fun x:Int=>g*(x.natAbs:Int)) ["_law_number"] [4] (cj (ag gZ) jZ rfl rfl (by decide +kernel)) (bt (ae 3)) (bE 0) (fun C s H fp=>dt 0 ["_law_number","_law_sign"]) bg (fun i a ha C s H fp=>aC (ae 1) (eR (gR rfl B.abs (ae 0)) (o9 a)) (mulL (by lia) (by lia))) (by lia) (aH ?_);refine aE (av ax (aQ (ae 0) af (by decide)) af) (fun c=>absurd (VH c) (by lia)) (fun _=>?_);refine aq (ae 3) ⟨_,⟨by rw[Vx];exact G,fun x F=>?_⟩,rfl⟩;obtain⟨y,J,rfl⟩:=VG.mp F;have m:=h.2 y J;have p:=m.neg;rw[Int.zero_sub] at p;rcases aa4 0 y with z|z
   .rcases j with g|g<;>subst g
    .rw[Wq,Int.natAbs_of_nonneg z];exact m
    .rw[Int.neg_one_mul,Int.natAbs_of_nonneg z];exact p
   .have e:(y.natAbs:Int)=-y:=by lia
    rw[e];rcases j with g|g<;>subst g
    .rw[Wq];exact p
    .rw[Int.neg_one_mul,Int.neg_neg];exact m
  .refine aE (av ax (aQ (ae 0) af (by decide)) af) (fun _=>?_) (fun _=>?_)
   .have N:=dy (a:=other) (b:=n) (by lia);have v:=dy (a:=other+1) (b:=n) (by lia);have ha:=rL (d:=0) (xs:=row) (k:=(other+1).fmod n) (by lia) (by lia);have D:row.getD ((other+1).fmod n).toNat 0∈row:=Q.getD_mem (d:=0) (l:=row) (i:=((other+1).fmod n).toNat) (by lia);refine Dg 3 rfl (aQ (ae 1) (ae 2) (by lia)) (eU af (JO 3 rfl (aQ (bC (ae 1) af) (ae 2) (by lia)) ha)) (by lia) (by lia) (aH ?_);refine dn 3 rfl ?_;exact aq (ae 3) ⟨_,h.set (h.2 _ D).neg,rfl⟩
   .refine dn 3 rfl ?_;exact aq (ae 3) ⟨_,h,rfl⟩
def Le(h2:2<=d)(f:d∣x)(b:d*d<=x):Q.aR x=false:=by
 cases hp:Q.aR x with
 |false=>rfl
 |true =>
  have g:2*2<=d*d:=We h2 h2 (by decide) (by lia);rcases Q.bT.mp hp with z|⟨_,h,z⟩
  .lia
  .obtain⟨c,a⟩:=f
   have od:d%2=1:=by
    rcases Xj d with e|e
    .obtain⟨i,he⟩:=VL e;rw[he,VZ] at a;lia
    .exact e
   exact absurd ⟨c,a⟩ (z d (by lia) b od)
def Iq(h2:2<=x)(f:x<d*d)(g:2<=d)(a:∀e:Int,2<=e->e<d->¬e∣x):Q.aR x=true:=by
 rw[Q.bT];by_cases e2:x=2
 .exact .inl e2
 .by_cases c:d=2
  .subst c;exact .inr ⟨by lia,by lia,fun e h1 h2 b=>by have:3*3<=e*e:=We h1 h1 (by decide) (by lia);lia⟩
  .refine .inr ⟨by lia,?_,fun e h1 h2 b=>a e (by lia) (Q.xa (by lia) (by lia) (by lia))⟩;have:=a 2 (by decide) (by lia);lia
def xS(x:Int)(l:x<2^62):Body P w K mg base oY "_law_prime" jY f kk [.val false x] (RT true (Q.aR x)):=by
 intro j A outer s H E k;refine aE (av gJ (ae 0) af) (fun a=>?_) (fun a=>?_)
 .have b:x<2:=VH a
  have e:Q.aR x=false:=by
   cases hp:Q.aR x with
   |false=>rfl
   |true=>have:=Q.ao hp;lia
  rw[e];exact aq iV rfl
 have h2:¬x<2:=V4 a;refine ai 1 iL.nd af ?_;refine cb (ι:=Int) (fun d Γ=>Γ=[some (.val false x),some (.val true d)]/\2<=d/\d<=x+1/\∀e:Int,2<=e->e<d->¬e∣x) (fun d=>(x+3-d).toNat) 2 ⟨rfl,by decide,by lia,fun e h1 h2=>by lia⟩ ?_;rintro d Γ' ⟨rfl,c,dx,g⟩;refine⟨_,av CC (aC (ae 1) (ae 1) (mulL (by lia) (by lia))) (ae 0),fun a=>?_,fun a=>?_⟩
 .have b:d*d<=x:=VH a
  have i:d<=x:=by
   have:2*d<=d*d:=We c (Wo d) (by lia) (by lia);lia
  refine aE (av ax (aQ (ae 0) (ae 1) (by lia)) af) (fun a=>?_) (fun a=>?_)
  .rw[Le c (Q.gu.mp (VH a)) b];exact aq iV rfl
  .have h:¬d∣x:=fun z=>absurd (Q.gu.mpr z) (V4 a);refine ai 1 iL.nd (bC (ae 1) af) ?_;refine aH ⟨d+1,⟨rfl,by lia,by lia,fun e h1 h2=>?_⟩,by lia⟩;by_cases z:e=d
   .rw[z];exact h
   .exact g e h1 (by lia)
 .have b:¬d*d<=x:=V4 a;rw[Iq (by lia) (by lia) c g];exact aq iV rfl
include B in
theorem x4(b:aI P w K mg base 1 "_law_prime" ["_law_k"] (cR K (fun k=>k<2^62) true Q.aR))(p:Int)(h1:p<2^62)(h:p=0\/Q.aR p=true):Body P w K mg base oJ "_law_place" jJ f 1 [.val false p] (RT true true):=by
 intro a A outer s H E c;refine aq (oZ (yT (i:=p) rfl B.isinstance rfl B.int (ae 0)) fun _=>(oZ (Dj (yx (i:=p) rfl B.isinstance rfl B.bool (ae 0))) fun _=>(jG (DM (fE ax (ae 0) af) fun _=>(jG (aF b (c.mono (by decide)) rfl (ae 0) h1)))))) ?_;show Bd.val _ _=Bd.val _ _;congr 1;rcases h with rfl|h
 .rfl
 .rw[h];simp
def Lm(c:b_ l=true)(e:3<=l.length)(h:Q.Ct l (some p)):p=0\/(Q.aR p=true/\p<2^31):=by
 obtain⟨h1,h2⟩:=h;rcases h2 with h2|⟨hp,_,_⟩
 .exact .inl h2
 .refine .inr ⟨hp,?_⟩;apply Vr;intro f
  have:Q.cz l p=true:=Q.x3 hp (by lia) e fun a ha d=>by
   have:=de c ha;have:=VN (b:=(a.natAbs:Int)) (by lia) (Xf.mpr d);lia
  rw[this] at h1;cases h1
theorem Ji(l z:List Int):∀n:Nat,zt l z n=zQ l z n
 |0=>rfl
 |n+1=>by
  show zt l z n+l.getD n 0*z.getD n 0*z.getD n 0=zQ l z n+l.getD n 0*(z.getD n 0*z.getD n 0);rw[Ji l z n,VZ]
theorem FY(z:List Int):∀n:Nat,n<=z.length->zp z n=jv (z.take n)
 |0,_=>rfl
 |n+1,h=>by
  have e:z[n]?=some (z.getD n 0):=by rw[VD,Vz (by lia)];rfl
  rw[xg e,<-FY z n (by lia)];rfl
def ZW.is(h:ZW l z):M5 l z=true:=by
 unfold M5;have a:=h.len;rw[Ji,h.eq,<-a,FY z _ (Vu _),WO,h.one];rfl
abbrev Vg(P w K mg base):=aI P w K mg base 2 "_law_place" ["_law_p"] (cR K (fun p=>p<2^62/\(p=0\/Q.aR p=true)) true (fun _=>true))
abbrev Vf(P w K mg base):=aI P w K mg base 2 "_law_is_zero" ["_law_row_here","_law_zero"] (cw K Pb true M5)
abbrev Ve(P w K mg base):=aI P w K mg base 142 "zero_of" ["row"] (k6 K (fun l=>b_ l=true/\Ms GY l) true ZO)
include B in
theorem yZ(m:Ve P w K mg base)(n:UZ P w K mg base)(q:Vf P w K mg base)(o:Vg P w K mg base)(t:aI P w K mg base 3 "_law_bars" ["_law_row_here","_law_p"] (cw K Pd true MA))(row:List Int)(hp:Bz 4 row):Body P w K mg base rG "_law_held" lD f 142 [.val false row] (RT true true):=by
 intro u A outer s H E b;have y:row.length=4:=hp.1;obtain⟨d,hz⟩:=D3 y hp.2;refine ai 1 gW.nd (Ht rfl B.list (ae 0)) ?_;refine g_ 2 gW.nd (gq m (b.mono (by decide)) rfl (ae 1) ⟨d,hz⟩) fun z i=>?_;refine aE (av (MU (α:=List Int) (Cb b)) (ae 1) (ae 0)) (fun c=>?_) (fun _=>?_)
 .simp at c
 rcases i with⟨r,rfl⟩|⟨_,zs,rfl,e⟩
 .refine aE (zH (α:=List Int) (x:=none) (ae 2) fun _ _ _ _=>Dd) (fun c=>nomatch c) (fun _=>?_);refine ai 3 gW.nd (aF n (b.mono (by decide)) rfl (ae 1) hz.fb) ?_;have ok:=Q.uZ row;cases l:Q.kD row with
  |none=>exact absurd l r
  |some p =>
   rw[l] at ok;have k:=Lm d (by lia) ok
   have j:p<2^62:=by
    rcases k with h|h
    .rw[h];decide
    .lia
   refine aq (oZ (aF o (b.mono (by decide)) rfl (eL (a:=p) (ae 3)) ⟨j,k.imp id And.left⟩) fun _=>(jG (az t (b.mono (by decide)) rfl (ae 0) (eL (a:=p) (ae 3)) ⟨by lia,zb d,k⟩))) ?_;show Bd.val _ _=Bd.val _ _;unfold MA;rw[ok.1];rfl
 .refine aE (zH (α:=List Int) (x:=some zs) (ae 2) fun _ _ _ _=>Dd) (fun _=>?_) (fun c=>nomatch c);refine aq (az q (b.mono (by decide)) rfl (ae 0) (eL (a:=zs) (ae 2)) ⟨e.len,by lia,fun v g=>((zb d v g).2).le (by decide),fun v g=>(e.sm v g).le (by decide)⟩) ?_;show Bd.val _ _=Bd.val _ _;rw[e.is]
def OA{n:Int}(a:n<=m)(h:i<(Builtin.Range.rangeSize 0 n 2).toNat):(0:Int)+(i:Int)*2<m:=by
 unfold Builtin.Range.rangeSize at h;simp at h;split at h<;>lia
abbrev Vk(P w K mg base):=aI P w K mg base 143 "_law_held" ["_law_row_here"] (cR K (fun(l:List Int)=>Bz 4 l) true (fun _=>true))
abbrev Vj(P w K mg base):=aI P w K mg base 4 "_law_drawn" ["_law_cell","_law_other","_law_size"] (Cn K (fun(_ _ n:Int)=>1<=n/\n<=8) true (fun _ _ n r=>Bz n r))
abbrev Vi(P w K mg base):=aI P w K mg base 1 "_law_big" ["_law_cell","_law_k"] (cw K (fun _ k=>0<=k/\k<=100) true M9)
abbrev Vh(P w K mg base):=aI P w K mg base 1 "_law_cell_at" ["_law_script","_law_k"] (cw K (fun _ k=>0<=k) true wc)
include B in
theorem OB(g:Vh P w K mg base)(e:Vi P w K mg base)(j:Vj P w K mg base)(l:Vk P w K mg base)(xs:List Int)(p:xs.length<=63):
  Body P w K mg base IZ "law" DI f 143 [.val false xs] (RT true true):=by
 intro o A outer s H E a;have h:(if (xs.length:Int)<2 then (xs.length:Int) else 2)<=2/\0<=(if (xs.length:Int)<2 then (xs.length:Int) else 2):=by split<;>lia
 refine oH (fun i Γ=>∃d b,Γ=[some (.val false xs),d,b]) rfl B.range (cu 1 yg.nd) af (bC (IQ rfl rfl B.min af (bD rfl B.len (ae 0))) af) af ⟨by decide,by decide,by lia,by lia⟩ (by decide) ⟨none,none,rfl⟩ ?_ ?_
 .rintro i Γ' hi ⟨d,b,rfl⟩;have n:=OA (m:=3) (by lia) hi;refine g_ 2 yg.nd (v7 j (a.mono (by decide)) rfl (az e (a.mono (by decide)) rfl (az g (a.mono (by decide)) rfl (ae 0) (ae 1) (by lia)) (ae 1) ⟨by lia,by lia⟩) (az e (a.mono (by decide)) rfl (az g (a.mono (by decide)) rfl (ae 0) (bC (ae 1) af) (by lia)) (bC (ae 1) af) ⟨by lia,by lia⟩) af ⟨by decide,by decide⟩) fun r c=>?_;refine aE (jM (fY (aF l (a.mono (by decide)) rfl (ae 2) c))) (fun k=>nomatch k) (fun _=>?_);exact aH ⟨_,_,rfl⟩
 .rintro Γ' ⟨d,b,rfl⟩;exact aq iV rfl
end
open PySem PySem.Spec PyProof.Rows
open Q (fr fd)
open Q (kF pz qR)
open Q (P7 lG cz dW Jc)
open Q (dk kD)
open Q (Fr O1 fZ D9 dk kD cz)
open Q (Fr dk kD cz)
open Q (aR vW lsN oW pS Mz fj)
open Q (dk)
open Q (dk)
def fin{e:Program}{w:World}{K:PySem.W.Frag}{h:Heap}{mg:Str->Option Value}{J:Addr}(X:K.In h)(G:h.Ns mainGlobals mg)(y:mg "law"=some (.ref J))(B:Bu mg)
  (Rv:xT mg "GREAT_PRIMES_FROM" 32768) (z:xT mg "GREAT_FROM" 1073741824) (R7:xT mg "LONGEST" 8) (o:vY K mg "SMALL_PLACES" [0,2,3,5,7,11,13]) (RN:vY K mg "AT_NOUGHT" [1,-1]) (Se:vY K mg "AT_TWO" [1,3,5,7,2,6,10,14]) (T8:Df K "is_whole" ll) (T9:Df K "power_by" lA) (TU:Df K "taken_out" jW) (Tw:Df K "square_root" hW) (Sw:Df K "square_root_or_none" cO) (S2:Df K "common_divisor" fe) (T_:Df K "fraction" gL) (Tr:Df K "next_divisor" gD) (Ua:Df K "is_prime" kX) (Ui:Df K "divided" ny) (Us:Df K "parts" ve) (TH:Df K "tame_parts" iQ) (Ut:Df K "power" vP) (Uu:Df K "freed" uD) (TV:Df K "square_by" jP) (Uj:Df K "back_by" nv) (SU:Df K "least_no_square" eG) (TX:Df K "squarings" jC) (S3:Df K "root_of_square" fc) (S_:Df K "root_by_prime" fT) (TJ:Df K "with_rests" iY) (Uk:Df K "root_by" mX) (T:Df K "class_at" iK) (Ub:Df K "two_says" kT) (Uc:Df K "odd_says" ly) (Ux:Df K "says" yH) (TY:Df K "primes_of" jz) (Tb:Df K "is_row_number" fR) (Uq:Df K "is_row" l6) (Tc:Df K "refuse_no_row" fK) (Ts:Df K "is_square_at" gN) (SV:Df K "three_have_zero" dZ) (S4:Df K "four_have_zero" eZ) (TZ:Df K "have_zero" jQ) (SW:Df K "without_divisor" cT) (Td:Df K "first_barring" dG) (Te:Df K "first_without" fS) (Tf:Df K "freed_product" fL) (Tz:Df K "from_lesser" hZ) (Tg:Df K "least_root_by" fQ) (Th:Df K "square_of_two" dF) (Ti:Df K "zero_of_three" fW) (TK:Df K "next_prime" i9) (SQ:Df K "class_of_product" dI) (SJ:Df K "small_free_numbers" bX) (TL:Df K "classes_of" gg) (S5:Df K "wishes_without" dh) (T1:Df K "are_among" j5) (Tt:Df K "number_among" d9) (TM:Df K "samples_at" ja) (S6:Df K "shared_classes" df) (Ul:Df K "meeting" j_) (N:Df K "zero_of_free" eA) (SX:Df K "zero_by_meeting" b7) (Uy:Df K "over" yu) (Tj:Df K "common_bottom" fV) (SY:Df K "over_one_bottom" cS) (TN:Df K "made_whole" i7) (Ud:Df K "is_small" lx) (Tn:Df K "zero_of_small" bU) (Tu:Df K "refuse_great" eF) (Um:Df K "zero_of" ng) (TB:Df K "_law_cell_at" g8) (Uo:Df K "_law_big" nD) (TQ:Df K "_law_common" iN) (TC:Df K "_law_is_zero" hX) (T2:Df K "_law_power" jD) (Ue:Df K "_law_less" lq) (T3:Df K "_law_alone" jI) (S7:Df K "_law_by_sixteen" eX) (Ug:Df K "_law_bars" eY) (T4:Df K "_law_small" j9) (Up:Df K "_law_row" nN) (Tv:Df K "_law_is_small" gF) (TR:Df K "_law_solved" iM) (T5:Df K "_law_drawn" gZ) (T6:Df K "_law_prime" jY) (T7:Df K "_law_place" jJ) (Uh:Df K "_law_held" lD) (Uz:Df K "law" DI):
  ∃fd:FuncData,(∀(s:Shared) (u:Value),BindsTo s fd ⟨[u],[]⟩ [("_law_script",u)])/\∀base:Heap,K.In base->base.Ns mainGlobals mg->ff e w K mg base oo 144 J fd ["_law_script"] (wO K):=by
 refine GO Uz X G y (fun _ _ _ _ _ _ s u=>.of_eq rfl) fun base _ _ f fd F=>?_;have SD:UO e w K mg base:=T8.c1 X G fun f fd F=>om F xw rfl fun a _=>zD B a;have L:UI e w K mg base:=T9.c3 X G fun f fd F=>IL F cy rfl fun a b c hp=>yO a b c hp.1 hp.2.1 hp.2.2;have i:UD e w K mg base:=TU.c2 X G fun f fd F=>lE F eQ rfl fun a b hp=>xv a b hp.1 hp.2.1 hp.2.2;have P:UA e w K mg base:=Tw.c1 X G fun f fd F=>om F gj rfl fun a hp=>sI a hp.1 hp.2;have V:UG e w K mg base:=Sw.c1 X G fun f fd F=>om F eI rfl fun a hp=>ju P a hp;have q:UB e w K mg base:=S2.c2 X G fun f fd F=>lE F cP rfl fun a c _=>nu B a c;have C:UH e w K mg base:=T_.c2 X G fun f fd F=>lE F jE rfl fun a c hp=>zc q a c hp.1 hp.2;have U:UC e w K mg base:=Tr.c3 X G fun f fd F=>IL F je rfl fun a b c hp=>rJ B P a b c hp;have SE:aI e w K mg base 3 "is_prime" ["k"] (cR K (fun k=>k<2^62) true Q.aR):=Ua.c1 X G fun f fd F=>om F xF rfl fun a hp=>yY U a hp;have Z:UE e w K mg base:=Ui.c2 X G fun f fd F=>lE F cZ rfl fun a c hp=>Bq i U a c hp;have A:UL e w K mg base:=Us.c1 X G fun f fd F=>om F qO rfl fun a hp=>HS Z a hp;have R_:aI e w K mg base 4 "tame_parts" ["k"] (cR K (fun k=>1<=k/\Sm 900 k) true LF):=TH.c1 X G fun f fd F=>om F g6 rfl fun a hp=>u6 Rv z Z V a hp;have Tp:aI e w K mg base 1 "power" ["base","exponent"] (cw K Qt true OU):=Ut.c2 X G fun f fd F=>lE F mz rfl fun a c hp=>H_ B a c hp;have RE:UX e w K mg base:=Uu.c1 X G fun f fd F=>om F gB rfl fun a hp=>GX B Tp C R_ a hp;have g:UJ e w K mg base:=TV.c2 X G fun f fd F=>lE F l8 rfl fun a b hp=>xt L a b hp.1 hp.2;have SK:aI e w K mg base 1 "back_by" ["k","m"] (cw K QM true Q.tD):=Uj.c2 X G fun f fd F=>lE F bG rfl fun a c hp=>BK a c hp.1 hp.2.1 hp.2.2;have H:UK e w K mg base:=SU.c1 X G fun f fd F=>om F dN rfl fun a hp=>lT g a hp.1 hp.2;have Sl:aI e w K mg base 1 "squarings" ["k","p"] (cw K Pp true Q.iU):=TX.c2 X G fun f fd F=>lE F gf rfl fun a c hp=>xU a c hp;have RP:aI e w K mg base 4 "root_of_square" ["k","p"] (cw K Qp true Q.Gj):=S3.c2 X G fun f fd F=>lE F aG rfl fun a c hp=>mY B i L H Sl a c hp;have RY:aI e w K mg base 5 "root_by_prime" ["k","p"] (cw K PV true Q.uH):=S_.c2 X G fun f fd F=>lE F iD rfl fun a c hp=>pg g RP a c hp;have Sa:aI e w K mg base 2 "with_rests" ["one","m","other","p"] (Gk K PU true Q.x9):=TJ.c4 X G fun f fd F=>Qq F sL rfl fun a b c d hp=>uE SK a b c d hp;have SM:aI e w K mg base 6 "root_by" ["k","m"] (cw K (fun _ m=>1<=m/\m<2^60) true Q.Dv):=Uk.c2 X G fun f fd F=>lE F dM rfl fun a c hp=>BG A RY Sa a c hp.1 hp.2;have R:UM e w K mg base:=T.c2 X G fun f fd F=>lE F dS rfl fun a b hp=>za i g a b hp.1 hp.2.1 hp.2.2;have r:U0 e w K mg base:=T.c2 X G fun f fd F=>lE F dS rfl fun a b hp=>xr i g a b hp.1 hp.2;have Sz:aI e w K mg base 1 "two_says" ["one","other"] (cw K (fun _ _=>True) true Q.eT):=Ub.c2 X G fun f fd F=>lE F fD rfl fun a b _=>yS a b;have SA:UN e w K mg base:=Uc.c3 X G fun f fd F=>IL F fJ rfl fun a b c hp=>zg g a b c hp;have TF:UR e w K mg base:=Ux.c3 X G fun f fd F=>IL F vz rfl fun a b c hp=>LG R Sz SA a b c hp.1 hp.2.1 hp.2.2;have D:UU e w K mg base:=TY.c1 X G fun f fd F=>om F gb rfl fun ns hp=>xJ B A ns hp;have Rx:UP e w K mg base:=Tb.c1 X G fun f fd F=>om F ni rfl fun a _=>o6 B z SD a;have S0:UQ e w K mg base:=Uq.c1 X G fun f fd F=>om F Ci rfl fun a hp=>Fj B R7 Rx a hp;have x:UW e w K mg base:=Tc.c1 X G fun f fd F=>NL F nG rfl fun a hp=>o7 S0 a hp;have O:US e w K mg base:=Ts.c2 X G fun f fd F=>lE F pF rfl fun a b hp=>rZ R a b hp;have M:UT e w K mg base:=SV.c4 X G fun f fd F=>Qq F kZ rfl fun a b c d hp=>lP TF a b c d hp;have RQ:aI e w K mg base 6 "four_have_zero" ["numbers","p"] (cw K Pz true Q.cz):=S4.c2 X G fun f fd F=>lE F gS rfl fun a b hp=>oz O M a b hp;have RA:aI e w K mg base 7 "have_zero" ["numbers","p"] (cw K NQ true Q.cz):=TZ.c2 X G fun f fd F=>lE F uO rfl fun a b hp=>xE B O M RQ a b hp;have t:UY e w K mg base:=SW.c1 X G fun f fd F=>om F cG rfl fun a hp=>lR q a hp;have E:aI e w K mg base 9 "first_barring" ["numbers"] (cR K Gf true Q.kD):=Td.c1 X G fun f fd F=>om F ik rfl fun a hp=>pD B D RA a hp;have S:UZ e w K mg base:=Te.c1 X G fun f fd F=>om F nL rfl fun a hp=>o4 x E a hp;have RJ:aI e w K mg base 6 "freed_product" ["a","b"] (cw K CQ true ML):=Tf.c2 X G fun f fd F=>lE F ig rfl fun a c hp=>pH B z RE a c hp;have RF:aI e w K mg base 3 "from_lesser" ["a","lesser","root","zero"] (Gk K OK true O0):=Tz.c4 X G fun f fd F=>Qq F gH rfl fun a b c d hp=>sE t a b c d hp;have Ry:aI e w K mg base 7 "least_root_by" ["k","m"] (cw K OW true Fi):=Tg.c2 X G fun f fd F=>lE F iE rfl fun a c hp=>pj SM a c hp;have RZ:aI e w K mg base 126 "square_of_two" ["a","b"] (sJ K (fun a b=>Gm a b/\Q.qR a b<118/\Q.qR a b<118) true LZ):=o3 B RE RF Ry Th X G 118;have Y:U6 e w K mg base:=Ti.c1 X G fun f fd F=>BJ F bu rfl fun a hp=>pG x t S RJ RZ a hp;have Sb:U1 e w K mg base:=TK.c1 X G fun f fd F=>om F g9 rfl fun a hp=>uW SE a hp.1 hp.2;have RK:aI e w K mg base 1 "class_of_product" ["one","other","p"] (tF K Qb true Q.o5):=SQ.c3 X G fun f fd F=>IL F fX rfl fun a c d hp=>kY a c d hp;have RH:U2 e w K mg base:=SJ.c0 X G fun f fd F=>Qs F bS rfl (jS B o);have Sd:U3 e w K mg base:=TL.c2 X G fun f fd F=>lE F sQ rfl fun a c hp=>uA r a c hp.1 hp.2;have RS:U4 e w K mg base:=S5.c3 X G fun f fd F=>IL F cQ rfl fun a c d hp=>nZ B r RK a c d hp.1 hp.2.1 hp.2.2;have Sn:U5 e w K mg base:=T1.c2 X G fun f fd F=>lE F mw rfl fun a c _=>wH B a c;have R3:aI e w K mg base 5 "number_among" ["places","wishes"] (sJ K (fun(ps:List Int) (l:List mR)=>ps=Q.P7/\G5 l/\∀j,j<7->l.getD j []≠[]) true (fun _ l (n:Int)=>MB l n)):=Tt.c2 X G fun f fd F=>HK F bF rfl fun a c hp=>qB B o Sb RH Sd RS Sn a c hp.1 hp.2.1 hp.2.2;have Sf:aI e w K mg base 4 "samples_at" ["p"] (cR K (fun(p:Int)=>p∈Q.P7) true Q.lG):=TM.c1 X G fun f fd F=>om F kN rfl fun a hp=>vg B RN Se H a hp;have RU:aI e w K mg base 8 "shared_classes" ["one","other","p"] (tF K P_ true Cs):=S6.c3 X G fun f fd F=>IL F mj rfl fun a c d hp=>n8 r Sf RA a c d hp;have SN:U7 e w K mg base:=Ul.c2 X G fun f fd F=>HK F q_ rfl fun a c hp=>B8 B o D RU R3 a c hp;have R0:aI e w K mg base 128 "zero_of_free" ["numbers"] (k6 K C7 true Z3):=N.c1 X G fun f fd F=>BJ F jc rfl fun a hp=>pA B Y a hp;have RL:aI e w K mg base 129 "zero_by_meeting" ["numbers"] (k6 K GY true ZF):=SX.c1 X G fun f fd F=>BJ F cI rfl fun a hp=>lu B SN Y R0 a hp;have To:aI e w K mg base 140 "zero_of_free" ["numbers"] (k6 K GY true ZF):=N.c1 X G fun f fd F=>BJ F jc rfl fun a hp=>pE B RL a hp;have Uv:aI e w K mg base 3 "over" ["u","v"] (cw K Ky true Q.M6):=Uy.c2 X G fun f fd F=>lE F IA rfl fun u v hp=>Iv C u v hp;have S8:aI e w K mg base 2 "common_bottom" ["numbers"] (cR K F_ true fZ):=Tj.c1 X G fun f fd F=>om F dj rfl fun us h=>nW q us h;have SR:aI e w K mg base 3 "over_one_bottom" ["numbers"] (cR K F_ true D9):=SY.c1 X G fun f fd F=>om F gp rfl fun us h=>lh S8 us h;have Sh:aI e w K mg base 4 "made_whole" ["x"] (cR K Nj true NK):=TN.c1 X G fun f fd F=>om F sj rfl fun us h=>uV t SR us h;have SF:aI e w K mg base 3 "is_small" ["k"] (cR K (fun(_:Int)=>True) true k8):=Ud.c1 X G fun f fd F=>om F gX rfl fun a _=>zF B o Rx i V a;have R1:aI e w K mg base 141 "zero_of_small" ["numbers"] (k6 K (Ms GY) true ZO):=Tn.c1 X G fun f fd F=>BJ F e_ rfl fun a hp=>pB B RE E To Uv Sh a hp;have R4:U8 e w K mg base:=Tu.c1 X G fun f fd F=>NL F ph rfl fun a hp=>qQ B SF a hp.1 hp.2;have SO:Ve e w K mg base:=Um.c1 X G fun f fd F=>BJ F yp rfl fun a hp=>BR x R4 R1 a hp.1 hp.2;have RO:Vh e w K mg base:=TB.c2 X G fun f fd F=>lE F rl rfl fun a c hp=>sH B a c hp;have Sk:Vi e w K mg base:=Uo.c2 X G fun f fd F=>lE F eW rfl fun a c hp=>Bs B a c hp.1 hp.2;have Si:U9 e w K mg base:=TQ.c2 X G fun f fd F=>lE F fh rfl fun a c _=>vG B a c;have R8:Vf e w K mg base:=TC.c2 X G fun f fd F=>lE F cf rfl fun a c hp=>sD B Si a c hp;have So:U_ e w K mg base:=T2.c3 X G fun f fd F=>IL F bY rfl fun a b c hp=>wF a b c hp.1 hp.2.1 hp.2.2;have SG:aI e w K mg base 1 "_law_less" ["_law_number","_law_p"] (cw K (fun n p=>n≠0/\2<=p/\p<2^31) true Q.vW):=Ue.c2 X G fun f fd F=>lE F oP rfl fun a c hp=>zk a c hp.1 hp.2.1 hp.2.2;have R6:aI e w K mg base 2 "_law_alone" ["_law_group","_law_p"] (cw K O7 true OT):=T3.c2 X G fun f fd F=>lE F uz rfl fun a c hp=>wB B So a c hp;have RV:Va e w K mg base:=S7.c1 X G fun f fd F=>om F aX rfl fun a hp=>mV B a hp;have SH:aI e w K mg base 3 "_law_bars" ["_law_row_here","_law_p"] (cw K Pd true MA):=Ug.c2 X G fun f fd F=>lE F gT rfl fun a c hp=>zo B SG R6 RV a c hp;have Sq:aI e w K mg base 1 "_law_small" ["_law_cell"] (cR K (fun(_:Int)=>True) true Lf):=T4.c1 X G fun f fd F=>om F dg rfl fun a _=>wL B a;have I:Vb e w K mg base:=Up.c2 X G fun f fd F=>lE F dP rfl fun a c hp=>Cd B Sq a c hp.1 hp.2;have R5:Vc e w K mg base:=Tv.c1 X G fun f fd F=>om F dH rfl fun a hp=>qw B a hp;have Sj:Vd e w K mg base:=TR.c3 X G fun f fd F=>Nz F b9 rfl fun a c d hp=>vB B I R5 a c d hp.1 hp.2;have Su:Vj e w K mg base:=T5.c3 X G fun f fd F=>Nz F d7 rfl fun a c d hp=>xC B I Sj a c d hp.1 hp.2;have Sr:aI e w K mg base 1 "_law_prime" ["_law_k"] (cR K (fun k=>k<2^62) true Q.aR):=T6.c1 X G fun f fd F=>om F iL rfl fun a hp=>xS a hp;have Ss:Vg e w K mg base:=T7.c1 X G fun f fd F=>om F vw rfl fun a hp=>x4 B Sr a hp.1 hp.2;have SI:Vk e w K mg base:=Uh.c1 X G fun f fd F=>om F gW rfl fun a hp=>yZ B SO S R8 Ss SH a hp;exact om F yg rfl fun a hp=>OB B RO Sk Su SI a hp
end L2.EP.K
structure PySem.W.Fast where(tw1496321037860043116 tw5703025258348569599 tw7900072437909035787 tw5479420208452528712 tw6063459254588146324 tw6109745450759269644 tw10350336440487671449 tw17954458187467286133 tw9926920072104881313 tw6673069808015754042 tw16531798729589989372 tw7923479158052385028 tw5065770788310416034 tw9848807525129561657 tw12407373550634870381 tw13161325387322117859 tw15434912540389943665 tw13377615406656001056 tw14183729756256904814 tw3967962050994774889 tw9566315780457697522 tw4581499863716721161 tw4460545325333809200 tw1510099467997301242 tw6344311908945416539 tw2191546434135398555 tw12532264446624675677 tw13154267381192128167 tw3719717630186993474 tw427332064457588567 tw14378260745025303160 tw11344401245275201442 tw13006674173277899915 tw3619725612381421708 tw16197529481429404641 tw1126826581073357420 tw10968018903619852307 tw14860546297268838645 tw15762388137439382002 tw6806816818952913798 tw2869228380988674680 tw12710459184073166172 tw12405520743912883066 tw10140663011825506547 tw15969838451067627098 tw877035683397379959 tw17472486997541990248 tw6411896362616785558 tw670531971553817801 tw3984702063978533630 tw8953011681129008812 tw16191036581110548516 tw3350911387559497099 tw18022267668383079643 tw7605132310562966444 tw13905006842999320253 tw17682059871353688936 tw13933472947730849427 tw10135674237888670443 tw17953466456301193652 tw10476463292188399060 tw4284781126886433287 tw7185025459255232034 tw8231633807484819728 tw18017701084518754293 tw6109357862435459736 tw17655781920056473450 tw7165101560879595660 tw4404909418623768315 tw6443411687987462465 tw7068914561564805665 tw3181497738952215767 tw9569207444305123392 tw15808953275153345911 tw9424685159659941174 tw8253367192225720650 tw7342923814723054714 tw7003938653749102221 tw8513683685684688226 tw6269269359169087300 tw13415450352283519647 tw10823064874400223721 tw3483145812601390065 tw17859512202943442480 tw15320625852232656762 tw4239577408983935521 tw12807763315359053368 tw2464366556136495257 tw10139545672476801975 tw9228051839219333184 tw15545803445788481237 tw12761415797501497400 tw16299717130582985497 tw9108925447640999274 tw11741678055911700163 tw15333387411365665272 tw4652074491343606794 tw11860329015645843094 tw9871567742373788321 tw10531741343203334821 tw9071589653507903105 tw15667684954814451587 tw7971251034153898001 tw9940248592654482009 tw17864256578456333264 tw17562477681466461928 tw4276092740824756202 tw7656420108739422291 tw12651369321903070765 tw6273609780190523084 tw15346846966772340294 tw3391915455205106993 tw12581086864644607137 tw6351533621382286726 tw10495131395075485823 tw7873156037141532252 tw1129960727989465532 tw6580878948843424094 tw10038912295836320721 tw11817761971480508358 tw11135842658023365992 tw15101946061360274909 tw8332873176589467132 tw10458201665064760972 tw12007876521864749823 tw9748320134207677200 tw7118299306353707112 tw1985859699778595561 tw15095039875591356088 tw13338822027603123687 tw4712500936178700343 tw3171141578636900862 tw13918273383213516699 tw14463452691941877226 tw16636397085755828122 tw7266504483557840555 tw6414499564950442710 tw9857030562537099884 tw14465615421948740465 tw1256143207474880095 tw2194332103854338275 tw8660423643982572882 tw6078601825888654568 tw18376684918057796725 tw1877784700854458724 tw15446558208692737355 tw11138283996877861132 tw4692394985528457509 tw11154886578754114240 tw12952100091338474417 tw13727444522037454939 tw14992757734468924465 tw10624339484291177716 tw7091350408320687729 tw17218880612429503012 tw2335733308956204915 tw18363955751008940574 tw8056352810096332942 tw9428945612996639672 tw17301066806378712675 tw2706491792347366371 tw9782024516587716750 tw4461279475299770243 tw11561143906709531972 tw4186419630010006637 tw2615041359956687729 tw7383054679745806424 tw14484018800096744578 tw7612771117394995298 tw12463244561327925018 tw8837475847874969662 tw3827550132169503101 tw17176288870643060060 tw16891225726461285177 tw7848428132515480144 tw10561331290991140016 tw10666490762804661668 tw1623163671907371835 tw297531762704798619 tw15784609256099840123 tw6369280594144972476 tw7303563477989237548 tw4713791127734821113 tw13500206854739524927 tw9873998675689770809 tw10332515722093438636 tw16076517479814022065 tw4088840691443404284 tw6988971442973959021 tw3416531408896709248 tw17932640675696380613 tw3483841078274096899 tw1022415905974930834 tw11613313672744897624 tw11333414635059044593 tw2816883742027761965 tw11206020991168922575 tw672871051933541112 tw1065707021743041307 tw6277782285719372480 tw17990807173393816213 tw2826495612091816662 tw4203867641574725390 tw15106727878988888286 tw10477250439003183116 tw6475558166280213844 tw8711262020806047709 tw6692971365300447591 tw9568732526272831172 tw11022573350713063925 tw15787877502008272342 tw9443861874746204164 tw10781451219292846259 tw13741666002180813213 tw4557639653717813261 tw1064120625188305340 tw4123226800601805325 tw8286563853256201063 tw17676179147236123655 tw11240398269615006815 tw8404298909042438002 tw738063828392803892 tw18152040741108801122 tw11793039487248460951 tw12066155705989714268 tw18275207666155473183 tw4268746190555462212 tw540090968554786380 tw16163825101279691900 tw10558487435793252062 tw645543410789113663 tw6234543527352405819 tw11913042742388792440 tw3140075837172196301 tw7577031152748484184 tw17004207684607401810 tw18119159229714743884 tw18249113756695610547 tw8359810290865181111 tw10427247952254292769 tw7511529586659920008 tw8465867025073005887 tw5319752714951215630 tw12269442627349916112 tw8856336430468218341 tw10817449554246113905 tw14482562299930241960 tw15030355777091482370 tw9149207143386553084 tw3374995060319024056 tw11495291383529045511 tw7110551150645643760 tw8284877197550034713 tw16672514503466748098 tw10189332842853229467 tw9971017383587541388 tw15717876573490351409 tw773877241424730148 tw13509151858944170883 tw9700831383679278584 tw10958013080240840902 tw5978042037011897857 tw4053072604198380455 tw15436190354735054739 tw13449736814187039697 tw12062030986203691831 tw5515131567461254311 tw13455967017158874082 tw2330668182636442146 tw18333626014250542206 tw9151734431715247421 tw11287283016692383340 tw7727582485379511619 tw3048790311895570386 tw5946155378653068190 tw16915766766361048065 tw1566927023988743269 tw11143035309026864272 tw10263750268475581219 tw11401119590530487037 tw5121876637419657423 tw6323514280738024308 tw6340538310629916342 tw14003559970821205313 tw15215018901860287463 tw8687863144982248516 tw9724458443210259149 tw12444234586427256336 tw5874263992421275177 tw4916472615163327526 tw455005429179740750 tw11410080101863597697 tw3421348825034756783 tw13803398788219459877 tw8823225427203386906 tw5266486647265596324 tw10922679821569775710 tw3252348826322597235 tw3945695770580423556 tw12712586638409100247 tw13711880328639859259 tw2125924001715656958 tw15580116087384404020 tw4485356390364497914 tw2167881891650687503 tw17890877645298100311 tw4334350049683211358 tw5862962641451101273 tw16519736801583929904 tw15673425978417615202 tw1666837140135715348 tw15535565868923698207 tw3122628851394545695 tw15143313518865242458 tw15091786685459367060 tw7258937845353009891 tw9527797716338972877 tw1308575388451921849 tw5541980928208958466 tw14676793564831498261 tw482068433282049434 tw17412896786953756252 tw14778592292328706571 tw16503600257036482733 tw7292419632652429498 tw6026177617766719585 tw6336902529961330962 tw7425520800714274789 tw11774129889248127744 tw8963737740664607229 tw5494943381510416337 tw15392435322185009023 tw3145949927043444339 tw2384578397177823892 tw12311760604930703859 tw12807579126629664692 tw14666229351324346115 tw8153841389915041397 tw5801055511570023260 tw7821756777810217336 tw14704408885495061362 tw7155857971024537206 tw2997343301094832475 tw12017160290960209233 tw13704325666097692621 tw7383760134089491608 tw4222799973225631611 tw9213782358692825165 tw15006513281115899422 tw1233367744482840544 tw1647088545141648901 tw17062173810701138386 tw8954515314456796069 tw6348132895523314386 tw5955174319744417874 tw13642607096643121659 tw9112559979380657345:Nat)
end
open PySem PySem.W PyProof.Rows
set_option maxRecDepth 100000 in
set_option maxHeartbeats 0 in
theorem PySem.Challenge.cw_everyplace_k47_zeros_of_four_holds : PySem.Challenge.rw_everyplace_k47_zeros_of_four.Holds := by
 w_on; o_law; k_head; (case hw => w_witness2)
 k_fill
 refine L2.CN (l := PySem.Challenge.rw_everyplace_k47_zeros_of_four) (n := 63) (k := 144) (x := "_law_script") (CX := L2.oo) (sp := L2.EP.wO) rfl (by decide) rfl ⟨rfl, by decide, by decide⟩ (fun w h Y => PySem.W.kIn_of Y) ?F ?S ?C
 case F =>
  intro w mg fa h KX G hmg
  have B : L2.EP.Bu mg := by
   refine' L2.EP.OD (K := L2.si KX) KX G ?z1 ?z2 ?z3 ?z4 ?z5 ?z6 ?z7 ?z8 ?z9 ?z10 ?z11 ?z12 ?z13 ?z14 ?z15 ?z16 ?z17 ?z18 ?z19
   all_goals (dsimp only [L2.si]; k_is)
  have Rv : L2.EP.xT mg "GREAT_PRIMES_FROM" 32768 := by
   refine' L2.EP.xT.mk (K := L2.si KX) KX G ?ga0
   (case ga0 => dsimp only [L2.si]; k_is)
  have Rn : L2.EP.xT mg "GREAT_FROM" 1073741824 := by
   refine' L2.EP.xT.mk (K := L2.si KX) KX G ?ga1
   (case ga1 => dsimp only [L2.si]; k_is)
  have R7 : L2.EP.xT mg "LONGEST" 8 := by
   refine' L2.EP.xT.mk (K := L2.si KX) KX G ?ga2
   (case ga2 => dsimp only [L2.si]; k_is)
  have Rh : L2.EP.vY (L2.si KX) mg "SMALL_PLACES" [0, 2, 3, 5, 7, 11, 13] := by
   refine' L2.EP.vY.mk (K := L2.si KX) KX G ?ga3 ?gl3 ?gz3 ?gv3
   (case ga3 => dsimp only [L2.si]; k_is); (case gl3 => dsimp only [L2.si]; k_is); (case gz3 => decide); (case gv3 => repeat' (first | exact .nil | refine .cons ⟨_, rfl⟩ ?_))
  have RN : L2.EP.vY (L2.si KX) mg "AT_NOUGHT" [1, -1] := by
   refine' L2.EP.vY.mk (K := L2.si KX) KX G ?ga4 ?gl4 ?gz4 ?gv4
   (case ga4 => dsimp only [L2.si]; k_is); (case gl4 => dsimp only [L2.si]; k_is); (case gz4 => decide); (case gv4 => repeat' (first | exact .nil | refine .cons ⟨_, rfl⟩ ?_))
  have Se : L2.EP.vY (L2.si KX) mg "AT_TWO" [1, 3, 5, 7, 2, 6, 10, 14] := by
   refine' L2.EP.vY.mk (K := L2.si KX) KX G ?ga5 ?gl5 ?gz5 ?gv5
   (case ga5 => dsimp only [L2.si]; k_is); (case gl5 => dsimp only [L2.si]; k_is); (case gz5 => decide); (case gv5 => repeat' (first | exact .nil | refine .cons ⟨_, rfl⟩ ?_))
  refine L2.EP.K.fin (K := L2.si KX) KX G hmg B Rv Rn R7 Rh RN Se ?_ ?_ ?_ ?_ ?_ ?_ ?_ ?_ ?_ ?_ ?_ ?_ ?_ ?_ ?_ ?_ ?_ ?_ ?_ ?_ ?_ ?_ ?_ ?_ ?_ ?_ ?_ ?_ ?_ ?_ ?_ ?_ ?_ ?_ ?_ ?_ ?_ ?_ ?_ ?_ ?_ ?_ ?_ ?_ ?_ ?_ ?_ ?_ ?_ ?_ ?_ ?_ ?_ ?_ ?_ ?_ ?_ ?_ ?_ ?_ ?_ ?_ ?_ ?_ ?_ ?_ ?_ ?_ ?_ ?_ ?_ ?_ ?_ ?_ ?_ ?_ ?_ ?_ ?_ ?_
  all_goals (dsimp only [L2.si]; refine' L2.EP.Df.mk ?a ?l ?c ?k; (case a=>k_is);(case l=>k_is);(case c=>k_is);(case k=>k_is))
 case S => exact fun K H a ns hl hO hS => L2.EP.B5 K H a ns hl hS
 case C => exact fun _ _ _ _ z => z
