import PyProof.Rows.All
import Wide.All
import OpenK.AllK
import Wide.FinOn
import Lean
import PyProof.EqAt
import PyProof.EqKinds
import PyProof.TupleCall
import PyProof.NeData
import PyProof.P3Eq
import KE.KTryMore
import PyProof.ExcArgs
import PyProof.Rows.CountFlat
import PyProof.ExcBaseAll.ValueError
import PyProof.Conv_int_bool
import PyProof.IsiPairs
import PyProof.IsiNone
import PyProof.IsiStr
import PyProof.IsiBool
import PyProof.IsiHeapPairs
import KE.KRevIter
import PyProof.CollectIter
import PyProof.WalksMore
import PyProof.Rows.SortRunsK
import KE.KSortKey
import PyProof.Rows.RuleN_abs
import PyProof.Rows.CallKwBuiltin
import PySem.Challenge.RW_everyplace_k72_whole_no_wrong_paper
open Nat renaming le_of_ble_eq_true->V1,le_refl->V_,lt_of_lt_of_le->Wx,ne_of_lt->WQ,le_trans->W6,le_of_lt->Xv,not_lt_zero->Xx,zero_le->XB,pow_le_pow_right->X_,lt_irrefl->Yw,lt_of_le_of_lt->YK,not_lt->Y2,mul_le_mul_right->Y3,beq_eq->Y4,two_pow_pos->Y9,lt_succ_of_lt->Zm,le_of_succ_le->Zn,lt_succ_self->ZC,min_eq_right->ZD,pow_succ->ZP,min_eq_left->ZQ,lt_succ_iff_lt_or_eq->aaC,zero_add->aaF,le_mul_of_pos_left->aaQ,ne_of_gt->aaW,beq->í,mul_le_mul_left->Š,eq_zero_or_pos->ŭ,min_le_left->Μ,mul_le_mul->ρ,mul_assoc->ϐ,le_of_dvd->ϑ,sub_zero->Ϫ,sub_self->ϫ,mul_zero->Ϭ,lt_or_ge->ϭ,le_of_eq->Ϯ
open List renaming length_map->V2,mem_map->V3,getElem?_eq_getElem->V7,mem_cons->V8,getD_eq_getElem?_getD->Wa,map_cons->Wb,getElem?_eq_some_iff->Wd,mem_cons_of_mem->We,mem_of_getElem?->Wq,mem_cons_self->Wu,size_toArray->Wy,all_eq_true->WB,mem_append_right->WD,filter_cons_of_neg->WH,filter_cons_of_pos->WI,getElem?_map->WJ,length_append->WL,length_cons->WN,mem_singleton->WR,not_mem_nil->WV,length_set->WX,map_congr_left->WY,mem_append->W2,replicate_succ->W7,map_map->W8,mem_range->W9,mem_append_left->Xg,length_eq_zero_iff->Xt,getElem?_append_right->Xu,nodup_cons->Xw,getElem?_mapIdx->Xz,find?_cons->XA,length_drop->XC,take_of_length_le->XD,take_length->XJ,mem_filter->XR,getElem?_append_left->XS,getElem?_set_ne->XU,of_mem_zip->XZ,length_zip->X0,any_eq_true->X7,map_append->Ya,all_map->Yd,flatten_cons->Ye,all_cons->Yf,mem_map_of_mem->Yi,lookup_cons->Yj,nodup_nil->Yk,append_nil->Yq,any_cons->Yy,zip_cons_cons->YM,drop_eq_nil_of_le->YO,length_range->YQ,take_add_one->YR,ext_getElem?->YU,sum_cons->Y5,getElem?_range->Y6,nil_append->Y8,map_nil->Zc,nodup_append->Zp,getElem?_set_self->Zt,range_succ_eq_map->Zx,length_take->Zz,getElem_mem->ZE,exists_of_findSome?_eq_some->ZF,length_replicate->ZG,getElem?_eq_none->ZI,length_filter_le->ZK,foldl_cons->ZO,length_nil->ZU,eq_nil_of_length_eq_zero->ZX,filterMap_cons->Z0,length_take_le->Z4,filter_eq_self->Z5,take_succ->Z7,take_zero->Z8,dropLast_concat_getLast->Z9,findSome?_eq_none_iff->aaj,foldl_append->aap,pairwise_map->aaq,getElem?_set->aas,getElem?_eq_none_iff->aax,nodup_range->aaD,getLast?_cons_cons->aaL,take_append_drop->aaS,mem_iff_getElem?->aaT,map_id''->aaV,map_id'->aaZ,replicate->È,range->Ú,toArray->ã,lookup->ĩ,mem_of_mem_take->ň,mem_of_mem_drop->ŉ,mem_erase_of_ne->Ŋ,length_mapIdx->š,foldl->Ţ,filter_append->ţ,append_assoc->Ů,mapIdx_cons->ŷ,filter_cons->Ÿ,ext_getElem->Ź,cons_append->ź,forIn_cons->Ε,filter_nil->Ζ,forIn_nil->Ν,drop_zero->Ξ,any_map->ϒ,map_id->ϯ,length->ϰ
open PySem renaming wpAny_bind->V5,wpAny_pure->Wi,wpAny_mono->Xl,wpAny_truthy_bool->Xp,wpAny_typeNameOfWhole_keyiter->Yg,mem_of_lookup->Yh,wpAny_Call_Name_kw->Yn,wpAny_passesOwn->Yp,wpAny_holding->Yx,wpAny_typeNameOf_keyiter->YH,tupleKind_room_in1->Zh,wpAny_setField->Zj,wpAny_newObj_type->Zr,wpAny_dictEntries->Zs,wpAny_isOneOf_keyiter->ZL,wpAny_execs_nil->ZM,codeAny_mono->ZN,size_of_entries->ZW,wpAny_fieldsOf->Z_,wpAny_newFunctionEnv_cells->aah,wpAny_attempt->aal,wpAny_pyIter_list->aan,wpAny_call->aau,call_meetsIn->aaH,wpAny_call_entry->aaI,pushCells_keeps->aaN,wpAny_dictEpoch->aaP,wpAny_field->aaR,starEach->Ä,Value->Å,Addr->Æ,Shared->Ç,mainGlobals->Ê,Str->Í,wpAny->Î,PyData->Ï,Stmt->Ð,model->Ñ,Program->Ò,Expr->Õ,eval->Ö,Paired->Ø,foldedSetIterable->Ù,World->Û,Heap->Ý,Around->á,compareOp->ä,cellsFrom->å,backTo->æ,Pos->é,sysModules->ê,NameKind->ë,FuncData->ì,swapsWith->ï,behindInMarks->ñ,Obj->ò,assignEach->ó,cLine->ù,Scope->ú,bootBuiltins->þ,binaryOp->ÿ,attributeBase->Ā,atKey->ā,PassesOwn->Ă,sliceBounds->Ĉ,bindArgs->ĉ,IntMulOk->Ċ,Keyword->Ď,assign->ď,rawInt->Ē,noteFrame->Ĕ,holding->Ė,Env->ė,letOwnedTupleGo->Ę,keywordEach->Ĝ,tupleKind->Ğ,setFlight->ğ,codeAny->Ġ,callerA->ġ,BindsTo->Ģ,ExceptHandler->Ĩ,valueAt->Ĭ,relabel->ĭ,subscripted->ĵ,IsRangeIter->ĸ,storedH->Ļ,getItem->ļ,recursionLimit->Ŀ,pyNext->ŀ,newFunctionEnv->Ł,dictSetDefault->ł,backToKw->Ń,wpAny_standAt->ō,wpAny_comprehension_free->Ŏ,nums_intItems->Ő,call->ő,wpAny_callSpecial?_slot->Ř,lastMarks->ř,bindL->Ś,bindC->ś,CmpOp->ť,wpAny_pyNext_range_end->Ŧ,wpAny_pyIter_rangeiter->ŧ,seqIndex_neg->ũ,pyIter->Ū,isTrue->ū,wpAny_notOrdered_dict->ű,wpAny_isTrue_Compare1->Ų,codeAny_call_function->ų,wpAny_of_eq->Ž,unbindBehindTheSuite->ž,seqIndex_of->ſ,numAt_eq->Α,lookup_relabel_local->Β,boot_len->Δ,KeyKind->Κ,wpAny_setItem_heap->Τ,wpAny_pyIter_range->Υ,wpAny_getItem_heap->Φ,wpAny_Name->Χ,typeLookup->Ψ,typeIs_int->Ω,ret->ζ,entryOfKey->η,call_meets->θ,builtinsNs->ν,wpAny_pyIter_enum->χ,wpAny_Call_method->ψ,standAt->ω,setItem->ϊ,again->ϋ,Builtin->ϗ,wpAny_pyIter_zip->ϙ,wpAny_pyHash_int->Ϛ,wpAny_eqBool_int->ϛ,wpAny_Try_except->Ϝ,meetsH_dict_get->Ϲ
open Classical renaming byContradiction->V9,not_imp->aar,epsilon->ø
open Int renaming mul_le_mul_of_nonneg_left->Wc,emod_lt_of_pos->Wf,dvd_of_emod_eq_zero->Wh,pow_succ->Wk,mul_ne_zero->Wl,toNat_natCast->Wm,emod_nonneg->Wo,fdiv_eq_ediv_of_nonneg->Ws,le_of_dvd->Wt,dvd_trans->Wz,mul_comm->WE,pow_zero->WG,pow_pos->WK,mul_one->WO,emod_add_mul_ediv->WT,mul_nonpos_of_nonneg_of_nonpos->WU,pow_add->WZ,emod_eq_zero_of_dvd->W3,pow_one->W4,mul_le_mul_of_nonneg_right->W5,mul_le_mul->W_,mul_pos->Xc,natAbs_mul->Xd,one_mul->Xe,fmod_eq_emod_of_nonneg->Xf,mul_assoc->Xj,lt_or_le->Xy,le_refl->XE,le_of_lt->XG,dvd_sub->XH,mul_ediv_cancel'->XM,gcd_dvd_right->XO,mul_emod->XT,natCast_mul->X1,toNat_of_nonneg->X2,eq_of_mul_eq_mul_right->X5,gcd_dvd_left->X6,dvd_add->X8,dvd_refl->Yb,mul_ediv_cancel_left->Yc,lt_or_eq_of_le->Yo,natAbs_dvd_natAbs->Yu,lt_trichotomy->YA,mul_nonpos_of_nonpos_of_nonneg->YB,emod_emod_of_dvd->YD,dvd_neg->YE,mul_nonneg->YF,mul_zero->YG,emod_eq_of_lt->YS,gcd_pos_of_ne_zero_left->YX,gcd_eq_zero_iff->Y7,eq_of_mul_eq_mul_left->Y_,ediv_nonneg->Za,gcd_comm->Zd,gcd_zero_right->Zf,dvd_zero->Zg,mul_nonneg_of_nonpos_of_nonpos->Zo,emod_add_emod->Zq,fmod_nonneg_of_pos->Zv,mul_sub->Zw,emod_two_eq->ZS,natCast_pow->ZT,mul_neg->aab,mul_pow->aac,fmod_lt_of_pos->aae,lt_or_gt_of_ne->aaf,gcd_one_right->aat,natAbs_ediv_le_natAbs->aaw,zero_add->aaz,mul_fdiv_cancel_left->aaA,add_zero->aaE,ofNat_lt->aaG,natCast_add->aaO,add_assoc->aaU,le_trans->aaY,gcd->Ì,toNat->ċ,pow_mul->Ŕ,mul_add->ŕ,natCast_nonneg->ů,add_sub_cancel->Ű,mul_left_comm->Ż,ediv_le_self->Η,pow_ne_zero->Ρ,le_total->ϲ,ediv_one->ϳ
open PySem.Heap renaming lt_size->Wg,get?_push_of_some->Ww,get?_push_size->WS,get?_update_other->Xi,get?_update_self->Yr,size_push->Z6,SameBut->ć,get?_none_of_le->Ō
open Option.some renaming inj->Wj
open Bool renaming false_ne_true->Wn,and_eq_true->WA,eq_iff_iff->WW,and_false->Xa,true_and->Xb,and_eq_true_iff->Xh,false_and->XN,eq_false_iff->XX,or_eq_true->Ys,not_eq_true'->YC,false_eq_true->YL,beq_eq_decide_eq->YV,and_true->aai,false->Á,true->Â,noConfusion->ż,false_or->υ,true_or->Ϙ
open PySem.W renaming mg_none_of->WC,mg_of->X4,cellsFrom_some->Yl,callWith_K->aad,Frag->Ã,nsIn->Ô,kitOne->à,fnOf->â,keepIn->ð,exmOne->û,findIn->Ć,codeIn->ē,mroIn->ĕ,methodObj->Ě,findObj->Ħ,excIn->į,Looks->İ,looks_findIn->ĺ,codeRec_of->ń,kia_one->Ŝ,OpenLaw->ŝ,clsIn->Ŵ,WalkO->ŵ
open Ne renaming symm->Xm
open Option renaming map_eq_none_iff->XF,map_eq_some_iff->X3,isSome_iff_exists->X9,isSome_map->YT,getD_some->Y1,map_some->ZR,some->À,some_ne_none->Ņ,isSome_some->ņ,getD_none->Ş,bind_some->ş,none_or->Ŷ,none->π
open PyProof.Rows renaming callWith_type1->XI,boot_list->Ym,boot_bool->Zu,boot_int->ZJ,envOfC->Č,AllBare->đ,boot_isinstance->Ĺ,IntsAre->ľ,subscriptTail->ŏ,Constant_none->Ŗ,subscriptTail_builtinR->Ũ,boot_range->ξ,Subscript_->ο,rangeSize_toNat->ϸ
open Array renaming length_toList->XQ,getElem?_eq_some_iff->Yz,getElem?_eq_getElem->aav,append_assoc->ŗ
open PySem.F renaming slot_dict_keyiterator_next->XW,slot_dict_get->YW,args_dict_get_2->Zl,entry_dict_get->Zy,args_dict_keyiterator_next_1->ZV,entry_dict_keyiterator_next->ZY,slot_dict_setdefault->aaa,excBase_ValueError->aak,excAttr_ValueError->aam,plainAttrs_list->aaK,plainAttrs_dict->aaM,slot_dict_iter->ς,slot_int_rmul->ϕ
open PySem.PassesOwn renaming never->Yt
open PySem.Paired renaming length->Yv,snoc->Ľ
open PySem.Heap.SameBut renaming update->YI
open PySem.Calls renaming callWith_builtin->YN,evalArgs_plain->YZ,spliced_cons->Zb,Name_function_global->aag,spliced_nil->aao
open List.Pairwise renaming imp_of_mem->Ze,nil->ϱ
open PySem.Obj renaming data_mapFields->Zi,mapFields->ě,mapSeq->ĝ,isFreed_of_fields->Ň,data_mapDictKeys->Œ
open Prod renaming ext->Ϸ
open Rat renaming divInt_eq_divInt_iff->aaB,mul_comm->aaX,zero_mul->Ϡ
open True renaming intro->É
open PySem.Builtin.Int renaming intBits->Ë
open PySem.Builtin.Range renaming rangeSize->Ó,small->ī,rangeFitsLong->ϵ
open PySem.NameKind renaming free->Ü,cell->Þ
open PySem.Value renaming ref->ß,none->õ,type->ę,int->ģ,bool->Į,str->Ŭ,isStrOf->Θ,builtin->Ι,isInt->ύ
open PySem.PyData renaming int->ç,list->î,none->ô,eqv->ü,eqvAll->ă,depthAll->Ą,canLayAll0->č,bool->ħ,tuple->Λ
open False renaming elim->è
open Lean renaming Syntax->ö
open ForInStep renaming yield->ý
open PySem.Builtin.List renaming listTooLong->ą
open PySem.Builtin.Dict_items renaming ownsTuple->Đ
open Sum renaming inr->Ĥ,inl->ĥ
open PySem.Builtin.Dict renaming showsAll->Ī
open PySem.SeqAt.EqAt renaming bool_bool->ı,int_bool->Ĳ,bool_int->ĳ,str_int->Ķ,int_str->ķ
open PySem.EntryCells renaming newEntry->Ĵ
open PySem.IsiPair renaming bool_bool->ŋ,int_bool->œ,int_int->Ť
open PySem.IsRange renaming new->Ο
open PySem.Expr renaming Constant->τ
open PySem.Walks renaming range->ό,list->ϝ
open PySem.W.InstAt renaming type->ώ
open Or renaming inr->Ϗ
open PyProof.Rows.LSm renaming kept_iter->ϓ
open PySem.Heap.IsSliceOf renaming new->ϔ
open PySem.CmpOp renaming NotIn->ϖ
open PySem.Str renaming ofString->Ϟ
open PySem.SeqAt renaming EqAt->ϟ
open PySem.W.Looks renaming ld->ϡ
open PySem.EqMixed renaming ne_str_int->Ϣ,ne_str_bool->ϣ,ne_int_str->Ϥ,ne_bool_str->ϥ,eq_str_int->Ϧ,eq_str_bool->ϧ,eq_int_str->Ϩ,eq_bool_str->ϩ
open PySem.Data renaming fields->ϴ
open PySem.EqNone renaming ne_str_none->Ϻ,ne_none_str->ϻ
set_option Elab.async false
set_option maxHeartbeats 8000000
set_option linter.all false
set_option compiler.extract_closed false
set_option genInjectivity false
set_option genSizeOf false
set_option bootstrap.genMatcherCode false
set_option maxRecDepth 100000
theorem zra0(h:True:=by rfl):True:=h
def zra:ö:=zra0._auto_1
theorem zrb0(h:True:=by decide):True:=h
def zrb:ö:=zrb0._auto_1
theorem zrc0(h:True:=by intro _;rfl):True:=h
def zrc:ö:=zrc0._auto_1
theorem zrd0(h:True:=by first|exact .inl rfl|exact .inr rfl):True:=h
def zrd:ö:=zrd0._auto_1
theorem zre0(h:True:=by first|exact Or.inl rfl|exact Ϗ (Or.inl rfl)|exact Ϗ (Ϗ rfl)):True:=h
def zre:ö:=zre0._auto_1
theorem zrf0(h:True:=by first|exact .inl rfl|exact .inr rfl|assumption):True:=h
def zrf:ö:=zrf0._auto_1
theorem zrg0(h:True:=by stop rfl):True:=h
def zrg:ö:=zrg0._auto_1
theorem zrh0(h:True:=by decide +kernel):True:=h
def zrh:ö:=zrh0._auto_1
theorem zri0(h:True:=by first|exact Or.inl rfl|exact Ϗ rfl):True:=h
def zri:ö:=zri0._auto_1
theorem zrj0(h:True:=by intro _ _;rfl):True:=h
def zrj:ö:=zrj0._auto_1
noncomputable section
open Lean in
local macro_rules|`(fun $xs* => $b)=>do
  unless xs.any (·.raw.isOfKind ``Parser.Term.anonymousCtor) do Macro.throwUnsupported
  let (c,ys)←xs.foldrM (init:=(b,(#[]:Array Syntax))) fun x u=>withFreshMacroScope do match x with
    |`(⟨$q,*⟩)=>
      let e:=q.getElems
      if e.size<2 then Macro.throwUnsupported
      let h←`(h)
      let a:=e[0]!
      let r:=e.extract 1 e.size
      let c:=u.1
      let d:=e[1]!
      let c←if r.size=1 then `(($h).elim fun $a $d=>$c) else `(($h).elim fun $a ⟨$r,*⟩=>$c)
      return (c,u.2.push h)
    |_=>return (u.1,u.2.push x)
  `(fun $(ys.reverse.map fun y=>⟨y⟩)* => $c)
open Lean in
local macro_rules|`(⇑$x)=>`($x $(mkIdent `P) $(mkIdent `w) $(mkIdent `K) $(mkIdent `mg) $(mkIdent `base))
local macro_rules|`(#[$x,$y,*])=>`(⟨$x,$y,*⟩)|`(#[$x])=>`(⟨$x⟩)
local macro_rules|`(↑$x)=>`(by simpa using $x)
local macro_rules|`(tactic|stop $t)=>`(tactic|with_unfolding_all $t)
open Lean in
local macro_rules|`(.$x)=>match x.getId.toString with|"a"=>`(by lia)|"b"=>`(by decide)|"c"=>`(by first|exact List.Mem.head _|exact List.Mem.tail _ (List.Mem.head _)|exact List.Mem.tail _ (List.Mem.tail _ (List.Mem.head _))|exact List.Mem.tail _ (List.Mem.tail _ (List.Mem.tail _ (List.Mem.head _)))|simp)|"d"=>`(by decide +kernel)|"e"=>`(by dsimp only;lia)|"f"=>`(by omega)|"A"=>`($(mkIdent `ae) 0)|"B"=>`($(mkIdent `ae) 1)|"C"=>`($(mkIdent `ae) 2)|"D"=>`($(mkIdent `ae) 3)|"E"=>`($(mkIdent `Ñ) $(mkIdent `X.prog) $(mkIdent `X.w))|"F"=>`($(mkIdent `off) $(mkIdent `H) $(mkIdent `O))|"G"=>`($(mkIdent `fG) $(mkIdent `X) ($(mkIdent `cN) $(mkIdent `X) $(mkIdent `tn) $(mkIdent `js)) $(mkIdent `YP) $(mkIdent `C) $(mkIdent `s) $(mkIdent `H) $(mkIdent `fp))|_=>Macro.throwUnsupported
abbrev V4:=@if_neg
abbrev V6:=@if_pos
abbrev Wr:=@decide_eq_true
abbrev Wv:=@decide_eq_false
abbrev WM:=@decide_eq_true_iff
abbrev Xq:=@of_decide_eq_true
abbrev XY:=@or_false
abbrev YJ:=@decide_eq_false_iff_not
abbrev YY:=@if_false
abbrev Y0:=@beq_iff_eq
abbrev ZA:=@beq_self_eq_true
abbrev ZH:=@if_true
abbrev ZZ:=@beq_eq_false_iff_ne
abbrev aaJ:=@ite_self
namespace L2
open PySem PySem.Spec PyProof.Rows
variable{s:Ç}{x:Í}{b a:Æ}{ZB:List (Æ×ò)}{u:Å}{pos:é}{op:ť}{w:Û}{A:á}{K:Ã}{i t' k n:Nat}{P:Ò}{e c tg:Õ}{us:List Å}{ch fp:List Æ}{α:Model}{body:List Ð}{f:Å->Å->Sem Å}
abbrev Key:=Sum Int Í
def t5:Key->Å->Bool
 |.inl k,v=>ύ k v
 |.inr x,v=>Θ x v
def Qa(w:Û):Key->Int
 |.inl k=>hashInt k
 |.inr x=>hashStr w x
def cA:∀{k:Key} {v:Å},t5 k v=Â->(∃i t,k=ĥ i/\v=ģ i t)\/(∃x t,k=Ĥ x/\v=Ŭ x t)
 |.inl i,v,h=>by
  obtain⟨t,e⟩:=Value.isInt_shape (k:=i) (v:=v) h;exact .inl #[i,t,rfl,e]
 |.inr x,v,h=>by
  obtain⟨t,e⟩:=Value.isStrOf_shape (x:=x) (v:=v) h;exact .inr #[x,t,rfl,e]
def Cj(i:Int)(t:Tok):t5 (.inl i) (.int i t)=Â:=by simp[t5,ύ]
def Dh(x:Í)(t:Tok):t5 (.inr x) (.str x t)=Â:=by simp[t5,Θ]
def Lo(a b:Int):decide ((ĥ a:Key)=ĥ b)=(a==b):=by
 by_cases e:a=b
 .subst e;simp
 .have h:¬(ĥ a:Key)=ĥ b:=λq=>e (Sum.inl.inj q);rw[Wv h];exact(ZZ.mpr e).symm
def Lg(a b:Í):decide ((Ĥ a:Key)=Ĥ b)=decide (a=b):=by
 by_cases e:a=b
 .subst e;simp
 .have h:¬(Ĥ a:Key)=Ĥ b:=λq=>e (Sum.inr.inj q);rw[Wv h,Wv e]
def Mn(a:Int)(b:Í):decide ((ĥ a:Key)=Ĥ b)=Á:=Wv (λq=>nomatch q)
def LQ(a:Í)(b:Int):decide ((Ĥ a:Key)=ĥ b)=Á:=Wv (λq=>nomatch q)
noncomputable def c5(prog:Ò)(w:Û):Κ prog w Key where
 is:=t5
 hash:=Qa w
 inj:=λv a b ha d=>by
  rcases cA ha with⟨i,t,rfl,rfl⟩|⟨x,t,rfl,rfl⟩
  .rcases cA d with⟨j,u,rfl,e⟩|⟨y,u,rfl,e⟩
   .injection e with e1 _;rw[e1]
   .exact nomatch e
  .rcases cA d with⟨j,u,rfl,e⟩|⟨y,u,rfl,e⟩
   .exact nomatch e
   .injection e with e1 _;rw[e1]
 byValue:=λk v h=>by
  rcases cA h with⟨i,t,rfl,rfl⟩|⟨x,t,rfl,rfl⟩<;>rfl
 pyHash:=λc h=>by
  rcases cA c with⟨i,t,rfl,rfl⟩|⟨x,t,rfl,rfl⟩
  .exact Ϛ h
  .exact wpAny_pyHash_str h
 eqBool:=λf c h=>by
  rcases cA f with⟨i,t,rfl,rfl⟩|⟨x,t,rfl,rfl⟩
  .rcases cA c with⟨j,u,rfl,rfl⟩|⟨y,u,rfl,rfl⟩
   .rw[Lo] at h;exact ϛ h
   .rw[Mn] at h;exact ķ i t y u _ _ _ _ h
  .rcases cA c with⟨j,u,rfl,rfl⟩|⟨y,u,rfl,rfl⟩
   .rw[LQ] at h;exact Ķ x t j u _ _ _ _ h
   .rw[Lg] at h;exact wpAny_eqBool_str h
 «strs»:=λk x t v h=>by
  rcases cA h with⟨i,u,rfl,e⟩|⟨y,u,rfl,e⟩
  .exact nomatch e
  .injection e with e1 _;subst e1;cases v<;>rfl
def x9(prog:Ò)(w:Û)(i:Int)(t:Tok):(c5 prog w).is (.inl i) (.int i t)=Â:=Cj i t
def xf(prog:Ò)(w:Û)(x:Í)(t:Tok):(c5 prog w).is (.inr x) (.str x t)=Â:=Dh x t
def bI(b:Bool):Int:=if b then 1 else 0
noncomputable def Ol(k:Int)(v:Å):Bool:=match v with
 |.int i _=>i==k
 |.bool b=>bI b==k
 |_=>Á
def cY{k:Int}{v:Å}(h:Ol k v=Â):(∃t,v=ģ k t)\/∃b,k=bI b/\v=Į b:=by
 cases v with
 |int i t=>exact .inl #[t,by rw[eq_of_beq (show(i==k)=Â from h)]]
 |bool b=>exact .inr #[b,(eq_of_beq (show(bI b==k)=Â from h)).symm,rfl]
 |_=>exact nomatch h
def v9{prog:Ò}{E:Å->Ç->Prop}{b:Bool}{Q:Int->Ç->Prop}(h:Q (hashInt (bI b)) {s with toks:=s.toks+1}):Î (Ñ prog w) A (pyHash (.bool b)) Q E s:=by
 refine PySem.W.pyHash_slot (T:="bool") rfl F.slot_bool_hash entry_int_hash (args_int_hash _) (beq_builtin_none _) (.inl rfl) ?_;cases b
 .exact(show Î _ _ (do ζ (<-mkInt 0)) _ _ s from V5 (wpAny_mkInt (Wi #[0,_,rfl,h])))
 .exact(show Î _ _ (do ζ (<-mkInt 1)) _ _ s from V5 (wpAny_mkInt (Wi #[1,_,rfl,h])))
def I_(a b:Int):decide (a=b)=(a==b):=by
 by_cases e:a=b
 .subst e;simp
 .rw[Wv e];exact(ZZ.mpr e).symm
def Ai(prog:Ò)(w:Û):Κ prog w Int where
 is:=Ol
 hash:=hashInt
 inj:=λv a b ha d=>by
  rcases cY ha with⟨t,rfl⟩|⟨x,rfl,rfl⟩
  .rcases cY d with⟨u,e⟩|⟨y,rfl,e⟩
   .injection e
   .cases e
  .rcases cY d with⟨u,e⟩|⟨y,rfl,e⟩
   .cases e
   .injection e with e;rw[e]
 byValue:=λk v h=>by
  rcases cY h with⟨t,rfl⟩|⟨x,rfl,rfl⟩<;>rfl
 pyHash:=λc h=>by
  rcases cY c with⟨t,rfl⟩|⟨x,rfl,rfl⟩
  .exact Ϛ h
  .exact v9 h
 eqBool:=λ{A E s a b u v Q} f c h=>by
  rw[I_] at h;rcases cY f with⟨t,rfl⟩|⟨x,rfl,rfl⟩
  .rcases cY c with⟨t',rfl⟩|⟨y,rfl,rfl⟩
   .exact ϛ h
   .exact Ĳ _ t y _ _ _ _ h
  .rcases cY c with⟨t',rfl⟩|⟨y,rfl,rfl⟩
   .exact ĳ x _ t' _ _ _ _ h
   .refine ı x y _ _ _ _ ?_;rw[show(x==y)=(bI x==bI y) by cases x<;>cases y<;>rfl];exact h
 «strs»:=λk x t v h=>by
  rcases cY h with⟨u,e⟩|⟨y,_,e⟩<;>cases e
def kl(k:Int×Bool):List Int:=[k.1,bI k.2]
def DY{x y:Int×Bool}(h:kl x=kl y):x=y:=by
 obtain⟨c,a⟩:=x;obtain⟨d,b⟩:=y;have h1:c=d/\bI a=bI b:=by simpa [kl] using h
 obtain⟨rfl,h2⟩:=h1;cases a<;>cases b<;>first|rfl|exact absurd h2 .b
def K0(x y:Int×Bool):decide (kl x=kl y)=decide (x=y):=decide_eq_decide.mpr #[DY,λh=>by rw[h]]
noncomputable def fc(prog:Ò)(w:Û):PySem.HeapKind prog w (Int×Bool) where
 is:=λh k a=>IsTupleKey (Ai prog w) h (kl k) a
 hash:=λk=>tupleKeyHash (Ai prog w) (kl k)
 draws:=λ_=>3
 room:=λA=>A.units<ù
 inj:=λc d=>DY (c.inj d)
 keeps:=λx i g j=>x.keeps i g j
 pyHash:=λf e h=>wpAny_pyHash_tuple f e h
 eqBool:=λ{A E s x y a b Q} f c d h=>wpAny_eqBool_tuple f c d (by rw[K0];exact h)
 quiet:=λe h=>wpAny_eqIsQuiet_tuple e h
def d7{prog:Ò}(a:A.units+1<ù):(fc prog w).room A.in1:=a
set_option genInjectivity true in
inductive V where
 |non|bl (b:Bool)|int (i:Int)|str (x:Í)|byt (b:Array UInt8)|flt (b:UInt64)|ref (a:Æ)|ty (n:String)
 deriving DecidableEq
variable{v:V}
def RelV:V->Å->Prop
 |.non,u=>u=õ
 |.bl b,u=>u=Į b
 |.int i,u=>∃t,u=ģ i t
 |.str x,u=>∃t,u=Ŭ x t
 |.byt b,u=>∃t,u=Value.bytes b t
 |.flt b,u=>∃t,u=Value.float b t
 |.ref a,u=>u=ß a
 |.ty n,u=>u=ę n
abbrev Vals:List V->List Å->Prop:=Ø RelV
def Vals.length{xs:List V}{us:List Å}(r:Vals xs us):xs.length=us.length:=Yv r
theorem Vals.get:∀{xs:List V} {us:List Å} {i:Nat} {x:V},Vals xs us->xs[i]?=À x->∃u,us[i]?=À u/\RelV x u
 |_,_,_,_,.nil,e=>by simp at e
 |_,_,0,_,.cons r _,e=>by simp at e;subst e;exact#[_,rfl,r]
 |_,_,i+1,x,.cons _ t,e=>by
  obtain⟨u,h1,h2⟩:=Vals.get (i:=i) (x:=x) t ↑e;exact#[u,↑h1,h2]
theorem Vals.set{x:V}{u:Å}(r:RelV x u):∀{xs:List V} {us:List Å} (i:Nat),Vals xs us->Vals (xs.set i x) (us.set i u)
 |_,_,_,.nil=>.nil
 |_,_,0,.cons _ t=>.cons r t
 |_,_,i+1,.cons q t=>.cons q (Vals.set r i t)
theorem Vals.append:∀{xs ys:List V} {us a:List Å},Vals xs us->Vals ys a->Vals (xs++ys) (us++a)
 |_,_,_,_,.nil,s=>s
 |_,_,_,_,.cons r t,s=>.cons r (Vals.append t s)
theorem Vals.take:∀{xs:List V} {us:List Å} (n:Nat),Vals xs us->Vals (xs.take n) (us.take n)
 |_,_,0,_=>.nil
 |_,_,_+1,.nil=>.nil
 |_,_,n+1,.cons r t=>.cons r (Vals.take n t)
theorem Vals.drop:∀{xs:List V} {us:List Å} (n:Nat),Vals xs us->Vals (xs.drop n) (us.drop n)
 |_,_,0,r=>r
 |_,_,_+1,.nil=>.nil
 |_,_,n+1,.cons _ t=>Vals.drop n t
def ng:Option V->Option Å->Prop
 |some v,À u=>RelV v u
 |none,none=>True
 |_,_=>False
def KV{κ:Type}:List (κ×V)->List (κ×Å)->Prop:=Ø fun(p:κ×V) (q:κ×Å)=>p.1=q.1/\RelV p.2 q.2
def kV:Key->V
 |.inl i=>.int i
 |.inr x=>.str x
noncomputable def kB(k:Int×Bool):List V:=[.int k.1,.bl k.2]
inductive HO where
 |lst (xs:List V)
 |tup (xs:List V)
 |dK (XV:List (Key×V))|dT (XV:List (List Key×V))
 |dB (XV:List ((Int×Bool)×V))
 |set (S:Int->Bool) (n:Nat)
 |ins (C dx:Æ) (fs:List (Í×V))
 |own (x:Æ)
 |xd (fs:List (Í×V))
 |met (f x:Æ)
 |iM (lo hi:Int)
 |frz (o:ò) (u:HO)
 |tbl (ps:Array Å)
 |ext (φ:Ý->Prop)
variable{o:HO}
abbrev Hp:=Æ->Option HO
variable{H:Hp}
noncomputable def upd(H:Hp)(a:Æ)(o:HO):Hp:=λb=>if b=a then À o else H b
def aE:upd H a o a=À o:=by unfold upd;rw[V6 rfl]
def ax(h:b≠a):upd H a o b=H b:=by unfold upd;rw[V4 h]
def AZ{u:HO}(h:H a=À o)(h':H b=À u)(d:o≠u):a≠b:=by
 intro e;subst e;rw[h] at h';exact d (Wj h')
def bX(h:H a=À o)(h':H b=none):a≠b:=by
 intro e;subst e;rw[h] at h';cases h'
section
variable(P:Ò)(w:Û)
def bT(H:Hp)(h:Ý)(a:Æ):HO->Prop
 |.lst xs=>xs.length<=sizeLine/\∃(XP:List Å) (n:Nat),Vals xs XP/\h.get? a=À {cls:=.type "list",data:=.seq XP.toArray n}
 |.tup xs=>xs.length<=sizeLine/\∃XP:List Å,Vals xs XP/\IsTup h a XP.toArray
 |.dK XV=>XV.length<=sizeLine/\(a==ê)=Á/\∃vs,KV XV vs/\h.DictOf (c5 P w) a vs
 |.dT XV=>XV.length<=sizeLine/\(a==ê)=Á/\∃xs:List (List Key×Æ×Å),
   Ø (fun(p:List Key×V) (q:List Key×Æ×Å)=>p.1=q.1/\H q.2.1=À (.tup (p.1.map kV))/\RelV p.2 q.2.2) XV xs /\
   ∃o es ep,h.get? a=À o/\o.ExactDict/\o.data=.dict es ep/\es.toList=xs.map (η (Ğ (c5 P w)))/\(xs.map (·.1)).Nodup
 |.dB XV=>XV.length<=sizeLine/\(a==ê)=Á/\∃xs:List ((Int×Bool)×Æ×Å),
   Ø (fun(p:(Int×Bool)×V) (q:(Int×Bool)×Æ×Å)=>p.1=q.1/\H q.2.1=À (.tup (kB p.1))/\RelV p.2 q.2.2) XV xs /\
   ∃o es ep,h.get? a=À o/\o.ExactDict/\o.data=.dict es ep/\es.toList=xs.map (η (fc P w))/\(xs.map (·.1)).Nodup
 |.set S n=>h.SetOf (intKind P w) a S n
 |.ins C dx fs=>H dx=À (.own a)/\fs.length<=1000/\dx≠a/\h.get? a=À (PySem.W.instObj C dx) /\
   ∃mA,h.Ns1 dx mA/\(∀f,ng (fs.lookup f) (mA f))/\PySem.Within mA (fs.map (·.1))
 |.own _=>∃o,h.get? a=À o
 |.xd fs=>∃mA,h.Ns1 a mA/\∀f,ng (fs.lookup f) (mA f)
 |.iM lo hi=>∃t u v,h.get? a=À {cls:=.type "range",data:=.fields (ã [.int lo t,.int hi u,.int 1 v])}
 |.frz o u=>h.get? a=À o/\bT H h a u
 |.tbl ps=>h.get? a=À {cls:=.none,data:=.fields ps}
 |.met f x=>h.get? a=À (Ě (.ref f) (.ref x))
 |.ext φ=>φ h/\(∃o,h.get? a=À o)/\∀h1 h2:Ý,φ h1->(∀o,h1.get? a=À o->h2.get? a=À o)->φ h2
def lz(H:Hp)(h:Ý):Prop:=∀a o,H a=À o->bT P w H h a o
end
section
variable{P:Ò}{w:Û}{H H':Hp}{h h':Ý}{a:Æ}{o:HO}
def bT.lt(x:bT P w H h a o):a<h.objs.size:=by
 cases o with
 |lst xs=>obtain⟨_,_,_,_,e⟩:=x;exact Wg e
 |tup xs=>obtain⟨_,_,_,p⟩:=x;exact p.lt
 |dK XV=>obtain⟨_,_,_,_,o,_,_,e,_⟩:=x;exact Wg e
 |dT XV=>obtain⟨_,_,_,_,o,_,_,e,_⟩:=x;exact Wg e
 |dB XV=>obtain⟨_,_,_,_,o,_,_,e,_⟩:=x;exact Wg e
 |set S n=>obtain⟨o,_,_,_,e,_⟩:=x;exact Wg e
 |ins C dx fs=>obtain⟨_,_,_,e,_⟩:=x;exact Wg e
 |own y=>obtain⟨_,e⟩:=x;exact Wg e
 |xd fs=>obtain⟨_,⟨_,_,_,e,_⟩,_⟩:=x;exact Wg e
 |iM lo hi=>obtain⟨_,_,_,e⟩:=x;exact Wg e
 |frz ob u=>obtain⟨e,_⟩:=x;exact Wg e
 |tbl ps=>exact Wg (show h.get? a=À _ from x)
 |met f y=>exact Wg (show h.get? a=À _ from x)
 |ext φ=>obtain⟨_,⟨_,e⟩,_⟩:=x;exact Wg e
theorem Paired.EO{M β:Type}{F G:M->β->Prop}:∀{c:List M} {d:List β},Ø F c d->(∀a b,F a b->G a b)->Ø G c d
 |_,_,.nil,_=>.nil
 |_,_,.cons r t,f=>.cons (f _ _ r) (Paired.EO t f)
def bT.rh(x:bT P w H h a o)(k:∀b u,(b=a\/H b=À (.own a))->h.get? b=À u->h'.get? b=À u)
  (j:∀b,H b=À (.own a)->H' b=À (.own a)) (g:∀b xs,H b=À (.tup xs)->H' b=À (.tup xs)):bT P w H' h' a o:=by
 induction o with
 |lst xs=>obtain⟨z,XP,n,r,e⟩:=x;exact#[z,XP,n,r,k _ _ (.inl rfl) e]
 |tup xs=>obtain⟨z,XP,r,ob,e,c⟩:=x;exact#[z,XP,r,ob,k _ _ (.inl rfl) e,c]
 |dK XV=>obtain⟨z,y,vs,r,ob,es,ep,e,c⟩:=x;exact#[z,y,vs,r,ob,es,ep,k _ _ (.inl rfl) e,c]
 |dT XV =>
  obtain⟨z,y,xs,r,ob,es,ep,e,c⟩:=x;exact#[z,y,xs,Paired.EO r λp q z=>#[z.1,g _ _ z.2.1,z.2.2],ob,es,ep,k _ _ (.inl rfl) e,c]
 |dB XV =>
  obtain⟨z,y,xs,r,ob,es,ep,e,c⟩:=x;exact#[z,y,xs,Paired.EO r λp q z=>#[z.1,g _ _ z.2.1,z.2.2],ob,es,ep,k _ _ (.inl rfl) e,c]
 |set S n=>obtain⟨ob,es,ep,t,e,c⟩:=x;exact#[ob,es,ep,t,k _ _ (.inl rfl) e,c]
 |ins C dx fs =>
  obtain⟨d,z,ne,e,mA,⟨od,es,ep,e2,c⟩,r⟩:=x;exact#[j _ d,z,ne,k _ _ (.inl rfl) e,mA,#[od,es,ep,k _ _ (.inr d) e2,c],r]
 |own y=>obtain⟨ob,e⟩:=x;exact#[ob,k _ _ (.inl rfl) e]
 |xd fs=>obtain⟨mA,⟨od,es,ep,e,c⟩,r⟩:=x;exact#[mA,#[od,es,ep,k _ _ (.inl rfl) e,c],r]
 |iM lo hi=>obtain⟨t,u,v,e⟩:=x;exact#[t,u,v,k _ _ (.inl rfl) e]
 |frz ob u i=>obtain⟨e,q⟩:=x;exact#[k _ _ (.inl rfl) e,i q]
 |tbl ps =>
  have e:h.get? a=À {cls:=.none,data:=.fields ps}:=x;show h'.get? a=À {cls:=.none,data:=.fields ps};exact k a _ (.inl rfl) e
 |met f y =>
  have e:h.get? a=À (Ě (.ref f) (.ref y)):=x;show h'.get? a=À (Ě (.ref f) (.ref y));exact k a _ (.inl rfl) e
 |ext φ=>obtain⟨p,⟨o,e⟩,st⟩:=x;exact#[st _ _ p λo q=>k _ _ (.inl rfl) q,#[o,k _ _ (.inl rfl) e],st]
def lz.lt(x:lz P w H h)(e:H a=À o):a<h.objs.size:=(x a o e).lt
def lz.fresh(x:lz P w H h)(e:h.objs.size<=a):H a=none:=by
 cases q:H a with
 |none=>rfl
 |some u=>exact absurd (Wx (x.lt q) e) (Yw _)
def lz.kept(x:lz P w H h)(k:∀b u,h.get? b=À u->h'.get? b=À u):lz P w H h':=λa o e =>
 (x a o e).rh (λb u _ q=>k b u q) (λ_ q=>q) λ_ _ q=>q
def lz.laid(x:lz P w H h)(k:∀b u,h.get? b=À u->h'.get? b=À u)(hp:h.objs.size<=a)(new:bT P w (upd H a o) h' a o):lz P w (upd H a o) h':=λb u e=>by
 have d:=x.fresh hp;by_cases f:b=a
 .subst f;rw[aE] at e;cases e;exact new
 .rw[ax f] at e;exact(x b u e).rh (λc v _ q=>k c v q) (λc q=>by rwa[ax (bX q d)]) λc xs q=>by rwa[ax (bX q d)]
end
def Rd(H:Hp)(a:Æ)(u:HO):Prop:=H a=À u\/∃o,H a=À (.frz o u)
def Rd.ok{h:Ý}{u:HO}(r:Rd H a u)(x:lz P w H h):bT P w H h a u:=by
 rcases r with r|⟨o,r⟩
 .exact x a u r
 .obtain⟨_,q⟩:=x a _ r;exact q
def NT:Option HO->Prop
 |some (.lst _)=>True
 |some (.dK _)=>True
 |some (.dT _)=>True
 |some (.dB _)=>True
 |some (.set _ _)=>True
 |some (.ins _ _ _)=>True
 |some (.ext _)=>True
 |_=>False
section
variable{P:Ò}{w:Û}{H:Hp}{h h':Ý}{x e:Æ}{o':HO}
def lz.write(ok:lz P w H h)(i:NT (H x))(he:e=x\/H e=À (.own x))(k:∀b u,b≠e->h.get? b=À u->h'.get? b=À u)(l:∃u,h'.get? e=À u)
  (new:bT P w (upd H x o') h' x o'):lz P w (upd H x o') h':=λb u q=>by
 have d:∀c y,H c=À (.own y)->c≠x:=λc y r z=>by subst z;rwa[r] at i
 have f:∀c xs,H c=À (.tup xs)->c≠x:=λc xs r z=>by subst z;rwa[r] at i
 by_cases j:b=x
 .subst j;rw[aE] at q;cases q;exact new
 .rw[ax j] at q;by_cases a:b=e
  .have m:H b=À (.own x):=by
    rcases he with z|z
    .exact absurd (a.trans z) j
    .rwa[a]
   rw[q] at m;cases m;obtain⟨v,n⟩:=l;exact#[v,by rwa[a]]
  .refine(ok b u q).rh (λc v g r=>k c v ?_ r) (λc r=>by rwa[ax (d c b r)]) λc xs r=>by rwa[ax (f c xs r)]
   rcases g with rfl|g
   .exact a
   .rintro rfl;rcases he with z|z
    .exact d c b g z
    .rw[g] at z;cases z;exact j rfl
end
structure Un(fs ex:List Æ)(H H':Hp)(h h':Ý):Prop where
 keep:∀b o,h.get? b=À o->H b=none->b∉fs->b∉ex->h'.get? b=À o
 slot:∀b o,h.get? b=À o->H b=none->b∈fs->b∉ex->∃sl,h'.get? b=À {o with slots:=sl}
 free:∀b o,h.get? b=À o->H b=none->b∉ex->H' b=none
 there:∀b o,h.get? b=À o->b∉ex->∃o',h'.get? b=À o'
 tups:∀b xs,H b=À (.tup xs)->H' b=À (.tup xs)
 frzs:∀b o u,H b=À (.frz o u)->H' b=À (.frz o u)
 tbls:∀b ps,H b=À (.tbl ps)->∃more,H' b=À (.tbl (ps++more))
section
variable{fs fs' ex ex':List Æ}{H H1 H2:Hp}{h h1 h2 h':Ý}{a x e:Æ}{o:HO}
def Un.any(u:Un fs ex H H1 h h1){ob:ò}(q:h.get? b=À ob)(n:H b=none)(a:b∉ex):∃d,h1.get? b=À {ob with slots:=d}:=by
 by_cases c:b∈fs
 .exact u.slot b ob q n c a
 .exact#[ob.slots,u.keep b ob q n c a]
def Un.trans(a:Un fs ex H H1 h h1)(b:Un fs ex H1 H2 h1 h2):Un fs ex H H2 h h2 where
 keep:=λc ob q n e d=>b.keep c ob (a.keep c ob q n e d) (a.free c ob q n d) e d
 slot:=λc ob q n e d=>by
  obtain⟨g,e1⟩:=a.slot c ob q n e d;obtain⟨f,e2⟩:=b.slot c _ e1 (a.free c ob q n d) e d;exact#[f,e2]
 free:=λc ob q n d=>by
  obtain⟨o',e1⟩:=a.there c ob q d;exact b.free c o' e1 (a.free c ob q n d) d
 there:=λc ob q d=>by
  obtain⟨o',e1⟩:=a.there c ob q d;exact b.there c o' e1 d
 tups:=λc xs q=>b.tups c xs (a.tups c xs q)
 frzs:=λc ob xs q=>b.frzs c ob xs (a.frzs c ob xs q)
 tbls:=λc ps q=>by
  obtain⟨m1,e1⟩:=a.tbls c ps q;obtain⟨m2,e2⟩:=b.tbls c _ e1;exact#[m1++m2,by rw[e2,ŗ]]
def Un.kept(k:∀b u,h.get? b=À u->h'.get? b=À u):Un fs ex H H h h' :=
 #[λb ob q _ _ _=>k b ob q,λb ob q _ _ _=>#[ob.slots,k b ob q],λ_ _ _ n _=>n,λb ob q _=>#[ob,k b ob q],λ_ _ q=>q,λ_ _ _ q=>q,λ_ ps q=>#[#[],by rw[q];simp]]
def Un.refl:Un fs ex H H h h:=Un.kept λ_ _ q=>q
def Un.laid(k:∀b u,h.get? b=À u->h'.get? b=À u)(hp:h.objs.size<=a)(c:H a=none):Un fs ex H (upd H a o) h h' where
 keep:=λb u q _ _ _=>k b u q
 slot:=λb u q _ _ _=>#[u.slots,k b u q]
 free:=λb u q n _=>by rwa[ax (WQ (Wx (Wg q) hp))]
 there:=λb u q _=>#[u,k b u q]
 tups:=λb xs q=>by rwa[ax (bX q c)]
 frzs:=λb u xs q=>by rwa[ax (bX q c)]
 tbls:=λb ps q=>#[#[],by rw[ax (bX q c),q];simp]
def Un.write(c:NT (H x))(he:e=x\/H e=À (.own x))(k:∀b u,b≠e->h.get? b=À u->h'.get? b=À u)(f:∃u,h'.get? e=À u):Un fs ex H (upd H x o) h h':=by
 have g:∀b,H b=none->b≠x:=λb n z=>by subst z;rwa[n] at c
 have i:∀b,H b=none->b≠e:=λb n z=>by
  subst z;rcases he with r|r
  .exact g b n r
  .rw[n] at r;cases r
 have d:∀b u,H b=À u->¬NT (À u)->b≠x:=λb u q nm z=>by subst z;rw[q] at c;exact nm c
 refine#[λb u q n _ _=>k b u (i b n) q,λb u q n _ _=>#[u.slots,k b u (i b n) q],λb u q n _=>by rwa[ax (g b n)],λb u q _=>?_,
  λb xs q=>by rwa[ax (d b _ q λz=>z)],λb u xs q=>by rwa[ax (d b _ q λz=>z)],λb ps q=>#[#[],by rw[ax (d b _ q λz=>z),q];simp]]
 by_cases a:b=e
 .subst a;exact f
 .exact#[u,k b u a q]
end
noncomputable def Pj(h:Ý)(H:Hp):List Æ:=(Ú h.objs.size).filter λa=>(H a).isSome
def vD(h:Ý)(H:Hp):Ý:=PySem.W.hideAll h (Pj h H)
def Cm(h:Ý)(H:Hp):(vD h H).objs.size=h.objs.size:=PySem.W.hideAll_size _ _
def E7{h:Ý}{o:ò}(e:h.get? b=À o)(n:H b=none):(vD h H).get? b=À o :=
 PySem.W.hideAll_get _ e λa=>by
  have q:(H b).isSome=Â:=(XR.mp a).2;rw[n] at q;simp at q
def Jw{h:Ý}{o:ò}(e:(vD h H).get? b=À o):h.get? b=À o/\H b=none:=by
 have a:h.get? b=À o:=PySem.W.of_hideAll (Pj h H) e;refine#[a,?_];cases q:H b with
 |none=>rfl
 |some x =>
  have c:b∈Pj h H:=XR.mpr #[W9.mpr (Wg a),by simp[q]];have z:(vD h H).get? b=none:=PySem.W.hideAll_none (Pj h H) c;rw[z] at e;cases e
structure Mod(K:Ã)(mg:Í->Option Å)(base:Ý):Prop where
 kin:K.In base
 glob:base.Ns Ê mg
 blt:∃mb,base.Ns ν mb/\∀x:Í,x≠"__name__"->mb x=þ x
 nolimit:base.NoLimit
/-- the context: a def's body (or a comprehension's block) running. base: fixed through the whole law; s₀, H₀: the entry; outer: the frames whose slots others may change (a def's callers); stack: all frames that run;
   ex: iterators that were made ahead of the entry and are walked here (a comprehension's);fn: the names whose cells were made at the entry (a def: all;a comprehension's block: XP own);calm: not within an except suite;pn: ZB that every state bears;xe: what is wanted of an exception that leaves the code -/
structure Cx where
 prog:Ò
 w:Û
 K:Ã
 mg:Í->Option Å
 base:Ý
 A:á
 N:List Í
 s₀:Ç
 H₀:Hp
 env:ė
 outer:List ė
 stack:List ė
 ex:List Æ
 fn:Í->Bool
 calm:Bool
 pn:List (Æ×ò)
 xe:Å->Ç->Prop
variable{X:Cx}
noncomputable def s_(l:List ė):List Æ:=l.filterMap (·.frame)
abbrev Cx.fs(X:Cx):List Æ:=s_ X.outer
def Hq(a:ú)(x:Í):Prop:=a.names.lookup x=À .local\/a.names.lookup x=À .cell\/a.names.lookup x=À .free
def Loc(a:ú)(x:Í):Prop:=a.names.lookup x=À .local\/a.names.lookup x=À .cell
def Look(env:ė)(h:Ý)(m:Í->Option Å)(x:Í)(u:Å):Prop :=
 (env.kindOf x=À .local/\m x=À u)\/((env.kindOf x=À .cell\/env.kindOf x=À .free)/\∃c,env.cells.lookup x=À c/\h.IsCell c (À u))
structure Cx.Ok(X:Cx):Prop where
 mod:Mod X.K X.mg X.base
 kind:X.env.scope.kind=.function
 glob:X.env.globals=Ê
 blt:X.env.builtins=ν
 above:X.s₀.heap.objs.size<=X.env.locals
 inj:∀x y c,X.env.cells.lookup x=À c->X.env.cells.lookup y=À c->x=y
 has:∀x,(X.env.kindOf x=À .cell\/X.env.kindOf x=À .free)->∃c,X.env.cells.lookup x=À c
 cab:∀x c,X.fn x=Â->X.env.cells.lookup x=À c->X.s₀.heap.objs.size<=c
 hd:X.calm=Â->X.A.handled=none
 frames:X.A.frames=À X.stack
 stk:X.stack=X.outer\/(X.stack=X.env::X.outer/\X.env.frame=À X.env.locals)
 exf:∀b∈X.ex,b≠X.env.locals/\∀x c,X.env.cells.lookup x=À c->c≠b
 bs:∀b o,X.base.get? b=À o->X.s₀.heap.get? b=À o/\X.H₀ b=none
 bsz:X.base.objs.size<=X.s₀.heap.objs.size
 noex:∀b o,X.base.get? b=À o->b∉X.ex
 exfs:∀b∈X.ex,b∉X.fs
 j6:X.s₀.heap.FunFrames X.base X.outer
 frf:∀b∈X.fs,X.H₀ b=none
structure Inv(X:Cx)(ZB:List (Æ×ò))(Y:List (Option V))(H:Hp)(s:Ç):Prop where
 ok:X.Ok
 os:s.os=X.s₀.os
 bare:đ s.gens
 base:Un X.fs X.ex X.H₀ H X.s₀.heap s.heap
 loc:∃m,s.heap.Ns X.env.locals m/\∀(i:Nat) (x:Í) (v:V),X.N[i]?=À x->Y[i]?=À (À v)->Hq X.env.scope x->∃u,RelV v u/\Look X.env s.heap m x u
 cell:∀x c,X.env.cells.lookup x=À c->∃v,s.heap.IsCell c v
 free:H X.env.locals=none
 freeC:∀x c,X.env.cells.lookup x=À c->H c=none
 pin:∀p∈X.pn++ZB,s.heap.get? p.1=À p.2/\H p.1=none/\p.1≠X.env.locals/\p.1∉X.fs/\∀v,p.2.data≠.cell v
 hok:lz X.prog X.w H s.heap
 len:Y.length=X.N.length
section
variable{X:Cx}{ZB:List (Æ×ò)}{Y:List (Option V)}{H H':Hp}{s:Ç}{h':Ý}
def Cx.Ok.Qv(ok:X.Ok){o:ò}(e:X.base.get? b=À o):b∉X.fs:=λa=>by
 have:=(ok.j6.mem a).1;rw[e] at this;cases this
def Inv.bs(I:Inv X ZB Y H s):∀b o,X.base.get? b=À o->s.heap.get? b=À o/\H b=none:=λb o e =>
 #[I.base.keep b o (I.ok.bs b o e).1 (I.ok.bs b o e).2 (I.ok.Qv e) (I.ok.noex b o e),I.base.free b o (I.ok.bs b o e).1 (I.ok.bs b o e).2 (I.ok.noex b o e)]
def Inv.bk(I:Inv X ZB Y H s):∀b o,X.base.get? b=À o->s.heap.get? b=À o:=λb o e=>(I.bs b o e).1
def Inv.mod(I:Inv X ZB Y H s):Mod X.K X.mg X.base:=I.ok.mod
def Inv.Dj(I:Inv X ZB Y H s):X.K.In s.heap:=I.ok.mod.kin.keeps I.bk
def Inv.lt(I:Inv X ZB Y H s):X.env.locals<s.heap.objs.size:=let #[_,hn,_]:=I.loc;hn.lt
def Inv.sz(I:Inv X ZB Y H s):X.s₀.heap.objs.size<=s.heap.objs.size:=W6 I.ok.above (Xv I.lt)
def Inv.P4(I:Inv X ZB Y H s)(h:s.heap.objs.size<=a):a∉X.fs:=λb=>by
 obtain⟨_,o,c,_⟩:=I.ok.j6.mem b;exact absurd (Wx (Wg c) (W6 I.sz h)) (Yw _)
def Inv.Il(I:Inv X ZB Y H s):∀x c,X.env.cells.lookup x=À c->c≠X.env.locals:=λx c e z=>by
 obtain⟨v,o,f,d⟩:=I.cell x c e;obtain⟨m,⟨o',es,ep,a,b,_⟩,_⟩:=I.loc;rw[z,a] at f;cases f;rw[b] at d;cases d
def Inv.j6(I:Inv X ZB Y H s):s.heap.FunFrames X.base X.outer:=by
 have all:∀(l:List ė),(∀b∈s_ l,b∈X.fs)->X.s₀.heap.FunFrames X.base l->s.heap.FunFrames X.base l:=by
  intro l
  induction l with
  |nil=>intro _ _;trivial
  |cons env r h =>
   intro f g;obtain⟨k,⟨L,o,d,m,j,i⟩,n⟩:=g;have c:L∈X.fs:=f L (by unfold s_;rw[Z0,d];exact Wu);obtain⟨p,e⟩:=I.base.slot L o j (I.ok.frf L c) c λz=>I.ok.exfs L z c;exact#[k,#[L,_,d,m,e,i],h (λb a=>f b (by unfold s_;rw[Z0,d];exact We _ a)) n]
 exact all X.outer (λ_ a=>a) I.ok.j6
def Inv.stack(I:Inv X ZB Y H s):s.heap.FunFrames X.base X.stack:=by
 rcases I.ok.stk with e|⟨e,b⟩
 .rw[e];exact I.j6
 .rw[e];obtain⟨m,a,_⟩:=I.loc;refine .cons (by rw[I.ok.kind];decide) b a ?_ I.j6;exact Ō (W6 I.ok.bsz I.ok.above)
def Inv.o_(I:Inv X ZB Y H s):∀b∈s_ X.stack,b∈X.env.locals::X.fs:=λb a=>by
 rcases I.ok.stk with e|⟨e,c⟩
 .rw[e] at a;exact We _ a
 .rw[e] at a;unfold s_ at a;rwa[Z0,c] at a
def Inv.wt(I:Inv X ZB Y H s):∀b∈s_ X.stack,H b=none:=λb a=>by
 rcases V8.mp (I.o_ b a) with e|a
 .rw[e];exact I.free
 .obtain⟨_,o,c,_⟩:=I.ok.j6.mem a;exact I.base.free b o c (I.ok.frf b a) λz=>I.ok.exfs b z a
def Inv.step{g':Array GenState}{d':Drawn}(I:Inv X ZB Y H s)
  (g:∀b∈ch,(b∈X.ex\/X.s₀.heap.objs.size<=b)/\b≠X.env.locals/\(∀x c,X.env.cells.lookup x=À c->c≠b)/\∀p∈X.pn++ZB,p.1≠b)
  (keep:∀b o,b≠X.env.locals->b∉X.fs->b∉ch->s.heap.get? b=À o->H b=none->h'.get? b=À o)
  (slot:∀b o,b≠X.env.locals->b∈X.fs->b∉ch->s.heap.get? b=À o->H b=none->∃F,h'.get? b=À {o with slots:=F}) (free:∀b o,b∉ch->s.heap.get? b=À o->H b=none->H' b=none)
  (there:∀b o,b∉ch->s.heap.get? b=À o->∃o',h'.get? b=À o')
  (B:∀b xs,H b=À (.tup xs)->H' b=À (.tup xs)) (A:∀b o u,H b=À (.frz o u)->H' b=À (.frz o u)) (C:∀b ps,H b=À (.tbl ps)->∃more,H' b=À (.tbl (ps++more)))
  (ns:∀m,s.heap.Ns X.env.locals m->h'.Ns X.env.locals m) (D:lz X.prog X.w H' h') (α:đ g'):
  Inv X ZB Y H' {s with heap:=h',gens:=g',drawn:=d',toks:=t'}:=by
 have y:∀b o,X.s₀.heap.get? b=À o->b≠X.env.locals:=λb o e=>WQ (Wx (Wg e) I.ok.above)
 have h:∀b o,X.s₀.heap.get? b=À o->b∉X.ex->b∉ch:=λb o e a j=>by
  rcases(g b j).1 with z|z
  .exact a z
  .exact absurd (Wx (Wg e) z) (Yw _)
 have cellK:∀x c,X.env.cells.lookup x=À c->∀v,s.heap.IsCell c v->h'.IsCell c v:=λx c e v ⟨o,t,E⟩=>by
  have f:c∉ch:=λz=>(g c z).2.2.1 x c e rfl;by_cases J:c∈X.fs
  .obtain⟨F,q⟩:=slot c o (I.Il x c e) J f t (I.freeC x c e);exact#[_,q,E]
  .exact#[o,keep c o (I.Il x c e) J f t (I.freeC x c e),E]
 refine#[I.ok,I.os,α,#[λb o e n j a=>?_,λb o e n j a=>?_,λb o e n a=>?_,λb o e a=>?_,λb xs e=>B b xs (I.base.tups b xs e),λb o xs e=>A b o xs (I.base.frzs b o xs e),λb ps e=>?_],?_,λx c e=>?_,?_,λx c e=>?_,λp hp=>?_,D,I.len]
 .exact keep b o (y b o e) j (h b o e a) (I.base.keep b o e n j a) (I.base.free b o e n a)
 .obtain⟨F,e1⟩:=I.base.slot b o e n j a;obtain⟨G,e2⟩:=slot b _ (y b o e) j (h b o e a) e1 (I.base.free b o e n a);exact#[G,e2]
 .obtain⟨o',e1⟩:=I.base.there b o e a;exact free b o' (h b o e a) e1 (I.base.free b o e n a)
 .obtain⟨o',e1⟩:=I.base.there b o e a;exact there b o' (h b o e a) e1
 .obtain⟨m1,e1⟩:=I.base.tbls b ps e;obtain⟨m2,e2⟩:=C b _ e1;exact#[m1++m2,by rw[e2,ŗ]]
 .obtain⟨m,N,L⟩:=I.loc;refine#[m,ns m N,λi x v e1 e2 e3=>?_];obtain⟨u,r,l⟩:=L i x v e1 e2 e3;refine#[u,r,?_];rcases l with l|⟨k,c,e,z⟩
  .exact .inl l
  .exact .inr #[k,c,e,cellK x c e _ z]
 .obtain⟨v,z⟩:=I.cell x c e;exact#[v,cellK x c e v z]
 .obtain⟨m,⟨o,_,_,t,_⟩,_⟩:=I.loc;exact free _ o (λz=>(g _ z).2.1 rfl) t I.free
 .obtain⟨v,o,t,E⟩:=I.cell x c e;exact free c o (λz=>(g c z).2.2.1 x c e rfl) t (I.freeC x c e)
 .obtain⟨e,n,ne,K,d⟩:=I.pin p hp;have f:p.1∉ch:=λz=>(g p.1 z).2.2.2 p hp rfl;exact#[keep p.1 p.2 ne K f e n,free p.1 p.2 f e n,ne,K,d]
def Inv.un(I:Inv X ZB Y H s)(u:Un X.fs [] H H' s.heap h')(c:lz X.prog X.w H' h'):Inv X ZB Y H' {s with heap:=h',toks:=t'}:=by
 obtain⟨m,⟨o,es,ep,h,r⟩,_⟩:=id I.loc;obtain⟨l,k⟩:=u.any h I.free .c
 exact I.step (g':=s.gens) (d':=s.drawn) (ch:=[]) (λ_ z=>nomatch z) (λb o _ f _ e n=>u.keep b o e n f .c) (λb o _ f _ e n=>u.slot b o e n f .c) (λb o _ e n=>u.free b o e n .c) (λb o _ e=>u.there b o e .c) u.tups u.frzs u.tbls (λp j=>by
  obtain⟨o',d,g,a,i⟩:=j;rw[h] at a;cases a
  exact#[_,d,g,k,i]) c I.bare
def Inv.call{g':Array GenState}{d':Drawn}(I:Inv X ZB Y H s)(u:Un (s_ X.stack) ch H H' s.heap h')(g:lz X.prog X.w H' h')(l:đ g')
  (f:∀b∈ch,(b∈X.ex\/X.s₀.heap.objs.size<=b)/\b≠X.env.locals/\(∀x c,X.env.cells.lookup x=À c->c≠b)/\∀p∈X.pn++ZB,p.1≠b):
  Inv X ZB Y H' {s with heap:=h',gens:=g',drawn:=d',toks:=t'}:=by
 obtain⟨m,⟨o,es,ep,k,r⟩,_⟩:=id I.loc;obtain⟨y,j⟩:=u.any k I.free λz=>(f _ z).2.1 rfl
 exact I.step (ch:=ch) f (λb o j q a e n=>u.keep b o e n (λz=>(V8.mp (I.o_ b z)).elim j q) a) (λb o _ _ a e n=>u.any e n a) (λb o a e n=>u.free b o e n a) (λb o a e=>u.there b o e a) u.tups u.frzs u.tbls (λA v=>by
  obtain⟨o',h,i,d,t⟩:=v;rw[k] at d;cases d
  exact#[_,h,i,j,t]) g l
def Inv.turned{it:Æ}(I:Inv X ZB Y H s)(k:∀b o,b≠it->s.heap.get? b=À o->h'.get? b=À o)(i:H it=none)(f:it≠X.env.locals)
  (h1:it∈X.ex\/X.s₀.heap.objs.size<=it) (h2:∀x c,X.env.cells.lookup x=À c->c≠it) (h:∀p∈X.pn++ZB,p.1≠it):Inv X ZB Y H {s with heap:=h',toks:=t'}:=by
 have d:∀b u,H b=À u->b≠it:=λb u e z=>by rw[z,i] at e;cases e
 refine I.step (g':=s.gens) (d':=s.drawn) (ch:=[it]) (λb j=>?_) (λb o _ _ a e _=>k b o (λz=>a (by simp[z])) e) (λb o _ _ a e _=>#[o.slots,k b o (λz=>a (by simp[z])) e]) (λ_ _ _ _ n=>n)
  (λb o a e=>#[o,k b o (λz=>a (by simp[z])) e]) (λ_ _ e=>e) (λ_ _ _ e=>e) (λb ps e=>#[#[],by rw[e];simp]) (λm l=>?_) (λb u e=>?_) I.bare
 .have e:b=it:=by simpa using j
  subst e;exact#[h1,f,h2,h]
 .obtain⟨o,es,ep,g,r⟩:=l;exact#[o,es,ep,k _ o (Xm f) g,r]
 .refine(I.hok b u e).rh (λc v a q=>k c v ?_ q) (λ_ q=>q) λ_ _ q=>q;rcases a with z|z
  .rw[z];exact d b u e
  .exact d c _ z
def Inv.tok(I:Inv X ZB Y H s)(t:Nat):Inv X ZB Y H {s with toks:=t}:=I.un (h':=s.heap) (t':=t) Un.refl I.hok
def Inv.kept{t':Nat}(I:Inv X ZB Y H s)(k:∀b u,s.heap.get? b=À u->h'.get? b=À u):Inv X ZB Y H {s with heap:=h',toks:=t'}:=I.un (Un.kept k) (I.hok.kept k)
def Inv.laid{a:Æ}{o:HO}{t':Nat}(I:Inv X ZB Y H s)(k:∀b u,s.heap.get? b=À u->h'.get? b=À u)(hp:s.heap.objs.size<=a)(new:bT X.prog X.w (upd H a o) h' a o):
  Inv X ZB Y (upd H a o) {s with heap:=h',toks:=t'}:=I.un (Un.laid k hp (I.hok.fresh hp)) (I.hok.laid k hp new)
def Inv.write{x e:Æ}{o:HO}{t':Nat}(I:Inv X ZB Y H s)(c:NT (H x))(he:e=x\/H e=À (.own x))(k:∀b u,b≠e->s.heap.get? b=À u->h'.get? b=À u)(a:∃u,h'.get? e=À u)
  (new:bT X.prog X.w (upd H x o) h' x o):Inv X ZB Y (upd H x o) {s with heap:=h',toks:=t'}:=I.un (Un.write c he k a) (I.hok.write c he k a new)
def Inv.weak{Y':List (Option V)}(I:Inv X ZB Y H s)(a:Y'.length=Y.length)(w:∀(i:Nat) v,Y'[i]?=À (À v)->Y[i]?=À (À v)):Inv X ZB Y' H s :=
 #[I.ok,I.os,I.bare,I.base,let #[m,hn,hl']:=I.loc;#[m,hn,λi x v e1 e2 e3=>hl' i x v e1 (w i v e2) e3],I.cell,I.free,I.freeC,I.pin,I.hok,a.trans I.len]
def Inv.nD{a:List (Æ×ò)}(I:Inv X ZB Y H s)(h:∀p∈a,s.heap.get? p.1=À p.2/\H p.1=none/\p.1≠X.env.locals/\p.1∉X.fs/\∀v,p.2.data≠.cell v):Inv X a Y H s :=
 #[I.ok,I.os,I.bare,I.base,I.loc,I.cell,I.free,I.freeC,λp hp=>(W2.mp hp).elim (λz=>I.pin p (Xg _ z)) (h p),I.hok,I.len]
def rZ{N:List Í}(c:N.Nodup){j:Nat}(a:N[i]?=À x)(b:N[j]?=À x):i=j:=by
 obtain⟨h1,e1⟩:=Wd.mp a;obtain⟨h2,e2⟩:=Wd.mp b;exact(List.getElem_inj c).mp (e1.trans e2.symm)
def Dm{E:Å->Ç->Prop}{Q:Unit->Ç->Prop}(I:Inv X ZB Y H s)(hN:X.N.Nodup)(hi:X.N[i]?=À x)(l:Loc X.env.scope x)(r:RelV v u)
  (h:∀s',Inv X ZB (Y.set i (À v)) H s'->(∃a,ć a s.heap s'.heap/\(a=X.env.locals\/X.env.cells.lookup x=À a))->Q () s') (hf:autoParam (X.fn x=Â\/X.env.scope.names.lookup x=À .local) zrf):Î α A (storeName X.env x u) Q E s:=by
 obtain⟨m,σ,hl⟩:=id I.loc;have P:(X.env.scope.kind==.class || (X.env.scope.kind==.module&&X.env.locals != X.env.globals))=Á:=by rw[I.ok.kind];rfl
 have J:i<Y.length:=by rw[I.len];exact(Wd.mp hi).1
 have Il:=I.Il
 have tracked:∀{a:Æ} {h':Ý},(∃o,s.heap.get? a=À o/\H a=none)->ć a s.heap h'->lz X.prog X.w H h':=λ{a h'} ha f b ob e=>by
  obtain⟨_,_,t⟩:=ha;refine(I.hok b ob e).rh (λc R g q=>(f.2 c ?_).trans q) (λ_ q=>q) λ_ _ q=>q;rintro rfl;rcases g with rfl|g
  .rw[t] at e;cases e
  .rw[t] at g;cases g
 rcases l with B|B
 .refine wpAny_storeName_local B σ (λh' W f=>?_) P;obtain⟨oL,_,_,Γ,_⟩:=id σ;refine h _ #[I.ok,I.os,I.bare,#[λb o e n D l=>?_,λb o e n D l=>?_,I.base.free,λb o e l=>?_,I.base.tups,I.base.frzs,I.base.tbls],#[_,W,λj y S e1 e2 e3=>?_],λy c e=>?_,I.free,I.freeC,λp hp=>?_,tracked #[oL,Γ,I.free] f,↑I.len] #[_,f,.inl rfl]
  .exact(f.2 b (WQ (Wx (Wg e) I.ok.above))).trans (I.base.keep b o e n D l)
  .obtain⟨sl,e1⟩:=I.base.slot b o e n D l;exact#[sl,(f.2 b (WQ (Wx (Wg e) I.ok.above))).trans e1]
  .obtain⟨o',e1⟩:=I.base.there b o e l;exact#[o',(f.2 b (WQ (Wx (Wg e) I.ok.above))).trans e1]
  .by_cases C:j=i
   .subst C;rw[hi] at e1;cases e1;rw[Zt J] at e2;cases e2;exact#[u,r,.inl #[B,.c]]
   .rw[XU (Xm C)] at e2;obtain⟨Z,T,q⟩:=hl j y S e1 e2 e3;refine#[Z,T,?_];rcases q with⟨k,e⟩|⟨k,c,e,z⟩
    .refine .inl #[k,?_];have:y≠x:=λe=>C (rZ hN e1 (e▸hi));simp[this,e]
    .exact .inr #[k,c,e,z.sameBut f (Il y c e)]
  .obtain⟨R,z⟩:=I.cell y c e;exact#[R,z.sameBut f (Il y c e)]
  .obtain⟨e,n,ne,V,d⟩:=I.pin p hp;exact#[(f.2 p.1 ne).trans e,n,ne,V,d]
 .have F:X.fn x=Â:=by
   rcases hf with z|z
   .exact z
   .rw[z] at B;cases B
  obtain⟨c,g⟩:=I.ok.has x (.inl B);obtain⟨R,z⟩:=I.cell x c g;refine wpAny_storeName_cell I.ok.kind B g z (λh' O f=>?_);obtain⟨oc,G,L⟩:=id z;refine h {s with heap:=h'} #[I.ok,I.os,I.bare,#[λb o e n D l=>?_,λb o e n D l=>?_,I.base.free,λb o e l=>?_,I.base.tups,I.base.frzs,I.base.tbls],#[m,σ.sameBut f (Xm (Il x c g)),λj y S e1 e2 e3=>?_],λy c' e=>?_,I.free,I.freeC,λp hp=>?_,tracked #[oc,G,I.freeC x c g] f,↑I.len] #[c,f,.inr g]
  .exact(f.2 b (WQ (Wx (Wg e) (I.ok.cab x c F g)))).trans (I.base.keep b o e n D l)
  .obtain⟨sl,e1⟩:=I.base.slot b o e n D l;exact#[sl,(f.2 b (WQ (Wx (Wg e) (I.ok.cab x c F g)))).trans e1]
  .obtain⟨o',e1⟩:=I.base.there b o e l;exact#[o',(f.2 b (WQ (Wx (Wg e) (I.ok.cab x c F g)))).trans e1]
  .by_cases C:j=i
   .subst C;rw[hi] at e1;cases e1;rw[Zt J] at e2;cases e2;exact#[u,r,.inr #[.inl B,c,g,O]]
   .rw[XU (Xm C)] at e2;obtain⟨Z,T,q⟩:=hl j y S e1 e2 e3;refine#[Z,T,?_];rcases q with q|⟨k,c',e,z'⟩
    .exact .inl q
    .refine .inr #[k,c',e,z'.sameBut f ?_];rintro rfl;exact C (rZ hN e1 (I.ok.inj _ _ _ e g▸hi))
  .by_cases K:c'=c
   .subst K;exact#[_,O]
   .obtain⟨w2,z2⟩:=I.cell y c' e;exact#[w2,z2.sameBut f K]
  .obtain⟨e,n,ne,V,d⟩:=I.pin p hp;refine#[(f.2 p.1 ?_).trans e,n,ne,V,d];intro q;rw[q,G] at e;have q':oc=p.2:=Wj e;exact d R (by rwa[<-q'])
def qX{E:Å->Ç->Prop}{Q:Unit->Ç->Prop}(I:Inv X ZB Y H s)(a:X.N.Nodup)(hi:X.N[i]?=À x)(b:Loc X.env.scope x)(r:RelV v u)
  (h:∀s',Inv X ZB (Y.set i (À v)) H s'->Q () s') (d:autoParam (X.fn x=Â\/X.env.scope.names.lookup x=À .local) zrf):Î α A (storeName X.env x u) Q E s :=
 Dm I a hi b r (λs' c _=>h s' c) d
def Inv.JV{s':Ç}(I:Inv X ZB Y H s)(f:s'.os=s.os)(u:Un (s_ X.stack) ch H H' s.heap s'.heap)(a:lz X.prog X.w H' s'.heap)(g:đ s'.gens)
  (d:∀b∈ch,(b∈X.ex\/X.s₀.heap.objs.size<=b)/\b≠X.env.locals/\(∀x c,X.env.cells.lookup x=À c->c≠b)/\∀p∈X.pn++ZB,p.1≠b):Inv X ZB Y H' s':=by
 obtain⟨h',g',d',t',o'⟩:=s';have e:o'=s.os:=f;subst e;exact I.call (g':=g') (t':=t') (d':=d') u a g d
end
abbrev XK:=Å->Option Æ->Hp->Prop
abbrev St:=List (Option V)
variable{Y:St}
abbrev VK:=V->Hp->Prop
variable{Q:VK}
abbrev TE:=St->Hp->VK->Prop
abbrev TT:=St->Hp->(Bool->Hp->Prop)->Prop
abbrev TA:=St->Hp->(List V->Hp->Prop)->Prop
structure Ends where
 nx:St->Hp->Prop
 rt:VK
 bk:St->Hp->Prop:=λ_ _=>False
 ct:St->Hp->Prop:=λ_ _=>False
abbrev TS:=Ends->St->Hp->Prop
variable{tb:TS}
def EP(X:Cx)(ZB:List (Æ×ò))(Y:St)(Q:VK)(u:Å)(s':Ç):Prop:=∃v H',Inv X ZB Y H' s'/\RelV v u/\Q v H'
def TP(X:Cx)(ZB:List (Æ×ò))(Y:St)(Q:Bool->Hp->Prop)(b:Bool)(s':Ç):Prop:=∃H',Inv X ZB Y H' s'/\Q b H'
def AP(X:Cx)(ZB:List (Æ×ò))(Y:St)(Q:List V->Hp->Prop)(us:List Å)(s':Ç):Prop:=∃vs H',Inv X ZB Y H' s'/\Vals vs us/\Q vs H'
def SP(X:Cx)(ZB:List (Æ×ò))(D:Ends)(f:Flow)(s':Ç):Prop :=
 match f with
 |.next=>∃Y' H',Inv X ZB Y' H' s'/\D.nx Y' H'
 |.brk=>∃Y' H',Inv X ZB Y' H' s'/\D.bk Y' H'
 |.cont=>∃Y' H',Inv X ZB Y' H' s'/\D.ct Y' H'
 |.ret u=>∃v Y' H',Inv X ZB Y' H' s'/\RelV v u/\D.rt v H'
def PE(X:Cx)(e:Õ)(t:TE):Prop :=
 ∀(ZB:List (Æ×ò)) (s:Ç) (Y:St) (H:Hp) (Q:VK),Inv X ZB Y H s->t Y H Q->Î .E X.A (Ö e X.env) (EP X ZB Y Q) X.xe s
def PT(X:Cx)(e:Õ)(t:TT):Prop :=
 ∀(ZB:List (Æ×ò)) (s:Ç) (Y:St) (H:Hp) (Q:Bool->Hp->Prop),Inv X ZB Y H s->t Y H Q->Î .E X.A (ū e X.env (Ö e X.env)) (TP X ZB Y Q) X.xe s
def PW(X:Cx)(e:Õ)(t:TT):Prop :=
 ∀(whole:Sem Å) (ZB:List (Æ×ò)) (s:Ç) (Y:St) (H:Hp) (Q:Bool->Hp->Prop),Inv X ZB Y H s->t Y H Q->Î .E X.A (ū e X.env whole) (TP X ZB Y Q) X.xe s
def PW.pt{t:TT}(h:PW X e t):PT X e t:=h _
def PA(X:Cx)(es:List Õ)(t:TA):Prop :=
 ∀(pos:é) (ZB:List (Æ×ò)) (s:Ç) (Y:St) (H:Hp) (Q:List V->Hp->Prop),Inv X ZB Y H s->t Y H Q->Î .E X.A (spliced (æ pos (Ä es X.env))) (AP X ZB Y Q) X.xe s
def PS(X:Cx)(st:Ð)(t:TS):Prop :=
 ∀(ZB:List (Æ×ò)) (s:Ç) (Y:St) (H:Hp) (D:Ends),Inv X ZB Y H s->t D Y H->Î .E X.A (exec st X.env) (SP X ZB D) X.xe s
def mP(X:Cx)(st:List Ð)(t:TS):Prop :=
 ∀(ZB:List (Æ×ò)) (s:Ç) (Y:St) (H:Hp) (D:Ends),Inv X ZB Y H s->t D Y H->Î .E X.A (execs st X.env) (SP X ZB D) X.xe s
def b9{M:Type}{t:Sem M}{Q b:M->Ç->Prop}{E:Å->Ç->Prop}(h:Î α A t Q E s)(c:∀a s,Q a s->b a s):Î α A t b E s:=Xl h c λ_ _ x=>x
section
variable{X:Cx}
def OW(i:Nat):TE:=λY H Q=>∃v,Y[i]?=À (À v)/\Q v H
def tC(v:V):TE:=λ_ H Q=>Q v H
def Mj(n:X.N[i]?=À x)(k:Hq X.env.scope x)(d:autoParam ((x==("__debug__":Í))=Á) zrb)(f:autoParam ((x==("__classdict__":Í))=Á) zrb):PE X (.Name x pos) (OW i):=by
 intro ZB s Y H Q I h;obtain⟨v,e,h⟩:=h;obtain⟨m,o,j⟩:=I.loc;obtain⟨u,r,l⟩:=j i x v n e k;have fin:EP X ZB Y Q u s:=#[v,H,I,r,h];rcases l with⟨b,p⟩|⟨b,c,g,a⟩
 .exact Χ (wpAny_loadName_local I.ok.kind b o p fin) d
 .rcases b with b|b
  .exact Χ (wpAny_loadName_cell I.ok.kind b g a fin) d
  .exact Χ (wpAny_loadName_free I.ok.kind b g a fin f) d
def MQ{i j pos}:PE X (.Constant (.int i) j pos) (tC (.int i)):=λ_ _ _ H _ I h=>wpAny_Constant_int #[.int i,H,I.tok _,#[_,rfl],h]
def Kk{b j pos}:PE X (.Constant (.bool b) j pos) (tC (.bl b)):=λ_ _ _ H _ I h=>Constant_bool #[.bl b,H,I,rfl,h]
def LD{j pos}:PE X (.Constant .none j pos) (tC .non):=λ_ _ _ H _ I h=>Ŗ #[.non,H,I,rfl,h]
def Gq{x j pos}:PE X (.Constant (.str x) j pos) (tC (.str x)):=λ_ _ _ H _ I h=>Calls.Constant_str #[.str x,H,I.tok _,#[_,rfl],h]
def Gl(X:Cx)(x:Í):Prop:=X.env.kindOf x=À .globalImplicit
def jB{E:Å->Ç->Prop}{Q:Å->Ç->Prop}(I:Inv X ZB Y H s)(a:Gl X x)(b:X.mg x=À u)(h:Q u s)
  (c:autoParam ((x==("__debug__":Í))=Á) zrb):Î .E X.A (Ö (.Name x pos) X.env) Q E s :=
 aag I.ok.kind a (Calls.loadGlobal_global (by rw[I.ok.glob];exact I.mod.glob.keeps I.bk) b h) c
def kg{E:Å->Ç->Prop}{Q:Å->Ç->Prop}(I:Inv X ZB Y H s)(e:Gl X x)(c:X.mg x=none)(b:þ x=À u)(h:Q u s)
  (a:autoParam (x≠"__name__") zrb) (d:autoParam ((x==("__debug__":Í))=Á) zrb):Î .E X.A (Ö (.Name x pos) X.env) Q E s:=by
 obtain⟨f,h1,h2⟩:=I.mod.blt;exact aag I.ok.kind e (Calls.loadGlobal_builtin (by rw[I.ok.glob];exact I.mod.glob.keeps I.bk) c (by rw[I.ok.blt];exact h1.keeps I.bk) ((h2 x a).trans b) h) d
def BE(c:Gl X x)(a:X.mg x=À u)(r:RelV v u)(b:autoParam ((x==("__debug__":Í))=Á) zrb):PE X (.Name x pos) (tC v) :=
 λ_ _ _ H _ I h=>jB I c a #[v,H,I,r,h] b
def BV(e:Gl X x)(c:X.mg x=none)(b:þ x=À u)(r:RelV v u)(a:autoParam (x≠"__name__") zrb)(d:autoParam ((x==("__debug__":Í))=Á) zrb):PE X (.Name x pos) (tC v) :=
 λ_ _ _ H _ I h=>kg I e c b #[v,H,I,r,h] a d
variable{a b:Õ}{ta tb:TE}{pos:é}
def PC(X:Cx)(op:ť)(a b:Õ)(t:TE):Prop :=
 ∀(ZB:List (Æ×ò)) (s:Ç) (Y:St) (H:Hp) (Q:VK),Inv X ZB Y H s->t Y H Q ->
  Î .E X.A (Ö a X.env) (λv c=>Î .E X.A (Ö b X.env) (λu d=>Î .E X.A (ä op v u) (EP X ZB Y Q) X.xe d) X.xe c) X.xe s
def w6(b:Õ)(h:op≠.In)(h2:op≠.NotIn):ñ op b=Á:=by
 have e1:(op==CmpOp.In)=Á:=by cases op<;>first|rfl|exact absurd rfl h
 have e2:(op==ϖ)=Á:=by cases op<;>first|rfl|exact absurd rfl h2
 cases b<;>simp[ñ,e1,e2]
def PD(ta:TE):TE:=λY H Q=>ta Y H λx H1=>Q (.bl (decide (x=.non))) H1
def OV(ta:TE):TE:=λY H Q=>ta Y H λx H1=>Q (.bl (!decide (x=.non))) H1
def RelV.xN{x:V}{v:Å}(r:RelV x v):(v==õ)=decide (x=.non):=by
 cases x with
 |non=>cases r;rfl
 |bl _=>cases r;rfl
 |int _=>obtain⟨t,rfl⟩:=r;rfl
 |str _=>obtain⟨t,rfl⟩:=r;rfl
 |byt _=>obtain⟨t,rfl⟩:=r;rfl
 |flt _=>obtain⟨t,rfl⟩:=r;rfl
 |ref _=>cases r;rfl
 |ty _=>cases r;rfl
def yT{j pos'}(ha:PE X a ta):PC X .Is a (.Constant .none j pos') (PD ta):=by
 intro ZB s Y H Q I h;refine b9 (ha ZB s Y H _ I h) λv d ⟨x,H1,c,b,q1⟩=>?_;exact Ŗ (is_none_gen #[.bl _,H1,c,by rw[b.xN];rfl,q1])
def Hi{j pos'}(ha:PE X a ta):PC X .IsNot a (.Constant .none j pos') (OV ta):=by
 intro ZB s Y H Q I h;refine b9 (ha ZB s Y H _ I h) λv d ⟨x,H1,c,b,q1⟩=>?_;exact Ŗ (isnot_none_gen #[.bl _,H1,c,by rw[b.xN];rfl,q1])
def tB(t:TE):TT:=λY H Q=>t Y H λx H1=>∃c,x=.bl c/\Q c H1
def Et{t:TE}(h:PC X op a b t)(h1:ñ op b=Á:=by first|exact w6 _ .b .b|rfl):PE X (.Compare a [op] [b] pos) t:=λZB s Y H Q I c=>wpAny_Compare1 (h ZB s Y H Q I c) h1
def EF{t:TE}(h:PC X op a b t)(h1:ñ op b=Á:=by first|exact w6 _ .b .b|rfl):PT X (.Compare a [op] [b] pos) (tB t):=by
 intro ZB s Y H Q I f;refine Ų (b9 (h ZB s Y H _ I f) λv k h1=>b9 h1 λu i h2=>b9 h2 λc j ⟨x,H1,e,g,q1⟩=>?_) h1;obtain⟨d,rfl,q⟩:=q1;cases g;exact Xp #[H1,e,q]
def Lk{t:TE}(h:PE X e t)(he:autoParam (∀whole,ū e X.env whole=(do let v <-whole;ω e.pos;Ė [v] (truthy v))) zrc):PT X e (tB t):=by
 intro ZB s Y H Q I b;refine isTrue_plain (b9 (h ZB s Y H _ I b) λv f ⟨x,H1,a,c,q1⟩=>?_) (he _);obtain⟨d,rfl,q⟩:=q1;cases c;exact Xp #[H1,a,q]
variable{tA tB':TT}{rest:List Õ}
def Qq(t u:TT):TT:=λY H Q=>t Y H λc H1=>if c=Â then u Y H1 Q else Q Á H1
def Rh(t u:TT):TT:=λY H Q=>t Y H λc H1=>if c=Â then Q Â H1 else u Y H1 Q
def Qb(t:TT):TT:=λY H Q=>t Y H λc H1=>Q (!c) H1
def Jj(ha:PT X a tA):PW X (.BoolOp .And [a] pos) tA:=by
 intro b ZB s Y H Q I h;refine isTrue_and (b9 (ha ZB s Y H Q I h) λc d e=>?_);cases c with
 |true=>exact isTrue_and_nil e
 |false=>exact e
def La(ha:PT X a tA):PW X (.BoolOp .Or [a] pos) tA:=by
 intro b ZB s Y H Q I h;refine isTrue_or (b9 (ha ZB s Y H Q I h) λc d e=>?_);cases c with
 |false=>exact isTrue_or_nil e
 |true=>exact e
def Fe(ha:PT X a tA)(f:PW X (.BoolOp .And (b::rest) pos) tB'):PW X (.BoolOp .And (a::b::rest) pos) (Qq tA tB'):=by
 intro e ZB s Y H Q I h;refine isTrue_and (b9 (ha ZB s Y H _ I h) λc g ⟨H1,d,q1⟩=>?_);cases c with
 |true=>exact f e ZB g Y H1 Q d q1
 |false=>exact#[H1,d,q1]
def Kh(ha:PT X a tA)(f:PW X (.BoolOp .Or (b::rest) pos) tB'):PW X (.BoolOp .Or (a::b::rest) pos) (Rh tA tB'):=by
 intro e ZB s Y H Q I h;refine isTrue_or (b9 (ha ZB s Y H _ I h) λc g ⟨H1,d,q1⟩=>?_);cases c with
 |true=>exact#[H1,d,q1]
 |false=>exact f e ZB g Y H1 Q d q1
def Lv(ha:PT X a tA):PT X (.UnaryOp .Not a pos) (Qb tA):=by
 intro ZB s Y H Q I h;exact isTrue_not (ha ZB s Y H (λc H1=>Q (!c) H1) I h)
def NS(ta tb:TE):TE:=λY H Q=>ta Y H λx H1=>∃c,x=.bl c/\if c=Â then tb Y H1 Q else Q (.bl Á) H1
def Ql(ta tb:TE):TE:=λY H Q=>ta Y H λx H1=>∃c,x=.bl c/\if c=Â then Q (.bl Â) H1 else tb Y H1 Q
def Nz(ta:TE):TE:=λY H Q=>ta Y H λx H1=>∃c,x=.bl c/\Q (.bl (!c)) H1
def LJ{op}{t:TE}(h:PE X a t):PE X (.BoolOp op [a] pos) t:=λZB s Y H Q I b=>BoolOp_one (h ZB s Y H Q I b)
def F7(ha:PE X a ta)(e:PE X (.BoolOp .And (b::rest) pos) tb):PE X (.BoolOp .And (a::b::rest) pos) (NS ta tb):=by
 intro ZB s Y H Q I h;refine BoolOp_and (b9 (ha ZB s Y H _ I h) λv g ⟨x,H1,d,f,q1⟩=>?_);obtain⟨c,rfl,q1⟩:=q1;cases f;refine Xp ?_;cases c with
 |true=>exact e ZB g Y H1 Q d q1
 |false=>exact#[.bl Á,H1,d,rfl,q1]
def KL(ha:PE X a ta)(e:PE X (.BoolOp .Or (b::rest) pos) tb):PE X (.BoolOp .Or (a::b::rest) pos) (Ql ta tb):=by
 intro ZB s Y H Q I h;refine BoolOp_or (b9 (ha ZB s Y H _ I h) λv g ⟨x,H1,d,f,q1⟩=>?_);obtain⟨c,rfl,q1⟩:=q1;cases f;refine Xp ?_;cases c with
 |false=>exact e ZB g Y H1 Q d q1
 |true=>exact#[.bl Â,H1,d,rfl,q1]
def Mk(ha:PE X a ta):PE X (.UnaryOp .Not a pos) (Nz ta):=by
 intro ZB s Y H Q I h;refine UnaryOp_ (b9 (ha ZB s Y H _ I h) λv e ⟨x,H1,d,b,q1⟩=>?_);obtain⟨c,rfl,q1⟩:=q1;cases b;exact not_of (Xp #[.bl (!c),H1,d,rfl,q1])
def Ri(t:TT)(ta tb:TE):TE:=λY H Q=>t Y H λc H1=>if c=Â then ta Y H1 Q else tb Y H1 Q
def jc(i:PT X c tA)(ha:PE X a ta)(g:PE X b tb):PE X (.IfExp c a b pos) (Ri tA ta tb):=by
 intro ZB s Y H Q I h;refine wpAny_IfExp (b9 (i ZB s Y H _ I h) λd f ⟨H1,e,q1⟩=>?_);cases d with
 |true=>exact ha ZB f Y H1 Q e q1
 |false=>exact g ZB f Y H1 Q e q1
end
def dM(K:Ã)(H:Hp)(a:Æ)(xs:List V):Prop :=
 Rd H a (.lst xs) \/
  ∃(o:ò) (XP:Array Å) (n:Nat),K.lookup a=À o/\o.cls=.type "list"/\o.dict=none/\o.data=.seq XP n/\XP.size<=sizeLine/\Vals xs XP.toList
def Ig(K:Ã)(H:Hp)(a:Æ)(xs:List V):Prop :=
 Rd H a (.tup xs) \/
  ∃(o:ò) (XP:Array Å) (n:Nat),K.lookup a=À o/\o.cls=.type "tuple"/\o.data=.seq XP n/\XP.size<=sizeLine/\Vals xs XP.toList
noncomputable def Qk:Å->Option V
 |.none=>À .non
 |.bool b=>À (.bl b)
 |.int i _=>À (.int i)
 |.str x _=>À (.str x)
 |.bytes b _=>À (.byt b)
 |.float b _=>À (.flt b)
 |.ref a=>À (.ref a)
 |.type n=>À (.ty n)
 |_=>none
def RelV.abs{x:V}(r:RelV x u):Qk u=À x:=by
 cases x with
 |non=>cases r;rfl
 |bl _=>cases r;rfl
 |int _=>obtain⟨t,rfl⟩:=r;rfl
 |str _=>obtain⟨t,rfl⟩:=r;rfl
 |byt _=>obtain⟨t,rfl⟩:=r;rfl
 |flt _=>obtain⟨t,rfl⟩:=r;rfl
 |ref _=>cases r;rfl
 |ty _=>cases r;rfl
def RelV.inj{x y:V}{u:Å}(r:RelV x u)(q:RelV y u):x=y:=Wj (r.abs.symm.trans q.abs)
theorem Vals.inj:∀{xs ys:List V} {us:List Å},Vals xs us->Vals ys us->xs=ys
 |_,_,_,.nil,.nil=>rfl
 |_,_,_,.cons r t,.cons a t'=>by rw[r.inj a,Vals.inj t t']
section
variable{X:Cx}{ZB:List (Æ×ò)}{Y:St}{H:Hp}{s:Ç}{a:Æ}{xs ys:List V}
def dM.of(h:H a=À (.lst xs)):dM K H a xs:=.inl (.inl h)
def Inv.list(I:Inv X ZB Y H s)(h:dM X.K H a xs):∃XP:List Å,Vals xs XP/\PlainL s.heap a XP.toArray/\xs.length<=sizeLine:=by
 rcases h with h|⟨o,XP,n,b,f,d,c,hz,r⟩
 .obtain⟨z,XP,n,r,e⟩:=h.ok I.hok;exact#[XP,r,#[_,n,e,rfl,rfl,rfl],z]
 .refine#[XP.toList,r,#[o,n,I.Dj a o b,f,d,↑c],?_];have e:=r.length;simp only[XQ] at e;lia
def Inv.tuple(I:Inv X ZB Y H s)(h:Ig X.K H a xs):∃XP:List Å,Vals xs XP/\IsTup s.heap a XP.toArray/\xs.length<=sizeLine:=by
 rcases h with h|⟨o,XP,n,b,d,c,hz,r⟩
 .obtain⟨z,XP,r,p⟩:=h.ok I.hok;exact#[XP,r,p,z]
 .refine#[XP.toList,r,#[o,I.Dj a o b,d,n,↑c],?_];have e:=r.length;simp only[XQ] at e;lia
def Inv.oo(I:Inv X ZB Y H s)(h:dM X.K H a xs)(h':dM X.K H a ys):xs=ys:=by
 obtain⟨XP,r,⟨o,n,e,_,_,d⟩,_⟩:=I.list h;obtain⟨its',c,⟨o',f,b,_,_,d'⟩,_⟩:=I.list h';rw[e] at b;cases b;rw[d] at d';injection d' with d1 _;have:XP=its':=by simpa using congrArg Array.toList d1
 subst this;exact r.inj c
end
abbrev Cx.sF(X:Cx)(E:Å->Ç->Prop):Cx:={X with xe:=E}
abbrev Cx.Ha(X:Cx):Cx:=X.sF λ_ _=>False
def Cx.Ok.sF{X:Cx}(ok:X.Ok)(E:Å->Ç->Prop):(X.sF E).Ok :=
 #[ok.mod,ok.kind,ok.glob,ok.blt,ok.above,ok.inj,ok.has,ok.cab,ok.hd,ok.frames,ok.stk,ok.exf,ok.bs,ok.bsz,ok.noex,ok.exfs,ok.j6,ok.frf]
def Cx.Ok.jE{E:Å->Ç->Prop}(ok:(X.sF E).Ok):X.Ok :=
 #[ok.mod,ok.kind,ok.glob,ok.blt,ok.above,ok.inj,ok.has,ok.cab,ok.hd,ok.frames,ok.stk,ok.exf,ok.bs,ok.bsz,ok.noex,ok.exfs,ok.j6,ok.frf]
section
variable{X:Cx}{ZB:List (Æ×ò)}{Y:St}{H:Hp}{s:Ç}{E:Å->Ç->Prop}
def Inv.sF(I:Inv X ZB Y H s)(E:Å->Ç->Prop):Inv (X.sF E) ZB Y H s:=#[I.ok.sF E,I.os,I.bare,I.base,I.loc,I.cell,I.free,I.freeC,I.pin,I.hok,I.len]
def Inv.jE(I:Inv (X.sF E) ZB Y H s):Inv X ZB Y H s:=#[I.ok.jE,I.os,I.bare,I.base,I.loc,I.cell,I.free,I.freeC,I.pin,I.hok,I.len]
def SP.jE{D:Ends}{f:Flow}{s':Ç}(h:SP (X.sF E) ZB D f s'):SP X ZB D f s':=by
 cases f with
 |next=>obtain⟨Y',H',I,q⟩:=h;exact#[Y',H',I.jE,q]
 |brk=>obtain⟨Y',H',I,q⟩:=h;exact#[Y',H',I.jE,q]
 |cont=>obtain⟨Y',H',I,q⟩:=h;exact#[Y',H',I.jE,q]
 |ret u=>obtain⟨v,Y',H',I,r,q⟩:=h;exact#[v,Y',H',I.jE,r,q]
def mP.Ha{st:List Ð}{t:TS}(h:mP X.Ha st t):mP X st t:=λZB s Y H D I a =>
 Xl (h ZB s Y H D (I.sF _) a) (λ_ _ q=>q.jE) λ_ _ z=>è z
variable{st:Ð}{rest:List Ð}{t u:TS}{e:Õ}{te:TE}{pos:é}
def NU:TS:=λD Y H=>D.nx Y H
def Qn(t u:TS):TS:=λD Y H=>t {D with nx:=u D} Y H
def HL:mP X [] NU:=λ_ _ Y H _ I h=>ZM #[Y,H,I,h]
def n_(h1:PS X st t)(h2:mP X rest u):mP X (st::rest) (Qn t u):=by
 intro ZB s Y H D I h;refine wpAny_execs_cons (b9 (h1 ZB s Y H {D with nx:=u D} I h) λf b q=>?_);cases f with
 |next =>
  obtain⟨Y',H',a,q⟩:=q;exact h2 ZB b Y' H' D a q
 |ret v=>exact q
 |brk=>exact q
 |cont=>exact q
def Inv.quiet{ZB:List (Æ×ò)}{Y:St}{H:Hp}{s:Ç}(I:Inv X ZB Y H s):interactive X.env=Á:=by simp[interactive,I.ok.kind]
def OJ(te:TE):TS:=λD Y H=>te Y H λ_ H1=>D.nx Y H1
def qu(he:PE X e te)(a:autoParam (ï e none pos.line X.env=pure Á) zra):PS X (.Expr e pos) (OJ te):=by
 intro ZB s Y H D I h;exact wpAny_Expr_any (b9 (he ZB s Y H _ I h) λv d ⟨x,H1,b,c,q1⟩=>#[Y,H1,b,q1]) I.quiet a
def Qx(te:TE):TS:=λD Y H=>te Y H D.rt
def Ej(he:PE X e te):PS X (.Return (À e) pos) (Qx te):=by
 intro ZB s Y H D I h;exact wpAny_Return_some (b9 (he ZB s Y H _ I h) λv c ⟨x,H1,b,a,q1⟩=>#[x,Y,H1,b,a,q1])
def P9(c:TT)(t u:TS):TS:=λD Y H=>c Y H λb H1=>if b=Â then t D Y H1 else u D Y H1
def EB{a b:List Ð}{tc:TT}(g:PT X c tc)(ha:mP X a t)(i:mP X b u):PS X (.If c a b pos) (P9 tc t u):=by
 intro ZB s Y H D I h;refine wpAny_If (b9 (g ZB s Y H _ I h) λd f ⟨H1,e,q1⟩=>?_);cases d with
 |true=>exact ha ZB f Y H1 D e q1
 |false=>exact i ZB f Y H1 D e q1
def wu:TS:=λ_ _ _=>False
def gB{a:List Ð}:mP X a wu:=λ_ _ _ _ _ _ h=>h.elim
end
abbrev TG:=V->St->Hp->(St->Hp->Prop)->Prop
abbrev MP:=List V->St->Hp->(St->Hp->Prop)->Prop
def PG(X:Cx)(target:Õ)(t:TG):Prop :=
 ∀(ZB:List (Æ×ò)) (s:Ç) (Y:St) (H:Hp) (v:V) (u:Å) (Q:St->Hp->Prop),Inv X ZB Y H s->RelV v u->t v Y H Q ->
  Î .E X.A (ď target X.env u) (λ_ s'=>∃Y' H',Inv X ZB Y' H' s'/\Q Y' H') X.xe s
def Pc(X:Cx)(a:List Õ)(t:MP):Prop :=
 ∀(ZB:List (Æ×ò)) (s:Ç) (Y:St) (H:Hp) (vs:List V) (us:List Å) (Q:St->Hp->Prop),Inv X ZB Y H s->Vals vs us->t vs Y H Q ->
  Î .E X.A (assignInOrder ((ó a X.env).map (·.2)) us) (λ_ s'=>∃Y' H',Inv X ZB Y' H' s'/\Q Y' H') X.xe s
abbrev Mp:=V->V->V->Hp->(Hp->Prop)->Prop
def Nc(X:Cx)(t:Mp):Prop :=
 ∀(ZB:List (Æ×ò)) (s:Ç) (Y:St) (H:Hp) (o i v:V) (a b u:Å) (Q:Hp->Prop),Inv X ZB Y H s->RelV o a->RelV i b->RelV v u->t o i v H Q ->
  Î .E X.A (ϊ a b u) (λ_ s'=>∃H',Inv X ZB Y H' s'/\Q H') X.xe s
section
variable{X:Cx}{pos:é}
def kF(i:Nat):TG:=λv Y H Q=>Q (Y.set i (À v)) H
def nk(a:X.N.Nodup)(hi:X.N[i]?=À x)(b:Loc X.env.scope x)(d:autoParam (X.fn x=Â\/X.env.scope.names.lookup x=À .local) zrf):PG X (.Name x pos) (kF i):=by
 intro ZB s Y H v u Q I r h;exact wpAny_assign_Name (qX I a hi b r (λs' c=>#[_,H,c,h]) d)
def HX:MP:=λvs Y H Q=>vs=[]/\Q Y H
def rK(t:TG)(u:MP):MP:=λvs Y H Q=>∃v r,vs=v::r/\t v Y H λY' H'=>u r Y' H' Q
def Bc:Pc X [] HX:=by
 intro ZB s Y H vs us Q I r h;obtain⟨e,h⟩:=h;subst e;cases r;exact assignInOrder_nil #[Y,H,I,h]
def nY{es:List Õ}{t:TG}{u:MP}(h1:PG X e t)(h2:Pc X es u)
  (c:autoParam ((ó (e::es) X.env).map (·.2)=ď e X.env::(ó es X.env).map (·.2)) zra):Pc X (e::es) (rK t u):=by
 intro ZB s Y H vs us Q I r h;obtain⟨v,f,e1,h⟩:=h;subst e1;cases r with
 |cons r b =>
  rw[c];refine assignInOrder_cons (b9 (h1 ZB s Y H _ _ _ I r h) λ_ d ⟨σ1,H1,a,q1⟩=>?_);exact h2 ZB d σ1 H1 _ _ Q a b q1
def HV(K:Ã)(n:Nat)(t:MP):TG:=λv Y H Q=>∃a xs,v=.ref a/\Ig K H a xs/\xs.length=n/\t xs Y H Q
def GJ{es:List Õ}{t:MP}(l:X.calm=Â)(h:Pc X es t)
  (p:autoParam ((ó es X.env).length=n) zra) (c:autoParam ((ó es X.env).findIdx? (·.1)=none) zra):PG X (.Tuple es k pos) (HV X.K n t):=by
 intro ZB s Y H v u Q I r d;obtain⟨a,xs,e1,q,g,d⟩:=d;subst e1;cases r;obtain⟨XP,f,m,hz⟩:=I.tuple q;refine assign_Tuple_tuple (I.ok.hd l) m (by simp[p,<-g,f.length]) c λh' i=>?_;have j:Inv X ZB Y H {s with heap:=h'}:=I.kept (t':=s.toks) λb o e=>i b o (WQ (Wg e)) e;exact h ZB _ Y H xs _ Q j ↑f d
def Pn(to a:TE)(t:Mp):TG:=λv Y H Q=>to Y H λo H1=>a Y H1 λi H2=>t o i v H2 λb=>Q Y b
def MB{o i:Õ}{to c:TE}{t:Mp}(g:PE X o to)(hi:PE X i c)(q:Nc X t)
  (ha:∀v,ď (.Subscript o i pos) X.env v=(do
   let a <-Ė [v] (Ö o X.env);let b <-Ė [v,a] (Ö i X.env)
   ω pos
   Ė [v,a,b] (ϊ a b v)
   release [v,a,b] []):=by intro _;rfl):PG X (.Subscript o i pos) (Pn to c t):=by
 intro ZB s Y H v u Q I r h;rw[ha];refine V5 (Yx (b9 (g ZB s Y H _ I h) λa m ⟨x,H1,n,w,q1⟩=>?_));refine V5 (Yx (b9 (hi ZB m Y H1 _ n q1) λb j ⟨y,H2,p,e,k⟩=>?_));refine V5 (ō (V5 (Yx (b9 (q ZB j Y H2 x y v a b u _ p w e r k) λ_ z ⟨d,l,f⟩=>?_))));exact wpAny_release #[Y,d,l,f]
def Nr(te:TE)(g:TG):TS:=λD Y H=>te Y H λx H1=>g x Y H1 D.nx
def MK{te:TE}{g:TG}(he:PE X e te)(b:PG X tg g)(d:autoParam (swapsWithSole [tg] e pos.line X.env=pure Á) zra)(c:autoParam (swappedStores [tg] e X.env=pure none) zra)
  (h1:autoParam ((ó [tg] X.env).map (·.2)=[ď tg X.env]) zra):PS X (.Assign [tg] e pos) (Nr te g):=by
 intro ZB s Y H D I h;refine wpAny_Assign_stores (b9 (he ZB s Y H _ I h) λv i ⟨x,H1,a,f,q1⟩=>?_) d c;rw[h1];exact b9 (b ZB i Y H1 x v _ a f q1) λ_ j q=>q
def sA{te:TE}{pos':é}(c:X.N.Nodup)(hi:X.N[i]?=À x)(a:Loc X.env.scope x)(he:PE X e te)(f:autoParam (ï e (À (.Name x pos')) pos.line X.env=pure Á) zra)(j:autoParam (X.fn x=Â\/X.env.scope.names.lookup x=À .local) zrf):
  PS X (.Assign [.Name x pos'] e pos) (Nr te (kF i)):=by
 intro ZB s Y H D I h;refine wpAny_Assign_Name (b9 (he ZB s Y H _ I h) λv l ⟨y,H1,b,g,q1⟩=>?_) f;exact qX b c hi a g (λk d=>#[_,H1,d,q1]) j
def ME(c:TT)(tb:TS):TS:=λD Y H=>∃W:Nat->St->Hp->Prop,(∃m,W m Y H)/\∀m Y H,W m Y H ->
 c Y H λb H1=>if b=Â then ∃N:St->Hp->Prop,(∀Y' H',N Y' H'->∃a,a<m/\W a Y' H')/\tb {D with nx:=N,ct:=N,bk:=D.nx} Y H1 else D.nx Y H1
def GW{tc:TT}(hp:Ă .E X.A X.env X.xe)(p:PT X c tc)(t:mP X body tb):PS X (.While c body [] pos) (ME tc tb):=by
 intro ZB s Y H D I h;obtain⟨W,⟨x,z⟩,turn⟩:=h;refine wpAny_While (codeAny_whileLoop (λn s'=>∃Y' H',Inv X ZB Y' H' s'/\W n Y' H') ?_ x #[Y,H,I,z]);rintro n u ⟨σ1,H1,y,r⟩;refine Yp hp (b9 (p ZB u σ1 H1 _ y (turn n σ1 H1 r)) λb q ⟨H2,o,e⟩=>?_);cases b with
 |true =>
  obtain⟨N,m,e⟩:=e;rw[V6 rfl];refine Yp hp (b9 (t ZB q σ1 H2 _ o e) λf B d=>?_);cases f with
  |next =>
   obtain⟨σ3,a,g,j⟩:=d;obtain⟨l,k,i⟩:=m σ3 a j;exact#[l,k,σ3,a,g,i]
  |cont =>
   obtain⟨σ3,a,g,j⟩:=d;obtain⟨l,k,i⟩:=m σ3 a j;exact#[l,k,σ3,a,g,i]
  |brk=>exact d
  |ret v=>exact d
 |false =>
  rw[V4 Wn];exact ZM #[σ1,H2,o,e]
end
structure It where
 go:Nat->Hp->Prop
 yld:Nat->Hp->V->Hp->Prop
 stop:Nat->Hp->Prop
def tT(X:Cx)(ZB:List (Æ×ò))(H:Hp)(b:Æ):Prop :=
 H b=none/\b≠X.env.locals/\b∉X.fs/\(b∈X.ex\/X.s₀.heap.objs.size<=b)/\(∀x c,X.env.cells.lookup x=À c->c≠b)/\∀p∈X.pn++ZB,p.1≠b
def Inv.Dl{H':Hp}(I:Inv X ZB Y H s)(a:s.heap.objs.size<=b)(d:H' b=none):tT X ZB H' b:=by
 refine#[d,aaW (Wx I.lt a),I.P4 a,.inr (W6 I.sz a),λx c e z=>?_,λp hp z=>?_]
 .obtain⟨v,q⟩:=I.cell x c e;exact absurd (Wx q.lt (by rwa[z])) (Yw _)
 .exact absurd (Wx (Wg (I.pin p hp).1) (by rwa[z])) (Yw _)
structure Turn(P:Ò)(w:Û)(K:Ã)(tg:Õ)(J:It)(fp:List Æ)(it:Æ)(tn:Nat->Ý->Prop):Prop where
 mem:it∈fp
 obj:∀i h,tn i h->∀b∈fp,∃o,h.get? b=À o/\∀v,o.data≠.cell v
 keep:∀i h h',tn i h->(∀b∈fp,∀o,h.get? b=À o->h'.get? b=À o)->tn i h'
 item:∀(X:Cx),X.prog=P->X.w=w->X.K=K->X.calm=Â->∀(i:Nat) (ZB:List (Æ×ò)) (s:Ç) (Y:St) (H:Hp) (E:Å->Ç->Prop),Inv X ZB Y H s->(∀b∈fp,tT X ZB H b)->tn i s.heap->J.go i H ->
  Î (Ñ P w) X.A (ŀ (.ref it)) (λr s1=>∃u,r=À u /\
   Î (Ñ P w) X.A (Ę tg (.ref it) u) (λ_ s2=>∃x H',Inv X ZB Y H' s2/\RelV x u/\J.yld i H x H'/\tn (i+1) s2.heap/\∀b∈fp,H' b=none) E s1) E s
 done:∀(X:Cx),X.prog=P->X.w=w->X.K=K->X.calm=Â->∀(i:Nat) (ZB:List (Æ×ò)) (s:Ç) (Y:St) (H:Hp) (E:Å->Ç->Prop),Inv X ZB Y H s->(∀b∈fp,tT X ZB H b)->tn i s.heap->J.stop i H ->
  Î (Ñ P w) X.A (ŀ (.ref it)) (λr s1=>r=none/\Inv X ZB Y H s1) E s
 self:∀(A:á) (i:Nat) (s:Ç) (Q:Å->Ç->Prop) (E:Å->Ç->Prop),tn i s.heap->Q (.ref it) s->Î (Ñ P w) A (Ū (.ref it)) Q E s
abbrev TI:=St->Hp->(It->Hp->Prop)->Prop
def PX(X:Cx)(ZB:List (Æ×ò))(Y:St)(tg:Õ)(R:It->Hp->Prop)(a:Å)(c:Ç):Prop :=
 ∃(it:Æ) (fp:List Æ) (tn:Nat->Ý->Prop) (J:It) (H':Hp),a=.ref it/\Inv X ZB Y H' c/\Turn X.prog X.w X.K tg J fp it tn/\tn 0 c.heap/\(∀b∈fp,tT X ZB H' b)/\R J H'
def PI(X:Cx)(tg iter:Õ)(wi:TI):Prop :=
 ∀(ZB:List (Æ×ò)) (s:Ç) (Y:St) (H:Hp) (R:It->Hp->Prop),Inv X ZB Y H s->wi Y H R ->
  Î .E X.A (Ö iter X.env) (λv a=>Î .E X.A (Ū v) (PX X ZB Y tg R) X.xe a) X.xe s
def Bs{α : Model}{A : á}{E : Å->Ç->Prop}{s : Ç}{tg : Õ}{it : Æ}{u : Å}{o : ò}{n : String}{vs : Array Å}{Q : Unit->Ç->Prop}(e : s.heap.get? it=À o)(d : o.cls=.type n)(c : o.data=.fields vs)
    (b : ["enumerate","zip","dict_itemiterator","dict_reverseitemiterator","odict_iterator","itertools.zip_longest","itertools.pairwise"].contains n=Á) (a : Q () s) : Î α A (Ę tg (.ref it) u) Q E s:=by
  unfold Ę
  cases tg<;>first
    |exact Wi a
    | (cases u <;> first
        |exact Wi a
        | (refine V5 (wpAny_load e ?_)
           rw[d,c];show Î α A (if (["enumerate","zip","dict_itemiterator","dict_reverseitemiterator","odict_iterator","itertools.zip_longest","itertools.pairwise"].contains n&&vs[0]?==À (Ē _))=Â then _ else _) Q E s;rw[V4 (by intro h;rw[b,XN] at h;cases h)]
           exact Wi a))
def Nu(K:Ã)(a:Æ):It :=
 #[λi H=>∃xs x,dM K H a xs/\xs[i]?=À x,λi H x H'=>H'=H/\∀xs,dM K H a xs->xs[i]?=À x,λi H=>∃xs,dM K H a xs/\xs.length<=i]
def JR(lo:Int)(n:Nat):It:=#[λi _=>i<n,λi H x H'=>H'=H/\x=.int (lo+i),λi _=>n<=i]
def CS(a it:Æ):Turn P w K tg (Nu K a) [it] it (λi h=>h.IsListIter it a i) where
 mem:=by simp
 obj:=λi h st b f=>by
  have e:b=it:=by simpa using f
  subst e;obtain⟨o,e,c,d⟩:=st;exact#[o,e,λv z=>by rw[d] at z;cases z]
 keep:=λi h h' st k=>st.at λo e=>k it .c o e
 item:=by
  intro X t C q G i ZB s Y H E I j st n;subst t C q;obtain⟨xs,x,l,m⟩:=n;obtain⟨XP,r,p,hz⟩:=I.list l;obtain⟨u,L,Q⟩:=r.get m;obtain⟨F,y,R,D,B,A⟩:=j it .c;refine wpAny_pyNext_list_item st p.isList (x:=u) ↑L λh' g α=>?_;have O:Inv X ZB Y H {s with heap:=h'}:=I.turned (t':=s.toks) (λb o f e=>(α.2 b f).trans e) F y D B A;obtain⟨o,e,c,d⟩:=id g;exact#[u,rfl,Bs (s:={s with heap:=h'}) e c d .b #[x,H,O,Q,#[rfl,λys J=>by rwa[I.oo J l]],g,λb f=>(j b f).1]]
 done:=by
  intro X t C q G i ZB s Y H E I j st n;subst t C q;obtain⟨xs,l,m⟩:=n;obtain⟨XP,r,p,hz⟩:=I.list l;obtain⟨F,y,R,D,B,A⟩:=j it .c;have S:=r.length;exact wpAny_pyNext_list_end (I.ok.hd G) st p.isList (by simp;lia) λh' N=>#[rfl,I.turned (t':=s.toks) (λb o f e=>N b o f e) F y D B A]
 self:=λ_ _ _ _ _ st h=>wpAny_pyIter_listiter st h
def Av(it:Æ)(lo:Int)(n:Nat):Turn P w K tg (JR lo n) [it] it (λi h=>ĸ h it (lo+(i:Nat)*1) ((n:Int)-(i:Nat)) 1) where
 mem:=by simp
 obj:=λi h st b a=>by
  have e:b=it:=by simpa using a
  subst e
  exact#[_,st,λv z=>by
   have A:ϴ _=Data.cell v:=z
   cases A]
 keep:=λi h h' st k=>k it .c _ st
 item:=by
  intro X l r j f i ZB s Y H E I d st g;subst l r j;obtain⟨x,m,D,u,q,p⟩:=d it .c;have W:=ό (prog:=X.prog) (w:=X.w) (I.ok.hd f) it lo 1 n;refine W.item i s _ _ g st λv h' tk y c kk=>?_;obtain⟨t,rfl⟩:=y;have C:Inv X ZB Y H {s with heap:=h',toks:=tk}:=I.turned (λb o a e=>kk b o ↑a e) x m u q p;refine#[_,rfl,Bs (s:={s with heap:=h',toks:=tk}) (n:="range_iterator") c rfl rfl .b #[.int (lo+i),H,C,#[t,?_],#[rfl,rfl],c,λb a=>(d b a).1]];rw[WO]
 done:=by
  intro X l r j f i ZB s Y H E I d st g;subst l r j;obtain⟨x,m,D,u,q,p⟩:=d it .c;exact Ŧ (I.ok.hd f) st (by have:n<=i:=g;lia) λh' B=>#[rfl,I.turned (t':=s.toks) (λb o a e=>B b o a e) x m u q p]
 self:=λ_ _ _ _ _ st h=>ŧ st h
section
variable{X:Cx}{tg:Õ}
def NF(K:Ã)(tl:TE):TI:=λY H R=>tl Y H λx H1=>∃a,x=.ref a/\(∃xs,dM K H1 a xs)/\R (Nu K a) H1
def BP{l:Õ}{tl:TE}(f:PE X l tl):PI X tg l (NF X.K tl):=by
 intro ZB s Y H R I h;refine b9 (f ZB s Y H _ I h) λv d ⟨x,H1,c,i,q1⟩=>?_;obtain⟨a,e,⟨xs,j⟩,q⟩:=q1;subst e;cases i;obtain⟨XP,k,p,hz⟩:=c.list j;refine aan p.isList ?_;refine#[d.heap.objs.size,[d.heap.objs.size],_,_,H1,rfl,c.kept (t':=d.toks) λb o e=>Ww _ e,CS a _,#[_,WS _ rfl,rfl,rfl],λb g=>?_,q];have e:b=d.heap.objs.size:=by simpa using g
 subst e;exact c.Dl (V_ _) (c.hok.fresh (V_ _))
def xx{R:It->Hp->Prop}{E:Å->Ç->Prop}{lo hi:Int}{t u v:Tok}{tk:Nat}(I:Inv X ZB Y H s)(h1:-(2^62)<=lo)(h2:lo<2^62)(d:-(2^62)<=hi)(c:hi<2^62)
  (q:R (JR lo (hi-lo).toNat) H):Î .E X.A (Ū (.ref s.heap.objs.size)) (PX X ZB Y tg R) E {s with heap:=s.heap.push {cls:=.type "range",data:=.fields (ã [.int lo t,.int hi u,.int 1 v])},toks:=tk}:=by
 refine Υ (Ο ..) (small_one h1 h2 d c) ?_;have a:Inv X ZB Y H {s with heap:=s.heap.push {cls:=.type "range",data:=.fields (ã [.int lo t,.int hi u,.int 1 v])},toks:=tk}:=I.kept λb o e=>Ww _ e
 refine#[(s.heap.push {cls:=.type "range",data:=.fields (ã [.int lo t,.int hi u,.int 1 v])}).objs.size,[(s.heap.push {cls:=.type "range",data:=.fields (ã [.int lo t,.int hi u,.int 1 v])}).objs.size],_,_,H,rfl,
  a.kept (t':=tk) λb o e=>Ww _ e,Av _ lo (hi-lo).toNat,?_,λb f=>?_,q]
 .have e1:lo+((0:Nat):Int)*1=lo:=by simp
  have e2:(((hi-lo).toNat:Nat):Int)-((0:Nat):Int)=Ó lo hi 1:=by rw[rangeSize_one];split<;>lia
  show ĸ _ _ (lo+((0:Nat):Int)*1) ((((hi-lo).toNat:Nat):Int)-((0:Nat):Int)) 1;rw[e1,e2];exact WS _ rfl
 .have e:b=(s.heap.push {cls:=.type "range",data:=.fields (ã [.int lo t,.int hi u,.int 1 v])}).objs.size:=by simpa using f
  subst e;exact a.Dl (V_ _) (a.hok.fresh (V_ _))
def Nm(ta:TA):TI:=λY H R=>ta Y H λvs H1=>∃j:Int,vs=[.int j]/\-(2^62)<=j/\j<2^62/\R (JR 0 j.toNat) H1
def OP(ta:TA):TI:=λY H R=>ta Y H λvs H1=>∃i j:Int,vs=[.int i,.int j]/\(-(2^62)<=i/\i<2^62/\-(2^62)<=j/\j<2^62)/\R (JR i (j-i).toNat) H1
def uL{a:Õ}{ta:TA}{p:é}(c:Gl X "range")(i:X.mg "range"=none)(ha:PA X [a] ta)(g:autoParam (Ä [a] X.env=[(Á,Ö a X.env)]) zra):PI X tg (.Call (.Name "range" p) [a] [] pos) (Nm ta):=by
 intro ZB s Y H R I h;refine Call_ (kg I c i ξ (XI (b9 (ha pos ZB s Y H _ I h) λus l ⟨vs,H1,b,k,q1⟩=>?_) g rfl));obtain⟨j,e,q1,f,q⟩:=q1;subst e;cases k with
 |cons r d =>
  cases d;obtain⟨t,rfl⟩:=r;exact call_range_1 (xx b .a .a q1 f ↑q)
def CY{a b:Õ}{ta:TA}{p:é}(g:Gl X "range")(u:X.mg "range"=none)(ha:PA X [a,b] ta)(o:autoParam (Ä [a,b] X.env=[(Á,Ö a X.env),(Á,Ö b X.env)]) zra)(c:autoParam (Ä [b] X.env=[(Á,Ö b X.env)]) zra):
  PI X tg (.Call (.Name "range" p) [a,b] [] pos) (OP ta):=by
 intro ZB s Y H R I h;refine Call_ (kg I g u ξ (XI (b9 (ha pos ZB s Y H _ I h) λus w ⟨vs,H1,n,v,q1⟩=>?_) (by rw[o,c]) (by rw[c];rfl)));obtain⟨i,j,e,⟨q1,k,f,l⟩,q⟩:=q1;subst e;cases v with
 |cons r d =>
  cases d with
  |cons m d =>
   cases d;obtain⟨t,rfl⟩:=r;obtain⟨t',rfl⟩:=m;exact call_range_2 (xx n q1 k f l q)
def NW(wi:TI)(g:TG)(tb:TS):TS:=λD Y H=>wi Y H λJ H1=>∃W:Nat->Nat->St->Hp->Prop,(∃m,W 0 m Y H1)/\∀i m Y H,W i m Y H ->
 (J.stop i H/\D.nx Y H)\/(J.go i H/\∃N:St->Hp->Prop,(∀Y' H',N Y' H'->∃a,a<m/\W (i+1) a Y' H')/\∀x H',J.yld i H x H'->g x Y H' λσ2 H2=>tb {D with nx:=N,ct:=N,bk:=D.nx} σ2 H2)
def sR(fp:List Æ)(h:Ý):List (Æ×ò):=fp.filterMap λb=>(h.get? b).map λo=>(b,o)
def jM{h:Ý}{o:ò}(a:b∈fp)(e:h.get? b=À o):(b,o)∈sR fp h:=List.mem_filterMap.mpr #[b,a,by rw[e];rfl]
def Cz{h:Ý}{p:Æ×ò}(hp:p∈sR fp h):p.1∈fp/\h.get? p.1=À p.2:=by
 obtain⟨b,a,e⟩:=List.mem_filterMap.mp hp;cases q:h.get? b with
 |none=>rw[q] at e;cases e
 |some o =>
  rw[q] at e;have c:(b,o)=p:=Wj e;subst c;exact#[a,q]
def Inv.pinned(I:Inv X ZB Y H s)(i:∀b∈fp,tT X ZB H b)(f:∀b∈fp,∃o,s.heap.get? b=À o/\∀v,o.data≠.cell v):Inv X (ZB++sR fp s.heap) Y H s :=
 I.nD λp hp=>(W2.mp hp).elim (λz=>I.pin p (WD _ z)) λz=>by
  obtain⟨a,e⟩:=Cz z;obtain⟨j,g,h,_⟩:=i p.1 a;obtain⟨o,c,d⟩:=f p.1 a;rw[e] at c;cases c;exact#[e,j,g,h,d]
def Inv.ny{pl:List (Æ×ò)}(I:Inv X (ZB++pl) Y H s):Inv X ZB Y H s:=I.nD λp hp=>I.pin p (WD _ (Xg _ hp))
def pb{iter:Õ}{wi:TI}{g:TG}(hp:Ă .E X.A X.env X.xe)(O:X.calm=Â)(hi:PI X tg iter wi)(R:PG X tg g)(j:mP X body tb)
  (hs:autoParam (∀x,Ù iter X.env x=pure x) zrc):PS X (.For tg iter body [] pos) (NW wi g tb):=by
 intro ZB s Y H D I h;refine wpAny_For (b9 (hi ZB s Y H _ I h) λv s1 h1=>b9 h1 λitv s2 h2=>?_) hs;obtain⟨it,fp,tn,J,H2,e,I2,T,Ap,α,W,⟨σ,w0⟩,turn⟩:=h2;subst e
 -- what stays Â of the iterator's objects through the loop
 have k:∀{H':Hp},(∀b∈fp,H' b=none)->∀b∈fp,tT X ZB H' b:=λhn b j=>#[hn b j,(α b j).2];refine codeAny_forLoop_any (λn s'=>∃i Y' H',Inv X ZB Y' H' s'/\tn i s'.heap/\(∀b∈fp,H' b=none)/\W i n Y' H') ?_ σ #[0,Y,H2,I2,Ap,λb j=>(α b j).1,w0];rintro n L ⟨i,σ3,z,P,t,y,w3⟩;rcases turn i n σ3 z w3 with⟨stop,qn⟩|⟨go,N,hN,step⟩
 .refine Yp hp (b9 (T.done X rfl rfl rfl O i ZB L σ3 z X.xe P (k y) t stop) λr s4 ⟨B,I4⟩=>?_);subst B;exact ZM #[σ3,z,I4,qn]
 .refine Yp hp (b9 (T.item X rfl rfl rfl O i ZB L σ3 z X.xe P (k y) t go) λr s4 ⟨u,B,h4⟩=>?_);subst B;refine Yp hp (b9 h4 λ_ G ⟨x,K,V,r5,y5,p,F⟩=>?_);have C:=V.pinned (k F) (T.obj _ _ p);refine Yp hp (b9 (R _ G σ3 K x u _ C r5 (step x K y5)) λ_ S ⟨σ6,Q,I6,q6⟩=>?_);refine Yp hp (b9 (j _ S σ6 Q _ I6 q6) λf E l=>?_)
  have ϋ:∀{σ7:St} {c:Hp},Inv X (ZB++sR fp G.heap) σ7 c E->N σ7 c->∃m,m<n/\∃i Y' H',Inv X ZB Y' H' E/\tn i E.heap/\(∀b∈fp,H' b=none)/\W i m Y' H':=λ{σ7 c} a q=>by
   obtain⟨m',hm,Z⟩:=hN σ7 c q;refine#[m',hm,i+1,σ7,c,a.ny,T.keep _ _ _ p λb j o e=>(a.pin (b,o) (WD _ (WD _ (jM j e)))).1,λb j=>?_,Z];obtain⟨o,e,d⟩:=T.obj _ _ p b j;exact(a.pin (b,o) (WD _ (WD _ (jM j e)))).2.1
  cases f with
  |next=>obtain⟨σ7,c,a,q⟩:=l;exact ϋ a q
  |cont=>obtain⟨σ7,c,a,q⟩:=l;exact ϋ a q
  |brk=>obtain⟨σ7,c,a,l⟩:=l;exact#[σ7,c,a.ny,l]
  |ret v=>obtain⟨Γ,σ7,c,a,r7,l⟩:=l;exact#[Γ,σ7,c,a.ny,r7,l]
end
def FG{xs:List V}{g:TG}{D:Ends}(Pv:Nat->St->Hp->Prop)(h:Pv 0 Y H)(d:∀i Y H,i<=xs.length->Pv i Y H->dM K H a xs)
  (j:∀i x Y H,xs[i]?=À x->Pv i Y H->g x Y H λσ2 H2=>tb {D with nx:=Pv (i+1),ct:=Pv (i+1),bk:=D.nx} σ2 H2) (f:∀Y H,Pv xs.length Y H->D.nx Y H):
  ∃W:Nat->Nat->St->Hp->Prop,(∃m,W 0 m Y H)/\∀i m Y H,W i m Y H ->
   ((Nu K a).stop i H/\D.nx Y H)\/((Nu K a).go i H/\∃N:St->Hp->Prop,(∀Y' H',N Y' H'->∃c,c<m/\W (i+1) c Y' H')/\∀x H',(Nu K a).yld i H x H'->g x Y H' λσ2 H2=>tb {D with nx:=N,ct:=N,bk:=D.nx} σ2 H2):=by
 refine#[λi m Y H=>m=xs.length-i/\i<=xs.length/\Pv i Y H,#[xs.length,.c,XB _,h],?_];rintro i m Y H ⟨rfl,hi,p⟩;have q:=d i Y H hi p;by_cases b:i<xs.length
 .refine .inr #[#[xs,xs[i],q,by simp[b]],Pv (i+1),λY' H' k=>#[xs.length-(i+1),.a,rfl,b,k],λx H' y=>?_];obtain⟨e,y⟩:=y;subst e;exact j i x Y _ (y xs q) p
 .have e:i=xs.length:=by lia
  subst e;exact .inl #[#[xs,q,V_ _],f Y H p]
def ui{lo:Int}{g:TG}{D:Ends}(Pv:Nat->St->Hp->Prop)(d:Pv 0 Y H)
  (f:∀i Y H,i<n->Pv i Y H->g (.int (lo+i)) Y H λσ2 H2=>tb {D with nx:=Pv (i+1),ct:=Pv (i+1),bk:=D.nx} σ2 H2) (c:∀Y H,Pv n Y H->D.nx Y H):
  ∃W:Nat->Nat->St->Hp->Prop,(∃m,W 0 m Y H)/\∀i m Y H,W i m Y H ->
   ((JR lo n).stop i H/\D.nx Y H)\/((JR lo n).go i H/\∃N:St->Hp->Prop,(∀Y' H',N Y' H'->∃b,b<m/\W (i+1) b Y' H')/\∀x H',(JR lo n).yld i H x H'->g x Y H' λσ2 H2=>tb {D with nx:=N,ct:=N,bk:=D.nx} σ2 H2):=by
 refine#[λi m Y H=>m=n-i/\i<=n/\Pv i Y H,#[n,.c,XB _,d],?_];rintro i m Y H ⟨rfl,hi,p⟩;by_cases a:i<n
 .refine .inr #[a,Pv (i+1),λY' H' h=>#[n-(i+1),.a,rfl,a,h],λx H' y=>?_];obtain⟨e,y⟩:=y;subst e y;exact f i Y _ a p
 .have e:i=n:=by lia
  subst e;exact .inl #[V_ _,c Y H p]
abbrev R2:=V->V->Hp->VK->Prop
variable{r:R2}
def j8(X:Cx)(f:Å->Å->Sem Å)(r:R2):Prop :=
 ∀(ZB:List (Æ×ò)) (s:Ç) (Y:St) (H:Hp) (x y:V) (v u:Å) (Q:VK),Inv X ZB Y H s->RelV x v->RelV y u->r x y H Q ->
  Î .E X.A (f v u) (EP X ZB Y Q) X.xe s
def Pw(X:Cx)(f:Å->Sem Å)(r:V->Hp->VK->Prop):Prop :=
 ∀(ZB:List (Æ×ò)) (s:Ç) (Y:St) (H:Hp) (x:V) (v:Å) (Q:VK),Inv X ZB Y H s->RelV x v->r x H Q ->
  Î .E X.A (f v) (EP X ZB Y Q) X.xe s
def gJ(X:Cx)(f:Å)(r:List V->Hp->VK->Prop):Prop :=
 ∀(ZB:List (Æ×ò)) (s:Ç) (Y:St) (H:Hp) (xs:List V) (us:List Å) (Q:VK),Inv X ZB Y H s->Vals xs us->r xs H Q ->
  Î .E X.A (call f us) (EP X ZB Y Q) X.xe s
def Ph(r:R2)(ta tb:TE):TE:=λY H Q=>ta Y H λx H1=>tb Y H1 λy H2=>r x y H2 Q
def Rj(r:V->Hp->VK->Prop)(ta:TE):TE:=λY H Q=>ta Y H λx H1=>r x H1 Q
def rI(C:Int->Int->Prop)(g:Int->Int->V):R2:=λx y H Q=>∃i j,x=.int i/\y=.int j/\C i j/\Q (g i j) H
def Iq(g:Int->Int->V):R2:=λx y H Q=>∃i j,x=.int i/\y=.int j/\Q (g i j) H
def rU(g:Int->V):V->Hp->VK->Prop:=λx H Q=>∃i,x=.int i/\Q (g i) H
section
variable{X:Cx}{a b c:Õ}{ta tb tc:TE}{pos:é}
def My(ha:PE X a ta)(l:PE X b tb){R:V->V->Hp->Prop}(I:Inv X ZB Y H s)
  (h:ta Y H λx H1=>tb Y H1 λy H2=>R x y H2) {Q:Å->Ç->Prop} {f:Å->Å->Sem Å}
  (n:∀v u c x y H2,Inv X ZB Y H2 c->RelV x v->RelV y u->R x y H2->Î .E X.A (f v u) Q X.xe c):
  Î .E X.A (Ö a X.env) (λv d=>Î .E X.A (Ö b X.env) (λu k=>Î .E X.A (f v u) Q X.xe k) X.xe d) X.xe s:=by
 refine b9 (ha ZB s Y H _ I h) λv o ⟨x,H1,e,m,q1⟩=>?_;refine b9 (l ZB o Y H1 _ e q1) λu c ⟨y,H2,j,g,i⟩=>?_;exact n v u c x y H2 j m g i
def q_{op:Operator}(d:j8 X (ÿ op) r)(ha:PE X a ta)(g:PE X b tb):PE X (.BinOp a op b pos) (Ph r ta tb):=by
 intro ZB s Y H Q I h;exact wpAny_BinOp (My ha g I h λv u e x y H2 f c i q=>d ZB e Y H2 x y v u Q f c i q)
def NO{op:UnaryOp}{r:V->Hp->VK->Prop}(d:Pw X (unaryOp op) r)(ha:PE X a ta):PE X (.UnaryOp op a pos) (Rj r ta):=by
 intro ZB s Y H Q I h;exact UnaryOp_ (b9 (ha ZB s Y H _ I h) λv e ⟨x,H1,c,b,q1⟩=>d ZB e Y H1 x v Q c b q1)
def OT{C:Int->Int->Prop}{g:Int->Int->Int}
  (rule:∀(i j:Int) (t u:Tok) (s:Ç) (Q:Å->Ç->Prop) (E:Å->Ç->Prop),C i j->Q (.int (g i j) s.toks) {s with toks:=s.toks+1}->Î .E X.A (f (.int i t) (.int j u)) Q E s):
  j8 X f (rI C λi j=>.int (g i j)):=by
 intro ZB s Y H x y v u Q I b c h;obtain⟨i,j,rfl,rfl,a,q⟩:=h;obtain⟨t,rfl⟩:=b;obtain⟨t',rfl⟩:=c;exact rule i j t t' s _ _ a #[.int (g i j),H,I.tok _,#[_,rfl],q]
def N7{g:Int->Int->Int}
  (rule:∀(i j:Int) (t u:Tok) (s:Ç) (Q:Å->Ç->Prop) (E:Å->Ç->Prop),Q (.int (g i j) s.toks) {s with toks:=s.toks+1}->Î .E X.A (f (.int i t) (.int j u)) Q E s):
  j8 X f (Iq λi j=>.int (g i j)):=by
 intro ZB s Y H x y v u Q I a b h;obtain⟨i,j,rfl,rfl,q⟩:=h;obtain⟨t,rfl⟩:=a;obtain⟨t',rfl⟩:=b;exact rule i j t t' s _ _ #[.int (g i j),H,I.tok _,#[_,rfl],q]
def JF{g:Int->Int->Bool}
  (rule:∀(i j:Int) (t u:Tok) (s:Ç) (Q:Å->Ç->Prop) (E:Å->Ç->Prop),Q (.bool (g i j)) s->Î .E X.A (f (.int i t) (.int j u)) Q E s):
  j8 X f (Iq λi j=>.bl (g i j)):=by
 intro ZB s Y H x y v u Q I a b h;obtain⟨i,j,rfl,rfl,q⟩:=h;obtain⟨t,rfl⟩:=a;obtain⟨t',rfl⟩:=b;exact rule i j t t' s _ _ #[.bl (g i j),H,I,rfl,q]
def FC(i j:Int):Prop:=0<=j/\j<=1000000/\i.natAbs<2^64
def IT(i j:Int):Prop:=(-(2^64)<i/\i<2^64)\/(-(2^64)<j/\j<2^64)
def IT.ok{i j:Int}(h:IT i j):Ċ i j:=by
 rcases h with⟨h1,h2⟩|⟨h1,h2⟩
 .exact .of_left (intBits_le_64 h1 h2)
 .exact .of_right (intBits_le_64 h1 h2)
def KY:j8 X (ÿ .Add) (Iq λi j=>.int (i+j)):=N7 λ_ _ _ _ _ _ _ q=>add_int q
def Me:j8 X (ÿ .Sub) (Iq λi j=>.int (i-j)):=N7 λ_ _ _ _ _ _ _ q=>sub_int q
def HG:j8 X (ÿ .Mod) (rI (λ_ j=>j≠0) λi j=>.int (i.fmod j)):=OT λ_ _ _ _ _ _ _ a q=>mod_int' a q
def Mx:j8 X (ÿ .Pow) (rI FC λi j=>.int (i^j.toNat)):=OT λ_ _ _ _ _ _ _ a q=>pow_int_small a.1 a.2.1 a.2.2 q
def K1:j8 X (ÿ .LShift) (rI FC λi j=>.int (i*2^j.toNat)):=OT λ_ _ _ _ _ _ _ a q=>lshift_int_small a.1 a.2.1 a.2.2 q
def Q4{f:Å->Sem Å}{g:Int->Int}
  (rule:∀(i:Int) (t:Tok) (s:Ç) (Q:Å->Ç->Prop) (E:Å->Ç->Prop),Q (.int (g i) s.toks) {s with toks:=s.toks+1}->Î .E X.A (f (.int i t)) Q E s):
  Pw X f (rU λi=>.int (g i)):=by
 intro ZB s Y H x v Q I a h;obtain⟨i,rfl,q⟩:=h;obtain⟨t,rfl⟩:=a;exact rule i t s _ _ #[.int (g i),H,I.tok _,#[_,rfl],q]
def LY:Pw X (unaryOp .USub) (rU λi=>.int (-i)):=Q4 λ_ _ _ _ _ q=>neg_int q
end
noncomputable def Oq:V->V->Bool
 |.non,.non=>Â|.non,.int _=>Â|.int _,.non=>Â|.non,.bl _=>Â|.bl _,.non=>Â|.non,.str _=>Â|.str _,.non=>Â
 |.int _,.int _=>Â|.bl _,.bl _=>Â|.str _,.str _=>Â|.byt _,.byt _=>Â
 |.int _,.str _=>Â|.str _,.int _=>Â|.bl _,.str _=>Â|.str _,.bl _=>Â
 |_,_=>Á
def Rk:R2:=λx y H Q=>Oq x y=Â/\Q (.bl (decide (x=y))) H
def Q7:R2:=λx y H Q=>Oq x y=Â/\Q (.bl (!decide (x=y))) H
def qp{i j:Int}:decide (V.int i=V.int j)=(i==j):=by
 rw[WW];simp
def Gj{i j:Bool}:decide (V.bl i=V.bl j)=(i==j):=by
 rw[WW];simp
def B4{i j:Í}:decide (V.str i=V.str j)=(i==j):=by
 rw[WW];simp
def A3{i j:Array UInt8}:decide (V.byt i=V.byt j)=(i.toList==j.toList):=by
 rw[WW];cases i;cases j;simp
section
variable{X:Cx}{a b c:Õ}{ta tb tc:TE}{pos:é}
def bu{k a:Bool}(I:Inv X ZB Y H s)(q:Q (.bl k) H)(e:k=a):EP X ZB Y Q (.bool a) s:=by
 subst e;exact#[.bl k,H,I,rfl,q]
def Oz:j8 X (ä .Eq) Rk:=by
 intro ZB s Y H x y v u Q I c a h;obtain⟨b,q⟩:=h;cases x with
 |non =>
  cases c;cases y with
  |non=>cases a;exact PySem.EqNone.eq_none_none (bu I q .c)
  |bl j=>cases a;exact PySem.EqNone.eq_none_bool (bu I q .c)
  |int j=>obtain⟨t',rfl⟩:=a;exact PySem.EqNone.eq_none_int (bu I q .c)
  |str j=>obtain⟨t',rfl⟩:=a;exact PySem.EqNone.eq_none_str (bu I q .c)
  |_=>exact absurd (show Á=Â from b) Wn
 |bl i =>
  cases c;cases y with
  |non=>cases a;exact PySem.EqNone.eq_bool_none (bu I q .c)
  |bl j=>cases a;exact eq_bool (bu I q Gj)
  |str j=>obtain⟨t',rfl⟩:=a;exact ϩ (bu I q .c)
  |_=>exact absurd (show Á=Â from b) Wn
 |int i =>
  obtain⟨t,rfl⟩:=c;cases y with
  |non=>cases a;exact PySem.EqNone.eq_int_none (bu I q .c)
  |int j=>obtain⟨t',rfl⟩:=a;exact eq_int (bu I q qp)
  |str j=>obtain⟨t',rfl⟩:=a;exact Ϩ (bu I q .c)
  |_=>exact absurd (show Á=Â from b) Wn
 |str i =>
  obtain⟨t,rfl⟩:=c;cases y with
  |non=>cases a;exact PySem.EqNone.eq_str_none (bu I q .c)
  |bl j=>cases a;exact ϧ (bu I q .c)
  |int j=>obtain⟨t',rfl⟩:=a;exact Ϧ (bu I q .c)
  |str j=>obtain⟨t',rfl⟩:=a;exact eq_str (bu I q B4)
  |_=>exact absurd (show Á=Â from b) Wn
 |byt i =>
  obtain⟨t,rfl⟩:=c;cases y with
  |byt j=>obtain⟨t',rfl⟩:=a;exact PySem.W.eq_bytes (bu I q A3)
  |_=>exact absurd (show Á=Â from b) Wn
 |_=>cases y<;>exact absurd (show Á=Â from b) Wn
def Nt:j8 X (ä .NotEq) Q7:=by
 intro ZB s Y H x y v u Q I c a h;obtain⟨b,q⟩:=h;cases x with
 |non =>
  cases c;cases y with
  |non=>cases a;exact PySem.EqNone.ne_none_none (bu I q .c)
  |bl j=>cases a;exact PySem.EqNone.ne_none_bool (bu I q .c)
  |int j=>obtain⟨t',rfl⟩:=a;exact PySem.EqNone.ne_none_int (bu I q .c)
  |str j=>obtain⟨t',rfl⟩:=a;exact ϻ (bu I q .c)
  |_=>exact absurd (show Á=Â from b) Wn
 |bl i =>
  cases c;cases y with
  |non=>cases a;exact PySem.EqNone.ne_bool_none (bu I q .c)
  |bl j=>cases a;exact ne_bool (bu I q (congrArg not Gj))
  |str j=>obtain⟨t',rfl⟩:=a;exact ϥ (bu I q .c)
  |_=>exact absurd (show Á=Â from b) Wn
 |int i =>
  obtain⟨t,rfl⟩:=c;cases y with
  |non=>cases a;exact PySem.EqNone.ne_int_none (bu I q .c)
  |int j=>obtain⟨t',rfl⟩:=a;exact ne_int (bu I q (congrArg not qp))
  |str j=>obtain⟨t',rfl⟩:=a;exact Ϥ (bu I q .c)
  |_=>exact absurd (show Á=Â from b) Wn
 |str i =>
  obtain⟨t,rfl⟩:=c;cases y with
  |non=>cases a;exact Ϻ (bu I q .c)
  |bl j=>cases a;exact ϣ (bu I q .c)
  |int j=>obtain⟨t',rfl⟩:=a;exact Ϣ (bu I q .c)
  |str j=>obtain⟨t',rfl⟩:=a;exact ne_str (bu I q (congrArg not B4))
  |_=>exact absurd (show Á=Â from b) Wn
 |byt i =>
  obtain⟨t,rfl⟩:=c;cases y with
  |byt j=>obtain⟨t',rfl⟩:=a;exact PySem.W.ne_bytes (bu I q (congrArg not A3))
  |_=>exact absurd (show Á=Â from b) Wn
 |_=>cases y<;>exact absurd (show Á=Â from b) Wn
def O3:j8 X (ä .Lt) (Iq λi j=>.bl (decide (i<j))):=JF λ_ _ _ _ _ _ _ q=>lt_int q
def OI:j8 X (ä .LtE) (Iq λi j=>.bl (decide (i<=j))):=JF λ_ _ _ _ _ _ _ q=>le_int q
def N_:j8 X (ä .Gt) (Iq λi j=>.bl (decide (j<i))):=JF λ_ _ _ _ _ _ _ q=>gt_int q
def Ot:j8 X (ä .GtE) (Iq λi j=>.bl (decide (j<=i))):=JF λ_ _ _ _ _ _ _ q=>ge_int q
def E5(b:Õ)(h:autoParam (op≠.In) zrb)(h2:autoParam (op≠.NotIn) zrb):ñ op b=Á:=by
 have e1:(op==CmpOp.In)=Á:=by cases op<;>first|rfl|exact absurd rfl h
 have e2:(op==ϖ)=Á:=by cases op<;>first|rfl|exact absurd rfl h2
 cases b<;>simp[ñ,e1,e2]
def Iw(d:j8 X (ä op) r)(ha:PE X a ta)(g:PE X b tb)(i:ñ op b=Á):PE X (.Compare a [op] [b] pos) (Ph r ta tb):=by
 intro ZB s Y H Q I h;exact wpAny_Compare1 (My ha g I h λv u e x y H2 f c j q=>d ZB e Y H2 x y v u Q f c j q) i
def J9(t:TE):TT:=λY H Q=>t Y H λx H'=>∃k,x=.bl k/\Q k H'
def IX(j:j8 X (ä op) r)(ha:PE X a ta)(q:PE X b tb)(t:ñ op b=Á):PT X (.Compare a [op] [b] pos) (J9 (Ph r ta tb)):=by
 intro ZB s Y H Q I h
 refine Ų (b9 (ha ZB s Y H _ I h) λv A ⟨x,H1,f,w,q1⟩=>b9 (q ZB A Y H1 _ f q1) λu l ⟨y,H2,o,g,n⟩ =>
  b9 (j ZB l Y H2 x y v u _ o w g n) λc B ⟨z,d,p,m,k,e,i⟩=>?_) t
 subst e;cases m;exact Xp #[d,p,i]
def FE(r c:R2)(ta tb tc:TE):TE:=λY H Q=>ta Y H λx H1=>tb Y H1 λy H2=>r x y H2 λz a=>∃k,z=.bl k /\
 (if k=Â then tc Y a λd b=>c y d b Q else Q (.bl Á) a)
def Ee{f:ť}{n:R2}(q:j8 X (ä op) r)(g:j8 X (ä f) n)(ha:PE X a ta)(B:PE X b tb)(p:PE X c tc)
  (N:autoParam (ř [op,f] [b,c]=Á) zrg):PE X (.Compare a [op,f] [b,c] pos) (FE r n ta tb tc):=by
 intro ZB s Y H Q I h
 refine Compare_chain (b9 (ha ZB s Y H _ I h) λv E ⟨x,H1,J,O,q1⟩=>chain_link (b9 (B ZB E Y H1 _ J q1) λu t ⟨y,H2,α,j,A⟩ =>
  b9 (q ZB t Y H2 x y v u _ α O j A) λd P ⟨z,i,m,K,k,e,l⟩=>?_)) N
 subst e;cases K;refine Xp ?_;cases k with
 |false=>exact ite_ff #[.bl Á,i,m,rfl,l]
 |true=>exact ite_tt (chain_last (b9 (p ZB P Y i _ m l) λG L ⟨D,F,w,o,C⟩=>g ZB L Y F y D u G Q w j o C))
def GN{f:ť}{n:R2}(q:j8 X (ä op) r)(g:j8 X (ä f) n)(ha:PE X a ta)(C:PE X b tb)(p:PE X c tc)
  (T:autoParam (ř [op,f] [b,c]=Á) zrg):PT X (.Compare a [op,f] [b,c] pos) (J9 (FE r n ta tb tc)):=by
 intro ZB s Y H Q I h
 refine isTrue_chain (b9 (ha ZB s Y H _ I h) λv G ⟨x,H1,α,Γ,q1⟩=>test_link (b9 (C ZB G Y H1 _ α q1) λu t ⟨y,H2,S,j,B⟩ =>
  b9 (q ZB t Y H2 x y v u _ S Γ j B) λd V ⟨z,i,m,O,k,e,l⟩=>?_)) T
 subst e;cases O;refine Xp ?_;cases k with
 |false =>
  obtain⟨Z,W,A⟩:=l;cases W;exact ite_ff #[i,m,A]
 |true =>
  refine ite_tt (test_last (b9 (p ZB V Y i _ m l) λK P ⟨F,J,w,o,E⟩=>b9 (g ZB P Y J y F u K _ w j o E) λd' σ ⟨z2,N,L,D,k2,e2,R⟩=>?_));subst e2;cases D;exact Xp #[N,L,R]
def vF:(sizeLine:Nat)<2^63:=by rw[sizeLine_eq];decide
def vals1{x:V}(r:Vals [x] us):∃u,us=[u]/\RelV x u:=by
 cases r with
 |cons a b=>cases b;exact#[_,rfl,a]
def vals2{x y:V}(r:Vals [x,y] us):∃u a,us=[u,a]/\RelV x u/\RelV y a:=by
 cases r with
 |cons c d =>
  cases d with
  |cons e b=>cases b;exact#[_,_,rfl,c,e]
def FL:gJ X (.builtin "abs") (λxs H Q=>∃i,xs=[.int i]/\Q (.int (if i<0 then -i else i)) H):=by
 intro ZB s Y H xs us Q I r h;obtain⟨i,rfl,q⟩:=h;obtain⟨u,rfl,t,rfl⟩:=vals1 r;exact call_abs_int λu tk=>#[.int (if i<0 then -i else i),H,I.tok _,#[_,rfl],q]
def Cy(b:X.calm=Â):gJ X (.builtin "min") (λxs H Q=>∃i j,xs=[.int i,.int j]/\Q (.int (if j<i then j else i)) H):=by
 intro ZB s Y H xs us Q I r h;obtain⟨i,j,rfl,q⟩:=h;obtain⟨u,c,rfl,⟨t,rfl⟩,⟨t',rfl⟩⟩:=vals2 r;refine min_two_ints (I.ok.hd b) λh' tk k=>#[_,H,I.kept k,?_,q];by_cases a:j<i
 .rw[V6 a,V6 a];exact#[_,rfl]
 .rw[V4 a,V4 a];exact#[_,rfl]
def Dv:gJ X (.type "int") (λxs H Q=>(∃i,xs=[.int i]/\Q (.int i) H)\/∃k,xs=[.bl k]/\Q (.int (if k then 1 else 0)) H):=by
 intro ZB s Y H xs us Q I r h;rcases h with⟨i,rfl,q⟩|⟨k,rfl,q⟩
 .obtain⟨u,rfl,t,rfl⟩:=vals1 r;exact call_int_int #[.int i,H,I,#[_,rfl],q]
 .obtain⟨u,rfl,a⟩:=vals1 r;cases a;exact call_int_bool #[.int (if k then 1 else 0),H,I.tok _,#[_,rfl],q]
variable{prog:Ò}{w:Û}{A:á}{E:Å->Ç->Prop}{s:Ç}{K:Ã}{x dx C f:Æ}{mA:Í->Option Å}{name:Í}{v:Å}
end
def ng.some_of{o:Option Å}(r:ng (À v) o):∃u,o=À u/\RelV v u:=by
 cases o with
 |none=>exact(show False from r).elim
 |some u=>exact#[u,rfl,r]
section
variable{P:Ò}{w:Û}{H H':Hp}{h h':Ý}{a C dx:Æ}{fs fs':List (Í×V)}
variable{X:Cx}{ZB:List (Æ×ò)}{Y:St}{s:Ç}{f:Í}{v:V}{A:á}{E:Å->Ç->Prop}
variable{o e value:Õ}{pos pos' tpos:é}{ta tv:TE}
variable{Q:Å->Ç->Prop}{c:Å}{b:Bool}
end
structure dk(k:Nat)(A:á):Prop where
 hd:A.handled=none
 dp:A.depth+3*k+5<Ŀ
 un:A.units+16*k+200<ù
def dk.mono{j:Nat}(r:dk k A)(h:j<=k):dk j A:=#[r.hd,by have:=r.dp;lia,by have:=r.un;lia]
def dk.deeper{k:Nat}{A:á}(r:dk (k+1) A)(env:ė):dk k (A.deeper env) :=
 #[r.hd,by have:=r.dp;show A.depth+1+3*k+5<_;lia,by have:=r.un;show A.units+3+16*k+200<_;lia]
def dk.depth{k:Nat}{A:á}(r:dk k A):A.depth<Ŀ:=by have:=r.dp;lia
def Ms:TA:=λ_ H Q=>Q [] H
def KD(ta:TE)(tr:TA):TA:=λY H Q=>ta Y H λx H1=>tr Y H1 λxs H2=>Q (x::xs) H2
section
variable{X:Cx}{e:Õ}{es:List Õ}{te:TE}{t:TA}{pos:é}
def aZ:PA X [] Ms:=λ_ _ _ _ H Q I h=>aao #[[],H,I,.nil,h]
def aC(ha:PE X e te)(i:PA X es t)(f:autoParam (Ä (e::es) X.env=(Á,Ö e X.env)::Ä es X.env) zra):PA X (e::es) (KD te t):=by
 intro pos ZB s Y H Q I h;rw[f];show Î _ _ (spliced ((Á,Ö e X.env)::æ pos (Ä es X.env))) _ _ s;refine Zb (b9 (ha ZB s Y H _ I h) λu j ⟨x,H1,a,g,q1⟩=>?_);exact b9 (i pos ZB j Y H1 _ a q1) λus k ⟨xs,H2,d,b,c⟩=>#[x::xs,H2,d,.cons g b,c]
def Qh(t:TA):TE:=λY H Q=>t Y H λxs H1=>xs.length<=sizeLine/\∀p,H1 p=none->Q (.ref p) (upd H1 p (.tup xs))
def Pt(t:TA):TE:=λY H Q=>t Y H λxs H1=>xs.length<=sizeLine/\∀p,H1 p=none->Q (.ref p) (upd H1 p (.lst xs))
def Gp{x1}(h:PA X es t):PE X (.Tuple es x1 pos) (Qh t):=by
 intro ZB s Y H Q I d;refine wpAny_Tuple_spliced (b9 (h pos ZB s Y H _ I d) λus a ⟨xs,H1,c,r,z,q⟩=>#[by rwa[<-r.length],?_]);have f:H1 a.heap.objs.size=none:=c.hok.fresh (V_ _);refine#[.ref a.heap.objs.size,upd H1 a.heap.objs.size (.tup xs),c.laid (t':=a.toks) (λb u e=>Ww _ e) (V_ _) ?_,rfl,q _ f];exact#[z,us,r,#[_,WS _ rfl,rfl,_,rfl]]
def zD(h:PA X es t):PE X (.List es pos) (Pt t):=by
 intro ZB s Y H Q I d;refine wpAny_List_spliced (b9 (h pos ZB s Y H _ I d) λus a ⟨xs,H1,c,r,z,q⟩=>#[by rwa[<-r.length],?_]);have f:H1 a.heap.objs.size=none:=c.hok.fresh (V_ _);refine#[.ref a.heap.objs.size,upd H1 a.heap.objs.size (.lst xs),c.laid (t':=a.toks) (λb u e=>Ww _ e) (V_ _) ?_,rfl,q _ f];exact#[z,us,0,r,WS _ rfl]
end
abbrev Sp:=List V->Hp->VK->XK->Prop
abbrev CW:=List ė->Hp->Ç->XK->Å->Ç->Prop
structure CN(P:Ò)(w:Û)(K:Ã)(mg:Í->Option Å)(base:Ý)(A:á)(outer:List ė)(s:Ç)(H:Hp):Prop where
 frames:A.frames=À outer
 mod:Mod K mg base
 bs:∀b o,base.get? b=À o->s.heap.get? b=À o/\H b=none
 bsz:base.objs.size<=s.heap.objs.size
 j6:s.heap.FunFrames base outer
 frf:∀b∈s_ outer,H b=none
 hok:lz P w H s.heap
 bare:đ s.gens
def CE(outer:List ė)(P:Ò)(w:Û)(H:Hp)(s:Ç)(Q:VK)(u:Å)(s':Ç):Prop :=
 ∃v H',s'.os=s.os/\đ s'.gens/\Un (s_ outer) [] H H' s.heap s'.heap/\lz P w H' s'.heap/\RelV v u/\Q v H'
def CR(CX:CW)(outer:List ė)(P:Ò)(w:Û)(H:Hp)(s:Ç)(Q:VK)(E:XK)(r:Result)(s':Ç):Prop :=
 match r with
 |.ok (.ret u)=>CE outer P w H s Q u s'
 |.ok _=>False
 |.error e=>CX outer H s E e s'
structure dY(P:Ò)(w:Û)(K:Ã)(mg:Í->Option Å)(base:Ý)(CX:CW)(k:Nat)(f:Æ)(fd:ì)(ps:List Í)(sp:Sp):Prop where
 len:∀vs H Q E,sp vs H Q E->vs.length=ps.length
 run:∀(A:á) (outer:List ė) (s:Ç) (H:Hp) (args:Args) (us:List Å) (vs:List V) (Q:VK) (E:XK),dk k A->⇑CN A outer s H->Ģ s fd args (ps.zip us)->Vals vs us->sp vs H Q E ->
  Ġ (Ñ P w) A (.call (.ref f) args) (CR CX outer P w H s Q E) s
section
variable{X:Cx}{ZB:List (Æ×ò)}{Y:St}{H:Hp}{s s':Ç}
def Inv.Lq(I:Inv X ZB Y H s):CN X.prog X.w X.K X.mg X.base X.A X.stack s H :=
 #[I.ok.frames,I.ok.mod,I.bs,W6 I.ok.bsz I.sz,I.stack,I.wt,I.hok,I.bare]
def Inv.after(I:Inv X ZB Y H s)(h:CE X.stack X.prog X.w H s Q u s'):EP X ZB Y Q u s':=by
 obtain⟨v,H',e,bare,un,a,r,q⟩:=h;obtain⟨f,g,d,t,c⟩:=s';obtain rfl:c=s.os:=e;exact#[v,H',I.call (h':=f) (g':=g) (d':=d) (t':=t) (ch:=[]) un a bare (λb z=>absurd z .c),r,q]
end
def JY(sp:Sp)(dvs:List V)(E:XK)(t:TA):TE:=λY H Q=>t Y H λvs H1=>sp (vs++dvs) H1 Q E
def Binds(K:Ã)(fd:ì)(ps:List Í)(ds:List Å):Prop :=
 ∀(s:Ç) (us:List Å),K.In s.heap->(us++ds).length=ps.length->Ģ s fd #[us,[]] (ps.zip (us++ds))
def Binds.all{fd:ì}{ps:List Í}(h:∀us:List Å,us.length=ps.length->ĉ fd #[us,[]]=pure (ps.zip us)):Binds K fd ps []:=λs us _ a=>by
 rw[Yq] at a ⊢;exact .of_eq (h us a)
def Passes(CX:CW)(X:Cx)(E:XK):Prop:=∀(ZB:List (Æ×ò)) (Y:St) (H:Hp) (s:Ç) (e:Å) (s':Ç),Inv X ZB Y H s->CX X.stack H s E e s'->X.xe e s'
section
variable{X:Cx}{CX:CW}{k:Nat}{f C:Æ}{fd:ì}{ps:List Í}{sp:Sp}{dvs:List V}{ds:List Å}{E:XK}{x m:Í}{p pos apos:é}{e o:Õ}{es:List Õ}{ta:TE}{t:TA}
def E6{vs:List V}(F:dY X.prog X.w X.K X.mg X.base CX k f fd ps sp)(l:dk k X.A)(j:Binds X.K fd ps ds)(i:Vals dvs ds)(g:Passes CX X E)
  (I:Inv X ZB Y H s) (r:Vals vs us) (h:sp (vs++dvs) H Q E):Î .E X.A (call (.ref f) us) (EP X ZB Y Q) X.xe s:=by
 have b:Vals (vs++dvs) (us++ds):=r.append i;have d:(us++ds).length=ps.length:=by rw[<-b.length];exact F.len _ _ _ _ h
 refine aau (ZN (F.run X.A X.stack s H #[us,[]] (us++ds) (vs++dvs) Q E l I.Lq (j s us I.Dj d) b h) λr s' a=>?_);cases r with
 |error e=>exact g ZB Y H s e s' I a
 |ok c =>
  cases c with
  |ret u=>exact I.after a
  |next=>exact è a
  |brk=>exact è a
  |cont=>exact è a
def lg(F:dY X.prog X.w X.K X.mg X.base CX k f fd ps sp)(m:dk k X.A)(g:Gl X x)(l:X.mg x=À (.ref f))(i:ð X.K (.ref f)=Â)(j:Binds X.K fd ps ds)(d:Vals dvs ds)(c:Passes CX X E)
  (ha:PA X (e::es) t) (a:autoParam ((x==("__debug__":Í))=Á) zrb) (he:autoParam (Ä (e::es) X.env=(Á,Ö e X.env)::Ä es X.env) zra) (hpl:autoParam ((æ pos (Ä es X.env)).any (·.1)=Á) zra):
  PE X (.Call (.Name x p) (e::es) [] pos) (JY sp dvs E t):=by
 intro ZB s Y H Q I h;refine Yn (jB I g l ?_ a);refine aad (h₀:=X.base) I.ok.mod.kin i (b9 (ha pos ZB s Y H _ I h) λus n ⟨vs,H1,b,r,q⟩=>#[b.Dj,?_]) he hpl;exact E6 F m j d c b r q
def Gy(F:dY X.prog X.w X.K X.mg X.base CX k f fd ps sp)(i:dk k X.A)(j:Gl X x)(e:X.mg x=À (.ref f))(b:ð X.K (.ref f)=Â)(d:Binds X.K fd ps ds)(g:Vals dvs ds)(c:Passes CX X E)
  (a:autoParam ((x==("__debug__":Í))=Á) zrb):PE X (.Call (.Name x p) [] [] pos) (JY sp dvs E Ms):=by
 intro ZB s Y H Q I h;refine Yn (jB I j e ?_ a);exact PySem.W.callWith_K0 I.Dj b (E6 (us:=[]) F i d g c I .nil h)
variable{ks:List Í}{kpos:é}{kws:List Ď}{te:TE}{tk:TA}{nm:Option Í}{g:List Å->List Å->List Å}{gV:List V->List V->List V}
end
structure ak(N P:List Í)(sc:ú):Prop where
 kind:sc.kind=.function
 co:sc.isCoroutine=Á
 gen:sc.isGenerator=Á
 nd:N.Nodup
 pre:N.take P.length=P
 par:∀x∈P,sc.names.lookup x=À .local\/sc.names.lookup x=À .cell
 nofree:∀y∈sc.names,y.2≠.free
theorem uw{kindOf:Í->Option ë}{x:Í}:∀{binds:List (Í×Å)} {m:Í->Option Å},(∀v,(x,v)∉binds)->Ś kindOf binds m x=m x
 |[],_,_=>rfl
 | (n,v) :: r,m,h=>by
  unfold Ś;rw[uw λw a=>h w (We _ a)];split
  .have:x≠n:=by rintro rfl;exact h v Wu
   simp[this]
  .rfl
theorem uo{kindOf:Í->Option ë}{x:Í}:∀{binds:List (Í×Å)} {m:Í->Option Å},(∀v,(x,v)∉binds)->ś kindOf binds m x=m x
 |[],_,_=>rfl
 | (n,v) :: r,m,h=>by
  unfold ś;rw[uo λw a=>h w (We _ a)];split
  .rfl
  .have:x≠n:=by rintro rfl;exact h v Wu
   simp[this]
theorem uG{kindOf:Í->Option ë}{x:Í}{v:Å}:∀{P:List Í} {vs:List Å} {i:Nat} {m:Í->Option Å},P.Nodup->P[i]?=À x->vs[i]?=À v->kindOf x=À .local ->
  Ś kindOf (P.zip vs) m x=À v
 |[],_,_,_,_,h,_,_=>by simp at h
 |_::_,[],_,_,_,_,h,_=>by simp at h
 |p::P,w::vs,0,m,a,h1,h2,b=>by
  simp at h1 h2;subst h1;subst h2;show Ś kindOf ((p,w)::P.zip vs) m p=_;unfold Ś;rw[uw λv c=>(Xw.mp a).1 (XZ c).1,V6 b];simp
 |p::P,w::vs,i+1,m,a,h1,h2,b=>by
  show Ś kindOf ((p,w)::P.zip vs) m x=_;unfold Ś;exact uG (i:=i) (Xw.mp a).2 ↑h1 ↑h2 b
theorem uq{kindOf:Í->Option ë}{x:Í}{v:Å}:∀{P:List Í} {vs:List Å} {i:Nat} {m:Í->Option Å},P.Nodup->P[i]?=À x->vs[i]?=À v->kindOf x≠À .local ->
  ś kindOf (P.zip vs) m x=À v
 |[],_,_,_,_,h,_,_=>by simp at h
 |_::_,[],_,_,_,_,h,_=>by simp at h
 |p::P,w::vs,0,m,a,h1,h2,b=>by
  simp at h1 h2;subst h1;subst h2;show ś kindOf ((p,w)::P.zip vs) m p=_;unfold ś;rw[uo λv c=>(Xw.mp a).1 (XZ c).1,V4 b];simp
 |p::P,w::vs,i+1,m,a,h1,h2,b=>by
  show ś kindOf ((p,w)::P.zip vs) m x=_;unfold ś;exact uq (i:=i) (Xw.mp a).2 ↑h1 ↑h2 b
noncomputable def start(N:List Í)(vs:List V):St:=vs.map À++È (N.length-vs.length) none
noncomputable def oy(CX:CW)(P:Ò)(w:Û)(K:Ã)(mg:Í->Option Å)(base:Ý)(N:List Í)(qual:Í)(YP:ú)(f:Æ)(cd:Å)(A:á)(outer:List ė)(s:Ç)(H:Hp)(E:XK):Cx where
 prog:=P
 w:=w
 K:=K
 mg:=mg
 base:=base
 A:=A.deeper (Č qual YP s.heap.objs.size f cd)
 N:=N
 s₀:=s
 H₀:=H
 env:=Č qual YP s.heap.objs.size f cd
 outer:=outer
 stack:=Č qual YP s.heap.objs.size f cd::outer
 ex:=[]
 calm:=Â
 fn:=λ_=>Â
 pn:=[]
 xe:=λe s'=>Î (Ñ P w) (A.deeper (Č qual YP s.heap.objs.size f cd)) (leaving (Č qual YP s.heap.objs.size f cd) e) (λ_ a=>CX outer H s E e a) (λb a=>CX outer H s E b a) s'
def xP{a:ú}(h:a.names.lookup x=À .cell):∃c,(å n a.names []).lookup x=À c:=by
 have q:=Yl a.names n [] (.inl h);exact X9.mp q
def uJ{CX:CW}{mg:Í->Option Å}{base:Ý}{N ps:List Í}{qual:Í}{YP:ú}{f:Æ}{cd:Å}{outer:List ė}{t:Ç}{E:XK}{vs:List V}
  (S:ak N ps YP) (B:A.handled=none) (d:⇑CN A outer s H) (D:vs.length=ps.length) (r:Vals vs us)
  (x:InCallC s s.heap.objs.size (Ś (Č qual YP s.heap.objs.size f cd).kindOf (ps.zip us) λ_=>none) (å (s.heap.objs.size+1) YP.names []) (ś (Č qual YP s.heap.objs.size f cd).kindOf (ps.zip us) λ_=>none) t):
  Inv (oy CX P w K mg base N qual YP f cd A outer s H E) [] (start N vs) H t:=by
 have hpl:ps.length<=N.length:=by have:=congrArg ϰ S.pre;rw[Zz] at this;lia
 obtain⟨h1,tk,rfl,o⟩:=x.done;have j:∀b:Æ,b∉(oy CX P w K mg base N qual YP f cd A outer s H E).ex:=λb z=>absurd (show b∈([]:List Æ) from z) .c
 refine#[#[d.mod,S.kind,rfl,rfl,V_ _,λy z c h1 h2=>?_,λy g=>?_,λy c _ h=>?_,λ_=>B,Around.frames_deeper d.frames,.inr #[rfl,rfl],λb z=>absurd z (j b),d.bs,d.bsz,λb _ _=>j b,λb z=>absurd z (j b),d.j6,d.frf],
  rfl,d.bare,Un.kept o,#[_,x.toInCall.ns,λi y v h1 h2 F=>?_],λy c h=>#[_,x.cell y c h],d.hok.fresh (V_ _),λy c h=>?_,λp hp=>absurd (show p∈([]:List (Æ×ò)) from hp) .c,d.hok.kept o,?_]
 .exact name_of_addr x.apart (Yh h1) (Yh h2)
 .have g:YP.names.lookup y=À .cell\/YP.names.lookup y=À .free:=g;rcases g with g|g
  .exact xP g
  .exact absurd rfl (S.nofree _ (Yh g))
 .exact Xv (x.above y c (Yh h))
 .have hi:i<vs.length:=by
   unfold start at h2;by_cases hi:i<vs.length
   .exact hi
   .rw[Xu ↑hi] at h2;rw[List.getElem?_replicate] at h2;split at h2<;>cases h2
  have ha:vs[i]?=À v:=by
   unfold start at h2;rw[XS ↑hi,WJ] at h2;cases e:vs[i]? with
   |none=>rw[e] at h2;cases h2
   |some a=>rw[e] at h2;cases h2;rfl
  obtain⟨u,m,C⟩:=r.get ha
  have hp:ps[i]?=À y:=by
   rwa[<-S.pre,List.getElem?_take_of_lt .a]
  have l:ps.Nodup:=by rw[<-S.pre];exact S.nd.sublist (List.take_sublist _ _)
  refine#[u,C,?_];rcases S.par y (Wq hp) with k|k
  .exact .inl #[k,uG l hp m k]
  .obtain⟨c,e⟩:=xP (n:=s.heap.objs.size+1) k;refine .inr #[.inl k,c,e,?_];have q:=x.cell y c e;rw[uq l hp m (by show YP.names.lookup y≠_;rw[k];decide)] at q;exact q
 .exact d.hok.fresh (Xv (x.above y c (Yh h)))
 .unfold start;show _=N.length;rw[WL,V2,ZG];lia
def Kt{CX:CW}{mg:Í->Option Å}{base:Ý}{f:Æ}{name qual:Í}{params:Arguments}{YP:ú}{D kV doc F a ct X:Å}{B od:Option Æ}
  {p:Array (Option Å)} {N ps:List Í} {sp:Sp} (Γ:K.lookup f=À #[X,od,.func (â name qual params body YP D kV doc F B a ct),p]) (m:ē K a qual=Â) (S:ak N ps YP)
  (len:∀vs H Q E,sp vs H Q E->vs.length=ps.length)
  (d:∀(A:á) (outer:List ė) (s:Ç) (H:Hp) (vs:List V) (Q:VK) (E:XK),dk k (A.deeper (Č qual YP s.heap.objs.size f a))->sp vs H Q E ->
   ∃t,mP (oy CX P w K mg base N qual YP f a A outer s H E) body t/\t {nx:=λ_ H'=>Q .non H',rt:=Q} (start N vs) H):
  dY P w K mg base CX (k+1) f (â name qual params body YP D kV doc F B a ct) ps sp:=by
 refine#[len,λA outer s H args us vs Q E l h α r i=>?_];have G:=len _ _ _ _ i;have z:K.In s.heap:=h.mod.kin.keeps λb o e=>(h.bs b o e).1;have lim:s.heap.NoLimit:=h.mod.nolimit.keeps λb o e=>(h.bs b o e).1
 have c:∀y∈ps.zip us,YP.names.lookup y.1=À .local\/(YP.names.lookup y.1=À .cell/\((å (s.heap.objs.size+1) YP.names []).lookup y.1).isSome=Â):=fun(n,v) L=>by
  rcases S.par n (XZ L).1 with q|q
  .exact .inl q
  .exact .inr #[q,Yl _ _ _ (.inl q)]
 refine ų l.depth (z _ _ Γ) rfl S.co S.gen rfl (ń z m) (α _ _ _ _ ?_);refine aah S.kind c λenv he C x=>?_;subst he;refine#[lim.keeps x.toInCall.keep,codeAny_func ?_];obtain⟨t,R,T⟩:=d A outer s H vs Q E (l.deeper _) i;have I:Inv (oy CX P w K mg base N qual YP f a A outer s H E) [] (start N vs) H C:=uJ S l.hd h G r x;refine Xl (R [] C (start N vs) H _ I T) (λO s' g=>?_) λe s' g=>g
 have fin:∀{Y':St} {H':Hp} {v:V} {u:Å},Inv (oy CX P w K mg base N qual YP f a A outer s H E) [] Y' H' s'->RelV v u->Q v H'->CE outer P w H s Q u s' :=
  λ{Y' H' v u} J j q=>#[v,H',J.os,J.bare,J.base,J.hok,j,q]
 cases O with
 |ret u =>
  obtain⟨v,Y',H',J,j,q⟩:=g;exact fin J j q
 |next =>
  obtain⟨Y',H',J,q⟩:=g;exact fin (v:=V.non) (u:=õ) J rfl q
 |brk =>
  obtain⟨_,_,_,q⟩:=g;exact è q
 |cont =>
  obtain⟨_,_,_,q⟩:=g;exact è q
section
variable{X:Cx}{x:Í}{p pos:é}{e:Õ}{es:List Õ}{t:TA}{id T:String}{r:List V->Hp->VK->Prop}
def QO(r:List V->Hp->VK->Prop)(t:TA):TE:=λY H Q=>t Y H λvs H1=>r vs H1 Q
def da(d:gJ X (.builtin id) r)(f:Gl X x)(i:X.mg x=none)(b:þ x=À (.builtin id))(ha:PA X (e::es) t)(g:autoParam (x≠"__name__") zrb)(a:autoParam ((x==("__debug__":Í))=Á) zrb)
  (he:autoParam (Ä (e::es) X.env=(Á,Ö e X.env)::Ä es X.env) zra) (hpl:autoParam ((æ pos (Ä es X.env)).any (·.1)=Á) zra):PE X (.Call (.Name x p) (e::es) [] pos) (QO r t):=by
 intro ZB s Y H Q I h;refine Yn (kg I f i b ?_ g a);exact PyProof.Rows.callWith_builtin1 (b9 (ha pos ZB s Y H _ I h) λus k ⟨vs,H1,c,j,q1⟩=>d ZB k Y H1 vs us Q c j q1) he hpl
def lh(d:gJ X (.type T) r)(f:Gl X x)(i:X.mg x=none)(b:þ x=À (.type T))(ha:PA X (e::es) t)(g:autoParam (x≠"__name__") zrb)(a:autoParam ((x==("__debug__":Í))=Á) zrb)
  (he:autoParam (Ä (e::es) X.env=(Á,Ö e X.env)::Ä es X.env) zra) (hpl:autoParam ((æ pos (Ä es X.env)).any (·.1)=Á) zra):PE X (.Call (.Name x p) (e::es) [] pos) (QO r t):=by
 intro ZB s Y H Q I h;refine Yn (kg I f i b ?_ g a);exact XI (b9 (ha pos ZB s Y H _ I h) λus k ⟨vs,H1,c,j,q1⟩=>d ZB k Y H1 vs us Q c j q1) he hpl
end
end L2
namespace HT
open PySem PyProof.Rows
section
open PySem.SeqAt
open PySem.AutoSeq1 (wpAny_loadPart')
open PySem.MeetsSeq PySem.MeetsSeq2 PySem.MeetsSeq3
end
section
variable{prog:Ò}{w:Û}{A:á}{E:Å->Ç->Prop}{s:Ç}
noncomputable def x3(n d:Nat):Option Int->Nat
 |none=>d
 |some v=>if v<0 then (v+(n:Int)).toNat else min v.toNat n
def ot(n d:Nat):x3 n d none=d:=rfl
def qi(n d k:Nat):x3 n d (À (k:Int))=min k n:=by
 show(if (k:Int)<0 then ((k:Int)+(n:Int)).toNat else min (k:Int).toNat n)=min k n;rw[V4 .a,Wm]
end
end HT
namespace L2
open PySem PySem.Spec PyProof.Rows
variable{n:Nat}{s:Ç}{XP:List Å}{x:V}
abbrev TO:=St->Hp->(Option Int->Hp->Prop)->Prop
def PO(X:Cx)(e:Option Õ)(t:TO):Prop :=
 ∀(ZB:List (Æ×ò)) (s:Ç) (Y:St) (H:Hp) (Q:Option Int->Hp->Prop),Inv X ZB Y H s->t Y H Q ->
  Î .E X.A (evalPart e X.env) (λu s'=>∃o H',Inv X ZB Y H' s'/\IsPart u o/\Q o H') X.xe s
def HJ:TO:=λ_ H Q=>Q none H
def Nk(t:TE):TO:=λY H Q=>t Y H λx H1=>∃i,x=.int i/\Q (À i) H1
def intsAre_of{ns:List Int}:∀{us:List Å},Vals (ns.map V.int) us->ľ us ns:=by
 induction ns with
 |nil=>intro us r;rw[Zc] at r;cases r;exact .nil
 |cons n ns a =>
  intro us r;rw[Wb] at r;cases r with
  |cons b c =>
   obtain⟨t,e⟩:=b;subst e;exact .cons n t (a c)
section
variable{X:Cx}{e:Õ}{te:TE}{lo hi:Option Õ}{tl th:TO}{pos p2:é}
def qF:PO X none HJ:=by
 intro ZB s Y H Q I h;rw[evalPart_none];exact Wi #[none,H,I,.none,h]
def qr(h:PE X e te):PO X (À e) (Nk te):=by
 intro ZB s Y H Q I a;rw[evalPart_some];refine b9 (h ZB s Y H _ I a) λu d ⟨x,H1,c,b,q1⟩=>?_;obtain⟨i,rfl,q⟩:=q1;obtain⟨t,rfl⟩:=b;exact#[À i,H1,c,.int i t,q]
def QY(X:Cx)(r:V->Option Int->Option Int->Hp->VK->Prop):Prop :=
 ∀(ZB:List (Æ×ò)) (s:Ç) (Y:St) (H:Hp) (x:V) (v b a:Å) (lo hi:Option Int) (c:Æ) (Q:VK),Inv X ZB Y H s->RelV x v->s.heap.IsSliceOf c b a .none->IsPart b lo->IsPart a hi->r x lo hi H Q ->
  ∃T id,Ψ (.type T) "__getitem__"=pure (À (.builtin id))/\s.TypeIs v T/\Î .E X.A (ļ v (.ref c)) (EP X ZB Y Q) X.xe s
def Q_(r:V->Option Int->Option Int->Hp->VK->Prop)(te:TE)(tl th:TO):TE:=λY H Q=>te Y H λx H1=>tl Y H1 λl H2=>th Y H2 λu a=>r x l u a Q
def nZ{r:V->Option Int->Option Int->Hp->VK->Prop}(t:QY X r)(he:PE X e te)(g:PO X lo tl)(p:PO X hi th):PE X (.Subscript e (.Slice lo hi none p2) pos) (Q_ r te tl th):=by
 intro ZB s Y H Q I h;refine ο (b9 (he ZB s Y H _ I h) λv z ⟨x,H1,B,E,q1⟩=>?_);refine wpAny_Slice (b9 (g ZB z Y H1 _ B q1) λd j ⟨l,H2,D,pl,n⟩=>b9 (p ZB j Y H2 _ D n) λc a ⟨u,f,o,pu,i⟩=>?_);rw[evalPart_none];refine Wi ?_;have k:Inv X ZB Y f {a with heap:=a.heap.push {cls:=.type "slice",data:=.fields (ã [d,c,.none])}}:=o.kept (t':=a.toks) λb ob q=>Ww _ q;obtain⟨T,id,y,C,m⟩:=t ZB {a with heap:=a.heap.push {cls:=.type "slice",data:=.fields (ã [d,c,.none])}} Y f x v d c l u a.heap.objs.size Q k E (ϔ ..) pl pu i;show Î .E X.A (ŏ e (.Slice lo hi none p2) v (.ref a.heap.objs.size)) (EP X ZB Y Q) X.xe {a with heap:=a.heap.push {cls:=.type "slice",data:=.fields (ã [d,c,.none])}};exact tail_any (ops:=[.ref a.heap.objs.size,v]) C y m (by stop rfl)
noncomputable def ko(xs:List V)(lo hi:Option Int):List V:=(xs.drop (HT.x3 xs.length 0 lo)).take (HT.x3 xs.length xs.length hi-HT.x3 xs.length 0 lo)
def yb(xs:List V)(lo hi:Option Int):(ko xs lo hi).length<=xs.length:=by
 unfold ko;rw[Zz,XC];lia
end
noncomputable def DH(n:Nat)(i:Int):Option Nat:=if 0<=i then (if i<n then À i.toNat else none) else if -(n:Int)<=i then À (i+n).toNat else none
noncomputable def tY{M:Type}(xs:List M)(i:Int):Option M:=(DH xs.length i).bind λj=>xs[j]?
def qE{i:Int}{j:Nat}(h:DH n i=À j):seqIndex? i n=À j/\j<n/\-(n:Int)<=i/\i<n:=by
 unfold DH at h;by_cases a:0<=i
 .rw[V6 a] at h;by_cases h1:i<n
  .rw[V6 h1] at h;have e:i.toNat=j:=Wj h;exact#[by rw[ſ a h1,e],.a,.a,h1]
  .rw[V4 h1] at h;cases h
 .rw[V4 a] at h;by_cases h1:-(n:Int)<=i
  .rw[V6 h1] at h;have e:(i+n).toNat=j:=Wj h;exact#[by rw[ũ .a h1,e],.a,h1,.a]
  .rw[V4 h1] at h;cases h
def qw{M:Type}{xs:List M}{i:Int}{v:M}(h:tY xs i=À v):∃j,seqIndex? i xs.length=À j/\xs[j]?=À v/\j<xs.length/\-(xs.length:Int)<=i/\i<xs.length:=by
 unfold tY at h;cases e:DH xs.length i with
 |none=>rw[e] at h;cases h
 |some j =>
  rw[e] at h;obtain⟨h1,h2,a,b⟩:=qE e;exact#[j,h1,h,h2,a,b]
def vA{M:Type}{xs:List M}{j:Nat}{v:M}(h:xs[j]?=À v):tY xs (j:Int)=À v:=by
 have a:j<xs.length:=(Wd.mp h).1
 have e:DH xs.length (j:Int)=À j:=by
  unfold DH;rw[V6 .a,V6 .a];simp
 unfold tY;rw[e];exact h
def qe(b:Õ):Prop:=∀o i,ĵ b Á o i=operate [o,i] (ļ o i)
def P_(X:Cx)(r:R2):Prop :=
 ∀(value slice:Õ) (ZB:List (Æ×ò)) (s:Ç) (Y:St) (H:Hp) (x y:V) (v u:Å) (Q:VK),Inv X ZB Y H s->RelV x v->RelV y u->r x y H Q ->
  ĵ slice Á v u=operate [v,u] (ļ v u)->Î .E X.A (ŏ value slice v u) (EP X ZB Y Q) X.xe s
def O7(X:Cx)(id:String)(r:V->List V->Hp->VK->Prop):Prop :=
 ∀(ZB:List (Æ×ò)) (s:Ç) (Y:St) (H:Hp) (x:V) (xs:List V) (v:Å) (us:List Å) (Q:VK),Inv X ZB Y H s->RelV x v->Vals xs us->r x xs H Q ->
  Î .E X.A (call (.builtin id) (v::us)) (EP X ZB Y Q) X.xe s
section
variable{X:Cx}{a b:Õ}{ta tb:TE}{pos:é}
def B8{r:R2}(j:P_ X r)(ha:PE X a ta)(g:PE X b tb)(f:qe b):PE X (.Subscript a b pos) (Ph r ta tb):=by
 intro ZB s Y H Q I h;exact ο (My ha g I h λv u d x y H2 e c i q=>j a b ZB d Y H2 x y v u Q e c i q (f _ _))
def PV(K:Ã):R2:=λx y H Q=>∃p xs i v,x=.ref p/\y=.int i/\dM K H p xs/\tY xs i=À v/\Q v H
def PN(K:Ã):R2:=λx y H Q=>∃p xs i v,x=.ref p/\y=.int i/\Ig K H p xs/\tY xs i=À v/\Q v H
def Jy:P_ X (PV X.K):=by
 intro value slice ZB s Y H x y v u Q I l k h e;obtain⟨p,xs,i,z,rfl,rfl,n,he,q⟩:=h;cases l;obtain⟨t,rfl⟩:=k;obtain⟨XP,r,pl,hz⟩:=I.list n;obtain⟨j,h1,h2,o,m,g⟩:=qw he;obtain⟨w,c,b⟩:=r.get h2;have f:=r.length;have A:=vF;have fin:EP X ZB Y Q w s:=#[z,H,I,b,q];by_cases d:0<=i
 .have a:i.toNat=j:=by
   rw[ſ d g] at h1;exact Wj h1
  exact item_listR pl.isList d .a (by rw[a];simpa using c) fin e
 .have a:(i+(XP.toArray.size:Int)).toNat=j:=by
   rw[ũ .a m] at h1;rw[Wy,<-f];exact Wj h1
  exact Ũ (x:=w) pl.isList.typeIs slot_list_getitem.lookup
   (wpAny_getItem_list_neg (Q:=λr s'=>r=w/\EP X ZB Y Q r s') pl.isList .a (by rw[Wy]<;>lia) .a (by rw[a];simpa using c) #[rfl,fin]) e
def Aa:P_ X (PN X.K):=by
 intro value slice ZB s Y H x y v u Q I e d h g;obtain⟨p,xs,i,z,rfl,rfl,f,he,q⟩:=h;cases e;obtain⟨t,rfl⟩:=d;obtain⟨XP,r,pl,hz⟩:=I.tuple f;obtain⟨j,h1,h2,k,m,l⟩:=qw he;obtain⟨w,c,a⟩:=r.get h2;have b:=r.length;have n:=vF;have fin:EP X ZB Y Q w s:=#[z,H,I,a,q]
 exact Ũ (x:=w) pl.typeIs slot_tuple_getitem.lookup
  (getItem_tuple (j:=j) (Q:=λr s'=>r=w/\EP X ZB Y Q r s') pl .a .a (by rwa[Wy,<-b]) ↑c #[rfl,fin]) g
def zX(XP:List Å)(n j:Nat)(u:Å):ĝ (·.setIfInBounds j u) {cls:=.type "list",data:=.seq XP.toArray n}={cls:=.type "list",data:=.seq (XP.set j u).toArray n}:=by
 simp[ĝ]
def Inv.lst{ZB:List (Æ×ò)}{Y:St}{H:Hp}{s:Ç}{p:Æ}{xs:List V}(I:Inv X ZB Y H s)(h:H p=À (.lst xs)):
  ∃(XP:List Å) (n:Nat),Vals xs XP/\s.heap.get? p=À {cls:=.type "list",data:=.seq XP.toArray n}/\xs.length<=sizeLine:=by
 obtain⟨z,XP,n,r,e⟩:=I.hok p _ h;exact#[XP,n,r,e,z]
def Inv.LK{ZB:List (Æ×ò)}{Y:St}{H:Hp}{p:Æ}{xs ys:List V}{its':List Å}{a:Nat}{f:ò->ò}(I:Inv X ZB Y H s)(h:H p=À (.lst xs))
  (d:s.heap.get? p=À {cls:=.type "list",data:=.seq XP.toArray n}) (c:f {cls:=.type "list",data:=.seq XP.toArray n}={cls:=.type "list",data:=.seq its'.toArray a}) (r:Vals ys its') (hz:ys.length<=sizeLine) (t:Nat):
  Inv X ZB Y (upd H p (.lst ys)) {s with heap:=s.heap.update p f,toks:=t}:=by
 have e:(s.heap.update p f).get? p=À {cls:=.type "list",data:=.seq its'.toArray a}:=by
  rw[Yr f d (by rw[c]<;>rfl),c]
 refine I.write (x:=p) (e:=p) (by rw[h];trivial) (.inl rfl) (λb u g q=>(Xi _ _ (Xm g)).trans q) #[_,e] ?_;exact#[hz,its',a,r,e]
def N9:V->V->V->Hp->(Hp->Prop)->Prop:=λo i v H Q=>∃p xs k j,o=.ref p/\i=.int k/\H p=À (.lst xs)/\DH xs.length k=À j/\Q (upd H p (.lst (xs.set j v)))
def set_list:Nc X N9:=by
 intro ZB s Y H o i v A y u Q I x m w h;obtain⟨p,xs,k,j,rfl,rfl,hp,l,q⟩:=h;cases x;obtain⟨t,rfl⟩:=m;obtain⟨XP,n,r,b,hz⟩:=I.lst hp;obtain⟨h1,h2,f,e⟩:=qE l;have a:=r.length;have z:=vF
 have d:Inv X ZB Y (upd H p (.lst (xs.set j v))) {s with heap:=s.heap.update p (ĝ (·.setIfInBounds j u))} :=
  I.LK hp b (zX XP n j u) (r.set w j) (by rwa[WX]) s.toks
 by_cases g:0<=k
 .have c:k.toNat=j:=by
   rw[ſ g e] at h1;exact Wj h1
  exact PySem.W.ki_setAt b g .a (by rwa[Wy,<-a]) (by rw[c];exact#[_,d,q])
 .have c:(k+(XP.toArray.size:Int)).toNat=j:=by
   rw[ũ .a f] at h1;rw[Wy,<-a];exact Wj h1
  exact PySem.W.ki_setBack b .a (by rwa[Wy,<-a]) .a (by rw[c];exact#[_,d,q])
def u3(lo hi:Option Int)(n:Nat):(Ĉ lo hi none n).1=((HT.x3 n 0 lo:Nat):Int)/\(Ĉ lo hi none n).2.1=((HT.x3 n n hi:Nat):Int)/\(Ĉ lo hi none n).2.2=1:=by
 refine#[?_,?_,rfl]
 .cases lo with
  |none=>simp[Ĉ,HT.x3]
  |some i =>
   simp only[Ĉ,HT.x3,Ş,show(1:Int)>0 by decide,ZH];by_cases h:i<0
   .simp only[h,ZH]<;>lia
   .simp only[h,YY]<;>lia
 .cases hi with
  |none=>simp[Ĉ,HT.x3]
  |some i =>
   simp only[Ĉ,HT.x3,Ş,show(1:Int)>0 by decide,ZH];by_cases h:i<0
   .simp only[h,ZH]<;>lia
   .simp only[h,YY]<;>lia
def tL(XP:List Å)(lo hi:Option Int):slicePick XP.toArray lo hi none=((XP.drop (HT.x3 XP.length 0 lo)).take (HT.x3 XP.length XP.length hi-HT.x3 XP.length 0 lo)).toArray:=by
 obtain⟨h1,h2,a⟩:=u3 lo hi XP.toArray.size;unfold slicePick;rw[h1,h2,a];simp only[sliceRange_one,pick_run,Wy]<;>rfl
def Qr(K:Ã):V->Option Int->Option Int->Hp->VK->Prop:=λx lo hi H Q=>∃a xs,x=.ref a/\dM K H a xs/\∀p,H p=none->Q (.ref p) (upd H p (.lst (ko xs lo hi)))
def qD:QY X (Qr X.K):=by
 intro ZB s Y H x v j i lo hi k Q I f g pl pu h;obtain⟨a,xs,rfl,e,q⟩:=h;cases f;obtain⟨XP,r,d,hz⟩:=I.list e;have c:=r.length;refine#["list",_,slot_list_getitem.lookup,d.isList.typeIs,?_];refine wpAny_getItem_list_slice d.isList g pl pu .none .c ?_ (by rw[Wy]<;>lia);rw[tL,<-c];refine#[.ref s.heap.objs.size,_,I.laid (t':=s.toks) (o:=.lst (ko xs lo hi)) (λb ob q=>Ww _ q) (V_ _) ?_,rfl,q _ (I.hok.fresh (V_ _))];exact#[W6 (yb xs lo hi) hz,_,0,(r.drop (HT.x3 xs.length 0 lo)).take (HT.x3 xs.length xs.length hi-HT.x3 xs.length 0 lo),WS _ rfl]
def nC:V->Bool
 |.non=>Â
 |.bl _=>Â
 |.int _=>Â
 |.str _=>Â
 |_=>Á
noncomputable def G7:V->V->Bool
 |.non,.non=>Â
 |.bl a,.bl b=>a==b
 |.bl a,.int b=>(if a then 1 else 0)==b
 |.int a,.bl b=>a==(if b then 1 else 0)
 |.int a,.int b=>a==b
 |.str a,.str b=>a==b
 |_,_=>Á
def L9{A:á}{y:V}{u v:Å}(e:RelV y u)(c:RelV x v)(f:nC y=Â)(d:nC x=Â):ϟ A s u v (G7 y x):=by
 cases y with
 |non =>
  cases e;cases x with
  |non=>cases c;exact SeqAt.EqAt.same _
  |bl b=>cases c;exact SeqAt.EqAt.none_bool b
  |int b=>obtain⟨t,rfl⟩:=c;exact SeqAt.EqAt.none_int b t
  |str b=>obtain⟨t,rfl⟩:=c;exact SeqAt.EqAt.none_str b t
  |_=>exact absurd (show Á=Â from d) Wn
 |bl a =>
  cases e;cases x with
  |non=>cases c;exact SeqAt.EqAt.bool_none a
  |bl b=>cases c;exact ı a b
  |int b=>obtain⟨t,rfl⟩:=c;exact ĳ a b t
  |str b=>obtain⟨t,rfl⟩:=c;exact SeqAt.EqAt.bool_str a b t
  |_=>exact absurd (show Á=Â from d) Wn
 |int a =>
  obtain⟨t',rfl⟩:=e;cases x with
  |non=>cases c;exact SeqAt.EqAt.int_none a t'
  |bl b=>cases c;exact Ĳ a t' b
  |int b=>obtain⟨t,rfl⟩:=c;exact SeqAt.EqAt.int_int a t' b t
  |str b=>obtain⟨t,rfl⟩:=c;exact ķ a t' b t
  |_=>exact absurd (show Á=Â from d) Wn
 |str a =>
  obtain⟨t',rfl⟩:=e;cases x with
  |non=>cases c;exact SeqAt.EqAt.str_none a t'
  |bl b=>cases c;exact SeqAt.EqAt.str_bool a t' b
  |int b=>obtain⟨t,rfl⟩:=c;exact Ķ a t' b t
  |str b=>obtain⟨t,rfl⟩:=c;exact SeqAt.EqAt.str_str a t' b t
  |_=>exact absurd (show Á=Â from d) Wn
 |_=>exact absurd (show Á=Â from f) Wn
noncomputable def zA(x:V)(u:Å):Bool:=match u with
 |.none=>G7 .non x
 |.bool b=>G7 (.bl b) x
 |.int i _=>G7 (.int i) x
 |.str z _=>G7 (.str z) x
 |_=>Á
def F3{y:V}{u:Å}(r:RelV y u)(f:nC y=Â):zA x u=G7 y x:=by
 cases y with
 |non=>cases r;rfl
 |bl b=>cases r;rfl
 |int i=>obtain⟨t,rfl⟩:=r;rfl
 |str z=>obtain⟨t,rfl⟩:=r;rfl
 |_=>exact absurd (show Á=Â from f) Wn
theorem nM{x:V}:∀{xs:List V} {us:List Å},Vals xs us->xs.all nC=Â->us.any (zA x)=xs.any λy=>G7 y x
 |_,_,.nil,_=>rfl
 |y::xs,u::us,.cons r t,f=>by
  rw[Yf,WA] at f;rw[Yy,Yy,F3 r f.1,nM t f.2]
theorem kJ{A:á}{s:Ç}{x:V}{v:Å}(b:RelV x v)(c:nC x=Â):∀{xs:List V} {us:List Å},Vals xs us->xs.all nC=Â->∀u∈us,ϟ A s u v (zA x u)
 |_,_,.nil,_=>λu a=>by cases a
 |y::xs,u::us,.cons r t,f=>λd a=>by
  rw[Yf,WA] at f;rcases V8.mp a with rfl|a
  .rw[F3 r f.1];exact L9 r b f.1 c
  .exact kJ b c t f.2 d a
def M6(x:V)(xs:List V):Bool:=xs.any λy=>G7 y x
def QM(K:Ã)(neg:Bool):R2:=λx y H Q=>∃p xs,y=.ref p/\(dM K H p xs\/Ig K H p xs)/\nC x=Â/\xs.all nC=Â/\Q (.bl (if neg then !M6 x xs else M6 x xs)) H
def B_:j8 X (ä .In) (QM X.K Á):=by
 intro ZB s Y H x y v u Q I c e h;obtain⟨p,xs,rfl,a,d,fs,q⟩:=h;cases e;rcases a with a|a
 .obtain⟨XP,r,pl,hz⟩:=I.list a;refine SeqAt.in_listAt (zA x) pl.isList (λw b=>kJ c d r fs w ↑b) #[.bl _,H,I,rfl,?_];rwa[show XP.toArray.any (zA x)=XP.any (zA x) by simp,nM r fs]
 .obtain⟨XP,r,pl,hz⟩:=I.tuple a;refine SeqAt.in_tupleAt (zA x) pl (λw b=>kJ c d r fs w ↑b) #[.bl _,H,I,rfl,?_];rwa[show XP.toArray.any (zA x)=XP.any (zA x) by simp,nM r fs]
def wA:j8 X (ä .NotIn) (QM X.K Â):=by
 intro ZB s Y H x y v u Q I c e h;obtain⟨p,xs,rfl,a,d,fs,q⟩:=h;cases e;rcases a with a|a
 .obtain⟨XP,r,pl,hz⟩:=I.list a;refine SeqAt.notIn_listAt (zA x) pl.isList (λw b=>kJ c d r fs w ↑b) #[.bl _,H,I,rfl,?_];rwa[show XP.toArray.any (zA x)=XP.any (zA x) by simp,nM r fs]
 .obtain⟨XP,r,pl,hz⟩:=I.tuple a;refine SeqAt.notIn_tupleAt (zA x) pl (λw b=>kJ c d r fs w ↑b) #[.bl _,H,I,rfl,?_];rwa[show XP.toArray.any (zA x)=XP.any (zA x) by simp,nM r fs]
def oj:gJ X (.builtin "len") (λxs H Q=>∃p ys,xs=[.ref p]/\(dM X.K H p ys\/Ig X.K H p ys)/\Q (.int ys.length) H):=by
 intro ZB s Y H xs us Q I r h;obtain⟨p,ys,rfl,b,q⟩:=h;obtain⟨u,rfl,d⟩:=vals1 r;cases d;have e:=vF;rcases b with b|b
 .obtain⟨XP,c,pl,hz⟩:=I.list b;have a:=c.length;exact Calls.call_len_list pl.isList (by simp only[Wy]<;>lia) #[.int ys.length,H,I.tok _,#[s.toks+1,by rw[Wy,a]],q]
 .obtain⟨XP,c,pl,hz⟩:=I.tuple b;have a:=c.length;exact len_tuple pl (by simp only[Wy]<;>lia) #[.int ys.length,H,I.tok _,#[s.toks+1,by rw[Wy,a]],q]
def jH:gJ X (.type "list") (λxs H Q=>∃p ys,xs=[.ref p]/\(dM X.K H p ys\/Ig X.K H p ys)/\∀l,H l=none->Q (.ref l) (upd H l (.lst ys))):=by
 intro ZB s Y H xs us Q I r h;obtain⟨p,ys,rfl,c,q⟩:=h;obtain⟨u,rfl,k⟩:=vals1 r;cases k
 have fin:∀(XP:List Å),Vals ys XP->ys.length<=sizeLine->∀(h':Ý) (c':Nat),(∀b o',s.heap.get? b=À o'->h'.get? b=À o') ->
   h'.get? s.heap.objs.size=À {cls:=.type "list",dict:=none,data:=.seq XP.toArray c',slots:=#[]}->EP X ZB Y Q (.ref s.heap.objs.size) {s with heap:=h'}:=λXP a hz h' c' d e =>
  #[.ref s.heap.objs.size,_,I.laid (t':=s.toks) d (V_ _) (show bT X.prog X.w _ h' _ (.lst ys) from #[hz,XP,c',a,e]),rfl,q _ (I.hok.fresh (V_ _))]
 rcases c with c|c
 .obtain⟨XP,a,pl,hz⟩:=I.list c;have f:=a.length;obtain⟨o,j,i,n,g⟩:=pl.isList;exact call_list_seq p (.inl rfl) j i g (λh' c' d e=>fin XP a hz h' c' d e) (by simp only[Wy]<;>lia)
 .obtain⟨XP,a,pl,hz⟩:=I.tuple c;have f:=a.length;obtain⟨o,j,i,n,g⟩:=pl;exact call_list_seq p (.inr rfl) j i g (λh' c' d e=>fin XP a hz h' c' d e) (by simp only[Wy]<;>lia)
def QF(K:Ã)(T:String)(x:V)(H:Hp):Prop:=match x with
 |.str _=>T="str"
 |.int _=>T="int"
 |.ref p=>(T="list"/\∃xs,dM K H p xs)\/(T="tuple"/\∃o,K.lookup p=À o/\o.cls=.type "tuple"/\o.dict=none) \/
   (T="dict"/\((∃XV,H p=À (.dK XV))\/∃XV,H p=À (.dT XV)))\/(T="set"/\∃S n,H p=À (.set S n))
 |_=>False
def Fw{ZB:List (Æ×ò)}{Y:St}{H:Hp}{T:String}{v:Å}(I:Inv X ZB Y H s)(r:RelV x v)(ty:QF X.K T x H):
  s.TypeIs v T/\∀a,v=.ref a->∃ob,s.heap.get? a=À ob/\ob.dict=none:=by
 cases x with
 |str z =>
  obtain⟨t,rfl⟩:=r;cases (show T="str" from ty);exact#[typeIs_str s z t,λ_ e=>nomatch e]
 |int i =>
  obtain⟨t,rfl⟩:=r;cases (show T="int" from ty);exact#[Ω s i t,λ_ e=>nomatch e]
 |ref p =>
  cases r;rcases ty with⟨rfl,xs,g⟩|⟨rfl,o,b,f,d⟩|⟨rfl,b⟩|⟨rfl,S,n,b⟩
  .obtain⟨XP,_,pl,_⟩:=I.list g;refine#[pl.isList.typeIs,λa e=>?_];cases e;obtain⟨o,n,e,c,d,_⟩:=pl;exact#[o,e,d]
  .refine#[#[o,I.Dj p o b,f],λa e=>?_];cases e;exact#[o,I.Dj _ o b,d]
  .have z:∃o,s.heap.get? p=À o/\o.ExactDict:=by
    rcases b with⟨XV,b⟩|⟨XV,b⟩
    .obtain⟨_,_,_,_,o,_,_,e,ex,_⟩:=I.hok p _ b;exact#[o,e,ex]
    .obtain⟨_,_,_,_,o,_,_,e,ex,_⟩:=I.hok p _ b;exact#[o,e,ex]
   obtain⟨o,e,ex⟩:=z;refine#[#[o,e,ex.1],λa e2=>?_];cases e2;exact#[o,e,ex.2.1]
  .obtain⟨o,_,_,_,e,ex,_⟩:=I.hok p _ b;refine#[#[o,e,ex.1],λa e2=>?_];cases e2;exact#[o,e,ex.2.1]
 |_=>exact è ty
def PQ(K:Ã)(T:String)(r:V->List V->Hp->VK->Prop)(to:TE):TE:=λY H Q=>to Y H λx H1=>QF K T x H1/\r x [] H1 Q
def Q6(K:Ã)(T:String)(r:V->List V->Hp->VK->Prop)(to:TE)(t:TA):TE:=λY H Q=>to Y H λx H1=>QF K T x H1/\t Y H1 λxs H2=>r x xs H2 Q
variable{o e:Õ}{es:List Õ}{to:TE}{t:TA}{name:Í}{apos cpos:é}{T id:String}{r:V->List V->Hp->VK->Prop}
def KS(i:PlainAttrs T)(slot:Slot T name id)(c:typeOf (.builtin id)=pure (.type "method_descriptor"))(g:O7 X id r)(f:PE X o to)
  (a:autoParam (Ā o name X.env (Ö o X.env)=Ö o X.env) zra) (b:autoParam ((apos.endLine==cpos.line)=Â) zra):PE X (.Call (.Attribute o name apos) [] [] cpos) (PQ X.K T r to):=by
 intro ZB s Y H Q I h;refine wpAny_Call_method0_late a b (b9 (f ZB s Y H _ I h) λv j ⟨x,H1,d,e,ty,q1⟩=>?_);obtain⟨h1,h2⟩:=Fw d e ty;exact#[T,id,i,slot,c,h1,h2,YN rfl (PySem.evalArgs_none (g ZB j Y H1 x [] v [] Q d e .nil q1))]
def J4(y:PlainAttrs T)(slot:Slot T name id)(f:typeOf (.builtin id)=pure (.type "method_descriptor"))(w:O7 X id r)(l:PE X o to)(ha:PA X (e::es) t)
  (b:autoParam (Ā o name X.env (Ö o X.env)=Ö o X.env) zra)
  (d:((æ cpos (Ä (e::es) X.env)).all (λx=>!x.1)&&(Ń cpos (Ĝ [] X.env)).all (λx=>x.1.isSome)
   && decide ((e::es).length+([]:List Ď).length+(if ([]:List Ď).isEmpty then 0 else 1)<30))=Â:=by rfl)
  (c:autoParam ((apos.endLine==cpos.line)=Â) zra) (u:autoParam (Ä (e::es) X.env=(Á,Ö e X.env)::Ä es X.env) zra) (a:autoParam ((æ cpos (Ä es X.env)).any (·.1)=Á) zra):
  PE X (.Call (.Attribute o name apos) (e::es) [] cpos) (Q6 X.K T r to t):=by
 intro ZB s Y H Q I h;refine wpAny_Call_method_late b d c rfl (b9 (l ZB s Y H _ I h) λv p ⟨x,H1,i,j,ty,q1⟩=>?_);obtain⟨h1,h2⟩:=Fw i j ty;refine#[T,id,y,slot,f,h1,h2,?_];have g:=ha cpos ZB p Y H1 _ i q1;rw[u] at g ⊢;refine YN (by show(Á || (æ cpos (Ä es X.env)).any (·.1))=Á;rw[a]<;>rfl) (YZ ?_);exact b9 g λus m ⟨vs,H2,q,k,n⟩=>w ZB m Y H2 x vs v us Q q j k n
end
def Q5(X:Cx)(id:String)(r:V->List V->Hp->VK->Prop):Prop :=
 ∀(ZB:List (Æ×ò)) (s:Ç) (Y:St) (H:Hp) (x:V) (xs:List V) (v:Å) (us:List Å) (Q:VK),Inv X ZB Y H s->RelV x v->Vals xs us->r x xs H Q ->
  Î .E X.A (call (.builtin id) (v::us)) (EP X ZB Y Q) X.xe s
def Vals.one:∀{x:V} {us:List Å},Vals [x] us->∃u,us=[u]/\RelV x u
 |_,_,.cons r .nil=>#[_,rfl,r]
theorem Vals.rep{xs:List V}{us:List Å}(h:Vals xs us):∀k:Nat,Vals (È k xs).flatten (È k us).flatten
 |0=>.nil
 |k+1=>by
  rw[W7,W7,Ye,Ye];exact Vals.append h (Vals.rep h k)
theorem foldl_rep(XP:List Å):∀(k:Nat) (a:List Å),
  Ţ (λb c=>b++c) a.toArray (È k XP.toArray)=(a++(È k XP).flatten).toArray
 |0,a=>by simp
 |k+1,a=>by
  have e:a.toArray++XP.toArray=(a++XP).toArray:=by simp
  have e2:(a++XP)++(È k XP).flatten=a++(È (k+1) XP).flatten:=by
   rw[W7,Ye,Ů]
  rw[<-e2,<-foldl_rep XP k (a++XP),<-e,W7,ZO]
section
variable{X:Cx}{ZB:List (Æ×ò)}{Y:St}{H:Hp}{s:Ç}{l b:Æ}{xs ys zs:List V}
def Inv.Pz{its':List Å}{f:Array Å->Array Å}{t':Nat}(I:Inv X ZB Y H s)(a:H l=À (.lst xs))
  (e:s.heap.get? l=À {cls:=.type "list",data:=.seq XP.toArray n}) (g:f XP.toArray=its'.toArray) (c:Vals ys its') (hz:ys.length<=sizeLine):
  Inv X ZB Y (upd H l (.lst ys)) {s with heap:=s.heap.update l (ĝ f),toks:=t'}:=by
 have q:=PySem.IsL.update e f;rw[g] at q;refine I.write (x:=l) (e:=l) (by rw[a];exact trivial) (.inl rfl) (λb' u d b=>(Xi s.heap (ĝ f) (Xm d)).trans b) #[_,q] ?_;exact#[hz,its',_,c,q]
def Inv.IG{t':Nat}(I:Inv X ZB Y H s)(a:Vals ys XP)(hz:ys.length<=sizeLine):
  Inv X ZB Y (upd H s.heap.objs.size (.lst ys)) {s with heap:=s.heap.push {cls:=.type "list",data:=.seq XP.toArray},toks:=t'} :=
 I.laid (λ_ _ q=>Ww _ q) (V_ _) #[hz,XP,0,a,WS _ rfl]
def Inv.fresh(I:Inv X ZB Y H s):H s.heap.objs.size=none:=I.hok.fresh (V_ _)
def Inv.Io(I:Inv X ZB Y H s)(a:H l=À (.lst xs)):xs.length<=sizeLine/\∃(XP:List Å) (n:Nat),Vals xs XP/\xs.length=XP.length/\s.heap.get? l=À {cls:=.type "list",data:=.seq XP.toArray n}:=by
 obtain⟨z,XP,n,r,e⟩:=I.hok l _ a;exact#[z,XP,n,r,r.length,e]
def EE(h:n<=sizeLine):ą n=Á:=by
 unfold ą;exact Wv .a
def HW:V->List V->Hp->VK->Prop:=λx vs H Q=>∃l xs y,x=.ref l/\vs=[y]/\H l=À (.lst xs)/\xs.length<sizeLine/\Q .non (upd H l (.lst (xs++[y])))
def t_:Q5 X "list.append" HW:=by
 intro ZB s Y H x vs v us Q I b c h;obtain⟨l,xs,y,rfl,rfl,a,hz,q⟩:=h;cases b;obtain⟨u,rfl,d⟩:=c.one;obtain⟨z,XP,n,r,f,e⟩:=I.Io a;refine θ F.slot_list_append #[_,e,rfl] F.entry_list_append (F.args_list_append_2 _ _) (PySem.list_append l XP.toArray n u (by rw[Wy];lia)) #[e,?_];refine#[.non,_,I.Pz (its':=XP++[u]) a e .c (r.append (.cons d .nil)) ?_,rfl,q];rw[WL,List.length_singleton];lia
def Qz:R2:=λx y H Q=>∃l b xs zs,x=.ref l/\y=.ref b/\H l=À (.lst xs)/\H b=À (.lst zs)/\xs.length+zs.length<=sizeLine/\∀p,H p=none->Q (.ref p) (upd H p (.lst (xs++zs)))
def Ll:j8 X (ÿ .Add) Qz:=by
 intro ZB s Y H x y v u Q I d j h;obtain⟨l,b,xs,zs,rfl,rfl,i,k,hz,q⟩:=h;cases d;cases j;obtain⟨z,XP,n,r,m,e⟩:=I.Io i;obtain⟨o,a,p,c,g,e2⟩:=I.Io k;refine PySem.P.add_list e e2 ?_ (by rw[Wy,Wy];lia);have f:XP.toArray++a.toArray=(XP++a).toArray:=by simp
 rw[f];exact#[.ref _,_,I.IG (t':=s.toks) (r.append c) (by rw[WL];lia),rfl,q _ I.fresh]
def P7:R2:=λx y H Q=>∃l k xs,x=.ref l/\y=.int k/\H l=À (.lst xs)/\-(2^63)<=k/\k<2^63/\xs.length*k.toNat<=sizeLine /\
 ∀p,H p=none->Q (.ref p) (upd H p (.lst (È k.toNat xs).flatten))
def len_rep{M:Type}(xs:List M)(k:Nat):(È k xs).flatten.length=k*xs.length:=by
 induction k with
 |zero=>simp
 |succ k a=>rw[W7,Ye,WL,a,Nat.succ_mul,Nat.add_comm]
def FZ:j8 X (ÿ .Mult) P7:=by
 intro ZB s Y H x y v u Q I A w h;obtain⟨l,k,xs,rfl,rfl,p,h1,h2,hz,q⟩:=h;cases A;obtain⟨t,rfl⟩:=w;obtain⟨z,XP,n,r,o,e⟩:=I.Io p;have f:XP.toArray.size*k.toNat<=sizeLine:=by rwa[Wy,<-o]
 have d:¬XP.toArray.size*k.toNat>(2^63-1)/8:=by
  have:(sizeLine:Nat)<=(2^63-1)/8:=by decide
  lia
 have c:¬(!Builtin.List.listFitsIndex k)=Â:=by
  rw[fitsIndex_both h1 h2];exact Wn
 have b:¬ą (XP.toArray.size*k.toNat)=Â:=by
  rw[EE f];exact Wn
 have g:Ţ (λj i=>j++i) #[] (È (if XP.toArray.isEmpty=Â then 0 else k.toNat) XP.toArray)=(È k.toNat XP).flatten.toArray:=by
  have B:∀m:Nat,Ţ (λj i=>j++i) #[] (È m XP.toArray)=(È m XP).flatten.toArray:=λm=>by
   have:=foldl_rep XP m [];rwa[Y8] at this
  rw[B];cases XP with
  |nil=>simp
  |cons a C=>rw[V4 .c]
 refine wpAny_binaryOp_repeat_ref (T:="list") (U:="int") .b #[_,e,rfl] (λs'=>Ω s' k t) noFill_list_mul F.fills_int_mul ϕ repeat_list F.slot_int_index.lookup
  (θ ϕ (Ω s k t) F.entry_int_rmul (F.args_int_rmul_2 _ _) (int___rmul___int_list k t l XP.toArray n)
   #[e,rfl,#[_,e,rfl],θ F.slot_list_mul #[_,e,rfl] F.entry_list_mul (F.args_list_mul_2 _ _) (AutoListH.list___mul___list_int_3 l XP.toArray n k t c d b) #[e,?_]])
 rw[g];exact#[.ref _,_,I.IG (t':=s.toks) (r.rep k.toNat) (by rwa[len_rep,Nat.mul_comm]),rfl,q _ I.fresh]
variable{prog:Ò}{w:Û}{A:á}{E:Å->Ç->Prop}
end
end L2
namespace Att
open PySem PySem.W PySem.Calls PyProof.Rows
def p6{P:Params}{h:Ý}:∀(ns:List Int) (vs:List Å),WellAll P h vs (ns.map WData.int)->ľ vs ns:=by
 intro ns
 induction ns with
 |nil =>
  intro vs w;rw[Zc] at w;cases w;exact .nil
 |cons n ns c =>
  intro vs w;rw[Wb] at w;cases w with
  |cons a b =>
   cases a;exact .cons _ _ (c _ b)
def CG{l:OpenLaw}{n:Nat}(u:l.most=À n){P:Params}{h:Ý}{args:List WData}{vals:List Å}
  (b:l.row.toRowW.claim.pre args=Â) (j:WellAll P h vals args):
  ∃a vs ns,vals=[ß a]/\args=[WData.list (ns.map WData.int)]/\h.get? a=À {cls:=.type "list",data:=.seq vs.toArray}/\ľ vs ns/\ns.length<=n:=by
 have i:WShape.hasAll [] args [.list .int]=Â:=(pre_splitW b).1;have k:l.pre.holds [] {args:=args}=Â:=(pre_splitW b).2;obtain⟨d,r,rfl,h1,h2⟩:=hasAllW_cons i;obtain rfl:=hasAllW_nil h2;obtain⟨xs,rfl,p⟩:=hasW_list h1;obtain⟨ns,rfl⟩:=items_int p
 have c:ns.length<=n:=by
  unfold OpenLaw.pre at k
  have g:(WTm.not (.lt (.lit (.int (n:Int))) (.len (.arg 0)))).holds [] {args:=[.list (ns.map .int)]}=Â:=by
   have g:=(holds_andW k).1;rwa[u] at g
  have f:=condW_of g (w_not (w_lt w_lit (w_len_list (w_arg rfl))));rw[V2] at f;refine Nat.le_of_not_lt λq=>?_;have o:(n:Int)<((ns.length:Nat):Int):=by omega
  first
   |(rw[Wr o] at f;exact absurd f .b)
   |(simp at f;omega)
 cases j with
 |cons s t =>
  cases t;cases s with
  |list m e=>exact#[_,_,ns,rfl,rfl,m,p6 ns _ e,c]
def Dn(l:OpenLaw)(args:List WData):l.row.toRowW.claim.post args (.bool Â) args=Â :=
 postW_of (r:=l.row.toRowW) (X:=(Â==Â))
  (show WShape.has [] (.bool Â) .bool=Â by first|rfl|decide|simp[WShape.has,WShape.arms,WShape.armsAll])
  (show(WTm.eq .res (.lit (.bool Â))).value [] {args:=args,res:=À (.bool Â),after:=args}=À (.bool (Â==Â)) from w_eq_bool (w_res rfl) w_lit) rfl
def yf{l:OpenLaw}{n:Nat}{q:Ò}{loose:List Í}{x:(Í->Option Å)->Ý->Prop}{u:Û->Ý->Prop}{d:DefRec}
  (H:l.most=À n) (t:d.params.defaults=[])
  (call:∀(w:Û) (k b:Ç) (mg j:Í->Option Å) (e:Æ) (o:ò) (p cd doc:Å) (a:Æ) (vs:List Å) (ns:List Int),
   Ground q loose [] x w k mg j b.heap->u w b.heap ->
   b.heap.get? e=À o->o.data=.func (docDef d.name d.params d.body d.scope p cd doc)->b.heap.CodeRec cd d.name->mg d.name=À (.ref e) ->
   b.heap.get? a=À {cls:=.type "list",data:=.seq vs.toArray}->ľ vs ns->ns.length<=n->b.gens=#[] ->
   Ġ (Ñ l.prog w) ġ (.call (.ref e) #[[.ref a],[]]) (λr s'=>r=.ok (.ret (.bool Â))/\OldK b.heap s'.heap/\s'.os=b.os/\đ s'.gens) b):
  WalkO q loose x u l.row.toRowW d [] (λf vs=>ő f vs):=by
 intro w k b mg j G σ e o p cd doc K kV A z s y i B args vals as h v E m D;obtain rfl:K=.none:=Dflts.none y t;obtain rfl:kV=.none:=Dflts.noKw y;obtain⟨a,vs,ns,rfl,rfl,g,hints,c⟩:=CG H h m;refine enter_call (ZN (call w k b mg j e o p cd doc a vs ns G σ A (fd_plain z) s i g hints c B) λr s' I=>?_);obtain⟨rfl,h2,C,F⟩:=I;exact#[.inl #[.bool Â,.bool Â,[],rfl,λ_=>rfl,.bool Â,Dn l _,λ_=>#[ϱ,λ_ J=>(nomatch J)]],h2,C,F]
section
variable{prog:Ò}{w:Û}{A:á}{E:Å->Ç->Prop}{s:Ç}{K:Frag}
end
end Att
namespace L2
open PySem PySem.Spec PyProof.Rows
variable{x qual:Í}{n k:Nat}{K:Ã}{X:Cx}{f:Æ}{H:Hp}{env:ė}{c:Int}
theorem ud:∀{vs:List Å} {ns:List Int},ľ vs ns->Vals (ns.map V.int) vs
 |_,_,.nil=>.nil
 |_,_,.cons n t h=>.cons #[t,rfl] (ud h)
def Jd(H:Hp):Prop:=∀b,H b=none\/∃o xs,H b=À (.frz o (.lst xs))
def FH{P:Ò}{w:Û}{mg I:Í->Option Å}{CX:CW}{L a:Æ}{fd:ì}{sp:Sp}{c:Ç}{vs:List Å}{ns:List Int}
  (O:K.In c.heap) (p:c.heap.Ns Ê mg) (f:c.heap.Ns ν I) (D:∀x:Í,x≠"__name__"->I x=þ x) (y:c.heap.NoLimit) (T:c.gens=#[])
  (ha:c.heap.get? a=À {cls:=.type "list",data:=.seq vs.toArray}) (hi:ľ vs ns) (N:ns.length<=sizeLine) (W:dk k ġ)
  (F:∀base:Ý,K.In base->base.Ns Ê mg->⇑dY CX k L fd [x] sp) (i:∀(s:Ç) (u:Å),Ģ s fd #[[u],[]] [(x,u)])
  (C:∀H:Hp,Jd H->dM K H a (ns.map V.int)->sp [.ref a] H (λv _=>v=.bl Â) λ_ _ _=>False)
  (G:∀H e s',CX [] H c (λ_ _ _=>False) e s'->False):
  Ġ (Ñ P w) ġ (.call (.ref L) #[[.ref a],[]]) (λr s'=>r=.ok (.ret (.bool Â))/\OldK c.heap s'.heap/\s'.os=c.os/\đ s'.gens) c:=by
 have R:=ud hi;have B:=hi.length
 -- from an abstract heap in which nothing but the script may be tracked
 have core:∀H:Hp,Jd H->dM K H a (ns.map V.int)->lz P w H c.heap->(∀b,H b≠none->b=a)->(H a≠none->K.lookup a=none) ->
   Ġ (Ñ P w) ġ (.call (.ref L) #[[.ref a],[]]) (λr s'=>r=.ok (.ret (.bool Â))/\OldK c.heap s'.heap/\s'.os=c.os/\đ s'.gens) c:=by
  intro H Q Z l S Γ;have base_of:∀{b:Æ} {o:ò},c.heap.get? b=À o->H b=none->(vD c.heap H).get? b=À o:=λe n=>E7 e n
  have α:∀{b:Æ} {o:ò} {es:Array DictEntry} {ep:Nat},c.heap.get? b=À o->o.data=.dict es ep->H b=none:=λ{b o es ep} e d=>by
   cases q:H b with
   |none=>rfl
   |some u =>
    have E:b=a:=S b (by rw[q];simp);subst E;rw[ha] at e;cases e;have d':Data.seq vs.toArray _=Data.dict es ep:=d;cases d'
  have g:∀{b:Æ} {m:Í->Option Å},c.heap.Ns b m->(vD c.heap H).Ns b m:=λ{b m} ⟨o,es,ep,e,d,r⟩=>#[o,es,ep,base_of e (α e d),d,r]
  have A:K.In (vD c.heap H):=λb o e=>base_of (O b o e) (by
   cases q:H b with
   |none=>rfl
   |some u =>
    have E:b=a:=S b (by rw[q];simp);subst E
    rw[Γ (by rw[q];simp)] at e;cases e)
  have hM:Mod K mg (vD c.heap H):=#[A,g p,#[I,g f,D],let #[mc,h1,h2]:=y;#[mc,g h1,h2]];have e0:CN P w K mg (vD c.heap H) ġ [] c H:=#[rfl,hM,λb o e=>Jw e,Ϯ (Cm _ _),trivial,λb f=>absurd (show b∈([]:List Æ) from f) .c,l,.of_eq T];refine ZN ((F _ A (g p)).run ġ [] c H #[[.ref a],[]] [.ref a] [.ref a] _ _ W e0 (i c (.ref a)) (.cons rfl .nil) (C H Q Z)) λr s' h=>?_;cases r with
  |error e=>exact(G H e s' h).elim
  |ok fl =>
   cases fl with
   |next=>exact è h
   |brk=>exact è h
   |cont=>exact è h
   |ret u =>
    obtain⟨v,H',σ,bare,un,j,r',q⟩:=h;have q':v=.bl Â:=q;subst q';obtain rfl:u=Į Â:=r';refine#[rfl,OldK.of_keep λb o e=>?_,σ,bare];cases q:H b with
    |none=>exact un.keep b o e q (by intro z;exact absurd (show b∈([]:List Æ) from z) .c) .c
    |some u =>
     rcases Q b with z|⟨ob,xs,z⟩
     .rw[q] at z;cases z
     .have X:=un.frzs b ob _ z;obtain⟨e1,_⟩:=l b _ z;obtain⟨e2,_⟩:=j b _ X;rw[e] at e1;cases e1;exact e2
 cases J:K.lookup a with
 |some o =>
  -- the script is one of the module's own objects
  have e:=O a o J;rw[ha] at e;cases e;refine core (λ_=>none) (λ_=>.inl rfl) (.inr #[_,vs.toArray,_,J,rfl,rfl,rfl,by rwa[Wy,B],↑R]) (λb u z=>by have t:(none:Option HO)=À u:=z;cases t) (λb z=>absurd rfl z) λz=>absurd rfl z
 |none =>
  refine core (λb=>if b=a then À (.frz {cls:=.type "list",data:=.seq vs.toArray} (.lst (ns.map V.int))) else none) (λb=>?_) (.inl (.inr #[{cls:=.type "list",data:=.seq vs.toArray},V6 rfl])) (λb u z=>?_) (λb z=>?_) λ_=>J
  .by_cases f:b=a
   .exact .inr #[_,_,V6 f]
   .exact .inl (V4 f)
  .by_cases f:b=a
   .have t:=(V6 f).symm.trans z;cases t;subst f;exact#[ha,by rwa[V2],vs,_,R,ha]
   .have t:=(V4 f).symm.trans z;cases t
  .by_cases f:b=a
   .exact f
   .exact absurd (V4 f) z
abbrev qh{h:Ý}(_:K.In h):Ã:=K
def Hl{l:ŝ}{q:Ò}{loose:List Í}{J:(Í->Option Å)->Ý->Prop}{z:Û->Ý->Prop}{d:DefRec}{K:Params->Ã}{CX:Û->CW}{sp:Û->Sp}
  (N:l.most=À n) (r:n<=sizeLine) (p:d.params.defaults=[]) (I:dk k ġ)
  (O:∀(w:Û) (h:Ý),z w h->(K w.params).In h)
  (F:∀(w:Û) (mg:Í->Option Å) (j:Æ) (h:Ý),(K w.params).In h->h.Ns Ê mg->mg d.name=À (.ref j) ->
   ∃fd:ì,(∀(s:Ç) (u:Å),Ģ s fd #[[u],[]] [(x,u)]) /\
    ∀base:Ý,(K w.params).In base->base.Ns Ê mg->dY l.prog w (K w.params) mg base (CX w) k j fd [x] (sp w))
  (t:∀(w:Û) (H:Hp) (a:Æ) (ns:List Int),ns.length<=n->Jd H->dM (K w.params) H a (ns.map V.int)->sp w [.ref a] H (λv _=>v=.bl Â) λ_ _ _=>False)
  (y:∀(w:Û) (H:Hp) (s:Ç) (e:Å) (s':Ç),CX w [] H s (λ_ _ _=>False) e s'->False):
  ŵ q loose J z l.row.toRowW d [] (λf vs=>ő f vs):=by
 refine Att.yf N p λw Γ B mg Q j o X cd doc a vs ns G σ S R P m i hints c D=>?_;have A:=O w _ σ;obtain⟨fd,E,L⟩:=F w mg j _ A G.T.g m;exact FH A G.T.g G.T.b G.T.builtins G.T.nolimit D i hints (W6 c r) I L E (λH α C=>t w H a ns c α C) λH e s'=>y w H B e s'
def ES{l:ŝ}{q:Ò}{loose:List Í}{r:(Í->Option Å)->Ý->Prop}{j:Û->Ý->Prop}{d:DefRec}{K:Params->Ã}{CX:CW}{sp:Ã->Sp}
  (t:l.most=À n) (c:n<=sizeLine) (b:d.params.defaults=[]) (p:dk k ġ)
  (y:∀(w:Û) (h:Ý),j w h->(K w.params).In h)
  (F:∀(w:Û) (mg:Í->Option Å) (m:Æ) (h:Ý),(K w.params).In h->h.Ns Ê mg->mg d.name=À (.ref m) ->
   ∃fd:ì,(∀(s:Ç) (u:Å),Ģ s fd #[[u],[]] [(x,u)]) /\
    ∀base:Ý,(K w.params).In base->base.Ns Ê mg->dY l.prog w (K w.params) mg base CX k m fd [x] (sp (K w.params)))
  (g:∀(K:Ã) (H:Hp) (a:Æ) (ns:List Int),ns.length<=n->Jd H->dM K H a (ns.map V.int)->sp K [.ref a] H (λv _=>v=.bl Â) λ_ _ _=>False)
  (i:∀(H:Hp) (s:Ç) (e:Å) (s':Ç),CX [] H s (λ_ _ _=>False) e s'->False):
  ŵ q loose r j l.row.toRowW d [] (λf vs=>ő f vs) :=
 Hl (K:=K) (CX:=λ_=>CX) (sp:=λw=>sp (K w.params)) t c b p y F (λw H a ns h1 h2 o=>g (K w.params) H a ns h1 h2 o) λ_ H s e s'=>i H s e s'
def du(s:Ð):Arguments:=match s with
 |.FunctionDef _ a _ _ _ _ _ _ _ _=>a
 |_=>{posonlyargs:=[],args:=[],vararg:=none,kwonlyargs:=[],kw_defaults:=[],kwarg:=none,defaults:=[]}
noncomputable def aU(s:Ð):List Ð:=match s with
 |.FunctionDef _ _ b _ _ _ _ _ _ _=>b
 |_=>[]
noncomputable def ah(s:Ð):ú:=match s with
 |.FunctionDef _ _ _ _ _ _ a _ _ _=>a
 |_=>{kind:=.function,names:=[],isGenerator:=Á,isCoroutine:=Á}
abbrev nQ:CW:=λ_ _ _ _ _ _=>False
abbrev E0:XK:=λ_ _ _=>False
def rM:Passes nQ X E0:=λ_ _ _ _ _ _ _ h=>h.elim
structure p8(K:Ã)(x qual:Í)(st:Ð)(f:Æ)(fd:ì):Prop where
 ex:∃(oc:Å) (od:Option Æ) (kV doc pm:Å) (an:Option Æ) (cdv ct:Å) (osl:Array (Option Å)),
  fd=â x qual (du st) (aU st) (ah st) .none kV doc pm an cdv ct/\K.lookup f=À #[oc,od,.func fd,osl]/\ē K cdv qual=Â
 kp:ð K (.ref f)=Â
section
variable{P:Ò}{w:Û}{K:Ã}{mg:Í->Option Å}{base:Ý}
def p8.ok{st:Ð}{fd:ì}{N ps:List Í}{sp:Sp}(F:p8 K x qual st f fd)(S:ak N ps (ah st))(len:∀vs H Q E,sp vs H Q E->vs.length=ps.length)
  (b:∀(a:Å) (A:á) (outer:List ė) (s:Ç) (H:Hp) (vs:List V) (Q:VK) (E:XK),dk k (A.deeper (Č qual (ah st) s.heap.objs.size f a))->sp vs H Q E ->
   ∃t,mP (oy nQ P w K mg base N qual (ah st) f a A outer s H E).Ha (aU st) t/\t {nx:=λ_ H'=>Q .non H',rt:=Q} (start N vs) H):⇑dY nQ (k+1) f fd ps sp:=by
 obtain⟨m,od,kV,doc,l,j,a,ct,i,rfl,g,d⟩:=F.ex;refine Kt g d S len λA outer s H vs Q E e c=>?_;obtain⟨t,h,q⟩:=b a A outer s H vs Q E e c;exact#[t,h.Ha,q]
def p8.binds{st:Ð}{fd:ì}{ps:List Í}(F:p8 K x qual st f fd)
  (h:∀(kV doc b:Å) (c:Option Æ) (a ct:Å) (us:List Å),us.length=ps.length->ĉ (â x qual (du st) (aU st) (ah st) .none kV doc b c a ct) #[us,[]]=pure (ps.zip us)):Binds K fd ps []:=by
 obtain⟨i,od,kV,doc,b,c,a,ct,d,rfl,g,e⟩:=F.ex;exact .all (h kV doc b c a ct)
def Mh{st:Ð}{g:Å}{od e:Option Æ}{b:Array (Option Å)}{kV doc d a ct:Å}(l:K.lookup f=À #[g,od,.func (â x qual (du st) (aU st) (ah st) .none kV doc d e a ct),b])
  (c:ē K a qual=Â) (k:ð K (.ref f)=Â):p8 K x qual st f (â x qual (du st) (aU st) (ah st) .none kV doc d e a ct):=#[#[g,od,kV,doc,d,e,a,ct,b,rfl,l,c],k]
end
def bA(h:n<=1000):n<sizeLine:=YK h .b
section
variable{X:Cx}
def pv(i:Nat){pos:é}(b:autoParam (X.N[i]?=À x) zra)(c:autoParam (Hq X.env.scope x) zre)(d:autoParam ((x==("__debug__":Í))=Á) zrb)
  (a:autoParam ((x==("__classdict__":Í))=Á) zrb):PE X (.Name x pos) (OW i):=Mj b c d a
end
def tF{A B:Prop}(h:B):if Á=Â then A else B:=by
 rw[V4 Wn];exact h
def oM{A B:Prop}(h:A):if Â=Â then A else B:=by
 rw[V6 rfl];exact h
def az(H H':Hp):Prop:=∀b o,H b=À o->H' b=À o
def az.refl(H:Hp):az H H:=λ_ _ h=>h
def az.trans{H1 H2:Hp}(a:az H H1)(b:az H1 H2):az H H2:=λc o h=>b c o (a c o h)
def az.free{H':Hp}(e:az H H'){l:Æ}(h:H' l=π):H l=π:=by
 cases q:H l with
 |none=>rfl
 |some o =>
  rw[e l o q] at h;cases h
def az.seq{H':Hp}{a:Æ}{xs:List V}(e:az H H')(h:dM K H a xs):dM K H' a xs:=by
 rcases h with(h|⟨o,h⟩)|h
 .exact .inl (.inl (e _ _ h))
 .exact .inl (.inr #[o,e _ _ h])
 .exact .inr h
def Hk(a:List (Í×Æ)):Prop:=∀x y c,a.lookup x=À c->a.lookup y=À c->x=y
def bf{M:Type}{n:Í}{a c:M}{r:List (Í×M)}(h:ĩ x ((n,a)::r)=À c):(x=n/\a=c)\/(x≠n/\r.lookup x=À c):=by
 rw[Yj] at h;cases b:x==n with
 |true=>rw[b] at h;cases h;exact .inl #[Y0.mp b,rfl]
 |false=>rw[b] at h;exact .inr #[(λz=>by(rw[z,ZA] at b;cases b)),h]
theorem BQ:∀(names:List (Í×ë)) (n:Nat) (d:List (Í×Æ)),Hk d->(∀x c,d.lookup x=À c->c<n) ->
  Hk (å n names d)/\∀x c,(å n names d).lookup x=À c->d.lookup x=À c\/n<=c
 |[],_,_,hi,_=>#[hi,λ_ _ h=>.inl h]
 | (y,k) :: r,n,d,hi,g=>by
  unfold å;by_cases j:(k==Þ)=Â
  .rw[V6 j]
   have h1:Hk ((y,n)::d):=λa b c e1 e2=>by
    rcases bf e1 with⟨q1,f⟩|⟨q1,f⟩<;>rcases bf e2 with⟨i,p2⟩|⟨i,p2⟩
    .rw[q1,i]
    .exact absurd (g _ _ p2) (by rw[<-f];exact Yw _)
    .exact absurd (g _ _ f) (by rw[<-p2];exact Yw _)
    .exact hi a b c f p2
   have h2:∀x c,ĩ x ((y,n)::d)=À c->c<n+1:=λx c e=>by
    rcases bf e with⟨_,f⟩|⟨_,f⟩
    .rw[<-f];exact ZC _
    .exact Zm (g _ _ f)
   obtain⟨l,m⟩:=BQ r (n+1) ((y,n)::d) h1 h2;refine#[l,λx c e=>?_];rcases m x c e with q|q
   .rcases bf q with⟨_,f⟩|⟨_,f⟩
    .exact .inr (Ϯ f)
    .exact .inl f
   .exact .inr (Zn q)
  .rw[V4 j];exact BQ r n d hi g
theorem vT:∀(names:List (Í×ë)) (h:Ý) (a:List (Í×Æ)) (x:Í) (c:Æ),(å h.objs.size names a).lookup x=À c->a.lookup x=À c\/(pushCells h names).IsCell c none
 |[],_,_,_,_,e=>.inl e
 | (y,k) :: r,h,a,x,c,e=>by
  unfold å at e;unfold pushCells;by_cases d:(k==Þ)=Â
  .rw[V6 d] at e ⊢;have f:(å (h.push {cls:=.type "cell",data:=.cell none}).objs.size r ((y,h.objs.size)::a)).lookup x=À c:=by rwa[Z6]
   rcases vT r (h.push {cls:=.type "cell",data:=.cell none}) ((y,h.objs.size)::a) x c f with q|q
   .rcases bf q with⟨_,b⟩|⟨_,b⟩
    .refine .inr ?_;subst b;exact#[_,aaN _ _ _ _ (WS _ rfl),rfl]
    .exact .inl b
   .exact .inr q
  .rw[V4 d] at e ⊢;exact vT r h a x c e
theorem vZ:∀(names:List (Í×ë)) (n:Nat) (a:List (Í×Æ)) (x:Í),(∀y∈names,y.1=x->y.2≠.cell)->(å n names a).lookup x=a.lookup x
 |[],_,_,_,_=>rfl
 | (y,k) :: r,n,a,x,h=>by
  unfold å;by_cases b:(k==Þ)=Â
  .rw[V6 b,vZ r (n+1) _ x λz hz=>h z (We _ hz),Yj]
   have c:(x==y)=Á:=by
    cases d:x==y with
    |false=>rfl
    |true=>exact absurd ↑b (h (y,k) Wu (Y0.mp d).symm)
   rw[c]
  .rw[V4 b];exact vZ r n a x λz hz=>h z (We _ hz)
noncomputable def fX(env:ė):List (Í×ë)->List (Í×Æ)->List (Í×Æ)
 |[],a=>a
 |(n,k)::r,a=>fX env r (if k==.free then (n,(env.cells.lookup n).getD 0)::a else a)
theorem A1{env:ė}:∀(names:List (Í×ë)) (b:List (Í×Æ)),(∀x∈names,x.2=.free->∃c,env.cells.lookup x.1=À c) ->
  (forIn names b λx cs=>(if (x.2==Ü)=Â then (do let a <-cellOf env x.1;pure (ý ((x.1,a)::cs))) else pure (ý cs):Sem (ForInStep (List (Í×Æ)))))=pure (fX env names b)
 |[],_,_=>rfl
 | (n,k) :: r,b,h=>by
  rw[Ε];have g:=λb=>A1 r b λx i=>h x (We _ i);unfold fX;by_cases f:(k==Ü)=Â
  .obtain⟨c,j⟩:=h (n,k) Wu ↑f;have d:env.cells.lookup n=À c:=j;have e:cellOf env n=pure c:=by unfold cellOf;rw[d]
   simp only[f,ZH,e,d,Y1,pure_bind];exact g _
  .simp only[f,YY,pure_bind];exact g _
def jZ{YP:ú}(h:∀x∈YP.names,x.2=.free->∃c,env.cells.lookup x.1=À c):closureFor YP env=pure (fX env YP.names []):=by
 have:=A1 (env:=env) YP.names [] h;unfold closureFor;simp only[bind_pure_comp]
 first|exact this|simpa using this
theorem dI{env:ė}{x:Í}:∀(names:List (Í×ë)) (a:List (Í×Æ)) (c:Æ),(∀y∈names,y.2=.free->∃c,env.cells.lookup y.1=À c)->(fX env names a).lookup x=À c->a.lookup x=À c\/env.cells.lookup x=À c
 |[],_,_,_,e=>.inl e
 | (n,k) :: r,a,c,h,e=>by
  unfold fX at e;have i:=λa=>dI (x:=x) r a c λy j=>h y (We _ j);by_cases f:(k==Ü)=Â
  .rw[V6 f] at e;rcases i _ e with q|q
   .rcases bf q with⟨q1,d⟩|⟨_,d⟩
    .obtain⟨c',g⟩:=h (n,k) Wu ↑f;have b:env.cells.lookup n=À c':=g;rw[b] at d;right;rw[q1,b];exact congrArg À d
    .exact .inl d
   .exact .inr q
  .rw[V4 f] at e;exact i _ e
theorem rT{env:ė}{x:Í}:∀(names:List (Í×ë)) (a:List (Í×Æ)),((x,Ü)∈names\/∃c,a.lookup x=À c)->∃c,(fX env names a).lookup x=À c
 |[],_,h=>h.elim (λz=>nomatch z) id
 | (n,k) :: r,a,h=>by
  unfold fX;refine rT r _ ?_;rcases h with h|⟨c,h⟩
  .rcases V8.mp h with e|h
   .cases e;right;rw[V6 .b];exact#[_,by rw[Yj,ZA]]
   .exact .inl h
  .right;split
   .rw[Yj];split
    .exact#[_,rfl]
    .exact#[c,h]
   .exact#[c,h]
noncomputable def fG(X:Cx)(N:List Í)(YP:ú)(C:Æ)(s:Ç)(H:Hp)(fp:List Æ):Cx where
 prog:=X.prog
 w:=X.w
 K:=X.K
 mg:=X.mg
 base:=X.base
 A:=X.A
 N:=N
 s₀:=s
 H₀:=H
 env:={scope:=ĭ YP X.env,locals:=C,globals:=X.env.globals,cells:=å (C+1) YP.names (fX X.env YP.names []),qual:=X.env.qual,func:=none,code:=X.env.code,frame:=X.env.frame,builtins:=X.env.builtins}
 outer:=X.stack
 stack:=X.stack
 ex:=fp
 fn:=λx=>match YP.names.lookup x with|some .cell=>Â|_=>Á
 calm:=X.calm
 pn:=[]
 xe:=λ_ _=>False
theorem eS{env:ė}:∀{names:List (Í×ë)} {x:Í} {k:ë},(names.map fun(n,k)=>if (k==Ü&&env.scope.kind==.function&&env.kindOf n==À .cell) then (n,Þ) else (n,k)).lookup x=À k ->
  ∃k0,names.lookup x=À k0/\(k=k0\/k0=.free)
 |[],_,_,h=>by simp at h
 | (n,q) :: r,x,k,h=>by
  rw[Wb] at h;have h':ĩ x ((if (q==Ü&&env.scope.kind==.function&&env.kindOf n==À .cell)=Â then (n,Þ) else (n,q))::_)=À k:=h;have a:∀b:Bool,(if b=Â then (n,Þ) else (n,q))=(n,if b=Â then Þ else q):=λb=>by cases b<;>rfl
  rw[a] at h';rw[Yj];rcases bf h' with⟨e1,e2⟩|⟨e1,e2⟩
  .rw[e1,ZA];refine#[q,rfl,?_];rw[<-e2];by_cases c:(q==Ü&&env.scope.kind==.function&&env.kindOf n==À .cell)=Â
   .right;have:=(Xh.mp (Xh.mp c).1).1;simpa using this
   .left;rw[V4 c]
  .have d:(x==n)=Á:=by
    cases c:x==n with
    |false=>rfl
    |true=>exact absurd (Y0.mp c) e1
   rw[d];exact eS e2
structure e7(X:Cx)(YP:ú)(tn:List Í)(js:List Nat):Prop where
 kind:YP.kind=.function
 loc:∀x∈YP.names,x.2=.local->YP.names.lookup x.1=À .local
 fre:∀x∈YP.names,x.2=.free->YP.names.lookup x.1=À .free/\(X.env.kindOf x.1=À .cell\/X.env.kindOf x.1=À .free)
 one:∀x∈YP.names,∀y∈YP.names,x.1=y.1->x.2=y.2
 js:∀j∈js,∃x,X.N[j]?=À x/\YP.names.lookup x=À .free
noncomputable def cN(X:Cx)(tn:List Í)(js:List Nat):List Í:=tn++js.map λj=>(X.N[j]?).getD ("":Í)
noncomputable def cσ(Y:St)(tn:List Í)(js:List Nat):St:=tn.map (λ_=>none)++js.map λj=>(Y[j]?).getD none
def bH{names:List (Í×ë)}{k:ë}(h:names.lookup x=À k):(x,k)∈names:=Yh h
section
variable{X:Cx}{ZB:List (Æ×ò)}{Y:St}{H:Hp}{s:Ç}{YP:ú}{tn:List Í}{js:List Nat}{fp:List Æ}
def fN(ok:X.Ok)(S:e7 X YP tn js):∀x∈YP.names,x.2=.free->∃c,X.env.cells.lookup x.1=À c:=λx a b=>ok.has x.1 (S.fre x a b).2
def Dc(ok:X.Ok)(S:e7 X YP tn js)(b:∀x c,X.env.cells.lookup x=À c->c<n):
  Hk (å n YP.names (fX X.env YP.names []))/\∀x c,(å n YP.names (fX X.env YP.names [])).lookup x=À c->X.env.cells.lookup x=À c\/n<=c:=by
 have a:∀x c,(fX X.env YP.names []).lookup x=À c->X.env.cells.lookup x=À c:=λx c e=>by
  rcases dI YP.names [] c (fN ok S) e with q|q
  .cases q
  .exact q
 obtain⟨h1,h2⟩:=BQ YP.names n (fX X.env YP.names []) (λx y c e1 e2=>ok.inj x y c (a x c e1) (a y c e2)) (λx c e=>b x c (a x c e));exact#[h1,λx c e=>(h2 x c e).imp (a x c) id]
def C8{T:Ý}{m:Í->Option Å}{t':Nat}(I:Inv X ZB Y H s)(S:e7 X YP tn js)(Q:∀b∈fp,tT X ZB H b/\b<s.heap.objs.size)(Γ:T.Ns s.heap.objs.size m)
  (B:∀b o,s.heap.get? b=À o->T.get? b=À o) (E:∀x c,(å (s.heap.objs.size+1) YP.names (fX X.env YP.names [])).lookup x=À c->X.env.cells.lookup x=À c\/T.IsCell c none):
  Inv (fG X (cN X tn js) YP s.heap.objs.size s H fp) [] (cσ Y tn js) H {s with heap:=T,toks:=t'}:=by
 have J:∀x c,X.env.cells.lookup x=À c->c<s.heap.objs.size+1:=λx c e=>by
  obtain⟨v,q⟩:=I.cell x c e;exact Zm q.lt
 obtain⟨α,G⟩:=Dc I.ok S J;have hC:H s.heap.objs.size=none:=I.hok.fresh (V_ _)
 refine#[#[I.ok.mod,S.kind,I.ok.glob,I.ok.blt,V_ _,α,λx hx=>?_,λx c hx e=>?_,I.ok.hd,I.ok.frames,.inl rfl,λb C=>#[WQ (Q b C).2,λx c e z=>?_],I.bs,W6 I.ok.bsz I.sz,λb o e C=>?_,λb C z=>?_,I.stack,I.wt],
  rfl,I.bare,Un.kept B,#[m,Γ,λi x v h1 h2 h3=>?_],λx c e=>?_,hC,λx c e=>?_,(λp hp=>nomatch hp),I.hok.kept B,?_]
 .-- has
  have l:(ĭ YP X.env).names.lookup x=À .cell\/(ĭ YP X.env).names.lookup x=À .free:=hx
  have own:YP.names.lookup x=À .cell->∃c,(å (s.heap.objs.size+1) YP.names (fX X.env YP.names [])).lookup x=À c:=λq =>
   X9.mp (Yl YP.names _ _ (.inl q))
  have F:YP.names.lookup x=À .free->∃c,(å (s.heap.objs.size+1) YP.names (fX X.env YP.names [])).lookup x=À c:=λq =>
   X9.mp (Yl YP.names _ _ (.inr (X9.mpr (rT YP.names [] (.inl (bH q))))))
  rcases l with q|q
  .obtain⟨k0,q1,h⟩:=eS q;rcases h with h|h
   .subst h;exact own q1
   .subst h;exact F q1
  .obtain⟨k0,q1,h⟩:=eS q;rcases h with h|h
   .subst h;exact F q1
   .subst h;exact F q1
 .-- cab
  rcases G x c e with q|q
  .exfalso;have l:(match YP.names.lookup x with|some .cell=>Â|_=>Á)=Â:=hx;split at l
   .rename_i hl
    -- an own cell is new
    have C:∀y c',(fX X.env YP.names []).lookup y=À c'->c'<s.heap.objs.size+1:=λy c' e'=>by
     rcases dI YP.names [] c' (fN I.ok S) e' with z|z
     .cases z
     .exact J y c' z
    have nof:(fX X.env YP.names []).lookup x=none:=by
     cases z:(fX X.env YP.names []).lookup x with
     |none=>rfl
     |some c' =>
      exfalso
      have mem:∀(names:List (Í×ë)) (t:List (Í×Æ)),(∃c',(fX X.env names t).lookup x=À c')->(x,Ü)∈names\/∃c',t.lookup x=À c':=by
       intro names
       induction names with
       |nil=>exact λt z=>.inr z
       |cons p r ih =>
        obtain⟨n,k⟩:=p;intro t z;unfold fX at z;rcases ih _ z with z|⟨c',z⟩
        .exact .inl (We _ z)
        .split at z
         .rename_i B;rcases bf z with⟨e1,_⟩|⟨_,e2⟩
          .left;have:k=Ü:=by simpa using B
           rw[e1,this];exact Wu
          .exact .inr #[c',e2]
         .exact .inr #[c',z]
      rcases mem YP.names [] #[c',z] with z|⟨_,z⟩
      .have:=S.one _ z _ (bH hl) rfl;cases this
      .cases z
    have hh:=BQ YP.names (s.heap.objs.size+1) (fX X.env YP.names []) (λa b c' e1 e2=>by
     rcases dI YP.names [] c' (fN I.ok S) e1 with z|z
     .cases z
     .rcases dI YP.names [] c' (fN I.ok S) e2 with W|W
      .cases W
      .exact I.ok.inj a b c' z W) C
    rcases hh.2 x c e with z|z
    .rw[nof] at z;cases z
    .exact absurd (J x c q) (Y2.mpr z)
   .cases l
  .exact Zn q
 .-- exf
  obtain⟨⟨f0,V,f2,f3,f4,f5⟩,D⟩:=Q b C;rcases G x c e with q|q
  .exact f4 x c q z
  .rw[z] at q;exact absurd D (Y2.mpr (Zn q))
 .-- noex
  obtain⟨⟨f0,V,f2,f3,f4,f5⟩,D⟩:=Q b C;rcases f3 with q|q
  .exact I.ok.noex b o e q
  .exact absurd (Wx (Wg e) (W6 I.ok.bsz q)) (Yw _)
 .-- exfs
  obtain⟨⟨f0,V,f2,f3,f4,f5⟩,D⟩:=Q b C;rcases V8.mp (I.o_ b z) with q|q
  .exact V q
  .exact f2 q
 .-- the names
  have d:(cσ Y tn js)[i]?=À (À v):=h2;have A:(cN X tn js)[i]?=À x:=h1;unfold cσ at d;unfold cN at A;by_cases hi:i<tn.length
  .rw[XS ↑hi,WJ] at d;cases q:tn[i]? with
   |none=>rw[q] at d;cases d
   |some y=>rw[q] at d;cases d
  .rw[Xu ↑hi,WJ,V2] at d;rw[Xu ↑hi,WJ] at A;cases q:js[i-tn.length]? with
   |none=>rw[q] at d;cases d
   |some j =>
    rw[q] at d A;obtain⟨y,O,g⟩:=S.js j (Wq q)
    have Z:y=x:=by
     have:À ((X.N[j]?).getD ("":Í))=À x:=A;rw[O] at this;exact Wj this
    subst Z
    have hv:Y[j]?=À (À v):=by
     have:À ((Y[j]?).getD none)=À (À v):=d;cases z:Y[j]? with
     |none=>rw[z] at this;cases this
     |some o=>rw[z] at this;exact congrArg À (Wj this)
    have L:=(S.fre _ (bH g) rfl).2;have vis:Hq X.env.scope y:=L.elim (λz=>.inr (.inl z)) λz=>.inr (.inr z);obtain⟨m0,hn0,hl0⟩:=I.loc;obtain⟨u,ru,lk⟩:=hl0 j y v O hv vis;refine#[u,ru,.inr #[?_,?_]]
    .have h3':(ĭ YP X.env).names.lookup y=À .local\/(ĭ YP X.env).names.lookup y=À .cell\/(ĭ YP X.env).names.lookup y=À .free:=h3;rcases h3' with z|z|z
     .obtain⟨k0,z1,R⟩:=eS z;rw[g] at z1;cases z1;rcases R with R|R
      .cases R
      .exfalso
       -- free is relabelled to cell or stays
       have:=z
       have f:∀{names:List (Í×ë)},(∀p∈names,p.1=y->p.2=.free)->(names.map fun(n,k)=>if (k==Ü&&X.env.scope.kind==.function&&X.env.kindOf n==À .cell) then (n,Þ) else (n,k)).lookup y≠À .local:=by
        intro names
        induction names with
        |nil=>intro _ w;simp at w
        |cons p r ih =>
         obtain⟨n,k⟩:=p;intro hp w;rw[Wb] at w;have w':ĩ y ((if (k==Ü&&X.env.scope.kind==.function&&X.env.kindOf n==À .cell)=Â then (n,Þ) else (n,k))::_)=À .local:=w;have K:∀b:Bool,(if b=Â then (n,Þ) else (n,k))=(n,if b=Â then Þ else k):=λb=>by cases b<;>rfl
         rw[K] at w';rcases bf w' with⟨e1,e2⟩|⟨e1,e2⟩
         .have B:k=.free:=hp (n,k) Wu e1.symm;subst B;split at e2<;>cases e2
         .exact ih (λp hp'=>hp p (We _ hp')) e2
       exact f (λp hp e=>S.one p hp _ (bH g) e) z
     .exact .inl z
     .exact .inr z
    .have σ:∃c,X.env.cells.lookup y=À c/\s.heap.IsCell c (À u):=by
      rcases lk with⟨z,_⟩|⟨_,z⟩
      .exfalso;rcases L with q|q
       .rw[q] at z;cases z
       .rw[q] at z;cases z
      .exact z
     obtain⟨c,hc1,hc2⟩:=σ;refine#[c,?_,hc2.keeps B];show(å (s.heap.objs.size+1) YP.names (fX X.env YP.names [])).lookup y=À c;rw[vZ YP.names _ _ y λp hp e=>by(rw[S.one p hp _ (bH g) e];intro z;cases z)];obtain⟨c',P⟩:=rT (env:=X.env) YP.names [] (.inl (bH g));rcases dI YP.names [] c' (fN I.ok S) P with z|z
     .cases z
     .rw[hc1] at z;cases z;exact P
 .-- cells are there
  rcases E x c e with q|q
  .obtain⟨v,z⟩:=I.cell x c q;exact#[v,z.keeps B]
  .exact#[none,q]
 .-- and free
  rcases G x c e with q|q
  .exact I.freeC x c q
  .exact I.hok.fresh (Zn q)
 .show(cσ Y tn js).length=(cN X tn js).length;unfold cσ cN;simp
variable{α:Model}{A:á}{E:Å->Ç->Prop}
def xV{YP:ú}{globals:Æ}{cl:List (Í×Æ)}{Q:ė->Ç->Prop}
  (d:∀h',h'.Ns s.heap.objs.size (λ_=>none)->(∀b o,s.heap.get? b=À o->h'.get? b=À o)->(∀x c,(å (s.heap.objs.size+1) YP.names cl).lookup x=À c->cl.lookup x=À c\/h'.IsCell c none) ->
   Q {scope:=YP,locals:=s.heap.objs.size,globals,cells:=å (s.heap.objs.size+1) YP.names cl,qual,func:=none,code:=env.code,frame:=env.frame,builtins:=env.builtins} {s with heap:=h'}):
  Î α A (Ł YP globals cl [] qual none .none (À env)) Q E s:=by
 simp only[Ł,ņ,ZH];refine V5 (wpAny_alloc ?_);refine V5 (wpAny_layCells _ (λname kind cells=>by cases a:kind==Þ<;>simp[a]) _ _ _ _ ?_);rw[show({s with heap:=s.heap.push {cls:=.type "dict",data:=.dict #[]}}:Ç).heap.objs.size=s.heap.objs.size+1 from Z6 ..];refine V5 ?_;rw[Ν];refine Wi (Wi ?_);refine d _ ((Heap.Ns.new s.heap (.type "dict")).keeps (aaN _ _)) (λb o e=>aaN _ _ b o (Ww _ e)) λx c e=>?_;refine vT YP.names _ cl x c ?_;rwa[Z6]
variable{prog:Ò}{w:Û}{R:Result->Ç->Prop}
def CT{elt target iter:Õ}{ifs:List Õ}{YP:ú}{pos:é}{it a:Å}(I:Nat->Ç->Prop)
  (turn:∀n s,I n s->Î (Ñ prog w) A (ŀ it) (λr d=>match r with
   |none=>R (.ok .next) d
   |some v=>Î (Ñ prog w) A (Ę target it v) (λ_ b=>Î (Ñ prog w) A (ď target env v) (λ_ j =>
     Î (Ñ prog w) A (forIn ifs Â λc r=>if r=Â then do let ok <-ū c env (Ö c env);pure (ý ok) else pure (ý r)) (λok f =>
      if ok=Â then Î (Ñ prog w) A (Ö elt env) (λx l =>
       Î (Ñ prog w) A (call (.builtin "list.append") [a,x]) (λ_ g=>∃m,m<n/\I m g) (λ_ _=>False) l) (λ_ _=>False) f
      else ∃m,m<n/\I m f) (λ_ _=>False) j) (λ_ _=>False) b) (λ_ _=>False) d) (λ_ _=>False) s)
  (n:Nat) (h:I n s):
  Ġ (Ñ prog w) A (.compLoop (.ListComp elt [#[target,iter,ifs,0]] YP pos) 0 it a env) R s:=by
 refine codeAny_loop rfl I (λn s q=>?_) n h;show Î _ A ((compTurn (.ListComp elt [#[target,iter,ifs,0]] YP pos) 0 it a env).onRaise (λx=>do Ĕ x env;theTreesLotGoes x)) _ _ s;refine wpAny_noted ?_;rw[compTurn_list];refine V5 (ō (V5 (Xl (turn n s q) (λr d i=>?_) λ_ _ z=>z.elim)));cases r with
 |none=>exact Wi i
 |some v =>
  refine V5 (Xl i (λ_ b e=>?_) λ_ _ z=>z.elim);refine V5 (Xl e (λ_ j o=>V5 (Xl o (λok f k=>?_) λ_ _ z=>z.elim)) λ_ _ z=>z.elim);cases ok with
  |false=>exact Wi #[rfl,k]
  |true =>
   exact V5 (V5 (Xl k (λx l t=>V5 (Xl t (λ_ g p=>Wi (Wi #[rfl,p])) λ_ _ z=>z.elim)) λ_ _ z=>z.elim))
end
def PF(X:Cx)(ifs:List Õ)(t:TT):Prop :=
 ∀(ZB:List (Æ×ò)) (s:Ç) (Y:St) (H:Hp) (Q:Bool->Hp->Prop),Inv X ZB Y H s->t Y H Q ->
  Î .E X.A (forIn ifs Â λc r=>if r=Â then do let ok <-ū c X.env (Ö c X.env);pure (ý ok) else pure (ý r)) (TP X ZB Y Q) X.xe s
def Mb:PF X [] (λ_ H Q=>Q Â H):=λZB s Y H Q I q=>wpAny_tests_nil #[H,I,q]
def Mu{c:Õ}{t:TT}(h:PT X c t):PF X [c] t:=λZB s Y H Q I q=>wpAny_tests_one (h ZB s Y H Q I q)
def A5(Y:St)(tn:List Í)(js:List Nat)(Y':St):Prop:=(∀(j:Nat) (v:V),tn.length<=j->(cσ Y tn js)[j]?=À (À v)->Y'[j]?=À (À v))/\Y'.length=(cσ Y tn js).length
def M7(wi:TI)(tn:List Í)(js:List Nat)(g:TG)(tt:TT)(te:TE):TE:=λY H Q=>wi Y H λJ H1=>∀D,H1 D=none->∃W:Nat->Nat->Hp->List V->Prop,(∃m,W 0 m (upd H1 D (.lst [])) []) /\
 ∀i m H xs,W i m H xs->H D=À (.lst xs)/\((J.stop i H/\Q (.ref D) H)\/(J.go i H/\∀x H',J.yld i H x H'->g x (cσ Y tn js) H' λσ2 H2=>A5 Y tn js σ2/\tt σ2 H2 λok b =>
  if ok=Â then te σ2 b λy c=>c D=À (.lst xs)/\xs.length<sizeLine/\∃a,a<m/\W (i+1) a (upd c D (.lst (xs++[y]))) (xs++[y])
  else ∃a,a<m/\W (i+1) a b xs))
section
variable{X:Cx}{ZB:List (Æ×ò)}{Y:St}{H:Hp}{s:Ç}{YP:ú}{tn:List Í}{js:List Nat}{elt target iter:Õ}{ifs:List Õ}{pos:é}{wi:TI}{g:TG}{tt:TT}{te:TE}
def uH{Q:VK}{RR:Å->Æ->Result->Ç->Prop}(S:e7 X YP tn js)(hc:X.calm=Â)(hi:PI X target iter wi)
  (a:∀C s H fp,PG .G target g/\PF .G ifs tt/\PE .G elt te)
  (I:Inv X ZB Y H s) (h:M7 wi tn js g tt te Y H Q)
  (hRR:∀D C s' H' oC m,Inv X (ZB++[(C,oC)]) Y H' s'->s'.heap.get? C=À oC->s'.heap.Ns C m->X.s₀.heap.objs.size<=C->C≠X.env.locals->(∀x c,X.env.cells.lookup x=À c->c≠C)->(∀p∈X.pn++ZB,p.1≠C)->Q (.ref D) H'->RR (.ref D) C (.ok .next) s'):
  Î .E X.A (Ö iter X.env) (λx s₁=>Î .E X.A (Ū x) (λit s₂=>Î .E X.A (newList []) (λZ s₃ =>
   Î .E X.A (Ł YP X.env.globals (fX X.env YP.names []) [] X.env.qual none .none (À X.env)) (λE s₄ =>
    Ġ .E X.A (.compStart (.ListComp elt [#[target,iter,ifs,0]] YP pos) 0 it Z {E with scope:=ĭ YP X.env}) (RR Z E.locals) s₄) X.xe s₃) X.xe s₂) X.xe s₁) X.xe s:=by
 refine b9 (hi ZB s Y H _ I h) λv s1 h1=>b9 h1 λitv f h2=>?_;obtain⟨it,fp,α,J,H2,e,t,T,Ap,f2,hJ⟩:=h2;subst e;refine wpAny_newList ?_;have D0:H2 f.heap.objs.size=none:=t.hok.fresh (V_ _);obtain⟨W,⟨m0,w0⟩,turn⟩:=hJ f.heap.objs.size D0;have I3:Inv X ZB Y (upd H2 f.heap.objs.size (.lst [])) {f with heap:=f.heap.push {cls:=.type "list",data:=.seq ([]:List Å).toArray},toks:=f.toks}:=t.IG .nil (XB _);generalize O:({f with heap:=f.heap.push {cls:=.type "list",data:=.seq ([]:List Å).toArray},toks:=f.toks}:Ç)=s3 at I3;have s3s:s3.heap.objs.size=f.heap.objs.size+1:=by rw[<-O];exact Z6 ..
 have k23:∀b o,f.heap.get? b=À o->s3.heap.get? b=À o:=λb o e=>by rw[<-O];exact Ww _ e
 have u23:Un (s_ X.stack) fp H2 (upd H2 f.heap.objs.size (.lst [])) f.heap s3.heap:=Un.laid k23 (V_ _) D0;generalize hH3:upd H2 f.heap.objs.size (.lst [])=k at I3 u23 w0;generalize hD:f.heap.objs.size=D at *
 have σ:∀b∈fp,b<D:=λb a=>by
  obtain⟨o,e,_⟩:=T.obj 0 _ Ap b a;rw[<-hD];exact Wg e
 have f3:∀b∈fp,tT X ZB k b/\b<s3.heap.objs.size:=λb a=>by
  obtain⟨q0,q⟩:=f2 b a;refine#[#[?_,q],by have:=σ b a;rw[s3s];exact Zm this];rwa[<-hH3,ax (WQ (σ b a))]
 refine xV λh4 hns hk P=>?_
 have cl0:∀x c,(fX X.env YP.names []).lookup x=À c->X.env.cells.lookup x=À c:=λx c e=>by
  rcases dI YP.names [] c (fN I.ok S) e with q|q
  .cases q
  .exact q
 have I4:Inv (fG X (cN X tn js) YP s3.heap.objs.size s3 k fp) [] (cσ Y tn js) k {s3 with heap:=h4,toks:=s3.toks}:=C8 I3 S f3 hns hk λx c e=>(P x c e).imp (cl0 x c) id;have st4:α 0 h4:=T.keep 0 _ _ Ap λb a o e=>hk b o (k23 b o e)
 have L:∀{H':Hp},(∀b∈fp,H' b=none)->∀b∈fp,tT (fG X (cN X tn js) YP s3.heap.objs.size s3 k fp) [] H' b:=λhn b a=>by
  obtain⟨⟨q0,q1,q2,q3,q4,q5⟩,ql⟩:=f3 b a;refine#[hn b a,WQ ql,λz=>?_,.inl a,λx c e z=>?_,λp hp=>nomatch hp]
  .rcases V8.mp (I3.o_ b z) with q|q
   .exact q1 q
   .exact q2 q
  .exact(I4.ok.exf b a).2 x c e z
 have loop:Ġ .E X.A (.compLoop (.ListComp elt [#[target,iter,ifs,0]] YP pos) 0 (.ref it) (.ref D) (fG X (cN X tn js) YP s3.heap.objs.size s3 k fp).env) (RR (.ref D) s3.heap.objs.size) {s3 with heap:=h4,toks:=s3.toks}:=by
  refine CT (λn s'=>∃i Y' H' xs,Inv (fG X (cN X tn js) YP s3.heap.objs.size s3 k fp) [] Y' H' s'/\α i s'.heap/\(∀b∈fp,H' b=none)/\W i n H' xs/\A5 Y tn js Y') ?_ m0
   #[0,_,k,[],I4,st4,λb a=>(f3 b a).1.1,w0,λ_ _ _ z=>z,rfl]
  rintro n s5 ⟨i,σ5,B,xs,I5,st5,fr5,w5,kσ,lσ⟩
  -- the state with the targets forgotten
  have I5':Inv (fG X (cN X tn js) YP s3.heap.objs.size s3 k fp) [] (cσ Y tn js) B s5:=I5.weak lσ.symm λj v e=>by
   by_cases hj:tn.length<=j
   .exact kσ j v hj e
   .exfalso;unfold cσ at e;rw[XS ↑(Nat.lt_of_not_le hj),WJ] at e;cases q:tn[j]? with
    |none=>rw[q] at e;cases e
    |some y=>rw[q] at e;cases e
  obtain⟨hDx,G⟩:=turn i n B xs w5;rcases G with⟨stop,q⟩|⟨go,step⟩
  .refine b9 (T.done (fG X (cN X tn js) YP s3.heap.objs.size s3 k fp) rfl rfl rfl hc i [] s5 _ B (λ_ _=>False) I5' (L fr5) st5 stop) λr s6 (⟨hr,Γ⟩)=>?_;subst hr
   -- back to the def's own state
   have u36:Un (s_ X.stack) fp k B s3.heap s6.heap:=Γ.base;have u26:Un (s_ X.stack) fp H2 B f.heap s6.heap:=u23.trans u36;have I6X:Inv X ZB Y B s6:=t.JV (Γ.os.trans (show s3.os=f.os by rw[<-O])) u26 Γ.hok Γ.bare λb a=>#[(f2 b a).2.2.2.1,(f2 b a).2.1,(f2 b a).2.2.2.2.1,(f2 b a).2.2.2.2.2];obtain⟨mm,hnn,_⟩:=Γ.loc;obtain⟨oC,es,ep,hoC,rC⟩:=id hnn;have F:D<=s3.heap.objs.size:=by rw[s3s];exact Nat.le_succ _
   have K:∀{b:Æ} {o:ò},f.heap.get? b=À o->b≠s3.heap.objs.size:=λe z=>absurd (Wg e) (Y2.mpr (by rwa[hD,z]))
   have cC:∀x c,X.env.cells.lookup x=À c->c≠s3.heap.objs.size:=λx c e z=>by
    obtain⟨v,o,q1,_⟩:=t.cell x c e;exact K q1 z
   have pC:∀p∈X.pn++ZB,p.1≠s3.heap.objs.size:=λp hp=>K (t.pin p hp).1
   have lC:s3.heap.objs.size≠X.env.locals:=λz=>by
    have:=t.lt;rw[hD,<-z] at this;exact absurd this (Y2.mpr F)
   refine hRR D s3.heap.objs.size s6 B oC mm (I6X.nD λp hp=>?_) hoC hnn (W6 t.sz (by rwa[hD])) lC cC pC q;rcases W2.mp hp with hp|hp
   .exact I6X.pin p (WD _ hp)
   .have:p=(s3.heap.objs.size,oC):=by simpa using hp
    subst this;refine#[hoC,Γ.free,lC,λz=>?_,λv z=>?_]
    .have:=t.ok.j6.mem z;have hz:=t.j6.mem z;obtain⟨_,o,hz,_⟩:=hz;exact K hz rfl
    .have:=rC.1;rw[z] at this;cases this
  .refine b9 (T.item (fG X (cN X tn js) YP s3.heap.objs.size s3 k fp) rfl rfl rfl hc i [] s5 _ B (λ_ _=>False) I5' (L fr5) st5 go) λr s6 (⟨u,hr,h6⟩)=>?_;subst hr;refine b9 h6 λ_ s7 (⟨x,H7,I7,r7,y7,R,fr7⟩)=>?_;have I7':=I7.pinned (L fr7) (T.obj _ _ R);refine b9 ((a s3.heap.objs.size s3 k fp).1 _ s7 _ H7 x u _ I7' r7 (step x H7 y7)) λ_ s8 (⟨σ8,H8,I8,kc8,q8⟩)=>?_
   -- what the ZB say of the iterator,later
   have ϋ:∀{Y':St} {H':Hp} {s':Ç} {N:List V} {l:Nat},Inv (fG X (cN X tn js) YP s3.heap.objs.size s3 k fp) ([]++sR fp s7.heap) Y' H' s'->l<n->W (i+1) l H' N->A5 Y tn js Y' ->
     ∃m,m<n/\∃i Y' H' xs,Inv (fG X (cN X tn js) YP s3.heap.objs.size s3 k fp) [] Y' H' s'/\α i s'.heap/\(∀b∈fp,H' b=none)/\W i m H' xs/\A5 Y tn js Y':=λ{Y' H' s' N l} I' hm w' k'=>by
    refine#[l,hm,i+1,Y',H',N,I'.ny,T.keep _ _ _ R λb a o e=>(I'.pin (b,o) (WD _ (WD _ (jM a e)))).1,λb a=>?_,w',k'];obtain⟨o,e,d⟩:=T.obj _ _ R b a;exact(I'.pin (b,o) (WD _ (WD _ (jM a e)))).2.1
   refine b9 ((a s3.heap.objs.size s3 k fp).2.1 _ s8 σ8 H8 _ I8 q8) λok s9 (⟨H9,I9,q9⟩)=>?_;cases ok with
   |false =>
    have q9':∃l,l<n/\W (i+1) l H9 xs:=by
     have z:=q9;rwa[V4 Wn] at z
    obtain⟨l,hm,w9⟩:=q9';exact ϋ I9 hm w9 kc8
   |true =>
    rw[V6 rfl] at q9 ⊢;refine b9 ((a s3.heap.objs.size s3 k fp).2.2 _ s9 σ8 H9 _ I9 q9) λyv s10 (⟨y,H10,I10,r10,hD10,hz,l,hm,w10⟩)=>?_
    exact b9 (t_ _ s10 σ8 H10 (.ref D) [y] (.ref D) [yv] (λ_ H'=>H'=upd H10 D (.lst (xs++[y]))) I10 rfl (.cons r10 .nil) #[D,xs,y,rfl,rfl,hD10,hz,rfl]) λ_ s11 (⟨_,H11,I11,_,e11⟩)=>by
     subst e11;exact ϋ I11 hm w10 kc8
 exact codeAny_compStart_list loop (T.self _ 0 _ _ _ st4 loop)
def GO(S:e7 X YP tn js)(f:X.calm=Â)(hi:PI X target iter wi)
  (a:∀C s H fp,PG .G target g/\PF .G ifs tt/\PE .G elt te)
  (u:autoParam (∀x,Ù iter X.env x=pure x) zrc):PE X (.ListComp elt [#[target,iter,ifs,0]] YP pos) (M7 wi tn js g tt te):=by
 intro ZB s Y H Q I h;rw[eval_ListComp];refine Ŏ (use:=none) rfl u (jZ (fN I.ok S)) S.kind S.loc ?_;refine uH (RR:=λd C=>compPost .E X.A X.xe none (EP X ZB Y Q) d C) S f hi a I h ?_;intro D C s' H' k m c l t h1 h2 i n q;refine#[m,t,λh' j=>#[.ref D,H',?_,rfl,q]];have r:Inv X ZB Y H' s':=c.nD λp hp=>c.pin p (WD _ (Xg _ hp));exact r.turned (t':=s'.toks) (λb o a e=>j.extBut b o a e) (c.pin (C,k) (WD _ (WD _ .c))).2.1 (Xm (Xm h2)) (.inr h1) i n
def FJ{i:Nat}{y:Í}{py a:é}(F:X.N.Nodup)(n:X.N[i]?=À y)(B:Loc X.env.scope y)(L:X.fn y=Â\/X.env.scope.names.lookup y=À .local)(S:e7 X YP tn js)(u:X.calm=Â)(hi:PI X target iter wi)
  (d:∀C s H fp,PG .G target g/\PF .G ifs tt/\PE .G elt te)
  (j:ï (.ListComp elt [#[target,iter,ifs,0]] YP pos) (À (.Name y py)) a.line X.env=pure Â)
  (R:autoParam (∀x,Ù iter X.env x=pure x) zrc):PS X (.Assign [.Name y py] (.ListComp elt [#[target,iter,ifs,0]] YP pos) a) (λD Y H=>M7 wi tn js g tt te Y H λv H1=>D.nx (Y.set i (À v)) H1):=by
 intro ZB s Y H r I h;rw[exec_Assign_Name_used _ _ _ _ j];refine V5 (ō (V5 ?_));show Î _ X.A (do let _ <-comprehension (.ListComp elt [#[target,iter,ifs,0]] YP pos) YP X.env _ (newList []) Á (Ö iter X.env) (À (ď (.Name y py) X.env))) _ _ s;refine V5 (Xl (Ŏ (use:=À (ď (.Name y py) X.env)) (Q:=λ_ s'=>SP X ZB r .next s') rfl R (jZ (fN I.ok S)) S.kind S.loc ?_) (λ_ s' T=>Wi (Wi T)) λ_ _ e=>e);refine uH (RR:=λf C=>compPost .E X.A X.xe (À (ď (.Name y py) X.env)) (λ_ s'=>SP X ZB r .next s') f C) S u hi d I h ?_;intro D C s' H' α m J k P h1 h2 E O q;show Î _ X.A (ď (.Name y py) X.env (.ref D)) _ _ _;refine b9 (nk (pos:=py) F n B L _ s' Y H' (.ref D) (.ref D) (λσ2 H2=>σ2=Y.set i (À (.ref D))/\H2=H') J rfl #[rfl,rfl]) λ_ c ⟨σ2,H2,l,e1,e2⟩=>?_;subst e1 e2;obtain⟨z,t,_⟩:=l.pin (C,α) (WD _ (WD _ .c));refine#[m,P.at' λo e=>?_,λh' K=>?_]
 .rw[k] at e;cases e;exact z
 .have G:Inv X ZB (Y.set i (À (.ref D))) H2 c:=l.nD λp hp=>l.pin p (WD _ (Xg _ hp));exact#[_,H2,G.turned (t':=c.toks) (λb o d e=>K.extBut b o d e) t h2 (.inr h1) E O,q]
def IM:j8 X (ÿ .Mult) (rI Ċ λi j=>.int (i*j)):=OT λ_ _ _ _ _ _ _ a q=>mul_int q a
def AO(_ j:Int):Prop:=j≠0/\j.natAbs.log2<9000
def EU:j8 X (ÿ .FloorDiv) (rI AO λi j=>.int (i.fdiv j)):=OT λ_ _ _ _ _ _ _ a q=>floordiv_int a.1 q (.inl (PyProof.noPylong_of_log2 a.2))
def Nb(lo c:Int)(n:Nat):It:=#[λi _=>i<n,λi H x H'=>H'=H/\x=.int (lo+i*c),λi _=>n<=i]
def yq{P:Ò}{w:Û}{tg:Õ}(it:Æ)(lo c:Int)(n:Nat):Turn P w K tg (Nb lo c n) [it] it (λi h=>ĸ h it (lo+(i:Nat)*c) ((n:Int)-(i:Nat)) c) where
 mem:=by simp
 obj:=λi h st b a=>by
  have e:b=it:=by simpa using a
  subst e
  exact#[_,st,λv z=>by
   have B:ϴ _=Data.cell v:=z
   cases B]
 keep:=λi h h' st k=>k it .c _ st
 item:=by
  intro X m u l g i ZB s Y H E I f st j;subst m u l;obtain⟨y,p,F,x,r,q⟩:=f it .c;have W:=ό (prog:=X.prog) (w:=X.w) (I.ok.hd g) it lo c n;refine W.item i s _ _ j st λv h' tk A d kk=>?_;obtain⟨t,rfl⟩:=A;have D:Inv X ZB Y H {s with heap:=h',toks:=tk}:=I.turned (λb o a e=>kk b o ↑a e) y p x r q;exact#[_,rfl,Bs (s:={s with heap:=h',toks:=tk}) (n:="range_iterator") d rfl rfl .b #[.int (lo+i*c),H,D,#[t,rfl],#[rfl,rfl],d,λb a=>(f b a).1]]
 done:=by
  intro X m u l g i ZB s Y H E I f st j;subst m u l;obtain⟨y,p,F,x,r,q⟩:=f it .c;exact Ŧ (I.ok.hd g) st (by have:n<=i:=j;lia) λh' C=>#[rfl,I.turned (t':=s.toks) (λb o a e=>C b o a e) y p x r q]
 self:=λ_ _ _ _ _ st h=>ŧ st h
def HZ{a b:Int}(ha:-(2^62)<=a)(d:a<2^62)(h:-(2^62)<=b)(f:b<2^62)(i:c≠0)(g:-1000<=c)(e:c<=1000):ī a b c=Â:=by
 have h1:=ϸ a b c;have h2:=rangeSize_toNat_le a b c;unfold ī;generalize Ó a b c=r at *;simp only[ϵ,WA,Ys,decide_eq_true_eq,Y0];refine#[#[#[#[#[.a,.a],.a,.a],.a,.a],.a,.a],?_];right;split<;>simp only[WA,decide_eq_true_eq]<;>lia
variable{tg:Õ}
def Cr{ZB:List (Æ×ò)}{Y:St}{H:Hp}{s:Ç}{R:It->Hp->Prop}{E:Å->Ç->Prop}{lo hi:Int}{t u v:Tok}{tk:Nat}(I:Inv X ZB Y H s)(h1:-(2^62)<=lo)(h2:lo<2^62)(f:-(2^62)<=hi)(d:hi<2^62)
  (c0:c≠0) (c1:-1000<=c) (c2:c<=1000)
  (q:R (Nb lo c (Ó lo hi c).toNat) H):Î .E X.A (Ū (.ref s.heap.objs.size)) (PX X ZB Y tg R) E {s with heap:=s.heap.push {cls:=.type "range",data:=.fields (ã [.int lo t,.int hi u,.int c v])},toks:=tk}:=by
 refine Υ (Ο ..) (HZ h1 h2 f d c0 c1 c2) ?_;have a:Inv X ZB Y H {s with heap:=s.heap.push {cls:=.type "range",data:=.fields (ã [.int lo t,.int hi u,.int c v])},toks:=tk}:=I.kept λb o e=>Ww _ e
 refine#[(s.heap.push {cls:=.type "range",data:=.fields (ã [.int lo t,.int hi u,.int c v])}).objs.size,[(s.heap.push {cls:=.type "range",data:=.fields (ã [.int lo t,.int hi u,.int c v])}).objs.size],_,_,H,rfl,
  a.kept (t':=tk) λb o e=>Ww _ e,yq _ lo c (Ó lo hi c).toNat,?_,λb g=>?_,q]
 .have e1:lo+((0:Nat):Int)*c=lo:=by simp
  have e2:(((Ó lo hi c).toNat:Nat):Int)-((0:Nat):Int)=Ó lo hi c:=by have:=ϸ lo hi c;lia
  show ĸ _ _ (lo+((0:Nat):Int)*c) ((((Ó lo hi c).toNat:Nat):Int)-((0:Nat):Int)) c;rw[e1,e2];exact WS _ rfl
 .have e:b=(s.heap.push {cls:=.type "range",data:=.fields (ã [.int lo t,.int hi u,.int c v])}).objs.size:=by simpa using g
  subst e;exact a.Dl (V_ _) (a.hok.fresh (V_ _))
def NV(ta:TA):TI:=λY H R=>ta Y H λvs H1=>∃i j c:Int,vs=[.int i,.int j,.int c]/\(-(2^62)<=i/\i<2^62/\-(2^62)<=j/\j<2^62)/\(c≠0/\-1000<=c/\c<=1000)/\R (Nb i c (Ó i j c).toNat) H1
def Dr{a b c:Õ}{ta:TA}{p pos:é}(k:Gl X "range")(v:X.mg "range"=none)(ha:PA X [a,b,c] ta)(he:autoParam (Ä [a,b,c] X.env=(Á,Ö a X.env)::Ä [b,c] X.env) zra)
  (hpl:autoParam ((æ pos (Ä [b,c] X.env)).any (·.1)=Á) zra):PI X tg (.Call (.Name "range" p) [a,b,c] [] pos) (NV ta):=by
 intro ZB s Y H R I h;refine Call_ (kg I k v ξ (XI (b9 (ha pos ZB s Y H _ I h) λus x ⟨vs,H1,o,w,q1⟩=>?_) he hpl));obtain⟨i,j,c,e,⟨q1,l,g,m⟩,⟨c0,c1,c2⟩,q⟩:=q1;subst e;cases w with
 |cons r d =>
  cases d with
  |cons n d =>
   cases d with
   |cons f d =>
    cases d;obtain⟨t,rfl⟩:=r;obtain⟨t',rfl⟩:=n;obtain⟨u,rfl⟩:=f;exact call_range_3 c0 (Cr o q1 l g m c0 c1 c2 q) (.inl (PyProof.noPylong_small .f))
def Ar{lo:Int}{g:TG}{tb:TS}{D:Ends}{Y:St}{H:Hp}(Pv:Nat->St->Hp->Prop)(f:Pv 0 Y H)
  (h:∀i Y H,i<n->Pv i Y H->g (.int (lo+i*c)) Y H λσ2 H2=>tb {D with nx:=Pv (i+1),ct:=Pv (i+1),bk:=D.nx} σ2 H2) (d:∀Y H,Pv n Y H->D.nx Y H):
  ∃W:Nat->Nat->St->Hp->Prop,(∃m,W 0 m Y H)/\∀i m Y H,W i m Y H ->
   ((Nb lo c n).stop i H/\D.nx Y H)\/((Nb lo c n).go i H/\∃N:St->Hp->Prop,(∀Y' H',N Y' H'->∃b,b<m/\W (i+1) b Y' H')/\∀x H',(Nb lo c n).yld i H x H'->g x Y H' λσ2 H2=>tb {D with nx:=N,ct:=N,bk:=D.nx} σ2 H2):=by
 refine#[λi m Y H=>m=n-i/\i<=n/\Pv i Y H,#[n,.c,XB _,f],?_];rintro i m Y H ⟨rfl,hi,p⟩;by_cases a:i<n
 .refine .inr #[a,Pv (i+1),λY' H' j=>#[n-(i+1),.a,rfl,a,j],λx H' y=>?_];obtain⟨e,y⟩:=y;subst e y;exact h i Y _ a p
 .have e:i=n:=by lia
  subst e;exact .inl #[V_ _,d Y H p]
end
mutual
inductive DR(K:Ã)(H:Hp):V->Ï->Prop
 |non:DR K H .non .none
 |bl (b:Bool):DR K H (.bl b) (.bool b)
 |int (i:Int):DR K H (.int i) (.int i)
 |str (x:Í):DR K H (.str x) (.str x)
 |lst {a:Æ} {xs:List V} {ds:List Ï}:dM K H a xs->DQ K H xs ds->DR K H (.ref a) (.list ds)
 |tup {a:Æ} {xs:List V} {ds:List Ï}:Ig K H a xs->DQ K H xs ds->DR K H (.ref a) (.tuple ds)
inductive DQ(K:Ã)(H:Hp):List V->List Ï->Prop
 |nil:DQ K H [] []
 |cons {x:V} {xs:List V} {d:Ï} {ds:List Ï}:DR K H x d->DQ K H xs ds->DQ K H (x::xs) (d::ds)
end
section
variable{X:Cx}{ZB:List (Æ×ò)}{Y:St}{H:Hp}{s:Ç}
mutual
theorem DR.reads(I:Inv X ZB Y H s):∀{x:V} {d:Ï} {u:Å},DR X.K H x d->RelV x u->∃as,Reads s.heap u d as
 |_,_,_,.non,r=>by cases r;exact#[_,.none]
 |_,_,_,.bl b,r=>by cases r;exact#[_,.bool b]
 |_,_,_,.int i,r=>by obtain⟨t,rfl⟩:=r;exact#[_,.int i t]
 |_,_,_,.str x,r=>by obtain⟨t,rfl⟩:=r;exact#[_,.str x t]
 |_,_,_,.lst h e,r=>by
  cases r;obtain⟨XP,c,p,_⟩:=I.list h;obtain⟨as,a⟩:=DQ.reads I e c;obtain⟨o,e1,e2,n,e3⟩:=p.isList;exact#[_,.list e1 e2 e3 ↑a]
 |_,_,_,.tup h e,r=>by
  cases r;obtain⟨XP,c,p,_⟩:=I.tuple h;obtain⟨as,a⟩:=DQ.reads I e c;obtain⟨o,e1,e2,n,e3⟩:=p;exact#[_,.tuple e1 e2 e3 ↑a]
theorem DQ.reads(I:Inv X ZB Y H s):∀{xs:List V} {ds:List Ï} {us:List Å},DQ X.K H xs ds->Vals xs us->∃as,ReadsAll s.heap us ds as
 |_,_,_,.nil,r=>by cases r;exact#[_,.nil]
 |_,_,_,.cons h c,r=>by
  cases r with
  |cons d e =>
   obtain⟨as,a⟩:=DR.reads I h d;obtain⟨bs,b⟩:=DQ.reads I c e;exact#[_,.cons a b]
end
def PH(K:Ã):R2:=λx y H Q=>∃d e,DR K H x d/\DR K H y e/\d.canLay0=Â/\e.canLay0=Â/\d.depth<=60/\Q (.bl (ü d e)) H
def Qm(K:Ã):R2:=λx y H Q=>∃d e,DR K H x d/\DR K H y e/\d.canLay0=Â/\e.canLay0=Â/\d.depth<=60/\Q (.bl (!PyData.eqv d e)) H
def Gs(j:X.A.units+60<ù):j8 X (ä .Eq) (PH X.K):=by
 intro ZB s Y H x y v u Q I c g h;obtain⟨d,e,a,he,c1,c2,i,q⟩:=h;obtain⟨as,b⟩:=a.reads I c;obtain⟨bs,f⟩:=he.reads I g;exact SeqAt.compareEq_reads b f c1 c2 (by have:=Μ d.depth e.depth;lia) #[.bl _,H,I,rfl,q]
def F2(j:X.A.units+60<ù):j8 X (ä .NotEq) (Qm X.K):=by
 intro ZB s Y H x y v u Q I c g h;obtain⟨d,e,a,he,c1,c2,i,q⟩:=h;obtain⟨as,b⟩:=a.reads I c;obtain⟨bs,f⟩:=he.reads I g;exact SeqAt.compareNe_reads b f c1 c2 (by have:=Μ d.depth e.depth;lia) #[.bl _,H,I,rfl,q]
end
end L2
namespace L2.EP
open PySem PySem.Spec PyProof.Rows
variable{i j lo:Int}{H H' H0:Hp}{c b c':Bool}{K:Ã}{n m:Nat}{x y:Í}{v:V}{X:Cx}{xs:List V}{ps:é}{s:Ç}{e:Õ}{op:ť}{Y:St}{es:List Õ}{rest:List Ð}{tn:List Í}{js:List Nat}{C:Æ}{fp:List Æ}
open Classical in
def off(H:Hp)(O:Æ->Prop):Hp:=λb=>if O b then none else H b
def aN{O:Æ->Prop}{b:Æ}(h:¬O b):off H O b=H b:=by unfold off;rw[V4 h]
def ni{O:Æ->Prop}{b:Æ}(h:O b):off H O b=none:=by unfold off;rw[V6 h]
def bE{O:Æ->Prop}{b:Æ}{o:HO}(h:off H O b=À o):¬O b/\H b=À o:=by
 by_cases a:O b
 .rw[ni a] at h;cases h
 .rw[aN a] at h;exact#[a,h]
def aq(H:Hp)(O:Æ->Prop):az .F H:=λ_ _ h=>(bE h).2
def aj{O:Æ->Prop}(s:az H H'):az .F (off H' O):=λb o h=>by
 obtain⟨h1,h2⟩:=bE h;rw[aN h1];exact s _ _ h2
def ja{O a:Æ->Prop}(l:∀b,a b->O b):az .F (off H a):=λb o h=>by
 obtain⟨h1,h2⟩:=bE h;rwa[aN λz=>h1 (l _ z)]
def JL(H:Hp):off H (λ_=>False)=H:=funext λ_=>aN λz=>z
def jO{O:Æ->Prop}{p:Æ}{o:HO}(h:O p):off (upd H p o) O=off H O:=funext λb=>by
 by_cases a:O b
 .rw[ni a,ni a]
 .rw[aN a,aN a,ax];rintro rfl;exact a h
def b7{p:Æ}(h:H p=none)(o:HO):az H (upd H p o):=λb u q=>by rwa[ax (bX q h)]
def az.rd{a:Æ}{u:HO}(e:az H H')(h:Rd H a u):Rd H' a u:=by
 rcases h with h|⟨o,h⟩
 .exact .inl (e _ _ h)
 .exact .inr #[o,e _ _ h]
def Rt(H:Hp)(p:Æ)(xs:List V):Prop:=H p=À (.tup xs)\/∃_:Empty,H p=À (.tup xs)
def Rt.pl{p:Æ}(h:Rt H p xs):H p=À (.tup xs):=by
 rcases h with h|⟨o,h⟩
 .exact h
 .exact h
def Rt.rd{p:Æ}(h:Rt H p xs):Rd H p (.tup xs):=.inl h.pl
def az.rt{a:Æ}{u:List V}(e:az H H')(h:Rt H a u):Rt H' a u:=.inl (e _ _ h.pl)
def vm{p:Æ}(e:az H H')(h:Rt H p xs):Ig K H' p xs:=.inl (az.rt e h).rd
inductive Nn where
 |any
 |new (H0:Hp)
 |set (D:Æ->Prop)
variable{N:Nn}
inductive Mt where
 |inl (xs:List V)
 |inr (XV:List (Key×V))
 |inT (XV:List (List Key×V))
 |inB (XV:List ((Int×Bool)×V))
noncomputable def mo:Mt->HO
 |.inl xs=>.lst xs
 |.inr XV=>.dK XV
 |.inT XV=>.dT XV
 |.inB XV=>.dB XV
def Mo(K:Ã)(H:Hp)(p:Æ):Mt->Prop
 |.inl xs=>dM K H p xs
 |.inr XV=>Rd H p (.dK XV)
 |.inT XV=>Rd H p (.dT XV)
 |.inB XV=>Rd H p (.dB XV)
def Mo.mono{p:Æ}{o:Mt}(s:az H H')(h:Mo K H p o):Mo K H' p o:=by
 cases o with
 |inl xs=>exact s.seq h
 |inr XV=>exact az.rd s h
 |inT XV=>exact az.rd s h
 |inB XV=>exact az.rd s h
def Mo.of{K:Ã}{H:Hp}{p:Æ}{o:Mt}(h:H p=À (mo o)):Mo K H p o:=by
 cases o with
 |inl xs=>exact dM.of h
 |inr XV=>exact .inl h
 |inT XV=>exact .inl h
 |inB XV=>exact .inl h
def Nn.has:Nn->Hp->Æ->Mt->Prop
 |.any,_,_,_=>True
 |.new H0,H,p,xs=>H0 p=none/\H p=À (mo xs)
 |.set D,H,p,xs=>D p/\H p=À (mo xs)
def Nn.mono{p:Æ}{xs:Mt}(s:az H H')(h:N.has H p xs):N.has H' p xs:=by
 cases N with
 |any=>exact É
 |new H0=>exact#[h.1,s _ _ h.2]
 |set D=>exact#[h.1,s _ _ h.2]
class Py(M:Type) where
 rp:Ã->Nn->Hp->V->M->Prop
 tr:∀{K:Ã} {N N':Nn} {H H':Hp} {v:V} {a:M},(∀p (o:Mt),Mo K H p o->N.has H p o->Mo K H' p o/\N'.has H' p o)->(∀p xs,Rt H p xs->Rt H' p xs)->rp K N H v a->rp K N' H' v a
def aw{M:Type}[Py M]{a:M}(s:az H H')(h:Py.rp K N H v a):Py.rp K N H' v a :=
 Py.tr (λ_ _ q n=>#[Mo.mono s q,Nn.mono s n]) (λ_ _ q=>az.rt s q) h
def bB{M:Type}[Py M]{N':Nn}{a:M}(w:∀p (o:Mt),N.has H p o->N'.has H p o)(h:Py.rp K N H v a):Py.rp K N' H v a :=
 Py.tr (λ_ _ q n=>#[q,w _ _ n]) (λ_ _ q=>q) h
noncomputable instance:Py Int where
 rp _ _ _ v a:=v=.int a
 tr _ _ h:=h
noncomputable instance:Py Bool where
 rp _ _ _ v a:=v=.bl a
 tr _ _ h:=h
noncomputable instance:Py Unit where
 rp _ _ _ v _:=v=.non
 tr _ _ h:=h
noncomputable instance:Py Í where
 rp _ _ _ v a:=v=.str a
 tr _ _ h:=h
noncomputable instance{M:Type}[Py M]:Py (Option M) where
 rp K N H v a:=match a with|none=>v=.non|some b=>Py.rp K N H v b
 tr {K N N' H H' v a} l t h:=by
  cases a with
  |none=>exact h
  |some b=>exact Py.tr (M:=M) l t h
noncomputable instance{M β:Type}[Py M][Py β]:Py (M×β) where
 rp K N H v a:=∃p x y,v=.ref p/\Rt H p [x,y]/\Py.rp K N H x a.1/\Py.rp K N H y a.2
 tr l t h:=by
  obtain⟨p,x,y,e,s,h1,h2⟩:=h;exact#[p,x,y,e,t _ _ s,Py.tr l t h1,Py.tr l t h2]
theorem aV{M β:Type}{F G:M->β->Prop}(f:∀a b,F a b->G a b):∀{c:List M} {d:List β},Ø F c d->Ø G c d
 |_,_,.nil=>.nil
 |_,_,.cons h t=>.cons (f _ _ h) (aV f t)
theorem bq{M β:Type}{F:M->β->Prop}:∀{a:List M} {b:List β},Ø F a b->a.length=b.length
 |_,_,.nil=>rfl
 |_,_,.cons _ t=>congrArg (·+1) (bq t)
theorem lS{M β:Type}{F:M->β->Prop}:∀{c:List M} {d:List β} {i:Nat} {b:β},Ø F c d->d[i]?=À b->∃a,c[i]?=À a/\F a b
 |_,_,_,_,.nil,e=>by simp at e
 |_,_,0,_,.cons h _,e=>by simp at e;subst e;exact#[_,rfl,h]
 |_,_,i+1,_,.cons _ t,e=>by
  obtain⟨a,h1,h2⟩:=lS (i:=i) t ↑e;exact#[a,↑h1,h2]
theorem qd{M β:Type}{F:M->β->Prop}:∀{c:List M} {d:List β} {i:Nat} {a:M},Ø F c d->c[i]?=À a->∃b,d[i]?=À b/\F a b
 |_,_,_,_,.nil,e=>by simp at e
 |_,_,0,_,.cons h _,e=>by simp at e;subst e;exact#[_,rfl,h]
 |_,_,i+1,_,.cons _ t,e=>by
  obtain⟨a,h1,h2⟩:=qd (i:=i) t ↑e;exact#[a,↑h1,h2]
theorem oO{M β:Type}{F:M->β->Prop}:∀{a m₁:List M} {b m₂:List β},Ø F a b->Ø F m₁ m₂->Ø F (a++m₁) (b++m₂)
 |_,_,_,_,.nil,h=>h
 |_,_,_,_,.cons h t,h'=>.cons h (oO t h')
theorem FN{M β:Type}{F:M->β->Prop}{a:M}{b:β}(f:F a b):∀{c:List M} {d:List β} (i:Nat),Ø F c d->Ø F (c.set i a) (d.set i b)
 |_,_,_,.nil=>.nil
 |_,_,0,.cons _ t=>.cons f t
 |_,_,i+1,.cons h t=>.cons h (FN f i t)
theorem uY{M β:Type}{F:M->β->Prop}:∀{a:List M} {b:List β} (n:Nat),Ø F a b->Ø F (a.drop n) (b.drop n)
 |_,_,0,h=>h
 |_,_,_+1,.nil=>.nil
 |_,_,n+1,.cons _ t=>uY n t
theorem vW{M β:Type}{F:M->β->Prop}:∀{a:List M} {b:List β} (n:Nat),Ø F a b->Ø F (a.take n) (b.take n)
 |_,_,0,_=>.nil
 |_,_,_+1,.nil=>.nil
 |_,_,n+1,.cons h t=>.cons h (vW n t)
noncomputable instance{M:Type}[Py M]:Py (List M) where
 rp K N H v a:=∃p xs,v=.ref p/\dM K H p xs/\N.has H p (.inl xs)/\Ø (λx b=>Py.rp K N H x b) xs a
 tr l t h:=by
  obtain⟨p,xs,e,s,n,r⟩:=h;obtain⟨s',c⟩:=l _ (.inl xs) s n;exact#[p,xs,e,s',c,aV (λ_ _ q=>Py.tr l t q) r]
class PyD(M:Type) extends Py M where
 dat:M->Ï
 dr:∀{K:Ã} {N:Nn} {H:Hp} {v:V} {a:M},Py.rp K N H v a->DR K H v (dat a)
 lay:∀a,(dat a).canLay0=Â
 dep:Nat
 depth:∀a,(dat a).depth<=dep
 eqv:∀a b,ü (dat a) (dat b)=Â↔a=b
noncomputable instance:PyD Int where
 dat:=.int
 dr h:=by cases h;exact .int _
 lay _:=rfl
 dep:=0
 depth _:=V_ _
 eqv a b:=by simp[ü]
noncomputable instance:PyD Bool where
 dat:=.bool
 dr h:=by cases h;exact .bl _
 lay _:=rfl
 dep:=0
 depth _:=V_ _
 eqv a b:=by simp[ü]
noncomputable instance{M β:Type}[PyD M][PyD β]:PyD (M×β) where
 dat a:=.tuple [PyD.dat a.1,PyD.dat a.2]
 dr h:=by
  obtain⟨p,x,y,e,s,h1,h2⟩:=h;subst e;exact .tup (.inl s.rd) (.cons (PyD.dr h1) (.cons (PyD.dr h2) .nil))
 lay a:=by
  show č [PyD.dat a.1,PyD.dat a.2]=Â;simp[č,PyD.lay]
 dep:=max (PyD.dep M) (PyD.dep β)+1
 depth a:=by
  have h1:=PyD.depth a.1;have h2:=PyD.depth a.2;show Ą [PyD.dat a.1,PyD.dat a.2]+1<=_;simp only[Ą];lia
 eqv a b:=by
  rw[ü];simp only[ă,aai,WA,PyD.eqv];exact#[λh=>Ϸ h.1 h.2,λh=>by subst h;exact#[rfl,rfl]]
theorem yM{M:Type}[PyD M]{K:Ã}{N:Nn}{H:Hp}:∀{xs:List V} {as:List M},Ø (λx b=>Py.rp K N H x b) xs as->DQ K H xs (as.map PyD.dat)
 |_,_,.nil=>.nil
 |_,_,.cons h t=>.cons (PyD.dr h) (yM t)
theorem xh{M:Type}[PyD M]:∀as:List M,č (as.map PyD.dat)=Â
 |[]=>rfl
 |a::as=>by simp[č,PyD.lay,xh as]
theorem xg{M:Type}[PyD M]:∀as:List M,Ą (as.map PyD.dat)<=PyD.dep M
 |[]=>XB _
 |a::as=>by
  have h1:=PyD.depth a;have h2:=xg as;simp only[Wb,Ą];lia
theorem yG{M:Type}[PyD M]:∀as bs:List M,ă (as.map PyD.dat) (bs.map PyD.dat)=Â↔as=bs
 |[],[]=>by simp[ă]
 |[],_::_=>by simp[ă]
 |_::_,[]=>by simp[ă]
 |a::as,b::bs=>by simp[ă,PyD.eqv,yG as bs]
noncomputable instance{M:Type}[PyD M]:PyD (List M) where
 dat a:=.list (a.map PyD.dat)
 dr h:=by
  obtain⟨p,xs,e,s,n,r⟩:=h;subst e;exact .lst s (yM r)
 lay a:=xh a
 dep:=PyD.dep M+1
 depth a:=by
  show Ą (a.map PyD.dat)+1<=_;have:=xg a;lia
 eqv a b:=by rw[ü];exact yG a b
inductive Bd:Type 1
 |val {M:Type} [Py M] (b:Bool) (a:M):Bd
 |own {M:Type} [Py M] (b:Bool) (as:List M):Bd
 |dpo {M:Type} [Py M] (a:M):Bd
abbrev aF:=List (Option Bd)
def Nf(H0:Hp):Bool->Nn
 |true=>.new H0
 |false=>.any
def Nf.wk{p:Æ}{xs:Mt}(h:H0 p=none)(a:H p=À (mo xs)):(Nf H0 b).has H p xs:=by cases b;exact É;exact#[h,a]
def Nf.le{b':Bool}{p:Æ}{xs:Mt}(l:b'=Â->b=Â)(h:(Nf H0 b).has H p xs):(Nf H0 b').has H p xs:=by
 cases b' with
 |false=>exact É
 |true=>rwa[l rfl] at h
def Bd.ok(K:Ã)(H0:Hp)(O:Æ->Prop)(H:Hp)(v:V):Bd->Prop
 |@Bd.val _ _ b a=>Py.rp K (Nf H0 b) .F v a
 |@Bd.own _ _ _ _=>False
 |@Bd.dpo _ _ _=>False
def Bd.wQ(K:Ã)(H0:Hp)(O:Æ->Prop)(H:Hp)(D:Æ->Prop)(v:V):Bd->Prop
 |@Bd.val _ _ _ _=>False
 |@Bd.own _ _ b as=>∃p xs,v=.ref p/\D p/\H p=À (.lst xs)/\Ø (λx a=>Py.rp K (Nf H0 b) .F x a) xs as
 |@Bd.dpo _ _ a=>Py.rp K (.set D) H v a
def Bd.fe:Bd->Prop
 |@Bd.val _ _ _ _=>False
 |@Bd.own _ _ _ _=>True
 |@Bd.dpo _ _ _=>True
structure cU(K:Ã)(H0:Hp)(F O:Æ->Prop)(U:aF)(Y:St)(H:Hp):Prop where
 same:az H0 H
 fo:∀p,F p->O p
 f0:∀p,F p->∃xs:Mt,H0 p=À (mo xs)
 own:∀p,O p->∃xs:Mt,H p=À (mo xs)
 len:Y.length=U.length
 at_:∀(i:Nat) (g:Bd),U[i]?=À (À g)->¬g.fe->∃v,Y[i]?=À (À v)/\g.ok K H0 O H v
 dis:∃D:Nat->Æ->Prop,(∀i j p,D i p->D j p->i=j)/\(∀i p,D i p->O p/\H0 p=none)/\∀(i:Nat) (g:Bd),U[i]?=À (À g)->g.fe->∃v,Y[i]?=À (À v)/\g.wQ K H0 O H (D i) v
section
variable{K:Ã}{H0:Hp}{F O:Æ->Prop}{U:aF}{Y:St}{H H':Hp}
def Bd.go{g:Bd}(s:az H H')(h:g.ok K H0 O H v):g.ok K H0 O H' v:=by
 cases g with
 |val b a=>exact aw (aj s) h
 |own b as=>exact h
 |dpo a=>exact h
def Bd.LO{g:Bd}{D k:Æ->Prop}(h:g.wQ K H0 O H D v)(j:∀p (xs:Mt),D p->H p=À (mo xs)->H' p=À (mo xs))(d:az .F (off H' k))(m:∀p,D p->O p)(f:∀p,O p->∃xs:Mt,H p=À (mo xs)):g.wQ K H0 k H' D v:=by
 cases g with
 |val b a=>exact h
 |own b as =>
  obtain⟨p,xs,e,o,q,r⟩:=h;exact#[p,xs,e,o,j p (.inl xs) o q,aV (λ_ _ z=>aw d z) r]
 |dpo a =>
  have h':Py.rp K (.set D) H v a:=h;refine Py.tr (M:=_) (a:=a) (λp xs q n=>?_) (λp xs q=>?_) h'
  .obtain⟨i,l⟩:=n;have h2:=j p xs i l;exact#[Mo.of h2,i,h2]
  .have hp:∀u,(H p=À (.tup u)\/∃o,H p=À (.frz o (.tup u)))->¬O p:=λu z hp=>by
    obtain⟨ys,w⟩:=f p hp;rcases z with z|⟨o,z⟩
    .rw[z] at w;rcases ys with ys|ys|ys<;>cases w
    .rw[z] at w;rcases ys with ys|ys|ys<;>cases w
   have c:=hp xs q.rd;rcases q with q|⟨o,q⟩
   .exact .inl ((aq _ _) _ _ (d _ _ (by rwa[aN c])))
   .exact .inr #[o,(aq _ _) _ _ (d _ _ (by rwa[aN c]))]
def cU.go(S:cU K H0 F O U Y H)(s:az H H'):cU K H0 F O U Y H' where
 same:=S.same.trans s
 fo:=S.fo
 f0:=S.f0
 own:=λp h=>let #[xs,q]:=S.own p h;#[xs,s _ _ q]
 len:=S.len
 at_:=λi g e n=>let #[v,q,r]:=S.at_ i g e n;#[v,q,Bd.go s r]
 dis:=by
  obtain⟨D,b,a,c⟩:=S.dis;refine#[D,b,a,λi g e o=>?_];obtain⟨v,q,r⟩:=c i g e o;exact#[v,q,Bd.LO r (λp xs _ z=>s _ _ z) (aj s) (λp z=>(a i p z).1) S.own]
def cU.g8(S:cU K H0 F O U Y H){p:Æ}(h:H p=none):H0 p=none:=S.same.free h
def cU.gg(S:cU K H0 F O U Y H){p:Æ}(h:H p=none):¬O p:=λo=>by
 obtain⟨xs,q⟩:=S.own p o;rw[h] at q;cases q
def cU.back{M:Type}[Py M]{a:M}(S:cU K H0 F O U Y H)(h:Py.rp K (Nf H b) (off H' O) v a):Py.rp K (Nf H0 b) (off H' O) v a :=
 bB (λp xs n=>by cases b with|true=>exact#[S.g8 n.1,n.2]|false=>exact É) h
end
theorem get_set_ne.{u}{M:Type u}{l:List M}{i j:Nat}{a:M}(h:j≠i):(l.set i a)[j]?=l[j]?:=by
 rw[XU (Xm h)]
theorem get_set_eq.{u}{M:Type u}{l:List M}{i:Nat}{a:M}(h:i<l.length):(l.set i a)[i]?=À a:=by
 rw[Zt h]
theorem get_set_some.{u}{M:Type u}{l:List (Option M)}{i:Nat}{a x:M}(h:(l.set i (À a))[i]?=À (À x)):i<l.length/\a=x:=by
 by_cases b:i<l.length
 .rw[get_set_eq b] at h;injection h with h;injection h with h;exact#[b,h]
 .rw[ZI (by rw[WX];lia)] at h;cases h
def cU.set{K:Ã}{H0:Hp}{F O:Æ->Prop}{U:aF}{Y:St}{H:Hp}{M:Type}[Py M]{b:Bool}{a:M}{v:V}{i:Nat}(S:cU K H0 F O U Y H)(r:Py.rp K (Nf H0 b) .F v a):
  cU K H0 F O (U.set i (À (.val b a))) (Y.set i (À v)) H where
 same:=S.same
 fo:=S.fo
 f0:=S.f0
 own:=S.own
 len:=by rw[WX,WX];exact S.len
 at_:=λj g e n=>by
  by_cases c:j=i
  .subst c;obtain⟨h,d⟩:=get_set_some e;subst d;exact#[v,get_set_eq (by rw[S.len];exact h),r]
  .rw[get_set_ne c] at e;obtain⟨w,q,z⟩:=S.at_ j g e n;exact#[w,by rwa[get_set_ne c],z]
 dis:=by
  obtain⟨D,f,l,k⟩:=S.dis;refine#[D,f,l,λj g e o=>?_]
  have c:j≠i:=by
   rintro rfl;obtain⟨_,d⟩:=get_set_some e;subst d;exact o
  rw[get_set_ne c] at e;obtain⟨w,q,z⟩:=k j g e o;exact#[w,by rwa[get_set_ne c],z]
def tV{M:Type}[Py M](K:Ã)(U:aF)(b:Bool)(a:M):TE:=λY H Q=>∃H0 F O,cU K H0 F O U Y H/\∀v H',az H H'->Py.rp K (Nf H0 b) (off H' O) v a->Q v H'
@[irreducible] def E{M:Type}[Py M](X:Cx)(U:aF)(e:Õ)(b:Bool)(a:M):Prop:=PE X e (tV X.K U b a)
def L5(K:Ã)(U:aF)(c:Bool):TT:=λY H Q=>∃H0 F O,cU K H0 F O U Y H/\∀H',az H H'->Q c H'
@[irreducible] def T(X:Cx)(U:aF)(e:Õ)(c:Bool):Prop:=PT X e (L5 X.K U c)
@[irreducible] def TW(X:Cx)(U:aF)(e:Õ)(c:Bool):Prop:=PW X e (L5 X.K U c)
def aG{t t':TE}(h:PE X e t)(w:∀Y H Q,t' Y H Q->t Y H Q):PE X e t':=λZB s Y H Q I q=>h ZB s Y H Q I (w _ _ _ q)
def uB{t t':TT}(h:PT X e t)(w:∀Y H Q,t' Y H Q->t Y H Q):PT X e t':=λZB s Y H Q I q=>h ZB s Y H Q I (w _ _ _ q)
def Bl{t t':TT}(h:PW X e t)(w:∀Y H Q,t' Y H Q->t Y H Q):PW X e t':=λa ZB s Y H Q I q=>h a ZB s Y H Q I (w _ _ _ q)
section
variable{X:Cx}{U:aF}{M β γ:Type}[Py M][Py β][Py γ]{e e1 e2 e3:Õ}{b b1 b2 b3:Bool}{pos:é}
def E.wk{a:M}(h:E X U e b a)(l:b'=Â->b=Â):E X U e b' a:=by stop exact aG h λY H Q ⟨H0,F,O,S,q⟩=>#[H0,F,O,S,λv H' s r=>q v H' s (bB (λ_ _ n=>Nf.le l n) r)]
def ae(i:Nat){a:M}(h:autoParam (U[i]?=À (À (.val b a))) zra)(f:autoParam (X.N[i]?=À x) zra)(d:autoParam (Hq X.env.scope x) zre)
  (e:autoParam ((x==("__debug__":Í))=Á) zrb) (c:autoParam ((x==("__classdict__":Í))=Á) zrb):E X U (.Name x pos) b a:=by
 stop
  exact aG (pv i f d e c) λY H Q ⟨H0,F,O,S,q⟩=>by
    obtain⟨v,h1,h2⟩:=S.at_ i _ h (λz=>z);exact#[v,h1,q v H (az.refl _) h2]
def ag{j:Nat}:E X U (.Constant (.int i) j pos) Â i:=by stop exact aG MQ λY H Q ⟨H0,F,O,S,q⟩=>q _ H (az.refl _) rfl
def dh{i:Bool}{j:Nat}:E X U (.Constant (.bool i) j pos) Â i:=by stop exact aG Kk λY H Q ⟨H0,F,O,S,q⟩=>q _ H (az.refl _) rfl
def dQ{j:Nat}:E X U (.Constant .none j pos) Â (none:Option M):=by stop exact aG LD λY H Q ⟨H0,F,O,S,q⟩=>q _ H (az.refl _) rfl
def aR{j:Nat}:E X U (.Constant (.str x) j pos) Â x:=by stop exact aG Gq λY H Q ⟨H0,F,O,S,q⟩=>q _ H (az.refl _) rfl
theorem E.some{a:M}(h:E X U e b a):E X U e b (À a):=by stop exact aG h λY H Q ⟨H0,F,O,S,q⟩=>#[H0,F,O,S,λv H' s r=>q v H' s r]
def Af{op:Operator}{C:Int->Int->Prop}{g:Int->Int->Int}(d:j8 X (ÿ op) (rI C λi j=>.int (g i j)))(ha:E X U e1 b1 i)(f:E X U e2 b2 j)(c:C i j):E X U (.BinOp e1 op e2 pos) Â (g i j):=by stop exact aG (q_ d ha f) λY H Q ⟨H0,F,O,S,q⟩=>#[H0,F,O,S,λv H1 a h=>#[H0,F,O,S.go a,λw H2 e b=>#[i,j,h,b,c,q _ H2 (a.trans e) rfl]]]
def bt(ha:E X U e1 b1 i)(b:E X U e2 b2 j):E X U (.BinOp e1 .Add e2 pos) Â (i+j):=by stop exact Af (C:=λ_ _=>True) (λZB s Y H x y v u Q I a c ⟨i,j,h1,h2,_,q⟩=>KY ZB s Y H x y v u Q I a c #[i,j,h1,h2,q]) ha b É
def dX(ha:E X U e1 b1 i)(b:E X U e2 b2 j):E X U (.BinOp e1 .Sub e2 pos) Â (i-j):=by stop exact Af (C:=λ_ _=>True) (λZB s Y H x y v u Q I a c ⟨i,j,h1,h2,_,q⟩=>Me ZB s Y H x y v u Q I a c #[i,j,h1,h2,q]) ha b É
def aH(ha:E X U e1 b1 i)(b:E X U e2 b2 j)(a:Ċ i j):E X U (.BinOp e1 .Mult e2 pos) Â (i*j):=by stop exact Af IM ha b a
def a8(ha:E X U e1 b1 i)(b:E X U e2 b2 j)(a:AO i j):E X U (.BinOp e1 .FloorDiv e2 pos) Â (i.fdiv j):=by stop exact Af EU ha b a
def aS(ha:E X U e1 b1 i)(b:E X U e2 b2 j)(a:j≠0):E X U (.BinOp e1 .Mod e2 pos) Â (i.fmod j):=by stop exact Af HG ha b a
def Ou(ha:E X U e1 b1 i)(b:E X U e2 b2 j)(a:FC i j):E X U (.BinOp e1 .Pow e2 pos) Â (i^j.toNat):=by stop exact Af Mx ha b a
def gn(ha:E X U e1 b1 i):E X U (.UnaryOp .USub e1 pos) Â (-i):=by stop exact aG (NO LY ha) λY H Q ⟨H0,F,O,S,q⟩=>#[H0,F,O,S,λv H1 b a=>#[i,a,q _ H1 b rfl]]
def CV(X:Cx)(op:ť)(x:M)(y:β)(c:Bool):Prop:=∃r,j8 X (ä op) r/\∀(N N':Nn) (H:Hp) (u v:V) (Q:VK),Py.rp X.K N H u x->Py.rp X.K N' H v y->Q (.bl c) H->r u v H Q
def AV{g:Int->Int->Bool}(a:j8 X (ä op) (Iq λi j=>.bl (g i j)))(i j:Int):CV X op i j (g i j):=#[_,a,λN N' H u v Q h1 h2 q=>#[i,j,h1,h2,q]]
def fS:CV X .Lt i j (decide (i<j)):=AV O3 i j
def lE:CV X .LtE i j (decide (i<=j)):=AV OI i j
def kI:CV X .Gt i j (decide (j<i)):=AV N_ i j
def Ei:CV X .GtE i j (decide (j<=i)):=AV Ot i j
def aB:CV X .Eq i j (decide (i=j)):=#[_,Oz,λN N' H u v Q h1 h2 q=>by
 cases h1;cases h2;refine#[rfl,?_]
 rwa[qp,YV]]
def b8:CV X .NotEq i j (!decide (i=j)):=#[_,Nt,λN N' H u v Q h1 h2 q=>by
 cases h1;cases h2;refine#[rfl,?_]
 rwa[qp,YV]]
def xc{M:Type}[PyD M][DecidableEq M]{x y:M}(a:X.A.units+60<ù)(b:autoParam (PyD.dep M<=60) zrb):CV X .Eq x y (decide (x=y)):=#[_,Gs a,λN N' H u v Q h1 h2 q=>by
 refine#[_,_,PyD.dr h1,PyD.dr h2,PyD.lay _,PyD.lay _,W6 (PyD.depth _) b,?_]
 have e:ü (PyD.dat x) (PyD.dat y)=decide (x=y):=by
  by_cases h:x=y
  .rw[Wr h];exact(PyD.eqv x y).mpr h
  .rw[Wv h];exact XX.mpr λz=>h ((PyD.eqv x y).mp z)
 rwa[e]]
def yz{M:Type}[PyD M][DecidableEq M]{x y:M}(a:X.A.units+60<ù)(b:autoParam (PyD.dep M<=60) zrb):CV X .NotEq x y (!decide (x=y)):=#[_,F2 a,λN N' H u v Q h1 h2 q=>by
 refine#[_,_,PyD.dr h1,PyD.dr h2,PyD.lay _,PyD.lay _,W6 (PyD.depth _) b,?_]
 have e:ü (PyD.dat x) (PyD.dat y)=decide (x=y):=by
  by_cases h:x=y
  .rw[Wr h];exact(PyD.eqv x y).mpr h
  .rw[Wv h];exact XX.mpr λz=>h ((PyD.eqv x y).mp z)
 rwa[e]]
def bx{x:M}{y:β}(e:CV X op x y c)(ha:E X U e1 b1 x)(g:E X U e2 b2 y)(h:ñ op e2=Á:=by first|exact E5 _|rfl):E X U (.Compare e1 [op] [e2] pos) Â c:=by
 stop
  obtain⟨r,f,j⟩:=e
  exact aG (Iw f ha g h) λY H Q ⟨H0,F,O,S,q⟩=>#[H0,F,O,S,λv H1 b i=>#[H0,F,O,S.go b,λw H2 a d =>
   j _ _ H2 v w _ (aw ((aj a).trans (aq _ _)) i) (aw (aq _ _) d) (q _ H2 (b.trans a) rfl)]]
def ay{x:M}{y:β}(e:CV X op x y c)(ha:E X U e1 b1 x)(g:E X U e2 b2 y)(h:ñ op e2=Á:=by first|exact E5 _|rfl):T X U (.Compare e1 [op] [e2] pos) c:=by
 stop
  obtain⟨r,f,j⟩:=e
  exact uB (IX f ha g h) λY H Q ⟨H0,F,O,S,q⟩=>#[H0,F,O,S,λv H1 b i=>#[H0,F,O,S.go b,λw H2 a d =>
   j _ _ H2 v w _ (aw ((aj a).trans (aq _ _)) i) (aw (aq _ _) d) #[c,rfl,q H2 (b.trans a)]]]
def OL{x:Option M}{j:Nat}{p:é}(ha:E X U e1 b1 x)(c:∀(K:Ã) (N:Nn) (H:Hp) (a:M),¬Py.rp K N H .non a):E X U (.Compare e1 [.Is] [.Constant .none j p] pos) Â x.isNone:=by
 stop
  exact aG (Et (yT ha)) λY H Q ⟨H0,F,O,S,q⟩=>#[H0,F,O,S,λv H1 e b=>by
    have:=q (.bl (decide (v=.non))) H1 e;refine this ?_;cases x with
    |none=>cases b;rfl
    |some a =>
     have d:v≠.non:=by rintro rfl;exact c _ _ _ a b
     show V.bl (decide (v=.non))=.bl Á
     rw[Wv d]]
def iq{x:Option M}{j:Nat}{p:é}(ha:E X U e1 b1 x)(c:∀(K:Ã) (N:Nn) (H:Hp) (a:M),¬Py.rp K N H .non a):T X U (.Compare e1 [.Is] [.Constant .none j p] pos) x.isNone:=by
 stop
  exact uB (EF (yT ha)) λY H Q ⟨H0,F,O,S,q⟩=>#[H0,F,O,S,λv H1 f b=>by
    refine#[decide (v=.non),rfl,?_]
    have e:decide (v=.non)=x.isNone:=by
     cases x with
     |none=>cases b;rfl
     |some a =>
      have d:v≠.non:=by rintro rfl;exact c _ _ _ a b
      rw[Wv d];rfl
    rw[e];exact q H1 f]
def bP(h:E X U e b c)(he:autoParam (∀whole,ū e X.env whole=(do let v <-whole;ω e.pos;Ė [v] (truthy v))) zrc):T X U e c:=by stop exact uB (Lk h he) λY H Q ⟨H0,F,O,S,q⟩=>#[H0,F,O,S,λv H1 d a=>#[c,a,q H1 d]]
def bN(h:T X U e c):T X U (.UnaryOp .Not e pos) (!c):=by stop exact uB (Lv h) λY H Q ⟨H0,F,O,S,q⟩=>#[H0,F,O,S,λH1 a=>q H1 a]
variable{rest:List Õ}
def jC(h:T X U e c):TW X U (.BoolOp .And [e] pos) c:=by stop exact Jj h
def di(h:T X U e c):TW X U (.BoolOp .Or [e] pos) c:=by stop exact La h
def Ke:PW X e (λ_ _ _=>False):=λ_ _ _ _ _ _ _ h=>h.elim
def pF:PE X e (λ_ _ _=>False):=λ_ _ _ _ _ _ h=>h.elim
def kN(h:T X U e1 c)(h':c=Â->TW X U (.BoolOp .And (e2::rest) pos) c'):TW X U (.BoolOp .And (e1::e2::rest) pos) (c&&c'):=by
 stop
  cases c with
  |true=>exact Bl (Fe h (h' rfl)) λY H Q ⟨H0,F,O,S,q⟩=>#[H0,F,O,S,λH1 a=>oM #[H0,F,O,S.go a,λH2 b=>q H2 (a.trans b)]]
  |false=>exact Bl (Fe h Ke) λY H Q ⟨H0,F,O,S,q⟩=>#[H0,F,O,S,λH1 a=>tF (q H1 a)]
def bV(h:T X U e1 c)(h':c=Á->TW X U (.BoolOp .Or (e2::rest) pos) c'):TW X U (.BoolOp .Or (e1::e2::rest) pos) (c || c'):=by
 stop
  cases c with
  |false=>exact Bl (Kh h (h' rfl)) λY H Q ⟨H0,F,O,S,q⟩=>#[H0,F,O,S,λH1 a=>tF #[H0,F,O,S.go a,λH2 b=>q H2 (a.trans b)]]
  |true=>exact Bl (Kh h Ke) λY H Q ⟨H0,F,O,S,q⟩=>#[H0,F,O,S,λH1 a=>oM (q H1 a)]
def TW.t(h:TW X U e c):T X U e c:=by stop exact h.pt
def c8{op:BoolOp}{a:M}(h:E X U e b a):E X U (.BoolOp op [e] pos) b a:=by stop exact LJ h
def cE(h:E X U e1 b1 c)(h':c=Â->E X U (.BoolOp .And (e2::rest) pos) b2 c'):E X U (.BoolOp .And (e1::e2::rest) pos) Â (c&&c'):=by
 stop
  cases c with
  |true=>exact aG (F7 h (h' rfl)) λY H Q ⟨H0,F,O,S,q⟩=>#[H0,F,O,S,λv H1 a b=>#[Â,b,oM #[H0,F,O,S.go a,λw H2 e d=>q w H2 (a.trans e) d]]]
  |false=>exact aG (F7 h pF) λY H Q ⟨H0,F,O,S,q⟩=>#[H0,F,O,S,λv H1 a b=>#[Á,b,tF (q _ H1 a rfl)]]
def yV(h:E X U e1 b1 c)(h':c=Á->E X U (.BoolOp .Or (e2::rest) pos) b2 c'):E X U (.BoolOp .Or (e1::e2::rest) pos) Â (c || c'):=by
 stop
  cases c with
  |false=>exact aG (KL h (h' rfl)) λY H Q ⟨H0,F,O,S,q⟩=>#[H0,F,O,S,λv H1 a b=>#[Á,b,tF #[H0,F,O,S.go a,λw H2 e d=>q w H2 (a.trans e) d]]]
  |true=>exact aG (KL h pF) λY H Q ⟨H0,F,O,S,q⟩=>#[H0,F,O,S,λv H1 a b=>#[Â,b,oM (q _ H1 a rfl)]]
def uy(h:E X U e b c):E X U (.UnaryOp .Not e pos) Â (!c):=by stop exact aG (Mk h) λY H Q ⟨H0,F,O,S,q⟩=>#[H0,F,O,S,λv H1 d a=>#[c,a,q _ H1 d rfl]]
def j4{x y:M}(g:T X U e c)(ha:c=Â->E X U e1 b x)(h:c=Á->E X U e2 b y):E X U (.IfExp e e1 e2 pos) b (if c then x else y):=by
 stop
  cases c with
  |true=>exact aG (jc g (ha rfl) pF) λY H Q ⟨H0,F,O,S,q⟩=>#[H0,F,O,S,λH1 a=>oM #[H0,F,O,S.go a,λw H2 f d=>q w H2 (a.trans f) d]]
  |false=>exact aG (jc g pF (h rfl)) λY H Q ⟨H0,F,O,S,q⟩=>#[H0,F,O,S,λH1 a=>tF #[H0,F,O,S.go a,λw H2 f d=>q w H2 (a.trans f) d]]
def AW{p:Æ}{xs:Mt}(h:(Nf H0 b1).has H p xs):(Nf H0 (b1&&b2)).has H p xs:=Nf.le (λz=>(Xh.mp z).1) h
def Bo{p:Æ}{xs:Mt}(h:(Nf H0 b2).has H p xs):(Nf H0 (b1&&b2)).has H p xs:=Nf.le (λz=>(Xh.mp z).2) h
def yc{F O:Æ->Prop}{U:aF}{p:Æ}(S:cU K H0 F O U Y H)(hp:H p=none):az H (upd H p (.tup xs))/\Rt (off (upd H p (.tup xs)) O) p xs:=by stop exact#[b7 hp _,.inl (by rw[aN (S.gg hp)];exact aE)]
def cq{F O:Æ->Prop}{U:aF}{p:Æ}(S:cU K H0 F O U Y H)(hp:H p=none):az H (upd H p (.lst xs))/\off (upd H p (.lst xs)) O p=À (.lst xs):=by stop exact#[b7 hp _,by rw[aN (S.gg hp)];exact aE]
def a7{x:M}{y:β}{k:Nat}(ha:E X U e1 b1 x)(h:E X U e2 b2 y)(g:autoParam (Ä [e1,e2] X.env=(Á,Ö e1 X.env)::Ä [e2] X.env) zra)(c:autoParam (Ä [e2] X.env=(Á,Ö e2 X.env)::Ä [] X.env) zra):
  E X U (.Tuple [e1,e2] k pos) (b1&&b2) (x,y):=by
 stop
  exact aG (Gp (aC ha (aC h aZ c) g)) λY H Q ⟨H0,F,O,S,q⟩=>#[H0,F,O,S,λv H1 d i=>#[H0,F,O,S.go d,λw H2 b f=>#[by show 2<=sizeLine;decide,λp hp=>by
    obtain⟨a,e⟩:=yc (xs:=[v,w]) ((S.go d).go b) hp;refine q _ _ (d.trans (b.trans a)) #[p,v,w,rfl,e,?_,?_]
    .exact bB (λ_ _ n=>AW n) (aw ((aj b).trans (aj a)) i)
    .exact bB (λ_ _ n=>Bo n) (aw (aj a) f)]]]
@[irreducible] def EA(X:Cx)(U:aF)(es:List Õ)(b:Bool)(as:List M):Prop :=
 PA X es λY H Q=>∃H0 F O,cU X.K H0 F O U Y H/\∀vs H',az H H'->Ø (λx a=>Py.rp X.K (Nf H0 b) (off H' O) x a) vs as->Q vs H'
def Kj{X:Cx}{t t':TA}(h:PA X es t)(w:∀Y H Q,t' Y H Q->t Y H Q):PA X es t':=λp ZB s Y H Q I q=>h p ZB s Y H Q I (w _ _ _ q)
def au:EA X U [] b ([]:List M):=by stop exact Kj aZ λY H Q ⟨H0,F,O,S,q⟩=>q [] H (az.refl _) .nil
def af{a:M}{as:List M}(h:E X U e b a)(h':EA X U es b as)(g:autoParam (Ä (e::es) X.env=(Á,Ö e X.env)::Ä es X.env) zra):EA X U (e::es) b (a::as):=by stop exact Kj (aC h h' g) λY H Q ⟨H0,F,O,S,q⟩=>#[H0,F,O,S,λv H1 d i=>#[H0,F,O,S.go d,λvs H2 c f=>q _ H2 (d.trans c) (.cons (aw (aj c) i) f)]]
def a_{as:List M}(h:EA X U es b as)(f:as.length<=1000):E X U (.List es pos) b as:=by
 stop
  exact aG (zD h) λY H Q ⟨H0,F,O,S,q⟩=>#[H0,F,O,S,λvs H1 a e=>#[by rw[bq e];exact Xv (bA f),λp hp=>by
    obtain⟨d,c⟩:=cq (xs:=vs) (S.go a) hp
    exact q _ _ (a.trans d) #[p,vs,rfl,dM.of c,Nf.wk ((S.go a).g8 hp) c,aV (λ_ _ r=>aw (aj d) r) e]]]
def bp{xs:List M}{a:M}(ha:E X U e1 b xs)(s:E X U e2 b2 i)(h:tY xs i=À a)(t:autoParam (qe e2) zrj):E X U (.Subscript e1 e2 pos) b a:=by
 stop
  exact aG (B8 Jy ha s t) λY H Q ⟨H0,F,O,S,q⟩=>#[H0,F,O,S,λv H1 g u=>#[H0,F,O,S.go g,λw H2 c m=>by
    obtain⟨p,vs,e,sq,n,r⟩:=u;obtain⟨j,h1,h2,y,A,z⟩:=qw h;obtain⟨x,o,l⟩:=lS r h2;refine#[p,vs,i,x,e,m,(aq _ _).seq ((aj c).seq sq),?_,q x H2 (g.trans c) (aw (aj c) l)];unfold tY at h ⊢;rw[bq r];cases d:DH xs.length i with
    |none=>rw[d] at h;cases h
    |some k =>
     have f:=(qE d).1;rw[h1] at f;cases f
     exact o]]
def cj{u:M×β}{j:Nat}{g:é}(ha:E X U e1 b u):E X U (.Subscript e1 (.Constant (.int 0) j g) pos) b u.1:=by
 stop
  exact aG (B8 Aa ha ag (λ_ _=>rfl)) λY H Q ⟨H0,F,O,S,q⟩=>#[H0,F,O,S,λv H1 c h=>#[H0,F,O,S.go c,λw H2 a d=>by
    obtain⟨p,u,k,e,sq,f,i⟩:=h
    exact#[p,_,0,u,e,d,vm (aq _ _) (az.rt (aj a) sq),rfl,q u H2 (c.trans a) (aw (aj a) f)]]]
def b6{u:M×β}{j:Nat}{h:é}(ha:E X U e1 b u):E X U (.Subscript e1 (.Constant (.int 1) j h) pos) b u.2:=by
 stop
  exact aG (B8 Aa ha ag (λ_ _=>rfl)) λY H Q ⟨H0,F,O,S,q⟩=>#[H0,F,O,S,λv H1 d i=>#[H0,F,O,S.go d,λw H2 a g=>by
    obtain⟨p,u,c,e,sq,k,f⟩:=i
    exact#[p,_,1,c,e,g,vm (aq _ _) (az.rt (aj a) sq),rfl,q c H2 (d.trans a) (aw (aj a) f)]]]
def uC{p:é}(f:Gl X "abs")(c:X.mg "abs"=none)(ha:E X U e b i)(a:autoParam (Ä [e] X.env=(Á,Ö e X.env)::Ä [] X.env) zra):E X U (.Call (.Name "abs" p) [e] [] pos) Â (if i<0 then -i else i):=by stop exact aG (da FL f c boot_abs (aC ha aZ a) (he:=a)) λY H Q ⟨H0,F,O,S,q⟩=>#[H0,F,O,S,λv H1 g d=>#[i,by cases d;rfl,q _ H1 g rfl]]
def xO{p:é}(e:X.calm=Â)(g:Gl X "min")(k:X.mg "min"=none)(ha:E X U e1 b1 i)(h:E X U e2 b2 j)(b:autoParam (Ä [e1,e2] X.env=(Á,Ö e1 X.env)::Ä [e2] X.env) zra)(a:autoParam (Ä [e2] X.env=(Á,Ö e2 X.env)::Ä [] X.env) zra)(hpl:autoParam ((æ pos (Ä [e2] X.env)).any (·.1)=Á) zra):
  E X U (.Call (.Name "min" p) [e1,e2] [] pos) Â (if j<i then j else i):=by stop exact aG (da (Cy e) g k boot_min (aC ha (aC h aZ a) b) (he:=b) (hpl:=hpl)) λY H Q ⟨H0,F,O,S,q⟩=>#[H0,F,O,S,λv H1 c l=>#[H0,F,O,S.go c,λw H2 f d=>#[i,j,by cases l;cases d;rfl,q _ H2 (c.trans f) rfl]]]
def aY{xs:List M}{p:é}(c:Gl X "len")(d:X.mg "len"=none)(ha:E X U e b xs)(a:autoParam (Ä [e] X.env=(Á,Ö e X.env)::Ä [] X.env) zra):E X U (.Call (.Name "len" p) [e] [] pos) Â (xs.length:Int):=by
 stop
  exact aG (da oj c d Δ (aC ha aZ a) (he:=a)) λY H Q ⟨H0,F,O,S,q⟩=>#[H0,F,O,S,λv H1 g f=>by
    obtain⟨p,vs,e,sq,n,r⟩:=f;refine#[p,vs,by rw[e],.inl ((aq _ _).seq sq),q _ H1 g ?_];show V.int _=V.int _
    rw[bq r]]
def zd{p:é}(g:Gl X "int")(d:X.mg "int"=none)(ha:E X U e b c)(a:autoParam (Ä [e] X.env=(Á,Ö e X.env)::Ä [] X.env) zra):E X U (.Call (.Name "int" p) [e] [] pos) Â (if c then (1:Int) else 0):=by stop exact aG (lh Dv g d ZJ (aC ha aZ a) (he:=a)) λY H Q ⟨H0,F,O,S,q⟩=>#[H0,F,O,S,λv H1 h f=>.inr #[c,by cases f;rfl,q _ H1 h rfl]]
end
structure GD where
 nx:aF->Prop
 rt:Bd->Prop
 bk:aF->Prop:=λ_=>False
 ct:aF->Prop:=λ_=>False
def Bd.Rg(K:Ã)(H0:Hp)(F:Æ->Prop)(H:Hp)(v:V):Bd->Prop
 |@Bd.val _ _ b a=>Py.rp K (Nf H0 b) (off H F) v a
 |@Bd.own _ _ _ _=>False
 |@Bd.dpo _ _ _=>False
def tG(K:Ã)(U:aF)(D:GD):TS:=λb Y H=>∃H0 F O,cU K H0 F O U Y H /\
 (∀U' Y' H' a,az .F (off H' a)->cU K H0 F a U' Y' H'->D.nx U'->b.nx Y' H') /\
 (∀g v H',az H0 H'->Bd.Rg K H0 F H' v g->D.rt g->b.rt v H') /\
 (∀U' Y' H' a,az .F (off H' a)->cU K H0 F a U' Y' H'->D.bk U'->b.bk Y' H') /\
 (∀U' Y' H' a,az .F (off H' a)->cU K H0 F a U' Y' H'->D.ct U'->b.ct Y' H')
@[irreducible] def S(X:Cx)(U:aF)(st:List Ð)(D:GD):Prop:=mP X st (tG X.K U D)
@[irreducible] def S1(X:Cx)(U:aF)(st:Ð)(D:GD):Prop:=PS X st (tG X.K U D)
def dE{st:Ð}{t t':TS}(h:PS X st t)(w:∀D Y H,t' D Y H->t D Y H):PS X st t':=λZB s Y H D I q=>h ZB s Y H D I (w _ _ _ q)
def pj{st:List Ð}{t t':TS}(h:mP X st t)(w:∀D Y H,t' D Y H->t D Y H):mP X st t':=λZB s Y H D I q=>h ZB s Y H D I (w _ _ _ q)
section
variable{X:Cx}{U:aF}{D:GD}{M β γ:Type}[Py M][Py β][Py γ]{e e1 e2 e3:Õ}{b b1 b2 b3:Bool}{pos:é}{st:Ð}{rest body orelse:List Ð}
def aO(h:D.nx U):S X U [] D:=by stop exact pj HL λa Y H ⟨H0,F,O,Z,n,_⟩=>n U Y H O (az.refl _) Z h
def Em{X:Cx}{st:List Ð}{ι:Type 1}{P:ι->Prop}{t:ι->TS}(h:∀i,P i->mP X st (t i)):mP X st (λD Y H=>∃i,P i/\t i D Y H):=λZB s Y H D I ⟨i,p,q⟩=>h i p ZB s Y H D I q
def dy(h:S1 X U st {D with nx:=λU'=>S X U' rest D}):S X U (st::rest) D:=by
 stop
  exact pj (n_ h (Em (ι:=aF) (P:=λU'=>S X U' rest D) (t:=λU'=>tG X.K U' D) λ_ q=>q)) λi Y H ⟨H0,F,O,Z,n,r,bk,ct⟩ =>
    #[H0,F,O,Z,λU' Y' H' g e f q=>#[U',q,H0,F,g,f,λΓ2 σ2 H2 d a b c=>n Γ2 σ2 H2 d (e.trans a) b c,r,λΓ2 σ2 H2 d a b c=>bk Γ2 σ2 H2 d (e.trans a) b c,
     λΓ2 σ2 H2 d a b c=>ct Γ2 σ2 H2 d (e.trans a) b c],r,bk,ct]
def ao(i:Nat){a:M}{p:é}(g:X.N.Nodup)(he:E X U e b a)(h:S X (U.set i (À (.val b a))) rest D)(hi:autoParam (X.N[i]?=À x) zra)(d:autoParam (Loc X.env.scope x) zri)
  (j:autoParam (ï e (À (.Name x p)) pos.line X.env=pure Á) zra) (f:autoParam (X.fn x=Â\/X.env.scope.names.lookup x=À .local) zrd):S X U (.Assign [.Name x p] e pos::rest) D:=by stop exact dy (dE (sA g hi d he j f) λl Y H ⟨H0,F,O,Z,n,_⟩=>#[H0,F,O,Z,λv H1 c k=>n _ _ H1 O (aj c) ((Z.go c).set k) h])
def Ex{a:M}(he:E X U e b a)(h:S X U rest D)(d:autoParam (ï e none pos.line X.env=pure Á) zra):S X U (.Expr e pos::rest) D:=by stop exact dy (dE (qu he d) λg Y H ⟨H0,F,O,Z,n,_⟩=>#[H0,F,O,Z,λv H1 c f=>n U Y H1 O (aj c) (Z.go c) h])
def ar{a:M}(he:E X U e b a)(h:D.rt (.val b a)):S X U (.Return (À e) pos::rest) D:=by stop exact dy (dE (Ej he) λf Y H ⟨H0,F,O,Z,n,r,_⟩=>#[H0,F,O,Z,λv H1 d c=>r (.val b a) v H1 ((Z.go d).same) (aw (ja Z.fo) c) h])
def Mc(f:T X U e c)(h1:c=Â->S X U body {D with nx:=λU'=>S X U' rest D})(h2:c=Á->S X U orelse {D with nx:=λU'=>S X U' rest D}):S X U (.If e body orelse pos::rest) D:=by
 stop
  cases c with
  |true=>exact dy (dE (EB f (h1 rfl) gB) λg Y H ⟨H0,F,O,Z,n,r,bk,ct⟩=>#[H0,F,O,Z,λH1 d=>oM #[H0,F,O,Z.go d,λΓ2 σ2 H2 b a=>n Γ2 σ2 H2 b ((aj d).trans a),r,λΓ2 σ2 H2 b a=>bk Γ2 σ2 H2 b ((aj d).trans a),λΓ2 σ2 H2 b a=>ct Γ2 σ2 H2 b ((aj d).trans a)]])
  |false=>exact dy (dE (EB f gB (h2 rfl)) λg Y H ⟨H0,F,O,Z,n,r,bk,ct⟩=>#[H0,F,O,Z,λH1 d=>tF #[H0,F,O,Z.go d,λΓ2 σ2 H2 b a=>n Γ2 σ2 H2 b ((aj d).trans a),r,λΓ2 σ2 H2 b a=>bk Γ2 σ2 H2 b ((aj d).trans a),λΓ2 σ2 H2 b a=>ct Γ2 σ2 H2 b ((aj d).trans a)]])
def aJ(a:T X U e c)(h1:c=Â->S X U body {D with nx:=λU'=>S X U' rest D})(h2:c=Á->S X U rest D):S X U (.If e body [] pos::rest) D:=by stop exact Mc a h1 λz=>aO (h2 z)
def jT(X:Cx)(body:List Ð):TS:=λb Y H=>∃U',∃a,S X U' body a/\tG X.K U' a b Y H
def gP:mP X body (jT X body):=by stop exact λZB s Y H b I ⟨U',a,t,q⟩=>(show mP X body (tG X.K U' a) from t) ZB s Y H b I q
def cX{ι:Type}(J:ι->aF->Prop)(μ:ι->Nat)(x:ι)(B:J x U)(z:∀i U',J i U'->∃c,T X U' e c/\(c=Â->S X U' body {D with nx:=λΓ2=>∃j,J j Γ2/\μ j<μ i,ct:=λΓ2=>∃j,J j Γ2/\μ j<μ i,bk:=λΓ2=>S X Γ2 rest D})/\(c=Á->S X U' rest D))
  (hp:Ă .E X.A X.env X.xe:=by exact Yt):S X U (.While e body [] pos::rest) D:=by
 stop
  refine dy (dE (GW (tc:=λY H Q=>∃U',∃c,T X U' e c/\L5 X.K U' c Y H Q) (tb:=jT X body) hp
   (λZB s Y H Q I ⟨U',c,t,q⟩=>(show PT X e (L5 X.K U' c) from t) ZB s Y H Q I q) gP) λC Y H ⟨H0,F,O,Z,n,r,bk,ct⟩=>?_)
  refine#[λm Y' H'=>∃i U' h,az .F (off H' h)/\cU X.K H0 F h U' Y' H'/\J i U'/\m=μ i,#[_,x,U,O,az.refl _,Z,B,rfl],?_];rintro m Y' H' ⟨i,U',h,k,u,j,rfl⟩;obtain⟨c,t,p,v⟩:=z i U' j;refine#[U',c,t,H0,F,h,u,λH1 g=>?_];cases c with
  |true =>
   refine oM #[λσ2 H2=>∃d Γ2 b,az .F (off H2 b)/\cU X.K H0 F b Γ2 σ2 H2/\J d Γ2/\μ d<μ i,λσ2 H2 ⟨d,Γ2,b,a,f,y,l⟩=>#[μ d,l,d,Γ2,b,a,f,y,rfl],U',_,p rfl,H0,F,h,u.go g,?_,r,?_,?_]
   .exact λΓ2 σ2 H2 b a f ⟨d,q1,o⟩=>#[d,Γ2,b,k.trans ((aj g).trans a),f,q1,o]
   .exact λΓ2 σ2 H2 b a f q=>n Γ2 σ2 H2 b (k.trans ((aj g).trans a)) f q
   .exact λΓ2 σ2 H2 b a f ⟨d,q1,o⟩=>#[d,Γ2,b,k.trans ((aj g).trans a),f,q1,o]
  |false=>exact tF (n U' Y' H1 h (k.trans (aj g)) (u.go g) (v rfl))
def GP(g:TG)(M:Type)[Py M](put:Bool->M->aF->aF)(tc:Nat->Prop)(K:Ã):Prop :=
 ∀(b:Bool) (a:M) (H0:Hp) (F O:Æ->Prop) (U:aF) (Y:St) (H:Hp) (v:V) (Q:St->Hp->Prop),cU K H0 F O U Y H->Py.rp K (Nf H0 b) .F v a ->
  (∀Y',cU K H0 F O (put b a U) Y' H->Y'.length=Y.length->(∀j,¬tc j->Y'[j]?=Y[j]?)->Q Y' H)->g v Y H Q
def G(X:Cx)(tg:Õ)(g:TG)(M:Type)[Py M](put:Bool->M->aF->aF)(tc:Nat->Prop):Prop:=PG X tg g/\GP g M put tc X.K
def aT(i:Nat):GP (kF i) M (λb a U=>U.set i (À (.val b a))) (·=i) K:=λb a H0 F O U Y H v Q Z r q=>q _ (Z.set r) (WX ..) λj c=>get_set_ne c
def bW(i:Nat)(c:X.N.Nodup)(hi:autoParam (X.N[i]?=À x) zra)(d:autoParam (Loc X.env.scope x) zri)(e:autoParam (X.fn x=Â\/X.env.scope.names.lookup x=À .local) zrd):
  G X (.Name x pos) (kF i) M (λb a U=>U.set i (À (.val b a))) (·=i):=#[nk c hi d e,aT i]
variable{δ:Type}[Py δ]{tg:Õ}{g:TG}{tc:Nat->Prop}
def b_{put:Bool->Int->aF->aF}{n:Int}{p:é}(J:Nat->aF->Prop)(y:Gl X "range")(I:X.mg "range"=none)(s:G X tg g Int put tc)(he:E X U e b n)(h1:-(2^62)<=n)(h2:n<2^62)(C:J 0 U)
  (B:∀(i:Nat) U',i<n.toNat->J i U'->S X (put Â (i:Int) U') body {D with nx:=J (i+1),ct:=J (i+1),bk:=λΓ2=>S X Γ2 rest D}) (t:∀U',J n.toNat U'->S X U' rest D)
  (u:autoParam (X.calm=Â) zra) (hp:Ă .E X.A X.env X.xe:=by exact Yt) (L:autoParam (Ä [e] X.env=[(Á,Ö e X.env)]) zra) (l:autoParam (Ä [e] X.env=(Á,Ö e X.env)::Ä [] X.env) zra)
  (k:autoParam (∀x,Ù (.Call (.Name "range" p) [e] [] ps) X.env x=pure x) zrc):S X U (.For tg (.Call (.Name "range" p) [e] [] ps) body [] pos::rest) D:=by
 stop
  refine dy (dE (pb hp u (uL y I (aC he aZ l) L) s.1 (tb:=jT X body) gP k) λz Y H ⟨H0,F,O,Z,nx,r,bk,ct⟩=>?_);refine#[H0,F,O,Z,λv H1 o α=>#[n,by cases α;rfl,h1,h2,ui (lo:=0) (n:=n.toNat) (g:=g) (tb:=jT X body) (D:=z) (λi Y' H'=>∃U' d,az .F (off H' d)/\cU X.K H0 F d U' Y' H'/\J i U') #[U,O,aj o,Z.go o,C] ?_ ?_]]
  .rintro i Y' H' hi ⟨U',d,h,m,j⟩;refine s.2 Â (i:Int) H0 F d U' Y' H' _ _ m (by show V.int _=V.int _;rw[aaz]) λσ2 c _ _=>?_;refine#[_,_,B i U' hi j,H0,F,d,c,?_,r,?_,?_]
   .exact λΓ2 σ2 H2 f a c q=>#[Γ2,f,h.trans a,c,q]
   .exact λΓ2 σ2 H2 f a c q=>nx Γ2 σ2 H2 f (h.trans a) c q
   .exact λΓ2 σ2 H2 f a c q=>#[Γ2,f,h.trans a,c,q]
  .rintro Y' H' ⟨U',d,h,m,j⟩;exact nx U' Y' H' d h m (t U' j)
def pN{put:Bool->Int->aF->aF}{n:Int}{p:é}(J:Nat->aF->Prop)(I:Gl X "range")(Q:X.mg "range"=none)(z:G X tg g Int put tc)(k:E X U e1 b1 lo)(l:E X U e2 b2 n)(L:-(2^62)<=lo/\lo<2^62/\-(2^62)<=n/\n<2^62)(P:J 0 U)
  (N:∀(i:Nat) U',i<(n-lo).toNat->J i U'->S X (put Â (lo+i:Int) U') body {D with nx:=J (i+1),ct:=J (i+1),bk:=λΓ2=>S X Γ2 rest D}) (B:∀U',J (n-lo).toNat U'->S X U' rest D)
  (C:autoParam (X.calm=Â) zra) (hp:Ă .E X.A X.env X.xe:=by exact Yt) (R:autoParam (Ä [e1,e2] X.env=[(Á,Ö e1 X.env),(Á,Ö e2 X.env)]) zra) (o:autoParam (Ä [e2] X.env=[(Á,Ö e2 X.env)]) zra)
  (t:autoParam (Ä [e1,e2] X.env=(Á,Ö e1 X.env)::Ä [e2] X.env) zra) (m:autoParam (Ä [e2] X.env=(Á,Ö e2 X.env)::Ä [] X.env) zra)
  (h:autoParam (∀x,Ù (.Call (.Name "range" p) [e1,e2] [] ps) X.env x=pure x) zrc):S X U (.For tg (.Call (.Name "range" p) [e1,e2] [] ps) body [] pos::rest) D:=by
 stop
  refine dy (dE (pb hp C (CY I Q (aC k (aC l aZ m) t) R o) z.1 (tb:=jT X body) gP h) λα Y H ⟨H0,F,O,Z,nx,r,bk,ct⟩=>?_);refine#[H0,F,O,Z,λv H1 s T=>#[H0,F,O,Z.go s,λV Γ d y=>#[lo,n,by cases T;cases y;rfl,L,ui (lo:=lo) (n:=(n-lo).toNat) (g:=g) (tb:=jT X body) (D:=α) (λi Y' H'=>∃U' c,az .F (off H' c)/\cU X.K H0 F c U' Y' H'/\J i U') #[U,O,aj (s.trans d),Z.go (s.trans d),P] ?_ ?_]]]
  .rintro i Y' H' hi ⟨U',c,f,u,j⟩;refine z.2 Â (lo+i:Int) H0 F c U' Y' H' _ _ u rfl λσ2 b _ _=>?_;refine#[_,_,N i U' hi j,H0,F,c,b,?_,r,?_,?_]
   .exact λΓ2 σ2 H2 e a b q=>#[Γ2,e,f.trans a,b,q]
   .exact λΓ2 σ2 H2 e a b q=>nx Γ2 σ2 H2 e (f.trans a) b q
   .exact λΓ2 σ2 H2 e a b q=>#[Γ2,e,f.trans a,b,q]
  .rintro Y' H' ⟨U',c,f,u,j⟩;exact nx U' Y' H' c f u (B U' j)
def pW{put:Bool->Int->aF->aF}{n c:Int}{p:é}(J:Nat->aF->Prop)(P:Gl X "range")(σ:X.mg "range"=none)(C:G X tg g Int put tc)(o:E X U e1 b1 lo)(s:E X U e2 b2 n)(z:E X U e3 b3 c)(Q:-(2^62)<=lo/\lo<2^62/\-(2^62)<=n/\n<2^62)(t:c≠0/\-1000<=c/\c<=1000)(Γ:J 0 U)
  (T:∀(i:Nat) U',i<(Ó lo n c).toNat->J i U'->S X (put Â (lo+i*c:Int) U') body {D with nx:=J (i+1),ct:=J (i+1),bk:=λΓ2=>S X Γ2 rest D}) (L:∀U',J (Ó lo n c).toNat U'->S X U' rest D)
  (N:autoParam (X.calm=Â) zra) (hp:Ă .E X.A X.env X.xe:=by exact Yt)
  (f:autoParam (Ä [e1,e2,e3] X.env=(Á,Ö e1 X.env)::Ä [e2,e3] X.env) zra) (u:autoParam (Ä [e2,e3] X.env=(Á,Ö e2 X.env)::Ä [e3] X.env) zra) (y:autoParam (Ä [e3] X.env=(Á,Ö e3 X.env)::Ä [] X.env) zra)
  (hpl:autoParam ((æ ps (Ä [e2,e3] X.env)).any (·.1)=Á) zra) (l:autoParam (∀x,Ù (.Call (.Name "range" p) [e1,e2,e3] [] ps) X.env x=pure x) zrc):S X U (.For tg (.Call (.Name "range" p) [e1,e2,e3] [] ps) body [] pos::rest) D:=by
 stop
  refine dy (dE (pb hp N (Dr P σ (aC o (aC s (aC z aZ y) u) f) f hpl) C.1 (tb:=jT X body) gP l) λR Y H ⟨H0,F,O,Z,nx,r,bk,ct⟩=>?_);refine#[H0,F,O,Z,λv H1 k r1=>#[H0,F,O,Z.go k,λv' H2 m α=>#[H0,F,O,Z.go (k.trans m),λV H3 I W=>#[lo,n,c,by cases r1;cases α;cases W;rfl,Q,t,Ar (lo:=lo) (c:=c) (n:=(Ó lo n c).toNat) (g:=g) (tb:=jT X body) (D:=R) (λi Y' H'=>∃U' d,az .F (off H' d)/\cU X.K H0 F d U' Y' H'/\J i U') #[U,O,aj (k.trans (m.trans I)),Z.go (k.trans (m.trans I)),Γ] ?_ ?_]]]]
  .rintro i Y' H' hi ⟨U',d,h,B,j⟩;refine C.2 Â (lo+i*c:Int) H0 F d U' Y' H' _ _ B rfl λσ2 b _ _=>?_;refine#[_,_,T i U' hi j,H0,F,d,b,?_,r,?_,?_]
   .exact λΓ2 σ2 H2 e a b q=>#[Γ2,e,h.trans a,b,q]
   .exact λΓ2 σ2 H2 e a b q=>nx Γ2 σ2 H2 e (h.trans a) b q
   .exact λΓ2 σ2 H2 e a b q=>#[Γ2,e,h.trans a,b,q]
  .rintro Y' H' ⟨U',d,h,B,j⟩;exact nx U' Y' H' d h B (L U' j)
def oK{put:Bool->M->aF->aF}{xs:List M}(J:Nat->aF->Prop)(s:G X tg g M put tc)(he:E X U e b xs)(B:J 0 U)
  (z:∀(i:Nat) (a:M) U',xs[i]?=À a->J i U'->S X (put b a U') body {D with nx:=J (i+1),ct:=J (i+1),bk:=λΓ2=>S X Γ2 rest D}) (t:∀U',J xs.length U'->S X U' rest D)
  (u:autoParam (X.calm=Â) zra) (hp:Ă .E X.A X.env X.xe:=by exact Yt)
  (m:autoParam (∀x,Ù e X.env x=pure x) zrc):S X U (.For tg e body [] pos::rest) D:=by
 stop
  refine dy (dE (pb hp u (BP he) s.1 (tb:=jT X body) gP m) λy Y H ⟨H0,F,O,Z,nx,r,bk,ct⟩=>?_);refine#[H0,F,O,Z,λv H1 n C=>?_];obtain⟨p,vs,e,sq,nn,o⟩:=C;refine#[p,e,#[vs,(aq _ _).seq sq],FG (K:=X.K) (a:=p) (xs:=vs) (g:=g) (tb:=jT X body) (D:=y) (λi Y' H'=>∃U' d,az (off H1 O) (off H' d)/\cU X.K H0 F d U' Y' H'/\J i U') #[U,O,az.refl _,Z.go n,B] ?_ ?_ ?_]
  .rintro i Y' H' hi ⟨U',d,f,l,j⟩;exact(aq _ _).seq (f.seq sq)
  .rintro i x Y' H' hi ⟨U',d,f,l,j⟩;obtain⟨a,h1,h2⟩:=qd o hi;refine s.2 b a H0 F d U' Y' H' _ _ l (aw f h2) λσ2 h _ _=>?_;refine#[_,_,z i a U' h1 j,H0,F,d,h,?_,r,?_,?_]
   .exact λΓ2 σ2 H2 k c h q=>#[Γ2,k,f.trans c,h,q]
   .exact λΓ2 σ2 H2 k c h q=>nx Γ2 σ2 H2 k ((aj n).trans (f.trans c)) h q
   .exact λΓ2 σ2 H2 k c h q=>#[Γ2,k,f.trans c,h,q]
  .rintro Y' H' ⟨U',d,f,l,j⟩;rw[bq o] at j;exact nx U' Y' H' d ((aj n).trans f) l (t U' j)
end
structure aK(P:Ò)(w:Û)(K:Ã)(mg:Í->Option Å)(base:Ý)(k:Nat)(name:Í)(ps:List Í)(sp:Sp):Prop where
 ex:∃(f:Æ) (fd:ì),⇑dY nQ k f fd ps sp/\Binds K fd ps []/\ð K (.ref f)=Â/\mg name=À (.ref f)
def mh(H:Hp)(O:Æ->Prop):Prop:=∀p,O p->∃xs:Mt,H p=À (mo xs)
def dU{M β:Type}[Py M][Py β](K:Ã)(pre:M->Prop)(b:Bool)(f:M->β):Sp:=λvs H Q _=>∃O v a,mh H O/\vs=[v]/\Py.rp K .any .F v a/\pre a/\∀r H',az H H'->Py.rp K (Nf H b) (off H' O) r (f a)->Q r H'
def bO{M β γ:Type}[Py M][Py β][Py γ](K:Ã)(pre:M->β->Prop)(b:Bool)(f:M->β->γ):Sp:=λvs H Q _=>∃O v w a c,mh H O/\vs=[v,w]/\Py.rp K .any .F v a/\Py.rp K .any .F w c/\pre a c/\∀r H',az H H'->Py.rp K (Nf H b) (off H' O) r (f a c)->Q r H'
def nV{M β γ δ:Type}[Py M][Py β][Py γ][Py δ](K:Ã)(pre:M->β->γ->Prop)(b:Bool)(f:M->β->γ->δ):Sp:=λvs H Q _=>∃O v w x a c d,mh H O/\vs=[v,w,x]/\Py.rp K .any .F v a/\Py.rp K .any .F w c/\Py.rp K .any .F x d/\pre a c d/\∀r H',az H H'->Py.rp K (Nf H b) (off H' O) r (f a c d)->Q r H'
def BG{M β γ δ ε:Type}[Py M][Py β][Py γ][Py δ][Py ε](K:Ã)(pre:M->β->γ->δ->Prop)(b:Bool)(f:M->β->γ->δ->ε):Sp:=λvs H Q _=>∃O v w x y a c d g,mh H O/\vs=[v,w,x,y]/\Py.rp K .any .F v a/\Py.rp K .any .F w c/\Py.rp K .any .F x d/\Py.rp K .any .F y g/\pre a c d g/\∀r H',az H H'->Py.rp K (Nf H b) (off H' O) r (f a c d g)->Q r H'
def bR:∀p xs,(Nf H0 b).has H p xs->Nn.any.has H p xs:=λ_ _ _=>É
section
variable{X:Cx}{U:aF}{D:GD}{M β γ δ ε:Type}[Py M][Py β][Py γ][Py δ][Py ε]{e e1 e2 e3 e4:Õ}{b b1 b2 b3 b4:Bool}{p pos:é}{k:Nat}{name:Í}{ps:List Í}
def aD{pre:M->Prop}{f:M->β}{a:M}(C:aK X.prog X.w X.K X.mg X.base k name ps (dU X.K pre b f))(l:dk k X.A)(g:Gl X name)(h1:E X U e1 b1 a)(hp:pre a)
  (c:autoParam (Ä [e1] X.env=(Á,Ö e1 X.env)::Ä [] X.env) zra) (d:autoParam ((name==("__debug__":Í))=Á) zrb) (hpl:autoParam ((æ pos (Ä [] X.env)).any (·.1)=Á) zra):
  E X U (.Call (.Name name p) [e1] [] pos) b (f a):=by
 stop
  obtain⟨n,fd,F,B,j,m⟩:=C.ex
  exact aG (lg F l g m j B .nil rM (aC h1 aZ c) d c hpl) λY H Q ⟨H0,F,O,S,q⟩=>#[H0,F,O,S,λh H1 e i =>
   #[O,h,a,(S.go e).own,rfl,bB bR i,hp,λr H' s' z=>q r H' (e.trans s') ((S.go e).back z)]]
def av{pre:M->β->Prop}{f:M->β->γ}{a:M}{c:β}(C:aK X.prog X.w X.K X.mg X.base k name ps (bO X.K pre b f))(n:dk k X.A)(l:Gl X name)(h1:E X U e1 b1 a)(h2:E X U e2 b2 c)(hp:pre a c)
  (d:autoParam (Ä [e1,e2] X.env=(Á,Ö e1 X.env)::Ä [e2] X.env) zra) (h:autoParam (Ä [e2] X.env=(Á,Ö e2 X.env)::Ä [] X.env) zra) (i:autoParam ((name==("__debug__":Í))=Á) zrb) (hpl:autoParam ((æ pos (Ä [e2] X.env)).any (·.1)=Á) zra):
  E X U (.Call (.Name name p) [e1,e2] [] pos) b (f a c):=by
 stop
  obtain⟨v,fd,F,B,u,m⟩:=C.ex
  exact aG (lg F n l m u B .nil rM (aC h1 (aC h2 aZ h) d) i d hpl) λY H Q ⟨H0,F,O,S,q⟩=>#[H0,F,O,S,λs H1 g t=>#[H0,F,O,S.go g,λo H2 e j =>
   #[O,s,o,a,c,(S.go (g.trans e)).own,rfl,bB bR (aw (aj e) t),bB bR j,hp,λr H' s' z=>q r H' (g.trans (e.trans s')) ((S.go (g.trans e)).back z)]]]
def bZ{pre:M->β->γ->Prop}{f:M->β->γ->δ}{a:M}{c:β}{d:γ}(C:aK X.prog X.w X.K X.mg X.base k name ps (nV X.K pre b f))(u:dk k X.A)(s:Gl X name)(h1:E X U e1 b1 a)(h2:E X U e2 b2 c)(t:E X U e3 b3 d)(hp:pre a c d)
  (h:autoParam (Ä [e1,e2,e3] X.env=(Á,Ö e1 X.env)::Ä [e2,e3] X.env) zra) (j:autoParam (Ä [e2,e3] X.env=(Á,Ö e2 X.env)::Ä [e3] X.env) zra) (l:autoParam (Ä [e3] X.env=(Á,Ö e3 X.env)::Ä [] X.env) zra)
  (n:autoParam ((name==("__debug__":Í))=Á) zrb) (hpl:autoParam ((æ pos (Ä [e2,e3] X.env)).any (·.1)=Á) zra):
  E X U (.Call (.Name name p) [e1,e2,e3] [] pos) b (f a c d):=by
 stop
  obtain⟨L,fd,F,B,I,m⟩:=C.ex
  exact aG (lg F u s m I B .nil rM (aC h1 (aC h2 (aC t aZ l) j) h) n h hpl) λY H Q ⟨H0,F,O,S,q⟩=>#[H0,F,O,S,λD H1 g G=>#[H0,F,O,S.go g,λx H2 e o=>#[H0,F,O,S.go (g.trans e),λv J i y =>
   #[O,D,x,v,a,c,d,(S.go (g.trans (e.trans i))).own,rfl,bB bR (aw ((aj e).trans (aj i)) G),bB bR (aw (aj i) o),bB bR y,hp,λr H' s' z=>q r H' (g.trans (e.trans (i.trans s'))) ((S.go (g.trans (e.trans i))).back z)]]]]
def gA{pre:M->β->γ->δ->Prop}{f:M->β->γ->δ->ε}{a:M}{c:β}{d:γ}{g:δ}(C:aK X.prog X.w X.K X.mg X.base k name ps (BG X.K pre b f))(D:dk k X.A)(x:Gl X name)(h1:E X U e1 b1 a)(h2:E X U e2 b2 c)(y:E X U e3 b3 d)(I:E X U e4 b4 g)(hp:pre a c d g)
  (l:autoParam (Ä [e1,e2,e3,e4] X.env=(Á,Ö e1 X.env)::Ä [e2,e3,e4] X.env) zra) (o:autoParam (Ä [e2,e3,e4] X.env=(Á,Ö e2 X.env)::Ä [e3,e4] X.env) zra) (s:autoParam (Ä [e3,e4] X.env=(Á,Ö e3 X.env)::Ä [e4] X.env) zra) (n:autoParam (Ä [e4] X.env=(Á,Ö e4 X.env)::Ä [] X.env) zra)
  (t:autoParam ((name==("__debug__":Í))=Á) zrb) (hpl:autoParam ((æ pos (Ä [e2,e3,e4] X.env)).any (·.1)=Á) zra):
  E X U (.Call (.Name name p) [e1,e2,e3,e4] [] pos) b (f a c d g):=by
 stop
  obtain⟨T,fd,F,B,P,m⟩:=C.ex
  exact aG (lg F D x m P B .nil rM (aC h1 (aC h2 (aC y (aC I aZ n) s) o) l) t l hpl) λY H Q ⟨H0,F,O,S,q⟩=>#[H0,F,O,S,λα H1 h N=>#[H0,F,O,S.go h,λJ H2 e v=>#[H0,F,O,S.go (h.trans e),λG R j L=>#[H0,F,O,S.go (h.trans (e.trans j)),λv4 Γ i u =>
   #[O,α,J,G,v4,a,c,d,g,(S.go (h.trans (e.trans (j.trans i)))).own,rfl,bB bR (aw ((aj e).trans ((aj j).trans (aj i))) N),bB bR (aw ((aj j).trans (aj i)) v),bB bR (aw (aj i) L),bB bR u,hp,λr H' s' z=>q r H' (h.trans (e.trans (j.trans (i.trans s')))) ((S.go (h.trans (e.trans (j.trans i)))).back z)]]]]]
end
noncomputable def wO(N:List Í)(a:List Bd):aF:=a.map À++È (N.length-a.length) none
def RT{M:Type}[Py M](b:Bool)(a:M):GD:={nx:=λ_=>False,rt:=λg=>g=.val b a}
inductive Args(K:Ã)(H:Hp):List V->List Bd->Prop
 |nil:Args K H [] []
 |cons {M:Type} [Py M] {v:V} {a:M} {vs:List V} {gs:List Bd}:Py.rp K .any H v a->Args K H vs gs->Args K H (v::vs) (.val Á a::gs)
def Args.len{K:Ã}{H:Hp}:∀{vs:List V} {a:List Bd},Args K H vs a->vs.length=a.length
 |_,_,.nil=>rfl
 |_,_,@Args.cons _ _ _ _ _ _ _ _ _ t=>congrArg (·+1) t.len
theorem Args.get{K:Ã}{H0 H:Hp}{O:Æ->Prop}:∀{vs:List V} {b:List Bd} {i:Nat} {g:Bd},Args K .F vs b->b[i]?=À g->∃v,vs[i]?=À v/\g.ok K H0 O H v/\¬g.fe
 |_,_,_,_,.nil,e=>by simp at e
 |_,_,0,_,@Args.cons _ _ _ _ _ _ _ _ h _,e=>by simp at e;subst e;exact#[_,rfl,h,λz=>z]
 |_,_,i+1,_,@Args.cons _ _ _ _ _ _ _ _ _ t,e=>by
  obtain⟨a,h1,h2⟩:=Args.get (i:=i) t ↑e;exact#[a,↑h1,h2]
def jj{O:Æ->Prop}{N:List Í}{vs:List V}{b:List Bd}(c:mh H O)(h:Args K .F vs b):cU K H O O (wO N b) (start N vs) H:=by
 have d:=h.len
 have a:∀(i:Nat) (g:Bd),(wO N b)[i]?=À (À g)->b[i]?=À g:=λi g e=>by
  unfold wO at e;by_cases hi:i<(b.map À).length
  .rw[XS hi,WJ] at e;cases q:b[i]? with
   |none=>rw[q] at e;cases e
   |some g'=>rw[q] at e;simpa using e
  .rw[Xu .a] at e;have:=Wq e;rw[List.mem_replicate] at this;cases this.2
 refine#[az.refl _,λ_ z=>z,c,c,by simp[wO,start,d],λi g e _=>?_,#[λ_ _=>False,λ_ _ _ z=>z.elim,λ_ _ z=>z.elim,λi g e o=>?_]]
 .obtain⟨v,h1,h2,_⟩:=Args.get (H0:=H) h (a i g e);refine#[v,?_,h2];unfold start
  have hi:i<(vs.map À).length:=by
   rw[V2];exact(Wd.mp h1).1
  rw[XS hi,WJ,h1];rfl
 .obtain⟨_,_,_,no⟩:=Args.get (H0:=H) h (a i g e);exact absurd o no
section
variable{P:Ò}{w:Û}{K:Ã}{mg:Í->Option Å}{base:Ý}{N ps:List Í}{k:Nat}{x qual:Í}{st:Ð}{f:Æ}{fd:ì}
abbrev cx(P:Ò)(w:Û)(K:Ã)(mg:Í->Option Å)(base:Ý)(N:List Í)(qual:Í)(st:Ð)(f:Æ)(a:Å)(A:á)(outer:List ė)(s:Ç)(H:Hp)(E:XK):Cx:=(oy nQ P w K mg base N qual (ah st) f a A outer s H E).Ha
def Body(P:Ò)(w:Û)(K:Ã)(mg:Í->Option Å)(base:Ý)(N:List Í)(qual:Í)(st:Ð)(f:Æ)(k:Nat)(b:List Bd)(D:GD):Prop :=
 ∀(a:Å) (A:á) (outer:List ė) (s:Ç) (H:Hp) (E:XK),dk k (A.deeper (Č qual (ah st) s.heap.objs.size f a))->S (⇑cx N qual st f a A outer s H E) (wO N b) (aU st) D
def mL{d:List Bd}{vs:List V}{O:Æ->Prop}{M:Type}[Py M]{a:M}{Q:VK}{c:Å}{A:á}{outer:List ė}{E:XK}(B:⇑Body N qual st f k d (RT b a))(l:dk k (A.deeper (Č qual (ah st) s.heap.objs.size f c)))
  (i:mh H O) (h:Args K .F vs d) (q:∀r H',az H H'->Py.rp K (Nf H b) (off H' O) r a->Q r H'):
  ∃t,mP (oy nQ P w K mg base N qual (ah st) f c A outer s H E).Ha (aU st) t/\t {nx:=λ_ H'=>Q .non H',rt:=Q} (start N vs) H:=by stop refine#[_,B c A outer s H E l,H,O,O,jj i h,λ_ _ _ _ _ _ z=>z.elim,λg v H' j z e=>?_,λ_ _ _ _ _ _ z=>z.elim,λ_ _ _ _ _ _ z=>z.elim];have m:g=.val b a:=e;subst m;exact q v H' j z
def p9{M β:Type}[Py M][Py β]{pre:M->Prop}{g:M->β}(F:p8 K x qual st f fd)(j:ak N ps (ah st))(c:ps.length=1)(B:∀a,pre a->⇑Body N qual st f k [.val Á a] (RT b (g a))):
  dY P w K mg base nQ (k+1) f fd ps (dU K pre b g):=by
 stop
  refine F.ok j (λvs H Q E h=>?_) λi A outer s H vs Q E e h=>?_
  .obtain⟨O,v,a,_,rfl,_⟩:=h;rw[c];rfl
  .obtain⟨O,v,a,d,rfl,r,hp,q⟩:=h;exact mL (B a hp) e d (.cons r .nil) q
def iW{M β γ:Type}[Py M][Py β][Py γ]{pre:M->β->Prop}{g:M->β->γ}(F:p8 K x qual st f fd)(n:ak N ps (ah st))(d:ps.length=2)(B:∀a c,pre a c->⇑Body N qual st f k [.val Á a,.val Á c] (RT b (g a c))):
  dY P w K mg base nQ (k+1) f fd ps (bO K pre b g):=by
 stop
  refine F.ok n (λvs H Q E h=>?_) λm A outer s H vs Q E j h=>?_
  .obtain⟨O,v,l,a,c,_,rfl,_⟩:=h;rw[d];rfl
  .obtain⟨O,v,l,a,c,i,rfl,r,e,hp,q⟩:=h;exact mL (B a c hp) j i (.cons r (.cons e .nil)) q
def DL{M β γ δ:Type}[Py M][Py β][Py γ][Py δ]{pre:M->β->γ->Prop}{g:M->β->γ->δ}(F:p8 K x qual st f fd)(t:ak N ps (ah st))(e:ps.length=3)(B:∀a c d,pre a c d->⇑Body N qual st f k [.val Á a,.val Á c,.val Á d] (RT b (g a c d))):
  dY P w K mg base nQ (k+1) f fd ps (nV K pre b g):=by
 stop
  refine F.ok t (λvs H Q E h=>?_) λp A outer s H vs Q E l h=>?_
  .obtain⟨O,v,n,m,a,c,d,_,rfl,_⟩:=h;rw[e];rfl
  .obtain⟨O,v,n,m,a,c,d,j,rfl,r,i,o,hp,q⟩:=h;exact mL (B a c d hp) l j (.cons r (.cons i (.cons o .nil))) q
def Ob{M β γ δ ε:Type}[Py M][Py β][Py γ][Py δ][Py ε]{pre:M->β->γ->δ->Prop}{g:M->β->γ->δ->ε}(F:p8 K x qual st f fd)(u:ak N ps (ah st))(e:ps.length=4)(B:∀a c d y,pre a c d y->⇑Body N qual st f k [.val Á a,.val Á c,.val Á d,.val Á y] (RT b (g a c d y))):
  dY P w K mg base nQ (k+1) f fd ps (BG K pre b g):=by
 stop
  refine F.ok u (λvs H Q E h=>?_) λt A outer s H vs Q E m h=>?_
  .obtain⟨O,v,o,n,v4,a,c,d,y,_,rfl,_⟩:=h;rw[e];rfl
  .obtain⟨O,v,o,n,v4,a,c,d,y,l,rfl,r,j,p,i,hp,q⟩:=h;exact mL (B a c d y hp) m l (.cons r (.cons j (.cons p (.cons i .nil)))) q
variable{X:Cx}{U:aF}{M β:Type}[Py M][Py β]{e:Õ}{b:Bool}{p p2 pos:é}
def pX{a:M}{T:Í}{d:String}(n:Gl X "isinstance")(C:X.mg "isinstance"=none)(f:Gl X T)(i:X.mg T=none)(k:þ T=À (.type d))(ha:E X U e b a)
  (o:∀(ZB:List (Æ×ò)) (s:Ç) (Y:St) (H:Hp) (N:Nn) (v:V) (u:Å) (Q:Å->Ç->Prop),Inv X ZB Y H s->Py.rp X.K N H v a->RelV v u->(∀tk,Q (.bool c) {s with toks:=tk})->Î .E X.A (call (.builtin "isinstance") [u,.type d]) Q X.xe s)
  (j:autoParam (Ä [e,.Name T p2] X.env=(Á,Ö e X.env)::Ä [.Name T p2] X.env) zra) (g:autoParam (Ä [.Name T p2] X.env=(Á,Ö (.Name T p2) X.env)::Ä [] X.env) zra) (hpl:autoParam ((æ pos (Ä [.Name T p2] X.env)).any (·.1)=Á) zra)
  (B:autoParam (T≠"__name__") zrb) (l:autoParam ((T==("__debug__":Í))=Á) zrb):
  E X U (.Call (.Name "isinstance" p) [e,.Name T p2] [] pos) Â c:=by
 stop
  have m:gJ X (.builtin "isinstance") (λxs H Q=>∃N v,xs=[v,.ty d]/\Py.rp X.K N H v a/\Q (.bl c) H):=by
   intro ZB s Y H xs us Q I r h;obtain⟨N,v,rfl,t,q⟩:=h;obtain⟨u,G,rfl,z,x⟩:=vals2 r;cases x;exact o ZB s Y H N v u _ I t z λtk=>#[.bl c,H,I.tok _,rfl,q]
  exact aG (da m n C Ĺ (aC ha (aC (BV (v:=.ty d) f i k rfl B l) aZ g) j) (he:=j) (hpl:=hpl)) λY H Q ⟨H0,F,O,S,q⟩=>#[H0,F,O,S,λv H1 y D=>#[_,v,rfl,aw (aq _ _) D,q _ H1 y rfl]]
def LL(d:Gl X "isinstance")(h:X.mg "isinstance"=none)(c:Gl X "int")(a:X.mg "int"=none)(ha:E X U e b i)
  (g:autoParam (Ä [e,.Name "int" p2] X.env=(Á,Ö e X.env)::Ä [.Name "int" p2] X.env) zra):E X U (.Call (.Name "isinstance" p) [e,.Name "int" p2] [] pos) Â Â:=by
 stop
  exact pX d h c a ZJ ha (λZB s Y H N v u Q I f r q=>by
    cases f;obtain⟨t,rfl⟩:=r
    exact Ť (q s.toks)) g
def K_(d:Gl X "isinstance")(h:X.mg "isinstance"=none)(c:Gl X "bool")(a:X.mg "bool"=none)(ha:E X U e b i)
  (g:autoParam (Ä [e,.Name "bool" p2] X.env=(Á,Ö e X.env)::Ä [.Name "bool" p2] X.env) zra):E X U (.Call (.Name "isinstance" p) [e,.Name "bool" p2] [] pos) Â Á:=by
 stop
  exact pX d h c a Zu ha (λZB s Y H N v u Q I f r q=>by
    cases f;obtain⟨t,rfl⟩:=r
    exact œ (q (s.toks+1))) g
def Lc{i:Bool}(d:Gl X "isinstance")(h:X.mg "isinstance"=none)(c:Gl X "bool")(a:X.mg "bool"=none)(ha:E X U e b i)
  (g:autoParam (Ä [e,.Name "bool" p2] X.env=(Á,Ö e X.env)::Ä [.Name "bool" p2] X.env) zra):E X U (.Call (.Name "isinstance" p) [e,.Name "bool" p2] [] pos) Â Â:=by
 stop
  exact pX d h c a Zu ha (λZB s Y H N v u Q I f r q=>by
    cases f;cases r
    exact ŋ (q s.toks)) g
def Ly{xs:List M}(f:Gl X "isinstance")(i:X.mg "isinstance"=none)(d:Gl X "list")(c:X.mg "list"=none)(ha:E X U e b xs)
  (h:autoParam (Ä [e,.Name "list" p2] X.env=(Á,Ö e X.env)::Ä [.Name "list" p2] X.env) zra):E X U (.Call (.Name "isinstance" p) [e,.Name "list" p2] [] pos) Â Â:=by
 stop
  exact pX f i d c Ym ha (λZB s Y H N v u Q I g r q=>by
    obtain⟨a,ys,rfl,sq,_,_⟩:=g;cases r;obtain⟨XP,k,pl,_⟩:=I.list sq;obtain⟨o,h1,h2,n,j⟩:=pl.isList
    exact call_isinstance (isinstance_true (Tx:="list") F.isi_meta_list AutoSeq1.sub_list_list) #[#[o,h1,h2],q s.toks]) h
end
def Sm(n:Nat)(i:Int):Prop:=i.natAbs<2^n
def Sm.bits(h:Sm n i):Ë i<=n:=by
 unfold Ë;split
 .exact XB _
 .rename_i hi
  have a:i.natAbs≠0:=by
   intro z;apply hi;simp;lia
  have:=(Nat.log2_lt a).mpr h;lia
def Sm.le(h:Sm m i)(l:m<=n):Sm n i:=Wx h (X_ .b l)
def Sm.ok(h:Sm m i)(h':Sm n j)(l:autoParam (m<=1048576) zrb)(a:autoParam (n<=1048576) zrb):Ċ i j:=IntMulOk.of_bits (W6 h.bits (W6 l .b)) (W6 h'.bits (W6 a .b))
def Sm.mul(h:Sm m i)(h':Sm n j):Sm (m+n) (i*j):=by
 unfold Sm at *;rw[Xd,Nat.pow_add];rcases ŭ j.natAbs with z|z
 .rw[z,Ϭ];exact Nat.mul_pos (Y9 _) (Y9 _)
 .exact Nat.mul_lt_mul_of_lt_of_le h (Xv h') (Y9 _)
def Sm.add(h:Sm m i)(h':Sm n j):Sm (max m n+1) (i+j):=by
 have h1:i.natAbs<2^max m n:=Wx h (X_ .b (Nat.le_max_left _ _));have h2:j.natAbs<2^max m n:=Wx h' (X_ .b (Nat.le_max_right _ _));have a:=Int.natAbs_add_le i j;unfold Sm;rw[ZP];lia
def Sm.neg(h:Sm m i):Sm m (-i):=by unfold Sm at *;rw[Int.natAbs_neg];exact h
def Sm.sub(h:Sm m i)(h':Sm n j):Sm (max m n+1) (i-j):=h.add h'.neg
def Sm.of_le(h:i.natAbs<=j.natAbs)(h':Sm n j):Sm n i:=YK h h'
def Sm.div(h:Sm n j)(a:j≠0)(l:autoParam (n<=9000) zrb):AO i j:=#[a,(Nat.log2_lt .a).mpr (Wx h (X_ .b l))]
def Sm.CK(h1:-(2^64)<i)(h2:i<2^64):Sm 64 i:=by unfold Sm;lia
def mulL(h1:-(2^64)<i)(h2:i<2^64):Ċ i j:=IT.ok (.inl #[h1,h2])
def mulR(h1:-(2^64)<j)(h2:j<2^64):Ċ i j:=IT.ok (.inr #[h1,h2])
def wL(h:autoParam (j≠0) zrb)(h2:autoParam (j.natAbs.log2<9000) zrb):AO i j:=#[h,h2]
def Rf(h:autoParam (0<=j) zrb)(h2:autoParam (j<=1000000) zrb)(a:autoParam (i.natAbs<2^64) zrb):FC i j:=#[h,h2,a]
def gM{k:Nat}{A:á}(a:dk k A):A.units+60<ù:=by have:=a.un;lia
structure Bu(mg:Í->Option Å):Prop where
 abs:mg "abs"=none
 len:mg "len"=none
 min:mg "min"=none
 max:mg "max"=none
 range:mg "range"=none
 isinstance:mg "isinstance"=none
 int:mg "int"=none
 bool:mg "bool"=none
 list:mg "list"=none
 tuple:mg "tuple"=none
 sum:mg "sum"=none
 all:mg "all"=none
 zip:mg "zip"=none
 enumerate:mg "enumerate"=none
 any:mg "any"=none
 sorted:mg "sorted"=none
 set:mg "set"=none
 str:mg "str"=none
 reversed:mg "reversed"=none
def d_{a b:Int}(h:0<b):0<=a.fmod b/\a.fmod b<b:=#[Zv a h,aae a h]
def Df(K:Ã)(x:Í)(st:Ð):Prop:=∃(f:Æ) (fd:ì),Ô K Ê x=À (À (.ref f))/\p8 K x x st f fd
def Df.mk{st:Ð}{f:Æ}{g:Å}{od h:Option Æ}{d:Array (Option Å)}{kV doc e b ct:Å}(a:Ô K Ê x=À (À (.ref f)))
  (l:K.lookup f=À #[g,od,.func (â x x (du st) (aU st) (ah st) .none kV doc e h b ct),d]) (c:ē K b x=Â) (k:ð K (.ref f)=Â):Df K x st:=#[f,_,a,Mh l c k]
def Nh{h:Ý}{mg:Í->Option Å}(X:K.In h)(G:h.Ns Ê mg)(n:Ô K Ê "abs"=À none)(m:Ô K Ê "len"=À none)(l:Ô K Ê "min"=À none)(o:Ô K Ê "max"=À none)
  (s:Ô K Ê "range"=À none) (p:Ô K Ê "isinstance"=À none) (q:Ô K Ê "int"=À none) (r:Ô K Ê "bool"=À none) (t:Ô K Ê "list"=À none) (c:Ô K Ê "tuple"=À none)
  (b:Ô K Ê "sum"=À none) (g:Ô K Ê "all"=À none) (j:Ô K Ê "zip"=À none) (k:Ô K Ê "enumerate"=À none) (f:Ô K Ê "any"=À none) (i:Ô K Ê "sorted"=À none) (a:Ô K Ê "set"=À none) (d:Ô K Ê "str"=À none) (e:Ô K Ê "reversed"=À none):Bu mg :=
 #[WC X G n,WC X G m,WC X G l,WC X G o,WC X G s,WC X G p,WC X G q,WC X G r,WC X G t,WC X G c,WC X G b,WC X G g,WC X G j,WC X G k,WC X G f,WC X G i,WC X G a,WC X G d,WC X G e]
section
variable{P:Ò}{w:Û}{K:Ã}{mg:Í->Option Å}{base h:Ý}{x:Í}{st:Ð}{N ps:List Í}{k:Nat}
def Df.N6{sp:Sp}(D:Df K x st)(X:K.In h)(G:h.Ns Ê mg)(d:∀(kV doc c:Å) (e:Option Æ) (b ct:Å) (us:List Å),us.length=ps.length->ĉ (â x x (du st) (aU st) (ah st) .none kV doc c e b ct) #[us,[]]=pure (ps.zip us))
  (ok:∀f fd,p8 K x x st f fd->⇑dY nQ k f fd ps sp):⇑aK k x ps sp:=by
 obtain⟨f,fd,a,F⟩:=D;exact#[f,fd,ok f fd F,F.binds d,F.kp,X4 X G a]
def ya(K:Ã):Sp:=dU K (fun(ns:List Int)=>ns.length<=63) Â (λ_=>Â)
theorem AM{K:Ã}{N:Nn}{H:Hp}:∀ns:List Int,Ø (λx (b:Int)=>Py.rp K N H x b) (ns.map V.int) ns
 |[]=>.nil
 |_::r=>.cons rfl (AM r)
def C2(K:Ã)(H:Hp)(a:Æ)(ns:List Int)(b:ns.length<=63)(c:dM K H a (ns.map V.int)):ya K [.ref a] H (λv _=>v=.bl Â) λ_ _ _=>False :=
 #[λ_=>False,.ref a,ns,λ_ z=>z.elim,rfl,by rw[JL];exact#[a,_,rfl,c,É,AM ns],b,λr H' _ z=>z]
def Jn{i:Æ}{j:Ò}(D:Df K "law" st)(X:K.In h)(G:h.Ns Ê mg)(g:mg "law"=À (.ref i))
  (m:∀(kV doc d:Å) (c:Option Æ) (b ct:Å) (s:Ç) (u:Å),Ģ s (â "law" "law" (du st) (aU st) (ah st) .none kV doc d c b ct) #[[u],[]] [(y,u)])
  (ok:∀base,K.In base->base.Ns Ê mg->∀f fd,p8 K "law" "law" st f fd->dY j w K mg base nQ k f fd [y] (ya K)):
  ∃fd:ì,(∀(s:Ç) (u:Å),Ģ s fd #[[u],[]] [(y,u)])/\∀base:Ý,K.In base->base.Ns Ê mg->dY j w K mg base nQ k i fd [y] (ya K):=by
 obtain⟨f,fd,a,F⟩:=D;have e:=g.symm.trans (X4 X G a);cases e;refine#[fd,?_,λbase l n=>ok base l n _ fd F];obtain⟨r,od,kV,doc,d,c,b,ct,p,rfl,q,o⟩:=F.ex;exact m kV doc d c b ct
end
def OH{M:Type}[Py M](K:Ã)(H0:Hp)(O:Æ->Prop)(b:Bool)(as:List M)(J:It)(H1:Hp):Prop :=
 ∀(H':Hp) (d:Æ->Prop),mh H' d->az (off H1 O) (off H' d)->(∀(i:Nat) (a:M),as[i]?=À a->J.go i H'/\∀x c,J.yld i H' x c->az H' c/\Py.rp K (Nf H0 b) (off c d) x a)/\J.stop as.length H'
def EI{M:Type}[Py M](X:Cx)(U:aF)(tg iter:Õ)(b:Bool)(as:List M):Prop:=∃wi,PI X tg iter wi /\
 ∀(Y:St) (H H0:Hp) (F O:Æ->Prop) (R:It->Hp->Prop),cU X.K H0 F O U Y H->(∀J H1,az H H1->OH X.K H0 O b as J H1->R J H1)->wi Y H R
def fA(lo c:Int)(n:Nat):List Int:=(Ú n).map λi:Nat=>lo+(i:Int)*c
def qM{c:Int}{i:Nat}{a:Int}(h:(fA lo c n)[i]?=À a):i<n/\a=lo+(i:Int)*c:=by
 unfold fA at h;rw[WJ] at h;by_cases hi:i<n
 .rw[Y6 hi] at h;exact#[hi,(Wj h).symm]
 .rw[ZI (by rw[YQ];lia)] at h;cases h
def bz(lo c:Int)(n:Nat):(fA lo c n).length=n:=by unfold fA;rw[V2,YQ]
section
variable{X:Cx}{U:aF}{M β:Type}[Py M][Py β]{e e1 e2 e3 tg:Õ}{b b1 b2 b3:Bool}
def bh{xs:List M}(he:E X U e b xs):EI X U tg e b xs:=by
 stop
  exact#[_,BP he,λY H H0 F O R Z q=>#[H0,F,O,Z,λv H1 g j=>by
   obtain⟨p,vs,e,sq,nn,f⟩:=j;refine#[p,e,#[vs,(aq _ _).seq sq],q _ H1 g λH' l _ c=>#[λi a ha=>?_,?_]]
   .obtain⟨x,h1,h2⟩:=lS f ha;refine#[#[vs,x,(aq _ _).seq (c.seq sq),h1],λy h d=>?_];obtain⟨k,d⟩:=d;subst k;have:=d vs ((aq _ _).seq (c.seq sq));rw[h1] at this;cases this;exact#[az.refl _,aw c h2]
   .exact#[vs,(aq _ _).seq (c.seq sq),by rw[bq f];exact V_ _]]]
def Cu{O:Æ->Prop}{H1:Hp}:OH K H0 O Â (fA lo 1 n) (JR lo n) H1:=λH' d _ e=>#[λi a ha=>by
 obtain⟨h1,h2⟩:=qM ha;refine#[h1,λx b c=>?_];obtain⟨e1,e2⟩:=c;subst e1 e2 h2
 exact#[az.refl _,by show V.int _=V.int _;rw[WO]],by show n<=_;rw[bz];exact V_ _]
def cO{n:Int}{p:é}(c:Gl X "range")(f:X.mg "range"=none)(he:E X U e b n)(h1:-(2^62)<=n)(h2:n<2^62)
  (d:autoParam (Ä [e] X.env=[(Á,Ö e X.env)]) zra) (a:autoParam (Ä [e] X.env=(Á,Ö e X.env)::Ä [] X.env) zra):EI X U tg (.Call (.Name "range" p) [e] [] ps) Â (fA 0 1 n.toNat):=by stop exact#[_,uL c f (aC he aZ a) d,λY H H0 F O R Z q=>#[H0,F,O,Z,λv H1 h g=>#[n,by cases g;rfl,h1,h2,q _ H1 h Cu]]]
def A9{D:GD}{pos:é}{body:List Ð}{g:TG}{tc:Nat->Prop}{put:Bool->M->aF->aF}{as:List M}(J:Nat->aF->Prop)(u:G X tg g M put tc)(he:EI X U tg e b as)(N:J 0 U)
  (I:∀(i:Nat) (a:M) U',as[i]?=À a->J i U'->S X (put b a U') body {D with nx:=J (i+1),ct:=J (i+1),bk:=λΓ2=>S X Γ2 rest D}) (y:∀U',J as.length U'->S X U' rest D)
  (z:autoParam (X.calm=Â) zra) (hp:Ă .E X.A X.env X.xe:=by exact Yt)
  (p:autoParam (∀x,Ù e X.env x=pure x) zrc):S X U (.For tg e body [] pos::rest) D:=by
 stop
  obtain⟨wi,hi,P⟩:=he;refine dy (dE (pb hp z hi u.1 (tb:=jT X body) gP p) λT Y H ⟨H0,F,O,Z,nx,r,bk,ct⟩=>?_);refine P Y H H0 F O _ Z λR H1 s XP=>?_;refine#[λi m Y' H'=>m=as.length-i/\i<=as.length/\∃U' h,az (off H1 O) (off H' h)/\cU X.K H0 F h U' Y' H'/\J i U',#[_,rfl,XB _,U,O,az.refl _,Z.go s,N],?_];rintro i m Y' H' ⟨rfl,C,U',h,n,t,j⟩;obtain⟨Q,v⟩:=XP H' h t.own n;by_cases k:i<as.length
  .have ha:as[i]?=À as[i]:=V7 k;obtain⟨go,E⟩:=Q i _ ha;refine .inr #[go,λσ2 H2=>∃Γ2 d,az (off H1 O) (off H2 d)/\cU X.K H0 F d Γ2 σ2 H2/\J (i+1) Γ2,λσ2 H2 q=>#[as.length-(i+1),.f,rfl,k,q],λx l B=>?_];obtain⟨o,L⟩:=E x l B;refine u.2 b as[i] H0 F h U' Y' l _ _ (t.go o) L λσ2 f _ _=>?_;refine#[_,_,I i _ U' ha j,H0,F,h,f,?_,r,?_,?_]
   .exact λΓ2 σ2 H2 d c f q=>#[Γ2,d,n.trans ((aj o).trans c),f,q]
   .exact λΓ2 σ2 H2 d c f q=>nx Γ2 σ2 H2 d ((aj s).trans (n.trans ((aj o).trans c))) f q
   .exact λΓ2 σ2 H2 d c f q=>#[Γ2,d,n.trans ((aj o).trans c),f,q]
  .have α:i=as.length:=by omega
   subst α;exact .inl #[v,nx U' Y' H' h ((aj s).trans n) t (y U' j)]
end
noncomputable def cB:Option (Option Bd)->Option Bd
 |some (À (@Bd.val _ _ b a))=>À (.val b a)
 |_=>none
def cΓ(U:aF)(tn:List Í)(js:List Nat):aF:=tn.map (λ_=>none)++js.map λj=>cB U[j]?
def MG{o:Option (Option Bd)}{g:Bd}(h:cB o=À g):o=À (À g)/\¬g.fe:=by
 unfold cB at h;split at h
 .cases h;exact#[rfl,λz=>z]
 .cases h
def Gh{U:aF}{i:Nat}{g:Bd}(h:(cΓ U tn js)[i]?=À (À g)):∃j,js[i-tn.length]?=À j/\tn.length<=i/\U[j]?=À (À g)/\¬g.fe/\(cσ Y tn js)[i]?=À ((Y[j]?).getD none):=by
 unfold cΓ at h;unfold cσ;by_cases hi:i<tn.length
 .rw[XS ↑hi,WJ] at h;cases q:tn[i]? with
  |none=>rw[q] at h;cases h
  |some y=>rw[q] at h;cases h
 .rw[Xu ↑hi,WJ,V2] at h;rw[Xu ↑hi,WJ,V2];cases q:js[i-tn.length]? with
  |none=>rw[q] at h;cases h
  |some j =>
   rw[q] at h;obtain⟨h1,h2⟩:=MG (Wj h);exact#[j,rfl,.a,h1,h2,rfl]
section
variable{K:Ã}{H0:Hp}{F O:Æ->Prop}{U:aF}{Y:St}{H:Hp}
def cU.fG(Z:cU K H0 F O U Y H)(tn:List Í)(js:List Nat):cU K H0 F O (cΓ U tn js) (cσ Y tn js) H where
 same:=Z.same
 fo:=Z.fo
 f0:=Z.f0
 own:=Z.own
 len:=by unfold cΓ cσ;simp
 at_:=λi g e n=>by
  obtain⟨j,h1,h2,b,a,d⟩:=Gh (Y:=Y) e;obtain⟨v,q1,c⟩:=Z.at_ j g b n;exact#[v,by rw[d,q1];rfl,c]
 dis:=#[λ_ _=>False,λ_ _ _ z=>z.elim,λ_ _ z=>z.elim,λi g e o=>by
  obtain⟨_,_,_,_,a,_⟩:=Gh (Y:=Y) e
  exact absurd o a]
def cU.ownIn{D:Æ}(Z:cU K H0 F O U Y H)(s:H D=none)(d:az H H')(l:H' D=À (.lst xs)):cU K H0 F (λp=>O p\/p=D) U Y H'/\az .F (off H' λp=>O p\/p=D):=by
 have f:az .F (off H' λp=>O p\/p=D):=λb o h=>by
  obtain⟨h1,h2⟩:=bE h;have t:b≠D:=λz=>by rw[z,s] at h2;cases h2
  rw[aN (by rintro(z|z);exact h1 z;exact t z)];exact d _ _ h2
 refine#[#[Z.same.trans d,λp h=>.inl (Z.fo p h),Z.f0,λp h=>?_,Z.len,λi g e n=>?_,?_],f]
 .rcases h with h|h
  .obtain⟨ys,q⟩:=Z.own p h;exact#[ys,d _ _ q]
  .subst h;exact#[.inl xs,l]
 .obtain⟨v,q1,c⟩:=Z.at_ i g e n;refine#[v,q1,?_];cases g with
  |val b a=>exact aw f c
  |own b as=>exact c
  |dpo a=>exact c
 .obtain⟨r,k,j,m⟩:=Z.dis;refine#[r,k,λi p h=>#[.inl (j i p h).1,(j i p h).2],λi g e o=>?_];obtain⟨v,q1,c⟩:=m i g e o;exact#[v,q1,Bd.LO c (λp ys _ z=>d _ _ z) f (λp z=>(j i p z).1) Z.own]
variable{X:Cx}{D:GD}{M β:Type}[Py M][Py β]{elt target iter c:Õ}{b b':Bool}{pos:é}{YP:ú}{tn:List Í}{js:List Nat}{g:TG}{tc:Nat->Prop}{put:Bool->M->aF->aF}{as:List M}{f:M->β}{p:M->Bool}{ifs:List Õ}
def PM(X:Cx)(tn:List Í)(js:List Nat)(YP:ú)(elt:Õ)(β:Type)[Py β](b:Bool):TE:=λY H Q=>∃U',∃v:β,(∀C s H fp,E .G U' elt b v)/\tV X.K U' b v Y H Q
@[irreducible] def FT(X:Cx)(U:aF)(ifs:List Õ)(c:Bool):Prop:=PF X ifs (L5 X.K U c)
def Pb(X:Cx)(tn:List Í)(js:List Nat)(YP:ú)(ifs:List Õ):TT:=λY H Q=>∃U' c,(∀C s H fp,FT .G U' ifs c)/\L5 X.K U' c Y H Q
def vz:FT X U [] Â:=by stop exact λZB s Y H Q I ⟨H0,F,O,Z,q⟩=>Mb ZB s Y H Q I (q H (az.refl _))
def rG{k:Bool}(h:T X U c k):FT X U [c] k:=by stop exact Mu h
def AJ{wi:TI}(hw:∀(Y:St) (H H0:Hp) (F O:Æ->Prop) (R:It->Hp->Prop),cU X.K H0 F O U Y H->(∀J H1,az H H1->OH X.K H0 O b as J H1->R J H1)->wi Y H R)
  (I:GP g M put tc X.K) (G:∀j,tc j->j<tn.length)
  (ht:∀(i:Nat) (a:M),as[i]?=À a->∀C s H fp,FT .G (put b a (cΓ U tn js)) ifs (p a))
  (hb:∀(i:Nat) (a:M),as[i]?=À a->p a=Â->∀C s H fp,E .G (put b a (cΓ U tn js)) elt b' (f a)) (V:as.length<=1000)
  {Y:St} {H:Hp} {Q:VK} {H0:Hp} {F O:Æ->Prop} (Z:cU X.K H0 F O U Y H) (q:∀v H',az H H'->Py.rp X.K (Nf H0 b') (off H' O) v ((as.filter p).map f)->Q v H'):
  M7 wi tn js g (Pb X tn js YP ifs) (PM X tn js YP elt β b') Y H Q:=by
 stop
  refine hw Y H H0 F O _ Z λJ H1 S XP D r=>?_;have N:=Z.go S
  refine#[λi m H' xs=>m=as.length-i/\i<=as.length/\az H1 H'/\H' D=À (.lst xs)/\Ø (λx a=>Py.rp X.K (Nf H0 b') (off H' λp=>O p\/p=D) x a) xs (((as.take i).filter p).map f),
   #[_,rfl,XB _,b7 r _,aE,.nil],?_]
  rintro i m H' xs ⟨rfl,hi,B,u,t⟩;refine#[u,?_];obtain⟨Γ,so⟩:=N.ownIn r B u;obtain⟨t1,σ⟩:=XP H' _ Γ.own so;by_cases k:i<as.length
  .have ha:as[i]?=À as[i]:=V7 k;have l:as.take (i+1)=as.take i++[as[i]]:=by rw[Z7,ha];rfl
   obtain⟨go,yl⟩:=t1 i _ ha;refine .inr #[go,λx n hy=>?_];obtain⟨d,rx⟩:=yl x n hy;refine I b as[i] H0 F _ (cΓ U tn js) (cσ Y tn js) n x _ ((Γ.go d).fG tn js) rx λσ2 T l2 k2=>?_;refine#[#[λj v W e=>?_,l2],_,_,ht i _ ha,H0,F,_,T,λH3 h=>?_]
   .rwa[k2 j λz=>absurd (G j z) (Y2.mpr W)]
   cases hp:p as[i] with
   |false =>
    refine tF #[as.length-(i+1),.a,rfl,k,B.trans (d.trans h),h _ _ (d _ _ u),?_];rw[l,ţ,Ÿ,hp];simp only[YL,YY,Ζ,Yq];exact aV (λ_ _ z=>aw (aj (d.trans h)) z) t
   |true =>
    refine oM #[_,_,hb i _ ha hp,H0,F,_,T.go h,λy H4 L ry=>?_];have α:H4 D=À (.lst xs):=L _ _ (h _ _ (d _ _ u));have P:(λp=>O p\/p=D) D:=.inr rfl;refine#[α,?_,as.length-(i+1),.a,rfl,k,?_,aE,?_]
    .have:=bq t;rw[V2] at this;have h2:=ZK p (as.take i);have h3:=Z4 i as;exact YK .a (bA V)
    .exact λc o z=>by
      have hc:c≠D:=λw=>by rw[w,r] at z;cases z
      rw[ax hc];exact L _ _ (h _ _ (d _ _ (B _ _ z)))
    .rw[jO P,l,ţ,Ÿ,hp];simp only[ZH,Ζ,Ya,Wb,Zc];exact oO (aV (λ_ _ z=>aw (aj (d.trans (h.trans L))) z) t) (.cons ry .nil)
  .have ei:i=as.length:=by lia
   subst ei;rw[XJ] at t;have A:off H' O D=À (.lst xs):=by rwa[aN (N.gg r)]
   refine .inl #[σ,q _ H' (S.trans B) #[D,xs,rfl,dM.of A,Nf.wk (N.g8 r) A,?_]]
   .exact aV (λ_ _ z=>aw (ja λ_ w=>.inl w) z) t
def zm{H:Hp}:PE .G elt (PM X tn js YP elt β b'):=by stop exact λZB s' Y H' Q I ⟨U',v,h,q⟩=>(show PE .G elt (tV X.K U' b' v) from h C s H fp) ZB s' Y H' Q I q
def u5{H:Hp}:PF .G ifs (Pb X tn js YP ifs):=by stop exact λZB s' Y H' Q I ⟨U',c,h,q⟩=>(show PF .G ifs (L5 X.K U' c) from h C s H fp) ZB s' Y H' Q I q
def nK(tn:List Í)(js:List Nat)(S:e7 X YP tn js)(he:EI X U target iter b as)(d:GP g M put tc X.K)(l:∀C s H fp,PG .G target g)(c:∀j,tc j->j<tn.length)
  (k:∀(i:Nat) (a:M),as[i]?=À a->∀C s H fp,FT .G (put b a (cΓ U tn js)) ifs (p a))
  (m:∀(i:Nat) (a:M),as[i]?=À a->p a=Â->∀C s H fp,E .G (put b a (cΓ U tn js)) elt b' (f a)) (e:as.length<=1000) (h:autoParam (X.calm=Â) zra)
  (n:autoParam (∀x,Ù iter X.env x=pure x) zrc):E X U (.ListComp elt [#[target,iter,ifs,0]] YP pos) b' ((as.filter p).map f):=by stop obtain⟨wi,hi,o⟩:=he;exact aG (GO S h hi (λC s H fp=>#[l C s H fp,u5,zm]) n) λY H Q ⟨H0,F,O,Z,q⟩=>AJ o d c k m e Z q
def bC(tn:List Í)(js:List Nat)(S:e7 X YP tn js)(he:EI X U target iter b as)(d:GP g M put tc X.K)(l:∀C s H fp,PG .G target g)(c:∀j,tc j->j<tn.length)
  (m:∀(i:Nat) (a:M),as[i]?=À a->∀C s H fp,E .G (put b a (cΓ U tn js)) elt b' (f a)) (e:as.length<=1000) (k:autoParam (X.calm=Â) zra)
  (n:autoParam (∀x,Ù iter X.env x=pure x) zrc):E X U (.ListComp elt [#[target,iter,[],0]] YP pos) b' (as.map f):=by stop have h:=nK (pos:=pos) (p:=λ_=>Â) tn js S he d l c (λi a _ C s H fp=>vz) (λi a ha _=>m i a ha) e k n;rwa[Z5.mpr (λ_ _=>rfl)] at h
def Be(i:Nat){py c:é}(u:X.N.Nodup)(tn:List Í)(js:List Nat)(A:e7 X YP tn js)(he:EI X U target iter b as)(e:GP g M put tc X.K)(r:∀C s H fp,PG .G target g)(d:∀j,tc j->j<tn.length)
  (B:∀(i:Nat) (a:M),as[i]?=À a->∀C s H fp,FT .G (put b a (cΓ U tn js)) ifs (p a))
  (w:∀(i:Nat) (a:M),as[i]?=À a->p a=Â->∀C s H fp,E .G (put b a (cΓ U tn js)) elt b' (f a)) (o:as.length<=1000)
  (h:S X (U.set i (À (.val b' ((as.filter p).map f)))) rest D) (l:autoParam (X.N[i]?=À y) zra) (t:autoParam (Loc X.env.scope y) zri)
  (z:autoParam (X.fn y=Â\/X.env.scope.names.lookup y=À .local) zrd) (q:autoParam (X.calm=Â) zra)
  (k:autoParam (ï (.ListComp elt [#[target,iter,ifs,0]] YP pos) (À (.Name y py)) c.line X.env=pure Â) zra)
  (I:autoParam (∀x,Ù iter X.env x=pure x) zrc):EP.S X U (.Assign [.Name y py] (.ListComp elt [#[target,iter,ifs,0]] YP pos) c::rest) D:=by stop obtain⟨wi,hi,G⟩:=he;exact dy (dE (FJ u l t z A q hi (λC s H fp=>#[r C s H fp,u5,zm]) k I) λL Y H ⟨H0,F,O,Z,n,_⟩=>AJ G e d B w o Z λv H1 m J=>n _ _ H1 O (aj m) ((Z.go m).set J) h)
def lZ(i:Nat){py c:é}(t:X.N.Nodup)(tn:List Í)(js:List Nat)(m:e7 X YP tn js)(he:EI X U target iter b as)(k:GP g M put tc X.K)(q:∀C s H fp,PG .G target g)(e:∀j,tc j->j<tn.length)
  (u:∀(i:Nat) (a:M),as[i]?=À a->∀C s H fp,E .G (put b a (cΓ U tn js)) elt b' (f a)) (n:as.length<=1000)
  (h:S X (U.set i (À (.val b' (as.map f)))) rest D) (l:autoParam (X.N[i]?=À y) zra) (r:autoParam (Loc X.env.scope y) zri)
  (w:autoParam (X.fn y=Â\/X.env.scope.names.lookup y=À .local) zrd) (o:autoParam (X.calm=Â) zra)
  (d:autoParam (ï (.ListComp elt [#[target,iter,[],0]] YP pos) (À (.Name y py)) c.line X.env=pure Â) zra)
  (v:autoParam (∀x,Ù iter X.env x=pure x) zrc):EP.S X U (.Assign [.Name y py] (.ListComp elt [#[target,iter,[],0]] YP pos) c::rest) D:=by stop refine Be (p:=λ_=>Â) i t tn js m he k q e (λi a _ C s H fp=>vz) (λi a ha _=>u i a ha) n ?_ l r w o d v;rw[Z5.mpr (λ_ _=>rfl)];exact h
end
theorem rN:∀{bs:List Bool} {us:List Å},Vals (bs.map V.bl) us->LSm.BoolsAre us bs
 |[],_,h=>by cases h;exact .nil
 |b::r,_,h=>by
  cases h with
  |cons h1 h2=>cases h1;exact .cons b (rN h2)
section
variable{X:Cx}
def CA(g:X.calm=Â):gJ X (.builtin "all") (λxs H Q=>∃p,∃bs:List Bool,xs=[.ref p]/\dM X.K H p (bs.map V.bl)/\Q (.bl (bs.all id)) H):=by
 intro ZB s Y H xs us Q I r h;obtain⟨p,bs,rfl,sq,q⟩:=h;obtain⟨u,rfl,l⟩:=vals1 r;cases l;obtain⟨XP,m,pl,_⟩:=I.list sq;have d:=rN m;have a:=pl.isList;have c:p<s.heap.objs.size:=by obtain⟨_,e,_⟩:=a;exact Wg e
 refine call_all_walk (aan a ?_)
 refine#[s.heap.objs.size,[s.heap.objs.size,p],[s.heap.objs.size],XP.toArray.size,_,_,λi=>(bs[i]?).getD Â,rfl,ϝ (A:=X.A.in1) (I.ok.hd g) _ p (WQ c) XP.toArray,
  #[#[_,WS _ rfl,rfl,rfl],a.push _],λi v s' n E' k f=>?_,λh' tk j=>?_]
 .obtain⟨b,e,rfl⟩:=d.get i v ↑k;simp only[e,Y1] at f;exact Xp f
 .have e:((Ú XP.toArray.size).all λi=>(bs[i]?).getD Â)=bs.all id:=by
   rw[Wy,d.length];exact LSm.range_all bs
  rw[e];exact#[.bl _,H,I.kept (ϓ j),rfl,q]
def Cf(c:X.calm=Â):gJ X (.builtin "sum") (λxs H Q=>∃p,∃ns:List Int,xs=[.ref p]/\dM X.K H p (ns.map V.int)/\Q (.int ns.sum) H):=by
 intro ZB s Y H xs us Q I r h;obtain⟨p,ns,rfl,sq,q⟩:=h;obtain⟨u,rfl,d⟩:=vals1 r;cases d;obtain⟨XP,f,pl,_⟩:=I.list sq;have hi:=intsAre_of f;obtain⟨ys,b⟩:=hi.allInts.items;have a:s.heap.IsList p (intItems ys):=b▸pl.isList;refine sum_intListG (I.ok.hd c) a λh' tk t' e=>?_
 have e1:ns=ys.toList.map (·.1):=by
  rw[<-Ő,<-b];exact(show numsOf XP.toArray.toList=ns from hi.numsOf).symm
 have e2:preSum (numAt ys) ys.size=ns.sum:=by
  rw[preSum_eq,XD .c,e1]
 rw[e2];exact#[.int _,H,I.kept e,#[_,rfl],q]
end
theorem Fx{K:Ã}{N:Nn}{H:Hp}:∀{xs:List V} {bs:List Bool},Ø (λx (b:Bool)=>Py.rp K N H x b) xs bs->xs=bs.map V.bl
 |_,_,.nil=>rfl
 |_,_,.cons h t=>by rw[show _=V.bl _ from h,Fx t];rfl
theorem wj{K:Ã}{N:Nn}{H:Hp}:∀{xs:List V} {bs:List Int},Ø (λx (b:Int)=>Py.rp K N H x b) xs bs->xs=bs.map V.int
 |_,_,.nil=>rfl
 |_,_,.cons h t=>by rw[show _=V.int _ from h,wj t];rfl
section
variable{X:Cx}{U:aF}{M β γ:Type}[Py M][Py β][Py γ]{e e1 e2 e3:Õ}{b b1 b2 b3:Bool}{pos:é}
def pM{bs:List Bool}{p:é}(c:X.calm=Â)(d:Gl X "all")(f:X.mg "all"=none)(ha:E X U e b bs)(a:autoParam (Ä [e] X.env=(Á,Ö e X.env)::Ä [] X.env) zra):E X U (.Call (.Name "all" p) [e] [] pos) Â (bs.all id):=by
 stop
  exact aG (da (CA c) d f PyProof.Rows.boot_all (aC ha aZ a) (he:=a)) λY H Q ⟨H0,F,O,S,q⟩=>#[H0,F,O,S,λv H1 h g=>by
    obtain⟨p,vs,e,sq,n,r⟩:=g;rw[Fx r] at sq
    exact#[p,bs,by rw[e],(aq _ _).seq sq,q _ H1 h rfl]]
def xQ{ns:List Int}{p:é}(c:X.calm=Â)(d:Gl X "sum")(f:X.mg "sum"=none)(ha:E X U e b ns)(a:autoParam (Ä [e] X.env=(Á,Ö e X.env)::Ä [] X.env) zra):E X U (.Call (.Name "sum" p) [e] [] pos) Â ns.sum:=by
 stop
  exact aG (da (Cf c) d f PyProof.Rows.boot_sum (aC ha aZ a) (he:=a)) λY H Q ⟨H0,F,O,S,q⟩=>#[H0,F,O,S,λv H1 h g=>by
    obtain⟨p,vs,e,sq,n,r⟩:=g;rw[wj r] at sq
    exact#[p,ns,by rw[e],(aq _ _).seq sq,q _ H1 h rfl]]
def mf{xs:List M}{p:é}(h:Gl X "list")(i:X.mg "list"=none)(ha:E X U e b xs)(g:autoParam (Ä [e] X.env=(Á,Ö e X.env)::Ä [] X.env) zra):E X U (.Call (.Name "list" p) [e] [] pos) b xs:=by
 stop
  exact aG (lh jH h i Ym (aC ha aZ g) (he:=g)) λY H Q ⟨H0,F,O,S,q⟩=>#[H0,F,O,S,λv H1 a j=>by
    obtain⟨p,vs,e,sq,n,r⟩:=j;refine#[p,vs,by rw[e],.inl ((aq _ _).seq sq),λl c=>?_];obtain⟨f,d⟩:=cq (xs:=vs) (S.go a) c
    exact q _ _ (a.trans f) #[l,vs,rfl,dM.of d,Nf.wk ((S.go a).g8 c) d,aV (λ_ _ z=>aw (aj f) z) r]]
def y6{xs:List M}{k:Int}{p2:é}(ha:E X U e1 b xs)(o:E X U e2 b2 k)(t:0<=k):E X U (.Subscript e1 (.Slice (À e2) none none p2) pos) b (xs.drop k.toNat):=by
 stop
  exact aG (nZ qD ha (qr o) qF) λY H Q ⟨H0,F,O,S,q⟩=>#[H0,F,O,S,λv H1 c s=>#[H0,F,O,S.go c,λw H2 a j=>by
    obtain⟨p,vs,e,sq,n,r⟩:=s;refine#[k,j,p,vs,e,(aq _ _).seq ((aj a).seq sq),λl f=>?_];obtain⟨h,g⟩:=cq (xs:=ko vs (À k) none) ((S.go c).go a) f;refine q _ _ (c.trans (a.trans h)) #[l,_,rfl,dM.of g,Nf.wk (((S.go c).go a).g8 f) g,?_]
    have ec:ko vs (À k) none=vs.drop k.toNat:=by
     unfold ko;have m:k=((k.toNat:Nat):Int):=by lia
     rw[m,HT.qi,HT.ot];simp only[Wm];by_cases d:k.toNat<=vs.length
     .rw[ZQ d,XD (by rw[XC];exact V_ _)]
     .rw[ZD .a,YO (V_ _),YO .a];simp
    have i:=aV (λ_ _ z=>aw ((aj a).trans (aj h)) z) (uY k.toNat r);rw[<-ec] at i
    exact i]]
end
noncomputable def O9(a:ú)(N:List Í)(YP:ú)(js:List Nat):Bool :=
 (YP.kind==.function)&&YP.names.all (λx=>(!(x.2==.local) || YP.names.lookup x.1==À .local)&&(!(x.2==.free) || (YP.names.lookup x.1==À .free&&(a.names.lookup x.1==À .cell || a.names.lookup x.1==À .free)))&&YP.names.all (λy=>!(x.1==y.1) || x.2==y.2)) &&
  js.all (λj=>match N[j]? with|some x=>YP.names.lookup x==À .free|none=>Á)
def aX{YP:ú}(b:ú)(N:List Í)(h1:X.env.scope=b)(h2:X.N=N)(h:O9 b N YP js=Â):e7 X YP tn js:=by
 subst h1 h2;unfold O9 at h;simp only[WA,WB] at h;obtain⟨⟨k,ha⟩,g⟩:=h;refine#[↑k,λx a e=>?_,λx a e=>?_,λx a y i e=>?_,λj c=>?_]
 .obtain⟨⟨h1,h2⟩,f⟩:=ha x a;simpa [e] using h1
 .obtain⟨⟨h1,h2⟩,f⟩:=ha x a;have d:(YP.names.lookup x.1==À .free&&(X.env.scope.names.lookup x.1==À .cell || X.env.scope.names.lookup x.1==À .free))=Â:=by simpa [e] using h2
  obtain⟨q1,l⟩:=Xh.mp d;refine#[↑q1,?_];rcases Bool.or_eq_true_iff.mp l with z|z
  .exact .inl (show X.env.scope.names.lookup x.1=_ by simpa using z)
  .exact .inr (show X.env.scope.names.lookup x.1=_ by simpa using z)
 .obtain⟨⟨h1,h2⟩,f⟩:=ha x a;have:=f y i;simpa [e] using this
 .have:=g j c;split at this
  .rename_i x a;exact#[x,a,↑this]
  .cases this
theorem zl{env:ė}{x:Í}:∀(names:List (Í×ë)),(names.map fun(n,k)=>if (k==Ü&&env.scope.kind==.function&&env.kindOf n==À .cell) then (n,Þ) else (n,k)).lookup x =
  (names.lookup x).map λk=>if (k==Ü&&env.scope.kind==.function&&env.kindOf x==À .cell) then Þ else k
 |[]=>rfl
 | (n,k) :: r=>by
  have b:=zl (env:=env) (x:=x) r;by_cases e:x=n
  .subst e
   cases a:(k==Ü&&env.scope.kind==.function&&env.kindOf x==À .cell) <;>
    simp only[a,Wb,Yj,ZA,ZH,ZR,YL,YY]
  .have c:(x==n)=Á:=by simpa using e
   cases a:(k==Ü&&env.scope.kind==.function&&env.kindOf n==À .cell) <;>
    simp only[a,c,Wb,Yj,ZH,YL,YY]<;>exact b
def mE{env:ė}{names:List (Í×ë)}(h:names.lookup x=À .cell):(names.map fun(n,k)=>if (k==Ü&&env.scope.kind==.function&&env.kindOf n==À .cell) then (n,Þ) else (n,k)).lookup x=À .cell:=by
 rw[zl,h];rfl
def bD{YP:ú}{pos:é}(i:Nat)(N:List Í)(h:autoParam (cN X tn js=N) zra)(b:autoParam (N.Nodup) zrh)(hi:autoParam (N[i]?=À x) zra)
  (a:autoParam (YP.names.lookup x=À .local\/YP.names.lookup x=À .cell) zrd):PG .G (.Name x pos) (kF i):=by
 refine nk (show(cN X tn js).Nodup by rwa[h]) (show(cN X tn js)[i]?=À x by rwa[h]) ?_ ?_
 .rcases a with z|z
  .exact .inl (Β z)
  .exact .inr (mE z)
 .rcases a with z|z
  .exact .inr (Β z)
  .refine .inl ?_;show(match YP.names.lookup x with|some .cell=>Â|_=>Á)=Â;rw[z]
def aP{i:Nat}(h:autoParam (i<n) zrb):∀j,j=i->j<n:=λj e=>by rw[e];exact h
section
variable{K:Ã}{H0:Hp}{F O:Æ->Prop}{U:aF}{Y:St}{H H':Hp}
def cU.zF{i:Nat}(Z:cU K H0 F O U Y H)(s:az H H')(N:Æ->Prop)(d:∀q,N q->H q=none/\∃xs:Mt,H' q=À (mo xs))(g:Bd)(A:g.fe)(y:g.wQ K H0 (λp=>O p\/N p) H' N v):
  cU K H0 F (λp=>O p\/N p) (U.set i (À g)) (Y.set i (À v)) H'/\az .F (off H' λp=>O p\/N p):=by
 have t:az .F (off H' λp=>O p\/N p):=λb o h=>by
  obtain⟨h1,h2⟩:=bE h;have B:¬N b:=λz=>by rw[(d b z).1] at h2;cases h2
  rw[aN (by rintro(z|z);exact h1 z;exact B z)];exact s _ _ h2
 refine#[#[Z.same.trans s,λp h=>.inl (Z.fo p h),Z.f0,λp h=>?_,by rw[WX,WX];exact Z.len,λj g' e n=>?_,?_],t]
 .rcases h with h|h
  .obtain⟨ys,q⟩:=Z.own p h;exact#[ys,s _ _ q]
  .exact(d p h).2
 .by_cases c:j=i
  .subst c;obtain⟨x,u⟩:=get_set_some e;subst u;exact absurd A n
  .rw[get_set_ne c] at e;obtain⟨w,q1,f⟩:=Z.at_ j g' e n;refine#[w,by rw[get_set_ne c];exact q1,?_];cases g' with
   |val b a=>exact aw t f
   |own b as=>exact f
   |dpo a=>exact f
 .obtain⟨D,C,l,E⟩:=Z.dis;refine#[λj q=>(j=i/\N q)\/(j≠i/\D j q),λj k q h1 h2=>?_,λj q h=>?_,λj g' e o=>?_]
  .rcases h1 with⟨e1,m⟩|⟨e1,m⟩<;>rcases h2 with⟨e2,r⟩|⟨e2,r⟩
   .rw[e1,e2]
   .exact absurd (l k q r).1 (Z.gg (d q m).1)
   .exact absurd (l j q m).1 (Z.gg (d q r).1)
   .exact C j k q m r
  .rcases h with⟨_,n⟩|⟨_,n⟩
   .exact#[.inr n,Z.g8 (d q n).1]
   .exact#[.inl (l j q n).1,(l j q n).2]
  .by_cases c:j=i
   .subst c;obtain⟨x,u⟩:=get_set_some e;subst u;refine#[v,get_set_eq (by rwa[Z.len]),?_];have:(λq=>(j=j/\N q)\/(j≠j/\D j q))=N:=funext λq=>propext #[λz=>by rcases z with⟨_,z⟩|⟨z,_⟩;exact z;exact absurd rfl z,λz=>.inl #[rfl,z]];show Bd.wQ K H0 (λp=>O p\/N p) H' (λq=>(j=j/\N q)\/(j≠j/\D j q)) v g;rwa[this]
   .rw[get_set_ne c] at e;obtain⟨w,q1,f⟩:=E j g' e o;refine#[w,by rw[get_set_ne c];exact q1,?_];have:(λq=>(j=i/\N q)\/(j≠i/\D j q))=D j:=funext λq=>propext #[λz=>by rcases z with⟨z,_⟩|⟨_,z⟩;exact absurd z c;exact z,λz=>.inr #[c,z]];show Bd.wQ K H0 (λp=>O p\/N p) H' (λq=>(j=i/\N q)\/(j≠i/\D j q)) w g';rw[this];exact Bd.LO f (λp ys _ z=>s _ _ z) t (λp z=>(l j p z).1) Z.own
def cU.vV{i:Nat}{g:Bd}(Z:cU K H0 F O U Y H)(t:U[i]?=À (À g))(C:g.fe):∃v D,Y[i]?=À (À v)/\g.wQ K H0 O H D v/\(∀p,D p->O p/\H0 p=none) /\
  ∀(p:Æ) (ys:Mt) (g':Option Bd),D p->(∀d,g'=À d->d.fe/\d.wQ K H0 O (upd H p (mo ys)) D v)->cU K H0 F O (U.set i g') Y (upd H p (mo ys))/\off (upd H p (mo ys)) O=off H O:=by
 obtain⟨D,A,m,B⟩:=Z.dis;obtain⟨v,q1,E⟩:=B i g t C;refine#[v,D i,q1,E,m i,λp ys g' hp h=>?_];have u:=(m i p hp).1;have x:=jO (H:=H) (o:=mo ys) u;refine#[#[λb o z=>?_,Z.fo,Z.f0,λb G=>?_,by rw[WX];exact Z.len,λj c e n=>?_,D,A,m,λj c e o=>?_],x]
 .have:b≠p:=λw=>by rw[w,(m i p hp).2] at z;cases z
  rw[ax this];exact Z.same _ _ z
 .by_cases l:b=p
  .subst l;exact#[ys,aE]
  .rw[ax l];exact Z.own b G
 .by_cases f:j=i
  .subst f;have r:j<U.length:=(Wd.mp t).1;rw[get_set_eq r] at e;have y:g'=À c:=Wj e;exact absurd (h c y).1 n
  .rw[get_set_ne f] at e;obtain⟨w,s,k⟩:=Z.at_ j c e n;refine#[w,s,?_];cases c with
   |val b a =>
    show Py.rp K _ (off (upd H p _) O) w a;rwa[x]
   |own b as=>exact k
   |dpo a=>exact k
 .by_cases f:j=i
  .subst f;have r:j<U.length:=(Wd.mp t).1;rw[get_set_eq r] at e;have y:g'=À c:=Wj e;exact#[v,q1,(h c y).2]
  .rw[get_set_ne f] at e;obtain⟨w,s,k⟩:=B j c e o;refine#[w,s,Bd.LO k (λq xs I z=>?_) (by rw[x];exact az.refl _) (λq z=>(m j q z).1) Z.own];have:q≠p:=λw=>f (A j i q I (w▸hp));rwa[ax this]
def cU.write{i:Nat}{g:Bd}(Z:cU K H0 F O U Y H)(h:U[i]?=À (À g))(e:g.fe):∃v D,Y[i]?=À (À v)/\g.wQ K H0 O H D v/\(∀p,D p->O p/\H0 p=none) /\
  ∀(p:Æ) (ys:List V) (g':Option Bd),D p->(∀d,g'=À d->d.fe/\d.wQ K H0 O (upd H p (.lst ys)) D v)->cU K H0 F O (U.set i g') Y (upd H p (.lst ys))/\off (upd H p (.lst ys)) O=off H O:=by
 obtain⟨v,D,a,b,c,f⟩:=Z.vV h e;exact#[v,D,a,b,c,λp ys=>f p (.inl ys)]
def cU.freeze{i:Nat}{g g':Bd}(Z:cU K H0 F O U Y H)(E:U[i]?=À (À g))(C:g.fe)(J:¬g'.fe)
  (G:∀(D c:Æ->Prop) v,g.wQ K H0 O H D v->(∀p,D p->H0 p=none/\¬c p)->az .F (off H c)->(∀p xs,Rt H p xs->Rt (off H c) p xs)->g'.ok K H0 c H v):
  ∃c,cU K H0 F c (U.set i (À g')) Y H/\az .F (off H c):=by
 obtain⟨D,A,m,B⟩:=Z.dis;obtain⟨v,q1,I⟩:=B i g E C;have s:az .F (off H λp=>O p/\¬D i p):=ja λp h=>h.1;refine#[λp=>O p/\¬D i p,#[Z.same,λp h=>#[Z.fo p h,λz=>?_],Z.f0,λp h=>Z.own p h.1,by rw[WX];exact Z.len,λj d e n=>?_,λj q=>j≠i/\D j q,λj k q h1 h2=>A j k q h1.2 h2.2,λj q h=>#[#[(m j q h.2).1,λz=>h.1 (A j i q h.2 z)],(m j q h.2).2],λj d e o=>?_],s]
 .obtain⟨xs,w⟩:=Z.f0 p h;rw[(m i p z).2] at w;cases w
 .by_cases f:j=i
  .subst f;obtain⟨_,y⟩:=get_set_some e;subst y;refine#[v,q1,G (D j) _ v I (λp z=>#[(m j p z).2,λw=>w.2 z]) s λp xs q=>?_]
   have hp:∀u,(H p=À (.tup u)\/∃o,H p=À (.frz o (.tup u)))->¬(O p/\¬D j p):=λu z w=>by
    obtain⟨ys,t⟩:=Z.own p w.1;rcases z with z|⟨o,z⟩
    .rw[z] at t;rcases ys with ys|ys|ys<;>cases t
    .rw[z] at t;rcases ys with ys|ys|ys<;>cases t
   have r:=hp xs q.rd;rcases q with q|⟨o,q⟩
   .exact .inl (by rwa[aN r])
   .exact .inr #[o,by rwa[aN r]]
  .rw[get_set_ne f] at e;obtain⟨w,x,l⟩:=Z.at_ j d e n;refine#[w,x,?_];cases d with
   |val b a=>exact aw s l
   |own b as=>exact l
   |dpo a=>exact l
 .have f:j≠i:=by
   rintro rfl;obtain⟨_,y⟩:=get_set_some e;subst y;exact J o
  rw[get_set_ne f] at e;obtain⟨w,x,l⟩:=B j d e o;refine#[w,x,?_];have:(λq=>j≠i/\D j q)=D j:=funext λq=>propext #[λz=>z.2,λz=>#[f,z]];show Bd.wQ K H0 (λp=>O p/\¬D i p) H (λq=>j≠i/\D j q) w d;rw[this];exact Bd.LO l (λp ys _ z=>z) s (λp z=>(m j p z).1) Z.own
def Ml{M:Type}[Py M]{as:List M}{D a:Æ->Prop}(h:(Bd.own b as).wQ K H0 O H D v)(d:∀p,D p->H0 p=none/\¬a p)(f:az .F (off H a)):(Bd.val b as).ok K H0 a H v:=by
 obtain⟨p,xs,e,o,q,r⟩:=h;have c:off H a p=À (.lst xs):=by rwa[aN (d p o).2]
 exact#[p,xs,e,dM.of c,Nf.wk (d p o).1 c,aV (λ_ _ z=>aw f z) r]
def LS{M:Type}[Py M]{a:M}{D b:Æ->Prop}(h:(Bd.dpo a).wQ K H0 O H D v)(d:∀p,D p->H0 p=none/\¬b p)(f:∀p xs,Rt H p xs->Rt (off H b) p xs):(Bd.val Â a).ok K H0 b H v:=by
 refine Py.tr (λp xs q n=>?_) f h;obtain⟨e,g⟩:=n;have c:off H b p=À (mo xs):=by rw[aN (d p e).2];exact g
 exact#[Mo.of c,(d p e).1,c]
variable{X:Cx}{D:GD}{M β γ:Type}[Py M][Py β][Py γ]{e e1 e2:Õ}{b b1 b2:Bool}{pos:é}{rest st:List Ð}
def ET(i:Nat)(M:Type)[Py M]{p p2:é}(f:X.N.Nodup)(h:S X (U.set i (À (.own Â ([]:List M)))) rest D)(hi:autoParam (X.N[i]?=À x) zra)(b:autoParam (Loc X.env.scope x) zri)
  (j:autoParam (ï (.List [] p2) (À (.Name x p)) pos.line X.env=pure Á) zra) (d:autoParam (X.fn x=Â\/X.env.scope.names.lookup x=À .local) zrd):S X U (.Assign [.Name x p] (.List [] p2) pos::rest) D:=by
 stop
  exact dy (dE (sA f hi b (zD aZ) j d) λk Y H ⟨H0,F,O,Z,n,_⟩=>#[XB _,λq a=>by
    obtain⟨c,g⟩:=Z.zF (i:=i) (v:=.ref q) (b7 a (.lst [])) (·=q) (λr e=>by subst e;exact#[a,.inl [],aE]) (Bd.own Â ([]:List M)) É ⟨q,[],rfl,rfl,aE,.nil⟩
    exact n _ _ _ _ g c h])
def mW(i:Nat){as:List M}{a:M}{p ap cp:é}(B:U[i]?=À (À (.own b as)))(he:E X U e b a)(I:as.length<=1000)(h:S X (U.set i (À (.own b (as++[a])))) rest D)(hi:autoParam (X.N[i]?=À x) zra)
  (J:autoParam (Hq X.env.scope x) zre) (K:autoParam ((x==("__debug__":Í))=Á) zrb) (A:autoParam ((x==("__classdict__":Í))=Á) zrb)
  (d:autoParam (Ā (.Name x p) "append" X.env (Ö (.Name x p) X.env)=Ö (.Name x p) X.env) zra)
  (l:((æ cp (Ä [e] X.env)).all (λx=>!x.1)&&(Ń cp (Ĝ [] X.env)).all (λx=>x.1.isSome)
   && decide (([e]:List Õ).length+([]:List Ď).length+(if ([]:List Ď).isEmpty then 0 else 1)<30))=Â:=by rfl)
  (f:autoParam ((ap.endLine==cp.line)=Â) zra) (C:autoParam (Ä [e] X.env=(Á,Ö e X.env)::Ä [] X.env) zra) (c:autoParam ((æ cp (Ä [] X.env)).any (·.1)=Á) zra)
  (u:autoParam (ï (.Call (.Attribute (.Name x p) "append" ap) [e] [] cp) none pos.line X.env=pure Á) zra):
  S X U (.Expr (.Call (.Attribute (.Name x p) "append" ap) [e] [] cp) pos::rest) D:=by
 stop
  exact dy (dE (qu (J4 aaK PySem.F.slot_list_append PySem.F.type_list_append t_ (pv i hi J K A) (aC he aZ C) d l f C c) u) λDe Y H ⟨H0,F,O,Z,n,_⟩=>by
    obtain⟨v,Di,k,⟨q,xs,r,α,g,s⟩,_,_⟩:=Z.write B É;subst r;refine#[.ref q,k,.inl #[rfl,xs,dM.of g],H0,F,O,Z,λy H2 o Q=>#[q,xs,y,rfl,rfl,o _ _ g,?_,?_]]
    .rw[bq s];exact bA I
    .obtain⟨R,D',j,⟨q',m,P,t,T,G⟩,w,wr⟩:=(Z.go o).write B É;rw[k] at j;have ev:V.ref q=R:=by injection j with z;injection z
     subst ev;cases P
     have ex:m=xs:=by
      have:=o _ _ g;rw[T] at this;cases this;rfl
     subst ex
     obtain⟨Γ,W⟩:=wr q (m++[y]) (À (.own b (as++[a]))) t λL σ=>by
      cases σ;refine#[É,q,_,rfl,t,aE,?_];rw[jO (w q t).1];exact oO G (.cons Q .nil)
     exact n _ _ _ _ (by rw[W];exact aj o) Γ h)
def BI{g g':Bd}(i:Nat)(j:U[i]?=À (À g))(f:g.fe)(m:¬g'.fe)
  (k:∀(H0 H:Hp) (O D a:Æ->Prop) v,g.wQ X.K H0 O H D v->(∀p,D p->H0 p=none/\¬a p)->az .F (off H a)->(∀p xs,Rt H p xs->Rt (off H a) p xs)->g'.ok X.K H0 a H v)
  (h:S X (U.set i (À g')) st D):S X U st D:=by
 stop
  exact pj h λo Y H ⟨H0,F,O,Z,n,r,bk,ct⟩=>by
   obtain⟨a,e,d⟩:=Z.freeze j f m λl a v=>k H0 H O l a v;exact#[H0,F,a,e,λΓ2 σ2 H2 c b=>n Γ2 σ2 H2 c (d.trans b),r,λΓ2 σ2 H2 c b=>bk Γ2 σ2 H2 c (d.trans b),λΓ2 σ2 H2 c b=>ct Γ2 σ2 H2 c (d.trans b)]
def gT(i:Nat){as:List M}(e:U[i]?=À (À (.own b as)))(h:S X (U.set i (À (.val b as))) st D):S X U st D:=by stop exact BI (g':=.val b as) i e É (λz=>z) (λH0 H O f g v d c a _=>Ml d c a) h
def El(i:Nat){a:M}(d:U[i]?=À (À (.dpo a)))(h:S X (U.set i (À (.val Â a))) st D):S X U st D:=by stop exact BI (g':=.val Â a) i d É (λz=>z) (λH0 H O f g v c b _ e=>LS c b e) h
def iu(i j:Nat){K:Ã}:GP (HV K 2 (rK (kF i) (rK (kF j) HX))) (M×β) (λb u U=>(U.set i (À (.val b u.1))).set j (À (.val b u.2))) (λk=>k=i\/k=j) K:=λb u H0 F O U Y H v Q Z r q=>by
 obtain⟨p,f,a,g,sq,e,d⟩:=r;refine#[p,_,g,vm (aq _ _) sq,rfl,f,[a],rfl,a,[],rfl,rfl,?_];exact q _ ((Z.set e).set d) (by rw[WX,WX]) λk c=>by rw[get_set_ne λz=>c (.inr z),get_set_ne λz=>c (.inl z)]
end
end L2.EP
namespace L2
open PySem PySem.Spec PyProof.Rows
def Qg(K : Ã)(a b : Æ) : It :=
  #[λi H=>∃xs ys x y,dM K H a xs/\dM K H b ys/\xs[i]?=À x/\ys[i]?=À y,
   λi H v H'=>∃T x y,H T=none/\v=.ref T/\H'=upd H T (.tup [x,y])/\(∀xs,dM K H a xs->xs[i]?=À x)/\∀ys,dM K H b ys->ys[i]?=À y,
   λi H=>∃xs ys,dM K H a xs/\dM K H b ys/\(xs.length<=i\/ys.length<=i)]
def dF{h:Ý}{a b:Æ}{o u:ò}(e1:h.get? a=À o)(e2:h.get? b=À u)(d:o.cls≠u.cls):a≠b:=λz=>by
 subst z;rw[e1] at e2;cases e2;exact d rfl
def uR{h:Ý}{z TI TO n k i m:Æ}{w r q u v:Å}{k1 k2:Nat}{xs ys:Array Å}(hz:IsZip h z TI TO w)(b:IsPair h TI r q)(a:IsPair h TO u v)(h1:h.IsListIter n i k1)(h2:h.IsListIter k m k2)
  (j:h.IsList i xs) (l:h.IsList m ys) (o:TI≠TO) (p:n≠k):ZipApart z TI TO n k i m:=by
 obtain⟨y,c,b1,_⟩:=h1;obtain⟨A,d,b2,_⟩:=h2;obtain⟨x,c1,g,_⟩:=j;obtain⟨p2,c2,f,_⟩:=l;have X:∀{s t:String},s≠t->ę s≠ę t:=λne e=>ne (by injection e)
 exact#[dF b hz (X .b),dF a hz (X .b),dF c hz (by rw[b1];exact X .b),dF d hz (by rw[b2];exact X .b),o,dF b c (by rw[b1];exact X .b),dF b d (by rw[b2];exact X .b),
  dF a c (by rw[b1];exact X .b),dF a d (by rw[b2];exact X .b),p,dF c1 hz (by rw[g];exact X .b),dF c1 a (by rw[g];exact X .b),dF c1 c (by rw[g,b1];exact X .b),dF c1 d (by rw[g,b2];exact X .b),
  dF c2 hz (by rw[f];exact X .b),dF c2 a (by rw[f];exact X .b),dF c2 c (by rw[f,b1];exact X .b),dF c2 d (by rw[f,b2];exact X .b)]
section
variable{X:Cx}{ZB:List (Æ×ò)}{Y:St}{H H':Hp}{s:Ç}
def Inv.A6{h':Ý}{t':Nat}{ch:List Æ}{T:Æ}{xs:List V}(I:Inv X ZB Y H s)(i:s.heap.objs.size<=T)(k:∀b o,b∉ch->s.heap.get? b=À o->h'.get? b=À o)(th:∀b o,s.heap.get? b=À o->∃o',h'.get? b=À o')(f:∀b∈ch,tT X ZB H b)
  (new:bT X.prog X.w (upd H T (.tup xs)) h' T (.tup xs)):Inv X ZB Y (upd H T (.tup xs)) {s with heap:=h',toks:=t'}:=by
 stop
  have h:H T=none:=I.hok.fresh i;have g:∀b u,H b=À u->b∉ch:=λb u e z=>by rw[(f b z).1] at e;cases e
  refine I.step (g':=s.gens) (d':=s.drawn) (ch:=ch) (λb d=>#[(f b d).2.2.2.1,(f b d).2.1,(f b d).2.2.2.2.1,(f b d).2.2.2.2.2]) (λb o _ _ a e _=>k b o a e) (λb o _ _ a e _=>#[o.slots,k b o a e])
   (λb o a e n=>by rwa[ax (WQ (Wx (Wg e) i))]) (λb o a e=>#[o,k b o a e]) (λb ys e=>by rwa[ax (bX e h)]) (λb u ys e=>by rwa[ax (bX e h)]) (λb ps e=>#[#[],by rw[ax (bX e h),e];simp]) (λm l=>?_) (λb u e=>?_) I.bare
  .obtain⟨o,es,ep,j,r⟩:=l;exact#[o,es,ep,k _ o (λz=>(f _ z).2.1 rfl) j,r]
  .by_cases d:b=T
   .subst d;rw[aE] at e;cases e;exact new
   .rw[ax d] at e;refine(I.hok b u e).rh (λc v a q=>k c v ?_ q) (λc z=>?_) λc ys z=>?_
    .rcases a with z|z
     .rw[z];exact g b u e
     .exact g c _ z
    .rwa[ax (bX z h)]
    .rwa[ax (bX z h)]
end
def GK{P:Ò}{w:Û}{K:Ã}{elts:List Õ}{kk:Nat}{tp:é}(z TI TO l j a b:Æ)(n1:TI≠TO)(n2:l≠j):Turn P w K (.Tuple elts kk tp) (Qg K a b) [z,TI,TO,l,j] z
  (λi h=>IsZip h z TI TO .none/\IsPair h TI (.ref l) (.ref j)/\(∃x y,IsPair h TO x y)/\h.IsListIter l a i/\h.IsListIter j b i) where
 mem:=by simp
 obj:=λi h st c J=>by
  obtain⟨hz,f,⟨x,y,g⟩,h1,h2⟩:=st;have d:c=z\/c=TI\/c=TO\/c=l\/c=j:=by simpa using J
  rcases d with e|e|e|e|e
  .subst e;exact#[_,hz,λv q=>by cases q]
  .subst e;exact#[_,f,λv q=>by cases q]
  .subst e;exact#[_,g,λv q=>by cases q]
  .subst e;obtain⟨o,q1,L,C⟩:=h1;exact#[o,q1,λv q=>by rw[C] at q;cases q]
  .subst e;obtain⟨o,q1,L,C⟩:=h2;exact#[o,q1,λv q=>by rw[C] at q;cases q]
 keep:=λi h h' st k=>by
  obtain⟨hz,f,⟨x,y,g⟩,h1,h2⟩:=st;exact#[k z .c _ hz,k TI .c _ f,#[x,y,k TO .c _ g],h1.at λo e=>k l .c o e,h2.at λo e=>k j .c o e]
 item:=by
  intro X T hw Q J i ZB s Y H E I A st O;subst T hw Q;obtain⟨xs,ys,x,y,α,N,gx,gy⟩:=O;obtain⟨hz,f,⟨wa,wb,g⟩,h1,h2⟩:=st;obtain⟨ix,σ,G,_⟩:=I.list α;obtain⟨iy,Γ,py,_⟩:=I.list N;have D:=uR hz f g h1 h2 G.isList py.isList n1 n2;obtain⟨u,ux,uxr⟩:=σ.get gx;obtain⟨v,vy,vyr⟩:=Γ.get gy;refine wpAny_pyNext_zip_item D hz f g h1 h2 G.isList py.isList ↑ux ↑vy λh' a1 a2 a3 a4 a5 a6 t=>?_;have S:H s.heap.objs.size=none:=I.hok.fresh (V_ _)
  have I1:Inv X ZB Y (upd H s.heap.objs.size (.tup [x,y])) {s with heap:=h',toks:=s.toks}:=by
   refine I.A6 (ch:=[z,TO,l,j]) (V_ _) (λc o d e=>t c o (λq=>d (by simp[q])) (λq=>d (by simp[q])) (λq=>d (by simp[q])) (λq=>d (by simp[q])) e) (λc o e=>?_) (λc d=>A c (by simp at d ⊢;rcases d with q|q|q|q<;>simp[q])) ?_
   .have hlt:=Wg e;have:c<h'.objs.size:=by rw[a6];exact Zm hlt
    by_cases q1:c=z
    .subst q1;exact#[_,a1]
    by_cases L:c=TO
    .subst L;exact#[_,a2]
    by_cases C:c=l
    .subst C;obtain⟨o',q,_⟩:=a3;exact#[o',q]
    by_cases q4:c=j
    .subst q4;obtain⟨o',q,_⟩:=a4;exact#[o',q]
    exact#[o,t c o q1 L C q4 e]
   .exact#[by show 2<=sizeLine;decide,[u,v],.cons uxr (.cons vyr .nil),#[_,a5,rfl,_,rfl]]
  refine#[_,rfl,?_];have B:=A z .c;refine wpAny_letOwnedTupleGo_zip a1 λZ R p=>?_;have zT:z≠s.heap.objs.size:=WQ (Wg hz);have I2:Inv X ZB Y (upd H s.heap.objs.size (.tup [x,y])) {({s with heap:=h',toks:=s.toks}:Ç) with heap:=Z,toks:=s.toks}:=I1.turned (λc o d e=>p.extBut c o d e) (by rw[ax zT];exact B.1) B.2.1 B.2.2.2.1 B.2.2.2.2.1 B.2.2.2.2.2;refine#[.ref s.heap.objs.size,upd H s.heap.objs.size (.tup [x,y]),I2,rfl,#[s.heap.objs.size,x,y,S,rfl,rfl,λxs' sx'=>?_,λys' sy'=>?_],#[R,p.extBut _ _ D.TIz (t _ _ D.TIz D.TITO D.TIi1 D.TIi2 f),#[_,_,p.extBut _ _ D.TOz a2],a3.extBut p.extBut D.i1z,a4.extBut p.extBut D.i2z],λc d=>?_]
  .rwa[I.oo sx' α]
  .rwa[I.oo sy' N]
  .have hcl:c<s.heap.objs.size:=by
    have hc2:c=z\/c=TI\/c=TO\/c=l\/c=j:=by simpa using d
    rcases hc2 with e|e|e|e|e
    .subst e;exact Wg hz
    .subst e;exact Wg f
    .subst e;exact Wg g
    .subst e;obtain⟨_,q,_⟩:=h1;exact Wg q
    .subst e;obtain⟨_,q,_⟩:=h2;exact Wg q
   rw[ax (WQ hcl)];exact(A c d).1
 done:=by
  intro X T hw Q J i ZB s Y H E I A st O;subst T hw Q;obtain⟨xs,ys,α,N,F⟩:=O;obtain⟨hz,f,⟨wa,wb,g⟩,h1,h2⟩:=st;obtain⟨ix,σ,G,_⟩:=I.list α;obtain⟨iy,Γ,py,_⟩:=I.list N;have D:=uR hz f g h1 h2 G.isList py.isList n1 n2;refine wpAny_pyNext_zip_end (I.ok.hd J) D hz f g h1 h2 G.isList py.isList ?_ λh' t=>#[rfl,?_]
  .rcases F with q|q
   .left;simp[<-σ.length];lia
   .right;simp[<-Γ.length];lia
  .have B:=A z .c;have fo:=A TO .c;have f1:=A l .c;have f2:=A j .c
   refine I.step (g':=s.gens) (d':=s.drawn) (t':=s.toks) (ch:=[z,TO,l,j]) (λb hb=>?_) (λb o _ _ d e _=>t b o (λq=>d (by simp[q])) (λq=>d (by simp[q])) (λq=>d (by simp[q])) (λq=>d (by simp[q])) e) (λb o _ _ d e _=>#[o.slots,t b o (λq=>d (by simp[q])) (λq=>d (by simp[q])) (λq=>d (by simp[q])) (λq=>d (by simp[q])) e]) (λ_ _ _ _ n=>n)
    (λb o d e=>#[o,t b o (λq=>d (by simp[q])) (λq=>d (by simp[q])) (λq=>d (by simp[q])) (λq=>d (by simp[q])) e]) (λ_ _ e=>e) (λ_ _ _ e=>e) (λb ps e=>#[#[],by rw[e];simp]) (λm hm=>?_) (λb u e=>?_) I.bare
   .have q:=A b (by simp at hb ⊢;rcases hb with q|q|q|q<;>simp[q]);exact#[q.2.2.2.1,q.2.1,q.2.2.2.2.1,q.2.2.2.2.2]
   .obtain⟨o,es,ep,ho,r⟩:=hm;exact#[o,es,ep,t _ o (Xm B.2.1) (Xm fo.2.1) (Xm f1.2.1) (Xm f2.2.1) ho,r]
   .have nn:∀c v,H c=À v->c≠z/\c≠TO/\c≠l/\c≠j:=λc v e=>#[(λq=>by(rw[q,B.1] at e;cases e)),(λq=>by(rw[q,fo.1] at e;cases e)),(λq=>by(rw[q,f1.1] at e;cases e)),(λq=>by(rw[q,f2.1] at e;cases e))];refine(I.hok b u e).rh (λc v d q=>?_) (λ_ q=>q) λ_ _ q=>q;have:=nn c;rcases d with e'|e'
    .subst e';obtain⟨w1,w2,V,w4⟩:=nn c _ e;exact t c v w1 w2 V w4 q
    .obtain⟨w1,w2,V,w4⟩:=nn c _ e';exact t c v w1 w2 V w4 q
 self:=λ_ _ _ _ _ st h=>ϙ st.1 h
section
variable{X:Cx}{elts:List Õ}{kk:Nat}{tp:é}
def P2(K:Ã)(ta:TA):TI:=λY H R=>ta Y H λvs H1=>∃a b,vs=[.ref a,.ref b]/\(∃xs,dM K H1 a xs)/\(∃ys,dM K H1 b ys)/\R (Qg K a b) H1
def MD{e1 e2:Õ}{ta:TA}{p pos:é}(m:Gl X "zip")(z:X.mg "zip"=none)(ha:PA X [e1,e2] ta)(he:autoParam (Ä [e1,e2] X.env=(Á,Ö e1 X.env)::Ä [e2] X.env) zra)
  (hpl:autoParam ((æ pos (Ä [e2] X.env)).any (·.1)=Á) zra):PI X (.Tuple elts kk tp) (.Call (.Name "zip" p) [e1,e2] [] pos) (P2 X.K ta):=by
 intro ZB s Y H R I h;refine Call_ (kg I m z PyProof.Rows.boot_zip (XI (b9 (ha pos ZB s Y H _ I h) λus d ⟨vs,H1,f,B,q1⟩=>?_) he hpl));obtain⟨a,b,e,⟨xs,r⟩,⟨ys,t⟩,q⟩:=q1;subst e;obtain⟨u,G,rfl,l,A⟩:=vals2 B;cases l;cases A;obtain⟨D,J,x,_⟩:=f.list r;obtain⟨F,E,py,_⟩:=f.list t;refine call_zip_2 x.isList py.isList λh' j w k n v C o=>?_;have y:Inv X ZB Y H1 {d with heap:=h',toks:=d.toks}:=f.kept o;refine ϙ (s:={d with heap:=h'}) j ?_;refine#[d.heap.objs.size+4,[d.heap.objs.size+4,d.heap.objs.size+2,d.heap.objs.size+3,d.heap.objs.size,d.heap.objs.size+1],_,Qg X.K a b,H1,rfl,y,GK (d.heap.objs.size+4) (d.heap.objs.size+2) (d.heap.objs.size+3) d.heap.objs.size (d.heap.objs.size+1) a b (WQ (ZC _)) (WQ (ZC _)),#[j,w,#[_,_,k],n,v],λc i=>?_,q]
 have g:d.heap.objs.size<=c:=by
  simp at i;rcases i with e|e|e|e|e<;>subst e<;>lia
 exact f.Dl g (f.hok.fresh g)
end
end L2
namespace L2.EP
open PySem PySem.Spec PyProof.Rows
section
variable{X:Cx}{U:aF}{M β:Type}[Py M][Py β]{e1 e2:Õ}{b1 b2:Bool}{elts:List Õ}{kk:Nat}{tp p ps:é}
def oE{xs:List M}{ys:List β}(I:Gl X "zip")(hm:X.mg "zip"=none)(h1:E X U e1 b1 xs)(h2:E X U e2 b2 ys)(f:autoParam (Ä [e1,e2] X.env=(Á,Ö e1 X.env)::Ä [e2] X.env) zra)(m:autoParam (Ä [e2] X.env=(Á,Ö e2 X.env)::Ä [] X.env) zra)
  (hpl:autoParam ((æ ps (Ä [e2] X.env)).any (·.1)=Á) zra):EI X U (.Tuple elts kk tp) (.Call (.Name "zip" p) [e1,e2] [] ps) (b1&&b2) (xs.zip ys):=by
 stop
  exact#[_,MD I hm (aC h1 (aC h2 aZ m) f) f hpl,λY H H0 F O R Z q=>#[H0,F,O,Z,λv H1 B Γ=>#[H0,F,O,Z.go B,λw H2 l G=>by
    obtain⟨a,j,Q,J,na,A⟩:=Γ;obtain⟨c,k,ec,o,nc,rc⟩:=G;have b:=(aj (O:=O) l).seq J;refine#[a,c,by rw[Q,ec],#[j,(aq _ _).seq b],#[k,(aq _ _).seq o],q _ H2 (B.trans l) λH' S s d=>#[λi u K=>?_,?_]]
    .obtain⟨W,hy⟩:=List.getElem?_zip_eq_some.mp K;obtain⟨x,D,P⟩:=lS A W;obtain⟨y,C,L⟩:=lS rc hy;have g:=(aq _ _).seq (d.seq b);have e:=(aq _ _).seq (d.seq o);refine#[#[j,k,x,y,g,e,D,C],λv' N σ=>?_];obtain⟨T,x',y',h,rfl,rfl,α,V⟩:=σ;have ex:=α j g;have t:=V k e;rw[D] at ex;cases ex;rw[C] at t;cases t
     have r:¬S T:=λz=>by
      obtain⟨zs,w⟩:=s T z;rw[h] at w;cases w
     refine#[b7 h _,T,x,y,rfl,.inl (by rw[aN r];exact aE),?_,?_]
     .exact bB (λ_ _ n=>AW n) (aw ((aj l).trans (d.trans (aj (b7 h _)))) P)
     .exact bB (λ_ _ n=>Bo n) (aw (d.trans (aj (b7 h _))) L)
    .refine#[j,k,(aq _ _).seq (d.seq b),(aq _ _).seq (d.seq o),?_];rw[bq A,bq rc,X0]
     lia]]]
def jA{YP:ú}{tn:List Í}{js:List Nat}{C:Æ}{s:Ç}{H:Hp}{fp:List Æ}{x y:Í}{f p2 g:é}{k:Nat}(i j:Nat)(N:List Í)(e:autoParam (X.calm=Â) zra)(h:autoParam (cN X tn js=N) zra)(b:autoParam (N.Nodup) zrh)(hi:autoParam (N[i]?=À x) zra)(d:autoParam (N[j]?=À y) zra)
  (c:autoParam (YP.names.lookup x=À .local\/YP.names.lookup x=À .cell) zrd) (a:autoParam (YP.names.lookup y=À .local\/YP.names.lookup y=À .cell) zrd):
  PG .G (.Tuple [.Name x f,.Name y p2] k g) (HV X.K 2 (rK (kF i) (rK (kF j) HX))) :=
 GJ (X:=fG X (cN X tn js) YP C s H fp) e (nY (bD i N h b hi c) (nY (bD j N h b d a) Bc))
def dP{i j n:Nat}(h:autoParam (i<n) zrb)(h2:autoParam (j<n) zrb):∀k,k=i\/k=j->k<n:=λk e=>by rcases e with e|e<;>rw[e]<;>assumption
end
class PyT(β:Type)[Py β]:Prop where
 free:∀{K:Ã} {N N':Nn} {H H':Hp} {v:V} {b:β},(∀p xs,Rt H p xs->Rt H' p xs)->Py.rp K N H v b->Py.rp K N' H' v b
 nl:∀{K:Ã} {N:Nn} {H:Hp} {q:Æ} {b:β} {xs:List V},Py.rp K N H (.ref q) b->H q=À (.lst xs)->False
noncomputable instance:PyT Int where
 free _ h:=h
 nl h _:=nomatch h
noncomputable instance:PyT Bool where
 free _ h:=h
 nl h _:=nomatch h
noncomputable instance{M β:Type}[Py M][Py β][PyT M][PyT β]:PyT (M×β) where
 free t h:=by
  obtain⟨p,x,y,e,s,h1,h2⟩:=h;exact#[p,x,y,e,t _ _ s,PyT.free t h1,PyT.free t h2]
 nl h e:=by
  obtain⟨p,x,y,a,s,h1,h2⟩:=h;cases a;rcases s with s|⟨o,s⟩
  .rw[e] at s;cases s
  .rw[e] at s;cases s
def tN{M:Type}[Py M](K:Ã)(U:aF)(a:M):TE:=λY H Q=>∃H0 F O,cU K H0 F O U Y H/\∀v H',az H H'->Py.rp K (.new H) (off H' O) v a->Q v H'
@[irreducible] def EN{M:Type}[Py M](X:Cx)(U:aF)(e:Õ)(a:M):Prop:=PE X e (tN X.K U a)
def kK{M:Type}[Py M]{K:Ã}{H H1 b:Hp}{v:V}{a:M}(s:az H H1)(h:Py.rp K (.new H1) b v a):Py.rp K (.new H) b v a:=bB (N:=.new H1) (N':=.new H) (λ_ _ n=>#[s.free n.1,n.2]) h
section
variable{X:Cx}{U:aF}{D:GD}{M β γ:Type}[Py M][Py β][Py γ]{e e1 e2:Õ}{b b1 b2:Bool}{pos p:é}{rest st:List Ð}{k:Nat}{name:Í}{ps:List Í}
def vg(i:Nat){x:Í}{a:M}{p:é}(d:X.N.Nodup)(he:EN X U e a)(h:S X (U.set i (À (.dpo a))) rest D)(hi:autoParam (X.N[i]?=À x) zra)(b:autoParam (Loc X.env.scope x) zri)
  (g:autoParam (ï e (À (.Name x p)) pos.line X.env=pure Á) zra) (l:autoParam (X.fn x=Â\/X.env.scope.names.lookup x=À .local) zrd):S X U (.Assign [.Name x p] e pos::rest) D:=by
 stop
  exact dy (dE (sA d hi b he g l) λm Y H ⟨H0,F,O,Z,n,_⟩=>#[H0,F,O,Z,λv H1 k j=>by
    obtain⟨c,f⟩:=Z.zF (i:=i) (v:=v) k (λq=>H q=none/\∃xs:Mt,H1 q=À (mo xs)) (λq z=>z) (Bd.dpo a) É (by
     refine Py.tr (λq xs sq nn=>?_) (λq xs sq=>az.rt (aq _ _) sq) j;have:=(aq _ _) _ _ nn.2
     exact⟨Mo.of this,⟨nn.1,xs,this⟩,this⟩)
    exact n _ _ _ _ f c h])
end
def uT{env:ė}{names:List (Í×ë)}{x:Í}(h:names.lookup x=À .free):
  (names.map fun(n,k)=>if (k==Ü&&env.scope.kind==.function&&env.kindOf n==À .cell) then (n,Þ) else (n,k)).lookup x=À .cell \/
  (names.map fun(n,k)=>if (k==Ü&&env.scope.kind==.function&&env.kindOf n==À .cell) then (n,Þ) else (n,k)).lookup x=À .free:=by
 rw[zl,h,ZR];split
 .exact .inl rfl
 .exact .inr rfl
def wC{X:Cx}{a YP:ú}{tn:List Í}{js:List Nat}{N':List Í}{C:Æ}{s:Ç}{H:Hp}{fp:List Æ}(N:List Í)(h2:N'=N)(h:O9 a N YP js=Â):e7 (fG X N' a C s H fp) YP tn js:=by
 subst h2;unfold O9 at h;simp only[WA,WB] at h;obtain⟨⟨k,ha⟩,g⟩:=h;refine#[↑k,λx b e=>?_,λx b e=>?_,λx b y i e=>?_,λj c=>?_]
 .obtain⟨⟨h1,h2⟩,f⟩:=ha x b;simpa [e] using h1
 .obtain⟨⟨h1,h2⟩,f⟩:=ha x b;have d:(YP.names.lookup x.1==À .free&&(a.names.lookup x.1==À .cell || a.names.lookup x.1==À .free))=Â:=by simpa [e] using h2
  obtain⟨q1,l⟩:=Xh.mp d;refine#[↑q1,?_];rcases Bool.or_eq_true_iff.mp l with z|z
  .exact .inl (mE ↑z)
  .exact uT ↑z
 .obtain⟨⟨h1,h2⟩,f⟩:=ha x b;have:=f y i;simpa [e] using this
 .have:=g j c;split at this
  .rename_i x b;exact#[x,b,↑this]
  .cases this
section
variable{X:Cx}{U:aF}{M:Type}[Py M]{e:Õ}{b b':Bool}{pos:é}
def E.up[PyT M]{a:M}(h:E X U e b a):E X U e b' a:=by stop exact aG h λY H Q ⟨H0,F,O,S,q⟩=>#[H0,F,O,S,λv H' s r=>q v H' s (PyT.free (λ_ _ z=>z) r)]
def dR[PyT M]{a:M}(h:E X U e b a):E X U e b' a:=by stop exact E.up h
def JE[PyT M]{xs:List M}{p:é}(h:Gl X "list")(i:X.mg "list"=none)(ha:E X U e b xs)(g:autoParam (Ä [e] X.env=(Á,Ö e X.env)::Ä [] X.env) zra):E X U (.Call (.Name "list" p) [e] [] pos) Â xs:=by
 stop
  exact aG (lh jH h i Ym (aC ha aZ g) (he:=g)) λY H Q ⟨H0,F,O,S,q⟩=>#[H0,F,O,S,λv H1 a j=>by
    obtain⟨p,vs,e,sq,n,r⟩:=j;refine#[p,vs,by rw[e],.inl ((aq _ _).seq sq),λl c=>?_];obtain⟨f,d⟩:=cq (xs:=vs) (S.go a) c
    exact q _ _ (a.trans f) #[l,vs,rfl,dM.of d,Nf.wk ((S.go a).g8 c) d,aV (λ_ _ z=>PyT.free (λ_ _ t=>az.rt (aj f) t) z) r]]
end
def ly{M β:Type}{g:β->M->β}{z:β}{us:List M}{i:Nat}{a:M}(h:us[i]?=À a):(us.take (i+1)).foldl g z=g ((us.take i).foldl g z) a:=by
 rw[YR,h,aap];rfl
end L2.EP
namespace Q
variable{k b a d m l r e s f c x j u v:Int}{n i:Nat}
def n6(a b:Int):Ì b (a.fmod b)=Ì a b:=by
 rw[Int.fmod_def,Zd a b];exact Int.gcd_sub_mul_left_right ..
def AU(a b:Int)(c:b≠0):(a.fmod b).natAbs<b.natAbs:=by
 rcases aaf c with h|h
 .have e:=Int.neg_fmod_neg a b;have h':(0:Int) < -b:=by omega
  have h1:=Zv (-a) h';have h2:=aae (-a) h';omega
 .have h1:=Zv a h;have h2:=aae a h;omega
def fd(t b:Int):Int:=if b<0 then -(Ì t b:Int) else (Ì t b:Int)
def fr(t b:Int):Int×Int:=(t.fdiv (fd t b),b.fdiv (fd t b))
def sP{t:Int}(a:b≠0):fd t b≠0:=by
 have h:Ì t b≠0:=by
  intro h;rw[Y7] at h;exact a h.2
 unfold fd;split<;>lia
def x4(t b:Int):fd t b∣t:=by
 unfold fd;split
 .exact(Int.neg_dvd).mpr (X6 ..)
 .exact X6 ..
def wI(t b:Int):fd t b∣b:=by
 unfold fd;split
 .exact(Int.neg_dvd).mpr (XO ..)
 .exact XO ..
def qQ(h:d∣a):d*a.fdiv d=a:=by
 have e:=Int.mul_fdiv_cancel' h;exact e
def wF(t b:Int):fd t b*(fr t b).1=t:=qQ (x4 t b)
def rn(t b:Int):fd t b*(fr t b).2=b:=qQ (wI t b)
def m9(t b:Int):(fr t b).1*b=t*(fr t b).2:=by
 have h1:=wF t b;have h2:=rn t b;generalize (fr t b).1=x at *;generalize (fr t b).2=y at *;generalize fd t b=d at *;subst h1;subst h2;rw[<-Xj,WE x d]
def G1{t:Int}(f:b≠0):1<=(fr t b).2:=by
 have h2:=rn t b;have c:=sP (t:=t) f
 have e:fd t b<0↔b<0:=by
  unfold fd;have:0<=(Ì t b:Int):=ů _;unfold fd at c;split<;>split at c<;>lia
 generalize (fr t b).2=y at *;generalize fd t b=d at *;apply Int.not_lt.mp;intro g;have a:y<=0:=by lia
 rcases aaf c with h|h
 .have:=Zo (XG h) a;have:=e.mp h;lia
 .have:=WU (XG h) a;have:¬b<0:=λq=>by have:=e.mpr q;lia
  lia
def GX(t b:Int):(fd t b).natAbs=Ì t b:=by
 unfold fd;split<;>lia
def Gx{t:Int}(c:b≠0):Ì (fr t b).1 (fr t b).2=1:=by
 have h1:=wF t b;have h2:=rn t b;have g:=sP (t:=t) c;have a:=GX t b;have e:Ì (fd t b*(fr t b).1) (fd t b*(fr t b).2)=(fd t b).natAbs*Ì (fr t b).1 (fr t b).2:=Int.gcd_mul_left ..;rw[h1,h2,a] at e;have d:0<Ì t b:=by lia
 have f:Ì t b*1=Ì t b*Ì (fr t b).1 (fr t b).2:=by lia
 exact(Nat.eq_of_mul_eq_mul_left d f).symm
def Iv{t:Int}(a:b≠0):(fr t b).1.natAbs<=t.natAbs:=by
 have h1:=wF t b;have c:=sP (t:=t) a;have h:t.natAbs=(fd t b).natAbs*(fr t b).1.natAbs:=by rw[<-Xd,h1]
 rw[h];exact aaQ _ .a
def Jx{t:Int}(a:b≠0):(fr t b).2.natAbs<=b.natAbs:=by
 have h1:=rn t b;have c:=sP (t:=t) a;have h:b.natAbs=(fd t b).natAbs*(fr t b).2.natAbs:=by rw[<-Xd,h1]
 rw[h];exact aaQ _ .a
def JP{t:Int}(a:b≠0):(fd t b).natAbs<=b.natAbs:=by
 rw[GX];exact ϑ .a (Yu.mpr (XO t b))
def j7(h:a∣b*c)(g:Ì a b=1):a∣c:=by
 have h':a.natAbs∣b.natAbs*c.natAbs:=by rw[<-Xd];exact Yu.mpr h
 exact Yu.mp (Nat.Coprime.dvd_of_dvd_mul_left (show Nat.Coprime a.natAbs b.natAbs from g) h')
def DA{t y:Int}(c:b≠0)(n:1<=y)(j:Ì x y=1)(h:x*b=t*y):fr t b=(x,y):=by
 have h1:=wF t b;have h2:=rn t b;have hp:=G1 (t:=t) c;have a:=Gx (t:=t) c;have m:=m9 t b;have i:=sP (t:=t) c;generalize k:(fr t b).1=u at *;generalize g:(fr t b).2=v at *;generalize fd t b=d at *;subst h1;subst h2
 have he:x*v=u*y:=by
  have:d*(x*v)=d*(u*y):=by
   rw[<-Xj,<-Xj,WE d x,Xj,h]
  exact Y_ i this
 -- v∣u*y,gcd u v=1->v∣y ;y∣x*v->y∣v
 have f:v∣y:=by
  have:v∣u*y:=#[x,by rw[<-he,WE]];exact j7 this (by rwa[Zd])
 have l:y∣v:=by
  have:y∣x*v:=#[u,by rw[he,WE]];exact j7 this (by rwa[Zd])
 have e:v=y:=Int.dvd_antisymm .a .a f l
 have e2:x=u:=by
  rw[e] at he;exact X5 .a he
 apply Ϸ
 .rw[k,e2]
 .rw[g,e]
def eD(u v:Int×Int):Int×Int:=fr (u.1*v.2+v.1*u.2) (u.2*v.2)
def br(u v:Int×Int):Int×Int:=fr (u.1*v.1) (u.2*v.2)
def cW(u:Int×Int):Prop:=1<=u.2/\Ì u.1 u.2=1
def kR{t:Int}(a:b≠0):cW (fr t b):=#[G1 a,Gx a]
def cW.ne{u:Int×Int}(h:cW u):u.2≠0:=by have:=h.1;lia
def EY{t:Int}{u:Int×Int}(a:b≠0)(h:cW u)(e:u.1*b=t*u.2):fr t b=u:=DA (x:=u.1) (y:=u.2) a h.1 h.2 e
abbrev Fr:=Int×Int
def iM(n:Nat):List Int:=(Ú n).map λi:Nat=>(i:Int)
def cw(n:Nat):(iM n).length=n:=by unfold iM;simp
def sJ(h:i<n):(iM n)[i]?=À (i:Int):=by
 unfold iM;rw[WJ,Y6 h];rfl
def c_(us:List Fr):Int:=us.foldl (λb u=>(b*u.2).fdiv (Ì b u.2:Nat)) 1
def rP(k:1<=b)(n:1<=c):1<=(b*c).fdiv (Ì b c:Nat)/\b∣(b*c).fdiv (Ì b c:Nat)/\c∣(b*c).fdiv (Ì b c:Nat)/\(b*c).fdiv (Ì b c:Nat)<=b*c:=by
 have o:0<Ì b c:=by
  rcases ŭ (Ì b c) with h|h
  .rw[Y7] at h;lia
  .exact h
 have i:((Ì b c:Nat):Int)∣b:=X6 ..;have m:((Ì b c:Nat):Int)∣c:=XO ..;generalize Ì b c=g at *;obtain⟨x,j⟩:=i;obtain⟨y,f⟩:=m
 have e:(b*c).fdiv (g:Int)=b*y:=by
  rw[f,<-Xj,WE b (g:Int),Xj];rw[aaA _ .a]
 have d:(1:Int)<=g:=by lia
 have l:1<=x:=by
  apply Int.not_lt.mp;intro h;have:(g:Int)*x<=0:=WU .a .a;lia
 have a:1<=y:=by
  apply Int.not_lt.mp;intro h;have:(g:Int)*y<=0:=WU .a .a;lia
 rw[e];refine#[?_,#[y,rfl],#[x,?_],?_]
 .have:=W_ k a .a .a;simpa using this
 .rw[j,f];grind
 .refine Wc ?_ .a;rw[f];have:=W5 d (show 0<=y by lia);simpa using this
theorem ze:∀(us:List Fr) (b:Int),1<=b->(∀u∈us,1<=u.2)->1<=us.foldl (λb u=>(b*u.2).fdiv (Ì b u.2:Nat)) b/\b∣us.foldl (λb u=>(b*u.2).fdiv (Ì b u.2:Nat)) b/\∀u∈us,u.2∣us.foldl (λb u=>(b*u.2).fdiv (Ì b u.2:Nat)) b
 |[],b,c,_=>#[c,Yb _,λ_ h=>by cases h]
 |u::us,b,c,h=>by
  obtain⟨k,f,j,_⟩:=rP c (h u Wu);obtain⟨g,d,i⟩:=ze us _ k λw a=>h w (We _ a);refine#[g,Wz f d,λw a=>?_];rcases V8.mp a with e|a
  .rw[e];exact Wz j d
  .exact i w a
def mO{us:List Fr}(h:∀u∈us,1<=u.2):1<=c_ us:=(ze us 1 .b h).1
def yh{us:List Fr}(h:∀u∈us,1<=u.2){u:Fr}(a:u∈us):u.2∣c_ us:=(ze us 1 .b h).2.2 u a
def kT(us:List Fr):List Int×Int:=(us.map λu=>u.1*(c_ us).fdiv u.2,c_ us)
def yx(xs ys:List Int):Int:=((xs.zip ys).map λp=>p.1*p.2).sum
def yS(a b:List Int×Int):Fr:=fr (yx a.1 b.1) (a.2*b.2)
def ml(us vs:List Fr):Fr:=(us.zip vs).foldl (λa p=>eD a (br p.1 p.2)) (0,1)
def K2{u w:Fr}(c:cW u)(a:cW w)(h:u.1*w.2=w.1*u.2):u=w:=by
 have h1:=EY (t:=w.1) (b:=w.2) a.ne c h;have h2:=EY (t:=w.1) (b:=w.2) a.ne a rfl;rw[<-h1,h2]
def rR:cW (0,1):=#[.b,.b]
def vU{u v:Fr}(a:cW u)(b:cW v):cW (eD u v):=kR (Wl a.ne b.ne)
def lj{u v:Fr}(a:cW u)(b:cW v):cW (br u v):=kR (Wl a.ne b.ne)
theorem A7{A B:Int}(j:A≠0)(l:B≠0)(f g:Fr->Int):∀(ps:List (Fr×Fr)) (b:Fr) (s:Int),cW b->b.1*(A*B)=s*b.2->(∀p∈ps,cW p.1/\cW p.2/\f p.1*p.1.2=p.1.1*A/\g p.2*p.2.2=p.2.1*B) ->
  cW (ps.foldl (λb p=>eD b (br p.1 p.2)) b)/\(ps.foldl (λb p=>eD b (br p.1 p.2)) b).1*(A*B)=(s+(ps.map λp=>f p.1*g p.2).sum)*(ps.foldl (λb p=>eD b (br p.1 p.2)) b).2
 |[],b,s,ha,he,_=>#[ha,↑he]
 |p::ps,b,s,ha,he,h=>by
  obtain⟨c,d,e1,e2⟩:=h p Wu;have lm:=lj c d;have i:=vU ha lm;have c1:(br p.1 p.2).1*(p.1.2*p.2.2)=(p.1.1*p.2.1)*(br p.1 p.2).2:=m9 _ _;have c2:(eD b (br p.1 p.2)).1*(b.2*(br p.1 p.2).2)=(b.1*(br p.1 p.2).2+(br p.1 p.2).1*b.2)*(eD b (br p.1 p.2)).2:=m9 _ _;have e:=c.ne;have k:=d.ne;have n:=ha.ne;have t:=lm.ne
  have m1:(br p.1 p.2).1*(A*B)=(f p.1*g p.2)*(br p.1 p.2).2:=by
   generalize br p.1 p.2=m at *;apply X5 (Wl e k);have:m.1*(A*B)*(p.1.2*p.2.2)=(m.1*(p.1.2*p.2.2))*(A*B):=by grind
   rw[this,c1];have:f p.1*g p.2*m.2*(p.1.2*p.2.2)=(f p.1*p.1.2)*(g p.2*p.2.2)*m.2:=by grind
   rw[this,e1,e2];grind
  have step:(eD b (br p.1 p.2)).1*(A*B)=(s+f p.1*g p.2)*(eD b (br p.1 p.2)).2:=by
   generalize eD b (br p.1 p.2)=a at *;generalize br p.1 p.2=m at *;apply X5 (Wl n t);have:a.1*(A*B)*(b.2*m.2)=(a.1*(b.2*m.2))*(A*B):=by grind
   rw[this,c2];have:(b.1*m.2+m.1*b.2)*a.2*(A*B)=((b.1*(A*B))*m.2+(m.1*(A*B))*b.2)*a.2:=by grind
   rw[this,he,m1];grind
  have r:=A7 j l f g ps (eD b (br p.1 p.2)) (s+f p.1*g p.2) i step λq o=>h q (We _ o);rwa[ZO,Wb,Y5,<-aaU]
theorem pS(f g:Fr->Int):∀(us vs:List Fr),yx (us.map f) (vs.map g)=((us.zip vs).map λp=>f p.1*g p.2).sum
 |[],_=>by simp[yx]
 |_::_,[]=>by simp[yx]
 |u::us,v::vs=>by
  have:=pS f g us vs;unfold yx at this ⊢;simp only[Wb,YM,Y5,this]
def div_mul(h:b∣a)(c:Int):(c*a.fdiv b)*b=c*a:=by
 have:=qQ h;rw[Xj,WE _ b,this]
def iY{M β:Type}{xs:List M}{ys:List β}{p:M×β}(h:p∈xs.zip ys):p.1∈xs/\p.2∈ys:=XZ (a:=p.1) (b:=p.2) h
def qm{us vs:List Fr}(b:∀u∈us,cW u)(a:∀v∈vs,cW v):yS (kT us) (kT vs)=ml us vs:=by
 have e:=mO λu h=>(b u h).1;have f:=mO λu h=>(a u h).1;have c:c_ us≠0:=by lia
 have d:c_ vs≠0:=by lia
 obtain⟨h1,h2⟩:=A7 c d (λu=>u.1*(c_ us).fdiv u.2) (λu=>u.1*(c_ vs).fdiv u.2) (us.zip vs) (0,1) 0 rR .c λp hp=>by
  obtain⟨m1,m2⟩:=iY hp;exact#[b _ m1,a _ m2,div_mul (yh (λu h=>(b u h).1) m1) _,div_mul (yh (λu h=>(a u h).1) m2) _]
 rw[aaz] at h2;unfold yS kT;rw[pS];exact EY (Wl c d) h1 h2
def jl{us vs:List Fr}(b:∀u∈us,cW u)(a:∀v∈vs,cW v):cW (ml us vs):=by
 rw[<-qm b a];have c:=mO λu h=>(b u h).1;have d:=mO λu h=>(a u h).1;exact kR (Wl (by show c_ us≠0;lia) (by show c_ vs≠0;lia))
abbrev Tb:=List (List Fr)
variable{A B F:Tb}
def ki(T:Tb)(j:Int):List Fr:=T.map λr=>r.getD j.toNat (0,1)
def tj(T:Tb):Tb:=(iM T.length).map (ki T)
def u9(A B:Tb):Tb:=A.map λr=>((tj B).map kT).map (yS (kT r))
structure Sq(n:Nat)(T:Tb):Prop where
 len:T.length=n
 row:∀r∈T,r.length=n
 low:∀r∈T,∀u∈r,cW u
def getD_mem{M:Type}{l:List M}{d:M}(h:i<l.length):l.getD i d∈l:=by
 rw[Wa,V7 h];exact ZE h
def Sq.col{T:Tb}(h:Sq n T)(d:0<=j)(c:j<n):(ki T j).length=n/\∀u∈ki T j,cW u:=by
 refine#[by unfold ki;rw[V2];exact h.len,λu a=>?_];unfold ki at a;obtain⟨r,b,e⟩:=V3.mp a;subst e;exact h.low r b _ (getD_mem (by rw[h.row r b];lia))
def cI(h:j∈iM n):0<=j/\j<n:=by
 unfold iM at h;obtain⟨i,hi,e⟩:=V3.mp h;have:=W9.mp hi;lia
theorem Sq.tj{n:Nat}{T:Tb}(h:Sq n T):Sq n (tj T):=by
 refine#[by unfold Q.tj;rw[V2,cw];exact h.len,λr d=>?_,λr d=>?_]
 .obtain⟨j,c,e⟩:=V3.mp d;obtain⟨b,a⟩:=cI c;rw[h.len] at a;subst e;exact(h.col b a).1
 .obtain⟨j,c,e⟩:=V3.mp d;obtain⟨b,a⟩:=cI c;rw[h.len] at a;subst e;exact(h.col b a).2
def Gg(e:Sq n A)(a:Sq n B):u9 A B=A.map λr=>(iM n).map λj=>ml r (ki B j):=by
 unfold u9;apply WY;intro r f;unfold Q.tj;rw[W8,W8,a.len];apply WY;intro j d;obtain⟨c,b⟩:=cI d;exact qm (e.low r f) (a.col c b).2
theorem Sq.u9{n:Nat}{A B:Tb}(a:Sq n A)(c:Sq n B):Sq n (u9 A B):=by
 rw[Gg a c];refine#[by rw[V2];exact a.len,λr b=>?_,λr b u i=>?_]
 .obtain⟨q,d,e⟩:=V3.mp b;subst e;rw[V2,cw]
 .obtain⟨q,d,e⟩:=V3.mp b;subst e;obtain⟨j,h,e⟩:=V3.mp i;obtain⟨g,f⟩:=cI h;subst e;exact jl (a.low q d) (c.col g f).2
def tJ{us vs:List Fr}{k:Nat}(h1:k<us.length)(h2:k<vs.length):(us.zip vs).take (k+1)=(us.zip vs).take k++[(us.getD k (0,1),vs.getD k (0,1))]:=by
 have a:k<(us.zip vs).length:=by rw[X0];lia
 rw[Z7,V7 a,Wa,Wa,V7 h1,V7 h2];simp
def MX(n:Nat)(i:Int):List Fr:=(iM n).map λj=>if j=i then (1,1) else (0,1)
def M3(n:Nat):Tb:=(iM n).map λi=>MX n i
def Hg(n:Nat)(i:Int):(MX n i).length=n:=by unfold MX;rw[V2,cw]
def NB:cW (1,1):=#[.b,.b]
def gU(n:Nat):Sq n (M3 n):=by
 refine#[by unfold M3;rw[V2,cw],λr a=>?_,λr a u b=>?_]
 .obtain⟨i,_,e⟩:=V3.mp a;subst e;exact Hg n i
 .obtain⟨i,_,e⟩:=V3.mp a;subst e;obtain⟨j,_,e⟩:=V3.mp b;subst e;split
  .exact NB
  .exact rR
def KP(a:Sq n A)(d:Sq n B)(h:∀i j:Nat,i<n->j<n->(A.getD i []).getD j (0,1)=(B.getD i []).getD j (0,1)):A=B:=by
 refine Ź (by rw[a.len,d.len]) λi h1 h2=>?_;have c:=a.row _ (ZE h1);have e:=d.row _ (ZE h2);refine Ź (by rw[c,e]) λj b f=>?_;have:=h i j (by rwa[<-a.len]) (by rwa[<-c]);simp only[Wa,V7 h1,V7 h2,Y1,V7 b,V7 f] at this;exact this
def getD_map{M β:Type}{l:List M}{f:M->β}{d:β}{e:M}(h:i<l.length):(l.map f).getD i d=f (l.getD i e):=by
 rw[Wa,WJ,Wa,V7 h];rfl
def sM(h:i<n):(iM n).getD i d=(i:Int):=by rw[Wa,sJ h];rfl
def Jl{T:Tb}(h:Sq n T){j:Nat}(hi:i<n)(a:j<n):((tj T).getD i []).getD j (0,1)=(T.getD j []).getD i (0,1):=by
 unfold Q.tj;rw[getD_map (e:=0) (by rwa[cw,h.len]),sM (by rwa[h.len])];unfold ki;rw[getD_map (e:=[]) (by rwa[h.len]),Wm]
def HU(a:Sq n A)(c:Sq n B){j:Nat}(hi:i<n)(b:j<n):((u9 A B).getD i []).getD j (0,1)=ml (A.getD i []) (ki B j):=by
 rw[Gg a c,getD_map (e:=[]) (by rwa[a.len]),getD_map (e:=0) (by rwa[cw]),sM b]
def kX(a:Sq n A)(hi:i<n):A.getD i []∈A:=getD_mem (by rwa[a.len])
def Ci(a:Sq n A)(hi:i<n):(ki A j).getD i (0,1)=(A.getD i []).getD j.toNat (0,1):=by
 unfold ki;rw[getD_map (e:=[]) (by rwa[a.len])]
def val(u:Fr):Rat:=Rat.divInt u.1 u.2
def Gi{t:Int}(a:b≠0):val (fr t b)=Rat.divInt t b :=
 (aaB (kR a).ne a).mpr (m9 t b)
def val_inj{u v:Fr}(a:cW u)(b:cW v)(h:val u=val v):u=v :=
 K2 a b ((aaB a.ne b.ne).mp h)
def val_add{u v:Fr}(a:cW u)(b:cW v):val (eD u v)=val u+val v:=by
 unfold eD;rw[Gi (Wl a.ne b.ne)];exact(Rat.divInt_add_divInt u.1 v.1 a.ne b.ne).symm
def val_mul{u v:Fr}(a:cW u)(b:cW v):val (br u v)=val u*val v:=by
 unfold br;rw[Gi (Wl a.ne b.ne)];exact(Rat.divInt_mul_divInt u.1 v.1).symm
def BX:val (0,1)=0:=Rat.zero_divInt 1
def sN(f:Nat->Rat):Nat->Rat
 |0=>0
 |n+1=>sN f n+f n
theorem dZ{f g:Nat->Rat}:∀n,(∀i,i<n->f i=g i)->sN f n=sN g n
 |0,_=>rfl
 |n+1,h=>by
  show sN f n+f n=sN g n+g n;rw[dZ n λi hi=>h i .a,h n .a]
theorem Bm(c:Rat)(f:Nat->Rat):∀n,sN (λi=>c*f i) n=c*sN f n
 |0=>by show(0:Rat)=c*0;grind
 |n+1=>by
  show sN (λi=>c*f i) n+c*f n=c*(sN f n+f n);rw[Bm c f n];grind
def Ik(c:Rat)(f:Nat->Rat)(n:Nat):sN (λi=>f i*c) n=sN f n*c:=by
 rw[aaX,<-Bm];exact dZ n λi _=>aaX _ _
theorem wc:∀n,sN (λ_=>0) n=0
 |0=>rfl
 |n+1=>by show sN (λ_=>0) n+0=0;rw[wc n];grind
def Aj(r x:List Fr):Nat->Fr
 |0=>(0,1)
 |k+1=>eD (Aj r x k) (br (r.getD k (0,1)) (x.getD k (0,1)))
def mK{l:List Fr}(h:∀u∈l,cW u)(k:Nat):cW (l.getD k (0,1)):=by
 by_cases a:k<l.length
 .exact h _ (getD_mem a)
 .rw[Wa,ZI .a];exact rR
theorem xm{r x:List Fr}(d:∀u∈r,cW u)(c:∀u∈x,cW u):∀k,cW (Aj r x k)/\val (Aj r x k)=sN (λi=>val (r.getD i (0,1))*val (x.getD i (0,1))) k
 |0=>#[rR,BX]
 |k+1=>by
  obtain⟨a,b⟩:=xm d c k;have h1:=mK d k;have h2:=mK c k;refine#[vU a (lj h1 h2),?_];show val (eD _ (br _ _))=sN _ k+_;rw[val_add a (lj h1 h2),val_mul h1 h2,b]
theorem uj(r x:List Fr)(b:r.length=x.length):∀k,k<=r.length->Aj r x k=((r.zip x).take k).foldl (λa p=>eD a (br p.1 p.2)) (0,1)
 |0,_=>rfl
 |k+1,h=>by
  rw[tJ .a .a,aap,<-uj r x b k .a];rfl
def GC{r x:List Fr}(h1:r.length=n)(h2:x.length=n):ml r x=Aj r x n:=by
 rw[uj r x .a n .a,XD (by rw[X0];lia)];rfl
def jm{r x:List Fr}(h1:r.length=n)(h2:x.length=n)(b:∀u∈r,cW u)(a:∀u∈x,cW u):val (ml r x)=sN (λi=>val (r.getD i (0,1))*val (x.getD i (0,1))) n:=by
 rw[GC h1 h2];exact(xm b a n).2
def yX(T:Tb)(x:List Fr):List Fr:=(T.map kT).map (yS (kT x))
def GL{T:Tb}{x:List Fr}(b:∀r∈T,∀u∈r,cW u)(c:∀u∈x,cW u):yX T x=T.map λr=>ml x r:=by
 unfold yX;rw[W8];exact WY λr a=>qm c (b r a)
def E9{r x:List Fr}(h1:r.length=n)(h2:x.length=n)(b:∀u∈r,cW u)(a:∀u∈x,cW u):ml x r=ml r x:=by
 refine val_inj (jl a b) (jl b a) ?_;rw[jm h1 h2 b a,jm h2 h1 a b];exact dZ n λi _=>aaX _ _
def qc{T:Tb}{x:List Fr}(a:Sq n T)(b:∀u∈x,cW u):(yX T x).length=n/\∀u∈yX T x,cW u:=by
 rw[GL a.low b];refine#[by rw[V2];exact a.len,λu c=>?_];obtain⟨r,d,e⟩:=V3.mp c;rw[<-e];exact jl b (a.low r d)
def Hr{T:Tb}{x:List Fr}(a:Sq n T)(b:∀u∈x,cW u)(hi:i<n):(yX T x).getD i (0,1)=ml x (T.getD i []):=by
 rw[GL a.low b,getD_map (e:=[]) (by rwa[a.len])]
def rV{M:Type}{P:M->Prop}(c:∀a b,P a->P b->a=b){a:M}(h:P a):a=@ø M #[a] P :=
 c _ _ h (@Classical.epsilon_spec M P #[a,h])
noncomputable def uU:Nat->Nat
 |0=>0
 |n+1=>if (uU n+1)*(uU n+1)<=n+1 then uU n+1 else uU n
theorem Fg:∀n,uU n*uU n<=n
 |0=>V_ _
 |n+1=>by
  have:=Fg n;unfold uU;split<;>lia
theorem ED:∀n,n<(uU n+1)*(uU n+1)
 |0=>by decide
 |n+1=>by
  have h:=ED n;unfold uU;split
  .have:(uU n+1)*(uU n+1)<(uU n+1+1)*(uU n+1+1):=Nat.mul_lt_mul'' .a .a;lia
  .lia
def rt(k:Int):Int:=(uU k.toNat:Int)
def iZ(k:Int):0<=rt k:=by unfold rt;lia
def F5(h:0<=k):rt k*rt k<=k:=by
 have:=Fg k.toNat;unfold rt;have e:((uU k.toNat*uU k.toNat:Nat):Int)<=((k.toNat:Nat):Int):=by lia
 rw[X1] at e;lia
def Ks(h:0<=k):k<(rt k+1)*(rt k+1):=by
 have:=ED k.toNat;unfold rt;have e:((k.toNat:Nat):Int)<(((uU k.toNat+1)*(uU k.toNat+1):Nat):Int):=by lia
 rw[X1] at e;simp only[aaO,Int.natCast_one] at e;lia
def yB(c:0<=a)(h:a*a<b*b)(d:0<=b):a<b:=by
 apply V9;intro e;have:b*b<=a*a:=W_ .a .a d c;lia
def Bk(c:0<=a)(h:a<=b):a*a<=b*b:=W_ h h c .a
def oJ(d:0<=r)(h1:r*r<=k)(h2:k<(r+1)*(r+1)):r=rt k:=by
 have e:0<=k:=aaY (YF d d) h1;have a:=F5 e;have b:=Ks e;have c:=iZ k;have:=yB d (show r*r<(rt k+1)*(rt k+1) by lia) .a;have:=yB c (show rt k*rt k<(r+1)*(r+1) by lia) .a;lia
def xu(h:0<=k)(a:0<=d):d<rt k+1↔d*d<=k:=by
 constructor
 .intro z;exact aaY (Bk a .a) (F5 h)
 .intro z;exact yB a (by have:=Ks h;lia) (by have:=iZ k;lia)
def Ma(b:0<=k)(a:0<r)(h:k<r*r):0<=(r+k.fdiv r).fdiv 2/\(r+k.fdiv r).fdiv 2<r/\k<((r+k.fdiv r).fdiv 2+1)*((r+k.fdiv r).fdiv 2+1):=by
 rw[Ws k .a,Ws _ .b];have e:=Int.mul_ediv_add_emod k r;have f:=Wo k (show r≠0 by lia);have m1:=Wf k a;have d:0<=k/r:=Za b .a;have q1:k/r<r:=Int.ediv_lt_of_lt_mul a h;generalize k/r=q at *;generalize k%r=m at *;have i:2*((r+q)/2)<=r+q:=by lia
 have c:r+q+1<=2*((r+q)/2)+2:=by lia
 refine#[.a,.a,?_];generalize (r+q)/2=n at *;have j:(r+q+1)*(r+q+1)<=(2*n+2)*(2*n+2):=Bk .a c
 have g:0<=(r-(q+1))*(r-(q+1)):=by
  rcases ϲ 0 (r-(q+1)) with z|z
  .exact YF z z
  .exact Zo z z
 grind
def vB(k:Int):Prop:=∀d:Int,3<=d->d*d<=k->d%2=1->¬d∣k
open Classical in
def bg(k:Int):Bool:=decide (k=2\/(3<=k/\k%2=1/\vB k))
open Classical in
def cg:bg k=Â↔k=2\/(3<=k/\k%2=1/\vB k):=by unfold bg;exact WM
def aA(h:bg k=Â):2<=k:=by rcases cg.mp h with h|h<;>lia
noncomputable def Bj(n:Nat)(m:Nat):Bool:=@Nat.rec (λ_=>Bool) Â (λi a=>cond (í (n%(2*i+3)) 0) Á a) m
theorem xW{n:Nat}:∀{m:Nat},Bj n m=Â->∀i,i<m->n%(2*i+3)≠0
 |0,_,i,hi=>absurd hi (Xx _)
 |m+1,h,i,hi=>by
  have h':cond (í (n%(2*m+3)) 0) Á (Bj n m)=Â:=h;cases a:í (n%(2*m+3)) 0 with
  |true=>rw[a] at h';cases h'
  |false =>
   rw[a] at h';rcases aaC.mp hi with z|z
   .exact xW h' i z
   .subst z;intro e;rw[e] at a;cases a
def zj{m:Nat}(h:Bj n m=Â)(k:n<(2*m+3)*(2*m+3)):vB (n:Int):=by
 intro d j g l b
 have f:d<(2*m+3:Int):=yB .a (by
  have:(n:Int)<(((2*m+3)*(2*m+3):Nat):Int):=by lia
  rw[X1] at this;simp only[aaO,X1] at this
  exact Int.lt_of_le_of_lt g this) .a
 have z:=xW h ((d.toNat-3)/2) .a;have e:2*((d.toNat-3)/2)+3=d.toNat:=by lia
 rw[e] at z;obtain⟨c,i⟩:=b;apply z
 have a:d.toNat∣n:=by
  have:(d.toNat:Int)∣(n:Int):=#[c,by rw[i];congr 1;lia];exact Int.natCast_dvd_natCast.mp this
 exact Nat.mod_eq_zero_of_dvd a
def jI{m:Nat}(h:Bj n m=Â)(b:3<=n)(c:n%2=1)(a:n<(2*m+3)*(2*m+3)):bg (n:Int)=Â :=
 cg.mpr (.inr #[.a,.a,zj h a])
def PB:Int:=1070000011
def xr:bg PB=Â:=jI (n:=1070000011) (m:=16384) .d .b .b .b
def Ad:Nat->Int->Int
 |0,k=>k
 |n+1,k=>if bg k then k else Ad n (k+2)
def pf(k:Int):Int:=if k<3 then 2 else Ad 1073741824 (k+1-k%2)
theorem y9:∀(n:Nat) (k p:Int),bg p=Â->k<=p->(p-k)%2=0->p-k<=2*n->bg (Ad n k)=Â/\k<=Ad n k/\Ad n k<=p/\(Ad n k-k)%2=0
 |0,k,p,hp,h1,h2,e=>by
  have:k=p:=by lia
  subst this;exact#[hp,XE _,XE _,by unfold Ad;lia]
 |n+1,k,p,hp,h1,h2,e=>by
  unfold Ad;split
  .rename_i h;exact#[h,XE _,h1,.a]
  .rename_i h;have f:k≠p:=by rintro rfl;exact h hp
   obtain⟨a,b,c,d⟩:=y9 n (k+2) p hp .a .a .a;exact#[a,.a,c,.a]
def bQ:bg 2=Â:=cg.mpr (.inl rfl)
def F1(h:k<=PB):bg (pf k)=Â:=by
 unfold pf;split
 .exact bQ
 .exact(y9 _ _ PB xr (by unfold PB at *;lia) (by unfold PB at *;lia) (by unfold PB at *;lia)).1
def Fc{p:Int}(hp:bg p=Â)(h:k<=p)(b:p%2=1)(c:p<=PB)(a:3<=k):pf k<=p:=by
 unfold pf;rw[V4 .a];exact(y9 _ _ p hp .a .a (by unfold PB at *;lia)).2.2.1
def DJ(k b m:Int)(r:Option Int):Prop:=match r with
 |none=>∀d,b<=d->d<m->(d-b)%2=0->¬d∣k
 |some d=>b<=d/\d<m/\(d-b)%2=0/\d∣k/\∀d',b<=d'->d'<d->(d'-b)%2=0->¬d'∣k
def DJ.uniq:∀r a,DJ k b m r->DJ k b m a->r=a
 |none,none,_,_=>rfl
 |none,À d,h,h'=>absurd h'.2.2.2.1 (h d h'.1 h'.2.1 h'.2.2.1)
 |some d,none,h,h'=>absurd h.2.2.2.1 (h' d h.1 h.2.1 h.2.2.1)
 |some d,À d',h,h'=>by
  rcases YA d d' with z|z|z
  .exact absurd h.2.2.2.1 (h'.2.2.2.2 d h.1 z h.2.2.1)
  .rw[z]
  .exact absurd h'.2.2.2.1 (h.2.2.2.2 d' h'.1 z h'.2.2.1)
theorem DJ.ex(k b m:Int):∀n:Nat,(∃d,DJ k b m (À d))\/∀d,b<=d->d<m->d<b+2*n->(d-b)%2=0->¬d∣k
 |0=>.inr λd h1 h2 a=>by lia
 |n+1=>by
  rcases DJ.ex k b m n with h|h
  .exact .inl h
  .by_cases c:b+2*n<m/\(b+2*n:Int)∣k
   .exact .inl #[b+2*n,.a,c.1,.a,c.2,λd' h1 h2 a=>h d' h1 .a h2 a]
   .refine .inr λd h1 h2 a g f=>?_;by_cases e:d=b+2*n
    .subst e;exact c #[h2,f]
    .exact h d h1 h2 .a g f
def OA(k b m:Int):Option Int:=ø (DJ k b m)
def vE{r:Option Int}(h:DJ k b m r):r=OA k b m:=rV DJ.uniq h
def zh(k b m:Int):DJ k b m (OA k b m):=by
 rcases DJ.ex k b m (m-b).toNat with⟨d,h⟩|h
 .rw[<-vE h];exact h
 .have z:DJ k b m none:=λd h1 h2 a=>h d h1 h2 .f a;rwa[<-vE z]
def pP(k b e:Int):Option Int:=OA k b (if rt k+1<e then rt k+1 else e)
def fM:k.fmod d=0↔d∣k:=#[Int.dvd_of_fmod_eq_zero,Int.fmod_eq_zero_of_dvd]
def Hn(a:3<=k)(e:k%2=1):(pP k 3 k).isNone=bg k:=by
 have hz:=zh k 3 (if rt k+1<k then rt k+1 else k)
 have g:rt k+1<=k:=by
  have:=(xu (show 0<=k by lia) (show 0<=k by lia)).mp;apply V9;intro h;have z:=this .a;have:3*k<=k*k:=W_ a (XE k) .a .a;lia
 have b:(if rt k+1<k then rt k+1 else k)=rt k+1:=by split<;>lia
 rw[b] at hz;unfold pP;rw[b];cases c:OA k 3 (rt k+1) with
 |none =>
  rw[c] at hz;symm;refine cg.mpr (.inr #[a,e,λd h1 h2 f=>hz d h1 ((xu .a .a).mpr h2) .a])
 |some d =>
  rw[c] at hz;symm;show bg k=Á;cases hp:bg k with
  |false=>rfl
  |true =>
   rcases cg.mp hp with z|⟨_,_,z⟩
   .lia
   .have h1:3<=d:=hz.1;exact absurd hz.2.2.2.1 (z d hz.1 ((xu .a .a).mp hz.2.1) (by have:=hz.2.2.1;lia))
def vO{p:Int}(hp:bg p=Â)(n:0<d)(h:d∣p):d=1\/d=p:=by
 obtain⟨e,he⟩:=h;have k:=aA hp
 have m:0<e:=by
  apply V9;intro g;have:d*e<=0:=WU .a .a;lia
 rcases cg.mp hp with h2|⟨q,o,i⟩
 .have:d<=2:=by
   have:=Wt (show(0:Int)<2 by decide) (#[e,.a]:d∣2);lia
  lia
 .apply V9;intro g;have l:d≠1:=λz=>g (.inl z);have hd2:d≠p:=λz=>g (.inr z);have j:e≠1:=by rintro rfl;lia
  have b:d%2=1:=by
   rcases ZS d with z|z
   .obtain⟨c,f⟩:=Wh z;rw[f,Xj] at he;lia
   .exact z
  have a:e%2=1:=by
   rcases ZS e with z|z
   .obtain⟨c,f⟩:=Wh z;rw[f,Ż] at he;lia
   .exact z
  rcases ϲ d e with z|z
  .exact i d .a (by rw[he];exact Wc z .a) b #[e,he]
  .exact i e .a (by rw[he];exact W5 z .a) a #[d,by rw[he,WE]]
def euclid{p:Int}(hp:bg p=Â)(h:p∣a*b):p∣a\/p∣b:=by
 have e:=aA hp
 have d:(0:Int)<(Ì p a:Nat):=by
  have:=YX a (show p≠0 by lia);lia
 rcases vO hp d (X6 p a) with z|z
 .right
  have c:Nat.Coprime p.natAbs a.natAbs:=by
   show Nat.gcd p.natAbs a.natAbs=1;have:Ì p a=1:=by lia
   exact this
  have:=Yu.mpr h;rw[Xd] at this;exact Yu.mp (c.dvd_of_dvd_mul_left this)
 .left;rw[<-z];exact XO p a
def tQ:a%m=b%m↔m∣a-b:=by
 rw[Int.emod_eq_emod_iff_emod_sub_eq_zero];exact#[Wh,W3]
theorem g5(x m:Int):∀n:Nat,(x%m)^n%m=x^n%m
 |0=>by rw[WG,WG]
 |n+1=>by rw[Wk,Wk,XT,g5 x m n,YD _ (Yb m),<-XT]
def Lr{α L:List Int}(g:α.Nodup)(d:∀x,x∈α->x∈L):∃b,L.Perm (α++b):=by
 induction α generalizing L with
 |nil=>exact#[L,List.Perm.refl _]
 |cons x α f =>
  have e:x∈L:=d x (Wu ..);have a:=Xw.mp g;obtain⟨b,h⟩:=f (L:=L.erase x) a.2 λy c=>(Ŋ (by rintro rfl;exact a.1 c)).mpr (d y (We _ c));exact#[b,(List.perm_cons_erase e).trans (List.Perm.cons x h)]
def g9:List Int->Int
 |[]=>1
 |x::l=>x*g9 l
def Ay{l a:List Int}(h:l.Perm a):g9 l=g9 a:=by
 induction h with
 |nil=>rfl
 |cons x _ b=>show x*_=x*_;rw[b]
 |swap x y l=>show y*(x*_)=x*(y*_);rw[Ż]
 |trans _ _ h1 h2=>exact h1.trans h2
theorem uM{p a:Int}:∀l:List Int,p∣g9 (l.map λx=>a*x%p)-a^l.length*g9 l
 |[]=>#[0,by simp[g9]]
 |x::l=>by
  obtain⟨c,d⟩:=uM (p:=p) (a:=a) l;have e:=Int.emod_def (a*x) p;have e1:g9 (List.map (λx=>a*x%p) (x::l))=(a*x%p)*g9 (l.map λx=>a*x%p):=rfl;have e2:g9 (x::l)=x*g9 l:=rfl;rw[e1,e2,WN,Wk];generalize g9 (l.map λx=>a*x%p)=u at *;generalize a*x/p=q at *;generalize a*x%p=r at *;generalize a^l.length=t at *;generalize g9 l=v at *;have b:u=t*v+p*c:=by lia
  exact#[a*x*c-q*u,by rw[e];grind]
theorem lN{p:Int}(hp:bg p=Â):∀l:List Int,(∀x,x∈l->¬p∣x)->¬p∣g9 l
 |[],_=>λh=>by
  have:=aA hp;have:=Wt .b (show p∣(1:Int) from h);lia
 |x::l,a=>λh=>by
  rcases euclid hp (show p∣x*g9 l from h) with z|z
  .exact a x (Wu ..) z
  .exact lN hp l (λy b=>a y (We _ b)) z
def gD{p:Int}(h:p∣x)(h1:-p<x)(h2:x<p):x=0:=by
 obtain⟨c,rfl⟩:=h;have hp:0<p:=by lia
 by_cases a:c=0
 .rw[a,YG]
 .rcases aaf a with z|z
  .have:p*c<=p*(-1):=Wc .a .a;lia
  .have:p*1<=p*c:=Wc .a .a;lia
def Ge{p:Int}(hp:bg p=Â)(ha:¬p∣a):p∣a^(p-1).toNat-1:=by
 have t:=aA hp;let L:List Int:=(Ú (p-1).toNat).map λi:Nat=>(i:Int)+1
 have k:∀x,x∈L↔1<=x/\x<p:=by
  intro x;simp only[L,V3,W9];constructor
  .rintro⟨i,h,rfl⟩;lia
  .rintro⟨h1,h2⟩;exact#[(x-1).toNat,.a,.a]
 have l:L.Nodup:=by
  refine aaq.mpr (Ze ?_ (aaD (n:=(p-1).toNat)));intro i j _ _ u;lia
 have g:L.length=(p-1).toNat:=by simp[L]
 clear_value L
 have e:∀x,x∈L->¬p∣x:=λx d s=>by
  have:=(k x).mp d;have:=gD s .a .a;lia
 have q:(L.map λx=>a*x%p).Nodup:=by
  refine aaq.mpr (Ze ?_ l);intro x y d m w he;have h1:p∣a*(x-y):=by rw[Zw];exact tQ.mp he
  rcases euclid hp h1 with z|z
  .exact ha z
  .have:=(k x).mp d;have:=(k y).mp m;have:=gD z .a .a;lia
 have v:∀x,x∈(L.map λx=>a*x%p)->x∈L:=by
  intro y m;obtain⟨x,d,rfl⟩:=V3.mp m;have B:=Wo (a*x) (show p≠0 by lia);have h1:=Wf (a*x) (show 0<p by lia);refine(k _).mpr #[?_,h1];apply V9;intro C;have hz:a*x%p=0:=by lia
  rcases euclid hp (Wh hz) with z|z
  .exact ha z
  .exact e x d z
 obtain⟨r,b⟩:=Lr q v
 have o:r=[]:=by
  have:=b.length_eq;rw[WL,V2] at this;exact ZX .a
 rw[o,Yq] at b;have f:=uM (p:=p) (a:=a) L;rw[<-Ay b,g] at f
 have h2:p∣(a^(p-1).toNat-1)*g9 L:=by
  obtain⟨c,A⟩:=f;exact#[-c,by rw[Int.sub_mul,Xe,aab];lia]
 rcases euclid hp h2 with z|z
 .exact z
 .exact absurd z (lN hp L e)
def OQ{p:Int}(hp:bg p=Â)(h2:p≠2)(ha:¬p∣a):p∣a^((p-1)/2).toNat-1\/p∣a^((p-1)/2).toNat+1:=by
 have d:p%2=1:=by rcases cg.mp hp with z|z<;>lia
 have c:=aA hp;have b:=Ge hp ha;rw[show(p-1).toNat=((p-1)/2).toNat+((p-1)/2).toNat by lia,WZ] at b;generalize a^((p-1)/2).toNat=y at *;exact euclid hp (show p∣(y-1)*(y+1) by rwa[show(y-1)*(y+1)=y*y-1 by grind])
noncomputable def ck(k p:Int):Int:=if k%p=0 then 0 else if p=2 then 1 else if (k%p)^((p-1)/2).toNat%p=1 then 1 else -1
def eN{p:Int}(h:p∣k):ck k p=0:=V6 (W3 h)
def Bi(k p:Int):ck (k%p) p=ck k p:=by unfold ck;rw[YD _ (Yb p)]
def mM{p:Int}(h:k%p=l%p):ck k p=ck l p:=by unfold ck;rw[h]
def gz{p:Int}(hp:bg p=Â)(h2:p≠2)(a:¬p∣k):ck k p=1↔p∣k^((p-1)/2).toNat-1:=by
 have b:=aA hp;unfold ck;rw[V4 (λz=>a (Wh z)),V4 h2,g5,<-tQ,YS (show(0:Int)<=1 by decide) (show(1:Int)<p by lia)];split
 .rename_i h;exact#[λ_=>h,λ_=>rfl]
 .rename_i h;exact#[λz=>absurd z .b,λz=>absurd z h]
def eU{p:Int}(a:¬p∣k):ck k p=1\/ck k p=-1:=by
 unfold ck;rw[V4 (λz=>a (Wh z))];split
 .exact .inl rfl
 .split
  .exact .inl rfl
  .exact .inr rfl
def jv{p:Int}(hp:bg p=Â)(h2:p≠2)(a:¬p∣k):ck k p=-1↔p∣k^((p-1)/2).toNat+1:=by
 have g:=aA hp;have e:=gz hp h2 a;rcases OQ hp h2 a with z|z
 .rw[e.mpr z];refine#[λw=>absurd w .b,λw=>?_]
  have:p∣2:=by
   obtain⟨c,f⟩:=z;obtain⟨d,b⟩:=w;exact#[d-c,by rw[Zw];lia]
  have:=Wt .b this;lia
 .refine#[λ_=>z,λ_=>?_];rcases eU a with w|w
  .have:p∣2:=by
    obtain⟨c,f⟩:=e.mp w;obtain⟨d,b⟩:=z;exact#[d-c,by rw[Zw];lia]
   have:=Wt .b this;lia
  .exact w
def gr{p:Int}(hp:bg p=Â)(a b:Int):ck (a*b) p=ck a p*ck b p:=by
 have n:=aA hp;by_cases ha:p∣a
 .rw[eN ha,Int.zero_mul,eN (Wz ha #[b,rfl])]
 by_cases g:p∣b
 .rw[eN g,YG,eN (Wz g #[a,WE ..])]
 have f:¬p∣a*b:=λz=>by rcases euclid hp z with z|z<;>contradiction
 by_cases h2:p=2
 .subst h2;have e:∀k:Int,¬(2:Int)∣k->ck k 2=1:=λk o=>by unfold ck;rw[V4 (λz=>o (Wh z)),V6 rfl]
  rw[e _ ha,e _ g,e _ f];rfl
 have j:(a*b)^((p-1)/2).toNat=a^((p-1)/2).toNat*b^((p-1)/2).toNat:=aac ..;rcases eU ha with i|i<;>rcases eU g with h|h<;>rw[i,h]
 .refine(gz hp h2 f).mpr ?_;obtain⟨c,m⟩:=(gz hp h2 ha).mp i;obtain⟨d,l⟩:=(gz hp h2 g).mp h;rw[j];exact#[c*d*p+c+d,by grind]
 .refine(jv hp h2 f).mpr ?_;obtain⟨c,m⟩:=(gz hp h2 ha).mp i;obtain⟨d,l⟩:=(jv hp h2 g).mp h;rw[j];exact#[c*d*p-c+d,by grind]
 .refine(jv hp h2 f).mpr ?_;obtain⟨c,m⟩:=(jv hp h2 ha).mp i;obtain⟨d,l⟩:=(gz hp h2 g).mp h;rw[j];exact#[c*d*p+c-d,by grind]
 .refine(gz hp h2 f).mpr ?_;obtain⟨c,m⟩:=(jv hp h2 ha).mp i;obtain⟨d,l⟩:=(jv hp h2 g).mp h;rw[j];exact#[c*d*p-c-d,by grind]
def yN(k d:Int)(r:Int×Int):Prop:=0<=r.1/\k=r.2*d^r.1.toNat/\¬d∣r.2
def yN.lt(g:2<=d){r a:Int×Int}(h:yN k d r)(h':yN k d a)(f:r.1<a.1):False:=by
 obtain⟨i,c,b⟩:=h;obtain⟨b1,b2,b3⟩:=h';have e:a.1.toNat=(a.1.toNat-r.1.toNat-1)+1+r.1.toNat:=by lia
 rw[e,WZ,Wk] at b2;have hp:d^r.1.toNat≠0:=Ρ .a;have z:r.2*d^r.1.toNat=(a.2*d^(a.1.toNat-r.1.toNat-1)*d)*d^r.1.toNat:=by rw[<-c,b2];grind
 have w:=X5 hp z;exact b #[a.2*d^(a.1.toNat-r.1.toNat-1),by rw[w,WE]]
def yN.uniq(b:2<=d)(r a:Int×Int)(h:yN k d r)(h':yN k d a):r=a:=by
 have h1:r.1=a.1:=by
  rcases YA r.1 a.1 with z|z|z
  .exact(yN.lt b h h' z).elim
  .exact z
  .exact(yN.lt b h' h z).elim
 have hp:d^r.1.toNat≠0:=Ρ .a
 have h2:r.2=a.2:=by
  have:=h.2.1.symm.trans h'.2.1;rw[<-h1] at this;exact X5 hp this
 exact Ϸ h1 h2
theorem yN.ex{d:Int}(g:2<=d):∀(n:Nat) (k:Int),k≠0->k.natAbs<=n->∃r,yN k d r
 |0,k,e,j=>by lia
 |n+1,k,e,j=>by
  by_cases h:d∣k
  .obtain⟨c,a⟩:=h;have b:c≠0:=by rintro rfl;rw[YG] at a;exact e a
   have f:c.natAbs<k.natAbs:=by
    rw[a,Xd];have:2*c.natAbs<=d.natAbs*c.natAbs:=Y3 _ .a;lia
   obtain⟨r,h1,h2,i⟩:=yN.ex g n c b .a;refine#[(r.1+1,r.2),.e,?_,i];dsimp only;rw[show(r.1+1).toNat=r.1.toNat+1 by lia,Wk,a];rw[show d*c=d*(r.2*d^r.1.toNat) by rw[<-h2]];grind
  .exact#[(0,k),XE 0,by dsimp only;rw[show(0:Int).toNat=0 from rfl,WG,WO],h]
def bF(k d:Int):Int×Int:=ø (yN k d)
def o6(a:2<=d){r:Int×Int}(h:yN k d r):bF k d=r:=(rV (yN.uniq a) h).symm
def kc(b:2<=d)(h:k≠0):yN k d (bF k d):=by
 obtain⟨r,a⟩:=yN.ex b k.natAbs k h (V_ _);rwa[o6 b a]
def B1{v:Nat}(a:2<=d)(h:¬d∣k):bF (k*d^v) d=((v:Int),k) :=
 o6 a #[.e,by dsimp only;rw[Wm],h]
def Ii{p:Int}(hp:bg p=Â)(ha:a≠0)(d:b≠0):bF (a*b) p=((bF a p).1+(bF b p).1,(bF a p).2*(bF b p).2):=by
 have c:=aA hp;obtain⟨g,e,f⟩:=kc c ha;obtain⟨b1,b2,b3⟩:=kc c d;refine o6 c #[.e,?_,λz=>by rcases euclid hp z with w|w<;>contradiction];dsimp only;rw[show((bF a p).1+(bF b p).1).toNat=(bF a p).1.toNat+(bF b p).1.toNat by lia,WZ];generalize (bF a p).1.toNat=m at *;generalize (bF b p).1.toNat=n at *;generalize (bF a p).2=u at *;generalize (bF b p).2=v at *;rw[e,b2];generalize p^m=x;generalize p^n=y;grind
def xE(f:2<=d)(h:d∣k)(b:k≠0):k.fdiv d*d=k/\k.fdiv d≠0/\(k.fdiv d).natAbs<k.natAbs:=by
 obtain⟨c,rfl⟩:=h;have e:(d*c).fdiv d=c:=aaA c .a;rw[e];have a:c≠0:=by rintro rfl;simp at b
 refine#[WE ..,a,?_];rw[Xd];have:2*c.natAbs<=d.natAbs*c.natAbs:=Y3 _ .a;lia
def cls(k p:Int):Int×Int:=((bF k p).1%2,if p=2 then (bF k p).2%8 else ck (bF k p).2 p)
def b1(c:Bool):Int:=if c then 1 else 0
noncomputable def yI(x y:Int×Int):Bool:=decide ((b1 (decide (x.2%4=3)&&decide (y.2%4=3))+b1 (decide (x.1=1)&&(decide (y.2=3) || decide (y.2=5)))+b1 (decide (y.1=1)&&(decide (x.2=3) || decide (x.2=5))))%2=0)
noncomputable def DC(x y:Int×Int)(p:Int):Bool:=decide ((if x.1=1 then y.2 else 1)*(if y.1=1 then x.2 else 1)*(if x.1=1/\y.1=1 then ck (-1) p else 1)=1)
def lK(a b p:Int):Bool:=if p=0 then decide (0<a) || decide (0<b) else if p=2 then yI (cls a p) (cls b p) else DC (cls a p) (cls b p) p
noncomputable def iJ(x y:Int×Int)(p:Int):Int×Int:=((x.1+y.1)%2,if p=2 then x.2*y.2%8 else x.2*y.2)
def cf{p:Int}(hp:bg p=Â)(ha:a≠0)(c:b≠0):cls (a*b) p=iJ (cls a p) (cls b p) p:=by
 unfold cls iJ;rw[Ii hp ha c];dsimp only;by_cases h:p=2
 .rw[V6 h,V6 h,V6 h,V6 h];exact Ϸ .e (XT ..)
 .rw[V4 h,V4 h,V4 h,V4 h];exact Ϸ .e (gr hp ..)
noncomputable def CO:List (Int×Int):=[(0,1),(0,-1),(1,1),(1,-1)]
def IP{p:Int}(hp:2<=p)(h2:p≠2)(ha:a≠0):cls a p∈CO:=by
 obtain⟨_,_,b⟩:=kc hp ha;unfold cls;rw[V4 h2];rcases ZS (bF a p).1 with z|z<;>rcases eU b with w|w<;>rw[z,w]<;>decide
def NK{p:Int}(hp:2<=p):ck (-1) p∈[(1:Int),-1]:=by
 have:¬p∣-1:=λz=>by
  have:=Wt .b ((YE).mp z);lia
 rcases eU this with w|w<;>rw[w]<;>decide
noncomputable def Ho(x y:Int×Int)(m:Int):Bool:=decide ((if x.1=1 then y.2 else 1)*(if y.1=1 then x.2 else 1)*(if x.1=1/\y.1=1 then m else 1)=1)
def Md(x y:Int×Int)(p:Int):DC x y p=Ho x y (ck (-1) p):=rfl
def eV{x y:Int×Int}{p:Int}(h:p≠2):iJ x y p=iJ x y 3:=by unfold iJ;rw[V4 h,V4 .b]
def tX:lK a b 2=yI (cls a 2) (cls b 2):=by unfold lK;rw[V4 .b,V6 rfl]
def t9{p:Int}(c:p≠0)(h2:p≠2):lK a b p=Ho (cls a p) (cls b p) (ck (-1) p):=by unfold lK;rw[V4 c,V4 h2,Md]
def Gn{p:Int}(hp:bg p=Â):cls (-1) p=(0,if p=2 then 7 else ck (-1) p):=by
 have a:=aA hp
 have b:¬p∣-1:=λz=>by
  have:=Wt .b ((YE).mp z);lia
 have e:bF (-1) p=(0,-1):=o6 a #[XE 0,by dsimp only;rw[show(0:Int).toNat=0 from rfl,WG,WO],b];unfold cls;rw[e];rfl
def Fb{p:Int}(hp:2<=p)(h:¬p∣a):bF a p=(0,a) :=
 o6 hp #[XE 0,by dsimp only;rw[show(0:Int).toNat=0 from rfl,WG,WO],h]
def zO{p:Int}(hp:bg p=Â)(h2:p≠2)(h:p∣a-1):ck a p=1:=by
 have b:=aA hp;rw[mM (l:=1) (tQ.mpr h)];unfold ck;rw[YS .b .a,V4 .b,V4 h2,Int.one_pow,YS .b .a,V6 rfl]
def Cp(e:Int):Nat->List (Int×Int)->Int->Int->List (Int×Int)×Int
 |0,fs,l,_=>(fs,l)
 |n+1,fs,l,b=>match pP l b e with
  |none=>(fs,l)
  |some d=>Cp e n (fs++[(d,(bF l d).1)]) (bF l d).2 (d+2)
def wU(k:Int):List (Int×Int):=if 0<(bF k 2).1 then [(2,(bF k 2).1)] else []
def bG(k e:Int):List (Int×Int)×Int:=Cp e k.toNat (wU k) (bF k 2).2 3
def km(c:0<=l)(k:1<=b)(h:pP l b e=À d):b<=d/\d<e/\d*d<=l/\(d-b)%2=0/\d∣l/\∀d',b<=d'->d'<d->(d'-b)%2=0->¬d'∣l:=by
 have z:=zh l b (if rt l+1<e then rt l+1 else e);unfold pP at h;rw[h] at z;obtain⟨g,f,a,j,i⟩:=z;have h1:d<rt l+1/\d<e:=by split at f<;>omega
 exact#[g,h1.2,(xu c .f).mp h1.1,a,j,i]
def yt(c:0<=l)(g:1<=b)(h:pP l b e=none):∀d,b<=d->d<e->d*d<=l->(d-b)%2=0->¬d∣l:=by
 have z:=zh l b (if rt l+1<e then rt l+1 else e);unfold pP at h;rw[h] at z;intro d h1 h2 a f;have:=(xu c .f).mpr a;exact z d h1 (by split<;>omega) f
def wd(b:2<=d)(i:0<l)(h:d∣l):0<(bF l d).2/\2*(bF l d).2<=l/\1<=(bF l d).1/\(bF l d).2∣l:=by
 obtain⟨h1,h2,c⟩:=kc b (show l≠0 by lia)
 have a:1<=(bF l d).1:=by
  apply V9;intro f;have e:(bF l d).1.toNat=0:=by lia
  rw[e,WG,WO] at h2;exact c (h2▸h)
 have hp:(2:Int)<=d^(bF l d).1.toNat:=by
  have e:(bF l d).1.toNat=((bF l d).1.toNat-1)+1:=by lia
  rw[e,Wk];have:(0:Int)<d^((bF l d).1.toNat-1):=WK .a;have:1*2<=d^((bF l d).1.toNat-1)*d:=W_ .a b .b .a;lia
 generalize (bF l d).2=x at *;generalize d^(bF l d).1.toNat=t at *
 have g:0<x:=by
  apply V9;intro f;have:x*t<=0:=YB .a .a;lia
 have:x*2<=x*t:=Wc hp .a;exact#[g,.a,a,#[t,h2]]
noncomputable def pp:List (Int×Int)->Int
 |[]=>1
 |u::us=>u.1^u.2.toNat*pp us
theorem qz(u:Int×Int):∀us,pp (us++[u])=pp us*u.1^u.2.toNat
 |[]=>by show _*1=1*_;rw[WO,Xe]
 |v::us=>by
  show v.1^v.2.toNat*pp (us++[u])=v.1^v.2.toNat*pp us*_;rw[qz u us,Xj]
def jN:Int->List (Int×Int)->Int->Prop
 |a,[],b=>a<b
 |a,u::us,b=>a<u.1/\bg u.1=Â/\1<=u.2/\jN u.1 us b
theorem jN.snoc{b b':Int}{u:Int×Int}(d:bg u.1=Â)(h1:1<=u.2)(e:b<=u.1)(c:u.1<b'):∀{a us},jN a us b->jN a (us++[u]) b'
 |_,[],h=>#[Int.lt_of_lt_of_le h e,d,h1,c]
 |_,_::_,h=>#[h.1,h.2.1,h.2.2.1,jN.snoc d h1 e c h.2.2.2]
structure zV(k:Int)(fs:List (Int×Int))(l b:Int):Prop where
 rise:jN 1 fs b
 prod:pp fs*l=k
 pos:0<l
 odd:l%2=1
 b3:3<=b
 bo:b%2=1
 free:∀d,3<=d->d<b->d%2=1->¬d∣l
def zV.prime{fs:List (Int×Int)}(I:zV k fs l b)(h:pP l b e=À d):bg d=Â:=by
 obtain⟨h1,h2,r,q,o,j⟩:=km (XG I.pos) (by have:=I.b3;lia) h;have s:=I.b3;have n:=I.bo;refine cg.mpr (.inr #[.a,.a,λf g p m i=>?_]);have a:f∣l:=Wz i o
 have c:f<d:=by
  have:f*3<=f*f:=Wc g .a;lia
 rcases Xy f b with z|z
 .exact I.free f g z m a
 .exact j f z c .a a
def zV.step{fs:List (Int×Int)}(I:zV k fs l b)(h:pP l b e=À d):zV k (fs++[(d,(bF l d).1)]) (bF l d).2 (d+2):=by
 obtain⟨h1,h2,C,B,t,p⟩:=km (XG I.pos) (by have:=I.b3;lia) h;have D:=I.b3;have s:=I.bo;obtain⟨v,x,j,i⟩:=wd (show 2<=d by lia) I.pos t;obtain⟨E,o,u⟩:=kc (show 2<=d by lia) (show l≠0 by have:=I.pos;lia);refine#[I.rise.snoc (I.prime h) j h1 .a,?_,v,?_,.a,.a,λf n w r g=>?_]
 .rw[qz,Xj,WE (d^_),<-o,I.prod]
 .have A:=I.odd;obtain⟨c,m⟩:=i;rcases ZS (bF l d).2 with z|z
  .obtain⟨y,q⟩:=Wh z;rw[q,Xj] at m;lia
  .exact z
 .have a:f∣l:=Wz g i;rcases YA f d with z|z|z
  .rcases Xy f b with y|y
   .exact I.free f n y r a
   .exact p f y z .a a
  .rw[z] at g;exact u g
  .lia
theorem F8{k e:Int}:∀(n:Nat) (fs:List (Int×Int)) (l b:Int),zV k fs l b->l<=n->∃b',zV k (Cp e n fs l b).1 (Cp e n fs l b).2 b'/\pP (Cp e n fs l b).2 b' e=none
 |0,fs,l,b,I,h=>by have:=I.pos;lia
 |n+1,fs,l,b,I,h=>by
  unfold Cp;cases a:pP l b e with
  |none=>exact#[b,I,a]
  |some d =>
   obtain⟨h1,h2,o,m,c,j⟩:=km (XG I.pos) (by have:=I.b3;lia) a;obtain⟨p,i,f,g⟩:=wd (show 2<=d by have:=I.b3;lia) I.pos c;exact F8 n _ _ _ (I.step a) .a
def oG(f:1<=k):zV k (wU k) (bF k 2).2 3/\(bF k 2).2<=k:=by
 obtain⟨i,c,h⟩:=kc (show(2:Int)<=2 by decide) (show k≠0 by lia);have a:(bF k 2).2%2=1:=by lia
 have hp:(0:Int)<2^(bF k 2).1.toNat:=WK .b
 have hpos:0<(bF k 2).2:=by
  apply V9;intro g;have:(bF k 2).2*2^(bF k 2).1.toNat<=0:=YB .a .a;lia
 have b:(bF k 2).2<=k:=by
  have:(bF k 2).2*1<=(bF k 2).2*2^(bF k 2).1.toNat:=Wc .a .a;lia
 refine#[#[?_,?_,hpos,a,.b,.b,λd h1 h2=>by lia],b]
 .unfold wU;split
  .exact#[by show(1:Int)<2;decide,bQ,.e,by show(2:Int)<3;decide]
  .show(1:Int)<3;decide
 .unfold wU;split
  .show(2^(bF k 2).1.toNat*1)*_=k;rw[WO,WE];exact c.symm
  .have e:(bF k 2).1.toNat=0:=by lia
   rw[e,WG,WO] at c;show 1*_=k;rw[Xe];exact c.symm
def nF(a:1<=k):∃b,zV k (bG k e).1 (bG k e).2 b/\pP (bG k e).2 b e=none:=by
 obtain⟨I,h⟩:=oG a;exact F8 k.toNat _ _ 3 I .a
def O5(k:Int):List (Int×Int):=(bG k (k+1)).1++(if 1<(bG k (k+1)).2 then [((bG k (k+1)).2,1)] else [])
theorem jr:∀{us:List (Int×Int)} {a b:Int},0<=a->jN a us b->0<pp us
 |[],_,_,_,_=>by show(0:Int)<1;decide
 |u::us,a,b,ha,h=>Xc (WK (by have:=h.1;lia)) (jr (by have:=h.1;lia) h.2.2.2)
def Ld(m:1<=k):(∃b,jN 1 (O5 k) b)/\pp (O5 k)=k:=by
 obtain⟨b,I,o⟩:=nF (e:=k+1) m
 have j:(bG k (k+1)).2<=k:=by
  have h1:=I.prod;have h2:=jr .b I.rise;have s:=I.pos;have:1*(bG k (k+1)).2<=pp (bG k (k+1)).1*(bG k (k+1)).2:=W5 .a .a;lia
 unfold O5;generalize bG k (k+1)=r at *;split
 .rename_i q;have a:=I.odd;have p:=I.b3;have n:=I.bo
  have d:b<=r.2:=by
   rcases Xy r.2 b with z|z
   .exact absurd (Yb r.2) (I.free r.2 .a z a)
   .exact z
  have c:bg r.2=Â:=by
   refine cg.mpr (.inr #[.a,a,λf h i l g=>?_]);rcases Xy f b with z|z
   .exact I.free f h z l g
   .refine yt .a .a o f z ?_ i .a g;have:f*3<=f*f:=Wc h .a;lia
  refine#[#[r.2+1,I.rise.snoc c (XE 1) d .e],?_];rw[qz];show pp r.1*r.2^(1:Int).toNat=k;rw[show(1:Int).toNat=1 from rfl,Wk,WG,Xe];exact I.prod
 .have:r.2=1:=by have:=I.pos;lia
  rw[Yq];refine#[#[b,I.rise],?_];have:=I.prod;rwa[‹r.2=1›,WO] at this
section
variable{p a:Int}(hp:bg p=Â)(h2:p≠2)(ha:¬p∣a)
include hp h2 in
theorem B6:p%2=1/\3<=p:=by
 have:=aA hp;rcases cg.mp hp with z|z<;>lia
end
def Cg(p a b:Int):Prop:=p∣a-b
def ic(p a:Int):Cg p a a:=#[0,.a]
def wq{p:Int}(h:Cg p a b):Cg p b a:=by obtain⟨c,h⟩:=h;exact#[-c,by rw[aab];lia]
def cz{p:Int}(h:Cg p a b)(h':Cg p b c):Cg p a c:=by
 obtain⟨x,h⟩:=h;obtain⟨y,h'⟩:=h';exact#[x+y,by rw[ŕ];lia]
def iO{p:Int}(h:Cg p a b)(h':Cg p c d):Cg p (a*c) (b*d):=by
 obtain⟨x,h⟩:=h;obtain⟨y,h'⟩:=h';exact#[x*c+b*y,by grind]
theorem oZ{p a b:Int}(h:Cg p a b):∀n:Nat,Cg p (a^n) (b^n)
 |0=>by rw[WG,WG];exact ic _ _
 |n+1=>by rw[Wk,Wk];exact iO (oZ h n) h
def e8(p a:Int):Cg p (a%p) a:=by
 have:=WT a p;exact#[-(a/p),by rw[aab];lia]
def Ko{p:Int}(ha:0<=a/\a<p)(c:0<=b/\b<p)(h:Cg p a b):a=b:=by
 have:=gD h .a .a;lia
def NA{p y:Int}(hp:bg p=Â)(h:Cg p (y*y) 1):Cg p y 1\/Cg p y (-1):=by
 have:p∣(y-1)*(y+1):=by rw[show(y-1)*(y+1)=y*y-1 by grind];exact h
 rcases euclid hp this with z|z
 .exact .inl z
 .exact .inr (by unfold Cg;rwa[show y - -1=y+1 by lia])
def Kd(p k:Int):Prop:=2<=k/\ck k p=-1/\∀j,2<=j->j<k->ck j p≠-1
def Kd.uniq{p:Int}(a b:Int)(ha:Kd p a)(c:Kd p b):a=b:=by
 rcases YA a b with z|z|z
 .exact absurd ha.2.1 (c.2.2 a ha.1 z)
 .exact z
 .exact absurd c.2.1 (ha.2.2 b c.1 z)
def zN(p:Int):Int:=ø (Kd p)
def K7{p:Int}(h:Kd p k):k=zN p:=rV Kd.uniq h
def NR(p:Int):Prop:=∃g,2<=g/\ck g p=-1
def Fj{p:Int}(h:NR p):Kd p (zN p):=by
 obtain⟨g,h1,c⟩:=h
 have:∀n:Nat,(∃k,Kd p k)\/∀j:Int,2<=j->j<2+(n:Int)->ck j p≠-1:=λn=>by
  induction n with
  |zero=>exact .inr λj a b=>by lia
  |succ n d =>
   rcases d with z|z
   .exact .inl z
   .by_cases w:ck (2+(n:Int)) p=-1
    .exact .inl #[2+(n:Int),.a,w,λj a b=>z j a b]
    .refine .inr λj a b=>?_;by_cases e:j=2+(n:Int)
     .rwa[e]
     .exact z j a .a
 rcases this (g-1).toNat with⟨k,z⟩|z
 .rwa[<-K7 z]
 .exact absurd c (z g h1 .a)
def JN(e p s:Int):Prop:=0<=s/\Cg p (e^2^s.toNat) 1/\∀j:Nat,(j:Int)<s->¬Cg p (e^2^j) 1
def JN.uniq{p:Int}(a b:Int)(ha:JN e p a)(c:JN e p b):a=b:=by
 rcases YA a b with z|z|z
 .exact absurd ha.2.1 (c.2.2 a.toNat (by have:=ha.1;lia))
 .exact z
 .exact absurd c.2.1 (ha.2.2 b.toNat (by have:=c.1;lia))
def ju(e p:Int):Int:=ø (JN e p)
def LA{p:Int}(h:JN e p s):s=ju e p:=rV JN.uniq h
def EM{p:Int}(h:Cg p (e^2^n) 1):JN e p (ju e p)/\ju e p<=n:=by
 have:∀m:Nat,(∃s:Nat,s<=m/\JN e p s)\/∀j:Nat,j<=m->¬Cg p (e^2^j) 1:=λm=>by
  induction m with
  |zero =>
   by_cases w:Cg p (e^2^0) 1
   .exact .inl #[0,V_ 0,.a,w,λj a=>by lia]
   .exact .inr λj a=>by rwa[Nat.le_zero.mp a]
  |succ m c =>
   rcases c with⟨s,b,z⟩|z
   .exact .inl #[s,.a,z]
   .by_cases w:Cg p (e^2^(m+1)) 1
    .exact .inl #[m+1,V_ _,.a,w,λj a=>z j .a]
    .refine .inr λj a=>?_;by_cases q:j=m+1
     .rwa[q]
     .exact z j .a
 rcases this n with⟨s,b,z⟩|z
 .rw[<-LA z];exact#[z,.a]
 .exact absurd h (z n (V_ n))
noncomputable def mq(p m:Int):Nat->Int
 |0=>m
 |i+1=>mq p m i*mq p m i%p
theorem Kw(p m:Int):∀i,Cg p (mq p m i) (m^2^i)
 |0=>by show Cg p m (m^1);rw[Wk,WG,Xe];exact ic _ _
 |i+1=>by
  have h:=Kw p m i;refine cz (e8 p _) ?_;rw[show(2:Nat)^(i+1)=2^i+2^i by rw[ZP];lia,WZ];exact iO h h
def Es{p:Int}(hp:0<p)(a:0<=m/\m<p):∀i,0<=mq p m i/\mq p m i<p
 |0=>a
 |_+1=>#[Wo _ .a,Wf _ hp]
def o9(p:Int):Nat->Int->Int->Int->Int->Int
 |0,_,r,_,_=>r
 |n+1,t,r,e,m=>if e=1 then r else o9 p n (ju e p) (r*mq p m (t-ju e p-1).toNat%p) (e*(mq p m (t-ju e p-1).toNat*mq p m (t-ju e p-1).toNat%p)%p) (mq p m (t-ju e p-1).toNat*mq p m (t-ju e p-1).toNat%p)
structure MY(p k t r e m:Int):Prop where
 r0:0<=r/\r<p
 e0:0<=e/\e<p
 m0:0<=m/\m<p
 t1:1<=t
 rr:Cg p (r*r) (k*e)
 ee:Cg p (e^2^(t-1).toNat) 1
 mm:e≠1->Cg p (m^2^(t-1).toNat) (-1)
def MY.step{p t:Int}(hp:bg p=Â)(I:MY p k t r e m)(he:e≠1):
  JN e p (ju e p)/\1<=ju e p/\ju e p<t/\MY p k (ju e p) (r*mq p m (t-ju e p-1).toNat%p) (e*(mq p m (t-ju e p-1).toNat*mq p m (t-ju e p-1).toNat%p)%p) (mq p m (t-ju e p-1).toNat*mq p m (t-ju e p-1).toNat%p):=by
 have l:=aA hp;obtain⟨b,i⟩:=EM I.ee;have o:=I.t1
 have a:1<=ju e p:=by
  apply V9;intro q;have hz:ju e p=0:=by have:=b.1;lia
  have h1:=b.2.1;rw[hz] at h1
  have c:Cg p e 1:=by
   have:e^2^(0:Int).toNat=e:=by show e^1=e;rw[Wk,WG,Xe]
   rwa [this] at h1
  exact he (Ko I.e0 #[.b,.a] c)
 have f:ju e p<t:=by lia
 refine#[b,a,f,?_];generalize j:ju e p=s at *;have h:=Kw p m (t-s-1).toNat;have g:=Es (show 0<p by lia) I.m0 (t-s-1).toNat;generalize mq p m (t-s-1).toNat=x at *
 have e1:Cg p (e^2^(s-1).toNat) (-1):=by
  have d:Cg p (e^2^(s-1).toNat*e^2^(s-1).toNat) 1:=by
   rw[<-WZ,show 2^(s-1).toNat+2^(s-1).toNat=2^s.toNat by rw[show s.toNat=(s-1).toNat+1 by lia,ZP];lia];exact b.2.1
  rcases NA hp d with z|z
  .exact absurd z (b.2.2 (s-1).toNat .a)
  .exact z
 have n:Cg p (x^2^s.toNat) (-1):=by
  refine cz (oZ h _) ?_;rw[<-Ŕ,<-Nat.pow_add,show(t-s-1).toNat+s.toNat=(t-1).toNat by lia];exact I.mm he
 have m1:Cg p ((x*x%p)^2^(s-1).toNat) (-1):=by
  refine cz (oZ (e8 p _) _) ?_;rw[aac,<-WZ,show 2^(s-1).toNat+2^(s-1).toNat=2^s.toNat by rw[show s.toNat=(s-1).toNat+1 by lia,ZP];lia];exact n
 have bd:∀y:Int,0<=y%p/\y%p<p:=λy=>#[Wo _ .a,Wf _ .a];refine#[bd _,bd _,bd _,a,?_,?_,λ_=>m1]
 .have h1:Cg p (r*x%p*(r*x%p)) (r*x*(r*x)):=iO (e8 _ _) (e8 _ _);have h2:Cg p (k*(e*(x*x%p)%p)) (k*(e*(x*x))):=iO (ic _ _) (cz (e8 _ _) (iO (ic _ _) (e8 _ _)));refine cz h1 (cz ?_ (wq h2));rw[show r*x*(r*x)=r*r*(x*x) by grind,show k*(e*(x*x))=k*e*(x*x) by grind];exact iO I.rr (ic _ _)
 .refine cz (oZ (e8 p _) _) ?_;rw[aac];refine cz (iO e1 m1) ?_;exact ic _ _
theorem Ba{p k:Int}(hp:bg p=Â):∀(n:Nat) (t r e m:Int),MY p k t r e m->t<=n->(0<=o9 p n t r e m/\o9 p n t r e m<p)/\Cg p (o9 p n t r e m*o9 p n t r e m) k
 |0,t,r,e,m,I,h=>by have:=I.t1;lia
 |n+1,t,r,e,m,I,h=>by
  unfold o9;split
  .rename_i he;refine#[I.r0,?_];have:=I.rr
   rwa [he,WO] at this
  .rename_i he;obtain⟨d,a,b,c⟩:=I.step hp he;exact Ba hp n _ _ _ _ c .a
def G8(k p:Int):Int:=o9 p (bF (p-1) 2).1.toNat (bF (p-1) 2).1 (k^(((bF (p-1) 2).2+1)/2).toNat%p) (k^(bF (p-1) 2).2.toNat%p) (if k^(bF (p-1) 2).2.toNat%p≠1 then zN p^(bF (p-1) 2).2.toNat%p else 1)
def rE{p:Int}(hp:bg p=Â)(h2:p≠2):1<=(bF (p-1) 2).1/\(bF (p-1) 2).2%2=1/\1<=(bF (p-1) 2).2/\(bF (p-1) 2).2.toNat*2^((bF (p-1) 2).1-1).toNat=((p-1)/2).toNat:=by
 have d:=B6 hp h2;obtain⟨c,g,a,f⟩:=wd (show(2:Int)<=2 by decide) (show 0<p-1 by lia) (show(2:Int)∣p-1 by lia);obtain⟨b1,b2,b3⟩:=kc (show(2:Int)<=2 by decide) (show p-1≠0 by lia);refine#[a,.a,.a,?_];generalize (bF (p-1) 2).1=t at *;generalize (bF (p-1) 2).2=o at *;have e:t.toNat=(t-1).toNat+1:=by lia
 rw[e,Wk] at b2
 have b:o*2^(t-1).toNat=(p-1)/2:=by
  have:p-1=2*(o*2^(t-1).toNat):=by rw[b2];grind
  lia
 have h:((o.toNat*2^(t-1).toNat:Nat):Int)=o*2^(t-1).toNat:=by
  rw[X1,ZT];rw[show((o.toNat:Nat):Int)=o by lia];rfl
 lia
def xJ{p:Int}(hp:bg p=Â)(h2:p≠2)(h:0<=k/\k<p)(b:ck k p=1)(e:NR p):
  MY p k (bF (p-1) 2).1 (k^(((bF (p-1) 2).2+1)/2).toNat%p) (k^(bF (p-1) 2).2.toNat%p) (if k^(bF (p-1) 2).2.toNat%p≠1 then zN p^(bF (p-1) 2).2.toNat%p else 1):=by
 have g:=B6 hp h2;obtain⟨f,i,j,heq⟩:=rE hp h2;generalize (bF (p-1) 2).1=t at *;generalize (bF (p-1) 2).2=o at *;have bd:∀y:Int,0<=y%p/\y%p<p:=λy=>#[Wo _ .a,Wf _ .a];have c:¬p∣k:=λz=>by rw[eN z] at b;cases b
 refine#[bd _,bd _,?_,f,?_,?_,λhe=>?_]
 .split
  .exact bd _
  .exact#[.b,.a]
 .have h1:Cg p (k^((o+1)/2).toNat%p*(k^((o+1)/2).toNat%p)) (k^((o+1)/2).toNat*k^((o+1)/2).toNat):=iO (e8 _ _) (e8 _ _);refine cz h1 ?_;rw[<-WZ,show((o+1)/2).toNat+((o+1)/2).toNat=o.toNat+1 by lia,Wk,WE];exact iO (ic _ _) (wq (e8 _ _))
 .refine cz (oZ (e8 p _) _) ?_;rw[<-Ŕ,heq];exact(gz hp h2 c).mp b
 .rw[V6 he];refine cz (oZ (e8 p _) _) ?_;rw[<-Ŕ,heq];have d:=Fj e
  have a:¬p∣zN p:=λz=>by
   have:=d.2.1;rw[eN z] at this;cases this
  have:=(jv hp h2 a).mp d.2.1;unfold Cg;rw[show ∀y:Int,y - -1=y+1 from λy=>by lia];exact this
def Mw{p:Int}(hp:bg p=Â)(h2:p≠2)(a:0<=k/\k<p)(c:ck k p=1)(b:NR p):(0<=G8 k p/\G8 k p<p)/\Cg p (G8 k p*G8 k p) k:=by
 obtain⟨d,_⟩:=rE hp h2;exact Ba hp _ _ _ _ _ (xJ hp h2 a c b) .a
def pK(k p:Int):Option Int:=if ck k p=-1 then none else if ck k p=0\/p=2 then À (ck k p) else À (G8 (k%p) p)
def qI{p:Int}:pK k p=none↔ck k p=-1:=by
 unfold pK;split
 .rename_i h;exact#[λ_=>h,λ_=>rfl]
 .rename_i h;split
  .exact#[λz=>(Ņ _ z).elim,λz=>absurd z h]
  .exact#[λz=>(Ņ _ z).elim,λz=>absurd z h]
def Lw{p:Int}(hp:bg p=Â)(h2:p≠2)(d:NR p)(h:pK k p=À r):(0<=r/\r<p)/\Cg p (r*r) k:=by
 have g:=aA hp;unfold pK at h;by_cases h1:ck k p=-1
 .rw[V6 h1] at h;cases h
 .rw[V4 h1] at h;by_cases b:ck k p=0
  .rw[V6 (.inl b)] at h
   have e:r=0:=by
    have:=Wj h;lia
   have f:p∣k:=by
    apply V9;intro d;rcases eU d with z|z<;>lia
   rw[e];obtain⟨c,j⟩:=f;exact#[#[.b,.a],#[-c,by rw[aab];lia]]
  .rw[V4 (λz=>z.elim b h2)] at h;have e:=Wj h;have a:¬p∣k:=λz=>b (eN z);have i:ck k p=1:=by rcases eU a with z|z<;>lia
   have:=Mw (k:=k%p) hp h2 #[Wo _ .a,Wf _ .a] (by rwa[Bi]) d;rw[e] at this;exact#[this.1,cz this.2 (e8 _ _)]
def jo{n:Int}(h:k∣n*m)(a:Ì k m=1):k∣n:=by
 have:=Int.dvd_mul_gcd_iff_dvd_mul.mpr h;rw[a] at this;simpa using this
def mC(n:Int):Prop:=n≠0/\∀d:Int,2<=d->¬d*d∣n
def og:mC 1:=#[.b,λd a h=>by
 have:=Wt .b h;have:2*2<=d*d:=W_ a a .b .a
 lia]
def vM{n:Int}(h:mC n):mC (-n):=#[by have:=h.1;lia,λd a z=>h.2 d a (YE.mp z)]
def oH{p:Int}(hp:bg p=Â)(h:¬p∣d):Ì d p=1:=by
 have a:=aA hp
 have h1:=vO hp (d:=(Ì d p:Int)) (by
  have:0<Ì d p:=Int.gcd_pos_of_ne_zero_right _ .a
  lia) (XO ..)
 rcases h1 with h1|h1
 .lia
 .exact absurd (by rw[<-h1];exact X6 ..) h
def lF{n p:Int}(h:mC n)(hp:bg p=Â)(b:¬p∣n):mC (n*p):=#[Wl h.1 (by have:=aA hp;lia),λd e z=>by
 have f:=aA hp;by_cases a:p∣d
 .obtain⟨c,rfl⟩:=a;have:p*p∣n*p:=Wz #[c*c,by grind] z;exact b (Int.dvd_of_mul_dvd_mul_right .a this)
 .exact h.2 d e (jo z (oH hp λw=>by rcases euclid hp w with w|w<;>exact a w))]
def Lj(b:Ì r s=1):Ì (s*s) (r*r)=1:=by
 have a:Ì s (r*r)=1:=by rw[Int.gcd_mul_right_right_of_gcd_eq_one (by rwa[Zd]),Zd];exact b
 rwa[Int.gcd_mul_right_left_of_gcd_eq_one a]
def BU(b:mC f)(c:0<s)(a:Ì r s=1)(h:s*s∣f*(r*r)):s=1:=by
 have h2:s*s∣f:=jo h (Lj a);rcases Xy s 2 with z|z
 .lia
 .exact absurd h2 (b.2 s z)
def Gf{n:Int}(j:mC n)(l:mC f)(o:0<r)(m:0<s)(e:n*(r*r)=f*(s*s)):n=f/\r=s:=by
 obtain⟨g,a,s',h,b,k,es⟩:∃g a s':Int,0<g/\Ì a s'=1/\r=g*a/\s=g*s':=by
  have i:0<Ì r s:=YX _ .a;refine#[Ì r s,r/Ì r s,s/Ì r s,.a,?_,(XM (X6 ..)).symm,(XM (XO ..)).symm];rw[Int.gcd_ediv_gcd_ediv_gcd i]
 subst k es
 have d:0<a:=by
  rcases Xy 0 a with z|z
  .exact z
  .have:=WU (XG h) z;lia
 have c:0<s':=by
  rcases Xy 0 s' with z|z
  .exact z
  .have:=WU (XG h) z;lia
 have p:n*(a*a)=f*(s'*s'):=by
  have:(g*g)*(n*(a*a))=(g*g)*(f*(s'*s')):=by grind
  exact Y_ (Wl .a .a) this
 have h1:s'=1:=BU j c b #[f,by grind];have h2:a=1:=BU l d (by rwa[Zd]) #[n,by grind];subst h1 h2;exact#[.a,rfl]
def Aw(A:Int):Prop:=∀q,bg q=Â->q∣A->q<32768
def IQ(l:Int):Prop:=∀q,bg q=Â->q∣l->32768<=q
def kZ(h:2<=k):∃q,bg q=Â/\q∣k:=by
 obtain⟨⟨b,a⟩,hp⟩:=Ld (k:=k) .a;cases c:O5 k with
 |nil=>rw[c] at hp;simp only[pp] at hp;lia
 |cons u us =>
  rw[c] at a hp;refine#[u.1,a.2.1,?_];rw[<-hp,pp];have h1:=a.2.2.1;obtain⟨m,d⟩:∃m,u.2.toNat=m+1:=#[u.2.toNat-1,.a];rw[d,Wk];exact#[u.1^m*pp us,by grind]
def Gr(h:∀q,bg q=Â->q∣a->¬q∣b)(ha:a≠0):Ì a b=1:=by
 have c:0<Ì a b:=YX _ ha;rcases ϭ (Ì a b) 2 with z|z
 .lia
 .obtain⟨q,h1,h2⟩:=kZ (k:=(Ì a b:Int)) .a;exact absurd (Wz h2 (XO ..)) (h q h1 (Wz h2 (X6 ..)))
def wz{A:Int}(ha:Aw A)(b:IQ l)(c:l≠0):Ì l A=1:=Gr (λq h1 h2 a=>by have:=ha q h1 a;have:=b q h1 h2;lia) c
def m7{A B:Int}(ha:Aw A)(a:Aw B):Aw (A*B):=λq h1 h2=>by rcases euclid h1 h2 with z|z;exact ha q h1 z;exact a q h1 z
def Ja{A B:Int}(ha:IQ A)(a:IQ B):IQ (A*B):=λq h1 h2=>by rcases euclid h1 h2 with z|z;exact ha q h1 z;exact a q h1 z
def Ff{A:Int}(a:0<A)(h:A<32768):Aw A:=λq _ h2=>by have:=Wt a h2;lia
def HQ:IQ 1:=λq h1 h2=>by have:=Wt .b h2;have:=aA h1;lia
theorem B3{q:Int}(a:bg q=Â)(h:q<32768):∀n:Nat,Aw (q^n)
 |0=>λr h1 h2=>by rw[WG] at h2;have:=Wt .b h2;have:=aA h1;lia
 |n+1=>by
  rw[Wk];exact m7 (B3 a h n) λr h1 h2=>by have:=Wt (by have:=aA a;lia) h2;lia
def mY(h:0<l)(i:l%2=1)(b3:3<=b)(g:b%2=1)(f:∀d,3<=d->d<b->d%2=1->¬d∣l)(c:pP l b 32768=none):∀d,3<=d->d<32768->d*d<=l->d%2=1->¬d∣l:=λd h1 h2 a e=>by
 rcases Xy d b with z|z
 .exact f d h1 z e
 .exact yt .a .a c d z h2 a .a
def r_{fs:List (Int×Int)}(I:zV k fs l b)(e:pP l b 32768=none)(h1:1<l)(h2:l<1073741824):bg l=Â/\b<=l:=by
 have h:=mY I.pos I.odd I.b3 I.bo I.free e;have a:=I.odd;refine#[cg.mpr (.inr #[.a,a,λd f g c=>h d f ?_ g c]),?_]
 .rcases Xy d 32768 with z|z
  .exact z
  .have:32768*32768<=d*d:=W_ z z .b .a;lia
 .rcases Xy l b with z|z
  .exact absurd (Yb l) (I.free l .a z a)
  .exact z
def qS{fs:List (Int×Int)}(I:zV k fs l b)(a:pP l b 32768=none)(h:1073741824<=l):IQ l:=λq h1 h2=>by
 have e:=mY I.pos I.odd I.b3 I.bo I.free a;rcases Xy q 32768 with z|z
 .rcases cg.mp h1 with w|⟨c,d,f⟩
  .subst w;have:=I.odd;lia
  .have:q*q<=32768*32768:=W_ .a .a .a .b;exact absurd h2 (e q c z .a d)
 .exact z
theorem uF{k e:Int}:∀(n:Nat) (fs:List (Int×Int)) (l b:Int),zV k fs l b->(∀u∈fs,u.1<e)->∀u∈(Cp e n fs l b).1,u.1<e
 |0,fs,l,b,I,h=>h
 |n+1,fs,l,b,I,h=>by
  unfold Cp;cases a:pP l b e with
  |none=>exact h
  |some d =>
   refine uF n _ _ _ (I.step a) λu c=>?_;rcases W2.mp c with z|z
   .exact h u z
   .have:=km (XG I.pos) (by have:=I.b3;lia) a;simp only[WR] at z;subst z;exact this.2.1
def qL(b:1<=k)(he:2<e):∀u∈(bG k e).1,u.1<e:=by
 refine uF _ _ _ _ (oG b).1 λu a=>?_;unfold wU at a;split at a
 .simp only[WR] at a;subst a;exact he
 .cases a
theorem mJ:∀{us:List (Int×Int)} {a b:Int},jN a us b->∀u∈us,bg u.1=Â/\1<=u.2
 |u::us,a,b,h,v,c=>by
  rcases V8.mp c with z|z
  .subst z;exact#[h.2.1,h.2.2.1]
  .exact mJ h.2.2.2 v z
theorem zY:∀{us:List (Int×Int)},(∀u∈us,bg u.1=Â/\u.1<32768)->Aw (pp us)
 |[],_=>λq h1 h2=>by have a:q∣1:=h2;have:=Wt .b a;have:=aA h1;lia
 |u::us,h=>m7 (B3 (h u (Wu ..)).1 (h u (Wu ..)).2 _) (zY λv b=>h v (We _ b))
def zW(g:1<=s):∃A L,Aw A/\IQ L/\0<A/\0<L/\s=A*L:=by
 obtain⟨b,I,c⟩:=nF (k:=s) (e:=32768) g;have a:Aw (pp (bG s 32768).1):=zY λu f=>#[(mJ I.rise u f).1,qL g .b u f];have hp:=jr .b I.rise;have d:=I.pos;by_cases h1:(bG s 32768).2<32768
 .exact#[s,1,by rw[<-I.prod];exact m7 a (Ff d h1),HQ,.a,.b,.a]
 .refine#[_,_,a,?_,hp,d,I.prod.symm];by_cases h2:(bG s 32768).2<1073741824
  .have:=r_ I c .a h2;intro q q1 h;rcases vO this.1 (by have:=aA q1;lia) h with z|z
   .have:=aA q1;lia
   .lia
  .exact qS I c .a
def MO{A B L:Int}(c:Aw A)(h:Aw B)(b:IQ l)(f:IQ L)(g:0<l)(h1:0<L)(e:A*l=B*L):l=L:=by
 have a:l∣L:=jo (k:=l) (n:=L) (m:=B) #[A,by grind] (wz h b .a);have d:L∣l:=jo (k:=L) (n:=l) (m:=A) #[B,by grind] (wz c f .a);have:=Wt h1 a;have:=Wt g d;lia
def Tame(k:Int):Prop:=(∃f s,Aw f/\0<f/\1<=s/\k=f*(s*s))\/(∃f P,Aw f/\0<f/\bg P=Â/\P<1073741824/\k=f*P)
def Cb{fs:List (Int×Int)}(h:Tame k)(y:1<=k)(I:zV k fs l b)(w:∀u∈fs,u.1<32768)(t:pP l b 32768=none):l<1073741824\/rt l*rt l=l:=by
 rcases Xy l 1073741824 with z|z
 .exact .inl z
 have g:=qS I t z;have a:Aw (pp fs):=zY λu o=>#[(mJ I.rise u o).1,w u o];have c:=I.prod;rcases h with⟨f,s,h1,h2,d,j⟩|⟨f,P,h1,h2,d,j,B⟩
 .obtain⟨A,L,p,i,x,q,v⟩:=zW d;have e:l=L*L:=MO a (m7 h1 (m7 p p)) g (Ja i i) .a (Xc q q) (by rw[c,j,v];grind);right;have:L=rt l:=oJ .a .a (by rw[e];grind);rw[<-this,e]
 .have r:l∣P:=jo (k:=l) (n:=P) (m:=f) #[pp fs,by grind] (wz h1 g .a);have:=Wt (by have:=aA d;lia) r;lia
noncomputable def nJ(c:Int×Int)(u:Int×Int):Int×Int:=(if u.2%2=1 then c.1*u.1 else c.1,c.2*u.1^(u.2/2).toNat)
theorem Ah:∀{us:List (Int×Int)} {a b:Int} {c:Int×Int},jN a us b->mC c.1->(∀q,bg q=Â->a<q->¬q∣c.1)->0<c.2 ->
  mC (us.foldl nJ c).1/\0<(us.foldl nJ c).2/\(us.foldl nJ c).1*((us.foldl nJ c).2*(us.foldl nJ c).2)=c.1*(c.2*c.2)*pp us
 |[],a,b,c,_,f,_,i=>#[f,i,by simp[pp]]
 |u::us,a,b,c,s,f,j,i=>by
  obtain⟨p,h,w,l⟩:=s;have m:=aA h;have d:0<u.1^(u.2/2).toNat:=WK .a
  have k:mC (nJ c u).1:=by
   unfold nJ;dsimp only;split
   .exact lF f h (j _ h p)
   .exact f
  have r:∀q,bg q=Â->u.1<q->¬q∣(nJ c u).1:=λq h1 h2 e=>by
   unfold nJ at e;dsimp only at e;split at e
   .rcases euclid h1 e with z|z
    .exact j q h1 .a z
    .have:=Wt .a z;lia
   .exact j q h1 .a e
  have o:0<(nJ c u).2:=Xc i d;obtain⟨t,v,n⟩:=Ah (c:=nJ c u) l k r o;refine#[t,v,?_];rw[ZO,n,pp]
  have g:(if u.2%2=1 then u.1 else 1)*(u.1^(u.2/2).toNat*u.1^(u.2/2).toNat)=u.1^u.2.toNat:=by
   rw[<-WZ];by_cases z:u.2%2=1
   .rw[V6 z,show u.2.toNat=((u.2/2).toNat+(u.2/2).toNat)+1 by lia,Wk,WE]
   .rw[V4 z,Xe,show u.2.toNat=(u.2/2).toNat+(u.2/2).toNat by lia]
  unfold nJ;dsimp only;rw[<-g];generalize u.1^(u.2/2).toNat=y;split<;>grind
def pZ(k:Int):List (Int×Int)×Int :=
 if 1<(bG k 32768).2/\(bG k 32768).2<1073741824 then ((bG k 32768).1++[((bG k 32768).2,1)],1) else ((bG k 32768).1,rt (bG k 32768).2)
def zE(d:1<=k)(h:Tame k):(1<(bG k 32768).2/\(bG k 32768).2<1073741824\/rt (bG k 32768).2*rt (bG k 32768).2=(bG k 32768).2)/\(∃b,jN 1 (pZ k).1 b)/\0<(pZ k).2/\pp (pZ k).1*((pZ k).2*(pZ k).2)=k:=by
 obtain⟨b,I,f⟩:=nF (k:=k) (e:=32768) d;have g:=Cb h d I (qL d .b) f;have hpos:=I.pos;have a:=I.prod;unfold pZ;by_cases h1:1<(bG k 32768).2/\(bG k 32768).2<1073741824
 .rw[V6 h1];obtain⟨j,p2⟩:=r_ I f h1.1 h1.2;refine#[.inl h1,#[_,jN.snoc j (by dsimp only;decide) p2 (b':=(bG k 32768).2+1) .e I.rise],by dsimp only;decide,?_];dsimp only;rw[qz];dsimp only;rw[show(1:Int).toNat=1 from rfl,Wk,WG,Xe,WO,WO,a]
 .rw[V4 h1]
  have c:rt (bG k 32768).2*rt (bG k 32768).2=(bG k 32768).2:=by
   rcases g with z|z
   .have e1:(bG k 32768).2=1:=by lia
    rw[e1];have:(1:Int)=rt 1:=oJ .b .b .b;rw[<-this];rfl
   .exact z
  have i:=iZ (bG k 32768).2;refine#[.inr c,#[b,I.rise],?_,?_]
  .dsimp only;rcases Yo i with z|z
   .exact z
   .rw[<-z] at c;lia
  .dsimp only;rw[c,a]
def K5(t b:Int):Int×Int:=(pZ (t.natAbs*b)).1.foldl nJ (if 0<t then 1 else -1,(pZ (t.natAbs*b)).2)
def L_{t:Int}(x:t≠0)(r:0<b)(d:Tame (t.natAbs*b))(i:mC f)(p:0<s)(e:t*b=f*(s*s)):K5 t b=(f,s):=by
 have l:1<=(t.natAbs:Int)*b:=by
  have:0<(t.natAbs:Int)*b:=Xc .a r;lia
 obtain⟨_,⟨b',v⟩,k,hp⟩:=zE l d;have h:mC (if 0<t then (1:Int) else -1):=by split;exact og;exact vM og
 have w:∀q,bg q=Â->1<q->¬q∣(if 0<t then (1:Int) else -1):=λq h1 h2 a=>by
  split at a
  .have:=Wt .b a;lia
  .have:=Wt .b (YE.mp a);lia
 obtain⟨n,j,g⟩:=Ah (c:=(if 0<t then (1:Int) else -1,(pZ (t.natAbs*b)).2)) v h w k
 have u:(K5 t b).1*((K5 t b).2*(K5 t b).2)=f*(s*s):=by
  show((pZ (t.natAbs*b)).1.foldl nJ _).1*(((pZ (t.natAbs*b)).1.foldl nJ _).2*((pZ (t.natAbs*b)).1.foldl nJ _).2)=_;rw[g,<-e];dsimp only;rw[show(if 0<t then (1:Int) else -1)*((pZ (t.natAbs*b)).2*(pZ (t.natAbs*b)).2)*pp (pZ (t.natAbs*b)).1=(if 0<t then (1:Int) else -1)*(pp (pZ (t.natAbs*b)).1*((pZ (t.natAbs*b)).2*(pZ (t.natAbs*b)).2)) by grind,hp];by_cases z:0<t
  .rw[V6 z,show(t.natAbs:Int)=t by lia];lia
  .rw[V4 z,show(t.natAbs:Int)=-t by lia];grind
 obtain⟨m,o⟩:=Gf n i j p u;exact Ϸ m o
def yi{p:Int}(hp:2<=p)(h:¬p∣a):cls a p=(0,if p=2 then a%8 else ck a p):=by
 unfold cls;rw[Fb hp h];rfl
def DI(a b c p:Int):Bool:=lK (-a*c) (-b*c) p
def M0(k p:Int):Prop:=cls k p=(0,1)
noncomputable instance{k p:Int}:Decidable (M0 k p):=inferInstanceAs (Decidable (cls k p=(0,1)))
def fC{P:Int->Prop}{l:List Int}:(∃x,x∈a::l/\P x)↔P a\/∃x,x∈l/\P x:=by
 constructor
 .rintro⟨x,h,q⟩;rcases V8.mp h with z|z
  .subst z;exact .inl q
  .exact .inr #[x,z,q]
 .rintro(q|⟨x,h,q⟩)
  .exact#[a,Wu ..,q]
  .exact#[x,We _ h,q]
def DG:List Int->Int
 |[]=>0
 |[a]=>a
 |a::l=>if DG l<a then DG l else a
noncomputable def DP:List Int->Int
 |[]=>0
 |[a]=>a
 |a::l=>if a<DP l then DP l else a
theorem BB:∀l:List Int,DG l<0↔∃x∈l,x<0
 |[]=>by simp[DG]
 |[a]=>by simp[DG]
 |a::b::l=>by
  have c:=BB (b::l);unfold DG;rw[fC,<-c];split<;>omega
theorem BA:∀l:List Int,0<DP l↔∃x∈l,0<x
 |[]=>by simp[DP]
 |[a]=>by simp[DP]
 |a::b::l=>by
  have c:=BA (b::l);unfold DP;rw[fC,<-c];split<;>omega
def jR(l:List Int)(p:Int):Bool:=if p=0 then decide (DG l<0)&&decide (0<DP l) else match l with
 |[]=>Â
 |[_]=>Á
 |[a,b]=>decide (M0 (-a*b) p)
 |[a,b,c]=>DI a b c p
 |[a,b,c,d]=>!(decide (M0 (a*b*c*d) p)) || DI a b c p
 |_=>Â
def rA{l:List Int}{p:Int}(b:p≠0)(a:5<=l.length):jR l p=Â:=by
 unfold jR;rw[V4 b]
 match l,a with
 |_::_::_::_::_::_,_=>rfl
def vh{p:Int}(b:p≠0):jR [a] p=Á:=by unfold jR;rw[V4 b]
def vY{p:Int}(c:p≠0):jR [a,b] p=decide (M0 (-a*b) p):=by unfold jR;rw[V4 c]
def oX{p:Int}(d:p≠0):jR [a,b,c] p=DI a b c p:=by unfold jR;rw[V4 d]
def qH{p:Int}(e:p≠0):jR [a,b,c,d] p=(!(decide (M0 (a*b*c*d) p)) || DI a b c p):=by unfold jR;rw[V4 e]
def zU{l:List Int}:jR l 0=Â↔(∃x∈l,x<0)/\∃x∈l,0<x:=by
 unfold jR;rw[V6 rfl,WA,WM,WM,BB,BA]
noncomputable def a9:List Int->List Int->Int
 |a::l,x::xs=>a*x*x+a9 l xs
 |_,_=>0
def ev:List Int->Int->Int
 |[],_=>0
 |c::cs,x=>c+x*ev cs x
noncomputable def qo(r:Int):List Int->List Int
 |[]=>[]
 |[_]=>[]
 |_::d::cs=>ev (d::cs) r::qo r (d::cs)
theorem Fq(r:Int):∀(c:Int) (cs:List Int),(qo r (c::cs)).length=cs.length
 |_,[]=>rfl
 |_,d::cs=>by simp only[qo,WN];rw[Fq r d cs]
theorem BD(r:Int):∀(c d:Int) (cs:List Int),(qo r (c::d::cs)).getLast?=(c::d::cs).getLast?
 |c,d,[]=>by simp[qo,ev]
 |c,d,e::cs=>by
  have a:=BD r d e cs;have h1:qo r (c::d::e::cs)=ev (d::e::cs) r::qo r (d::e::cs):=rfl;rw[h1,aaL,<-a];have h2:qo r (d::e::cs)=ev (e::cs) r::qo r (e::cs):=rfl;rw[h2,aaL]
theorem KA(r x:Int):∀cs:List Int,ev cs x-ev cs r=(x-r)*ev (qo r cs) x
 |[]=>by simp[ev,qo]
 |[c]=>by simp[ev,qo]
 |c::d::cs=>by
  have a:=KA r x (d::cs);have h1:qo r (c::d::cs)=ev (d::cs) r::qo r (d::cs):=rfl;rw[h1];have e1:ev (c::d::cs) x=c+x*ev (d::cs) x:=rfl;have e2:ev (c::d::cs) r=c+r*ev (d::cs) r:=rfl;have e3:ev (ev (d::cs) r::qo r (d::cs)) x=ev (d::cs) r+x*ev (qo r (d::cs)) x:=rfl;rw[e1,e2,e3];generalize ev (d::cs) x=u at *;generalize ev (d::cs) r=v at *;generalize ev (qo r (d::cs)) x=t at *;grind
theorem OE{p:Int}(hp:bg p=Â):∀(f cs:List Int),cs.length<=f.length->f.Pairwise (λa b=>¬p∣a-b)->(∀r∈f,p∣ev cs r)->∀c,cs.getLast?=À c->p∣c
 |_,[],_,_,_,c,n=>by simp at n
 |[],_::_,h,_,_,_,_=>by simp at h
 |r::f,[c],_,_,g,d,k=>by
  have:=g r (Wu ..);simp[ev] at this;simp at k;rw[<-k];exact this
 |r::f,c::d::cs,m,i,g,e,he=>by
  obtain⟨h1,h2⟩:=List.pairwise_cons.mp i;refine OE hp f (qo r (c::d::cs)) (by rw[Fq];simpa using m) h2 (λs l=>?_) e (by rwa[BD]);have q:=g s (We _ l);have o:=g r (Wu ..);have j:=XH q o;rw[KA] at j;rcases euclid hp j with z|z
  .exact absurd (by rw[show r-s=-(s-r) by lia];exact YE.mpr z) (h1 s l)
  .exact z
noncomputable def xn(n:Nat):List Int:=-1::(È n 0++[1])
theorem Gk(x:Int):∀n:Nat,ev (È n 0++[1]) x=x^n
 |0=>by simp[ev]
 |n+1=>by
  rw[W7,ź];show 0+x*ev (È n 0++[1]) x=_;rw[Gk x n,Wk,WE];lia
def N8{p:Int}(hp:bg p=Â)(h2:p≠2):∃g,2<=g/\g<p/\ck g p=-1:=by
 have v:=B6 hp h2;have q:=aA hp;apply V9;intro s
 have c:∀g:Int,1<=g->g<p->p∣g^((p-1)/2).toNat-1:=λg u f=>by
  have e:¬p∣g:=λz=>by have:=Wt .a z;lia
  refine(gz hp h2 e).mp ?_;rcases eU e with z|z
  .exact z
  .refine absurd #[g,?_,f,z] s;rcases Xy g 2 with w|w
   .have:g=1:=by lia
    subst this;rw[zO hp h2 #[0,.a]] at z;cases z
   .exact w
 obtain⟨m,t⟩:∃m:Nat,((p-1)/2).toNat=m+1:=#[((p-1)/2).toNat-1,.a]
 have h1:=OE hp ((Ú (p-1).toNat).map λi:Nat=>(i:Int)+1) (xn m) (by simp[xn];lia) (by
   rw[aaq];refine Ze ?_ (aaD (n:=(p-1).toNat));intro a b ha k d z;have j:=W9.mp ha;have h:=W9.mp k;have:=gD z .a .a
   exact d .a) (λr l=>by
   obtain⟨i,hi,rfl⟩:=V3.mp l;have o:=W9.mp hi;have:=c ((i:Int)+1) .a .a;rw[t] at this;show p∣-1+((i:Int)+1)*ev (È m 0++[1]) _;rw[Gk,WE,<-Wk];rw[show -1+((i:Int)+1)^(m+1)=((i:Int)+1)^(m+1)-1 by lia]
   exact this) 1 (by show((-1::È m 0)++[1]).getLast?=À 1;exact List.getLast?_concat)
 have:=Wt .b h1;lia
noncomputable def P8:List Int:=[2,3,5,7,11,13,17,19]
def nH:∀r∈P8,bg r=Â:=by
 intro r a;simp only[P8,V8,WV,XY] at a;rcases a with rfl|rfl|rfl|rfl|rfl|rfl|rfl|rfl
 .exact bQ
 .exact jI (m:=0) (n:=3) .b .b .b .b
 .exact jI (m:=0) (n:=5) .b .b .b .b
 .exact jI (m:=0) (n:=7) .b .b .b .b
 .exact jI (m:=1) (n:=11) .b .b .b .b
 .exact jI (m:=1) (n:=13) .b .b .b .b
 .exact jI (m:=1) (n:=17) .b .b .b .b
 .exact jI (m:=1) (n:=19) .b .b .b .b
def Oh(u:Int×Int):Int×(Int×Int):=((K5 u.1 u.2).1,fr (K5 u.1 u.2).2 u.2)
theorem zr:∀(a b:List (Int×Int)),pp (a++b)=pp a*pp b
 |[],b=>by simp[pp]
 |u::a,b=>by rw[ź,pp,pp,zr a b,Xj]
theorem ph:∀{us:List (Int×Int)} {a b:Int},jN a us b->∀i,∃b',jN a (us.take i) b'
 |us,a,b,h,0=>#[a+1,by rw[Z8];show a<a+1;lia]
 |[],a,b,h,i+1=>#[b,h]
 |u::us,a,b,h,i+1=>by
  obtain⟨b',h'⟩:=ph h.2.2.2 i;exact#[b',h.1,h.2.1,h.2.2.1,h']
theorem o8:∀{us:List (Int×Int)} {a b:Int},jN a us b->∀i,∃c,jN c (us.drop i) b/\a<=c
 |us,a,b,h,0=>#[a,h,XE _]
 |[],a,b,h,i+1=>#[a,h,XE _]
 |u::us,a,b,h,i+1=>by
  obtain⟨c,h',d⟩:=o8 h.2.2.2 i;exact#[c,h',by have:=h.1;lia]
def jJ(ha:0<a)(c:1<=b):a<=a*b:=by
 have:a*1<=a*b:=Wc c .a;lia
def Ju{us:List (Int×Int)}{a R:Int}(n:jN 1 us b)(g:0<R)(k:a=1\/a=-1)(i:Nat):
  ((us.take i).foldl nJ (a,R)).1.natAbs<=(pp us*(R*R)).natAbs/\0<((us.take i).foldl nJ (a,R)).2/\((us.take i).foldl nJ (a,R)).2<=pp us*(R*R):=by
 obtain⟨b',h'⟩:=ph n i;obtain⟨j,h,u⟩:=o8 n i;have p:mC a:=by rcases k with z|z<;>rw[z];exact og;exact vM og
 have s:∀q,bg q=Â->1<q->¬q∣a:=λq h1 h2 d=>by
  rcases k with z|z
  .rw[z] at d;have:=Wt .b d;lia
  .rw[z] at d;have:=Wt .b (YE.mp d);lia
 obtain⟨r,f,l⟩:=Ah (c:=(a,R)) h' p s g;have e:pp us=pp (us.take i)*pp (us.drop i):=by rw[<-zr,aaS]
 have m:=jr .b h';have p2:=jr (show 0<=j by lia) h;have RR:=Xc g g;dsimp only at l;generalize (us.take i).foldl nJ (a,R)=c at *
 have v:(c.1.natAbs:Int)*(c.2*c.2)=pp (us.take i)*(R*R):=by
  have h1:0<c.2*c.2:=Xc f f;have h2:0<pp (us.take i)*(R*R):=Xc m RR;generalize c.2*c.2=X at *;generalize R*R=σ at *;generalize pp (us.take i)=Z at *;have d:=congrArg Int.natAbs l;rw[Xd,Xd,Xd,show a.natAbs=1 by rcases k with z|z<;>rw[z]<;>rfl,Nat.one_mul] at d;have o:((c.1.natAbs*X.natAbs:Nat):Int)=((σ.natAbs*Z.natAbs:Nat):Int):=by rw[d]
  rw[X1,X1,show(X.natAbs:Int)=X by lia,show(σ.natAbs:Int)=σ by lia,show(Z.natAbs:Int)=Z by lia] at o;rw[o,WE]
 have k1:pp (us.take i)*(R*R)<=pp us*(R*R):=by
  rw[e];exact W5 (jJ m .a) .a
 have t:0<(c.1.natAbs:Int):=by have:=r.1;lia
 have c2:0<c.2*c.2:=Xc f f;have m1:=jJ t (show 1<=c.2*c.2 by lia);have m2:c.2*c.2<=(c.1.natAbs:Int)*(c.2*c.2):=by rw[WE (c.1.natAbs:Int)];exact jJ c2 .a
 have m3:=jJ f (show 1<=c.2 by lia);exact#[.a,f,.a]
def JM{us:List (Int×Int)}(c:jN 1 us b){u:Int×Int}(a:us[i]?=À u):2<=u.1/\1<=u.2/\u.1^(u.2/2).toNat<=pp us/\u.1<=pp us/\(u.2:Int)<pp us:=by
 have k:=mJ c u (Wq a);have h2:=aA k.1;have hi:i<us.length:=(Wd.mp a).1
 have e:us.drop i=u::us.drop (i+1):=by
  rw[List.drop_eq_getElem_cons hi];rw[V7 hi] at a;rw[Wj a]
 obtain⟨b',h'⟩:=ph c i;obtain⟨h,f,p⟩:=o8 c (i+1)
 have e2:pp us=pp (us.take i)*(u.1^u.2.toNat*pp (us.drop (i+1))):=by
  have:pp us=pp (us.take i++us.drop i):=by rw[aaS]
  rw[this,zr,e,pp]
 have s:=jr .b h';have p2:=jr (show 0<=h by lia) f;have j:0<u.1^u.2.toNat:=WK .a
 have l:u.1^u.2.toNat<=pp us:=by
  rw[e2];have:=jJ j (show 1<=pp (us.drop (i+1)) by lia);have q:=Xc j p2;have w:u.1^u.2.toNat*pp (us.drop (i+1))<=pp (us.take i)*(u.1^u.2.toNat*pp (us.drop (i+1))):=by rw[WE (pp (us.take i))];exact jJ q .a
  lia
 have mono:∀m n:Nat,m<=n->u.1^m<=u.1^n:=λm n o=>by
  obtain⟨d,rfl⟩:∃d,n=m+d:=#[n-m,.a];rw[WZ];exact jJ (WK .a) (by have:=WK (n:=u.1) (m:=d) .a;lia)
 refine#[h2,k.2,aaY (mono _ _ .a) l,?_,?_]
 .have:=mono 1 u.2.toNat .a;rw[Wk,WG,Xe] at this;lia
 .have:((u.2.toNat:Nat):Int)<u.1^u.2.toNat:=by
   have g:∀n:Nat,(n:Int)<u.1^n:=λn=>by
    induction n with
    |zero=>rw[WG];decide
    |succ n r =>
     rw[Wk];have:u.1^n*2<=u.1^n*u.1:=Wc h2 (XG (WK .a));lia
   exact g _
  lia
theorem vJ:∀l:List Int,0<l.length->DG l∈l/\∀a∈l,DG l<=a
 |[a],_=>by simp[DG]
 |a::b::l,_=>by
  obtain⟨h1,h2⟩:=vJ (b::l) .c;unfold DG;split
  .refine#[We _ h1,λc d=>?_];rcases V8.mp d with z|z
   .lia
   .exact h2 c z
  .refine#[Wu ..,λc d=>?_];rcases V8.mp d with z|z
   .lia
   .have:=h2 c z;lia
theorem wJ:∀l:List Int,0<l.length->DP l∈l/\∀a∈l,a<=DP l
 |[a],_=>by simp[DP]
 |a::b::l,_=>by
  obtain⟨h1,h2⟩:=wJ (b::l) .c;unfold DP;split
  .refine#[We _ h1,λc d=>?_];rcases V8.mp d with z|z
   .lia
   .exact h2 c z
  .refine#[Wu ..,λc d=>?_];rcases V8.mp d with z|z
   .lia
   .have:=h2 c z;lia
def ent(F:Tb)(i j:Nat):Fr:=(F.getD i []).getD j (0,1)
def Kn(F:Tb)(x:List Fr):Fr:=yS (kT (yX F x)) (kT x)
def AS{x:List Fr}(b:Sq n F)(c:x.length=n)(a:∀u∈x,cW u):Kn F x=ml (yX F x) x:=qm (qc b a).2 a
def Ih{x:List Fr}(b:Sq n F)(c:x.length=n)(a:∀u∈x,cW u):cW (Kn F x):=by
 rw[AS b c a];exact jl (qc b a).2 a
def H_{x:List Fr}(a:Sq n F)(d:x.length=n)(b:∀u∈x,cW u):
  val (Kn F x)=sN (λi=>sN (λj=>val (ent F i j)*(val (x.getD i (0,1))*val (x.getD j (0,1)))) n) n:=by
 have ha:=qc a b;rw[AS a d b,jm ha.1 d ha.2 b];refine dZ n λi hi=>?_;have e:=a.low _ (kX a hi);have c:=a.row _ (kX a hi);rw[Hr a b hi,E9 c d e b,jm c d e b,<-Ik];refine dZ n λj f=>?_;unfold ent;grind
structure Ds(n:Nat)(Q:Fr->Prop)(T:Tb):Prop where
 len:T.length=n
 row:∀r∈T,r.length=n
 all:∀r∈T,∀u∈r,Q u
def Ds.sq{Q:Fr->Prop}{T:Tb}(h:Ds n Q T)(b:∀u,Q u->cW u):Sq n T:=#[h.len,h.row,λr c u a=>b u (h.all r c u a)]
def lR(n:Nat)(p:Int)(u:Fr):List Fr:=(iM n).map λj=>if j=p then u else (0,1)
def yP(us:List Fr):Tb:=us.mapIdx λi u=>lR us.length (i:Int) u
def D6{p:Int}{u:Fr}{Q:Fr->Prop}(c:Q (0,1))(a:Q u):(lR n p u).length=n/\∀v∈lR n p u,Q v:=by
 unfold lR;refine#[by rw[V2,cw],λv b=>?_];obtain⟨j,_,rfl⟩:=V3.mp b;split
 .exact a
 .exact c
def Bh{us:List Fr}{Q:Fr->Prop}(d:Q (0,1))(e:∀u∈us,Q u):Ds us.length Q (yP us):=by
 unfold yP
 have key:∀r∈us.mapIdx λi u=>lR us.length (i:Int) u,∃(i:Nat) (u:Fr),u∈us/\r=lR us.length (i:Int) u:=λr a=>by
  obtain⟨i,hi,rfl⟩:=List.mem_mapIdx.mp a;exact#[i,us[i],ZE hi,rfl]
 refine#[by rw[š],λr a=>?_,λr a u b=>?_]
 .obtain⟨i,u,_,rfl⟩:=key r a;unfold lR;rw[V2,cw]
 .obtain⟨i,v,c,rfl⟩:=key r a;exact(D6 d (e v c)).2 u b
def vn{us:List Fr}{j:Nat}(hi:i<us.length)(a:j<us.length):ent (yP us) i j=if i=j then us.getD i (0,1) else (0,1):=by
 unfold ent yP;rw[Wa (l:=us.mapIdx _),Xz,V7 hi];simp only[ZR,Y1];unfold lR;rw[getD_map (e:=0) (by rwa[cw]),sM a,Wa,V7 hi];by_cases z:i=j
 .rw[V6 z,V6 .a];rfl
 .rw[V4 z,V4 .a]
def KZ{p:Int}(hp:bg p=Â)(h2:p≠2)(c:¬p∣b):cls (p*b) p=(1,ck b p):=by
 have a:=aA hp;unfold cls;rw[show p*b=b*p^1 by rw[W4];exact WE ..,B1 a c,V4 h2];rfl
def vv{p:Int}(hp:bg p=Â)(h2:p≠2)(ha:¬p∣a):cls a p=(0,ck a p):=by
 rw[yi (aA hp) ha,V4 h2]
def uO{p:Int}(hp:bg p=Â)(h2:p≠2):p%2=1:=by
 apply V9;intro a;rcases cg.mp hp with z|z
 .lia
 .lia
def dc{p q:Int}(hp:bg p=Â)(c:bg q=Â)(h:p∣q):p=q:=by
 have h1:=aA hp;have h2:=aA c;apply V9;intro g;have f:=oH (p:=p) (d:=q) hp;by_cases z:q∣p
 .have a:=Wt .a h;have b:=Wt .a z;lia
 .have e:=oH (p:=q) (d:=p) c z;have:=Int.dvd_coe_gcd (Yb p) h;rw[e] at this;have:=Wt .b this;lia
def AL(h1:1<=k)(h2:k<1073741824):Tame k:=by
 by_cases c:Aw k
 .exact .inl #[k,1,c,.a,.b,.a]
 .have #[q,h]:=Classical.not_forall.mp c;have #[q1,a]:=aar.mp h;have #[#[f,i],j]:=aar.mp a
  have d:0<f:=by
   apply V9;intro e;have:q*f<=0:=WU .a .a;lia
  have g:f<32768:=by
   apply V9;intro e;have:32768*32768<=q*f:=W_ .a .a .b .a;lia
  have b:q<1073741824:=by
   have:q*1<=q*f:=Wc .a .a;lia
  exact .inr #[f,q,Ff d g,d,q1,b,by rw[i];exact WE ..]
theorem AN:∀(n:Nat) (x:Int),x≠0->x.natAbs<=n->∃f s,mC f/\0<s/\x=f*(s*s)
 |0,x,a,o=>absurd (show x=0 by lia) a
 |n+1,x,a,o=>by
  by_cases i:mC x
  .exact#[x,1,i,.b,.a]
  .have g:¬∀d:Int,2<=d->¬d*d∣x:=λz=>i #[a,z];have #[d,l]:=Classical.not_forall.mp g;have #[j,h]:=aar.mp l;have #[c,b]:=Classical.not_not.mp h;have c0:c≠0:=by rintro rfl;exact a (by rw[b,YG])
   have k:c.natAbs<=n:=by
    have e:x.natAbs=(d*d).natAbs*c.natAbs:=by rw[b,Xd]
    have:2<=(d*d).natAbs:=by
     have:2*2<=d*d:=W_ j j .b .a;lia
    have:2*c.natAbs<=(d*d).natAbs*c.natAbs:=Y3 _ this;lia
   obtain⟨f,s,h1,h2,m⟩:=AN n c c0 k;exact#[f,s*d,h1,Xc h2 .a,by rw[b,m];grind]
def Hc(a:0<s)(e:x=f*(s*s)):f.natAbs<=x.natAbs:=by
 rw[e,Xd];have:1<=(s*s).natAbs:=by have:=Xc a a;lia
 have:=Š f.natAbs this;lia
def D3{p:Int}(hp:bg p=Â)(h2:p≠2):NR p:=by
 obtain⟨g,h1,_,a⟩:=N8 hp h2;exact#[g,h1,a]
def Kz(k m x:Int):Prop:=0<=x/\x<m/\m∣k*x-1
def Kz.uniq(x y:Int)(d:Kz k m x)(g:Kz k m y):x=y:=by
 obtain⟨j,p,f⟩:=d;obtain⟨n,l,i⟩:=g
 have h:m∣x-y:=by
  obtain⟨a,ha⟩:=f;obtain⟨b,o⟩:=i;refine#[a*y-b*x,?_];have e1:k*x=1+m*a:=by lia
  have e2:k*y=1+m*b:=by lia
  have:y*(k*x)=x*(k*y):=by grind
  rw[e1,e2] at this;grind
 obtain⟨c,e⟩:=h
 have:c=0:=by
  rcases YA c 0 with z|z|z
  .have:m*c<=m*(-1):=Wc .a .a;lia
  .exact z
  .have:m*1<=m*c:=Wc .a .a;lia
 rw[this,YG] at e;lia
def df(k m:Int):Int:=ø (Kz k m)
def En(h:Kz k m x):df k m=x:=(rV Kz.uniq h).symm
structure C_(k m r b f g:Int)(u v s:Int):Prop where
 r0:1<=r
 b0:0<=b
 lt:b<r
 rm:r<=m
 gc:Ì r b=1
 fr:m∣k*f-r
 fb:m∣k*g-b
 sg:s=1\/s=-1
 fu:f=-s*u
 gv:g=s*v
 u0:0<=u
 v0:0<=v
 um:u<=m
 sum:u*b+v*r=m
def C_.start(b:2<=m)(a:Ì k m=1):C_ k m m (k%m) 0 1 0 1 1:=by
 refine#[.a,Wo _ .a,Wf _ .a,XE m,?_,#[-1,.a],?_,.inl rfl,.a,.a,.b,.b,.a,.a]
 .have e:k%m=k.fmod m:=(Xf k (show 0<=m by lia)).symm;rw[e,n6,a]
 .refine#[k/m,?_];have:=WT k m;lia
def C_.step{g:Int}(I:C_ k m r b f g u v s)(o:b≠0):C_ k m b (r-r/b*b) g (f-r/b*g) v (u+r/b*v) (-s):=by
 obtain⟨t,h,lt,H,n,fr,j,F,x,l,u0,i,G,sum⟩:=I;have a:=WT r b;have D:=Wo r o;have m1:=Wf r (show 0<b by lia);have p:0<=r/b:=Za .a h;have e:r-r/b*b=r%b:=by rw[WE] at a;lia
 generalize B:r/b=q at *;have C:0<=q*v:=YF p i;refine#[.a,.a,.a,.a,?_,j,?_,.a,by rw[l];grind,by rw[x,l];grind,i,.a,?_,by grind]
 .have w:r%b=r.fmod b:=(Xf r h).symm;rw[e,w,n6,n]
 .obtain⟨c,z⟩:=fr;obtain⟨d,y⟩:=j;refine#[c-q*d,?_];have e1:k*f=r+m*c:=by lia
  have e2:k*g=b+m*d:=by lia
  have:k*(f-q*g)=k*f-q*(k*g):=by grind
  rw[this,e1,e2];grind
 .have A:v*1<=v*r:=Wc t i;have E:0<=u*b:=YF u0 h;lia
def C_.done{g:Int}(I:C_ k m r 0 f g u v s)(b:2<=m):df k m=f%m:=by
 have h1:r=1:=by
  have:=I.gc;rw[Zf] at this;have:=I.r0;lia
 refine En #[Wo _ .a,Wf _ .a,?_];obtain⟨c,a⟩:=I.fr;rw[h1] at a;have e:=WT f m;refine#[c-k*(f/m),?_];have:k*(f%m)=k*f-k*(m*(f/m)):=by rw[<-Zw];congr 1;lia
 rw[this,show k*f=1+m*c by lia];grind
def C_.bd{g:Int}(I:C_ k m r b f g u v s):f.natAbs<=m/\g.natAbs<=m:=by
 obtain⟨e,a,lt,o,h,fr,l,d,n,p,u0,c,q,sum⟩:=I;have j:v*1<=v*r:=Wc e c;have i:0<=u*b:=YF u0 a;rcases d with rfl|rfl<;>lia
def xM(o:2<=m)(l:Ì k m=1):Kz k m (df k m):=by
 have:∀(n:Nat) (r b f g u v s:Int),C_ k m r b f g u v s->b.toNat<=n->∃x,Kz k m x:=λn=>by
  induction n with
  |zero =>
   intro r b f g u v s I h;have a:b=0:=by have:=I.b0;lia
   subst a
   have h1:r=1:=by
    have:=I.gc;rw[Zf] at this;have:=I.r0;lia
   refine#[f%m,Wo _ .a,Wf _ .a,?_];obtain⟨c,j⟩:=I.fr;rw[h1] at j;have e:=WT f m;refine#[c-k*(f/m),?_];have:k*(f%m)=k*f-k*(m*(f/m)):=by rw[<-Zw];congr 1;lia
   rw[this,show k*f=1+m*c by lia];grind
  |succ n i =>
   intro r b f g u v s I h;by_cases a:b=0
   .subst a;exact i r 0 f g u v s I .a
   .refine i _ _ _ _ _ _ _ (I.step a) ?_;have:=(I.step a).lt;have:=(I.step a).b0;lia
 obtain⟨x,d⟩:=this _ _ _ _ _ _ _ _ (C_.start o l) (V_ _);rwa[En d]
def uZ{p:Int}(hp:bg p=Â)(h:pK k p=À r):(0<=r/\r<p)/\Cg p (r*r) k:=by
 by_cases h2:p=2
 .subst h2;unfold pK at h
  have a:ck k 2=k%2:=by
   unfold ck;by_cases z:k%2=0
   .rw[V6 z,z]
   .rw[V4 z,V6 rfl];lia
  rw[a] at h;split at h
  .cases h
  .rw[V6 (.inr rfl)] at h;cases h;refine#[.a,?_];have:k%2=0\/k%2=1:=by lia
   rcases this with z|z
   .rw[z];exact#[-(k/2),.a]
   .rw[z];exact#[-(k/2),.a]
 .exact Lw hp h2 (D3 hp h2) h
def OR(h:k<=59):pf k<=59:=by
 by_cases z:3<=k
 .exact Fc (jI (m:=3) (n:=59) .b .b .b .b) h .b .b z
 .have:pf k=2:=by
   unfold pf;rw[V6 .a]
  lia
end Q
open Q hiding Fr sJ getD_mem
namespace L2.EP
open PySem PySem.Spec PyProof.Rows
section
variable{X:Cx}{U:aF}{D:GD}{M β:Type}[Py M][Py β]{e e1 e2:Õ}{b b1 b2:Bool}{pos:é}{rest:List Ð}
def NH{i j:Int}(ha:E X U e1 b1 i)(b:E X U e2 b2 j)(a:FC i j):E X U (.BinOp e1 .LShift e2 pos) Â (i*2^j.toNat):=by stop exact Af (g:=λi j=>i*2^j.toNat) K1 ha b a
def IS:O7 X "int.bit_length" (λx xs H Q=>∃i,x=.int i/\xs=[]/\Q (.int (Ë i:Nat)) H):=by
 intro ZB s Y H x xs v us Q I r a h;obtain⟨i,rfl,rfl,q⟩:=h;obtain⟨t,rfl⟩:=r;cases a;exact call_int_bit_length #[.int (Ë i:Nat),H,I.tok _,#[_,rfl],q]
def LP{i:Int}{apos:é}(ha:E X U e b i)(a:autoParam (Ā e "bit_length" X.env (Ö e X.env)=Ö e X.env) zra)(c:autoParam ((apos.endLine==pos.line)=Â) zra):E X U (.Call (.Attribute e "bit_length" apos) [] [] pos) Â ((Ë i:Nat):Int):=by
 stop
  exact aG (KS PySem.F.plainAttrs_int PySem.F.slot_int_bit_length PySem.F.type_int_bit_length IS ha a c) λY H Q ⟨H0,F,O,S,q⟩=>#[H0,F,O,S,λv H1 f d=>by
    cases d
    exact#[rfl,i,rfl,rfl,q _ H1 f rfl]]
def F_{i:Int}{u:Int×Int}:CV X .In i u (decide (u.1=i) || decide (u.2=i)):=#[_,B_,λN N' H v w Q h1 h2 q=>by
 obtain⟨p,x,y,rfl,sq,b,a⟩:=h2;cases h1;cases b;cases a;refine#[p,_,rfl,.inr (vm (az.refl _) sq),rfl,rfl,?_]
 simpa [M6,G7,YV] using q]
theorem oV{K:Ã}{N:Nn}{H:Hp}:∀{vs:List V} {xs:List Int},Ø (λx (b:Int)=>Py.rp K N H x b) vs xs->vs=xs.map V.int
 |_,_,.nil=>rfl
 |_,_,.cons h r=>by rw[oV r,show _=V.int _ from h];rfl
theorem yy{i:Int}:∀xs:List Int,M6 (.int i) (xs.map V.int)=decide (i∈xs)
 |[]=>by simp[M6]
 |x::xs=>by
  have:=yy (i:=i) xs;unfold M6 at *;rw[Wb,Yy,this];simp only[G7,V8,YV,Bool.decide_or];congr 1;exact decide_eq_decide.mpr eq_comm
def S.QT{D:GD}{a:aF->Prop}{st:List Ð}(h:S X U st D)(w:∀U',D.nx U'->a U'):S X U st {D with nx:=a}:=by stop exact pj h λe Y H ⟨H0,F,O,Z,n,r,bk,ct⟩=>#[H0,F,O,Z,λU' Y' H' c d b q=>n U' Y' H' c d b (w U' q),r,bk,ct]
def nT{c:Bool}{body orelse:List Ð}(J:aF->Prop)(a:T X U e c)(h1:c=Â->S X U body {D with nx:=J})(h2:c=Á->S X U orelse {D with nx:=J})(h:∀U',J U'->S X U' rest D):S X U (.If e body orelse pos::rest) D:=by stop exact Mc a (λz=>(h1 z).QT h) (λz=>(h2 z).QT h)
def sY(mg:Í->Option Å)(x:Í)(i:Int):Prop:=∃t,mg x=À (.int i t)
def lL{x:Í}{i:Int}(c:Gl X x)(a:sY X.mg x i)(b:autoParam ((x==("__debug__":Í))=Á) zrb):E X U (.Name x pos) Â i:=by stop obtain⟨t,a⟩:=a;exact aG (BE (v:=.int i) c a #[t,rfl] b) λY H Q ⟨H0,F,O,S,q⟩=>q _ H (az.refl _) rfl
end
variable{H:Hp}{K:Ã}{c:Bool}{xs:List V}
def o4{M:Type}{xs:List M}{k:Int}{d:M}(b:0<=k)(h:k<(xs.length:Int)):tY xs k=À (xs.getD k.toNat d):=by
 have a:k.toNat<xs.length:=by lia
 have e:k=((k.toNat:Nat):Int):=by lia
 have q:tY xs ((k.toNat:Nat):Int)=À xs[k.toNat]:=vA (by rw[V7 a]);rw[<-e] at q;rw[q,Wa,V7 a];rfl
structure Jr(M:Type) where
 l:List M
def HE(K:Ã)(H:Hp)(p:Æ)(xs:List V):Prop:=Rt H p xs\/∃(o:ò) (XP:Array Å) (n:Nat),K.lookup p=À o/\o.cls=.type "tuple"/\o.data=.seq XP n/\XP.size<=sizeLine/\Vals xs XP.toList
def HE.t{p:Æ}(h:HE K H p xs):Ig K H p xs:=h.imp Rt.rd id
def Lp{H':Hp}{p:Æ}(t:∀p xs,Rt H p xs->Rt H' p xs)(h:HE K H p xs):HE K H' p xs:=h.imp (t _ _) id
def qJ{H':Hp}{p:Æ}(e:az H H')(h:HE K H p xs):HE K H' p xs:=h.imp (λz=>az.rt e z) id
noncomputable instance{M:Type}[Py M]:Py (Jr M) where
 rp K N H v a:=∃p xs,v=.ref p/\HE K H p xs/\Ø (λx b=>Py.rp K N H x b) xs a.l
 tr l t h:=by
  obtain⟨p,xs,e,s,r⟩:=h;exact#[p,xs,e,Lp t s,aV (λ_ _ q=>Py.tr l t q) r]
def vS(K:Ã)(N:Nn)(H:Hp)(a:Int):¬Py.rp K N H .non a:=λh=>nomatch h
section
variable{X:Cx}{U:aF}{D:GD}{M β:Type}[Py M][Py β]{e e1 e2 tg:Õ}{b b1 b2:Bool}{pos:é}{rest:List Ð}
def sY.mk{h:Ý}{mg:Í->Option Å}{x:Í}{i:Int}{t:Tok}(σ:K.In h)(G:h.Ns Ê mg)(a:Ô K Ê x=À (À (.int i t))):sY mg x i:=#[t,X4 σ G a]
def jn{a:M}(h:E X U e b (À a)):E X U e b a:=by stop exact h
def gi{a:M}(h:E X U e b a):E X U e b (À a):=by stop exact h
def Ls{x:Option M}{j:Nat}{p:é}(ha:E X U e1 b1 x)(c:∀(K:Ã) (N:Nn) (H:Hp) (a:M),¬Py.rp K N H .non a):T X U (.Compare e1 [.IsNot] [.Constant .none j p] pos) (!x.isNone):=by
 stop
  exact uB (EF (Hi ha)) λY H Q ⟨H0,F,O,S,q⟩=>#[H0,F,O,S,λv H1 f b=>by
    refine#[!decide (v=.non),rfl,?_]
    have e:decide (v=.non)=x.isNone:=by
     cases x with
     |none=>cases b;rfl
     |some a =>
      have d:v≠.non:=by rintro rfl;exact c _ _ _ a b
      rw[Wv d];rfl
    rw[e];exact q H1 f]
def Co:j8 X (ä .IsNot) (λx y H Q=>∃c d,x=.bl c/\y=.bl d/\Q (.bl (c != d)) H):=by
 intro ZB s Y H x y v u Q I a b h;obtain⟨c,d,rfl,rfl,q⟩:=h;cases a;cases b;exact isnot_bool #[.bl _,H,I,rfl,q]
def CB{d:Bool}:CV X .IsNot c d (c != d):=#[_,Co,λN N' H u v Q h1 h2 q=>#[c,d,h1,h2,q]]
variable{γ:Type}[Py γ]{e3:Õ}{b3:Bool}
def JJ{op a:ť}{x:M}{y:β}{z:γ}{c':Bool}(h1:CV X op x y c)(h2:CV X a y z c')(ha:E X U e1 b1 x)(l:E X U e2 b2 y)(j:E X U e3 b3 z)(o:autoParam (ř [op,a] [e2,e3]=Á) zrg):E X U (.Compare e1 [op,a] [e2,e3] pos) Â (c&&c'):=by
 stop
  obtain⟨r,k,m⟩:=h1;obtain⟨s,f,e⟩:=h2
  exact aG (Ee k f ha l j o) λY H Q ⟨H0,F,O,S,q⟩=>#[H0,F,O,S,λv H1 d p=>#[H0,F,O,S.go d,λw H2 b h =>
   m _ _ H2 v w _ (aw ((aj b).trans (aq _ _)) p) (aw (aq _ _) h) #[c,rfl,by
    cases c with
    |false=>exact q _ H2 (d.trans b) rfl
    |true=>exact#[H0,F,O,(S.go d).go b,λu g i n=>e _ _ g w u _ (aw ((aj i).trans (aq _ _)) h) (aw (aq _ _) n) (q _ g (d.trans (b.trans i)) rfl)]]]]
def qg{op a:ť}{x:M}{y:β}{z:γ}{c':Bool}(h1:CV X op x y c)(h2:CV X a y z c')(ha:E X U e1 b1 x)(l:E X U e2 b2 y)(j:E X U e3 b3 z)(o:autoParam (ř [op,a] [e2,e3]=Á) zrg):T X U (.Compare e1 [op,a] [e2,e3] pos) (c&&c'):=by
 stop
  obtain⟨r,k,m⟩:=h1;obtain⟨s,f,e⟩:=h2
  exact uB (GN k f ha l j o) λY H Q ⟨H0,F,O,S,q⟩=>#[H0,F,O,S,λv H1 d p=>#[H0,F,O,S.go d,λw H2 b h =>
   m _ _ H2 v w _ (aw ((aj b).trans (aq _ _)) p) (aw (aq _ _) h) #[c,rfl,by
    cases c with
    |false=>exact#[Á,rfl,q H2 (d.trans b)]
    |true=>exact#[H0,F,O,(S.go d).go b,λu g i n=>e _ _ g w u _ (aw ((aj i).trans (aq _ _)) h) (aw (aq _ _) n) #[c',rfl,q g (d.trans (b.trans i))]]]]]
end
def Qd:GD:={nx:=λ_=>True,rt:=λ_=>False}
section
variable{P:Ò}{w:Û}{K:Ã}{mg:Í->Option Å}{base:Ý}{N ps:List Í}{x qual:Í}{st:Ð}{f:Æ}{k:Nat}{fd:ì}
def CM{c:List Bd}{vs:List V}{O:Æ->Prop}{b:Bool}{Q:VK}{a:Å}{A:á}{outer:List ė}{s:Ç}{E:XK}(B:⇑Body N qual st f k c Qd)(i:dk k (A.deeper (Č qual (ah st) s.heap.objs.size f a)))
  (d:mh H O) (h:Args K .F vs c) (q:∀r H',az H H'->Py.rp K (Nf H b) (off H' O) r ()->Q r H'):
  ∃t,mP (oy nQ P w K mg base N qual (ah st) f a A outer s H E).Ha (aU st) t/\t {nx:=λ_ H'=>Q .non H',rt:=Q} (start N vs) H:=by stop refine#[_,B a A outer s H E i,H,O,O,jj d h,λ_ _ H' _ _ Z _=>q .non H' Z.same rfl,λg v H' j z e=>e.elim,λ_ _ _ _ _ _ z=>z.elim,λ_ _ _ _ _ _ z=>z.elim]
def B0{M:Type}(_:M):Unit:=()
def QA{M:Type}[Py M]{pre:M->Prop}{b:Bool}(F:p8 K x qual st f fd)(i:ak N ps (ah st))(c:ps.length=1)(B:∀a,pre a->⇑Body N qual st f k [.val Á a] Qd):
  dY P w K mg base nQ (k+1) f fd ps (dU K pre b (B0 (M:=M))):=by
 stop
  refine F.ok i (λvs H Q E h=>?_) λg A outer s H vs Q E e h=>?_
  .obtain⟨O,v,a,_,rfl,_⟩:=h;rw[c];rfl
  .obtain⟨O,v,a,d,rfl,r,hp,q⟩:=h;exact CM (B a hp) e d (.cons r .nil) q
end
def zM{O:Æ->Prop}(b:∀p,O p->∃xs:Mt,H p=À (mo xs))(p:Æ)(xs:List V)(h:Rt H p xs):Rt .F p xs:=by
 have a:¬O p:=λz=>by
  obtain⟨ys,e⟩:=b p z;rcases h with h|⟨o,h⟩
  .rw[e] at h;rcases ys with ys|ys|ys<;>cases h
  .rw[e] at h;rcases ys with ys|ys|ys<;>cases h
 rcases h with h|⟨o,h⟩
 .exact .inl (by rw[aN a];exact h)
 .exact .inr #[o,by rw[aN a];exact h]
theorem oR{M β:Type}{F:M->β->Prop}:∀{a b:List M} {m₁ m₂:List β},Ø F a m₁->Ø F b m₂->Ø F (a++b) (m₁++m₂)
 |_,_,_,_,.nil,h=>h
 |_,_,_,_,.cons h r,h'=>.cons h (oR r h')
section
variable{X:Cx}{U:aF}{D:GD}{M β γ:Type}[Py M][Py β][Py γ]{e e1 e2:Õ}{b b1 b2:Bool}{pos:é}{st rest:List Ð}
def jP{a c:M}(h:E X U e b a)(ha:a=c):E X U e b c:=by stop subst ha;exact h
def Ki{xs ys:List M}(ha:E X U e1 Â xs)(r:E X U e2 Â ys)(k:xs.length+ys.length<=1000):E X U (.BinOp e1 .Add e2 pos) Â (xs++ys):=by
 stop
  exact aG (q_ Ll ha r) λY H Q ⟨H0,F,O,S,q⟩=>#[H0,F,O,S,λv H1 g u=>#[H0,F,O,S.go g,λw H2 c n=>by
    obtain⟨p,vs,e1,m,o,e⟩:=u;obtain⟨i,a,e2,t,s,d⟩:=n;have h1:H2 p=À (.lst vs):=c _ _ ((aq _ _) _ _ o.2);have h2:H2 i=À (.lst a):=(aq _ _) _ _ s.2;refine#[p,i,vs,a,e1,e2,h1,h2,by rw[bq e,bq d];exact Xv (bA k),λl f=>?_];obtain⟨h,j⟩:=cq (xs:=vs++a) ((S.go g).go c) f
    exact q _ _ (g.trans (c.trans h)) #[l,_,rfl,dM.of j,Nf.wk (b:=Â) (((S.go g).go c).g8 f) j,oR (aV (λ_ _ z=>aw ((aj c).trans (aj h)) z) e) (aV (λ_ _ z=>aw (aj h) z) d)]]]
def Ae[PyT M]{es:List Õ}{as:List M}(h:EA X U es b as)(f:as.length<=1000):EN X U (.List es pos) as:=by
 stop
  exact aG (zD h) λY H Q ⟨H0,F,O,S,q⟩=>#[H0,F,O,S,λvs H1 a e=>#[by rw[bq e];exact Xv (bA f),λp hp=>by
    obtain⟨d,c⟩:=cq (xs:=vs) (S.go a) hp
    exact q _ _ (a.trans d) #[p,vs,rfl,dM.of c,#[a.free hp,c],aV (λ_ _ r=>PyT.free (λ_ _ w=>w) (aw (aj d) r)) e]]]
def Nl{x y:M}(f:T X U e c)(ha:c=Â->EN X U e1 x)(g:c=Á->EN X U e2 y):EN X U (.IfExp e e1 e2 pos) (if c then x else y):=by
 stop
  cases c with
  |true=>exact aG (jc f (ha rfl) pF) λY H Q ⟨H0,F,O,S,q⟩=>#[H0,F,O,S,λH1 a=>oM #[H0,F,O,S.go a,λw H2 d b=>q w H2 (a.trans d) (kK a b)]]
  |false=>exact aG (jc f pF (g rfl)) λY H Q ⟨H0,F,O,S,q⟩=>#[H0,F,O,S,λH1 a=>tF #[H0,F,O,S.go a,λw H2 d b=>q w H2 (a.trans d) (kK a b)]]
def KG[PyT M](i:Nat)(b:Bool){as:List M}(d:U[i]?=À (À (.dpo as)))(h:S X (U.set i (À (.own b as))) st D):S X U st D:=by
 stop
  exact pj h λx Y H ⟨H0,F,O,Z,n,r,bk,ct⟩=>by
   refine#[H0,F,O,#[Z.same,Z.fo,Z.f0,Z.own,by rw[WX];exact Z.len,λj g e no=>?_,?_],n,r,bk,ct]
   .by_cases a:j=i
    .subst a;have c:j<U.length:=(Wd.mp d).1;rw[get_set_eq c] at e;have f:Bd.own b as=g:=Wj (Wj e);exact absurd (f▸(É:(Bd.own b as).fe)) no
    .rw[get_set_ne a] at e;exact Z.at_ j g e no
   .obtain⟨m,t,s,l⟩:=Z.dis;refine#[m,t,s,λj g e o=>?_];by_cases a:j=i
    .subst a;have c:j<U.length:=(Wd.mp d).1;rw[get_set_eq c] at e;have f:Bd.own b as=g:=Wj (Wj e);subst f;obtain⟨v,q1,p,xs,q,w,k,u⟩:=l j _ d É;exact#[v,q1,p,xs,q,k.1,k.2,aV (λ_ _ z=>PyT.free (zM Z.own) z) u]
    .rw[get_set_ne a] at e;exact l j g e o
end
end L2.EP
namespace L2
open PySem PySem.Spec PyProof.Rows
section
variable{X:Cx}{pos:é}
end
end L2
namespace L2.EP
open PySem PySem.Spec PyProof.Rows
section
variable{X:Cx}{U:aF}{D:GD}{M β γ:Type}[Py M][Py β][Py γ]{e e1 e2:Õ}{b b1 b2:Bool}{pos:é}{rest st:List Ð}
def O4{xs:List M}{k:Int}{p2:é}(ha:E X U e1 b xs)(o:E X U e2 b2 k)(t:0<=k):E X U (.Subscript e1 (.Slice none (À e2) none p2) pos) b (xs.take k.toNat):=by
 stop
  exact aG (nZ qD ha qF (qr o)) λY H Q ⟨H0,F,O,S,q⟩=>#[H0,F,O,S,λv H1 c s=>#[H0,F,O,S.go c,λw H2 a j=>by
    obtain⟨p,vs,e,sq,n,r⟩:=s;refine#[k,j,p,vs,e,(aq _ _).seq ((aj a).seq sq),λl f=>?_];obtain⟨h,g⟩:=cq (xs:=ko vs none (À k)) ((S.go c).go a) f;refine q _ _ (c.trans (a.trans h)) #[l,_,rfl,dM.of g,Nf.wk (((S.go c).go a).g8 f) g,?_]
    have ec:ko vs none (À k)=vs.take k.toNat:=by
     unfold ko;have m:k=((k.toNat:Nat):Int):=by lia
     rw[m,HT.qi,HT.ot];simp only[Wm,Ξ,Ϫ];by_cases d:k.toNat<=vs.length
     .rw[ZQ d]
     .rw[ZD .a,XD (V_ _),XD .a]
    have i:=aV (λ_ _ z=>aw ((aj a).trans (aj h)) z) (vW k.toNat r);rw[<-ec] at i
    exact i]]
def Cv(g:X.calm=Â):gJ X (.builtin "any") (λxs H Q=>∃p,∃bs:List Bool,xs=[.ref p]/\dM X.K H p (bs.map V.bl)/\Q (.bl (bs.any id)) H):=by
 intro ZB s Y H xs us Q I r h;obtain⟨p,bs,rfl,sq,q⟩:=h;obtain⟨u,rfl,l⟩:=vals1 r;cases l;obtain⟨XP,m,pl,_⟩:=I.list sq;have d:=rN m;have a:=pl.isList;have c:p<s.heap.objs.size:=by obtain⟨_,e,_⟩:=a;exact Wg e
 refine call_any_walk (aan a ?_)
 refine#[s.heap.objs.size,[s.heap.objs.size,p],[s.heap.objs.size],XP.toArray.size,_,_,λi=>(bs[i]?).getD Á,rfl,ϝ (A:=X.A.in1) (I.ok.hd g) _ p (WQ c) XP.toArray,
  #[#[_,WS _ rfl,rfl,rfl],a.push _],λi v s' n E' k f=>?_,λh' tk j=>?_]
 .obtain⟨b,e,rfl⟩:=d.get i v ↑k;simp only[e,Y1] at f;exact Xp f
 .have e:((Ú XP.toArray.size).any λi=>(bs[i]?).getD Á)=bs.any id:=by
   rw[Wy,d.length];exact LSm.range_any bs
  rw[e];exact#[.bl _,H,I.kept (ϓ j),rfl,q]
def JX{bs:List Bool}{p:é}(c:X.calm=Â)(d:Gl X "any")(f:X.mg "any"=none)(ha:E X U e b bs)(a:autoParam (Ä [e] X.env=(Á,Ö e X.env)::Ä [] X.env) zra):E X U (.Call (.Name "any" p) [e] [] pos) Â (bs.any id):=by
 stop
  exact aG (da (Cv c) d f PyProof.Rows.boot_any (aC ha aZ a) (he:=a)) λY H Q ⟨H0,F,O,S,q⟩=>#[H0,F,O,S,λv H1 h g=>by
    obtain⟨p,vs,e,sq,n,r⟩:=g;rw[Fx r] at sq
    exact#[p,bs,by rw[e],(aq _ _).seq sq,q _ H1 h rfl]]
def Ce(g:X.calm=Â):gJ X (.builtin "min") (λxs H Q=>∃p,∃ns:List Int,xs=[.ref p]/\dM X.K H p (ns.map V.int)/\0<ns.length/\∀α,α∈ns->(∀a,a∈ns->α<=a)->Q (.int α) H):=by
 intro ZB s Y H xs us Q I r h;obtain⟨p,ns,rfl,sq,b,q⟩:=h;obtain⟨u,rfl,k⟩:=vals1 r;cases k;obtain⟨XP,l,pl,_⟩:=I.list sq;have hi:=intsAre_of l;obtain⟨ys,d⟩:=hi.allInts.items;have c:s.heap.IsList p (intItems ys):=d▸pl.isList
 have e1:ns=ys.toList.map (·.1):=by
  rw[<-Ő,<-d];exact(show numsOf XP.toArray.toList=ns from hi.numsOf).symm
 have hsz:0<ys.size:=by rwa[e1,V2,XQ] at b
 refine min_intList (I.ok.hd g) c hsz λv h' tk e i=>?_;obtain⟨t,rfl⟩:=intItems_at e;obtain⟨h1,h2⟩:=argBest_lt (numAt ys) (ys.size-1);refine#[.int _,H,I.kept i,#[_,rfl],q _ ?_ λa ha=>?_]
 .rw[e1,Α];exact getD_mem (by rw[V2,XQ];lia)
 .rw[e1] at ha;obtain⟨j,f,rfl⟩:=mem_getD ha;rw[V2,XQ] at f;rw[<-Α];exact h2 j .a
def C1(g:X.calm=Â):gJ X (.builtin "max") (λxs H Q=>∃p,∃ns:List Int,xs=[.ref p]/\dM X.K H p (ns.map V.int)/\0<ns.length/\∀α,α∈ns->(∀a,a∈ns->a<=α)->Q (.int α) H):=by
 intro ZB s Y H xs us Q I r h;obtain⟨p,ns,rfl,sq,b,q⟩:=h;obtain⟨u,rfl,k⟩:=vals1 r;cases k;obtain⟨XP,l,pl,_⟩:=I.list sq;have hi:=intsAre_of l;obtain⟨ys,d⟩:=hi.allInts.items;have c:s.heap.IsList p (intItems ys):=d▸pl.isList
 have e1:ns=ys.toList.map (·.1):=by
  rw[<-Ő,<-d];exact(show numsOf XP.toArray.toList=ns from hi.numsOf).symm
 have hsz:0<ys.size:=by rwa[e1,V2,XQ] at b
 refine max_intList (I.ok.hd g) c hsz λv h' tk e i=>?_;obtain⟨t,rfl⟩:=intItems_at e;obtain⟨h1,h2⟩:=argBest_gt (numAt ys) (ys.size-1);refine#[.int _,H,I.kept i,#[_,rfl],q _ ?_ λa ha=>?_]
 .rw[e1,Α];exact getD_mem (by rw[V2,XQ];lia)
 .rw[e1] at ha;obtain⟨j,f,rfl⟩:=mem_getD ha;rw[V2,XQ] at f;rw[<-Α];exact h2 j .a
def E4{ns:List Int}{m:Int}{p:é}(d:X.calm=Â)(f:Gl X "min")(h:X.mg "min"=none)(ha:E X U e b ns)(g:0<ns.length)(h1:m∈ns)(h2:∀a,a∈ns->m<=a)(c:autoParam (Ä [e] X.env=(Á,Ö e X.env)::Ä [] X.env) zra):E X U (.Call (.Name "min" p) [e] [] pos) Â m:=by
 stop
  exact aG (da (Ce d) f h boot_min (aC ha aZ c) (he:=c)) λY H Q ⟨H0,F,O,S,q⟩=>#[H0,F,O,S,λv H1 j i=>by
    obtain⟨p,vs,e,sq,n,r⟩:=i;rw[wj r] at sq;refine#[p,ns,by rw[e],(aq _ _).seq sq,g,λα m1 m2=>q _ H1 j ?_];have:=h2 α m1;have:=m2 m h1;show V.int α=V.int m
    rw[show α=m by lia]]
def D1{ns:List Int}{m:Int}{p:é}(d:X.calm=Â)(f:Gl X "max")(h:X.mg "max"=none)(ha:E X U e b ns)(g:0<ns.length)(h1:m∈ns)(h2:∀a,a∈ns->a<=m)(c:autoParam (Ä [e] X.env=(Á,Ö e X.env)::Ä [] X.env) zra):E X U (.Call (.Name "max" p) [e] [] pos) Â m:=by
 stop
  exact aG (da (C1 d) f h boot_max (aC ha aZ c) (he:=c)) λY H Q ⟨H0,F,O,S,q⟩=>#[H0,F,O,S,λv H1 j i=>by
    obtain⟨p,vs,e,sq,n,r⟩:=i;rw[wj r] at sq;refine#[p,ns,by rw[e],(aq _ _).seq sq,g,λα m1 m2=>q _ H1 j ?_];have:=h2 α m1;have:=m2 m h1;show V.int α=V.int m
    rw[show α=m by lia]]
end
def vC{X:Cx}:j8 X (ÿ .Add) (λx y H Q=>∃l b xs zs,x=.ref l/\y=.ref b/\dM X.K H l xs/\dM X.K H b zs/\xs.length+zs.length<=sizeLine/\∀p,H p=none->Q (.ref p) (upd H p (.lst (xs++zs)))):=by
 intro ZB s Y H x y v u Q I D z h;obtain⟨l,b,xs,zs,rfl,rfl,w,C,hz,q⟩:=h;cases D;cases z;obtain⟨XP,r,pl,_⟩:=I.list w;obtain⟨a,k,g,_⟩:=I.list C;obtain⟨⟨cls,dd,data,G⟩,n,o,m,d,j⟩:=pl;obtain⟨⟨t,B,data2,i⟩,A,f,e,c,hd2⟩:=g;simp only at m d j e c hd2;subst m d j e c hd2;have J:=r.length;have L:=k.length;have E:XP.toArray++a.toArray=(XP++a).toArray:=by simp
 refine concat_meets #[_,o,rfl] #[_,f,rfl] noFill_list_add seq_list_add PySem.F.slot_list_add PySem.F.entry_list_add (PySem.F.args_list_add_2 _ _) (list_addW l b XP.toArray a.toArray n A none none G i (by rw[Wy,Wy];lia)) #[o,f,?_];rw[E];exact#[.ref _,_,I.IG (t':=s.toks) (r.append k) (by rw[WL];lia),rfl,q _ I.fresh]
section
variable{X:Cx}{U:aF}{D:GD}{M β γ:Type}[Py M][Py β][Py γ]{e e1 e2:Õ}{b b1 b2:Bool}{pos:é}{rest st:List Ð}
def MA[PyT M]{xs ys:List M}(ha:E X U e1 b1 xs)(o:E X U e2 b2 ys)(m:xs.length+ys.length<=1000):E X U (.BinOp e1 .Add e2 pos) Â (xs++ys):=by
 stop
  exact aG (q_ vC ha o) λY H Q ⟨H0,F,O,S,q⟩=>#[H0,F,O,S,λv H1 g s=>#[H0,F,O,S.go g,λw H2 a n=>by
    obtain⟨p,vs,e1,h,u,d⟩:=s;obtain⟨r,e,e2,i,x,c⟩:=n;refine#[p,r,vs,e,e1,e2,(aq _ _).seq ((aj a).seq h),(aq _ _).seq i,by rw[bq d,bq c];exact Xv (bA m),λl f=>?_];obtain⟨j,k⟩:=cq (xs:=vs++e) ((S.go g).go a) f;refine q _ _ (g.trans (a.trans j)) #[l,_,rfl,dM.of k,Nf.wk (b:=Â) (((S.go g).go a).g8 f) k,oR ?_ ?_]
    .exact aV (λ_ _ z=>PyT.free (λ_ _ t=>az.rt ((aj a).trans (aj j)) t) z) d
    .exact aV (λ_ _ z=>PyT.free (λ_ _ t=>az.rt (aj j) t) z) c]]
def OK[PyT M]{xs:List M}{k:Int}{p2:é}(ha:E X U e1 b xs)(s:E X U e2 b2 k)(y:0<=k):E X U (.Subscript e1 (.Slice none (À e2) none p2) pos) Â (xs.take k.toNat):=by
 stop
  exact aG (nZ qD ha qF (qr s)) λY H Q ⟨H0,F,O,S,q⟩=>#[H0,F,O,S,λv H1 d u=>#[H0,F,O,S.go d,λw H2 c m=>by
    obtain⟨p,vs,e,sq,n,r⟩:=u;refine#[k,m,p,vs,e,(aq _ _).seq ((aj c).seq sq),λl g=>?_];obtain⟨i,h⟩:=cq (xs:=ko vs none (À k)) ((S.go d).go c) g;refine q _ _ (d.trans (c.trans i)) #[l,_,rfl,dM.of h,Nf.wk (b:=Â) (((S.go d).go c).g8 g) h,?_]
    have ec:ko vs none (À k)=vs.take k.toNat:=by
     unfold ko;have o:k=((k.toNat:Nat):Int):=by lia
     rw[o,HT.qi,HT.ot];simp only[Wm,Ξ,Ϫ];by_cases f:k.toNat<=vs.length
     .rw[ZQ f]
     .rw[ZD .a,XD (V_ _),XD .a]
    have j:=aV (G:=λx a=>Py.rp X.K (Nf H0 Â) (off (upd H2 l (.lst (ko vs none (À k)))) O) x a) (λ_ _ z=>PyT.free (λ_ _ t=>az.rt ((aj c).trans (aj i)) t) z) (vW k.toNat r);rw[<-ec] at j
    exact j]]
end
end L2.EP
namespace L2
open PySem PySem.Spec PyProof.Rows
def Px(K : Ã)(a : Æ) : It :=
  #[λi H=>∃xs x,dM K H a xs/\xs[i]?=À x,
   λi H v H'=>∃T x,H T=none/\v=.ref T/\H'=upd H T (.tup [.int (i : Int),x])/\∀xs,dM K H a xs->xs[i]?=À x,
   λi H=>∃xs,dM K H a xs/\xs.length<=i]
def Dp{P:Ò}{w:Û}{K:Ã}{elts:List Õ}{kk:Nat}{tp:é}(z it a:Æ):Turn P w K (.Tuple elts kk tp) (Px K a) [z,it] z
  (λi h=>(∃old,IsEnum h z it ((i:Nat):Int) old)/\h.IsListIter it a i) where
 mem:=by simp
 obj:=λi h st c A=>by
  obtain⟨⟨old,hz⟩,h1⟩:=st;have d:c=z\/c=it:=by simpa using A
  rcases d with e|e
  .subst e;exact#[_,hz,λv q=>by cases q]
  .subst e;obtain⟨o,q1,q2,B⟩:=h1;exact#[o,q1,λv q=>by rw[B] at q;cases q]
 keep:=λi h h' st k=>by
  obtain⟨⟨old,hz⟩,h1⟩:=st;exact#[#[old,k z .c _ hz],h1.at λo e=>k it .c o e]
 item:=by
  intro X L V F A i ZB s Y H E I g st D;subst L V F;obtain⟨xs,x,C,gx⟩:=D;obtain⟨⟨old,hz⟩,h1⟩:=st;obtain⟨ix,α,T,_⟩:=I.list C;have X':∀{s t:String},s≠t->ę s≠ę t:=λne e=>ne (by injection e)
  have j:z≠it:=by
   obtain⟨o1,y,b1,_⟩:=h1;exact dF hz y (by rw[b1];exact X' .b)
  obtain⟨u,ux,Γ⟩:=α.get gx;refine wpAny_pyNext_enum_item hz h1 T.isList ↑ux j λh' y a3 a5 a6 f=>?_;have J:H s.heap.objs.size=none:=I.hok.fresh (V_ _)
  have I1:Inv X ZB Y (upd H s.heap.objs.size (.tup [.int (i:Int),x])) {s with heap:=h',toks:=s.toks+1}:=by
   refine I.A6 (ch:=[z,it]) (V_ _) (λc o d e=>f c o (λq=>d (by simp[q])) (λq=>d (by simp[q])) e) (λc o e=>?_) (λc d=>g c d) ?_
   .by_cases q1:c=z
    .subst q1;exact#[_,y]
    by_cases B:c=it
    .subst B;obtain⟨o',q,_⟩:=a3;exact#[o',q]
    exact#[o,f c o q1 B e]
   .exact#[by show 2<=sizeLine;decide,[.int i s.toks,u],.cons #[_,rfl] (.cons Γ .nil),#[_,a5,rfl,_,rfl]]
  refine#[_,rfl,?_];have p:=g z .c;refine wpAny_letOwnedTupleGo_enum y λN G l=>?_;have zT:z≠s.heap.objs.size:=WQ (Wg hz);have I2:Inv X ZB Y (upd H s.heap.objs.size (.tup [.int (i:Int),x])) {({s with heap:=h',toks:=s.toks+1}:Ç) with heap:=N,toks:=s.toks+1}:=I1.turned (λc o d e=>l.extBut c o d e) (by rw[ax zT];exact p.1) p.2.1 p.2.2.2.1 p.2.2.2.2.1 p.2.2.2.2.2;refine#[.ref s.heap.objs.size,upd H s.heap.objs.size (.tup [.int (i:Int),x]),I2,rfl,#[s.heap.objs.size,x,J,rfl,rfl,λxs' O=>?_],#[#[_,G],a3.extBut l.extBut (Xm j)],λc d=>?_]
  .rwa[I.oo O C]
  .have S:c<s.heap.objs.size:=by
    have Q:c=z\/c=it:=by simpa using d
    rcases Q with e|e
    .subst e;exact Wg hz
    .subst e;obtain⟨_,q,_⟩:=h1;exact Wg q
   rw[ax (WQ S)];exact(g c d).1
 done:=by
  intro X L V F A i ZB s Y H E I g st D;subst L V F;obtain⟨xs,C,σ⟩:=D;obtain⟨⟨old,hz⟩,h1⟩:=st;obtain⟨ix,α,T,_⟩:=I.list C;refine wpAny_pyNext_enum_end (I.ok.hd A) hz h1 T.isList ?_ λh' f=>#[rfl,?_]
  .have:=α.length;simp;lia
  .have Z:=g it .c
   refine I.step (g':=s.gens) (d':=s.drawn) (t':=s.toks) (ch:=[it]) (λb hb=>?_) (λb o _ _ d e _=>f b o (λq=>d (by simp[q])) e) (λb o _ _ d e _=>#[o.slots,f b o (λq=>d (by simp[q])) e]) (λ_ _ _ _ n=>n)
    (λb o d e=>#[o,f b o (λq=>d (by simp[q])) e]) (λ_ _ e=>e) (λ_ _ _ e=>e) (λb ps e=>#[#[],by rw[e];simp]) (λm hm=>?_) (λb u e=>?_) I.bare
   .have q:=g b (by simp at hb ⊢;simp[hb]);exact#[q.2.2.2.1,q.2.1,q.2.2.2.2.1,q.2.2.2.2.2]
   .obtain⟨o,es,ep,ho,r⟩:=hm;exact#[o,es,ep,f _ o (Xm Z.2.1) ho,r]
   .have nn:∀c v,H c=À v->c≠it:=λc v e q=>by rw[q,Z.1] at e;cases e
    refine(I.hok b u e).rh (λc v d q=>?_) (λ_ q=>q) λ_ _ q=>q;rcases d with R|R
    .subst R;exact f c v (nn c _ e) q
    .exact f c v (nn c _ R) q
 self:=λ_ _ _ _ _ st h=>by
  obtain⟨⟨old,hz⟩,_⟩:=st;exact χ hz h
section
variable{X:Cx}{elts:List Õ}{kk:Nat}{tp:é}
def OB(K:Ã)(ta:TA):TI:=λY H R=>ta Y H λvs H1=>∃a,vs=[.ref a]/\(∃xs,dM K H1 a xs)/\R (Px K a) H1
def JH{e1:Õ}{ta:TA}{p pos:é}(k:Gl X "enumerate")(t:X.mg "enumerate"=none)(ha:PA X [e1] ta)(he:autoParam (Ä [e1] X.env=(Á,Ö e1 X.env)::Ä [] X.env) zra)
  (hpl:autoParam ((æ pos (Ä [] X.env)).any (·.1)=Á) zra):PI X (.Tuple elts kk tp) (.Call (.Name "enumerate" p) [e1] [] pos) (OB X.K ta):=by
 intro ZB s Y H R I h;refine Call_ (kg I k t PyProof.Rows.boot_enumerate (XI (b9 (ha pos ZB s Y H _ I h) λus b ⟨vs,H1,f,v,q1⟩=>?_) he hpl));obtain⟨a,e,⟨xs,n⟩,q⟩:=q1;subst e;obtain⟨u,rfl,j⟩:=vals1 v;cases j;obtain⟨x,y,o,_⟩:=f.list n;refine call_enumerate_list o.isList λh' i l w m=>?_;have r:Inv X ZB Y H1 {b with heap:=h',toks:=b.toks}:=f.kept m;refine χ (s:={b with heap:=h'}) i ?_;refine#[b.heap.objs.size+1,[b.heap.objs.size+1,b.heap.objs.size],_,Px X.K a,H1,rfl,r,Dp (b.heap.objs.size+1) b.heap.objs.size a,#[#[_,i],l],λc g=>?_,q]
 have d:b.heap.objs.size<=c:=by
  simp at g;rcases g with e|e<;>subst e<;>lia
 exact f.Dl d (f.hok.fresh d)
end
end L2
namespace L2.EP
open PySem PySem.Spec PyProof.Rows
noncomputable def wZ{M:Type}(xs:List M):List (Int×M):=xs.mapIdx λi x=>((i:Int),x)
def HB{M:Type}{xs:List M}{i:Nat}{u:Int×M}(h:(wZ xs)[i]?=À u):xs[i]?=À u.2/\u.1=(i:Int):=by
 unfold wZ at h;rw[Xz] at h;cases e:xs[i]? with
 |none=>rw[e] at h;cases h
 |some x=>rw[e] at h;cases h;exact#[rfl,rfl]
def k7{M:Type}(xs:List M):(wZ xs).length=xs.length:=by unfold wZ;rw[š]
section
variable{X:Cx}{U:aF}{M β:Type}[Py M][Py β]{e1 e2:Õ}{b1 b2:Bool}{elts:List Õ}{kk:Nat}{tp p ps:é}
def qC{xs:List M}(o:Gl X "enumerate")(D:X.mg "enumerate"=none)(h1:E X U e1 b1 xs)(b:autoParam (Ä [e1] X.env=(Á,Ö e1 X.env)::Ä [] X.env) zra)
  (hpl:autoParam ((æ ps (Ä [] X.env)).any (·.1)=Á) zra):EI X U (.Tuple elts kk tp) (.Call (.Name "enumerate" p) [e1] [] ps) b1 (wZ xs):=by
 stop
  exact#[_,JH o D (aC h1 aZ b) b hpl,λY H H0 F O R Z q=>#[H0,F,O,Z,λv H1 t G=>by
    obtain⟨a,d,B,e,I,k⟩:=G;refine#[a,by rw[B],#[d,(aq _ _).seq e],q _ H1 t λH' C j h=>#[λi u r=>?_,?_]]
    .obtain⟨m,hi⟩:=HB r;obtain⟨x,l,A⟩:=lS k m;have c:=(aq _ _).seq (h.seq e);refine#[#[d,x,c,l],λK y n=>?_];obtain⟨T,J,g,rfl,rfl,s⟩:=n;have ex:=s d c;rw[l] at ex;cases ex
     have f:¬C T:=λz=>by
      obtain⟨zs,w⟩:=j T z;rw[g] at w;cases w
     refine#[b7 g _,T,.int (i:Int),x,rfl,.inl (by rw[aN f];exact aE),?_,?_]
     .show V.int _=V.int _;rw[hi]
     .exact aw (h.trans (aj (b7 g _))) A
    .refine#[d,(aq _ _).seq (h.seq e),?_];rw[bq k,k7]
     lia]]
end
structure IF(β:Type) where
 rows:List (List β)
noncomputable instance{β:Type}[Py β]:Py (IF β) where
 rp K N H v a:=∃p xs,v=.ref p/\dM K H p xs/\N.has H p (.inl xs)/\xs.Nodup/\Ø (λx (r:List β)=>Py.rp K N H x r) xs a.rows
 tr l t h:=by
  obtain⟨p,xs,e,s,n,b,r⟩:=h;obtain⟨s',c⟩:=l _ (.inl xs) s n;exact#[p,xs,e,s',c,b,aV (λ_ _ q=>Py.tr l t q) r]
def HH{β:Type}[Py β]{K:Ã}{N:Nn}{H:Hp}{v:V}{rows:List (List β)}(h:Py.rp K N H v (IF.mk rows)):Py.rp K N H v rows:=by
 obtain⟨p,xs,e,s,n,_,r⟩:=h;exact#[p,xs,e,s,n,r]
section
variable{X:Cx}{U:aF}{D:GD}{M β:Type}[Py M][Py β]{elt target iter c:Õ}{b b':Bool}{pos:é}{YP:ú}{tn:List Í}{js:List Nat}{g:TG}{tc:Nat->Prop}{put:Bool->M->aF->aF}{as:List M}
def QN(X:Cx)(tn:List Í)(js:List Nat)(YP:ú)(elt:Õ)(β:Type)[Py β]:TE:=λY H Q=>∃U',∃v:β,(∀C s H fp,EN .G U' elt v)/\tN X.K U' v Y H Q
def Li{C:Æ}{s:Ç}{H:Hp}{fp:List Æ}:PE .G elt (QN X tn js YP elt β):=by stop exact λZB s' Y H' Q I ⟨U',v,h,q⟩=>(show PE .G elt (tN X.K U' v) from h C s H fp) ZB s' Y H' Q I q
def Gv{f:M->List β}{wi:TI}(hw:∀(Y:St) (H H0:Hp) (F O:Æ->Prop) (R:It->Hp->Prop),cU X.K H0 F O U Y H->(∀J H1,az H H1->OH X.K H0 O b as J H1->R J H1)->wi Y H R)
  (hgp:GP g M put tc X.K) (σ:∀j,tc j->j<tn.length)
  (hb:∀(i:Nat) (a:M),as[i]?=À a->∀C s H fp,EN .G (put b a (cΓ U tn js)) elt (f a)) (hl:as.length<=1000)
  {Y:St} {H:Hp} {Q:VK} {H0:Hp} {F O:Æ->Prop} (Z:cU X.K H0 F O U Y H) (q:∀v H',az H H'->Py.rp X.K (.new H) (off H' O) v (IF.mk (as.map f))->Q v H'):
  M7 wi tn js g (Pb X tn js YP []) (QN X tn js YP elt (List β)) Y H Q:=by
 stop
  refine hw Y H H0 F O _ Z λJ H1 Γ XP D E=>?_;have Z1:=Z.go Γ
  refine#[λi m H' xs=>m=as.length-i/\i<=as.length/\az H1 H'/\H' D=À (.lst xs)/\xs.Nodup/\(∀x∈xs,∃q ys,x=.ref q/\H' q=À (.lst ys))/\Ø (λx a=>Py.rp X.K (.new H) (off H' λp=>O p\/p=D) x a) xs ((as.take i).map f),
   #[_,rfl,XB _,b7 E _,aE,Yk,(λx h=>by cases h),.nil],?_]
  rintro i m H' xs ⟨rfl,hi,S,G,nd,A,P⟩;refine#[G,?_];obtain⟨Z',so⟩:=Z1.ownIn E S G;obtain⟨t1,t2⟩:=XP H' _ Z'.own so;by_cases L:i<as.length
  .have ha:as[i]?=À as[i]:=V7 L;have V:as.take (i+1)=as.take i++[as[i]]:=by rw[Z7,ha];rfl
   obtain⟨go,yl⟩:=t1 i _ ha;refine .inr #[go,λx B hy=>?_];obtain⟨d,rx⟩:=yl x B hy;refine hgp b as[i] H0 F _ (cΓ U tn js) (cσ Y tn js) B x _ ((Z'.go d).fG tn js) rx λσ2 Z2 l2 k2=>?_;refine#[#[λj v hj e=>?_,l2],_,_,λC s H fp=>vz,H0,F,_,Z2,λH3 k=>?_]
   .rwa[k2 j λz=>absurd (σ j z) (Y2.mpr hj)]
   refine oM #[_,_,hb i _ ha,H0,F,_,Z2.go k,λy H4 N ry=>?_];have hx4:H4 D=À (.lst xs):=N _ _ (k _ _ (d _ _ G));have hOD:(λp=>O p\/p=D) D:=.inr rfl;have sH3:az H H3:=Γ.trans (S.trans (d.trans k));have ry':=kK sH3 ry;obtain⟨T,u,e0,sq0,n,rr0⟩:=ry;have h40:H4 T=À (.lst u):=(aq _ _) _ _ n.2
   have α:T≠D:=λw=>by
    have r:H3 D=À (.lst xs):=k _ _ (d _ _ G);rw[<-w,n.1] at r;cases r
   refine#[hx4,?_,as.length-(i+1),.a,rfl,L,?_,aE,?_,?_,?_]
   .have:=bq P;rw[V2] at this;have r:=Z4 i as;exact YK .a (bA hl)
   .exact λc o z=>by
     have hc:c≠D:=λw=>by rw[w,E] at z;cases z
     rw[ax hc];exact N _ _ (k _ _ (d _ _ (S _ _ z)))
   .rw[Zp];refine#[nd,.c,λa ha1 c hc1=>?_];rw[WR.mp hc1];obtain⟨q1,l,e1,h1⟩:=A a ha1;rw[e1,e0];intro w;cases w;have r:H3 T=À (.lst l):=k _ _ (d _ _ h1);rw[n.1] at r;cases r
   .intro x' W;rcases W2.mp W with z|z
    .obtain⟨q1,l,e1,h1⟩:=A x' z;by_cases t:q1=D
     .exact#[q1,xs++[y],e1,by rw[t];exact aE]
     .exact#[q1,l,e1,by rw[ax t];exact N _ _ (k _ _ (d _ _ h1))]
    .rw[WR.mp z];exact#[T,u,e0,by rw[ax α];exact h40]
   .rw[jO hOD,V];simp only[Ya,Wb,Zc];exact oO (aV (λ_ _ z=>aw (aj (d.trans (k.trans N))) z) P) (.cons ry' .nil)
  .have ei:i=as.length:=by lia
   subst ei;rw[XJ] at P;have I:off H' O D=À (.lst xs):=by rw[aN (Z1.gg E)];exact G
   refine .inl #[t2,q _ H' (Γ.trans S) #[D,xs,rfl,dM.of I,#[Γ.free E,I],nd,?_]];exact aV (λ_ _ z=>aw (ja λ_ w=>.inl w) z) P
def E8[PyT β]{f:M->β}{wi:TI}(hw:∀(Y:St) (H H0:Hp) (F O:Æ->Prop) (R:It->Hp->Prop),cU X.K H0 F O U Y H->(∀J H1,az H H1->OH X.K H0 O b as J H1->R J H1)->wi Y H R)
  (G:GP g M put tc X.K) (B:∀j,tc j->j<tn.length)
  (hb:∀(i:Nat) (a:M),as[i]?=À a->∀C s H fp,E .G (put b a (cΓ U tn js)) elt b' (f a)) (V:as.length<=1000)
  {Y:St} {H:Hp} {Q:VK} {H0:Hp} {F O:Æ->Prop} (Z:cU X.K H0 F O U Y H) (q:∀v H',az H H'->Py.rp X.K (.new H) (off H' O) v (as.map f)->Q v H'):
  M7 wi tn js g (Pb X tn js YP []) (PM X tn js YP elt β b') Y H Q:=by
 stop
  refine hw Y H H0 F O _ Z λJ H1 P XP D h=>?_;have S:=Z.go P
  refine#[λi m H' xs=>m=as.length-i/\i<=as.length/\az H1 H'/\H' D=À (.lst xs)/\Ø (λx a=>Py.rp X.K (.new H) (off H' λp=>O p\/p=D) x a) xs ((as.take i).map f),
   #[_,rfl,XB _,b7 h _,aE,.nil],?_]
  rintro i m H' xs ⟨rfl,hi,α,u,r⟩;refine#[u,?_];obtain⟨Γ,so⟩:=S.ownIn h α u;obtain⟨t1,σ⟩:=XP H' _ Γ.own so;by_cases l:i<as.length
  .have ha:as[i]?=À as[i]:=V7 l;have A:as.take (i+1)=as.take i++[as[i]]:=by rw[Z7,ha];rfl
   obtain⟨go,yl⟩:=t1 i _ ha;refine .inr #[go,λx d hy=>?_];obtain⟨n,rx⟩:=yl x d hy;refine G b as[i] H0 F _ (cΓ U tn js) (cσ Y tn js) d x _ ((Γ.go n).fG tn js) rx λσ2 T l2 k2=>?_;refine#[#[λj v W e=>?_,l2],_,_,λC s H fp=>vz,H0,F,_,T,λH3 t=>?_]
   .rwa[k2 j λz=>absurd (B j z) (Y2.mpr W)]
   refine oM #[_,_,hb i _ ha,H0,F,_,T.go t,λy H4 I ry=>?_];have L:H4 D=À (.lst xs):=I _ _ (t _ _ (n _ _ u));have N:(λp=>O p\/p=D) D:=.inr rfl;refine#[L,?_,as.length-(i+1),.a,rfl,l,?_,aE,?_]
   .have:=bq r;rw[V2] at this;have h3:=Z4 i as;exact YK .a (bA V)
   .exact λc o z=>by
     have hc:c≠D:=λw=>by rw[w,h] at z;cases z
     rw[ax hc];exact I _ _ (t _ _ (n _ _ (α _ _ z)))
   .rw[jO N,A];simp only[Ya,Wb,Zc];exact oO (aV (λ_ _ z=>aw (aj (n.trans (t.trans I))) z) r) (.cons (PyT.free (λ_ _ w=>w) ry) .nil)
  .have ei:i=as.length:=by lia
   subst ei;rw[XJ] at r;have k:off H' O D=À (.lst xs):=by rwa[aN (S.gg h)]
   refine .inl #[σ,q _ H' (P.trans α) #[D,xs,rfl,dM.of k,#[P.free h,k],?_]];exact aV (λ_ _ z=>aw (ja λ_ w=>.inl w) z) r
def yg[PyT β]{f:M->β}(tn:List Í)(js:List Nat)(S:e7 X YP tn js)(he:EI X U target iter b as)(d:GP g M put tc X.K)(k:∀C s H fp,PG .G target g)(c:∀j,tc j->j<tn.length)
  (l:∀(i:Nat) (a:M),as[i]?=À a->∀C s H fp,E .G (put b a (cΓ U tn js)) elt b' (f a)) (e:as.length<=1000) (h:autoParam (X.calm=Â) zra)
  (m:autoParam (∀x,Ù iter X.env x=pure x) zrc):EN X U (.ListComp elt [#[target,iter,[],0]] YP pos) (as.map f):=by stop obtain⟨wi,hi,n⟩:=he;exact aG (GO S h hi (λC s H fp=>#[k C s H fp,u5,zm]) m) λY H Q ⟨H0,F,O,Z,q⟩=>E8 n d c l e Z q
variable{γ:Type}[Py γ]{e e1 e2:Õ}{b1 b2:Bool}{p:é}{rest st:List Ð}
end
theorem zt{M β:Type}{F:M->β->Prop}{l:List M}{m:List β}(h:Ø F l m):∀k,Ø F (È k l).flatten (È k m).flatten
 |0=>.nil
 |k+1=>by
  rw[W7,Ye,W7,Ye];exact oR h (zt h k)
section
variable{X:Cx}{U:aF}{D:GD}{M β γ:Type}[Py M][Py β][Py γ]{e e1 e2:Õ}{b b1 b2:Bool}{pos:é}{rest st:List Ð}
def Ni{xs:List M}{k:Int}(ha:E X U e1 Â xs)(n:E X U e2 b2 k)(r:0<=k)(h1:k<=1000)(h:xs.length*k.toNat<=1000):E X U (.BinOp e1 .Mult e2 pos) Â (È k.toNat xs).flatten:=by
 stop
  exact aG (q_ FZ ha n) λY H Q ⟨H0,F,O,S,q⟩=>#[H0,F,O,S,λv H1 e o=>#[H0,F,O,S.go e,λw H2 a j=>by
    obtain⟨p,vs,e1,i,m,c⟩:=o;have h1:H2 p=À (.lst vs):=a _ _ ((aq _ _) _ _ m.2);refine#[p,k,vs,e1,j,h1,.a,.a,by rw[bq c];exact Xv (bA h),λl d=>?_];obtain⟨g,f⟩:=cq (xs:=(È k.toNat vs).flatten) ((S.go e).go a) d
    exact q _ _ (e.trans (a.trans g)) #[l,_,rfl,dM.of f,Nf.wk (b:=Â) (((S.go e).go a).g8 d) f,zt (aV (λ_ _ z=>aw ((aj a).trans (aj g)) z) c) _]]]
theorem vt{a:M}:∀k,(È k [a]).flatten=È k a
 |0=>rfl
 |k+1=>by rw[W7,Ye,vt k,W7];rfl
def EW{a:M}{k:Int}(ha:E X U e1 Â [a])(b:E X U e2 b2 k)(c:0<=k)(h1:k<=1000):E X U (.BinOp e1 .Mult e2 pos) Â (È k.toNat a):=by
 rw[<-vt];exact Ni ha b c h1 (by simp;lia)
variable{p:é}
def Jc{i:Int}{xs:List Int}:CV X .NotIn i xs (!decide (i∈xs)):=#[_,wA,λN N' H v w Q h1 h2 q=>by
 obtain⟨p,vs,rfl,sq,n,r⟩:=h2;cases h1;refine#[p,vs,rfl,.inl sq,rfl,?_,?_]
 .rw[oV r];simp[nC]
 .rwa[oV r,yy]]
end
end L2.EP
namespace Q
variable{a x m k N b z y c B:Int}{l zs xs:List Int}{n i:Nat}
theorem AD:∀{L α:List Int},L.Nodup->(∀x∈L,x∈α)->L.length<=α.length
 |[],α,_,_=>XB _
 |x::L,α,d,h=>by
  obtain⟨c,f⟩:=Xw.mp d;have a:=h x Wu;have e:=AD (α:=α.erase x) f λy b=>(Ŋ (by rintro rfl;exact c b)).mpr (h y (We _ b));have g:0<α.length:=List.length_pos_of_mem a;rw[List.length_erase_of_mem a] at e;rw[WN];lia
def M9{p:Int}(c:Int)(h:p∣x):p∣c*x:=Wz h #[c,WE _ _]
def Iz{p:Int}(hp:bg p=Â)(h:ck a p=1):∃r t:Int,r*r=a+p*t:=by
 cases b:pK a p with
 |none=>rw[qI.mp b] at h;cases h
 |some r =>
  obtain⟨_,t,c⟩:=uZ hp b;exact#[r,t,.a]
def Kg{p:Int}(hp:bg p=Â)(ha:¬p∣a)(c:¬p∣b):¬p∣a*b:=λz=>(euclid hp z).elim ha c
noncomputable def P5(r:Nat):Int×Int:=if r%2=1 then (0,((r%8:Nat):Int)) else (1,(((r/2)%8:Nat):Int))
def QK:List Nat:=[0,1,4,9]
def Hd(h:a%4≠0):cls a 2=P5 (a%16).toNat:=by
 unfold P5;by_cases b:a%2=1
 .rw[V6 .a,yi .b .a,V6 rfl];congr 1;lia
 .rw[V4 .a];have:=B1 (k:=a/2) (d:=2) (v:=1) .b .a;rw[W4,show a/2*2=a by lia] at this;unfold cls;rw[this,V6 rfl];show((1:Int)%2,a/2%8)=_;congr 1;lia
def QG(x:Int):(x*x%16).toNat∈QK/\((x*x%16).toNat%2=1↔¬(2:Int)∣x):=by
 have e:x*x%16=(x%16)*(x%16)%16:=by rw[XT]
 have h1:0<=x%16/\x%16<16:=by lia
 have h2:(2:Int)∣x↔(x%16)%2=0:=by lia
 rw[e,h2];generalize x%16=r at *;have:r=0\/r=1\/r=2\/r=3\/r=4\/r=5\/r=6\/r=7\/r=8\/r=9\/r=10\/r=11\/r=12\/r=13\/r=14\/r=15:=by lia
 rcases this with rfl|rfl|rfl|rfl|rfl|rfl|rfl|rfl|rfl|rfl|rfl|rfl|rfl|rfl|rfl|rfl<;>decide
def Tf(T:Tb)(i j:Nat):Rat:=val ((T.getD i []).getD j (0,1))
def Ef{A B:Tb}(a:Sq n A)(b:Sq n B){j:Nat}(hi:i<n)(d:j<n):Tf (u9 A B) i j=sN (λm=>Tf A i m*Tf B m j) n:=by
 unfold Tf;have c:=b.col (j:=(j:Int)) .a .a;rw[HU a b hi d,jm (a.row _ (kX a hi)) c.1 (a.low _ (kX a hi)) c.2];exact dZ n λm e=>by rw[Ci b e,Wm]
def Mi{T:Tb}(h:Sq n T){j:Nat}(hi:i<n)(a:j<n):Tf (tj T) i j=Tf T j i:=by
 unfold Tf;rw[Jl h hi a]
def LX{A B:Tb}(a:Sq n A)(b:Sq n B)(h:∀i,i<n->∀j,j<n->Tf A i j=Tf B i j):A=B :=
 KP a b λi j hi c=>val_inj (mK (a.low _ (kX a hi)) j) (mK (b.low _ (kX b hi)) j) (h i hi j c)
def zB(F T:Tb):Tb:=u9 (tj T) (u9 F T)
def K9{F T:Tb}(b:Sq n F)(a:Sq n T):Sq n (zB F T):=a.tj.u9 (b.u9 a)
theorem Eh{f:Nat->Rat}{i:Nat}:∀n,i<n->(∀j,j<n->j≠i->f j=0)->sN f n=f i
 |0,h,_=>absurd h (Xx i)
 |n+1,h,b=>by
  show sN f n+f n=f i;by_cases e:i=n
  .subst e;rw[dZ (g:=λ_=>0) i (λj c=>b j .a .a),wc];grind
  .rw[Eh n .a (λj c a=>b j .a a),b n .a (λz=>e z.symm)];grind
def PZ(l:List Int)(p N:Int):Prop:=∃xs:List Int,xs.length=l.length/\N∣a9 l xs/\∃x∈xs,¬p∣x
def AA{p:Int}(hp:bg p=Â)(ha:¬p∣a)(h:p∣a*x*x-a*y*y):p∣x-y\/p∣x+y:=by
 rw[show a*x*x-a*y*y=a*((x-y)*(x+y)) by grind] at h;rcases euclid hp h with h|h
 .exact absurd h ha
 .exact euclid hp h
def half(p:Int):List Int:=(Ú ((p+1)/2).toNat).map fun(i:Nat)=>(i:Int)
def Ft{p:Int}(hp:2<=p):x∈half p↔0<=x/\x<(p+1)/2:=by
 unfold half;simp only[V3,W9];constructor
 .rintro⟨i,h,rfl⟩;lia
 .rintro⟨h1,h2⟩;exact#[x.toNat,.a,.a]
theorem nodup_map_on{f:Int->Int}:∀{l:List Int},l.Nodup->(∀x∈l,∀y∈l,f x=f y->x=y)->(l.map f).Nodup
 |[],_,_=>Yk
 |a::l,c,g=>by
  rw[Xw] at c;rw[Wb,Xw];refine#[λh=>?_,nodup_map_on c.2 λx i y j=>g x (by simp[i]) y (by simp[j])];obtain⟨b,d,e⟩:=V3.mp h;have:=g b (by simp[d]) a .c e;subst this;exact c.1 d
def sW(p:Int):(half p).Nodup:=by
 unfold half;rw[show(Ú ((p+1)/2).toNat).map (fun(i:Nat)=>(i:Int))=((Ú ((p+1)/2).toNat).map fun(i:Nat)=>(i:Int)) from rfl];exact aaD.map _ λa b h e=>h .a
def xR{p s:Int}(hp:bg p=Â)(h2:p≠2)(g:¬p∣s)(b:x∈half p)(f:y∈half p)(e:(c+s*x*x)%p=(c+s*y*y)%p):x=y:=by
 have a:=aA hp;have i:=uO hp h2;rw[Ft a] at b f
 have d:p∣s*x*x-s*y*y:=by
  have:=tQ.mp e
  rwa [show c+s*x*x-(c+s*y*y)=s*x*x-s*y*y by lia] at this
 rcases AA hp g d with h|h
 .have:=gD h .a .a;lia
 .have:=gD h .a .a;lia
def yj{p:Int}(c:Int)(hp:bg p=Â)(h2:p≠2)(ha:¬p∣a)(t:¬p∣b):∃x y:Int,p∣a*x*x+b*y*y-c:=by
 have q:=aA hp;have B:=uO hp h2;apply V9;intro s;have f:¬p∣-b:=λz=>t (YE.mp z);have r:((half p).map λx=>(0+a*x*x)%p).Nodup:=nodup_map_on (sW p) λx d y g e=>xR hp h2 ha d g e;have A:((half p).map λy=>(c+-b*y*y)%p).Nodup:=nodup_map_on (sW p) λx d y g e=>xR hp h2 f d g e
 have o:((half p).map (λx=>(0+a*x*x)%p)++(half p).map λy=>(c+-b*y*y)%p).Nodup:=by
  rw[Zp];refine#[r,A,λu j v m e=>s ?_];obtain⟨x,_,rfl⟩:=V3.mp j;obtain⟨y,_,rfl⟩:=V3.mp m;refine#[x,y,?_];have:=tQ.mp e
  rwa [show 0+a*x*x-(c+-b*y*y)=a*x*x+b*y*y-c by grind] at this
 have l:=AD o (α:=(Ú p.toNat).map fun(i:Nat)=>(i:Int)) λu j=>by
  have k:∃w,u=w%p:=by
   rcases W2.mp j with h|h
   .obtain⟨x,_,rfl⟩:=V3.mp h;exact#[_,rfl]
   .obtain⟨x,_,rfl⟩:=V3.mp h;exact#[_,rfl]
  obtain⟨w,rfl⟩:=k;have h1:=Wo w (b:=p) .a;have C:=Wf w (b:=p) .a;exact V3.mpr #[(w%p).toNat,W9.mpr .a,.a]
 have n:(half p).length=((p+1)/2).toNat:=by unfold half;simp
 simp only[WL,V2,YQ,n] at l;lia
def bK(xs:List Int):a9 [] xs=0:=by cases xs<;>rfl
theorem gC:∀l:List Int,a9 l (È l.length 0)=0
 |[]=>rfl
 |a::l=>by
  show a*0*0+a9 l (È l.length 0)=0;rw[gC l];lia
theorem eG:∀{l m xs ys:List Int},l.length=xs.length->a9 (l++m) (xs++ys)=a9 l xs+a9 m ys
 |[],_,[],_,_=>by rw[bK];show a9 _ _=_;simp
 |a::l,m,x::xs,ys,h=>by
  show a*x*x+a9 (l++m) (xs++ys)=a*x*x+a9 l xs+a9 m ys;rw[eG ↑h];lia
def PZ.more{p:Int}(m:List Int)(h:PZ l p N):PZ (l++m) p N:=by
 obtain⟨xs,h1,h2,x,a,b⟩:=h;refine#[xs++È m.length 0,by simp[h1],?_,x,by simp[a],b];rw[eG h1.symm,gC];simpa using h2
def om{p:Int}(hp:bg p=Â)(h2:p≠2):∀{l:List Int},(∀a∈l,¬p∣a)->(PZ l p p↔3<=l.length\/∃a b,l=[a,b]/\ck (-a*b) p=1)
 |[],_=>by
  constructor
  .rintro⟨xs,h1,_,x,i,_⟩;cases xs with
   |nil=>cases i
   |cons _ _=>cases h1
  .rintro(h|⟨a,b,h,_⟩)
   .cases h
   .cases h
 |[a],g=>by
  constructor
  .rintro⟨xs,h1,i,x,n,f⟩
   match xs,h1 with
   |[y],_ =>
    have e:x=y:=by simpa using n
    subst e;have o:p∣a*x*x:=by simpa [a9] using i
    exact absurd o (Kg hp (Kg hp (g a .c) f) f)
  .rintro(h|⟨c,b,h,_⟩)
   .exact absurd h .c
   .cases h
 |[a,b],g=>by
  have ha:=g a .c;have s:=g b .c;constructor
  .rintro⟨xs,h1,i,x,n,f⟩
   match xs,h1 with
   |[y,z],_ =>
    have k:p∣a*y*y+b*z*z:=by simpa [a9] using i
    have j:¬p∣y/\¬p∣z:=by
     have k1:p∣y->p∣z:=λA=>by
      have:p∣b*z*z:=by
       have:=XH k (M9 (a*y) A)
       rwa [show a*y*y+b*z*z-a*y*y=b*z*z by lia] at this
      rcases euclid hp this with w|w
      .exact(euclid hp w).elim (λw=>absurd w s) id
      .exact w
     have k2:p∣z->p∣y:=λhz=>by
      have:p∣a*y*y:=by
       have:=XH k (M9 (b*z) hz)
       rwa [show a*y*y+b*z*z-b*z*z=a*y*y by lia] at this
      rcases euclid hp this with w|w
      .exact(euclid hp w).elim (λw=>absurd w ha) id
      .exact w
     rcases V8.mp n with e|e
     .subst e;exact#[f,λw=>f (k2 w)]
     .have e:x=z:=by simpa using e
      subst e;exact#[λw=>f (k1 w),f]
    refine .inr #[a,b,rfl,?_]
    have e:ck (-a*b*z*z) p=ck ((a*y)*(a*y)) p:=mM (tQ.mpr (by
     rw[show -a*b*z*z-a*y*(a*y)=-a*(a*y*y+b*z*z) by grind]
     exact M9 _ k))
    have m:¬p∣-a*b:=Kg hp (λw=>ha (YE.mp w)) s;rw[gr hp,gr hp,gr hp (a*y)] at e;have q:=Kg hp ha j.1;rcases eU m with u|u<;>rcases eU j.2 with v|v<;>rcases eU q with w|w<;>rw[u,v,w] at e<;>first|exact u|(exfalso;revert e;decide)
  .rintro(h|⟨c,d,h,C⟩)
   .exact absurd h .c
   .cases h;obtain⟨r,t,B⟩:=Iz hp C;refine#[[r,a],rfl,?_,a,.c,ha];show p∣a*r*r+(b*a*a+0);rw[show a*r*r+(b*a*a+0)=a*(r*r+a*b) by grind,B];exact#[a*t,by grind]
 |a::b::c::l,g=>by
  refine#[λ_=>.inl .c,λ_=>?_];obtain⟨x,y,D⟩:=yj (-c) hp h2 (g a .c) (g b .c)
  have:PZ [a,b,c] p p:=by
   refine#[[x,y,1],rfl,?_,1,.c,λw=>by have:=Wt .b w;have:=aA hp;lia];show p∣a*x*x+(b*y*y+(c*1*1+0))
   rwa [show a*x*x+(b*y*y+(c*1*1+0))=a*x*x+b*y*y - -c by lia]
  exact this.more l
noncomputable def sel(f:Int->Bool):List Int->List Int->List Int
 |a::l,x::xs=>if f a then x::sel f l xs else sel f l xs
 |_,_=>[]
def ig(p a:Int):Bool:=decide (a%p=0)
noncomputable def nR(p:Int)(l:List Int):List Int:=l.filter λa=>!ig p a
noncomputable def o5(p:Int)(l:List Int):List Int:=(l.filter (ig p)).map (·/p)
def J8{p:Int}(z:ig p a=Â):nR p (a::l)=nR p l:=by unfold nR;exact WH (p:=λa=>!ig p a) (by simp[z])
def J_{p:Int}(z:ig p a=Â):o5 p (a::l)=a/p::o5 p l:=by unfold o5;rw[WI z];rfl
def JQ{p:Int}(z:¬ig p a=Â):nR p (a::l)=a::nR p l:=by unfold nR;exact WI (p:=λa=>!ig p a) (by simp[z])
def KJ{p:Int}(z:¬ig p a=Â):o5 p (a::l)=o5 p l:=by unfold o5;rw[WH z]
def kY{f:Int->Bool}(z:f a=Â):sel f (a::l) (x::xs)=x::sel f l xs:=V6 z
def kW{f:Int->Bool}(z:¬f a=Â):sel f (a::l) (x::xs)=sel f l xs:=V4 z
theorem wo(f:Int->Bool):∀{l xs:List Int},xs.length=l.length->(sel f l xs).length=(l.filter f).length
 |[],[],_=>rfl
 |a::l,x::xs,h=>by
  have b:=wo f (l:=l) (xs:=xs) ↑h;unfold sel;by_cases z:f a=Â
  .rw[V6 z,WI z,WN,WN,b]
  .rw[V4 z,WH z,b]
theorem k_{p:Int}(hp:2<=p):∀{l xs:List Int},xs.length=l.length->a9 l xs=a9 (nR p l) (sel (λa=>!ig p a) l xs)+p*a9 (o5 p l) (sel (ig p) l xs)
 |[],[],_=>by simp[a9,nR,o5]
 |a::l,x::xs,h=>by
  have c:=k_ hp (l:=l) (xs:=xs) ↑h;show a*x*x+a9 l xs=_;rw[c];by_cases z:ig p a=Â
  .have b:¬(!ig p a)=Â:=by simp[z]
   have e:p*(a/p)=a:=XM (Wh (Xq z));rw[J8 z,J_ z,kY z,kW (f:=λa=>!ig p a) b];show _=_+p*(a/p*x*x+_);rw[ŕ,show p*(a/p*x*x)=(p*(a/p))*x*x by grind,e];lia
  .have b:(!ig p a)=Â:=by simp[z]
   rw[JQ z,KJ z,kW z,kY (f:=λa=>!ig p a) b];show _=a*x*x+_+_;lia
theorem Ga(f:Int->Bool):∀{l xs:List Int} {Q:Int->Prop},xs.length=l.length->(∃x∈xs,Q x)->(∃x∈sel f l xs,Q x)\/∃x∈sel (λa=>!f a) l xs,Q x
 |[],[],_,_,⟨x,h,_⟩=>by cases h
 |a::l,x::xs,Q,h,he=>by
  have c:=Ga f (l:=l) (xs:=xs) (Q:=Q) ↑h;rw[fC] at he;by_cases z:f a=Â
  .have b:¬(!f a)=Â:=by simp[z]
   rw[kY z,kW (f:=λa=>!f a) b,fC];rcases he with he|he
   .exact .inl (.inl he)
   .exact(c he).imp .inr id
  .have b:(!f a)=Â:=by simp[z]
   rw[kW z,kY (f:=λa=>!f a) b,fC];rcases he with he|he
   .exact .inr (.inl he)
   .exact(c he).imp id .inr
noncomputable def Ew(f:Int->Bool):List Int->List Int->List Int->List Int
 |a::l,ys,zs=>if f a then (match ys with|y::ys=>y::Ew f l ys zs|[]=>0::Ew f l [] zs) else (match zs with|z::zs=>z::Ew f l ys zs|[]=>0::Ew f l ys [])
 |[],_,_=>[]
theorem u_(f:Int->Bool):∀{l ys zs:List Int},ys.length=(l.filter f).length->zs.length=(l.filter λa=>!f a).length->(Ew f l ys zs).length=l.length/\sel f l (Ew f l ys zs)=ys/\sel (λa=>!f a) l (Ew f l ys zs)=zs
 |[],ys,zs,h1,h2=>by
  have e1:ys=[]:=Xt.mp h1;have e2:zs=[]:=Xt.mp h2;subst e1;subst e2;exact#[rfl,rfl,rfl]
 |a::l,ys,zs,h1,h2=>by
  by_cases z:f a=Â
  .have b:¬(!f a)=Â:=by simp[z]
   rw[WI z] at h1;rw[WH (p:=λa=>!f a) b] at h2
   match ys,h1 with
   |y::ys,h1 =>
    obtain⟨k1,k2,k3⟩:=u_ f (l:=l) (ys:=ys) (zs:=zs) ↑h1 h2;unfold Ew;rw[V6 z];dsimp only;rw[kY z,kW (f:=λa=>!f a) b,k2,k3];exact#[by simp[k1],rfl,rfl]
  .have b:(!f a)=Â:=by simp[z]
   rw[WH z] at h1;rw[WI (p:=λa=>!f a) b] at h2
   match zs,h2 with
   |w::zs,h2 =>
    obtain⟨k1,k2,k3⟩:=u_ f (l:=l) (ys:=ys) (zs:=zs) h1 ↑h2;unfold Ew;rw[V4 z];dsimp only;rw[kW z,kY (f:=λa=>!f a) b,k2,k3];exact#[by simp[k1],rfl,rfl]
theorem qx(f:Int->Bool):∀{l xs:List Int} {x:Int},x∈sel f l xs->x∈xs
 |[],_,_,h=>by simp[sel] at h
 |_::_,[],_,h=>by simp[sel] at h
 |a::l,y::xs,x,h=>by
  unfold sel at h;split at h
  .rcases V8.mp h with e|e
   .exact V8.mpr (.inl e)
   .exact V8.mpr (.inr (qx f e))
  .exact V8.mpr (.inr (qx f h))
theorem BJ{d:Int}:∀{l xs:List Int},(∀x∈xs,d∣x)->d*d∣a9 l xs
 |[],xs,_=>by rw[bK];exact Zg _
 |_::_,[],_=>Zg _
 |a::l,x::xs,h=>by
  show d*d∣a*x*x+a9 l xs;obtain⟨t,rfl⟩:=h x .c;exact X8 #[a*t*t,by grind] (BJ λy b=>h y (by simp[b]))
theorem Kv{p:Int}(hp:bg p=Â)(h2:p≠2):∀{l xs:List Int} (r:Int),xs.length=l.length->(∀a∈l,¬p∣a)->p∣a9 l xs-r->(∃x∈xs,¬p∣x)->∃ys:List Int,ys.length=l.length/\p*p∣a9 l ys-r/\∃y∈ys,¬p∣y
 |[],[],_,_,_,_,⟨x,h,_⟩=>by cases h
 |a::l,x::xs,r,k,m,o,he=>by
  have B:=aA hp;by_cases c:p∣x
  .have g:∃y∈xs,¬p∣y:=by
    rw[fC] at he;exact he.resolve_left λz=>z c
   obtain⟨ys,k1,k2,k3⟩:=Kv hp h2 (l:=l) (xs:=xs) (r-a*x*x) ↑k (λb w=>m b (by simp[w])) (by
    show p∣a9 l xs-(r-a*x*x)
    rwa [show a9 l xs-(r-a*x*x)=(a*x*x+a9 l xs)-r by lia]) g
   refine#[x::ys,by simp[k1],?_,?_]
   .show p*p∣a*x*x+a9 l ys-r
    rwa [show a*x*x+a9 l ys-r=a9 l ys-(r-a*x*x) by lia]
   .obtain⟨y,s,j⟩:=k3;exact#[y,by simp[s],j]
  .-- x+p t: a (x+p t)^2=a x^2+2 a x p t+p^2 ..
   obtain⟨q,C⟩:=o;have f:¬p∣(2:Int):=λz=>h2 (dc hp bQ z);have j:¬p∣2*a*x:=Kg hp (Kg hp f (m a .c)) c
   obtain⟨u,v,d⟩:∃u v:Int,2*a*x*u=1+p*v:=by
    have A:=Ge hp j;obtain⟨v,n⟩:=A;have i:(p-1).toNat=(p-2).toNat+1:=by lia
    refine#[(2*a*x)^(p-2).toNat,v,?_];rw[i,Wk] at n;have:2*a*x*(2*a*x)^(p-2).toNat=(2*a*x)^(p-2).toNat*(2*a*x):=WE _ _;lia
   refine#[(x+p*(-(q*u)))::xs,↑k,?_,x+p*(-(q*u)),.c,λz=>c ?_]
   .show p*p∣a*(x+p*(-(q*u)))*(x+p*(-(q*u)))+a9 l xs-r;have e:a*x*x+a9 l xs-r=p*q:=C;refine#[-(q*v)+a*(q*u)*(q*u),?_];have e2:a*(x+p*(-(q*u)))*(x+p*(-(q*u)))+a9 l xs-r=(a*x*x+a9 l xs-r)-p*q*(2*a*x*u)+p*p*(a*(q*u)*(q*u)):=by grind
    rw[e2,e,d];grind
   .have:=XH z #[-(q*u),rfl]
    rwa [show x+p*(-(q*u))-p*(-(q*u))=x by lia] at this
def mQ{p:Int}(hp:bg p=Â)(h2:p≠2):PZ l p (p*p)↔PZ (nR p l) p p\/PZ (o5 p l) p p:=by
 have c:=aA hp
 have v:∀a∈nR p l,¬p∣a:=λa ha z=>by
  have:=(XR.mp ha).2;simp only[ig,YC,YJ] at this;exact this (W3 z)
 have h:(o5 p l).length=(l.filter (ig p)).length:=by unfold o5;rw[V2]
 constructor
 .rintro⟨xs,h1,b,f⟩;have n:=k_ c h1;have o:=wo (λa=>!ig p a) h1;have s:=wo (ig p) h1;by_cases g:∃x∈sel (λa=>!ig p a) l xs,¬p∣x
  .refine .inl #[_,o,?_,g];have:p∣a9 l xs:=Wz #[p,rfl] b;rw[n] at this;have:=XH this #[a9 (o5 p l) (sel (ig p) l xs),rfl]
   rwa [Ű] at this
  .refine .inr #[_,s.trans h.symm,?_,?_]
   .have hz:∀x∈sel (λa=>!ig p a) l xs,p∣x:=λx k=>V9 λz=>g #[x,k,z];have r:=BJ (l:=nR p l) hz;rw[n] at b;have m:=XH b r;rw[show a9 (nR p l) (sel (λa=>!ig p a) l xs)+p*a9 (o5 p l) (sel (ig p) l xs)-a9 (nR p l) (sel (λa=>!ig p a) l xs)=p*a9 (o5 p l) (sel (ig p) l xs) by lia] at m;exact Int.dvd_of_mul_dvd_mul_left .a m
   .exact(Ga (ig p) h1 f).resolve_right g
 .rintro(⟨ys,h1,b,f⟩|⟨zs,h1,b,f⟩)
  .obtain⟨d,k1,k2,k3⟩:=Kv hp h2 (l:=nR p l) (xs:=ys) 0 h1 v ↑b f
   obtain⟨m1,m2,m3⟩:=u_ (λa=>!ig p a) (l:=l) (ys:=d) (zs:=È (o5 p l).length 0) k1 (by
    rw[ZG,h];congr 2;funext a;simp)
   refine#[_,m1,?_,?_]
   .rw[k_ c m1,m2]
    have:sel (ig p) l (Ew (λa=>!ig p a) l d (È (o5 p l).length 0))=È (o5 p l).length 0:=by
     have q:=m3;rwa[show(λa=>!!ig p a)=ig p by funext a;simp] at q
    rw[this,gC];simpa using k2
   .obtain⟨y,i,j⟩:=k3;exact#[y,qx _ (by rwa[m2]),j]
  .obtain⟨m1,m2,m3⟩:=u_ (λa=>!ig p a) (l:=l) (ys:=È (nR p l).length 0) (zs:=zs) (by simp[nR]) (by
    rw[h1,h];congr 2;funext a;simp)
   have e:sel (ig p) l (Ew (λa=>!ig p a) l (È (nR p l).length 0) zs)=zs:=by
    have:=m3;rwa[show(λa=>!!ig p a)=ig p by funext a;simp] at this
   refine#[_,m1,?_,?_]
   .rw[k_ c m1,m2,e,gC];obtain⟨t,u⟩:=b;exact#[t,by rw[u];grind]
   .obtain⟨y,i,j⟩:=f;exact#[y,qx _ (by rwa[e]),j]
noncomputable def MU(m:Int):List (Int×Int)->Bool
 |[]=>Â
 |[_]=>Á
 |[a,b]=>decide (iJ (iJ (0,m) a 3) b 3=(0,1))
 |[a,b,c]=>Ho (iJ (iJ (0,m) a 3) c 3) (iJ (iJ (0,m) b 3) c 3) m
 |[a,b,c,d]=>!decide (iJ (iJ (iJ a b 3) c 3) d 3=(0,1)) || Ho (iJ (iJ (0,m) a 3) c 3) (iJ (iJ (0,m) b 3) c 3) m
 |_=>Â
noncomputable def Pf(m:Int)(cs:List (Int×Int)):Bool:=match cs with
 |[a,b]=>decide (m*a.2*b.2=1)
 |_::_::_::_=>Â
 |_=>Á
def L4(m:Int)(cs:List (Int×Int)):Bool:=Pf m (cs.filter λc=>decide (c.1=0)) || Pf m (cs.filter λc=>decide (c.1=1))
def Q1:∀m∈[(1:Int),-1],∀a∈CO,MU m [a]=L4 m [a]:=by decide +kernel
def Q9:∀m∈[(1:Int),-1],∀a∈CO,∀b∈CO,MU m [a,b]=L4 m [a,b]:=by decide +kernel
def Ra:∀m∈[(1:Int),-1],∀a∈CO,∀b∈CO,∀c∈CO,MU m [a,b,c]=L4 m [a,b,c]:=by decide +kernel
def Q8:∀m∈[(1:Int),-1],∀a∈CO,∀b∈CO,∀c∈CO,∀d∈CO,MU m [a,b,c,d]=L4 m [a,b,c,d]:=by decide +kernel
def t8{cs:List (Int×Int)}(h:3<=cs.length):Pf m cs=Â:=by
 match cs,h with
 |_::_::_::_,_=>rfl
def G2{cs:List (Int×Int)}(h:∀c∈cs,c.1=0\/c.1=1):(cs.filter λc=>decide (c.1=0)).length+(cs.filter λc=>decide (c.1=1)).length=cs.length:=by
 induction cs with
 |nil=>rfl
 |cons c cs a =>
  have a:=a λd b=>h d (by simp[b]);rcases h c .c with z|z
  .rw[WI (by simp[z]),WH (by simp[z])];simp only[WN];lia
  .rw[WH (by simp[z]),WI (by simp[z])];simp only[WN];lia
def Po{c:Int×Int}(h:c∈CO):c.1=0\/c.1=1:=by
 revert c;decide
def LI(f:m∈[(1:Int),-1]):∀{cs:List (Int×Int)},(∀c∈cs,c∈CO)->1<=cs.length->MU m cs=L4 m cs
 |[a],h,_=>Q1 m f a (h a .c)
 |[a,b],h,_=>Q9 m f a (h a .c) b (h b .c)
 |[a,b,c],h,_=>Ra m f a (h a .c) b (h b .c) c (h c .c)
 |[a,b,c,d],h,_=>Q8 m f a (h a .c) b (h b .c) c (h c .c) d (h d .c)
 |a::b::c::d::e::l,h,_=>by
  have i:=G2 λc g=>Po (h c g);show Â=_;unfold L4;simp only[WN] at i;rcases ϭ ((a::b::c::d::e::l).filter fun(c:Int×Int)=>decide (c.1=0)).length 3 with z|z
  .rw[t8 (cs:=(a::b::c::d::e::l).filter fun(c:Int×Int)=>decide (c.1=1)) .a,Bool.or_true]
  .rw[t8 z,Ϙ]
def Jk{p:Int}(hp:bg p=Â):ck (-1) p∈[(1:Int),-1]:=NK (aA hp)
def nI{p:Int}(hp:bg p=Â)(h2:p≠2)(ha:a≠0):cls (-a) p=iJ (0,ck (-1) p) (cls a p) 3:=by
 rw[show -a=-1*a by lia,cf hp .b ha,Gn hp,V4 h2,eV h2]
def JA{p:Int}(hp:bg p=Â)(h2:p≠2):∀{l:List Int},(∀a∈l,a≠0)->jR l p=MU (ck (-1) p) (l.map λa=>cls a p)
 |[],_=>by unfold jR MU;have:=aA hp;rw[V4 .a];rfl
 |[a],_=>by have:=aA hp;rw[vh .a];rfl
 |[a,b],h=>by
  have:=aA hp;have ha:=h a .c;have g:=h b .c;rw[vY .a];show decide (cls (-a*b) p=(0,1))=decide (_=_);rw[cf hp .a g,nI hp h2 ha,eV h2]
 |[a,b,c],h=>by
  have:=aA hp;have ha:=h a .c;have g:=h b .c;have f:=h c .c;rw[oX .a];unfold DI;rw[t9 .a h2,cf hp .a f,cf hp .a f,nI hp h2 ha,nI hp h2 g,eV h2,eV h2];rfl
 |[a,b,c,d],h=>by
  have:=aA hp;have ha:=h a .c;have g:=h b .c;have f:=h c .c;have j:=h d .c;have i:=Wl ha g;rw[qH .a];unfold DI;rw[t9 .a h2,cf hp (a:=-a) .a f,cf hp (a:=-b) .a f,nI hp h2 ha,nI hp h2 g,eV h2,eV h2];show(!decide (cls (a*b*c*d) p=(0,1)) || _)=(!decide (_=_) || _);rw[cf hp (Wl i f) j,cf hp i f,cf hp ha g,eV h2,eV h2,eV h2]
 |a::b::c::d::e::l,_=>by
  have:=aA hp;rw[rA .a .c];rfl
def On(p:Int)(l:List Int):Prop:=∀a∈l,¬p*p∣a
def On.nz{p:Int}(h:On p l):∀a∈l,a≠0:=λa ha z=>h a ha (by rw[z];exact Zg _)
def J0{p:Int}(hp:bg p=Â)(h2:p≠2)(h:¬ig p a=Â):cls a p=(0,ck a p):=vv hp h2 λz=>h (Wr (W3 z))
def JT{p:Int}(hp:bg p=Â)(h2:p≠2)(h:ig p a=Â)(c:¬p*p∣a):cls a p=(1,ck (a/p) p)/\¬p∣a/p:=by
 have e:p*(a/p)=a:=XM (Wh (Xq h));have b:¬p∣a/p:=fun⟨t,z⟩=>c #[t,by rw[<-e,z];grind];refine#[?_,b];have:=KZ hp h2 b
 rwa [e] at this
theorem D2{p:Int}(hp:bg p=Â)(h2:p≠2):∀{l:List Int},On p l->((l.map λa=>cls a p).filter λc=>decide (c.1=0))=(nR p l).map λa=>((0:Int),ck a p)
 |[],_=>rfl
 |a::l,h=>by
  have d:=D2 hp h2 (l:=l) λb f=>h b (by simp[f]);rw[Wb];by_cases z:ig p a=Â
  .have e:=(JT hp h2 z (h a .c)).1;rw[J8 z,WH (by rw[e];simp),d]
  .have e:=J0 hp h2 z;rw[JQ z,WI (by rw[e];simp),d,e,Wb]
theorem Ec{p:Int}(hp:bg p=Â)(h2:p≠2):∀{l:List Int},On p l->((l.map λa=>cls a p).filter λc=>decide (c.1=1))=(o5 p l).map λa=>((1:Int),ck a p)
 |[],_=>rfl
 |a::l,h=>by
  have d:=Ec hp h2 (l:=l) λb f=>h b (by simp[f]);rw[Wb];by_cases z:ig p a=Â
  .have e:=(JT hp h2 z (h a .c)).1;rw[J_ z,WI (by rw[e];simp),d,e,Wb]
  .have e:=J0 hp h2 z;rw[KJ z,WH (by rw[e];simp),d]
def k8{p:Int}:∀a∈nR p l,¬p∣a:=λa ha z=>by
 have:=(XR.mp ha).2;simp only[ig,YC,YJ] at this;exact this (W3 z)
def kS{p:Int}(h:On p l):∀a∈o5 p l,¬p∣a:=λa ha ⟨t,z⟩=>by
 obtain⟨b,c,rfl⟩:=V3.mp ha;obtain⟨h1,h2⟩:=XR.mp c;have e:p*(b/p)=b:=XM (Wh (Xq h2));exact h b h1 #[t,by rw[<-e,z];grind]
def x5{p v:Int}(hp:bg p=Â)(h2:p≠2)(h:∀a∈l,¬p∣a):PZ l p p↔Pf (ck (-1) p) (l.map λa=>(v,ck a p))=Â:=by
 rw[om hp h2 h]
 match l with
 |[]=>exact#[λz=>by rcases z with z|⟨_,_,z,_⟩;(· cases z);(· cases z),λz=>by cases z]
 |[a]=>exact#[λz=>by rcases z with z|⟨_,_,z,_⟩;(· exact absurd z .c);(· cases z),λz=>by cases z]
 |[a,b] =>
  show _↔decide (ck (-1) p*ck a p*ck b p=1)=Â;rw[WM,<-gr hp,<-gr hp];constructor
  .rintro(z|⟨c,d,z,q⟩)
   .exact absurd z .c
   .cases z;rwa [show -1*a*b=-a*b by grind]
  .intro q;exact .inr #[a,b,rfl,by rwa [show -a*b=-1*a*b by grind]]
 |a::b::c::l=>exact#[λ_=>rfl,λ_=>.inl .c]
def E3{p:Int}(hp:bg p=Â)(h2:p≠2)(h:On p l)(h1:1<=l.length):PZ l p (p*p)↔jR l p=Â:=by
 rw[mQ hp h2,x5 (v:=0) hp h2 k8,x5 (v:=1) hp h2 (kS h),JA hp h2 h.nz,LI (Jk hp) ?_ ↑h1]
 .unfold L4;rw[D2 hp h2 h,Ec hp h2 h,Ys]
 .intro c b;obtain⟨a,ha,rfl⟩:=V3.mp b;exact IP (aA hp) h2 (h.nz a ha)
noncomputable def wM:List Nat:=[1,2,3,5,6,7,9,10,11,13,14,15]
noncomputable def je:List Nat->Nat->Bool->Bool
 |[],c,o=>o&&í (c%16) 0
 |a::l,c,o=>je l c o || (je l (c+a) Â || (je l (c+9*a) Â || je l (c+4*a) o))
def vN(r:Nat):Nat:=1-r%2
def uN(r:Nat):Nat:=cond (í (r%2) 1) (r%8) (r/2%8)
def q1(v w:Nat):Bool:=í v 0&&í w 1
def b4(c:Bool):Nat:=cond c 1 0
def QD(w:Nat):Bool:=í w 3 || Nat.beq w 5
noncomputable def tw(v w b a:Nat):Bool:=í ((b4 (í (w%4) 3&&í (a%4) 3)+b4 (í v 1&&QD a)+b4 (í b 1&&QD w))%2) 0
noncomputable def QR(a b c:Nat):Bool:=tw ((vN a+vN c)%2) (7*uN a*uN c%8) ((vN b+vN c)%2) (7*uN b*uN c%8)
noncomputable def QB(a b c d:Nat):Bool:=!q1 ((vN a+vN b+vN c+vN d)%2) (uN a*uN b*uN c*uN d%8) || QR a b c
def m1:∀a∈wM,je [a] 0 Á=Á:=by decide +kernel
def m2:∀a∈wM,∀b∈wM,je [a,b] 0 Á=q1 ((vN a+vN b)%2) (7*uN a*uN b%8):=by decide +kernel
def m3:∀a∈wM,∀b∈wM,∀c∈wM,je [a,b,c] 0 Á=QR a b c:=by decide +kernel
def m4:(wM.all λa=>wM.all λb=>wM.all λc=>wM.all λd=>(je [a,b,c,d] 0 Á==QB a b c d))=Â:=by decide +kernel
def m5:(wM.all λa=>wM.all λb=>wM.all λc=>wM.all λd=>(QB a b c d || wM.all λe=>je [a,b,c,d,e] 0 Á))=Â:=by decide +kernel
theorem AY:∀(l:List Int) (c:Nat) (o:Bool),je (l.map λa=>(a%16).toNat) c o=Â↔∃xs:List Int,xs.length=l.length/\(16:Int)∣(c:Int)+a9 l xs/\(o=Â\/∃x∈xs,¬(2:Int)∣x)
 |[],c,o=>by
  show(o&&í (c%16) 0)=Â↔_;rw[WA,Y4];constructor
  .rintro⟨h1,h2⟩;exact#[[],rfl,by rw[bK];lia,.inl h1]
  .rintro⟨xs,h1,h2,d⟩;have e:xs=[]:=Xt.mp h1;subst e;rw[bK] at h2;exact#[d.resolve_right fun⟨x,f,_⟩=>(by cases f),.a]
 |a::l,c,o=>by
  have key:∀(s:Int) (x:Int) (o':Bool),(16:Int)∣x*x-s->0<=s->(je (l.map λa=>(a%16).toNat) (c+s.toNat*(a%16).toNat) o'=Â↔∃xs:List Int,xs.length=l.length/\(16:Int)∣(c:Int)+(a*x*x+a9 l xs)/\(o'=Â\/∃x∈xs,¬(2:Int)∣x)):=by
   intro s x o' ⟨t,D⟩ i;rw[AY l _ o'];have B:=Wo a (b:=16) .b
   have e1:((c+s.toNat*(a%16).toNat:Nat):Int)=c+s*(a%16):=by
    rw[aaO,X1,X2 i,X2 B]
   have e2:a=a%16+16*(a/16):=(WT a 16).symm
   have e3:∀w:Int,(c:Int)+(a*x*x+w)=((c:Int)+s*(a%16)+w)+16*(a*t+s*(a/16)):=λw=>by
    have:x*x=s+16*t:=by lia
    rw[show a*x*x=a*(x*x) by grind,this];generalize a%16=r at *;generalize a/16=q at *;subst e2;grind
   constructor
   .rintro⟨xs,h1,h2,d⟩;refine#[xs,h1,?_,d];rw[e3];rw[e1] at h2;exact X8 h2 #[_,rfl]
   .rintro⟨xs,h1,h2,d⟩;refine#[xs,h1,?_,d];rw[e3] at h2;rw[e1];have:=XH h2 #[a*t+s*(a/16),rfl]
    rwa [Ű] at this
  show(je (l.map λa=>(a%16).toNat) c o || (je (l.map λa=>(a%16).toNat) (c+(a%16).toNat) Â || (je (l.map λa=>(a%16).toNat) (c+9*(a%16).toNat) Â || je (l.map λa=>(a%16).toNat) (c+4*(a%16).toNat) o)))=Â↔_;have k0:=key 0 0 o #[0,.b] .b;have k1:=key 1 1 Â #[0,.b] .b;have u:=key 9 3 Â #[0,.b] .b;have p:=key 4 2 o #[0,.b] .b;rw[show c+(0:Int).toNat*(a%16).toNat=c by simp] at k0;rw[show c+(1:Int).toNat*(a%16).toNat=c+(a%16).toNat by simp] at k1;rw[show(9:Int).toNat=9 from rfl] at u;rw[show(4:Int).toNat=4 from rfl] at p;rw[Ys,Ys,Ys,k0,k1,u,p];constructor
  .rintro(⟨xs,h1,h2,d⟩|⟨xs,h1,h2,d⟩|⟨xs,h1,h2,d⟩|⟨xs,h1,h2,d⟩)
   .exact#[0::xs,by simp[h1],h2,d.imp id fun⟨x,f,n⟩=>#[x,by simp[f],n]]
   .exact#[1::xs,by simp[h1],h2,.inr #[1,.c,.b]]
   .exact#[3::xs,by simp[h1],h2,.inr #[3,.c,.b]]
   .exact#[2::xs,by simp[h1],h2,d.imp id fun⟨x,f,n⟩=>#[x,by simp[f],n]]
  .rintro⟨xs,h1,h2,d⟩
   match xs,h1 with
   |x::xs,h1 =>
    have m:(16:Int)∣(c:Int)+(a*x*x+a9 l xs):=h2;have j:xs.length=l.length:=by simpa using h1
    have i:=QG x;have C:=Wo (x*x) (b:=16) .b
    have k:∀y:Int,x*x%16=y*y%16->(16:Int)∣(c:Int)+(a*y*y+a9 l xs):=λy e=>by
     have A:(16:Int)∣x*x-y*y:=tQ.mp e;have:=XH m (M9 a A)
     rwa [show(c:Int)+(a*x*x+a9 l xs)-a*(x*x-y*y)=c+(a*y*y+a9 l xs) by grind] at this
    have g:o=Â\/¬(2:Int)∣x\/∃x∈xs,¬(2:Int)∣x:=by
     rcases d with d|d
     .exact .inl d
     .rw[fC] at d;exact .inr d
    have v:=i.1;simp only[QK,V8,WV,XY] at v;rcases v with e|e|e|e
    .refine .inl #[xs,j,k 0 .a,?_];have:(2:Int)∣x:=V9 λz=>by have:=i.2.mpr z;lia
     rcases g with h|h|h
     .exact .inl h
     .exact absurd this h
     .exact .inr h
    .exact .inr (.inl #[xs,j,k 1 .a,.inl rfl])
    .refine .inr (.inr (.inr #[xs,j,k 2 .a,?_]));have:(2:Int)∣x:=V9 λz=>by have:=i.2.mpr z;lia
     rcases g with h|h|h
     .exact .inl h
     .exact absurd this h
     .exact .inr h
    .exact .inr (.inr (.inl #[xs,j,k 3 .a,.inl rfl]))
def qB:PZ l 2 16↔je (l.map λa=>(a%16).toNat) 0 Á=Â:=by
 rw[AY];constructor
 .rintro⟨xs,h1,h2,b⟩;exact#[xs,h1,↑h2,.inr b]
 .rintro⟨xs,h1,h2,b⟩;exact#[xs,h1,↑h2,b.resolve_left λz=>by cases z]
def qb(h:a%4≠0):(a%16).toNat∈wM:=by
 have c:=Wo a (b:=16) .b;have h1:=Wf a (b:=16) .b;simp only[wM,V8,WV,XY];lia
def KO(h:a%4≠0):cls a 2=(((vN (a%16).toNat:Nat):Int),((uN (a%16).toNat:Nat):Int)):=by
 rw[Hd h];revert h;have b:∀r∈wM,P5 r=(((vN r:Nat):Int),((uN r:Nat):Int)):=by decide +kernel
 exact λh=>b _ (qb h)
def oi(a b c d:Nat):iJ ((a:Int),(b:Int)) ((c:Int),(d:Int)) 2=((((a+c)%2:Nat):Int),((b*d%8:Nat):Int)):=by
 unfold iJ;rw[V6 rfl];simp
def QQ(v w:Nat):decide (((v:Int),(w:Int))=((0:Int),(1:Int)))=q1 v w:=by
 unfold q1;rw[WW,WA,Y4,Y4,WM,Prod.mk.injEq];lia
def Rb(c:Bool):b1 c=((b4 c:Nat):Int):=by cases c<;>rfl
def MI(a b:Nat):decide ((a:Int)=(b:Int))=í a b:=by
 rw[WW,WM,Y4];lia
def QS(v w a b:Nat):yI ((v:Int),(w:Int)) ((a:Int),(b:Int))=tw v w a b:=by
 unfold yI tw QD;dsimp only;have c:∀x:Nat,decide ((x:Int)%4=3)=í (x%4) 3:=λx=>by rw[WW,WM,Y4];lia
 have h1:∀x:Nat,decide ((x:Int)=1)=í x 1:=λx=>MI x 1;have d:∀x:Nat,decide ((x:Int)=3)=í x 3:=λx=>MI x 3;have e:∀x:Nat,decide ((x:Int)=5)=í x 5:=λx=>MI x 5;simp only[c,h1,d,e,Rb];rw[WW,WM,Y4];lia
def Im(g:∀a∈l,a%4≠0)(h1:1<=l.length):je (l.map λa=>(a%16).toNat) 0 Á=jR l 2:=by
 have nz:∀a∈l,a≠0:=λa ha z=>g a ha (by rw[z];rfl);have p:cls (-1) 2=(((0:Nat):Int),((7:Nat):Int)):=by rw[Gn bQ];rfl
 have cn:∀a,a∈l->cls (-a) 2=((((0+vN (a%16).toNat)%2:Nat):Int),((7*uN (a%16).toNat%8:Nat):Int)):=λa ha=>by
  rw[show -a=-1*a by lia,cf bQ .b (nz a ha),p,KO (g a ha),oi]
 have i:∀x y:Nat,x%8*y%8=x*y%8:=λx y=>by rw[Nat.mod_mul_mod]
 have m:∀x y z:Nat,x%8*y*z%8=x*y*z%8:=λx y z=>by rw[ϐ,i,<-ϐ]
 have k:∀x y:Nat,((0+x)%2+y)%2=(x+y)%2:=λx y=>by lia
 match l,h1 with
 |[a],_ =>
  rw[vh .b];exact m1 _ (qb (g a .c))
 |[a,b],_ =>
  rw[vY .b];show je [_,_] 0 Á=decide (cls (-a*b) 2=(0,1));rw[m2 _ (qb (g a .c)) _ (qb (g b .c)),cf bQ (by have:=nz a .c;lia) (nz b .c),cn a .c,KO (g b .c),oi,k,i];exact(QQ _ _).symm
 |[a,b,c],_ =>
  rw[oX .b];unfold DI;show je [_,_,_] 0 Á=_;rw[m3 _ (qb (g a .c)) _ (qb (g b .c)) _ (qb (g c .c)),tX,cf bQ (by have:=nz a .c;lia) (nz c .c),cf bQ (by have:=nz b .c;lia) (nz c .c),cn a .c,cn b .c,KO (g c .c),oi,oi,k,k,i,i,QS];rfl
 |[a,b,c,d],_ =>
  rw[qH .b];unfold DI;show je [_,_,_,_] 0 Á=(!decide (cls (a*b*c*d) 2=(0,1)) || _);have f:=m4;rw[WB] at f;have f:=f _ (qb (g a .c));rw[WB] at f;have f:=f _ (qb (g b .c));rw[WB] at f;have f:=f _ (qb (g c .c));rw[WB] at f;have f:=eq_of_beq (f _ (qb (g d .c)));rw[f];have ha:=nz a .c;have o:=nz b .c;have n:=nz c .c;have j:=Wl ha o
  rw[tX,cf bQ (a:=-a) .a (nz c .c),cf bQ (a:=-b) .a (nz c .c),cf bQ (Wl j n) (nz d .c),cf bQ j n,cf bQ ha o,
   cn a .c,cn b .c,KO (g a .c),KO (g b .c),KO (g c .c),KO (g d .c),oi,oi,oi,oi,oi,k,k,i,i,i,m,QS,QQ]
  unfold QB;rw[show ∀x y z w:Nat,(((x+y)%2+z)%2+w)%2=(x+y+z+w)%2 from λx y z w=>by lia];rfl
 |a::b::c::d::e::l,_ =>
  rw[rA .b .c];have h:=m5;rw[WB] at h;have h:=h _ (qb (g a .c));rw[WB] at h;have h:=h _ (qb (g b .c));rw[WB] at h;have h:=h _ (qb (g c .c));rw[WB] at h;have h:=h _ (qb (g d .c));rw[Ys] at h
  have r:PZ [a,b,c,d,e] 2 16:=by
   rcases h with h|h
   .have f:=m4;rw[WB] at f;have f:=f _ (qb (g a .c));rw[WB] at f;have f:=f _ (qb (g b .c));rw[WB] at f;have f:=f _ (qb (g c .c));rw[WB] at f;have f:=eq_of_beq (f _ (qb (g d .c)));rw[h] at f;have:PZ [a,b,c,d] 2 16:=qB.mpr f;exact this.more [e]
   .rw[WB] at h;exact qB.mpr (h _ (qb (g e .c)))
  have q:PZ (a::b::c::d::e::l) 2 16:=r.more l;exact qB.mp q
def Gd(b:∀a∈l,a%4≠0)(h1:1<=l.length):PZ l 2 16↔jR l 2=Â:=by
 rw[qB,Im b h1]
def Ow(N p:Int)(l:List Int)(k:Int×Bool):Prop:=∃xs:List Int,xs.length=l.length/\(∀x∈xs,0<=x/\x<=N/2)/\k.1=a9 l xs%N/\k.2=xs.any λx=>!decide (x%p=0)
def HS{p:Int}(k:Int×Bool):Ow N p [] k↔k=(0,Á):=by
 constructor
 .rintro⟨xs,h1,_,c,d⟩;have e:xs=[]:=Xt.mp h1;subst e;rw[bK] at c;obtain⟨a,b⟩:=k;simp only at c d;rw[c,d];simp
 .rintro rfl;exact#[[],rfl,λx f=>(by cases f),(by rw[bK];simp),rfl]
def FW{p:Int}(j:0<N)(k:Int×Bool):Ow N p (l++[a]) k↔∃b,Ow N p l b/\∃x:Int,0<=x/\x<=N/2/\k=((b.1+a*x*x)%N,b.2 || !decide (x%p=0)):=by
 constructor
 .rintro⟨xs,h1,h2,e,d⟩;have c:xs≠[]:=λz=>by subst z;simp at h1
  obtain⟨ys,x,rfl⟩:∃ys x,xs=ys++[x]:=#[xs.dropLast,xs.getLast c,(Z9 c).symm];have i:ys.length=l.length:=by simpa using h1
  refine#[(a9 l ys%N,ys.any λx=>!decide (x%p=0)),#[ys,i,λy f=>h2 y (by simp[f]),rfl,rfl],x,(h2 x .c).1,(h2 x .c).2,?_];obtain⟨k1,k2⟩:=k;simp only at e d ⊢;rw[e,d,eG i.symm];congr 1
  .show(a9 l ys+(a*x*x+a9 [] []))%N=_;rw[bK,aaE,Zq]
  .simp
 .rintro⟨b,⟨ys,h1,h2,e,d⟩,x,h,g,rfl⟩;refine#[ys++[x],by simp[h1],λy f=>?_,?_,?_]
  .rcases W2.mp f with z|z
   .exact h2 y z
   .rw[WR.mp z];exact#[h,g]
  .show(b.1+a*x*x)%N=_;rw[e,eG h1.symm];show _=(a9 l ys+(a*x*x+a9 [] []))%N;rw[bK,aaE,Zq]
  .show(b.2 || _)=_;rw[d];simp
def mB(N x:Int):Int:=if x%N<=N/2 then x%N else N-x%N
def vd(c:0<N):0<=mB N x/\mB N x<=N/2/\N∣mB N x*mB N x-x*x/\(N∣mB N x-x\/N∣mB N x+x):=by
 have a:=Wo x (b:=N) .a;have h1:=Wf x c;have e:=WT x N;unfold mB;generalize f:x%N=r at *;generalize d:x/N=q at *;subst e;split
 .rename_i h;exact#[a,h,#[-(q*(2*r+N*q)),by grind],.inl #[-q,by grind]]
 .rename_i h;exact#[.a,.a,#[N-2*r-q*(2*r+N*q),by grind],.inr #[q+1,by grind]]
theorem BL{N:Int}(b:0<N):∀{l xs:List Int},N∣a9 l (xs.map (mB N))-a9 l xs
 |[],xs=>by rw[bK,bK];simp
 |_::_,[]=>by simp[a9]
 |a::l,x::xs=>by
  show N∣a*mB N x*mB N x+a9 l (xs.map (mB N))-(a*x*x+a9 l xs);rw[show a*mB N x*mB N x+a9 l (xs.map (mB N))-(a*x*x+a9 l xs)=a*(mB N x*mB N x-x*x)+(a9 l (xs.map (mB N))-a9 l xs) by grind];exact X8 (M9 a (vd b).2.2.1) (BL b)
def Ov{p:Int}(a:0<N)(hp:p∣N):p∣mB N x↔p∣x:=by
 obtain⟨_,_,_,h|h⟩:=vd (x:=x) a
 .have:=Wz hp h;constructor
  .intro z;have:=XH z this
   rwa [show mB N x-(mB N x-x)=x by lia] at this
  .intro z;have:=X8 this z
   rwa [show mB N x-x+x=mB N x by lia] at this
 .have:=Wz hp h;constructor
  .intro z;have:=XH this z
   rwa [show mB N x+x-mB N x=x by lia] at this
  .intro z;have:=XH this z
   rwa [show mB N x+x-x=mB N x by lia] at this
def L6{p:Int}(a:0<N)(hp:p∣N):Ow N p l (0,Â)↔PZ l p N:=by
 constructor
 .rintro⟨xs,h1,_,f,d⟩;refine#[xs,h1,Wh f.symm,?_];obtain⟨x,c,b⟩:=X7.mp d.symm;exact#[x,c,λz=>by rw[Wr (W3 z)] at b;cases b]
 .rintro⟨xs,h1,h2,x,c,b⟩;refine#[xs.map (mB N),by simp[h1],λy e=>?_,?_,?_]
  .obtain⟨z,_,rfl⟩:=V3.mp e;exact#[(vd a).1,(vd a).2.1]
  .show(0:Int)=_;have:=X8 (BL a (l:=l) (xs:=xs)) h2;rw[show a9 l (xs.map (mB N))-a9 l xs+a9 l xs=a9 l (xs.map (mB N)) by lia] at this;exact(W3 this).symm
  .show Â=_;refine(X7.mpr #[mB N x,V3.mpr #[x,c,rfl],?_]).symm;rw[Wv (λz=>b ((Ov a hp).mp (Wh z)))];rfl
def ym{L:List (Int×Bool)}(j:L.Nodup)(n:∀k∈L,0<=k.1/\k.1<N):L.length<=2*N.toNat:=by
 have f:∀x∈L,∀y∈L,(2*x.1+if x.2 then 1 else 0)=(2*y.1+if y.2 then 1 else 0)->x=y:=λx _ y _ e=>by
  obtain⟨a,b⟩:=x;obtain⟨c,d⟩:=y;cases b<;>cases d<;>simp at e ⊢<;>lia
 have g:(L.map λk:Int×Bool=>2*k.1+if k.2 then 1 else 0).Nodup:=by
  clear n
  induction L with
  |nil=>exact Yk
  |cons a l p =>
   rw[Xw] at j;rw[Wb,Xw];refine#[λh=>?_,p j.2 λx o y q=>f x (by simp[o]) y (by simp[q])];obtain⟨b,m,e⟩:=V3.mp h;have:=f b (by simp[m]) a .c e;subst this;exact j.1 m
 have:=AD g (α:=(Ú (2*N.toNat)).map fun(i:Nat)=>(i:Int)) λu s=>by
  obtain⟨k,r,rfl⟩:=V3.mp s;have:=n k r;refine V3.mpr #[(2*k.1+if k.2 then 1 else 0).toNat,W9.mpr ?_,?_]
  .split<;>lia
  .split<;>lia
 simpa using this
def mC.on{p:Int}(hp:2<=p)(h:mC a):¬p*p∣a:=h.2 p hp
def mC.m4(h:mC a):a%4≠0:=λz=>h.2 2 .b (by show(4:Int)∣a;lia)
def BH{p:Int}(hp:bg p=Â)(h:∀a∈l,mC a)(h1:1<=l.length):PZ l p (if p=2 then 16 else p*p)↔jR l p=Â:=by
 by_cases h2:p=2
 .subst h2;rw[V6 rfl];exact Gd (λa ha=>(h a ha).m4) h1
 .rw[V4 h2];exact E3 hp h2 (λa ha=>(h a ha).on (aA hp)) h1
def mi{p:Int}{a b:Nat}(h:a<=b):p^a∣p^b:=by
 obtain⟨d,rfl⟩:∃d,b=a+d:=#[b-a,.a];exact#[p^d,by rw[WZ]]
def Eg{p sq b root a:Int}{t:Nat}(B:p^(t+2)∣m)(h1:p^(t+1)∣root*root-sq)(h2:p∣root-b)(o:p∣a*(2*b)-1):
  p^(t+2)∣((root-(root*root-sq)*a)%m)*((root-(root*root-sq)*a)%m)-sq/\p∣(root-(root*root-sq)*a)%m-b:=by
 obtain⟨c,h⟩:=h1;obtain⟨d,C⟩:=h2;obtain⟨e,he⟩:=o;obtain⟨u,j⟩:=B;have D:=WT (root-(root*root-sq)*a) m;generalize (root-(root*root-sq)*a)/m=q at *;generalize (root-(root*root-sq)*a)%m=r at *;have k:r=root-(root*root-sq)*a-m*q:=by lia
 have i:p^(t+2)=p^(t+1)*p:=Wk p (t+1);have f:p^(t+1)=p^t*p:=Wk p t;constructor
 .-- r1=root-e a
  have k1:p^(t+2)∣(root-(root*root-sq)*a)*(root-(root*root-sq)*a)-sq:=by
   refine#[-(c*e)-2*c*a*d+c*c*p^t*a*a,?_];have e1:(root-(root*root-sq)*a)*(root-(root*root-sq)*a)-sq=(root*root-sq)*(1-2*root*a)+(root*root-sq)*(root*root-sq)*(a*a):=by grind
   rw[e1,h,i]
   have e2:(1:Int)-2*root*a=-(p*e)-2*a*(p*d):=by
    have:root=b+p*d:=by lia
    rw[this];have:a*(2*b)=1+p*e:=by lia
    grind
   rw[e2];have e3:p^(t+1)*c*(p^(t+1)*c)=p^(t+1)*p*(c*c*p^t):=by rw[f];grind
   rw[e3];grind
  rw[k];obtain⟨w,A⟩:=k1;refine#[w-2*(root-(root*root-sq)*a)*u*q+m*q*u*q,?_];have:(root-(root*root-sq)*a-m*q)*(root-(root*root-sq)*a-m*q)-sq=((root-(root*root-sq)*a)*(root-(root*root-sq)*a)-sq)-2*(root-(root*root-sq)*a)*(m*q)+m*q*(m*q):=by grind
  rw[this,A];have g:m*q=p^(t+2)*(u*q):=by rw[j];grind
  generalize m*q=z at *;subst g;grind
 .rw[k];have s:p∣root*root-sq:=by rw[h,f];exact#[p^t*c,by grind]
  have v:p∣m:=by rw[j,i,f];exact#[p^t*p*u,by grind]
  obtain⟨x,l⟩:=s;obtain⟨y,n⟩:=v;exact#[d-x*a-y*q,by rw[l,n];grind]
def Fs{sq root:Int}{s:Nat}(l:3<=s)(k:root%2=1)(h:(2:Int)^s∣root*root-sq)(b:¬(2:Int)^(s+1)∣root*root-sq):(2:Int)^(s+1)∣(root+2^(s-1))*(root+2^(s-1))-sq/\(root+2^(s-1))%2=1:=by
 obtain⟨c,a⟩:=h;obtain⟨j,rfl⟩:∃j,s=j+3:=#[s-3,.a];have e1:(2:Int)^(j+3)=8*2^j:=by rw[WZ];show 2^j*8=_;lia
 have e2:(2:Int)^(j+3+1)=16*2^j:=by rw[Wk,e1];lia
 have e3:(2:Int)^(j+3-1)=4*2^j:=by rw[show j+3-1=j+2 by lia,WZ];show 2^j*4=_;lia
 rw[e2] at b ⊢;rw[e1] at a;rw[e3];generalize (2:Int)^j=x at *
 have g:c%2=1:=by
  rcases(show c%2=0\/c%2=1 by lia) with z|z
  .exfalso;obtain⟨d,f⟩:∃d,c=2*d:=#[c/2,.a];exact b #[d,by rw[a,f];grind]
  .exact z
 obtain⟨u,i⟩:∃u,c=2*u+1:=#[c/2,.a];obtain⟨v,e⟩:∃v,root=2*v+1:=#[root/2,.a];refine#[#[u+v+1+x,?_],.a];have:(root+4*x)*(root+4*x)-sq=(root*root-sq)+8*x*root+16*x*x:=by grind
 rw[this,a,i,e];grind
def NG{p:Int}(hp:bg p=Â)(a:¬p∣B)(h:p∣B*x-B*y):p∣x-y:=by
 rw[<-Zw] at h;exact(euclid hp h).resolve_left a
def my(b:2<=m)(a:Ì B m=1):m∣B*df B m-1:=by
 obtain⟨_,_,h⟩:=xM b a;exact h
def eQ{p:Int}(hp:bg p=Â)(c:¬p∣B)(k:Nat):Ì B (p^k)=1:=by
 apply V9;intro g
 have f:Ì B (p^k)≠0:=λz=>by
  have:=Y7.mp z;exact c (by rw[this.1];exact Zg _)
 obtain⟨q,a,b⟩:=kZ (k:=(Ì B (p^k):Int)) .a;have h1:q∣B:=Wz b (X6 ..);have h2:q∣p^k:=Wz b (XO ..)
 have:∀k:Nat,q∣p^k->q∣p:=by
  intro k
  induction k with
  |zero =>
   intro h;have:q∣(1:Int):=by rwa [WG] at h
   have h1:=Wt .b this;have:=aA a;lia
  |succ k d =>
   intro h;rw[Wk] at h;exact(euclid a h).elim d id
 have e:=dc a hp (this k h2);exact c (e▸h1)
def GZ(l:List Int)(p N:Int)(xs:List Int):Prop:=xs.length=l.length/\(∀x∈xs,0<=x/\x<N)/\(∃x∈xs,¬p∣x)/\N∣a9 l xs
def GZ.pz{p:Int}(h:GZ l p N xs):PZ l p N:=#[xs,h.1,h.2.2.2,h.2.2.1]
theorem AI:∀{l zs:List Int} {i:Nat} {a z:Int} (r:Int),l[i]?=À a->zs[i]?=À z->a9 l (zs.set i r)=a9 l zs-a*z*z+a*r*r
 |[],_,_,_,_,_,h,_=>by simp at h
 |_::_,[],_,_,_,_,_,h=>by simp at h
 |a::l,z::zs,0,_,_,r,h1,h2=>by
  cases h1;cases h2;show a*r*r+a9 l zs=a*z*z+a9 l zs-a*z*z+a*r*r;lia
 |b::l,y::zs,i+1,a,z,r,h1,h2=>by
  show b*y*y+a9 l (zs.set i r)=b*y*y+a9 l zs-a*z*z+a*r*r;rw[AI r ↑h1 ↑h2];lia
def dj(a p:Int):Int:=if a%p=0 then p else 1
def As(l zs:List Int)(a z p m:Int):Int:=(-((a9 l zs-a*z*z)/dj a p)*df (a/dj a p) m)%m
def wg{p:Int}(hp:bg p=Â)(b:¬p*p∣a):0<dj a p/\dj a p*(a/dj a p)=a/\¬p∣a/dj a p:=by
 have c:=aA hp;unfold dj;split
 .rename_i h;have e:p*(a/p)=a:=XM (Wh h);exact#[.a,e,fun⟨t,z⟩=>b #[t,by rw[<-e,z];grind]]
 .rename_i h;exact#[.b,.c,λz=>h (by rw[ϳ] at z;exact W3 z)]
def Bb{p r:Int}{k:Nat}(hp:bg p=Â)(H:1<=k)(q:zs.length=l.length)(hi:l[i]?=À a)(hz:zs[i]?=À z)(F:¬p*p∣a)(s:dj a p∣a9 l zs-a*z*z)
  (u:∀x∈zs,0<=x/\x<p^k) (A:0<=r/\r<p^k) (g:¬p∣r) (c:p^k∣r*r-As l zs a z p (p^k)):GZ l p (p^k) (zs.set i r):=by
 have E:=aA hp;obtain⟨J,C,B⟩:=wg hp F;have e:i<zs.length:=(Wd.mp hz).1;refine#[by rwa[WX],λx j=>?_,#[r,List.mem_set e r,g],?_]
 .rcases List.mem_or_eq_of_mem_set j with w|w
  .exact u x w
  .rwa[w]
 .rw[AI r hi hz]
  have f:2<=p^k:=by
   have:p^1<=p^k:=by
    obtain⟨d,rfl⟩:∃d,k=1+d:=#[k-1,.a];rw[WZ];have h1:0<p^1:=by rw[W4];lia
    have h2:0<p^d:=WK .a;have:=Wc (show 1<=p^d by lia) (XG h1);lia
   rw[W4] at this;lia
  have h:=my f (eQ hp B k);obtain⟨w,n⟩:=s;have eq:(a9 l zs-a*z*z)/dj a p=w:=by rw[n];exact Yc _ .a
  unfold As at c;rw[eq] at c
  have e1:p^k∣(-w*df (a/dj a p) (p^k))%p^k - -w*df (a/dj a p) (p^k):=#[-(-w*df (a/dj a p) (p^k)/p^k),by
   have:=WT (-w*df (a/dj a p) (p^k)) (p^k);rw[aab]
   lia]
  have e2:p^k∣r*r - -w*df (a/dj a p) (p^k):=by
   have:=X8 c e1
   rwa [show r*r - -w*df (a/dj a p) (p^k)%p^k+(-w*df (a/dj a p) (p^k)%p^k - -w*df (a/dj a p) (p^k))=r*r - -w*df (a/dj a p) (p^k) by lia] at this
  generalize I:a/dj a p=b at *;generalize df b (p^k)=bk at *;generalize p^k=m at *;obtain⟨x,j⟩:=e2;obtain⟨y,G⟩:=h;refine#[dj a p*(b*x-w*y),?_];have t:r*r=m*x+-w*bk:=by lia
  have D:b*bk=1+m*y:=by lia
  have o:a*r*r=dj a p*(b*(r*r)):=by rw[<-C];grind
  rw[o,t,n];have v:b*(m*x+-w*bk)=m*(b*x)-w*(b*bk):=by grind
  rw[v,D];grind
def Hb{p:Int}{k:Nat}(hp:bg p=Â)(r:1<=k)(s:¬p*p∣a)(m:dj a p∣a9 l zs-a*z*z)(u:dj a p*p∣a9 l zs):p∣z*z-As l zs a z p (p^k):=by
 have n:=aA hp;obtain⟨x,i,h⟩:=wg hp s;have c:p∣p^k:=by have:=mi (p:=p) r;rwa [W4] at this
 have e:2<=p^k:=by
  have o:0<p^k:=WK .a;have:=Wt o c;lia
 have g:=Wz c (my e (eQ hp h k));obtain⟨w,f⟩:=m;have eq:(a9 l zs-a*z*z)/dj a p=w:=by rw[f];exact Yc _ .a
 unfold As;rw[eq]
 have e1:p∣-w*df (a/dj a p) (p^k)-(-w*df (a/dj a p) (p^k))%p^k:=by
  refine Wz c #[-w*df (a/dj a p) (p^k)/p^k,?_];have:=WT (-w*df (a/dj a p) (p^k)) (p^k);lia
 refine Wz ?_ (show p∣z*z - -w*df (a/dj a p) (p^k)%p^k by
  have hz:p∣z*z - -w*df (a/dj a p) (p^k):=by
   generalize C:a/dj a p=b at *;generalize df b (p^k)=bk at *;refine NG hp h ?_;obtain⟨v,j⟩:=u;obtain⟨y,A⟩:=g
   -- d w+d B z z=a9=d p v
   have h1:dj a p*(w+b*z*z)=dj a p*(p*v):=by
    have:a*z*z=dj a p*(b*z*z):=by rw[<-i];grind
    have h2:a9 l zs=dj a p*w+a*z*z:=by lia
    rw[this,j] at h2;grind
   have h2:w+b*z*z=p*v:=Y_ .a h1;refine#[v+w*y,?_];have t:b*bk=1+p*y:=by lia
   have q:b*(z*z)-b*(-w*bk)=b*z*z+w*(b*bk):=by grind
   rw[q,t];grind
  have:=X8 hz e1
  rwa [show z*z - -w*df (a/dj a p) (p^k)+(-w*df (a/dj a p) (p^k) - -w*df (a/dj a p) (p^k)%p^k)=z*z - -w*df (a/dj a p) (p^k)%p^k by lia] at this)
 exact Yb p
def IK{k:Nat}(E:3<=k)(L:a%4≠0)(hz:z%2=1)(B:dj a 2∣a9 l zs-a*z*z)(α:(16:Int)∣a9 l zs):(8:Int)∣1-As l zs a z 2 (2^k):=by
 have o:¬(2:Int)*2∣a:=λw=>L .a;obtain⟨Q,H,F⟩:=wg bQ o;have c:(8:Int)∣2^k:=mi (p:=2) E
 have j:(2:Int)<=2^k:=by
  have J:(0:Int)<2^k:=WK .b;have:=Wt J c;lia
 have s:=Wz c (my j (eQ bQ F k));obtain⟨w,r⟩:=B;have eq:(a9 l zs-a*z*z)/dj a 2=w:=by rw[r];exact Yc _ .a
 unfold As;rw[eq]
 have e1:(8:Int)∣-w*df (a/dj a 2) (2^k)-(-w*df (a/dj a 2) (2^k))%2^k:=by
  refine Wz c #[-w*df (a/dj a 2) (2^k)/2^k,?_];have:=WT (-w*df (a/dj a 2) (2^k)) (2^k);lia
 have n:(8:Int)∣z*z-1:=by
  obtain⟨u,g⟩:∃u,z=2*u+1:=#[z/2,.a]
  have:∃t,u*(u+1)=2*t:=by
   rcases(show u%2=0\/u%2=1 by lia) with q|q
   .exact#[u/2*(u+1),by
     have:u=2*(u/2):=by lia
     generalize u/2=y at *
     subst this;grind]
   .exact#[u*((u+1)/2),by
     have:u+1=2*((u+1)/2):=by lia
     generalize (u+1)/2=y at *
     rw[this];grind]
  obtain⟨t,I⟩:=this
  exact#[t,by
   have:z*z-1=4*(u*(u+1)):=by rw[g];grind
   lia]
 have i:(8:Int)∣(a/dj a 2)*(z*z - -w*df (a/dj a 2) (2^k)):=by
  generalize P:a/dj a 2=b at *;generalize df b (2^k)=bk at *;obtain⟨v,A⟩:=α;obtain⟨y,O⟩:=s
  have h1:dj a 2*(w+b*z*z)=16*v:=by
   have:a*z*z=dj a 2*(b*z*z):=by rw[<-H];grind
   have h2:a9 l zs=dj a 2*w+a*z*z:=by lia
   rw[this,A] at h2;grind
  have hd2:dj a 2=1\/dj a 2=2:=by unfold dj;split<;>simp
  have h2:∃m,w+b*z*z=8*m:=by
   rcases hd2 with q|q
   .rw[q] at h1;exact#[2*v,.a]
   .rw[q] at h1;exact#[v,.a]
  obtain⟨m,h2⟩:=h2;refine#[m+w*y,?_];have D:b*bk=1+8*y:=by lia
  have K:b*(z*z - -w*bk)=b*z*z+w*(b*bk):=by grind
  rw[K,D];grind
 have x:(a/dj a 2)%2=1:=by lia
 have h:(8:Int)∣z*z - -w*df (a/dj a 2) (2^k):=by
  generalize z*z - -w*df (a/dj a 2) (2^k)=T at *;generalize a/dj a 2=b at *;obtain⟨t,I⟩:=i;obtain⟨u,g⟩:∃u,b=2*u+1:=#[b/2,.a]
  -- T=8 t-2 u T
  subst g;have G:∃e,T=2*e:=#[4*t-u*T,by grind];obtain⟨e,rfl⟩:=G;have C:∃d,e=2*d:=#[2*t-u*e,by grind];obtain⟨d,rfl⟩:=C;have N:∃f,d=2*f:=#[t-u*d,by grind];obtain⟨f,rfl⟩:=N;exact#[f,.a]
 have:=X8 (XH h n) e1
 rwa [show z*z - -w*df (a/dj a 2) (2^k)-(z*z-1)+(-w*df (a/dj a 2) (2^k) - -w*df (a/dj a 2) (2^k)%2^k)=1 - -w*df (a/dj a 2) (2^k)%2^k by lia] at this
def kC(sq m a:Int):Nat->Int->Int
 |0,r=>r
 |t+1,r=>(kC sq m a t r-(kC sq m a t r*kC sq m a t r-sq)*a)%m
def nS(sq r p k:Int):Int:=kC sq (p^k.toNat) (df (2*r) p) (k-1).toNat r
theorem AR{sq r p a:Int}{K:Nat}(h1:p∣r*r-sq)(b:p∣a*(2*r)-1):∀t,t+1<=K->p^(t+1)∣kC sq (p^K) a t r*kC sq (p^K) a t r-sq/\p∣kC sq (p^K) a t r-r
 |0,_=>#[by rwa[W4],#[0,by show r-r=p*0;lia]]
 |t+1,h=>by
  obtain⟨c,d⟩:=AR (K:=K) h1 b t .a;exact Eg (t:=t) (mi (show t+2<=K by lia)) c d b
def K6{sq r p:Int}(hp:bg p=Â)(h2:p≠2)(j:1<=k)(h1:p∣r*r-sq)(c:¬p∣r)(g:0<=r/\r<p):(0<=nS sq r p k/\nS sq r p k<p^k.toNat)/\p^k.toNat∣nS sq r p k*nS sq r p k-sq/\¬p∣nS sq r p k:=by
 have a:=aA hp;have b:¬p∣(2:Int):=λz=>h2 (dc hp bQ z)
 have f:p∣df (2*r) p*(2*r)-1:=by
  have:=my (B:=2*r) (m:=p) a (by have:=eQ hp (Kg hp b c) 1;rwa [W4] at this)
  rwa [WE] at this
 obtain⟨d,i⟩:=AR (K:=k.toNat) h1 f (k-1).toNat .a;rw[show(k-1).toNat+1=k.toNat by lia] at d;have h:0<p^k.toNat:=WK .a;refine#[?_,d,λz=>c ?_]
 .unfold nS;cases e:(k-1).toNat with
  |zero =>
   have:k=1:=by lia
   subst this;show 0<=r/\r<p^1;rw[W4];exact g
  |succ t=>exact#[Wo _ .a,Wf _ h]
 .have:=XH z i
  rwa [show nS sq r p k-(kC sq (p^k.toNat) (df (2*r) p) (k-1).toNat r-r)=r by unfold nS;lia] at this
def f9(sq:Int):Nat->Int
 |0=>1
 |t+1=>if (f9 sq t*f9 sq t-sq)%2^(t+4)=0 then f9 sq t else f9 sq t+2^(t+2)
def sE(sq k:Int):Int:=f9 sq (k-3).toNat
theorem A8{sq:Int}(b:(8:Int)∣1-sq):∀t,(2:Int)^(t+3)∣f9 sq t*f9 sq t-sq/\f9 sq t%2=1/\0<=f9 sq t/\f9 sq t<2^(t+2)
 |0=>#[b,rfl,by show(0:Int)<=1;decide,by show(1:Int)<2^2;decide]
 |t+1=>by
  obtain⟨g,c,f,i⟩:=A8 b t;have hp:(0:Int)<2^(t+2):=WK .b;have e:(2:Int)^(t+1+2)=2*2^(t+2):=by rw[show t+1+2=(t+2)+1 by lia,Wk];lia
  unfold f9;split
  .rename_i h;exact#[Wh h,c,f,.a]
  .rename_i h;obtain⟨d,a⟩:=Fs (s:=t+3) .a c g (λz=>h (W3 z));rw[show t+3-1=t+2 by lia] at d a;exact#[d,a,.a,.a]
def LH{sq:Int}(d:3<=k)(c:(8:Int)∣1-sq):(0<=sE sq k/\sE sq k<2^k.toNat)/\(2:Int)^k.toNat∣sE sq k*sE sq k-sq/\¬(2:Int)∣sE sq k:=by
 obtain⟨a,g,b,f⟩:=A8 c (k-3).toNat;rw[show(k-3).toNat+3=k.toNat by lia] at a;have e:(2:Int)^k.toNat=2*2^((k-3).toNat+2):=by rw[show k.toNat=((k-3).toNat+2)+1 by lia,Wk];lia
 have hp:(0:Int)<2^((k-3).toNat+2):=WK .b;unfold sE;exact#[#[b,.a],a,.a]
def pO(p:Int):List Int->Nat
 |[]=>0
 |x::xs=>if x%p=0 then pO p xs+1 else 0
theorem wK{p:Int}:∀{zs:List Int},(∃x∈zs,¬p∣x)->∃z,zs[pO p zs]?=À z/\¬p∣z
 |[],⟨x,h,_⟩=>by cases h
 |x::zs,h=>by
  unfold pO;split
  .rename_i e;rw[fC] at h;obtain⟨z,h1,h2⟩:=wK (h.resolve_left λw=>w (Wh e));exact#[z,↑h1,h2]
  .rename_i e;exact#[x,rfl,λz=>e (W3 z)]
def yO(row zs:List Int)(p k:Int):List Int :=
 zs.set (pO p zs) (if p=2 then sE (As row zs (row.getD (pO p zs) 0) (zs.getD (pO p zs) 0) p (p^k.toNat)) k else nS (As row zs (row.getD (pO p zs) 0) (zs.getD (pO p zs) 0) p (p^k.toNat)) (zs.getD (pO p zs) 0) p k)
def kQ{p:Int}(hp:1<=p){a b:Nat}(h:a<=b):p^a<=p^b:=by
 obtain⟨d,rfl⟩:∃d,b=a+d:=#[b-a,.a];rw[WZ];have h1:0<p^a:=WK .a;have h2:0<p^d:=WK .a;have:=Wc (show 1<=p^d by lia) (XG h1);lia
structure MW(row zs:List Int)(p k a z:Int):Prop where
 pr:bg p=Â
 k1:1<=k
 len:zs.length=row.length
 ai:row[pO p zs]?=À a
 zi:zs[pO p zs]?=À z
 zn:¬p∣z
 sq:¬p*p∣a
 bd:∀x∈zs,0<=x/\x<(if p=2 then 4 else p)
 dv:dj a p∣a9 row zs-a*z*z
 odd:p≠2->dj a p*p∣a9 row zs
 two:p=2->4<=k/\(16:Int)∣a9 row zs
def v7{row:List Int}{p:Int}(h:MW row zs p k a z):GZ row p (p^k.toNat) (yO row zs p k):=by
 obtain⟨hp,r,n,ha,hz,i,b,g,d,q,s⟩:=h;have t:=aA hp;have u:row.getD (pO p zs) 0=a:=by rw[Wa,ha];rfl
 have v:zs.getD (pO p zs) 0=z:=by rw[Wa,hz];rfl
 have y:p<=p^k.toNat:=by have:=kQ (p:=p) .a (show 1<=k.toNat by lia);rwa [W4] at this
 unfold yO;rw[u,v];by_cases h2:p=2
 .obtain⟨B,j⟩:=s h2;subst h2;rw[V6 rfl];have A:=IK (k:=k.toNat) .a (λw=>b .a) .a d j;obtain⟨m,f,l⟩:=LH (k:=k) .a A;refine Bb bQ .a n ha hz b d (λx e=>?_) m l f;have:=g x e;rw[V6 rfl] at this;have o:=kQ (p:=2) .b (show 4<=k.toNat by lia);have:(2:Int)^4=16:=by decide
  lia
 .rw[V4 h2];have h1:=Hb (k:=k.toNat) hp .a b d (q h2);have c:=g z (Wq hz);rw[V4 h2] at c;obtain⟨m,f,l⟩:=K6 (k:=k) hp h2 r h1 i c;refine Bb hp .a n ha hz b d (λx e=>?_) m l f;have:=g x e;rw[V4 h2] at this;lia
def gE(f:Int->Bool):List Int->List Int->List Int
 |[],_=>[]
 |a::l,ys=>if f a=Â then (match ys with|y::ys=>y::gE f l ys|[]=>0::gE f l []) else 0::gE f l ys
def gj(f:Int->Bool):List Int->Nat->List Int
 |[],_=>[]
 |a::l,o=>if f a=Â then (o:Int)::gj f l (o+1) else gj f l (o+1)
def G9(a:List Int)(us:List (Int×Int)):List Int:=us.foldl (λa u=>a.set u.1.toNat u.2) a
theorem zw(f:Int->Bool):∀{l ys:List Int} (pre:List Int),ys.length=(l.filter f).length->G9 (pre++È l.length 0) ((gj f l pre.length).zip ys)=pre++gE f l ys
 |[],ys,pre,_=>by simp[gj,G9,gE]
 |a::l,ys,pre,h=>by
  by_cases z:f a=Â
  .rw[WI z] at h
   match ys,h with
   |y::ys,h =>
    have e1:gj f (a::l) pre.length=(pre.length:Int)::gj f l (pre.length+1):=V6 z;have e2:gE f (a::l) (y::ys)=y::gE f l ys:=V6 z;rw[e1,e2,YM];show G9 ((pre++È (l.length+1) 0).set (pre.length:Int).toNat y) ((gj f l (pre.length+1)).zip ys)=_
    have e3:(pre++È (l.length+1) 0).set (pre.length:Int).toNat y=(pre++[y])++È l.length 0:=by
     rw[Wm,W7,List.set_append_right _ _ (V_ _),ϫ];simp
    rw[e3];have b:=zw f (l:=l) (ys:=ys) (pre++[y]) ↑h;rw[WL] at b;rw[show pre.length+1=pre.length+[y].length from rfl,b];simp
  .rw[WH z] at h;have e1:gj f (a::l) pre.length=gj f l (pre.length+1):=V4 z;have e2:gE f (a::l) ys=0::gE f l ys:=V4 z;rw[e1,e2];have b:=zw f (l:=l) (ys:=ys) (pre++[0]) h;rw[WL] at b;rw[WN,W7,show pre++0::È l.length 0=(pre++[0])++È l.length 0 by simp,show pre.length+1=pre.length+[(0:Int)].length from rfl,b];simp
theorem n5(f:Int->Bool):∀(l ys:List Int),(gE f l ys).length=l.length
 |[],_=>rfl
 |a::l,ys=>by
  unfold gE;split
  .split
   .rw[WN,WN,n5 f l]
   .rw[WN,WN,n5 f l]
  .rw[WN,WN,n5 f l]
theorem qt(f:Int->Bool):∀{l ys:List Int},ys.length=(l.filter f).length->a9 l (gE f l ys)=a9 (l.filter f) ys
 |[],ys,h=>by rw[bK];show 0=a9 [] ys;rw[bK]
 |a::l,ys,h=>by
  by_cases z:f a=Â
  .rw[WI z] at h ⊢
   match ys,h with
   |y::ys,h =>
    rw[show gE f (a::l) (y::ys)=y::gE f l ys from V6 z];show a*y*y+a9 l (gE f l ys)=a*y*y+a9 (l.filter f) ys;rw[qt f ↑h]
  .rw[WH z] at h ⊢;rw[show gE f (a::l) ys=0::gE f l ys from V4 z];show a*0*0+a9 l (gE f l ys)=_;rw[qt f h];lia
theorem oh(f:Int->Bool):∀{l ys:List Int} {x:Int},x∈gE f l ys->x=0\/x∈ys
 |[],_,_,h=>by cases h
 |a::l,ys,x,h=>by
  by_cases z:f a=Â
  .match ys,h with
   |[],h =>
    rw[show gE f (a::l) []=0::gE f l [] from V6 z] at h;rcases V8.mp h with e|e
    .exact .inl e
    .exact oh f e
   |y::ys,h =>
    rw[show gE f (a::l) (y::ys)=y::gE f l ys from V6 z] at h;rcases V8.mp h with e|e
    .exact .inr (by rw[e];simp)
    .exact(oh f e).imp id λw=>We _ w
  .rw[show gE f (a::l) ys=0::gE f l ys from V4 z] at h;rcases V8.mp h with e|e
   .exact .inl e
   .exact oh f e
theorem qA(f:Int->Bool):∀{l ys:List Int} {x:Int},ys.length=(l.filter f).length->x∈ys->x∈gE f l ys
 |[],ys,x,h,b=>by
  have:ys=[]:=Xt.mp h;subst this;cases b
 |a::l,ys,x,h,b=>by
  by_cases z:f a=Â
  .rw[WI z] at h
   match ys,h,b with
   |y::ys,h,b =>
    rw[show gE f (a::l) (y::ys)=y::gE f l ys from V6 z];rcases V8.mp b with e|e
    .rw[e];simp
    .exact We _ (qA f ↑h e)
  .rw[WH z] at h;rw[show gE f (a::l) ys=0::gE f l ys from V4 z];exact We _ (qA f h b)
theorem rJ(f:Int->Bool){p:Int}:∀{l ys:List Int} {i:Nat} {a z:Int},l[i]?=À a->(gE f l ys)[i]?=À z->¬p∣z->f a=Â
 |[],_,_,_,_,h,_,_=>by simp at h
 |b::l,ys,0,a,z,h1,h2,c=>by
  by_cases w:f b=Â
  .have:b=a:=by simpa using h1
   rwa[<-this]
  .rw[show gE f (b::l) ys=0::gE f l ys from V4 w] at h2;have:z=0:=by simpa using h2.symm
   exact absurd (by rw[this];exact Zg _) c
 |b::l,ys,i+1,a,z,h1,h2,c=>by
  by_cases w:f b=Â
  .match ys,h2 with
   |[],h2 =>
    rw[show gE f (b::l) []=0::gE f l [] from V6 w] at h2;exact rJ f (ys:=[]) (i:=i) ↑h1 ↑h2 c
   |y::ys,h2 =>
    rw[show gE f (b::l) (y::ys)=y::gE f l ys from V6 w] at h2;exact rJ f (ys:=ys) (i:=i) ↑h1 ↑h2 c
  .rw[show gE f (b::l) ys=0::gE f l ys from V4 w] at h2;exact rJ f (ys:=ys) (i:=i) ↑h1 ↑h2 c
def MH(a b c p:Int):Option (List Int):=(Ú p.toNat).findSome? fun(y:Nat)=>(pK (-(b*y*y+c)*df a p) p).map λx=>[x,(y:Int),1]
def BF(ns:List Int)(p:Int):Option (List Int):=match ns with
 |[]=>none
 |[_]=>none
 |[a,b]=>(pK (-b*df a p) p).map λx=>[x,1]
 |a::b::c::l=>(MH a b c p).map λzs=>zs++È l.length 0
def sO{p:Int}(hp:bg p=Â):¬p∣(1:Int):=λw=>by have:=Wt .b w;have:=aA hp;lia
def AQ{p v:Int}(hp:bg p=Â)(ha:¬p∣a)(h:p∣x*x - -v*df a p):p∣a*x*x+v:=by
 have b:=my (B:=a) (m:=p) (aA hp) (by have:=eQ hp ha 1;rwa [W4] at this);obtain⟨s,c⟩:=h;obtain⟨t,d⟩:=b;refine#[a*s-v*t,?_];have h1:x*x=p*s+-v*df a p:=by lia
 have h2:a*df a p=1+p*t:=by lia
 rw[show a*x*x+v=a*(x*x)+v by grind,h1,show a*(p*s+-v*df a p)+v=a*p*s-v*(a*df a p)+v by grind,h2];grind
def By{p:Int}(hp:bg p=Â)(ha:¬p∣a)(h:MH a b c p=À zs):∃x y,zs=[x,y,1]/\0<=x/\x<p/\0<=y/\y<p/\p∣a*x*x+b*y*y+c:=by
 obtain⟨y,k,e⟩:=ZF h;obtain⟨x,g,rfl⟩:=X3.mp e;have f:=W9.mp k;obtain⟨⟨d,i⟩,j⟩:=uZ hp g;refine#[x,y,rfl,d,i,.a,.a,?_];have:=AQ (v:=b*y*y+c) hp ha j
 rwa [<-aaU] at this
def vj{p:Int}(hp:bg p=Â)(h2:p≠2)(ha:¬p∣a)(u:¬p∣b):∃zs,MH a b c p=À zs:=by
 have f:=aA hp;obtain⟨x,y,i⟩:=yj (-c) hp h2 ha u;cases h:MH a b c p with
 |some zs=>exact#[zs,rfl]
 |none =>
  exfalso;have n:=Wo y (b:=p) .a;have h1:=Wf y (b:=p) .a;have d:=aaj.mp h (y%p).toNat (W9.mpr .a);rw[XF,qI,X2 n] at d;have j:=my (B:=a) (m:=p) f (by have:=eQ hp ha 1;rwa [W4] at this)
  have g:ck (-(b*(y%p)*(y%p)+c)*df a p) p=ck (x*x) p:=by
   refine mM (tQ.mpr ?_);have e:=WT y p;generalize y%p=r at *;generalize y/p=q at *;obtain⟨s,w⟩:=i;obtain⟨t,v⟩:=j
   -- a x x+b y y+c=p s,a bk=1+p t
   have o:a*x*x+b*y*y+c=p*s:=by lia
   have l:a*df a p=1+p*t:=by lia
   subst e;refine#[x*x*t-s*df a p+b*(2*r*q+p*q*q)*df a p,?_]
   have:-(b*r*r+c)=a*x*x-p*s+b*(2*r*(p*q)+p*q*(p*q)):=by
    have:a*x*x+b*(r+p*q)*(r+p*q)+c=p*s:=o;grind
   rw[this];have:(a*x*x-p*s+b*(2*r*(p*q)+p*q*(p*q)))*df a p-x*x=x*x*(a*df a p)-p*s*df a p+b*(2*r*(p*q)+p*q*(p*q))*df a p-x*x:=by grind
   rw[this,l];grind
  rw[g,gr hp] at d;by_cases k:p∣x
  .rw[eN k] at d;cases d
  .rcases eU k with z|z<;>rw[z] at d<;>cases d
def nU{p:Int}(hp:bg p=Â)(h2:p≠2):∀{ns:List Int},(∀a∈ns,¬p∣a)->(∀zs,BF ns p=À zs->zs.length=ns.length/\(∀x∈zs,0<=x/\x<p)/\(∃x∈zs,¬p∣x)/\p∣a9 ns zs)/\(BF ns p=none->¬PZ ns p p)
 |[],_=>#[λ_ h=>(by cases h),λ_ ⟨xs,h1,_,x,j,_⟩=>by rw[Xt.mp h1] at j;cases j]
 |[a],f=>#[λ_ h=>(by cases h),λ_ h=>by
   rw[om hp h2 f] at h;rcases h with h|⟨_,_,h,_⟩
   .exact absurd h .c
   .cases h]
 |[a,b],f=>by
  have ha:=f a .c;have o:=f b .c;have i:=aA hp;refine#[λzs h=>?_,λh=>?_]
  .obtain⟨x,j,rfl⟩:=X3.mp (show(pK (-b*df a p) p).map (λx=>[x,(1:Int)])=À zs from h);obtain⟨⟨r,D⟩,s⟩:=uZ hp j;refine#[rfl,λy A=>?_,#[1,.c,sO hp],?_]
   .have:y=x\/y=1:=by simpa using A
    lia
   .show p∣a*x*x+(b*1*1+0);have:=AQ (v:=b) hp ha s
    rwa [show a*x*x+(b*1*1+0)=a*x*x+b by lia]
  .have q:=XF.mp (show(pK (-b*df a p) p).map (λx=>[x,(1:Int)])=none from h);rw[qI] at q;rw[om hp h2 f];rintro(w|⟨c,d,w,C⟩)
   .exact absurd w .c
   .cases w;have n:=my (B:=a) (m:=p) i (by have:=eQ hp ha 1;rwa [W4] at this)
    have e1:ck (-b*df a p*(a*a)) p=ck (-a*b) p:=by
     refine mM (tQ.mpr ?_);obtain⟨t,H⟩:=n;refine#[-(a*b*t),?_];have:a*df a p=1+p*t:=by lia
     rw[show -b*df a p*(a*a) - -a*b=-(a*b)*(a*df a p)+a*b by grind,this];grind
    rw[gr hp,gr hp a a,q,C] at e1;rcases eU ha with z|z<;>rw[z] at e1<;>exact absurd e1 .b
 |a::b::c::l,f=>by
  have ha:=f a .c;have o:=f b .c;obtain⟨ys,g⟩:=vj (c:=c) hp h2 ha o;have i:=aA hp
  have e:BF (a::b::c::l) p=À (ys++È l.length 0):=by
   show(MH a b c p).map _=_;rw[g];rfl
  refine#[λzs h=>?_,λh=>by rw[e] at h;cases h];rw[e] at h;cases h;obtain⟨x,y,rfl,r,D,G,F,E⟩:=By hp ha g;refine#[.c,λu k=>?_,#[1,.c,sO hp],?_]
  .rcases W2.mp k with w|w
   .have:u=x\/u=y\/u=1:=by simpa using w
    lia
   .have:=List.eq_of_mem_replicate w;lia
  .show p∣a9 ([a,b,c]++l) ([x,y,1]++È l.length 0);rw[eG (l:=[a,b,c]) (xs:=[x,y,1]) rfl,gC];show p∣a*x*x+(b*y*y+(c*1*1+0))+0
   rwa [show a*x*x+(b*y*y+(c*1*1+0))+0=a*x*x+b*y*y+c by lia]
def tR(p:Int)(a:Int):Bool:=!decide (a%p=0)
def dvd(p:Int)(a:Int):Bool:=decide (a%p=0)
def xa(row:List Int)(f:Int->Bool)(d p:Int):Option (List Int):=(BF ((row.filter f).map (·/d)) p).map (gE f row)
def D5(row:List Int)(p k:Int):Option (List Int) :=
 if k=1/\gj (dvd p) row 0≠[] then À ((Ú row.length).map fun(i:Nat)=>if ((i:Int)=(gj (dvd p) row 0).getD 0 0) then (1:Int) else 0)
 else match xa row (tR p) 1 p with
  |some zs=>À (yO row zs p k)
  |none=>(xa row (dvd p) p p).map λzs=>yO row zs p k
theorem xG{d:Int}:∀{l xs:List Int},(∀a∈l,d∣a)->a9 l xs=d*a9 (l.map (·/d)) xs
 |[],xs,_=>by rw[bK];show 0=d*a9 [] xs;rw[bK,YG]
 |_::_,[],_=>by show 0=d*0;lia
 |a::l,x::xs,h=>by
  show a*x*x+a9 l xs=d*(a/d*x*x+a9 (l.map (·/d)) xs);rw[xG λb c=>h b (by simp[c])];have:d*(a/d)=a:=XM (h a .c);rw[ŕ,show d*(a/d*x*x)=d*(a/d)*x*x by grind,this]
def Lu(p:Int)(row:List Int):nR p row=row.filter (tR p):=rfl
def jt(l:List Int):l.map (·/(1:Int))=l:=by
 rw[show(λx:Int=>x/1)=λx=>x from funext λx=>ϳ x];exact aaZ l
def D4{row:List Int}{p:Int}(hp:bg p=Â)(h2:p≠2)(m:1<=k)(f:On p row)(h:xa row (tR p) 1 p=À zs):∃a z,MW row zs p k a z:=by
 unfold xa at h;rw[jt] at h;obtain⟨ys,l,rfl⟩:=X3.mp h;obtain⟨h1,n,⟨x,j,i⟩,o⟩:=(nU hp h2 (ns:=row.filter (tR p)) k8).1 ys l;have b:=n5 (tR p) row ys;obtain⟨z,hz,c⟩:=wK (p:=p) (zs:=gE (tR p) row ys) #[x,qA _ h1 j,i];have hi:=(Wd.mp hz).1;rw[b] at hi;have ha:row[pO p (gE (tR p) row ys)]?=À row[pO p (gE (tR p) row ys)]:=V7 hi;have r:=rJ (tR p) ha hz c;generalize row[pO p (gE (tR p) row ys)]=a at *;have g:¬a%p=0:=by simpa [tR] using r
 have d:dj a p=1:=V4 g;have s:=qt (tR p) h1;refine#[a,z,hp,m,b,ha,hz,c,f a (Wq ha),λu q=>?_,by rw[d];exact#[_,(Xe _).symm],λ_=>by rwa[d,Xe,s],λe=>absurd e h2];rw[V4 h2];rcases oh _ q with w|w
 .have:=aA hp;lia
 .exact n u w
def G3{row:List Int}{p:Int}(hp:bg p=Â)(h2:p≠2)(s:1<=k)(g:On p row)(h:xa row (dvd p) p p=À zs):∃a z,MW row zs p k a z:=by
 have D:=aA hp;unfold xa at h;obtain⟨ys,r,rfl⟩:=X3.mp h;obtain⟨h1,v,⟨x,q,m⟩,y⟩:=(nU hp h2 (ns:=(row.filter (dvd p)).map (·/p)) (kS g)).1 ys r;rw[V2] at h1;have c:=n5 (dvd p) row ys;obtain⟨z,hz,f⟩:=wK (p:=p) (zs:=gE (dvd p) row ys) #[x,qA _ h1 q,m];have hi:=(Wd.mp hz).1;rw[c] at hi;have ha:row[pO p (gE (dvd p) row ys)]?=À row[pO p (gE (dvd p) row ys)]:=V7 hi;have C:=rJ (dvd p) ha hz f;generalize row[pO p (gE (dvd p) row ys)]=a at *;have j:a%p=0:=by simpa [dvd] using C
 have i:dj a p=p:=V6 j;have n:=qt (dvd p) h1;have o:=xG (d:=p) (l:=row.filter (dvd p)) (xs:=ys) λb B=>Wh (by simpa [dvd] using (XR.mp B).2);refine#[a,z,hp,s,c,ha,hz,f,g a (Wq ha),λu A=>?_,?_,λ_=>?_,λe=>absurd e h2]
 .rw[V4 h2];rcases oh _ A with w|w
  .lia
  .exact v u w
 .rw[i,n,o];have:p∣a:=Wh j;obtain⟨t,rfl⟩:=this;exact XH #[_,rfl] #[t*z*z,by grind]
 .rw[i,n,o];exact Int.mul_dvd_mul_left p y
theorem BO{f:Int->Bool}:∀{l:List Int} {o:Nat},gj f l o=[]↔∀a∈l,¬f a=Â
 |[],_=>by simp[gj]
 |a::l,o=>by
  unfold gj;split
  .rename_i h;exact#[λw=>(by cases w),λw=>absurd h (w a .c)]
  .rename_i h;rw[BO]
   exact#[λw b c=>by
    rcases V8.mp c with e|e
    .rw[e];exact h
    .exact w b e,λw b c=>w b (by simp[c])]
theorem xi{f:Int->Bool}:∀{l:List Int} {o:Nat},gj f l o≠[]->∃(i:Nat) (a:Int),(gj f l o).getD 0 0=((o+i:Nat):Int)/\l[i]?=À a/\f a=Â
 |[],_,h=>absurd rfl h
 |a::l,o,h=>by
  by_cases z:f a=Â
  .exact#[0,a,by rw[show gj f (a::l) o=(o:Int)::gj f l (o+1) from V6 z];rfl,rfl,z]
  .rw[show gj f (a::l) o=gj f l (o+1) from V4 z] at h ⊢;obtain⟨i,b,h1,h2,c⟩:=xi h;exact#[i+1,b,by rw[h1];lia,↑h2,c]
theorem xk:∀{l:List Int} {i:Nat} {a:Int} (o:Nat),l[i]?=À a->a9 l ((Ú l.length).map fun(j:Nat)=>if (((o+j:Nat):Int)=((o+i:Nat):Int)) then (1:Int) else 0)=a
 |[],_,_,_,h=>by simp at h
 |b::l,0,a,o,h=>by
  cases h;rw[WN,Zx,Wb,W8];show b*(if ((o+0:Nat):Int)=((o+0:Nat):Int) then 1 else 0)*(if ((o+0:Nat):Int)=((o+0:Nat):Int) then 1 else 0)+a9 l _=b;rw[V6 rfl]
  have:((Ú l.length).map ((fun(j:Nat)=>if (((o+j:Nat):Int)=((o+0:Nat):Int)) then (1:Int) else 0)∘Nat.succ))=È l.length 0:=by
   rw[List.map_eq_replicate_iff.mpr,YQ];intro j _;exact V4 .a
  rw[this,gC];lia
 |b::l,i+1,a,o,h=>by
  rw[WN,Zx,Wb,W8];show b*(if ((o+0:Nat):Int)=((o+(i+1):Nat):Int) then 1 else 0)*(if ((o+0:Nat):Int)=((o+(i+1):Nat):Int) then 1 else 0)+a9 l _=a;rw[V4 .a];have c:=xk (l:=l) (i:=i) (a:=a) (o+1) ↑h
  have:((Ú l.length).map ((fun(j:Nat)=>if (((o+j:Nat):Int)=((o+(i+1):Nat):Int)) then (1:Int) else 0)∘Nat.succ))=((Ú l.length).map fun(j:Nat)=>if (((o+1+j:Nat):Int)=((o+1+i:Nat):Int)) then (1:Int) else 0):=by
   apply WY;intro j _;show(if ((o+(j+1):Nat):Int)=_ then (1:Int) else 0)=_;rw[show o+(j+1)=o+1+j by lia,show o+(i+1)=o+1+i by lia]
  rw[this,c];lia
def J5{row:List Int}{p:Int}(hp:bg p=Â)(h2:p≠2)(u:1<=k)(d:On p row)(h1:1<=row.length):(∀zs,D5 row p k=À zs->GZ row p (p^k.toNat) zs)/\(D5 row p k=none->¬PZ row p (p^k.toNat)):=by
 have D:=aA hp;unfold D5;split
 .rename_i m;obtain⟨rfl,o⟩:=m;refine#[λzs h=>?_,λh=>by cases h];cases h;obtain⟨i,a,e1,e2,e3⟩:=xi o;have hi:=(Wd.mp e2).1;rw[e1];have c:=xk (l:=row) (i:=i) (a:=a) 0 e2;simp only[aaF] at c ⊢;refine#[.c,λx y=>?_,#[1,?_,sO hp],?_]
  .obtain⟨j,_,rfl⟩:=V3.mp y;show 0<=(if _ then (1:Int) else 0)/\(if _ then (1:Int) else 0)<p^1;rw[W4];split<;>lia
  .exact V3.mpr #[i,W9.mpr hi,V6 rfl]
  .show p^1∣_;rw[W4,c];exact Wh (by simpa [dvd] using e3)
 .rename_i m;cases c:xa row (tR p) 1 p with
  |some zs =>
   dsimp only;obtain⟨a,z,s⟩:=D4 hp h2 u d c;exact#[λg h=>by cases h;exact v7 s,λh=>by cases h]
  |none =>
   dsimp only;cases t:xa row (dvd p) p p with
   |some zs =>
    obtain⟨a,z,s⟩:=G3 hp h2 u d t;exact#[λg h=>by cases h;exact v7 s,λh=>by cases h]
   |none =>
    refine#[λg h=>(by cases h),λ_ hz=>?_]
    have r:¬PZ (nR p row) p p:=(nU hp h2 k8).2 (by
     unfold xa at c;rw[jt] at c
     exact XF.mp c)
    have B:¬PZ (o5 p row) p p:=(nU hp h2 (kS d)).2 (XF.mp t);by_cases q:k=1
    .subst q
     have n:PZ row p p:=by
      have:p^(1:Int).toNat=p:=W4 p
      rwa [this] at hz
     have he:gj (dvd p) row 0=[]:=V9 λw=>m #[rfl,w];rw[BO] at he
     have e:nR p row=row:=by
      rw[Lu,Z5];intro a ha;have:=he a ha;simpa [dvd,tR] using this
     rw[e] at r;exact r n
    .have f:PZ row p (p*p):=by
      obtain⟨xs,A,C,v⟩:=hz
      have:p*p∣p^k.toNat:=by
       have:=mi (p:=p) (a:=2) (b:=k.toNat) .a
       rwa [show p^2=p*p by rw[Wk,W4]] at this
      exact#[xs,A,Wz this C,v]
     rw[mQ hp h2] at f;exact f.elim r B
def yJ(m:Int):Int:=if m<4 then m else 4
def CI(m:Int)(l:List Int)(k:Int×Bool)(xs:List Int):Prop:=xs.length=l.length/\(∀x∈xs,0<=x/\x<yJ m)/\k.1=a9 l xs%m/\k.2=xs.any λx=>decide (x%2=1)
def Bt{k:Int×Bool}:CI m [] k xs↔k=(0,Á)/\xs=[]:=by
 constructor
 .rintro⟨h1,_,c,d⟩;have e:xs=[]:=Xt.mp h1;subst e;rw[bK] at c;obtain⟨a,b⟩:=k;simp only at c d;rw[c,d];simp
 .rintro⟨rfl,rfl⟩;exact#[rfl,λx f=>(by cases f),(by rw[bK];simp),rfl]
def Ap(m a:Int)(k:Int×Bool)(x:Int):Int×Bool:=((k.1+a*x*x)%m,k.2 || decide (x%2=1))
def GG{ys:List Int}{k:Int×Bool}(d:0<=x/\x<yJ m)(h:CI m l k ys):CI m (l++[a]) (Ap m a k x) (ys++[x]):=by
 obtain⟨h1,h2,b,c⟩:=h;refine#[by simp[h1],λy e=>?_,?_,?_]
 .rcases W2.mp e with z|z
  .exact h2 y z
  .rwa[WR.mp z]
 .show(k.1+a*x*x)%m=_;rw[b,eG h1.symm];show _=(a9 l ys+(a*x*x+a9 [] []))%m;rw[bK,aaE,Zq]
 .show(k.2 || _)=_;rw[c];simp
def GF{k:Int×Bool}(h:CI m (l++[a]) k xs):∃f ys x,CI m l f ys/\(0<=x/\x<yJ m)/\k=Ap m a f x:=by
 obtain⟨h1,h2,e,d⟩:=h;have b:xs≠[]:=λz=>by subst z;simp at h1
 obtain⟨ys,x,rfl⟩:∃ys x,xs=ys++[x]:=#[xs.dropLast,xs.getLast b,(Z9 b).symm];have c:ys.length=l.length:=by simpa using h1
 refine#[(a9 l ys%m,ys.any λx=>decide (x%2=1)),ys,x,#[c,λy g=>h2 y (by simp[g]),rfl,rfl],h2 x .c,?_];obtain⟨k1,k2⟩:=k;simp only at e d;unfold Ap;simp only;rw[e,d,eG c.symm];congr 1
 .show(a9 l ys+(a*x*x+a9 [] []))%m=_;rw[bK,aaE,Zq]
 .simp
def PY:([2,4,8,16].all λm=>(Ú 16).all λr=>(Ú (if m<4 then m else 4)).any λy=>í (y*y%m) (r*r%m)&&í (y%2) (r%2))=Â:=by decide +kernel
def Qj(c:m=2\/m=4\/m=8\/m=16):∃y:Int,(0<=y/\y<yJ m)/\m∣y*y-x*x/\(y%2=1↔x%2=1):=by
 have key:∀a∈([2,4,8,16]:List Nat),∀r:Nat,r<16->∃y:Nat,y<(if a<4 then a else 4)/\y*y%a=r*r%a/\y%2=r%2:=by
  intro a d r k;have h1:=(WB.mp ((WB.mp PY) a d)) r (W9.mpr k);obtain⟨y,i,h2⟩:=X7.mp h1;rw[WA,Y4,Y4] at h2;exact#[y,W9.mp i,h2.1,h2.2]
 have e:m∣16:=by rcases c with rfl|rfl|rfl|rfl<;>decide
 have g:=Wo x (b:=16) .b;have j:=Wf x (b:=16) .b;have h:m.toNat∈([2,4,8,16]:List Nat):=by rcases c with rfl|rfl|rfl|rfl<;>decide
 obtain⟨y,h1,h2,l⟩:=key m.toNat h (x%16).toNat .a;have f:((m.toNat:Nat):Int)=m:=by rcases c with rfl|rfl|rfl|rfl<;>rfl
 refine#[y,#[.a,?_],?_,.a]
 .unfold yJ;rcases c with rfl|rfl|rfl|rfl
  .exact aaG.mpr h1
  .exact aaG.mpr h1
  .exact aaG.mpr h1
  .exact aaG.mpr h1
 .have e1:((y:Int)*y)%m=((x%16)*(x%16))%m:=by
   have:=congrArg (λn:Nat=>(n:Int)) h2;simp only[Int.natCast_emod,X1,f,X2 g] at this;exact this
  have e2:=tQ.mp e1
  have e3:m∣(x%16)*(x%16)-x*x:=by
   refine Wz e ?_;have:=WT x 16;generalize x%16=r at *;generalize x/16=q at *;subst this;exact#[-(q*(2*r+16*q)),by grind]
  have:=X8 e2 e3
  rwa [show(y:Int)*y-x%16*(x%16)+(x%16*(x%16)-x*x)=y*y-x*x by lia] at this
def uQ(p:m=2\/m=4\/m=8\/m=16)(h:PZ l 2 m):∃xs,CI m l (0,Â) xs:=by
 have j:0<m:=by lia
 have key:∀(l xs:List Int),xs.length=l.length->∃ys:List Int,ys.length=l.length/\(∀y∈ys,0<=y/\y<yJ m)/\m∣a9 l ys-a9 l xs/\((∃x∈xs,¬(2:Int)∣x)->∃y∈ys,y%2=1):=by
  intro l
  induction l with
  |nil=>intro xs h;exact#[[],rfl,λy d=>(by cases d),by rw[bK,bK];simp,fun⟨x,b,_⟩=>by rw[Xt.mp h] at b;cases b]
  |cons a l i =>
   intro xs h
   match xs,h with
   |x::xs,h =>
    obtain⟨ys,h1,h2,f,n⟩:=i xs ↑h;obtain⟨y,k,r,q⟩:=Qj (x:=x) p;refine#[y::ys,by simp[h1],λz hz=>?_,?_,?_]
    .rcases V8.mp hz with e|e
     .rwa[e]
     .exact h2 z e
    .show m∣a*y*y+a9 l ys-(a*x*x+a9 l xs);rw[show a*y*y+a9 l ys-(a*x*x+a9 l xs)=a*(y*y-x*x)+(a9 l ys-a9 l xs) by grind];exact X8 (M9 a r) f
    .intro b;rw[fC] at b;rcases b with b|b
     .exact#[y,.c,q.mpr .a]
     .obtain⟨z,hz,g⟩:=n b;exact#[z,by simp[hz],g]
 obtain⟨xs,h1,h2,f⟩:=h;obtain⟨ys,k1,k2,k3,o⟩:=key l xs h1;obtain⟨y,d,c⟩:=o f;refine#[ys,k1,k2,?_,?_]
 .show(0:Int)=_;have:=X8 k3 h2;rw[show a9 l ys-a9 l xs+a9 l xs=a9 l ys by lia] at this;exact(W3 this).symm
 .show Â=_;exact(X7.mpr #[y,d,Wr c]).symm
def uf(d:2<=m)(h:CI m l (0,Â) xs):GZ l 2 m xs:=by
 obtain⟨h1,h2,b,c⟩:=h;refine#[h1,λx a=>?_,?_,Wh b.symm]
 .have:=h2 x a;unfold yJ at this;split at this<;>lia
 .obtain⟨x,a,e⟩:=X7.mp c.symm;have:=Xq e;exact#[x,a,.a]
def Ip(row:List Int)(p k:Int):Option (List Int)->Prop
 |some zs=>GZ row p (p^k.toNat) zs
 |none=>¬PZ row p (p^k.toNat)
def GA{row:List Int}(l:4<=k)(j:∀a∈row,a%4≠0)(h:CI 16 row (0,Â) zs):∃a z,MW row zs 2 k a z:=by
 obtain⟨h1,h2,⟨x,i,f⟩,g⟩:=uf .b h;obtain⟨z,hz,d⟩:=wK (p:=2) (zs:=zs) #[x,i,f];have hi:=(Wd.mp hz).1;rw[h1] at hi;have ha:row[pO 2 zs]?=À row[pO 2 zs]:=V7 hi;generalize row[pO 2 zs]=a at *;refine#[a,z,bQ,.a,h1,ha,hz,d,λw=>j a (Wq ha) .a,λu m=>?_,?_,λw=>absurd rfl w,λ_=>#[l,g]]
 .rw[V6 rfl];have:=h.2.1 u m;unfold yJ at this;split at this<;>lia
 .unfold dj;split
  .rename_i e;have b:(2:Int)∣a:=Wh e;have c:(2:Int)∣a9 row zs:=Wz .b g;rw[Xj];exact XH c (Wz b #[z*z,rfl])
  .exact#[_,(Xe _).symm]
def N5{row:List Int}{p:Int}(hp:bg p=Â)(h2:p≠2)(o:2<=k)(c:On p row)(h1:1<=row.length):PZ row p (p^k.toNat)↔PZ row p (p*p):=by
 constructor
 .rintro⟨xs,l,j,e⟩
  have:p*p∣p^k.toNat:=by
   have:=mi (p:=p) (a:=2) (b:=k.toNat) .a
   rwa [show p^2=p*p by rw[Wk,W4]] at this
  exact#[xs,l,Wz this j,e]
 .intro hz;obtain⟨i,n⟩:=J5 (k:=k) hp h2 .a c h1;cases h:D5 row p k with
  |some zs=>exact(i zs h).pz
  |none =>
   exfalso;unfold D5 at h;rw[V4 .a] at h;rw[mQ hp h2] at hz;cases d:xa row (tR p) 1 p with
   |some zs=>rw[d] at h;cases h
   |none =>
    rw[d] at h;have g:=XF.mp h
    have f:¬PZ (nR p row) p p:=(nU hp h2 k8).2 (by
     unfold xa at d;rw[jt] at d
     exact XF.mp d)
    have m:¬PZ (o5 p row) p p:=(nU hp h2 (kS c)).2 (XF.mp g);exact hz.elim f m
def LV{row:List Int}(b:4<=k)(h:∀a∈row,a%4≠0):PZ row 2 (2^k.toNat)↔PZ row 2 16:=by
 constructor
 .rintro⟨xs,e,d,c⟩;exact#[xs,e,Wz (mi (p:=2) (a:=4) .a) d,c]
 .intro hz;obtain⟨xs,f⟩:=uQ (.inr (.inr (.inr rfl))) hz;obtain⟨a,z,g⟩:=GA b h f;exact(v7 g).pz
def O0{row:List Int}{p:Int}(hp:bg p=Â)(b:(p=2/\4<=k)\/(p≠2/\2<=k))(c:On p row)(d:p=2->∀a∈row,a%4≠0)(h1:1<=row.length):PZ row p (p^k.toNat)↔jR row p=Â:=by
 rcases b with⟨rfl,b⟩|⟨h2,b⟩
 .rw[LV b (d rfl)];exact Gd (d rfl) h1
 .rw[N5 hp h2 b c h1];exact E3 hp h2 c h1
end Q
namespace L2
open PySem PySem.Spec PyProof.Rows
section
variable{κ:Type}[DecidableEq κ]
noncomputable def gL(XV:List (κ×V))(k:κ):Option V:=(XV.find? λa=>decide (a.1=k)).map (·.2)
noncomputable def putK(XV:List (κ×V))(k:κ)(v:V):List (κ×V) :=
 if (XV.any λa=>decide (a.1=k))=Â then XV.map (λa=>if a.1=k then (a.1,v) else a) else XV++[(k,v)]
def ku{p:κ×V}{r:List (κ×V)}{k:κ}(e:p.1=k):gL (p::r) k=À p.2:=by simp[gL,XA,e]
def kr{p:κ×V}{r:List (κ×V)}{k:κ}(e:¬p.1=k):gL (p::r) k=gL r k:=by simp[gL,XA,e]
theorem rQ(k:κ):∀XV:List (κ×V),(XV.any λa=>decide (a.1=k))=(gL XV k).isSome
 |[]=>rfl
 |p::r=>by
  rw[Yy];by_cases e:p.1=k
  .simp only[ku e,Wr e,Ϙ,ņ]
  .rw[kr e,Wv e,υ];exact rQ k r
def ip(XV:List (κ×V))(k:κ)(v:V):(putK XV k v).length<=XV.length+1:=by
 unfold putK;split
 .rw[V2];lia
 .rw[WL,WN,ZU];lia
def ng.i_{o:Option V}{u:Option Å}(r:ng o u):o.isSome=u.isSome:=by
 cases o with
 |none=>cases u with
  |none=>rfl
  |some _=>exact(show False from r).elim
 |some _=>cases u with
  |none=>exact(show False from r).elim
  |some _=>rfl
def ng.getD{o:Option V}{u:Option Å}{d:V}{d':Å}(r:ng o u)(rd:RelV d d'):RelV (o.getD d) (u.getD d'):=by
 cases o with
 |none=>cases u with
  |none=>exact rd
  |some _=>exact(show False from r).elim
 |some _=>cases u with
  |none=>exact(show False from r).elim
  |some _=>exact r
def KV.val{XV:List (κ×V)}{vs:List (κ×Å)}(r:KV XV vs)(k:κ):ng (gL XV k) (Ĭ vs k):=by
 unfold KV at r
 induction r with
 |nil=>exact É
 |@cons p q ps a h t d =>
  obtain⟨h1,h2⟩:=h;by_cases e:p.1=k
  .have c:q.1=k:=h1.symm.trans e;have b:Ĭ (q::a) k=À q.2:=by simp[Ĭ,XA,c]
   rwa[ku e,b]
  .have c:¬q.1=k:=λz=>e (h1.trans z);have b:Ĭ (q::a) k=Ĭ a k:=by simp[Ĭ,XA,c]
   rwa[kr e,b]
def KV.any{XV:List (κ×V)}{vs:List (κ×Å)}(r:KV XV vs)(k:κ):(XV.any λa=>decide (a.1=k))=vs.any λa=>decide (a.1=k):=by
 unfold KV at r
 induction r with
 |nil=>rfl
 |cons h t b=>rw[Yy,Yy,b,h.1]
def KV.Gz{XV:List (κ×V)}{vs:List (κ×Å)}(r:KV XV vs)(k:κ){y:V}{u:Å}(c:RelV y u):
  KV (XV.map λa=>if a.1=k then (a.1,y) else a) (vs.map λa=>if a.1=k then (a.1,u) else a):=by
 unfold KV at r ⊢
 induction r with
 |nil=>exact .nil
 |@cons p q ps d h t b =>
  rw[Wb,Wb];refine .cons ?_ b;obtain⟨h1,h2⟩:=h;by_cases e:p.1=k
  .rw[V6 e,V6 (h1.symm.trans e)];exact#[h1,c]
  .rw[V4 e,V4 (λz=>e (h1.trans z))];exact#[h1,h2]
def KV.put{XV:List (κ×V)}{vs:List (κ×Å)}(r:KV XV vs)(k:κ){y:V}{u:Å}(a:RelV y u):KV (putK XV k y) (stored vs k u):=by
 unfold putK stored;rw[r.any k];by_cases e:(vs.any λb=>decide (b.1=k))=Â
 .rw[V6 e,V6 e];exact r.Gz k a
 .rw[V4 e,V4 e];exact Ľ r #[rfl,a]
def KV.length{XV:List (κ×V)}{vs:List (κ×Å)}(r:KV XV vs):XV.length=vs.length:=Yv r
end
variable{H H':Hp}{w:Û}{u:Å}{XV:List (List Key×V)}{y:V}{P:Ò}{xs:List (List Key×Æ×Å)}{s:Ç}
def xb{k:Key}(r:RelV (kV k) u):(c5 P w).is k u=Â:=by
 cases k with
 |inl i=>obtain⟨t,e⟩:=(show ∃t,u=ģ i t from r);subst e;exact x9 P w i t
 |inr x=>obtain⟨t,e⟩:=(show ∃t,u=Ŭ x t from r);subst e;exact xf P w x t
theorem ua{P:Ò}{w:Û}:∀{ks:List Key} {us:List Å},Vals (ks.map kV) us->ItemsAre (c5 P w) ks us
 |[],_,r=>by rw[Zc] at r;cases r;exact .nil
 |k::ks,_,r=>by
  rw[Wb] at r;cases r with
  |cons h t=>exact .cons (xb h) (ua t)
abbrev KT(H:Hp):List (List Key×V)->List (List Key×Æ×Å)->Prop:=Ø λp q=>p.1=q.1/\H q.2.1=À (.tup (p.1.map kV))/\RelV p.2 q.2.2
def KT.val{H:Hp}{XV:List (List Key×V)}{xs:List (List Key×Æ×Å)}(r:KT H XV xs)(k:List Key):ng (gL XV k) ((ā xs k).map (·.2)):=by
 induction r with
 |nil=>exact É
 |@cons p q ps a h t d =>
  obtain⟨h1,_,h2⟩:=h;by_cases e:p.1=k
  .have c:q.1=k:=h1.symm.trans e;have b:ā (q::a) k=À q.2:=by simp[ā,XA,c]
   rwa[ku e,b]
  .have c:¬q.1=k:=λz=>e (h1.trans z);have b:ā (q::a) k=ā a k:=by simp[ā,XA,c]
   rwa[kr e,b]
def KT.Gz(r:KT H XV xs)(k:List Key)(d:RelV y u):
  KT H (XV.map λa=>if a.1=k then (a.1,y) else a) (xs.map (putAt k u)):=by
 induction r with
 |nil=>exact .nil
 |@cons p q ps f h t c =>
  rw[Wb,Wb];refine .cons ?_ c;obtain⟨h1,h2,b⟩:=h;unfold putAt;by_cases e:p.1=k
  .rw[V6 e,V6 (h1.symm.trans e)];exact#[h1,h2,d]
  .rw[V4 e,V4 (λz=>e (h1.trans z))];exact#[h1,h2,b]
def KT.put(r:KT H XV xs)(k:List Key){b:Æ}(d:H b=À (.tup (k.map kV)))(a:RelV y u):
  KT H (putK XV k y) (Ļ xs k b u):=by
 have e:(XV.any λc=>decide (c.1=k))=(ā xs k).isSome:=by
  rw[rQ,(r.val k).i_,YT]
 unfold putK Ļ;rw[e];by_cases q:(ā xs k).isSome=Â
 .rw[V6 q,V6 q];exact r.Gz k a
 .rw[V4 q,V4 q];exact Ľ r #[rfl,d,a]
def KT.keeps(r:KT H XV xs)(a:∀b ys,H b=À (.tup ys)->H' b=À (.tup ys)):KT H' XV xs :=
 Paired.EO r λ_ _ z=>#[z.1,a _ _ z.2.1,z.2.2]
def Ag{k:Int×Bool}{us:List Å}(r:Vals (kB k) us):ItemsAre (Ai P w) (kl k) us:=by
 cases r with
 |cons h1 b =>
  cases b with
  |cons h2 a =>
   cases a;obtain⟨t,rfl⟩:=(show ∃t,_=ģ k.1 t from h1);cases (show _=Į k.2 from h2);exact .cons (by show(k.1==k.1)=Â;simp) (.cons (by show(bI k.2==bI k.2)=Â;simp) .nil)
abbrev KB(H:Hp):List ((Int×Bool)×V)->List ((Int×Bool)×Æ×Å)->Prop:=Ø λp q=>p.1=q.1/\H q.2.1=À (.tup (kB p.1))/\RelV p.2 q.2.2
def KB.val{H:Hp}{XV:List ((Int×Bool)×V)}{xs:List ((Int×Bool)×Æ×Å)}(r:KB H XV xs)(k:Int×Bool):ng (gL XV k) ((ā xs k).map (·.2)):=by
 induction r with
 |nil=>exact É
 |@cons p q ps a h t d =>
  obtain⟨h1,_,h2⟩:=h;by_cases e:p.1=k
  .have c:q.1=k:=h1.symm.trans e;have b:ā (q::a) k=À q.2:=by simp[ā,XA,c]
   rwa[ku e,b]
  .have c:¬q.1=k:=λz=>e (h1.trans z);have b:ā (q::a) k=ā a k:=by simp[ā,XA,c]
   rwa[kr e,b]
def KB.Gz{XV:List ((Int×Bool)×V)}{xs:List ((Int×Bool)×Æ×Å)}(r:KB H XV xs)(k:Int×Bool)(d:RelV y u):
  KB H (XV.map λa=>if a.1=k then (a.1,y) else a) (xs.map (putAt k u)):=by
 induction r with
 |nil=>exact .nil
 |@cons p q ps f h t b =>
  rw[Wb,Wb];refine .cons ?_ b;obtain⟨h1,h2,c⟩:=h;unfold putAt;by_cases e:p.1=k
  .rw[V6 e,V6 (h1.symm.trans e)];exact#[h1,h2,d]
  .rw[V4 e,V4 (λz=>e (h1.trans z))];exact#[h1,h2,c]
def KB.put{XV:List ((Int×Bool)×V)}{xs:List ((Int×Bool)×Æ×Å)}(r:KB H XV xs)(k:Int×Bool){b:Æ}(c:H b=À (.tup (kB k)))(a:RelV y u):
  KB H (putK XV k y) (Ļ xs k b u):=by
 have e:(XV.any λd=>decide (d.1=k))=(ā xs k).isSome:=by
  rw[rQ,(r.val k).i_,YT]
 unfold putK Ļ;rw[e];by_cases q:(ā xs k).isSome=Â
 .rw[V6 q,V6 q];exact r.Gz k a
 .rw[V4 q,V4 q];exact Ľ r #[rfl,c,a]
def KB.keeps{XV:List ((Int×Bool)×V)}{xs:List ((Int×Bool)×Æ×Å)}(r:KB H XV xs)(a:∀b ys,H b=À (.tup ys)->H' b=À (.tup ys)):KB H' XV xs :=
 Paired.EO r λ_ _ z=>#[z.1,a _ _ z.2.1,z.2.2]
section
variable{P:Ò}{w:Û}{H:Hp}{h:Ý}{a:Æ}
def Bv{u:HO}(ok:lz P w H h)(e:Rd H a u):bT P w H h a u:=e.ok ok
def ur{XV:List (Key×V)}(ok:lz P w H h)(e:Rd H a (.dK XV)):XV.length<=sizeLine/\(a==ê)=Á/\∃vs,KV XV vs/\h.DictOf (c5 P w) a vs :=
 show bT P w H h a (.dK XV) from Bv ok e
def Oo{XV:List (Key×V)}(ok:lz P w H h)(e:H a=À (.dK XV)):XV.length<=sizeLine/\(a==ê)=Á/\∃vs,KV XV vs/\h.DictOf (c5 P w) a vs:=ur ok (.inl e)
def qT{ks:List Key}(ok:lz P w H h)(e:H a=À (.tup (ks.map kV))):(Ğ (c5 P w)).is h ks a:=by
 obtain⟨_,XP,r,o,h1,h2,n,b⟩:=(show bT P w H h a (.tup (ks.map kV)) from ok a _ e);exact#[o,XP.toArray,n,h1,h2,b,by simpa using ua r]
def ub(ok:lz P w H h)(e:Rd H a (.dT XV)):XV.length<=sizeLine/\(a==ê)=Á /\
  ∃xs,KT H XV xs/\h.DictOfH (Ğ (c5 P w)) a xs:=by
 obtain⟨z,y,xs,r,o,es,ep,h1,h2,g,f,i⟩:=(show bT P w H h a (.dT XV) from Bv ok e);refine#[z,y,xs,r,o,es,ep,h1,h2,g,f,λx b=>?_,i]
 have all:∀{l:List (List Key×V)} {m:List (List Key×Æ×Å)},KT H l m->∀x∈m,(Ğ (c5 P w)).is h x.1 x.2.1:=by
  intro l m q
  induction q with
  |nil=>intro x b;exact nomatch b
  |@cons p q ps j c t d =>
   intro x b;rcases V8.mp b with e|b
   .subst e;exact qT ok (by rw[<-c.1];exact c.2.1)
   .exact d x b
 exact all r x b
def OO(ok:lz P w H h)(e:H a=À (.dT XV)):XV.length<=sizeLine/\(a==ê)=Á /\
  ∃xs,KT H XV xs/\h.DictOfH (Ğ (c5 P w)) a xs:=ub ok (.inl e)
def jq{ks:Int×Bool}(ok:lz P w H h)(e:H a=À (.tup (kB ks))):(fc P w).is h ks a:=by
 obtain⟨_,XP,r,o,h1,h2,n,b⟩:=(show bT P w H h a (.tup (kB ks)) from ok a _ e);exact#[o,XP.toArray,n,h1,h2,b,by simpa using Ag r]
def t7{XV:List ((Int×Bool)×V)}(ok:lz P w H h)(e:Rd H a (.dB XV)):XV.length<=sizeLine/\(a==ê)=Á /\
  ∃xs,KB H XV xs/\h.DictOfH (fc P w) a xs:=by
 obtain⟨z,y,xs,r,o,es,ep,h1,h2,g,f,i⟩:=(show bT P w H h a (.dB XV) from Bv ok e);refine#[z,y,xs,r,o,es,ep,h1,h2,g,f,λx b=>?_,i]
 have all:∀{l:List ((Int×Bool)×V)} {m:List ((Int×Bool)×Æ×Å)},KB H l m->∀x∈m,(fc P w).is h x.1 x.2.1:=by
  intro l m q
  induction q with
  |nil=>intro x b;exact nomatch b
  |@cons p q ps j c t d =>
   intro x b;rcases V8.mp b with e|b
   .subst e;exact jq ok (by rw[<-c.1];exact c.2.1)
   .exact d x b
 exact all r x b
def F4{XV:List ((Int×Bool)×V)}(ok:lz P w H h)(e:H a=À (.dB XV)):XV.length<=sizeLine/\(a==ê)=Á /\
  ∃xs,KB H XV xs/\h.DictOfH (fc P w) a xs:=t7 ok (.inl e)
end
def zH(H:Hp)(a:Æ)(y:V)(r:Option V):Prop :=
 (∃XV k,Rd H a (.dK XV)/\y=kV k/\r=gL XV k)\/(∃XV k b,Rd H a (.dT XV)/\y=.ref b/\H b=À (.tup (k.map kV))/\r=gL XV k) \/
 ∃XV k b,Rd H a (.dB XV)/\y=.ref b/\H b=À (.tup (kB k))/\r=gL XV k
def LW(H:Hp)(a:Æ)(y v:V)(H':Hp):Prop :=
 (∃XV k,H a=À (.dK XV)/\y=kV k/\XV.length<sizeLine/\H'=upd H a (.dK (putK XV k v))) \/
 (∃XV k b,H a=À (.dT XV)/\y=.ref b/\H b=À (.tup (k.map kV))/\XV.length<sizeLine/\H'=upd H a (.dT (putK XV k v))) \/
 ∃XV k b,H a=À (.dB XV)/\y=.ref b/\H b=À (.tup (kB k))/\XV.length<sizeLine/\H'=upd H a (.dB (putK XV k v))
section
variable{X:Cx}{ZB:List (Æ×ò)}{Y:St}{H:Hp}{s:Ç}{a:Æ}{y v:V}{u r:Å}{o:Option V}{A:á}{E:Å->Ç->Prop}
def Inv.big(I:Inv X ZB Y H s):ê<s.heap.objs.size:=by
 have h:Ê<s.heap.objs.size:=(I.mod.glob.keeps I.bk).lt;exact Nat.lt_trans .b h
def Cw{Q:Å->Ç->Prop}(r:A.units+1<ù)(I:Inv X ZB Y H s)(g:zH H a y (À v))(n:RelV y u)(h:∀d s',Inv X ZB Y H s'->RelV v d->Q d s'):
  Î .E A (ļ (.ref a) u) Q E s:=by
 rcases g with⟨XV,k,e,j,l⟩|⟨XV,k,b,e,j,m,l⟩|⟨XV,k,b,e,j,m,l⟩
 .subst j;obtain⟨z,q,vs,rel,dd⟩:=ur I.hok e;obtain⟨d,i,c⟩:=ng.some_of (v:=v) (o:=Ĭ vs k) (by rw[l];exact rel.val k);exact wpAny_getItem_of (xb n) dd.mapOf i (h d _ (I.tok _) c)
 .subst j;cases (show u=ß b from n);obtain⟨z,q,xs,rel,dd⟩:=ub I.hok e;obtain⟨d,i,c⟩:=ng.some_of (v:=v) (o:=(ā xs k).map (·.2)) (by rw[l];exact rel.val k);obtain⟨p,hp,f⟩:=X3.mp i;refine Φ (Zh r) (qT I.hok m) dd hp ?_;rw[f];exact h d _ (I.tok _) c
 .subst j;cases (show u=ß b from n);obtain⟨z,q,xs,rel,dd⟩:=t7 I.hok e;obtain⟨d,i,c⟩:=ng.some_of (v:=v) (o:=(ā xs k).map (·.2)) (by rw[l];exact rel.val k);obtain⟨p,hp,f⟩:=X3.mp i;refine Φ (d7 r) (jq I.hok m) dd hp ?_;rw[f];exact h d _ (I.tok _) c
def PJ{Q:Å->Ç->Prop}(j:A.units+1<ù)(I:Inv X ZB Y H s)(g:zH H a y o)(i:RelV y u)(h:∀s',Inv X ZB Y H s'->Q (.bool o.isSome) s'):
  Î .E A (ä .In u (.ref a)) Q E s:=by
 rcases g with⟨XV,k,e,d,l⟩|⟨XV,k,b,e,d,f,l⟩|⟨XV,k,b,e,d,f,l⟩
 .subst d;obtain⟨z,c,vs,rel,dd⟩:=ur I.hok e;refine wpAny_in_of (xb i) c dd.mapOf ?_;rw[<-(rel.val k).i_,<-l];exact h _ (I.tok _)
 .subst d;cases (show u=ß b from i);obtain⟨z,c,xs,rel,dd⟩:=ub I.hok e;refine wpAny_in_heap (Zh j) (qT I.hok f) c dd ?_;have q:=(rel.val k).i_;rw[YT] at q;rw[<-q,<-l];exact h _ (I.tok _)
 .subst d;cases (show u=ß b from i);obtain⟨z,c,xs,rel,dd⟩:=t7 I.hok e;refine wpAny_in_heap (d7 j) (jq I.hok f) c dd ?_;have q:=(rel.val k).i_;rw[YT] at q;rw[<-q,<-l];exact h _ (I.tok _)
def m8{h':Ý}{t':Nat}{ob:HO}(I:Inv X ZB Y H s)(c:NT (H a))(d:ć a s.heap h')(he:∃q,h'.get? a=À q)(new:bT X.prog X.w (upd H a ob) h' a ob):
  Inv X ZB Y (upd H a ob) {s with heap:=h',toks:=t'} :=
 I.write (x:=a) (e:=a) c (.inl rfl) (λb q f z=>(d.2 b f).trans z) he new
def LR{h':Ý}{XV:List (Key×V)}{vs:List (Key×Å)}(z:XV.length<=sizeLine)(b:(a==ê)=Á)(rel:KV XV vs)(dd:h'.DictOf (c5 P w) a vs):
  bT P w H' h' a (.dK XV):=#[z,b,vs,rel,dd]
def Ca{Q:Unit->Ç->Prop}(F:A.units+1<ù)(I:Inv X ZB Y H s)(g:LW H a y v H')(C:RelV y u)(x:RelV v r)(h:∀s',Inv X ZB Y H' s'->Q () s'):
  Î .E A (ϊ (.ref a) u r) Q E s:=by
 rcases g with⟨XV,k,e,n,l,m⟩|⟨XV,k,b,e,n,o,l,m⟩|⟨XV,k,b,e,n,o,l,m⟩
 .subst n m;obtain⟨z,j,vs,rel,dd⟩:=Oo I.hok e;have hz:vs.length<=sizeLine:=by rwa[<-rel.length]
  have i:(putK XV k v).length<=sizeLine:=by have:=ip XV k v;lia
  refine wpAny_setItem_pairs (hsz:=hz) (xb C) dd λh' d p=>h _ ?_;have he:∃q,h'.get? a=À q:=let #[q,_,_,f,_]:=d;#[q,f];exact m8 I (by rw[e];exact É) p he (LR i j (rel.put k x) d)
 .subst n m;cases (show u=ß b from C);obtain⟨z,j,xs,rel,dd⟩:=OO I.hok e;have hz:xs.length<=sizeLine:=by rwa[<-Yv rel]
  have i:(putK XV k v).length<=sizeLine:=by have:=ip XV k v;lia
  refine Τ (hsz:=hz) (Zh F) (qT I.hok o) dd λh' d p=>h _ ?_;obtain⟨q,es,ep,f,h2,t,D,_,B⟩:=d;refine m8 I (by rw[e];exact É) p #[q,f] #[i,j,_,(rel.put k o x).keeps λc ys ec=>?_,q,es,ep,f,h2,t,D,B];rwa[ax (AZ ec e (λz=>nomatch z))]
 .subst n m;cases (show u=ß b from C);obtain⟨z,j,xs,rel,dd⟩:=F4 I.hok e;have hz:xs.length<=sizeLine:=by rwa[<-Yv rel]
  have i:(putK XV k v).length<=sizeLine:=by have:=ip XV k v;lia
  refine Τ (hsz:=hz) (d7 F) (jq I.hok o) dd λh' d p=>h _ ?_;obtain⟨q,es,ep,f,h2,t,D,_,B⟩:=d;refine m8 I (by rw[e];exact É) p #[q,f] #[i,j,_,(rel.put k o x).keeps λc ys ec=>?_,q,es,ep,f,h2,t,D,B];rwa[ax (AZ ec e (λz=>nomatch z))]
variable{XV:List (Key×V)}{k:Key}
end
def OZ(i:Õ):Prop:=∀a b,ĵ i Á a b=operate [a,b] (ļ a b)
def Ib{prog:Ò}{A:á}{E:Å->Ç->Prop}{env:ė}{value slice:Õ}{pos:é}{T id:String}{Q:Å->Ç->Prop}
  (f:Ψ (.type T) "__getitem__"=pure (À (.builtin id))) (j:OZ slice)
  (h:Î (Ñ prog w) A (Ö value env) (λo c=>Î (Ñ prog w) A (Ö slice env) (λi a=>a.TypeIs o T/\Î (Ñ prog w) A (ļ o i) Q E a) E c) E s):
  Î (Ñ prog w) A (Ö (.Subscript value slice pos) env) Q E s:=by
 refine ο (Xl h (λo c g=>Xl g (λi a b=>?_) λ_ _ x=>x) λ_ _ x=>x);obtain⟨e,b⟩:=b;unfold ŏ;refine V5 ?_;rw[getitemInPython_of_ne e.not_modules];refine V5 (wpAny_specialOf e f ?_)
 have fin:Î (Ñ prog w) A (ĵ slice Á o i) (λr d=>Î (Ñ prog w) A (letTemporaryGo value o r >>= λ_=>pure r) Q E d) E a:=by
  rw[j o i];exact wpAny_operating (Xl b (λr d k=>V5 (wpAny_letTemporaryGo (Wi k))) λ_ _ x=>x)
 first
  |exact Wi (V5 fin)
  |exact V5 (Wi (V5 fin))
  |exact V5 fin
def xt{X:Cx}{ZB:List (Æ×ò)}{Y:St}{a:Æ}{o:Option V}(I:Inv X ZB Y H s)(g:zH H a y o):s.TypeIs (.ref a) "dict":=by
 rcases g with⟨XV,k,e,_,_⟩|⟨XV,k,b,e,_,_,_⟩|⟨XV,k,b,e,_,_,_⟩
 .obtain⟨_,_,vs,_,dd⟩:=ur I.hok e;exact dd.typeIs
 .obtain⟨_,_,xs,_,dd⟩:=ub I.hok e;exact dd.typeIs
 .obtain⟨_,_,xs,_,dd⟩:=t7 I.hok e;exact dd.typeIs
def Oc(td ty:TE):TE:=λY H Q=>td Y H λx H1=>ty Y H1 λy H2=>∃a v,x=.ref a/\zH H2 a y (À v)/\Q v H2
def NI(td ty tv:TE):TS:=λD Y H=>tv Y H λv H1=>td Y H1 λx H2=>ty Y H2 λy c=>∃a b,x=.ref a/\LW c a y v b/\D.nx Y b
section
variable{X:Cx}{o i e value:Õ}{pos pos' tpos:é}{td ty tv:TE}
def HF(l:X.A.units+1<ù)(f:PE X o td)(hi:PE X i ty)(m:OZ i):PE X (.Subscript o i pos) (Oc td ty):=by
 intro ZB s Y H Q I h;refine Ib PySem.F.slot_dict_getitem.lookup m (b9 (f ZB s Y H _ I h) λu p ⟨x,H1,d,e,q1⟩=>b9 (hi ZB p Y H1 _ d q1) λt r ⟨y,H2,c,n,a,v,ex,g,j⟩=>?_);subst ex;obtain rfl:u=ß a:=e;exact#[xt c g,Cw l c g n λq w k b=>#[v,H2,k,b,j]]
def JD(m:X.A.units+1<ù)(d:PE X o td)(hi:PE X i ty)(b:PE X value tv)(B:ï value (À (.Subscript o i pos')) pos.line X.env=pure Á):
  PS X (.Assign [.Subscript o i pos'] value pos) (NI td ty tv):=by
 intro ZB s Y H D I h;refine wpAny_Assign_Subscript (b9 (b ZB s Y H _ I h) λr p ⟨v,H1,t,j,q1⟩=>b9 (d ZB p Y H1 _ t q1) λu e ⟨x,H2,z,w,k⟩=>b9 (hi ZB e Y H2 _ z k) λE G ⟨y,C,l,n,a,q,ex,g,c⟩=>?_) B;subst ex;obtain rfl:u=ß a:=w;exact Ca m l g n j λF f=>#[Y,q,f,c]
end
def yL(h:Ý)(a:ê<h.objs.size):bT P w H (h.push {cls:=.type "dict",data:=.dict #[]}) h.objs.size (.dB []) :=
 #[XB _,ZZ.mpr (Xm (WQ a)),[],.nil,_,#[],0,WS _ rfl,#[rfl,rfl,rfl],rfl,rfl,Yk]
def MS:TE:=λ_ H Q=>∀p,H p=none->Q (.ref p) (upd H p (.dB []))
section
variable{X:Cx}{pos:é}
def GH:PE X (.Dict [] [] pos) MS:=λZB s Y H Q I h =>
 wpAny_Dict_empty #[V.ref s.heap.objs.size,_,I.laid (a:=s.heap.objs.size) (o:=.dB []) (t':=s.toks) (λ_ _ q=>Ww _ q) (V_ _) (yL s.heap I.big),rfl,h _ (I.hok.fresh (V_ _))]
end
structure M1(X:Cx)(o:Õ)(m:Í)(apos:é)(e:Õ)(cpos:é):Prop where
 base:Ā o m X.env (Ö o X.env)=Ö o X.env
 few:((æ cpos (Ä [e] X.env)).all (λx=>!x.1)&&(Ń cpos (Ĝ [] X.env)).all (λx=>x.1.isSome)
  && decide (([e]:List Õ).length+([]:List Ď).length+(if ([]:List Ď).isEmpty then 0 else 1)<30))=Â
 line:(apos.endLine==cpos.line)=Â
 trees:æ cpos (Ä [e] X.env)=[(Á,Ö e X.env)]
structure M2(X:Cx)(o:Õ)(m:Í)(apos:é)(e f:Õ)(cpos:é):Prop where
 base:Ā o m X.env (Ö o X.env)=Ö o X.env
 few:((æ cpos (Ä [e,f] X.env)).all (λx=>!x.1)&&(Ń cpos (Ĝ [] X.env)).all (λx=>x.1.isSome)
  && decide (([e,f]:List Õ).length+([]:List Ď).length+(if ([]:List Ď).isEmpty then 0 else 1)<30))=Â
 line:(apos.endLine==cpos.line)=Â
 trees:æ cpos (Ä [e,f] X.env)=[(Á,Ö e X.env),(Á,Ö f X.env)]
def QE(H:Hp)(a:Æ):Prop:=(∃XV,Rd H a (.dK XV))\/(∃XV,Rd H a (.dT XV))\/∃XV,Rd H a (.dB XV)
def EH{X:Cx}{ZB:List (Æ×ò)}{Y:St}{a:Æ}(I:Inv X ZB Y H s)(d:QE H a):
  s.TypeIs (.ref a) "dict"/\(∀b,ß a=.ref b->∃ob,s.heap.get? b=À ob/\ob.dict=none)/\(a==ê)=Á:=by
 rcases d with⟨XV,e⟩|⟨XV,e⟩|⟨XV,e⟩
 .obtain⟨_,c,vs,_,dd⟩:=ur I.hok e;refine#[dd.typeIs,λb q=>?_,c];cases q;obtain⟨ob,_,_,h1,h2,_⟩:=dd;exact#[ob,h1,h2.2.1]
 .obtain⟨_,c,xs,_,dd⟩:=ub I.hok e;refine#[dd.typeIs,λb q=>?_,c];cases q;obtain⟨ob,_,_,h1,h2,_⟩:=dd;exact#[ob,h1,h2.2.1]
 .obtain⟨_,c,xs,_,dd⟩:=t7 I.hok e;refine#[dd.typeIs,λb q=>?_,c];cases q;obtain⟨ob,_,_,h1,h2,_⟩:=dd;exact#[ob,h1,h2.2.1]
section
variable{X:Cx}{ZB:List (Æ×ò)}{Y:St}{H:Hp}{s:Ç}{a:Æ}{y d:V}{u r:Å}{o:Option V}{A:á}{E:Å->Ç->Prop}
def Le{Q:Å->Ç->Prop}(m:A.units+1<ù)(I:Inv X ZB Y H s)(g:zH H a y o)(i:RelV y u)(h:∀j s',Inv X ZB Y H s'->RelV (o.getD .non) j->Q j s'):
  Î .E A (call (.builtin "dict.get") [.ref a,u]) Q E s:=by
 rcases g with⟨XV,k,e,d,l⟩|⟨XV,k,b,e,d,f,l⟩|⟨XV,k,b,e,d,f,l⟩
 .subst d;obtain⟨z,c,vs,rel,dd⟩:=ur I.hok e;refine aaH YW dd.typeIs Zy (Zl _ _) (meets_dict_get (c5 X.prog X.w) a (xb i) c) #[_,dd.mapOf,h _ _ (I.tok _) ?_];rw[l];exact(rel.val k).getD rfl
 .subst d;cases (show u=ß b from i);obtain⟨z,c,xs,rel,dd⟩:=ub I.hok e;refine aaH YW dd.typeIs Zy (Zl _ _) (Ϲ (Ğ (c5 X.prog X.w)) a b c) #[Zh m,k,xs,qT I.hok f,dd,h _ _ (I.tok _) ?_];rw[l];exact(rel.val k).getD rfl
 .subst d;cases (show u=ß b from i);obtain⟨z,c,xs,rel,dd⟩:=t7 I.hok e;refine aaH YW dd.typeIs Zy (Zl _ _) (Ϲ (fc X.prog X.w) a b c) #[d7 m,k,xs,jq I.hok f,dd,h _ _ (I.tok _) ?_];rw[l];exact(rel.val k).getD rfl
end
def MF(td ty:TE):TE:=λY H Q=>td Y H λx H1=>∃a,x=.ref a/\QE H1 a/\ty Y H1 λy H2=>∃o,zH H2 a y o/\Q (o.getD .non) H2
section
variable{X:Cx}{o e f:Õ}{apos cpos:é}{td ty tx:TE}
def DW(p:X.A.units+1<ù)(j:PE X o td)(he:PE X e ty)(m:M1 X o "get" apos e cpos):PE X (.Call (.Attribute o "get" apos) [e] [] cpos) (MF td ty):=by
 intro ZB s Y H Q I h;refine ψ m.base m.few m.line aaM YW PySem.F.type_dict_get (b9 (j ZB s Y H _ I h) λu t ⟨x,H1,c,i,a,ex,d,q1⟩=>?_);subst ex;obtain rfl:u=ß a:=i;obtain⟨r,f,_⟩:=EH c d;refine#[r,f,?_];rw[m.trees];refine YN rfl (YZ (Zb (b9 (he ZB t Y H1 _ c q1) λz w ⟨y,H2,l,q,B,g,k⟩=>aao ?_)));exact Le p l g q λv C n b=>#[_,H2,n,b,k]
variable{ZB:List (Æ×ò)}{Y:St}{H:Hp}{s:Ç}{a:Æ}{XV:List (Key×V)}{A:á}{E:Å->Ç->Prop}
variable{y:V}{u:Å}
end
end L2
namespace L2.EP
open PySem PySem.Spec PyProof.Rows
section
variable{X:Cx}{U:aF}{D:GD}{M β γ:Type}[Py M][Py β][Py γ]{e e1 e2 ek:Õ}{b b1 b2:Bool}{pos:é}{rest st:List Ð}
def LM(c:X.A.units+1<ù):j8 X (ä .In) (λx y H Q=>∃a o,y=.ref a/\zH H a x o/\Q (.bl o.isSome) H):=by
 intro ZB s Y H x y v u Q I b d h;obtain⟨a,o,rfl,g,q⟩:=h;cases d;exact PJ c I g b λs' e=>#[.bl _,H,e,rfl,q]
def Ku(i j:Nat){x y:Í}{a p2 n:é}{k:Nat}(d:X.N.Nodup)(g:autoParam (X.calm=Â) zra)(hi:autoParam (X.N[i]?=À x) zra)(f:autoParam (X.N[j]?=À y) zra)
  (e:autoParam (Loc X.env.scope x) zri) (l:autoParam (Loc X.env.scope y) zri)
  (p:autoParam (X.fn x=Â\/X.env.scope.names.lookup x=À .local) zrd) (c:autoParam (X.fn y=Â\/X.env.scope.names.lookup y=À .local) zrd)
  (q:autoParam ((ó [.Name x a,.Name y p2] X.env).length=2) zra)
  (o:autoParam ((ó [.Name x a,.Name y p2] X.env).findIdx? (·.1)=none) zra) (m:autoParam (ó [.Name x a,.Name y p2] X.env=(Á,ď (.Name x a) X.env)::ó [.Name y p2] X.env) zra) (h:autoParam (ó [.Name y p2] X.env=(Á,ď (.Name y p2) X.env)::ó [] X.env) zra):
  G X (.Tuple [.Name x a,.Name y p2] k n) (HV X.K 2 (rK (kF i) (rK (kF j) HX))) (M×β) (λb u U=>(U.set i (À (.val b u.1))).set j (À (.val b u.2))) (λk=>k=i\/k=j):=by stop exact#[GJ g (nY (nk d hi e p) (nY (nk d f l c) Bc)),iu i j]
end
variable{H:Hp}{a C:Æ}{K:Ã}{vs:Array Å}{d:Ï}{k:Int}{x:Í}{A:á}{s:Ç}{Y:St}{ZB:List (Æ×ò)}{α:Model}
def Bd.wk:Bd->Bd
 |@Bd.val _ _ _ a=>.val Á a
 |@Bd.own _ _ _ as=>.own Á as
 |@Bd.dpo _ _ a=>.dpo a
noncomputable def M_(U:aF):aF:=U.map (Option.map Bd.wk)
def A4{U:aF}{i:Nat}{g:Bd}(h:(M_ U)[i]?=À (À g)):∃a,U[i]?=À (À a)/\g=a.wk:=by
 unfold M_ at h;rw[WJ] at h;cases e:U[i]? with
 |none=>rw[e] at h;cases h
 |some o =>
  cases o with
  |none=>rw[e] at h;cases h
  |some a=>rw[e] at h;cases h;exact#[a,rfl,rfl]
section
variable{K:Ã}{H0 H H':Hp}{F O:Æ->Prop}{U:aF}{Y:St}{a:Æ}{u:HO}{XV:List (Key×V)}{o:ò}
def off_ne{H H':Hp}(ne:∀b,b≠a->H' b=H b):∀b,b≠a->off H' O b=off H O b:=λb c=>by
 by_cases h:O b
 .rw[ni h,ni h]
 .rw[aN h,aN h,ne b c]
variable{X:Cx}{D:GD}{M β γ:Type}[Py M][Py β][Py γ]{e e1 e2 tg:Õ}{b b1 b2:Bool}{pos:é}{rest body:List Ð}
variable{e3:Õ}{b3:Bool}{st:List Ð}
def eE{xs:List M}{i:Int}{a:M}(ha:E X U e1 b (Jr.mk xs))(o:E X U e2 b2 i)(h:tY xs i=À a)(s:autoParam (qe e2) zrj):E X U (.Subscript e1 e2 pos) b a:=by
 stop
  exact aG (B8 Aa ha o s) λY H Q ⟨H0,F,O,S,q⟩=>#[H0,F,O,S,λv H1 g u=>#[H0,F,O,S.go g,λw H2 c m=>by
    obtain⟨p,vs,e,sq,r⟩:=u;obtain⟨j,h1,h2,y,A,z⟩:=qw h;obtain⟨x,n,l⟩:=lS r h2;refine#[p,vs,i,x,e,m,(qJ (aq _ _) (qJ (aj c) sq)).t,?_,q x H2 (g.trans c) (aw (aj c) l)];unfold tY at h ⊢;rw[bq r];cases d:DH xs.length i with
    |none=>rw[d] at h;cases h
    |some k =>
     have f:=(qE d).1;rw[h1] at f;cases f
     exact n]]
variable{ek:Õ}
def zo(i:Nat){as:List M}{a:M}{p c:é}(t:U[i]?=À (À (.own b as)))(G:E X U ek b2 k)(he:E X U e b a)(P:0<=k)(z:k<as.length)(h:S X (U.set i (À (.own b (as.set k.toNat a)))) rest D)(hi:autoParam (X.N[i]?=À x) zra)
  (A:autoParam (Hq X.env.scope x) zre) (B:autoParam ((x==("__debug__":Í))=Á) zrb) (s:autoParam ((x==("__classdict__":Í))=Á) zrb)
  (ha:∀v,ď (.Subscript (.Name x p) ek c) X.env v=(do
   let g <-Ė [v] (Ö (.Name x p) X.env);let r <-Ė [v,g] (Ö ek X.env)
   ω c
   Ė [v,g,r] (ϊ g r v)
   release [v,g,r] []):=by intro _;rfl)
  (W:autoParam (swapsWithSole [.Subscript (.Name x p) ek c] e pos.line X.env=pure Á) zra) (Γ:autoParam (swappedStores [.Subscript (.Name x p) ek c] e X.env=pure none) zra)
  (h1:autoParam ((ó [.Subscript (.Name x p) ek c] X.env).map (·.2)=[ď (.Subscript (.Name x p) ek c) X.env]) zra):S X U (.Assign [.Subscript (.Name x p) ek c] e pos::rest) D:=by
 stop
  exact dy (dE (MK he (MB (pv i hi A B s) G set_list ha) W Γ h1) λDe Y H ⟨H0,F,O,Z,n,_⟩=>#[H0,F,O,Z,λu H1 j ru=>by
    obtain⟨v,R,f,_,_,_⟩:=(Z.go j).write t É;refine#[v,f,H0,F,O,Z.go j,λy H3 l I=>?_];obtain⟨K,R,d,⟨q,ys,e1,o,σ,w⟩,T,wr⟩:=(Z.go (j.trans l)).write t É;rw[f] at d;have ev:v=K:=Wj (Wj d);subst ev;have J:y=V.int k:=I;subst J;have L:k<ys.length:=by rwa[bq w]
    have m:DH ys.length k=À k.toNat:=by
     unfold DH;rw[V6 P,V6 .a]
    refine#[q,ys,k,k.toNat,e1,rfl,σ,m,?_]
    obtain⟨α,Q⟩:=wr q (ys.set k.toNat u) (À (.own b (as.set k.toNat a))) o λC e'=>by
     cases e';refine#[É,q,_,e1,o,aE,?_];rw[jO (T q o).1];exact FN (aw (aj l) ru) k.toNat w
    exact n _ _ _ _ (by rw[Q];exact aj (j.trans l)) α h])
variable{elt target iter:Õ}{b':Bool}{YP:ú}{tn:List Í}{js:List Nat}{g:TG}{tc:Nat->Prop}{put:Bool->M->aF->aF}{as:List M}
def KI{rows:List (List β)}(h:E X U e b (IF.mk rows)):E X U e b rows:=by stop exact aG h λY H Q ⟨H0,F,O,Z,q⟩=>#[H0,F,O,Z,λv H1 c a=>q v H1 c (HH a)]
def wY{f:M->List β}(tn:List Í)(js:List Nat)(S:e7 X YP tn js)(he:EI X U target iter b as)(d:GP g M put tc X.K)(l:∀C s H fp,PG .G target g)(c:∀j,tc j->j<tn.length)
  (m:∀(i:Nat) (a:M),as[i]?=À a->∀C s H fp,EN .G (put b a (cΓ U tn js)) elt (f a)) (e:as.length<=1000) (k:autoParam (X.calm=Â) zra)
  (n:autoParam (∀x,Ù iter X.env x=pure x) zrc):E X U (.ListComp elt [#[target,iter,[],0]] YP pos) Â (IF.mk (as.map f)):=by stop obtain⟨wi,hi,o⟩:=he;exact aG (GO S k hi (λC s H fp=>#[l C s H fp,u5,Li]) n) λY H Q ⟨H0,F,O,Z,q⟩=>Gv o d c m e Z λv H' s' h=>q v H' s' (kK Z.same h)
variable{δ:Type}[Py δ]{p:é}{k:Nat}{name:Í}{ps:List Í}
def JS{a:M}(h:EN X U e a):E X U e Â a:=by stop exact aG h λY H Q ⟨H0,F,O,Z,q⟩=>#[H0,F,O,Z,λv H1 c b=>q v H1 c (kK Z.same b)]
end
abbrev Xo(C:Æ)(vs:Array Å):ò:={cls:=.ref C,data:=.fields vs}
structure yW(fs:List Æ)(ch:Æ->Prop)(h h':Ý):Prop where
 keep:∀b o,h.get? b=À o->b∉fs->¬ch b->h'.get? b=À o
 slot:∀b o,h.get? b=À o->¬ch b->∃sl,h'.get? b=À {o with slots:=sl}
def Tr(h:Ý)(C e:Æ)(T:Option Æ):Prop:=∃vs,h.get? e=À (Xo C vs)/\match T with
 |none=>vs[1]?=À .none
 |some t=>vs[1]?=À (.ref t)/\t≠e/\∃b a,h.get? t=À b/\b.data=.fields a/\a[3]?=À .none
section
variable{α:Model}{A:á}{E:Å->Ç->Prop}{s:Ç}{base:Ý}{env:ė}{outer:List ė}{L C e:Æ}
def B9{head:Å}{f:Bool}{Q:Unit->Ç->Prop}(j:A.frames=À (env::outer))(k:s.heap.FunFrames base (env::outer))(x:env.frame=À L)
  (he:s.heap.get? e=À (Xo C vs)) (hz:1<vs.size)
  (h:∀h' T m l,yW (s_ (env::outer)) (·=e) s.heap h'->h'.get? e=À (Xo C (vs.setIfInBounds 1 (.ref T)))->T≠e->s.heap.objs.size<=T->h'.get? T=À m->m.data=.fields l->l[3]?=À (Ē L)->Q () {s with heap:=h'}):
  Î α A (do let a <-frameOf env;let pl <-entryPlaceOf L f;let b <-Ĵ head a .none (Ē L) .none pl;setField (.ref e) 1 b) Q E s:=by
 have p:e∉s_ (env::outer):=λu=>by
  obtain⟨_,o,n,r⟩:=k.mem u;rw[he] at n;cases n;exact r _ rfl
 refine V5 (wpAny_frameOf_fun j k x λg d=>V5 (wpAny_entryPlaceOf λpl hp=>?_));have c:g.get? e=À (Xo C vs):=(d.2.1 e p).trans he
 delta Ĵ newFields
 refine V5 (Zr (dict:=none) ?_ (hp.sizeOk5 _ _ _ _ _));have ne:g.objs.size≠e:=aaW (Wg c);refine Zj (Ww _ c) rfl hz (h _ g.objs.size {cls:=.type "traceback",dict:=none,data:=.fields ([head,.ref L,.none,Ē L,.none]++(if pl.isEmpty then È 6 õ else pl)).toArray} _ #[λb o q v i=>?_,λb o q i=>?_] ?_ ne (by rw[d.1];exact V_ _) ?_ rfl ?_)
 .rw[Xi _ _ (Xm i)];exact Ww _ ((d.2.1 b v).trans q)
 .obtain⟨w,t⟩:=d.2.2 b o q;refine#[w,?_];rw[Xi _ _ (Xm i)];exact Ww _ t
 .exact Yr _ (Ww _ c) rfl
 .rw[Xi _ _ (Xm ne)];exact WS g rfl
 .rcases hp with rfl|⟨_,_,_,_,_,_,_,rfl⟩<;>simp
def xI{T:Æ}{l:Å}{i:ò}{a:Array Å}{Q:Unit->Ç->Prop}(he:s.heap.get? e=À (Xo C vs))(g:vs[1]?=À (.ref T))(ne:T≠e)(k:s.heap.get? T=À i)(c:i.data=.fields a)(m:a[3]?=À l)
  (h:∀h',yW [] (·=T) s.heap h'->h'.get? e=À (Xo C vs)->Tr h' C e (À T)->Q () {s with heap:=h'}):Î α A (ğ (.ref e) none) Q E s:=by
 have hz:3<a.size:=(Yz.mp m).1;unfold ğ;refine V5 (aaR he rfl g ?_);rw[V6 .c];have j:=(Xi s.heap (ě λx=>x.setIfInBounds 3 ((none:Option Æ).elim õ λf=>Ē f)) ne).trans he;refine Zj k c hz (h _ #[λb o q _ d=>?_,λb o q d=>#[o.slots,?_]] j #[vs,j,g,ne,_,_,Yr _ k (Ň (Zi c _)),Zi c _,?_])
 .exact(Xi _ _ (Xm d)).trans q
 .exact(Xi _ _ (Xm d)).trans q
 .simp[hz]
def yW.trans{fs:List Æ}{ch c1 c2:Æ->Prop}{h h1 h2:Ý}(a:yW fs c1 h h1)(b:yW fs c2 h1 h2)(f:∀b,c1 b->ch b)(e:∀b o,h.get? b=À o->c2 b->ch b):yW fs ch h h2 :=
 #[λx o q n c=>b.keep x o (a.keep x o q n λz=>c (f x z)) n λz=>c (e x o q z),λx o q c=>by
  obtain⟨i,q1⟩:=a.slot x o q λz=>c (f x z);obtain⟨d,g⟩:=b.slot x _ q1 λz=>c (e x o q z)
  exact#[d,g]]
def yW.mono{fs fs':List Æ}{ch ch':Æ->Prop}{h h':Ý}(a:yW fs ch h h')(w:∀b,ch b->ch' b)(v:∀b,b∈fs->b∈fs'):yW fs' ch' h h' :=
 #[λx o q n c=>a.keep x o q (λz=>n (v x z)) λz=>c (w x z),λx o q c=>a.slot x o q λz=>c (w x z)]
def Mr{T:Option Æ}{Q:Unit->Ç->Prop}(j:A.frames=À (env::outer))(G:s.heap.FunFrames base (env::outer))(u:env.frame=À L)(x:Tr s.heap C e T)
  (h:∀h' t vs d f,yW (s_ (env::outer)) (λb=>b=e\/T=À b) s.heap h'->h'.get? e=À (Xo C vs)->vs[1]?=À (.ref t)->t≠e->s.heap.objs.size<=t->h'.get? t=À d->d.data=.fields f->f[3]?=À (Ē L)->Q () {s with heap:=h'}):
  Î α A (Ĕ (.ref e) env) Q E s:=by
 obtain⟨vs,he,i⟩:=x;unfold Ĕ;simp only[u];cases T with
 |none =>
  have i:vs[1]?=À .none:=i;have hz:1<vs.size:=(Yz.mp i).1;refine V5 (aaR he rfl i ?_);rw[V4 .b];exact B9 j G u he hz λh' t d f c e1 n l p r y=>h h' t _ d f (c.mono (λb z=>.inl z) λ_ z=>z) e1 (by simp[hz]) n l p r y
 |some g =>
  obtain⟨H,ne,d,f,m,k,I⟩:vs[1]?=À (.ref g)/\g≠e/\∃d f,s.heap.get? g=À d/\d.data=.fields f/\f[3]?=À .none:=i;have hz:1<vs.size:=(Yz.mp H).1;refine V5 (aaR he rfl H ?_);rw[V6 .c];refine V5 (aaR m k I ?_);rw[V4 (by simp[Ē])];refine V5 (Zj m k (Yz.mp I).1 ?_);have a:∀b,b≠g->(s.heap.update g (ě λx=>x.setIfInBounds 3 õ)).get? b=s.heap.get? b:=λb J=>Xi _ _ (Xm J)
  have D:∀b o,s.heap.get? b=À o->(∀us,o.data≠.fields us)->b≠g:=λb o q w z=>by
   rw[z,m] at q;cases q;exact w _ k
  refine B9 j (G.of_keeps λb o q w=>#[o,(a b (D b o q w)).trans q,rfl]) u ((a e (Xm ne)).trans he) hz λh' t v F c e1 n l p r y=>?_;refine h h' t _ v F (yW.trans (c1:=λb=>b=g) (c2:=λb=>b=e) #[λb o q _ B=>(a b B).trans q,λb o q B=>#[o.slots,(a b B).trans q]] c (λb z=>.inr (by rw[z])) λb _ _ z=>.inl z) e1 (by simp[hz]) n ?_ p r y;rwa[Heap.size_after_update] at l
def Fm{T:Option Æ}{Q:Unit->Ç->Prop}(a:A.frames=À (env::outer))(d:s.heap.FunFrames base (env::outer))(m:env.frame=À L)(x:Tr s.heap C e T)
  (h:∀h' t,yW (s_ (env::outer)) (λb=>b=e\/T=À b) s.heap h'->Tr h' C e (À t)->s.heap.objs.size<=t->Q () {s with heap:=h'}):
  Î α A (Ĕ (.ref e) env) (λ_ g=>Î α A (ğ (.ref e) none) Q E g) E s:=by
 refine Mr a d m x λh' t vs r p c e1 f n l j k i=>?_;refine xI e1 f n j k i λh2 c2 _ tr=>h h2 t (yW.trans c (c2.mono (ch':=λb=>b=t) (λ_ z=>z) (λ_ z=>nomatch z)) (λ_ z=>z) λb o q z=>?_) tr l;exact absurd (Wg q) (Y2.mpr (by rwa[z]))
def IL{T:Option Æ}{Q:Unit->Ç->Prop}(a:A.frames=À (env::outer))(c:s.heap.FunFrames base (env::outer))(d:env.frame=À L)(x:Tr s.heap C e T)
  (h:∀h' t,yW (s_ (env::outer)) (λb=>b=e\/T=À b) s.heap h'->Tr h' C e (À t)->s.heap.objs.size<=t->Q () {s with heap:=h'}):
  Î α A (leaving env (.ref e)) Q E s:=by
 unfold leaving;exact V5 (Fm a c d x h)
end
def Nw(X:Cx)(ZB:List (Æ×ò))(H:Hp)(a:Æ):Prop:=X.s₀.heap.get? a=none/\H a=none/\∀p∈X.pn++ZB,p.1≠a
def JW(X:Cx)(ZB:List (Æ×ò))(H:Hp)(h:Ý)(C e:Æ):Prop:=∃T,Tr h C e T/\Nw X ZB H e/\∀t,T=À t->Nw X ZB H t
def bT.there{P:Ò}{w:Û}{h:Ý}{o:HO}(x:bT P w H h a o):∃ob,h.get? a=À ob:=by
 cases o with
 |lst xs=>obtain⟨_,_,_,_,e⟩:=x;exact#[_,e]
 |tup xs=>obtain⟨_,_,_,o,e,_⟩:=x;exact#[_,e]
 |dK XV=>obtain⟨_,_,_,_,o,_,_,e,_⟩:=x;exact#[_,e]
 |dT XV=>obtain⟨_,_,_,_,o,_,_,e,_⟩:=x;exact#[_,e]
 |dB XV=>obtain⟨_,_,_,_,o,_,_,e,_⟩:=x;exact#[_,e]
 |set S n=>obtain⟨o,_,_,_,e,_⟩:=x;exact#[_,e]
 |ins C dx fs=>obtain⟨_,_,_,e,_⟩:=x;exact#[_,e]
 |own y=>exact x
 |xd fs=>obtain⟨_,⟨_,_,_,e,_⟩,_⟩:=x;exact#[_,e]
 |iM lo hi=>obtain⟨_,_,_,e⟩:=x;exact#[_,e]
 |frz ob u=>obtain⟨e,_⟩:=x;exact#[_,e]
 |tbl ps=>exact#[_,(show h.get? a=À _ from x)]
 |met f y=>exact#[_,(show h.get? a=À _ from x)]
 |ext φ=>exact x.2.1
section
variable{X:Cx}{ZB:List (Æ×ò)}{Y:St}{H H':Hp}{s:Ç}{h':Ý}{C e:Æ}
def uK(I:Inv X ZB Y H s)(hex:X.ex=[])(h:s.heap.get? a=none):Nw X ZB H a:=by
 refine#[?_,?_,λp hp z=>?_]
 .cases q:X.s₀.heap.get? a with
  |none=>rfl
  |some o =>
   obtain⟨o',b⟩:=I.base.there a o q (by rw[hex];exact λz=>nomatch z);rw[h] at b;cases b
 .cases q:H a with
  |none=>rfl
  |some o =>
   obtain⟨o',b⟩:=bT.there (I.hok a o q);rw[h] at b;cases b
 .have:=(I.pin p hp).1;rw[z,h] at this;cases this
def AX(I:Inv X ZB Y H s)(hex:X.ex=[])(h:s.heap.objs.size<=a):Nw X ZB H a:=uK I hex (Ō h)
def vk{ch:Æ->Prop}(I:Inv X ZB Y H s)(c:yW (s_ X.stack) ch s.heap h')(w:∀b,ch b->Nw X ZB H b/\∃o vs,s.heap.get? b=À o/\o.data=.fields vs):Inv X ZB Y H {s with heap:=h'}:=by
 have ns:∀b o,X.s₀.heap.get? b=À o->¬ch b:=λb o q z=>by
  have:=(w b z).1.1;rw[q] at this;cases this
 have α:∀b o,X.s₀.heap.get? b=À o->b≠X.env.locals:=λb o q=>WQ (Wx (Wg q) I.ok.above)
 have C:∀b o,s.heap.get? b=À o->(∀vs,o.data≠.fields vs)->¬ch b:=λb o q O z=>by
  obtain⟨_,o',vs,B,d⟩:=w b z;rw[q] at B;cases B;exact O vs d
 have F:∀b o,s.heap.get? b=À o->b≠X.env.locals->b∉X.fs->¬ch b->h'.get? b=À o:=λb o q L N J=>c.keep b o q (λz=>(V8.mp (I.o_ b z)).elim L N) J
 have cl:∀x k,X.env.cells.lookup x=À k->∀v,s.heap.IsCell k v->h'.IsCell k v:=λx k _ v ⟨o,t,g⟩=>by
  obtain⟨E,q⟩:=c.slot k o t (C k o t λvs z=>by rw[g] at z;cases z);exact#[_,q,g]
 refine#[I.ok,I.os,I.bare,#[λb o q n a j=>?_,λb o q n a j=>?_,I.base.free,λb o q j=>?_,I.base.tups,I.base.frzs,I.base.tbls],?_,λx k q=>?_,I.free,I.freeC,λp hp=>?_,λb o q=>?_,I.len]
 .exact F b o (I.base.keep b o q n a j) (α b o q) a (ns b o q)
 .obtain⟨E,q1⟩:=I.base.slot b o q n a j;obtain⟨h,e⟩:=c.slot b _ q1 (ns b o q);exact#[h,e]
 .obtain⟨P,q1⟩:=I.base.there b o q j;obtain⟨h,e⟩:=c.slot b _ q1 (ns b o q);exact#[_,e]
 .obtain⟨m,⟨o,es,ep,t,g,r⟩,G⟩:=I.loc;obtain⟨E,q⟩:=c.slot _ o t (C _ o t λvs z=>by rw[g] at z;cases z);refine#[m,#[_,es,ep,q,g,r],λi x v e1 e2 e3=>?_];obtain⟨u,K,l⟩:=G i x v e1 e2 e3;refine#[u,K,?_];rcases l with l|⟨k,y,e,z⟩
  .exact .inl l
  .exact .inr #[k,y,e,cl x y e _ z]
 .obtain⟨v,z⟩:=I.cell x k q;exact#[v,cl x k q v z]
 .obtain⟨q,n,ne,A,d⟩:=I.pin p hp;exact#[F p.1 p.2 q ne A λz=>(w _ z).1.2.2 p hp rfl,n,ne,A,d]
 .refine(I.hok b o q).rh (λb2 u a r=>?_) (λ_ z=>z) λ_ _ z=>z
  have f:∃D,H b2=À D:=by
   rcases a with rfl|a
   .exact#[_,q]
   .exact#[_,a]
  obtain⟨D,f⟩:=f;refine c.keep b2 u r (λz=>?_) λz=>?_
  .rw[I.wt b2 z] at f;cases f
  .rw[(w b2 z).1.2.1] at f;cases f
def Tr.NJ{h:Ý}{T:Option Æ}(t:Tr h C e T):∀b,(b=e\/T=À b)->∃o vs,h.get? b=À o/\o.data=.fields vs:=by
 obtain⟨vs,he,q⟩:=t;rintro b (rfl|rfl)
 .exact#[_,vs,he,rfl]
 .obtain⟨_,_,d,c,a,b,_⟩:=q;exact#[d,c,a,b]
end
def Kr(P:Ò)(w:Û):CW:=λouter H s E ev s'=>∃e C t H',ev=.ref e/\s'.os=s.os/\đ s'.gens/\Un (s_ outer) [] H H' s.heap s'.heap/\lz P w H' s'.heap /\
 s.heap.get? e=none/\H' e=none/\s.heap.get? t=none/\H' t=none/\Tr s'.heap C e (À t)/\E (.ref C) none H'
section
variable{X:Cx}{ZB:List (Æ×ò)}{Y:St}{H:Hp}{s s':Ç}{E:XK}
def OU{ev:Å}(I:Inv X ZB Y H s)(hex:X.ex=[])(h:Kr X.prog X.w X.stack H s E ev s'):∃e C H',ev=.ref e/\Inv X ZB Y H' s'/\JW X ZB H' s'.heap C e/\E (.ref C) none H':=by
 obtain⟨e,C,t,H',rfl,f,bare,un,a,c,g,d,j,tr,q⟩:=h;have i:Inv X ZB Y H' s':=I.JV f un a bare (λb z=>absurd z .c);refine#[e,C,H',rfl,i,#[À t,tr,#[(uK I hex c).1,g,(uK I hex c).2.2],λu z=>?_],q];cases z;exact#[(uK I hex d).1,j,(uK I hex d).2.2]
end
abbrev Oe(P:Ò)(w:Û)(K:Ã)(mg:Í->Option Å)(base:Ý)(N:List Í)(qual:Í)(st:Ð)(f:Æ)(a:Å)(A:á)(outer:List ė)(s:Ç)(H:Hp)(E:XK):Cx:=oy (Kr P w) P w K mg base N qual (ah st) f a A outer s H E
def IW{P:Ò}{w:Û}{mg:Í->Option Å}{base:Ý}{N:List Í}{qual:Í}{st:Ð}{f:Æ}{a:Å}{outer:List ė}{g:Ç}{H1:Hp}{E:XK}{e:Æ}
  (I:Inv (⇑Oe N qual st f a A outer s H E) ZB Y H1 g) (i:JW (⇑Oe N qual st f a A outer s H E) ZB H1 g.heap C e) (q:E (.ref C) none H1):(⇑Oe N qual st f a A outer s H E).xe (.ref e) g:=by
 obtain⟨T,tr,ne,j⟩:=i;refine IL (base:=base) (outer:=outer) I.ok.frames I.stack rfl tr λh' t c d l=>?_;have h:=vk I (h':=h') c λb z=>#[by rcases z with rfl|z;exact ne;exact j b z,tr.NJ b z];have n:=AX I rfl l;exact#[e,C,t,H1,rfl,I.os,I.bare,h.base,h.hok,ne.1,ne.2.1,n.1,n.2.1,d,q]
abbrev Qc:List Å:=[.type "ValueError",.type "Exception",.type "BaseException",.type "object"]
abbrev NM(K:Ã)(C:Æ):Prop:=į K C Qc "ValueError.__new__"=Â
def KR{h:Ý}(X:K.In h)(q:NM K C):∃bm N nm c bs b sn sub ab col dd k0 k1 k2 k3 k5 e,h.get? C=À (excClassObj nm c C N bs bm b sn sub ab col dd k0 k1 k2 k3 k5 "ValueError.__new__")/\h.Ns N e/\e "__init__"=none/\OwnTail h Qc bm:=by
 unfold NM į at q;split at q
 .rename_i dd cd g i;split at q
  .rename_i k bm k0 k1 k2 k3 n k5 e1 e2;simp only[WA,Y0,YC] at q;obtain⟨⟨⟨⟨⟨rfl,rfl⟩,f⟩,j⟩,a⟩,d⟩:=q;obtain⟨nm,bs,mro,ns,c,b,sn,sub,ab,col,del⟩:=cd;dsimp only at e1 f a d;subst e1 f
   have e3:g=(ã [k0,k1,k2,k3,À (.builtin "ValueError.__new__"),k5]):=by
    obtain⟨l⟩:=g;have e4:l=[k0,k1,k2,k3,À (.builtin "ValueError.__new__"),k5]:=e2;rw[e4]
   subst e3;exact#[bm,ns,nm,c,bs,b,sn,sub,ab,col,dd,k0,k1,k2,k3,k5,_,X _ _ i,.of_isNs (PySem.W.isNs_of_in X a),PySem.W.nsMap_none_of_in X a d,PySem.W.tail_of_in X j]
  .cases q
 .cases q
section
variable{X:Cx}{cn:Í}{C:Æ}{np cpos pos cps:é}{msg:Í}{j:Nat}
def F6{W:St->Hp->Prop}(d:X.calm=Â)(hex:X.ex=[])(l:Gl X cn)(v:X.mg cn=À (.ref C))(i:NM X.K C)
  (u:∀ZB Y H s e,Inv X ZB Y H s->W Y H->JW X ZB H s.heap C e->X.xe (.ref e) s) (g:autoParam ((cn==("__debug__":Í))=Á) zrb):
  PS X (.Raise (À (.Call (.Name cn np) [.Constant (.str msg) j cps] [] cpos)) none pos) (λ_ Y H=>W Y H):=by
 intro ZB s Y H D I h;obtain⟨bm,N,nm,m,bs,c,sn,sub,ab,col,dd,k0,k1,k2,k3,k5,x,c1,c2,c3,c4⟩:=KR I.ok.mod.kin i;have p:PA X [.Constant (.str msg) j cps] _:=aC Gq aZ;refine wpAny_Raise_call_subU (nm:=nm) (q:=m) (N:=N) (bs:=bs) (bm:=bm) (hdct:=c) (sn:=sn) (sub:=sub) (ab:=ab) (col:=col) (dd:=dd) (k0:=k0) (k1:=k1) (k2:=k2) (k3:=k3) (k5:=k5) aak .b aak (c4.hasType .b) (I.ok.hd d) rfl c3 (jB I l v #[rfl,?_] g);have he:Ä [τ (.str msg) j cps] X.env=(Á,Ö (.Constant (.str msg) j cps) X.env)::Ä [] X.env:=rfl;have f:=p cpos ZB s Y H (λvs H1=>vs=[.str msg]/\H1=H) I #[rfl,rfl];rw[he] at f ⊢;refine YZ (Xl f (λus k ⟨vs,H1,b,r,e1,e2⟩=>?_) λ_ _ z=>z);subst e1 e2;refine#[rfl,?_,b.bk _ _ c1,c2.keeps b.bk,c4.keeps b.bk,λh' e a=>?_]
 .rw[<-r.length];exact Xv (bA (n:=1) .b)
 .obtain⟨t,h1,h2,w⟩:=a.there;have o:=b.kept (h':=h') (t':=k.toks) a.keeps;have nw:=uK b hex a.new;exact u ZB Y _ _ e o h #[none,#[_,h1,rfl],nw,λt z=>nomatch z]
end
abbrev Cx.hold(X:Cx)(σ:Å->Ç->Prop)(pn:List (Æ×ò)):Cx:={X with xe:=σ,pn:=pn}
abbrev Cx.eX(X:Cx)(e:Æ)(pn:List (Æ×ò)):Cx:={X with A:=X.A.mark (À (.ref e)),calm:=Á,xe:=λ_ _=>False,pn:=pn}
section
variable{X:Cx}{ZB pn:List (Æ×ò)}{Y:St}{H:Hp}{s:Ç}{σ:Å->Ç->Prop}{C e:Æ}
def IC(ok:X.Ok):(Cx.hold X σ pn).Ok:=#[ok.mod,ok.kind,ok.glob,ok.blt,ok.above,ok.inj,ok.has,ok.cab,ok.hd,ok.frames,ok.stk,ok.exf,ok.bs,ok.bsz,ok.noex,ok.exfs,ok.j6,ok.frf]
def Dx(ok:X.Ok):(Cx.eX X e pn).Ok:=#[ok.mod,ok.kind,ok.glob,ok.blt,ok.above,ok.inj,ok.has,ok.cab,λz=>ż z,ok.frames,ok.stk,ok.exf,ok.bs,ok.bsz,ok.noex,ok.exfs,ok.j6,ok.frf]
def Er(I:Inv X ZB Y H s):Inv (Cx.hold X σ (X.pn++ZB)) [] Y H s:=#[IC I.ok,I.os,I.bare,I.base,I.loc,I.cell,I.free,I.freeC,λp hp=>I.pin p ↑hp,I.hok,I.len]
def Ao{a:List (Æ×ò)}(ok:X.Ok)(I:Inv (Cx.hold X σ (X.pn++ZB)) a Y H s):Inv X ZB Y H s:=#[ok,I.os,I.bare,I.base,I.loc,I.cell,I.free,I.freeC,λp hp=>I.pin p (Xg _ hp),I.hok,I.len]
def sL(I:Inv X ZB Y H s)(he:s.heap.get? e=À (Xo C vs))(n:Nw X ZB H e)(c:e∉X.fs):Inv (Cx.eX X e (X.pn++ZB++[(e,Xo C vs)])) [] Y H s:=by
 refine#[Dx I.ok,I.os,I.bare,I.base,I.loc,I.cell,I.free,I.freeC,λp hp=>?_,I.hok,I.len];rw[Yq] at hp;rcases W2.mp hp with hp|hp
 .exact I.pin p hp
 .have z:p=(e,Xo C vs):=by simpa using hp
  subst z;refine#[he,n.2.1,λz=>?_,c,λv z=>nomatch z];obtain⟨m,⟨o,es,ep,a,b,_⟩,_⟩:=I.loc;have z:e=X.env.locals:=z;rw[<-z,he] at a;cases a;cases b
def n9{a:List (Æ×ò)}{l:List (Æ×ò)}(ok:X.Ok)(I:Inv (Cx.eX X e (X.pn++ZB++l)) a Y H s):Inv X ZB Y H s:=#[ok,I.os,I.bare,I.base,I.loc,I.cell,I.free,I.freeC,λp hp=>I.pin p (Xg _ (Xg _ hp)),I.hok,I.len]
def name_goes{E:Å->Ç->Prop}{i:Nat}{n:Í}{pos:é}{Q:Unit->Ç->Prop}(I:Inv X ZB Y H s)(G:X.N.Nodup)(hi:X.N[i]?=À n)(D:X.env.kindOf n=À .local)
  (h:∀s',Inv X ZB (Y.set i none) H s'->Q () s'):Î α A (do bindName X.env n .none;ž X.env n pos) Q E s:=by
 obtain⟨m,C,F⟩:=id I.loc;refine wpAny_nameGoes_keeps D C (by rw[I.ok.kind];rfl) λh' v x e=>?_;obtain⟨S,_,_,O,K,_⟩:=id C;have t:∀b o,X.s₀.heap.get? b=À o->b≠X.env.locals:=λb o q=>WQ (Wx (Wg q) I.ok.above);refine h _ #[I.ok,I.os,I.bare,#[λb o q n a f=>(e.2 b (t b o q)).trans (I.base.keep b o q n a f),λb o q n a f=>?_,I.base.free,λb o q f=>?_,I.base.tups,I.base.frzs,I.base.tbls],#[_,x,λj y L e1 e2 e3=>?_],λy c q=>?_,I.free,I.freeC,λp hp=>?_,λb o q=>?_,by rw[WX];exact I.len]
 .obtain⟨R,q1⟩:=I.base.slot b o q n a f;exact#[R,(e.2 b (t b o q)).trans q1]
 .obtain⟨J,q1⟩:=I.base.there b o q f;exact#[J,(e.2 b (t b o q)).trans q1]
 .by_cases l:j=i
  .subst l;rw[aas] at e2;split at e2
   .split at e2
    .cases e2
    .cases e2
   .exact absurd rfl (by assumption)
  .rw[XU (Xm l)] at e2;obtain⟨u,r,q⟩:=F j y L e1 e2 e3;refine#[u,r,?_];rcases q with⟨k,q⟩|⟨k,c,q,z⟩
   .refine .inl #[k,?_];have:y≠n:=λz=>l (rZ G e1 (z▸hi));simp[this,q]
   .exact .inr #[k,c,q,z.sameBut e (I.Il y c q)]
 .obtain⟨w,z⟩:=I.cell y c q;exact#[w,z.sameBut e (I.Il y c q)]
 .obtain⟨q,n,ne,P,d⟩:=I.pin p hp;exact#[(e.2 p.1 ne).trans q,n,ne,P,d]
 .refine(I.hok b o q).rh (λb2 u a r=>?_) (λ_ z=>z) λ_ _ z=>z
  have g:∃B,H b2=À B:=by
   rcases a with rfl|a
   .exact#[_,q]
   .exact#[_,a]
  obtain⟨B,g⟩:=g;refine(e.2 b2 λz=>?_).trans r;rw[z,I.free] at g;cases g
variable{D:Æ}{i:Nat}{n dn:Í}{np hpos pos:é}{b₀:Ð}{suite body:List Ð}{rest:List Ĩ}{Q:Flow->Ç->Prop}
def D9(I:Inv X ZB Y H s)(he:s.heap.get? e=À (Xo C vs)):e∉X.fs:=λz=>by
 obtain⟨_,o,a,b⟩:=I.j6.mem z;rw[he] at a;cases a;exact b _ rfl
def BR{h:Ý}(he:h.get? e=À (Xo C vs)):İ α h (typeOf (.ref e)) (.ref C):=(ϡ he).andThen .now
def Cc(I:Inv X ZB Y H s)(Z:JW X ZB H s.heap C e)(a:X.stack=X.env::X.outer)(L:X.env.frame=À X.env.locals)(hex:X.ex=[])(j:Gl X dn)(p:X.mg dn=À (.ref D))(r:û X.K (.ref C) (.ref D)=À Â)
  (σ:X.N.Nodup) (hi:X.N[i]?=À n) (x:X.env.kindOf n=À .local)
  (k:∀s' vs,Inv (Cx.eX X e (X.pn++ZB++[(e,Xo C vs)])) [] (Y.set i (À (.ref e))) H s'->Î .E (X.A.mark (À (.ref e))) (execs (b₀::suite) X.env)
   (λf O=>Î .E X.A (do bindName X.env n .none;ž X.env n hpos) (λ_ F=>Q f F) X.xe O) (λ_ _=>False) s') (u:autoParam ((dn==("__debug__":Í))=Á) zrb):
  Î .E X.A (Ĕ (.ref e) X.env) (λ_ J=>Î .E X.A (ğ (.ref e) none) (λ_ P=>Î .E X.A (handleBy (.ref e) X.env (.ExceptHandler (À (.Name dn np)) (À n) (b₀::suite) hpos::rest)) Q X.xe P) X.xe J) X.xe s:=by
 obtain⟨T,tr,ne,R⟩:=Z;refine Fm (base:=X.base) (by rw[I.ok.frames,a]) (a▸I.stack) L tr λh' t c m l=>?_;have g:=vk I (h':=h') (by rwa[a]) λb z=>#[by rcases z with rfl|z;exact ne;exact R b z,tr.NJ b z];have h:=AX I hex l;obtain⟨vs,he,S,o,G,ts,B,y,V⟩:=m;refine wpAny_handleBy_cons (codeAny_handlers_test ?_) (by intro q;cases q);refine jB (X:=Cx.eX X e _) (sL g he ne (D9 g he)) j p ?_ u;refine(PySem.W.exm_one (K:=X.K) g.Dj (BR he) r).here ?_;refine codeAny_handlers_suite_as ?_;refine xI he S o B y V λh2 c2 d α=>?_
 have E:=vk g (h':=h2) (c2.mono (ch':=λb=>b=t) (λ_ z=>z) (λ_ z=>nomatch z)) λb z=>by
  subst z;exact#[h,G,ts,B,y]
 refine qX (X:=Cx.eX X e _) (v:=.ref e) (sL E d ne (D9 E d)) σ hi (.inl x) rfl (λs' Γ=>?_) (.inr x);exact Xl (k s' vs Γ) (λ_ _ z=>z) λ_ _ z=>z.elim
def Dz{W:St->Hp->Prop}{W0:St->Hp->Prop}{th:Æ->TS}(k:X.stack=X.env::X.outer)(P:X.env.frame=À X.env.locals)(hex:X.ex=[])(l:Gl X dn)(o:X.mg dn=À (.ref D))(y:û X.K (.ref C) (.ref D)=À Â)
  (j:X.N.Nodup) (hi:X.N[i]?=À n) (h:X.env.kindOf n=À .local)
  (L:∀σ pn,(∀ZB Y H s e,Inv (Cx.hold X σ pn) ZB Y H s->W Y H->JW (Cx.hold X σ pn) ZB H s.heap C e->σ (.ref e) s)->mP (Cx.hold X σ pn) body (λ_ Y H=>W0 Y H))
  (V:∀e vs pn,(e,Xo C vs)∈pn->mP (Cx.eX X e pn) (b₀::suite) (th e)) (B:autoParam ((dn==("__debug__":Í))=Á) zrb):
  PS X (.Try body [.ExceptHandler (À (.Name dn np)) (À n) (b₀::suite) hpos] [] [] pos)
   (λb Y H=>W0 Y H/\∀Y' H' e,W Y' H'->th e {nx:=λσ2 H2=>b.nx (σ2.set i none) H2,rt:=b.rt} (Y'.set i (À (.ref e))) H'):=by
 intro ZB s Y H b I ⟨S,h1⟩;refine Ϝ ?_;have Q:=L (λe d=>Î .E X.A (Ĕ e X.env) (λ_ x=>Î .E X.A (ğ e none) (λ_ q=>Î .E X.A (handleBy e X.env [.ExceptHandler (À (.Name dn np)) (À n) (b₀::suite) hpos]) (SP X ZB b) X.xe q) X.xe x) X.xe d) (X.pn++ZB) (λc Y' H' s' e O w R=>?_)
 .exact Xl (Q [] s Y H {nx:=λ_ _=>False,rt:=λ_ _=>False} (Er I) S) (λf Z z=>by
   cases f with
   |next=>obtain⟨_,_,_,z⟩:=z;exact z.elim
   |ret v=>obtain⟨_,_,_,_,_,z⟩:=z;exact z.elim
   |brk=>obtain⟨_,_,_,z⟩:=z;exact z.elim
   |cont=>obtain⟨_,_,_,z⟩:=z;exact z.elim) λ_ _ z=>z
 .have Γ:Inv X ZB Y' H' s':=Ao I.ok O;obtain⟨T,tr,F,α⟩:=R;have sub:∀a,Nw (Cx.hold X (λe d=>Î .E X.A (Ĕ e X.env) (λ_ x=>Î .E X.A (ğ e none) (λ_ q=>Î .E X.A (handleBy e X.env [.ExceptHandler (À (.Name dn np)) (À n) (b₀::suite) hpos]) (SP X ZB b) X.xe q) X.xe x) X.xe d) (X.pn++ZB)) c H' a->Nw X ZB H' a:=λa z=>#[z.1,z.2.1,λp hp=>z.2.2 p (Xg _ hp)];refine Cc Γ #[T,tr,sub _ F,λt z=>sub _ (α t z)] k P hex l o y j hi h (λg vs G=>?_) B;refine Xl (V e vs _ .c [] g _ _ {nx:=λσ2 H2=>b.nx (σ2.set i none) H2,rt:=b.rt} G (h1 Y' H' e w)) (λf s4 z=>?_) λ_ _ z=>z;cases f with
  |next =>
   obtain⟨σ2,H2,J,z⟩:=z;exact name_goes (n9 I.ok J) j hi h λE m=>#[_,_,m,z]
  |ret v =>
   obtain⟨u,σ2,H2,J,r,z⟩:=z;exact name_goes (n9 I.ok J) j hi h λE m=>#[u,_,_,m,r,z]
  |brk=>obtain⟨_,_,_,z⟩:=z;exact z.elim
  |cont=>obtain⟨_,_,_,z⟩:=z;exact z.elim
def Dk{tb:TS}{h₀:Ĩ}(a:mP X.Ha body tb):PS X (.Try body (h₀::rest) [] [] pos) tb:=by
 intro ZB s Y H b I h;refine Ϝ (Xl (a ZB s Y H b (I.sF _) h) (λf c z=>?_) λ_ _ z=>z.elim);have z:=z.jE;cases f with
 |next=>exact ZM z
 |ret v=>exact z
 |brk=>exact z
 |cont=>exact z
end
structure Xn where
 e:Æ
noncomputable instance:Py Xn where
 rp _ _ _ v a:=v=.ref a.e
 tr _ _ h:=h
structure RB where
 B:Hp
 H0:Hp
 F:Æ->Prop
def DK(K:Ã)(R:RB)(U:aF)(Y:St)(H:Hp):Prop:=∃O,az R.B (off H O)/\cU K R.H0 R.F O U Y H
def DK.go{K:Ã}{R:RB}{U:aF}{Y:St}{H H':Hp}(z:DK K R U Y H)(s:az H H'):DK K R U Y H':=let #[O,m,Z]:=z;#[O,m.trans (aj s),Z.go s]
def Acc(X:Cx)(R:RB)(U:aF)(C:Æ):Prop:=∀ZB Y H s e,Inv X ZB Y H s->DK X.K R U Y H->JW X ZB H s.heap C e->X.xe (.ref e) s
@[irreducible] def ER(X:Cx)(R:RB)(U:aF)(e:Õ):Prop:=PE X e (λY H _=>DK X.K R U Y H)
@[irreducible] def SR(X:Cx)(R:RB)(U:aF)(st:List Ð):Prop:=mP X st (λ_ Y H=>DK X.K R U Y H)
section
variable{X:Cx}{R:RB}{U:aF}{D:GD}{M β γ:Type}[Py M][Py β][Py γ]{e e1 e2 e3:Õ}{b b1 b2 b3:Bool}{p pos np cpos cps:é}{st:Ð}{rest body orelse:List Ð}{C:Æ}{cn:Í}
def Ek{msg:Í}{j:Nat}(f:Acc X R U C)(h:Gl X cn)(c:X.mg cn=À (.ref C))(g:NM X.K C)(a:autoParam (X.calm=Â) zra)(hex:autoParam (X.ex=[]) zra)(d:autoParam ((cn==("__debug__":Í))=Á) zrb):
  SR X R U (.Raise (À (.Call (.Name cn np) [.Constant (.str msg) j cps] [] cpos)) none pos::rest):=by stop exact n_ (u:=wu) (F6 (W:=λY H=>DK X.K R U Y H) a hex h c g (λZB Y H s e I z b=>f ZB Y H s e I z b) d) gB
def yr(h:ER X R U e)(a:autoParam (ï e none pos.line X.env=pure Á) zra):SR X R U (.Expr e pos::rest):=by stop exact n_ (u:=wu) (dE (qu h a) λ_ _ _ z=>z) gB
def L8(b:T X U e Â)(h:SR X R U body):SR X R U (.If e body orelse pos::rest):=by stop exact pj (n_ (u:=wu) (EB b h gB) gB) λc Y H ⟨O,m,Z⟩=>#[R.H0,R.F,O,Z,λH1 a=>oM #[O,m.trans (aj a),Z.go a]]
end
structure Am(P:Ò)(w:Û)(K:Ã)(mg:Í->Option Å)(base:Ý)(k:Nat)(name:Í)(ps:List Í)(sp:Sp):Prop where
 ex:∃(f:Æ) (fd:ì),⇑dY (Kr P w) k f fd ps sp/\Binds K fd ps []/\ð K (.ref f)=Â/\mg name=À (.ref f)
def IU{M:Type}[Py M](K:Ã)(pre:M->Prop)(C:Æ):Sp:=λvs H _ E=>∃O v a,mh H O/\vs=[v]/\Py.rp K .any .F v a/\pre a/\∀H',az H H'->E (.ref C) none H'
def HK{M β:Type}[Py M][Py β](K:Ã)(pre:M->β->Prop)(C:Æ):Sp:=λvs H _ E=>∃O v w a c,mh H O/\vs=[v,w]/\Py.rp K .any .F v a/\Py.rp K .any .F w c/\pre a c/\∀H',az H H'->E (.ref C) none H'
section
variable{X:Cx}{R:RB}{U:aF}{M β γ:Type}[Py M][Py β][Py γ]{e e1 e2 e3:Õ}{es:List Õ}{b b1 b2 b3:Bool}{p pos:é}{C f:Æ}{x name:Í}{k:Nat}{ps:List Í}{fd:ì}{t:TA}{sp:Sp}
def xw{W:St->Hp->Prop}{E':St->Hp->XK}(G:dY X.prog X.w X.K X.mg X.base (Kr X.prog X.w) k f fd ps sp)(y:dk k X.A)(n:Gl X x)(D:X.mg x=À (.ref f))(o:ð X.K (.ref f)=Â)(v:Binds X.K fd ps [])(hex:X.ex=[])
  (m:∀ZB Y H H' s e C,W Y H->Inv X ZB Y H' s->JW X ZB H' s.heap C e->E' Y H (.ref C) none H'->X.xe (.ref e) s)
  (ha:PA X (e::es) t) (i:autoParam ((x==("__debug__":Í))=Á) zrb) (he:autoParam (Ä (e::es) X.env=(Á,Ö e X.env)::Ä es X.env) zra) (hpl:autoParam ((æ pos (Ä es X.env)).any (·.1)=Á) zra):
  PE X (.Call (.Name x p) (e::es) [] pos) (λY H _=>t Y H λvs H1=>W Y H1/\sp vs H1 (λ_ _=>False) (E' Y H1)):=by
 intro ZB s Y H Q I h;refine Yn (jB I n D ?_ i);refine aad (h₀:=X.base) I.ok.mod.kin o (b9 (ha pos ZB s Y H _ I h) λus j ⟨vs,H1,d,r,w,q⟩=>#[d.Dj,?_]) he hpl;have l:us.length=ps.length:=by rw[<-r.length];exact G.len _ _ _ _ q
 have c:=v j us d.Dj (by rwa[Yq]);rw[Yq] at c;refine aau (ZN (G.run X.A X.stack j H1 #[us,[]] us vs _ _ y d.Lq c r q) λr s' b=>?_);cases r with
 |error ev =>
  obtain⟨a,C,H',rfl,B,g,z⟩:=OU d hex b;exact m ZB Y H1 H' s' a C w B g z
 |ok g =>
  cases g with
  |ret u=>obtain⟨_,_,_,_,_,_,_,z⟩:=b;exact z.elim
  |next=>exact è b
  |brk=>exact è b
  |cont=>exact è b
def GS{H':Hp}{b:Æ}(f:Acc X R U C)(w:DK X.K R U Y H)(I:Inv X ZB Y H' s)(c:JW X ZB H' s.heap b a)(z:(.ref b:Å)=.ref C/\az H H'):X.xe (.ref a) s:=by
 obtain⟨e,d⟩:=z;cases e;exact f ZB Y H' s a I (w.go d) c
def Fy{pre:M->Prop}{a:M}(Cl:Am X.prog X.w X.K X.mg X.base k name ps (IU X.K pre C))(f:Acc X R U C)(g:dk k X.A)(e:Gl X name)(h1:E X U e1 b1 a)(hp:pre a)(hex:autoParam (X.ex=[]) zra)
  (b:autoParam (Ä [e1] X.env=(Á,Ö e1 X.env)::Ä [] X.env) zra) (d:autoParam ((name==("__debug__":Í))=Á) zrb) (hpl:autoParam ((æ pos (Ä [] X.env)).any (·.1)=Á) zra):
  ER X R U (.Call (.Name name p) [e1] [] pos):=by
 stop
  obtain⟨n,fd,G,B,l,m⟩:=Cl.ex
  exact aG (xw (W:=λY H=>DK X.K R U Y H) (E':=λ_ H cls _ H'=>cls=.ref C/\az H H') G g e m l B hex (λZB Y H H' s a o w I h z=>GS f w I h z) (aC h1 aZ b) d b hpl) λY H Q ⟨O,m,S⟩=>#[R.H0,R.F,O,S,λi H1 c j =>
   #[#[O,m.trans (aj c),S.go c],O,i,a,(S.go c).own,rfl,bB bR j,hp,λH' s'=>#[rfl,s']]]
def Eo{pre:M->β->Prop}{a:M}{c:β}(Cl:Am X.prog X.w X.K X.mg X.base k name ps (HK X.K pre C))(j:Acc X R U C)(l:dk k X.A)(i:Gl X name)(h1:E X U e1 b1 a)(h2:E X U e2 b2 c)(hp:pre a c)(hex:autoParam (X.ex=[]) zra)
  (b:autoParam (Ä [e1,e2] X.env=(Á,Ö e1 X.env)::Ä [e2] X.env) zra) (f:autoParam (Ä [e2] X.env=(Á,Ö e2 X.env)::Ä [] X.env) zra) (g:autoParam ((name==("__debug__":Í))=Á) zrb) (hpl:autoParam ((æ pos (Ä [e2] X.env)).any (·.1)=Á) zra):
  ER X R U (.Call (.Name name p) [e1,e2] [] pos):=by
 stop
  obtain⟨u,fd,G,B,t,m⟩:=Cl.ex
  exact aG (xw (W:=λY H=>DK X.K R U Y H) (E':=λ_ H cls _ H'=>cls=.ref C/\az H H') G l i m t B hex (λZB Y H H' s a v w I n z=>GS j w I n z) (aC h1 (aC h2 aZ f) b) g b hpl) λY H Q ⟨O,m,S⟩=>#[R.H0,R.F,O,S,λq H1 e r=>#[R.H0,R.F,O,S.go e,λo H2 d h =>
   #[#[O,m.trans (aj (e.trans d)),S.go (e.trans d)],O,q,o,a,c,(S.go (e.trans d)).own,rfl,bB bR (aw (aj d) r),bB bR h,hp,λH' s'=>#[rfl,s']]]]
variable{P:Ò}{w:Û}{K:Ã}{mg:Í->Option Å}{base:Ý}{N:List Í}{qual:Í}{st:Ð}
def w8(P:Ò)(w:Û)(K:Ã)(mg:Í->Option Å)(base:Ý)(N:List Í)(qual:Í)(st:Ð)(f:Æ)(k:Nat)(b:List Bd)(C:Æ):Prop :=
 ∀(a:Å) (A:á) (outer:List ė) (s:Ç) (H:Hp) (E:XK) (R:RB),dk k (A.deeper (Č qual (ah st) s.heap.objs.size f a)) ->
  (∀U,Acc (⇑Oe N qual st f a A outer s H E) R U C)->SR (⇑Oe N qual st f a A outer s H E) R (wO N b) (aU st)
def ON{sp:Sp}{C:Æ}(G:p8 K x qual st f fd)(S:ak N ps (ah st))(len:∀vs H Q E,sp vs H Q E->vs.length=ps.length)
  (h:∀(vs:List V) (H:Hp) (Q:VK) (E:XK),sp vs H Q E->∃O b,mh H O/\Args K .F vs b/\w8 P w K mg base N qual st f k b C/\∀H',az H H'->E (.ref C) none H'):⇑dY (Kr P w) (k+1) f fd ps sp:=by stop obtain⟨u,od,kV,doc,r,o,a,ct,n,rfl,l,d⟩:=G.ex;refine Kt l d S len λA outer s H vs Q E i c=>?_;obtain⟨O,b,g,ha,B,q⟩:=h vs H Q E c;exact#[_,B a A outer s H E #[off H O,H,O] i (λU ZB Y H1 p e I ⟨t,m,Z⟩ j=>IW I j (q H1 Z.same)),O,az.refl _,jj g ha]
def Qe{M:Type}[Py M]{pre:M->Prop}{C:Æ}(G:p8 K x qual st f fd)(d:ak N ps (ah st))(b:ps.length=1)(B:∀a,pre a->⇑w8 N qual st f k [.val Á a] C):⇑dY (Kr P w) (k+1) f fd ps (IU K pre C):=by
 refine ON (C:=C) G d (λvs H Q E h=>?_) λvs H Q E h=>?_
 .obtain⟨O,v,a,_,rfl,_⟩:=h;rw[b];rfl
 .obtain⟨O,v,a,c,rfl,r,hp,q⟩:=h;exact#[O,_,c,.cons r .nil,B a hp,q]
def Qw{M β:Type}[Py M][Py β]{pre:M->β->Prop}{C:Æ}(G:p8 K x qual st f fd)(i:ak N ps (ah st))(b:ps.length=2)(B:∀a c,pre a c->⇑w8 N qual st f k [.val Á a,.val Á c] C):⇑dY (Kr P w) (k+1) f fd ps (HK K pre C):=by
 refine ON (C:=C) G i (λvs H Q E h=>?_) λvs H Q E h=>?_
 .obtain⟨O,v,g,a,c,_,rfl,_⟩:=h;rw[b];rfl
 .obtain⟨O,v,g,a,c,e,rfl,r,d,hp,q⟩:=h;exact#[O,_,e,.cons r (.cons d .nil),B a c hp,q]
def Df.N1{h:Ý}{sp:Sp}(D:Df K x st)(X:K.In h)(G:h.Ns Ê mg)(d:∀(kV doc c:Å) (e:Option Æ) (b ct:Å) (us:List Å),us.length=ps.length->ĉ (â x x (du st) (aU st) (ah st) .none kV doc c e b ct) #[us,[]]=pure (ps.zip us))
  (ok:∀f fd,p8 K x x st f fd->⇑dY (Kr P w) k f fd ps sp):⇑Am k x ps sp:=by
 obtain⟨f,fd,a,F⟩:=D;exact#[f,fd,ok f fd F,F.binds d,F.kp,X4 X G a]
end
theorem get_set_no.{u}{M:Type u}{l:List (Option M)}{i j:Nat}{x:M}(h:(l.set i none)[j]?=À (À x)):j≠i/\l[j]?=À (À x):=by
 by_cases a:j=i
 .subst a;rw[aas] at h;split at h
  .split at h
   .cases h
   .cases h
  .exact absurd rfl (by assumption)
 .rw[XU (Xm a)] at h;exact#[a,h]
def cU.gone{H0:Hp}{F O:Æ->Prop}{U:aF}(S:cU K H0 F O U Y H)(i:Nat):cU K H0 F O (U.set i none) (Y.set i none) H where
 same:=S.same
 fo:=S.fo
 f0:=S.f0
 own:=S.own
 len:=by rw[WX,WX];exact S.len
 at_:=λj g e n=>by
  obtain⟨a,b⟩:=get_set_no e;obtain⟨v,q,r⟩:=S.at_ j g b n;exact#[v,by rwa[XU (Xm a)],r]
 dis:=by
  obtain⟨D,c,f,d⟩:=S.dis;refine#[D,c,f,λj g e o=>?_];obtain⟨a,b⟩:=get_set_no e;obtain⟨v,q,r⟩:=d j g b o;exact#[v,by rwa[XU (Xm a)],r]
section
variable{X:Cx}{U:aF}{D:GD}{M β γ:Type}[Py M][Py β][Py γ]{e e1 e2 e3:Õ}{b b1 b2 b3:Bool}{p p2 pos np hpos:é}{b₀:Ð}{rest body suite:List Ð}{C Cd:Æ}{n dn:Í}
def EG(i:Nat)(p:X.N.Nodup)(e:Gl X dn)(h:X.mg dn=À (.ref Cd))(j:û X.K (.ref C) (.ref Cd)=À Â)
  (r:∀σ pn R,Acc (Cx.hold X σ pn) R U C->SR (Cx.hold X σ pn) R U body)
  (J:∀a vs pn,(a,Xo C vs)∈pn->S (Cx.eX X a pn) (U.set i (À (.val Â (Xn.mk a)))) (b₀::suite) {nx:=λU'=>S X (U'.set i none) rest D,rt:=D.rt})
  (hi:autoParam (X.N[i]?=À n) zra) (l:autoParam (X.env.kindOf n=À .local) zra) (d:autoParam (X.stack=X.env::X.outer) zra) (x:autoParam (X.env.frame=À X.env.locals) zra) (hex:autoParam (X.ex=[]) zra) (k:autoParam ((dn==("__debug__":Í))=Á) zrb):
  S X U (.Try body [.ExceptHandler (À (.Name dn np)) (À n) (b₀::suite) hpos] [] [] pos::rest) D:=by
 stop
  refine dy λZB s Y H u I ⟨H0,F,O,Z,nx,rt,bk,ct⟩=>?_
  refine Dz (W:=λY' H'=>DK X.K #[off H O,H0,F] U Y' H') (W0:=λY' H'=>DK X.K #[off H O,H0,F] U Y' H') (th:=λa=>tG X.K (U.set i (À (.val Â (Xn.mk a)))) {nx:=λU'=>S X (U'.set i none) rest D,rt:=D.rt})
   d x hex e h j p hi l (λσ pn G=>r σ pn #[off H O,H0,F] λc Y' H' s' a t f y=>G c Y' H' s' a t f y) (λa vs pn E=>J a vs pn E) k ZB s Y H u I #[#[O,az.refl _,Z],λY' H' a ⟨B,m,f⟩=>?_]
  exact#[H0,F,B,f.set (b:=Â) (a:=Xn.mk a) rfl,λΓ2 σ2 H2 w m2 A q=>nx _ _ H2 w (az.trans m m2) (A.gone i) q,λg v H2 m2 o q=>rt g v H2 m2 o q,λ_ _ _ _ _ _ z=>z.elim,λ_ _ _ _ _ _ z=>z.elim]
def G0{h₀:Ĩ}{a:List Ĩ}(b:S X.Ha U body {D with nx:=λU'=>S X U' rest D}):S X U (.Try body (h₀::a) [] [] pos::rest) D:=by stop exact dy (Dk b)
end
def C7(K:Ã)(C:Æ):Bool:=Ć K (.ref C) "__getattribute__"==À (À (.builtin "BaseException.__getattribute__"))&&Ć K (.ref C) "__getattr__"==À none&&(Ŵ K C).isSome&&Ć K (.ref C) "__class__"==À (À (.builtin "object.__class__")) &&
 PySem.W.specialIn K (.builtin "object.__class__") "__get__"==À (À (.builtin "getset_descriptor.__get__"))&&PySem.W.takesIn K (.builtin "object.__class__")==À Â&&ĕ K C (.type "object")==À Â&&ĕ K C (.type "BaseException")==À Â
section
variable{prog:Ò}{w:Û}{A:á}{E:Å->Ç->Prop}{s:Ç}{K:Ã}{a C:Æ}{ox:ò}
def LG{b:Å}{Q:Unit->Ç->Prop}(c:İ α s.heap (isInstance (.ref a) (.type "BaseException")) Â)(q:Q () s):Î α A (checkBuiltinCall "BaseException.__getattribute__" #[[.ref a,b],[]]) Q E s:=by
 have k1:builtinKind "BaseException.__getattribute__"=À .slot:=by decide +kernel
 have k2:splitId "BaseException.__getattribute__"=À ("BaseException","__getattribute__"):=by decide +kernel
 have k3:=PySem.F.args_bexc_ga (.ref a) b
 with_reducible exact @PySem.W.check_slot α A E s "BaseException.__getattribute__" "BaseException" "__getattribute__" (.ref a) [b] [] Q k1 k2 c k3 q
def OD{Q:Option Å->Ç->Prop}(X:K.In s.heap)(I:PySem.W.InstAt s.heap a ox C none)(k:Ć K (.ref C) "__getattribute__"=À (À (.builtin "BaseException.__getattribute__")))(j:Ć K (.ref C) "__getattr__"=À none)
  (q:Ħ K C none "__class__"=À (.bind (.builtin "getset_descriptor.__get__") (.builtin "object.__class__"))) (o:ĕ K C (.type "object")=À Â) (p:ĕ K C (.type "BaseException")=À Â) (h:Q (À (.ref C)) {s with toks:=s.toks+1}):
  Î (Ñ prog w) A (getAttr? (.ref a) "__class__") Q E s:=by
 obtain⟨e,g,d,t,i⟩:=s;have b:=@ώ _ _ _ _ (Ñ prog w) _ I;have n:=@ĺ _ (Ñ prog w) _ X _ _ _ k;have m:=@ĺ _ (Ñ prog w) _ X _ _ _ j;have f:=@PySem.W.looks_find _ (Ñ prog w) _ X _ _ _ _ _ _ I q;have l:İ (Ñ prog w) e (isInstance (.ref a) (.type "BaseException")) Â:=b.andThen (PySem.W.looks_mroIn X p);unfold getAttr? getAttrBy? getAttrBy;refine V5 (wpAny_mkText (V5 (aal (Yx (V5 (b.at (V5 (n.at ?_))))))));dsimp only;rw[V4 (by rw[show(Ι "BaseException.__getattribute__"==Ι "object.__getattribute__")=Á from by decide +kernel];simp)];unfold getAttrByItsOwn;have e1:hookBefore (.ref C)=Ψ (.ref C) "__getattr__":=rfl;rw[e1];refine V5 (m.at (V5 (aal (Yx ?_))));have e2:∀c:Å,callGetattribute (.ref a) c (.builtin "BaseException.__getattribute__") Á=boundAndCalled (.builtin "BaseException.__getattribute__") (.ref a) c:=λ_=>rfl;rw[e2];unfold boundAndCalled;refine V5 (Ž (aam.ga.bind (.ref a)) ?_);refine aau (codeAny_call_builtin (args:=#[[.ref a,.str "__class__" t],[]]) aam.ga.plain PySem.F.entry_bexc_ga ?_);refine LG l ?_;unfold ϗ.«object.__getattribute__»;refine V5 (Wi (V5 (Wi (V5 (b.at (V5 (f.at ?_)))))));show Î _ _ (Ė [_] (call _ [_,.ref a,.ref C]) >>= ζ) _ _ _;refine V5 (Yx (aau (PySem.W.class_get (s:=#[e,g,d,t+1,i]) (ox:=ox) (od:=none) X I o ?_)));exact Wi (Ž (PySem.W.handedOut_of rfl) (Wi h))
end
def GI(h:C7 K C=Â):PySem.W.KitX K (.ref a) (.ref C) (λg=>∃vs,g.get? a=À (Xo C vs)):=by
 simp only[C7,WA,Y0] at h;obtain⟨⟨⟨⟨⟨⟨⟨p,h1⟩,h2⟩,f⟩,o⟩,i⟩,m⟩,l⟩:=h;obtain⟨cd,h2⟩:=X9.mp h2
 have e:∃c' d' b,K.lookup C=À #[c',d',.cls cd,b]:=by
  unfold Ŵ at h2;split at h2
  .rename_i c;cases h2;exact#[_,_,_,c]
  .cases h2
 obtain⟨c',d',b,c⟩:=e
 have j:Ħ K C none "__class__"=À (.bind (.builtin "getset_descriptor.__get__") (.builtin "object.__class__")):=by
  unfold Ħ;rw[h2,ş,f,ş];simp[o,i]
 refine#[λα g _ ⟨vs,he⟩=>BR he,λα g X _=>?_,λg tp dd XP n u X d=>?_,λ{prog w A E Q s} X ⟨vs,he⟩ k=>?_]
 .intro t r E' s' k q;unfold isType loadHead;exact V5 (wpAny_loadPart (k _ _ (X _ _ c)) (Wi q))
 .refine XX.mpr λq=>?_;have z:C=tp:=Value.ref.inj (Y0.mp q);subst z;have z:=(X _ _ c).symm.trans d;cases z
 .exact OD (ox:=Xo C vs) X #[he,rfl,rfl,É] p h1 j m l k
def MZ(X:Cx)(a C:Æ):Prop:=∀ZB Y H s,Inv X ZB Y H s->∃vs,s.heap.get? a=À (Xo C vs)
def yY{X:Cx}{pn:List (Æ×ò)}(h:(a,Xo C vs)∈pn):MZ (Cx.eX X a pn) a C:=λZB Y H s I=>#[vs,(I.pin _ (Xg _ h)).1]
section
variable{X:Cx}{U:aF}{e:Õ}{b c:Bool}{p p2 pos:é}{a C Cd:Æ}{T:Í}
def x6(L:MZ X a C)(n:C7 X.K C=Â)(l:à X.K (.ref C) (.ref Cd)=À c)(m:Gl X "isinstance")(x:X.mg "isinstance"=none)(d:Gl X T)(g:X.mg T=À (.ref Cd))(ha:E X U e b (Xn.mk a))
  (i:autoParam (Ä [e,.Name T p2] X.env=(Á,Ö e X.env)::Ä [.Name T p2] X.env) zra) (f:autoParam (Ä [.Name T p2] X.env=(Á,Ö (.Name T p2) X.env)::Ä [] X.env) zra) (hpl:autoParam ((æ pos (Ä [.Name T p2] X.env)).any (·.1)=Á) zra)
  (j:autoParam ((T==("__debug__":Í))=Á) zrb):
  E X U (.Call (.Name "isinstance" p) [e,.Name T p2] [] pos) Â c:=by
 stop
  have k:gJ X (.builtin "isinstance") (λxs H Q=>xs=[.ref a,.ref Cd]/\Q (.bl c) H):=by
   intro ZB s Y H xs us Q I r h;obtain⟨rfl,q⟩:=h;obtain⟨u,A,rfl,w,o⟩:=vals2 r;cases w;cases o;obtain⟨vs,he⟩:=L ZB Y H s I;exact Ŝ (GI n) I.Dj #[vs,he] l (λz=>nomatch z) λtk=>#[.bl c,H,I.tok _,rfl,q]
  exact aG (da k m x Ĺ (aC ha (aC (BE (v:=.ref Cd) d g rfl j) aZ f) i) (he:=i) (hpl:=hpl)) λY H Q ⟨H0,F,O,S,q⟩=>#[H0,F,O,S,λv H1 t y=>#[by cases y;rfl,q _ H1 t rfl]]
def KU{d:String}(L:MZ X a C)(t:C7 X.K C=Â)(n:à X.K (.ref C) (.type d)=À c)(o:Gl X "isinstance")(B:X.mg "isinstance"=none)(f:Gl X T)(i:X.mg T=none)(k:þ T=À (.type d))(ha:E X U e b (Xn.mk a))
  (j:autoParam (Ä [e,.Name T p2] X.env=(Á,Ö e X.env)::Ä [.Name T p2] X.env) zra) (g:autoParam (Ä [.Name T p2] X.env=(Á,Ö (.Name T p2) X.env)::Ä [] X.env) zra) (hpl:autoParam ((æ pos (Ä [.Name T p2] X.env)).any (·.1)=Á) zra)
  (A:autoParam (T≠"__name__") zrb) (l:autoParam ((T==("__debug__":Í))=Á) zrb):
  E X U (.Call (.Name "isinstance" p) [e,.Name T p2] [] pos) Â c:=by
 stop
  have m:gJ X (.builtin "isinstance") (λxs H Q=>xs=[.ref a,.ty d]/\Q (.bl c) H):=by
   intro ZB s Y H xs us Q I r h;obtain⟨rfl,q⟩:=h;obtain⟨u,G,rfl,y,w⟩:=vals2 r;cases y;cases w;obtain⟨vs,he⟩:=L ZB Y H s I;exact Ŝ (GI t) I.Dj #[vs,he] n (λz=>nomatch z) λtk=>#[.bl c,H,I.tok _,rfl,q]
  exact aG (da m o B Ĺ (aC ha (aC (BV (v:=.ty d) f i k rfl A l) aZ g) j) (he:=j) (hpl:=hpl)) λY H Q ⟨H0,F,O,S,q⟩=>#[H0,F,O,S,λv H1 x D=>#[by cases D;rfl,q _ H1 x rfl]]
end
structure KN(k:Nat)(A:á):Prop where
 dp:A.depth+3*k+5<Ŀ
 un:A.units+16*k+200<ù
def dk.h{k:Nat}(r:dk k A)(v:Option Å):KN k (A.mark v):=#[r.dp,r.un]
abbrev MJ(P:Ò)(w:Û)(K:Ã)(mg:Í->Option Å)(base:Ý)(N:List Í)(qual:Í)(st:Ð)(f:Æ)(a:Å)(A:á)(outer:List ė)(s:Ç)(H:Hp):Cx:={oy nQ P w K mg base N qual (ah st) f a A outer s H E0 with calm:=Á,xe:=λ_ _=>False}
structure Hv(P:Ò)(w:Û)(K:Ã)(mg:Í->Option Å)(base:Ý)(k:Nat)(name:Í)(C:Æ)(c:Bool):Prop where
 ex:∃f:Æ,ð K (.ref f)=Â/\mg name=À (.ref f)/\∀(A:á) (outer:List ė) (s:Ç) (H:Hp) (a:Æ) (vs:Array Å),KN k A->⇑CN A outer s H->s.heap.get? a=À (Xo C vs)->H a=none->a∉s_ outer ->
  Ġ (Ñ P w) A (.call (.ref f) #[[.ref a],[]]) (CR nQ outer P w H s (λv H'=>v=.bl c/\az H H') E0) s
def Hy{X:Cx}{U:aF}{e:Õ}{b c:Bool}{p pos:é}{pn:List (Æ×ò)}{k:Nat}{name:Í}(Cl:Hv X.prog X.w X.K X.mg X.base k name C c)(l:(a,Xo C vs)∈pn)(G:dk k X.A)(B:Gl X name)(h1:E (Cx.eX X a pn) U e b (Xn.mk a))
  (d:autoParam (Ä [e] X.env=(Á,Ö e X.env)::Ä [] X.env) zra) (o:autoParam ((name==("__debug__":Í))=Á) zrb) (hpl:autoParam ((æ pos (Ä [] X.env)).any (·.1)=Á) zra):
  E (Cx.eX X a pn) U (.Call (.Name name p) [e] [] pos) Â c:=by
 stop
  obtain⟨f,α,m,run⟩:=Cl.ex
  have R:PE (Cx.eX X a pn) (.Call (.Name name p) [e] [] pos) (λY H Q=>KD (tV X.K U b (Xn.mk a)) Ms Y H λus H1=>us=[.ref a]/\∀H2,az H1 H2->Q (.bl c) H2):=by
   intro ZB s Y H Q I h;refine Yn (jB (X:=Cx.eX X a pn) I B m ?_ o);refine aad (h₀:=X.base) I.ok.mod.kin α (b9 ((aC h1 aZ d:PA (Cx.eX X a pn) [e] _) pos ZB s Y H _ I h) λus j ⟨T,H1,g,r,t,q⟩=>#[g.Dj,?_]) d hpl;subst t
   obtain⟨u,rfl,N⟩:∃u,us=[u]/\RelV (.ref a) u:=by
    cases r with
    |cons n x=>cases x;exact#[_,rfl,n]
   cases N;obtain⟨e1,e2,e3,e4,_⟩:=g.pin (a,Xo C vs) (Xg _ l);have e1:j.heap.get? a=À (Xo C vs):=e1;refine aau (ZN (run _ X.stack j H1 a vs (dk.h G _) g.Lq e1 e2 λz=>?_) λr s' i=>?_)
   .exact(V8.mp (g.o_ a z)).elim e3 e4
   .cases r with
    |error ev=>exact i.elim
    |ok L =>
     cases L with
     |ret u =>
      obtain⟨v,H',J,D,ev,P⟩:=g.after i;subst ev;exact#[_,H',J,D,q H' P]
     |next=>exact è i
     |brk=>exact è i
     |cont=>exact è i
  exact aG R λY H Q ⟨H0,F,O,S,q⟩=>#[H0,F,O,S,λv H1 j n=>#[by cases n;rfl,λH2 y=>q _ H2 (j.trans y) rfl]]
section
variable{P:Ò}{w:Û}{K:Ã}{mg:Í->Option Å}{base h:Ý}{N:List Í}{k:Nat}{x y:Í}{st:Ð}{C:Æ}{c:Bool}
def Df.Qp(D:Df K x st)(X:K.In h)(G:h.Ns Ê mg)(j:ak N [y] (ah st))(p:∀(kV doc m:Å) (α:Option Æ) (d ct:Å) (us:List Å),us.length=1->ĉ (â x x (du st) (aU st) (ah st) .none kV doc m α d ct) #[us,[]]=pure ([y].zip us))
  (hb:∀(f:Æ) (d:Å) (A:á) (outer:List ė) (s:Ç) (H:Hp) (a:Æ),MZ (⇑MJ N x st f d A outer s H) a C->S (⇑MJ N x st f d A outer s H) (wO N [.val Á (Xn.mk a)]) (aU st) (RT Â c)):⇑Hv (k+1) x C c:=by
 stop
  obtain⟨f,fd,nm,F⟩:=D;have kp:=F.kp;obtain⟨oc,od,kV,doc,m,α,d,ct,osl,rfl,lk,E⟩:=F.ex;refine#[f,kp,X4 X G nm,λA outer s H a vs Γ i he hH σ=>?_];have Q:K.In s.heap:=i.mod.kin.keeps λb o e=>(i.bs b o e).1;have lim:s.heap.NoLimit:=i.mod.nolimit.keeps λb o e=>(i.bs b o e).1
  have r:∀z∈[y].zip [ß a],(ah st).names.lookup z.1=À .local\/((ah st).names.lookup z.1=À .cell/\((å (s.heap.objs.size+1) (ah st).names []).lookup z.1).isSome=Â):=fun(n,v) hz=>by
   rcases j.par n (XZ hz).1 with q|q
   .exact .inl q
   .exact .inr #[q,Yl _ _ _ (.inl q)]
  refine ų (by have:=Γ.dp;lia) (Q _ _ lk) rfl j.co j.gen rfl (ń Q E) (BindsTo.of_eq (p kV doc m α d ct [.ref a] rfl) _ _ _ _ ?_);refine aah j.kind r λenv hE O z=>?_;subst hE;refine#[lim.keeps z.toInCall.keep,codeAny_func ?_];have e1:⇑CN {A with handled:=none} outer s H:=#[i.frames,i.mod,i.bs,i.bsz,i.j6,i.frf,i.hok,i.bare];have V:Inv (oy nQ P w K mg base N x (ah st) f d {A with handled:=none} outer s H E0) [] (start N [.ref a]) H O:=uJ (vs:=[.ref a]) (us:=[.ref a]) j rfl e1 rfl (.cons rfl .nil) z
  have I:Inv (⇑MJ N x st f d A outer s H) [] (start N [.ref a]) H O:=by
   obtain⟨ok,q1,q2,q3,T,q5,q6,q7,q8,R,t⟩:=V;exact#[#[ok.mod,ok.kind,ok.glob,ok.blt,ok.above,ok.inj,ok.has,ok.cab,λz=>ż z,ok.frames,ok.stk,ok.exf,ok.bs,ok.bsz,ok.noex,ok.exfs,ok.j6,ok.frf],q1,q2,q3,T,q5,q6,q7,q8,R,t]
  have L:MZ (⇑MJ N x st f d A outer s H) a C:=λZB Y H1 s2 I2=>#[vs,I2.base.keep a _ he hH σ (λz=>nomatch z)];have B:mP (⇑MJ N x st f d A outer s H) (aU st) (tG K (wO N [.val Á (Xn.mk a)]) (RT Â c)):=hb f d A outer s H a L;have hs:cU K H (λ_=>False) (λ_=>False) (wO N [.val Á (Xn.mk a)]) (start N [.ref a]) H:=jj (λ_ z=>z.elim) (.cons rfl .nil);refine Xl (B [] O (start N [.ref a]) H {nx:=λ_ _=>False,rt:=λv H'=>v=.bl c/\az H H'} I #[H,_,_,hs,λ_ _ _ _ _ _ z=>z.elim,λg v H' Z z e=>?_,λ_ _ _ _ _ _ z=>z.elim,λ_ _ _ _ _ _ z=>z.elim]) (λfl s' l=>?_) λ_ _ z=>z.elim
  .have e':g=.val Â c:=e;subst e';exact#[z,Z]
  .cases fl with
   |ret u =>
    obtain⟨v,Y',H',J,rv,q⟩:=l;exact#[v,H',J.os,J.bare,J.base,J.hok,rv,q]
   |next=>obtain⟨_,_,_,z⟩:=l;exact z.elim
   |brk=>obtain⟨_,_,_,z⟩:=l;exact z.elim
   |cont=>obtain⟨_,_,_,z⟩:=l;exact z.elim
end
def tZ(K:Ã)(F T N R S:Æ):Bool:=į K T Qc "ValueError.__new__"&&C7 K T&&û K (.ref T) (.ref F)==À Â&&û K (.ref T) (.ref T)==À Â&&à K (.ref T) (.type "ValueError")==À Â &&
 à K (.ref T) (.ref F)==À Â&&à K (.ref T) (.ref T)==À Â&&à K (.ref T) (.ref N)==À Á&&à K (.ref T) (.ref R)==À Á&&à K (.ref T) (.ref S)==À Á
structure Xr(K:Ã)(F T N R S:Æ):Prop where
 rz:NM K T
 kx:C7 K T=Â
 xF:û K (.ref T) (.ref F)=À Â
 xT:û K (.ref T) (.ref T)=À Â
 iV:à K (.ref T) (.type "ValueError")=À Â
 iF:à K (.ref T) (.ref F)=À Â
 iT:à K (.ref T) (.ref T)=À Â
 iN:à K (.ref T) (.ref N)=À Á
 iR:à K (.ref T) (.ref R)=À Á
 iS:à K (.ref T) (.ref S)=À Á
def Bn{F T N R S:Æ}(h:tZ K F T N R S=Â):Xr K F T N R S:=by
 simp only[tZ,WA,Y0] at h;obtain⟨⟨⟨⟨⟨⟨⟨⟨⟨h1,h2⟩,f⟩,e⟩,g⟩,d⟩,c⟩,i⟩,b⟩,a⟩:=h;exact#[h1,h2,f,e,g,d,c,i,b,a]
structure Xs(K:Ã)(mg:Í->Option Å)(F T N R S:Æ):Prop where
 mF:mg "FormError"=À (.ref F)
 mT:mg "TooGreat"=À (.ref T)
 mN:mg "NoText"=À (.ref N)
 mR:mg "NoRow"=À (.ref R)
 mS:mg "NoStep"=À (.ref S)
 mV:mg "ValueError"=none
 t:Xr K F T N R S
 n:Xr K F N R S T
 r:Xr K F R S T N
 s:Xr K F S T N R
def Ox{h:Ý}{mg:Í->Option Å}{F T N R S:Æ}(X:K.In h)(G:h.Ns Ê mg)(d:Ô K Ê "FormError"=À (À (.ref F)))(c:Ô K Ê "TooGreat"=À (À (.ref T)))(b:Ô K Ê "NoText"=À (À (.ref N)))
  (f:Ô K Ê "NoRow"=À (À (.ref R))) (j:Ô K Ê "NoStep"=À (À (.ref S))) (g:Ô K Ê "ValueError"=À none) (e:tZ K F T N R S=Â) (k:tZ K F N R S T=Â) (i:tZ K F R S T N=Â) (a:tZ K F S T N R=Â):Xs K mg F T N R S :=
 #[X4 X G d,X4 X G c,X4 X G b,X4 X G f,X4 X G j,WC X G g,Bn e,Bn k,Bn i,Bn a]
theorem pG{h:Ý}:∀{XP:List Å} {bs:List Bool},Vals (bs.map V.bl) XP->ReadsAll h XP (bs.map ħ) []
 |_,[],.nil=>.nil
 |_,b::bs,.cons r t=>by
  cases r;exact .cons (as:=[]) (.bool b) (pG t)
theorem yp{K:Ã}{N:Nn}{H:Hp}:∀{xs:List V} {bs:List Bool},Ø (λx (b:Bool)=>Py.rp K N H x b) xs bs->xs=bs.map V.bl
 |_,_,.nil=>rfl
 |_,_,.cons r t=>by
  have a:_=V.bl _:=r;rw[a,yp t];rfl
theorem all_bools:∀bs:List Bool,(bs.map ħ).all Shape.bool.has=Â
 |[]=>rfl
 |b::bs=>by
  rw[Wb,Yf,all_bools bs];rfl
section
variable{X:Cx}{U:aF}{e:Õ}{b:Bool}{ap cp p:é}{j:Nat}
def Fi{bs:List Bool}(ha:E X U e b bs)(c:autoParam (Ā e "count" X.env (Ö e X.env)=Ö e X.env) zra)
  (f:((æ cp (Ä [.Constant (.bool Â) j p] X.env)).all (λx=>!x.1)&&(Ń cp (Ĝ [] X.env)).all (λx=>x.1.isSome)
   && decide ([τ (.bool Â) j p].length+([]:List Ď).length+(if ([]:List Ď).isEmpty then 0 else 1)<30))=Â:=by rfl)
  (d:autoParam ((ap.endLine==cp.line)=Â) zra):
  E X U (.Call (.Attribute e "count" ap) [.Constant (.bool Â) j p] [] cp) Â (countIn (.bool Â) (bs.map ħ)):=by
 stop
  have n:O7 X "list.count" (λx xs H Q=>∃N,Py.rp X.K N H x bs/\xs=[.bl Â]/\Q (.int (countIn (.bool Â) (bs.map ħ))) H):=by
   intro ZB s Y H x xs v us Q I i r ⟨N,o,ex,q⟩;subst ex;obtain⟨u,rfl,t⟩:=Vals.one r;cases t;obtain⟨a,ys,rfl,sq,_,pr⟩:=o;cases i;have k:=yp pr;subst k;obtain⟨XP,m,pl,_⟩:=I.list sq;exact count_list_bools pl.isList (pG (h:=s.heap) m) (all_bools bs) #[.int _,H,I.tok _,#[_,rfl],q]
  exact aG (J4 aaK PySem.F.slot_list_count PySem.F.type_list_count n ha (aC Kk aZ) c f d) λY H Q ⟨H0,F,O,Z,q⟩=>#[H0,F,O,Z,λv H1 l g=>#[by
   obtain⟨a,ys,rfl,sq,_,pr⟩:=aw (aq _ _) g
   exact .inl #[rfl,ys,sq],#[_,aw (aq _ _) g,rfl,q _ H1 l rfl]]]
end
mutual
inductive DN(K:Ã)(N:Nn)(H:Hp):V->Ï->Prop
 |non:DN K N H .non .none
 |bl (b:Bool):DN K N H (.bl b) (.bool b)
 |int (i:Int):DN K N H (.int i) (.int i)
 |str (x:Í):DN K N H (.str x) (.str x)
 |lst {a:Æ} {xs:List V} {ds:List Ï}:dM K H a xs->N.has H a (.inl xs)->qf K N H xs ds->DN K N H (.ref a) (.list ds)
 |tup {a:Æ} {xs:List V} {ds:List Ï}:Rt H a xs->qf K N H xs ds->DN K N H (.ref a) (.tuple ds)
inductive qf(K:Ã)(N:Nn)(H:Hp):List V->List Ï->Prop
 |nil:qf K N H [] []
 |cons {x:V} {xs:List V} {d:Ï} {ds:List Ï}:DN K N H x d->qf K N H xs ds->qf K N H (x::xs) (d::ds)
end
mutual
theorem DN.tr{K:Ã}{N N':Nn}{H H':Hp}(l:∀p (o:Mt),Mo K H p o->N.has H p o->Mo K H' p o/\N'.has H' p o)(t:∀p xs,Rt H p xs->Rt H' p xs):∀{v:V} {d:Ï},DN K N H v d->DN K N' H' v d
 |_,_,.non=>.non
 |_,_,.bl b=>.bl b
 |_,_,.int i=>.int i
 |_,_,.str x=>.str x
 |_,_,.lst (xs:=xs) s n r=>.lst (l _ (.inl xs) s n).1 (l _ (.inl xs) s n).2 (qf.tr l t r)
 |_,_,.tup s r=>.tup (t _ _ s) (qf.tr l t r)
theorem qf.tr{K:Ã}{N N':Nn}{H H':Hp}(l:∀p (o:Mt),Mo K H p o->N.has H p o->Mo K H' p o/\N'.has H' p o)(t:∀p xs,Rt H p xs->Rt H' p xs):∀{v:List V} {d:List Ï},qf K N H v d->qf K N' H' v d
 |_,_,.nil=>.nil
 |_,_,.cons h r=>.cons (DN.tr l t h) (qf.tr l t r)
end
structure Dt where
 d:Ï
noncomputable instance:Py Dt where
 rp K N H v a:=DN K N H v a.d
 tr l t h:=DN.tr l t h
mutual
theorem DN.dr{K:Ã}{N:Nn}{H:Hp}:∀{v:V} {d:Ï},DN K N H v d->DR K H v d
 |_,_,.non=>.non
 |_,_,.bl b=>.bl b
 |_,_,.int i=>.int i
 |_,_,.str x=>.str x
 |_,_,.lst s _ r=>.lst s (qf.dr r)
 |_,_,.tup s r=>.tup (HE.t (.inl s)) (qf.dr r)
theorem qf.dr{K:Ã}{N:Nn}{H:Hp}:∀{v:List V} {d:List Ï},qf K N H v d->DQ K H v d
 |_,_,.nil=>.nil
 |_,_,.cons h r=>.cons (DN.dr h) (qf.dr r)
end
theorem z_{K:Ã}{N:Nn}{H:Hp}:∀{xs:List V} {ds:List Ï},qf K N H xs ds->Ø (λx (b:Dt)=>Py.rp K N H x b) xs (ds.map Dt.mk)
 |_,_,.nil=>.nil
 |_,_,.cons h r=>.cons h (z_ r)
theorem zG{K:Ã}{N:Nn}{H:Hp}:∀{xs:List V} {ds:List Dt},Ø (λx (b:Dt)=>Py.rp K N H x b) xs ds->qf K N H xs (ds.map Dt.d)
 |_,_,.nil=>.nil
 |_,_,.cons h r=>.cons h (zG r)
theorem yF{K:Ã}{N:Nn}{H:Hp}:∀{xs:List V} {ks:List Int},qf K N H xs (ks.map ç)->Ø (λx (b:Int)=>Py.rp K N H x b) xs ks
 |_,[],.nil=>.nil
 |_,k::ks,.cons h r=>by
  cases h;exact .cons rfl (yF r)
theorem x_{K:Ã}{N:Nn}{H:Hp}:∀{xs:List V} {ks:List Int},Ø (λx (b:Int)=>Py.rp K N H x b) xs ks->qf K N H xs (ks.map ç)
 |_,_,.nil=>.nil
 |_,_,.cons h r=>by
  have h':_=V.int _:=h;rw[h'];exact .cons (.int _) (x_ r)
section
variable{X:Cx}{U:aF}{M β:Type}[Py M][Py β]{e e1 e2:Õ}{b b1 b2:Bool}{p p2 pos:é}
def l7{a:M}{c:β}(h:E X U e b a)(w:∀N H v,Py.rp X.K N H v a->Py.rp X.K N H v c):E X U e b c:=by stop exact aG h λY H Q ⟨H0,F,O,S,q⟩=>#[H0,F,O,S,λv H1 f d=>q v H1 f (w _ _ _ d)]
def i9(h:E X U e b k):E X U e b (Dt.mk (.int k)):=l7 h λN H v r=>by cases r;exact DN.int k
def NY{k:Bool}(h:E X U e b k):E X U e b (Dt.mk (.bool k)):=l7 h λN H v r=>by cases r;exact DN.bl k
def o7(h:E X U e b (none:Option Int)):E X U e b (Dt.mk .none):=l7 h λN H v r=>by cases r;exact DN.non
def bj(h:E X U e b x):E X U e b (Dt.mk (.str x)):=l7 h λN H v r=>by cases r;exact DN.str x
def fh(h:E X U e b (Dt.mk (.int k))):E X U e b k:=l7 h λN H v r=>by
 have a:DN X.K N H v (.int k):=r;cases a;rfl
def b5{ks:List Int}(h:E X U e b ks):E X U e b (Dt.mk (.list (ks.map .int))):=l7 h λN H v ⟨p,xs,ev,sq,n,r⟩=>by
 subst ev;exact DN.lst sq n (x_ r)
def ik{ks:List Int}(h:E X U e b (Dt.mk (.list (ks.map .int)))):E X U e b ks:=l7 h λN H v r=>by
 have a:DN X.K N H v (.list (ks.map .int)):=r;cases a with
 |lst sq n q=>exact#[_,_,rfl,sq,n,yF q]
def sG{ds:List Dt}(h:E X U e b ds):E X U e b (Dt.mk (.list (ds.map Dt.d))):=l7 h λN H v ⟨p,xs,ev,sq,n,r⟩=>by
 subst ev;exact DN.lst sq n (zG r)
def fW{ds:List Ï}(h:E X U e b (Dt.mk (.list ds))):E X U e b (ds.map Dt.mk):=l7 h λN H v r=>by
 have a:DN X.K N H v (.list ds):=r;cases a with
 |lst sq n q=>exact#[_,_,rfl,sq,n,z_ q]
def Oj{ks:List Int}(h:E X U e b ks):E X U e b (ks.map λk=>Dt.mk (.int k)):=by
 have:=fW (b5 h);rwa[W8] at this
def cP{ds:List Ï}(h:E X U e b (Dt.mk (.tuple ds))):E X U e b (Jr.mk (ds.map Dt.mk)):=l7 h λN H v r=>by
 have a:DN X.K N H v (.tuple ds):=r;cases a with
 |tup sq q=>exact#[_,_,rfl,.inl sq,z_ q]
def DM:Ï->Bool
 |.list _=>Â
 |_=>Á
def Jh:Ï->Bool
 |.tuple _=>Â
 |_=>Á
def isIn:Ï->Bool
 |.int _=>Â
 |.bool _=>Â
 |_=>Á
def Qo:Ï->Bool
 |.bool _=>Â
 |_=>Á
def u4{xs:List V}(I:Inv X ZB Y H s)(h:HE X.K H a xs):∃o,s.heap.get? a=À o/\o.cls=.type "tuple":=by
 obtain⟨XP,b,pl,_⟩:=I.tuple h.t;obtain⟨o,h1,h2,_⟩:=pl;exact#[o,h1,h2]
def iC(g:Gl X "isinstance")(j:X.mg "isinstance"=none)(c:Gl X "list")(f:X.mg "list"=none)(ha:E X U e b (Dt.mk d))
  (i:autoParam (Ä [e,.Name "list" p2] X.env=(Á,Ö e X.env)::Ä [.Name "list" p2] X.env) zra):E X U (.Call (.Name "isinstance" p) [e,.Name "list" p2] [] pos) Â (DM d):=by
 stop
  exact pX g j c f Ym ha (λZB s Y H N v u Q I h r q=>by
    have a:DN X.K N H v d:=h;cases a with
    |non=>cases r;exact IsiPair.NoneType_list (q _)
    |bl x=>cases r;exact IsiPair.bool_list (q _)
    |int x=>obtain⟨t,rfl⟩:=r;exact IsiPair.int_list (q _)
    |str x=>obtain⟨t,rfl⟩:=r;exact IsiPair.str_list (q _)
    |lst sq n z =>
     cases r;obtain⟨XP,k,pl,_⟩:=I.list sq;obtain⟨o,h1,h2,_⟩:=pl.isList;exact IsiPair.list_list h1 h2 (q s.toks)
    |tup sq z =>
     cases r;obtain⟨o,h1,h2⟩:=u4 I (.inl sq)
     exact IsiPair.tuple_list h1 h2 (q _)) i
def Ac(g:Gl X "isinstance")(j:X.mg "isinstance"=none)(c:Gl X "tuple")(f:X.mg "tuple"=none)(ha:E X U e b (Dt.mk d))
  (i:autoParam (Ä [e,.Name "tuple" p2] X.env=(Á,Ö e X.env)::Ä [.Name "tuple" p2] X.env) zra):E X U (.Call (.Name "isinstance" p) [e,.Name "tuple" p2] [] pos) Â (Jh d):=by
 stop
  exact pX g j c f PyProof.Rows.boot_tuple ha (λZB s Y H N v u Q I h r q=>by
    have a:DN X.K N H v d:=h;cases a with
    |non=>cases r;exact IsiPair.NoneType_tuple (q _)
    |bl x=>cases r;exact IsiPair.bool_tuple (q _)
    |int x=>obtain⟨t,rfl⟩:=r;exact IsiPair.int_tuple (q _)
    |str x=>obtain⟨t,rfl⟩:=r;exact IsiPair.str_tuple (q _)
    |lst sq n z =>
     cases r;obtain⟨XP,k,pl,_⟩:=I.list sq;obtain⟨o,h1,h2,_⟩:=pl.isList;exact IsiPair.list_tuple h1 h2 (q _)
    |tup sq z =>
     cases r;obtain⟨o,h1,h2⟩:=u4 I (.inl sq)
     exact IsiPair.tuple_tuple h1 h2 (q s.toks)) i
def L3(g:Gl X "isinstance")(j:X.mg "isinstance"=none)(c:Gl X "int")(f:X.mg "int"=none)(ha:E X U e b (Dt.mk d))
  (i:autoParam (Ä [e,.Name "int" p2] X.env=(Á,Ö e X.env)::Ä [.Name "int" p2] X.env) zra):E X U (.Call (.Name "isinstance" p) [e,.Name "int" p2] [] pos) Â (isIn d):=by
 stop
  exact pX g j c f ZJ ha (λZB s Y H N v u Q I h r q=>by
    have a:DN X.K N H v d:=h;cases a with
    |non=>cases r;exact IsiPair.NoneType_int (q _)
    |bl x=>cases r;exact IsiPair.bool_int (q s.toks)
    |int x=>obtain⟨t,rfl⟩:=r;exact Ť (q s.toks)
    |str x=>obtain⟨t,rfl⟩:=r;exact IsiPair.str_int (q _)
    |lst sq n z =>
     cases r;obtain⟨XP,k,pl,_⟩:=I.list sq;obtain⟨o,h1,h2,_⟩:=pl.isList;exact IsiPair.list_int h1 h2 (q _)
    |tup sq z =>
     cases r;obtain⟨o,h1,h2⟩:=u4 I (.inl sq)
     exact IsiPair.tuple_int h1 h2 (q _)) i
def Mv(g:Gl X "isinstance")(j:X.mg "isinstance"=none)(c:Gl X "bool")(f:X.mg "bool"=none)(ha:E X U e b (Dt.mk d))
  (i:autoParam (Ä [e,.Name "bool" p2] X.env=(Á,Ö e X.env)::Ä [.Name "bool" p2] X.env) zra):E X U (.Call (.Name "isinstance" p) [e,.Name "bool" p2] [] pos) Â (Qo d):=by
 stop
  exact pX g j c f Zu ha (λZB s Y H N v u Q I h r q=>by
    have a:DN X.K N H v d:=h;cases a with
    |non=>cases r;exact IsiPair.NoneType_bool (q _)
    |bl x=>cases r;exact ŋ (q s.toks)
    |int x=>obtain⟨t,rfl⟩:=r;exact œ (q _)
    |str x=>obtain⟨t,rfl⟩:=r;exact IsiPair.str_bool (q _)
    |lst sq n z =>
     cases r;obtain⟨XP,k,pl,_⟩:=I.list sq;obtain⟨o,h1,h2,_⟩:=pl.isList;exact IsiPair.list_bool h1 h2 (q _)
    |tup sq z =>
     cases r;obtain⟨o,h1,h2⟩:=u4 I (.inl sq)
     exact IsiPair.tuple_bool h1 h2 (q _)) i
def rF{c:Ï}(b:X.A.units+60<ù)(a:d.canLay0=Â)(f:c.canLay0=Â)(e:d.depth<=60):CV X .Eq (Dt.mk d) (Dt.mk c) (ü d c):=#[_,Gs b,λN N' H u v Q h1 h2 q=>#[d,c,DN.dr h1,DN.dr h2,a,f,e,q]]
def MR{c:Ï}(b:X.A.units+60<ù)(a:d.canLay0=Â)(f:c.canLay0=Â)(e:d.depth<=60):CV X .NotEq (Dt.mk d) (Dt.mk c) (!PyData.eqv d c):=#[_,F2 b,λN N' H u v Q h1 h2 q=>#[d,c,DN.dr h1,DN.dr h2,a,f,e,q]]
def BM[PyT M]{xs:List M}(ha:E X U e1 b xs)(o:E X U e2 b2 k)(u:0<=k):E X U (.Subscript e1 (.Slice (À e2) none none p2) pos) Â (xs.drop k.toNat):=by
 stop
  exact aG (nZ qD ha (qr o) qF) λY H Q ⟨H0,F,O,S,q⟩=>#[H0,F,O,S,λv H1 c s=>#[H0,F,O,S.go c,λw H2 a j=>by
    obtain⟨p,vs,e,sq,n,r⟩:=s;refine#[k,j,p,vs,e,(aq _ _).seq ((aj a).seq sq),λl f=>?_];obtain⟨h,g⟩:=cq (xs:=ko vs (À k) none) ((S.go c).go a) f;refine q _ _ (c.trans (a.trans h)) #[l,_,rfl,dM.of g,Nf.wk (b:=Â) (((S.go c).go a).g8 f) g,?_]
    have ec:ko vs (À k) none=vs.drop k.toNat:=by
     unfold ko;have m:k=((k.toNat:Nat):Int):=by omega
     rw[m,HT.qi,HT.ot];simp only[Wm];by_cases d:k.toNat<=vs.length
     .rw[ZQ d,XD (by rw[XC];exact V_ _)]
     .rw[ZD .f,YO (V_ _),YO .f];simp
    have i:=aV (λ_ _ z=>PyT.free (N':=Nf H0 Â) (λ_ _ t=>az.rt ((aj a).trans (aj h)) t) z) (uY k.toNat r);rw[<-ec] at i
    exact i]]
def qK{ds:List M}{p:é}(c:Gl X "len")(d:X.mg "len"=none)(ha:E X U e b (Jr.mk ds))(a:autoParam (Ä [e] X.env=(Á,Ö e X.env)::Ä [] X.env) zra):E X U (.Call (.Name "len" p) [e] [] pos) Â (ds.length:Int):=by
 stop
  exact aG (da oj c d Δ (aC ha aZ a) (he:=a)) λY H Q ⟨H0,F,O,S,q⟩=>#[H0,F,O,S,λv H1 g f=>by
    obtain⟨p,vs,e,sq,r⟩:=f;refine#[p,vs,by rw[e],.inr (qJ (aq _ _) sq).t,q _ H1 g ?_];show V.int _=V.int _
    rw[bq r]]
def aQ{es:List Õ}{ds:List Dt}{k:Nat}(h:EA X U es b ds)(f:ds.length<=1000):E X U (.Tuple es k pos) b (Dt.mk (.tuple (ds.map Dt.d))):=by
 stop
  exact aG (Gp h) λY H Q ⟨H0,F,O,S,q⟩=>#[H0,F,O,S,λvs H1 e c=>#[by rw[bq c];exact Xv (bA f),λp hp=>by
    obtain⟨a,g⟩:=yc (xs:=vs) (S.go e) hp
    exact q _ _ (e.trans a) (DN.tup g (zG (aV (λ_ _ r=>aw (aj a) r) c)))]]
def iL(u:Int×Int):Ï:=.tuple [.int u.1,.int u.2]
def KH{N:Nn}{v:V}{u:Int×Int}(h:Py.rp K N H v u):DN K N H v (iL u):=by
 obtain⟨p,x,y,ev,sq,d,c⟩:=h;have a:x=V.int _:=d;have b:y=V.int _:=c;subst ev a b;exact DN.tup sq (.cons (.int _) (.cons (.int _) .nil))
def Nj{N:Nn}{v:V}{u:Int×Int}(h:DN K N H v (iL u)):Py.rp K N H v u:=by
 unfold iL at h;cases h with
 |tup sq q =>
  cases q with
  |cons h1 q =>
   cases h1;cases q with
   |cons h2 q =>
    cases h2;cases q;exact#[_,_,_,rfl,sq,rfl,rfl]
theorem AB{K:Ã}{N:Nn}{H:Hp}:∀{xs:List V} {us:List (Int×Int)},Ø (λx (b:Int×Int)=>Py.rp K N H x b) xs us->qf K N H xs (us.map iL)
 |_,_,.nil=>.nil
 |_,_,.cons h t=>.cons (KH h) (AB t)
theorem AE{K:Ã}{N:Nn}{H:Hp}:∀{xs:List V} {us:List (Int×Int)},qf K N H xs (us.map iL)->Ø (λx (b:Int×Int)=>Py.rp K N H x b) xs us
 |_,[],.nil=>.nil
 |_,u::us,.cons h t=>.cons (Nj h) (AE t)
def J7{u:Int×Int}(h:E X U e b u):E X U e b (Dt.mk (iL u)):=l7 h λN H v r=>KH r
def xH{us:List (Int×Int)}(h:E X U e b us):E X U e b (Dt.mk (.list (us.map iL))):=l7 h λN H v ⟨p,xs,ev,sq,n,r⟩=>by
 subst ev;exact DN.lst sq n (AB r)
def Hw{us:List (Int×Int)}(h:E X U e b (Dt.mk (.list (us.map iL)))):E X U e b us:=l7 h λN H v r=>by
 have a:DN X.K N H v (.list (us.map iL)):=r;cases a with
 |lst sq n q=>exact#[_,_,rfl,sq,n,AE q]
variable{D:GD}{γ:Type}[Py γ]{rest st:List Ð}
def zp[PyT M](i:Nat){as:List M}{p pl k:é}(G:X.N.Nodup)(s:Gl X "list")(L:X.mg "list"=none)(ha:E X U e b as)(h:S X (U.set i (À (.own Â as))) rest D)(d:autoParam (Ä [e] X.env=(Á,Ö e X.env)::Ä [] X.env) zra)(hi:autoParam (X.N[i]?=À x) zra)(B:autoParam (Loc X.env.scope x) zri)
  (f:autoParam (ï (.Call (.Name "list" pl) [e] [] p) (À (.Name x k)) pos.line X.env=pure Á) zra) (y:autoParam (X.fn x=Â\/X.env.scope.names.lookup x=À .local) zrd):S X U (.Assign [.Name x k] (.Call (.Name "list" pl) [e] [] p) pos::rest) D:=by
 stop
  exact dy (dE (sA G hi B (lh jH s L Ym (aC ha aZ d) (he:=d)) f y) λP Y H ⟨H0,F,O,Z,n,_⟩=>#[H0,F,O,Z,λv H1 l A=>by
    obtain⟨J,vs,ev,sq,nn,r⟩:=A;refine#[J,vs,by rw[ev],.inl ((aq _ _).seq sq),λq g=>?_];have C:=b7 g (.lst vs);have j:H q=none:=l.free g
    have α:az (off H1 O) (off (upd H1 q (.lst vs)) λp=>O p\/p=q):=λa o w=>by
     obtain⟨I,m⟩:=bE w;have c:a≠q:=bX m g;rwa[aN (by rintro(z|z);exact I z;exact c z),ax c]
    obtain⟨K,u⟩:=Z.zF (i:=i) (v:=.ref q) (l.trans C) (·=q) (λr e=>by subst e;exact#[j,.inl vs,aE]) (Bd.own Â as) É ⟨q,vs,rfl,rfl,aE,aV (λ_ _ z=>PyT.free (λ_ _ t=>az.rt α t) z) r⟩
    exact n _ _ _ _ u K h])
end
section
variable{P:Ò}{w:Û}{K:Ã}{mg:Í->Option Å}{base h:Ý}{N:List Í}{k:Nat}{x y:Í}{st:Ð}{C:Æ}{c:Í}
end
@[irreducible] def EX{M:Type}[Py M](X:Cx)(U:aF)(e:Õ)(b:Bool)(post:M->Prop):Prop:=PE X e λY H Q=>∃H0 F O,cU X.K H0 F O U Y H/\∀a v H',post a->az H H'->Py.rp X.K (Nf H0 b) (off H' O) v a->Q v H'
def HD{M:Type}[Py M](b:Bool)(post:M->Prop):GD:={nx:=λ_=>False,rt:=λg=>∃a,post a/\g=.val b a}
def C4{M β γ:Type}[Py M][Py β][Py γ](K:Ã)(pre:M->β->Prop)(b:Bool)(post:M->β->γ->Prop):Sp:=λvs H Q _=>∃O v w a c,mh H O/\vs=[v,w]/\Py.rp K .any .F v a/\Py.rp K .any .F w c/\pre a c/\∀z r H',post a c z->az H H'->Py.rp K (Nf H b) (off H' O) r z->Q r H'
def C3{M β γ δ:Type}[Py M][Py β][Py γ][Py δ](K:Ã)(pre:M->β->γ->Prop)(b:Bool)(post:M->β->γ->δ->Prop):Sp:=λvs H Q _=>∃O v w x a c d,mh H O/\vs=[v,w,x]/\Py.rp K .any .F v a/\Py.rp K .any .F w c/\Py.rp K .any .F x d/\pre a c d/\∀z r H',post a c d z->az H H'->Py.rp K (Nf H b) (off H' O) r z->Q r H'
section
variable{X:Cx}{U:aF}{D:GD}{M β γ δ:Type}[Py M][Py β][Py γ][Py δ]{e e1 e2 e3:Õ}{b b1 b2 b3:Bool}{p pos:é}{rest:List Ð}{k:Nat}{name:Í}{ps:List Í}
def xX{pre:M->β->Prop}{post:M->β->γ->Prop}{a:M}{c:β}(C:aK X.prog X.w X.K X.mg X.base k name ps (C4 X.K pre b post))(l:dk k X.A)(j:Gl X name)(h1:E X U e1 b1 a)(h2:E X U e2 b2 c)(hp:pre a c)
  (d:autoParam (Ä [e1,e2] X.env=(Á,Ö e1 X.env)::Ä [e2] X.env) zra) (g:autoParam (Ä [e2] X.env=(Á,Ö e2 X.env)::Ä [] X.env) zra) (h:autoParam ((name==("__debug__":Í))=Á) zrb) (hpl:autoParam ((æ pos (Ä [e2] X.env)).any (·.1)=Á) zra):
  EX X U (.Call (.Name name p) [e1,e2] [] pos) b (post a c):=by
 stop
  obtain⟨v,fd,F,B,u,m⟩:=C.ex
  exact aG (lg F l j m u B .nil rM (aC h1 (aC h2 aZ g) d) h d hpl) λY H Q ⟨H0,F,O,S,q⟩=>#[H0,F,O,S,λs H1 f t=>#[H0,F,O,S.go f,λo H2 e i =>
   #[O,s,o,a,c,(S.go (f.trans e)).own,rfl,bB bR (aw (aj e) t),bB bR i,hp,λz r H' hz s' n=>q z r H' hz (f.trans (e.trans s')) ((S.go (f.trans e)).back n)]]]
def yk{pre:M->β->γ->Prop}{post:M->β->γ->δ->Prop}{a:M}{c:β}{d:γ}(C:aK X.prog X.w X.K X.mg X.base k name ps (C3 X.K pre b post))(t:dk k X.A)(o:Gl X name)(h1:E X U e1 b1 a)(h2:E X U e2 b2 c)(s:E X U e3 b3 d)(hp:pre a c d)
  (g:autoParam (Ä [e1,e2,e3] X.env=(Á,Ö e1 X.env)::Ä [e2,e3] X.env) zra) (i:autoParam (Ä [e2,e3] X.env=(Á,Ö e2 X.env)::Ä [e3] X.env) zra) (j:autoParam (Ä [e3] X.env=(Á,Ö e3 X.env)::Ä [] X.env) zra)
  (l:autoParam ((name==("__debug__":Í))=Á) zrb) (hpl:autoParam ((æ pos (Ä [e2,e3] X.env)).any (·.1)=Á) zra):
  EX X U (.Call (.Name name p) [e1,e2,e3] [] pos) b (post a c d):=by
 stop
  obtain⟨L,fd,F,B,I,m⟩:=C.ex
  exact aG (lg F t o m I B .nil rM (aC h1 (aC h2 (aC s aZ j) i) g) l g hpl) λY H Q ⟨H0,F,O,S,q⟩=>#[H0,F,O,S,λD H1 f G=>#[H0,F,O,S.go f,λx H2 e n=>#[H0,F,O,S.go (f.trans e),λv J h y =>
   #[O,D,x,v,a,c,d,(S.go (f.trans (e.trans h))).own,rfl,bB bR (aw ((aj e).trans (aj h)) G),bB bR (aw (aj h) n),bB bR y,hp,λz r H' hz s' u=>q z r H' hz (f.trans (e.trans (h.trans s'))) ((S.go (f.trans (e.trans h))).back u)]]]]
def OS{a:M}{post:M->Prop}(h:E X U e b a)(hp:post a):EX X U e b post:=by stop exact aG h λY H Q ⟨H0,F,O,S,q⟩=>#[H0,F,O,S,λv H' s' r=>q a v H' hp s' r]
def Kb{post c:M->Prop}(h:EX X U e b post)(hp:∀a,post a->c a):EX X U e b c:=by stop exact aG h λY H Q ⟨H0,F,O,S,q⟩=>#[H0,F,O,S,λa v H' hz s' r=>q a v H' (hp a hz) s' r]
def GQ(i:Nat){post:M->Prop}{p:é}(g:X.N.Nodup)(he:EX X U e b post)(h:∀a,post a->S X (U.set i (À (.val b a))) rest D)(hi:autoParam (X.N[i]?=À x) zra)(d:autoParam (Loc X.env.scope x) zri)
  (j:autoParam (ï e (À (.Name x p)) pos.line X.env=pure Á) zra) (f:autoParam (X.fn x=Â\/X.env.scope.names.lookup x=À .local) zrd):S X U (.Assign [.Name x p] e pos::rest) D:=by stop exact dy (dE (sA g hi d he j f) λl Y H ⟨H0,F,O,Z,n,_⟩=>#[H0,F,O,Z,λa v H1 hz c k=>n _ _ H1 O (aj c) ((Z.go c).set k) (h a hz)])
variable{P:Ò}{w:Û}{K:Ã}{mg:Í->Option Å}{base:Ý}{N:List Í}{x qual:Í}{st:Ð}{f:Æ}{fd:ì}
def pk{d:List Bd}{vs:List V}{O:Æ->Prop}{M:Type}[Py M]{b:Bool}{post:M->Prop}{Q:VK}{c:Å}{outer:List ė}{E:XK}(B:⇑Body N qual st f k d (HD b post))(l:dk k (A.deeper (Č qual (ah st) s.heap.objs.size f c)))
  (i:mh H O) (h:Args K .F vs d) (q:∀a r H',post a->az H H'->Py.rp K (Nf H b) (off H' O) r a->Q r H'):
  ∃t,mP (oy nQ P w K mg base N qual (ah st) f c A outer s H E).Ha (aU st) t/\t {nx:=λ_ H'=>Q .non H',rt:=Q} (start N vs) H:=by stop refine#[_,B c A outer s H E l,H,O,O,jj i h,λ_ _ _ _ _ _ z=>z.elim,λg v H' j z e=>?_,λ_ _ _ _ _ _ z=>z.elim,λ_ _ _ _ _ _ z=>z.elim];obtain⟨a,ha,m⟩:=e;subst m;exact q a v H' ha j z
def NN{M β γ:Type}[Py M][Py β][Py γ]{pre:M->β->Prop}{b:Bool}{post:M->β->γ->Prop}(F:p8 K x qual st f fd)(m:ak N ps (ah st))(d:ps.length=2)(B:∀a c,pre a c->⇑Body N qual st f k [.val Á a,.val Á c] (HD b (post a c))):
  dY P w K mg base nQ (k+1) f fd ps (C4 K pre b post):=by
 stop
  refine F.ok m (λvs H Q E h=>?_) λl A outer s H vs Q E i h=>?_
  .obtain⟨O,v,j,a,c,_,rfl,_⟩:=h;rw[d];rfl
  .obtain⟨O,v,j,a,c,g,rfl,r,e,hp,q⟩:=h;exact pk (B a c hp) i g (.cons r (.cons e .nil)) q
def N0{M β γ δ:Type}[Py M][Py β][Py γ][Py δ]{pre:M->β->γ->Prop}{b:Bool}{post:M->β->γ->δ->Prop}(F:p8 K x qual st f fd)(p:ak N ps (ah st))(e:ps.length=3)(B:∀a c d,pre a c d->⇑Body N qual st f k [.val Á a,.val Á c,.val Á d] (HD b (post a c d))):
  dY P w K mg base nQ (k+1) f fd ps (C3 K pre b post):=by
 stop
  refine F.ok p (λvs H Q E h=>?_) λo A outer s H vs Q E j h=>?_
  .obtain⟨O,v,m,l,a,c,d,_,rfl,_⟩:=h;rw[e];rfl
  .obtain⟨O,v,m,l,a,c,d,i,rfl,r,g,n,hp,q⟩:=h;exact pk (B a c d hp) j i (.cons r (.cons g (.cons n .nil))) q
end
end L2.EP
namespace L2
open PySem PySem.Spec PyProof.Rows
section
variable{prog:Ò}{w:Û}{A:á}{E:Å->Ç->Prop}{s:Ç}{d it:Æ}{o od:ò}{es:Array DictEntry}{ep i:Nat}
def Gm{Q:Å->Ç->Prop}(g:(d==ê)=Á)(b:s.heap.get? d=À o)(e:o.ExactDict)(a:o.data=.dict es ep)
  (f:Q (.ref s.heap.objs.size) {s with heap:=s.heap.push {cls:=.type "dict_keyiterator",data:=.fields (ã [.ref d,.int 0 0,.int es.size 0,.int ep 0])}}):
  Î (Ñ prog w) A (Ū (.ref d)) Q E s:=by
 have c:s.TypeIs (.ref d) "dict":=#[o,b,e.1];refine wpAny_pyIter_slot c ς (aaI ς c F.entry_dict_iter ?_ (F.args_dict_iter_1 _));unfold ϗ.«dict.__iter__»;refine V5 ?_;unfold Builtin.Dict.dictSlotNone;refine V5 (ű c ?_);show Î _ _ (pure (ß d)) _ _ s;refine Wi ?_;show Î _ _ (Ī d >>= _) _ _ s;unfold Ī;rw[V4 (by rw[g];exact Wn)];refine V5 (Wi (V5 (Zs b a (V5 (aaP b a ?_)))));refine V5 (Zr (Wi #[_,rfl,"dict_keyiterator",_,#[_,WS _ rfl,rfl],XW.lookup,?_]));simpa [Ē] using f
def FI{Q:Option Å->Ç->Prop}(hit:s.heap.IsKeyIter it d i es.size ep)(b:s.heap.get? d=À od)(e:od.data=.dict es ep)(g:i<es.size)
  (j:∀h',h'.IsKeyIter it d (i+1) es.size ep->ć it s.heap h'->Q (À es[i].key) {s with heap:=h'}):
  Î (Ñ prog w) A (ŀ (.ref it)) Q E s:=by
 obtain⟨o,f,h,c⟩:=id hit;unfold ŀ;refine V5 (aal (Ř (name:=Ϟ "__next__") hit.typeIs XW (aaI XW hit.typeIs ZY ?_ (ZV _))));refine V5 (Wi (V5 (V5 ?_)))
 first|refine V5 (Yg hit.typeIs (Wi (V5 (Z_ f c ?_))))|refine V5 (YH hit.typeIs (Wi (V5 (Z_ f c ?_))))
 simp only[show Đ "dict_keyiterator"=Á by decide,YL,YY];show Î _ _ (if (ß d==õ)=Â then _ else _) _ _ s;rw[V4 (show ¬((ß d==õ)=Â) from Wn)];refine V5 (Wi (V5 (Zs b e ?_)));rw[V4 .c];refine V5 (Wi (V5 (aaP b e ?_)));rw[V4 .c];refine Wi ?_;simp only[show ¬((i:Int)<0) from by lia,YY,Wm,aav g];refine V5 ?_
 first|refine V5 (Yg hit.typeIs (Wi (V5 (ZL hit.typeIs ?_))))|refine V5 (YH hit.typeIs (Wi (V5 (ZL hit.typeIs ?_))))
 show Î _ _ (setField (.ref it) 1 (Ē ((i:Int)+1)) >>= _) _ _ s;refine V5 (Zj f c .c ?_);have a:(s.heap.update it (ě (·.setIfInBounds 1 (Ē ((i:Int)+1))))).IsKeyIter it d (i+1) es.size ep:=#[_,Yr _ f (Ň (Zi c _)),(Obj.cls_mapFields ..).trans h,by rw[Zi c];simp[Ē]];refine V5 (Yx (V5 (ZL (s:={s with heap:=s.heap.update it (ě (·.setIfInBounds 1 (Ē ((i:Int)+1))))}) a.typeIs ?_)));show Î _ _ (pure es[i].key) _ _ _;exact Wi (Wi #[_,rfl,Wi (j _ a (YI ..))])
def next_end{Q:Option Å->Ç->Prop}(k:A.handled=none)(hit:s.heap.IsKeyIter it d i es.size ep)(c:s.heap.get? d=À od)(e:od.data=.dict es ep)(g:es.size<=i)
  (j:∀h',Heap.ExtBut it s.heap h'->Q none {s with heap:=h'}):Î (Ñ prog w) A (ŀ (.ref it)) Q E s:=by
 obtain⟨o,h,l,f⟩:=id hit;unfold ŀ;refine V5 (aal (Ř (name:=Ϟ "__next__") hit.typeIs XW (aaI XW hit.typeIs ZY ?_ (ZV _))));refine V5 (Wi (V5 (V5 ?_)))
 first|refine V5 (Yg hit.typeIs (Wi (V5 (Z_ h f ?_))))|refine V5 (YH hit.typeIs (Wi (V5 (Z_ h f ?_))))
 simp only[show Đ "dict_keyiterator"=Á by decide,YL,YY];show Î _ _ (if (ß d==õ)=Â then _ else _) _ _ s;rw[V4 (show ¬((ß d==õ)=Â) from Wn)];refine V5 (Wi (V5 (Zs c e ?_)));rw[V4 .c];refine V5 (Wi (V5 (aaP c e ?_)));rw[V4 .c];refine Wi ?_;simp only[show ¬((i:Int)<0) from by lia,YY,Wm,Array.getElem?_eq_none g];refine V5 ?_
 first|refine V5 (Yg hit.typeIs (Wi ?_))|refine V5 (YH hit.typeIs (Wi ?_))
 show Î _ _ (setField (.ref it) 0 .none >>= _) _ _ s;refine V5 (Zj h f .c ?_);show Î _ _ (newExc (.type "StopIteration") [] >>= _) _ _ _;refine V5 ?_;simp only[newExc,newTuple];refine V5 (Zr ?_ (by size_fits));refine V5 (m:=firstArgMember _ _) (Ž (a:=õ) (by first|rfl|(simp only[firstArgMember];rfl)) (Zr ?_ (by size_fits)));simp only[raiseNew];refine V5 (wpAny_handled ?_);rw[show A.in1.handled=none from k];refine V5 (Wi (wpAny_throw ?_));refine V5 (wpAny_isInstance (T:="StopIteration") (b:=Â) #[_,WS _ rfl,rfl] isSubtype_stop (Wi ?_));exact j _ (((YI ..).extBut.push _).push _)
end
def QU(a : Æ)(o : ò)(XV : List ((Int×Bool)×V)) : It :=
  #[λi H=>H a=À (.frz o (.dB XV))/\i<XV.length,
   λi H x H'=>H'=H/\∃c b,XV[i]?=À c/\x=.ref b/\H b=À (.tup (kB c.1)),
   λi H=>H a=À (.frz o (.dB XV))/\XV.length<=i]
def zK{P:Ò}{w:Û}{K:Ã}{tg:Õ}(a it:Æ)(o:ò)(XV:List ((Int×Bool)×V)):Turn P w K tg (QU a o XV) [it] it (λi h=>∃es ep,o.data=.dict es ep/\h.IsKeyIter it a i XV.length ep) where
 mem:=by simp
 obj:=λi h st b f=>by
  have e:b=it:=by simpa using f
  subst e;obtain⟨es,ep,_,o',e,c,d⟩:=st;exact#[o',e,λv z=>by rw[d] at z;cases z]
 keep:=λi h h' st k=>by
  obtain⟨es,ep,e,st⟩:=st;exact#[es,ep,e,st.at λo e=>k it .c o e]
 item:=by
  intro X A α u O i ZB s Y H E I n st t;subst A α u;obtain⟨es,ep,g,st⟩:=st;obtain⟨L,hi⟩:=t;obtain⟨go,hz,hs,xs,q,o',J,C,e1,S,j,p,Q⟩:=(show bT X.prog X.w H s.heap a (.frz o (.dB XV)) from I.hok a _ L);rw[go] at e1;cases e1;rw[g] at j;cases j;have r:XV.length=xs.length:=Yv q;have hsz:es.size=XV.length:=by rw[r];exact ZW p
  obtain⟨G,B,T,N,F,D⟩:=n it .c;have m:i<es.size:=by lia
  rw[<-hsz] at st;refine FI st go g m λh' l R=>?_;have I1:Inv X ZB Y H {s with heap:=h'}:=I.turned (t':=s.toks) (λb o f e=>(R.2 b f).trans e) G B N F D;obtain⟨o2,e2,c2,Z⟩:=id l;obtain⟨x,hx⟩:∃x,xs[i]?=À x:=#[xs[i]'.a,V7 .a];obtain⟨y,Γ,q1,σ,q3⟩:=EP.qd q (V7 hi)
  have e6:es[i].key=.ref y.2.1:=by
   have:=entry_at p i;rw[Γ,aav m] at this;rw[Wj this];rfl
  refine#[es[i].key,rfl,Bs (s:={s with heap:=h'}) e2 c2 Z .b #[.ref y.2.1,H,I1,e6,#[rfl,_,y.2.1,V7 hi,rfl,σ],#[es,ep,g,by rwa[<-hsz]],λb f=>(n b f).1]]
 done:=by
  intro X A α u O i ZB s Y H E I n st t;subst A α u;obtain⟨es,ep,g,st⟩:=st;obtain⟨L,hi⟩:=t;obtain⟨go,hz,hs,xs,q,o',J,C,e1,S,j,p,Q⟩:=(show bT X.prog X.w H s.heap a (.frz o (.dB XV)) from I.hok a _ L);rw[go] at e1;cases e1;rw[g] at j;cases j;have r:XV.length=xs.length:=Yv q;have hsz:es.size=XV.length:=by rw[r];exact ZW p
  obtain⟨G,B,T,N,F,D⟩:=n it .c;rw[<-hsz] at st;exact next_end (I.ok.hd O) st go g .a λh' eb=>#[rfl,I.turned (t':=s.toks) (λb o f e=>eb b o f e) G B N F D]
 self:=λ_ _ _ _ _ st h=>by
  obtain⟨es,ep,_,st⟩:=st;exact wpAny_pyIter_keyiter st h
def G6(XV:List ((Int×Bool)×V))(u:HO):Prop:=u=.dB XV\/∃o,u=.frz o (.dB XV)
section
variable{X:Cx}{tg:Õ}{ZB:List (Æ×ò)}{Y:St}{H:Hp}{s:Ç}{a:Æ}{u0 u:HO}{XV:List ((Int×Bool)×V)}
def Inv.Km(I:Inv X ZB Y H s)(e:H a=À u0)(i:G6 XV u0)(ok:bT X.prog X.w H s.heap a u)(y:∀o' l,X.H₀ a=À (.frz o' l)->u=.frz o' l):Inv X ZB Y (upd H a u) s:=by
 have h:∀b,H b=none->b≠a:=λb n z=>by subst z;rw[n] at e;cases e
 have j:∀b xs,H b=À (.tup xs)->b≠a:=λb xs q z=>by
  subst z;rw[e] at q;rcases i with d|⟨o,d⟩<;>(rw[d] at q;cases q)
 have t:∀b x,H b=À (.own x)->b≠a:=λb xs q z=>by
  subst z;rw[e] at q;rcases i with d|⟨o,d⟩<;>(rw[d] at q;cases q)
 have st:∀b v,bT X.prog X.w H s.heap b v->bT X.prog X.w (upd H a u) s.heap b v:=λb v z=>z.rh (λc v _ q=>q) (λc q=>by rwa[ax (t c _ q)]) λc xs q=>by rwa[ax (j c xs q)]
 refine#[I.ok,I.os,I.bare,#[I.base.keep,I.base.slot,λb o q n m=>?_,I.base.there,λb xs q=>?_,λb o v q=>?_,λb ps q=>?_],I.loc,I.cell,?_,λx c q=>?_,λp hp=>?_,λb v q=>?_,I.len]
 .have:=I.base.free b o q n m;rw[ax (h b this)];exact this
 .have:=I.base.tups b xs q;rw[ax (j b xs this)];exact this
 .by_cases f:b=a
  .subst f;rw[aE,y _ _ q]
  .rw[ax f];exact I.base.frzs b o v q
 .obtain⟨more,g⟩:=I.base.tbls b ps q
  have f:b≠a:=λz=>by
   subst z;rw[e] at g;rcases i with d|⟨o,d⟩<;>(rw[d] at g;cases g)
  exact#[more,by rw[ax f];exact g]
 .rw[ax (h _ I.free)];exact I.free
 .rw[ax (h _ (I.freeC x c q))];exact I.freeC x c q
 .obtain⟨q1,k,r⟩:=I.pin p hp;exact#[q1,by rwa[ax (h _ k)],r]
 .by_cases f:b=a
  .subst f;rw[aE] at q;cases q;exact st _ _ ok
  .rw[ax f] at q;exact st _ _ (I.hok b v q)
def Fd(X:Cx)(tl:TE):TI:=λY H R=>tl Y H λx H1=>∃a XV u,x=.ref a/\H1 a=À u/\G6 XV u /\
 ∀o,(u=.dB XV\/u=.frz o (.dB XV))->(∀o' b,X.H₀ a=À (.frz o' b)->u=.frz o' b)->R (QU a o XV) (upd H1 a (.frz o (.dB XV)))
def FR{l:Õ}{tl:TE}(m:PE X l tl):PI X tg l (Fd X tl):=by
 intro ZB s Y H R I h;refine b9 (m ZB s Y H _ I h) λv f ⟨x,H1,k,t,q1⟩=>?_;obtain⟨a,XV,u,e,i,p,q⟩:=q1;subst e;cases t
 have rd:Rd H1 a (.dB XV):=by
  rcases p with d|⟨o,d⟩
  .exact .inl (by rw[i,d])
  .exact .inr #[o,by rw[i,d]]
 have g:=(show bT X.prog X.w H1 f.heap a (.dB XV) from Bv k.hok rd);obtain⟨hz,E,xs,C,o,es,ep,e1,t,y,D,F⟩:=id g
 have j:u=.dB XV\/u=.frz o (.dB XV):=by
  rcases p with d|⟨o',d⟩
  .exact .inl d
  .refine .inr ?_;have:=(show bT X.prog X.w H1 f.heap a (.frz o' (.dB XV)) from k.hok a _ (by rw[i,d])).1;rw[e1] at this;rw[d,Wj this]
 have A:∀o' c,X.H₀ a=À (.frz o' c)->u=.frz o' c:=λo' c z=>by
  have:=k.base.frzs a o' c z;rw[i] at this;exact Wj this
 have n:∀o' c,X.H₀ a=À (.frz o' c)->HO.frz o (.dB XV)=.frz o' c:=λo' c z=>by
  have:=A o' c z;rcases j with d|d
  .rw[d] at this;cases this
  .rw[<-d];exact this
 have r:=k.Km (u:=.frz o (.dB XV)) i p #[e1,g] n;refine Gm E e1 t y ?_;have m:XV.length=xs.length:=Yv C;have hsz:es.size=XV.length:=by rw[m];exact ZW D
 refine#[f.heap.objs.size,[f.heap.objs.size],_,_,_,rfl,r.kept (t':=f.toks) λb o e=>Ww _ e,zK a _ o XV,#[es,ep,y,by rw[<-hsz];exact#[_,WS _ rfl,rfl,rfl]],λb B=>?_,q o j A];have e:b=f.heap.objs.size:=by simpa using B
 subst e;exact r.Dl (V_ _) (r.hok.fresh (V_ _))
def QH(X:Cx)(D:Ends):Ends:={D with
 nx:=λY' H'=>∃a XV u o,H' a=À (.frz o (.dB XV))/\(u=.dB XV\/u=.frz o (.dB XV))/\(∀o' b,X.H₀ a=À (.frz o' b)->u=.frz o' b)/\D.nx Y' (upd H' a u)
 rt:=λv H'=>D.rt v H'\/∃a XV u o,H' a=À (.frz o (.dB XV))/\(u=.dB XV\/u=.frz o (.dB XV))/\(∀o' b,X.H₀ a=À (.frz o' b)->u=.frz o' b)/\D.rt v (upd H' a u)}
def Inv.GR{o:ò}(I:Inv X ZB Y H s)(e:H a=À (.frz o (.dB XV)))(c:u=.dB XV\/u=.frz o (.dB XV))(f:∀o' b,X.H₀ a=À (.frz o' b)->u=.frz o' b):Inv X ZB Y (upd H a u) s:=by
 have ok:=(show bT X.prog X.w H s.heap a (.frz o (.dB XV)) from I.hok a _ e);refine I.Km e (.inr #[o,rfl]) ?_ f;rcases c with d|d
 .rw[d];exact ok.2
 .rw[d];exact ok
def Ea{l:Õ}{tl:TE}{body:List Ð}{g:TG}{tb:TS}{pos:é}(hp:Ă .E X.A X.env X.xe)(k:X.calm=Â)(j:PE X l tl)(m:PG X tg g)(n:mP X body tb)
  (p:autoParam (∀x,Ù l X.env x=pure x) zrc):PS X (.For tg l body [] pos) (λD Y H=>NW (Fd X tl) g tb (QH X D) Y H):=by
 intro ZB s Y H D I h;refine b9 (pb hp k (FR j) m n p ZB s Y H (QH X D) I h) λf s' q=>?_;cases f with
 |next =>
  obtain⟨Y',H',b,a,XV,u,o,e,c,d,q⟩:=q;exact#[Y',_,b.GR e c d,q]
 |brk=>exact q
 |cont=>exact q
 |ret v =>
  obtain⟨i,Y',H',b,r,q|⟨a,XV,u,o,e,c,d,q⟩⟩:=q
  .exact#[i,Y',H',b,r,q]
  .exact#[i,Y',_,b.GR e c d,r,q]
end
end L2
namespace L2.EP
open PySem PySem.Spec PyProof.Rows
variable{k:Int×Bool}{v:V}{H:Hp}{XV:List ((Int×Bool)×V)}{K:Ã}{N:Nn}
structure Db(β:Type) where
 l:List ((Int×Bool)×β)
def Db.val{β:Type}(d:Db β)(k:Int×Bool):Option β:=(d.l.find? λu=>decide (u.1=k)).map (·.2)
def Db.put{β:Type}(d:Db β)(k:Int×Bool)(c:β):Db β:=#[if (d.l.any λu=>decide (u.1=k))=Â then d.l.map (λu=>if u.1=k then (u.1,c) else u) else d.l++[(k,c)]]
def DB{β:Type}[Py β](K:Ã)(N:Nn)(H:Hp)(x:(Int×Bool)×V)(y:(Int×Bool)×β):Prop:=x.1=y.1/\Py.rp K N H x.2 y.2
noncomputable instance{β:Type}[Py β]:Py (Db β) where
 rp K N H v d:=∃p XV,v=.ref p/\Rd H p (.dB XV)/\N.has H p (.inB XV)/\Ø (DB K N H) XV d.l
 tr l t h:=by
  obtain⟨p,XV,e,s,n,r⟩:=h;obtain⟨s',a⟩:=l _ (.inB XV) s n;exact#[p,XV,e,s',a,aV (λ_ _ q=>#[q.1,Py.tr l t q.2]) r]
open Classical in
noncomputable def yQ(H0:Hp)(a:Æ)(o:ò)(XV:List ((Int×Bool)×V)):Hp:=if H0 a=none then H0 else upd H0 a (.frz o (.dB XV))
section
variable{K:Ã}{H0 H H':Hp}{F O:Æ->Prop}{U:aF}{Y:St}{a:Æ}{u:HO}{XV:List ((Int×Bool)×V)}{o:ò}
def nP{p:Æ}:yQ H0 a o XV p=none↔H0 p=none:=by
 unfold yQ;split
 .exact Iff.rfl
 .rename_i h;by_cases e:p=a
  .subst e;rw[aE];exact#[λz=>(by cases z),λz=>absurd z h]
  .rw[ax e]
def vI{p:Æ}(h:p≠a):yQ H0 a o XV p=H0 p:=by
 unfold yQ;split
 .rfl
 .rw[ax h]
def EV(h:H0 a≠none):yQ H0 a o XV a=À (.frz o (.dB XV)):=by
 unfold yQ;rw[V4 h,aE]
def vf{G g:Hp}{u i:HO}(ne:∀b,b≠a->g b=G b)(e:G a=À u)(j:g a=À i)(d:G6 XV u)(d':G6 XV i){p:Æ}{m:Mt}(h:Mo K G p m):Mo K g p m:=by
 by_cases hp:p=a
 .subst hp;cases m with
  |inl xs =>
   rcases h with(h|⟨c,h⟩)|h
   .rw[e] at h;rcases d with d|⟨f,d⟩<;>(rw[d] at h;cases h)
   .rw[e] at h;rcases d with d|⟨f,d⟩<;>(rw[d] at h;cases h)
   .exact .inr h
  |inB ks =>
   have ek:ks=XV:=by
    rcases h with h|⟨c,h⟩
    .rw[e] at h;rcases d with d|⟨f,d⟩<;>(rw[d] at h;cases h);rfl
    .rw[e] at h;rcases d with d|⟨f,d⟩<;>(rw[d] at h;cases h);rfl
   subst ek;rcases d' with d'|⟨f,d'⟩
   .exact .inl (by rw[j,d'])
   .exact .inr #[f,by rw[j,d']]
  |inT ks =>
   exfalso;rcases h with h|⟨c,h⟩
   .rw[e] at h;rcases d with d|⟨f,d⟩<;>(rw[d] at h;cases h)
   .rw[e] at h;rcases d with d|⟨f,d⟩<;>(rw[d] at h;cases h)
  |inr ks =>
   exfalso;rcases h with h|⟨c,h⟩
   .rw[e] at h;rcases d with d|⟨f,d⟩<;>(rw[d] at h;cases h)
   .rw[e] at h;rcases d with d|⟨f,d⟩<;>(rw[d] at h;cases h)
 .cases m with
  |inl xs =>
   rcases h with(h|⟨c,h⟩)|h
   .exact .inl (.inl (by rw[ne p hp];exact h))
   .exact .inl (.inr #[c,by rw[ne p hp];exact h])
   .exact .inr h
  |inr ks =>
   rcases h with h|⟨c,h⟩
   .exact .inl (by rw[ne p hp];exact h)
   .exact .inr #[c,by rw[ne p hp];exact h]
  |inT ks =>
   rcases h with h|⟨c,h⟩
   .exact .inl (by rw[ne p hp];exact h)
   .exact .inr #[c,by rw[ne p hp];exact h]
  |inB ks =>
   rcases h with h|⟨c,h⟩
   .exact .inl (by rw[ne p hp];exact h)
   .exact .inr #[c,by rw[ne p hp];exact h]
def qk{G c:Hp}{u:HO}(ne:∀b,b≠a->c b=G b)(e:G a=À u)(d:G6 XV u){p:Æ}{xs:List V}(h:Rt G p xs):Rt c p xs:=by
 have hp:p≠a:=λz=>by
  subst z;rcases h with h|⟨f,h⟩
  .rw[e] at h;rcases d with d|⟨g,d⟩<;>(rw[d] at h;cases h)
  .rw[e] at h;rcases d with d|⟨g,d⟩<;>(rw[d] at h;cases h)
 rcases h with h|⟨f,h⟩
 .exact .inl (by rw[ne p hp];exact h)
 .exact .inr #[f,by rw[ne p hp];exact h]
def cU.ND(Z:cU K H0 F O U Y H)(ha:¬O a)(e:H a=À u)(j:G6 XV u):cU K (yQ H0 a o XV) F O (M_ U) Y (upd H a (.frz o (.dB XV))):=by
 have ne:∀b,b≠a->upd H a (.frz o (.dB XV)) b=H b:=λb d=>ax d;have l:∀p,O p->p≠a:=λp h z=>ha (z▸h);have E:off H O a=À u:=by rwa[aN ha]
 have y:off (upd H a (.frz o (.dB XV))) O a=À (.frz o (.dB XV)):=by rw[aN ha];exact aE
 have d':G6 XV (.frz o (.dB XV)):=.inr #[o,rfl]
 have any:∀{β:Type} [Py β] {N:Nn} {v:V} {x:β},Py.rp K N .F v x->Py.rp K .any (off (upd H a (.frz o (.dB XV))) O) v x:=λr =>
  Py.tr (λp m h _=>#[vf (off_ne ne) E y j d' h,É]) (λp xs h=>qk (off_ne ne) E j h) r
 refine#[λb w h=>?_,Z.fo,λp h=>?_,λp h=>?_,?_,λi g s k=>?_,?_]
 .by_cases d:b=a
  .subst d;have k:H0 b≠none:=λz=>by rw[nP.mpr z] at h;cases h
   rw[EV k] at h;rw[aE];exact h
  .rw[vI d] at h;rw[ax d];exact Z.same _ _ h
 .obtain⟨xs,q⟩:=Z.f0 p h;exact#[xs,by rwa[vI (l p (Z.fo p h))]]
 .obtain⟨xs,q⟩:=Z.own p h;exact#[xs,by rwa[ax (l p h)]]
 .unfold M_;rw[V2];exact Z.len
 .obtain⟨A,c,rfl⟩:=A4 s;cases A with
  |val b x =>
   obtain⟨v,h1,h2⟩:=Z.at_ i _ c (λz=>z);exact#[v,h1,any h2]
  |own b as=>exact absurd É k
  |dpo x=>exact absurd É k
 .obtain⟨D,L,f,C⟩:=Z.dis;refine#[D,L,λi p h=>#[(f i p h).1,nP.mpr (f i p h).2],λi g s I=>?_];obtain⟨A,c,rfl⟩:=A4 s;cases A with
  |val b x=>exact absurd I (λz=>z)
  |own b as =>
   obtain⟨v,h1,p,xs,q1,B,G,J⟩:=C i _ c É;exact#[v,h1,p,xs,q1,B,by rw[ax (l p (f i p B).1)];exact G,aV (λ_ _ z=>any z) J]
  |dpo x =>
   obtain⟨v,h1,h2⟩:=C i _ c É;refine#[v,h1,?_];have t:Py.rp K (.set (D i)) H v x:=h2;exact Py.tr (a:=x) (N:=.set (D i)) (N':=.set (D i)) (λp m h n=>#[vf ne e aE j d' h,n.1,by rw[ax (l p (f i p n.1).1)];exact n.2]) (λp xs h=>qk ne e j h) t
def vq{β:Type}[Py β]{b:Bool}{x:β}{O:Æ->Prop}(ha:¬O a)(e:H' a=À (.frz o (.dB XV)))(g:u=.dB XV\/u=.frz o (.dB XV))(h:Py.rp K (Nf (yQ H0 a o XV) b) (off H' O) v x):Py.rp K (Nf H0 b) (off (upd H' a u) O) v x:=by
 have ne:∀b,b≠a->upd H' a u b=H' b:=λb i=>ax i;have f:off H' O a=À (.frz o (.dB XV)):=by rwa[aN ha]
 have c:off (upd H' a u) O a=À u:=by rw[aN ha];exact aE
 have j:G6 XV u:=g.imp id λd=>#[o,d];refine Py.tr (λp m h n=>#[vf (off_ne ne) f c (.inr #[o,rfl]) j h,?_]) (λp xs h=>qk (off_ne ne) f (.inr #[o,rfl]) h) h;cases b with
 |false=>exact É
 |true =>
  have hp:p≠a:=λz=>by
   subst z;have:=n.2;rw[f] at this;rcases m with m|m|m|m<;>cases this
  exact#[nP.mp n.1,by rw[off_ne ne p hp];exact n.2]
def cU.ML{k:Æ->Prop}{U':aF}{Y':St}(Z:cU K H0 F O U Y H)(ha:H a=À u)(c:cU K (yQ H0 a o XV) F k U' Y' H')(r:¬k a)(e:H' a=À (.frz o (.dB XV)))(s:u=.dB XV\/u=.frz o (.dB XV)):cU K H0 F k U' Y' (upd H' a u):=by
 have ne:∀b,b≠a->upd H' a u b=H' b:=λb f=>ax f;have A:∀p,k p->p≠a:=λp h z=>r (z▸h);have L:G6 XV u:=s.imp id λd=>#[o,d];refine#[λb w h=>?_,c.fo,Z.f0,λp h=>?_,c.len,λi g l y=>?_,?_]
 .by_cases f:b=a
  .subst f;have:=Z.same _ _ h;rw[aE,<-ha];exact this
  .rw[ax f];exact c.same _ _ (by rw[vI f];exact h)
 .obtain⟨xs,q⟩:=c.own p h;exact#[xs,by rwa[ax (A p h)]]
 .obtain⟨v,h1,h2⟩:=c.at_ i g l y;refine#[v,h1,?_];cases g with
  |val b x=>exact vq r e s h2
  |own b as=>exact absurd É y
  |dpo x=>exact absurd É y
 .obtain⟨D,I,j,J⟩:=c.dis;refine#[D,I,λi p h=>#[(j i p h).1,nP.mp (j i p h).2],λi g l B=>?_];obtain⟨v,h1,h2⟩:=J i g l B;refine#[v,h1,?_];cases g with
  |val b x=>exact absurd B (λz=>z)
  |own b as =>
   obtain⟨p,xs,q1,C,E,G⟩:=h2;exact#[p,xs,q1,C,by rw[ax (A p (j i p C).1)];exact E,aV (λ_ _ z=>vq r e s z) G]
  |dpo x =>
   have t:Py.rp K (.set (D i)) H' v x:=h2;exact Py.tr (a:=x) (N:=.set (D i)) (N':=.set (D i)) (λp m h n=>#[vf ne e aE (.inr #[o,rfl]) L h,n.1,by rw[ax (A p (j i p n.1).1)];exact n.2]) (λp xs h=>qk ne e (.inr #[o,rfl]) h) t
def ug{d:Æ->Prop}(ha:¬O a)(e:H a=À u)(s:az (off (upd H a (.frz o (.dB XV))) O) (off H' d)):¬d a/\H' a=À (.frz o (.dB XV))/\az .F (off (upd H' a u) d):=by
 have h1:off (upd H a (.frz o (.dB XV))) O a=À (.frz o (.dB XV)):=by rw[aN ha];exact aE
 obtain⟨n,h2⟩:=bE (s _ _ h1);refine#[n,h2,λb w h=>?_];by_cases f:b=a
 .subst f;rw[aN ha,e] at h;rw[aN n,aE];exact h
 .have:=s b w (by rw[off_ne (a:=a) (H:=H) (λc g=>ax g) b f];exact h);rw[off_ne (a:=a) (H:=H') (λc g=>ax g) b f];exact this
variable{X:Cx}{D:GD}{M β γ:Type}[Py M][Py β][Py γ]{e e1 e2 tg:Õ}{b b1 b2:Bool}{pos:é}{rest body:List Ð}
theorem A0{g:TG}{tc:Nat->Prop}{put:Bool->Int×Bool->aF->aF}{d:Db β}(J:Nat->aF->Prop)(hG:G X tg g (Int×Bool) put tc)(he:E X U e b d)(h0:J 0 (M_ U))
  (ht:∀(i:Nat) (k:Int×Bool) U',(d.l.map (·.1))[i]?=À k->J i U'->S X (put Â k U') body {D with nx:=J (i+1),ct:=J (i+1),bk:=λΓ2=>S X Γ2 rest D}) (hd:∀U',J d.l.length U'->S X U' rest D)
  (hc:autoParam (X.calm=Â) zra) (hp:Ă .E X.A X.env X.xe:=by exact Yt)
  (hfs:autoParam (∀x,Ù e X.env x=pure x) zrc):S X U (.For tg e body [] pos::rest) D:=by
 stop
  refine dy (dE (Ea hp hc he hG.1 (tb:=jT X body) gP hfs) λDe Y H ⟨H0,F,O,Z,nx,r,bk,ct⟩=>?_);refine#[H0,F,O,Z,λv H1 s1 r1=>?_];obtain⟨a,XV,ev,rd,_,rr⟩:=r1
  have rd':¬O a/\∃u,H1 a=À u/\G6 XV u:=by
   rcases rd with h|⟨o,h⟩
   .obtain⟨n,h⟩:=bE h;exact#[n,_,h,.inl rfl]
   .obtain⟨n,h⟩:=bE h;exact#[n,_,h,.inr #[o,rfl]]
  obtain⟨W,u,α,dz⟩:=rd';refine#[a,XV,u,ev,α,dz,λo t hf=>?_];have Z1:=Z.go s1;have lk:XV.length=d.l.length:=bq rr
  have R:∀(Q:St->Hp->Prop) (P:aF->Prop),(∀U' Y' H' c,az .F (off H' c)->cU X.K H0 F c U' Y' H'->P U'->Q Y' H')->∀U' Y' H' c,az (off (upd H1 a (.frz o (.dB XV))) O) (off H' c)->cU X.K (yQ H0 a o XV) F c U' Y' H'->P U' ->
    ∃a XV u o,H' a=À (.frz o (.dB XV))/\(u=.dB XV\/u=.frz o (.dB XV))/\(∀o' u',X.H₀ a=À (.frz o' u')->u=.frz o' u')/\Q Y' (upd H' a u):=λQ P q U' Y' H' c C T p=>by
   obtain⟨n',N,Γ⟩:=ug W α C;exact#[a,XV,u,o,N,t,hf,q U' Y' _ c ((aj s1).trans Γ) (Z1.ML α T n' N t) p]
  refine#[λi m Y' H'=>m=d.l.length-i/\i<=d.l.length/\∃U' c,az (off (upd H1 a (.frz o (.dB XV))) O) (off H' c)/\cU X.K (yQ H0 a o XV) F c U' Y' H'/\J i U',#[_,rfl,XB _,M_ U,O,az.refl _,Z1.ND W α dz,h0],?_];rintro i m Y' H' ⟨rfl,hi',U',c,C,T,j⟩;obtain⟨n',N,Γ⟩:=ug W α C;by_cases hlt:i<d.l.length
  .refine .inr #[#[N,.f],λσ2 H2=>∃Γ2 B,az (off (upd H1 a (.frz o (.dB XV))) O) (off H2 B)/\cU X.K (yQ H0 a o XV) F B Γ2 σ2 H2/\J (i+1) Γ2,λσ2 H2 q=>#[d.l.length-(i+1),.f,rfl,hlt,q],λx σ hy=>?_];obtain⟨rfl,kv,bb,hk,rfl,I⟩:=hy;obtain⟨y,hy,hxy⟩:=qd rr hk;refine hG.2 Â y.1 (yQ H0 a o XV) F c U' Y' σ _ _ T #[bb,_,_,rfl,.inl (by rw[aN (λz=>by obtain⟨m,hm⟩:=T.own bb z;rw[hm] at I;cases m<;>cases I),I,hxy.1];rfl),rfl,rfl] λσ2 L _ _=>?_;refine#[_,_,ht i y.1 U' (by rw[WJ,hy];rfl) j,yQ H0 a o XV,F,c,L,?_,?_,?_,?_]
   .exact λΓ2 σ2 H2 B s L q=>#[Γ2,B,C.trans s,L,q]
   .intro g v H2 V f q;by_cases hn:H0 a=none
    .have e0:yQ H0 a o XV=H0:=by unfold yQ;rw[V6 hn]
     rw[e0] at V f;exact .inl (r g v H2 V f q)
    .have e2:H2 a=À (.frz o (.dB XV)):=V _ _ (EV hn);refine .inr #[a,XV,u,o,e2,t,hf,r g v _ (λb w h=>?_) ?_ q]
     .by_cases hb:b=a
      .subst hb;have:=Z1.same _ _ h;rw[aE,<-α];exact this
      .rw[ax hb];exact V _ _ (by rw[vI hb];exact h)
     .cases g with
      |val b x=>exact vq (λz=>W (Z.fo a z)) e2 t f
      |own b as=>exact f
      |dpo x=>exact f
   .exact λΓ2 σ2 H2 B s L q=>R _ _ nx Γ2 σ2 H2 B (C.trans s) L q
   .exact λΓ2 σ2 H2 B s L q=>#[Γ2,B,C.trans s,L,q]
  .have ei:i=d.l.length:=by omega
   subst ei;exact .inl #[#[N,.f],R _ _ nx U' Y' H' c C T (hd U' j)]
end
def Mz{a b:Æ}(e:H a=À (.dB XV))(d:H b=À (.tup (kB k)))(c:XV.length<sizeLine):LW H a (.ref b) v (upd H a (.dB (putK XV k v))):=.inr (.inr #[XV,k,b,e,rfl,d,c,rfl])
def sU(h:Py.rp K N H v k):∃b,v=.ref b/\H b=À (.tup (kB k)):=by
 obtain⟨p,x,y,e,s,h1,h2⟩:=h;have e1:x=V.int _:=h1;have e2:y=V.bl _:=h2;subst e1;subst e2;exact#[p,e,s.pl]
theorem vi{β:Type}[Py β]{K:Ã}{N:Nn}{H:Hp}(k:Int×Bool):∀{XV:List ((Int×Bool)×V)} {l:List ((Int×Bool)×β)},Ø (DB K N H) XV l ->
  (∀c,(Db.mk l).val k=À c->∃v,gL XV k=À v/\Py.rp K N H v c)/\((Db.mk l).val k=none->gL XV k=none)
 |_,_,.nil=>#[λc h=>(by cases h),λ_=>rfl]
 |_,_,.cons (a:=x) (b:=y) h t=>by
  obtain⟨i,j⟩:=vi k t;by_cases e:y.1=k
  .have f:x.1=k:=by rw[h.1,e]
   have d:∀r,(Db.mk (y::r)).val k=À y.2:=λr=>by unfold Db.val;rw[XA];simp[e]
   rw[d,ku f];exact#[λc g=>(by cases g;exact#[_,rfl,h.2]),λz=>(by cases z)]
  .have f:¬x.1=k:=by rw[h.1];intro z;exact e (z)
   have d:∀r,(Db.mk (y::r)).val k=(Db.mk r).val k:=λr=>by unfold Db.val;rw[XA];simp[e]
   rw[d,kr f];exact#[i,j]
def wB{β:Type}[Py β](k:Int×Bool){l:List ((Int×Bool)×β)}(r:Ø (DB K N H) XV l):(gL XV k).isSome=((Db.mk l).val k).isSome:=by
 obtain⟨h1,h2⟩:=vi k r;cases e:(Db.mk l).val k with
 |none=>rw[h2 e];rfl
 |some c =>
  obtain⟨v,a,_⟩:=h1 c e;rw[a];rfl
def GV{β:Type}[Py β]{c:β}{l:List ((Int×Bool)×β)}(r:Ø (DB K N H) XV l)(h:Py.rp K N H v c):Ø (DB K N H) (putK XV k v) ((Db.mk l).put k c).l:=by
 have ha:∀{XV:List ((Int×Bool)×V)} {l:List ((Int×Bool)×β)},Ø (DB K N H) XV l->(XV.any λa=>decide (a.1=k))=(l.any λu=>decide (u.1=k)):=λr=>by
  induction r with
  |nil=>rfl
  |cons h t b =>
   rw[Yy,Yy,b,h.1]
 have d:∀{XV:List ((Int×Bool)×V)} {l:List ((Int×Bool)×β)},Ø (DB K N H) XV l->Ø (DB K N H) (XV.map λa=>if a.1=k then (a.1,v) else a) (l.map λu=>if u.1=k then (u.1,c) else u):=λr=>by
  induction r with
  |nil=>exact .nil
  |@cons x y _ _ g t b =>
   rw[Wb,Wb];refine .cons ?_ b;by_cases e:y.1=k
   .rw[V6 e,V6 (by rw[g.1,e])];exact#[g.1,h]
   .rw[V4 e,V4 (by rw[g.1];intro z;exact e (z))];exact g
 unfold putK Db.put;dsimp only;rw[ha r];split
 .exact d r
 .exact oO r (.cons #[rfl,h] .nil)
section
variable{X:Cx}{U:aF}{D:GD}{M β γ:Type}[Py M][Py β][Py γ] {e e1 e2 ek ec:Õ}{b b1 b2:Bool}{pos:é}{rest st:List Ð}
def Lm{d:Db β}(b:X.A.units+60<ù):CV X .In k d (d.val k).isSome:=#[_,LM .a,λN N' H u v Q h1 h2 q=>by
 obtain⟨p,XV,rfl,rd,n,r⟩:=h2;obtain⟨a,rfl,ha⟩:=sU h1;refine#[p,gL XV k,rfl,.inr (.inr #[XV,k,a,rd,rfl,ha,rfl]),?_];rw[wB k r]
 exact q]
def yu:EN X U (.Dict [] [] pos) (Db.mk ([]:List ((Int×Bool)×β))):=by
 stop
  exact aG GH λY H Q ⟨H0,F,O,Z,q⟩ p hp=>by
   have a:off (upd H p (.dB [])) O p=À (.dB []):=by rw[aN (Z.gg hp)];exact aE
   exact q _ _ (b7 hp _) #[p,[],rfl,.inl a,#[hp,a],.nil]
def HA[PyT β](i:Nat){d:Db β}{c:β}{x:Í}{p I:é}(hu:X.A.units+60<ù)(G:U[i]?=À (À (.dpo d)))(Γ:E X U ek b2 k)(he:E X U e b c)(P:d.l.length<=1000)(h:S X (U.set i (À (.dpo (d.put k c)))) rest D)(hi:autoParam (X.N[i]?=À x) zra)
  (Q:autoParam (Hq X.env.scope x) zre) (R:autoParam ((x==("__debug__":Í))=Á) zrb) (C:autoParam ((x==("__classdict__":Í))=Á) zrb)
  (hs:autoParam (ï e (À (.Subscript (.Name x p) ek I)) pos.line X.env=pure Á) zra):S X U (.Assign [.Subscript (.Name x p) ek I] e pos::rest) D:=by
 stop
  exact dy (dE (JD .a (pv i hi Q R C) Γ he hs) λDe Y H ⟨H0,F,O,Z,n,_⟩=>#[H0,F,O,Z,λu H1 m ru=>by
    obtain⟨v,B,j,_,_,_⟩:=(Z.go m).vV G É;refine#[v,j,H0,F,O,Z.go m,λy f o V=>?_];obtain⟨σ,B,g,⟨q,XV,e1,rd,nn,L⟩,hO,wr⟩:=(Z.go (m.trans o)).vV G É;rw[j] at g;have ev:v=σ:=Wj (Wj g);subst ev;obtain⟨a,W,ha⟩:=sU V;subst W;have s:f a=À (.tup (kB k)):=aq _ _ _ _ ha;have α:f q=À (.dB XV):=nn.2
    have J:∀p xs,Rt f p xs->Rt (upd f q (.dB (putK XV k u))) p xs:=λp xs h=>by
     have hp:p≠q:=λw=>by
      subst w;have:=h.pl;rw[α] at this;cases this
     exact .inl (by rw[ax hp];exact h.pl)
    refine#[q,_,e1,Mz (k:=k) α s (by rw[bq L];exact bA P),?_];have r:Ø (DB X.K (.set B) (upd f q (.dB (putK XV k u)))) XV d.l:=aV (λ_ _ z=>#[z.1,PyT.free J z.2]) L;have t:Py.rp X.K (.set B) (upd f q (.dB (putK XV k u))) u c:=PyT.free (λp xs w=>J p xs (az.rt ((aq _ _).trans o) w)) ru
    obtain⟨Z',eo⟩:=wr q (.inB (putK XV k u)) (À (.dpo (d.put k c))) nn.1 λT e'=>by
     cases e';exact#[É,q,_,e1,.inl aE,⟨nn.1,aE⟩,GV r t]
    exact n _ _ _ _ (by rw[show upd f q (HO.dB (putK XV k u))=upd f q (mo (.inB (putK XV k u))) from rfl,eo];exact aj (m.trans o)) Z' h])
end
end L2.EP
namespace L2
open PySem PySem.Spec PyProof.Rows
def Ie(tk tv:TE):TE:=λY H Q=>∀p,H p=none->tk Y (upd H p (.dB [])) λx H1=>tv Y H1 λv H2=>H2 p=À (.dB [])/\∃k b,x=.ref b/\H2 b=À (.tup (kB k))/\Q (.ref p) (upd H2 p (.dB [(k,v)]))
def uA{X:Cx}{pos:é}{ek ev:Õ}{tk tv:TE}(y:X.A.units<ù)(m:PE X ek tk)(h:PE X ev tv):PE X (.Dict [À ek] [ev] pos) (Ie tk tv):=by
 intro ZB s Y H Q I q;have F:=I.hok.fresh (V_ s.heap.objs.size);have C:=I.laid (a:=s.heap.objs.size) (o:=.dB []) (h':=s.heap.push {cls:=.type "dict",data:=.dict #[]}) (t':=s.toks) (λ_ _ q=>Ww _ q) (V_ _) (yL s.heap I.big);refine wpAny_Dict_any rfl rfl .c .c (pairTrees_cons_walk (b9 (m ZB _ Y _ _ C (q _ F)) λu B ⟨x,H1,j,D,q1⟩=>b9 (h ZB B Y H1 _ j q1) λr J ⟨v,H2,f,n,e,k,b,ex,d,p⟩=>pairTrees_nil_walk ?_));subst ex;cases (show u=ß b from D);obtain⟨z,i,xs,rel,dd⟩:=F4 f.hok e;cases rel;unfold storeAll;rw[Ε];refine V5 (V5 (wpAny_dictSet_heap (knd:=fc X.prog X.w) (hsz:=XB _) y (jq f.hok d) dd λh' c G=>Wi ?_));dsimp only;rw[Ν];obtain⟨o,es,ep,g,h2,l,E,_,t⟩:=c;refine Wi #[.ref s.heap.objs.size,upd H2 s.heap.objs.size (.dB [(k,v)]),m8 (ob:=.dB [(k,v)]) f (by rw[e];exact É) G #[o,g] #[by rw[sizeLine_eq];simp,i,_,.cons #[rfl,?_,n] .nil,o,es,ep,g,h2,l,E,t],rfl,p];rwa[ax (AZ d e (λz=>nomatch z))]
end L2
namespace L2.EP
open PySem PySem.Spec PyProof.Rows
section
variable{X:Cx}{U:aF}{D:GD}{β:Type}[Py β]{ek ev:Õ}{b1 b2:Bool}{pos:é}
def Mq[PyT β]{k:Int×Bool}{c:β}(z:X.A.units+60<ù)(s:E X U ek b1 k)(r:E X U ev b2 c):EN X U (.Dict [À ek] [ev] pos) (Db.mk [(k,c)]):=by
 stop
  exact aG (uA .a s r) λY H Q ⟨H0,F,O,Z,q⟩ p hp=>by
   have j:=b7 hp (.dB []);refine#[H0,F,O,Z.go j,λx H1 i w=>#[H0,F,O,(Z.go j).go i,λy H2 d v=>?_]];obtain⟨a,ex,ha⟩:=sU w;have f:H2 a=À (.tup (kB k)):=d _ _ (aq _ _ _ _ ha);have b:H2 p=À (.dB []):=d _ _ (i _ _ aE);have u:∀a o,H a=À o->a≠p:=λa o h e=>by rw[e,hp] at h;cases h
   refine#[b,k,a,ex,f,?_];have m:off (upd H2 p (.dB [(k,y)])) O p=À (.dB [(k,y)]):=by rw[aN (Z.gg hp)];exact aE
   refine q _ _ (λa o h=>?_) #[p,[(k,y)],rfl,.inl m,#[hp,m],.cons #[rfl,?_] .nil]
   .rw[ax (u a o h)];exact d _ _ (i _ _ (j _ _ h))
   .refine PyT.free (λa xs t=>?_) v
    have n:a≠p:=λe=>by
     subst e;rcases t with h|⟨o,h⟩<;>· have:=(bE h).2;rw[b] at this;cases this
    rcases t with h|⟨o,h⟩
    .obtain⟨g,l⟩:=bE h;exact .inl (by rwa[aN g,ax n])
    .obtain⟨g,l⟩:=bE h;exact .inr #[o,by rwa[aN g,ax n]]
end
variable{k:Int×Bool}
def Db.ks{β:Type}(d:Db β):List (Int×Bool):=d.l.map (·.1)
def Db.qZ{β:Type}{d:Db β}:(d.val k).isSome=Â↔k∈d.ks:=by
 unfold Db.val Db.ks;rw[YT,List.find?_isSome,V3];constructor
 .rintro⟨u,a,e⟩;exact#[u,a,Xq e]
 .rintro⟨u,a,e⟩;exact#[u,a,Wr e]
def Db.EJ{β:Type}{d:Db β}{c:β}:(d.put k c).ks=if k∈d.ks then d.ks else d.ks++[k]:=by
 have e:((d.l.any λu=>decide (u.1=k))=Â)↔k∈d.ks:=by
  unfold Db.ks;rw[X7,V3];constructor
  .rintro⟨u,a,e⟩;exact#[u,a,Xq e]
  .rintro⟨u,a,e⟩;exact#[u,a,Wr e]
 unfold Db.put;by_cases h:k∈d.ks
 .rw[V6 h,V6 (e.mpr h)];unfold Db.ks;rw[W8];apply WY;intro u _;show(if u.1=k then (u.1,c) else u).1=u.1;split<;>rfl
 .rw[V4 h,V4 (λz=>h (e.mp z))];unfold Db.ks;rw[Ya];rfl
def Db.Jb{β:Type}{d:Db β}{a:Int×Bool}{c:β}:a∈(d.put k c).ks↔a=k\/a∈d.ks:=by
 rw[Db.EJ];split
 .rename_i h;exact#[.inr,λz=>z.elim (λe=>e▸h) id]
 .rw[W2,WR];exact#[λz=>z.elim .inr .inl,λz=>z.elim .inr .inl]
def Db.FX{β:Type}{d:Db β}{c:β}(h:d.ks.Nodup):(d.put k c).ks.Nodup:=by
 rw[Db.EJ];split
 .exact h
 .rename_i f;rw[Zp];exact#[h,.c,λa ha b g e=>f (by rwa[<-WR.mp g,<-e])]
def Db.wH{β:Type}{d:Db β}:d.ks.length=d.l.length:=V2 _
end L2.EP
namespace L2
open PySem PySem.Spec PyProof.Rows
section
variable{prog:Ò}{w:Û}{K:Type}[DecidableEq K]{knd:HeapKind prog w K}{A:á}{E:Å->Ç->Prop}{s:Ç}
def yC{d a:Æ}{xs:List (K×Æ×Å)}{k:K}{v:Å}{Q:Å->Ç->Prop}(u:knd.room A)(b:knd.is s.heap k a)(C:s.heap.DictOfH knd d xs)
  (h1:∀p,ā xs k=À p->Q p.2 {s with toks:=s.toks+knd.draws k})
  (h2:ā xs k=none->∀h',h'.DictOfH knd d (Ļ xs k a v)->ć d s.heap h'->Q v {s with heap:=h',toks:=s.toks+knd.draws k})
  (hsz:xs.length<=sizeLine):Î (Ñ prog w) A (ł d (.ref a) v) Q E s:=by
 obtain⟨o,es,ep,g,z,f,he,i,r⟩:=C;unfold ł;try with_reducible refine Yx ?_
 refine V5 (knd.pyHash u b (V5 (wpAny_dictFind_heap (s:={s with toks:=s.toks+knd.draws k}) u b g f he i r (λl=>?_) λj p t=>?_)))
 .have m:k∉xs.map (·.1):=not_mem_keys_of_get l;have h:=atKey_none_of_get l;have n:=storedH_new h a v;refine V5 (wpAny_rule (V5 (wpAny_updateDictKeys (hz:=by have e:=ZW he;lia) (s:={s with toks:=s.toks+knd.draws k}) g f (Wi (h2 h _ #[_,_,ep+1,Yr _ g (Obj.isFreed_of_dict (Œ f _)),z.mapDictKeys _,Œ f _,?_,?_,?_] (YI ..))))))
  .rw[n];simp[he,η]
  .rw[n];intro x c;rcases W2.mp c with c|c
   .exact knd.keeps (i x c) g f (YI ..)
   .rw[WR.mp c];exact knd.keeps b g f (YI ..)
  .rw[n,Ya,Zp];refine#[r,.c,λx c y B e=>m ?_];have q:y=k:=by simpa using B
   rwa[<-q,<-e]
 .refine V5 (Zs (s:={s with toks:=s.toks+knd.draws k}) g f ?_);rw[entry_at he j,t];exact V5 (wpAny_rule (Wi (h1 p (atKey_of_get r t))))
def v8{d a:Æ}{k:K}(g:(d==ê)=Á)(dflt:Å):
  MeetsIn prog w (ϗ.«dict.setdefault» #[[.ref d,.ref a,dflt],[]]) (λA R s=>knd.room A.in1/\∃xs,knd.is s.heap k a/\s.heap.DictOfH knd d xs/\xs.length<=sizeLine /\
   (∀p,ā xs k=À p->R (.ok (.ret p.2)) {s with toks:=s.toks+knd.draws k}) /\
   (ā xs k=none->∀h',h'.DictOfH knd d (Ļ xs k a dflt)->ć d s.heap h'->R (.ok (.ret dflt)) {s with heap:=h',toks:=s.toks+knd.draws k})) :=
 .of_wp λA R s ⟨i,xs,b,f,hz,h1,h2⟩=>by
  unfold ϗ.«dict.setdefault»;refine V5 ?_;unfold Builtin.Dict.keyAndDefault;refine V5 (ű f.typeIs ?_);show Î _ _ (pure (d,ß a,À dflt)) _ _ s;refine Wi ?_;show Î _ _ (if (d==ê)=Â then _ else (ł d (.ref a) dflt >>= _)) _ _ s;rw[V4 (by rw[g];exact Wn)];exact V5 (yC i b f (λp hp=>Wi #[_,rfl,h1 p hp]) (λh h' e c=>Wi #[dflt,rfl,h2 h h' e c]) hz)
variable{X:Cx}{ZB:List (Æ×ò)}{Y:St}{H:Hp}{a b:Æ}{v:V}{r:Å}{XV:List ((Int×Bool)×V)}{k:Int×Bool}
def Gw{Q:Å->Ç->Prop}(n:A.units+1<ù)(I:Inv X ZB Y H s)(e:H a=À (.dB XV))(i:H b=À (.tup (kB k)))(u:XV.length<sizeLine)(m:RelV v r)
  (h1:∀w h s',gL XV k=À w->Inv X ZB Y H s'->RelV w h->Q h s') (h2:∀s',gL XV k=none->Inv X ZB Y (upd H a (.dB (putK XV k v))) s'->Q r s'):
  Î .E A (call (.builtin "dict.setdefault") [.ref a,.ref b,r]) Q E s:=by
 obtain⟨z,g,xs,rel,dd⟩:=F4 I.hok e;have hz:xs.length<=sizeLine:=by rwa[<-Yv rel]
 refine aaH aaa dd.typeIs PySem.F.entry_dict_setdefault (PySem.F.args_dict_setdefault_3 _ _ _) (v8 (knd:=fc X.prog X.w) (k:=k) g r) #[d7 n,xs,jq I.hok i,dd,hz,λp hp=>?_,λo h' d t=>?_]
 .have q:=rel.val k;rw[hp] at q;cases ev:gL XV k with
  |none=>rw[ev] at q;cases q
  |some w=>rw[ev] at q;exact h1 w _ _ ev (I.tok _) q
 .have q:=rel.val k;rw[o] at q;cases ev:gL XV k with
  |some w=>rw[ev] at q;cases q
  |none =>
   refine h2 _ ev ?_;have f:(putK XV k v).length<=sizeLine:=by have:=ip XV k v;lia
   obtain⟨q,es,ep,j,k2,k3,l,_,k5⟩:=d;refine m8 I (by rw[e];exact É) t #[q,j] #[f,g,_,(rel.put k i m).keeps λc ys ec=>?_,q,es,ep,j,k2,k3,l,k5];rwa[ax (AZ ec e (λz=>nomatch z))]
end
def Ij(td ty tx:TE):TE:=λY H Q=>td Y H λx H1=>∃a,x=.ref a/\QE H1 a/\ty Y H1 λy H2=>tx Y H2 λz c=>∃XV k b,c a=À (.dB XV)/\y=.ref b/\c b=À (.tup (kB k))/\XV.length<sizeLine /\
 (∀w,gL XV k=À w->Q w c)/\(gL XV k=none->Q z (upd c a (.dB (putK XV k z))))
def Dw{X:Cx}{o e f:Õ}{apos cpos:é}{td ty tx:TE}(E:X.A.units+1<ù)(t:PE X o td)(he:PE X e ty)(N:PE X f tx)(m:M2 X o "setdefault" apos e f cpos):PE X (.Call (.Attribute o "setdefault" apos) [e,f] [] cpos) (Ij td ty tx):=by
 intro ZB s Y H Q I h;refine ψ m.base m.few m.line aaM aaa PySem.F.type_dict_setdefault (b9 (t ZB s Y H _ I h) λu α ⟨x,H1,j,P,a,ex,d,q1⟩=>?_);subst ex;obtain rfl:u=ß a:=P;obtain⟨K,p,_⟩:=EH j d;refine#[K,p,?_];rw[m.trees];refine YN rfl (YZ (Zb (b9 (he ZB α Y H1 _ j q1) λR v ⟨y,H2,Γ,J,B⟩=>Zb (b9 (N ZB v Y H2 _ Γ B) λW σ ⟨z,n,C,i,XV,k,b,S,L,O,l,q,G⟩=>aao ?_))));subst L;cases (show R=ß b from J);exact Gw E C S O l i (λw V T r c g=>#[w,n,c,g,q w r]) λT D c=>#[z,_,c,i,G D]
end L2
namespace L2.EP
open PySem PySem.Spec PyProof.Rows
section
variable{K:Ã}{H0:Hp}{F O:Æ->Prop}{U:aF}{Y:St}{H H':Hp}
def Qu(K:Ã)(H0:Hp)(O:Æ->Prop)(U:aF)(Y:St)(H:Hp)(D:Nat->Æ->Prop):Prop :=
 (∀i j p,D i p->D j p->i=j)/\(∀i p,D i p->O p/\H0 p=none)/\∀(i:Nat) (g:Bd),U[i]?=À (À g)->g.fe->∃v,Y[i]?=À (À v)/\g.wQ K H0 O H (D i) v
def cU.adopt(i:Nat)(Z:cU K H0 F O U Y H)(m:az H H')(N:Æ->Prop)(c:∀q,N q->H q=none/\∃xs:Mt,H' q=À (mo xs)):
  ∃D,Qu K H0 (λp=>O p\/N p) U Y H' D/\(∀q,N q->D i q)/\cU K H0 F (λp=>O p\/N p) U Y H'/\az .F (off H' λp=>O p\/N p):=by
 have s:az .F (off H' λp=>O p\/N p):=λb o h=>by
  obtain⟨h1,h2⟩:=bE h;have v:¬N b:=λz=>by rw[(c b z).1] at h2;cases h2
  rw[aN (by rintro(z|z);exact h1 z;exact v z)];exact m _ _ h2
 obtain⟨D,x,f,y⟩:=Z.dis
 have u:Qu K H0 (λp=>O p\/N p) U Y H' (λj q=>D j q\/(j=i/\N q)):=by
  refine#[λj k q h1 h2=>?_,λj q h=>?_,λj g' e o=>?_]
  .rcases h1 with g|⟨e1,g⟩<;>rcases h2 with l|⟨e2,l⟩
   .exact x j k q g l
   .exact absurd (f j q g).1 (Z.gg (c q l).1)
   .exact absurd (f k q l).1 (Z.gg (c q g).1)
   .rw[e1,e2]
  .rcases h with n|⟨_,n⟩
   .exact#[.inl (f j q n).1,(f j q n).2]
   .exact#[.inr n,Z.g8 (c q n).1]
  .obtain⟨w,q1,d⟩:=y j g' e o;refine#[w,q1,?_];have r:=Bd.LO d (λp ys _ z=>m _ _ z) s (λp z=>(f j p z).1) Z.own;cases g' with
   |val b a=>exact r
   |own b as =>
    obtain⟨p,xs,e1,e2,e3⟩:=r;exact#[p,xs,e1,.inl e2,e3]
   |dpo a =>
    have t:Py.rp K (.set (D j)) H' w a:=r;exact bB (N:=.set (D j)) (N':=.set λq=>D j q\/(j=i/\N q)) (λp o n=>#[.inl n.1,n.2]) t
 refine#[_,u,λq h=>.inr #[rfl,h],#[Z.same.trans m,λp h=>.inl (Z.fo p h),Z.f0,λp h=>?_,Z.len,λj g' e n=>?_,_,u],s]
 .rcases h with h|h
  .obtain⟨ys,q⟩:=Z.own p h;exact#[ys,m _ _ q]
  .exact(c p h).2
 .obtain⟨w,q1,d⟩:=Z.at_ j g' e n;refine#[w,q1,?_];cases g' with
  |val b a=>exact aw s d
  |own b as=>exact d
  |dpo a=>exact d
def cU.L7{i:Nat}{g:Bd}{D:Nat->Æ->Prop}(Z:cU K H0 F O U Y H)(B:Qu K H0 O U Y H D)(t:U[i]?=À (À g))(C:g.fe):∃v,Y[i]?=À (À v)/\g.wQ K H0 O H (D i) v /\
  ∀(p:Æ) (ys:Mt) (g':Option Bd),D i p->(∀c,g'=À c->c.fe/\c.wQ K H0 O (upd H p (mo ys)) (D i) v)->cU K H0 F O (U.set i g') Y (upd H p (mo ys))/\off (upd H p (mo ys)) O=off H O:=by
 obtain⟨y,m,A⟩:=B;obtain⟨v,q1,E⟩:=A i g t C;refine#[v,q1,E,λp ys g' hp h=>?_];have u:=(m i p hp).1;have x:=jO (H:=H) (o:=mo ys) u;refine#[#[λb o z=>?_,Z.fo,Z.f0,λb G=>?_,by rw[WX];exact Z.len,λj d e n=>?_,D,y,m,λj d e o=>?_],x]
 .have:b≠p:=λw=>by rw[w,(m i p hp).2] at z;cases z
  rw[ax this];exact Z.same _ _ z
 .by_cases l:b=p
  .subst l;exact#[ys,aE]
  .rw[ax l];exact Z.own b G
 .by_cases f:j=i
  .subst f;have r:j<U.length:=(Wd.mp t).1;rw[get_set_eq r] at e;exact absurd (h d (Wj e)).1 n
  .rw[get_set_ne f] at e;obtain⟨w,s,k⟩:=Z.at_ j d e n;refine#[w,s,?_];cases d with
   |val b a =>
    show Py.rp K _ (off (upd H p _) O) w a;rwa[x]
   |own b as=>exact k
   |dpo a=>exact k
 .by_cases f:j=i
  .subst f;have r:j<U.length:=(Wd.mp t).1;rw[get_set_eq r] at e;exact#[v,q1,(h d (Wj e)).2]
  .rw[get_set_ne f] at e;obtain⟨w,s,k⟩:=A j d e o;refine#[w,s,Bd.LO k (λq xs I z=>?_) (by rw[x];exact az.refl _) (λq z=>(m j q z).1) Z.own];have:q≠p:=λw=>f (y j i q I (w▸hp));rwa[ax this]
variable{X:Cx}{D:GD}{M β:Type}[Py M][Py β]{e ek ev:Õ}{b b1 b2:Bool}{pos:é}{rest:List Ð}
def Db.sd{β:Type}(d:Db β)(k:Int×Bool)(c:β):Db β:=if (d.val k).isSome=Â then d else d.put k c
def F9[PyT β](i:Nat){d:Db (List β)}{k:Int×Bool}{c:List β}{x:Í}{p ap cp:é}(hu:X.A.units+60<ù)(I:U[i]?=À (À (.dpo d)))(hk:E X U ek b2 k)(he:EN X U ev c)(hl:d.l.length<=1000)(h:S X (U.set i (À (.dpo (d.sd k c)))) rest D)(hi:autoParam (X.N[i]?=À x) zra)
  (hv:autoParam (Hq X.env.scope x) zre) (hd:autoParam ((x==("__debug__":Í))=Á) zrb) (Γ:autoParam ((x==("__classdict__":Í))=Á) zrb)
  (hm:M2 X (.Name x p) "setdefault" ap ek ev cp:=by exact#[rfl,rfl,rfl,rfl]) (hs:autoParam (ï (.Call (.Attribute (.Name x p) "setdefault" ap) [ek,ev] [] cp) none pos.line X.env=pure Á) zra):S X U (.Expr (.Call (.Attribute (.Name x p) "setdefault" ap) [ek,ev] [] cp) pos::rest) D:=by
 stop
  exact dy (dE (qu (Dw .a (pv i hi hv hd Γ) hk he hm) hs) λDe Y H ⟨H0,F,O,Z,n,_⟩=>by
    obtain⟨v,Di,t,⟨a,f,e1,rd0,_,_⟩,_,_⟩:=Z.vV I É;refine#[v,t,a,e1,.inr (.inr #[f,rd0]),H0,F,O,Z,λy H2 J ry=>#[H0,F,O,Z.go J,λu b z3 ru=>?_]];obtain⟨b0,ey,σ⟩:=sU ry;have V:b b0=À (.tup (kB k)):=z3 _ _ (aq _ _ _ _ σ);obtain⟨P,o,R,Z3,so⟩:=(Z.go J).adopt i z3 (λq=>H2 q=none/\∃xs:Mt,b q=À (mo xs)) (λq z=>z);obtain⟨v',G,⟨a',XV,m,rd,nn,L⟩,wr⟩:=Z3.L7 o I É;rw[t] at G;have evv:v=v':=Wj (Wj G);subst evv;rw[e1] at m;have ea:a=a':=by injection m
    subst ea;have T:b a=À (.dB XV):=nn.2;have g:XV.length<sizeLine:=by rw[bq L];exact bA hl
    refine#[XV,k,b0,T,ey,V,g,λw hw=>?_,λhw=>?_]
    .have e:(d.val k).isSome=Â:=by
      rw[<-wB (l:=d.l) k L,hw];rfl
     have α:d.sd k c=d:=V6 e;rw[α] at h
     have eg:U.set i (À (.dpo d))=U:=by
      apply YU;intro j;rw[aas];split
      .rename_i ej;subst ej;rw[I];have:=(Wd.mp I).1;rw[V6 this]
      .rfl
     rw[eg] at h;exact n _ _ _ _ ((aj J).trans so) Z3 h
    .have e:¬(d.val k).isSome=Â:=by
      rw[<-wB (l:=d.l) k L,hw];decide
     have α:d.sd k c=d.put k c:=V4 e;rw[α] at h;obtain⟨B,vs,eu,sq,nq,rq⟩:=ru;have s:b B=À (.lst vs):=(aq _ _) _ _ nq.2;have hDq:P i B:=R B #[nq.1,.inl vs,s]
     have ht:∀p xs,Rt b p xs->Rt (upd b a (.dB (putK XV k u))) p xs:=λp xs h=>by
      have hp:p≠a:=λw=>by
       subst w;have:=h.pl;rw[T] at this;cases this
      exact .inl (by rw[ax hp];exact h.pl)
     have lst:∀p xs,b p=À (.lst xs)->(upd b a (.dB (putK XV k u))) p=À (.lst xs):=λp xs W=>by
      have hp:p≠a:=λw=>by
       subst w;rw[T] at W;cases W
      rw[ax hp];exact W
     have Q:Ø (DB (β:=List β) X.K (.set (P i)) (upd b a (.dB (putK XV k u)))) XV d.l:=aV (λ_ _ z=>#[z.1,by
      obtain⟨p1,C,f1,f2,f3,f4⟩:=z.2;have r:=lst p1 C f3.2
      exact#[p1,C,f1,dM.of r,#[f3.1,r],aV (λ_ _ w=>PyT.free ht w) f4]]) L
     have r:=lst B vs s;have ru':Py.rp X.K (.set (P i)) (upd b a (.dB (putK XV k u))) u c:=#[B,vs,eu,dM.of r,#[hDq,r],aV (λ_ _ w=>PyT.free (λp xs z=>ht p xs (az.rt (aq _ _) z)) w) rq]
     obtain⟨Z',eo⟩:=wr a (.inB (putK XV k u)) (À (.dpo (d.put k c))) nn.1 λg'' e'=>by
      cases e';exact#[É,a,_,e1,.inl aE,⟨nn.1,aE⟩,GV Q ru']
     exact n _ _ _ _ (by rw[show upd b a (HO.dB (putK XV k u))=upd b a (mo (.inB (putK XV k u))) from rfl,eo];exact(aj J).trans so) Z' h)
def KQ[PyT β]{k:Int×Bool}{c:List β}(N:X.A.units+60<ù)(L:E X U ek b1 k)(K:EN X U ev c):EN X U (.Dict [À ek] [ev] pos) (Db.mk [(k,c)]):=by
 stop
  exact aG (uA .a L K) λY H Q ⟨H0,F,O,Z,q⟩ p hp=>by
   have j:=b7 hp (.dB []);refine#[H0,F,O,Z.go j,λx H1 i I=>#[H0,F,O,(Z.go j).go i,λy H2 l D=>?_]];obtain⟨a,ex,ha⟩:=sU I;have n:H2 a=À (.tup (kB k)):=l _ _ (aq _ _ _ _ ha);have b:H2 p=À (.dB []):=l _ _ (i _ _ aE);have C:∀a o,H a=À o->a≠p:=λa o h e=>by rw[e,hp] at h;cases h
   refine#[b,k,a,ex,n,?_];have z:off (upd H2 p (.dB [(k,y)])) O p=À (.dB [(k,y)]):=by rw[aN (Z.gg hp)];exact aE
   obtain⟨f,vs,B,sq,u,J⟩:=D;have α:¬O f:=(bE u.2).1;have d:H2 f=À (.lst vs):=(bE u.2).2;have np:f≠p:=λe=>by rw[e,b] at d;cases d
   have g:off (upd H2 p (.dB [(k,y)])) O f=À (.lst vs):=by rwa[aN α,ax np]
   have m:H f=none:=by
    cases G:H f with
    |none=>rfl
    |some o =>
     have:=i _ _ (j _ _ G);rw[u.1] at this;cases this
   refine q _ _ (λa o h=>?_) #[p,[(k,y)],rfl,.inl z,#[hp,z],.cons #[rfl,f,vs,B,dM.of g,#[m,g],aV (λ_ _ w=>PyT.free (λa xs t=>?_) w) J] .nil]
   .rw[ax (C a o h)];exact l _ _ (i _ _ (j _ _ h))
   .have v:a≠p:=λe=>by
     subst e;rcases t with h|⟨o,h⟩<;>· have:=(bE h).2;rw[b] at this;cases this
    rcases t with h|⟨o,h⟩
    .obtain⟨r,s⟩:=bE h;exact .inl (by rwa[aN r,ax v])
    .obtain⟨r,s⟩:=bE h;exact .inr #[o,by rwa[aN r,ax v]]
def ID{d:Db β}{k:Int×Bool}{c:β}(x:X.A.units+60<ù)(ha:E X U e b d)(m:E X U ek b2 k)(h:d.val k=À c)(t:autoParam (qe ek) zrj):E X U (.Subscript e ek pos) b c:=by
 stop
  exact aG (HF .a ha m t) λY H Q ⟨H0,F,O,Z,q⟩=>#[H0,F,O,Z,λv H1 g u=>#[H0,F,O,Z.go g,λy H2 a n=>by
   obtain⟨p,XV,ev,rd,nn,s⟩:=u;obtain⟨i,o,f⟩:=sU n;obtain⟨h1,_⟩:=vi (β:=β) (l:=d.l) k s;obtain⟨w,j,r⟩:=h1 c h
   refine#[p,w,ev,.inr (.inr #[XV,k,i,az.rd ((aq _ _).trans a) rd,o,aq _ _ _ _ f,j.symm]),q _ _ (g.trans a) (aw (aj a) r)]]]
def DZ{d:Db β}{k:Int×Bool}{ap cp:é}(x:X.A.units+60<ù)(ha:E X U e b d)(m:E X U ek b2 k)(t:M1 X e "get" ap ek cp:=by exact#[rfl,rfl,rfl,rfl]):E X U (.Call (.Attribute e "get" ap) [ek] [] cp) b (d.val k):=by
 stop
  exact aG (DW .a ha m t) λY H Q ⟨H0,F,O,Z,q⟩=>#[H0,F,O,Z,λv H1 h u=>by
   obtain⟨p,XV,ev,rd,nn,s⟩:=u;refine#[p,ev,.inr (.inr #[XV,az.rd (aq _ _) rd]),H0,F,O,Z.go h,λy H2 a n=>?_];obtain⟨i,o,f⟩:=sU n;obtain⟨h1,h2⟩:=vi (β:=β) (l:=d.l) k s;refine#[gL XV k,.inr (.inr #[XV,k,i,az.rd ((aq _ _).trans a) rd,o,aq _ _ _ _ f,rfl]),q _ _ (h.trans a) ?_];cases g:d.val k with
   |none=>rw[h2 g];exact(show V.non=V.non from rfl)
   |some c =>
    obtain⟨w,j,r⟩:=h1 c g;rw[j]
    exact(show Py.rp X.K (Nf H0 b) (off H2 O) w c from aw (aj a) r)]
variable{γ:Type}[Py γ]{e1 e2:Õ}{st:List Ð}
def Jm[PyT M]{a:M}{k:Int}(ha:E X U e1 Â [a])(n:E X U e2 b2 k)(x:0<=k)(h1:k<=1000):EN X U (.BinOp e1 .Mult e2 pos) (È k.toNat a):=by
 rw[<-vt]
 stop
  exact aG (q_ FZ ha n) λY H Q ⟨H0,F,O,S,q⟩=>#[H0,F,O,S,λv H1 e u=>#[H0,F,O,S.go e,λw H2 b j=>by
    obtain⟨p,vs,e1,h,m,c⟩:=u;have i:H2 p=À (.lst vs):=b _ _ ((aq _ _) _ _ m.2);refine#[p,k,vs,e1,j,i,.a,.a,by rw[bq c];exact Xv (bA (show [a].length*k.toNat<=1000 by simp;lia)),λl d=>?_];obtain⟨g,f⟩:=cq (xs:=(È k.toNat vs).flatten) ((S.go e).go b) d
    have s:H l=none:=by
     cases r:H l with
     |none=>rfl
     |some o=>have:=b _ _ (e _ _ r);rw[d] at this;cases this
    exact q _ _ (e.trans (b.trans g)) #[l,_,rfl,dM.of f,#[s,f],zt (aV (λ_ _ z=>PyT.free (λp xs t=>az.rt ((aj b).trans (aj g)) t) z) c) _]]]
def HN[PyT M]{xs ys:List M}(ha:E X U e1 b1 xs)(n:E X U e2 b2 ys)(k:xs.length+ys.length<=1000):EN X U (.BinOp e1 .Add e2 pos) (xs++ys):=by
 stop
  exact aG (q_ vC ha n) λY H Q ⟨H0,F,O,S,q⟩=>#[H0,F,O,S,λv H1 f r=>#[H0,F,O,S.go f,λw H2 a m=>by
    obtain⟨p,vs,e1,g,s,c⟩:=r;obtain⟨o,d,e2,h,u,b⟩:=m;refine#[p,o,vs,d,e1,e2,(aq _ _).seq ((aj a).seq g),(aq _ _).seq h,by rw[bq c,bq b];exact Xv (bA k),λl e=>?_];obtain⟨i,j⟩:=cq (xs:=vs++d) ((S.go f).go a) e;refine q _ _ (f.trans (a.trans i)) #[l,_,rfl,dM.of j,#[(f.trans a).free e,j],oR ?_ ?_]
    .exact aV (λ_ _ z=>PyT.free (λ_ _ t=>az.rt ((aj a).trans (aj i)) t) z) c
    .exact aV (λ_ _ z=>PyT.free (λ_ _ t=>az.rt (aj i) t) z) b]]
def N4{c:Bool}{post:M->Prop}(h:T X U e c)(ha:c=Â->EX X U e1 b post)(i:c=Á->EX X U e2 b post):EX X U (.IfExp e e1 e2 pos) b post:=by
 stop
  cases c with
  |true=>exact aG (jc h (ha rfl) pF) λY H Q ⟨H0,F,O,S,q⟩=>#[H0,F,O,S,λH1 d=>oM #[H0,F,O,S.go d,λa w H2 hz g f=>q a w H2 hz (d.trans g) f]]
  |false=>exact aG (jc h pF (i rfl)) λY H Q ⟨H0,F,O,S,q⟩=>#[H0,F,O,S,λH1 d=>tF #[H0,F,O,S.go d,λa w H2 hz g f=>q a w H2 hz (d.trans g) f]]
def D8{post:M->Prop}(he:EX X U e b post)(h:∀a,post a->D.rt (.val b a)):S X U (.Return (À e) pos::rest) D:=by stop exact dy (dE (Ej he) λf Y H ⟨H0,F,O,Z,n,r,_⟩=>#[H0,F,O,Z,λa v H1 hz d c=>r (.val b a) v H1 ((Z.go d).same) (aw (ja Z.fo) c) (h a hz)])
def Mg{post:Option M->Prop}{c:Bool}{j:Nat}{p:é}(ha:EX X U e1 b1 post)(e:∀(K:Ã) (N:Nn) (H:Hp) (a:M),¬Py.rp K N H .non a)(g:∀x,post x->x.isNone=c):E X U (.Compare e1 [.Is] [.Constant .none j p] pos) Â c:=by
 stop
  exact aG (Et (yT ha)) λY H Q ⟨H0,F,O,S,q⟩=>#[H0,F,O,S,λx v H1 hz h d=>by
    have:=q (.bl (decide (v=.non))) H1 h;refine this ?_;have b:=g x hz;cases x with
    |none=>cases d;cases b;rfl
    |some a =>
     have f:v≠.non:=by rintro rfl;exact e _ _ _ a d
     cases b;show V.bl (decide (v=.non))=.bl Á
     rw[Wv f]]
variable{R:RB}{tg:Õ}{body:List Ð}{g:TG}{tc:Nat->Prop}
def e5{xs ys:List M}(ha:E X U e1 b1 xs)(o:E X U e2 b2 ys)(m:xs.length+ys.length<=1000):E X U (.BinOp e1 .Add e2 pos) Á (xs++ys):=by
 stop
  exact aG (q_ vC ha o) λY H Q ⟨H0,F,O,S,q⟩=>#[H0,F,O,S,λv H1 g s=>#[H0,F,O,S.go g,λw H2 a n=>by
    obtain⟨p,vs,e1,h,t,d⟩:=s;obtain⟨r,e,e2,i,u,c⟩:=n;refine#[p,r,vs,e,e1,e2,(aq _ _).seq ((aj a).seq h),(aq _ _).seq i,by rw[bq d,bq c];exact Xv (bA m),λl f=>?_];obtain⟨j,k⟩:=cq (xs:=vs++e) ((S.go g).go a) f;refine q _ _ (g.trans (a.trans j)) #[l,_,rfl,dM.of k,Nf.wk (b:=Á) (((S.go g).go a).g8 f) k,oR ?_ ?_]
    .exact aV (λ_ _ z=>bB bR (aw ((aj a).trans (aj j)) z)) d
    .exact aV (λ_ _ z=>bB bR (aw (aj j) z)) c]]
end
def Ht{β:Type}[Py β](K:Ã)(b:Bool)(post:β->Prop):Sp:=λvs H Q _=>∃O,mh H O/\vs=[]/\∀z r H',post z->az H H'->Py.rp K (Nf H b) (off H' O) r z->Q r H'
section
variable{X:Cx}{U:aF}{β:Type}[Py β]{b:Bool}{p pos:é}{k:Nat}{name:Í}{ps:List Í}
def GB{post:β->Prop}(C:aK X.prog X.w X.K X.mg X.base k name ps (Ht X.K b post))(f:dk k X.A)(d:Gl X name)(a:autoParam ((name==("__debug__":Í))=Á) zrb):
  EX X U (.Call (.Name name p) [] [] pos) b post:=by stop obtain⟨g,fd,F,B,e,m⟩:=C.ex;exact aG (Gy F f d m e B .nil rM a) λY H Q ⟨H0,F,O,S,q⟩=>#[O,S.own,rfl,λz r H' hz s' c=>q z r H' hz s' (S.back c)]
variable{P:Ò}{w:Û}{K:Ã}{mg:Í->Option Å}{base:Ý}{N:List Í}{x qual:Í}{st:Ð}{f:Æ}{fd:ì}
def P1{β:Type}[Py β]{b:Bool}{post:β->Prop}(F:p8 K x qual st f fd)(g:ak N ps (ah st))(a:ps.length=0)(B:⇑Body N qual st f k [] (HD b post)):⇑dY nQ (k+1) f fd ps (Ht K b post):=by
 stop
  refine F.ok g (λvs H Q E h=>?_) λe A outer s H vs Q E d h=>?_
  .obtain⟨O,_,rfl,_⟩:=h;rw[a];rfl
  .obtain⟨O,c,rfl,q⟩:=h;exact pk B d c .nil q
end
def Q2{M:Type}{us:List M}(h:us.length=0):us=[]:=ZX h
def Q3{M:Type}{us:List M}(h:us.length=1):∃a,us=[a]:=match us,h with|[a],_=>#[a,rfl]
def ln2{M:Type}{us:List M}(h:us.length=2):∃a b,us=[a,b]:=match us,h with|[a,b],_=>#[a,b,rfl]
def QZ{M:Type}{us:List M}(h:us.length=3):∃a b c,us=[a,b,c]:=match us,h with|[a,b,c],_=>#[a,b,c,rfl]
def Rc{M:Type}{us:List M}(h:us.length=4):∃a b c d,us=[a,b,c,d]:=match us,h with|[a,b,c,d],_=>#[a,b,c,d,rfl]
def cG{N P:List Í}{a:ú}(h1:autoParam (a.kind=.function) zra)(h2:autoParam (a.isCoroutine=Á) zra)(b:autoParam (a.isGenerator=Á) zra)(f:autoParam (N.Nodup) zrh)(c:autoParam (N.take P.length=P) zra)(e:autoParam (∀x∈P,a.names.lookup x=À .local\/a.names.lookup x=À .cell) zrh)(d:autoParam (∀y∈a.names,y.2≠.free) zrh):ak N P a:=#[h1,h2,b,f,c,e,d]
section
variable{P:Ò}{w:Û}{K:Ã}{mg:Í->Option Å}{base h:Ý}{x p q r t:Í}{st:Ð}{k:Nat}{sp:Sp}
def Df.c0(D:Df K x st)(X:K.In h)(G:h.Ns Ê mg)(ok:∀f fd,p8 K x x st f fd->⇑dY nQ k f fd [] sp)(c:∀(kV doc b:Å) (d:Option Æ) (a ct:Å),ĉ (â x x (du st) (aU st) (ah st) .none kV doc b d a ct) #[[],[]]=pure ([]:List (Í×Å)):=by intros;rfl):⇑aK k x [] sp:=D.N6 X G (λ_ _ _ _ _ _ us e=>by cases Q2 e;exact c ..) ok
def Df.c1(D:Df K x st)(X:K.In h)(G:h.Ns Ê mg)(ok:∀f fd,p8 K x x st f fd->⇑dY nQ k f fd [p] sp)(c:∀(kV doc b:Å) (d:Option Æ) (a ct:Å) (u:Å),ĉ (â x x (du st) (aU st) (ah st) .none kV doc b d a ct) #[[u],[]]=pure [(p,u)]:=by intros;rfl):⇑aK k x [p] sp:=D.N6 X G (λ_ _ _ _ _ _ us e=>by obtain⟨_,rfl⟩:=Q3 e;exact c ..) ok
def Df.c2(D:Df K x st)(X:K.In h)(G:h.Ns Ê mg)(ok:∀f fd,p8 K x x st f fd->⇑dY nQ k f fd [p,q] sp)(c:∀(kV doc b:Å) (d:Option Æ) (a ct:Å) (u v:Å),ĉ (â x x (du st) (aU st) (ah st) .none kV doc b d a ct) #[[u,v],[]]=pure [(p,u),(q,v)]:=by intros;rfl):⇑aK k x [p,q] sp:=D.N6 X G (λ_ _ _ _ _ _ us e=>by obtain⟨_,_,rfl⟩:=ln2 e;exact c ..) ok
def Df.c3(D:Df K x st)(X:K.In h)(G:h.Ns Ê mg)(ok:∀f fd,p8 K x x st f fd->⇑dY nQ k f fd [p,q,r] sp)(c:∀(kV doc b:Å) (d:Option Æ) (a ct:Å) (u v y:Å),ĉ (â x x (du st) (aU st) (ah st) .none kV doc b d a ct) #[[u,v,y],[]]=pure [(p,u),(q,v),(r,y)]:=by intros;rfl):⇑aK k x [p,q,r] sp:=D.N6 X G (λ_ _ _ _ _ _ us e=>by obtain⟨_,_,_,rfl⟩:=QZ e;exact c ..) ok
def Df.c4(D:Df K x st)(X:K.In h)(G:h.Ns Ê mg)(ok:∀f fd,p8 K x x st f fd->⇑dY nQ k f fd [p,q,r,t] sp)(c:∀(kV doc b:Å) (d:Option Æ) (a ct:Å) (u v y z:Å),ĉ (â x x (du st) (aU st) (ah st) .none kV doc b d a ct) #[[u,v,y,z],[]]=pure [(p,u),(q,v),(r,y),(t,z)]:=by intros;rfl):⇑aK k x [p,q,r,t] sp:=D.N6 X G (λ_ _ _ _ _ _ us e=>by obtain⟨_,_,_,_,rfl⟩:=Rc e;exact c ..) ok
end
end L2.EP
namespace L2.EP.K
open PySem PySem.Spec PyProof.Rows
variable{n i j:Nat}{l zs:List Int}{a m d b N:Int}{x o:Ï}{X:Cx}{e:Õ}
noncomputable def top(i:Nat):Ð:=PySem.Challenge.pw_everyplace_k72_whole_no_wrong_paper.main.body.getD i (.Pass #[0,0,0,0])
abbrev jG:Ð:=top 7
abbrev l_:List Í:=["k"]
def pJ:ak l_ ["k"] (ah jG):=cG
abbrev we:Ð:=top 8
abbrev BN:List Í:=["base","exponent","answer","step"]
def nG:ak BN ["base","exponent"] (ah we):=cG
abbrev l4:Ð:=top 9
abbrev sI:List Í:=["base","exponent","m","answer","square"]
def cV:ak sI ["base","exponent","m"] (ah l4):=cG
abbrev kH:Ð:=top 10
abbrev pL:List Í:=["k","divisor","often","left"]
def eT:ak pL ["k","divisor"] (ah kH):=cG
abbrev iH:Ð:=top 11
abbrev lO:List Í:=["k","root"]
def gS:ak lO ["k"] (ah iH):=cG
abbrev dm:Ð:=top 12
abbrev ff:List Í:=["k","root"]
def eP:ak ff ["k"] (ah dm):=cG
abbrev oQ:Ð:=top 13
abbrev t6:List Í:=["k","m","rest","below","factor","factor_below","often","left","factor_left"]
def bY:ak t6 ["k","m"] (ah oQ):=cG
abbrev fw:Ð:=top 15
abbrev jk:List Í:=["a","b","rest"]
def dt:ak jk ["a","b"] (ah fw):=cG
abbrev d9:Ð:=top 16
abbrev fJ:List Í:=["thing"]
def rL:ak fJ ["thing"] (ah d9):=cG
abbrev gG:Ð:=top 17
abbrev mw:List Í:=["top","bottom","divisor"]
def kf:ak mw ["top","bottom"] (ah gG):=cG
abbrev eJ:Ð:=top 19
abbrev fQ:List Í:=["thing","n"]
def wx:ak fQ ["thing","n"] (ah eJ):=cG
abbrev fi:Ð:=top 20
abbrev gK:List Í:=["thing","n"]
def xv:ak gK ["thing","n"] (ah fi):=cG
abbrev nE:Ð:=top 21
abbrev rB:List Í:=["T","j"]
def CU:ak rB ["T","j"] (ah nE):=cG
abbrev fE:Ð:=top 22
abbrev iI:List Í:=["T"]
def rD:ak iI ["T"] (ah fE):=cG
abbrev gh:Ð:=top 23
abbrev jY:List Í:=["numbers","bottom","u"]
def dO:ak jY ["numbers"] (ah gh):=cG
abbrev dq:Ð:=top 24
abbrev e9:List Í:=["numbers","bottom"]
def g6:ak e9 ["numbers"] (ah dq):=cG
abbrev dw:Ð:=top 25
abbrev eR:List Í:=["one","other","total"]
def gI:ak eR ["one","other"] (ah dw):=cG
abbrev ij:Ð:=top 26
abbrev j9:List Í:=["one","others"]
def vQ:ak j9 ["one","others"] (ah ij):=cG
abbrev Ji:Ð:=top 27
abbrev MM:List Í:=["T","x","rows"]
def JU:ak MM ["T","x"] (ah Ji):=cG
abbrev jh:Ð:=top 28
abbrev lb:List Í:=["one","other","columns"]
def sQ:ak lb ["one","other"] (ah jh):=cG
abbrev uX:Ð:=top 30
abbrev A2:List Í:=["F","x"]
def FU:ak A2 ["F","x"] (ah uX):=cG
abbrev FA:Ð:=top 31
abbrev J3:List Í:=["F","T"]
def Lz:ak J3 ["F","T"] (ah FA):=cG
abbrev fK:Ð:=top 32
abbrev iD:List Í:=["n","place","number"]
def sC:ak iD ["n","place","number"] (ah fK):=cG
abbrev k6:Ð:=top 33
abbrev pD:List Í:=["numbers"]
def Ax:ak pD ["numbers"] (ah k6):=cG
abbrev fD:Ð:=top 34
abbrev iQ:List Í:=["row"]
def sV:ak iQ ["row"] (ah fD):=cG
abbrev gZ:Ð:=top 38
abbrev ke:List Í:=["k","begin","end","divisor"]
def jQ:ak ke ["k","begin","end"] (ah gZ):=cG
abbrev mx:Ð:=top 39
abbrev rk:List Í:=["k"]
def xD:ak rk ["k"] (ah mx):=cG
abbrev oU:Ð:=top 40
abbrev uh:List Í:=["k","end","out","found","left","divisor"]
def dD:ak uh ["k","end"] (ah oU):=cG
abbrev jK:Ð:=top 41
abbrev nX:List Í:=["k","known","root"]
def iw:ak nX ["k"] (ah jK):=cG
abbrev uW:Ð:=top 42
abbrev Bx:List Í:=["u","known","number","root","part"]
def gO:ak Bx ["u"] (ah uW):=cG
abbrev oW:Ð:=top 43
abbrev uI:List Í:=["k"]
def zx:ak uI ["k"] (ah oW):=cG
abbrev kM:Ð:=top 45
abbrev pH:List Í:=["k","p","rest"]
def mI:ak pH ["k","p"] (ah kM):=cG
abbrev eW:Ð:=top 46
abbrev il:List Í:=["p","k"]
def eI:ak il ["p"] (ah eW):=cG
abbrev kq:Ð:=top 47
abbrev pU:List Í:=["k","p","often"]
def gq:ak pU ["k","p"] (ah kq):=cG
abbrev fg:Ð:=top 48
abbrev iX:List Í:=["k","p","out","twos","odd","root","error","mender","often","step"]
def aL:ak iX ["k","p"] (ah fg):=cG
abbrev gd:Ð:=top 49
abbrev jW:List Í:=["k","p","kind"]
def jd:ak jW ["k","p"] (ah gd):=cG
abbrev eC:Ð:=top 52
abbrev gY:List Í:=["numbers","p","back","y","x"]
def cJ:ak gY ["numbers","p"] (ah eC):=cG
abbrev dW:Ð:=top 53
abbrev gm:List Í:=["numbers","p","x"]
def fT:ak gm ["numbers","p"] (ah dW):=cG
abbrev gw:Ð:=top 54
abbrev jF:List Í:=["row","places","divisor","p","i","found","answer","x"]
def fB:ak jF ["row","places","divisor","p"] (ah gw):=cG
abbrev dg:Ð:=top 55
abbrev d8:List Í:=["row","p","k","undivided","divided","found"]
def dG:ak d8 ["row","p","k"] (ah dg):=cG
abbrev gQ:Ð:=top 56
abbrev kG:List Í:=["sums","a","m","answer","key","x","rest"]
def c9:ak kG ["sums","a","m"] (ah gQ):=cG
abbrev iP:Ð:=top 57
abbrev lG:List Í:=["row","k","m","sums","a","found"]
def cM:ak lG ["row","k"] (ah iP):=cG
abbrev dS:Ð:=top 58
abbrev gk:List Í:=["square","root","p","k","m","mender","step"]
def bM:ak gk ["square","root","p","k"] (ah dS):=cG
abbrev c6:Ð:=top 59
abbrev e_:List Í:=["square","k","root","m","step"]
def ba:ak e_ ["square","k"] (ah c6):=cG
abbrev ka:Ð:=top 60
abbrev nh:List Í:=["row","zero","p","k","place","others","divisor","m","square","answer"]
def ft:ak nh ["row","zero","p","k"] (ah ka):=cG
abbrev ma:Ð:=top 62
abbrev rS:List Í:=["k","p","out","rest"]
def kd:ak rS ["k","p"] (ah ma):=cG
abbrev g7:Ð:=top 63
abbrev j_:List Í:=["k","p"]
def p5:ak j_ ["k","p"] (ah g7):=cG
abbrev l9:Ð:=top 64
abbrev sT:List Í:=["one","other","reasons"]
def fO:ak sT ["one","other"] (ah l9):=cG
abbrev lV:Ð:=top 65
abbrev rl:List Í:=["one","other","p","said"]
def fU:ak rl ["one","other","p"] (ah lV):=cG
abbrev Al:Ð:=top 66
abbrev Fh:List Í:=["a","b","p","one","other"]
def vp:ak Fh ["a","b","p"] (ah Al):=cG
abbrev eB:Ð:=top 69
abbrev fY:List Í:=["k"]
def i6:ak fY ["k"] (ah eB):=cG
abbrev fP:Ð:=top 70
abbrev gN:List Í:=["row"]
def uD:ak gN ["row"] (ah fP):=cG
abbrev eA:Ð:=top 71
abbrev gb:List Í:=["row"]
def jb:ak gb ["row"] (ah eA):=cG
abbrev eO:Ð:=top 74
abbrev ib:List Í:=["a","b","c","p"]
def l3:ak ib ["a","b","c","p"] (ah eO):=cG
abbrev fq:Ð:=top 75
abbrev ji:List Í:=["numbers","p","product"]
def h_:ak ji ["numbers","p"] (ah fq):=cG
abbrev kD:Ð:=top 76
abbrev pI:List Í:=["numbers","p"]
def wD:ak pI ["numbers","p"] (ah kD):=cG
abbrev oz:Ð:=top 77
abbrev ue:List Í:=["row","p","k"]
def zg:ak ue ["row","p","k"] (ah oz):=cG
abbrev jz:Ð:=top 84
abbrev mD:List Í:=["row","steps","answer","step"]
def iU:ak mD ["row","steps"] (ah jz):=cG
abbrev eM:Ð:=top 86
abbrev fk:List Í:=["row","zero"]
def zS:ak fk ["row","zero"] (ah eM):=cG
abbrev ow:Ð:=top 87
abbrev uP:List Í:=["row","c","x"]
def zk:ak uP ["row","c","x"] (ah ow):=cG
abbrev eK:Ð:=top 88
abbrev fV:List Í:=["row","p"]
def wm:ak fV ["row","p"] (ah eK):=cG
abbrev qY:Ð:=top 89
abbrev yD:List Í:=["row","other","T"]
def C9:ak yD ["row","other","T"] (ah qY):=cG
abbrev bS:Ð:=top 90
abbrev cu:List Í:=["row","other","steps"]
def l5:ak cu ["row","other","steps"] (ah bS):=cG
abbrev bU:Ð:=top 91
abbrev cv:List Í:=["row","k"]
def l6:ak cv ["row","k"] (ah bU):=cG
abbrev iA:Ð:=top 92
abbrev lJ:List Í:=["row","kind","thing"]
def qR:ak lJ ["row","kind","thing"] (ah iA):=cG
abbrev f_:Ð:=top 93
abbrev jV:List Í:=["row","kind","thing","last"]
def oP:ak jV ["row","kind","thing","last"] (ah f_):=cG
abbrev kO:Ð:=top 94
abbrev oA:List Í:=["row","paper"]
def sX:ak oA ["row","paper"] (ah kO):=cG
abbrev gX:Ð:=top 96
abbrev lX:List Í:=["_law_script","_law_k","_law_cell","_law_deep_here","_law_j","_law_here"]
def dC:ak lX ["_law_script","_law_k"] (ah gX):=cG
abbrev ky:Ð:=top 97
abbrev pE:List Í:=["_law_k","_law_d"]
def jx:ak pE ["_law_k"] (ah ky):=cG
abbrev fj:Ð:=top 98
abbrev i7:List Í:=["_law_k"]
def eY:ak i7 ["_law_k"] (ah fj):=cG
abbrev kL:Ð:=top 99
abbrev pV:List Í:=["_law_k","_law_often","_law_m","_law_found"]
def cD:ak pV ["_law_k","_law_often","_law_m"] (ah kL):=cG
abbrev jy:Ð:=top 100
abbrev mH:List Í:=["_law_one","_law_other","_law_rest"]
def fH:ak mH ["_law_one","_law_other"] (ah jy):=cG
abbrev dA:Ð:=top 101
abbrev gR:List Í:=["_law_top","_law_bottom","_law_part"]
def fZ:ak gR ["_law_top","_law_bottom"] (ah dA):=cG
abbrev mj:Ð:=top 102
abbrev rj:List Í:=["_law_u","_law_v"]
def yE:ak rj ["_law_u","_law_v"] (ah mj):=cG
abbrev kA:Ð:=top 103
abbrev pQ:List Í:=["_law_u","_law_v"]
def vK:ak pQ ["_law_u","_law_v"] (ah kA):=cG
abbrev oI:Ð:=top 104
abbrev uE:List Í:=["_law_row_here","_law_table","_law_many","_law_form","_law_i","_law_line","_law_j","_law_total","_law_k"]
def cZ:ak uE ["_law_row_here","_law_table"] (ah oI):=cG
abbrev fF:Ð:=top 105
abbrev iB:List Í:=["_law_row_here"]
def rg:ak iB ["_law_row_here"] (ah fF):=cG
abbrev ia:Ð:=top 106
abbrev kj:List Í:=["_law_many"]
def wG:ak kj ["_law_many"] (ah ia):=cG
abbrev iK:Ð:=top 107
abbrev lM:List Í:=["_law_row_here","_law_power_here","_law_p","_law_found","_law_number","_law_wider","_law_rest","_law_odd_here","_law_x"]
def cb:ak lM ["_law_row_here","_law_power_here","_law_p"] (ah iK):=cG
abbrev lY:Ð:=top 108
abbrev qU:List Í:=["_law_number","_law_left","_law_free_here","_law_d","_law_often"]
def cy:ak qU ["_law_number"] (ah lY):=cG
abbrev fR:Ð:=top 109
abbrev hX:List Í:=["_law_e","_law_hits"]
def mU:ak hX ["_law_e"] (ah fR):=cG
abbrev me:Ð:=top 110
abbrev rW:List Í:=["_law_row_here","_law_paper","_law_told"]
def pR:ak rW ["_law_row_here","_law_paper"] (ah me):=cG
abbrev oY:Ð:=top 111
abbrev uz:List Í:=["_law_cell","_law_size","_law_row_here","_law_k"]
def jw:ak uz ["_law_cell","_law_size"] (ah oY):=cG
abbrev cL:Ð:=top 112
abbrev dJ:List Í:=["_law_row_here","_law_p","_law_free_here","_law_some","_law_numbers"]
def el:ak dJ ["_law_row_here","_law_p"] (ah cL):=cG
abbrev kP:Ð:=top 113
abbrev oS:List Í:=["_law_row_here","_law_cell","_law_ones","_law_plain_here","_law_some"]
def bJ:ak oS ["_law_row_here","_law_cell"] (ah kP):=cG
abbrev iG:Ð:=top 114
abbrev lQ:List Í:=["_law_row_here","_law_paper","_law_e"]
def kz:ak lQ ["_law_row_here","_law_paper"] (ah iG):=cG
abbrev fI:Ð:=top 115
abbrev iz:List Í:=["_law_some","_law_papers","_law_row_here"]
def dH:ak iz [] (ah fI):=cG
abbrev lP:Ð:=top 116
abbrev m6:List Í:=["_law_script","_law_k","_law_cell","_law_row_here","_law_size","_law_second","_law_third","_law_values","_law_zero","_law_table","_law_form","_law_other","_law_due","_law_pairs","_law_one","_law_c","_law_some","_law_p","_law_told","_law_paper"]
def cK:ak m6 ["_law_script"] (ah lP):=cG
section
variable{P:Ò}{w:Û}{K:Ã}{mg:Í->Option Å}{base:Ý}{f:Æ}{k:Nat}(B:Bu mg)
def zf(x:Int):⇑Body l_ "is_whole" jG f kk [.val Á x] (RT Â Â):=by
 intro a A outer s H E b;exact ar (cE (LL rfl B.isinstance rfl B.int .A) λ_=>(c8 (uy (K_ rfl B.isinstance rfl B.bool .A)))) rfl
def tq(b e m:Int):Int:=b^e.toNat%m
def bc(h:1<=m):a.fmod m=a%m:=Xf a .a
def B2{A S:Int}(h:n%2=1):(A*S%m)*(S*S%m)^(n/2)%m=A*S^n%m:=by
 rw[XT,YD _ (Yb m),g5,<-XT,aac,<-WZ,Xj];congr 2;have e:S^n=S^(1+(n/2+n/2)):=by congr 1;lia
 rw[e,WZ S 1,Wk,WG,Xe,WZ]
def yA{A S:Int}(h:n%2=0):A*(S*S%m)^(n/2)%m=A*S^n%m:=by
 rw[XT,g5,<-XT,aac,<-WZ];congr 3;lia
def qP{e:Int}(h:0<=e):(e.fdiv 2).toNat=e.toNat/2/\0<=e.fdiv 2:=by
 rw[Ws _ .b];lia
def zJ(x e m:Int)(he:0<=e)(c:1<=m)(o:m<2^62):⇑Body sI "power_by" l4 f kk [.val Á x,.val Á e,.val Á m] (RT Â (tq x e m)):=by
 intro p A outer s H E v;refine ao 3 cV.nd (aS ag .C .f) ?_;refine ao 4 cV.nd (aS .A .C .f) ?_;rw[bc c,bc c]
 refine cX (ι:=Bool×Int×Int×Int) (λi U=>U=[À (.val Á x),À (.val i.1 i.2.1),À (.val Á m),À (.val Â i.2.2.1),À (.val Â i.2.2.2)]/\0<=i.2.1/\i.2.2.1*i.2.2.2^i.2.1.toNat%m=x^e.toNat%m/\0<=i.2.2.1/\i.2.2.1<m/\0<=i.2.2.2/\i.2.2.2<m) (λi=>i.2.1.toNat) (Á,e,1%m,x%m)
  #[rfl,he,by dsimp only;rw[XT,YD _ (Yb m),g5,<-XT,Xe],Wo _ .f,Wf _ .f,Wo _ .f,Wf _ .f] ?_
 rintro⟨u,n,a,q⟩ U' ⟨rfl,r,hi,h,l,t,q1⟩;dsimp only at *;refine#[_,ay kI .B ag,λb=>?_,λb=>?_]
 .have hpos:0<n:=by simpa using b
  have d:=qP r;have k:=Wo (q*q) (show m≠0 by omega);have j:=Wf (q*q) (show 0<m by omega);refine aJ (ay aB (aS .B ag .b) ag) (λb=>?_) (λb=>?_)
  .have g:n.toNat%2=1:=by
    have:n.fmod 2=1:=by simpa using b
    rw[bc .b] at this;omega
   refine ao 3 cV.nd (aS (aH .D (ae 4) (mulL .f .f)) .C .f) (aO ?_);refine ao 4 cV.nd (aS (aH (ae 4) (ae 4) (mulL .f .f)) .C .f) ?_;refine ao 1 cV.nd (a8 .B ag wL) ?_;rw[bc c,bc c];refine aO #[(Â,n.fdiv 2,a*q%m,q*q%m),#[rfl,d.2,?_,Wo _ .f,Wf _ .f,k,j],?_]
   .dsimp only;rw[d.1,B2 g,hi]
   .dsimp only;omega
  .have g:n.toNat%2=0:=by
    have:¬n.fmod 2=1:=by simpa using b
    rw[bc .b] at this;omega
   refine ao 4 cV.nd (aS (aH (ae 4) (ae 4) (mulL .f .f)) .C .f) ?_;refine ao 1 cV.nd (a8 .B ag wL) ?_;rw[bc c];refine aO #[(Â,n.fdiv 2,a,q*q%m),#[rfl,d.2,?_,h,l,k,j],?_]
   .dsimp only;rw[d.1,yA g,hi]
   .dsimp only;omega
 .have hz:n.toNat=0:=by
   have:¬0<n:=by simpa using b
   omega
  rw[hz,WG,WO,YS h l] at hi;refine ar .D ?_;show Bd.val _ _=Bd.val _ _;unfold tq;rw[<-hi]
def Eu{k l n:Int}(g:0<=n)(he:k=l*d^n.toNat)(f:2<=d)(e:l.fmod d=0)(hz:l≠0):0<=n+1/\k=l.fdiv d*d^(n+1).toNat/\l.fdiv d≠0/\(l.fdiv d).natAbs<l.natAbs:=by
 obtain⟨a,b,c⟩:=xE f (Q.fM.mp e) hz;refine#[.a,?_,b,c];rw[show(n+1).toNat=n.toNat+1 by lia,Wk,he];generalize d^n.toNat=t;generalize l.fdiv d=q at *;rw[<-a];grind
def yn(x d:Int)(k:x≠0)(c:2<=d)(o:Sm 9000 d):⇑Body pL "taken_out" kH f kk [.val Á x,.val Á d] (RT Â (bF x d)):=by
 intro q A outer s H E t;refine ao 2 eT.nd ag ?_;refine ao 3 eT.nd .A ?_;refine cX (ι:=Bool×Int×Int) (λi U=>U=[À (.val Á x),À (.val Á d),À (.val Â i.2.1),À (.val i.1 i.2.2)]/\0<=i.2.1/\x=i.2.2*d^i.2.1.toNat/\i.2.2≠0) (λi=>i.2.2.natAbs) (Á,0,x) #[rfl,XE 0,by dsimp only;rw[show(0:Int).toNat=0 from rfl,WG,WO],k] ?_;rintro⟨u,n,l⟩ U' ⟨rfl,e,he,h⟩;dsimp only at *;refine#[_,ay aB (aS .D .B .a) ag,λb=>?_,λb=>?_]
 .have a:l.fmod d=0:=by simpa using b
  refine ao 3 eT.nd (a8 .D .B (o.div .a)) ?_;refine ao 2 eT.nd (bt .C ag) ?_;obtain⟨m,j,g,p⟩:=Eu e he c a h;exact aO #[(Â,n+1,l.fdiv d),#[rfl,m,j,g],p]
 .have a:¬l.fmod d=0:=by simpa using b
  refine ar (a7 .C (dR (b':=Â) .D)) ?_;show Bd.val _ _=Bd.val _ _;rw[o6 c (r:=(n,l)) #[e,he,λz=>a (Q.fM.mpr z)]];rfl
def Jp{k:Int}(d:0<=k):k<(2:Int)^((Ë k+1)/2)*2^((Ë k+1)/2):=by
 have c:k.natAbs<2^Ë k:=by
  unfold Ë;by_cases hz:k=0
  .subst hz;decide
  .rw[V4 ↑hz];exact Nat.lt_log2_self
 have h2:Ë k<=(Ë k+1)/2+(Ë k+1)/2:=by lia
 have b:(2:Nat)^Ë k<=2^((Ë k+1)/2+(Ë k+1)/2):=X_ .b h2;rw[<-WZ];have a:((2^((Ë k+1)/2+(Ë k+1)/2):Nat):Int)=(2:Int)^((Ë k+1)/2+(Ë k+1)/2):=by rw[ZT];rfl
 rw[<-a];lia
def tW(x:Int)(e:0<=x)(l:Sm 8000 x):⇑Body lO "square_root" iH f k [.val Á x] (RT Â (rt x)):=by
 intro n A outer s H E u;have q:Ë x<=8000:=l.bits
 have c:((Ë x:Int)+1).fdiv 2=(((Ë x+1)/2:Nat):Int):=by
  rw[Ws _ .b];lia
 refine ao 1 gS.nd (NH ag (a8 (bt (LP .A) ag) ag wL) #[by rw[c];lia,by rw[c];lia,.b]) ?_;rw[c,Xe,Wm];have o:=Jp e
 have h:Sm 8001 ((2:Int)^((Ë x+1)/2)):=by
  unfold Sm;rw[Int.natAbs_pow];exact Nat.pow_lt_pow_right .b .a
 have hp:(0:Int)<2^((Ë x+1)/2):=WK .b;generalize (2:Int)^((Ë x+1)/2)=R at *
 refine cX (ι:=Int) (λr U=>U=[À (.val Á x),À (.val Â r)]/\0<=r/\r<=R/\x<(r+1)*(r+1)) (λr=>r.toNat) R #[rfl,.a,.a,by
  have:R*R<=(R+1)*(R+1):=Bk .a .a
  lia] ?_
 rintro r U' ⟨rfl,g,t,i⟩;have b:Sm 8001 r:=Sm.of_le .a h;refine#[_,ay kI (aH .B .B (b.ok b)) .A,λd=>?_,λd=>?_]
 .have a:x<r*r:=by simpa using d
  have hpos:0<r:=by
   rcases Yo g with z|z
   .exact z
   .rw[<-z] at a;simp at a;lia
  refine ao 1 gS.nd (a8 (bt .B (a8 .A .B (b.div .a))) ag wL) ?_;obtain⟨j,p,m⟩:=Ma e hpos a;exact aO #[_,#[rfl,j,.a,m],.a]
 .have a:r*r<=x:=by simpa using d
  refine ar .B ?_;show Bd.val _ _=Bd.val _ _;rw[oJ g a i]
noncomputable def Iu(k:Int):Option Int:=if k<0 then none else if rt k*rt k=k then À (rt k) else none
def Np{k:Int}(b:0<=k)(a:Sm n k):Sm n (rt k):=by
 have h1:=F5 b;have h2:=iZ k;refine Sm.of_le ?_ a
 have:rt k<=k:=by
  rcases Xy (rt k) 1 with z|z
  .lia
  .have:rt k*1<=rt k*rt k:=Wc z h2;lia
 lia
abbrev U1(P w K mg base):=aK P w K mg base 1 "square_root" ["k"] (dU K (λk=>0<=k/\Sm 8000 k) Â rt)
def j3(i:⇑U1)(x:Int)(c:Sm 8000 x):⇑Body ff "square_root_or_none" dm f 1 [.val Á x] (RT Â (Iu x)):=by
 intro d A outer s H E g;refine aJ (ay fS .A ag) (λa=>?_) (λa=>?_)
 .have e:Iu x=none:=V6 ↑a;rw[e];exact ar (dQ (M:=Int)) rfl
 have h:¬x<0:=by simpa using a
 refine ao 1 eP.nd (aD i (g.mono .b) rfl .A #[.a,c]) ?_;have b:=Np .a c;refine ar (j4 (ay aB (aH .B .B (b.ok b)) .A) (λ_=>(ae 1).some) λ_=>dQ (M:=Int)) ?_;show Bd.val _ _=Bd.val _ _;congr 1;unfold Iu;rw[V4 h];by_cases z:rt x*rt x=x
 .rw[V6 z,V6 ↑z]
 .rw[V4 z,V4 ↑z]
def oN(a b:Int):⇑Body jk "common_divisor" fw f k [.val Á a,.val Á b] (RT Â ((Ì a b:Nat):Int)):=by
 intro g A outer s H E h;refine cX (ι:=Bool×Bool×Int×Int) (λi U=>∃r,U=[À (.val i.1 i.2.2.1),À (.val i.2.1 i.2.2.2),r]/\Ì i.2.2.1 i.2.2.2=Ì a b) (λi=>i.2.2.2.natAbs) (Á,Á,a,b) #[none,rfl,rfl] ?_;rintro⟨b1,b2,x,y⟩ U' ⟨r,rfl,c⟩;refine#[_,ay b8 .B ag,λe=>?_,λe=>?_]
 .have d:y≠0:=by simpa using e
  refine ao 2 dt.nd (aS .A .B d) ?_;refine ao 0 dt.nd .B ?_;refine ao 1 dt.nd .C ?_;exact aO #[(b2,Â,y,x.fmod y),#[_,rfl,(n6 x y).trans c],AU x y d]
 .have d:y=0:=by simpa using e
  refine ar (uC rfl B.abs .A) ?_;dsimp only at c ⊢;rw[d,Zf] at c;rw[<-c];show Bd.val _ _=Bd.val _ _;congr 1;split<;>lia
def M5(_ b:Int):Prop:=b≠0/\Sm 9000 b
abbrev U2(P w K mg base):=aK P w K mg base 1 "common_divisor" ["a","b"] (bO K (λ_ _=>True) Â λa b=>((Ì a b:Nat):Int))
def Az(h:⇑U2)(t b:Int)(g:b≠0)(i:Sm 9000 b):
  Body P w K mg base mw "fraction" gG f 1 [.val Á t,.val Á b] (RT Â (fr t b)):=by
 intro c A outer s H E j;have e:=sP (t:=t) g;have hz:Sm 9000 (fd t b):=Sm.of_le (JP g) i;refine ao 2 kf.nd (av h j rfl .A .B É) ?_
 have last:∀d:Int,d=fd t b->S (⇑cx mw "fraction" gG f c A outer s H E) [À (.val Á t),À (.val Á b),À (.val Â d)] [(aU gG).getD 2 (.Pass #[0,0,0,0])] (RT Â (fr t b)):=by
  rintro d rfl;exact ar (a7 (a8 .A .C (hz.div e)) (a8 .B .C (hz.div e))) rfl
 refine aJ (ay fS .B ag) (λa=>?_) (λa=>?_)
 .refine ao 2 kf.nd (gn .C) (aO ?_);exact last _ (by unfold fd;rw[V6 ↑a])
 .exact last _ (by unfold fd;rw[V4 ↑a])
def Oy:i<(Ó b m 2).toNat↔b+(i:Int)*2<m:=by
 unfold Ó;simp;split<;>lia
def qW(o:⇑U1)(x b e:Int)(hp:1<=x/\Sm 8000 x/\1<=b/\b<2^62/\-(2^62)<=e/\e<2^62):
  Body P w K mg base ke "next_divisor" gZ f 1 [.val Á x,.val Á b,.val Á e] (RT Â (pP x b e)):=by
 intro u A outer s H E p;obtain⟨h1,h2,v,q,y,C⟩:=hp;have t:=iZ x;have l:-(2^62)<=(if rt x+1<e then rt x+1 else e)/\(if rt x+1<e then rt x+1 else e)<2^62:=by split<;>lia
 have k:pP x b e=OA x b (if rt x+1<e then rt x+1 else e):=rfl;refine pW (λi U=>∃r,U=[À (.val Á x),À (.val Á b),À (.val Á e),r]/\∀j:Nat,j<i->¬(b+(j:Int)*2)∣x) rfl B.range (bW 3 jQ.nd) .B (xO rfl rfl B.min .C (bt (aD o (p.mono .b) rfl .A #[.a,h2]) ag)) ag #[.a,q,l.1,l.2] .b #[none,rfl,λj a=>absurd a (Xx _)] ?_ ?_
 .rintro i U' hi ⟨r,rfl,a⟩;have g:=Oy.mp hi;refine aJ (ay aB (aS .A .D .a) ag) (λd=>?_) (λd=>?_)
  .have c:(b+(i:Int)*2)∣x:=Q.fM.mp ↑d;refine ar (ae 3).some ?_;show Bd.val _ _=Bd.val _ _;rw[k,<-vE (r:=À (b+(i:Int)*2)) #[.a,g,.a,c,λd' q1 n m=>?_]];have:=a ((d'-b)/2).toNat .a
   rwa [show b+((((d'-b)/2).toNat:Nat):Int)*2=d' by lia] at this
  .have c:¬(b+(i:Int)*2)∣x:=λz=>by
    have:=Q.fM.mpr z;simp[this] at d
   refine aO #[_,rfl,λj h=>?_];rcases aaC.mp h with z|z
   .exact a j z
   .rwa[z]
 .rintro U' ⟨r,rfl,a⟩;refine ar (dQ (M:=Int)) ?_;show Bd.val _ _=Bd.val _ _;rw[k,<-vE (r:=none) λd' q1 n m=>?_];have:=a ((d'-b)/2).toNat (Oy.mpr .a)
  rwa [show b+((((d'-b)/2).toNat:Nat):Int)*2=d' by lia] at this
def JZ(k:Int):k.fmod 2=k%2:=Xf k .b
abbrev U3(P w K mg base):=aK P w K mg base 2 "next_divisor" ["k","begin","end"] (nV K (λk b e=>1<=k/\Sm 8000 k/\1<=b/\b<2^62/\-(2^62)<=e/\e<2^62) Â pP)
def zP(c:⇑U3)(x:Int)(d:x<2^62):
  Body P w K mg base rk "is_prime" mx f 2 [.val Á x] (RT Â (bg x)):=by
 intro e A outer s H E g;refine aJ (TW.t (bV (ay fS .A ag) λ_=>(di (ay aB (aS .A ag .b) ag)))) (λb=>?_) (λb=>?_)
 .have a:x<3\/x%2=0:=by simpa [JZ] using b
  refine ar (bx aB .A ag) ?_;show Bd.val _ _=Bd.val _ _;congr 1;rw[WW,cg,WM];constructor
  .exact .inl
  .rintro(z|z)<;>omega
 .have a:3<=x/\x%2=1:=by
   have:¬(x<3\/x%2=0):=by simpa [JZ] using b
   omega
  refine ar (OL (bZ c (g.mono .b) rfl .A ag .A #[.f,Sm.le (m:=62) (by unfold Sm;omega) .b,.b,.b,.f,d]) λ_ _ _ _ h=>nomatch h) ?_;show Bd.val _ _=Bd.val _ _;rw[Hn a.1 a.2]
def Qi(k e:Int):Prop:=1<=k/\Sm 900 k/\0<=e/\e<2^61
theorem DU:∀{us:List (Int×Int)} {a b:Int},1<=a->jN a us b->(2:Int)^us.length<=pp us
 |[],_,_,_,_=>by show(2:Int)^0<=1;decide
 |u::us,a,b,ha,h=>by
  have h1:=DU (show 1<=u.1 by have:=h.1;lia) h.2.2.2
  have c:(2:Int)<=u.1^u.2.toNat:=by
   have e:u.2.toNat=(u.2.toNat-1)+1:=by have:=h.2.2.1;lia
   rw[e,Wk];have:(0:Int)<u.1^(u.2.toNat-1):=WK (by have:=h.1;lia);have:=h.1;have:1*2<=u.1^(u.2.toNat-1)*u.1:=W_ .a .a .b .a;lia
  show(2:Int)^(us.length+1)<=u.1^u.2.toNat*pp us;rw[Wk,WE];have d:(0:Int)<2^us.length:=WK .b;exact W_ c h1 .a .a
def JO{k:Int}{fs:List (Int×Int)}{l:Int}(I:zV k fs l b):l<=k/\(2:Int)^fs.length<=k:=by
 have h1:=I.prod;have h2:=jr .b I.rise;have a:=I.pos;have e:=DU (XE 1) I.rise;have c:1*l<=pp fs*l:=W5 .a .a;have d:pp fs*1<=pp fs*l:=Wc .a .a;lia
def DX{m:Nat}{k:Int}(h:(2:Int)^m<=k)(a:Sm 900 k):m<=900:=by
 apply V9;intro b;unfold Sm at a;have h1:(2:Nat)^900<=2^m:=X_ .b .a;have h2:((2^m:Nat):Int)=(2:Int)^m:=by rw[ZT];rfl
 lia
abbrev U4(P w K mg base):=aK P w K mg base 1 "taken_out" ["k","divisor"] (bO K (λk d=>k≠0/\2<=d/\Sm 9000 d) Â bF)
def CD(y:⇑U4)(t:⇑U3)(x e:Int)(hp:Qi x e):
  Body P w K mg base uh "divided" oU f 2 [.val Á x,.val Á e] (RT Â (bG x e)):=by
 intro G A outer s H E o;obtain⟨h1,h2,R,W⟩:=hp;obtain⟨v,j⟩:=oG h1;have two:Sm 9000 (2:Int):=Sm.le (m:=2) (by unfold Sm;decide) .b;refine ao 2 dD.nd (av y (o.mono .b) rfl .A ag #[.a,.b,two]) ?_;refine vg 3 dD.nd (Nl (ay kI (cj .C) ag) (λ_=>Ae (M:=Int×Int) (af (a7 ag (cj .C)) au) (V1 rfl)) λ_=>Ae (M:=Int×Int) (b:=Â) au (V1 rfl)) ?_
 have D:(if decide (0<(bF x 2).1)=Â then [((2:Int),(bF x 2).1)] else [])=wU x:=by
  unfold wU;by_cases z:0<(bF x 2).1
  .rw[V6 z,V6 ↑z]
  .rw[V4 z,V4 ↑z]
 rw[D];refine KG (M:=Int×Int) 3 Â rfl ?_;refine ao 4 dD.nd (b6 .C) ?_;have h:∀l:Int,0<l->l<=x->Sm 8000 l:=λl a b=>Sm.le (Sm.of_le .a h2) .b;have p:=v.pos;refine ao 5 dD.nd (bZ t (o.mono .b) rfl (ae 4) ag .B #[.a,h _ p j,.b,.b,.a,.a]) ?_;refine cX (ι:=Nat×List (Int×Int)×Int×Int) (λi U=>∃r,U=[À (.val Á x),À (.val Á e),r,À (.own Â i.2.1),À (.val Â i.2.2.1),À (.val Â (pP i.2.2.1 i.2.2.2 e))]/\zV x i.2.1 i.2.2.1 i.2.2.2/\i.2.2.1<=(i.1:Int)/\Cp e i.1 i.2.1 i.2.2.1 i.2.2.2=bG x e) (λi=>i.1) (x.toNat,wU x,(bF x 2).2,3) #[_,rfl,v,.e,rfl] ?_;rintro⟨n,fs,l,b⟩ U' ⟨r,rfl,I,X,u⟩;dsimp only at *;have q:=I.pos;have J:=I.b3;obtain⟨B,k⟩:=JO I;cases n with
 |zero=>lia
 |succ n =>
 refine#[_,Ls (M:=Int) (ae 5) vS,λg=>?_,λg=>?_]
 .cases c:pP l b e with
  |none=>rw[c] at g;cases g
  |some d =>
   obtain⟨Γ,T,V,α,F,S⟩:=km .a .a c;obtain⟨C,O,L,N⟩:=wd (show 2<=d by lia) q F;refine ao 2 dD.nd (av y (o.mono .b) rfl (ae 4) (jn (M:=Int) (a:=d) (ae 5)) #[.a,.a,Sm.le (m:=62) (by unfold Sm;lia) .b]) ?_;refine mW 3 rfl (dR (b':=Â) (a7 (jn (M:=Int) (a:=d) (ae 5)) (cj .C))) (by have:=DX k h2;lia) ?_;refine ao 4 dD.nd (b6 .C) ?_;refine ao 5 dD.nd (bZ t (o.mono .b) rfl (ae 4) (bt (jn (M:=Int) (a:=d) (ae 5)) ag) .B #[.a,h _ C .a,.a,.a,.a,.a]) ?_;refine aO #[(n,fs++[(d,(bF l d).1)],(bF l d).2,d+2),#[_,rfl,I.step c,.e,?_],.e];rw[<-u];show _=Cp e (n+1) fs l b;rw[Cp,c]
 .have c:pP l b e=none:=by
   cases hz:pP l b e with
   |none=>rfl
   |some d=>rw[hz] at g;cases g
  refine gT 3 rfl ?_;have e2:Cp e (n+1) fs l b=(fs,l):=by rw[Cp,c]
  rw[<-u,e2];refine ar (a7 .D (ae 4)) ?_;rfl
def Lb(k:Int):Option (List (Int×Int)×Int) :=
 if 1<(bG k 32768).2/\(bG k 32768).2<1073741824 then À ((bG k 32768).1++[((bG k 32768).2,1)],1) else (Iu (bG k 32768).2).map λq=>((bG k 32768).1,q)
abbrev U5(P w K mg base):=aK P w K mg base 2 "square_root_or_none" ["k"] (dU K (λk=>Sm 8000 k) Â Iu)
def vw(k:sY mg "GREAT_PRIMES_FROM" 32768)(i:sY mg "GREAT_FROM" 1073741824)(m:⇑aK 3 "divided" ["k","end"] (bO K Qi Â bG))(l:⇑U5)(x:Int)(hp:1<=x/\Sm 900 x):
  Body P w K mg base nX "tame_parts" jK f 3 [.val Á x] (RT Â (Lb x)):=by
 intro n A outer s H E g;refine ao 1 iw.nd (av m (g.mono .b) rfl .A (lL rfl k) #[hp.1,hp.2,.b,.b]) ?_;obtain⟨b,I,_⟩:=nF (e:=32768) hp.1;obtain⟨j,c⟩:=JO I;have o:=DX c hp.2;have hpos:=I.pos;refine aJ (qg fS fS ag (b6 .B) (lL rfl i)) (λd=>?_) (λd=>?_)
 .have e:Lb x=À ((bG x 32768).1++[((bG x 32768).2,1)],1):=V6 ↑d;rw[e];exact ar (gi (a7 (Ki (cj .B) (a_ (M:=Int×Int) (b:=Â) (af (dR (b':=Â) (a7 (b6 .B) ag)) au) (V1 rfl)) (by show _+1<=1000;lia)) ag)) rfl
 have e:Lb x=(Iu (bG x 32768).2).map λq=>((bG x 32768).1,q):=V4 ↑d;rw[e];refine ao 2 iw.nd (aD l (g.mono .b) rfl (b6 .B) (Sm.le (Sm.of_le .a hp.2) .b)) ?_;cases p:Iu (bG x 32768).2 with
 |none=>exact ar (j4 (M:=Option (List (Int×Int)×Int)) (x:=none) (y:=none) (iq (M:=Int) (x:=none) .C vS) (λ_=>dQ (M:=List (Int×Int)×Int)) λh=>absurd h .b) rfl
 |some r =>
  refine ar (j4 (M:=Option (List (Int×Int)×Int)) (x:=none) (y:=À ((bG x 32768).1,r)) (iq (M:=Int) (x:=À r) .C vS) (λh=>absurd h Wn) λ_=>gi (a7 (cj .B) (jn (M:=Int) (a:=r) .C))) ?_;rfl
noncomputable def zQ(b e:Int):Int:=b^e.toNat
def Mm(b e:Int):Prop:=1<=b/\0<=e/\e<2^62/\Sm 1000 (b^e.toNat)/\Sm 1000 b
def yw(a:1<=b){m:Nat}(h:m<=n):b^m<=b^n:=by
 obtain⟨d,rfl⟩:∃d,n=m+d:=#[n-m,.a];rw[WZ];exact jJ (WK .a) (by have:=WK (n:=b) (m:=d) .a;lia)
def Iy(b e:Int)(hp:Mm b e):⇑Body BN "power" we f kk [.val Á b,.val Á e] (RT Â (zQ b e)):=by
 intro h A outer s H E j;obtain⟨h1,h2,c,a,d⟩:=hp;refine ao 2 nG.nd ag ?_;refine b_ (n:=e) (λi U=>∃r,U=[À (.val Á b),À (.val Á e),À (.val Â (b^i)),r]) rfl B.range (bW 3 nG.nd) .B .a c #[none,by rw[WG];rfl] ?_ ?_
 .rintro i U' hi ⟨r,rfl⟩
  have g:Sm 1000 (b^i):=by
   have:=yw h1 (Xv hi);have:=WK (n:=b) (m:=i) .a;exact Sm.of_le .a a
  refine ao 2 nG.nd (aH .C .A (g.ok d)) ?_;exact aO #[_,by rw[Wk];rfl]
 .rintro U' ⟨r,rfl⟩;exact ar .C rfl
def HM{M β:Type}[Py M][Py β](K:Ã)(N:Nn)(H:Hp)(a:M×β):¬Py.rp K N H .non a:=fun⟨_,_,_,e,_⟩=>nomatch e
def QW(i:Int):(if i<0 then -i else i)=(i.natAbs:Int):=by split<;>lia
def Pu(u:Int×Int):Prop:=u.1≠0/\1<=u.2/\Sm 400 u.1/\Sm 400 u.2/\Tame (u.1.natAbs*u.2)
def EK{k:Int}(a:1<=k)(c:Tame k):Lb k=À (pZ k):=by
 obtain⟨h1,_,_,_⟩:=zE a c;obtain⟨b,I,_⟩:=nF (k:=k) (e:=32768) a;have hp:=I.pos;unfold Lb pZ;by_cases z:1<(bG k 32768).2/\(bG k 32768).2<1073741824
 .rw[V6 z,V6 z]
 .rw[V4 z,V4 z]
  have h2:rt (bG k 32768).2*rt (bG k 32768).2=(bG k 32768).2:=by
   rcases h1 with h1|h1
   .exact absurd h1 z
   .exact h1
  unfold Iu;rw[V4 .a,V6 h2];rfl
abbrev U7(P w K mg base):=aK P w K mg base 2 "fraction" ["top","bottom"] (bO K M5 Â fr)
abbrev U6(P w K mg base):=aK P w K mg base 1 "power" ["base","exponent"] (bO K Mm Â zQ)
def JK(Γ:⇑U6)(O:⇑U7)(W:⇑aK 4 "tame_parts" ["k"] (dU K (λk=>1<=k/\Sm 900 k) Â Lb))(u:Int×Int)(hp:Pu u):
  Body P w K mg base Bx "freed" uW f 4 [.val Á u] (RT Â (Oh u)):=by
 intro cdv A outer s H E D;obtain⟨h0,h1,Z,F,J⟩:=hp;have o:Sm 400 (u.1.natAbs:Int):=Sm.of_le .a Z
 have C:1<=(u.1.natAbs:Int)*u.2:=by
  have:0<(u.1.natAbs:Int)*u.2:=Xc .a .a;lia
 have p:Sm 800 ((u.1.natAbs:Int)*u.2):=o.mul F;refine ao 1 gO.nd (aD W (D.mono .b) rfl (jP (aH (uC rfl B.abs (cj .A)) (b6 .A) (by rw[QW];exact o.ok F)) (by rw[QW])) #[C,Sm.le p .b]) ?_;rw[EK C J];obtain⟨_,⟨b,e⟩,y,d⟩:=zE C J;have G:Oh u=(((pZ (u.1.natAbs*u.2)).1.foldl nJ (if 0<u.1 then 1 else -1,(pZ (u.1.natAbs*u.2)).2)).1,fr ((pZ (u.1.natAbs*u.2)).1.foldl nJ (if 0<u.1 then 1 else -1,(pZ (u.1.natAbs*u.2)).2)).2 u.2):=rfl;rw[G];generalize (u.1.natAbs:Int)*u.2=k at *;generalize hT:pZ k=T at *;refine aJ (iq (M:=List (Int×Int)×Int) (x:=À T) .B HM) (λh=>absurd h .c) (λh=>?_);refine ao 2 gO.nd (j4 (ay kI (cj .A) ag) (λ_=>ag) λ_=>(gn ag)) ?_
 have t:(if decide (0<u.1)=Â then (1:Int) else -1)=(if 0<u.1 then 1 else -1):=by
  by_cases z:0<u.1
  .rw[V6 ↑z,V6 z]
  .rw[V4 ↑z,V4 z]
 rw[t];have l:(if 0<u.1 then (1:Int) else -1)=1\/(if 0<u.1 then (1:Int) else -1)=-1:=by split<;>simp
 generalize (if 0<u.1 then (1:Int) else -1)=q at *;refine ao 3 gO.nd (b6 (jn (M:=List (Int×Int)×Int) (a:=T) .B)) ?_;have bd:=λi=>Ju e y l i;rw[d] at bd
 have α:pp T.1<=k:=by
  rw[<-d];exact jJ (jr .b e) (by have:=Xc y y;lia)
 refine A9 (λi U=>∃r,U=[À (.val Á u),À (.val Â (À T)),À (.val Â ((T.1.take i).foldl nJ (q,T.2)).1),À (.val Â ((T.1.take i).foldl nJ (q,T.2)).2),r]) (bW 4 gO.nd) (bh (cj (jn (M:=List (Int×Int)×Int) (a:=T) .B))) #[none,rfl] ?_ ?_
 .rintro i v U' I ⟨r,rfl⟩;obtain⟨b1,b2,b3⟩:=bd i;obtain⟨σ,v2,v3,v4,v5⟩:=JM e I;have S:(T.1.take (i+1)).foldl nJ (q,T.2)=nJ ((T.1.take i).foldl nJ (q,T.2)) v:=ly I;rw[S];generalize (T.1.take i).foldl nJ (q,T.2)=c at *;have sn:Sm 800 c.1:=Sm.of_le b1 p;have N:Sm 800 c.2:=Sm.of_le .a p;have L:Sm 800 v.1:=Sm.of_le .a p;have sp:Sm 800 (v.1^(v.2/2).toNat):=Sm.of_le (by have:=WK (n:=v.1) (m:=(v.2/2).toNat) .a;lia) p;have j:v.2.fdiv 2=v.2/2:=Ws _ .b
  have V:v.2<2^62:=by
   apply V9;intro hn
   have g1:(2:Int)^900<=v.1^(v.2/2).toNat:=by
    have a1:(2:Int)^900<=2^(v.2/2).toNat:=yw .b .a
    have X:∀n:Nat,(2:Int)^n<=v.1^n:=λn=>by
     induction n with
     |zero=>rw[WG,WG];decide
     |succ n R =>
      rw[Wk,Wk];exact W_ R σ .b (XG (WK .a))
    have:=X (v.2/2).toNat;lia
   have g2:(v.1^(v.2/2).toNat).natAbs<2^800:=sp;have g3:((2:Int)^800)<2^900:=by decide +kernel
   have g4:((2^800:Nat):Int)=(2:Int)^800:=by decide +kernel
   lia
  refine nT (λU=>U=[À (.val Á u),À (.val Â (À T)),À (.val Â (if v.2%2=1 then c.1*v.1 else c.1)),À (.val Â c.2),À (.val Â v)]) (ay aB (aS (b6 (ae 4)) ag .b) ag) (λh=>?_) (λh=>?_) ?_
  .have g:v.2%2=1:=by simpa [bc] using h
   rw[V6 g];exact ao 2 gO.nd (aH .C (cj (ae 4)) (sn.ok L)) (aO rfl)
  .have g:¬v.2%2=1:=by simpa [bc] using h
   rw[V4 g];exact aO rfl
  rintro U' rfl;refine ao 3 gO.nd (aH .D (av Γ (D.mono .b) rfl (cj (ae 4)) (a8 (b6 (ae 4)) ag wL) #[.a,by rw[j];lia,by rw[j];lia,by rw[j];exact Sm.le sp .b,Sm.le L .b]) (by show Ċ c.2 (v.1^(v.2.fdiv 2).toNat);rw[j];exact N.ok sp)) ?_;refine aO #[À (.val Â v),?_];unfold nJ zQ;rw[j];rfl
 .rintro U' ⟨r,rfl⟩;rw[XJ];refine ar (a7 .C (av O (D.mono .b) rfl .D (b6 .A) #[.a,Sm.le F .b])) ?_;rfl
def lI(k:Int):Int:=(Oh (k,1)).1
def QC(k:Int):Prop:=k≠0/\Sm 400 k/\Tame k.natAbs
def Cs(a:⇑aK 5 "freed" ["u"] (dU K Pu Â Oh))(k:Int)(hp:QC k):⇑Body uI "free_of" oW f 5 [.val Á k] (RT Â (lI k)):=by
 intro b A outer s H E c;exact ar (cj (aD a (c.mono .b) rfl (dR (b':=Â) (a7 .A ag)) #[hp.1,(by show(1:Int)<=1;decide),hp.2.1,Sm.le (m:=2) (by show(1:Int).natAbs<2^2;decide) .b,by rw[show((k,(1:Int)).1.natAbs:Int)*(k,(1:Int)).2=(k.natAbs:Int) from WO _];exact hp.2.2])) rfl
def zR{k f s:Int}(a:k≠0)(d:k.natAbs<1073741824)(c:mC f)(b:0<s)(e:k=f*(s*s)):lI k=f:=by
 have t:Tame (k.natAbs*1):=by rw[WO];exact AL .f .f
 show(K5 k 1).1=f;rw[L_ a .b t c b (by rwa[WO])]
def AG{k:Int}(b:k≠0)(c:k.natAbs<1073741824):∃s,mC (lI k)/\0<s/\k=lI k*(s*s):=by
 obtain⟨f,s,h1,h2,a⟩:=AN _ k b (V_ _);have e:=zR b c h1 h2 a;rw[e];exact#[s,h1,h2,a]
def MC{k:Int}(b:k≠0)(c:k.natAbs<1073741824):lI k≠0/\(lI k).natAbs<=k.natAbs:=by
 obtain⟨s,h1,h2,a⟩:=AG b c;exact#[h1.1,Hc h2 a]
def tm{n:Int}(b:n≠0)(h:∀q,bg q=Â->¬q*q∣n):mC n:=#[b,λd a z=>by
 obtain⟨q,h1,h2⟩:=kZ a
 exact h q h1 (Wz (Int.mul_dvd_mul h2 h2) z)]
abbrev U8(P w K mg base):=aK P w K mg base 1 "power_by" ["base","exponent","m"] (nV K (λ_ e m=>0<=e/\1<=m/\m<2^62) Â tq)
def xC(g:⇑U8)(x p:Int)(hp:2<=p)(c:p<2^62):⇑Body pH "square_by" kM f 1 [.val Á x,.val Á p] (RT Â (ck x p)):=by
 intro i A outer s H E h;have d:(p-1).fdiv 2=(p-1)/2:=Ws _ .b;refine ao 2 mI.nd (aS .A .B .a) ?_;rw[bc (show 1<=p by lia)];refine aJ (TW.t (bV (ay aB .C ag) λ_=>(di (ay aB .B ag)))) (λb=>?_) (λb=>?_)
 .have a:x%p=0\/p=2:=by simpa using b
  have e:ck x p=x%p:=by
   unfold ck;by_cases z:x%p=0
   .rw[V6 z,z]
   .rcases a with w|w
    .exact absurd w z
    .rw[V4 z,V6 w];subst w;lia
  rw[e];exact ar .C rfl
 .have a:¬(x%p=0\/p=2):=by simpa using b
  refine ar (j4 (ay aB (bZ g (h.mono .b) rfl .C (a8 (dX .B ag) ag wL) .B #[by rw[d];lia,.a,c]) ag) (λ_=>ag) λ_=>(gn ag)) ?_;show Bd.val _ _=Bd.val _ _;unfold ck tq;rw[V4 (λz=>a (.inl z)),V4 (λz=>a (.inr z)),d];congr 1;by_cases z:(x%p)^((p-1)/2).toNat%p=1
  .rw[V6 z,V6 ↑z]
  .rw[V4 z,V4 ↑z]
def Nv(k m:Int):Prop:=Ì k m=1/\2<=m/\Sm 300 m
def Ct(x m:Int)(t:Ì x m=1)(q:2<=m)(d:Sm 300 m):⇑Body t6 "back_by" oQ f kk [.val Á x,.val Á m] (RT Â (df x m)):=by
 intro B A outer s H E G;refine ao 2 bY.nd (dR (b':=Â) .B) ?_;refine ao 3 bY.nd (aS .A .B .a) ?_;rw[bc .a];refine ao 4 bY.nd ag ?_;refine ao 5 bY.nd ag ?_;refine cX (ι:=Int×Int×Int×Int) (λi U=>(∃h o j,U=[À (.val Á x),À (.val Á m),À (.val Â i.1),À (.val Â i.2.1),À (.val Â i.2.2.1),À (.val Â i.2.2.2),h,o,j])/\∃u v s,C_ x m i.1 i.2.1 i.2.2.1 i.2.2.2 u v s) (λi=>i.2.1.toNat) (m,x%m,0,1) #[#[none,none,none,rfl],0,1,1,Q.C_.start q t] ?_;rintro⟨r,b,y,k⟩ U' ⟨⟨h,o,j,rfl⟩,u,v,s,I⟩;dsimp only at I ⊢;have N:=I.r0;have l:=I.b0;have D:=I.lt;have J:=I.rm;have L:=I.bd;have p:∀{a c:Int},a.natAbs<=m->c.natAbs<=m->Ċ a c:=λ{a c} h1 h2=>(Sm.of_le .a d).ok (Sm.of_le .a d);refine#[_,ay b8 .D ag,λg=>?_,λg=>?_]
 .have e:b≠0:=by simpa using g
  have st:=I.step e;have z:r.fdiv b=r/b:=Ws _ l;have F:0<=r/b:=Za .a l
  have q1:r/b<=m:=by
   have:=Η b (show 0<=r by lia);lia
  refine ao 6 bY.nd (a8 .C .D (Sm.div (n:=300) (Sm.of_le .a d) e)) ?_;rw[z];refine ao 7 bY.nd (dX .C (aH (ae 6) .D (p .a .a))) ?_;refine ao 8 bY.nd (dX (ae 4) (aH (ae 6) (ae 5) (p .a .a))) ?_;refine ao 2 bY.nd .D ?_;refine ao 3 bY.nd (ae 7) ?_;refine ao 4 bY.nd (ae 5) ?_;refine ao 5 bY.nd (ae 8) ?_;have C:=st.lt;have α:=st.b0;exact aO #[(b,r-r/b*b,k,y-r/b*k),#[#[_,_,_,rfl],v,u+r/b*v,-s,st],.e]
 .have e:b=0:=by simpa using g
  subst e;rw[I.done q,<-bc (show 1<=m by lia)];exact ar (aS (ae 4) .B .a) rfl
abbrev U9(P w K mg base):=aK P w K mg base 2 "square_by" ["k","p"] (bO K (λ_ p=>2<=p/\p<2^62) Â ck)
def mX(c:⇑U9)(p:Int)(g:NR p)(hp:2<=p/\p<2^62):⇑Body il "least_no_square" eW f 2 [.val Á p] (RT Â (zN p)):=by
 intro n A outer s H E m;obtain⟨d,l,h⟩:=Fj g;refine ao 1 eI.nd ag ?_;refine cX (ι:=Int) (λk U=>U=[À (.val Á p),À (.val Â k)]/\2<=k/\k<=zN p) (λk=>(zN p-k).toNat) 2 #[rfl,.b,d] ?_;rintro k U' ⟨rfl,k2,i⟩;refine#[_,ay b8 (av c (m.mono .b) rfl .B .A hp) (gn ag),λb=>?_,λb=>?_]
 .have a:ck k p≠-1:=by simpa using b
  have j:k≠zN p:=by rintro rfl;exact a l
  exact ao 1 eI.nd (bt .B ag) (aO #[k+1,#[rfl,.a,.a],.a])
 .have a:ck k p=-1:=by simpa using b
  have e:k=zN p:=by
   rcases Yo i with z|z
   .exact absurd a (h k k2 z)
   .exact z
  rw[<-e];exact ar .B rfl
def P0(e p:Int):Prop:=(∃n:Nat,Cg p (e^2^n) 1)/\(0<=e/\e<p)/\2<=p/\p<2^62
def yH(e p:Int)(hp:P0 e p):⇑Body pU "squarings" kq f kk [.val Á e,.val Á p] (RT Â (ju e p)):=by
 intro q A outer s H E t;obtain⟨⟨n,m⟩,he,p2,r⟩:=hp;obtain⟨⟨o,h,l⟩,_⟩:=EM m;refine ao 2 gq.nd ag ?_;refine cX (ι:=Bool×Nat×Int) (λi U=>U=[À (.val i.1 i.2.2),À (.val Á p),À (.val Â (i.2.1:Int))]/\Cg p i.2.2 (e^2^i.2.1)/\(0<=i.2.2/\i.2.2<p)/\(i.2.1:Int)<=ju e p) (λi=>(ju e p-(i.2.1:Int)).toNat) (Á,0,e) #[rfl,by show Cg p e (e^1);rw[Wk,WG,Xe];exact ic _ _,he,o] ?_;rintro⟨u,i,k⟩ U' ⟨rfl,b,d,hi⟩;dsimp only at *;refine#[_,ay b8 .A ag,λc=>?_,λc=>?_]
 .have a:k≠1:=by simpa using c
  have g:¬Cg p (e^2^i) 1:=λz=>a (Ko d #[.b,.a] (cz b z))
  have j:(i:Int)<ju e p:=by
   rcases Yo hi with z|z
   .exact z
   .rw[<-z,Wm] at h;exact absurd h g
  refine ao 0 gq.nd (aS (aH .A .A (mulL .a .a)) .B .a) ?_;refine ao 2 gq.nd (bt .C ag) ?_;rw[bc .a];refine aO #[(Â,i+1,k*k%p),#[rfl,?_,#[Wo _ .a,Wf _ .a],.e],.e];dsimp only;refine cz (e8 _ _) ?_;rw[show(2:Nat)^(i+1)=2^i+2^i by rw[ZP];lia,WZ];exact iO b b
 .have a:k=1:=by simpa using c
  have heq:(i:Int)=ju e p:=by
   rcases Yo hi with z|z
   .rw[a] at b;exact absurd (wq b) (l i z)
   .exact z
  rw[<-heq];exact ar .C rfl
def PL(k p:Int):Prop:=bg p=Â/\p≠2/\p<2^60/\(0<=k/\k<p)/\ck k p=1/\NR p
abbrev U_(P w K mg base):=aK P w K mg base 3 "least_no_square" ["p"] (dU K (λp=>NR p/\2<=p/\p<2^62) Â zN)
def pe(V:⇑U4)(o:⇑U8)(C:⇑U_)(R:⇑aK 1 "squarings" ["k","p"] (bO K P0 Â ju))
  (k p:Int) (hp:PL k p):⇑Body iX "root_of_square" fg f 3 [.val Á k,.val Á p] (RT Â (G8 k p)):=by
 intro y A outer s H E d;obtain⟨a,h2,N,D,T,q⟩:=hp;have Z:=B6 a h2;obtain⟨t1,o1,o2,_⟩:=rE a h2;have two:Sm 9000 (2:Int):=Sm.le (m:=2) (by unfold Sm;decide) .b;refine ao 2 aL.nd (av V (d.mono .b) rfl (dX .B ag) ag #[.a,.b,two]) ?_;refine ao 3 aL.nd (cj .C) ?_;refine ao 4 aL.nd (b6 .C) ?_;have v:((bF (p-1) 2).2+1).fdiv 2=((bF (p-1) 2).2+1)/2:=Ws _ .b;refine ao 5 aL.nd (bZ o (d.mono .b) rfl .A (a8 (bt (ae 4) ag) ag wL) .B #[by rw[v];lia,.a,.a]) ?_;refine ao 6 aL.nd (bZ o (d.mono .b) rfl .A (ae 4) .B #[.a,.a,.a]) ?_;refine ao 7 aL.nd (j4 (ay b8 (ae 6) ag) (λ_=>(bZ o (d.mono .b) rfl (aD C (d.mono .b) rfl .B #[q,.a,.a]) (ae 4) .B #[.a,.a,.a])) λ_=>ag) ?_;have L:=xJ a h2 D T q
 have em:(if (!decide (tq k (bF (p-1) 2).2 p=1))=Â then tq (zN p) (bF (p-1) 2).2 p else 1)=(if k^(bF (p-1) 2).2.toNat%p≠1 then zN p^(bF (p-1) 2).2.toNat%p else 1):=by
  unfold tq;by_cases z:k^(bF (p-1) 2).2.toNat%p=1
  .rw[V4 (by simp[z]),V4 (by simp[z])]
  .rw[V6 (by simp[z]),V6 z]
 rw[em,v]
 refine cX (ι:=Nat×Int×Int×Int×Int) (λi U=>∃u g,U=[À (.val Á k),À (.val Á p),À (.val Â (bF (p-1) 2)),À (.val Â i.2.1),À (.val Â (bF (p-1) 2).2),À (.val Â i.2.2.1),À (.val Â i.2.2.2.1),À (.val Â i.2.2.2.2),u,g]/\MY p k i.2.1 i.2.2.1 i.2.2.2.1 i.2.2.2.2/\i.2.1<=(i.1:Int)/\i.2.1<2^61/\o9 p i.1 i.2.1 i.2.2.1 i.2.2.2.1 i.2.2.2.2=G8 k p) (λi=>i.1)
  ((bF (p-1) 2).1.toNat,(bF (p-1) 2).1,k^(((bF (p-1) 2).2+1)/2).toNat%p,k^(bF (p-1) 2).2.toNat%p,if k^(bF (p-1) 2).2.toNat%p≠1 then zN p^(bF (p-1) 2).2.toNat%p else 1) #[none,none,rfl,L,.e,?_,rfl] ?_
 .dsimp only;obtain⟨b1,b2,b3⟩:=kc (show(2:Int)<=2 by decide) (show p-1≠0 by lia);apply V9;intro q
  have g1:((bF (p-1) 2).1.toNat:Int)<(2:Int)^(bF (p-1) 2).1.toNat:=by
   have:=Nat.lt_two_pow_self (n:=(bF (p-1) 2).1.toNat);have c1:((2^(bF (p-1) 2).1.toNat:Nat):Int)=(2:Int)^(bF (p-1) 2).1.toNat:=by rw[ZT];rfl
   lia
  have W:1*(2:Int)^(bF (p-1) 2).1.toNat<=(bF (p-1) 2).2*2^(bF (p-1) 2).1.toNat:=W5 .a .a;lia
 rintro⟨n,t,r,e,m⟩ U' ⟨u,g,rfl,I,α,S,b⟩;dsimp only at *;have Γ:=I.t1;cases n with
 |zero=>lia
 |succ n =>
 refine#[_,ay b8 (ae 6) ag,λl=>?_,λl=>?_]
 .have he:e≠1:=by simpa using l
  obtain⟨X,O,F,J⟩:=I.step a he;have ie:=I.e0;have ir:=I.r0;refine ao 8 aL.nd (av R (d.mono .b) rfl (ae 6) .B #[#[_,I.ee],I.e0,.a,.a]) ?_;refine b_ (λj U=>∃g,U=[À (.val Á k),À (.val Á p),À (.val Â (bF (p-1) 2)),À (.val Â t),À (.val Â (bF (p-1) 2).2),À (.val Â r),À (.val Â e),À (.val Â (mq p m j)),À (.val Â (ju e p)),g]) rfl B.range (bW 9 aL.nd) (dX (dX .D (ae 8)) ag) .a .a #[_,rfl] ?_ ?_
  .rintro j U' σ ⟨g,rfl⟩;have G:=Es (show 0<p by lia) I.m0 j;refine ao 7 aL.nd (aS (aH (ae 7) (ae 7) (mulL .a .a)) .B .a) ?_;rw[bc .a];exact aO #[_,rfl]
  .rintro U' ⟨g,rfl⟩;have G:=Es (show 0<p by lia) I.m0 (t-ju e p-1).toNat;have c:o9 p (n+1) t r e m=o9 p n (ju e p) (r*mq p m (t-ju e p-1).toNat%p) (e*(mq p m (t-ju e p-1).toNat*mq p m (t-ju e p-1).toNat%p)%p) (mq p m (t-ju e p-1).toNat*mq p m (t-ju e p-1).toNat%p):=by rw[o9,V4 he]
   rw[c] at b;generalize mq p m (t-ju e p-1).toNat=x at *;refine ao 5 aL.nd (aS (aH (ae 5) (ae 7) (mulL .a .a)) .B .a) ?_;refine ao 7 aL.nd (aS (aH (ae 7) (ae 7) (mulL .a .a)) .B .a) ?_;refine ao 6 aL.nd (aS (aH (ae 6) (ae 7) (mulL .a .a)) .B .a) ?_;refine ao 3 aL.nd (ae 8) ?_;rw[bc .a,bc .a,bc .a];exact aO #[(n,ju e p,r*x%p,e*(x*x%p)%p,x*x%p),#[_,_,rfl,J,.e,.e,b],.e]
 .have he:e=1:=by simpa using l
  have h:o9 p (n+1) t r e m=r:=by rw[o9,V6 he]
  rw[<-b,h];exact ar (ae 5) rfl
def Pe(k p:Int):Prop:=bg p=Â/\p<2^60
def p4(m:⇑U9)(o:⇑aK 4 "root_of_square" ["k","p"] (bO K PL Â G8))(k p:Int)(hp:Pe k p):⇑Body jW "root_by_prime" gd f 4 [.val Á k,.val Á p] (RT Â (pK k p)):=by
 intro l A outer s H E j;obtain⟨b,c⟩:=hp;have i:=aA b;refine ao 2 jd.nd (av m (j.mono .b) rfl .A .B #[i,.a]) ?_;refine aJ (ay aB .C (gn ag)) (λa=>?_) (λa=>?_)
 .have e:pK k p=none:=V6 ↑a;rw[e];exact ar (dQ (M:=Int)) rfl
 have h1:¬ck k p=-1:=by simpa using a
 refine aJ (TW.t (bV (ay aB .C ag) λ_=>(di (ay aB .B ag)))) (λa=>?_) (λa=>?_)
 .have e:pK k p=À (ck k p):=by unfold pK;rw[V4 h1,V6 ↑a]
  rw[e];exact ar (gi .C) rfl
 have h:¬(ck k p=0\/p=2):=by simpa using a
 have e:pK k p=À (G8 (k%p) p):=by unfold pK;rw[V4 h1,V4 h]
 have h2:p≠2:=λz=>h (.inr z);have n:=D3 b h2;have g:¬p∣k:=λz=>h (.inl (eN z));have d:ck k p=1:=by rcases eU g with z|z<;>lia
 rw[e,<-bc (show 1<=p by lia)];refine ar (gi (av o (j.mono .b) rfl (aS .A .B .a) .B #[b,h2,c,?_,?_,n])) rfl
 .rw[bc .a];exact#[Wo _ .a,Wf _ .a]
 .rwa[bc .a,Bi]
def y8(h:⇑U4)(e:⇑U9)(x p:Int)(d:x≠0)(hp:2<=p)(a:p<2^62):⇑Body rS "class_at" ma f 2 [.val Á x,.val Á p] (RT Â (cls x p)):=by
 intro g A outer s H E c;refine aJ (ay aB .B ag) (λb=>?_) (λb=>?_)
 .exact absurd (show p=0 by simpa using b) .a
 refine ao 2 kd.nd (av h (c.mono .b) rfl .A .B #[d,hp,Sm.le (m:=62) (by unfold Sm;lia) .b]) ?_;refine ao 3 kd.nd (j4 (ay aB .B ag) (λ_=>(aS (b6 .C) ag .b)) λ_=>(av e (c.mono .b) rfl (b6 .C) .B #[hp,a])) ?_;refine ar (a7 (aS (cj .C) ag .b) .D) ?_;show Bd.val _ _=Bd.val _ _;unfold cls;rw[bc .b,bc .b];congr 2;by_cases z:p=2
 .rw[V6 z,V6 ↑z]
 .rw[V4 z,V4 ↑z]
def zZ(x y:Int×Int):⇑Body sT "two_says" l9 f kk [.val Á x,.val Á y] (RT Â (yI x y)):=by
 intro c A outer s H E d;refine ao 2 fO.nd ag ?_;refine nT (λU=>U=[À (.val Á x),À (.val Á y),À (.val Â (0+b1 (decide (x.2.fmod 4=3)&&decide (y.2.fmod 4=3))))]) (TW.t (kN (ay aB (aS (b6 .A) ag .b) ag) λ_=>(jC (ay aB (aS (b6 .B) ag .b) ag)))) (λb=>?_) (λb=>?_) ?_
 .exact ao 2 fO.nd (bt .C ag) (aO (by rw[b];rfl))
 .exact aO (by rw[b];rfl)
 rintro U' rfl;refine nT (λU=>U=[À (.val Á x),À (.val Á y),À (.val Â (0+b1 (decide (x.2.fmod 4=3)&&decide (y.2.fmod 4=3))+b1 (decide (x.1=1)&&(decide ((3:Int)=y.2) || decide ((5:Int)=y.2)))))]) (TW.t (kN (ay aB (cj .A) ag) λ_=>(jC (ay F_ (b6 .B) (a7 ag ag))))) (λb=>?_) (λb=>?_) ?_
 .exact ao 2 fO.nd (bt .C ag) (aO (by rw[b];rfl))
 .exact aO (by rw[b];show [_,_,_]=[_,_,_];simp[b1])
 rintro U' rfl;refine nT (λU=>U=[À (.val Á x),À (.val Á y),À (.val Â (0+b1 (decide (x.2.fmod 4=3)&&decide (y.2.fmod 4=3))+b1 (decide (x.1=1)&&(decide ((3:Int)=y.2) || decide ((5:Int)=y.2)))+b1 (decide (y.1=1)&&(decide ((3:Int)=x.2) || decide ((5:Int)=x.2)))))]) (TW.t (kN (ay aB (cj .B) ag) λ_=>(jC (ay F_ (b6 .A) (a7 ag ag))))) (λb=>?_) (λb=>?_) ?_
 .exact ao 2 fO.nd (bt .C ag) (aO (by rw[b];rfl))
 .exact aO (by rw[b];show [_,_,_]=[_,_,_];simp[b1])
 rintro U' rfl;refine ar (bx aB (aS .C ag .b) ag) ?_;show Bd.val _ _=Bd.val _ _;unfold yI;congr 1;rw[bc .b,bc .b,bc .b,aaz];simp only[eq_comm (a:=(3:Int)),eq_comm (a:=(5:Int))]
def uc(x p:Int):-2<=ck x p/\ck x p<=2:=by
 unfold ck
 repeat' split
 all_goals decide
def Au(d:⇑U9)(x y:Int×Int)(p:Int)(hp:(-2<=x.2/\x.2<=2)/\(-2<=y.2/\y.2<=2)/\2<=p/\p<2^62):⇑Body rl "odd_says" lV f 2 [.val Á x,.val Á y,.val Á p] (RT Â (DC x y p)):=by
 intro g A outer s H E e;obtain⟨h,i,b,c⟩:=hp;have j:=uc (-1) p;refine ao 3 fU.nd ag ?_;refine nT (λU=>U=[À (.val Á x),À (.val Á y),À (.val Á p),À (.val Â (1*(if x.1=1 then y.2 else 1)))]) (ay aB (cj .A) ag) (λa=>?_) (λa=>?_) ?_
 .exact ao 3 fU.nd (aH .D (b6 .B) (mulL .b .b)) (aO (by rw[V6 ↑a];rfl))
 .exact aO (by rw[V4 ↑a];rfl)
 rintro U' rfl;refine nT (λU=>U=[À (.val Á x),À (.val Á y),À (.val Á p),À (.val Â (1*(if x.1=1 then y.2 else 1)*(if y.1=1 then x.2 else 1)))]) (ay aB (cj .B) ag) (λa=>?_) (λa=>?_) ?_
 .exact ao 3 fU.nd (aH .D (b6 .A) (mulR .f .f)) (aO (by rw[V6 (show y.1=1 by simpa using a)];rfl))
 .exact aO (by rw[V4 (show ¬y.1=1 by simpa using a),WO])
 rintro U' rfl;refine nT (λU=>U=[À (.val Á x),À (.val Á y),À (.val Á p),À (.val Â (1*(if x.1=1 then y.2 else 1)*(if y.1=1 then x.2 else 1)*(if x.1=1/\y.1=1 then ck (-1) p else 1)))]) (TW.t (kN (ay aB (cj .A) ag) λ_=>(jC (ay aB (cj .B) ag)))) (λa=>?_) (λa=>?_) ?_
 .exact ao 3 fU.nd (aH .D (av d (e.mono .b) rfl (gn ag) .C #[b,c]) (mulR .f .f)) (aO (by rw[V6 (show x.1=1/\y.1=1 by simpa using a)];rfl))
 .exact aO (by rw[V4 (show ¬(x.1=1/\y.1=1) by simpa using a),WO])
 rintro U' rfl;refine ar (bx aB .D ag) ?_;show Bd.val _ _=Bd.val _ _;unfold DC;rw[Xe]
def uS(x:Int){p:Int}(h2:p≠2):-2<=(cls x p).2/\(cls x p).2<=2:=by
 unfold cls;dsimp only;rw[V4 h2];exact uc _ _
abbrev Vb(P w K mg base):=aK P w K mg base 3 "odd_says" ["one","other","p"] (nV K (λx y p=>(-2<=x.2/\x.2<=2)/\(-2<=y.2/\y.2<=2)/\2<=p/\p<2^62) Â DC)
abbrev Va(P w K mg base):=aK P w K mg base 3 "class_at" ["k","p"] (bO K (λk p=>k≠0/\2<=p/\p<2^62) Â cls)
def Lx(i:⇑Va)(m:⇑aK 1 "two_says" ["one","other"] (bO K (λ_ _=>True) Â yI))
  (j:⇑Vb) (a b p:Int) (ha:a≠0) (k:b≠0) (hp:p=0\/(2<=p/\p<2^62)):⇑Body Fh "says" Al f 3 [.val Á a,.val Á b,.val Á p] (RT Â (lK a b p)):=by
 intro l A outer s H E d;refine aJ (ay aB .C ag) (λg=>?_) (λg=>?_)
 .have h:p=0:=by simpa using g
  have e:lK a b p=(decide (0<a) || decide (0<b)):=V6 h;rw[e];exact ar (yV (bx kI .A ag) λ_=>(c8 (bx kI .B ag))) rfl
 have h:¬p=0:=by simpa using g
 have c:2<=p/\p<2^62:=by lia
 refine ao 3 vp.nd (av i (d.mono .b) rfl .A .C #[ha,c]) ?_;refine ao 4 vp.nd (av i (d.mono .b) rfl .B .C #[k,c]) ?_;refine ar (j4 (ay aB .C ag) (λ_=>(av m (d.mono .b) rfl .D (ae 4) É)) λh2=>(bZ j (d.mono .b) rfl .D (ae 4) .C #[uS a ↑h2,uS b ↑h2,c])) ?_;show Bd.val _ _=Bd.val _ _;congr 1;unfold lK;rw[V4 h];by_cases z:p=2
 .rw[V6 z,V6 ↑z]
 .rw[V4 z,V4 ↑z]
noncomputable def CL(k:Int):Bool:=decide (k≠0/\k.natAbs<1073741824)
abbrev Vc(P w K mg base):=aK P w K mg base 1 "is_whole" ["k"] (dU K (fun(_:Int)=>True) Â (λ_=>Â))
def p_(a:sY mg "GREAT_FROM" 1073741824)(b:⇑Vc)(x:Int):⇑Body fY "is_row_number" eB f 1 [.val Á x] (RT Â (CL x)):=by
 intro d A outer s H E c;refine ar (cE (aD b (c.mono .b) rfl .A É) λ_=>(cE (bx b8 .A ag) λ_=>(c8 (bx fS (uC rfl B.abs .A) (lL rfl a))))) ?_;show Bd.val _ _=Bd.val _ _;congr 1;unfold CL;rw[WW,WM];simp;intro _;split<;>lia
noncomputable def aW(xs:List Int):Bool:=decide (1<=xs.length/\xs.length<=8)&&xs.all CL
def aM{xs:List Int}(h:aW xs=Â):1<=xs.length/\xs.length<=8:=by
 unfold aW at h;have:=(Xh.mp h).1;simpa using this
def de{xs:List Int}(h:aW xs=Â){x:Int}(a:x∈xs):x≠0/\x.natAbs<1073741824:=by
 unfold aW at h;have:=WB.mp (Xh.mp h).2 x a;unfold CL at this;simpa using this
def G4(c:sY mg "LONGEST" 8)(d:⇑aK 2 "is_row_number" ["k"] (dU K (fun(_:Int)=>True) Â CL))(xs:List Int)(g:xs.length<=1000):⇑Body gN "is_row" fP f 2 [.val Á xs] (RT Â (aW xs)):=by
 intro j A outer s H E h;refine aJ (TW.t (bV (bN (bP (Ly rfl B.isinstance rfl B.list .A))) λ_=>(di (bN (qg lE lE ag (aY rfl B.len .A) (lL rfl c)))))) (λb=>?_) (λb=>?_)
 .have a:¬(1<=xs.length/\xs.length<=8):=by
   simp at b;lia
  have e:aW xs=Á:=by unfold aW;rw[Wv a];rfl
  rw[e];exact ar dh rfl
 .have a:1<=xs.length/\xs.length<=8:=by
   simp at b;lia
  refine ar (pM rfl rfl B.all (bC (f:=CL) ["k"] [] (aX (ah fP) gN rfl rfl .d) (bh .A) (aT 0) (λC s H fp=>bD 0 ["k"]) aP (λi u k C s H fp=>aD d (h.mono .b) rfl .A É) g)) ?_;show Bd.val _ _=Bd.val _ _;congr 1;unfold aW;rw[Wr a,Xb,Yd];rfl
abbrev Vd(P w K mg base):=aK P w K mg base 3 "is_row" ["row"] (dU K (fun(xs:List Int)=>xs.length<=1000) Â aW)
def pY(c:⇑Vd)(xs:List Int)(b:aW xs=Â):⇑Body gb "refuse_no_row" eA f 3 [.val Á xs] Qd:=by
 intro d A outer s H E e;have:=aM b;refine aJ (bN (bP (aD c (e.mono .b) rfl .A .a))) (λa=>?_) (λa=>?_)
 .rw[b] at a;cases a
 .exact aO É
def IJ(k p:Int):Bool:=decide (M0 k p)
def qN(c:⇑Va)(k p:Int)(hp:k≠0/\2<=p/\p<2^62):⇑Body j_ "is_square_at" g7 f 3 [.val Á k,.val Á p] (RT Â (IJ k p)):=by
 intro b A outer s H E a;refine ar (bx (xc (M:=Int×Int) (gM a)) (av c (a.mono .b) rfl .A .B hp) (j4 (M:=Int×Int) (x:=(0,1)) (y:=(0,1)) (ay aB .B ag) (λh=>absurd (show p=0 by simpa using h) .a) λ_=>(dR (b':=Â) (a7 ag ag)))) ?_;show Bd.val _ _=Bd.val _ _;rw[aaJ];rfl
def Pk(a b c p:Int):Prop:=a≠0/\b≠0/\c≠0/\2<=p/\p<2^62/\Sm 62 a/\Sm 62 b/\Sm 62 c
abbrev Ve(P w K mg base):=aK P w K mg base 4 "says" ["a","b","p"] (nV K (λa b p=>a≠0/\b≠0/\(p=0\/(2<=p/\p<2^62))) Â lK)
def mG(g:⇑Ve)(a b c p:Int)(hp:Pk a b c p):⇑Body ib "three_have_zero" eO f 4 [.val Á a,.val Á b,.val Á c,.val Á p] (RT Â (DI a b c p)):=by
 intro k A outer s H E j;obtain⟨ha,m,d,h,p2,i,l,e⟩:=hp;exact ar (bZ g (j.mono .b) rfl (aH (gn .A) .C (i.neg.ok e)) (aH (gn .B) .C (l.neg.ok e)) .D #[Wl .a d,Wl .a d,.inr #[h,p2]]) rfl
def Qy(l:List Int)(p:Int):Prop:=l.length=4/\(∀a∈l,a≠0/\Sm 62 a)/\2<=p/\p<2^62
abbrev Vg(P w K mg base):=aK P w K mg base 5 "three_have_zero" ["a","b","c","p"] (BG K Pk Â DI)
abbrev Vf(P w K mg base):=aK P w K mg base 4 "is_square_at" ["k","p"] (bO K (λk p=>k≠0/\2<=p/\p<2^62) Â IJ)
def oB(o:⇑Vf)(t:⇑Vg)(l:List Int)(p:Int)(hp:Qy l p):⇑Body ji "four_have_zero" fq f 5 [.val Á l,.val Á p] (RT Â (jR l p)):=by
 intro u A outer s H E n;obtain⟨r,e,m,p2⟩:=hp
 match l,r,e with
 |[a,b,c,d],_,e =>
 have ha:=e a .c;have j:=e b .c;have h:=e c .c;have k:=e d .c;have i:=ha.2.mul j.2;have g:=i.mul h.2;refine ao 2 h_.nd (aH (aH (aH (bp (a:=a) .A ag rfl) (bp (a:=b) .A ag rfl) (ha.2.ok j.2)) (bp (a:=c) .A ag rfl) (i.ok h.2)) (bp (a:=d) .A ag rfl) (g.ok k.2)) ?_;have q:a*b*c*d≠0:=Wl (Wl (Wl ha.1 j.1) h.1) k.1;refine ar (yV (uy (av o (n.mono .b) rfl .C .B #[q,m,p2])) λ_=>(c8 (gA t (n.mono .b) rfl (bp (a:=a) .A ag rfl) (bp (a:=b) .A ag rfl) (bp (a:=c) .A ag rfl) .B #[ha.1,j.1,h.1,m,p2,ha.2,j.2,h.2]))) ?_;show Bd.val _ _=Bd.val _ _;rw[qH .a];rfl
def Qt(l:List Int)(p:Int):Prop:=1<=l.length/\(∀a∈l,a≠0/\Sm 62 a)/\(p=0\/(2<=p/\p<2^62))
def xY(t:⇑Vf)(r:⇑Vg)(v:⇑aK 6 "four_have_zero" ["numbers","p"] (bO K Qy Â jR))(l:List Int)(p:Int)(hp:Qt l p):⇑Body pI "have_zero" kD f 6 [.val Á l,.val Á p] (RT Â (jR l p)):=by
 intro x A outer s H E m;obtain⟨h1,i,o⟩:=hp;refine aJ (ay aB .B ag) (λd=>?_) (λd=>?_)
 .have g:p=0:=by simpa using d
  subst g;obtain⟨q,u⟩:=vJ l .a;obtain⟨b1,b2⟩:=wJ l .a;refine ar (JJ fS fS (E4 rfl rfl B.min .A .a q u) ag (D1 rfl rfl B.max .A .a b1 b2)) ?_;show Bd.val _ _=Bd.val _ _;unfold jR;rw[V6 rfl]
 have g:¬p=0:=by simpa using d
 have k:2<=p:=by lia
 have p2:p<2^62:=by lia
 have len:∀n:Nat,decide ((l.length:Int)=(n:Int))=Â->l.length=n:=λn h=>by
  have:(l.length:Int)=(n:Int):=by simpa using h
  lia
 have e:∀n:Nat,decide ((l.length:Int)=(n:Int))=Á->l.length≠n:=λn h=>by
  have:¬(l.length:Int)=(n:Int):=by simpa using h
  lia
 refine aJ (ay aB (aY rfl B.len .A) ag) (λd=>?_) (λc1=>?_)
 .match l,len 1 d with
  |[a],_=>rw[vh g];exact ar dh rfl
 refine aJ (ay aB (aY rfl B.len .A) ag) (λd=>?_) (λc2=>?_)
 .match l,len 2 d,i with
  |[a,b],_,i =>
  have ha:=i a .c;have j:=i b .c;rw[vY g];exact ar (av t (m.mono .b) rfl (aH (gn (bp (a:=a) .A ag rfl)) (bp (a:=b) .A ag rfl) (ha.2.neg.ok j.2)) .B #[Wl (by have:=ha.1;lia) j.1,k,p2]) rfl
 refine aJ (ay aB (aY rfl B.len .A) ag) (λd=>?_) (λc3=>?_)
 .match l,len 3 d,i with
  |[a,b,c],_,i =>
  have ha:=i a .c;have j:=i b .c;have d:=i c .c;rw[oX g];exact ar (gA r (m.mono .b) rfl (bp (a:=a) .A ag rfl) (bp (a:=b) .A ag rfl) (bp (a:=c) .A ag rfl) .B #[ha.1,j.1,d.1,k,p2,ha.2,j.2,d.2]) rfl
 refine aJ (ay aB (aY rfl B.len .A) ag) (λd=>?_) (λc4=>?_)
 .exact ar (av v (m.mono .b) rfl .A .B #[len 4 d,i,k,p2]) rfl
 rw[rA g (by have:=e 1 c1;have:=e 2 c2;have:=e 3 c3;have:=e 4 c4;lia)];exact ar dh rfl
def v_(h:aW l=Â):∀a∈l,a≠0/\Sm 62 a:=λa ha=>by
 have:=de h ha;exact#[this.1,by unfold Sm;lia]
def qG(h:0<=b):a.fdiv b=a/b:=Ws _ h
def FY{p k:Int}(c:2<=p)(p2:p<32768)(k1:0<=k)(k2:k<=12):Sm 200 (p^k.toNat):=by
 have d:0<p^k.toNat:=WK .a
 have h1:p^k.toNat<=32768^12:=by
  have e:=kQ (p:=p) .a (show k.toNat<=12 by lia)
  have b:p^12<=32768^12:=by
   have:∀n:Nat,p^n<=32768^n/\0<p^n:=by
    intro n
    induction n with
    |zero=>exact#[by rw[WG,WG];lia,by rw[WG];decide]
    |succ n a =>
     rw[Wk,Wk];exact#[W_ a.1 .a .a .a,Xc a.2 .a]
   exact(this 12).1
  lia
 unfold Sm;have:(32768:Int)^12=1532495540865888858358347027150309183618739122183602176:=by decide
 have:(2:Nat)^200=1606938044258990275541962092341162602522202993782792835301376:=by decide
 lia
def D_(sq r p k:Int):Prop:=bg p=Â/\p≠2/\p<32768/\1<=k/\k<=12/\¬p∣r/\0<=r/\r<p/\Sm 300 sq
def yd{p:Int}(a:2<=p)(p2:p<32768):Sm 15 p:=by
 unfold Sm;have:(2:Nat)^15=32768:=by decide
 lia
def yU{p k:Int}(a:2<=p)(p2:p<32768)(k1:0<=k)(k2:k<=12):Mm p k:=#[.a,k1,.a,(FY a p2 k1 k2).le .b,(yd a p2).le .b]
abbrev Vh(P w K mg base):=aK P w K mg base 1 "back_by" ["k","m"] (bO K Nv Â df)
def lB(x:⇑U6)(t:⇑Vh)(sq r p k:Int)(hp:D_ sq r p k):⇑Body gk "root_by_odd_power" dS f 1 [.val Á sq,.val Á r,.val Á p,.val Á k] (RT Â (nS sq r p k)):=by
 intro G A outer s H E o;obtain⟨b,h2,h,k1,k2,y,F,N,D⟩:=hp;have p2:=aA b;have l:¬p∣(2:Int):=λz=>h2 (dc b bQ z);have m:Ì (2*r) p=1:=by have:=eQ b (Kg b l y) 1;rwa [W4] at this
 have d:=FY p2 h (show 0<=k by lia) k2;have e:0<p^k.toNat:=WK .a;refine ao 4 bM.nd (av x (o.mono .b) rfl .C .D (yU p2 h .a k2)) ?_;refine ao 5 bM.nd (av t (o.mono .b) rfl (aH ag .B (mulL .b .b)) .C #[m,p2,(yd p2 h).le .b]) ?_;obtain⟨I,b1,_⟩:=xM p2 m;have C:nS sq r p k=kC sq (p^k.toNat) (df (2*r) p) (k-1).toNat r:=rfl;rw[C];generalize df (2*r) p=a at *;show S _ [À (.val Á sq),À (.val Á r),À (.val Á p),À (.val Á k),À (.val Â (p^k.toNat)),À (.val Â a),none] _ _;generalize L:p^k.toNat=α at *
 have v:p<=α:=by
  have:=kQ (p:=p) .a (show 1<=k.toNat by lia);rw[W4] at this;lia
 refine pN (lo:=1) (n:=k) (λi U=>∃j g,U=[À (.val Á sq),À (.val j (kC sq α a i r)),À (.val Á p),À (.val Á k),À (.val Â α),À (.val Â a),g]/\0<=kC sq α a i r/\kC sq α a i r<α) rfl B.range (bW 6 bM.nd) ag .D #[.b,.b,.a,.a] #[Á,none,rfl,F,by show r<α;lia] ?_ ?_
 .rintro i U' hi ⟨j,g,rfl,J,q1⟩;have e1:kC sq α a (i+1) r=(kC sq α a i r-(kC sq α a i r*kC sq α a i r-sq)*a)%α:=rfl;rw[e1];generalize kC sq α a i r=q at *;have c:Sm 200 q:=Sm.of_le .a d;have u:Sm 401 (q*q-sq):=Sm.le ((c.mul c).sub (Sm.le D (n:=400) .b)) .b;refine ao 1 bM.nd (aS (dX .B (aH (dX (aH .B .B (c.ok c)) .A) (ae 5) (u.ok (show Sm 200 a from Sm.of_le .a d)))) (ae 4) .a) ?_;rw[bc .a];exact aO #[_,_,rfl,Wo _ .a,Wf _ e]
 .rintro U' ⟨j,g,rfl,_⟩;exact ar (dR (b':=Â) .B) rfl
def jD(sq k:Int)(hp:3<=k/\k<=12/\0<=sq/\Sm 300 sq):⇑Body e_ "root_by_power_of_two" c6 f kk [.val Á sq,.val Á k] (RT Â (sE sq k)):=by
 intro o A outer s H E v;obtain⟨k1,k2,u,r⟩:=hp;refine ao 2 ba.nd ag ?_;refine ao 3 ba.nd ag ?_
 have j:∀t:Nat,0<=f9 sq t/\f9 sq t<2^(t+2):=by
  intro t
  induction t with
  |zero=>exact#[by show(0:Int)<=1;decide,by show(1:Int)<2^2;decide]
  |succ t p =>
   have e:(2:Int)^(t+1+2)=2*2^(t+2):=by rw[show t+1+2=(t+2)+1 by lia,Wk];lia
   have hp:(0:Int)<2^(t+2):=WK .b;unfold f9;split<;>lia
 refine pN (lo:=3) (n:=k) (λi U=>∃c,U=[À (.val Á sq),À (.val Á k),À (.val Â (f9 sq i)),À (.val Â ((2:Int)^(i+4))),c]) rfl B.range (bW 4 ba.nd) ag .B #[.b,.b,.a,.a] #[none,rfl] ?_ ?_
 .rintro i U' hi ⟨c,rfl⟩;have l:i<9:=by lia
  obtain⟨q,q1⟩:=j i;have h:(2:Int)^(i+2)<=2^11:=kQ .b .a;have m:(2:Int)^11=2048:=by decide
  have g:(0:Int)<2^(i+4):=WK .b;have e4:(2:Int)^(i+4)=4*2^(i+2):=by rw[show i+4=(i+2)+2 by lia,WZ];show 2^(i+2)*4=_;lia
  have b:Sm 64 (f9 sq i):=Sm.CK .a .a;refine nT (λU=>U=[À (.val Á sq),À (.val Á k),À (.val Â (f9 sq (i+1))),À (.val Â ((2:Int)^(i+4))),À (.val Â ((3:Int)+(i:Int)))]) (ay b8 (aS (dX (aH .C .C (b.ok b)) .A) .D .a) ag) (λd=>?_) (λd=>?_) ?_
  .have a:¬(f9 sq i*f9 sq i-sq)%2^(i+4)=0:=by rw[<-bc .a];simpa using d
   refine ao 2 ba.nd (bt .C (a8 .D ag wL)) (aO ?_);rw[show f9 sq (i+1)=f9 sq i+2^(i+2) from V4 a,qG .b,e4,Yc _ .b];rfl
  .have a:(f9 sq i*f9 sq i-sq)%2^(i+4)=0:=by rw[<-bc .a];simpa using d
   rw[show f9 sq (i+1)=f9 sq i from V6 a];exact aO .c
  rintro U' rfl;refine ao 3 ba.nd (aH ag .D (mulR .a .a)) (aO #[À (.val Â ((3:Int)+(i:Int))),?_]);rw[show(2:Int)^(i+1+4)=2*2^(i+4) by rw[show i+1+4=(i+4)+1 by lia,Wk];lia];rfl
 .rintro U' ⟨c,rfl⟩;exact ar .C rfl
theorem B7:∀{l zs:List Int},((l.zip zs).map λu:Int×Int=>u.1*u.2*u.2).sum=a9 l zs
 |[],_=>by simp[a9]
 |_::_,[]=>by simp[a9]
 |a::l,z::zs=>by
  rw[YM,Wb,Y5,B7];rfl
def KW(d:∀a∈l,Sm 62 a)(hz:∀x∈zs,Sm 15 x)(h:l.length<=8):Sm 100 (a9 l zs):=by
 have:∀(l zs:List Int),(∀a∈l,Sm 62 a)->(∀x∈zs,Sm 15 x)->Sm (92+l.length) (a9 l zs):=by
  intro l
  induction l with
  |nil=>intro zs _ _;rw[bK];unfold Sm;exact Nat.pos_of_ne_zero (by exact aaW (Nat.pow_pos .b))
  |cons a l e =>
   intro zs h1 h2;cases zs with
   |nil=>show Sm _ 0;unfold Sm;exact Nat.pow_pos .b
   |cons x zs =>
    have g:=e zs (λb c=>h1 b (by simp[c])) (λb c=>h2 b (by simp[c]));have f:=((h1 a .c).mul (h2 x .c)).mul (h2 x .c);exact Sm.le ((Sm.le f (n:=92+l.length) .a).add g) (by rw[WN];lia)
 exact Sm.le (this l zs d hz) .a
theorem rH{p:Int}(hp:1<=p):∀{zs:List Int} (o:Nat),(∃x∈zs,¬p∣x)->(((zs.mapIdx λi x=>(((o+i:Nat):Int),x)).filter λu:Int×Int=>!decide (u.2.fmod p=0)).map (·.1))[0]?=À ((o+pO p zs:Nat):Int)
 |[],_,⟨x,h,_⟩=>by cases h
 |x::zs,o,h=>by
  have e:((x::zs).mapIdx λi x=>(((o+i:Nat):Int),x))=((o:Int),x)::zs.mapIdx λi x=>(((o+1+i:Nat):Int),x):=by
   rw[ŷ];congr 1;apply YU;intro j;rw[Xz,Xz];cases zs[j]? with
   |none=>rfl
   |some y=>show À (((o+(j+1):Nat):Int),y)=À (((o+1+j:Nat):Int),y);rw[show o+(j+1)=o+1+j by lia]
  rw[e];unfold pO;by_cases a:x%p=0
  .rw[V6 a,WH (by simp[bc hp,a])];rw[fC] at h;have:=rH hp (o+1) (h.resolve_left λw=>w (Wh a));rw[this];congr 2;lia
  .rw[V4 a,WI (by simp[bc hp,a])];rfl
structure Om(row zs:List Int)(p k:Int):Prop where
 li:∃a z,MW row zs p k a z
 p3:p<32768
 k2:k<=12
 sm:∀a∈row,Sm 62 a
 r8:row.length<=8
abbrev Vj(P w K mg base):=aK P w K mg base 1 "root_by_power_of_two" ["square","k"] (bO K (λsq k=>3<=k/\k<=12/\0<=sq/\Sm 300 sq) Â sE)
abbrev Vi(P w K mg base):=aK P w K mg base 2 "root_by_odd_power" ["square","root","p","k"] (BG K D_ Â nS)
def FO(σ:⇑U6)(Rx:⇑Vh)(RQ:⇑Vi)(X:⇑Vj)(row zs:List Int)(p k:Int)(hp:Om row zs p k):⇑Body nh "lifted" ka f 2 [.val Á row,.val Á zs,.val Á p,.val Á k] (RT Â (yO row zs p k)):=by
 intro cdv A outer s H E r;obtain⟨⟨a,z,hL⟩,t,k2,m,h8⟩:=hp;obtain⟨e,hk,hl,ha,hz,q,R,V,hd,ho,ht⟩:=hL;have p2:=aA e;obtain⟨d0,d1,d2⟩:=wg e R;have hex:∃x∈zs,¬p∣x:=#[z,Wq hz,q];have c:=rH .a 0 hex;simp only[aaF] at c;have S:zs.length<=8:=by lia
 have hi:pO p zs<zs.length:=(Wd.mp hz).1;generalize hI:pO p zs=I at *
 have N:∀x∈zs,Sm 15 x:=λx hx=>by
  have:=V x hx;have Z:(2:Nat)^15=32768:=by decide
  unfold Sm;split at this<;>lia
 have D:=m a (Wq ha);have sz:=N z (Wq hz);have α:tY row (I:Int)=À a:=by rw[o4 (d:=a) .a .a,Wm,Wa,ha];rfl
 have y:tY zs (I:Int)=À z:=by rw[o4 (d:=z) .a .a,Wm,Wa,hz];rfl
 refine ao 4 ft.nd (bp (a:=(I:Int)) (nK (b:=Á) (as:=wZ zs) (f:=λu:Int×Int=>u.1) (p:=λu:Int×Int=>!decide (u.2.fmod p=0)) (b':=Â) ["i","x"] [2] (aX (ah ka) nh rfl rfl .d) (qC rfl B.enumerate .B) (iu 0 1) (λC s H fp=>jA 0 1 ["i","x","p"]) dP (λj u F C s H fp=>rG (ay b8 (aS .B .C .a) ag)) (λj u F _ C s H fp=>dR (b':=Â) .A) (by rw[k7];lia)) ag ?_) ?_
 .have e0:(zs.mapIdx λi x=>((i:Int),x))=wZ zs:=rfl;rw[e0] at c;have hlt:0<(((wZ zs).filter λu:Int×Int=>!decide (u.2.fmod p=0)).map λu=>u.1).length:=(Wd.mp c).1;rw[o4 (d:=(I:Int)) .b .a];show À ((((wZ zs).filter λu:Int×Int=>!decide (u.2.fmod p=0)).map λu=>u.1).getD 0 _)=_;rw[Wa,c];rfl
 refine ao 5 ft.nd (dX (xQ rfl rfl B.sum (bC (f:=λu:Int×Int=>u.1*u.2*u.2) (b':=Â) ["a","x"] [] (aX (ah ka) nh rfl rfl .d) (oE rfl B.zip .A .B) (iu 0 1) (λC s H fp=>jA 0 1 ["a","x"]) dP (λj u F C s H fp=>by
   have W:=Wq F;have h1:=m u.1 (XZ W).1;have h2:=N u.2 (XZ W).2
   exact aH (aH .A .B (h1.ok h2)) .B ((h1.mul h2).ok h2)) (by rw[X0];lia))) (aH (aH (bp .A (ae 4) α) (bp .B (ae 4) y) (D.ok sz)) (bp .B (ae 4) y) ((D.mul sz).ok sz))) ?_
 rw[B7];have ea:row.getD I 0=a:=by rw[Wa,ha];rfl
 have ez:zs.getD I 0=z:=by rw[Wa,hz];rfl
 have v:(if decide (a.fmod p=0)=Â then p else 1)=dj a p:=by
  unfold dj;rw[bc .a];by_cases h:a%p=0
  .rw[V6 h,V6 ↑h]
  .rw[V4 h,V4 ↑h]
 refine ao 6 ft.nd (j4 (ay aB (aS (bp .A (ae 4) α) .C .a) ag) (λ_=>dR (b':=Â) .C) λ_=>ag) ?_;rw[v];refine ao 7 ft.nd (av σ (r.mono .b) rfl .C .D (yU p2 t .a k2)) ?_;have T:zQ p k=p^k.toNat:=rfl;rw[T];have g:=FY p2 t (show 0<=k by lia) k2;have m0:0<p^k.toNat:=WK .a
 have m2:2<=p^k.toNat:=by
  have:=kQ (p:=p) .a (show 1<=k.toNat by lia);rw[W4] at this;lia
 have Γ:=eQ e d2 k.toNat;obtain⟨b0,b1,_⟩:=xM m2 Γ
 have sd:Sm 15 (dj a p):=by
  unfold dj;split
  .exact yd p2 t
  .unfold Sm;decide
 have sw:Sm 101 (a9 row zs-a*z*z):=Sm.le ((KW m N h8).sub (((D.mul sz).mul sz).le (n:=100) .b)) .b
 have L:Sm 101 ((a9 row zs-a*z*z).fdiv (dj a p)):=by
  rw[qG .a]
  exact Sm.of_le (by
   have:=aaw (a9 row zs-a*z*z) (dj a p)
   exact this) sw
 refine ao 8 ft.nd (aS (aH (gn (a8 (ae 5) (ae 6) (Sm.div sd .a))) (av Rx (r.mono .b) rfl (a8 (bp .A (ae 4) α) (ae 6) (Sm.div sd .a)) (ae 7) #[by rwa[qG .a],m2,g.le .b]) ?_) (ae 7) .a) ?_
 .rw[qG (a:=a) .a];exact L.neg.ok (show Sm 200 _ from Sm.of_le .a g)
 have G:(-((a9 row zs-a*z*z).fdiv (dj a p))*df (a.fdiv (dj a p)) (p^k.toNat)).fmod (p^k.toNat)=As row zs a z p (p^k.toNat):=by
  unfold As;rw[bc .a,qG .a,qG .a]
 rw[G];have ss:0<=As row zs a z p (p^k.toNat)/\As row zs a z p (p^k.toNat)<p^k.toNat:=#[Wo _ .a,Wf _ m0]
 have J:yO row zs p k=zs.set I (if p=2 then sE (As row zs a z p (p^k.toNat)) k else nS (As row zs a z p (p^k.toNat)) z p k):=by
  unfold yO;rw[hI,ea,ez]
 rw[J];generalize As row zs a z p (p^k.toNat)=sq at *;have o:Sm 300 sq:=Sm.le (Sm.of_le (show sq.natAbs<=(p^k.toNat).natAbs by lia) g) .b;refine zp 9 ft.nd rfl B.list .B ?_;refine Mc (ay aB .C ag) (λO=>?_) (λO=>?_)
 .have h2:p=2:=by simpa using O
  obtain⟨k4,_⟩:=ht h2;refine zo 9 rfl (ae 4) (av X (r.mono .b) rfl (ae 8) .D #[.a,k2,ss.1,o]) .a .a (aO ?_);rw[V6 h2,Wm];refine gT 9 rfl ?_;exact ar (ae 9) rfl
 .have h2:p≠2:=by simpa using O
  have l:=V z (Wq hz);rw[V4 h2] at l;refine zo 9 rfl (ae 4) (gA RQ (r.mono .b) rfl (ae 8) (bp .B (ae 4) y) .C .D #[e,h2,t,hk,k2,q,l.1,l.2,o]) .a .a (aO ?_);rw[V4 h2,Wm];refine gT 9 rfl ?_;exact ar (ae 9) rfl
def Oi(ns:List Int)(p:Int):Option (List Int):=match ns with
 |[a,b,c]=>MH a b c p
 |_=>none
structure Ng(ns:List Int)(p:Int):Prop where
 pr:bg p=Â
 p2:p≠2
 p3:p<32768
 un:∀a∈ns,¬p∣a
 sm:∀a∈ns,Sm 62 a
 r8:ns.length<=8
def O_(ns:List Int)(p:Int):Prop:=Ng ns p/\ns.length=3
def CC{f:Nat->Option (List Int)}{y:Nat}(c:y<n)(a:∀j,j<y->f j=none)(h:f y=À zs):(Ú n).findSome? f=À zs:=by
 obtain⟨d,rfl⟩:∃d,n=y+(d+1):=#[n-y-1,.a];rw[List.range_add,List.findSome?_append];have:(Ú y).findSome? f=none:=aaj.mpr λj b=>a j (W9.mp b);rw[this,Ŷ,Zx,Wb,List.findSome?_cons];simp only[Nat.add_zero,h]
abbrev Vk(P w K mg base):=aK P w K mg base 5 "root_by_prime" ["k","p"] (bO K Pe Â pK)
def lW(I:⇑Vh)(J:⇑Vk)(ns:List Int)(p:Int)(hp:O_ ns p):⇑Body gY "zero_of_three_by" eC f 5 [.val Á ns,.val Á p] (RT Â (Oi ns p)):=by
 intro O A outer s H E F;obtain⟨⟨d,h2,D,o,k,_⟩,G⟩:=hp;have p2:=aA d
 match ns,G,o,k with
 |[a,b,c],_,o,k =>
 have ha:=o a .c;have C:Ì a p=1:=by have:=eQ d ha 1;rwa [W4] at this
 obtain⟨S,b1,_⟩:=xM p2 C;refine ao 2 cJ.nd (av I (F.mono .b) rfl (bp (a:=a) .A ag rfl) .B #[C,p2,(yd p2 D).le .b]) ?_;obtain⟨ys,m⟩:=vj (c:=c) d h2 ha (o b .c);have L:Oi [a,b,c] p=À ys:=m;rw[L];let g:Nat->Option (List Int):=λy=>(pK (-(b*y*y+c)*df a p) p).map λx=>[x,(y:Int),1];have hz:(Ú p.toNat).findSome? g=À ys:=m;refine b_ (n:=p) (λj U=>∃v r,U=[À (.val Á [a,b,c]),À (.val Á p),À (.val Â (df a p)),v,r]/\∀i,i<j->g i=none) rfl B.range (bW 3 cJ.nd) .B .a .a #[none,none,rfl,λi hi=>absurd hi (Xx i)] ?_ ?_
 .rintro j U' T ⟨v,r,rfl,q⟩;have u:=k b .c;have R:=k c .c;have l:Sm 15 (j:Int):=by unfold Sm;have:(2:Nat)^15=32768:=.b;lia
  have N:Sm 93 (b*(j:Int)*(j:Int)+c):=Sm.le (((u.mul l).mul l).add (R.le (n:=92) .b)) .b;refine ao 4 cJ.nd (av J (F.mono .b) rfl (aH (gn (bt (aH (aH (bp (a:=b) .A ag rfl) .D (u.ok l)) .D ((u.mul l).ok l)) (bp (a:=c) .A ag rfl))) .C (N.neg.ok (show Sm 15 _ from Sm.of_le .a (yd p2 D)))) .B #[d,.a]) ?_;cases z:pK (-(b*(j:Int)*(j:Int)+c)*df a p) p with
  |none =>
   refine aJ (Ls (x:=none) (M:=Int) (ae 4) λ_ _ _ _ h=>nomatch h) (λt=>by cases t) (λ_=>?_);refine aO #[_,_,rfl,λi hi=>?_];by_cases e:i=j
   .subst e;show(pK _ p).map _=none;rw[z];rfl
   .exact q i .a
  |some x =>
   refine aJ (Ls (x:=À x) (M:=Int) (ae 4) λ_ _ _ _ h=>nomatch h) (λ_=>?_) (λt=>by cases t)
   have e:(Ú p.toNat).findSome? g=À [x,(j:Int),1]:=CC .a q (by
    show(pK _ p).map _=_
    rw[z];rfl)
   rw[hz] at e;rw[Wj e];exact ar (gi (a_ (as:=[x,(j:Int),1]) (b:=Â) (af (jn (M:=Int) (a:=x) (ae 4)) (af .D (af ag au))) (V1 rfl))) rfl
 .rintro U' ⟨v,r,rfl,q⟩;exfalso;obtain⟨y,α,e⟩:=ZF hz;rw[q y (W9.mp α)] at e;cases e
def lD(F:⇑Vh)(G:⇑Vk)(L:⇑aK 6 "zero_of_three_by" ["numbers","p"] (bO K O_ Â Oi))(ns:List Int)(p:Int)(hp:Ng ns p):⇑Body gm "zero_of_undivided" dW f 6 [.val Á ns,.val Á p] (RT Â (BF ns p)):=by
 intro α A outer s H E r;obtain⟨g,h2,q,j,i,C⟩:=hp;have p2:=aA g;refine aJ (ay fS (aY rfl B.len .A) ag) (λm=>?_) (λm=>?_)
 .have h:(ns.length:Int)<2:=by simpa using m
  have e:BF ns p=none:=by
   match ns,h with
   |[],_=>rfl
   |[_],_=>rfl
   |_::_::_,h=>simp at h;lia
  rw[e];exact ar (dQ (M:=List Int)) rfl
 have t:¬(ns.length:Int)<2:=by simpa using m
 refine aJ (ay aB (aY rfl B.len .A) ag) (λm=>?_) (λm=>?_)
 .have h:(ns.length:Int)=2:=by simpa using m
  have h':ns.length=2:=by lia
  match ns,h',j,i with
  |[a,b],_,j,i =>
   have ha:=j a .c;have D:Ì a p=1:=by have:=eQ g ha 1;rwa [W4] at this
   obtain⟨N,b1,_⟩:=xM p2 D;refine ao 2 fT.nd (av G (r.mono .b) rfl (aH (gn (bp (a:=b) .A ag rfl)) (av F (r.mono .b) rfl (bp (a:=a) .A ag rfl) .B #[D,p2,(yd p2 q).le .b]) ((i b .c).neg.ok (show Sm 15 _ from Sm.of_le .a (yd p2 q)))) .B #[g,.a]) ?_;have v:BF [a,b] p=(pK (-b*df a p) p).map λx=>[x,(1:Int)]:=rfl;rw[v];cases O:pK (-b*df a p) p with
   |none =>
    refine ar (j4 (M:=Option (List Int)) (x:=none) (y:=none) (iq (x:=none) (M:=Int) .C λ_ _ _ _ h=>nomatch h) (λ_=>dQ (M:=List Int)) (λh=>by cases h)) ?_;show Bd.val _ _=Bd.val _ _;rw[aaJ];rfl
   |some x =>
    refine ar (j4 (M:=Option (List Int)) (x:=À [x,1]) (y:=À [x,1]) (iq (x:=À x) (M:=Int) .C λ_ _ _ _ h=>nomatch h) (λh=>by cases h) (λ_=>gi (a_ (as:=[x,(1:Int)]) (b:=Â) (af (jn (M:=Int) (a:=x) .C) (af ag au)) (V1 rfl)))) ?_;show Bd.val _ _=Bd.val _ _;rw[aaJ];rfl
 have z:¬(ns.length:Int)=2:=by simpa using m
 match ns,t,z,j,i,C with
 |[],h,_,_,_,_=>exact absurd .c h
 |[_],h,_,_,_,_=>exact absurd .c h
 |[_,_],_,h,_,_,_=>exact absurd .c h
 |a::b::c::l,_,_,j,i,C =>
  have I:l.length+3<=8:=by simpa using C
  obtain⟨ys,n⟩:=vj (c:=c) g h2 (j a .c) (j b .c)
  have v:BF (a::b::c::l) p=À (ys++È l.length 0):=by
   show(MH a b c p).map _=_;rw[n];rfl
  rw[v];obtain⟨x,y,J,_⟩:=By g (j a .c) n
  have o:O_ [a,b,c] p:=#[#[g,h2,q,λu d=>j u (by
   rcases V8.mp d with e|d
   .rw[e];simp
   rcases V8.mp d with e|d
   .rw[e];simp
   .rw[WR.mp d];simp),λu d=>i u (by
   rcases V8.mp d with e|d
   .rw[e];simp
   rcases V8.mp d with e|d
   .rw[e];simp
   .rw[WR.mp d];simp),.c],rfl]
  refine ar (gi (MA (xs:=ys) (ys:=È l.length 0) (b2:=Â) (jn (M:=List Int) (a:=ys) (jP (av L (r.mono .b) rfl (jP (OK .A ag .b) (show _=[a,b,c] from rfl)) .B o) (show Oi [a,b,c] p=À ys from n))) ?_ (by rw[J];simp;lia))) rfl;refine jP (EW (a:=(0:Int)) (k:=((a::b::c::l).length:Int)-3) (a_ (as:=[(0:Int)]) (b:=Â) (af ag au) (V1 rfl)) (dX (aY rfl B.len .A) ag) (by simp;lia) (by simp;lia)) ?_;congr 1;simp;lia
def MV(row places:List Int)(d p:Int):Option (List Int):=(BF (places.map λi=>(row.getD i.toNat 0)/d) p).map λys=>G9 (È row.length 0) (places.zip ys)
structure Pl(row places:List Int)(d p:Int):Prop where
 zu:Ng (places.map λi=>(row.getD i.toNat 0)/d) p
 iM:∀i∈places,0<=i/\i<row.length
 d1:1<=d
 ds:Sm 15 d
 sm:∀a∈row,Sm 62 a
 r8:row.length<=8
theorem B5:∀(us:List (Int×Int)) (a:List Int),(G9 a us).length=a.length
 |[],_=>rfl
 |u::us,a=>by
  show(G9 (a.set u.1.toNat u.2) us).length=_;rw[B5 us,WX]
def Gb{us:List (Int×Int)}{u:Int×Int}{a:List Int}(h:us[j]?=À u):G9 a (us.take (j+1))=(G9 a (us.take j)).set u.1.toNat u.2:=by
 unfold G9;rw[YR,h,aap];rfl
def vo(z:⇑aK 7 "zero_of_undivided" ["numbers","p"] (bO K Ng Â BF))(row places:List Int)(d p:Int)(hp:Pl row places d p):⇑Body jF "zero_among" gw f 7 [.val Á row,.val Á places,.val Á d,.val Á p] (RT Â (MV row places d p)):=by
 intro y A outer s H E D;obtain⟨c,g,I,r,J,L⟩:=hp;have F:places.length<=8:=by have:=c.r8;rwa [V2] at this
 refine ao 5 fB.nd (av z (D.mono .b) rfl (jP (bC (f:=λi:Int=>(row.getD i.toNat 0).fdiv d) (b':=Â) ["i"] [0,2] (aX (ah gw) jF rfl rfl .d) (bh .B) (aT 0) (λC s H fp=>bD 0 ["i","row","divisor"]) aP (λj i hi C s H fp=>a8 (bp .B .A (o4 (d:=0) (g i (Wq hi)).1 (g i (Wq hi)).2)) .C (Sm.div r .a)) .a) (show _=places.map λi=>(row.getD i.toNat 0)/d from WY λi _=>qG .a)) .D c) ?_;unfold MV;cases G:BF (places.map λi=>(row.getD i.toNat 0)/d) p with
 |none =>
  refine aJ (iq (x:=none) (M:=List Int) (ae 5) λ_ _ _ _ h=>nomatch h) (λ_=>?_) (λn=>by cases n);exact ar (dQ (M:=List Int)) rfl
 |some ys =>
  refine aJ (iq (x:=À ys) (M:=List Int) (ae 5) λ_ _ _ _ h=>by obtain⟨_,_,e,_⟩:=h;cases e) (λn=>by cases n) (λ_=>?_);have q:=((nU c.pr c.p2 c.un).1 ys G).1;rw[V2] at q;refine vg 6 fB.nd (Jm (a:=(0:Int)) (k:=(row.length:Int)) (a_ (as:=[(0:Int)]) (b:=Â) (af ag au) (V1 rfl)) (aY rfl B.len .A) .a .a) ?_;refine KG 6 Â rfl ?_;rw[Wm];refine A9 (M:=Int×Int) (as:=places.zip ys) (λj U=>∃m o,U=[À (.val Á row),À (.val Á places),À (.val Á d),À (.val Á p),m,À (.val Â (À ys)),À (.own Â (G9 (È row.length 0) ((places.zip ys).take j))),o]) (Ku 4 7 fB.nd) (oE rfl B.zip .B (jn (M:=List Int) (a:=ys) (ae 5))) #[none,none,rfl] ?_ ?_
  .rintro j u U' t ⟨m,o,rfl⟩;have v:=g u.1 (XZ (Wq t)).1;have l:=B5 ((places.zip ys).take j) (È row.length 0);rw[ZG] at l;refine zo 6 rfl (ae 4) (dR (b':=Â) (ae 7)) v.1 (by rw[l];exact v.2) (aO #[À (.val (Á&&Â) u.1),À (.val (Á&&Â) u.2),?_]);rw[Gb t];rfl
  .rintro U' ⟨m,o,rfl⟩;rw[XJ];refine gT 6 rfl ?_;exact ar (gi (ae 6)) rfl
structure Pd(row:List Int)(p k:Int):Prop where
 pr:bg p=Â
 p2:p≠2
 p3:p<32768
 k1:1<=k
 k2:k<=12
 on:On p row
 sm:∀a∈row,Sm 62 a
 l1:1<=row.length
 r8:row.length<=8
theorem nW{f:Int->Bool}:∀(row:List Int) (o:Nat),(((row.mapIdx λi x=>(((o+i:Nat):Int),x)).filter λu:Int×Int=>f u.2).map λu=>u.1)=gj f row o
 |[],_=>rfl
 |a::row,o=>by
  have e:((a::row).mapIdx λi x=>(((o+i:Nat):Int),x))=((o:Int),a)::row.mapIdx λi x=>(((o+1+i:Nat):Int),x):=by
   rw[ŷ];congr 1;apply YU;intro j;rw[Xz,Xz];cases row[j]? with
   |none=>rfl
   |some y=>show À (((o+(j+1):Nat):Int),y)=À (((o+1+j:Nat):Int),y);rw[show o+(j+1)=o+1+j by lia]
  rw[e];by_cases h:f a=Â
  .rw[WI (p:=λu:Int×Int=>f u.2) h,Wb,nW row (o+1),show gj f (a::row) o=(o:Int)::gj f row (o+1) from V6 h]
  .rw[WH (p:=λu:Int×Int=>f u.2) h,nW row (o+1),show gj f (a::row) o=gj f row (o+1) from V4 h]
theorem vG{f:Int->Bool}:∀(row pre:List Int),(gj f row pre.length).map (λi=>(pre++row).getD i.toNat 0)=row.filter f
 |[],_=>rfl
 |a::row,pre=>by
  have b:=vG (f:=f) row (pre++[a]);rw[WL,Ů] at b;by_cases h:f a=Â
  .rw[show gj f (a::row) pre.length=(pre.length:Int)::gj f row (pre.length+1) from V6 h,Wb,WI h];congr 1;rw[Wm,Wa,Xu (V_ _),ϫ];rfl
  .rwa[show gj f (a::row) pre.length=gj f row (pre.length+1) from V4 h,WH h]
theorem BZ{f:Int->Bool}:∀(row:List Int) (o:Nat) {i:Int},i∈gj f row o->(o:Int)<=i/\i<(o+row.length:Nat)
 |[],_,_,h=>by cases h
 |a::row,o,i,h=>by
  have b:=BZ (f:=f) row (o+1) (i:=i);unfold gj at h;rw[WN];split at h
  .rcases V8.mp h with e|e
   .lia
   .have:=b e;lia
  .have:=b h;lia
def FP{row:List Int}{f:Int->Bool}{p:Int}(hz:∀ys,BF ((row.filter f).map (·/d)) p=À ys->ys.length=(row.filter f).length):MV row (gj f row 0) d p=xa row f d p:=by
 have e:=vG (f:=f) row [];rw[ZU,Y8] at e;have e2:((gj f row 0).map λi=>row.getD i.toNat 0/d)=(row.filter f).map (·/d):=by rw[<-e,W8];rfl
 unfold MV xa;rw[e2];cases h:BF ((row.filter f).map (·/d)) p with
 |none=>rfl
 |some ys =>
  have:=zw f (l:=row) (ys:=ys) [] (hz ys h);rw[Y8,ZU,Y8] at this;exact congrArg À this
def Kq{row:List Int}{f:Int->Bool}{p k:Int}(h:Pd row p k)(c:1<=d)(j:Sm 15 d)(g:∀a∈(row.filter f).map (·/d),¬p∣a):Pl row (gj f row 0) d p:=by
 have e:=vG (f:=f) row [];rw[ZU,Y8] at e;have e2:((gj f row 0).map λi=>row.getD i.toNat 0/d)=(row.filter f).map (·/d):=by rw[<-e,W8];rfl
 refine#[?_,λi hi=>by have:=BZ row 0 hi;lia,c,j,h.sm,h.r8];rw[e2];refine#[h.pr,h.p2,h.p3,g,λa ha=>?_,by rw[V2];exact W6 (ZK _ _) h.r8];obtain⟨b,l,rfl⟩:=V3.mp ha;exact Sm.of_le (aaw b d) (h.sm b (XR.mp l).1)
abbrev Vm(P w K mg base):=aK P w K mg base 8 "zero_among" ["row","places","divisor","p"] (BG K Pl Â MV)
abbrev Vl(P w K mg base):=aK P w K mg base 3 "lifted" ["row","zero","p","k"] (BG K Om Â yO)
def tS(α:⇑Vl)(J:⇑Vm)(row:List Int)(p k:Int)(hp:Pd row p k):⇑Body d8 "zero_by_odd" dg f 8 [.val Á row,.val Á p,.val Á k] (RT Â (D5 row p k)):=by
 intro Z A outer s H E n;have p2:=aA hp.pr;have h8:=hp.r8
 have O:(((wZ row).filter λu:Int×Int=>!decide (u.2.fmod p=0)).map λu=>u.1)=gj (tR p) row 0:=by
  have:=nW (f:=λa=>!decide (a.fmod p=0)) row 0;simp only[aaF] at this;rw[show(wZ row)=row.mapIdx λi x=>((i:Int),x) from rfl,this];congr 1;funext a;rw[bc .a];rfl
 have G:(((wZ row).filter λu:Int×Int=>decide (u.2.fmod p=0)).map λu=>u.1)=gj (dvd p) row 0:=by
  have:=nW (f:=λa=>decide (a.fmod p=0)) row 0;simp only[aaF] at this;rw[show(wZ row)=row.mapIdx λi x=>((i:Int),x) from rfl,this];congr 1;funext a;rw[bc .a];rfl
 refine Be (b:=Á) (as:=wZ row) (f:=λu:Int×Int=>u.1) (p:=λu:Int×Int=>!decide (u.2.fmod p=0)) (b':=Â) 3 dG.nd ["i","a"] [1] (aX (ah dg) d8 rfl rfl .d) (qC rfl B.enumerate .A) (iu 0 1) (λC s H fp=>jA 0 1 ["i","a","p"]) dP (λj u o C s H fp=>rG (ay b8 (aS .B .C .a) ag)) (λj u o _ C s H fp=>dR (b':=Â) .A) (by rw[k7];lia) ?_;rw[O];refine ao 4 dG.nd (nK (b:=Á) (as:=wZ row) (f:=λu:Int×Int=>u.1) (p:=λu:Int×Int=>decide (u.2.fmod p=0)) (b':=Â) ["i","a"] [1] (aX (ah dg) d8 rfl rfl .d) (qC rfl B.enumerate .A) (iu 0 1) (λC s H fp=>jA 0 1 ["i","a","p"]) dP (λj u o C s H fp=>rG (ay aB (aS .B .C .a) ag)) (λj u o _ C s H fp=>dR (b':=Â) .A) (by rw[k7];lia)) ?_;rw[G];have I:∀a∈(row.filter (tR p)).map (·/(1:Int)),¬p∣a:=by rw[jt];exact k8
 have L:∀a∈(row.filter (dvd p)).map (·/p),¬p∣a:=kS hp.on;have R:=FP (row:=row) (f:=tR p) (d:=1) (p:=p) λys h=>by have:=((nU hp.pr hp.p2 I).1 ys h).1;rwa [V2] at this
 have S:=FP (row:=row) (f:=dvd p) (d:=p) (p:=p) λys h=>by have:=((nU hp.pr hp.p2 L).1 ys h).1;rwa [V2] at this
 have X:=Kq (f:=tR p) (d:=1) hp .b (by unfold Sm;decide) I;have σ:=Kq (f:=dvd p) (d:=p) hp .a (yd p2 hp.p3) L
 have lx:(gj (dvd p) row 0).length<=8:=by
  rw[<-G,V2];exact W6 (ZK _ _) (by rwa[k7])
 refine aJ (TW.t (kN (ay aB .C ag) λ_=>(jC (ay kI (aY rfl B.len (ae 4)) ag)))) (λl=>?_) (λl=>?_)
 .have g:k=1/\0<(gj (dvd p) row 0).length:=by simpa using l
  have q:gj (dvd p) row 0≠[]:=λz=>by rw[z] at g;exact absurd g.2 .c
  have v:D5 row p k=À ((Ú row.length).map fun(i:Nat)=>if ((i:Int)=(gj (dvd p) row 0).getD 0 0) then (1:Int) else 0):=V6 #[g.1,q];rw[v];have V:tY (gj (dvd p) row 0) 0=À ((gj (dvd p) row 0).getD 0 0):=o4 .b .a;generalize (gj (dvd p) row 0).getD 0 0=m at *;refine ar (gi (bC (f:=λi:Int=>if decide (i=m)=Â then (1:Int) else 0) (b':=Â) ["i"] [4] (aX (ah dg) d8 rfl rfl .d) (cO rfl B.range (aY rfl B.len .A) .a .a) (aT 0) (λC s H fp=>bD 0 ["i","divided"]) aP (λj i hi C s H fp=>j4 (ay aB .A (bp .B ag V)) (λ_=>ag) λ_=>ag) (by rw[bz];lia))) ?_;show Bd.val _ _=Bd.val _ _;congr 2;unfold fA;rw[W8,Wm];apply WY;intro i _;show(if decide ((0:Int)+(i:Int)*1=m)=Â then (1:Int) else 0)=if (i:Int)=m then (1:Int) else 0
  rw[show(0:Int)+(i:Int)*1=i by lia];by_cases e:(i:Int)=m
  .rw[V6 e,V6 ↑e]
  .rw[V4 e,V4 ↑e]
 have g:¬(k=1/\gj (dvd p) row 0≠[]):=fun⟨Γ,T⟩=>by
  have:0<(gj (dvd p) row 0).length:=by
   cases h:gj (dvd p) row 0 with
   |nil=>exact absurd h T
   |cons _ _=>simp
  have D:k=1->¬0<(gj (dvd p) row 0).length:=by simpa using l
  exact D Γ this
 have v:D5 row p k=(match xa row (tR p) 1 p with|some zs=>À (yO row zs p k)|none=>(xa row (dvd p) p p).map λzs=>yO row zs p k):=V4 g;rw[v];refine ao 5 dG.nd (jP (gA J (n.mono .b) rfl .A .D ag .B X) R) ?_;have c:∀zs,(∃a z,MW row zs p k a z)->Om row zs p k:=λzs h=>#[h,hp.p3,hp.k2,hp.sm,hp.r8];have nl:∀(K:Ã) (N:Nn) (H:Hp) (a:List Int),¬Py.rp K N H .non a:=λK N H a h=>by obtain⟨_,_,e,_⟩:=h;cases e
 cases r:xa row (tR p) 1 p with
 |some zs =>
  refine aJ (iq (x:=À zs) (M:=List Int) (ae 5) nl) (λl=>by cases l) (λ_=>?_);refine ar (j4 (M:=Option (List Int)) (x:=À (yO row zs p k)) (y:=À (yO row zs p k)) (iq (x:=À zs) (M:=List Int) (ae 5) nl) (λh=>by cases h) (λ_=>gi (gA α (n.mono .b) rfl .A (jn (M:=List Int) (a:=zs) (ae 5)) .B .C (c zs (D4 hp.pr hp.p2 hp.k1 hp.on r))))) ?_;show Bd.val _ _=Bd.val _ _;rw[aaJ]
 |none =>
  refine aJ (iq (x:=none) (M:=List Int) (ae 5) nl) (λ_=>?_) (λl=>by cases l);refine ao 5 dG.nd (jP (gA J (n.mono .b) rfl .A (ae 4) .B .B σ) S) (aO ?_);cases F:xa row (dvd p) p p with
  |some zs =>
   refine ar (j4 (M:=Option (List Int)) (x:=À (yO row zs p k)) (y:=À (yO row zs p k)) (iq (x:=À zs) (M:=List Int) (ae 5) nl) (λh=>by cases h) (λ_=>gi (gA α (n.mono .b) rfl .A (jn (M:=List Int) (a:=zs) (ae 5)) .B .C (c zs (G3 hp.pr hp.p2 hp.k1 hp.on F))))) ?_;show Bd.val _ _=Bd.val _ _;rw[aaJ];rfl
  |none =>
   refine ar (j4 (M:=Option (List Int)) (x:=none) (y:=none) (iq (x:=none) (M:=List Int) (ae 5) nl) (λ_=>dQ (M:=List Int)) (λh=>by cases h)) ?_;show Bd.val _ _=Bd.val _ _;rw[aaJ];rfl
def Db.Ab{β:Type}(d:Db β)(k:Int×Bool)(c:β)(a:Int×Bool):(d.sd k c).val a=if a=k/\d.val k=none then À c else d.val a:=by
 unfold Db.sd;by_cases h:(d.val k).isSome=Â
 .rw[V6 h,V4 (fun⟨_,z⟩=>by rw[z] at h;cases h)]
 .have f:d.val k=none:=by simpa using h
  rw[V4 h];have b:k∉d.ks:=λz=>h (Db.qZ.mpr z)
  have he:d.put k c=#[d.l++[(k,c)]]:=by
   unfold Db.put;rw[V4];intro z;obtain⟨u,g,e⟩:=X7.mp z;exact b (V3.mpr #[u,g,Xq e])
  rw[he];unfold Db.val;rw[List.find?_append];by_cases ek:a=k
  .subst ek
   have:d.l.find? (λu=>decide (u.1=a))=none:=by
    unfold Db.val at f;exact XF.mp f
   rw[this,V6 #[rfl,by rw[Option.map_none]],Ŷ];simp
  .rw[V4 (λz=>ek z.1)]
   have:List.find? (λu:(Int×Bool)×β=>decide (u.1=a)) [(k,c)]=none:=by
    rw[XA];have:decide (k=a)=Á:=Wv λz=>ek z.symm;simp[this]
   rw[this,Option.or_none]
def Db.NP{β:Type}{d:Db β}{k:Int×Bool}{c:β}(h:d.ks.Nodup):(d.sd k c).ks.Nodup:=by
 unfold Db.sd;split
 .exact h
 .exact Db.FX h
structure DS(m:Int)(l:List Int)(d:Db (List Int)):Prop where
 nd:d.ks.Nodup
 wit:∀k xs,d.val k=À xs->CI m l k xs
 all:∀k xs,CI m l k xs->(d.val k).isSome=Â
def DS.len{d:Db (List Int)}(g:2<=m)(b:m<=16)(f:d.ks.Nodup)(wit:∀k xs,d.val k=À xs->CI m l k xs):d.l.length<=32:=by
 have:=ym (N:=m) f λk c=>by
  have a:=Db.qZ.mpr c;cases h:d.val k with
  |none=>rw[h] at a;cases a
  |some xs =>
   obtain⟨_,_,e,_⟩:=wit k xs h;rw[e];exact#[Wo _ .a,Wf _ .a]
 rw[Db.wH] at this;lia
def Qs(d:Db (List Int))(a m:Int):Prop:=2<=m/\m<=16/\Sm 62 a/\∃l,DS m l d/\l.length<=8
def Pr(d:Db (List Int))(a m:Int)(d':Db (List Int)):Prop:=∀l,DS m l d->DS m (l++[a]) d'
structure G5(m a:Int)(l:List Int)(ks:List (Int×Bool))(j i:Nat)(d:Db (List Int)):Prop where
 nd:d.ks.Nodup
 wit:∀k xs,d.val k=À xs->CI m (l++[a]) k xs
 old:∀j' key,j'<j->ks[j']?=À key->∀x:Nat,(x:Int)<yJ m->(d.val (Ap m a key x)).isSome=Â
 now:∀key,ks[j]?=À key->∀x:Nat,x<i->(d.val (Ap m a key x)).isSome=Â
def G5.step{ks:List (Int×Bool)}{d:Db (List Int)}{key:Int×Bool}{ys:List Int}(h:G5 m a l ks j i d)(n:ks[j]?=À key)(o:CI m l key ys)(hi:(i:Int)<yJ m):G5 m a l ks j (i+1) (d.sd (Ap m a key i) (ys++[(i:Int)])):=by
 have grow:∀f,(d.val f).isSome=Â->((d.sd (Ap m a key i) (ys++[(i:Int)])).val f).isSome=Â:=λf z=>by
  rw[Db.Ab];split
  .rfl
  .exact z
 refine#[Db.NP h.nd,λk xs c=>?_,λp b h1 h2 x g=>grow _ (h.old p b h1 h2 x g),λb h2 x g=>?_]
 .rw[Db.Ab] at c;split at c
  .rename_i z;cases c;rw[z.1];exact GG #[.a,hi] o
  .exact h.wit k xs c
 .rw[n] at h2;cases h2;by_cases e:x=i
  .subst e;rw[Db.Ab];by_cases z:d.val (Ap m a key x)=none
   .rw[V6 #[rfl,z]];rfl
   .rw[V4 (λw=>z w.2)];cases c:d.val (Ap m a key x) with
    |none=>exact absurd c z
    |some _=>rfl
  .exact grow _ (h.now key n x .a)
def G5.next{ks:List (Int×Bool)}{d:Db (List Int)}(h:G5 m a l ks j i d)(hi:yJ m<=i):G5 m a l ks (j+1) 0 d:=by
 refine#[h.nd,h.wit,λc key h1 h2 x b=>?_,λkey _ x b=>absurd b (Xx x)];by_cases e:c=j
 .subst e;exact h.now key h2 x .a
 .exact h.old c key .a h2 x b
def G5.done{b d:Db (List Int)}(f:DS m l b)(h:G5 m a l b.ks b.ks.length 0 d):DS m (l++[a]) d:=by
 refine#[h.nd,h.wit,λk xs g=>?_];obtain⟨e,ys,x,h1,h2,rfl⟩:=GF g;obtain⟨j,c⟩:=aaT.mp (Db.qZ.mp (f.all e ys h1));have:=h.old j e (Wd.mp c).1 c x.toNat .a
 rwa [X2 h2.1] at this
def qV(g:Db (List Int))(a m:Int)(hp:Qs g a m):⇑Body kG "further_sums" gQ f kk [.val Á g,.val Á a,.val Á m] (HD Â (Pr g a m)):=by
 intro S A outer s H E L;obtain⟨m1,m2,J,l,q,W⟩:=hp;have uniq:∀e,DS m e g->∀d:Db (List Int),G5 m a e g.ks g.ks.length 0 d->DS m (e++[a]) d:=λe h d p=>p.done h;refine vg 3 c9.nd (yu (β:=List Int)) ?_;refine A0 (d:=g) (λj U=>∃r t z d F v u,U=[À (.val r g),À (.val t a),À (.val z m),À (.dpo d),F,v,u]/\∀e,DS m e g->G5 m a e g.ks j 0 d) (bW 4 c9.nd) .A #[_,_,_,Db.mk [],_,_,_,rfl,λe _=>#[Yk,λk xs h=>(by cases h),λΓ _ h=>absurd h (Xx Γ),λ_ _ x h=>absurd h (Xx x)]] ?_ ?_
 .rintro j key U' C ⟨r,t,z,d,F,v,u,rfl,p⟩;have D:g.ks[j]?=À key:=C;have N:=Db.qZ.mpr (Wq D)
  obtain⟨ys,y⟩:∃ys,g.val key=À ys:=by
   cases h:g.val key with
   |none=>rw[h] at N;cases N
   |some ys=>exact#[ys,rfl]
  have α:=q.wit key ys y;have V:0<=key.1/\key.1<m:=by rw[α.2.2.1];exact#[Wo _ .a,Wf _ .a]
  have X:2<=yJ m/\yJ m<=4:=by unfold yJ;split<;>lia
  refine b_ (n:=yJ m) (λi U=>∃r t z I d v u,U=[À (.val r g),À (.val t a),À (.val z m),À (.dpo d),À (.val I key),v,u]/\∀e,DS m e g->G5 m a e g.ks j i d) rfl B.range (bW 5 c9.nd) (jP (xO rfl rfl B.min .C ag) (show _=yJ m by unfold yJ;split<;>split<;>lia)) .a .a #[_,_,_,_,d,_,_,rfl,p] ?_ ?_
  .rintro i U' hi ⟨r,t,z,I,d,v,u,rfl,p⟩;have T:(i:Int)<4:=by lia
   have G:Sm 64 (i:Int):=Sm.CK .a .a;refine ao 6 c9.nd (aS (bt (cj (ae 4)) (aH (aH .B (ae 5) (J.ok G)) (ae 5) ((J.mul G).ok G))) .C .a) ?_;rw[bc .a];have O:=DS.len m1 m2 (p l q).nd (p l q).wit;have R:ys.length<=8:=by rw[α.1];exact W
   refine F9 3 (k:=Ap m a key i) (c:=ys++[(i:Int)]) (gM L) rfl (dR (b':=Â) (a7 (ae 6) (jP (yV (b6 (ae 4)) λ_=>(c8 (bx aB (aS (ae 5) ag .b) ag))) (show _=(key.2 || decide ((i:Int)%2=1)) by rw[bc .b])))) (HN (ID (gM L) .A (ae 4) y) (a_ (as:=[(i:Int)]) (b:=Â) (af (ae 5) au) (V1 rfl)) (by show ys.length+1<=1000;lia)) .a (aO #[_,_,_,_,_,_,_,rfl,λe o=>?_]);exact(p e o).step D (o.wit key ys y) .a
  .rintro U' ⟨r,t,z,I,d,v,u,rfl,p⟩;exact aO #[_,_,_,d,_,_,_,rfl,λe o=>(p e o).next .a]
 .rintro U' ⟨r,t,z,d,F,v,u,rfl,p⟩;refine El 3 rfl ?_;rw[<-Db.wH] at p;exact ar .D #[_,λe o=>(p e o).done o,rfl]
def PU(row:List Int)(k:Int):Prop:=1<=k/\k<=12/\1<=row.length/\row.length<=8/\(∀a∈row,Sm 62 a)/\∀a∈row,a%4≠0
def tD(G:sY mg "LIFTED_FROM" 4)(T:⇑U6)(O:⇑aK 1 "further_sums" ["sums","a","m"] (C3 K Qs Â Pr))(R3:⇑Vl)(row:List Int)(k:Int)(hp:PU row k):⇑Body lG "zero_by_two" iP f 3 [.val Á row,.val Á k] (HD Â λr=>Ip row 2 k r):=by
 intro cdv A outer s H E q;obtain⟨k1,k2,l1,V,v,σ⟩:=hp;have kn:1<=(if 4<k then 4 else k)/\(if 4<k then 4 else k)<=4:=by split<;>lia
 refine ao 2 cM.nd (av T (q.mono .b) rfl ag (xO rfl rfl B.min .B (lL rfl G)) (yU .b .b .a .a)) ?_
 have Z:zQ 2 (if 4<k then 4 else k)=2\/zQ 2 (if 4<k then 4 else k)=4\/zQ 2 (if 4<k then 4 else k)=8\/zQ 2 (if 4<k then 4 else k)=16:=by
  have:(if 4<k then 4 else k)=1\/(if 4<k then 4 else k)=2\/(if 4<k then 4 else k)=3\/(if 4<k then 4 else k)=4:=by lia
  rcases this with z|z|z|z<;>rw[z]
  .exact .inl rfl
  .exact .inr (.inl rfl)
  .exact .inr (.inr (.inl rfl))
  .exact .inr (.inr (.inr rfl))
 have u:k<=4->zQ 2 (if 4<k then 4 else k)=2^k.toNat:=λh=>by rw[V4 .a];rfl
 have g:4<k->zQ 2 (if 4<k then 4 else k)=16:=λh=>by rw[V6 h];rfl
 generalize zQ 2 (if 4<k then 4 else k)=m at *;refine ao 3 cM.nd (JS (KQ (k:=(0,Á)) (c:=([]:List Int)) (gM q) (dR (b':=Â) (a7 ag dh)) (Ae (b:=Â) au .c))) ?_;refine A9 (M:=Int) (as:=row) (λi U=>∃d D I,U=[À (.val Á row),À (.val Á k),À (.val Â m),À (.val Â d),D,I]/\DS m (row.take i) d) (bW 4 cM.nd) (bh .A) #[_,none,none,rfl,Xw.mpr #[.c,Yk],λy xs h=>?_,λy xs h=>?_] ?_ ?_
 .rw[Z8,Bt];by_cases e:y=(0,Á)
  .subst e;have:À ([]:List Int)=À xs:=h;exact#[rfl,(Wj this).symm]
  .exfalso
   have:Db.val (Db.mk [(((0:Int),Á),([]:List Int))]) y=none:=by
    unfold Db.val;rw[XA];have:decide (((0:Int),Á)=y)=Á:=Wv λz=>e z.symm;simp[this]
   rw[this] at h;cases h
 .rw[Z8,Bt] at h;rw[h.1];rfl
 .rintro i a U' ha ⟨d,D,I,rfl,j⟩;have F:=Wq ha;refine GQ 3 cM.nd (yk O (q.mono .b) rfl .D (ae 4) .C #[.a,.a,v a F,row.take i,j,by rw[Zz];lia]) λd' J=>?_;refine aO #[d',_,_,rfl,?_];rw[YR,ha];exact J _ j
 .rintro U' ⟨d,D,I,rfl,j⟩;rw[XJ] at j;refine ao 5 cM.nd (DZ (k:=(0,Â)) (gM q) .D (dR (b':=Â) (a7 ag dh))) ?_;have nl:∀(K:Ã) (N:Nn) (H:Hp) (a:List Int),¬Py.rp K N H .non a:=λK N H a h=>by obtain⟨_,_,e,_⟩:=h;cases e
  cases α:d.val (0,Â) with
  |none =>
   have hz:Ip row 2 k none:=λn=>by
    have:PZ row 2 m:=by
     rcases Xy 4 k with z|z
     .rw[g z];obtain⟨xs,Γ,X,R⟩:=n;exact#[xs,Γ,Wz (mi (p:=2) (a:=4) .a) X,R]
     .rwa[u z]
    obtain⟨xs,S⟩:=uQ Z this;have:=j.all _ xs S;rw[α] at this;cases this
   refine aJ (TW.t (bV (iq (x:=none) (M:=List Int) (ae 5) nl) λ_=>(di (ay lE .B (lL rfl G))))) (λ_=>?_) (λl=>?_)
   .exact ar (ae 5) #[none,hz,rfl]
   .cases l
  |some zs =>
   have L:=j.wit _ zs α;refine aJ (TW.t (bV (iq (x:=À zs) (M:=List Int) (ae 5) nl) λ_=>(di (ay lE .B (lL rfl G))))) (λl=>?_) (λl=>?_)
   .have o:k<=4:=by simpa using l
    refine ar (ae 5) #[À zs,?_,rfl];show GZ row 2 (2^k.toNat) zs;rw[<-u o];exact uf .a L
   .have o:¬k<=4:=by simpa using l
    rw[g .a] at L;have C:=GA (k:=k) .a σ L;refine ar (gi (gA R3 (q.mono .b) rfl .A (jn (M:=List Int) (a:=zs) (ae 5)) ag .B #[C,.b,k2,v,V])) #[_,?_,rfl];obtain⟨a,z,C⟩:=C;exact v7 C
structure P6(row:List Int)(p k:Int):Prop where
 isr:aW row=Â
 pr:bg p=Â
 p3:p<32768
 k1:1<=k
 k2:k<=12
 on:On p row
 m4:p=2->∀a∈row,a%4≠0
abbrev Vo(P w K mg base):=aK P w K mg base 4 "zero_by_two" ["row","k"] (C4 K PU Â (λrow k r=>Ip row 2 k r))
abbrev Vn(P w K mg base):=aK P w K mg base 4 "refuse_no_row" ["row"] (dU K (fun(xs:List Int)=>aW xs=Â) Â B0)
def Cq(m:⇑Vn)(o:⇑Vo)(l:⇑aK 9 "zero_by_odd" ["row","p","k"] (nV K Pd Â D5))(row:List Int)(p k:Int)(hp:P6 row p k):⇑Body ue "zero_by" oz f 9 [.val Á row,.val Á p,.val Á k] (HD Â λr=>Ip row p k r):=by
 intro n A outer s H E e;have b:=aM hp.isr;have g:=v_ hp.isr;refine Ex (aD m (e.mono .b) rfl .A hp.isr) ?_;refine D8 (post:=λr=>Ip row p k r) (N4 (ay aB .B ag) (λc=>?_) (λc=>?_)) λr d=>#[r,d,rfl]
 .have h2:p=2:=by simpa using c
  subst h2;exact Kb (xX o (e.mono .b) rfl .A .C #[hp.k1,hp.k2,b.1,b.2,λa ha=>(g a ha).2,hp.m4 rfl]) λr h=>h
 .have h2:p≠2:=by simpa using c
  refine OS (bZ l (e.mono .b) rfl .A .B .C #[hp.pr,h2,hp.p3,hp.k1,hp.k2,hp.on,λa ha=>(g a ha).2,b.1,b.2]) ?_;obtain⟨j,i⟩:=J5 hp.pr h2 hp.k1 hp.on b.1;cases h:D5 row p k with
  |some zs=>exact j zs h
  |none=>exact i h
def Fp{x p:Int}(hp:bg p=Â)(h2:p≠2)(a:¬p∣x):decide (tq x ((p-1).fdiv 2) p=1)=decide (ck x p=1):=by
 have c:=aA hp;have d:(p-1).fdiv 2=(p-1)/2:=Ws _ .b;have b:¬x%p=0:=λz=>a (Wh z);unfold ck tq;rw[V4 b,V4 h2,d,g5];by_cases z:x^((p-1)/2).toNat%p=1
 .rw[V6 z];simp[z]
 .rw[V4 z];simp[z]
def E_(h1:1<=l.length)(h2:l.length<=8)(h:∀n∈l,n≠0/\n.natAbs<1073741824):aW l=Â:=by
 unfold aW;rw[WA,WM,WB];refine#[#[h1,h2],λa ha=>?_];have:=h a ha;unfold CL;rw[WM];lia
open Q (Fr)
def dN(n:Nat):fA 0 1 n=iM n:=by
 unfold fA iM;exact WY λi _=>by lia
structure g_(us:List Fr):Prop where
 len:us.length<=8
 low:∀u∈us,cW u
 s1:∀u∈us,Sm 2000 u.1
 s2:∀u∈us,Sm 500 u.2
structure w_(o:List Int×Int):Prop where
 len:o.1.length<=8
 sm:∀x∈o.1,Sm 6001 x
 pos:1<=o.2
 s2:Sm 4001 o.2
def OX(a:List Int×Int)(bs:List (List Int×Int)):List Fr:=bs.map (yS a)
def jf(n:Int):Tb:=M3 n.toNat
def bw{M:Type}{l:List M}{a:M}(h:l[i]?=À a):a∈l:=Wq h
def F0{us:List Fr}(h:g_ us)(i:Nat)(hi:i<=us.length):1<=c_ (us.take i)/\Sm (1+500*i) (c_ (us.take i)):=by
 induction i with
 |zero=>exact#[by show(1:Int)<=1;decide,by show(1:Int).natAbs<2^1;decide]
 |succ i c =>
  obtain⟨h1,h2⟩:=c .a;have b:us[i]?=À us[i]:=V7 .a;have a:=bw b;have e:c_ (us.take (i+1))=(c_ (us.take i)*us[i].2).fdiv (Ì (c_ (us.take i)) us[i].2:Nat):=ly b;have z:=rP h1 (h.low _ a).1;rw[<-e] at z;refine#[z.1,?_];have s:=h2.mul (h.s2 _ a);have l:=z.2.2.2;have:Sm (1+500*i+500) (c_ (us.take (i+1))):=Sm.of_le .a s;exact this.le .a
def Bz{us:List Fr}(h:g_ us):1<=c_ us/\Sm 4001 (c_ us):=by
 have z:=F0 h us.length (V_ _);rw[XJ] at z;exact#[z.1,z.2.le (by have:=h.len;lia)]
def LU(c:1<=b)(h:Sm n b):((Ì a b:Nat):Int)≠0/\Sm n ((Ì a b:Nat):Int):=by
 have h1:Ì a b≠0:=λz=>by rw[Y7] at z;lia
 refine#[.a,Sm.of_le ?_ h];have:(Ì a b)<=b.natAbs:=ϑ .a (Int.gcd_dvd_natAbs_right a b);lia
def u6(ha:1<=a)(c:1<=b)(h:Sm n a):Sm n (a.fdiv b):=by
 refine Sm.of_le ?_ h;rw[Ws a .a];have h1:0<=a/b:=Za .a .a;have h2:a/b<=a:=Η b .a;lia
def oD{us:List Fr}(h:g_ us):w_ (kT us):=by
 obtain⟨h1,h2⟩:=Bz h;refine#[by show(us.map _).length<=8;rw[V2];exact h.len,λx b=>?_,h1,h2];obtain⟨u,a,rfl⟩:=V3.mp b;exact(h.s1 u a).mul (u6 h1 (h.low u a).1 h2)
structure sZ(n:Nat)(T:Tb):Prop where
 sq:Sq n T
 n8:n<=8
 s1:∀r∈T,∀u∈r,Sm 2000 u.1
 s2:∀r∈T,∀u∈r,Sm 500 u.2
def sZ.row{n:Nat}{T:Tb}(h:sZ n T){r:List Fr}(a:r∈T):g_ r:=#[by rw[h.sq.row r a];exact h.n8,h.sq.low r a,h.s1 r a,h.s2 r a]
def sZ.len{n:Nat}{T:Tb}(h:sZ n T):T.length<=8:=by rw[h.sq.len];exact h.n8
def sZ.QX{T:Tb}(h:sZ n T):sZ n (tj T):=by
 have key:∀r∈tj T,∀u∈r,∃c∈T,u∈c:=λr f u e=>by
  obtain⟨j,g,rfl⟩:=V3.mp f;obtain⟨c,d,rfl⟩:=V3.mp e;have:=cI g;rw[h.sq.len] at this;exact#[c,d,Q.getD_mem (by rw[h.sq.row c d];lia)]
 exact#[h.sq.tj,h.n8,λr f u e=>by obtain⟨c,a,b⟩:=key r f u e;exact h.s1 c a u b,λr f u e=>by obtain⟨c,a,b⟩:=key r f u e;exact h.s2 c a u b]
def jg{M:Type}{d:M}{xs:List M}{k:Int}(b:0<=k)(h:k<(xs.length:Int)):tY xs k=À (xs.getD k.toNat d):=by
 have a:k.toNat<xs.length:=by lia
 have e:k=((k.toNat:Nat):Int):=by lia
 have q:tY xs ((k.toNat:Nat):Int)=À xs[k.toNat]:=vA (by rw[V7 a]);rw[<-e] at q;rw[q,Wa,V7 a];rfl
def CH(u v:Fr):Prop:=(u.2≠0/\v.2≠0)/\Sm 4000 u.1/\Sm 4000 u.2/\Sm 4000 v.1/\Sm 4000 v.2
def qO{M:Type}{d:M}{xs:List M}{k:Nat}(h:k<xs.length):tY xs (k:Int)=À (xs.getD k d):=by
 rw[vA (by rw[V7 h]),Wa,V7 h];rfl
def xp(n:Nat):iM (n+1)=iM n++[(n:Int)]:=by unfold iM;rw[List.range_succ,Ya];rfl
def take_snoc{M:Type}{us:List M}{a:M}(h:us[i]?=À a):us.take (i+1)=us.take i++[a]:=by rw[YR,h];rfl
structure K4(n:Nat)(T:Tb):Prop where
 sq:Sq n T
 n8:n<=8
 s1:∀r∈T,∀u∈r,Sm 20 u.1
 s2:∀r∈T,∀u∈r,Sm 10 u.2
def K4.p{T:Tb}(h:K4 n T):sZ n T:=#[h.sq,h.n8,λr a u b=>(h.s1 r a u b).le .b,λr a u b=>(h.s2 r a u b).le .b]
def Ez(T:Tb)(j:Int)(c:T.length<=8)(h1:0<=j)(h2:∀r∈T,j<(r.length:Int)):⇑Body rB "column" nE f k [.val Á T,.val Á j] (RT Â (ki T j)):=by
 intro b A outer s H E a;exact ar (bC (f:=λr:List Fr=>r.getD j.toNat (0,1)) ["numbers"] [1] (aX (ah nE) rB rfl rfl .d) (bh .A) (aT 0) (λC s H fp=>bD 0 ["numbers","j"]) aP (λk r a C s H fp=>dR (bp .A .B (jg h1 (h2 r (bw a))))) .a) rfl
abbrev Vp(P w K mg base):=aK P w K mg base 1 "column" ["T","j"] (bO K (fun(T:Tb) (j:Int)=>T.length<=8/\0<=j/\∀r∈T,j<(r.length:Int)) Â ki)
def tO(c:⇑Vp)(n:Nat)(T:Tb)(h:sZ n T):⇑Body iI "turned_over" fE f 1 [.val Á T] (RT Â (tj T)):=by
 intro e A outer s H E a;have d:=h.len;refine ar (bC (f:=λj=>ki T j) ["j"] [0] (aX (ah fE) iI rfl rfl .d) (cO rfl B.range (aY rfl B.len .A) .a .a) (aT 0) (λC s H fp=>bD 0 ["j","T"]) aP (λk j b C s H fp=>av c (a.mono .b) rfl .B .A #[d,?_,λr a=>?_]) (by rw[bz];lia)) ?_
 .have:=(qM b).2;lia
 .have:=(qM b);have e1:=h.sq.len;have e2:=h.sq.row r a;lia
 .rw[dN];rfl
def p7(j:⇑U2)(us:List Fr)(h:g_ us):⇑Body jY "common_bottom" gh f 1 [.val Á us] (RT Â (c_ us)):=by
 intro l A outer s H E k;refine ao 1 dO.nd ag ?_;refine oK (λi U=>∃r,U=[À (.val Á us),À (.val Â (c_ (us.take i))),r]) (bW 2 dO.nd) .A #[none,rfl] ?_ ?_
 .rintro i u U' b ⟨r,rfl⟩;have c:=bw b;have hi:i<us.length:=(Wd.mp b).1;obtain⟨m,e⟩:=F0 h i .a;have d:Sm 4001 (c_ (us.take i)):=e.le (by have:=h.len;lia);have g:=LU (a:=c_ (us.take i)) (h.low u c).1 (h.s2 u c);refine ao 1 dO.nd (a8 (aH .B (b6 .C) (d.ok (h.s2 u c))) (av j (k.mono .b) rfl .B (b6 .C) É) (g.2.div g.1)) ?_;refine aO #[À (.val Á u),?_];unfold c_;rw[ly b];rfl
 .rintro U' ⟨r,rfl⟩;rw[XJ];exact ar .B rfl
def mZ(d:⇑aK 2 "common_bottom" ["numbers"] (dU K g_ Â c_))(us:List Fr)(h:g_ us):⇑Body e9 "over_one_bottom" dq f 2 [.val Á us] (RT Â (kT us)):=by
 intro g A outer s H E e;obtain⟨c,b⟩:=Bz h;refine ao 1 g6.nd (aD d (e.mono .b) rfl .A h) ?_;exact ar (a7 (bC (f:=λu:Fr=>u.1*(c_ us).fdiv u.2) ["u"] [1] (aX (ah dq) e9 rfl rfl .d) (bh .A) (aT 0) (λC s H fp=>bD 0 ["u","bottom"]) aP (λk u a C s H fp=>aH (cj .A) (a8 .B (b6 .A) ((h.s2 u (bw a)).div (h.low u (bw a)).ne)) ((h.s1 u (bw a)).ok (u6 c (h.low u (bw a)).1 b))) (by have:=h.len;lia)) .B) rfl
def oa(d:⇑U7)(a b:List Int×Int)(ha:w_ a)(c:w_ b):⇑Body eR "sum_of_products" dw f 2 [.val Á a,.val Á b] (RT Â (yS a b)):=by
 intro g A outer s H E e;refine ao 2 gI.nd (xQ rfl rfl B.sum (bC (f:=λp:Int×Int=>p.1*p.2) ["a","b"] [] (aX (ah dw) eR rfl rfl .d) (oE rfl B.zip (cj .A) (cj .B)) (iu 0 1) (λC s H fp=>jA 0 1 ["a","b"]) dP (λk p hp C s H fp=>aH .A .B ((ha.sm _ (iY (bw hp)).1).ok (c.sm _ (iY (bw hp)).2))) (by rw[X0];have:=ha.len;lia))) ?_;exact ar (av d (e.mono .b) rfl .C (aH (b6 .A) (b6 .B) (ha.s2.ok c.s2)) #[Wl (by have:=ha.pos;lia) (by have:=c.pos;lia),(ha.s2.mul c.s2).le .b]) rfl
abbrev Vq(P w K mg base):=aK P w K mg base 3 "sum_of_products" ["one","other"] (bO K (λa b=>w_ a/\w_ b) Â yS)
def xU(c:⇑Vq)(a:List Int×Int)(bs:List (List Int×Int))(ha:w_ a)(h:bs.length<=8)(d:∀b∈bs,w_ b):⇑Body j9 "sums_with" ij f 3 [.val Á a,.val Á bs] (RT Â (OX a bs)):=by
 intro g A outer s H E e;exact ar (bC (f:=λb=>yS a b) ["other"] [0] (aX (ah ij) j9 rfl rfl .d) (bh .B) (aT 0) (λC s H fp=>bD 0 ["other","one"]) aP (λk b hp C s H fp=>av c (e.mono .b) rfl .B .A #[ha,d b (bw hp)]) .a) rfl
abbrev Vs(P w K mg base):=aK P w K mg base 4 "sums_with" ["one","others"] (bO K (fun(a:List Int×Int) (bs:List (List Int×Int))=>w_ a/\bs.length<=8/\∀b∈bs,w_ b) Â OX)
abbrev Vr(P w K mg base):=aK P w K mg base 3 "over_one_bottom" ["numbers"] (dU K g_ Â kT)
def PR(g:⇑Vr)(m:⇑Vs)
  (T:Tb) (x:List Fr) (i:T.length<=8) (h:∀r∈T,g_ r) (e:g_ x):⇑Body MM "at" Ji f 4 [.val Á T,.val Á x] (RT Â (yX T x)):=by
 intro l A outer s H E d;refine lZ 2 JU.nd (f:=λr=>kT r) ["numbers"] [] (aX (ah Ji) MM rfl rfl .d) (bh .A) (aT 0) (λC s H fp=>bD 0 ["numbers"]) aP (λk r c C s H fp=>aD g (d.mono .b) rfl .A (h r (bw c))) .a ?_;refine ar (av m (d.mono .b) rfl (aD g (d.mono .b) rfl .B e) .C #[oD e,by rwa[V2],λb a=>?_]) rfl;obtain⟨j,z,rfl⟩:=V3.mp a;exact oD (h j z)
abbrev Vt(P w K mg base):=aK P w K mg base 2 "turned_over" ["T"] (dU K (fun(T:Tb)=>∃n,sZ n T) Â tj)
def Cn(i:⇑Vt)(g:⇑Vr)(j:⇑Vs)
  (n:Nat) (T Γ:Tb) (ha:sZ n T) (h:sZ n Γ):⇑Body lb "product" jh f 4 [.val Á T,.val Á Γ] (RT Â (u9 T Γ)):=by
 intro l A outer s H E d;have c:=h.QX;refine ao 2 sQ.nd (bC (f:=λr=>kT r) ["numbers"] [] (aX (ah jh) lb rfl rfl .d) (bh (aD i (d.mono .b) rfl .B #[n,h])) (aT 0) (λC s H fp=>bD 0 ["numbers"]) aP (λk r a C s H fp=>aD g (d.mono .b) rfl .A (c.row (bw a))) (by have:=c.len;lia)) ?_;refine ar (bC (f:=λr=>OX (kT r) ((tj Γ).map kT)) ["numbers"] [2] (aX (ah jh) lb rfl rfl .d) (bh .A) (aT 0) (λC s H fp=>bD 0 ["numbers","columns"]) aP (λk r a C s H fp=>av j (d.mono .b) rfl (aD g (d.mono .b) rfl .A (ha.row (bw a))) .B #[oD (ha.row (bw a)),?_,λb e=>?_]) (by have:=ha.len;lia)) ?_
 .rw[V2];exact c.len
 .obtain⟨m,z,rfl⟩:=V3.mp e;exact oD (c.row z)
 .rfl
structure Pa(F T:Tb):Prop where
 ex:∃n,sZ n F/\sZ n T/\sZ n (u9 F T)
abbrev Vu(P w K mg base):=aK P w K mg base 5 "product" ["one","other"] (bO K (fun(A B:Tb)=>∃n,sZ n A/\sZ n B) Â u9)
def OM(e:⇑Vt)(b:⇑Vu)(F T:Tb)(hp:Pa F T):⇑Body J3 "led" FA f 5 [.val Á F,.val Á T] (RT Â (zB F T)):=by
 intro d A outer s H E a;obtain⟨n,h1,h2,c⟩:=hp.ex;exact ar (av b (a.mono .b) rfl (aD e (a.mono .b) rfl .B #[n,h2]) (av b (a.mono .b) rfl .A .B #[n,h1,h2]) #[n,h2.QX,c]) rfl
def Sm.O6{t:Int}(a:b≠0)(h:Sm n t):Sm n (fr t b).1:=Sm.of_le (Iv a) h
def Sm.Pg{t:Int}(a:b≠0)(h:Sm n b):Sm n (fr t b).2:=Sm.of_le (Jx a) h
structure IY(us:List Fr):Prop where
 len:us.length<=8
 low:∀u∈us,cW u
 s1:∀u∈us,Sm 20 u.1
 s2:∀u∈us,Sm 10 u.2
def K4.row{n:Nat}{T:Tb}(h:K4 n T){r:List Fr}(a:r∈T):IY r:=#[by rw[h.sq.row r a];exact h.n8,h.sq.low r a,h.s1 r a,h.s2 r a]
def Ic{m:Nat}{us:List Fr}(a:∀u∈us,cW u)(f:∀u∈us,Sm m u.2)(i:Nat)(hi:i<=us.length):1<=c_ (us.take i)/\Sm (1+m*i) (c_ (us.take i)):=by
 induction i with
 |zero=>exact#[by show(1:Int)<=1;decide,by show(1:Int).natAbs<2^(1+m*0);rw[Ϭ];decide]
 |succ i d =>
  obtain⟨h1,h2⟩:=d .a;have b:us[i]?=À us[i]:=V7 .a;have c:=bw b;have e:c_ (us.take (i+1))=(c_ (us.take i)*us[i].2).fdiv (Ì (c_ (us.take i)) us[i].2:Nat):=ly b;have z:=rP h1 (a _ c).1;rw[<-e] at z;refine#[z.1,?_];have s:=h2.mul (f _ c);have l:=z.2.2.2;have:Sm (1+m*i+m) (c_ (us.take (i+1))):=Sm.of_le .a s;exact this.le (by rw[Nat.mul_add];lia)
theorem FV{m:Nat}:∀(l:List Int) (k:Nat),l.length<=k->(∀x∈l,Sm m x)->Sm (m+k) l.sum
 |[],k,_,_=>by show(0:Int).natAbs<_;exact Y9 _
 |x::l,0,h,_=>by simp at h
 |x::l,k+1,h,a=>by
  have h1:=a x (Wu ..);have h2:=FV l k ↑h λy b=>a y (We _ b);rw[Y5];exact(h1.add h2).le .a
def N2(F:Tb)(x:List Fr):Prop:=F.length<=8/\(∀r∈F,g_ r)/\g_ x/\g_ (yX F x)
abbrev Vv(P w K mg base):=aK P w K mg base 5 "at" ["T","x"] (bO K (fun(T:Tb) (x:List Fr)=>T.length<=8/\(∀r∈T,g_ r)/\g_ x) Â yX)
def Hs(d:⇑Vr)(h:⇑Vq)(e:⇑Vv)
  (F:Tb) (x:List Fr) (hp:N2 F x):⇑Body A2 "value" uX f 5 [.val Á F,.val Á x] (RT Â (Kn F x)):=by
 intro g A outer s H E a;obtain⟨h1,h2,b,c⟩:=hp;exact ar (av h (a.mono .b) rfl (aD d (a.mono .b) rfl (av e (a.mono .b) rfl .A .B #[h1,h2,b]) c) (aD d (a.mono .b) rfl .B b) #[oD c,oD b]) rfl
structure lA(a b:Nat)(us:List Fr):Prop where
 len:us.length<=8
 low:∀u∈us,cW u
 s1:∀u∈us,Sm a u.1
 s2:∀u∈us,Sm b u.2
def IY.g{us:List Fr}(h:IY us):lA 20 10 us:=#[h.len,h.low,h.s1,h.s2]
def lA.p{a b:Nat}{us:List Fr}(h:lA a b us)(ha:a<=2000)(c:b<=500):g_ us:=#[h.len,h.low,λu q=>(h.s1 u q).le ha,λu q=>(h.s2 u q).le c]
def lA.lcm{a b:Nat}{us:List Fr}(h:lA a b us):1<=c_ us/\Sm (1+b*8) (c_ us):=by
 have z:=Ic h.low h.s2 us.length (V_ _);rw[XJ] at z;exact#[z.1,z.2.le (by have:=Š b h.len;lia)]
theorem lA.kT{a b:Nat}{us:List Fr}(h:lA a b us):∀x∈(kT us).1,Sm (a+(1+b*8)) x:=λx d=>by
 obtain⟨u,c,rfl⟩:=V3.mp d;obtain⟨h1,h2⟩:=h.lcm;exact(h.s1 u c).mul (u6 h1 (h.low u c).1 h2)
def Kp{a b e b':Nat}{r c:List Fr}(d:lA a b r)(f:lA e b' c):cW (yS (kT r) (kT c))/\Sm (a+(1+b*8)+(e+(1+b'*8))+8) (yS (kT r) (kT c)).1/\Sm (1+b*8+(1+b'*8)) (yS (kT r) (kT c)).2:=by
 obtain⟨i,h⟩:=d.lcm;obtain⟨b1,b2⟩:=f.lcm;have ne:(kT r).2*(kT c).2≠0:=Wl (show c_ r≠0 by lia) (show c_ c≠0 by lia);refine#[kR ne,Sm.O6 ne ?_,Sm.Pg ne (h.mul b2)];unfold yx;refine FV _ 8 ?_ λx g=>?_
 .rw[V2,X0];have:(kT r).1.length<=8:=by show(r.map _).length<=8;rw[V2];exact d.len
  lia
 .obtain⟨p,hp,rfl⟩:=V3.mp g;have q:=iY hp;exact(d.kT _ q.1).mul (f.kT _ q.2)
def OG{a b:Nat}{T:Tb}{x:List Fr}(h:K4 n T)(e:lA a b x):lA (a+(1+b*8)+109) (1+b*8+81) (yX T x):=by
 have key:∀u∈yX T x,Sm (a+(1+b*8)+109) u.1/\Sm (1+b*8+81) u.2:=λu d=>by
  obtain⟨o,h2,rfl⟩:=V3.mp d;obtain⟨c,f,rfl⟩:=V3.mp h2;exact(Kp e (h.row f).g).2
 have q:=qc h.sq e.low;exact#[by rw[q.1];exact h.n8,q.2,λu d=>(key u d).1,λu d=>(key u d).2]
def Q0{a b:Nat}{T:Tb}{x:List Fr}(h:K4 n T)(c:lA a b x)(ha:a<=100)(e:b<=40):N2 T x:=#[h.p.len,λr d=>h.p.row d,c.p .a .a,(OG h c).p .a .a]
def sD(n p:Int)(u:Fr):List Fr:=lR n.toNat p u
def tU(n p:Int)(u:Fr)(c:0<=n)(h1:n<=8):⇑Body iD "with_number" fK f k [.val Á n,.val Á p,.val Á u] (RT Â (sD n p u)):=by
 intro a A outer s H E d;refine ar (bC (f:=λj=>if decide (j=p) then u else (0,1)) (b':=Â) ["j"] [1,2] (aX (ah fK) iD rfl rfl .d) (cO rfl B.range .A .a .a) (aT 0) (λC s H fp=>bD 0 ["j","place","number"]) aP (λk j b C s H fp=>j4 (ay aB .A .B) (λ_=>dR (b':=Â) .C) λ_=>a7 ag ag) (by rw[bz];lia)) ?_;rw[dN];show Bd.val _ _=Bd.val _ _;congr 1;unfold sD lR;exact WY λj _=>by by_cases z:j=p<;>simp[z]
def MT(us:List Fr):(wZ us).map (λu=>lR us.length u.1 u.2)=yP us:=by
 unfold wZ yP;refine YU λi=>?_;rw[WJ,Xz,Xz];cases us[i]?<;>rfl
abbrev Vw(P w K mg base):=aK P w K mg base 1 "with_number" ["n","place","number"] (nV K (fun(n _:Int) (_:Fr)=>0<=n/\n<=8) Â sD)
def CF(a:⇑Vw)(us:List Fr)(h:us.length<=8):⇑Body pD "form_of" k6 f 1 [.val Á us] (RT Â (yP us)):=by
 intro c A outer s H E b;refine ar (bC (f:=λu:Int×Fr=>sD (us.length:Int) u.1 u.2) (b':=Â) ["i","number"] [0] (aX (ah k6) pD rfl rfl .d) (qC rfl B.enumerate .A) (iu 0 1) (λC s H fp=>jA 0 1 ["i","number","numbers"]) dP (λk j d C s H fp=>bZ a (b.mono .b) rfl (aY rfl B.len .C) .A .B #[.a,.a]) (by rw[k7];lia)) ?_
 have e:(λu:Int×Fr=>sD (us.length:Int) u.1 u.2)=λu=>lR us.length u.1 u.2:=by
  funext u;unfold sD;rw[Wm]
 rw[e,MT];rfl
def E1{M:Type}{l:List M}{i:Int}{d:M}(a:0<=i)(h1:i<n)(b:l.length=n):tY l i=À (l.getD i.toNat d):=by
 unfold tY DH;rw[V6 a,V6 .a];show l[i.toNat]?=_;rw[Wa,V7 .a];rfl
def x8{U:aF}{c c':Bool}(h:T X U e c)(z:c=c'):T X U e c':=z▸h
def jS(x:Dt):Bool:=match x.d with
 |.int _=>Â
 |_=>Á
def Na:Ï->Int
 |.int k=>k
 |_=>0
def ve{d:Ï}(h:jS #[d]=Â):∃k,d=.int k:=by
 cases d with
 |int k=>exact#[k,rfl]
 |_=>exact absurd h (by simp[jS])
def yK(x:Dt):⇑Body l_ "is_whole" jG f kk [.val Á x] (RT Â (jS x)):=by
 intro a A outer s H E b;obtain⟨d⟩:=x;refine ar (cE (L3 (d:=d) rfl B.isinstance rfl B.int .A) λ_=>(c8 (uy (Mv (d:=d) rfl B.isinstance rfl B.bool .A)))) ?_;show Bd.val _ _=Bd.val _ _;congr 1;cases d<;>rfl
def fL(x:Dt):Bool:=match x.d with
 |.tuple [.int a,.int b]=>decide (1<=b)&&decide (((Ì a b:Nat):Int)=1)
 |_=>Á
def Fn{d:Ï}(h:fL #[d]=Â):∃u:Fr,d=iL u/\cW u:=by
 unfold fL at h;split at h
 .rename_i a b e;have c:d=.tuple [.int a,.int b]:=e;refine#[(a,b),c,?_];simp at h;exact#[h.1,by have:=h.2;show Ì a b=1;lia]
 .cases h
def Ey{u:Fr}(h:cW u):fL #[iL u]=Â:=by
 show(decide (1<=u.2)&&decide (((Ì u.1 u.2:Nat):Int)=1))=Â;rw[Wr h.1,Wr (by rw[h.2];rfl)];rfl
def FF{a b:Ï}(h:¬(jS #[a]=Â/\jS #[b]=Â)):fL #[.tuple [a,b]]=Á:=by
 unfold fL;split
 .rename_i x y e;have c:Λ [a,b]=.tuple [.int x,.int y]:=e;cases c;exact absurd #[rfl,rfl] h
 .rfl
def D7{ds:List Ï}(h:¬(ds.length:Int)=2):fL #[.tuple ds]=Á:=by
 unfold fL;split
 .rename_i x y e;have a:Λ ds=.tuple [.int x,.int y]:=e;cases a;exact absurd rfl h
 .rfl
abbrev Vx(P w K mg base):=aK P w K mg base 1 "is_whole" ["k"] (dU K (fun(_:Dt)=>True) Â jS)
def tE(m:⇑Vx)(n:⇑U2)(x:Dt):⇑Body fJ "is_fraction" d9 f 1 [.val Á x] (RT Â (fL x)):=by
 intro k A outer s H E g;obtain⟨d⟩:=x
 have no:Jh d=Á->fL #[d]=Á->S (⇑cx fJ "is_fraction" d9 f k A outer s H E) (wO fJ [.val Á (Dt.mk d)]) (aU d9) (RT Â (fL #[d])):=λl p=>by
  rw[p];refine aJ (TW.t (bV (c':=Á) (bN (bP (Ac rfl B.isinstance rfl B.tuple .A))) λz=>absurd z (by rw[l];decide))) (λc=>?_) (λc=>?_)
  .exact ar dh rfl
  .rw[l] at c;cases c
 cases d with
 |tuple ds =>
  refine aJ (TW.t (bV (bN (bP (Ac (d:=.tuple ds) rfl B.isinstance rfl B.tuple .A))) λ_=>(di (ay b8 (qK rfl B.len (cP (ds:=ds) .A)) ag)))) (λc=>?_) (λc=>?_)
  .have e:¬(ds.length:Int)=2:=by
    rw[V2] at c;simpa [Jh] using c
   rw[D7 e];exact ar dh rfl
  .have e:(ds.length:Int)=2:=by
    rw[V2] at c;simpa [Jh] using c
   obtain⟨a,b,rfl⟩:∃a b,ds=[a,b]:=by
    match ds,e with
    |[a,b],_=>exact#[a,b,rfl]
    |[],h=>simp at h
    |[_],h=>simp at h
    |_::_::_::_,h=>simp at h;lia
   refine aJ (TW.t (bV (bN (bP (aD m (g.mono .b) rfl (eE (a:=Dt.mk a) (cP (ds:=[a,b]) .A) ag rfl) É))) λ_=>(di (bN (bP (aD m (g.mono .b) rfl (eE (a:=Dt.mk b) (cP (ds:=[a,b]) .A) ag rfl) É)))))) (λc=>?_) (λc=>?_)
   .rw[FF λq=>by rw[q.1,q.2] at c;cases c];exact ar dh rfl
   .have q1:jS #[a]=Â:=by
     cases q:jS #[a] with
     |true=>rfl
     |false=>rw[q] at c;cases c
    have o:jS #[b]=Â:=by
     cases q:jS #[b] with
     |true=>rfl
     |false=>rw[q,q1] at c;cases c
    obtain⟨i,rfl⟩:=ve q1;obtain⟨j,rfl⟩:=ve o;exact ar (cE (bx Ei (fh (eE (a:=Dt.mk (.int j)) (cP (ds:=[.int i,.int j]) .A) ag rfl)) ag) λ_=>(c8 (bx aB (av n (g.mono .b) rfl (fh (eE (a:=Dt.mk (.int i)) (cP (ds:=[.int i,.int j]) .A) ag rfl)) (fh (eE (a:=Dt.mk (.int j)) (cP (ds:=[.int i,.int j]) .A) ag rfl)) É) ag))) rfl
 |_=>exact no rfl rfl
def Ln(d:Ï):Prop:=∀ds,d=.list ds->ds.length<=1000
def gp(x:Dt)(n:Int):Bool:=match x.d with
 |.list ds=>decide ((ds.length:Int)=n)&&(ds.map Dt.mk).all fL
 |_=>Á
theorem FD:∀{ds:List Ï},(ds.map Dt.mk).all fL=Â->∃us:List Fr,ds=us.map iL/\∀u∈us,cW u
 |[],_=>#[[],rfl,λu e=>by cases e]
 |d::ds,h=>by
  rw[Wb,Yf,WA] at h;obtain⟨us,h1,h2⟩:=FD h.2;obtain⟨u,b,c⟩:=Fn h.1;refine#[u::us,by rw[h1,b];rfl,λv a=>?_];rcases V8.mp a with rfl|a
  .exact c
  .exact h2 v a
def Ky{d:Ï}{n:Int}(h:gp #[d] n=Â):∃us:List Fr,d=.list (us.map iL)/\(us.length:Int)=n/\∀u∈us,cW u:=by
 cases d with
 |list ds =>
  have h':(decide ((ds.length:Int)=n)&&(ds.map Dt.mk).all fL)=Â:=h;rw[WA] at h';obtain⟨us,h1,h2⟩:=FD h'.2;refine#[us,by rw[h1],?_,h2];have:=Xq h'.1;rwa[h1,V2] at this
 |_=>exact absurd h (by simp[gp])
def xq(h:⇑aK 2 "is_fraction" ["thing"] (dU K (fun(_:Dt)=>True) Â fL))(x:Dt)(n:Int)(e:Ln x.d):⇑Body fQ "is_vector" eJ f 2 [.val Á x,.val Á n] (RT Â (gp x n)):=by
 intro a A outer s H E j;obtain⟨d⟩:=x
 have no:DM d=Á->gp #[d] n=Á->S (⇑cx fQ "is_vector" eJ f a A outer s H E) (wO fQ [.val Á (Dt.mk d),.val Á n]) (aU eJ) (RT Â (gp #[d] n)):=λb c=>by
  rw[c];refine ar (cE (c':=Á) (b2:=Â) (iC rfl B.isinstance rfl B.list .A) λz=>absurd z (by rw[b];decide)) ?_;rw[b];rfl
 cases d with
 |list ds =>
  have g:=e ds rfl;refine ar (cE (iC (d:=.list ds) rfl B.isinstance rfl B.list .A) λ_=>(cE (bx aB (aY rfl B.len (fW (ds:=ds) .A)) .B) λ_=>(c8 (pM rfl rfl B.all (bC (f:=fL) ["u"] [] (aX (ah eJ) fQ rfl rfl .d) (bh (fW (ds:=ds) .A)) (aT 0) (λC s H fp=>bD 0 ["u"]) aP (λi u k C s H fp=>aD h (j.mono .b) rfl .A É) (by rw[V2];exact g)))))) ?_;show Bd.val _ _=Bd.val _ _;congr 1;rw[V2];show(Â&&(decide _&&_))=(decide _&&_);rw[Xb,Yd];rfl
 |_=>exact no rfl rfl
def hV(row:List Int):List Fr:=row.map λk=>(k,1)
def bL(row:List Int):Tb:=yP (hV row)
abbrev Vy(P w K mg base):=aK P w K mg base 2 "form_of" ["numbers"] (dU K (fun(us:List Fr)=>us.length<=8) Â yP)
def tH(c:⇑Vy)(row:List Int)(h:row.length<=8):⇑Body iQ "form_of_row" fD f 2 [.val Á row] (RT Â (bL row)):=by
 intro a A outer s H E b;exact ar (aD c (b.mono .b) rfl (bC (b':=Â) (f:=λk:Int=>((k,1):Fr)) ["k"] [] (aX (ah fD) iQ rfl rfl .d) (bh .A) (aT 0) (λC s H fp=>bD 0 ["k"]) aP (λi u d C s H fp=>dR (a7 .A ag)) .a) (by rw[V2];exact h)) rfl
def O8(d:Ï):Prop:=∀ds,d=.list ds->ds.length<=1000/\∀e∈ds,Ln e
def i8(x:Dt)(n:Int):Bool:=match x.d with
 |.list ds=>decide ((ds.length:Int)=n)&&(ds.map Dt.mk).all (λe=>gp e n)
 |_=>Á
theorem FQ{n:Int}:∀{ds:List Ï},(ds.map Dt.mk).all (λe=>gp e n)=Â->∃T:Tb,ds=T.map (λr=>î (r.map iL))/\∀r∈T,(r.length:Int)=n/\∀u∈r,cW u
 |[],_=>#[[],rfl,λu g=>by cases g]
 |d::ds,h=>by
  rw[Wb,Yf,WA] at h;obtain⟨T,h1,h2⟩:=FQ h.2;obtain⟨us,c,b,f⟩:=Ky h.1;refine#[us::T,by rw[h1,c];rfl,λr a=>?_];rcases V8.mp a with rfl|a
  .exact#[b,f]
  .exact h2 r a
def vx(T:Tb):Ï:=.list (T.map λr=>î (r.map iL))
def Qf{d:Ï}(h:i8 #[d] (n:Int)=Â):∃T:Tb,d=vx T/\Sq n T:=by
 cases d with
 |list ds =>
  have h':(decide ((ds.length:Int)=(n:Int))&&(ds.map Dt.mk).all (λe=>gp e n))=Â:=h;rw[WA] at h';obtain⟨T,h1,h2⟩:=FQ h'.2;have:=Xq h'.1;rw[h1,V2] at this;exact#[T,by rw[h1];rfl,.a,λr a=>by have:=(h2 r a).1;lia,λr a=>(h2 r a).2]
 |_=>exact absurd h (by simp[i8])
abbrev Vz(P w K mg base):=aK P w K mg base 3 "is_vector" ["thing","n"] (bO K (fun(x:Dt) (_:Int)=>Ln x.d) Â gp)
def Aq(h:⇑Vz)(x:Dt)(n:Int)(g:O8 x.d):⇑Body gK "is_table" fi f 3 [.val Á x,.val Á n] (RT Â (i8 x n)):=by
 intro a A outer s H E l;obtain⟨d⟩:=x
 have no:DM d=Á->i8 #[d] n=Á->S (⇑cx gK "is_table" fi f a A outer s H E) (wO gK [.val Á (Dt.mk d),.val Á n]) (aU fi) (RT Â (i8 #[d] n)):=λb c=>by
  rw[c];refine ar (cE (c':=Á) (b2:=Â) (iC rfl B.isinstance rfl B.list .A) λz=>absurd z (by rw[b];decide)) ?_;rw[b];rfl
 cases d with
 |list ds =>
  obtain⟨j,h2⟩:=g ds rfl
  refine ar (cE (iC (d:=.list ds) rfl B.isinstance rfl B.list .A) λ_=>(cE (bx aB (aY rfl B.len (fW (ds:=ds) .A)) .B) λ_=>(c8 (pM rfl rfl B.all (bC (f:=λe=>gp e n) ["numbers"] [1] (aX (ah fi) gK rfl rfl .d) (bh (fW (ds:=ds) .A)) (aT 0) (λC s H fp=>bD 0 ["numbers","n"]) aP (λi u k C s H fp=>av h (l.mono .b) rfl .A .B (by
    obtain⟨e,he,rfl⟩:=V3.mp (bw k)
    exact h2 e he)) (by rwa[V2])))))) ?_
  show Bd.val _ _=Bd.val _ _;congr 1;rw[V2];show(Â&&(decide _&&_))=(decide _&&_);rw[Xb,Yd];rfl
 |_=>exact no rfl rfl
def Hf(x:Dt):Bool:=match x.d with
 |.int k=>CL k
 |_=>Á
def pg(c:sY mg "GREAT_FROM" 1073741824)(a:⇑Vx)(x:Dt):⇑Body fY "is_row_number" eB f 1 [.val Á x] (RT Â (Hf x)):=by
 intro e A outer s H E b;obtain⟨d⟩:=x;cases q:jS #[d] with
 |false =>
  refine ar (cE (c':=Á) (b2:=Â) (aD a (b.mono .b) rfl .A É) λz=>absurd z (by rw[q];decide)) ?_;rw[q];cases d with
  |int k=>cases q
  |_=>rfl
 |true =>
  obtain⟨x,rfl⟩:=ve q;refine ar (cE (aD a (b.mono .b) rfl .A É) λ_=>(cE (bx b8 (fh (k:=x) .A) ag) λ_=>(c8 (bx fS (uC rfl B.abs (fh (k:=x) .A)) (lL rfl c))))) ?_;show Bd.val _ _=Bd.val _ _;congr 1;show _=CL x;unfold CL;rw[WW,WM];simp[jS];intro _;split<;>lia
def cH(x:Dt):Bool:=match x.d with
 |.list ds=>decide (1<=ds.length/\ds.length<=8)&&(ds.map Dt.mk).all Hf
 |_=>Á
theorem xB:∀{ds:List Ï},(ds.map Dt.mk).all Hf=Â->∃ks:List Int,ds=ks.map ç/\ks.all CL=Â
 |[],_=>#[[],rfl,rfl]
 |d::ds,h=>by
  rw[Wb,Yf,WA] at h;obtain⟨ks,h1,h2⟩:=xB h.2;cases d with
  |int k=>exact#[k::ks,by rw[h1];rfl,by rw[Yf,h2,aai];exact h.1]
  |_=>exact absurd h.1 (by simp[Hf])
def zy{d:Ï}(h:cH #[d]=Â):∃ks:List Int,d=.list (ks.map ç)/\aW ks=Â:=by
 cases d with
 |list ds =>
  have h':(decide (1<=ds.length/\ds.length<=8)&&(ds.map Dt.mk).all Hf)=Â:=h;rw[WA] at h';obtain⟨ks,h1,h2⟩:=xB h'.2;have:=h'.1;rw[h1,V2] at this;refine#[ks,by rw[h1],?_];unfold aW;rw[this,h2];rfl
 |_=>exact absurd h (by simp[cH])
def Fo(ks:List Int):cH #[.list (ks.map ç)]=aW ks:=by
 show(decide (1<=(ks.map ç).length/\(ks.map ç).length<=8)&&((ks.map ç).map Dt.mk).all Hf)=_;unfold aW;rw[V2,W8,Yd];rfl
def CJ(h:sY mg "LONGEST" 8)(m:⇑aK 2 "is_row_number" ["k"] (dU K (fun(_:Dt)=>True) Â Hf))(x:Dt)(k:Ln x.d):⇑Body gN "is_row" fP f 2 [.val Á x] (RT Â (cH x)):=by
 intro c A outer s H E n;obtain⟨d⟩:=x
 have no:DM d=Á->cH #[d]=Á->S (⇑cx gN "is_row" fP f c A outer s H E) (wO gN [.val Á (Dt.mk d)]) (aU fP) (RT Â (cH #[d])):=λg j=>by
  rw[j];refine aJ (TW.t (bV (c':=Á) (bN (bP (iC rfl B.isinstance rfl B.list .A))) λz=>absurd z (by rw[g];decide))) (λa=>?_) (λa=>?_)
  .exact ar dh rfl
  .rw[g] at a;cases a
 cases d with
 |list ds =>
  have l:=k ds rfl;refine aJ (TW.t (bV (bN (bP (iC (d:=.list ds) rfl B.isinstance rfl B.list .A))) λ_=>(di (bN (qg lE lE ag (aY rfl B.len (fW (ds:=ds) .A)) (lL rfl h)))))) (λa=>?_) (λa=>?_)
  .have b:¬(1<=ds.length/\ds.length<=8):=by
    rw[V2] at a;simp[DM] at a;lia
   have e:cH #[.list ds]=Á:=by show(decide _&&_)=_;rw[Wv b];rfl
   rw[e];exact ar dh rfl
  .have b:1<=ds.length/\ds.length<=8:=by
    rw[V2] at a;simp[DM] at a;lia
   refine ar (pM rfl rfl B.all (bC (f:=Hf) ["k"] [] (aX (ah fP) gN rfl rfl .d) (bh (fW (ds:=ds) .A)) (aT 0) (λC s H fp=>bD 0 ["k"]) aP (λi u o C s H fp=>aD m (n.mono .b) rfl .A É) (by rwa[V2]))) ?_;show Bd.val _ _=Bd.val _ _;congr 1;show _=(decide _&&_);rw[Wr b,Xb,Yd];rfl
 |_=>exact no rfl rfl
theorem Gu{K:Ã}{N:Nn}{H:Hp}:∀{xs:List V} {T:Tb},Ø (λx (b:List Fr)=>Py.rp K N H x b) xs T->qf K N H xs (T.map λr=>î (r.map iL))
 |_,_,.nil=>.nil
 |_,_,.cons h t=>.cons (by
   obtain⟨p,ys,ev,sq,n,r⟩:=h;subst ev
   exact DN.lst sq n (AB r)) (Gu t)
theorem GY{K:Ã}{N:Nn}{H:Hp}:∀{xs:List V} {T:Tb},qf K N H xs (T.map λr=>î (r.map iL))->Ø (λx (b:List Fr)=>Py.rp K N H x b) xs T
 |_,[],.nil=>.nil
 |_,u::us,.cons h t=>.cons (by
   have h':DN K N H _ (î (u.map iL)):=h;cases h' with
   |lst sq n q=>exact#[_,_,rfl,sq,n,AE q]) (GY t)
def gW{U:aF}{b:Bool}{T:Tb}(h:E X U e b T):E X U e b (Dt.mk (vx T)):=l7 h λN H v ⟨p,xs,ev,sq,n,r⟩=>by
 subst ev;exact DN.lst sq n (Gu r)
def IZ{U:aF}{b:Bool}{T:Tb}(h:E X U e b (Dt.mk (vx T))):E X U e b T:=l7 h λN H v r=>by
 have a:DN X.K N H v (.list (T.map λr=>î (r.map iL))):=r;cases a with
 |lst sq n q=>exact#[_,_,rfl,sq,n,GY q]
def QJ(d:Ï):Tb:=match d with
 |.list ds=>ds.map λe=>match e with
  |.list es=>es.map λe=>match e with|.tuple [.int a,.int b]=>(a,b)|_=>(0,1)
  |_=>[]
 |_=>[]
def Kc(T:Tb):QJ (vx T)=T:=by
 show(T.map λr=>î (r.map iL)).map _=T;rw[W8];refine(WY λr _=>?_).trans (ϯ T);show(r.map iL).map _=r;rw[W8];exact aaV (λ_=>rfl) r
def inD(d:Ï):List Int:=match d with
 |.list ds=>ds.map λe=>match e with|.int k=>k|_=>0
 |_=>[]
def lH(ks:List Int):inD (.list (ks.map .int))=ks:=by
 show(ks.map ç).map _=ks;rw[W8];exact aaV (λ_=>rfl) ks
structure TK(n:Nat)(d:Ï):Prop where
 ls:∀ds,d=.list ds->ds.length<=1000/\∀e∈ds,∃es,e=.list es/\es.length=n/\∀u:Fr,iL u∈es->Sm 200 u.1/\Sm 50 u.2
def TK.lt{d:Ï}(h:TK n d)(f:n<=8):O8 d:=λds e=>by
 obtain⟨h1,h2⟩:=h.ls ds e;refine#[h1,λx a=>?_];obtain⟨es,rfl,l,_⟩:=h2 x a;intro c b;cases b;lia
def TK.g{T:Tb}(h:TK n (vx T))(sq:Sq n T)(d:n<=8):∀r∈T,lA 200 50 r:=λr b=>by
 obtain⟨_,h2⟩:=h.ls _ rfl;obtain⟨es,e,l,c⟩:=h2 _ (Yi b);cases e;exact#[by rwa[sq.row r b],sq.low r b,λu a=>(c u (Yi a)).1,λu a=>(c u (Yi a)).2]
def uV(k:Int):cW (k,1):=#[by show(1:Int)<=1;decide,by show Ì k 1=1;exact aat k]
def y_{row:List Int}(h:aW row=Â):Ds row.length (λu=>cW u/\Sm 30 u.1/\Sm 1 u.2) (bL row):=by
 have al:Ds (hV row).length (λu=>cW u/\Sm 30 u.1/\Sm 1 u.2) (yP (hV row)):=Bh #[rR,by show(0:Int).natAbs<2^30;decide,by show(1:Int).natAbs<2^1;decide] λu b=>by
  obtain⟨k,a,rfl⟩:=V3.mp b;exact#[uV k,(de h a).2,by show(1:Int).natAbs<2^1;decide]
 have e:(hV row).length=row.length:=V2 ..;rwa[e] at al
def xl{row:List Int}(h:aW row=Â):Sq row.length (bL row)/\∀r∈bL row,lA 30 1 r:=by
 have al:=y_ h;have sq:Sq row.length (bL row):=al.sq λu q=>q.1;exact#[sq,λr a=>#[by rw[sq.row r a];exact(aM h).2,sq.low r a,λu b=>(al.all r a u b).2.1,λu b=>(al.all r a u b).2.2]]
def Of{row:List Int}{T:Tb}(h:aW row=Â)(v:TK row.length (vx T))(sq:Sq row.length T):Pa (bL row) T:=by
 have i:=(aM h).2;obtain⟨n,m⟩:=xl h;have gt:=v.g sq i;have p:sZ row.length T:=#[sq,i,λr e u d=>((gt r e).s1 u d).le .b,λr e u d=>((gt r e).s2 u d).le .b]
 have key:∀r∈u9 (bL row) T,∀u∈r,Sm 648 u.1/\Sm 410 u.2:=λr e u d=>by
  obtain⟨k,h1,rfl⟩:=V3.mp e;obtain⟨o,h2,rfl⟩:=V3.mp d;obtain⟨c,t,rfl⟩:=V3.mp h2
  have q:lA 200 50 c:=by
   obtain⟨j,s,rfl⟩:=V3.mp t;have l:=cI s;rw[sq.len] at l
   have kk:∀u∈ki T j,∃r∈T,u∈r:=λu d=>by
    obtain⟨k,f,rfl⟩:=V3.mp d;exact#[k,f,Q.getD_mem (by rw[sq.row k f];lia)]
   refine#[by show(T.map _).length<=8;rwa[V2,sq.len],λu d=>?_,λu d=>?_,λu d=>?_]
   .obtain⟨r,a,b⟩:=kk u d;exact(gt r a).low u b
   .obtain⟨r,a,b⟩:=kk u d;exact(gt r a).s1 u b
   .obtain⟨r,a,b⟩:=kk u d;exact(gt r a).s2 u b
  exact(Kp (m k h1) q).2
 refine#[row.length,#[n,i,λr e u d=>((m r e).s1 u d).le .b,λr e u d=>((m r e).s2 u d).le .b],p,n.u9 sq,i,λr e u d=>(key r e u d).1.le .b,λr e u d=>(key r e u d).2.le .b]
def II(row:List Int)(o x:Dt):Prop:=aW row=Â/\Ln o.d/\TK row.length x.d
def ou(row:List Int)(o x:Dt):Bool:=cH o&&(decide ((inD o.d).length=row.length)&&(i8 x (row.length:Int)&&decide (zB (bL row) (QJ x.d)=bL (inD o.d))))
abbrev VC(P w K mg base):=aK P w K mg base 3 "form_of_row" ["row"] (dU K (fun(r:List Int)=>r.length<=8) Â bL)
abbrev VB(P w K mg base):=aK P w K mg base 4 "is_table" ["thing","n"] (bO K (fun(x:Dt) (_:Int)=>O8 x.d) Â i8)
abbrev VA(P w K mg base):=aK P w K mg base 3 "is_row" ["row"] (dU K (fun(x:Dt)=>Ln x.d) Â cH)
def EC(h:⇑VA)(m:⇑VB)(q:⇑aK 6 "led" ["F","T"] (bO K Pa Â zB))(p:⇑VC)
  (row:List Int) (o x:Dt) (hp:II row o x):⇑Body yD "is_led" qY f 6 [.val Á row,.val Á o,.val Á x] (RT Â (ou row o x)):=by
 intro y A outer s H E b;obtain⟨n,g,u⟩:=hp;have i:=aM n;obtain⟨o⟩:=o;obtain⟨x⟩:=x;have c:TK row.length x:=u;cases q1:cH #[o] with
 |false =>
  have e:ou row #[o] #[x]=Á:=by unfold ou;rw[q1];rfl
  rw[e];refine aJ (TW.t (bV (c':=Á) (bN (bP (aD h (b.mono .b) rfl .B g))) λz=>absurd z (by rw[q1];decide))) (λa=>?_) (λa=>?_)
  .exact ar dh rfl
  .rw[q1] at a;cases a
 |true =>
  obtain⟨ks,rfl,v⟩:=zy q1;have l:=aM v;by_cases j:ks.length=row.length
  .cases d:i8 #[x] (row.length:Int) with
   |false =>
    have e:ou row #[.list (ks.map .int)] #[x]=Á:=by unfold ou;rw[d];simp
    rw[e];refine aJ (TW.t (bV (bN (bP (aD h (b.mono .b) rfl .B g))) λ_=>(bV (ay b8 (aY rfl B.len (ik (ks:=ks) .B)) (aY rfl B.len .A)) λ_=>(di (bN (bP (av m (b.mono .b) rfl .C (aY rfl B.len .A) (c.lt i.2)))))))) (λa=>?_) (λa=>?_)
    .exact ar dh rfl
    .rw[q1,d] at a;simp at a
   |true =>
    obtain⟨T,rfl,sq⟩:=Qf d;refine aJ (TW.t (bV (bN (bP (aD h (b.mono .b) rfl .B g))) λ_=>(bV (ay b8 (aY rfl B.len (ik (ks:=ks) .B)) (aY rfl B.len .A)) λ_=>(di (bN (bP (av m (b.mono .b) rfl .C (aY rfl B.len .A) (c.lt i.2)))))))) (λa=>?_) (λa=>?_)
    .have k:i8 #[.list (T.map λr=>î (r.map iL))] (row.length:Int)=Â:=d;rw[q1,k,j] at a;simp at a
    .refine ar (bx (xc (M:=Tb) (gM b)) (av q (b.mono .b) rfl (aD p (b.mono .b) rfl .A i.2) (IZ (T:=T) .C) (Of n c sq)) (aD p (b.mono .b) rfl (ik (ks:=ks) .B) l.2)) ?_;show Bd.val _ _=Bd.val _ _;congr 1;unfold ou;rw[q1,d,lH,Kc,Wr j];rfl
  .have e:ou row #[.list (ks.map .int)] #[x]=Á:=by unfold ou;rw[lH,Wv j];simp
   rw[e];refine aJ (TW.t (bV (bN (bP (aD h (b.mono .b) rfl .B g))) λ_=>(bV (c':=Á) (ay b8 (aY rfl B.len (ik (ks:=ks) .B)) (aY rfl B.len .A)) λz=>absurd z (by simp;lia)))) (λa=>?_) (λa=>?_)
   .exact ar dh rfl
   .rw[q1] at a;simp at a;lia
def An(row zs:List Int):Int:=((row.zip zs).map λu=>u.1*u.2*u.2).sum
noncomputable def Fz(row:List Int)(z:Dt):Bool:=match z.d with
 |.list ds=>decide (ds.length=row.length)&&(ds.map Dt.mk).all jS&&((ds.map Na).any (λx=>!decide (x=0))&&decide (An row (ds.map Na)=0))
 |_=>Á
def Zk(d:Ï):Prop:=∀ds,d=.list ds->ds.length<=1000/\∀k,ç k∈ds->k.natAbs<2^60
theorem BY:∀{ds:List Ï},(ds.map Dt.mk).all jS=Â->∃ks:List Int,ds=ks.map .int
 |[],_=>#[[],rfl]
 |d::ds,h=>by
  rw[Wb,Yf,WA] at h;obtain⟨ks,a⟩:=BY h.2;cases d with
  |int k=>exact#[k::ks,by rw[a];rfl]
  |_=>exact absurd h.1 (by simp[jS])
theorem wX:∀ks:List Int,((ks.map ç).map Dt.mk).all jS=Â
 |[]=>rfl
 |k::ks=>by rw[Wb,Wb,Yf,wX ks];rfl
theorem A_:∀ks:List Int,(ks.map ç).map Na=ks
 |[]=>rfl
 |k::ks=>by rw[Wb,Wb,A_ ks];rfl
def xA(row ks:List Int):Fz row #[.list (ks.map .int)]=(decide (ks.length=row.length)&&(ks.any (λx=>!decide (x=0))&&decide (An row ks=0))):=by
 show(decide ((ks.map ç).length=row.length)&&((ks.map ç).map Dt.mk).all jS&&(((ks.map ç).map Na).any (λx=>!decide (x=0))&&decide (An row ((ks.map ç).map Na)=0)))=_;rw[wX,A_,V2,aai]
def vP{row ks:List Int}(d:∀x∈row,x.natAbs<1073741824)(b:∀x∈ks,x.natAbs<2^60){u:Int×Int}(h:(row.zip ks)[i]?=À u):Ċ u.1 u.2/\Ċ (u.1*u.2) u.2:=by
 obtain⟨m1,m2⟩:=iY (Wq h);have a:Sm 30 u.1:=d _ m1;have c:Sm 60 u.2:=b _ m2;exact#[a.ok c,(a.mul c).ok c]
def C0(v:⇑Vx)(row:List Int)(z:Dt)(k:aW row=Â)(hz:Zk z.d):⇑Body fk "is_zero" eM f 1 [.val Á row,.val Á z] (RT Â (Fz row z)):=by
 intro j A outer s H E o;obtain⟨d⟩:=z
 have no:DM d=Á->Fz row #[d]=Á->S (⇑cx fk "is_zero" eM f j A outer s H E) (wO fk [.val Á row,.val Á (Dt.mk d)]) (aU eM) (RT Â (Fz row #[d])):=λm p=>by
  rw[p];refine aJ (TW.t (bV (c':=Á) (bN (bP (iC rfl B.isinstance rfl B.list .B))) λz=>absurd z (by rw[m];decide))) (λa=>?_) (λa=>?_)
  .exact ar dh rfl
  .rw[m] at a;cases a
 cases d with
 |list ds =>
  obtain⟨y,h1⟩:=hz ds rfl;have D:=aM k;refine aJ (TW.t (bV (bN (bP (iC rfl B.isinstance rfl B.list .B))) λ_=>(bV (ay b8 (aY rfl B.len (fW .B)) (aY rfl B.len .A)) λ_=>(di (bN (bP (pM rfl rfl B.all (bC (f:=jS) ["x"] [] (aX (ah eM) fk rfl rfl .d) (bh (fW .B)) (aT 0) (λC s H fp=>bD 0 ["x"]) aP (λi u c C s H fp=>aD v (o.mono .b) rfl .A É) (by rwa[V2]))))))))) (λa=>?_) (λa=>?_)
  .have e:Fz row #[.list ds]=Á:=by
    rw[Yd,V2] at a;show(decide (ds.length=row.length)&&(ds.map Dt.mk).all jS&&_)=Á;by_cases q:(ds.length:Int)=row.length
    .have:(ds.map Dt.mk).all jS=Á:=by
      refine XX.mpr λr=>?_;have h:(ds.map Dt.mk).all (id∘jS)=Â:=r;rw[h,Wr q] at a;exact absurd a (by simp[DM])
     rw[this,Xa,XN]
    .rw[Wv .a,XN,XN]
   rw[e];exact ar dh rfl
  .rw[Yd,V2] at a
   have q:ds.length=row.length:=by
    by_cases q:ds.length=row.length
    .exact q
    .rw[Wv (show ¬(ds.length:Int)=row.length by lia)] at a;exact absurd a (by simp[DM])
   have n:(ds.map Dt.mk).all jS=Â:=by
    cases r:(ds.map Dt.mk).all jS with
    |true=>rfl
    |false =>
     have h:(ds.map Dt.mk).all (id∘jS)=Á:=r;rw[h] at a;exact absurd a (by simp[DM])
   obtain⟨ks,rfl⟩:=BY n;rw[V2] at q;have l:∀x∈ks,x.natAbs<2^60:=λx g=>h1 x (Yi g);have b:∀x∈row,x.natAbs<1073741824:=λx g=>(de k g).2;refine ar (cE (JX rfl rfl B.any (bC (f:=λx:Int=>!decide (x=0)) ["x"] [] (aX (ah eM) fk rfl rfl .d) (bh (ik .B)) (aT 0) (λC s H fp=>bD 0 ["x"]) aP (λi u c C s H fp=>bx b8 .A ag) .a)) λ_=>(c8 (bx aB (xQ rfl rfl B.sum (bC (b':=Â) (f:=λu:Int×Int=>u.1*u.2*u.2) ["a","x"] [] (aX (ah eM) fk rfl rfl .d) (oE rfl B.zip .A (ik .B)) (iu 0 1) (λC s H fp=>jA 0 1 ["a","x"]) dP (λi u c C s H fp=>aH (aH .A .B (vP b l c).1) .B (vP b l c).2) (by rw[X0];lia))) ag))) ?_;show Bd.val _ _=Bd.val _ _;congr 1;rw[xA,Wr q,Xb,ϒ];rfl
 |_=>exact no rfl rfl
def Xk(d:Ï):Prop:=∀ds,d=.list ds->ds.length<=1000/\∀u:Fr,iL u∈ds->Sm 20 u.1/\Sm 10 u.2
def Nq(d:Ï):List Fr:=match d with
 |.list ds=>ds.map λe=>match e with|.tuple [.int a,.int b]=>(a,b)|_=>(0,1)
 |_=>[]
def Bw(us:List Fr):Nq (.list (us.map iL))=us:=by
 show(us.map iL).map _=us;rw[W8];exact aaV (λ_=>rfl) us
def tu(row:List Int):Prop:=aW row=Â/\∀a∈row,Sm 20 a
def tu.st{row:List Int}(h:tu row):K4 row.length (bL row):=by
 have d:=aM h.1
 have al:Ds (hV row).length (λu=>cW u/\Sm 20 u.1/\Sm 10 u.2) (yP (hV row)):=Bh #[rR,by show(0:Int).natAbs<2^20;decide,by show(1:Int).natAbs<2^10;decide] λu a=>by
  obtain⟨k,c,rfl⟩:=V3.mp a;exact#[#[by show(1:Int)<=1;decide,by show Ì k 1=1;exact aat k],h.2 k c,by show(1:Int).natAbs<2^10;decide]
 have e:(hV row).length=row.length:=V2 ..;rw[e] at al;exact#[al.sq λu q=>q.1,d.2,λr b u a=>(al.all r b u a).2.1,λr b u a=>(al.all r b u a).2.2]
noncomputable def BC(row:List Int)(c x:Dt):Bool:=jS c&&(gp x (row.length:Int)&&decide (Kn (bL row) (Nq x.d)=(Na c.d,1)))
def MN{us:List Fr}(b:Xk (.list (us.map iL)))(d:us.length=n)(c:n<=8)(a:∀u∈us,cW u):IY us:=by
 obtain⟨_,h⟩:=b _ rfl;exact#[.a,a,λu q=>(h u (Yi q)).1,λu q=>(h u (Yi q)).2]
def C5(i:⇑Vx)(n:⇑Vz)(p:⇑aK 6 "value" ["F","x"] (bO K N2 Â Kn))(q:⇑VC)
  (row:List Int) (c x:Dt) (m:tu row) (h:Xk x.d):⇑Body uP "come_to" ow f 6 [.val Á row,.val Á c,.val Á x] (RT Â (BC row c x)):=by
 intro r A outer s H E a;have l:=aM m.1;obtain⟨c⟩:=c;obtain⟨x⟩:=x;cases q1:jS #[c] with
 |false =>
  have e:BC row #[c] #[x]=Á:=by unfold BC;rw[q1];rfl
  rw[e];refine ar (cE (c':=Á) (b2:=Â) (aD i (a.mono .b) rfl .B É) λz=>absurd z (by rw[q1];decide)) ?_;rw[q1];rfl
 |true =>
  cases b:gp #[x] (row.length:Int) with
  |false =>
   have e:BC row #[c] #[x]=Á:=by unfold BC;rw[q1,b];rfl
   rw[e];refine ar (cE (aD i (a.mono .b) rfl .B É) λ_=>(cE (c':=Á) (b2:=Â) (av n (a.mono .b) rfl .C (aY rfl B.len .A) (λds e=>(h ds e).1)) λz=>absurd z (by rw[b];decide))) ?_;rw[q1,b];rfl
  |true =>
   obtain⟨k,rfl⟩:=ve q1;obtain⟨us,rfl,h1,h2⟩:=Ky b;have j:us.length=row.length:=by lia
   have o:=MN h j l.2 h2;have pv:N2 (bL row) us:=Q0 m.st o.g .b .b;refine ar (cE (aD i (a.mono .b) rfl .B É) λ_=>(cE (av n (a.mono .b) rfl .C (aY rfl B.len .A) (λds e=>(h ds e).1)) λ_=>(c8 (bx (xc (M:=Fr) (gM a)) (av p (a.mono .b) rfl (aD q (a.mono .b) rfl .A l.2) (Hw (us:=us) .C) pv) (a7 (fh (k:=k) .B) ag))))) ?_;show Bd.val _ _=Bd.val _ _;congr 1;unfold BC;rw[Bw];rfl
def yR(row:List Int)(p:Int):Bool:=if 32768<=p then Á else if p=0 then !jR row 0 else bg p&&!jR (row.map lI) p
def IE(row:List Int)(z:Dt):Bool:=match z.d with
 |.int p=>yR row p
 |_=>Á
def sS{row:List Int}(h:aW row=Â):aW (row.map lI)=Â/\∀a∈row.map lI,mC a:=by
 have f:=aM h
 have d:∀a∈row,mC (lI a)/\lI a≠0/\(lI a).natAbs<1073741824:=λa ha=>by
  have h1:=de h ha;have h2:=MC h1.1 h1.2;obtain⟨s,e,_⟩:=AG h1.1 h1.2;exact#[e,h2.1,.a]
 refine#[E_ (by rw[V2];lia) (by rw[V2];lia) λa ha=>?_,λa ha=>?_]<;>obtain⟨b,c,rfl⟩:=V3.mp ha
 .exact(d b c).2
 .exact(d b c).1
abbrev VD(P w K mg base):=aK P w K mg base 10 "zero_by" ["row","p","k"] (C3 K P6 Â (λrow p k r=>Ip row p k r))
include B in
theorem wR(R:sY mg "GREAT_PRIMES_FROM" 32768)(F:⇑Vx)(L:⇑aK 7 "have_zero" ["numbers","p"] (bO K Qt Â jR))(Γ:⇑aK 3 "is_prime" ["k"] (dU K (λk=>k<2^62) Â bg))(O:⇑aK 6 "free_of" ["k"] (dU K QC Â lI))(I:⇑VD)(row:List Int)(z:Dt)(n:aW row=Â):
  Body P w K mg base fV "is_barred" eK f 10 [.val Á row,.val Á z] (RT Â (IE row z)):=by
 intro q A outer s H E j;obtain⟨d⟩:=z;have G:=aM n
 have no:jS #[d]=Á->IE row #[d]=Á->S (⇑cx fV "is_barred" eK f q A outer s H E) (wO fV [.val Á row,.val Á (Dt.mk d)]) (aU eK) (RT Â (IE row #[d])):=λD α=>by
  rw[α];refine aJ (TW.t (bV (c':=Á) (bN (bP (aD F (j.mono .b) rfl .B É))) λz=>absurd z (by rw[D];decide))) (λc=>?_) (λc=>?_)
  .exact ar dh rfl
  .rw[D] at c;cases c
 cases d with
 |int p =>
  show S _ _ _ (RT Â (yR row p));refine aJ (TW.t (bV (bN (bP (aD F (j.mono .b) rfl .B É))) λ_=>(di (ay Ei (fh (k:=p) .B) (lL rfl R))))) (λc=>?_) (λc=>?_)
  .have h:32768<=p:=by simpa [jS] using c
   rw[show yR row p=Á from V6 h];exact ar dh rfl
  have h:¬32768<=p:=by simpa [jS] using c
  have V:yR row p=if p=0 then !jR row 0 else bg p&&!jR (row.map lI) p:=V4 h
  rw[V];refine aJ (ay aB (fh (k:=p) .B) ag) (λc=>?_) (λc=>?_)
  .have v:p=0:=by simpa using c
   rw[V6 v];exact ar (uy (av L (j.mono .b) rfl .A ag #[G.1,v_ n,.inl rfl])) rfl
  have v:¬p=0:=by simpa using c
  rw[V4 v];obtain⟨x,y⟩:=sS n;have T:=aM x;refine ar (cE (c':=!jR (row.map lI) p) (b2:=Â) (aD Γ (j.mono .b) rfl (fh (k:=p) .B) .a) λg=>?_) rfl;have p2:=aA g;have nl:∀(K:Ã) (N:Nn) (H:Hp) (a:List Int),¬Py.rp K N H .non a:=λK N H a h=>by obtain⟨_,_,e,_⟩:=h;cases e
  have on:On p (row.map lI):=λa ha=>(y a ha).on p2;have m4:p=2->∀a∈row.map lI,a%4≠0:=λ_ a ha=>(y a ha).m4
  have kk:(p=2/\4<=(if decide (p=2)=Â then (4:Int) else 2))\/(p≠2/\2<=(if decide (p=2)=Â then (4:Int) else 2)):=by
   by_cases z:p=2
   .exact .inl #[z,by rw[V6 ↑z];decide]
   .exact .inr #[z,by rw[V4 ↑z];decide]
  have m:1<=(if decide (p=2)=Â then (4:Int) else 2)/\(if decide (p=2)=Â then (4:Int) else 2)<=12:=by split<;>decide
  refine c8 (Mg (M:=List Int) (b1:=Â) (post:=λr=>Ip (row.map lI) p (if decide (p=2)=Â then (4:Int) else 2) r) ?_ nl λr l=>?_)
  .refine Kb (yk I (j.mono .b) rfl (bC (b':=Â) (f:=lI) ["k"] [] (aX (ah eK) fV rfl rfl .d) (bh .A) (aT 0) (λC s H fp=>bD 0 ["k"]) aP (λi u J C s H fp=>?_) .a) (fh (k:=p) .B) (j4 (ay aB (fh (k:=p) .B) ag) (λ_=>ag) λ_=>ag) #[x,g,.a,m.1,m.2,on,m4]) λr h=>h;have o:=de n (Wq J);exact aD O (j.mono .b) rfl .A #[o.1,by unfold Sm;lia,AL .a .a]
  .have e:=O0 g kk on m4 T.1;cases r with
   |none =>
    have b:¬PZ (row.map lI) p (p^(if decide (p=2)=Â then (4:Int) else 2).toNat):=l;rw[e] at b;show Â=_;rw[XX.mpr b];rfl
   |some zs =>
    have b:PZ (row.map lI) p (p^(if decide (p=2)=Â then (4:Int) else 2).toNat):=Q.GZ.pz l;rw[e] at b;show Á=_;rw[b];rfl
 |_=>exact no rfl rfl
def wy(r:List Int)(s:List Dt)(c:s=[]):⇑Body mD "row_behind" jz f kk [.val Á r,.val Á s] (RT Â r):=by
 intro d A outer e H E g;subst c;refine ao 2 iU.nd (JE rfl B.list .A) ?_;refine oK (xs:=([]:List Dt)) (λi U=>∃b,U=[À (.val Á r),À (.val Á ([]:List Dt)),À (.val Â r),b]) (bW 3 iU.nd) .B #[none,rfl] ?_ ?_
 .rintro i a U' ha _;cases ha
 .rintro U' ⟨b,rfl⟩;exact ar .C rfl
def Ny(_:List Int)(o x:Dt):Prop:=Ln o.d/\∀ds,x.d=.list ds->ds=[]
noncomputable def AK(row:List Int)(o x:Dt):Bool:=cH o&&match x.d with
 |.list []=>decide (row=inD o.d)
 |_=>Á
abbrev VE(P w K mg base):=aK P w K mg base 1 "row_behind" ["row","steps"] (bO K (fun(_:List Int) (s:List Dt)=>s=[]) Â (λr _=>r))
def nN(e:⇑VA)(k:⇑VE)(row:List Int)(o x:Dt)(hp:Ny row o x):⇑Body cu "is_led_by_steps" bS f 3 [.val Á row,.val Á o,.val Á x] (RT Â (AK row o x)):=by
 intro g A outer j H E b;obtain⟨c,m⟩:=hp;obtain⟨o⟩:=o;obtain⟨d⟩:=x;cases q1:cH #[o] with
 |false =>
  rw[show AK row #[o] #[d]=Á by unfold AK;rw[q1];rfl];refine aJ (TW.t (bV (c':=Á) (bN (bP (aD e (b.mono .b) rfl .B c))) λz=>absurd z (by rw[q1];decide))) (λa=>?_) (λa=>?_)
  .exact ar dh rfl
  .rw[q1] at a;cases a
 |true =>
  have no:DM d=Á->AK row #[o] #[d]=Á->S (⇑cx cu "is_led_by_steps" bS f g A outer j H E) (wO cu [.val Á row,.val Á (Dt.mk o),.val Á (Dt.mk d)]) (aU bS) (RT Â (AK row #[o] #[d])):=λh l=>by
   rw[l];refine aJ (TW.t (bV (bN (bP (aD e (b.mono .b) rfl .B c))) λ_=>(bV (c':=Á) (bN (bP (iC (d:=d) rfl B.isinstance rfl B.list .C))) λz=>absurd z (by rw[h];decide)))) (λa=>?_) (λa=>?_)
   .exact ar dh rfl
   .rw[q1,h] at a;cases a
  cases d with
  |list ds =>
   cases m ds rfl;obtain⟨ks,rfl,p⟩:=zy q1;refine aJ (TW.t (bV (bN (bP (aD e (b.mono .b) rfl .B c))) λ_=>(bV (bN (bP (iC (d:=.list []) rfl B.isinstance rfl B.list .C))) λ_=>(di (bN (bP (pM rfl rfl B.all (bC (M:=Dt) (as:=[]) (b':=Â) (f:=λ_:Dt=>Â) ["step"] [] (aX (ah bS) cu rfl rfl .d) (bh (fW (ds:=[]) .C)) (aT 0) (λC s H fp=>bD 0 ["step"]) aP (λi u n C s H fp=>nomatch n) .b)))))))) (λa=>?_) (λ_=>?_)
   .rw[q1] at a;cases a
   .refine G0 (ar (bx (xc (M:=List Int) (gM b)) (av k (b.mono .b) rfl .A (fW (ds:=[]) .C) rfl) (ik (ks:=ks) .B)) ?_);show Bd.val _ _=Bd.val _ _;congr 1;unfold AK;rw[q1,lH];rfl
  |_=>exact no rfl (by unfold AK;rw[q1];rfl)
def C6(row:List Int)(x:Dt):Bool:=match x.d with
 |.int k=>decide (0<=2*k/\2*k<=(row.length:Int))&&(iM k.toNat).all (λi=>decide (row.getD (2*i).toNat 0=-row.getD (2*i+1).toNat 0))
 |_=>Á
def m_(j:⇑Vx)(row:List Int)(x:Dt)(m:aW row=Â):⇑Body cv "has_pairs_ahead" bU f 1 [.val Á row,.val Á x] (RT Â (C6 row x)):=by
 intro c A outer l H E g;obtain⟨d⟩:=x;have q:=aM m
 have no:jS #[d]=Á->C6 row #[d]=Á->S (⇑cx cv "has_pairs_ahead" bU f c A outer l H E) (wO cv [.val Á row,.val Á (Dt.mk d)]) (aU bU) (RT Â (C6 row #[d])):=λh p=>by
  rw[p];refine aJ (TW.t (bV (c':=Á) (bN (bP (aD j (g.mono .b) rfl .B É))) λz=>absurd z (by rw[h];decide))) (λa=>?_) (λa=>?_)
  .exact ar dh rfl
  .rw[h] at a;cases a
 cases d with
 |int k =>
  refine aJ (TW.t (bV (bN (bP (aD j (g.mono .b) rfl .B É))) λ_=>(di (bN (qg lE lE ag (aH ag (fh (k:=k) .B) (mulL .b .b)) (aY rfl B.len .A)))))) (λa=>?_) (λa=>?_)
  .have b:¬(0<=2*k/\2*k<=(row.length:Int)):=by
    simp[jS] at a;lia
   have e:C6 row #[.int k]=Á:=by show(decide _&&_)=Á;rw[Wv b];rfl
   rw[e];exact ar dh rfl
  .have b:0<=2*k/\2*k<=(row.length:Int):=by
    simp[jS] at a;lia
   refine ar (pM rfl rfl B.all (bC (b':=Â) (f:=λi:Int=>decide (row.getD (2*i).toNat 0=-row.getD (2*i+1).toNat 0)) ["i"] [0] (aX (ah bU) cv rfl rfl .d) (cO rfl B.range (fh (k:=k) .B) .a .a) (aT 0) (λC s H fp=>bD 0 ["i","row"]) aP (λi u o C s H fp=>?_) (by rw[bz];lia))) ?_
   .have r:=cI (by rw[<-dN];exact bw o);exact bx aB (bp .B (aH ag .A (mulL .b .b)) (E1 (d:=0) (n:=row.length) .a .a rfl)) (gn (bp .B (bt (aH ag .A (mulL .b .b)) ag) (E1 (d:=0) (n:=row.length) .a .a rfl)))
   .rw[dN];show Bd.val _ _=Bd.val _ _;congr 1;show _=(decide _&&_);rw[Wr b,Xb,Yd];rfl
 |_=>exact no rfl rfl
def kE(k:Dt)(y:Í):Bool:=ü k.d (.str y)
def PK(k:Dt):Prop:=k.d.canLay0=Â/\k.d.depth<=60
def BS(row:List Int)(k z:Dt):Prop:=aW row=Â/\PK k/\(kE k "zero"=Â->Zk z.d)
def DF(row:List Int)(k z:Dt):Bool:=if kE k "zero"=Â then Fz row z else kE k "none"&&IE row z
abbrev VG(P w K mg base):=aK P w K mg base 11 "is_barred" ["row","p"] (bO K (fun(r:List Int) (_:Dt)=>aW r=Â) Â IE)
abbrev VF(P w K mg base):=aK P w K mg base 2 "is_zero" ["row","zero"] (bO K (fun(r:List Int) (z:Dt)=>aW r=Â/\Zk z.d) Â Fz)
include B in
theorem tM(g:⇑VF)(h:⇑VG)(row:List Int)(k z:Dt)(hp:BS row k z):⇑Body lJ "lets_two_by" iA f 11 [.val Á row,.val Á k,.val Á z] (RT Â (DF row k z)):=by
 intro i A outer s H E b;obtain⟨d⟩:=k;obtain⟨c,⟨l,e⟩,hz⟩:=hp;refine aJ (ay (rF (d:=d) (gM b) l .d e) .B (bj aR)) (λa=>?_) (λa=>?_)
 .rw[show DF row #[d] z=Fz row z from V6 a];exact ar (av g (b.mono .b) rfl .A .C #[c,hz a]) rfl
 .rw[show DF row #[d] z=(kE #[d] "none"&&IE row z) from V4 (by rw[show kE #[d] "zero"=Á from a];decide)];exact ar (cE (b2:=Â) (bx (rF (d:=d) (gM b) l .d e) .B (bj aR)) λ_=>(c8 (av h (b.mono .b) rfl .A .C c))) rfl
def qy(row:List Int)(k c x:Dt):Prop:=aW row=Â/\PK k/\(kE k "makes"=Â->tu row/\Xk x.d)/\(kE k "change"=Â->II row c x)/\(kE k "steps"=Â->Ny row c x)
def Dq(row:List Int)(k c x:Dt):Bool:=if kE k "makes"=Â then BC row c x else if kE k "change"=Â then ou row c x else kE k "steps"&&AK row c x
abbrev VJ(P w K mg base):=aK P w K mg base 4 "is_led_by_steps" ["row","other","steps"] (nV K (fun(r:List Int) (o x:Dt)=>Ny r o x) Â AK)
abbrev VI(P w K mg base):=aK P w K mg base 7 "is_led" ["row","other","T"] (nV K II Â ou)
abbrev VH(P w K mg base):=aK P w K mg base 7 "come_to" ["row","c","x"] (nV K (fun(r:List Int) (_ x:Dt)=>tu r/\Xk x.d) Â BC)
include B in
theorem qa(h:⇑VH)(n:⇑VI)(i:⇑VJ)(row:List Int)(k c x:Dt)(hp:qy row k c x):⇑Body jV "lets_three_by" f_ f 7 [.val Á row,.val Á k,.val Á c,.val Á x] (RT Â (Dq row k c x)):=by
 intro j A outer s H E a;obtain⟨d⟩:=k;obtain⟨o,⟨l,g⟩,h1,h2,m⟩:=hp;refine aJ (ay (rF (d:=d) (gM a) l .d g) .B (bj aR)) (λb=>?_) (λb=>?_)
 .rw[show Dq row #[d] c x=BC row c x from V6 b];exact ar (bZ h (a.mono .b) rfl .A .C .D (h1 b)) rfl
 refine aJ (ay (rF (d:=d) (gM a) l .d g) .B (bj aR)) (λe=>?_) (λe=>?_)
 .rw[show Dq row #[d] c x=ou row c x from (V4 (by rw[show kE #[d] "makes"=Á from b];decide)).trans (V6 e)];exact ar (bZ n (a.mono .b) rfl .A .C .D (h2 e)) rfl
 .rw[show Dq row #[d] c x=(kE #[d] "steps"&&AK row c x) from (V4 (by rw[show kE #[d] "makes"=Á from b];decide)).trans (V4 (by rw[show kE #[d] "change"=Á from e];decide))];exact ar (cE (b2:=Â) (bx (rF (d:=d) (gM a) l .d g) .B (bj aR)) λz=>(c8 (bZ i (a.mono .b) rfl .A .C .D (m z)))) rfl
def QL(row:List Int):List Ï->Prop
 |[_]=>True
 |[k,z]=>BS row #[k] #[z]
 |[k,c,x]=>qy row #[k] #[c] #[x]
 |[k,_,o,x]=>PK #[k]/\II row #[o] #[x]
 |_=>False
def DO(row:List Int)(p:Dt):Prop:=aW row=Â/\∃ds,p.d=.tuple ds/\QL row ds
def N3(row:List Int):List Ï->Bool
 |[k,z]=>DF row #[k] #[z]
 |[k,c,x]=>Dq row #[k] #[c] #[x]
 |[k,a,o,x]=>kE #[k] "pairs"&&(ou row #[o] #[x]&&C6 (inD o) #[a])
 |_=>Á
def BW(row:List Int)(p:Dt):Bool:=match p.d with
 |.tuple ds=>N3 row ds
 |_=>Á
abbrev VN(P w K mg base):=aK P w K mg base 2 "has_pairs_ahead" ["row","k"] (bO K (fun(r:List Int) (_:Dt)=>aW r=Â) Â C6)
abbrev VM(P w K mg base):=aK P w K mg base 8 "lets_three_by" ["row","kind","thing","last"] (BG K (fun(r:List Int) (k c x:Dt)=>qy r k c x) Â Dq)
abbrev VL(P w K mg base):=aK P w K mg base 12 "lets_two_by" ["row","kind","thing"] (nV K (fun(r:List Int) (k z:Dt)=>BS r k z) Â DF)
def Ck(D:⇑Vn)(u:⇑VL)(F:⇑VM)(I:⇑VI)(y:⇑VN)(row:List Int)(p:Dt)(hp:DO row p):⇑Body oA "lets_by" kO f 12 [.val Á row,.val Á p] (RT Â (BW row p)):=by
 intro J A outer s H E i;obtain⟨n⟩:=p;obtain⟨v,ds,e,h⟩:=hp;have G:n=.tuple ds:=e;subst G;show S _ _ _ (RT Â (N3 row ds));refine Ex (aD D (i.mono .b) rfl .A v) ?_;refine aJ (bN (bP (Ac (d:=.tuple ds) rfl B.isinstance rfl B.tuple .B))) (λb=>nomatch b) (λ_=>?_);refine aJ (ay aB (qK rfl B.len (cP (ds:=ds) .B)) ag) (λb=>?_) (λh2=>?_)
 .match ds,h,b with
  |[k,z],h,_=>exact ar (bZ u (i.mono .b) rfl .A (eE (a:=Dt.mk k) (cP (ds:=[k,z]) .B) ag rfl) (eE (a:=Dt.mk z) (cP (ds:=[k,z]) .B) ag rfl) h) rfl
  |[_],_,b=>exact nomatch b
  |[_,_,_],_,b=>exact nomatch b
  |[_,_,_,_],_,b=>exact nomatch b
 refine aJ (ay aB (qK rfl B.len (cP (ds:=ds) .B)) ag) (λb=>?_) (λm=>?_)
 .match ds,h,b with
  |[k,c,x],h,_=>exact ar (gA F (i.mono .b) rfl .A (eE (a:=Dt.mk k) (cP (ds:=[k,c,x]) .B) ag rfl) (eE (a:=Dt.mk c) (cP (ds:=[k,c,x]) .B) ag rfl) (eE (a:=Dt.mk x) (cP (ds:=[k,c,x]) .B) ag rfl) h) rfl
  |[_],_,b=>exact nomatch b
  |[_,_],_,b=>exact nomatch b
  |[_,_,_,_],_,b=>exact nomatch b
 match ds,h,h2,m with
 |[_,_],_,h2,_=>exact nomatch h2
 |[_,_,_],_,_,m=>exact nomatch m
 |[k],_,_,_ =>
  refine aJ (TW.t (bV (c':=Á) (ay b8 (qK rfl B.len (cP (ds:=[k]) .B)) ag) λz=>nomatch z)) (λ_=>?_) (λb=>nomatch b);exact ar dh rfl
 |[k,a,o,x],⟨⟨l,C⟩,r⟩,_,_ =>
  refine aJ (TW.t (bV (ay b8 (qK rfl B.len (cP (ds:=[k,a,o,x]) .B)) ag) λ_=>(di (ay (MR (d:=k) (c:=.str "pairs") (gM i) l .d C) (eE (a:=Dt.mk k) (cP (ds:=[k,a,o,x]) .B) ag rfl) (bj aR))))) (λb=>?_) (λb=>?_)
  .have j:kE #[k] "pairs"=Á:=by
    have g:(Á || !kE #[k] "pairs")=Â:=b;simpa using g
   rw[show N3 row [k,a,o,x]=Á by show(kE #[k] "pairs"&&_)=Á;rw[j];rfl];exact ar dh rfl
  .have j:kE #[k] "pairs"=Â:=by
    have g:(Á || !kE #[k] "pairs")=Á:=b;simpa using g
   rw[show N3 row [k,a,o,x]=(ou row #[o] #[x]&&C6 (inD o) #[a]) by show(kE #[k] "pairs"&&_)=_;rw[j];rfl];refine ar (cE (c':=C6 (inD o) #[a]) (b2:=Â) (bZ I (i.mono .b) rfl .A (eE (a:=Dt.mk o) (cP (ds:=[k,a,o,x]) .B) ag rfl) (eE (a:=Dt.mk x) (cP (ds:=[k,a,o,x]) .B) ag rfl) r) λq=>?_) rfl
   obtain⟨ks,rfl,j⟩:=zy (show cH #[o]=Â by
    unfold ou at q
    exact(Xh.mp q).1)
   rw[lH];exact c8 (av y (i.mono .b) rfl (ik (ks:=ks) (eE (a:=Dt.mk (.list (ks.map .int))) (cP (ds:=[k,a,.list (ks.map .int),x]) .B) ag rfl)) (eE (a:=Dt.mk a) (cP (ds:=[k,a,.list (ks.map .int),x]) .B) ag rfl) j)
def se(r:Dt):Prop:=Ln r.d/\cH r=Á
section
variable{cF cT cN cR cS:Æ}(xs:Xs K mg cF cT cN cR cS)
include xs in
theorem Dy(a:⇑VA)(r:Dt)(hp:se r):⇑w8 gb "refuse_no_row" eA f 3 [.val Á r] cR:=by
 intro b A outer s H E R d c;exact L8 (x8 (bN (bP (aD a (d.mono .b) rfl .A hp.1))) (by rw[hp.2];rfl)) (Ek (c _) rfl xs.mR xs.r.rz)
end
def zC{cR:Æ}(a:⇑Am 4 "refuse_no_row" ["row"] (IU K se cR))(r p:Dt)(hp:se r):⇑w8 oA "lets_by" kO f 4 [.val Á r,.val Á p] cR:=by
 intro b A outer s H E R d c;exact yr (Fy a (c _) (d.mono .b) rfl .A hp)
def Kf(c k j:Int):Int:=(c*(48271+2*j)+(j+5)*(j+k+2)*69621).fmod 2147483647
def Br(c k:Int):Nat->Int
 |0=>0
 |i+1=>Br c k i*2147483659+(Kf c k i*Kf c k i).fmod 2147483629
noncomputable def rY(xs:List Int)(k:Int):Int:=if k<(xs.length:Int) then xs.getD k.toNat 0 else 0
def deep(xs:List Int)(k:Int):Int:=if rY xs k<0\/10^18<=rY xs k then rY xs k else Br (rY xs k) k 12
def zL(xs:List Int)(k:Int)(l:0<=k)(h1:k<=100):⇑Body lX "_law_deep" gX f kk [.val Á xs,.val Á k] (RT Â (deep xs k)):=by
 intro j A outer s H E o;refine ao 2 dC.nd ag ?_
 have last:∀b c,c=rY xs k->S (⇑cx lX "_law_deep" gX f j A outer s H E) [À (.val Á xs),À (.val Á k),À (.val b c),none,none,none] ((aU gX).drop 2) (RT Â (deep xs k)):=by
  intro b c he;refine aJ (TW.t (bV (ay fS .C ag) λ_=>(di (ay Ei .C (Ou ag ag Rf))))) (λg=>?_) (λg=>?_)
  .have e:c<0\/10^18<=c:=by simpa using g
   have e2:c=deep xs k:=by unfold deep;rw[<-he,V6 e]
   rw[<-e2];exact ar (dR .C) rfl
  .have e:¬(c<0\/10^18<=c):=by simpa using g
   refine ao 3 dC.nd ag ?_;refine b_ (λi U=>∃r h,U=[À (.val Á xs),À (.val Á k),À (.val b c),À (.val Â (Br c k i)),r,h]) rfl B.range (bW 4 dC.nd) ag .b .b #[none,none,rfl] ?_ ?_
   .rintro i U' hi ⟨r,h,rfl⟩;have m:i<12:=hi;have n:=d_ (a:=c*(48271+2*(i:Int))+((i:Int)+5)*(i+k+2)*69621) (b:=2147483647) .b;refine ao 5 dC.nd (aS (bt (aH .C (bt ag (aH ag (ae 4) (mulL .b .b))) (mulR .a .a)) (aH (aH (bt (ae 4) ag) (bt (bt (ae 4) .B) ag) (mulL .a .a)) ag (mulR .b .b))) ag .b) ?_;refine ao 3 dC.nd (bt (aH .D ag (mulR .b .b)) (aS (aH (ae 5) (ae 5) (mulL .a .a)) ag .b)) ?_;exact aO #[_,_,rfl]
   .rintro U' ⟨r,h,rfl⟩;have e2:Br c k 12=deep xs k:=by unfold deep;rw[<-he,V4 e]
    rw[<-e2];exact ar .D rfl
 refine aJ (ay fS .B (aY rfl B.len .A)) (λg=>?_) (λg=>?_)
 .have e:k<(xs.length:Int):=by simpa using g
  refine ao 2 dC.nd (bp .A .B (o4 (d:=0) l e)) (aO ?_);exact last _ _ (by unfold rY;rw[V6 e])
 .have e:¬k<(xs.length:Int):=by simpa using g
  exact last _ _ (by unfold rY;rw[V4 e])
def CP{x:Int}(h:x<4):decide (1<x)=bg x:=by
 rw[WW,cg,WM];constructor
 .intro z;by_cases h2:x=2
  .exact .inl h2
  .refine .inr #[.a,.a,λd a b=>?_];have:3*3<=d*d:=Bk .b a;lia
 .rintro(z|z)<;>lia
def wV(x:Int)(m:x<2^62):⇑Body pE "_law_prime" ky f kk [.val Á x] (RT Â (bg x)):=by
 intro k A outer s H E o;refine aJ (ay fS .A ag) (λa=>?_) (λa=>?_)
 .have b:x<4:=by simpa using a
  refine ar (bx kI .A ag) ?_;show Bd.val _ _=Bd.val _ _;rw[CP b]
 have n:4<=x:=by simpa using a
 refine aJ (ay aB (aS .A ag .b) ag) (λa=>?_) (λa=>?_)
 .have h2:x%2=0:=by
   have:x.fmod 2=0:=by simpa using a
   rwa [Xf x .b] at this
  have e:bg x=Á:=by
   cases hp:bg x with
   |false=>rfl
   |true=>rcases Q.cg.mp hp with z|z<;>lia
  rw[e];exact ar dh rfl
 have h2:x%2=1:=by
  have:¬x.fmod 2=0:=by simpa using a
  rw[Xf x .b] at this;lia
 refine ao 1 jx.nd ag ?_;refine cX (ι:=Int) (λd U=>U=[À (.val Á x),À (.val Â d)]/\3<=d/\d<=x+2/\d%2=1/\∀e:Int,3<=e->e<d->e%2=1->¬e∣x) (λd=>(x+3-d).toNat) 3 #[rfl,.b,.a,.b,λe h1 h2=>by lia] ?_;rintro d U' ⟨rfl,i,dx,c,j⟩;refine#[_,ay lE (aH .B .B (mulL .a .a)) .A,λa=>?_,λa=>?_]
 .have b:d*d<=x:=by simpa using a
  have l:d<=x:=by
   have:3*d<=d*d:=W_ i (XE d) .a .a;lia
  refine aJ (ay aB (aS .A .B .a) ag) (λa=>?_) (λa=>?_)
  .have g:d∣x:=Q.fM.mp ↑a
   have e:bg x=Á:=by
    cases hp:bg x with
    |false=>rfl
    |true =>
     rcases Q.cg.mp hp with z|⟨_,_,z⟩
     .lia
     .exact absurd g (z d i b c)
   rw[e];exact ar dh rfl
  .have g:¬d∣x:=λz=>by
    have:=Q.fM.mpr z;simp[this] at a
   refine ao 1 jx.nd (bt .B ag) ?_;refine aO #[d+2,#[rfl,.a,.a,.a,λe h1 h2 h=>?_],.a];by_cases z:e=d
   .rw[z];exact g
   .exact j e h1 .a h
 .have b:x<d*d:=by simpa using a
  have e:bg x=Â:=Q.cg.mpr (.inr #[.a,h2,λe h1 h2 h=>j e h1 (yB .a .a .a) h]);rw[e];exact ar dh rfl
def oF(g:⇑aK 1 "_law_prime" ["_law_k"] (dU K (λk=>k<2^62) Â bg))(x:Int)(l:x<=PB):⇑Body i7 "_law_prime_from" fj f 1 [.val Á x] (RT Â (pf x)):=by
 intro j A outer s H E h;have c:PB=1070000011:=rfl;refine aJ (ay fS .A ag) (λa=>?_) (λa=>?_)
 .have b:x<3:=by simpa using a
  have e:pf x=2:=V6 b;rw[e];exact ar ag rfl
 have b:¬x<3:=by simpa using a
 have e:pf x=Ad 1073741824 (x+1-x%2):=V4 b;rw[e];refine ao 0 eY.nd (dX (bt .A ag) (aS .A ag .b)) ?_;rw[Xf x .b];refine cX (ι:=Nat×Int) (λi U=>U=[À (.val Â i.2)]/\Ad i.1 i.2=Ad 1073741824 (x+1-x%2)/\i.2<=PB/\i.2%2=1/\PB-i.2<=2*(i.1:Int)/\3<=i.2) (λi=>i.1) (1073741824,x+1-x%2) #[rfl,rfl,.f,.f,.f,.f] ?_;rintro⟨n,y⟩ U' ⟨rfl,h1,h2,o,m,p⟩;dsimp only at *;refine#[_,bN (bP (aD g (h.mono .b) rfl .A .a)),λa=>?_,λa=>?_]
 .have hp:bg y=Á:=by simpa using a
  have d:y≠PB:=by rintro rfl;rw[xr] at hp;cases hp
  cases n with
  |zero=>lia
  |succ n =>
   refine ao 0 eY.nd (bt .A ag) ?_;refine aO #[(n,y+2),#[rfl,?_,.e,.e,.e,.e],.e];rw[<-h1];show _=Ad (n+1) y;unfold Ad;rw[V4 (by rw[hp];decide)];cases n<;>rfl
 .have hp:bg y=Â:=by simpa using a
  have e2:Ad n y=y:=by
   cases n with
   |zero=>rfl
   |succ n=>unfold Ad;rw[V6 hp]
  rw[<-h1,e2];exact ar .A rfl
def xS(x e m:Int)(he:0<=e)(c:1<=m)(o:m<2^62):⇑Body pV "_law_power" kL f kk [.val Á x,.val Á e,.val Á m] (RT Â (tq x e m)):=by
 intro p A outer s H E v;refine ao 3 cD.nd (aS ag .C .a) ?_;refine ao 0 cD.nd (aS .A .C .a) ?_;rw[bc c,bc c]
 refine cX (ι:=Bool×Int×Int×Int) (λi U=>U=[À (.val Â i.2.2.2),À (.val i.1 i.2.1),À (.val Á m),À (.val Â i.2.2.1)]/\0<=i.2.1/\i.2.2.1*i.2.2.2^i.2.1.toNat%m=x^e.toNat%m/\0<=i.2.2.1/\i.2.2.1<m/\0<=i.2.2.2/\i.2.2.2<m) (λi=>i.2.1.toNat) (Á,e,1%m,x%m)
  #[rfl,he,by dsimp only;rw[XT,YD _ (Yb m),g5,<-XT,Xe],Wo _ .a,Wf _ .a,Wo _ .a,Wf _ .a] ?_
 rintro⟨u,n,a,q⟩ U' ⟨rfl,r,hi,h,l,t,q1⟩;dsimp only at *;refine#[_,ay kI .B ag,λb=>?_,λb=>?_]
 .have hpos:0<n:=by simpa using b
  have d:=qP r;have k:=Wo (q*q) (show m≠0 by lia);have j:=Wf (q*q) (show 0<m by lia);refine aJ (ay aB (aS .B ag .b) ag) (λb=>?_) (λb=>?_)
  .have g:n.toNat%2=1:=by
    have:n.fmod 2=1:=by simpa using b
    rw[bc .b] at this;lia
   refine ao 3 cD.nd (aS (aH .D .A (mulL .a .a)) .C .a) (aO ?_);refine ao 0 cD.nd (aS (aH .A .A (mulL .a .a)) .C .a) ?_;refine ao 1 cD.nd (a8 .B ag wL) ?_;rw[bc c,bc c];refine aO #[(Â,n.fdiv 2,a*q%m,q*q%m),#[rfl,d.2,?_,Wo _ .a,Wf _ .a,k,j],?_]
   .dsimp only;rw[d.1,B2 g,hi]
   .dsimp only;lia
  .have g:n.toNat%2=0:=by
    have:¬n.fmod 2=1:=by simpa using b
    rw[bc .b] at this;lia
   refine ao 0 cD.nd (aS (aH .A .A (mulL .a .a)) .C .a) ?_;refine ao 1 cD.nd (a8 .B ag wL) ?_;rw[bc c];refine aO #[(Â,n.fdiv 2,a,q*q%m),#[rfl,d.2,?_,h,l,k,j],?_]
   .dsimp only;rw[d.1,yA g,hi]
   .dsimp only;lia
 .have hz:n.toNat=0:=by
   have:¬0<n:=by simpa using b
   lia
  rw[hz,WG,WO,YS h l] at hi;refine ar .D ?_;show Bd.val _ _=Bd.val _ _;unfold tq;rw[<-hi]
def OY(a b:Int):Int:=((Ì a b:Nat):Int)
def vX(a b:Int):⇑Body mH "_law_common" jy f k [.val Á a,.val Á b] (RT Â (OY a b)):=by
 intro g A outer s H E h;refine cX (ι:=Bool×Bool×Int×Int) (λi U=>∃r,U=[À (.val i.1 i.2.2.1),À (.val i.2.1 i.2.2.2),r]/\Ì i.2.2.1 i.2.2.2=Ì a b) (λi=>i.2.2.2.natAbs) (Á,Á,a,b) #[none,rfl,rfl] ?_;rintro⟨b1,b2,x,y⟩ U' ⟨r,rfl,c⟩;refine#[_,ay b8 .B ag,λe=>?_,λe=>?_]
 .have d:y≠0:=by simpa using e
  refine ao 2 fH.nd (aS .A .B d) ?_;refine ao 0 fH.nd .B ?_;refine ao 1 fH.nd .C ?_;exact aO #[(b2,Â,y,x.fmod y),#[_,rfl,(n6 x y).trans c],AU x y d]
 .have d:y=0:=by simpa using e
  refine ar (uC rfl B.abs .A) ?_;dsimp only at c ⊢;rw[d,Zf] at c;unfold OY;rw[<-c];show Bd.val _ _=Bd.val _ _;congr 1;split<;>lia
open Classical in
def J6(l:List Int)(N p:Int):Bool:=decide (PZ l p N)
open Classical in
def u7{p:Int}:J6 l N p=Â↔PZ l p N:=by unfold J6;exact WM
def Pq(l:List Int)(N p:Int):Prop:=2<=N/\N<=200/\2<=p/\p<=200/\p∣N/\∀a∈l,Sm 62 a
def Pp(N p:Int)(l:List Int)(d:Db Bool):Prop:=d.ks.Nodup/\∀k,k∈d.ks↔Ow N p l k
def KC(N p a:Int)(k:Int×Bool)(x:Int):Int×Bool:=((k.1+a*x*x).fmod N,k.2 || !decide (x.fmod p=0))
def CQ(N p a:Int)(ks:List (Int×Bool))(j m:Nat)(d:Db Bool):Prop:=d.ks.Nodup/\∀k,k∈d.ks↔(∃i key,i<j/\ks[i]?=À key/\∃x:Nat,(x:Int)<=N/2/\k=KC N p a key x)\/∃key,ks[j]?=À key/\∃x:Nat,x<m/\k=KC N p a key x
def CQ.len{p:Int}{ks:List (Int×Bool)}{m:Nat}{d:Db Bool}(f:2<=N)(e:N<=200)(h:CQ N p a ks j m d):d.l.length<=400:=by
 have:=ym (N:=N) h.1 λk b=>by
  have c:∀key x,0<=(KC N p a key x).1/\(KC N p a key x).1<N:=λkey x=>d_ .a;rcases(h.2 k).mp b with⟨i,key,_,_,x,_,rfl⟩|⟨key,_,x,_,rfl⟩<;>exact c _ _
 rw[Db.wH] at this;lia
def CQ.put{N p a:Int}{ks:List (Int×Bool)}{j m:Nat}{d:Db Bool}{key:Int×Bool}{c:Bool}(g:ks[j]?=À key)(h:CQ N p a ks j m d):CQ N p a ks j (m+1) (d.put (KC N p a key m) c):=by
 refine#[Db.FX h.1,λk=>?_];rw[Db.Jb,h.2];constructor
 .rintro(rfl|h1|⟨f,b,x,i,rfl⟩)
  .exact .inr #[key,g,m,ZC m,rfl]
  .exact .inl h1
  .exact .inr #[f,b,x,.a,rfl]
 .rintro(h1|⟨f,b,x,i,rfl⟩)
  .exact .inr (.inl h1)
  .rw[g] at b;cases b;by_cases e:x=m
   .subst e;exact .inl rfl
   .exact .inr (.inr #[key,g,x,.a,rfl])
def CQ.next{p:Int}{ks:List (Int×Bool)}{m:Nat}{d:Db Bool}{key:Int×Bool}(o:2<=N)(n:ks[j]?=À key)(q:(m:Int)=N/2+1)(h:CQ N p a ks j m d):CQ N p a ks (j+1) 0 d:=by
 refine#[h.1,λk=>?_];rw[h.2];constructor
 .rintro(⟨i,b,h1,h2,l⟩|⟨b,f,x,c,e⟩)
  .exact .inl #[i,b,.a,h2,l]
  .exact .inl #[j,b,.a,f,x,.a,e]
 .rintro(⟨i,b,h1,h2,x,c,e⟩|⟨b,_,x,c,_⟩)
  .by_cases g:i=j
   .subst g;exact .inr #[b,h2,x,.a,e]
   .exact .inl #[i,b,.a,h2,x,c,e]
  .exact absurd c (Xx x)
def CQ.done{p:Int}{b d:Db Bool}(o:2<=N)(hp:2<=p)(g:Pp N p l b)(h:CQ N p a b.ks b.ks.length 0 d):Pp N p (l++[a]) d:=by
 refine#[h.1,λk=>?_];rw[h.2,FW .a]
 have j:∀key (x:Int),KC N p a key x=((key.1+a*x*x)%N,key.2 || !decide (x%p=0)):=λkey x=>by
  unfold KC;rw[bc .a,bc .a]
 constructor
 .rintro(⟨i,key,h1,h2,x,c,e⟩|⟨key,_,x,c,_⟩)
  .exact#[key,(g.2 key).mp (Wq h2),x,.a,c,by rw[e,j]]
  .exact absurd c (Xx x)
 .rintro⟨key,m,x,f,n,e⟩;obtain⟨i,hi⟩:=aaT.mp ((g.2 key).mpr m);refine .inl #[i,key,(Wd.mp hi).1,hi,x.toNat,.a,?_];rw[e,j,X2 f]
def tP(l:List Int)(N p:Int)(hp:Pq l N p):⇑Body lM "_law_zero_by" iK f kk [.val Á l,.val Á N,.val Á p] (RT Â (J6 l N p)):=by
 intro σ A outer s H E L;obtain⟨I,V,Γ,p2,O,T⟩:=hp;refine ao 3 cb.nd (JS (Mq (k:=(0,Á)) (c:=Â) (gM L) (dR (b':=Â) (a7 ag dh)) dh)) ?_;refine A9 (M:=Int) (as:=l) (λi U=>∃o t r b d G J u v h,U=[À (.val o l),À (.val t N),À (.val r p),À (.val b d),G,J,u,v,h]/\Pp N p (l.take i) d) (bW 4 cb.nd) (bh .A) #[_,_,_,_,Db.mk [((0,Á),Â)],none,none,none,none,none,rfl,Xw.mpr #[.c,Yk],λk=>?_] ?_ ?_
 .rw[Z8,HS];show k∈[((0:Int),Á)]↔_;exact WR
 .rintro i a U' ha ⟨o,t,r,b,F,G,J,u,v,h,rfl,D⟩;have sa:=T a (Wq ha);refine vg 5 cb.nd (yu (β:=Bool)) ?_;refine A0 (d:=F) (λj U=>∃o t r C y d u v h,U=[À (.val o l),À (.val t N),À (.val r p),À (.val C F),À (.val y a),À (.dpo d),u,v,h]/\CQ N p a F.ks j 0 d) (Ku 6 7 cb.nd) .D #[_,_,_,_,_,Db.mk [],_,_,_,rfl,Yk,λk=>?_] ?_ ?_
  .constructor
   .intro z;cases z
   .rintro(⟨i,_,h1,_⟩|⟨_,_,x,h1,_⟩)
    .exact absurd h1 (Xx i)
    .exact absurd h1 (Xx x)
  .rintro j key U' q ⟨o,t,r,C,y,d,u,v,h,rfl,g⟩
   have Z:0<=key.1/\key.1<N:=by
    obtain⟨xs,_,_,e,_⟩:=(D.2 key).mp (Wq q);rw[e];exact#[Wo _ .a,Wf _ .a]
   refine b_ (n:=N.fdiv 2+1) (λm U=>∃o t r C y R α d h,U=[À (.val o l),À (.val t N),À (.val r p),À (.val C F),À (.val y a),À (.dpo d),À (.val R key.1),À (.val α key.2),h]/\CQ N p a F.ks j m d) rfl B.range (bW 8 cb.nd) (bt (a8 .B ag wL) ag) (by rw[Ws _ .b];lia) (by rw[Ws _ .b];lia) #[_,_,_,_,_,_,_,d,_,rfl,g] ?_ ?_
   .rintro m U' X ⟨o,t,r,C,y,R,α,d,h,rfl,g⟩;have W:(m:Int)<200:=by rw[Ws _ .b] at X;lia
    have S:=g.len I V;refine HA 5 (k:=KC N p a key m) (c:=Â) (gM L) rfl (dR (b':=Â) (a7 (aS (bt (ae 6) (aH (aH (ae 4) (ae 8) (mulR .a .a)) (ae 8) (mulR .a .a))) .B .a) (yV (ae 7) λ_=>(c8 (bx b8 (aS (ae 8) .C .a) ag))))) dh .a ?_;exact aO #[_,_,_,_,_,_,_,_,_,rfl,g.put q]
   .rintro U' ⟨o,t,r,C,y,R,α,d,h,rfl,g⟩;refine aO #[_,_,_,_,_,d,_,_,_,rfl,g.next I q ?_];rw[Ws _ .b];lia
  .rintro U' ⟨o,t,r,C,y,d,u,v,h,rfl,g⟩;refine El 5 rfl ?_;refine ao 3 cb.nd (ae 5) ?_;refine aO #[_,_,_,_,d,_,_,_,_,_,rfl,?_];rw[YR,ha];rw[<-Db.wH] at g;exact CQ.done I Γ D g
 .rintro U' ⟨o,t,r,b,d,G,J,u,v,h,rfl,g⟩;refine ar (bx (Lm (k:=(0,Â)) (gM L)) (dR (b':=Â) (a7 ag dh)) .D) ?_;show Bd.val _ _=Bd.val _ _
  have e:(d.val (0,Â)).isSome=J6 l N p:=by
   rw[WW,u7,Db.qZ,g.2,XJ,L6 .a O]
  rw[e]
abbrev VO(P w K mg base):=aK P w K mg base 1 "_law_common" ["_law_one","_law_other"] (bO K (λ_ _=>True) Â OY)
def rf(h:⇑VO)(t b:Int)(g:b≠0)(i:Sm 9000 b):
  Body P w K mg base gR "_law_fraction" dA f 1 [.val Á t,.val Á b] (RT Â (fr t b)):=by
 intro c A outer s H E j;have e:=sP (t:=t) g;have hz:Sm 9000 (fd t b):=Sm.of_le (JP g) i;refine ao 2 fZ.nd (av h j rfl .A .B É) ?_
 have last:∀d:Int,d=fd t b->S (⇑cx gR "_law_fraction" dA f c A outer s H E) [À (.val Á t),À (.val Á b),À (.val Â d)] [(aU dA).getD 2 (.Pass #[0,0,0,0])] (RT Â (fr t b)):=by
  rintro d rfl;exact ar (a7 (a8 .A .C (hz.div e)) (a8 .B .C (hz.div e))) rfl
 refine aJ (ay fS .B ag) (λa=>?_) (λa=>?_)
 .refine ao 2 fZ.nd (dX ag .C) (aO ?_);exact last _ (by unfold fd;rw[V6 ↑a];unfold OY;lia)
 .exact last _ (by unfold fd;rw[V4 ↑a];rfl)
abbrev VP(P w K mg base):=aK P w K mg base 2 "_law_fraction" ["_law_top","_law_bottom"] (bO K M5 Â fr)
def AF(i:⇑VP)(u v:Fr)(h:CH u v):
  Body P w K mg base rj "_law_plus" mj f 2 [.val Á u,.val Á v] (RT Â (eD u v)):=by
 intro e A outer s H E g;obtain⟨⟨h1,h2⟩,d,a,c,b⟩:=h;exact ar (av i (g.mono .b) rfl (bt (aH (cj .A) (b6 .B) (d.ok b)) (aH (cj .B) (b6 .A) (c.ok a))) (aH (b6 .A) (b6 .B) (a.ok b)) #[Wl h1 h2,(a.mul b).le .b]) rfl
def xK(i:⇑VP)(u v:Fr)(h:CH u v):
  Body P w K mg base pQ "_law_times" kA f 2 [.val Á u,.val Á v] (RT Â (br u v)):=by
 intro e A outer s H E g;obtain⟨⟨h1,h2⟩,d,a,c,b⟩:=h;exact ar (av i (g.mono .b) rfl (aH (cj .A) (cj .B) (d.ok c)) (aH (b6 .A) (b6 .B) (a.ok b)) #[Wl h1 h2,(a.mul b).le .b]) rfl
def yZ(d:⇑aK 13 "lets_by" ["row","paper"] (bO K DO Â BW))(row:List Int)(p:Dt)(hp:DO row p):⇑Body rW "_law_lets" me f 13 [.val Á row,.val Á p] (RT Â (BW row p)):=by
 intro a A outer s H E c;refine ao 2 pR.nd (av d (c.mono .b) rfl .A .B hp) ?_;refine aJ (bN (bP (Lc (i:=BW row p) rfl B.isinstance rfl B.bool .C))) (λb=>nomatch b) (λ_=>?_);exact ar .C rfl
def EL(n:Int):IF Fr:=IF.mk (jf n)
def xy(n:Int)(c:0<=n)(h1:n<=8):⇑Body kj "_law_plain" ia f k [.val Á n] (RT Â (EL n)):=by
 intro a A outer s H E d
 refine ar (wY (β:=Fr) (f:=λi=>(fA 0 1 n.toNat).map λj=>((if decide (i=j) then (1:Int) else 0),(1:Int))) ["_law_i"] [0] (aX (ah ia) kj rfl rfl .d) (cO rfl B.range .A .a .a) (aT 0) (λC s H fp=>bD 0 ["_law_i","_law_many"]) aP
  (λk i hi C s H fp=>yg (β:=Fr) (f:=λj=>((if decide (i=j) then (1:Int) else 0),(1:Int))) (b':=Â) ["_law_j"] [0] (wC ["_law_i","_law_many"] rfl .d) (cO rfl B.range .B .a .a) (aT 0) (λC s H fp=>bD 0 ["_law_j","_law_i"]) aP
   (λk j b C s H fp=>by refine a7 (b1:=Â) (b2:=Â) ?_ ag;exact zd rfl B.int (bx aB .B .A)) (by rw[bz];lia)) (by rw[bz];lia)) ?_
 rw[dN];show Bd.val _ _=Bd.val _ _;congr 1;unfold EL;congr 1;unfold jf M3 MX;exact WY λi _=>WY λj _=>by by_cases z:i=j<;>simp[z,eq_comm]
def kh(row:List Int)(T:Tb)(i j:Int):Nat->Fr
 |0=>(0,1)
 |k+1=>eD (kh row T i j k) (br (row.getD k 0,1) (br ((T.getD k []).getD i.toNat (0,1)) ((T.getD k []).getD j.toNat (0,1))))
def lU(row:List Int)(T:Tb):Tb:=(iM row.length).map λi=>(iM row.length).map λj=>kh row T i j row.length
structure Hm(row:List Int)(T:Tb):Prop where
 isr:aW row=Â
 sq:Sq row.length T
 g:∀r∈T,lA 200 50 r
def za{row:List Int}{T:Tb}(h:Hm row T){i j:Int}(hi:i.toNat<row.length)(q:j.toNat<row.length){k:Nat}(o:k<row.length):
  let u:=(T.getD k []).getD i.toNat (0,1);let v:=(T.getD k []).getD j.toNat (0,1)
  (cW u/\Sm 200 u.1/\Sm 50 u.2)/\(cW v/\Sm 200 v.1/\Sm 50 v.2)/\(cW (br u v)/\Sm 400 (br u v).1/\Sm 100 (br u v).2)/\Sm 30 (row.getD k 0)/\cW (br (row.getD k 0,1) (br u v))/\Sm 430 (br (row.getD k 0,1) (br u v)).1/\Sm 101 (br (row.getD k 0,1) (br u v)).2:=by
 intro u v;have l:T.getD k []∈T:=Q.getD_mem (by rwa[h.sq.len]);have lc:=h.sq.row _ l;have a:=h.g _ l;have b:u∈T.getD k []:=Q.getD_mem (by rwa[lc]);have c:v∈T.getD k []:=Q.getD_mem (by rwa[lc]);have e:=a.low u b;have d:=a.low v c;have m:=lj e d;have p:Sm 400 (br u v).1:=Sm.O6 (Wl e.ne d.ne) ((a.s1 u b).mul (a.s1 v c));have n:Sm 100 (br u v).2:=Sm.Pg (Wl e.ne d.ne) ((a.s2 u b).mul (a.s2 v c));have s:row.getD k 0∈row:=Q.getD_mem o;have f:Sm 30 (row.getD k 0):=(de h.isr s).2;have r:Sm 1 (1:Int):=by show(1:Int).natAbs<2^1;decide
 exact#[#[e,a.s1 u b,a.s2 u b],#[d,a.s1 v c,a.s2 v c],#[m,p,n],f,lj (uV _) m,Sm.O6 (Wl (uV _).ne m.ne) (f.mul p),Sm.Pg (Wl (uV (row.getD k 0)).ne m.ne) (r.mul n)]
theorem qj{row:List Int}{T:Tb}(h:Hm row T){i j:Int}(hi:i.toNat<row.length)(a:j.toNat<row.length):∀k,k<=row.length->cW (kh row T i j k)/\Sm (431+102*k) (kh row T i j k).1/\Sm (1+101*k) (kh row T i j k).2
 |0,_=>#[rR,by show(0:Int).natAbs<_;exact Y9 _,by show(1:Int).natAbs<2^1;decide]
 |k+1,d=>by
  obtain⟨h1,h2,b⟩:=qj h hi a k .a;obtain⟨_,_,_,_,q,q1,c⟩:=za h hi a (k:=k) .a;show cW (eD _ (br _ _))/\Sm _ (eD _ (br _ _)).1/\Sm _ (eD _ (br _ _)).2;refine#[vU h1 q,?_,?_]
  .exact(Sm.O6 (Wl h1.ne q.ne) ((h2.mul c).add (q1.mul b))).le .a
  .exact(Sm.Pg (Wl h1.ne q.ne) (b.mul c)).le .a
def Du(L:⇑aK 3 "_law_plus" ["_law_u","_law_v"] (bO K CH Â eD))(r:⇑aK 3 "_law_times" ["_law_u","_law_v"] (bO K CH Â br))(row:List Int)(T:Tb)(l:Hm row T):
  Body P w K mg base uE "_law_led" oI f 3 [.val Á row,.val Á T] (RT Â (lU row T)):=by
 intro u A outer s H E p;have R:=aM l.isr;have O:=l.sq.len;refine ao 2 cZ.nd (aY rfl B.len .A) ?_;refine ET 3 (List Fr) cZ.nd ?_;refine b_ (n:=(row.length:Int)) (λi U=>∃m o b c a,U=[À (.val Á row),À (.val Á T),À (.val Â (row.length:Int)),À (.own Â ((iM i).map λi=>(iM row.length).map λj=>kh row T i j row.length)),m,o,b,c,a]) rfl B.range (bW 4 cZ.nd) .C .a .a #[none,none,none,none,none,rfl] ?_ ?_
 .rintro i U' hi ⟨m,o,b,c,a,rfl⟩;have F:i<row.length:=by lia
  refine ET 5 Fr cZ.nd ?_;refine b_ (n:=(row.length:Int)) (λj U=>∃b c a,U=[À (.val Á row),À (.val Á T),À (.val Â (row.length:Int)),À (.own Â ((iM i).map λi=>(iM row.length).map λj=>kh row T i j row.length)),À (.val Â (i:Int)),À (.own Â ((iM j).map λj=>kh row T (i:Int) j row.length)),b,c,a]) rfl B.range (bW 6 cZ.nd) .C .a .a #[_,_,_,rfl] ?_ ?_
  .rintro j U' α ⟨b,c,a,rfl⟩;have x:j<row.length:=by lia
   refine ao 7 cZ.nd (dR (b':=Â) (a7 ag ag)) ?_;refine b_ (n:=(row.length:Int)) (λk U=>∃a,U=[À (.val Á row),À (.val Á T),À (.val Â (row.length:Int)),À (.own Â ((iM i).map λi=>(iM row.length).map λj=>kh row T i j row.length)),À (.val Â (i:Int)),À (.own Â ((iM j).map λj=>kh row T (i:Int) j row.length)),À (.val Â (j:Int)),À (.val Â (kh row T (i:Int) (j:Int) k)),a]) rfl B.range (bW 8 cZ.nd) .C .a .a #[_,rfl] ?_ ?_
   .rintro k U' N ⟨a,rfl⟩;have e:k<row.length:=by lia
    have h:((i:Int)).toNat<row.length:=by lia
    have g:((j:Int)).toNat<row.length:=by lia
    obtain⟨h1,h2,y⟩:=qj l h g k .a;obtain⟨⟨G,C,J⟩,⟨c0,c1,c2⟩,⟨I,m1,m2⟩,t,q,q1,z⟩:=za l h g e;have D:Sm 4000 (1:Int):=by show(1:Int).natAbs<_;exact Nat.one_lt_two_pow .b
    have v:T.getD k []∈T:=Q.getD_mem .a;have lc:=l.sq.row _ v;refine ao 7 cZ.nd (av L (p.mono .b) rfl (ae 7) (av r (p.mono .b) rfl (a7 (bp .A (ae 8) (qO (d:=0) e)) ag) (av r (p.mono .b) rfl (bp (bp .B (ae 8) (qO (d:=[]) .a)) (ae 4) (qO (d:=(0,1)) .a)) (bp (bp .B (ae 8) (qO (d:=[]) .a)) (ae 6) (qO (d:=(0,1)) .a)) #[#[G.ne,c0.ne],C.le .b,J.le .b,c1.le .b,c2.le .b]) #[#[by show(1:Int)≠0;decide,I.ne],t.le .b,D,m1.le .b,m2.le .b]) #[#[h1.ne,q.ne],h2.le .a,y.le .a,q1.le .b,z.le .b]) ?_;exact aO #[_,rfl]
   .rintro U' ⟨a,rfl⟩;refine mW 5 rfl (ae 7) (by rw[V2,cw];lia) (aO ?_);dsimp only;rw[xp,Ya];exact#[_,_,_,rfl]
  .rintro U' ⟨b,c,a,rfl⟩;refine gT 5 rfl ?_;refine mW 3 rfl (ae 5) (by rw[V2,cw];lia) (aO ?_);dsimp only;rw[xp,Ya];exact#[_,_,_,_,_,rfl]
 .rintro U' ⟨m,o,b,c,a,rfl⟩;refine gT 3 rfl ?_;exact ar .D rfl
def K8(row:List Int):(iM row.length).map (λi=>(iM row.length).map λj=>(row.getD i.toNat 0*(if decide (i=j) then (1:Int) else 0),(1:Int)))=bL row:=by
 unfold bL yP;have e:(hV row).length=row.length:=V2 ..;refine YU λi=>?_;rw[WJ,Xz];unfold iM;rw[WJ];by_cases hi:i<row.length
 .rw[Y6 hi];have e2:(hV row)[i]?=À (row[i],1):=by unfold hV;rw[WJ,V7 hi];rfl
  rw[e2];simp only[ZR,Option.some.injEq];unfold lR iM;rw[e];refine WY λj b=>?_;obtain⟨a,_,rfl⟩:=V3.mp b;have g:row.getD ((i:Nat):Int).toNat 0=row[i]:=by rw[Wm,Wa,V7 hi];rfl
  rw[g];by_cases z:(a:Int)=(i:Int)
  .simp[z]
  .have c:¬((i:Int)=(a:Int)):=λw=>z w.symm;simp[z,c]
 .have h1:(Ú row.length)[i]?=none:=by rw[aax,YQ];lia
  have h2:(hV row)[i]?=none:=by rw[aax,e];lia
  rw[h1,h2];rfl
def DV(row:List Int):IF Fr:=IF.mk (bL row)
def tf(row:List Int)(h:row.length<=8)(b:∀x∈row,Sm 100 x):⇑Body iB "_law_upright" fF f k [.val Á row] (RT Â (DV row)):=by
 intro e A outer s H E l
 refine ar (wY (β:=Fr) (f:=λi=>(fA 0 1 (row.length:Int).toNat).map λj=>(row.getD i.toNat 0*(if decide (i=j) then (1:Int) else 0),(1:Int))) ["_law_i"] [0] (aX (ah fF) iB rfl rfl .d) (cO rfl B.range (aY rfl B.len .A) .a .a) (aT 0) (λC s H fp=>bD 0 ["_law_i","_law_row_here"]) aP
   (λk i hi C s H fp=>yg (β:=Fr) (f:=λj=>(row.getD i.toNat 0*(if decide (i=j) then (1:Int) else 0),(1:Int))) (b':=Â) ["_law_j"] [0,1] (wC ["_law_i","_law_row_here"] rfl .d) (cO rfl B.range (aY rfl B.len .B) .a .a) (aT 0) (λC s H fp=>bD 0 ["_law_j","_law_i","_law_row_here"]) aP
    (λm j g C s H fp=>by
     have a:0<=i/\i<(row.length:Int):=by
      have:=bw hi;rw[dN] at this;have:=cI this;rwa[Wm] at this
     have c:row.getD i.toNat 0∈row:=Q.getD_mem .a;refine dR (a7 (b1:=Â) (b2:=Â) ?_ ag);refine aH (bp .C .B (jg (d:=0) a.1 a.2)) (zd rfl B.int (bx aB .B .A)) ?_
     have hz:Sm 64 (if decide (i=j) then (1:Int) else 0):=by
      split
      .exact Sm.CK .b .b
      .exact Sm.CK .b .b
     exact(b _ c).ok hz) (by rw[bz];lia)) (by rw[bz];lia)) ?_
 show Bd.val _ _=Bd.val _ _;congr 1;unfold DV;congr 1;rw[Wm,dN];exact K8 row
def Fv(n:Nat)(r:List Int):Prop:=r.length=n/\∀x∈r,x≠0/\x.natAbs<=29
def DE(c m:Int)(h1:1<=m)(t:m<=8):⇑Body uz "_law_row" oY f k [.val Á c,.val Á m] (HD Â (Fv m.toNat)):=by
 intro h A outer s H E p;refine ET 2 Int jw.nd ?_;refine b_ (n:=m) (λi U=>∃(b:Bool) (c':Int) (r:List Int) (g:Option Bd),Fv i r/\U=[À (.val b c'),À (.val Á m),À (.own Â r),g]) rfl B.range (bW 3 jw.nd) .B .a .a #[Á,c,[],none,#[rfl,λx e=>by cases e],rfl] ?_ ?_
 .rintro i U' hi ⟨b,c',r,g,⟨q1,j⟩,rfl⟩;have l:=d_ (a:=c'.fdiv 2) (b:=29) .b;have o:=d_ (a:=c') (b:=2) .b;have d:c'.fmod 2=0\/c'.fmod 2=1:=by lia
  refine mW 2 rfl (aH (bt ag (aS (a8 .A ag wL) ag .b)) (dX ag (aH ag (aS .A ag .b) (mulL .b .b))) ?_) .a ?_
  .exact(Sm.CK .a .a).ok (m:=64) (Sm.CK .a .a)
  refine ao 0 jw.nd (a8 .A ag wL) (aO #[_,_,_,_,#[?_,λx e=>?_],rfl])
  .rw[WL,q1];rfl
  .rcases W2.mp e with w|w
   .exact j x w
   .rw[WR.mp w];rcases d with d|d
    .rw[d];constructor<;>lia
    .rw[d];constructor<;>lia
 .rintro U' ⟨b,c',r,g,q,rfl⟩;refine gT 2 rfl ?_;exact ar .C #[_,q,rfl]
--@ {"def":"law_all","k":5,"sp":"sp2 K (λ(r : List Int) (d : Dt) => isRow r = true ∧ Kd d.d) false lwA","app":"λa c hp => b_law_all B c_law_stepped a c hp.1 hp.2"}
structure CZ(n fr l d:Int):Prop where
 d2:2<=d
 l0:0<l
 f0:0<fr
 sq:mC fr
 lo:∀q,bg q=Â->q<d->¬q∣l
 hi:∀q,bg q=Â->d<=q->¬q∣fr
 ex:∃s,0<s/\n=fr*l*(s*s)
def CZ.le{n fr l:Int}(h:CZ n fr l d):fr*l<=n/\l<=n/\fr<=n:=by
 obtain⟨s,f,e⟩:=h.ex;have g:=h.l0;have i:=h.f0;have p:0<fr*l:=Xc i g;have q:1<=s*s:=Xc f f;have a:=Wc q (show 0<=fr*l by lia);have b:=W5 (show 1<=fr by lia) (show 0<=l by lia);have c:=Wc (show 1<=l by lia) (show 0<=fr by lia);rw[e];lia
def CZ.start{n:Int}(h:0<n):CZ n 1 n 2:=#[.b,h,.b,og,λq a b=>by have:=aA a;lia,λq a _ z=>by
 have:=Wt .b z;have:=aA a
 lia,1,.b,by rw[Xe,WO,WO]]
def CZ.prime{n fr a l:Int}{v:Nat}(h:CZ n fr a d)(e:a=l*d^(v+1)):bg d=Â:=by
 have b:d∣a:=#[l*d^v,by rw[e,Wk];grind];obtain⟨q,h1,h2⟩:=kZ h.d2;have c:=Wt (by have:=h.d2;lia) h2;by_cases z:q<d
 .exact absurd (Wz h2 b) (h.lo q h1 z)
 .rwa[show d=q by lia]
def CZ.step{n fr f l:Int}{v:Nat}(h:CZ n fr f d)(e:f=l*d^v)(r:¬d∣l)(j:0<l):CZ n (if v%2=1 then fr*d else fr) l (d+1):=by
 have t:=h.d2;have dl:l∣f:=#[_,e];obtain⟨s,k,ex⟩:=h.ex
 have b:∀q,bg q=Â->q<d+1->¬q∣l:=λq a p z=>by
  by_cases w:q<d
  .exact h.lo q a w (Wz z dl)
  .rw[show q=d by lia] at z;exact r z
 have i:∀m:Nat,0<d^m:=λm=>WK .a;by_cases o:v%2=1
 .rw[V6 o];obtain⟨m,c⟩:∃m,v=2*m+1:=#[v/2,.a];have hp:bg d=Â:=h.prime (v:=2*m) (by rw[e,c]);refine#[.a,j,Xc h.f0 .a,lF h.sq hp (h.hi d hp (XE d)),b,λq a g z=>?_,s*d^m,Xc k (i m),?_]
  .rcases euclid a z with z|z
   .exact h.hi q a .a z
   .have:=Wt .a z;lia
  .rw[ex,e,c,Wk,show 2*m=m+m by lia,WZ];grind
 .rw[V4 o];obtain⟨m,c⟩:∃m,v=2*m:=#[v/2,.a];refine#[.a,j,h.f0,h.sq,b,λq a g z=>h.hi q a .a z,s*d^m,Xc k (i m),?_];rw[ex,e,c,show 2*m=m+m by lia,WZ];grind
def CZ.NZ{n fr l:Int}(h:CZ n fr l d)(i:l<d*d):∃s,0<s/\mC (fr*l)/\n=fr*l*(s*s):=by
 obtain⟨s,g,ex⟩:=h.ex;have j:=h.d2;refine#[s,g,tm (Wl (by have:=h.f0;lia) (by have:=h.l0;lia)) λq b z=>?_,ex];have f:=aA b
 have a:∀m:Int,¬q∣m->Ì (q*q) m=1:=λm w=>Gr (λr e h1 h2=>by
  have:r∣q:=by rcases euclid e h1 with z|z<;>exact z
  rw[dc e b this] at h2
  exact w h2) (Wl .a .a)
 by_cases w:q<d
 .have c:=jo z (a l (h.lo q b w));exact h.sq.2 q f c
 .rw[WE fr l] at z;have c:=jo z (a fr (h.hi q b .a));have h1:=Wt h.l0 c;have h2:d*d<=q*q:=W_ .a .a .a .a;lia
def Ak(n:Int)(x:n≠0)(p:n.natAbs<1073741824):⇑Body qU "_law_free" lY f kk [.val Á n] (RT Â (lI n)):=by
 intro Γ A outer s H E X;have ab:∀i:Int,(if i<0 then -i else i)=(i.natAbs:Int):=λi=>by split<;>lia
 refine ao 1 cy.nd (uC rfl B.abs .A) ?_;rw[ab];refine ao 2 cy.nd ag ?_;refine ao 3 cy.nd ag ?_;refine cX (ι:=Int×Int×Int) (λi U=>∃q,U=[À (.val Á n),À (.val Â i.1),À (.val Â i.2.1),À (.val Â i.2.2),q]/\CZ n.natAbs i.2.1 i.1 i.2.2/\i.2.2<=n.natAbs+2) (λi=>(i.1-i.2.2+5).toNat) ((n.natAbs:Int),1,2) #[none,rfl,CZ.start .a,.e] ?_;rintro⟨c,a,d⟩ U' ⟨q,rfl,j,R⟩;dsimp only at *;have m:=j.d2;have t:=j.l0;have S:=j.f0;obtain⟨_,O,L⟩:=j.le;have sd:Sm 36 d:=by unfold Sm;lia
 refine#[_,ay lE (aH .D .D (sd.ok sd)) .B,λb=>?_,λb=>?_]
 .have k:d*d<=c:=by simpa using b
  have J:d<c:=by
   have u:2*d<=d*d:=W5 m .a;lia
  refine ao 4 cy.nd ag ?_;refine cX (ι:=Int×Int) (λi U=>U=[À (.val Á n),À (.val Â i.1),À (.val Â a),À (.val Â d),À (.val Â i.2)]/\0<=i.2/\c=i.1*d^i.2.toNat/\0<i.1) (λi=>i.1.natAbs) (c,0) #[rfl,XE 0,by dsimp only;rw[show(0:Int).toNat=0 from rfl,WG,WO],t] ?_;rintro⟨l,v⟩ U' ⟨rfl,G,he,o⟩;dsimp only at *;refine#[_,ay aB (aS .B .D .a) ag,λb=>?_,λb=>?_]
  .have g:l.fmod d=0:=by simpa using b
   refine ao 1 cy.nd (a8 .B .D (sd.div .a)) ?_;refine ao 4 cy.nd (bt (ae 4) ag) ?_;obtain⟨u,N,V,I⟩:=Eu G he m g .a;obtain⟨b1,_,_⟩:=xE m (Q.fM.mp g) (show l≠0 by lia)
   have pos:0<l.fdiv d:=by
    by_cases w:0<l.fdiv d
    .exact w
    .have:=WU (show 0<=d by lia) (show l.fdiv d<=0 by lia);have:=YB (show l.fdiv d<=0 by lia) (show 0<=d by lia);lia
   exact aO #[(l.fdiv d,v+1),#[rfl,u,N,pos],I]
  .have g:¬d∣l:=λz=>by
    have:=Q.fM.mpr z;rw[Wr this] at b;cases b
   have F:=j.step (v:=v.toNat) he g o
   have W:l<=c:=by
    have:=Wt t (show l∣c from #[_,he]);exact this
   have y:v.fmod 2=1↔v.toNat%2=1:=by
    rw[Xf _ .b];lia
   refine nT (λU=>U=[À (.val Á n),À (.val Â l),À (.val Â (if v.toNat%2=1 then a*d else a)),À (.val Â d),À (.val Â v)]) (ay aB (aS (ae 4) ag .b) ag) (λb=>?_) (λb=>?_) ?_
   .have h:v.toNat%2=1:=y.mp ↑b;rw[V6 h];refine ao 2 cy.nd (aH .C .D ((show Sm 36 a by unfold Sm;lia).ok sd)) ?_;exact aO rfl
   .have h:¬v.toNat%2=1:=λw=>by
     have:=y.mpr w;rw[Wr this] at b;cases b
    rw[V4 h];exact aO rfl
   rintro U' rfl;refine ao 3 cy.nd (bt .D ag) ?_;exact aO #[(l,(if v.toNat%2=1 then a*d else a),d+1),#[_,rfl,F,.e],.e]
 .have k:c<d*d:=by
   have:¬d*d<=c:=by simpa using b
   lia
  obtain⟨s',D,q1,r⟩:=j.NZ k;have α:Sm 30 a:=by unfold Sm;lia
  have T:Sm 30 c:=by unfold Sm;lia
  refine ar (aH (aH .C .B (α.ok T)) (dX ag (aH ag (zd rfl B.int (bx fS .A ag)) (mulL .b .b))) (mulR (by split<;>lia) (by split<;>lia))) ?_;show Bd.val _ _=Bd.val _ _;congr 1;by_cases C:n<0
  .rw[V6 (Wr C)]
   have e:lI n=-(a*c):=zR x p (vM q1) D (by
    have:n=-(n.natAbs:Int):=by lia
    rw[this,r]
    grind)
   rw[e];lia
  .rw[V4 (by rw[Wv C];decide)]
   have e:lI n=a*c:=zR x p q1 D (by
    have:n=(n.natAbs:Int):=by lia
    rw[this,r])
   rw[e];lia
def E2{row:List Int}(hi:i<row.length)(a:j<row.length):Tf (bL row) i j=if i=j then val (row.getD i 0,1) else 0:=by
 have e:(hV row).length=row.length:=V2 ..;have:=vn (us:=hV row) (i:=i) (j:=j) .a .a;show val (ent (yP (hV row)) i j)=_;rw[this];by_cases z:i=j
 .rw[V6 z,V6 z];unfold hV;rw[getD_map (e:=0) hi]
 .rw[V4 z,V4 z,BX]
theorem ye{row:List Int}{T:Tb}(h:Hm row T){i j:Int}(hi:i.toNat<row.length)(c:j.toNat<row.length):∀k,k<=row.length->val (kh row T i j k)=sN (λm=>val (row.getD m 0,1)*(Tf T m i.toNat*Tf T m j.toNat)) k
 |0,_=>BX
 |k+1,d=>by
  obtain⟨h1,_,_⟩:=qj h hi c k .a;obtain⟨⟨a,_⟩,⟨b,_⟩,⟨m,_⟩,_,q,_,_⟩:=za h hi c (k:=k) .a;show val (eD _ (br _ _))=sN _ k+_;rw[val_add h1 q,ye h hi c k .a,val_mul (uV _) m,val_mul a b];rfl
def Bg{row:List Int}{T:Tb}(h:Hm row T):Sq row.length (lU row T):=by
 refine#[by show(List.map _ _).length=_;rw[V2,cw],λr a=>?_,λr a u b=>?_]
 .obtain⟨i,_,rfl⟩:=V3.mp a;rw[V2,cw]
 .obtain⟨i,hi,rfl⟩:=V3.mp a;obtain⟨j,c,rfl⟩:=V3.mp b;have d:=cI hi;have e:=cI c;exact(qj h .a .a row.length (V_ _)).1
def sJ(h:i<n):(iM n).getD i d=(i:Int):=by
 unfold iM;rw[Wa,WJ,Y6 h];rfl
def Js{row:List Int}{T:Tb}(h:Hm row T):lU row T=zB (bL row) T:=by
 obtain⟨d,_⟩:=xl h.isr;refine LX (Bg h) (K9 d h.sq) λi hi j b=>?_
 have e1:Tf (lU row T) i j=val (kh row T (i:Int) (j:Int) row.length):=by
  unfold Tf lU;rw[getD_map (e:=0) (by rwa[cw]),getD_map (e:=0) (by rwa[cw]),sJ hi,sJ b]
 rw[e1,ye h .a .a _ (V_ _)];unfold zB;rw[Ef h.sq.tj (d.u9 h.sq) hi b];refine dZ _ λm a=>?_;rw[Mi h.sq hi a,Ef d h.sq a b,Eh (i:=m) _ a (λl f c=>by rw[E2 a f,V4 (λz=>c z.symm),Ϡ]),E2 a a,V6 rfl];rw[Wm,Wm];grind
section
variable{cF cT cN cR cS:Æ}(xs:Xs K mg cF cT cN cR cS)
include B xs in
theorem xZ(f:Æ)(b:Å)(A:á)(outer:List ė)(s:Ç)(H:Hp)(a:Æ)(L:MZ (⇑MJ hX "_law_alone" fR f b A outer s H) a cR):
  S (⇑MJ hX "_law_alone" fR f b A outer s H) (wO hX [.val Á (Xn.mk a)]) (aU fR) (RT Â Â):=by
 refine ao 1 mU.nd (a_ (af (x6 L xs.r.kx xs.r.iR rfl B.isinstance rfl xs.mT .A) (af (x6 L xs.r.kx xs.r.iS rfl B.isinstance rfl xs.mN .A) (af (x6 L xs.r.kx xs.r.iT rfl B.isinstance rfl xs.mR .A) (af (x6 L xs.r.kx xs.r.iN rfl B.isinstance rfl xs.mS .A) au)))) (V1 rfl)) ?_;refine ar (cE (bx aB (Fi .B) ag) λ_=>(c8 (KU L xs.r.kx xs.r.iV rfl B.isinstance rfl xs.mV PyProof.Rows.Boot.«ValueError» .A))) ?_;rfl
include B xs in
theorem tI(g:⇑Am 5 "lets_by" ["row","paper"] (HK K (fun(r _:Dt)=>se r) cR))(d:⇑Hv 1 "_law_alone" cR Â)(r p:Dt)(hp:se r):
  Body P w K mg base lQ "_law_refused" iG f 5 [.val Á r,.val Á p] (RT Â Â):=by
 intro h A outer s H E c;refine EG (C:=cR) 2 kz.nd rfl xs.mF xs.r.xF (λσ pn R e=>?_) (λa vs pn b=>?_)
 .exact yr (Eo g e (c.mono .b) rfl .A .B hp)
 .exact ar (cE (x6 (yY b) xs.r.kx xs.r.iT rfl B.isinstance rfl xs.mR .C) λ_=>(c8 (Hy d b (c.mono .b) rfl .C))) rfl
end
def Je{U:aF}{b:Bool}{p pos:é}{ds:List Ï}(f:Gl X "list")(c:X.mg "list"=none)(ha:E X U e b (Dt.mk (.list ds)))(a:autoParam (Ä [e] X.env=(Á,Ö e X.env)::Ä [] X.env) zra):E X U (.Call (.Name "list" p) [e] [] pos) b (Dt.mk (.list ds)):=by
 have:=sG (mf (pos:=pos) (p:=p) f c (fW ha) a);rw[W8] at this;have e:(Dt.d∘Dt.mk)=λx=>x:=rfl;rwa[e,aaZ] at this
def OC:List Ï:=[.list [],.list [.int 0],.list (È 9 (.int 1)),.list [.bool Â],.list [.int 1073741824],.list [.none,.int 1],.list [.str "1"]]
def LN:∀d∈OC,∃ds,d=.list ds/\se #[d]:=λd a=>by
 have ok:∀ds:List Ï,ds.length<=9->cH #[.list ds]=Á->∃es,î ds=.list es/\se #[.list ds]:=λds l h=>#[ds,rfl,λes e=>by cases e;exact W6 l .b,h];simp only[OC,V8,WV,XY] at a;rcases a with rfl|rfl|rfl|rfl|rfl|rfl|rfl<;>exact ok _ .b .b
abbrev VQ(P w K mg base):=aK P w K mg base 6 "_law_refused" ["_law_row_here","_law_paper"] (bO K (fun(r _:Dt)=>se r) Â (λ_ _=>Â))
def tK(l:⇑VQ):⇑Body iz "_law_no_rows" fI f 6 [] (HD Â (fun(r:Bool)=>r=Â)):=by
 intro n A outer s H E m;refine ao 0 dH.nd (a_ (b:=Â) (as:=OC.map Dt.mk) (af (sG (a_ (as:=[]) au (V1 rfl))) (af (b5 (a_ (as:=[0]) (af ag au) (V1 rfl))) (af (b5 (EW (a:=(1:Int)) (k:=9) (a_ (af ag au) (V1 rfl)) ag .b .b)) (af (sG (a_ (as:=[#[.bool Â]]) (af (NY dh) au) (V1 rfl))) (af (b5 (a_ (as:=[1073741824]) (af ag au) (V1 rfl))) (af (sG (a_ (as:=[#[.none],#[.int 1]]) (af (o7 dQ) (af (i9 ag) au)) (V1 rfl))) (af (sG (a_ (as:=[#[.str "1"]]) (af (bj aR) au) (V1 rfl))) au))))))) (V1 rfl)) ?_;refine ao 1 dH.nd (a_ (b:=Â) (af (aQ (af (bj aR) (af (i9 ag) au)) (V1 rfl)) (af (aQ (af (bj aR) (af (b5 (a_ (af ag au) (V1 rfl))) au)) (V1 rfl)) (af (aQ (af (bj aR) (af (i9 ag) (af (xH (a_ (af (dR (a7 ag ag)) au) (V1 rfl))) au))) (V1 rfl)) (af (aQ (af (bj aR) (af (b5 (a_ (af ag au) (V1 rfl))) (af (gW (a_ (af (a_ (af (dR (a7 ag ag)) au) (V1 rfl)) au) (V1 rfl))) au))) (V1 rfl)) (af (aQ (af (bj aR) (af (b5 (a_ (af ag au) (V1 rfl))) (af (sG (a_ (as:=[]) au (V1 rfl))) au))) (V1 rfl)) au))))) (V1 rfl)) ?_;refine ao 1 dH.nd (Ki .B (a_ (b:=Â) (af (aQ (af (bj aR) (af (i9 ag) (af (b5 (a_ (af ag au) (V1 rfl))) (af (gW (a_ (af (a_ (af (dR (a7 ag ag)) au) (V1 rfl)) au) (V1 rfl))) au)))) (V1 rfl)) (af (aQ (af (bj aR) (af (o7 dQ) au)) (V1 rfl)) (af (aQ (af (bj aR) (af (i9 ag) au)) (V1 rfl)) au))) (V1 rfl)) (V1 rfl)) ?_;generalize c:(_++_:List Dt)=pp;have pl:pp.length<=1000:=by rw[<-c];exact V1 rfl
 clear c;refine oK (xs:=OC.map Dt.mk) (b:=Â) (λi U=>∃e,U=[À (.val Â (OC.map Dt.mk)),À (.val Â pp),e]) (bW 2 dH.nd) .A #[_,rfl] ?_ ?_
 .rintro i a U' ha ⟨e,rfl⟩;obtain⟨d,j,rfl⟩:=V3.mp (bw ha);obtain⟨ds,rfl,hp⟩:=LN d j;refine aJ (bN (bP (pM rfl rfl B.all (bC (f:=λ_:Dt=>Â) ["_law_paper"] [2] (aX (ah fI) iz rfl rfl .d) (bh .B) (aT 0) (λC s H fp=>bD 0 ["_law_paper","_law_row_here"]) aP (λi u o C s H fp=>jP (av l (m.mono .b) rfl (Je (ds:=ds) rfl B.list .B) .A hp) rfl) pl)))) (λg=>?_) (λ_=>?_)
  .rw[show(pp.map λ_=>Â).all id=Â from WB.mpr λx h=>by obtain⟨_,_,rfl⟩:=V3.mp h;rfl] at g;cases g
  .exact aO #[_,rfl]
 .rintro U' ⟨e,rfl⟩;exact ar dh #[_,rfl,rfl]
def Lf(l:List Int)(p:Int):Bool:=match l with
 |[a,b]=>!decide (tq (0-a*b) ((p-1).fdiv 2) p=1)
 |_=>decide (l.length<2)
def Ka{p:Int}(g:bg p=Â)(h2:p≠2)(f:∀a∈l,¬p∣a):Lf l p=Â↔¬PZ l p p:=by
 rw[om g h2 f]
 match l,f with
 |[],_=>exact#[λ_=>(by rintro(w|⟨_,_,w,_⟩)<;>first|exact absurd w .c|cases w),λ_=>rfl]
 |[_],_=>exact#[λ_=>(by rintro(w|⟨_,_,w,_⟩)<;>first|exact absurd w .c|cases w),λ_=>rfl]
 |[a,b],f =>
  have h:¬p∣0-a*b:=λw=>by
   have i:p∣a*b:=by rw[show 0-a*b=-(a*b) by lia] at w;exact YE.mp w
   exact(euclid g i).elim (f a .c) (f b .c)
  show(!decide (tq (0-a*b) ((p-1).fdiv 2) p=1))=Â↔_;rw[Fp g h2 h,YC,YJ]
  have e:(ck (0-a*b) p=1)↔(3<=[a,b].length\/∃c d,[a,b]=[c,d]/\ck (-c*d) p=1):=by
   constructor
   .intro w;exact .inr #[a,b,rfl,by rwa[show -a*b=0-a*b by grind]]
   .rintro(w|⟨c,d,w,j⟩)
    .exact absurd w .c
    .cases w;rwa[show 0-a*b=-a*b by grind]
  rw[e]
 |_::_::_::t,_=>exact#[λw=>absurd w (by show ¬decide (t.length+1+1+1<2)=Â;simp),λw=>absurd (.inl .c) w]
def IB(h1:1<=l.length)(h:∀a∈l,a≠0):(decide (0<DG l) || decide (DP l<0))=!jR l 0:=by
 obtain⟨b,_⟩:=vJ l .a;obtain⟨b1,_⟩:=wJ l .a;have d:=h _ b;have c:=h _ b1;unfold jR;rw[V6 rfl,Bool.not_and,WW];simp only[Ys,YC,WM,YJ];lia
def Pm(row:List Int)(p:Int):Prop:=aW row=Â/\(p=0\/bg p=Â)/\p<200
abbrev VT(P w K mg base):=aK P w K mg base 1 "_law_free" ["_law_number"] (dU K (fun(n:Int)=>n≠0/\n.natAbs<1073741824) Â lI)
abbrev VS(P w K mg base):=aK P w K mg base 1 "_law_zero_by" ["_law_row_here","_law_power_here","_law_p"] (nV K Pq Â J6)
abbrev VR(P w K mg base):=aK P w K mg base 1 "_law_power" ["_law_k","_law_often","_law_m"] (nV K (λ_ e m=>0<=e/\1<=m/\m<2^62) Â tq)
def rO(SF:⇑VR)(α:⇑VS)(W:⇑VT)(row:List Int)(p:Int)(hp:Pm row p):⇑Body dJ "_law_no_place" cL f 1 [.val Á row,.val Á p] (RT Â (yR row p)):=by
 intro V A outer s H E n;obtain⟨v,hp,pl⟩:=hp;have N:=aM v;have Z:=v_ v;refine aJ (ay aB .B ag) (λd=>?_) (λd=>?_)
 .have y:p=0:=by simpa using d
  subst y;rw[show yR row 0=!jR row 0 from rfl,<-IB N.1 λa ha=>(Z a ha).1];obtain⟨T,σ⟩:=vJ row .a;obtain⟨b1,b2⟩:=wJ row .a;exact ar (yV (bx kI (E4 rfl rfl B.min .A .a T σ) ag) λ_=>(c8 (bx fS (D1 rfl rfl B.max .A .a b1 b2) ag))) rfl
 have y:¬p=0:=by simpa using d
 have e:bg p=Â:=hp.resolve_left y;have p2:=aA e;obtain⟨J,L⟩:=sS v;have X:=aM J;have R:=v_ J;rw[show yR row p=!jR (row.map lI) p by unfold yR;rw[V4 .a,V4 y,e];rfl];refine lZ (f:=lI) (b':=Â) 2 el.nd ["_law_number"] [] (aX (ah cL) dJ rfl rfl .d) (bh .A) (aT 0) (λC s H fp=>bD 0 ["_law_number"]) aP (λj u m C s H fp=>aD W (n.mono .b) rfl .A (de v (bw m))) .a ?_;generalize row.map lI=free at *;have o:=BH e L X.1;have r:∀a∈free,Sm 62 a:=λa ha=>(R a ha).2;refine aJ (ay aB .B ag) (λd=>?_) (λd=>?_)
 .have h2:p=2:=by simpa using d
  subst h2;rw[show jR free 2=J6 free 16 2 by rw[WW,u7,<-o,V6 rfl]];exact ar (uy (bZ α (n.mono .b) rfl .C ag ag #[.b,.b,.b,.b,.b,r])) rfl
 have x:p≠2:=by simpa using d
 refine aJ (ay aB .B ag) (λd=>?_) (λd=>?_)
 .have h2:p=3:=by simpa using d
  subst h2;rw[show jR free 3=J6 free 9 3 by rw[WW,u7,<-o,V4 .b];rfl];exact ar (uy (bZ α (n.mono .b) rfl .C ag ag #[.b,.b,.b,.b,.b,r])) rfl
 have on:On p free:=λa ha=>(L a ha).on p2
 have O:((free.filter λa:Int=>!decide (a.fmod p=0)).map λa=>a)=nR p free:=by
  rw[aaZ];unfold nR;congr 1;funext a;rw[bc .a];rfl
 have ev:((free.filter λa:Int=>decide (a.fmod p=0)).map λa=>a.fdiv p)=o5 p free:=by
  unfold o5;have e1:(λa:Int=>decide (a.fmod p=0))=ig p:=by funext a;rw[bc .a];rfl
  have e2:(λa:Int=>a.fdiv p)=(·/p):=by funext a;exact Ws _ .a
  rw[e1,e2]
 have S:∀a∈nR p free,Sm 62 a:=λa ha=>r a (XR.mp ha).1
 have Γ:∀a∈o5 p free,Sm 62 a:=λa ha=>by
  obtain⟨b,k,rfl⟩:=V3.mp ha;refine Sm.of_le ?_ (r b (XR.mp k).1);rw[Int.natAbs_ediv_of_dvd (Wh (by simpa [ig] using (XR.mp k).2))];exact Nat.div_le_self _ _
 have key:(!jR free p)=(Lf (nR p free) p&&Lf (o5 p free) p):=by
  rw[V4 x] at o;rw[WW,WA,Ka e x k8,Ka e x (kS on),YC,XX,ne_eq,<-o,mQ e x,not_or]
 refine ao 3 el.nd (a_ (b:=Â) (as:=[nR p free,o5 p free]) (af (jP (nK (b':=Â) (f:=λa:Int=>a) (p:=λa:Int=>!decide (a.fmod p=0)) ["_law_a"] [1] (aX (ah cL) dJ rfl rfl .d) (bh .C) (aT 0) (λC s H fp=>bD 0 ["_law_a","_law_p"]) aP (λj u m C s H fp=>rG (ay b8 (aS .A .B .a) ag)) (λj u m _ C s H fp=>dR (b':=Â) .A) .a) O) (af (jP (nK (b':=Â) (f:=λa:Int=>a.fdiv p) (p:=λa:Int=>decide (a.fmod p=0)) ["_law_a"] [1] (aX (ah cL) dJ rfl rfl .d) (bh .C) (aT 0) (λC s H fp=>bD 0 ["_law_a","_law_p"]) aP (λj u m C s H fp=>rG (ay aB (aS .A .B .a) ag)) (λj u m _ C s H fp=>a8 .A .B ((show Sm 15 p by unfold Sm;lia).div .a)) .a) ev) au)) (V1 rfl)) ?_;rw[key];generalize nR p free=us at *;generalize o5 p free=vs at *;refine oK (xs:=[us,vs]) (b:=Â) (λi U=>(∀l∈[us,vs].take i,Lf l p=Â)/\∃F,U=[À (.val Á row),À (.val Á p),À (.val Â free),À (.val Â [us,vs]),F]) (bW 4 el.nd) .D #[(λl h=>nomatch h),_,rfl] ?_ ?_
 .rintro i l U' ha ⟨hi,F,rfl⟩
  have k:Lf l p=Á->(Lf us p&&Lf vs p)=Á:=λh=>by
   have:=bw ha;simp only[V8,WV,XY] at this;rcases this with rfl|rfl
   .rw[h];rfl
   .rw[h,Xa]
  have D:∀a∈l,Sm 62 a:=by
   have:=bw ha;simp only[V8,WV,XY] at this;rcases this with rfl|rfl
   .exact S
   .exact Γ
  refine aJ (ay kI (aY rfl B.len (ae 4)) ag) (λd=>?_) (λd=>?_)
  .have I:3<=l.length:=by
    have:2<(l.length:Int):=by simpa using d
    lia
   rw[k (by
    match l,I with
    |_::_::_::t,_=>exact Wv (show ¬t.length+1+1+1<2 by lia))]
   exact ar dh rfl
  have I:l.length<=2:=by
   have:¬2<(l.length:Int):=by simpa using d
   lia
  by_cases h2:l.length=2
  .match l,h2,D,k with
   |[a,b],_,D,k =>
    refine aJ (TW.t (kN (ay aB (aY rfl B.len (ae 4)) ag) λ_=>jC (ay aB (bZ SF (n.mono .b) rfl (dX ag (aH (bp (a:=a) (ae 4) ag rfl) (bp (a:=b) (ae 4) ag rfl) ((D a .c).ok (D b .c)))) (a8 (dX .B ag) ag wL) .B #[by rw[Ws _ .b];lia,.a,.a]) ag))) (λd=>?_) (λd=>?_)
    .rw[k (by
      have g:(Â&&decide (tq (0-a*b) ((p-1).fdiv 2) p=1))=Â:=d;show(!decide (tq (0-a*b) ((p-1).fdiv 2) p=1))=Á;rw[Xb] at g
      rw[g];rfl)]
     exact ar dh rfl
    .refine aO #[λG h=>?_,_,rfl];rw[take_snoc ha] at h;rcases W2.mp h with w|w
     .exact hi G w
     .rw[WR.mp w];have g:(Â&&decide (tq (0-a*b) ((p-1).fdiv 2) p=1))=Á:=d;show(!decide (tq (0-a*b) ((p-1).fdiv 2) p=1))=Â;rw[Xb] at g;rw[g];rfl
  .refine aJ (c:=Á) (x8 (TW.t (kN (c':=Á) (ay aB (aY rfl B.len (ae 4)) ag) λz=>absurd (Xq z) (λq=>h2 .a))) (by rw[Xa])) (λd=>nomatch d) (λ_=>?_);refine aO #[λG h=>?_,_,rfl];rw[take_snoc ha] at h;rcases W2.mp h with w|w
   .exact hi G w
   .rw[WR.mp w]
    match l,I,h2 with
    |[],_,_=>rfl
    |[_],_,_=>rfl
    |[_,_],_,h2=>exact absurd rfl h2
 .rintro U' ⟨hi,F,rfl⟩;rw[hi us .c,hi vs .c];exact ar dh rfl
theorem Bp{l:List Int}{p N:Int}(p2:2<=p):∀(n:Nat) (xs:List Int),xs.length=l.length->a9 l xs=0->(∃x∈xs,x≠0/\x.natAbs<=n)->PZ l p N
 |0,_,_,_,⟨x,_,h,h'⟩=>by lia
 |n+1,xs,d,hz,⟨x,f,i,m⟩=>by
  by_cases q:∃y∈xs,¬p∣y
  .exact#[xs,d,hz▸Zg N,q]
  .have g:∀y∈xs,p∣y:=λy b=>V9 λz=>q #[y,b,z]
   have e:xs=(xs.map (·/p)).map (p*·):=by
    rw[W8];refine((WY λy b=>?_).trans (ϯ xs)).symm;exact XM (g y b)
   have k:∀(l ys:List Int),a9 l (ys.map (p*·))=p*p*a9 l ys:=λl=>by
    induction l with
    |nil=>intro ys;simp[a9]
    |cons a l j =>
     intro ys;cases ys with
     |nil=>simp[a9]
     |cons y ys =>
      have:=j ys;simp only[Wb,a9,this];grind
   rw[e,k] at hz;have c:p*p≠0:=Wl .a .a;obtain⟨y,rfl⟩:=g x f;refine Bp p2 n (xs.map (·/p)) (by rwa[V2]) ((Int.mul_eq_zero.mp hz).resolve_left c) #[y,V3.mpr #[_,f,Yc y .a],λz=>i (by rw[z,YG]),?_];rw[Xd] at m;have:=Y3 y.natAbs (show 2<=p.natAbs by lia);have:y.natAbs≠0:=λz=>i (by rw[Int.natAbs_eq_zero.mp z,YG]);lia
theorem wW:∀{row xs:List Int},(∀a∈row,a≠0/\a.natAbs<1073741824)->xs.length=row.length->∃ys,ys.length=row.length/\a9 (row.map lI) ys=a9 row xs/\((∃x∈xs,x≠0)->∃y∈ys,y≠0)
 |[],xs,_,c=>#[[],rfl,by cases xs<;>rfl,fun⟨x,f,_⟩=>by cases xs with|nil=>cases f|cons=>cases c]
 |a::row,x::xs,h,c=>by
  obtain⟨ys,h1,h2,k⟩:=wW (row:=row) (xs:=xs) (λb l=>h b (We _ l)) ↑c;have ha:=h a (Wu ..);obtain⟨s,_,m,e⟩:=AG ha.1 ha.2;refine#[s*x::ys,by simp[h1],?_,fun⟨z,hz,d⟩=>?_]
  .simp only[Wb,a9,h2];generalize lI a=g at e;rw[e];grind
  .rcases V8.mp hz with rfl|hz
   .exact#[s*z,Wu ..,Wl .a d]
   .obtain⟨y,i,j⟩:=k #[z,hz,d];exact#[y,We _ i,j]
theorem vH:∀{g:Int} {row xs:List Int},(∀a∈row,0<g*a)->xs.length=row.length->0<=g*a9 row xs/\((∃x∈xs,x≠0)->0<g*a9 row xs)
 |g,[],xs,_,d=>#[by cases xs<;>simp[a9],fun⟨x,i,_⟩=>by cases xs with|nil=>cases i|cons=>cases d]
 |g,a::row,x::xs,h,d=>by
  obtain⟨h1,h2⟩:=vH (row:=row) (xs:=xs) (λb j=>h b (We _ j)) ↑d;have ha:=h a (Wu ..);have e:g*a9 (a::row) (x::xs)=g*a*(x*x)+g*a9 row xs:=by simp only[a9];grind
  have f:0<=x*x:=by rw[<-Int.natAbs_mul_self];exact ů _
  rw[e];refine#[by have:=YF (XG ha) f;lia,fun⟨z,hz,c⟩=>?_];rcases V8.mp hz with rfl|hz
  .have:=Xc ha (Int.lt_iff_le_and_ne.mpr ⟨f,Ne.symm (Wl c c)⟩);lia
  .have:=h2 #[z,hz,c];have:=YF (XG ha) f;lia
theorem AH:∀(row zs:List Int),An row zs=a9 row zs
 |[],_=>rfl
 |_::_,[]=>rfl
 |a::row,z::zs=>by
  have:=AH row zs;unfold An at this ⊢;simp only[YM,Wb,Y5,a9,this]
def FK{row:List Int}{p:Int}(f:aW row=Â)(b:zs.length=row.length)(c:∃x∈zs,x≠0)(hz:An row zs=0):yR row p=Á:=by
 have d:∀a∈row,a≠0/\a.natAbs<1073741824:=λa ha=>de f ha;rw[AH] at hz;unfold yR;split
 .rfl
 split
 .rename_i e;rw[Bool.not_eq_false',zU];constructor
  .refine V9 λq=>?_;have:=(vH (g:=1) (row:=row) (λa ha=>by have:=(d a ha).1;have:¬a<0:=λz=>q #[a,ha,z];lia) b).2 c;lia
  .refine V9 λq=>?_;have:=(vH (g:=-1) (row:=row) (λa ha=>by have:=(d a ha).1;have:¬0<a:=λz=>q #[a,ha,z];lia) b).2 c;lia
 .cases hp:bg p with
  |false=>rfl
  |true =>
   obtain⟨l,m⟩:=sS f;obtain⟨ys,h,n,k⟩:=wW d b;obtain⟨y,i,j⟩:=k c;have:=(BH hp m (aM l).1).mp (Bp (aA hp) y.natAbs ys (by rw[V2];exact h) (n.trans hz) #[y,i,j,V_ _]);rw[this];rfl
def j5(ks:List Int):Ï:=.list (ks.map .int)
def Dg(row:List Int):Ï:=.list ((row.map λ_=>((1:Int),(1:Int))).map iL)
def sH(row:List Int):Ï:=vx (jf (row.length:Int))
def Od(row:List Int)(ds:List Ï):Prop:=QL row ds/\N3 row ds=Á
def QV(row:List Int)(p:Dt):Prop:=DO row p/\BW row p=Á
def wN(row:List Int):Prop:=aW row=Â/\∀a∈row,a.natAbs<=29
def ef{k:Dt}{y:Í}{P:Prop}(h:autoParam (kE k y=Á) zrh):kE k y=Â->P:=λq=>by rw[h] at q;cases q
def iE{x:Í}(h1:autoParam (PyData.canLay0 (.str x)=Â) zrh)(h2:autoParam ((PyData.str x).depth<=60) zrh):PK #[.str x]:=#[h1,h2]
def vR{d:Ï}{P:List Ï->Prop}(h:autoParam (DM d=Á) zra):∀ds,d=.list ds->P ds:=λds e=>by rw[e] at h;cases h
def QI{row:List Int}{k:Ï}:Od row [k]:=#[É,rfl]
def kU{row:List Int}(a:aW row=Â){k z:Ï}(h:PK #[k])(h1:kE #[k] "zero"=Â->Zk z/\Fz row #[z]=Á)(h2:kE #[k] "none"=Â->IE row #[z]=Á):Od row [k,z]:=by
 refine#[#[a,h,λq=>(h1 q).1],?_];show DF row #[k] #[z]=Á;unfold DF;split
 .rename_i q;exact(h1 q).2
 .cases q:kE #[k] "none" with
  |false=>rfl
  |true=>exact h2 q
def jX{row:List Int}(b:aW row=Â){k c x:Ï}(d:tu row)(h:PK #[k])(h1:kE #[k] "makes"=Â->Xk x/\BC row #[c] #[x]=Á)(h2:kE #[k] "change"=Â->II row #[c] #[x]/\ou row #[c] #[x]=Á)(a:kE #[k] "steps"=Â->Ny row #[c] #[x]/\AK row #[c] #[x]=Á):Od row [k,c,x]:=by
 refine#[#[b,h,λq=>#[d,(h1 q).1],λq=>(h2 q).1,λq=>(a q).1],?_];show Dq row #[k] #[c] #[x]=Á;unfold Dq;split
 .rename_i q;exact(h1 q).2
 split
 .rename_i q;exact(h2 q).2
 .cases q:kE #[k] "steps" with
  |false=>rfl
  |true=>exact(a q).2
def M8{row:List Int}{k a:Ï}(h:PK #[k])(h1:II row #[o] #[x])(h2:kE #[k] "pairs"=Â->(ou row #[o] #[x]&&C6 (inD o) #[a])=Á):Od row [k,a,o,x]:=by
 refine#[#[h,h1],?_];show(kE #[k] "pairs"&&_)=Á;cases q:kE #[k] "pairs" with
 |false=>rfl
 |true=>exact h2 q
def Ep{row:List Int}{p:Int}(h:p<0):IE row #[.int p]=Á:=by
 show yR row p=Á;unfold yR;rw[V4 .a,V4 .a,show bg p=Á from XX.mpr λz=>by have:=aA z;lia];rfl
def LZ{row:List Int}(h:cH #[o]=Á):ou row #[o] #[x]=Á:=by unfold ou;rw[h];rfl
def Ed{row:List Int}(h:(inD o).length≠row.length):ou row #[o] #[x]=Á:=by unfold ou;rw[Wv h,XN,Xa]
def EZ{row:List Int}(h:i8 #[x] (row.length:Int)=Á):ou row #[o] #[x]=Á:=by unfold ou;rw[h,XN,Xa,Xa]
def QP{b:Bool}{i:Int}{ks:List Int}(h:¬(0<=2*i/\2*i<=(ks.length:Int))):(b&&C6 ks #[.int i])=Á:=by
 show(b&&(decide _&&_))=Á;rw[Wv h,XN,Xa]
def DT{u v:Fr}(e:iL u=iL v):u=v:=by
 obtain⟨a,b⟩:=u;obtain⟨c,d⟩:=v;unfold iL at e;cases e;rfl
def jU{T:Tb}(l:T.length<=1000)(h:∀r∈T,r.length=n/\∀u∈r,Sm 200 u.1/\Sm 50 u.2):TK n (vx T):=#[λds e=>by
 cases e;refine#[by rwa[V2],λe he=>?_];obtain⟨r,a,rfl⟩:=V3.mp he;refine#[_,rfl,by rw[V2];exact(h r a).1,λu b=>?_];obtain⟨v,c,e⟩:=V3.mp b;rw[<-DT e]
 exact(h r a).2 v c]
def gH{u:Fr}(h:u=(1,1)\/u=(0,1)):Sm 20 u.1/\Sm 10 u.2:=by
 rcases h with rfl|rfl<;>exact#[by unfold Sm;decide,by unfold Sm;decide]
def gF(n:Nat):∀r∈jf (n:Int),r.length=n/\∀u∈r,Sm 200 u.1/\Sm 50 u.2:=λr a=>by
 have sq:=gU n;refine#[sq.row r a,λu b=>?_];obtain⟨i,_,rfl⟩:=V3.mp a;obtain⟨j,_,rfl⟩:=V3.mp b;have:=gH (u:=if j=i then (1,1) else (0,1)) (by by_cases z:j=i<;>simp[z]);exact#[this.1.le .b,this.2.le .b]
def Bf{ks:List Int}(h:ks.length<=1000):Ln (j5 ks):=λds e=>by
 cases e;rw[V2];exact h
def HC(_:List Int):List Ï:=[.tuple [.str "zero"],.tuple [.str "none"],.tuple [.str "none",.int (-2)],.tuple [.str "none",.int 2,.int 3],.tuple [.str "zero",.none],.tuple [.str "zero",.str "0"],.tuple [.str "makes",.int 3]]
def Ir(row:List Int):List Ï:=[.tuple [.str "makes",.int 3,.none],.tuple [.str "row",j5 row],.tuple [.str "makes",.str "1",Dg row],.tuple [.str "makes",.none,Dg row],.tuple [.str "none",.str "0"]]
def Jq(row:List Int):List Ï:=[.tuple [.str "none",.none],.tuple [.str "none",.list [.int 0]],.tuple [.str "none",.int (-3)],.tuple [.str "change",j5 row],.tuple [.str "change",.none,sH row]]
def HI(row:List Int):List Ï:=[.tuple [.str "change",j5 row,.none],.tuple [.str "change",j5 row,.list [sH row]],.tuple [.str "steps",j5 row],.tuple [.str "change",j5 row,sH row,.int 0]]
def HY(row:List Int):List Ï:=[.tuple [.str "steps",.none,.list []],.tuple [.str "steps",j5 row,.none],.tuple [.str "steps",j5 row,.str "[]"],.tuple [.str "pairs",.int 0,j5 row]]
def HP(row:List Int):List Ï:=[.tuple [.str "pairs",.none,j5 row,sH row],.tuple [.str "pairs",.int 0,.none,sH row],.tuple [.str "pairs",.int 9,j5 row,sH row]]
def Jg(row:List Int):List Ï:=[.tuple [.str "Change",j5 row,sH row],.tuple [.str "pairs",.int 0,j5 row,.none],.tuple [.str "pairs",.int (-1),j5 row,sH row],.tuple [.str "",j5 row]]
def Jf(row:List Int):List Ï:=[.tuple [.str "change",j5 ([0]++row.drop (ċ 1)),sH row],.tuple [.str "change",j5 (row++[1]),sH row],.tuple [.str "steps",j5 (row++[1]),.list []]]
def IA(row:List Int):List Ï:=[.tuple [.str "steps",.list (([Dt.mk (.bool Â)]++(row.drop (ċ 1)).map λk=>Dt.mk (.int k)).map Dt.d),.list []],.tuple [.str "zeros",j5 row],.tuple [.str "change",j5 (row.drop (ċ 1)),vx ((jf (row.length:Int)).drop (ċ 1))]]
def Jz(row:List Int):List Ï:=[.tuple [.str "none",iL (0,1)],.tuple [.str "makes",iL (1,1),Dg row]]
def wN.Fl{row:List Int}(b:wN row):tu row:=#[b.1,λa ha=>(show Sm 5 a by have:=b.2 a ha;unfold Sm;lia).le .b]
def Jv{row:List Int}(b:wN row):∀p∈HC row,∃ds,p=.tuple ds/\Od row ds:=λp hp=>by
 have a:=b.1;have j:=aM a;have g:=b.Fl;have kU:=λ{k z}=>@kU row a k z;have jX:=λ{k c x}=>@jX row a k c x g;have sq:Sq row.length (jf (row.length:Int)):=gU _;have tk:TK row.length (sH row):=jU (by rw[sq.len];lia) (gF _);have tn:TK row.length ô:=#[vR];have i:Ln (j5 row):=Bf .a
 have h:Xk (Dg row):=λds e=>by
  cases e;refine#[by rw[V2,V2];lia,λu f=>?_];obtain⟨v,d,e⟩:=V3.mp f;obtain⟨_,_,rfl⟩:=V3.mp d;rw[<-DT e];exact gH (.inl rfl)
 simp only[HC,V8,WV,XY] at hp;rcases hp with rfl|rfl|rfl|rfl|rfl|rfl|rfl
 .exact#[_,rfl,QI]
 .exact#[_,rfl,QI]
 .exact#[_,rfl,kU iE ef λ_=>Ep .b]
 .exact#[_,rfl,jX iE ef ef ef]
 .exact#[_,rfl,kU iE (λ_=>#[vR,rfl]) ef]
 .exact#[_,rfl,kU iE (λ_=>#[vR,rfl]) ef]
 .exact#[_,rfl,kU iE ef ef]
def He{row:List Int}(d:wN row):∀p∈Ir row,∃ds,p=.tuple ds/\Od row ds:=λp hp=>by
 have a:=d.1;have j:=aM a;have h:=d.Fl;have kU:=λ{k z}=>@kU row a k z;have jX:=λ{k c x}=>@jX row a k c x h;have sq:Sq row.length (jf (row.length:Int)):=gU _;have tk:TK row.length (sH row):=jU (by rw[sq.len];lia) (gF _);have tn:TK row.length ô:=#[vR];have i:Ln (j5 row):=Bf .a
 have b:Xk (Dg row):=λds e=>by
  cases e;refine#[by rw[V2,V2];lia,λu g=>?_];obtain⟨v,f,e⟩:=V3.mp g;obtain⟨_,_,rfl⟩:=V3.mp f;rw[<-DT e];exact gH (.inl rfl)
 simp only[Ir,V8,WV,XY] at hp;rcases hp with rfl|rfl|rfl|rfl|rfl
 .exact#[_,rfl,jX iE (λ_=>#[vR,rfl]) ef ef]
 .exact#[_,rfl,kU iE ef ef]
 .exact#[_,rfl,jX iE (λ_=>#[b,rfl]) ef ef]
 .exact#[_,rfl,jX iE (λ_=>#[b,rfl]) ef ef]
 .exact#[_,rfl,kU iE ef λ_=>rfl]
def HR{row:List Int}(b:wN row):∀p∈Jq row,∃ds,p=.tuple ds/\Od row ds:=λp hp=>by
 have a:=b.1;have j:=aM a;have g:=b.Fl;have kU:=λ{k z}=>@kU row a k z;have jX:=λ{k c x}=>@jX row a k c x g;have sq:Sq row.length (jf (row.length:Int)):=gU _;have tk:TK row.length (sH row):=jU (by rw[sq.len];lia) (gF _);have tn:TK row.length ô:=#[vR];have i:Ln (j5 row):=Bf .a
 have h:Xk (Dg row):=λds e=>by
  cases e;refine#[by rw[V2,V2];lia,λu f=>?_];obtain⟨v,d,e⟩:=V3.mp f;obtain⟨_,_,rfl⟩:=V3.mp d;rw[<-DT e];exact gH (.inl rfl)
 simp only[Jq,V8,WV,XY] at hp;rcases hp with rfl|rfl|rfl|rfl|rfl
 .exact#[_,rfl,kU iE ef λ_=>rfl]
 .exact#[_,rfl,kU iE ef λ_=>rfl]
 .exact#[_,rfl,kU iE ef λ_=>Ep .b]
 .exact#[_,rfl,kU iE ef ef]
 .exact#[_,rfl,jX iE ef (λ_=>#[#[a,vR,tk],rfl]) ef]
def Hu{row:List Int}(f:wN row):∀p∈HI row,∃ds,p=.tuple ds/\Od row ds:=λp hp=>by
 have a:=f.1;have j:=aM a;have h:=f.Fl;have kU:=λ{k z}=>@kU row a k z;have jX:=λ{k c x}=>@jX row a k c x h;have sq:Sq row.length (jf (row.length:Int)):=gU _;have tk:TK row.length (sH row):=jU (by rw[sq.len];lia) (gF _);have tn:TK row.length ô:=#[vR];have d:Ln (j5 row):=Bf .a
 have i:Xk (Dg row):=λds e=>by
  cases e;refine#[by rw[V2,V2];lia,λu b=>?_];obtain⟨v,g,e⟩:=V3.mp b;obtain⟨_,_,rfl⟩:=V3.mp g;rw[<-DT e];exact gH (.inl rfl)
 have lt:Ln (sH row):=λds e=>by cases e;rw[V2,sq.len];lia
 have tt:i8 #[.list [sH row]] (row.length:Int)=Á:=by
  have e:sH row=.list ((jf (row.length:Int)).map λr=>î (r.map iL)):=rfl;rw[e];have l:=sq.len;generalize jf (row.length:Int)=T at *
  match T,l with
  |[],l=>exact absurd l (by show(0:Nat)≠_;lia)
  |r::T,_ =>
   show(_&&((_&&(Á&&_))&&_))=Á;rw[XN,Xa,XN,Xa]
 simp only[HI,V8,WV,XY] at hp;rcases hp with rfl|rfl|rfl|rfl
 .exact#[_,rfl,jX iE ef (λ_=>#[#[a,d,tn],EZ rfl]) ef]
 .exact#[_,rfl,jX iE ef (λ_=>#[#[a,d,#[λds e=>by cases e;exact#[by show 1<=1000;decide,λe he=>by rw[WR.mp he];exact#[_,rfl,by rw[V2,sq.len],λu b=>by obtain⟨_,_,e⟩:=V3.mp b;unfold iL at e;cases e]]]],EZ tt]) ef]
 .exact#[_,rfl,kU iE ef ef]
 .exact#[_,rfl,M8 iE #[a,lt,#[vR]] ef]
def IV{row:List Int}(d:wN row):∀p∈HY row,∃ds,p=.tuple ds/\Od row ds:=λp hp=>by
 have a:=d.1;have j:=aM a;have h:=d.Fl;have kU:=λ{k z}=>@kU row a k z;have jX:=λ{k c x}=>@jX row a k c x h;have sq:Sq row.length (jf (row.length:Int)):=gU _;have tk:TK row.length (sH row):=jU (by rw[sq.len];lia) (gF _);have tn:TK row.length ô:=#[vR];have b:Ln (j5 row):=Bf .a
 have i:Xk (Dg row):=λds e=>by
  cases e;refine#[by rw[V2,V2];lia,λu g=>?_];obtain⟨v,f,e⟩:=V3.mp g;obtain⟨_,_,rfl⟩:=V3.mp f;rw[<-DT e];exact gH (.inl rfl)
 simp only[HY,V8,WV,XY] at hp;rcases hp with rfl|rfl|rfl|rfl
 .exact#[_,rfl,jX iE ef ef λ_=>#[#[vR,λds e=>by cases e;rfl],rfl]]
 .exact#[_,rfl,jX iE ef ef λ_=>#[#[b,vR],Xa _]]
 .exact#[_,rfl,jX iE ef ef λ_=>#[#[b,vR],Xa _]]
 .exact#[_,rfl,jX iE ef ef ef]
def Hj{row:List Int}(d:wN row):∀p∈HP row,∃ds,p=.tuple ds/\Od row ds:=λp hp=>by
 have a:=d.1;have j:=aM a;have h:=d.Fl;have kU:=λ{k z}=>@kU row a k z;have jX:=λ{k c x}=>@jX row a k c x h;have sq:Sq row.length (jf (row.length:Int)):=gU _;have tk:TK row.length (sH row):=jU (by rw[sq.len];lia) (gF _);have tn:TK row.length ô:=#[vR];have b:Ln (j5 row):=Bf .a
 have i:Xk (Dg row):=λds e=>by
  cases e;refine#[by rw[V2,V2];lia,λu g=>?_];obtain⟨v,f,e⟩:=V3.mp g;obtain⟨_,_,rfl⟩:=V3.mp f;rw[<-DT e];exact gH (.inl rfl)
 simp only[HP,V8,WV,XY] at hp;rcases hp with rfl|rfl|rfl
 .exact#[_,rfl,M8 iE #[a,b,tk] λ_=>Xa _]
 .exact#[_,rfl,M8 iE #[a,vR,tk] λ_=>rfl]
 .exact#[_,rfl,M8 iE #[a,b,tk] λ_=>QP (by rw[show inD (j5 row)=row from lH row];lia)]
def Jo{row:List Int}(d:wN row):∀p∈Jg row,∃ds,p=.tuple ds/\Od row ds:=λp hp=>by
 have a:=d.1;have j:=aM a;have h:=d.Fl;have kU:=λ{k z}=>@kU row a k z;have jX:=λ{k c x}=>@jX row a k c x h;have sq:Sq row.length (jf (row.length:Int)):=gU _;have tk:TK row.length (sH row):=jU (by rw[sq.len];lia) (gF _);have tn:TK row.length ô:=#[vR];have b:Ln (j5 row):=Bf .a
 have i:Xk (Dg row):=λds e=>by
  cases e;refine#[by rw[V2,V2];lia,λu g=>?_];obtain⟨v,f,e⟩:=V3.mp g;obtain⟨_,_,rfl⟩:=V3.mp f;rw[<-DT e];exact gH (.inl rfl)
 simp only[Jg,V8,WV,XY] at hp;rcases hp with rfl|rfl|rfl|rfl
 .exact#[_,rfl,jX iE ef ef ef]
 .exact#[_,rfl,M8 iE #[a,b,tn] λ_=>by rw[EZ rfl];rfl]
 .exact#[_,rfl,M8 iE #[a,b,tk] λ_=>QP .a]
 .exact#[_,rfl,kU iE ef ef]
def JB{row:List Int}(b:wN row):∀p∈Jf row,∃ds,p=.tuple ds/\Od row ds:=λp hp=>by
 have a:=b.1;have j:=aM a;have g:=b.Fl;have kU:=λ{k z}=>@kU row a k z;have jX:=λ{k c x}=>@jX row a k c x g;have sq:Sq row.length (jf (row.length:Int)):=gU _;have tk:TK row.length (sH row):=jU (by rw[sq.len];lia) (gF _);have tn:TK row.length ô:=#[vR];have i:Ln (j5 row):=Bf .a
 have h:Xk (Dg row):=λds e=>by
  cases e;refine#[by rw[V2,V2];lia,λu f=>?_];obtain⟨v,d,e⟩:=V3.mp f;obtain⟨_,_,rfl⟩:=V3.mp d;rw[<-DT e];exact gH (.inl rfl)
 simp only[Jf,V8,WV,XY] at hp;rcases hp with rfl|rfl|rfl
 .exact#[_,rfl,jX iE ef (λ_=>#[#[a,Bf (by rw[WL,XC];show 1+_<=_;lia),tk],LZ (by rw[show cH #[j5 ([0]++row.drop (ċ 1))]=aW _ from Fo _];unfold aW;show(_&&(Á&&_))=Á;rw[XN,Xa])]) ef]
 .exact#[_,rfl,jX iE ef (λ_=>#[#[a,Bf (by rw[WL];show _+1<=_;lia),tk],Ed (by rw[show inD (j5 (row++[1]))=_ from lH _,WL];show _+1≠_;lia)]) ef]
 .exact#[_,rfl,jX iE ef ef λ_=>#[#[Bf (by rw[WL];show _+1<=_;lia),λds e=>by cases e;rfl],by unfold AK;show(_&&decide (row=inD (j5 (row++[1]))))=Á;rw[show inD (j5 (row++[1]))=_ from lH _,Wv (λe=>by have:=congrArg ϰ e;rw[WL] at this;have:row.length=row.length+1:=this;lia),Xa]]]
def Ia{row:List Int}(b:wN row):∀p∈IA row,∃ds,p=.tuple ds/\Od row ds:=λp hp=>by
 have a:=b.1;have j:=aM a;have g:=b.Fl;have kU:=λ{k z}=>@kU row a k z;have jX:=λ{k c x}=>@jX row a k c x g;have sq:Sq row.length (jf (row.length:Int)):=gU _;have tk:TK row.length (sH row):=jU (by rw[sq.len];lia) (gF _);have tn:TK row.length ô:=#[vR];have i:Ln (j5 row):=Bf .a
 have h:Xk (Dg row):=λds e=>by
  cases e;refine#[by rw[V2,V2];lia,λu f=>?_];obtain⟨v,d,e⟩:=V3.mp f;obtain⟨_,_,rfl⟩:=V3.mp d;rw[<-DT e];exact gH (.inl rfl)
 have td:TK row.length (vx ((jf (row.length:Int)).drop (ċ 1))):=jU (by rw[XC,sq.len];lia) λr a=>gF _ r (ŉ a);simp only[IA,V8,WV,XY] at hp;rcases hp with rfl|rfl|rfl
 .exact#[_,rfl,jX iE ef ef λ_=>#[#[λds e=>by cases e;rw[V2,WL,V2,XC];show 1+_<=_;lia,λds e=>by cases e;rfl],by unfold AK cH;show((_&&(Á&&_))&&_)=Á;rw[XN,Xa];rfl]]
 .exact#[_,rfl,kU iE ef ef]
 .exact#[_,rfl,jX iE ef (λ_=>#[#[a,Bf (by rw[XC];lia),td],Ed (by rw[show inD (j5 (row.drop (ċ 1)))=_ from lH _,XC];show _-1≠_;lia)]) ef]
def IH{row:List Int}(b:wN row):∀p∈Jz row,∃ds,p=.tuple ds/\Od row ds:=λp hp=>by
 have a:=b.1;have j:=aM a;have h:=b.Fl;have kU:=λ{k z}=>@kU row a k z;have jX:=λ{k c x}=>@jX row a k c x h;have sq:Sq row.length (jf (row.length:Int)):=gU _;have tk:TK row.length (sH row):=jU (by rw[sq.len];lia) (gF _);have tn:TK row.length ô:=#[vR];have i:Ln (j5 row):=Bf .a
 have f:Xk (Dg row):=λds e=>by
  cases e;refine#[by rw[V2,V2];lia,λu g=>?_];obtain⟨v,d,e⟩:=V3.mp g;obtain⟨_,_,rfl⟩:=V3.mp d;rw[<-DT e];exact gH (.inl rfl)
 simp only[Jz,V8,WV,XY] at hp;rcases hp with rfl|rfl
 .exact#[_,rfl,kU iE ef λ_=>rfl]
 .exact#[_,rfl,jX iE (λ_=>#[f,rfl]) ef ef]
def cQ{M:Type}[Py M]{U:aF}{b:Bool}{a:M}(h:E X U e b a):E X U e Á a:=h.wk (λq=>nomatch q)
def rX(row:List Int):List Dt:=(HC row).map Dt.mk++(Ir row).map Dt.mk++(Jq row).map Dt.mk++(HI row).map Dt.mk++(HY row).map Dt.mk++(HP row).map Dt.mk++(Jg row).map Dt.mk++(Jf row).map Dt.mk++(IA row).map Dt.mk++(Jz row).map Dt.mk
def M4(row:List Int)(c:Int):List Dt:=(rX row).drop (c.fmod 40).toNat++(rX row).take (c.fmod 40).toNat
def yo{row:List Int}(a:wN row):∀p∈rX row,QV row p:=λp hp=>by
 simp only[rX,W2,V3] at hp;rcases hp with((((((((hp|hp)|hp)|hp)|hp)|hp)|hp)|hp)|hp)|hp<;>obtain⟨q,b,rfl⟩:=hp
 .obtain⟨ds,rfl,h1,h2⟩:=Jv a q b;exact#[#[a.1,ds,rfl,h1],h2]
 .obtain⟨ds,rfl,h1,h2⟩:=He a q b;exact#[#[a.1,ds,rfl,h1],h2]
 .obtain⟨ds,rfl,h1,h2⟩:=HR a q b;exact#[#[a.1,ds,rfl,h1],h2]
 .obtain⟨ds,rfl,h1,h2⟩:=Hu a q b;exact#[#[a.1,ds,rfl,h1],h2]
 .obtain⟨ds,rfl,h1,h2⟩:=IV a q b;exact#[#[a.1,ds,rfl,h1],h2]
 .obtain⟨ds,rfl,h1,h2⟩:=Hj a q b;exact#[#[a.1,ds,rfl,h1],h2]
 .obtain⟨ds,rfl,h1,h2⟩:=Jo a q b;exact#[#[a.1,ds,rfl,h1],h2]
 .obtain⟨ds,rfl,h1,h2⟩:=JB a q b;exact#[#[a.1,ds,rfl,h1],h2]
 .obtain⟨ds,rfl,h1,h2⟩:=Ia a q b;exact#[#[a.1,ds,rfl,h1],h2]
 .obtain⟨ds,rfl,h1,h2⟩:=IH a q b;exact#[#[a.1,ds,rfl,h1],h2]
def K3{row:List Int}{c:Int}(a:wN row):∀p∈M4 row c,QV row p:=λp hp=>by
 rcases W2.mp hp with w|w
 .exact yo a p (ŉ w)
 .exact yo a p (ň w)
abbrev VU(P w K mg base):=aK P w K mg base 1 "_law_plain" ["_law_many"] (dU K (λn=>(0:Int)<=n/\n<=8) Â EL)
def Dd(e:⇑VU)(row:List Int)(c:Int)(g:wN row):⇑Body oS "_law_odd" kP f 1 [.val Á row,.val Á c] (RT Á (M4 row c)):=by
 intro i A outer s H E h;have l:=aM g.1;have d:=d_ (a:=c) (b:=40) .b;refine lZ (f:=λ_:Int=>((1:Int),(1:Int))) (b':=Â) 2 bJ.nd ["_law_a"] [] (aX (ah kP) oS rfl rfl .d) (bh .A) (aT 0) (λC s H fp=>bD 0 ["_law_a"]) aP (λj u m C s H fp=>dR (a7 ag ag)) .a ?_;refine ao 3 bJ.nd (KI (rows:=jf (row.length:Int)) (aD (f:=EL) e (h.mono .b) rfl (aY rfl B.len .A) #[.a,.a])) ?_;refine ao 4 bJ.nd (a_ (b:=Á) (as:=(HC row).map Dt.mk) (af (aQ (af (cQ (bj aR)) au) (V1 rfl)) (af (aQ (af (cQ (bj aR)) au) (V1 rfl)) (af (aQ (af (cQ (bj aR)) (af (cQ (i9 (gn ag))) au)) (V1 rfl)) (af (aQ (af (cQ (bj aR)) (af (cQ (i9 ag)) (af (cQ (i9 ag)) au))) (V1 rfl)) (af (aQ (af (cQ (bj aR)) (af (cQ (o7 dQ)) au)) (V1 rfl)) (af (aQ (af (cQ (bj aR)) (af (cQ (bj aR)) au)) (V1 rfl)) (af (aQ (af (cQ (bj aR)) (af (cQ (i9 ag)) au)) (V1 rfl)) au))))))) (V1 rfl)) ?_;refine ao 4 bJ.nd (e5 (ae 4) (a_ (b:=Á) (as:=(Ir row).map Dt.mk) (af (aQ (af (cQ (bj aR)) (af (cQ (i9 ag)) (af (cQ (o7 dQ)) au))) (V1 rfl)) (af (aQ (af (cQ (bj aR)) (af (b5 .A) au)) (V1 rfl)) (af (aQ (af (cQ (bj aR)) (af (cQ (bj aR)) (af (cQ (xH .C)) au))) (V1 rfl)) (af (aQ (af (cQ (bj aR)) (af (cQ (o7 dQ)) (af (cQ (xH .C)) au))) (V1 rfl)) (af (aQ (af (cQ (bj aR)) (af (cQ (bj aR)) au)) (V1 rfl)) au))))) (V1 rfl)) (V1 rfl)) ?_;refine ao 4 bJ.nd (e5 (ae 4) (a_ (b:=Á) (as:=(Jq row).map Dt.mk) (af (aQ (af (cQ (bj aR)) (af (cQ (o7 dQ)) au)) (V1 rfl)) (af (aQ (af (cQ (bj aR)) (af (cQ (b5 (a_ (as:=[0]) (af ag au) (V1 rfl)))) au)) (V1 rfl)) (af (aQ (af (cQ (bj aR)) (af (cQ (i9 (gn ag))) au)) (V1 rfl)) (af (aQ (af (cQ (bj aR)) (af (b5 .A) au)) (V1 rfl)) (af (aQ (af (cQ (bj aR)) (af (cQ (o7 dQ)) (af (cQ (gW .D)) au))) (V1 rfl)) au))))) (V1 rfl)) (V1 rfl)) ?_;refine ao 4 bJ.nd (e5 (ae 4) (a_ (b:=Á) (as:=(HI row).map Dt.mk) (af (aQ (af (cQ (bj aR)) (af (b5 .A) (af (cQ (o7 dQ)) au))) (V1 rfl)) (af (aQ (af (cQ (bj aR)) (af (b5 .A) (af (cQ (sG (a_ (as:=[#[vx (jf (row.length:Int))]]) (af (gW .D) au) (V1 rfl)))) au))) (V1 rfl)) (af (aQ (af (cQ (bj aR)) (af (b5 .A) au)) (V1 rfl)) (af (aQ (af (cQ (bj aR)) (af (b5 .A) (af (cQ (gW .D)) (af (cQ (i9 ag)) au)))) (V1 rfl)) au)))) (V1 rfl)) (V1 rfl)) ?_;refine ao 4 bJ.nd (e5 (ae 4) (a_ (b:=Á) (as:=(HY row).map Dt.mk) (af (aQ (af (cQ (bj aR)) (af (cQ (o7 dQ)) (af (sG (a_ (as:=[]) au (V1 rfl))) au))) (V1 rfl)) (af (aQ (af (cQ (bj aR)) (af (b5 .A) (af (cQ (o7 dQ)) au))) (V1 rfl)) (af (aQ (af (cQ (bj aR)) (af (b5 .A) (af (cQ (bj aR)) au))) (V1 rfl)) (af (aQ (af (cQ (bj aR)) (af (cQ (i9 ag)) (af (b5 .A) au))) (V1 rfl)) au)))) (V1 rfl)) (V1 rfl)) ?_;refine ao 4 bJ.nd (e5 (ae 4) (a_ (b:=Á) (as:=(HP row).map Dt.mk) (af (aQ (af (cQ (bj aR)) (af (cQ (o7 dQ)) (af (b5 .A) (af (cQ (gW .D)) au)))) (V1 rfl)) (af (aQ (af (cQ (bj aR)) (af (cQ (i9 ag)) (af (cQ (o7 dQ)) (af (cQ (gW .D)) au)))) (V1 rfl)) (af (aQ (af (cQ (bj aR)) (af (cQ (i9 ag)) (af (b5 .A) (af (cQ (gW .D)) au)))) (V1 rfl)) au))) (V1 rfl)) (V1 rfl)) ?_;refine ao 4 bJ.nd (e5 (ae 4) (a_ (b:=Á) (as:=(Jg row).map Dt.mk) (af (aQ (af (cQ (bj aR)) (af (b5 .A) (af (cQ (gW .D)) au))) (V1 rfl)) (af (aQ (af (cQ (bj aR)) (af (cQ (i9 ag)) (af (b5 .A) (af (cQ (o7 dQ)) au)))) (V1 rfl)) (af (aQ (af (cQ (bj aR)) (af (cQ (i9 (gn ag))) (af (b5 .A) (af (cQ (gW .D)) au)))) (V1 rfl)) (af (aQ (af (cQ (bj aR)) (af (b5 .A) au)) (V1 rfl)) au)))) (V1 rfl)) (V1 rfl)) ?_;refine ao 4 bJ.nd (e5 (ae 4) (a_ (b:=Á) (as:=(Jf row).map Dt.mk) (af (aQ (af (cQ (bj aR)) (af (b5 (e5 (a_ (as:=[0]) (af ag au) (V1 rfl)) (BM .A ag .b) (by rw[XC];show 1+_<=_;lia))) (af (cQ (gW .D)) au))) (V1 rfl)) (af (aQ (af (cQ (bj aR)) (af (b5 (e5 .A (a_ (as:=[1]) (af ag au) (V1 rfl)) (by show _+1<=_;lia))) (af (cQ (gW .D)) au))) (V1 rfl)) (af (aQ (af (cQ (bj aR)) (af (b5 (e5 .A (a_ (as:=[1]) (af ag au) (V1 rfl)) (by show _+1<=_;lia))) (af (sG (a_ (as:=[]) au (V1 rfl))) au))) (V1 rfl)) au))) (V1 rfl)) (V1 rfl)) ?_;refine ao 4 bJ.nd (e5 (ae 4) (a_ (b:=Á) (as:=(IA row).map Dt.mk) (af (aQ (af (cQ (bj aR)) (af (sG (e5 (a_ (as:=[#[.bool Â]]) (af (NY dh) au) (V1 rfl)) (Oj (BM .A ag .b)) (by rw[V2,XC];show 1+_<=_;lia))) (af (sG (a_ (as:=[]) au (V1 rfl))) au))) (V1 rfl)) (af (aQ (af (cQ (bj aR)) (af (b5 .A) au)) (V1 rfl)) (af (aQ (af (cQ (bj aR)) (af (b5 (y6 .A ag .b)) (af (cQ (gW (y6 .D ag .b))) au))) (V1 rfl)) au))) (V1 rfl)) (V1 rfl)) ?_;refine ao 4 bJ.nd (e5 (ae 4) (a_ (b:=Á) (as:=(Jz row).map Dt.mk) (af (aQ (af (cQ (bj aR)) (af (J7 (dR (a7 ag ag))) au)) (V1 rfl)) (af (aQ (af (cQ (bj aR)) (af (J7 (dR (a7 ag ag))) (af (cQ (xH .C)) au))) (V1 rfl)) au)) (V1 rfl)) (V1 rfl)) ?_;show S _ [_,_,_,_,À (.val Á (rX row))] _ _;have k:(rX row).length=40:=rfl;unfold M4;generalize rX row=ps at *;refine ar (e5 (y6 (ae 4) (aS .B ag .b) d.1) (O4 (ae 4) (aS .B ag .b) d.1) ?_) rfl;rw[XC,Zz];lia
theorem Kl{f:Nat->Rat}{i:Nat}:∀n,i<n->(∀j,j<n->j≠i->f j=0)->sN f n=f i
 |0,h,_=>absurd h (Xx i)
 |n+1,h,b=>by
  show sN f n+f n=f i;by_cases e:i=n
  .subst e;rw[dZ (g:=λ_=>0) i (λj c=>b j .a .a),wc];grind
  .rw[Kl n .a (λj c a=>b j .a a),b n .a (λz=>e z.symm)];grind
def Nx(row:List Int)(us:List Fr):Fr:=(row.zip us).foldl (λt p=>eD t (br (p.1,1) (br p.2 p.2))) (0,1)
def JC(row:List Int)(us:List Fr):Nx row us=ml (hV row) (us.map λu=>br u u):=by
 unfold Nx ml hV;rw[List.zip_map,List.foldl_map];rfl
def Hz{row:List Int}{us:List Fr}(h:tu row)(c:us.length=row.length)(a:∀u∈us,cW u):Kn (bL row) us=Nx row us:=by
 have st:=h.st
 have f:∀u∈hV row,cW u:=λu q=>by
  obtain⟨k,o,rfl⟩:=V3.mp q;exact#[by show(1:Int)<=1;decide,by show Ì k 1=1;exact aat k]
 have g:∀u∈us.map (λu=>br u u),cW u:=λu q=>by
  obtain⟨v,d,rfl⟩:=V3.mp q;exact lj (a v d) (a v d)
 have l:(hV row).length=row.length:=V2 ..;have m:(us.map (λu=>br u u)).length=row.length:=by rwa[V2]
 rw[JC];refine val_inj (Ih st.sq c a) (jl f g) ?_;rw[H_ st.sq c a,jm l m f g];refine dZ _ λi hi=>?_;rw[Kl (i:=i) _ hi]
 .have e1:ent (bL row) i i=(hV row).getD i (0,1):=by
   have:=vn (us:=hV row) (i:=i) (j:=i) .a .a;rwa[V6 rfl] at this
  have e2:(us.map (λu=>br u u)).getD i (0,1)=br (us.getD i (0,1)) (us.getD i (0,1)):=getD_map .a;have e:cW (us.getD i (0,1)):=a _ (Q.getD_mem .a);rw[e1,e2,val_mul e e]
 .intro j n b
  have e1:ent (bL row) i j=(0,1):=by
   have:=vn (us:=hV row) (i:=i) (j:=j) .a .a;rwa[V4 (λq=>b q.symm)] at this
  rw[e1,BX,Ϡ]
def Og(t:Int):fr t 1=(t,1):=val_inj (kR .b) (uV t) (by
 have:=val_mul (uV t) (uV 1);have e:br (t,1) (1,1)=fr t 1:=by show fr (t*1) (1*1)=_;rw[WO];rfl
 rw[e] at this;rw[this];have a:val (1,1)=1:=by unfold val;rfl
 rw[a,Rat.mul_one])
def vL{u v:Fr}(a:u.2=1)(b:v.2=1):br u v=(u.1*v.1,1):=by
 show fr (u.1*v.1) (u.2*v.2)=_;rw[a,b];exact Og _
def Fu{u v:Fr}(a:u.2=1)(b:v.2=1):eD u v=(u.1+v.1,1):=by
 show fr (u.1*v.2+v.1*u.2) (u.2*v.2)=_;rw[a,b,WO,WO];exact Og _
def NL{n:Int}(a:n<=m)(h:i<(Ó 0 n 3).toNat):(0:Int)+(i:Int)*3<m:=by
 unfold Ó at h;simp at h;split at h<;>lia
def xj{r:List Int}(h1:1<=r.length)(b:r.length<=8)(h:∀x∈r,x≠0/\x.natAbs<1073741824):aW r=Â:=by
 unfold aW;rw[Wr #[h1,b],Xb,WB];intro k a;unfold CL;exact Wr (h k a)
def G_(n:Nat)(T:Tb):Prop:=T.length=n/\∀r∈T,r.length=n/\∀u∈r,u.2=1/\u.1.natAbs<=3
def jL{u:Fr}(h:u.2=1/\u.1.natAbs<=3):cW u/\Sm 2 u.1/\Sm 1 u.2:=by
 obtain⟨a,b⟩:=u;have h1:b=1:=h.1;subst h1;exact#[uV a,by have:a.natAbs<=3:=h.2;show a.natAbs<2^2;lia,by show(1:Int).natAbs<2^1;decide]
def G_.sq{T:Tb}(h:G_ n T):Sq n T:=#[h.1,λr a=>(h.2 r a).1,λr a u b=>(jL ((h.2 r a).2 u b)).1]
def G_.pl{row:List Int}{T:Tb}(c:aW row=Â)(h:G_ row.length T):Hm row T:=#[c,h.sq,λr b=>#[by rw[(h.2 r b).1];exact(aM c).2,λu a=>(jL ((h.2 r b).2 u a)).1,λu a=>(jL ((h.2 r b).2 u a)).2.1.le .b,λu a=>(jL ((h.2 r b).2 u a)).2.2.le .b]]
def G_.tk{T:Tb}(h:G_ n T)(c:n<=8):TK n (vx T):=jU (by rw[h.1];lia) λr a=>#[(h.2 r a).1,λu b=>#[(jL ((h.2 r a).2 u b)).2.1.le .b,(jL ((h.2 r a).2 u b)).2.2.le .b]]
def Kx{us:List Fr}(b:us.length=n)(h:∀u∈us,cW u):gp #[.list (us.map iL)] (n:Int)=Â:=by
 show(decide (((us.map iL).length:Int)=n)&&((us.map iL).map Dt.mk).all fL)=Â;rw[V2,Wr .a,Xb,W8,Yd];exact WB.mpr λu a=>Ey (h u a)
def NX{T:Tb}(h:Sq n T):i8 #[vx T] (n:Int)=Â:=by
 show(decide (((T.map λr=>î (r.map iL)).length:Int)=n)&&((T.map λr=>î (r.map iL)).map Dt.mk).all (λe=>gp e n))=Â;rw[V2,Wr (by have:=h.len;lia),Xb,W8,Yd];exact WB.mpr λr a=>Kx (h.row r a) (h.low r a)
theorem BK{row:List Int}{T:Tb}{n:Nat}(g:∀x∈row,x.natAbs<=29)(h:G_ row.length T){i j:Int}(hi:i.toNat<row.length)(l:j.toNat<row.length):∀k,k<=row.length->(kh row T i j k).2=1/\(kh row T i j k).1.natAbs<=261*k
 |0,_=>#[rfl,XB _]
 |k+1,o=>by
  obtain⟨a,p⟩:=BK (n:=n) g h hi l k .a;have b:T.getD k []∈T:=Q.getD_mem (by rw[h.1];lia);have lc:=(h.2 _ b).1;have u0:=(h.2 _ b).2 _ (Q.getD_mem (d:=(0,1)) (show i.toNat<(T.getD k []).length by lia));have f:=(h.2 _ b).2 _ (Q.getD_mem (d:=(0,1)) (show j.toNat<(T.getD k []).length by lia));have m:=g _ (Q.getD_mem (d:=0) (show k<row.length by lia));show(eD _ (br _ (br _ _))).2=1/\(eD _ (br _ (br _ _))).1.natAbs<=_;generalize kh row T i j k=c at *;generalize (T.getD k []).getD i.toNat (0,1)=u at *;generalize (T.getD k []).getD j.toNat (0,1)=v at *;generalize row.getD k 0=x at *;rw[vL u0.1 f.1,vL rfl rfl,Fu a rfl];refine#[rfl,?_];show(c.1+x*(u.1*v.1)).natAbs<=_
  have e:(x*(u.1*v.1)).natAbs<=29*(3*3):=by
   rw[Xd,Xd];exact ρ m (ρ u0.2 f.2)
  lia
def Oa(row:List Int)(T:Tb):List Int:=(fA 0 1 row.length).map λj=>(((lU row T).getD j.toNat []).getD j.toNat (0,1)).1
def NQ{row:List Int}{T:Tb}(d:aW row=Â)(f:∀x∈row,x.natAbs<=29)(h:G_ row.length T):(Oa row T).length=row.length/\∀x∈Oa row T,x.natAbs<=2088:=by
 refine#[by unfold Oa;rw[V2,bz],λx c=>?_];obtain⟨j,b,rfl⟩:=V3.mp c;rw[dN] at b;have a:=cI b
 have e:((lU row T).getD j.toNat []).getD j.toNat (0,1)=kh row T j j row.length:=by
  unfold lU;rw[getD_map (e:=0) (by rw[cw];lia),getD_map (e:=0) (by rw[cw];lia),sJ .a,X2 a.1]
 rw[e];have:=(BK (n:=0) f h (i:=j) (j:=j) .a .a row.length (V_ _)).2;have:=(aM d).2;lia
def Lh{row o:List Int}{T:Tb}(b:aW row=Â)(h:G_ row.length T)(c:o.length=row.length)(d:∀x∈o,x.natAbs<=2088):ou row #[.list (o.map .int)] #[vx T]=(!decide ((0:Int)∈o)&&decide (lU row T=bL o)):=by
 have f:=aM b;unfold ou;rw[Fo,lH,Kc,Wr c,Xb,NX h.sq,Xb,Js (h.pl b)];congr 1;by_cases z:(0:Int)∈o
 .rw[Wr z];refine XX.mpr λq=>?_;exact(de q z).1 rfl
 .rw[Wv z];exact xj .a .a λx a=>#[λe=>z (e▸a),by have:=d x a;lia]
theorem GU:∀(row:List Int) (us:List Fr) (a:Int),(∀u∈us,u.2=1)->(row.zip us).foldl (λt p=>eD t (br (p.1,1) (br p.2 p.2))) (a,1)=(a+((row.zip us).map λp=>p.1*p.2.1*p.2.1).sum,1)
 |[],_,a,_=>by simp
 |_::_,[],a,_=>by simp
 |x::row,u::us,a,h=>by
  have b:=h u (Wu ..);rw[YM,ZO,vL b b,vL rfl rfl,Fu rfl rfl,GU row us _ λv c=>h v (We _ c),Wb,Y5];refine congrArg (λz=>((z,1):Fr)) ?_;show a+x*(u.1*u.1)+_=_;rw[Xj,aaU]
def NC{row:List Int}{us:List Fr}{c:Int}(f:tu row)(b:us.length=row.length)(h:∀u∈us,u.2=1/\u.1.natAbs<=3):BC row #[.int c] #[.list (us.map iL)]=decide (((row.zip us).map λp=>p.1*p.2.1*p.2.1).sum=c):=by
 have d:∀u∈us,cW u:=λu a=>(jL (h u a)).1;unfold BC;rw[Kx b d,Bw,Hz f b d];show(Â&&(Â&&decide (Nx row us=(c,1))))=_;rw[Xb,Xb,show Nx row us=(((row.zip us).map λp=>p.1*p.2.1*p.2.1).sum,1) from (GU row us 0 λu a=>(h u a).1).trans (by rw[aaz])];rw[WW,WM,WM];exact#[λe=>congrArg Prod.fst e,λe=>by rw[e]]
def Nd{o:List Int}(h:i=0\/i=1/\2<=o.length):C6 o #[.int (i:Int)]=(decide ((i:Int)=0) || decide (o.getD 0 0=0-o.getD 1 0)):=by
 rcases h with rfl|⟨rfl,h⟩
 .show(decide (0<=2*((0:Nat):Int)/\2*((0:Nat):Int)<=(o.length:Int))&&_)=_;rw[Wr .a];rfl
 .show(decide (0<=2*((1:Nat):Int)/\2*((1:Nat):Int)<=(o.length:Int))&&((iM 1).all λi=>decide (o.getD (2*i).toNat 0=-o.getD (2*i+1).toNat 0)))=_;rw[Wr .a];show(Â&&(decide (o.getD 0 0=-o.getD 1 0)&&Â))=(Á || _);rw[Xb,aai,υ,Int.zero_sub]
def LC{row:List Int}{z:Ï}:BW row #[.tuple [.str "zero",z]]=Fz row #[z]:=by
 show DF row #[.str "zero"] #[z]=_;unfold DF;exact V6 .d
def Mf{row:List Int}{p:Int}:BW row #[.tuple [.str "none",.int p]]=yR row p:=by
 show DF row #[.str "none"] #[.int p]=_;unfold DF;rw[V4 .d,show kE #[.str "none"] "none"=Â by decide +kernel];rfl
def JG{row:List Int}{c:Ï}:BW row #[.tuple [.str "makes",c,x]]=BC row #[c] #[x]:=by
 show Dq row #[.str "makes"] #[c] #[x]=_;unfold Dq;exact V6 .d
def Eb{row:List Int}{c:Ï}:BW row #[.tuple [.str "change",c,x]]=ou row #[c] #[x]:=by
 show Dq row #[.str "change"] #[c] #[x]=_;unfold Dq;rw[V4 .d];exact V6 .d
def JI{row:List Int}{a:Ï}:BW row #[.tuple [.str "pairs",a,o,x]]=(ou row #[o] #[x]&&C6 (inD o) #[a]):=by
 show(kE #[.str "pairs"] "pairs"&&_)=_;rw[show kE #[.str "pairs"] "pairs"=Â by decide +kernel];rfl
def uk{k:Int}{m:Nat}(h:k.natAbs<2^16)(l:autoParam (16<=m) zrb):Sm m k:=(show Sm 16 k from h).le l
abbrev V0(P w K mg base):=aK P w K mg base 2 "_law_odd" ["_law_row_here","_law_cell"] (bO K (fun(r:List Int) (_:Int)=>wN r) Á M4)
abbrev VZ(P w K mg base):=aK P w K mg base 1 "_law_row" ["_law_cell","_law_size"] (C4 K (fun(_ m:Int)=>1<=m/\m<=8) Â (λ_ m r=>Fv m.toNat r))
abbrev VY(P w K mg base):=aK P w K mg base 14 "_law_lets" ["_law_row_here","_law_paper"] (bO K DO Â BW)
abbrev VX(P w K mg base):=aK P w K mg base 1 "_law_upright" ["_law_row_here"] (dU K (fun(r:List Int)=>r.length<=8/\∀x∈r,Sm 100 x) Â DV)
abbrev VW(P w K mg base):=aK P w K mg base 2 "_law_prime_from" ["_law_k"] (dU K (λk=>k<=PB) Â pf)
abbrev VV(P w K mg base):=aK P w K mg base 1 "_law_deep" ["_law_script","_law_k"] (bO K (λ_ k=>0<=k/\k<=100) Â deep)
def OF(R_:⇑VV)(R5:⇑VW)(S8:⇑aK 4 "_law_led" ["_law_row_here","_law_table"] (bO K Hm Â lU))(Sl:⇑VX)(RJ:⇑VY)(S9:⇑VZ)
  (Sd:⇑aK 2 "_law_no_place" ["_law_row_here","_law_p"] (bO K Pm Â yR)) (S_:⇑V0) (Sn:⇑aK 7 "_law_no_rows" [] (Ht K Â (fun(r:Bool)=>r=Â))) (xs:List Int) (hl:xs.length<=63):
  Body P w K mg base m6 "law" lP f 14 [.val Á xs] (RT Â Â):=by
 intro cdv A outer s H E J;have hPB:PB=1070000011:=rfl;have hl':(if (xs.length:Int)<9 then (xs.length:Int) else 9)<=9/\0<=(if (xs.length:Int)<9 then (xs.length:Int) else 9):=by split<;>lia
 refine pW (λi U=>∃r1 r2 r3 r4 r5 r6 r7 r8 r9 σ W qb y I O N G g l,U=[À (.val Á xs),r1,r2,r3,r4,r5,r6,r7,r8,r9,σ,W,qb,y,I,O,N,G,g,l]) rfl B.range (bW 1 cK.nd) ag (bt (xO rfl rfl B.min ag (aY rfl B.len .A)) ag) ag #[.b,.b,.a,.a] .b #[none,none,none,none,none,none,none,none,none,none,none,none,none,none,none,none,none,none,none,rfl] ?_ ?_
 .rintro i U' hi ⟨r1,r2,r3,r4,r5,r6,r7,r8,r9,σ,W,qb,y,I,O,N,G,g,l,rfl⟩;have hi':=NL (m:=10) .a hi;refine ao 2 cK.nd (av R_ (J.mono .b) rfl .A .B #[.a,.a]) ?_;generalize deep xs ((0:Int)+(i:Int)*3)=c at *;have z4:=d_ (a:=c) (b:=4) .b;refine GQ 3 cK.nd (xX S9 (J.mono .b) rfl (a8 .C ag wL) (bt ag (aS .C ag .b)) #[.a,.a]) ?_;intro row hR;have Γ:Fv (1+c.fmod 4).toNat row:=hR;obtain⟨n1,n4,hx⟩:1<=row.length/\row.length<=4/\∀x∈row,x≠0/\x.natAbs<=29:=#[by rw[Γ.1];lia,by rw[Γ.1];lia,Γ.2];clear hR Γ;have α:aW row=Â:=xj .a .a λx h=>#[(hx x h).1,by have:=(hx x h).2;lia];have oq:wN row:=#[α,λa ha=>(hx a ha).2];have sr:=oq.Fl;refine ao 4 cK.nd (aY rfl B.len .D) ?_;refine ao 5 cK.nd (av R_ (J.mono .b) rfl .A (bt .B ag) #[.a,.a]) ?_;generalize deep xs ((0:Int)+(i:Int)*3+1)=d at *;refine ao 6 cK.nd (av R_ (J.mono .b) rfl .A (bt .B ag) #[.a,.a]) ?_;generalize deep xs ((0:Int)+(i:Int)*3+2)=e at *;refine lZ 7 (as:=fA 0 1 (row.length:Int).toNat) (f:=λj:Int=>((d.fdiv (7+j)).fdiv (5*j+1)).fmod 7-3) (b':=Â) cK.nd ["_law_j"] [5] (aX (ah lP) m6 rfl rfl .d) (cO rfl B.range (ae 4) .a .a) (aT 0) (λC s H fp=>bD 0 ["_law_j","_law_second"]) aP (λj u L C s H fp=>?_) (by rw[bz];lia) ?_
  .have hm:=cI (by rw[<-dN];exact bw L);exact dX (aS (a8 (a8 .B (bt ag .A) ((uk (m:=62) .a).div .a)) (bt (aH ag .A (mulL .b .b)) ag) ((uk (m:=62) .a).div .a)) ag .b) ag
  have v1:((fA 0 1 (row.length:Int).toNat).map λj:Int=>((d.fdiv (7+j)).fdiv (5*j+1)).fmod 7-3).length=row.length:=by rw[V2,bz,Wm]
  have v2:∀x∈(fA 0 1 (row.length:Int).toNat).map λj:Int=>((d.fdiv (7+j)).fdiv (5*j+1)).fmod 7-3,x.natAbs<2^60:=λx h=>by
   obtain⟨j,_,rfl⟩:=V3.mp h;have:=d_ (a:=(d.fdiv (7+j)).fdiv (5*j+1)) (b:=7) .b;lia
  generalize ((fA 0 1 (row.length:Int).toNat).map λj:Int=>((d.fdiv (7+j)).fdiv (5*j+1)).fmod 7-3)=vs at *;obtain⟨Z,hZ⟩:∃z,(vs.any (λx=>!decide (x=0))&&decide (An row vs=0))=z:=#[_,rfl];have eZ:BW row #[.tuple [.str "zero",.list (vs.map .int)]]=Z:=by rw[LC,xA,Wr v1,Xb,hZ]
  have pz:DO row #[.tuple [.str "zero",.list (vs.map .int)]]:=#[α,_,rfl,α,iE,λ_ ds e=>by
   cases e
   exact#[by rw[V2];lia,λk hk=>by
    obtain⟨x,hx,e⟩:=V3.mp hk;cases e
    exact v2 _ hx]]
  refine ao 8 cK.nd (jP (av RJ (J.mono .b) rfl (mf rfl B.list .D) (aQ (ds:=[#[.str "zero"],#[.list (vs.map .int)]]) (af (bj aR) (af (b5 (ae 7)) au)) (V1 rfl)) pz) eZ) ?_;have hr':∀x∈row,x.natAbs<1073741824:=λx h=>(de α h).2
  refine aJ (c:=Á) (x8 (ay (yz (M:=Bool) (gM J)) (ae 8) (cE (JX rfl rfl B.any (bC (f:=λx:Int=>!decide (x=0)) ["_law_x"] [] (aX (ah lP) m6 rfl rfl .d) (bh (ae 7)) (aT 0) (λC s H fp=>bD 0 ["_law_x"]) aP (λi u L C s H fp=>bx b8 .A ag) .a)) λ_=>(c8 (bx aB (xQ rfl rfl B.sum (bC (b':=Â) (f:=λu:Int×Int=>u.1*u.2*u.2) ["_law_a","_law_x"] [] (aX (ah lP) m6 rfl rfl .d) (oE rfl B.zip .D (ae 7)) (iu 0 1) (λC s H fp=>jA 0 1 ["_law_a","_law_x"]) dP (λi u L C s H fp=>aH (aH .A .B (vP hr' v2 L).1) .B (vP hr' v2 L).2) (by rw[X0];lia))) ag)))) (by
   rw[ϒ];have e:(vs.any (id∘λx:Int=>!decide (x=0))&&decide (((row.zip vs).map λu:Int×Int=>u.1*u.2*u.2).sum=0))=Z:=hZ;rw[e,Wr rfl]
   rfl)) (λR=>nomatch R) (λ_=>?_)
  refine lZ 9 (as:=fA 0 1 (row.length:Int).toNat) (f:=λi:Int=>(fA 0 1 (row.length:Int).toNat).map λj:Int=>(((e.fdiv (3+i)).fdiv (5+j)).fmod 5-2,(1:Int))) (b':=Â) cK.nd ["_law_i"] [4,6] (aX (ah lP) m6 rfl rfl .d) (cO rfl B.range (ae 4) .a .a) (aT 0) (λC s H fp=>bD 0 ["_law_i","_law_size","_law_third"]) aP (λj u L C s H fp=>bC (b':=Â) (f:=λj:Int=>(((e.fdiv (3+u)).fdiv (5+j)).fmod 5-2,(1:Int))) ["_law_j"] [0,2] (wC ["_law_i","_law_size","_law_third"] rfl .d) (cO rfl B.range .B .a .a) (aT 0) (λC s H fp=>bD 0 ["_law_j","_law_i","_law_third"]) aP (λj v hv C s H fp=>?_) (by rw[bz];lia)) (by rw[bz];lia) ?_
  .have hm:=cI (by rw[<-dN];exact bw L);have V:=cI (by rw[<-dN];exact bw hv);exact dR (a7 (dX (aS (a8 (a8 .C (bt ag .B) ((uk (m:=62) .a).div .a)) (bt ag .A) ((uk (m:=62) .a).div .a)) ag .b) ag) ag)
  have it:G_ row.length ((fA 0 1 (row.length:Int).toNat).map λi:Int=>(fA 0 1 (row.length:Int).toNat).map λj:Int=>(((e.fdiv (3+i)).fdiv (5+j)).fmod 5-2,(1:Int))):=by
   refine#[by rw[V2,bz,Wm],λr J=>?_];obtain⟨i,_,rfl⟩:=V3.mp J;refine#[by rw[V2,bz,Wm],λu L=>?_];obtain⟨j,_,rfl⟩:=V3.mp L;have:=d_ (a:=(e.fdiv (3+i)).fdiv (5+j)) (b:=5) .b;exact#[rfl,by show(((e.fdiv (3+i)).fdiv (5+j)).fmod 5-2).natAbs<=3;lia]
  generalize ((fA 0 1 (row.length:Int).toNat).map λi:Int=>(fA 0 1 (row.length:Int).toNat).map λj:Int=>(((e.fdiv (3+i)).fdiv (5+j)).fmod 5-2,(1:Int)))=T at *;have pl:=it.pl α;have X:=Bg pl;refine ao 10 cK.nd (av S8 (J.mono .b) rfl .D (ae 9) pl) ?_;refine lZ 11 (as:=fA 0 1 (row.length:Int).toNat) (f:=λj:Int=>(((lU row T).getD j.toNat []).getD j.toNat (0,1)).1) (b':=Â) cK.nd ["_law_j"] [10] (aX (ah lP) m6 rfl rfl .d) (cO rfl B.range (ae 4) .a .a) (aT 0) (λC s H fp=>bD 0 ["_law_j","_law_form"]) aP (λj u L C s H fp=>?_) (by rw[bz];lia) ?_
  .have hm:=cI (by rw[<-dN];exact bw L);have hm':u.toNat<row.length:=by lia
   have lr:=X.row _ (Q.getD_mem (d:=[]) (show u.toNat<(lU row T).length by rwa[X.len]));exact cj (bp (bp .B .A (jg (d:=[]) hm.1 (by rw[X.len];lia))) .A (jg (d:=(0,1)) hm.1 (by rw[lr];lia)))
  obtain⟨o1,o2⟩:=NQ α (λx h=>(hx x h).2) it;have ed:=Lh α it o1 o2;change S _ (List.set _ 11 (À (.val Â (Oa row T)))) _ _;generalize Oa row T=o at *;obtain⟨D,hD⟩:∃z,(!decide ((0:Int)∈o)&&decide (lU row T=bL o))=z:=#[_,rfl];rw[hD] at ed;refine ao 12 cK.nd (jP (cE (bx Jc ag (ae 11)) λ_=>(c8 (bx (xc (M:=Tb) (gM J)) (ae 10) (KI (rows:=bL o) (aD (f:=DV) (a:=o) Sl (J.mono .b) rfl (ae 11) #[.a,λk hk=>uk (by have:=o2 k hk;lia)]))))) hD) ?_;generalize lU row T=F at *;have le:II row #[.list (o.map .int)] #[vx T]:=#[α,λds e=>by cases e;rw[V2];lia,it.tk .a];have pc:DO row #[.tuple [.str "change",.list (o.map .int),vx T]]:=#[α,_,rfl,α,iE,ef,λ_=>le,ef];refine aJ (c:=Á) (x8 (ay (yz (M:=Bool) (gM J)) (jP (av RJ (J.mono .b) rfl (mf rfl B.list .D) (aQ (ds:=[#[.str "change"],#[.list (o.map .int)],#[vx T]]) (af (bj aR) (af (b5 (ae 11)) (af (gW (ae 9)) au))) (V1 rfl)) pc) (Eb.trans ed)) (ae 12)) (by rw[Wr rfl];rfl)) (λR=>nomatch R) (λ_=>?_)
  have m2:(if 1+((row.length:Int)).fdiv 2<2 then 1+((row.length:Int)).fdiv 2 else 2)<=2/\0<=(if 1+((row.length:Int)).fdiv 2<2 then 1+((row.length:Int)).fdiv 2 else 2)/\(1<(if 1+((row.length:Int)).fdiv 2<2 then 1+((row.length:Int)).fdiv 2 else 2)->2<=row.length):=by
   rw[Ws _ .b];split<;>lia
  refine b_ (n:=if 1+((row.length:Int)).fdiv 2<2 then 1+((row.length:Int)).fdiv 2 else 2) (λm U=>∃y I O N G g l,U=[À (.val Á xs),À (.val Â ((0:Int)+(i:Int)*3)),À (.val Â c),À (.val Â row),À (.val Â (row.length:Int)),À (.val Â d),À (.val Â e),À (.val Â vs),À (.val Â Z),À (.val Â T),À (.val Â F),À (.val Â o),À (.val Â D),y,I,O,N,G,g,l]) rfl B.range (bW 13 cK.nd) (xO rfl rfl B.min ag (bt ag (a8 (ae 4) ag wL))) .a .a #[_,_,_,_,_,_,_,rfl] ?_ ?_
  .rintro m U' hm ⟨y,I,O,N,G,g,l,rfl⟩
   have V:m=0\/m=1/\2<=o.length:=by
    have:=m2.1;by_cases z:m=0
    .exact .inl z
    .exact .inr #[.a,by rw[o1];exact m2.2.2 .a]
   have pp:DO row #[.tuple [.str "pairs",.int (m:Int),.list (o.map .int),vx T]]:=#[α,_,rfl,iE,le];have eh:=Nd V;obtain⟨Hh,hH⟩:∃z,(decide ((m:Int)=0) || decide (o.getD 0 0=0-o.getD 1 0))=z:=#[_,rfl];rw[hH] at eh;refine ao 14 cK.nd (b:=Â) (a:=D&&Hh) (cE (b1:=Â) (b2:=Â) (ae 12) λ_=>?_) ?_
   .by_cases z:m=0
    .have e0:Hh=(decide ((m:Int)=0) || true):=by rw[<-hH,z];rfl
     rw[e0];exact c8 (yV (b2:=Â) (bx aB (ae 13) ag) λq=>absurd q (by rw[z];decide))
    .have lo:=(V.resolve_left z).2;exact jP (c8 (yV (bx aB (ae 13) ag) λ_=>c8 (bx aB (bp (ae 11) ag (jg (d:=0) .b .a)) (dX ag (bp (ae 11) ag (jg (d:=0) .b .a)))))) hH
   refine aJ (c:=Á) (x8 (ay (yz (M:=Bool) (gM J)) (jP (av RJ (J.mono .b) rfl (mf rfl B.list .D) (aQ (ds:=[#[.str "pairs"],#[.int (m:Int)],#[.list (o.map .int)],#[vx T]]) (af (bj aR) (af (i9 (ae 13)) (af (b5 (ae 11)) (af (gW (ae 9)) au)))) (V1 rfl)) pp) (JI.trans (by rw[ed,lH,eh]))) (ae 14)) (by rw[Wr rfl];rfl)) (λR=>nomatch R) (λ_=>?_);exact aO #[_,_,_,_,_,_,_,rfl]
  rintro U' ⟨y,I,O,N,G,g,l,rfl⟩;refine ao 15 cK.nd (bt ag (aS (a8 (ae 5) ag wL) ag .b)) ?_;generalize 1+(d.fdiv 11).fmod 60=w';refine lZ 16 (as:=fA 0 1 (row.length:Int).toNat) (f:=λj:Int=>((d.fdiv (3+j)).fmod 7-3,(1:Int))) (b':=Â) cK.nd ["_law_j"] [5] (aX (ah lP) m6 rfl rfl .d) (cO rfl B.range (ae 4) .a .a) (aT 0) (λC s H fp=>bD 0 ["_law_j","_law_second"]) aP (λj u L C s H fp=>?_) (by rw[bz];lia) ?_
  .have hm:=cI (by rw[<-dN];exact bw L);exact dR (a7 (dX (aS (a8 .B (bt ag .A) ((uk (m:=62) .a).div .a)) ag .b) ag) ag)
  have u1:((fA 0 1 (row.length:Int).toNat).map λj:Int=>((d.fdiv (3+j)).fmod 7-3,(1:Int))).length=row.length:=by rw[V2,bz,Wm]
  have u2:∀u∈(fA 0 1 (row.length:Int).toNat).map λj:Int=>((d.fdiv (3+j)).fmod 7-3,(1:Int)),u.2=1/\u.1.natAbs<=3:=λu h=>by
   obtain⟨j,_,rfl⟩:=V3.mp h;have:=d_ (a:=d.fdiv (3+j)) (b:=7) .b;exact#[rfl,by show((d.fdiv (3+j)).fmod 7-3).natAbs<=3;lia]
  generalize ((fA 0 1 (row.length:Int).toNat).map λj:Int=>((d.fdiv (3+j)).fmod 7-3,(1:Int)))=us at *;have em:=NC (c:=w') sr u1 u2
  have pm:DO row #[.tuple [.str "makes",.int w',.list (us.map iL)]]:=#[α,_,rfl,α,iE,λ_=>#[sr,λds e=>by
   cases e;refine#[by rw[V2];lia,λu L=>?_];obtain⟨v,hv,e⟩:=V3.mp L;rw[<-DT e];have:=jL (u2 v hv)
   exact#[this.2.1.le .b,this.2.2.le .b]],ef,ef]
  refine aJ (c:=Á) (x8 (ay (yz (M:=Bool) (gM J)) (jP (av RJ (J.mono .b) rfl (mf rfl B.list .D) (aQ (ds:=[#[.str "makes"],#[.int w'],#[.list (us.map iL)]]) (af (bj aR) (af (i9 (ae 15)) (af (xH (ae 16)) au))) (V1 rfl)) pm) (JG.trans em)) (bx aB (xQ rfl rfl B.sum (bC (b':=Â) (f:=λu:Int×Fr=>u.1*u.2.1*u.2.1) ["_law_a","_law_x"] [] (aX (ah lP) m6 rfl rfl .d) (oE rfl B.zip .D (ae 16)) (iu 0 1) (λC s H fp=>jA 0 1 ["_law_a","_law_x"]) dP (λi u L C s H fp=>?_) (by rw[X0];lia))) (ae 15))) (by rw[Wr rfl];rfl)) (λR=>nomatch R) (λ_=>?_)
  .have mz:=XZ (bw L);have a1:Sm 20 u.1:=sr.2 _ mz.1;have a2:=(jL (u2 _ mz.2)).2.1;exact aH (aH .A (cj .B) (a1.ok a2)) (cj .B) ((a1.mul a2).ok a2)
  have zq:=d_ (a:=e.fdiv 7) (b:=60) .b;have q1:=F1 (k:=(e.fdiv 7).fmod 60) .a
  have q2:pf ((e.fdiv 7).fmod 60)<200:=by
   have:=OR (k:=(e.fdiv 7).fmod 60) .a;lia
  refine oK (xs:=[0,2,3,5,7,pf ((e.fdiv 7).fmod 60)]) (b:=Â) (λm U=>∃y I G g l,U=[À (.val Á xs),À (.val Â ((0:Int)+(i:Int)*3)),À (.val Â c),À (.val Â row),À (.val Â (row.length:Int)),À (.val Â d),À (.val Â e),À (.val Â vs),À (.val Â Z),À (.val Â T),À (.val Â F),À (.val Â o),À (.val Â D),y,I,À (.val Â w'),À (.val Â us),G,g,l]) (bW 17 cK.nd) (a_ (af ag (af ag (af ag (af ag (af ag (af (aD R5 (J.mono .b) rfl (aS (a8 (ae 6) ag wL) ag .b) .a) au)))))) (V1 rfl)) #[_,_,_,_,_,rfl] ?_ ?_
  .rintro m p U' hp' ⟨y,I,G,g,l,rfl⟩
   have pq:Pm row p:=by
    have:=bw hp';simp only[V8,WV,XY] at this;refine#[α,?_];rcases this with rfl|rfl|rfl|rfl|rfl|rfl
    .exact#[.inl rfl,.b]
    .exact#[.inr (nH _ .b),.b]
    .exact#[.inr (nH _ .b),.b]
    .exact#[.inr (nH _ .b),.b]
    .exact#[.inr (nH _ .b),.b]
    .exact#[.inr q1,q2]
   have pn:DO row #[.tuple [.str "none",.int p]]:=#[α,_,rfl,α,iE,ef];refine ao 18 cK.nd (jP (av RJ (J.mono .b) rfl (mf rfl B.list .D) (aQ (ds:=[#[.str "none"],#[.int p]]) (af (bj aR) (af (i9 (ae 17)) au)) (V1 rfl)) pn) Mf) ?_
   refine aJ (c:=Á) (x8 (TW.t (bV (ay (yz (M:=Bool) (gM J)) (ae 18) (av Sd (J.mono .b) rfl .D (ae 17) pq)) λ_=>di (TW.t (kN (bP (ae 18)) λ_=>jC (bP (ae 8)))))) (by
    rw[Wr rfl];show(yR row p&&Z)=Á;cases hz:Z with
    |false=>exact Xa _
    |true =>
     rw[hz] at hZ;obtain⟨h1,h2⟩:=Xh.mp hZ;obtain⟨x,hx1,hx2⟩:=X7.mp h1;rw[FK α v1 #[x,hx1,↑hx2] (Xq h2)]
     rfl)) (λR=>nomatch R) (λ_=>?_)
   exact aO #[_,_,_,_,_,rfl]
  rintro U' ⟨y,I,G,g,l,rfl⟩;have ok:=K3 (c:=e) oq;refine oK (xs:=(M4 row e).take (ċ 20)) (b:=Á) (λm U=>∃y I G g l,U=[À (.val Á xs),À (.val Â ((0:Int)+(i:Int)*3)),À (.val Â c),À (.val Â row),À (.val Â (row.length:Int)),À (.val Â d),À (.val Â e),À (.val Â vs),À (.val Â Z),À (.val Â T),À (.val Â F),À (.val Â o),À (.val Â D),y,I,À (.val Â w'),À (.val Â us),G,g,l]) (bW 19 cK.nd) (O4 (av S_ (J.mono .b) rfl .D (ae 6) oq) ag .b) #[_,_,_,_,_,rfl] ?_ ?_
  .rintro m p U' hp' ⟨y,I,G,g,l,rfl⟩;obtain⟨k1,k2⟩:=ok p (ň (bw hp'));refine aJ (c:=Á) (x8 (ay CB (av RJ (J.mono .b) rfl (mf rfl B.list .D) (ae 19) k1) dh) (by rw[k2];rfl)) (λR=>nomatch R) (λ_=>?_);exact aO #[_,_,_,_,_,rfl]
  rintro U' ⟨y,I,G,g,l,rfl⟩;exact aO #[_,_,_,_,_,_,_,_,_,_,_,_,_,_,_,_,_,_,_,rfl]
 .rintro U' ⟨r1,r2,r3,r4,r5,r6,r7,r8,r9,σ,W,qb,y,I,O,N,G,g,l,rfl⟩;exact D8 (GB Sn (J.mono .b) rfl) (λa h=>by rw[h];rfl)
end
open PySem PySem.Spec PyProof.Rows
open Q (Fr)
def fin{g:Ò}{w:Û}{K:Ã}{h:Ý}{mg:Í->Option Å}{Z:Æ}(X:K.In h)(G:h.Ns Ê mg)(E:mg "law"=À (.ref Z))(B:Bu mg)
  {cF cT cN cR cS:Æ} (xs:Xs K mg cF cT cN cR cS) (Rn:sY mg "GREAT_PRIMES_FROM" 32768) (D:sY mg "GREAT_FROM" 1073741824) (RN:sY mg "LONGEST" 8) (RC:sY mg "LIFTED_FROM" 4) (S:Df K "is_whole" jG) (Us:Df K "power_by" l4) (Ud:Df K "taken_out" kH) (TN:Df K "square_root" iH) (SI:Df K "square_root_or_none" dm) (To:Df K "common_divisor" fw) (Ut:Df K "fraction" gG) (TC:Df K "next_divisor" gZ) (Uu:Df K "is_prime" mx) (UD:Df K "divided" oU) (T9:Df K "tame_parts" jK) (UT:Df K "power" we) (UU:Df K "freed" uW) (UE:Df K "free_of" oW) (Ue:Df K "square_by" kM) (UG:Df K "back_by" oQ) (Tc:Df K "least_no_square" eW) (Ug:Df K "squarings" kq) (Tp:Df K "root_of_square" fg) (Tu:Df K "root_by_prime" gd) (Uv:Df K "class_at" ma) (Uw:Df K "two_says" l9) (Ux:Df K "odd_says" lV) (UX:Df K "says" Al) (σ:Df K "is_row_number" eB) (O:Df K "is_row" fP) (Γ:Df K "refuse_no_row" eA) (TF:Df K "is_square_at" g7) (Td:Df K "three_have_zero" eO) (Tq:Df K "four_have_zero" fq) (Uh:Df K "have_zero" kD) (SV:Df K "root_by_odd_power" dS) (SH:Df K "root_by_power_of_two" c6) (UQ:Df K "lifted" ka) (Ta:Df K "zero_of_three_by" eC) (SW:Df K "zero_of_undivided" dW) (Ua:Df K "zero_among" gw) (TQ:Df K "zero_by_odd" dg) (TH:Df K "further_sums" gQ) (TR:Df K "zero_by_two" iP) (UH:Df K "zero_by" oz) (UR:Df K "column" nE) (TU:Df K "turned_over" fE) (Tv:Df K "common_bottom" gh) (Te:Df K "over_one_bottom" dq) (Tg:Df K "sum_of_products" dw) (Ui:Df K "sums_with" ij) (U0:Df K "at" Ji) (UI:Df K "product" jh) (UY:Df K "led" FA) (UW:Df K "value" uX) (TV:Df K "with_number" fK) (UJ:Df K "form_of" k6) (TX:Df K "is_fraction" d9) (Uj:Df K "is_vector" eJ) (Uy:Df K "is_table" fi) (TY:Df K "form_of_row" fD) (US:Df K "is_led" qY) (UK:Df K "is_zero" eM) (UL:Df K "come_to" ow) (Uk:Df K "is_barred" eK) (Ub:Df K "row_behind" jz) (Th:Df K "is_led_by_steps" bS) (Ti:Df K "has_pairs_ahead" bU) (TZ:Df K "lets_two_by" iA) (Tw:Df K "lets_three_by" f_) (TM:Df K "lets_by" kO) (Uz:Df K "_law_deep" gX) (Ul:Df K "_law_prime" ky) (Ts:Df K "_law_prime_from" fj) (Um:Df K "_law_power" kL) (Uc:Df K "_law_common" jy) (T4:Df K "_law_zero_by" iK) (TJ:Df K "_law_fraction" dA) (UA:Df K "_law_plus" mj) (Uo:Df K "_law_times" kA) (UM:Df K "_law_led" oI) (T5:Df K "_law_upright" fF) (Up:Df K "_law_plain" ia) (UN:Df K "_law_row" oY) (UB:Df K "_law_lets" me) (UC:Df K "_law_free" lY) (Uq:Df K "_law_alone" fR) (T6:Df K "_law_refused" iG) (T7:Df K "_law_no_rows" fI) (TL:Df K "_law_no_place" cL) (UO:Df K "_law_odd" kP) (UZ:Df K "law" lP):
  ∃fd:ì,(∀(s:Ç) (u:Å),Ģ s fd #[[u],[]] [("_law_script",u)])/\∀base:Ý,K.In base->base.Ns Ê mg->dY g w K mg base nQ 15 Z fd ["_law_script"] (ya K):=by
 refine Jn UZ X G E (λ_ _ _ _ _ _ s u=>.of_eq rfl) λbase _ _ f fd F=>?_;have SN:Vc g w K mg base:=S.c1 X G λf fd F=>p9 F pJ rfl λa _=>zf B a;have RI:U8 g w K mg base:=Us.c3 X G λf fd F=>DL F cV rfl λa b c hp=>zJ a b c hp.1 hp.2.1 hp.2.2;have z:U4 g w K mg base:=Ud.c2 X G λf fd F=>iW F eT rfl λa b hp=>yn a b hp.1 hp.2.1 hp.2.2;have RF:U1 g w K mg base:=TN.c1 X G λf fd F=>p9 F gS rfl λa hp=>tW a hp.1 hp.2;have RM:U5 g w K mg base:=SI.c1 X G λf fd F=>p9 F eP rfl λa hp=>j3 RF a hp;have I:U2 g w K mg base:=To.c2 X G λf fd F=>iW F dt rfl λa c _=>oN B a c;have RV:U7 g w K mg base:=Ut.c2 X G λf fd F=>iW F kf rfl λa c hp=>Az I a c hp.1 hp.2;have R:U3 g w K mg base:=TC.c3 X G λf fd F=>DL F jQ rfl λa b c hp=>qW B RF a b c hp;have SO:aK g w K mg base 3 "is_prime" ["k"] (dU K (λk=>k<2^62) Â bg):=Uu.c1 X G λf fd F=>p9 F xD rfl λa hp=>zP R a hp;have SX:aK g w K mg base 3 "divided" ["k","end"] (bO K Qi Â bG):=UD.c2 X G λf fd F=>iW F dD rfl λa c hp=>CD z R a c hp;have Sr:aK g w K mg base 4 "tame_parts" ["k"] (dU K (λk=>1<=k/\Sm 900 k) Â Lb):=T9.c1 X G λf fd F=>p9 F iw rfl λa hp=>vw Rn D SX RM a hp;have m:U6 g w K mg base:=UT.c2 X G λf fd F=>iW F nG rfl λa c hp=>Iy B a c hp;have Tz:aK g w K mg base 5 "freed" ["u"] (dU K Pu Â Oh):=UU.c1 X G λf fd F=>p9 F gO rfl λa hp=>JK B m RV Sr a hp;have S0:aK g w K mg base 6 "free_of" ["k"] (dU K QC Â lI):=UE.c1 X G λf fd F=>p9 F zx rfl λa hp=>Cs Tz a hp;have q:U9 g w K mg base:=Ue.c2 X G λf fd F=>iW F mI rfl λa b hp=>xC RI a b hp.1 hp.2;have o:Vh g w K mg base:=UG.c2 X G λf fd F=>iW F bY rfl λa c hp=>Ct a c hp.1 hp.2.1 hp.2.2;have RW:U_ g w K mg base:=Tc.c1 X G λf fd F=>p9 F eI rfl λa hp=>mX q a hp.1 hp.2;have Sy:aK g w K mg base 1 "squarings" ["k","p"] (bO K P0 Â ju):=Ug.c2 X G λf fd F=>iW F gq rfl λa c hp=>yH a c hp;have R0:aK g w K mg base 4 "root_of_square" ["k","p"] (bO K PL Â G8):=Tp.c2 X G λf fd F=>iW F aL rfl λa c hp=>pe B z RI RW Sy a c hp;have Rz:Vk g w K mg base:=Tu.c2 X G λf fd F=>iW F jd rfl λa c hp=>p4 q R0 a c hp;have RO:Va g w K mg base:=Uv.c2 X G λf fd F=>iW F kd rfl λa b hp=>y8 z q a b hp.1 hp.2.1 hp.2.2;have SK:aK g w K mg base 1 "two_says" ["one","other"] (bO K (λ_ _=>True) Â yI):=Uw.c2 X G λf fd F=>iW F fO rfl λa b _=>zZ a b;have SM:Vb g w K mg base:=Ux.c3 X G λf fd F=>DL F fU rfl λa b c hp=>Au q a b c hp;have T8:Ve g w K mg base:=UX.c3 X G λf fd F=>DL F vp rfl λa b c hp=>Lx RO SK SM a b c hp.1 hp.2.1 hp.2.2;have R6:aK g w K mg base 2 "is_row_number" ["k"] (dU K (fun(_:Int)=>True) Â CL):=σ.c1 X G λf fd F=>p9 F i6 rfl λa _=>p_ B D SN a;have Tj:Vd g w K mg base:=O.c1 X G λf fd F=>p9 F uD rfl λa hp=>G4 B RN R6 a hp;have RA:Vn g w K mg base:=Γ.c1 X G λf fd F=>QA F jb rfl λa hp=>pY Tj a hp;have RE:Vf g w K mg base:=TF.c2 X G λf fd F=>iW F p5 rfl λa b hp=>qN RO a b hp;have Rv:Vg g w K mg base:=Td.c4 X G λf fd F=>Ob F l3 rfl λa b c d hp=>mG T8 a b c d hp;have R1:aK g w K mg base 6 "four_have_zero" ["numbers","p"] (bO K Qy Â jR):=Tq.c2 X G λf fd F=>iW F h_ rfl λa b hp=>oB RE Rv a b hp;have Sz:aK g w K mg base 7 "have_zero" ["numbers","p"] (bO K Qt Â jR):=Uh.c2 X G λf fd F=>iW F wD rfl λa b hp=>xY B RE Rv R1 a b hp;have RQ:Vi g w K mg base:=SV.c4 X G λf fd F=>Ob F bM rfl λa b c d hp=>lB B m o a b c d hp;have RK:Vj g w K mg base:=SH.c2 X G λf fd F=>iW F ba rfl λa b hp=>jD B a b hp;have P:Vl g w K mg base:=UQ.c4 X G λf fd F=>Ob F ft rfl λa b c d hp=>FO B m o RQ RK a b c d hp;have RU:aK g w K mg base 6 "zero_of_three_by" ["numbers","p"] (bO K O_ Â Oi):=Ta.c2 X G λf fd F=>iW F cJ rfl λa b hp=>lW B o Rz a b hp;have RS:aK g w K mg base 7 "zero_of_undivided" ["numbers","p"] (bO K Ng Â BF):=SW.c2 X G λf fd F=>iW F fT rfl λa b hp=>lD B o Rz RU a b hp;have R7:Vm g w K mg base:=Ua.c4 X G λf fd F=>Ob F fB rfl λa b c d hp=>vo B RS a b c d hp;have Sg:aK g w K mg base 9 "zero_by_odd" ["row","p","k"] (nV K Pd Â D5):=TQ.c3 X G λf fd F=>DL F dG rfl λa b c hp=>tS B P R7 a b c hp;have Sa:aK g w K mg base 1 "further_sums" ["sums","a","m"] (C3 K Qs Â Pr):=TH.c3 X G λf fd F=>N0 F c9 rfl λa b c hp=>qV B a b c hp;have Sf:Vo g w K mg base:=TR.c2 X G λf fd F=>NN F cM rfl λa b hp=>tD B RC m Sa P a b hp;have S2:VD g w K mg base:=UH.c3 X G λf fd F=>N0 F zg rfl λa b c hp=>Cq RA Sf Sg a b c hp;have Tn:Vp g w K mg base:=UR.c2 X G λf fd F=>iW F CU rfl λT j hp=>Ez T j hp.1 hp.2.1 hp.2.2;have J:Vt g w K mg base:=TU.c1 X G λf fd F=>p9 F rD rfl λT hp=>hp.elim λn h=>tO B Tn n T h;have R8:aK g w K mg base 2 "common_bottom" ["numbers"] (dU K g_ Â c_):=Tv.c1 X G λf fd F=>p9 F dO rfl λus h=>p7 I us h;have y:Vr g w K mg base:=Te.c1 X G λf fd F=>p9 F g6 rfl λus h=>mZ R8 us h;have Rw:Vq g w K mg base:=Tg.c2 X G λf fd F=>iW F gI rfl λa b h=>oa B RV a b h.1 h.2;have V:Vs g w K mg base:=Ui.c2 X G λf fd F=>iW F vQ rfl λa b h=>xU Rw a b h.1 h.2.1 h.2.2;have UP:Vv g w K mg base:=U0.c2 X G λf fd F=>iW F JU rfl λT x h=>PR y V T x h.1 h.2.1 h.2.2;have Sv:Vu g w K mg base:=UI.c2 X G λf fd F=>iW F sQ rfl λA B h=>h.elim λn h=>Cn J y V n A B h.1 h.2;have Ur:aK g w K mg base 6 "led" ["F","T"] (bO K Pa Â zB):=UY.c2 X G λf fd F=>iW F Lz rfl λF T hp=>OM J Sv F T hp;have TB:aK g w K mg base 6 "value" ["F","x"] (bO K N2 Â Kn):=UW.c2 X G λf fd F=>iW F FU rfl λF x hp=>Hs y Rw UP F x hp;have Sh:Vw g w K mg base:=TV.c3 X G λf fd F=>DL F sC rfl λn p u hp=>tU B n p u hp.1 hp.2;have SY:Vy g w K mg base:=UJ.c1 X G λf fd F=>p9 F Ax rfl λus hp=>CF B Sh us hp;have i:Vx g w K mg base:=S.c1 X G λf fd F=>p9 F pJ rfl λa _=>yK B a;have Si:aK g w K mg base 2 "is_fraction" ["thing"] (dU K (fun(_:Dt)=>True) Â fL):=TX.c1 X G λf fd F=>p9 F rL rfl λa _=>tE B i I a;have RL:Vz g w K mg base:=Uj.c2 X G λf fd F=>iW F wx rfl λa c hp=>xq B Si a c hp;have So:VB g w K mg base:=Uy.c2 X G λf fd F=>iW F xv rfl λa c hp=>Aq B RL a c hp;have R4:aK g w K mg base 2 "is_row_number" ["k"] (dU K (fun(_:Dt)=>True) Â Hf):=σ.c1 X G λf fd F=>p9 F i6 rfl λa _=>pg B D i a;have t:VA g w K mg base:=O.c1 X G λf fd F=>p9 F uD rfl λa hp=>CJ B RN R4 a hp;have RD:VC g w K mg base:=TY.c1 X G λf fd F=>p9 F sV rfl λa hp=>tH SY a hp;have α:VI g w K mg base:=US.c3 X G λf fd F=>DL F C9 rfl λa c d hp=>EC B t So Ur RD a c d hp;have S3:VF g w K mg base:=UK.c2 X G λf fd F=>iW F zS rfl λa c hp=>C0 B i a c hp.1 hp.2;have S4:VH g w K mg base:=UL.c3 X G λf fd F=>DL F zk rfl λa c d hp=>C5 B i RL TB RD a c d hp.1 hp.2;have SA:VG g w K mg base:=Uk.c2 X G λf fd F=>iW F wm rfl λa c hp=>wR B Rn i Sz SO S0 S2 a c hp;have Ss:VE g w K mg base:=Ub.c2 X G λf fd F=>iW F iU rfl λa c hp=>wy B a c hp;have RX:VJ g w K mg base:=Th.c3 X G λf fd F=>DL F l5 rfl λa c d hp=>nN B t Ss a c d hp;have RY:VN g w K mg base:=Ti.c2 X G λf fd F=>iW F l6 rfl λa c hp=>m_ B i a c hp;have Sj:VL g w K mg base:=TZ.c3 X G λf fd F=>DL F qR rfl λa c d hp=>tM B S3 SA a c d hp;have R9:VM g w K mg base:=Tw.c4 X G λf fd F=>Ob F oP rfl λa c d e hp=>qa B S4 α RX a c d e hp;have S7:aK g w K mg base 13 "lets_by" ["row","paper"] (bO K DO Â BW):=TM.c2 X G λf fd F=>iW F sX rfl λa c hp=>Ck B RA Sj R9 α RY a c hp;have S5:Am g w K mg base 4 "refuse_no_row" ["row"] (IU K se cR):=Γ.N1 X G (λ_ _ _ _ _ _ us l=>match us,l with|[_],_=>rfl) λf fd F=>Qe F jb rfl λa hp=>Dy xs t a hp;have SS:Am g w K mg base 5 "lets_by" ["row","paper"] (HK K (fun(r _:Dt)=>se r) cR):=TM.N1 X G (λ_ _ _ _ _ _ us l=>match us,l with|[_,_],_=>rfl) λf fd F=>Qw F sX rfl λa c hp=>zC S5 a c hp;have R_:VV g w K mg base:=Uz.c2 X G λf fd F=>iW F dC rfl λa c hp=>zL B a c hp.1 hp.2;have SD:aK g w K mg base 1 "_law_prime" ["_law_k"] (dU K (λk=>k<2^62) Â bg):=Ul.c1 X G λf fd F=>p9 F jx rfl λa hp=>wV a hp;have R5:VW g w K mg base:=Ts.c1 X G λf fd F=>p9 F eY rfl λa hp=>oF SD a hp;have SF:VR g w K mg base:=Um.c3 X G λf fd F=>DL F cD rfl λa b c hp=>xS a b c hp.1 hp.2.1 hp.2.2;have Su:VO g w K mg base:=Uc.c2 X G λf fd F=>iW F fH rfl λa c _=>vX B a c;have RZ:VS g w K mg base:=T4.c3 X G λf fd F=>DL F cb rfl λa b c hp=>tP B a b c hp;have N:VP g w K mg base:=TJ.c2 X G λf fd F=>iW F fZ rfl λa c hp=>rf Su a c hp.1 hp.2;have SQ:aK g w K mg base 3 "_law_plus" ["_law_u","_law_v"] (bO K CH Â eD):=UA.c2 X G λf fd F=>iW F yE rfl λu v hp=>AF N u v hp;have Se:aK g w K mg base 3 "_law_times" ["_law_u","_law_v"] (bO K CH Â br):=Uo.c2 X G λf fd F=>iW F vK rfl λu v hp=>xK N u v hp;have S8:aK g w K mg base 4 "_law_led" ["_law_row_here","_law_table"] (bO K Hm Â lU):=UM.c2 X G λf fd F=>iW F cZ rfl λa c hp=>Du B SQ Se a c hp;have Sl:VX g w K mg base:=T5.c1 X G λf fd F=>p9 F rg rfl λa hp=>tf B a hp.1 hp.2;have SG:VU g w K mg base:=Up.c1 X G λf fd F=>p9 F wG rfl λn hp=>xy B n hp.1 hp.2;have S9:VZ g w K mg base:=UN.c2 X G λf fd F=>NN F jw rfl λa c hp=>DE B a c hp.1 hp.2;have RJ:VY g w K mg base:=UB.c2 X G λf fd F=>iW F pR rfl λa c hp=>yZ B S7 a c hp;have SU:VT g w K mg base:=UC.c1 X G λf fd F=>p9 F cy rfl λa hp=>Ak B a hp.1 hp.2;have SE:Hv g w K mg base 1 "_law_alone" cR Â:=Uq.Qp X G mU (λ_ _ _ _ _ _ us l=>match us,l with|[_],_=>rfl) (λf C A outer s H a L=>xZ B xs f C A outer s H a L);have Sk:VQ g w K mg base:=T6.c2 X G λf fd F=>iW F kz rfl λa c hp=>tI B xs SS SE a c hp;have Sn:aK g w K mg base 7 "_law_no_rows" [] (Ht K Â (fun(r:Bool)=>r=Â)):=T7.c0 X G λf fd F=>P1 F dH rfl (tK B Sk);have Sd:aK g w K mg base 2 "_law_no_place" ["_law_row_here","_law_p"] (bO K Pm Â yR):=TL.c2 X G λf fd F=>iW F el rfl λa c hp=>rO B SF RZ SU a c hp;have S_:V0 g w K mg base:=UO.c2 X G λf fd F=>iW F bJ rfl λa c hp=>Dd B SG a c hp;exact p9 F cK rfl λa hp=>OF B R_ R5 S8 Sl RJ S9 Sd S_ Sn a hp
end L2.EP.K
open Lean in
local macro_rules|`(#print $s:str)=>do
  let r:=s.getString.toList.toArray
  let f←(Array.range (r.size/10)).mapM fun i=>do
    let n:=mkIdent (.str `PySem.W.Fast s!"tw{(r.extract (10*i) (10*i+10)).foldl (fun n c=>n*89+"#$%&'()*+,.0123456789:;<=>?@ABCDEFGHIJKLMNOPQRSTUVWXYZ[]^_`abcdefghijklmnopqrstuvwxyz{|}~".toList.idxOf c) 0}")
    `(theorem $n:ident:True:=.intro)
  return mkNullNode f
#print "1Hp,|41(b#?Q1r),>zz}*IF0Ax3Fl1Ms&?y#Hl[8)3}zIhH_^C7H_#K=nSU]$y{+@OOAcM.OB7@9'4H?@I2Wmh>]v[;kABrw{HLz0+PLF.11R$WSKBY#w,p9U;+LljPhKP5[;tK:lY%ZV5o4yXM?=N,:JkMK_8ZbQQjvd'^j^<)Kqk+;SyQZ(8xD7L7r)(.W?kFs;BiBH<5HG{:G)(=cCgQ~LVVJ4RZ%1tdrgm+v*j&zVx}W%'Qn~P>l,O?_ZPm?^6JLH&dp]_9{VN>t.nc)LV(D?$}=fm5oy81j1p6F,h278j?zc}SYP`'Ks(<5n:y}@i|.RLve7+OzpJ^:dM)SAZMI1*HaE0IEV.azV$ez(3H)gp#NK;34OWfEt&fyNB;&#$&075.Z~pYCJPOz,^.lXB4('tW`:TiVf&NM1Ln0Y'{h4<Mely>NtEUqVuVc5`q4v8Pq1QyBFv38O&_=EKmPKr2RAYo7L{%t6@W<34zMpG;1C&WwA0_^T~&ZB::d}SUj'iJw.EguE4>Fb9[Yw0&>yUgX5e&`POh>}%hEpmT5L[?riedO63_Y?%hZC{JN$h`QyI]:K7mJ4c7g2;V,xyG8XSksWp<~5,U)c8R;Lfo~NGfl#,l8#*;,DQ#S<k=U5D@>Iy>Tv(iBWkGYxJMd6LJ&M_umHs2dU#VM@h:d0$VN#?KOG]A,,IKRtYMG'R=T@<+A*S9:4=Y]E~Vu'{Y|9|Vw:pm6ypRKtF6WvE5{N01{0yR7bYIx3R~l&.>M?Z1xBU_B>Y1g%LM))C:[(PU.f#hIrCA[S8Uz|eAn2&[+W;{<2^G.n.XKM3MVN~XNRJP'FyVUt}XPFpIJSzlEm$(qjySoYqFnuY@a*;.5'UW,.sMJz9v@_Ii36DbagnQ7#bPD'2ZxFUZxI|XV#l3pL4Gx].h&rfz.Aq>>qZ5B&8>+pvA[6s1'UdGz1En%wUA978z4|m2g?oo([=$N~AS:@*{ASe0dNfrifp7Z)JJA0DVr)=1v04()ba&KjGEc^J:$d*+R&]N+]U&5?0C'aRxprb@PPS&Iuyd)'_>dpg;=5>HJB_V+1MK2J.#.vC3eE#D,5@6}VOs68o#Nf`,*^<<#L&I+e^'%%'Sj`]>l4}L8=y[R_LLvHP<Ud{6tM8`'(GA;`Q*.0F5+D+`(o4Gm.{xTP.JQ+B&7WdLaprF[)>9+qB}[B>R_D6N(c2pTCv33RU|n16M<CuW'x}3.6J8d{iC>F.T]K1,1BD)^=eDL)j'EWfUP&hLK_+1HFe'N`P>MNN.UX}+Q>dT=6|=N8R65[%&*oB[dVA.DD$b*=PdgogE3EFSe=OW>'@XQq(8[m*(*.hWFQNbZ,2*tAz1GO,H>xZ+{KNST+Ac7ZI4rte5>,DdI3k(%E~&YM*P4~u'>?<pn*|}3G0ZFfDY$|tQ,f^Ncae_5<>)GK&dj,);ZKzgDG]+eDuK's`?$5,)qAQnZr?Q|4e]g6Ba&g=RcIqa%Ov_0'QkeTlO'A,0GgDaI+0MdP{}hO&xSHM5<FR1y#_%a&naTh5DmWZTC%Y}$:uq7=h4m&[)<4{=l58Z8ubxMI*$<;V^6Mt3g4AoZaN|AMGW7*2&p8'$iHCvJ|#5REv3Y[.pZ[~VmOz}i?K#~Oi^EC,VCr,M6PE~fb0}1X=?sW6+m;kQ'J<YVB#A8UUcVY3E6on2t;.vc_%zWD%FGGZltaS1X^l=h.ZtI(ow})o$*_3V4&?DX<Z0?W;y}r@8OO2C)DLiA<N;91}LmM;|tDC(E4nLzT_q:YDp|#5GM30;7ioD9*>*QLF6aZQoJB%)'L=Eq|r(DXw2yQI+,om'FrBL.Al;Z0`K,?;L41d8l%X[Hs;Ev1Y1]'#ESg^;uA[9W+ws<A|J=TpLhe}Oe%=l.;8k09Di3@utht9I0ss[%3MQ}:.)px=8h71>6^MA(Pi|l$,%CGT0cYb$eWUdpvNd.E80}G~BxlfSFFrTkTY~*30tX9F77nu9qO;5#p?+KP0``AJyT_d,YE+0CWe#|9DD;#F|T[q6Xv,C|.5`,R23>3XzLoc8b&eA?;Kr`X{%}~uq{Re<6$K:@K~I)1xVl;lKkD].[T2$VuL#KNwLHy~JMUt578=z4bjt_9xYoBjPbsD:wyfUPfK)M6pWFDKLCy042A?F]Sb[e@KQ,4i=B`6K{;a7)Ue4r4+b0;]4mBIHX*w<gW#^4?9,t)W(]L]O#u`_;^vMQ6XmO9UvRl}?UtWh@nEZSP&GO5<mmCW?oN,Jg8{E9#YK~33c&'ZD;ps22gt:@7pTH08gM;dIbFdc3`?2+JY{if}<<8#O2Wa@)eHEJS6+1x)*jZ4?9uMG'sp+PT)w@wdXR?M5K3Z7@aq]BFD4a,y@?ERAN.VcWRFn:>;eW$6FHg`.s|Fi6ywS^M'yzk^$}Z+D.$j7.BI9_=hqR9@87ws3t9yk$Ig$[UMx6;>[xoCCmotH*MSRlO*e%lyJC1O?5F:>IYDFS%]*OGS3=I;6<9#IPV#AYTe.e;gwQ._E8O#qo^;k>K.;EM}t7tAQcTY~@?9YY7)9j,nUe*#4[8jgaEHGb2D1LhkM,Q4?zoAL9:EwjMFx]|.pi*]3`DTaIi]7~MNq7S(MuP{UDKXfY{+z?9%Ez{X)at>?ParJC9kat7dO'Jl)i`vS3|a}ew%8g>YTLq}Yg)}?*OlvZB{Tj;Pc2HE]kcPAd=opKz~Z1HDx2Np_16tMMv1$r8#SKXxyO`g@X$U1VdRM[j,{F#;}pHz3z(n?mEe8%&nQuRa`}J4@P2e*6E)SV1^`GF==k;TowhRIpw%bEdY2MMZr*C1e1Cp:Rt<O=v&wq@TJ,XRG3KnFfA7j_fYBcWsGb6T2ra6Mmd5.W$#bkN{<>.X?pM^LSksZjKMwU%V4MmVO19XDXu8Yz*~3Q,aU,[<upIK87gPq7aHN8M;ZDwP~T^8Bz^~<Ac,4a7JoQ'3TMB:U<i?4.<@~.@z1LiI9A@RJT(af:xu#R#l$BF2P*qiHfTbZ~cOU+E*CpPwO:S=Kk+s~UXsJGNYGzhk,8QP9EzNl.Z<AGR9tHPaX~'cNNFXN>X=@c#~ZrRFpp.h0|S;SVOTRzUtEwqe1j|6$9kZH.j+tz#1GjtbLzWlM81W(8Wejm4P$OZ>>Yz&Ag[.Bt|]LN:X%},DyX>TQ8~a[OXfhn:k<@Rl4xQKI^~HJ$E4Vr>rGN6ZdRV:TZsUDpNi?(6OI*$s5}$?XopFfM97ri6wK&1eP>QZ*Tm>>OreeN5WKatY@1@+VWKO^@kZ2(VUMDqMU>A47R[T&iZf(XSR2Vh^.az;Hb}DTz]SvX)oSCGjz)3b1'&U;F(F;H0eYHPDUjHU1H2&SmK:*QFd_J~4lL<g.X24Ua[O[@JoQ0p,2FjAO2us,S@RI.#@WgG0kwFvA0W#z5+#a8#<6Y^)tf$NT6eu;VDGCHDMd426WD}1Q&W.7Vj]uD7L>a#9W3HoLoK^R7a9N8:Y5OZ9}t}JG49Wav'T?'D@~z,jh}:_9QRb?+fFf*RaNB0]`5'1Usp5Ws}'vI3^(B`_?mNO3*iBn%WWjU2#y1oYj.j#Oz^8cQ4[J0*YI>1nxyiMVw0kGxu`B7JJrJ)$p0A2=[A{n(},'RIzr+S#r}fGC|KbOzVu=(=&Q*++J]*uTfsZWvynf~Fg4?xV}fikDEsfZu:lv{T5RG97Q;zDVkKFQZ?ZF*AZWU1m#_1^QXUL_4(EO%+*b61AEmCv#AUK$|6)U=6R@C>QB5M2P=50B'ULyq'{eQ#>HTVc=)iwDU$Fr.RTxMHM*GUl(bTS}7y.njHT><ZpW%z1?>BzN>);zCDX=m[10d{<M;rcuZrdte0=<[(BRCe=FTyVn=:g,8>4Pn2c|+PaWft.PNn~c)WQ3FXQwrXTA'KZ?mQSQLEG#,1?y5?%;ib^7%{>@n2+K$WO~TkDG)UG_P3L>8H0'nQm_Fz8*>H[gX|OSeNS>kqfu[}wVuB#C#KaNv35WhtSimLPY5;NSMt#B::gSeXAPBm[+:eX6'Ic+)X`Zi;w_XIgUDn#HS=Dq~S7N^iC?&%(Li(RJMpZ<uRVNN8.N)jy+m1MMJ,6LV9D$Iq~(9K^:+^=1L6}o6Xcr~9%@1=)'Cgc9lE2Z$%g8h&pWRQ'(LTiPws2=J:;f6@|Z3vo=i6mk|jC,G0#]$8+.y(S"
end
open PySem PySem.W PyProof.Rows
set_option maxRecDepth 100000 in
set_option maxHeartbeats 0 in
theorem PySem.Challenge.cw_everyplace_k72_whole_no_wrong_paper_holds : PySem.Challenge.rw_everyplace_k72_whole_no_wrong_paper.Holds := by
 w_on; o_law; k_head; (case hw => w_witness2)
 k_fill
 refine L2.ES (l := PySem.Challenge.rw_everyplace_k72_whole_no_wrong_paper) (n := 63) (k := 15) (x := "_law_script") (CX := L2.nQ) (sp := L2.EP.ya) rfl (by decide) rfl ⟨rfl, by decide, by decide⟩ (fun w h Y => PySem.W.kIn_of Y) ?F ?S ?C
 case F =>
  intro w mg fa h KX G hmg
  have B : L2.EP.Bu mg := by
   refine' L2.EP.Nh (K := L2.qh KX) KX G ?z1 ?z2 ?z3 ?z4 ?z5 ?z6 ?z7 ?z8 ?z9 ?z10 ?z11 ?z12 ?z13 ?z14 ?z15 ?z16 ?z17 ?z18 ?z19
   all_goals (dsimp only [L2.qh]; k_is)
  have Rn : L2.EP.sY mg "GREAT_PRIMES_FROM" 32768 := by
   refine' L2.EP.sY.mk (K := L2.qh KX) KX G ?ga0
   (case ga0 => dsimp only [L2.qh]; k_is)
  have Rp : L2.EP.sY mg "GREAT_FROM" 1073741824 := by
   refine' L2.EP.sY.mk (K := L2.qh KX) KX G ?ga1
   (case ga1 => dsimp only [L2.qh]; k_is)
  have RN : L2.EP.sY mg "LONGEST" 8 := by
   refine' L2.EP.sY.mk (K := L2.qh KX) KX G ?ga2
   (case ga2 => dsimp only [L2.qh]; k_is)
  have RC : L2.EP.sY mg "LIFTED_FROM" 4 := by
   refine' L2.EP.sY.mk (K := L2.qh KX) KX G ?ga3
   (case ga3 => dsimp only [L2.qh]; k_is)
  obtain ⟨cF, cT, cN, cR, cS, xs⟩ : ∃ cF cT cN cR cS, L2.EP.Xs (L2.qh KX) mg cF cT cN cR cS := by
   refine' ⟨_, _, _, _, _, L2.EP.Ox (K := L2.qh KX) KX G ?xz1 ?xz2 ?xz3 ?xz4 ?xz5 ?xz6 ?xy1 ?xy2 ?xy3 ?xy4⟩
   (case xz1 => dsimp only [L2.qh]; k_is); (case xz2 => dsimp only [L2.qh]; k_is); (case xz3 => dsimp only [L2.qh]; k_is); (case xz4 => dsimp only [L2.qh]; k_is); (case xz5 => dsimp only [L2.qh]; k_is); (case xz6 => dsimp only [L2.qh]; k_is)
   (case xy1 => dsimp only [L2.qh]; kernel_rfl); (case xy2 => dsimp only [L2.qh]; kernel_rfl); (case xy3 => dsimp only [L2.qh]; kernel_rfl); (case xy4 => dsimp only [L2.qh]; kernel_rfl)
  refine L2.EP.K.fin (K := L2.qh KX) KX G hmg B xs Rn Rp RN RC ?_ ?_ ?_ ?_ ?_ ?_ ?_ ?_ ?_ ?_ ?_ ?_ ?_ ?_ ?_ ?_ ?_ ?_ ?_ ?_ ?_ ?_ ?_ ?_ ?_ ?_ ?_ ?_ ?_ ?_ ?_ ?_ ?_ ?_ ?_ ?_ ?_ ?_ ?_ ?_ ?_ ?_ ?_ ?_ ?_ ?_ ?_ ?_ ?_ ?_ ?_ ?_ ?_ ?_ ?_ ?_ ?_ ?_ ?_ ?_ ?_ ?_ ?_ ?_ ?_ ?_ ?_ ?_ ?_ ?_ ?_ ?_ ?_ ?_ ?_ ?_ ?_ ?_ ?_ ?_ ?_ ?_ ?_ ?_ ?_ ?_ ?_ ?_
  all_goals (dsimp only [L2.qh]; refine' L2.EP.Df.mk ?a ?l ?c ?k; (case a=>k_is);(case l=>k_is);(case c=>k_is);(case k=>k_is))
 case S => exact fun K H a ns hl hO hS => L2.EP.C2 K H a ns hl hS
 case C => exact fun _ _ _ _ z => z
