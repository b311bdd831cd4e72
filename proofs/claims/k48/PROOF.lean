import PyProof.Rows.All
import Wide.All
import OpenK.AllK
import Wide.FinOn
import Lean
import PyProof.EqAt
import PyProof.EqKinds
import PyProof.TupleCall
import PyProof.NeData
import PyProof.P3Eq
import KE.KTryMore
import PyProof.ExcArgs
import PyProof.Rows.CountFlat
import PyProof.ExcBaseAll.ValueError
import PyProof.Conv_int_bool
import PyProof.IsiPairs
import PyProof.IsiNone
import PyProof.IsiStr
import PyProof.IsiBool
import PyProof.IsiHeapPairs
import KE.KRevIter
import PyProof.CollectIter
import PyProof.WalksMore
import PyProof.Rows.SortRunsK
import KE.KSortKey
import PyProof.Rows.RuleN_abs
import PyProof.Rows.CallKwBuiltin
import PySem.Challenge.RW_everyplace_k48_zeros_of_more
open PySem renaming wpAny_bind->Xk,wpAny_pure->Xp,wpAny_ite_split->YI,wpAny_newObj_type->YO,wpAny_call_entry->Y1,wpAny_truthy_bool->Y4,wpAny_callSpecial?_slot->Zc,wpAny_holding->Zg,wpAny_Call_Name_kw->ZK,wpAny_mono->ZP,wpAny_typeNameOfWhole_keyiter->ZZ,mem_of_lookup->Z4,wpAny_fieldsOf->Z9,wpAny_setField->Z_,sizeLine_eq->Ϛ,wpAny_passesOwn->aaf,wpAny_attempt->ϵ,wpAny_setState_of->aal,wpAny_typeNameOf_keyiter->aax,wpAny_setEntries_of->aay,codeAny_builtin->aaI,codeAny_mono->aa_,fits_of_scanBound->abo,plainId_quiet->abw,wpAny_isOneOf_keyiter->abC,wpAny_newList->abY,wpAny_pyIter_list->ab7,wpAny_pyIter_slot->aca,wpAny_dictEntries->acf,wpAny_rule->ack,wpAny_askSetting->acB,wpAny_isInstance->acC,wpAny_execs_nil->acJ,pushCells_keeps->acL,wpAny_dictEpoch->acR,size_of_entries->acS,Value->Ä,starEach->Å,Shared->Æ,Addr->Ç,model->È,mainGlobals->Í,wpAny->Î,Str->Ð,Program->Ñ,Stmt->Ò,Expr->Õ,World->Û,foldedSetIterable->Ü,eval->Ý,Paired->ß,Heap->â,Around->ä,compareOp->æ,cellsFrom->ë,backTo->ì,SetTable->î,NameKind->ï,FuncData->ð,Pos->ò,behindInMarks->ø,sysModules->ù,assignEach->ú,Obj->ü,rawInt->ý,PyData->þ,swapsWith->Ā,intKind->ć,Scope->Ĉ,binaryOp->ď,Builtin->đ,pyNext->Ē,PassesOwn->Ĕ,bootBuiltins->ė,codeAny->Ĝ,sliceBounds->Ğ,cLine->ğ,assign->Ģ,IntMulOk->ģ,atKey->ĥ,scanBound->Ī,bindArgs->ī,holding->Ĭ,letOwnedTupleGo->į,firstArgMember->ĳ,pickOrder->Ĵ,callerA->ĵ,BindsTo->ķ,Sem->ĸ,attributeBase->ĺ,pyIter->Ļ,Env->Ł,setNext->ņ,relayAll->Ň,relabel->ň,tupleKind->Ŏ,IsPart->ő,IsRangeIter->Ŕ,valueAt->Ŗ,newFunctionEnv->ř,isSubtype_type->Ś,again->ś,CmpOp->ş,wpAny_standAt->Ŧ,wpAny_comprehension_free->ŧ,call->Ū,lastMarks->Ŵ,bindL->ŵ,bindC->Ŷ,wpAny_typeOf->Α,wpAny_pyNext_range_end->Β,wpAny_pyIter_rangeiter->Δ,seqIndex_neg->Ζ,isTrue->Η,getItem->Θ,Result->Λ,Keyword->Τ,wpAny_isTrue_Compare1->Ψ,builtinLookup_eq_fast->Ω,wpAny_of_eq->ϊ,wpAny_field->ϋ,seqIndex_of->ό,numAt_eq->ύ,lookup_relabel_local->ώ,GenState->ϔ,KeyKind->Ϝ,wpAny_setItem_heap->ϥ,wpAny_pyIter_range->Ϧ,wpAny_load->ϧ,wpAny_Name->Ϩ,typeIs_int->ϩ,tupleKind_room_in1->Ϫ,call_meets->Ϭ,builtinsNs->ϭ,wpAny_storeSet_of->ϸ,wpAny_setEpoch_of->Ϲ,wpAny_pyIter_enum->Ϻ,storedH->ϻ
open List renaming mem_cons->Xm,getD_eq_getElem?_getD->Xq,not_mem_nil->Xr,mem_of_getElem?->Xs,length_map->Xv,mem_cons_of_mem->Xx,getElem?_eq_some_iff->Xy,getElem?_eq_getElem->Xz,mem_cons_self->XA,mem_map->XF,getElem?_map->XI,length_append->XQ,size_toArray->XR,mem_append_right->XW,mem_singleton->XX,map_cons->X3,all_eq_true->X_,mem_append_left->Ya,mem_append->Yf,length_cons->Yl,append_assoc->Yo,mem_filter->Ys,mem_range->Yu,take_append_drop->YA,nodup_cons->YC,getElem?_zip_eq_some->YD,length_set->YG,mem_iff_getElem?->YK,filter_cons_of_neg->YM,filter_cons_of_pos->YN,take_length->YU,replicate_succ->YW,take_add_one->YZ,getElem?_append_left->Y2,pairwise_cons->Zb,length_eq_zero_iff->Zd,getElem_mem->Ze,any_eq_true->Zf,getElem?_append_right->Zh,map_append->Zl,find?_cons->Zo,getElem?_eq_none->Zq,perm_append_comm->Zr,length_take->Zs,length_range->Zx,getElem?_set_self->ZC,take_of_length_le->ZH,any_cons->ZI,getElem?_set_ne->ZN,flatten_cons->ZT,pairwise_map->ZX,length_drop->Z7,lookup_cons->Z8,length_zip->aah,mem_iff_getElem->aaq,nodup_nil->aat,nodup_range->aaw,append_nil->aaE,nil_append->aaF,drop_eq_nil_of_le->aaM,eq_nil_of_length_eq_zero->aaN,map_nil->aaQ,map_map->aaS,cons_append->aaX,mem_of_mem_take->aa0,drop_eq_getElem_cons->aa8,getElem?_replicate->abj,nodup_append->abp,filter_cons->aby,length_replicate->abz,length_singleton->abA,of_mem_zip->abD,mem_erase_of_ne->abG,filterMap_cons->abM,filter_eq_self->abN,map_congr_left->abP,take_succ->abQ,take_zero->abR,perm_append_singleton->ab3,foldl_append->ab9,reverse_perm->acg,flatMap_cons->ach,pairwise_iff_getElem->acj,mem_or_eq_of_mem_set->aco,getElem?_take_of_lt->acq,mem_flatMap->acG,getLast?_cons_cons->acH,foldl_cons->acK,range_succ->acN,length_nil->acQ,pairwise_lt_range->acW,drop_of_length_le->acX,length_filter_le->acY,getElem?_toArray->ac4,drop_drop->ac7,all_cons->ac8,map_id'->adg,replicate->Ê,range->Ô,toArray->à,take->Ĥ,drop->ĭ,lookup->ļ,length->Ľ,perm_cons_erase->Ţ,mem_of_mem_drop->ţ,length_eraseIdx->Ť,getElem?_mapIdx->ť,getElem?_range->ū,flatMap_append->Ŭ,getElem?_take->Ż,foldl->ż,filter_append->Ž,take_sublist->Ξ,getElem_drop->Ο,ext_getElem?->Ρ,getElem_map->ς,getElem_inj->τ,flatMap_nil->υ,forIn_cons->ϑ,filter_nil->ϒ,forIn_nil->ϟ,drop_zero->Ϡ,take_add->ϯ
open Int renaming mul_ne_zero->Xn,mul_le_mul_of_nonneg_left->XB,le_of_dvd->XH,dvd_of_emod_eq_zero->XM,pow_succ->XS,emod_lt_of_pos->XU,natAbs_mul->XZ,mul_one->X0,emod_nonneg->X2,mul_assoc->X6,dvd_trans->X7,mul_comm->Yb,pow_zero->Yc,mul_zero->Yd,fdiv_eq_ediv_of_nonneg->Yi,mul_le_mul->Yj,mul_nonpos_of_nonneg_of_nonpos->Yk,one_mul->Yp,mul_pos->Yq,mul_le_mul_of_nonneg_right->Yt,le_refl->Yv,emod_eq_zero_of_dvd->Yw,pow_pos->Yx,fmod_eq_emod_of_nonneg->Yz,lt_or_gt_of_ne->YF,emod_add_mul_ediv->YH,mul_eq_zero->YJ,dvd_neg->YL,pow_add->YS,natCast_mul->YT,mul_emod->YV,natAbs_dvd_natAbs->YX,gcd_dvd_right->Y6,mul_fdiv_cancel_left->Y7,lt_or_le->Y8,mul_nonneg->Zi,dvd_natAbs->Zj,emod_two_eq->Zm,mul_neg_of_neg_of_pos->Zn,gcd_dvd_left->Zu,dvd_refl->ZD,mul_add->ZE,dvd_sub->ZG,mul_pos_of_neg_of_neg->ZM,le_of_lt->ZR,lt_trichotomy->ZV,emod_eq_of_lt->ZY,natCast_dvd_natCast->Z0,mul_sub->ϙ,lt_or_eq_of_le->aac,mul_nonpos_of_nonpos_of_nonneg->aak,emod_emod_of_dvd->aam,mul_ediv_cancel'->aao,toNat_of_nonneg->aaz,gcd_pos_of_ne_zero_left->aaU,dvd_add->aa3,ediv_nonneg->aa5,mul_neg_of_pos_of_neg->aa6,natCast_pow->aa7,zero_mul->abb,gcd_zero_right->abc,dvd_zero->abf,add_zero->abg,mul_nonneg_of_nonpos_of_nonpos->abn,fmod_nonneg_of_pos->abt,gcd_eq_zero_iff->abO,mul_pow->abT,fmod_lt_of_pos->abU,dvd_of_mul_dvd_mul_left->abV,eq_of_mul_eq_mul_right->ab1,add_mul_emod_self_left->ab2,emod_add_emod->ace,eq_of_mul_eq_mul_left->aci,zero_add->acu,gcd_comm->acv,le_trans->acw,dvd_mul_left->acE,natCast_add->acM,dvd_coe_gcd->acO,mul_neg->acU,pow_mul->acV,ediv_lt_of_lt_mul->acZ,natAbs_dvd->ac6,natAbs_eq->ac_,le_total->ada,zero_dvd->adb,add_comm->adf,gcd->Ë,toNat_natCast->Ö,pow_one->ŭ,neg_mul->Ů,natAbs_of_nonneg->ů,natAbs_mul_self->ž,natCast_nonneg->Υ,add_sub_cancel->Φ,mul_left_comm->χ,dvd_mul_right->ψ,ediv_le_self->ϓ,pow_ne_zero->Ϣ,neg_one_mul->ϣ,natAbs_neg->ϰ
open Classical renaming byContradiction->Xt,not_imp->ab_,epsilon->ö,propDecidable->ł
open Nat renaming le_refl->Xu,lt_of_lt_of_le->X4,ne_of_lt->X5,le_trans->Ye,le_of_ble_eq_true->Yn,zero_le->Yr,le_of_lt->Y0,lt_succ_of_lt->Y5,eq_of_beq_eq_true->Y_,not_lt_zero->ZA,lt_succ_self->ZJ,pow_le_pow_right->ZQ,lt_irrefl->Ϸ,mul_le_mul_right->aan,le_succ->Ϥ,pow_succ->ϴ,lt_of_le_of_lt->aaG,two_pow_pos->aaH,le_mul_of_pos_left->aaK,mod_eq_zero_of_dvd->aaL,mul_le_mul->aaT,not_lt->aaW,eq_zero_or_pos->aba,lt_or_eq_of_le->abd,le_mul_of_pos_right->abl,le_of_succ_le->abm,dvd_of_mod_eq_zero->abv,le_of_eq->abF,beq_eq->abH,log2_lt->abS,one_lt_two_pow->abW,le_of_dvd->ab0,le_of_mul_le_mul_left->acn,ne_of_gt->acp,le_of_not_lt->acs,lt_succ_iff_lt_or_eq->acx,min_eq_right->acz,lt_trans->acA,min_eq_left->acP,lt_or_ge->ade,beq->é,log2->Ĺ,ble->ŝ,lt_succ_of_le->π,le_of_lt_succ->ρ,mul_lt_mul''->Ϗ,min_le_right->ϐ,min_le_left->ϝ,le_add_left->Ϟ
open PySem.Heap renaming get?_push_of_some->Xw,lt_size->XE,get?_push_size->XN,get?_update_self->Zp,size_push->ZL,SameBut->Đ,get?_update_other->Ř,get?_push_ne->Χ,size_update->ω
open PyProof.Rows renaming wpS_pure->XC,wpS_bind->Ym,callWith_type1->Za,slot_tuple_getitem->aaA,get?_update_seq->aa9,wpS_modify->abi,boot_list->abr,callWith_builtin1->abE,listUpdate_at->ab5,SortSt->Ï,Keyed->Þ,seqObj->å,IntsAre->ó,oneType'->Ď,pendingOf->ē,wpS->ĝ,arrOf->Ġ,envOfC->ġ,AllBare->Į,wpS_mono->ń,wpS_forRange->Ņ,failedOf->Ŋ,Constant_none->Ű,subscriptTail_builtinR->Ε,sortedHeap->ϫ
open Array renaming length_toList->XG,toList_append->YB,getElem?_toList->YY,getElem?_eq_getElem->Y3,getElem_mem->Zk,toList_push->Zy,getElem_toList->aap,mem_def->aaD,toList_extract->aaY,toList_reverse->aaZ,perm_iff_toList_perm->aa1,getElem?_eq_none->abu,toList_setIfInBounds->ab4,size_setIfInBounds->acF,getD->ċ,size_extract->Ų,append_assoc->ų,toList->ϳ
open Option.some renaming inj->XJ,injEq->aaO
open Bool renaming false_ne_true->XO,and_eq_true->X8,eq_iff_iff->Yy,and_eq_true_iff->YQ,false_eq_true->Zt,or_eq_true->Zz,beq_eq_decide_eq->aaR,true_and->aa2,eq_false_iff->ab8,not_eq_true'->acd,or_true->acD,true->Á,false->Â,false_or->ϲ
open PySem.W renaming mg_none_of->Yg,cellsFrom_some->aaJ,mg_of->abZ,Frag->Ã,nsIn->Ø,fnOf->ê,keepIn->č,codeIn->ĩ,methodObj->İ,OpenLaw->Ÿ,WalkO->ξ
open PySem.Heap.SameBut renaming update->Yh
open List.Perm renaming append_right->YE,append_left->Y9,refl->ac0,cons->Ě
open PySem.F renaming called_set->Zv,slot_dict_keyiterator_next->Zw,args_dict_keyiterator_next_1->abI,entry_dict_keyiterator_next->abK,plain_extend_loop->acm,plain_list_iadd->acI,plain_set_new->ac3,slot_set_iter->ac5,slot_dict_iter->ϱ
open List.Pairwise renaming imp_of_mem->ZS,sublist->ac1,nil->ō
open Ne renaming symm->Z5
open PyProof.Rows.F renaming plain_set_update_loop->aad,entry_set_update_loop->abe
open PySem.Obj renaming data_mapFields->aae,isFreed_of_fields->abB,cls_mapFields->acb,mapSeq->Ú,mapFields->Ċ,putSet->Ν
open PySem.PassesOwn renaming never->aag
open PySem.Around renaming under_plainId->aar
open Option renaming isSome_iff_exists->aau,isSome_map->aaP,some->À,some_ne_none->Ŝ,map->Š,isSome_some->š,getD_some->Ź,getD_none->ź,map_some->Μ,map_map->ο,none->Ϯ
open PySem.Paired renaming length->aaB,snoc->ŗ
open Sum.inr renaming inj->abq
open PySem.Calls renaming Name_function_global->abX,callWith_builtin->ŕ,spliced_cons->ű,spliced_nil->ſ
open PySem.Value renaming isInt_shape->ab6,none->õ,type->û,ref->ÿ,int->ā,bool->ŋ,str->Ι,isStrOf->ϛ
open Prod renaming ext->acr
open Sum.inl renaming inj->acT
open Prod.mk renaming injEq->ac9
open True renaming intro->É
open PySem.Builtin.Int renaming intBits->Ì
open PySem.Builtin.Range renaming rangeSize->Ó,small->Ń
open PySem.SetTable renaming below->Ù,grown->Ą,Probe->ŷ,laid->Κ
open PySem.NameKind renaming free->á,cell->ã
open PySem.PyData renaming eqv->ç,canLayAll0->í,eqvAll->Ė,depthAll->ę
open Sum renaming inr->è,inl->Č
open Or renaming inr->ñ,inl->Ă
open PySem.Str renaming ofString->ô
open PySem.Builtin.Slice renaming slicePlaces->ă,sliceAdjust->Ę,sliceApplied->ı
open PySem.Builtin.Tuple renaming tupleExact->ą
open False renaming elim->Ć
open ForInStep renaming yield->ĉ
open PySem.Builtin.List renaming listExtendWith->ĕ,listTooLong->ě,listLengthHint->Ĳ,listSameRef->Ķ
open PySem.SetTable.probe renaming go->Ħ
open PySem.SetTable.below renaming go->ħ
open PySem.Builtin.Dict_items renaming ownsTuple->Ĩ
open Lean renaming Syntax->ľ
open PySem.Builtin.Dict renaming showsAll->Ŀ
open PyProof.Rows.SortSt renaming mk'->ŀ
open PySem.pickOrder renaming go->ŉ
open PySem.SeqAt.EqAt renaming bool_bool->Ō,int_bool->ŏ,bool_int->Ő,str_int->Œ,int_str->œ
open Iff renaming rfl->Ş
open PySem.SeqAt renaming notIn_listAt->Ũ,EqAt->ũ,in_listAt->ν
open PySem.SetTable.Met.empty renaming injEq->θ
open PySem.Builtin.Frozenset renaming updateFrom->ϕ,slot0->ϖ,sizeOf->ϗ,newClass->Ϙ
open PySem.IsRange renaming new->ϡ
set_option Elab.async false
set_option maxHeartbeats 8000000
set_option linter.all false
set_option compiler.extract_closed false
set_option genInjectivity false
set_option genSizeOf false
set_option bootstrap.genMatcherCode false
set_option maxRecDepth 100000
theorem zra0(h:True:=by rfl):True:=h
def zra:ľ:=zra0._auto_1
theorem zrb0(h:True:=by decide):True:=h
def zrb:ľ:=zrb0._auto_1
theorem zrc0(h:True:=by intro _;rfl):True:=h
def zrc:ľ:=zrc0._auto_1
theorem zrd0(h:True:=by first|exact .inl rfl|exact .inr rfl):True:=h
def zrd:ľ:=zrd0._auto_1
noncomputable section
open Lean in
local macro_rules|`(fun $xs* => $b)=>do
  unless xs.any (·.raw.isOfKind ``Parser.Term.anonymousCtor) do Macro.throwUnsupported
  let (c,ys)←xs.foldrM (init:=(b,(#[]:Array Syntax))) fun x u=>withFreshMacroScope do match x with
    |`(⟨$q,*⟩)=>
      let e:=q.getElems
      if e.size<2 then Macro.throwUnsupported
      let h←`(h)
      let a:=e[0]!
      let r:=e.extract 1 e.size
      let c:=u.1
      let d:=e[1]!
      let c←if r.size=1 then `(($h).elim fun $a $d=>$c) else `(($h).elim fun $a ⟨$r,*⟩=>$c)
      return (c,u.2.push h)
    |_=>return (u.1,u.2.push x)
  `(fun $(ys.reverse.map fun y=>⟨y⟩)* => $c)
open Lean in
local macro_rules|`(⇑$x)=>`($x $(mkIdent `P) $(mkIdent `w) $(mkIdent `K) $(mkIdent `mg) $(mkIdent `base))
local macro_rules|`(#[$x,$y,*])=>`(⟨$x,$y,*⟩)|`(#[$x])=>`(⟨$x⟩)
local macro_rules|`(↑$x)=>`(by simpa using $x)
local macro_rules|`(tactic|stop $t)=>`(tactic|with_unfolding_all $t)
open Lean in
local macro_rules|`(.$x)=>match x.getId.toString with|"a"=>`(by decide)|"b"=>`(by lia)|"c"=>`(by first|exact List.Mem.head _|exact List.Mem.tail _ (List.Mem.head _)|exact List.Mem.tail _ (List.Mem.tail _ (List.Mem.head _))|exact List.Mem.tail _ (List.Mem.tail _ (List.Mem.tail _ (List.Mem.head _)))|simp)|"d"=>`(by dsimp only;lia)|"e"=>`(by omega)|"f"=>`(by decide +kernel)|"g"=>`(by (first|lia|omega))|"A"=>`($(mkIdent `ae) 0)|"B"=>`($(mkIdent `ae) 1)|"C"=>`($(mkIdent `ae) 2)|"D"=>`($(mkIdent `ae) 3)|"E"=>`($(mkIdent `È) $(mkIdent `prog) $(mkIdent `w))|"F"=>`($(mkIdent `È) $(mkIdent `X.prog) $(mkIdent `X.w))|"G"=>`($(mkIdent `off) $(mkIdent `H) $(mkIdent `O))|"H"=>`($(mkIdent `iS) $(mkIdent `X) ($(mkIdent `cN) $(mkIdent `X) $(mkIdent `tn) $(mkIdent `js)) $(mkIdent `ZB) $(mkIdent `C) $(mkIdent `s) $(mkIdent `H) $(mkIdent `fp))|_=>Macro.throwUnsupported
abbrev Xl:=@if_neg
abbrev Xo:=@if_pos
abbrev XD:=@of_decide_eq_true
abbrev XT:=@or_false
abbrev XY:=@decide_eq_true
abbrev X1:=@decide_eq_false
abbrev X9:=@of_decide_eq_false
abbrev YR:=@decide_eq_true_iff
abbrev ZU:=@decide_eq_true_eq
abbrev Z6:=@if_false
abbrev aaC:=@if_true
abbrev aaV:=@beq_self_eq_true
abbrev aa4:=@dif_pos
abbrev abh:=@beq_iff_eq
abbrev abk:=@decide_eq_false_iff_not
abbrev abx:=@decide_eq_decide
abbrev abJ:=@getElem?_pos
abbrev abL:=@beq_eq_false_iff_ne
abbrev acy:=@not_or
namespace L2
open PySem PySem.Spec PyProof.Rows
variable{s:Æ}{x:Ð}{Z2:List (Ç×ü)}{w:Û}{u:Ä}{op:ş}{K:Ã}{A:ä}{pos:ò}{P:Ñ}{i t' k n:Nat}{h:â}{e tg c:Õ}{us:List Ä}{ch fp:List Ç}{α:Model}{body:List Ò}{f:Ä->Ä->ĸ Ä}
abbrev Key:=Sum Int Ð
noncomputable def vd:Key->Ä->Bool
 |.inl k,v=>Value.isInt k v
 |.inr x,v=>ϛ x v
noncomputable def Rj(w:Û):Key->Int
 |.inl k=>hashInt k
 |.inr x=>hashStr w x
def cu:∀{k:Key} {v:Ä},vd k v=Á->(∃i t,k=Č i/\v=ā i t)\/(∃x t,k=è x/\v=Ι x t)
 |.inl i,v,h=>by
  obtain⟨t,e⟩:=ab6 (k:=i) (v:=v) h;exact .inl #[i,t,rfl,e]
 |.inr x,v,h=>by
  obtain⟨t,e⟩:=Value.isStrOf_shape (x:=x) (v:=v) h;exact .inr #[x,t,rfl,e]
def DE(i:Int)(t:Tok):vd (.inl i) (.int i t)=Á:=by simp[vd,Value.isInt]
def CU(x:Ð)(t:Tok):vd (.inr x) (.str x t)=Á:=by simp[vd,ϛ]
def LV(a b:Int):decide ((Č a:Key)=Č b)=(a==b):=by
 by_cases e:a=b
 .subst e;simp
 .have h:¬(Č a:Key)=Č b:=λq=>e (acT q);rw[X1 h];exact(abL.mpr e).symm
def N2(a b:Ð):decide ((è a:Key)=è b)=decide (a=b):=by
 by_cases e:a=b
 .subst e;simp
 .have h:¬(è a:Key)=è b:=λq=>e (abq q);rw[X1 h,X1 e]
def Nr(a:Int)(b:Ð):decide ((Č a:Key)=è b)=Â:=X1 (λq=>nomatch q)
def MB(a:Ð)(b:Int):decide ((è a:Key)=Č b)=Â:=X1 (λq=>nomatch q)
noncomputable def dP(prog:Ñ)(w:Û):Ϝ prog w Key where
 is:=vd
 hash:=Rj w
 inj:=λv a b ha d=>by
  rcases cu ha with⟨i,t,rfl,rfl⟩|⟨x,t,rfl,rfl⟩
  .rcases cu d with⟨j,u,rfl,e⟩|⟨y,u,rfl,e⟩
   .injection e with e1 _;rw[e1]
   .exact nomatch e
  .rcases cu d with⟨j,u,rfl,e⟩|⟨y,u,rfl,e⟩
   .exact nomatch e
   .injection e with e1 _;rw[e1]
 byValue:=λk v h=>by
  rcases cu h with⟨i,t,rfl,rfl⟩|⟨x,t,rfl,rfl⟩<;>rfl
 pyHash:=λc h=>by
  rcases cu c with⟨i,t,rfl,rfl⟩|⟨x,t,rfl,rfl⟩
  .exact wpAny_pyHash_int h
  .exact wpAny_pyHash_str h
 eqBool:=λf c h=>by
  rcases cu f with⟨i,t,rfl,rfl⟩|⟨x,t,rfl,rfl⟩
  .rcases cu c with⟨j,u,rfl,rfl⟩|⟨y,u,rfl,rfl⟩
   .rw[LV] at h;exact wpAny_eqBool_int h
   .rw[Nr] at h;exact œ i t y u _ _ _ _ h
  .rcases cu c with⟨j,u,rfl,rfl⟩|⟨y,u,rfl,rfl⟩
   .rw[MB] at h;exact Œ x t j u _ _ _ _ h
   .rw[N2] at h;exact wpAny_eqBool_str h
 «strs»:=λk x t v h=>by
  rcases cu h with⟨i,u,rfl,e⟩|⟨y,u,rfl,e⟩
  .exact nomatch e
  .injection e with e1 _;subst e1;cases v<;>rfl
def zo(prog:Ñ)(w:Û)(i:Int)(t:Tok):(dP prog w).is (.inl i) (.int i t)=Á:=DE i t
def x5(prog:Ñ)(w:Û)(x:Ð)(t:Tok):(dP prog w).is (.inr x) (.str x t)=Á:=CU x t
noncomputable def bI(b:Bool):Int:=if b then 1 else 0
noncomputable def PX(k:Int)(v:Ä):Bool:=match v with
 |.int i _=>i==k
 |.bool b=>bI b==k
 |_=>Â
def cU{k:Int}{v:Ä}(h:PX k v=Á):(∃t,v=ā k t)\/∃b,k=bI b/\v=ŋ b:=by
 cases v with
 |int i t=>exact .inl #[t,by rw[eq_of_beq (show(i==k)=Á from h)]]
 |bool b=>exact .inr #[b,(eq_of_beq (show(bI b==k)=Á from h)).symm,rfl]
 |_=>exact nomatch h
def wm{prog:Ñ}{E:Ä->Æ->Prop}{b:Bool}{Q:Int->Æ->Prop}(h:Q (hashInt (bI b)) {s with toks:=s.toks+1}):Î .E A (pyHash (.bool b)) Q E s:=by
 refine PySem.W.pyHash_slot (T:="bool") rfl F.slot_bool_hash entry_int_hash (args_int_hash _) (beq_builtin_none _) (.inl rfl) ?_;cases b
 .exact(show Î _ _ (do ret (<-mkInt 0)) _ _ s from Xk (wpAny_mkInt (Xp #[0,_,rfl,h])))
 .exact(show Î _ _ (do ret (<-mkInt 1)) _ _ s from Xk (wpAny_mkInt (Xp #[1,_,rfl,h])))
def Ii(a b:Int):decide (a=b)=(a==b):=by
 by_cases e:a=b
 .subst e;simp
 .rw[X1 e];exact(abL.mpr e).symm
def Av(prog:Ñ)(w:Û):Ϝ prog w Int where
 is:=PX
 hash:=hashInt
 inj:=λv a b ha d=>by
  rcases cU ha with⟨t,rfl⟩|⟨x,rfl,rfl⟩
  .rcases cU d with⟨u,e⟩|⟨y,rfl,e⟩
   .injection e
   .cases e
  .rcases cU d with⟨u,e⟩|⟨y,rfl,e⟩
   .cases e
   .injection e with e;rw[e]
 byValue:=λk v h=>by
  rcases cU h with⟨t,rfl⟩|⟨x,rfl,rfl⟩<;>rfl
 pyHash:=λc h=>by
  rcases cU c with⟨t,rfl⟩|⟨x,rfl,rfl⟩
  .exact wpAny_pyHash_int h
  .exact wm h
 eqBool:=λ{A E s a b u v Q} f c h=>by
  rw[Ii] at h;rcases cU f with⟨t,rfl⟩|⟨x,rfl,rfl⟩
  .rcases cU c with⟨t',rfl⟩|⟨y,rfl,rfl⟩
   .exact wpAny_eqBool_int h
   .exact ŏ _ t y _ _ _ _ h
  .rcases cU c with⟨t',rfl⟩|⟨y,rfl,rfl⟩
   .exact Ő x _ t' _ _ _ _ h
   .refine Ō x y _ _ _ _ ?_;rw[show(x==y)=(bI x==bI y) by cases x<;>cases y<;>rfl];exact h
 «strs»:=λk x t v h=>by
  rcases cU h with⟨u,e⟩|⟨y,_,e⟩<;>cases e
noncomputable def kl(k:Int×Bool):List Int:=[k.1,bI k.2]
def Ep{x y:Int×Bool}(h:kl x=kl y):x=y:=by
 obtain⟨c,a⟩:=x;obtain⟨d,b⟩:=y;have h1:c=d/\bI a=bI b:=by simpa [kl] using h
 obtain⟨rfl,h2⟩:=h1;cases a<;>cases b<;>first|rfl|exact absurd h2 .a
def M4(x y:Int×Bool):decide (kl x=kl y)=decide (x=y):=abx.mpr #[Ep,λh=>by rw[h]]
noncomputable def gZ(prog:Ñ)(w:Û):PySem.HeapKind prog w (Int×Bool) where
 is:=λh k a=>IsTupleKey (Av prog w) h (kl k) a
 hash:=λk=>tupleKeyHash (Av prog w) (kl k)
 draws:=λ_=>3
 room:=λA=>A.units<ğ
 inj:=λe d=>Ep (e.inj d)
 keeps:=λx g j i=>x.keeps g j i
 pyHash:=λf c h=>wpAny_pyHash_tuple f c h
 eqBool:=λ{A E s x y a b Q} f e d h=>wpAny_eqBool_tuple f e d (by rw[M4];exact h)
 quiet:=λc h=>wpAny_eqIsQuiet_tuple c h
def lG{prog:Ñ}(a:A.units+1<ğ):(gZ prog w).room A.in1:=a
set_option genInjectivity true in
inductive V where
 |non|bl (b:Bool)|int (i:Int)|str (x:Ð)|byt (b:Array UInt8)|flt (b:UInt64)|ref (a:Ç)|ty (n:String)
 deriving DecidableEq
variable{v:V}
def RelV:V->Ä->Prop
 |.non,u=>u=õ
 |.bl b,u=>u=ŋ b
 |.int i,u=>∃t,u=ā i t
 |.str x,u=>∃t,u=Ι x t
 |.byt b,u=>∃t,u=Value.bytes b t
 |.flt b,u=>∃t,u=Value.float b t
 |.ref a,u=>u=ÿ a
 |.ty n,u=>u=û n
abbrev Vals:List V->List Ä->Prop:=ß RelV
def Vals.length{xs:List V}{us:List Ä}(r:Vals xs us):xs.length=us.length:=aaB r
theorem Vals.get:∀{xs:List V} {us:List Ä} {i:Nat} {x:V},Vals xs us->xs[i]?=À x->∃u,us[i]?=À u/\RelV x u
 |_,_,_,_,.nil,e=>by simp at e
 |_,_,0,_,.cons r _,e=>by simp at e;subst e;exact#[_,rfl,r]
 |_,_,i+1,x,.cons _ t,e=>by
  obtain⟨u,h1,h2⟩:=Vals.get (i:=i) (x:=x) t ↑e;exact#[u,↑h1,h2]
theorem Vals.set{x:V}{u:Ä}(r:RelV x u):∀{xs:List V} {us:List Ä} (i:Nat),Vals xs us->Vals (xs.set i x) (us.set i u)
 |_,_,_,.nil=>.nil
 |_,_,0,.cons _ t=>.cons r t
 |_,_,i+1,.cons q t=>.cons q (Vals.set r i t)
theorem Vals.append:∀{xs ys:List V} {us a:List Ä},Vals xs us->Vals ys a->Vals (xs++ys) (us++a)
 |_,_,_,_,.nil,s=>s
 |_,_,_,_,.cons r t,s=>.cons r (Vals.append t s)
theorem Vals.take:∀{xs:List V} {us:List Ä} (n:Nat),Vals xs us->Vals (xs.take n) (us.take n)
 |_,_,0,_=>.nil
 |_,_,_+1,.nil=>.nil
 |_,_,n+1,.cons r t=>.cons r (Vals.take n t)
theorem Vals.drop:∀{xs:List V} {us:List Ä} (n:Nat),Vals xs us->Vals (xs.drop n) (us.drop n)
 |_,_,0,r=>r
 |_,_,_+1,.nil=>.nil
 |_,_,n+1,.cons _ t=>Vals.drop n t
def AE:Option V->Option Ä->Prop
 |some v,À u=>RelV v u
 |none,none=>True
 |_,_=>False
def KV{κ:Type}:List (κ×V)->List (κ×Ä)->Prop:=ß fun(p:κ×V) (q:κ×Ä)=>p.1=q.1/\RelV p.2 q.2
noncomputable def kV:Key->V
 |.inl i=>.int i
 |.inr x=>.str x
noncomputable def kB(k:Int×Bool):List V:=[.int k.1,.bl k.2]
inductive HO where
 |lst (xs:List V)
 |tup (xs:List V)
 |dK (YP:List (Key×V))|dT (YP:List (List Key×V))
 |dB (YP:List ((Int×Bool)×V))
 |set (S:Int->Bool) (n:Nat)
 |ins (C dx:Ç) (fs:List (Ð×V))
 |own (x:Ç)
 |xd (fs:List (Ð×V))
 |met (f x:Ç)
 |rng (lo hi:Int)
 |frz (o:ü) (u:HO)
 |tbl (ps:Array Ä)
 |ext (φ:â->Prop)
variable{o:HO}
abbrev Hp:=Ç->Option HO
variable{H:Hp}
noncomputable def upd(H:Hp)(a:Ç)(o:HO):Hp:=λb=>if b=a then À o else H b
def aQ{a:Ç}:upd H a o a=À o:=by unfold upd;rw[Xo rfl]
def aC{a b:Ç}(h:b≠a):upd H a o b=H b:=by unfold upd;rw[Xl h]
def GG{a b:Ç}{u:HO}(h:H a=À o)(h':H b=À u)(d:o≠u):a≠b:=by
 intro e;subst e;rw[h] at h';exact d (XJ h')
def b9{a b:Ç}(h:H a=À o)(h':H b=none):a≠b:=by
 intro e;subst e;rw[h] at h';cases h'
section
variable(P:Ñ)(w:Û)
def b8(H:Hp)(h:â)(a:Ç):HO->Prop
 |.lst xs=>xs.length<=sizeLine/\∃(XV:List Ä) (n:Nat),Vals xs XV/\h.get? a=À {cls:=.type "list",data:=.seq XV.toArray n}
 |.tup xs=>xs.length<=sizeLine/\∃XV:List Ä,Vals xs XV/\IsTup h a XV.toArray
 |.dK YP=>YP.length<=sizeLine/\(a==ù)=Â/\∃vs,KV YP vs/\h.DictOf (dP P w) a vs
 |.dT YP=>YP.length<=sizeLine/\(a==ù)=Â/\∃xs:List (List Key×Ç×Ä),
   ß (fun(p:List Key×V) (q:List Key×Ç×Ä)=>p.1=q.1/\H q.2.1=À (.tup (p.1.map kV))/\RelV p.2 q.2.2) YP xs /\
   ∃o es ep,h.get? a=À o/\o.ExactDict/\o.data=.dict es ep/\es.toList=xs.map (entryOfKey (Ŏ (dP P w)))/\(xs.map (·.1)).Nodup
 |.dB YP=>YP.length<=sizeLine/\(a==ù)=Â/\∃xs:List ((Int×Bool)×Ç×Ä),
   ß (fun(p:(Int×Bool)×V) (q:(Int×Bool)×Ç×Ä)=>p.1=q.1/\H q.2.1=À (.tup (kB p.1))/\RelV p.2 q.2.2) YP xs /\
   ∃o es ep,h.get? a=À o/\o.ExactDict/\o.data=.dict es ep/\es.toList=xs.map (entryOfKey (gZ P w))/\(xs.map (·.1)).Nodup
 |.set S n=>h.SetOf (ć P w) a S n
 |.ins C dx fs=>H dx=À (.own a)/\fs.length<=1000/\dx≠a/\h.get? a=À (PySem.W.instObj C dx) /\
   ∃mA,h.Ns1 dx mA/\(∀f,AE (fs.lookup f) (mA f))/\PySem.Within mA (fs.map (·.1))
 |.own _=>∃o,h.get? a=À o
 |.xd fs=>∃mA,h.Ns1 a mA/\∀f,AE (fs.lookup f) (mA f)
 |.rng lo hi=>∃t u v,h.get? a=À {cls:=.type "range",data:=.fields (à [.int lo t,.int hi u,.int 1 v])}
 |.frz o u=>h.get? a=À o/\b8 H h a u
 |.tbl ps=>h.get? a=À {cls:=.none,data:=.fields ps}
 |.met f x=>h.get? a=À (İ (.ref f) (.ref x))
 |.ext φ=>φ h/\(∃o,h.get? a=À o)/\∀h1 h2:â,φ h1->(∀o,h1.get? a=À o->h2.get? a=À o)->φ h2
def lL(H:Hp)(h:â):Prop:=∀a o,H a=À o->b8 P w H h a o
end
section
variable{P:Ñ}{w:Û}{H H':Hp}{h h':â}{a:Ç}{o:HO}
def b8.lt(x:b8 P w H h a o):a<h.objs.size:=by
 cases o with
 |lst xs=>obtain⟨_,_,_,_,e⟩:=x;exact XE e
 |tup xs=>obtain⟨_,_,_,p⟩:=x;exact p.lt
 |dK YP=>obtain⟨_,_,_,_,o,_,_,e,_⟩:=x;exact XE e
 |dT YP=>obtain⟨_,_,_,_,o,_,_,e,_⟩:=x;exact XE e
 |dB YP=>obtain⟨_,_,_,_,o,_,_,e,_⟩:=x;exact XE e
 |set S n=>obtain⟨o,_,_,_,e,_⟩:=x;exact XE e
 |ins C dx fs=>obtain⟨_,_,_,e,_⟩:=x;exact XE e
 |own y=>obtain⟨_,e⟩:=x;exact XE e
 |xd fs=>obtain⟨_,⟨_,_,_,e,_⟩,_⟩:=x;exact XE e
 |rng lo hi=>obtain⟨_,_,_,e⟩:=x;exact XE e
 |frz ob u=>obtain⟨e,_⟩:=x;exact XE e
 |tbl ps=>exact XE (show h.get? a=À _ from x)
 |met f y=>exact XE (show h.get? a=À _ from x)
 |ext φ=>obtain⟨_,⟨_,e⟩,_⟩:=x;exact XE e
theorem Paired.FC{M β:Type}{F G:M->β->Prop}:∀{d:List M} {c:List β},ß F d c->(∀a b,F a b->G a b)->ß G d c
 |_,_,.nil,_=>.nil
 |_,_,.cons r t,f=>.cons (f _ _ r) (Paired.FC t f)
def b8.w6(x:b8 P w H h a o)(k:∀b u,(b=a\/H b=À (.own a))->h.get? b=À u->h'.get? b=À u)
  (i:∀b,H b=À (.own a)->H' b=À (.own a)) (g:∀b xs,H b=À (.tup xs)->H' b=À (.tup xs)):b8 P w H' h' a o:=by
 induction o with
 |lst xs=>obtain⟨z,XV,n,r,e⟩:=x;exact#[z,XV,n,r,k _ _ (.inl rfl) e]
 |tup xs=>obtain⟨z,XV,r,ob,e,c⟩:=x;exact#[z,XV,r,ob,k _ _ (.inl rfl) e,c]
 |dK YP=>obtain⟨z,y,vs,r,ob,es,ep,e,c⟩:=x;exact#[z,y,vs,r,ob,es,ep,k _ _ (.inl rfl) e,c]
 |dT YP =>
  obtain⟨z,y,xs,r,ob,es,ep,e,c⟩:=x;exact#[z,y,xs,Paired.FC r λp q z=>#[z.1,g _ _ z.2.1,z.2.2],ob,es,ep,k _ _ (.inl rfl) e,c]
 |dB YP =>
  obtain⟨z,y,xs,r,ob,es,ep,e,c⟩:=x;exact#[z,y,xs,Paired.FC r λp q z=>#[z.1,g _ _ z.2.1,z.2.2],ob,es,ep,k _ _ (.inl rfl) e,c]
 |set S n=>obtain⟨ob,es,ep,t,e,c⟩:=x;exact#[ob,es,ep,t,k _ _ (.inl rfl) e,c]
 |ins C dx fs =>
  obtain⟨d,z,ne,e,mA,⟨od,es,ep,e2,c⟩,r⟩:=x;exact#[i _ d,z,ne,k _ _ (.inl rfl) e,mA,#[od,es,ep,k _ _ (.inr d) e2,c],r]
 |own y=>obtain⟨ob,e⟩:=x;exact#[ob,k _ _ (.inl rfl) e]
 |xd fs=>obtain⟨mA,⟨od,es,ep,e,c⟩,r⟩:=x;exact#[mA,#[od,es,ep,k _ _ (.inl rfl) e,c],r]
 |rng lo hi=>obtain⟨t,u,v,e⟩:=x;exact#[t,u,v,k _ _ (.inl rfl) e]
 |frz ob u j=>obtain⟨e,q⟩:=x;exact#[k _ _ (.inl rfl) e,j q]
 |tbl ps =>
  have e:h.get? a=À {cls:=.none,data:=.fields ps}:=x;show h'.get? a=À {cls:=.none,data:=.fields ps};exact k a _ (.inl rfl) e
 |met f y =>
  have e:h.get? a=À (İ (.ref f) (.ref y)):=x;show h'.get? a=À (İ (.ref f) (.ref y));exact k a _ (.inl rfl) e
 |ext φ=>obtain⟨p,⟨o,e⟩,st⟩:=x;exact#[st _ _ p λo q=>k _ _ (.inl rfl) q,#[o,k _ _ (.inl rfl) e],st]
def lL.lt(x:lL P w H h)(e:H a=À o):a<h.objs.size:=(x a o e).lt
def lL.fresh(x:lL P w H h)(e:h.objs.size<=a):H a=none:=by
 cases q:H a with
 |none=>rfl
 |some u=>exact absurd (X4 (x.lt q) e) (Ϸ _)
def lL.kept(x:lL P w H h)(k:∀b u,h.get? b=À u->h'.get? b=À u):lL P w H h':=λa o e =>
 (x a o e).w6 (λb u _ q=>k b u q) (λ_ q=>q) λ_ _ q=>q
def lL.laid(x:lL P w H h)(k:∀b u,h.get? b=À u->h'.get? b=À u)(hp:h.objs.size<=a)(new:b8 P w (upd H a o) h' a o):lL P w (upd H a o) h':=λb u e=>by
 have f:=x.fresh hp;by_cases d:b=a
 .subst d;rw[aQ] at e;cases e;exact new
 .rw[aC d] at e;exact(x b u e).w6 (λc v _ q=>k c v q) (λc q=>by rw[aC (b9 q f)];exact q) λc xs q=>by rw[aC (b9 q f)];exact q
end
def Rd(H:Hp)(a:Ç)(u:HO):Prop:=H a=À u\/∃o,H a=À (.frz o u)
def Rd.ok{a:Ç}{u:HO}(r:Rd H a u)(x:lL P w H h):b8 P w H h a u:=by
 rcases r with r|⟨o,r⟩
 .exact x a u r
 .obtain⟨_,q⟩:=x a _ r;exact q
def PY:Option HO->Prop
 |some (.lst _)=>True
 |some (.dK _)=>True
 |some (.dT _)=>True
 |some (.dB _)=>True
 |some (.set _ _)=>True
 |some (.ins _ _ _)=>True
 |some (.ext _)=>True
 |_=>False
section
variable{P:Ñ}{w:Û}{H:Hp}{h h':â}{x e:Ç}{o':HO}
def lL.write(ok:lL P w H h)(j:PY (H x))(he:e=x\/H e=À (.own x))(k:∀b u,b≠e->h.get? b=À u->h'.get? b=À u)(l:∃u,h'.get? e=À u)
  (new:b8 P w (upd H x o') h' x o'):lL P w (upd H x o') h':=λb u q=>by
 have d:∀c y,H c=À (.own y)->c≠x:=λc y r z=>by subst z;rw[r] at j;exact j
 have f:∀c xs,H c=À (.tup xs)->c≠x:=λc xs r z=>by subst z;rw[r] at j;exact j
 by_cases g:b=x
 .subst g;rw[aQ] at q;cases q;exact new
 .rw[aC g] at q;by_cases a:b=e
  .have q':H b=À (.own x):=by
    rcases he with z|z
    .exact absurd (a.trans z) g
    .rw[a];exact z
   rw[q] at q';cases q';obtain⟨v,m⟩:=l;exact#[v,by rw[a];exact m]
  .refine(ok b u q).w6 (λc v i r=>k c v ?_ r) (λc r=>by rw[aC (d c b r)];exact r) λc xs r=>by rw[aC (f c xs r)];exact r
   rcases i with rfl|i
   .exact a
   .rintro rfl;rcases he with z|z
    .exact d c b i z
    .rw[i] at z;cases z;exact g rfl
end
structure Un(fs ex:List Ç)(H H':Hp)(h h':â):Prop where
 keep:∀b o,h.get? b=À o->H b=none->b∉fs->b∉ex->h'.get? b=À o
 slot:∀b o,h.get? b=À o->H b=none->b∈fs->b∉ex->∃sl,h'.get? b=À {o with slots:=sl}
 free:∀b o,h.get? b=À o->H b=none->b∉ex->H' b=none
 there:∀b o,h.get? b=À o->b∉ex->∃o',h'.get? b=À o'
 tups:∀b xs,H b=À (.tup xs)->H' b=À (.tup xs)
 frzs:∀b o u,H b=À (.frz o u)->H' b=À (.frz o u)
 tbls:∀b ps,H b=À (.tbl ps)->∃more,H' b=À (.tbl (ps++more))
section
variable{fs fs' ex ex':List Ç}{H H1 H2:Hp}{h h1 h2 h':â}{a x e:Ç}{o:HO}
def Un.any(u:Un fs ex H H1 h h1){b:Ç}{ob:ü}(q:h.get? b=À ob)(n:H b=none)(c:b∉ex):∃sl,h1.get? b=À {ob with slots:=sl}:=by
 by_cases a:b∈fs
 .exact u.slot b ob q n a c
 .exact#[ob.slots,u.keep b ob q n a c]
def Un.trans(a:Un fs ex H H1 h h1)(b:Un fs ex H1 H2 h1 h2):Un fs ex H H2 h h2 where
 keep:=λc ob q n e d=>b.keep c ob (a.keep c ob q n e d) (a.free c ob q n d) e d
 slot:=λc ob q n e d=>by
  obtain⟨sl,e1⟩:=a.slot c ob q n e d;obtain⟨f,e2⟩:=b.slot c _ e1 (a.free c ob q n d) e d;exact#[f,e2]
 free:=λc ob q n d=>by
  obtain⟨o',e1⟩:=a.there c ob q d;exact b.free c o' e1 (a.free c ob q n d) d
 there:=λc ob q d=>by
  obtain⟨o',e1⟩:=a.there c ob q d;exact b.there c o' e1 d
 tups:=λc xs q=>b.tups c xs (a.tups c xs q)
 frzs:=λc ob xs q=>b.frzs c ob xs (a.frzs c ob xs q)
 tbls:=λc ps q=>by
  obtain⟨m1,e1⟩:=a.tbls c ps q;obtain⟨m2,e2⟩:=b.tbls c _ e1;exact#[m1++m2,by rw[e2,ų]]
def Un.kept(k:∀b u,h.get? b=À u->h'.get? b=À u):Un fs ex H H h h' :=
 #[λb ob q _ _ _=>k b ob q,λb ob q _ _ _=>#[ob.slots,k b ob q],λ_ _ _ n _=>n,λb ob q _=>#[ob,k b ob q],λ_ _ q=>q,λ_ _ _ q=>q,λ_ ps q=>#[#[],by rw[q];simp]]
def Un.refl:Un fs ex H H h h:=Un.kept λ_ _ q=>q
def Un.laid(k:∀b u,h.get? b=À u->h'.get? b=À u)(hp:h.objs.size<=a)(c:H a=none):Un fs ex H (upd H a o) h h' where
 keep:=λb u q _ _ _=>k b u q
 slot:=λb u q _ _ _=>#[u.slots,k b u q]
 free:=λb u q n _=>by rw[aC (X5 (X4 (XE q) hp))];exact n
 there:=λb u q _=>#[u,k b u q]
 tups:=λb xs q=>by rw[aC (b9 q c)];exact q
 frzs:=λb u xs q=>by rw[aC (b9 q c)];exact q
 tbls:=λb ps q=>#[#[],by rw[aC (b9 q c),q];simp]
def Un.write(c:PY (H x))(he:e=x\/H e=À (.own x))(k:∀b u,b≠e->h.get? b=À u->h'.get? b=À u)(d:∃u,h'.get? e=À u):Un fs ex H (upd H x o) h h':=by
 have g:∀b,H b=none->b≠x:=λb n z=>by subst z;rw[n] at c;exact c
 have i:∀b,H b=none->b≠e:=λb n z=>by
  subst z;rcases he with r|r
  .exact g b n r
  .rw[n] at r;cases r
 have f:∀b u,H b=À u->¬PY (À u)->b≠x:=λb u q nm z=>by subst z;rw[q] at c;exact nm c
 refine#[λb u q n _ _=>k b u (i b n) q,λb u q n _ _=>#[u.slots,k b u (i b n) q],λb u q n _=>by rw[aC (g b n)];exact n,λb u q _=>?_,
  λb xs q=>by rw[aC (f b _ q λz=>z)];exact q,λb u xs q=>by rw[aC (f b _ q λz=>z)];exact q,λb ps q=>#[#[],by rw[aC (f b _ q λz=>z),q];simp]]
 by_cases a:b=e
 .subst a;exact d
 .exact#[u,k b u a q]
end
noncomputable def QZ(h:â)(H:Hp):List Ç:=(Ô h.objs.size).filter λa=>(H a).isSome
noncomputable def xB(h:â)(H:Hp):â:=PySem.W.hideAll h (QZ h H)
def Dj(h:â)(H:Hp):(xB h H).objs.size=h.objs.size:=PySem.W.hideAll_size _ _
def E7{b:Ç}{o:ü}(e:h.get? b=À o)(n:H b=none):(xB h H).get? b=À o :=
 PySem.W.hideAll_get _ e λa=>by
  have q:(H b).isSome=Á:=(Ys.mp a).2;rw[n] at q;simp at q
def Jx{b:Ç}{o:ü}(e:(xB h H).get? b=À o):h.get? b=À o/\H b=none:=by
 have a:h.get? b=À o:=PySem.W.of_hideAll (QZ h H) e;refine#[a,?_];cases q:H b with
 |none=>rfl
 |some x =>
  have c:b∈QZ h H:=Ys.mpr #[Yu.mpr (XE a),by simp[q]];have z:(xB h H).get? b=none:=PySem.W.hideAll_none (QZ h H) c;rw[z] at e;cases e
structure Mod(K:Ã)(mg:Ð->Option Ä)(base:â):Prop where
 kin:K.In base
 glob:base.Ns Í mg
 blt:∃mb,base.Ns ϭ mb/\∀x:Ð,x≠"__name__"->mb x=ė x
 nolimit:base.NoLimit
/-- the context: a def's body (or a comprehension's block) running. base: fixed through the whole law; s₀, H₀: the entry; outer: the frames whose slots others may change (a def's callers); stack: all frames that run;
   ex: iterators that were made ahead of the entry and are walked here (a comprehension's);fn: the names whose cells were made at the entry (a def: all;a comprehension's block: XV own);calm: not within an except suite;pn: Z2 that every state bears;xe: what is wanted of an exception that leaves the code -/
structure Cx where
 prog:Ñ
 w:Û
 K:Ã
 mg:Ð->Option Ä
 base:â
 A:ä
 N:List Ð
 s₀:Æ
 H₀:Hp
 env:Ł
 outer:List Ł
 stack:List Ł
 ex:List Ç
 fn:Ð->Bool
 calm:Bool
 pn:List (Ç×ü)
 xe:Ä->Æ->Prop
variable{X:Cx}
noncomputable def Bv(l:List Ł):List Ç:=l.filterMap (·.frame)
abbrev Cx.fs(X:Cx):List Ç:=Bv X.outer
def Iy(a:Ĉ)(x:Ð):Prop:=a.names.lookup x=À .local\/a.names.lookup x=À .cell\/a.names.lookup x=À .free
def Loc(a:Ĉ)(x:Ð):Prop:=a.names.lookup x=À .local\/a.names.lookup x=À .cell
def Look(env:Ł)(h:â)(m:Ð->Option Ä)(x:Ð)(u:Ä):Prop :=
 (env.kindOf x=À .local/\m x=À u)\/((env.kindOf x=À .cell\/env.kindOf x=À .free)/\∃c,env.cells.lookup x=À c/\h.IsCell c (À u))
structure Cx.Ok(X:Cx):Prop where
 mod:Mod X.K X.mg X.base
 kind:X.env.scope.kind=.function
 glob:X.env.globals=Í
 blt:X.env.builtins=ϭ
 above:X.s₀.heap.objs.size<=X.env.locals
 inj:∀x y c,X.env.cells.lookup x=À c->X.env.cells.lookup y=À c->x=y
 has:∀x,(X.env.kindOf x=À .cell\/X.env.kindOf x=À .free)->∃c,X.env.cells.lookup x=À c
 cab:∀x c,X.fn x=Á->X.env.cells.lookup x=À c->X.s₀.heap.objs.size<=c
 hd:X.calm=Á->X.A.handled=none
 frames:X.A.frames=À X.stack
 stk:X.stack=X.outer\/(X.stack=X.env::X.outer/\X.env.frame=À X.env.locals)
 exf:∀b∈X.ex,b≠X.env.locals/\∀x c,X.env.cells.lookup x=À c->c≠b
 bs:∀b o,X.base.get? b=À o->X.s₀.heap.get? b=À o/\X.H₀ b=none
 bsz:X.base.objs.size<=X.s₀.heap.objs.size
 noex:∀b o,X.base.get? b=À o->b∉X.ex
 exfs:∀b∈X.ex,b∉X.fs
 o_:X.s₀.heap.FunFrames X.base X.outer
 frf:∀b∈X.fs,X.H₀ b=none
structure Inv(X:Cx)(Z2:List (Ç×ü))(Y:List (Option V))(H:Hp)(s:Æ):Prop where
 ok:X.Ok
 os:s.os=X.s₀.os
 bare:Į s.gens
 base:Un X.fs X.ex X.H₀ H X.s₀.heap s.heap
 loc:∃m,s.heap.Ns X.env.locals m/\∀(i:Nat) (x:Ð) (v:V),X.N[i]?=À x->Y[i]?=À (À v)->Iy X.env.scope x->∃u,RelV v u/\Look X.env s.heap m x u
 cell:∀x c,X.env.cells.lookup x=À c->∃v,s.heap.IsCell c v
 free:H X.env.locals=none
 freeC:∀x c,X.env.cells.lookup x=À c->H c=none
 pin:∀p∈X.pn++Z2,s.heap.get? p.1=À p.2/\H p.1=none/\p.1≠X.env.locals/\p.1∉X.fs/\∀v,p.2.data≠.cell v
 hok:lL X.prog X.w H s.heap
 len:Y.length=X.N.length
section
variable{X:Cx}{Z2:List (Ç×ü)}{Y:List (Option V)}{H H':Hp}{s:Æ}{h':â}
def Cx.Ok.R5(ok:X.Ok){b:Ç}{o:ü}(e:X.base.get? b=À o):b∉X.fs:=λa=>by
 have:=(ok.o_.mem a).1;rw[e] at this;cases this
def Inv.bs(I:Inv X Z2 Y H s):∀b o,X.base.get? b=À o->s.heap.get? b=À o/\H b=none:=λb o e =>
 #[I.base.keep b o (I.ok.bs b o e).1 (I.ok.bs b o e).2 (I.ok.R5 e) (I.ok.noex b o e),I.base.free b o (I.ok.bs b o e).1 (I.ok.bs b o e).2 (I.ok.noex b o e)]
def Inv.bk(I:Inv X Z2 Y H s):∀b o,X.base.get? b=À o->s.heap.get? b=À o:=λb o e=>(I.bs b o e).1
def Inv.mod(I:Inv X Z2 Y H s):Mod X.K X.mg X.base:=I.ok.mod
def Inv.LH(I:Inv X Z2 Y H s):X.K.In s.heap:=I.ok.mod.kin.keeps I.bk
def Inv.lt(I:Inv X Z2 Y H s):X.env.locals<s.heap.objs.size:=let #[_,hn,_]:=I.loc;hn.lt
def Inv.sz(I:Inv X Z2 Y H s):X.s₀.heap.objs.size<=s.heap.objs.size:=Ye I.ok.above (Y0 I.lt)
def Inv.Ri(I:Inv X Z2 Y H s){a:Ç}(h:s.heap.objs.size<=a):a∉X.fs:=λb=>by
 obtain⟨_,o,c,_⟩:=I.ok.o_.mem b;exact absurd (X4 (XE c) (Ye I.sz h)) (Ϸ _)
def Inv.MQ(I:Inv X Z2 Y H s):∀x c,X.env.cells.lookup x=À c->c≠X.env.locals:=λx c e z=>by
 obtain⟨v,o,d,f⟩:=I.cell x c e;obtain⟨m,⟨o',es,ep,a,b,_⟩,_⟩:=I.loc;rw[z,a] at d;cases d;rw[b] at f;cases f
def Inv.o_(I:Inv X Z2 Y H s):s.heap.FunFrames X.base X.outer:=by
 have all:∀(l:List Ł),(∀b∈Bv l,b∈X.fs)->X.s₀.heap.FunFrames X.base l->s.heap.FunFrames X.base l:=by
  intro l
  induction l with
  |nil=>intro _ _;trivial
  |cons env r j =>
   intro f k;obtain⟨g,⟨L,o,c,h,i,n⟩,m⟩:=k;have d:L∈X.fs:=f L (by unfold Bv;rw[abM,c];exact XA);obtain⟨sl,e⟩:=I.base.slot L o i (I.ok.frf L d) d λz=>I.ok.exfs L z d;exact#[g,#[L,_,c,h,e,n],j (λb a=>f b (by unfold Bv;rw[abM,c];exact Xx _ a)) m]
 exact all X.outer (λ_ a=>a) I.ok.o_
def Inv.stack(I:Inv X Z2 Y H s):s.heap.FunFrames X.base X.stack:=by
 rcases I.ok.stk with e|⟨e,b⟩
 .rw[e];exact I.o_
 .rw[e];obtain⟨m,a,_⟩:=I.loc;refine .cons (by rw[I.ok.kind];decide) b a ?_ I.o_;exact Heap.get?_none_of_le (Ye I.ok.bsz I.ok.above)
def Inv.vD(I:Inv X Z2 Y H s):∀b∈Bv X.stack,b∈X.env.locals::X.fs:=λb a=>by
 rcases I.ok.stk with e|⟨e,c⟩
 .rw[e] at a;exact Xx _ a
 .rw[e] at a;unfold Bv at a;rw[abM,c] at a;exact a
def Inv.Cr(I:Inv X Z2 Y H s):∀b∈Bv X.stack,H b=none:=λb a=>by
 rcases Xm.mp (I.vD b a) with e|a
 .rw[e];exact I.free
 .obtain⟨_,o,c,_⟩:=I.ok.o_.mem a;exact I.base.free b o c (I.ok.frf b a) λz=>I.ok.exfs b z a
def Inv.step{g':Array ϔ}{d':Drawn}(I:Inv X Z2 Y H s)
  (g:∀b∈ch,(b∈X.ex\/X.s₀.heap.objs.size<=b)/\b≠X.env.locals/\(∀x c,X.env.cells.lookup x=À c->c≠b)/\∀p∈X.pn++Z2,p.1≠b)
  (keep:∀b o,b≠X.env.locals->b∉X.fs->b∉ch->s.heap.get? b=À o->H b=none->h'.get? b=À o)
  (slot:∀b o,b≠X.env.locals->b∈X.fs->b∉ch->s.heap.get? b=À o->H b=none->∃sl,h'.get? b=À {o with slots:=sl}) (free:∀b o,b∉ch->s.heap.get? b=À o->H b=none->H' b=none)
  (there:∀b o,b∉ch->s.heap.get? b=À o->∃o',h'.get? b=À o')
  (A:∀b xs,H b=À (.tup xs)->H' b=À (.tup xs)) (C:∀b o u,H b=À (.frz o u)->H' b=À (.frz o u)) (B:∀b ps,H b=À (.tbl ps)->∃more,H' b=À (.tbl (ps++more)))
  (ns:∀m,s.heap.Ns X.env.locals m->h'.Ns X.env.locals m) (D:lL X.prog X.w H' h') (K:Į g'):
  Inv X Z2 Y H' {s with heap:=h',gens:=g',drawn:=d',toks:=t'}:=by
 have y:∀b o,X.s₀.heap.get? b=À o->b≠X.env.locals:=λb o e=>X5 (X4 (XE e) I.ok.above)
 have h:∀b o,X.s₀.heap.get? b=À o->b∉X.ex->b∉ch:=λb o e a j=>by
  rcases(g b j).1 with z|z
  .exact a z
  .exact absurd (X4 (XE e) z) (Ϸ _)
 have cellK:∀x c,X.env.cells.lookup x=À c->∀v,s.heap.IsCell c v->h'.IsCell c v:=λx c e v ⟨o,t,F⟩=>by
  have f:c∉ch:=λz=>(g c z).2.2.1 x c e rfl;by_cases J:c∈X.fs
  .obtain⟨sl,q⟩:=slot c o (I.MQ x c e) J f t (I.freeC x c e);exact#[_,q,F]
  .exact#[o,keep c o (I.MQ x c e) J f t (I.freeC x c e),F]
 refine#[I.ok,I.os,K,#[λb o e n j a=>?_,λb o e n j a=>?_,λb o e n a=>?_,λb o e a=>?_,λb xs e=>A b xs (I.base.tups b xs e),λb o xs e=>C b o xs (I.base.frzs b o xs e),λb ps e=>?_],?_,λx c e=>?_,?_,λx c e=>?_,λp hp=>?_,D,I.len]
 .exact keep b o (y b o e) j (h b o e a) (I.base.keep b o e n j a) (I.base.free b o e n a)
 .obtain⟨sl,e1⟩:=I.base.slot b o e n j a;obtain⟨E,e2⟩:=slot b _ (y b o e) j (h b o e a) e1 (I.base.free b o e n a);exact#[E,e2]
 .obtain⟨o',e1⟩:=I.base.there b o e a;exact free b o' (h b o e a) e1 (I.base.free b o e n a)
 .obtain⟨o',e1⟩:=I.base.there b o e a;exact there b o' (h b o e a) e1
 .obtain⟨m1,e1⟩:=I.base.tbls b ps e;obtain⟨m2,e2⟩:=B b _ e1;exact#[m1++m2,by rw[e2,ų]]
 .obtain⟨m,L,α⟩:=I.loc;refine#[m,ns m L,λi x v e1 e2 e3=>?_];obtain⟨u,r,l⟩:=α i x v e1 e2 e3;refine#[u,r,?_];rcases l with l|⟨k,c,e,z⟩
  .exact .inl l
  .exact .inr #[k,c,e,cellK x c e _ z]
 .obtain⟨v,z⟩:=I.cell x c e;exact#[v,cellK x c e v z]
 .obtain⟨m,⟨o,_,_,t,_⟩,_⟩:=I.loc;exact free _ o (λz=>(g _ z).2.1 rfl) t I.free
 .obtain⟨v,o,t,F⟩:=I.cell x c e;exact free c o (λz=>(g c z).2.2.1 x c e rfl) t (I.freeC x c e)
 .obtain⟨e,n,ne,G,d⟩:=I.pin p hp;have f:p.1∉ch:=λz=>(g p.1 z).2.2.2 p hp rfl;exact#[keep p.1 p.2 ne G f e n,free p.1 p.2 f e n,ne,G,d]
def Inv.un(I:Inv X Z2 Y H s)(u:Un X.fs [] H H' s.heap h')(d:lL X.prog X.w H' h'):Inv X Z2 Y H' {s with heap:=h',toks:=t'}:=by
 obtain⟨m,⟨o,es,ep,h,r⟩,_⟩:=id I.loc;obtain⟨sl,i⟩:=u.any h I.free .c
 exact I.step (g':=s.gens) (d':=s.drawn) (ch:=[]) (λ_ z=>nomatch z) (λb o _ c _ e n=>u.keep b o e n c .c) (λb o _ c _ e n=>u.slot b o e n c .c) (λb o _ e n=>u.free b o e n .c) (λb o _ e=>u.there b o e .c) u.tups u.frzs u.tbls (λl k=>by
  obtain⟨o',g,f,a,j⟩:=k;rw[h] at a;cases a
  exact#[_,g,f,i,j]) d I.bare
def Inv.call{g':Array ϔ}{d':Drawn}(I:Inv X Z2 Y H s)(u:Un (Bv X.stack) ch H H' s.heap h')(g:lL X.prog X.w H' h')(l:Į g')
  (f:∀b∈ch,(b∈X.ex\/X.s₀.heap.objs.size<=b)/\b≠X.env.locals/\(∀x c,X.env.cells.lookup x=À c->c≠b)/\∀p∈X.pn++Z2,p.1≠b):
  Inv X Z2 Y H' {s with heap:=h',gens:=g',drawn:=d',toks:=t'}:=by
 obtain⟨m,⟨o,es,ep,k,r⟩,_⟩:=id I.loc;obtain⟨sl,i⟩:=u.any k I.free λz=>(f _ z).2.1 rfl
 exact I.step (ch:=ch) f (λb o i q a e n=>u.keep b o e n (λz=>(Xm.mp (I.vD b z)).elim i q) a) (λb o _ _ a e n=>u.any e n a) (λb o a e n=>u.free b o e n a) (λb o a e=>u.there b o e a) u.tups u.frzs u.tbls (λy v=>by
  obtain⟨o',h,j,d,t⟩:=v;rw[k] at d;cases d
  exact#[_,h,j,i,t]) g l
def Inv.turned{it:Ç}(I:Inv X Z2 Y H s)(k:∀b o,b≠it->s.heap.get? b=À o->h'.get? b=À o)(h:H it=none)(f:it≠X.env.locals)
  (h1:it∈X.ex\/X.s₀.heap.objs.size<=it) (h2:∀x c,X.env.cells.lookup x=À c->c≠it) (j:∀p∈X.pn++Z2,p.1≠it):Inv X Z2 Y H {s with heap:=h',toks:=t'}:=by
 have d:∀b u,H b=À u->b≠it:=λb u e z=>by rw[z,h] at e;cases e
 refine I.step (g':=s.gens) (d':=s.drawn) (ch:=[it]) (λb g=>?_) (λb o _ _ a e _=>k b o (λz=>a (by simp[z])) e) (λb o _ _ a e _=>#[o.slots,k b o (λz=>a (by simp[z])) e]) (λ_ _ _ _ n=>n)
  (λb o a e=>#[o,k b o (λz=>a (by simp[z])) e]) (λ_ _ e=>e) (λ_ _ _ e=>e) (λb ps e=>#[#[],by rw[e];simp]) (λm l=>?_) (λb u e=>?_) I.bare
 .have e:b=it:=by simpa using g
  subst e;exact#[h1,f,h2,j]
 .obtain⟨o,es,ep,i,r⟩:=l;exact#[o,es,ep,k _ o (Z5 f) i,r]
 .refine(I.hok b u e).w6 (λc v a q=>k c v ?_ q) (λ_ q=>q) λ_ _ q=>q;rcases a with z|z
  .rw[z];exact d b u e
  .exact d c _ z
def Inv.tok(I:Inv X Z2 Y H s)(t:Nat):Inv X Z2 Y H {s with toks:=t}:=I.un (h':=s.heap) (t':=t) Un.refl I.hok
def Inv.kept{t':Nat}(I:Inv X Z2 Y H s)(k:∀b u,s.heap.get? b=À u->h'.get? b=À u):Inv X Z2 Y H {s with heap:=h',toks:=t'}:=I.un (Un.kept k) (I.hok.kept k)
def Inv.laid{a:Ç}{o:HO}{t':Nat}(I:Inv X Z2 Y H s)(k:∀b u,s.heap.get? b=À u->h'.get? b=À u)(hp:s.heap.objs.size<=a)(new:b8 X.prog X.w (upd H a o) h' a o):
  Inv X Z2 Y (upd H a o) {s with heap:=h',toks:=t'}:=I.un (Un.laid k hp (I.hok.fresh hp)) (I.hok.laid k hp new)
def Inv.write{x e:Ç}{o:HO}{t':Nat}(I:Inv X Z2 Y H s)(c:PY (H x))(he:e=x\/H e=À (.own x))(k:∀b u,b≠e->s.heap.get? b=À u->h'.get? b=À u)(a:∃u,h'.get? e=À u)
  (new:b8 X.prog X.w (upd H x o) h' x o):Inv X Z2 Y (upd H x o) {s with heap:=h',toks:=t'}:=I.un (Un.write c he k a) (I.hok.write c he k a new)
def Inv.weak{Y':List (Option V)}(I:Inv X Z2 Y H s)(a:Y'.length=Y.length)(w:∀(i:Nat) v,Y'[i]?=À (À v)->Y[i]?=À (À v)):Inv X Z2 Y' H s :=
 #[I.ok,I.os,I.bare,I.base,let #[m,hn,hl']:=I.loc;#[m,hn,λi x v e1 e2 e3=>hl' i x v e1 (w i v e2) e3],I.cell,I.free,I.freeC,I.pin,I.hok,a.trans I.len]
def Inv.oa{a:List (Ç×ü)}(I:Inv X Z2 Y H s)(h:∀p∈a,s.heap.get? p.1=À p.2/\H p.1=none/\p.1≠X.env.locals/\p.1∉X.fs/\∀v,p.2.data≠.cell v):Inv X a Y H s :=
 #[I.ok,I.os,I.bare,I.base,I.loc,I.cell,I.free,I.freeC,λp hp=>(Yf.mp hp).elim (λz=>I.pin p (Ya _ z)) (h p),I.hok,I.len]
def yN{N:List Ð}(c:N.Nodup){j:Nat}(a:N[i]?=À x)(b:N[j]?=À x):i=j:=by
 obtain⟨h1,e1⟩:=Xy.mp a;obtain⟨h2,e2⟩:=Xy.mp b;exact(τ c).mp (e1.trans e2.symm)
def DG{E:Ä->Æ->Prop}{Q:Unit->Æ->Prop}(I:Inv X Z2 Y H s)(hN:X.N.Nodup)(hi:X.N[i]?=À x)(l:Loc X.env.scope x)(r:RelV v u)
  (h:∀s',Inv X Z2 (Y.set i (À v)) H s'->(∃a,Đ a s.heap s'.heap/\(a=X.env.locals\/X.env.cells.lookup x=À a))->Q () s') (hf:X.fn x=Á\/X.env.scope.names.lookup x=À .local:=by first|exact .inl rfl|exact .inr rfl|assumption):Î α A (storeName X.env x u) Q E s:=by
 obtain⟨m,V,hl⟩:=id I.loc;have K:(X.env.scope.kind==.class || (X.env.scope.kind==.module&&X.env.locals != X.env.globals))=Â:=by rw[I.ok.kind];rfl
 have L:i<Y.length:=by rw[I.len];exact(Xy.mp hi).1
 have MQ:=I.MQ
 have tracked:∀{a:Ç} {h':â},(∃o,s.heap.get? a=À o/\H a=none)->Đ a s.heap h'->lL X.prog X.w H h':=λ{a h'} ha f b ob e=>by
  obtain⟨_,_,t⟩:=ha;refine(I.hok b ob e).w6 (λc R g q=>(f.2 c ?_).trans q) (λ_ q=>q) λ_ _ q=>q;rintro rfl;rcases g with rfl|g
  .rw[t] at e;cases e
  .rw[t] at g;cases g
 rcases l with B|B
 .refine wpAny_storeName_local B V (λh' Z f=>?_) K;obtain⟨oL,_,_,T,_⟩:=id V;refine h _ #[I.ok,I.os,I.bare,#[λb o e n C l=>?_,λb o e n C l=>?_,I.base.free,λb o e l=>?_,I.base.tups,I.base.frzs,I.base.tbls],#[_,Z,λj y Γ e1 e2 e3=>?_],λy c e=>?_,I.free,I.freeC,λp hp=>?_,tracked #[oL,T,I.free] f,↑I.len] #[_,f,.inl rfl]
  .exact(f.2 b (X5 (X4 (XE e) I.ok.above))).trans (I.base.keep b o e n C l)
  .obtain⟨sl,e1⟩:=I.base.slot b o e n C l;exact#[sl,(f.2 b (X5 (X4 (XE e) I.ok.above))).trans e1]
  .obtain⟨o',e1⟩:=I.base.there b o e l;exact#[o',(f.2 b (X5 (X4 (XE e) I.ok.above))).trans e1]
  .by_cases F:j=i
   .subst F;rw[hi] at e1;cases e1;rw[ZC L] at e2;cases e2;exact#[u,r,.inl #[B,.c]]
   .rw[ZN (Z5 F)] at e2;obtain⟨σ,W,q⟩:=hl j y Γ e1 e2 e3;refine#[σ,W,?_];rcases q with⟨k,e⟩|⟨k,c,e,z⟩
    .refine .inl #[k,?_];have:y≠x:=λe=>F (yN hN e1 (e▸hi));simp[this,e]
    .exact .inr #[k,c,e,z.sameBut f (MQ y c e)]
  .obtain⟨R,z⟩:=I.cell y c e;exact#[R,z.sameBut f (MQ y c e)]
  .obtain⟨e,n,ne,S,d⟩:=I.pin p hp;exact#[(f.2 p.1 ne).trans e,n,ne,S,d]
 .have D:X.fn x=Á:=by
   rcases hf with z|z
   .exact z
   .rw[z] at B;cases B
  obtain⟨c,g⟩:=I.ok.has x (.inl B);obtain⟨R,z⟩:=I.cell x c g;refine wpAny_storeName_cell I.ok.kind B g z (λh' O f=>?_);obtain⟨oc,P,G⟩:=id z;refine h {s with heap:=h'} #[I.ok,I.os,I.bare,#[λb o e n C l=>?_,λb o e n C l=>?_,I.base.free,λb o e l=>?_,I.base.tups,I.base.frzs,I.base.tbls],#[m,V.sameBut f (Z5 (MQ x c g)),λj y Γ e1 e2 e3=>?_],λy c' e=>?_,I.free,I.freeC,λp hp=>?_,tracked #[oc,P,I.freeC x c g] f,↑I.len] #[c,f,.inr g]
  .exact(f.2 b (X5 (X4 (XE e) (I.ok.cab x c D g)))).trans (I.base.keep b o e n C l)
  .obtain⟨sl,e1⟩:=I.base.slot b o e n C l;exact#[sl,(f.2 b (X5 (X4 (XE e) (I.ok.cab x c D g)))).trans e1]
  .obtain⟨o',e1⟩:=I.base.there b o e l;exact#[o',(f.2 b (X5 (X4 (XE e) (I.ok.cab x c D g)))).trans e1]
  .by_cases F:j=i
   .subst F;rw[hi] at e1;cases e1;rw[ZC L] at e2;cases e2;exact#[u,r,.inr #[.inl B,c,g,O]]
   .rw[ZN (Z5 F)] at e2;obtain⟨σ,W,q⟩:=hl j y Γ e1 e2 e3;refine#[σ,W,?_];rcases q with q|⟨k,c',e,z'⟩
    .exact .inl q
    .refine .inr #[k,c',e,z'.sameBut f ?_];rintro rfl;exact F (yN hN e1 (I.ok.inj _ _ _ e g▸hi))
  .by_cases J:c'=c
   .subst J;exact#[_,O]
   .obtain⟨w2,z2⟩:=I.cell y c' e;exact#[w2,z2.sameBut f J]
  .obtain⟨e,n,ne,S,d⟩:=I.pin p hp;refine#[(f.2 p.1 ?_).trans e,n,ne,S,d];intro q;rw[q,P] at e;have q':oc=p.2:=XJ e;exact d R (by rw[<-q'];exact G)
def zh{E:Ä->Æ->Prop}{Q:Unit->Æ->Prop}(I:Inv X Z2 Y H s)(d:X.N.Nodup)(hi:X.N[i]?=À x)(a:Loc X.env.scope x)(r:RelV v u)
  (h:∀s',Inv X Z2 (Y.set i (À v)) H s'->Q () s') (b:X.fn x=Á\/X.env.scope.names.lookup x=À .local:=by first|exact .inl rfl|exact .inr rfl|assumption):Î α A (storeName X.env x u) Q E s :=
 DG I d hi a r (λs' c _=>h s' c) b
def Inv.PR{s':Æ}(I:Inv X Z2 Y H s)(g:s'.os=s.os)(u:Un (Bv X.stack) ch H H' s.heap s'.heap)(a:lL X.prog X.w H' s'.heap)(f:Į s'.gens)
  (d:∀b∈ch,(b∈X.ex\/X.s₀.heap.objs.size<=b)/\b≠X.env.locals/\(∀x c,X.env.cells.lookup x=À c->c≠b)/\∀p∈X.pn++Z2,p.1≠b):Inv X Z2 Y H' s':=by
 obtain⟨h',g',d',t',o'⟩:=s';have e:o'=s.os:=g;subst e;exact I.call (g':=g') (t':=t') (d':=d') u a f d
end
abbrev XK:=Ä->Option Ç->Hp->Prop
abbrev St:=List (Option V)
variable{Y:St}
abbrev VK:=V->Hp->Prop
variable{Q:VK}
abbrev TE:=St->Hp->VK->Prop
abbrev TT:=St->Hp->(Bool->Hp->Prop)->Prop
abbrev TA:=St->Hp->(List V->Hp->Prop)->Prop
structure Ends where
 nx:St->Hp->Prop
 rt:VK
 bk:St->Hp->Prop:=λ_ _=>False
 ct:St->Hp->Prop:=λ_ _=>False
abbrev TS:=Ends->St->Hp->Prop
variable{tb:TS}
def EP(X:Cx)(Z2:List (Ç×ü))(Y:St)(Q:VK)(u:Ä)(s':Æ):Prop:=∃v H',Inv X Z2 Y H' s'/\RelV v u/\Q v H'
def TP(X:Cx)(Z2:List (Ç×ü))(Y:St)(Q:Bool->Hp->Prop)(b:Bool)(s':Æ):Prop:=∃H',Inv X Z2 Y H' s'/\Q b H'
def AP(X:Cx)(Z2:List (Ç×ü))(Y:St)(Q:List V->Hp->Prop)(us:List Ä)(s':Æ):Prop:=∃vs H',Inv X Z2 Y H' s'/\Vals vs us/\Q vs H'
def SP(X:Cx)(Z2:List (Ç×ü))(D:Ends)(f:Flow)(s':Æ):Prop :=
 match f with
 |.next=>∃Y' H',Inv X Z2 Y' H' s'/\D.nx Y' H'
 |.brk=>∃Y' H',Inv X Z2 Y' H' s'/\D.bk Y' H'
 |.cont=>∃Y' H',Inv X Z2 Y' H' s'/\D.ct Y' H'
 |.ret u=>∃v Y' H',Inv X Z2 Y' H' s'/\RelV v u/\D.rt v H'
def PE(X:Cx)(e:Õ)(t:TE):Prop :=
 ∀(Z2:List (Ç×ü)) (s:Æ) (Y:St) (H:Hp) (Q:VK),Inv X Z2 Y H s->t Y H Q->Î .F X.A (Ý e X.env) (EP X Z2 Y Q) X.xe s
def PT(X:Cx)(e:Õ)(t:TT):Prop :=
 ∀(Z2:List (Ç×ü)) (s:Æ) (Y:St) (H:Hp) (Q:Bool->Hp->Prop),Inv X Z2 Y H s->t Y H Q->Î .F X.A (Η e X.env (Ý e X.env)) (TP X Z2 Y Q) X.xe s
def PW(X:Cx)(e:Õ)(t:TT):Prop :=
 ∀(whole:ĸ Ä) (Z2:List (Ç×ü)) (s:Æ) (Y:St) (H:Hp) (Q:Bool->Hp->Prop),Inv X Z2 Y H s->t Y H Q->Î .F X.A (Η e X.env whole) (TP X Z2 Y Q) X.xe s
def PW.pt{t:TT}(h:PW X e t):PT X e t:=h _
def PA(X:Cx)(es:List Õ)(t:TA):Prop :=
 ∀(pos:ò) (Z2:List (Ç×ü)) (s:Æ) (Y:St) (H:Hp) (Q:List V->Hp->Prop),Inv X Z2 Y H s->t Y H Q->Î .F X.A (spliced (ì pos (Å es X.env))) (AP X Z2 Y Q) X.xe s
def PS(X:Cx)(st:Ò)(t:TS):Prop :=
 ∀(Z2:List (Ç×ü)) (s:Æ) (Y:St) (H:Hp) (D:Ends),Inv X Z2 Y H s->t D Y H->Î .F X.A (exec st X.env) (SP X Z2 D) X.xe s
def rh(X:Cx)(st:List Ò)(t:TS):Prop :=
 ∀(Z2:List (Ç×ü)) (s:Æ) (Y:St) (H:Hp) (D:Ends),Inv X Z2 Y H s->t D Y H->Î .F X.A (execs st X.env) (SP X Z2 D) X.xe s
def cy{M:Type}{t:ĸ M}{Q b:M->Æ->Prop}{E:Ä->Æ->Prop}(h:Î α A t Q E s)(c:∀a s,Q a s->b a s):Î α A t b E s:=ZP h c λ_ _ x=>x
section
variable{X:Cx}
def P2(i:Nat):TE:=λY H Q=>∃v,Y[i]?=À (À v)/\Q v H
def tC(v:V):TE:=λ_ H Q=>Q v H
def Nb(k:X.N[i]?=À x)(j:Iy X.env.scope x)(f:autoParam ((x==("__debug__":Ð))=Â) zrb)(d:autoParam ((x==("__classdict__":Ð))=Â) zrb):PE X (.Name x pos) (P2 i):=by
 intro Z2 s Y H Q I h;obtain⟨v,e,h⟩:=h;obtain⟨m,n,o⟩:=I.loc;obtain⟨u,r,l⟩:=o i x v k e j;have fin:EP X Z2 Y Q u s:=#[v,H,I,r,h];rcases l with⟨b,p⟩|⟨b,c,g,a⟩
 .exact Ϩ (wpAny_loadName_local I.ok.kind b n p fin) f
 .rcases b with b|b
  .exact Ϩ (wpAny_loadName_cell I.ok.kind b g a fin) f
  .exact Ϩ (wpAny_loadName_free I.ok.kind b g a fin d) f
def Mr{i j pos}:PE X (.Constant (.int i) j pos) (tC (.int i)):=λ_ _ _ H _ I h=>wpAny_Constant_int #[.int i,H,I.tok _,#[_,rfl],h]
def OX{b j pos}:PE X (.Constant (.bool b) j pos) (tC (.bl b)):=λ_ _ _ H _ I h=>Constant_bool #[.bl b,H,I,rfl,h]
def Mq{j pos}:PE X (.Constant .none j pos) (tC .non):=λ_ _ _ H _ I h=>Ű #[.non,H,I,rfl,h]
def Gl(X:Cx)(x:Ð):Prop:=X.env.kindOf x=À .globalImplicit
def wN{E:Ä->Æ->Prop}{Q:Ä->Æ->Prop}(I:Inv X Z2 Y H s)(b:Gl X x)(a:X.mg x=À u)(h:Q u s)
  (c:(x==("__debug__":Ð))=Â:=by decide):Î .F X.A (Ý (.Name x pos) X.env) Q E s :=
 abX I.ok.kind b (Calls.loadGlobal_global (by rw[I.ok.glob];exact I.mod.glob.keeps I.bk) a h) c
def ic{E:Ä->Æ->Prop}{Q:Ä->Æ->Prop}(I:Inv X Z2 Y H s)(b:Gl X x)(d:X.mg x=none)(a:ė x=À u)(h:Q u s)
  (c:x≠"__name__":=by decide) (e:(x==("__debug__":Ð))=Â:=by decide):Î .F X.A (Ý (.Name x pos) X.env) Q E s:=by
 obtain⟨f,h1,h2⟩:=I.mod.blt;exact abX I.ok.kind b (Calls.loadGlobal_builtin (by rw[I.ok.glob];exact I.mod.glob.keeps I.bk) d (by rw[I.ok.blt];exact h1.keeps I.bk) ((h2 x c).trans a) h) e
def BV(a:Gl X x)(b:X.mg x=À u)(r:RelV v u)(c:autoParam ((x==("__debug__":Ð))=Â) zrb):PE X (.Name x pos) (tC v) :=
 λ_ _ _ H _ I h=>wN I a b #[v,H,I,r,h] c
def Jd(b:Gl X x)(d:X.mg x=none)(a:ė x=À u)(r:RelV v u)(c:autoParam (x≠"__name__") zrb)(e:autoParam ((x==("__debug__":Ð))=Â) zrb):PE X (.Name x pos) (tC v) :=
 λ_ _ _ H _ I h=>ic I b d a #[v,H,I,r,h] c e
variable{a b:Õ}{ta tb:TE}{pos:ò}
def PC(X:Cx)(op:ş)(a b:Õ)(t:TE):Prop :=
 ∀(Z2:List (Ç×ü)) (s:Æ) (Y:St) (H:Hp) (Q:VK),Inv X Z2 Y H s->t Y H Q ->
  Î .F X.A (Ý a X.env) (λv d=>Î .F X.A (Ý b X.env) (λu c=>Î .F X.A (æ op v u) (EP X Z2 Y Q) X.xe c) X.xe d) X.xe s
def yn(b:Õ)(h:op≠.In)(h2:op≠.NotIn):ø op b=Â:=by
 have e1:(op==CmpOp.In)=Â:=by cases op<;>first|rfl|exact absurd rfl h
 have e2:(op==CmpOp.NotIn)=Â:=by cases op<;>first|rfl|exact absurd rfl h2
 cases b<;>simp[ø,e1,e2]
def Rg(ta:TE):TE:=λY H Q=>ta Y H λx H1=>Q (.bl (decide (x=.non))) H1
def QC(ta:TE):TE:=λY H Q=>ta Y H λx H1=>Q (.bl (!decide (x=.non))) H1
def RelV.zv{x:V}{v:Ä}(r:RelV x v):(v==õ)=decide (x=.non):=by
 cases x with
 |non=>cases r;rfl
 |bl _=>cases r;rfl
 |int _=>obtain⟨t,rfl⟩:=r;rfl
 |str _=>obtain⟨t,rfl⟩:=r;rfl
 |byt _=>obtain⟨t,rfl⟩:=r;rfl
 |flt _=>obtain⟨t,rfl⟩:=r;rfl
 |ref _=>cases r;rfl
 |ty _=>cases r;rfl
def FD{j pos'}(ha:PE X a ta):PC X .Is a (.Constant .none j pos') (Rg ta):=by
 intro Z2 s Y H Q I h;refine cy (ha Z2 s Y H _ I h) λv d ⟨x,H1,b,c,q1⟩=>?_;exact Ű (is_none_gen #[.bl _,H1,b,by rw[c.zv];rfl,q1])
def Bt{j pos'}(ha:PE X a ta):PC X .IsNot a (.Constant .none j pos') (QC ta):=by
 intro Z2 s Y H Q I h;refine cy (ha Z2 s Y H _ I h) λv d ⟨x,H1,b,c,q1⟩=>?_;exact Ű (isnot_none_gen #[.bl _,H1,b,by rw[c.zv];rfl,q1])
def tB(t:TE):TT:=λY H Q=>t Y H λx H1=>∃c,x=.bl c/\Q c H1
def GQ{t:TE}(h:PC X op a b t)(h1:ø op b=Â:=by first|exact yn _ .a .a|rfl):PE X (.Compare a [op] [b] pos) t:=λZ2 s Y H Q I c=>wpAny_Compare1 (h Z2 s Y H Q I c) h1
def G6{t:TE}(h:PC X op a b t)(h1:ø op b=Â:=by first|exact yn _ .a .a|rfl):PT X (.Compare a [op] [b] pos) (tB t):=by
 intro Z2 s Y H Q I e;refine Ψ (cy (h Z2 s Y H _ I e) λv k h1=>cy h1 λu j h2=>cy h2 λc i ⟨x,H1,g,f,q1⟩=>?_) h1;obtain⟨d,rfl,q⟩:=q1;cases f;exact Y4 #[H1,g,q]
def N1{t:TE}(h:PE X e t)(he:autoParam (∀whole,Η e X.env whole=(do let v <-whole;standAt e.pos;Ĭ [v] (truthy v))) zrc):PT X e (tB t):=by
 intro Z2 s Y H Q I a;refine isTrue_plain (cy (h Z2 s Y H _ I a) λv f ⟨x,H1,b,c,q1⟩=>?_) (he _);obtain⟨d,rfl,q⟩:=q1;cases c;exact Y4 #[H1,b,q]
variable{tA tB':TT}{rest:List Õ}
def Si(t u:TT):TT:=λY H Q=>t Y H λc H1=>if c=Á then u Y H1 Q else Q Â H1
def S9(t u:TT):TT:=λY H Q=>t Y H λc H1=>if c=Á then Q Á H1 else u Y H1 Q
def Sn(t:TT):TT:=λY H Q=>t Y H λc H1=>Q (!c) H1
def J0(ha:PT X a tA):PW X (.BoolOp .And [a] pos) tA:=by
 intro b Z2 s Y H Q I h;refine isTrue_and (cy (ha Z2 s Y H Q I h) λc d e=>?_);cases c with
 |true=>exact isTrue_and_nil e
 |false=>exact e
def LJ(ha:PT X a tA):PW X (.BoolOp .Or [a] pos) tA:=by
 intro b Z2 s Y H Q I h;refine isTrue_or (cy (ha Z2 s Y H Q I h) λc d e=>?_);cases c with
 |false=>exact isTrue_or_nil e
 |true=>exact e
def En(ha:PT X a tA)(e:PW X (.BoolOp .And (b::rest) pos) tB'):PW X (.BoolOp .And (a::b::rest) pos) (Si tA tB'):=by
 intro f Z2 s Y H Q I h;refine isTrue_and (cy (ha Z2 s Y H _ I h) λc g ⟨H1,d,q1⟩=>?_);cases c with
 |true=>exact e f Z2 g Y H1 Q d q1
 |false=>exact#[H1,d,q1]
def Ll(ha:PT X a tA)(e:PW X (.BoolOp .Or (b::rest) pos) tB'):PW X (.BoolOp .Or (a::b::rest) pos) (S9 tA tB'):=by
 intro f Z2 s Y H Q I h;refine isTrue_or (cy (ha Z2 s Y H _ I h) λc g ⟨H1,d,q1⟩=>?_);cases c with
 |true=>exact#[H1,d,q1]
 |false=>exact e f Z2 g Y H1 Q d q1
def Nj(ha:PT X a tA):PT X (.UnaryOp .Not a pos) (Sn tA):=by
 intro Z2 s Y H Q I h;exact isTrue_not (ha Z2 s Y H (λc H1=>Q (!c) H1) I h)
def OR(ta tb:TE):TE:=λY H Q=>ta Y H λx H1=>∃c,x=.bl c/\if c=Á then tb Y H1 Q else Q (.bl Â) H1
def Rk(ta tb:TE):TE:=λY H Q=>ta Y H λx H1=>∃c,x=.bl c/\if c=Á then Q (.bl Á) H1 else tb Y H1 Q
def P_(ta:TE):TE:=λY H Q=>ta Y H λx H1=>∃c,x=.bl c/\Q (.bl (!c)) H1
def Nx{op}{t:TE}(h:PE X a t):PE X (.BoolOp op [a] pos) t:=λZ2 s Y H Q I b=>BoolOp_one (h Z2 s Y H Q I b)
def GR(ha:PE X a ta)(e:PE X (.BoolOp .And (b::rest) pos) tb):PE X (.BoolOp .And (a::b::rest) pos) (OR ta tb):=by
 intro Z2 s Y H Q I h;refine BoolOp_and (cy (ha Z2 s Y H _ I h) λv f ⟨x,H1,d,g,q1⟩=>?_);obtain⟨c,rfl,q1⟩:=q1;cases g;refine Y4 ?_;cases c with
 |true=>exact e Z2 f Y H1 Q d q1
 |false=>exact#[.bl Â,H1,d,rfl,q1]
def Li(ha:PE X a ta)(e:PE X (.BoolOp .Or (b::rest) pos) tb):PE X (.BoolOp .Or (a::b::rest) pos) (Rk ta tb):=by
 intro Z2 s Y H Q I h;refine BoolOp_or (cy (ha Z2 s Y H _ I h) λv f ⟨x,H1,d,g,q1⟩=>?_);obtain⟨c,rfl,q1⟩:=q1;cases g;refine Y4 ?_;cases c with
 |false=>exact e Z2 f Y H1 Q d q1
 |true=>exact#[.bl Á,H1,d,rfl,q1]
def NB(ha:PE X a ta):PE X (.UnaryOp .Not a pos) (P_ ta):=by
 intro Z2 s Y H Q I h;refine UnaryOp_ (cy (ha Z2 s Y H _ I h) λv e ⟨x,H1,b,d,q1⟩=>?_);obtain⟨c,rfl,q1⟩:=q1;cases d;exact not_of (Y4 #[.bl (!c),H1,b,rfl,q1])
def Tj(t:TT)(ta tb:TE):TE:=λY H Q=>t Y H λc H1=>if c=Á then ta Y H1 Q else tb Y H1 Q
def iT(i:PT X c tA)(ha:PE X a ta)(g:PE X b tb):PE X (.IfExp c a b pos) (Tj tA ta tb):=by
 intro Z2 s Y H Q I h;refine wpAny_IfExp (cy (i Z2 s Y H _ I h) λd e ⟨H1,f,q1⟩=>?_);cases d with
 |true=>exact ha Z2 e Y H1 Q f q1
 |false=>exact g Z2 e Y H1 Q f q1
end
def dX(K:Ã)(H:Hp)(a:Ç)(xs:List V):Prop :=
 Rd H a (.lst xs) \/
  ∃(o:ü) (XV:Array Ä) (n:Nat),K.lookup a=À o/\o.cls=.type "list"/\o.dict=none/\o.data=.seq XV n/\XV.size<=sizeLine/\Vals xs XV.toList
def zE(K:Ã)(H:Hp)(a:Ç)(xs:List V):Prop :=
 Rd H a (.tup xs) \/
  ∃(o:ü) (XV:Array Ä) (n:Nat),K.lookup a=À o/\o.cls=.type "tuple"/\o.data=.seq XV n/\XV.size<=sizeLine/\Vals xs XV.toList
noncomputable def RK:Ä->Option V
 |.none=>À .non
 |.bool b=>À (.bl b)
 |.int i _=>À (.int i)
 |.str x _=>À (.str x)
 |.bytes b _=>À (.byt b)
 |.float b _=>À (.flt b)
 |.ref a=>À (.ref a)
 |.type n=>À (.ty n)
 |_=>none
def RelV.abs{x:V}(r:RelV x u):RK u=À x:=by
 cases x with
 |non=>cases r;rfl
 |bl _=>cases r;rfl
 |int _=>obtain⟨t,rfl⟩:=r;rfl
 |str _=>obtain⟨t,rfl⟩:=r;rfl
 |byt _=>obtain⟨t,rfl⟩:=r;rfl
 |flt _=>obtain⟨t,rfl⟩:=r;rfl
 |ref _=>cases r;rfl
 |ty _=>cases r;rfl
def RelV.inj{x y:V}{u:Ä}(r:RelV x u)(q:RelV y u):x=y:=XJ (r.abs.symm.trans q.abs)
theorem Vals.inj:∀{xs ys:List V} {us:List Ä},Vals xs us->Vals ys us->xs=ys
 |_,_,_,.nil,.nil=>rfl
 |_,_,_,.cons r t,.cons a t'=>by rw[r.inj a,Vals.inj t t']
section
variable{X:Cx}{Z2:List (Ç×ü)}{Y:St}{H:Hp}{s:Æ}{a:Ç}{xs ys:List V}
def dX.of(h:H a=À (.lst xs)):dX K H a xs:=.inl (.inl h)
def Inv.list(I:Inv X Z2 Y H s)(h:dX X.K H a xs):∃XV:List Ä,Vals xs XV/\PlainL s.heap a XV.toArray/\xs.length<=sizeLine:=by
 rcases h with h|⟨o,XV,n,b,c,f,d,hz,r⟩
 .obtain⟨z,XV,n,r,e⟩:=h.ok I.hok;exact#[XV,r,#[_,n,e,rfl,rfl,rfl],z]
 .refine#[XV.toList,r,#[o,n,I.LH a o b,c,f,↑d],?_];have e:=r.length;simp only[XG] at e;lia
def Inv.tuple(I:Inv X Z2 Y H s)(h:zE X.K H a xs):∃XV:List Ä,Vals xs XV/\IsTup s.heap a XV.toArray/\xs.length<=sizeLine:=by
 rcases h with h|⟨o,XV,n,b,c,d,hz,r⟩
 .obtain⟨z,XV,r,p⟩:=h.ok I.hok;exact#[XV,r,p,z]
 .refine#[XV.toList,r,#[o,I.LH a o b,c,n,↑d],?_];have e:=r.length;simp only[XG] at e;lia
def Inv.nZ(I:Inv X Z2 Y H s)(h:dX X.K H a xs)(h':dX X.K H a ys):xs=ys:=by
 obtain⟨XV,r,⟨o,n,e,_,_,d⟩,_⟩:=I.list h;obtain⟨its',c,⟨o',f,b,_,_,d'⟩,_⟩:=I.list h';rw[e] at b;cases b;rw[d] at d';injection d' with d1 _;have:XV=its':=by simpa using congrArg ϳ d1
 subst this;exact r.inj c
def Inv.Dn(I:Inv X Z2 Y H s)(h:zE X.K H a xs)(h':zE X.K H a ys):xs=ys:=by
 obtain⟨XV,r,⟨o,e,_,n,d⟩,_⟩:=I.tuple h;obtain⟨its',c,⟨o',b,_,f,d'⟩,_⟩:=I.tuple h';rw[e] at b;cases b;rw[d] at d';injection d' with d1 _;have:XV=its':=by simpa using congrArg ϳ d1
 subst this;exact r.inj c
end
abbrev Cx.uc(X:Cx)(E:Ä->Æ->Prop):Cx:={X with xe:=E}
abbrev Cx.KO(X:Cx):Cx:=X.uc λ_ _=>False
def Cx.Ok.uc{X:Cx}(ok:X.Ok)(E:Ä->Æ->Prop):(X.uc E).Ok :=
 #[ok.mod,ok.kind,ok.glob,ok.blt,ok.above,ok.inj,ok.has,ok.cab,ok.hd,ok.frames,ok.stk,ok.exf,ok.bs,ok.bsz,ok.noex,ok.exfs,ok.o_,ok.frf]
def Cx.Ok.kc{E:Ä->Æ->Prop}(ok:(X.uc E).Ok):X.Ok :=
 #[ok.mod,ok.kind,ok.glob,ok.blt,ok.above,ok.inj,ok.has,ok.cab,ok.hd,ok.frames,ok.stk,ok.exf,ok.bs,ok.bsz,ok.noex,ok.exfs,ok.o_,ok.frf]
section
variable{X:Cx}{Z2:List (Ç×ü)}{Y:St}{H:Hp}{s:Æ}{E:Ä->Æ->Prop}
def Inv.uc(I:Inv X Z2 Y H s)(E:Ä->Æ->Prop):Inv (X.uc E) Z2 Y H s:=#[I.ok.uc E,I.os,I.bare,I.base,I.loc,I.cell,I.free,I.freeC,I.pin,I.hok,I.len]
def Inv.kc(I:Inv (X.uc E) Z2 Y H s):Inv X Z2 Y H s:=#[I.ok.kc,I.os,I.bare,I.base,I.loc,I.cell,I.free,I.freeC,I.pin,I.hok,I.len]
def SP.kc{D:Ends}{f:Flow}{s':Æ}(h:SP (X.uc E) Z2 D f s'):SP X Z2 D f s':=by
 cases f with
 |next=>obtain⟨Y',H',I,q⟩:=h;exact#[Y',H',I.kc,q]
 |brk=>obtain⟨Y',H',I,q⟩:=h;exact#[Y',H',I.kc,q]
 |cont=>obtain⟨Y',H',I,q⟩:=h;exact#[Y',H',I.kc,q]
 |ret u=>obtain⟨v,Y',H',I,r,q⟩:=h;exact#[v,Y',H',I.kc,r,q]
def rh.KO{st:List Ò}{t:TS}(h:rh X.KO st t):rh X st t:=λZ2 s Y H D I a =>
 ZP (h Z2 s Y H D (I.uc _) a) (λ_ _ q=>q.kc) λ_ _ z=>Ć z
variable{st:Ò}{rest:List Ò}{t u:TS}{e:Õ}{te:TE}{pos:ò}
def P9:TS:=λD Y H=>D.nx Y H
def RA(t u:TS):TS:=λD Y H=>t {D with nx:=u D} Y H
def Jg:rh X [] P9:=λ_ _ Y H _ I h=>acJ #[Y,H,I,h]
def Hb(h1:PS X st t)(h2:rh X rest u):rh X (st::rest) (RA t u):=by
 intro Z2 s Y H D I h;refine wpAny_execs_cons (cy (h1 Z2 s Y H {D with nx:=u D} I h) λf b q=>?_);cases f with
 |next =>
  obtain⟨Y',H',a,q⟩:=q;exact h2 Z2 b Y' H' D a q
 |ret v=>exact q
 |brk=>exact q
 |cont=>exact q
def Inv.quiet{Z2:List (Ç×ü)}{Y:St}{H:Hp}{s:Æ}(I:Inv X Z2 Y H s):interactive X.env=Â:=by simp[interactive,I.ok.kind]
def Qn(te:TE):TS:=λD Y H=>te Y H λ_ H1=>D.nx Y H1
def BA(he:PE X e te)(b:autoParam (Ā e none pos.line X.env=pure Â) zra):PS X (.Expr e pos) (Qn te):=by
 intro Z2 s Y H D I h;exact wpAny_Expr_any (cy (he Z2 s Y H _ I h) λv c ⟨x,H1,a,d,q1⟩=>#[Y,H1,a,q1]) I.quiet b
def Ru(te:TE):TS:=λD Y H=>te Y H D.rt
def HF(he:PE X e te):PS X (.Return (À e) pos) (Ru te):=by
 intro Z2 s Y H D I h;exact wpAny_Return_some (cy (he Z2 s Y H _ I h) λv c ⟨x,H1,a,b,q1⟩=>#[x,Y,H1,a,b,q1])
def RN(c:TT)(t u:TS):TS:=λD Y H=>c Y H λb H1=>if b=Á then t D Y H1 else u D Y H1
def K2{a b:List Ò}{tc:TT}(i:PT X c tc)(ha:rh X a t)(g:rh X b u):PS X (.If c a b pos) (RN tc t u):=by
 intro Z2 s Y H D I h;refine wpAny_If (cy (i Z2 s Y H _ I h) λd e ⟨H1,f,q1⟩=>?_);cases d with
 |true=>exact ha Z2 e Y H1 D f q1
 |false=>exact g Z2 e Y H1 D f q1
def NG:TS:=λ_ _ _=>False
def vt{a:List Ò}:rh X a NG:=λ_ _ _ _ _ _ h=>h.elim
end
abbrev TG:=V->St->Hp->(St->Hp->Prop)->Prop
variable{g:TG}
abbrev NO:=List V->St->Hp->(St->Hp->Prop)->Prop
def PG(X:Cx)(target:Õ)(t:TG):Prop :=
 ∀(Z2:List (Ç×ü)) (s:Æ) (Y:St) (H:Hp) (v:V) (u:Ä) (Q:St->Hp->Prop),Inv X Z2 Y H s->RelV v u->t v Y H Q ->
  Î .F X.A (Ģ target X.env u) (λ_ s'=>∃Y' H',Inv X Z2 Y' H' s'/\Q Y' H') X.xe s
def QW(X:Cx)(a:List Õ)(t:NO):Prop :=
 ∀(Z2:List (Ç×ü)) (s:Æ) (Y:St) (H:Hp) (vs:List V) (us:List Ä) (Q:St->Hp->Prop),Inv X Z2 Y H s->Vals vs us->t vs Y H Q ->
  Î .F X.A (assignInOrder ((ú a X.env).map (·.2)) us) (λ_ s'=>∃Y' H',Inv X Z2 Y' H' s'/\Q Y' H') X.xe s
abbrev LZ:=V->V->V->Hp->(Hp->Prop)->Prop
def Qy(X:Cx)(t:LZ):Prop :=
 ∀(Z2:List (Ç×ü)) (s:Æ) (Y:St) (H:Hp) (o i v:V) (a b u:Ä) (Q:Hp->Prop),Inv X Z2 Y H s->RelV o a->RelV i b->RelV v u->t o i v H Q ->
  Î .F X.A (setItem a b u) (λ_ s'=>∃H',Inv X Z2 Y H' s'/\Q H') X.xe s
section
variable{X:Cx}{pos:ò}
def kN(i:Nat):TG:=λv Y H Q=>Q (Y.set i (À v)) H
def mJ(d:X.N.Nodup)(hi:X.N[i]?=À x)(a:Loc X.env.scope x)(b:X.fn x=Á\/X.env.scope.names.lookup x=À .local:=by first|exact .inl rfl|exact .inr rfl|assumption):PG X (.Name x pos) (kN i):=by
 intro Z2 s Y H v u Q I r h;exact wpAny_assign_Name (zh I d hi a r (λs' c=>#[_,H,c,h]) b)
def Jb:NO:=λvs Y H Q=>vs=[]/\Q Y H
def rR(t:TG)(u:NO):NO:=λvs Y H Q=>∃v r,vs=v::r/\t v Y H λY' H'=>u r Y' H' Q
def B7:QW X [] Jb:=by
 intro Z2 s Y H vs us Q I r h;obtain⟨e,h⟩:=h;subst e;cases r;exact assignInOrder_nil #[Y,H,I,h]
def mP{es:List Õ}{t:TG}{u:NO}(h1:PG X e t)(h2:QW X es u)
  (d:(ú (e::es) X.env).map (·.2)=Ģ e X.env::(ú es X.env).map (·.2):=by rfl):QW X (e::es) (rR t u):=by
 intro Z2 s Y H vs us Q I r h;obtain⟨v,f,e1,h⟩:=h;subst e1;cases r with
 |cons r b =>
  rw[d];refine assignInOrder_cons (cy (h1 Z2 s Y H _ _ _ I r h) λ_ a ⟨σ1,H1,c,q1⟩=>?_);exact h2 Z2 a σ1 H1 _ _ Q c b q1
def JP(K:Ã)(n:Nat)(t:NO):TG:=λv Y H Q=>∃a xs,v=.ref a/\zE K H a xs/\xs.length=n/\t xs Y H Q
def Gf{es:List Õ}{t:NO}(p:X.calm=Á)(h:QW X es t)
  (i:(ú es X.env).length=n:=by rfl) (d:(ú es X.env).findIdx? (·.1)=none:=by rfl):PG X (.Tuple es k pos) (JP X.K n t):=by
 intro Z2 s Y H v u Q I r c;obtain⟨a,xs,e1,g,m,c⟩:=c;subst e1;cases r;obtain⟨XV,f,q,hz⟩:=I.tuple g;refine assign_Tuple_tuple (I.ok.hd p) q (by simp[i,<-m,f.length]) d λh' l=>?_;have j:Inv X Z2 Y H {s with heap:=h'}:=I.kept (t':=s.toks) λb o e=>l b o (X5 (XE e)) e;exact h Z2 _ Y H xs _ Q j ↑f c
def Se(to b:TE)(t:LZ):TG:=λv Y H Q=>to Y H λo H1=>b Y H1 λi H2=>t o i v H2 λa=>Q Y a
def NU{o i:Õ}{to c:TE}{t:LZ}(e:PE X o to)(hi:PE X i c)(w:Qy X t)
  (ha:∀v,Ģ (.Subscript o i pos) X.env v=(do
   let a <-Ĭ [v] (Ý o X.env);let b <-Ĭ [v,a] (Ý i X.env)
   standAt pos
   Ĭ [v,a,b] (setItem a b v)
   release [v,a,b] []):=by intro _;rfl):PG X (.Subscript o i pos) (Se to c t):=by
 intro Z2 s Y H v u Q I r h;rw[ha];refine Xk (Zg (cy (e Z2 s Y H _ I h) λa j ⟨x,H1,m,n,q1⟩=>?_));refine Xk (Zg (cy (hi Z2 j Y H1 _ m q1) λb l ⟨y,H2,p,q,f⟩=>?_));refine Xk (Ŧ (Xk (Zg (cy (w Z2 l Y H2 x y v a b u _ p n q r f) λ_ z ⟨k,g,d⟩=>?_))));exact wpAny_release #[Y,k,g,d]
def O4(te:TE)(g:TG):TS:=λD Y H=>te Y H λx H1=>g x Y H1 D.nx
def M5{te:TE}(he:PE X e te)(b:PG X tg g)(i:autoParam (swapsWithSole [tg] e pos.line X.env=pure Â) zra)(a:autoParam (swappedStores [tg] e X.env=pure none) zra)
  (h1:(ú [tg] X.env).map (·.2)=[Ģ tg X.env]:=by rfl):PS X (.Assign [tg] e pos) (O4 te g):=by
 intro Z2 s Y H D I h;refine wpAny_Assign_stores (cy (he Z2 s Y H _ I h) λv c ⟨x,H1,f,d,q1⟩=>?_) i a;rw[h1];exact cy (b Z2 c Y H1 x v _ f d q1) λ_ j q=>q
def vH{te:TE}{pos':ò}(b:X.N.Nodup)(hi:X.N[i]?=À x)(g:Loc X.env.scope x)(he:PE X e te)(j:autoParam (Ā e (À (.Name x pos')) pos.line X.env=pure Â) zra)(a:X.fn x=Á\/X.env.scope.names.lookup x=À .local:=by first|exact .inl rfl|exact .inr rfl|assumption):
  PS X (.Assign [.Name x pos'] e pos) (O4 te (kN i)):=by
 intro Z2 s Y H D I h;refine wpAny_Assign_Name (cy (he Z2 s Y H _ I h) λv l ⟨y,H1,c,f,q1⟩=>?_) j;exact zh c b hi g f (λk d=>#[_,H1,d,q1]) a
def NY(c:TT)(tb:TS):TS:=λD Y H=>∃W:Nat->St->Hp->Prop,(∃m,W m Y H)/\∀m Y H,W m Y H ->
 c Y H λb H1=>if b=Á then ∃N:St->Hp->Prop,(∀Y' H',N Y' H'->∃a,a<m/\W a Y' H')/\tb {D with nx:=N,ct:=N,bk:=D.nx} Y H1 else D.nx Y H1
def F2{tc:TT}(hp:Ĕ .F X.A X.env X.xe)(r:PT X c tc)(u:rh X body tb):PS X (.While c body [] pos) (NY tc tb):=by
 intro Z2 s Y H D I h;obtain⟨W,⟨z,q⟩,turn⟩:=h;refine wpAny_While (codeAny_whileLoop (λn s'=>∃Y' H',Inv X Z2 Y' H' s'/\W n Y' H') ?_ z #[Y,H,I,q]);rintro n p ⟨σ1,H1,y,t⟩;refine aaf hp (cy (r Z2 p σ1 H1 _ y (turn n σ1 H1 t)) λb x ⟨H2,o,e⟩=>?_);cases b with
 |true =>
  obtain⟨N,m,e⟩:=e;rw[Xo rfl];refine aaf hp (cy (u Z2 x σ1 H2 _ o e) λf B d=>?_);cases f with
  |next =>
   obtain⟨σ3,a,g,j⟩:=d;obtain⟨i,l,k⟩:=m σ3 a j;exact#[i,l,σ3,a,g,k]
  |cont =>
   obtain⟨σ3,a,g,j⟩:=d;obtain⟨i,l,k⟩:=m σ3 a j;exact#[i,l,σ3,a,g,k]
  |brk=>exact d
  |ret v=>exact d
 |false =>
  rw[Xl XO];exact acJ #[σ1,H2,o,e]
end
structure It where
 go:Nat->Hp->Prop
 yld:Nat->Hp->V->Hp->Prop
 stop:Nat->Hp->Prop
def t8(X:Cx)(Z2:List (Ç×ü))(H:Hp)(b:Ç):Prop :=
 H b=none/\b≠X.env.locals/\b∉X.fs/\(b∈X.ex\/X.s₀.heap.objs.size<=b)/\(∀x c,X.env.cells.lookup x=À c->c≠b)/\∀p∈X.pn++Z2,p.1≠b
def Inv.zJ{H':Hp}{b:Ç}(I:Inv X Z2 Y H s)(a:s.heap.objs.size<=b)(d:H' b=none):t8 X Z2 H' b:=by
 refine#[d,acp (X4 I.lt a),I.Ri a,.inr (Ye I.sz a),λx c e z=>?_,λp hp z=>?_]
 .obtain⟨v,q⟩:=I.cell x c e;exact absurd (X4 q.lt (by rw[z];exact a)) (Ϸ _)
 .exact absurd (X4 (XE (I.pin p hp).1) (by rw[z];exact a)) (Ϸ _)
structure Turn(P:Ñ)(w:Û)(K:Ã)(tg:Õ)(J:It)(fp:List Ç)(it:Ç)(tn:Nat->â->Prop):Prop where
 mem:it∈fp
 obj:∀i h,tn i h->∀b∈fp,∃o,h.get? b=À o/\∀v,o.data≠.cell v
 keep:∀i h h',tn i h->(∀b∈fp,∀o,h.get? b=À o->h'.get? b=À o)->tn i h'
 item:∀(X:Cx),X.prog=P->X.w=w->X.K=K->X.calm=Á->∀(i:Nat) (Z2:List (Ç×ü)) (s:Æ) (Y:St) (H:Hp) (E:Ä->Æ->Prop),Inv X Z2 Y H s->(∀b∈fp,t8 X Z2 H b)->tn i s.heap->J.go i H ->
  Î (È P w) X.A (Ē (.ref it)) (λr s1=>∃u,r=À u /\
   Î (È P w) X.A (į tg (.ref it) u) (λ_ s2=>∃x H',Inv X Z2 Y H' s2/\RelV x u/\J.yld i H x H'/\tn (i+1) s2.heap/\∀b∈fp,H' b=none) E s1) E s
 done:∀(X:Cx),X.prog=P->X.w=w->X.K=K->X.calm=Á->∀(i:Nat) (Z2:List (Ç×ü)) (s:Æ) (Y:St) (H:Hp) (E:Ä->Æ->Prop),Inv X Z2 Y H s->(∀b∈fp,t8 X Z2 H b)->tn i s.heap->J.stop i H ->
  Î (È P w) X.A (Ē (.ref it)) (λr s1=>r=none/\Inv X Z2 Y H s1) E s
 self:∀(A:ä) (i:Nat) (s:Æ) (Q:Ä->Æ->Prop) (E:Ä->Æ->Prop),tn i s.heap->Q (.ref it) s->Î (È P w) A (Ļ (.ref it)) Q E s
abbrev TI:=St->Hp->(It->Hp->Prop)->Prop
def Rq(X:Cx)(Z2:List (Ç×ü))(Y:St)(tg:Õ)(R:It->Hp->Prop)(a:Ä)(c:Æ):Prop :=
 ∃(it:Ç) (fp:List Ç) (tn:Nat->â->Prop) (J:It) (H':Hp),a=.ref it/\Inv X Z2 Y H' c/\Turn X.prog X.w X.K tg J fp it tn/\tn 0 c.heap/\(∀b∈fp,t8 X Z2 H' b)/\R J H'
def PI(X:Cx)(tg iter:Õ)(wi:TI):Prop :=
 ∀(Z2:List (Ç×ü)) (s:Æ) (Y:St) (H:Hp) (R:It->Hp->Prop),Inv X Z2 Y H s->wi Y H R ->
  Î .F X.A (Ý iter X.env) (λv a=>Î .F X.A (Ļ v) (Rq X Z2 Y tg R) X.xe a) X.xe s
def x3{α : Model}{A : ä}{E : Ä->Æ->Prop}{s : Æ}{tg : Õ}{it : Ç}{u : Ä}{o : ü}{n : String}{vs : Array Ä}{Q : Unit->Æ->Prop}(c : s.heap.get? it=À o)(d : o.cls=.type n)(e : o.data=.fields vs)
    (b : ["enumerate","zip","dict_itemiterator","dict_reverseitemiterator","odict_iterator","itertools.zip_longest","itertools.pairwise"].contains n=Â) (a : Q () s) : Î α A (į tg (.ref it) u) Q E s:=by
  unfold į
  cases tg<;>first
    |exact Xp a
    | (cases u <;> first
        |exact Xp a
        | (refine Xk (ϧ c ?_)
           rw[d,e];show Î α A (if (["enumerate","zip","dict_itemiterator","dict_reverseitemiterator","odict_iterator","itertools.zip_longest","itertools.pairwise"].contains n&&vs[0]?==À (ý _))=Á then _ else _) Q E s;rw[Xl (by intro h;rw[b,Bool.false_and] at h;cases h)]
           exact Xp a))
def Pb(K:Ã)(a:Ç):It :=
 #[λi H=>∃xs x,dX K H a xs/\xs[i]?=À x,λi H x H'=>H'=H/\∀xs,dX K H a xs->xs[i]?=À x,λi H=>∃xs,dX K H a xs/\xs.length<=i]
noncomputable def SO(K:Ã)(a:Ç):It :=
 #[λi H=>∃xs x,zE K H a xs/\xs[i]?=À x,λi H x H'=>H'=H/\∀xs,zE K H a xs->xs[i]?=À x,λi H=>∃xs,zE K H a xs/\xs.length<=i]
noncomputable def NH(lo:Int)(n:Nat):It:=#[λi _=>i<n,λi H x H'=>H'=H/\x=.int (lo+i),λi _=>n<=i]
def CP(a it:Ç):Turn P w K tg (Pb K a) [it] it (λi h=>h.IsListIter it a i) where
 mem:=by simp
 obj:=λi h st b f=>by
  have e:b=it:=by simpa using f
  subst e;obtain⟨o,e,c,d⟩:=st;exact#[o,e,λv z=>by rw[d] at z;cases z]
 keep:=λi h h' st k=>st.at λo e=>k it .c o e
 item:=by
  intro X A t D G i Z2 s Y H E I l st m;subst A t D;obtain⟨xs,x,j,q⟩:=m;obtain⟨XV,C,p,hz⟩:=I.list j;obtain⟨u,R,α⟩:=C.get q;obtain⟨n,y,N,F,B,r⟩:=l it .c;refine wpAny_pyNext_list_item st p.isList (x:=u) ↑R λh' g Q=>?_;have O:Inv X Z2 Y H {s with heap:=h'}:=I.turned (t':=s.toks) (λb o f e=>(Q.2 b f).trans e) n y F B r;obtain⟨o,e,c,d⟩:=id g;exact#[u,rfl,x3 (s:={s with heap:=h'}) e c d .a #[x,H,O,α,#[rfl,λys J=>by rw[I.nZ J j];exact q],g,λb f=>(l b f).1]]
 done:=by
  intro X A t D G i Z2 s Y H E I l st m;subst A t D;obtain⟨xs,j,q⟩:=m;obtain⟨XV,C,p,hz⟩:=I.list j;obtain⟨n,y,N,F,B,r⟩:=l it .c;have S:=C.length;exact wpAny_pyNext_list_end (I.ok.hd G) st p.isList (by simp;lia) λh' L=>#[rfl,I.turned (t':=s.toks) (λb o f e=>L b o f e) n y F B r]
 self:=λ_ _ _ _ _ st h=>wpAny_pyIter_listiter st h
def AY(a it:Ç):Turn P w K tg (SO K a) [it] it (λi h=>h.IsTupleIter it a i) where
 mem:=by simp
 obj:=λi h st b f=>by
  have e:b=it:=by simpa using f
  subst e;obtain⟨o,e,c,d⟩:=st;exact#[o,e,λv z=>by rw[d] at z;cases z]
 keep:=λi h h' st k=>st.at λo e=>k it .c o e
 item:=by
  intro X A t D G i Z2 s Y H E I l st m;subst A t D;obtain⟨xs,x,j,q⟩:=m;obtain⟨XV,C,p,hz⟩:=I.tuple j;obtain⟨u,R,α⟩:=C.get q;obtain⟨n,y,N,F,B,r⟩:=l it .c;refine wpAny_pyNext_tuple_item st (show s.heap.IsTuple a XV.toArray from p) (x:=u) ↑R λh' g Q=>?_;have O:Inv X Z2 Y H {s with heap:=h'}:=I.turned (t':=s.toks) (λb o f e=>(Q.2 b f).trans e) n y F B r;obtain⟨o,e,c,d⟩:=id g;exact#[u,rfl,x3 (s:={s with heap:=h'}) e c d .a #[x,H,O,α,#[rfl,λys J=>by rw[I.Dn J j];exact q],g,λb f=>(l b f).1]]
 done:=by
  intro X A t D G i Z2 s Y H E I l st m;subst A t D;obtain⟨xs,j,q⟩:=m;obtain⟨XV,C,p,hz⟩:=I.tuple j;obtain⟨n,y,N,F,B,r⟩:=l it .c;have S:=C.length;exact wpAny_pyNext_tuple_end (I.ok.hd G) st (show s.heap.IsTuple a XV.toArray from p) (by simp;lia) λh' L=>#[rfl,I.turned (t':=s.toks) (λb o f e=>L b o f e) n y F B r]
 self:=λ_ _ _ _ _ st h=>wpAny_pyIter_tupleiter st h
def A9(it:Ç)(lo:Int)(n:Nat):Turn P w K tg (NH lo n) [it] it (λi h=>Ŕ h it (lo+(i:Nat)*1) ((n:Int)-(i:Nat)) 1) where
 mem:=by simp
 obj:=λi h st b a=>by
  have e:b=it:=by simpa using a
  subst e
  exact#[_,st,λv z=>by
   have C:Data.fields _=Data.cell v:=z
   cases C]
 keep:=λi h h' st k=>k it .c _ st
 item:=by
  intro X r m u l i Z2 s Y H E I d st f;subst r m u;obtain⟨g,p,A,x,q,j⟩:=d it .c;have W:=Walks.range (prog:=X.prog) (w:=X.w) (I.ok.hd l) it lo 1 n;refine W.item i s _ _ f st λv h' tk B c kk=>?_;obtain⟨t,rfl⟩:=B;have D:Inv X Z2 Y H {s with heap:=h',toks:=tk}:=I.turned (λb o a e=>kk b o ↑a e) g p x q j;refine#[_,rfl,x3 (s:={s with heap:=h',toks:=tk}) (n:="range_iterator") c rfl rfl .a #[.int (lo+i),H,D,#[t,?_],#[rfl,rfl],c,λb a=>(d b a).1]];rw[X0]
 done:=by
  intro X r m u l i Z2 s Y H E I d st f;subst r m u;obtain⟨g,p,A,x,q,j⟩:=d it .c;exact Β (I.ok.hd l) st (by have:n<=i:=f;lia) λh' y=>#[rfl,I.turned (t':=s.toks) (λb o a e=>y b o a e) g p x q j]
 self:=λ_ _ _ _ _ st h=>Δ st h
section
variable{X:Cx}{tg:Õ}
def Po(K:Ã)(tl:TE):TI:=λY H R=>tl Y H λx H1=>∃a,x=.ref a/\(∃xs,dX K H1 a xs)/\R (Pb K a) H1
def Sb(K:Ã)(tl:TE):TI:=λY H R=>tl Y H λx H1=>∃a,x=.ref a/\(∃xs,zE K H1 a xs)/\R (SO K a) H1
def Ce{l:Õ}{tl:TE}(j:PE X l tl):PI X tg l (Po X.K tl):=by
 intro Z2 s Y H R I h;refine cy (j Z2 s Y H _ I h) λv c ⟨x,H1,d,i,q1⟩=>?_;obtain⟨a,e,⟨xs,g⟩,q⟩:=q1;subst e;cases i;obtain⟨XV,k,p,hz⟩:=d.list g;refine ab7 p.isList ?_;refine#[c.heap.objs.size,[c.heap.objs.size],_,_,H1,rfl,d.kept (t':=c.toks) λb o e=>Xw _ e,CP a _,#[_,XN _ rfl,rfl,rfl],λb f=>?_,q];have e:b=c.heap.objs.size:=by simpa using f
 subst e;exact d.zJ (Xu _) (d.hok.fresh (Xu _))
def L5{l:Õ}{tl:TE}(j:PE X l tl):PI X tg l (Sb X.K tl):=by
 intro Z2 s Y H R I h;refine cy (j Z2 s Y H _ I h) λv c ⟨x,H1,d,i,q1⟩=>?_;obtain⟨a,e,⟨xs,g⟩,q⟩:=q1;subst e;cases i;obtain⟨XV,k,p,hz⟩:=d.tuple g;refine wpAny_pyIter_tuple (show c.heap.IsTuple a XV.toArray from p) ?_;refine#[c.heap.objs.size,[c.heap.objs.size],_,_,H1,rfl,d.kept (t':=c.toks) λb o e=>Xw _ e,AY a _,#[_,XN _ rfl,rfl,rfl],λb f=>?_,q];have e:b=c.heap.objs.size:=by simpa using f
 subst e;exact d.zJ (Xu _) (d.hok.fresh (Xu _))
def ET{R:It->Hp->Prop}{E:Ä->Æ->Prop}{lo hi:Int}{t u v:Tok}{tk:Nat}(I:Inv X Z2 Y H s)(h1:-(2^62)<=lo)(h2:lo<2^62)(f:-(2^62)<=hi)(c:hi<2^62)
  (q:R (NH lo (hi-lo).toNat) H):Î .F X.A (Ļ (.ref s.heap.objs.size)) (Rq X Z2 Y tg R) E {s with heap:=s.heap.push {cls:=.type "range",data:=.fields (à [.int lo t,.int hi u,.int 1 v])},toks:=tk}:=by
 refine Ϧ (ϡ ..) (small_one h1 h2 f c) ?_;have a:Inv X Z2 Y H {s with heap:=s.heap.push {cls:=.type "range",data:=.fields (à [.int lo t,.int hi u,.int 1 v])},toks:=tk}:=I.kept λb o e=>Xw _ e
 refine#[(s.heap.push {cls:=.type "range",data:=.fields (à [.int lo t,.int hi u,.int 1 v])}).objs.size,[(s.heap.push {cls:=.type "range",data:=.fields (à [.int lo t,.int hi u,.int 1 v])}).objs.size],_,_,H,rfl,
  a.kept (t':=tk) λb o e=>Xw _ e,A9 _ lo (hi-lo).toNat,?_,λb d=>?_,q]
 .have e1:lo+((0:Nat):Int)*1=lo:=by simp
  have e2:(((hi-lo).toNat:Nat):Int)-((0:Nat):Int)=Ó lo hi 1:=by rw[rangeSize_one];split<;>lia
  show Ŕ _ _ (lo+((0:Nat):Int)*1) ((((hi-lo).toNat:Nat):Int)-((0:Nat):Int)) 1;rw[e1,e2];exact XN _ rfl
 .have e:b=(s.heap.push {cls:=.type "range",data:=.fields (à [.int lo t,.int hi u,.int 1 v])}).objs.size:=by simpa using d
  subst e;exact a.zJ (Xu _) (a.hok.fresh (Xu _))
def Qx(ta:TA):TI:=λY H R=>ta Y H λvs H1=>∃j:Int,vs=[.int j]/\-(2^62)<=j/\j<2^62/\R (NH 0 j.toNat) H1
def uD{a:Õ}{ta:TA}{p:ò}(b:Gl X "range")(i:X.mg "range"=none)(ha:PA X [a] ta)(k:autoParam (Å [a] X.env=[(Â,Ý a X.env)]) zra):PI X tg (.Call (.Name "range" p) [a] [] pos) (Qx ta):=by
 intro Z2 s Y H R I h;refine Call_ (ic I b i boot_range (Za (cy (ha pos Z2 s Y H _ I h) λus l ⟨vs,H1,f,g,q1⟩=>?_) k rfl));obtain⟨j,e,q1,c,q⟩:=q1;subst e;cases g with
 |cons r d =>
  cases d;obtain⟨t,rfl⟩:=r;exact call_range_1 (ET f .b .b q1 c ↑q)
def OK(wi:TI)(g:TG)(tb:TS):TS:=λD Y H=>wi Y H λJ H1=>∃W:Nat->Nat->St->Hp->Prop,(∃m,W 0 m Y H1)/\∀i m Y H,W i m Y H ->
 (J.stop i H/\D.nx Y H)\/(J.go i H/\∃N:St->Hp->Prop,(∀Y' H',N Y' H'->∃a,a<m/\W (i+1) a Y' H')/\∀x H',J.yld i H x H'->g x Y H' λσ2 H2=>tb {D with nx:=N,ct:=N,bk:=D.nx} σ2 H2)
noncomputable def tW(fp:List Ç)(h:â):List (Ç×ü):=fp.filterMap λb=>(h.get? b).map λo=>(b,o)
def jw{b:Ç}{o:ü}(a:b∈fp)(e:h.get? b=À o):(b,o)∈tW fp h:=List.mem_filterMap.mpr #[b,a,by rw[e];rfl]
def DH{p:Ç×ü}(hp:p∈tW fp h):p.1∈fp/\h.get? p.1=À p.2:=by
 obtain⟨b,a,e⟩:=List.mem_filterMap.mp hp;cases q:h.get? b with
 |none=>rw[q] at e;cases e
 |some o =>
  rw[q] at e;have c:(b,o)=p:=XJ e;subst c;exact#[a,q]
def Inv.pinned(I:Inv X Z2 Y H s)(g:∀b∈fp,t8 X Z2 H b)(h:∀b∈fp,∃o,s.heap.get? b=À o/\∀v,o.data≠.cell v):Inv X (Z2++tW fp s.heap) Y H s :=
 I.oa λp hp=>(Yf.mp hp).elim (λz=>I.pin p (XW _ z)) λz=>by
  obtain⟨a,e⟩:=DH z;obtain⟨i,f,j,_⟩:=g p.1 a;obtain⟨o,c,d⟩:=h p.1 a;rw[e] at c;cases c;exact#[e,i,f,j,d]
def Inv.n9{pl:List (Ç×ü)}(I:Inv X (Z2++pl) Y H s):Inv X Z2 Y H s:=I.oa λp hp=>I.pin p (XW _ (Ya _ hp))
def o3{iter:Õ}{wi:TI}(hp:Ĕ .F X.A X.env X.xe)(K:X.calm=Á)(hi:PI X tg iter wi)(R:PG X tg g)(j:rh X body tb)
  (hs:∀x,Ü iter X.env x=pure x:=by intro _;rfl):PS X (.For tg iter body [] pos) (OK wi g tb):=by
 intro Z2 s Y H D I h;refine wpAny_For (cy (hi Z2 s Y H _ I h) λv s1 h1=>cy h1 λΓ s2 h2=>?_) hs;obtain⟨it,fp,tn,J,H2,e,I2,T,C,P,W,⟨m0,w0⟩,turn⟩:=h2;subst e
 -- what stays Á of the iterator's objects through the loop
 have a:∀{H':Hp},(∀b∈fp,H' b=none)->∀b∈fp,t8 X Z2 H' b:=λhn b j=>#[hn b j,(P b j).2];refine codeAny_forLoop_any (λn s'=>∃i Y' H',Inv X Z2 Y' H' s'/\tn i s'.heap/\(∀b∈fp,H' b=none)/\W i n Y' H') ?_ m0 #[0,Y,H2,I2,C,λb j=>(P b j).1,w0];rintro n L ⟨i,σ3,z,O,q,y,w3⟩;rcases turn i n σ3 z w3 with⟨stop,V⟩|⟨go,N,S,step⟩
 .refine aaf hp (cy (T.done X rfl rfl rfl K i Z2 L σ3 z X.xe O (a y) q stop) λr Z ⟨F,I4⟩=>?_);subst F;exact acJ #[σ3,z,I4,V]
 .refine aaf hp (cy (T.item X rfl rfl rfl K i Z2 L σ3 z X.xe O (a y) q go) λr Z ⟨u,F,h4⟩=>?_);subst F;refine aaf hp (cy h4 λ_ Q ⟨x,α,I5,r5,y5,p,B⟩=>?_);have E:=I5.pinned (a B) (T.obj _ _ p);refine aaf hp (cy (R _ Q σ3 α x u _ E r5 (step x α y5)) λ_ s6 ⟨σ6,H6,I6,q6⟩=>?_);refine aaf hp (cy (j _ s6 σ6 H6 _ I6 q6) λf G l=>?_)
  have ś:∀{σ7:St} {k:Hp},Inv X (Z2++tW fp Q.heap) σ7 k G->N σ7 k->∃m,m<n/\∃i Y' H',Inv X Z2 Y' H' G/\tn i G.heap/\(∀b∈fp,H' b=none)/\W i m Y' H':=λ{σ7 k} c t=>by
   obtain⟨m',hm,w7⟩:=S σ7 k t;refine#[m',hm,i+1,σ7,k,c.n9,T.keep _ _ _ p λb j o e=>(c.pin (b,o) (XW _ (XW _ (jw j e)))).1,λb j=>?_,w7];obtain⟨o,e,d⟩:=T.obj _ _ p b j;exact(c.pin (b,o) (XW _ (XW _ (jw j e)))).2.1
  cases f with
  |next=>obtain⟨σ7,k,c,t⟩:=l;exact ś c t
  |cont=>obtain⟨σ7,k,c,t⟩:=l;exact ś c t
  |brk=>obtain⟨σ7,k,c,l⟩:=l;exact#[σ7,k,c.n9,l]
  |ret v=>obtain⟨x7,σ7,k,c,σ,l⟩:=l;exact#[x7,σ7,k,c.n9,σ,l]
end
def Gx{a:Ç}{xs:List V}{D:Ends}(Pv:Nat->St->Hp->Prop)(k:Pv 0 Y H)(f:∀i Y H,i<=xs.length->Pv i Y H->dX K H a xs)
  (h:∀i x Y H,xs[i]?=À x->Pv i Y H->g x Y H λσ2 H2=>tb {D with nx:=Pv (i+1),ct:=Pv (i+1),bk:=D.nx} σ2 H2) (j:∀Y H,Pv xs.length Y H->D.nx Y H):
  ∃W:Nat->Nat->St->Hp->Prop,(∃m,W 0 m Y H)/\∀i m Y H,W i m Y H ->
   ((Pb K a).stop i H/\D.nx Y H)\/((Pb K a).go i H/\∃N:St->Hp->Prop,(∀Y' H',N Y' H'->∃c,c<m/\W (i+1) c Y' H')/\∀x H',(Pb K a).yld i H x H'->g x Y H' λσ2 H2=>tb {D with nx:=N,ct:=N,bk:=D.nx} σ2 H2):=by
 refine#[λi m Y H=>m=xs.length-i/\i<=xs.length/\Pv i Y H,#[xs.length,.c,Yr _,k],?_];rintro i m Y H ⟨rfl,hi,p⟩;have q:=f i Y H hi p;by_cases b:i<xs.length
 .refine .inr #[#[xs,xs[i],q,by simp[b]],Pv (i+1),λY' H' d=>#[xs.length-(i+1),.b,rfl,b,d],λx H' y=>?_];obtain⟨e,y⟩:=y;subst e;exact h i x Y _ (y xs q) p
 .have e:i=xs.length:=by lia
  subst e;exact .inl #[#[xs,q,Xu _],j Y H p]
def CY{lo:Int}{D:Ends}(Pv:Nat->St->Hp->Prop)(d:Pv 0 Y H)
  (f:∀i Y H,i<n->Pv i Y H->g (.int (lo+i)) Y H λσ2 H2=>tb {D with nx:=Pv (i+1),ct:=Pv (i+1),bk:=D.nx} σ2 H2) (h:∀Y H,Pv n Y H->D.nx Y H):
  ∃W:Nat->Nat->St->Hp->Prop,(∃m,W 0 m Y H)/\∀i m Y H,W i m Y H ->
   ((NH lo n).stop i H/\D.nx Y H)\/((NH lo n).go i H/\∃N:St->Hp->Prop,(∀Y' H',N Y' H'->∃b,b<m/\W (i+1) b Y' H')/\∀x H',(NH lo n).yld i H x H'->g x Y H' λσ2 H2=>tb {D with nx:=N,ct:=N,bk:=D.nx} σ2 H2):=by
 refine#[λi m Y H=>m=n-i/\i<=n/\Pv i Y H,#[n,.c,Yr _,d],?_];rintro i m Y H ⟨rfl,hi,p⟩;by_cases a:i<n
 .refine .inr #[a,Pv (i+1),λY' H' c=>#[n-(i+1),.b,rfl,a,c],λx H' y=>?_];obtain⟨e,y⟩:=y;subst e y;exact f i Y _ a p
 .have e:i=n:=by lia
  subst e;exact .inl #[Xu _,h Y H p]
abbrev R2:=V->V->Hp->VK->Prop
variable{r:R2}
def ku(X:Cx)(f:Ä->Ä->ĸ Ä)(r:R2):Prop :=
 ∀(Z2:List (Ç×ü)) (s:Æ) (Y:St) (H:Hp) (x y:V) (v u:Ä) (Q:VK),Inv X Z2 Y H s->RelV x v->RelV y u->r x y H Q ->
  Î .F X.A (f v u) (EP X Z2 Y Q) X.xe s
def Rx(X:Cx)(f:Ä->ĸ Ä)(r:V->Hp->VK->Prop):Prop :=
 ∀(Z2:List (Ç×ü)) (s:Æ) (Y:St) (H:Hp) (x:V) (v:Ä) (Q:VK),Inv X Z2 Y H s->RelV x v->r x H Q ->
  Î .F X.A (f v) (EP X Z2 Y Q) X.xe s
def kM(X:Cx)(f:Ä)(r:List V->Hp->VK->Prop):Prop :=
 ∀(Z2:List (Ç×ü)) (s:Æ) (Y:St) (H:Hp) (xs:List V) (us:List Ä) (Q:VK),Inv X Z2 Y H s->Vals xs us->r xs H Q ->
  Î .F X.A (call f us) (EP X Z2 Y Q) X.xe s
def QN(r:R2)(ta tb:TE):TE:=λY H Q=>ta Y H λx H1=>tb Y H1 λy H2=>r x y H2 Q
def S3(r:V->Hp->VK->Prop)(ta:TE):TE:=λY H Q=>ta Y H λx H1=>r x H1 Q
def rI(C:Int->Int->Prop)(g:Int->Int->V):R2:=λx y H Q=>∃i j,x=.int i/\y=.int j/\C i j/\Q (g i j) H
def IL(g:Int->Int->V):R2:=λx y H Q=>∃i j,x=.int i/\y=.int j/\Q (g i j) H
def rU(g:Int->V):V->Hp->VK->Prop:=λx H Q=>∃i,x=.int i/\Q (g i) H
section
variable{X:Cx}{a b c:Õ}{ta tb tc:TE}{pos:ò}
def Ob(ha:PE X a ta)(d:PE X b tb){R:V->V->Hp->Prop}(I:Inv X Z2 Y H s)
  (h:ta Y H λx H1=>tb Y H1 λy H2=>R x y H2) {Q:Ä->Æ->Prop} {f:Ä->Ä->ĸ Ä}
  (e:∀v u c x y H2,Inv X Z2 Y H2 c->RelV x v->RelV y u->R x y H2->Î .F X.A (f v u) Q X.xe c):
  Î .F X.A (Ý a X.env) (λv j=>Î .F X.A (Ý b X.env) (λu o=>Î .F X.A (f v u) Q X.xe o) X.xe j) X.xe s:=by
 refine cy (ha Z2 s Y H _ I h) λv i ⟨x,H1,l,k,q1⟩=>?_;refine cy (d Z2 i Y H1 _ l q1) λu c ⟨y,H2,m,n,g⟩=>?_;exact e v u c x y H2 m k n g
def yq{op:Operator}(f:ku X (ď op) r)(ha:PE X a ta)(c:PE X b tb):PE X (.BinOp a op b pos) (QN r ta tb):=by
 intro Z2 s Y H Q I h;exact wpAny_BinOp (Ob ha c I h λv u e x y H2 g i d q=>f Z2 e Y H2 x y v u Q g i d q)
def Pc{op:UnaryOp}{r:V->Hp->VK->Prop}(b:Rx X (unaryOp op) r)(ha:PE X a ta):PE X (.UnaryOp op a pos) (S3 r ta):=by
 intro Z2 s Y H Q I h;exact UnaryOp_ (cy (ha Z2 s Y H _ I h) λv d ⟨x,H1,c,e,q1⟩=>b Z2 d Y H1 x v Q c e q1)
def O8{C:Int->Int->Prop}{g:Int->Int->Int}
  (rule:∀(i j:Int) (t u:Tok) (s:Æ) (Q:Ä->Æ->Prop) (E:Ä->Æ->Prop),C i j->Q (.int (g i j) s.toks) {s with toks:=s.toks+1}->Î .F X.A (f (.int i t) (.int j u)) Q E s):
  ku X f (rI C λi j=>.int (g i j)):=by
 intro Z2 s Y H x y v u Q I b a h;obtain⟨i,j,rfl,rfl,c,q⟩:=h;obtain⟨t,rfl⟩:=b;obtain⟨t',rfl⟩:=a;exact rule i j t t' s _ _ c #[.int (g i j),H,I.tok _,#[_,rfl],q]
def P4{g:Int->Int->Int}
  (rule:∀(i j:Int) (t u:Tok) (s:Æ) (Q:Ä->Æ->Prop) (E:Ä->Æ->Prop),Q (.int (g i j) s.toks) {s with toks:=s.toks+1}->Î .F X.A (f (.int i t) (.int j u)) Q E s):
  ku X f (IL λi j=>.int (g i j)):=by
 intro Z2 s Y H x y v u Q I b a h;obtain⟨i,j,rfl,rfl,q⟩:=h;obtain⟨t,rfl⟩:=b;obtain⟨t',rfl⟩:=a;exact rule i j t t' s _ _ #[.int (g i j),H,I.tok _,#[_,rfl],q]
def Js{g:Int->Int->Bool}
  (rule:∀(i j:Int) (t u:Tok) (s:Æ) (Q:Ä->Æ->Prop) (E:Ä->Æ->Prop),Q (.bool (g i j)) s->Î .F X.A (f (.int i t) (.int j u)) Q E s):
  ku X f (IL λi j=>.bl (g i j)):=by
 intro Z2 s Y H x y v u Q I b a h;obtain⟨i,j,rfl,rfl,q⟩:=h;obtain⟨t,rfl⟩:=b;obtain⟨t',rfl⟩:=a;exact rule i j t t' s _ _ #[.bl (g i j),H,I,rfl,q]
def G4(i j:Int):Prop:=0<=j/\j<=1000000/\i.natAbs<2^64
def JU(i j:Int):Prop:=(-(2^64)<i/\i<2^64)\/(-(2^64)<j/\j<2^64)
def JU.ok{i j:Int}(h:JU i j):ģ i j:=by
 rcases h with⟨h1,h2⟩|⟨h1,h2⟩
 .exact .of_left (intBits_le_64 h1 h2)
 .exact .of_right (intBits_le_64 h1 h2)
def Mi:ku X (ď .Add) (IL λi j=>.int (i+j)):=P4 λ_ _ _ _ _ _ _ q=>add_int q
def M0:ku X (ď .Sub) (IL λi j=>.int (i-j)):=P4 λ_ _ _ _ _ _ _ q=>sub_int q
def JG:ku X (ď .Mod) (rI (λ_ j=>j≠0) λi j=>.int (i.fmod j)):=O8 λ_ _ _ _ _ _ _ a q=>mod_int' a q
def Nu:ku X (ď .Pow) (rI G4 λi j=>.int (i^j.toNat)):=O8 λ_ _ _ _ _ _ _ a q=>pow_int_small a.1 a.2.1 a.2.2 q
def N8:ku X (ď .LShift) (rI G4 λi j=>.int (i*2^j.toNat)):=O8 λ_ _ _ _ _ _ _ a q=>lshift_int_small a.1 a.2.1 a.2.2 q
def Tf{f:Ä->ĸ Ä}{g:Int->Int}
  (rule:∀(i:Int) (t:Tok) (s:Æ) (Q:Ä->Æ->Prop) (E:Ä->Æ->Prop),Q (.int (g i) s.toks) {s with toks:=s.toks+1}->Î .F X.A (f (.int i t)) Q E s):
  Rx X f (rU λi=>.int (g i)):=by
 intro Z2 s Y H x v Q I a h;obtain⟨i,rfl,q⟩:=h;obtain⟨t,rfl⟩:=a;exact rule i t s _ _ #[.int (g i),H,I.tok _,#[_,rfl],q]
def Oh:Rx X (unaryOp .USub) (rU λi=>.int (-i)):=Tf λ_ _ _ _ _ q=>neg_int q
end
noncomputable def Pk:V->V->Bool
 |.non,.non=>Á|.non,.int _=>Á|.int _,.non=>Á|.non,.bl _=>Á|.bl _,.non=>Á|.non,.str _=>Á|.str _,.non=>Á
 |.int _,.int _=>Á|.bl _,.bl _=>Á|.str _,.str _=>Á|.byt _,.byt _=>Á
 |.int _,.str _=>Á|.str _,.int _=>Á|.bl _,.str _=>Á|.str _,.bl _=>Á
 |_,_=>Â
def S8:R2:=λx y H Q=>Pk x y=Á/\Q (.bl (decide (x=y))) H
def SW:R2:=λx y H Q=>Pk x y=Á/\Q (.bl (!decide (x=y))) H
def q_{i j:Int}:decide (V.int i=V.int j)=(i==j):=by
 rw[Yy];simp
def GX{i j:Bool}:decide (V.bl i=V.bl j)=(i==j):=by
 rw[Yy];simp
def Bj{i j:Ð}:decide (V.str i=V.str j)=(i==j):=by
 rw[Yy];simp
def CG{i j:Array UInt8}:decide (V.byt i=V.byt j)=(i.toList==j.toList):=by
 rw[Yy];cases i;cases j;simp
section
variable{X:Cx}{a b c:Õ}{ta tb tc:TE}{pos:ò}
def bz{k k':Bool}(I:Inv X Z2 Y H s)(q:Q (.bl k) H)(e:k=k'):EP X Z2 Y Q (.bool k') s:=by
 subst e;exact#[.bl k,H,I,rfl,q]
def P0:ku X (æ .Eq) S8:=by
 intro Z2 s Y H x y v u Q I c a h;obtain⟨b,q⟩:=h;cases x with
 |non =>
  cases c;cases y with
  |non=>cases a;exact PySem.EqNone.eq_none_none (bz I q .c)
  |bl j=>cases a;exact PySem.EqNone.eq_none_bool (bz I q .c)
  |int j=>obtain⟨t',rfl⟩:=a;exact PySem.EqNone.eq_none_int (bz I q .c)
  |str j=>obtain⟨t',rfl⟩:=a;exact PySem.EqNone.eq_none_str (bz I q .c)
  |_=>exact absurd (show Â=Á from b) XO
 |bl i =>
  cases c;cases y with
  |non=>cases a;exact PySem.EqNone.eq_bool_none (bz I q .c)
  |bl j=>cases a;exact eq_bool (bz I q GX)
  |str j=>obtain⟨t',rfl⟩:=a;exact PySem.EqMixed.eq_bool_str (bz I q .c)
  |_=>exact absurd (show Â=Á from b) XO
 |int i =>
  obtain⟨t,rfl⟩:=c;cases y with
  |non=>cases a;exact PySem.EqNone.eq_int_none (bz I q .c)
  |int j=>obtain⟨t',rfl⟩:=a;exact eq_int (bz I q q_)
  |str j=>obtain⟨t',rfl⟩:=a;exact PySem.EqMixed.eq_int_str (bz I q .c)
  |_=>exact absurd (show Â=Á from b) XO
 |str i =>
  obtain⟨t,rfl⟩:=c;cases y with
  |non=>cases a;exact PySem.EqNone.eq_str_none (bz I q .c)
  |bl j=>cases a;exact PySem.EqMixed.eq_str_bool (bz I q .c)
  |int j=>obtain⟨t',rfl⟩:=a;exact PySem.EqMixed.eq_str_int (bz I q .c)
  |str j=>obtain⟨t',rfl⟩:=a;exact eq_str (bz I q Bj)
  |_=>exact absurd (show Â=Á from b) XO
 |byt i =>
  obtain⟨t,rfl⟩:=c;cases y with
  |byt j=>obtain⟨t',rfl⟩:=a;exact PySem.W.eq_bytes (bz I q CG)
  |_=>exact absurd (show Â=Á from b) XO
 |_=>cases y<;>exact absurd (show Â=Á from b) XO
def Qs:ku X (æ .NotEq) SW:=by
 intro Z2 s Y H x y v u Q I c a h;obtain⟨b,q⟩:=h;cases x with
 |non =>
  cases c;cases y with
  |non=>cases a;exact PySem.EqNone.ne_none_none (bz I q .c)
  |bl j=>cases a;exact PySem.EqNone.ne_none_bool (bz I q .c)
  |int j=>obtain⟨t',rfl⟩:=a;exact PySem.EqNone.ne_none_int (bz I q .c)
  |str j=>obtain⟨t',rfl⟩:=a;exact PySem.EqNone.ne_none_str (bz I q .c)
  |_=>exact absurd (show Â=Á from b) XO
 |bl i =>
  cases c;cases y with
  |non=>cases a;exact PySem.EqNone.ne_bool_none (bz I q .c)
  |bl j=>cases a;exact ne_bool (bz I q (congrArg not GX))
  |str j=>obtain⟨t',rfl⟩:=a;exact PySem.EqMixed.ne_bool_str (bz I q .c)
  |_=>exact absurd (show Â=Á from b) XO
 |int i =>
  obtain⟨t,rfl⟩:=c;cases y with
  |non=>cases a;exact PySem.EqNone.ne_int_none (bz I q .c)
  |int j=>obtain⟨t',rfl⟩:=a;exact ne_int (bz I q (congrArg not q_))
  |str j=>obtain⟨t',rfl⟩:=a;exact PySem.EqMixed.ne_int_str (bz I q .c)
  |_=>exact absurd (show Â=Á from b) XO
 |str i =>
  obtain⟨t,rfl⟩:=c;cases y with
  |non=>cases a;exact PySem.EqNone.ne_str_none (bz I q .c)
  |bl j=>cases a;exact PySem.EqMixed.ne_str_bool (bz I q .c)
  |int j=>obtain⟨t',rfl⟩:=a;exact PySem.EqMixed.ne_str_int (bz I q .c)
  |str j=>obtain⟨t',rfl⟩:=a;exact ne_str (bz I q (congrArg not Bj))
  |_=>exact absurd (show Â=Á from b) XO
 |byt i =>
  obtain⟨t,rfl⟩:=c;cases y with
  |byt j=>obtain⟨t',rfl⟩:=a;exact PySem.W.ne_bytes (bz I q (congrArg not CG))
  |_=>exact absurd (show Â=Á from b) XO
 |_=>cases y<;>exact absurd (show Â=Á from b) XO
def PQ:ku X (æ .Lt) (IL λi j=>.bl (decide (i<j))):=Js λ_ _ _ _ _ _ _ q=>lt_int q
def PD:ku X (æ .LtE) (IL λi j=>.bl (decide (i<=j))):=Js λ_ _ _ _ _ _ _ q=>le_int q
def PL:ku X (æ .Gt) (IL λi j=>.bl (decide (j<i))):=Js λ_ _ _ _ _ _ _ q=>gt_int q
def Pr:ku X (æ .GtE) (IL λi j=>.bl (decide (j<=i))):=Js λ_ _ _ _ _ _ _ q=>ge_int q
def E1(b:Õ)(h:autoParam (op≠.In) zrb)(h2:autoParam (op≠.NotIn) zrb):ø op b=Â:=by
 have e1:(op==CmpOp.In)=Â:=by cases op<;>first|rfl|exact absurd rfl h
 have e2:(op==CmpOp.NotIn)=Â:=by cases op<;>first|rfl|exact absurd rfl h2
 cases b<;>simp[ø,e1,e2]
def Ke(f:ku X (æ op) r)(ha:PE X a ta)(c:PE X b tb)(j:ø op b=Â):PE X (.Compare a [op] [b] pos) (QN r ta tb):=by
 intro Z2 s Y H Q I h;exact wpAny_Compare1 (Ob ha c I h λv u e x y H2 g i d q=>f Z2 e Y H2 x y v u Q g i d q) j
def Ls(t:TE):TT:=λY H Q=>t Y H λx H'=>∃k,x=.bl k/\Q k H'
def J9(i:ku X (æ op) r)(ha:PE X a ta)(d:PE X b tb)(w:ø op b=Â):PT X (.Compare a [op] [b] pos) (Ls (QN r ta tb)):=by
 intro Z2 s Y H Q I h
 refine Ψ (cy (ha Z2 s Y H _ I h) λv m ⟨x,H1,n,p,q1⟩=>cy (d Z2 m Y H1 _ n q1) λu g ⟨y,H2,o,q,j⟩ =>
  cy (i Z2 g Y H2 x y v u _ o p q j) λc B ⟨z,A,l,t,k,e,f⟩=>?_) w
 subst e;cases t;exact Y4 #[A,l,f]
def EH(r c:R2)(ta tb tc:TE):TE:=λY H Q=>ta Y H λx H1=>tb Y H1 λy H2=>r x y H2 λz a=>∃k,z=.bl k /\
 (if k=Á then tc Y a λb d=>c y b d Q else Q (.bl Â) a)
def GN{f:ş}{m:R2}(p:ku X (æ op) r)(g:ku X (æ f) m)(ha:PE X a ta)(F:PE X b tb)(B:PE X c tc)
  (P:Ŵ [op,f] [b,c]=Â:=by stop rfl):PE X (.Compare a [op,f] [b,c] pos) (EH r m ta tb tc):=by
 intro Z2 s Y H Q I h
 refine Compare_chain (cy (ha Z2 s Y H _ I h) λv t ⟨x,H1,K,L,q1⟩=>chain_link (cy (F Z2 t Y H1 _ K q1) λu G ⟨y,H2,α,n,q⟩ =>
  cy (p Z2 G Y H2 x y v u _ α L n q) λd E ⟨z,l,j,N,k,e,i⟩=>?_)) P
 subst e;cases N;refine Y4 ?_;cases k with
 |false=>exact ite_ff #[.bl Â,l,j,rfl,i]
 |true=>exact ite_tt (chain_last (cy (B Z2 E Y l _ j i) λw D ⟨J,C,o,A,O⟩=>g Z2 D Y C y J u w Q o n A O))
def EF{f:ş}{m:R2}(q:ku X (æ op) r)(g:ku X (æ f) m)(ha:PE X a ta)(K:PE X b tb)(D:PE X c tc)
  (Γ:Ŵ [op,f] [b,c]=Â:=by stop rfl):PT X (.Compare a [op,f] [b,c] pos) (Ls (EH r m ta tb tc)):=by
 intro Z2 s Y H Q I h
 refine isTrue_chain (cy (ha Z2 s Y H _ I h) λv A ⟨x,H1,O,P,q1⟩=>test_link (cy (K Z2 A Y H1 _ O q1) λu L ⟨y,H2,R,n,t⟩ =>
  cy (q Z2 L Y H2 x y v u _ R P n t) λd J ⟨z,l,j,S,k,e,i⟩=>?_)) Γ
 subst e;cases S;refine Y4 ?_;cases k with
 |false =>
  obtain⟨k',N,q'⟩:=i;cases N;exact ite_ff #[l,j,q']
 |true =>
  refine ite_tt (test_last (cy (D Z2 J Y l _ j i) λB G ⟨α,F,o,C,T⟩=>cy (g Z2 G Y F y α u B _ o n C T) λd' σ ⟨Z,V,w,E,W,e2,p⟩=>?_));subst e2;cases E;exact Y4 #[V,w,p]
def w8:(sizeLine:Nat)<2^63:=by rw[Ϛ];decide
def vals1{x:V}(r:Vals [x] us):∃u,us=[u]/\RelV x u:=by
 cases r with
 |cons b a=>cases a;exact#[_,rfl,b]
def vals2{x y:V}(r:Vals [x,y] us):∃u a,us=[u,a]/\RelV x u/\RelV y a:=by
 cases r with
 |cons e c =>
  cases c with
  |cons d b=>cases b;exact#[_,_,rfl,e,d]
def F6:kM X (.builtin "abs") (λxs H Q=>∃i,xs=[.int i]/\Q (.int (if i<0 then -i else i)) H):=by
 intro Z2 s Y H xs us Q I r h;obtain⟨i,rfl,q⟩:=h;obtain⟨u,rfl,t,rfl⟩:=vals1 r;exact call_abs_int λu tk=>#[.int (if i<0 then -i else i),H,I.tok _,#[_,rfl],q]
def Ds(b:X.calm=Á):kM X (.builtin "max") (λxs H Q=>∃i j,xs=[.int i,.int j]/\Q (.int (if j>i then j else i)) H):=by
 intro Z2 s Y H xs us Q I r h;obtain⟨i,j,rfl,q⟩:=h;obtain⟨u,c,rfl,⟨t,rfl⟩,⟨t',rfl⟩⟩:=vals2 r;refine max_two_ints (I.ok.hd b) λh' tk k=>#[_,H,I.kept k,?_,q];by_cases a:j>i
 .rw[Xo a,Xo a];exact#[_,rfl]
 .rw[Xl a,Xl a];exact#[_,rfl]
def Dh(b:X.calm=Á):kM X (.builtin "min") (λxs H Q=>∃i j,xs=[.int i,.int j]/\Q (.int (if j<i then j else i)) H):=by
 intro Z2 s Y H xs us Q I r h;obtain⟨i,j,rfl,q⟩:=h;obtain⟨u,c,rfl,⟨t,rfl⟩,⟨t',rfl⟩⟩:=vals2 r;refine min_two_ints (I.ok.hd b) λh' tk k=>#[_,H,I.kept k,?_,q];by_cases a:j<i
 .rw[Xo a,Xo a];exact#[_,rfl]
 .rw[Xl a,Xl a];exact#[_,rfl]
variable{prog:Ñ}{w:Û}{A:ä}{E:Ä->Æ->Prop}{s:Æ}{K:Ã}{x dx C f:Ç}{mA:Ð->Option Ä}{name:Ð}{v:Ä}
end
section
variable{P:Ñ}{w:Û}{H H':Hp}{h h':â}{a C dx:Ç}{fs fs':List (Ð×V)}
variable{X:Cx}{Z2:List (Ç×ü)}{Y:St}{s:Æ}{f:Ð}{v:V}{A:ä}{E:Ä->Æ->Prop}
variable{o e value:Õ}{pos pos' tpos:ò}{ta tv:TE}
variable{Q:Ä->Æ->Prop}{c:Ä}{b:Bool}
end
structure dZ(k:Nat)(A:ä):Prop where
 hd:A.handled=none
 dp:A.depth+3*k+5<recursionLimit
 un:A.units+16*k+200<ğ
def dZ.mono{j:Nat}(r:dZ k A)(h:j<=k):dZ j A:=#[r.hd,by have:=r.dp;lia,by have:=r.un;lia]
def dZ.deeper{k:Nat}{A:ä}(r:dZ (k+1) A)(env:Ł):dZ k (A.deeper env) :=
 #[r.hd,by have:=r.dp;show A.depth+1+3*k+5<_;lia,by have:=r.un;show A.units+3+16*k+200<_;lia]
def dZ.depth{k:Nat}{A:ä}(r:dZ k A):A.depth<recursionLimit:=by have:=r.dp;lia
def Pm:TA:=λ_ H Q=>Q [] H
def Qi(ta:TE)(tr:TA):TA:=λY H Q=>ta Y H λx H1=>tr Y H1 λxs H2=>Q (x::xs) H2
section
variable{X:Cx}{e:Õ}{es:List Õ}{te:TE}{t:TA}{pos:ò}
def bq:PA X [] Pm:=λ_ _ _ _ H Q I h=>ſ #[[],H,I,.nil,h]
def aD(ha:PE X e te)(i:PA X es t)(j:autoParam (Å (e::es) X.env=(Â,Ý e X.env)::Å es X.env) zra):PA X (e::es) (Qi te t):=by
 intro pos Z2 s Y H Q I h;rw[j];show Î _ _ (spliced ((Â,Ý e X.env)::ì pos (Å es X.env))) _ _ s;refine ű (cy (ha Z2 s Y H _ I h) λu b ⟨x,H1,c,f,q1⟩=>?_);exact cy (i pos Z2 b Y H1 _ c q1) λus k ⟨xs,H2,d,g,a⟩=>#[x::xs,H2,d,.cons f g,a]
def Sa(t:TA):TE:=λY H Q=>t Y H λxs H1=>xs.length<=sizeLine/\∀p,H1 p=none->Q (.ref p) (upd H1 p (.tup xs))
def Q_(t:TA):TE:=λY H Q=>t Y H λxs H1=>xs.length<=sizeLine/\∀p,H1 p=none->Q (.ref p) (upd H1 p (.lst xs))
def NV{x1}(h:PA X es t):PE X (.Tuple es x1 pos) (Sa t):=by
 intro Z2 s Y H Q I f;refine wpAny_Tuple_spliced (cy (h pos Z2 s Y H _ I f) λus a ⟨xs,H1,c,r,z,q⟩=>#[by rw[<-r.length];exact z,?_]);have d:H1 a.heap.objs.size=none:=c.hok.fresh (Xu _);refine#[.ref a.heap.objs.size,upd H1 a.heap.objs.size (.tup xs),c.laid (t':=a.toks) (λb u e=>Xw _ e) (Xu _) ?_,rfl,q _ d];exact#[z,us,r,#[_,XN _ rfl,rfl,_,rfl]]
def Am(h:PA X es t):PE X (.List es pos) (Q_ t):=by
 intro Z2 s Y H Q I f;refine wpAny_List_spliced (cy (h pos Z2 s Y H _ I f) λus a ⟨xs,H1,c,r,z,q⟩=>#[by rw[<-r.length];exact z,?_]);have d:H1 a.heap.objs.size=none:=c.hok.fresh (Xu _);refine#[.ref a.heap.objs.size,upd H1 a.heap.objs.size (.lst xs),c.laid (t':=a.toks) (λb u e=>Xw _ e) (Xu _) ?_,rfl,q _ d];exact#[z,us,0,r,XN _ rfl]
end
abbrev Sp:=List V->Hp->VK->XK->Prop
abbrev DT:=List Ł->Hp->Æ->XK->Ä->Æ->Prop
structure IE(P:Ñ)(w:Û)(K:Ã)(mg:Ð->Option Ä)(base:â)(A:ä)(outer:List Ł)(s:Æ)(H:Hp):Prop where
 frames:A.frames=À outer
 mod:Mod K mg base
 bs:∀b o,base.get? b=À o->s.heap.get? b=À o/\H b=none
 bsz:base.objs.size<=s.heap.objs.size
 o_:s.heap.FunFrames base outer
 frf:∀b∈Bv outer,H b=none
 hok:lL P w H s.heap
 bare:Į s.gens
def CE(outer:List Ł)(P:Ñ)(w:Û)(H:Hp)(s:Æ)(Q:VK)(u:Ä)(s':Æ):Prop :=
 ∃v H',s'.os=s.os/\Į s'.gens/\Un (Bv outer) [] H H' s.heap s'.heap/\lL P w H' s'.heap/\RelV v u/\Q v H'
def CR(CX:DT)(outer:List Ł)(P:Ñ)(w:Û)(H:Hp)(s:Æ)(Q:VK)(E:XK)(r:Λ)(s':Æ):Prop :=
 match r with
 |.ok (.ret u)=>CE outer P w H s Q u s'
 |.ok _=>False
 |.error e=>CX outer H s E e s'
structure fR(P:Ñ)(w:Û)(K:Ã)(mg:Ð->Option Ä)(base:â)(CX:DT)(k:Nat)(f:Ç)(fd:ð)(ps:List Ð)(sp:Sp):Prop where
 len:∀vs H Q E,sp vs H Q E->vs.length=ps.length
 run:∀(A:ä) (outer:List Ł) (s:Æ) (H:Hp) (args:Args) (us:List Ä) (vs:List V) (Q:VK) (E:XK),dZ k A->⇑IE A outer s H->ķ s fd args (ps.zip us)->Vals vs us->sp vs H Q E ->
  Ĝ (È P w) A (.call (.ref f) args) (CR CX outer P w H s Q E) s
section
variable{X:Cx}{Z2:List (Ç×ü)}{Y:St}{H:Hp}{s s':Æ}
def Inv.R4(I:Inv X Z2 Y H s):IE X.prog X.w X.K X.mg X.base X.A X.stack s H :=
 #[I.ok.frames,I.ok.mod,I.bs,Ye I.ok.bsz I.sz,I.stack,I.Cr,I.hok,I.bare]
def Inv.after(I:Inv X Z2 Y H s)(h:CE X.stack X.prog X.w H s Q u s'):EP X Z2 Y Q u s':=by
 obtain⟨v,H',os,bare,un,a,r,q⟩:=h;obtain⟨e,g,d,t,c⟩:=s';obtain rfl:c=s.os:=os;exact#[v,H',I.call (h':=e) (g':=g) (d':=d) (t':=t) (ch:=[]) un a bare (λb z=>absurd z .c),r,q]
end
def Lp(sp:Sp)(dvs:List V)(E:XK)(t:TA):TE:=λY H Q=>t Y H λvs H1=>sp (vs++dvs) H1 Q E
def Binds(K:Ã)(fd:ð)(ps:List Ð)(ds:List Ä):Prop :=
 ∀(s:Æ) (us:List Ä),K.In s.heap->(us++ds).length=ps.length->ķ s fd #[us,[]] (ps.zip (us++ds))
def Binds.all{fd:ð}{ps:List Ð}(h:∀us:List Ä,us.length=ps.length->ī fd #[us,[]]=pure (ps.zip us)):Binds K fd ps []:=λs us _ a=>by
 rw[aaE] at a ⊢;exact .of_eq (h us a)
def Passes(CX:DT)(X:Cx)(E:XK):Prop:=∀(Z2:List (Ç×ü)) (Y:St) (H:Hp) (s:Æ) (e:Ä) (s':Æ),Inv X Z2 Y H s->CX X.stack H s E e s'->X.xe e s'
section
variable{X:Cx}{CX:DT}{k:Nat}{f C:Ç}{fd:ð}{ps:List Ð}{sp:Sp}{dvs:List V}{ds:List Ä}{E:XK}{x m:Ð}{p pos apos:ò}{e o:Õ}{es:List Õ}{ta:TE}{t:TA}
def HB{vs:List V}(F:fR X.prog X.w X.K X.mg X.base CX k f fd ps sp)(j:dZ k X.A)(c:Binds X.K fd ps ds)(d:Vals dvs ds)(g:Passes CX X E)
  (I:Inv X Z2 Y H s) (r:Vals vs us) (h:sp (vs++dvs) H Q E):Î .F X.A (call (.ref f) us) (EP X Z2 Y Q) X.xe s:=by
 have b:Vals (vs++dvs) (us++ds):=r.append d;have i:(us++ds).length=ps.length:=by rw[<-b.length];exact F.len _ _ _ _ h
 refine wpAny_call (aa_ (F.run X.A X.stack s H #[us,[]] (us++ds) (vs++dvs) Q E j I.R4 (c s us I.LH i) b h) λr s' a=>?_);cases r with
 |error e=>exact g Z2 Y H s e s' I a
 |ok l =>
  cases l with
  |ret u=>exact I.after a
  |next=>exact Ć a
  |brk=>exact Ć a
  |cont=>exact Ć a
def gN(F:fR X.prog X.w X.K X.mg X.base CX k f fd ps sp)(j:dZ k X.A)(d:Gl X x)(l:X.mg x=À (.ref f))(g:č X.K (.ref f)=Á)(c:Binds X.K fd ps ds)(m:Vals dvs ds)(i:Passes CX X E)
  (ha:PA X (e::es) t) (a:(x==("__debug__":Ð))=Â:=by decide) (he:Å (e::es) X.env=(Â,Ý e X.env)::Å es X.env:=by rfl) (hpl:(ì pos (Å es X.env)).any (·.1)=Â:=by rfl):
  PE X (.Call (.Name x p) (e::es) [] pos) (Lp sp dvs E t):=by
 intro Z2 s Y H Q I h;refine ZK (wN I d l ?_ a);refine PySem.W.callWith_K (h₀:=X.base) I.ok.mod.kin g (cy (ha pos Z2 s Y H _ I h) λus n ⟨vs,H1,b,r,q⟩=>#[b.LH,?_]) he hpl;exact HB F j c m i b r q
def Hk(F:fR X.prog X.w X.K X.mg X.base CX k f fd ps sp)(g:dZ k X.A)(d:Gl X x)(i:X.mg x=À (.ref f))(e:č X.K (.ref f)=Á)(b:Binds X.K fd ps ds)(j:Vals dvs ds)(c:Passes CX X E)
  (a:(x==("__debug__":Ð))=Â:=by decide):PE X (.Call (.Name x p) [] [] pos) (Lp sp dvs E Pm):=by
 intro Z2 s Y H Q I h;refine ZK (wN I d i ?_ a);exact PySem.W.callWith_K0 I.LH e (HB (us:=[]) F g b j c I .nil h)
variable{ks:List Ð}{kpos:ò}{kws:List Τ}{te:TE}{tk:TA}{nm:Option Ð}{g:List Ä->List Ä->List Ä}{gV:List V->List V->List V}
end
structure ao(N P:List Ð)(sc:Ĉ):Prop where
 kind:sc.kind=.function
 co:sc.isCoroutine=Â
 gen:sc.isGenerator=Â
 nd:N.Nodup
 pre:N.take P.length=P
 par:∀x∈P,sc.names.lookup x=À .local\/sc.names.lookup x=À .cell
 nofree:∀y∈sc.names,y.2≠.free
theorem vp{kindOf:Ð->Option ï}{x:Ð}:∀{binds:List (Ð×Ä)} {m:Ð->Option Ä},(∀v,(x,v)∉binds)->ŵ kindOf binds m x=m x
 |[],_,_=>rfl
 | (n,v) :: r,m,h=>by
  unfold ŵ;rw[vp λw a=>h w (Xx _ a)];split
  .have:x≠n:=by rintro rfl;exact h v XA
   simp[this]
  .rfl
theorem u5{kindOf:Ð->Option ï}{x:Ð}:∀{binds:List (Ð×Ä)} {m:Ð->Option Ä},(∀v,(x,v)∉binds)->Ŷ kindOf binds m x=m x
 |[],_,_=>rfl
 | (n,v) :: r,m,h=>by
  unfold Ŷ;rw[u5 λw a=>h w (Xx _ a)];split
  .rfl
  .have:x≠n:=by rintro rfl;exact h v XA
   simp[this]
theorem uR{kindOf:Ð->Option ï}{x:Ð}{v:Ä}:∀{P:List Ð} {vs:List Ä} {i:Nat} {m:Ð->Option Ä},P.Nodup->P[i]?=À x->vs[i]?=À v->kindOf x=À .local ->
  ŵ kindOf (P.zip vs) m x=À v
 |[],_,_,_,_,h,_,_=>by simp at h
 |_::_,[],_,_,_,_,h,_=>by simp at h
 |p::P,w::vs,0,m,a,h1,h2,b=>by
  simp at h1 h2;subst h1;subst h2;show ŵ kindOf ((p,w)::P.zip vs) m p=_;unfold ŵ;rw[vp λv c=>(YC.mp a).1 (abD c).1,Xo b];simp
 |p::P,w::vs,i+1,m,a,h1,h2,b=>by
  show ŵ kindOf ((p,w)::P.zip vs) m x=_;unfold ŵ;exact uR (i:=i) (YC.mp a).2 ↑h1 ↑h2 b
theorem uI{kindOf:Ð->Option ï}{x:Ð}{v:Ä}:∀{P:List Ð} {vs:List Ä} {i:Nat} {m:Ð->Option Ä},P.Nodup->P[i]?=À x->vs[i]?=À v->kindOf x≠À .local ->
  Ŷ kindOf (P.zip vs) m x=À v
 |[],_,_,_,_,h,_,_=>by simp at h
 |_::_,[],_,_,_,_,h,_=>by simp at h
 |p::P,w::vs,0,m,a,h1,h2,b=>by
  simp at h1 h2;subst h1;subst h2;show Ŷ kindOf ((p,w)::P.zip vs) m p=_;unfold Ŷ;rw[u5 λv c=>(YC.mp a).1 (abD c).1,Xl b];simp
 |p::P,w::vs,i+1,m,a,h1,h2,b=>by
  show Ŷ kindOf ((p,w)::P.zip vs) m x=_;unfold Ŷ;exact uI (i:=i) (YC.mp a).2 ↑h1 ↑h2 b
noncomputable def start(N:List Ð)(vs:List V):St:=vs.map À++Ê (N.length-vs.length) none
noncomputable def uh(CX:DT)(P:Ñ)(w:Û)(K:Ã)(mg:Ð->Option Ä)(base:â)(N:List Ð)(qual:Ð)(ZB:Ĉ)(f:Ç)(cd:Ä)(A:ä)(outer:List Ł)(s:Æ)(H:Hp)(E:XK):Cx where
 prog:=P
 w:=w
 K:=K
 mg:=mg
 base:=base
 A:=A.deeper (ġ qual ZB s.heap.objs.size f cd)
 N:=N
 s₀:=s
 H₀:=H
 env:=ġ qual ZB s.heap.objs.size f cd
 outer:=outer
 stack:=ġ qual ZB s.heap.objs.size f cd::outer
 ex:=[]
 calm:=Á
 fn:=λ_=>Á
 pn:=[]
 xe:=λe s'=>Î (È P w) (A.deeper (ġ qual ZB s.heap.objs.size f cd)) (leaving (ġ qual ZB s.heap.objs.size f cd) e) (λ_ a=>CX outer H s E e a) (λb a=>CX outer H s E b a) s'
def za{a:Ĉ}(h:a.names.lookup x=À .cell):∃c,(ë n a.names []).lookup x=À c:=by
 have q:=aaJ a.names n [] (.inl h);exact aau.mp q
def Dk{CX:DT}{mg:Ð->Option Ä}{base:â}{N ps:List Ð}{qual:Ð}{ZB:Ĉ}{f:Ç}{cd:Ä}{outer:List Ł}{m:Æ}{E:XK}{vs:List V}
  (S:ao N ps ZB) (C:A.handled=none) (d:⇑IE A outer s H) (F:vs.length=ps.length) (r:Vals vs us)
  (x:InCallC s s.heap.objs.size (ŵ (ġ qual ZB s.heap.objs.size f cd).kindOf (ps.zip us) λ_=>none) (ë (s.heap.objs.size+1) ZB.names []) (Ŷ (ġ qual ZB s.heap.objs.size f cd).kindOf (ps.zip us) λ_=>none) m):
  Inv (uh CX P w K mg base N qual ZB f cd A outer s H E) [] (start N vs) H m:=by
 have hpl:ps.length<=N.length:=by have:=congrArg Ľ S.pre;rw[Zs] at this;lia
 obtain⟨h1,tk,rfl,o⟩:=x.done;have j:∀b:Ç,b∉(uh CX P w K mg base N qual ZB f cd A outer s H E).ex:=λb z=>absurd (show b∈([]:List Ç) from z) .c
 refine#[#[d.mod,S.kind,rfl,rfl,Xu _,λy z c h1 h2=>?_,λy g=>?_,λy c _ h=>?_,λ_=>C,Around.frames_deeper d.frames,.inr #[rfl,rfl],λb z=>absurd z (j b),d.bs,d.bsz,λb _ _=>j b,λb z=>absurd z (j b),d.o_,d.frf],
  rfl,d.bare,Un.kept o,#[_,x.toInCall.ns,λi y v h1 h2 D=>?_],λy c h=>#[_,x.cell y c h],d.hok.fresh (Xu _),λy c h=>?_,λp hp=>absurd (show p∈([]:List (Ç×ü)) from hp) .c,d.hok.kept o,?_]
 .exact name_of_addr x.apart (Z4 h1) (Z4 h2)
 .have g:ZB.names.lookup y=À .cell\/ZB.names.lookup y=À .free:=g;rcases g with g|g
  .exact za g
  .exact absurd rfl (S.nofree _ (Z4 g))
 .exact Y0 (x.above y c (Z4 h))
 .have hi:i<vs.length:=by
   unfold start at h2;by_cases hi:i<vs.length
   .exact hi
   .rw[Zh ↑hi] at h2;rw[abj] at h2;split at h2<;>cases h2
  have ha:vs[i]?=À v:=by
   unfold start at h2;rw[Y2 ↑hi,XI] at h2;cases e:vs[i]? with
   |none=>rw[e] at h2;cases h2
   |some a=>rw[e] at h2;cases h2;rfl
  obtain⟨u,t,B⟩:=r.get ha
  have hp:ps[i]?=À y:=by
   rw[<-S.pre,acq .b];exact h1
  have l:ps.Nodup:=by rw[<-S.pre];exact S.nd.sublist (Ξ _ _)
  refine#[u,B,?_];rcases S.par y (Xs hp) with k|k
  .exact .inl #[k,uR l hp t k]
  .obtain⟨c,e⟩:=za (n:=s.heap.objs.size+1) k;refine .inr #[.inl k,c,e,?_];have q:=x.cell y c e;rw[uI l hp t (by show ZB.names.lookup y≠_;rw[k];decide)] at q;exact q
 .exact d.hok.fresh (Y0 (x.above y c (Z4 h)))
 .unfold start;show _=N.length;rw[XQ,Xv,abz];lia
def Pa{CX:DT}{mg:Ð->Option Ä}{base:â}{f:Ç}{name qual:Ð}{params:Arguments}{ZB:Ĉ}{F kV doc D a ct T:Ä}{B od:Option Ç}
  {l:Array (Option Ä)} {N ps:List Ð} {sp:Sp} (G:K.lookup f=À #[T,od,.func (ê name qual params body ZB F kV doc D B a ct),l]) (j:ĩ K a qual=Á) (S:ao N ps ZB)
  (len:∀vs H Q E,sp vs H Q E->vs.length=ps.length)
  (d:∀(A:ä) (outer:List Ł) (s:Æ) (H:Hp) (vs:List V) (Q:VK) (E:XK),dZ k (A.deeper (ġ qual ZB s.heap.objs.size f a))->sp vs H Q E ->
   ∃t,rh (uh CX P w K mg base N qual ZB f a A outer s H E) body t/\t {nx:=λ_ H'=>Q .non H',rt:=Q} (start N vs) H):
  fR P w K mg base CX (k+1) f (ê name qual params body ZB F kV doc D B a ct) ps sp:=by
 refine#[len,λA outer s H args us vs Q E p h R r i=>?_];have Γ:=len _ _ _ _ i;have z:K.In s.heap:=h.mod.kin.keeps λb o e=>(h.bs b o e).1;have lim:s.heap.NoLimit:=h.mod.nolimit.keeps λb o e=>(h.bs b o e).1
 have c:∀y∈ps.zip us,ZB.names.lookup y.1=À .local\/(ZB.names.lookup y.1=À .cell/\((ë (s.heap.objs.size+1) ZB.names []).lookup y.1).isSome=Á):=fun(n,v) α=>by
  rcases S.par n (abD α).1 with q|q
  .exact .inl q
  .exact .inr #[q,aaJ _ _ _ (.inl q)]
 refine codeAny_call_function p.depth (z _ _ G) rfl S.co S.gen rfl (PySem.W.codeRec_of z j) (R _ _ _ _ ?_);refine wpAny_newFunctionEnv_cells S.kind c λenv he C x=>?_;subst he;refine#[lim.keeps x.toInCall.keep,codeAny_func ?_];obtain⟨t,X,L⟩:=d A outer s H vs Q E (p.deeper _) i;have I:Inv (uh CX P w K mg base N qual ZB f a A outer s H E) [] (start N vs) H C:=Dk S p.hd h Γ r x;refine ZP (X [] C (start N vs) H _ I L) (λO s' g=>?_) λe s' g=>g
 have fin:∀{Y':St} {H':Hp} {v:V} {u:Ä},Inv (uh CX P w K mg base N qual ZB f a A outer s H E) [] Y' H' s'->RelV v u->Q v H'->CE outer P w H s Q u s' :=
  λ{Y' H' v u} J m q=>#[v,H',J.os,J.bare,J.base,J.hok,m,q]
 cases O with
 |ret u =>
  obtain⟨v,Y',H',J,m,q⟩:=g;exact fin J m q
 |next =>
  obtain⟨Y',H',J,q⟩:=g;exact fin (v:=V.non) (u:=õ) J rfl q
 |brk =>
  obtain⟨_,_,_,q⟩:=g;exact Ć q
 |cont =>
  obtain⟨_,_,_,q⟩:=g;exact Ć q
section
variable{X:Cx}{x:Ð}{p pos:ò}{e:Õ}{es:List Õ}{t:TA}{id T:String}{r:List V->Hp->VK->Prop}
def Sv(r:List V->Hp->VK->Prop)(t:TA):TE:=λY H Q=>t Y H λvs H1=>r vs H1 Q
def f7(k:kM X (.builtin id) r)(c:Gl X x)(j:X.mg x=none)(b:ė x=À (.builtin id))(ha:PA X (e::es) t)(d:autoParam (x≠"__name__") zrb)(a:autoParam ((x==("__debug__":Ð))=Â) zrb)
  (he:Å (e::es) X.env=(Â,Ý e X.env)::Å es X.env:=by rfl) (hpl:(ì pos (Å es X.env)).any (·.1)=Â:=by rfl):PE X (.Call (.Name x p) (e::es) [] pos) (Sv r t):=by
 intro Z2 s Y H Q I h;refine ZK (ic I c j b ?_ d a);exact abE (cy (ha pos Z2 s Y H _ I h) λus f ⟨vs,H1,g,i,q1⟩=>k Z2 f Y H1 vs us Q g i q1) he hpl
def uw(k:kM X (.type T) r)(c:Gl X x)(j:X.mg x=none)(b:ė x=À (.type T))(ha:PA X (e::es) t)(d:autoParam (x≠"__name__") zrb)(a:autoParam ((x==("__debug__":Ð))=Â) zrb)
  (he:Å (e::es) X.env=(Â,Ý e X.env)::Å es X.env:=by rfl) (hpl:(ì pos (Å es X.env)).any (·.1)=Â:=by rfl):PE X (.Call (.Name x p) (e::es) [] pos) (Sv r t):=by
 intro Z2 s Y H Q I h;refine ZK (ic I c j b ?_ d a);exact Za (cy (ha pos Z2 s Y H _ I h) λus f ⟨vs,H1,g,i,q1⟩=>k Z2 f Y H1 vs us Q g i q1) he hpl
end
end L2
namespace HT
open PySem PyProof.Rows
section
open PySem.SeqAt
open PySem.AutoSeq1 (wpAny_loadPart')
open PySem.MeetsSeq PySem.MeetsSeq2 PySem.MeetsSeq3
end
section
variable{prog:Ñ}{w:Û}{A:ä}{E:Ä->Æ->Prop}{s:Æ}
noncomputable def fJ(n d:Nat):Option Int->Nat
 |none=>d
 |some v=>if v<0 then (v+(n:Int)).toNat else min v.toNat n
def nD(n d:Nat):fJ n d none=d:=rfl
def qO(n d k:Nat):fJ n d (À (k:Int))=min k n:=by
 show(if (k:Int)<0 then ((k:Int)+(n:Int)).toNat else min (k:Int).toNat n)=min k n;rw[Xl .b,Ö]
def Md(n d:Nat)(b:d<=n)(o:Option Int):fJ n d o<=n:=by
 cases o with
 |none=>exact b
 |some v =>
  show(if v<0 then (v+(n:Int)).toNat else min v.toNat n)<=n;by_cases a:v<0
  .rw[Xo a];lia
  .rw[Xl a];exact ϐ _ _
def BU(v:Int)(n d:Nat):(if v<0 then max (v+(n:Int)) 0 else min v (n:Int))=((fJ n d (À v):Nat):Int):=by
 show(if v<0 then max (v+(n:Int)) 0 else min v (n:Int))=(((if v<0 then (v+(n:Int)).toNat else min v.toNat n):Nat):Int);by_cases a:v<0
 .simp only[Xo a];lia
 .simp only[Xl a];lia
def AV(lo hi:Option Int)(n:Nat):Ę lo hi 1 (n:Int)=(((fJ n 0 lo:Nat):Int),((fJ n n hi:Nat):Int)):=by
 have h1:¬((1:Int)<0):=by lia
 unfold Ę;simp only[h1,Z6];refine acr ?_ ?_
 .cases lo with
  |none=>rfl
  |some v=>exact BU v n 0
 .cases hi with
  |none=>rfl
  |some v=>exact BU v n n
def z_(i j:Nat):ă (i:Int) (j:Int) 1=j-i:=by
 unfold ă;have h1:(1:Int)>0:=by lia
 simp only[h1,aaC,Int.ediv_one];split<;>lia
def sV{v:Ä}{o:Option Int}{Q:Option Int->Æ->Prop}(p:ő v o)(h:Q o s):Î .E A (Builtin.Slice.slicePartIndex v) Q E s:=by
 cases p with
 |none=>exact slicePart_none h
 |int i t=>exact slicePart_int h
def o8{sl:Ç}{d c:Ä}{lo hi:Option Int}{n:Nat}{Q:Int×Int×Nat->Æ->Prop}(f:s.heap.IsSliceOf sl d c .none)(pl:ő d lo)(pu:ő c hi)
  (h:Q (((fJ n 0 lo:Nat):Int),1,fJ n n hi-fJ n 0 lo) s):Î .E A (ı (.ref sl) (pure (n:Int))) Q E s:=by
 obtain⟨os,a,e,b⟩:=id f;unfold ı Builtin.Slice.sliceFields;refine Xk (Xk (ϋ a b (x:=d) rfl (Xk (ϋ a b (x:=c) rfl (Xk (ϋ a b (x:=.none) rfl (Xp ?_)))))));refine Xk (slicePart_none ?_);show Î _ _ (if ((1:Int)==0)=Á then _ else _) _ _ s;rw[Xl .a];refine Xk (sV pl (Xk (sV pu (Xk (Xp ?_)))));show Î _ _ (match Ę lo hi 1 (n:Int) with|(lo,hi)=>pure (lo,(1:Int),ă lo hi 1)) _ _ s;rw[AV lo hi n];show Î _ _ (pure (((fJ n 0 lo:Nat):Int),(1:Int),ă ((fJ n 0 lo:Nat):Int) ((fJ n n hi:Nat):Int) 1)) _ _ s;rw[z_];exact Xp h
def FE(xs:Array Ä)(i k:Nat):((Ô k).filterMap fun(m:Nat)=>xs[((i:Int)+(m:Int)*1).toNat]?).toArray=((xs.toList.drop i).take k).toArray:=by
 have e:(fun(m:Nat)=>xs[((i:Int)+(m:Int)*1).toNat]?)=λm=>xs[i+m]?:=by
  funext m;have:((i:Int)+(m:Int)*1).toNat=i+m:=by lia
  rw[this]
 rw[e];have:=pick_run xs i k;rw[List.filterMap_map] at this;have e2:((λx=>xs[x]?)∘λx=>i+x)=λm=>xs[i+m]?:=rfl;rw[e2] at this;rw[this]
def nW{t sl:Ç}{items:Array Ä}{i g:Ä}{lo hi:Option Int}{Q:Ä->Æ->Prop}(b:IsTup s.heap t items)(j:s.heap.IsSliceOf sl i g .none)(pl:ő i lo)(pu:ő g hi)
  (k:¬(fJ items.size 0 lo=0/\fJ items.size items.size hi=items.size))
  (h:Q (.ref s.heap.objs.size) {s with heap:=s.heap.push {cls:=.type "tuple",data:=.seq ((items.toList.drop (fJ items.size 0 lo)).take (fJ items.size items.size hi-fJ items.size 0 lo)).toArray}})
  (hsz:items.size<=sizeLine):Î .E A (Θ (.ref t) (.ref sl)) Q E s:=by
 have a:sizeOk (.seq ((items.toList.drop (fJ items.size 0 lo)).take (fJ items.size items.size hi-fJ items.size 0 lo)).toArray):=by
  show((items.toList.drop (fJ items.size 0 lo)).take (fJ items.size items.size hi-fJ items.size 0 lo)).toArray.size<=sizeLine;rw[XR,Zs,Z7,XG];omega
 have o:fJ items.size items.size hi<=items.size:=Md _ _ (Xu _) hi;obtain⟨os,e,f,l⟩:=id j;have c:s.TypeIs (.ref sl) "slice":=#[os,e,f];unfold Θ
 try with_reducible refine Zg ?_
 first|refine Xk (Xp ?_)|skip
 refine Xk (wpAny_sequenceKey b.typeIs .a ?_)
 refine Xk (Zc (name:=ô "__getitem__") b.typeIs aaA
  (Y1 aaA b.typeIs entry_tuple_getitem ?_ (args_tuple_getitem _ _)))
 show Î _ _ (Builtin.Tuple.tupleItemsOf (.ref t) >>= _) _ _ s;refine Xk (tupleItemsOf_ b ?_);refine Xk (Α c ?_);rw[Xo .a];refine Xk (o8 j pl pu ?_)
 have d:¬((((fJ items.size 0 lo:Nat):Int)==0&&(1:Int)==1&&(fJ items.size items.size hi-fJ items.size 0 lo)==items.size)=Á):=by
  intro q;rw[X8,X8] at q;have q1:((fJ items.size 0 lo:Nat):Int)=0:=eq_of_beq q.1.1;have n:fJ items.size items.size hi-fJ items.size 0 lo=items.size:=eq_of_beq q.2;exact k #[.e,.e]
 show Î _ _ (if (((fJ items.size 0 lo:Nat):Int)==0&&(1:Int)==1&&(fJ items.size items.size hi-fJ items.size 0 lo)==items.size)=Á then _ else _) _ _ s;rw[Xl d,FE]
 first
  |exact Xk (m:=ą _) (YO (Xp ⟨_,rfl,Xp h⟩) a)
  |exact Xk (m:=ą _) (YO (Xk (Xp (Xp ⟨_,rfl,Xp h⟩))) a)
  |exact Xk (Xk (m:=ą _) (YO (Xp (Xp ⟨_,rfl,Xp h⟩)) a))
  |exact Xk (Xk (m:=ą _) (YO (Xp ⟨_,rfl,Xp h⟩) a))
end
end HT
namespace L2
open PySem PySem.Spec PyProof.Rows
variable{n:Nat}{s:Æ}{XV:List Ä}{x:V}
abbrev TO:=St->Hp->(Option Int->Hp->Prop)->Prop
def PO(X:Cx)(e:Option Õ)(t:TO):Prop :=
 ∀(Z2:List (Ç×ü)) (s:Æ) (Y:St) (H:Hp) (Q:Option Int->Hp->Prop),Inv X Z2 Y H s->t Y H Q ->
  Î .F X.A (evalPart e X.env) (λu s'=>∃o H',Inv X Z2 Y H' s'/\ő u o/\Q o H') X.xe s
def J5:TO:=λ_ H Q=>Q none H
def PU(t:TE):TO:=λY H Q=>t Y H λx H1=>∃i,x=.int i/\Q (À i) H1
def intsAre_of{ns:List Int}:∀{us:List Ä},Vals (ns.map V.int) us->ó us ns:=by
 induction ns with
 |nil=>intro us r;rw[aaQ] at r;cases r;exact .nil
 |cons n ns b =>
  intro us r;rw[X3] at r;cases r with
  |cons c a =>
   obtain⟨t,e⟩:=c;subst e;exact .cons n t (b a)
section
variable{X:Cx}{e:Õ}{te:TE}{lo hi:Option Õ}{tl th:TO}{pos p2:ò}
def rB:PO X none J5:=by
 intro Z2 s Y H Q I h;rw[evalPart_none];exact Xp #[none,H,I,.none,h]
def qV(h:PE X e te):PO X (À e) (PU te):=by
 intro Z2 s Y H Q I a;rw[evalPart_some];refine cy (h Z2 s Y H _ I a) λu d ⟨x,H1,b,c,q1⟩=>?_;obtain⟨i,rfl,q⟩:=q1;obtain⟨t,rfl⟩:=c;exact#[À i,H1,b,.int i t,q]
def Q8(X:Cx)(r:V->Option Int->Option Int->Hp->VK->Prop):Prop :=
 ∀(Z2:List (Ç×ü)) (s:Æ) (Y:St) (H:Hp) (x:V) (v b a:Ä) (lo hi:Option Int) (sl:Ç) (Q:VK),Inv X Z2 Y H s->RelV x v->s.heap.IsSliceOf sl b a .none->ő b lo->ő a hi->r x lo hi H Q ->
  ∃T id,typeLookup (.type T) "__getitem__"=pure (À (.builtin id))/\s.TypeIs v T/\Î .F X.A (Θ v (.ref sl)) (EP X Z2 Y Q) X.xe s
def Ti(r:V->Option Int->Option Int->Hp->VK->Prop)(te:TE)(tl th:TO):TE:=λY H Q=>te Y H λx H1=>tl Y H1 λl H2=>th Y H2 λu a=>r x l u a Q
def m_{r:V->Option Int->Option Int->Hp->VK->Prop}(B:Q8 X r)(he:PE X e te)(z:PO X lo tl)(D:PO X hi th):PE X (.Subscript e (.Slice lo hi none p2) pos) (Ti r te tl th):=by
 intro Z2 s Y H Q I h;refine Subscript_ (cy (he Z2 s Y H _ I h) λv n ⟨x,H1,p,t,q1⟩=>?_);refine wpAny_Slice (cy (z Z2 n Y H1 _ p q1) λd o ⟨l,H2,y,pl,m⟩=>cy (D Z2 o Y H2 _ y m) λc a ⟨u,f,k,pu,g⟩=>?_);rw[evalPart_none];refine Xp ?_;have j:Inv X Z2 Y f {a with heap:=a.heap.push {cls:=.type "slice",data:=.fields (à [d,c,.none])}}:=k.kept (t':=a.toks) λb ob q=>Xw _ q;obtain⟨T,id,E,C,i⟩:=B Z2 {a with heap:=a.heap.push {cls:=.type "slice",data:=.fields (à [d,c,.none])}} Y f x v d c l u a.heap.objs.size Q j t (Heap.IsSliceOf.new ..) pl pu g;show Î .F X.A (subscriptTail e (.Slice lo hi none p2) v (.ref a.heap.objs.size)) (EP X Z2 Y Q) X.xe {a with heap:=a.heap.push {cls:=.type "slice",data:=.fields (à [d,c,.none])}};exact tail_any (ops:=[.ref a.heap.objs.size,v]) C E i (by stop rfl)
noncomputable def jV(xs:List V)(lo hi:Option Int):List V:=(xs.drop (HT.fJ xs.length 0 lo)).take (HT.fJ xs.length xs.length hi-HT.fJ xs.length 0 lo)
def pU(xs:List V)(lo hi:Option Int):(jV xs lo hi).length<=xs.length:=by
 unfold jV;rw[Zs,Z7];lia
def Sf(K:Ã):V->Option Int->Option Int->Hp->VK->Prop:=λx lo hi H Q=>∃a xs,x=.ref a/\zE K H a xs /\
 ¬(HT.fJ xs.length 0 lo=0/\HT.fJ xs.length xs.length hi=xs.length)/\∀p,H p=none->Q (.ref p) (upd H p (.tup (jV xs lo hi)))
def N6:Q8 X (Sf X.K):=by
 intro Z2 s Y H x v k j lo hi sl Q I g i pl pu h;obtain⟨a,xs,rfl,f,e,q⟩:=h;cases g;obtain⟨XV,r,d,hz⟩:=I.tuple f;have c:XV.toArray.size=xs.length:=by rw[XR];exact r.length.symm
 refine#["tuple",_,aaA.lookup,d.typeIs,?_];refine HT.nW d i pl pu (by rw[c];exact e) ?_ (by rw[c];exact hz);rw[c];refine#[.ref s.heap.objs.size,_,I.laid (t':=s.toks) (o:=.tup (jV xs lo hi)) (λb ob q=>Xw _ q) (Xu _) ?_,rfl,q _ (I.hok.fresh (Xu _))];exact#[Ye (pU xs lo hi) hz,_,(r.drop (HT.fJ xs.length 0 lo)).take (HT.fJ xs.length xs.length hi-HT.fJ xs.length 0 lo),IsTup.new _ _]
end
noncomputable def D1(n:Nat)(i:Int):Option Nat:=if 0<=i then (if i<n then À i.toNat else none) else if -(n:Int)<=i then À (i+n).toNat else none
noncomputable def zd{M:Type}(xs:List M)(i:Int):Option M:=(D1 xs.length i).bind λj=>xs[j]?
def mZ{i:Int}{j:Nat}(h:D1 n i=À j):seqIndex? i n=À j/\j<n/\-(n:Int)<=i/\i<n:=by
 unfold D1 at h;by_cases a:0<=i
 .rw[Xo a] at h;by_cases h1:i<n
  .rw[Xo h1] at h;have e:i.toNat=j:=XJ h;exact#[by rw[ό a h1,e],.b,.b,h1]
  .rw[Xl h1] at h;cases h
 .rw[Xl a] at h;by_cases h1:-(n:Int)<=i
  .rw[Xo h1] at h;have e:(i+n).toNat=j:=XJ h;exact#[by rw[Ζ .b h1,e],.b,h1,.b]
  .rw[Xl h1] at h;cases h
def nY{M:Type}{xs:List M}{i:Int}{v:M}(h:zd xs i=À v):∃j,seqIndex? i xs.length=À j/\xs[j]?=À v/\j<xs.length/\-(xs.length:Int)<=i/\i<xs.length:=by
 unfold zd at h;cases e:D1 xs.length i with
 |none=>rw[e] at h;cases h
 |some j =>
  rw[e] at h;obtain⟨h1,h2,b,a⟩:=mZ e;exact#[j,h1,h,h2,b,a]
def Kd{M:Type}{xs:List M}{j:Nat}{v:M}(h:xs[j]?=À v):zd xs (j:Int)=À v:=by
 have a:j<xs.length:=(Xy.mp h).1
 have e:D1 xs.length (j:Int)=À j:=by
  unfold D1;rw[Xo .b,Xo .b];simp
 unfold zd;rw[e];exact h
def rk(b:Õ):Prop:=∀o i,subscripted b Â o i=operate [o,i] (Θ o i)
def Rh(X:Cx)(r:R2):Prop :=
 ∀(value slice:Õ) (Z2:List (Ç×ü)) (s:Æ) (Y:St) (H:Hp) (x y:V) (v u:Ä) (Q:VK),Inv X Z2 Y H s->RelV x v->RelV y u->r x y H Q ->
  subscripted slice Â v u=operate [v,u] (Θ v u)->Î .F X.A (subscriptTail value slice v u) (EP X Z2 Y Q) X.xe s
def RP(X:Cx)(id:String)(r:V->List V->Hp->VK->Prop):Prop :=
 ∀(Z2:List (Ç×ü)) (s:Æ) (Y:St) (H:Hp) (x:V) (xs:List V) (v:Ä) (us:List Ä) (Q:VK),Inv X Z2 Y H s->RelV x v->Vals xs us->r x xs H Q ->
  Î .F X.A (call (.builtin id) (v::us)) (EP X Z2 Y Q) X.xe s
section
variable{X:Cx}{a b:Õ}{ta tb:TE}{pos:ò}
def yL{r:R2}(i:Rh X r)(ha:PE X a ta)(c:PE X b tb)(j:rk b):PE X (.Subscript a b pos) (QN r ta tb):=by
 intro Z2 s Y H Q I h;exact Subscript_ (Ob ha c I h λv u e x y H2 f g d q=>i a b Z2 e Y H2 x y v u Q f g d q (j _ _))
def Q9(K:Ã):R2:=λx y H Q=>∃p xs i v,x=.ref p/\y=.int i/\dX K H p xs/\zd xs i=À v/\Q v H
def RH(K:Ã):R2:=λx y H Q=>∃p xs i v,x=.ref p/\y=.int i/\zE K H p xs/\zd xs i=À v/\Q v H
def B3:Rh X (Q9 X.K):=by
 intro value slice Z2 s Y H x y v u Q I l g h d;obtain⟨p,xs,i,z,rfl,rfl,k,he,q⟩:=h;cases l;obtain⟨t,rfl⟩:=g;obtain⟨XV,r,pl,hz⟩:=I.list k;obtain⟨j,h1,h2,o,f,m⟩:=nY he;obtain⟨w,c,a⟩:=r.get h2;have n:=r.length;have A:=w8;have fin:EP X Z2 Y Q w s:=#[z,H,I,a,q];by_cases e:0<=i
 .have b:i.toNat=j:=by
   rw[ό e m] at h1;exact XJ h1
  exact item_listR pl.isList e .b (by rw[b];simpa using c) fin d
 .have b:(i+(XV.toArray.size:Int)).toNat=j:=by
   rw[Ζ .b f] at h1;rw[XR,<-n];exact XJ h1
  exact Ε (x:=w) pl.isList.typeIs slot_list_getitem.lookup
   (wpAny_getItem_list_neg (Q:=λr s'=>r=w/\EP X Z2 Y Q r s') pl.isList .b (by rw[XR]<;>lia) .b (by rw[b];simpa using c) #[rfl,fin]) d
def Ah:Rh X (RH X.K):=by
 intro value slice Z2 s Y H x y v u Q I d b h g;obtain⟨p,xs,i,z,rfl,rfl,c,he,q⟩:=h;cases d;obtain⟨t,rfl⟩:=b;obtain⟨XV,r,pl,hz⟩:=I.tuple c;obtain⟨j,h1,h2,l,k,m⟩:=nY he;obtain⟨w,e,a⟩:=r.get h2;have f:=r.length;have n:=w8;have fin:EP X Z2 Y Q w s:=#[z,H,I,a,q]
 exact Ε (x:=w) pl.typeIs slot_tuple_getitem.lookup
  (getItem_tuple (j:=j) (Q:=λr s'=>r=w/\EP X Z2 Y Q r s') pl .b .b (by rw[XR,<-f];exact h1) ↑e #[rfl,fin]) g
def Ae(XV:List Ä)(n j:Nat)(u:Ä):Ú (·.setIfInBounds j u) {cls:=.type "list",data:=.seq XV.toArray n}={cls:=.type "list",data:=.seq (XV.set j u).toArray n}:=by
 simp[Ú]
def Inv.lst{Z2:List (Ç×ü)}{Y:St}{H:Hp}{s:Æ}{p:Ç}{xs:List V}(I:Inv X Z2 Y H s)(h:H p=À (.lst xs)):
  ∃(XV:List Ä) (n:Nat),Vals xs XV/\s.heap.get? p=À {cls:=.type "list",data:=.seq XV.toArray n}/\xs.length<=sizeLine:=by
 obtain⟨z,XV,n,r,e⟩:=I.hok p _ h;exact#[XV,n,r,e,z]
def Inv.Ng{Z2:List (Ç×ü)}{Y:St}{H:Hp}{p:Ç}{xs ys:List V}{its':List Ä}{a:Nat}{f:ü->ü}(I:Inv X Z2 Y H s)(h:H p=À (.lst xs))
  (g:s.heap.get? p=À {cls:=.type "list",data:=.seq XV.toArray n}) (c:f {cls:=.type "list",data:=.seq XV.toArray n}={cls:=.type "list",data:=.seq its'.toArray a}) (r:Vals ys its') (hz:ys.length<=sizeLine) (t:Nat):
  Inv X Z2 Y (upd H p (.lst ys)) {s with heap:=s.heap.update p f,toks:=t}:=by
 have e:(s.heap.update p f).get? p=À {cls:=.type "list",data:=.seq its'.toArray a}:=by
  rw[Zp f g (by rw[c]<;>rfl),c]
 refine I.write (x:=p) (e:=p) (by rw[h];trivial) (.inl rfl) (λb u d q=>(Ř _ _ (Z5 d)).trans q) #[_,e] ?_;exact#[hz,its',a,r,e]
def O_:V->V->V->Hp->(Hp->Prop)->Prop:=λo i v H Q=>∃p xs k j,o=.ref p/\i=.int k/\H p=À (.lst xs)/\D1 xs.length k=À j/\Q (upd H p (.lst (xs.set j v)))
def set_list:Qy X O_:=by
 intro Z2 s Y H o i v z y u Q I m l w h;obtain⟨p,xs,k,j,rfl,rfl,hp,x,q⟩:=h;cases m;obtain⟨t,rfl⟩:=l;obtain⟨XV,n,r,c,hz⟩:=I.lst hp;obtain⟨h1,h2,e,f⟩:=mZ x;have b:=r.length;have A:=w8
 have d:Inv X Z2 Y (upd H p (.lst (xs.set j v))) {s with heap:=s.heap.update p (Ú (·.setIfInBounds j u))} :=
  I.Ng hp c (Ae XV n j u) (r.set w j) (by rw[YG];exact hz) s.toks
 by_cases g:0<=k
 .have a:k.toNat=j:=by
   rw[ό g f] at h1;exact XJ h1
  exact PySem.W.ki_setAt c g .b (by rw[XR,<-b];exact f) (by rw[a];exact#[_,d,q])
 .have a:(k+(XV.toArray.size:Int)).toNat=j:=by
   rw[Ζ .b e] at h1;rw[XR,<-b];exact XJ h1
  exact PySem.W.ki_setBack c .b (by rw[XR,<-b];exact e) .b (by rw[a];exact#[_,d,q])
def wC(lo hi:Option Int)(n:Nat):(Ğ lo hi none n).1=((HT.fJ n 0 lo:Nat):Int)/\(Ğ lo hi none n).2.1=((HT.fJ n n hi:Nat):Int)/\(Ğ lo hi none n).2.2=1:=by
 refine#[?_,?_,rfl]
 .cases lo with
  |none=>simp[Ğ,HT.fJ]
  |some i =>
   simp only[Ğ,HT.fJ,ź,show(1:Int)>0 by decide,aaC];by_cases h:i<0
   .simp only[h,aaC]<;>lia
   .simp only[h,Z6]<;>lia
 .cases hi with
  |none=>simp[Ğ,HT.fJ]
  |some i =>
   simp only[Ğ,HT.fJ,ź,show(1:Int)>0 by decide,aaC];by_cases h:i<0
   .simp only[h,aaC]<;>lia
   .simp only[h,Z6]<;>lia
def ua(XV:List Ä)(lo hi:Option Int):slicePick XV.toArray lo hi none=((XV.drop (HT.fJ XV.length 0 lo)).take (HT.fJ XV.length XV.length hi-HT.fJ XV.length 0 lo)).toArray:=by
 obtain⟨h1,h2,a⟩:=wC lo hi XV.toArray.size;unfold slicePick;rw[h1,h2,a];simp only[sliceRange_one,pick_run,XR]<;>rfl
def RM(K:Ã):V->Option Int->Option Int->Hp->VK->Prop:=λx lo hi H Q=>∃a xs,x=.ref a/\dX K H a xs/\∀p,H p=none->Q (.ref p) (upd H p (.lst (jV xs lo hi)))
def vz:Q8 X (RM X.K):=by
 intro Z2 s Y H x v j i lo hi sl Q I f g pl pu h;obtain⟨a,xs,rfl,e,q⟩:=h;cases f;obtain⟨XV,r,d,hz⟩:=I.list e;have c:=r.length;refine#["list",_,slot_list_getitem.lookup,d.isList.typeIs,?_];refine wpAny_getItem_list_slice d.isList g pl pu .none .c ?_ (by rw[XR]<;>lia);rw[ua,<-c];refine#[.ref s.heap.objs.size,_,I.laid (t':=s.toks) (o:=.lst (jV xs lo hi)) (λb ob q=>Xw _ q) (Xu _) ?_,rfl,q _ (I.hok.fresh (Xu _))];exact#[Ye (pU xs lo hi) hz,_,0,(r.drop (HT.fJ xs.length 0 lo)).take (HT.fJ xs.length xs.length hi-HT.fJ xs.length 0 lo),XN _ rfl]
noncomputable def og:V->Bool
 |.non=>Á
 |.bl _=>Á
 |.int _=>Á
 |.str _=>Á
 |_=>Â
noncomputable def HV:V->V->Bool
 |.non,.non=>Á
 |.bl a,.bl b=>a==b
 |.bl a,.int b=>(if a then 1 else 0)==b
 |.int a,.bl b=>a==(if b then 1 else 0)
 |.int a,.int b=>a==b
 |.str a,.str b=>a==b
 |_,_=>Â
def MG{A:ä}{y:V}{u v:Ä}(d:RelV y u)(c:RelV x v)(f:og y=Á)(e:og x=Á):ũ A s u v (HV y x):=by
 cases y with
 |non =>
  cases d;cases x with
  |non=>cases c;exact SeqAt.EqAt.same _
  |bl b=>cases c;exact SeqAt.EqAt.none_bool b
  |int b=>obtain⟨t,rfl⟩:=c;exact SeqAt.EqAt.none_int b t
  |str b=>obtain⟨t,rfl⟩:=c;exact SeqAt.EqAt.none_str b t
  |_=>exact absurd (show Â=Á from e) XO
 |bl a =>
  cases d;cases x with
  |non=>cases c;exact SeqAt.EqAt.bool_none a
  |bl b=>cases c;exact Ō a b
  |int b=>obtain⟨t,rfl⟩:=c;exact Ő a b t
  |str b=>obtain⟨t,rfl⟩:=c;exact SeqAt.EqAt.bool_str a b t
  |_=>exact absurd (show Â=Á from e) XO
 |int a =>
  obtain⟨t',rfl⟩:=d;cases x with
  |non=>cases c;exact SeqAt.EqAt.int_none a t'
  |bl b=>cases c;exact ŏ a t' b
  |int b=>obtain⟨t,rfl⟩:=c;exact SeqAt.EqAt.int_int a t' b t
  |str b=>obtain⟨t,rfl⟩:=c;exact œ a t' b t
  |_=>exact absurd (show Â=Á from e) XO
 |str a =>
  obtain⟨t',rfl⟩:=d;cases x with
  |non=>cases c;exact SeqAt.EqAt.str_none a t'
  |bl b=>cases c;exact SeqAt.EqAt.str_bool a t' b
  |int b=>obtain⟨t,rfl⟩:=c;exact Œ a t' b t
  |str b=>obtain⟨t,rfl⟩:=c;exact SeqAt.EqAt.str_str a t' b t
  |_=>exact absurd (show Â=Á from e) XO
 |_=>exact absurd (show Â=Á from f) XO
noncomputable def Ao(x:V)(u:Ä):Bool:=match u with
 |.none=>HV .non x
 |.bool b=>HV (.bl b) x
 |.int i _=>HV (.int i) x
 |.str z _=>HV (.str z) x
 |_=>Â
def FV{y:V}{u:Ä}(r:RelV y u)(f:og y=Á):Ao x u=HV y x:=by
 cases y with
 |non=>cases r;rfl
 |bl b=>cases r;rfl
 |int i=>obtain⟨t,rfl⟩:=r;rfl
 |str z=>obtain⟨t,rfl⟩:=r;rfl
 |_=>exact absurd (show Â=Á from f) XO
theorem nN{x:V}:∀{xs:List V} {us:List Ä},Vals xs us->xs.all og=Á->us.any (Ao x)=xs.any λy=>HV y x
 |_,_,.nil,_=>rfl
 |y::xs,u::us,.cons r t,f=>by
  rw[ac8,X8] at f;rw[ZI,ZI,FV r f.1,nN t f.2]
theorem kj{A:ä}{s:Æ}{x:V}{v:Ä}(c:RelV x v)(b:og x=Á):∀{xs:List V} {us:List Ä},Vals xs us->xs.all og=Á->∀u∈us,ũ A s u v (Ao x u)
 |_,_,.nil,_=>λu a=>by cases a
 |y::xs,u::us,.cons r t,f=>λd a=>by
  rw[ac8,X8] at f;rcases Xm.mp a with rfl|a
  .rw[FV r f.1];exact MG r c f.1 b
  .exact kj c b t f.2 d a
def Oz(x:V)(xs:List V):Bool:=xs.any λy=>HV y x
def SH(K:Ã)(neg:Bool):R2:=λx y H Q=>∃p xs,y=.ref p/\(dX K H p xs\/zE K H p xs)/\og x=Á/\xs.all og=Á/\Q (.bl (if neg then !Oz x xs else Oz x xs)) H
def DD:ku X (æ .In) (SH X.K Â):=by
 intro Z2 s Y H x y v u Q I d e h;obtain⟨p,xs,rfl,a,c,fs,q⟩:=h;cases e;rcases a with a|a
 .obtain⟨XV,r,pl,hz⟩:=I.list a;refine ν (Ao x) pl.isList (λw b=>kj d c r fs w ↑b) #[.bl _,H,I,rfl,?_];rw[show XV.toArray.any (Ao x)=XV.any (Ao x) by simp,nN r fs];exact q
 .obtain⟨XV,r,pl,hz⟩:=I.tuple a;refine SeqAt.in_tupleAt (Ao x) pl (λw b=>kj d c r fs w ↑b) #[.bl _,H,I,rfl,?_];rw[show XV.toArray.any (Ao x)=XV.any (Ao x) by simp,nN r fs];exact q
def v7:ku X (æ .NotIn) (SH X.K Á):=by
 intro Z2 s Y H x y v u Q I d e h;obtain⟨p,xs,rfl,a,c,fs,q⟩:=h;cases e;rcases a with a|a
 .obtain⟨XV,r,pl,hz⟩:=I.list a;refine Ũ (Ao x) pl.isList (λw b=>kj d c r fs w ↑b) #[.bl _,H,I,rfl,?_];rw[show XV.toArray.any (Ao x)=XV.any (Ao x) by simp,nN r fs];exact q
 .obtain⟨XV,r,pl,hz⟩:=I.tuple a;refine SeqAt.notIn_tupleAt (Ao x) pl (λw b=>kj d c r fs w ↑b) #[.bl _,H,I,rfl,?_];rw[show XV.toArray.any (Ao x)=XV.any (Ao x) by simp,nN r fs];exact q
def xo:kM X (.builtin "len") (λxs H Q=>∃p ys,xs=[.ref p]/\(dX X.K H p ys\/zE X.K H p ys)/\Q (.int ys.length) H):=by
 intro Z2 s Y H xs us Q I r h;obtain⟨p,ys,rfl,b,q⟩:=h;obtain⟨u,rfl,d⟩:=vals1 r;cases d;have e:=w8;rcases b with b|b
 .obtain⟨XV,c,pl,hz⟩:=I.list b;have a:=c.length;exact Calls.call_len_list pl.isList (by simp only[XR]<;>lia) #[.int ys.length,H,I.tok _,#[s.toks+1,by rw[XR,a]],q]
 .obtain⟨XV,c,pl,hz⟩:=I.tuple b;have a:=c.length;exact len_tuple pl (by simp only[XR]<;>lia) #[.int ys.length,H,I.tok _,#[s.toks+1,by rw[XR,a]],q]
def nH:kM X (.type "list") (λxs H Q=>∃p ys,xs=[.ref p]/\(dX X.K H p ys\/zE X.K H p ys)/\∀l,H l=none->Q (.ref l) (upd H l (.lst ys))):=by
 intro Z2 s Y H xs us Q I r h;obtain⟨p,ys,rfl,d,q⟩:=h;obtain⟨u,rfl,j⟩:=vals1 r;cases j
 have fin:∀(XV:List Ä),Vals ys XV->ys.length<=sizeLine->∀(h':â) (c':Nat),(∀b o',s.heap.get? b=À o'->h'.get? b=À o') ->
   h'.get? s.heap.objs.size=À {cls:=.type "list",dict:=none,data:=.seq XV.toArray c',slots:=#[]}->EP X Z2 Y Q (.ref s.heap.objs.size) {s with heap:=h'}:=λXV a hz h' c' kp e =>
  #[.ref s.heap.objs.size,_,I.laid (t':=s.toks) kp (Xu _) (show b8 X.prog X.w _ h' _ (.lst ys) from #[hz,XV,c',a,e]),rfl,q _ (I.hok.fresh (Xu _))]
 rcases d with d|d
 .obtain⟨XV,a,pl,hz⟩:=I.list d;have c:=a.length;obtain⟨o,f,g,n,i⟩:=pl.isList;exact call_list_seq p (.inl rfl) f g i (λh' c' kp e=>fin XV a hz h' c' kp e) (by simp only[XR]<;>lia)
 .obtain⟨XV,a,pl,hz⟩:=I.tuple d;have c:=a.length;obtain⟨o,f,g,n,i⟩:=pl;exact call_list_seq p (.inr rfl) f g i (λh' c' kp e=>fin XV a hz h' c' kp e) (by simp only[XR]<;>lia)
def R7(K:Ã)(T:String)(x:V)(H:Hp):Prop:=match x with
 |.str _=>T="str"
 |.int _=>T="int"
 |.ref p=>(T="list"/\∃xs,dX K H p xs)\/(T="tuple"/\∃o,K.lookup p=À o/\o.cls=.type "tuple"/\o.dict=none) \/
   (T="dict"/\((∃YP,H p=À (.dK YP))\/∃YP,H p=À (.dT YP)))\/(T="set"/\∃S n,H p=À (.set S n))
 |_=>False
def Eu{Z2:List (Ç×ü)}{Y:St}{H:Hp}{T:String}{v:Ä}(I:Inv X Z2 Y H s)(r:RelV x v)(ty:R7 X.K T x H):
  s.TypeIs v T/\∀a,v=.ref a->∃ob,s.heap.get? a=À ob/\ob.dict=none:=by
 cases x with
 |str z =>
  obtain⟨t,rfl⟩:=r;cases (show T="str" from ty);exact#[typeIs_str s z t,λ_ e=>nomatch e]
 |int i =>
  obtain⟨t,rfl⟩:=r;cases (show T="int" from ty);exact#[ϩ s i t,λ_ e=>nomatch e]
 |ref p =>
  cases r;rcases ty with⟨rfl,xs,f⟩|⟨rfl,o,b,g,d⟩|⟨rfl,b⟩|⟨rfl,S,n,b⟩
  .obtain⟨XV,_,pl,_⟩:=I.list f;refine#[pl.isList.typeIs,λa e=>?_];cases e;obtain⟨o,n,e,c,d,_⟩:=pl;exact#[o,e,d]
  .refine#[#[o,I.LH p o b,g],λa e=>?_];cases e;exact#[o,I.LH _ o b,d]
  .have z:∃o,s.heap.get? p=À o/\o.ExactDict:=by
    rcases b with⟨YP,b⟩|⟨YP,b⟩
    .obtain⟨_,_,_,_,o,_,_,e,ex,_⟩:=I.hok p _ b;exact#[o,e,ex]
    .obtain⟨_,_,_,_,o,_,_,e,ex,_⟩:=I.hok p _ b;exact#[o,e,ex]
   obtain⟨o,e,ex⟩:=z;refine#[#[o,e,ex.1],λa e2=>?_];cases e2;exact#[o,e,ex.2.1]
  .obtain⟨o,_,_,_,e,ex,_⟩:=I.hok p _ b;refine#[#[o,e,ex.1],λa e2=>?_];cases e2;exact#[o,e,ex.2.1]
 |_=>exact Ć ty
def So(K:Ã)(T:String)(r:V->List V->Hp->VK->Prop)(to:TE):TE:=λY H Q=>to Y H λx H1=>R7 K T x H1/\r x [] H1 Q
def Td(K:Ã)(T:String)(r:V->List V->Hp->VK->Prop)(to:TE)(t:TA):TE:=λY H Q=>to Y H λx H1=>R7 K T x H1/\t Y H1 λxs H2=>r x xs H2 Q
variable{o e:Õ}{es:List Õ}{to:TE}{t:TA}{name:Ð}{apos cpos:ò}{T id:String}{r:V->List V->Hp->VK->Prop}
def Ms(j:PlainAttrs T)(slot:Slot T name id)(c:typeOf (.builtin id)=pure (.type "method_descriptor"))(i:RP X id r)(f:PE X o to)
  (b:ĺ o name X.env (Ý o X.env)=Ý o X.env:=by rfl) (a:(apos.endLine==cpos.line)=Á:=by rfl):PE X (.Call (.Attribute o name apos) [] [] cpos) (So X.K T r to):=by
 intro Z2 s Y H Q I h;refine wpAny_Call_method0_late b a (cy (f Z2 s Y H _ I h) λv g ⟨x,H1,d,e,ty,q1⟩=>?_);obtain⟨h1,h2⟩:=Eu d e ty;exact#[T,id,j,slot,c,h1,h2,ŕ rfl (PySem.evalArgs_none (i Z2 g Y H1 x [] v [] Q d e .nil q1))]
def Pg(n:PlainAttrs T)(slot:Slot T name id)(f:typeOf (.builtin id)=pure (.type "method_descriptor"))(w:RP X id r)(k:PE X o to)(ha:PA X (e::es) t)
  (b:ĺ o name X.env (Ý o X.env)=Ý o X.env:=by rfl)
  (d:((ì cpos (Å (e::es) X.env)).all (λx=>!x.1)&&(backToKw cpos (keywordEach [] X.env)).all (λx=>x.1.isSome)
   && decide ((e::es).length+([]:List Τ).length+(if ([]:List Τ).isEmpty then 0 else 1)<30))=Á:=by rfl)
  (c:(apos.endLine==cpos.line)=Á:=by rfl) (y:Å (e::es) X.env=(Â,Ý e X.env)::Å es X.env:=by rfl) (a:(ì cpos (Å es X.env)).any (·.1)=Â:=by rfl):
  PE X (.Call (.Attribute o name apos) (e::es) [] cpos) (Td X.K T r to t):=by
 intro Z2 s Y H Q I h;refine wpAny_Call_method_late b d c rfl (cy (k Z2 s Y H _ I h) λv m ⟨x,H1,j,i,ty,q1⟩=>?_);obtain⟨h1,h2⟩:=Eu j i ty;refine#[T,id,n,slot,f,h1,h2,?_];have g:=ha cpos Z2 m Y H1 _ j q1;rw[y] at g ⊢;refine ŕ (by show(Â || (ì cpos (Å es X.env)).any (·.1))=Â;rw[a]<;>rfl) (Calls.evalArgs_plain ?_);exact cy g λus p ⟨vs,H2,q,u,l⟩=>w Z2 p Y H2 x vs v us Q q i u l
end
def Tc(X:Cx)(id:String)(r:V->List V->Hp->VK->Prop):Prop :=
 ∀(Z2:List (Ç×ü)) (s:Æ) (Y:St) (H:Hp) (x:V) (xs:List V) (v:Ä) (us:List Ä) (Q:VK),Inv X Z2 Y H s->RelV x v->Vals xs us->r x xs H Q ->
  Î .F X.A (call (.builtin id) (v::us)) (EP X Z2 Y Q) X.xe s
def Vals.one:∀{x:V} {us:List Ä},Vals [x] us->∃u,us=[u]/\RelV x u
 |_,_,.cons r .nil=>#[_,rfl,r]
theorem Vals.rep{xs:List V}{us:List Ä}(h:Vals xs us):∀k:Nat,Vals (Ê k xs).flatten (Ê k us).flatten
 |0=>.nil
 |k+1=>by
  rw[YW,YW,ZT,ZT];exact Vals.append h (Vals.rep h k)
theorem foldl_rep(XV:List Ä):∀(k:Nat) (a:List Ä),
  ż (λc b=>c++b) a.toArray (Ê k XV.toArray)=(a++(Ê k XV).flatten).toArray
 |0,a=>by simp
 |k+1,a=>by
  have e:a.toArray++XV.toArray=(a++XV).toArray:=by simp
  have e2:(a++XV)++(Ê k XV).flatten=a++(Ê (k+1) XV).flatten:=by
   rw[YW,ZT,Yo]
  rw[<-e2,<-foldl_rep XV k (a++XV),<-e,YW,acK]
section
variable{X:Cx}{Z2:List (Ç×ü)}{Y:St}{H:Hp}{s:Æ}{l b:Ç}{xs ys zs:List V}
def Inv.Q7{its':List Ä}{f:Array Ä->Array Ä}{t':Nat}(I:Inv X Z2 Y H s)(b:H l=À (.lst xs))
  (e:s.heap.get? l=À {cls:=.type "list",data:=.seq XV.toArray n}) (d:f XV.toArray=its'.toArray) (a:Vals ys its') (hz:ys.length<=sizeLine):
  Inv X Z2 Y (upd H l (.lst ys)) {s with heap:=s.heap.update l (Ú f),toks:=t'}:=by
 have q:=PySem.IsL.update e f;rw[d] at q;refine I.write (x:=l) (e:=l) (by rw[b];exact trivial) (.inl rfl) (λb' u c g=>(Ř s.heap (Ú f) (Z5 c)).trans g) #[_,q] ?_;exact#[hz,its',_,a,q]
def Inv.IK{t':Nat}(I:Inv X Z2 Y H s)(a:Vals ys XV)(hz:ys.length<=sizeLine):
  Inv X Z2 Y (upd H s.heap.objs.size (.lst ys)) {s with heap:=s.heap.push {cls:=.type "list",data:=.seq XV.toArray},toks:=t'} :=
 I.laid (λ_ _ q=>Xw _ q) (Xu _) #[hz,XV,0,a,XN _ rfl]
def Inv.fresh(I:Inv X Z2 Y H s):H s.heap.objs.size=none:=I.hok.fresh (Xu _)
def Inv.II(I:Inv X Z2 Y H s)(a:H l=À (.lst xs)):xs.length<=sizeLine/\∃(XV:List Ä) (n:Nat),Vals xs XV/\xs.length=XV.length/\s.heap.get? l=À {cls:=.type "list",data:=.seq XV.toArray n}:=by
 obtain⟨z,XV,n,r,e⟩:=I.hok l _ a;exact#[z,XV,n,r,r.length,e]
def Eh(h:n<=sizeLine):ě n=Â:=by
 unfold ě;exact X1 .b
def IX:V->List V->Hp->VK->Prop:=λx vs H Q=>∃l xs y,x=.ref l/\vs=[y]/\H l=À (.lst xs)/\xs.length<sizeLine/\Q .non (upd H l (.lst (xs++[y])))
def uA:Tc X "list.append" IX:=by
 intro Z2 s Y H x vs v us Q I c b h;obtain⟨l,xs,y,rfl,rfl,a,hz,q⟩:=h;cases c;obtain⟨u,rfl,d⟩:=b.one;obtain⟨z,XV,n,r,f,e⟩:=I.II a;refine Ϭ F.slot_list_append #[_,e,rfl] F.entry_list_append (F.args_list_append_2 _ _) (PySem.list_append l XV.toArray n u (by rw[XR];lia)) #[e,?_];refine#[.non,_,I.Q7 (its':=XV++[u]) a e .c (r.append (.cons d .nil)) ?_,rfl,q];rw[XQ,abA];lia
def Q4:R2:=λx y H Q=>∃l b xs zs,x=.ref l/\y=.ref b/\H l=À (.lst xs)/\H b=À (.lst zs)/\xs.length+zs.length<=sizeLine/\∀p,H p=none->Q (.ref p) (upd H p (.lst (xs++zs)))
def MX:ku X (ď .Add) Q4:=by
 intro Z2 s Y H x y v u Q I i d h;obtain⟨l,b,xs,zs,rfl,rfl,c,g,hz,q⟩:=h;cases i;cases d;obtain⟨z,XV,n,r,o,e⟩:=I.II c;obtain⟨p,a,m,j,k,e2⟩:=I.II g;refine PySem.P.add_list e e2 ?_ (by rw[XR,XR];lia);have f:XV.toArray++a.toArray=(XV++a).toArray:=by simp
 rw[f];exact#[.ref _,_,I.IK (t':=s.toks) (r.append j) (by rw[XQ];lia),rfl,q _ I.fresh]
def Ra:R2:=λx y H Q=>∃l k xs,x=.ref l/\y=.int k/\H l=À (.lst xs)/\-(2^63)<=k/\k<2^63/\xs.length*k.toNat<=sizeLine /\
 ∀p,H p=none->Q (.ref p) (upd H p (.lst (Ê k.toNat xs).flatten))
def len_rep{M:Type}(xs:List M)(k:Nat):(Ê k xs).flatten.length=k*xs.length:=by
 induction k with
 |zero=>simp
 |succ k a=>rw[YW,ZT,XQ,a,Nat.succ_mul,Nat.add_comm]
def Hj:ku X (ď .Mult) Ra:=by
 intro Z2 s Y H x y v u Q I A p h;obtain⟨l,k,xs,rfl,rfl,o,h1,h2,hz,q⟩:=h;cases A;obtain⟨t,rfl⟩:=p;obtain⟨z,XV,n,r,B,e⟩:=I.II o;have c:XV.toArray.size*k.toNat<=sizeLine:=by rw[XR,<-B];exact hz
 have g:¬XV.toArray.size*k.toNat>(2^63-1)/8:=by
  have:(sizeLine:Nat)<=(2^63-1)/8:=by decide
  lia
 have f:¬(!Builtin.List.listFitsIndex k)=Á:=by
  rw[fitsIndex_both h1 h2];exact XO
 have b:¬ě (XV.toArray.size*k.toNat)=Á:=by
  rw[Eh c];exact XO
 have d:ż (λj i=>j++i) #[] (Ê (if XV.toArray.isEmpty=Á then 0 else k.toNat) XV.toArray)=(Ê k.toNat XV).flatten.toArray:=by
  have w:∀m:Nat,ż (λj i=>j++i) #[] (Ê m XV.toArray)=(Ê m XV).flatten.toArray:=λm=>by
   have:=foldl_rep XV m [];rw[aaF] at this;exact this
  rw[w];cases XV with
  |nil=>simp
  |cons a C=>rw[Xl .c]
 refine wpAny_binaryOp_repeat_ref (T:="list") (U:="int") .a #[_,e,rfl] (λs'=>ϩ s' k t) noFill_list_mul F.fills_int_mul F.slot_int_rmul repeat_list F.slot_int_index.lookup
  (Ϭ F.slot_int_rmul (ϩ s k t) F.entry_int_rmul (F.args_int_rmul_2 _ _) (int___rmul___int_list k t l XV.toArray n)
   #[e,rfl,#[_,e,rfl],Ϭ F.slot_list_mul #[_,e,rfl] F.entry_list_mul (F.args_list_mul_2 _ _) (AutoListH.list___mul___list_int_3 l XV.toArray n k t f g b) #[e,?_]])
 rw[d];exact#[.ref _,_,I.IK (t':=s.toks) (r.rep k.toNat) (by rw[len_rep,Nat.mul_comm];exact hz),rfl,q _ I.fresh]
variable{prog:Ñ}{w:Û}{A:ä}{E:Ä->Æ->Prop}
end
end L2
namespace Att
open PySem PySem.W PySem.Calls PyProof.Rows
def qA{P:Params}{h:â}:∀(ns:List Int) (vs:List Ä),WellAll P h vs (ns.map WData.int)->ó vs ns:=by
 intro ns
 induction ns with
 |nil =>
  intro vs w;rw[aaQ] at w;cases w;exact .nil
 |cons n ns c =>
  intro vs w;rw[X3] at w;cases w with
  |cons a b =>
   cases a;exact .cons _ _ (c _ b)
def C_{l:OpenLaw}{n:Nat}(s:l.most=À n){P:Params}{h:â}{args:List WData}{vals:List Ä}
  (b:l.row.toRowW.claim.pre args=Á) (i:WellAll P h vals args):
  ∃a vs ns,vals=[ÿ a]/\args=[WData.list (ns.map WData.int)]/\h.get? a=À {cls:=.type "list",data:=.seq vs.toArray}/\ó vs ns/\ns.length<=n:=by
 have j:WShape.hasAll [] args [.list .int]=Á:=(pre_splitW b).1;have k:l.pre.holds [] {args:=args}=Á:=(pre_splitW b).2;obtain⟨d,r,rfl,h1,h2⟩:=hasAllW_cons j;obtain rfl:=hasAllW_nil h2;obtain⟨xs,rfl,o⟩:=hasW_list h1;obtain⟨ns,rfl⟩:=items_int o
 have c:ns.length<=n:=by
  unfold OpenLaw.pre at k
  have f:(WTm.not (.lt (.lit (.int (n:Int))) (.len (.arg 0)))).holds [] {args:=[.list (ns.map .int)]}=Á:=by
   have f:=(holds_andW k).1;rw[s] at f;exact f
  have g:=condW_of f (w_not (w_lt w_lit (w_len_list (w_arg rfl))));rw[Xv] at g;refine acs λq=>?_;have q':(n:Int)<((ns.length:Nat):Int):=by omega
  first
   |(rw[XY q'] at g;exact absurd g .a)
   |(simp at g;omega)
 cases i with
 |cons p t =>
  cases t;cases p with
  |list m e=>exact#[_,_,ns,rfl,rfl,m,qA ns _ e,c]
def Dy(l:OpenLaw)(args:List WData):l.row.toRowW.claim.post args (.bool Á) args=Á :=
 postW_of (r:=l.row.toRowW) (X:=(Á==Á))
  (show WShape.has [] (.bool Á) .bool=Á by first|rfl|decide|simp[WShape.has,WShape.arms,WShape.armsAll])
  (show(WTm.eq .res (.lit (.bool Á))).value [] {args:=args,res:=À (.bool Á),after:=args}=À (.bool (Á==Á)) from w_eq_bool (w_res rfl) w_lit) rfl
def yA{l:OpenLaw}{n:Nat}{q:Ñ}{loose:List Ð}{y:(Ð->Option Ä)->â->Prop}{x:Û->â->Prop}{d:DefRec}
  (I:l.most=À n) (i:d.params.defaults=[])
  (call:∀(w:Û) (s b:Æ) (mg k:Ð->Option Ä) (e:Ç) (o:ü) (m cd doc:Ä) (a:Ç) (vs:List Ä) (ns:List Int),
   Ground q loose [] y w s mg k b.heap->x w b.heap ->
   b.heap.get? e=À o->o.data=.func (docDef d.name d.params d.body d.scope m cd doc)->b.heap.CodeRec cd d.name->mg d.name=À (.ref e) ->
   b.heap.get? a=À {cls:=.type "list",data:=.seq vs.toArray}->ó vs ns->ns.length<=n->b.gens=#[] ->
   Ĝ (È l.prog w) ĵ (.call (.ref e) #[[.ref a],[]]) (λr s'=>r=.ok (.ret (.bool Á))/\OldK b.heap s'.heap/\s'.os=b.os/\Į s'.gens) b):
  WalkO q loose y x l.row.toRowW d [] (λf vs=>Ū f vs):=by
 intro w s b mg k G σ e o m cd doc F kV D K j u t A args vals as g v C p H;obtain rfl:F=.none:=Dflts.none u i;obtain rfl:kV=.none:=Dflts.noKw u;obtain⟨a,vs,ns,rfl,rfl,h,hints,c⟩:=C_ I g p;refine enter_call (aa_ (call w s b mg k e o m cd doc a vs ns G σ D (fd_plain K) j t h hints c A) λr s' B=>?_);obtain⟨rfl,h2,E,z⟩:=B;exact#[.inl #[.bool Á,.bool Á,[],rfl,λ_=>rfl,.bool Á,Dy l _,λ_=>#[ō,λ_ J=>(nomatch J)]],h2,E,z]
section
variable{prog:Ñ}{w:Û}{A:ä}{E:Ä->Æ->Prop}{s:Æ}{K:Frag}
end
end Att
namespace L2
open PySem PySem.Spec PyProof.Rows
variable{x qual:Ð}{n k:Nat}{K:Ã}{X:Cx}{f:Ç}{H:Hp}{env:Ł}{c:Int}
theorem uK:∀{vs:List Ä} {ns:List Int},ó vs ns->Vals (ns.map V.int) vs
 |_,_,.nil=>.nil
 |_,_,.cons n t h=>.cons #[t,rfl] (uK h)
def Jl(H:Hp):Prop:=∀b,H b=none\/∃o xs,H b=À (.frz o (.lst xs))
def F3{P:Ñ}{w:Û}{mg C:Ð->Option Ä}{CX:DT}{I a:Ç}{fd:ð}{sp:Sp}{c:Æ}{vs:List Ä}{ns:List Int}
  (N:K.In c.heap) (y:c.heap.Ns Í mg) (f:c.heap.Ns ϭ C) (α:∀x:Ð,x≠"__name__"->C x=ė x) (A:c.heap.NoLimit) (Γ:c.gens=#[])
  (ha:c.heap.get? a=À {cls:=.type "list",data:=.seq vs.toArray}) (hi:ó vs ns) (R:ns.length<=sizeLine) (hr:dZ k ĵ)
  (F:∀base:â,K.In base->base.Ns Í mg->⇑fR CX k I fd [x] sp) (i:∀(s:Æ) (u:Ä),ķ s fd #[[u],[]] [(x,u)])
  (L:∀H:Hp,Jl H->dX K H a (ns.map V.int)->sp [.ref a] H (λv _=>v=.bl Á) λ_ _ _=>False)
  (J:∀H e s',CX [] H c (λ_ _ _=>False) e s'->False):
  Ĝ (È P w) ĵ (.call (.ref I) #[[.ref a],[]]) (λr s'=>r=.ok (.ret (.bool Á))/\OldK c.heap s'.heap/\s'.os=c.os/\Į s'.gens) c:=by
 have Q:=uK hi;have B:=hi.length
 -- from an abstract heap in which nothing but the script may be tracked
 have core:∀H:Hp,Jl H->dX K H a (ns.map V.int)->lL P w H c.heap->(∀b,H b≠none->b=a)->(H a≠none->K.lookup a=none) ->
   Ĝ (È P w) ĵ (.call (.ref I) #[[.ref a],[]]) (λr s'=>r=.ok (.ret (.bool Á))/\OldK c.heap s'.heap/\s'.os=c.os/\Į s'.gens) c:=by
  intro H O W j S hK;have base_of:∀{b:Ç} {o:ü},c.heap.get? b=À o->H b=none->(xB c.heap H).get? b=À o:=λe n=>E7 e n
  have D:∀{b:Ç} {o:ü} {es:Array DictEntry} {ep:Nat},c.heap.get? b=À o->o.data=.dict es ep->H b=none:=λ{b o es ep} e d=>by
   cases q:H b with
   |none=>rfl
   |some u =>
    have G:b=a:=S b (by rw[q];simp);subst G;rw[ha] at e;cases e;have d':Data.seq vs.toArray _=Data.dict es ep:=d;cases d'
  have g:∀{b:Ç} {m:Ð->Option Ä},c.heap.Ns b m->(xB c.heap H).Ns b m:=λ{b m} ⟨o,es,ep,e,d,r⟩=>#[o,es,ep,base_of e (D e d),d,r]
  have p:K.In (xB c.heap H):=λb o e=>base_of (N b o e) (by
   cases q:H b with
   |none=>rfl
   |some u =>
    have G:b=a:=S b (by rw[q];simp);subst G
    rw[hK (by rw[q];simp)] at e;cases e)
  have Z:Mod K mg (xB c.heap H):=#[p,g y,#[C,g f,α],let #[mc,h1,h2]:=A;#[mc,g h1,h2]];have T:IE P w K mg (xB c.heap H) ĵ [] c H:=#[rfl,Z,λb o e=>Jx e,abF (Dj _ _),trivial,λb f=>absurd (show b∈([]:List Ç) from f) .c,j,.of_eq Γ];refine aa_ ((F _ p (g y)).run ĵ [] c H #[[.ref a],[]] [.ref a] [.ref a] _ _ hr T (i c (.ref a)) (.cons rfl .nil) (L H O W)) λr s' h=>?_;cases r with
  |error e=>exact(J H e s' h).elim
  |ok X =>
   cases X with
   |next=>exact Ć h
   |brk=>exact Ć h
   |cont=>exact Ć h
   |ret u =>
    obtain⟨v,H',os,bare,un,t,σ,q⟩:=h;have q':v=.bl Á:=q;subst q';obtain rfl:u=ŋ Á:=σ;refine#[rfl,OldK.of_keep λb o e=>?_,os,bare];cases q:H b with
    |none=>exact un.keep b o e q (by intro z;exact absurd (show b∈([]:List Ç) from z) .c) .c
    |some u =>
     rcases O b with z|⟨ob,xs,z⟩
     .rw[q] at z;cases z
     .have z2:=un.frzs b ob _ z;obtain⟨e1,_⟩:=j b _ z;obtain⟨e2,_⟩:=t b _ z2;rw[e] at e1;cases e1;exact e2
 cases E:K.lookup a with
 |some o =>
  -- the script is one of the module's own objects
  have e:=N a o E;rw[ha] at e;cases e;refine core (λ_=>none) (λ_=>.inl rfl) (.inr #[_,vs.toArray,_,E,rfl,rfl,rfl,by rw[XR,B];exact R,↑Q]) (λb u z=>by have l:(none:Option HO)=À u:=z;cases l) (λb z=>absurd rfl z) λz=>absurd rfl z
 |none =>
  refine core (λb=>if b=a then À (.frz {cls:=.type "list",data:=.seq vs.toArray} (.lst (ns.map V.int))) else none) (λb=>?_) (.inl (.inr #[{cls:=.type "list",data:=.seq vs.toArray},Xo rfl])) (λb u z=>?_) (λb z=>?_) λ_=>E
  .by_cases f:b=a
   .exact .inr #[_,_,Xo f]
   .exact .inl (Xl f)
  .by_cases f:b=a
   .have l:=(Xo f).symm.trans z;cases l;subst f;exact#[ha,by rw[Xv];exact R,vs,_,Q,ha]
   .have l:=(Xl f).symm.trans z;cases l
  .by_cases f:b=a
   .exact f
   .exact absurd (Xl f) z
abbrev qX{h:â}(_:K.In h):Ã:=K
def Jn{l:Ÿ}{q:Ñ}{loose:List Ð}{P:(Ð->Option Ä)->â->Prop}{A:Û->â->Prop}{d:DefRec}{K:Params->Ã}{CX:Û->DT}{sp:Û->Sp}
  (α:l.most=À n) (p:n<=sizeLine) (m:d.params.defaults=[]) (N:dZ k ĵ)
  (C:∀(w:Û) (h:â),A w h->(K w.params).In h)
  (F:∀(w:Û) (mg:Ð->Option Ä) (j:Ç) (h:â),(K w.params).In h->h.Ns Í mg->mg d.name=À (.ref j) ->
   ∃fd:ð,(∀(s:Æ) (u:Ä),ķ s fd #[[u],[]] [(x,u)]) /\
    ∀base:â,(K w.params).In base->base.Ns Í mg->fR l.prog w (K w.params) mg base (CX w) k j fd [x] (sp w))
  (y:∀(w:Û) (H:Hp) (a:Ç) (ns:List Int),ns.length<=n->Jl H->dX (K w.params) H a (ns.map V.int)->sp w [.ref a] H (λv _=>v=.bl Á) λ_ _ _=>False)
  (r:∀(w:Û) (H:Hp) (s:Æ) (e:Ä) (s':Æ),CX w [] H s (λ_ _ _=>False) e s'->False):
  ξ q loose P A l.row.toRowW d [] (λf vs=>Ū f vs):=by
 refine Att.yA α m λw Γ E mg R j o S cd doc a vs ns G σ Q X D t i hints c B=>?_;have z:=C w _ σ;obtain⟨fd,J,O⟩:=F w mg j _ z G.T.g t;exact F3 z G.T.g G.T.b G.T.builtins G.T.nolimit B i hints (Ye c p) N O J (λH L I=>y w H a ns c L I) λH e s'=>r w H E e s'
def HD{l:Ÿ}{q:Ñ}{loose:List Ð}{y:(Ð->Option Ä)->â->Prop}{m:Û->â->Prop}{d:DefRec}{K:Params->Ã}{CX:DT}{sp:Ã->Sp}
  (r:l.most=À n) (c:n<=sizeLine) (b:d.params.defaults=[]) (t:dZ k ĵ)
  (o:∀(w:Û) (h:â),m w h->(K w.params).In h)
  (F:∀(w:Û) (mg:Ð->Option Ä) (j:Ç) (h:â),(K w.params).In h->h.Ns Í mg->mg d.name=À (.ref j) ->
   ∃fd:ð,(∀(s:Æ) (u:Ä),ķ s fd #[[u],[]] [(x,u)]) /\
    ∀base:â,(K w.params).In base->base.Ns Í mg->fR l.prog w (K w.params) mg base CX k j fd [x] (sp (K w.params)))
  (i:∀(K:Ã) (H:Hp) (a:Ç) (ns:List Int),ns.length<=n->Jl H->dX K H a (ns.map V.int)->sp K [.ref a] H (λv _=>v=.bl Á) λ_ _ _=>False)
  (g:∀(H:Hp) (s:Æ) (e:Ä) (s':Æ),CX [] H s (λ_ _ _=>False) e s'->False):
  ξ q loose y m l.row.toRowW d [] (λf vs=>Ū f vs) :=
 Jn (K:=K) (CX:=λ_=>CX) (sp:=λw=>sp (K w.params)) r c b t o F (λw H a ns h1 h2 p=>i (K w.params) H a ns h1 h2 p) λ_ H s e s'=>g H s e s'
noncomputable def d9(s:Ò):Arguments:=match s with
 |.FunctionDef _ a _ _ _ _ _ _ _ _=>a
 |_=>{posonlyargs:=[],args:=[],vararg:=none,kwonlyargs:=[],kw_defaults:=[],kwarg:=none,defaults:=[]}
noncomputable def cb(s:Ò):List Ò:=match s with
 |.FunctionDef _ _ b _ _ _ _ _ _ _=>b
 |_=>[]
noncomputable def ag(s:Ò):Ĉ:=match s with
 |.FunctionDef _ _ _ _ _ _ a _ _ _=>a
 |_=>{kind:=.function,names:=[],isGenerator:=Â,isCoroutine:=Â}
abbrev pN:DT:=λ_ _ _ _ _ _=>False
abbrev E0:XK:=λ_ _ _=>False
def lE:Passes pN X E0:=λ_ _ _ _ _ _ _ h=>h.elim
structure t6(K:Ã)(x qual:Ð)(st:Ò)(f:Ç)(fd:ð):Prop where
 ex:∃(oc:Ä) (od:Option Ç) (kV doc pm:Ä) (an:Option Ç) (cdv ct:Ä) (osl:Array (Option Ä)),
  fd=ê x qual (d9 st) (cb st) (ag st) .none kV doc pm an cdv ct/\K.lookup f=À #[oc,od,.func fd,osl]/\ĩ K cdv qual=Á
 kp:č K (.ref f)=Á
section
variable{P:Ñ}{w:Û}{K:Ã}{mg:Ð->Option Ä}{base:â}
def t6.ok{st:Ò}{fd:ð}{N ps:List Ð}{sp:Sp}(F:t6 K x qual st f fd)(S:ao N ps (ag st))(len:∀vs H Q E,sp vs H Q E->vs.length=ps.length)
  (b:∀(a:Ä) (A:ä) (outer:List Ł) (s:Æ) (H:Hp) (vs:List V) (Q:VK) (E:XK),dZ k (A.deeper (ġ qual (ag st) s.heap.objs.size f a))->sp vs H Q E ->
   ∃t,rh (uh pN P w K mg base N qual (ag st) f a A outer s H E).KO (cb st) t/\t {nx:=λ_ H'=>Q .non H',rt:=Q} (start N vs) H):⇑fR pN (k+1) f fd ps sp:=by
 obtain⟨m,od,kV,doc,l,j,a,ct,g,rfl,e,c⟩:=F.ex;refine Pa e c S len λA outer s H vs Q E i d=>?_;obtain⟨t,h,q⟩:=b a A outer s H vs Q E i d;exact#[t,h.KO,q]
def t6.binds{st:Ò}{fd:ð}{ps:List Ð}(F:t6 K x qual st f fd)
  (h:∀(kV doc c:Ä) (b:Option Ç) (a ct:Ä) (us:List Ä),us.length=ps.length->ī (ê x qual (d9 st) (cb st) (ag st) .none kV doc c b a ct) #[us,[]]=pure (ps.zip us)):Binds K fd ps []:=by
 obtain⟨i,od,kV,doc,c,b,a,ct,d,rfl,g,e⟩:=F.ex;exact .all (h kV doc c b a ct)
def MC{st:Ò}{g:Ä}{od d:Option Ç}{b:Array (Option Ä)}{kV doc e a ct:Ä}(l:K.lookup f=À #[g,od,.func (ê x qual (d9 st) (cb st) (ag st) .none kV doc e d a ct),b])
  (c:ĩ K a qual=Á) (k:č K (.ref f)=Á):t6 K x qual st f (ê x qual (d9 st) (cb st) (ag st) .none kV doc e d a ct):=#[#[g,od,kV,doc,e,d,a,ct,b,rfl,l,c],k]
end
def dc(h:n<=1000):n<sizeLine:=aaG h .a
section
variable{X:Cx}
def pv(i:Nat){pos:ò}(d:autoParam (X.N[i]?=À x) zra)(b:Iy X.env.scope x:=by first|exact Ă rfl|exact ñ (Ă rfl)|exact ñ (ñ rfl))(c:autoParam ((x==("__debug__":Ð))=Â) zrb)
  (a:(x==("__classdict__":Ð))=Â:=by decide):PE X (.Name x pos) (P2 i):=Nb d b c a
end
def t9{A B:Prop}(h:B):if Â=Á then A else B:=by
 rw[Xl XO];exact h
def t_{A B:Prop}(h:A):if Á=Á then A else B:=by
 rw[Xo rfl];exact h
def aG(H H':Hp):Prop:=∀b o,H b=À o->H' b=À o
def aG.refl(H:Hp):aG H H:=λ_ _ h=>h
def aG.trans{H1 H2:Hp}(a:aG H H1)(b:aG H1 H2):aG H H2:=λc o h=>b c o (a c o h)
def aG.free{H':Hp}(e:aG H H'){l:Ç}(h:H' l=Ϯ):H l=Ϯ:=by
 cases q:H l with
 |none=>rfl
 |some o =>
  rw[e l o q] at h;cases h
def aG.seq{H':Hp}{a:Ç}{xs:List V}(e:aG H H')(h:dX K H a xs):dX K H' a xs:=by
 rcases h with(h|⟨o,h⟩)|h
 .exact .inl (.inl (e _ _ h))
 .exact .inl (.inr #[o,e _ _ h])
 .exact .inr h
def Il(a:List (Ð×Ç)):Prop:=∀x y c,a.lookup x=À c->a.lookup y=À c->x=y
def a8{M:Type}{n:Ð}{a c:M}{r:List (Ð×M)}(h:ļ x ((n,a)::r)=À c):(x=n/\a=c)\/(x≠n/\r.lookup x=À c):=by
 rw[Z8] at h;cases b:x==n with
 |true=>rw[b] at h;cases h;exact .inl #[abh.mp b,rfl]
 |false=>rw[b] at h;exact .inr #[(λz=>by(rw[z,aaV] at b;cases b)),h]
theorem BG:∀(names:List (Ð×ï)) (n:Nat) (d:List (Ð×Ç)),Il d->(∀x c,d.lookup x=À c->c<n) ->
  Il (ë n names d)/\∀x c,(ë n names d).lookup x=À c->d.lookup x=À c\/n<=c
 |[],_,_,hi,_=>#[hi,λ_ _ h=>.inl h]
 | (y,k) :: r,n,d,hi,g=>by
  unfold ë;by_cases i:(k==ã)=Á
  .rw[Xo i]
   have h1:Il ((y,n)::d):=λa b c e1 e2=>by
    rcases a8 e1 with⟨q1,f⟩|⟨q1,f⟩<;>rcases a8 e2 with⟨j,p2⟩|⟨j,p2⟩
    .rw[q1,j]
    .exact absurd (g _ _ p2) (by rw[<-f];exact Ϸ _)
    .exact absurd (g _ _ f) (by rw[<-p2];exact Ϸ _)
    .exact hi a b c f p2
   have h2:∀x c,ļ x ((y,n)::d)=À c->c<n+1:=λx c e=>by
    rcases a8 e with⟨_,f⟩|⟨_,f⟩
    .rw[<-f];exact ZJ _
    .exact Y5 (g _ _ f)
   obtain⟨m,l⟩:=BG r (n+1) ((y,n)::d) h1 h2;refine#[m,λx c e=>?_];rcases l x c e with q|q
   .rcases a8 q with⟨_,f⟩|⟨_,f⟩
    .exact .inr (abF f)
    .exact .inl f
   .exact .inr (abm q)
  .rw[Xl i];exact BG r n d hi g
theorem wF:∀(names:List (Ð×ï)) (h:â) (a:List (Ð×Ç)) (x:Ð) (c:Ç),(ë h.objs.size names a).lookup x=À c->a.lookup x=À c\/(pushCells h names).IsCell c none
 |[],_,_,_,_,e=>.inl e
 | (y,k) :: r,h,a,x,c,e=>by
  unfold ë at e;unfold pushCells;by_cases d:(k==ã)=Á
  .rw[Xo d] at e ⊢;have f:(ë (h.push {cls:=.type "cell",data:=.cell none}).objs.size r ((y,h.objs.size)::a)).lookup x=À c:=by rw[ZL];exact e
   rcases wF r (h.push {cls:=.type "cell",data:=.cell none}) ((y,h.objs.size)::a) x c f with q|q
   .rcases a8 q with⟨_,b⟩|⟨_,b⟩
    .refine .inr ?_;subst b;exact#[_,acL _ _ _ _ (XN _ rfl),rfl]
    .exact .inl b
   .exact .inr q
  .rw[Xl d] at e ⊢;exact wF r h a x c e
theorem wJ:∀(names:List (Ð×ï)) (n:Nat) (a:List (Ð×Ç)) (x:Ð),(∀y∈names,y.1=x->y.2≠.cell)->(ë n names a).lookup x=a.lookup x
 |[],_,_,_,_=>rfl
 | (y,k) :: r,n,a,x,h=>by
  unfold ë;by_cases b:(k==ã)=Á
  .rw[Xo b,wJ r (n+1) _ x λz hz=>h z (Xx _ hz),Z8]
   have d:(x==y)=Â:=by
    cases c:x==y with
    |false=>rfl
    |true=>exact absurd ↑b (h (y,k) XA (abh.mp c).symm)
   rw[d]
  .rw[Xl b];exact wJ r n a x λz hz=>h z (Xx _ hz)
noncomputable def gi(env:Ł):List (Ð×ï)->List (Ð×Ç)->List (Ð×Ç)
 |[],a=>a
 |(n,k)::r,a=>gi env r (if k==.free then (n,(env.cells.lookup n).getD 0)::a else a)
theorem BE{env:Ł}:∀(names:List (Ð×ï)) (b:List (Ð×Ç)),(∀x∈names,x.2=.free->∃c,env.cells.lookup x.1=À c) ->
  (forIn names b λx cs=>(if (x.2==á)=Á then (do let a <-cellOf env x.1;pure (ĉ ((x.1,a)::cs))) else pure (ĉ cs):ĸ (ForInStep (List (Ð×Ç)))))=pure (gi env names b)
 |[],_,_=>rfl
 | (n,k) :: r,b,h=>by
  rw[ϑ];have g:=λb=>BE r b λx i=>h x (Xx _ i);unfold gi;by_cases f:(k==á)=Á
  .obtain⟨c,j⟩:=h (n,k) XA ↑f;have d:env.cells.lookup n=À c:=j;have e:cellOf env n=pure c:=by unfold cellOf;rw[d]
   simp only[f,aaC,e,d,Ź,pure_bind];exact g _
  .simp only[f,Z6,pure_bind];exact g _
def jL{ZB:Ĉ}(h:∀x∈ZB.names,x.2=.free->∃c,env.cells.lookup x.1=À c):closureFor ZB env=pure (gi env ZB.names []):=by
 have:=BE (env:=env) ZB.names [] h;unfold closureFor;simp only[bind_pure_comp]
 first|exact this|simpa using this
theorem dH{env:Ł}{x:Ð}:∀(names:List (Ð×ï)) (a:List (Ð×Ç)) (c:Ç),(∀y∈names,y.2=.free->∃c,env.cells.lookup y.1=À c)->(gi env names a).lookup x=À c->a.lookup x=À c\/env.cells.lookup x=À c
 |[],_,_,_,e=>.inl e
 | (n,k) :: r,a,c,h,e=>by
  unfold gi at e;have i:=λa=>dH (x:=x) r a c λy j=>h y (Xx _ j);by_cases f:(k==á)=Á
  .rw[Xo f] at e;rcases i _ e with q|q
   .rcases a8 q with⟨q1,d⟩|⟨_,d⟩
    .obtain⟨c',g⟩:=h (n,k) XA ↑f;have b:env.cells.lookup n=À c':=g;rw[b] at d;right;rw[q1,b];exact congrArg À d
    .exact .inl d
   .exact .inr q
  .rw[Xl f] at e;exact i _ e
theorem rX{env:Ł}{x:Ð}:∀(names:List (Ð×ï)) (a:List (Ð×Ç)),((x,á)∈names\/∃c,a.lookup x=À c)->∃c,(gi env names a).lookup x=À c
 |[],_,h=>h.elim (λz=>nomatch z) id
 | (n,k) :: r,a,h=>by
  unfold gi;refine rX r _ ?_;rcases h with h|⟨c,h⟩
  .rcases Xm.mp h with e|h
   .cases e;right;rw[Xo .a];exact#[_,by rw[Z8,aaV]]
   .exact .inl h
  .right;split
   .rw[Z8];split
    .exact#[_,rfl]
    .exact#[c,h]
   .exact#[c,h]
noncomputable def iS(X:Cx)(N:List Ð)(ZB:Ĉ)(C:Ç)(s:Æ)(H:Hp)(fp:List Ç):Cx where
 prog:=X.prog
 w:=X.w
 K:=X.K
 mg:=X.mg
 base:=X.base
 A:=X.A
 N:=N
 s₀:=s
 H₀:=H
 env:={scope:=ň ZB X.env,locals:=C,globals:=X.env.globals,cells:=ë (C+1) ZB.names (gi X.env ZB.names []),qual:=X.env.qual,func:=none,code:=X.env.code,frame:=X.env.frame,builtins:=X.env.builtins}
 outer:=X.stack
 stack:=X.stack
 ex:=fp
 fn:=λx=>match ZB.names.lookup x with|some .cell=>Á|_=>Â
 calm:=X.calm
 pn:=[]
 xe:=λ_ _=>False
theorem fD{env:Ł}:∀{names:List (Ð×ï)} {x:Ð} {k:ï},(names.map fun(n,k)=>if (k==á&&env.scope.kind==.function&&env.kindOf n==À .cell) then (n,ã) else (n,k)).lookup x=À k ->
  ∃d,names.lookup x=À d/\(k=d\/d=.free)
 |[],_,_,h=>by simp at h
 | (n,q) :: r,x,k,h=>by
  rw[X3] at h;have h':ļ x ((if (q==á&&env.scope.kind==.function&&env.kindOf n==À .cell)=Á then (n,ã) else (n,q))::_)=À k:=h;have a:∀b:Bool,(if b=Á then (n,ã) else (n,q))=(n,if b=Á then ã else q):=λb=>by cases b<;>rfl
  rw[a] at h';rw[Z8];rcases a8 h' with⟨e1,e2⟩|⟨e1,e2⟩
  .rw[e1,aaV];refine#[q,rfl,?_];rw[<-e2];by_cases c:(q==á&&env.scope.kind==.function&&env.kindOf n==À .cell)=Á
   .right;have:=(YQ.mp (YQ.mp c).1).1;simpa using this
   .left;rw[Xl c]
  .have e:(x==n)=Â:=by
    cases c:x==n with
    |false=>rfl
    |true=>exact absurd (abh.mp c) e1
   rw[e];exact fD e2
structure g8(X:Cx)(ZB:Ĉ)(tn:List Ð)(js:List Nat):Prop where
 kind:ZB.kind=.function
 loc:∀x∈ZB.names,x.2=.local->ZB.names.lookup x.1=À .local
 fre:∀x∈ZB.names,x.2=.free->ZB.names.lookup x.1=À .free/\(X.env.kindOf x.1=À .cell\/X.env.kindOf x.1=À .free)
 one:∀x∈ZB.names,∀y∈ZB.names,x.1=y.1->x.2=y.2
 js:∀j∈js,∃x,X.N[j]?=À x/\ZB.names.lookup x=À .free
noncomputable def cN(X:Cx)(tn:List Ð)(js:List Nat):List Ð:=tn++js.map λj=>(X.N[j]?).getD ("":Ð)
noncomputable def cσ(Y:St)(tn:List Ð)(js:List Nat):St:=tn.map (λ_=>none)++js.map λj=>(Y[j]?).getD none
def bL{names:List (Ð×ï)}{k:ï}(h:names.lookup x=À k):(x,k)∈names:=Z4 h
section
variable{X:Cx}{Z2:List (Ç×ü)}{Y:St}{H:Hp}{s:Æ}{ZB:Ĉ}{tn:List Ð}{js:List Nat}{fp:List Ç}
def fZ(ok:X.Ok)(S:g8 X ZB tn js):∀x∈ZB.names,x.2=.free->∃c,X.env.cells.lookup x.1=À c:=λx b a=>ok.has x.1 (S.fre x b a).2
def DP(ok:X.Ok)(S:g8 X ZB tn js)(b:∀x c,X.env.cells.lookup x=À c->c<n):
  Il (ë n ZB.names (gi X.env ZB.names []))/\∀x c,(ë n ZB.names (gi X.env ZB.names [])).lookup x=À c->X.env.cells.lookup x=À c\/n<=c:=by
 have a:∀x c,(gi X.env ZB.names []).lookup x=À c->X.env.cells.lookup x=À c:=λx c e=>by
  rcases dH ZB.names [] c (fZ ok S) e with q|q
  .cases q
  .exact q
 obtain⟨h1,h2⟩:=BG ZB.names n (gi X.env ZB.names []) (λx y c e1 e2=>ok.inj x y c (a x c e1) (a y c e2)) (λx c e=>b x c (a x c e));exact#[h1,λx c e=>(h2 x c e).imp (a x c) id]
def Dd{Q:â}{m:Ð->Option Ä}{t':Nat}(I:Inv X Z2 Y H s)(S:g8 X ZB tn js)(R:∀b∈fp,t8 X Z2 H b/\b<s.heap.objs.size)(hns:Q.Ns s.heap.objs.size m)
  (B:∀b o,s.heap.get? b=À o->Q.get? b=À o) (G:∀x c,(ë (s.heap.objs.size+1) ZB.names (gi X.env ZB.names [])).lookup x=À c->X.env.cells.lookup x=À c\/Q.IsCell c none):
  Inv (iS X (cN X tn js) ZB s.heap.objs.size s H fp) [] (cσ Y tn js) H {s with heap:=Q,toks:=t'}:=by
 have J:∀x c,X.env.cells.lookup x=À c->c<s.heap.objs.size+1:=λx c e=>by
  obtain⟨v,q⟩:=I.cell x c e;exact Y5 q.lt
 obtain⟨L,D⟩:=DP I.ok S J;have hC:H s.heap.objs.size=none:=I.hok.fresh (Xu _)
 refine#[#[I.ok.mod,S.kind,I.ok.glob,I.ok.blt,Xu _,L,λx V=>?_,λx c V e=>?_,I.ok.hd,I.ok.frames,.inl rfl,λb C=>#[X5 (R b C).2,λx c e z=>?_],I.bs,Ye I.ok.bsz I.sz,λb o e C=>?_,λb C z=>?_,I.stack,I.Cr],
  rfl,I.bare,Un.kept B,#[m,hns,λi x v h1 h2 h3=>?_],λx c e=>?_,hC,λx c e=>?_,(λp hp=>nomatch hp),I.hok.kept B,?_]
 .-- has
  have t:(ň ZB X.env).names.lookup x=À .cell\/(ň ZB X.env).names.lookup x=À .free:=V
  have own:ZB.names.lookup x=À .cell->∃c,(ë (s.heap.objs.size+1) ZB.names (gi X.env ZB.names [])).lookup x=À c:=λq =>
   aau.mp (aaJ ZB.names _ _ (.inl q))
  have E:ZB.names.lookup x=À .free->∃c,(ë (s.heap.objs.size+1) ZB.names (gi X.env ZB.names [])).lookup x=À c:=λq =>
   aau.mp (aaJ ZB.names _ _ (.inr (aau.mpr (rX ZB.names [] (.inl (bL q))))))
  rcases t with q|q
  .obtain⟨k0,q1,f⟩:=fD q;rcases f with f|f
   .subst f;exact own q1
   .subst f;exact E q1
  .obtain⟨k0,q1,f⟩:=fD q;rcases f with f|f
   .subst f;exact E q1
   .subst f;exact E q1
 .-- cab
  rcases D x c e with q|q
  .exfalso;have t:(match ZB.names.lookup x with|some .cell=>Á|_=>Â)=Á:=V;split at t
   .rename_i hl
    -- an own cell is new
    have C:∀y c',(gi X.env ZB.names []).lookup y=À c'->c'<s.heap.objs.size+1:=λy c' e'=>by
     rcases dH ZB.names [] c' (fZ I.ok S) e' with z|z
     .cases z
     .exact J y c' z
    have nof:(gi X.env ZB.names []).lookup x=none:=by
     cases z:(gi X.env ZB.names []).lookup x with
     |none=>rfl
     |some c' =>
      exfalso
      have mem:∀(names:List (Ð×ï)) (A:List (Ð×Ç)),(∃c',(gi X.env names A).lookup x=À c')->(x,á)∈names\/∃c',A.lookup x=À c':=by
       intro names
       induction names with
       |nil=>exact λA z=>.inr z
       |cons p r Z =>
        obtain⟨n,k⟩:=p;intro A z;unfold gi at z;rcases Z _ z with z|⟨c',z⟩
        .exact .inl (Xx _ z)
        .split at z
         .rename_i B;rcases a8 z with⟨e1,_⟩|⟨_,e2⟩
          .left;have:k=á:=by simpa using B
           rw[e1,this];exact XA
          .exact .inr #[c',e2]
         .exact .inr #[c',z]
      rcases mem ZB.names [] #[c',z] with z|⟨_,z⟩
      .have:=S.one _ z _ (bL hl) rfl;cases this
      .cases z
    have hh:=BG ZB.names (s.heap.objs.size+1) (gi X.env ZB.names []) (λa b c' e1 e2=>by
     rcases dH ZB.names [] c' (fZ I.ok S) e1 with z|z
     .cases z
     .rcases dH ZB.names [] c' (fZ I.ok S) e2 with σ|σ
      .cases σ
      .exact I.ok.inj a b c' z σ) C
    rcases hh.2 x c e with z|z
    .rw[nof] at z;cases z
    .exact absurd (J x c q) (aaW.mpr z)
   .cases t
  .exact abm q
 .-- exf
  obtain⟨⟨f0,f1,f2,f3,W,f5⟩,F⟩:=R b C;rcases D x c e with q|q
  .exact W x c q z
  .rw[z] at q;exact absurd F (aaW.mpr (abm q))
 .-- noex
  obtain⟨⟨f0,f1,f2,f3,W,f5⟩,F⟩:=R b C;rcases f3 with q|q
  .exact I.ok.noex b o e q
  .exact absurd (X4 (XE e) (Ye I.ok.bsz q)) (Ϸ _)
 .-- exfs
  obtain⟨⟨f0,f1,f2,f3,W,f5⟩,F⟩:=R b C;rcases Xm.mp (I.vD b z) with q|q
  .exact f1 q
  .exact f2 q
 .-- the names
  have d:(cσ Y tn js)[i]?=À (À v):=h2;have l:(cN X tn js)[i]?=À x:=h1;unfold cσ at d;unfold cN at l;by_cases hi:i<tn.length
  .rw[Y2 ↑hi,XI] at d;cases q:tn[i]? with
   |none=>rw[q] at d;cases d
   |some y=>rw[q] at d;cases d
  .rw[Zh ↑hi,XI,Xv] at d;rw[Zh ↑hi,XI] at l;cases q:js[i-tn.length]? with
   |none=>rw[q] at d;cases d
   |some j =>
    rw[q] at d l;obtain⟨y,K,h⟩:=S.js j (Xs q)
    have exy:y=x:=by
     have:À ((X.N[j]?).getD ("":Ð))=À x:=l;rw[K] at this;exact XJ this
    subst exy
    have hv:Y[j]?=À (À v):=by
     have:À ((Y[j]?).getD none)=À (À v):=d;cases z:Y[j]? with
     |none=>rw[z] at this;cases this
     |some o=>rw[z] at this;exact congrArg À (XJ this)
    have O:=(S.fre _ (bL h) rfl).2;have vis:Iy X.env.scope y:=O.elim (λz=>.inr (.inl z)) λz=>.inr (.inr z);obtain⟨m0,hn0,hl0⟩:=I.loc;obtain⟨u,ru,lk⟩:=hl0 j y v K hv vis;refine#[u,ru,.inr #[?_,?_]]
    .have h3':(ň ZB X.env).names.lookup y=À .local\/(ň ZB X.env).names.lookup y=À .cell\/(ň ZB X.env).names.lookup y=À .free:=h3;rcases h3' with z|z|z
     .obtain⟨k0,z1,T⟩:=fD z;rw[h] at z1;cases z1;rcases T with T|T
      .cases T
      .exfalso
       -- free is relabelled to cell or stays
       have:=z
       have g:∀{names:List (Ð×ï)},(∀p∈names,p.1=y->p.2=.free)->(names.map fun(n,k)=>if (k==á&&X.env.scope.kind==.function&&X.env.kindOf n==À .cell) then (n,ã) else (n,k)).lookup y≠À .local:=by
        intro names
        induction names with
        |nil=>intro _ w;simp at w
        |cons p r Z =>
         obtain⟨n,k⟩:=p;intro hp w;rw[X3] at w;have w':ļ y ((if (k==á&&X.env.scope.kind==.function&&X.env.kindOf n==À .cell)=Á then (n,ã) else (n,k))::_)=À .local:=w;have α:∀b:Bool,(if b=Á then (n,ã) else (n,k))=(n,if b=Á then ã else k):=λb=>by cases b<;>rfl
         rw[α] at w';rcases a8 w' with⟨e1,e2⟩|⟨e1,e2⟩
         .have B:k=.free:=hp (n,k) XA e1.symm;subst B;split at e2<;>cases e2
         .exact Z (λp hp'=>hp p (Xx _ hp')) e2
       exact g (λp hp e=>S.one p hp _ (bL h) e) z
     .exact .inl z
     .exact .inr z
    .have lk':∃c,X.env.cells.lookup y=À c/\s.heap.IsCell c (À u):=by
      rcases lk with⟨z,_⟩|⟨_,z⟩
      .exfalso;rcases O with q|q
       .rw[q] at z;cases z
       .rw[q] at z;cases z
      .exact z
     obtain⟨c,hc1,Γ⟩:=lk';refine#[c,?_,Γ.keeps B];show(ë (s.heap.objs.size+1) ZB.names (gi X.env ZB.names [])).lookup y=À c;rw[wJ ZB.names _ _ y λp hp e=>by(rw[S.one p hp _ (bL h) e];intro z;cases z)];obtain⟨c',P⟩:=rX (env:=X.env) ZB.names [] (.inl (bL h));rcases dH ZB.names [] c' (fZ I.ok S) P with z|z
     .cases z
     .rw[hc1] at z;cases z;exact P
 .-- cells are there
  rcases G x c e with q|q
  .obtain⟨v,z⟩:=I.cell x c q;exact#[v,z.keeps B]
  .exact#[none,q]
 .-- and free
  rcases D x c e with q|q
  .exact I.freeC x c q
  .exact I.hok.fresh (abm q)
 .show(cσ Y tn js).length=(cN X tn js).length;unfold cσ cN;simp
variable{α:Model}{A:ä}{E:Ä->Æ->Prop}
def zc{ZB:Ĉ}{globals:Ç}{cl:List (Ð×Ç)}{Q:Ł->Æ->Prop}
  (d:∀h',h'.Ns s.heap.objs.size (λ_=>none)->(∀b o,s.heap.get? b=À o->h'.get? b=À o)->(∀x c,(ë (s.heap.objs.size+1) ZB.names cl).lookup x=À c->cl.lookup x=À c\/h'.IsCell c none) ->
   Q {scope:=ZB,locals:=s.heap.objs.size,globals,cells:=ë (s.heap.objs.size+1) ZB.names cl,qual,func:=none,code:=env.code,frame:=env.frame,builtins:=env.builtins} {s with heap:=h'}):
  Î α A (ř ZB globals cl [] qual none .none (À env)) Q E s:=by
 simp only[ř,š,aaC];refine Xk (wpAny_alloc ?_);refine Xk (wpAny_layCells _ (λname kind cells=>by cases a:kind==ã<;>simp[a]) _ _ _ _ ?_);rw[show({s with heap:=s.heap.push {cls:=.type "dict",data:=.dict #[]}}:Æ).heap.objs.size=s.heap.objs.size+1 from ZL ..];refine Xk ?_;rw[ϟ];refine Xp (Xp ?_);refine d _ ((Heap.Ns.new s.heap (.type "dict")).keeps (acL _ _)) (λb o e=>acL _ _ b o (Xw _ e)) λx c e=>?_;refine wF ZB.names _ cl x c ?_;rw[ZL];exact e
variable{prog:Ñ}{w:Û}{R:Λ->Æ->Prop}
def CN{elt target iter:Õ}{ifs:List Õ}{ZB:Ĉ}{pos:ò}{it a:Ä}(I:Nat->Æ->Prop)
  (turn:∀n s,I n s->Î .E A (Ē it) (λr d=>match r with
   |none=>R (.ok .next) d
   |some v=>Î .E A (į target it v) (λ_ b=>Î .E A (Ģ target env v) (λ_ j =>
     Î .E A (forIn ifs Á λc r=>if r=Á then do let ok <-Η c env (Ý c env);pure (ĉ ok) else pure (ĉ r)) (λok f =>
      if ok=Á then Î .E A (Ý elt env) (λx i =>
       Î .E A (call (.builtin "list.append") [a,x]) (λ_ g=>∃m,m<n/\I m g) (λ_ _=>False) i) (λ_ _=>False) f
      else ∃m,m<n/\I m f) (λ_ _=>False) j) (λ_ _=>False) b) (λ_ _=>False) d) (λ_ _=>False) s)
  (n:Nat) (h:I n s):
  Ĝ .E A (.compLoop (.ListComp elt [#[target,iter,ifs,0]] ZB pos) 0 it a env) R s:=by
 refine codeAny_loop rfl I (λn s o=>?_) n h;show Î _ A ((compTurn (.ListComp elt [#[target,iter,ifs,0]] ZB pos) 0 it a env).onRaise (λx=>do noteFrame x env;theTreesLotGoes x)) _ _ s;refine wpAny_noted ?_;rw[compTurn_list];refine Xk (Ŧ (Xk (ZP (turn n s o) (λr d h₁=>?_) λ_ _ z=>z.elim)));cases r with
 |none=>exact Xp h₁
 |some v =>
  refine Xk (ZP h₁ (λ_ b e=>?_) λ_ _ z=>z.elim);refine Xk (ZP e (λ_ j p=>Xk (ZP p (λok f k=>?_) λ_ _ z=>z.elim)) λ_ _ z=>z.elim);cases ok with
  |false=>exact Xp #[rfl,k]
  |true =>
   exact Xk (Xk (ZP k (λx i l=>Xk (ZP l (λ_ g q=>Xp (Xp #[rfl,q])) λ_ _ z=>z.elim)) λ_ _ z=>z.elim))
end
def PF(X:Cx)(ifs:List Õ)(t:TT):Prop :=
 ∀(Z2:List (Ç×ü)) (s:Æ) (Y:St) (H:Hp) (Q:Bool->Hp->Prop),Inv X Z2 Y H s->t Y H Q ->
  Î .F X.A (forIn ifs Á λc r=>if r=Á then do let ok <-Η c X.env (Ý c X.env);pure (ĉ ok) else pure (ĉ r)) (TP X Z2 Y Q) X.xe s
def LI:PF X [] (λ_ H Q=>Q Á H):=λZ2 s Y H Q I q=>wpAny_tests_nil #[H,I,q]
def MS{c:Õ}{t:TT}(h:PT X c t):PF X [c] t:=λZ2 s Y H Q I q=>wpAny_tests_one (h Z2 s Y H Q I q)
def Bm(Y:St)(tn:List Ð)(js:List Nat)(Y':St):Prop:=(∀(j:Nat) (v:V),tn.length<=j->(cσ Y tn js)[j]?=À (À v)->Y'[j]?=À (À v))/\Y'.length=(cσ Y tn js).length
def QX(wi:TI)(tn:List Ð)(js:List Nat)(g:TG)(tt:TT)(te:TE):TE:=λY H Q=>wi Y H λJ H1=>∀D,H1 D=none->∃W:Nat->Nat->Hp->List V->Prop,(∃m,W 0 m (upd H1 D (.lst [])) []) /\
 ∀i m H xs,W i m H xs->H D=À (.lst xs)/\((J.stop i H/\Q (.ref D) H)\/(J.go i H/\∀x H',J.yld i H x H'->g x (cσ Y tn js) H' λσ2 H2=>Bm Y tn js σ2/\tt σ2 H2 λok b =>
  if ok=Á then te σ2 b λy c=>c D=À (.lst xs)/\xs.length<sizeLine/\∃a,a<m/\W (i+1) a (upd c D (.lst (xs++[y]))) (xs++[y])
  else ∃a,a<m/\W (i+1) a b xs))
section
variable{X:Cx}{Z2:List (Ç×ü)}{Y:St}{H:Hp}{s:Æ}{ZB:Ĉ}{tn:List Ð}{js:List Nat}{elt target iter:Õ}{ifs:List Õ}{pos:ò}{wi:TI}{g:TG}{tt:TT}{te:TE}
def vm{Q:VK}{RR:Ä->Ç->Λ->Æ->Prop}(S:g8 X ZB tn js)(hc:X.calm=Á)(hi:PI X target iter wi)
  (a:∀C s H fp,PG .H target g/\PF .H ifs tt/\PE .H elt te)
  (I:Inv X Z2 Y H s) (h:QX wi tn js g tt te Y H Q)
  (hRR:∀D C s' H' oC m,Inv X (Z2++[(C,oC)]) Y H' s'->s'.heap.get? C=À oC->s'.heap.Ns C m->X.s₀.heap.objs.size<=C->C≠X.env.locals->(∀x c,X.env.cells.lookup x=À c->c≠C)->(∀p∈X.pn++Z2,p.1≠C)->Q (.ref D) H'->RR (.ref D) C (.ok .next) s'):
  Î .F X.A (Ý iter X.env) (λx s₁=>Î .F X.A (Ļ x) (λit s₂=>Î .F X.A (newList []) (λacc s₃ =>
   Î .F X.A (ř ZB X.env.globals (gi X.env ZB.names []) [] X.env.qual none .none (À X.env)) (λE s₄ =>
    Ĝ .F X.A (.compStart (.ListComp elt [#[target,iter,ifs,0]] ZB pos) 0 it acc {E with scope:=ň ZB X.env}) (RR acc E.locals) s₄) X.xe s₃) X.xe s₂) X.xe s₁) X.xe s:=by
 refine cy (hi Z2 s Y H _ I h) λv s1 h1=>cy h1 λitv f h2=>?_;obtain⟨it,fp,G,J,H2,e,t,T,st2,f2,hJ⟩:=h2;subst e;refine abY ?_;have D0:H2 f.heap.objs.size=none:=t.hok.fresh (Xu _);obtain⟨W,⟨m0,w0⟩,turn⟩:=hJ f.heap.objs.size D0;have I3:Inv X Z2 Y (upd H2 f.heap.objs.size (.lst [])) {f with heap:=f.heap.push {cls:=.type "list",data:=.seq ([]:List Ä).toArray},toks:=f.toks}:=t.IK .nil (Yr _);generalize P:({f with heap:=f.heap.push {cls:=.type "list",data:=.seq ([]:List Ä).toArray},toks:=f.toks}:Æ)=s3 at I3;have s3s:s3.heap.objs.size=f.heap.objs.size+1:=by rw[<-P];exact ZL ..
 have k23:∀b o,f.heap.get? b=À o->s3.heap.get? b=À o:=λb o e=>by rw[<-P];exact Xw _ e
 have u23:Un (Bv X.stack) fp H2 (upd H2 f.heap.objs.size (.lst [])) f.heap s3.heap:=Un.laid k23 (Xu _) D0;generalize hH3:upd H2 f.heap.objs.size (.lst [])=k at I3 u23 w0;generalize hD:f.heap.objs.size=D at *
 have σ:∀b∈fp,b<D:=λb a=>by
  obtain⟨o,e,_⟩:=T.obj 0 _ st2 b a;rw[<-hD];exact XE e
 have f3:∀b∈fp,t8 X Z2 k b/\b<s3.heap.objs.size:=λb a=>by
  obtain⟨q0,q⟩:=f2 b a;refine#[#[?_,q],by have:=σ b a;rw[s3s];exact Y5 this];rw[<-hH3,aC (X5 (σ b a))];exact q0
 refine zc λh4 hns hk α=>?_
 have cl0:∀x c,(gi X.env ZB.names []).lookup x=À c->X.env.cells.lookup x=À c:=λx c e=>by
  rcases dH ZB.names [] c (fZ I.ok S) e with q|q
  .cases q
  .exact q
 have I4:Inv (iS X (cN X tn js) ZB s3.heap.objs.size s3 k fp) [] (cσ Y tn js) k {s3 with heap:=h4,toks:=s3.toks}:=Dd I3 S f3 hns hk λx c e=>(α x c e).imp (cl0 x c) id;have Z:G 0 h4:=T.keep 0 _ _ st2 λb a o e=>hk b o (k23 b o e)
 have K:∀{H':Hp},(∀b∈fp,H' b=none)->∀b∈fp,t8 (iS X (cN X tn js) ZB s3.heap.objs.size s3 k fp) [] H' b:=λhn b a=>by
  obtain⟨⟨q0,q1,q2,q3,q4,q5⟩,ql⟩:=f3 b a;refine#[hn b a,X5 ql,λz=>?_,.inl a,λx c e z=>?_,λp hp=>nomatch hp]
  .rcases Xm.mp (I3.vD b z) with q|q
   .exact q1 q
   .exact q2 q
  .exact(I4.ok.exf b a).2 x c e z
 have loop:Ĝ .F X.A (.compLoop (.ListComp elt [#[target,iter,ifs,0]] ZB pos) 0 (.ref it) (.ref D) (iS X (cN X tn js) ZB s3.heap.objs.size s3 k fp).env) (RR (.ref D) s3.heap.objs.size) {s3 with heap:=h4,toks:=s3.toks}:=by
  refine CN (λn s'=>∃i Y' H' xs,Inv (iS X (cN X tn js) ZB s3.heap.objs.size s3 k fp) [] Y' H' s'/\G i s'.heap/\(∀b∈fp,H' b=none)/\W i n H' xs/\Bm Y tn js Y') ?_ m0
   #[0,_,k,[],I4,Z,λb a=>(f3 b a).1.1,w0,λ_ _ _ z=>z,rfl]
  rintro n s5 ⟨i,σ5,B,xs,I5,st5,fr5,w5,kσ,lσ⟩
  -- the state with the targets forgotten
  have I5':Inv (iS X (cN X tn js) ZB s3.heap.objs.size s3 k fp) [] (cσ Y tn js) B s5:=I5.weak lσ.symm λj v e=>by
   by_cases hj:tn.length<=j
   .exact kσ j v hj e
   .exfalso;unfold cσ at e;rw[Y2 ↑(Nat.lt_of_not_le hj),XI] at e;cases q:tn[j]? with
    |none=>rw[q] at e;cases e
    |some y=>rw[q] at e;cases e
  obtain⟨hDx,R⟩:=turn i n B xs w5;rcases R with⟨stop,q⟩|⟨go,step⟩
  .refine cy (T.done (iS X (cN X tn js) ZB s3.heap.objs.size s3 k fp) rfl rfl rfl hc i [] s5 _ B (λ_ _=>False) I5' (K fr5) st5 stop) λr s6 ⟨hr,Γ⟩=>?_;subst hr
   -- back to the def's own state
   have u36:Un (Bv X.stack) fp k B s3.heap s6.heap:=Γ.base;have u26:Un (Bv X.stack) fp H2 B f.heap s6.heap:=u23.trans u36;have I6X:Inv X Z2 Y B s6:=t.PR (Γ.os.trans (show s3.os=f.os by rw[<-P])) u26 Γ.hok Γ.bare λb a=>#[(f2 b a).2.2.2.1,(f2 b a).2.1,(f2 b a).2.2.2.2.1,(f2 b a).2.2.2.2.2];obtain⟨mm,hnn,_⟩:=Γ.loc;obtain⟨oC,es,ep,hoC,rC⟩:=id hnn;have N:D<=s3.heap.objs.size:=by rw[s3s];exact Ϥ _
   have F:∀{b:Ç} {o:ü},f.heap.get? b=À o->b≠s3.heap.objs.size:=λe z=>absurd (XE e) (aaW.mpr (by rw[hD,z];exact N))
   have cC:∀x c,X.env.cells.lookup x=À c->c≠s3.heap.objs.size:=λx c e z=>by
    obtain⟨v,o,q1,_⟩:=t.cell x c e;exact F q1 z
   have pC:∀p∈X.pn++Z2,p.1≠s3.heap.objs.size:=λp hp=>F (t.pin p hp).1
   have lC:s3.heap.objs.size≠X.env.locals:=λz=>by
    have:=t.lt;rw[hD,<-z] at this;exact absurd this (aaW.mpr N)
   refine hRR D s3.heap.objs.size s6 B oC mm (I6X.oa λp hp=>?_) hoC hnn (Ye t.sz (by rw[hD];exact N)) lC cC pC q;rcases Yf.mp hp with hp|hp
   .exact I6X.pin p (XW _ hp)
   .have:p=(s3.heap.objs.size,oC):=by simpa using hp
    subst this;refine#[hoC,Γ.free,lC,λz=>?_,λv z=>?_]
    .have:=t.ok.o_.mem z;have hz:=t.o_.mem z;obtain⟨_,o,hz,_⟩:=hz;exact F hz rfl
    .have:=rC.1;rw[z] at this;cases this
  .refine cy (T.item (iS X (cN X tn js) ZB s3.heap.objs.size s3 k fp) rfl rfl rfl hc i [] s5 _ B (λ_ _=>False) I5' (K fr5) st5 go) λr s6 ⟨u,hr,h6⟩=>?_;subst hr;refine cy h6 λ_ s7 ⟨x,H7,I7,r7,y7,L,fr7⟩=>?_;have I7':=I7.pinned (K fr7) (T.obj _ _ L);refine cy ((a s3.heap.objs.size s3 k fp).1 _ s7 _ H7 x u _ I7' r7 (step x H7 y7)) λ_ s8 ⟨σ8,H8,I8,kc8,q8⟩=>?_
   -- what the Z2 say of the iterator,later
   have ś:∀{Y':St} {H':Hp} {s':Æ} {O:List V} {l:Nat},Inv (iS X (cN X tn js) ZB s3.heap.objs.size s3 k fp) ([]++tW fp s7.heap) Y' H' s'->l<n->W (i+1) l H' O->Bm Y tn js Y' ->
     ∃m,m<n/\∃i Y' H' xs,Inv (iS X (cN X tn js) ZB s3.heap.objs.size s3 k fp) [] Y' H' s'/\G i s'.heap/\(∀b∈fp,H' b=none)/\W i m H' xs/\Bm Y tn js Y':=λ{Y' H' s' O l} I' hm w' k'=>by
    refine#[l,hm,i+1,Y',H',O,I'.n9,T.keep _ _ _ L λb a o e=>(I'.pin (b,o) (XW _ (XW _ (jw a e)))).1,λb a=>?_,w',k'];obtain⟨o,e,d⟩:=T.obj _ _ L b a;exact(I'.pin (b,o) (XW _ (XW _ (jw a e)))).2.1
   refine cy ((a s3.heap.objs.size s3 k fp).2.1 _ s8 σ8 H8 _ I8 q8) λok s9 ⟨H9,I9,q9⟩=>?_;cases ok with
   |false =>
    have q9':∃l,l<n/\W (i+1) l H9 xs:=by
     have z:=q9;rw[Xl XO] at z;exact z
    obtain⟨l,hm,w9⟩:=q9';exact ś I9 hm w9 kc8
   |true =>
    rw[Xo rfl] at q9 ⊢;refine cy ((a s3.heap.objs.size s3 k fp).2.2 _ s9 σ8 H9 _ I9 q9) λyv s10 ⟨y,H10,I10,r10,hD10,hz,l,hm,w10⟩=>?_
    exact cy (uA _ s10 σ8 H10 (.ref D) [y] (.ref D) [yv] (λ_ H'=>H'=upd H10 D (.lst (xs++[y]))) I10 rfl (.cons r10 .nil) #[D,xs,y,rfl,rfl,hD10,hz,rfl]) λ_ s11 ⟨_,H11,I11,_,e11⟩=>by
     subst e11;exact ś I11 hm w10 kc8
 exact codeAny_compStart_list loop (T.self _ 0 _ _ _ Z loop)
def Qv(S:g8 X ZB tn js)(k:X.calm=Á)(hi:PI X target iter wi)
  (c:∀C s H fp,PG .H target g/\PF .H ifs tt/\PE .H elt te)
  (t:∀x,Ü iter X.env x=pure x:=by intro _;rfl):PE X (.ListComp elt [#[target,iter,ifs,0]] ZB pos) (QX wi tn js g tt te):=by
 intro Z2 s Y H Q I h;rw[eval_ListComp];refine ŧ (use:=none) rfl t (jL (fZ I.ok S)) S.kind S.loc ?_;refine vm (RR:=λd C=>compPost .F X.A X.xe none (EP X Z2 Y Q) d C) S k hi c I h ?_;intro D C s' H' i m a l n h1 h2 j f q;refine#[m,n,λh' u=>#[.ref D,H',?_,rfl,q]];have r:Inv X Z2 Y H' s':=a.oa λp hp=>a.pin p (XW _ (Ya _ hp));exact r.turned (t':=s'.toks) (λb o c e=>u.extBut b o c e) (a.pin (C,i) (XW _ (XW _ .c))).2.1 (Z5 (Z5 h2)) (.inr h1) j f
def EZ{i:Nat}{y:Ð}{py a:ò}(E:X.N.Nodup)(k:X.N[i]?=À y)(J:Loc X.env.scope y)(u:X.fn y=Á\/X.env.scope.names.lookup y=À .local)(S:g8 X ZB tn js)(L:X.calm=Á)(hi:PI X target iter wi)
  (f:∀C s H fp,PG .H target g/\PF .H ifs tt/\PE .H elt te)
  (n:Ā (.ListComp elt [#[target,iter,ifs,0]] ZB pos) (À (.Name y py)) a.line X.env=pure Á)
  (R:∀x,Ü iter X.env x=pure x:=by intro _;rfl):PS X (.Assign [.Name y py] (.ListComp elt [#[target,iter,ifs,0]] ZB pos) a) (λD Y H=>QX wi tn js g tt te Y H λv H1=>D.nx (Y.set i (À v)) H1):=by
 intro Z2 s Y H r I h;rw[exec_Assign_Name_used _ _ _ _ n];refine Xk (Ŧ (Xk ?_));show Î _ X.A (do let _ <-comprehension (.ListComp elt [#[target,iter,ifs,0]] ZB pos) ZB X.env _ (newList []) Â (Ý iter X.env) (À (Ģ (.Name y py) X.env))) _ _ s;refine Xk (ZP (ŧ (use:=À (Ģ (.Name y py) X.env)) (Q:=λ_ s'=>SP X Z2 r .next s') rfl R (jL (fZ I.ok S)) S.kind S.loc ?_) (λ_ s' z=>Xp (Xp z)) λ_ _ e=>e);refine vm (RR:=λj C=>compPost .F X.A X.xe (À (Ģ (.Name y py) X.env)) (λ_ s'=>SP X Z2 r .next s') j C) S L hi f I h ?_;intro D C s' H' F m B d P h1 h2 K t q;show Î _ X.A (Ģ (.Name y py) X.env (.ref D)) _ _ _;refine cy (mJ (pos:=py) E k J u _ s' Y H' (.ref D) (.ref D) (λσ2 H2=>σ2=Y.set i (À (.ref D))/\H2=H') B rfl #[rfl,rfl]) λ_ c ⟨σ2,H2,l,e1,e2⟩=>?_;subst e1 e2;obtain⟨α,O,_⟩:=l.pin (C,F) (XW _ (XW _ .c));refine#[m,P.at' λo e=>?_,λh' T=>?_]
 .rw[d] at e;cases e;exact α
 .have G:Inv X Z2 (Y.set i (À (.ref D))) H2 c:=l.oa λp hp=>l.pin p (XW _ (Ya _ hp));exact#[_,H2,G.turned (t':=c.toks) (λb o f e=>T.extBut b o f e) O h2 (.inr h1) K t,q]
def Kf:ku X (ď .Mult) (rI ģ λi j=>.int (i*j)):=O8 λ_ _ _ _ _ _ _ a q=>mul_int q a
def Ct(_ j:Int):Prop:=j≠0/\j.natAbs.log2<9000
def ER:ku X (ď .FloorDiv) (rI Ct λi j=>.int (i.fdiv j)):=O8 λ_ _ _ _ _ _ _ a q=>floordiv_int a.1 q (.inl (PyProof.noPylong_of_log2 a.2))
noncomputable def Ot(lo c:Int)(n:Nat):It:=#[λi _=>i<n,λi H x H'=>H'=H/\x=.int (lo+i*c),λi _=>n<=i]
def zj{P:Ñ}{w:Û}{tg:Õ}(it:Ç)(lo c:Int)(n:Nat):Turn P w K tg (Ot lo c n) [it] it (λi h=>Ŕ h it (lo+(i:Nat)*c) ((n:Int)-(i:Nat)) c) where
 mem:=by simp
 obj:=λi h st b a=>by
  have e:b=it:=by simpa using a
  subst e
  exact#[_,st,λv z=>by
   have D:Data.fields _=Data.cell v:=z
   cases D]
 keep:=λi h h' st k=>k it .c _ st
 item:=by
  intro X u p x m i Z2 s Y H E I f st g;subst u p x;obtain⟨j,q,B,y,r,l⟩:=f it .c;have W:=Walks.range (prog:=X.prog) (w:=X.w) (I.ok.hd m) it lo c n;refine W.item i s _ _ g st λv h' tk C d kk=>?_;obtain⟨t,rfl⟩:=C;have F:Inv X Z2 Y H {s with heap:=h',toks:=tk}:=I.turned (λb o a e=>kk b o ↑a e) j q y r l;exact#[_,rfl,x3 (s:={s with heap:=h',toks:=tk}) (n:="range_iterator") d rfl rfl .a #[.int (lo+i*c),H,F,#[t,rfl],#[rfl,rfl],d,λb a=>(f b a).1]]
 done:=by
  intro X u p x m i Z2 s Y H E I f st g;subst u p x;obtain⟨j,q,B,y,r,l⟩:=f it .c;exact Β (I.ok.hd m) st (by have:n<=i:=g;lia) λh' A=>#[rfl,I.turned (t':=s.toks) (λb o a e=>A b o a e) j q y r l]
 self:=λ_ _ _ _ _ st h=>Δ st h
def Ik{a b:Int}(ha:-(2^62)<=a)(f:a<2^62)(h:-(2^62)<=b)(d:b<2^62)(i:c≠0)(g:-1000<=c)(e:c<=1000):Ń a b c=Á:=by
 have h1:=rangeSize_toNat a b c;have h2:=rangeSize_toNat_le a b c;unfold Ń;generalize Ó a b c=r at *;simp only[Builtin.Range.rangeFitsLong,X8,Zz,ZU,abh];refine#[#[#[#[#[.b,.b],.b,.b],.b,.b],.b,.b],?_];right;split<;>simp only[X8,ZU]<;>lia
variable{tg:Õ}
def Du{Z2:List (Ç×ü)}{Y:St}{H:Hp}{s:Æ}{R:It->Hp->Prop}{E:Ä->Æ->Prop}{lo hi:Int}{t u v:Tok}{tk:Nat}(I:Inv X Z2 Y H s)(h1:-(2^62)<=lo)(h2:lo<2^62)(g:-(2^62)<=hi)(d:hi<2^62)
  (c0:c≠0) (c1:-1000<=c) (c2:c<=1000)
  (q:R (Ot lo c (Ó lo hi c).toNat) H):Î .F X.A (Ļ (.ref s.heap.objs.size)) (Rq X Z2 Y tg R) E {s with heap:=s.heap.push {cls:=.type "range",data:=.fields (à [.int lo t,.int hi u,.int c v])},toks:=tk}:=by
 refine Ϧ (ϡ ..) (Ik h1 h2 g d c0 c1 c2) ?_;have a:Inv X Z2 Y H {s with heap:=s.heap.push {cls:=.type "range",data:=.fields (à [.int lo t,.int hi u,.int c v])},toks:=tk}:=I.kept λb o e=>Xw _ e
 refine#[(s.heap.push {cls:=.type "range",data:=.fields (à [.int lo t,.int hi u,.int c v])}).objs.size,[(s.heap.push {cls:=.type "range",data:=.fields (à [.int lo t,.int hi u,.int c v])}).objs.size],_,_,H,rfl,
  a.kept (t':=tk) λb o e=>Xw _ e,zj _ lo c (Ó lo hi c).toNat,?_,λb f=>?_,q]
 .have e1:lo+((0:Nat):Int)*c=lo:=by simp
  have e2:(((Ó lo hi c).toNat:Nat):Int)-((0:Nat):Int)=Ó lo hi c:=by have:=rangeSize_toNat lo hi c;lia
  show Ŕ _ _ (lo+((0:Nat):Int)*c) ((((Ó lo hi c).toNat:Nat):Int)-((0:Nat):Int)) c;rw[e1,e2];exact XN _ rfl
 .have e:b=(s.heap.push {cls:=.type "range",data:=.fields (à [.int lo t,.int hi u,.int c v])}).objs.size:=by simpa using f
  subst e;exact a.zJ (Xu _) (a.hok.fresh (Xu _))
def Pj(ta:TA):TI:=λY H R=>ta Y H λvs H1=>∃i j c:Int,vs=[.int i,.int j,.int c]/\(-(2^62)<=i/\i<2^62/\-(2^62)<=j/\j<2^62)/\(c≠0/\-1000<=c/\c<=1000)/\R (Ot i c (Ó i j c).toNat) H1
def Dr{a b c:Õ}{ta:TA}{p pos:ò}(k:Gl X "range")(w:X.mg "range"=none)(ha:PA X [a,b,c] ta)(he:autoParam (Å [a,b,c] X.env=(Â,Ý a X.env)::Å [b,c] X.env) zra)
  (hpl:(ì pos (Å [b,c] X.env)).any (·.1)=Â:=by rfl):PI X tg (.Call (.Name "range" p) [a,b,c] [] pos) (Pj ta):=by
 intro Z2 s Y H R I h;refine Call_ (ic I k w boot_range (Za (cy (ha pos Z2 s Y H _ I h) λus x ⟨vs,H1,o,u,q1⟩=>?_) he hpl));obtain⟨i,j,c,e,⟨q1,l,g,v⟩,⟨c0,c1,c2⟩,q⟩:=q1;subst e;cases u with
 |cons r d =>
  cases d with
  |cons n d =>
   cases d with
   |cons f d =>
    cases d;obtain⟨t,rfl⟩:=r;obtain⟨t',rfl⟩:=n;obtain⟨m,rfl⟩:=f;exact call_range_3 c0 (Du o q1 l g v c0 c1 c2 q) (.inl (PyProof.noPylong_small .e))
def AB{lo:Int}{g:TG}{tb:TS}{D:Ends}{Y:St}{H:Hp}(Pv:Nat->St->Hp->Prop)(j:Pv 0 Y H)
  (f:∀i Y H,i<n->Pv i Y H->g (.int (lo+i*c)) Y H λσ2 H2=>tb {D with nx:=Pv (i+1),ct:=Pv (i+1),bk:=D.nx} σ2 H2) (h:∀Y H,Pv n Y H->D.nx Y H):
  ∃W:Nat->Nat->St->Hp->Prop,(∃m,W 0 m Y H)/\∀i m Y H,W i m Y H ->
   ((Ot lo c n).stop i H/\D.nx Y H)\/((Ot lo c n).go i H/\∃N:St->Hp->Prop,(∀Y' H',N Y' H'->∃b,b<m/\W (i+1) b Y' H')/\∀x H',(Ot lo c n).yld i H x H'->g x Y H' λσ2 H2=>tb {D with nx:=N,ct:=N,bk:=D.nx} σ2 H2):=by
 refine#[λi m Y H=>m=n-i/\i<=n/\Pv i Y H,#[n,.c,Yr _,j],?_];rintro i m Y H ⟨rfl,hi,p⟩;by_cases a:i<n
 .refine .inr #[a,Pv (i+1),λY' H' d=>#[n-(i+1),.b,rfl,a,d],λx H' y=>?_];obtain⟨e,y⟩:=y;subst e y;exact f i Y _ a p
 .have e:i=n:=by lia
  subst e;exact .inl #[Xu _,h Y H p]
end
mutual
inductive DR(K:Ã)(H:Hp):V->þ->Prop
 |non:DR K H .non .none
 |bl (b:Bool):DR K H (.bl b) (.bool b)
 |int (i:Int):DR K H (.int i) (.int i)
 |str (x:Ð):DR K H (.str x) (.str x)
 |lst {a:Ç} {xs:List V} {ds:List þ}:dX K H a xs->DJ K H xs ds->DR K H (.ref a) (.list ds)
 |tup {a:Ç} {xs:List V} {ds:List þ}:zE K H a xs->DJ K H xs ds->DR K H (.ref a) (.tuple ds)
inductive DJ(K:Ã)(H:Hp):List V->List þ->Prop
 |nil:DJ K H [] []
 |cons {x:V} {xs:List V} {d:þ} {ds:List þ}:DR K H x d->DJ K H xs ds->DJ K H (x::xs) (d::ds)
end
section
variable{X:Cx}{Z2:List (Ç×ü)}{Y:St}{H:Hp}{s:Æ}
mutual
theorem DR.reads(I:Inv X Z2 Y H s):∀{x:V} {d:þ} {u:Ä},DR X.K H x d->RelV x u->∃as,Reads s.heap u d as
 |_,_,_,.non,r=>by cases r;exact#[_,.none]
 |_,_,_,.bl b,r=>by cases r;exact#[_,.bool b]
 |_,_,_,.int i,r=>by obtain⟨t,rfl⟩:=r;exact#[_,.int i t]
 |_,_,_,.str x,r=>by obtain⟨t,rfl⟩:=r;exact#[_,.str x t]
 |_,_,_,.lst h e,r=>by
  cases r;obtain⟨XV,c,p,_⟩:=I.list h;obtain⟨as,a⟩:=DJ.reads I e c;obtain⟨o,e1,e2,n,e3⟩:=p.isList;exact#[_,.list e1 e2 e3 ↑a]
 |_,_,_,.tup h e,r=>by
  cases r;obtain⟨XV,c,p,_⟩:=I.tuple h;obtain⟨as,a⟩:=DJ.reads I e c;obtain⟨o,e1,e2,n,e3⟩:=p;exact#[_,.tuple e1 e2 e3 ↑a]
theorem DJ.reads(I:Inv X Z2 Y H s):∀{xs:List V} {ds:List þ} {us:List Ä},DJ X.K H xs ds->Vals xs us->∃as,ReadsAll s.heap us ds as
 |_,_,_,.nil,r=>by cases r;exact#[_,.nil]
 |_,_,_,.cons h d,r=>by
  cases r with
  |cons e c =>
   obtain⟨as,a⟩:=DR.reads I h e;obtain⟨bs,b⟩:=DJ.reads I d c;exact#[_,.cons a b]
end
def RD(K:Ã):R2:=λx y H Q=>∃d e,DR K H x d/\DR K H y e/\d.canLay0=Á/\e.canLay0=Á/\d.depth<=60/\Q (.bl (ç d e)) H
def RI(K:Ã):R2:=λx y H Q=>∃d e,DR K H x d/\DR K H y e/\d.canLay0=Á/\e.canLay0=Á/\d.depth<=60/\Q (.bl (!PyData.eqv d e)) H
def Nt(i:X.A.units+60<ğ):ku X (æ .Eq) (RD X.K):=by
 intro Z2 s Y H x y v u Q I f b h;obtain⟨d,e,g,he,c1,c2,dp,q⟩:=h;obtain⟨as,c⟩:=g.reads I f;obtain⟨bs,a⟩:=he.reads I b;exact SeqAt.compareEq_reads c a c1 c2 (by have:=ϝ d.depth e.depth;lia) #[.bl _,H,I,rfl,q]
def L_(i:X.A.units+60<ğ):ku X (æ .NotEq) (RI X.K):=by
 intro Z2 s Y H x y v u Q I f b h;obtain⟨d,e,g,he,c1,c2,dp,q⟩:=h;obtain⟨as,c⟩:=g.reads I f;obtain⟨bs,a⟩:=he.reads I b;exact SeqAt.compareNe_reads c a c1 c2 (by have:=ϝ d.depth e.depth;lia) #[.bl _,H,I,rfl,q]
end
end L2
namespace L2.EP
open PySem PySem.Spec PyProof.Rows
variable{i j lo:Int}{H H' H0:Hp}{c c':Bool}{p C:Ç}{K:Ã}{n m:Nat}{v:V}{x y:Ð}{X:Cx}{xs:List V}{s:Æ}{e:Õ}{op:ş}{Y:St}{es:List Õ}{ps:ò}{rest:List Ò}{tn:List Ð}{js:List Nat}{fp:List Ç}
open Classical in
def off(H:Hp)(O:Ç->Prop):Hp:=λb=>if O b then none else H b
def aU{O:Ç->Prop}{b:Ç}(h:¬O b):off H O b=H b:=by unfold off;rw[Xl h]
def mW{O:Ç->Prop}{b:Ç}(h:O b):off H O b=none:=by unfold off;rw[Xo h]
def dy{O:Ç->Prop}{b:Ç}{o:HO}(h:off H O b=À o):¬O b/\H b=À o:=by
 by_cases a:O b
 .rw[mW a] at h;cases h
 .rw[aU a] at h;exact#[a,h]
def av(H:Hp)(O:Ç->Prop):aG .G H:=λ_ _ h=>(dy h).2
def ah{O:Ç->Prop}(s:aG H H'):aG .G (off H' O):=λb o h=>by
 obtain⟨h1,h2⟩:=dy h;rw[aU h1];exact s _ _ h2
def nP{O a:Ç->Prop}(l:∀b,a b->O b):aG .G (off H a):=λb o h=>by
 obtain⟨h1,h2⟩:=dy h;rw[aU λz=>h1 (l _ z)];exact h2
def Jo(H:Hp):off H (λ_=>False)=H:=funext λ_=>aU λz=>z
def rO{O:Ç->Prop}{o:HO}(h:O p):off (upd H p o) O=off H O:=funext λb=>by
 by_cases a:O b
 .rw[mW a,mW a]
 .rw[aU a,aU a,aC];rintro rfl;exact a h
def cD(h:H p=none)(o:HO):aG H (upd H p o):=λb u q=>by rw[aC (b9 q h)];exact q
def aG.rd{a:Ç}{u:HO}(e:aG H H')(h:Rd H a u):Rd H' a u:=by
 rcases h with h|⟨o,h⟩
 .exact .inl (e _ _ h)
 .exact .inr #[o,e _ _ h]
def Rt(H:Hp)(p:Ç)(xs:List V):Prop:=H p=À (.tup xs)\/∃_:Empty,H p=À (.tup xs)
def Rt.pl(h:Rt H p xs):H p=À (.tup xs):=by
 rcases h with h|⟨o,h⟩
 .exact h
 .exact h
def Rt.rd(h:Rt H p xs):Rd H p (.tup xs):=.inl h.pl
def aG.rt{a:Ç}{u:List V}(e:aG H H')(h:Rt H a u):Rt H' a u:=.inl (e _ _ h.pl)
def xD(e:aG H H')(h:Rt H p xs):zE K H' p xs:=.inl (aG.rt e h).rd
inductive Nn where
 |any
 |new (H0:Hp)
 |set (D:Ç->Prop)
variable{N:Nn}
inductive Mt where
 |inl (xs:List V)
 |inr (YP:List (Key×V))
 |inT (YP:List (List Key×V))
 |inB (YP:List ((Int×Bool)×V))
noncomputable def mo:Mt->HO
 |.inl xs=>.lst xs
 |.inr YP=>.dK YP
 |.inT YP=>.dT YP
 |.inB YP=>.dB YP
def Mo(K:Ã)(H:Hp)(p:Ç):Mt->Prop
 |.inl xs=>dX K H p xs
 |.inr YP=>Rd H p (.dK YP)
 |.inT YP=>Rd H p (.dT YP)
 |.inB YP=>Rd H p (.dB YP)
def Mo.mono{o:Mt}(s:aG H H')(h:Mo K H p o):Mo K H' p o:=by
 cases o with
 |inl xs=>exact s.seq h
 |inr YP=>exact aG.rd s h
 |inT YP=>exact aG.rd s h
 |inB YP=>exact aG.rd s h
def Mo.of{K:Ã}{H:Hp}{p:Ç}{o:Mt}(h:H p=À (mo o)):Mo K H p o:=by
 cases o with
 |inl xs=>exact dX.of h
 |inr YP=>exact .inl h
 |inT YP=>exact .inl h
 |inB YP=>exact .inl h
def Nn.has:Nn->Hp->Ç->Mt->Prop
 |.any,_,_,_=>True
 |.new H0,H,p,xs=>H0 p=none/\H p=À (mo xs)
 |.set D,H,p,xs=>D p/\H p=À (mo xs)
def Nn.mono{xs:Mt}(s:aG H H')(h:N.has H p xs):N.has H' p xs:=by
 cases N with
 |any=>exact É
 |new H0=>exact#[h.1,s _ _ h.2]
 |set D=>exact#[h.1,s _ _ h.2]
class Py(M:Type) where
 rp:Ã->Nn->Hp->V->M->Prop
 tr:∀{K:Ã} {N N':Nn} {H H':Hp} {v:V} {a:M},(∀p (o:Mt),Mo K H p o->N.has H p o->Mo K H' p o/\N'.has H' p o)->(∀p xs,Rt H p xs->Rt H' p xs)->rp K N H v a->rp K N' H' v a
def ay{M:Type}[Py M]{a:M}(s:aG H H')(h:Py.rp K N H v a):Py.rp K N H' v a :=
 Py.tr (λ_ _ q n=>#[Mo.mono s q,Nn.mono s n]) (λ_ _ q=>aG.rt s q) h
def bA{M:Type}[Py M]{N':Nn}{a:M}(w:∀p (o:Mt),N.has H p o->N'.has H p o)(h:Py.rp K N H v a):Py.rp K N' H v a :=
 Py.tr (λ_ _ q n=>#[q,w _ _ n]) (λ_ _ q=>q) h
noncomputable instance:Py Int where
 rp _ _ _ v a:=v=.int a
 tr _ _ h:=h
noncomputable instance:Py Bool where
 rp _ _ _ v a:=v=.bl a
 tr _ _ h:=h
noncomputable instance:Py Unit where
 rp _ _ _ v _:=v=.non
 tr _ _ h:=h
noncomputable instance{M:Type}[Py M]:Py (Option M) where
 rp K N H v a:=match a with|none=>v=.non|some b=>Py.rp K N H v b
 tr {K N N' H H' v a} l t h:=by
  cases a with
  |none=>exact h
  |some b=>exact Py.tr (M:=M) l t h
noncomputable instance{M β:Type}[Py M][Py β]:Py (M×β) where
 rp K N H v a:=∃p x y,v=.ref p/\Rt H p [x,y]/\Py.rp K N H x a.1/\Py.rp K N H y a.2
 tr l t h:=by
  obtain⟨p,x,y,e,s,h1,h2⟩:=h;exact#[p,x,y,e,t _ _ s,Py.tr l t h1,Py.tr l t h2]
theorem bN{M β:Type}{F G:M->β->Prop}(f:∀a b,F a b->G a b):∀{d:List M} {c:List β},ß F d c->ß G d c
 |_,_,.nil=>.nil
 |_,_,.cons h t=>.cons (f _ _ h) (bN f t)
theorem bG{M β:Type}{F:M->β->Prop}:∀{b:List M} {a:List β},ß F b a->b.length=a.length
 |_,_,.nil=>rfl
 |_,_,.cons _ t=>congrArg (·+1) (bG t)
theorem gQ{M β:Type}{F:M->β->Prop}:∀{d:List M} {c:List β} {i:Nat} {b:β},ß F d c->c[i]?=À b->∃a,d[i]?=À a/\F a b
 |_,_,_,_,.nil,e=>by simp at e
 |_,_,0,_,.cons h _,e=>by simp at e;subst e;exact#[_,rfl,h]
 |_,_,i+1,_,.cons _ t,e=>by
  obtain⟨a,h1,h2⟩:=gQ (i:=i) t ↑e;exact#[a,↑h1,h2]
theorem qT{M β:Type}{F:M->β->Prop}:∀{d:List M} {c:List β} {i:Nat} {a:M},ß F d c->d[i]?=À a->∃b,c[i]?=À b/\F a b
 |_,_,_,_,.nil,e=>by simp at e
 |_,_,0,_,.cons h _,e=>by simp at e;subst e;exact#[_,rfl,h]
 |_,_,i+1,_,.cons _ t,e=>by
  obtain⟨a,h1,h2⟩:=qT (i:=i) t ↑e;exact#[a,↑h1,h2]
theorem wt{M β:Type}{F:M->β->Prop}:∀{b m₁:List M} {a m₂:List β},ß F b a->ß F m₁ m₂->ß F (b++m₁) (a++m₂)
 |_,_,_,_,.nil,h=>h
 |_,_,_,_,.cons h t,h'=>.cons h (wt t h')
theorem Et{M β:Type}{F:M->β->Prop}{a:M}{b:β}(f:F a b):∀{d:List M} {c:List β} (i:Nat),ß F d c->ß F (d.set i a) (c.set i b)
 |_,_,_,.nil=>.nil
 |_,_,0,.cons _ t=>.cons f t
 |_,_,i+1,.cons h t=>.cons h (Et f i t)
theorem vM{M β:Type}{F:M->β->Prop}:∀{b:List M} {a:List β} (n:Nat),ß F b a->ß F (b.drop n) (a.drop n)
 |_,_,0,h=>h
 |_,_,_+1,.nil=>.nil
 |_,_,n+1,.cons _ t=>vM n t
theorem wX{M β:Type}{F:M->β->Prop}:∀{b:List M} {a:List β} (n:Nat),ß F b a->ß F (b.take n) (a.take n)
 |_,_,0,_=>.nil
 |_,_,_+1,.nil=>.nil
 |_,_,n+1,.cons h t=>.cons h (wX n t)
noncomputable instance{M:Type}[Py M]:Py (List M) where
 rp K N H v a:=∃p xs,v=.ref p/\dX K H p xs/\N.has H p (.inl xs)/\ß (λx b=>Py.rp K N H x b) xs a
 tr l t h:=by
  obtain⟨p,xs,e,s,n,r⟩:=h;obtain⟨s',c⟩:=l _ (.inl xs) s n;exact#[p,xs,e,s',c,bN (λ_ _ q=>Py.tr l t q) r]
class PyD(M:Type) extends Py M where
 dat:M->þ
 dr:∀{K:Ã} {N:Nn} {H:Hp} {v:V} {a:M},Py.rp K N H v a->DR K H v (dat a)
 lay:∀a,(dat a).canLay0=Á
 dep:Nat
 depth:∀a,(dat a).depth<=dep
 eqv:∀a b,ç (dat a) (dat b)=Á↔a=b
noncomputable instance:PyD Int where
 dat:=.int
 dr h:=by cases h;exact .int _
 lay _:=rfl
 dep:=0
 depth _:=Xu _
 eqv a b:=by simp[ç]
noncomputable instance:PyD Bool where
 dat:=.bool
 dr h:=by cases h;exact .bl _
 lay _:=rfl
 dep:=0
 depth _:=Xu _
 eqv a b:=by simp[ç]
noncomputable instance{M β:Type}[PyD M][PyD β]:PyD (M×β) where
 dat a:=.tuple [PyD.dat a.1,PyD.dat a.2]
 dr h:=by
  obtain⟨p,x,y,e,s,h1,h2⟩:=h;subst e;exact .tup (.inl s.rd) (.cons (PyD.dr h1) (.cons (PyD.dr h2) .nil))
 lay a:=by
  show í [PyD.dat a.1,PyD.dat a.2]=Á;simp[í,PyD.lay]
 dep:=max (PyD.dep M) (PyD.dep β)+1
 depth a:=by
  have h1:=PyD.depth a.1;have h2:=PyD.depth a.2;show ę [PyD.dat a.1,PyD.dat a.2]+1<=_;simp only[ę];lia
 eqv a b:=by
  rw[ç];simp only[Ė,Bool.and_true,X8,PyD.eqv];exact#[λh=>acr h.1 h.2,λh=>by subst h;exact#[rfl,rfl]]
theorem sU{M:Type}[PyD M]{K:Ã}{N:Nn}{H:Hp}:∀{xs:List V} {as:List M},ß (λx b=>Py.rp K N H x b) xs as->DJ K H xs (as.map PyD.dat)
 |_,_,.nil=>.nil
 |_,_,.cons h t=>.cons (PyD.dr h) (sU t)
theorem s_{M:Type}[PyD M]:∀as:List M,í (as.map PyD.dat)=Á
 |[]=>rfl
 |a::as=>by simp[í,PyD.lay,s_ as]
theorem yr{M:Type}[PyD M]:∀as:List M,ę (as.map PyD.dat)<=PyD.dep M
 |[]=>Yr _
 |a::as=>by
  have h1:=PyD.depth a;have h2:=yr as;simp only[X3,ę];lia
theorem yc{M:Type}[PyD M]:∀as bs:List M,Ė (as.map PyD.dat) (bs.map PyD.dat)=Á↔as=bs
 |[],[]=>by simp[Ė]
 |[],_::_=>by simp[Ė]
 |_::_,[]=>by simp[Ė]
 |a::as,b::bs=>by simp[Ė,PyD.eqv,yc as bs]
noncomputable instance{M:Type}[PyD M]:PyD (List M) where
 dat a:=.list (a.map PyD.dat)
 dr h:=by
  obtain⟨p,xs,e,s,n,r⟩:=h;subst e;exact .lst s (sU r)
 lay a:=s_ a
 dep:=PyD.dep M+1
 depth a:=by
  show ę (a.map PyD.dat)+1<=_;have:=yr a;lia
 eqv a b:=by rw[ç];exact yc a b
inductive Bd:Type 1
 |val {M:Type} [Py M] (b:Bool) (a:M):Bd
 |own {M:Type} [Py M] (b:Bool) (as:List M):Bd
 |dpo {M:Type} [Py M] (a:M):Bd
variable{g:Bd}
abbrev aK:=List (Option Bd)
noncomputable def Nf(H0:Hp):Bool->Nn
 |true=>.new H0
 |false=>.any
def Nf.wk{b:Bool}{xs:Mt}(h:H0 p=none)(a:H p=À (mo xs)):(Nf H0 b).has H p xs:=by cases b;exact É;exact#[h,a]
def Nf.le{b b':Bool}{xs:Mt}(l:b'=Á->b=Á)(h:(Nf H0 b).has H p xs):(Nf H0 b').has H p xs:=by
 cases b' with
 |false=>exact É
 |true=>rw[l rfl] at h;exact h
def Bd.ok(K:Ã)(H0:Hp)(O:Ç->Prop)(H:Hp)(v:V):Bd->Prop
 |@Bd.val _ _ b a=>Py.rp K (Nf H0 b) .G v a
 |@Bd.own _ _ _ _=>False
 |@Bd.dpo _ _ _=>False
def Bd.AW(K:Ã)(H0:Hp)(O:Ç->Prop)(H:Hp)(D:Ç->Prop)(v:V):Bd->Prop
 |@Bd.val _ _ _ _=>False
 |@Bd.own _ _ b as=>∃p xs,v=.ref p/\D p/\H p=À (.lst xs)/\ß (λx a=>Py.rp K (Nf H0 b) .G x a) xs as
 |@Bd.dpo _ _ a=>Py.rp K (.set D) H v a
def Bd.g7:Bd->Prop
 |@Bd.val _ _ _ _=>False
 |@Bd.own _ _ _ _=>True
 |@Bd.dpo _ _ _=>True
structure dU(K:Ã)(H0:Hp)(F O:Ç->Prop)(U:aK)(Y:St)(H:Hp):Prop where
 same:aG H0 H
 fo:∀p,F p->O p
 f0:∀p,F p->∃xs:Mt,H0 p=À (mo xs)
 own:∀p,O p->∃xs:Mt,H p=À (mo xs)
 len:Y.length=U.length
 at_:∀(i:Nat) (g:Bd),U[i]?=À (À g)->¬g.g7->∃v,Y[i]?=À (À v)/\g.ok K H0 O H v
 dis:∃D:Nat->Ç->Prop,(∀i j p,D i p->D j p->i=j)/\(∀i p,D i p->O p/\H0 p=none)/\∀(i:Nat) (g:Bd),U[i]?=À (À g)->g.g7->∃v,Y[i]?=À (À v)/\g.AW K H0 O H (D i) v
section
variable{K:Ã}{H0:Hp}{F O:Ç->Prop}{U:aK}{Y:St}{H H':Hp}
def Bd.go(s:aG H H')(h:g.ok K H0 O H v):g.ok K H0 O H' v:=by
 cases g with
 |val b a=>exact ay (ah s) h
 |own b as=>exact h
 |dpo a=>exact h
def Bd.O0{D k:Ç->Prop}(h:g.AW K H0 O H D v)(i:∀p (xs:Mt),D p->H p=À (mo xs)->H' p=À (mo xs))(d:aG .G (off H' k))(m:∀p,D p->O p)(f:∀p,O p->∃xs:Mt,H p=À (mo xs)):g.AW K H0 k H' D v:=by
 cases g with
 |val b a=>exact h
 |own b as =>
  obtain⟨p,xs,e,o,q,r⟩:=h;exact#[p,xs,e,o,i p (.inl xs) o q,bN (λ_ _ z=>ay d z) r]
 |dpo a =>
  have h':Py.rp K (.set D) H v a:=h;refine Py.tr (M:=_) (a:=a) (λp xs q n=>?_) (λp xs q=>?_) h'
  .obtain⟨j,l⟩:=n;have h2:=i p xs j l;exact#[Mo.of h2,j,h2]
  .have hp:∀u,(H p=À (.tup u)\/∃o,H p=À (.frz o (.tup u)))->¬O p:=λu z hp=>by
    obtain⟨ys,w⟩:=f p hp;rcases z with z|⟨o,z⟩
    .rw[z] at w;rcases ys with ys|ys|ys<;>cases w
    .rw[z] at w;rcases ys with ys|ys|ys<;>cases w
   have c:=hp xs q.rd;rcases q with q|⟨o,q⟩
   .exact .inl ((av _ _) _ _ (d _ _ (by rw[aU c];exact q)))
   .exact .inr #[o,(av _ _) _ _ (d _ _ (by rw[aU c];exact q))]
def dU.go(S:dU K H0 F O U Y H)(s:aG H H'):dU K H0 F O U Y H' where
 same:=S.same.trans s
 fo:=S.fo
 f0:=S.f0
 own:=λp h=>let #[xs,q]:=S.own p h;#[xs,s _ _ q]
 len:=S.len
 at_:=λi g e n=>let #[v,q,r]:=S.at_ i g e n;#[v,q,Bd.go s r]
 dis:=by
  obtain⟨D,c,a,b⟩:=S.dis;refine#[D,c,a,λi g e o=>?_];obtain⟨v,q,r⟩:=b i g e o;exact#[v,q,Bd.O0 r (λp xs _ z=>s _ _ z) (ah s) (λp z=>(a i p z).1) S.own]
def dU.iD(S:dU K H0 F O U Y H)(h:H p=none):H0 p=none:=S.same.free h
def dU.mB(S:dU K H0 F O U Y H)(h:H p=none):¬O p:=λo=>by
 obtain⟨xs,q⟩:=S.own p o;rw[h] at q;cases q
def dU.back{M:Type}[Py M]{b:Bool}{a:M}(S:dU K H0 F O U Y H)(h:Py.rp K (Nf H b) (off H' O) v a):Py.rp K (Nf H0 b) (off H' O) v a :=
 bA (λp xs n=>by cases b with|true=>exact#[S.iD n.1,n.2]|false=>exact É) h
end
theorem get_set_ne.{u}{M:Type u}{l:List M}{i j:Nat}{a:M}(h:j≠i):(l.set i a)[j]?=l[j]?:=by
 rw[ZN (Z5 h)]
theorem get_set_eq.{u}{M:Type u}{l:List M}{i:Nat}{a:M}(h:i<l.length):(l.set i a)[i]?=À a:=by
 rw[ZC h]
theorem get_set_some.{u}{M:Type u}{l:List (Option M)}{i:Nat}{a x:M}(h:(l.set i (À a))[i]?=À (À x)):i<l.length/\a=x:=by
 by_cases b:i<l.length
 .rw[get_set_eq b] at h;injection h with h;injection h with h;exact#[b,h]
 .rw[Zq (by rw[YG];lia)] at h;cases h
def dU.set{K:Ã}{H0:Hp}{F O:Ç->Prop}{U:aK}{Y:St}{H:Hp}{M:Type}[Py M]{b:Bool}{a:M}{v:V}{i:Nat}(S:dU K H0 F O U Y H)(r:Py.rp K (Nf H0 b) .G v a):
  dU K H0 F O (U.set i (À (.val b a))) (Y.set i (À v)) H where
 same:=S.same
 fo:=S.fo
 f0:=S.f0
 own:=S.own
 len:=by rw[YG,YG];exact S.len
 at_:=λj g e n=>by
  by_cases c:j=i
  .subst c;obtain⟨l,d⟩:=get_set_some e;subst d;exact#[v,get_set_eq (by rw[S.len];exact l),r]
  .rw[get_set_ne c] at e;obtain⟨w,q,z⟩:=S.at_ j g e n;exact#[w,by rw[get_set_ne c];exact q,z]
 dis:=by
  obtain⟨D,h,k,f⟩:=S.dis;refine#[D,h,k,λj g e o=>?_]
  have c:j≠i:=by
   rintro rfl;obtain⟨_,d⟩:=get_set_some e;subst d;exact o
  rw[get_set_ne c] at e;obtain⟨w,q,z⟩:=f j g e o;exact#[w,by rw[get_set_ne c];exact q,z]
def tV{M:Type}[Py M](K:Ã)(U:aK)(b:Bool)(a:M):TE:=λY H Q=>∃H0 F O,dU K H0 F O U Y H/\∀v H',aG H H'->Py.rp K (Nf H0 b) (off H' O) v a->Q v H'
@[irreducible] def E{M:Type}[Py M](X:Cx)(U:aK)(e:Õ)(b:Bool)(a:M):Prop:=PE X e (tV X.K U b a)
def M1(K:Ã)(U:aK)(c:Bool):TT:=λY H Q=>∃H0 F O,dU K H0 F O U Y H/\∀H',aG H H'->Q c H'
@[irreducible] def T(X:Cx)(U:aK)(e:Õ)(c:Bool):Prop:=PT X e (M1 X.K U c)
@[irreducible] def TW(X:Cx)(U:aK)(e:Õ)(c:Bool):Prop:=PW X e (M1 X.K U c)
def aP{t t':TE}(h:PE X e t)(w:∀Y H Q,t' Y H Q->t Y H Q):PE X e t':=λZ2 s Y H Q I q=>h Z2 s Y H Q I (w _ _ _ q)
def uV{t t':TT}(h:PT X e t)(w:∀Y H Q,t' Y H Q->t Y H Q):PT X e t':=λZ2 s Y H Q I q=>h Z2 s Y H Q I (w _ _ _ q)
def Cf{t t':TT}(h:PW X e t)(w:∀Y H Q,t' Y H Q->t Y H Q):PW X e t':=λa Z2 s Y H Q I q=>h a Z2 s Y H Q I (w _ _ _ q)
section
variable{X:Cx}{U:aK}{M β γ:Type}[Py M][Py β][Py γ]{e e1 e2 e3:Õ}{b b1 b2 b3:Bool}{pos:ò}
def ae(i:Nat){a:M}(h:autoParam (U[i]?=À (À (.val b a))) zra)(e:autoParam (X.N[i]?=À x) zra)(d:Iy X.env.scope x:=by first|exact Ă rfl|exact ñ (Ă rfl)|exact ñ (ñ rfl))
  (f:(x==("__debug__":Ð))=Â:=by decide) (c:(x==("__classdict__":Ð))=Â:=by decide):E X U (.Name x pos) b a:=by
 stop
  exact aP (pv i e d f c) λY H Q ⟨H0,F,O,S,q⟩=>by
    obtain⟨v,h1,h2⟩:=S.at_ i _ h (λz=>z);exact#[v,h1,q v H (aG.refl _) h2]
def af{j:Nat}:E X U (.Constant (.int i) j pos) Á i:=by stop exact aP Mr λY H Q ⟨H0,F,O,S,q⟩=>q _ H (aG.refl _) rfl
def jX{i:Bool}{j:Nat}:E X U (.Constant (.bool i) j pos) Á i:=by stop exact aP OX λY H Q ⟨H0,F,O,S,q⟩=>q _ H (aG.refl _) rfl
def lA{j:Nat}:E X U (.Constant .none j pos) Á (none:Option M):=by stop exact aP Mq λY H Q ⟨H0,F,O,S,q⟩=>q _ H (aG.refl _) rfl
theorem E.some{a:M}(h:E X U e b a):E X U e b (À a):=by stop exact aP h λY H Q ⟨H0,F,O,S,q⟩=>#[H0,F,O,S,λv H' s r=>q v H' s r]
def Ax{op:Operator}{C:Int->Int->Prop}{g:Int->Int->Int}(d:ku X (ď op) (rI C λi j=>.int (g i j)))(ha:E X U e1 b1 i)(b:E X U e2 b2 j)(h:C i j):E X U (.BinOp e1 op e2 pos) Á (g i j):=by stop exact aP (yq d ha b) λY H Q ⟨H0,F,O,S,q⟩=>#[H0,F,O,S,λv H1 a e=>#[H0,F,O,S.go a,λw H2 c f=>#[i,j,e,f,h,q _ H2 (a.trans c) rfl]]]
def bX(ha:E X U e1 b1 i)(a:E X U e2 b2 j):E X U (.BinOp e1 .Add e2 pos) Á (i+j):=by stop exact Ax (C:=λ_ _=>True) (λZ2 s Y H x y v u Q I c b ⟨i,j,h1,h2,_,q⟩=>Mi Z2 s Y H x y v u Q I c b #[i,j,h1,h2,q]) ha a É
def eO(ha:E X U e1 b1 i)(a:E X U e2 b2 j):E X U (.BinOp e1 .Sub e2 pos) Á (i-j):=by stop exact Ax (C:=λ_ _=>True) (λZ2 s Y H x y v u Q I c b ⟨i,j,h1,h2,_,q⟩=>M0 Z2 s Y H x y v u Q I c b #[i,j,h1,h2,q]) ha a É
def aF(ha:E X U e1 b1 i)(a:E X U e2 b2 j)(b:ģ i j):E X U (.BinOp e1 .Mult e2 pos) Á (i*j):=by stop exact Ax Kf ha a b
def a9(ha:E X U e1 b1 i)(a:E X U e2 b2 j)(b:Ct i j):E X U (.BinOp e1 .FloorDiv e2 pos) Á (i.fdiv j):=by stop exact Ax ER ha a b
def aS(ha:E X U e1 b1 i)(a:E X U e2 b2 j)(b:j≠0):E X U (.BinOp e1 .Mod e2 pos) Á (i.fmod j):=by stop exact Ax JG ha a b
def Ph(ha:E X U e1 b1 i)(a:E X U e2 b2 j)(b:G4 i j):E X U (.BinOp e1 .Pow e2 pos) Á (i^j.toNat):=by stop exact Ax Nu ha a b
def eT(ha:E X U e1 b1 i):E X U (.UnaryOp .USub e1 pos) Á (-i):=by stop exact aP (Pc Oh ha) λY H Q ⟨H0,F,O,S,q⟩=>#[H0,F,O,S,λv H1 a b=>#[i,b,q _ H1 a rfl]]
def CV(X:Cx)(op:ş)(x:M)(y:β)(c:Bool):Prop:=∃r,ku X (æ op) r/\∀(N N':Nn) (H:Hp) (u v:V) (Q:VK),Py.rp X.K N H u x->Py.rp X.K N' H v y->Q (.bl c) H->r u v H Q
def BC{g:Int->Int->Bool}(a:ku X (æ op) (IL λi j=>.bl (g i j)))(i j:Int):CV X op i j (g i j):=#[_,a,λN N' H u v Q h1 h2 q=>#[i,j,h1,h2,q]]
def fY:CV X .Lt i j (decide (i<j)):=BC PQ i j
def FY:CV X .LtE i j (decide (i<=j)):=BC PD i j
def eW:CV X .Gt i j (decide (j<i)):=BC PL i j
def Gs:CV X .GtE i j (decide (j<=i)):=BC Pr i j
def az:CV X .Eq i j (decide (i=j)):=#[_,P0,λN N' H u v Q h1 h2 q=>by
 cases h1;cases h2;refine#[rfl,?_]
 rw[q_,aaR];exact q]
def gA:CV X .NotEq i j (!decide (i=j)):=#[_,Qs,λN N' H u v Q h1 h2 q=>by
 cases h1;cases h2;refine#[rfl,?_]
 rw[q_,aaR];exact q]
def KY{M:Type}[PyD M][DecidableEq M]{x y:M}(b:X.A.units+60<ğ)(a:autoParam (PyD.dep M<=60) zrb):CV X .Eq x y (decide (x=y)):=#[_,Nt b,λN N' H u v Q h1 h2 q=>by
 refine#[_,_,PyD.dr h1,PyD.dr h2,PyD.lay _,PyD.lay _,Ye (PyD.depth _) a,?_]
 have e:ç (PyD.dat x) (PyD.dat y)=decide (x=y):=by
  by_cases h:x=y
  .rw[XY h];exact(PyD.eqv x y).mpr h
  .rw[X1 h];exact ab8.mpr λz=>h ((PyD.eqv x y).mp z)
 rw[e];exact q]
def PN{M:Type}[PyD M][DecidableEq M]{x y:M}(b:X.A.units+60<ğ)(a:autoParam (PyD.dep M<=60) zrb):CV X .NotEq x y (!decide (x=y)):=#[_,L_ b,λN N' H u v Q h1 h2 q=>by
 refine#[_,_,PyD.dr h1,PyD.dr h2,PyD.lay _,PyD.lay _,Ye (PyD.depth _) a,?_]
 have e:ç (PyD.dat x) (PyD.dat y)=decide (x=y):=by
  by_cases h:x=y
  .rw[XY h];exact(PyD.eqv x y).mpr h
  .rw[X1 h];exact ab8.mpr λz=>h ((PyD.eqv x y).mp z)
 rw[e];exact q]
def eN{x:M}{y:β}(j:CV X op x y c)(ha:E X U e1 b1 x)(d:E X U e2 b2 y)(i:ø op e2=Â:=by first|exact E1 _|rfl):E X U (.Compare e1 [op] [e2] pos) Á c:=by
 stop
  obtain⟨r,e,h⟩:=j
  exact aP (Ke e ha d i) λY H Q ⟨H0,F,O,S,q⟩=>#[H0,F,O,S,λv H1 b f=>#[H0,F,O,S.go b,λw H2 a g =>
   h _ _ H2 v w _ (ay ((ah a).trans (av _ _)) f) (ay (av _ _) g) (q _ H2 (b.trans a) rfl)]]
def ax{x:M}{y:β}(j:CV X op x y c)(ha:E X U e1 b1 x)(d:E X U e2 b2 y)(i:ø op e2=Â:=by first|exact E1 _|rfl):T X U (.Compare e1 [op] [e2] pos) c:=by
 stop
  obtain⟨r,e,h⟩:=j
  exact uV (J9 e ha d i) λY H Q ⟨H0,F,O,S,q⟩=>#[H0,F,O,S,λv H1 b f=>#[H0,F,O,S.go b,λw H2 a g =>
   h _ _ H2 v w _ (ay ((ah a).trans (av _ _)) f) (ay (av _ _) g) #[c,rfl,q H2 (b.trans a)]]]
def K1{x:Option M}{j:Nat}{p:ò}(ha:E X U e1 b1 x)(e:∀(K:Ã) (N:Nn) (H:Hp) (a:M),¬Py.rp K N H .non a):E X U (.Compare e1 [.Is] [.Constant .none j p] pos) Á x.isNone:=by
 stop
  exact aP (GQ (FD ha)) λY H Q ⟨H0,F,O,S,q⟩=>#[H0,F,O,S,λv H1 d b=>by
    have:=q (.bl (decide (v=.non))) H1 d;refine this ?_;cases x with
    |none=>cases b;rfl
    |some a =>
     have c:v≠.non:=by rintro rfl;exact e _ _ _ a b
     show V.bl (decide (v=.non))=.bl Â
     rw[X1 c]]
def y9{x:Option M}{j:Nat}{p:ò}(ha:E X U e1 b1 x)(f:∀(K:Ã) (N:Nn) (H:Hp) (a:M),¬Py.rp K N H .non a):T X U (.Compare e1 [.Is] [.Constant .none j p] pos) x.isNone:=by
 stop
  exact uV (G6 (FD ha)) λY H Q ⟨H0,F,O,S,q⟩=>#[H0,F,O,S,λv H1 d b=>by
    refine#[decide (v=.non),rfl,?_]
    have e:decide (v=.non)=x.isNone:=by
     cases x with
     |none=>cases b;rfl
     |some a =>
      have c:v≠.non:=by rintro rfl;exact f _ _ _ a b
      rw[X1 c];rfl
    rw[e];exact q H1 d]
def hW(h:E X U e b c)(he:autoParam (∀whole,Η e X.env whole=(do let v <-whole;standAt e.pos;Ĭ [v] (truthy v))) zrc):T X U e c:=by stop exact uV (N1 h he) λY H Q ⟨H0,F,O,S,q⟩=>#[H0,F,O,S,λv H1 a d=>#[c,d,q H1 a]]
def lF(h:T X U e c):T X U (.UnaryOp .Not e pos) (!c):=by stop exact uV (Nj h) λY H Q ⟨H0,F,O,S,q⟩=>#[H0,F,O,S,λH1 a=>q H1 a]
variable{rest:List Õ}
def kW(h:T X U e c):TW X U (.BoolOp .And [e] pos) c:=by stop exact J0 h
def oB(h:T X U e c):TW X U (.BoolOp .Or [e] pos) c:=by stop exact LJ h
def Kw:PW X e (λ_ _ _=>False):=λ_ _ _ _ _ _ _ h=>h.elim
def qf:PE X e (λ_ _ _=>False):=λ_ _ _ _ _ _ h=>h.elim
def pH(h:T X U e1 c)(h':c=Á->TW X U (.BoolOp .And (e2::rest) pos) c'):TW X U (.BoolOp .And (e1::e2::rest) pos) (c&&c'):=by
 stop
  cases c with
  |true=>exact Cf (En h (h' rfl)) λY H Q ⟨H0,F,O,S,q⟩=>#[H0,F,O,S,λH1 a=>t_ #[H0,F,O,S.go a,λH2 b=>q H2 (a.trans b)]]
  |false=>exact Cf (En h Kw) λY H Q ⟨H0,F,O,S,q⟩=>#[H0,F,O,S,λH1 a=>t9 (q H1 a)]
def u3(h:T X U e1 c)(h':c=Â->TW X U (.BoolOp .Or (e2::rest) pos) c'):TW X U (.BoolOp .Or (e1::e2::rest) pos) (c || c'):=by
 stop
  cases c with
  |false=>exact Cf (Ll h (h' rfl)) λY H Q ⟨H0,F,O,S,q⟩=>#[H0,F,O,S,λH1 a=>t9 #[H0,F,O,S.go a,λH2 b=>q H2 (a.trans b)]]
  |true=>exact Cf (Ll h Kw) λY H Q ⟨H0,F,O,S,q⟩=>#[H0,F,O,S,λH1 a=>t_ (q H1 a)]
def TW.t(h:TW X U e c):T X U e c:=by stop exact h.pt
def iU{op:BoolOp}{a:M}(h:E X U e b a):E X U (.BoolOp op [e] pos) b a:=by stop exact Nx h
def lB(h:E X U e1 b1 c)(h':c=Á->E X U (.BoolOp .And (e2::rest) pos) b2 c'):E X U (.BoolOp .And (e1::e2::rest) pos) Á (c&&c'):=by
 stop
  cases c with
  |true=>exact aP (GR h (h' rfl)) λY H Q ⟨H0,F,O,S,q⟩=>#[H0,F,O,S,λv H1 a b=>#[Á,b,t_ #[H0,F,O,S.go a,λw H2 d e=>q w H2 (a.trans d) e]]]
  |false=>exact aP (GR h qf) λY H Q ⟨H0,F,O,S,q⟩=>#[H0,F,O,S,λv H1 a b=>#[Â,b,t9 (q _ H1 a rfl)]]
def HE(h:E X U e1 b1 c)(h':c=Â->E X U (.BoolOp .Or (e2::rest) pos) b2 c'):E X U (.BoolOp .Or (e1::e2::rest) pos) Á (c || c'):=by
 stop
  cases c with
  |false=>exact aP (Li h (h' rfl)) λY H Q ⟨H0,F,O,S,q⟩=>#[H0,F,O,S,λv H1 a b=>#[Â,b,t9 #[H0,F,O,S.go a,λw H2 d e=>q w H2 (a.trans d) e]]]
  |true=>exact aP (Li h qf) λY H Q ⟨H0,F,O,S,q⟩=>#[H0,F,O,S,λv H1 a b=>#[Á,b,t_ (q _ H1 a rfl)]]
def E4(h:E X U e b c):E X U (.UnaryOp .Not e pos) Á (!c):=by stop exact aP (NB h) λY H Q ⟨H0,F,O,S,q⟩=>#[H0,F,O,S,λv H1 a d=>#[c,d,q _ H1 a rfl]]
def kP{x y:M}(g:T X U e c)(ha:c=Á->E X U e1 b x)(h:c=Â->E X U e2 b y):E X U (.IfExp e e1 e2 pos) b (if c then x else y):=by
 stop
  cases c with
  |true=>exact aP (iT g (ha rfl) qf) λY H Q ⟨H0,F,O,S,q⟩=>#[H0,F,O,S,λH1 a=>t_ #[H0,F,O,S.go a,λw H2 d f=>q w H2 (a.trans d) f]]
  |false=>exact aP (iT g qf (h rfl)) λY H Q ⟨H0,F,O,S,q⟩=>#[H0,F,O,S,λH1 a=>t9 #[H0,F,O,S.go a,λw H2 d f=>q w H2 (a.trans d) f]]
def wB{xs:Mt}(h:(Nf H0 b1).has H p xs):(Nf H0 (b1&&b2)).has H p xs:=Nf.le (λz=>(YQ.mp z).1) h
def xu{xs:Mt}(h:(Nf H0 b2).has H p xs):(Nf H0 (b1&&b2)).has H p xs:=Nf.le (λz=>(YQ.mp z).2) h
def yF{F O:Ç->Prop}{U:aK}(S:dU K H0 F O U Y H)(hp:H p=none):aG H (upd H p (.tup xs))/\Rt (off (upd H p (.tup xs)) O) p xs:=by stop exact#[cD hp _,.inl (by rw[aU (S.mB hp)];exact aQ)]
def cJ{F O:Ç->Prop}{U:aK}(S:dU K H0 F O U Y H)(hp:H p=none):aG H (upd H p (.lst xs))/\off (upd H p (.lst xs)) O p=À (.lst xs):=by stop exact#[cD hp _,by rw[aU (S.mB hp)];exact aQ]
def bR{x:M}{y:β}{k:Nat}(ha:E X U e1 b1 x)(e:E X U e2 b2 y)(h:autoParam (Å [e1,e2] X.env=(Â,Ý e1 X.env)::Å [e2] X.env) zra)(a:autoParam (Å [e2] X.env=(Â,Ý e2 X.env)::Å [] X.env) zra):
  E X U (.Tuple [e1,e2] k pos) (b1&&b2) (x,y):=by
 stop
  exact aP (NV (aD ha (aD e bq a) h)) λY H Q ⟨H0,F,O,S,q⟩=>#[H0,F,O,S,λv H1 c f=>#[H0,F,O,S.go c,λw H2 b g=>#[by show 2<=sizeLine;decide,λp hp=>by
    obtain⟨d,i⟩:=yF (xs:=[v,w]) ((S.go c).go b) hp;refine q _ _ (c.trans (b.trans d)) #[p,v,w,rfl,i,?_,?_]
    .exact bA (λ_ _ n=>wB n) (ay ((ah b).trans (ah d)) f)
    .exact bA (λ_ _ n=>xu n) (ay (ah d) g)]]]
@[irreducible] def EA(X:Cx)(U:aK)(es:List Õ)(b:Bool)(as:List M):Prop :=
 PA X es λY H Q=>∃H0 F O,dU X.K H0 F O U Y H/\∀vs H',aG H H'->ß (λx a=>Py.rp X.K (Nf H0 b) (off H' O) x a) vs as->Q vs H'
def K8{X:Cx}{t t':TA}(h:PA X es t)(w:∀Y H Q,t' Y H Q->t Y H Q):PA X es t':=λp Z2 s Y H Q I q=>h p Z2 s Y H Q I (w _ _ _ q)
def bV:EA X U [] b ([]:List M):=by stop exact K8 bq λY H Q ⟨H0,F,O,S,q⟩=>q [] H (aG.refl _) .nil
def aE{a:M}{as:List M}(h:E X U e b a)(h':EA X U es b as)(i:autoParam (Å (e::es) X.env=(Â,Ý e X.env)::Å es X.env) zra):EA X U (e::es) b (a::as):=by stop exact K8 (aD h h' i) λY H Q ⟨H0,F,O,S,q⟩=>#[H0,F,O,S,λv H1 d f=>#[H0,F,O,S.go d,λvs H2 c g=>q _ H2 (d.trans c) (.cons (ay (ah c) f) g)]]
def dR{as:List M}(h:EA X U es b as)(f:as.length<=1000):E X U (.List es pos) b as:=by
 stop
  exact aP (Am h) λY H Q ⟨H0,F,O,S,q⟩=>#[H0,F,O,S,λvs H1 a c=>#[by rw[bG c];exact Y0 (dc f),λp hp=>by
    obtain⟨d,e⟩:=cJ (xs:=vs) (S.go a) hp
    exact q _ _ (a.trans d) #[p,vs,rfl,dX.of e,Nf.wk ((S.go a).iD hp) e,bN (λ_ _ r=>ay (ah d) r) c]]]
def aZ{xs:List M}{a:M}(ha:E X U e1 b xs)(o:E X U e2 b2 i)(h:zd xs i=À a)(u:rk e2:=by intro _ _;rfl):E X U (.Subscript e1 e2 pos) b a:=by
 stop
  exact aP (yL B3 ha o u) λY H Q ⟨H0,F,O,S,q⟩=>#[H0,F,O,S,λv H1 d s=>#[H0,F,O,S.go d,λw H2 c t=>by
    obtain⟨p,vs,e,y,n,r⟩:=s;obtain⟨j,h1,h2,A,z,B⟩:=nY h;obtain⟨x,l,m⟩:=gQ r h2;refine#[p,vs,i,x,e,t,(av _ _).seq ((ah c).seq y),?_,q x H2 (d.trans c) (ay (ah c) m)];unfold zd at h ⊢;rw[bG r];cases f:D1 xs.length i with
    |none=>rw[f] at h;cases h
    |some k =>
     have g:=(mZ f).1;rw[h1] at g;cases g
     exact l]]
def bt{u:M×β}{j:Nat}{d:ò}(ha:E X U e1 b u):E X U (.Subscript e1 (.Constant (.int 0) j d) pos) b u.1:=by
 stop
  exact aP (yL Ah ha af (λ_ _=>rfl)) λY H Q ⟨H0,F,O,S,q⟩=>#[H0,F,O,S,λv H1 c f=>#[H0,F,O,S.go c,λw H2 a g=>by
    obtain⟨p,u,l,e,h,i,k⟩:=f
    exact#[p,_,0,u,e,g,xD (av _ _) (aG.rt (ah a) h),rfl,q u H2 (c.trans a) (ay (ah a) i)]]]
def bO{u:M×β}{j:Nat}{g:ò}(ha:E X U e1 b u):E X U (.Subscript e1 (.Constant (.int 1) j g) pos) b u.2:=by
 stop
  exact aP (yL Ah ha af (λ_ _=>rfl)) λY H Q ⟨H0,F,O,S,q⟩=>#[H0,F,O,S,λv H1 d h=>#[H0,F,O,S.go d,λw H2 a i=>by
    obtain⟨p,u,c,e,k,l,f⟩:=h
    exact#[p,_,1,c,e,i,xD (av _ _) (aG.rt (ah a) k),rfl,q c H2 (d.trans a) (ay (ah a) f)]]]
def iw{p:ò}(c:Gl X "abs")(f:X.mg "abs"=none)(ha:E X U e b i)(a:autoParam (Å [e] X.env=(Â,Ý e X.env)::Å [] X.env) zra):E X U (.Call (.Name "abs" p) [e] [] pos) Á (if i<0 then -i else i):=by stop exact aP (f7 F6 c f boot_abs (aD ha bq a) (he:=a)) λY H Q ⟨H0,F,O,S,q⟩=>#[H0,F,O,S,λv H1 d g=>#[i,by cases g;rfl,q _ H1 d rfl]]
def O5{p:ò}(l:X.calm=Á)(e:Gl X "min")(k:X.mg "min"=none)(ha:E X U e1 b1 i)(d:E X U e2 b2 j)(c:autoParam (Å [e1,e2] X.env=(Â,Ý e1 X.env)::Å [e2] X.env) zra)(a:autoParam (Å [e2] X.env=(Â,Ý e2 X.env)::Å [] X.env) zra)(hpl:autoParam ((ì pos (Å [e2] X.env)).any (·.1)=Â) zra):
  E X U (.Call (.Name "min" p) [e1,e2] [] pos) Á (if j<i then j else i):=by stop exact aP (f7 (Dh l) e k boot_min (aD ha (aD d bq a) c) (he:=c) (hpl:=hpl)) λY H Q ⟨H0,F,O,S,q⟩=>#[H0,F,O,S,λv H1 b g=>#[H0,F,O,S.go b,λw H2 f h=>#[i,j,by cases g;cases h;rfl,q _ H2 (b.trans f) rfl]]]
def Pp{p:ò}(l:X.calm=Á)(e:Gl X "max")(k:X.mg "max"=none)(ha:E X U e1 b1 i)(d:E X U e2 b2 j)(c:autoParam (Å [e1,e2] X.env=(Â,Ý e1 X.env)::Å [e2] X.env) zra)(a:autoParam (Å [e2] X.env=(Â,Ý e2 X.env)::Å [] X.env) zra)(hpl:autoParam ((ì pos (Å [e2] X.env)).any (·.1)=Â) zra):
  E X U (.Call (.Name "max" p) [e1,e2] [] pos) Á (if j>i then j else i):=by stop exact aP (f7 (Ds l) e k boot_max (aD ha (aD d bq a) c) (he:=c) (hpl:=hpl)) λY H Q ⟨H0,F,O,S,q⟩=>#[H0,F,O,S,λv H1 b g=>#[H0,F,O,S.go b,λw H2 f h=>#[i,j,by cases g;cases h;rfl,q _ H2 (b.trans f) rfl]]]
def br{xs:List M}{p:ò}(c:Gl X "len")(g:X.mg "len"=none)(ha:E X U e b xs)(a:autoParam (Å [e] X.env=(Â,Ý e X.env)::Å [] X.env) zra):E X U (.Call (.Name "len" p) [e] [] pos) Á (xs.length:Int):=by
 stop
  exact aP (f7 xo c g PySem.boot_len (aD ha bq a) (he:=a)) λY H Q ⟨H0,F,O,S,q⟩=>#[H0,F,O,S,λv H1 d f=>by
    obtain⟨p,vs,e,h,n,r⟩:=f;refine#[p,vs,by rw[e],.inl ((av _ _).seq h),q _ H1 d ?_];show V.int _=V.int _
    rw[bG r]]
end
structure GD where
 nx:aK->Prop
 rt:Bd->Prop
 bk:aK->Prop:=λ_=>False
 ct:aK->Prop:=λ_=>False
def Bd.Th(K:Ã)(H0:Hp)(F:Ç->Prop)(H:Hp)(v:V):Bd->Prop
 |@Bd.val _ _ b a=>Py.rp K (Nf H0 b) (off H F) v a
 |@Bd.own _ _ _ _=>False
 |@Bd.dpo _ _ _=>False
def tG(K:Ã)(U:aK)(D:GD):TS:=λb Y H=>∃H0 F O,dU K H0 F O U Y H /\
 (∀U' Y' H' a,aG .G (off H' a)->dU K H0 F a U' Y' H'->D.nx U'->b.nx Y' H') /\
 (∀g v H',aG H0 H'->Bd.Th K H0 F H' v g->D.rt g->b.rt v H') /\
 (∀U' Y' H' a,aG .G (off H' a)->dU K H0 F a U' Y' H'->D.bk U'->b.bk Y' H') /\
 (∀U' Y' H' a,aG .G (off H' a)->dU K H0 F a U' Y' H'->D.ct U'->b.ct Y' H')
@[irreducible] def S(X:Cx)(U:aK)(st:List Ò)(D:GD):Prop:=rh X st (tG X.K U D)
@[irreducible] def S1(X:Cx)(U:aK)(st:Ò)(D:GD):Prop:=PS X st (tG X.K U D)
def eQ{st:Ò}{t t':TS}(h:PS X st t)(w:∀D Y H,t' D Y H->t D Y H):PS X st t':=λZ2 s Y H D I q=>h Z2 s Y H D I (w _ _ _ q)
def tj{st:List Ò}{t t':TS}(h:rh X st t)(w:∀D Y H,t' D Y H->t D Y H):rh X st t':=λZ2 s Y H D I q=>h Z2 s Y H D I (w _ _ _ q)
section
variable{X:Cx}{U:aK}{D:GD}{M β γ:Type}[Py M][Py β][Py γ]{e e1 e2 e3:Õ}{b b1 b2 b3:Bool}{pos:ò}{st:Ò}{rest body orelse:List Ò}
def aM(h:D.nx U):S X U [] D:=by stop exact tj Jg λa Y H ⟨H0,F,O,Z,n,_⟩=>n U Y H O (aG.refl _) Z h
def E8{X:Cx}{st:List Ò}{ι:Type 1}{P:ι->Prop}{t:ι->TS}(h:∀i,P i->rh X st (t i)):rh X st (λD Y H=>∃i,P i/\t i D Y H):=λZ2 s Y H D I ⟨i,p,q⟩=>h i p Z2 s Y H D I q
def eP(h:S1 X U st {D with nx:=λU'=>S X U' rest D}):S X U (st::rest) D:=by
 stop
  exact tj (Hb h (E8 (ι:=aK) (P:=λU'=>S X U' rest D) (t:=λU'=>tG X.K U' D) λ_ q=>q)) λg Y H ⟨H0,F,O,Z,n,r,bk,ct⟩ =>
    #[H0,F,O,Z,λU' Y' H' f sm e q=>#[U',q,H0,F,f,e,λΓ2 σ2 H2 c a d b=>n Γ2 σ2 H2 c (sm.trans a) d b,r,λΓ2 σ2 H2 c a d b=>bk Γ2 σ2 H2 c (sm.trans a) d b,
     λΓ2 σ2 H2 c a d b=>ct Γ2 σ2 H2 c (sm.trans a) d b],r,bk,ct]
def aq(i:Nat){a:M}{p:ò}(f:X.N.Nodup)(he:E X U e b a)(h:S X (U.set i (À (.val b a))) rest D)(hi:autoParam (X.N[i]?=À x) zra)(j:Loc X.env.scope x:=by first|exact Ă rfl|exact ñ rfl)
  (k:Ā e (À (.Name x p)) pos.line X.env=pure Â:=by rfl) (d:X.fn x=Á\/X.env.scope.names.lookup x=À .local:=by first|exact .inl rfl|exact .inr rfl):S X U (.Assign [.Name x p] e pos::rest) D:=by stop exact eP (eQ (vH f hi j he k d) λl Y H ⟨H0,F,O,Z,n,_⟩=>#[H0,F,O,Z,λv H1 c g=>n _ _ H1 O (ah c) ((Z.go c).set g) h])
def wu{a:M}(he:E X U e b a)(h:S X U rest D)(d:autoParam (Ā e none pos.line X.env=pure Â) zra):S X U (.Expr e pos::rest) D:=by stop exact eP (eQ (BA he d) λf Y H ⟨H0,F,O,Z,n,_⟩=>#[H0,F,O,Z,λv H1 c g=>n U Y H1 O (ah c) (Z.go c) h])
def aw{a:M}(he:E X U e b a)(h:D.rt (.val b a)):S X U (.Return (À e) pos::rest) D:=by stop exact eP (eQ (HF he) λf Y H ⟨H0,F,O,Z,n,r,_⟩=>#[H0,F,O,Z,λv H1 c d=>r (.val b a) v H1 ((Z.go c).same) (ay (nP Z.fo) d) h])
def P5(d:T X U e c)(h1:c=Á->S X U body {D with nx:=λU'=>S X U' rest D})(h2:c=Â->S X U orelse {D with nx:=λU'=>S X U' rest D}):S X U (.If e body orelse pos::rest) D:=by
 stop
  cases c with
  |true=>exact eP (eQ (K2 d (h1 rfl) vt) λf Y H ⟨H0,F,O,Z,n,r,bk,ct⟩=>#[H0,F,O,Z,λH1 b=>t_ #[H0,F,O,Z.go b,λΓ2 σ2 H2 a sm=>n Γ2 σ2 H2 a ((ah b).trans sm),r,λΓ2 σ2 H2 a sm=>bk Γ2 σ2 H2 a ((ah b).trans sm),λΓ2 σ2 H2 a sm=>ct Γ2 σ2 H2 a ((ah b).trans sm)]])
  |false=>exact eP (eQ (K2 d vt (h2 rfl)) λf Y H ⟨H0,F,O,Z,n,r,bk,ct⟩=>#[H0,F,O,Z,λH1 b=>t9 #[H0,F,O,Z.go b,λΓ2 σ2 H2 a sm=>n Γ2 σ2 H2 a ((ah b).trans sm),r,λΓ2 σ2 H2 a sm=>bk Γ2 σ2 H2 a ((ah b).trans sm),λΓ2 σ2 H2 a sm=>ct Γ2 σ2 H2 a ((ah b).trans sm)]])
def aH(a:T X U e c)(h1:c=Á->S X U body {D with nx:=λU'=>S X U' rest D})(h2:c=Â->S X U rest D):S X U (.If e body [] pos::rest) D:=by stop exact P5 a h1 λz=>aM (h2 z)
def j5(X:Cx)(body:List Ò):TS:=λb Y H=>∃U',∃a,S X U' body a/\tG X.K U' a b Y H
def g_:rh X body (j5 X body):=by stop exact λZ2 s Y H a I ⟨U',b,t,q⟩=>(show rh X body (tG X.K U' b) from t) Z2 s Y H a I q
def cH{ι:Type}(J:ι->aK->Prop)(μ:ι->Nat)(v:ι)(z:J v U)(y:∀i U',J i U'->∃c,T X U' e c/\(c=Á->S X U' body {D with nx:=λΓ2=>∃j,J j Γ2/\μ j<μ i,ct:=λΓ2=>∃j,J j Γ2/\μ j<μ i,bk:=λΓ2=>S X Γ2 rest D})/\(c=Â->S X U' rest D))
  (hp:Ĕ .F X.A X.env X.xe:=by exact aag):S X U (.While e body [] pos::rest) D:=by
 stop
  refine eP (eQ (F2 (tc:=λY H Q=>∃U',∃c,T X U' e c/\M1 X.K U' c Y H Q) (tb:=j5 X body) hp
   (λZ2 s Y H Q I ⟨U',c,t,q⟩=>(show PT X e (M1 X.K U' c) from t) Z2 s Y H Q I q) g_) λB Y H ⟨H0,F,O,Z,n,r,bk,ct⟩=>?_)
  refine#[λm Y' H'=>∃i U' h,aG .G (off H' h)/\dU X.K H0 F h U' Y' H'/\J i U'/\m=μ i,#[_,v,U,O,aG.refl _,Z,z,rfl],?_];rintro m Y' H' ⟨i,U',h,sm,o,j,rfl⟩;obtain⟨c,t,u,p⟩:=y i U' j;refine#[U',c,t,H0,F,h,o,λH1 g=>?_];cases c with
  |true =>
   refine t_ #[λσ2 H2=>∃d Γ2 b,aG .G (off H2 b)/\dU X.K H0 F b Γ2 σ2 H2/\J d Γ2/\μ d<μ i,λσ2 H2 ⟨d,Γ2,b,a,f,x,l⟩=>#[μ d,l,d,Γ2,b,a,f,x,rfl],U',_,u rfl,H0,F,h,o.go g,?_,r,?_,?_]
   .exact λΓ2 σ2 H2 b a f ⟨d,q1,k⟩=>#[d,Γ2,b,sm.trans ((ah g).trans a),f,q1,k]
   .exact λΓ2 σ2 H2 b a f q=>n Γ2 σ2 H2 b (sm.trans ((ah g).trans a)) f q
   .exact λΓ2 σ2 H2 b a f ⟨d,q1,k⟩=>#[d,Γ2,b,sm.trans ((ah g).trans a),f,q1,k]
  |false=>exact t9 (n U' Y' H1 h (sm.trans (ah g)) (o.go g) (p rfl))
def GP(g:TG)(M:Type)[Py M](put:Bool->M->aK->aK)(tc:Nat->Prop)(K:Ã):Prop :=
 ∀(b:Bool) (a:M) (H0:Hp) (F O:Ç->Prop) (U:aK) (Y:St) (H:Hp) (v:V) (Q:St->Hp->Prop),dU K H0 F O U Y H->Py.rp K (Nf H0 b) .G v a ->
  (∀Y',dU K H0 F O (put b a U) Y' H->Y'.length=Y.length->(∀j,¬tc j->Y'[j]?=Y[j]?)->Q Y' H)->g v Y H Q
def G(X:Cx)(tg:Õ)(g:TG)(M:Type)[Py M](put:Bool->M->aK->aK)(tc:Nat->Prop):Prop:=PG X tg g/\GP g M put tc X.K
def bu(i:Nat):GP (kN i) M (λb a U=>U.set i (À (.val b a))) (·=i) K:=λb a H0 F O U Y H v Q Z r q=>q _ (Z.set r) (YG ..) λj c=>get_set_ne c
def cS(i:Nat)(e:X.N.Nodup)(hi:autoParam (X.N[i]?=À x) zra)(c:Loc X.env.scope x:=by first|exact Ă rfl|exact ñ rfl)(d:autoParam (X.fn x=Á\/X.env.scope.names.lookup x=À .local) zrd):
  G X (.Name x pos) (kN i) M (λb a U=>U.set i (À (.val b a))) (·=i):=#[mJ e hi c d,bu i]
variable{δ:Type}[Py δ]{tg:Õ}{g:TG}{tc:Nat->Prop}
def eJ{put:Bool->Int->aK->aK}{n:Int}{p:ò}(J:Nat->aK->Prop)(s:Gl X "range")(z:X.mg "range"=none)(m:G X tg g Int put tc)(he:E X U e b n)(h1:-(2^62)<=n)(h2:n<2^62)(L:J 0 U)
  (C:∀(i:Nat) U',i<n.toNat->J i U'->S X (put Á (i:Int) U') body {D with nx:=J (i+1),ct:=J (i+1),bk:=λΓ2=>S X Γ2 rest D}) (I:∀U',J n.toNat U'->S X U' rest D)
  (u:X.calm=Á:=by rfl) (hp:Ĕ .F X.A X.env X.xe:=by exact aag) (B:Å [e] X.env=[(Â,Ý e X.env)]:=by rfl) (l:Å [e] X.env=(Â,Ý e X.env)::Å [] X.env:=by rfl)
  (k:∀x,Ü (.Call (.Name "range" p) [e] [] ps) X.env x=pure x:=by intro _;rfl):S X U (.For tg (.Call (.Name "range" p) [e] [] ps) body [] pos::rest) D:=by
 stop
  refine eP (eQ (o3 hp u (uD s z (aD he bq l) B) m.1 (tb:=j5 X body) g_ k) λt Y H ⟨H0,F,O,Z,nx,r,bk,ct⟩=>?_);refine#[H0,F,O,Z,λv H1 o y=>#[n,by cases y;rfl,h1,h2,CY (lo:=0) (n:=n.toNat) (g:=g) (tb:=j5 X body) (D:=t) (λi Y' H'=>∃U' d,aG .G (off H' d)/\dU X.K H0 F d U' Y' H'/\J i U') #[U,O,ah o,Z.go o,L] ?_ ?_]]
  .rintro i Y' H' hi ⟨U',d,sm,h,j⟩;refine m.2 Á (i:Int) H0 F d U' Y' H' _ _ h (by show V.int _=V.int _;rw[acu]) λσ2 c _ _=>?_;refine#[_,_,C i U' hi j,H0,F,d,c,?_,r,?_,?_]
   .exact λΓ2 σ2 H2 f a c q=>#[Γ2,f,sm.trans a,c,q]
   .exact λΓ2 σ2 H2 f a c q=>nx Γ2 σ2 H2 f (sm.trans a) c q
   .exact λΓ2 σ2 H2 f a c q=>#[Γ2,f,sm.trans a,c,q]
  .rintro Y' H' ⟨U',d,sm,h,j⟩;exact nx U' Y' H' d sm h (I U' j)
def xM{put:Bool->Int->aK->aK}{n c:Int}{p:ò}(J:Nat->aK->Prop)(I:Gl X "range")(Γ:X.mg "range"=none)(B:G X tg g Int put tc)(s:E X U e1 b1 lo)(z:E X U e2 b2 n)(y:E X U e3 b3 c)(N:-(2^62)<=lo/\lo<2^62/\-(2^62)<=n/\n<2^62)(m:c≠0/\-1000<=c/\c<=1000)(σ:J 0 U)
  (V:∀(i:Nat) U',i<(Ó lo n c).toNat->J i U'->S X (put Á (lo+i*c:Int) U') body {D with nx:=J (i+1),ct:=J (i+1),bk:=λΓ2=>S X Γ2 rest D}) (W:∀U',J (Ó lo n c).toNat U'->S X U' rest D)
  (α:X.calm=Á:=by rfl) (hp:Ĕ .F X.A X.env X.xe:=by exact aag)
  (e:Å [e1,e2,e3] X.env=(Â,Ý e1 X.env)::Å [e2,e3] X.env:=by rfl) (t:Å [e2,e3] X.env=(Â,Ý e2 X.env)::Å [e3] X.env:=by rfl) (k:Å [e3] X.env=(Â,Ý e3 X.env)::Å [] X.env:=by rfl)
  (hpl:(ì ps (Å [e2,e3] X.env)).any (·.1)=Â:=by rfl) (o:∀x,Ü (.Call (.Name "range" p) [e1,e2,e3] [] ps) X.env x=pure x:=by intro _;rfl):S X U (.For tg (.Call (.Name "range" p) [e1,e2,e3] [] ps) body [] pos::rest) D:=by
 stop
  refine eP (eQ (o3 hp α (Dr I Γ (aD s (aD z (aD y bq k) t) e) e hpl) B.1 (tb:=j5 X body) g_ o) λL Y H ⟨H0,F,O,Z,nx,r,bk,ct⟩=>?_);refine#[H0,F,O,Z,λv H1 h Q=>#[H0,F,O,Z.go h,λv' H2 u R=>#[H0,F,O,Z.go (h.trans u),λP H3 C T=>#[lo,n,c,by cases Q;cases R;cases T;rfl,N,m,AB (lo:=lo) (c:=c) (n:=(Ó lo n c).toNat) (g:=g) (tb:=j5 X body) (D:=L) (λi Y' H'=>∃U' d,aG .G (off H' d)/\dU X.K H0 F d U' Y' H'/\J i U') #[U,O,ah (h.trans (u.trans C)),Z.go (h.trans (u.trans C)),σ] ?_ ?_]]]]
  .rintro i Y' H' hi ⟨U',d,sm,l,j⟩;refine B.2 Á (lo+i*c:Int) H0 F d U' Y' H' _ _ l rfl λσ2 b _ _=>?_;refine#[_,_,V i U' hi j,H0,F,d,b,?_,r,?_,?_]
   .exact λΓ2 σ2 H2 f a b q=>#[Γ2,f,sm.trans a,b,q]
   .exact λΓ2 σ2 H2 f a b q=>nx Γ2 σ2 H2 f (sm.trans a) b q
   .exact λΓ2 σ2 H2 f a b q=>#[Γ2,f,sm.trans a,b,q]
  .rintro Y' H' ⟨U',d,sm,l,j⟩;exact nx U' Y' H' d sm l (W U' j)
def oG{put:Bool->M->aK->aK}{xs:List M}(J:Nat->aK->Prop)(n:G X tg g M put tc)(he:E X U e b xs)(C:J 0 U)
  (z:∀(i:Nat) (a:M) U',xs[i]?=À a->J i U'->S X (put b a U') body {D with nx:=J (i+1),ct:=J (i+1),bk:=λΓ2=>S X Γ2 rest D}) (B:∀U',J xs.length U'->S X U' rest D)
  (u:X.calm=Á:=by rfl) (hp:Ĕ .F X.A X.env X.xe:=by exact aag)
  (m:∀x,Ü e X.env x=pure x:=by intro _;rfl):S X U (.For tg e body [] pos::rest) D:=by
 stop
  refine eP (eQ (o3 hp u (Ce he) n.1 (tb:=j5 X body) g_ m) λt Y H ⟨H0,F,O,Z,nx,r,bk,ct⟩=>?_);refine#[H0,F,O,Z,λv H1 l y=>?_];obtain⟨p,vs,e,s,nn,o⟩:=y;refine#[p,e,#[vs,(av _ _).seq s],Gx (K:=X.K) (a:=p) (xs:=vs) (g:=g) (tb:=j5 X body) (D:=t) (λi Y' H'=>∃U' d,aG (off H1 O) (off H' d)/\dU X.K H0 F d U' Y' H'/\J i U') #[U,O,aG.refl _,Z.go l,C] ?_ ?_ ?_]
  .rintro i Y' H' hi ⟨U',d,sm,k,j⟩;exact(av _ _).seq (sm.seq s)
  .rintro i x Y' H' hi ⟨U',d,sm,k,j⟩;obtain⟨a,h1,h2⟩:=qT o hi;refine n.2 b a H0 F d U' Y' H' _ _ k (ay sm h2) λσ2 f _ _=>?_;refine#[_,_,z i a U' h1 j,H0,F,d,f,?_,r,?_,?_]
   .exact λΓ2 σ2 H2 h c f q=>#[Γ2,h,sm.trans c,f,q]
   .exact λΓ2 σ2 H2 h c f q=>nx Γ2 σ2 H2 h ((ah l).trans (sm.trans c)) f q
   .exact λΓ2 σ2 H2 h c f q=>#[Γ2,h,sm.trans c,f,q]
  .rintro Y' H' ⟨U',d,sm,k,j⟩;rw[bG o] at j;exact nx U' Y' H' d ((ah l).trans sm) k (B U' j)
end
structure aJ(P:Ñ)(w:Û)(K:Ã)(mg:Ð->Option Ä)(base:â)(k:Nat)(name:Ð)(ps:List Ð)(sp:Sp):Prop where
 ex:∃(f:Ç) (fd:ð),⇑fR pN k f fd ps sp/\Binds K fd ps []/\č K (.ref f)=Á/\mg name=À (.ref f)
def pR(H:Hp)(O:Ç->Prop):Prop:=∀p,O p->∃xs:Mt,H p=À (mo xs)
def dg{M β:Type}[Py M][Py β](K:Ã)(pre:M->Prop)(b:Bool)(f:M->β):Sp:=λvs H Q _=>∃O v a,pR H O/\vs=[v]/\Py.rp K .any .G v a/\pre a/\∀r H',aG H H'->Py.rp K (Nf H b) (off H' O) r (f a)->Q r H'
def cO{M β γ:Type}[Py M][Py β][Py γ](K:Ã)(pre:M->β->Prop)(b:Bool)(f:M->β->γ):Sp:=λvs H Q _=>∃O v w a c,pR H O/\vs=[v,w]/\Py.rp K .any .G v a/\Py.rp K .any .G w c/\pre a c/\∀r H',aG H H'->Py.rp K (Nf H b) (off H' O) r (f a c)->Q r H'
def uJ{M β γ δ:Type}[Py M][Py β][Py γ][Py δ](K:Ã)(pre:M->β->γ->Prop)(b:Bool)(f:M->β->γ->δ):Sp:=λvs H Q _=>∃O v w x a c d,pR H O/\vs=[v,w,x]/\Py.rp K .any .G v a/\Py.rp K .any .G w c/\Py.rp K .any .G x d/\pre a c d/\∀r H',aG H H'->Py.rp K (Nf H b) (off H' O) r (f a c d)->Q r H'
def HN{M β γ δ ε:Type}[Py M][Py β][Py γ][Py δ][Py ε](K:Ã)(pre:M->β->γ->δ->Prop)(b:Bool)(f:M->β->γ->δ->ε):Sp:=λvs H Q _=>∃O v w x y a c d g,pR H O/\vs=[v,w,x,y]/\Py.rp K .any .G v a/\Py.rp K .any .G w c/\Py.rp K .any .G x d/\Py.rp K .any .G y g/\pre a c d g/\∀r H',aG H H'->Py.rp K (Nf H b) (off H' O) r (f a c d g)->Q r H'
def bJ{b:Bool}:∀p xs,(Nf H0 b).has H p xs->Nn.any.has H p xs:=λ_ _ _=>É
section
variable{X:Cx}{U:aK}{D:GD}{M β γ δ ε:Type}[Py M][Py β][Py γ][Py δ][Py ε]{e e1 e2 e3 e4:Õ}{b b1 b2 b3 b4:Bool}{p pos:ò}{k:Nat}{name:Ð}{ps:List Ð}
def aI{pre:M->Prop}{f:M->β}{a:M}(C:aJ X.prog X.w X.K X.mg X.base k name ps (dg X.K pre b f))(j:dZ k X.A)(h:Gl X name)(h1:E X U e1 b1 a)(hp:pre a)
  (c:Å [e1] X.env=(Â,Ý e1 X.env)::Å [] X.env:=by rfl) (e:(name==("__debug__":Ð))=Â:=by decide) (hpl:(ì pos (Å [] X.env)).any (·.1)=Â:=by rfl):
  E X U (.Call (.Name name p) [e1] [] pos) b (f a):=by
 stop
  obtain⟨l,fd,F,B,kp,m⟩:=C.ex
  exact aP (gN F j h m kp B .nil lE (aD h1 bq c) e c hpl) λY H Q ⟨H0,F,O,S,q⟩=>#[H0,F,O,S,λg H1 d i =>
   #[O,g,a,(S.go d).own,rfl,bA bJ i,hp,λr H' s' z=>q r H' (d.trans s') ((S.go d).back z)]]
def aB{pre:M->β->Prop}{f:M->β->γ}{a:M}{c:β}(C:aJ X.prog X.w X.K X.mg X.base k name ps (cO X.K pre b f))(t:dZ k X.A)(j:Gl X name)(h1:E X U e1 b1 a)(h2:E X U e2 b2 c)(hp:pre a c)
  (d:Å [e1,e2] X.env=(Â,Ý e1 X.env)::Å [e2] X.env:=by rfl) (h:Å [e2] X.env=(Â,Ý e2 X.env)::Å [] X.env:=by rfl) (i:(name==("__debug__":Ð))=Â:=by decide) (hpl:(ì pos (Å [e2] X.env)).any (·.1)=Â:=by rfl):
  E X U (.Call (.Name name p) [e1,e2] [] pos) b (f a c):=by
 stop
  obtain⟨u,fd,F,B,kp,m⟩:=C.ex
  exact aP (gN F t j m kp B .nil lE (aD h1 (aD h2 bq h) d) i d hpl) λY H Q ⟨H0,F,O,S,q⟩=>#[H0,F,O,S,λn H1 e o=>#[H0,F,O,S.go e,λl H2 g s =>
   #[O,n,l,a,c,(S.go (e.trans g)).own,rfl,bA bJ (ay (ah g) o),bA bJ s,hp,λr H' s' z=>q r H' (e.trans (g.trans s')) ((S.go (e.trans g)).back z)]]]
def dJ{pre:M->β->γ->Prop}{f:M->β->γ->δ}{a:M}{c:β}{d:γ}(C:aJ X.prog X.w X.K X.mg X.base k name ps (uJ X.K pre b f))(y:dZ k X.A)(o:Gl X name)(h1:E X U e1 b1 a)(h2:E X U e2 b2 c)(t:E X U e3 b3 d)(hp:pre a c d)
  (i:Å [e1,e2,e3] X.env=(Â,Ý e1 X.env)::Å [e2,e3] X.env:=by rfl) (l:Å [e2,e3] X.env=(Â,Ý e2 X.env)::Å [e3] X.env:=by rfl) (j:Å [e3] X.env=(Â,Ý e3 X.env)::Å [] X.env:=by rfl)
  (n:(name==("__debug__":Ð))=Â:=by decide) (hpl:(ì pos (Å [e2,e3] X.env)).any (·.1)=Â:=by rfl):
  E X U (.Call (.Name name p) [e1,e2,e3] [] pos) b (f a c d):=by
 stop
  obtain⟨I,fd,F,B,kp,m⟩:=C.ex
  exact aP (gN F y o m kp B .nil lE (aD h1 (aD h2 (aD t bq j) l) i) n i hpl) λY H Q ⟨H0,F,O,S,q⟩=>#[H0,F,O,S,λu H1 e v=>#[H0,F,O,S.go e,λs H2 h x=>#[H0,F,O,S.go (e.trans h),λG J g D =>
   #[O,u,s,G,a,c,d,(S.go (e.trans (h.trans g))).own,rfl,bA bJ (ay ((ah h).trans (ah g)) v),bA bJ (ay (ah g) x),bA bJ D,hp,λr H' s' z=>q r H' (e.trans (h.trans (g.trans s'))) ((S.go (e.trans (h.trans g))).back z)]]]]
def v9{pre:M->β->γ->δ->Prop}{f:M->β->γ->δ->ε}{a:M}{c:β}{d:γ}{g:δ}(C:aJ X.prog X.w X.K X.mg X.base k name ps (HN X.K pre b f))(L:dZ k X.A)(v:Gl X name)(h1:E X U e1 b1 a)(h2:E X U e2 b2 c)(y:E X U e3 b3 d)(u:E X U e4 b4 g)(hp:pre a c d g)
  (l:Å [e1,e2,e3,e4] X.env=(Â,Ý e1 X.env)::Å [e2,e3,e4] X.env:=by rfl) (s:Å [e2,e3,e4] X.env=(Â,Ý e2 X.env)::Å [e3,e4] X.env:=by rfl) (n:Å [e3,e4] X.env=(Â,Ý e3 X.env)::Å [e4] X.env:=by rfl) (o:Å [e4] X.env=(Â,Ý e4 X.env)::Å [] X.env:=by rfl)
  (t:(name==("__debug__":Ð))=Â:=by decide) (hpl:(ì pos (Å [e2,e3,e4] X.env)).any (·.1)=Â:=by rfl):
  E X U (.Call (.Name name p) [e1,e2,e3,e4] [] pos) b (f a c d g):=by
 stop
  obtain⟨P,fd,F,B,kp,m⟩:=C.ex
  exact aP (gN F L v m kp B .nil lE (aD h1 (aD h2 (aD y (aD u bq o) n) s) l) t l hpl) λY H Q ⟨H0,F,O,S,q⟩=>#[H0,F,O,S,λG H1 e I=>#[H0,F,O,S.go e,λx H2 j J=>#[H0,F,O,S.go (e.trans j),λN T i α=>#[H0,F,O,S.go (e.trans (j.trans i)),λv4 R h D =>
   #[O,G,x,N,v4,a,c,d,g,(S.go (e.trans (j.trans (i.trans h)))).own,rfl,bA bJ (ay ((ah j).trans ((ah i).trans (ah h))) I),bA bJ (ay ((ah i).trans (ah h)) J),bA bJ (ay (ah h) α),bA bJ D,hp,λr H' s' z=>q r H' (e.trans (j.trans (i.trans (h.trans s')))) ((S.go (e.trans (j.trans (i.trans h)))).back z)]]]]]
end
noncomputable def PM(N:List Ð)(gs:List Bd):aK:=gs.map À++Ê (N.length-gs.length) none
noncomputable def RT{M:Type}[Py M](b:Bool)(a:M):GD:={nx:=λ_=>False,rt:=λg=>g=.val b a}
inductive Args(K:Ã)(H:Hp):List V->List Bd->Prop
 |nil:Args K H [] []
 |cons {M:Type} [Py M] {v:V} {a:M} {vs:List V} {gs:List Bd}:Py.rp K .any H v a->Args K H vs gs->Args K H (v::vs) (.val Â a::gs)
def Args.len{K:Ã}{H:Hp}:∀{vs:List V} {gs:List Bd},Args K H vs gs->vs.length=gs.length
 |_,_,.nil=>rfl
 |_,_,@Args.cons _ _ _ _ _ _ _ _ _ t=>congrArg (·+1) t.len
theorem Args.get{K:Ã}{H0 H:Hp}{O:Ç->Prop}:∀{vs:List V} {gs:List Bd} {i:Nat} {g:Bd},Args K .G vs gs->gs[i]?=À g->∃v,vs[i]?=À v/\g.ok K H0 O H v/\¬g.g7
 |_,_,_,_,.nil,e=>by simp at e
 |_,_,0,_,@Args.cons _ _ _ _ _ _ _ _ h _,e=>by simp at e;subst e;exact#[_,rfl,h,λz=>z]
 |_,_,i+1,_,@Args.cons _ _ _ _ _ _ _ _ _ t,e=>by
  obtain⟨a,h1,h2⟩:=Args.get (i:=i) t ↑e;exact#[a,↑h1,h2]
def oK{O:Ç->Prop}{N:List Ð}{vs:List V}{gs:List Bd}(b:pR H O)(h:Args K .G vs gs):dU K H O O (PM N gs) (start N vs) H:=by
 have c:=h.len
 have a:∀(i:Nat) (g:Bd),(PM N gs)[i]?=À (À g)->gs[i]?=À g:=λi g e=>by
  unfold PM at e;by_cases hi:i<(gs.map À).length
  .rw[Y2 hi,XI] at e;cases q:gs[i]? with
   |none=>rw[q] at e;cases e
   |some g'=>rw[q] at e;simpa using e
  .rw[Zh .b] at e;have:=Xs e;rw[List.mem_replicate] at this;cases this.2
 refine#[aG.refl _,λ_ z=>z,b,b,by simp[PM,start,c],λi g e _=>?_,#[λ_ _=>False,λ_ _ _ z=>z.elim,λ_ _ z=>z.elim,λi g e o=>?_]]
 .obtain⟨v,h1,h2,_⟩:=Args.get (H0:=H) h (a i g e);refine#[v,?_,h2];unfold start
  have hi:i<(vs.map À).length:=by
   rw[Xv];exact(Xy.mp h1).1
  rw[Y2 hi,XI,h1];rfl
 .obtain⟨_,_,_,no⟩:=Args.get (H0:=H) h (a i g e);exact absurd o no
section
variable{P:Ñ}{w:Û}{K:Ã}{mg:Ð->Option Ä}{base:â}{N ps:List Ð}{k:Nat}{x qual:Ð}{st:Ò}{f:Ç}{fd:ð}
abbrev cx(P:Ñ)(w:Û)(K:Ã)(mg:Ð->Option Ä)(base:â)(N:List Ð)(qual:Ð)(st:Ò)(f:Ç)(a:Ä)(A:ä)(outer:List Ł)(s:Æ)(H:Hp)(E:XK):Cx:=(uh pN P w K mg base N qual (ag st) f a A outer s H E).KO
def Body(P:Ñ)(w:Û)(K:Ã)(mg:Ð->Option Ä)(base:â)(N:List Ð)(qual:Ð)(st:Ò)(f:Ç)(k:Nat)(gs:List Bd)(D:GD):Prop :=
 ∀(a:Ä) (A:ä) (outer:List Ł) (s:Æ) (H:Hp) (E:XK),dZ k (A.deeper (ġ qual (ag st) s.heap.objs.size f a))->S (⇑cx N qual st f a A outer s H E) (PM N gs) (cb st) D
def mF{gs:List Bd}{vs:List V}{O:Ç->Prop}{M:Type}[Py M]{b:Bool}{a:M}{Q:VK}{c:Ä}{A:ä}{outer:List Ł}{E:XK}(B:⇑Body N qual st f k gs (RT b a))(j:dZ k (A.deeper (ġ qual (ag st) s.heap.objs.size f c)))
  (d:pR H O) (h:Args K .G vs gs) (q:∀r H',aG H H'->Py.rp K (Nf H b) (off H' O) r a->Q r H'):
  ∃t,rh (uh pN P w K mg base N qual (ag st) f c A outer s H E).KO (cb st) t/\t {nx:=λ_ H'=>Q .non H',rt:=Q} (start N vs) H:=by stop refine#[_,B c A outer s H E j,H,O,O,oK d h,λ_ _ _ _ _ _ z=>z.elim,λg v H' sm z e=>?_,λ_ _ _ _ _ _ z=>z.elim,λ_ _ _ _ _ _ z=>z.elim];have i:g=.val b a:=e;subst i;exact q v H' sm z
def oJ{M β:Type}[Py M][Py β]{pre:M->Prop}{b:Bool}{g:M->β}(F:t6 K x qual st f fd)(d:ao N ps (ag st))(i:ps.length=1)(B:∀a,pre a->⇑Body N qual st f k [.val Â a] (RT b (g a))):
  fR P w K mg base pN (k+1) f fd ps (dg K pre b g):=by
 stop
  refine F.ok d (λvs H Q E h=>?_) λc A outer s H vs Q E j h=>?_
  .obtain⟨O,v,a,_,rfl,_⟩:=h;rw[i];rfl
  .obtain⟨O,v,a,e,rfl,r,hp,q⟩:=h;exact mF (B a hp) j e (.cons r .nil) q
def mC{M β γ:Type}[Py M][Py β][Py γ]{pre:M->β->Prop}{b:Bool}{g:M->β->γ}(F:t6 K x qual st f fd)(j:ao N ps (ag st))(m:ps.length=2)(B:∀a c,pre a c->⇑Body N qual st f k [.val Â a,.val Â c] (RT b (g a c))):
  fR P w K mg base pN (k+1) f fd ps (cO K pre b g):=by
 stop
  refine F.ok j (λvs H Q E h=>?_) λi A outer s H vs Q E n h=>?_
  .obtain⟨O,v,e,a,c,_,rfl,_⟩:=h;rw[m];rfl
  .obtain⟨O,v,e,a,c,d,rfl,r,l,hp,q⟩:=h;exact mF (B a c hp) n d (.cons r (.cons l .nil)) q
def KN{M β γ δ:Type}[Py M][Py β][Py γ][Py δ]{pre:M->β->γ->Prop}{b:Bool}{g:M->β->γ->δ}(F:t6 K x qual st f fd)(l:ao N ps (ag st))(n:ps.length=3)(B:∀a c d,pre a c d->⇑Body N qual st f k [.val Â a,.val Â c,.val Â d] (RT b (g a c d))):
  fR P w K mg base pN (k+1) f fd ps (uJ K pre b g):=by
 stop
  refine F.ok l (λvs H Q E h=>?_) λj A outer s H vs Q E o h=>?_
  .obtain⟨O,v,i,t,a,c,d,_,rfl,_⟩:=h;rw[n];rfl
  .obtain⟨O,v,i,t,a,c,d,e,rfl,r,m,p,hp,q⟩:=h;exact mF (B a c d hp) o e (.cons r (.cons m (.cons p .nil))) q
def Ry{M β γ δ ε:Type}[Py M][Py β][Py γ][Py δ][Py ε]{pre:M->β->γ->δ->Prop}{b:Bool}{g:M->β->γ->δ->ε}(F:t6 K x qual st f fd)(m:ao N ps (ag st))(o:ps.length=4)(B:∀a c d y,pre a c d y->⇑Body N qual st f k [.val Â a,.val Â c,.val Â d,.val Â y] (RT b (g a c d y))):
  fR P w K mg base pN (k+1) f fd ps (HN K pre b g):=by
 stop
  refine F.ok m (λvs H Q E h=>?_) λl A outer s H vs Q E p h=>?_
  .obtain⟨O,v,i,u,v4,a,c,d,y,_,rfl,_⟩:=h;rw[o];rfl
  .obtain⟨O,v,i,u,v4,a,c,d,y,e,rfl,r,n,t,j,hp,q⟩:=h;exact mF (B a c d y hp) p e (.cons r (.cons n (.cons t (.cons j .nil)))) q
variable{X:Cx}{U:aK}{M β:Type}[Py M][Py β]{e:Õ}{b:Bool}{p p2 pos:ò}
def GB{a:M}{T:Ð}{d:String}(k:Gl X "isinstance")(C:X.mg "isinstance"=none)(i:Gl X T)(f:X.mg T=none)(t:ė T=À (.type d))(ha:E X U e b a)
  (x:∀(Z2:List (Ç×ü)) (s:Æ) (Y:St) (H:Hp) (N:Nn) (v:V) (u:Ä) (Q:Ä->Æ->Prop),Inv X Z2 Y H s->Py.rp X.K N H v a->RelV v u->(∀tk,Q (.bool c) {s with toks:=tk})->Î .F X.A (call (.builtin "isinstance") [u,.type d]) Q X.xe s)
  (j:Å [e,.Name T p2] X.env=(Â,Ý e X.env)::Å [.Name T p2] X.env:=by rfl) (g:Å [.Name T p2] X.env=(Â,Ý (.Name T p2) X.env)::Å [] X.env:=by rfl) (hpl:(ì pos (Å [.Name T p2] X.env)).any (·.1)=Â:=by rfl)
  (y:T≠"__name__":=by decide) (D:(T==("__debug__":Ð))=Â:=by decide):
  E X U (.Call (.Name "isinstance" p) [e,.Name T p2] [] pos) Á c:=by
 stop
  have o:kM X (.builtin "isinstance") (λxs H Q=>∃N v,xs=[v,.ty d]/\Py.rp X.K N H v a/\Q (.bl c) H):=by
   intro Z2 s Y H xs us Q I r h;obtain⟨N,v,rfl,B,q⟩:=h;obtain⟨u,G,rfl,n,l⟩:=vals2 r;cases l;exact x Z2 s Y H N v u _ I B n λtk=>#[.bl c,H,I.tok _,rfl,q]
  exact aP (f7 o k C boot_isinstance (aD ha (aD (Jd (v:=.ty d) i f t rfl y D) bq g) j) (he:=j) (hpl:=hpl)) λY H Q ⟨H0,F,O,S,q⟩=>#[H0,F,O,S,λv H1 m z=>#[_,v,rfl,ay (av _ _) z,q _ H1 m rfl]]
def Az(d:Gl X "isinstance")(g:X.mg "isinstance"=none)(c:Gl X "int")(a:X.mg "int"=none)(ha:E X U e b i)
  (h:Å [e,.Name "int" p2] X.env=(Â,Ý e X.env)::Å [.Name "int" p2] X.env:=by rfl):E X U (.Call (.Name "isinstance" p) [e,.Name "int" p2] [] pos) Á Á:=by
 stop
  exact GB d g c a PyProof.Rows.boot_int ha (λZ2 s Y H N v u Q I f r q=>by
    cases f;obtain⟨t,rfl⟩:=r
    exact IsiPair.int_int (q s.toks)) h
def zH(d:Gl X "isinstance")(g:X.mg "isinstance"=none)(c:Gl X "bool")(a:X.mg "bool"=none)(ha:E X U e b i)
  (h:Å [e,.Name "bool" p2] X.env=(Â,Ý e X.env)::Å [.Name "bool" p2] X.env:=by rfl):E X U (.Call (.Name "isinstance" p) [e,.Name "bool" p2] [] pos) Á Â:=by
 stop
  exact GB d g c a PyProof.Rows.boot_bool ha (λZ2 s Y H N v u Q I f r q=>by
    cases f;obtain⟨t,rfl⟩:=r
    exact IsiPair.int_bool (q (s.toks+1))) h
def FG{xs:List M}(f:Gl X "isinstance")(h:X.mg "isinstance"=none)(d:Gl X "list")(c:X.mg "list"=none)(ha:E X U e b xs)
  (i:Å [e,.Name "list" p2] X.env=(Â,Ý e X.env)::Å [.Name "list" p2] X.env:=by rfl):E X U (.Call (.Name "isinstance" p) [e,.Name "list" p2] [] pos) Á Á:=by
 stop
  exact GB f h d c abr ha (λZ2 s Y H N v u Q I g r q=>by
    obtain⟨a,ys,rfl,j,_,_⟩:=g;cases r;obtain⟨XV,k,pl,_⟩:=I.list j;obtain⟨o,h1,h2,n,l⟩:=pl.isList
    exact call_isinstance (isinstance_true (Tx:="list") F.isi_meta_list AutoSeq1.sub_list_list) #[#[o,h1,h2],q s.toks]) i
end
def Sm(n:Nat)(i:Int):Prop:=i.natAbs<2^n
def Sm.bits(h:Sm n i):Ì i<=n:=by
 unfold Ì;split
 .exact Yr _
 .rename_i hi
  have a:i.natAbs≠0:=by
   intro z;apply hi;simp;lia
  have:=(abS a).mpr h;lia
def Sm.le(h:Sm m i)(l:m<=n):Sm n i:=X4 h (ZQ .a l)
def Sm.ok(h:Sm m i)(h':Sm n j)(l:autoParam (m<=1048576) zrb)(a:autoParam (n<=1048576) zrb):ģ i j:=IntMulOk.of_bits (Ye h.bits (Ye l .a)) (Ye h'.bits (Ye a .a))
def Sm.mul(h:Sm m i)(h':Sm n j):Sm (m+n) (i*j):=by
 unfold Sm at *;rw[XZ,Nat.pow_add];rcases aba j.natAbs with z|z
 .rw[z,Nat.mul_zero];exact Nat.mul_pos (aaH _) (aaH _)
 .exact Nat.mul_lt_mul_of_lt_of_le h (Y0 h') (aaH _)
def Sm.add(h:Sm m i)(h':Sm n j):Sm (max m n+1) (i+j):=by
 have h1:i.natAbs<2^max m n:=X4 h (ZQ .a (Nat.le_max_left _ _));have h2:j.natAbs<2^max m n:=X4 h' (ZQ .a (Nat.le_max_right _ _));have a:=Int.natAbs_add_le i j;unfold Sm;rw[ϴ];lia
def Sm.neg(h:Sm m i):Sm m (-i):=by unfold Sm at *;rw[ϰ];exact h
def Sm.of_le(h:i.natAbs<=j.natAbs)(h':Sm n j):Sm n i:=aaG h h'
def Sm.div(h:Sm n j)(a:j≠0)(l:autoParam (n<=9000) zrb):Ct i j:=#[a,(abS .b).mpr (X4 h (ZQ .a l))]
def mulL(h1:-(2^64)<i)(h2:i<2^64):ģ i j:=JU.ok (.inl #[h1,h2])
def mulR(h1:-(2^64)<j)(h2:j<2^64):ģ i j:=JU.ok (.inr #[h1,h2])
def u_(h:autoParam (j≠0) zrb)(h2:autoParam (j.natAbs.log2<9000) zrb):Ct i j:=#[h,h2]
def S_(h:autoParam (0<=j) zrb)(h2:autoParam (j<=1000000) zrb)(a:autoParam (i.natAbs<2^64) zrb):G4 i j:=#[h,h2,a]
def A4{k:Nat}{A:ä}(a:dZ k A):A.units+60<ğ:=by have:=a.un;lia
structure Bu(mg:Ð->Option Ä):Prop where
 abs:mg "abs"=none
 len:mg "len"=none
 min:mg "min"=none
 max:mg "max"=none
 range:mg "range"=none
 isinstance:mg "isinstance"=none
 int:mg "int"=none
 bool:mg "bool"=none
 list:mg "list"=none
 tuple:mg "tuple"=none
 sum:mg "sum"=none
 all:mg "all"=none
 zip:mg "zip"=none
 enumerate:mg "enumerate"=none
 any:mg "any"=none
 sorted:mg "sorted"=none
 set:mg "set"=none
 str:mg "str"=none
 reversed:mg "reversed"=none
def dm{a b:Int}(h:0<b):0<=a.fmod b/\a.fmod b<b:=#[abt a h,abU a h]
def Df(K:Ã)(x:Ð)(st:Ò):Prop:=∃(f:Ç) (fd:ð),Ø K Í x=À (À (.ref f))/\t6 K x x st f fd
def Df.mk{st:Ò}{f:Ç}{e:Ä}{od g:Option Ç}{d:Array (Option Ä)}{kV doc h b ct:Ä}(a:Ø K Í x=À (À (.ref f)))
  (l:K.lookup f=À #[e,od,.func (ê x x (d9 st) (cb st) (ag st) .none kV doc h g b ct),d]) (c:ĩ K b x=Á) (k:č K (.ref f)=Á):Df K x st:=#[f,_,a,MC l c k]
def QE{h:â}{mg:Ð->Option Ä}(X:K.In h)(G:h.Ns Í mg)(q:Ø K Í "abs"=À none)(t:Ø K Í "len"=À none)(r:Ø K Í "min"=À none)(l:Ø K Í "max"=À none)
  (o:Ø K Í "range"=À none) (n:Ø K Í "isinstance"=À none) (s:Ø K Í "int"=À none) (p:Ø K Í "bool"=À none) (m:Ø K Í "list"=À none) (d:Ø K Í "tuple"=À none)
  (e:Ø K Í "sum"=À none) (i:Ø K Í "all"=À none) (g:Ø K Í "zip"=À none) (f:Ø K Í "enumerate"=À none) (a:Ø K Í "any"=À none) (j:Ø K Í "sorted"=À none) (b:Ø K Í "set"=À none) (k:Ø K Í "str"=À none) (c:Ø K Í "reversed"=À none):Bu mg :=
 #[Yg X G q,Yg X G t,Yg X G r,Yg X G l,Yg X G o,Yg X G n,Yg X G s,Yg X G p,Yg X G m,Yg X G d,Yg X G e,Yg X G i,Yg X G g,Yg X G f,Yg X G a,Yg X G j,Yg X G b,Yg X G k,Yg X G c]
section
variable{P:Ñ}{w:Û}{K:Ã}{mg:Ð->Option Ä}{base h:â}{x:Ð}{st:Ò}{N ps:List Ð}{k:Nat}
def Df.N_{sp:Sp}(D:Df K x st)(X:K.In h)(G:h.Ns Í mg)(c:∀(kV doc e:Ä) (d:Option Ç) (b ct:Ä) (us:List Ä),us.length=ps.length->ī (ê x x (d9 st) (cb st) (ag st) .none kV doc e d b ct) #[us,[]]=pure (ps.zip us))
  (ok:∀f fd,t6 K x x st f fd->⇑fR pN k f fd ps sp):⇑aJ k x ps sp:=by
 obtain⟨f,fd,a,F⟩:=D;exact#[f,fd,ok f fd F,F.binds c,F.kp,abZ X G a]
def yp(K:Ã):Sp:=dg K (fun(ns:List Int)=>ns.length<=63) Á (λ_=>Á)
theorem vZ{K:Ã}{N:Nn}{H:Hp}:∀ns:List Int,ß (λx (b:Int)=>Py.rp K N H x b) (ns.map V.int) ns
 |[]=>.nil
 |_::r=>.cons rfl (vZ r)
def C9(K:Ã)(H:Hp)(a:Ç)(ns:List Int)(c:ns.length<=63)(b:dX K H a (ns.map V.int)):yp K [.ref a] H (λv _=>v=.bl Á) λ_ _ _=>False :=
 #[λ_=>False,.ref a,ns,λ_ z=>z.elim,rfl,by rw[Jo];exact#[a,_,rfl,b,É,vZ ns],c,λr H' _ z=>z]
def Io{j:Ç}{i:Ñ}(D:Df K "law" st)(X:K.In h)(G:h.Ns Í mg)(g:mg "law"=À (.ref j))
  (m:∀(kV doc d:Ä) (c:Option Ç) (b ct:Ä) (s:Æ) (u:Ä),ķ s (ê "law" "law" (d9 st) (cb st) (ag st) .none kV doc d c b ct) #[[u],[]] [(y,u)])
  (ok:∀base,K.In base->base.Ns Í mg->∀f fd,t6 K "law" "law" st f fd->fR i w K mg base pN k f fd [y] (yp K)):
  ∃fd:ð,(∀(s:Æ) (u:Ä),ķ s fd #[[u],[]] [(y,u)])/\∀base:â,K.In base->base.Ns Í mg->fR i w K mg base pN k j fd [y] (yp K):=by
 obtain⟨f,fd,a,F⟩:=D;have e:=g.symm.trans (abZ X G a);cases e;refine#[fd,?_,λbase o nb=>ok base o nb _ fd F];obtain⟨q,od,kV,doc,d,c,b,ct,n,rfl,p,l⟩:=F.ex;exact m kV doc d c b ct
end
def QG{M:Type}[Py M](K:Ã)(H0:Hp)(O:Ç->Prop)(b:Bool)(as:List M)(J:It)(H1:Hp):Prop :=
 ∀(H':Hp) (d:Ç->Prop),pR H' d->aG (off H1 O) (off H' d)->(∀(i:Nat) (a:M),as[i]?=À a->J.go i H'/\∀x c,J.yld i H' x c->aG H' c/\Py.rp K (Nf H0 b) (off c d) x a)/\J.stop as.length H'
def EI{M:Type}[Py M](X:Cx)(U:aK)(tg iter:Õ)(b:Bool)(as:List M):Prop:=∃wi,PI X tg iter wi /\
 ∀(Y:St) (H H0:Hp) (F O:Ç->Prop) (R:It->Hp->Prop),dU X.K H0 F O U Y H->(∀J H1,aG H H1->QG X.K H0 O b as J H1->R J H1)->wi Y H R
noncomputable def mw(lo c:Int)(n:Nat):List Int:=(Ô n).map λi:Nat=>lo+(i:Int)*c
def Gi{c:Int}{i:Nat}{a:Int}(h:(mw lo c n)[i]?=À a):i<n/\a=lo+(i:Int)*c:=by
 unfold mw at h;rw[XI] at h;by_cases hi:i<n
 .rw[ū hi] at h;exact#[hi,(XJ h).symm]
 .rw[Zq (by rw[Zx];lia)] at h;cases h
def G_(lo c:Int)(n:Nat):(mw lo c n).length=n:=by unfold mw;rw[Xv,Zx]
section
variable{X:Cx}{U:aK}{M β:Type}[Py M][Py β]{e e1 e2 e3 tg:Õ}{b b1 b2 b3:Bool}
def bp{xs:List M}(he:E X U e b xs):EI X U tg e b xs:=by
 stop
  exact#[_,Ce he,λY H H0 F O R Z q=>#[H0,F,O,Z,λv H1 g j=>by
   obtain⟨p,vs,e,c,nn,f⟩:=j;refine#[p,e,#[vs,(av _ _).seq c],q _ H1 g λH' l _ sm=>#[λi a ha=>?_,?_]]
   .obtain⟨x,h1,h2⟩:=gQ f ha;refine#[#[vs,x,(av _ _).seq (sm.seq c),h1],λy k d=>?_];obtain⟨h,d⟩:=d;subst h;have:=d vs ((av _ _).seq (sm.seq c));rw[h1] at this;cases this;exact#[aG.refl _,ay sm h2]
   .exact#[vs,(av _ _).seq (sm.seq c),by rw[bG f];exact Xu _]]]
def CM{O:Ç->Prop}{H1:Hp}:QG K H0 O Á (mw lo 1 n) (NH lo n) H1:=λH' d _ sm=>#[λi a ha=>by
 obtain⟨h1,h2⟩:=Gi ha;refine#[h1,λx b c=>?_];obtain⟨e1,e2⟩:=c;subst e1 e2 h2
 exact#[aG.refl _,by show V.int _=V.int _;rw[X0]],by show n<=_;rw[G_];exact Xu _]
def HM{n:Int}{p:ò}(c:Gl X "range")(g:X.mg "range"=none)(he:E X U e b n)(h1:-(2^62)<=n)(h2:n<2^62)
  (h:Å [e] X.env=[(Â,Ý e X.env)]:=by rfl) (a:Å [e] X.env=(Â,Ý e X.env)::Å [] X.env:=by rfl):EI X U tg (.Call (.Name "range" p) [e] [] ps) Á (mw 0 1 n.toNat):=by stop exact#[_,uD c g (aD he bq a) h,λY H H0 F O R Z q=>#[H0,F,O,Z,λv H1 d f=>#[n,by cases f;rfl,h1,h2,q _ H1 d CM]]]
def pX{D:GD}{pos:ò}{body:List Ò}{g:TG}{tc:Nat->Prop}{put:Bool->M->aK->aK}{as:List M}(J:Nat->aK->Prop)(t:G X tg g M put tc)(he:EI X U tg e b as)(P:J 0 U)
  (α:∀(i:Nat) (a:M) U',as[i]?=À a->J i U'->S X (put b a U') body {D with nx:=J (i+1),ct:=J (i+1),bk:=λΓ2=>S X Γ2 rest D}) (N:∀U',J as.length U'->S X U' rest D)
  (B:X.calm=Á:=by rfl) (hp:Ĕ .F X.A X.env X.xe:=by exact aag)
  (s:∀x,Ü e X.env x=pure x:=by intro _;rfl):S X U (.For tg e body [] pos::rest) D:=by
 stop
  obtain⟨wi,hi,I⟩:=he;refine eP (eQ (o3 hp B hi t.1 (tb:=j5 X body) g_ s) λQ Y H ⟨H0,F,O,Z,nx,r,bk,ct⟩=>?_);refine I Y H H0 F O _ Z λR H1 p XV=>?_;refine#[λi m Y' H'=>m=as.length-i/\i<=as.length/\∃U' h,aG (off H1 O) (off H' h)/\dU X.K H0 F h U' Y' H'/\J i U',#[_,rfl,Yr _,U,O,aG.refl _,Z.go p,P],?_];rintro i m Y' H' ⟨rfl,L,U',h,sm,o,j⟩;obtain⟨E,z⟩:=XV H' h o.own sm;by_cases l:i<as.length
  .have ha:as[i]?=À as[i]:=Xz l;obtain⟨go,u⟩:=E i _ ha;refine .inr #[go,λσ2 H2=>∃Γ2 d,aG (off H1 O) (off H2 d)/\dU X.K H0 F d Γ2 σ2 H2/\J (i+1) Γ2,λσ2 H2 q=>#[as.length-(i+1),.e,rfl,l,q],λx k v=>?_];obtain⟨n,y⟩:=u x k v;refine t.2 b as[i] H0 F h U' Y' k _ _ (o.go n) y λσ2 f _ _=>?_;refine#[_,_,α i _ U' ha j,H0,F,h,f,?_,r,?_,?_]
   .exact λΓ2 σ2 H2 d c f q=>#[Γ2,d,sm.trans ((ah n).trans c),f,q]
   .exact λΓ2 σ2 H2 d c f q=>nx Γ2 σ2 H2 d ((ah p).trans (sm.trans ((ah n).trans c))) f q
   .exact λΓ2 σ2 H2 d c f q=>#[Γ2,d,sm.trans ((ah n).trans c),f,q]
  .have C:i=as.length:=by omega
   subst C;exact .inl #[z,nx U' Y' H' h ((ah p).trans sm) o (N U' j)]
end
noncomputable def cB:Option (Option Bd)->Option Bd
 |some (À (@Bd.val _ _ b a))=>À (.val b a)
 |_=>none
def cΓ(U:aK)(tn:List Ð)(js:List Nat):aK:=tn.map (λ_=>none)++js.map λj=>cB U[j]?
def Mm{o:Option (Option Bd)}(h:cB o=À g):o=À (À g)/\¬g.g7:=by
 unfold cB at h;split at h
 .cases h;exact#[rfl,λz=>z]
 .cases h
def Ek{U:aK}{i:Nat}(h:(cΓ U tn js)[i]?=À (À g)):∃j,js[i-tn.length]?=À j/\tn.length<=i/\U[j]?=À (À g)/\¬g.g7/\(cσ Y tn js)[i]?=À ((Y[j]?).getD none):=by
 unfold cΓ at h;unfold cσ;by_cases hi:i<tn.length
 .rw[Y2 ↑hi,XI] at h;cases q:tn[i]? with
  |none=>rw[q] at h;cases h
  |some y=>rw[q] at h;cases h
 .rw[Zh ↑hi,XI,Xv] at h;rw[Zh ↑hi,XI,Xv];cases q:js[i-tn.length]? with
  |none=>rw[q] at h;cases h
  |some j =>
   rw[q] at h;obtain⟨h1,h2⟩:=Mm (XJ h);exact#[j,rfl,.b,h1,h2,rfl]
section
variable{K:Ã}{H0:Hp}{F O:Ç->Prop}{U:aK}{Y:St}{H:Hp}
def dU.iS(Z:dU K H0 F O U Y H)(tn:List Ð)(js:List Nat):dU K H0 F O (cΓ U tn js) (cσ Y tn js) H where
 same:=Z.same
 fo:=Z.fo
 f0:=Z.f0
 own:=Z.own
 len:=by unfold cΓ cσ;simp
 at_:=λi g e n=>by
  obtain⟨j,h1,h2,c,a,d⟩:=Ek (Y:=Y) e;obtain⟨v,q1,b⟩:=Z.at_ j g c n;exact#[v,by rw[d,q1];rfl,b]
 dis:=#[λ_ _=>False,λ_ _ _ z=>z.elim,λ_ _ z=>z.elim,λi g e o=>by
  obtain⟨_,_,_,_,a,_⟩:=Ek (Y:=Y) e
  exact absurd o a]
def dU.ownIn{D:Ç}(Z:dU K H0 F O U Y H)(l:H D=none)(sm:aG H H')(s:H' D=À (.lst xs)):dU K H0 F (λp=>O p\/p=D) U Y H'/\aG .G (off H' λp=>O p\/p=D):=by
 have d:aG .G (off H' λp=>O p\/p=D):=λb o h=>by
  obtain⟨h1,h2⟩:=dy h;have k:b≠D:=λz=>by rw[z,l] at h2;cases h2
  rw[aU (by rintro(z|z);exact h1 z;exact k z)];exact sm _ _ h2
 refine#[#[Z.same.trans sm,λp h=>.inl (Z.fo p h),Z.f0,λp h=>?_,Z.len,λi g e n=>?_,?_],d]
 .rcases h with h|h
  .obtain⟨ys,q⟩:=Z.own p h;exact#[ys,sm _ _ q]
  .subst h;exact#[.inl xs,s]
 .obtain⟨v,q1,c⟩:=Z.at_ i g e n;refine#[v,q1,?_];cases g with
  |val b a=>exact ay d c
  |own b as=>exact c
  |dpo a=>exact c
 .obtain⟨m,r,f,j⟩:=Z.dis;refine#[m,r,λi p h=>#[.inl (f i p h).1,(f i p h).2],λi g e o=>?_];obtain⟨v,q1,c⟩:=j i g e o;exact#[v,q1,Bd.O0 c (λp ys _ z=>sm _ _ z) d (λp z=>(f i p z).1) Z.own]
variable{X:Cx}{D:GD}{M β:Type}[Py M][Py β]{elt target iter c:Õ}{b b':Bool}{pos:ò}{ZB:Ĉ}{tn:List Ð}{js:List Nat}{g:TG}{tc:Nat->Prop}{put:Bool->M->aK->aK}{as:List M}{f:M->β}{p:M->Bool}{ifs:List Õ}
def SJ(X:Cx)(tn:List Ð)(js:List Nat)(ZB:Ĉ)(elt:Õ)(β:Type)[Py β](b:Bool):TE:=λY H Q=>∃U',∃v:β,(∀C s H fp,E .H U' elt b v)/\tV X.K U' b v Y H Q
@[irreducible] def FT(X:Cx)(U:aK)(ifs:List Õ)(c:Bool):Prop:=PF X ifs (M1 X.K U c)
def SF(X:Cx)(tn:List Ð)(js:List Nat)(ZB:Ĉ)(ifs:List Õ):TT:=λY H Q=>∃U' c,(∀C s H fp,FT .H U' ifs c)/\M1 X.K U' c Y H Q
def Es:FT X U [] Á:=by stop exact λZ2 s Y H Q I ⟨H0,F,O,Z,q⟩=>LI Z2 s Y H Q I (q H (aG.refl _))
def lS{k:Bool}(h:T X U c k):FT X U [c] k:=by stop exact MS h
def B8{wi:TI}(hw:∀(Y:St) (H H0:Hp) (F O:Ç->Prop) (R:It->Hp->Prop),dU X.K H0 F O U Y H->(∀J H1,aG H H1->QG X.K H0 O b as J H1->R J H1)->wi Y H R)
  (L:GP g M put tc X.K) (B:∀j,tc j->j<tn.length)
  (ht:∀(i:Nat) (a:M),as[i]?=À a->∀C s H fp,FT .H (put b a (cΓ U tn js)) ifs (p a))
  (hb:∀(i:Nat) (a:M),as[i]?=À a->p a=Á->∀C s H fp,E .H (put b a (cΓ U tn js)) elt b' (f a)) (hl:as.length<=1000)
  {Y:St} {H:Hp} {Q:VK} {H0:Hp} {F O:Ç->Prop} (Z:dU X.K H0 F O U Y H) (q:∀v H',aG H H'->Py.rp X.K (Nf H0 b') (off H' O) v ((as.filter p).map f)->Q v H'):
  QX wi tn js g (SF X tn js ZB ifs) (SJ X tn js ZB elt β b') Y H Q:=by
 stop
  refine hw Y H H0 F O _ Z λJ H1 S XV D l=>?_;have N:=Z.go S
  refine#[λi m H' xs=>m=as.length-i/\i<=as.length/\aG H1 H'/\H' D=À (.lst xs)/\ß (λx a=>Py.rp X.K (Nf H0 b') (off H' λp=>O p\/p=D) x a) xs (((as.take i).filter p).map f),
   #[_,rfl,Yr _,cD l _,aQ,.nil],?_]
  rintro i m H' xs ⟨rfl,hi,sm,n,r⟩;refine#[n,?_];obtain⟨P,W⟩:=N.ownIn l sm n;obtain⟨t1,t2⟩:=XV H' _ P.own W;by_cases k:i<as.length
  .have ha:as[i]?=À as[i]:=Xz k;have t:as.take (i+1)=as.take i++[as[i]]:=by rw[abQ,ha];rfl
   obtain⟨go,Γ⟩:=t1 i _ ha;refine .inr #[go,λx u σ=>?_];obtain⟨h,rx⟩:=Γ x u σ;refine L b as[i] H0 F _ (cΓ U tn js) (cσ Y tn js) u x _ ((P.go h).iS tn js) rx λσ2 T l2 k2=>?_;refine#[#[λj v hj e=>?_,l2],_,_,ht i _ ha,H0,F,_,T,λH3 d=>?_]
   .rw[k2 j λz=>absurd (B j z) (aaW.mpr hj)];exact e
   cases hp:p as[i] with
   |false =>
    refine t9 #[as.length-(i+1),.b,rfl,k,sm.trans (h.trans d),d _ _ (h _ _ n),?_];rw[t,Ž,aby,hp];simp only[Zt,Z6,ϒ,aaE];exact bN (λ_ _ z=>ay (ah (h.trans d)) z) r
   |true =>
    refine t_ #[_,_,hb i _ ha hp,H0,F,_,T.go d,λy H4 G V=>?_];have α:H4 D=À (.lst xs):=G _ _ (d _ _ (h _ _ n));have I:(λp=>O p\/p=D) D:=.inr rfl;refine#[α,?_,as.length-(i+1),.b,rfl,k,?_,aQ,?_]
    .have:=bG r;rw[Xv] at this;have h2:=acY p (as.take i);have h3:=List.length_take_le i as;exact aaG .b (dc hl)
    .exact λc o z=>by
      have hc:c≠D:=λw=>by rw[w,l] at z;cases z
      rw[aC hc];exact G _ _ (d _ _ (h _ _ (sm _ _ z)))
    .rw[rO I,t,Ž,aby,hp];simp only[aaC,ϒ,Zl,X3,aaQ];exact wt (bN (λ_ _ z=>ay (ah (h.trans (d.trans G))) z) r) (.cons V .nil)
  .have ei:i=as.length:=by lia
   subst ei;rw[YU] at r;have A:off H' O D=À (.lst xs):=by rw[aU (N.mB l)];exact n
   refine .inl #[t2,q _ H' (S.trans sm) #[D,xs,rfl,dX.of A,Nf.wk (N.iD l) A,?_]]
   .exact bN (λ_ _ z=>ay (nP λ_ w=>.inl w) z) r
def F4{H:Hp}:PE .H elt (SJ X tn js ZB elt β b'):=by stop exact λZ2 s' Y H' Q I ⟨U',v,h,q⟩=>(show PE .H elt (tV X.K U' b' v) from h C s H fp) Z2 s' Y H' Q I q
def Gu{H:Hp}:PF .H ifs (SF X tn js ZB ifs):=by stop exact λZ2 s' Y H' Q I ⟨U',c,h,q⟩=>(show PF .H ifs (M1 X.K U' c) from h C s H fp) Z2 s' Y H' Q I q
def Cu(tn:List Ð)(js:List Nat)(S:g8 X ZB tn js)(he:EI X U target iter b as)(c:GP g M put tc X.K)(k:∀C s H fp,PG .H target g)(d:∀j,tc j->j<tn.length)
  (o:∀(i:Nat) (a:M),as[i]?=À a->∀C s H fp,FT .H (put b a (cΓ U tn js)) ifs (p a))
  (h:∀(i:Nat) (a:M),as[i]?=À a->p a=Á->∀C s H fp,E .H (put b a (cΓ U tn js)) elt b' (f a)) (l:as.length<=1000) (m:X.calm=Á:=by rfl)
  (n:∀x,Ü iter X.env x=pure x:=by intro _;rfl):E X U (.ListComp elt [#[target,iter,ifs,0]] ZB pos) b' ((as.filter p).map f):=by stop obtain⟨wi,hi,e⟩:=he;exact aP (Qv S m hi (λC s H fp=>#[k C s H fp,Gu,F4]) n) λY H Q ⟨H0,F,O,Z,q⟩=>B8 e c d o h l Z q
def eC(tn:List Ð)(js:List Nat)(S:g8 X ZB tn js)(he:EI X U target iter b as)(c:GP g M put tc X.K)(k:∀C s H fp,PG .H target g)(d:∀j,tc j->j<tn.length)
  (e:∀(i:Nat) (a:M),as[i]?=À a->∀C s H fp,E .H (put b a (cΓ U tn js)) elt b' (f a)) (l:as.length<=1000) (m:X.calm=Á:=by rfl)
  (n:∀x,Ü iter X.env x=pure x:=by intro _;rfl):E X U (.ListComp elt [#[target,iter,[],0]] ZB pos) b' (as.map f):=by stop have h:=Cu (pos:=pos) (p:=λ_=>Á) tn js S he c k d (λi a _ C s H fp=>Es) (λi a ha _=>e i a ha) l m n;rw[abN.mpr (λ_ _=>rfl)] at h;exact h
def jx(i:Nat){py c:ò}(r:X.N.Nodup)(tn:List Ð)(js:List Nat)(u:g8 X ZB tn js)(he:EI X U target iter b as)(k:GP g M put tc X.K)(o:∀C s H fp,PG .H target g)(d:∀j,tc j->j<tn.length)
  (J:∀(i:Nat) (a:M),as[i]?=À a->∀C s H fp,FT .H (put b a (cΓ U tn js)) ifs (p a))
  (A:∀(i:Nat) (a:M),as[i]?=À a->p a=Á->∀C s H fp,E .H (put b a (cΓ U tn js)) elt b' (f a)) (G:as.length<=1000)
  (h:S X (U.set i (À (.val b' ((as.filter p).map f)))) rest D) (e:X.N[i]?=À y:=by rfl) (t:Loc X.env.scope y:=by first|exact Ă rfl|exact ñ rfl)
  (q:X.fn y=Á\/X.env.scope.names.lookup y=À .local:=by first|exact .inl rfl|exact .inr rfl) (w:X.calm=Á:=by rfl)
  (l:Ā (.ListComp elt [#[target,iter,ifs,0]] ZB pos) (À (.Name y py)) c.line X.env=pure Á:=by rfl)
  (I:∀x,Ü iter X.env x=pure x:=by intro _;rfl):EP.S X U (.Assign [.Name y py] (.ListComp elt [#[target,iter,ifs,0]] ZB pos) c::rest) D:=by stop obtain⟨wi,hi,z⟩:=he;exact eP (eQ (EZ r e t q u w hi (λC s H fp=>#[o C s H fp,Gu,F4]) l I) λL Y H ⟨H0,F,O,Z,n,_⟩=>B8 z k d J A G Z λv H1 m B=>n _ _ H1 O (ah m) ((Z.go m).set B) h)
def wH(i:Nat){py c:ò}(q:X.N.Nodup)(tn:List Ð)(js:List Nat)(t:g8 X ZB tn js)(he:EI X U target iter b as)(e:GP g M put tc X.K)(n:∀C s H fp,PG .H target g)(l:∀j,tc j->j<tn.length)
  (m:∀(i:Nat) (a:M),as[i]?=À a->∀C s H fp,E .H (put b a (cΓ U tn js)) elt b' (f a)) (u:as.length<=1000)
  (h:S X (U.set i (À (.val b' (as.map f)))) rest D) (d:X.N[i]?=À y:=by rfl) (r:Loc X.env.scope y:=by first|exact Ă rfl|exact ñ rfl)
  (o:X.fn y=Á\/X.env.scope.names.lookup y=À .local:=by first|exact .inl rfl|exact .inr rfl) (v:X.calm=Á:=by rfl)
  (k:Ā (.ListComp elt [#[target,iter,[],0]] ZB pos) (À (.Name y py)) c.line X.env=pure Á:=by rfl)
  (w:∀x,Ü iter X.env x=pure x:=by intro _;rfl):EP.S X U (.Assign [.Name y py] (.ListComp elt [#[target,iter,[],0]] ZB pos) c::rest) D:=by stop refine jx (p:=λ_=>Á) i q tn js t he e n l (λi a _ C s H fp=>Es) (λi a ha _=>m i a ha) u ?_ d r o v k w;rw[abN.mpr (λ_ _=>rfl)];exact h
end
theorem zr:∀{bs:List Bool} {us:List Ä},Vals (bs.map V.bl) us->LSm.BoolsAre us bs
 |[],_,h=>by cases h;exact .nil
 |b::r,_,h=>by
  cases h with
  |cons h1 h2=>cases h1;exact .cons b (zr h2)
section
variable{X:Cx}
def CT(j:X.calm=Á):kM X (.builtin "all") (λxs H Q=>∃p,∃bs:List Bool,xs=[.ref p]/\dX X.K H p (bs.map V.bl)/\Q (.bl (bs.all id)) H):=by
 intro Z2 s Y H xs us Q I r h;obtain⟨p,bs,rfl,n,q⟩:=h;obtain⟨u,rfl,g⟩:=vals1 r;cases g;obtain⟨XV,m,pl,_⟩:=I.list n;have d:=zr m;have a:=pl.isList;have c:p<s.heap.objs.size:=by obtain⟨_,e,_⟩:=a;exact XE e
 refine call_all_walk (ab7 a ?_)
 refine#[s.heap.objs.size,[s.heap.objs.size,p],[s.heap.objs.size],XV.toArray.size,_,_,λi=>(bs[i]?).getD Á,rfl,Walks.list (A:=X.A.in1) (I.ok.hd j) _ p (X5 c) XV.toArray,
  #[#[_,XN _ rfl,rfl,rfl],a.push _],λi v s' o t k f=>?_,λh' tk l=>?_]
 .obtain⟨b,e,rfl⟩:=d.get i v ↑k;simp only[e,Ź] at f;exact Y4 f
 .have e:((Ô XV.toArray.size).all λi=>(bs[i]?).getD Á)=bs.all id:=by
   rw[XR,d.length];exact LSm.range_all bs
  rw[e];exact#[.bl _,H,I.kept (LSm.kept_iter l),rfl,q]
end
theorem LB{K:Ã}{N:Nn}{H:Hp}:∀{xs:List V} {bs:List Bool},ß (λx (b:Bool)=>Py.rp K N H x b) xs bs->xs=bs.map V.bl
 |_,_,.nil=>rfl
 |_,_,.cons h t=>by rw[show _=V.bl _ from h,LB t];rfl
theorem sO{K:Ã}{N:Nn}{H:Hp}:∀{xs:List V} {bs:List Int},ß (λx (b:Int)=>Py.rp K N H x b) xs bs->xs=bs.map V.int
 |_,_,.nil=>rfl
 |_,_,.cons h t=>by rw[show _=V.int _ from h,sO t];rfl
section
variable{X:Cx}{U:aK}{M β γ:Type}[Py M][Py β][Py γ]{e e1 e2 e3:Õ}{b b1 b2 b3:Bool}{pos:ò}
def La{bs:List Bool}{p:ò}(i:X.calm=Á)(d:Gl X "all")(h:X.mg "all"=none)(ha:E X U e b bs)(a:autoParam (Å [e] X.env=(Â,Ý e X.env)::Å [] X.env) zra):E X U (.Call (.Name "all" p) [e] [] pos) Á (bs.all id):=by
 stop
  exact aP (f7 (CT i) d h PyProof.Rows.boot_all (aD ha bq a) (he:=a)) λY H Q ⟨H0,F,O,S,q⟩=>#[H0,F,O,S,λv H1 f g=>by
    obtain⟨p,vs,e,c,n,r⟩:=g;rw[LB r] at c
    exact#[p,bs,by rw[e],(av _ _).seq c,q _ H1 f rfl]]
end
noncomputable def SE(a:Ĉ)(N:List Ð)(ZB:Ĉ)(js:List Nat):Bool :=
 (ZB.kind==.function)&&ZB.names.all (λx=>(!(x.2==.local) || ZB.names.lookup x.1==À .local)&&(!(x.2==.free) || (ZB.names.lookup x.1==À .free&&(a.names.lookup x.1==À .cell || a.names.lookup x.1==À .free)))&&ZB.names.all (λy=>!(x.1==y.1) || x.2==y.2)) &&
  js.all (λj=>match N[j]? with|some x=>ZB.names.lookup x==À .free|none=>Â)
def bP{ZB:Ĉ}(b:Ĉ)(N:List Ð)(h1:X.env.scope=b)(h2:X.N=N)(h:SE b N ZB js=Á):g8 X ZB tn js:=by
 subst h1 h2;unfold SE at h;simp only[X8,X_] at h;obtain⟨⟨g,ha⟩,l⟩:=h;refine#[↑g,λx a e=>?_,λx a e=>?_,λx a y k e=>?_,λj f=>?_]
 .obtain⟨⟨h1,h2⟩,d⟩:=ha x a;simpa [e] using h1
 .obtain⟨⟨h1,h2⟩,d⟩:=ha x a;have c:(ZB.names.lookup x.1==À .free&&(X.env.scope.names.lookup x.1==À .cell || X.env.scope.names.lookup x.1==À .free))=Á:=by simpa [e] using h2
  obtain⟨q1,i⟩:=YQ.mp c;refine#[↑q1,?_];rcases Bool.or_eq_true_iff.mp i with z|z
  .exact .inl (show X.env.scope.names.lookup x.1=_ by simpa using z)
  .exact .inr (show X.env.scope.names.lookup x.1=_ by simpa using z)
 .obtain⟨⟨h1,h2⟩,d⟩:=ha x a;have:=d y k;simpa [e] using this
 .have:=l j f;split at this
  .rename_i x a;exact#[x,a,↑this]
  .cases this
theorem Gp{env:Ł}{x:Ð}:∀(names:List (Ð×ï)),(names.map fun(n,k)=>if (k==á&&env.scope.kind==.function&&env.kindOf n==À .cell) then (n,ã) else (n,k)).lookup x =
  (names.lookup x).map λk=>if (k==á&&env.scope.kind==.function&&env.kindOf x==À .cell) then ã else k
 |[]=>rfl
 | (n,k) :: r=>by
  have c:=Gp (env:=env) (x:=x) r;by_cases e:x=n
  .subst e
   cases a:(k==á&&env.scope.kind==.function&&env.kindOf x==À .cell) <;>
    simp only[a,X3,Z8,aaV,aaC,Μ,Zt,Z6]
  .have b:(x==n)=Â:=by simpa using e
   cases a:(k==á&&env.scope.kind==.function&&env.kindOf n==À .cell) <;>
    simp only[a,b,X3,Z8,aaC,Zt,Z6]<;>exact c
def xi{env:Ł}{names:List (Ð×ï)}(h:names.lookup x=À .cell):(names.map fun(n,k)=>if (k==á&&env.scope.kind==.function&&env.kindOf n==À .cell) then (n,ã) else (n,k)).lookup x=À .cell:=by
 rw[Gp,h];rfl
def c9{ZB:Ĉ}{pos:ò}(i:Nat)(N:List Ð)(h:autoParam (cN X tn js=N) zra)(b:N.Nodup:=by decide +kernel)(hi:autoParam (N[i]?=À x) zra)
  (a:ZB.names.lookup x=À .local\/ZB.names.lookup x=À .cell:=by first|exact .inl rfl|exact .inr rfl):PG .H (.Name x pos) (kN i):=by
 refine mJ (show(cN X tn js).Nodup by rw[h];exact b) (show(cN X tn js)[i]?=À x by rw[h];exact hi) ?_ ?_
 .rcases a with z|z
  .exact .inl (ώ z)
  .exact .inr (xi z)
 .rcases a with z|z
  .exact .inr (ώ z)
  .refine .inl ?_;show(match ZB.names.lookup x with|some .cell=>Á|_=>Â)=Á;rw[z]
def a7{i:Nat}(h:autoParam (i<n) zrb):∀j,j=i->j<n:=λj e=>by rw[e];exact h
section
variable{K:Ã}{H0:Hp}{F O:Ç->Prop}{U:aK}{Y:St}{H H':Hp}
def dU.FA{i:Nat}(Z:dU K H0 F O U Y H)(sm:aG H H')(N:Ç->Prop)(d:∀q,N q->H q=none/\∃xs:Mt,H' q=À (mo xs))(g:Bd)(x:g.g7)(A:g.AW K H0 (λp=>O p\/N p) H' N v):
  dU K H0 F (λp=>O p\/N p) (U.set i (À g)) (Y.set i (À v)) H'/\aG .G (off H' λp=>O p\/N p):=by
 have s:aG .G (off H' λp=>O p\/N p):=λb o h=>by
  obtain⟨h1,h2⟩:=dy h;have B:¬N b:=λz=>by rw[(d b z).1] at h2;cases h2
  rw[aU (by rintro(z|z);exact h1 z;exact B z)];exact sm _ _ h2
 refine#[#[Z.same.trans sm,λp h=>.inl (Z.fo p h),Z.f0,λp h=>?_,by rw[YG,YG];exact Z.len,λj g' e n=>?_,?_],s]
 .rcases h with h|h
  .obtain⟨ys,q⟩:=Z.own p h;exact#[ys,sm _ _ q]
  .exact(d p h).2
 .by_cases c:j=i
  .subst c;obtain⟨u,t⟩:=get_set_some e;subst t;exact absurd x n
  .rw[get_set_ne c] at e;obtain⟨w,q1,f⟩:=Z.at_ j g' e n;refine#[w,by rw[get_set_ne c];exact q1,?_];cases g' with
   |val b a=>exact ay s f
   |own b as=>exact f
   |dpo a=>exact f
 .obtain⟨D,C,l,y⟩:=Z.dis;refine#[λj q=>(j=i/\N q)\/(j≠i/\D j q),λj k q h1 h2=>?_,λj q h=>?_,λj g' e o=>?_]
  .rcases h1 with⟨e1,r⟩|⟨e1,r⟩<;>rcases h2 with⟨e2,m⟩|⟨e2,m⟩
   .rw[e1,e2]
   .exact absurd (l k q m).1 (Z.mB (d q r).1)
   .exact absurd (l j q r).1 (Z.mB (d q m).1)
   .exact C j k q r m
  .rcases h with⟨_,n⟩|⟨_,n⟩
   .exact#[.inr n,Z.iD (d q n).1]
   .exact#[.inl (l j q n).1,(l j q n).2]
  .by_cases c:j=i
   .subst c;obtain⟨u,t⟩:=get_set_some e;subst t;refine#[v,get_set_eq (by rw[Z.len];exact u),?_];have:(λq=>(j=j/\N q)\/(j≠j/\D j q))=N:=funext λq=>propext #[λz=>by rcases z with⟨_,z⟩|⟨z,_⟩;exact z;exact absurd rfl z,λz=>.inl #[rfl,z]];show Bd.AW K H0 (λp=>O p\/N p) H' (λq=>(j=j/\N q)\/(j≠j/\D j q)) v g;rw[this];exact A
   .rw[get_set_ne c] at e;obtain⟨w,q1,f⟩:=y j g' e o;refine#[w,by rw[get_set_ne c];exact q1,?_];have:(λq=>(j=i/\N q)\/(j≠i/\D j q))=D j:=funext λq=>propext #[λz=>by rcases z with⟨z,_⟩|⟨_,z⟩;exact absurd z c;exact z,λz=>.inr #[c,z]];show Bd.AW K H0 (λp=>O p\/N p) H' (λq=>(j=i/\N q)\/(j≠i/\D j q)) w g';rw[this];exact Bd.O0 f (λp ys _ z=>sm _ _ z) s (λp z=>(l j p z).1) Z.own
def dU.AI{i:Nat}(Z:dU K H0 F O U Y H)(s:U[i]?=À (À g))(E:g.g7):∃v D,Y[i]?=À (À v)/\g.AW K H0 O H D v/\(∀p,D p->O p/\H0 p=none) /\
  ∀(p:Ç) (ys:Mt) (g':Option Bd),D p->(∀d,g'=À d->d.g7/\d.AW K H0 O (upd H p (mo ys)) D v)->dU K H0 F O (U.set i g') Y (upd H p (mo ys))/\off (upd H p (mo ys)) O=off H O:=by
 obtain⟨D,B,l,A⟩:=Z.dis;obtain⟨v,q1,G⟩:=A i g s E;refine#[v,D i,q1,G,l i,λp ys g' hp h=>?_];have t:=(l i p hp).1;have u:=rO (H:=H) (o:=mo ys) t;refine#[#[λb o z=>?_,Z.fo,Z.f0,λb I=>?_,by rw[YG];exact Z.len,λj c e n=>?_,D,B,l,λj c e o=>?_],u]
 .have:b≠p:=λw=>by rw[w,(l i p hp).2] at z;cases z
  rw[aC this];exact Z.same _ _ z
 .by_cases k:b=p
  .subst k;exact#[ys,aQ]
  .rw[aC k];exact Z.own b I
 .by_cases f:j=i
  .subst f;have y:j<U.length:=(Xy.mp s).1;rw[get_set_eq y] at e;have x:g'=À c:=XJ e;exact absurd (h c x).1 n
  .rw[get_set_ne f] at e;obtain⟨w,r,m⟩:=Z.at_ j c e n;refine#[w,r,?_];cases c with
   |val b a =>
    show Py.rp K _ (off (upd H p _) O) w a;rw[u];exact m
   |own b as=>exact m
   |dpo a=>exact m
 .by_cases f:j=i
  .subst f;have y:j<U.length:=(Xy.mp s).1;rw[get_set_eq y] at e;have x:g'=À c:=XJ e;exact#[v,q1,(h c x).2]
  .rw[get_set_ne f] at e;obtain⟨w,r,m⟩:=A j c e o;refine#[w,r,Bd.O0 m (λq xs C z=>?_) (by rw[u];exact aG.refl _) (λq z=>(l j q z).1) Z.own];have:q≠p:=λw=>f (B j i q C (w▸hp));rw[aC this];exact z
def dU.write{i:Nat}(Z:dU K H0 F O U Y H)(e:U[i]?=À (À g))(h:g.g7):∃v D,Y[i]?=À (À v)/\g.AW K H0 O H D v/\(∀p,D p->O p/\H0 p=none) /\
  ∀(p:Ç) (ys:List V) (g':Option Bd),D p->(∀d,g'=À d->d.g7/\d.AW K H0 O (upd H p (.lst ys)) D v)->dU K H0 F O (U.set i g') Y (upd H p (.lst ys))/\off (upd H p (.lst ys)) O=off H O:=by
 obtain⟨v,D,a,b,c,f⟩:=Z.AI e h;exact#[v,D,a,b,c,λp ys=>f p (.inl ys)]
def dU.freeze{i:Nat}{g':Bd}(Z:dU K H0 F O U Y H)(C:U[i]?=À (À g))(E:g.g7)(J:¬g'.g7)
  (I:∀(D c:Ç->Prop) v,g.AW K H0 O H D v->(∀p,D p->H0 p=none/\¬c p)->aG .G (off H c)->(∀p xs,Rt H p xs->Rt (off H c) p xs)->g'.ok K H0 c H v):
  ∃c,dU K H0 F c (U.set i (À g')) Y H/\aG .G (off H c):=by
 obtain⟨D,B,f,A⟩:=Z.dis;obtain⟨v,q1,G⟩:=A i g C E;have s:aG .G (off H λp=>O p/\¬D i p):=nP λp h=>h.1;refine#[λp=>O p/\¬D i p,#[Z.same,λp h=>#[Z.fo p h,λz=>?_],Z.f0,λp h=>Z.own p h.1,by rw[YG];exact Z.len,λj d e n=>?_,λj q=>j≠i/\D j q,λj k q h1 h2=>B j k q h1.2 h2.2,λj q h=>#[#[(f j q h.2).1,λz=>h.1 (B j i q h.2 z)],(f j q h.2).2],λj d e o=>?_],s]
 .obtain⟨xs,w⟩:=Z.f0 p h;rw[(f i p z).2] at w;cases w
 .by_cases m:j=i
  .subst m;obtain⟨_,y⟩:=get_set_some e;subst y;refine#[v,q1,I (D j) _ v G (λp z=>#[(f j p z).2,λw=>w.2 z]) s λp xs q=>?_]
   have hp:∀u,(H p=À (.tup u)\/∃o,H p=À (.frz o (.tup u)))->¬(O p/\¬D j p):=λu z w=>by
    obtain⟨ys,t⟩:=Z.own p w.1;rcases z with z|⟨o,z⟩
    .rw[z] at t;rcases ys with ys|ys|ys<;>cases t
    .rw[z] at t;rcases ys with ys|ys|ys<;>cases t
   have l:=hp xs q.rd;rcases q with q|⟨o,q⟩
   .exact .inl (by rw[aU l];exact q)
   .exact .inr #[o,by rw[aU l];exact q]
  .rw[get_set_ne m] at e;obtain⟨w,x,r⟩:=Z.at_ j d e n;refine#[w,x,?_];cases d with
   |val b a=>exact ay s r
   |own b as=>exact r
   |dpo a=>exact r
 .have m:j≠i:=by
   rintro rfl;obtain⟨_,y⟩:=get_set_some e;subst y;exact J o
  rw[get_set_ne m] at e;obtain⟨w,x,r⟩:=A j d e o;refine#[w,x,?_];have:(λq=>j≠i/\D j q)=D j:=funext λq=>propext #[λz=>z.2,λz=>#[m,z]];show Bd.AW K H0 (λp=>O p/\¬D i p) H (λq=>j≠i/\D j q) w d;rw[this];exact Bd.O0 r (λp ys _ z=>z) s (λp z=>(f j p z).1) Z.own
def Nd{M:Type}[Py M]{b:Bool}{as:List M}{D a:Ç->Prop}(h:(Bd.own b as).AW K H0 O H D v)(c:∀p,D p->H0 p=none/\¬a p)(f:aG .G (off H a)):(Bd.val b as).ok K H0 a H v:=by
 obtain⟨p,xs,e,o,q,r⟩:=h;have d:off H a p=À (.lst xs):=by rw[aU (c p o).2];exact q
 exact#[p,xs,e,dX.of d,Nf.wk (c p o).1 d,bN (λ_ _ z=>ay f z) r]
def MR{M:Type}[Py M]{a:M}{D b:Ç->Prop}(h:(Bd.dpo a).AW K H0 O H D v)(c:∀p,D p->H0 p=none/\¬b p)(g:∀p xs,Rt H p xs->Rt (off H b) p xs):(Bd.val Á a).ok K H0 b H v:=by
 refine Py.tr (λp xs q n=>?_) g h;obtain⟨e,f⟩:=n;have d:off H b p=À (mo xs):=by rw[aU (c p e).2];exact f
 exact#[Mo.of d,(c p e).1,d]
variable{X:Cx}{D:GD}{M β γ:Type}[Py M][Py β][Py γ]{e e1 e2:Õ}{b b1 b2:Bool}{pos:ò}{rest st:List Ò}
def Ky(i:Nat)(M:Type)[Py M]{p p2:ò}(d:X.N.Nodup)(h:S X (U.set i (À (.own Á ([]:List M)))) rest D)(hi:autoParam (X.N[i]?=À x) zra)(g:Loc X.env.scope x:=by first|exact Ă rfl|exact ñ rfl)
  (j:Ā (.List [] p2) (À (.Name x p)) pos.line X.env=pure Â:=by rfl) (b:X.fn x=Á\/X.env.scope.names.lookup x=À .local:=by first|exact .inl rfl|exact .inr rfl):S X U (.Assign [.Name x p] (.List [] p2) pos::rest) D:=by
 stop
  exact eP (eQ (vH d hi g (Am bq) j b) λk Y H ⟨H0,F,O,Z,n,_⟩=>#[Yr _,λq a=>by
    obtain⟨f,c⟩:=Z.FA (i:=i) (v:=.ref q) (cD a (.lst [])) (·=q) (λr e=>by subst e;exact#[a,.inl [],aQ]) (Bd.own Á ([]:List M)) É ⟨q,[],rfl,rfl,aQ,.nil⟩
    exact n _ _ _ _ c f h])
def mO(i:Nat){as:List M}{a:M}{p ap j:ò}(B:U[i]?=À (À (.own b as)))(he:E X U e b a)(T:as.length<=1000)(h:S X (U.set i (À (.own b (as++[a])))) rest D)(hi:autoParam (X.N[i]?=À x) zra)
  (L:Iy X.env.scope x:=by first|exact Ă rfl|exact ñ (Ă rfl)|exact ñ (ñ rfl)) (σ:(x==("__debug__":Ð))=Â:=by decide) (r:(x==("__classdict__":Ð))=Â:=by decide)
  (f:ĺ (.Name x p) "append" X.env (Ý (.Name x p) X.env)=Ý (.Name x p) X.env:=by rfl)
  (l:((ì j (Å [e] X.env)).all (λx=>!x.1)&&(backToKw j (keywordEach [] X.env)).all (λx=>x.1.isSome)
   && decide (([e]:List Õ).length+([]:List Τ).length+(if ([]:List Τ).isEmpty then 0 else 1)<30))=Á:=by rfl)
  (g:(ap.endLine==j.line)=Á:=by rfl) (C:Å [e] X.env=(Â,Ý e X.env)::Å [] X.env:=by rfl) (c:(ì j (Å [] X.env)).any (·.1)=Â:=by rfl)
  (w:Ā (.Call (.Attribute (.Name x p) "append" ap) [e] [] j) none pos.line X.env=pure Â:=by rfl):
  S X U (.Expr (.Call (.Attribute (.Name x p) "append" ap) [e] [] j) pos::rest) D:=by
 stop
  exact eP (eQ (BA (Pg PySem.F.plainAttrs_list PySem.F.slot_list_append PySem.F.type_list_append uA (pv i hi L σ r) (aD he bq C) f l g C c) w) λDe Y H ⟨H0,F,O,Z,n,_⟩=>by
    obtain⟨v,Di,k,⟨q,xs,s,α,d,u⟩,_,_⟩:=Z.write B É;subst s;refine#[.ref q,k,.inl #[rfl,xs,dX.of d],H0,F,O,Z,λy H2 o G=>#[q,xs,y,rfl,rfl,o _ _ d,?_,?_]]
    .rw[bG u];exact dc T
    .obtain⟨W,D',DL,⟨q',m,K,A,Γ,P⟩,t,wr⟩:=(Z.go o).write B É;rw[k] at DL;have ev:V.ref q=W:=by injection DL with z;injection z
     subst ev;cases K
     have ex:m=xs:=by
      have:=o _ _ d;rw[Γ] at this;cases this;rfl
     subst ex
     obtain⟨I,Q⟩:=wr q (m++[y]) (À (.own b (as++[a]))) A λJ R=>by
      cases R;refine#[É,q,_,rfl,A,aQ,?_];rw[rO (t q A).1];exact wt P (.cons G .nil)
     exact n _ _ _ _ (by rw[Q];exact ah o) I h)
def Bk{g':Bd}(i:Nat)(d:U[i]?=À (À g))(j:g.g7)(f:¬g'.g7)
  (e:∀(H0 H:Hp) (O D a:Ç->Prop) v,g.AW X.K H0 O H D v->(∀p,D p->H0 p=none/\¬a p)->aG .G (off H a)->(∀p xs,Rt H p xs->Rt (off H a) p xs)->g'.ok X.K H0 a H v)
  (h:S X (U.set i (À g')) st D):S X U st D:=by
 stop
  exact tj h λm Y H ⟨H0,F,O,Z,n,r,bk,ct⟩=>by
   obtain⟨a,l,c⟩:=Z.freeze d j f λk a v=>e H0 H O k a v;exact#[H0,F,a,l,λΓ2 σ2 H2 b sm=>n Γ2 σ2 H2 b (c.trans sm),r,λΓ2 σ2 H2 b sm=>bk Γ2 σ2 H2 b (c.trans sm),λΓ2 σ2 H2 b sm=>ct Γ2 σ2 H2 b (c.trans sm)]
def dD(i:Nat){as:List M}(a:U[i]?=À (À (.own b as)))(h:S X (U.set i (À (.val b as))) st D):S X U st D:=by stop exact Bk (g':=.val b as) i a É (λz=>z) (λH0 H O f g v c e d _=>Nd c e d) h
def LN(i:Nat){a:M}(c:U[i]?=À (À (.dpo a)))(h:S X (U.set i (À (.val Á a))) st D):S X U st D:=by stop exact Bk (g':=.val Á a) i c É (λz=>z) (λH0 H O f g v d e _ b=>MR d e b) h
def xw(i j:Nat){K:Ã}:GP (JP K 2 (rR (kN i) (rR (kN j) Jb))) (M×β) (λb u U=>(U.set i (À (.val b u.1))).set j (À (.val b u.2))) (λk=>k=i\/k=j) K:=λb u H0 F O U Y H v Q Z r q=>by
 obtain⟨p,e,c,f,g,h,d⟩:=r;refine#[p,_,f,xD (av _ _) g,rfl,e,[c],rfl,c,[],rfl,rfl,?_];exact q _ ((Z.set h).set d) (by rw[YG,YG]) λk a=>by rw[get_set_ne λz=>a (.inr z),get_set_ne λz=>a (.inl z)]
end
end L2.EP
namespace L2
open PySem PySem.Spec PyProof.Rows
noncomputable def RS(K : Ã)(a b : Ç) : It :=
  #[λi H=>∃xs ys x y,dX K H a xs/\dX K H b ys/\xs[i]?=À x/\ys[i]?=À y,
   λi H v H'=>∃T x y,H T=none/\v=.ref T/\H'=upd H T (.tup [x,y])/\(∀xs,dX K H a xs->xs[i]?=À x)/\∀ys,dX K H b ys->ys[i]?=À y,
   λi H=>∃xs ys,dX K H a xs/\dX K H b ys/\(xs.length<=i\/ys.length<=i)]
def dv{h:â}{a b:Ç}{o u:ü}(e1:h.get? a=À o)(e2:h.get? b=À u)(d:o.cls≠u.cls):a≠b:=λz=>by
 subst z;rw[e1] at e2;cases e2;exact d rfl
def uH{h:â}{z TI TO n k i j:Ç}{p w u x q:Ä}{y o:Nat}{xs ys:Array Ä}(hz:IsZip h z TI TO p)(b:IsPair h TI w u)(a:IsPair h TO x q)(h1:h.IsListIter n i y)(h2:h.IsListIter k j o)
  (m:h.IsList i xs) (l:h.IsList j ys) (v:TI≠TO) (r:n≠k):ZipApart z TI TO n k i j:=by
 obtain⟨A,c,b1,_⟩:=h1;obtain⟨B,d,b2,_⟩:=h2;obtain⟨C,c1,g,_⟩:=m;obtain⟨p2,c2,f,_⟩:=l;have X:∀{s t:String},s≠t->û s≠û t:=λne e=>ne (by injection e)
 exact#[dv b hz (X .a),dv a hz (X .a),dv c hz (by rw[b1];exact X .a),dv d hz (by rw[b2];exact X .a),v,dv b c (by rw[b1];exact X .a),dv b d (by rw[b2];exact X .a),
  dv a c (by rw[b1];exact X .a),dv a d (by rw[b2];exact X .a),r,dv c1 hz (by rw[g];exact X .a),dv c1 a (by rw[g];exact X .a),dv c1 c (by rw[g,b1];exact X .a),dv c1 d (by rw[g,b2];exact X .a),
  dv c2 hz (by rw[f];exact X .a),dv c2 a (by rw[f];exact X .a),dv c2 c (by rw[f,b1];exact X .a),dv c2 d (by rw[f,b2];exact X .a)]
section
variable{X:Cx}{Z2:List (Ç×ü)}{Y:St}{H H':Hp}{s:Æ}
def Inv.Bx{h':â}{t':Nat}{ch:List Ç}{T:Ç}{xs:List V}(I:Inv X Z2 Y H s)(i:s.heap.objs.size<=T)(k:∀b o,b∉ch->s.heap.get? b=À o->h'.get? b=À o)(th:∀b o,s.heap.get? b=À o->∃o',h'.get? b=À o')(f:∀b∈ch,t8 X Z2 H b)
  (new:b8 X.prog X.w (upd H T (.tup xs)) h' T (.tup xs)):Inv X Z2 Y (upd H T (.tup xs)) {s with heap:=h',toks:=t'}:=by
 stop
  have h:H T=none:=I.hok.fresh i;have g:∀b u,H b=À u->b∉ch:=λb u e z=>by rw[(f b z).1] at e;cases e
  refine I.step (g':=s.gens) (d':=s.drawn) (ch:=ch) (λb d=>#[(f b d).2.2.2.1,(f b d).2.1,(f b d).2.2.2.2.1,(f b d).2.2.2.2.2]) (λb o _ _ a e _=>k b o a e) (λb o _ _ a e _=>#[o.slots,k b o a e])
   (λb o a e n=>by rw[aC (X5 (X4 (XE e) i))];exact n) (λb o a e=>#[o,k b o a e]) (λb ys e=>by rw[aC (b9 e h)];exact e) (λb u ys e=>by rw[aC (b9 e h)];exact e) (λb ps e=>#[#[],by rw[aC (b9 e h),e];simp]) (λm l=>?_) (λb u e=>?_) I.bare
  .obtain⟨o,es,ep,j,r⟩:=l;exact#[o,es,ep,k _ o (λz=>(f _ z).2.1 rfl) j,r]
  .by_cases d:b=T
   .subst d;rw[aQ] at e;cases e;exact new
   .rw[aC d] at e;refine(I.hok b u e).w6 (λc v a q=>k c v ?_ q) (λc z=>?_) λc ys z=>?_
    .rcases a with z|z
     .rw[z];exact g b u e
     .exact g c _ z
    .rw[aC (b9 z h)];exact z
    .rw[aC (b9 z h)];exact z
end
def EC{P:Ñ}{w:Û}{K:Ã}{elts:List Õ}{kk:Nat}{tp:ò}(z TI TO l j a b:Ç)(n1:TI≠TO)(n2:l≠j):Turn P w K (.Tuple elts kk tp) (RS K a b) [z,TI,TO,l,j] z
  (λi h=>IsZip h z TI TO .none/\IsPair h TI (.ref l) (.ref j)/\(∃x y,IsPair h TO x y)/\h.IsListIter l a i/\h.IsListIter j b i) where
 mem:=by simp
 obj:=λi h st c L=>by
  obtain⟨hz,f,⟨x,y,g⟩,h1,h2⟩:=st;have d:c=z\/c=TI\/c=TO\/c=l\/c=j:=by simpa using L
  rcases d with e|e|e|e|e
  .subst e;exact#[_,hz,λv q=>by cases q]
  .subst e;exact#[_,f,λv q=>by cases q]
  .subst e;exact#[_,g,λv q=>by cases q]
  .subst e;obtain⟨o,q1,J,C⟩:=h1;exact#[o,q1,λv q=>by rw[C] at q;cases q]
  .subst e;obtain⟨o,q1,J,C⟩:=h2;exact#[o,q1,λv q=>by rw[C] at q;cases q]
 keep:=λi h h' st k=>by
  obtain⟨hz,f,⟨x,y,g⟩,h1,h2⟩:=st;exact#[k z .c _ hz,k TI .c _ f,#[x,y,k TO .c _ g],h1.at λo e=>k l .c o e,h2.at λo e=>k j .c o e]
 item:=by
  intro X σ hw hK L i Z2 s Y H E I A st S;subst σ hw hK;obtain⟨xs,ys,x,y,α,N,gx,gy⟩:=S;obtain⟨hz,f,⟨wa,wb,g⟩,h1,h2⟩:=st;obtain⟨ix,T,F,_⟩:=I.list α;obtain⟨iy,R,py,_⟩:=I.list N;have D:=uH hz f g h1 h2 F.isList py.isList n1 n2;obtain⟨u,ux,Γ⟩:=T.get gx;obtain⟨v,vy,V⟩:=R.get gy;refine wpAny_pyNext_zip_item D hz f g h1 h2 F.isList py.isList ↑ux ↑vy λh' a1 a2 a3 a4 a5 a6 t=>?_;have hT0:H s.heap.objs.size=none:=I.hok.fresh (Xu _)
  have I1:Inv X Z2 Y (upd H s.heap.objs.size (.tup [x,y])) {s with heap:=h',toks:=s.toks}:=by
   refine I.Bx (ch:=[z,TO,l,j]) (Xu _) (λc o d e=>t c o (λq=>d (by simp[q])) (λq=>d (by simp[q])) (λq=>d (by simp[q])) (λq=>d (by simp[q])) e) (λc o e=>?_) (λc d=>A c (by simp at d ⊢;rcases d with q|q|q|q<;>simp[q])) ?_
   .have hlt:=XE e;have:c<h'.objs.size:=by rw[a6];exact Y5 hlt
    by_cases q1:c=z
    .subst q1;exact#[_,a1]
    by_cases J:c=TO
    .subst J;exact#[_,a2]
    by_cases C:c=l
    .subst C;obtain⟨o',q,_⟩:=a3;exact#[o',q]
    by_cases q4:c=j
    .subst q4;obtain⟨o',q,_⟩:=a4;exact#[o',q]
    exact#[o,t c o q1 J C q4 e]
   .exact#[by show 2<=sizeLine;decide,[u,v],.cons Γ (.cons V .nil),#[_,a5,rfl,_,rfl]]
  refine#[_,rfl,?_];have B:=A z .c;refine wpAny_letOwnedTupleGo_zip a1 λh2' Q p=>?_;have zT:z≠s.heap.objs.size:=X5 (XE hz);have I2:Inv X Z2 Y (upd H s.heap.objs.size (.tup [x,y])) {({s with heap:=h',toks:=s.toks}:Æ) with heap:=h2',toks:=s.toks}:=I1.turned (λc o d e=>p.extBut c o d e) (by rw[aC zT];exact B.1) B.2.1 B.2.2.2.1 B.2.2.2.2.1 B.2.2.2.2.2;refine#[.ref s.heap.objs.size,upd H s.heap.objs.size (.tup [x,y]),I2,rfl,#[s.heap.objs.size,x,y,hT0,rfl,rfl,λxs' sx'=>?_,λys' sy'=>?_],#[Q,p.extBut _ _ D.TIz (t _ _ D.TIz D.TITO D.TIi1 D.TIi2 f),#[_,_,p.extBut _ _ D.TOz a2],a3.extBut p.extBut D.i1z,a4.extBut p.extBut D.i2z],λc d=>?_]
  .rw[I.nZ sx' α];exact gx
  .rw[I.nZ sy' N];exact gy
  .have hcl:c<s.heap.objs.size:=by
    have O:c=z\/c=TI\/c=TO\/c=l\/c=j:=by simpa using d
    rcases O with e|e|e|e|e
    .subst e;exact XE hz
    .subst e;exact XE f
    .subst e;exact XE g
    .subst e;obtain⟨_,q,_⟩:=h1;exact XE q
    .subst e;obtain⟨_,q,_⟩:=h2;exact XE q
   rw[aC (X5 hcl)];exact(A c d).1
 done:=by
  intro X σ hw hK L i Z2 s Y H E I A st S;subst σ hw hK;obtain⟨xs,ys,α,N,G⟩:=S;obtain⟨hz,f,⟨wa,wb,g⟩,h1,h2⟩:=st;obtain⟨ix,T,F,_⟩:=I.list α;obtain⟨iy,R,py,_⟩:=I.list N;have D:=uH hz f g h1 h2 F.isList py.isList n1 n2;refine wpAny_pyNext_zip_end (I.ok.hd L) D hz f g h1 h2 F.isList py.isList ?_ λh' t=>#[rfl,?_]
  .rcases G with q|q
   .left;simp[<-T.length];lia
   .right;simp[<-R.length];lia
  .have B:=A z .c;have fo:=A TO .c;have f1:=A l .c;have f2:=A j .c
   refine I.step (g':=s.gens) (d':=s.drawn) (t':=s.toks) (ch:=[z,TO,l,j]) (λb hb=>?_) (λb o _ _ d e _=>t b o (λq=>d (by simp[q])) (λq=>d (by simp[q])) (λq=>d (by simp[q])) (λq=>d (by simp[q])) e) (λb o _ _ d e _=>#[o.slots,t b o (λq=>d (by simp[q])) (λq=>d (by simp[q])) (λq=>d (by simp[q])) (λq=>d (by simp[q])) e]) (λ_ _ _ _ n=>n)
    (λb o d e=>#[o,t b o (λq=>d (by simp[q])) (λq=>d (by simp[q])) (λq=>d (by simp[q])) (λq=>d (by simp[q])) e]) (λ_ _ e=>e) (λ_ _ _ e=>e) (λb ps e=>#[#[],by rw[e];simp]) (λm hm=>?_) (λb u e=>?_) I.bare
   .have q:=A b (by simp at hb ⊢;rcases hb with q|q|q|q<;>simp[q]);exact#[q.2.2.2.1,q.2.1,q.2.2.2.2.1,q.2.2.2.2.2]
   .obtain⟨o,es,ep,ho,r⟩:=hm;exact#[o,es,ep,t _ o (Z5 B.2.1) (Z5 fo.2.1) (Z5 f1.2.1) (Z5 f2.2.1) ho,r]
   .have nn:∀c v,H c=À v->c≠z/\c≠TO/\c≠l/\c≠j:=λc v e=>#[(λq=>by(rw[q,B.1] at e;cases e)),(λq=>by(rw[q,fo.1] at e;cases e)),(λq=>by(rw[q,f1.1] at e;cases e)),(λq=>by(rw[q,f2.1] at e;cases e))];refine(I.hok b u e).w6 (λc v d q=>?_) (λ_ q=>q) λ_ _ q=>q;have:=nn c;rcases d with e'|e'
    .subst e';obtain⟨w1,w2,w3,Z⟩:=nn c _ e;exact t c v w1 w2 w3 Z q
    .obtain⟨w1,w2,w3,Z⟩:=nn c _ e';exact t c v w1 w2 w3 Z q
 self:=λ_ _ _ _ _ st h=>wpAny_pyIter_zip st.1 h
section
variable{X:Cx}{elts:List Õ}{kk:Nat}{tp:ò}
def RG(K:Ã)(ta:TA):TI:=λY H R=>ta Y H λvs H1=>∃a b,vs=[.ref a,.ref b]/\(∃xs,dX K H1 a xs)/\(∃ys,dX K H1 b ys)/\R (RS K a b) H1
def Hw{e1 e2:Õ}{ta:TA}{p pos:ò}(l:Gl X "zip")(A:X.mg "zip"=none)(ha:PA X [e1,e2] ta)(he:autoParam (Å [e1,e2] X.env=(Â,Ý e1 X.env)::Å [e2] X.env) zra)
  (hpl:(ì pos (Å [e2] X.env)).any (·.1)=Â:=by rfl):PI X (.Tuple elts kk tp) (.Call (.Name "zip" p) [e1,e2] [] pos) (RG X.K ta):=by
 intro Z2 s Y H R I h;refine Call_ (ic I l A PyProof.Rows.boot_zip (Za (cy (ha pos Z2 s Y H _ I h) λus d ⟨vs,H1,g,x,q1⟩=>?_) he hpl));obtain⟨a,b,e,⟨xs,r⟩,⟨ys,w⟩,q⟩:=q1;subst e;obtain⟨u,D,rfl,v,m⟩:=vals2 x;cases v;cases m;obtain⟨F,E,k,_⟩:=g.list r;obtain⟨J,C,py,_⟩:=g.list w;refine call_zip_2 k.isList py.isList λh' j B z n t G o=>?_;have y:Inv X Z2 Y H1 {d with heap:=h',toks:=d.toks}:=g.kept o;refine wpAny_pyIter_zip (s:={d with heap:=h'}) j ?_;refine#[d.heap.objs.size+4,[d.heap.objs.size+4,d.heap.objs.size+2,d.heap.objs.size+3,d.heap.objs.size,d.heap.objs.size+1],_,RS X.K a b,H1,rfl,y,EC (d.heap.objs.size+4) (d.heap.objs.size+2) (d.heap.objs.size+3) d.heap.objs.size (d.heap.objs.size+1) a b (X5 (ZJ _)) (X5 (ZJ _)),#[j,B,#[_,_,z],n,t],λc i=>?_,q]
 have f:d.heap.objs.size<=c:=by
  simp at i;rcases i with e|e|e|e|e<;>subst e<;>lia
 exact g.zJ f (g.hok.fresh f)
end
end L2
namespace L2.EP
open PySem PySem.Spec PyProof.Rows
section
variable{X:Cx}{U:aK}{M β:Type}[Py M][Py β]{e1 e2:Õ}{b1 b2:Bool}{elts:List Õ}{kk:Nat}{tp p ps:ò}
def wO{xs:List M}{ys:List β}(D:Gl X "zip")(Q:X.mg "zip"=none)(h1:E X U e1 b1 xs)(h2:E X U e2 b2 ys)(f:autoParam (Å [e1,e2] X.env=(Â,Ý e1 X.env)::Å [e2] X.env) zra)(l:autoParam (Å [e2] X.env=(Â,Ý e2 X.env)::Å [] X.env) zra)
  (hpl:(ì ps (Å [e2] X.env)).any (·.1)=Â:=by rfl):EI X U (.Tuple elts kk tp) (.Call (.Name "zip" p) [e1,e2] [] ps) (b1&&b2) (xs.zip ys):=by
 stop
  exact#[_,Hw D Q (aD h1 (aD h2 bq l) f) f hpl,λY H H0 F O R Z q=>#[H0,F,O,Z,λv H1 s L=>#[H0,F,O,Z.go s,λw H2 m α=>by
    obtain⟨a,g,Γ,V,na,t⟩:=L;obtain⟨c,h,ec,r,nc,rc⟩:=α;have b:=(ah (O:=O) m).seq V;refine#[a,c,by rw[Γ,ec],#[g,(av _ _).seq b],#[h,(av _ _).seq r],q _ H2 (s.trans m) λH' N o sm=>#[λi u S=>?_,?_]]
    .obtain⟨J,I⟩:=YD.mp S;obtain⟨x,C,K⟩:=gQ t J;obtain⟨y,A,G⟩:=gQ rc I;have d:=(av _ _).seq (sm.seq b);have e:=(av _ _).seq (sm.seq r);refine#[#[g,h,x,y,d,e,C,A],λv' P σ=>?_];obtain⟨T,x',y',j,rfl,rfl,f1,W⟩:=σ;have ex:=f1 g d;have B:=W h e;rw[C] at ex;cases ex;rw[A] at B;cases B
     have k:¬N T:=λz=>by
      obtain⟨zs,w⟩:=o T z;rw[j] at w;cases w
     refine#[cD j _,T,x,y,rfl,.inl (by rw[aU k];exact aQ),?_,?_]
     .exact bA (λ_ _ n=>wB n) (ay ((ah m).trans (sm.trans (ah (cD j _)))) K)
     .exact bA (λ_ _ n=>xu n) (ay (sm.trans (ah (cD j _))) G)
    .refine#[g,h,(av _ _).seq (sm.seq b),(av _ _).seq (sm.seq r),?_];rw[bG t,bG rc,aah]
     lia]]]
def zZ{ZB:Ĉ}{tn:List Ð}{js:List Nat}{C:Ç}{s:Æ}{H:Hp}{fp:List Ç}{x y:Ð}{c p2 d:ò}{k:Nat}(i j:Nat)(N:List Ð)(g:autoParam (X.calm=Á) zra)(h:autoParam (cN X tn js=N) zra)(b:N.Nodup:=by decide +kernel)(hi:autoParam (N[i]?=À x) zra)(e:autoParam (N[j]?=À y) zra)
  (f:ZB.names.lookup x=À .local\/ZB.names.lookup x=À .cell:=by first|exact .inl rfl|exact .inr rfl) (a:ZB.names.lookup y=À .local\/ZB.names.lookup y=À .cell:=by first|exact .inl rfl|exact .inr rfl):
  PG .H (.Tuple [.Name x c,.Name y p2] k d) (JP X.K 2 (rR (kN i) (rR (kN j) Jb))) :=
 Gf (X:=iS X (cN X tn js) ZB C s H fp) g (mP (c9 i N h b hi f) (mP (c9 j N h b e a) B7))
def o4{i j n:Nat}(h:autoParam (i<n) zrb)(h2:autoParam (j<n) zrb):∀k,k=i\/k=j->k<n:=λk e=>by rcases e with e|e<;>rw[e]<;>assumption
end
class PyT(β:Type)[Py β]:Prop where
 free:∀{K:Ã} {N N':Nn} {H H':Hp} {v:V} {b:β},(∀p xs,Rt H p xs->Rt H' p xs)->Py.rp K N H v b->Py.rp K N' H' v b
 nl:∀{K:Ã} {N:Nn} {H:Hp} {q:Ç} {b:β} {xs:List V},Py.rp K N H (.ref q) b->H q=À (.lst xs)->False
noncomputable instance:PyT Int where
 free _ h:=h
 nl h _:=nomatch h
noncomputable instance:PyT Bool where
 free _ h:=h
 nl h _:=nomatch h
noncomputable instance{M β:Type}[Py M][Py β][PyT M][PyT β]:PyT (M×β) where
 free t h:=by
  obtain⟨p,x,y,e,s,h1,h2⟩:=h;exact#[p,x,y,e,t _ _ s,PyT.free t h1,PyT.free t h2]
 nl h e:=by
  obtain⟨p,x,y,a,s,h1,h2⟩:=h;cases a;rcases s with s|⟨o,s⟩
  .rw[e] at s;cases s
  .rw[e] at s;cases s
def tN{M:Type}[Py M](K:Ã)(U:aK)(a:M):TE:=λY H Q=>∃H0 F O,dU K H0 F O U Y H/\∀v H',aG H H'->Py.rp K (.new H) (off H' O) v a->Q v H'
@[irreducible] def EN{M:Type}[Py M](X:Cx)(U:aK)(e:Õ)(a:M):Prop:=PE X e (tN X.K U a)
def mU{M:Type}[Py M]{K:Ã}{H H1 b:Hp}{v:V}{a:M}(s:aG H H1)(h:Py.rp K (.new H1) b v a):Py.rp K (.new H) b v a:=bA (N:=.new H1) (N':=.new H) (λ_ _ n=>#[s.free n.1,n.2]) h
section
variable{X:Cx}{U:aK}{D:GD}{M β γ:Type}[Py M][Py β][Py γ]{e e1 e2:Õ}{b b1 b2:Bool}{pos p:ò}{rest st:List Ò}{k:Nat}{name:Ð}{ps:List Ð}
def ym{pre:M->β->Prop}{f:M->β->γ}{a:M}{c:β}(C:aJ X.prog X.w X.K X.mg X.base k name ps (cO X.K pre Á f))(s:dZ k X.A)(i:Gl X name)(h1:E X U e1 b1 a)(h2:E X U e2 b2 c)(hp:pre a c)
  (b:Å [e1,e2] X.env=(Â,Ý e1 X.env)::Å [e2] X.env:=by rfl) (g:Å [e2] X.env=(Â,Ý e2 X.env)::Å [] X.env:=by rfl) (h:(name==("__debug__":Ð))=Â:=by decide) (hpl:(ì pos (Å [e2] X.env)).any (·.1)=Â:=by rfl):
  EN X U (.Call (.Name name p) [e1,e2] [] pos) (f a c):=by
 stop
  obtain⟨t,fd,F,B,kp,m⟩:=C.ex
  exact aP (gN F s i m kp B .nil lE (aD h1 (aD h2 bq g) b) h b hpl) λY H Q ⟨H0,F,O,S,q⟩=>#[H0,F,O,S,λl H1 d n=>#[H0,F,O,S.go d,λj H2 e o =>
   #[O,l,j,a,c,(S.go (d.trans e)).own,rfl,bA bJ (ay (ah e) n),bA bJ o,hp,λr H' s' z=>q r H' (d.trans (e.trans s')) (mU (d.trans e) z)]]]
def oV(i:Nat){x:Ð}{a:M}{p:ò}(f:X.N.Nodup)(he:EN X U e a)(h:S X (U.set i (À (.dpo a))) rest D)(hi:autoParam (X.N[i]?=À x) zra)(l:Loc X.env.scope x:=by first|exact Ă rfl|exact ñ rfl)
  (m:Ā e (À (.Name x p)) pos.line X.env=pure Â:=by rfl) (c:X.fn x=Á\/X.env.scope.names.lookup x=À .local:=by first|exact .inl rfl|exact .inr rfl):S X U (.Assign [.Name x p] e pos::rest) D:=by
 stop
  exact eP (eQ (vH f hi l he m c) λo Y H ⟨H0,F,O,Z,n,_⟩=>#[H0,F,O,Z,λv H1 g k=>by
    obtain⟨j,d⟩:=Z.FA (i:=i) (v:=v) g (λq=>H q=none/\∃xs:Mt,H1 q=À (mo xs)) (λq z=>z) (Bd.dpo a) É (by
     refine Py.tr (λq xs b nn=>?_) (λq xs b=>aG.rt (av _ _) b) k;have:=(av _ _) _ _ nn.2
     exact⟨Mo.of this,⟨nn.1,xs,this⟩,this⟩)
    exact n _ _ _ _ d j h])
variable{b':Bool}
def E.up[PyT M]{a:M}(h:E X U e b a):E X U e b' a:=by stop exact aP h λY H Q ⟨H0,F,O,S,q⟩=>#[H0,F,O,S,λv H' s r=>q v H' s (PyT.free (λ_ _ z=>z) r)]
def iM[PyT M]{a:M}(h:E X U e b a):E X U e b' a:=by stop exact E.up h
def Im[PyT M]{xs:List M}{p:ò}(h:Gl X "list")(j:X.mg "list"=none)(ha:E X U e b xs)(f:autoParam (Å [e] X.env=(Â,Ý e X.env)::Å [] X.env) zra):E X U (.Call (.Name "list" p) [e] [] pos) Á xs:=by
 stop
  exact aP (uw nH h j abr (aD ha bq f) (he:=f)) λY H Q ⟨H0,F,O,S,q⟩=>#[H0,F,O,S,λv H1 a i=>by
    obtain⟨p,vs,e,k,n,r⟩:=i;refine#[p,vs,by rw[e],.inl ((av _ _).seq k),λl d=>?_];obtain⟨c,g⟩:=cJ (xs:=vs) (S.go a) d
    exact q _ _ (a.trans c) #[l,vs,rfl,dX.of g,Nf.wk ((S.go a).iD d) g,bN (λ_ _ z=>PyT.free (λ_ _ t=>aG.rt (ah c) t) z) r]]
end
def oZ{M β:Type}{g:β->M->β}{z:β}{us:List M}{i:Nat}{a:M}(h:us[i]?=À a):(us.take (i+1)).foldl g z=g ((us.take i).foldl g z) a:=by
 rw[YZ,h,ab9];rfl
end L2.EP
namespace Q
variable{p k d r m x l e q s c A y f B u g v:Int}{L:List Int}{n i:Nat}
def mK(a b:Int):Ë b (a.fmod b)=Ë a b:=by
 rw[Int.fmod_def,acv a b];exact Int.gcd_sub_mul_left_right ..
def BD(a b:Int)(c:b≠0):(a.fmod b).natAbs<b.natAbs:=by
 rcases YF c with h|h
 .have e:=Int.neg_fmod_neg a b;have h':(0:Int) < -b:=by omega
  have h1:=abt (-a) h';have h2:=abU (-a) h';omega
 .have h1:=abt a h;have h2:=abU a h;omega
noncomputable def fd(t b:Int):Int:=if b<0 then -(Ë t b:Int) else (Ë t b:Int)
noncomputable def fr(t b:Int):Int×Int:=(t.fdiv (fd t b),b.fdiv (fd t b))
def yD{t b:Int}(a:b≠0):fd t b≠0:=by
 have h:Ë t b≠0:=by
  intro h;rw[abO] at h;exact a h.2
 unfold fd;split<;>lia
def yy(t b:Int):fd t b∣t:=by
 unfold fd;split
 .exact(Int.neg_dvd).mpr (Zu ..)
 .exact Zu ..
def wY(t b:Int):fd t b∣b:=by
 unfold fd;split
 .exact(Int.neg_dvd).mpr (Y6 ..)
 .exact Y6 ..
def x8{a:Int}(h:d∣a):d*a.fdiv d=a:=by
 have e:=Int.mul_fdiv_cancel' h;exact e
def Ba(t b:Int):fd t b*(fr t b).1=t:=x8 (yy t b)
def w_(t b:Int):fd t b*(fr t b).2=b:=x8 (wY t b)
def HH(t b:Int):(fr t b).1*b=t*(fr t b).2:=by
 have h1:=Ba t b;have h2:=w_ t b;generalize (fr t b).1=x at *;generalize (fr t b).2=y at *;generalize fd t b=d at *;subst h1;subst h2;rw[<-X6,Yb x d]
def NS{t b:Int}(f:b≠0):1<=(fr t b).2:=by
 have h2:=w_ t b;have c:=yD (t:=t) f
 have e:fd t b<0↔b<0:=by
  unfold fd;have:0<=(Ë t b:Int):=Υ _;unfold fd at c;split<;>split at c<;>lia
 generalize (fr t b).2=y at *;generalize fd t b=d at *;apply Int.not_lt.mp;intro g;have a:y<=0:=by lia
 rcases YF c with h|h
 .have:=abn (ZR h) a;have:=e.mp h;lia
 .have:=Yk (ZR h) a;have:¬b<0:=λq=>by have:=e.mpr q;lia
  lia
def Fl(t b:Int):(fd t b).natAbs=Ë t b:=by
 unfold fd;split<;>lia
def L7{t b:Int}(c:b≠0):Ë (fr t b).1 (fr t b).2=1:=by
 have h1:=Ba t b;have h2:=w_ t b;have g:=yD (t:=t) c;have f:=Fl t b;have e:Ë (fd t b*(fr t b).1) (fd t b*(fr t b).2)=(fd t b).natAbs*Ë (fr t b).1 (fr t b).2:=Int.gcd_mul_left ..;rw[h1,h2,f] at e;have d:0<Ë t b:=by lia
 have a:Ë t b*1=Ë t b*Ë (fr t b).1 (fr t b).2:=by lia
 exact(Nat.eq_of_mul_eq_mul_left d a).symm
def Mj{t b:Int}(c:1<=b)(a:Ë t b=1):fr t b=(t,b):=by
 have e:fd t b=1:=by unfold fd;rw[a,Xl .b];rfl
 unfold fr;rw[e,Int.fdiv_one,Int.fdiv_one]
def IU{t b:Int}(a:b≠0):(fr t b).1.natAbs<=t.natAbs:=by
 have h1:=Ba t b;have c:=yD (t:=t) a;have h:t.natAbs=(fd t b).natAbs*(fr t b).1.natAbs:=by rw[<-XZ,h1]
 rw[h];exact aaK _ .b
def IM{t b:Int}(a:b≠0):(fr t b).2.natAbs<=b.natAbs:=by
 have h1:=w_ t b;have c:=yD (t:=t) a;have h:b.natAbs=(fd t b).natAbs*(fr t b).2.natAbs:=by rw[<-XZ,h1]
 rw[h];exact aaK _ .b
def O7{t b:Int}(a:b≠0):(fd t b).natAbs<=b.natAbs:=by
 rw[Fl];exact ab0 .b (YX.mpr (Y6 t b))
noncomputable def Qp(u v:Int×Int):Int×Int:=fr (u.1*v.2) (u.2*v.1)
def QH(u:Int×Int):Prop:=1<=u.2/\Ë u.1 u.2=1
def Jy{t b:Int}(a:b≠0):QH (fr t b):=#[NS a,L7 a]
abbrev Fr:=Int×Int
noncomputable def gM(us:List Fr):Int:=us.foldl (λb u=>(b*u.2).fdiv (Ë b u.2:Nat)) 1
def yJ{b:Int}(i:1<=b)(o:1<=c):1<=(b*c).fdiv (Ë b c:Nat)/\b∣(b*c).fdiv (Ë b c:Nat)/\c∣(b*c).fdiv (Ë b c:Nat)/\(b*c).fdiv (Ë b c:Nat)<=b*c:=by
 have n:0<Ë b c:=by
  rcases aba (Ë b c) with h|h
  .rw[abO] at h;lia
  .exact h
 have m:((Ë b c:Nat):Int)∣b:=Zu ..;have j:((Ë b c:Nat):Int)∣c:=Y6 ..;generalize Ë b c=g at *;obtain⟨x,k⟩:=m;obtain⟨y,a⟩:=j
 have e:(b*c).fdiv (g:Int)=b*y:=by
  rw[a,<-X6,Yb b (g:Int),X6];rw[Y7 _ .b]
 have d:(1:Int)<=g:=by lia
 have l:1<=x:=by
  apply Int.not_lt.mp;intro h;have:(g:Int)*x<=0:=Yk .b .b;lia
 have f:1<=y:=by
  apply Int.not_lt.mp;intro h;have:(g:Int)*y<=0:=Yk .b .b;lia
 rw[e];refine#[?_,#[y,rfl],#[x,?_],?_]
 .have:=Yj i f .b .b;simpa using this
 .rw[k,a];grind
 .refine XB ?_ .b;rw[a];have:=Yt d (show 0<=y by lia);simpa using this
theorem GC:∀(us:List Fr) (b:Int),1<=b->(∀u∈us,1<=u.2)->1<=us.foldl (λb u=>(b*u.2).fdiv (Ë b u.2:Nat)) b/\b∣us.foldl (λb u=>(b*u.2).fdiv (Ë b u.2:Nat)) b/\∀u∈us,u.2∣us.foldl (λb u=>(b*u.2).fdiv (Ë b u.2:Nat)) b
 |[],b,c,_=>#[c,ZD _,λ_ h=>by cases h]
 |u::us,b,c,h=>by
  obtain⟨j,g,f,_⟩:=yJ c (h u XA);obtain⟨k,d,i⟩:=GC us _ j λw a=>h w (Xx _ a);refine#[k,X7 g d,λw a=>?_];rcases Xm.mp a with e|a
  .rw[e];exact X7 f d
  .exact i w a
def Gh{us:List Fr}(h:∀u∈us,1<=u.2){u:Fr}(a:u∈us):u.2∣gM us:=(GC us 1 .a h).2.2 u a
noncomputable def EV(us:List Fr):List Int×Int:=(us.map λu=>u.1*(gM us).fdiv u.2,gM us)
def Dp{M β:Type}{xs:List M}{ys:List β}{p:M×β}(h:p∈xs.zip ys):p.1∈xs/\p.2∈ys:=abD (a:=p.1) (b:=p.2) h
def getD_mem{M:Type}{l:List M}{d:M}(h:i<l.length):l.getD i d∈l:=by
 rw[Xq,Xz h];exact Ze h
def oF{M:Type}{P:M->Prop}(c:∀a b,P a->P b->a=b){a:M}(h:P a):a=@ö M #[a] P :=
 c _ _ h (@Classical.epsilon_spec M P #[a,h])
noncomputable def wy:Nat->Nat
 |0=>0
 |n+1=>if (wy n+1)*(wy n+1)<=n+1 then wy n+1 else wy n
theorem GS:∀n,wy n*wy n<=n
 |0=>Xu _
 |n+1=>by
  have:=GS n;unfold wy;split<;>lia
theorem D4:∀n,n<(wy n+1)*(wy n+1)
 |0=>by decide
 |n+1=>by
  have h:=D4 n;unfold wy;split
  .have:(wy n+1)*(wy n+1)<(wy n+1+1)*(wy n+1+1):=Ϗ .b .b;lia
  .lia
def rt(k:Int):Int:=(wy k.toNat:Int)
def iX(k:Int):0<=rt k:=by unfold rt;lia
def Hy(h:0<=k):rt k*rt k<=k:=by
 have:=GS k.toNat;unfold rt;have e:((wy k.toNat*wy k.toNat:Nat):Int)<=((k.toNat:Nat):Int):=by lia
 rw[YT] at e;lia
def KQ(h:0<=k):k<(rt k+1)*(rt k+1):=by
 have:=D4 k.toNat;unfold rt;have e:((k.toNat:Nat):Int)<(((wy k.toNat+1)*(wy k.toNat+1):Nat):Int):=by lia
 rw[YT] at e;simp only[acM,Int.natCast_one] at e;lia
def xK{a b:Int}(d:0<=a)(h:a*a<b*b)(c:0<=b):a<b:=by
 apply Xt;intro e;have:b*b<=a*a:=Yj .b .b c d;lia
def Fv{a b:Int}(c:0<=a)(h:a<=b):a*a<=b*b:=Yj h h c .b
def kX(d:0<=r)(h1:r*r<=k)(h2:k<(r+1)*(r+1)):r=rt k:=by
 have e:0<=k:=acw (Zi d d) h1;have a:=Hy e;have b:=KQ e;have c:=iX k;have:=xK d (show r*r<(rt k+1)*(rt k+1) by lia) .b;have:=xK c (show rt k*rt k<(r+1)*(r+1) by lia) .b;lia
def yG(h:0<=k)(a:0<=d):d<rt k+1↔d*d<=k:=by
 constructor
 .intro z;exact acw (Fv a .b) (Hy h)
 .intro z;exact xK a (by have:=KQ h;lia) (by have:=iX k;lia)
def Oi(b:0<=k)(a:0<r)(h:k<r*r):0<=(r+k.fdiv r).fdiv 2/\(r+k.fdiv r).fdiv 2<r/\k<((r+k.fdiv r).fdiv 2+1)*((r+k.fdiv r).fdiv 2+1):=by
 rw[Yi k .b,Yi _ .a];have e:=Int.mul_ediv_add_emod k r;have f:=X2 k (show r≠0 by lia);have m1:=XU k a;have d:0<=k/r:=aa5 b .b;have q1:k/r<r:=acZ a h;generalize k/r=q at *;generalize k%r=m at *;have g:2*((r+q)/2)<=r+q:=by lia
 have c:r+q+1<=2*((r+q)/2)+2:=by lia
 refine#[.b,.b,?_];generalize (r+q)/2=n at *;have j:(r+q+1)*(r+q+1)<=(2*n+2)*(2*n+2):=Fv .b c
 have i:0<=(r-(q+1))*(r-(q+1)):=by
  rcases ada 0 (r-(q+1)) with z|z
  .exact Zi z z
  .exact abn z z
 grind
def xj(k:Int):Prop:=∀d:Int,3<=d->d*d<=k->d%2=1->¬d∣k
open Classical in
def aT(k:Int):Bool:=decide (k=2\/(3<=k/\k%2=1/\xj k))
open Classical in
def bY:aT k=Á↔k=2\/(3<=k/\k%2=1/\xj k):=by unfold aT;exact YR
def au(h:aT k=Á):2<=k:=by rcases bY.mp h with h|h<;>lia
noncomputable def vo(n:Nat)(m:Nat):Bool:=@Nat.rec (λ_=>Bool) Á (λi a=>cond (é (n%(2*i+3)) 0) Â a) m
theorem yu{n:Nat}:∀{m:Nat},vo n m=Á->∀i,i<m->n%(2*i+3)≠0
 |0,_,i,hi=>absurd hi (ZA _)
 |m+1,h,i,hi=>by
  have h':cond (é (n%(2*m+3)) 0) Â (vo n m)=Á:=h;cases a:é (n%(2*m+3)) 0 with
  |true=>rw[a] at h';cases h'
  |false =>
   rw[a] at h';rcases acx.mp hi with z|z
   .exact yu h' i z
   .subst z;intro e;rw[e] at a;cases a
def A2{m:Nat}(h:vo n m=Á)(l:n<(2*m+3)*(2*m+3)):xj (n:Int):=by
 intro d j i k b
 have f:d<(2*m+3:Int):=xK .b (by
  have:(n:Int)<(((2*m+3)*(2*m+3):Nat):Int):=by lia
  rw[YT] at this;simp only[acM,YT] at this
  exact Int.lt_of_le_of_lt i this) .b
 have z:=yu h ((d.toNat-3)/2) .b;have e:2*((d.toNat-3)/2)+3=d.toNat:=by lia
 rw[e] at z;obtain⟨c,g⟩:=b;apply z
 have a:d.toNat∣n:=by
  have:(d.toNat:Int)∣(n:Int):=#[c,by rw[g];congr 1;lia];exact Z0.mp this
 exact aaL a
def g6{m:Nat}(h:vo n m=Á)(c:3<=n)(b:n%2=1)(a:n<(2*m+3)*(2*m+3)):aT (n:Int)=Á :=
 bY.mpr (.inr #[.b,.b,A2 h a])
def PB:Int:=1070000011
def rT:aT PB=Á:=g6 (n:=1070000011) (m:=16384) .f .a .a .a
def Lk:Nat->Int->Int
 |0,k=>k
 |n+1,k=>if aT k then k else Lk n (k+2)
def pf(k:Int):Int:=if k<3 then 2 else Lk 1073741824 (k+1-k%2)
theorem sQ:∀(n:Nat) (k p:Int),aT p=Á->k<=p->(p-k)%2=0->p-k<=2*n->aT (Lk n k)=Á/\k<=Lk n k/\Lk n k<=p/\(Lk n k-k)%2=0
 |0,k,p,hp,h1,h2,e=>by
  have:k=p:=by lia
  subst this;exact#[hp,Yv _,Yv _,by unfold Lk;lia]
 |n+1,k,p,hp,h1,h2,e=>by
  unfold Lk;split
  .rename_i h;exact#[h,Yv _,h1,.b]
  .rename_i h;have f:k≠p:=by rintro rfl;exact h hp
   obtain⟨a,b,c,d⟩:=sQ n (k+2) p hp .b .b .b;exact#[a,.b,c,.b]
def aR:aT 2=Á:=bY.mpr (.inl rfl)
def tF(h:k<=PB):aT (pf k)=Á:=by
 unfold pf;split
 .exact aR
 .exact(sQ _ _ PB rT (by unfold PB at *;lia) (by unfold PB at *;lia) (by unfold PB at *;lia)).1
def Pq(h:k<=PB):pf k<=PB:=by
 unfold pf;split
 .decide
 .exact(sQ _ _ PB rT (by unfold PB at *;lia) (by unfold PB at *;lia) (by unfold PB at *;lia)).2.2.1
def nh(hp:aT p=Á)(h:k<=p)(a:p%2=1)(c:p<=PB)(b:3<=k):pf k<=p:=by
 unfold pf;rw[Xl .b];exact(sQ _ _ p hp .b .b (by unfold PB at *;lia)).2.2.1
def An(h:k<=PB)(e:3<=k):pf k%2=1/\k<=pf k:=by
 unfold pf;rw[Xl .e];obtain⟨a,b,c,d⟩:=sQ 1073741824 (k+1-k%2) PB rT (by unfold PB at *;omega) (by unfold PB at *;omega) (by unfold PB at *;omega);omega
def DW(k b m:Int)(r:Option Int):Prop:=match r with
 |none=>∀d,b<=d->d<m->(d-b)%2=0->¬d∣k
 |some d=>b<=d/\d<m/\(d-b)%2=0/\d∣k/\∀d',b<=d'->d'<d->(d'-b)%2=0->¬d'∣k
def DW.uniq{b:Int}:∀r a,DW k b m r->DW k b m a->r=a
 |none,none,_,_=>rfl
 |none,À d,h,h'=>absurd h'.2.2.2.1 (h d h'.1 h'.2.1 h'.2.2.1)
 |some d,none,h,h'=>absurd h.2.2.2.1 (h' d h.1 h.2.1 h.2.2.1)
 |some d,À d',h,h'=>by
  rcases ZV d d' with z|z|z
  .exact absurd h.2.2.2.1 (h'.2.2.2.2 d h.1 z h.2.2.1)
  .rw[z]
  .exact absurd h'.2.2.2.1 (h.2.2.2.2 d' h'.1 z h'.2.2.1)
theorem DW.ex(k b m:Int):∀n:Nat,(∃d,DW k b m (À d))\/∀d,b<=d->d<m->d<b+2*n->(d-b)%2=0->¬d∣k
 |0=>.inr λd h1 h2 a=>by lia
 |n+1=>by
  rcases DW.ex k b m n with h|h
  .exact .inl h
  .by_cases c:b+2*n<m/\(b+2*n:Int)∣k
   .exact .inl #[b+2*n,.b,c.1,.b,c.2,λd' h1 h2 a=>h d' h1 .b h2 a]
   .refine .inr λd h1 h2 a g f=>?_;by_cases e:d=b+2*n
    .subst e;exact c #[h2,f]
    .exact h d h1 h2 .b g f
def PH(k b m:Int):Option Int:=ö (DW k b m)
def vQ{b:Int}{r:Option Int}(h:DW k b m r):r=PH k b m:=oF DW.uniq h
def zN(k b m:Int):DW k b m (PH k b m):=by
 rcases DW.ex k b m (m-b).toNat with⟨d,h⟩|h
 .rw[<-vQ h];exact h
 .have z:DW k b m none:=λd h1 h2 a=>h d h1 h2 .e a;rw[<-vQ z];exact z
def p4(k b e:Int):Option Int:=PH k b (if rt k+1<e then rt k+1 else e)
def hV:k.fmod d=0↔d∣k:=#[Int.dvd_of_fmod_eq_zero,Int.fmod_eq_zero_of_dvd]
def Iv(a:3<=k)(e:k%2=1):(p4 k 3 k).isNone=aT k:=by
 have hz:=zN k 3 (if rt k+1<k then rt k+1 else k)
 have g:rt k+1<=k:=by
  have:=(yG (show 0<=k by lia) (show 0<=k by lia)).mp;apply Xt;intro h;have z:=this .b;have:3*k<=k*k:=Yj a (Yv k) .b .b;lia
 have c:(if rt k+1<k then rt k+1 else k)=rt k+1:=by split<;>lia
 rw[c] at hz;unfold p4;rw[c];cases b:PH k 3 (rt k+1) with
 |none =>
  rw[b] at hz;symm;refine bY.mpr (.inr #[a,e,λd h1 h2 f=>hz d h1 ((yG .b .b).mpr h2) .b])
 |some d =>
  rw[b] at hz;symm;show aT k=Â;cases hp:aT k with
  |false=>rfl
  |true =>
   rcases bY.mp hp with z|⟨_,_,z⟩
   .lia
   .have h1:3<=d:=hz.1;exact absurd hz.2.2.2.1 (z d hz.1 ((yG .b .b).mp hz.2.1) (by have:=hz.2.2.1;lia))
def eY(hp:aT p=Á)(q:0<d)(h:d∣p):d=1\/d=p:=by
 obtain⟨e,he⟩:=h;have l:=au hp
 have k:0<e:=by
  apply Xt;intro f;have:d*e<=0:=Yk .b .b;lia
 rcases bY.mp hp with h2|⟨o,n,i⟩
 .have:d<=2:=by
   have:=XH (show(0:Int)<2 by decide) (#[e,.b]:d∣2);lia
  lia
 .apply Xt;intro f;have m:d≠1:=λz=>f (.inl z);have hd2:d≠p:=λz=>f (.inr z);have j:e≠1:=by rintro rfl;lia
  have b:d%2=1:=by
   rcases Zm d with z|z
   .obtain⟨c,g⟩:=XM z;rw[g,X6] at he;lia
   .exact z
  have a:e%2=1:=by
   rcases Zm e with z|z
   .obtain⟨c,g⟩:=XM z;rw[g,χ] at he;lia
   .exact z
  rcases ada d e with z|z
  .exact i d .b (by rw[he];exact XB z .b) b #[e,he]
  .exact i e .b (by rw[he];exact Yt z .b) a #[d,by rw[he,Yb]]
def euclid{a b:Int}(hp:aT p=Á)(h:p∣a*b):p∣a\/p∣b:=by
 have d:=au hp
 have c:(0:Int)<(Ë p a:Nat):=by
  have:=aaU a (show p≠0 by lia);lia
 rcases eY hp c (Zu p a) with z|z
 .right
  have e:Nat.Coprime p.natAbs a.natAbs:=by
   show Nat.gcd p.natAbs a.natAbs=1;have:Ë p a=1:=by lia
   exact this
  have:=YX.mpr h;rw[XZ] at this;exact YX.mp (e.dvd_of_dvd_mul_left this)
 .left;rw[<-z];exact Y6 p a
def vE{a b:Int}:a%m=b%m↔m∣a-b:=by
 rw[Int.emod_eq_emod_iff_emod_sub_eq_zero];exact#[XM,Yw]
theorem je(x m:Int):∀n:Nat,(x%m)^n%m=x^n%m
 |0=>by rw[Yc,Yc]
 |n+1=>by rw[XS,XS,YV,je x m n,aam _ (ZD m),<-YV]
def HK{α:List Int}(e:α.Nodup)(d:∀x,x∈α->x∈L):∃b,L.Perm (α++b):=by
 induction α generalizing L with
 |nil=>exact#[L,ac0 _]
 |cons x α f =>
  have g:x∈L:=d x (XA ..);have a:=YC.mp e;obtain⟨b,h⟩:=f (L:=L.erase x) a.2 λy c=>(abG (by rintro rfl;exact a.1 c)).mpr (d y (Xx _ c));exact#[b,(Ţ g).trans (Ě x h)]
noncomputable def dA:List Int->Int
 |[]=>1
 |x::l=>x*dA l
def si{l a:List Int}(h:l.Perm a):dA l=dA a:=by
 induction h with
 |nil=>rfl
 |cons x _ b=>show x*_=x*_;rw[b]
 |swap x y l=>show y*(x*_)=x*(y*_);rw[χ]
 |trans _ _ h1 h2=>exact h1.trans h2
theorem u9{p a:Int}:∀l:List Int,p∣dA (l.map λx=>a*x%p)-a^l.length*dA l
 |[]=>#[0,by simp[dA]]
 |x::l=>by
  obtain⟨c,b⟩:=u9 (p:=p) (a:=a) l;have e:=Int.emod_def (a*x) p;have e1:dA (List.map (λx=>a*x%p) (x::l))=(a*x%p)*dA (l.map λx=>a*x%p):=rfl;have e2:dA (x::l)=x*dA l:=rfl;rw[e1,e2,Yl,XS];generalize dA (l.map λx=>a*x%p)=u at *;generalize a*x/p=q at *;generalize a*x%p=r at *;generalize a^l.length=t at *;generalize dA l=v at *;have d:u=t*v+p*c:=by lia
  exact#[a*x*c-q*u,by rw[e];grind]
theorem iJ{p:Int}(hp:aT p=Á):∀l:List Int,(∀x,x∈l->¬p∣x)->¬p∣dA l
 |[],_=>λh=>by
  have:=au hp;have:=XH .a (show p∣(1:Int) from h);lia
 |x::l,a=>λh=>by
  rcases euclid hp (show p∣x*dA l from h) with z|z
  .exact a x (XA ..) z
  .exact iJ hp l (λy b=>a y (Xx _ b)) z
def cf(h:p∣x)(h1:-p<x)(h2:x<p):x=0:=by
 obtain⟨c,rfl⟩:=h;have hp:0<p:=by lia
 by_cases a:c=0
 .rw[a,Yd]
 .rcases YF a with z|z
  .have:p*c<=p*(-1):=XB .b .b;lia
  .have:p*1<=p*c:=XB .b .b;lia
def HA{a:Int}(hp:aT p=Á)(ha:¬p∣a):p∣a^(p-1).toNat-1:=by
 have q:=au hp;let L:List Int:=(Ô (p-1).toNat).map λi:Nat=>(i:Int)+1
 have k:∀x,x∈L↔1<=x/\x<p:=by
  intro x;simp only[L,XF,Yu];constructor
  .rintro⟨i,h,rfl⟩;lia
  .rintro⟨h1,h2⟩;exact#[(x-1).toNat,.b,.b]
 have l:L.Nodup:=by
  refine ZX.mpr (ZS ?_ (aaw (n:=(p-1).toNat)));intro i j _ _ s;lia
 have e:L.length=(p-1).toNat:=by simp[L]
 clear_value L
 have d:∀x,x∈L->¬p∣x:=λx g w=>by
  have:=(k x).mp g;have:=cf w .b .b;lia
 have u:(L.map λx=>a*x%p).Nodup:=by
  refine ZX.mpr (ZS ?_ l);intro x y g m r he;have h1:p∣a*(x-y):=by rw[ϙ];exact vE.mp he
  rcases euclid hp h1 with z|z
  .exact ha z
  .have:=(k x).mp g;have:=(k y).mp m;have:=cf z .b .b;lia
 have v:∀x,x∈(L.map λx=>a*x%p)->x∈L:=by
  intro y m;obtain⟨x,g,rfl⟩:=XF.mp m;have C:=X2 (a*x) (show p≠0 by lia);have h1:=XU (a*x) (show 0<p by lia);refine(k _).mpr #[?_,h1];apply Xt;intro A;have hz:a*x%p=0:=by lia
  rcases euclid hp (XM hz) with z|z
  .exact ha z
  .exact d x g z
 obtain⟨t,b⟩:=HK u v
 have o:t=[]:=by
  have:=b.length_eq;rw[XQ,Xv] at this;exact aaN .b
 rw[o,aaE] at b;have f:=u9 (p:=p) (a:=a) L;rw[<-si b,e] at f
 have h2:p∣(a^(p-1).toNat-1)*dA L:=by
  obtain⟨c,B⟩:=f;exact#[-c,by rw[Int.sub_mul,Yp,acU];lia]
 rcases euclid hp h2 with z|z
 .exact z
 .exact absurd z (iJ hp L d)
def PK{a:Int}(hp:aT p=Á)(h2:p≠2)(ha:¬p∣a):p∣a^((p-1)/2).toNat-1\/p∣a^((p-1)/2).toNat+1:=by
 have d:p%2=1:=by rcases bY.mp hp with z|z<;>lia
 have c:=au hp;have b:=HA hp ha;rw[show(p-1).toNat=((p-1)/2).toNat+((p-1)/2).toNat by lia,YS] at b;generalize a^((p-1)/2).toNat=y at *;exact euclid hp (show p∣(y-1)*(y+1) by rw[show(y-1)*(y+1)=y*y-1 by grind];exact b)
noncomputable def bh(k p:Int):Int:=if k%p=0 then 0 else if p=2 then 1 else if (k%p)^((p-1)/2).toNat%p=1 then 1 else -1
def cZ(h:p∣k):bh k p=0:=Xo (Yw h)
def wD(k p:Int):bh (k%p) p=bh k p:=by unfold bh;rw[aam _ (ZD p)]
def om(h:k%p=l%p):bh k p=bh l p:=by unfold bh;rw[h]
def eZ(hp:aT p=Á)(h2:p≠2)(a:¬p∣k):bh k p=1↔p∣k^((p-1)/2).toNat-1:=by
 have b:=au hp;unfold bh;rw[Xl (λz=>a (XM z)),Xl h2,je,<-vE,ZY (show(0:Int)<=1 by decide) (show(1:Int)<p by lia)];split
 .rename_i h;exact#[λ_=>h,λ_=>rfl]
 .rename_i h;exact#[λz=>absurd z .a,λz=>absurd z h]
def bx(a:¬p∣k):bh k p=1\/bh k p=-1:=by
 unfold bh;rw[Xl (λz=>a (XM z))];split
 .exact .inl rfl
 .split
  .exact .inl rfl
  .exact .inr rfl
def fU(hp:aT p=Á)(h2:p≠2)(a:¬p∣k):bh k p=-1↔p∣k^((p-1)/2).toNat+1:=by
 have b:=au hp;have e:=eZ hp h2 a;rcases PK hp h2 a with z|z
 .rw[e.mpr z];refine#[λw=>absurd w .a,λw=>?_]
  have:p∣2:=by
   obtain⟨c,f⟩:=z;obtain⟨d,g⟩:=w;exact#[d-c,by rw[ϙ];lia]
  have:=XH .a this;lia
 .refine#[λ_=>z,λ_=>?_];rcases bx a with w|w
  .have:p∣2:=by
    obtain⟨c,f⟩:=e.mp w;obtain⟨d,g⟩:=z;exact#[d-c,by rw[ϙ];lia]
   have:=XH .a this;lia
  .exact w
def cX(hp:aT p=Á)(a b:Int):bh (a*b) p=bh a p*bh b p:=by
 have o:=au hp;by_cases ha:p∣a
 .rw[cZ ha,abb,cZ (X7 ha #[b,rfl])]
 by_cases g:p∣b
 .rw[cZ g,Yd,cZ (X7 g #[a,Yb ..])]
 have f:¬p∣a*b:=λz=>by rcases euclid hp z with z|z<;>contradiction
 by_cases h2:p=2
 .subst h2;have e:∀k:Int,¬(2:Int)∣k->bh k 2=1:=λk n=>by unfold bh;rw[Xl (λz=>n (XM z)),Xo rfl]
  rw[e _ ha,e _ g,e _ f];rfl
 have j:(a*b)^((p-1)/2).toNat=a^((p-1)/2).toNat*b^((p-1)/2).toNat:=abT ..;rcases bx ha with h|h<;>rcases bx g with i|i<;>rw[h,i]
 .refine(eZ hp h2 f).mpr ?_;obtain⟨c,l⟩:=(eZ hp h2 ha).mp h;obtain⟨d,m⟩:=(eZ hp h2 g).mp i;rw[j];exact#[c*d*p+c+d,by grind]
 .refine(fU hp h2 f).mpr ?_;obtain⟨c,l⟩:=(eZ hp h2 ha).mp h;obtain⟨d,m⟩:=(fU hp h2 g).mp i;rw[j];exact#[c*d*p-c+d,by grind]
 .refine(fU hp h2 f).mpr ?_;obtain⟨c,l⟩:=(fU hp h2 ha).mp h;obtain⟨d,m⟩:=(eZ hp h2 g).mp i;rw[j];exact#[c*d*p+c-d,by grind]
 .refine(eZ hp h2 f).mpr ?_;obtain⟨c,l⟩:=(fU hp h2 ha).mp h;obtain⟨d,m⟩:=(fU hp h2 g).mp i;rw[j];exact#[c*d*p-c-d,by grind]
def zz(k d:Int)(r:Int×Int):Prop:=0<=r.1/\k=r.2*d^r.1.toNat/\¬d∣r.2
def zz.lt(i:2<=d){r a:Int×Int}(h:zz k d r)(h':zz k d a)(g:r.1<a.1):False:=by
 obtain⟨f,b,c⟩:=h;obtain⟨b1,b2,b3⟩:=h';have e:a.1.toNat=(a.1.toNat-r.1.toNat-1)+1+r.1.toNat:=by lia
 rw[e,YS,XS] at b2;have hp:d^r.1.toNat≠0:=Ϣ .b;have z:r.2*d^r.1.toNat=(a.2*d^(a.1.toNat-r.1.toNat-1)*d)*d^r.1.toNat:=by rw[<-b,b2];grind
 have w:=ab1 hp z;exact c #[a.2*d^(a.1.toNat-r.1.toNat-1),by rw[w,Yb]]
def zz.uniq(b:2<=d)(r a:Int×Int)(h:zz k d r)(h':zz k d a):r=a:=by
 have h1:r.1=a.1:=by
  rcases ZV r.1 a.1 with z|z|z
  .exact(zz.lt b h h' z).elim
  .exact z
  .exact(zz.lt b h' h z).elim
 have hp:d^r.1.toNat≠0:=Ϣ .b
 have h2:r.2=a.2:=by
  have:=h.2.1.symm.trans h'.2.1;rw[<-h1] at this;exact ab1 hp this
 exact acr h1 h2
theorem zz.ex{d:Int}(g:2<=d):∀(n:Nat) (k:Int),k≠0->k.natAbs<=n->∃r,zz k d r
 |0,k,e,f=>by lia
 |n+1,k,e,f=>by
  by_cases h:d∣k
  .obtain⟨c,a⟩:=h;have b:c≠0:=by rintro rfl;rw[Yd] at a;exact e a
   have j:c.natAbs<k.natAbs:=by
    rw[a,XZ];have:2*c.natAbs<=d.natAbs*c.natAbs:=aan _ .b;lia
   obtain⟨r,h1,h2,i⟩:=zz.ex g n c b .b;refine#[(r.1+1,r.2),.d,?_,i];dsimp only;rw[show(r.1+1).toNat=r.1.toNat+1 by lia,XS,a];rw[show d*c=d*(r.2*d^r.1.toNat) by rw[<-h2]];grind
  .exact#[(0,k),Yv 0,by dsimp only;rw[show(0:Int).toNat=0 from rfl,Yc,X0],h]
def aX(k d:Int):Int×Int:=ö (zz k d)
def j6(a:2<=d){r:Int×Int}(h:zz k d r):aX k d=r:=(oF (zz.uniq a) h).symm
def e_(a:2<=d)(h:k≠0):zz k d (aX k d):=by
 obtain⟨r,b⟩:=zz.ex a k.natAbs k h (Xu _);rw[j6 a b];exact b
def kR{v:Nat}(a:2<=d)(h:¬d∣k):aX (k*d^v) d=((v:Int),k) :=
 j6 a #[.d,by dsimp only;rw[Ö],h]
def Bz{a b:Int}(hp:aT p=Á)(ha:a≠0)(d:b≠0):aX (a*b) p=((aX a p).1+(aX b p).1,(aX a p).2*(aX b p).2):=by
 have c:=au hp;obtain⟨f,e,g⟩:=e_ c ha;obtain⟨b1,b2,b3⟩:=e_ c d;refine j6 c #[.d,?_,λz=>by rcases euclid hp z with w|w<;>contradiction];dsimp only;rw[show((aX a p).1+(aX b p).1).toNat=(aX a p).1.toNat+(aX b p).1.toNat by lia,YS];generalize (aX a p).1.toNat=m at *;generalize (aX b p).1.toNat=n at *;generalize (aX a p).2=u at *;generalize (aX b p).2=v at *;rw[e,b2];generalize p^m=x;generalize p^n=y;grind
def Er(f:2<=d)(h:d∣k)(b:k≠0):k.fdiv d*d=k/\k.fdiv d≠0/\(k.fdiv d).natAbs<k.natAbs:=by
 obtain⟨c,rfl⟩:=h;have e:(d*c).fdiv d=c:=Y7 c .b;rw[e];have a:c≠0:=by rintro rfl;simp at b
 refine#[Yb ..,a,?_];rw[XZ];have:2*c.natAbs<=d.natAbs*c.natAbs:=aan _ .b;lia
def cls(k p:Int):Int×Int:=((aX k p).1%2,if p=2 then (aX k p).2%8 else bh (aX k p).2 p)
noncomputable def b1(c:Bool):Int:=if c then 1 else 0
noncomputable def fG(x y:Int×Int):Bool:=decide ((b1 (decide (x.2%4=3)&&decide (y.2%4=3))+b1 (decide (x.1=1)&&(decide (y.2=3) || decide (y.2=5)))+b1 (decide (y.1=1)&&(decide (x.2=3) || decide (x.2=5))))%2=0)
noncomputable def C6(x y:Int×Int)(p:Int):Bool:=decide ((if x.1=1 then y.2 else 1)*(if y.1=1 then x.2 else 1)*(if x.1=1/\y.1=1 then bh (-1) p else 1)=1)
def aA(a b p:Int):Bool:=if p=0 then decide (0<a) || decide (0<b) else if p=2 then fG (cls a p) (cls b p) else C6 (cls a p) (cls b p) p
noncomputable def bj(x y:Int×Int)(p:Int):Int×Int:=((x.1+y.1)%2,if p=2 then x.2*y.2%8 else x.2*y.2)
def aN{a b:Int}(hp:aT p=Á)(ha:a≠0)(c:b≠0):cls (a*b) p=bj (cls a p) (cls b p) p:=by
 unfold cls bj;rw[Bz hp ha c];dsimp only;by_cases h:p=2
 .rw[Xo h,Xo h,Xo h,Xo h];exact acr .d (YV ..)
 .rw[Xl h,Xl h,Xl h,Xl h];exact acr .d (cX hp ..)
noncomputable def CO:List (Int×Int):=[(0,1),(0,-1),(1,1),(1,-1)]
noncomputable def C2:List (Int×Int):=[(0,1),(0,3),(0,5),(0,7),(1,1),(1,3),(1,5),(1,7)]
def cI{a:Int}(hp:2<=p)(h2:p≠2)(ha:a≠0):cls a p∈CO:=by
 obtain⟨_,_,b⟩:=e_ hp ha;unfold cls;rw[Xl h2];rcases Zm (aX a p).1 with z|z<;>rcases bx b with w|w<;>rw[z,w]<;>decide
def cW{a:Int}(ha:a≠0):cls a 2∈C2:=by
 obtain⟨_,_,b⟩:=e_ (d:=2) .a ha;have h':(aX a 2).2%2≠0:=λz=>b (XM z);have:(aX a 2).2%8=1\/(aX a 2).2%8=3\/(aX a 2).2%8=5\/(aX a 2).2%8=7:=by lia
 unfold cls;rw[Xo rfl];rcases Zm (aX a 2).1 with z|z<;>rcases this with w|w|w|w<;>rw[z,w]<;>decide
def sH(hp:2<=p):bh (-1) p∈[(1:Int),-1]:=by
 have:¬p∣-1:=λz=>by
  have:=XH .a ((YL).mp z);lia
 rcases bx this with w|w<;>rw[w]<;>decide
noncomputable def lx(x y:Int×Int)(m:Int):Bool:=decide ((if x.1=1 then y.2 else 1)*(if y.1=1 then x.2 else 1)*(if x.1=1/\y.1=1 then m else 1)=1)
def M9(x y:Int×Int)(p:Int):C6 x y p=lx x y (bh (-1) p):=rfl
def O9:∀x∈CO,∀y∈CO,∀m∈[(1:Int),-1],lx x y m=lx y x m:=.a
def Np:∀x∈C2,∀y∈C2,fG x y=fG y x:=.a
def QD:∀x∈CO,∀y∈CO,∀z∈CO,∀m∈[(1:Int),-1],lx x (bj y z 3) m=(lx x y m==lx x z m):=by decide +kernel
def NN:∀x∈C2,∀y∈C2,∀z∈C2,fG x (bj y z 2)=(fG x y==fG x z):=by decide +kernel
def Rm:∀x∈CO,∀y∈CO,bj (bj x y 3) y 3=x:=.a
def PV:∀x∈C2,∀y∈C2,bj (bj x y 2) y 2=x:=.a
def Qc:∀x∈CO,∀m∈[(1:Int),-1],lx x (bj (0,m) x 3) m=Á:=.a
def LO:∀x∈C2,fG x (bj (0,7) x 2)=Á:=.a
def KH:∀x∈CO,∀y∈CO,∀m∈[(1:Int),-1],lx x (bj y y 3) m=Á:=.a
def Ge:∀x∈C2,∀y∈C2,fG x (bj y y 2)=Á:=.a
def bW{x y:Int×Int}(h:p≠2):bj x y p=bj x y 3:=by unfold bj;rw[Xl h,Xl .a]
def Pl(p:Int):Prop:=p=0\/aT p=Á
def aO{a b:Int}:aA a b 0=(decide (0<a) || decide (0<b)):=Xo rfl
def aW{a b:Int}:aA a b 2=fG (cls a 2) (cls b 2):=by unfold aA;rw[Xl .a,Xo rfl]
def bf{a b:Int}(c:p≠0)(h2:p≠2):aA a b p=lx (cls a p) (cls b p) (bh (-1) p):=by unfold aA;rw[Xl c,Xl h2,M9]
def Pl.cases(h:Pl p){Q:Prop}(b:p=0->Q)(h2:p=2->Q)(a:aT p=Á->p≠2->p≠0->2<=p->Q):Q:=by
 rcases h with z|z
 .exact b z
 .have:=au z;by_cases w:p=2
  .exact h2 w
  .exact a z w .b this
def bC{a b:Int}(h:Pl p)(ha:a≠0)(d:b≠0):aA b a p=aA a b p:=by
 refine h.cases (λz=>?_) (λz=>?_) (λhp h2 e c=>?_)
 .subst z;rw[aO,aO,Bool.or_comm]
 .subst z;rw[aW,aW];exact Np _ (cW d) _ (cW ha)
 .rw[bf e h2,bf e h2];exact O9 _ (cI c h2 d) _ (cI c h2 ha) _ (sH c)
def eR{b:Int}(d:b≠0)(a:c≠0):0<b*c↔(0<b↔0<c):=by
 rcases YF d with z|z<;>rcases YF a with w|w
 .have:=ZM z w;constructor<;>intro<;>lia
 .have:=Zn z w;constructor<;>intro<;>lia
 .have:=aa6 z w;constructor<;>intro<;>lia
 .have:=Yq z w;constructor<;>intro<;>lia
def dn{a b:Int}(h:Pl p)(ha:a≠0)(d:b≠0)(e:c≠0):aA a (b*c) p=(aA a b p==aA a c p):=by
 refine h.cases (λz=>?_) (λz=>?_) (λhp h2 g f=>?_)
 .subst z;rw[aO,aO,aO];have:=eR d e;by_cases w:0<a
  .simp[w]
  .by_cases x:0<b<;>by_cases y:0<c<;>simp[w,x,y,this]
 .subst z;rw[aW,aW,aW,aN aR d e];exact NN _ (cW ha) _ (cW d) _ (cW e)
 .rw[bf g h2,bf g h2,bf g h2,aN hp d e,bW h2];exact QD _ (cI f h2 ha) _ (cI f h2 d) _ (cI f h2 e) _ (sH f)
def oI{a:Int}(hp:aT p=Á)(ha:a≠0)(b:r≠0):cls (a*r*r) p=cls a p:=by
 rw[aN hp (Xn ha b) b,aN hp ha b];have c:=au hp;by_cases h2:p=2
 .subst h2;exact PV _ (cW ha) _ (cW b)
 .rw[bW h2,bW h2];exact Rm _ (cI c h2 ha) _ (cI c h2 b)
def mN{a b:Int}(h:Pl p)(ha:a≠0)(c:r≠0):aA (a*r*r) b p=aA a b p:=by
 refine h.cases (λz=>?_) (λz=>?_) (λhp h2 d f=>?_)
 .subst z;rw[aO,aO]
  have e:0<a*r*r↔0<a:=by
   rw[X6,eR ha (Xn c c)];have:0<r*r:=(eR c c).mpr Ş;constructor
   .intro z;exact z.mpr this
   .intro z;exact#[λ_=>this,λ_=>z]
  rw[abx.mpr e]
 .subst z;rw[aW,aW,oI aR ha c]
 .rw[bf d h2,bf d h2,oI hp ha c]
def sG(hp:aT p=Á):cls (-1) p=(0,if p=2 then 7 else bh (-1) p):=by
 have a:=au hp
 have b:¬p∣-1:=λz=>by
  have:=XH .a ((YL).mp z);lia
 have e:aX (-1) p=(0,-1):=j6 a #[Yv 0,by dsimp only;rw[show(0:Int).toNat=0 from rfl,Yc,X0],b];unfold cls;rw[e];rfl
def sI{a:Int}(h:Pl p)(ha:a≠0):aA a (0-a) p=Á:=by
 have b:0-a=-1*a:=by lia
 refine h.cases (λz=>?_) (λz=>?_) (λhp h2 d c=>?_)
 .subst z;rw[aO];simp;lia
 .subst z;rw[aW,b,aN aR .a ha,sG aR,Xo rfl];exact LO _ (cW ha)
 .rw[bf d h2,b,aN hp .a ha,sG hp,Xl h2,bW h2];exact Qc _ (cI c h2 ha) _ (sH c)
def tQ{a:Int}(h:Pl p)(ha:a≠0)(b:r≠0):aA a (r*r) p=Á:=by
 refine h.cases (λz=>?_) (λz=>?_) (λhp h2 d c=>?_)
 .subst z;rw[aO];have:0<r*r:=(eR b b).mpr Ş;simp[this]
 .subst z;rw[aW,aN aR b b];exact Ge _ (cW ha) _ (cW b)
 .rw[bf d h2,aN hp b b,bW h2];exact KH _ (cI c h2 ha) _ (cI c h2 b) _ (sH c)
def mH{a:Int}(hp:2<=p)(h:¬p∣a):aX a p=(0,a) :=
 j6 hp #[Yv 0,by dsimp only;rw[show(0:Int).toNat=0 from rfl,Yc,X0],h]
def k6{a b:Int}(hp:aT p=Á)(h2:p≠2)(ha:¬p∣a)(d:¬p∣b):aA a b p=Á:=by
 have c:=au hp;rw[bf .b h2];unfold cls;rw[mH c ha,mH c d];rfl
def gT{a:Int}(hp:aT p=Á)(h2:p≠2)(h:p∣a-1):bh a p=1:=by
 have b:=au hp;rw[om (l:=1) (vE.mpr h)];unfold bh;rw[ZY .a .b,Xl .a,Xl h2,Int.one_pow,ZY .a .b,Xo rfl]
def CK(e:Int):Nat->List (Int×Int)->Int->Int->List (Int×Int)×Int
 |0,fs,l,_=>(fs,l)
 |n+1,fs,l,b=>match p4 l b e with
  |none=>(fs,l)
  |some d=>CK e n (fs++[(d,(aX l d).1)]) (aX l d).2 (d+2)
def yH(k:Int):List (Int×Int):=if 0<(aX k 2).1 then [(2,(aX k 2).1)] else []
def bF(k e:Int):List (Int×Int)×Int:=CK e k.toNat (yH k) (aX k 2).2 3
def j8{b:Int}(g:0<=l)(k:1<=b)(h:p4 l b e=À d):b<=d/\d<e/\d*d<=l/\(d-b)%2=0/\d∣l/\∀d',b<=d'->d'<d->(d'-b)%2=0->¬d'∣l:=by
 have z:=zN l b (if rt l+1<e then rt l+1 else e);unfold p4 at h;rw[h] at z;obtain⟨c,j,a,f,i⟩:=z;have h1:d<rt l+1/\d<e:=by split at j<;>omega
 exact#[c,h1.2,(yG g .e).mp h1.1,a,f,i]
def xJ{b:Int}(f:0<=l)(g:1<=b)(h:p4 l b e=none):∀d,b<=d->d<e->d*d<=l->(d-b)%2=0->¬d∣l:=by
 have z:=zN l b (if rt l+1<e then rt l+1 else e);unfold p4 at h;rw[h] at z;intro d h1 h2 c a;have:=(yG f .e).mpr c;exact z d h1 (by split<;>omega) a
def vO(b:2<=d)(i:0<l)(h:d∣l):0<(aX l d).2/\2*(aX l d).2<=l/\1<=(aX l d).1/\(aX l d).2∣l:=by
 obtain⟨h1,h2,c⟩:=e_ b (show l≠0 by lia)
 have a:1<=(aX l d).1:=by
  apply Xt;intro g;have e:(aX l d).1.toNat=0:=by lia
  rw[e,Yc,X0] at h2;exact c (h2▸h)
 have hp:(2:Int)<=d^(aX l d).1.toNat:=by
  have e:(aX l d).1.toNat=((aX l d).1.toNat-1)+1:=by lia
  rw[e,XS];have:(0:Int)<d^((aX l d).1.toNat-1):=Yx .b;have:1*2<=d^((aX l d).1.toNat-1)*d:=Yj .b b .a .b;lia
 generalize (aX l d).2=x at *;generalize d^(aX l d).1.toNat=t at *
 have f:0<x:=by
  apply Xt;intro g;have:x*t<=0:=aak .b .b;lia
 have:x*2<=x*t:=XB hp .b;exact#[f,.b,a,#[t,h2]]
noncomputable def pp:List (Int×Int)->Int
 |[]=>1
 |u::us=>u.1^u.2.toNat*pp us
theorem rn(u:Int×Int):∀us,pp (us++[u])=pp us*u.1^u.2.toNat
 |[]=>by show _*1=1*_;rw[X0,Yp]
 |v::us=>by
  show v.1^v.2.toNat*pp (us++[u])=v.1^v.2.toNat*pp us*_;rw[rn u us,X6]
def gj:Int->List (Int×Int)->Int->Prop
 |a,[],b=>a<b
 |a,u::us,b=>a<u.1/\aT u.1=Á/\1<=u.2/\gj u.1 us b
theorem gj.snoc{b b':Int}{u:Int×Int}(e:aT u.1=Á)(h1:1<=u.2)(d:b<=u.1)(c:u.1<b'):∀{a us},gj a us b->gj a (us++[u]) b'
 |_,[],h=>#[Int.lt_of_lt_of_le h d,e,h1,c]
 |_,_::_,h=>#[h.1,h.2.1,h.2.2.1,gj.snoc e h1 d c h.2.2.2]
structure Af(k:Int)(fs:List (Int×Int))(l b:Int):Prop where
 rise:gj 1 fs b
 prod:pp fs*l=k
 pos:0<l
 odd:l%2=1
 b3:3<=b
 bo:b%2=1
 free:∀d,3<=d->d<b->d%2=1->¬d∣l
def Af.prime{fs:List (Int×Int)}{b:Int}(I:Af k fs l b)(h:p4 l b e=À d):aT d=Á:=by
 obtain⟨h1,h2,s,q,o,n⟩:=j8 (ZR I.pos) (by have:=I.b3;lia) h;have r:=I.b3;have m:=I.bo;refine bY.mpr (.inr #[.b,.b,λf g p j i=>?_]);have a:f∣l:=X7 i o
 have c:f<d:=by
  have:f*3<=f*f:=XB g .b;lia
 rcases Y8 f b with z|z
 .exact I.free f g z j a
 .exact n f z c .b a
def Af.step{fs:List (Int×Int)}{b:Int}(I:Af k fs l b)(h:p4 l b e=À d):Af k (fs++[(d,(aX l d).1)]) (aX l d).2 (d+2):=by
 obtain⟨h1,h2,D,x,u,p⟩:=j8 (ZR I.pos) (by have:=I.b3;lia) h;have A:=I.b3;have o:=I.bo;obtain⟨t,E,r,i⟩:=vO (show 2<=d by lia) I.pos u;obtain⟨C,m,j⟩:=e_ (show 2<=d by lia) (show l≠0 by have:=I.pos;lia);refine#[I.rise.snoc (I.prime h) r h1 .b,?_,t,?_,.b,.b,λf v w n g=>?_]
 .rw[rn,X6,Yb (d^_),<-m,I.prod]
 .have B:=I.odd;obtain⟨c,s⟩:=i;rcases Zm (aX l d).2 with z|z
  .obtain⟨y,q⟩:=XM z;rw[q,X6] at s;lia
  .exact z
 .have a:f∣l:=X7 g i;rcases ZV f d with z|z|z
  .rcases Y8 f b with y|y
   .exact I.free f v y n a
   .exact p f y z .b a
  .rw[z] at g;exact j g
  .lia
theorem Ez{k e:Int}:∀(n:Nat) (fs:List (Int×Int)) (l b:Int),Af k fs l b->l<=n->∃b',Af k (CK e n fs l b).1 (CK e n fs l b).2 b'/\p4 (CK e n fs l b).2 b' e=none
 |0,fs,l,b,I,h=>by have:=I.pos;lia
 |n+1,fs,l,b,I,h=>by
  unfold CK;cases a:p4 l b e with
  |none=>exact#[b,I,a]
  |some d =>
   obtain⟨h1,h2,m,f,c,i⟩:=j8 (ZR I.pos) (by have:=I.b3;lia) a;obtain⟨p,o,j,g⟩:=vO (show 2<=d by have:=I.b3;lia) I.pos c;exact Ez n _ _ _ (I.step a) .b
def oP(h:1<=k):Af k (yH k) (aX k 2).2 3/\(aX k 2).2<=k:=by
 obtain⟨j,f,g⟩:=e_ (show(2:Int)<=2 by decide) (show k≠0 by lia);have a:(aX k 2).2%2=1:=by lia
 have hp:(0:Int)<2^(aX k 2).1.toNat:=Yx .a
 have b:0<(aX k 2).2:=by
  apply Xt;intro i;have:(aX k 2).2*2^(aX k 2).1.toNat<=0:=aak .b .b;lia
 have c:(aX k 2).2<=k:=by
  have:(aX k 2).2*1<=(aX k 2).2*2^(aX k 2).1.toNat:=XB .b .b;lia
 refine#[#[?_,?_,b,a,.a,.a,λd h1 h2=>by lia],c]
 .unfold yH;split
  .exact#[by show(1:Int)<2;decide,aR,.d,by show(2:Int)<3;decide]
  .show(1:Int)<3;decide
 .unfold yH;split
  .show(2^(aX k 2).1.toNat*1)*_=k;rw[X0,Yb];exact f.symm
  .have e:(aX k 2).1.toNat=0:=by lia
   rw[e,Yc,X0] at f;show 1*_=k;rw[Yp];exact f.symm
def kT(a:1<=k):∃b,Af k (bF k e).1 (bF k e).2 b/\p4 (bF k e).2 b e=none:=by
 obtain⟨I,h⟩:=oP a;exact Ez k.toNat _ _ 3 I .b
def pA(k:Int):List (Int×Int):=(bF k (k+1)).1++(if 1<(bF k (k+1)).2 then [((bF k (k+1)).2,1)] else [])
theorem jr:∀{us:List (Int×Int)} {a b:Int},0<=a->gj a us b->0<pp us
 |[],_,_,_,_=>by show(0:Int)<1;decide
 |u::us,a,b,ha,h=>Yq (Yx (by have:=h.1;lia)) (jr (by have:=h.1;lia) h.2.2.2)
def pb(j:1<=k):(∃b,gj 1 (pA k) b)/\pp (pA k)=k:=by
 obtain⟨b,I,m⟩:=kT (e:=k+1) j
 have o:(bF k (k+1)).2<=k:=by
  have h1:=I.prod;have h2:=jr .a I.rise;have q:=I.pos;have:1*(bF k (k+1)).2<=pp (bF k (k+1)).1*(bF k (k+1)).2:=Yt .b .b;lia
 unfold pA;generalize bF k (k+1)=r at *;split
 .rename_i s;have a:=I.odd;have p:=I.b3;have n:=I.bo
  have d:b<=r.2:=by
   rcases Y8 r.2 b with z|z
   .exact absurd (ZD r.2) (I.free r.2 .b z a)
   .exact z
  have c:aT r.2=Á:=by
   refine bY.mpr (.inr #[.b,a,λf h i l g=>?_]);rcases Y8 f b with z|z
   .exact I.free f h z l g
   .refine xJ .b .b m f z ?_ i .b g;have:f*3<=f*f:=XB h .b;lia
  refine#[#[r.2+1,I.rise.snoc c (Yv 1) d .d],?_];rw[rn];show pp r.1*r.2^(1:Int).toNat=k;rw[show(1:Int).toNat=1 from rfl,XS,Yc,Yp];exact I.prod
 .have:r.2=1:=by have:=I.pos;lia
  rw[aaE];refine#[#[b,I.rise],?_];have:=I.prod;rw[‹r.2=1›,X0] at this;exact this
noncomputable def b7:List Int->Int
 |[]=>0
 |x::l=>x+b7 l
def vj{l a:List Int}(h:l.Perm a):b7 l=b7 a:=by
 induction h with
 |nil=>rfl
 |cons x _ b=>show x+_=x+_;rw[b]
 |swap x y l=>show y+(x+_)=x+(y+_);lia
 |trans _ _ h1 h2=>exact h1.trans h2
noncomputable def gr(a p k:Int):Int:=a*k%p
noncomputable def xx(a p k:Int):Int:=if gr a p k<=(p-1)/2 then 0 else 1
noncomputable def gs(a p k:Int):Int:=if gr a p k<=(p-1)/2 then gr a p k else p-gr a p k
noncomputable def oq(n:Int):Int:=if n%2=0 then 1 else -1
def BL(m n:Int):oq (m+n)=oq m*oq n:=by
 unfold oq;rcases Zm m with a|a<;>rcases Zm n with b|b
 .rw[Xo .b,Xo a,Xo b];rfl
 .rw[Xl .b,Xo a,Xl .b];rfl
 .rw[Xl .b,Xl .b,Xo b];rfl
 .rw[Xo .b,Xl .b,Xl .b];rfl
def y_{n:Int}(h:m%2=n%2):oq m=oq n:=by unfold oq;rw[h]
noncomputable def Hl(p:Int):List Int:=(Ô ((p-1)/2).toNat).map λi:Nat=>(i:Int)+1
def lO:x∈Hl p↔1<=x/\x<=(p-1)/2:=by
 unfold Hl;simp only[XF,Yu];constructor
 .rintro⟨i,h,rfl⟩;lia
 .rintro⟨h1,h2⟩;exact#[(x-1).toNat,.b,.b]
def Hs(p:Int):(Hl p).Nodup:=by
 refine ZX.mpr (ZS ?_ (aaw (n:=((p-1)/2).toNat)));intro i j _ _ a;lia
def Mg(p:Int):(Hl p).length=((p-1)/2).toNat:=by simp[Hl]
section
variable{p a:Int}(hp:aT p=Á)(h2:p≠2)(ha:¬p∣a)
include hp h2 in
theorem gb:p%2=1/\3<=p:=by
 have:=au hp;rcases bY.mp hp with z|z<;>lia
include hp h2 ha in
theorem Px(b:k∈Hl p):1<=gr a p k/\gr a p k<p:=by
 have e:=gb hp h2;have d:=lO.mp b;have f:=X2 (a*k) (show p≠0 by lia);have h1:=XU (a*k) (show 0<p by lia);refine#[?_,h1];apply Xt;intro c;have hz:a*k%p=0:=by unfold gr at c;lia
 rcases euclid hp (XM hz) with z|z
 .exact ha z
 .have:=cf z .b .b;lia
include hp h2 ha in
theorem OT(b:k∈Hl p):gs a p k∈Hl p:=by
 have c:=gb hp h2;have:=Px hp h2 ha b;unfold gs;split
 .exact lO.mpr #[this.1,by assumption]
 .exact lO.mpr #[.e,.e]
def Nk(a p k:Int):p∣a*k-gr a p k:=by
 have:=YH (a*k) p;exact#[a*k/p,by unfold gr;lia]
def Bh(a p k:Int):p∣a*k-oq (xx a p k)*gs a p k:=by
 obtain⟨c,b⟩:=Nk a p k;unfold xx gs oq;split
 .exact#[c,by simp;lia]
 .exact#[c+1,by rw[ZE];simp;lia]
include hp h2 ha in
theorem xf:(Hl p).Perm ((Hl p).map (gs a p)):=by
 have q:=gb hp h2
 have e:((Hl p).map (gs a p)).Nodup:=by
  refine ZX.mpr (ZS ?_ (Hs p));intro x y g f j he;have k:=lO.mp g;have m:=lO.mp f;obtain⟨c,o⟩:=Bh a p x;obtain⟨d,i⟩:=Bh a p y;rw[<-he] at i;have e1:oq (xx a p x)=1\/oq (xx a p x)=-1:=by unfold oq;split<;>simp
  have e2:oq (xx a p y)=1\/oq (xx a p y)=-1:=by unfold oq;split<;>simp
  have key:p∣a*(x-y)\/p∣a*(x+y):=by
   rcases e1 with z|z<;>rcases e2 with w|w<;>rw[z] at o<;>rw[w] at i
   .exact .inl #[c-d,by rw[ϙ,ϙ];lia]
   .exact .inr #[c+d,by rw[ZE,ZE];lia]
   .exact .inr #[c+d,by rw[ZE,ZE];lia]
   .exact .inl #[c-d,by rw[ϙ,ϙ];lia]
  rcases key with z|z
  .rcases euclid hp z with w|w
   .exact ha w
   .have:=cf w .b .b;lia
  .rcases euclid hp z with w|w
   .exact ha w
   .have:=cf w .b .b;lia
 have n:∀x,x∈(Hl p).map (gs a p)->x∈Hl p:=by
  intro y f;obtain⟨x,g,rfl⟩:=XF.mp f;exact OT hp h2 ha g
 obtain⟨l,b⟩:=HK e n
 have h:l=[]:=by
  have:=b.length_eq;rw[XQ,Xv] at this;exact aaN .b
 rw[h,aaE] at b;exact b
theorem EG(a p:Int):∀l:List Int,p∣a^l.length*dA l-oq (b7 (l.map (xx a p)))*dA (l.map (gs a p))
 |[]=>#[0,by simp[dA,b7,oq]]
 |k::l=>by
  obtain⟨c,b⟩:=EG a p l;obtain⟨d,e⟩:=Bh a p k;show p∣a^(l.length+1)*(k*dA l)-oq (xx a p k+b7 (l.map (xx a p)))*(gs a p k*dA (l.map (gs a p)));rw[BL,XS];generalize oq (xx a p k)=e1 at *;generalize oq (b7 (l.map (xx a p)))=e2 at *;generalize dA (l.map (gs a p))=v at *;generalize dA l=u at *;generalize a^l.length=t at *;generalize gs a p k=g at *;have h1:t*u=e2*v+p*c:=by lia
  have h2:a*k=e1*g+p*d:=by lia
  exact#[a*k*c+d*(e2*v),by grind]
include hp h2 ha in
theorem Em:bh a p=oq (b7 ((Hl p).map (xx a p))):=by
 have f:=gb hp h2;have c:=EG a p (Hl p);rw[<-si (xf hp h2 ha),Mg] at c;have e:p∣(a^((p-1)/2).toNat-oq (b7 ((Hl p).map (xx a p))))*dA (Hl p):=by rw[Int.sub_mul];exact c
 rcases euclid hp e with z|z
 .unfold oq at *;split
  .rename_i h;rw[Xo h] at z;exact(eZ hp h2 ha).mpr z
  .rename_i h;rw[Xl h] at z;exact(fU hp h2 ha).mpr (by rw[show a^((p-1)/2).toNat+1=a^((p-1)/2).toNat - -1 by lia];exact z)
 .refine absurd z (iJ hp _ λx d b=>?_);have:=lO.mp d;have:=cf b .b .b;lia
def P6{a p:Int}(g:p%2=1):(a*k-a*k/p-gs a p k-xx a p k)%2=0:=by
 have e:=YH (a*k) p;have b:∃c,p=2*c+1:=#[p/2,.b];obtain⟨c,d⟩:=b
 have f:p*(a*k/p)=2*(c*(a*k/p))+a*k/p:=by
  rw[d];generalize a*k/(2*c+1)=z;grind
 unfold gs xx gr;generalize a*k/p=q at *;generalize c*q=y at *;split<;>lia
theorem Fi{a p:Int}(b:p%2=1):∀l:List Int,(a*b7 l-b7 (l.map λk=>a*k/p)-b7 (l.map (gs a p))-b7 (l.map (xx a p)))%2=0
 |[]=>by simp[b7]
 |k::l=>by
  have h1:=Fi (a:=a) b l;have h2:=P6 (a:=a) (k:=k) b;show(a*(k+b7 l)-(a*k/p+b7 (l.map λk=>a*k/p))-(gs a p k+b7 (l.map (gs a p)))-(xx a p k+b7 (l.map (xx a p))))%2=0;rw[ZE];generalize a*b7 l=d at *;generalize a*k=c at *;lia
include hp h2 ha in
theorem Lr(e:a%2=1):b7 ((Hl p).map (xx a p))%2=b7 ((Hl p).map λk=>a*k/p)%2:=by
 have h:=Fi (a:=a) (gb hp h2).1 (Hl p);rw[<-vj (xf hp h2 ha)] at h;have b:∃c,a=2*c+1:=#[a/2,.b];obtain⟨c,d⟩:=b
 have:a*b7 (Hl p)=2*(c*b7 (Hl p))+b7 (Hl p):=by
  rw[d];generalize b7 (Hl p)=z;grind
 generalize c*b7 (Hl p)=y at *;lia
end
def Nc(n:Nat):2*b7 ((Ô n).map λi:Nat=>(i:Int)+1)=(n:Int)*(n+1):=by
 have ap:∀(l:List Int) (x:Int),b7 (l++[x])=b7 l+x:=λl x=>by
  induction l with
  |nil=>show x+0=0+x;lia
  |cons y l a=>show y+b7 (l++[x])=y+b7 l+x;lia
 induction n with
 |zero=>rfl
 |succ n a =>
  rw[acN,Zl,X3,aaQ,ap,ZE,a];have:((n+1:Nat):Int)=(n:Int)+1:=by lia
  rw[this];generalize (n:Int)=x;grind
def JS(hp:aT p=Á)(h2:p≠2):bh 2 p=if p%8=1\/p%8=7 then 1 else -1:=by
 have f:=gb hp h2
 have ha:¬p∣2:=λz=>by
  have:=XH .a z;lia
 rw[Em hp h2 ha];have h:=Fi (a:=2) f.1 (Hl p);rw[<-vj (xf hp h2 ha)] at h
 have e:∀l:List Int,(∀k,k∈l->k∈Hl p)->b7 (l.map λk=>2*k/p)=0:=λl=>by
  induction l with
  |nil=>intro _;rfl
  |cons k l o =>
   intro d;have v:=lO.mp (d k (XA ..));have t:2*k/p=0:=Int.ediv_eq_zero_of_lt .b .b;show 2*k/p+b7 (l.map λk=>2*k/p)=0;rw[t,o λy g=>d y (Xx _ g)];rfl
 rw[e _ λ_ z=>z] at h;have b:=Nc ((p-1)/2).toNat;have u:b7 (Hl p)=b7 ((Ô ((p-1)/2).toNat).map λi:Nat=>(i:Int)+1):=rfl;rw[<-u] at b;have s:(((p-1)/2).toNat:Int)=(p-1)/2:=by lia
 rw[s] at b;have n:∃c r,p=8*c+r/\(r=1\/r=3\/r=5\/r=7):=#[p/8,p%8,.b,.b];obtain⟨c,r,m,q⟩:=n;have key:∀x:Int,(p-1)/2=x->2*b7 (Hl p)=x*(x+1):=λx j=>by rw[<-j];exact b
 rcases q with rfl|rfl|rfl|rfl
 .have k:=key (4*c) .b
  have:b7 (Hl p)=2*(c*(4*c+1)):=by
   have:4*c*(4*c+1)=2*(2*(c*(4*c+1))):=by grind
   lia
  rw[Xo .b];unfold oq;rw[Xo .b]
 .have k:=key (4*c+1) .b
  have:b7 (Hl p)=2*(4*(c*c)+3*c)+1:=by
   have:(4*c+1)*(4*c+1+1)=2*(2*(4*(c*c)+3*c)+1):=by grind
   lia
  rw[Xl .b];unfold oq;rw[Xl .b]
 .have k:=key (4*c+2) .b
  have:b7 (Hl p)=2*(4*(c*c)+5*c+1)+1:=by
   have:(4*c+2)*(4*c+2+1)=2*(2*(4*(c*c)+5*c+1)+1):=by grind
   lia
  rw[Xl .b];unfold oq;rw[Xl .b]
 .have k:=key (4*c+3) .b
  have:b7 (Hl p)=2*(4*(c*c)+7*c+3):=by
   have:(4*c+3)*(4*c+3+1)=2*(2*(4*(c*c)+7*c+3)):=by grind
   lia
  rw[Xo .b];unfold oq;rw[Xo .b]
def C1(hp:aT p=Á)(h2:p≠2):bh (-1) p=if p%4=3 then -1 else 1:=by
 have b:=gb hp h2
 have ha:¬p∣-1:=λz=>by
  have:=XH .a ((YL).mp z);lia
 have a:∀n:Nat,(-1:Int)^(2*n)=1:=λn=>by rw[acV,show(-1:Int)^2=1 from rfl,Int.one_pow]
 split
 .refine(fU hp h2 ha).mpr ?_;have e:((p-1)/2).toNat=2*(((p-1)/2).toNat/2)+1:=by lia
  rw[e,XS,a];exact#[0,.b]
 .refine(eZ hp h2 ha).mpr ?_;have e:((p-1)/2).toNat=2*(((p-1)/2).toNat/2):=by lia
  rw[e,a];exact#[0,.b]
noncomputable def sm(n:Nat)(f:Nat->Int):Int:=b7 ((Ô n).map f)
def eX(n:Nat)(f:Nat->Int):sm (n+1) f=sm n f+f n:=by
 have ap:∀(l:List Int) (x:Int),b7 (l++[x])=b7 l+x:=λl x=>by
  induction l with
  |nil=>show x+0=0+x;lia
  |cons y l a=>show y+b7 (l++[x])=y+b7 l+x;lia
 unfold sm;rw[acN,Zl,X3,aaQ,ap]
def zR(n:Nat)(f g:Nat->Int):sm n (λi=>f i+g i)=sm n f+sm n g:=by
 induction n with
 |zero=>rfl
 |succ n a=>rw[eX,eX,eX,a];lia
def qM{f g:Nat->Int}(h:∀i,i<n->f i=g i):sm n f=sm n g:=by
 induction n with
 |zero=>rfl
 |succ n a=>rw[eX,eX,a λi hi=>h i .b,h n .b]
def Kb(n:Nat):sm n (λ_=>0)=0:=by
 induction n with
 |zero=>rfl
 |succ n a=>rw[eX,a];rfl
def IQ(m n:Nat)(f:Nat->Nat->Int):sm m (λi=>sm n (f i))=sm n (λj=>sm m λi=>f i j):=by
 induction m with
 |zero=>rw[show(λj=>sm 0 λi=>f i j)=λ_=>0 from rfl,Kb];rfl
 |succ m a =>
  rw[eX,a,show(λj=>sm (m+1) λi=>f i j)=λj=>(sm m λi=>f i j)+f m j from funext λj=>eX m _,zR]
def ME(n:Nat):sm n (λ_=>1)=n:=by
 induction n with
 |zero=>rfl
 |succ n a=>rw[eX,a];lia
def cnt(b:0<=x):sm n (λj=>if (j:Int)+1<=x then 1 else 0)=if x<=n then x else n:=by
 induction n with
 |zero=>show(0:Int)=_;split<;>lia
 |succ n a =>
  rw[eX,a];split<;>split<;>split<;>lia
def below{t:Int}(hp:0<p)(c:0<=t)(d:¬p∣t)(b:t/p<=n):sm n (λj=>if p*((j:Int)+1)<t then 1 else 0)=t/p:=by
 have f:0<=t/p:=aa5 c .b;have e:=cnt (n:=n) f;rw[Xo b] at e;rw[<-e];refine qM λj _=>?_
 have a:p*((j:Int)+1)<t↔(j:Int)+1<=t/p:=by
  rw[Int.le_ediv_iff_mul_le hp,Yb];constructor
  .intro z;lia
  .intro z;rcases aac z with w|w
   .exact w
   .exact absurd #[_,by rw[<-w,Yb]] d
 by_cases z:p*((j:Int)+1)<t
 .rw[Xo z,Xo (a.mp z)]
 .rw[Xl z,Xl λw=>z (a.mpr w)]
def KZ(hp:aT p=Á)(h2:p≠2)(d:aT q=Á)(b:q≠2)(e:p≠q):
  b7 ((Hl p).map λk=>q*k/p)=sm ((p-1)/2).toNat λi=>sm ((q-1)/2).toNat λj=>if p*((j:Int)+1)<q*((i:Int)+1) then 1 else 0:=by
 have h:=gb hp h2;have f:=gb d b
 have a:¬p∣q:=λz=>by
  rcases eY d (show 0<p by lia) z with w|w<;>lia
 unfold Hl sm;rw[aaS];show sm ((p-1)/2).toNat _=sm ((p-1)/2).toNat _;refine qM λi hi=>?_;show q*((i:Int)+1)/p=sm _ _;refine(below .b (Zi .b .b) (λz=>?_) ?_).symm
 .rcases euclid hp z with w|w
  .exact a w
  .have:=cf w .b .b;lia
 .have h1:q*((i:Int)+1)<((q-1)/2+1)*p:=by
   have c:2*((i:Int)+1)<=p-1:=by lia
   have:q*(2*((i:Int)+1))<=q*(p-1):=XB c .b;have e2:2*((q-1)/2+1)=q+1:=by lia
   have e3:2*(((q-1)/2+1)*p)=(q+1)*p:=by rw[<-X6,e2]
   have e4:q*(2*((i:Int)+1))=2*(q*((i:Int)+1)):=by grind
   have g:q*(p-1)=q*p-q:=by grind
   have l:(q+1)*p=q*p+p:=by grind
   lia
  have:=acZ (show 0<p by lia) h1;lia
def IY(hp:aT p=Á)(h2:p≠2)(d:aT q=Á)(a:q≠2)(b:p≠q):
  b7 ((Hl p).map λk=>q*k/p)+b7 ((Hl q).map λk=>p*k/q)=(p-1)/2*((q-1)/2):=by
 have m:=gb hp h2;have l:=gb d a
 have e:¬p∣q:=λz=>by
  rcases eY d (show 0<p by lia) z with w|w<;>lia
 rw[KZ hp h2 d a b,KZ d a hp h2 (λz=>b z.symm),IQ ((q-1)/2).toNat,<-zR]
 have e1:sm ((p-1)/2).toNat (λi=>(sm ((q-1)/2).toNat λj=>if p*((j:Int)+1)<q*((i:Int)+1) then 1 else 0)+sm ((q-1)/2).toNat λf=>if q*((i:Int)+1)<p*((f:Int)+1) then 1 else 0)=sm ((p-1)/2).toNat λ_=>(((q-1)/2).toNat:Int):=by
  refine qM λi hi=>?_;rw[<-zR,<-ME ((q-1)/2).toNat];refine qM λj o=>?_
  have g:p*((j:Int)+1)≠q*((i:Int)+1):=λz=>by
   rcases euclid hp (show p∣q*((i:Int)+1) from #[_,z.symm]) with w|w
   .exact e w
   .have:=cf w .b .b;lia
  generalize p*((j:Int)+1)=x at *;generalize q*((i:Int)+1)=y at *;split<;>split<;>lia
 rw[e1]
 have e2:∀(n:Nat) (c:Int),sm n (λ_=>c)=n*c:=λn c=>by
  induction n with
  |zero=>show(0:Int)=_;simp
  |succ n h=>rw[eX,h];simp[Int.add_mul]
 rw[e2];rw[show(((p-1)/2).toNat:Int)=(p-1)/2 by lia,show(((q-1)/2).toNat:Int)=(q-1)/2 by lia]
def Fe(hp:aT p=Á)(h2:p≠2)(d:aT q=Á)(c:q≠2)(h:p≠q):bh q p*bh p q=if p%4=3/\q%4=3 then -1 else 1:=by
 have i:=gb hp h2;have g:=gb d c
 have e:¬p∣q:=λz=>by
  rcases eY d (show 0<p by lia) z with w|w<;>lia
 have f:¬q∣p:=λz=>by
  rcases eY hp (show 0<q by lia) z with w|w<;>lia
 rw[Em hp h2 e,Em d c f,y_ (Lr hp h2 e g.1),y_ (Lr d c f i.1),<-BL,IY hp h2 d c h];unfold oq;have j:=YV ((p-1)/2) ((q-1)/2) 2;rw[j];by_cases a:p%4=3<;>by_cases b:q%4=3
 .rw[show(p-1)/2%2=1 by lia,show(q-1)/2%2=1 by lia];simp[a,b]
 .rw[show(p-1)/2%2=1 by lia,show(q-1)/2%2=0 by lia];simp[a,b]
 .rw[show(p-1)/2%2=0 by lia];simp[a]
 .rw[show(p-1)/2%2=0 by lia];simp[a]
def Cg(p a b:Int):Prop:=p∣a-b
def iF(p a:Int):Cg p a a:=#[0,.b]
def xb{a b:Int}(h:Cg p a b):Cg p b a:=by obtain⟨c,h⟩:=h;exact#[-c,by rw[acU];lia]
def cj{a b:Int}(h:Cg p a b)(h':Cg p b c):Cg p a c:=by
 obtain⟨x,h⟩:=h;obtain⟨y,h'⟩:=h';exact#[x+y,by rw[ZE];lia]
def iP{a b:Int}(h:Cg p a b)(h':Cg p c d):Cg p (a*c) (b*d):=by
 obtain⟨x,h⟩:=h;obtain⟨y,h'⟩:=h';exact#[x*c+b*y,by grind]
theorem ph{p a b:Int}(h:Cg p a b):∀n:Nat,Cg p (a^n) (b^n)
 |0=>by rw[Yc,Yc];exact iF _ _
 |n+1=>by rw[XS,XS];exact iP (ph h n) h
def dW(p a:Int):Cg p (a%p) a:=by
 have:=YH a p;exact#[-(a/p),by rw[acU];lia]
def KS{a b:Int}(ha:0<=a/\a<p)(c:0<=b/\b<p)(h:Cg p a b):a=b:=by
 have:=cf h .b .b;lia
def Qw(hp:aT p=Á)(h:Cg p (y*y) 1):Cg p y 1\/Cg p y (-1):=by
 have:p∣(y-1)*(y+1):=by rw[show(y-1)*(y+1)=y*y-1 by grind];exact h
 rcases euclid hp this with z|z
 .exact .inl z
 .exact .inr (by unfold Cg;rw[show y - -1=y+1 by lia];exact z)
def Lv(p k:Int):Prop:=2<=k/\bh k p=-1/\∀j,2<=j->j<k->bh j p≠-1
def Lv.uniq(a b:Int)(ha:Lv p a)(c:Lv p b):a=b:=by
 rcases ZV a b with z|z|z
 .exact absurd ha.2.1 (c.2.2 a ha.1 z)
 .exact z
 .exact absurd c.2.1 (ha.2.2 b c.1 z)
def jY(p:Int):Int:=ö (Lv p)
def L4(h:Lv p k):k=jY p:=oF Lv.uniq h
def NR(p:Int):Prop:=∃g,2<=g/\bh g p=-1
def mj(h:NR p):Lv p (jY p):=by
 obtain⟨g,h1,c⟩:=h
 have:∀n:Nat,(∃k,Lv p k)\/∀j:Int,2<=j->j<2+(n:Int)->bh j p≠-1:=λn=>by
  induction n with
  |zero=>exact .inr λj a b=>by lia
  |succ n d =>
   rcases d with z|z
   .exact .inl z
   .by_cases w:bh (2+(n:Int)) p=-1
    .exact .inl #[2+(n:Int),.b,w,λj a b=>z j a b]
    .refine .inr λj a b=>?_;by_cases e:j=2+(n:Int)
     .rw[e];exact w
     .exact z j a .b
 rcases this (g-1).toNat with⟨k,z⟩|z
 .rw[<-L4 z];exact z
 .exact absurd c (z g h1 .b)
def Jj(e p s:Int):Prop:=0<=s/\Cg p (e^2^s.toNat) 1/\∀j:Nat,(j:Int)<s->¬Cg p (e^2^j) 1
def Jj.uniq(a b:Int)(ha:Jj e p a)(c:Jj e p b):a=b:=by
 rcases ZV a b with z|z|z
 .exact absurd ha.2.1 (c.2.2 a.toNat (by have:=ha.1;lia))
 .exact z
 .exact absurd c.2.1 (ha.2.2 b.toNat (by have:=c.1;lia))
def jJ(e p:Int):Int:=ö (Jj e p)
def L6(h:Jj e p s):s=jJ e p:=oF Jj.uniq h
def FJ(h:Cg p (e^2^n) 1):Jj e p (jJ e p)/\jJ e p<=n:=by
 have:∀m:Nat,(∃s:Nat,s<=m/\Jj e p s)\/∀j:Nat,j<=m->¬Cg p (e^2^j) 1:=λm=>by
  induction m with
  |zero =>
   by_cases w:Cg p (e^2^0) 1
   .exact .inl #[0,Xu 0,.b,w,λj a=>by lia]
   .exact .inr λj a=>by rw[Nat.le_zero.mp a];exact w
  |succ m b =>
   rcases b with⟨s,c,z⟩|z
   .exact .inl #[s,.b,z]
   .by_cases w:Cg p (e^2^(m+1)) 1
    .exact .inl #[m+1,Xu _,.b,w,λj a=>z j .b]
    .refine .inr λj a=>?_;by_cases q:j=m+1
     .rw[q];exact w
     .exact z j .b
 rcases this n with⟨s,c,z⟩|z
 .rw[<-L6 z];exact#[z,.b]
 .exact absurd h (z n (Xu n))
noncomputable def mq(p m:Int):Nat->Int
 |0=>m
 |i+1=>mq p m i*mq p m i%p
theorem Ld(p m:Int):∀i,Cg p (mq p m i) (m^2^i)
 |0=>by show Cg p m (m^1);rw[XS,Yc,Yp];exact iF _ _
 |i+1=>by
  have h:=Ld p m i;refine cj (dW p _) ?_;rw[show(2:Nat)^(i+1)=2^i+2^i by rw[ϴ];lia,YS];exact iP h h
def Fg(hp:0<p)(a:0<=m/\m<p):∀i,0<=mq p m i/\mq p m i<p
 |0=>a
 |_+1=>#[X2 _ .b,XU _ hp]
def oA(p:Int):Nat->Int->Int->Int->Int->Int
 |0,_,r,_,_=>r
 |n+1,t,r,e,m=>if e=1 then r else oA p n (jJ e p) (r*mq p m (t-jJ e p-1).toNat%p) (e*(mq p m (t-jJ e p-1).toNat*mq p m (t-jJ e p-1).toNat%p)%p) (mq p m (t-jJ e p-1).toNat*mq p m (t-jJ e p-1).toNat%p)
structure Ox(p k t r e m:Int):Prop where
 r0:0<=r/\r<p
 e0:0<=e/\e<p
 m0:0<=m/\m<p
 t1:1<=t
 rr:Cg p (r*r) (k*e)
 ee:Cg p (e^2^(t-1).toNat) 1
 mm:e≠1->Cg p (m^2^(t-1).toNat) (-1)
def Ox.step{t:Int}(hp:aT p=Á)(I:Ox p k t r e m)(he:e≠1):
  Jj e p (jJ e p)/\1<=jJ e p/\jJ e p<t/\Ox p k (jJ e p) (r*mq p m (t-jJ e p-1).toNat%p) (e*(mq p m (t-jJ e p-1).toNat*mq p m (t-jJ e p-1).toNat%p)%p) (mq p m (t-jJ e p-1).toNat*mq p m (t-jJ e p-1).toNat%p):=by
 have g:=au hp;obtain⟨a,l⟩:=FJ I.ee;have q:=I.t1
 have b:1<=jJ e p:=by
  apply Xt;intro o;have hz:jJ e p=0:=by have:=a.1;lia
  have h1:=a.2.1;rw[hz] at h1
  have c:Cg p e 1:=by
   have:e^2^(0:Int).toNat=e:=by show e^1=e;rw[XS,Yc,Yp]
   rwa [this] at h1
  exact he (KS I.e0 #[.a,.b] c)
 have f:jJ e p<t:=by lia
 refine#[a,b,f,?_];generalize i:jJ e p=s at *;have j:=Ld p m (t-s-1).toNat;have n:=Fg (show 0<p by lia) I.m0 (t-s-1).toNat;generalize mq p m (t-s-1).toNat=x at *
 have e1:Cg p (e^2^(s-1).toNat) (-1):=by
  have d:Cg p (e^2^(s-1).toNat*e^2^(s-1).toNat) 1:=by
   rw[<-YS,show 2^(s-1).toNat+2^(s-1).toNat=2^s.toNat by rw[show s.toNat=(s-1).toNat+1 by lia,ϴ];lia];exact a.2.1
  rcases Qw hp d with z|z
  .exact absurd z (a.2.2 (s-1).toNat .b)
  .exact z
 have h:Cg p (x^2^s.toNat) (-1):=by
  refine cj (ph j _) ?_;rw[<-acV,<-Nat.pow_add,show(t-s-1).toNat+s.toNat=(t-1).toNat by lia];exact I.mm he
 have m1:Cg p ((x*x%p)^2^(s-1).toNat) (-1):=by
  refine cj (ph (dW p _) _) ?_;rw[abT,<-YS,show 2^(s-1).toNat+2^(s-1).toNat=2^s.toNat by rw[show s.toNat=(s-1).toNat+1 by lia,ϴ];lia];exact h
 have bd:∀y:Int,0<=y%p/\y%p<p:=λy=>#[X2 _ .b,XU _ .b];refine#[bd _,bd _,bd _,b,?_,?_,λ_=>m1]
 .have h1:Cg p (r*x%p*(r*x%p)) (r*x*(r*x)):=iP (dW _ _) (dW _ _);have h2:Cg p (k*(e*(x*x%p)%p)) (k*(e*(x*x))):=iP (iF _ _) (cj (dW _ _) (iP (iF _ _) (dW _ _)));refine cj h1 (cj ?_ (xb h2));rw[show r*x*(r*x)=r*r*(x*x) by grind,show k*(e*(x*x))=k*e*(x*x) by grind];exact iP I.rr (iF _ _)
 .refine cj (ph (dW p _) _) ?_;rw[abT];refine cj (iP e1 m1) ?_;exact iF _ _
theorem Cd{p k:Int}(hp:aT p=Á):∀(n:Nat) (t r e m:Int),Ox p k t r e m->t<=n->(0<=oA p n t r e m/\oA p n t r e m<p)/\Cg p (oA p n t r e m*oA p n t r e m) k
 |0,t,r,e,m,I,h=>by have:=I.t1;lia
 |n+1,t,r,e,m,I,h=>by
  unfold oA;split
  .rename_i he;refine#[I.r0,?_];have:=I.rr
   rwa [he,X0] at this
  .rename_i he;obtain⟨d,c,b,a⟩:=I.step hp he;exact Cd hp n _ _ _ _ a .b
def HZ(k p:Int):Int:=oA p (aX (p-1) 2).1.toNat (aX (p-1) 2).1 (k^(((aX (p-1) 2).2+1)/2).toNat%p) (k^(aX (p-1) 2).2.toNat%p) (if k^(aX (p-1) 2).2.toNat%p≠1 then jY p^(aX (p-1) 2).2.toNat%p else 1)
def sZ(hp:aT p=Á)(h2:p≠2):1<=(aX (p-1) 2).1/\(aX (p-1) 2).2%2=1/\1<=(aX (p-1) 2).2/\(aX (p-1) 2).2.toNat*2^((aX (p-1) 2).1-1).toNat=((p-1)/2).toNat:=by
 have f:=gb hp h2;obtain⟨g,h,a,c⟩:=vO (show(2:Int)<=2 by decide) (show 0<p-1 by lia) (show(2:Int)∣p-1 by lia);obtain⟨b1,b2,b3⟩:=e_ (show(2:Int)<=2 by decide) (show p-1≠0 by lia);refine#[a,.b,.b,?_];generalize (aX (p-1) 2).1=t at *;generalize (aX (p-1) 2).2=o at *;have e:t.toNat=(t-1).toNat+1:=by lia
 rw[e,XS] at b2
 have d:o*2^(t-1).toNat=(p-1)/2:=by
  have:p-1=2*(o*2^(t-1).toNat):=by rw[b2];grind
  lia
 have b:((o.toNat*2^(t-1).toNat:Nat):Int)=o*2^(t-1).toNat:=by
  rw[YT,aa7];rw[show((o.toNat:Nat):Int)=o by lia];rfl
 lia
def yB(hp:aT p=Á)(h2:p≠2)(g:0<=k/\k<p)(b:bh k p=1)(e:NR p):
  Ox p k (aX (p-1) 2).1 (k^(((aX (p-1) 2).2+1)/2).toNat%p) (k^(aX (p-1) 2).2.toNat%p) (if k^(aX (p-1) 2).2.toNat%p≠1 then jY p^(aX (p-1) 2).2.toNat%p else 1):=by
 have h:=gb hp h2;obtain⟨f,i,j,heq⟩:=sZ hp h2;generalize (aX (p-1) 2).1=t at *;generalize (aX (p-1) 2).2=o at *;have bd:∀y:Int,0<=y%p/\y%p<p:=λy=>#[X2 _ .b,XU _ .b];have c:¬p∣k:=λz=>by rw[cZ z] at b;cases b
 refine#[bd _,bd _,?_,f,?_,?_,λhe=>?_]
 .split
  .exact bd _
  .exact#[.a,.b]
 .have h1:Cg p (k^((o+1)/2).toNat%p*(k^((o+1)/2).toNat%p)) (k^((o+1)/2).toNat*k^((o+1)/2).toNat):=iP (dW _ _) (dW _ _);refine cj h1 ?_;rw[<-YS,show((o+1)/2).toNat+((o+1)/2).toNat=o.toNat+1 by lia,XS,Yb];exact iP (iF _ _) (xb (dW _ _))
 .refine cj (ph (dW p _) _) ?_;rw[<-acV,heq];exact(eZ hp h2 c).mp b
 .rw[Xo he];refine cj (ph (dW p _) _) ?_;rw[<-acV,heq];have d:=mj e
  have a:¬p∣jY p:=λz=>by
   have:=d.2.1;rw[cZ z] at this;cases this
  have:=(fU hp h2 a).mp d.2.1;unfold Cg;rw[show ∀y:Int,y - -1=y+1 from λy=>by lia];exact this
def Mv(hp:aT p=Á)(h2:p≠2)(a:0<=k/\k<p)(c:bh k p=1)(b:NR p):(0<=HZ k p/\HZ k p<p)/\Cg p (HZ k p*HZ k p) k:=by
 obtain⟨d,_⟩:=sZ hp h2;exact Cd hp _ _ _ _ _ (yB hp h2 a c b) .b
def xr(k p:Int):Option Int:=if bh k p=-1 then none else if bh k p=0\/p=2 then À (bh k p) else À (HZ (k%p) p)
def tT:xr k p=none↔bh k p=-1:=by
 unfold xr;split
 .rename_i h;exact#[λ_=>h,λ_=>rfl]
 .rename_i h;split
  .exact#[λz=>(Ŝ _ z).elim,λz=>absurd z h]
  .exact#[λz=>(Ŝ _ z).elim,λz=>absurd z h]
def Mh(hp:aT p=Á)(h2:p≠2)(b:NR p)(h:xr k p=À r):(0<=r/\r<p)/\Cg p (r*r) k:=by
 have f:=au hp;unfold xr at h;by_cases h1:bh k p=-1
 .rw[Xo h1] at h;cases h
 .rw[Xl h1] at h;by_cases e:bh k p=0
  .rw[Xo (.inl e)] at h
   have d:r=0:=by
    have:=XJ h;lia
   have i:p∣k:=by
    apply Xt;intro b;rcases bx b with z|z<;>lia
   rw[d];obtain⟨c,j⟩:=i;exact#[#[.a,.b],#[-c,by rw[acU];lia]]
  .rw[Xl (λz=>z.elim e h2)] at h;have d:=XJ h;have a:¬p∣k:=λz=>e (cZ z);have g:bh k p=1:=by rcases bx a with z|z<;>lia
   have:=Mv (k:=k%p) hp h2 #[X2 _ .b,XU _ .b] (by rw[wD];exact g) b;rw[d] at this;exact#[this.1,cj this.2 (dW _ _)]
def n8{n:Int}(h:k∣n*m)(a:Ë k m=1):k∣n:=by
 have:=Int.dvd_mul_gcd_iff_dvd_mul.mpr h;rw[a] at this;simpa using this
def lq(n:Int):Prop:=n≠0/\∀d:Int,2<=d->¬d*d∣n
def mI:lq 1:=#[.a,λd a h=>by
 have:=XH .a h;have:2*2<=d*d:=Yj a a .a .b
 lia]
def rM{n:Int}(h:lq n):lq (-n):=#[by have:=h.1;lia,λd a z=>h.2 d a (YL.mp z)]
def Bi{n:Int}(h:lq n)(a:m∣n):lq m:=#[by rintro rfl;exact h.1 (adb.mp a),λd h2 z=>h.2 d h2 (X7 z a)]
def k7(hp:aT p=Á)(h:¬p∣d):Ë d p=1:=by
 have a:=au hp
 have h1:=eY hp (d:=(Ë d p:Int)) (by
  have:0<Ë d p:=Int.gcd_pos_of_ne_zero_right _ .b
  lia) (Y6 ..)
 rcases h1 with h1|h1
 .lia
 .exact absurd (by rw[<-h1];exact Zu ..) h
def lH{n:Int}(h:lq n)(hp:aT p=Á)(e:¬p∣n):lq (n*p):=#[Xn h.1 (by have:=au hp;lia),λd f z=>by
 have b:=au hp;by_cases a:p∣d
 .obtain⟨c,rfl⟩:=a;have:p*p∣n*p:=X7 #[c*c,by grind] z;exact e (Int.dvd_of_mul_dvd_mul_right .b this)
 .exact h.2 d f (n8 z (k7 hp λw=>by rcases euclid hp w with w|w<;>exact a w))]
def LF(b:Ë r s=1):Ë (s*s) (r*r)=1:=by
 have a:Ë s (r*r)=1:=by rw[Int.gcd_mul_right_right_of_gcd_eq_one (by rw[acv];exact b),acv];exact b
 rw[Int.gcd_mul_right_left_of_gcd_eq_one a];exact a
def By(b:lq f)(c:0<s)(a:Ë r s=1)(h:s*s∣f*(r*r)):s=1:=by
 have h2:s*s∣f:=n8 h (LF a);rcases Y8 s 2 with z|z
 .lia
 .exact absurd h2 (b.2 s z)
def yi{n:Int}(k:lq n)(j:lq f)(o:0<r)(p:0<s)(e:n*(r*r)=f*(s*s)):n=f/\r=s:=by
 obtain⟨g,a,s',h,b,i,es⟩:∃g a s':Int,0<g/\Ë a s'=1/\r=g*a/\s=g*s':=by
  have l:0<Ë r s:=aaU _ .b;refine#[Ë r s,r/Ë r s,s/Ë r s,.b,?_,(aao (Zu ..)).symm,(aao (Y6 ..)).symm];rw[Int.gcd_ediv_gcd_ediv_gcd l]
 subst i es
 have d:0<a:=by
  rcases Y8 0 a with z|z
  .exact z
  .have:=Yk (ZR h) z;lia
 have c:0<s':=by
  rcases Y8 0 s' with z|z
  .exact z
  .have:=Yk (ZR h) z;lia
 have m:n*(a*a)=f*(s'*s'):=by
  have:(g*g)*(n*(a*a))=(g*g)*(f*(s'*s')):=by grind
  exact aci (Xn .b .b) this
 have h1:s'=1:=By k c b #[f,by grind];have h2:a=1:=By j d (by rw[acv];exact b) #[n,by grind];subst h1 h2;exact#[.b,rfl]
def zF(A:Int):Prop:=∀q,aT q=Á->q∣A->q<32768
def JT(l:Int):Prop:=∀q,aT q=Á->q∣l->32768<=q
def oM(h:2<=k):∃q,aT q=Á/\q∣k:=by
 obtain⟨⟨b,a⟩,hp⟩:=pb (k:=k) .b;cases c:pA k with
 |nil=>rw[c] at hp;simp only[pp] at hp;lia
 |cons u us =>
  rw[c] at a hp;refine#[u.1,a.2.1,?_];rw[<-hp,pp];have h1:=a.2.2.1;obtain⟨m,d⟩:∃m,u.2.toNat=m+1:=#[u.2.toNat-1,.b];rw[d,XS];exact#[u.1^m*pp us,by grind]
def Fq{a b:Int}(h:∀q,aT q=Á->q∣a->¬q∣b)(ha:a≠0):Ë a b=1:=by
 have c:0<Ë a b:=aaU _ ha;rcases ade (Ë a b) 2 with z|z
 .lia
 .obtain⟨q,h1,h2⟩:=oM (k:=(Ë a b:Int)) .b;exact absurd (X7 h2 (Y6 ..)) (h q h1 (X7 h2 (Zu ..)))
def wQ(ha:zF A)(c:JT l)(b:l≠0):Ë l A=1:=Fq (λq h1 h2 a=>by have:=ha q h1 a;have:=c q h1 h2;lia) b
def kY(ha:zF A)(a:zF B):zF (A*B):=λq h1 h2=>by rcases euclid h1 h2 with z|z;exact ha q h1 z;exact a q h1 z
def Kj(ha:JT A)(a:JT B):JT (A*B):=λq h1 h2=>by rcases euclid h1 h2 with z|z;exact ha q h1 z;exact a q h1 z
def vW(a:0<A)(h:A<32768):zF A:=λq _ h2=>by have:=XH a h2;lia
def JW:JT 1:=λq h1 h2=>by have:=XH .a h2;have:=au h1;lia
theorem BQ{q:Int}(a:aT q=Á)(h:q<32768):∀n:Nat,zF (q^n)
 |0=>λr h1 h2=>by rw[Yc] at h2;have:=XH .a h2;have:=au h1;lia
 |n+1=>by
  rw[XS];exact kY (BQ a h n) λr h1 h2=>by have:=XH (by have:=au a;lia) h2;lia
def nE{b:Int}(g:0<l)(h:l%2=1)(b3:3<=b)(i:b%2=1)(e:∀d,3<=d->d<b->d%2=1->¬d∣l)(f:p4 l b 32768=none):∀d,3<=d->d<32768->d*d<=l->d%2=1->¬d∣l:=λd h1 h2 c a=>by
 rcases Y8 d b with z|z
 .exact e d h1 z a
 .exact xJ .b .b f d z h2 c .b
def tf{b:Int}{fs:List (Int×Int)}(I:Af k fs l b)(f:p4 l b 32768=none)(h1:1<l)(h2:l<1073741824):aT l=Á/\b<=l:=by
 have e:=nE I.pos I.odd I.b3 I.bo I.free f;have a:=I.odd;refine#[bY.mpr (.inr #[.b,a,λd g h c=>e d g ?_ h c]),?_]
 .rcases Y8 d 32768 with z|z
  .exact z
  .have:32768*32768<=d*d:=Yj z z .a .b;lia
 .rcases Y8 l b with z|z
  .exact absurd (ZD l) (I.free l .b z a)
  .exact z
def tE{b:Int}{fs:List (Int×Int)}(I:Af k fs l b)(d:p4 l b 32768=none)(h:1073741824<=l):JT l:=λq h1 h2=>by
 have c:=nE I.pos I.odd I.b3 I.bo I.free d;rcases Y8 q 32768 with z|z
 .rcases bY.mp h1 with w|⟨a,e,f⟩
  .subst w;have:=I.odd;lia
  .have:q*q<=32768*32768:=Yj .b .b .b .a;exact absurd h2 (c q a z .b e)
 .exact z
theorem vv{k e:Int}:∀(n:Nat) (fs:List (Int×Int)) (l b:Int),Af k fs l b->(∀u∈fs,u.1<e)->∀u∈(CK e n fs l b).1,u.1<e
 |0,fs,l,b,I,h=>h
 |n+1,fs,l,b,I,h=>by
  unfold CK;cases a:p4 l b e with
  |none=>exact h
  |some d =>
   refine vv n _ _ _ (I.step a) λu c=>?_;rcases Yf.mp c with z|z
   .exact h u z
   .have:=j8 (ZR I.pos) (by have:=I.b3;lia) a;simp only[XX] at z;subst z;exact this.2.1
def tI(b:1<=k)(he:2<e):∀u∈(bF k e).1,u.1<e:=by
 refine vv _ _ _ _ (oP b).1 λu a=>?_;unfold yH at a;split at a
 .simp only[XX] at a;subst a;exact he
 .cases a
theorem jb:∀{us:List (Int×Int)} {a b:Int},gj a us b->∀u∈us,aT u.1=Á/\1<=u.2
 |u::us,a,b,h,v,c=>by
  rcases Xm.mp c with z|z
  .subst z;exact#[h.2.1,h.2.2.1]
  .exact jb h.2.2.2 v z
theorem Bf:∀{us:List (Int×Int)},(∀u∈us,aT u.1=Á/\u.1<32768)->zF (pp us)
 |[],_=>λq h1 h2=>by have b:q∣1:=h2;have:=XH .a b;have:=au h1;lia
 |u::us,h=>kY (BQ (h u (XA ..)).1 (h u (XA ..)).2 _) (Bf λv a=>h v (Xx _ a))
def AO(f:1<=s):∃A L,zF A/\JT L/\0<A/\0<L/\s=A*L:=by
 obtain⟨b,I,d⟩:=kT (k:=s) (e:=32768) f;have a:zF (pp (bF s 32768).1):=Bf λu g=>#[(jb I.rise u g).1,tI f .a u g];have hp:=jr .a I.rise;have c:=I.pos;by_cases h1:(bF s 32768).2<32768
 .exact#[s,1,by rw[<-I.prod];exact kY a (vW c h1),JW,.b,.a,.b]
 .refine#[_,_,a,?_,hp,c,I.prod.symm];by_cases h2:(bF s 32768).2<1073741824
  .have:=tf I d .b h2;intro q q1 h;rcases eY this.1 (by have:=au q1;lia) h with z|z
   .have:=au q1;lia
   .lia
  .exact tE I d .b
def MD{L:Int}(a:zF A)(b:zF B)(d:JT l)(f:JT L)(g:0<l)(h1:0<L)(e:A*l=B*L):l=L:=by
 have h:l∣L:=n8 (k:=l) (n:=L) (m:=B) #[A,by grind] (wQ b d .b);have c:L∣l:=n8 (k:=L) (n:=l) (m:=A) #[B,by grind] (wQ a f .b);have:=XH h1 h;have:=XH g c;lia
def Tame(k:Int):Prop:=(∃f s,zF f/\0<f/\1<=s/\k=f*(s*s))\/(∃f P,zF f/\0<f/\aT P=Á/\P<1073741824/\k=f*P)
def DK{b:Int}{fs:List (Int×Int)}(h:Tame k)(x:1<=k)(I:Af k fs l b)(r:∀u∈fs,u.1<32768)(t:p4 l b 32768=none):l<1073741824\/rt l*rt l=l:=by
 rcases Y8 l 1073741824 with z|z
 .exact .inl z
 have p:=tE I t z;have d:zF (pp fs):=Bf λu q=>#[(jb I.rise u q).1,r u q];have a:=I.prod;rcases h with⟨f,s,h1,h2,c,g⟩|⟨f,P,h1,h2,c,g,B⟩
 .obtain⟨A,L,j,i,y,o,v⟩:=AO c;have e:l=L*L:=MD d (kY h1 (kY j j)) p (Kj i i) .b (Yq o o) (by rw[a,g,v];grind);right;have:L=rt l:=kX .b .b (by rw[e];grind);rw[<-this,e]
 .have w:l∣P:=n8 (k:=l) (n:=P) (m:=f) #[pp fs,by grind] (wQ h1 p .b);have:=XH (by have:=au c;lia) w;lia
noncomputable def nK(c:Int×Int)(u:Int×Int):Int×Int:=(if u.2%2=1 then c.1*u.1 else c.1,c.2*u.1^(u.2/2).toNat)
theorem Aa:∀{us:List (Int×Int)} {a b:Int} {c:Int×Int},gj a us b->lq c.1->(∀q,aT q=Á->a<q->¬q∣c.1)->0<c.2 ->
  lq (us.foldl nK c).1/\0<(us.foldl nK c).2/\(us.foldl nK c).1*((us.foldl nK c).2*(us.foldl nK c).2)=c.1*(c.2*c.2)*pp us
 |[],a,b,c,_,f,_,i=>#[f,i,by simp[pp]]
 |u::us,a,b,c,v,f,g,i=>by
  obtain⟨m,h,w,n⟩:=v;have p:=au h;have e:0<u.1^(u.2/2).toNat:=Yx .b
  have o:lq (nK c u).1:=by
   unfold nK;dsimp only;split
   .exact lH f h (g _ h m)
   .exact f
  have l:∀q,aT q=Á->u.1<q->¬q∣(nK c u).1:=λq h1 h2 d=>by
   unfold nK at d;dsimp only at d;split at d
   .rcases euclid h1 d with z|z
    .exact g q h1 .b z
    .have:=XH .b z;lia
   .exact g q h1 .b d
  have k:0<(nK c u).2:=Yq i e;obtain⟨t,r,s⟩:=Aa (c:=nK c u) n o l k;refine#[t,r,?_];rw[acK,s,pp]
  have j:(if u.2%2=1 then u.1 else 1)*(u.1^(u.2/2).toNat*u.1^(u.2/2).toNat)=u.1^u.2.toNat:=by
   rw[<-YS];by_cases z:u.2%2=1
   .rw[Xo z,show u.2.toNat=((u.2/2).toNat+(u.2/2).toNat)+1 by lia,XS,Yb]
   .rw[Xl z,Yp,show u.2.toNat=(u.2/2).toNat+(u.2/2).toNat by lia]
  unfold nK;dsimp only;rw[<-j];generalize u.1^(u.2/2).toNat=y;split<;>grind
def qt(k:Int):List (Int×Int)×Int :=
 if 1<(bF k 32768).2/\(bF k 32768).2<1073741824 then ((bF k 32768).1++[((bF k 32768).2,1)],1) else ((bF k 32768).1,rt (bF k 32768).2)
def AH(d:1<=k)(j:Tame k):(1<(bF k 32768).2/\(bF k 32768).2<1073741824\/rt (bF k 32768).2*rt (bF k 32768).2=(bF k 32768).2)/\(∃b,gj 1 (qt k).1 b)/\0<(qt k).2/\pp (qt k).1*((qt k).2*(qt k).2)=k:=by
 obtain⟨b,I,g⟩:=kT (k:=k) (e:=32768) d;have h:=DK j d I (tI d .a) g;have f:=I.pos;have a:=I.prod;unfold qt;by_cases h1:1<(bF k 32768).2/\(bF k 32768).2<1073741824
 .rw[Xo h1];obtain⟨i,p2⟩:=tf I g h1.1 h1.2;refine#[.inl h1,#[_,gj.snoc i (by dsimp only;decide) p2 (b':=(bF k 32768).2+1) .d I.rise],by dsimp only;decide,?_];dsimp only;rw[rn];dsimp only;rw[show(1:Int).toNat=1 from rfl,XS,Yc,Yp,X0,X0,a]
 .rw[Xl h1]
  have c:rt (bF k 32768).2*rt (bF k 32768).2=(bF k 32768).2:=by
   rcases h with z|z
   .have e1:(bF k 32768).2=1:=by lia
    rw[e1];have:(1:Int)=rt 1:=kX .a .a .a;rw[<-this];rfl
   .exact z
  have l:=iX (bF k 32768).2;refine#[.inr c,#[b,I.rise],?_,?_]
  .dsimp only;rcases aac l with z|z
   .exact z
   .rw[<-z] at c;lia
  .dsimp only;rw[c,a]
def JV(t b:Int):Int×Int:=(qt (t.natAbs*b)).1.foldl nK (if 0<t then 1 else -1,(qt (t.natAbs*b)).2)
def F8{t b:Int}(x:t≠0)(h:0<b)(a:Tame (t.natAbs*b))(i:lq f)(v:0<s)(e:t*b=f*(s*s)):JV t b=(f,s):=by
 have j:1<=(t.natAbs:Int)*b:=by
  have:0<(t.natAbs:Int)*b:=Yq .b h;lia
 obtain⟨_,⟨b',r⟩,w,hp⟩:=AH j a;have p:lq (if 0<t then (1:Int) else -1):=by split;exact mI;exact rM mI
 have k:∀q,aT q=Á->1<q->¬q∣(if 0<t then (1:Int) else -1):=λq h1 h2 d=>by
  split at d
  .have:=XH .a d;lia
  .have:=XH .a (YL.mp d);lia
 obtain⟨m,l,o⟩:=Aa (c:=(if 0<t then (1:Int) else -1,(qt (t.natAbs*b)).2)) r p k w
 have n:(JV t b).1*((JV t b).2*(JV t b).2)=f*(s*s):=by
  show((qt (t.natAbs*b)).1.foldl nK _).1*(((qt (t.natAbs*b)).1.foldl nK _).2*((qt (t.natAbs*b)).1.foldl nK _).2)=_;rw[o,<-e];dsimp only;rw[show(if 0<t then (1:Int) else -1)*((qt (t.natAbs*b)).2*(qt (t.natAbs*b)).2)*pp (qt (t.natAbs*b)).1=(if 0<t then (1:Int) else -1)*(pp (qt (t.natAbs*b)).1*((qt (t.natAbs*b)).2*(qt (t.natAbs*b)).2)) by grind,hp];by_cases z:0<t
  .rw[Xo z,show(t.natAbs:Int)=t by lia];lia
  .rw[Xl z,show(t.natAbs:Int)=-t by lia];grind
 obtain⟨u,g⟩:=yi m i l v n;exact acr u g
def bQ{a:Int}(hp:2<=p)(h:¬p∣a):cls a p=(0,if p=2 then a%8 else bh a p):=by
 unfold cls;rw[mH hp h];rfl
def yC(hp:aT p=Á)(b:x≠0)(c:cls y p=(0,1)):aA x y p=Á:=by
 have a:=au hp;by_cases h2:p=2
 .subst h2;rw[aW,c];exact Ge _ (cW b) (0,1) .a
 .rw[bf .b h2,c];exact KH _ (cI a h2 b) (0,1) .a _ (sH a)
def ED{a:Int}(hp:aT p=Á)(h:¬p∣a):bh (a*a) p=1:=by
 rw[cX hp];rcases bx h with z|z<;>rw[z]<;>rfl
def Nh:∀c∈CO,∀a∈[(1:Int),-1],∀b∈[(1:Int),-1],lx (bj (0,a) c 3) (bj (0,b) c 3) (a*b)=Á:=.a
def MT:∀a∈[(1:Int),3,5,7],∀b∈[(1:Int),3,5,7],fG (bj (1,a) (0,(b+2*a)%8) 2) (bj (0,b) (0,(b+2*a)%8) 2)=Á:=.a
def NW:∀a∈[(1:Int),3,5,7],∀b∈[(1:Int),3,5,7],fG (bj (0,a) (0,(b+4)%8) 2) (bj (0,b) (0,(b+4)%8) 2)=Á:=.a
def NF:∀c∈C2,∀b∈[(1:Int),3,5,7],fG (bj c (0,b) 2) (bj (0,b) (0,b) 2)=Á:=.a
def LY:∀c∈[(1:Int),3,5,7],∀a∈[(1:Int),3,5,7],fG (bj (0,a) (1,c) 2) (bj (0,(2*c-a)%8) (1,c) 2)=Á:=.a
def ML:∀c∈[(1:Int),3,5,7],∀a∈[(1:Int),3,5,7],fG (bj (0,a) (0,c) 2) (bj (0,(4-a)%8) (0,c) 2)=Á:=.a
def MY:∀c∈C2,∀a∈[(1:Int),3,5,7],fG (bj (0,a) c 2) (bj (0,(0-a)%8) c 2)=Á:=.a
def uj(h:u%2=1):u%8∈[(1:Int),3,5,7]:=by
 have:u%8=1\/u%8=3\/u%8=5\/u%8=7:=by lia
 rcases this with z|z|z|z<;>rw[z]<;>decide
def yK{X:Int}(f:X≠0)(h:X%2=0):(∃x,x%2=1/\X=2*x/\cls X 2=(1,x%8))\/(∃x,x%2=1/\X=4*x/\cls X 2=(0,x%8))\/X%8=0:=by
 obtain⟨h1,h2,g⟩:=e_ (d:=2) .a f;have a:(aX X 2).2%2=1:=by lia
 have b:cls X 2=((aX X 2).1%2,(aX X 2).2%8):=rfl;generalize (aX X 2).2=x at *;generalize (aX X 2).1=v at *
 have c:v.toNat=0\/v.toNat=1\/v.toNat=2\/∃m,v.toNat=m+3:=by
  rcases ade v.toNat 3 with z|z
  .lia
  .exact .inr (.inr (.inr #[v.toNat-3,.b]))
 rcases c with e|e|e|⟨m,e⟩
 .rw[e] at h2;lia
 .rw[e] at h2;exact .inl #[x,a,.b,by rw[b,show v=1 by lia];rfl]
 .rw[e] at h2;exact .inr (.inl #[x,a,.b,by rw[b,show v=2 by lia];rfl])
 .rw[e,YS] at h2;right;right;have:(2:Int)^3=8:=by decide
  rw[this,<-X6] at h2;rw[h2];exact Int.mul_emod_left ..
def Jm(b:A≠0)(e:B≠0)(a:A+B≠0)(h:¬(A%2=0/\B%2=0)):aA (A*(A+B)) (B*(A+B)) 2=Á:=by
 have key:∀A B:Int,A≠0->A%2=0->B%2=1->A+B≠0->aA (A*(A+B)) (B*(A+B)) 2=Á:=λA B b ha d a=>by
  have e:B≠0:=by lia
  have cB:cls B 2=(0,B%8):=by rw[bQ .a .b];rfl
  have g:cls (A+B) 2=(0,(A+B)%8):=by rw[bQ .a .b];rfl
  rw[aW,aN aR b a,aN aR e a,cB,g];rcases yK b ha with⟨x,h1,h2,c⟩|⟨x,h1,h2,c⟩|h1
  .rw[c,show(A+B)%8=(B%8+2*(x%8))%8 by lia];exact MT _ (uj h1) _ (uj d)
  .rw[c,show(A+B)%8=(B%8+4)%8 by lia];exact NW _ (uj h1) _ (uj d)
  .rw[show(A+B)%8=B%8 by lia];exact NF _ (cW b) _ (uj d)
 rcases Zm A with ha|ha
 .exact key A B b ha .b a
 .rcases Zm B with d|d
  .have:=key B A e d ha .b;rw[adf] at this;rw[bC (.inr aR) (Xn e a) (Xn b a)];exact this
  .have f:cls A 2=(0,A%8):=by rw[bQ .a .b];rfl
   have cB:cls B 2=(0,B%8):=by rw[bQ .a .b];rfl
   rw[aW,aN aR b a,aN aR e a,f,cB];rcases yK a .b with⟨x,h1,h2,c⟩|⟨x,h1,h2,c⟩|h1
   .rw[c,show B%8=(2*(x%8)-A%8)%8 by lia];exact LY _ (uj h1) _ (uj ha)
   .rw[c,show B%8=(4-A%8)%8 by lia];exact ML _ (uj h1) _ (uj ha)
   .rw[show B%8=(0-A%8)%8 by lia];exact MY _ (cW a) _ (uj ha)
def JL(hp:aT p=Á)(h2:p≠2)(f:A≠0)(g:B≠0)(d:A+B≠0)(h:¬(p∣A/\p∣B)):aA (A*(A+B)) (B*(A+B)) p=Á:=by
 have b:=au hp
 have key:∀A B:Int,A≠0->B≠0->A+B≠0->p∣A->¬p∣B->aA (A*(A+B)) (B*(A+B)) p=Á:=λA B f g d ha c=>by
  have a:¬p∣A+B:=λz=>c (by have:=ZG z ha;rwa [show A+B-A=B by lia] at this);refine yC hp (Xn f d) ?_;rw[bQ b (λz=>by rcases euclid hp z with w|w;exact c w;exact a w),Xl h2];rw[om (l:=B*B) (vE.mpr (by rw[show B*(A+B)-B*B=A*B by grind];exact X7 ha #[B,rfl])),ED hp c]
 by_cases ha:p∣A
 .exact key A B f g d ha λz=>h #[ha,z]
 .by_cases c:p∣B
  .have:=key B A g f .b c ha;rw[adf] at this;rw[bC (.inr hp) (Xn g d) (Xn f d)];exact this
  .by_cases a:p∣A+B
   .have e:bh A p*bh B p=bh (-1) p:=by
     rw[<-cX hp,om (l:=-1*(A*A)) (vE.mpr (by rw[show A*B - -1*(A*A)=A*(A+B) by grind];exact X7 a #[A,Yb ..])),cX hp,ED hp ha,X0]
    rw[bf .b h2,aN hp f d,aN hp g d,bQ b ha,bQ b c,Xl h2,Xl h2,bW h2,bW h2,<-e];refine Nh _ (cI b h2 d) _ ?_ _ ?_
    .rcases bx ha with z|z<;>rw[z]<;>decide
    .rcases bx c with z|z<;>rw[z]<;>decide
   .exact k6 hp h2 (λz=>by rcases euclid hp z with w|w;exact ha w;exact a w) (λz=>by rcases euclid hp z with w|w;exact c w;exact a w)
def iZ{a b:Int}(h:Pl p)(ha:a≠0)(c:b≠0)(d:r≠0):aA a (b*r*r) p=aA a b p:=by
 rw[bC h (Xn (Xn c d) d) ha,mN h c d,bC h ha c]
theorem uy{p:Int}(hp:aT p=Á):∀(n:Nat) (A B:Int),A.natAbs<=n->A≠0->B≠0->A+B≠0->aA (A*(A+B)) (B*(A+B)) p=Á
 |0,A,B,l,d,e,g=>by lia
 |n+1,A,B,l,d,e,g=>by
  have k:=au hp;by_cases i:p∣A/\p∣B
  .obtain⟨⟨a,ha⟩,⟨b,j⟩⟩:=i;subst ha j;have h1:a≠0:=λz=>d (by rw[z,Yd]);have h2:b≠0:=λz=>e (by rw[z,Yd]);have f:a+b≠0:=λz=>g (by rw[<-ZE,z,Yd])
   have h:a.natAbs<=n:=by
    have:(p*a).natAbs=p.natAbs*a.natAbs:=XZ ..;have o:2*a.natAbs<=p.natAbs*a.natAbs:=aan _ .b;lia
   have m:=uy hp n a b h h1 h2 f;have c:p≠0:=by lia
   rw[show p*a*(p*a+p*b)=a*(a+b)*p*p by grind,show p*b*(p*a+p*b)=b*(a+b)*p*p by grind,
    mN (.inr hp) (Xn h1 f) c,iZ (.inr hp) (Xn h1 f) (Xn h2 f) c]
   exact m
  .by_cases h2:p=2
   .subst h2;exact Jm d e g λz=>i #[XM z.1,XM z.2]
   .exact JL hp h2 d e g i
def Ex(hp:Pl p)(b:A≠0)(c:B≠0)(a:A+B≠0):aA (A*(A+B)) (B*(A+B)) p=Á:=by
 rcases hp with rfl|hp
 .rw[aO]
  have:0<(A+B)*(A+B):=by
   rcases YF a with z|z
   .exact ZM z z
   .exact Yq z z
  rw[Int.add_mul] at this;by_cases z:0<A*(A+B)
  .simp[z]
  .have:0<B*(A+B):=by omega
   simp[this]
 .exact uy hp _ A B (Xu _) b c a
def Hh{a b w:Int}(hp:Pl p)(ha:a≠0)(f:b≠0)(c:w≠0)(e:a*x*x+b*y*y=w):aA (a*w) (b*w) p=Á:=by
 by_cases g:x=0
 .subst g;have h:w=b*y*y:=by rw[<-e];grind
  have d:y≠0:=by rintro rfl;exact c (by rw[h];grind)
  rw[show b*w=(b*y)*(b*y) by rw[h];grind];exact tQ hp (Xn ha c) (Xn f d)
 .by_cases d:y=0
  .subst d;have h:w=a*x*x:=by rw[<-e];grind
   rw[bC hp (Xn f c) (Xn ha c),show a*w=(a*x)*(a*x) by rw[h];grind];exact tQ hp (Xn f c) (Xn ha g)
  .have:=Ex (A:=a*x*x) (B:=b*y*y) hp (Xn (Xn ha g) g) (Xn (Xn f d) d) (by rw[e];exact c);rw[e,show a*x*x*w=a*w*x*x by grind,show b*y*y*w=b*w*y*y by grind,mN hp (Xn ha c) g,iZ hp (Xn ha c) (Xn f c) d] at this;exact this
def uZ{a b:Int}(h:Pl p)(ha:a≠0)(e:b≠0)(d:c≠0):aA (a*b) c p=(aA a c p==aA b c p):=by
 rw[bC h d (Xn ha e),dn h d ha e,bC h ha d,bC h e d]
def pS{a:Int}(h:Pl p)(ha:a≠0):aA a a p=aA a (-1) p:=by
 have h1:=sI h ha;rw[show(0:Int)-a=-1*a by lia,dn h ha .a ha] at h1;have:=eq_of_beq h1;exact this.symm
def tZ(a b c p:Int):Bool:=aA (-a*c) (-b*c) p
def Ly(k p:Int):Prop:=cls k p=(0,1)
noncomputable instance{k p:Int}:Decidable (Ly k p):=inferInstanceAs (Decidable (cls k p=(0,1)))
def jt{P:Int->Prop}{a:Int}{l:List Int}:(∃x,x∈a::l/\P x)↔P a\/∃x,x∈l/\P x:=by
 constructor
 .rintro⟨x,h,q⟩;rcases Xm.mp h with z|z
  .subst z;exact .inl q
  .exact .inr #[x,z,q]
 .rintro(q|⟨x,h,q⟩)
  .exact#[a,XA ..,q]
  .exact#[x,Xx _ h,q]
noncomputable def DX:List Int->Int
 |[]=>0
 |[a]=>a
 |a::l=>if DX l<a then DX l else a
noncomputable def DY:List Int->Int
 |[]=>0
 |[a]=>a
 |a::l=>if a<DY l then DY l else a
theorem Bs:∀l:List Int,DX l<0↔∃x∈l,x<0
 |[]=>by simp[DX]
 |[a]=>by simp[DX]
 |a::b::l=>by
  have c:=Bs (b::l);unfold DX;rw[jt,<-c];split<;>omega
theorem BN:∀l:List Int,0<DY l↔∃x∈l,0<x
 |[]=>by simp[DY]
 |[a]=>by simp[DY]
 |a::b::l=>by
  have c:=BN (b::l);unfold DY;rw[jt,<-c];split<;>omega
def bZ(l:List Int)(p:Int):Bool:=if p=0 then decide (DX l<0)&&decide (0<DY l) else match l with
 |[]=>Á
 |[_]=>Â
 |[a,b]=>decide (Ly (-a*b) p)
 |[a,b,c]=>tZ a b c p
 |[a,b,c,d]=>!(decide (Ly (a*b*c*d) p)) || tZ a b c p
 |_=>Á
def i7{l:List Int}(b:p≠0)(a:5<=l.length):bZ l p=Á:=by
 unfold bZ;rw[Xl b]
 match l,a with
 |_::_::_::_::_::_,_=>rfl
def rP{a:Int}(b:p≠0):bZ [a] p=Â:=by unfold bZ;rw[Xl b]
def rj{a b:Int}(c:p≠0):bZ [a,b] p=decide (Ly (-a*b) p):=by unfold bZ;rw[Xl c]
def da{a b:Int}(d:p≠0):bZ [a,b,c] p=tZ a b c p:=by unfold bZ;rw[Xl d]
def gR{a b:Int}(e:p≠0):bZ [a,b,c,d] p=(!(decide (Ly (a*b*c*d) p)) || tZ a b c p):=by unfold bZ;rw[Xl e]
def bU{l:List Int}:bZ l 0=Á↔(∃x∈l,x<0)/\∃x∈l,0<x:=by
 unfold bZ;rw[Xo rfl,X8,YR,YR,Bs,BN]
noncomputable def eA:List Int->List Int->Int
 |a::l,x::xs=>a*x*x+eA l xs
 |_,_=>0
noncomputable def ev:List Int->Int->Int
 |[],_=>0
 |c::cs,x=>c+x*ev cs x
noncomputable def qo(r:Int):List Int->List Int
 |[]=>[]
 |[_]=>[]
 |_::d::cs=>ev (d::cs) r::qo r (d::cs)
theorem Gn(r:Int):∀(c:Int) (cs:List Int),(qo r (c::cs)).length=cs.length
 |_,[]=>rfl
 |_,d::cs=>by simp only[qo,Yl];rw[Gn r d cs]
theorem Cz(r:Int):∀(c d:Int) (cs:List Int),(qo r (c::d::cs)).getLast?=(c::d::cs).getLast?
 |c,d,[]=>by simp[qo,ev]
 |c,d,e::cs=>by
  have a:=Cz r d e cs;have h1:qo r (c::d::e::cs)=ev (d::e::cs) r::qo r (d::e::cs):=rfl;rw[h1,acH,<-a];have h2:qo r (d::e::cs)=ev (e::cs) r::qo r (e::cs):=rfl;rw[h2,acH]
theorem K4(r x:Int):∀cs:List Int,ev cs x-ev cs r=(x-r)*ev (qo r cs) x
 |[]=>by simp[ev,qo]
 |[c]=>by simp[ev,qo]
 |c::d::cs=>by
  have a:=K4 r x (d::cs);have h1:qo r (c::d::cs)=ev (d::cs) r::qo r (d::cs):=rfl;rw[h1];have e1:ev (c::d::cs) x=c+x*ev (d::cs) x:=rfl;have e2:ev (c::d::cs) r=c+r*ev (d::cs) r:=rfl;have e3:ev (ev (d::cs) r::qo r (d::cs)) x=ev (d::cs) r+x*ev (qo r (d::cs)) x:=rfl;rw[e1,e2,e3];generalize ev (d::cs) x=u at *;generalize ev (d::cs) r=v at *;generalize ev (qo r (d::cs)) x=t at *;grind
theorem Qh{p:Int}(hp:aT p=Á):∀(f cs:List Int),cs.length<=f.length->f.Pairwise (λa b=>¬p∣a-b)->(∀r∈f,p∣ev cs r)->∀c,cs.getLast?=À c->p∣c
 |_,[],_,_,_,c,o=>by simp at o
 |[],_::_,h,_,_,_,_=>by simp at h
 |r::f,[c],_,_,g,d,j=>by
  have:=g r (XA ..);simp[ev] at this;simp at j;rw[<-j];exact this
 |r::f,c::d::cs,n,i,g,e,he=>by
  obtain⟨h1,h2⟩:=Zb.mp i;refine Qh hp f (qo r (c::d::cs)) (by rw[Gn];simpa using n) h2 (λs l=>?_) e (by rw[Cz];exact he);have m:=g s (Xx _ l);have q:=g r (XA ..);have k:=ZG m q;rw[K4] at k;rcases euclid hp k with z|z
  .exact absurd (by rw[show r-s=-(s-r) by lia];exact YL.mpr z) (h1 s l)
  .exact z
noncomputable def xn(n:Nat):List Int:=-1::(Ê n 0++[1])
theorem Eb(x:Int):∀n:Nat,ev (Ê n 0++[1]) x=x^n
 |0=>by simp[ev]
 |n+1=>by
  rw[YW,aaX];show 0+x*ev (Ê n 0++[1]) x=_;rw[Eb x n,XS,Yb];lia
def K3(hp:aT p=Á)(h2:p≠2):∃g,2<=g/\g<p/\bh g p=-1:=by
 have u:=gb hp h2;have k:=au hp;apply Xt;intro l
 have c:∀g:Int,1<=g->g<p->p∣g^((p-1)/2).toNat-1:=λg v f=>by
  have e:¬p∣g:=λz=>by have:=XH .b z;lia
  refine(eZ hp h2 e).mp ?_;rcases bx e with z|z
  .exact z
  .refine absurd #[g,?_,f,z] l;rcases Y8 g 2 with w|w
   .have:g=1:=by lia
    subst this;rw[gT hp h2 #[0,.b]] at z;cases z
   .exact w
 obtain⟨m,t⟩:∃m:Nat,((p-1)/2).toNat=m+1:=#[((p-1)/2).toNat-1,.b]
 have h1:=Qh hp ((Ô (p-1).toNat).map λi:Nat=>(i:Int)+1) (xn m) (by simp[xn];lia) (by
   rw[ZX];refine ZS ?_ (aaw (n:=(p-1).toNat));intro a b ha j d z;have q:=Yu.mp ha;have h:=Yu.mp j;have:=cf z .b .b
   exact d .b) (λr s=>by
   obtain⟨i,hi,rfl⟩:=XF.mp s;have o:=Yu.mp hi;have:=c ((i:Int)+1) .b .b;rw[t] at this;show p∣-1+((i:Int)+1)*ev (Ê m 0++[1]) _;rw[Eb,Yb,<-XS];rw[show -1+((i:Int)+1)^(m+1)=((i:Int)+1)^(m+1)-1 by lia]
   exact this) 1 (by show((-1::Ê m 0)++[1]).getLast?=À 1;exact List.getLast?_concat)
 have:=XH .a h1;lia
noncomputable def P8:List Int:=[2,3,5,7,11,13,17,19]
def sd:∀r∈P8,aT r=Á:=by
 intro r a;simp only[P8,Xm,Xr,XT] at a;rcases a with rfl|rfl|rfl|rfl|rfl|rfl|rfl|rfl
 .exact aR
 .exact g6 (m:=0) (n:=3) .a .a .a .a
 .exact g6 (m:=0) (n:=5) .a .a .a .a
 .exact g6 (m:=0) (n:=7) .a .a .a .a
 .exact g6 (m:=1) (n:=11) .a .a .a .a
 .exact g6 (m:=1) (n:=13) .a .a .a .a
 .exact g6 (m:=1) (n:=17) .a .a .a .a
 .exact g6 (m:=1) (n:=19) .a .a .a .a
def ur(u:Int×Int):Int×(Int×Int):=((JV u.1 u.2).1,fr (JV u.1 u.2).2 u.2)
theorem A7:∀(a b:List (Int×Int)),pp (a++b)=pp a*pp b
 |[],b=>by simp[pp]
 |u::a,b=>by rw[aaX,pp,pp,A7 a b,X6]
theorem o5:∀{us:List (Int×Int)} {a b:Int},gj a us b->∀i,∃b',gj a (us.take i) b'
 |us,a,b,h,0=>#[a+1,by rw[abR];show a<a+1;lia]
 |[],a,b,h,i+1=>#[b,h]
 |u::us,a,b,h,i+1=>by
  obtain⟨b',h'⟩:=o5 h.2.2.2 i;exact#[b',h.1,h.2.1,h.2.2.1,h']
theorem o9:∀{us:List (Int×Int)} {a b:Int},gj a us b->∀i,∃a',gj a' (us.drop i) b/\a<=a'
 |us,a,b,h,0=>#[a,h,Yv _]
 |[],a,b,h,i+1=>#[a,h,Yv _]
 |u::us,a,b,h,i+1=>by
  obtain⟨a',h',c⟩:=o9 h.2.2.2 i;exact#[a',h',by have:=h.1;lia]
def jq{a b:Int}(ha:0<a)(c:1<=b):a<=a*b:=by
 have:a*1<=a*b:=XB c .b;lia
def J6{us:List (Int×Int)}{b sg R:Int}(m:gj 1 us b)(g:0<R)(j:sg=1\/sg=-1)(i:Nat):
  ((us.take i).foldl nK (sg,R)).1.natAbs<=(pp us*(R*R)).natAbs/\0<((us.take i).foldl nK (sg,R)).2/\((us.take i).foldl nK (sg,R)).2<=pp us*(R*R):=by
 obtain⟨b',h'⟩:=o5 m i;obtain⟨f,h,u⟩:=o9 m i;have p:lq sg:=by rcases j with z|z<;>rw[z];exact mI;exact rM mI
 have r:∀q,aT q=Á->1<q->¬q∣sg:=λq h1 h2 a=>by
  rcases j with z|z
  .rw[z] at a;have:=XH .a a;lia
  .rw[z] at a;have:=XH .a (YL.mp a);lia
 obtain⟨o,d,l⟩:=Aa (c:=(sg,R)) h' p r g;have e:pp us=pp (us.take i)*pp (us.drop i):=by rw[<-A7,YA]
 have n:=jr .a h';have p2:=jr (show 0<=f by lia) h;have RR:=Yq g g;dsimp only at l;generalize (us.take i).foldl nK (sg,R)=c at *
 have t:(c.1.natAbs:Int)*(c.2*c.2)=pp (us.take i)*(R*R):=by
  have h1:0<c.2*c.2:=Yq d d;have h2:0<pp (us.take i)*(R*R):=Yq n RR;generalize c.2*c.2=X at *;generalize R*R=σ at *;generalize pp (us.take i)=Z at *;have a:=congrArg Int.natAbs l;rw[XZ,XZ,XZ,show sg.natAbs=1 by rcases j with z|z<;>rw[z]<;>rfl,Nat.one_mul] at a;have k:((c.1.natAbs*X.natAbs:Nat):Int)=((σ.natAbs*Z.natAbs:Nat):Int):=by rw[a]
  rw[YT,YT,show(X.natAbs:Int)=X by lia,show(σ.natAbs:Int)=σ by lia,show(Z.natAbs:Int)=Z by lia] at k;rw[k,Yb]
 have v:pp (us.take i)*(R*R)<=pp us*(R*R):=by
  rw[e];exact Yt (jq n .b) .b
 have s:0<(c.1.natAbs:Int):=by have:=o.1;lia
 have c2:0<c.2*c.2:=Yq d d;have m1:=jq s (show 1<=c.2*c.2 by lia);have m2:c.2*c.2<=(c.1.natAbs:Int)*(c.2*c.2):=by rw[Yb (c.1.natAbs:Int)];exact jq c2 .b
 have m3:=jq d (show 1<=c.2 by lia);exact#[.b,d,.b]
def JH{us:List (Int×Int)}{b:Int}(h:gj 1 us b){u:Int×Int}(a:us[i]?=À u):2<=u.1/\1<=u.2/\u.1^(u.2/2).toNat<=pp us/\u.1<=pp us/\(u.2:Int)<pp us:=by
 have k:=jb h u (Xs a);have h2:=au k.1;have hi:i<us.length:=(Xy.mp a).1
 have e:us.drop i=u::us.drop (i+1):=by
  rw[aa8 hi];rw[Xz hi] at a;rw[XJ a]
 obtain⟨b',h'⟩:=o5 h i;obtain⟨c,f,r⟩:=o9 h (i+1)
 have e2:pp us=pp (us.take i)*(u.1^u.2.toNat*pp (us.drop (i+1))):=by
  have:pp us=pp (us.take i++us.drop i):=by rw[YA]
  rw[this,A7,e,pp]
 have s:=jr .a h';have p2:=jr (show 0<=c by lia) f;have j:0<u.1^u.2.toNat:=Yx .b
 have l:u.1^u.2.toNat<=pp us:=by
  rw[e2];have:=jq j (show 1<=pp (us.drop (i+1)) by lia);have q:=Yq j p2;have w:u.1^u.2.toNat*pp (us.drop (i+1))<=pp (us.take i)*(u.1^u.2.toNat*pp (us.drop (i+1))):=by rw[Yb (pp (us.take i))];exact jq q .b
  lia
 have mono:∀m n:Nat,m<=n->u.1^m<=u.1^n:=λm n o=>by
  obtain⟨d,rfl⟩:∃d,n=m+d:=#[n-m,.b];rw[YS];exact jq (Yx .b) (by have:=Yx (n:=u.1) (m:=d) .b;lia)
 refine#[h2,k.2,acw (mono _ _ .b) l,?_,?_]
 .have:=mono 1 u.2.toNat .b;rw[XS,Yc,Yp] at this;lia
 .have:((u.2.toNat:Nat):Int)<u.1^u.2.toNat:=by
   have g:∀n:Nat,(n:Int)<u.1^n:=λn=>by
    induction n with
    |zero=>rw[Yc];decide
    |succ n p =>
     rw[XS];have:u.1^n*2<=u.1^n*u.1:=XB h2 (ZR (Yx .b));lia
   exact g _
  lia
def Hg{M:Type}{l:List M}{a:M}(h:l[i]?=À a):l.drop i=a::l.drop (i+1):=by
 have hi:i<l.length:=(Xy.mp h).1;rw[aa8 hi];rw[Xz hi] at h;rw[XJ h]
theorem vJ:∀l:List Int,0<l.length->DX l∈l/\∀a∈l,DX l<=a
 |[a],_=>by simp[DX]
 |a::b::l,_=>by
  obtain⟨h1,h2⟩:=vJ (b::l) .c;unfold DX;split
  .refine#[Xx _ h1,λc d=>?_];rcases Xm.mp d with z|z
   .lia
   .exact h2 c z
  .refine#[XA ..,λc d=>?_];rcases Xm.mp d with z|z
   .lia
   .have:=h2 c z;lia
theorem wR:∀l:List Int,0<l.length->DY l∈l/\∀a∈l,a<=DY l
 |[a],_=>by simp[DY]
 |a::b::l,_=>by
  obtain⟨h1,h2⟩:=wR (b::l) .c;unfold DY;split
  .refine#[Xx _ h1,λc d=>?_];rcases Xm.mp d with z|z
   .lia
   .exact h2 c z
  .refine#[XA ..,λc d=>?_];rcases Xm.mp d with z|z
   .lia
   .have:=h2 c z;lia
def Hq{b:Int}(hp:aT p=Á)(h2:p≠2)(c:¬p∣b):cls (p*b) p=(1,bh b p):=by
 have a:=au hp;unfold cls;rw[show p*b=b*p^1 by rw[ŭ];exact Yb ..,kR a c,Xl h2];rfl
def cV{a:Int}(hp:aT p=Á)(h2:p≠2)(ha:¬p∣a):cls a p=(0,bh a p):=by
 rw[bQ (au hp) ha,Xl h2]
def mR{a b:Int}(hp:aT p=Á)(h2:p≠2)(ha:¬p∣a)(c:¬p∣b):aA a (p*b) p=decide (bh a p=1):=by
 have d:=au hp;rw[bf .b h2,Hq hp h2 c,cV hp h2 ha];unfold lx;simp
def eI(hp:aT p=Á):¬p∣-1:=λh=>by
 have:=au hp;have:=XH .a (YL.mp h);lia
def gO(hp:aT p=Á)(h2:p≠2):p%2=1:=by
 apply Xt;intro a;rcases bY.mp hp with z|z
 .lia
 .lia
def cw{a:Int}(h:a%2=1):cls a 2=(0,a%8):=by
 rw[bQ .a .b,Xo rfl]
def RX(hp:aT p=Á)(h2:p≠2):aA p (-1) p=!decide (p%4=3)/\aA (-p) (-1) p=!decide (p%4=3):=by
 have a:=au hp;have m1:=eI hp;have b:¬p∣1:=λh=>m1 (YL.mpr h)
 have key:decide (bh (-1) p=1)=!decide (p%4=3):=by
  rw[C1 hp h2];by_cases z:p%4=3
  .rw[Xo z];simp[z]
  .rw[Xl z];simp[z]
 constructor
 .rw[<-bC (.inr hp) .b .a];have:=mR hp h2 m1 b;rw[X0] at this;rw[this,key]
 .rw[<-bC (.inr hp) .b .a];have:=mR hp h2 m1 m1;rw[show p*-1=-p by lia] at this;rw[this,key]
def Sj(b:p%2=1):aA p (-1) 2=!decide (p%4=3):=by
 rw[aW,cw b,cw (a:=-1) .a];have e:p%8%4=p%4:=by lia
 unfold fG;simp only[e];by_cases z:p%4=3
 .simp[z,b1]
 .simp[z,b1]
def Sl(h:0<p):aA p (-1) 0=Á/\aA (-p) (-1) 0=Â:=by
 rw[aO,aO];constructor
 .simp[h]
 .simp;lia
noncomputable def ou(L:List Int)(f:Int->Bool):Bool:=decide ((L.filter λp=>!f p).length%2=0)
def dY(p:Int)(L:List Int)(f:Int->Bool):ou (p::L) f=(f p==ou L f):=by
 unfold ou;rw[aby];cases f p
 .simp only[Bool.not_false,aaC,Yl];by_cases h:(L.filter λp=>!f p).length%2=0
  .have:¬((L.filter λp=>!f p).length+1)%2=0:=by lia
   simp[h,this]
  .have:((L.filter λp=>!f p).length+1)%2=0:=by lia
   simp[h,this]
 .simp
def vK(f:Int->Bool):ou [] f=Á:=rfl
theorem Bw(f g:Int->Bool):∀L:List Int,ou L (λp=>f p==g p)=(ou L f==ou L g)
 |[]=>rfl
 |p::L=>by
  rw[dY,dY,dY,Bw f g L];generalize f p=a;generalize g p=b;generalize ou L f=c;generalize ou L g=d;revert a b c d;decide
def rV{f g:Int->Bool}(h:∀p∈L,f p=g p):ou L f=ou L g:=by
 unfold ou;rw[List.filter_congr λp hp=>by rw[h p hp]]
def rH{f:Int->Bool}{S:List Int}(e:L.Nodup)(c:S.Nodup)(b:∀p∈S,p∈L)(h:∀p∈L,p∉S->f p=Á):ou L f=ou S f:=by
 unfold ou
 have:(L.filter λp=>!f p).Perm (S.filter λp=>!f p):=by
  refine(List.perm_ext_iff_of_nodup (e.filter _) (c.filter _)).mpr λa=>?_;rw[Ys,Ys];constructor
  .rintro⟨h1,h2⟩;refine#[Xt λd=>?_,h2];rw[h a h1 d] at h2;cases h2
  .rintro⟨h1,h2⟩;exact#[b a h1,h2]
 rw[this.length_eq]
def xg{f:Int->Bool}(h:∀p∈L,f p=Á):ou L f=Á:=by
 unfold ou;rw[List.filter_eq_nil_iff.mpr λp hp=>by rw[h p hp];decide];rfl
structure oo(L:List Int):Prop where
 nd:L.Nodup
 pr:∀p∈L,aT p=Á
 two:(2:Int)∈L
def lu(L:List Int)(x:Int):Prop:=x≠0/\∀q,aT q=Á->q∣x->q∈L
def GA(h:oo L):(0:Int)∉L:=λz=>by have:=au (h.pr 0 z);lia
def oo.all(h:oo L):((0:Int)::L).Nodup:=YC.mpr #[GA h,h.nd]
def oo.pl(h:oo L):∀p∈(0:Int)::L,Pl p:=λp hp=>by
 rcases Xm.mp hp with z|z
 .exact .inl z
 .exact .inr (h.pr p z)
def qu(L:List Int)(x y:Int):Bool:=ou (0::L) (aA x y)
def ll(h:oo L)(a:x≠0)(b:y≠0):qu L y x=qu L x y:=rV λp hp=>bC (h.pl p hp) a b
def Cn(h:oo L){z:Int}(a:x≠0)(b:y≠0)(hz:z≠0):qu L x (y*z)=(qu L x y==qu L x z):=by
 unfold qu;rw[<-Bw];exact rV λp hp=>dn (h.pl p hp) a b hz
def bE(hp:aT p=Á)(c:aT q=Á)(h:p∣q):p=q:=by
 have h1:=au hp;have h2:=au c;apply Xt;intro g;have f:=k7 (p:=p) (d:=q) hp;by_cases z:q∣p
 .have a:=XH .b h;have b:=XH .b z;lia
 .have e:=k7 (p:=q) (d:=p) c z;have:=acO (ZD p) h;rw[e] at this;have:=XH .a this;lia
def qU(hp:aT p=Á)(h2:p≠2)(a:∀q,aT q=Á->q∣x->q≠p)(b:∀q,aT q=Á->q∣y->q≠p):aA x y p=Á :=
 k6 hp h2 (λz=>a p hp z rfl) λz=>b p hp z rfl
def gI(a:aT q=Á):∀r,aT r=Á->r∣q->r=q:=λr b h=>bE b a h
def K9:∀r,aT r=Á->¬r∣(-1:Int):=λr a=>eI a
def Mb{f:Int->Bool}(a b:Int):ou [a,b] f=(f a==f b):=by
 rw[dY,dY,vK];cases f a<;>cases f b<;>rfl
def Q3{f:Int->Bool}(a b c:Int):ou [a,b,c] f=(f a==(f b==f c)):=by
 rw[dY,dY,dY,vK];cases f a<;>cases f b<;>cases f c<;>rfl
def RY(h:oo L):qu L (-1) (-1)=Á:=by
 unfold qu;rw[rH (S:=[0,2]) h.all .a (λp hp=>?_) (λp hp b=>?_),Mb,aO,aW,cw (a:=-1) .a]
 .rfl
 .simp only[Xm,Xr,XT] at hp;rcases hp with rfl|rfl
  .exact XA
  .exact Xx _ h.two
 .simp only[Xm,Xr,XT,acy] at b hp;have:=h.pr p (hp.resolve_left b.1);exact k6 this b.2 (eI this) (eI this)
def GL:cls 2 2=(1,1):=by
 unfold cls;rw[show aX 2 2=(1,1) from j6 .a #[.a,.a,.b]];rfl
def NA(h:oo L):qu L (-1) 2=Á:=by
 refine xg λp hp=>?_;rcases Xm.mp hp with rfl|z
 .rw[aO];rfl
 have b:=h.pr p z;by_cases h2:p=2
 .subst h2;rw[aW,GL,cw (a:=-1) .a];rfl
 .exact qU b h2 (λq c d=>absurd d (K9 q c)) λq c d e=>h2 (by rw[<-e];exact gI aR q c d)
def Pe(h:oo L)(a:q∈L):∀p∈[2,q],p∈(0:Int)::L:=λp hp=>by
 simp only[Xm,Xr,XT] at hp;rcases hp with rfl|rfl
 .exact Xx _ h.two
 .exact Xx _ a
def N7(h:oo L)(f:q∈L)(h2:q≠2):qu L (-1) q=Á:=by
 have hp:=h.pr q f;have g:=au hp;rw[<-ll h .a .b];unfold qu;rw[rH (S:=[2,q]) h.all (by simp;lia) (Pe h f) (λp a c=>?_),Mb,Sj (gO hp h2),(RX hp h2).1]
 .simp
 .simp only[Xm,Xr,XT,acy] at c a;rcases a with rfl|z
  .exact(Sl .b).1
  .exact qU (h.pr p z) c.1 (λr b d e=>c.2 (by rw[<-e];exact gI hp r b d)) λr b d=>absurd d (K9 r b)
def F7(h:oo L)(a:x≠0):qu L x x=qu L (-1) x:=by
 rw[ll (x:=x) (y:=-1) h a .a];exact rV λp hp=>pS (h.pl p hp) a
def OZ(h:oo L)(f:q∈L)(h2:q≠2):qu L 2 q=Á:=by
 have hp:=h.pr q f;have l:=au hp;have g:=gO hp h2;have i:¬q∣2:=λz=>h2 (gI aR q hp z);have k:¬q∣1:=λz=>eI hp (YL.mpr z);unfold qu;rw[rH (S:=[2,q]) h.all (by simp;lia) (Pe h f) (λp a b=>?_),Mb,aW,GL,cw g]
 .have e:=mR hp h2 i k;rw[X0] at e;rw[e,JS hp h2];have j:q%8=1\/q%8=3\/q%8=5\/q%8=7:=by lia
  rcases j with z|z|z|z<;>rw[z]<;>rfl
 .simp only[Xm,Xr,XT,acy] at b a;rcases a with rfl|z
  .rw[aO];rfl
  .exact qU (h.pr p z) b.1 (λr c d e=>b.1 (by rw[<-e];exact gI aR r c d)) (λr c d e=>b.2 (by rw[<-e];exact gI hp r c d))
def Rz(h:oo L)(m:q∈L)(h2:q≠2)(n:r∈L)(c:r≠2)(d:q≠r):qu L q r=Á:=by
 have hp:=h.pr q m;have a:=h.pr r n;have D:=au hp;have y:=au a;have w:=gO hp h2;have j:=gO a c;have i:¬q∣r:=λz=>d (gI a q hp z);have g:¬r∣q:=λz=>d (gI hp r a z).symm;have C:¬q∣1:=λz=>eI hp (YL.mpr z);have B:¬r∣1:=λz=>eI a (YL.mpr z);unfold qu;rw[rH (S:=[2,q,r]) h.all (by simp;lia) (λp b=>?_) (λp b f=>?_),Q3,aW,cw w,cw j]
 .have e1:aA q r q=decide (bh r q=1):=by
   rw[<-bC (.inr hp) .b .b];have e:=mR hp h2 i C
   rwa [X0] at e
  have e2:aA q r r=decide (bh q r=1):=by
   have e:=mR a c g B
   rwa [X0] at e
  rw[e1,e2];have ex:=Fe hp h2 a c d
  have t:fG (0,q%8) (0,r%8)=!decide (q%4=3/\r%4=3):=by
   unfold fG;have x:q%8%4=q%4:=by lia
   have o:r%8%4=r%4:=by lia
   simp only[x,o];by_cases z:q%4=3<;>by_cases A:r%4=3<;>simp[z,A,b1]
  rw[t];by_cases z:q%4=3/\r%4=3
  .rw[Xo z] at ex;rw[XY z];rcases bx i with u|u<;>rcases bx g with v|v<;>rw[u,v] at ex ⊢<;>simp_all
  .rw[Xl z] at ex;rw[X1 z];rcases bx i with u|u<;>rcases bx g with v|v<;>rw[u,v] at ex ⊢<;>simp_all
 .simp only[Xm,Xr,XT] at b;rcases b with rfl|rfl|rfl
  .exact Xx _ h.two
  .exact Xx _ m
  .exact Xx _ n
 .simp only[Xm,Xr,XT,acy] at f b;rcases b with rfl|z
  .rw[aO];simp;lia
  .exact qU (h.pr p z) f.1 (λs k l e=>f.2.1 (by rw[<-e];exact gI hp s k l)) (λs k l e=>f.2.2 (by rw[<-e];exact gI a s k l))
theorem tY{L:List Int}{Q:Int->Prop}(h1:Q 1)(g:Q (-1))(b:∀q∈L,aT q=Á->Q q)(hmul:∀x y,x≠0->y≠0->Q x->Q y->Q (x*y)):∀(n:Nat) (x:Int),x.natAbs<=n->lu L x->Q x
 |0,x,i,h=>absurd (show x=0 by lia) h.1
 |n+1,x,i,h=>by
  have p:=h.1;by_cases z:x=1
  .rw[z];exact h1
  by_cases j:x=-1
  .rw[j];exact g
  obtain⟨q,q1,c,o⟩:=oM (k:=x.natAbs) .b;have s:=au q1;have a:q∣x:=Zj.mp #[c,o];obtain⟨d,rfl⟩:=a;have f:d≠0:=by rintro rfl;exact p (Yd _)
  have l:d.natAbs<=n:=by
   have e:(q*d).natAbs=q.natAbs*d.natAbs:=XZ ..;have:2*d.natAbs<=q.natAbs*d.natAbs:=aan _ .b;lia
  refine hmul q d .b f (b q (h.2 q q1 #[d,rfl]) q1) (tY h1 g b hmul n d l #[f,λr m a=>h.2 r m ?_]);obtain⟨e,rfl⟩:=a;exact#[q*e,by grind]
def B_(h:oo L)(b:x≠0):qu L x 1=Á:=xg λp hp=>by
 have:=tQ (a:=x) (r:=1) (h.pl p hp) b .a
 rwa [X0] at this
def G7(h:oo L)(k:lu L x)(c:lu L y):qu L x y=Á:=by
 have base:∀g,(g=-1\/g∈L)->∀y,lu L y->g≠0/\qu L g y=Á:=λg d y c=>by
  have i:g≠0:=by
   rcases d with rfl|d
   .decide
   .have:=au (h.pr g d);lia
  refine#[i,tY (L:=L) (Q:=λy=>qu L g y=Á) (B_ h i) ?_ (λq f j=>?_) (λx y k c h1 h2=>by rw[Cn h i k c,h1,h2];rfl) y.natAbs y (Xu _) c]
  .rcases d with rfl|d
   .exact RY h
   .rw[<-ll h i .a];by_cases z:g=2
    .rw[z];exact NA h
    .exact N7 h d z
  .have o:=au j;rcases d with rfl|d
   .by_cases z:q=2
    .rw[z];exact NA h
    .exact N7 h f z
   .by_cases e:g=q
    .subst e;rw[F7 h i];by_cases z:g=2
     .rw[z];exact NA h
     .exact N7 h d z
    by_cases z:g=2
    .rw[z];exact OZ h f .b
    by_cases l:q=2
    .rw[l,ll h .a i];exact OZ h d z
    .exact Rz h d z f l e
 have m:∀x y,qu L y x=Á->x≠0->y≠0->qu L x y=Á:=λx y e h1 h2=>by rw[ll h h2 h1];exact e
 rw[ll h c.1 k.1];exact tY (L:=L) (Q:=λx=>qu L y x=Á) (B_ h c.1) (m _ _ (base _ (.inl rfl) y c).2 c.1 .a) (λq f j=>m _ _ (base q (.inr f) y c).2 c.1 (base q (.inr f) y c).1) (λa b ha n h1 h2=>by rw[Cn h c.1 ha n,h1,h2];rfl) x.natAbs x (Xu _) k
def wK(h1:1<=k)(h2:k<1073741824):Tame k:=by
 by_cases c:zF k
 .exact .inl #[k,1,c,.b,.a,.b]
 .have #[q,g]:=Classical.not_forall.mp c;have #[q1,a]:=ab_.mp g;have #[#[f,h],j]:=ab_.mp a
  have d:0<f:=by
   apply Xt;intro i;have:q*f<=0:=Yk .b .b;lia
  have e:f<32768:=by
   apply Xt;intro i;have:32768*32768<=q*f:=Yj .b .b .a .b;lia
  have b:q<1073741824:=by
   have:q*1<=q*f:=XB .b .b;lia
  exact .inr #[f,q,vW d e,d,q1,b,by rw[h];exact Yb ..]
theorem B0:∀(n:Nat) (x:Int),x≠0->x.natAbs<=n->∃f s,lq f/\0<s/\x=f*(s*s)
 |0,x,a,k=>absurd (show x=0 by lia) a
 |n+1,x,a,k=>by
  by_cases j:lq x
  .exact#[x,1,j,.a,.b]
  .have g:¬∀d:Int,2<=d->¬d*d∣x:=λz=>j #[a,z];have #[d,o]:=Classical.not_forall.mp g;have #[i,b]:=ab_.mp o;have #[c,h]:=Classical.not_not.mp b;have c0:c≠0:=by rintro rfl;exact a (by rw[h,Yd])
   have m:c.natAbs<=n:=by
    have e:x.natAbs=(d*d).natAbs*c.natAbs:=by rw[h,XZ]
    have:2<=(d*d).natAbs:=by
     have:2*2<=d*d:=Yj i i .a .b;lia
    have:2*c.natAbs<=(d*d).natAbs*c.natAbs:=aan _ this;lia
   obtain⟨f,s,h1,h2,l⟩:=B0 n c c0 m;exact#[f,s*d,h1,Yq h2 .b,by rw[h,l];grind]
def Iu(a:0<s)(e:x=f*(s*s)):f.natAbs<=x.natAbs:=by
 rw[e,XZ];have:1<=(s*s).natAbs:=by have:=Yq a a;lia
 have:=Nat.mul_le_mul_left f.natAbs this;lia
theorem Ho:∀{us:List (Int×Int)} {a b:Int},gj a us b->∀u∈us,u.1∣pp us
 |[],_,_,_,u,h=>absurd h Xr
 |v::us,a,b,c,u,h=>by
  rcases Xm.mp h with rfl|z
  .show u.1∣u.1^u.2.toNat*pp us;have:=c.2.2.1;rw[show u.2.toNat=(u.2.toNat-1)+1 by lia,XS];exact#[u.1^(u.2.toNat-1)*pp us,by grind]
  .exact X7 (Ho c.2.2.2 u z) #[v.1^v.2.toNat,Yb ..]
theorem Fu{q:Int}(c:aT q=Á):∀{us:List (Int×Int)} {a b:Int},gj a us b->q∣pp us->∃u∈us,u.1=q
 |[],_,_,_,h=>by
  have:=XH .a (show q∣1 from h);have:=au c;lia
 |v::us,a,b,d,h=>by
  rcases euclid c (show q∣v.1^v.2.toNat*pp us from h) with z|z
  .have:∀n:Nat,q∣v.1^n->q∣v.1:=λn=>by
    induction n with
    |zero =>
     intro h;rw[Yc] at h;have:=XH .a h;have:=au c;lia
    |succ n e =>
     intro h;rw[XS] at h;rcases euclid c h with y|y
     .exact e y
     .exact y
   exact#[v,XA,(bE c d.2.1 (this _ z)).symm]
  .obtain⟨u,h1,h2⟩:=Fu c d.2.2.2 z;exact#[u,Xx _ h1,h2]
def iG(c:1<=k):q∈(pA k).map (·.1)↔aT q=Á/\q∣k:=by
 obtain⟨⟨b,a⟩,e⟩:=pb c;rw[XF];constructor
 .rintro⟨u,h1,rfl⟩;exact#[(jb a u h1).1,e▸Ho a u h1]
 .rintro⟨h1,h2⟩;rw[<-e] at h2;exact Fu h1 a h2
def lZ(hp:aT p=Á)(h2:p≠2):NR p:=by
 obtain⟨g,h1,_,a⟩:=K3 hp h2;exact#[g,h1,a]
def KC(k m x:Int):Prop:=0<=x/\x<m/\m∣k*x-1
def KC.uniq(x y:Int)(g:KC k m x)(f:KC k m y):x=y:=by
 obtain⟨p,n,d⟩:=g;obtain⟨l,o,e⟩:=f
 have h:m∣x-y:=by
  obtain⟨a,ha⟩:=d;obtain⟨b,j⟩:=e;refine#[a*y-b*x,?_];have e1:k*x=1+m*a:=by lia
  have e2:k*y=1+m*b:=by lia
  have:y*(k*x)=x*(k*y):=by grind
  rw[e1,e2] at this;grind
 obtain⟨c,i⟩:=h
 have:c=0:=by
  rcases ZV c 0 with z|z|z
  .have:m*c<=m*(-1):=XB .b .b;lia
  .exact z
  .have:m*1<=m*c:=XB .b .b;lia
 rw[this,Yd] at i;lia
def uL(k m:Int):Int:=ö (KC k m)
def Ej(h:KC k m x):uL k m=x:=(oF KC.uniq h).symm
structure Dc(k m r b f g:Int)(u v s:Int):Prop where
 r0:1<=r
 b0:0<=b
 lt:b<r
 rm:r<=m
 gc:Ë r b=1
 fr:m∣k*f-r
 fb:m∣k*g-b
 sg:s=1\/s=-1
 fu:f=-s*u
 gv:g=s*v
 u0:0<=u
 v0:0<=v
 um:u<=m
 sum:u*b+v*r=m
def Dc.start(b:2<=m)(a:Ë k m=1):Dc k m m (k%m) 0 1 0 1 1:=by
 refine#[.b,X2 _ .b,XU _ .b,Yv m,?_,#[-1,.b],?_,.inl rfl,.b,.b,.a,.a,.b,.b]
 .have e:k%m=k.fmod m:=(Yz k (show 0<=m by lia)).symm;rw[e,mK,a]
 .refine#[k/m,?_];have:=YH k m;lia
def Dc.step{b:Int}(I:Dc k m r b f g u v s)(p:b≠0):Dc k m b (r-r/b*b) g (f-r/b*g) v (u+r/b*v) (-s):=by
 obtain⟨x,i,lt,z,t,fr,l,sg,o,j,u0,h,y,sum⟩:=I;have a:=YH r b;have F:=X2 r p;have m1:=XU r (show 0<b by lia);have n:0<=r/b:=aa5 .b i;have e:r-r/b*b=r%b:=by rw[Yb] at a;lia
 generalize E:r/b=q at *;have C:0<=q*v:=Zi n h;refine#[.b,.b,.b,.b,?_,l,?_,.b,by rw[j];grind,by rw[o,j];grind,h,.b,?_,by grind]
 .have w:r%b=r.fmod b:=(Yz r i).symm;rw[e,w,mK,t]
 .obtain⟨c,D⟩:=fr;obtain⟨d,G⟩:=l;refine#[c-q*d,?_];have e1:k*f=r+m*c:=by lia
  have e2:k*g=b+m*d:=by lia
  have:k*(f-q*g)=k*f-q*(k*g):=by grind
  rw[this,e1,e2];grind
 .have B:v*1<=v*r:=XB x h;have A:0<=u*b:=Zi u0 i;lia
def Dc.done(I:Dc k m r 0 f g u v s)(b:2<=m):uL k m=f%m:=by
 have h1:r=1:=by
  have:=I.gc;rw[abc] at this;have:=I.r0;lia
 refine Ej #[X2 _ .b,XU _ .b,?_];obtain⟨c,a⟩:=I.fr;rw[h1] at a;have e:=YH f m;refine#[c-k*(f/m),?_];have:k*(f%m)=k*f-k*(m*(f/m)):=by rw[<-ϙ];congr 1;lia
 rw[this,show k*f=1+m*c by lia];grind
def Dc.bd{b:Int}(I:Dc k m r b f g u v s):f.natAbs<=m/\g.natAbs<=m:=by
 obtain⟨d,c,lt,i,h,fr,o,sg,j,l,u0,a,e,sum⟩:=I;have n:v*1<=v*r:=XB d a;have p:0<=u*b:=Zi u0 c;rcases sg with rfl|rfl<;>lia
def Kt(l:2<=m)(j:Ë k m=1):KC k m (uL k m):=by
 have:∀(n:Nat) (r b f g u v s:Int),Dc k m r b f g u v s->b.toNat<=n->∃x,KC k m x:=λn=>by
  induction n with
  |zero =>
   intro r b f g u v s I h;have a:b=0:=by have:=I.b0;lia
   subst a
   have h1:r=1:=by
    have:=I.gc;rw[abc] at this;have:=I.r0;lia
   refine#[f%m,X2 _ .b,XU _ .b,?_];obtain⟨c,o⟩:=I.fr;rw[h1] at o;have e:=YH f m;refine#[c-k*(f/m),?_];have:k*(f%m)=k*f-k*(m*(f/m)):=by rw[<-ϙ];congr 1;lia
   rw[this,show k*f=1+m*c by lia];grind
  |succ n d =>
   intro r b f g u v s I h;by_cases a:b=0
   .subst a;exact d r 0 f g u v s I .b
   .refine d _ _ _ _ _ _ _ (I.step a) ?_;have:=(I.step a).lt;have:=(I.step a).b0;lia
 obtain⟨x,i⟩:=this _ _ _ _ _ _ _ _ (Dc.start l j) (Xu _);rw[Ej i];exact i
def zC(one m other p:Int):Int:=one+m*((other-one)*uL m p%p)
def O1{one other:Int}(hp:2<=p)(h:1<=m)(a:Ë m p=1)(k:0<=one)(h1:one<m):(0<=zC one m other p/\zC one m other p<m*p)/\m∣zC one m other p-one/\p∣zC one m other p-other:=by
 obtain⟨f,b1,c,j⟩:=Kt hp a;unfold zC;have b:=X2 ((other-one)*uL m p) (show p≠0 by lia);have g:=XU ((other-one)*uL m p) (show 0<p by lia);have i:=YH ((other-one)*uL m p) p;generalize d:(other-one)*uL m p%p=y at *;generalize (other-one)*uL m p/p=w at *;refine#[#[?_,?_],#[y,.b],?_]
 .have:=Zi (show 0<=m by lia) b;lia
 .have:m*y<=m*(p-1):=XB .b .b;have e:m*(p-1)=m*p-m:=by rw[ϙ,X0]
  lia
 .refine#[(other-one)*c-m*w,?_];have e1:y=(other-one)*uL m p-p*w:=by lia
  have e2:m*uL m p=1+p*c:=by lia
  rw[e1];have:m*((other-one)*uL m p-p*w)=(other-one)*(m*uL m p)-m*(p*w):=by grind
  rw[this,e2];grind
def IF(k:Int):List (Int×Int)->Int->Int->Option Int
 |[],a,_=>À a
 |u::us,a,d=>match xr k u.1 with
  |none=>none
  |some r=>IF k us (zC a d r u.1) (d*u.1)
def F1(k m:Int):Option Int:=IF k (pA m) 0 1
def BI(hp:aT p=Á)(h:xr k p=À r):(0<=r/\r<p)/\Cg p (r*r) k:=by
 by_cases h2:p=2
 .subst h2;unfold xr at h
  have a:bh k 2=k%2:=by
   unfold bh;by_cases z:k%2=0
   .rw[Xo z,z]
   .rw[Xl z,Xo rfl];lia
  rw[a] at h;split at h
  .cases h
  .rw[Xo (.inr rfl)] at h;cases h;refine#[.b,?_];have:k%2=0\/k%2=1:=by lia
   rcases this with z|z
   .rw[z];exact#[-(k/2),.b]
   .rw[z];exact#[-(k/2),.b]
 .exact Mh hp h2 (lZ hp h2) h
structure HX(k a d:Int)(ps:List Int):Prop where
 d1:1<=d
 a0:0<=a
 a1:a<d
 pr:∀q,aT q=Á->q∣d->q∈ps
 sq:∀q∈ps,q∣a*a-k/\q∣d
def HX.step{a:Int}{ps:List Int}(I:HX k a d ps)(hp:aT p=Á)(j:p∉ps)(h:xr k p=À r):HX k (zC a d r p) (d*p) (ps++[p])/\Ë d p=1/\(0<=r/\r<p):=by
 have c:=au hp;have f:Ë d p=1:=k7 hp λz=>j (I.pr p hp z);obtain⟨⟨t,i⟩,o,s⟩:=O1 (one:=a) (other:=r) c I.d1 f I.a0 I.a1;obtain⟨n,u⟩:=BI hp h;refine#[#[?_,t,i,λq b v=>?_,λq b=>?_],f,n]
 .have:=Yq (show 0<d by have:=I.d1;lia) (show 0<p by lia);lia
 .rcases euclid b v with z|z
  .exact Ya _ (I.pr q b z)
  .exact XW _ (XX.mpr (bE b hp z))
 .rcases Yf.mp b with z|z
  .obtain⟨l,g⟩:=I.sq q z;refine#[?_,X7 g #[p,rfl]];have m:q∣zC a d r p-a:=X7 g o;generalize zC a d r p=w at *;have:w*w-k=(w-a)*(w+a)+(a*a-k):=by grind
   rw[this];exact aa3 (X7 m #[w+a,rfl]) l
  .rw[XX.mp z];refine#[?_,#[d,Yb ..]];generalize zC a d r p=w at *;have e:p∣r*r-k:=u;have:w*w-k=(w-r)*(w+r)+(r*r-k):=by grind
   rw[this];exact aa3 (X7 s #[w+r,rfl]) e
def HX.zero(k:Int):HX k 0 1 []:=#[.a,.a,.a,λq b a=>by
 have:=XH .a a;have:=au b
 lia,λq h=>absurd h Xr]
theorem sh:∀{us:List (Int×Int)} {a b:Int},gj a us b->(us.map (·.1)).Pairwise (·<·)/\∀q∈us.map (·.1),a<q
 |[],_,_,_=>#[ō,λ_ h=>absurd h Xr]
 |u::us,a,b,h=>by
  obtain⟨h1,h2,g,d⟩:=h;obtain⟨f,c⟩:=sh d;refine#[Zb.mpr #[c,f],λq e=>?_];rcases Xm.mp e with rfl|z
  .exact h1
  .have:=c q z;lia
noncomputable def dp:List (Int×Int)->Int
 |[]=>1
 |u::us=>u.1*dp us
theorem D6:∀{us:List (Int×Int)} {a b:Int},0<=a->gj a us b->1<=dp us/\dp us<=pp us
 |[],_,_,_,_=>#[Yv 1,Yv 1]
 |u::us,a,b,ha,h=>by
  obtain⟨h1,h2,e,c⟩:=h;obtain⟨f,d⟩:=D6 .b c
  have hp:u.1<=u.1^u.2.toNat:=by
   rw[show u.2.toNat=(u.2.toNat-1)+1 by lia,XS,Yb];have:(0:Int)<u.1^(u.2.toNat-1):=Yx .b;have:u.1*1<=u.1*u.1^(u.2.toNat-1):=XB .b .b;lia
  constructor
  .have:=Yq (show 0<u.1 by lia) (show 0<dp us by lia);show 1<=u.1*dp us;lia
  .exact Yj hp d .b .b
theorem Hv{k α:Int}:∀(us:List (Int×Int)) (a d:Int) (ps:List Int) (b c:Int),gj c us b->(∀q∈ps,q<=c)->0<=c->HX k a d ps->d*dp us<=α ->
  (IF k us a d=none/\∃u∈us,bh k u.1=-1)\/(∃x e,IF k us a d=À x/\HX k x e (ps++us.map (·.1))/\e<=α/\∀u∈us,bh k u.1≠-1)
 |[],a,d,ps,b,c,j,g,t,I,i=>.inr #[a,d,rfl,by rw[aaQ,aaE];exact I,by have:d*1<=α:=i;lia,λu h=>absurd h Xr]
 |u::us,a,d,ps,b,c,j,g,t,I,i=>by
  obtain⟨h1,h2,y,l⟩:=j;rw[IF];cases f:xr k u.1 with
  |none=>exact .inl #[rfl,u,XA,tT.mp f]
  |some r =>
   have p:u.1∉ps:=λz=>by have:=g _ z;lia
   obtain⟨n,_⟩:=I.step h2 p f
   have s:=Hv us (zC a d r u.1) (d*u.1) (ps++[u.1]) b u.1 l (λq m=>by
    rcases Yf.mp m with z|z
    .have:=g q z;lia
    .rw[XX.mp z];exact Yv _) .b n (by rw[X6];exact i)
   dsimp only;rcases s with⟨e1,v,e2,e3⟩|⟨x,e,e1,e2,e3,e4⟩
   .exact .inl #[e1,v,Xx _ e2,e3]
   .refine .inr #[x,e,e1,by rw[X3,List.append_cons];exact e2,e3,λv o=>?_];rcases Xm.mp o with z|z
    .rw[z];intro w;rw[tT.mpr w] at f;cases f
    .exact e4 v z
def Ma(d:1<=m):(F1 k m=none/\∃q,aT q=Á/\q∣m/\bh k q=-1)\/(∃x,F1 k m=À x/\0<=x/\x<m/\∀q,aT q=Á->q∣m->q∣x*x-k/\bh k q≠-1):=by
 obtain⟨⟨b,f⟩,c⟩:=pb d;obtain⟨n,i⟩:=D6 .a f;rw[c] at i;rcases Hv (k:=k) (α:=m) (pA m) 0 1 [] b 1 f (λq h=>absurd h Xr) .a (HX.zero k) .b with⟨e1,u,e2,e3⟩|⟨x,e,e1,e2,e3,e4⟩
 .have:=(iG d).mp (XF.mpr #[u,e2,rfl]);exact .inl #[e1,u.1,this.1,this.2,e3]
 .refine .inr #[x,e1,e2.a0,by have:=e2.a1;lia,λq g j=>?_];have a:=(iG d).mpr #[g,j];obtain⟨u,l,rfl⟩:=XF.mp a;exact#[(e2.sq u.1 (by rw[aaF];exact a)).1,e4 u l]
end Q
open Q hiding Fr getD_mem PB cnt Cg dW
namespace L2.EP
open PySem PySem.Spec PyProof.Rows
section
variable{X:Cx}{U:aK}{D:GD}{M β:Type}[Py M][Py β]{e e1 e2:Õ}{b b1 b2:Bool}{pos:ò}{rest:List Ò}
def OQ{i j:Int}(ha:E X U e1 b1 i)(b:E X U e2 b2 j)(a:G4 i j):E X U (.BinOp e1 .LShift e2 pos) Á (i*2^j.toNat):=by stop exact Ax (g:=λi j=>i*2^j.toNat) N8 ha b a
def IV:RP X "int.bit_length" (λx xs H Q=>∃i,x=.int i/\xs=[]/\Q (.int (Ì i:Nat)) H):=by
 intro Z2 s Y H x xs v us Q I r a h;obtain⟨i,rfl,rfl,q⟩:=h;obtain⟨t,rfl⟩:=r;cases a;exact call_int_bit_length #[.int (Ì i:Nat),H,I.tok _,#[_,rfl],q]
def MA{i:Int}{apos:ò}(ha:E X U e b i)(c:autoParam (ĺ e "bit_length" X.env (Ý e X.env)=Ý e X.env) zra)(a:autoParam ((apos.endLine==pos.line)=Á) zra):E X U (.Call (.Attribute e "bit_length" apos) [] [] pos) Á ((Ì i:Nat):Int):=by
 stop
  exact aP (Ms PySem.F.plainAttrs_int PySem.F.slot_int_bit_length PySem.F.type_int_bit_length IV ha c a) λY H Q ⟨H0,F,O,S,q⟩=>#[H0,F,O,S,λv H1 d f=>by
    cases f
    exact#[rfl,i,rfl,rfl,q _ H1 d rfl]]
def GK{i:Int}{u:Int×Int}:CV X .In i u (decide (u.1=i) || decide (u.2=i)):=#[_,DD,λN N' H v w Q h1 h2 q=>by
 obtain⟨p,x,y,rfl,b,c,a⟩:=h2;cases h1;cases c;cases a;refine#[p,_,rfl,.inr (xD (aG.refl _) b),rfl,rfl,?_]
 simpa [Oz,HV,aaR] using q]
theorem pM{K:Ã}{N:Nn}{H:Hp}:∀{vs:List V} {xs:List Int},ß (λx (b:Int)=>Py.rp K N H x b) vs xs->vs=xs.map V.int
 |_,_,.nil=>rfl
 |_,_,.cons h r=>by rw[pM r,show _=V.int _ from h];rfl
theorem y3{i:Int}:∀xs:List Int,Oz (.int i) (xs.map V.int)=decide (i∈xs)
 |[]=>by simp[Oz]
 |x::xs=>by
  have:=y3 (i:=i) xs;unfold Oz at *;rw[X3,ZI,this];simp only[HV,Xm,aaR,Bool.decide_or];congr 1;exact abx.mpr eq_comm
def S.SU{D:GD}{a:aK->Prop}{st:List Ò}(h:S X U st D)(w:∀U',D.nx U'->a U'):S X U st {D with nx:=a}:=by stop exact tj h λd Y H ⟨H0,F,O,Z,n,r,bk,ct⟩=>#[H0,F,O,Z,λU' Y' H' c sm b q=>n U' Y' H' c sm b (w U' q),r,bk,ct]
def nv{c:Bool}{body orelse:List Ò}(J:aK->Prop)(a:T X U e c)(h1:c=Á->S X U body {D with nx:=J})(h2:c=Â->S X U orelse {D with nx:=J})(h:∀U',J U'->S X U' rest D):S X U (.If e body orelse pos::rest) D:=by stop exact P5 a (λz=>(h1 z).SU h) (λz=>(h2 z).SU h)
def ui(mg:Ð->Option Ä)(x:Ð)(i:Int):Prop:=∃t,mg x=À (.int i t)
def uF{x:Ð}{i:Int}(b:Gl X x)(a:ui X.mg x i)(c:autoParam ((x==("__debug__":Ð))=Â) zrb):E X U (.Name x pos) Á i:=by stop obtain⟨t,a⟩:=a;exact aP (BV (v:=.int i) b a #[t,rfl] c) λY H Q ⟨H0,F,O,S,q⟩=>q _ H (aG.refl _) rfl
end
variable{K:Ã}{H:Hp}{p:Ç}{xs:List V}{x:Ð}{c:Bool}
def lX{M:Type}{xs:List M}{k:Int}{d:M}(b:0<=k)(h:k<(xs.length:Int)):zd xs k=À (xs.getD k.toNat d):=by
 have a:k.toNat<xs.length:=by lia
 have e:k=((k.toNat:Nat):Int):=by lia
 have q:zd xs ((k.toNat:Nat):Int)=À xs[k.toNat]:=Kd (by rw[Xz a]);rw[<-e] at q;rw[q,Xq,Xz a];rfl
structure zU(M:Type) where
 l:List M
def K_(K:Ã)(H:Hp)(p:Ç)(xs:List V):Prop:=Rt H p xs\/∃(o:ü) (XV:Array Ä) (n:Nat),K.lookup p=À o/\o.cls=.type "tuple"/\o.data=.seq XV n/\XV.size<=sizeLine/\Vals xs XV.toList
def K_.t(h:K_ K H p xs):zE K H p xs:=h.imp Rt.rd id
def LG{H':Hp}(t:∀p xs,Rt H p xs->Rt H' p xs)(h:K_ K H p xs):K_ K H' p xs:=h.imp (t _ _) id
def cY{H':Hp}(e:aG H H')(h:K_ K H p xs):K_ K H' p xs:=h.imp (λz=>aG.rt e z) id
noncomputable instance{M:Type}[Py M]:Py (zU M) where
 rp K N H v a:=∃p xs,v=.ref p/\K_ K H p xs/\ß (λx b=>Py.rp K N H x b) xs a.l
 tr l t h:=by
  obtain⟨p,xs,e,s,r⟩:=h;exact#[p,xs,e,LG t s,bN (λ_ _ q=>Py.tr l t q) r]
noncomputable instance{M β:Type}[Py M][Py β]:Py (M⊕β) where
 rp K N H v a:=match a with|.inl x=>Py.rp K N H v x|.inr y=>Py.rp K N H v y
 tr {K N N' H H' v a} l t h:=by
  cases a with
  |inl x=>exact Py.tr (M:=M) l t h
  |inr y=>exact Py.tr (M:=β) l t h
def m9(K:Ã)(N:Nn)(H:Hp)(a:Int):¬Py.rp K N H .non a:=λh=>nomatch h
section
variable{X:Cx}{U:aK}{D:GD}{M β:Type}[Py M][Py β]{e e1 e2 tg:Õ}{b b1 b2:Bool}{pos:ò}{rest:List Ò}
def KI{a:M}(h:E X U e b a):E X U e b (Č a:M⊕β):=by stop exact h
def FF{a:β}(h:E X U e b a):E X U e b (è a:M⊕β):=by stop exact h
def Kq{a:M}(h:E X U e b (Č a:M⊕β)):E X U e b a:=by stop exact h
def uU{a:β}(h:E X U e b (è a:M⊕β)):E X U e b a:=by stop exact h
def HL{xs:List M}(he:E X U e b (zU.mk xs)):EI X U tg e b xs:=by
 stop
  exact#[_,L5 he,λY H H0 F O R Z q=>#[H0,F,O,Z,λv H1 g h=>by
   obtain⟨p,vs,e,c,f⟩:=h;refine#[p,e,#[vs,(cY (av _ _) c).t],q _ H1 g λH' l _ sm=>#[λi a ha=>?_,?_]]
   .obtain⟨x,h1,h2⟩:=gQ f ha;refine#[#[vs,x,(cY (av _ _) (cY sm c)).t,h1],λy k d=>?_];obtain⟨j,d⟩:=d;subst j;have:=d vs ((cY (av _ _) (cY sm c)).t);rw[h1] at this;cases this;exact#[aG.refl _,ay sm h2]
   .exact#[vs,(cY (av _ _) (cY sm c)).t,by rw[bG f];exact Xu _]]]
def BJ{xs:zU M}{ys:List M}{k:Int}{p2:ò}(ha:E X U e1 b xs)(o:E X U e2 b2 k)(A:0<k)(m:0<xs.l.length)(n:autoParam (xs.l.drop k.toNat=ys) zra):E X U (.Subscript e1 (.Slice (À e2) none none p2) pos) b (zU.mk ys):=by
 stop
  subst n
  exact aP (m_ N6 ha (qV o) rB) λY H Q ⟨H0,F,O,S,q⟩=>#[H0,F,O,S,λv H1 c s=>#[H0,F,O,S.go c,λw H2 a u=>by
   obtain⟨p,vs,e,x,r⟩:=s;have g:=bG r;have h:k=((k.toNat:Nat):Int):=by lia
   have f:HT.fJ vs.length 0 (À k)≠0:=by
    rw[h,HT.qO];lia
   refine#[k,u,p,vs,e,(cY (av _ _) (cY (ah a) x)).t,λz=>f z.1,λl m=>?_];obtain⟨j,y⟩:=yF (xs:=jV vs (À k) none) ((S.go c).go a) m;refine q _ _ (c.trans (a.trans j)) #[l,_,rfl,.inl y,?_]
   have ec:jV vs (À k) none=vs.drop k.toNat:=by
    unfold jV;rw[h,HT.qO,HT.nD];simp only[Ö];by_cases d:k.toNat<=vs.length
    .rw[acP d,ZH (by rw[Z7];exact Xu _)]
    .rw[acz .b,aaM (Xu _),aaM .b];simp
   have i:=bN (λ_ _ z=>ay ((ah a).trans (ah j)) z) (vM k.toNat r);rw[<-ec] at i
   exact i]]
def xI(K:Ã)(mg:Ð->Option Ä)(x:Ð)(xs:List Int):Prop:=∃(p:Ç) (o:ü) (XV:Array Ä) (n:Nat),mg x=À (.ref p)/\K.lookup p=À o/\o.cls=.type "tuple"/\o.data=.seq XV n/\XV.size<=sizeLine/\Vals (xs.map V.int) XV.toList
def u4{xs:List Int}(c:Gl X x)(a:xI X.K X.mg x xs)(f:autoParam ((x==("__debug__":Ð))=Â) zrb):E X U (.Name x pos) Á (zU.mk xs):=by stop obtain⟨p,o,XV,n,a,h1,h2,d,b,e⟩:=a;exact aP (BV (v:=.ref p) c a rfl f) λY H Q ⟨H0,F,O,S,q⟩=>q _ H (aG.refl _) #[p,_,rfl,.inr #[o,XV,n,h1,h2,d,b,e],vZ xs]
def ui.mk{h:â}{mg:Ð->Option Ä}{i:Int}{t:Tok}(σ:K.In h)(G:h.Ns Í mg)(a:Ø K Í x=À (À (.int i t))):ui mg x i:=#[t,abZ σ G a]
def xI.mk{h:â}{mg:Ð->Option Ä}{xs:List Int}{od:Option Ç}{XV:Array Ä}{n:Nat}{b:Array (Option Ä)}(σ:K.In h)(G:h.Ns Í mg)(a:Ø K Í x=À (À (.ref p)))
  (l:K.lookup p=À #[.type "tuple",od,.seq XV n,b]) (hz:XV.size<=1000) (c:Vals (xs.map V.int) XV.toList):xI K mg x xs:=#[p,_,XV,n,abZ σ G a,l,rfl,rfl,Y0 (dc hz),c]
def dC{a:M}(h:E X U e b (À a)):E X U e b a:=by stop exact h
def jy{a:M}(h:E X U e b a):E X U e b (À a):=by stop exact h
def RJ{x:Option M}{j:Nat}{p:ò}(ha:E X U e1 b1 x)(f:∀(K:Ã) (N:Nn) (H:Hp) (a:M),¬Py.rp K N H .non a):E X U (.Compare e1 [.IsNot] [.Constant .none j p] pos) Á (!x.isNone):=by
 stop
  exact aP (GQ (Bt ha)) λY H Q ⟨H0,F,O,S,q⟩=>#[H0,F,O,S,λv H1 d b=>by
    have e:decide (v=.non)=x.isNone:=by
     cases x with
     |none=>cases b;rfl
     |some a =>
      have c:v≠.non:=by rintro rfl;exact f _ _ _ a b
      rw[X1 c];rfl
    have:=q (.bl (!decide (v=.non))) H1 d;show Q (.bl (!decide (v=.non))) H1;rw[e] at this ⊢
    exact this rfl]
def AQ{x:Option M}{j:Nat}{p:ò}(ha:E X U e1 b1 x)(f:∀(K:Ã) (N:Nn) (H:Hp) (a:M),¬Py.rp K N H .non a):T X U (.Compare e1 [.IsNot] [.Constant .none j p] pos) (!x.isNone):=by
 stop
  exact uV (G6 (Bt ha)) λY H Q ⟨H0,F,O,S,q⟩=>#[H0,F,O,S,λv H1 d b=>by
    refine#[!decide (v=.non),rfl,?_]
    have e:decide (v=.non)=x.isNone:=by
     cases x with
     |none=>cases b;rfl
     |some a =>
      have c:v≠.non:=by rintro rfl;exact f _ _ _ a b
      rw[X1 c];rfl
    rw[e];exact q H1 d]
variable{γ:Type}[Py γ]{e3:Õ}{b3:Bool}
def IJ{op a:ş}{x:M}{y:β}{z:γ}{c':Bool}(h1:CV X op x y c)(h2:CV X a y z c')(ha:E X U e1 b1 x)(l:E X U e2 b2 y)(k:E X U e3 b3 z)(p:Ŵ [op,a] [e2,e3]=Â:=by stop rfl):E X U (.Compare e1 [op,a] [e2,e3] pos) Á (c&&c'):=by
 stop
  obtain⟨r,j,o⟩:=h1;obtain⟨s,f,e⟩:=h2
  exact aP (GN j f ha l k p) λY H Q ⟨H0,F,O,S,q⟩=>#[H0,F,O,S,λv H1 b m=>#[H0,F,O,S.go b,λw H2 d i =>
   o _ _ H2 v w _ (ay ((ah d).trans (av _ _)) m) (ay (av _ _) i) #[c,rfl,by
    cases c with
    |false=>exact q _ H2 (b.trans d) rfl
    |true=>exact#[H0,F,O,(S.go b).go d,λu g h n=>e _ _ g w u _ (ay ((ah h).trans (av _ _)) i) (ay (av _ _) n) (q _ g (b.trans (d.trans h)) rfl)]]]]
def Bl{op a:ş}{x:M}{y:β}{z:γ}{c':Bool}(h1:CV X op x y c)(h2:CV X a y z c')(ha:E X U e1 b1 x)(l:E X U e2 b2 y)(k:E X U e3 b3 z)(p:Ŵ [op,a] [e2,e3]=Â:=by stop rfl):T X U (.Compare e1 [op,a] [e2,e3] pos) (c&&c'):=by
 stop
  obtain⟨r,j,o⟩:=h1;obtain⟨s,f,e⟩:=h2
  exact uV (EF j f ha l k p) λY H Q ⟨H0,F,O,S,q⟩=>#[H0,F,O,S,λv H1 b m=>#[H0,F,O,S.go b,λw H2 d i =>
   o _ _ H2 v w _ (ay ((ah d).trans (av _ _)) m) (ay (av _ _) i) #[c,rfl,by
    cases c with
    |false=>exact#[Â,rfl,q H2 (b.trans d)]
    |true=>exact#[H0,F,O,(S.go b).go d,λu g h n=>e _ _ g w u _ (ay ((ah h).trans (av _ _)) i) (ay (av _ _) n) #[c',rfl,q g (b.trans (d.trans h))]]]]]
end
def QO:GD:={nx:=λ_=>True,rt:=λ_=>False}
section
variable{P:Ñ}{w:Û}{K:Ã}{mg:Ð->Option Ä}{base:â}{N ps:List Ð}{x qual:Ð}{st:Ò}{f:Ç}{k:Nat}{fd:ð}
def DM{gs:List Bd}{vs:List V}{O:Ç->Prop}{b:Bool}{Q:VK}{a:Ä}{A:ä}{outer:List Ł}{s:Æ}{E:XK}(B:⇑Body N qual st f k gs QO)(d:dZ k (A.deeper (ġ qual (ag st) s.heap.objs.size f a)))
  (c:pR H O) (h:Args K .G vs gs) (q:∀r H',aG H H'->Py.rp K (Nf H b) (off H' O) r ()->Q r H'):
  ∃t,rh (uh pN P w K mg base N qual (ag st) f a A outer s H E).KO (cb st) t/\t {nx:=λ_ H'=>Q .non H',rt:=Q} (start N vs) H:=by stop refine#[_,B a A outer s H E d,H,O,O,oK c h,λ_ _ H' _ _ Z _=>q .non H' Z.same rfl,λg v H' sm z e=>e.elim,λ_ _ _ _ _ _ z=>z.elim,λ_ _ _ _ _ _ z=>z.elim]
noncomputable def sY{M:Type}(_:M):Unit:=()
def Qq{M:Type}[Py M]{pre:M->Prop}{b:Bool}(F:t6 K x qual st f fd)(d:ao N ps (ag st))(g:ps.length=1)(B:∀a,pre a->⇑Body N qual st f k [.val Â a] QO):
  fR P w K mg base pN (k+1) f fd ps (dg K pre b (sY (M:=M))):=by
 stop
  refine F.ok d (λvs H Q E h=>?_) λc A outer s H vs Q E i h=>?_
  .obtain⟨O,v,a,_,rfl,_⟩:=h;rw[g];rfl
  .obtain⟨O,v,a,e,rfl,r,hp,q⟩:=h;exact DM (B a hp) i e (.cons r .nil) q
end
def AJ{O:Ç->Prop}(b:∀p,O p->∃xs:Mt,H p=À (mo xs))(p:Ç)(xs:List V)(h:Rt H p xs):Rt .G p xs:=by
 have a:¬O p:=λz=>by
  obtain⟨ys,e⟩:=b p z;rcases h with h|⟨o,h⟩
  .rw[e] at h;rcases ys with ys|ys|ys<;>cases h
  .rw[e] at h;rcases ys with ys|ys|ys<;>cases h
 rcases h with h|⟨o,h⟩
 .exact .inl (by rw[aU a];exact h)
 .exact .inr #[o,by rw[aU a];exact h]
theorem vI{M β:Type}{F:M->β->Prop}:∀{b a:List M} {m₁ m₂:List β},ß F b m₁->ß F a m₂->ß F (b++a) (m₁++m₂)
 |_,_,_,_,.nil,h=>h
 |_,_,_,_,.cons h r,h'=>.cons h (vI r h')
section
variable{X:Cx}{U:aK}{D:GD}{M β γ:Type}[Py M][Py β][Py γ]{e e1 e2:Õ}{b b1 b2:Bool}{pos:ò}{st rest:List Ò}
def cP{a a':M}(h:E X U e b a)(ha:a=a'):E X U e b a':=by stop subst ha;exact h
def Hu{xs ys:List M}(ha:E X U e1 Á xs)(o:E X U e2 Á ys)(t:xs.length+ys.length<=1000):E X U (.BinOp e1 .Add e2 pos) Á (xs++ys):=by
 stop
  exact aP (yq MX ha o) λY H Q ⟨H0,F,O,S,q⟩=>#[H0,F,O,S,λv H1 g r=>#[H0,F,O,S.go g,λw H2 e s=>by
    obtain⟨p,vs,e1,k,n,c⟩:=r;obtain⟨i,a,e2,u,m,f⟩:=s;have h1:H2 p=À (.lst vs):=e _ _ ((av _ _) _ _ n.2);have h2:H2 i=À (.lst a):=(av _ _) _ _ m.2;refine#[p,i,vs,a,e1,e2,h1,h2,by rw[bG c,bG f];exact Y0 (dc t),λl d=>?_];obtain⟨h,j⟩:=cJ (xs:=vs++a) ((S.go g).go e) d
    exact q _ _ (g.trans (e.trans h)) #[l,_,rfl,dX.of j,Nf.wk (b:=Á) (((S.go g).go e).iD d) j,vI (bN (λ_ _ z=>ay ((ah e).trans (ah h)) z) c) (bN (λ_ _ z=>ay (ah h) z) f)]]]
def Ag[PyT M]{es:List Õ}{as:List M}(h:EA X U es b as)(f:as.length<=1000):EN X U (.List es pos) as:=by
 stop
  exact aP (Am h) λY H Q ⟨H0,F,O,S,q⟩=>#[H0,F,O,S,λvs H1 a c=>#[by rw[bG c];exact Y0 (dc f),λp hp=>by
    obtain⟨d,e⟩:=cJ (xs:=vs) (S.go a) hp
    exact q _ _ (a.trans d) #[p,vs,rfl,dX.of e,#[a.free hp,e],bN (λ_ _ r=>PyT.free (λ_ _ w=>w) (ay (ah d) r)) c]]]
def OU{x y:M}(f:T X U e c)(ha:c=Á->EN X U e1 x)(g:c=Â->EN X U e2 y):EN X U (.IfExp e e1 e2 pos) (if c then x else y):=by
 stop
  cases c with
  |true=>exact aP (iT f (ha rfl) qf) λY H Q ⟨H0,F,O,S,q⟩=>#[H0,F,O,S,λH1 a=>t_ #[H0,F,O,S.go a,λw H2 b d=>q w H2 (a.trans b) (mU a d)]]
  |false=>exact aP (iT f qf (g rfl)) λY H Q ⟨H0,F,O,S,q⟩=>#[H0,F,O,S,λH1 a=>t9 #[H0,F,O,S.go a,λw H2 b d=>q w H2 (a.trans b) (mU a d)]]
def yE[PyT M](i:Nat)(b:Bool){as:List M}(c:U[i]?=À (À (.dpo as)))(h:S X (U.set i (À (.own b as))) st D):S X U st D:=by
 stop
  exact tj h λx Y H ⟨H0,F,O,Z,n,r,bk,ct⟩=>by
   refine#[H0,F,O,#[Z.same,Z.fo,Z.f0,Z.own,by rw[YG];exact Z.len,λj g e no=>?_,?_],n,r,bk,ct]
   .by_cases a:j=i
    .subst a;have f:j<U.length:=(Xy.mp c).1;rw[get_set_eq f] at e;have d:Bd.own b as=g:=XJ (XJ e);exact absurd (d▸(É:(Bd.own b as).g7)) no
    .rw[get_set_ne a] at e;exact Z.at_ j g e no
   .obtain⟨s,u,t,k⟩:=Z.dis;refine#[s,u,t,λj g e o=>?_];by_cases a:j=i
    .subst a;have f:j<U.length:=(Xy.mp c).1;rw[get_set_eq f] at e;have d:Bd.own b as=g:=XJ (XJ e);subst d;obtain⟨v,q1,p,xs,q,w,l,m⟩:=k j _ c É;exact#[v,q1,p,xs,q,l.1,l.2,bN (λ_ _ z=>PyT.free (AJ Z.own) z) m]
    .rw[get_set_ne a] at e;exact k j g e o
end
end L2.EP
namespace L2
open PySem PySem.Spec PyProof.Rows
section
variable{X:Cx}{pos:ò}
end
end L2
namespace L2.EP
open PySem PySem.Spec PyProof.Rows
section
variable{X:Cx}{U:aK}{D:GD}{M β γ:Type}[Py M][Py β][Py γ]{e e1 e2:Õ}{b b1 b2:Bool}{pos:ò}{rest st:List Ò}
def xq{xs:List M}{k:Int}{p2:ò}(ha:E X U e1 b xs)(j:E X U e2 b2 k)(u:0<=k):E X U (.Subscript e1 (.Slice none (À e2) none p2) pos) b (xs.take k.toNat):=by
 stop
  exact aP (m_ vz ha rB (qV j)) λY H Q ⟨H0,F,O,S,q⟩=>#[H0,F,O,S,λv H1 c o=>#[H0,F,O,S.go c,λw H2 a s=>by
    obtain⟨p,vs,e,t,n,r⟩:=o;refine#[k,s,p,vs,e,(av _ _).seq ((ah a).seq t),λl h=>?_];obtain⟨g,i⟩:=cJ (xs:=jV vs none (À k)) ((S.go c).go a) h;refine q _ _ (c.trans (a.trans g)) #[l,_,rfl,dX.of i,Nf.wk (((S.go c).go a).iD h) i,?_]
    have ec:jV vs none (À k)=vs.take k.toNat:=by
     unfold jV;have m:k=((k.toNat:Nat):Int):=by lia
     rw[m,HT.qO,HT.nD];simp only[Ö,Ϡ,Nat.sub_zero];by_cases d:k.toNat<=vs.length
     .rw[acP d]
     .rw[acz .b,ZH (Xu _),ZH .b]
    have f:=bN (λ_ _ z=>ay ((ah a).trans (ah g)) z) (wX k.toNat r);rw[<-ec] at f
    exact f]]
def DA(f:X.calm=Á):kM X (.builtin "min") (λxs H Q=>∃p,∃ns:List Int,xs=[.ref p]/\dX X.K H p (ns.map V.int)/\0<ns.length/\∀α,α∈ns->(∀a,a∈ns->α<=a)->Q (.int α) H):=by
 intro Z2 s Y H xs us Q I r h;obtain⟨p,ns,rfl,m,b,q⟩:=h;obtain⟨u,rfl,e⟩:=vals1 r;cases e;obtain⟨XV,k,pl,_⟩:=I.list m;have hi:=intsAre_of k;obtain⟨ys,d⟩:=hi.allInts.items;have c:s.heap.IsList p (intItems ys):=d▸pl.isList
 have e1:ns=ys.toList.map (·.1):=by
  rw[<-nums_intItems,<-d];exact(show numsOf XV.toArray.toList=ns from hi.numsOf).symm
 have hsz:0<ys.size:=by rw[e1,Xv,XG] at b;exact b
 refine min_intList (I.ok.hd f) c hsz λv h' tk g i=>?_;obtain⟨t,rfl⟩:=intItems_at g;obtain⟨h1,h2⟩:=argBest_lt (numAt ys) (ys.size-1);refine#[.int _,H,I.kept i,#[_,rfl],q _ ?_ λa ha=>?_]
 .rw[e1,ύ];exact getD_mem (by rw[Xv,XG];lia)
 .rw[e1] at ha;obtain⟨j,l,rfl⟩:=mem_getD ha;rw[Xv,XG] at l;rw[<-ύ];exact h2 j .b
def Dg(f:X.calm=Á):kM X (.builtin "max") (λxs H Q=>∃p,∃ns:List Int,xs=[.ref p]/\dX X.K H p (ns.map V.int)/\0<ns.length/\∀α,α∈ns->(∀a,a∈ns->a<=α)->Q (.int α) H):=by
 intro Z2 s Y H xs us Q I r h;obtain⟨p,ns,rfl,m,b,q⟩:=h;obtain⟨u,rfl,e⟩:=vals1 r;cases e;obtain⟨XV,k,pl,_⟩:=I.list m;have hi:=intsAre_of k;obtain⟨ys,d⟩:=hi.allInts.items;have c:s.heap.IsList p (intItems ys):=d▸pl.isList
 have e1:ns=ys.toList.map (·.1):=by
  rw[<-nums_intItems,<-d];exact(show numsOf XV.toArray.toList=ns from hi.numsOf).symm
 have hsz:0<ys.size:=by rw[e1,Xv,XG] at b;exact b
 refine max_intList (I.ok.hd f) c hsz λv h' tk g i=>?_;obtain⟨t,rfl⟩:=intItems_at g;obtain⟨h1,h2⟩:=argBest_gt (numAt ys) (ys.size-1);refine#[.int _,H,I.kept i,#[_,rfl],q _ ?_ λa ha=>?_]
 .rw[e1,ύ];exact getD_mem (by rw[Xv,XG];lia)
 .rw[e1] at ha;obtain⟨j,l,rfl⟩:=mem_getD ha;rw[Xv,XG] at l;rw[<-ύ];exact h2 j .b
def Aj{ns:List Int}{m:Int}{p:ò}(j:X.calm=Á)(f:Gl X "min")(i:X.mg "min"=none)(ha:E X U e b ns)(k:0<ns.length)(h1:m∈ns)(h2:∀a,a∈ns->m<=a)(d:autoParam (Å [e] X.env=(Â,Ý e X.env)::Å [] X.env) zra):E X U (.Call (.Name "min" p) [e] [] pos) Á m:=by
 stop
  exact aP (f7 (DA j) f i boot_min (aD ha bq d) (he:=d)) λY H Q ⟨H0,F,O,S,q⟩=>#[H0,F,O,S,λv H1 g h=>by
    obtain⟨p,vs,e,c,n,r⟩:=h;rw[sO r] at c;refine#[p,ns,by rw[e],(av _ _).seq c,k,λα m1 m2=>q _ H1 g ?_];have:=h2 α m1;have:=m2 m h1;show V.int α=V.int m
    rw[show α=m by lia]]
def zL{ns:List Int}{m:Int}{p:ò}(j:X.calm=Á)(f:Gl X "max")(i:X.mg "max"=none)(ha:E X U e b ns)(k:0<ns.length)(h1:m∈ns)(h2:∀a,a∈ns->a<=m)(d:autoParam (Å [e] X.env=(Â,Ý e X.env)::Å [] X.env) zra):E X U (.Call (.Name "max" p) [e] [] pos) Á m:=by
 stop
  exact aP (f7 (Dg j) f i boot_max (aD ha bq d) (he:=d)) λY H Q ⟨H0,F,O,S,q⟩=>#[H0,F,O,S,λv H1 g h=>by
    obtain⟨p,vs,e,c,n,r⟩:=h;rw[sO r] at c;refine#[p,ns,by rw[e],(av _ _).seq c,k,λα m1 m2=>q _ H1 g ?_];have:=h2 α m1;have:=m2 m h1;show V.int α=V.int m
    rw[show α=m by lia]]
end
def Ja{X:Cx}:ku X (ď .Add) (λx y H Q=>∃l b xs zs,x=.ref l/\y=.ref b/\dX X.K H l xs/\dX X.K H b zs/\xs.length+zs.length<=sizeLine/\∀p,H p=none->Q (.ref p) (upd H p (.lst (xs++zs)))):=by
 intro Z2 s Y H x y v u Q I E z h;obtain⟨l,b,xs,zs,rfl,rfl,w,B,hz,q⟩:=h;cases E;cases z;obtain⟨XV,r,pl,_⟩:=I.list w;obtain⟨a,o,i,_⟩:=I.list B;obtain⟨⟨cls,J,data,sl⟩,n,j,k,f,t⟩:=pl;obtain⟨⟨m,D,data2,g⟩,C,e,d,c,hd2⟩:=i;simp only at k f t d c hd2;subst k f t d c hd2;have G:=r.length;have L:=o.length;have A:XV.toArray++a.toArray=(XV++a).toArray:=by simp
 refine concat_meets #[_,j,rfl] #[_,e,rfl] noFill_list_add seq_list_add PySem.F.slot_list_add PySem.F.entry_list_add (PySem.F.args_list_add_2 _ _) (list_addW l b XV.toArray a.toArray n C none none sl g (by rw[XR,XR];lia)) #[j,e,?_];rw[A];exact#[.ref _,_,I.IK (t':=s.toks) (r.append o) (by rw[XQ];lia),rfl,q _ I.fresh]
section
variable{X:Cx}{U:aK}{D:GD}{M β γ:Type}[Py M][Py β][Py γ]{e e1 e2:Õ}{b b1 b2:Bool}{pos:ò}{rest st:List Ò}
def fK[PyT M]{xs ys:List M}(ha:E X U e1 b1 xs)(n:E X U e2 b2 ys)(s:xs.length+ys.length<=1000):E X U (.BinOp e1 .Add e2 pos) Á (xs++ys):=by
 stop
  exact aP (yq Ja ha n) λY H Q ⟨H0,F,O,S,q⟩=>#[H0,F,O,S,λv H1 g o=>#[H0,F,O,S.go g,λw H2 e r=>by
    obtain⟨p,vs,e1,h,x,a⟩:=o;obtain⟨m,c,e2,j,u,f⟩:=r;refine#[p,m,vs,c,e1,e2,(av _ _).seq ((ah e).seq h),(av _ _).seq j,by rw[bG a,bG f];exact Y0 (dc s),λl d=>?_];obtain⟨i,k⟩:=cJ (xs:=vs++c) ((S.go g).go e) d;refine q _ _ (g.trans (e.trans i)) #[l,_,rfl,dX.of k,Nf.wk (b:=Á) (((S.go g).go e).iD d) k,vI ?_ ?_]
    .exact bN (λ_ _ z=>PyT.free (λ_ _ t=>aG.rt ((ah e).trans (ah i)) t) z) a
    .exact bN (λ_ _ z=>PyT.free (λ_ _ t=>aG.rt (ah i) t) z) f]]
end
end L2.EP
namespace L2
open PySem PySem.Spec PyProof.Rows
noncomputable def RU(K : Ã)(a : Ç) : It :=
  #[λi H=>∃xs x,dX K H a xs/\xs[i]?=À x,
   λi H v H'=>∃T x,H T=none/\v=.ref T/\H'=upd H T (.tup [.int (i : Int),x])/\∀xs,dX K H a xs->xs[i]?=À x,
   λi H=>∃xs,dX K H a xs/\xs.length<=i]
def DC{P:Ñ}{w:Û}{K:Ã}{elts:List Õ}{kk:Nat}{tp:ò}(z it a:Ç):Turn P w K (.Tuple elts kk tp) (RU K a) [z,it] z
  (λi h=>(∃old,IsEnum h z it ((i:Nat):Int) old)/\h.IsListIter it a i) where
 mem:=by simp
 obj:=λi h st c A=>by
  obtain⟨⟨old,hz⟩,h1⟩:=st;have d:c=z\/c=it:=by simpa using A
  rcases d with e|e
  .subst e;exact#[_,hz,λv q=>by cases q]
  .subst e;obtain⟨o,q1,q2,y⟩:=h1;exact#[o,q1,λv q=>by rw[y] at q;cases q]
 keep:=λi h h' st k=>by
  obtain⟨⟨old,hz⟩,h1⟩:=st;exact#[#[old,k z .c _ hz],h1.at λo e=>k it .c o e]
 item:=by
  intro X N T V A i Z2 s Y H E I g st J;subst N T V;obtain⟨xs,x,B,gx⟩:=J;obtain⟨⟨old,hz⟩,h1⟩:=st;obtain⟨ix,L,F,_⟩:=I.list B;have X':∀{s t:String},s≠t->û s≠û t:=λne e=>ne (by injection e)
  have l:z≠it:=by
   obtain⟨o1,C,b1,_⟩:=h1;exact dv hz C (by rw[b1];exact X' .a)
  obtain⟨u,ux,α⟩:=L.get gx;refine wpAny_pyNext_enum_item hz h1 F.isList ↑ux l λh' C a3 a5 a6 f=>?_;have S:H s.heap.objs.size=none:=I.hok.fresh (Xu _)
  have I1:Inv X Z2 Y (upd H s.heap.objs.size (.tup [.int (i:Int),x])) {s with heap:=h',toks:=s.toks+1}:=by
   refine I.Bx (ch:=[z,it]) (Xu _) (λc o d e=>f c o (λq=>d (by simp[q])) (λq=>d (by simp[q])) e) (λc o e=>?_) (λc d=>g c d) ?_
   .by_cases q1:c=z
    .subst q1;exact#[_,C]
    by_cases y:c=it
    .subst y;obtain⟨o',q,_⟩:=a3;exact#[o',q]
    exact#[o,f c o q1 y e]
   .exact#[by show 2<=sizeLine;decide,[.int i s.toks,u],.cons #[_,rfl] (.cons α .nil),#[_,a5,rfl,_,rfl]]
  refine#[_,rfl,?_];have p:=g z .c;refine wpAny_letOwnedTupleGo_enum C λQ G j=>?_;have zT:z≠s.heap.objs.size:=X5 (XE hz);have I2:Inv X Z2 Y (upd H s.heap.objs.size (.tup [.int (i:Int),x])) {({s with heap:=h',toks:=s.toks+1}:Æ) with heap:=Q,toks:=s.toks+1}:=I1.turned (λc o d e=>j.extBut c o d e) (by rw[aC zT];exact p.1) p.2.1 p.2.2.2.1 p.2.2.2.2.1 p.2.2.2.2.2;refine#[.ref s.heap.objs.size,upd H s.heap.objs.size (.tup [.int (i:Int),x]),I2,rfl,#[s.heap.objs.size,x,S,rfl,rfl,λxs' Γ=>?_],#[#[_,G],a3.extBut j.extBut (Z5 l)],λc d=>?_]
  .rw[I.nZ Γ B];exact gx
  .have R:c<s.heap.objs.size:=by
    have D:c=z\/c=it:=by simpa using d
    rcases D with e|e
    .subst e;exact XE hz
    .subst e;obtain⟨_,q,_⟩:=h1;exact XE q
   rw[aC (X5 R)];exact(g c d).1
 done:=by
  intro X N T V A i Z2 s Y H E I g st J;subst N T V;obtain⟨xs,B,σ⟩:=J;obtain⟨⟨old,hz⟩,h1⟩:=st;obtain⟨ix,L,F,_⟩:=I.list B;refine wpAny_pyNext_enum_end (I.ok.hd A) hz h1 F.isList ?_ λh' f=>#[rfl,?_]
  .have:=L.length;simp;lia
  .have f1:=g it .c
   refine I.step (g':=s.gens) (d':=s.drawn) (t':=s.toks) (ch:=[it]) (λb Z=>?_) (λb o _ _ d e _=>f b o (λq=>d (by simp[q])) e) (λb o _ _ d e _=>#[o.slots,f b o (λq=>d (by simp[q])) e]) (λ_ _ _ _ n=>n)
    (λb o d e=>#[o,f b o (λq=>d (by simp[q])) e]) (λ_ _ e=>e) (λ_ _ _ e=>e) (λb ps e=>#[#[],by rw[e];simp]) (λm hm=>?_) (λb u e=>?_) I.bare
   .have q:=g b (by simp at Z ⊢;simp[Z]);exact#[q.2.2.2.1,q.2.1,q.2.2.2.2.1,q.2.2.2.2.2]
   .obtain⟨o,es,ep,ho,r⟩:=hm;exact#[o,es,ep,f _ o (Z5 f1.2.1) ho,r]
   .have nn:∀c v,H c=À v->c≠it:=λc v e q=>by rw[q,f1.1] at e;cases e
    refine(I.hok b u e).w6 (λc v d q=>?_) (λ_ q=>q) λ_ _ q=>q;rcases d with O|O
    .subst O;exact f c v (nn c _ e) q
    .exact f c v (nn c _ O) q
 self:=λ_ _ _ _ _ st h=>by
  obtain⟨⟨old,hz⟩,_⟩:=st;exact Ϻ hz h
section
variable{X:Cx}{elts:List Õ}{kk:Nat}{tp:ò}
def OP(K:Ã)(ta:TA):TI:=λY H R=>ta Y H λvs H1=>∃a,vs=[.ref a]/\(∃xs,dX K H1 a xs)/\R (RU K a) H1
def ID{e1:Õ}{ta:TA}{p pos:ò}(k:Gl X "enumerate")(v:X.mg "enumerate"=none)(ha:PA X [e1] ta)(he:autoParam (Å [e1] X.env=(Â,Ý e1 X.env)::Å [] X.env) zra)
  (hpl:(ì pos (Å [] X.env)).any (·.1)=Â:=by rfl):PI X (.Tuple elts kk tp) (.Call (.Name "enumerate" p) [e1] [] pos) (OP X.K ta):=by
 intro Z2 s Y H R I h;refine Call_ (ic I k v PyProof.Rows.boot_enumerate (Za (cy (ha pos Z2 s Y H _ I h) λus b ⟨vs,H1,f,r,q1⟩=>?_) he hpl));obtain⟨a,e,⟨xs,n⟩,q⟩:=q1;subst e;obtain⟨u,rfl,o⟩:=vals1 r;cases o;obtain⟨x,w,j,_⟩:=f.list n;refine call_enumerate_list j.isList λh' i l y m=>?_;have t:Inv X Z2 Y H1 {b with heap:=h',toks:=b.toks}:=f.kept m;refine Ϻ (s:={b with heap:=h'}) i ?_;refine#[b.heap.objs.size+1,[b.heap.objs.size+1,b.heap.objs.size],_,RU X.K a,H1,rfl,t,DC (b.heap.objs.size+1) b.heap.objs.size a,#[#[_,i],l],λc g=>?_,q]
 have d:b.heap.objs.size<=c:=by
  simp at g;rcases g with e|e<;>subst e<;>lia
 exact f.zJ d (f.hok.fresh d)
end
end L2
namespace L2.EP
open PySem PySem.Spec PyProof.Rows
noncomputable def D2{M:Type}(xs:List M):List (Int×M):=xs.mapIdx λi x=>((i:Int),x)
def Bq{M:Type}{xs:List M}{i:Nat}{u:Int×M}(h:(D2 xs)[i]?=À u):xs[i]?=À u.2/\u.1=(i:Int):=by
 unfold D2 at h;rw[ť] at h;cases e:xs[i]? with
 |none=>rw[e] at h;cases h
 |some x=>rw[e] at h;cases h;exact#[rfl,rfl]
def vR{M:Type}(xs:List M):(D2 xs).length=xs.length:=by unfold D2;rw[List.length_mapIdx]
section
variable{X:Cx}{U:aK}{M β:Type}[Py M][Py β]{e1 e2:Õ}{b1 b2:Bool}{elts:List Õ}{kk:Nat}{tp p ps:ò}
def Ci{xs:List M}(l:Gl X "enumerate")(C:X.mg "enumerate"=none)(h1:E X U e1 b1 xs)(c:autoParam (Å [e1] X.env=(Â,Ý e1 X.env)::Å [] X.env) zra)
  (hpl:(ì ps (Å [] X.env)).any (·.1)=Â:=by rfl):EI X U (.Tuple elts kk tp) (.Call (.Name "enumerate" p) [e1] [] ps) b1 (D2 xs):=by
 stop
  exact#[_,ID l C (aD h1 bq c) c hpl,λY H H0 F O R Z q=>#[H0,F,O,Z,λv H1 n y=>by
    obtain⟨a,d,m,e,na,j⟩:=y;refine#[a,by rw[m],#[d,(av _ _).seq e],q _ H1 n λH' A f sm=>#[λi u D=>?_,?_]]
    .obtain⟨o,hi⟩:=Bq D;obtain⟨x,k,r⟩:=gQ j o;have b:=(av _ _).seq (sm.seq e);refine#[#[d,x,b,k],λI B s=>?_];obtain⟨T,G,h,rfl,rfl,t⟩:=s;have ex:=t d b;rw[k] at ex;cases ex
     have g:¬A T:=λz=>by
      obtain⟨zs,w⟩:=f T z;rw[h] at w;cases w
     refine#[cD h _,T,.int (i:Int),x,rfl,.inl (by rw[aU g];exact aQ),?_,?_]
     .show V.int _=V.int _;rw[hi]
     .exact ay (sm.trans (ah (cD h _))) r
    .refine#[d,(av _ _).seq (sm.seq e),?_];rw[bG j,vR]
     lia]]
end
theorem A0{M β:Type}{F:M->β->Prop}{l:List M}{m:List β}(h:ß F l m):∀k,ß F (Ê k l).flatten (Ê k m).flatten
 |0=>.nil
 |k+1=>by
  rw[YW,ZT,YW,ZT];exact vI h (A0 h k)
section
variable{X:Cx}{U:aK}{D:GD}{M β γ:Type}[Py M][Py β][Py γ]{e e1 e2:Õ}{b b1 b2:Bool}{pos:ò}{rest st:List Ò}
def Qb{xs:List M}{k:Int}(ha:E X U e1 Á xs)(j:E X U e2 b2 k)(r:0<=k)(h1:k<=1000)(o:xs.length*k.toNat<=1000):E X U (.BinOp e1 .Mult e2 pos) Á (Ê k.toNat xs).flatten:=by
 stop
  exact aP (yq Hj ha j) λY H Q ⟨H0,F,O,S,q⟩=>#[H0,F,O,S,λv H1 e m=>#[H0,F,O,S.go e,λw H2 d n=>by
    obtain⟨p,vs,e1,h,i,a⟩:=m;have h1:H2 p=À (.lst vs):=d _ _ ((av _ _) _ _ i.2);refine#[p,k,vs,e1,n,h1,.b,.b,by rw[bG a];exact Y0 (dc o),λl c=>?_];obtain⟨f,g⟩:=cJ (xs:=(Ê k.toNat vs).flatten) ((S.go e).go d) c
    exact q _ _ (e.trans (d.trans f)) #[l,_,rfl,dX.of g,Nf.wk (b:=Á) (((S.go e).go d).iD c) g,A0 (bN (λ_ _ z=>ay ((ah d).trans (ah f)) z) a) _]]]
theorem vF{a:M}:∀k,(Ê k [a]).flatten=Ê k a
 |0=>rfl
 |k+1=>by rw[YW,ZT,vF k,YW];rfl
def FR{a:M}{k:Int}(ha:E X U e1 Á [a])(b:E X U e2 b2 k)(c:0<=k)(h1:k<=1000):E X U (.BinOp e1 .Mult e2 pos) Á (Ê k.toNat a):=by
 rw[<-vF];exact Qb ha b c h1 (by simp;lia)
end
end L2.EP
namespace L2.Sx
open PySem
variable{i j n:Nat}{xs:Array Nat}{ns:List Int}{l:Bool}{h:â}{k:Int}{f:Ä}{os:List Nat}
def CH(xs:Array Nat):Prop:=xs.toList.Pairwise (·<·)
def rD(h:CH xs){a b:Nat}(c:a<b)(d:b<xs.size):xs.getD a 0<xs.getD b 0:=by
 have h1:=acj.mp h a b ↑(acA c d) ↑d c;rw[aap,aap] at h1;simp only[ċ,aa4 (acA c d),aa4 d];exact h1
structure Lb(xs:Array Nat)(j i:Nat):Prop where
 le:i<=xs.size
 lo:∀k,k<i->xs.getD k 0<j
 hi:∀k,i<=k->k<xs.size->j<=xs.getD k 0
def Fs{k d e:Nat}(h:k<xs.size):xs.getD k d=xs.getD k e:=by
 simp only[ċ,aa4 h]
theorem D_{xs:Array Nat}{j:Nat}(g:CH xs):∀(fuel lo hi:Nat),hi-lo<=fuel->lo<=hi->hi<=xs.size->(∀k,k<lo->xs.getD k 0<j)->(∀k,hi<=k->k<xs.size->j<=xs.getD k 0)->Lb xs j (ħ xs j fuel lo hi)
 |0,lo,hi,h1,h2,i,f,h=>by
  unfold ħ;exact#[.b,f,λk a b=>h k .b b]
 |fuel+1,lo,hi,h1,h2,i,f,h=>by
  unfold ħ;by_cases d:lo<hi
  .rw[Xo d];dsimp only;have l:(lo+hi)/2<xs.size:=by lia
   rw[Fs (e:=0) l];by_cases c:xs.getD ((lo+hi)/2) 0<j
   .rw[Xo c];refine D_ g fuel _ _ .b .b i (λk m=>?_) h;rcases abd (ρ m) with z|z
    .exact acA (rD g z l) c
    .rw[z];exact c
   .rw[Xl c];refine D_ g fuel _ _ .b .b .b f (λk a b=>?_);rcases abd a with z|z
    .exact Ye (acs c) (Y0 (rD g z b))
    .rw[<-z];exact acs c
  .rw[Xl d];exact#[.b,f,λk a b=>h k .b b]
def sC(c:CH xs)(j:Nat):Lb xs j (Ù xs j) :=
 D_ c _ _ _ .b .b (Xu _) (λk h=>absurd h (ZA k)) (λk a b=>absurd b .b)
def A3(a:CH xs):Ù xs 0=0:=by
 have h:=sC a 0;rcases aba (Ù xs 0) with z|z
 .exact z
 .exact absurd (h.lo 0 z) (ZA _)
def zG(a:CH xs)(hi:i<xs.size):Ù xs (xs.getD i 0+1)=i+1:=by
 have h:=sC a (xs.getD i 0+1);rcases Nat.lt_trichotomy (Ù xs (xs.getD i 0+1)) (i+1) with z|z|z
 .have:=h.hi i .e hi;omega
 .exact z
 .have h1:=h.lo (i+1) z;have h2:=rD a (show i<i+1 by omega) (X4 z h.le);omega
def Dl(n:Nat):CH (Array.range n):=by
 unfold CH;rw[Array.toList_range];exact acW
def Ki(g:CH xs)(o:xs[Ù xs j]?≠À j):CH (SetTable.insertAt xs (Ù xs j) j):=by
 have h:=sC g j;unfold CH;rw[SetTable.toList_insertAt];refine List.pairwise_append.mpr #[ac1 (Ξ ..) g,Zb.mpr #[λy l=>?_,ac1 (List.drop_sublist ..) g],λa ha y l=>?_]
 .obtain⟨k,i,e⟩:=aaq.mp l;rw[Ο,aap] at e;rw[Z7,XG] at i;have c:Ù xs j+k<xs.size:=by lia
  have h1:=h.hi (Ù xs j+k) .b c;simp only[ċ,aa4 c] at h1;rcases aba k with z|z
  .subst z;have h2:xs[Ù xs j]?=À xs[Ù xs j]:=Y3 .b;rcases abd h1 with q|q
   .rw[<-e];exact q
   .refine absurd ?_ o;rw[h2];exact congrArg À ↑q.symm
  .have h2:=rD g (a:=Ù xs j) (b:=Ù xs j+k) .b c;have n:=h.hi (Ù xs j) (Xu _) .b;simp only[ċ,aa4 c] at h2;rw[<-e];exact aaG n h2
 .obtain⟨k,i,e⟩:=aaq.mp ha;rw[List.getElem_take,aap] at e;rw[Zs,XG] at i;have h1:=h.lo k .b;simp only[ċ,aa4 (show k<xs.size by lia)] at h1;have d:a<j:=by rw[<-e];exact h1
  rcases Xm.mp l with z|z
  .rw[z];exact d
  .obtain⟨m,p,e2⟩:=aaq.mp z;rw[Ο,aap] at e2;rw[Z7,XG] at p;have f:Ù xs j+m<xs.size:=by lia
   have h2:=h.hi (Ù xs j+m) .b f;simp only[ċ,aa4 f] at h2;rw[<-e2];exact X4 d h2
def qP(t:î)(j:Nat):Prop:=t.place[Ù t.place j]?≠À j
def xN{t:î}(h:t.slot j=.empty\/t.slot j=.dummy):qP t j:=λe=>by
 unfold SetTable.slot at h;simp only[e,aaV,aaC] at h;rcases h with h|h<;>cases h
def uC(t:î)(p:ŷ):(t.advance p).dummy=p.dummy:=by
 unfold SetTable.advance;split<;>rfl
theorem oS{t:î}{f:Nat->Int}{h:Int}:∀(n:Nat) (p:ŷ),(∀d,p.dummy=À d->qP t d)->∀j d,Ħ t f h n p=À (.empty j d)->qP t (d.getD j)
 |0,p,_,j,d,e=>by simp[Ħ] at e
 |n+1,p,hp,j,d,e=>by
  unfold Ħ at e;cases b:t.slot p.j with
  |empty =>
   rw[b] at e;simp only[aaO,θ] at e;obtain⟨rfl,rfl⟩:=e;cases c:p.dummy with
   |none=>exact xN (.inl b)
   |some d=>exact hp d c
  |dummy =>
   rw[b] at e;refine oS n _ (λd' a=>?_) j d e;rw[uC] at a;simp only[aaO] at a;rw[<-a];exact xN (.inr b)
  |live i =>
   rw[b] at e;simp only at e;split at e
   .simp at e
   .exact oS n _ (λd' a=>hp d' (by rw[uC] at a;exact a)) j d e
def HC{t:î}{h:Int}{b:Bool}(e:t.freeSlot h=À (j,b)):qP t j:=by
 unfold SetTable.freeSlot at e;split at e
 .rename_i f d a;have:=oS (t:=t) _ _ (λd c=>by simp[SetTable.probeStart] at c) _ _ a;simp only[aaO,ac9] at e;rw[<-e.1];exact this
 .cases e
structure Gd(l:Bool)(t:î):Prop where
 led:t.led=l
 inc:CH t.place
def FK(l:Bool):Gd l (.fresh 0 0 l):=#[rfl,by unfold CH SetTable.fresh;exact .nil]
def nA{t:î}(h:Gd l t)(n:Nat):Gd l (t.standIn n):=#[h.led,Dl n]
def MZ{t:î}(h:Gd l t)(es:Array (Int×Ä))(c:Int)(x:Ä):Gd l (layNew t es c x).2.1:=by
 unfold layNew;split
 .rename_i j b e;have a:=HC e;have g:Gd l (t.put j).1:=#[h.led,Ki h.inc a];show Gd l ((t.put j).1.orStandIn _);unfold SetTable.orStandIn;split
  .exact g
  .exact nA g _
 .exact nA h _
def Ir{mask m mo:Nat}{pl:Bool}{k:Array Int}{t:î}{o:Array Nat}(e:Κ mask m mo l pl k=À (t,o)):Gd l t:=by
 unfold Κ at e;cases i:SetTable.layClean mask k with
 |none=>rw[i] at e;cases e
 |some h =>
  rw[i] at e;simp only[Option.bind_eq_bind,Option.bind_some,Option.pure_def,aaO,ac9] at e;rw[<-e.1];refine#[rfl,?_];unfold CH;simp only;rw[List.map_filterMap]
  have:∀l:List Nat,l.Pairwise (·<·)->(l.filterMap λj=>Š (·.1) ((h.getD j none).map λx=>(j,x))).Pairwise (·<·):=λl n=>by
   refine List.Pairwise.filterMap _ (λa a' g b d b' c=>?_) n;cases ha:h.getD a none with
   |none=>rw[ha] at d;simp at d
   |some u =>
    rw[ha] at d;cases f:h.getD a' none with
    |none=>rw[f] at c;simp at c
    |some p =>
     rw[f] at c;simp only[Μ,aaO] at d c;rw[<-d,<-c];exact g
  exact this _ acW
def F0{t:î}(h:Gd l t)(es:Array (Int×Ä))(n:Nat):Gd l (Ň t es n).2.1:=by
 unfold Ň;split
 .rename_i t' o e;dsimp only;split
  .unfold SetTable.relaid at e;rw[h.led] at e;exact Ir e
  .exact nA h _
 .exact nA h _
open PySem PyProof.Rows
structure jZ(p:Ñ)(w:Û)(l:Bool)(h:â)(a:Ç)(o:ü)(es:Array (Int×Ä))(ep:Nat)(t:î):Prop where
 get:h.get? a=À o
 ex:o.ExactSet
 dat:o.data=.set es ep t
 el:ElemsOf (ć p w) es.toList
 bd:es.size<Ī
 fit:t.fits es.size=Á
 gd:Gd l t
def o7(p:Ñ)(w:Û)(l:Bool)(h:â)(a:Ç)(ns:List Int):Prop :=
 ∃o es ep t,jZ p w l h a o es ep t/\(∀k,k∈ns↔∃e∈es.toList,(ć p w).is k e.2=Á)/\es.size=ns.length
def o7.keep{p:Ñ}{w:Û}{h':â}{a:Ç}(q:o7 p w l h a ns)(k:∀o,h.get? a=À o->h'.get? a=À o):o7 p w l h' a ns:=by
 obtain⟨o,es,ep,t,g,m,z⟩:=q;exact#[o,es,ep,t,#[k o g.get,g.ex,g.dat,g.el,g.bd,g.fit,g.gd],m,z]
noncomputable def ins(ns:List Int)(k:Int):List Int:=if k∈ns then ns else ns++[k]
section
variable{p:Ñ}{w:Û}{A:ä}{E:Ä->Æ->Prop}{s:Æ}{l:Bool}{a:Ç}
def zu{o:ü}{es:Array (Int×Ä)}{ep:Nat}{t:î}(g:jZ p w l h a o es ep t){b:Array (Int×Ä)}{t':î}(he:ElemsOf (ć p w) b.toList)(c:b.size<Ī)(e:t'.fits b.size=Á)(d:Gd l t'):
  jZ p w l (h.update a (Ν b t')) a {o with data:=.set b (ep+1) t'} b (ep+1) t':=by
 refine#[?_,g.ex,rfl,he,c,e,d];have q:=Zp (Ν b t') g.get (by rw[putSet_of b t' g.dat];rfl)
 rwa [putSet_of b t' g.dat] at q
def add_int{u:Tok}{Q:Bool->Æ->Prop}(X:o7 p w l s.heap a ns)(hr:ns.length+1<Ī)(h:∀b h',Đ a s.heap h'->o7 p w l h' a (ins ns k)->Q b {s with heap:=h'}):
  Î (È p w) A (setAddHashed a (.int k u) ((ć p w).hash k)) Q E s:=by
 obtain⟨o,es,ep,t,g,G,hz⟩:=X;have F:(ć p w).is k (.int k u)=Á:=intKind_is _ _ _ _;have x:(ā k u).scannable=Á:=rfl;have N:byScan (.int k u) es=Á:=byScan_of x g.bd g.el;unfold setAddHashed setAddHashedIn;refine Zg (Xk (aal g.get g.dat g.fit ?_));dsimp only;rw[Xo N];unfold setAddByScan;refine Xk (Xk (ack (Xk (wpAny_setScan_of F g.get g.dat g.fit g.el ?_))));cases V:es.toList.findIdx? (λe=>(ć p w).is k e.2) with
 |some j =>
  obtain⟨hj,hp,_⟩:=List.findIdx?_eq_some_iff_getElem.mp V;have P:k∈ns:=(G k).mpr #[_,Ze hj,hp];refine Xp (Xp (h Â s.heap (Heap.SameBut.refl a s.heap) ?_));unfold ins;rw[Xo P];exact#[o,es,ep,t,g,G,hz]
 |none =>
  have D:k∉ns:=λz=>by
   obtain⟨e,he,hp⟩:=(G k).mp z;have q:=List.findIdx?_eq_none_iff.mp V e he;rw[hp] at q;cases q
  have W:∀(b:Bool) (O:Æ) (R:Unit->Æ->Prop),R () O->Î (È p w) A (match b with|true=>rule "set.scan.the-table-gave-way" |false=>pure ()) R E O:=λb O R q=>by
   cases b with
   |true=>exact ack q
   |false=>exact Xp q
  have n:=layNew_perm t es ((ć p w).hash k) (.int k u);have H:=layNew_fits t es ((ć p w).hash k) (.int k u);have I:=MZ g.gd es ((ć p w).hash k) (.int k u);generalize layNew t es ((ć p w).hash k) (.int k u)=L at n H I ⊢;obtain⟨c,α,wd,gv⟩:=L;dsimp only at n H I ⊢;rw[Zy] at n
  have sz:c.size=es.size+1:=by
   rw[<-XG,n.length_eq,XQ,XG];rfl
  have B:ElemsOf (ć p w) c.toList:=(g.el.push F x).perm n
  have i:∀k',k'∈ns++[k]↔∃e∈c.toList,(ć p w).is k' e.2=Á:=λk'=>by
   rw[Yf,G k',XX];constructor
   .rintro(⟨e,he,q⟩|rfl)
    .exact#[e,n.mem_iff.mpr (Ya _ he),q]
    .exact#[_,n.mem_iff.mpr (XW _ (XX.mpr rfl)),F]
   .rintro⟨e,he,q⟩;rcases Yf.mp (n.mem_iff.mp he) with z|z
    .exact .inl #[e,z,q]
    .rw[XX.mp z] at q;exact .inr ((ć p w).inj _ k' k q F)
  have m:ins ns k=ns++[k]:=by unfold ins;rw[Xl D]
  refine Xk (W _ _ _ ?_)
  have tail:∀d:î,d.fits c.size=Á->Gd l d->Î (È p w) A (do
    storeSet a c d
    if (!wd&&d.tooFull)=Á then do
      (match (Ň d c (Ą c.size)).2.2 with|true=>rule "set.scan.the-table-gave-way" |false=>pure ())
      storeSet a (Ň d c (Ą c.size)).1 (Ň d c (Ą c.size)).2.1
      pure (À Á)
     else pure (À Á)) (λr s'=>Î (È p w) A (match r with|some b=>pure b|none=>setAddHashedIn a (.int k u) ((ć p w).hash k) 99999) Q E s') E s:=λd f2 T=>by
   have J:=zu g B .b f2 T;have Γ:=Yh s.heap a (Ν c d);refine Xk (ϸ g.get g.dat ?_ (abo .b));by_cases S:(!wd&&d.tooFull)=Á
   .rw[Xo S];have f:=relayAll_perm d c (Ą c.size);have y:=relayAll_fits d c (Ą c.size);have v:=F0 T c (Ą c.size);generalize Ň d c (Ą c.size)=R at f y v ⊢;obtain⟨C,Z,gv2⟩:=R;dsimp only at f y v ⊢;have K:C.size=c.size:=by rw[<-XG,f.length_eq,XG]
    have σ:=zu J (B.perm f) .b y v;refine Xk (W _ _ _ (Xk (ϸ J.get J.dat ?_ (abo .b))));refine Xp (Xp (h Á _ (Γ.trans (Yh _ a _)) ?_));rw[m];refine#[_,C,_,Z,σ,λk'=>(i k').trans #[fun⟨e,he,q⟩=>#[e,f.mem_iff.mpr he,q],fun⟨e,he,q⟩=>#[e,f.mem_iff.mp he,q]],?_];rw[XQ,K,sz,hz];rfl
   .rw[Xl S];refine Xp (Xp (h Á _ Γ ?_));rw[m];refine#[_,c,_,d,J,i,?_];rw[XQ,sz,hz];rfl
  cases hp:α.plain with
  |true =>
   rw[Xo rfl,hashByValue_scannable 8 x];exact Xk (Xp (tail α H I))
  |false =>
   exact Xk (Xp (tail α H I))
end
open PySem PyProof.Rows PySem.Spec
def met(f:Nat->Int)(i:Nat):List Int:=((Ô i).map f).foldl ins []
def mQ(f:Nat->Int)(i:Nat):met f (i+1)=ins (met f i) (f i):=by
 unfold met;rw[acN,Zl,ab9];rfl
theorem qW(f:Nat->Int):∀i,(met f i).length<=i
 |0=>Xu _
 |i+1=>by
  have z:=qW f i;rw[mQ];unfold ins;split
  .lia
  .rw[XQ];simp;lia
section
variable{p:Ñ}{w:Û}{A:ä}{E:Ä->Æ->Prop}{s:Æ}{l:Bool}
def FP{R:Λ->Æ->Prop}{I S:Ç}{fp wr:List Ç}{G:Array ϔ->Array ϔ->Prop}{P:Nat->Ä->Prop}{St:Nat->Æ->Prop}(W:WalksS p w A.in1 I fp wr G n P St)(q:S∉fp)(f:Nat->Int)(E:∀i v,P i v->∃t,v=.int (f i) t)(F:n+1<Ī):
  ∀(k i:Nat) (s:Æ),i+k=n->St i s->o7 p w l s.heap S (met f i)->(∀s',Moved (S::wr) G s s'->o7 p w l s'.heap S (met f n)->R (.ok (.ret .none)) s') ->
   Ĝ (È p w) A (.builtin "set.update.loop" #[[.ref S,.ref I],[]]) R s:=by
 have r:S∉wr:=λz=>q (W.sub _ z);have up:∀b∈wr,b∈S::wr:=λb z=>Xx _ z;intro k
 induction k with
 |zero =>
  intro i s B st g fin;obtain rfl:i=n:=by lia
  refine aaI abe ?_;rw[aar aad _];show Î _ A.in1 (Ē (.ref I) >>= _) _ _ s;exact Xk (W.done s _ _ st λs' a=>Xp (fin s' (a.mono up) (g.keep λo e=>a.heap S o r e)))
 |succ k C =>
  intro i s B st g fin;refine aaI abe ?_;rw[aar aad _];show Î _ A.in1 (Ē (.ref I) >>= _) _ _ s;refine Xk (W.item i s _ _ .b st λv s' y j a=>?_);obtain⟨t,rfl⟩:=E i v y;have g':=g.keep (h':=s'.heap) λo e=>a.heap S o r e;show Î _ A.in1 (Ĭ [ā (f i) t] (setAdd S (.int (f i) t)) >>= _) _ _ s';unfold setAdd;refine Xk (Zg (Zg (Xk ((ć p w).pyHash (k:=f i) (intKind_is _ _ _ _) ?_))));have room:(met f i).length+1<Ī:=by have:=qW f i;lia
  refine add_int (s:={s' with toks:=s'.toks+1}) g' room λb h' x u=>?_;rw[<-mQ] at u;refine Xp #[abw aad _,C (i+1) _ .b (W.frame _ s' _ _ j (Ϥ _) λc d o e=>?_) u λm h D=>fin m (Moved.trans W.gtrans ((a.mono up).then_heap (Ϥ _) λc o d e=>?_) h) D]
  .rw[x.2 c λz=>q (z▸d)];exact e
  .rw[x.2 c λz=>d (z▸XA)];exact e
abbrev sN(w:Û):Bool:=!w.params.followText "set-order"
abbrev eS(w:Û):ü:={cls:=.type "set",dict:=none,data:=.set #[] 0 (.fresh 0 0 (sN w))}
def JA(a:Ä){R:Ä->Æ->Prop}(h:R (.ref s.heap.objs.size) {s with heap:=s.heap.push (eS w)}):Ĝ (È p w) A (.call (.builtin "set.__new__") #[[.type "set",a],[]]) (wants R E) s:=by
 refine codeAny_of_tree (show Î _ A.in1 (checkBuiltinCall "set.__new__" #[[.type "set",a],[]] >>= λ_=>ś (.builtin "set.__new__" #[[.type "set",a],[]])) _ _ s from ?_);refine Xk (ϊ (PySem.F.newCall_set_1 a) (Xp #[abw ac3 _,aaI PySem.F.entry_set_new ?_]));rw[aar ac3 _];unfold đ.«set.__new__» Ϙ;have sub:=sub_set_self;obtain⟨hp,g,d,tk,os⟩:=s;dsimp only
 wp_walk
 refine acB (Xp ?_);simp only[newObj];exact Xk (wpAny_alloc (Xp (Xp h)))
def J2{a:Ç}(e:h.get? a=À (eS w)):o7 p w (sN w) h a [] :=
 #[_,#[],0,_,#[e,#[rfl,rfl,rfl],rfl,(λx b=>by simp at b),.a,rfl,FK _],(λk=>by simp),rfl]
def D7{l:Ç}{items:Array Ä}(G:A.handled=none)(H:s.heap.IsList l items)(hi:ó items.toList ns)(C:items.size+1<Ī){R:Λ->Æ->Prop}
  (h:∀h' tk,o7 p w (sN w) h' s.heap.objs.size (met (λi=>ns.getD i 0) items.size)->(∀b o,s.heap.get? b=À o->h'.get? b=À o)->R (.ok (.ret .none)) {s with heap:=h',toks:=tk}):
  Î (È p w) A.in1 (đ.«set.__init__» #[[.ref s.heap.objs.size,.ref l],[]]) (λfin s'=>match fin with|.done f=>R (.ok f) s'|.again c'=>c'.quiet=Á/\Ĝ (È p w) A c' R s') (λe s'=>R (.error e) s') {s with heap:=s.heap.push (eS w)}:=by
 obtain⟨ol,m,j,nl,r⟩:=H;obtain⟨x,c,u,a⟩:=ol;simp only at j r;subst j r;have y:(s.heap.push (eS w)).get? s.heap.objs.size=À (eS w):=XN _ rfl;have k:(s.heap.push (eS w)).get? l=À {cls:=.type "list",dict:=c,data:=.seq items nl,slots:=a}:=Xw _ m;have q1:=PySem.F.sub_list_set;have J:=PySem.F.sub_list_frozenset;have I:(û "list"==û "dict")=Â:=by decide
 have n:(s.heap.push (eS w)).IsList l items:=#[_,k,rfl,nl,rfl];have d:l<s.heap.objs.size:=XE m;have sz:(s.heap.push (eS w)).objs.size=s.heap.objs.size+1:=ZL ..;unfold đ.«set.__init__» noKeywords ϕ;generalize hp:Ļ=K
 wp_walk
 subst hp;refine ab7 n (Xk (wpAny_runValue ?_));have z:l≠(s.heap.push (eS w)).objs.size:=by rw[sz];exact X5 (Y5 d)
 have E:s.heap.objs.size∉[(s.heap.push (eS w)).objs.size,l]:=by
  rw[sz];simp only[Xm,Xr,XT,acy];exact#[X5 (ZJ _),acp d]
 refine FP (A:=A.in1) (l:=sN w) ((Walks.list (by simp[G]) _ l z items).toS) E (λi=>ns.getD i 0) (λi v B=>IntsAre.int_at hi i v (by rw[YY];exact B)) C items.size 0 _ .b #[#[_,XN _ rfl,rfl,rfl],n.push _] (J2 (Xw _ y)) λs' t g=>?_;obtain⟨h',D,dr,tk,os⟩:=s';obtain rfl:D=s.gens:=t.gens;obtain rfl:dr=s.drawn:=t.drawn;obtain rfl:os=s.os:=t.os;refine Xp (Xp (h h' tk g λb o e=>?_));have q:=XE e;refine t.heap b o ?_ (Xw _ (Xw _ e));rw[sz];simp only[Xm,Xr,XT,acy];exact#[X5 q,X5 (Y5 q)]
def Hn{l:Ç}{items:Array Ä}{Q:Ä->Æ->Prop}(u:A.handled=none)(x:s.heap.IsList l items)(hi:ó items.toList ns)(t:items.size+1<Ī)
  (h:∀h' tk,o7 p w (sN w) h' s.heap.objs.size (met (λi=>ns.getD i 0) items.size)->(∀b o,s.heap.get? b=À o->h'.get? b=À o)->Q (.ref s.heap.objs.size) {s with heap:=h',toks:=tk}):
  Î (È p w) A (call (.type "set") [.ref l]) Q E s:=by
 obtain⟨c,tl,m1⟩:=Zv.mro;have m2:=Zv.made;have m3:=Zv.sub;have m4:=Zv.notType;have m5:=Zv.canCreate;have B:=PySem.F.typeCall_set_1 (.ref l);refine wpAny_call (codeAny_of_tree (show Î _ _ (callAny (.type "set") _) _ _ _ from Xp #[Code.quiet_builtin _ .f,aaI PySem.F.entry_type_call ?_]));rw[Around.under_plain (weight_type_call_type "set" [.ref l] []) rfl]
 repeat any_goals first|assumption|wp_step
 refine aa_ (JA (.ref l) (E:=E) (R:=λv f=>v=.ref s.heap.objs.size/\f={s with heap:=s.heap.push (eS w)}) #[rfl,rfl]) λr f d=>?_;cases r with
 |error e=>exact d
 |ok q =>
  cases q with
  |ret v =>
   obtain⟨rfl,rfl⟩:=d;have y:Shared.TypeIs {s with heap:=s.heap.push (eS w)} (.ref s.heap.objs.size) "set":=#[_,XN _ rfl,rfl];have C:=Zv.init.lookup;have z:=Zv.init.bind (.ref s.heap.objs.size)
   repeat any_goals first|assumption|wp_step
   refine aa_ (codeAny_call_builtin (R:=wants (λr j=>r=.none/\∃h' tk,j={s with heap:=h',toks:=tk}/\o7 p w (sN w) h' s.heap.objs.size (met (λi=>ns.getD i 0) items.size)/\∀b o,s.heap.get? b=À o->h'.get? b=À o) E) Zv.init.plain PySem.F.entry_set_init (check_set_init_1 y (D7 (by simp[u]) x hi t λh' tk g k=>#[rfl,h',tk,rfl,g,k]))) λm j a=>?_;cases m with
   |error e=>exact a
   |ok n =>
    cases n with
    |ret r =>
     obtain⟨rfl,h',tk,rfl,g,k⟩:=a
     repeat any_goals first|assumption|wp_step
     exact h _ _ g k
    |_=>exact a.elim
  |_=>exact d.elim
variable{S:Ç}{o:ü}{es:Array (Int×Ä)}{ep:Nat}{t:î}
noncomputable def sl(t:î):Nat->Nat
 |0=>0
 |i+1=>t.place.getD i 0+1
def qY{Q:Bool->Æ->Prop}(h:Q (w.params.followText "set-order") s):Î (È p w) A setsByText Q E s:=by
 unfold setsByText;exact Xk (acB (Xp h))
def A6(g:jZ p w (sN w) s.heap S o es ep t)(c:w.params.followText "set-order"=Â)(d:t.plain=Á\/es.size<=1)(hi:i<=es.size){Q:Option (Ä×Nat)->Æ->Prop}(h:Q (es[i]?.map λe=>(e.2,sl t (i+1))) s):
  Î (È p w) A (ņ S (sl t i) i ep) Q E s:=by
 unfold ņ;refine Xk (aal g.get g.dat g.fit (Xk (qY ?_)));rw[c]
 have dr:(!t.plain&&decide (es.size>1))=Â:=by
  rcases d with z|z
  .rw[z];rfl
  .rw[X1 .b];simp
 refine YI (λq=>absurd q XO) λ_=>?_;refine YI (λq=>absurd (show(!t.plain&&decide (es.size>1))=Á from q) (by rw[dr];exact XO)) λ_=>?_;have ld:t.led=Á:=by rw[g.gd.led];show(!w.params.followText "set-order")=Á;rw[c];rfl
 refine Xk (show Î _ _ (if (!t.led&&!es.isEmpty)=Á then unsupported "set:maker-not-led" else pure ()) _ _ _ from ?_);rw[Xl (by rw[ld];simp)];refine Xp ?_;have sz:t.place.size=es.size:=by have f:=g.fit;simp only[SetTable.fits,X8,abh] at f;exact f.1
 have a:Ù t.place (sl t i)=i:=by
  cases i with
  |zero=>exact A3 g.gd.inc
  |succ i=>exact zG g.gd.inc .b
 dsimp only;rw[a];refine Xp ?_;by_cases b:i<es.size
 .have h1:es[i]?=À es[i]:=Y3 b
  have h2:t.place[i]?=À (t.place.getD i 0):=by
   rw[Y3 .b];simp only[ċ,aa4 (show i<t.place.size by lia)];rfl
  rw[h1,h2];rw[h1] at h;exact h
 .have h1:es[i]?=none:=abu .b;rw[h1];rw[h1] at h;exact h
def DI(g:jZ p w (sN w) s.heap S o es ep t)(a:w.params.followText "set-order"=Á){Q:Option (Ä×Nat)->Æ->Prop}(h:Q ((Ĵ (w.params.setOrder S ep) es)[i]?.map λe=>(e.2,j)) s):
  Î (È p w) A (ņ S j i ep) Q E s:=by
 unfold ņ;refine Xk (aal g.get g.dat g.fit (Xk (qY ?_)));rw[a];refine YI (λ_=>?_) λq=>absurd rfl q;refine YI (λq=>absurd q .c) λ_=>?_;unfold setWalk;refine Xk (Xk (aal g.get g.dat g.fit (Xk (qY ?_))));rw[a];refine YI (λ_=>?_) λq=>absurd rfl q;exact Xk (acB (Xp (Xp h)))
end
def fw:Slot "set_iterator" "__next__" "set_iterator.__next__" :=
 .of (owner:="set_iterator") (n:="__next__") (by rw[typeLookup_type,Ω];kernel_rfl) .f .f .f
  (by first|exact .inr .f|exact .inl .f) (by rw[Ś];kernel_rfl)
def ni:entryFor table "set_iterator.__next__"=À đ.«set_iterator.__next__»:=entryFor_of_tree (by kernel_rfl)
def FO:Manifest.owners.lookup (String.ofList ['r','o','t','a','r','e','t','i','_','t','e','s'].reverse)=À Manifest.sig_set_iterator:=by kernel_rfl
def rJ(a:Ä):argsOk "set_iterator.__next__" #[[a],[]]:=by
 unfold argsOk;rw[signature?_of (id:="set_iterator.__next__") (n:=['_','_','t','x','e','n','_','_']) (o:=['r','o','t','a','r','e','t','i','_','t','e','s']) (by kernel_rfl) FO];kernel_rfl
def yW:Slot "set_iterator" "__iter__" "set_iterator.__iter__" :=
 .of (owner:="set_iterator") (n:="__iter__") (by rw[typeLookup_type,Ω];kernel_rfl) .f .f .f
  (by first|exact .inr .f|exact .inl .f) (by rw[Ś];kernel_rfl)
def Dw:entryFor table "set_iterator.__iter__"=À đ.«dict_keyiterator.__iter__»:=entryFor_alias (id':="dict_keyiterator.__iter__") (by kernel_rfl) rfl .f (by kernel_rfl)
def Hm(a:Ä):argsOk "set_iterator.__iter__" #[[a],[]]:=by unfold argsOk;kernel_rfl
def Gk:entryFor table "set.__iter__"=À đ.«frozenset.__iter__»:=entryFor_alias (id':="frozenset.__iter__") (by kernel_rfl) rfl .f (by kernel_rfl)
def lR(h:â)(I:Ç)(f:Ä)(i:Nat)(S:Ç)(n ep:Nat):Prop:=∃o,h.get? I=À o/\o.cls=.type "set_iterator"/\o.data=.fields (à [f,.int i 0,.ref S,.int n 0,.int ep 0])
section
variable{p:Ñ}{w:Û}{A:ä}{E:Ä->Æ->Prop}{s:Æ}{I S:Ç}{o:ü}{es:Array (Int×Ä)}{ep:Nat}{t:î}
def lR.ty(q:lR s.heap I f i S n ep):s.TypeIs (.ref I) "set_iterator":=let #[x,a,b,_]:=q;#[x,a,b]
def B5{Q:Ä->Æ->Prop}(q:lR s.heap I f i S n ep)(h:Q (.ref I) s):Î (È p w) A (Ļ (.ref I)) Q E s:=by
 refine aca q.ty yW (Y1 yW q.ty Dw (show Î _ _ (ret (.ref I)) _ _ s from ?_) (Hm _));exact Xp #[_,rfl,"set_iterator",_,q.ty,fw.lookup,h]
def lR.put{x:Ä}(q:lR h I f i S n ep):lR (h.update I (Ċ (·.setIfInBounds 0 x))) I x i S n ep/\∀j:Nat,lR (h.update I (Ċ (·.setIfInBounds 1 (ý j)))) I f j S n ep:=by
 obtain⟨a,b,c,d⟩:=q;refine#[#[_,Zp _ b (abB (aae d _)),(acb ..).trans c,?_],λj=>#[_,Zp _ b (abB (aae d _)),(acb ..).trans c,?_]]
 .rw[aae d];simp
 .rw[aae d];simp[ý]
def Ju{u:Nat}{x:Ä}{nx:Nat}(q:lR s.heap I (.int u 0) i S es.size ep)(g:jZ p w (sN w) s.heap S o es ep t){Q:Option Ä->Æ->Prop}
  (c:∀(A:ä) (E:Ä->Æ->Prop) (R:Option (Ä×Nat)->Æ->Prop),R (À (x,nx)) s->Î (È p w) A (ņ S u i ep) R E s)
  (h:∀h',lR h' I (.int nx 0) (i+1) S es.size ep->Đ I s.heap h'->Q (À x) {s with heap:=h'}):Î (È p w) A (Ē (.ref I)) Q E s:=by
 obtain⟨k,b,l,a⟩:=id q;unfold Ē;refine Xk (ϵ (Zc (name:=ô "__next__") q.ty fw (Y1 fw q.ty ni ?_ (rJ _))));unfold đ.«set_iterator.__next__»;refine Xk (Xp (Xk (Z9 b a ?_)));dsimp only;refine Xk (aay g.get g.dat g.fit ?_);refine YI (λz=>absurd z .c) λ_=>?_;dsimp only[Ö];refine Xk (c _ _ _ ?_);dsimp only;have q1:=(q.put (x:=ý nx)).1;obtain⟨j,d,f,e⟩:=id q1;refine Xk (Z_ b a .c (Xk (Z_ d e .c (Xp #[x,rfl,Xp (h _ ?_ ((Yh ..).trans (Yh ..)))]))));exact(q1.put (x:=.none)).2 (i+1)
def vh{Q:Option Ä->Æ->Prop}(c:A.handled=none)(h:∀h',(∀b o,s.heap.get? b=À o->h'.get? b=À o)->Q none {s with heap:=h'}):
  Î (È p w) A.in1 (newExc (.type "StopIteration") [] >>= λx=>raiseNew (α:=Fin) x) (λfin s'=>∃v,fin=Fin.done (Flow.ret v)/\Î (È p w) A (pure (À v)) Q E s')
   (λe s'=>Î (È p w) A (isInstance e (û "StopIteration") >>= λb=>if b=Á then pure none else throw e) Q E s') s:=by
 refine Xk ?_;simp only[newExc,newTuple];refine Xk (YO ?_ (by size_fits));refine Xk (m:=ĳ _ _) (ϊ (a:=õ) (by first|(simp only[ĳ];rfl)|rfl) ?_);refine YO ?_ (by size_fits);simp only[raiseNew];refine Xk (wpAny_handled ?_);rw[show A.in1.handled=none from c];refine Xk (Xp (wpAny_throw ?_));refine Xk (acC (T:="StopIteration") (b:=Á) #[_,XN _ rfl,rfl] isSubtype_stop (Xp (h _ λb o e=>?_)));exact Xw _ (Xw _ e)
def LS{u:Nat}(j:A.handled=none)(q:lR s.heap I (.int u 0) i S es.size ep)(g:jZ p w (sN w) s.heap S o es ep t){Q:Option Ä->Æ->Prop}
  (f:∀(A:ä) (E:Ä->Æ->Prop) (R:Option (Ä×Nat)->Æ->Prop),R none s->Î (È p w) A (ņ S u i ep) R E s)
  (h:∀h',(∀b o,b≠I->s.heap.get? b=À o->h'.get? b=À o)->Q none {s with heap:=h'}):Î (È p w) A (Ē (.ref I)) Q E s:=by
 obtain⟨l,c,m,a⟩:=id q;unfold Ē;refine Xk (ϵ (Zc (name:=ô "__next__") q.ty fw (Y1 fw q.ty ni ?_ (rJ _))));unfold đ.«set_iterator.__next__»;refine Xk (Xp (Xk (Z9 c a ?_)));dsimp only;refine Xk (aay g.get g.dat g.fit ?_);refine YI (λz=>absurd z .c) λ_=>?_;dsimp only[Ö];refine Xk (f _ _ _ ?_);dsimp only;refine Xk (Z_ c a .c ?_);refine vh (s:={s with heap:=s.heap.update I (Ċ (·.setIfInBounds 2 õ))}) j λh' k=>h h' λb o d e=>k b o ?_;rw[(Yh s.heap I _).2 b d];exact e
def sA{vs:List Ä}{f:Nat->Nat}(B:A.handled=none)(m:S≠I)(C:vs.length=es.size)
  (u:∀(s:Æ) (i:Nat) (A:ä) (E:Ä->Æ->Prop) (R:Option (Ä×Nat)->Æ->Prop),i<=es.size->jZ p w (sN w) s.heap S o es ep t->R (vs[i]?.map λv=>(v,f (i+1))) s->Î (È p w) A (ņ S (f i) i ep) R E s):
  Walks p w A I [I,S] [I] vs.length (λi v=>vs[i]?=À v) (λi h=>i<=vs.length/\lR h I (.int (f i) 0) i S es.size ep/\jZ p w (sN w) h S o es ep t) where
 sub:=λb j=>by simp at j;simp[j]
 frame:=λi h h' st k=>by
  obtain⟨d,⟨x,a,b,c⟩,g⟩:=st;exact#[d,#[x,k I .c x a,b,c],#[k S .c o g.get,g.ex,g.dat,g.el,g.bd,g.fit,g.gd]]
 item:=λi s Q E hi st l=>by
  obtain⟨d,q,g⟩:=st;have e:vs[i]?=À vs[i]:=Xz hi;refine Ju (x:=vs[i]) (nx:=f (i+1)) q g (λA E R r=>u s i A E R .b g (by rw[e];exact r)) λh' q' y=>l _ h' s.toks e #[hi,q',?_] λb o' j n=>?_
  .exact#[by rw[y.2 S m];exact g.get,g.ex,g.dat,g.el,g.bd,g.fit,g.gd]
  .rw[y.2 b λz=>j (by simp[z])];exact n
 done:=λs Q E st l=>by
  obtain⟨d,q,g⟩:=st;exact LS B q g (λA E R r=>u s _ A E R .b g (by rw[Zq (Xu _)];exact r)) λh' k=>l h' s.toks λb o' j n=>k b o' (λz=>j (by simp[z])) n
 self:=λi s Q E st l=>B5 st.2.1 l
variable{T:Ç}
theorem lT{M:Type}:∀(l:List M) (i:Nat) (h:i<l.length),(l[i]::l.eraseIdx i).Perm l
 |x::l,0,_=>.refl _
 |x::l,i+1,h=>by
  have:=lT l i ↑h;simp only[List.getElem_cons_succ,List.eraseIdx_cons_succ];exact(List.Perm.swap ..).trans (this.cons x)
def Ar{src:Source}{Q:Nat->Æ->Prop}(a:n≠0)(h:∀i d,i<n->Q i {s with drawn:=d}):Î (È p w) A (choose src n) Q E s:=by
 intro U q b;show Sem.wp _ _ (.choose src n .pure) _ _ _ _;rw[Sem.wp_choose];exact#[a,h _ _ (Nat.mod_lt _ (Nat.pos_of_ne_zero a))]
theorem yY{M:Type}:∀(n:Nat) (xs:List M) (s:Æ) (Q:List M->Æ->Prop),xs.length=n->(∀ys d,ys.Perm xs->Q ys {s with drawn:=d})->Î (È p w) A (drawOrder n xs) Q E s
 |0,xs,s,Q,a,h=>by
  obtain rfl:xs=[]:=Zd.mp a;unfold drawOrder;exact Xp (h [] s.drawn (.refl _))
 |n+1,[],s,Q,a,h=>by simp at a
 |n+1,x::xs,s,Q,a,h=>by
  unfold drawOrder;refine Xk (Ar .c λi d hi=>?_);have e:(x::xs)[i]?=À (x::xs)[i]:=Xz hi;rw[e];refine Xk (yY n _ _ _ (by rw[Ť,Xo hi];simp at a ⊢;lia) λys b c=>?_);refine Xp (h _ b ?_);exact(Ě _ c).trans (lT _ i hi)
def Jc{e:Int×Ä}{c:ü}{f:Nat}(q:lR s.heap I (.ref T) i S es.size ep)(g:jZ p w (sN w) s.heap S o es ep t)(k:s.heap.get? T=À c)(dT:c.data=.seq (os.map λn:Nat=>ý (n:Int)).toArray f)(d:os[i]?=À j)(he:es[j]?=À e){Q:Option Ä->Æ->Prop}
  (h:∀h',lR h' I (.ref T) (i+1) S es.size ep->Đ I s.heap h'->Q (À e.2) {s with heap:=h'}):Î (È p w) A (Ē (.ref I)) Q E s:=by
 obtain⟨l,b,m,a⟩:=id q;unfold Ē;refine Xk (ϵ (Zc (name:=ô "__next__") q.ty fw (Y1 fw q.ty ni ?_ (rJ _))));unfold đ.«set_iterator.__next__»;refine Xk (Xp (Xk (Z9 b a ?_)));dsimp only;refine Xk (aay g.get g.dat g.fit ?_);refine YI (λz=>absurd z .c) λ_=>?_;dsimp only[Ö];refine Xk (wpAny_seqItems k dT ?_);dsimp only
 have e1:(os.map λn:Nat=>ý (n:Int)).toArray[i]?=À (ý (j:Int)):=by
  rw[ac4,XI,d];rfl
 rw[e1];dsimp only[ý,Ö];unfold setNextDrawn;refine Xk (Xk (aal g.get g.dat g.fit ?_));refine YI (λz=>absurd z .c) λ_=>?_;rw[he];refine Xp (Xk (Z_ b a .c (Xp #[e.2,rfl,Xp (h _ ?_ (Yh ..))])));exact(q.put (x:=.none)).2 (i+1)
def Na{f:ü}{r:Nat}(m:A.handled=none)(q:lR s.heap I (.ref T) i S es.size ep)(g:jZ p w (sN w) s.heap S o es ep t)(v:s.heap.get? T=À f)(dT:f.data=.seq (os.map λn:Nat=>ý (n:Int)).toArray r)(l:os[i]?=none){Q:Option Ä->Æ->Prop}
  (h:∀h',(∀b o,b≠I->s.heap.get? b=À o->h'.get? b=À o)->Q none {s with heap:=h'}):Î (È p w) A (Ē (.ref I)) Q E s:=by
 obtain⟨C,d,D,c⟩:=id q;unfold Ē;refine Xk (ϵ (Zc (name:=ô "__next__") q.ty fw (Y1 fw q.ty ni ?_ (rJ _))));unfold đ.«set_iterator.__next__»;refine Xk (Xp (Xk (Z9 d c ?_)));dsimp only;refine Xk (aay g.get g.dat g.fit ?_);refine YI (λz=>absurd z .c) λ_=>?_;dsimp only[Ö];refine Xk (wpAny_seqItems v dT ?_);dsimp only
 have e1:(os.map λn:Nat=>ý (n:Int)).toArray[i]?=none:=by
  rw[ac4,XI,l];rfl
 rw[e1];dsimp only;have q1:=(q.put (x:=ý 0)).1;obtain⟨B,j,y,u⟩:=id q1;refine Xk (Z_ d c .c (Xk (Z_ j u .c ?_)));refine vh (s:={s with heap:=(s.heap.update I (Ċ (·.setIfInBounds 0 (ý 0)))).update I (Ċ (·.setIfInBounds 2 õ))}) m λh' k=>h h' λb o a e=>k b o ?_;rw[(Yh _ I _).2 b a,(Yh s.heap I _).2 b a];exact e
def zY(G:A.handled=none)(B:S≠I)(H:T≠I)(hp:os.Perm (Ô es.size)):
  Walks p w A I [I,S,T] [I] os.length (λi v=>∃j e,os[i]?=À j/\es[j]?=À e/\v=e.2) (λi h=>i<=os.length/\lR h I (.ref T) i S es.size ep/\jZ p w (sN w) h S o es ep t/\∃d l,h.get? T=À d/\d.data=.seq (os.map λn:Nat=>ý (n:Int)).toArray l) where
 sub:=λb r=>by simp at r;simp[r]
 frame:=λi h h' st k=>by
  obtain⟨f,⟨x,a,b,c⟩,g,d,l,m,u⟩:=st;exact#[f,#[x,k I .c x a,b,c],#[k S .c o g.get,g.ex,g.dat,g.el,g.bd,g.fit,g.gd],d,l,k T .c d m,u]
 item:=λi s Q E hi st y=>by
  obtain⟨f,q,g,d,l,m,u⟩:=st;have e:os[i]?=À os[i]:=Xz hi;have F:os[i]<es.size:=Yu.mp (hp.mem_iff.mp (Ze hi));have e2:es[os[i]]?=À es[os[i]]:=Y3 F;refine Jc q g m u e e2 λh' q' D=>y _ h' s.toks #[_,_,e,e2,rfl] #[hi,q',?_,d,l,by rw[D.2 T H];exact m,u] λb o' r C=>?_
  .exact#[by rw[D.2 S B];exact g.get,g.ex,g.dat,g.el,g.bd,g.fit,g.gd]
  .rw[D.2 b λz=>r (by simp[z])];exact C
 done:=λs Q E st y=>by
  obtain⟨f,q,g,d,l,m,u⟩:=st;exact Na G q g m u (Zq (Xu _)) λh' k=>y h' s.toks λb o' r C=>k b o' (λz=>r (by simp[z])) C
 self:=λi s Q E st y=>B5 st.2.1 y
end
open PySem PyProof.Rows PySem.Spec PySem.W PySem.Calls
structure yo(s s':Æ):Prop where
 keep:∀b o,s.heap.get? b=À o->s'.heap.get? b=À o
 gens:s'.gens=s.gens
 os:s'.os=s.os
structure OI(p:Ñ)(w:Û)(s s':Æ)(S I:Ç)(es:Array (Int×Ä)):Prop where
 gr:yo s s'
 new:s.heap.objs.size<=I
 wk:∃(fp:List Ç) (n:Nat) (P:Nat->Ä->Prop) (St:Nat->â->Prop) (vs:List Ä),(∀A:ä,A.handled=none->Walks p w A I fp [I] n P St)/\St 0 s'.heap/\(∀b∈fp,b=S\/s.heap.objs.size<=b)/\vs.length=n/\(∀i v,P i v->vs[i]?=À v)/\vs.Perm (es.toList.map (·.2))
theorem BP{M:Type}(f:Nat->Nat):∀(n k:Nat) (l:List M) (out:Array M),l.length=n->(ŉ f n k l out).toList.Perm (out.toList++l)
 |0,k,l,out,h=>by
  obtain rfl:l=[]:=Zd.mp h;simp[ŉ]
 |n+1,k,l,out,h=>by
  have hi:f k%l.length<l.length:=Nat.mod_lt _ .b;unfold ŉ;rw[Xz hi];refine(BP f n (k+1) _ _ (by rw[Ť,Xo hi];lia)).trans ?_;rw[Zy,Yo];exact Y9 _ (lT l _ hi)
def CZ{M:Type}(f:Nat->Nat)(xs:Array M):(Ĵ f xs).toList.Perm xs.toList:=by
 have:=BP f xs.size 0 xs.toList #[] .c;simpa [Ĵ] using this
section
variable{p:Ñ}{w:Û}{A:ä}{E:Ä->Æ->Prop}{s:Æ}{S:Ç}{o:ü}{es:Array (Int×Ä)}{ep:Nat}{t:î}
def pK{h':â}(g:jZ p w (sN w) h S o es ep t)(k:∀b o,h.get? b=À o->h'.get? b=À o):jZ p w (sN w) h' S o es ep t:=#[k _ _ g.get,g.ex,g.dat,g.el,g.bd,g.fit,g.gd]
def Ft(g:jZ p w (sN w) s.heap S o es ep t){Q:Ä->Æ->Prop}(h:∀I s',OI p w s s' S I es->Q (.ref I) s'):Î (È p w) A (Ļ (.ref S)) Q E s:=by
 have ty:s.TypeIs (.ref S) "set":=#[o,g.get,g.ex.1];have z:S<s.heap.objs.size:=XE g.get;refine aca ty ac5 (Y1 ac5 ty Gk ?_ (PySem.F.args_set_iter_1 _));unfold đ.«frozenset.__iter__» ϖ ϗ;refine Xk (Xk (Xp (Xp ?_)));refine Xk (Xk (aay g.get g.dat g.fit (Xp ?_)));unfold setDrawn;refine Xk (Xk (aal g.get g.dat g.fit (Xk (qY (Xp ?_)))));refine YI (λy=>?_) λy=>?_
 .have c:(!w.params.followText "set-order"&&(!t.plain&&decide (es.size>1)))=Á:=y;refine Xk (yY es.size (Ô es.size) _ _ Zx λos d k=>?_);have lo:os.length=es.size:=by rw[k.length_eq,Zx]
  refine Xk (wpAny_newTuple ?_ (by rw[Xv,lo];exact abo g.bd));refine Xk (Ϲ (Xw _ g.get) g.dat g.fit ?_);refine Xk (YO (Xp #[_,rfl,"set_iterator",_,#[_,XN _ rfl,rfl],fw.lookup,h _ _ ?_]));refine#[#[λb o e=>Xw _ (Xw _ e),rfl,rfl],by rw[ZL];exact Ϥ _,?_];have q:S≠(s.heap.push {cls:=.type "tuple",data:=.seq (os.map λn:Nat=>ý (n:Int)).toArray}).objs.size:=by rw[ZL];exact X5 (Y5 z)
  have C:s.heap.objs.size≠(s.heap.push {cls:=.type "tuple",data:=.seq (os.map λn:Nat=>ý (n:Int)).toArray}).objs.size:=by rw[ZL];exact X5 (ZJ _)
  refine#[_,_,_,_,os.map λj=>(es.getD j (0,.none)).2,λA m=>zY (o:=o) (t:=t) (ep:=ep) m q C k,#[Yr _,#[_,XN _ rfl,rfl,rfl],pK g λb o e=>Xw _ (Xw _ e),_,_,Xw _ (XN _ rfl),rfl],?_,?_,?_,?_]
  .intro b a;simp only[Xm,Xr,XT] at a;rcases a with rfl|rfl|rfl
   .exact .inr (by rw[ZL];exact Ϥ _)
   .exact .inl rfl
   .exact .inr (Xu _)
  .rw[Xv]
  .rintro i v ⟨j,e,e1,e2,rfl⟩;rw[XI,e1];show À (es.getD j (0,.none)).2=À e.2;obtain⟨D,e3⟩:=Array.getElem?_eq_some_iff.mp e2;simp only[ċ,aa4 D];exact congrArg (λx:Int×Ä=>À x.2) e3
  .refine(k.map _).trans ?_
   have:(Ô es.size).map (λj=>(es.getD j (0,.none)).2)=es.toList.map (·.2):=by
    refine Ρ λi=>?_;rw[XI,XI];by_cases hi:i<es.size
    .have h2:es.toList[i]?=À (es.getD i (0,.none)):=by
      rw[YY,Y3 hi];simp only[ċ,aa4 hi];rfl
     rw[ū hi,h2];rfl
    .have h2:es.toList[i]?=none:=by rw[YY];exact abu .b
     rw[Zq (by rw[Zx];lia),h2];rfl
   rw[this]
 .have c:¬(!w.params.followText "set-order"&&(!t.plain&&decide (es.size>1)))=Á:=y;refine Xk (Xp (Xk (Ϲ g.get g.dat g.fit ?_)));refine Xk (YO (Xp #[_,rfl,"set_iterator",_,#[_,XN _ rfl,rfl],fw.lookup,h _ _ ?_]));refine#[#[λb o e=>Xw _ e,rfl,rfl],Xu _,?_];have q:S≠s.heap.objs.size:=X5 z
  have l:∀b∈[s.heap.objs.size,S],b=S\/s.heap.objs.size<=b:=λb a=>by
   simp only[Xm,Xr,XT] at a;rcases a with rfl|rfl
   .exact .inr (Xu _)
   .exact .inl rfl
  have B:jZ p w (sN w) (s.heap.push {cls:=.type "set_iterator",data:=.fields [ý 0,ý 0,.ref S,ý es.size,ý ep].toArray}) S o es ep t:=pK g λb o e=>Xw _ e;cases a:w.params.followText "set-order" with
  |false =>
   rw[a] at c
   have hpl:t.plain=Á\/es.size<=1:=by
    cases hp:t.plain with
    |true=>exact .inl rfl
    |false =>
     rw[hp] at c;refine .inr ?_;simpa using c
   have u:(es.toList.map (·.2)).length=es.size:=by rw[Xv,XG]
   refine#[_,_,_,_,es.toList.map (·.2),λA m=>sA (vs:=es.toList.map (·.2)) (f:=sl t) (o:=o) (t:=t) (ep:=ep) m q u λs i A E R hi g r=>A6 g a hpl hi ?_,#[Yr _,#[_,XN _ rfl,rfl,rfl],B],l,rfl,λi v e=>e,.refl _];rw[XI,YY,ο] at r;exact r
  |true =>
   have k:=(CZ (w.params.setOrder S ep) es).map (·.2);have u:((Ĵ (w.params.setOrder S ep) es).toList.map (·.2)).length=es.size:=by rw[k.length_eq,Xv,XG]
   refine#[_,_,_,_,(Ĵ (w.params.setOrder S ep) es).toList.map (·.2),λA m=>sA (vs:=(Ĵ (w.params.setOrder S ep) es).toList.map (·.2)) (f:=λ_=>0) (o:=o) (t:=t) (ep:=ep) m q u λs i A E R hi g r=>DI g a ?_,#[Yr _,#[_,XN _ rfl,rfl,rfl],B],l,rfl,λi v e=>e,k];rw[XI,YY,ο] at r;exact r
def Ey{Q:Bool->Æ->Prop}(ty:s.TypeIs (.ref S) "set")(h:Q Â s):Î (È p w) A (Ĳ (.ref S)) Q E s:=by
 unfold Ĳ;refine Xk (wpAny_specialOf ty PySem.F.slot_set_len.lookup ?_);generalize a:("set.__len__":String)=c
 wp_delta
 rw[show splitId c=À ("set","__len__") from by subst a;decide +kernel];subst a;refine Xk (acC (T:="set") (b:=Á) ty (by rw[Ś];kernel_rfl) (YI (λz=>absurd z .a) λ_=>?_));exact YI (λ_=>Xk (Α ty (Xp h))) λz=>absurd .f z
def AL{L:Ç}{c:Nat}{R:Λ->Æ->Prop}{res:Ä}(G:A.handled=none)(g:jZ p w (sN w) s.heap S o es ep t)(E:s.heap.get? L=À {cls:=.type "list",data:=.seq #[] c})(m:L≠S)
  (h:∀s' a c',(∀b o,b≠L->s.heap.get? b=À o->s'.heap.get? b=À o)->s'.gens=s.gens->s'.os=s.os->s'.heap.get? L=À {cls:=.type "list",dict:=none,data:=.seq a c',slots:=#[]}->a.toList.Perm (es.toList.map (·.2))->R (.ok (.ret res)) s'):
  Î (È p w) A.in1 (ĕ (.ref L) (.ref S) res) (λfin s'=>match fin with|.done f=>R (.ok f) s'|.again c'=>c'.quiet=Á/\Ĝ (È p w) A c' R s') (λe s'=>R (.error e) s') s:=by
 have ty:s.TypeIs (.ref S) "set":=#[o,g.get,g.ex.1];unfold ĕ;refine Xk (Α (T:="set") ty ?_);have α:Ķ (.ref L) (.ref S)=Â:=by simp[Ķ,m]
 have Z:(û "set"==û "list")=Â:=by decide
 have N:(û "set"==û "tuple")=Â:=by decide
 simp only[α,Z,N,Bool.or_false,Zt,Z6];refine Xk (Ft g λI s' wk=>?_);obtain⟨gr,nw,fp,n,P,St,vs,W,st,x,O,K,r⟩:=wk;have v:L<s.heap.objs.size:=XE E
 have k:L∉fp:=λz=>by
  rcases x L z with q|q
  .exact m q
  .exact absurd v (aaW.mpr q)
 have u:n<=sizeLine:=by
  rw[<-O,r.length_eq,Xv,XG];exact abo g.bd
 have key:∀(d:Æ) (c1:Nat),St 0 d.heap->(∀b o,b≠L->s'.heap.get? b=À o->d.heap.get? b=À o)->d.gens=s'.gens->d.os=s'.os->d.heap.get? L=À {cls:=.type "list",data:=.seq #[] c1}->Ĝ (È p w) A (.builtin "list.extend.loop" #[[.ref L,.ref I,res],[]]) R d:=λd c1 y Q V Γ H=>by
  refine codeAny_extend_loopS ((W A.in1 G).toS) u L k res n 0 d #[] c1 rfl (Yr _) y H (ItemsOf.nil _) λD a c2 B J it=>?_;refine h D a c2 (λb o j e=>B.heap b o (λz=>?_) (Q b o j (gr.keep b o e))) ?_ ?_ J ?_
  .rcases Xm.mp z with q|q
   .exact j q
   .exact absurd (XE e) (aaW.mpr (by rw[XX.mp q];exact nw))
  .exact(show D.gens=d.gens from B.gens).trans (V.trans gr.gens)
  .exact B.os.trans (Γ.trans gr.os)
  .have:a.toList=vs:=by
    refine Ρ λi=>?_;by_cases hi:i<a.toList.length
    .have e:=Xz hi;rw[e];exact(K i _ (it.2 i _ (by rw[<-YY];exact e))).symm
    .have X:a.toList.length=n:=by rw[XG];exact it.1
     rw[Zq .b,Zq .b]
   rw[this];exact r
 have C:=gr.keep _ _ E;refine Xk (Zg (Ey #[o,gr.keep _ _ g.get,g.ex.1] ?_));refine YI (λ_=>?_) (λ_=>Xp #[abw acm _,key _ c st (λb o _ e=>e) rfl rfl C]);refine Xk (ack (Xk (show Î _ _ (updateSeq L (·.push .none) >>= λ_=>updateSeq L (·.pop)) _ _ _ from Xk (wpAny_updateSeq C rfl ?_))));have F:=Zp (Ú (·.push õ)) C rfl;refine wpAny_updateSeq (hz:=by seq_fits) F rfl ?_;have σ:=Zp (Ú (·.pop)) F rfl
 have l:∀b o,b≠L->s'.heap.get? b=À o->((s'.heap.update L (Ú (·.push õ))).update L (Ú (·.pop))).get? b=À o:=λb o j e=>by
  rw[(Yh _ L _).2 b j,(Yh _ L _).2 b j];exact e
 exact Xp #[abw acm _,key _ _ ((W A.in1 G).frame 0 _ _ st λb j o e=>l b o (λq=>k (q▸j)) e) l rfl rfl σ]
end
noncomputable def kv:Ä->Int
 |.int k _=>k
 |_=>0
theorem BM:∀{vs:List Ä},(∀v∈vs,∃k t,v=.int k t)->ó vs (vs.map kv)
 |[],_=>.nil
 |v::vs,h=>by
  obtain⟨k,t,rfl⟩:=h v (XA ..);exact .cons k t (BM λv a=>h v (Xx _ a))
theorem pY:∀{m l:List Int},m.Nodup->(∀x∈m,x∈l)->m.length=l.length->m.Perm l
 |[],l,_,_,h=>by
  obtain rfl:l=[]:=Zd.mp h.symm;exact .nil
 |x::m,l,c,b,h=>by
  have f:x∈l:=b x (XA ..);obtain⟨g,d⟩:=YC.mp c;have pl:=Ţ f;refine(Ě x (pY d (λy a=>?_) ?_)).trans pl.symm
  .exact(abG (λe:y=x=>g (e▸a))).mpr (b y (Xx _ a))
  .have:=pl.length_eq;simp only[Yl] at this h ⊢;lia
def CS(h:ns.Nodup):(ins ns k).Nodup:=by
 unfold ins;split
 .exact h
 .rename_i d;rw[abp];exact#[h,.c,λa ha b c e=>d (by rw[<-XX.mp c,<-e];exact ha)]
def IH{x:Int}:x∈ins ns k↔x∈ns\/x=k:=by
 unfold ins;split
 .rename_i a;exact#[.inl,λh=>h.elim id λe=>e▸a]
 .rw[Yf,XX]
theorem pD(f:Nat->Int):∀i,(met f i).Nodup
 |0=>aat
 |i+1=>by rw[mQ];exact CS (pD f i)
theorem Cy(f:Nat->Int){x:Int}:∀i,x∈met f i↔∃j,j<i/\f j=x
 |0=>by simp[met]
 |i+1=>by
  rw[mQ,IH,Cy f i];constructor
  .rintro(⟨j,h1,h2⟩|e)
   .exact#[j,.b,h2]
   .exact#[i,.b,e.symm]
  .rintro⟨j,h1,h2⟩;rcases abd (ρ h1) with z|z
   .exact .inl #[j,z,h2]
   .exact .inr (by rw[<-h2,z])
section
variable{p:Ñ}{w:Û}{A:ä}{E:Ä->Æ->Prop}{s:Æ}{S:Ç}{o:ü}{es:Array (Int×Ä)}{ep:Nat}{t:î}
def yt{R:List Ä->Æ->Prop}(m:A.handled=none)(g:jZ p w (sN w) s.heap S o es ep t)(h:∀s' vs,yo s s'->vs.Perm (es.toList.map (·.2))->R vs s'):Î (È p w) A (collect (.ref S)) R E s:=by
 have n:S<s.heap.objs.size:=XE g.get;unfold collect;refine Xk (wpAny_runValue (aaI entry_proto_collect' ?_));rw[aar PySem.F.plain_proto_collect _];refine(show Î _ A.in1 (newList [] >>= λl=>ś (.builtin "list.__iadd__" #[[l,.ref S],[]])) _ _ s from Xk (YO (Xp #[abw acI _,aaI entry_list_iadd' ?_])));rw[aar acI _];have r:(s.heap.push {cls:=.type "list",data:=.seq ([]:List Ä).toArray}).get? s.heap.objs.size=À {cls:=.type "list",data:=.seq #[]}:=XN _ rfl;refine(show Î _ A.in1 (ĕ (.ref s.heap.objs.size) (.ref S) (.ref s.heap.objs.size)) _ _ _ from ?_)
 have key:=AL (A:=A) (s:={s with heap:=s.heap.push {cls:=.type "list",data:=.seq ([]:List Ä).toArray}}) (res:=.ref s.heap.objs.size)
  (R:=λq s'=>∃a c',q=.ok (.ret (.ref s.heap.objs.size))/\yo s s'/\s'.heap.get? s.heap.objs.size=À {cls:=.type "list",dict:=none,data:=.seq a c',slots:=#[]}/\a.toList.Perm (es.toList.map (·.2)))
  m (pK g λb o e=>Xw _ e) r (acp n) λs' a c' k d os l c=>#[a,c',rfl,#[λb o e=>k b o (X5 (XE e)) (Xw _ e),d,os],l,c]
 refine ZP key (λfin s' x=>?_) λe s' x=>?_
 .cases fin with
  |done f =>
   obtain⟨a,c',e,gr,l,c⟩:=x;cases e;exact show Î _ A (load s.heap.objs.size >>= _) _ _ _ from Xk (ϧ l (Xp (h s' _ gr c)))
  |again c1 =>
   refine#[x.1,aa_ x.2 λq i y=>?_];obtain⟨a,c',e,gr,l,c⟩:=y;cases e;exact show Î _ A (load s.heap.objs.size >>= _) _ _ _ from Xk (ϧ l (Xp (h i _ gr c)))
 .obtain⟨_,_,j,_⟩:=x;cases j
def yf{Q:Ä->Æ->Prop}{m:List Int}(B:A.handled=none)(q:o7 p w (sN w) s.heap S m)(y:m.Nodup)(b:m.length<64)
  (h:∀(a:Æ) (vs:List Ä) (out:Array Ä) (ns:List Int),yo s a->ó out.toList ns->ns.Perm m->ns.Pairwise (·<=·)->Q (.ref a.heap.objs.size) {a with heap:=ϫ (a.heap.push (å "list" vs.toArray 0)) a.heap.objs.size vs out}):
  Î (È p w) A (call (.builtin "sorted") [.ref S]) Q E s:=by
 obtain⟨o,es,ep,t,g,C,hz⟩:=q;refine Calls.call_function_entry kind_sorted plain_sorted entry_sorted (args_sorted1 _) ?_;unfold đ.«sorted»;refine Xk (m:=checkCount "sorted" 1 1 _) (Xp (Xk (yt (A:=A.in1) B g λa vs gr c=>?_)));have i:vs.length=m.length:=by rw[c.length_eq,Xv,XG,hz]
 have allI:∀v∈vs,∃k t,v=.int k t:=λv u=>by
  obtain⟨e,he,rfl⟩:=XF.mp (c.mem_iff.mp u);obtain⟨⟨k,d,_⟩,_⟩:=g.el e he;obtain⟨t,f⟩:=ab6 d;exact#[k,t,f]
 have n:(vs.map kv).Perm m:=by
  refine(pY y (λx r=>?_) (by rw[Xv,i])).symm;obtain⟨e,he,d⟩:=(C x).mp r;obtain⟨t,f⟩:=ab6 d;exact XF.mpr #[e.2,c.mem_iff.mpr (XF.mpr #[e,he,rfl]),by rw[f];rfl]
 refine Xk (abY ?_ (by rw[i];exact Ye (Y0 b) .a));have j:(a.heap.push (å "list" vs.toArray 0)).get? a.heap.objs.size=À (å "list" vs.toArray 0):=XN _ rfl;refine Xk (Zg (Y1 slot_list_sort #[_,j,rfl] entry_list_sort (list_sort_tree j (BM allI) .b λout ns l D z=>#[_,rfl,?_]) (args_list_sort _)));exact Xp #[_,rfl,h a vs out ns gr l (D.trans n) z]
end
end L2.Sx
namespace L2.EP
open PySem PySem.Spec PyProof.Rows L2.Sx
noncomputable def vS(x:Int):List Int->List Int
 |[]=>[x]
 |y::l=>if x<y then x::y::l else if x=y then y::l else y::vS x l
def sset(ns:List Int):List Int:=ns.foldr vS []
theorem tR{x a:Int}:∀{l:List Int},a∈vS x l↔a=x\/a∈l
 |[]=>by simp[vS]
 |y::l=>by
  unfold vS;split
  .simp
  .split
   .rename_i h;subst h;simp
   .rw[Xm,tR (l:=l),Xm];constructor
    .rintro(h|h|h)
     .exact .inr (.inl h)
     .exact .inl h
     .exact .inr (.inr h)
    .rintro(h|h|h)
     .exact .inr (.inl h)
     .exact .inl h
     .exact .inr (.inr h)
theorem yV{x:Int}:∀{l:List Int},l.Pairwise (·<·)->(vS x l).Pairwise (·<·)
 |[],_=>by simp[vS]
 |y::l,h=>by
  obtain⟨h1,h2⟩:=Zb.mp h;unfold vS;split
  .rename_i b;refine Zb.mpr #[λa ha=>?_,h];rcases Xm.mp ha with z|z
   .lia
   .have:=h1 a z;lia
  .split
   .exact h
   .refine Zb.mpr #[λa ha=>?_,yV h2];rcases tR.mp ha with z|z
    .lia
    .exact h1 a z
theorem iq{a:Int}:∀{ns:List Int},a∈sset ns↔a∈ns
 |[]=>by simp[sset]
 |x::ns=>by
  show a∈vS x (sset ns)↔_;rw[tR,iq (ns:=ns),Xm]
theorem ik:∀(ns:List Int),(sset ns).Pairwise (·<·)
 |[]=>.nil
 |x::ns=>yV (ik ns)
theorem tJ:∀{l m:List Int},l.Pairwise (·<·)->m.Pairwise (·<·)->(∀a,a∈l↔a∈m)->l=m
 |[],[],_,_,_=>rfl
 |[],y::m,_,_,h=>absurd ((h y).mpr (XA ..)) .c
 |x::l,[],_,_,h=>absurd ((h x).mp (XA ..)) .c
 |x::l,y::m,h1,h2,h=>by
  obtain⟨b,c⟩:=Zb.mp h1;obtain⟨b1,b2⟩:=Zb.mp h2
  have e:x=y:=by
   rcases Xm.mp ((h x).mp (XA ..)) with z|z
   .exact z
   .rcases Xm.mp ((h y).mpr (XA ..)) with q|q
    .exact q.symm
    .have:=b1 x z;have:=b y q;lia
  subst e;refine congrArg (x::·) (tJ c b2 λa=>#[λha=>?_,λha=>?_])
  .rcases Xm.mp ((h a).mp (Xx _ ha)) with z|z
   .have:=b a ha;lia
   .exact z
  .rcases Xm.mp ((h a).mpr (Xx _ ha)) with z|z
   .have:=b1 a ha;lia
   .exact z
def Jr{ns m r:List Int}(h1:r.Perm m)(d:m.Nodup)(h2:r.Pairwise (·<=·))(e:∀a,a∈m↔a∈ns):r=sset ns:=by
 refine tJ ?_ (ik ns) λa=>by rw[h1.mem_iff,e,iq]
 have c:r.Nodup:=h1.symm.nodup d
 exact(List.Pairwise.and h2 c).imp λ{a b} q=>by
  have:=q.1;have:=q.2;lia
def Inv.grown{X:Cx}{Z2:List (Ç×ü)}{Y:St}{H:Hp}{s s':Æ}(I:Inv X Z2 Y H s)(g:yo s s'):Inv X Z2 Y H s':=by
 obtain⟨h',a,d,tk,os⟩:=s';obtain⟨k,e1,e2⟩:=g;have J:=I.kept (h':=h') (t':=tk) k;simp only at e1 e2;subst e1 e2;exact#[J.ok,J.os,J.bare,J.base,J.loc,J.cell,J.free,J.freeC,J.pin,J.hok,J.len]
theorem wI:∀{vs:List Ä} {ns:List Int},ó vs ns->Vals (ns.map V.int) vs
 |_,_,.nil=>.nil
 |_,_,.cons n t h=>.cons #[t,rfl] (wI h)
section
variable{X:Cx}{U:aK}{D:GD}{e:Õ}{b:Bool}{te:TE}
def Bg{Z p2 pos c:ò}(G:X.calm=Á)(y:Gl X "sorted")(F:X.mg "sorted"=none)(E:Gl X "set")(D:X.mg "set"=none)(ha:PE X e te)
  (α:Å [e] X.env=(Â,Ý e X.env)::Å [] X.env:=by rfl) (n:Å [.Call (.Name "set" p2) [e] [] c] X.env=(Â,Ý (.Call (.Name "set" p2) [e] [] c) X.env)::Å [] X.env:=by rfl)
  (C:(ì pos (Å [] X.env)).any (·.1)=Â:=by rfl) (z:(ì c (Å [] X.env)).any (·.1)=Â:=by rfl):
  PE X (.Call (.Name "sorted" Z) [.Call (.Name "set" p2) [e] [] c] [] pos) (λY H Q=>te Y H λv H1=>∃a,∃ns:List Int,v=.ref a/\dX X.K H1 a (ns.map V.int)/\ns.length<64/\∀l,H1 l=none->Q (.ref l) (upd H1 l (.lst ((sset ns).map V.int)))):=by
 intro Z2 s Y H Q I h
 have inner:Î .F X.A (Ý (.Call (.Name "set" p2) [e] [] c) X.env) (λu t=>∃(S:Ç) (H1:Hp) (ns:List Int),u=.ref S/\Inv X Z2 Y H1 t/\o7 X.prog X.w (sN X.w) t.heap S (met (λi=>ns.getD i 0) ns.length)/\ns.length<64/\∀l,H1 l=none->Q (.ref l) (upd H1 l (.lst ((sset ns).map V.int)))) X.xe s:=by
  refine ZK (ic I E D PyProof.Rows.boot_set ?_ .a .a);refine Za (cy (aD ha bq α c Z2 s Y H (λxs H1=>match xs with|[v]=>∃a,∃ns:List Int,v=.ref a/\dX X.K H1 a (ns.map V.int)/\ns.length<64/\∀l,H1 l=none->Q (.ref l) (upd H1 l (.lst ((sset ns).map V.int)))|_=>False) I h) λus t ⟨xs,H1,m,R,q1⟩=>?_) α z;cases R with
  |nil=>exact q1.elim
  |@cons v u vs us T x =>
   cases x with
   |cons _ _=>exact q1.elim
   |nil =>
    obtain⟨a,ns,rfl,Γ,d,q⟩:=q1;cases T;obtain⟨XV,x,pl,_⟩:=m.list Γ;have hi:=intsAre_of x;have L:XV.length=ns.length:=by rw[<-x.length,Xv]
    refine Hn (items:=XV.toArray) (ns:=ns) (m.ok.hd G) pl.isList ↑hi (by rw[XR,L];exact X4 (Nat.add_lt_add_right d 1) .a) λh' tk g k=>?_;rw[show XV.toArray.size=ns.length by rw[XR,L]] at g;exact#[_,H1,ns,rfl,m.kept k,g,d,q]
 refine ZK (ic I y F PyProof.Rows.boot_sorted ?_ .a .a);refine abE ?_ n C;rw[n];refine ű (cy inner λu t ⟨S,H1,ns,e,m,g,d,q⟩=>ſ ?_);subst e;refine yf (m.ok.hd G) g (pD _ _) (aaG (qW _ _) d) λf vs out B gr ia N O=>?_
 have σ:B=sset ns:=Jr N (pD _ _) O λa=>by
  rw[Cy];constructor
  .rintro⟨j,r,rfl⟩;rw[Xq,Xz r];exact Ze r
  .intro ha;obtain⟨j,r,e⟩:=aaq.mp ha;exact#[j,r,by rw[Xq,Xz r];exact e]
 subst σ;have J:=Inv.grown m gr
 have lo:((sset ns).map V.int).length<=sizeLine:=by
  rw[Xv,N.length_eq];exact Ye (qW _ _) (Ye (Y0 d) .a)
 have p:∀b o,f.heap.get? b=À o->b≠f.heap.objs.size:=λb o e=>X5 (XE e)
 have kp:∀b o,f.heap.get? b=À o->(ϫ (f.heap.push (å "list" vs.toArray 0)) f.heap.objs.size vs out).get? b=À o:=λb o e=>by
  unfold ϫ;rw[(Yh _ _ _).2 b (p b o e)];refine Xw _ (Xw _ ?_);rw[(Yh _ _ _).2 b (p b o e)];exact Xw _ e
 obtain⟨c1,W⟩:∃c1,(((f.heap.push (å "list" vs.toArray 0)).update f.heap.objs.size (Ú λ_=>#[])).get? f.heap.objs.size)=À (å "list" #[] c1):=#[_,aa9 (XN _ rfl) (λ_=>#[])];have P:=aa9 (Xw (å "list" #[] 0) (Xw (å "tuple" vs.toArray 0) W)) (λ_=>out);refine#[.ref f.heap.objs.size,_,J.laid (t':=f.toks) (o:=.lst ((sset ns).map V.int)) kp (Xu _) #[lo,out.toList,_,wI ia,P],rfl,q _ (J.hok.fresh (Xu _))]
def uQ{ns:List Int}{C p2 pos c:ò}(u:X.calm=Á)(h:Gl X "sorted")(p:X.mg "sorted"=none)(o:Gl X "set")(i:X.mg "set"=none)(ha:E X U e b ns)(A:ns.length<64)
  (B:Å [e] X.env=(Â,Ý e X.env)::Å [] X.env:=by rfl) (j:Å [.Call (.Name "set" p2) [e] [] c] X.env=(Â,Ý (.Call (.Name "set" p2) [e] [] c) X.env)::Å [] X.env:=by rfl)
  (g:(ì pos (Å [] X.env)).any (·.1)=Â:=by rfl) (k:(ì c (Å [] X.env)).any (·.1)=Â:=by rfl):
  E X U (.Call (.Name "sorted" C) [.Call (.Name "set" p2) [e] [] c] [] pos) Á (sset ns):=by
 stop
  exact aP (Bg u h p o i ha B j g k) λY H Q ⟨H0,F,O,S,q⟩=>#[H0,F,O,S,λv H1 f y=>by
    obtain⟨a,vs,e,s,n,r⟩:=y;rw[sO r] at s;refine#[a,ns,by rw[e],(av _ _).seq s,A,λl d=>?_];obtain⟨z,t⟩:=cJ (xs:=(sset ns).map V.int) (S.go f) d;refine q _ _ (f.trans z) #[l,_,rfl,dX.of t,Nf.wk (b:=Á) ((S.go f).iD d) t,?_];generalize sset ns=m
    induction m with
    |nil=>exact .nil
    |cons x m w=>exact .cons rfl w]
end
open PySem PySem.Spec PyProof.Rows
section
variable{X:Cx}{U:aK}{D:GD}{M β γ:Type}[Py M][Py β][Py γ]{e e1 e2:Õ}{b b1 b2:Bool}{pos p:ò}{rest st:List Ò}
def IC{i:Int}{xs:List Int}:CV X .NotIn i xs (!decide (i∈xs)):=#[_,v7,λN N' H v w Q h1 h2 q=>by
 obtain⟨p,vs,rfl,a,n,r⟩:=h2;cases h1;refine#[p,vs,rfl,.inl a,rfl,?_,?_]
 .rw[pM r];simp[og]
 .rw[pM r,y3];exact q]
end
end L2.EP
namespace Q
variable{p x k c s q n y N r m v A u:Int}{l L:List Int}{w:List (Int×Int)}
theorem sW(f:Int->Bool):∀(xs ys:List Int),ou (xs++ys) f=(ou xs f==ou ys f)
 |[],ys=>by rw[aaF,vK];cases ou ys f<;>rfl
 |x::xs,ys=>by
  rw[aaX,dY,dY,sW f xs ys];generalize f x=a;generalize ou xs f=b;generalize ou ys f=c;revert a b c;decide
theorem j9:∀{L α:List Int},L.Nodup->(∀x∈L,x∈α)->L.length<=α.length
 |[],α,_,_=>Yr _
 |x::L,α,d,h=>by
  obtain⟨c,e⟩:=YC.mp d;have b:=h x XA;have f:=j9 (α:=α.erase x) e λy a=>(abG (by rintro rfl;exact c a)).mpr (h y (Xx _ a));have g:0<α.length:=List.length_pos_of_mem b;rw[List.length_erase_of_mem b] at f;rw[Yl];lia
def OL(c:Int)(h:p∣x):p∣c*x:=X7 h #[c,Yb _ _]
noncomputable def HR:List Int:=[3,5,7,11,13]
def Iz{a:Int}(hp:aT p=Á)(h:bh a p=1):∃r t:Int,r*r=a+p*t:=by
 cases b:xr a p with
 |none=>rw[tT.mp b] at h;cases h
 |some r =>
  obtain⟨_,t,c⟩:=BI hp b;exact#[r,t,.b]
def OF{a b:Int}(hp:aT p=Á)(ha:¬p∣a)(c:¬p∣b):¬p∣a*b:=λz=>(euclid hp z).elim ha c
noncomputable def Sq(r:Nat):Int×Int:=if r%2=1 then (0,((r%8:Nat):Int)) else (1,(((r/2)%8:Nat):Int))
noncomputable def Sz:List Nat:=[0,1,4,9]
def JY{a:Int}(h:a%4≠0):cls a 2=Sq (a%16).toNat:=by
 unfold Sq;by_cases b:a%2=1
 .rw[Xo .b,bQ .a .b,Xo rfl];congr 1;lia
 .rw[Xl .b];have:=kR (k:=a/2) (d:=2) (v:=1) .a .b;rw[ŭ,show a/2*2=a by lia] at this;unfold cls;rw[this,Xo rfl];show((1:Int)%2,a/2%8)=_;congr 1;lia
def RE(x:Int):(x*x%16).toNat∈Sz/\((x*x%16).toNat%2=1↔¬(2:Int)∣x):=by
 have e:x*x%16=(x%16)*(x%16)%16:=by rw[YV]
 have h1:0<=x%16/\x%16<16:=by lia
 have h2:(2:Int)∣x↔(x%16)%2=0:=by lia
 rw[e,h2];generalize x%16=r at *;have:r=0\/r=1\/r=2\/r=3\/r=4\/r=5\/r=6\/r=7\/r=8\/r=9\/r=10\/r=11\/r=12\/r=13\/r=14\/r=15:=by lia
 rcases this with rfl|rfl|rfl|rfl|rfl|rfl|rfl|rfl|rfl|rfl|rfl|rfl|rfl|rfl|rfl|rfl<;>decide
noncomputable def Q6:List Int:=[2,3,5,7,11,13]
noncomputable def QY(p:Int):List Int:=if p=3 then [1] else if p=5 then [1,4] else if p=7 then [1,2,4] else if p=11 then [1,3,4,5,9] else [1,3,4,9,10,12]
def OM:∀p∈([3,5,7,11,13]:List Nat),∀r∈Ô p,(bh (r:Int) (p:Int)=1↔(r:Int)∈QY (p:Int)):=by decide +kernel
def LM(hp:p∈HR):bh k p=1↔k%p∈QY p:=by
 have b:p.toNat∈([3,5,7,11,13]:List Nat):=by
  simp only[HR,Xm,Xr,XT] at hp;rcases hp with rfl|rfl|rfl|rfl|rfl<;>decide
 have a:0<p:=by
  simp only[HR,Xm,Xr,XT] at hp;lia
 have h1:=X2 k (Int.ne_of_gt a);have h2:=XU k a;have:=OM p.toNat b (k%p).toNat (Yu.mpr .b);rw[show(((k%p).toNat:Nat):Int)=k%p by lia,show((p.toNat:Nat):Int)=p by lia,wD] at this;exact this
def cT(s:Int)(w:List (Int×Int)):Int:=(Q6.zip w).foldl (λa u=>if u.2.1=1 then a*u.1 else a) s
structure GW(s:Int)(w:List (Int×Int)):Prop where
 sg:s=1\/s=-1
 len:w.length=6
 a:∀j,j<6->(w.getD j (0,1)).1=0\/(w.getD j (0,1)).1=1
 u2:(w.getD 0 (0,1)).2∈[(1:Int),3,5,7]
 u:∀j,1<=j->j<6->(w.getD j (0,1)).2=1\/(w.getD j (0,1)).2=-1
noncomputable def bits:List (List Int):=(Ô 64).map fun(m:Nat)=>[(m:Int)%2,(m:Int)/2%2,(m:Int)/4%2,(m:Int)/8%2,(m:Int)/16%2,(m:Int)/32%2]
def IG(s:Int)(a:List Int):Int:=(Q6.zip a).foldl (λb u=>if u.2=1 then b*u.1 else b) s
noncomputable def Ab(k p a:Int):Int:=if a=1 then k/p else k
def Oj:∀s∈[(1:Int),-1],∀a∈bits,IG s a≠0/\(-30030<=IG s a/\IG s a<=30030)/\(0<IG s a↔s=1)/\∀j∈Ô 6,((a.getD j 0=1->IG s a/Q6.getD j 1*Q6.getD j 1=IG s a)/\Ab (IG s a) (Q6.getD j 1) (a.getD j 0)%Q6.getD j 1≠0):=by decide +kernel
def Kn:∀b∈[(0:Int),1],∀d∈[(0:Int),1],∀e∈[(0:Int),1],∀c∈[(0:Int),1],∀a∈[(0:Int),1],∀f∈[(0:Int),1],[b,d,e,c,a,f]∈bits:=by decide +kernel
def six{M:Type}{w:List M}(h:w.length=6):∃a b c d e f,w=[a,b,c,d,e,f]:=by
 match w,h with
 |[a,b,c,d,e,f],_=>exact#[a,b,c,d,e,f,rfl]
def D3(h:w.length=6):cT s w=IG s (w.map (·.1)):=by
 obtain⟨a,b,c,d,e,f,rfl⟩:=six h;rfl
def GW.bits{s:Int}{w:List (Int×Int)}(h:GW s w):w.map (·.1)∈bits:=by
 obtain⟨a,b,c,d,e,f,rfl⟩:=six h.len;have z:=λj g=>h.a j g;have m:∀x:Int,x=0\/x=1->x∈[(0:Int),1]:=λx i=>by simpa using i
 exact Kn _ (m _ (z 0 .a)) _ (m _ (z 1 .a)) _ (m _ (z 2 .a)) _ (m _ (z 3 .a)) _ (m _ (z 4 .a)) _ (m _ (z 5 .a))
def GW.st(h:GW s w):cT s w≠0/\(-30030<=cT s w/\cT s w<=30030)/\(0<cT s w↔s=1)/\∀j,j<6->(((w.getD j (0,1)).1=1->cT s w/Q6.getD j 1*Q6.getD j 1=cT s w)/\¬Q6.getD j 1∣Ab (cT s w) (Q6.getD j 1) (w.getD j (0,1)).1):=by
 have d:s∈[(1:Int),-1]:=by simpa using h.sg
 obtain⟨h1,h2,b,a⟩:=Oj s d _ h.bits;rw[<-D3 h.len] at h1 h2 b a;refine#[h1,h2,b,λj c=>?_];have:=a j (Yu.mpr c)
 have e:(w.map (·.1)).getD j 0=(w.getD j (0,1)).1:=by
  have f:=h.len;rw[Xq,Xq,XI,Xz .b];rfl
 rw[e] at this;exact#[this.1,λz=>this.2 (Yw z)]
def jf:∀j,j<6->aT (Q6.getD j 1)=Á:=λj a=>sd _ (by
 have:j=0\/j=1\/j=2\/j=3\/j=4\/j=5:=by lia
 rcases this with rfl|rfl|rfl|rfl|rfl|rfl<;>decide)
def Ka(q:Int):Prop:=∀j,j<6->¬Q6.getD j 1∣q
def i_(b:aT q=Á)(h:17<=q):Ka q:=λj a z=>by
 have:=bE (jf j a) b z;have:j=0\/j=1\/j=2\/j=3\/j=4\/j=5:=by lia
 rcases this with rfl|rfl|rfl|rfl|rfl|rfl<;>(simp[Q6] at *;lia)
def JQ:Ka 1:=λj a z=>by
 have:=XH .a z;have:=au (jf j a);lia
def KD(h:GW s w)(g:Ka q){j:Nat}(d:j<6):aX (cT s w*q) (Q6.getD j 1)=((w.getD j (0,1)).1,Ab (cT s w) (Q6.getD j 1) (w.getD j (0,1)).1*q)/\¬Q6.getD j 1∣Ab (cT s w) (Q6.getD j 1) (w.getD j (0,1)).1*q:=by
 obtain⟨_,_,_,f⟩:=h.st;obtain⟨e1,e2⟩:=f j d;have hp:=jf j d;have b:=au hp;have c:¬Q6.getD j 1∣Ab (cT s w) (Q6.getD j 1) (w.getD j (0,1)).1*q:=λz=>(euclid hp z).elim e2 (g j d);refine#[?_,c];rcases h.a j d with z|z
 .have e:Ab (cT s w) (Q6.getD j 1) (w.getD j (0,1)).1=cT s w:=by unfold Ab;rw[Xl .b]
  rw[e] at c ⊢;rw[mH b c,z]
 .have e:Ab (cT s w) (Q6.getD j 1) (w.getD j (0,1)).1=cT s w/Q6.getD j 1:=by unfold Ab;rw[Xo z]
  have e3:=e1 z;rw[e] at c ⊢;have:=kR (k:=cT s w/Q6.getD j 1*q) (v:=1) b c;rw[ŭ,show cT s w/Q6.getD j 1*q*Q6.getD j 1=(cT s w/Q6.getD j 1*Q6.getD j 1)*q by grind,e3] at this;rw[this,z];rfl
def CF(k s:Int)(w:List (Int×Int)):Bool:=decide ((if 0<k then 1 else -1)=s)&&(Q6.zip w).all λu=>decide (cls k u.1=u.2)
noncomputable def Ou(k p:Int):Int:=if k%p=0 then k/p else k
def A_:∀j,j<5->HR.getD j 1=Q6.getD (j+1) 1/\HR.getD j 1∈HR/\HR.getD j 1≠2:=λj a=>by
 have:j=0\/j=1\/j=2\/j=3\/j=4:=by lia
 rcases this with rfl|rfl|rfl|rfl|rfl<;>decide
def zS(h:GW s w)(g:Ka q){j:Nat}(b:j<6):Ou (cT s w*q) (Q6.getD j 1)=Ab (cT s w) (Q6.getD j 1) (w.getD j (0,1)).1*q:=by
 obtain⟨_,d⟩:=KD h g b;obtain⟨_,_,_,f⟩:=h.st;obtain⟨e1,_⟩:=f j b;have i:=au (jf j b);unfold Ou;rcases h.a j b with z|z
 .have e:Ab (cT s w) (Q6.getD j 1) (w.getD j (0,1)).1=cT s w:=by unfold Ab;rw[Xl .b]
  rw[e] at d ⊢;rw[Xl λc=>d (XM c)]
 .have e:Ab (cT s w) (Q6.getD j 1) (w.getD j (0,1)).1=cT s w/Q6.getD j 1:=by unfold Ab;rw[Xo z]
  have e3:=e1 z;rw[e];generalize cT s w/Q6.getD j 1=m at *;rw[<-e3,Xo (Yw #[m*q,by grind]),show m*Q6.getD j 1*q=(m*q)*Q6.getD j 1 by grind,Int.mul_ediv_cancel _ .b]
def BY(l:w.length=6):CF k s w=Á↔(if 0<k then (1:Int) else -1)=s/\∀j,j<6->cls k (Q6.getD j 1)=w.getD j (0,1):=by
 obtain⟨a,b,c,d,e,f,rfl⟩:=six l;unfold CF;rw[X8,ZU];refine and_congr Ş ?_;have:(Q6.zip [a,b,c,d,e,f])=[(2,a),(3,b),(5,c),(7,d),(11,e),(13,f)]:=rfl;rw[this];simp only[ac8,List.all_nil,X8,ZU,and_true];constructor
 .rintro⟨n,h1,h2,i,g,m⟩ j o;have:j=0\/j=1\/j=2\/j=3\/j=4\/j=5:=by lia
  rcases this with rfl|rfl|rfl|rfl|rfl|rfl
  .exact n
  .exact h1
  .exact h2
  .exact i
  .exact g
  .exact m
 .intro h;exact#[h 0 .a,h 1 .a,h 2 .a,h 3 .a,h 4 .a,h 5 .a]
def Kh(h:GW s w)(i:Ka q)(g:0<q):CF (cT s w*q) s w=Á↔Ou (cT s w*q) 2%8=(w.getD 0 (0,1)).2/\∀j,j<5->bh (Ou (cT s w*q) (HR.getD j 1)) (HR.getD j 1)=(w.getD (j+1) (0,1)).2:=by
 obtain⟨m,_,d,_⟩:=h.st;rw[BY h.len]
 have k:(if 0<cT s w*q then (1:Int) else -1)=s:=by
  rcases h.sg with z|z
  .rw[Xo (Yq (d.mpr z) g),z]
  .have:¬0<cT s w:=λc=>by have:=d.mp c;lia
   have:cT s w*q<0:=Zn .b g;rw[Xl .b,z]
 have ec:∀j,j<6->(cls (cT s w*q) (Q6.getD j 1)=w.getD j (0,1)↔(if Q6.getD j 1=2 then Ou (cT s w*q) (Q6.getD j 1)%8 else bh (Ou (cT s w*q) (Q6.getD j 1)) (Q6.getD j 1))=(w.getD j (0,1)).2):=λj b=>by
  obtain⟨e1,_⟩:=KD h i b;rw[zS h i b];unfold cls;rw[e1];dsimp only;have l:(w.getD j (0,1)).1%2=(w.getD j (0,1)).1:=by rcases h.a j b with z|z<;>rw[z]<;>decide
  rw[l];constructor
  .intro c;rw[<-c]
  .intro c;rw[c]
 constructor
 .rintro⟨_,c⟩;refine#[?_,λj b=>?_]
  .have:=(ec 0 .a).mp (c 0 .a);exact this
  .obtain⟨e,p2,f⟩:=A_ j b;have:=(ec (j+1) .b).mp (c (j+1) .b);rw[<-e,Xl f] at this;exact this
 .rintro⟨c0,c⟩;refine#[k,λj b=>(ec j b).mpr ?_]
  match j,b with
  |0,_=>exact c0
  |j+1,b =>
   obtain⟨e,p2,f⟩:=A_ j .b;rw[<-e,Xl f];exact c j .b
noncomputable def wW:List Nat:=[17,19,23,29,31,37,41,43,47,53,59,61,67,71,73,79,83,89,97,101,103,107,109,113,127,131,137,139,149,151,157,167,173,179,181,191,193,197,199,211,223,229,233,239,241,251,257,263,269,271,277,281,283,293,307,311,313,317,331,337,349,353,389,397,401,421,439,443,461,463,467,479,491,503,509,521,563,569,587,593,601,607,613,619,631,641,643,647,683,733,739,743,751,757,773,797,823,827,839,859,863,883,937,967,997,1009,1019,1031,1061,1171,1321,1361,1381,1483,1559,1609,1621,1723,1733,1873,1913,1931,2017,2521,2689,2699,3583,8089]
noncomputable def RZ(q:Nat):Nat:=((Ô 46).find? λm=>decide (q<(2*m+3)*(2*m+3))).getD 0
def ve:∀q∈wW,vo q (RZ q)=Á/\17<=q/\q%2=1/\q<=8089/\q<(2*RZ q+3)*(2*RZ q+3):=by decide +kernel
def qm(q:Nat)(p:Int):Bool:=decide ((q:Int)%p∈QY p)
def Jz:∀c∈[1,3,5,7],∀a∈[Á,Â],∀e1∈[Á,Â],∀e2∈[Á,Â],∀e3∈[Á,Â],∀e4∈[Á,Â],(wW.any λq=>decide (q%8=c)&&(qm q 3==a)&&(qm q 5==e1)&&(qm q 7==e2)&&(qm q 11==e3)&&(qm q 13==e4))=Á:=by decide +kernel
def Ta{a b:Int}(ha:a=1\/a=-1)(e:b=1\/b=-1)(d:c=1\/c=-1)(h:decide (b=1)=(decide (a=1)==decide (c=1))):a*b=c:=by
 rcases ha with rfl|rfl<;>rcases e with rfl|rfl<;>rcases d with rfl|rfl<;>revert h<;>decide
def RQ(h:GW s w):∃q,aT q=Á/\17<=q/\q<=8089/\CF (cT s w*q) s w=Á:=by
 have l:∀{q:Nat} {x:Int},q%8=(x%8).toNat->(q:Int)%8=x%8:=λh=>by lia
 have d:∀{x:Int},x%2=1->x%8=1\/x%8=3\/x%8=5\/x%8=7:=λh=>by lia
 obtain⟨m,p⟩:∃m:Nat->Int,∀j,m j=Ab (cT s w) (Q6.getD j 1) (w.getD j (0,1)).1:=#[_,λ_=>rfl];have t:∀j,j<6->¬Q6.getD j 1∣m j:=λj n=>by rw[p];exact(h.st.2.2.2 j n).2
 have m2:m 0%2=1:=by
  have:=t 0 .a;simp[Q6] at this;lia
 have D:((m 0*(w.getD 0 (0,1)).2)%8).toNat∈[1,3,5,7]:=by
  have c:=h.u2;simp only[Xm,Xr,XT] at c ⊢;have o:=d m2;rw[YV];rcases c with z|z|z|z<;>rcases o with y|y|y|y<;>rw[z,y]<;>decide
 have bl:∀b:Bool,b∈[Á,Â]:=by decide
 obtain⟨e,he⟩:∃e:Nat->Bool,∀j,e j=(decide (bh (m (j+1)) (HR.getD j 1)=1)==decide ((w.getD (j+1) (0,1)).2=1)):=#[_,λ_=>rfl];obtain⟨q,A,v⟩:=Zf.mp (Jz _ D (e 0) (bl _) (e 1) (bl _) (e 2) (bl _) (e 3) (bl _) (e 4) (bl _));simp only[X8,ZU,abh] at v;obtain⟨⟨⟨⟨⟨J,C⟩,F⟩,G⟩,B⟩,H⟩:=v;obtain⟨E,O,I,P,α⟩:=ve q A;have hp:aT (q:Int)=Á:=g6 E .b I α;have f:=i_ hp .b;refine#[q,hp,.b,.b,(Kh h f .b).mpr #[?_,λj n=>?_]]
 .have:=zS h f (show 0<6 by decide);rw[<-p] at this;rw[show(2:Int)=Q6.getD 0 1 from rfl,this];have c:=h.u2;simp only[Xm,Xr,XT] at c;have o:=d m2;have g:=l J;rw[YV,g,YV (m 0) ((w.getD 0 (0,1)).2)];rcases c with z|z|z|z<;>rcases o with y|y|y|y<;>rw[z,y]<;>decide
 .obtain⟨r,p2,N⟩:=A_ j n;have:=zS h f (show j+1<6 by lia);rw[<-p] at this;rw[r,this];have i:=jf (j+1) .b;rw[cX i]
  have a:qm q (Q6.getD (j+1) 1)=e j:=by
   have:j=0\/j=1\/j=2\/j=3\/j=4:=by lia
   rcases this with rfl|rfl|rfl|rfl|rfl
   .exact C
   .exact F
   .exact G
   .exact B
   .exact H
  rw[he,r] at a;unfold qm at a;rw[r] at p2;have K:=LM (k:=(q:Int)) p2;have L:decide ((q:Int)%Q6.getD (j+1) 1∈QY (Q6.getD (j+1) 1))=decide (bh (q:Int) (Q6.getD (j+1) 1)=1):=abx.mpr K.symm;rw[L] at a;exact Ta (bx (t (j+1) .b)) (bx (f (j+1) .b)) (h.u (j+1) .b .b) a
def PZ(l:List Int)(p N:Int):Prop:=∃xs:List Int,xs.length=l.length/\N∣eA l xs/\∃x∈xs,¬p∣x
def AS{a:Int}(hp:aT p=Á)(ha:¬p∣a)(h:p∣a*x*x-a*y*y):p∣x-y\/p∣x+y:=by
 rw[show a*x*x-a*y*y=a*((x-y)*(x+y)) by grind] at h;rcases euclid hp h with h|h
 .exact absurd h ha
 .exact euclid hp h
noncomputable def half(p:Int):List Int:=(Ô ((p+1)/2).toNat).map fun(i:Nat)=>(i:Int)
def Fp(hp:2<=p):x∈half p↔0<=x/\x<(p+1)/2:=by
 unfold half;simp only[XF,Yu];constructor
 .rintro⟨i,h,rfl⟩;lia
 .rintro⟨h1,h2⟩;exact#[x.toNat,.b,.b]
theorem nodup_map_on{f:Int->Int}:∀{l:List Int},l.Nodup->(∀x∈l,∀y∈l,f x=f y->x=y)->(l.map f).Nodup
 |[],_,_=>aat
 |a::l,c,g=>by
  rw[YC] at c;rw[X3,YC];refine#[λh=>?_,nodup_map_on c.2 λx i y j=>g x (by simp[i]) y (by simp[j])];obtain⟨b,d,e⟩:=XF.mp h;have:=g b (by simp[d]) a .c e;subst this;exact c.1 d
def tq(p:Int):(half p).Nodup:=by
 unfold half;rw[show(Ô ((p+1)/2).toNat).map (fun(i:Nat)=>(i:Int))=((Ô ((p+1)/2).toNat).map fun(i:Nat)=>(i:Int)) from rfl];exact aaw.map _ λa b h e=>h .b
def xV(hp:aT p=Á)(h2:p≠2)(f:¬p∣s)(d:x∈half p)(b:y∈half p)(e:(c+s*x*x)%p=(c+s*y*y)%p):x=y:=by
 have a:=au hp;have i:=gO hp h2;rw[Fp a] at d b
 have g:p∣s*x*x-s*y*y:=by
  have:=vE.mp e
  rwa [show c+s*x*x-(c+s*y*y)=s*x*x-s*y*y by lia] at this
 rcases AS hp f g with h|h
 .have:=cf h .b .b;lia
 .have:=cf h .b .b;lia
def Gg{a b:Int}(c:Int)(hp:aT p=Á)(h2:p≠2)(ha:¬p∣a)(m:¬p∣b):∃x y:Int,p∣a*x*x+b*y*y-c:=by
 have o:=au hp;have B:=gO hp h2;apply Xt;intro q;have d:¬p∣-b:=λz=>m (YL.mp z);have t:((half p).map λx=>(0+a*x*x)%p).Nodup:=nodup_map_on (tq p) λx j y f e=>xV hp h2 ha j f e;have r:((half p).map λy=>(c+-b*y*y)%p).Nodup:=nodup_map_on (tq p) λx j y f e=>xV hp h2 d j f e
 have n:((half p).map (λx=>(0+a*x*x)%p)++(half p).map λy=>(c+-b*y*y)%p).Nodup:=by
  rw[abp];refine#[t,r,λu k v l e=>q ?_];obtain⟨x,_,rfl⟩:=XF.mp k;obtain⟨y,_,rfl⟩:=XF.mp l;refine#[x,y,?_];have:=vE.mp e
  rwa [show 0+a*x*x-(c+-b*y*y)=a*x*x+b*y*y-c by grind] at this
 have A:=j9 n (α:=(Ô p.toNat).map fun(i:Nat)=>(i:Int)) λu k=>by
  have g:∃w,u=w%p:=by
   rcases Yf.mp k with h|h
   .obtain⟨x,_,rfl⟩:=XF.mp h;exact#[_,rfl]
   .obtain⟨x,_,rfl⟩:=XF.mp h;exact#[_,rfl]
  obtain⟨w,rfl⟩:=g;have h1:=X2 w (b:=p) .b;have C:=XU w (b:=p) .b;exact XF.mpr #[(w%p).toNat,Yu.mpr .b,.b]
 have s:(half p).length=((p+1)/2).toNat:=by unfold half;simp
 simp only[XQ,Xv,Zx,s] at A;lia
def fV(xs:List Int):eA [] xs=0:=by cases xs<;>rfl
theorem kZ:∀l:List Int,eA l (Ê l.length 0)=0
 |[]=>rfl
 |a::l=>by
  show a*0*0+eA l (Ê l.length 0)=0;rw[kZ l];lia
theorem jD:∀{l m xs ys:List Int},l.length=xs.length->eA (l++m) (xs++ys)=eA l xs+eA m ys
 |[],_,[],_,_=>by rw[fV];show eA _ _=_;simp
 |a::l,m,x::xs,ys,h=>by
  show a*x*x+eA (l++m) (xs++ys)=a*x*x+eA l xs+eA m ys;rw[jD ↑h];lia
def PZ.more(m:List Int)(h:PZ l p N):PZ (l++m) p N:=by
 obtain⟨xs,h1,h2,x,b,a⟩:=h;refine#[xs++Ê m.length 0,by simp[h1],?_,x,by simp[b],a];rw[jD h1.symm,kZ];simpa using h2
def yx(hp:aT p=Á)(h2:p≠2):∀{l:List Int},(∀a∈l,¬p∣a)->(PZ l p p↔3<=l.length\/∃a b,l=[a,b]/\bh (-a*b) p=1)
 |[],_=>by
  constructor
  .rintro⟨xs,h1,_,x,j,_⟩;cases xs with
   |nil=>cases j
   |cons _ _=>cases h1
  .rintro(h|⟨a,b,h,_⟩)
   .cases h
   .cases h
 |[a],g=>by
  constructor
  .rintro⟨xs,h1,j,x,k,f⟩
   match xs,h1 with
   |[y],_ =>
    have e:x=y:=by simpa using k
    subst e;have m:p∣a*x*x:=by simpa [eA] using j
    exact absurd m (OF hp (OF hp (g a .c) f) f)
  .rintro(h|⟨c,b,h,_⟩)
   .exact absurd h .c
   .cases h
 |[a,b],g=>by
  have ha:=g a .c;have s:=g b .c;constructor
  .rintro⟨xs,h1,j,x,k,f⟩
   match xs,h1 with
   |[y,z],_ =>
    have q:p∣a*y*y+b*z*z:=by simpa [eA] using j
    have i:¬p∣y/\¬p∣z:=by
     have E:p∣y->p∣z:=λB=>by
      have:p∣b*z*z:=by
       have:=ZG q (OL (a*y) B)
       rwa [show a*y*y+b*z*z-a*y*y=b*z*z by lia] at this
      rcases euclid hp this with w|w
      .exact(euclid hp w).elim (λw=>absurd w s) id
      .exact w
     have A:p∣z->p∣y:=λhz=>by
      have:p∣a*y*y:=by
       have:=ZG q (OL (b*z) hz)
       rwa [show a*y*y+b*z*z-b*z*z=a*y*y by lia] at this
      rcases euclid hp this with w|w
      .exact(euclid hp w).elim (λw=>absurd w ha) id
      .exact w
     rcases Xm.mp k with e|e
     .subst e;exact#[f,λw=>f (A w)]
     .have e:x=z:=by simpa using e
      subst e;exact#[λw=>f (E w),f]
    refine .inr #[a,b,rfl,?_]
    have e:bh (-a*b*z*z) p=bh ((a*y)*(a*y)) p:=om (vE.mpr (by
     rw[show -a*b*z*z-a*y*(a*y)=-a*(a*y*y+b*z*z) by grind]
     exact OL _ q))
    have o:¬p∣-a*b:=OF hp (λw=>ha (YL.mp w)) s;rw[cX hp,cX hp,cX hp (a*y)] at e;have n:=OF hp ha i.1;rcases bx o with u|u<;>rcases bx i.2 with v|v<;>rcases bx n with w|w<;>rw[u,v,w] at e<;>first|exact u|(exfalso;revert e;decide)
  .rintro(h|⟨c,d,h,F⟩)
   .exact absurd h .c
   .cases h;obtain⟨r,t,D⟩:=Iz hp F;refine#[[r,a],rfl,?_,a,.c,ha];show p∣a*r*r+(b*a*a+0);rw[show a*r*r+(b*a*a+0)=a*(r*r+a*b) by grind,D];exact#[a*t,by grind]
 |a::b::c::l,g=>by
  refine#[λ_=>.inl .c,λ_=>?_];obtain⟨x,y,C⟩:=Gg (-c) hp h2 (g a .c) (g b .c)
  have:PZ [a,b,c] p p:=by
   refine#[[x,y,1],rfl,?_,1,.c,λw=>by have:=XH .a w;have:=au hp;lia];show p∣a*x*x+(b*y*y+(c*1*1+0))
   rwa [show a*x*x+(b*y*y+(c*1*1+0))=a*x*x+b*y*y - -c by lia]
  exact this.more l
noncomputable def sel(f:Int->Bool):List Int->List Int->List Int
 |a::l,x::xs=>if f a then x::sel f l xs else sel f l xs
 |_,_=>[]
noncomputable def fX(p a:Int):Bool:=decide (a%p=0)
noncomputable def qi(p:Int)(l:List Int):List Int:=l.filter λa=>!fX p a
noncomputable def rL(p:Int)(l:List Int):List Int:=(l.filter (fX p)).map (·/p)
def Lz{a:Int}(z:fX p a=Á):qi p (a::l)=qi p l:=by unfold qi;exact YM (p:=λa=>!fX p a) (by simp[z])
def Ln{a:Int}(z:fX p a=Á):rL p (a::l)=a/p::rL p l:=by unfold rL;rw[YN z];rfl
def Kx{a:Int}(z:¬fX p a=Á):qi p (a::l)=a::qi p l:=by unfold qi;exact YN (p:=λa=>!fX p a) (by simp[z])
def KW{a:Int}(z:¬fX p a=Á):rL p (a::l)=rL p l:=by unfold rL;rw[YM z]
def kU{f:Int->Bool}{a:Int}{xs:List Int}(z:f a=Á):sel f (a::l) (x::xs)=x::sel f l xs:=Xo z
def lh{f:Int->Bool}{a:Int}{xs:List Int}(z:¬f a=Á):sel f (a::l) (x::xs)=sel f l xs:=Xl z
theorem xF(f:Int->Bool):∀{l xs:List Int},xs.length=l.length->(sel f l xs).length=(l.filter f).length
 |[],[],_=>rfl
 |a::l,x::xs,h=>by
  have b:=xF f (l:=l) (xs:=xs) ↑h;unfold sel;by_cases z:f a=Á
  .rw[Xo z,YN z,Yl,Yl,b]
  .rw[Xl z,YM z,b]
theorem k5{p:Int}(hp:2<=p):∀{l xs:List Int},xs.length=l.length->eA l xs=eA (qi p l) (sel (λa=>!fX p a) l xs)+p*eA (rL p l) (sel (fX p) l xs)
 |[],[],_=>by simp[eA,qi,rL]
 |a::l,x::xs,h=>by
  have c:=k5 hp (l:=l) (xs:=xs) ↑h;show a*x*x+eA l xs=_;rw[c];by_cases z:fX p a=Á
  .have b:¬(!fX p a)=Á:=by simp[z]
   have e:p*(a/p)=a:=aao (XM (XD z));rw[Lz z,Ln z,kU z,lh (f:=λa=>!fX p a) b];show _=_+p*(a/p*x*x+_);rw[ZE,show p*(a/p*x*x)=(p*(a/p))*x*x by grind,e];lia
  .have b:(!fX p a)=Á:=by simp[z]
   rw[Kx z,KW z,lh z,kU (f:=λa=>!fX p a) b];show _=a*x*x+_+_;lia
theorem FL(f:Int->Bool):∀{l xs:List Int} {Q:Int->Prop},xs.length=l.length->(∃x∈xs,Q x)->(∃x∈sel f l xs,Q x)\/∃x∈sel (λa=>!f a) l xs,Q x
 |[],[],_,_,⟨x,h,_⟩=>by cases h
 |a::l,x::xs,Q,h,he=>by
  have c:=FL f (l:=l) (xs:=xs) (Q:=Q) ↑h;rw[jt] at he;by_cases z:f a=Á
  .have b:¬(!f a)=Á:=by simp[z]
   rw[kU z,lh (f:=λa=>!f a) b,jt];rcases he with he|he
   .exact .inl (.inl he)
   .exact(c he).imp .inr id
  .have b:(!f a)=Á:=by simp[z]
   rw[lh z,kU (f:=λa=>!f a) b,jt];rcases he with he|he
   .exact .inr (.inl he)
   .exact(c he).imp id .inr
noncomputable def G0(f:Int->Bool):List Int->List Int->List Int->List Int
 |a::l,ys,zs=>if f a then (match ys with|y::ys=>y::G0 f l ys zs|[]=>0::G0 f l [] zs) else (match zs with|z::zs=>z::G0 f l ys zs|[]=>0::G0 f l ys [])
 |[],_,_=>[]
theorem vB(f:Int->Bool):∀{l ys zs:List Int},ys.length=(l.filter f).length->zs.length=(l.filter λa=>!f a).length->(G0 f l ys zs).length=l.length/\sel f l (G0 f l ys zs)=ys/\sel (λa=>!f a) l (G0 f l ys zs)=zs
 |[],ys,zs,h1,h2=>by
  have e1:ys=[]:=Zd.mp h1;have e2:zs=[]:=Zd.mp h2;subst e1;subst e2;exact#[rfl,rfl,rfl]
 |a::l,ys,zs,h1,h2=>by
  by_cases z:f a=Á
  .have b:¬(!f a)=Á:=by simp[z]
   rw[YN z] at h1;rw[YM (p:=λa=>!f a) b] at h2
   match ys,h1 with
   |y::ys,h1 =>
    obtain⟨e,c,d⟩:=vB f (l:=l) (ys:=ys) (zs:=zs) ↑h1 h2;unfold G0;rw[Xo z];dsimp only;rw[kU z,lh (f:=λa=>!f a) b,c,d];exact#[by simp[e],rfl,rfl]
  .have b:(!f a)=Á:=by simp[z]
   rw[YM z] at h1;rw[YN (p:=λa=>!f a) b] at h2
   match zs,h2 with
   |w::zs,h2 =>
    obtain⟨e,c,d⟩:=vB f (l:=l) (ys:=ys) (zs:=zs) h1 ↑h2;unfold G0;rw[Xl z];dsimp only;rw[lh z,kU (f:=λa=>!f a) b,c,d];exact#[by simp[e],rfl,rfl]
theorem rg(f:Int->Bool):∀{l xs:List Int} {x:Int},x∈sel f l xs->x∈xs
 |[],_,_,h=>by simp[sel] at h
 |_::_,[],_,h=>by simp[sel] at h
 |a::l,y::xs,x,h=>by
  unfold sel at h;split at h
  .rcases Xm.mp h with e|e
   .exact Xm.mpr (.inl e)
   .exact Xm.mpr (.inr (rg f e))
  .exact Xm.mpr (.inr (rg f h))
theorem Bn{d:Int}:∀{l xs:List Int},(∀x∈xs,d∣x)->d*d∣eA l xs
 |[],xs,_=>by rw[fV];exact abf _
 |_::_,[],_=>abf _
 |a::l,x::xs,h=>by
  show d*d∣a*x*x+eA l xs;obtain⟨t,rfl⟩:=h x .c;exact aa3 #[a*t*t,by grind] (Bn λy b=>h y (by simp[b]))
theorem Ku{p:Int}(hp:aT p=Á)(h2:p≠2):∀{l xs:List Int} (r:Int),xs.length=l.length->(∀a∈l,¬p∣a)->p∣eA l xs-r->(∃x∈xs,¬p∣x)->∃ys:List Int,ys.length=l.length/\p*p∣eA l ys-r/\∃y∈ys,¬p∣y
 |[],[],_,_,_,_,⟨x,h,_⟩=>by cases h
 |a::l,x::xs,r,m,k,E,he=>by
  have C:=au hp;by_cases c:p∣x
  .have j:∃y∈xs,¬p∣y:=by
    rw[jt] at he;exact he.resolve_left λz=>z c
   obtain⟨ys,D,F,w⟩:=Ku hp h2 (l:=l) (xs:=xs) (r-a*x*x) ↑m (λb B=>k b (by simp[B])) (by
    show p∣eA l xs-(r-a*x*x)
    rwa [show eA l xs-(r-a*x*x)=(a*x*x+eA l xs)-r by lia]) j
   refine#[x::ys,by simp[D],?_,?_]
   .show p*p∣a*x*x+eA l ys-r
    rwa [show a*x*x+eA l ys-r=eA l ys-(r-a*x*x) by lia]
   .obtain⟨y,s,d⟩:=w;exact#[y,by simp[s],d]
  .-- x+p t: a (x+p t)^2=a x^2+2 a x p t+p^2 ..
   obtain⟨q,o⟩:=E;have g:¬p∣(2:Int):=λz=>h2 (bE hp aR z);have d:¬p∣2*a*x:=OF hp (OF hp g (k a .c)) c
   obtain⟨u,v,f⟩:∃u v:Int,2*a*x*u=1+p*v:=by
    have n:=HA hp d;obtain⟨v,A⟩:=n;have i:(p-1).toNat=(p-2).toNat+1:=by lia
    refine#[(2*a*x)^(p-2).toNat,v,?_];rw[i,XS] at A;have:2*a*x*(2*a*x)^(p-2).toNat=(2*a*x)^(p-2).toNat*(2*a*x):=Yb _ _;lia
   refine#[(x+p*(-(q*u)))::xs,↑m,?_,x+p*(-(q*u)),.c,λz=>c ?_]
   .show p*p∣a*(x+p*(-(q*u)))*(x+p*(-(q*u)))+eA l xs-r;have e:a*x*x+eA l xs-r=p*q:=o;refine#[-(q*v)+a*(q*u)*(q*u),?_];have e2:a*(x+p*(-(q*u)))*(x+p*(-(q*u)))+eA l xs-r=(a*x*x+eA l xs-r)-p*q*(2*a*x*u)+p*p*(a*(q*u)*(q*u)):=by grind
    rw[e2,e,f];grind
   .have:=ZG z #[-(q*u),rfl]
    rwa [show x+p*(-(q*u))-p*(-(q*u))=x by lia] at this
def yP(hp:aT p=Á)(h2:p≠2):PZ l p (p*p)↔PZ (qi p l) p p\/PZ (rL p l) p p:=by
 have c:=au hp
 have B:∀a∈qi p l,¬p∣a:=λa ha z=>by
  have:=(Ys.mp ha).2;simp only[fX,acd,abk] at this;exact this (Yw z)
 have g:(rL p l).length=(l.filter (fX p)).length:=by unfold rL;rw[Xv]
 constructor
 .rintro⟨xs,h1,b,d⟩;have n:=k5 c h1;have u:=xF (λa=>!fX p a) h1;have r:=xF (fX p) h1;by_cases j:∃x∈sel (λa=>!fX p a) l xs,¬p∣x
  .refine .inl #[_,u,?_,j];have:p∣eA l xs:=X7 #[p,rfl] b;rw[n] at this;have:=ZG this #[eA (rL p l) (sel (fX p) l xs),rfl]
   rwa [Φ] at this
  .refine .inr #[_,r.trans g.symm,?_,?_]
   .have hz:∀x∈sel (λa=>!fX p a) l xs,p∣x:=λx i=>Xt λz=>j #[x,i,z];have v:=Bn (l:=qi p l) hz;rw[n] at b;have m:=ZG b v;rw[show eA (qi p l) (sel (λa=>!fX p a) l xs)+p*eA (rL p l) (sel (fX p) l xs)-eA (qi p l) (sel (λa=>!fX p a) l xs)=p*eA (rL p l) (sel (fX p) l xs) by lia] at m;exact abV .b m
   .exact(FL (fX p) h1 d).resolve_right j
 .rintro(⟨ys,h1,b,d⟩|⟨zs,h1,b,d⟩)
  .obtain⟨f,w,o,s⟩:=Ku hp h2 (l:=qi p l) (xs:=ys) 0 h1 B ↑b d
   obtain⟨m1,m2,m3⟩:=vB (λa=>!fX p a) (l:=l) (ys:=f) (zs:=Ê (rL p l).length 0) w (by
    rw[abz,g];congr 2;funext a;simp)
   refine#[_,m1,?_,?_]
   .rw[k5 c m1,m2]
    have:sel (fX p) l (G0 (λa=>!fX p a) l f (Ê (rL p l).length 0))=Ê (rL p l).length 0:=by
     have q:=m3;rw[show(λa=>!!fX p a)=fX p by funext a;simp] at q;exact q
    rw[this,kZ];simpa using o
   .obtain⟨y,h,k⟩:=s;exact#[y,rg _ (by rw[m2];exact h),k]
  .obtain⟨m1,m2,m3⟩:=vB (λa=>!fX p a) (l:=l) (ys:=Ê (qi p l).length 0) (zs:=zs) (by simp[qi]) (by
    rw[h1,g];congr 2;funext a;simp)
   have e:sel (fX p) l (G0 (λa=>!fX p a) l (Ê (qi p l).length 0) zs)=zs:=by
    have:=m3;rw[show(λa=>!!fX p a)=fX p by funext a;simp] at this;exact this
   refine#[_,m1,?_,?_]
   .rw[k5 c m1,m2,e,kZ];obtain⟨t,A⟩:=b;exact#[t,by rw[A];grind]
   .obtain⟨y,h,k⟩:=d;exact#[y,rg _ (by rw[e];exact h),k]
noncomputable def N5(m:Int):List (Int×Int)->Bool
 |[]=>Á
 |[_]=>Â
 |[a,b]=>decide (bj (bj (0,m) a 3) b 3=(0,1))
 |[a,b,c]=>lx (bj (bj (0,m) a 3) c 3) (bj (bj (0,m) b 3) c 3) m
 |[a,b,c,d]=>!decide (bj (bj (bj a b 3) c 3) d 3=(0,1)) || lx (bj (bj (0,m) a 3) c 3) (bj (bj (0,m) b 3) c 3) m
 |_=>Á
noncomputable def Ql(m:Int)(cs:List (Int×Int)):Bool:=match cs with
 |[a,b]=>decide (m*a.2*b.2=1)
 |_::_::_::_=>Á
 |_=>Â
def Lc(m:Int)(cs:List (Int×Int)):Bool:=Ql m (cs.filter λc=>decide (c.1=0)) || Ql m (cs.filter λc=>decide (c.1=1))
def S4:∀m∈[(1:Int),-1],∀a∈CO,N5 m [a]=Lc m [a]:=by decide +kernel
def SX:∀m∈[(1:Int),-1],∀a∈CO,∀b∈CO,N5 m [a,b]=Lc m [a,b]:=by decide +kernel
def SY:∀m∈[(1:Int),-1],∀a∈CO,∀b∈CO,∀c∈CO,N5 m [a,b,c]=Lc m [a,b,c]:=by decide +kernel
def S2:∀m∈[(1:Int),-1],∀a∈CO,∀b∈CO,∀c∈CO,∀d∈CO,N5 m [a,b,c,d]=Lc m [a,b,c,d]:=by decide +kernel
def uE{cs:List (Int×Int)}(h:3<=cs.length):Ql m cs=Á:=by
 match cs,h with
 |_::_::_::_,_=>rfl
def Hz{cs:List (Int×Int)}(h:∀c∈cs,c.1=0\/c.1=1):(cs.filter λc=>decide (c.1=0)).length+(cs.filter λc=>decide (c.1=1)).length=cs.length:=by
 induction cs with
 |nil=>rfl
 |cons c cs a =>
  have a:=a λd b=>h d (by simp[b]);rcases h c .c with z|z
  .rw[YN (by simp[z]),YM (by simp[z])];simp only[Yl];lia
  .rw[YM (by simp[z]),YN (by simp[z])];simp only[Yl];lia
def RW{c:Int×Int}(h:c∈CO):c.1=0\/c.1=1:=by
 revert c;decide
def Ec(f:m∈[(1:Int),-1]):∀{cs:List (Int×Int)},(∀c∈cs,c∈CO)->1<=cs.length->N5 m cs=Lc m cs
 |[a],h,_=>S4 m f a (h a .c)
 |[a,b],h,_=>SX m f a (h a .c) b (h b .c)
 |[a,b,c],h,_=>SY m f a (h a .c) b (h b .c) c (h c .c)
 |[a,b,c,d],h,_=>S2 m f a (h a .c) b (h b .c) c (h c .c) d (h d .c)
 |a::b::c::d::e::l,h,_=>by
  have i:=Hz λc g=>RW (h c g);show Á=_;unfold Lc;simp only[Yl] at i;rcases ade ((a::b::c::d::e::l).filter fun(c:Int×Int)=>decide (c.1=0)).length 3 with z|z
  .rw[uE (cs:=(a::b::c::d::e::l).filter fun(c:Int×Int)=>decide (c.1=1)) .b,acD]
  .rw[uE z,Bool.true_or]
def B2(hp:aT p=Á):bh (-1) p∈[(1:Int),-1]:=sH (au hp)
def nG{a:Int}(hp:aT p=Á)(h2:p≠2)(ha:a≠0):cls (-a) p=bj (0,bh (-1) p) (cls a p) 3:=by
 rw[show -a=-1*a by lia,aN hp .a ha,sG hp,Xl h2,bW h2]
def rq(hp:aT p=Á)(h2:p≠2):∀{l:List Int},(∀a∈l,a≠0)->bZ l p=N5 (bh (-1) p) (l.map λa=>cls a p)
 |[],_=>by unfold bZ N5;have:=au hp;rw[Xl .b];rfl
 |[a],_=>by have:=au hp;rw[rP .b];rfl
 |[a,b],h=>by
  have:=au hp;have ha:=h a .c;have f:=h b .c;rw[rj .b];show decide (cls (-a*b) p=(0,1))=decide (_=_);rw[aN hp .b f,nG hp h2 ha,bW h2]
 |[a,b,c],h=>by
  have:=au hp;have ha:=h a .c;have f:=h b .c;have g:=h c .c;rw[da .b];unfold tZ;rw[bf .b h2,aN hp .b g,aN hp .b g,nG hp h2 ha,nG hp h2 f,bW h2,bW h2];rfl
 |[a,b,c,d],h=>by
  have:=au hp;have ha:=h a .c;have f:=h b .c;have g:=h c .c;have j:=h d .c;have i:=Xn ha f;rw[gR .b];unfold tZ;rw[bf .b h2,aN hp (a:=-a) .b g,aN hp (a:=-b) .b g,nG hp h2 ha,nG hp h2 f,bW h2,bW h2];show(!decide (cls (a*b*c*d) p=(0,1)) || _)=(!decide (_=_) || _);rw[aN hp (Xn i g) j,aN hp i g,aN hp ha f,bW h2,bW h2,bW h2]
 |a::b::c::d::e::l,_=>by
  have:=au hp;rw[i7 .b .c];rfl
def On(p:Int)(l:List Int):Prop:=∀a∈l,¬p*p∣a
def On.nz(h:On p l):∀a∈l,a≠0:=λa ha z=>h a ha (by rw[z];exact abf _)
def K0{a:Int}(hp:aT p=Á)(h2:p≠2)(h:¬fX p a=Á):cls a p=(0,bh a p):=cV hp h2 λz=>h (XY (Yw z))
def Ei{a:Int}(hp:aT p=Á)(h2:p≠2)(h:fX p a=Á)(c:¬p*p∣a):cls a p=(1,bh (a/p) p)/\¬p∣a/p:=by
 have e:p*(a/p)=a:=aao (XM (XD h));have b:¬p∣a/p:=fun⟨t,z⟩=>c #[t,by rw[<-e,z];grind];refine#[?_,b];have:=Hq hp h2 b
 rwa [e] at this
theorem zM{p:Int}(hp:aT p=Á)(h2:p≠2):∀{l:List Int},On p l->((l.map λa=>cls a p).filter λc=>decide (c.1=0))=(qi p l).map λa=>((0:Int),bh a p)
 |[],_=>rfl
 |a::l,h=>by
  have d:=zM hp h2 (l:=l) λb f=>h b (by simp[f]);rw[X3];by_cases z:fX p a=Á
  .have e:=(Ei hp h2 z (h a .c)).1;rw[Lz z,YM (by rw[e];simp),d]
  .have e:=K0 hp h2 z;rw[Kx z,YN (by rw[e];simp),d,e,X3]
theorem AD{p:Int}(hp:aT p=Á)(h2:p≠2):∀{l:List Int},On p l->((l.map λa=>cls a p).filter λc=>decide (c.1=1))=(rL p l).map λa=>((1:Int),bh a p)
 |[],_=>rfl
 |a::l,h=>by
  have d:=AD hp h2 (l:=l) λb f=>h b (by simp[f]);rw[X3];by_cases z:fX p a=Á
  .have e:=(Ei hp h2 z (h a .c)).1;rw[Ln z,YN (by rw[e];simp),d,e,X3]
  .have e:=K0 hp h2 z;rw[KW z,YM (by rw[e];simp),d]
def BO:∀a∈qi p l,¬p∣a:=λa ha z=>by
 have:=(Ys.mp ha).2;simp only[fX,acd,abk] at this;exact this (Yw z)
def Br(h:On p l):∀a∈rL p l,¬p∣a:=λa ha ⟨t,z⟩=>by
 obtain⟨b,c,rfl⟩:=XF.mp ha;obtain⟨h1,h2⟩:=Ys.mp c;have e:p*(b/p)=b:=aao (XM (XD h2));exact h b h1 #[t,by rw[<-e,z];grind]
def x6(hp:aT p=Á)(h2:p≠2)(h:∀a∈l,¬p∣a):PZ l p p↔Ql (bh (-1) p) (l.map λa=>(v,bh a p))=Á:=by
 rw[yx hp h2 h]
 match l with
 |[]=>exact#[λz=>by rcases z with z|⟨_,_,z,_⟩;(· cases z);(· cases z),λz=>by cases z]
 |[a]=>exact#[λz=>by rcases z with z|⟨_,_,z,_⟩;(· exact absurd z .c);(· cases z),λz=>by cases z]
 |[a,b] =>
  show _↔decide (bh (-1) p*bh a p*bh b p=1)=Á;rw[YR,<-cX hp,<-cX hp];constructor
  .rintro(z|⟨c,d,z,q⟩)
   .exact absurd z .c
   .cases z;rwa [show -1*a*b=-a*b by grind]
  .intro q;exact .inr #[a,b,rfl,by rwa [show -a*b=-1*a*b by grind]]
 |a::b::c::l=>exact#[λ_=>rfl,λ_=>.inl .c]
def Mc(hp:aT p=Á)(h2:p≠2)(h:On p l)(h1:1<=l.length):PZ l p (p*p)↔bZ l p=Á:=by
 rw[yP hp h2,x6 (v:=0) hp h2 BO,x6 (v:=1) hp h2 (Br h),rq hp h2 h.nz,Ec (B2 hp) ?_ ↑h1]
 .unfold Lc;rw[zM hp h2 h,AD hp h2 h,Zz]
 .intro c b;obtain⟨a,ha,rfl⟩:=XF.mp b;exact cI (au hp) h2 (h.nz a ha)
noncomputable def xG:List Nat:=[1,2,3,5,6,7,9,10,11,13,14,15]
noncomputable def jh:List Nat->Nat->Bool->Bool
 |[],c,o=>o&&é (c%16) 0
 |a::l,c,o=>jh l c o || (jh l (c+a) Á || (jh l (c+9*a) Á || jh l (c+4*a) o))
noncomputable def DL:List (Int×Int)->Bool
 |[]=>Á
 |[_]=>Â
 |[a,b]=>decide (bj (bj (0,7) a 2) b 2=(0,1))
 |[a,b,c]=>fG (bj (bj (0,7) a 2) c 2) (bj (bj (0,7) b 2) c 2)
 |[a,b,c,d]=>!decide (bj (bj (bj a b 2) c 2) d 2=(0,1)) || fG (bj (bj (0,7) a 2) c 2) (bj (bj (0,7) b 2) c 2)
 |_=>Á
noncomputable def vN(r:Nat):Nat:=1-r%2
noncomputable def uN(r:Nat):Nat:=cond (é (r%2) 1) (r%8) (r/2%8)
noncomputable def q1(v w:Nat):Bool:=é v 0&&é w 1
noncomputable def b4(c:Bool):Nat:=cond c 1 0
noncomputable def Sh(w:Nat):Bool:=é w 3 || Nat.beq w 5
noncomputable def tw(v w b a:Nat):Bool:=é ((b4 (é (w%4) 3&&é (a%4) 3)+b4 (é v 1&&Sh a)+b4 (é b 1&&Sh w))%2) 0
noncomputable def SS(a b c:Nat):Bool:=tw ((vN a+vN c)%2) (7*uN a*uN c%8) ((vN b+vN c)%2) (7*uN b*uN c%8)
noncomputable def R0(a b c d:Nat):Bool:=!q1 ((vN a+vN b+vN c+vN d)%2) (uN a*uN b*uN c*uN d%8) || SS a b c
def m1:∀a∈xG,jh [a] 0 Â=Â:=by decide +kernel
def m2:∀a∈xG,∀b∈xG,jh [a,b] 0 Â=q1 ((vN a+vN b)%2) (7*uN a*uN b%8):=by decide +kernel
def m3:∀a∈xG,∀b∈xG,∀c∈xG,jh [a,b,c] 0 Â=SS a b c:=by decide +kernel
def m4:(xG.all λa=>xG.all λb=>xG.all λc=>xG.all λd=>(jh [a,b,c,d] 0 Â==R0 a b c d))=Á:=by decide +kernel
def m5:(xG.all λa=>xG.all λb=>xG.all λc=>xG.all λd=>(R0 a b c d || xG.all λe=>jh [a,b,c,d,e] 0 Â))=Á:=by decide +kernel
theorem Cv:∀(l:List Int) (c:Nat) (o:Bool),jh (l.map λa=>(a%16).toNat) c o=Á↔∃xs:List Int,xs.length=l.length/\(16:Int)∣(c:Int)+eA l xs/\(o=Á\/∃x∈xs,¬(2:Int)∣x)
 |[],c,o=>by
  show(o&&é (c%16) 0)=Á↔_;rw[X8,abH];constructor
  .rintro⟨h1,h2⟩;exact#[[],rfl,by rw[fV];lia,.inl h1]
  .rintro⟨xs,h1,h2,d⟩;have e:xs=[]:=Zd.mp h1;subst e;rw[fV] at h2;exact#[d.resolve_right fun⟨x,f,_⟩=>(by cases f),.b]
 |a::l,c,o=>by
  have key:∀(s:Int) (x:Int) (o':Bool),(16:Int)∣x*x-s->0<=s->(jh (l.map λa=>(a%16).toNat) (c+s.toNat*(a%16).toNat) o'=Á↔∃xs:List Int,xs.length=l.length/\(16:Int)∣(c:Int)+(a*x*x+eA l xs)/\(o'=Á\/∃x∈xs,¬(2:Int)∣x)):=by
   intro s x o' ⟨t,F⟩ i;rw[Cv l _ o'];have E:=X2 a (b:=16) .a
   have e1:((c+s.toNat*(a%16).toNat:Nat):Int)=c+s*(a%16):=by
    rw[acM,YT,aaz i,aaz E]
   have e2:a=a%16+16*(a/16):=(YH a 16).symm
   have e3:∀w:Int,(c:Int)+(a*x*x+w)=((c:Int)+s*(a%16)+w)+16*(a*t+s*(a/16)):=λw=>by
    have:x*x=s+16*t:=by lia
    rw[show a*x*x=a*(x*x) by grind,this];generalize a%16=r at *;generalize a/16=q at *;subst e2;grind
   constructor
   .rintro⟨xs,h1,h2,d⟩;refine#[xs,h1,?_,d];rw[e3];rw[e1] at h2;exact aa3 h2 #[_,rfl]
   .rintro⟨xs,h1,h2,d⟩;refine#[xs,h1,?_,d];rw[e3] at h2;rw[e1];have:=ZG h2 #[a*t+s*(a/16),rfl]
    rwa [Φ] at this
  show(jh (l.map λa=>(a%16).toNat) c o || (jh (l.map λa=>(a%16).toNat) (c+(a%16).toNat) Á || (jh (l.map λa=>(a%16).toNat) (c+9*(a%16).toNat) Á || jh (l.map λa=>(a%16).toNat) (c+4*(a%16).toNat) o)))=Á↔_;have p:=key 0 0 o #[0,.a] .a;have A:=key 1 1 Á #[0,.a] .a;have u:=key 9 3 Á #[0,.a] .a;have v:=key 4 2 o #[0,.a] .a;rw[show c+(0:Int).toNat*(a%16).toNat=c by simp] at p;rw[show c+(1:Int).toNat*(a%16).toNat=c+(a%16).toNat by simp] at A;rw[show(9:Int).toNat=9 from rfl] at u;rw[show(4:Int).toNat=4 from rfl] at v;rw[Zz,Zz,Zz,p,A,u,v];constructor
  .rintro(⟨xs,h1,h2,d⟩|⟨xs,h1,h2,d⟩|⟨xs,h1,h2,d⟩|⟨xs,h1,h2,d⟩)
   .exact#[0::xs,by simp[h1],h2,d.imp id fun⟨x,f,n⟩=>#[x,by simp[f],n]]
   .exact#[1::xs,by simp[h1],h2,.inr #[1,.c,.a]]
   .exact#[3::xs,by simp[h1],h2,.inr #[3,.c,.a]]
   .exact#[2::xs,by simp[h1],h2,d.imp id fun⟨x,f,n⟩=>#[x,by simp[f],n]]
  .rintro⟨xs,h1,h2,d⟩
   match xs,h1 with
   |x::xs,h1 =>
    have m:(16:Int)∣(c:Int)+(a*x*x+eA l xs):=h2;have k:xs.length=l.length:=by simpa using h1
    have i:=RE x;have C:=X2 (x*x) (b:=16) .a
    have j:∀y:Int,x*x%16=y*y%16->(16:Int)∣(c:Int)+(a*y*y+eA l xs):=λy e=>by
     have D:(16:Int)∣x*x-y*y:=vE.mp e;have:=ZG m (OL a D)
     rwa [show(c:Int)+(a*x*x+eA l xs)-a*(x*x-y*y)=c+(a*y*y+eA l xs) by grind] at this
    have g:o=Á\/¬(2:Int)∣x\/∃x∈xs,¬(2:Int)∣x:=by
     rcases d with d|d
     .exact .inl d
     .rw[jt] at d;exact .inr d
    have B:=i.1;simp only[Sz,Xm,Xr,XT] at B;rcases B with e|e|e|e
    .refine .inl #[xs,k,j 0 .b,?_];have:(2:Int)∣x:=Xt λz=>by have:=i.2.mpr z;lia
     rcases g with h|h|h
     .exact .inl h
     .exact absurd this h
     .exact .inr h
    .exact .inr (.inl #[xs,k,j 1 .b,.inl rfl])
    .refine .inr (.inr (.inr #[xs,k,j 2 .b,?_]));have:(2:Int)∣x:=Xt λz=>by have:=i.2.mpr z;lia
     rcases g with h|h|h
     .exact .inl h
     .exact absurd this h
     .exact .inr h
    .exact .inr (.inr (.inl #[xs,k,j 3 .b,.inl rfl]))
def rK:PZ l 2 16↔jh (l.map λa=>(a%16).toNat) 0 Â=Á:=by
 rw[Cv];constructor
 .rintro⟨xs,h1,h2,b⟩;exact#[xs,h1,↑h2,.inr b]
 .rintro⟨xs,h1,h2,b⟩;exact#[xs,h1,↑h2,b.resolve_left λz=>by cases z]
def vk{a:Int}(h:a%4≠0):(a%16).toNat∈xG:=by
 have c:=X2 a (b:=16) .a;have h1:=XU a (b:=16) .a;simp only[xG,Xm,Xr,XT];lia
def Of{a:Int}(h:a%4≠0):cls a 2=(((vN (a%16).toNat:Nat):Int),((uN (a%16).toNat:Nat):Int)):=by
 rw[JY h];revert h;have b:∀r∈xG,Sq r=(((vN r:Nat):Int),((uN r:Nat):Int)):=by decide +kernel
 exact λh=>b _ (vk h)
def nj(a b c d:Nat):bj ((a:Int),(b:Int)) ((c:Int),(d:Int)) 2=((((a+c)%2:Nat):Int),((b*d%8:Nat):Int)):=by
 unfold bj;rw[Xo rfl];simp
def SR(v w:Nat):decide (((v:Int),(w:Int))=((0:Int),(1:Int)))=q1 v w:=by
 unfold q1;rw[Yy,X8,abH,abH,YR,ac9];lia
def Te(c:Bool):b1 c=((b4 c:Nat):Int):=by cases c<;>rfl
def Oc(a b:Nat):decide ((a:Int)=(b:Int))=é a b:=by
 rw[Yy,YR,abH];lia
def Sr(v w b a:Nat):fG ((v:Int),(w:Int)) ((b:Int),(a:Int))=tw v w b a:=by
 unfold fG tw Sh;dsimp only;have c:∀x:Nat,decide ((x:Int)%4=3)=é (x%4) 3:=λx=>by rw[Yy,YR,abH];lia
 have h1:∀x:Nat,decide ((x:Int)=1)=é x 1:=λx=>Oc x 1;have d:∀x:Nat,decide ((x:Int)=3)=é x 3:=λx=>Oc x 3;have e:∀x:Nat,decide ((x:Int)=5)=é x 5:=λx=>Oc x 5;simp only[c,h1,d,e,Te];rw[Yy,YR,abH];lia
def Kk(g:∀a∈l,a%4≠0)(h1:1<=l.length):jh (l.map λa=>(a%16).toNat) 0 Â=bZ l 2:=by
 have nz:∀a∈l,a≠0:=λa ha z=>g a ha (by rw[z];rfl);have r:cls (-1) 2=(((0:Nat):Int),((7:Nat):Int)):=by rw[sG aR];rfl
 have cn:∀a,a∈l->cls (-a) 2=((((0+vN (a%16).toNat)%2:Nat):Int),((7*uN (a%16).toNat%8:Nat):Int)):=λa ha=>by
  rw[show -a=-1*a by lia,aN aR .a (nz a ha),r,Of (g a ha),nj]
 have i:∀x y:Nat,x%8*y%8=x*y%8:=λx y=>by rw[Nat.mod_mul_mod]
 have m:∀x y z:Nat,x%8*y*z%8=x*y*z%8:=λx y z=>by rw[Nat.mul_assoc,i,<-Nat.mul_assoc]
 have j:∀x y:Nat,((0+x)%2+y)%2=(x+y)%2:=λx y=>by lia
 match l,h1 with
 |[a],_ =>
  rw[rP .a];exact m1 _ (vk (g a .c))
 |[a,b],_ =>
  rw[rj .a];show jh [_,_] 0 Â=decide (cls (-a*b) 2=(0,1));rw[m2 _ (vk (g a .c)) _ (vk (g b .c)),aN aR (by have:=nz a .c;lia) (nz b .c),cn a .c,Of (g b .c),nj,j,i];exact(SR _ _).symm
 |[a,b,c],_ =>
  rw[da .a];unfold tZ;show jh [_,_,_] 0 Â=_;rw[m3 _ (vk (g a .c)) _ (vk (g b .c)) _ (vk (g c .c)),aW,aN aR (by have:=nz a .c;lia) (nz c .c),aN aR (by have:=nz b .c;lia) (nz c .c),cn a .c,cn b .c,Of (g c .c),nj,nj,j,j,i,i,Sr];rfl
 |[a,b,c,d],_ =>
  rw[gR .a];unfold tZ;show jh [_,_,_,_] 0 Â=(!decide (cls (a*b*c*d) 2=(0,1)) || _);have f:=m4;rw[X_] at f;have f:=f _ (vk (g a .c));rw[X_] at f;have f:=f _ (vk (g b .c));rw[X_] at f;have f:=f _ (vk (g c .c));rw[X_] at f;have f:=eq_of_beq (f _ (vk (g d .c)));rw[f];have ha:=nz a .c;have o:=nz b .c;have n:=nz c .c;have k:=Xn ha o
  rw[aW,aN aR (a:=-a) .b (nz c .c),aN aR (a:=-b) .b (nz c .c),aN aR (Xn k n) (nz d .c),aN aR k n,aN aR ha o,
   cn a .c,cn b .c,Of (g a .c),Of (g b .c),Of (g c .c),Of (g d .c),nj,nj,nj,nj,nj,j,j,i,i,i,m,Sr,SR]
  unfold R0;rw[show ∀x y z w:Nat,(((x+y)%2+z)%2+w)%2=(x+y+z+w)%2 from λx y z w=>by lia];rfl
 |a::b::c::d::e::l,_ =>
  rw[i7 .a .c];have h:=m5;rw[X_] at h;have h:=h _ (vk (g a .c));rw[X_] at h;have h:=h _ (vk (g b .c));rw[X_] at h;have h:=h _ (vk (g c .c));rw[X_] at h;have h:=h _ (vk (g d .c));rw[Zz] at h
  have q:PZ [a,b,c,d,e] 2 16:=by
   rcases h with h|h
   .have f:=m4;rw[X_] at f;have f:=f _ (vk (g a .c));rw[X_] at f;have f:=f _ (vk (g b .c));rw[X_] at f;have f:=f _ (vk (g c .c));rw[X_] at f;have f:=eq_of_beq (f _ (vk (g d .c)));rw[h] at f;have:PZ [a,b,c,d] 2 16:=rK.mpr f;exact this.more [e]
   .rw[X_] at h;exact rK.mpr (h _ (vk (g e .c)))
  have p:PZ (a::b::c::d::e::l) 2 16:=q.more l;exact rK.mp p
def MF(b:∀a∈l,a%4≠0)(h1:1<=l.length):PZ l 2 16↔bZ l 2=Á:=by
 rw[rK,Kk b h1]
def NQ(N p:Int)(l:List Int)(k:Int×Bool):Prop:=∃xs:List Int,xs.length=l.length/\(∀x∈xs,0<=x/\x<=N/2)/\k.1=eA l xs%N/\k.2=xs.any λx=>!decide (x%p=0)
def JC(k:Int×Bool):NQ N p [] k↔k=(0,Â):=by
 constructor
 .rintro⟨xs,h1,_,c,d⟩;have e:xs=[]:=Zd.mp h1;subst e;rw[fV] at c;obtain⟨a,b⟩:=k;simp only at c d;rw[c,d];simp
 .rintro rfl;exact#[[],rfl,λx f=>(by cases f),(by rw[fV];simp),rfl]
def Fy{a:Int}(j:0<N)(k:Int×Bool):NQ N p (l++[a]) k↔∃k',NQ N p l k'/\∃x:Int,0<=x/\x<=N/2/\k=((k'.1+a*x*x)%N,k'.2 || !decide (x%p=0)):=by
 constructor
 .rintro⟨xs,h1,h2,d,c⟩;have b:xs≠[]:=λz=>by subst z;simp at h1
  obtain⟨ys,x,rfl⟩:∃ys x,xs=ys++[x]:=#[xs.dropLast,xs.getLast b,(List.dropLast_concat_getLast b).symm];have h:ys.length=l.length:=by simpa using h1
  refine#[(eA l ys%N,ys.any λx=>!decide (x%p=0)),#[ys,h,λy f=>h2 y (by simp[f]),rfl,rfl],x,(h2 x .c).1,(h2 x .c).2,?_];obtain⟨m,i⟩:=k;simp only at d c ⊢;rw[d,c,jD h.symm];congr 1
  .show(eA l ys+(a*x*x+eA [] []))%N=_;rw[fV,abg,ace]
  .simp
 .rintro⟨k',⟨ys,h1,h2,d,c⟩,x,g,e,rfl⟩;refine#[ys++[x],by simp[h1],λy f=>?_,?_,?_]
  .rcases Yf.mp f with z|z
   .exact h2 y z
   .rw[XX.mp z];exact#[g,e]
  .show(k'.1+a*x*x)%N=_;rw[d,jD h1.symm];show _=(eA l ys+(a*x*x+eA [] []))%N;rw[fV,abg,ace]
  .show(k'.2 || _)=_;rw[c];simp
noncomputable def mD(N x:Int):Int:=if x%N<=N/2 then x%N else N-x%N
def xE(a:0<N):0<=mD N x/\mD N x<=N/2/\N∣mD N x*mD N x-x*x/\(N∣mD N x-x\/N∣mD N x+x):=by
 have c:=X2 x (b:=N) .b;have h1:=XU x a;have e:=YH x N;unfold mD;generalize f:x%N=r at *;generalize d:x/N=q at *;subst e;split
 .rename_i h;exact#[c,h,#[-(q*(2*r+N*q)),by grind],.inl #[-q,by grind]]
 .rename_i h;exact#[.b,.b,#[N-2*r-q*(2*r+N*q),by grind],.inr #[q+1,by grind]]
theorem Cj{N:Int}(b:0<N):∀{l xs:List Int},N∣eA l (xs.map (mD N))-eA l xs
 |[],xs=>by rw[fV,fV];simp
 |_::_,[]=>by simp[eA]
 |a::l,x::xs=>by
  show N∣a*mD N x*mD N x+eA l (xs.map (mD N))-(a*x*x+eA l xs);rw[show a*mD N x*mD N x+eA l (xs.map (mD N))-(a*x*x+eA l xs)=a*(mD N x*mD N x-x*x)+(eA l (xs.map (mD N))-eA l xs) by grind];exact aa3 (OL a (xE b).2.2.1) (Cj b)
def Qz(a:0<N)(hp:p∣N):p∣mD N x↔p∣x:=by
 obtain⟨_,_,_,h|h⟩:=xE (x:=x) a
 .have:=X7 hp h;constructor
  .intro z;have:=ZG z this
   rwa [show mD N x-(mD N x-x)=x by lia] at this
  .intro z;have:=aa3 this z
   rwa [show mD N x-x+x=mD N x by lia] at this
 .have:=X7 hp h;constructor
  .intro z;have:=ZG this z
   rwa [show mD N x+x-mD N x=x by lia] at this
  .intro z;have:=ZG this z
   rwa [show mD N x+x-x=mD N x by lia] at this
def LX(a:0<N)(hp:p∣N):NQ N p l (0,Á)↔PZ l p N:=by
 constructor
 .rintro⟨xs,h1,_,f,d⟩;refine#[xs,h1,XM f.symm,?_];obtain⟨x,c,b⟩:=Zf.mp d.symm;exact#[x,c,λz=>by rw[XY (Yw z)] at b;cases b]
 .rintro⟨xs,h1,h2,x,c,b⟩;refine#[xs.map (mD N),by simp[h1],λy e=>?_,?_,?_]
  .obtain⟨z,_,rfl⟩:=XF.mp e;exact#[(xE a).1,(xE a).2.1]
  .show(0:Int)=_;have:=aa3 (Cj a (l:=l) (xs:=xs)) h2;rw[show eA l (xs.map (mD N))-eA l xs+eA l xs=eA l (xs.map (mD N)) by lia] at this;exact(Yw this).symm
  .show Á=_;refine(Zf.mpr #[mD N x,XF.mpr #[x,c,rfl],?_]).symm;rw[X1 (λz=>b ((Qz a hp).mp (XM z)))];rfl
def Fb{L:List (Int×Bool)}(j:L.Nodup)(n:∀k∈L,0<=k.1/\k.1<N):L.length<=2*N.toNat:=by
 have f:∀x∈L,∀y∈L,(2*x.1+if x.2 then 1 else 0)=(2*y.1+if y.2 then 1 else 0)->x=y:=λx _ y _ e=>by
  obtain⟨a,b⟩:=x;obtain⟨c,d⟩:=y;cases b<;>cases d<;>simp at e ⊢<;>lia
 have g:(L.map λk:Int×Bool=>2*k.1+if k.2 then 1 else 0).Nodup:=by
  clear n
  induction L with
  |nil=>exact aat
  |cons a l p =>
   rw[YC] at j;rw[X3,YC];refine#[λh=>?_,p j.2 λx r y q=>f x (by simp[r]) y (by simp[q])];obtain⟨b,m,e⟩:=XF.mp h;have:=f b (by simp[m]) a .c e;subst this;exact j.1 m
 have:=j9 g (α:=(Ô (2*N.toNat)).map fun(i:Nat)=>(i:Int)) λu s=>by
  obtain⟨k,o,rfl⟩:=XF.mp s;have:=n k o;refine XF.mpr #[(2*k.1+if k.2 then 1 else 0).toNat,Yu.mpr ?_,?_]
  .split<;>lia
  .split<;>lia
 simpa using this
def kh{a:Int}(ha:a≠0):cls (-a) 2=bj (0,7) (cls a 2) 2:=by
 rw[show -a=-1*a by lia,aN aR .a ha,sG aR];rfl
def xU:∀{l:List Int},(∀a∈l,a≠0)->bZ l 2=DL (l.map λa=>cls a 2)
 |[],_=>rfl
 |[a],_=>by rw[rP .a];rfl
 |[a,b],h=>by
  have ha:=h a .c;have f:=h b .c;rw[rj .a];show decide (cls (-a*b) 2=(0,1))=decide (_=_);rw[aN aR .b f,kh ha]
 |[a,b,c],h=>by
  have ha:=h a .c;have f:=h b .c;have g:=h c .c;rw[da .a];unfold tZ;rw[aW,aN aR .b g,aN aR .b g,kh ha,kh f];rfl
 |[a,b,c,d],h=>by
  have ha:=h a .c;have f:=h b .c;have g:=h c .c;have j:=h d .c;have i:=Xn ha f;rw[gR .a];unfold tZ;rw[aW,aN aR (a:=-a) .b g,aN aR (a:=-b) .b g,kh ha,kh f];show(!decide (cls (a*b*c*d) 2=(0,1)) || _)=(!decide (_=_) || _);rw[aN aR (Xn i g) j,aN aR i g,aN aR ha f]
 |a::b::c::d::e::l,_=>by
  rw[i7 .a .c];rfl
def oU(hp:aT p=Á){m:List Int}(c:∀a∈l,a≠0)(b:∀a∈m,a≠0)(e:l.map (λa=>cls a p)=m.map λa=>cls a p):bZ l p=bZ m p:=by
 by_cases h2:p=2
 .subst h2;rw[xU c,xU b,e]
 .rw[rq hp h2 c,rq hp h2 b,e]
def DU(l:List Int):Option Int->Prop
 |none=>bZ l 0=Á/\∀q,aT q=Á->bZ l q=Á
 |some p=>bZ l p=Â/\(p=0\/(aT p=Á/\bZ l 0=Á/\∀q,aT q=Á->q<p->bZ l q=Á))
def DU.uniq:∀r e,DU l r->DU l e->r=e
 |none,none,_,_=>rfl
 |none,À p,h,h'=>by
  obtain⟨h1,h2⟩:=h;obtain⟨c,d⟩:=h';rcases d with rfl|⟨d,_⟩
  .rw[h1] at c;cases c
  .rw[h2 p d] at c;cases c
 |some p,none,h',h=>by
  obtain⟨h1,h2⟩:=h;obtain⟨c,d⟩:=h';rcases d with rfl|⟨d,_⟩
  .rw[h1] at c;cases c
  .rw[h2 p d] at c;cases c
 |some p,À q,h,h'=>by
  obtain⟨h1,h2⟩:=h;obtain⟨c,d⟩:=h';rcases h2 with rfl|⟨h2,j,i⟩
  .rcases d with rfl|⟨d,f,g⟩
   .rfl
   .rw[f] at h1;cases h1
  .rcases d with rfl|⟨d,f,g⟩
   .rw[j] at c;cases c
   .have a:¬q<p:=λz=>by rw[i q d z] at c;cases c
    have b:¬p<q:=λz=>by rw[g p h2 z] at h1;cases h1
    rw[show p=q by lia]
def jz(l:List Int):Option Int:=ö (DU l)
def oO{r:Option Int}(h:DU l r):r=jz l:=oF DU.uniq h
def nX(hp:aT p=Á)(h2:p≠2)(b:3<=l.length)(h:∀a∈l,¬p∣a):bZ l p=Á:=by
 rw[<-Mc hp h2 (λa ha z=>h a ha (X7 #[p,rfl] z)) .b,yP hp h2];refine .inl ?_
 have e:qi p l=l:=by
  unfold qi;rw[abN];intro a ha;simp only[fX,acd,abk];exact λz=>h a ha (XM z)
 rw[e,yx hp h2 h];exact .inl b
def sJ(l:List Int):DU l (jz l):=by
 have:∃r,DU l r:=by
  by_cases hz:bZ l 0=Á
  .by_cases hp:∃p,aT p=Á/\bZ l p=Â
   .obtain⟨p,hp,e⟩:=hp
    have:∀n:Nat,∀q:Int,aT q=Á->bZ l q=Â->q<=n->∃p,DU l (À p):=by
     intro n
     induction n with
     |zero=>intro q h1 _ h2;have:=au h1;lia
     |succ n f =>
      intro q h1 g i;by_cases a:∃r,aT r=Á/\r<q/\bZ l r=Â
      .obtain⟨r,c,d,h⟩:=a;exact f r c h .b
      .exact#[q,g,.inr #[h1,hz,λr c d=>Xt λz=>a #[r,c,d,↑z]]]
    obtain⟨r,b⟩:=this p.toNat p hp e .b;exact#[À r,b]
   .exact#[none,hz,λq a=>Xt λz=>hp #[q,a,↑z]]
  .exact#[À 0,↑hz,.inl rfl]
 obtain⟨r,b⟩:=this;rw[<-oO b];exact b
def qr(a b:Int):Prop:=∀p,Pl p->aA a b p=Á
def qr.swap{a b:Int}(ha:a≠0)(c:b≠0)(h:qr a b):qr b a:=λp hp=>by
 rw[bC hp ha c];exact h p hp
def Gb{a:Int}(hp:Pl p)(ha:a≠0)(h:r*r-a≠0):aA a (r*r-a) p=Á:=by
 by_cases b:r=0
 .subst b;have:=sI hp ha;rw[Yd];exact this
 .have h1:=Hh (x:=1) (y:=1) (w:=r*r) hp ha h (Xn b b) (by simp only[X0];lia);rw[<-X6,<-X6,mN hp ha b,iZ hp ha h b] at h1;exact h1
def qr.step{a b:Int}(ha:a≠0)(g:b≠0)(i:c≠0)(f:s≠0)(h:qr a b)(e:r*r-a=b*c*(s*s)):qr a c:=λp hp=>by
 have d:b*c≠0:=Xn g i;have h1:=Gb (r:=r) hp ha (by rw[e];exact Xn d (Xn f f));rw[e,<-X6,iZ hp ha d f,dn hp ha g i,h p hp] at h1;cases q:aA a c p with
 |true=>rfl
 |false=>rw[q] at h1;cases h1
def Gy{a b:Int}(hp:Pl p)(ha:a≠0)(h:b≠0)(i:c≠0):tZ a b c p=aA (-a*b) (-a*c) p:=by
 have d:-a*c≠0:=Xn .g i;have f:-a*b≠0:=Xn .g h;have g:-b*c≠0:=Xn .g i
 have h1:aA (-a*c) ((-b*c)*(-a*b)) p=Á:=by
  have e:(-b*c)*(-a*b)=(0-(-a*c))*b*b:=by grind
  rw[e,iZ hp d .g h];exact sI hp d
 rw[dn hp d g f] at h1;unfold tZ;rw[bC hp d f];cases q:aA (-a*c) (-b*c) p<;>cases q':aA (-a*c) (-a*b) p<;>rw[q,q'] at h1<;>first|rfl|cases h1
def C8{a b B:Int}(hp:Pl p)(c:A≠0)(g:B≠0)(h:u≠0)(d:v≠0)(f:a=A*(u*u))(e:b=B*(v*v)):aA a b p=aA A B p:=by
 rw[f,e,<-X6,<-X6,mN hp c h,iZ hp c g d]
def LC{a b:Int}(hp:aT p=Á)(ha:a≠0)(d:¬p*p∣b)(e:p∣b)(h:aA a b p=Á):bh a p≠-1:=by
 by_cases h2:p=2
 .subst h2;intro z;unfold bh at z;split at z<;>lia
 .have p2:=au hp;by_cases c:p∣a
  .rw[cZ c];decide
  .intro z;rw[bf .b h2,bQ p2 c,Xl h2,z,(Ei hp h2 (by simpa [fX] using Yw e) d).1] at h;simp[lx] at h
theorem vY{n:Int}:∀(k:Nat) (m:Int),m.natAbs<=k->0<m->lq m->(∀q,aT q=Á->q∣m->q∣n)->m∣n
 |0,m,j,e,_,_=>by lia
 |k+1,m,j,e,i,h=>by
  by_cases h1:m=1
  .rw[h1];exact Int.one_dvd n
  .obtain⟨q,d,⟨a,rfl⟩⟩:=oM (k:=m) .b;have f:=au d;have l:0<a:=Int.pos_of_mul_pos_right e .b
   have lt:a<q*a:=by
    have:=Yt f (show 0<=a by lia);lia
   obtain⟨t,g⟩:=vY k a .b l (Bi i (acE _ _)) λr o p=>h r o (X7 p (acE _ _));have b:=h q d (ψ _ _);rw[g] at b;rcases euclid d b with z|z
   .exfalso;obtain⟨c,rfl⟩:=z;exact i.2 q f #[c,by rw[X6]]
   .obtain⟨c,rfl⟩:=z;exact#[c,by rw[g];grind]
def D5{a b:Int}(ha:a≠0)(d:lq b)(h:qr a b):∃x,F1 a b.natAbs=À x/\0<=x/\x<b.natAbs/\b∣x*x-a:=by
 have p:=d.1;rcases Ma (k:=a) (m:=b.natAbs) .b with⟨_,q,c,i,z⟩|⟨x,e,l,j,o⟩
 .have g:=Zj.mp i;exact absurd z (LC c ha (λw=>d.2 q (au c) w) g (h q (.inr c)))
 .refine#[x,e,l,j,?_]
  have f:lq (b.natAbs:Int):=by
   rcases ac_ b with z|z
   .rw[<-z];exact d
   .have:(b.natAbs:Int)=-b:=by lia
    rw[this];exact rM d
  exact ac6.mp (vY (n:=x*x-a) _ (b.natAbs:Int) (Xu _) .b f λq c i=>(o q c i).1)
def vq{a:Int}(ha:lq a)(h1:a≠1)(e:x*x=a*(y*y)):y=0:=by
 apply Xt;intro b
 have c:x≠0:=λz=>by
  rw[z,Yd] at e;exact Xn ha.1 (Xn b b) e.symm
 have e2:a*((y.natAbs:Int)*(y.natAbs:Int))=1*((x.natAbs:Int)*(x.natAbs:Int)):=by
  rw[Yp,<-YT,<-YT,ž,ž];exact e.symm
 exact h1 (yi ha mI .b .b e2).1
noncomputable def lg(a:Int):Nat:=Ĺ a.natAbs
noncomputable def tD(a b:Int):Nat:=2*(lg a+lg b)+if b.natAbs<a.natAbs then 1 else 0
def CA{b:Int}(f:2<=b.natAbs)(g:c≠0)(h:4*c.natAbs<=b.natAbs+4):lg c+1<=lg b:=by
 unfold lg;have a:b.natAbs≠0:=by lia
 have d:c.natAbs≠0:=by lia
 have h1:b.natAbs<2^(Ĺ b.natAbs+1):=(abS a).mp (ZJ _);have h2:1<=Ĺ b.natAbs:=(Nat.le_log2 a).mpr .b;obtain⟨m,e⟩:∃m,Ĺ b.natAbs=m+1:=#[Ĺ b.natAbs-1,.b];rw[e] at h1 ⊢;have e1:2^(m+1+1)=4*2^m:=by rw[ϴ,ϴ];lia
 have e2:2^(m+1)=2*2^m:=by rw[ϴ];lia
 have:c.natAbs<2^(m+1):=by
  have:=aaH m;lia
 have:=(abS d).mpr this;lia
def uP{a:Int}(b:a≠0)(h:a.natAbs<1073741824):lg a<=29:=by
 have:Ĺ a.natAbs<30:=(abS .b).mpr .b;unfold lg;lia
def Ha{a b:Int}(h:b.natAbs<a.natAbs):tD b a+1<=tD a b:=by
 unfold tD;rw[Xo h,Xl .b];lia
def El{a b:Int}(h:a.natAbs<=b.natAbs)(d:lg c+1<=lg b):tD a c+1<=tD a b:=by
 unfold tD;rw[Xl (show ¬b.natAbs<a.natAbs by lia)];split<;>lia
def Mn{a b:Int}(ha:a≠0)(c:b≠0)(h1:a.natAbs<1073741824)(h2:b.natAbs<1073741824):tD a b<=117:=by
 have:=uP ha h1;have:=uP c h2;unfold tD;split<;>lia
def JO{a b:Int}(h:a.natAbs<=b.natAbs)(c:2*r.natAbs<=b.natAbs)(f:b≠0)(e:r*r-a=b*k):4*k.natAbs<=b.natAbs+4:=by
 have h1:b.natAbs*k.natAbs<=r.natAbs*r.natAbs+a.natAbs:=by
  rw[<-XZ,<-XZ,<-e];omega
 have h2:(2*r.natAbs)*(2*r.natAbs)<=b.natAbs*b.natAbs:=aaT c c
 have e2:(2*r.natAbs)*(2*r.natAbs)=4*(r.natAbs*r.natAbs):=by
  rw[Nat.mul_mul_mul_comm]
 have d:b.natAbs*(4*k.natAbs)<=b.natAbs*(b.natAbs+4):=by
  rw[Nat.mul_left_comm,Nat.mul_add];omega
 exact acn d .e
def Jk{a b:Int}(n:s≠0)(m:2*r.natAbs<=b.natAbs)(i:b≠0)(g:a.natAbs<=1073741824)(j:b.natAbs<=1073741824)(e:r*r-a=b*c*(s*s)):(c*s).natAbs<2147483648:=by
 have h2:(c*s).natAbs<=(c*(s*s)).natAbs:=by
  rw[<-X6,XZ (c*s)];exact abl _ .b
 have k:b.natAbs*(c*(s*s)).natAbs<=r.natAbs*r.natAbs+a.natAbs:=by
  rw[<-XZ,<-XZ,<-X6,<-e];lia
 have d:1<=b.natAbs:=by lia
 have h:r.natAbs*r.natAbs<=b.natAbs*536870912:=aaT .b .b;have o:a.natAbs<=b.natAbs*1073741824:=Ye g (aaK _ d);have f:b.natAbs*(c*(s*s)).natAbs<=b.natAbs*1610612736:=by lia
 have l:=acn f .b;lia
def Ko{a b t g d f t':Int}(h:g≠0)(o:x*x=a*(y*y)+c*(t*t))(e:r*r-a=b*c*(s*s))(ex:x*r+a*y=g*d)(j:x+r*y=g*f)(l:c*s*t=g*t'):d*d=a*(f*f)+b*(t'*t'):=by
 have n:(x*r+a*y)*(x*r+a*y)=a*((x+r*y)*(x+r*y))+b*((c*s*t)*(c*s*t)):=by
  have k:(x*r+a*y)*(x*r+a*y)-a*((x+r*y)*(x+r*y))=(x*x-a*(y*y))*(r*r-a):=by grind
  have m:x*x-a*(y*y)=c*(t*t):=by lia
  rw[m,e] at k;have p:c*(t*t)*(b*c*(s*s))=b*((c*s*t)*(c*s*t)):=by grind
  lia
 rw[ex,j,l] at n;have i:(g*g)*(d*d)=(g*g)*(a*(f*f)+b*(t'*t')):=by grind
 exact aci (Xn h h) i
def ND{a b B t g d e t':Int}(f:g≠0)(e1:-a*b=A*(u*u))(e2:-a*c=B*(v*v))(k:x*x=A*(y*y)+B*(t*t))(ex:x*u*v=g*d)(j:y*a*v=g*e)(i:t*a*u=g*t'):a*(d*d)+b*(e*e)+c*(t'*t')=0:=by
 have l:a*((x*u*v)*(x*u*v))+b*((y*a*v)*(y*a*v))+c*((t*a*u)*(t*a*u))=0:=by
  have e3:a*((x*u*v)*(x*u*v))+b*((y*a*v)*(y*a*v))+c*((t*a*u)*(t*a*u))=a*((x*x)*(u*u)*(v*v)-(-a*b)*(y*y)*(v*v)-(-a*c)*(t*t)*(u*u)):=by grind
  rw[e3,e1,e2,k];grind
 rw[ex,j,i] at l;have h:(g*g)*(a*(d*d)+b*(e*e)+c*(t'*t'))=0:=by grind
 rcases YJ.mp h with z|z
 .exact absurd z (Xn f f)
 .exact z
def Cp(b:A≠0)(c:0<u)(e:k=A*(u*u)):u.natAbs<=k.natAbs:=by
 have a:k=u*(u*A):=by rw[e];grind
 conv=>rhs;rw[a,XZ]
 refine abl _ ?_;have:u*A≠0:=Xn .b b;lia
noncomputable def lsN(p:Int):Nat->Int->Int
 |0,n=>n
 |k+1,n=>if n%(p*p)=0 then lsN p k (n/(p*p)) else n
def xH(n p:Int):Int:=lsN p n.natAbs n
def E2(hp:2<=p)(b:n≠0)(h:n%(p*p)=0):n/(p*p)≠0/\(n/(p*p)).natAbs<n.natAbs/\n=n/(p*p)*(p*p):=by
 have pp:4<=p*p:=Yj hp hp .a .b;have e:=Int.ediv_mul_cancel (XM h);have a:n/(p*p)≠0:=λz=>b (by rw[<-e,z,abb]);refine#[a,?_,e.symm]
 conv=>rhs;rw[<-e,XZ]
 have:1*(n/(p*p)).natAbs<(p*p).natAbs*(n/(p*p)).natAbs:=Nat.mul_lt_mul_of_pos_right .b .b;rw[Nat.mul_comm];lia
def yX(h:¬n%(p*p)=0):∀k,lsN p k n=n
 |0=>rfl
 |k+1=>by unfold lsN;exact Xl h
def Gj{k:Nat}(h:n%(p*p)=0):lsN p (k+1) n=lsN p k (n/(p*p)):=by
 rw[lsN.eq_2];exact Xo h
theorem GF{p:Int}(hp:2<=p):∀(k:Nat) (n:Int),n≠0->n.natAbs<=k->∃s,s≠0/\n=lsN p k n*s*s/\¬p*p∣lsN p k n/\(lsN p k n).natAbs<=n.natAbs
 |0,n,h,c=>by lia
 |k+1,n,h,c=>by
  by_cases a:n%(p*p)=0
  .obtain⟨b,q1,e⟩:=E2 hp h a;obtain⟨s,d,e2,h2,f⟩:=GF hp k (n/(p*p)) b .b;rw[Gj a];refine#[p*s,Xn .b d,?_,h2,.b]
   conv=>lhs;rw[e,e2]
   grind
  .rw[yX a];exact#[1,.a,.b,λz=>a (Yw z),Xu _]
def vV(hp:2<=p)(a:n≠0):∃s,s≠0/\n=xH n p*s*s/\¬p*p∣xH n p/\(xH n p).natAbs<=n.natAbs:=GF hp _ n a (Xu _)
def FN(hp:2<=p)(a:n≠0):xH n p≠0:=λz=>by
 obtain⟨s,_,e,_⟩:=vV hp a;rw[z,abb,abb] at e;exact a e
def JF(hp:aT p=Á)(c:∀a∈l,a≠0):bZ (l.map λa=>xH a p) p=bZ l p:=by
 have p2:=au hp;refine oU hp (λa ha=>?_) c ?_
 .obtain⟨b,f,rfl⟩:=XF.mp ha;exact FN p2 (c b f)
 .rw[aaS];refine abP λa ha=>?_;obtain⟨s,d,e,_,_⟩:=vV p2 (c a ha);show cls (xH a p) p=cls a p
  conv=>rhs;rw[e]
  exact(oI hp (FN p2 (c a ha)) d).symm
def J_(hp:2<=p)(d:∀a∈l,a≠0):On p (l.map λa=>xH a p):=λa ha=>by
 obtain⟨b,c,rfl⟩:=XF.mp ha;obtain⟨s,_,_,h,_⟩:=vV hp (d b c);exact h
noncomputable def Ov(p:Int)(g:List Int):Bool:=match g with
 |[a,b]=>decide (bh (-a*b) p=1)
 |_::_::_::_=>Á
 |_=>Â
def Lo(hp:aT p=Á):∀g:List Int,Ql (bh (-1) p) (g.map λa=>(v,bh a p))=Ov p g
 |[]=>rfl
 |[_]=>rfl
 |[a,b]=>by
  show decide (bh (-1) p*bh a p*bh b p=1)=decide (bh (-a*b) p=1);rw[<-cX hp,<-cX hp,show -1*a*b=-a*b by grind]
 |_::_::_::_=>rfl
def NM(hp:aT p=Á)(h2:p≠2)(h:On p l)(h1:1<=l.length):bZ l p=(Ov p (qi p l) || Ov p (rL p l)):=by
 have p2:=au hp
 rw[rq hp h2 h.nz,Ec (B2 hp) (λc b=>by
  obtain⟨a,ha,rfl⟩:=XF.mp b
  exact cI p2 h2 (h.nz a ha)) (by rw[Xv];exact h1)]
 unfold Lc;rw[zM hp h2 h,AD hp h2 h,Lo hp,Lo hp]
def JK(a:0<=x)(b:x<=8):∃y:Int,0<=y/\y<4/\(16:Int)∣y*y-x*x/\y%2=x%2:=by
 have:x=0\/x=1\/x=2\/x=3\/x=4\/x=5\/x=6\/x=7\/x=8:=by lia
 rcases this with rfl|rfl|rfl|rfl|rfl|rfl|rfl|rfl|rfl
 .exact#[0,.a,.a,.a,.a]
 .exact#[1,.a,.a,.a,.a]
 .exact#[2,.a,.a,.a,.a]
 .exact#[3,.a,.a,.a,.a]
 .exact#[0,.a,.a,.a,.a]
 .exact#[3,.a,.a,.a,.a]
 .exact#[2,.a,.a,.a,.a]
 .exact#[1,.a,.a,.a,.a]
 .exact#[0,.a,.a,.a,.a]
def E_{a:Int}(k:Int×Bool):NQ 16 2 (l++[a]) k↔∃k',NQ 16 2 l k'/\∃x:Int,0<=x/\x<4/\k=((k'.1+a*x*x)%16,k'.2 || !decide (x%2=0)):=by
 rw[Fy .a];constructor
 .rintro⟨k',h,x,b,j,rfl⟩;obtain⟨y,d,f,e,he⟩:=JK b .b;refine#[k',h,y,d,f,?_];rw[he];congr 1;obtain⟨c,i⟩:=e;rw[show k'.1+a*y*y=(k'.1+a*x*x)+16*(a*c) by grind,ab2]
 .rintro⟨k',h,x,b,g,rfl⟩;exact#[k',h,x,b,.b,rfl]
theorem zg:∀{us:List (Int×Int)} {a b:Int},2<=a->gj a us b->(3:Int)^us.length<=pp us
 |[],a,b,_,_=>by show(1:Int)<=1;decide
 |u::us,a,b,ha,h=>by
  obtain⟨h1,h2,f,c⟩:=h;have e:=zg .b c;obtain⟨n,d⟩:∃n,u.2.toNat=n+1:=#[u.2.toNat-1,.b]
  have hp:(3:Int)<=u.1^u.2.toNat:=by
   rw[d,XS];have:(1:Int)<=u.1^n:=by have:=Yx (n:=u.1) (m:=n) .b;lia
   have:=Yj this (show(3:Int)<=u.1 by lia) .a .b;lia
  show(3:Int)^(us.length+1)<=u.1^u.2.toNat*pp us;rw[XS,Yb];exact Yj hp e (by have:=Yx (n:=3) (m:=us.length) .a;lia) .b
def uW(h1:1<=k)(h2:k<1073741824):(pA k).length<=19:=by
 obtain⟨⟨b,a⟩,e⟩:=pb h1;cases c:pA k with
 |nil=>simp
 |cons u us =>
  rw[c] at a e;obtain⟨p,q,s,i⟩:=a;have f:=zg .b i;have h:u.1^u.2.toNat*pp us=k:=e;have g:(1:Int)<=u.1^u.2.toNat:=by have:=Yx (n:=u.1) (m:=u.2.toNat) .b;lia
  have p2:pp us<=k:=by
   rw[<-h];have o:0<=pp us:=by have:=Yx (n:=3) (m:=us.length) .a;lia
   have:=Yt g o;lia
  apply Xt;intro d;have r:19<=us.length:=by simp at d;lia
  obtain⟨m,j⟩:∃m,us.length=19+m:=#[us.length-19,.b];rw[j,YS] at f;have:(1:Int)<=3^m:=by have:=Yx (n:=3) (m:=m) .a;lia
  have:=XB this (show(0:Int)<=3^19 by decide);have l:(3:Int)^19=1162261467:=by decide
  lia
noncomputable def bH:Nat->List Int
 |0=>[1,-1]
 |i+1=>bH i++(bH i).map λk=>k*Q6.getD i 1
def Ie:∀i,i<=6->(bH i).length<=128:=by decide +kernel
def sM:(bH 6).length=128/\∀k∈bH 6,k≠0/\-30030<=k/\k<=30030/\30030%k=0:=by decide +kernel
def MO:∀s∈[(1:Int),-1],∀a∈bits,IG s a∈bH 6:=by decide +kernel
def NT:∀i,i<=6->∀k∈bH i,-30030<=k/\k<=30030:=by decide +kernel
noncomputable def P7:List Int:=[0,2,3,5,7,11,13]
def bK(k p:Int):Int⊕(Int×Int):=if p=0 then .inl (if 0<k then 1 else -1) else .inr (cls k p)
noncomputable def lr(a b:Int⊕(Int×Int))(p:Int):Int⊕(Int×Int):=match a,b with
 |.inl x,.inl y=>.inl (x*y)
 |.inr u,.inr v=>.inr (bj u v p)
 |_,_=>.inl 0
def ip:∀p∈Q6,aT p=Á:=λp hp=>by
 obtain⟨j,b,e⟩:=aaq.mp hp;have a:j<6:=b;have:=jf j a;rw[Xq,Xz b,e] at this;exact this
def tH(h:p∈P7):p=0\/(p≠0/\aT p=Á/\p∈Q6):=by
 have:p=0\/p∈Q6:=Xm.mp h;rcases this with z|z
 .exact .inl z
 .have q:=ip p z;have:=au q;exact .inr #[.b,q,z]
def rN{a b:Int}(hp:p∈P7)(ha:a≠0)(d:b≠0):lr (bK a p) (bK b p) p=bK (a*b) p:=by
 rcases tH hp with rfl|⟨c,pp,_⟩
 .unfold bK lr;rw[Xo rfl,Xo rfl,Xo rfl];show Č _=Č _;congr 1;rcases YF ha with x|x<;>rcases YF d with y|y
  .rw[Xl .b,Xl .b,Xo (ZM x y)];rfl
  .rw[Xl .b,Xo y,Xl (by have:=Zn x y;lia)];rfl
  .rw[Xo x,Xl .b,Xl (by have:=aa6 x y;lia)];rfl
  .rw[Xo x,Xo y,Xo (Yq x y)];rfl
 .unfold bK lr;rw[Xl c,Xl c,Xl c];show è _=è _;rw[aN pp ha d]
def Nl{a:Int}(hp:p∈P7)(ha:a≠0)(c:r≠0):bK (a*r*r) p=bK a p:=by
 rcases tH hp with rfl|⟨b,pp,_⟩
 .unfold bK;rw[Xo rfl,Xo rfl];congr 1
  have q:0<r*r:=by
   rcases YF c with z|z
   .exact ZM z z
   .exact Yq z z
  rw[X6];by_cases z:0<a
  .rw[Xo z,Xo (Yq z q)]
  .rw[Xl z,Xl (by have:=Zn (show a<0 by lia) q;lia)]
 .unfold bK;rw[Xl b,Xl b,oI pp ha c]
def jF(hp:aT p=Á)(b:n≠0):((cls n p).1=0\/(cls n p).1=1)/\(p=2->(cls n p).2∈[(1:Int),3,5,7])/\(p≠2->(cls n p).2=1\/(cls n p).2=-1):=by
 have t:=e_ (au hp) b;have a:¬p∣(aX n p).2:=t.2.2;refine#[?_,λh2=>?_,λh2=>?_]
 .show(aX n p).1%2=0\/(aX n p).1%2=1;lia
 .show(if p=2 then (aX n p).2%8 else bh (aX n p).2 p)∈_;rw[Xo h2];rw[h2] at a;have:(aX n 2).2%8=1\/(aX n 2).2%8=3\/(aX n 2).2%8=5\/(aX n 2).2%8=7:=by lia
  rw[h2];simp only[Xm,Xr,XT];exact this
 .show(if p=2 then (aX n p).2%8 else bh (aX n p).2 p)=1\/(if p=2 then (aX n p).2%8 else bh (aX n p).2 p)=-1;rw[Xl h2];exact bx a
def xT{ns:List Int}(B:ns.length=7)(D:∀n∈ns,n≠0):∃k q,k∈bH 6/\aT q=Á/\17<=q/\q<=8089/\∀j,j<7->bK (k*q) (P7.getD j 0)=bK (ns.getD j 1) (P7.getD j 0):=by
 obtain⟨u,o,l,r,i,s,t,rfl⟩:∃a b c d e f g,ns=[a,b,c,d,e,f,g]:=by
  match ns,B with
  |[a,b,c,d,e,f,g],_=>exact#[a,b,c,d,e,f,g,rfl]
 have m:∀n,n∈[u,o,l,r,i,s,t]->n≠0:=D
 have h:GW (if 0<u then 1 else -1) [cls o 2,cls l 3,cls r 5,cls i 7,cls s 11,cls t 13]:=by
  have c1:=jF (n:=o) (p:=2) (ip 2 .a) (m _ .c);have c2:=jF (n:=l) (p:=3) (ip 3 .a) (m _ .c);have c3:=jF (n:=r) (p:=5) (ip 5 .a) (m _ .c);have c4:=jF (n:=i) (p:=7) (ip 7 .a) (m _ .c);have v:=jF (n:=s) (p:=11) (ip 11 .a) (m _ .c);have x:=jF (n:=t) (p:=13) (ip 13 .a) (m _ .c);refine#[by split<;>simp,rfl,λj w=>?_,c1.2.1 rfl,λj h1 w=>?_]
  .have:j=0\/j=1\/j=2\/j=3\/j=4\/j=5:=by lia
   rcases this with rfl|rfl|rfl|rfl|rfl|rfl
   .exact c1.1
   .exact c2.1
   .exact c3.1
   .exact c4.1
   .exact v.1
   .exact x.1
  .have:j=1\/j=2\/j=3\/j=4\/j=5:=by lia
   rcases this with rfl|rfl|rfl|rfl|rfl
   .exact c2.2.2 .a
   .exact c3.2.2 .a
   .exact c4.2.2 .a
   .exact v.2.2 .a
   .exact x.2.2 .a
 obtain⟨q,q1,A,y,C⟩:=RQ h;have ha:=(BY (k:=cT _ _*q) h.len).mp C;refine#[cT (if 0<u then 1 else -1) [cls o 2,cls l 3,cls r 5,cls i 7,cls s 11,cls t 13],q,?_,q1,A,y,λj w=>?_]
 .rw[D3 h.len];exact MO _ (by rcases h.sg with z|z<;>rw[z]<;>simp) _ h.bits
 .have:j=0\/j=1\/j=2\/j=3\/j=4\/j=5\/j=6:=by lia
  rcases this with rfl|rfl|rfl|rfl|rfl|rfl|rfl
  .exact congrArg Č ha.1
  .exact congrArg è (ha.2 0 .a)
  .exact congrArg è (ha.2 1 .a)
  .exact congrArg è (ha.2 2 .a)
  .exact congrArg è (ha.2 3 .a)
  .exact congrArg è (ha.2 4 .a)
  .exact congrArg è (ha.2 5 .a)
noncomputable def jn(a b:Int):Int:=a.fdiv ((Ë a b:Nat):Int)*b.fdiv ((Ë a b:Nat):Int)
def Ks{a b:Int}(ha:a≠0):∃g u v,0<g/\a=g*u/\b=g*v/\jn a b=u*v/\Ë u v=1:=by
 obtain⟨u,c⟩:=Zu a b;obtain⟨v,d⟩:=Y6 a b;have e:((Ë a b:Nat):Int)≠0:=λz=>ha (by rw[c,z,abb])
 have h:a.fdiv ((Ë a b:Nat):Int)=u:=by
  have:=Y7 u e;rw[<-c] at this;exact this
 have ev:b.fdiv ((Ë a b:Nat):Int)=v:=by
  have:=Y7 v e;rw[<-d] at this;exact this
 have u0:u≠0:=λz=>ha (by rw[c,z,Yd]);refine#[((Ë a b:Nat):Int),u,v,.b,c,d,by unfold jn;rw[h,ev],Fq (λq f ⟨s,j⟩ ⟨t,k⟩=>?_) u0];have h1:((Ë a b:Nat):Int)*q∣a:=#[s,by rw[X6,<-j];exact c];have h2:((Ë a b:Nat):Int)*q∣b:=#[t,by rw[X6,<-k];exact d];have i:=acO h1 h2;have l:=XH .b i;have:=au f;have:=XB (show(2:Int)<=q by lia) (show(0:Int)<=((Ë a b:Nat):Int) by lia);lia
def ON{a b:Int}(ha:a≠0):∃g u,0<g/\a=g*u/\a*b=jn a b*(g*g):=by
 obtain⟨g,u,v,c,e1,e2,e3,_⟩:=Ks (b:=b) ha;refine#[g,u,c,e1,?_];rw[e3,e1,e2];grind
def MJ{a b:Int}(ha:a≠0)(h1:a∣m)(h2:b∣m):jn a b∣m:=by
 obtain⟨g,u,v,f,e1,e2,e3,e4⟩:=Ks (b:=b) ha;rw[e3];have e:u∣m:=X7 #[g,by rw[e1,Yb]] h1;have d:v∣m:=X7 #[g,by rw[e2,Yb]] h2;have c:Nat.Coprime u.natAbs v.natAbs:=e4;have:=Nat.Coprime.mul_dvd_of_dvd_of_dvd c (YX.mpr e) (YX.mpr d);rw[<-XZ] at this;exact YX.mp this
def Ro:∀d∈Ô 174,2<=d->30030%(d*d)≠0:=by decide +kernel
def LR:lq 30030:=#[.a,λd e z=>by
 have h1:=XH .a z
 have b:d<174:=by
  apply Xt;intro c;have:=Yj (show(174:Int)<=d by lia) (show(174:Int)<=d by lia) .a .b;lia
 obtain⟨n,rfl⟩:=Int.eq_ofNat_of_zero_le (show 0<=d by lia);have:=Ro n (Yu.mpr .b) .b
 have a:n*n∣30030:=by
  have:=YX.mpr z;rw[XZ] at this;exact this
 exact this (aaL a)]
def jA(h:k∈bH 6):k∣30030:=XM (sM.2 k h).2.2.2
def GO(a:aT q=Á)(h:q∣30030):q∈Q6:=by
 have e:(30030:Int)=2*(3*(5*(7*(11*13)))):=by decide
 rw[e] at h;have m:∀{p:Int},p∈Q6->q∣p->q∈Q6:=λ{p} hp b=>by rw[bE a (ip p hp) b];exact hp
 rcases euclid a h with z|h
 .exact m .a z
 rcases euclid a h with z|h
 .exact m .a z
 rcases euclid a h with z|h
 .exact m .a z
 rcases euclid a h with z|h
 .exact m .a z
 rcases euclid a h with z|h
 .exact m .a z
 .exact m .a h
def r_(h:k∈bH 6)(a:aT q=Á)(b:q∣k):q∈Q6:=GO a (X7 b (jA h))
def rE:∀k∈bH 6,-k∈bH 6/\(k.natAbs:Int)∈bH 6/\jn k 1=k/\jn k (-1)=-k:=by decide +kernel
def Cb:oo Q6:=#[.a,ip,.a]
def nu(h:k∈bH 6):lu Q6 k:=#[(sM.2 k h).1,λ_ a b=>r_ h a b]
def uk(k p:Int):Bool:=if p=0 then decide (0<k) else decide (cls k p=(0,1))
def jj(p:Int):List Int:=if p=0 then [1,-1] else if p=2 then [1,3,5,7,2,6,10,14] else [1,jY p,p,p*jY p]
def Fx(p:Int):(jj p).length<=8:=by unfold jj;split;decide;split<;>simp
def EL{a:Int}(h:bK a p=bK k p):aA a c p=aA k c p:=by
 unfold bK at h;by_cases b:p=0
 .subst b;rw[Xo rfl,Xo rfl] at h;have e:=acT h;rw[aO,aO];congr 1;by_cases x:0<a<;>by_cases y:0<k<;>simp[x,y] at e ⊢
 .rw[Xl b,Xl b] at h;have e:=abq h;unfold aA;rw[Xl b,Xl b,e]
def bg(h:k∈bH 6):k≠0:=(sM.2 k h).1
def eV(h:k∈bH 6):k.natAbs<=30030:=by have:=sM.2 k h;lia
def R_:∀a∈Ô 174,∀b∈Ô 174,30030%(174*a+b)=0->((174*a+b:Nat):Int)∈bH 6:=by decide +kernel
def CD(h:n∣30030):n∈bH 6:=by
 have h1:n.natAbs∣30030:=YX.mpr h;have h2:=ab0 .a h1
 have key:(n.natAbs:Int)∈bH 6:=by
  have e:n.natAbs=174*(n.natAbs/174)+n.natAbs%174:=by lia
  have:=R_ (n.natAbs/174) (Yu.mpr .b) (n.natAbs%174) (Yu.mpr .b);rw[<-e] at this;exact this (aaL h1)
 rcases ac_ n with e|e
 .rw[e];exact key
 .rw[e];exact(rE _ key).1
def MN{a b:Int}(ha:a∈bH 6)(c:b∈bH 6):jn a b∈bH 6:=CD (MJ (bg ha) (jA ha) (jA c))
def kG(hp:Pl p)(b:x≠0)(h:uk n p=Á):aA x n p=Á:=by
 unfold uk at h;by_cases a:p=0
 .subst a;rw[Xo rfl] at h;rw[aO,h,acD]
 .rw[Xl a] at h;exact yC (hp.resolve_left a) b (XD h)
def NK:∀cn∈C2,∀a∈C2,∀c1 c2:Bool,(c1=Â->cn≠(0,1))->(c2=Â->a≠(0,1))->(cn=a->c1=c2)->∃s∈[((0:Int),(1:Int)),(0,3),(0,5),(0,7),(1,1),(1,3),(1,5),(1,7)],fG s cn=c1/\fG s a=c2:=.a
def Ni:∀cn∈CO,∀a∈CO,∀m∈[(1:Int),-1],∀c1 c2:Bool,(c1=Â->cn≠(0,1))->(c2=Â->a≠(0,1))->(cn=a->c1=c2)->∃s∈[((0:Int),(1:Int)),(0,-1),(1,1),(1,-1)],lx s cn m=c1/\lx s a m=c2:=.a
def Qa(pp:aT p=Á):cls 1 p=(0,1):=by
 have p2:=au pp;have a:¬p∣1:=λz=>by have:=XH .a z;lia
 rw[bQ p2 a];by_cases e2:p=2
 .rw[Xo e2];rfl
 .rw[Xl e2,gT pp e2 #[0,.b]]
def xA{a b:Int}(h:Pl p)(ha:a≠0)(d:b≠0)(c:k≠0):aA (a*k) (b*k) p=(aA k (-1*(a*b)) p==aA a b p):=by
 have e:=Xn ha d;rw[uZ h ha c (Xn d c),dn h ha d c,dn h c d c,pS h c,dn h c .a e,dn h c ha d,bC h c ha];cases aA a b p<;>cases aA k a p<;>cases aA k b p<;>cases aA k (-1) p<;>rfl
def vA{a b:Int}(h:Pl p)(ha:a≠0)(c:b≠0):aA a (-1*(a*b)) p=aA a b p:=by
 rw[dn h ha .a (Xn ha c),dn h ha ha c,pS h ha];cases aA a b p<;>cases aA a (-1) p<;>rfl
def BB{a:Int}(ha:a≠0)(b:k≠0):0<a*k↔(0<a/\0<k)\/(a<0/\k<0):=by
 rcases YF ha with h|h<;>rcases YF b with h'|h'
 .exact#[λ_=>.inr #[h,h'],λ_=>ZM h h']
 .have:=Zn h h';exact#[λz=>by lia,λz=>by lia]
 .have:=aa6 h h';exact#[λz=>by lia,λz=>by lia]
 .exact#[λ_=>.inl #[h,h'],λ_=>Yq h h']
def Ed{a b:Int}(ha:a≠0)(h:b≠0)(f:c≠0):bZ [a,b,c] p=aA (-a*c) (-b*c) p:=by
 by_cases e:p=0
 .subst e;rw[Yy,bU,aO,Zz,ZU,ZU,BB .b f,BB .b f];constructor
  .rintro⟨⟨x,d,j⟩,⟨y,g,i⟩⟩;simp only[Xm,Xr,XT] at d g;rcases d with rfl|rfl|rfl<;>rcases g with rfl|rfl|rfl<;>lia
  .intro z;have n:a<0\/b<0\/c<0:=by lia
   have q:0<a\/0<b\/0<c:=by lia
   constructor
   .rcases n with n|n|n
    .exact#[a,.c,n]
    .exact#[b,.c,n]
    .exact#[c,.c,n]
   .rcases q with n|n|n
    .exact#[a,.c,n]
    .exact#[b,.c,n]
    .exact#[c,.c,n]
 .rw[da e];rfl
def iz(b:lu L x)(c:lu L y):lu L (x*y):=#[Xn b.1 c.1,λq a d=>(euclid a d).elim (b.2 q a) (c.2 q a)]
def nQ{α:List Int}(h:∀p∈L,p∈α)(a:lu L x):lu α x:=#[a.1,λq c b=>h q (a.2 q c b)]
def gL(a:lu L x):lu L (-x):=#[by have:=a.1;lia,λq b c=>a.2 q b (YL.mp c)]
def dF{a b:Int}(hp:Pl p)(ha:a≠0)(d:b≠0):lr (bK a p) (bK b p) p=bK (a*b) p:=by
 rcases hp with rfl|pp
 .exact rN .a ha d
 .have c:p≠0:=by have:=au pp;lia
  unfold bK lr;rw[Xl c,Xl c,Xl c];show è _=è _;rw[aN pp ha d]
def wA{a:Int}(hp:Pl p)(ha:a≠0)(b:r≠0):bK (a*r*r) p=bK a p:=by
 rcases hp with rfl|pp
 .exact Nl .a ha b
 .have c:p≠0:=by have:=au pp;lia
  unfold bK;rw[Xl c,Xl c,oI pp ha b]
def uB{f:Int}(hp:Pl p)(a:f≠0)(c:k≠0)(b:n≠0):bK k p=lr (bK f p) (bK n p) p↔bK (k*f) p=bK n p:=by
 rw[dF hp a b];constructor
 .intro h;rw[<-dF hp c a,h,dF hp (Xn a b) a,show f*n*f=n*f*f by grind,wA hp b a]
 .intro h;rw[<-dF hp a b,<-h,dF hp a (Xn c a),show f*(k*f)=k*f*f by grind,wA hp c a]
def l_(hp:Pl p):∀k∈jj p,k≠0:=λk a=>by
 unfold jj at a;split at a
 .simp only[Xm,Xr,XT] at a;lia
 .rename_i b;split at a
  .simp only[Xm,Xr,XT] at a;lia
  .rename_i h2;have pp:=hp.resolve_left b;have n:=(mj (lZ pp h2)).1;simp only[Xm,Xr,XT] at a;rcases a with rfl|rfl|rfl|rfl
   .decide
   .lia
   .exact b
   .exact Xn b .b
def Cq(hp:Pl p)(B:n≠0)(C:m≠0)(c1 c2:Bool)(h1:c1=Â->uk n p=Â)(h2:c2=Â->uk m p=Â)(o:bK n p=bK m p->c1=c2):∃k∈jj p,aA k n p=c1/\aA k m p=c2:=by
 by_cases c:p=0
 .subst c;have f:∀x:Int,bK x 0=.inl (if 0<x then 1 else -1):=λx=>by unfold bK;rw[Xo rfl]
  have d:∀x:Int,uk x 0=Â->¬0<x:=λx h=>by
   unfold uk at h;rw[Xo rfl] at h;exact X9 h
  have sn:∀x:Int,aA (-1) x 0=decide (0<x):=λx=>by rw[aO];rfl
  have eq:¬0<n->¬0<m->c1=c2:=λa b=>o (by rw[f,f,Xl a,Xl b]);by_cases q:c1=Á/\c2=Á
  .refine#[1,by unfold jj;simp,?_];rw[aO,aO,q.1,q.2];exact#[rfl,rfl]
  .refine#[-1,by unfold jj;simp,?_];rw[sn,sn];cases c1 with
   |false =>
    have a:=d n (h1 rfl);cases c2 with
    |false=>exact#[X1 a,X1 (d m (h2 rfl))]
    |true=>exact#[X1 a,XY (Xt λz=>by have:=eq a z;cases this)]
   |true =>
    cases c2 with
    |true=>exact absurd #[rfl,rfl] q
    |false =>
     have a:=d m (h2 rfl);exact#[XY (Xt λz=>by have:=eq z a;cases this),X1 a]
 have pp:=hp.resolve_left c;have p2:=au pp
 have d:∀x:Int,uk x p=Â->cls x p≠(0,1):=λx h=>by
  unfold uk at h;rw[Xl c] at h;exact X9 h
 have f:cls n p=cls m p->bK n p=bK m p:=λe=>by unfold bK;rw[Xl c,Xl c,e]
 by_cases e2:p=2
 .subst e2;obtain⟨s,i,t,w⟩:=NK _ (cW B) _ (cW C) c1 c2 (λh=>d _ (h1 h)) (λh=>d _ (h2 h)) (λe=>o (f e));have key:∀k:Int,k∈jj 2->cls k 2=s->∃k∈jj 2,aA k n 2=c1/\aA k m 2=c2:=λk r ek=>#[k,r,by rw[aW,ek];exact t,by rw[aW,ek];exact w];have sm:jj 2=[1,3,5,7,2,6,10,14]:=by unfold jj;rw[Xl .a,Xo rfl]
  rw[sm] at key ⊢;have od:∀x:Int,¬(2:Int)∣x->cls x 2=(0,x%8):=λx h=>by rw[bQ .a h];rfl
  have ev:∀x:Int,x≠0->¬(2:Int)∣x->cls (2*x) 2=(1,x%8):=λx D h=>by
   have:=dF (p:=2) (a:=2) (b:=x) (.inr aR) .a D;unfold bK at this;rw[Xl .a,Xl .a,Xl .a,GL,od x h] at this;have e:=abq this.symm;rw[e];show((1+0)%2,_)=_;rw[show((1:Int)+0)%2=1 by decide];have:(1*(x%8))%8=x%8:=by lia
   exact congrArg (Prod.mk (1:Int)) this
  simp only[Xm,Xr,XT] at i;rcases i with rfl|rfl|rfl|rfl|rfl|rfl|rfl|rfl
  .exact key 1 .c (od 1 .a)
  .exact key 3 .c (od 3 .a)
  .exact key 5 .c (od 5 .a)
  .exact key 7 .c (od 7 .a)
  .exact key 2 .c (ev 1 .a .a)
  .exact key 6 .c (ev 3 .a .a)
  .exact key 10 .c (ev 5 .a .a)
  .exact key 14 .c (ev 7 .a .a)
 .obtain⟨s,i,t,w⟩:=Ni _ (cI p2 e2 B) _ (cI p2 e2 C) _ (sH p2) c1 c2 (λh=>d _ (h1 h)) (λh=>d _ (h2 h)) (λe=>o (f e));have key:∀k:Int,k∈jj p->cls k p=s->∃k∈jj p,aA k n p=c1/\aA k m p=c2:=λk r ek=>#[k,r,by rw[bf c e2,ek];exact t,by rw[bf c e2,ek];exact w];have sm:jj p=[1,jY p,p,p*jY p]:=by unfold jj;rw[Xl c,Xl e2]
  rw[sm] at key ⊢;obtain⟨F,l,_⟩:=mj (lZ pp e2)
  have E:¬p∣jY p:=λz=>by
   rw[cZ z] at l;cases l
  have cn:cls (jY p) p=(0,-1):=by rw[bQ p2 E,Xl e2,l]
  have g:¬p∣1:=λz=>by have:=XH .a z;lia
  have A:bh 1 p=1:=gT pp e2 #[0,.b];have u:cls 1 p=(0,1):=by rw[bQ p2 g,Xl e2,A]
  have y:cls p p=(1,1):=by
   have:=kR (v:=1) p2 g;rw[XS,Yc,Yp,Yp] at this;unfold cls;rw[this,Xl e2];dsimp only;rw[A];rfl
  have j:cls (p*jY p) p=(1,-1):=by
   have:=dF (p:=p) (a:=p) (b:=jY p) hp c .b;unfold bK at this;rw[Xl c,Xl c,Xl c,y,cn] at this;have e:=abq this.symm;rw[e];show((1+0)%2,_)=_;rw[Xl e2];rfl
  simp only[Xm,Xr,XT] at i;rcases i with rfl|rfl|rfl|rfl
  .exact key 1 .c u
  .exact key (jY p) .c cn
  .exact key p .c y
  .exact key (p*jY p) .c j
def Bc{a b d:Int}(hp:Pl p)(ha:a≠0)(l:b≠0)(B:c≠0)(C:d≠0)(h:bZ [a,b,c,d] p=Á):∃k∈jj p,bZ [a,b,-k] p=Á/\bZ [c,d,k] p=Á:=by
 by_cases i:p=0
 .subst i;have sm:jj 0=[1,-1]:=by unfold jj;rw[Xo rfl]
  rw[sm];rw[bU] at h
  have key:∀k:Int,k∈[(1:Int),-1]->((a<0\/b<0\/0<k)/\(0<a\/0<b\/k<0))->((c<0\/d<0\/k<0)/\(0<c\/0<d\/0<k))->∃k∈[(1:Int),-1],bZ [a,b,-k] 0=Á/\bZ [c,d,k] 0=Á:=λk m e1 e2=>by
   refine#[k,m,?_,?_]
   .rw[bU];constructor
    .rcases e1.1 with z|z|z
     .exact#[a,.c,z]
     .exact#[b,.c,z]
     .exact#[-k,.c,.b]
    .rcases e1.2 with z|z|z
     .exact#[a,.c,z]
     .exact#[b,.c,z]
     .exact#[-k,.c,.b]
   .rw[bU];constructor
    .rcases e2.1 with z|z|z
     .exact#[c,.c,z]
     .exact#[d,.c,z]
     .exact#[k,.c,z]
    .rcases e2.2 with z|z|z
     .exact#[c,.c,z]
     .exact#[d,.c,z]
     .exact#[k,.c,z]
  obtain⟨⟨x,o,A⟩,⟨y,n,w⟩⟩:=h;simp only[Xm,Xr,XT] at o n;by_cases q:0<a/\0<b\/((a<0/\0<b\/0<a/\b<0)/\c<0)
  .refine key 1 .c #[.b,.b] #[?_,.b];rcases o with rfl|rfl|rfl|rfl<;>lia
  .refine key (-1) .c #[.b,.b] #[.b,?_];rcases n with rfl|rfl|rfl|rfl<;>lia
 have pp:=hp.resolve_left i;have pl:Pl p:=hp;have f:-c≠0:=by lia
 have g:-d≠0:=by lia
 have nn:-1*(a*b)≠0:=Xn .a (Xn ha l);have j:-1*(-c*-d)≠0:=Xn .a (Xn f g)
 obtain⟨k,m,u,v⟩:=Cq hp nn j (aA a b p) (aA (-c) (-d) p) (λe=>by
   cases z:uk (-1*(a*b)) p with
   |false=>rfl
   |true =>
    have:=kG pl ha z;rw[vA pl ha l,e] at this
    cases this) (λe=>by
   cases z:uk (-1*(-c*-d)) p with
   |false=>rfl
   |true =>
    have:=kG pl f z;rw[vA pl f g,e] at this
    cases this) (λe=>by
   have s:Ly (a*b*c*d) p:=by
    have e1:=dF hp nn j;rw[e,dF hp j j] at e1;have e2:=wA (a:=1) hp .a j;rw[Yp,e1] at e2;unfold bK at e2;rw[Xl i,Xl i] at e2;have e3:=abq e2;have e4:-1*(a*b)*(-1*(-c*-d))=a*b*c*d:=by grind
    rw[e4] at e3;show cls (a*b*c*d) p=(0,1);rw[e3];exact Qa pp
   rw[gR i,XY s] at h;have tz:tZ a b c p=Á:=h;unfold tZ at tz;rw[show -a*c=a*-c by grind,show -b*c=b*-c by grind,xA pl ha l f] at tz
   have t:aA (-c) (-1*(a*b)) p=aA (-c) (-d) p:=by
    rw[bC pl nn f,EL e,bC pl f j,vA pl f g]
   rw[t] at tz
   exact(abh.mp tz).symm)
 have r:=l_ hp k m;refine#[k,m,?_,?_]
 .rw[da i];unfold tZ;rw[show -a*-k=a*k by grind,show -b*-k=b*k by grind,xA pl ha l r,u];simp
 .rw[da i];unfold tZ;rw[xA pl f g r,v];simp
def Cm(hp:Pl p){m:List Int}(i:∀a∈l,a≠0)(g:∀a∈m,a≠0)(e:l.map (λa=>bK a p)=m.map λa=>bK a p):bZ l p=bZ m p:=by
 rcases hp with rfl|pp
 .have key:∀{l m:List Int},(∀a∈l,a≠0)->(∀a∈m,a≠0)->l.map (λa=>bK a 0)=m.map (λa=>bK a 0)->bZ l 0=Á->bZ m 0=Á:=λ{l m} i g e h=>by
   rw[bU] at h ⊢
   have go:∀x∈l,∃y∈m,bK y 0=bK x 0:=λx j=>by
    have:bK x 0∈l.map λa=>bK a 0:=XF.mpr #[x,j,rfl];rw[e] at this;exact XF.mp this
   have sg:∀{x y:Int},x≠0->y≠0->bK y 0=bK x 0->(0<y↔0<x):=λ{x y} j n h=>by
    unfold bK at h;rw[Xo rfl,Xo rfl] at h;have:=acT h;by_cases a:0<x<;>by_cases b:0<y
    .exact#[λ_=>a,λ_=>b]
    .rw[Xl b,Xo a] at this;cases this
    .rw[Xo b,Xl a] at this;cases this
    .exact#[λz=>absurd z b,λz=>absurd z a]
   obtain⟨⟨x,j,v⟩,⟨y,n,r⟩⟩:=h;obtain⟨o,d,ex⟩:=go x j;obtain⟨q,k,s⟩:=go y n;have h1:=sg (i x j) (g o d) ex;have h2:=sg (i y n) (g q k) s;have:=g o d;exact#[#[o,d,.b],#[q,k,h2.mpr r]]
  exact Yy.mpr #[key i g e,key g i e.symm]
 .have t:p≠0:=by have:=au pp;lia
  refine oU pp i g ?_;have:(l.map λa=>bK a p).map (λc=>match c with|.inl _=>((0:Int),(0:Int))|.inr u=>u)=(m.map λa=>bK a p).map (λc=>match c with|.inl _=>((0:Int),(0:Int))|.inr u=>u):=by rw[e]
  rw[aaS,aaS] at this
  have f:((λc:Int⊕(Int×Int)=>match c with|.inl _=>((0:Int),(0:Int))|.inr u=>u)∘λa=>bK a p)=λa=>cls a p:=funext λa=>by
   show(match bK a p with|.inl _=>((0:Int),(0:Int))|.inr u=>u)=_;unfold bK;rw[Xl t]
  rw[f] at this;exact this
def zD(one other:List Int)(p:Int):List (Int⊕(Int×Int)):=((jj p).filter λk=>bZ (one++[-k]) p&&bZ (other++[k]) p).map λk=>bK k p
def L8{t:Int}{one other:List Int}(hp:Pl p)(h1:∀a∈one,a≠0)(h2:∀a∈other,a≠0)(d:t≠0)(h:bK t p∈zD one other p):bZ (one++[-t]) p=Á/\bZ (other++[t]) p=Á:=by
 obtain⟨k,b,e⟩:=XF.mp h;obtain⟨b,z⟩:=Ys.mp b;rw[X8] at z;have c:=l_ hp k b
 have f:bK (-t) p=bK (-k) p:=by
  rw[show -t=-1*t by lia,show -k=-1*k by lia,<-dF hp .a d,<-dF hp .a c,e]
 have nz:∀{l:List Int} {x:Int},(∀a∈l,a≠0)->x≠0->∀a∈l++[x],a≠0:=λ{l x} i g a ha=>by
  rcases Yf.mp ha with ha|ha
  .exact i a ha
  .rw[XX.mp ha];exact g
 constructor
 .rw[Cm hp (nz h1 .b) (nz h1 (show -k≠0 by lia)) (by rw[Zl,Zl,X3,X3,f])];exact z.1
 .rw[Cm hp (nz h2 d) (nz h2 c) (by rw[Zl,Zl,X3,X3,e])];exact z.2
def Au{one other:List Int}(a:k∈jj p)(h1:bZ (one++[-k]) p=Á)(h2:bZ (other++[k]) p=Á):bK k p∈zD one other p:=XF.mpr #[k,Ys.mpr #[a,by rw[h1,h2];rfl],rfl]
def LA(e:oo L)(d:lu L x)(c:lu L y)(h:∀p∈(0:Int)::L,aA x y p=Á):∀p,Pl p->aA x y p=Á:=λp hp=>by
 by_cases b:p∈(0:Int)::L
 .exact h p b
 rcases hp with rfl|hp
 .exact absurd (XA ..) b
 have a:p∉L:=λz=>b (Xx _ z);exact k6 hp (λz=>a (by rw[z];exact e.two)) (λz=>a (d.2 p hp z)) (λz=>a (c.2 p hp z))
def LQ(c:oo (L++[q]))(b:lu (L++[q]) x)(a:lu (L++[q]) y)(h:∀p∈(0:Int)::L,aA x y p=Á):∀p,Pl p->aA x y p=Á:=by
 have ev:=G7 c b a;unfold qu at ev;rw[show(0:Int)::(L++[q])=((0:Int)::L)++[q] from rfl,sW,xg h] at ev
 have d:aA x y q=Á:=by
  cases z:aA x y q with
  |true=>rfl
  |false =>
   exfalso
   have:ou [q] (aA x y)=Â:=by
    unfold ou;rw[aby,z];rfl
   rw[this] at ev;cases ev
 refine LA c b a λp hp=>?_;rcases Xm.mp hp with z|z
 .exact h p (by rw[z];exact XA ..)
 .rcases Yf.mp z with z|z
  .exact h p (Xx _ z)
  .rw[XX.mp z];exact d
noncomputable def j4(q n:Nat):Bool:=é ((n%q)^(q/2)%q) 1
def vw{q:Nat}(hp:aT (q:Int)=Á)(h2:q≠2)(n:Nat):j4 q n=Á↔bh (n:Int) (q:Int)=1:=by
 have a:=au hp
 have od:q%2=1:=by
  rcases bY.mp hp with z|z
  .lia
  .lia
 unfold j4 bh;have e1:((n:Int)%(q:Int))=((n%q:Nat):Int):=rfl;have e2:(((q:Int)-1)/2).toNat=q/2:=by lia
 rw[e1,e2,Xl (show ¬(q:Int)=2 by lia)];by_cases z:n%q=0
 .rw[z,Xo (show((0:Nat):Int)=0 from rfl),Nat.zero_pow .b,Nat.zero_mod];exact#[λh=>absurd h .a,λh=>absurd h .a]
 .rw[Xl .b]
  have e3:(((n%q:Nat):Int))^(q/2)%(q:Int)=(((n%q)^(q/2)%q:Nat):Int):=by
   rw[Int.natCast_emod ((n%q)^(q/2)) q,aa7]
  rw[e3];constructor
  .intro h;rw[Y_ h];rfl
  .intro h;split at h
   .rename_i b;have:(n%q)^(q/2)%q=1:=by lia
    rw[this];rfl
   .cases h
noncomputable def FI(n:Nat):Nat:=n%8/2*32+(j4 3 n).toNat*16+(j4 5 n).toNat*8+(j4 7 n).toNat*4+(j4 11 n).toNat*2+(j4 13 n).toNat
noncomputable def FT:List Nat:=[593,17,353,257,1913,233,137,113,41,1361,89,521,281,569,401,641,73,937,97,313,193,337,2017,1873,241,601,1321,1609,1009,2521,2689,8089,83,563,587,467,827,107,683,443,1931,131,59,251,1019,491,2699,179,307,283,643,1483,1723,43,67,883,19,139,619,859,739,211,331,1171,293,173,773,797,197,1733,317,53,461,101,509,269,149,29,1061,389,733,997,397,157,613,277,37,757,349,61,229,181,109,1381,421,1621,167,503,47,647,743,263,863,23,479,1559,839,311,239,1031,71,191,3583,607,223,103,967,127,463,823,271,439,31,199,151,79,631,751]
noncomputable def RT:List (List Nat):=[[1097,593,4457,11633,16673,1553],[857,17,19577,7433,11777,7817],[1697,353,13457,15137,9497,8273],[1193,257,1433,4073,11177,6473],[2153,9137,11057,1913,4817,11393],[953,7193,10313,12377,22073,6353],[617,137,13577,5657,977,4337],[2297,23633,113,19457,12497],[761,41,23561,11681,6089],[1889,16649,3449,2609,17729,4289],[929,89,14969,20681,7649,3881],[881,3041,1049,11801,10169],[1289,9209,11321,16529,11369],[809,569,4001,3329,1481,2081],[449,17609,23081,6689,1409,6521],[4481,22961,9689,641,5009,7121],[1657,8377,4297,3673,73,2593],[1777,1993,21577,12073,2617,2833],[577,1753,97,15217,5857,4513],[433,3793,1153,20593,3457,5113],[457,3313,193,10753,1033,4153],[673,18433,19993,4993,1297,337],[2137,23857,2377,6337,8353,15073],[2473,1873,4657,7393,8737,11257],[409,11161,14929,13681,4441,5689],[1249,3769,8161,601,4969],[1489,21481,16369,2281,1321,5449],[2161,1609,3169,23929,15889,4801],[1129,3049,3361,1201,3889],[4729,12601,13441,19681,23689,2521],[3529,7681,5569,18481,2689,12049],[1,19009,21961,21121,24049,8089],[227,83,6947,5843,9323,2243],[1427,563,3923,4787,11483,8147],[1307,11003,21587,4283,16427],[1907,12347,467,14843,8363,13523],[1163,9587,3203,15803,6203,3803],[347,13043,3467,1187,107,5147],[947,19427,17483,1787,7547,14723],[2003,2027,17627,21323,7043],[2411,5939,8819,13691,1931,4451],[1091,1979,131,3251,8291,1811],[1259,2099,7451,6779,6131,2579],[419,5171,971,14699,16691,251],[1451,23459,10691,1019,5051,2459],[659,3539,491,3299,16979,5651],[4019,15299,22859,21179,14051,2699],[1499,179,3371,4211,10091,2531],[787,5683,18427,4483,307,1627],[523,283,8707,4003,14563,4507],[1123,22027,2803,23203,19507],[2467,15643,15427,19603,17923,1483],[2683,1723,3907,11923,3187,4363],[547,43,9283,10243,11827,8467],[163,9067,14683,67,5923,1747],[907,5443,6763,883,7723,2083],[811,19,21859,2659,16411],[1459,15259,23371,23539,1531,2131],[691,2971,6571,619,3499,8539],[1291,1699,3331,8011,4339,15739],[1051,22171,2251,739,23251,6091],[571,2851,8059,211,22051,3571],[379,2179,499,331,14851,3931],[2011,21499,2731,3259,6451,3019],[2477,13397,18413,7013,4373,293],[677,4157,3533,5477,4637,4133],[2693,11213,2957,8237,5813,4493,773],[1013,12893,10253,11093,1277,797],[557,4253,1493,197,19037],[2213,17333,10973,22877,5573,4397],[1373,317,2333,19853,3557,12413],[653,53,6917,3917,12653],[941,2789,9341,17981,461,2309],[1949,101,2141,3461,5381,5981],[1181,509,2621,9029,16229,6389],[1109,1301,7349,7901,12269,2861,269],[821,14669,19469,5189,3581,149],[701,7589,19709,6101,2549],[1709,2069,13421,12149,1061,2381],[1901,9221,389,2909,4229,3221],[853,733,7213,16477,3517,3373],[1693,19813,6397,14797,997,7237],[1237,15277,4933,18133,4357,3853],[2677,6373,157,17317,3877,5197],[877,18757,19597,1597,20533,5077],[373,2053,277,4957,4813,1117],[2293,3733,37,5413,6637,2797],[1093,3613,12973,13693,1213],[1669,11149,5101,11941,2749,7741],[1069,14629,4021,3709,10141,61],[661,229,1021,16141,9901,6229],[829,181,2029,8629,19309,1741],[541,2221,109,3109,15061],[1429,5821,21589,9829,1381,8269],[709,4789,19429,6469,10861,421],[3301,10789,23269,6301,9109,5581],[1487,3863,21383,11087,3167,7103],[887,3407,1223,23063,23663],[383,11903,47,20663,2663,983],[2687,16943,14447,647,11423],[2087,13463,17903,743,4127,2543],[1583,263,5903,4463,8087,4967],[1103,863,2423,6983,7247],[2447,14543,23,7583,10607],[1151,1319,15671,479,2351,3671,4919],[2999,14951,5711,10559,1559,6551,10799],[2399,14831,20639,6359,11399],[719,1511,19991,311,5879,5591],[359,22079,2111,14519,21599,239],[2591,1031,5279,4391,10271,6959],[2039,71,12959,4271,6911],[599,191,1439,3719,1871],[3967,23623,10303,12823,13327,16183,12487],[1063,1447,11527,7927,2383,9127],[1567,1783,223,14503,9007,3463],[367,9463,5743,103,727,1543],[2503,3343,5623,21247,5167,2767],[1327,6343,11743,12583,18223,127],[487,11383,8647,1087,6703],[1303,5503,4447,823,13183,3943],[1399,6079,13879,271,4231,4639],[1231,3559,439,4759,15991],[1279,31,4591,1879,22111,3391],[1039,1951,13711,11311,17359],[1471,14071,7039,9391,9319,10831],[919,3319,9151,20071,79,17599],[1831,7639,5839,631,3271,5791],[991,2311,19471,751,15031,4159]]
noncomputable def Nv(n:Nat):Bool:=!Nat.beq (n%2) 0&&!Nat.beq (n%3) 0&&!Nat.beq (n%5) 0&&!Nat.beq (n%7) 0&&!Nat.beq (n%11) 0&&!Nat.beq (n%13) 0
noncomputable def LD:List Nat:=[17,19,23,29,31,37,41,43,47,53,59,61,67,71,73,79,83,89]
def MW:((Ô 128).all λi=>(wW.any λq=>é q (FT.getD i 0))&&é (FI (FT.getD i 0)) i)=Á:=by decide +kernel
def MM:((Ô 8090).all λn=>!Nv n || Nat.ble n 16 || Nat.ble (FT.getD (FI n) 0) n || LD.any λd=>é (n%d) 0&&Nat.blt d n)=Á:=by decide +kernel
noncomputable def Ss(r:Nat):Nat:=cond (Nat.blt r 160) 5 77
def OJ:((Ô 128).all λi=>(RT.getD i []).all λr=>é (FI r) i&&(é r 1 || (vo r (Ss r)&&ŝ 17 r&&é (r%2) 1&&ŝ r 24049)))=Á:=by decide +kernel
def RF:(wW.all λq=>RT.all λl=>(l.any λr=>!Nat.beq (r%q) 0&&j4 q r)&&(l.any λr=>!Nat.beq (r%q) 0&&!j4 q r))=Á:=by decide +kernel
def all_range{n:Nat}{f:Nat->Bool}(h:((Ô n).all f)=Á){i:Nat}(hi:i<n):f i=Á:=X_.mp h i (Yu.mpr hi)
def AR(n:Nat):FI n<128:=by
 have b:∀c:Bool,c.toNat<=1:=by decide
 have:=b (j4 3 n);have:=b (j4 5 n);have:=b (j4 7 n);have:=b (j4 11 n);have:=b (j4 13 n);unfold FI;lia
def C0:∀p∈([3,5,7,11,13]:List Nat),aT ((p:Nat):Int)=Á:=λp hp=>by
 refine ip _ ?_;have:∀p∈([3,5,7,11,13]:List Nat),((p:Nat):Int)∈Q6:=by decide
 exact this p hp
def yk{m n:Nat}(r:Ka m)(o:Ka n)(B:0<m)(C:0<n)(e:FI m=FI n):∀p∈P7,bK (m:Int) p=bK (n:Int) p:=by
 have b:∀c:Bool,c.toNat<=1:=by decide
 have h2:∀{x:Nat},Ka x->x%2=1:=λ{x} h=>by
  have:=h 0 .a;simp[Q6] at this;lia
 have m2:=h2 r;have w:=h2 o;have:=b (j4 3 m);have:=b (j4 5 m);have:=b (j4 7 m);have:=b (j4 11 m);have:=b (j4 13 m);have:=b (j4 3 n);have:=b (j4 5 n);have:=b (j4 7 n);have:=b (j4 11 n);have:=b (j4 13 n);unfold FI at e;have tn:∀{x y:Bool},x.toNat=y.toNat->x=y:=by decide
 have A:m%8=n%8:=by lia
 have e3:j4 3 m=j4 3 n:=tn .b;have t:j4 5 m=j4 5 n:=tn .b;have u:j4 7 m=j4 7 n:=tn .b;have i:j4 11 m=j4 11 n:=tn .b;have g:j4 13 m=j4 13 n:=tn .b
 have odd:∀(p:Nat),p∈([3,5,7,11,13]:List Nat)->¬((p:Nat):Int)∣(m:Int)->¬((p:Nat):Int)∣(n:Int)->j4 p m=j4 p n->cls (m:Int) (p:Int)=cls (n:Int) (p:Int):=λp hp l q v=>by
  have pp:=C0 p hp;have p2:p≠2:=λz=>by subst z;revert hp;decide
  have a:((p:Nat):Int)≠2:=by lia
  rw[cV pp a l,cV pp a q];have f:=vw pp p2 m;have s:=vw pp p2 n;rw[v,s] at f;rcases bx l with z|z<;>rcases bx q with y|y
  .rw[z,y]
  .rw[z,y] at f;exact absurd (f.mpr rfl) .a
  .rw[z,y] at f;exact absurd (f.mp rfl) .a
  .rw[z,y]
 intro p hp;have c:=λj k=>r j k;have d:=λj k=>o j k;simp only[P7,Xm,Xr,XT] at hp;rcases hp with rfl|rfl|rfl|rfl|rfl|rfl|rfl
 .unfold bK;rw[Xo rfl,Xo rfl,Xo .b,Xo .b]
 .unfold bK;rw[Xl .a,Xl .a,cw .b,cw .b,show(m:Int)%8=(n:Int)%8 by lia]
 .unfold bK;rw[Xl .a,Xl .a];exact congrArg è (odd 3 .a (c 1 .a) (d 1 .a) e3)
 .unfold bK;rw[Xl .a,Xl .a];exact congrArg è (odd 5 .a (c 2 .a) (d 2 .a) t)
 .unfold bK;rw[Xl .a,Xl .a];exact congrArg è (odd 7 .a (c 3 .a) (d 3 .a) u)
 .unfold bK;rw[Xl .a,Xl .a];exact congrArg è (odd 11 .a (c 4 .a) (d 4 .a) i)
 .unfold bK;rw[Xl .a,Xl .a];exact congrArg è (odd 13 .a (c 5 .a) (d 5 .a) g)
def fj{q:Nat}(h:q∈wW):aT (q:Int)=Á/\17<=q/\q<=8089:=by
 obtain⟨d,c,a,b,e⟩:=ve q h;exact#[g6 d .b a e,c,b]
def Ia(g:aT q=Á)(b:17<=q)(B:q<=8089):∃r:Nat,r∈wW/\(r:Int)<=q/\∀p∈P7,bK (r:Int) p=bK q p:=by
 obtain⟨n,rfl⟩:∃n:Nat,q=(n:Int):=#[q.toNat,.b];have o:=i_ g b
 have y:Nv n=Á:=by
  have c:=λj x=>o j x
  have nb:∀p:Nat,¬((p:Nat):Int)∣(n:Int)->(!Nat.beq (n%p) 0)=Á:=λp h=>by
   cases z:é (n%p) 0 with
   |false=>rfl
   |true =>
    have:=Y_ z;exact absurd (Z0.mpr (abv this)) h
  unfold Nv;rw[nb 2 (c 0 .a),nb 3 (c 1 .a),nb 5 (c 2 .a),nb 7 (c 3 .a),nb 11 (c 4 .a),nb 13 (c 5 .a)];rfl
 have h1:=all_range MM (i:=n) .b;rw[y,show ŝ n 16=Â from ab8.mpr λz=>by have:=Yn z;lia] at h1;simp only[Bool.not_true,ϲ,Zz] at h1;have k:=all_range MW (AR n);rw[X8] at k;obtain⟨u,t⟩:=k;obtain⟨r,m,a⟩:=Zf.mp u;have a:=Y_ a;have l:=Y_ t;rcases h1 with h1|h1
 .have f:=Yn h1;rw[<-a] at f l;obtain⟨v,s,_⟩:=fj m;exact#[r,m,.b,yk (i_ v .b) o .b .b l]
 .exfalso;obtain⟨d,A,e⟩:=Zf.mp h1;rw[X8] at e;have e1:=Y_ e.1;have e2:d<n:=Yn e.2;have w:∀d∈LD,2<=d:=by decide
  have:=w d A;rcases eY g .b (Z0.mpr (abv e1)) with z|z<;>lia
def CL{ns:List Int}(L:ns.length=7)(N:∀n∈ns,n≠0){q:Nat}(C:q∈wW){sg:Int}(i:sg=1\/sg=-1):∃k r,k∈bH 6/\(r=1\/(aT r=Á/\17<=r/\r<=24049))/\(∀j,j<7->bK (k*r) (P7.getD j 0)=bK (ns.getD j 1) (P7.getD j 0))/\¬(q:Int)∣k*r/\bh (k*r) q=sg:=by
 obtain⟨b,I,O⟩:=fj C;obtain⟨k,q1,x,α,u,_,J⟩:=xT L N;obtain⟨d,rfl⟩:∃n:Nat,q1=(n:Int):=#[q1.toNat,.b];have y:∀p∈Q6,p<=13:=by decide
 have l:¬(q:Int)∣k:=λz=>by have:=y _ (GO b (X7 z (jA x)));lia
 have m:=X_.mp RF q C
 have mem:RT.getD (FI d) []∈RT:=by
  rw[Xq,Xz (show FI d<RT.length from AR d)];exact Ze _
 have a:=X_.mp m _ mem;rw[X8] at a
 have pick:∀s:Int,(s=1\/s=-1)->∃r∈RT.getD (FI d) [],¬(q:Int)∣(r:Int)/\bh (r:Int) q=s:=λs i=>by
  have w:∀{r:Nat},(!Nat.beq (r%q) 0)=Á->¬(q:Int)∣(r:Int):=λ{r} h z=>by
   have:=aaL (Z0.mp z);rw[this] at h;cases h
  rcases i with rfl|rfl
  .obtain⟨r,g,e⟩:=Zf.mp a.1;rw[X8] at e;exact#[r,g,w e.1,(vw b .b r).mp e.2]
  .obtain⟨r,g,e⟩:=Zf.mp a.2;rw[X8] at e;refine#[r,g,w e.1,?_];rcases bx (w e.1) with z|z
   .rw[(vw b .b r).mpr z] at e;exact absurd e.2 .a
   .exact z
 obtain⟨r,g,G,H⟩:=pick (sg*bh k q) (by rcases i with rfl|rfl<;>rcases bx l with z|z<;>rw[z]<;>decide);have t:=X_.mp (all_range OJ (AR d)) r g;rw[X8] at t;have ec:=Y_ t.1
 have E:r=1\/(aT (r:Int)=Á/\17<=r/\r<=24049):=by
  have:=t.2;rw[Zz] at this;rcases this with z|z
  .exact .inl (Y_ z)
  .simp only[X8] at z;obtain⟨⟨⟨K,B⟩,A⟩,v⟩:=z;have B:=Yn B;have A:=Y_ A;have v:=Yn v;refine .inr #[g6 K .b A ?_,B,v];unfold Ss;cases c:Nat.blt r 160 with
   |true=>have:r<160:=Yn c;show r<(2*5+3)*(2*5+3);lia
   |false=>show r<(2*77+3)*(2*77+3);lia
 have cr:Ka (r:Int):=by
  rcases E with rfl|z
  .exact JQ
  .exact i_ z.1 .b
 have F:0<r:=by lia
 have D:=(sM.2 k x).1;refine#[k,r,x,?_,λj f=>?_,λz=>(euclid b z).elim l G,?_]
 .rcases E with rfl|z
  .exact .inl rfl
  .exact .inr #[z.1,.b,.b]
 .have o:P7.getD j 0∈P7:=by
   rw[Xq,Xz (show j<P7.length from f)];exact Ze _
  rw[<-J j f,<-rN o D .b,<-rN o D .b,yk cr (i_ α u) F .b ec _ o]
 .rw[cX b,H];rcases i with rfl|rfl<;>rcases bx l with z|z<;>rw[z]<;>decide
def oQ(g:oo L){z:Int}(b:lu L x)(a:lu L y)(c:lu L z\/∃q,oo (L++[q])/\lu (L++[q]) z)(h:∀p∈(0:Int)::L,bZ [x,y,z] p=Á):∀p,Pl p->bZ [x,y,z] p=Á:=by
 have d:z≠0:=by rcases c with o|⟨_,_,o⟩<;>exact o.1
 have e:∀p∈(0:Int)::L,aA (-x*z) (-y*z) p=Á:=λp hp=>by rw[<-Ed b.1 a.1 d];exact h p hp
 have all:∀p,Pl p->aA (-x*z) (-y*z) p=Á:=by
  rcases c with o|⟨q,f,o⟩
  .exact LA g (iz (gL b) o) (iz (gL a) o) e
  .have sub:∀p∈L,p∈L++[q]:=λp hp=>Ya _ hp;exact LQ f (iz (nQ sub (gL b)) o) (iz (nQ sub (gL a)) o) e
 intro p hp;rw[Ed b.1 a.1 d];exact all p hp
def Lw(c:oo L)(f:aT q=Á)(g:q∉L):oo (L++[q]):=#[abp.mpr #[c.nd,.c,λa ha b d=>by
  rw[XX.mp d];intro e;rw[e] at ha
  exact g ha],λp hp=>by
  rcases Yf.mp hp with hp|hp
  .exact c.pr p hp
  .rw[XX.mp hp];exact f,Ya _ c.two]
def E9(e:oo L)(g:∀p∈Q6,p∈L)(f:k∈bH 6)(a:q=1\/aT q=Á):lu L (k*q)\/∃r,oo (L++[r])/\lu (L++[r]) (k*q):=by
 have ok:=nQ g (nu f);rcases a with rfl|a
 .rw[X0];exact .inl ok
 have h:=au a
 have pr:∀r,aT r=Á->r∣q->r=q:=λr b c=>by
  have:=au b;rcases eY a .b c with z|z
  .lia
  .exact z
 by_cases d:q∈L
 .exact .inl (iz ok #[.b,λr b c=>by rw[pr r b c];exact d])
 .exact .inr #[q,Lw e a d,iz (nQ (λp hp=>Ya _ hp) ok) #[.b,λr b c=>by rw[pr r b c];simp]]
def IB{a b t:Int}(pp:aT p=Á)(h2:p≠2)(ha:¬p∣a)(s:¬p∣b)(l:¬p∣c)(v:t≠0):∃k∈jj p,¬p∣k/\bZ [a,b,-k] p=Á/\bZ [c,t,k] p=Á:=by
 have p2:=au pp;have d:∀{x:Int},¬p∣x->x≠0:=λ{x} h z=>h (by rw[z];exact abf p);have sm:jj p=[1,jY p,p,p*jY p]:=by unfold jj;rw[Xl .b,Xl h2]
 obtain⟨w,i,_⟩:=mj (lZ pp h2)
 have m:¬p∣jY p:=λz=>by
  rw[cZ z] at i;cases i
 have j:¬p∣1:=λz=>by have:=XH .a z;lia
 have q:bh 1 p=1:=gT pp h2 #[0,.b]
 obtain⟨k,u,e,r⟩:∃k∈jj p,¬p∣k/\bh (-c*k) p=1:=by
  have o:¬p∣-c:=λz=>l (YL.mp z);rcases bx o with z|z
  .exact#[1,by rw[sm];simp,j,by rw[cX pp,z,q];rfl]
  .exact#[jY p,by rw[sm];simp,m,by rw[cX pp,z,i];rfl]
 refine#[k,u,e,nX pp h2 (Xu 3) λx n=>?_,?_]
 .simp only[Xm,Xr,XT] at n;rcases n with rfl|rfl|rfl
  .exact ha
  .exact s
  .exact λz=>e (YL.mp z)
 .have f:=d e;have c0:=d l;have g:¬p∣-c*k:=λz=>(euclid pp z).elim (λy=>l (YL.mp y)) e;rw[Ed c0 v f,bC (.inr pp) (Xn .b f) (Xn .b f)];refine kG (.inr pp) (Xn .b f) ?_;unfold uk;rw[Xl .b,cV pp h2 g,r];exact XY rfl
def LL(pp:aT p=Á):∃m1 m2:Int,m1≠0/\m2≠0/\uk m1 p=Â/\uk m2 p=Â/\bK m1 p≠bK m2 p:=by
 have p2:=au pp;have a:¬p=0:=by lia
 by_cases e2:p=2
 .subst e2;have od:∀x:Int,¬(2:Int)∣x->cls x 2=(0,x%8):=λx h=>by rw[bQ .a h];rfl
  refine#[3,5,.a,.a,?_,?_,?_]
  .unfold uk;rw[Xl a,od 3 .a];rfl
  .unfold uk;rw[Xl a,od 5 .a];rfl
  .unfold bK;rw[Xl a,Xl a,od 3 .a,od 5 .a];decide
 .obtain⟨g,b,_⟩:=mj (lZ pp e2)
  have e:¬p∣jY p:=λz=>by
   rw[cZ z] at b;cases b
  have cn:cls (jY p) p=(0,-1):=by rw[bQ p2 e,Xl e2,b]
  have c:¬p∣1:=λz=>by have:=XH .a z;lia
  have f:bh 1 p=1:=gT pp e2 #[0,.b]
  have d:cls p p=(1,1):=by
   have:=kR (v:=1) p2 c;rw[XS,Yc,Yp,Yp] at this;unfold cls;rw[this,Xl e2];dsimp only;rw[f];rfl
  refine#[jY p,p,.b,a,?_,?_,?_]
  .unfold uk;rw[Xl a,cn];rfl
  .unfold uk;rw[Xl a,d];rfl
  .unfold bK;rw[Xl a,Xl a,cn,d];decide
def CW{a b d e:Int}(hp:Pl p)(ha:a≠0)(l:b≠0)(u:c≠0)(B:d≠0)(he:e≠0)(A:a<0/\0<b\/0<a/\b<0):∃k∈jj p,bZ [a,b,-k] p=Á/\bZ [c,d,e,k] p=Á:=by
 by_cases g:p=0
 .subst g;have sm:jj 0=[1,-1]:=by unfold jj;rw[Xo rfl]
  have r:∀k:Int,bZ [a,b,-k] 0=Á:=λk=>by
   rw[bU];rcases A with z|z
   .exact#[#[a,.c,z.1],#[b,.c,z.2]]
   .exact#[#[b,.c,z.2],#[a,.c,z.1]]
  by_cases q:0<c
  .exact#[-1,by rw[sm];simp,r _,by rw[bU];exact#[#[-1,.c,.a],#[c,.c,q]]]
  .exact#[1,by rw[sm];simp,r _,by rw[bU];exact#[#[c,.c,.b],#[1,.c,.a]]]
 have pp:=hp.resolve_left g;have nn:-1*(a*b)≠0:=Xn .a (Xn ha l);have f:c*d*e≠0:=Xn (Xn u B) he
 obtain⟨m,i,x,t⟩:∃m:Int,m≠0/\uk m p=Â/\bK (-1*(a*b)) p≠bK m p:=by
  obtain⟨m1,m2,h1,h2,s,v,j⟩:=LL pp;by_cases z:bK (-1*(a*b)) p=bK m1 p
  .exact#[m2,h2,v,λy=>j (z.symm.trans y)]
  .exact#[m1,h1,s,z]
 obtain⟨k,o,w,D⟩:=Cq hp nn i (aA a b p) (!aA (c*d*e) m p) (λe=>by
   cases z:uk (-1*(a*b)) p with
   |false=>rfl
   |true =>
    have:=kG hp ha z;rw[vA hp ha l,e] at this
    cases this) (λ_=>x) (λz=>absurd z t)
 have n:=l_ hp k o;refine#[k,o,?_,?_]
 .rw[da g];unfold tZ;rw[show -a*-k=a*k by grind,show -b*-k=b*k by grind,xA hp ha l n,w];simp
 .rw[gR g]
  have ns:¬Ly (c*d*e*k) p:=λC=>by
   have:uk (c*d*e*k) p=Á:=by unfold uk;rw[Xl g];exact XY C
   have h:=kG hp i this;rw[bC hp (Xn f n) i,uZ hp f n i,D] at h;revert h;cases aA (c*d*e) m p<;>decide
  rw[X1 ns];rfl
def Eg{a:Int}(ha:a∈bH 6)(i:k∈bH 6)(d:q=1\/(aT q=Á/\17<=q/\q<=24049)):Tame (a*(k*q)).natAbs/\(JV (a*(k*q)) 1).1.natAbs<1073741824:=by
 have o:=bg ha;have A:=bg i;have E:=eV ha;have C:=eV i
 have D:0<q/\q<=24049:=by
  rcases d with rfl|⟨_,h,h'⟩
  .decide
  .lia
 have sm:zF ((a.natAbs:Int)*(k.natAbs:Int)):=kY (vW .b .b) (vW .b .b);have ps:0<(a.natAbs:Int)*(k.natAbs:Int):=Yq .b .b
 have v:((a*(k*q)).natAbs:Int)=(a.natAbs:Int)*(k.natAbs:Int)*q:=by
  rw[XZ,XZ,YT,YT,show(q.natAbs:Int)=q by lia,X6]
 have n:Tame (a*(k*q)).natAbs:=by
  rw[v];rcases d with rfl|⟨c,m,w⟩
  .exact .inl #[_,1,sm,ps,.a,.b]
  .exact .inr #[_,q,sm,ps,c,.b,rfl]
 refine#[n,?_];obtain⟨g,u,x,_,e⟩:=ON (a:=a) (b:=k) o;have j:=MN ha i;have js:lq (jn a k):=Bi LR (jA j);have r:=eV j
 have y:lq (jn a k*q):=by
  rcases d with rfl|⟨c,m,w⟩
  .rw[X0];exact js
  .refine lH js c λz=>?_;have:=GO c (X7 z (jA j));have l:∀p∈Q6,p<=13:=by decide
   have:=l q this;lia
 have B:a*(k*q)≠0:=Xn o (Xn A .b);rw[F8 (t:=a*(k*q)) (b:=1) (f:=jn a k*q) (s:=g) B .a (by rw[X0];exact n) y x (by rw[X0,<-X6,e];grind)];show(jn a k*q).natAbs<1073741824;rw[XZ];have:=aaT r (show q.natAbs<=24049 by lia);lia
end Q
namespace L2
open PySem PySem.Spec PyProof.Rows
section
variable{κ:Type}[DecidableEq κ]
noncomputable def ly(YP:List (κ×V))(k:κ):Option V:=(YP.find? λkv=>decide (kv.1=k)).map (·.2)
noncomputable def putK(YP:List (κ×V))(k:κ)(v:V):List (κ×V) :=
 if (YP.any λkv=>decide (kv.1=k))=Á then YP.map (λkv=>if kv.1=k then (kv.1,v) else kv) else YP++[(k,v)]
def kI{p:κ×V}{r:List (κ×V)}{k:κ}(e:p.1=k):ly (p::r) k=À p.2:=by simp[ly,Zo,e]
def kL{p:κ×V}{r:List (κ×V)}{k:κ}(e:¬p.1=k):ly (p::r) k=ly r k:=by simp[ly,Zo,e]
theorem tu(k:κ):∀YP:List (κ×V),(YP.any λkv=>decide (kv.1=k))=(ly YP k).isSome
 |[]=>rfl
 |p::r=>by
  rw[ZI];by_cases e:p.1=k
  .simp only[kI e,XY e,Bool.true_or,š]
  .rw[kL e,X1 e,ϲ];exact tu k r
def ke(YP:List (κ×V))(k:κ)(v:V):(putK YP k v).length<=YP.length+1:=by
 unfold putK;split
 .rw[Xv];lia
 .rw[XQ,Yl,acQ];lia
def AE.i8{o:Option V}{u:Option Ä}(r:AE o u):o.isSome=u.isSome:=by
 cases o with
 |none=>cases u with
  |none=>rfl
  |some _=>exact(show False from r).elim
 |some _=>cases u with
  |none=>exact(show False from r).elim
  |some _=>rfl
def KV.val{YP:List (κ×V)}{vs:List (κ×Ä)}(r:KV YP vs)(k:κ):AE (ly YP k) (Ŗ vs k):=by
 unfold KV at r
 induction r with
 |nil=>exact É
 |@cons p q ps a h t d =>
  obtain⟨h1,h2⟩:=h;by_cases e:p.1=k
  .have c:q.1=k:=h1.symm.trans e;have b:Ŗ (q::a) k=À q.2:=by simp[Ŗ,Zo,c]
   rw[kI e,b];exact h2
  .have c:¬q.1=k:=λz=>e (h1.trans z);have b:Ŗ (q::a) k=Ŗ a k:=by simp[Ŗ,Zo,c]
   rw[kL e,b];exact d
def KV.any{YP:List (κ×V)}{vs:List (κ×Ä)}(r:KV YP vs)(k:κ):(YP.any λkv=>decide (kv.1=k))=vs.any λkv=>decide (kv.1=k):=by
 unfold KV at r
 induction r with
 |nil=>rfl
 |cons h t a=>rw[ZI,ZI,a,h.1]
def KV.GY{YP:List (κ×V)}{vs:List (κ×Ä)}(r:KV YP vs)(k:κ){y:V}{u:Ä}(a:RelV y u):
  KV (YP.map λkv=>if kv.1=k then (kv.1,y) else kv) (vs.map λkv=>if kv.1=k then (kv.1,u) else kv):=by
 unfold KV at r ⊢
 induction r with
 |nil=>exact .nil
 |@cons p q ps c h t b =>
  rw[X3,X3];refine .cons ?_ b;obtain⟨h1,h2⟩:=h;by_cases e:p.1=k
  .rw[Xo e,Xo (h1.symm.trans e)];exact#[h1,a]
  .rw[Xl e,Xl (λz=>e (h1.trans z))];exact#[h1,h2]
def KV.put{YP:List (κ×V)}{vs:List (κ×Ä)}(r:KV YP vs)(k:κ){y:V}{u:Ä}(a:RelV y u):KV (putK YP k y) (stored vs k u):=by
 unfold putK stored;rw[r.any k];by_cases e:(vs.any λkv=>decide (kv.1=k))=Á
 .rw[Xo e,Xo e];exact r.GY k a
 .rw[Xl e,Xl e];exact ŗ r #[rfl,a]
def KV.length{YP:List (κ×V)}{vs:List (κ×Ä)}(r:KV YP vs):YP.length=vs.length:=aaB r
end
variable{H H':Hp}{u:Ä}{YP:List (List Key×V)}{P:Ñ}{w:Û}{y:V}{xs:List (List Key×Ç×Ä)}
def EM{k:Key}(r:RelV (kV k) u):(dP P w).is k u=Á:=by
 cases k with
 |inl i=>obtain⟨t,e⟩:=(show ∃t,u=ā i t from r);subst e;exact zo P w i t
 |inr x=>obtain⟨t,e⟩:=(show ∃t,u=Ι x t from r);subst e;exact x5 P w x t
theorem uX{P:Ñ}{w:Û}:∀{ks:List Key} {us:List Ä},Vals (ks.map kV) us->ItemsAre (dP P w) ks us
 |[],_,r=>by rw[aaQ] at r;cases r;exact .nil
 |k::ks,_,r=>by
  rw[X3] at r;cases r with
  |cons h t=>exact .cons (EM h) (uX t)
abbrev KT(H:Hp):List (List Key×V)->List (List Key×Ç×Ä)->Prop:=ß λp q=>p.1=q.1/\H q.2.1=À (.tup (p.1.map kV))/\RelV p.2 q.2.2
def KT.val{H:Hp}{YP:List (List Key×V)}{xs:List (List Key×Ç×Ä)}(r:KT H YP xs)(k:List Key):AE (ly YP k) ((ĥ xs k).map (·.2)):=by
 induction r with
 |nil=>exact É
 |@cons p q ps a h t d =>
  obtain⟨h1,_,h2⟩:=h;by_cases e:p.1=k
  .have c:q.1=k:=h1.symm.trans e;have b:ĥ (q::a) k=À q.2:=by simp[ĥ,Zo,c]
   rw[kI e,b];exact h2
  .have c:¬q.1=k:=λz=>e (h1.trans z);have b:ĥ (q::a) k=ĥ a k:=by simp[ĥ,Zo,c]
   rw[kL e,b];exact d
def KT.GY(r:KT H YP xs)(k:List Key)(b:RelV y u):
  KT H (YP.map λkv=>if kv.1=k then (kv.1,y) else kv) (xs.map (putAt k u)):=by
 induction r with
 |nil=>exact .nil
 |@cons p q ps d h t c =>
  rw[X3,X3];refine .cons ?_ c;obtain⟨h1,h2,a⟩:=h;unfold putAt;by_cases e:p.1=k
  .rw[Xo e,Xo (h1.symm.trans e)];exact#[h1,h2,b]
  .rw[Xl e,Xl (λz=>e (h1.trans z))];exact#[h1,h2,a]
def KT.put(r:KT H YP xs)(k:List Key){b:Ç}(c:H b=À (.tup (k.map kV)))(a:RelV y u):
  KT H (putK YP k y) (ϻ xs k b u):=by
 have e:(YP.any λkv=>decide (kv.1=k))=(ĥ xs k).isSome:=by
  rw[tu,(r.val k).i8,aaP]
 unfold putK ϻ;rw[e];by_cases q:(ĥ xs k).isSome=Á
 .rw[Xo q,Xo q];exact r.GY k a
 .rw[Xl q,Xl q];exact ŗ r #[rfl,c,a]
def KT.keeps(r:KT H YP xs)(a:∀b ys,H b=À (.tup ys)->H' b=À (.tup ys)):KT H' YP xs :=
 Paired.FC r λ_ _ z=>#[z.1,a _ _ z.2.1,z.2.2]
def Ac{k:Int×Bool}{us:List Ä}(r:Vals (kB k) us):ItemsAre (Av P w) (kl k) us:=by
 cases r with
 |cons h1 b =>
  cases b with
  |cons h2 a =>
   cases a;obtain⟨t,rfl⟩:=(show ∃t,_=ā k.1 t from h1);cases (show _=ŋ k.2 from h2);exact .cons (by show(k.1==k.1)=Á;simp) (.cons (by show(bI k.2==bI k.2)=Á;simp) .nil)
abbrev KB(H:Hp):List ((Int×Bool)×V)->List ((Int×Bool)×Ç×Ä)->Prop:=ß λp q=>p.1=q.1/\H q.2.1=À (.tup (kB p.1))/\RelV p.2 q.2.2
def KB.val{H:Hp}{YP:List ((Int×Bool)×V)}{xs:List ((Int×Bool)×Ç×Ä)}(r:KB H YP xs)(k:Int×Bool):AE (ly YP k) ((ĥ xs k).map (·.2)):=by
 induction r with
 |nil=>exact É
 |@cons p q ps a h t d =>
  obtain⟨h1,_,h2⟩:=h;by_cases e:p.1=k
  .have c:q.1=k:=h1.symm.trans e;have b:ĥ (q::a) k=À q.2:=by simp[ĥ,Zo,c]
   rw[kI e,b];exact h2
  .have c:¬q.1=k:=λz=>e (h1.trans z);have b:ĥ (q::a) k=ĥ a k:=by simp[ĥ,Zo,c]
   rw[kL e,b];exact d
def KB.GY{YP:List ((Int×Bool)×V)}{xs:List ((Int×Bool)×Ç×Ä)}(r:KB H YP xs)(k:Int×Bool)(a:RelV y u):
  KB H (YP.map λkv=>if kv.1=k then (kv.1,y) else kv) (xs.map (putAt k u)):=by
 induction r with
 |nil=>exact .nil
 |@cons p q ps d h t b =>
  rw[X3,X3];refine .cons ?_ b;obtain⟨h1,h2,c⟩:=h;unfold putAt;by_cases e:p.1=k
  .rw[Xo e,Xo (h1.symm.trans e)];exact#[h1,h2,a]
  .rw[Xl e,Xl (λz=>e (h1.trans z))];exact#[h1,h2,c]
def KB.put{YP:List ((Int×Bool)×V)}{xs:List ((Int×Bool)×Ç×Ä)}(r:KB H YP xs)(k:Int×Bool){b:Ç}(c:H b=À (.tup (kB k)))(a:RelV y u):
  KB H (putK YP k y) (ϻ xs k b u):=by
 have e:(YP.any λkv=>decide (kv.1=k))=(ĥ xs k).isSome:=by
  rw[tu,(r.val k).i8,aaP]
 unfold putK ϻ;rw[e];by_cases q:(ĥ xs k).isSome=Á
 .rw[Xo q,Xo q];exact r.GY k a
 .rw[Xl q,Xl q];exact ŗ r #[rfl,c,a]
def KB.keeps{YP:List ((Int×Bool)×V)}{xs:List ((Int×Bool)×Ç×Ä)}(r:KB H YP xs)(a:∀b ys,H b=À (.tup ys)->H' b=À (.tup ys)):KB H' YP xs :=
 Paired.FC r λ_ _ z=>#[z.1,a _ _ z.2.1,z.2.2]
section
variable{P:Ñ}{w:Û}{H:Hp}{h:â}{a:Ç}
def BK{u:HO}(ok:lL P w H h)(e:Rd H a u):b8 P w H h a u:=e.ok ok
def Lq{YP:List (Key×V)}(ok:lL P w H h)(e:Rd H a (.dK YP)):YP.length<=sizeLine/\(a==ù)=Â/\∃vs,KV YP vs/\h.DictOf (dP P w) a vs :=
 show b8 P w H h a (.dK YP) from BK ok e
def Pw{YP:List (Key×V)}(ok:lL P w H h)(e:H a=À (.dK YP)):YP.length<=sizeLine/\(a==ù)=Â/\∃vs,KV YP vs/\h.DictOf (dP P w) a vs:=Lq ok (.inl e)
def Bb{ks:List Key}(ok:lL P w H h)(e:H a=À (.tup (ks.map kV))):(Ŏ (dP P w)).is h ks a:=by
 obtain⟨_,XV,r,o,h1,h2,n,b⟩:=(show b8 P w H h a (.tup (ks.map kV)) from ok a _ e);exact#[o,XV.toArray,n,h1,h2,b,by simpa using uX r]
def Lj(ok:lL P w H h)(e:Rd H a (.dT YP)):YP.length<=sizeLine/\(a==ù)=Â /\
  ∃xs,KT H YP xs/\h.DictOfH (Ŏ (dP P w)) a xs:=by
 obtain⟨z,y,xs,r,o,es,ep,h1,h2,g,d,i⟩:=(show b8 P w H h a (.dT YP) from BK ok e);refine#[z,y,xs,r,o,es,ep,h1,h2,g,d,λx b=>?_,i]
 have all:∀{l:List (List Key×V)} {m:List (List Key×Ç×Ä)},KT H l m->∀x∈m,(Ŏ (dP P w)).is h x.1 x.2.1:=by
  intro l m q
  induction q with
  |nil=>intro x b;exact nomatch b
  |@cons p q ps j c t f =>
   intro x b;rcases Xm.mp b with e|b
   .subst e;exact Bb ok (by rw[<-c.1];exact c.2.1)
   .exact f x b
 exact all r x b
def Qr(ok:lL P w H h)(e:H a=À (.dT YP)):YP.length<=sizeLine/\(a==ù)=Â /\
  ∃xs,KT H YP xs/\h.DictOfH (Ŏ (dP P w)) a xs:=Lj ok (.inl e)
def qR{ks:Int×Bool}(ok:lL P w H h)(e:H a=À (.tup (kB ks))):(gZ P w).is h ks a:=by
 obtain⟨_,XV,r,o,h1,h2,n,b⟩:=(show b8 P w H h a (.tup (kB ks)) from ok a _ e);exact#[o,XV.toArray,n,h1,h2,b,by simpa using Ac r]
def Kr{YP:List ((Int×Bool)×V)}(ok:lL P w H h)(e:Rd H a (.dB YP)):YP.length<=sizeLine/\(a==ù)=Â /\
  ∃xs,KB H YP xs/\h.DictOfH (gZ P w) a xs:=by
 obtain⟨z,y,xs,r,o,es,ep,h1,h2,g,d,i⟩:=(show b8 P w H h a (.dB YP) from BK ok e);refine#[z,y,xs,r,o,es,ep,h1,h2,g,d,λx b=>?_,i]
 have all:∀{l:List ((Int×Bool)×V)} {m:List ((Int×Bool)×Ç×Ä)},KB H l m->∀x∈m,(gZ P w).is h x.1 x.2.1:=by
  intro l m q
  induction q with
  |nil=>intro x b;exact nomatch b
  |@cons p q ps j c t f =>
   intro x b;rcases Xm.mp b with e|b
   .subst e;exact qR ok (by rw[<-c.1];exact c.2.1)
   .exact f x b
 exact all r x b
def K6{YP:List ((Int×Bool)×V)}(ok:lL P w H h)(e:H a=À (.dB YP)):YP.length<=sizeLine/\(a==ù)=Â /\
  ∃xs,KB H YP xs/\h.DictOfH (gZ P w) a xs:=Kr ok (.inl e)
end
def Qk(H:Hp)(a:Ç)(y:V)(r:Option V):Prop :=
 (∃YP k,Rd H a (.dK YP)/\y=kV k/\r=ly YP k)\/(∃YP k b,Rd H a (.dT YP)/\y=.ref b/\H b=À (.tup (k.map kV))/\r=ly YP k) \/
 ∃YP k b,Rd H a (.dB YP)/\y=.ref b/\H b=À (.tup (kB k))/\r=ly YP k
def My(H:Hp)(a:Ç)(y v:V)(H':Hp):Prop :=
 (∃YP k,H a=À (.dK YP)/\y=kV k/\YP.length<sizeLine/\H'=upd H a (.dK (putK YP k v))) \/
 (∃YP k b,H a=À (.dT YP)/\y=.ref b/\H b=À (.tup (k.map kV))/\YP.length<sizeLine/\H'=upd H a (.dT (putK YP k v))) \/
 ∃YP k b,H a=À (.dB YP)/\y=.ref b/\H b=À (.tup (kB k))/\YP.length<sizeLine/\H'=upd H a (.dB (putK YP k v))
section
variable{X:Cx}{Z2:List (Ç×ü)}{Y:St}{H:Hp}{s:Æ}{a:Ç}{y v:V}{u r:Ä}{o:Option V}{A:ä}{E:Ä->Æ->Prop}
def Inv.big(I:Inv X Z2 Y H s):ù<s.heap.objs.size:=by
 have h:Í<s.heap.objs.size:=(I.mod.glob.keeps I.bk).lt;exact acA .a h
def JR{Q:Ä->Æ->Prop}(m:A.units+1<ğ)(I:Inv X Z2 Y H s)(g:Qk H a y o)(i:RelV y u)(h:∀s',Inv X Z2 Y H s'->Q (.bool (!o.isSome)) s'):
  Î .F A (æ .NotIn u (.ref a)) Q E s:=by
 rcases g with⟨YP,k,e,d,l⟩|⟨YP,k,b,e,d,j,l⟩|⟨YP,k,b,e,d,j,l⟩
 .subst d;obtain⟨z,f,vs,rel,c⟩:=Lq I.hok e;refine wpAny_notIn_of (EM i) f c.mapOf ?_;rw[<-(rel.val k).i8,<-l];exact h _ (I.tok _)
 .subst d;cases (show u=ÿ b from i);obtain⟨z,f,xs,rel,c⟩:=Lj I.hok e;refine wpAny_notIn_heap (Ϫ m) (Bb I.hok j) f c ?_;have q:=(rel.val k).i8;rw[aaP] at q;rw[<-q,<-l];exact h _ (I.tok _)
 .subst d;cases (show u=ÿ b from i);obtain⟨z,f,xs,rel,c⟩:=Kr I.hok e;refine wpAny_notIn_heap (lG m) (qR I.hok j) f c ?_;have q:=(rel.val k).i8;rw[aaP] at q;rw[<-q,<-l];exact h _ (I.tok _)
def rF{h':â}{t':Nat}{ob:HO}(I:Inv X Z2 Y H s)(f:PY (H a))(d:Đ a s.heap h')(he:∃q,h'.get? a=À q)(new:b8 X.prog X.w (upd H a ob) h' a ob):
  Inv X Z2 Y (upd H a ob) {s with heap:=h',toks:=t'} :=
 I.write (x:=a) (e:=a) f (.inl rfl) (λb q c z=>(d.2 b c).trans z) he new
def NI{h':â}{YP:List (Key×V)}{vs:List (Key×Ä)}(z:YP.length<=sizeLine)(c:(a==ù)=Â)(rel:KV YP vs)(b:h'.DictOf (dP P w) a vs):
  b8 P w H' h' a (.dK YP):=#[z,c,vs,rel,b]
def DS{Q:Unit->Æ->Prop}(G:A.units+1<ğ)(I:Inv X Z2 Y H s)(g:My H a y v H')(B:RelV y u)(F:RelV v r)(h:∀s',Inv X Z2 Y H' s'->Q () s'):
  Î .F A (setItem (.ref a) u r) Q E s:=by
 rcases g with⟨YP,k,e,m,l,n⟩|⟨YP,k,b,e,m,j,l,n⟩|⟨YP,k,b,e,m,j,l,n⟩
 .subst m n;obtain⟨z,t,vs,rel,i⟩:=Pw I.hok e;have hz:vs.length<=sizeLine:=by rw[<-rel.length];exact z
  have o:(putK YP k v).length<=sizeLine:=by have:=ke YP k v;lia
  refine wpAny_setItem_pairs (hsz:=hz) (EM B) i λh' d p=>h _ ?_;have he:∃q,h'.get? a=À q:=let #[q,_,_,f,_]:=d;#[q,f];exact rF I (by rw[e];exact É) p he (NI o t (rel.put k F) d)
 .subst m n;cases (show u=ÿ b from B);obtain⟨z,t,xs,rel,i⟩:=Qr I.hok e;have hz:xs.length<=sizeLine:=by rw[<-aaB rel];exact z
  have o:(putK YP k v).length<=sizeLine:=by have:=ke YP k v;lia
  refine ϥ (hsz:=hz) (Ϫ G) (Bb I.hok j) i λh' d p=>h _ ?_;obtain⟨q,es,ep,f,h2,C,x,_,D⟩:=d;refine rF I (by rw[e];exact É) p #[q,f] #[o,t,_,(rel.put k j F).keeps λc ys ec=>?_,q,es,ep,f,h2,C,x,D];rw[aC (GG ec e (λz=>nomatch z))];exact ec
 .subst m n;cases (show u=ÿ b from B);obtain⟨z,t,xs,rel,i⟩:=K6 I.hok e;have hz:xs.length<=sizeLine:=by rw[<-aaB rel];exact z
  have o:(putK YP k v).length<=sizeLine:=by have:=ke YP k v;lia
  refine ϥ (hsz:=hz) (lG G) (qR I.hok j) i λh' d p=>h _ ?_;obtain⟨q,es,ep,f,h2,C,x,_,D⟩:=d;refine rF I (by rw[e];exact É) p #[q,f] #[o,t,_,(rel.put k j F).keeps λc ys ec=>?_,q,es,ep,f,h2,C,x,D];rw[aC (GG ec e (λz=>nomatch z))];exact ec
variable{YP:List (Key×V)}{k:Key}
end
def Pf(td ty tv:TE):TS:=λD Y H=>tv Y H λv H1=>td Y H1 λx H2=>ty Y H2 λy c=>∃a b,x=.ref a/\My c a y v b/\D.nx Y b
section
variable{X:Cx}{o i e value:Õ}{pos pos' tpos:ò}{td ty tv:TE}
def Jp(B:X.A.units+1<ğ)(e:PE X o td)(hi:PE X i ty)(n:PE X value tv)(z:Ā value (À (.Subscript o i pos')) pos.line X.env=pure Â):
  PS X (.Assign [.Subscript o i pos'] value pos) (Pf td ty tv):=by
 intro Z2 s Y H D I h;refine wpAny_Assign_Subscript (cy (n Z2 s Y H _ I h) λr k ⟨v,H1,q,w,q1⟩=>cy (e Z2 k Y H1 _ q q1) λu p ⟨x,H2,t,l,f⟩=>cy (hi Z2 p Y H2 _ t f) λG F ⟨y,C,j,c,a,m,ex,g,b⟩=>?_) z;subst ex;obtain rfl:u=ÿ a:=l;exact DS B j g c w λE d=>#[Y,m,d,b]
end
def ye(h:â)(a:ù<h.objs.size):b8 P w H (h.push {cls:=.type "dict",data:=.dict #[]}) h.objs.size (.dB []) :=
 #[Yr _,abL.mpr (Z5 (X5 a)),[],.nil,_,#[],0,XN _ rfl,#[rfl,rfl,rfl],rfl,rfl,aat]
def LP:TE:=λ_ H Q=>∀p,H p=none->Q (.ref p) (upd H p (.dB []))
section
variable{X:Cx}{pos:ò}
def He:PE X (.Dict [] [] pos) LP:=λZ2 s Y H Q I h =>
 wpAny_Dict_empty #[V.ref s.heap.objs.size,_,I.laid (a:=s.heap.objs.size) (o:=.dB []) (t':=s.toks) (λ_ _ q=>Xw _ q) (Xu _) (ye s.heap I.big),rfl,h _ (I.hok.fresh (Xu _))]
variable{Z2:List (Ç×ü)}{Y:St}{H:Hp}{s:Æ}{a:Ç}{y d:V}{u r:Ä}{o:Option V}{A:ä}{E:Ä->Æ->Prop}
end
section
variable{X:Cx}{o e f:Õ}{apos cpos:ò}{td ty tx:TE}
variable{Z2:List (Ç×ü)}{Y:St}{H:Hp}{s:Æ}{a:Ç}{YP:List (Key×V)}{A:ä}{E:Ä->Æ->Prop}
variable{y:V}{u:Ä}
end
end L2
namespace L2.EP
open PySem PySem.Spec PyProof.Rows
section
variable{X:Cx}{U:aK}{D:GD}{M β γ:Type}[Py M][Py β][Py γ]{e e1 e2 ek:Õ}{b b1 b2:Bool}{pos:ò}{rest st:List Ò}
def Iw(e:X.A.units+1<ğ):ku X (æ .NotIn) (λx y H Q=>∃a o,y=.ref a/\Qk H a x o/\Q (.bl (!o.isSome)) H):=by
 intro Z2 s Y H x y v u Q I d b h;obtain⟨a,o,rfl,g,q⟩:=h;cases b;exact JR e I g d λs' c=>#[.bl _,H,c,rfl,q]
def zi(i j:Nat){x y:Ð}{a p2 h:ò}{k:Nat}(d:X.N.Nodup)(p:autoParam (X.calm=Á) zra)(hi:autoParam (X.N[i]?=À x) zra)(m:autoParam (X.N[j]?=À y) zra)
  (n:Loc X.env.scope x:=by first|exact Ă rfl|exact ñ rfl) (g:Loc X.env.scope y:=by first|exact Ă rfl|exact ñ rfl)
  (e:X.fn x=Á\/X.env.scope.names.lookup x=À .local:=by first|exact .inl rfl|exact .inr rfl) (c:X.fn y=Á\/X.env.scope.names.lookup y=À .local:=by first|exact .inl rfl|exact .inr rfl)
  (q:(ú [.Name x a,.Name y p2] X.env).length=2:=by rfl)
  (l:(ú [.Name x a,.Name y p2] X.env).findIdx? (·.1)=none:=by rfl) (o:ú [.Name x a,.Name y p2] X.env=(Â,Ģ (.Name x a) X.env)::ú [.Name y p2] X.env:=by rfl) (f:ú [.Name y p2] X.env=(Â,Ģ (.Name y p2) X.env)::ú [] X.env:=by rfl):
  G X (.Tuple [.Name x a,.Name y p2] k h) (JP X.K 2 (rR (kN i) (rR (kN j) Jb))) (M×β) (λb u U=>(U.set i (À (.val b u.1))).set j (À (.val b u.2))) (λk=>k=i\/k=j):=by stop exact#[Gf p (mP (mJ d hi n e) (mP (mJ d m g c) B7)),xw i j]
end
variable{x:Ð}
def Bd.wk:Bd->Bd
 |@Bd.val _ _ _ a=>.val Â a
 |@Bd.own _ _ _ as=>.own Â as
 |@Bd.dpo _ _ a=>.dpo a
noncomputable def Ol(U:aK):aK:=U.map (Š Bd.wk)
def BZ{U:aK}{i:Nat}{g:Bd}(h:(Ol U)[i]?=À (À g)):∃a,U[i]?=À (À a)/\g=a.wk:=by
 unfold Ol at h;rw[XI] at h;cases e:U[i]? with
 |none=>rw[e] at h;cases h
 |some o =>
  cases o with
  |none=>rw[e] at h;cases h
  |some a=>rw[e] at h;cases h;exact#[a,rfl,rfl]
section
variable{K:Ã}{H0 H H':Hp}{F O:Ç->Prop}{U:aK}{Y:St}{a:Ç}{u:HO}{YP:List (Key×V)}{o:ü}
def off_ne{H H':Hp}(ne:∀b,b≠a->H' b=H b):∀b,b≠a->off H' O b=off H O b:=λb c=>by
 by_cases h:O b
 .rw[mW h,mW h]
 .rw[aU h,aU h,ne b c]
variable{X:Cx}{D:GD}{M β γ:Type}[Py M][Py β][Py γ]{e e1 e2 tg:Õ}{b b1 b2:Bool}{pos:ò}{rest body:List Ò}
variable{e3:Õ}{b3:Bool}{st:List Ò}
def MU{xs:List M}{i:Int}{a:M}(ha:E X U e1 b (zU.mk xs))(n:E X U e2 b2 i)(h:zd xs i=À a)(u:rk e2:=by intro _ _;rfl):E X U (.Subscript e1 e2 pos) b a:=by
 stop
  exact aP (yL Ah ha n u) λY H Q ⟨H0,F,O,S,q⟩=>#[H0,F,O,S,λv H1 d o=>#[H0,F,O,S.go d,λw H2 c s=>by
    obtain⟨p,vs,e,y,r⟩:=o;obtain⟨j,h1,h2,A,z,B⟩:=nY h;obtain⟨x,l,m⟩:=gQ r h2;refine#[p,vs,i,x,e,s,(cY (av _ _) (cY (ah c) y)).t,?_,q x H2 (d.trans c) (ay (ah c) m)];unfold zd at h ⊢;rw[bG r];cases f:D1 xs.length i with
    |none=>rw[f] at h;cases h
    |some k =>
     have g:=(mZ f).1;rw[h1] at g;cases g
     exact l]]
end
noncomputable instance:PyD (Int⊕(Int×Int)) where
 dat a:=match a with|.inl i=>.int i|.inr u=>.tuple [.int u.1,.int u.2]
 dr {K N H v a} h:=by
  cases a with
  |inl i=>exact PyD.dr (M:=Int) (N:=N) h
  |inr u=>exact PyD.dr (M:=Int×Int) (N:=N) h
 lay a:=by
  cases a with
  |inl i=>exact PyD.lay (M:=Int) i
  |inr u=>exact PyD.lay (M:=Int×Int) u
 dep:=PyD.dep (Int×Int)
 depth a:=by
  cases a with
  |inl i=>exact Ye (PyD.depth (M:=Int) i) (Yr _)
  |inr u=>exact PyD.depth (M:=Int×Int) u
 eqv a b:=by
  cases a with
  |inl i=>cases b with
   |inl j=>exact(PyD.eqv (M:=Int) i j).trans #[λh=>by rw[h],λh=>by injection h]
   |inr u=>simp[ç]
  |inr v=>cases b with
   |inl j=>simp[ç]
   |inr u=>exact(PyD.eqv (M:=Int×Int) v u).trans #[λh=>by rw[h],λh=>by injection h]
section
variable{X:Cx}{U:aK}{D:GD}{M β γ:Type}[Py M][Py β][Py γ]{e e1 e2 ek:Õ}{b b1 b2:Bool}{pos:ò}{rest st:List Ò}
def Ad(i:Nat){as:List M}{a:M}{k:Int}{p c:ò}(s:U[i]?=À (À (.own b as)))(P:E X U ek b2 k)(he:E X U e b a)(L:0<=k)(Γ:k<as.length)(h:S X (U.set i (À (.own b (as.set k.toNat a)))) rest D)(hi:autoParam (X.N[i]?=À x) zra)
  (K:Iy X.env.scope x:=by first|exact Ă rfl|exact ñ (Ă rfl)|exact ñ (ñ rfl)) (hd:(x==("__debug__":Ð))=Â:=by decide) (j:(x==("__classdict__":Ð))=Â:=by decide)
  (ha:∀v,Ģ (.Subscript (.Name x p) ek c) X.env v=(do
   let f <-Ĭ [v] (Ý (.Name x p) X.env);let r <-Ĭ [v,f] (Ý ek X.env)
   standAt c
   Ĭ [v,f,r] (setItem f r v)
   release [v,f,r] []):=by intro _;rfl)
  (W:swapsWithSole [.Subscript (.Name x p) ek c] e pos.line X.env=pure Â:=by rfl) (J:swappedStores [.Subscript (.Name x p) ek c] e X.env=pure none:=by rfl)
  (h1:(ú [.Subscript (.Name x p) ek c] X.env).map (·.2)=[Ģ (.Subscript (.Name x p) ek c) X.env]:=by rfl):S X U (.Assign [.Subscript (.Name x p) ek c] e pos::rest) D:=by
 stop
  exact eP (eQ (M5 he (NU (pv i hi K hd j) P set_list ha) W J h1) λDe Y H ⟨H0,F,O,Z,n,_⟩=>#[H0,F,O,Z,λu H1 g I=>by
    obtain⟨v,A,d,_,_,_⟩:=(Z.go g).write s É;refine#[v,d,H0,F,O,Z.go g,λy H3 m w=>?_];obtain⟨σ,A,DL,⟨q,ys,e1,o,z,t⟩,α,wr⟩:=(Z.go (g.trans m)).write s É;rw[d] at DL;have ev:v=σ:=XJ (XJ DL);subst ev;have C:y=V.int k:=w;subst C;have T:k<ys.length:=by rw[bG t];exact Γ
    have l:D1 ys.length k=À k.toNat:=by
     unfold D1;rw[Xo L,Xo .b]
    refine#[q,ys,k,k.toNat,e1,rfl,z,l,?_]
    obtain⟨B,Q⟩:=wr q (ys.set k.toNat u) (À (.own b (as.set k.toNat a))) o λG R=>by
     cases R;refine#[É,q,_,e1,o,aQ,?_];rw[rO (α q o).1];exact Et (ay (ah m) I) k.toNat t
    exact n _ _ _ _ (by rw[Q];exact ah (g.trans m)) B h])
variable{δ:Type}[Py δ]{e3:Õ}{b3:Bool}{p:ò}{k:Nat}{name:Ð}{ps:List Ð}
def Pu{a:M}(h:EN X U e a):E X U e Á a:=by stop exact aP h λY H Q ⟨H0,F,O,Z,q⟩=>#[H0,F,O,Z,λv H1 b c=>q v H1 b (mU Z.same c)]
def Lu(o:Nat){as:List M}{i:Int}{a:M}{p:ò}(f:U[o]?=À (À (.own b as)))(d:E X U e2 b2 i)(h:zd as i=À a)(hi:autoParam (X.N[o]?=À x) zra)
  (u:Iy X.env.scope x:=by first|exact Ă rfl|exact ñ (Ă rfl)|exact ñ (ñ rfl)) (C:(x==("__debug__":Ð))=Â:=by decide) (e:(x==("__classdict__":Ð))=Â:=by decide)
  (A:rk e2:=by intro _ _;rfl):E X U (.Subscript (.Name x p) e2 pos) b a:=by
 stop
  exact aP (yL B3 (pv o hi u C e) d A) λY H Q ⟨H0,F,O,Z,q⟩=>by
   obtain⟨v,r,c,_,_,_⟩:=Z.write f É;refine#[v,c,H0,F,O,Z,λw H2 l z=>?_];obtain⟨B,r,DL,⟨q',ys,e1,J,n,m⟩,_,_⟩:=(Z.go l).write f É;rw[c] at DL;have ev:v=B:=XJ (XJ DL);subst ev;obtain⟨j,h1,h2,G,D,I⟩:=nY h;obtain⟨y,s,t⟩:=gQ m h2;refine#[q',ys,i,y,e1,z,dX.of n,?_,q y H2 l t];unfold zd at h ⊢;rw[bG m];cases g:D1 as.length i with
   |none=>rw[g] at h;cases h
   |some k =>
    have d:=(mZ g).1;rw[h1] at d;cases d;exact s
end
section
variable{X:Cx}{U:aK}{D:GD}{M β γ:Type}[Py M][Py β][Py γ]{elt target iter c:Õ}{b b' b1:Bool}{pos:ò}{ZB:Ĉ}{tn:List Ð}{js:List Nat}{g:TG}{tc:Nat->Prop}{put:Bool->M->aK->aK}{as:List M}{f:M->β}{p:M->Bool}{ifs:List Õ}
variable{α:Model}{A:ä}{E:Ä->Æ->Prop}{s:Æ}{base:â}{env:Ł}{outer:List Ł}{L C e:Ç}
variable{Z2:List (Ç×ü)}{Y:St}{H H':Hp}{h':â}
end
section
variable{X:Cx}{Z2:List (Ç×ü)}{Y:St}{H:Hp}{s s':Æ}{E:XK}
variable{R:RB}{U:aK}{D:GD}{M β γ:Type}[Py M][Py β][Py γ]{e e1 e2 e3:Õ}{b b1 b2 b3:Bool}{p pos np cpos cps:ò}{st:Ò}{rest body orelse:List Ò}{C:Ç}{cn:Ð}
variable{es:List Õ}{f:Ç}{x name:Ð}{k:Nat}{ps:List Ð}{fd:ð}{t:TA}{sp:Sp}
variable{P:Ñ}{w:Û}{K:Ã}{mg:Ð->Option Ä}{base:â}{N:List Ð}{qual:Ð}
end
mutual
inductive DN(K:Ã)(N:Nn)(H:Hp):V->þ->Prop
 |non:DN K N H .non .none
 |bl (b:Bool):DN K N H (.bl b) (.bool b)
 |int (i:Int):DN K N H (.int i) (.int i)
 |str (x:Ð):DN K N H (.str x) (.str x)
 |lst {a:Ç} {xs:List V} {ds:List þ}:dX K H a xs->N.has H a (.inl xs)->zy K N H xs ds->DN K N H (.ref a) (.list ds)
 |tup {a:Ç} {xs:List V} {ds:List þ}:Rt H a xs->zy K N H xs ds->DN K N H (.ref a) (.tuple ds)
inductive zy(K:Ã)(N:Nn)(H:Hp):List V->List þ->Prop
 |nil:zy K N H [] []
 |cons {x:V} {xs:List V} {d:þ} {ds:List þ}:DN K N H x d->zy K N H xs ds->zy K N H (x::xs) (d::ds)
end
mutual
theorem DN.tr{K:Ã}{N N':Nn}{H H':Hp}(l:∀p (o:Mt),Mo K H p o->N.has H p o->Mo K H' p o/\N'.has H' p o)(t:∀p xs,Rt H p xs->Rt H' p xs):∀{v:V} {d:þ},DN K N H v d->DN K N' H' v d
 |_,_,.non=>.non
 |_,_,.bl b=>.bl b
 |_,_,.int i=>.int i
 |_,_,.str x=>.str x
 |_,_,.lst (xs:=xs) s n r=>.lst (l _ (.inl xs) s n).1 (l _ (.inl xs) s n).2 (zy.tr l t r)
 |_,_,.tup s r=>.tup (t _ _ s) (zy.tr l t r)
theorem zy.tr{K:Ã}{N N':Nn}{H H':Hp}(l:∀p (o:Mt),Mo K H p o->N.has H p o->Mo K H' p o/\N'.has H' p o)(t:∀p xs,Rt H p xs->Rt H' p xs):∀{v:List V} {d:List þ},zy K N H v d->zy K N' H' v d
 |_,_,.nil=>.nil
 |_,_,.cons h r=>.cons (DN.tr l t h) (zy.tr l t r)
end
mutual
theorem DN.dr{K:Ã}{N:Nn}{H:Hp}:∀{v:V} {d:þ},DN K N H v d->DR K H v d
 |_,_,.non=>.non
 |_,_,.bl b=>.bl b
 |_,_,.int i=>.int i
 |_,_,.str x=>.str x
 |_,_,.lst s _ r=>.lst s (zy.dr r)
 |_,_,.tup s r=>.tup (K_.t (.inl s)) (zy.dr r)
theorem zy.dr{K:Ã}{N:Nn}{H:Hp}:∀{v:List V} {d:List þ},zy K N H v d->DJ K H v d
 |_,_,.nil=>.nil
 |_,_,.cons h r=>.cons (DN.dr h) (zy.dr r)
end
section
variable{X:Cx}{U:aK}{M β:Type}[Py M][Py β]{e e1 e2:Õ}{b b1 b2:Bool}{p p2 pos:ò}
def rA[PyT M]{xs:List M}{k:Int}(ha:E X U e1 b xs)(j:E X U e2 b2 k)(x:0<=k):E X U (.Subscript e1 (.Slice (À e2) none none p2) pos) Á (xs.drop k.toNat):=by
 stop
  exact aP (m_ vz ha (qV j) rB) λY H Q ⟨H0,F,O,S,q⟩=>#[H0,F,O,S,λv H1 c o=>#[H0,F,O,S.go c,λw H2 a s=>by
    obtain⟨p,vs,e,u,n,r⟩:=o;refine#[k,s,p,vs,e,(av _ _).seq ((ah a).seq u),λl h=>?_];obtain⟨g,i⟩:=cJ (xs:=jV vs (À k) none) ((S.go c).go a) h;refine q _ _ (c.trans (a.trans g)) #[l,_,rfl,dX.of i,Nf.wk (b:=Á) (((S.go c).go a).iD h) i,?_]
    have ec:jV vs (À k) none=vs.drop k.toNat:=by
     unfold jV;have m:k=((k.toNat:Nat):Int):=by lia
     rw[m,HT.qO,HT.nD];simp only[Ö];by_cases d:k.toNat<=vs.length
     .rw[acP d,ZH (by rw[Z7];exact Xu _)]
     .rw[acz .b,aaM (Xu _),aaM .b];simp
    have f:=bN (λ_ _ z=>PyT.free (N':=Nf H0 Á) (λ_ _ t=>aG.rt ((ah a).trans (ah g)) t) z) (vM k.toNat r);rw[<-ec] at f
    exact f]]
variable{D:GD}{γ:Type}[Py γ]{rest st:List Ò}
end
@[irreducible] def EX{M:Type}[Py M](X:Cx)(U:aK)(e:Õ)(b:Bool)(post:M->Prop):Prop:=PE X e λY H Q=>∃H0 F O,dU X.K H0 F O U Y H/\∀a v H',post a->aG H H'->Py.rp X.K (Nf H0 b) (off H' O) v a->Q v H'
noncomputable def uo{M:Type}[Py M](b:Bool)(post:M->Prop):GD:={nx:=λ_=>False,rt:=λg=>∃a,post a/\g=.val b a}
def gE{M β:Type}[Py M][Py β](K:Ã)(pre:M->Prop)(b:Bool)(post:M->β->Prop):Sp:=λvs H Q _=>∃O v a,pR H O/\vs=[v]/\Py.rp K .any .G v a/\pre a/\∀z r H',post a z->aG H H'->Py.rp K (Nf H b) (off H' O) r z->Q r H'
def tO{M β γ:Type}[Py M][Py β][Py γ](K:Ã)(pre:M->β->Prop)(b:Bool)(post:M->β->γ->Prop):Sp:=λvs H Q _=>∃O v w a c,pR H O/\vs=[v,w]/\Py.rp K .any .G v a/\Py.rp K .any .G w c/\pre a c/\∀z r H',post a c z->aG H H'->Py.rp K (Nf H b) (off H' O) r z->Q r H'
def C4{M β γ δ:Type}[Py M][Py β][Py γ][Py δ](K:Ã)(pre:M->β->γ->Prop)(b:Bool)(post:M->β->γ->δ->Prop):Sp:=λvs H Q _=>∃O v w x a c d,pR H O/\vs=[v,w,x]/\Py.rp K .any .G v a/\Py.rp K .any .G w c/\Py.rp K .any .G x d/\pre a c d/\∀z r H',post a c d z->aG H H'->Py.rp K (Nf H b) (off H' O) r z->Q r H'
section
variable{X:Cx}{U:aK}{D:GD}{M β γ δ:Type}[Py M][Py β][Py γ][Py δ]{e e1 e2 e3:Õ}{b b1 b2 b3:Bool}{p pos:ò}{rest:List Ò}{k:Nat}{name:Ð}{ps:List Ð}
def c_{pre:M->Prop}{post:M->β->Prop}{a:M}(C:aJ X.prog X.w X.K X.mg X.base k name ps (gE X.K pre b post))(j:dZ k X.A)(f:Gl X name)(h1:E X U e1 b1 a)(hp:pre a)
  (c:Å [e1] X.env=(Â,Ý e1 X.env)::Å [] X.env:=by rfl) (e:(name==("__debug__":Ð))=Â:=by decide) (hpl:(ì pos (Å [] X.env)).any (·.1)=Â:=by rfl):
  EX X U (.Call (.Name name p) [e1] [] pos) b (post a):=by
 stop
  obtain⟨l,fd,F,B,kp,m⟩:=C.ex
  exact aP (gN F j f m kp B .nil lE (aD h1 bq c) e c hpl) λY H Q ⟨H0,F,O,S,q⟩=>#[H0,F,O,S,λg H1 d i =>
   #[O,g,a,(S.go d).own,rfl,bA bJ i,hp,λz r H' hz s' h=>q z r H' hz (d.trans s') ((S.go d).back h)]]
def iY{pre:M->β->Prop}{post:M->β->γ->Prop}{a:M}{c:β}(C:aJ X.prog X.w X.K X.mg X.base k name ps (tO X.K pre b post))(t:dZ k X.A)(i:Gl X name)(h1:E X U e1 b1 a)(h2:E X U e2 b2 c)(hp:pre a c)
  (d:Å [e1,e2] X.env=(Â,Ý e1 X.env)::Å [e2] X.env:=by rfl) (g:Å [e2] X.env=(Â,Ý e2 X.env)::Å [] X.env:=by rfl) (h:(name==("__debug__":Ð))=Â:=by decide) (hpl:(ì pos (Å [e2] X.env)).any (·.1)=Â:=by rfl):
  EX X U (.Call (.Name name p) [e1,e2] [] pos) b (post a c):=by
 stop
  obtain⟨u,fd,F,B,kp,m⟩:=C.ex
  exact aP (gN F t i m kp B .nil lE (aD h1 (aD h2 bq g) d) h d hpl) λY H Q ⟨H0,F,O,S,q⟩=>#[H0,F,O,S,λl H1 e o=>#[H0,F,O,S.go e,λj H2 f s =>
   #[O,l,j,a,c,(S.go (e.trans f)).own,rfl,bA bJ (ay (ah f) o),bA bJ s,hp,λz r H' hz s' n=>q z r H' hz (e.trans (f.trans s')) ((S.go (e.trans f)).back n)]]]
def xS{pre:M->β->γ->Prop}{post:M->β->γ->δ->Prop}{a:M}{c:β}{d:γ}(C:aJ X.prog X.w X.K X.mg X.base k name ps (C4 X.K pre b post))(y:dZ k X.A)(n:Gl X name)(h1:E X U e1 b1 a)(h2:E X U e2 b2 c)(s:E X U e3 b3 d)(hp:pre a c d)
  (h:Å [e1,e2,e3] X.env=(Â,Ý e1 X.env)::Å [e2,e3] X.env:=by rfl) (j:Å [e2,e3] X.env=(Â,Ý e2 X.env)::Å [e3] X.env:=by rfl) (i:Å [e3] X.env=(Â,Ý e3 X.env)::Å [] X.env:=by rfl)
  (l:(name==("__debug__":Ð))=Â:=by decide) (hpl:(ì pos (Å [e2,e3] X.env)).any (·.1)=Â:=by rfl):
  EX X U (.Call (.Name name p) [e1,e2,e3] [] pos) b (post a c d):=by
 stop
  obtain⟨I,fd,F,B,kp,m⟩:=C.ex
  exact aP (gN F y n m kp B .nil lE (aD h1 (aD h2 (aD s bq i) j) h) l h hpl) λY H Q ⟨H0,F,O,S,q⟩=>#[H0,F,O,S,λt H1 e v=>#[H0,F,O,S.go e,λo H2 g x=>#[H0,F,O,S.go (e.trans g),λG J f D =>
   #[O,t,o,G,a,c,d,(S.go (e.trans (g.trans f))).own,rfl,bA bJ (ay ((ah g).trans (ah f)) v),bA bJ (ay (ah f) x),bA bJ D,hp,λz r H' hz s' u=>q z r H' hz (e.trans (g.trans (f.trans s'))) ((S.go (e.trans (g.trans f))).back u)]]]]
def fh(i:Nat){post:M->Prop}{p:ò}(f:X.N.Nodup)(he:EX X U e b post)(h:∀a,post a->S X (U.set i (À (.val b a))) rest D)(hi:autoParam (X.N[i]?=À x) zra)(j:Loc X.env.scope x:=by first|exact Ă rfl|exact ñ rfl)
  (k:Ā e (À (.Name x p)) pos.line X.env=pure Â:=by rfl) (d:X.fn x=Á\/X.env.scope.names.lookup x=À .local:=by first|exact .inl rfl|exact .inr rfl):S X U (.Assign [.Name x p] e pos::rest) D:=by stop exact eP (eQ (vH f hi j he k d) λl Y H ⟨H0,F,O,Z,n,_⟩=>#[H0,F,O,Z,λa v H1 hz c g=>n _ _ H1 O (ah c) ((Z.go c).set g) (h a hz)])
variable{P:Ñ}{w:Û}{K:Ã}{mg:Ð->Option Ä}{base:â}{N:List Ð}{x qual:Ð}{st:Ò}{f:Ç}{fd:ð}
def k8{gs:List Bd}{vs:List V}{H:Hp}{O:Ç->Prop}{M:Type}[Py M]{b:Bool}{post:M->Prop}{Q:VK}{c:Ä}{A:ä}{outer:List Ł}{s:Æ}{E:XK}(B:⇑Body N qual st f k gs (uo b post))(j:dZ k (A.deeper (ġ qual (ag st) s.heap.objs.size f c)))
  (d:pR H O) (h:Args K .G vs gs) (q:∀a r H',post a->aG H H'->Py.rp K (Nf H b) (off H' O) r a->Q r H'):
  ∃t,rh (uh pN P w K mg base N qual (ag st) f c A outer s H E).KO (cb st) t/\t {nx:=λ_ H'=>Q .non H',rt:=Q} (start N vs) H:=by stop refine#[_,B c A outer s H E j,H,O,O,oK d h,λ_ _ _ _ _ _ z=>z.elim,λg v H' sm z e=>?_,λ_ _ _ _ _ _ z=>z.elim,λ_ _ _ _ _ _ z=>z.elim];obtain⟨a,ha,i⟩:=e;subst i;exact q a v H' ha sm z
def rZ{M β:Type}[Py M][Py β]{pre:M->Prop}{b:Bool}{post:M->β->Prop}(F:t6 K x qual st f fd)(d:ao N ps (ag st))(g:ps.length=1)(B:∀a,pre a->⇑Body N qual st f k [.val Â a] (uo b (post a))):
  fR P w K mg base pN (k+1) f fd ps (gE K pre b post):=by
 stop
  refine F.ok d (λvs H Q E h=>?_) λc A outer s H vs Q E i h=>?_
  .obtain⟨O,v,a,_,rfl,_⟩:=h;rw[g];rfl
  .obtain⟨O,v,a,e,rfl,r,hp,q⟩:=h;exact k8 (B a hp) i e (.cons r .nil) q
def J7{M β γ:Type}[Py M][Py β][Py γ]{pre:M->β->Prop}{b:Bool}{post:M->β->γ->Prop}(F:t6 K x qual st f fd)(i:ao N ps (ag st))(l:ps.length=2)(B:∀a c,pre a c->⇑Body N qual st f k [.val Â a,.val Â c] (uo b (post a c))):
  fR P w K mg base pN (k+1) f fd ps (tO K pre b post):=by
 stop
  refine F.ok i (λvs H Q E h=>?_) λg A outer s H vs Q E m h=>?_
  .obtain⟨O,v,e,a,c,_,rfl,_⟩:=h;rw[l];rfl
  .obtain⟨O,v,e,a,c,d,rfl,r,j,hp,q⟩:=h;exact k8 (B a c hp) m d (.cons r (.cons j .nil)) q
def O6{M β γ δ:Type}[Py M][Py β][Py γ][Py δ]{pre:M->β->γ->Prop}{b:Bool}{post:M->β->γ->δ->Prop}(F:t6 K x qual st f fd)(j:ao N ps (ag st))(m:ps.length=3)(B:∀a c d,pre a c d->⇑Body N qual st f k [.val Â a,.val Â c,.val Â d] (uo b (post a c d))):
  fR P w K mg base pN (k+1) f fd ps (C4 K pre b post):=by
 stop
  refine F.ok j (λvs H Q E h=>?_) λi A outer s H vs Q E n h=>?_
  .obtain⟨O,v,g,p,a,c,d,_,rfl,_⟩:=h;rw[m];rfl
  .obtain⟨O,v,g,p,a,c,d,e,rfl,r,l,o,hp,q⟩:=h;exact k8 (B a c d hp) n e (.cons r (.cons l (.cons o .nil))) q
end
end L2.EP
namespace L2
open PySem PySem.Spec PyProof.Rows
section
variable{prog:Ñ}{w:Û}{A:ä}{E:Ä->Æ->Prop}{s:Æ}{d it:Ç}{o od:ü}{es:Array DictEntry}{ep i:Nat}
def ES{Q:Ä->Æ->Prop}(f:(d==ù)=Â)(b:s.heap.get? d=À o)(e:o.ExactDict)(a:o.data=.dict es ep)
  (g:Q (.ref s.heap.objs.size) {s with heap:=s.heap.push {cls:=.type "dict_keyiterator",data:=.fields (à [.ref d,.int 0 0,.int es.size 0,.int ep 0])}}):
  Î .E A (Ļ (.ref d)) Q E s:=by
 have c:s.TypeIs (.ref d) "dict":=#[o,b,e.1];refine aca c ϱ (Y1 ϱ c F.entry_dict_iter ?_ (F.args_dict_iter_1 _));unfold đ.«dict.__iter__»;refine Xk ?_;unfold Builtin.Dict.dictSlotNone;refine Xk (wpAny_notOrdered_dict c ?_);show Î _ _ (pure (ÿ d)) _ _ s;refine Xp ?_;show Î _ _ (Ŀ d >>= _) _ _ s;unfold Ŀ;rw[Xl (by rw[f];exact XO)];refine Xk (Xp (Xk (acf b a (Xk (acR b a ?_)))));refine Xk (YO (Xp #[_,rfl,"dict_keyiterator",_,#[_,XN _ rfl,rfl],Zw.lookup,?_]));simpa [ý] using g
def Gq{Q:Option Ä->Æ->Prop}(hit:s.heap.IsKeyIter it d i es.size ep)(c:s.heap.get? d=À od)(b:od.data=.dict es ep)(g:i<es.size)
  (h:∀h',h'.IsKeyIter it d (i+1) es.size ep->Đ it s.heap h'->Q (À es[i].key) {s with heap:=h'}):
  Î .E A (Ē (.ref it)) Q E s:=by
 obtain⟨o,f,j,e⟩:=id hit;unfold Ē;refine Xk (ϵ (Zc (name:=ô "__next__") hit.typeIs Zw (Y1 Zw hit.typeIs abK ?_ (abI _))));refine Xk (Xp (Xk (Xk ?_)))
 first|refine Xk (ZZ hit.typeIs (Xp (Xk (Z9 f e ?_))))|refine Xk (aax hit.typeIs (Xp (Xk (Z9 f e ?_))))
 simp only[show Ĩ "dict_keyiterator"=Â by decide,Zt,Z6];show Î _ _ (if (ÿ d==õ)=Á then _ else _) _ _ s;rw[Xl (show ¬((ÿ d==õ)=Á) from XO)];refine Xk (Xp (Xk (acf c b ?_)));rw[Xl .c];refine Xk (Xp (Xk (acR c b ?_)));rw[Xl .c];refine Xp ?_;simp only[show ¬((i:Int)<0) from by lia,Z6,Ö,Y3 g];refine Xk ?_
 first|refine Xk (ZZ hit.typeIs (Xp (Xk (abC hit.typeIs ?_))))|refine Xk (aax hit.typeIs (Xp (Xk (abC hit.typeIs ?_))))
 show Î _ _ (setField (.ref it) 1 (ý ((i:Int)+1)) >>= _) _ _ s;refine Xk (Z_ f e .c ?_);have a:(s.heap.update it (Ċ (·.setIfInBounds 1 (ý ((i:Int)+1))))).IsKeyIter it d (i+1) es.size ep:=#[_,Zp _ f (abB (aae e _)),(acb ..).trans j,by rw[aae e];simp[ý]];refine Xk (Zg (Xk (abC (s:={s with heap:=s.heap.update it (Ċ (·.setIfInBounds 1 (ý ((i:Int)+1))))}) a.typeIs ?_)));show Î _ _ (pure es[i].key) _ _ _;exact Xp (Xp #[_,rfl,Xp (h _ a (Yh ..))])
def next_end{Q:Option Ä->Æ->Prop}(j:A.handled=none)(hit:s.heap.IsKeyIter it d i es.size ep)(c:s.heap.get? d=À od)(e:od.data=.dict es ep)(f:es.size<=i)
  (k:∀h',Heap.ExtBut it s.heap h'->Q none {s with heap:=h'}):Î .E A (Ē (.ref it)) Q E s:=by
 obtain⟨o,g,l,h⟩:=id hit;unfold Ē;refine Xk (ϵ (Zc (name:=ô "__next__") hit.typeIs Zw (Y1 Zw hit.typeIs abK ?_ (abI _))));refine Xk (Xp (Xk (Xk ?_)))
 first|refine Xk (ZZ hit.typeIs (Xp (Xk (Z9 g h ?_))))|refine Xk (aax hit.typeIs (Xp (Xk (Z9 g h ?_))))
 simp only[show Ĩ "dict_keyiterator"=Â by decide,Zt,Z6];show Î _ _ (if (ÿ d==õ)=Á then _ else _) _ _ s;rw[Xl (show ¬((ÿ d==õ)=Á) from XO)];refine Xk (Xp (Xk (acf c e ?_)));rw[Xl .c];refine Xk (Xp (Xk (acR c e ?_)));rw[Xl .c];refine Xp ?_;simp only[show ¬((i:Int)<0) from by lia,Z6,Ö,abu f];refine Xk ?_
 first|refine Xk (ZZ hit.typeIs (Xp ?_))|refine Xk (aax hit.typeIs (Xp ?_))
 show Î _ _ (setField (.ref it) 0 .none >>= _) _ _ s;refine Xk (Z_ g h .c ?_);show Î _ _ (newExc (.type "StopIteration") [] >>= _) _ _ _;refine Xk ?_;simp only[newExc,newTuple];refine Xk (YO ?_ (by size_fits));refine Xk (m:=ĳ _ _) (ϊ (a:=õ) (by first|rfl|(simp only[ĳ];rfl)) (YO ?_ (by size_fits)));simp only[raiseNew];refine Xk (wpAny_handled ?_);rw[show A.in1.handled=none from j];refine Xk (Xp (wpAny_throw ?_));refine Xk (acC (T:="StopIteration") (b:=Á) #[_,XN _ rfl,rfl] isSubtype_stop (Xp ?_));exact k _ (((Yh ..).extBut.push _).push _)
end
noncomputable def Sy(a : Ç)(o : ü)(YP : List ((Int×Bool)×V)) : It :=
  #[λi H=>H a=À (.frz o (.dB YP))/\i<YP.length,
   λi H x H'=>H'=H/\∃kv b,YP[i]?=À kv/\x=.ref b/\H b=À (.tup (kB kv.1)),
   λi H=>H a=À (.frz o (.dB YP))/\YP.length<=i]
def zW{P:Ñ}{w:Û}{K:Ã}{tg:Õ}(a it:Ç)(o:ü)(YP:List ((Int×Bool)×V)):Turn P w K tg (Sy a o YP) [it] it (λi h=>∃es ep,o.data=.dict es ep/\h.IsKeyIter it a i YP.length ep) where
 mem:=by simp
 obj:=λi h st b f=>by
  have e:b=it:=by simpa using f
  subst e;obtain⟨es,ep,_,o',e,c,d⟩:=st;exact#[o',e,λv z=>by rw[d] at z;cases z]
 keep:=λi h h' st k=>by
  obtain⟨es,ep,e,st⟩:=st;exact#[es,ep,e,st.at λo e=>k it .c o e]
 item:=by
  intro X u G α N i Z2 s Y H E I n st q;subst u G α;obtain⟨es,ep,g,st⟩:=st;obtain⟨L,hi⟩:=q;obtain⟨go,hz,σ,xs,kv,o',t,B,e1,Γ,j,p,S⟩:=(show b8 X.prog X.w H s.heap a (.frz o (.dB YP)) from I.hok a _ L);rw[go] at e1;cases e1;rw[g] at j;cases j;have C:YP.length=xs.length:=aaB kv;have hsz:es.size=YP.length:=by rw[C];exact acS p
  obtain⟨F,J,Z,D,A,r⟩:=n it .c;have m:i<es.size:=by lia
  rw[<-hsz] at st;refine Gq st go g m λh' l sb=>?_;have T:Inv X Z2 Y H {s with heap:=h'}:=I.turned (t':=s.toks) (λb o f e=>(sb.2 b f).trans e) F J D A r;obtain⟨o2,e2,c2,d2⟩:=id l;obtain⟨x,hx⟩:∃x,xs[i]?=À x:=#[xs[i]'.b,Xz .b];obtain⟨y,Q,q1,O,q3⟩:=EP.qT kv (Xz hi)
  have e6:es[i].key=.ref y.2.1:=by
   have:=entry_at p i;rw[Q,Y3 m] at this;rw[XJ this];rfl
  refine#[es[i].key,rfl,x3 (s:={s with heap:=h'}) e2 c2 d2 .a #[.ref y.2.1,H,T,e6,#[rfl,_,y.2.1,Xz hi,rfl,O],#[es,ep,g,by rw[<-hsz];exact l],λb f=>(n b f).1]]
 done:=by
  intro X u G α N i Z2 s Y H E I n st q;subst u G α;obtain⟨es,ep,g,st⟩:=st;obtain⟨L,hi⟩:=q;obtain⟨go,hz,σ,xs,kv,o',t,B,e1,Γ,j,p,S⟩:=(show b8 X.prog X.w H s.heap a (.frz o (.dB YP)) from I.hok a _ L);rw[go] at e1;cases e1;rw[g] at j;cases j;have C:YP.length=xs.length:=aaB kv;have hsz:es.size=YP.length:=by rw[C];exact acS p
  obtain⟨F,J,Z,D,A,r⟩:=n it .c;rw[<-hsz] at st;exact next_end (I.ok.hd N) st go g .b λh' R=>#[rfl,I.turned (t':=s.toks) (λb o f e=>R b o f e) F J D A r]
 self:=λ_ _ _ _ _ st h=>by
  obtain⟨es,ep,_,st⟩:=st;exact wpAny_pyIter_keyiter st h
def HU(YP:List ((Int×Bool)×V))(u:HO):Prop:=u=.dB YP\/∃o,u=.frz o (.dB YP)
section
variable{X:Cx}{tg:Õ}{Z2:List (Ç×ü)}{Y:St}{H:Hp}{s:Æ}{a:Ç}{u0 u:HO}{YP:List ((Int×Bool)×V)}
def Inv.K5(I:Inv X Z2 Y H s)(e:H a=À u0)(h:HU YP u0)(ok:b8 X.prog X.w H s.heap a u)(r:∀o' j,X.H₀ a=À (.frz o' j)->u=.frz o' j):Inv X Z2 Y (upd H a u) s:=by
 have g:∀b,H b=none->b≠a:=λb n z=>by subst z;rw[n] at e;cases e
 have k:∀b xs,H b=À (.tup xs)->b≠a:=λb xs q z=>by
  subst z;rw[e] at q;rcases h with d|⟨o,d⟩<;>(rw[d] at q;cases q)
 have l:∀b x,H b=À (.own x)->b≠a:=λb xs q z=>by
  subst z;rw[e] at q;rcases h with d|⟨o,d⟩<;>(rw[d] at q;cases q)
 have st:∀b v,b8 X.prog X.w H s.heap b v->b8 X.prog X.w (upd H a u) s.heap b v:=λb v z=>z.w6 (λc v _ q=>q) (λc q=>by rw[aC (l c _ q)];exact q) λc xs q=>by rw[aC (k c xs q)];exact q
 refine#[I.ok,I.os,I.bare,#[I.base.keep,I.base.slot,λb o q n t=>?_,I.base.there,λb xs q=>?_,λb o v q=>?_,λb ps q=>?_],I.loc,I.cell,?_,λx c q=>?_,λp hp=>?_,λb v q=>?_,I.len]
 .have:=I.base.free b o q n t;rw[aC (g b this)];exact this
 .have:=I.base.tups b xs q;rw[aC (k b xs this)];exact this
 .by_cases f:b=a
  .subst f;rw[aQ,r _ _ q]
  .rw[aC f];exact I.base.frzs b o v q
 .obtain⟨more,q'⟩:=I.base.tbls b ps q
  have f:b≠a:=λz=>by
   subst z;rw[e] at q';rcases h with d|⟨o,d⟩<;>(rw[d] at q';cases q')
  exact#[more,by rw[aC f];exact q']
 .rw[aC (g _ I.free)];exact I.free
 .rw[aC (g _ (I.freeC x c q))];exact I.freeC x c q
 .obtain⟨q1,i,m⟩:=I.pin p hp;exact#[q1,by rw[aC (g _ i)];exact i,m]
 .by_cases f:b=a
  .subst f;rw[aQ] at q;cases q;exact st _ _ ok
  .rw[aC f] at q;exact st _ _ (I.hok b v q)
def D9(X:Cx)(tl:TE):TI:=λY H R=>tl Y H λx H1=>∃a YP u,x=.ref a/\H1 a=À u/\HU YP u /\
 ∀o,(u=.dB YP\/u=.frz o (.dB YP))->(∀o' b,X.H₀ a=À (.frz o' b)->u=.frz o' b)->R (Sy a o YP) (upd H1 a (.frz o (.dB YP)))
def FQ{l:Õ}{tl:TE}(t:PE X l tl):PI X tg l (D9 X tl):=by
 intro Z2 s Y H R I h;refine cy (t Z2 s Y H _ I h) λv f ⟨x,H1,k,p,q1⟩=>?_;obtain⟨a,YP,u,e,j,m,q⟩:=q1;subst e;cases p
 have rd:Rd H1 a (.dB YP):=by
  rcases m with d|⟨o,d⟩
  .exact .inl (by rw[j,d])
  .exact .inr #[o,by rw[j,d]]
 have g:=(show b8 X.prog X.w H1 f.heap a (.dB YP) from BK k.hok rd);obtain⟨hz,D,xs,kv,o,es,ep,e1,p,A,C,E⟩:=id g
 have i:u=.dB YP\/u=.frz o (.dB YP):=by
  rcases m with d|⟨o',d⟩
  .exact .inl d
  .refine .inr ?_;have:=(show b8 X.prog X.w H1 f.heap a (.frz o' (.dB YP)) from k.hok a _ (by rw[j,d])).1;rw[e1] at this;rw[d,XJ this]
 have y:∀o' c,X.H₀ a=À (.frz o' c)->u=.frz o' c:=λo' c z=>by
  have:=k.base.frzs a o' c z;rw[j] at this;exact XJ this
 have n:∀o' c,X.H₀ a=À (.frz o' c)->HO.frz o (.dB YP)=.frz o' c:=λo' c z=>by
  have:=y o' c z;rcases i with d|d
  .rw[d] at this;cases this
  .rw[<-d];exact this
 have r:=k.K5 (u:=.frz o (.dB YP)) j m #[e1,g] n;refine ES D e1 p A ?_;have t:YP.length=xs.length:=aaB kv;have hsz:es.size=YP.length:=by rw[t];exact acS C
 refine#[f.heap.objs.size,[f.heap.objs.size],_,_,_,rfl,r.kept (t':=f.toks) λb o e=>Xw _ e,zW a _ o YP,#[es,ep,A,by rw[<-hsz];exact#[_,XN _ rfl,rfl,rfl]],λb B=>?_,q o i y];have e:b=f.heap.objs.size:=by simpa using B
 subst e;exact r.zJ (Xu _) (r.hok.fresh (Xu _))
noncomputable def SI(X:Cx)(D:Ends):Ends:={D with
 nx:=λY' H'=>∃a YP u o,H' a=À (.frz o (.dB YP))/\(u=.dB YP\/u=.frz o (.dB YP))/\(∀o' b,X.H₀ a=À (.frz o' b)->u=.frz o' b)/\D.nx Y' (upd H' a u)
 rt:=λv H'=>D.rt v H'\/∃a YP u o,H' a=À (.frz o (.dB YP))/\(u=.dB YP\/u=.frz o (.dB YP))/\(∀o' b,X.H₀ a=À (.frz o' b)->u=.frz o' b)/\D.rt v (upd H' a u)}
def Inv.E3{o:ü}(I:Inv X Z2 Y H s)(e:H a=À (.frz o (.dB YP)))(f:u=.dB YP\/u=.frz o (.dB YP))(c:∀o' b,X.H₀ a=À (.frz o' b)->u=.frz o' b):Inv X Z2 Y (upd H a u) s:=by
 have ok:=(show b8 X.prog X.w H s.heap a (.frz o (.dB YP)) from I.hok a _ e);refine I.K5 e (.inr #[o,rfl]) ?_ c;rcases f with d|d
 .rw[d];exact ok.2
 .rw[d];exact ok
def GI{l:Õ}{tl:TE}{body:List Ò}{g:TG}{tb:TS}{pos:ò}(hp:Ĕ .F X.A X.env X.xe)(k:X.calm=Á)(n:PE X l tl)(j:PG X tg g)(m:rh X body tb)
  (p:∀x,Ü l X.env x=pure x:=by intro _;rfl):PS X (.For tg l body [] pos) (λD Y H=>OK (D9 X tl) g tb (SI X D) Y H):=by
 intro Z2 s Y H D I h;refine cy (o3 hp k (FQ n) j m p Z2 s Y H (SI X D) I h) λf s' q=>?_;cases f with
 |next =>
  obtain⟨Y',H',b,a,YP,u,o,e,d,c,q⟩:=q;exact#[Y',_,b.E3 e d c,q]
 |brk=>exact q
 |cont=>exact q
 |ret v =>
  obtain⟨i,Y',H',b,r,q|⟨a,YP,u,o,e,d,c,q⟩⟩:=q
  .exact#[i,Y',H',b,r,q]
  .exact#[i,Y',_,b.E3 e d c,r,q]
end
end L2
namespace L2.EP
open PySem PySem.Spec PyProof.Rows
variable{p:Ç}{v:V}{H:Hp}{k:Int×Bool}{YP:List ((Int×Bool)×V)}{K:Ã}{N:Nn}
structure Db(β:Type) where
 l:List ((Int×Bool)×β)
def Db.val{β:Type}(d:Db β)(k:Int×Bool):Option β:=(d.l.find? λu=>decide (u.1=k)).map (·.2)
def Db.put{β:Type}(d:Db β)(k:Int×Bool)(c:β):Db β:=#[if (d.l.any λu=>decide (u.1=k))=Á then d.l.map (λu=>if u.1=k then (u.1,c) else u) else d.l++[(k,c)]]
def DB{β:Type}[Py β](K:Ã)(N:Nn)(H:Hp)(x:(Int×Bool)×V)(y:(Int×Bool)×β):Prop:=x.1=y.1/\Py.rp K N H x.2 y.2
noncomputable instance{β:Type}[Py β]:Py (Db β) where
 rp K N H v d:=∃p YP,v=.ref p/\Rd H p (.dB YP)/\N.has H p (.inB YP)/\ß (DB K N H) YP d.l
 tr l t h:=by
  obtain⟨p,YP,e,s,n,r⟩:=h;obtain⟨s',a⟩:=l _ (.inB YP) s n;exact#[p,YP,e,s',a,bN (λ_ _ q=>#[q.1,Py.tr l t q.2]) r]
open Classical in
noncomputable def zB(H0:Hp)(a:Ç)(o:ü)(YP:List ((Int×Bool)×V)):Hp:=if H0 a=none then H0 else upd H0 a (.frz o (.dB YP))
section
variable{K:Ã}{H0 H H':Hp}{F O:Ç->Prop}{U:aK}{Y:St}{a:Ç}{u:HO}{YP:List ((Int×Bool)×V)}{o:ü}
def nM:zB H0 a o YP p=none↔H0 p=none:=by
 unfold zB;split
 .exact Ş
 .rename_i h;by_cases e:p=a
  .subst e;rw[aQ];exact#[λz=>(by cases z),λz=>absurd z h]
  .rw[aC e]
def wc(h:p≠a):zB H0 a o YP p=H0 p:=by
 unfold zB;split
 .rfl
 .rw[aC h]
def FW(h:H0 a≠none):zB H0 a o YP a=À (.frz o (.dB YP)):=by
 unfold zB;rw[Xl h,aQ]
def wZ{G g:Hp}{u j:HO}(ne:∀b,b≠a->g b=G b)(e:G a=À u)(i:g a=À j)(d:HU YP u)(d':HU YP j){m:Mt}(h:Mo K G p m):Mo K g p m:=by
 by_cases hp:p=a
 .subst hp;cases m with
  |inl xs =>
   rcases h with(h|⟨c,h⟩)|h
   .rw[e] at h;rcases d with d|⟨f,d⟩<;>(rw[d] at h;cases h)
   .rw[e] at h;rcases d with d|⟨f,d⟩<;>(rw[d] at h;cases h)
   .exact .inr h
  |inB ks =>
   have ek:ks=YP:=by
    rcases h with h|⟨c,h⟩
    .rw[e] at h;rcases d with d|⟨f,d⟩<;>(rw[d] at h;cases h);rfl
    .rw[e] at h;rcases d with d|⟨f,d⟩<;>(rw[d] at h;cases h);rfl
   subst ek;rcases d' with d'|⟨f,d'⟩
   .exact .inl (by rw[i,d'])
   .exact .inr #[f,by rw[i,d']]
  |inT ks =>
   exfalso;rcases h with h|⟨c,h⟩
   .rw[e] at h;rcases d with d|⟨f,d⟩<;>(rw[d] at h;cases h)
   .rw[e] at h;rcases d with d|⟨f,d⟩<;>(rw[d] at h;cases h)
  |inr ks =>
   exfalso;rcases h with h|⟨c,h⟩
   .rw[e] at h;rcases d with d|⟨f,d⟩<;>(rw[d] at h;cases h)
   .rw[e] at h;rcases d with d|⟨f,d⟩<;>(rw[d] at h;cases h)
 .cases m with
  |inl xs =>
   rcases h with(h|⟨c,h⟩)|h
   .exact .inl (.inl (by rw[ne p hp];exact h))
   .exact .inl (.inr #[c,by rw[ne p hp];exact h])
   .exact .inr h
  |inr ks =>
   rcases h with h|⟨c,h⟩
   .exact .inl (by rw[ne p hp];exact h)
   .exact .inr #[c,by rw[ne p hp];exact h]
  |inT ks =>
   rcases h with h|⟨c,h⟩
   .exact .inl (by rw[ne p hp];exact h)
   .exact .inr #[c,by rw[ne p hp];exact h]
  |inB ks =>
   rcases h with h|⟨c,h⟩
   .exact .inl (by rw[ne p hp];exact h)
   .exact .inr #[c,by rw[ne p hp];exact h]
def rG{G c:Hp}{u:HO}(ne:∀b,b≠a->c b=G b)(e:G a=À u)(d:HU YP u){xs:List V}(h:Rt G p xs):Rt c p xs:=by
 have hp:p≠a:=λz=>by
  subst z;rcases h with h|⟨f,h⟩
  .rw[e] at h;rcases d with d|⟨g,d⟩<;>(rw[d] at h;cases h)
  .rw[e] at h;rcases d with d|⟨g,d⟩<;>(rw[d] at h;cases h)
 rcases h with h|⟨f,h⟩
 .exact .inl (by rw[ne p hp];exact h)
 .exact .inr #[f,by rw[ne p hp];exact h]
def dU.Qo(Z:dU K H0 F O U Y H)(ha:¬O a)(e:H a=À u)(f:HU YP u):dU K (zB H0 a o YP) F O (Ol U) Y (upd H a (.frz o (.dB YP))):=by
 have ne:∀b,b≠a->upd H a (.frz o (.dB YP)) b=H b:=λb d=>aC d;have j:∀p,O p->p≠a:=λp h z=>ha (z▸h);have B:off H O a=À u:=by rw[aU ha];exact e
 have A:off (upd H a (.frz o (.dB YP))) O a=À (.frz o (.dB YP)):=by rw[aU ha];exact aQ
 have d':HU YP (.frz o (.dB YP)):=.inr #[o,rfl]
 have any:∀{β:Type} [Py β] {N:Nn} {v:V} {x:β},Py.rp K N .G v x->Py.rp K .any (off (upd H a (.frz o (.dB YP))) O) v x:=λr =>
  Py.tr (λp m h _=>#[wZ (off_ne ne) B A f d' h,É]) (λp xs h=>rG (off_ne ne) B f h) r
 refine#[λb w h=>?_,Z.fo,λp h=>?_,λp h=>?_,?_,λi g s k=>?_,?_]
 .by_cases d:b=a
  .subst d;have k:H0 b≠none:=λz=>by rw[nM.mpr z] at h;cases h
   rw[FW k] at h;rw[aQ];exact h
  .rw[wc d] at h;rw[aC d];exact Z.same _ _ h
 .obtain⟨xs,q⟩:=Z.f0 p h;exact#[xs,by rw[wc (j p (Z.fo p h))];exact q]
 .obtain⟨xs,q⟩:=Z.own p h;exact#[xs,by rw[aC (j p h)];exact q]
 .unfold Ol;rw[Xv];exact Z.len
 .obtain⟨y,c,rfl⟩:=BZ s;cases y with
  |val b x =>
   obtain⟨v,h1,h2⟩:=Z.at_ i _ c (λz=>z);exact#[v,h1,any h2]
  |own b as=>exact absurd É k
  |dpo x=>exact absurd É k
 .obtain⟨D,J,l,E⟩:=Z.dis;refine#[D,J,λi p h=>#[(l i p h).1,nM.mpr (l i p h).2],λi g s I=>?_];obtain⟨y,c,rfl⟩:=BZ s;cases y with
  |val b x=>exact absurd I (λz=>z)
  |own b as =>
   obtain⟨v,h1,p,xs,q1,C,G,L⟩:=E i _ c É;exact#[v,h1,p,xs,q1,C,by rw[aC (j p (l i p C).1)];exact G,bN (λ_ _ z=>any z) L]
  |dpo x =>
   obtain⟨v,h1,h2⟩:=E i _ c É;refine#[v,h1,?_];have t:Py.rp K (.set (D i)) H v x:=h2;exact Py.tr (a:=x) (N:=.set (D i)) (N':=.set (D i)) (λp m h n=>#[wZ ne e aQ f d' h,n.1,by rw[aC (j p (l i p n.1).1)];exact n.2]) (λp xs h=>rG ne e f h) t
def vU{β:Type}[Py β]{b:Bool}{x:β}{O:Ç->Prop}(ha:¬O a)(e:H' a=À (.frz o (.dB YP)))(j:u=.dB YP\/u=.frz o (.dB YP))(h:Py.rp K (Nf (zB H0 a o YP) b) (off H' O) v x):Py.rp K (Nf H0 b) (off (upd H' a u) O) v x:=by
 have ne:∀b,b≠a->upd H' a u b=H' b:=λb i=>aC i;have c:off H' O a=À (.frz o (.dB YP)):=by rw[aU ha];exact e
 have f:off (upd H' a u) O a=À u:=by rw[aU ha];exact aQ
 have g:HU YP u:=j.imp id λd=>#[o,d];refine Py.tr (λp m h n=>#[wZ (off_ne ne) c f (.inr #[o,rfl]) g h,?_]) (λp xs h=>rG (off_ne ne) c (.inr #[o,rfl]) h) h;cases b with
 |false=>exact É
 |true =>
  have hp:p≠a:=λz=>by
   subst z;have:=n.2;rw[c] at this;rcases m with m|m|m|m<;>cases this
  exact#[nM.mp n.1,by rw[off_ne ne p hp];exact n.2]
def dU.Mx{k:Ç->Prop}{U':aK}{Y':St}(Z:dU K H0 F O U Y H)(ha:H a=À u)(c:dU K (zB H0 a o YP) F k U' Y' H')(na:¬k a)(e:H' a=À (.frz o (.dB YP)))(y:u=.dB YP\/u=.frz o (.dB YP)):dU K H0 F k U' Y' (upd H' a u):=by
 have ne:∀b,b≠a->upd H' a u b=H' b:=λb f=>aC f;have s:∀p,k p->p≠a:=λp h z=>na (z▸h);have E:HU YP u:=y.imp id λd=>#[o,d];refine#[λb w h=>?_,c.fo,Z.f0,λp h=>?_,c.len,λi g l t=>?_,?_]
 .by_cases f:b=a
  .subst f;have:=Z.same _ _ h;rw[aQ,<-ha];exact this
  .rw[aC f];exact c.same _ _ (by rw[wc f];exact h)
 .obtain⟨xs,q⟩:=c.own p h;exact#[xs,by rw[aC (s p h)];exact q]
 .obtain⟨v,h1,h2⟩:=c.at_ i g l t;refine#[v,h1,?_];cases g with
  |val b x=>exact vU na e y h2
  |own b as=>exact absurd É t
  |dpo x=>exact absurd É t
 .obtain⟨D,J,j,G⟩:=c.dis;refine#[D,J,λi p h=>#[(j i p h).1,nM.mp (j i p h).2],λi g l A=>?_];obtain⟨v,h1,h2⟩:=G i g l A;refine#[v,h1,?_];cases g with
  |val b x=>exact absurd A (λz=>z)
  |own b as =>
   obtain⟨p,xs,q1,B,C,I⟩:=h2;exact#[p,xs,q1,B,by rw[aC (s p (j i p B).1)];exact C,bN (λ_ _ z=>vU na e y z) I]
  |dpo x =>
   have r:Py.rp K (.set (D i)) H' v x:=h2;exact Py.tr (a:=x) (N:=.set (D i)) (N':=.set (D i)) (λp m h n=>#[wZ ne e aQ (.inr #[o,rfl]) E h,n.1,by rw[aC (s p (j i p n.1).1)];exact n.2]) (λp xs h=>rG ne e (.inr #[o,rfl]) h) r
def uY{f:Ç->Prop}(ha:¬O a)(e:H a=À u)(s:aG (off (upd H a (.frz o (.dB YP))) O) (off H' f)):¬f a/\H' a=À (.frz o (.dB YP))/\aG .G (off (upd H' a u) f):=by
 have h1:off (upd H a (.frz o (.dB YP))) O a=À (.frz o (.dB YP)):=by rw[aU ha];exact aQ
 obtain⟨n,h2⟩:=dy (s _ _ h1);refine#[n,h2,λb w h=>?_];by_cases d:b=a
 .subst d;rw[aU ha,e] at h;rw[aU n,aQ];exact h
 .have:=s b w (by rw[off_ne (a:=a) (H:=H) (λc g=>aC g) b d];exact h);rw[off_ne (a:=a) (H:=H') (λc g=>aC g) b d];exact this
variable{X:Cx}{D:GD}{M β γ:Type}[Py M][Py β][Py γ]{e e1 e2 tg:Õ}{b b1 b2:Bool}{pos:ò}{rest body:List Ò}
theorem IW{g:TG}{tc:Nat->Prop}{put:Bool->Int×Bool->aK->aK}{d:Db β}(J:Nat->aK->Prop)(hG:G X tg g (Int×Bool) put tc)(he:E X U e b d)(h0:J 0 (Ol U))
  (ht:∀(i:Nat) (k:Int×Bool) U',(d.l.map (·.1))[i]?=À k->J i U'->S X (put Á k U') body {D with nx:=J (i+1),ct:=J (i+1),bk:=λΓ2=>S X Γ2 rest D}) (hd:∀U',J d.l.length U'->S X U' rest D)
  (hc:X.calm=Á:=by rfl) (hp:Ĕ .F X.A X.env X.xe:=by exact aag)
  (V:∀x,Ü e X.env x=pure x:=by intro _;rfl):S X U (.For tg e body [] pos::rest) D:=by
 stop
  refine eP (eQ (GI hp hc he hG.1 (tb:=j5 X body) g_ V) λDe Y H ⟨H0,F,O,Z,nx,r,bk,ct⟩=>?_);refine#[H0,F,O,Z,λv H1 s1 r1=>?_];obtain⟨a,YP,ev,rd,_,rr⟩:=r1
  have W:¬O a/\∃u,H1 a=À u/\HU YP u:=by
   rcases rd with h|⟨o,h⟩
   .obtain⟨n,h⟩:=dy h;exact#[n,_,h,.inl rfl]
   .obtain⟨n,h⟩:=dy h;exact#[n,_,h,.inr #[o,rfl]]
  obtain⟨na,u,L,dz⟩:=W;refine#[a,YP,u,ev,L,dz,λo t hf=>?_];have Z1:=Z.go s1;have lk:YP.length=d.l.length:=bG rr
  have out:∀(Q:St->Hp->Prop) (P:aK->Prop),(∀U' Y' H' c,aG .G (off H' c)->dU X.K H0 F c U' Y' H'->P U'->Q Y' H')->∀U' Y' H' c,aG (off (upd H1 a (.frz o (.dB YP))) O) (off H' c)->dU X.K (zB H0 a o YP) F c U' Y' H'->P U' ->
    ∃a YP u o,H' a=À (.frz o (.dB YP))/\(u=.dB YP\/u=.frz o (.dB YP))/\(∀o' u',X.H₀ a=À (.frz o' u')->u=.frz o' u')/\Q Y' (upd H' a u):=λQ P q U' Y' H' c sm α p=>by
   obtain⟨n',N,R⟩:=uY na L sm;exact#[a,YP,u,o,N,t,hf,q U' Y' _ c ((ah s1).trans R) (Z1.Mx L α n' N t) p]
  refine#[λi m Y' H'=>m=d.l.length-i/\i<=d.l.length/\∃U' c,aG (off (upd H1 a (.frz o (.dB YP))) O) (off H' c)/\dU X.K (zB H0 a o YP) F c U' Y' H'/\J i U',#[_,rfl,Yr _,Ol U,O,aG.refl _,Z1.Qo na L dz,h0],?_];rintro i m Y' H' ⟨rfl,hi',U',c,sm,α,j⟩;obtain⟨n',N,R⟩:=uY na L sm;by_cases hlt:i<d.l.length
  .refine .inr #[#[N,.e],λσ2 H2=>∃Γ2 B,aG (off (upd H1 a (.frz o (.dB YP))) O) (off H2 B)/\dU X.K (zB H0 a o YP) F B Γ2 σ2 H2/\J (i+1) Γ2,λσ2 H2 q=>#[d.l.length-(i+1),.e,rfl,hlt,q],λx σ Γ=>?_];obtain⟨rfl,kv,bb,hk,rfl,I⟩:=Γ;obtain⟨y,Γ,hxy⟩:=qT rr hk;refine hG.2 Á y.1 (zB H0 a o YP) F c U' Y' σ _ _ α #[bb,_,_,rfl,.inl (by rw[aU (λz=>by obtain⟨m,hm⟩:=α.own bb z;rw[hm] at I;cases m<;>cases I),I,hxy.1];rfl),rfl,rfl] λσ2 C _ _=>?_;refine#[_,_,ht i y.1 U' (by rw[XI,Γ];rfl) j,zB H0 a o YP,F,c,C,?_,?_,?_,?_]
   .exact λΓ2 σ2 H2 B f C q=>#[Γ2,B,sm.trans f,C,q]
   .intro g v H2 T s q;by_cases hn:H0 a=none
    .have e0:zB H0 a o YP=H0:=by unfold zB;rw[Xo hn]
     rw[e0] at T s;exact .inl (r g v H2 T s q)
    .have e2:H2 a=À (.frz o (.dB YP)):=T _ _ (FW hn);refine .inr #[a,YP,u,o,e2,t,hf,r g v _ (λb w h=>?_) ?_ q]
     .by_cases hb:b=a
      .subst hb;have:=Z1.same _ _ h;rw[aQ,<-L];exact this
      .rw[aC hb];exact T _ _ (by rw[wc hb];exact h)
     .cases g with
      |val b x=>exact vU (λz=>na (Z.fo a z)) e2 t s
      |own b as=>exact s
      |dpo x=>exact s
   .exact λΓ2 σ2 H2 B f C q=>out _ _ nx Γ2 σ2 H2 B (sm.trans f) C q
   .exact λΓ2 σ2 H2 B f C q=>#[Γ2,B,sm.trans f,C,q]
  .have ei:i=d.l.length:=by omega
   subst ei;exact .inl #[#[N,.e],out _ _ nx U' Y' H' c sm α (hd U' j)]
end
def Mk{a b:Ç}(e:H a=À (.dB YP))(c:H b=À (.tup (kB k)))(d:YP.length<sizeLine):My H a (.ref b) v (upd H a (.dB (putK YP k v))):=.inr (.inr #[YP,k,b,e,rfl,c,d,rfl])
def G3(h:Py.rp K N H v k):∃b,v=.ref b/\H b=À (.tup (kB k)):=by
 obtain⟨p,x,y,e,s,h1,h2⟩:=h;have e1:x=V.int _:=h1;have e2:y=V.bl _:=h2;subst e1;subst e2;exact#[p,e,s.pl]
theorem Ef{β:Type}[Py β]{K:Ã}{N:Nn}{H:Hp}(k:Int×Bool):∀{YP:List ((Int×Bool)×V)} {l:List ((Int×Bool)×β)},ß (DB K N H) YP l ->
  (∀c,(Db.mk l).val k=À c->∃v,ly YP k=À v/\Py.rp K N H v c)/\((Db.mk l).val k=none->ly YP k=none)
 |_,_,.nil=>#[λc h=>(by cases h),λ_=>rfl]
 |_,_,.cons (a:=x) (b:=y) h t=>by
  obtain⟨i,g⟩:=Ef k t;by_cases e:y.1=k
  .have f:x.1=k:=by rw[h.1,e]
   have d:∀r,(Db.mk (y::r)).val k=À y.2:=λr=>by unfold Db.val;rw[Zo];simp[e]
   rw[d,kI f];exact#[λc j=>(by cases j;exact#[_,rfl,h.2]),λz=>(by cases z)]
  .have f:¬x.1=k:=by rw[h.1];intro z;exact e (z)
   have d:∀r,(Db.mk (y::r)).val k=(Db.mk r).val k:=λr=>by unfold Db.val;rw[Zo];simp[e]
   rw[d,kL f];exact#[i,g]
def Ip{β:Type}[Py β](k:Int×Bool){l:List ((Int×Bool)×β)}(r:ß (DB K N H) YP l):(ly YP k).isSome=((Db.mk l).val k).isSome:=by
 obtain⟨h1,h2⟩:=Ef k r;cases e:(Db.mk l).val k with
 |none=>rw[h2 e];rfl
 |some c =>
  obtain⟨v,a,_⟩:=h1 c e;rw[a];rfl
def Ml{β:Type}[Py β]{c:β}{l:List ((Int×Bool)×β)}(r:ß (DB K N H) YP l)(h:Py.rp K N H v c):ß (DB K N H) (putK YP k v) ((Db.mk l).put k c).l:=by
 have ha:∀{YP:List ((Int×Bool)×V)} {l:List ((Int×Bool)×β)},ß (DB K N H) YP l->(YP.any λkv=>decide (kv.1=k))=(l.any λu=>decide (u.1=k)):=λr=>by
  induction r with
  |nil=>rfl
  |cons h t a =>
   rw[ZI,ZI,a,h.1]
 have b:∀{YP:List ((Int×Bool)×V)} {l:List ((Int×Bool)×β)},ß (DB K N H) YP l->ß (DB K N H) (YP.map λkv=>if kv.1=k then (kv.1,v) else kv) (l.map λu=>if u.1=k then (u.1,c) else u):=λr=>by
  induction r with
  |nil=>exact .nil
  |@cons x y _ _ g t a =>
   rw[X3,X3];refine .cons ?_ a;by_cases e:y.1=k
   .rw[Xo e,Xo (by rw[g.1,e])];exact#[g.1,h]
   .rw[Xl e,Xl (by rw[g.1];intro z;exact e (z))];exact g
 unfold putK Db.put;dsimp only;rw[ha r];split
 .exact b r
 .exact wt r (.cons #[rfl,h] .nil)
section
variable{X:Cx}{U:aK}{D:GD}{M β γ:Type}[Py M][Py β][Py γ] {e e1 e2 ek ec:Õ}{b b1 b2:Bool}{pos:ò}{rest st:List Ò}
def Hr:EN X U (.Dict [] [] pos) (Db.mk ([]:List ((Int×Bool)×β))):=by
 stop
  exact aP He λY H Q ⟨H0,F,O,Z,q⟩ p hp=>by
   have a:off (upd H p (.dB [])) O p=À (.dB []):=by rw[aU (Z.mB hp)];exact aQ
   exact q _ _ (cD hp _) #[p,[],rfl,.inl a,#[hp,a],.nil]
def JD[PyT β](i:Nat){d:Db β}{c:β}{x:Ð}{p C:ò}(hu:X.A.units+60<ğ)(G:U[i]?=À (À (.dpo d)))(W:E X U ek b2 k)(he:E X U e b c)(hl:d.l.length<=1000)(h:S X (U.set i (À (.dpo (d.put k c)))) rest D)(hi:autoParam (X.N[i]?=À x) zra)
  (V:Iy X.env.scope x:=by first|exact Ă rfl|exact ñ (Ă rfl)|exact ñ (ñ rfl)) (hd:(x==("__debug__":Ð))=Â:=by decide) (o:(x==("__classdict__":Ð))=Â:=by decide)
  (hs:Ā e (À (.Subscript (.Name x p) ek C)) pos.line X.env=pure Â:=by rfl):S X U (.Assign [.Subscript (.Name x p) ek C] e pos::rest) D:=by
 stop
  exact eP (eQ (Jp .b (pv i hi V hd o) W he hs) λDe Y H ⟨H0,F,O,Z,n,_⟩=>#[H0,F,O,Z,λu H1 j T=>by
    obtain⟨v,m,g,_,_,_⟩:=(Z.go j).AI G É;refine#[v,g,H0,F,O,Z.go j,λy f B α=>?_];obtain⟨Γ,m,DL,⟨q,YP,e1,rd,nn,J⟩,hO,wr⟩:=(Z.go (j.trans B)).AI G É;rw[g] at DL;have ev:v=Γ:=XJ (XJ DL);subst ev;obtain⟨a,R,ha⟩:=G3 α;subst R;have t:f a=À (.tup (kB k)):=av _ _ _ _ ha;have I:f q=À (.dB YP):=nn.2
    have L:∀p xs,Rt f p xs->Rt (upd f q (.dB (putK YP k u))) p xs:=λp xs h=>by
     have hp:p≠q:=λw=>by
      subst w;have:=h.pl;rw[I] at this;cases this
     exact .inl (by rw[aC hp];exact h.pl)
    refine#[q,_,e1,Mk (k:=k) I t (by rw[bG J];exact dc hl),?_];have r:ß (DB X.K (.set m) (upd f q (.dB (putK YP k u)))) YP d.l:=bN (λ_ _ z=>#[z.1,PyT.free L z.2]) J;have s:Py.rp X.K (.set m) (upd f q (.dB (putK YP k u))) u c:=PyT.free (λp xs w=>L p xs (aG.rt ((av _ _).trans B) w)) T
    obtain⟨P,σ⟩:=wr q (.inB (putK YP k u)) (À (.dpo (d.put k c))) nn.1 λQ e'=>by
     cases e';exact#[É,q,_,e1,.inl aQ,⟨nn.1,aQ⟩,Ml r s]
    exact n _ _ _ _ (by rw[show upd f q (HO.dB (putK YP k u))=upd f q (mo (.inB (putK YP k u))) from rfl,σ];exact ah (j.trans B)) P h])
end
end L2.EP
namespace L2
open PySem PySem.Spec PyProof.Rows
def Jw(tk tv:TE):TE:=λY H Q=>∀p,H p=none->tk Y (upd H p (.dB [])) λx H1=>tv Y H1 λv H2=>H2 p=À (.dB [])/\∃k b,x=.ref b/\H2 b=À (.tup (kB k))/\Q (.ref p) (upd H2 p (.dB [(k,v)]))
def Dt{X:Cx}{pos:ò}{ek ev:Õ}{tk tv:TE}(J:X.A.units<ğ)(B:PE X ek tk)(y:PE X ev tv):PE X (.Dict [À ek] [ev] pos) (Jw tk tv):=by
 intro Z2 s Y H Q I q;have C:=I.hok.fresh (Xu s.heap.objs.size);have D:=I.laid (a:=s.heap.objs.size) (o:=.dB []) (h':=s.heap.push {cls:=.type "dict",data:=.dict #[]}) (t':=s.toks) (λ_ _ q=>Xw _ q) (Xu _) (ye s.heap I.big);refine wpAny_Dict_any rfl rfl .c .c (pairTrees_cons_walk (cy (B Z2 _ Y _ _ D (q _ C)) λu j ⟨x,H1,p,n,q1⟩=>cy (y Z2 j Y H1 _ p q1) λr K ⟨v,H2,f,E,e,k,b,ex,c,i⟩=>pairTrees_nil_walk ?_));subst ex;cases (show u=ÿ b from n);obtain⟨z,G,xs,rel,l⟩:=K6 f.hok e;cases rel;unfold storeAll;rw[ϑ];refine Xk (Xk (wpAny_dictSet_heap (knd:=gZ X.prog X.w) (hsz:=Yr _) J (qR f.hok c) l λh' d F=>Xp ?_));dsimp only;rw[ϟ];obtain⟨o,es,ep,g,h2,m,h,_,t⟩:=d;refine Xp #[.ref s.heap.objs.size,upd H2 s.heap.objs.size (.dB [(k,v)]),rF (ob:=.dB [(k,v)]) f (by rw[e];exact É) F #[o,g] #[by rw[Ϛ];simp,G,_,.cons #[rfl,?_,E] .nil,o,es,ep,g,h2,m,h,t],rfl,i];rw[aC (GG c e (λz=>nomatch z))];exact c
end L2
namespace L2.EP
open PySem PySem.Spec PyProof.Rows
section
variable{X:Cx}{U:aK}{D:GD}{β:Type}[Py β]{ek ev:Õ}{b1 b2:Bool}{pos:ò}
def L9[PyT β]{k:Int×Bool}{c:β}(w:X.A.units+60<ğ)(v:E X U ek b1 k)(u:E X U ev b2 c):EN X U (.Dict [À ek] [ev] pos) (Db.mk [(k,c)]):=by
 stop
  exact aP (Dt .b v u) λY H Q ⟨H0,F,O,Z,q⟩ p hp=>by
   have g:=cD hp (.dB []);refine#[H0,F,O,Z.go g,λx H1 f s=>#[H0,F,O,(Z.go g).go f,λy H2 j n=>?_]];obtain⟨a,ex,ha⟩:=G3 s;have d:H2 a=À (.tup (kB k)):=j _ _ (av _ _ _ _ ha);have b:H2 p=À (.dB []):=j _ _ (f _ _ aQ);have r:∀a o,H a=À o->a≠p:=λa o h e=>by rw[e,hp] at h;cases h
   refine#[b,k,a,ex,d,?_];have m:off (upd H2 p (.dB [(k,y)])) O p=À (.dB [(k,y)]):=by rw[aU (Z.mB hp)];exact aQ
   refine q _ _ (λa o h=>?_) #[p,[(k,y)],rfl,.inl m,#[hp,m],.cons #[rfl,?_] .nil]
   .rw[aC (r a o h)];exact j _ _ (f _ _ (g _ _ h))
   .refine PyT.free (λa xs t=>?_) n
    have na:a≠p:=λe=>by
     subst e;rcases t with h|⟨o,h⟩<;>· have:=(dy h).2;rw[b] at this;cases this
    rcases t with h|⟨o,h⟩
    .obtain⟨i,l⟩:=dy h;exact .inl (by rw[aU i,aC na];exact l)
    .obtain⟨i,l⟩:=dy h;exact .inr #[o,by rw[aU i,aC na];exact l]
end
variable{k:Int×Bool}
def Db.ks{β:Type}(d:Db β):List (Int×Bool):=d.l.map (·.1)
def Db.LU{β:Type}{d:Db β}:(d.val k).isSome=Á↔k∈d.ks:=by
 unfold Db.val Db.ks;rw[aaP,List.find?_isSome,XF];constructor
 .rintro⟨u,a,e⟩;exact#[u,a,XD e]
 .rintro⟨u,a,e⟩;exact#[u,a,XY e]
def Db.Ea{β:Type}{d:Db β}{c:β}:(d.put k c).ks=if k∈d.ks then d.ks else d.ks++[k]:=by
 have e:((d.l.any λu=>decide (u.1=k))=Á)↔k∈d.ks:=by
  unfold Db.ks;rw[Zf,XF];constructor
  .rintro⟨u,a,e⟩;exact#[u,a,XD e]
  .rintro⟨u,a,e⟩;exact#[u,a,XY e]
 unfold Db.put;by_cases h:k∈d.ks
 .rw[Xo h,Xo (e.mpr h)];unfold Db.ks;rw[aaS];apply abP;intro u _;show(if u.1=k then (u.1,c) else u).1=u.1;split<;>rfl
 .rw[Xl h,Xl (λz=>h (e.mp z))];unfold Db.ks;rw[Zl];rfl
def Db.I_{β:Type}{d:Db β}{k':Int×Bool}{c:β}:k'∈(d.put k c).ks↔k'=k\/k'∈d.ks:=by
 rw[Db.Ea];split
 .rename_i h;exact#[.inr,λz=>z.elim (λe=>e▸h) id]
 .rw[Yf,XX];exact#[λz=>z.elim .inr .inl,λz=>z.elim .inr .inl]
def Db.Nw{β:Type}{d:Db β}{c:β}(h:d.ks.Nodup):(d.put k c).ks.Nodup:=by
 rw[Db.Ea];split
 .exact h
 .rename_i g;rw[abp];exact#[h,.c,λa ha b f e=>g (by rw[<-XX.mp f,<-e];exact ha)]
def Db.FZ{β:Type}{d:Db β}:d.ks.length=d.l.length:=Xv _
section
variable{X:Cx}{U:aK}{D:GD}{M β γ:Type}[Py M][Py β][Py γ]{e e1 e2:Õ}{b b1 b2:Bool}{pos:ò}{rest st:List Ò}
def Km[PyT M]{a:M}{k:Int}(ha:E X U e1 Á [a])(n:E X U e2 b2 k)(x:0<=k)(h1:k<=1000):EN X U (.BinOp e1 .Mult e2 pos) (Ê k.toNat a):=by
 rw[<-vF]
 stop
  exact aP (yq Hj ha n) λY H Q ⟨H0,F,O,S,q⟩=>#[H0,F,O,S,λv H1 e s=>#[H0,F,O,S.go e,λw H2 d u=>by
    obtain⟨p,vs,e1,h,j,b⟩:=s;have m:H2 p=À (.lst vs):=d _ _ ((av _ _) _ _ j.2);refine#[p,k,vs,e1,u,m,.b,.b,by rw[bG b];exact Y0 (dc (show [a].length*k.toNat<=1000 by simp;lia)),λl c=>?_];obtain⟨f,g⟩:=cJ (xs:=(Ê k.toNat vs).flatten) ((S.go e).go d) c
    have r:H l=none:=by
     cases i:H l with
     |none=>rfl
     |some o=>have:=d _ _ (e _ _ i);rw[c] at this;cases this
    exact q _ _ (e.trans (d.trans f)) #[l,_,rfl,dX.of g,#[r,g],A0 (bN (λ_ _ z=>PyT.free (λp xs t=>aG.rt ((ah d).trans (ah f)) t) z) b) _]]]
def KA{c:Bool}{post:M->Prop}(h:T X U e c)(ha:c=Á->EX X U e1 b post)(i:c=Â->EX X U e2 b post):EX X U (.IfExp e e1 e2 pos) b post:=by
 stop
  cases c with
  |true=>exact aP (iT h (ha rfl) qf) λY H Q ⟨H0,F,O,S,q⟩=>#[H0,F,O,S,λH1 d=>t_ #[H0,F,O,S.go d,λa w H2 hz f g=>q a w H2 hz (d.trans f) g]]
  |false=>exact aP (iT h qf (i rfl)) λY H Q ⟨H0,F,O,S,q⟩=>#[H0,F,O,S,λH1 d=>t9 #[H0,F,O,S.go d,λa w H2 hz f g=>q a w H2 hz (d.trans f) g]]
def mz{post:M->Prop}(he:EX X U e b post)(h:∀a,post a->D.rt (.val b a)):S X U (.Return (À e) pos::rest) D:=by stop exact eP (eQ (HF he) λf Y H ⟨H0,F,O,Z,n,r,_⟩=>#[H0,F,O,Z,λa v H1 hz c d=>r (.val b a) v H1 ((Z.go c).same) (ay (nP Z.fo) d) (h a hz)])
variable{δ ε:Type}[Py δ][Py ε]{e3 e4:Õ}{b3 b4:Bool}{p:ò}{k:Nat}{name:Ð}{ps:List Ð}
def Jq{pre:M->β->γ->δ->Prop}{f:M->β->γ->δ->ε}{a:M}{c:β}{d:γ}{post:δ->Prop}(C:aJ X.prog X.w X.K X.mg X.base k name ps (HN X.K pre b f))(L:dZ k X.A)(n:Gl X name)(h1:E X U e1 b1 a)(h2:E X U e2 b2 c)(y:E X U e3 b3 d)(v:EX X U e4 b4 post)(hp:∀g,post g->pre a c d g)
  (l:Å [e1,e2,e3,e4] X.env=(Â,Ý e1 X.env)::Å [e2,e3,e4] X.env:=by rfl) (t:Å [e2,e3,e4] X.env=(Â,Ý e2 X.env)::Å [e3,e4] X.env:=by rfl) (o:Å [e3,e4] X.env=(Â,Ý e3 X.env)::Å [e4] X.env:=by rfl) (s:Å [e4] X.env=(Â,Ý e4 X.env)::Å [] X.env:=by rfl)
  (u:(name==("__debug__":Ð))=Â:=by decide) (hpl:(ì pos (Å [e2,e3,e4] X.env)).any (·.1)=Â:=by rfl):
  EX X U (.Call (.Name name p) [e1,e2,e3,e4] [] pos) b (λr=>∃g,post g/\r=f a c d g):=by
 stop
  obtain⟨P,fd,F,B,kp,m⟩:=C.ex
  exact aP (gN F L n m kp B .nil lE (aD h1 (aD h2 (aD y (aD v bq s) o) t) l) u l hpl) λY H Q ⟨H0,F,O,S,q⟩=>#[H0,F,O,S,λD H1 e I=>#[H0,F,O,S.go e,λx H2 j J=>#[H0,F,O,S.go (e.trans j),λN R i α=>#[H0,F,O,S.go (e.trans (j.trans i)),λg v4 T n h z =>
   #[O,D,x,N,v4,a,c,d,g,(S.go (e.trans (j.trans (i.trans h)))).own,rfl,bA bJ (ay ((ah j).trans ((ah i).trans (ah h))) I),bA bJ (ay ((ah i).trans (ah h)) J),bA bJ (ay (ah h) α),bA bJ z,hp g n,λr H' s' G=>q _ r H' #[g,n,rfl] (e.trans (j.trans (i.trans (h.trans s')))) ((S.go (e.trans (j.trans (i.trans h)))).back G)]]]]]
end
def J3{X:Cx}{β:Type}[Py β]{d:Db β}(b:X.A.units+60<ğ):CV X .NotIn k d (!(d.val k).isSome):=#[_,Iw .b,λN N' H u v Q h1 h2 q=>by
 obtain⟨p,YP,rfl,rd,n,r⟩:=h2;obtain⟨a,rfl,ha⟩:=G3 h1;refine#[p,ly YP k,rfl,.inr (.inr #[YP,k,a,rd,rfl,ha,rfl]),?_];rw[Ip k r]
 exact q]
end L2.EP
namespace L2.Srt
open PySem PyProof.Rows
variable{i n j na nb ia ib k lo m x:Nat}{out arr:Array Þ}{left:Bool}{us:List Ä}
noncomputable def RO:Bool->Þ->Array Þ->Nat->Nat->Nat->StateT Ï ĸ (Option Nat):=sortPriv% PySem.Builtin.gallop
noncomputable def Sw:Array Þ->Array Þ->StateT Ï ĸ (Array Þ):=sortPriv% PySem.Builtin.mergeLo
noncomputable def Su:Array Þ->Array Þ->StateT Ï ĸ (Array Þ):=sortPriv% PySem.Builtin.mergeHi
section
variable{w:Û}{prog:Ñ}{s:Æ}{E:Ä->Æ->Prop}{A:ä}
def lQ(x:Þ):Prop:=∃n t,x.1=ā n t
def Bp{st:Ï}{x y:Þ}{Q:Option Bool->Ï->Prop}(f:kindOf st=Ď)(e:lQ x)(c:lQ y)(h:∀b,Q (À b) st):ĝ .E A E s (lt' x y) Q st:=by
 obtain⟨a,t,g⟩:=e;obtain⟨b,u,d⟩:=c;rw[lt'_eq];refine Ym (wpS_get ?_);rw[f,keyLt'_oneType,g,d];exact Ym (wpS_lift (ϵ (oneLt_int #[rfl,XC (h _)])))
def wp_rule{st:Ï}{tag:String}{Q:Unit->Ï->Prop}(h:Q () st):ĝ .E A E s (liftM (rule tag):StateT Ï ĸ Unit) Q st:=wpS_lift (ack #[rfl,h])
def qN{st:Ï}{Q:Þ->Ï->Prop}(hi:i<arr.size)(h:Q arr[i] st):ĝ .E A E s (elem' arr i) Q st:=by
 rw[elem'_eq,abJ arr i hi];exact XC h
def yZ{st:Ï}{key:Þ}{Q:Option Bool->Ï->Prop}(e:kindOf st=Ď)(f:∀x∈arr,lQ x)(a:lQ key)(c:j<arr.size)(h:∀b,Q (À b) st):
  ĝ .E A E s (elem' arr j >>= λx=>if left=Á then lt' x key else (lt' key x >>= λr=>pure (Š (λb=>!b) r))) Q st:=by
 refine Ym (qN c ?_);have d:=f arr[j] (Zk c);cases left
 .exact Ym (Bp e a d λb=>XC (h _))
 .exact Bp e d a h
def M8{st:Ï}{key:Þ}{base hint:Nat}{Q:Option Nat->Ï->Prop}(p:kindOf st=Ď)(q:∀x∈arr,lQ x)(m:lQ key)(G:hint<n)(F:base+n<=arr.size)(h:∀k,k<=n->Q (À k) st):ĝ .E A E s (RO left key arr base n hint) Q st:=by
 unfold RO;refine Ym (yZ p q m .b λright=>?_)
 have d:∀{f:Nat->Option (Option Nat)×Nat×Nat->StateT Ï ĸ (ForInStep (Option (Option Nat)×Nat×Nat))} {g:Option (Option Nat)×Nat×Nat->StateT Ï ĸ (Option Nat)} {c:Option (Option Nat)×Nat×Nat} (P:Nat×Nat->Prop),
   (∀i u,P u->ĝ .E A E s (f i (none,u)) (λr j=>j=st/\((∃v,r=.done (none,v)/\P v)\/∃v,r=.yield (none,v)/\P v)) st)->c.1=none->P c.2->(∀u,P u->ĝ .E A E s (g (none,u)) Q st)->ĝ .E A E s (forIn [0:n] c f >>= g) Q st:=by
  intro f g c P B C D y;refine Ym (Ņ (I:=λ_ c j=>j=st/\c.1=none/\P c.2) ?_ ?_ #[rfl,C,D])
  .rintro i ⟨o,u⟩ j _ _ ⟨rfl,rfl,e⟩;refine ń (B i u e) ?_;rintro r j ⟨rfl,⟨v,rfl,t⟩|⟨v,rfl,t⟩⟩
   .exact y v t
   .exact#[rfl,rfl,t]
  .rintro⟨o,u⟩ j ⟨rfl,rfl,e⟩;exact y u e
 cases right
 .dsimp only;simp only[Z6,Zt];refine d (λ_=>True) ?_ rfl É ?_
  .rintro i ⟨a,l⟩ _;dsimp only;by_cases z:l≥hint+1
   .rw[Xo z];exact XC #[rfl,.inl #[_,rfl,É]]
   .rw[Xl z];refine Ym (yZ p q m .b λb=>?_);cases b
    .exact XC #[rfl,.inr #[_,rfl,É]]
    .exact XC #[rfl,.inl #[_,rfl,É]]
  .rintro⟨a,l⟩ _;dsimp only;refine d (λu=>u.2<=n) ?_ rfl .d ?_
   .rintro i ⟨lo,hi⟩ e;dsimp only at e ⊢;by_cases z:lo≥hi
    .rw[Xo z];exact XC #[rfl,.inl #[_,rfl,e]]
    .rw[Xl z];refine Ym (yZ p q m .b λb=>?_);cases b
     .exact XC #[rfl,.inr #[_,rfl,.d]]
     .exact XC #[rfl,.inr #[_,rfl,e]]
   .rintro⟨lo,hi⟩ e;exact XC (h _ e)
 .dsimp only;simp only[aaC];refine d (λ_=>True) ?_ rfl É ?_
  .rintro i ⟨a,l⟩ _;dsimp only;by_cases z:l≥n-hint
   .rw[Xo z];exact XC #[rfl,.inl #[_,rfl,É]]
   .rw[Xl z];refine Ym (yZ p q m .b λb=>?_);cases b
    .exact XC #[rfl,.inl #[_,rfl,É]]
    .exact XC #[rfl,.inr #[_,rfl,É]]
  .rintro⟨a,l⟩ _;dsimp only;refine d (λu=>u.2<=n) ?_ rfl .d ?_
   .rintro i ⟨lo,hi⟩ e;dsimp only at e ⊢;by_cases z:lo≥hi
    .rw[Xo z];exact XC #[rfl,.inl #[_,rfl,e]]
    .rw[Xl z];refine Ym (yZ p q m .b λb=>?_);cases b
     .exact XC #[rfl,.inr #[_,rfl,.d]]
     .exact XC #[rfl,.inr #[_,rfl,e]]
   .rintro⟨lo,hi⟩ e;exact XC (h _ e)
def aV{M:Type}{c:Prop}[Decidable c]{x y:StateT Ï ĸ M}{Q:M->Ï->Prop}{st:Ï}(h1:c->ĝ .E A E s x Q st)(h2:¬c->ĝ .E A E s y Q st):ĝ .E A E s (if c then x else y) Q st:=by
 by_cases z:c
 .rw[Xo z];exact h1 z
 .rw[Xl z];exact h2 z
def qZ{M:Type}{c:Prop}[Decidable c]{x y:StateT Ï ĸ M}{Q:M->Ï->Prop}{st:Ï}(h2:¬c->ĝ .E A E s y Q st)(h1:c->ĝ .E A E s x Q st):ĝ .E A E s (if c then x else y) Q st:=aV h1 h2
def Oy{M β γ δ ε:Type}{P:M×β×γ×δ×ε->Prop}(h:∀a b c d e,P (a,b,c,d,e))(x:M×β×γ×δ×ε):P x:=h x.1 x.2.1 x.2.2.1 x.2.2.2.1 x.2.2.2.2
def Oo{M β γ δ ε ζ:Type}{P:M×β×γ×δ×ε×ζ->Prop}(h:∀a b c d e f,P (a,b,c,d,e,f))(x:M×β×γ×δ×ε×ζ):P x:=h x.1 x.2.1 x.2.2.1 x.2.2.2.1 x.2.2.2.2.1 x.2.2.2.2.2
def OE{M β γ δ ε ζ η:Type}{P:M×β×γ×δ×ε×ζ×η->Prop}(h:∀a b c d e f g,P (a,b,c,d,e,f,g))(x:M×β×γ×δ×ε×ζ×η):P x:=h x.1 x.2.1 x.2.2.1 x.2.2.2.1 x.2.2.2.2.1 x.2.2.2.2.2.1 x.2.2.2.2.2.2
section
variable{M β:Type}{Q:β->Ï->Prop}{st:Ï}
def dS{f:Þ->StateT Ï ĸ β}(hi:i<arr.size)(h:ĝ .E A E s (f arr[i]) Q st):ĝ .E A E s (elem' arr i >>= f) Q st:=Ym (qN hi h)
def SK{x y:Þ}{f:Option Bool->StateT Ï ĸ β}(d:kindOf st=Ď)(a:lQ x)(c:lQ y)(h:∀b,ĝ .E A E s (f (À b)) Q st):ĝ .E A E s (lt' x y >>= f) Q st:=Ym (Bp d a c h)
def vn{tag:String}{f:Unit->StateT Ï ĸ β}(h:ĝ .E A E s (f ()) Q st):ĝ .E A E s ((liftM (rule tag):StateT Ï ĸ Unit) >>= f) Q st:=Ym (wp_rule h)
def ya{f:Ï->StateT Ï ĸ β}(h:ĝ .E A E s (f st) Q st):ĝ .E A E s ((get:StateT Ï ĸ Ï) >>= f) Q st:=Ym (wpS_get h)
def DF{key:Þ}{base hint:Nat}{f:Option Nat->StateT Ï ĸ β}(d:kindOf st=Ď)(c:∀x∈arr,lQ x)(e:lQ key)(b:hint<n)(a:base+n<=arr.size)(h:∀k,k<=n->ĝ .E A E s (f (À k)) Q st):ĝ .E A E s (RO left key arr base n hint >>= f) Q st:=Ym (M8 d c e b a h)
def wG{a b:Nat}{f:Nat->M->StateT Ï ĸ (ForInStep M)}{g:M->StateT Ï ĸ β}(I:Nat->M->Ï->Prop){P:M->Ï->Prop}
  (h1:∀i c st,a<=i->i<b->I i c st->ĝ .E A E s (f i c) (λr d=>match r with|.done c'=>P c' d|.yield c'=>I (i+1) c' d) st)
  (h2:∀c st,I (max a b) c st->P c st) {c:M} (h:I a c st) (e:∀c st,P c st->ĝ .E A E s (g c) Q st):ĝ .E A E s (forIn [a:b] c f >>= g) Q st:=Ym (ń (Ņ I h1 h2 h) e)
end
def Qg{P R:Nat->Prop}(h:∀m,P m->P (m-1)->R m)(k:∀m,P m)(m:Nat):R m:=h m (k m) (k (m-1))
def OH{M β:Type}{C P R:M->β->Prop}(h:∀x y,(∀x y,C x y->P x y)->R x y)(k:∀x y,C x y->P x y)(x:M)(y:β):R x y:=h x y k
def MI(a b:Array Þ)(out:Array Þ)(ia ib:Nat):Prop:=out.toList.Perm (a.toList.take ia++b.toList.take ib)
def Al(a b out:Array Þ):Prop:=out.toList.Perm (a.toList++b.toList)
def KP{M:Type}(a b c d:List M):((a++b)++(c++d)).Perm ((a++c)++(b++d)):=by
 rw[Yo,Yo];refine Y9 a ?_;rw[<-Yo];rw[<-Yo];exact YE d Zr
def MI.fin{a b:Array Þ}(h:MI a b out ia ib):(out.toList++(a.toList.drop ia++b.toList.drop ib)).Perm (a.toList++b.toList):=by
 refine(YE _ h).trans ((KP _ _ _ _).trans ?_);rw[YA,YA]
def rf(a:Array Þ)(i:Nat):(a.extract i a.size).toList=a.toList.drop i:=by
 rw[aaY];show(a.toList.drop i).take (a.size-i)=_;rw[ZH (by rw[Z7,XG];exact Xu _)]
def Fj(a:Array Þ)(i k:Nat):(a.extract i (i+k)).toList=(a.toList.drop i).take k:=by
 rw[aaY];show(a.toList.drop i).take (i+k-i)=_;rw[Nat.add_sub_cancel_left]
def MI.done{a b:Array Þ}(h:MI a b out ia ib):Al a b (out++a.extract ia++b.extract ib):=by
 show(out++a.extract ia a.size++b.extract ib b.size).toList.Perm _;rw[YB,YB,rf,rf,Yo];exact h.fin
def MI.last{a b:Array Þ}(h:MI a b out ia ib):Al a b (out++b.extract ib++a.extract ia):=by
 show(out++b.extract ib b.size++a.extract ia a.size).toList.Perm _;rw[YB,YB,rf,rf,Yo];exact(Y9 _ Zr).trans h.fin
def wg{a:Array Þ}(h:i<a.size):a.toList.take (i+1)=a.toList.take i++[a[i]]:=by
 rw[YZ];have e:a.toList[i]?=À a[i]:=by rw[YY];exact abJ a i h
 rw[e];rfl
def GZ(a:Array Þ)(i k:Nat):a.toList.take (i+k)=a.toList.take i++(a.toList.drop i).take k:=ϯ ..
theorem MI.b{a b out:Array Þ}{ia ib:Nat}(h:MI a b out ia ib)(c:ib<b.size):MI a b (out.push b[ib]) ia (ib+1):=by
 unfold MI;rw[Zy,wg c,<-Yo];exact YE _ h
theorem MI.a{a b out:Array Þ}{ia ib:Nat}(h:MI a b out ia ib)(ha:ia<a.size):MI a b (out.push a[ia]) (ia+1) ib:=by
 unfold MI;rw[Zy,wg ha,Yo];refine(YE _ h).trans ?_;rw[Yo];exact Y9 _ Zr
def MI.bk{a b:Array Þ}(h:MI a b out ia ib)(k:Nat):MI a b (out++b.extract ib (ib+k)) ia (ib+k):=by
 unfold MI;rw[YB,Fj,GZ,<-Yo];exact YE _ h
def MI.ak{a b:Array Þ}(h:MI a b out ia ib)(k:Nat):MI a b (out++a.extract ia (ia+k)) (ia+k) ib:=by
 unfold MI;rw[YB,Fj,GZ,Yo];refine(YE _ h).trans ?_;rw[Yo];exact Y9 _ Zr
def Sg(st a:Ï):Prop:=kindOf a=kindOf st/\Ġ a=Ġ st/\ē a=ē st/\Ŋ a=Ŋ st
def Sg.refl(st:Ï):Sg st st:=#[rfl,rfl,rfl,rfl]
noncomputable def Rw:Nat->StateT Ï ĸ Unit:=sortPriv% PySem.Builtin.setMinGallop
def NL{a st:Ï}{g:Nat}{Q:Unit->Ï->Prop}(c:Sg a st)(h:∀b,Sg a b->Q () b):ĝ .E A E s (Rw g) Q st:=by
 unfold Rw;exact abi (h _ c)
def H_{β:Type}{Q:β->Ï->Prop}{b st:Ï}{g:Nat}{f:Unit->StateT Ï ĸ β}(c:Sg b st)(h:∀a,Sg b a->ĝ .E A E s (f ()) Q a):ĝ .E A E s (Rw g >>= f) Q st:=Ym (NL c h)
structure Q1(a b:Array Þ)(m:Nat)(out:Array Þ)(ia ib:Nat):Prop where
 mi:MI a b out ia ib
 la:ia+1<a.size
 lb:ib<b.size
 pr:m<=ia+ib
def SV(a b:Array Þ)(m:Nat)(o:Option (Array Þ))(out:Array Þ)(ia ib:Nat):Prop:=(∃r,o=À r/\Al a b r)\/(o=none/\Q1 a b m out ia ib)
def NC{st:Ï}{a b:Array Þ}{Q:Array Þ->Ï->Prop}(σ:kindOf st=Ď)(ha:∀x∈a,lQ x)(hb:∀x∈b,lQ x)(a1:1<=a.size)(b1:1<=b.size)(h:∀out f,Sg st f->Al a b out->Q out f):ĝ .E A E s (Sw a b) Q st:=by
 have α:∀{i:Nat} (hi:i<a.size),lQ a[i]:=λhi=>ha _ (Zk hi);have O:∀{i:Nat} (hi:i<b.size),lQ b[i]:=λhi=>hb _ (Zk hi);unfold Sw;refine vn ?_;dsimp only;refine dS .b ?_
 have m0:MI a b (à [b[0]]) 0 1:=by
  unfold MI;rw[wg (by lia:0<b.size)];exact ac0 _
 refine aV (λz=>XC (h _ _ (Sg.refl _) m0.done)) (λz1=>?_);refine aV (λz=>XC (h _ _ (Sg.refl _) m0.last)) (λz2=>?_);have z1:1≠b.size:=by simpa using z1
 have z2:0+1≠a.size:=by simpa using z2
 refine ya ?_;refine wG (I:=λi c f=>Sg st f/\c.1=none/\Q1 a b (i+1) c.2.1 c.2.2.1 c.2.2.2.1) (P:=λc f=>Sg st f/\∃r,c.1=À r/\Al a b r) ?_ ?_ #[Sg.refl _,rfl,m0,.d,.d,.d] ?_
 .intro i;refine Oy λo out ia ib mg=>?_;intro J _ hi n;have sg:=n.1;have G:=n.2.1;have l:=n.2.2.mi;have m:=n.2.2.la;have e:=n.2.2.lb;have pr:=n.2.2.pr;clear n;dsimp only at G l m e pr ⊢;refine wG (I:=λj c f=>f=J/\c.1=none/\Q1 a b (ia+ib+j) c.2.1 c.2.2.1 c.2.2.2.1) (P:=λc f=>f=J/\SV a b (ia+ib+1) c.1 c.2.1 c.2.2.1 c.2.2.2.1) ?_ ?_ #[rfl,rfl,l,m,e,.d] ?_
  .intro j;refine Oo λo out p v ac bc=>?_;intro R _ hj n;have e2:=n.1;have G:=n.2.1;have l:=n.2.2.mi;have m:=n.2.2.la;have e:=n.2.2.lb;have H:=n.2.2.pr;clear n;subst e2;dsimp only at G l m e H ⊢;refine dS e (dS (by lia:p<a.size) (SK (by rw[sg.1];exact σ) (O e) (α .b) λbw=>?_));cases bw
   .refine dS (by lia:p<a.size) ?_;have t:=l.a (by lia:p<a.size);refine aV (λz=>XC #[rfl,.inl #[_,rfl,t.last]]) (λz=>?_);have z:p+1+1≠a.size:=by simpa using z
    refine aV (λ_=>XC #[rfl,.inr #[rfl,t,.d,e,.d]]) (λ_=>XC #[rfl,rfl,t,.d,e,.d])
   .refine dS e ?_;have t:=l.b e;refine aV (λz=>XC #[rfl,.inl #[_,rfl,t.done]]) (λz=>?_);have z:v+1≠b.size:=by simpa using z
    refine aV (λ_=>XC #[rfl,.inr #[rfl,t,m,.d,.d]]) (λ_=>XC #[rfl,rfl,t,m,.d,.d])
  .refine Oo λo out p v ac bc=>?_;rintro R ⟨rfl,G,l,m,e,H⟩;dsimp only at G l m e H;exact#[rfl,.inr #[G,l,m,e,.d]]
  .refine Oo λo out p v ac bc=>?_;rintro R ⟨rfl,⟨r,u,al⟩|⟨u,l,m,e,H⟩⟩
   .dsimp only at u ⊢;subst u;exact XC #[sg,r,rfl,al]
   .dsimp only at u l m e H ⊢;subst u;refine vn ?_;refine wG (I:=λj c f=>Sg st f/\c.1=none/\Q1 a b (p+v) c.2.1 c.2.2.1 c.2.2.2.1) (P:=λc f=>Sg st f/\SV a b (p+v) c.1 c.2.1 c.2.2.1 c.2.2.2.1) ?_ ?_ #[sg,rfl,l,m,e,Xu _] ?_
    .intro j;refine OE λo out g y D T L=>?_;intro N _ hj n;have B:=n.1;have G:=n.2.1;have l:=n.2.2.mi;have m:=n.2.2.la;have e:=n.2.2.lb;have q:=n.2.2.pr;clear n;dsimp only at G l m e q ⊢;revert D;apply Qg
     .intro D h1 h2;apply qZ
      .exact λ_=>h1
      .exact λ_=>h2
     intro D;refine H_ B λW d=>?_;refine dS e ?_;refine DF (by rw[d.1];exact σ) ha (O e) .b .b λk Z=>?_;dsimp only;revert out g
     exact OH (C:=λo i=>MI a b o i y/\i+1<a.size/\p+v<=i+y) (λout g key l m q Z=>by
      apply qZ
      .exact λk0=>key out g #[l,m,q]
      intro k0;have mk:=l.ak k;refine aV (λz=>XC #[d,.inl #[_,rfl,mk.last]]) (λz=>?_);refine aV (λz'=>XC #[d,.inl #[_,rfl,mk.done]]) (λz'=>?_)
      exact key _ _ #[mk,by simp at z z';lia,.b]) (λout g ⟨l,m,q⟩=>by
      refine dS e ?_;have X:=l.b e;refine aV (λz=>XC #[d,.inl #[_,rfl,X.done]]) (λz=>?_);have S:y+1<b.size:=by simp at z;lia
      refine dS (show g<a.size by lia) ?_;refine DF (by rw[d.1];exact σ) hb (α (show g<a.size by lia)) .b .b λk' hk'=>?_;dsimp only;refine aV (λk0'=>?_) (λk0'=>?_)
      .have V:=X.bk k';refine aV (λz=>XC #[d,.inl #[_,rfl,V.done]]) (λz=>?_);have Γ:y+1+k'<b.size:=by simp at z;lia
       refine dS (show g<a.size by lia) ?_;have K:=V.a (show g<a.size by lia);refine aV (λz=>XC #[d,.inl #[_,rfl,K.last]]) (λz=>?_);have F:g+1+1<a.size:=by simp at z;lia
       refine aV (λz=>XC #[d,.inr #[rfl,K,F,Γ,.d]]) (λz=>XC #[d,rfl,K,F,Γ,.d])
      .refine dS (show g<a.size by lia) ?_;have K:=X.a (show g<a.size by lia);refine aV (λz=>XC #[d,.inl #[_,rfl,K.last]]) (λz=>?_);have F:g+1+1<a.size:=by simp at z;lia
       refine aV (λz=>XC #[d,.inr #[rfl,K,F,S,.d]]) (λz=>XC #[d,rfl,K,F,S,.d]))
    .refine OE λo out g y D T L=>?_;rintro N ⟨B,G,l,m,e,q⟩;exact#[B,.inr #[G,l,m,e,q]]
    .refine OE λo out g y D T L=>?_;rintro N ⟨B,⟨r,u,al⟩|⟨u,l,m,e,q⟩⟩
     .dsimp only at u ⊢;subst u;exact XC #[B,r,rfl,al]
     .dsimp only at u l m e q ⊢;subst u;exact H_ B λW d=>XC #[d,rfl,l,m,e,.d]
 .refine Oy λo out ia ib mg=>?_;rintro J ⟨sg,G,l,m,e,pr⟩;exfalso;dsimp only at m e pr;lia
 .refine Oy λo out ia ib mg=>?_;rintro J ⟨sg,r,u,al⟩;dsimp only at u ⊢;subst u;exact XC (h _ _ sg al)
def MH(a b:Array Þ)(out:Array Þ)(na nb:Nat):Prop:=out.toList.Perm (a.toList.drop na++b.toList.drop nb)
def qQ(a:Array Þ)(n:Nat):(a.extract 0 n).toList=a.toList.take n:=by
 rw[aaY];rfl
def k_(a:Array Þ)(i j:Nat):(a.extract i j).toList=(a.toList.drop i).take (j-i):=by
 rw[aaY]
def MH.fin{a b:Array Þ}(h:MH a b out na nb):(a.toList.take na++b.toList.take nb++out.toList.reverse).Perm (a.toList++b.toList):=by
 refine(Y9 _ ((acg _).trans h)).trans ((KP _ _ _ _).trans ?_);rw[YA,YA]
def MH.done{a b:Array Þ}(h:MH a b out na nb):Al a b (a.extract 0 na++b.extract 0 nb++out.reverse):=by
 unfold Al;rw[YB,YB,qQ,qQ,aaZ];exact h.fin
def MH.first{a b:Array Þ}(h:MH a b out na nb):Al a b (b.extract 0 nb++a.extract 0 na++out.reverse):=by
 unfold Al;rw[YB,YB,qQ,qQ,aaZ];exact(YE _ Zr).trans h.fin
def xl{a:Array Þ}(h1:1<=n)(h:n-1<a.size):a.toList.drop (n-1)=a[n-1]::a.toList.drop n:=by
 have e:=aa8 (l:=a.toList) (i:=n-1) (by rw[XG];exact h);rw[e,show n-1+1=n by lia];rfl
theorem MH.a{a b out:Array Þ}{na nb:Nat}(h:MH a b out na nb)(h1:1<=na)(c:na-1<a.size):MH a b (out.push a[na-1]) (na-1) nb:=by
 unfold MH;rw[Zy,xl h1 c];exact(ab3 _ _).trans (Ě _ h)
theorem MH.b{a b out:Array Þ}{na nb:Nat}(h:MH a b out na nb)(h1:1<=nb)(c:nb-1<b.size):MH a b (out.push b[nb-1]) na (nb-1):=by
 unfold MH;rw[Zy,xl h1 c];exact(ab3 _ _).trans ((Ě _ h).trans List.perm_middle.symm)
def wL{a:Array Þ}(h:k<=n):a.toList.drop k=(a.toList.drop k).take (n-k)++a.toList.drop n:=by
 have e:=(YA (n-k) (a.toList.drop k)).symm;rw[ac7,show k+(n-k)=n by lia] at e;exact e
def MH.ak{a b:Array Þ}(h:MH a b out na nb)(h1:k<=na)(c:na<=a.size):MH a b (out++(a.extract k na).reverse) k nb:=by
 unfold MH;rw[YB,aaZ,k_,wL h1,Yo];rw[show(Ĥ (na-k) (Ĥ (na-k) (ĭ k a.toList)++ĭ na a.toList))=Ĥ (na-k) (ĭ k a.toList) by rw[<-wL h1]];exact(Zr.trans (List.Perm.append (acg _) h))
def MH.bk{a b:Array Þ}(h:MH a b out na nb)(h1:k<=nb)(c:nb<=b.size):MH a b (out++(b.extract k nb).reverse) na k:=by
 unfold MH;rw[YB,aaZ,k_,wL h1];rw[show(Ĥ (nb-k) (Ĥ (nb-k) (ĭ k b.toList)++ĭ nb b.toList))=Ĥ (nb-k) (ĭ k b.toList) by rw[<-wL h1]];refine(YE _ h).trans ?_;rw[Yo];exact Y9 _ (Zr.trans (YE _ (acg _)))
structure QR(a b:Array Þ)(k m:Nat)(out:Array Þ)(na nb:Nat):Prop where
 mi:MH a b out na nb
 la:1<=na
 la':na<=a.size
 lb:2<=nb
 lb':nb<=b.size
 pr:na+nb+k<=m
def SM(a b:Array Þ)(k m:Nat)(o:Option (Array Þ))(out:Array Þ)(na nb:Nat):Prop:=(∃r,o=À r/\Al a b r)\/(o=none/\QR a b k m out na nb)
def Me{st:Ï}{a b:Array Þ}{Q:Array Þ->Ï->Prop}(hk:kindOf st=Ď)(ha:∀x∈a,lQ x)(hb:∀x∈b,lQ x)(a1:1<=a.size)(b1:1<=b.size)(h:∀out l,Sg st l->Al a b out->Q out l):ĝ .E A E s (Su a b) Q st:=by
 have S:∀{i:Nat} (hi:i<a.size),lQ a[i]:=λhi=>ha _ (Zk hi);have Γ:∀{i:Nat} (hi:i<b.size),lQ b[i]:=λhi=>hb _ (Zk hi);unfold Su;refine vn ?_;dsimp only;refine dS (show a.size-1<a.size by lia) ?_
 have m0:MH a b (à [a[a.size-1]]) (a.size-1) b.size:=by
  unfold MH;rw[xl a1 .b,acX (by rw[XG];exact Xu _),acX (by rw[XG];exact Xu _)];exact ac0 _
 refine aV (λz=>XC (h _ _ (Sg.refl _) m0.done)) (λz1=>?_);refine aV (λz=>XC (h _ _ (Sg.refl _) m0.first)) (λz2=>?_);have na0:1<=a.size-1:=by simp at z1;lia
 have nb0:2<=b.size:=by simp at z2;lia
 refine ya ?_;refine wG (I:=λi c l=>Sg st l/\c.1=none/\QR a b (i+1) (a.size+b.size) c.2.2.2.1 c.2.1 c.2.2.1) (P:=λc l=>Sg st l/\∃r,c.1=À r/\Al a b r) ?_ ?_ #[Sg.refl _,rfl,m0,na0,.d,nb0,Xu _,.d] ?_
 .intro i;refine Oy λo na nb out mg=>?_;intro α _ hi m;have sg:=m.1;have K:=m.2.1;have n:=m.2.2.mi;have p:=m.2.2.la;have d:=m.2.2.la';have t:=m.2.2.lb;have e:=m.2.2.lb';have pr:=m.2.2.pr;clear m;dsimp only at K n p d t e pr ⊢;refine wG (I:=λj c l=>l=α/\c.1=none/\QR a b (j) (na+nb) c.2.2.2.1 c.2.1 c.2.2.1) (P:=λc l=>l=α/\SM a b (1) (na+nb) c.1 c.2.2.2.1 c.2.1 c.2.2.1) ?_ ?_ #[rfl,rfl,n,p,d,t,e,.d] ?_
  .intro j;refine Oo λo v u out ac bc=>?_;intro V _ hj m;have e2:=m.1;have K:=m.2.1;have n:=m.2.2.mi;have p:=m.2.2.la;have d:=m.2.2.la';have t:=m.2.2.lb;have e:=m.2.2.lb';have L:=m.2.2.pr;clear m;subst e2;dsimp only at K n p d t e L ⊢;refine dS (show u-1<b.size by lia) (dS (show v-1<a.size by lia) (SK (by rw[sg.1];exact hk) (Γ .b) (S .b) λbw=>?_));cases bw
   .refine dS (show u-1<b.size by lia) ?_;have B:=n.b (show 1<=u by lia) (show u-1<b.size by lia);refine aV (λz=>XC #[rfl,.inl #[_,rfl,B.first]]) (λz=>?_);have J:2<=u-1:=by simp at z;lia
    refine aV (λ_=>XC #[rfl,.inr #[rfl,B,p,d,J,.d,.d]]) (λ_=>XC #[rfl,rfl,B,p,d,J,.d,.d])
   .refine dS (show v-1<a.size by lia) ?_;have B:=n.a p (show v-1<a.size by lia);refine aV (λz=>XC #[rfl,.inl #[_,rfl,B.done]]) (λz=>?_);have J:1<=v-1:=by simp at z;lia
    refine aV (λ_=>XC #[rfl,.inr #[rfl,B,J,.d,t,e,.d]]) (λ_=>XC #[rfl,rfl,B,J,.d,t,e,.d])
  .refine Oo λo v u out ac bc=>?_;rintro V ⟨rfl,K,n,p,d,t,e,L⟩;dsimp only at K n p d t e L;exact#[rfl,.inr #[K,n,p,d,t,e,.d]]
  .refine Oo λo v u out ac bc=>?_;rintro V ⟨rfl,⟨r,D,al⟩|⟨D,n,p,d,t,e,L⟩⟩
   .dsimp only at D ⊢;subst D;exact XC #[sg,r,rfl,al]
   .dsimp only at D n p d t e L ⊢;subst D;refine vn ?_;refine wG (I:=λj c l=>Sg st l/\c.1=none/\QR a b (0) (v+u) c.2.2.2.1 c.2.1 c.2.2.1) (P:=λc l=>Sg st l/\SM a b (0) (v+u) c.1 c.2.2.2.1 c.2.1 c.2.2.1) ?_ ?_ #[sg,rfl,n,p,d,t,e,Xu _] ?_
    .intro j;refine OE λo f q out G σ R=>?_;intro T _ hj m;have F:=m.1;have K:=m.2.1;have n:=m.2.2.mi;have p:=m.2.2.la;have d:=m.2.2.la';have t:=m.2.2.lb;have e:=m.2.2.lb';have y:=m.2.2.pr;clear m;dsimp only at K n p d t e y ⊢;revert G;apply Qg
     .intro G h1 h2;apply qZ
      .exact λ_=>h1
      .exact λ_=>h2
     intro G;refine H_ F λst4 g=>?_;refine dS (show q-1<b.size by lia) ?_;refine DF (by rw[g.1];exact hk) ha (Γ (show q-1<b.size by lia)) .b .b λk W=>?_;dsimp only;generalize hc:f-k=c;revert out f
     exact OH (C:=λi o=>MH a b o i q/\1<=i/\i<=a.size/\i+q<=v+u) (λf out key n p d y W hc=>by
      apply qZ
      .exact λk0=>key f out #[n,p,d,y]
      intro k0;have mk:=n.ak W (show f<=a.size by lia);refine aV (λJ=>XC #[g,.inl #[_,rfl,mk.done]]) (λJ=>?_)
      exact key _ _ #[mk,by simp at J;lia,.b,.b]) (λf out ⟨n,p,d,y⟩=>by
      refine dS (show q-1<b.size by lia) ?_;have mb:=n.b (show 1<=q by lia) (show q-1<b.size by lia);refine aV (λz=>XC #[g,.inl #[_,rfl,mb.first]]) (λz=>?_);have X:2<=q-1:=by simp at z;lia
      refine dS (show f-1<a.size by lia) ?_;refine DF (by rw[g.1];exact hk) hb (S (show f-1<a.size by lia)) .b .b λk' hk'=>?_;dsimp only;refine aV (λk0'=>?_) (λk0'=>?_)
      .have O:=mb.bk hk' (show q-1<=b.size by lia);refine aV (λz=>XC #[g,.inl #[_,rfl,O.first]]) (λz=>?_);refine aV (λJ=>XC #[g,.inl #[_,rfl,O.done]]) (λJ=>?_);have Z:2<=k':=by simp at z J;lia
       refine dS (show f-1<a.size by lia) ?_;have N:=O.a (show 1<=f by lia) (show f-1<a.size by lia);refine aV (λz=>XC #[g,.inl #[_,rfl,N.done]]) (λz=>?_);have H:1<=f-1:=by simp at z;lia
       refine aV (λz=>XC #[g,.inr #[rfl,N,H,.d,Z,.d,.d]]) (λz=>XC #[g,rfl,N,H,.d,Z,.d,.d])
      .refine dS (show f-1<a.size by lia) ?_;have N:=mb.a (show 1<=f by lia) (show f-1<a.size by lia);refine aV (λz=>XC #[g,.inl #[_,rfl,N.done]]) (λz=>?_);have H:1<=f-1:=by simp at z;lia
       refine aV (λz=>XC #[g,.inr #[rfl,N,H,.d,X,.d,.d]]) (λz=>XC #[g,rfl,N,H,.d,X,.d,.d]))
    .refine OE λo f q out G σ R=>?_;rintro T ⟨F,K,n,p,d,t,e,y⟩;exact#[F,.inr #[K,n,p,d,t,e,y]]
    .refine OE λo f q out G σ R=>?_;rintro T ⟨F,⟨r,D,al⟩|⟨D,n,p,d,t,e,y⟩⟩
     .dsimp only at D ⊢;subst D;exact XC #[F,r,rfl,al]
     .dsimp only at D n p d t e y ⊢;subst D;exact H_ F λst4 g=>XC #[g,rfl,n,p,d,t,e,.d]
 .refine Oy λo na nb out mg=>?_;rintro α ⟨sg,K,n,p,d,t,e,pr⟩;exfalso;dsimp only at p t pr;lia
 .refine Oy λo na nb out mg=>?_;rintro α ⟨sg,r,D,al⟩;dsimp only at D ⊢;subst D;exact XC (h _ _ sg al)
variable{a₀:Array Þ}{pd:Array (Nat×Nat×Nat)}
structure PB(a₀:Array Þ)(pd:Array (Nat×Nat×Nat))(st:Ï):Prop where
 perm:(Ġ st).Perm a₀
 kind:kindOf st=Ď
 failed:Ŋ st=none
 pend:ē st=pd
def PB.size{st:Ï}(h:PB a₀ pd st):(Ġ st).size=a₀.size:=h.perm.size_eq
def PB.SG{st:Ï}(h:PB a₀ pd st)(b:∀x∈a₀,lQ x):∀x∈Ġ st,lQ x:=λx a=>b x (aaD.mpr ((aa1.mp h.perm).mem_iff.mp (aaD.mp a)))
def Co{st:Ï}{Q:Option Bool->Ï->Prop}(d:PB a₀ pd st)(f:∀x∈a₀,lQ x)(hi:i<a₀.size)(e:j<a₀.size)(h:∀b,Q (À b) st):ĝ .E A E s (ltAt' i j) Q st:=by
 rw[ltAt'_eq];have c:i<(Ġ st).size:=by rw[d.size];exact hi
 have a:j<(Ġ st).size:=by rw[d.size];exact e
 have k:=d.SG f;exact Ym (wpS_get (Ym (qN c (Ym (qN a (Bp d.kind (k _ (Zk c)) (k _ (Zk a)) h))))))
def NP{st:Ï}{Q:Unit->Ï->Prop}(b:PB a₀ pd st)(h:∀a,PB a₀ pd a->Q () a):ĝ .E A E s (reverseSlice' i j) Q st:=by
 rw[reverseSlice'_eq];exact abi (h _ #[(mirror_perm _ _ _ _).trans b.perm,b.kind,b.failed,b.pend])
def LW{st:Ï}{Q:Unit->Ï->Prop}(b:PB a₀ pd st)(h:∀a,PB a₀ pd a->Q () a):ĝ .E A E s (moveDown' i j) Q st:=by
 rw[moveDown'_eq];exact abi (h _ #[(bubble_perm _ _ _).trans b.perm,b.kind,b.failed,b.pend])
def NX{st:Ï}{ok:Nat}{Q:Bool->Ï->Prop}(p:PB a₀ pd st)(v:∀x∈a₀,lQ x)(B:lo+n<=a₀.size)(h:∀a,PB a₀ pd a->Q Á a):ĝ .E A E s (binarySort' lo n ok) Q st:=by
 unfold binarySort';refine Ym (ń (Ņ (I:=λ_ c a=>PB a₀ pd a/\c.1=none) (Q:=λc a=>PB a₀ pd a/\c.1=none) ?_ (λc a q=>q) #[p,rfl]) ?_)
 .rintro k ⟨o,u⟩ f _ y ⟨e,d⟩;dsimp only at d ⊢;subst d;refine Ym (ń (Ņ (I:=λ_ c a=>a=f/\c.1=none/\c.2.2<=k) (Q:=λc a=>a=f/\c.1=none/\c.2.2<=k) ?_ (λc a q=>q) #[rfl,rfl,Xu _]) ?_)
  .rintro j ⟨o,l,r⟩ i _ C ⟨rfl,d,g⟩;dsimp only at d g ⊢;subst d;refine aV (λ_=>XC #[rfl,rfl,g]) (λz=>?_);refine Ym (Co e v .b .b λb=>?_);cases b
   .exact XC #[rfl,rfl,g]
   .exact XC #[rfl,rfl,.d]
  .rintro⟨o,l,r⟩ i ⟨rfl,d,g⟩;dsimp only at d ⊢;subst d;exact Ym (LW e λt m=>XC #[m,rfl])
 .rintro⟨o,u⟩ f ⟨e,d⟩;dsimp only at d ⊢;subst d;exact XC (h _ e)
def zx{β:Type}{st:Ï}{f:Option Bool->StateT Ï ĸ β}{Q:β->Ï->Prop}(c:PB a₀ pd st)(d:∀x∈a₀,lQ x)(hi:i<a₀.size)(a:j<a₀.size)(h:∀b,ĝ .E A E s (f (À b)) Q st):ĝ .E A E s (ltAt' i j >>= f) Q st:=Ym (Co c d hi a h)
def Ih{β:Type}{st:Ï}{f:Unit->StateT Ï ĸ β}{Q:β->Ï->Prop}(b:PB a₀ pd st)(h:∀a,PB a₀ pd a->ĝ .E A E s (f ()) Q a):ĝ .E A E s (reverseSlice' i j >>= f) Q st:=Ym (NP b h)
def EE{β:Type}{c:Prop}[Decidable c]{st:Ï}{x y:StateT Ï ĸ β}{Q:β->Ï->Prop}(e:PB a₀ pd st)(b:∀a,PB a₀ pd a->ĝ .E A E s y Q a)(d:c->(∀a,PB a₀ pd a->ĝ .E A E s y Q a)->ĝ .E A E s x Q st):ĝ .E A E s (if c then x else y) Q st:=aV (λz=>d z b) (λ_=>b st e)
def Rn(m x n:Nat):Prop:=1<=n/\n<=m/\(n=x\/m<=x)
def Rn.up(h:Rn m x n)(a:x<m):Rn m (x+1) (n+1):=by unfold Rn at h ⊢;lia
def Rn.lt(h:Rn m x n)(a:x<m):n<m:=by unfold Rn at h;lia
def EU{β:Type}{st:Ï}{f:Nat->Option β×Nat->StateT Ï ĸ (ForInStep (Option β×Nat))}{g:Option β×Nat->StateT Ï ĸ β}{Q:β->Ï->Prop}(q:PB a₀ pd st)(t:Rn m x n)(p:∀i n a,PB a₀ pd a->1<=n->n<m->ĝ .E A E s (f i (none,n)) (λr a=>PB a₀ pd a/\(r=.done (none,n)\/r=.yield (none,n+1))) a)(l:∀n a,PB a₀ pd a->1<=n->n<=m->ĝ .E A E s (g (none,n)) Q a):ĝ .E A E s (forIn [x:m] (none,n) f >>= g) Q st:=by
 refine wG (I:=λx c a=>PB a₀ pd a/\c.1=none/\Rn m x c.2) (P:=λc a=>PB a₀ pd a/\c.1=none/\1<=c.2/\c.2<=m) ?_ (λc a h=>#[h.1,h.2.1,h.2.2.1,h.2.2.2.1]) #[q,rfl,t] ?_
 .rintro x ⟨o,n⟩ d _ e ⟨b,rfl,r⟩;refine ń (p x n d b r.1 (r.lt e)) ?_;rintro _ k ⟨h2,rfl|rfl⟩
  .exact#[h2,rfl,r.1,r.2.1]
  .exact#[h2,rfl,r.up e]
 .rintro⟨o,n⟩ d ⟨b,rfl,j,u⟩;exact l n d b j u
def M_{st:Ï}{a:Nat}{Q:Option Nat->Ï->Prop}(g:PB a₀ pd st)(p:∀x∈a₀,lQ x)(h1:1<=a)(N:lo+a<=a₀.size)(h:∀m e,PB a₀ pd e->1<=m->m<=a->Q (À m) e):ĝ .E A E s (countRun' lo a) Q st:=by
 unfold countRun';refine EU g #[Xu _,h1,.inl rfl] (λi n e g j k=>zx g p .b .b λb=>?_) λn B f j k=>?_
 .cases b
  .exact XC #[g,.inr rfl]
  .exact XC #[g,.inl rfl]
 refine aV (λ_=>XC (h _ _ f j k)) (λz=>?_);have K:n<a:=by simp at z;lia
 refine EE f (λH y=>?_) (λ_ J=>zx f p .b .b λb=>?_)
 .refine vn (wG (I:=λx c e=>PB a₀ pd e/\c.1=none/\Rn a x c.2.1) (P:=λc e=>PB a₀ pd e/\c.1=none/\1<=c.2.1/\c.2.1<=a) ?_ (λc e h=>#[h.1,h.2.1,h.2.2.1,h.2.2.2.1]) #[y,rfl,Ϟ _ _,K,.inl rfl] ?_)
  .rintro x ⟨o,l,ne⟩ v _ F ⟨d,rfl,r⟩;have:1<=l:=r.1;have:l<a:=r.lt F;have u:=r.up F;have D:lo+l<a₀.size:=by lia
   have G:lo+l-1<a₀.size:=by lia
   refine zx d p D G λb=>?_;cases b
   .refine zx d p G D λb=>?_;cases b
    .exact XC #[d,rfl,u]
    .exact XC #[d,rfl,r.1,r.2.1]
   .exact aV (λ_=>EE d (λ_ h=>XC #[h,rfl,u]) λ_ J=>Ih d J) (λq=>absurd rfl q)
  .rintro⟨o,l,ne⟩ v ⟨d,rfl,j,k⟩;refine EE d (λL t=>?_) (λ_ J=>Ih d J);refine Ih t λα C=>EU C #[j,k,.inl rfl] (λi n e g j k=>zx g p .b .b λb=>?_) λn B f j k=>XC (h _ _ f j k);cases b
   .exact XC #[g,.inr rfl]
   .exact XC #[g,.inl rfl]
 .cases b
  .exact Ih f J
  .exact XC (h _ _ f j k)
theorem Lm{xs:Array Þ}(b:Nat):∀(m:List Þ) (j:Nat) (xs:Array Þ),b+j+m.length<=xs.size->((m.zipIdx j).foldl (λa p=>a.setIfInBounds (b+p.2) p.1) xs).toList=xs.toList.take (b+j)++(m++xs.toList.drop (b+j+m.length))
 |[],j,xs,_=>by
  show xs.toList=_;rw[aaF];exact(YA _ _).symm
 |p::m,j,xs,h=>by
  rw[Yl] at h;rw[List.zipIdx_cons,acK];have d:=Lm (xs:=xs) b m (j+1) (xs.setIfInBounds (b+j) p) (by rw[acF];lia);rw[d,ab4];have c:b+j<xs.toList.length:=by rw[XG];lia
  rw[show b+(j+1)=b+j+1 by lia,YZ,List.take_set_of_le (Xu _),ZC c,List.drop_set_of_lt .b,Yl,Yo];rw[show b+j+1+m.length=b+j+(m.length+1) by lia];rfl
def Mu{st a:Ï}{Q:PUnit->Ï->Prop}(h:Q ⟨⟩ a):ĝ .E A E s (set a:StateT Ï ĸ PUnit) Q st:=Xp #[rfl,h]
def NZ{st:Ï}{d t c q:Nat}{Q:Bool->Ï->Prop}(l:PB a₀ pd st)(σ:∀x∈a₀,lQ x)(X:pd[i]?=À (d,na,t))(p2:pd[i+1]?=À (c,nb,q))(e:c=d+na)(hn:c+nb<=a₀.size)(n1:1<=na)(n2:1<=nb)(h:∀o,PB a₀ ((pd.setIfInBounds i (d,na+nb,t)).eraseIdxIfInBounds (i+1)) o->Q Á o):ĝ .E A E s (mergeAt' i) Q st:=by
 unfold mergeAt';refine ya ?_;have O:=l.size;have W:=l.SG σ;obtain⟨I,b,u,mg,K⟩:=st;have e1:I=Ď:=l.kind;have e2:K=none:=l.failed;have e3:u=pd:=l.pend;have e4:b.Perm a₀:=l.perm;subst e1 e2 e3;have N:b.size=a₀.size:=O;have f:∀x∈b,lQ x:=W;dsimp only;rw[X,p2];dsimp only;refine Ym (Mu ?_);refine dS (show c<b.size by lia) ?_;refine DF rfl f (f _ (Zk _)) .b .b λk hk=>?_;dsimp only;have r:PB a₀ ((u.setIfInBounds i (d,na+nb,t)).eraseIdxIfInBounds (i+1)) (ŀ Ď b ((u.setIfInBounds i (d,na+nb,t)).eraseIdxIfInBounds (i+1)) mg none):=#[e4,rfl,rfl,rfl];refine aV (λ_=>XC (h _ r)) (λz=>?_);have z':k<na:=by simp at z;lia
 refine dS (show d+k+(na-k)-1<b.size by lia) ?_;refine DF rfl f (f _ (Zk _)) .b .b λm hm=>?_;dsimp only;refine aV (λ_=>XC (h _ r)) (λZ=>?_);have α:1<=m:=by simp at Z;lia
 have L:(b.extract (d+k) c).size=na-k:=by rw[Ų];lia
 have V:(b.extract c (c+m)).size=m:=by rw[Ų];lia
 have F:∀x∈b.extract (d+k) c,lQ x:=λx v=>f x (by
  have:=aaD.mp v;rw[k_] at this
  exact aaD.mpr (ţ (aa0 this)))
 have C:∀x∈b.extract c (c+m),lQ x:=λx v=>f x (by
  have:=aaD.mp v;rw[k_] at this
  exact aaD.mpr (ţ (aa0 this)))
 have J:∀merged:Array Þ,Al (b.extract (d+k) c) (b.extract c (c+m)) merged->(merged.toList.zipIdx.foldl (λa x=>match x with|(p,j)=>a.setIfInBounds (d+k+j) p) b).Perm a₀:=λmerged al=>by
  refine(aa1.mpr ?_).trans e4;have g:merged.toList.Perm ((b.extract (d+k) c).toList++(b.extract c (c+m)).toList):=al;have D:merged.toList.length=na-k+m:=by rw[g.length_eq,XQ,XG,XG,L,V]
  have T:=Lm (xs:=b) (d+k) merged.toList 0 b (by rw[D];lia);have B:(merged.toList.zipIdx.foldl (λa x=>match x with|(p,j)=>a.setIfInBounds (d+k+j) p) b).toList=_:=T;rw[B,Nat.add_zero,D]
  have G:(b.extract (d+k) c).toList++(b.extract c (c+m)).toList=(b.toList.drop (d+k)).take (na-k+m):=by
   rw[k_,k_,ϯ,ac7];rw[show c-(d+k)=na-k by lia,show c+m-c=m by lia,show d+k+(na-k)=c by lia]
  rw[G] at g;refine(Y9 _ (YE _ g)).trans ?_;have R:b.toList.drop (d+k+(na-k+m))=(b.toList.drop (d+k)).drop (na-k+m):=by rw[ac7]
  rw[R,YA,YA]
 refine aV (λ_=>Ym (NC rfl F C .b .b λmerged n sg al=>?_)) (λ_=>Ym (Me rfl F C .b .b λmerged n sg al=>?_))
 all_goals
  obtain⟨P,H,y,g2,S⟩:=n;have e1:P=Ď:=sg.1;have e2:H=b:=sg.2.1;have e3:y=_:=sg.2.2.1;have Γ:S=none:=sg.2.2.2;subst e1 e2 e3 Γ;exact Ym (abi (ya (XC (h _ #[J merged al,rfl,rfl,rfl]))))
def Cg:List (Nat×Nat×Nat)->Nat->Nat->Prop
 |[],b,e=>b=e
 |u::l,b,e=>u.1=b/\1<=u.2.1/\Cg l (b+u.2.1) e
theorem Lg:∀{l:List (Nat×Nat×Nat)} {b e:Nat},Cg l b e->b<=e
 |[],_,_,h=>abF h
 |_::_,_,_,⟨_,_,h⟩=>Ye (Nat.le_add_right _ _) (Lg h)
theorem FU:∀{l:List (Nat×Nat×Nat)} {b e i:Nat} {u v:Nat×Nat×Nat},Cg l b e->l[i]?=À u->l[i+1]?=À v->(v.1=u.1+u.2.1/\1<=u.2.1/\1<=v.2.1/\v.1+v.2.1<=e)/\Cg ((l.set i (u.1,u.2.1+v.2.1,u.2.2)).eraseIdx (i+1)) b e
 |[],_,_,_,_,_,_,h,_=>by cases h
 |[_],_,_,0,_,_,_,_,h=>by cases h
 |x::y::l,b,e,0,u,v,⟨h1,h2,d,k,j⟩,g,f=>by
  cases g;cases f;have:=Lg j;refine#[#[by rw[d,h1],h2,k,by rw[d];exact this],h1,.d,?_];show Cg l (b+(x.2.1+y.2.1)) e;rw[<-Nat.add_assoc];exact j
 |x::l,b,e,i+1,u,v,⟨h1,h2,d⟩,g,f=>by
  obtain⟨a,c⟩:=FU (i:=i) d g f;exact#[a,h1,h2,c]
theorem E6:∀{l:List (Nat×Nat×Nat)} {b e n q:Nat},Cg l b e->1<=n->Cg (l++[(e,n,q)]) b (e+n)
 |[],_,_,_,_,h,h1=>by cases h;exact#[rfl,h1,rfl]
 |_::_,_,_,_,_,⟨a,c,d⟩,h1=>#[a,c,E6 d h1]
def BF{pd:Array (Nat×Nat×Nat)}{e q:Nat}(h:Cg pd.toList 0 e)(h1:1<=n):Cg (pd.push (e,n,q)).toList 0 (e+n):=by
 rw[Zy];exact E6 h h1
theorem D8{f:Nat×Nat×Nat->Nat×Nat×Nat}(a:∀u,(f u).1=u.1/\(f u).2.1=u.2.1):∀{l:List (Nat×Nat×Nat)} {b e:Nat} (i:Nat),Cg l b e->Cg (l.modify i f) b e
 |[],_,_,i,h=>by rw[List.modify_nil];exact h
 |u::l,b,e,0,⟨h1,h2,c⟩=>by
  rw[List.modify_zero_cons];refine#[(a u).1.trans h1,by rw[(a u).2];exact h2,by rw[(a u).2];exact c]
 |u::l,b,e,i+1,⟨h1,h2,c⟩=>by
  rw[List.modify_succ_cons];exact#[h1,h2,D8 a i c]
def dW{pd:Array (Nat×Nat×Nat)}{e:Nat}{f:Nat×Nat×Nat->Nat×Nat×Nat}(h:Cg pd.toList 0 e)(a:∀u,(f u).1=u.1/\(f u).2.1=u.2.1:=by intro u;exact#[rfl,rfl]):Cg (pd.modify i f).toList 0 e:=by
 rw[Array.toList_modify];exact D8 a i h
def Lh{st:Ï}{Q:Bool->Ï->Prop}(f:PB a₀ pd st)(v:∀x∈a₀,lQ x)(r:Cg pd.toList 0 lo)(g:lo<=a₀.size)(hi:i+1<pd.size)(h:∀b a,PB a₀ b a->Cg b.toList 0 lo->Q Á a):ĝ .E A E s (mergeAt' i) Q st:=by
 obtain⟨⟨o,na,n⟩,e⟩:∃u,pd[i]?=À u:=#[_,abJ pd i .b];obtain⟨⟨t,nb,q⟩,p2⟩:∃u,pd[i+1]?=À u:=#[_,abJ pd (i+1) hi];have q1:pd.toList[i]?=À (o,na,n):=by rw[YY];exact e
 have k:pd.toList[i+1]?=À (t,nb,q):=by rw[YY];exact p2
 obtain⟨⟨l,j,p,m⟩,c⟩:=FU r q1 k;refine NZ f v e p2 l (by dsimp only at m;lia) j p λa d=>h _ a d ?_;rw[Array.eraseIdxIfInBounds,aa4 (by rw[acF];exact hi),Array.toList_eraseIdx,ab4];exact c
def PB.KJ{st:Ï}{u:Nat×Nat×Nat}(h:PB a₀ pd st):PB a₀ (pd.push u) (ŀ (kindOf st) (Ġ st) ((ē st).push u) (gallopOf st) (Ŋ st)):=#[h.perm,h.kind,h.failed,by show(ē st).push u=_;rw[h.pend]]
def PB.Rf{st:Ï}{f:Nat×Nat×Nat->Nat×Nat×Nat}(h:PB a₀ pd st):PB a₀ (pd.modify (pd.size-1) f) (ŀ (kindOf st) (Ġ st) ((ē st).modify ((ē st).size-1) f) (gallopOf st) (Ŋ st)):=#[h.perm,h.kind,h.failed,by show(ē st).modify ((ē st).size-1) f=_;rw[h.pend]]
def Fw{M β γ:Type}{st:Ï}{a b:Nat}{f:Nat->Option γ×M->StateT Ï ĸ (ForInStep (Option γ×M))}{u:M}{g:Option γ×M->StateT Ï ĸ β}{Q:β->Ï->Prop}(C:M->Ï->Prop)(l:C u st)(k:∀i u d,C u d->ĝ .E A E s (f i (none,u)) (λr d=>∃v,(r=.done (none,v)\/r=.yield (none,v))/\C v d) d)(j:∀u d,C u d->ĝ .E A E s (g (none,u)) Q d):ĝ .E A E s (forIn [a:b] (none,u) f >>= g) Q st:=by
 refine wG (I:=λ_ c d=>c.1=none/\C c.2 d) (P:=λc d=>c.1=none/\C c.2 d) ?_ (λc d q=>q) #[rfl,l] ?_
 .rintro i ⟨o,u⟩ e _ _ ⟨rfl,h1⟩;refine ń (k i u e h1) ?_;rintro _ h ⟨v,rfl|rfl,h2⟩
  .exact#[rfl,h2]
  .exact#[rfl,h2]
 .rintro⟨o,u⟩ e ⟨rfl,h1⟩;exact j u e h1
def LK{st:Ï}{Q:Unit->Ï->Prop}(G:PB a₀ #[] st)(B:∀x∈a₀,lQ x)(h:∀e pd,PB a₀ pd e->Q () e):ĝ .E A E s sortRuns' Q st:=by
 unfold sortRuns';refine ya ?_;have I:=G.size;dsimp only[Ġ] at I;dsimp only;rw[I];refine Fw (λlo e=>∃d,PB a₀ d e/\Cg d.toList 0 lo/\lo<=a₀.size) #[#[],G,(show Cg [] 0 0 from rfl),Yr _] (λx lo D ⟨j,k,t,y⟩=>?_) (λlo D ⟨j,k,t,y⟩=>?_)
 .refine aV (λ_=>XC #[_,.inl rfl,j,k,t,y]) (λP=>?_);refine Ym (M_ k B .b .b λm v l m1 m2=>?_);refine aV (λF=>vn (Ym (NX l B .b λv l=>aV (λq=>absurd q .a) (λ_=>have n:1<=min (a₀.size-lo) (minRun' a₀.size a₀.size 0):=(by have:m<minRun' a₀.size a₀.size 0:=F;lia);?_)))) (λF=>have n:=m1;?_)
  all_goals
   refine ya ?_;cases R:(ē v).back? with
   |none=>exact Ym (abi (XC #[_,.inr rfl,_,l.KJ,BF t n,.b]))
   |some u =>
    obtain⟨N,O,q1⟩:=u;refine Fw (λ_ e=>∃d,PB a₀ d e/\Cg d.toList 0 lo) #[j,l,t] (λ_ u i ⟨g,a,b⟩=>?_) (λ_ i ⟨g,a,b⟩=>?_)
    rotate_left
    .exact Ym (abi (Ym (abi (XC #[_,.inr rfl,_,a.Rf.KJ,BF (dW b) n,.b]))))
    refine ya ?_;obtain⟨K,L,f,J,α⟩:=i;have ep:f=g:=a.pend;subst ep;dsimp only;by_cases H:f.size>1
    .rw[Xo H,abJ f (f.size-2) .b];exact aV (λ_=>XC #[_,.inl rfl,f,a,b]) (λ_=>Ym (Lh a B b .b .b λr C p o=>XC #[_,.inr rfl,r,p,o]))
    .rw[Xl H];exact XC #[_,.inl rfl,f,a,b]
 .refine Fw (λ_ e=>∃d,PB a₀ d e/\Cg d.toList 0 lo) #[j,k,t] (λ_ u i ⟨g,a,b⟩=>?_) (λ_ i ⟨g,a,b⟩=>XC (h _ _ a));refine ya ?_;obtain⟨K,L,f,J,α⟩:=i;have ep:f=g:=a.pend;subst ep;dsimp only;refine aV (λ_=>XC #[_,.inl rfl,f,a,b]) (λz=>?_);have key:∀(c:Prop) [Decidable c],(if c then f.size-2-1 else f.size-2)+1<f.size:=λc _=>by split<;>lia
  exact Ym (Lh a B b .b (key _) λr C p o=>XC #[_,.inr rfl,r,p,o])
variable{vs:List Ä}{ns:List Int}{a kS:Ç}{keys:Array Ä}{e e1:Nat}{P:PySem.Fin->Æ->Prop}
theorem x9:∀{vs:List Ä},(∀v∈vs,∃n t,v=ā n t)->ó vs (vs.map numOf)
 |[],_=>.nil
 |v::vs,h=>by
  obtain⟨n,t,rfl⟩:=h v (XA ..);exact .cons n t (x9 λu a=>h u (Xx _ a))
def Dv{vs:List Ä}{ns:List Int}(h:us.Perm vs)(a:ó vs ns):∃b,ó us b/\b.Perm ns:=by
 refine#[us.map numOf,x9 λv c=>a.all v (h.mem_iff.mp c),?_];rw[<-a.nums];exact h.map _
def Kp(a kS:Ç)(h h':â):Prop:=∀b o,b≠a->b≠kS->h.get? b=À o->h'.get? b=À o
def Od{st:Ï}(l:s.heap.get? kS=À (å "list" keys e))(na:s.heap.get? a=À (å "list" #[] e1))(i:kS≠a)(hz:keys.size<=1000)(j:(Ġ st).size<=1000)(g:Ŋ st=none)
  (h:∀h' tk c,Kp a kS s.heap h'->h'.get? a=À (å "list" ((Ġ st).map (·.2)) c)->P (.done (.ret .none)) {s with heap:=h',toks:=tk}):Î .E A (ksk_tail a Â e1 (.ref kS) st) P E s:=by
 have k:=Yh s.heap kS (Ú λ_=>(#[]:Array Ä));have d:(s.heap.update kS (Ú λ_=>(#[]:Array Ä))).get? a=À (å "list" #[] e1):=(k.2 a i.symm).trans na;have n:=Yh (s.heap.update kS (Ú λ_=>(#[]:Array Ä))) a (Ú λ_=>(Ġ st).map (·.2));obtain⟨c2,f⟩:∃c2,((s.heap.update kS (Ú λ_=>(#[]:Array Ä))).update a (Ú λ_=>(Ġ st).map (·.2))).get? a=À (å "list" ((Ġ st).map (·.2)) c2):=#[_,aa9 d λ_=>(Ġ st).map (·.2)];have p:((Ġ st).map (·.2)).size<=1000:=by rw[Array.size_map];exact j
 unfold ksk_tail;dsimp only;refine Xk (ab5 l rfl ?_ (by rw[Ϛ];lia) (Yr _));refine Xk (wpAny_letGo (Xk (seqEpoch_at d rfl ?_)));refine Xk (ab5 d rfl ?_ (Yr _) (by show((Ġ st).map (·.2)).size<=_;rw[Ϛ];lia));rw[g];simp only[Z6,Zt,bne_self_eq_false];refine Xp (h _ _ c2 (λb o b1 b2 m=>?_) f);exact(n.2 b b1).trans ((k.2 b b2).trans m)
def s_end(k:s.heap.get? kS=À (å "list" keys e))(na:s.heap.get? a=À (å "list" #[] e1))(g:kS≠a){j:List Int}(d:ó keys.toList j)(i:j.length=vs.length)(h2:2<=vs.length)(l:vs.length<=1000)
  (h:∀h' tk out c,Kp a kS s.heap h'->h'.get? a=À (å "list" out c)->out.toList.Perm vs->P (.done (.ret .none)) {s with heap:=h',toks:=tk}):Î .E A (ksk_end a Â vs.toArray e1 (.ref kS) keys) P E s:=by
 have hsz:keys.size=vs.length:=by
  have h1:=d.length;rw[XG] at h1;lia
 have f:(keys.zip vs.toArray).size=vs.length:=by rw[Array.size_zip,hsz,XR,Nat.min_self]
 unfold ksk_end;dsimp only;rw[Xl .a,Xl (by rw[XR];lia),Xl (by rw[XR];lia),ksk_kind d .b];refine Xk (Xp ?_);have o:∀x∈keys.zip vs.toArray,lQ x:=λx m=>ksk_intKeys (vs:=vs) d x (aaD.mp m);refine Xk (ZP (LK (a₀:=keys.zip vs.toArray) (st:=ŀ Ď (keys.zip vs.toArray) #[] 7 none) (Q:=λ_ b=>∃pd,PB (keys.zip vs.toArray) pd b) #[Array.Perm.refl _,rfl,rfl,rfl] o λb pd hp=>#[pd,hp]) ?_ λ_ _ z=>z);rintro⟨⟨⟩,b⟩ s' ⟨rfl,pd,hp⟩;dsimp only;refine Od k na g .b (by rw[hp.size,f];exact l) hp.failed λh' tk c kp n=>h h' tk _ c kp n ?_;have q:=(aa1.mp hp.perm).map Prod.snd;rw[Array.toList_map];rw[ksk_zip] at q;have e2:(keys.toList.zip vs).map Prod.snd=vs:=List.map_snd_zip (abF (hsz.symm.trans (XG (xs:=keys)).symm));rw[e2] at q;exact q
variable{l:Ç}{Q:Ä->Æ->Prop}
noncomputable def qI(n:Int):Int:=if n<0 then -n else n
def EJ{a:List Int}(h:ó us a):us.length=a.length:=h.length
def JI{b:List Int}{x:Ä}(h:ó us b)(a:us[j]?=À x):∃n t,x=ā n t/\b[j]?=À n:=by
 induction h generalizing j with
 |nil=>cases a
 |cons n t _ c =>
  cases j with
  |zero=>cases a;exact#[n,t,rfl,rfl]
  |succ j=>exact c a
def Mz(I:s.heap.get? kS=À (å "list" #[] 0))(na:s.heap.get? a=À (å "list" #[] e1))(l:kS≠a)(F:ó vs ns)(h2:2<=vs.length)(α:vs.length<=1000)
  (h:∀h' tk out c,Kp a kS s.heap h'->h'.get? a=À (å "list" out c)->out.toList.Perm vs->P (.done (.ret .none)) {s with heap:=h',toks:=tk}):Î .E A (ksk_rest a (.builtin "abs") Â vs.toArray e1 (.ref kS)) P E s:=by
 have K:=EJ F;unfold ksk_rest;refine Xk (ack ?_);rw[List.forIn_toArray];refine Xk (ksk_fold (λi s'=>∃h' tk f e,s'={s with heap:=h',toks:=tk}/\Kp a kS s.heap h'/\h'.get? kS=À (å "list" f e)/\h'.get? a=À (å "list" #[] e1)/\ó f.toList ((ns.map qI).take i)) vs 0 s #[s.heap,s.toks,#[],0,rfl,λ_ _ _ _ z=>z,I,na,IntsAre.nil] ?_ ?_)
 .rintro j x s' G ⟨h',tk,f,e,rfl,kp,d,g,k⟩;simp only[Nat.zero_add] at k ⊢;obtain⟨n,t,rfl,v⟩:=JI F G;have O:j<vs.length:=(Xy.mp G).1;have C:(ns.map qI)[j]?=À (qI n):=by rw[XI,v];rfl
  have hz:f.size<=1000:=by
   have h1:=k.length;rw[XG,Zs] at h1;lia
  refine Xk (ϵ (call_abs_int λu N=>?_));dsimp only;have D:=Yh h' kS (Ú (·.push (.int (qI n) u)));obtain⟨c2,m⟩:∃c2,(h'.update kS (Ú (·.push (.int (qI n) u)))).get? kS=À (å "list" (f.push (.int (qI n) u)) c2):=#[_,aa9 d (·.push (.int (qI n) u))];have ek:(ns.map qI).take (j+1)=(ns.map qI).take j++[qI n]:=by rw[YZ,C];rfl
  have J:(f.push (ā (qI n) u)).toList=f.toList++[ā (qI n) u]:=Zy ..;refine Xk (ab5 d rfl ?_ (by rw[Ϛ];lia) (Ye (abF (Array.size_push ..)) (by rw[Ϛ];lia)));refine Xp #[rfl,_,_,f.push (.int (qI n) u),c2,rfl,λb o b1 b2 B=>(D.2 b b2).trans (kp b o b1 b2 B),m,(D.2 a l.symm).trans g,by rw[J,ek];exact ksk_snoc k]
 .rintro s' ⟨h',tk,f,e,rfl,kp,d,g,k⟩
  have p:ó f.toList (ns.map qI):=by
   rw[ZH (by rw[Xv];lia)] at k;exact k
  refine Xk (listItems_at d rfl ?_);exact s_end d g l p (by rw[Xv];lia) h2 α λH q out c y r L=>h H q out c (λb o b1 b2 B=>y b o b1 b2 (kp b o b1 b2 B)) r L
def Mp(f:s.heap.get? a=À (å "list" vs.toArray n))(k:ó vs ns)(h2:2<=vs.length)(p:vs.length<=1000)
  (h:∀h' tk out c,(∀b o,b≠a->s.heap.get? b=À o->h'.get? b=À o)->h'.get? a=À (å "list" out c)->out.toList.Perm vs->P (.done (.ret .none)) {s with heap:=h',toks:=tk}):Î .E A (ksk_tree a (.builtin "abs") Â) P E s:=by
 have ha:a<s.heap.objs.size:=XE f;have j:=Yh s.heap a (Ú λ_=>(#[]:Array Ä));obtain⟨e1,e⟩:∃e1,(s.heap.update a (Ú λ_=>(#[]:Array Ä))).get? a=À (å "list" #[] e1):=#[_,aa9 f λ_=>#[]];have d:((s.heap.update a (Ú λ_=>(#[]:Array Ä))).push (å "tuple" vs.toArray 0)).objs.size=s.heap.objs.size+1:=by rw[size_push',ω]
 unfold ksk_tree;refine Xk (listItems_at f rfl ?_);refine Xk (ab5 f rfl ?_ (by rw[XR,Ϛ];lia) (Yr _));refine Xk (seqEpoch_at e rfl (Xk (wpAny_newTuple ?_ (by show vs.length<=_;rw[Ϛ];lia))));refine Xk (abY ?_ (Yr _));refine Zg ?_;refine Mz (s:={s with heap:=((s.heap.update a (Ú λ_=>(#[]:Array Ä))).push (å "tuple" vs.toArray 0)).push (å "list" #[] 0)}) (kS:=((s.heap.update a (Ú λ_=>(#[]:Array Ä))).push (å "tuple" vs.toArray 0)).objs.size) (XN _ rfl) (Xw _ (Xw _ e)) (by rw[d];exact acp (Y5 ha)) k h2 p ?_;intro h' tk out c kp m l;refine h h' tk out c (λb o b1 i=>?_) m l;have g:b<s.heap.objs.size:=XE i;exact kp b o b1 (by rw[d];exact X5 (Y5 g)) (Xw _ (Xw _ ((j.2 b b1).trans i)))
def Eo(i:s.heap.IsList l vs.toArray)(g:ó vs ns)(h2:2<=vs.length)(f:vs.length<=1000)
  (h:∀h' tk out c,(∀b o,s.heap.get? b=À o->h'.get? b=À o)->h'.get? (s.heap.objs.size+1)=À (å "list" out c)->out.toList.Perm vs->Q (.ref (s.heap.objs.size+1)) {s with heap:=h',toks:=tk}):Î .E A (call (.builtin "sorted") [.ref l] [(ô "key",.builtin "abs")]) Q E s:=by
 refine call_function_entry_kw kind_sorted plain_sorted entry_sorted (ksk_s1 _ _) ?_;unfold đ.«sorted»;refine Xk (m:=checkCount "sorted" 1 1 _) (Xp (Xk (collect_list i ?_ (by rw[Ϛ];lia))));refine Xk (abY ?_ (by rw[Ϛ];lia));have hsz:((s.heap.push (å "list" #[] 0)).update s.heap.objs.size (Ú (·++vs.toArray))).objs.size=s.heap.objs.size+1:=by rw[ω,size_push']
 have d:(((s.heap.push (å "list" #[] 0)).update s.heap.objs.size (Ú (·++vs.toArray))).push (å "list" vs.toArray 0)).get? (s.heap.objs.size+1)=À (å "list" vs.toArray 0):=by rw[<-hsz];exact XN _ rfl
 have keep:∀b o,s.heap.get? b=À o->(((s.heap.push (å "list" #[] 0)).update s.heap.objs.size (Ú (·++vs.toArray))).push (å "list" vs.toArray 0)).get? b=À o:=λb o q=>by
  have a:b<s.heap.objs.size:=XE q;rw[Χ _ _ _ (by rw[hsz];exact X5 (Y5 a)),Heap.get?_update_ne _ _ _ _ (X5 a),Χ _ _ _ (X5 a)];exact q
 show Î _ _ _ _ _ {s with heap:=((s.heap.push (å "list" #[] 0)).update s.heap.objs.size (Ú (·++vs.toArray))).push (å "list" vs.toArray 0)};rw[hsz];refine Xk (Zg (wpAny_call_entry_kw slot_list_sort #[_,d,rfl] entry_list_sort ?_ (ksk_l1 _ _)));rw[ksk_t4];refine Mp d g h2 f λh' tk out c kp k j=>#[_,rfl,?_];refine Xp #[_,rfl,h h' tk out c (λb o e=>kp b o (λz=>?_) (keep b o e)) k j];have a:b<s.heap.objs.size:=XE e;rw[z] at a;exact absurd a (aaW.mpr (Ϥ _))
end
end L2.Srt
namespace L2.EP
open PySem PySem.Spec PyProof.Rows
section
variable{X:Cx}{U:aK}{e:Õ}{b:Bool}{p q kp pos:ò}{t:TA}
def SD(K:Ã)(xs:List V)(H:Hp)(Q:VK):Prop:=∃p,∃ns:List Int,xs=[.ref p]/\dX K H p (ns.map V.int)/\2<=ns.length/\ns.length<=1000/\∀l (a:List Int),H l=none->a.Perm ns->Q (.ref l) (upd H l (.lst (a.map V.int)))
def AZ{Z2:List (Ç×ü)}{s:Æ}{Y:St}{H:Hp}{xs:List V}{us:List Ä}{Q:VK}(I:Inv X Z2 Y H s)(r:Vals xs us)(h:SD X.K xs H Q):Î .F X.A (call (.builtin "sorted") us [(ô "key",.builtin "abs")]) (EP X Z2 Y Q) X.xe s:=by
 obtain⟨p,ns,rfl,e,h2,k,q⟩:=h;obtain⟨u,rfl,g⟩:=vals1 r;cases g;obtain⟨XV,b,pl,_⟩:=I.list e;have hi:=intsAre_of b;have l:XV.length=ns.length:=by rw[<-b.length,Xv]
 refine L2.Srt.Eo pl.isList hi .b .b λh' tk out c kp j i=>?_;obtain⟨a,f,d⟩:=L2.Srt.Dv i hi
 have lo:(a.map V.int).length<=sizeLine:=by
  rw[Xv,d.length_eq];exact Ye k .a
 exact#[.ref (s.heap.objs.size+1),_,I.laid (t':=tk) (o:=.lst (a.map V.int)) kp (Ϥ _) #[lo,out.toList,c,wI f,j],rfl,q _ a (I.hok.fresh (Ϥ _)) d]
def GJ(d:Gl X "sorted")(g:X.mg "sorted"=none)(b:Gl X "abs")(a:X.mg "abs"=none)(ha:PA X [e] t)(he:autoParam (Å [e] X.env=(Â,Ý e X.env)::Å [] X.env) zra):
  PE X (.Call (.Name "sorted" p) [e] [#[À (ô "key"),.Name "abs" q,kp]] pos) (λY H Q=>t Y H λvs H1=>SD X.K vs H1 Q):=by
 intro Z2 s Y H Q I h;refine ZK (ic I d g boot_sorted ?_);refine callWith_kw (cy (ha pos Z2 s Y H _ I h) λus i ⟨vs,H1,c,f,q1⟩=>?_) (by rw[he];rfl) (by rw[he];rfl);refine kws_cons (ic c b a boot_abs (kws_nil ?_));exact AZ c f q1
def Gv{ns:List Int}(k:Gl X "sorted")(y:X.mg "sorted"=none)(g:Gl X "abs")(f:X.mg "abs"=none)(ha:E X U e b ns)(h2:2<=ns.length)(s:ns.length<=1000)(h:autoParam (Å [e] X.env=(Â,Ý e X.env)::Å [] X.env) zra):
  EX X U (.Call (.Name "sorted" p) [e] [#[À (ô "key"),.Name "abs" q,kp]] pos) Á (λc:List Int=>c.Perm ns):=by
 stop
  exact aP (GJ k y g f (aD ha bq h) h) λY H Q ⟨H0,F,O,S,q⟩=>#[H0,F,O,S,λv H1 d u=>by
    obtain⟨p,vs,e,i,n,r⟩:=u;rw[sO r] at i;refine#[p,ns,by rw[e],(av _ _).seq i,h2,s,λl c a o=>?_];obtain⟨w,j⟩:=cJ (xs:=c.map V.int) (S.go d) a;refine q c _ _ o (d.trans w) #[l,_,rfl,dX.of j,Nf.wk (b:=Á) ((S.go d).iD a) j,?_];generalize c=m
    induction m with
    |nil=>exact .nil
    |cons x m t=>exact .cons rfl t]
def Sd(K:Ã)(neg:Bool):R2:=λx y H Q=>∃p xs d ds,y=.ref p/\dX K H p xs/\DR K H x d/\DJ K H xs ds/\d.canLay0=Á/\í ds=Á/\d.depth<=50/\Q (.bl (if neg then !(ds.any λe=>ç e d) else ds.any λe=>ç e d)) H
theorem zf{h:â}:∀{us:List Ä} {ds:List þ} {as:List Ç},ReadsAll h us ds as->í ds=Á->∀u∈us,∃c cs,Reads h u c cs/\c.canLay0=Á/\c∈ds
 |_,_,_,.nil,_,u,d=>by cases d
 |_,_,_,.cons r f,e,u,d=>by
  rw[í,X8] at e;rcases Xm.mp d with rfl|d
  .exact#[_,_,r,e.1,XA ..]
  .obtain⟨c,cs,a,b,m⟩:=zf f e.2 u d;exact#[c,cs,a,b,Xx _ m]
theorem uT{h:â}{f:Ä->Bool}{g:þ->Bool}:∀{us:List Ä} {ds:List þ} {as:List Ç},ReadsAll h us ds as->í ds=Á->(∀u c cs,Reads h u c cs->c.canLay0=Á->f u=g c)->us.any f=ds.any g
 |_,_,_,.nil,_,_=>rfl
 |_,_,_,.cons r b,a,k=>by
  rw[í,X8] at a;rw[ZI,ZI,k _ _ _ r a.1,uT b a.2 k]
def eD(h:â)(d:þ)(w:Ä):Bool:=open Classical in decide (∃c cs,Reads h w c cs/\c.canLay0=Á/\ç c d=Á)
def OS{h:â}{d c:þ}{w:Ä}{cs:List Ç}(r:Reads h w c cs)(lc:c.canLay0=Á):eD h d w=ç c d:=by
 unfold eD;cases z:ç c d with
 |true=>exact @XY _ (ł _) #[c,cs,r,lc,z]
 |false =>
  refine @X1 _ (ł _) ?_;rintro⟨c',a,e,f,b⟩;have:=SeqAt.Reads.unique c c' w cs a lc r e;rw[<-this,z] at b;cases b
def Dz(t:X.A.units+60<ğ){neg:Bool}{op:ş}(i:op=if neg then .NotIn else .In):ku X (æ op) (Sd X.K neg):=by
 intro Z2 s Y H x y v u Q I j f h;obtain⟨p,xs,d,ds,rfl,g,o,n,c1,c2,dp,q⟩:=h;cases f;obtain⟨XV,r,pl,hz⟩:=I.list g;obtain⟨as,m⟩:=o.reads I j;obtain⟨bs,b⟩:=n.reads I r;have key:∀w c cs,Reads s.heap w c cs->c.canLay0=Á->eD s.heap d w=ç c d:=λw c cs l lc=>OS l lc
 have he:∀w,w∈XV.toArray->ũ X.A.in1 s w v (eD s.heap d w):=λw k=>by
  obtain⟨c,cs,rc,lc,_⟩:=zf b c2 w ↑k;rw[key w c cs rc lc];refine SeqAt.eqAt_reads c d X.A.in1 s w v cs as rc m lc c1 ?_;have h1:=ϐ c.depth d.depth;have h2:X.A.in1.units=X.A.units+1:=rfl;lia
 have a:XV.toArray.any (eD s.heap d)=ds.any λe=>ç e d:=by
  rw[show XV.toArray.any (eD s.heap d)=XV.any (eD s.heap d) by simp];exact uT b c2 key
 subst i;cases neg
 .exact ν _ pl.isList he #[.bl _,H,I,rfl,by rw[a];exact q]
 .exact Ũ _ pl.isList he #[.bl _,H,I,rfl,by rw[a];exact q]
def Ic{M:Type}[PyD M]{a:M}{as:List M}{c:Bool}(h:c=Á↔a∈as):((as.map PyD.dat).any λe=>ç e (PyD.dat a))=c:=by
 rw[Yy,h,Zf];constructor
 .rintro⟨x,f,e⟩;obtain⟨b,d,rfl⟩:=XF.mp f;rw[<-(PyD.eqv b a).mp e];exact d
 .intro m;exact#[_,List.mem_map_of_mem m,(PyD.eqv a a).mpr rfl]
def JZ{M:Type}[PyD M]{a:M}{as:List M}{c:Bool}(f:X.A.units+60<ğ)(d:PyD.dep M<=50)(h:c=Á↔a∈as):CV X .NotIn a as (!c):=#[_,Dz f (neg:=Á) rfl,λN N' H u v Q h1 h2 q=>by
 obtain⟨p,vs,e,b,n,r⟩:=h2
 exact#[p,vs,_,_,e,b,PyD.dr h1,sU r,PyD.lay a,s_ as,Ye (PyD.depth a) d,by rw[Ic h];exact q]]
end
def JB{β:Type}[Py β](K:Ã)(b:Bool)(post:β->Prop):Sp:=λvs H Q _=>∃O,pR H O/\vs=[]/\∀z r H',post z->aG H H'->Py.rp K (Nf H b) (off H' O) r z->Q r H'
section
variable{X:Cx}{U:aK}{β:Type}[Py β]{b:Bool}{p pos:ò}{k:Nat}{name:Ð}{ps:List Ð}
def Gz{post:β->Prop}(C:aJ X.prog X.w X.K X.mg X.base k name ps (JB X.K b post))(e:dZ k X.A)(c:Gl X name)(a:autoParam ((name==("__debug__":Ð))=Â) zrb):
  EX X U (.Call (.Name name p) [] [] pos) b post:=by stop obtain⟨f,fd,F,B,kp,m⟩:=C.ex;exact aP (Hk F e c m kp B .nil lE a) λY H Q ⟨H0,F,O,S,q⟩=>#[O,S.own,rfl,λz r H' hz s' d=>q z r H' hz s' (S.back d)]
variable{P:Ñ}{w:Û}{K:Ã}{mg:Ð->Option Ä}{base:â}{N:List Ð}{x qual:Ð}{st:Ò}{f:Ç}{fd:ð}
def Rp{β:Type}[Py β]{b:Bool}{post:β->Prop}(F:t6 K x qual st f fd)(c:ao N ps (ag st))(e:ps.length=0)(B:⇑Body N qual st f k [] (uo b post)):⇑fR pN (k+1) f fd ps (JB K b post):=by
 stop
  refine F.ok c (λvs H Q E h=>?_) λa A outer s H vs Q E g h=>?_
  .obtain⟨O,_,rfl,_⟩:=h;rw[e];rfl
  .obtain⟨O,d,rfl,q⟩:=h;exact k8 B g d .nil q
variable{D:GD}{M γ δ ε:Type}[Py M][Py γ][Py δ][Py ε]{e e1 e2 e3 e4:Õ}{b1 b2 b3 b4:Bool}{rest:List Ò}
def xC[PyT M]{xs:List M}{p:ò}(h:Gl X "list")(j:X.mg "list"=none)(ha:E X U e b (zU.mk xs))(f:autoParam (Å [e] X.env=(Â,Ý e X.env)::Å [] X.env) zra):E X U (.Call (.Name "list" p) [e] [] pos) Á xs:=by
 stop
  exact aP (uw nH h j abr (aD ha bq f) (he:=f)) λY H Q ⟨H0,F,O,S,q⟩=>#[H0,F,O,S,λv H1 a i=>by
    obtain⟨p,vs,e,k,r⟩:=i;refine#[p,vs,by rw[e],.inr (cY (av _ _) k).t,λl d=>?_];obtain⟨c,g⟩:=cJ (xs:=vs) (S.go a) d
    exact q _ _ (a.trans c) #[l,vs,rfl,dX.of g,Nf.wk ((S.go a).iD d) g,bN (λ_ _ z=>PyT.free (λ_ _ t=>aG.rt (ah c) t) z) r]]
def Le{xs:List M}{k:Int}{p2:ò}(ha:E X U e1 b xs)(j:E X U e2 b2 k)(h1:k=-1):E X U (.Subscript e1 (.Slice none (À e2) none p2) pos) b (xs.take (xs.length-1)):=by
 stop
  exact aP (m_ vz ha rB (qV j)) λY H Q ⟨H0,F,O,S,q⟩=>#[H0,F,O,S,λv H1 c m=>#[H0,F,O,S.go c,λw H2 a o=>by
    obtain⟨p,vs,e,s,n,r⟩:=m;refine#[k,o,p,vs,e,(av _ _).seq ((ah a).seq s),λl g=>?_];obtain⟨f,h⟩:=cJ (xs:=jV vs none (À k)) ((S.go c).go a) g;refine q _ _ (c.trans (a.trans f)) #[l,_,rfl,dX.of h,Nf.wk (((S.go c).go a).iD g) h,?_];have i:=bG r
    have ec:jV vs none (À k)=vs.take (xs.length-1):=by
     unfold jV;rw[HT.nD]
     have:HT.fJ vs.length vs.length (À k)=xs.length-1:=by
      show(if k<0 then (k+(vs.length:Int)).toNat else min k.toNat vs.length)=_;rw[Xo .b,h1];lia
     rw[this];simp only[Ϡ,Nat.sub_zero]
    have d:=bN (λ_ _ z=>ay ((ah a).trans (ah f)) z) (wX (xs.length-1) r);rw[<-ec] at d
    exact d]]
end
def Tg{M:Type}{us:List M}(h:us.length=0):us=[]:=aaN h
def S7{M:Type}{us:List M}(h:us.length=1):∃a,us=[a]:=match us,h with|[a],_=>#[a,rfl]
def ln2{M:Type}{us:List M}(h:us.length=2):∃a b,us=[a,b]:=match us,h with|[a,b],_=>#[a,b,rfl]
def S6{M:Type}{us:List M}(h:us.length=3):∃a b c,us=[a,b,c]:=match us,h with|[a,b,c],_=>#[a,b,c,rfl]
def S0{M:Type}{us:List M}(h:us.length=4):∃a b c d,us=[a,b,c,d]:=match us,h with|[a,b,c,d],_=>#[a,b,c,d,rfl]
def cM{N P:List Ð}{a:Ĉ}(h1:autoParam (a.kind=.function) zra)(h2:autoParam (a.isCoroutine=Â) zra)(c:autoParam (a.isGenerator=Â) zra)(b:N.Nodup:=by decide +kernel)(f:autoParam (N.take P.length=P) zra)(e:∀x∈P,a.names.lookup x=À .local\/a.names.lookup x=À .cell:=by decide +kernel)(d:∀y∈a.names,y.2≠.free:=by decide +kernel):ao N P a:=#[h1,h2,c,b,f,e,d]
section
variable{P:Ñ}{w:Û}{K:Ã}{mg:Ð->Option Ä}{base h:â}{x p q r t:Ð}{st:Ò}{k:Nat}{sp:Sp}
def Df.c0(D:Df K x st)(X:K.In h)(G:h.Ns Í mg)(ok:∀f fd,t6 K x x st f fd->⇑fR pN k f fd [] sp)(b:∀(kV doc d:Ä) (e:Option Ç) (a ct:Ä) (us:List Ä),us.length=0->ī (ê x x (d9 st) (cb st) (ag st) .none kV doc d e a ct) #[us,[]]=pure (([]:List Ð).zip us):=by intro _ _ _ _ _ _ us c;cases Tg c;rfl):⇑aJ k x [] sp:=D.N_ X G b ok
def Df.c1(D:Df K x st)(X:K.In h)(G:h.Ns Í mg)(ok:∀f fd,t6 K x x st f fd->⇑fR pN k f fd [p] sp)(b:∀(kV doc e:Ä) (c:Option Ç) (a ct:Ä) (us:List Ä),us.length=1->ī (ê x x (d9 st) (cb st) (ag st) .none kV doc e c a ct) #[us,[]]=pure ([p].zip us):=by intro _ _ _ _ _ _ us d;obtain⟨_,rfl⟩:=S7 d;rfl):⇑aJ k x [p] sp:=D.N_ X G b ok
def Df.c2(D:Df K x st)(X:K.In h)(G:h.Ns Í mg)(ok:∀f fd,t6 K x x st f fd->⇑fR pN k f fd [p,q] sp)(b:∀(kV doc e:Ä) (c:Option Ç) (a ct:Ä) (us:List Ä),us.length=2->ī (ê x x (d9 st) (cb st) (ag st) .none kV doc e c a ct) #[us,[]]=pure ([p,q].zip us):=by intro _ _ _ _ _ _ us d;obtain⟨_,_,rfl⟩:=ln2 d;rfl):⇑aJ k x [p,q] sp:=D.N_ X G b ok
def Df.c3(D:Df K x st)(X:K.In h)(G:h.Ns Í mg)(ok:∀f fd,t6 K x x st f fd->⇑fR pN k f fd [p,q,r] sp)(b:∀(kV doc e:Ä) (c:Option Ç) (a ct:Ä) (us:List Ä),us.length=3->ī (ê x x (d9 st) (cb st) (ag st) .none kV doc e c a ct) #[us,[]]=pure ([p,q,r].zip us):=by intro _ _ _ _ _ _ us d;obtain⟨_,_,_,rfl⟩:=S6 d;rfl):⇑aJ k x [p,q,r] sp:=D.N_ X G b ok
def Df.c4(D:Df K x st)(X:K.In h)(G:h.Ns Í mg)(ok:∀f fd,t6 K x x st f fd->⇑fR pN k f fd [p,q,r,t] sp)(b:∀(kV doc e:Ä) (c:Option Ç) (a ct:Ä) (us:List Ä),us.length=4->ī (ê x x (d9 st) (cb st) (ag st) .none kV doc e c a ct) #[us,[]]=pure ([p,q,r,t].zip us):=by intro _ _ _ _ _ _ us d;obtain⟨_,_,_,_,rfl⟩:=S0 d;rfl):⇑aJ k x [p,q,r,t] sp:=D.N_ X G b ok
end
section
variable{X:Cx}{U:aK}{M β:Type}[Py M][Py β]{e e1 e2 tg:Õ}{b b1 b2:Bool}{elts:List Õ}{kk:Nat}{tp p ps:ò}
def SN{M:Type}[Py M](X:Cx)(U:aK)(tg iter:Õ)(b:Bool)(post:List M->Prop):Prop:=∃wi,PI X tg iter wi /\
 ∀(Y:St) (H H0:Hp) (F O:Ç->Prop) (R:It->Hp->Prop),dU X.K H0 F O U Y H->(∀as J H1,post as->aG H H1->QG X.K H0 O b as J H1->R J H1)->wi Y H R
def JM{xs:List M}{post:List β->Prop}(D:Gl X "zip")(Q:X.mg "zip"=none)(h1:E X U e1 b1 xs)(h2:EX X U e2 b2 post)(f:autoParam (Å [e1,e2] X.env=(Â,Ý e1 X.env)::Å [e2] X.env) zra)(l:autoParam (Å [e2] X.env=(Â,Ý e2 X.env)::Å [] X.env) zra)
  (hpl:(ì ps (Å [e2] X.env)).any (·.1)=Â:=by rfl):SN X U (.Tuple elts kk tp) (.Call (.Name "zip" p) [e1,e2] [] ps) (b1&&b2) (λus=>∃ys,post ys/\us=xs.zip ys):=by
 stop
  exact#[_,Hw D Q (aD h1 (aD h2 bq l) f) f hpl,λY H H0 F O R Z q=>#[H0,F,O,Z,λv H1 s L=>#[H0,F,O,Z.go s,λys w H2 hz m α=>by
    obtain⟨a,g,Γ,V,na,t⟩:=L;obtain⟨c,h,ec,r,nc,rc⟩:=α;have b:=(ah (O:=O) m).seq V;refine#[a,c,by rw[Γ,ec],#[g,(av _ _).seq b],#[h,(av _ _).seq r],q _ _ H2 #[ys,hz,rfl] (s.trans m) λH' N o sm=>#[λi u S=>?_,?_]]
    .obtain⟨J,I⟩:=YD.mp S;obtain⟨x,C,K⟩:=gQ t J;obtain⟨y,A,G⟩:=gQ rc I;have d:=(av _ _).seq (sm.seq b);have e:=(av _ _).seq (sm.seq r);refine#[#[g,h,x,y,d,e,C,A],λv' P σ=>?_];obtain⟨T,x',y',j,rfl,rfl,f1,W⟩:=σ;have ex:=f1 g d;have B:=W h e;rw[C] at ex;cases ex;rw[A] at B;cases B
     have k:¬N T:=λz=>by
      obtain⟨zs,w⟩:=o T z;rw[j] at w;cases w
     refine#[cD j _,T,x,y,rfl,.inl (by rw[aU k];exact aQ),?_,?_]
     .exact bA (λ_ _ n=>wB n) (ay ((ah m).trans (sm.trans (ah (cD j _)))) K)
     .exact bA (λ_ _ n=>xu n) (ay (sm.trans (ah (cD j _))) G)
    .refine#[g,h,(av _ _).seq (sm.seq b),(av _ _).seq (sm.seq r),?_];rw[bG t,bG rc,aah]
     lia]]]
def Nz{D:GD}{pos:ò}{rest body:List Ò}{g:TG}{tc:Nat->Prop}{put:Bool->M->aK->aK}{post:List M->Prop}(J:List M->Nat->aK->Prop)(t:G X tg g M put tc)(he:SN X U tg e b post)(P:∀as,post as->J as 0 U)
  (α:∀as,post as->∀(i:Nat) (a:M) U',as[i]?=À a->J as i U'->S X (put b a U') body {D with nx:=J as (i+1),ct:=J as (i+1),bk:=λΓ2=>S X Γ2 rest D}) (N:∀as,post as->∀U',J as as.length U'->S X U' rest D)
  (B:X.calm=Á:=by rfl) (hp:Ĕ .F X.A X.env X.xe:=by exact aag)
  (s:∀x,Ü e X.env x=pure x:=by intro _;rfl):S X U (.For tg e body [] pos::rest) D:=by
 stop
  obtain⟨wi,hi,I⟩:=he;refine eP (eQ (o3 hp B hi t.1 (tb:=j5 X body) g_ s) λQ Y H ⟨H0,F,O,Z,nx,r,bk,ct⟩=>?_);refine I Y H H0 F O _ Z λas R H1 hz p XV=>?_;refine#[λi m Y' H'=>m=as.length-i/\i<=as.length/\∃U' h,aG (off H1 O) (off H' h)/\dU X.K H0 F h U' Y' H'/\J as i U',#[_,rfl,Yr _,U,O,aG.refl _,Z.go p,P as hz],?_];rintro i m Y' H' ⟨rfl,L,U',h,sm,o,j⟩;obtain⟨E,z⟩:=XV H' h o.own sm;by_cases l:i<as.length
  .have ha:as[i]?=À as[i]:=Xz l;obtain⟨go,u⟩:=E i _ ha;refine .inr #[go,λσ2 H2=>∃Γ2 d,aG (off H1 O) (off H2 d)/\dU X.K H0 F d Γ2 σ2 H2/\J as (i+1) Γ2,λσ2 H2 q=>#[as.length-(i+1),.e,rfl,l,q],λx k v=>?_];obtain⟨n,y⟩:=u x k v;refine t.2 b as[i] H0 F h U' Y' k _ _ (o.go n) y λσ2 f _ _=>?_;refine#[_,_,α as hz i _ U' ha j,H0,F,h,f,?_,r,?_,?_]
   .exact λΓ2 σ2 H2 d c f q=>#[Γ2,d,sm.trans ((ah n).trans c),f,q]
   .exact λΓ2 σ2 H2 d c f q=>nx Γ2 σ2 H2 d ((ah p).trans (sm.trans ((ah n).trans c))) f q
   .exact λΓ2 σ2 H2 d c f q=>#[Γ2,d,sm.trans ((ah n).trans c),f,q]
  .have C:i=as.length:=by omega
   subst C;exact .inl #[z,nx U' Y' H' h ((ah p).trans sm) o (N as hz U' j)]
end
end L2.EP
namespace L2.EP.K
open PySem PySem.Spec PyProof.Rows
variable{l ps xs z:List Int}{x q p c d m e y r A u v:Int}{n i j:Nat}
noncomputable def top(i:Nat):Ò:=PySem.Challenge.pw_everyplace_k48_zeros_of_more.main.body.getD i (.Pass #[0,0,0,0])
abbrev mx:Ò:=top 5
abbrev rS:List Ð:=["k"]
def yQ:ao rS ["k"] (ag mx):=cM
abbrev wo:Ò:=top 6
abbrev B9:List Ð:=["base","exponent","answer","step"]
def nR:ao B9 ["base","exponent"] (ag wo):=cM
abbrev l7:Ò:=top 7
abbrev sD:List Ð:=["base","exponent","m","answer","square"]
def cQ:ao sD ["base","exponent","m"] (ag l7):=cM
abbrev kq:Ò:=top 8
abbrev p9:List Ð:=["k","divisor","often","left"]
def fc:ao p9 ["k","divisor"] (ag kq):=cM
abbrev iN:Ò:=top 9
abbrev lI:List Ð:=["k","root"]
def ig:ao lI ["k"] (ag iN):=cM
abbrev df:Ò:=top 10
abbrev fH:List Ð:=["k","root"]
def fC:ao fH ["k"] (ag df):=cM
abbrev oE:Ò:=top 11
abbrev vf:List Ð:=["k","m","rest","below","factor","factor_below","often","left","factor_left"]
def bS:ao vf ["k","m"] (ag oE):=cM
abbrev fP:Ò:=top 13
abbrev ji:List Ð:=["a","b","rest"]
def dk:ao ji ["a","b"] (ag fP):=cM
abbrev hX:Ò:=top 14
abbrev my:List Ð:=["top","bottom","divisor"]
def kJ:ao my ["top","bottom"] (ag hX):=cM
abbrev AA:Ò:=top 15
abbrev Ew:List Ð:=["u","v"]
def Jh:ao Ew ["u","v"] (ag AA):=cM
abbrev gY:Ò:=top 19
abbrev kO:List Ð:=["k","begin","end","divisor"]
def jU:ao kO ["k","begin","end"] (ag gY):=cM
abbrev l4:Ò:=top 20
abbrev sX:List Ð:=["k"]
def yb:ao sX ["k"] (ag l4):=cM
abbrev jG:Ò:=top 21
abbrev nC:List Ð:=["k","answer"]
def iR:ao nC ["k"] (ag jG):=cM
abbrev pE:Ò:=top 22
abbrev vg:List Ð:=["k","end","out","found","left","divisor"]
def dt:ao vg ["k","end"] (ag pE):=cM
abbrev v_:Ò:=top 23
abbrev CC:List Ð:=["k","known","last"]
def sS:ao CC ["k"] (ag v_):=cM
abbrev jk:Ò:=top 24
abbrev ny:List Ð:=["k","known","root"]
def iO:ao ny ["k"] (ag jk):=cM
abbrev vP:Ò:=top 25
abbrev BR:List Ð:=["u","known","number","root","part"]
def g5:ao BR ["u"] (ag vP):=cM
abbrev kD:Ò:=top 27
abbrev qd:List Ð:=["k","p","rest"]
def nU:ao qd ["k","p"] (ag kD):=cM
abbrev fE:Ò:=top 28
abbrev iE:List Ð:=["p","k"]
def eE:ao iE ["p"] (ag fE):=cM
abbrev kg:Ò:=top 29
abbrev qh:List Ð:=["k","p","often"]
def gJ:ao qh ["k","p"] (ag kg):=cM
abbrev fM:Ò:=top 30
abbrev jg:List Ð:=["k","p","out","twos","odd","root","error","mender","often","step"]
def aL:ao jg ["k","p"] (ag fM):=cM
abbrev gC:Ò:=top 31
abbrev jM:List Ð:=["k","p","kind"]
def jd:ao jM ["k","p"] (ag gC):=cM
abbrev jE:Ò:=top 32
abbrev mV:List Ð:=["one","m","other","p"]
def uq:ao mV ["one","m","other","p"] (ag jE):=cM
abbrev pP:Ò:=top 33
abbrev vi:List Ð:=["k","m","answer","done","part","root"]
def eK:ao vi ["k","m"] (ag pP):=cM
abbrev jo:Ò:=top 35
abbrev lP:List Ð:=["k","p","out","rest"]
def eU:ao lP ["k","p"] (ag jo):=cM
abbrev gU:Ò:=top 36
abbrev kQ:List Ð:=["k","p"]
def qD:ao kQ ["k","p"] (ag gU):=cM
abbrev lU:Ò:=top 37
abbrev sP:List Ð:=["one","other","reasons"]
def f9:ao sP ["one","other"] (ag lU):=cM
abbrev lV:Ò:=top 38
abbrev sE:List Ð:=["one","other","p","said"]
def f_:ao sE ["one","other","p"] (ag lV):=cM
abbrev A8:Ò:=top 39
abbrev HI:List Ð:=["a","b","p","one","other"]
def wU:ao HI ["a","b","p"] (ag A8):=cM
abbrev km:Ò:=top 40
abbrev pW:List Ð:=["numbers","found","k","part"]
def gH:ao pW ["numbers"] (ag km):=cM
abbrev gp:Ò:=top 43
abbrev jP:List Ð:=["k"]
def pz:ao jP ["k"] (ag gp):=cM
abbrev mG:Ò:=top 44
abbrev rY:List Ð:=["row"]
def DO:ao rY ["row"] (ag mG):=cM
abbrev gh:Ò:=top 45
abbrev jS:List Ð:=["row"]
def oW:ao jS ["row"] (ag gh):=cM
abbrev fA:Ò:=top 46
abbrev iu:List Ð:=["a","b","c","p"]
def l6:ao iu ["a","b","c","p"] (ag fA):=cM
abbrev fQ:Ò:=top 47
abbrev ja:List Ð:=["numbers","p","product"]
def iH:ao ja ["numbers","p"] (ag fQ):=cM
abbrev ko:Ò:=top 48
abbrev qe:List Ð:=["numbers","p"]
def xy:ao qe ["numbers","p"] (ag ko):=cM
abbrev d8:Ò:=top 50
abbrev gF:List Ð:=["numbers","barring"]
def i9:ao gF ["numbers"] (ag d8):=cM
abbrev gD:Ò:=top 51
abbrev jR:List Ð:=["row"]
def pg:ao jR ["row"] (ag gD):=cM
abbrev lY:Ò:=top 54
abbrev tU:List Ð:=["k","left","p"]
def iC:ao tU ["k"] (ag lY):=cM
abbrev jI:Ò:=top 58
abbrev nJ:List Ð:=["p","no_square"]
def lM:ao nJ ["p"] (ag jI):=cM
abbrev eF:Ò:=top 59
abbrev g9:List Ð:=["one","other","p","rest"]
def gG:ao g9 ["one","other","p"] (ag eF):=cM
abbrev cE:Ò:=top 60
abbrev dE:List Ð:=["found","p"]
def cc:ao dE [] (ag cE):=cM
abbrev gK:Ò:=top 61
abbrev jv:List Ð:=["k","places"]
def ug:ao jv ["k","places"] (ag gK):=cM
abbrev dI:Ò:=top 62
abbrev fT:List Ð:=["k","places","wishes","answer","p","classes","own"]
def di:ao fT ["k","places","wishes"] (ag dI):=cM
abbrev kF:Ò:=top 63
abbrev qj:List Ð:=["classes","wishes","own","wish"]
def mS:ao qj ["classes","wishes"] (ag kF):=cM
abbrev fB:Ò:=top 64
abbrev hE:List Ð:=["places","wishes","starts","k","known","further","left","classes"]
def bT:ao hE ["places","wishes"] (ag fB):=cM
abbrev dQ:Ò:=top 65
abbrev fL:List Ð:=["one","other","p"]
def ng:ao fL ["one","other","p"] (ag dQ):=cM
abbrev lj:Ò:=top 66
abbrev pG:List Ð:=["one","other","places"]
def tK:ao pG ["one","other"] (ag lj):=cM
abbrev gf:Ò:=top 68
abbrev jQ:List Ð:=["numbers","bottom","u"]
def dM:ao jQ ["numbers"] (ag gf):=cM
abbrev dh:Ò:=top 69
abbrev fg:List Ð:=["numbers","bottom"]
def gS:ao fg ["numbers"] (ag dh):=cM
abbrev dj:Ò:=top 71
abbrev fk:List Ð:=["numbers","divisor","k"]
def cR:ao fk ["numbers"] (ag dj):=cM
abbrev gq:Ò:=top 73
abbrev jN:List Ð:=["a","b","answer"]
def iW:ao jN ["a","b"] (ag gq):=cM
abbrev iQ:Ò:=top 74
abbrev lD:List Ð:=["a","lesser","root","zero","x","y"]
def h_:ao lD ["a","lesser","root","zero"] (ag iQ):=cM
abbrev gg:Ò:=top 75
abbrev jK:List Ð:=["k","m","root"]
def iV:ao jK ["k","m"] (ag gg):=cM
abbrev eB:Ò:=top 76
abbrev jO:List Ð:=["a","b","found","root","lesser"]
def cL:ao jO ["a","b"] (ag eB):=cM
abbrev gu:Ò:=top 77
abbrev jT:List Ð:=["row","one","other","found","root","other_root","x"]
def bM:ao jT ["row"] (ag gu):=cM
abbrev e9:Ò:=top 80
abbrev hZ:List Ð:=["numbers"]
def qL:ao hZ ["numbers"] (ag e9):=cM
abbrev a_:Ò:=top 81
abbrev bB:List Ð:=["numbers","t","one","other"]
def aY:ao bB ["numbers"] (ag a_):=cM
abbrev de:Ò:=top 82
abbrev d7:List Ð:=["numbers","above","below","ahead","others"]
def du:ao d7 ["numbers"] (ag de):=cM
abbrev ck:Ò:=top 83
abbrev dG:List Ð:=["numbers","places","answer","i","x"]
def b_:ao dG ["numbers"] (ag ck):=cM
abbrev dw:Ò:=top 84
abbrev fe:List Ð:=["numbers"]
def gB:ao fe ["numbers"] (ag dw):=cM
abbrev jH:Ò:=top 85
abbrev nL:List Ð:=["x"]
def ue:ao nL ["x"] (ag jH):=cM
abbrev cg:Ò:=top 86
abbrev c8:List Ð:=["numbers","known","zero"]
def fI:ao c8 ["numbers"] (ag cg):=cM
abbrev pB:Ò:=top 87
abbrev uG:List Ð:=["row"]
def zO:ao uG ["row"] (ag pB):=cM
abbrev iK:Ò:=top 89
abbrev lJ:List Ð:=["_law_script","_law_k"]
def tX:ao lJ ["_law_script","_law_k"] (ag iK):=cM
abbrev pF:Ò:=top 90
abbrev u6:List Ð:=["_law_cell","_law_k","_law_number","_law_j","_law_part"]
def fS:ao u6 ["_law_cell","_law_k"] (ag pF):=cM
abbrev kC:Ò:=top 91
abbrev p8:List Ð:=["_law_cell","_law_number","_law_bits","_law_p"]
def dO:ao p8 ["_law_cell"] (ag kC):=cM
abbrev pQ:Ò:=top 92
abbrev uO:List Ð:=["_law_cell","_law_size","_law_row_here","_law_rest","_law_k","_law_root"]
def eG:ao uO ["_law_cell","_law_size"] (ag pQ):=cM
abbrev jB:Ò:=top 93
abbrev nB:List Ð:=["_law_cell","_law_other","_law_size","_law_row_here","_law_place_here","_law_total","_law_k","_law_x"]
def cF:ao nB ["_law_cell","_law_other","_law_size"] (ag jB):=cM
abbrev gP:Ò:=top 94
abbrev kK:List Ð:=["_law_number","_law_left","_law_p"]
def d_:ao kK ["_law_number"] (ag gP):=cM
abbrev kf:Ò:=top 95
abbrev qg:List Ð:=["_law_k","_law_often","_law_p","_law_found"]
def cz:ao qg ["_law_k","_law_often","_law_p"] (ag kf):=cM
abbrev lN:Ò:=top 96
abbrev rW:List Ð:=["_law_number","_law_p"]
def p5:ao rW ["_law_number","_law_p"] (ag lN):=cM
abbrev kE:Ò:=top 97
abbrev p6:List Ð:=["_law_group","_law_p"]
def xp:ao p6 ["_law_group","_law_p"] (ag kE):=cM
abbrev fN:Ò:=top 98
abbrev jc:List Ð:=["_law_row_here","_law_sums","_law_number","_law_wider","_law_rest","_law_odd","_law_x","_law_new_rest"]
def ba:ao jc ["_law_row_here"] (ag fN):=cM
abbrev fO:Ò:=top 99
abbrev gX:List Ð:=["_law_row_here","_law_p","_law_less_here","_law_plain","_law_divided"]
def iI:ao gX ["_law_row_here","_law_p"] (ag fO):=cM
abbrev j_:Ò:=top 100
abbrev p_:List Ð:=["_law_k","_law_d"]
def ju:ao p_ ["_law_k"] (ag j_):=cM
abbrev j7:Ò:=top 101
abbrev qk:List Ð:=["_law_p"]
def xv:ao qk ["_law_p"] (ag j7):=cM
abbrev jC:Ò:=top 102
abbrev mY:List Ð:=["_law_a","_law_b","_law_rest"]
def fW:ao mY ["_law_a","_law_b"] (ag jC):=cM
abbrev iL:Ò:=top 103
abbrev lK:List Ð:=["_law_row_here","_law_zero","_law_part","_law_total","_law_k"]
def cK:ao lK ["_law_row_here","_law_zero"] (ag iL):=cM
abbrev iB:Ò:=top 104
abbrev kr:List Ð:=["_law_cell","_law_other","_law_size","_law_row_here","_law_sign"]
def ff:ao kr ["_law_cell","_law_other","_law_size"] (ag iB):=cM
abbrev lW:Ò:=top 105
abbrev sj:List Ð:=["_law_row_here","_law_handed","_law_zero","_law_p"]
def iA:ao sj ["_law_row_here"] (ag lW):=cM
abbrev G5:Ò:=top 106
abbrev Lf:List Ð:=["_law_script","_law_other","_law_row_here"]
def Aw:ao Lf ["_law_script"] (ag G5):=cM
section
variable{P:Ñ}{w:Û}{K:Ã}{mg:Ð->Option Ä}{base:â}{f:Ç}{k:Nat}(B:Bu mg)
def AN(x:Int):⇑Body rS "is_whole" mx f kk [.val Â x] (RT Á Á):=by
 intro a A outer s H E b;exact aw (lB (Az rfl B.isinstance rfl B.int .A) λ_=>(iU (E4 (zH rfl B.isinstance rfl B.bool .A)))) rfl
noncomputable def zA(b e m:Int):Int:=b^e.toNat%m
def bD{a:Int}(h:1<=m):a.fmod m=a%m:=Yz a .b
def BX{S:Int}(h:n%2=1):(A*S%m)*(S*S%m)^(n/2)%m=A*S^n%m:=by
 rw[YV,aam _ (ZD m),je,<-YV,abT,<-YS,X6];congr 2;have e:S^n=S^(1+(n/2+n/2)):=by congr 1;lia
 rw[e,YS S 1,XS,Yc,Yp,YS]
def yT{S:Int}(h:n%2=0):A*(S*S%m)^(n/2)%m=A*S^n%m:=by
 rw[YV,je,<-YV,abT,<-YS];congr 3;lia
def tM(h:0<=e):(e.fdiv 2).toNat=e.toNat/2/\0<=e.fdiv 2:=by
 rw[Yi _ .a];lia
def zP(x e m:Int)(he:0<=e)(c:1<=m)(p:m<2^62):⇑Body sD "power_by" l7 f kk [.val Â x,.val Â e,.val Â m] (RT Á (zA x e m)):=by
 intro r A outer s H E y;refine aq 3 cQ.nd (aS af .C .e) ?_;refine aq 4 cQ.nd (aS .A .C .e) ?_;rw[bD c,bD c]
 refine cH (ι:=Bool×Int×Int×Int) (λi U=>U=[À (.val Â x),À (.val i.1 i.2.1),À (.val Â m),À (.val Á i.2.2.1),À (.val Á i.2.2.2)]/\0<=i.2.1/\i.2.2.1*i.2.2.2^i.2.1.toNat%m=x^e.toNat%m/\0<=i.2.2.1/\i.2.2.1<m/\0<=i.2.2.2/\i.2.2.2<m) (λi=>i.2.1.toNat) (Â,e,1%m,x%m)
  #[rfl,he,by dsimp only;rw[YV,aam _ (ZD m),je,<-YV,Yp],X2 _ .e,XU _ .e,X2 _ .e,XU _ .e] ?_
 rintro⟨v,n,a,q⟩ U' ⟨rfl,t,hi,l,h,u,q1⟩;dsimp only at *;refine#[_,ax eW .B af,λb=>?_,λb=>?_]
 .have k:0<n:=by simpa using b
  have d:=tM t;have j:=X2 (q*q) (show m≠0 by omega);have o:=XU (q*q) (show 0<m by omega);refine aH (ax az (aS .B af .a) af) (λb=>?_) (λb=>?_)
  .have g:n.toNat%2=1:=by
    have:n.fmod 2=1:=by simpa using b
    rw[bD .a] at this;omega
   refine aq 3 cQ.nd (aS (aF .D (ae 4) (mulL .e .e)) .C .e) (aM ?_);refine aq 4 cQ.nd (aS (aF (ae 4) (ae 4) (mulL .e .e)) .C .e) ?_;refine aq 1 cQ.nd (a9 .B af u_) ?_;rw[bD c,bD c];refine aM #[(Á,n.fdiv 2,a*q%m,q*q%m),#[rfl,d.2,?_,X2 _ .e,XU _ .e,j,o],?_]
   .dsimp only;rw[d.1,BX g,hi]
   .dsimp only;omega
  .have g:n.toNat%2=0:=by
    have:¬n.fmod 2=1:=by simpa using b
    rw[bD .a] at this;omega
   refine aq 4 cQ.nd (aS (aF (ae 4) (ae 4) (mulL .e .e)) .C .e) ?_;refine aq 1 cQ.nd (a9 .B af u_) ?_;rw[bD c];refine aM #[(Á,n.fdiv 2,a,q*q%m),#[rfl,d.2,?_,l,h,j,o],?_]
   .dsimp only;rw[d.1,yT g,hi]
   .dsimp only;omega
 .have hz:n.toNat=0:=by
   have:¬0<n:=by simpa using b
   omega
  rw[hz,Yc,X0,ZY l h] at hi;refine aw .D ?_;show Bd.val _ _=Bd.val _ _;unfold zA;rw[<-hi]
def F9{k l n:Int}(g:0<=n)(he:k=l*d^n.toNat)(f:2<=d)(e:l.fmod d=0)(hz:l≠0):0<=n+1/\k=l.fdiv d*d^(n+1).toNat/\l.fdiv d≠0/\(l.fdiv d).natAbs<l.natAbs:=by
 obtain⟨a,b,c⟩:=Er f (Q.hV.mp e) hz;refine#[.b,?_,b,c];rw[show(n+1).toNat=n.toNat+1 by lia,XS,he];generalize d^n.toNat=t;generalize l.fdiv d=q at *;rw[<-a];grind
def xR(x d:Int)(q:x≠0)(e:2<=d)(p:Sm 9000 d):⇑Body p9 "taken_out" kq f kk [.val Â x,.val Â d] (RT Á (aX x d)):=by
 intro g A outer s H E u;refine aq 2 fc.nd af ?_;refine aq 3 fc.nd .A ?_;refine cH (ι:=Bool×Int×Int) (λi U=>U=[À (.val Â x),À (.val Â d),À (.val Á i.2.1),À (.val i.1 i.2.2)]/\0<=i.2.1/\x=i.2.2*d^i.2.1.toNat/\i.2.2≠0) (λi=>i.2.2.natAbs) (Â,0,x) #[rfl,Yv 0,by dsimp only;rw[show(0:Int).toNat=0 from rfl,Yc,X0],q] ?_;rintro⟨t,n,l⟩ U' ⟨rfl,c,he,o⟩;dsimp only at *;refine#[_,ax az (aS .D .B .b) af,λb=>?_,λb=>?_]
 .have a:l.fmod d=0:=by simpa using b
  refine aq 3 fc.nd (a9 .D .B (p.div .b)) ?_;refine aq 2 fc.nd (bX .C af) ?_;obtain⟨j,h,m,k⟩:=F9 c he e a o;exact aM #[(Á,n+1,l.fdiv d),#[rfl,j,h,m],k]
 .have a:¬l.fmod d=0:=by simpa using b
  refine aw (bR .C (iM (b':=Á) .D)) ?_;show Bd.val _ _=Bd.val _ _;rw[j6 e (r:=(n,l)) #[c,he,λz=>a (Q.hV.mpr z)]];rfl
def JN{k:Int}(d:0<=k):k<(2:Int)^((Ì k+1)/2)*2^((Ì k+1)/2):=by
 have c:k.natAbs<2^Ì k:=by
  unfold Ì;by_cases hz:k=0
  .subst hz;decide
  .rw[Xl ↑hz];exact Nat.lt_log2_self
 have h2:Ì k<=(Ì k+1)/2+(Ì k+1)/2:=by lia
 have b:(2:Nat)^Ì k<=2^((Ì k+1)/2+(Ì k+1)/2):=ZQ .a h2;rw[<-YS];have a:((2^((Ì k+1)/2+(Ì k+1)/2):Nat):Int)=(2:Int)^((Ì k+1)/2+(Ì k+1)/2):=by rw[aa7];rfl
 rw[<-a];lia
def uv(x:Int)(g:0<=x)(o:Sm 8000 x):⇑Body lI "square_root" iN f k [.val Â x] (RT Á (rt x)):=by
 intro i A outer s H E v;have p:Ì x<=8000:=o.bits
 have d:((Ì x:Int)+1).fdiv 2=(((Ì x+1)/2:Nat):Int):=by
  rw[Yi _ .a];lia
 refine aq 1 ig.nd (OQ af (a9 (bX (MA .A) af) af u_) #[by rw[d];lia,by rw[d];lia,.a]) ?_;rw[d,Yp,Ö];have t:=JN g
 have l:Sm 8001 ((2:Int)^((Ì x+1)/2)):=by
  unfold Sm;rw[Int.natAbs_pow];exact Nat.pow_lt_pow_right .a .b
 have hp:(0:Int)<2^((Ì x+1)/2):=Yx .a;generalize (2:Int)^((Ì x+1)/2)=R at *
 refine cH (ι:=Int) (λr U=>U=[À (.val Â x),À (.val Á r)]/\0<=r/\r<=R/\x<(r+1)*(r+1)) (λr=>r.toNat) R #[rfl,.b,.b,by
  have:R*R<=(R+1)*(R+1):=Fv .b .b
  lia] ?_
 rintro r U' ⟨rfl,h,q,n⟩;have b:Sm 8001 r:=Sm.of_le .b l;refine#[_,ax eW (aF .B .B (b.ok b)) .A,λe=>?_,λe=>?_]
 .have a:x<r*r:=by simpa using e
  have c:0<r:=by
   rcases aac h with z|z
   .exact z
   .rw[<-z] at a;simp at a;lia
  refine aq 1 ig.nd (a9 (bX .B (a9 .A .B (b.div .b))) af u_) ?_;obtain⟨m,u,j⟩:=Oi g c a;exact aM #[_,#[rfl,m,.b,j],.b]
 .have a:r*r<=x:=by simpa using e
  refine aw .B ?_;show Bd.val _ _=Bd.val _ _;rw[kX h a n]
noncomputable def DZ(k:Int):Option Int:=if k<0 then none else if rt k*rt k=k then À (rt k) else none
def QA{k:Int}(b:0<=k)(a:Sm n k):Sm n (rt k):=by
 have h1:=Hy b;have h2:=iX k;refine Sm.of_le ?_ a
 have:rt k<=k:=by
  rcases Y8 (rt k) 1 with z|z
  .lia
  .have:rt k*1<=rt k*rt k:=XB z h2;lia
 lia
abbrev Wx(P w K mg base):=aJ P w K mg base 1 "square_root" ["k"] (dg K (λk=>0<=k/\Sm 8000 k) Á rt)
def jW(d:⇑Wx)(x:Int)(c:Sm 8000 x):⇑Body fH "square_root_or_none" df f 1 [.val Â x] (RT Á (DZ x)):=by
 intro g A outer s H E h;refine aH (ax fY .A af) (λa=>?_) (λa=>?_)
 .have e:DZ x=none:=Xo ↑a;rw[e];exact aw (lA (M:=Int)) rfl
 have i:¬x<0:=by simpa using a
 refine aq 1 fC.nd (aI d (h.mono .a) rfl .A #[.b,c]) ?_;have b:=QA .b c;refine aw (kP (ax az (aF .B .B (b.ok b)) .A) (λ_=>(ae 1).some) λ_=>lA (M:=Int)) ?_;show Bd.val _ _=Bd.val _ _;congr 1;unfold DZ;rw[Xl i];by_cases z:rt x*rt x=x
 .rw[Xo z,Xo ↑z]
 .rw[Xl z,Xl ↑z]
def oN(a b:Int):⇑Body ji "common_divisor" fP f k [.val Â a,.val Â b] (RT Á ((Ë a b:Nat):Int)):=by
 intro g A outer s H E h;refine cH (ι:=Bool×Bool×Int×Int) (λi U=>∃r,U=[À (.val i.1 i.2.2.1),À (.val i.2.1 i.2.2.2),r]/\Ë i.2.2.1 i.2.2.2=Ë a b) (λi=>i.2.2.2.natAbs) (Â,Â,a,b) #[none,rfl,rfl] ?_;rintro⟨b1,b2,x,y⟩ U' ⟨r,rfl,c⟩;refine#[_,ax gA .B af,λe=>?_,λe=>?_]
 .have d:y≠0:=by simpa using e
  refine aq 2 dk.nd (aS .A .B d) ?_;refine aq 0 dk.nd .B ?_;refine aq 1 dk.nd .C ?_;exact aM #[(b2,Á,y,x.fmod y),#[_,rfl,(mK x y).trans c],BD x y d]
 .have d:y=0:=by simpa using e
  refine aw (iw rfl B.abs .A) ?_;dsimp only at c ⊢;rw[d,abc] at c;rw[<-c];show Bd.val _ _=Bd.val _ _;congr 1;split<;>lia
def R9(_ b:Int):Prop:=b≠0/\Sm 9000 b
abbrev Wy(P w K mg base):=aJ P w K mg base 1 "common_divisor" ["a","b"] (cO K (λ_ _=>True) Á λa b=>((Ë a b:Nat):Int))
def Aq(h:⇑Wy)(t b:Int)(e:b≠0)(j:Sm 9000 b):
  Body P w K mg base my "fraction" hX f 1 [.val Â t,.val Â b] (RT Á (fr t b)):=by
 intro a A outer s H E i;have g:=yD (t:=t) e;have hz:Sm 9000 (fd t b):=Sm.of_le (O7 e) j;refine aq 2 kJ.nd (aB h i rfl .A .B É) ?_
 have last:∀d:Int,d=fd t b->S (⇑cx my "fraction" hX f a A outer s H E) [À (.val Â t),À (.val Â b),À (.val Á d)] [(cb hX).getD 2 (.Pass #[0,0,0,0])] (RT Á (fr t b)):=by
  rintro d rfl;exact aw (bR (a9 .A .C (hz.div g)) (a9 .B .C (hz.div g))) rfl
 refine aH (ax fY .B af) (λc=>?_) (λc=>?_)
 .refine aq 2 kJ.nd (eT .C) (aM ?_);exact last _ (by unfold fd;rw[Xo ↑c])
 .exact last _ (by unfold fd;rw[Xl ↑c])
def Qt{b:Int}:i<(Ó b m 2).toNat↔b+(i:Int)*2<m:=by
 unfold Ó;simp;split<;>lia
def tL(q:⇑Wx)(x b e:Int)(hp:1<=x/\Sm 8000 x/\1<=b/\b<2^62/\-(2^62)<=e/\e<2^62):
  Body P w K mg base kO "next_divisor" gY f 1 [.val Â x,.val Â b,.val Â e] (RT Á (p4 x b e)):=by
 intro t A outer s H E u;obtain⟨h1,h2,v,m,y,C⟩:=hp;have o:=iX x;have l:-(2^62)<=(if rt x+1<e then rt x+1 else e)/\(if rt x+1<e then rt x+1 else e)<2^62:=by split<;>lia
 have k:p4 x b e=PH x b (if rt x+1<e then rt x+1 else e):=rfl;refine xM (λi U=>∃r,U=[À (.val Â x),À (.val Â b),À (.val Â e),r]/\∀j:Nat,j<i->¬(b+(j:Int)*2)∣x) rfl B.range (cS 3 jU.nd) .B (O5 rfl rfl B.min .C (bX (aI q (u.mono .a) rfl .A #[.b,h2]) af)) af #[.b,m,l.1,l.2] .a #[none,rfl,λj a=>absurd a (ZA _)] ?_ ?_
 .rintro i U' hi ⟨r,rfl,a⟩;have g:=Qt.mp hi;refine aH (ax az (aS .A .D .b) af) (λd=>?_) (λd=>?_)
  .have h:(b+(i:Int)*2)∣x:=Q.hV.mp ↑d;refine aw (ae 3).some ?_;show Bd.val _ _=Bd.val _ _;rw[k,<-vQ (r:=À (b+(i:Int)*2)) #[.b,g,.b,h,λd' q1 p n=>?_]];have:=a ((d'-b)/2).toNat .b
   rwa [show b+((((d'-b)/2).toNat:Nat):Int)*2=d' by lia] at this
  .have h:¬(b+(i:Int)*2)∣x:=λz=>by
    have:=Q.hV.mpr z;simp[this] at d
   refine aM #[_,rfl,λj c=>?_];rcases acx.mp c with z|z
   .exact a j z
   .rw[z];exact h
 .rintro U' ⟨r,rfl,a⟩;refine aw (lA (M:=Int)) ?_;show Bd.val _ _=Bd.val _ _;rw[k,<-vQ (r:=none) λd' q1 p n=>?_];have:=a ((d'-b)/2).toNat (Qt.mpr .b)
  rwa [show b+((((d'-b)/2).toNat:Nat):Int)*2=d' by lia] at this
def Kz(k:Int):k.fmod 2=k%2:=Yz k .a
abbrev Wz(P w K mg base):=aJ P w K mg base 2 "next_divisor" ["k","begin","end"] (uJ K (λk b e=>1<=k/\Sm 8000 k/\1<=b/\b<2^62/\-(2^62)<=e/\e<2^62) Á p4)
def AX(c:⇑Wz)(x:Int)(d:x<2^62):
  Body P w K mg base sX "is_prime" l4 f 2 [.val Â x] (RT Á (aT x)):=by
 intro e A outer s H E g;refine aH (TW.t (u3 (ax fY .A af) λ_=>(oB (ax az (aS .A af .a) af)))) (λb=>?_) (λb=>?_)
 .have a:x<3\/x%2=0:=by simpa [Kz] using b
  refine aw (eN az .A af) ?_;show Bd.val _ _=Bd.val _ _;congr 1;rw[Yy,bY,YR];constructor
  .exact .inl
  .rintro(z|z)<;>omega
 .have a:3<=x/\x%2=1:=by
   have:¬(x<3\/x%2=0):=by simpa [Kz] using b
   omega
  refine aw (K1 (dJ c (g.mono .a) rfl .A af .A #[.e,Sm.le (m:=62) (by unfold Sm;omega) .a,.a,.a,.e,d]) λ_ _ _ _ h=>nomatch h) ?_;show Bd.val _ _=Bd.val _ _;rw[Iv a.1 a.2]
def QJ(k e:Int):Prop:=1<=k/\Sm 900 k/\0<=e/\e<2^61
theorem FH:∀{us:List (Int×Int)} {a b:Int},1<=a->gj a us b->(2:Int)^us.length<=pp us
 |[],_,_,_,_=>by show(2:Int)^0<=1;decide
 |u::us,a,b,ha,h=>by
  have h1:=FH (show 1<=u.1 by have:=h.1;lia) h.2.2.2
  have c:(2:Int)<=u.1^u.2.toNat:=by
   have e:u.2.toNat=(u.2.toNat-1)+1:=by have:=h.2.2.1;lia
   rw[e,XS];have:(0:Int)<u.1^(u.2.toNat-1):=Yx (by have:=h.1;lia);have:=h.1;have:1*2<=u.1^(u.2.toNat-1)*u.1:=Yj .b .b .a .b;lia
  show(2:Int)^(us.length+1)<=u.1^u.2.toNat*pp us;rw[XS,Yb];have d:(0:Int)<2^us.length:=Yx .a;exact Yj c h1 .b .b
def Fh{k:Int}{fs:List (Int×Int)}{l b:Int}(I:Af k fs l b):l<=k/\(2:Int)^fs.length<=k:=by
 have h1:=I.prod;have h2:=jr .a I.rise;have d:=I.pos;have a:=FH (Yv 1) I.rise;have e:1*l<=pp fs*l:=Yt .b .b;have c:pp fs*1<=pp fs*l:=XB .b .b;lia
def zV{m:Nat}{k:Int}(h:(2:Int)^m<=k)(a:Sm 900 k):m<=900:=by
 apply Xt;intro b;unfold Sm at a;have h1:(2:Nat)^900<=2^m:=ZQ .a .b;have h2:((2^m:Nat):Int)=(2:Int)^m:=by rw[aa7];rfl
 lia
abbrev WA(P w K mg base):=aJ P w K mg base 1 "taken_out" ["k","divisor"] (cO K (λk d=>k≠0/\2<=d/\Sm 9000 d) Á aX)
def Dm(v:⇑WA)(t:⇑Wz)(x e:Int)(hp:QJ x e):
  Body P w K mg base vg "divided" pE f 2 [.val Â x,.val Â e] (RT Á (bF x e)):=by
 intro F A outer s H E o;obtain⟨h1,h2,α,L⟩:=hp;obtain⟨u,k⟩:=oP h1;have two:Sm 9000 (2:Int):=Sm.le (m:=2) (by unfold Sm;decide) .a;refine aq 2 dt.nd (aB v (o.mono .a) rfl .A af #[.b,.a,two]) ?_;refine oV 3 dt.nd (OU (ax eW (bt .C) af) (λ_=>Ag (M:=Int×Int) (aE (bR af (bt .C)) bV) (Yn rfl)) λ_=>Ag (M:=Int×Int) (b:=Á) bV (Yn rfl)) ?_
 have B:(if decide (0<(aX x 2).1)=Á then [((2:Int),(aX x 2).1)] else [])=yH x:=by
  unfold yH;by_cases z:0<(aX x 2).1
  .rw[Xo z,Xo ↑z]
  .rw[Xl z,Xl ↑z]
 rw[B];refine yE (M:=Int×Int) 3 Á rfl ?_;refine aq 4 dt.nd (bO .C) ?_;have g:∀l:Int,0<l->l<=x->Sm 8000 l:=λl a b=>Sm.le (Sm.of_le .b h2) .a;have p:=u.pos;refine aq 5 dt.nd (dJ t (o.mono .a) rfl (ae 4) af .B #[.b,g _ p k,.a,.a,.b,.b]) ?_;refine cH (ι:=Nat×List (Int×Int)×Int×Int) (λi U=>∃r,U=[À (.val Â x),À (.val Â e),r,À (.own Á i.2.1),À (.val Á i.2.2.1),À (.val Á (p4 i.2.2.1 i.2.2.2 e))]/\Af x i.2.1 i.2.2.1 i.2.2.2/\i.2.2.1<=(i.1:Int)/\CK e i.1 i.2.1 i.2.2.1 i.2.2.2=bF x e) (λi=>i.1) (x.toNat,yH x,(aX x 2).2,3) #[_,rfl,u,.d,rfl] ?_;rintro⟨n,fs,l,b⟩ U' ⟨r,rfl,I,S,y⟩;dsimp only at *;have q:=I.pos;have J:=I.b3;obtain⟨C,h⟩:=Fh I;cases n with
 |zero=>lia
 |succ n =>
 refine#[_,AQ (M:=Int) (ae 5) m9,λj=>?_,λj=>?_]
 .cases c:p4 l b e with
  |none=>rw[c] at j;cases j
  |some d =>
   obtain⟨X,V,O,R,G,Γ⟩:=j8 .b .b c;obtain⟨D,N,W,T⟩:=vO (show 2<=d by lia) q G;refine aq 2 dt.nd (aB v (o.mono .a) rfl (ae 4) (dC (M:=Int) (a:=d) (ae 5)) #[.b,.b,Sm.le (m:=62) (by unfold Sm;lia) .a]) ?_;refine mO 3 rfl (iM (b':=Á) (bR (dC (M:=Int) (a:=d) (ae 5)) (bt .C))) (by have:=zV h h2;lia) ?_;refine aq 4 dt.nd (bO .C) ?_;refine aq 5 dt.nd (dJ t (o.mono .a) rfl (ae 4) (bX (dC (M:=Int) (a:=d) (ae 5)) af) .B #[.b,g _ D .b,.b,.b,.b,.b]) ?_;refine aM #[(n,fs++[(d,(aX l d).1)],(aX l d).2,d+2),#[_,rfl,I.step c,.d,?_],.d];rw[<-y];show _=CK e (n+1) fs l b;rw[CK,c]
 .have c:p4 l b e=none:=by
   cases hz:p4 l b e with
   |none=>rfl
   |some d=>rw[hz] at j;cases j
  refine dD 3 rfl ?_;have e2:CK e (n+1) fs l b=(fs,l):=by rw[CK,c]
  rw[<-y,e2];refine aw (bR .D (ae 4)) ?_;rfl
abbrev WB(P w K mg base):=aJ P w K mg base 3 "divided" ["k","end"] (cO K QJ Á bF)
def JE(h:⇑WB)(x:Int)(hp:1<=x/\x<2^60):⇑Body CC "parts" v_ f 3 [.val Â x] (RT Á (pA x)):=by
 intro d A outer s H E g;have c:Sm 900 x:=Sm.le (m:=60) (by unfold Sm;lia) .a;refine aq 1 sS.nd (aB h (g.mono .a) rfl .A (bX .A af) #[hp.1,c,.b,.b]) ?_;refine aq 2 sS.nd (kP (ax eW (bO .B) af) (λ_=>(dR (M:=Int×Int) (aE (bR (bO .B) af) bV) (Yn rfl))) λ_=>(dR (M:=Int×Int) bV (Yn rfl))) ?_;obtain⟨b,I,_⟩:=kT (e:=x+1) hp.1;obtain⟨_,a⟩:=Fh I;have i:=zV a c;refine aw (Hu (bt .B) .C ?_) ?_
 .split
  .show _+1<=1000;lia
  .show _+0<=1000;lia
 .show Bd.val _ _=Bd.val _ _;unfold pA;congr 2;by_cases z:1<(bF x (x+1)).2
  .rw[Xo z,Xo ↑z]
  .rw[Xl z,Xl ↑z]
def Oa(k:Int):Option (List (Int×Int)×Int) :=
 if 1<(bF k 32768).2/\(bF k 32768).2<1073741824 then À ((bF k 32768).1++[((bF k 32768).2,1)],1) else (DZ (bF k 32768).2).map λq=>((bF k 32768).1,q)
abbrev WC(P w K mg base):=aJ P w K mg base 2 "square_root_or_none" ["k"] (dg K (λk=>Sm 8000 k) Á DZ)
def v8(k:ui mg "GREAT_PRIMES_FROM" 32768)(n:ui mg "GREAT_FROM" 1073741824)(m:⇑WB)(j:⇑WC)(x:Int)(hp:1<=x/\Sm 900 x):
  Body P w K mg base ny "tame_parts" jk f 3 [.val Â x] (RT Á (Oa x)):=by
 intro l A outer s H E i;refine aq 1 iO.nd (aB m (i.mono .a) rfl .A (uF rfl k) #[hp.1,hp.2,.a,.a]) ?_;obtain⟨b,I,_⟩:=kT (e:=32768) hp.1;obtain⟨o,c⟩:=Fh I;have t:=zV c hp.2;have g:=I.pos;refine aH (Bl fY fY af (bO .B) (uF rfl n)) (λd=>?_) (λd=>?_)
 .have e:Oa x=À ((bF x 32768).1++[((bF x 32768).2,1)],1):=Xo ↑d;rw[e];exact aw (jy (bR (Hu (bt .B) (dR (M:=Int×Int) (b:=Á) (aE (iM (b':=Á) (bR (bO .B) af)) bV) (Yn rfl)) (by show _+1<=1000;lia)) af)) rfl
 have e:Oa x=(DZ (bF x 32768).2).map λq=>((bF x 32768).1,q):=Xl ↑d;rw[e];refine aq 2 iO.nd (aI j (i.mono .a) rfl (bO .B) (Sm.le (Sm.of_le .b hp.2) .a)) ?_;cases p:DZ (bF x 32768).2 with
 |none=>exact aw (kP (M:=Option (List (Int×Int)×Int)) (x:=none) (y:=none) (y9 (M:=Int) (x:=none) .C m9) (λ_=>lA (M:=List (Int×Int)×Int)) λh=>absurd h .a) rfl
 |some r =>
  refine aw (kP (M:=Option (List (Int×Int)×Int)) (x:=none) (y:=À ((bF x 32768).1,r)) (y9 (M:=Int) (x:=À r) .C m9) (λh=>absurd h XO) λ_=>jy (bR (bt .B) (dC (M:=Int) (a:=r) .C))) ?_;rfl
noncomputable def QQ(b e:Int):Int:=b^e.toNat
def R8(b e:Int):Prop:=1<=b/\0<=e/\e<2^62/\Sm 1000 (b^e.toNat)/\Sm 1000 b
def zk{b:Int}(a:1<=b){m:Nat}(h:m<=n):b^m<=b^n:=by
 obtain⟨d,rfl⟩:∃d,n=m+d:=#[n-m,.b];rw[YS];exact jq (Yx .b) (by have:=Yx (n:=b) (m:=d) .b;lia)
def Je(b e:Int)(hp:R8 b e):⇑Body B9 "power" wo f kk [.val Â b,.val Â e] (RT Á (QQ b e)):=by
 intro c A outer s H E j;obtain⟨h1,h2,d,a,h⟩:=hp;refine aq 2 nR.nd af ?_;refine eJ (n:=e) (λi U=>∃r,U=[À (.val Â b),À (.val Â e),À (.val Á (b^i)),r]) rfl B.range (cS 3 nR.nd) .B .b d #[none,by rw[Yc];rfl] ?_ ?_
 .rintro i U' hi ⟨r,rfl⟩
  have g:Sm 1000 (b^i):=by
   have:=zk h1 (Y0 hi);have:=Yx (n:=b) (m:=i) .b;exact Sm.of_le .b a
  refine aq 2 nR.nd (aF .C .A (g.ok h)) ?_;exact aM #[_,by rw[XS];rfl]
 .rintro U' ⟨r,rfl⟩;exact aw .C rfl
def IA{M β:Type}[Py M][Py β](K:Ã)(N:Nn)(H:Hp)(a:M×β):¬Py.rp K N H .non a:=fun⟨_,_,_,e,_⟩=>nomatch e
def qI(i:Int):(if i<0 then -i else i)=(i.natAbs:Int):=by split<;>lia
def Om(u:Int×Int):Prop:=u.1≠0/\1<=u.2/\Sm 400 u.1/\Sm 400 u.2/\Tame (u.1.natAbs*u.2)
def Ff{k:Int}(a:1<=k)(c:Tame k):Oa k=À (qt k):=by
 obtain⟨h1,_,_,_⟩:=AH a c;obtain⟨b,I,_⟩:=kT (k:=k) (e:=32768) a;have hp:=I.pos;unfold Oa qt;by_cases z:1<(bF k 32768).2/\(bF k 32768).2<1073741824
 .rw[Xo z,Xo z]
 .rw[Xl z,Xl z]
  have h2:rt (bF k 32768).2*rt (bF k 32768).2=(bF k 32768).2:=by
   rcases h1 with h1|h1
   .exact absurd h1 z
   .exact h1
  unfold DZ;rw[Xl .b,Xo h2];rfl
abbrev WD(P w K mg base):=aJ P w K mg base 2 "fraction" ["top","bottom"] (cO K R9 Á fr)
def Ij(N:⇑aJ 1 "power" ["base","exponent"] (cO K R8 Á QQ))(S:⇑WD)(L:⇑aJ 4 "tame_parts" ["k"] (dg K (λk=>1<=k/\Sm 900 k) Á Oa))(u:Int×Int)(hp:Om u):
  Body P w K mg base BR "freed" vP f 4 [.val Â u] (RT Á (ur u)):=by
 intro V A outer s H E D;obtain⟨h0,h1,R,q,J⟩:=hp;have p:Sm 400 (u.1.natAbs:Int):=Sm.of_le .b R
 have C:1<=(u.1.natAbs:Int)*u.2:=by
  have:0<(u.1.natAbs:Int)*u.2:=Yq .b .b;lia
 have j:Sm 800 ((u.1.natAbs:Int)*u.2):=p.mul q;refine aq 1 g5.nd (aI L (D.mono .a) rfl (cP (aF (iw rfl B.abs (bt .A)) (bO .A) (by rw[qI];exact p.ok q)) (by rw[qI])) #[C,Sm.le j .a]) ?_;rw[Ff C J];obtain⟨_,⟨b,e⟩,t,d⟩:=AH C J;have F:ur u=(((qt (u.1.natAbs*u.2)).1.foldl nK (if 0<u.1 then 1 else -1,(qt (u.1.natAbs*u.2)).2)).1,fr ((qt (u.1.natAbs*u.2)).1.foldl nK (if 0<u.1 then 1 else -1,(qt (u.1.natAbs*u.2)).2)).2 u.2):=rfl;rw[F];generalize (u.1.natAbs:Int)*u.2=k at *;generalize hT:qt k=T at *;refine aH (y9 (M:=List (Int×Int)×Int) (x:=À T) .B IA) (λh=>absurd h .c) (λh=>?_);refine aq 2 g5.nd (kP (ax eW (bt .A) af) (λ_=>af) λ_=>(eT af)) ?_
 have y:(if decide (0<u.1)=Á then (1:Int) else -1)=(if 0<u.1 then 1 else -1):=by
  by_cases z:0<u.1
  .rw[Xo ↑z,Xo z]
  .rw[Xl ↑z,Xl z]
 rw[y];have l:(if 0<u.1 then (1:Int) else -1)=1\/(if 0<u.1 then (1:Int) else -1)=-1:=by split<;>simp
 generalize (if 0<u.1 then (1:Int) else -1)=sg at *;refine aq 3 g5.nd (bO (dC (M:=List (Int×Int)×Int) (a:=T) .B)) ?_;have bd:=λi=>J6 e t l i;rw[d] at bd
 have σ:pp T.1<=k:=by
  rw[<-d];exact jq (jr .a e) (by have:=Yq t t;lia)
 refine pX (λi U=>∃r,U=[À (.val Â u),À (.val Á (À T)),À (.val Á ((T.1.take i).foldl nK (sg,T.2)).1),À (.val Á ((T.1.take i).foldl nK (sg,T.2)).2),r]) (cS 4 g5.nd) (bp (bt (dC (M:=List (Int×Int)×Int) (a:=T) .B))) #[none,rfl] ?_ ?_
 .rintro i v U' G ⟨r,rfl⟩;obtain⟨b1,b2,b3⟩:=bd i;obtain⟨Γ,v2,v3,v4,v5⟩:=JH e G;have W:(T.1.take (i+1)).foldl nK (sg,T.2)=nK ((T.1.take i).foldl nK (sg,T.2)) v:=oZ G;rw[W];generalize (T.1.take i).foldl nK (sg,T.2)=c at *;have sn:Sm 800 c.1:=Sm.of_le b1 j;have O:Sm 800 c.2:=Sm.of_le .b j;have I:Sm 800 v.1:=Sm.of_le .b j;have sp:Sm 800 (v.1^(v.2/2).toNat):=Sm.of_le (by have:=Yx (n:=v.1) (m:=(v.2/2).toNat) .b;lia) j;have o:v.2.fdiv 2=v.2/2:=Yi _ .a
  have α:v.2<2^62:=by
   apply Xt;intro hn
   have g1:(2:Int)^900<=v.1^(v.2/2).toNat:=by
    have a1:(2:Int)^900<=2^(v.2/2).toNat:=zk .a .b
    have Z:∀n:Nat,(2:Int)^n<=v.1^n:=λn=>by
     induction n with
     |zero=>rw[Yc,Yc];decide
     |succ n X =>
      rw[XS,XS];exact Yj X Γ .a (ZR (Yx .b))
    have:=Z (v.2/2).toNat;lia
   have g2:(v.1^(v.2/2).toNat).natAbs<2^800:=sp;have g3:((2:Int)^800)<2^900:=by decide +kernel
   have g4:((2^800:Nat):Int)=(2:Int)^800:=by decide +kernel
   lia
  refine nv (λU=>U=[À (.val Â u),À (.val Á (À T)),À (.val Á (if v.2%2=1 then c.1*v.1 else c.1)),À (.val Á c.2),À (.val Á v)]) (ax az (aS (bO (ae 4)) af .a) af) (λh=>?_) (λh=>?_) ?_
  .have g:v.2%2=1:=by simpa [bD] using h
   rw[Xo g];exact aq 2 g5.nd (aF .C (bt (ae 4)) (sn.ok I)) (aM rfl)
  .have g:¬v.2%2=1:=by simpa [bD] using h
   rw[Xl g];exact aM rfl
  rintro U' rfl;refine aq 3 g5.nd (aF .D (aB N (D.mono .a) rfl (bt (ae 4)) (a9 (bO (ae 4)) af u_) #[.b,by rw[o];lia,by rw[o];lia,by rw[o];exact Sm.le sp .a,Sm.le I .a]) (by show ģ c.2 (v.1^(v.2.fdiv 2).toNat);rw[o];exact O.ok sp)) ?_;refine aM #[À (.val Á v),?_];unfold nK QQ;rw[o];rfl
 .rintro U' ⟨r,rfl⟩;rw[YU];refine aw (bR .C (aB S (D.mono .a) rfl .D (bO .A) #[.b,Sm.le q .a])) ?_;rfl
abbrev WE(P w K mg base):=aJ P w K mg base 1 "power_by" ["base","exponent","m"] (uJ K (λ_ e m=>0<=e/\1<=m/\m<2^62) Á zA)
def zb(h:⇑WE)(x p:Int)(hp:2<=p)(b:p<2^62):⇑Body qd "square_by" kD f 1 [.val Â x,.val Â p] (RT Á (bh x p)):=by
 intro g A outer s H E i;have d:(p-1).fdiv 2=(p-1)/2:=Yi _ .a;refine aq 2 nU.nd (aS .A .B .b) ?_;rw[bD (show 1<=p by lia)];refine aH (TW.t (u3 (ax az .C af) λ_=>(oB (ax az .B af)))) (λc=>?_) (λc=>?_)
 .have a:x%p=0\/p=2:=by simpa using c
  have e:bh x p=x%p:=by
   unfold bh;by_cases z:x%p=0
   .rw[Xo z,z]
   .rcases a with w|w
    .exact absurd w z
    .rw[Xl z,Xo w];subst w;lia
  rw[e];exact aw .C rfl
 .have a:¬(x%p=0\/p=2):=by simpa using c
  refine aw (kP (ax az (dJ h (i.mono .a) rfl .C (a9 (eO .B af) af u_) .B #[by rw[d];lia,.b,b]) af) (λ_=>af) λ_=>(eT af)) ?_;show Bd.val _ _=Bd.val _ _;unfold bh zA;rw[Xl (λz=>a (.inl z)),Xl (λz=>a (.inr z)),d];congr 1;by_cases z:(x%p)^((p-1)/2).toNat%p=1
  .rw[Xo z,Xo ↑z]
  .rw[Xl z,Xl ↑z]
def SQ(k m:Int):Prop:=Ë k m=1/\2<=m/\m<2^62
def C5(x m:Int)(y:Ë x m=1)(p:2<=m)(z:m<2^62):⇑Body vf "back_by" oE f kk [.val Â x,.val Â m] (RT Á (uL x m)):=by
 intro B A outer s H E α;refine aq 2 bS.nd (iM (b':=Á) .B) ?_;refine aq 3 bS.nd (aS .A .B .b) ?_;rw[bD .b];refine aq 4 bS.nd af ?_;refine aq 5 bS.nd af ?_;refine cH (ι:=Int×Int×Int×Int) (λi U=>(∃o k l,U=[À (.val Â x),À (.val Â m),À (.val Á i.1),À (.val Á i.2.1),À (.val Á i.2.2.1),À (.val Á i.2.2.2),o,k,l])/\∃u v s,Dc x m i.1 i.2.1 i.2.2.1 i.2.2.2 u v s) (λi=>i.2.1.toNat) (m,x%m,0,1) #[#[none,none,none,rfl],0,1,1,Q.Dc.start p y] ?_;rintro⟨r,b,t,h⟩ U' ⟨⟨o,k,l,rfl⟩,u,v,s,I⟩;dsimp only at I ⊢;have N:=I.r0;have j:=I.b0;have L:=I.lt;have D:=I.rm;have J:=I.bd;have g:∀{a c:Int},a.natAbs<=m->c.natAbs<=m->ģ a c:=λ{a c} h1 h2=>(show Sm 70 a by unfold Sm;lia).ok (show Sm 70 c by unfold Sm;lia);refine#[_,ax gA .D af,λe=>?_,λe=>?_]
 .have d:b≠0:=by simpa using e
  have st:=I.step d;have q:r.fdiv b=r/b:=Yi _ j;have G:0<=r/b:=aa5 .b j
  have q1:r/b<=m:=by
   have:=ϓ b (show 0<=r by lia);lia
  refine aq 6 bS.nd (a9 .C .D (Sm.div (n:=70) (by unfold Sm;lia) d)) ?_;rw[q];refine aq 7 bS.nd (eO .C (aF (ae 6) .D (g .b .b))) ?_;refine aq 8 bS.nd (eO (ae 4) (aF (ae 6) (ae 5) (g .b .b))) ?_;refine aq 2 bS.nd .D ?_;refine aq 3 bS.nd (ae 7) ?_;refine aq 4 bS.nd (ae 5) ?_;refine aq 5 bS.nd (ae 8) ?_;have C:=st.lt;have F:=st.b0;exact aM #[(b,r-r/b*b,h,t-r/b*h),#[#[_,_,_,rfl],v,u+r/b*v,-s,st],.d]
 .have d:b=0:=by simpa using e
  subst d;rw[I.done p,<-bD (show 1<=m by lia)];exact aw (aS (ae 4) .B .b) rfl
abbrev WG(P w K mg base):=aJ P w K mg base 2 "square_by" ["k","p"] (cO K (λ_ p=>2<=p/\p<2^62) Á bh)
def nV(j:⇑WG)(p:Int)(g:NR p)(hp:2<=p/\p<2^62):⇑Body iE "least_no_square" fE f 2 [.val Â p] (RT Á (jY p)):=by
 intro d A outer s H E m;obtain⟨l,i,h⟩:=mj g;refine aq 1 eE.nd af ?_;refine cH (ι:=Int) (λk U=>U=[À (.val Â p),À (.val Á k)]/\2<=k/\k<=jY p) (λk=>(jY p-k).toNat) 2 #[rfl,.a,l] ?_;rintro k U' ⟨rfl,c,o⟩;refine#[_,ax gA (aB j (m.mono .a) rfl .B .A hp) (eT af),λb=>?_,λb=>?_]
 .have a:bh k p≠-1:=by simpa using b
  have n:k≠jY p:=by rintro rfl;exact a i
  exact aq 1 eE.nd (bX .B af) (aM #[k+1,#[rfl,.b,.b],.b])
 .have a:bh k p=-1:=by simpa using b
  have e:k=jY p:=by
   rcases aac o with z|z
   .exact absurd a (h k c z)
   .exact z
  rw[<-e];exact aw .B rfl
def Rv(e p:Int):Prop:=(∃n:Nat,Q.Cg p (e^2^n) 1)/\(0<=e/\e<p)/\2<=p/\p<2^62
def yU(e p:Int)(hp:Rv e p):⇑Body qh "squarings" kg f kk [.val Â e,.val Â p] (RT Á (jJ e p)):=by
 intro j A outer s H E u;obtain⟨⟨n,m⟩,he,p2,r⟩:=hp;obtain⟨⟨o,h,l⟩,_⟩:=FJ m;refine aq 2 gJ.nd af ?_;refine cH (ι:=Bool×Nat×Int) (λi U=>U=[À (.val i.1 i.2.2),À (.val Â p),À (.val Á (i.2.1:Int))]/\Q.Cg p i.2.2 (e^2^i.2.1)/\(0<=i.2.2/\i.2.2<p)/\(i.2.1:Int)<=jJ e p) (λi=>(jJ e p-(i.2.1:Int)).toNat) (Â,0,e) #[rfl,by show Q.Cg p e (e^1);rw[XS,Yc,Yp];exact iF _ _,he,o] ?_;rintro⟨t,i,k⟩ U' ⟨rfl,b,c,hi⟩;dsimp only at *;refine#[_,ax gA .A af,λd=>?_,λd=>?_]
 .have a:k≠1:=by simpa using d
  have g:¬Q.Cg p (e^2^i) 1:=λz=>a (KS c #[.a,.b] (cj b z))
  have q:(i:Int)<jJ e p:=by
   rcases aac hi with z|z
   .exact z
   .rw[<-z,Ö] at h;exact absurd h g
  refine aq 0 gJ.nd (aS (aF .A .A (mulL .b .b)) .B .b) ?_;refine aq 2 gJ.nd (bX .C af) ?_;rw[bD .b];refine aM #[(Á,i+1,k*k%p),#[rfl,?_,#[X2 _ .b,XU _ .b],.d],.d];dsimp only;refine cj (Q.dW _ _) ?_;rw[show(2:Nat)^(i+1)=2^i+2^i by rw[ϴ];lia,YS];exact iP b b
 .have a:k=1:=by simpa using d
  have heq:(i:Int)=jJ e p:=by
   rcases aac hi with z|z
   .rw[a] at b;exact absurd (xb b) (l i z)
   .exact z
  rw[<-heq];exact aw .C rfl
def Q2(k p:Int):Prop:=aT p=Á/\p≠2/\p<2^60/\(0<=k/\k<p)/\bh k p=1/\NR p
abbrev WH(P w K mg base):=aJ P w K mg base 3 "least_no_square" ["p"] (dg K (λp=>NR p/\2<=p/\p<2^62) Á jY)
def pJ(O:⇑WA)(q:⇑WE)(N:⇑WH)(T:⇑aJ 1 "squarings" ["k","p"] (cO K Rv Á jJ))
  (k p:Int) (hp:Q2 k p):⇑Body jg "root_of_square" fM f 3 [.val Â k,.val Â p] (RT Á (HZ k p)):=by
 intro J A outer s H E g;obtain⟨a,h2,S,α,Γ,o⟩:=hp;have W:=gb a h2;obtain⟨t1,X,σ,_⟩:=sZ a h2;have two:Sm 9000 (2:Int):=Sm.le (m:=2) (by unfold Sm;decide) .a;refine aq 2 aL.nd (aB O (g.mono .a) rfl (eO .B af) af #[.b,.a,two]) ?_;refine aq 3 aL.nd (bt .C) ?_;refine aq 4 aL.nd (bO .C) ?_;have v:((aX (p-1) 2).2+1).fdiv 2=((aX (p-1) 2).2+1)/2:=Yi _ .a;refine aq 5 aL.nd (dJ q (g.mono .a) rfl .A (a9 (bX (ae 4) af) af u_) .B #[by rw[v];lia,.b,.b]) ?_;refine aq 6 aL.nd (dJ q (g.mono .a) rfl .A (ae 4) .B #[.b,.b,.b]) ?_;refine aq 7 aL.nd (kP (ax gA (ae 6) af) (λ_=>(dJ q (g.mono .a) rfl (aI N (g.mono .a) rfl .B #[o,.b,.b]) (ae 4) .B #[.b,.b,.b])) λ_=>af) ?_;have D:=yB a h2 α Γ o
 have em:(if (!decide (zA k (aX (p-1) 2).2 p=1))=Á then zA (jY p) (aX (p-1) 2).2 p else 1)=(if k^(aX (p-1) 2).2.toNat%p≠1 then jY p^(aX (p-1) 2).2.toNat%p else 1):=by
  unfold zA;by_cases z:k^(aX (p-1) 2).2.toNat%p=1
  .rw[Xl (by simp[z]),Xl (by simp[z])]
  .rw[Xo (by simp[z]),Xo z]
 rw[em,v]
 refine cH (ι:=Nat×Int×Int×Int×Int) (λi U=>∃u d,U=[À (.val Â k),À (.val Â p),À (.val Á (aX (p-1) 2)),À (.val Á i.2.1),À (.val Á (aX (p-1) 2).2),À (.val Á i.2.2.1),À (.val Á i.2.2.2.1),À (.val Á i.2.2.2.2),u,d]/\Ox p k i.2.1 i.2.2.1 i.2.2.2.1 i.2.2.2.2/\i.2.1<=(i.1:Int)/\i.2.1<2^61/\oA p i.1 i.2.1 i.2.2.1 i.2.2.2.1 i.2.2.2.2=HZ k p) (λi=>i.1)
  ((aX (p-1) 2).1.toNat,(aX (p-1) 2).1,k^(((aX (p-1) 2).2+1)/2).toNat%p,k^(aX (p-1) 2).2.toNat%p,if k^(aX (p-1) 2).2.toNat%p≠1 then jY p^(aX (p-1) 2).2.toNat%p else 1) #[none,none,rfl,D,.d,?_,rfl] ?_
 .dsimp only;obtain⟨b1,b2,b3⟩:=e_ (show(2:Int)<=2 by decide) (show p-1≠0 by lia);apply Xt;intro o
  have g1:((aX (p-1) 2).1.toNat:Int)<(2:Int)^(aX (p-1) 2).1.toNat:=by
   have:=Nat.lt_two_pow_self (n:=(aX (p-1) 2).1.toNat);have c1:((2^(aX (p-1) 2).1.toNat:Nat):Int)=(2:Int)^(aX (p-1) 2).1.toNat:=by rw[aa7];rfl
   lia
  have g2:1*(2:Int)^(aX (p-1) 2).1.toNat<=(aX (p-1) 2).2*2^(aX (p-1) 2).1.toNat:=Yt .b .b;lia
 rintro⟨n,t,r,e,m⟩ U' ⟨u,d,rfl,I,F,L,c⟩;dsimp only at *;have C:=I.t1;cases n with
 |zero=>lia
 |succ n =>
 refine#[_,ax gA (ae 6) af,λl=>?_,λl=>?_]
 .have he:e≠1:=by simpa using l
  obtain⟨Z,V,R,y⟩:=I.step a he;have ie:=I.e0;have ir:=I.r0;refine aq 8 aL.nd (aB T (g.mono .a) rfl (ae 6) .B #[#[_,I.ee],I.e0,.b,.b]) ?_;refine eJ (λj U=>∃d,U=[À (.val Â k),À (.val Â p),À (.val Á (aX (p-1) 2)),À (.val Á t),À (.val Á (aX (p-1) 2).2),À (.val Á r),À (.val Á e),À (.val Á (mq p m j)),À (.val Á (jJ e p)),d]) rfl B.range (cS 9 aL.nd) (eO (eO .D (ae 8)) af) .b .b #[_,rfl] ?_ ?_
  .rintro j U' hj ⟨d,rfl⟩;have G:=Fg (show 0<p by lia) I.m0 j;refine aq 7 aL.nd (aS (aF (ae 7) (ae 7) (mulL .b .b)) .B .b) ?_;rw[bD .b];exact aM #[_,rfl]
  .rintro U' ⟨d,rfl⟩;have G:=Fg (show 0<p by lia) I.m0 (t-jJ e p-1).toNat;have b:oA p (n+1) t r e m=oA p n (jJ e p) (r*mq p m (t-jJ e p-1).toNat%p) (e*(mq p m (t-jJ e p-1).toNat*mq p m (t-jJ e p-1).toNat%p)%p) (mq p m (t-jJ e p-1).toNat*mq p m (t-jJ e p-1).toNat%p):=by rw[oA,Xl he]
   rw[b] at c;generalize mq p m (t-jJ e p-1).toNat=x at *;refine aq 5 aL.nd (aS (aF (ae 5) (ae 7) (mulL .b .b)) .B .b) ?_;refine aq 7 aL.nd (aS (aF (ae 7) (ae 7) (mulL .b .b)) .B .b) ?_;refine aq 6 aL.nd (aS (aF (ae 6) (ae 7) (mulL .b .b)) .B .b) ?_;refine aq 3 aL.nd (ae 8) ?_;rw[bD .b,bD .b,bD .b];exact aM #[(n,jJ e p,r*x%p,e*(x*x%p)%p,x*x%p),#[_,_,rfl,y,.d,.d,c],.d]
 .have he:e=1:=by simpa using l
  have h:oA p (n+1) t r e m=r:=by rw[oA,Xo he]
  rw[<-c,h];exact aw (ae 5) rfl
def R1(k p:Int):Prop:=aT p=Á/\p<2^60
def qG(o:⇑WG)(n:⇑aJ 4 "root_of_square" ["k","p"] (cO K Q2 Á HZ))(k p:Int)(hp:R1 k p):⇑Body jM "root_by_prime" gC f 4 [.val Â k,.val Â p] (RT Á (xr k p)):=by
 intro l A outer s H E j;obtain⟨a,g⟩:=hp;have d:=au a;refine aq 2 jd.nd (aB o (j.mono .a) rfl .A .B #[d,.b]) ?_;refine aH (ax az .C (eT af)) (λb=>?_) (λb=>?_)
 .have e:xr k p=none:=Xo ↑b;rw[e];exact aw (lA (M:=Int)) rfl
 have h1:¬bh k p=-1:=by simpa using b
 refine aH (TW.t (u3 (ax az .C af) λ_=>(oB (ax az .B af)))) (λb=>?_) (λb=>?_)
 .have e:xr k p=À (bh k p):=by unfold xr;rw[Xl h1,Xo ↑b]
  rw[e];exact aw (jy .C) rfl
 have i:¬(bh k p=0\/p=2):=by simpa using b
 have e:xr k p=À (HZ (k%p) p):=by unfold xr;rw[Xl h1,Xl i]
 have h2:p≠2:=λz=>i (.inr z);have m:=lZ a h2;have c:¬p∣k:=λz=>i (.inl (cZ z));have h:bh k p=1:=by rcases bx c with z|z<;>lia
 rw[e,<-bD (show 1<=p by lia)];refine aw (jy (aB n (j.mono .a) rfl (aS .A .B .b) .B #[a,h2,g,?_,?_,m])) rfl
 .rw[bD .b];exact#[X2 _ .b,XU _ .b]
 .rw[bD .b,wD];exact h
def Rl(a m o p:Int):Prop:=(0<=a/\a<m)/\(0<=o/\o<p)/\Ë m p=1/\m<2^60/\2<=p/\p<2^60
def wj(h:⇑aJ 1 "back_by" ["k","m"] (cO K SQ Á uL))(a m o p:Int)(hp:Rl a m o p):⇑Body mV "with_rests" jE f 1 [.val Â a,.val Â m,.val Â o,.val Â p] (RT Á (zC a m o p)):=by
 intro g A outer s H E i;obtain⟨⟨u,k⟩,⟨o0,j⟩,b,r,h2,q⟩:=hp;obtain⟨l,b1,_⟩:=Kt h2 b;have t:=X2 ((o-a)*uL m p) (show p≠0 by lia);have n:=XU ((o-a)*uL m p) (show 0<p by lia);have e:((o-a)*uL m p).fmod p=(o-a)*uL m p%p:=bD .b;have d:∀{a c:Int},a.natAbs<2^64->c.natAbs<2^64->ģ a c:=λ{a c} h1 h2=>(show Sm 64 a from h1).ok (show Sm 64 c from h2);refine aw (bX .A (aF .B (aS (aF (eO .C .A) (aB h (i.mono .a) rfl .B .D #[b,h2,.b]) (d .b .b)) .D .b) (d .b (by rw[e];lia)))) ?_;show Bd.val _ _=Bd.val _ _;unfold zC;rw[e]
abbrev WI(P w K mg base):=aJ P w K mg base 4 "parts" ["k"] (dg K (λk=>1<=k/\k<2^60) Á pA)
def CI(Uw:⇑WI)(Uj:⇑aJ 5 "root_by_prime" ["k","p"] (cO K R1 Á xr))(Uy:⇑aJ 2 "with_rests" ["one","m","other","p"] (HN K Rl Á zC))(k m:Int)(V:1<=m)(α:m<2^60):⇑Body vi "root_by" pP f 5 [.val Â k,.val Â m] (RT Á (F1 k m)):=by
 intro cdv A outer s H E S;obtain⟨⟨b,h⟩,G⟩:=pb V;obtain⟨_,L⟩:=D6 .a h;rw[G] at L;refine aq 2 eK.nd af ?_;refine aq 3 eK.nd af ?_;have W:F1 k m=IF k (pA m) 0 1:=rfl;have o:=jb h;have p:=(sh h).1;generalize F:pA m=us at *;rw[W];refine oG (xs:=us) (λi U=>∃a d r N,U=[À (.val Â k),À (.val Â m),À (.val Á a),À (.val Á d),r,N]/\HX k a d ((us.take i).map (·.1))/\IF k us 0 1=IF k (us.drop i) a d/\d*dp (us.drop i)<=m/\1<=dp (us.drop i)) (cS 4 eK.nd) (cP (aI Uw (S.mono .a) rfl .B #[V,α]) F) #[0,1,none,none,rfl,Q.HX.zero k,rfl,by show 1*dp us<=m;lia,by show 1<=dp us;lia] ?_ ?_
 .rintro i u U' y ⟨a,d,r,N,rfl,I,c,O,l⟩;obtain⟨up,u1⟩:=o u (Xs y);have C:=au up;rw[Hg y] at c O l;have R:d*(u.1*dp (us.drop (i+1)))<=m:=O;have t:1<=u.1*dp (us.drop (i+1)):=l
  have g:1<=dp (us.drop (i+1)):=by
   apply Xt;intro Γ;have:u.1*dp (us.drop (i+1))<=0:=Yk .b .b;lia
  have d1:=I.d1
  have ub:u.1<=m/\d<=m:=by
   have t1:u.1*1<=u.1*dp (us.drop (i+1)):=XB g .b;have t2:d*1<=d*(u.1*dp (us.drop (i+1))):=XB t .b;have t3:1*(u.1*dp (us.drop (i+1)))<=d*(u.1*dp (us.drop (i+1))):=Yt d1 .b;lia
  refine aq 5 eK.nd (aB Uj (S.mono .a) rfl .A (bt (ae 4)) #[up,by show u.1<2^60;lia]) ?_;rw[IF] at c;cases D:xr k u.1 with
  |none =>
   rw[D] at c;refine aH (y9 (M:=Int) (x:=none) (ae 5) m9) (λ_=>?_) (λJ=>absurd J .a);rw[c];exact aw (lA (M:=Int)) rfl
  |some q =>
   rw[D] at c
   have Γ:u.1∉(us.take i).map (·.1):=λz=>by
    obtain⟨v,Z,e⟩:=XF.mp z;obtain⟨j,B⟩:=List.getElem?_of_mem Z
    have n:j<i:=by
     have:=(Xy.mp B).1;rw[Zs] at this;lia
    rw[acq n] at B;have T:=acj.mp p j i (by rw[Xv];exact(Xy.mp B).1) (by rw[Xv];exact(Xy.mp y).1) n;rw[ς,ς,(Xy.mp B).2,(Xy.mp y).2] at T;lia
   obtain⟨σ,X,q0,q1⟩:=I.step up Γ D;refine aH (y9 (M:=Int) (x:=À q) (ae 5) m9) (λJ=>absurd J XO) (λ_=>?_);refine aq 2 eK.nd (v9 Uy (S.mono .a) rfl .C .D (dC (M:=Int) (a:=q) (ae 5)) (bt (ae 4)) #[#[I.a0,I.a1],#[q0,q1],X,.b,C,by show u.1<2^60;lia]) ?_;refine aq 3 eK.nd (aF .D (bt (ae 4)) ((show Sm 64 d by unfold Sm;lia).ok (show Sm 64 u.1 by unfold Sm;lia))) ?_;refine aM #[zC a d q u.1,d*u.1,_,_,rfl,?_,c,by rw[X6];exact R,g];rw[abQ,y];simpa using σ
 .rintro U' ⟨a,d,r,N,rfl,I,c,O,l⟩;rw[List.drop_length] at c;rw[c];exact aw (jy .C) rfl
def zX(h:⇑WA)(d:⇑WG)(x p:Int)(g:x≠0)(hp:2<=p)(a:p<2^62):⇑Body lP "class_at" jo f 2 [.val Â x,.val Â p] (RT Á (cls x p)):=by
 intro e A outer s H E b;refine aH (ax az .B af) (λc=>?_) (λc=>?_)
 .exact absurd (show p=0 by simpa using c) .b
 refine aq 2 eU.nd (aB h (b.mono .a) rfl .A .B #[g,hp,Sm.le (m:=62) (by unfold Sm;lia) .a]) ?_;refine aq 3 eU.nd (kP (ax az .B af) (λ_=>(aS (bO .C) af .a)) λ_=>(aB d (b.mono .a) rfl (bO .C) .B #[hp,a])) ?_;refine aw (bR (aS (bt .C) af .a) .D) ?_;show Bd.val _ _=Bd.val _ _;unfold cls;rw[bD .a,bD .a];congr 2;by_cases z:p=2
 .rw[Xo z,Xo ↑z]
 .rw[Xl z,Xl ↑z]
def tS(k p:Int):Int⊕(Int×Int):=if p=0 then .inl (if 0<k then 1 else -1) else .inr (cls k p)
def yM(h:⇑WA)(i:⇑WG)(x p:Int)(j:x≠0)(hp:p=0\/(2<=p/\p<2^62)):⇑Body lP "class_at" jo f 2 [.val Â x,.val Â p] (RT Á (tS x p)):=by
 intro g A outer s H E d;refine aH (ax az .B af) (λb=>?_) (λb=>?_)
 .have e:tS x p=.inl (if decide (0<x)=Á then 1 else -1):=by
   unfold tS;rw[Xo ↑b];congr 1;by_cases z:0<x
   .rw[Xo z,Xo ↑z]
   .rw[Xl z,Xl ↑z]
  rw[e];exact aw (KI (β:=Int×Int) (kP (ax eW .A af) (λ_=>af) λ_=>(eT af))) rfl
 have c:¬p=0:=by simpa using b
 have a:2<=p/\p<2^62:=by omega
 refine aq 2 eU.nd (aB h (d.mono .a) rfl .A .B #[j,a.1,Sm.le (m:=62) (by unfold Sm;omega) .a]) ?_;refine aq 3 eU.nd (kP (ax az .B af) (λ_=>(aS (bO .C) af .a)) λ_=>(aB i (d.mono .a) rfl (bO .C) .B a)) ?_;refine aw (FF (M:=Int) (bR (aS (bt .C) af .a) .D)) ?_;show Bd.val _ _=Bd.val _ _;unfold tS cls;rw[bD .a,bD .a,Xl c];congr 3;by_cases z:p=2
 .rw[Xo z,Xo ↑z]
 .rw[Xl z,Xl ↑z]
def A5(x y:Int×Int):⇑Body sP "two_says" lU f kk [.val Â x,.val Â y] (RT Á (fG x y)):=by
 intro c A outer s H E d;refine aq 2 f9.nd af ?_;refine nv (λU=>U=[À (.val Â x),À (.val Â y),À (.val Á (0+b1 (decide (x.2.fmod 4=3)&&decide (y.2.fmod 4=3))))]) (TW.t (pH (ax az (aS (bO .A) af .a) af) λ_=>(kW (ax az (aS (bO .B) af .a) af)))) (λb=>?_) (λb=>?_) ?_
 .exact aq 2 f9.nd (bX .C af) (aM (by rw[b];rfl))
 .exact aM (by rw[b];rfl)
 rintro U' rfl;refine nv (λU=>U=[À (.val Â x),À (.val Â y),À (.val Á (0+b1 (decide (x.2.fmod 4=3)&&decide (y.2.fmod 4=3))+b1 (decide (x.1=1)&&(decide ((3:Int)=y.2) || decide ((5:Int)=y.2)))))]) (TW.t (pH (ax az (bt .A) af) λ_=>(kW (ax GK (bO .B) (bR af af))))) (λb=>?_) (λb=>?_) ?_
 .exact aq 2 f9.nd (bX .C af) (aM (by rw[b];rfl))
 .exact aM (by rw[b];show [_,_,_]=[_,_,_];simp[b1])
 rintro U' rfl;refine nv (λU=>U=[À (.val Â x),À (.val Â y),À (.val Á (0+b1 (decide (x.2.fmod 4=3)&&decide (y.2.fmod 4=3))+b1 (decide (x.1=1)&&(decide ((3:Int)=y.2) || decide ((5:Int)=y.2)))+b1 (decide (y.1=1)&&(decide ((3:Int)=x.2) || decide ((5:Int)=x.2)))))]) (TW.t (pH (ax az (bt .B) af) λ_=>(kW (ax GK (bO .A) (bR af af))))) (λb=>?_) (λb=>?_) ?_
 .exact aq 2 f9.nd (bX .C af) (aM (by rw[b];rfl))
 .exact aM (by rw[b];show [_,_,_]=[_,_,_];simp[b1])
 rintro U' rfl;refine aw (eN az (aS .C af .a) af) ?_;show Bd.val _ _=Bd.val _ _;unfold fG;congr 1;rw[bD .a,bD .a,bD .a,acu];simp only[eq_comm (a:=(3:Int)),eq_comm (a:=(5:Int))]
def uS(x p:Int):-2<=bh x p/\bh x p<=2:=by
 unfold bh
 repeat' split
 all_goals decide
def Ap(e:⇑WG)(x y:Int×Int)(p:Int)(hp:(-2<=x.2/\x.2<=2)/\(-2<=y.2/\y.2<=2)/\2<=p/\p<2^62):⇑Body sE "odd_says" lV f 2 [.val Â x,.val Â y,.val Â p] (RT Á (C6 x y p)):=by
 intro d A outer s H E g;obtain⟨j,i,c,b⟩:=hp;have h:=uS (-1) p;refine aq 3 f_.nd af ?_;refine nv (λU=>U=[À (.val Â x),À (.val Â y),À (.val Â p),À (.val Á (1*(if x.1=1 then y.2 else 1)))]) (ax az (bt .A) af) (λa=>?_) (λa=>?_) ?_
 .exact aq 3 f_.nd (aF .D (bO .B) (mulL .a .a)) (aM (by rw[Xo ↑a];rfl))
 .exact aM (by rw[Xl ↑a];rfl)
 rintro U' rfl;refine nv (λU=>U=[À (.val Â x),À (.val Â y),À (.val Â p),À (.val Á (1*(if x.1=1 then y.2 else 1)*(if y.1=1 then x.2 else 1)))]) (ax az (bt .B) af) (λa=>?_) (λa=>?_) ?_
 .exact aq 3 f_.nd (aF .D (bO .A) (mulR .e .e)) (aM (by rw[Xo (show y.1=1 by simpa using a)];rfl))
 .exact aM (by rw[Xl (show ¬y.1=1 by simpa using a),X0])
 rintro U' rfl;refine nv (λU=>U=[À (.val Â x),À (.val Â y),À (.val Â p),À (.val Á (1*(if x.1=1 then y.2 else 1)*(if y.1=1 then x.2 else 1)*(if x.1=1/\y.1=1 then bh (-1) p else 1)))]) (TW.t (pH (ax az (bt .A) af) λ_=>(kW (ax az (bt .B) af)))) (λa=>?_) (λa=>?_) ?_
 .exact aq 3 f_.nd (aF .D (aB e (g.mono .a) rfl (eT af) .C #[c,b]) (mulR .e .e)) (aM (by rw[Xo (show x.1=1/\y.1=1 by simpa using a)];rfl))
 .exact aM (by rw[Xl (show ¬(x.1=1/\y.1=1) by simpa using a),X0])
 rintro U' rfl;refine aw (eN az .D af) ?_;show Bd.val _ _=Bd.val _ _;unfold C6;rw[Yp]
def uz(x:Int)(h2:p≠2):-2<=(cls x p).2/\(cls x p).2<=2:=by
 unfold cls;dsimp only;rw[Xl h2];exact uS _ _
abbrev WK(P w K mg base):=aJ P w K mg base 3 "odd_says" ["one","other","p"] (uJ K (λx y p=>(-2<=x.2/\x.2<=2)/\(-2<=y.2/\y.2<=2)/\2<=p/\p<2^62) Á C6)
abbrev WJ(P w K mg base):=aJ P w K mg base 3 "class_at" ["k","p"] (cO K (λk p=>k≠0/\2<=p/\p<2^62) Á cls)
def Nq(i:⇑WJ)(m:⇑aJ 1 "two_says" ["one","other"] (cO K (λ_ _=>True) Á fG))
  (j:⇑WK) (a b p:Int) (ha:a≠0) (k:b≠0) (hp:p=0\/(2<=p/\p<2^62)):⇑Body HI "says" A8 f 3 [.val Â a,.val Â b,.val Â p] (RT Á (aA a b p)):=by
 intro l A outer s H E d;refine aH (ax az .C af) (λg=>?_) (λg=>?_)
 .have h:p=0:=by simpa using g
  have e:aA a b p=(decide (0<a) || decide (0<b)):=Xo h;rw[e];exact aw (HE (eN eW .A af) λ_=>(iU (eN eW .B af))) rfl
 have h:¬p=0:=by simpa using g
 have c:2<=p/\p<2^62:=by lia
 refine aq 3 wU.nd (aB i (d.mono .a) rfl .A .C #[ha,c]) ?_;refine aq 4 wU.nd (aB i (d.mono .a) rfl .B .C #[k,c]) ?_;refine aw (kP (ax az .C af) (λ_=>(aB m (d.mono .a) rfl .D (ae 4) É)) λh2=>(dJ j (d.mono .a) rfl .D (ae 4) .C #[uz a ↑h2,uz b ↑h2,c])) ?_;show Bd.val _ _=Bd.val _ _;congr 1;unfold aA;rw[Xl h];by_cases z:p=2
 .rw[Xo z,Xo ↑z]
 .rw[Xl z,Xl ↑z]
def x4(ns:List Int):List Int:=2::ns.flatMap λk=>(pA (k.natAbs:Int)).map (·.1)
def n_(ns:List Int):List Int:=sset (x4 ns)
structure Hd(ns:List Int):Prop where
 len:ns.length<=100
 rng:∀k∈ns,1<=(k.natAbs:Int)/\(k.natAbs:Int)<2^60
 few:(x4 ns).length<64
def BS{ns:List Int}{k:Int}(h:ns[i]?=À k):x4 (ns.take (i+1))=x4 (ns.take i)++(pA (k.natAbs:Int)).map (·.1):=by
 unfold x4;rw[abQ,h];simp[Ŭ]
def MK{ns:List Int}(i:Nat):(x4 (ns.take i)).length<=(x4 ns).length:=by
 unfold x4
 have:ns.flatMap (λk=>(pA (k.natAbs:Int)).map (·.1))=(ns.take i).flatMap (λk=>(pA (k.natAbs:Int)).map (·.1))++(ns.drop i).flatMap (λk=>(pA (k.natAbs:Int)).map (·.1)):=by
  rw[<-Ŭ,YA]
 rw[this];simp
def F_(x:Int):(if x<0 then -x else x)=(x.natAbs:Int):=by split<;>lia
def x_(o:⇑WI)(ns:List Int)(h:Hd ns):⇑Body pW "primes_of" km f 4 [.val Â ns] (RT Á (n_ ns)):=by
 intro n A outer s H E p;have d:=h.few;refine oV 1 gH.nd (Ag (aE af bV) .c) ?_;refine yE 1 Á rfl ?_;refine oG (λi U=>∃g a,U=[À (.val Â ns),À (.own Á (x4 (ns.take i))),g,a]) (cS 2 gH.nd) .A #[none,none,rfl] ?_ ?_
 .rintro i k U' c ⟨g,a,rfl⟩;obtain⟨q,l⟩:=h.rng k (Xs c);rw[BS c];have e:=MK (ns:=ns) (i+1);rw[BS c,XQ,Xv] at e;generalize hp:pA (k.natAbs:Int)=pr at *;refine pX (as:=pr) (b:=Á) (λj U=>∃a,U=[À (.val Â ns),À (.own Á (x4 (ns.take i)++(pr.take j).map (·.1))),À (.val Â k),a]) (cS 3 gH.nd) (bp (cP (aI o (p.mono .a) rfl (iw rfl B.abs .C) (by rw[F_];exact#[q,l])) (by rw[F_];exact hp))) #[a,.c] ?_ ?_
  .rintro j u U' m ⟨a,rfl⟩;refine mO 1 rfl (iM (b':=Á) (bt .D)) ?_ (aM #[À (.val Á u),?_])
   .have:(pr.take j).length<=pr.length:=by rw[Zs];lia
    rw[XQ,Xv];lia
   .rw[abQ,m];simp
  .rintro U' ⟨a,rfl⟩;rw[YU];exact aM #[_,_,rfl]
 .rintro U' ⟨g,a,rfl⟩;rw[YU];refine dD 1 rfl ?_;exact aw (uQ rfl rfl B.sorted rfl B.set .B d) rfl
noncomputable def AM(k:Int):Bool:=decide (k≠0/\k.natAbs<1073741824)
abbrev WL(P w K mg base):=aJ P w K mg base 1 "is_whole" ["k"] (dg K (fun(_:Int)=>True) Á (λ_=>Á))
def qJ(b:ui mg "GREAT_FROM" 1073741824)(d:⇑WL)(x:Int):⇑Body jP "is_row_number" gp f 1 [.val Â x] (RT Á (AM x)):=by
 intro a A outer s H E c;refine aw (lB (aI d (c.mono .a) rfl .A É) λ_=>(lB (eN gA .A af) λ_=>(iU (eN fY (iw rfl B.abs .A) (uF rfl b))))) ?_;show Bd.val _ _=Bd.val _ _;congr 1;unfold AM;rw[Yy,YR];simp;intro _;split<;>lia
noncomputable def cG(xs:List Int):Bool:=decide (1<=xs.length/\xs.length<=8)&&xs.all AM
def uM(h:cG xs=Á):1<=xs.length/\xs.length<=8:=by
 unfold cG at h;have:=(YQ.mp h).1;simpa using this
def dN(h:cG xs=Á)(a:x∈xs):x≠0/\x.natAbs<1073741824:=by
 unfold cG at h;have:=X_.mp (YQ.mp h).2 x a;unfold AM at this;simpa using this
abbrev WM(P w K mg base):=aJ P w K mg base 2 "is_row_number" ["k"] (dg K (fun(_:Int)=>True) Á AM)
def HJ(d:ui mg "LONGEST" 8)(g:⇑WM)(xs:List Int)(h:xs.length<=1000):⇑Body rY "is_row" mG f 2 [.val Â xs] (RT Á (cG xs)):=by
 intro c A outer s H E j;refine aH (TW.t (u3 (lF (hW (FG rfl B.isinstance rfl B.list .A))) λ_=>(oB (lF (Bl FY FY af (br rfl B.len .A) (uF rfl d)))))) (λb=>?_) (λb=>?_)
 .have a:¬(1<=xs.length/\xs.length<=8):=by
   simp at b;lia
  have e:cG xs=Â:=by unfold cG;rw[X1 a];rfl
  rw[e];exact aw jX rfl
 .have a:1<=xs.length/\xs.length<=8:=by
   simp at b;lia
  refine aw (La rfl rfl B.all (eC (f:=AM) ["k"] [] (bP (ag mG) rY rfl rfl .f) (bp .A) (bu 0) (λC s H fp=>c9 0 ["k"]) a7 (λi u k C s H fp=>aI g (j.mono .a) rfl .A É) h)) ?_;show Bd.val _ _=Bd.val _ _;congr 1;unfold cG;rw[XY a,aa2,List.all_map];rfl
abbrev WN(P w K mg base):=aJ P w K mg base 3 "is_row" ["row"] (dg K (fun(xs:List Int)=>xs.length<=1000) Á cG)
def qw(d:⇑WN)(xs:List Int)(b:cG xs=Á):⇑Body jS "refuse_no_row" gh f 3 [.val Â xs] QO:=by
 intro c A outer s H E e;have:=uM b;refine aH (lF (hW (aI d (e.mono .a) rfl .A .b))) (λa=>?_) (λa=>?_)
 .rw[b] at a;cases a
 .exact aM É
def JJ(k p:Int):Bool:=decide (Ly k p)
def tP(c:⇑WJ)(k p:Int)(hp:k≠0/\2<=p/\p<2^62):⇑Body kQ "is_square_at" gU f 3 [.val Â k,.val Â p] (RT Á (JJ k p)):=by
 intro b A outer s H E a;refine aw (eN (KY (M:=Int×Int) (A4 a)) (aB c (a.mono .a) rfl .A .B hp) (kP (M:=Int×Int) (x:=(0,1)) (y:=(0,1)) (ax az .B af) (λh=>absurd (show p=0 by simpa using h) .b) λ_=>(iM (b':=Á) (bR af af)))) ?_;show Bd.val _ _=Bd.val _ _;rw[ite_self];rfl
def QS(a b c p:Int):Prop:=a≠0/\b≠0/\c≠0/\2<=p/\p<2^62/\Sm 62 a/\Sm 62 b/\Sm 62 c
abbrev WO(P w K mg base):=aJ P w K mg base 4 "says" ["a","b","p"] (uJ K (λa b p=>a≠0/\b≠0/\(p=0\/(2<=p/\p<2^62))) Á aA)
def nF(l:⇑WO)(a b c p:Int)(hp:QS a b c p):⇑Body iu "three_have_zero" fA f 4 [.val Â a,.val Â b,.val Â c,.val Â p] (RT Á (tZ a b c p)):=by
 intro g A outer s H E i;obtain⟨ha,m,e,j,p2,h,k,d⟩:=hp;exact aw (dJ l (i.mono .a) rfl (aF (eT .A) .C (h.neg.ok d)) (aF (eT .B) .C (k.neg.ok d)) .D #[Xn .b e,Xn .b e,.inr #[j,p2]]) rfl
def Rc(l:List Int)(p:Int):Prop:=l.length=4/\(∀a∈l,a≠0/\Sm 62 a)/\2<=p/\p<2^62
abbrev WR(P w K mg base):=aJ P w K mg base 5 "three_have_zero" ["a","b","c","p"] (HN K QS Á tZ)
abbrev WQ(P w K mg base):=aJ P w K mg base 4 "is_square_at" ["k","p"] (cO K (λk p=>k≠0/\2<=p/\p<2^62) Á JJ)
def oD(r:⇑WQ)(t:⇑WR)(l:List Int)(p:Int)(hp:Rc l p):⇑Body ja "four_have_zero" fQ f 5 [.val Â l,.val Â p] (RT Á (bZ l p)):=by
 intro q A outer s H E k;obtain⟨o,e,m,p2⟩:=hp
 match l,o,e with
 |[a,b,c,d],_,e =>
 have ha:=e a .c;have g:=e b .c;have j:=e c .c;have n:=e d .c;have h:=ha.2.mul g.2;have i:=h.mul j.2;refine aq 2 iH.nd (aF (aF (aF (aZ (a:=a) .A af rfl) (aZ (a:=b) .A af rfl) (ha.2.ok g.2)) (aZ (a:=c) .A af rfl) (h.ok j.2)) (aZ (a:=d) .A af rfl) (i.ok n.2)) ?_;have u:a*b*c*d≠0:=Xn (Xn (Xn ha.1 g.1) j.1) n.1;refine aw (HE (E4 (aB r (k.mono .a) rfl .C .B #[u,m,p2])) λ_=>(iU (v9 t (k.mono .a) rfl (aZ (a:=a) .A af rfl) (aZ (a:=b) .A af rfl) (aZ (a:=c) .A af rfl) .B #[ha.1,g.1,j.1,m,p2,ha.2,g.2,j.2]))) ?_;show Bd.val _ _=Bd.val _ _;rw[gR .b];rfl
def Qj(l:List Int)(p:Int):Prop:=1<=l.length/\(∀a∈l,a≠0/\Sm 62 a)/\(p=0\/(2<=p/\p<2^62))
def y6(u:⇑WQ)(v:⇑WR)(t:⇑aJ 6 "four_have_zero" ["numbers","p"] (cO K Rc Á bZ))(l:List Int)(p:Int)(hp:Qj l p):⇑Body qe "have_zero" ko f 6 [.val Â l,.val Â p] (RT Á (bZ l p)):=by
 intro r A outer s H E k;obtain⟨h1,i,q⟩:=hp;refine aH (ax az .B af) (λd=>?_) (λd=>?_)
 .have g:p=0:=by simpa using d
  subst g;obtain⟨o,x⟩:=vJ l .b;obtain⟨b1,b2⟩:=wR l .b;refine aw (IJ fY fY (Aj rfl rfl B.min .A .b o x) af (zL rfl rfl B.max .A .b b1 b2)) ?_;show Bd.val _ _=Bd.val _ _;unfold bZ;rw[Xo rfl]
 have g:¬p=0:=by simpa using d
 have m:2<=p:=by lia
 have p2:p<2^62:=by lia
 have len:∀n:Nat,decide ((l.length:Int)=(n:Int))=Á->l.length=n:=λn h=>by
  have:(l.length:Int)=(n:Int):=by simpa using h
  lia
 have e:∀n:Nat,decide ((l.length:Int)=(n:Int))=Â->l.length≠n:=λn h=>by
  have:¬(l.length:Int)=(n:Int):=by simpa using h
  lia
 refine aH (ax az (br rfl B.len .A) af) (λd=>?_) (λc1=>?_)
 .match l,len 1 d with
  |[a],_=>rw[rP g];exact aw jX rfl
 refine aH (ax az (br rfl B.len .A) af) (λd=>?_) (λc2=>?_)
 .match l,len 2 d,i with
  |[a,b],_,i =>
  have ha:=i a .c;have j:=i b .c;rw[rj g];exact aw (aB u (k.mono .a) rfl (aF (eT (aZ (a:=a) .A af rfl)) (aZ (a:=b) .A af rfl) (ha.2.neg.ok j.2)) .B #[Xn (by have:=ha.1;lia) j.1,m,p2]) rfl
 refine aH (ax az (br rfl B.len .A) af) (λd=>?_) (λc3=>?_)
 .match l,len 3 d,i with
  |[a,b,c],_,i =>
  have ha:=i a .c;have j:=i b .c;have d:=i c .c;rw[da g];exact aw (v9 v (k.mono .a) rfl (aZ (a:=a) .A af rfl) (aZ (a:=b) .A af rfl) (aZ (a:=c) .A af rfl) .B #[ha.1,j.1,d.1,m,p2,ha.2,j.2,d.2]) rfl
 refine aH (ax az (br rfl B.len .A) af) (λd=>?_) (λc4=>?_)
 .exact aw (aB t (k.mono .a) rfl .A .B #[len 4 d,i,m,p2]) rfl
 rw[i7 g (by have:=e 1 c1;have:=e 2 c2;have:=e 3 c3;have:=e 4 c4;lia)];exact aw jX rfl
def Ai(h:cG l=Á):∀a∈l,a≠0/\Sm 62 a:=λa ha=>by
 have:=dN h ha;exact#[this.1,by unfold Sm;lia]
noncomputable def j0(xs:List Int):Int:=xs.foldl (λg k=>((Ë g k:Nat):Int)) 0
noncomputable def wd(xs:List Int):List Int:=xs.map λk=>k.fdiv (j0 xs)
def L0(xs:List Int):Prop:=xs.length<=100/\j0 xs≠0/\Sm 8000 (j0 xs)
def yI(h:xs[i]?=À x):j0 (xs.take (i+1))=((Ë (j0 (xs.take i)) x:Nat):Int):=by
 unfold j0;rw[YZ,h];simp[ab9]
def mM(c:⇑Wy)(xs:List Int)(hp:L0 xs):⇑Body fk "without_divisor" dj f 1 [.val Â xs] (RT Á (wd xs)):=by
 intro b A outer s H E e;obtain⟨h1,h2,d⟩:=hp;refine aq 1 cR.nd af ?_;refine oG (λi U=>∃r,U=[À (.val Â xs),À (.val Á (j0 (xs.take i))),r]) (cS 2 cR.nd) .A #[none,rfl] ?_ ?_
 .rintro i a U' ha ⟨r,rfl⟩;refine aq 1 cR.nd (aB c (e.mono .a) rfl .B .C É) (aM ?_);dsimp only;rw[yI ha];exact#[_,rfl]
 .rintro U' ⟨r,rfl⟩;rw[YU];exact aw (eC (f:=λk:Int=>k.fdiv (j0 xs)) ["k"] [1] (bP (ag dj) fk rfl rfl .f) (bp .A) (bu 0) (λC s H fp=>c9 0 ["k","divisor"]) a7 (λi u g C s H fp=>a9 .A .B (Sm.div (n:=8000) d h2)) .b) rfl
theorem Hc:∀(xs:List Int) (a:Int),(xs.foldl (λg k=>((Ë g k:Nat):Int)) a∣a)/\∀x∈xs,xs.foldl (λg k=>((Ë g k:Nat):Int)) a∣x
 |[],a=>#[ZD a,λx h=>by cases h]
 |y::ys,a=>by
  obtain⟨h1,h2⟩:=Hc ys ((Ë a y:Nat):Int);refine#[X7 h1 (Zu a y),λx b=>?_];rcases Xm.mp b with rfl|b
  .exact X7 h1 (Y6 a x)
  .exact h2 x b
theorem Fo{d:Int}:∀(xs:List Int) (a:Int),d∣a->(∀x∈xs,d∣x)->d∣xs.foldl (λg k=>((Ë g k:Nat):Int)) a
 |[],a,h,_=>h
 |y::ys,a,h,b=>Fo ys _ (acO h (b y (XA ..))) λx q=>b x (Xx _ q)
theorem As:∀(xs:List Int) (a:Int),0<=a->0<=xs.foldl (λg k=>((Ë g k:Nat):Int)) a
 |[],a,h=>h
 |y::ys,a,_=>As ys _ (Υ _)
def qS(h:x∈xs):j0 xs∣x:=(Hc xs 0).2 x h
def B4(h:x∈xs)(a:x≠0):0<j0 xs:=by
 have h1:0<=j0 xs:=As xs 0 (Yv 0)
 have h2:j0 xs≠0:=λz=>a (by
  have:=qS h;rw[z] at this
  exact adb.mp this)
 lia
def pT(h:0<j0 xs)(b:x∈xs):x=j0 xs*x.fdiv (j0 xs):=by
 obtain⟨c,a⟩:=qS b
 have e:x.fdiv (j0 xs)=c:=by
  conv=>lhs;arg 1;rw[a]
  exact Y7 c .b
 rw[e];exact a
def G9(h:0<j0 xs):j0 (wd xs)=1:=by
 have c:0<=j0 (wd xs):=As _ 0 (Yv 0)
 have h1:j0 xs*j0 (wd xs)∣j0 xs*1:=by
  rw[X0];refine Fo xs 0 (abf _) λx a=>?_;have b:x.fdiv (j0 xs)∈wd xs:=XF.mpr #[x,a,rfl];have:=Int.mul_dvd_mul_left (j0 xs) (qS b);rw[<-pT h a] at this;exact this
 have h2:=abV .b h1;have:=XH .a h2;have:j0 (wd xs)≠0:=λz=>by rw[z] at h2;exact absurd (adb.mp h2) .a
 lia
def Ca(h:0<j0 xs)(a:x∈xs):(x.fdiv (j0 xs)).natAbs<=x.natAbs:=by
 have:=pT h a
 conv=>rhs;rw[this,XZ]
 exact aaK _ .e
def Ga(h:x∈xs)(b:x≠0)(a:Sm n x):Sm n (j0 xs):=by
 have:=YX.mpr (qS h);exact Sm.of_le (ab0 .b this) a
def sT{t:Int}(h:¬(x=0/\y=0/\t=0))(e:Sm n x)(d:Sm n y)(i:Sm n t)(j:n<=8000):
  L0 [x,y,t]/\∃g b c t',0<g/\wd [x,y,t]=[b,c,t']/\x=g*b/\y=g*c/\t=g*t'/\j0 [b,c,t']=1/\Sm n b/\Sm n c/\Sm n t':=by
 obtain⟨z,hz,f,sz⟩:∃z∈[x,y,t],z≠0/\Sm n z:=by
  by_cases h1:x=0
  .by_cases h2:y=0
   .exact#[t,.c,λz=>h #[h1,h2,z],i]
   .exact#[y,.c,h2,d]
  .exact#[x,.c,h1,e]
 have a:=B4 hz f;have m1:x∈[x,y,t]:=by simp
 have m2:y∈[x,y,t]:=by simp
 have m3:t∈[x,y,t]:=by simp
 exact#[#[by show 3<=100;decide,.b,(Ga hz f sz).le j],j0 [x,y,t],_,_,_,a,rfl,pT a m1,pT a m2,pT a m3,G9 a,Sm.of_le (Ca a m1) e,Sm.of_le (Ca a m2) d,Sm.of_le (Ca a m3) i]
structure Fn(l:List Int):Prop where
 row:cG l=Á
 po:Hd l
 three:3<=l.length
def Ak(l:List Int):List Int:=(n_ l).filter λp=>!(bZ l p)
def Oe(d:cG l=Á)(hz:bZ l 0=Á)(r:3<=l.length):DU l (Ak l).head?:=by
 have o:∀q:Int,q∈n_ l↔q=2\/(aT q=Á/\∃a∈l,q∣a):=λq=>by
  unfold n_;rw[iq];unfold x4;rw[Xm,acG];refine or_congr_right ?_;constructor
  .rintro⟨a,ha,c⟩;have h1:1<=(a.natAbs:Int):=by have:=dN d ha;lia
   obtain⟨j,n⟩:=(iG h1).mp c;exact#[j,a,ha,Zj.mp n]
  .rintro⟨j,a,ha,n⟩;have h1:1<=(a.natAbs:Int):=by have:=dN d ha;lia
   exact#[a,ha,(iG h1).mpr #[j,Zj.mpr n]]
 have f:∀q,aT q=Á->q∉n_ l->bZ l q=Á:=λq c h=>by
  rw[o] at h;exact nX c (λz=>h (.inl z)) r λa ha t=>h (.inr #[c,a,ha,t])
 have m:∀q,q∈n_ l->aT q=Á:=λq c=>by
  rcases(o q).mp c with z|z
  .rw[z];exact aR
  .exact z.1
 cases k:Ak l with
 |nil =>
  refine#[hz,λq c=>?_];by_cases b:q∈n_ l
  .apply Xt;intro h;have:q∈Ak l:=Ys.mpr #[b,↑h];rw[k] at this;cases this
  .exact f q c b
 |cons p ps =>
  have hp:p∈Ak l:=by rw[k];exact XA ..
  obtain⟨h1,h2⟩:=Ys.mp hp;refine#[↑h2,.inr #[m p h1,hz,λq c s=>?_]];by_cases b:q∈n_ l
  .apply Xt;intro h;have i:q∈Ak l:=Ys.mpr #[b,↑h];have g:(Ak l).Pairwise (·<·):=(ik _).filter _;rw[k] at i g;rcases Xm.mp i with e|e
   .lia
   .have:=(Zb.mp g).1 q e;lia
  .exact f q c b
def EO(h:Hd l):(n_ l).length<=64:=by
 have h1:(n_ l).length<=(x4 l).length:=j9 ((ik _).imp λh=>by lia) λx a=>iq.mp a;have:=h.few;lia
def CJ(b:cG l=Á)(h:q∈n_ l):2<=q/\q<2^62:=by
 unfold n_ at h;rw[iq] at h;unfold x4 at h;rcases Xm.mp h with z|z
 .rw[z];decide
 .obtain⟨a,ha,d⟩:=acG.mp z;have f:=dN b ha;have h1:1<=(a.natAbs:Int):=by omega
  obtain⟨c,e⟩:=(iG h1).mp d;have:=XH .e e;exact#[au c,.e]
abbrev WS(P w K mg base):=aJ P w K mg base 5 "primes_of" ["numbers"] (dg K Hd Á n_)
def qH(n:⇑WS)(k:⇑aJ 7 "have_zero" ["numbers","p"] (cO K Qj Á bZ))(l:List Int)(hp:Fn l):⇑Body gF "first_barring" d8 f 8 [.val Â l] (RT Á (jz l)):=by
 intro o A outer s H E e;have j:=uM hp.row;have m:∀a∈l,a≠0/\Sm 62 a:=Ai hp.row;refine aH (lF (hW (aB k (e.mono .a) rfl .A af #[j.1,m,.inl rfl]))) (λb=>?_) (λb=>?_)
 .have hz:bZ l 0=Â:=by simpa using b
  rw[<-oO (r:=À 0) #[hz,.inl rfl]];exact aw (jy af) rfl
 have hz:bZ l 0=Á:=by simpa using b
 refine aH (ax az (br rfl B.len .A) af) (λb=>?_) (λb=>?_)
 .have h2:(l.length:Int)=2:=by simpa using b
  have:=hp.three;lia
 have h2:¬(l.length:Int)=2:=by simpa using b
 refine aH (ax eW (br rfl B.len .A) af) (λb=>?_) (λb=>?_)
 .have v:4<(l.length:Int):=by simpa using b
  rw[<-oO (r:=none) #[hz,λq t=>i7 (by have:=au t;lia) .b]];exact aw (lA (M:=Int)) rfl
 have u:=hp.three;have g:=EO hp.po;refine jx (f:=λq:Int=>q) (p:=λq=>!(bZ l q)) (b':=Á) 1 i9.nd ["p"] [0] (bP (ag d8) gF rfl rfl .f) (bp (aI n (e.mono .a) rfl .A hp.po)) (bu 0) (λC s H fp=>c9 0 ["p","numbers"]) a7 (λi q hi C s H fp=>lS (lF (hW (aB k (e.mono .a) rfl .B .A #[j.1,m,.inr (CJ hp.row (Xs hi))])))) (λi q hi _ C s H fp=>iM (b':=Á) .A) .b ?_;rw[adg];have c:=Oe hp.row hz u;rw[<-oO c];unfold Ak;generalize (n_ l).filter (λq=>!(bZ l q))=bl;cases bl with
 |nil =>
  refine aw (kP (M:=Option Int) (x:=none) (y:=none) (ax eW (br rfl B.len .B) af) (λh=>absurd (show(0:Int)<0 by simpa using h) .a) λ_=>lA (M:=Int)) ?_;show Bd.val _ _=Bd.val _ _;rw[ite_self];rfl
 |cons p ps =>
  refine aw (kP (M:=Option Int) (x:=À p) (y:=À p) (ax eW (br rfl B.len .B) af) (λh=>(jy (aZ (a:=p) .B af (by rw[lX (d:=p) .a .c];rfl)))) λh=>absurd (show(0:Int)<((p::ps).length:Int) by simp) ↑h) ?_;show Bd.val _ _=Bd.val _ _;rw[ite_self];rfl
abbrev WT(P w K mg base):=aJ P w K mg base 4 "refuse_no_row" ["row"] (dg K (fun(xs:List Int)=>cG xs=Á) Á sY)
def qK(d:⇑WT)(b:⇑aJ 9 "first_barring" ["numbers"] (dg K Fn Á jz))(l:List Int)(hp:Fn l):⇑Body jR "first_without" gD f 9 [.val Â l] (RT Á (jz l)):=by
 intro c A outer s H E a;refine wu (aI d (a.mono .a) rfl .A hp.row) ?_;exact aw (aI b (a.mono .a) rfl .A hp) rfl
def OC(a b:Int):Int×(Int×Int):=ur (a*b,1)
def F5(a b:Int):Prop:=a≠0/\b≠0/\Sm 60 a/\Sm 60 b/\Tame (a*b).natAbs/\(OC a b).1.natAbs<1073741824
def Ay{k:Int}(h:k≠0)(b:Sm 200 k)(a:Tame k.natAbs):Om (k,1):=#[h,Yv 1,b.le .a,by show(1:Int).natAbs<2^400;exact abW .a,by show Tame (k.natAbs*1);rw[X0];exact a]
abbrev WU(P w K mg base):=aJ P w K mg base 5 "freed" ["u"] (dg K Om Á ur)
def qy(k:ui mg "GREAT_FROM" 1073741824)(TU:⇑WU)(a b:Int)(h:F5 a b):⇑Body jN "freed_product" gq f 5 [.val Â a,.val Â b] (RT Á (OC a b)):=by
 intro j A outer s H E m;obtain⟨ha,g,c,e,n,l⟩:=h;refine aq 2 iW.nd (aI TU (m.mono .a) rfl (bR (aF .A .B (c.ok e)) af) (Ay (Xn ha g) ((c.mul e).le .a) n)) ?_;refine aH (ax Gs (iw rfl B.abs (bt .C)) (uF rfl k)) (λd=>?_) (λ_=>?_)
 .exfalso;have i:(ur (a*b,1)).1.natAbs<1073741824:=l;rw[qI] at d;have:(1073741824:Int)<=((ur (a*b,1)).1.natAbs:Int):=XD d;lia
 .exact aw .C rfl
def wM{k:Int}(h:k≠0)(b:Tame k.natAbs):∃A u,ur (k,1)=(A,(u,1))/\lq A/\0<u/\k=A*(u*u):=by
 obtain⟨f,s,h1,h2,a⟩:=B0 _ k h (Xu _);have t:Tame (k.natAbs*1):=by rw[X0];exact b
 have e:=F8 h .a t h1 h2 (by rw[X0];exact a);refine#[f,s,?_,h1,h2,a];show((JV k 1).1,fr (JV k 1).2 1)=_;rw[e];show(f,fr s 1)=(f,(s,1));rw[Mj .a (Int.gcd_one_right s)]
noncomputable def QT(a:Int)(l:Int×(Int×Int))(r:Int)(z:List Int):List Int:=wd [z.getD 0 0*r+a*z.getD 1 0,z.getD 0 0+r*z.getD 1 0,l.1*l.2.1*z.getD 2 0]
structure QI(a:Int)(l:Int×(Int×Int))(r:Int)(z:List Int):Prop where
 len:z.length=3
 sa:Sm 40 a
 s1:Sm 40 l.1
 s2:Sm 40 l.2.1
 sr:Sm 40 r
 sz:∀x∈z,Sm 4000 x
 nz:¬(z.getD 0 0*r+a*z.getD 1 0=0/\z.getD 0 0+r*z.getD 1 0=0/\l.1*l.2.1*z.getD 2 0=0)
abbrev WV(P w K mg base):=aJ P w K mg base 2 "without_divisor" ["numbers"] (dg K L0 Á wd)
def uf(k:⇑WV)(a:Int)(l:Int×(Int×Int))(r:Int)(z:List Int)(hp:QI a l r z):⇑Body lD "from_lesser" iQ f 2 [.val Â a,.val Â l,.val Â r,.val Â z] (RT Á (QT a l r z)):=by
 intro j A outer s H E m;obtain⟨len,h,g,d,c,sz,nz⟩:=hp
 match z,len with
 |[x,y,t],_ =>
 have e:=sz x .c;have b:=sz y .c;have st:=sz t .c;have i:Sm 4100 (x*r+a*y):=((e.mul c).add (h.mul b)).le .a;have n:Sm 4100 (x+r*y):=(e.add (c.mul b)).le .a;have o:Sm 4100 (l.1*l.2.1*t):=((g.mul d).mul st).le .a;refine aq 4 h_.nd (bX (aF (aZ (a:=x) .D af rfl) .C (e.ok c)) (aF .A (aZ (a:=y) .D af rfl) (h.ok b))) ?_;refine aq 5 h_.nd (bX (aZ (a:=x) .D af rfl) (aF .C (aZ (a:=y) .D af rfl) (c.ok b))) ?_;exact aw (aI k (m.mono .a) rfl (dR (aE (ae 4) (aE (ae 5) (aE (aF (aF (bt .B) (bt (bO .B)) (g.ok d)) (aZ (a:=t) .D af rfl) ((g.mul d).ok st)) bV))) (by show 3<=1000;decide)) (sT nz i n o .a).1) rfl
def EY(k m:Int):Int:=if m<2*(F1 k m).getD 0 then (F1 k m).getD 0-m else (F1 k m).getD 0
def QF(k m:Int):Prop:=1<=m/\m<2^60/\∃x,F1 k m=À x/\0<=x/\x<m
def qE(c:⇑aJ 6 "root_by" ["k","m"] (cO K (λ_ m=>1<=m/\m<2^60) Á F1))(k m:Int)(hp:QF k m):⇑Body jK "least_root_by" gg f 6 [.val Â k,.val Â m] (RT Á (EY k m)):=by
 intro d A outer s H E g;obtain⟨m1,m2,x,b,j,i⟩:=hp;refine aq 2 iV.nd (aB c (g.mono .a) rfl .A .B #[m1,m2]) ?_;have e:EY k m=if m<2*x then x-m else x:=by unfold EY;rw[b];rfl
 rw[b,e];refine aw (kP (ax eW (aF af (dC (a:=x) .C) (mulL .a .a)) .B) (λ_=>eO (dC (a:=x) .C) .B) λ_=>dC (a:=x) .C) ?_;show Bd.val _ _=Bd.val _ _;congr 1;by_cases h:m<2*x
 .rw[Xo h,XY h];rfl
 .rw[Xl h,X1 h];rfl
def OG{a b:Int}(ha:a≠0)(i:lq b)(h:qr a b)(o:b.natAbs<1073741824):QF a b.natAbs/\2*(EY a b.natAbs).natAbs<=b.natAbs/\b∣EY a b.natAbs*EY a b.natAbs-a:=by
 obtain⟨x,e,l,k,f⟩:=D5 ha i h;have n:=i.1;have j:EY a b.natAbs=if (b.natAbs:Int)<2*x then x-b.natAbs else x:=by unfold EY;rw[e];rfl
 refine#[#[.b,.b,x,e,l,k],?_,?_]
 .rw[j];split<;>lia
 .rw[j];split
  .have g:b∣(b.natAbs:Int):=Zj.mpr (ZD b);obtain⟨c,p⟩:=g;obtain⟨d,f⟩:=f;refine#[d-2*x*c+(b.natAbs:Int)*c,?_];generalize (b.natAbs:Int)=m at *;grind
  .exact f
structure HQ(a b:Int):Prop where
 qa:lq a
 qb:lq b
 la:a.natAbs<1073741824
 lb:b.natAbs<1073741824
 yes:qr a b
def Og(a b:Int)(z:List Int):Prop:=∃x y t,z=[x,y,t]/\x*x=a*(y*y)+b*(t*t)/\¬(x=0/\y=0/\t=0)/\Sm (31*(lg a+lg b)+40) x/\Sm (31*(lg a+lg b)+40) y/\Sm (31*(lg a+lg b)+40) t
def HQ.two{a b:Int}(h:HQ a b)(ha:a≠1)(c:b≠1)(f:a.natAbs<=b.natAbs):2<=b.natAbs:=by
 have g:=h.qa.1;have e:=h.qb.1;apply Xt;intro d;have e1:a=-1:=by lia
 have e2:b=1\/b=-1:=by lia
 rcases e2 with e2|e2
 .exact absurd e2 c
 .have:=h.yes 0 (.inl rfl);rw[e1,e2,aO] at this;exact absurd this .a
structure Qf(a b r:Int)(l:Int×(Int×Int)):Prop where
 ex:∃c s,l=(c,(s,1))/\HQ a c/\0<s/\r*r-a=b*c*(s*s)/\tD a c+1<=tD a b/\s.natAbs<1073741824/\lg c+1<=lg b
def Ig{a b:Int}(h:HQ a b)(h1:a≠1)(n:a.natAbs<=b.natAbs)(h2:2<=b.natAbs)(q:2*r.natAbs<=b.natAbs)(t:b∣r*r-a):((r*r-a).fdiv b≠0/\((r*r-a).fdiv b).natAbs<1073741824)/\Qf a b r (ur ((r*r-a).fdiv b,1)):=by
 obtain⟨k,f⟩:=t;have j:=h.qb.1;have o:=h.qa.1;have ek:(r*r-a).fdiv b=k:=by rw[f];exact Y7 k j
 have g:r*r-a≠0:=λz=>by
  have:=vq (x:=r) (y:=1) h.qa h1 (by rw[X0,X0];(first|lia|omega));exact absurd this .a
 have m:k≠0:=λz=>g (by rw[f,z,Yd]);have bd:=JO n q j f;have u:=h.lb;have kl:k.natAbs<1073741824:=by (first|lia|omega)
 rw[ek];refine#[#[m,kl],?_];obtain⟨c,s,e,d,l,i⟩:=wM m (wK .g .g);have cl:=Iu l i;have e3:r*r-a=b*c*(s*s):=by rw[f,i];grind
 have sl:s.natAbs<=k.natAbs:=by
  have p:k=s*(s*c):=by rw[i];grind
  conv=>rhs;rw[p,XZ]
  refine abl _ ?_;have:s*c≠0:=Xn .g d.1;(first|lia|omega)
 exact#[c,s,e,#[h.qa,d,h.la,by (first|lia|omega),h.yes.step o j d.1 .g e3],l,e3,El n (CA h2 d.1 .g),by (first|lia|omega),CA h2 d.1 .g]
def B6{a b:Int}{l:Int×(Int×Int)}(h:HQ a b)(h1:a≠1)(Z:tD a b<118)(O:2*r.natAbs<=b.natAbs)(S:Qf a b r l)(hz:Og a l.1 z):QI a l r z/\Og a b (QT a l r z):=by
 obtain⟨c,s,rfl,w,W,e,H,sl,N⟩:=S.ex;obtain⟨x,y,t,rfl,d,nz,f,i,st⟩:=hz;have f:Sm (31*(lg a+lg c)+40) x:=f;have i:Sm (31*(lg a+lg c)+40) y:=i;have st:Sm (31*(lg a+lg c)+40) t:=st;have d:x*x=a*(y*y)+c*(t*t):=d;have T:=h.la;have E:=h.lb;have lc:=w.lb;have X:=uP h.qa.1 T;have σ:=uP h.qb.1 E
 have n:¬(x*r+a*y=0/\x+r*y=0/\c*s*t=0):=fun⟨C,j,o⟩=>by
  have D:t=0:=by
   rcases YJ.mp o with z|z
   .exact absurd z (Xn w.qb.1 .b)
   .exact z
  rw[D,Yd,Yd,abg] at d;have p:=vq h.qa h1 d;rw[p,Yd,abg] at j;exact nz #[j,p,D]
 have q:Sm 30 a:=by unfold Sm;lia
 have m:Sm 30 r:=by unfold Sm;lia
 have k:Sm 31 (c*s):=Jk .b O h.qb.1 .b .b e;have V:31*(lg a+lg c)+40+31<=31*(lg a+lg b)+40:=by lia
 have J:Sm (31*(lg a+lg b)+40) (x*r+a*y):=((f.mul m).add (q.mul i)).le .b;have P:Sm (31*(lg a+lg b)+40) (x+r*y):=(f.add (m.mul i)).le .b;have R:Sm (31*(lg a+lg b)+40) (c*s*t):=(k.mul st).le .b;obtain⟨_,g,L,F,t',Γ,I,ex,u,B,_,G,α,K⟩:=sT n J P R .b;refine#[#[rfl,q.le .a,(show Sm 30 c by unfold Sm;lia).le .a,(show Sm 30 s by unfold Sm;lia).le .a,m.le .a,λv A=>?_,n],L,F,t',I,?_,fun⟨C,j,o⟩=>n #[by rw[ex,C,Yd],by rw[u,j,Yd],by rw[B,o,Yd]],G,α,K]
 .simp only[Xm,Xr,XT] at A;rcases A with rfl|rfl|rfl
  .exact f.le .b
  .exact i.le .b
  .exact st.le .b
 .exact Ko .b d e ex u B
section
variable(TU:⇑WU)(TV:⇑aJ 3 "from_lesser" ["a","lesser","root","zero"] (HN K QI Á QT))(TL:⇑aJ 7 "least_root_by" ["k","m"] (cO K QF Á EY))
def SA:Sm (n+40) 0:=by unfold Sm;exact aaH _
def QU:Sm (n+40) 1:=by unfold Sm;exact abW .b
include B TU TV TL in
theorem qF(n:Nat)(D:⇑aJ (8+n) "square_of_two" ["a","b"] (tO K (λa b=>HQ a b/\tD a b<n/\tD a b<118) Á Og))(a b:Int)(h:HQ a b)(σ:tD a b<n+1)(G:tD a b<118):⇑Body jO "square_of_two" eB f (8+n) [.val Â a,.val Â b] (uo Á (Og a b)):=by
 intro R A outer s H E j;have C:=h.qa.1;have F:=h.qb.1;have Z:=h.la;have I:=h.lb;refine aH (ax az .A af) (λd=>?_) (λd=>?_)
 .have ha:a=1:=XD d;exact aw (dR (as:=[1,1,0]) (aE af (aE af (aE af bV))) (by show 3<=1000;decide)) #[_,#[1,1,0,rfl,by rw[ha];grind,λz=>absurd z.1 .a,QU,QU,SA],rfl]
 have h1:a≠1:=X9 d;refine aH (ax az .B af) (λd=>?_) (λd=>?_)
 .have O:b=1:=XD d;exact aw (dR (as:=[1,0,1]) (aE af (aE af (aE af bV))) (by show 3<=1000;decide)) #[_,#[1,0,1,rfl,by rw[O];grind,λz=>absurd z.1 .a,QU,SA,QU],rfl]
 have k:=d;refine aH (ax eW (iw rfl B.abs .A) (iw rfl B.abs .B)) (λd=>?_) (λd=>?_)
 .rw[qI,qI] at d;have o:(b.natAbs:Int)<a.natAbs:=XD d;have p:b.natAbs<a.natAbs:=by lia
  have m:=Ha p;refine fh 2 cL.nd (iY D j rfl .B .A #[#[h.qb,h.qa,h.lb,h.la,h.yes.swap C F],.b,.b]) λz hz=>?_;obtain⟨x,y,t,rfl,α,nz,S,T,st⟩:=hz;have le:31*(lg b+lg a)+40<=31*(lg a+lg b)+40:=by lia
  exact aw (dR (as:=[x,t,y]) (aE (aZ (a:=x) .C af rfl) (aE (aZ (a:=t) .C af rfl) (aE (aZ (a:=y) .C af rfl) bV))) (by show 3<=1000;decide)) #[_,#[x,t,y,rfl,by rw[α,adf],fun⟨V,X,Γ⟩=>nz #[V,Γ,X],S.le le,st.le le,T.le le],rfl]
 rw[qI,qI] at d;have o:¬(b.natAbs:Int)<a.natAbs:=X9 d;have i:a.natAbs<=b.natAbs:=by lia
 have h2:=h.two h1 (X9 k) i;obtain⟨pl,e,W⟩:=OG C h.qb h.yes I;refine aq 3 cL.nd (aB TL (j.mono .b) rfl .A (cP (iw rfl B.abs .B) (qI b)) pl) ?_;generalize EY a b.natAbs=r at *;obtain⟨⟨N,kl⟩,u⟩:=Ig h h1 i h2 e W;have v:Sm 30 r:=by unfold Sm;lia
 have L:Sm 30 ((r*r-a).fdiv b):=by unfold Sm;lia
 refine aq 4 cL.nd (aI TU (j.mono .b) rfl (bR (a9 (eO (aF .D .D (v.ok v)) .A) .B (Sm.div (n:=30) (by unfold Sm;lia) F)) af) (Ay N (L.le .a) (wK .b .b))) ?_;generalize ur ((r*r-a).fdiv b,1)=l at *;obtain⟨c,q,J,d,_,_,m,_,_⟩:=u.ex;have g:l.1=c:=by rw[J]
 refine mz (Jq TV (j.mono .b) rfl .A (ae 4) .D (iY D j rfl .A (bt (ae 4)) #[by rw[g];exact d,by rw[g];lia,by rw[g];lia]) λz hz=>(B6 h h1 G e u hz).1) ?_;rintro y ⟨z,hz,rfl⟩;exact#[_,(B6 h h1 G e u hz).2,rfl]
include B TU TV TL in
theorem pZ{h:â}(D:Df K "square_of_two" eB)(X:K.In h)(G:h.Ns Í mg):∀n:Nat,⇑aJ (8+n) "square_of_two" ["a","b"] (tO K (λa b=>HQ a b/\tD a b<n/\tD a b<118) Á Og)
 |0=>D.N_ X G (λ_ _ _ _ _ _ us d=>match us,d with|[_,_],_=>rfl) λf fd F=>J7 F cL rfl λa c hp=>absurd hp.2.1 (ZA _)
 |n+1=>D.N_ X G (λ_ _ _ _ _ _ us d=>match us,d with|[_,_],_=>rfl) λf fd F=>J7 F cL rfl λa c hp=>qF B TU TV TL n (pZ D X G n) a c hp.1 hp.2.1 hp.2.2
end
structure Cc(l:List Int):Prop where
 row:cG l=Á
 len:l.length=3
 po:Hd l
 q1:F5 (-l.getD 0 0) (l.getD 1 0)
 q2:F5 (-l.getD 0 0) (l.getD 2 0)
def Z3(row:List Int)(z:Option (List Int)):Prop:=(jz row≠none/\z=none)\/(jz row=none/\∃x y t,z=À [x,y,t]/\j0 [x,y,t]=1/\row.getD 0 0*(x*x)+row.getD 1 0*(y*y)+row.getD 2 0*(t*t)=0/\Sm 2000 x/\Sm 2000 y/\Sm 2000 t)
def M7{a b B:Int}(ha:a≠0)(g:b≠0)(f:c≠0)(o:A≠0)(l:B≠0)(t:0<u)(s:0<v)(e1:-a*b=A*(u*u))(e2:-a*c=B*(v*v))(h:DU [a,b,c] none):qr A B:=λp hp=>by
 obtain⟨j,k⟩:=h;rw[<-C8 hp o l .b .b e1 e2];rcases hp with rfl|hp
 .rw[aO];rw[bU] at j;obtain⟨⟨x,e,r⟩,⟨y,d,q⟩⟩:=j
  have key:0 < -a*b\/0 < -a*c:=by
   apply Xt;intro i;have n:¬0 < -a*b:=λz=>i (.inl z);have m:¬0 < -a*c:=λz=>i (.inr z);rw[eR .b g] at n;rw[eR .b f] at m;simp only[Xm,Xr,XT] at e d;rcases e with rfl|rfl|rfl<;>rcases d with rfl|rfl|rfl<;>lia
  rcases key with z|z
  .rw[XY z];rfl
  .rw[XY z,acD]
 .have:=k p hp;rw[da (by have:=au hp;lia),Gy (.inr hp) ha g f] at this;exact this
abbrev WW(P w K mg base):=aJ P w K mg base 10 "first_without" ["row"] (dg K Fn Á jz)
def qz(Tu:⇑WT)(Tq:⇑WV)(W:⇑WW)
  (σ:⇑aJ 6 "freed_product" ["a","b"] (cO K F5 Á OC)) (Uk:⇑aJ 126 "square_of_two" ["a","b"] (tO K (λa b=>HQ a b/\tD a b<118/\tD a b<118) Á Og)) (row:List Int) (hp:Cc row):⇑Body jT "zero_of_three" gu f 126 [.val Â row] (uo Á (Z3 row)):=by
 intro cdv A outer s H E j;obtain⟨D,hl,V,q1,J⟩:=hp
 match row,hl with
 |[a,b,c],_ =>
 have q1:F5 (-a) b:=q1;have J:F5 (-a) c:=J;have ha:=dN D (x:=a) .c;have Γ:=dN D (x:=b) .c;have d:=dN D (x:=c) .c;refine wu (aI Tu (j.mono .a) rfl .A D) ?_;refine aq 1 bM.nd (aB σ (j.mono .a) rfl (eT (aZ (a:=a) .A af rfl)) (aZ (a:=b) .A af rfl) q1) ?_;refine aq 2 bM.nd (aB σ (j.mono .a) rfl (eT (aZ (a:=a) .A af rfl)) (aZ (a:=c) .A af rfl) J) ?_;have o:Fn [a,b,c]:=#[D,V,Xu 3];obtain⟨_,_,_,_,t1,l⟩:=q1;obtain⟨_,_,_,_,t2,m⟩:=J;obtain⟨L,u,O,i,u0,e1⟩:=wM (Xn .b Γ.1) t1;obtain⟨N,v,S,B,v0,e2⟩:=wM (Xn .b d.1) t2;have q:OC (-a) b=(L,(u,1)):=O;have r:OC (-a) c=(N,(v,1)):=S;rw[q] at l ⊢;rw[r] at m ⊢;have l:L.natAbs<1073741824:=l;have m:N.natAbs<1073741824:=m;have ok:=sJ [a,b,c];cases G:jz [a,b,c] with
 |some p =>
  refine aH (AQ (x:=À p) (M:=Int) (cP (aI W (j.mono .a) rfl .A o) G) λ_ _ _ _ h=>nomatch h) (λ_=>?_) (λd=>nomatch d);exact aw (lA (M:=List Int)) #[_,.inl #[(by rw[G];exact λz=>nomatch z),rfl],rfl]
 |none =>
  rw[G] at ok;refine aH (AQ (x:=none) (M:=Int) (cP (aI W (j.mono .a) rfl .A o) G) λ_ _ _ _ h=>nomatch h) (λd=>nomatch d) (λ_=>?_);have yes:=M7 ha.1 Γ.1 d.1 i.1 B.1 u0 v0 e1 e2 ok;have Z:=Mn i.1 B.1 l m;have hl1:=uP i.1 l;have hl2:=uP B.1 m;refine fh 3 bM.nd (iY Uk (j.mono .a) rfl (cP (a':=L) (bt (u:=(L,(u,(1:Int)))) .B) rfl) (cP (a':=N) (bt (u:=(N,(v,(1:Int)))) .C) rfl) #[#[i,B,l,m,yes],π Z,π Z]) λz hz=>?_;obtain⟨x,y,t,rfl,ez,nz,F,I,st⟩:=hz;have F:Sm 1850 x:=F.le .b;have I:Sm 1850 y:=I.le .b;have st:Sm 1850 t:=st.le .b
  have sq:∀{k A u:Int},A≠0->0<u->k.natAbs<1073741824*1073741824->k=A*(u*u)->Sm 60 u:=λ{k A u} i hu hk e=>by
   have:=Cp i hu e;unfold Sm;lia
  have X:∀{x y:Int},x.natAbs<1073741824->y.natAbs<1073741824->(-x*y).natAbs<1073741824*1073741824:=λ{x y} h1 h2=>by
   rw[XZ,ϰ];exact Ϗ h1 h2
  have C:=sq i.1 u0 (X ha.2 Γ.2) e1;have α:=sq B.1 v0 (X ha.2 d.2) e2;have n:Sm 30 a:=by unfold Sm;exact ha.2
  refine aq 4 bM.nd (bt (bO .B)) ?_;refine aq 5 bM.nd (bt (bO .C)) ?_;refine aq 6 bM.nd (aF (aF (aZ (a:=x) .D af rfl) (ae 4) (F.ok C)) (ae 5) ((F.mul C).ok α)) ?_
  have hn:¬(x*u*v=0/\y*a*v=0/\t*a*u=0):=fun⟨z1,z2,z3⟩=>nz #[by
    rcases YJ.mp z1 with z|z
    .rcases YJ.mp z with z|z
     .exact z
     .lia
    .lia,by
    rcases YJ.mp z2 with z|z
    .rcases YJ.mp z with z|z
     .exact z
     .exact absurd z ha.1
    .lia,by
    rcases YJ.mp z3 with z|z
    .rcases YJ.mp z with z|z
     .exact z
     .exact absurd z ha.1
    .lia]
  have w1:Sm 2000 (x*u*v):=((F.mul C).mul α).le .a;have w2:Sm 2000 (y*a*v):=((I.mul n).mul α).le .a;have w3:Sm 2000 (t*a*u):=((st.mul n).mul C).le .a;obtain⟨pw,g,R,T,t',g0,ew,ex,ey,et,hg,s1,s2,s3⟩:=sT hn w1 w2 w3 .a;have heq:a*(R*R)+b*(T*T)+c*(t'*t')=0:=ND .b e1 e2 ez ex ey et;refine aw (jy (aI Tq (j.mono .a) rfl (dR (as:=[x*u*v,y*a*v,t*a*u]) (aE (ae 6) (aE (aF (aF (aZ (a:=y) .D af rfl) (iM (b':=Á) (aZ (a:=a) .A af rfl)) (I.ok n)) (ae 5) ((I.mul n).ok α)) (aE (aF (aF (aZ (a:=t) .D af rfl) (iM (b':=Á) (aZ (a:=a) .A af rfl)) (st.ok n)) (ae 4) ((st.mul n).ok C)) bV))) (by show 3<=1000;decide)) pw)) ?_;rw[ew];exact#[_,.inr #[G,R,T,t',rfl,hg,heq,s1,s2,s3],rfl]
def oh{row:List Int}(nz:∀x∈row,x≠0):q∈n_ row↔q=2\/(aT q=Á/\∃a∈row,q∣a):=by
 unfold n_;rw[iq];unfold x4;rw[Xm,acG];refine or_congr_right ?_;constructor
 .rintro⟨a,ha,d⟩;have h1:1<=(a.natAbs:Int):=by have:=nz a ha;lia
  obtain⟨b,c⟩:=(iG h1).mp d;exact#[b,a,ha,Zj.mp c]
 .rintro⟨b,a,ha,c⟩;have h1:1<=(a.natAbs:Int):=by have:=nz a ha;lia
  exact#[a,ha,(iG h1).mpr #[b,Zj.mpr c]]
def Gw{a b:Int}(h:∀x∈[a,b,c],x≠0/\x.natAbs<1073741824)(q1:F5 (-a) b)(g:F5 (-a) c):Cc [a,b,c]:=by
 refine#[?_,rfl,#[by show 3<=100;decide,λk f=>by have:=h k f;lia,?_],q1,g]
 .unfold cG;rw[XY (by show 1<=3/\3<=8;decide),aa2];exact X_.mpr λx d=>by unfold AM;exact XY (h x d)
 .have e:∀x∈[a,b,c],(pA (x.natAbs:Int)).length<=19:=λx d=>by
   have:=h x d;exact uW .b .b
  have i:=e a .c;have l:=e b .c;have j:=e c .c;unfold x4;simp only[ach,υ,Yl,XQ,Xv,acQ];lia
def EK{K:Ã}{N:Nn}{H:Hp}{a:List Int}:¬Py.rp K N H .non a:=λh=>by
 obtain⟨_,_,e,_⟩:=h;cases e
abbrev mX:=List (Int⊕(Int×Int))
noncomputable instance:DecidableEq (Int⊕(Int×Int)):=λa b=>match a,b with
 |.inl x,.inl y=>decidable_of_iff (x=y) #[λh=>by rw[h],λh=>acT h]
 |.inr x,.inr y=>decidable_of_iff (x=y) #[λh=>by rw[h],λh=>abq h]
 |.inl _,.inr _=>isFalse λh=>by cases h
 |.inr _,.inl _=>isFalse λh=>by cases h
noncomputable def OV(c:Int⊕(Int×Int))(cs:mX):Bool:=cs.any λd=>decide (d=c)
def mE{c:Int⊕(Int×Int)}{cs:mX}:OV c cs=Á↔c∈cs:=by
 unfold OV;rw[Zf];constructor
 .rintro⟨d,a,e⟩;rw[<-XD e];exact a
 .intro h;exact#[c,h,XY rfl]
def DV(k:Int)(ps:List Int):mX:=ps.map (bK k)
def wq(j:⇑aJ 3 "is_prime" ["k"] (dg K (λk=>k<2^62) Á aT))(x:Int)(h2:2<=x)(p:x<=30000):⇑Body nC "next_prime" jG f 3 [.val Â x] (RT Á (pf (x+1))):=by
 intro i A outer s H E n;have l:Q.PB=1070000011:=rfl;have b:x+1<=Q.PB:=by lia
 have g:=tF b;have m:=Pq b;have h:=An b .b;refine aq 1 iR.nd (bX .A af) ?_;refine cH (ι:=Int) (λd U=>U=[À (.val Â x),À (.val Á d)]/\x+1<=d/\d<=pf (x+1)) (λd=>(pf (x+1)-d).toNat) (x+1) #[rfl,Yv _,h.2] ?_;rintro d U' ⟨rfl,h1,o⟩;refine#[_,lF (hW (aI j (n.mono .a) rfl .B .b)),λa=>?_,λa=>?_]
 .have q:d≠pf (x+1):=λz=>by rw[z,g] at a;cases a
  refine aq 1 iR.nd (bX .B af) ?_;exact aM #[d+1,#[rfl,.b,.b],.b]
 .have hp:aT d=Á:=by simpa using a
  have e:pf (x+1)=d:=by
   have c:d%2=1:=by
    rcases Q.bY.mp hp with z|z
    .lia
    .exact z.2.1
   have:=nh hp h1 c .b .b;lia
  rw[e];exact aw .B rfl
def pV(ps:List Int):Prop:=ps=P7\/∃q:Nat,q∈wW/\ps=P7++[(q:Int)]
def pV.ok(h:pV ps)(hp:p∈ps):Pl p/\(p=0\/(2<=p/\p<2^20)):=by
 have a:p∈P7->Pl p/\(p=0\/(2<=p/\p<2^20)):=λm=>by
  rcases tH m with z|z
  .exact#[.inl z,.inl z]
  .refine#[.inr z.2.1,?_];simp only[P7,Xm,Xr,XT] at m;lia
 rcases h with rfl|⟨q,b,rfl⟩
 .exact a hp
 .rcases Yf.mp hp with z|z
  .exact a z
  .rw[XX.mp z];obtain⟨h1,h2,c⟩:=fj b;exact#[.inr h1,.inr #[.b,.b]]
def pV.len(h:pV ps):7<=ps.length/\ps.length<=8:=by
 rcases h with rfl|⟨q,a,rfl⟩
 .decide
 .rw[XQ];exact#[Ϥ 7,Xu 8]
def pV.at(h:pV ps)(a:j<7):ps.getD j 0=P7.getD j 0:=by
 rcases h with rfl|⟨q,b,rfl⟩
 .rfl
 .rw[Xq,Y2 (show j<P7.length from a),Xq]
def get_mem(a:j<ps.length):ps.getD j 0∈ps/\ps[j]?=À (ps.getD j 0):=by
 rw[Xq,Xz a];exact#[Ze _,rfl]
def RL(a b:Int⊕(Int×Int))(p:Int):Prop:=Pl p/\∃m n:Int,m≠0/\n≠0/\a=bK m p/\b=bK n p
def Kv{n:Int}(hp:aT p=Á)(b:n≠0):Sm 4 (cls n p).2:=by
 obtain⟨_,h2,a⟩:=jF hp b;by_cases z:p=2
 .have:=h2 z;simp only[Xm,Xr,XT] at this;unfold Sm;omega
 .have:=a z;unfold Sm;omega
def md(a b:Int⊕(Int×Int))(p:Int)(hp:RL a b p):⇑Body g9 "class_of_product" eF f kk [.val Â a,.val Â b,.val Â p] (RT Á (lr a b p)):=by
 intro j A outer s H E o;obtain⟨hp,m,n,k,l,rfl,rfl⟩:=hp;rcases hp with rfl|pp
 .have d:bK m 0=Č (if 0<m then 1 else -1):=Xo rfl;have g:bK n 0=Č (if 0<n then 1 else -1):=Xo rfl;rw[d,g];have e:Sm 1 (if 0<m then (1:Int) else -1):=by unfold Sm;split<;>decide
  have c:Sm 1 (if 0<n then (1:Int) else -1):=by unfold Sm;split<;>decide
  generalize (if 0<m then (1:Int) else -1)=x at *;generalize (if 0<n then (1:Int) else -1)=y at *;refine aH (ax az .C af) (λ_=>?_) (λh=>absurd h .a);exact aw (KI (β:=Int×Int) (aF (Kq (β:=Int×Int) (a:=x) .A) (Kq (β:=Int×Int) (a:=y) .B) (e.ok c))) rfl
 .have i:p≠0:=by have:=au pp;lia
  have d:bK m p=è (cls m p):=Xl i;have g:bK n p=è (cls n p):=Xl i;have e:=Kv pp k;have c:=Kv pp l;rw[d,g];generalize cls m p=u at *;generalize cls n p=v at *;refine aH (ax az .C af) (λh=>absurd ↑h i) (λ_=>?_);refine aq 3 gG.nd (aF (bO (uU (M:=Int) (a:=u) .A)) (bO (uU (M:=Int) (a:=v) .B)) (e.ok c)) ?_;by_cases z:p=2
  .refine aw (FF (M:=Int) (bR (aS (bX (bt (uU (M:=Int) (a:=u) .A)) (bt (uU (M:=Int) (a:=v) .B))) af .a) (kP (ax az .C af) (λ_=>aS .D af .a) (λ_=>ae 3)))) ?_;show Bd.val _ _=Bd.val _ (è (bj u v p));unfold bj;rw[Xo z,Xo (XY z),Yz _ .a,Yz _ .a];rfl
  .refine aw (FF (M:=Int) (bR (aS (bX (bt (uU (M:=Int) (a:=u) .A)) (bt (uU (M:=Int) (a:=v) .B))) af .a) (kP (ax az .C af) (λ_=>aS .D af .a) (λ_=>ae 3)))) ?_;show Bd.val _ _=Bd.val _ (è (bj u v p));unfold bj;rw[Xl z,Xl (by rw[X1 z];decide),Yz _ .a];rfl
def Qu(h:Q6[i]?=À p):p=Q.Q6.getD i 1/\i<6/\0<=p/\p<=13:=by
 have hi:i<6:=(Xy.mp h).1;have e:p=Q.Q6.getD i 1:=by rw[Xq,h];rfl
 have m:p∈Q6:=Xs h;simp only[Q6,Xm,Xr,XT] at m;exact#[e,hi,.b,.b]
def kH(g:xI K mg "SMALL_PLACES" [0,2,3,5,7,11,13]):⇑Body dE "small_free_numbers" cE f kk [] (uo Á (fun(o:List Int)=>o.Perm (bH 6))):=by
 intro l A outer s H E t;refine aq 0 cc.nd (dR (as:=[(1:Int),-1]) (b:=Á) (aE af (aE (eT af) bV)) (Yn rfl)) ?_;refine pX (as:=Q6) (λi U=>∃c,i<=6/\U=[À (.val Á (bH i)),c]) (cS 1 cc.nd) (HL (BJ (u4 rfl g) af .a .a)) #[none,.a,rfl] ?_ ?_
 .rintro i p U' hp ⟨c,e,rfl⟩;obtain⟨ep,hi,u,n⟩:=Qu hp;have r:=Ie i e;have d:=NT i e
  refine aq 0 cc.nd (cP (a':=bH (i+1)) (Hu .A (eC (b':=Á) (f:=λk:Int=>k*p) ["k"] [1] (bP (ag cE) dE rfl rfl .f) (bp .A) (bu 0) (λC s H fp=>c9 0 ["k","p"]) a7 (λj k m C s H fp=>by
   have:=d k (Xs m)
   exact aF .A .B ((show Sm 15 k by unfold Sm;lia).ok (show Sm 4 p by unfold Sm;lia))) .b) (by rw[Xv];lia)) (by rw[ep];rfl)) ?_
  exact aM #[_,.b,rfl]
 .rintro U' ⟨c,_,rfl⟩;have q:=Q.sM.1;exact mz (Gv rfl B.sorted rfl B.abs .A (by show 2<=(bH 6).length;lia) (by show(bH 6).length<=1000;lia)) λa h=>#[a,h,rfl]
abbrev WX(P w K mg base):=aJ P w K mg base 3 "class_at" ["k","p"] (cO K (λk p=>k≠0/\(p=0\/(2<=p/\p<2^62))) Á tS)
def wx(e:⇑WX)(k:Int)(ps:List Int)(c:k≠0)(a:pV ps):⇑Body jv "classes_of" gK f 3 [.val Â k,.val Â ps] (RT Á (DV k ps)):=by
 intro b A outer s H E d;have g:=a.len;exact aw (eC (b':=Á) (f:=bK k) ["p"] [0] (bP (ag gK) jv rfl rfl .f) (bp .B) (bu 0) (λC s H fp=>c9 0 ["p","k"]) a7 (λj p hp C s H fp=>aB e (d.mono .a) rfl .B .A #[c,by have:=(a.ok (Xs hp)).2;omega]) .e) rfl
structure IT(ps:List Int)(ws:List mX):Prop where
 len:ws.length=ps.length
 few:∀cs∈ws,cs.length<=100
 cl:∀j,j<ps.length->∀c∈ws.getD j [],∃n:Int,n≠0/\c=bK n (ps.getD j 0)
def AK(k:Int)(ps:List Int)(a:List mX):List mX:=(ps.zip a).map λu=>u.2.map λc=>lr (bK k u.1) c u.1
def N0{a:List mX}{u:Int×mX}(b:a.length=ps.length)(h:(ps.zip a)[i]?=À u):i<ps.length/\u.1=ps.getD i 0/\u.2=a.getD i []/\u.1∈ps/\u.2∈a:=by
 have hz:=(YD (z:=u)).mp h;exact#[(Xy.mp hz.1).1,by rw[Xq,hz.1];rfl,by rw[Xq,hz.2];rfl,Xs hz.1,Xs hz.2]
def pO(y:⇑WX)(x:⇑aJ 1 "class_of_product" ["one","other","p"] (uJ K RL Á lr))(k:Int)(ps:List Int)(b:List mX)(r:k≠0)(e:pV ps)(D:IT ps b):⇑Body fT "wishes_without" dI f 3 [.val Â k,.val Â ps,.val Â b] (RT Á (AK k ps b)):=by
 intro F A outer s H E t;obtain⟨I,d,z⟩:=D;refine Ky 3 mX di.nd ?_;refine pX (as:=ps.zip b) (λi U=>∃h l m,U=[À (.val Â k),À (.val Â ps),À (.val Â b),À (.own Á (((ps.zip b).take i).map λu=>u.2.map λc=>lr (bK k u.1) c u.1)),h,l,m]) (zi 4 5 di.nd) (wO rfl B.zip .B .C) #[none,none,none,rfl] ?_ ?_
 .rintro i u U' v ⟨h,l,m,rfl⟩;obtain⟨hi,e1,e2,m1,m2⟩:=N0 I v;refine aq 6 di.nd (aB y (t.mono .a) rfl .A (ae (a:=u.1) 4) #[r,by have:=(e.ok m1).2;lia]) ?_;have q:=d _ m2;refine mO 3 (a:=u.2.map λc=>lr (bK k u.1) c u.1) rfl (eC (b':=Á) (f:=λc=>lr (bK k u.1) c u.1) ["wish"] [6,4] (bP (ag dI) fT rfl rfl .f) (bp (ae (a:=u.2) 5)) (bu 0) (λC s H fp=>c9 0 ["wish","own","p"]) a7 (λj c g C s H fp=>?_) .b) ?_ ?_
  .have p:c∈u.2:=Xs g;rw[e2] at p;obtain⟨n,G,o⟩:=z i hi c p;rw[<-e1] at o;exact dJ x (t.mono .a) rfl .B .A .C #[(e.ok m1).1,k,n,r,G,rfl,o]
  .have:=e.len;rw[Xv,Zs];lia
  .refine aM #[À (.val Â u.1),À (.val Â u.2),À (.val Á (tS k u.1)),?_];rw[YZ,v,Option.toList_some,Zl];rfl
 .rintro U' ⟨h,l,m,rfl⟩;refine dD 3 rfl ?_;rw[YU];exact aw .D rfl
noncomputable def HS(cl:mX)(a:List mX):Bool:=(cl.zip a).all λu=>OV u.1 u.2
def yS(cl:mX)(b:List mX):⇑Body qj "are_among" kF f kk [.val Â cl,.val Â b] (RT Á (HS cl b)):=by
 intro m A outer s H E o;refine pX (as:=cl.zip b) (λi U=>(∀u∈(cl.zip b).take i,u.1∈u.2)/\∃h j,U=[À (.val Â cl),À (.val Â b),h,j]) (zi 2 3 mS.nd) (wO rfl B.zip .A .B) #[(λu d=>by rw[abR] at d;cases d),none,none,rfl] ?_ ?_
 .rintro i u U' d ⟨g,h,j,rfl⟩;refine aH (ax (JZ (a:=u.1) (as:=u.2) (c:=OV u.1 u.2) (A4 o) .a mE) .C .D) (λk=>?_) (λk=>?_)
  .have n:OV u.1 u.2=Â:=by simpa using k
   have e:HS cl b=Â:=by
    unfold HS;rw[List.all_eq_false];exact#[u,Xs d,by rw[n];decide]
   rw[e];exact aw jX rfl
  .have p:u.1∈u.2:=mE.mp ↑k;refine aM #[λx l=>?_,_,_,rfl];rw[YZ,d] at l;rcases Yf.mp l with w|w
   .exact g x w
   .rw[XX.mp w];exact p
 .rintro U' ⟨g,h,j,rfl⟩
  have e:HS cl b=Á:=by
   unfold HS;rw[X_];intro u d;rw[YU] at g;exact mE.mpr (g u d)
  rw[e];exact aw jX rfl
def QB(ps:List Int)(a:List mX)(n:Int):Prop:=∀j,j<ps.length->bK n (ps.getD j 0)∈a.getD j []
structure PJ(ps:List Int)(ws:List mX):Prop where
 ne:∀j,j<7->ws.getD j []≠[]
 un:∀q:Nat,ps=P7++[(q:Int)]->∃n:Int,¬(q:Int)∣n/\bK n q∈ws.getD 7 []
def QK(ps:List Int)(a:List mX)(n:Int):Prop:=∃k q:Int,n=k*q/\k∈bH 6/\(q=1\/(aT q=Á/\17<=q/\q<=24049))/\(ps=P7->q=1\/∃r:Nat,r∈wW/\q=(r:Int))/\QB ps a n
def Qm{f:Int}{a:List mX}(d:a.length=ps.length)(b:j<ps.length):(AK f ps a).getD j []=(a.getD j []).map λc=>lr (bK f (ps.getD j 0)) c (ps.getD j 0):=by
 have h2:a[j]?=À (a.getD j []):=by rw[Xq,Xz (show j<a.length by lia)];rfl
 unfold AK;rw[Xq,XI,(YD (z:=(ps.getD j 0,a.getD j []))).mpr #[(get_mem b).2,h2]];rfl
def AU{f k:Int}{a:List mX}(q:pV ps)(o:IT ps a)(d:f≠0)(i:k≠0):HS (DV k ps) (AK f ps a)=Á↔QB ps a (k*f):=by
 have p:=o.len;have lw:(AK f ps a).length=ps.length:=by unfold AK;rw[Xv,aah,p];lia
 have key:∀j,j<ps.length->(bK k (ps.getD j 0)∈(AK f ps a).getD j []↔bK (k*f) (ps.getD j 0)∈a.getD j []):=λj b=>by
  have pl:=(q.ok (get_mem b).1).1;rw[Qm p b,XF];constructor
  .rintro⟨c,m,e⟩;obtain⟨n,s,rfl⟩:=o.cl j b c m;rw[(uB pl d i s).mp e.symm];exact m
  .intro t;exact#[_,t,((uB pl d i (Xn i d)).mpr rfl).symm]
 have l:∀{j:Nat},j<ps.length->(ps.map (bK k))[j]?=À (bK k (ps.getD j 0)):=λ{j} b=>by rw[XI,(get_mem b).2];rfl
 unfold HS DV;rw[X_];constructor
 .intro h j b;rw[<-key j b];have h2:(AK f ps a)[j]?=À ((AK f ps a).getD j []):=by rw[Xq,Xz .b];rfl
  exact mE.mp (h _ (Xs ((YD (z:=(bK k (ps.getD j 0),(AK f ps a).getD j []))).mpr #[l b,h2])))
 .intro h u r;obtain⟨j,b⟩:=YK.mp r;have hz:=(YD (z:=u)).mp b;have g:j<ps.length:=by have:=(Xy.mp hz.2).1;lia
  have e1:u.1=bK k (ps.getD j 0):=XJ (hz.1.symm.trans (l g));have e2:u.2=(AK f ps a).getD j []:=by rw[Xq,hz.2];rfl
  refine mE.mpr ?_;rw[e1,e2,key j g];exact h j g
def Pt{f:List mX}(l:pV ps)(J:IT ps f)(g:PJ ps f):∃k q,k∈bH 6/\(q=1\/(aT q=Á/\17<=q/\q<=24049))/\(ps=P7->q<=8089)/\QB ps f (k*q):=by
 have σ:=l.len
 have ch:∀j,j<7->∃n:Int,n≠0/\bK n (P7.getD j 0)∈f.getD j []:=λj a=>by
  obtain⟨c,h⟩:=List.exists_mem_of_ne_nil _ (g.ne j a);obtain⟨n,d,rfl⟩:=J.cl j .b c h;rw[l.at a] at h;exact#[n,d,h]
 obtain⟨d,S,W⟩:=ch 0 .a;obtain⟨s,R,b1⟩:=ch 1 .a;obtain⟨p,a2,b2⟩:=ch 2 .a;obtain⟨t,X,b3⟩:=ch 3 .a;obtain⟨i,V,b4⟩:=ch 4 .a;obtain⟨u,T,Z⟩:=ch 5 .a;obtain⟨v,P,O⟩:=ch 6 .a
 have nz:∀n∈[d,s,p,t,i,u,v],n≠0:=λn A=>by
  simp only[Xm,Xr,XT] at A;rcases A with rfl|rfl|rfl|rfl|rfl|rfl|rfl<;>assumption
 have fin:∀x:Int,(∀j,j<7->bK x (P7.getD j 0)=bK ([d,s,p,t,i,u,v].getD j 1) (P7.getD j 0))->∀j,j<7->bK x (ps.getD j 0)∈f.getD j []:=λx I j a=>by
  rw[l.at a,I j a];have:j=0\/j=1\/j=2\/j=3\/j=4\/j=5\/j=6:=by lia
  rcases this with rfl|rfl|rfl|rfl|rfl|rfl|rfl<;>assumption
 rcases id l with e|⟨q,B,e⟩
 .obtain⟨k,q,w,q1,o,E,a⟩:=xT (ns:=[d,s,p,t,i,u,v]) rfl nz;refine#[k,q,w,.inr #[q1,o,.b],λ_=>E,λj b=>fin _ a j ?_];rw[e] at b;exact b
 .obtain⟨m,C,h⟩:=g.un q e;obtain⟨D,α,_⟩:=fj B;obtain⟨k,r,w,N,a,K,F⟩:=CL (ns:=[d,s,p,t,i,u,v]) rfl nz B (sg:=bh m q) (bx C);refine#[k,r,w,N,λz=>?_,λj b=>?_]
  .rw[z] at e;have:=congrArg Ľ e;rw[XQ] at this;exact absurd (show 7=7+1 from this) .a
  .have Γ:ps.length=8:=by rw[e,XQ];rfl
   by_cases H:j<7
   .exact fin _ a j H
   .have G:j=7:=by lia
    subst G;have L:ps.getD 7 0=(q:Int):=by rw[e];rfl
    rw[L];have y:¬(q:Int)=0:=by lia
    have o:(q:Int)≠2:=by lia
    have ec:bK (k*r) q=bK m q:=by
     unfold bK;rw[Xl y,Xl y,cV D o K,cV D o C,F]
    rw[ec];exact h
abbrev W3(P w K mg base):=aJ P w K mg base 1 "are_among" ["classes","wishes"] (cO K (fun(_:mX) (_:List mX)=>True) Á HS)
abbrev W2(P w K mg base):=aJ P w K mg base 4 "wishes_without" ["k","places","wishes"] (uJ K (fun(k:Int) (ps:List Int) (a:List mX)=>k≠0/\pV ps/\IT ps a) Á AK)
abbrev W0(P w K mg base):=aJ P w K mg base 4 "classes_of" ["k","places"] (cO K (fun(k:Int) (ps:List Int)=>k≠0/\pV ps) Á DV)
abbrev WZ(P w K mg base):=aJ P w K mg base 1 "small_free_numbers" [] (JB K Á (fun(a:List Int)=>a.Perm (bH 6)))
abbrev WY(P w K mg base):=aJ P w K mg base 4 "next_prime" ["k"] (dg K (λk=>2<=k/\k<=30000) Á (λk=>pf (k+1)))
def se(To:xI K mg "SMALL_PLACES" [0,2,3,5,7,11,13])(Uz:⇑WY)(TZ:⇑WZ)(UA:⇑W0)(Ud:⇑W2)(UK:⇑W3)
  (ps:List Int) (g:List mX) (o:pV ps) (G:IT ps g) (V:PJ ps g):⇑Body hE "number_among" fB f 4 [.val Â ps,.val Â g] (uo Á (QK ps g)):=by
 intro cdv A outer s H E J;obtain⟨σ,m,D,N,R,T⟩:=Pt o G V;have α:=sM;refine fh 2 bT.nd (Gz TZ (J.mono .a) rfl) ?_;intro c hp;have ml:c.length=128:=by rw[hp.length_eq];exact α.1
 have mm:∀k∈c,k≠0/\-30030<=k/\k<=30030:=λk b=>by
  have:=α.2 k (hp.mem_iff.mp b);exact#[this.1,this.2.1,this.2.2.1]
 refine wH 4 bT.nd (b':=Á) (f:=λk=>DV k ps) ["k"] [0] (bP (ag fB) hE rfl rfl .f) (bp .C) (bu 0) (λC s H fp=>c9 0 ["k","places"]) a7 (λj k b C s H fp=>aB UA (J.mono .a) rfl .A .B #[(mm k (Xs b)).1,o]) .b ?_;refine aq 5 bT.nd af ?_
 have O:pf (13+1)=17:=by
  have h1:=nh (k:=14) (p:=17) (sd 17 .a) .a .a .a .a;have h2:=An (k:=14) .a .a;have X:=tF (k:=14) .a
  have:pf 14≠15:=λz=>by
   rw[z] at X;have:=(eY X (d:=3) .a .a);lia
  show pf 14=17;lia
 have hPB:Q.PB=1070000011:=rfl;refine cH (ι:=Int) (λq U=>∃n r6 l,U=[À (.val Â ps),À (.val Â g),À (.val Á c),n,À (.val Á (c.map λk=>DV k ps)),À (.val Á q),r6,l]/\(q=1\/(aT q=Á/\17<=q))/\q<=m/\∀r,aT r=Á->17<=r->r<q->∀k∈bH 6,¬QB ps g (k*r)) (λq=>(m-q).toNat) 1 #[none,none,none,rfl,.inl rfl,.b,λr _ h1 h2=>by lia] ?_;rintro q U' ⟨n,r6,l,rfl,S,hle,mn⟩;have q1:1<=q:=by lia
 refine#[Á,hW jX,λ_=>?_,λz=>nomatch z];refine aq 6 bT.nd (dJ Ud (J.mono .a) rfl (ae 5) .A .B #[.b,o,G]) ?_;refine pX (as:=c.zip (c.map λk=>DV k ps)) (λi U=>(∀k∈c.take i,HS (DV k ps) (AK q ps g)=Â)/\∃n l,U=[À (.val Â ps),À (.val Â g),À (.val Á c),n,À (.val Á (c.map λk=>DV k ps)),À (.val Á q),À (.val Á (AK q ps g)),l]) (zi 3 7 bT.nd) (wO rfl B.zip .C (ae 4)) #[(λk b=>by rw[abR] at b;cases b),n,l,rfl] ?_ ?_
 .rintro i u U' hu ⟨v,n,l,rfl⟩;have hz:=(YD (z:=u)).mp hu;have mk:=Xs hz.1;obtain⟨Z,k2,k3⟩:=mm _ mk
  have e2:u.2=DV u.1 ps:=by
   have:=hz.2;rw[XI,hz.1] at this;exact(XJ this).symm
  refine aH (hW (aB UK (J.mono .a) rfl (ae (a:=u.2) 7) (ae 6) É)) (λL=>?_) (λL=>?_)
  .rw[e2] at L;have hj:=(AU o G (show q≠0 by lia) Z).mp L;refine aw (aF (ae (a:=u.1) 3) (ae 5) ((show Sm 15 u.1 by unfold Sm;lia).ok (show Sm 15 q by unfold Sm;lia))) #[u.1*q,#[u.1,q,rfl,hp.mem_iff.mp mk,?_,λe=>?_,hj],rfl]
   .rcases S with z|z
    .exact .inl z
    .exact .inr #[z.1,z.2,.b]
   .rcases S with z|z
    .exact .inl z
    .refine .inr ?_;have:=R e;obtain⟨r,t,W,Γ⟩:=Ia z.1 z.2 .b;obtain⟨I,h,_⟩:=fj t;by_cases er:(r:Int)=q
     .exact#[r,t,er.symm]
     .refine absurd (λj F=>?_) (mn r I .b .b u.1 (hp.mem_iff.mp mk));have pm:ps.getD j 0∈P7:=by have:=(get_mem F).1;rw[e] at this ⊢;exact this
      have:=hj j F;rw[<-rN pm Z .b] at this ⊢;rw[Γ _ pm];exact this
  .refine aM #[λk b=>?_,_,_,rfl];rw[YZ,hz.1] at b;rcases Yf.mp b with w|w
   .exact v k w
   .rw[XX.mp w,<-e2];exact L
 .rintro U' ⟨v,n,l,rfl⟩;have lz:(c.zip (c.map λk=>DV k ps)).length=c.length:=by rw[aah,Xv,Nat.min_self]
  rw[lz,YU] at v
  have hne':q≠m:=λz=>by
   have:=v σ (hp.mem_iff.mpr D);rw[z,(AU o G (show m≠0 by lia) (α.2 σ D).1).mpr T] at this;cases this
  have fail:∀k∈bH 6,¬QB ps g (k*q):=λk b z=>by
   have:=v k (hp.mem_iff.mpr b);rw[(AU o G (show q≠0 by lia) (α.2 k b).1).mpr z] at this;cases this
  obtain⟨p1,p2,p3⟩:aT m=Á/\17<=m/\m<=24049:=N.resolve_left .b
  have ho:∀{x:Int},aT x=Á->17<=x->x%2=1:=λ{x} h1 h2=>by
   rcases Q.bY.mp h1 with z|z
   .lia
   .exact z.2.1
  refine aq 5 bT.nd (aI Uz (J.mono .a) rfl (Pp rfl rfl B.max (ae 5) (MU (a:=13) (u4 rfl To) af rfl)) #[by split<;>lia,by split<;>lia]) ?_;rcases S with z|⟨z1,z2⟩
  .have e:(if (13:Int)>q then (13:Int) else q)=13:=Xo .b;rw[e,O];exact aM #[17,#[_,_,_,rfl,.inr #[sd 17 .a,.a],p2,λr _ h1 h2=>by lia],.b]
  .have e:(if (13:Int)>q then (13:Int) else q)=q:=Xl .b;rw[e];have h1:=nh (k:=q+1) p1 .b (ho p1 p2) .b .b;have h2:=An (k:=q+1) .b .b;refine aM #[_,#[_,_,_,rfl,.inr #[tF .b,.b],h1,λr I h rl=>?_],.b];rcases ZV r q with y|y|y
   .exact mn r I h y
   .rw[y];exact fail
   .have:=nh (k:=q+1) I .b (ho I h) .b .b;lia
def Ow(p:Int):Prop:=Pl p/\(p=0\/(2<=p/\p<2^20))
def Gm(hp:Ow p)(c:p≠0)(h2:p≠2):NR p/\Sm 20 p/\Sm 20 (jY p):=by
 have pp:=hp.1.resolve_left c;have a:=lZ pp h2;obtain⟨g,e,f,b⟩:=K3 pp h2;obtain⟨h,i,d⟩:=mj a;have:¬g<jY p:=λz=>d g e z b;have:=hp.2;refine#[a,?_,?_]
 .unfold Sm;lia
 .unfold Sm;lia
def wV(i:xI K mg "AT_NOUGHT" [1,-1])(h:xI K mg "AT_TWO" [1,3,5,7,2,6,10,14])(l:⇑WH)(p:Int)(hp:Ow p):⇑Body nJ "samples_at" jI f 3 [.val Â p] (RT Á (jj p)):=by
 intro d A outer s H E g;unfold jj;refine aH (ax az .A af) (λa=>?_) (λa=>?_)
 .rw[Xo (XD a)];exact aw (xC rfl B.list (u4 rfl i)) rfl
 have c:p≠0:=X9 a;rw[Xl c];refine aH (ax az .A af) (λa=>?_) (λa=>?_)
 .rw[Xo (XD a)];exact aw (xC rfl B.list (u4 rfl h)) rfl
 have h2:p≠2:=X9 a;rw[Xl h2];obtain⟨e,j,k⟩:=Gm hp c h2;have:=hp.2.resolve_left c;refine aq 1 lM.nd (aI l (g.mono .a) rfl .A #[e,.e,.e]) ?_;exact aw (dR (as:=[1,jY p,p,p*jY p]) (b:=Á) (aE af (aE .B (aE (iM (b':=Á) .A) (aE (aF .A .B (j.ok k)) bV)))) (by show 4<=1000;decide)) rfl
structure Rr(one other:List Int)(p:Int):Prop where
 l1:one.length<=8
 l2:other.length<=8
 o1:∀a∈one,a≠0/\Sm 62 a
 o2:∀a∈other,a≠0/\Sm 62 a
 pl:Ow p
def GU(one other:List Int)(p:Int):zD one other p=((jj p).filter λk=>bZ (one++[-k]) p&&bZ (other++[k]) p).map λk=>tS k p:=rfl
def Lx{k:Int}(hp:Ow p)(a:k∈jj p):Sm 62 k/\Sm 62 (-k):=by
 have key:Sm 42 k:=by
  by_cases b:p=0
  .subst b;unfold jj at a;rw[Xo rfl] at a;simp only[Xm,Xr,XT] at a;unfold Sm;lia
  by_cases h2:p=2
  .subst h2;unfold jj at a;rw[Xl .a,Xo rfl] at a;simp only[Xm,Xr,XT] at a;unfold Sm;lia
  obtain⟨_,d,c⟩:=Gm hp b h2;unfold jj at a;rw[Xl b,Xl h2] at a;simp only[Xm,Xr,XT] at a;rcases a with rfl|rfl|rfl|rfl
  .show(1:Int).natAbs<2^42;decide
  .exact c.le .a
  .exact d.le .a
  .exact(d.mul c).le .a
 exact#[key.le .a,by have:Sm 62 k:=key.le .a;unfold Sm at *;lia]
def oH(j:⇑WX)(g:⇑aJ 4 "samples_at" ["p"] (dg K Ow Á jj))(c:⇑aJ 7 "have_zero" ["numbers","p"] (cO K Qj Á bZ))(one other:List Int)(p:Int)(hp:Rr one other p):
  Body P w K mg base fL "shared_classes" dQ f 7 [.val Â one,.val Â other,.val Â p] (RT Á (zD one other p)):=by
 intro d A outer s H E b;have hpl:=hp.pl
 have ok:∀{l:List Int} {k:Int},(∀a∈l,a≠0/\Sm 62 a)->k≠0->Sm 62 k->Qj (l++[k]) p:=λ{l k} h e m=>#[by rw[XQ];exact Ϟ _ _,λa ha=>by
  rcases Yf.mp ha with ha|ha
  .exact h a ha
  .rw[XX.mp ha];exact#[e,m],by have:=hpl.2;lia]
 refine aw (Cu (f:=λk:Int=>tS k p) (p:=λk=>bZ (one++[-k]) p&&bZ (other++[k]) p) (b':=Á) ["k"] [0,1,2] (bP (ag dQ) fL rfl rfl .f) (bp (aI g (b.mono .a) rfl .C hpl)) (bu 0) (λC s H fp=>c9 0 ["k","one","other","p"]) a7 (λi k hi C s H fp=>lS (TW.t (pH (hW (aB c (b.mono .a) rfl (fK .B (dR (aE (eT .A) bV) .c) ?_) .D ?_)) λ_=>(kW (hW (aB c (b.mono .a) rfl (fK .C (dR (aE .A bV) .c) ?_) .D ?_)))))) (λi k hi _ C s H fp=>aB j (b.mono .a) rfl .A .D #[l_ hpl.1 k (Xs hi),by have:=hpl.2;lia]) (by have:=Fx p;lia)) rfl
 .have:=hp.l1;rw[abA];lia
 .have:=l_ hpl.1 k (Xs hi);exact ok hp.o1 .b (Lx hpl (Xs hi)).2
 .have:=hp.l2;rw[abA];lia
 .exact ok hp.o2 (l_ hpl.1 k (Xs hi)) (Lx hpl (Xs hi)).1
structure OD(one other:List Int):Prop where
 l1:one.length<=8
 l2:other.length<=8
 o1:∀a∈one,a≠0/\Sm 62 a
 o2:∀a∈other,a≠0/\Sm 62 a
 po:Hd (one++other)
 pl:(n_ (one++other)).length<=50
 ps:∃ps,pV ps/\(∀p,p∈ps↔p∈P7\/p∈n_ (one++other))/\PJ ps (ps.map λp=>zD one other p)
structure KU(one other ps:List Int)(t:Int):Prop where
 ok:pV ps
 sm:∀p,p∈ps↔p∈P7\/p∈n_ (one++other)
 na:QK ps (ps.map λp=>zD one other p) t
def sR{M:Type}(g:Int->List M)(h:j<ps.length):(ps.map g).getD j []=g (ps.getD j 0):=by
 rw[Xq,XI,(get_mem h).2];rfl
def OO(e:pV ps)(one other:List Int):IT ps (ps.map λp=>zD one other p):=by
 refine#[Xv ..,λcs a=>?_,λj b c d=>?_]
 .obtain⟨p,_,rfl⟩:=XF.mp a;rw[GU,Xv];exact Ye (acY ..) (Ye (Fx p) .a)
 .rw[sR _ b,GU] at d;obtain⟨k,f,rfl⟩:=XF.mp d;exact#[k,l_ (e.ok (get_mem b).1).1 k (Ys.mp f).1,rfl]
def pV.inc(h:pV ps):ps.Pairwise (·<·):=by
 have c:P7.Pairwise (·<·):=by decide
 rcases h with rfl|⟨q,e,rfl⟩
 .exact c
 .refine List.pairwise_append.mpr #[c,List.pairwise_singleton _ _,λa ha b d=>?_];rw[XX.mp d];have:=(fj e).2.1;simp only[P7,Xm,Xr,XT] at ha;lia
abbrev W4(P w K mg base):=aJ P w K mg base 5 "number_among" ["places","wishes"] (tO K (fun(ps:List Int) (a:List mX)=>pV ps/\IT ps a/\PJ ps a) Á (λps a (n:Int)=>QK ps a n))
def Dq(l:xI K mg "SMALL_PLACES" [0,2,3,5,7,11,13])(j:⇑WS)(m:⇑aJ 8 "shared_classes" ["one","other","p"] (uJ K Rr Á zD))(q:⇑W4)(one other:List Int)(hp:OD one other):
  Body P w K mg base pG "meeting" lj f 8 [.val Â one,.val Â other] (uo Á (fun(t:Int)=>∃ps,KU one other ps t)):=by
 intro k A outer s H E d;have h:=hp.l1;have n:=hp.l2;have pl:=hp.pl;obtain⟨ps,b,g,e⟩:=hp.ps;have r:=b.len
 have c:sset ([0,2,3,5,7,11,13]++n_ (one++other))=ps:=tJ (ik _) b.inc λa=>by
  rw[iq,Yf,g];exact Ş
 refine aq 2 tK.nd (cP (a':=ps) (uQ rfl rfl B.sorted rfl B.set (fK (xC rfl B.list (u4 rfl l)) (aI j (d.mono .a) rfl (fK .A .B .b) hp.po) (by show 7+_<=1000;lia)) (by rw[XQ];show 7+_<64;lia)) c) ?_;exact mz (iY q (d.mono .a) rfl .C (eC (b':=Á) (f:=λp=>zD one other p) ["p"] [0,1] (bP (ag lj) pG rfl rfl .f) (bp .C) (bu 0) (λC s H fp=>c9 0 ["p","one","other"]) a7 (λi p hi C s H fp=>dJ m (d.mono .a) rfl .B .C .A #[h,n,hp.o1,hp.o2,b.ok (Xs hi)]) .b) #[b,OO b one other,e]) λt o=>#[_,#[ps,b,g,o],rfl]
abbrev W5(P w K mg base):=aJ P w K mg base 127 "zero_of_three" ["row"] (gE K Cc Á Z3)
def qq(d:⇑W5)(l:List Int)(hp:Cc l):⇑Body fe "zero_of_free" dw f 127 [.val Â l] (uo Á (Z3 l)):=by
 intro b A outer s H E c;have e:=hp.len;refine aH (ax az (br rfl B.len .A) af) (λa=>?_) (λ_=>?_)
 .exfalso;have:=XD a;lia
 refine aH (ax az (br rfl B.len .A) af) (λ_=>?_) (λa=>?_)
 .exact mz (c_ d (c.mono .a) rfl .A hp) λz hz=>#[_,hz,rfl]
 .exfalso;have:=X9 a;lia
noncomputable def zQ(l z:List Int):Nat->Int
 |0=>0
 |i+1=>zQ l z i+l.getD i 0*(z.getD i 0*z.getD i 0)
structure MP(n:Nat)(l z:List Int):Prop where
 len:z.length=l.length
 nz:∃x∈z,x≠0
 eq:zQ l z l.length=0
 sm:∀x∈z,Sm n x
abbrev ZF:=MP 6200
def wz(h:jz l=none):bZ l 0=Á/\∀q,aT q=Á->bZ l q=Á:=by
 have:=sJ l;rw[h] at this;exact this
def vC(h:∀p,Pl p->bZ l p=Á):jz l=none:=(oO (r:=none) #[h 0 (.inl rfl),λq a=>h q (.inr a)]).symm
def vX{a:Int}(h:lu Q6 a):(pA (a.natAbs:Int)).length<=6:=by
 have n:=h.1;have h1:1<=(a.natAbs:Int):=by lia
 have key:((pA (a.natAbs:Int)).map (·.1)).length<=Q.Q6.length:=j9 (by obtain⟨⟨b,e⟩,_⟩:=pb h1;exact(sh e).1.imp λh=>by lia) λx d=>by
  obtain⟨c,f⟩:=(iG h1).mp d;exact h.2 x c (Zj.mp f)
 rw[Xv] at key;exact key
theorem Hi:∀{l:List Int} {n:Nat},(∀a∈l,(pA (a.natAbs:Int)).length<=n)->(l.flatMap λk=>(pA (k.natAbs:Int)).map (·.1)).length<=l.length*n
 |[],n,_=>by simp
 |a::l,n,h=>by
  have h1:=Hi (l:=l) (n:=n) λx b=>h x (Xx _ b);have h2:=h a (XA ..);rw[ach,XQ,Xv,Yl,Nat.add_mul,Nat.one_mul];lia
def FX(c:l.length<=9)(h:∀a∈l,a.natAbs<1073741824/\lu Q6 a):Hd l:=by
 refine#[.b,λk b=>?_,?_]
 .have:=h k b;have:=this.2.1;lia
 .have:=Hi (n:=6) λa ha=>vX (h a ha).2;unfold x4;rw[Yl];lia
def Ck(b:l.length<=9)(h:∀a∈l,a∈bH 6):Hd l:=FX b λa ha=>#[by have:=eV (h a ha);lia,nu (h a ha)]
def Cw(h:∀a∈l,a∈bH 6)(c:q∈n_ l):q∈P7:=by
 rcases(oh λx b=>bg (h x b)).mp c with z|⟨z,a,ha,d⟩
 .rw[z];decide
 .exact Xx _ (r_ (h a ha) z d)
def GV(h:∀a∈l,a∈bH 6):(n_ l).length<=50:=by
 have:(n_ l).length<=P7.length:=j9 ((ik _).imp λh=>by lia) λx b=>Cw h b;have e:P7.length=7:=rfl;lia
def xW{a:Int}(h:a∈bH 6):a≠0/\Sm 62 a:=by
 have:=eV h;exact#[bg h,by unfold Sm;lia]
def TQ(q:Int):Prop:=q=1\/∃r:Nat,r∈wW/\q=(r:Int)
structure Ny(l:List Int):Prop where
 ex:∃a b c k q,l=[a,b,c,k*q]/\a∈bH 6/\b∈bH 6/\c∈bH 6/\k∈bH 6/\TQ q
 no:jz l=none
structure QV(l:List Int):Prop where
 ex:∃a b c d e,l=[a,b,c,d,e]/\a∈bH 6/\b∈bH 6/\c∈bH 6/\d∈bH 6/\e∈bH 6/\(a<0/\0<b\/0<a/\b<0)
def IP(q:Int):Prop:=q=1\/(aT q=Á/\17<=q/\q<=24049)
def ki{k:Int}(b:k∈bH 6)(c:IP q):k*q≠0/\(k*q).natAbs<1073741824:=by
 have l:=eV b
 have a:q≠0/\q.natAbs<=24049:=by
  rcases c with rfl|⟨_,h,h'⟩
  .decide
  .lia
 refine#[Xn (bg b) a.1,?_];rw[XZ];have:=aaT l a.2;lia
def xa{a k:Int}(ha:a∈bH 6)(c:k∈bH 6)(b:IP q):F5 (-a) (k*q):=by
 obtain⟨t,l⟩:=Eg (rE a ha).1 c b;have h1:=eV ha;have h2:=bg ha;obtain⟨d,e⟩:=ki c b;exact#[.b,d,by unfold Sm;lia,by unfold Sm;lia,t,l]
def M3{a b:Int}(ha:a∈bH 6)(c:b∈bH 6):F5 (-a) b:=by
 have:=xa (q:=1) ha c (.inl rfl);rw[X0] at this;exact this
def Hf{a b k:Int}(ha:a∈bH 6)(c:b∈bH 6)(f:k∈bH 6)(e:IP q):Cc [a,b,k*q]:=Gw (λx d=>by
  have h1:=eV ha;have h2:=bg ha;have h:=eV c;have g:=bg c;simp only[Xm,Xr,XT] at d;rcases d with rfl|rfl|rfl
  .lia
  .lia
  .exact ki f e) (M3 ha c) (xa ha f e)
def yg(h:TQ q):IP q:=by
 rcases h with z|⟨r,a,rfl⟩
 .exact .inl z
 .obtain⟨h1,h2,b⟩:=fj a;exact .inr #[h1,.b,.b]
theorem KU.at{one other ps:List Int}{t:Int}(h:KU one other ps t)(h1:∀a∈one,a≠0)(h2:∀a∈other,a≠0)(f:t≠0){p:Int}(hp:p∈ps):bZ (one++[-t]) p=Á/\bZ (other++[t]) p=Á:=by
 obtain⟨k,q,_,_,_,_,d⟩:=h.na;obtain⟨j,b⟩:=YK.mp hp;have c:=(Xy.mp b).1;have:=d j c;rw[sR _ c] at this;have e:ps.getD j 0=p:=by rw[Xq,b];rfl
 rw[e] at this;exact L8 (h.ok.ok hp).1 h1 h2 f this
def pV.cons{ps:List Int}(h:pV ps):∃L,ps=0::L/\oo L/\∀p∈Q6,p∈L:=by
 rcases h with rfl|⟨q,c,rfl⟩
 .exact#[Q6,rfl,Cb,λp hp=>hp]
 .obtain⟨d,b,_⟩:=fj c;refine#[Q6++[(q:Int)],rfl,Lw Cb d λz=>?_,λp hp=>Ya _ hp];have a:∀p∈Q6,p<=13:=by decide
  have:=a _ z;lia
def Iq{a b k:Int}(ha:a∈bH 6)(g:b∈bH 6)(f:c∈bH 6)(j:k∈bH 6)(m:TQ q):Hd [a,b,c,k*q]/\(n_ [a,b,c,k*q]).length<=50/\∃ps,pV ps/\(∀p,p∈ps↔p∈P7\/p∈n_ [a,b,c,k*q])/\(ps=P7/\q=1\/∃r:Nat,r∈wW/\q=(r:Int)/\ps=P7++[(r:Int)]):=by
 have u:=bg j;rcases m with rfl|⟨r,i,rfl⟩
 .rw[X0]
  have all:∀x∈[a,b,c,k],x∈bH 6:=λx d=>by
   simp only[Xm,Xr,XT] at d;rcases d with rfl|rfl|rfl|rfl<;>assumption
  exact#[Ck (by show 4<=9;decide) all,GV all,P7,.inl rfl,λp=>#[.inl,λz=>z.elim id (Cw all)],.inl #[rfl,rfl]]
 .obtain⟨l,o,A⟩:=fj i;obtain⟨s,tl⟩:=ki j (yg (.inr #[r,i,rfl]))
  have nz:∀x∈[a,b,c,k*(r:Int)],x≠0:=λx d=>by
   simp only[Xm,Xr,XT] at d;rcases d with rfl|rfl|rfl|rfl
   .exact bg ha
   .exact bg g
   .exact bg f
   .exact s
  have mem:∀p,p∈n_ [a,b,c,k*(r:Int)]->p∈P7\/p=(r:Int):=λp hp=>by
   have six:∀{x:Int},x∈bH 6->aT p=Á->p∣x->p∈P7:=λd pp e=>Xx _ (r_ d pp e);rcases(oh nz).mp hp with z|⟨pp,x,d,e⟩
   .rw[z];exact .inl .a
   .simp only[Xm,Xr,XT] at d;rcases d with rfl|rfl|rfl|rfl
    .exact .inl (six ha pp e)
    .exact .inl (six g pp e)
    .exact .inl (six f pp e)
    .rcases euclid pp e with y|y
     .exact .inl (six j pp y)
     .exact .inr (bE pp l y)
  have w:(n_ [a,b,c,k*(r:Int)]).length<=(P7++[(r:Int)]).length:=j9 ((ik _).imp λh=>by lia) λx d=>by
   rcases mem x d with z|z
   .exact Ya _ z
   .rw[z];simp
  have v:(P7++[(r:Int)]).length=8:=by rw[XQ];rfl
  refine#[#[by show 4<=100;decide,λx d=>?_,?_],.b,P7++[(r:Int)],.inr #[r,i,rfl],λp=>#[λz=>?_,λz=>?_],.inr #[r,i,rfl,rfl]]
  .have h1:=eV ha;have h2:=eV g;have n:=eV f;have:=nz x d;simp only[Xm,Xr,XT] at d;rcases d with rfl|rfl|rfl|rfl<;>lia
  .have h1:=vX (nu ha);have h2:=vX (nu g);have n:=vX (nu f);have t:=uW (k:=((k*(r:Int)).natAbs:Int)) .b .b;unfold x4;simp only[ach,υ,Yl,XQ,Xv,acQ];lia
  .rcases Yf.mp z with y|y
   .exact .inl y
   .rw[XX.mp y];exact .inr ((oh nz).mpr (.inr #[l,_,.c,acE k (r:Int)]))
  .rcases z with y|y
   .exact Ya _ y
   .rcases mem p y with x|x
    .exact Ya _ x
    .rw[x];simp
def vG{a b:Int}(ha:a≠0)(d:b≠0):∀x∈[a,b],x≠0:=λx c=>by
 simp only[Xm,Xr,XT] at c;rcases c with rfl|rfl<;>assumption
def G8{a b k:Int}(ha:a∈bH 6)(l:b∈bH 6)(i:c∈bH 6)(D:k∈bH 6)(B:TQ q)(h:jz [a,b,c,k*q]=none):OD [a,b] [c,k*q]:=by
 obtain⟨po,pl,ps,o,L,t⟩:=Iq ha l i D B;obtain⟨y,tl⟩:=ki D (yg B);have I:=bg ha;have K:=bg l;have c0:=bg i
 have J:∀p,Pl p->bZ [a,b,c,k*q] p=Á:=λp hp=>by
  rcases hp with rfl|hp
  .exact(wz h).1
  .exact(wz h).2 p hp
 have N:=o.len;refine#[by show 2<=8;decide,by show 2<=8;decide,λx d=>?_,λx d=>?_,po,pl,ps,o,L,λj α=>?_,λr g=>?_]
 .simp only[Xm,Xr,XT] at d;rcases d with rfl|rfl
  .exact xW ha
  .exact xW l
 .simp only[Xm,Xr,XT] at d;rcases d with rfl|rfl
  .exact xW i
  .exact#[y,by unfold Sm;lia]
 .have C:j<ps.length:=by lia
  rw[sR _ C];have f:=(o.ok (get_mem C).1).1;obtain⟨s,w,v,A⟩:=Bc f I K c0 y (J _ f);have:=Au (one:=[a,b]) (other:=[c,k*q]) w v A;intro z;rw[z] at this;cases this
 .have u:∀p∈Q6,p<=13:=by decide
  rcases t with⟨e,_⟩|⟨E,m,eq,e⟩
  .rw[e] at g;have:=congrArg Ľ g;rw[XQ] at this;exact absurd (show 7=7+1 from this) .a
  .have F:(r:Int)=(E:Int):=by
    rw[g] at e;exact List.singleton_inj.mp (List.append_cancel_left e)
   obtain⟨G,H,_⟩:=fj m;rw[F,g]
   have n:∀{x:Int},x∈bH 6->¬(E:Int)∣x:=λd z=>by
    have:=u _ (r_ d G z);lia
   obtain⟨s,w,ns,v,A⟩:=IB G .b (n ha) (n l) (n i) y;refine#[s,ns,?_];show _∈((P7++[(r:Int)]).map λp=>zD [a,b] [c,k*q] p).getD 7 [];rw[sR _ (by rw[XQ];exact ZJ 7)];show _∈zD [a,b] [c,k*q] (r:Int);rw[F];exact Au (one:=[a,b]) (other:=[c,k*q]) w v A
def Ht{a b k t:Int}(ha:a∈bH 6)(u:b∈bH 6)(n:c∈bH 6)(C:k∈bH 6)(A:TQ q)(h:KU [a,b] [c,k*q] ps t):∃k' q',t=k'*q'/\k'∈bH 6/\IP q'/\jz [a,b,-t]=none/\jz [c,k*q,t]=none:=by
 obtain⟨k',q',g,e,d,_,_⟩:=h.na;have G:t≠0:=by rw[g];exact(ki e d).1
 have T0:=(ki C (yg A)).1;have o:=bg ha;have v:=bg u;have c0:=bg n;obtain⟨L,y,j,m⟩:=h.ok.cons;have s:=λp hp=>h.at (vG o v) (vG c0 T0) G (p:=p) (by rw[y];exact hp);have i:∀{x:Int},x∈bH 6->lu L x:=λf=>nQ m (nu f);have F:∀{x:Int},IP x->x=1\/aT x=Á:=λf=>f.imp id (·.1)
 have B:lu L (k*q):=#[T0,λr w E=>by
  have D:∀x∈[a,b]++[c,k*q],x≠0:=λx f=>by
   rcases Yf.mp f with z|z
   .exact vG o v x z
   .exact vG c0 T0 x z
  have:r∈ps:=(h.sm r).mpr (.inr ((oh D).mpr (.inr #[w,_,.c,E])));rw[y] at this;rcases Xm.mp this with z|z
  .have:=au w;lia
  .exact z]
 have l:lu L t\/∃r,oo (L++[r])/\lu (L++[r]) t:=by rw[g];exact E9 j m e (F d)
 refine#[k',q',g,e,d,vC ?_,vC ?_]
 .refine oQ j (i ha) (i u) (l.imp gL fun⟨r,h1,h2⟩=>#[r,h1,gL h2]) λp hp=>(s p hp).1
 .exact oQ j (i n) B l λp hp=>(s p hp).2
def Mw{k k' q':Int}(d:c∈bH 6)(g:k∈bH 6)(f:IP q)(b:k'∈bH 6)(a:IP q'):Cc [c,k*q,k'*q']:=Gw (λx e=>by
  have h1:=eV d;have h2:=bg d;simp only[Xm,Xr,XT] at e;rcases e with rfl|rfl|rfl
  .lia
  .exact ki g f
  .exact ki b a) (xa d g f) (xa d b a)
def Jf{a b t w s:Int}(e1:a*(x*x)+b*(y*y)+-t*(w*w)=0)(e2:c*(u*u)+d*(v*v)+t*(s*s)=0):0+a*((x*s)*(x*s))+b*((y*s)*(y*s))+c*((u*w)*(u*w))+d*((v*w)*(v*w))=0:=by
 have h1:0+a*((x*s)*(x*s))+b*((y*s)*(y*s))+c*((u*w)*(u*w))+d*((v*w)*(v*w))=(s*s)*(a*(x*x)+b*(y*y)+-t*(w*w))+(w*w)*(c*(u*u)+d*(v*v)+t*(s*s)):=by grind
 rw[h1,e1,e2,Yd,Yd];rfl
def Be{t:Int}(h:j0 [x,y,t]=1):¬(x=0/\y=0/\t=0):=fun⟨h1,h2,a⟩=>by
 subst h1 h2 a;exact absurd h .a
abbrev W6(P w K mg base):=aJ P w K mg base 9 "meeting" ["one","other"] (tO K OD Á (λone other (t:Int)=>∃ps,KU one other ps t))
def mh(T6:⇑W6)(Ts:⇑W5)(Γ:⇑aJ 128 "zero_of_free" ["numbers"] (gE K Cc Á Z3))(l:List Int)(hp:Ny l):
  Body P w K mg base bB "zero_by_meeting" a_ f 128 [.val Â l] (uo Á (MP 4100 l)):=by
 intro cdv A outer o H E N;obtain⟨⟨a,b,c,k,q,rfl,ha,I,e,F,r⟩,J⟩:=hp;have T0:=(ki F (yg r)).1;have pm:=G8 ha I e F r J;have Z:=λps t=>Ht (ps:=ps) (t:=t) ha I e F r;have X:=λk' q'=>Mw (k':=k') (q':=q') e F (yg r);generalize k*q=d at *;refine fh 1 aY.nd (iY T6 (N.mono .a) rfl (cP (a':=[a,b]) (xq .A af .a) rfl) (cP (a':=[c,d]) (rA .A af .a) rfl) pm) λt O=>?_;obtain⟨ps,O⟩:=O;obtain⟨k',q',et,p,m,σ,V⟩:=Z ps t O;subst et
 have p1:Cc [a,b,-(k'*q')]:=by
  have:=Hf ha I (rE k' p).1 m;rw[Ů] at this;exact this
 have p2:Cc [c,d,k'*q']:=X k' q' p m;generalize k'*q'=t at *;refine fh 2 aY.nd (c_ Ts (N.mono .a) rfl (cP (a':=[a,b,-t]) (fK (cP (a':=[a,b]) (xq .A af .a) rfl) (dR (as:=[-t]) (b:=Á) (aE (eT .B) bV) (by show 1<=1000;decide)) (by show 2+1<=1000;decide)) rfl) p1) λz hz=>?_;rcases hz with⟨hz,_⟩|⟨_,x,y,w,rfl,g1,e1,L,α,sw⟩
 .exact absurd σ hz
 have e1:a*(x*x)+b*(y*y)+-t*(w*w)=0:=e1;refine aH (ax az (aZ (a:=w) (dC (a:=[x,y,w]) .C) af rfl) af) (λe=>?_) (λe=>?_)
 .have g:w=0:=XD e;subst g;refine aw (cP (a':=[x,y,0,0]) (fK (xq (dC (a:=[x,y,0]) .C) af .a) (FR (a:=(0:Int)) (dR (as:=[0]) (b:=Á) (aE af bV) (by show 1<=1000;decide)) (eO (br rfl B.len .A) af) (by show(0:Int)<=4-2;decide) (by show(4:Int)-2<=1000;decide)) (by show 2+2<=1000;decide)) rfl) #[[x,y,0,0],#[rfl,?_,?_,λv S=>?_],rfl]
  .by_cases j:x=0
   .exact#[y,.c,λD=>Be g1 #[j,D,rfl]]
   .exact#[x,.c,j]
  .show 0+a*(x*x)+b*(y*y)+c*(0*0)+d*(0*0)=0;simp only[Yd,abg,acu] at e1 ⊢;exact e1
  .simp only[Xm,Xr,XT] at S;rcases S with rfl|rfl|rfl|rfl
   .exact L.le .a
   .exact α.le .a
   .exact sw.le .a
   .exact sw.le .a
 have g:w≠0:=X9 e;refine fh 3 aY.nd (c_ Γ (N.mono .a) rfl (cP (a':=[c,d,t]) (fK (cP (a':=[c,d]) (rA .A af .a) rfl) (dR (as:=[t]) (b:=Á) (aE .B bV) (by show 1<=1000;decide)) (by show 2+1<=1000;decide)) rfl) p2) λz hz=>?_;rcases hz with⟨hz,_⟩|⟨_,u,v,s,rfl,W,e2,R,T,G⟩
 .exact absurd V hz
 have e2:c*(u*u)+d*(v*v)+t*(s*s)=0:=e2;refine aw (cP (a':=[x*s,y*s,u*w,v*w]) (fK (eC (b':=Á) (f:=λn:Int=>n*s) ["x"] [3] (bP (ag a_) bB rfl rfl .f) (bp (cP (a':=[x,y]) (xq (dC (a:=[x,y,w]) .C) af .a) rfl)) (bu 0) (λC _ H fp=>c9 0 ["x","other"]) a7 (λi n h C _ H fp=>aF .A (aZ (a:=s) (dC (a:=[u,v,s]) .B) (eT af) rfl) ?_) (by show 2<=1000;decide)) (eC (b':=Á) (f:=λn:Int=>n*w) ["x"] [2] (bP (ag a_) bB rfl rfl .f) (bp (cP (a':=[u,v]) (Le (dC (a:=[u,v,s]) .D) (eT af) .a) rfl)) (bu 0) (λC _ H fp=>c9 0 ["x","one"]) a7 (λi n h C _ H fp=>aF .A (aZ (a:=w) (dC (a:=[x,y,w]) .B) af rfl) ?_) (by show 2<=1000;decide)) (by show 2+2<=1000;decide)) rfl) #[[x*s,y*s,u*w,v*w],#[rfl,?_,Jf e1 e2,λn h=>?_],rfl]
 .have:=Xs h;simp only[Xm,Xr,XT] at this;rcases this with rfl|rfl
  .exact L.ok G
  .exact α.ok G
 .have:=Xs h;simp only[Xm,Xr,XT] at this;rcases this with rfl|rfl
  .exact R.ok sw
  .exact T.ok sw
 .by_cases h1:u*w=0
  .by_cases h2:v*w=0
   .have u0:=(YJ.mp h1).resolve_right g;have v0:=(YJ.mp h2).resolve_right g;have o:s≠0:=λo=>Be W #[u0,v0,o];by_cases j:x=0
    .by_cases D:y=0
     .exfalso;rw[j,D] at e1;have:t*(w*w)=0:=by rw[Ů] at e1;omega
      have t0:=(YJ.mp this).resolve_right (Xn g g);exact dN p2.row (x:=t) .c |>.1 t0
     .exact#[y*s,.c,Xn D o]
    .exact#[x*s,.c,Xn j o]
   .exact#[v*w,.c,h2]
  .exact#[u*w,.c,h1]
 .simp only[Xm,Xr,XT] at h;rcases h with rfl|rfl|rfl|rfl
  .exact(L.mul G).le .a
  .exact(α.mul G).le .a
  .exact(R.mul sw).le .a
  .exact(T.mul sw).le .a
def qC(g:⇑aJ 129 "zero_by_meeting" ["numbers"] (gE K Ny Á (MP 4100)))(l:List Int)(hp:Ny l):⇑Body fe "zero_of_free" dw f 129 [.val Â l] (uo Á (MP 4100 l)):=by
 intro e A outer i H E h;have j:l.length=4:=by obtain⟨a,b,c,k,q,rfl,_⟩:=hp.ex;rfl
 refine aH (ax az (br rfl B.len .A) af) (λd=>?_) (λ_=>?_)
 .exfalso;have:=XD d;lia
 refine aH (ax az (br rfl B.len .A) af) (λd=>?_) (λ_=>?_)
 .exfalso;have:=XD d;lia
 refine mz (KA (ax az (br rfl B.len .A) af) (λ_=>c_ g (h.mono .a) rfl .A hp) λd=>?_) λz hz=>#[_,hz,rfl];exfalso;have:=X9 d;lia
open Q (Fr)
def Nm(u v:Int×Int):Prop:=u.2=1/\v.2=1/\v.1≠0/\Sm 7000 u.1/\Sm 40 v.1
def Qe(h:1<=n):Sm n 1:=by unfold Sm;exact abW .b
def JX(j:⇑WD)(u v:Int×Int)(h:Nm u v):⇑Body Ew "over" AA f 2 [.val Â u,.val Â v] (RT Á (Qp u v)):=by
 intro e A outer s H E g;obtain⟨h1,h2,c,d,a⟩:=h;have b:Sm 1 u.2:=by rw[h1];exact Qe .a
 have i:Sm 1 v.2:=by rw[h2];exact Qe .a
 exact aw (aB j (g.mono .a) rfl (aF (bt .A) (bO .B) (d.ok i)) (aF (bO .A) (bt .B) (b.ok a)) #[Xn .b c,(b.mul a).le .a]) rfl
structure HP(us:List Fr):Prop where
 len:us.length<=10
 low:∀u∈us,QH u
 s1:∀u∈us,Sm 7000 u.1
 s2:∀u∈us,Sm 40 u.2
def Cs{us:List Fr}(h:HP us)(i:Nat)(hi:i<=us.length):1<=gM (us.take i)/\Sm (1+40*i) (gM (us.take i)):=by
 induction i with
 |zero=>exact#[by show(1:Int)<=1;decide,by show(1:Int).natAbs<2^1;decide]
 |succ i c =>
  obtain⟨h1,h2⟩:=c .e;have a:us[i]?=À us[i]:=Xz .e;have b:=Xs a;have e:gM (us.take (i+1))=(gM (us.take i)*us[i].2).fdiv (Ë (gM (us.take i)) us[i].2:Nat):=oZ a;have z:=yJ h1 (h.low _ b).1;rw[<-e] at z;refine#[z.1,?_];have s:=h2.mul (h.s2 _ b);have l:=z.2.2.2;have:Sm (1+40*i+40) (gM (us.take (i+1))):=Sm.of_le .e s;exact this.le .e
def zq{us:List Fr}(h:HP us):1<=gM us/\Sm 401 (gM us):=by
 have z:=Cs h us.length (Xu _);rw[YU] at z;exact#[z.1,z.2.le (by have:=h.len;lia)]
def Ib{a b:Int}(c:1<=b)(h:Sm n b):((Ë a b:Nat):Int)≠0/\Sm n ((Ë a b:Nat):Int):=by
 have h1:Ë a b≠0:=λz=>by rw[abO] at z;lia
 refine#[.b,Sm.of_le ?_ h];have:(Ë a b)<=b.natAbs:=ab0 .b (Int.gcd_dvd_natAbs_right a b);lia
def xZ{a b:Int}(ha:1<=a)(c:1<=b)(h:Sm n a):Sm n (a.fdiv b):=by
 refine Sm.of_le ?_ h;rw[Yi a .b];have h1:0<=a/b:=aa5 .b .b;have h2:a/b<=a:=ϓ b .b;lia
def oR(e:⇑Wy)(us:List Fr)(h:HP us):⇑Body jQ "common_bottom" gf f 1 [.val Â us] (RT Á (gM us)):=by
 intro d A outer s H E k;refine aq 1 dM.nd af ?_;refine oG (λi U=>∃r,U=[À (.val Â us),À (.val Á (gM (us.take i))),r]) (cS 2 dM.nd) .A #[none,rfl] ?_ ?_
 .rintro i u U' b ⟨r,rfl⟩;have c:=Xs b;have hi:i<us.length:=(Xy.mp b).1;obtain⟨m,l⟩:=Cs h i .b;have j:Sm 401 (gM (us.take i)):=l.le (by have:=h.len;lia);have g:=Ib (a:=gM (us.take i)) (h.low u c).1 (h.s2 u c);refine aq 1 dM.nd (a9 (aF .B (bO .C) (j.ok (h.s2 u c))) (aB e (k.mono .a) rfl .B (bO .C) É) (g.2.div g.1)) ?_;refine aM #[À (.val Â u),?_];unfold gM;rw[oZ b];rfl
 .rintro U' ⟨r,rfl⟩;rw[YU];exact aw .B rfl
def ma(d:⇑aJ 2 "common_bottom" ["numbers"] (dg K HP Á gM))(us:List Fr)(h:HP us):⇑Body fg "over_one_bottom" dh f 2 [.val Â us] (RT Á (EV us)):=by
 intro b A outer s H E e;obtain⟨c,g⟩:=zq h;refine aq 1 gS.nd (aI d (e.mono .a) rfl .A h) ?_;exact aw (bR (eC (f:=λu:Fr=>u.1*(gM us).fdiv u.2) ["u"] [1] (bP (ag dh) fg rfl rfl .f) (bp .A) (bu 0) (λC s H fp=>c9 0 ["u","bottom"]) a7 (λk u a C s H fp=>aF (bt .A) (a9 .B (bO .A) ((h.s2 u (Xs a)).div (by have:=(h.low u (Xs a)).1;lia))) ((h.s1 u (Xs a)).ok (xZ c (h.low u (Xs a)).1 g))) (by have:=h.len;lia)) .B) rfl
noncomputable def P1(us:List Fr):List Int:=wd (EV us).1
def OW(us:List Fr):Prop:=HP us/\L0 (EV us).1
def xt(b:⇑WV)(d:⇑aJ 3 "over_one_bottom" ["numbers"] (dg K HP Á EV))(us:List Fr)(h:OW us):⇑Body nL "made_whole" jH f 3 [.val Â us] (RT Á (P1 us)):=by
 intro c A outer s H E a;exact aw (aI b (a.mono .a) rfl (bt (aI d (a.mono .a) rfl .A h.1)) h.2) rfl
def fF(a:Int):Int:=(ur (a,1)).1
def sF(a:Int):Int:=(ur (a,1)).2.1
def xY(a:Int):Prop:=a.natAbs<1073741824/\lu Q6 a
def J4{g:Int}(h:lq g)(d:lu Q6 g):g∈bH 6:=by
 have f:=h.1
 have c:lq (g.natAbs:Int):=by
  rcases ac_ g with z|z
  .rw[<-z];exact h
  .have:(g.natAbs:Int)=-g:=by lia
   rw[this];exact rM h
 have a:∀p∈Q6,p∣(30030:Int):=by decide
 exact CD (ac6.mp (vY (n:=30030) _ (g.natAbs:Int) (Xu _) .b c λq b e=>a q (d.2 q b (Zj.mp e))))
def xY.ok{a:Int}(h:xY a):ur (a,1)=(fF a,(sF a,1))/\a=fF a*(sF a*sF a)/\fF a∈bH 6/\0<sF a/\Sm 30 (sF a)/\a≠0/\Tame a.natAbs:=by
 obtain⟨m,g,k⟩:=h;have i:Tame a.natAbs:=wK .b .b;obtain⟨f,s,d,b,e,c⟩:=wM g i;have e1:fF a=f:=by unfold fF;rw[d]
 have e2:sF a=s:=by unfold sF;rw[d]
 rw[e1,e2];have u:=J4 b #[b.1,λq j l=>k q j (by rw[c];exact X7 l (ψ f _))];have:=Cp b.1 e c;refine#[d,c,u,e,?_,g,i];unfold Sm;lia
def Ji(h:∀a∈l,xY a):jz (l.map fF)=jz l:=by
 have nz:∀a∈l,a≠0:=λa ha=>(h a ha).ok.2.2.2.2.2.1
 have u:∀a∈l.map fF,a≠0:=λa ha=>by
  obtain⟨b,d,rfl⟩:=XF.mp ha;exact bg (h b d).ok.2.2.1
 have pr:∀p,aT p=Á->bZ (l.map fF) p=bZ l p:=λp hp=>oU hp u nz (by
  rw[aaS];refine abP λa ha=>?_;obtain⟨_,e,f,k,_⟩:=(h a ha).ok;show cls (fF a) p=_
  conv=>rhs;rw[e,<-X6]
  exact(oI hp (bg f) .e).symm)
 have sg:∀a∈l,(fF a<0↔a<0)/\(0<fF a↔0<a):=λa ha=>by
  obtain⟨_,e,f,k,_⟩:=(h a ha).ok;have n:=bg f;have ps:0<sF a*sF a:=Yq k k;generalize fF a=g at *;generalize sF a*sF a=q at *;rcases YF n with z|z
  .have:=Zn z ps;omega
  .have:=Yq z ps;omega
 have m:bZ (l.map fF) 0=bZ l 0:=by
  rw[Yy,bU,bU];constructor
  .rintro⟨⟨x,A,j⟩,⟨y,v,i⟩⟩;obtain⟨a,ha,rfl⟩:=XF.mp A;obtain⟨b,d,rfl⟩:=XF.mp v;exact#[#[a,ha,(sg a ha).1.mp j],#[b,d,(sg b d).2.mp i]]
  .rintro⟨⟨a,ha,j⟩,⟨b,d,i⟩⟩;exact#[#[_,XF.mpr #[a,ha,rfl],(sg a ha).1.mpr j],#[_,XF.mpr #[b,d,rfl],(sg b d).2.mpr i]]
 refine(oO ?_).symm;have ok:=sJ l;cases q:jz l with
 |none =>
  rw[q] at ok;exact#[by rw[m];exact ok.1,λp hp=>by rw[pr p hp];exact ok.2 p hp]
 |some p =>
  rw[q] at ok;obtain⟨t,c⟩:=ok;rcases c with c|⟨c,w,B⟩
  .exact#[by rw[c,m,<-c];exact t,.inl c]
  .exact#[by rw[pr p c];exact t,.inr #[c,by rw[m];exact w,λr s o=>by rw[pr r s];exact B r s o]]
theorem xP{l f s z zs:List Int}{G α:Int}:∀n:Nat,(∀i,i<n->l.getD i 0=f.getD i 0*(s.getD i 0*s.getD i 0)/\G*(zs.getD i 0*s.getD i 0)=α*z.getD i 0)->(G*G)*zQ l zs n=(α*α)*zQ f z n
 |0,_=>by show G*G*0=α*α*0;rw[Yd,Yd]
 |n+1,h=>by
  have g:=xP n λi hi=>h i .b;obtain⟨h1,h2⟩:=h n .b;show(G*G)*(zQ l zs n+l.getD n 0*(zs.getD n 0*zs.getD n 0))=(α*α)*(zQ f z n+f.getD n 0*(z.getD n 0*z.getD n 0));rw[ZE,ZE,g,h1];generalize f.getD n 0=a at *;generalize s.getD n 0=b at *;generalize zs.getD n 0=c at *;generalize z.getD n 0=d at *;have e:G*G*(a*(b*b)*(c*c))=a*((G*(c*b))*(G*(c*b))):=by grind
  rw[e,h2];congr 1;grind
def getD_at{M:Type}{l:List M}{a d:M}(h:l[i]?=À a):l.getD i d=a:=by rw[Xq,h];rfl
def xm(l z:List Int):List Fr:=(z.zip (l.map λk=>ur (k,1))).map λu=>Qp (u.1,1) u.2.2
def KG(b:∀a∈l,xY a)(hz:z.length=l.length)(hi:i<l.length):∃a x,l[i]?=À a/\z[i]?=À x/\a∈l/\x∈z/\(xm l z)[i]?=À (fr x (sF a)):=by
 have h1:l[i]?=À l[i]:=Xz hi;have h2:z[i]?=À z[i]:=Xz .e;refine#[_,_,h1,h2,Xs h1,Xs h2,?_];unfold xm;rw[XI,show(z.zip (l.map λk=>ur (k,1)))[i]?=À (z[i],ur (l[i],1)) from YD.mpr #[h2,by rw[XI,h1];rfl]];obtain⟨e,_⟩:=(b _ (Xs h1)).ok;show À (fr (z[i]*(ur (l[i],1)).2.2) (1*(ur (l[i],1)).2.1))=_;rw[e];show À (fr (z[i]*1) (1*sF l[i]))=_;rw[X0,Yp]
structure ZW(l zs:List Int):Prop where
 len:zs.length=l.length
 one:j0 zs=1
 eq:zQ l zs l.length=0
 sm:∀x∈zs,Sm 7500 x
def Pz(σ:l.length<=9)(o:∀a∈l,xY a)(hz:ZF (l.map fF) z):OW (xm l z)/\ZW l (P1 (xm l z)):=by
 obtain⟨r,⟨W,y,xn⟩,D,zs⟩:=hz;rw[Xv] at r D;have len:(xm l z).length=l.length:=by unfold xm;rw[Xv,aah,Xv,r];lia
 have mem:∀u∈xm l z,∃a x,a∈l/\x∈z/\u=fr x (sF a):=λu k=>by
  obtain⟨i,hi⟩:=YK.mp k;have m:=(Xy.mp hi).1;rw[len] at m;obtain⟨a,x,_,_,ha,d,e⟩:=KG o r m;rw[e] at hi;exact#[a,x,ha,d,(XJ hi).symm]
 have b:HP (xm l z):=by
  refine#[.b,λu k=>?_,λu k=>?_,λu k=>?_]<;>obtain⟨a,x,ha,d,rfl⟩:=mem u k<;>obtain⟨_,_,_,N,H,_⟩:=(o a ha).ok
  .exact Jy .b
  .exact Sm.of_le (IU .b) ((zs x d).le .a)
  .exact Sm.of_le (IM .b) (H.le .a)
 obtain⟨m1,m2⟩:=zq b
 have top:∀i,i<l.length->∃a x t,l[i]?=À a/\z[i]?=À x/\(EV (xm l z)).1[i]?=À t/\a∈l/\t*sF a=gM (xm l z)*x/\Sm 7500 t:=λi hi=>by
  obtain⟨a,x,h1,h2,ha,d,p⟩:=KG o r hi;obtain⟨_,_,_,N,H,_⟩:=(o a ha).ok;have v:=Xs p;refine#[a,x,_,h1,h2,by show((xm l z).map _)[i]?=_;rw[XI,p];rfl,ha,?_,?_]
  .have cr:=HH x (sF a);obtain⟨c,R⟩:=Gh (λu h=>(b.low u h).1) v;have lw:=(b.low _ v).1;show(fr x (sF a)).1*(gM (xm l z)).fdiv (fr x (sF a)).2*sF a=_;rw[R,Y7 _ .b];have:(fr x (sF a)).1*c*sF a=((fr x (sF a)).1*sF a)*c:=by grind
   rw[this,cr];grind
  .exact((b.s1 _ v).mul (xZ m1 (b.low _ v).1 m2)).le .a
 have j:(EV (xm l z)).1.length=l.length:=by show((xm l z).map _).length=_;rw[Xv,len]
 have O:P1 (xm l z)=wd (EV (xm l z)).1:=rfl;unfold OW;rw[O];generalize (EV (xm l z)).1=T at *;generalize gM (xm l z)=α at *;obtain⟨J,n⟩:=YK.mp y;have S:=(Xy.mp n).1;obtain⟨X,V,Γ,h1,h2,p,P,C,A⟩:=top J .b;rw[n] at h2;cases h2
 have tn:Γ≠0:=λq=>by
  rw[q,abb] at C;exact Xn .b xn C.symm
 have F:=Xs p;have w:=B4 F tn;refine#[#[b,.b,.b,(Ga F tn A).le .a],by unfold wd;rw[Xv];exact j,G9 w,?_,λx d=>?_]
 .have E:=xP (l:=l) (f:=l.map fF) (s:=l.map sF) (z:=z) (zs:=wd T) (G:=j0 T) (α:=α) l.length λi hi=>by
   obtain⟨a,x,t,B,K,g,ha,e,_⟩:=top i hi;obtain⟨_,L,_⟩:=(o a ha).ok;rw[getD_at B,getD_at (l:=l.map fF) (a:=fF a) (by rw[XI,B];rfl),getD_at (l:=l.map sF) (a:=sF a) (by rw[XI,B];rfl),getD_at K,getD_at (l:=wd T) (a:=t.fdiv (j0 T)) (by unfold wd;rw[XI,g];rfl)];refine#[L,?_];rw[<-X6,<-pT w (Xs g)];exact e
  rw[D,Yd] at E;exact(YJ.mp E).resolve_left (Xn .b .b)
 .obtain⟨t,I,rfl⟩:=XF.mp d;obtain⟨i,hi⟩:=YK.mp I;have li:=(Xy.mp hi).1;obtain⟨_,_,t',_,_,g,_,_,st⟩:=top i .b;rw[hi] at g;cases g;exact Sm.of_le (Ca w I) st
def EB{a b:Int}(ha:a∈bH 6)(k:b∈bH 6)(m:c∈bH 6)(n:d∈bH 6)(he:e∈bH 6)(h:a<0/\0<b\/0<a/\b<0):OD [a,b] [c,d,e]:=by
 have all:∀x∈[a,b]++[c,d,e],x∈bH 6:=λx f=>by
  simp only[aaX,aaF,Xm,Xr,XT] at f;rcases f with rfl|rfl|rfl|rfl|rfl<;>assumption
 refine#[by show 2<=8;decide,by show 3<=8;decide,λx f=>xW (all x (Ya _ f)),λx f=>xW (all x (XW _ f)),Ck (by show 5<=9;decide) all,GV all,P7,.inl rfl,λp=>#[.inl,λz=>z.elim id (Cw all)],λj i=>?_,λq z=>?_]
 .rw[sR _ i];have g:=(pV.ok (.inl rfl) (get_mem (ps:=P7) i).1).1;obtain⟨s,h,l,o⟩:=CW g (bg ha) (bg k) (bg m) (bg n) (bg he) h;have:=Au (one:=[a,b]) (other:=[c,d,e]) h l o;intro z;rw[z] at this;cases this
 .have:=congrArg Ľ z;rw[XQ] at this;exact absurd (show 7=7+1 from this) .a
def Fc{a b t:Int}(ha:a∈bH 6)(B:b∈bH 6)(A:c∈bH 6)(n:d∈bH 6)(he:e∈bH 6)(h:KU [a,b] [c,d,e] ps t):∃k q,t=k*q/\k∈bH 6/\IP q/\jz [a,b,-t]=none/\Ny [c,d,e,t]:=by
 have all:∀x∈[a,b]++[c,d,e],x∈bH 6:=λx f=>by
  simp only[aaX,aaF,Xm,Xr,XT] at f;rcases f with rfl|rfl|rfl|rfl|rfl<;>assumption
 have o:ps=P7:=by
  rcases h.ok with z|⟨q,i,z⟩
  .exact z
  .exfalso;have g:(q:Int)∈ps:=by rw[z];simp
   have:=(fj i).2.1;have j:∀p∈P7,p<=13:=by decide
   rcases(h.sm q).mp g with y|y
   .have:=j _ y;lia
   .have:=j _ (Cw all y);lia
 obtain⟨k,q,l,m,i,D,_⟩:=h.na;have C:t≠0:=by rw[l];exact(ki m i).1
 have w:=λx f=>bg (all x (Ya _ f));have v:=λx f=>bg (all x (XW _ f));have s:=λp hp=>h.at w v C (p:=p) (by rw[o];exact hp);refine#[k,q,l,m,i,vC ?_,#[c,d,e,k,q,by rw[l],A,n,he,m,D o],vC λp hp=>?_]
 .have u:lu Q6 t\/∃r,oo (Q6++[r])/\lu (Q6++[r]) t:=by rw[l];exact E9 Cb (λp hp=>hp) m (i.imp id (·.1))
  exact oQ Cb (nu ha) (nu B) (u.imp gL fun⟨r,h1,h2⟩=>#[r,h1,gL h2]) λp hp=>(s p hp).1
 .by_cases g:p∈P7
  .exact(s p g).2
  .rcases hp with rfl|pp
   .exact absurd .a g
   have p2:=au pp;rw[gR .b]
   have:tZ c d e p=Á:=by
    rw[<-da .b];exact nX pp (λz=>g (by rw[z];decide)) (Xu 3) λx f n=>g (Xx _ (r_ (all x (XW _ f)) pp n))
   rw[this,acD]
def Fm{a b t w s:Int}(e1:a*(x*x)+b*(y*y)+-t*(w*w)=0)(e2:0+c*(u*u)+d*(v*v)+e*(r*r)+t*(s*s)=0):0+a*((x*s)*(x*s))+b*((y*s)*(y*s))+c*((u*w)*(u*w))+d*((v*w)*(v*w))+e*((r*w)*(r*w))=0:=by
 have h1:0+a*((x*s)*(x*s))+b*((y*s)*(y*s))+c*((u*w)*(u*w))+d*((v*w)*(v*w))+e*((r*w)*(r*w))=(s*s)*(a*(x*x)+b*(y*y)+-t*(w*w))+(w*w)*(0+c*(u*u)+d*(v*v)+e*(r*r)+t*(s*s)):=by grind
 rw[h1,e1,e2,Yd,Yd];rfl
def gW(W:⇑W6)(Ts:⇑W5)(X:⇑aJ 130 "zero_of_free" ["numbers"] (gE K Ny Á (MP 4100)))(l:List Int)(hp:QV l):
  Body P w K mg base bB "zero_by_meeting" a_ f 130 [.val Â l] (uo Á (ZF l)):=by
 intro cdv A outer N H E I;obtain⟨a,b,c,d,e,rfl,ha,F,h,R,he,σ⟩:=hp.ex;refine fh 1 aY.nd (iY W (I.mono .a) rfl (cP (a':=[a,b]) (xq .A af .a) rfl) (cP (a':=[c,d,e]) (rA .A af .a) rfl) (EB ha F h R he σ)) λt J=>?_;obtain⟨ps,J⟩:=J;obtain⟨k',q',et,j,m,n1,p2⟩:=Fc ha F h R he J;subst et;have Z:=(ki j m).1
 have p1:Cc [a,b,-(k'*q')]:=by
  have:=Hf ha F (rE k' j).1 m;rw[Ů] at this;exact this
 generalize k'*q'=t at *;refine fh 2 aY.nd (c_ Ts (I.mono .a) rfl (cP (a':=[a,b,-t]) (fK (cP (a':=[a,b]) (xq .A af .a) rfl) (dR (as:=[-t]) (b:=Á) (aE (eT .B) bV) (by show 1<=1000;decide)) (by show 2+1<=1000;decide)) rfl) p1) λz hz=>?_;rcases hz with⟨hz,_⟩|⟨_,x,y,w,rfl,g1,e1,q,G,sw⟩
 .exact absurd n1 hz
 have e1:a*(x*x)+b*(y*y)+-t*(w*w)=0:=e1;refine aH (ax az (aZ (a:=w) (dC (a:=[x,y,w]) .C) af rfl) af) (λh=>?_) (λh=>?_)
 .have D:w=0:=XD h;subst D;refine aw (cP (a':=[x,y,0,0,0]) (fK (xq (dC (a:=[x,y,0]) .C) af .a) (FR (a:=(0:Int)) (dR (as:=[0]) (b:=Á) (aE af bV) (by show 1<=1000;decide)) (eO (br rfl B.len .A) af) (by show(0:Int)<=5-2;decide) (by show(5:Int)-2<=1000;decide)) (by show 2+3<=1000;decide)) rfl) #[[x,y,0,0,0],#[rfl,?_,?_,λv T=>?_],rfl]
  .by_cases L:x=0
   .exact#[y,.c,λy0=>Be g1 #[L,y0,rfl]]
   .exact#[x,.c,L]
  .show 0+a*(x*x)+b*(y*y)+c*(0*0)+d*(0*0)+e*(0*0)=0;simp only[Yd,abg,acu] at e1 ⊢;exact e1
  .simp only[Xm,Xr,XT] at T;rcases T with rfl|rfl|rfl|rfl|rfl
   .exact q.le .a
   .exact G.le .a
   all_goals exact sw.le .a
 have D:w≠0:=X9 h;refine fh 3 aY.nd (c_ X I rfl (cP (a':=[c,d,e,t]) (fK (cP (a':=[c,d,e]) (rA .A af .a) rfl) (dR (as:=[t]) (b:=Á) (aE .B bV) (by show 1<=1000;decide)) (by show 3+1<=1000;decide)) rfl) p2) λz hz=>?_;obtain⟨zl,⟨n,g,n0⟩,e2,sz⟩:=hz
 match z,zl with
 |[u,v,r,s],_ =>
 have e2:0+c*(u*u)+d*(v*v)+e*(r*r)+t*(s*s)=0:=e2;have α:=sz u .c;have O:=sz v .c;have S:=sz r .c;have o:=sz s .c;refine aw (cP (a':=[x*s,y*s,u*w,v*w,r*w]) (fK (eC (b':=Á) (f:=λn:Int=>n*s) ["x"] [3] (bP (ag a_) bB rfl rfl .f) (bp (cP (a':=[x,y]) (xq (dC (a:=[x,y,w]) .C) af .a) rfl)) (bu 0) (λC _ H fp=>c9 0 ["x","other"]) a7 (λi n g C _ H fp=>aF .A (aZ (a:=s) (ae (a:=[u,v,r,s]) 1) (eT af) rfl) ?_) (by show 2<=1000;decide)) (eC (b':=Á) (f:=λn:Int=>n*w) ["x"] [2] (bP (ag a_) bB rfl rfl .f) (bp (cP (a':=[u,v,r]) (Le (ae (a:=[u,v,r,s]) 3) (eT af) .a) rfl)) (bu 0) (λC _ H fp=>c9 0 ["x","one"]) a7 (λi n g C _ H fp=>aF .A (aZ (a:=w) (dC (a:=[x,y,w]) .B) af rfl) ?_) (by show 3<=1000;decide)) (by show 2+3<=1000;decide)) rfl) #[[x*s,y*s,u*w,v*w,r*w],#[rfl,?_,Fm e1 e2,λn g=>?_],rfl]
 .have:=Xs g;simp only[Xm,Xr,XT] at this;rcases this with rfl|rfl
  .exact q.ok o
  .exact G.ok o
 .have:=Xs g;simp only[Xm,Xr,XT] at this;rcases this with rfl|rfl|rfl
  .exact α.ok sw
  .exact O.ok sw
  .exact S.ok sw
 .apply Xt;intro no;have p:∀k,k*w∈[x*s,y*s,u*w,v*w,r*w]->k=0:=λk V=>Xt λz=>no #[_,V,Xn z D];have u0:=p u .c;have v0:=p v .c;have r0:=p r .c;subst u0 v0 r0;have:t*(s*s)=0:=by simpa using e2
  have Γ:=(YJ.mp this).resolve_left Z;have N:s=0:=by rcases YJ.mp Γ with z|z<;>exact z
  subst N;simp only[Xm,Xr,XT] at g;lia
 .simp only[Xm,Xr,XT] at g;rcases g with rfl|rfl|rfl|rfl|rfl
  .exact(q.mul o).le .a
  .exact(G.mul o).le .a
  .exact(α.mul sw).le .a
  .exact(O.mul sw).le .a
  .exact(S.mul sw).le .a
structure QP(l:List Int):Prop where
 l5:5<=l.length
 l9:l.length<=9
 ab:∃x∈l,0<x
 be:∃x∈l,x<0
structure RV(l ps:List Int):Prop where
 ex:∃i j x y z:Nat,ps=[(i:Int),j,x,y,z]/\i<l.length/\j<l.length/\x<l.length/\y<l.length/\z<l.length/\[i,j,x,y,z].Nodup/\0<l.getD i 0/\l.getD j 0<0
def yO{p:Int->Bool}(h:∃x∈l,p x=Á):∃i:Nat,i<l.length/\p (l.getD i 0)=Á/\zd (((D2 l).filter λu=>p u.2).map (·.1)) 0=À (i:Int):=by
 obtain⟨x,m,k⟩:=h;obtain⟨j,b⟩:=YK.mp m;have g:=(Xy.mp b).1;have c:((j:Int),x)∈(D2 l).filter λu=>p u.2:=Ys.mpr #[Xs (i:=j) (by unfold D2;rw[ť,b];rfl),k];cases a:(D2 l).filter λu=>p u.2 with
 |nil=>rw[a] at c;cases c
 |cons u us =>
  have n:u∈(D2 l).filter λu=>p u.2:=by rw[a];exact XA ..
  obtain⟨h1,h2⟩:=Ys.mp n;obtain⟨i,hi⟩:=YK.mp h1;obtain⟨e,f⟩:=Bq hi;refine#[i,(Xy.mp e).1,by rw[Xq,e];exact h2,?_];rw[X3,f,lX (d:=(0:Int)) .a (by rw[Yl];lia)];rfl
def ud(N:ui mg "ENOUGH" 5)(l:List Int)(hp:QP l):⇑Body d7 "five_places" de f kk [.val Â l] (uo Á (RV l)):=by
 intro R A outer s H E hr;obtain⟨Z,W,S,be⟩:=hp;obtain⟨i,hi,pi,J⟩:=yO (l:=l) (p:=λk=>decide (0<k)) (by obtain⟨x,h1,h2⟩:=S;exact#[x,h1,XY h2]);obtain⟨j,T,G,O⟩:=yO (l:=l) (p:=λk=>decide (k<0)) (by obtain⟨x,h1,h2⟩:=be;exact#[x,h1,XY h2]);have e:0<l.getD i 0:=XD pi;have n:l.getD j 0<0:=XD G;have ij:i≠j:=λz=>by rw[z] at e;lia
 refine jx (as:=D2 l) (f:=λu:Int×Int=>u.1) (p:=λu:Int×Int=>decide (0<u.2)) (b':=Á) 1 du.nd ["i","k"] [] (bP (ag de) d7 rfl rfl .f) (Ci rfl B.enumerate .A) (xw 0 1) (λC s H fp=>zZ 0 1 ["i","k"]) o4 (λa u c C s H fp=>lS (ax eW .B af)) (λa u c _ C s H fp=>iM (b':=Á) .A) (by rw[vR];lia) ?_;refine jx (as:=D2 l) (f:=λu:Int×Int=>u.1) (p:=λu:Int×Int=>decide (u.2<0)) (b':=Á) 2 du.nd ["i","k"] [] (bP (ag de) d7 rfl rfl .f) (Ci rfl B.enumerate .A) (xw 0 1) (λC s H fp=>zZ 0 1 ["i","k"]) o4 (λa u c C s H fp=>lS (ax fY .B af)) (λa u c _ C s H fp=>iM (b':=Á) .A) (by rw[vR];lia) ?_;refine aq 3 du.nd (dR (as:=[(i:Int),(j:Int)]) (b:=Á) (aE (aZ .B af J) (aE (aZ .C af O) bV)) (by show 2<=1000;decide)) ?_;refine jx (as:=mw 0 1 (l.length:Int).toNat) (f:=λu:Int=>u) (p:=λu:Int=>!decide (u∈[(i:Int),(j:Int)])) (b':=Á) 4 du.nd ["i"] [3] (bP (ag de) d7 rfl rfl .f) (HM rfl B.range (br rfl B.len .A) .b .b) (bu 0) (λC s H fp=>c9 0 ["i","ahead"]) a7 (λa u c C s H fp=>lS (ax IC .A .B)) (λa u c _ C s H fp=>iM (b':=Á) .A) (by unfold mw;rw[Xv,Zx];lia) ?_;rw[adg];generalize D:(mw 0 1 (l.length:Int).toNat).filter (λu:Int=>!decide (u∈[(i:Int),(j:Int)]))=L
 have q:∀u:Int,u∈mw 0 1 (l.length:Int).toNat↔∃m:Nat,m<l.length/\u=(m:Int):=λu=>by
  unfold mw;rw[XF];constructor
  .rintro⟨m,v,rfl⟩;have:=Yu.mp v;exact#[m,.b,.b]
  .rintro⟨m,v,rfl⟩;exact#[m,Yu.mpr .b,.b]
 have d:∀u:Int,u∈L↔(∃m:Nat,m<l.length/\u=(m:Int))/\u≠i/\u≠j:=λu=>by
  rw[<-D,Ys,q];simp
 have g:L.Nodup:=by
  rw[<-D];refine List.Pairwise.filter _ ?_;unfold mw;exact ZX.mpr (aaw.imp λh=>by lia)
 have F:3<=L.length:=by
  have:(mw 0 1 (l.length:Int).toNat).length<=(L++[(i:Int),(j:Int)]).length:=j9 (by unfold mw;exact ZX.mpr (aaw.imp λh=>by lia)) λu c=>by
   by_cases h1:u=i
   .rw[h1];simp
   .by_cases h2:u=j
    .rw[h2];simp
    .exact Ya _ ((d u).mpr #[(q u).mp c,h1,h2])
  unfold mw at this;rw[Xv,Zx,XQ] at this;have e2:[(i:Int),(j:Int)].length=2:=rfl;lia
 match L,F,d,g with
 |x::y::z::L,_,d,g =>
 obtain⟨⟨r,α,rfl⟩,σ,X⟩:=(d x).mp .c;obtain⟨⟨o,I,rfl⟩,V,Γ⟩:=(d y).mp .c;obtain⟨⟨t,hz,rfl⟩,z1,z2⟩:=(d z).mp .c;simp only[YC,Xm,acy] at g;refine aw (cP (a':=[(i:Int),j,r,o,t]) (fK .D (xq (ae 4) (eO (uF rfl N) af) .a) ?_) rfl) #[_,#[i,j,r,o,t,rfl,hi,T,α,I,hz,?_,e,n],rfl]
 .show 2+(Ĥ 3 _).length<=1000;rw[Zs];lia
 .simp only[YC,Xm,Xr,acy,XT,not_false_eq_true,aat,and_true];lia
structure J8(l:List Int):Prop where
 fv:QP l
 fn:∀a∈l,a∈bH 6
theorem EW{l:List Int}{m:Nat}:∀n:Nat,zQ l (Ê m 0) n=0
 |0=>rfl
 |n+1=>by
  have:(Ê m (0:Int)).getD n 0=0:=by
   rw[Xq,abj];split<;>rfl
  show zQ l (Ê m 0) n+_=0;rw[EW n,this,Yd,Yd];rfl
theorem Ee{l z:List Int}{k:Nat}{u:Int}(a:k<z.length)(b:z.getD k 0=0):∀n:Nat,zQ l (z.set k u) n=zQ l z n+if k<n then l.getD k 0*(u*u) else 0
 |0=>by rw[Xl .b];rfl
 |n+1=>by
  show zQ l (z.set k u) n+l.getD n 0*((z.set k u).getD n 0*(z.set k u).getD n 0)=zQ l z n+l.getD n 0*(z.getD n 0*z.getD n 0)+_;rw[Ee a b n];by_cases e:k=n
  .subst e;have:(z.set k u).getD k 0=u:=by rw[Xq,ZC a];rfl
   rw[this,b,Xl .b,Xo .b];lia
  .have:(z.set k u).getD n 0=z.getD n 0:=by rw[Xq,ZN e,Xq]
   rw[this];by_cases h:k<n
   .rw[Xo h,Xo .b];lia
   .rw[Xl h,Xl .b];lia
structure QL(l:List Int)(ix:List Nat)(zs z:List Int)(t:Nat):Prop where
 len:z.length=l.length
 rest:∀m,m∉ix.take t->z.getD m 0=0
 done:∀s,s<t->z.getD (ix.getD s 0) 0=zs.getD s 0
 sum:zQ l z l.length=zQ (ix.map λi=>l.getD i 0) zs t
def QL.step{b:List Nat}{zs:List Int}{t:Nat}(h:QL l b zs z t)(n:b.Nodup)(k:t<b.length)(o:∀i∈b,i<l.length):QL l b zs (z.set (b.getD t 0) (zs.getD t 0)) (t+1):=by
 have d:b[t]?=À (b.getD t 0):=by rw[Xq,Xz k];rfl
 have im:b.getD t 0∈b:=Xs d;have f:=o _ im
 have j:b.getD t 0∉b.take t:=λz=>by
  obtain⟨s,c⟩:=YK.mp z;rw[Ż] at c;split at c
  .have:=τ (h₀:=(Xy.mp c).1) (h₁:=k) n |>.mp (by rw[(Xy.mp c).2,(Xy.mp d).2]);lia
  .cases c
 generalize b.getD t 0=i at *;refine#[by rw[YG];exact h.len,λm g=>?_,λs c=>?_,?_]
 .rw[YZ,d] at g;have h1:m∉b.take t:=λz=>g (Ya _ z);have h2:i≠m:=λz=>g (by rw[z];simp);rw[Xq,ZN h2,<-Xq];exact h.rest m h1
 .by_cases e:s=t
  .subst e;rw[getD_at d,Xq,ZC (by rw[h.len];exact f)];rfl
  .have es:b[s]?=À (b.getD s 0):=by rw[Xq,Xz .b];rfl
   have ne:i≠b.getD s 0:=λz=>j (by
    rw[z]
    exact Xs (i:=s) (by rw[Ż,Xo .b];exact es))
   rw[Xq,ZN ne,<-Xq];exact h.done s .b
 .rw[Ee (by rw[h.len];exact f) (h.rest i j),Xo f,h.sum];show _=zQ (b.map λi=>l.getD i 0) zs t+(b.map λi=>l.getD i 0).getD t 0*(zs.getD t 0*zs.getD t 0);rw[getD_at (l:=b.map λi=>l.getD i 0) (a:=l.getD i 0) (by rw[XI,d];rfl)]
abbrev W7(P w K mg base):=aJ P w K mg base 131 "zero_by_meeting" ["numbers"] (gE K QV Á ZF)
def ka(Z:⇑W7)(S:⇑aJ 1 "five_places" ["numbers"] (gE K QP Á RV))(l:List Int)(hp:J8 l):⇑Body dG "zero_of_five_among" ck f 131 [.val Â l] (uo Á (ZF l)):=by
 intro X A outer s H E N;have l5:=hp.fv.l5;have l9:=hp.fv.l9;refine fh 1 b_.nd (c_ S (N.mono .a) rfl .A hp.fv) λps F=>?_;obtain⟨i,j,x,y,z,rfl,hi,α,J,I,hz,σ,pi,Γ⟩:=F.ex;have n:∀{m:Nat},m<l.length->l.getD m 0∈bH 6:=λ{m} g=>hp.fn _ (Q.getD_mem (d:=0) g)
 have k:∀m∈[i,j,x,y,z],m<l.length:=λm g=>by
  simp only[Xm,Xr,XT] at g;rcases g with rfl|rfl|rfl|rfl|rfl<;>assumption
 refine oV 2 b_.nd (Km (a:=(0:Int)) (dR (as:=[0]) (b:=Á) (aE af bV) (by show 1<=1000;decide)) (br rfl B.len .A) .b .b) ?_;refine yE 2 Á rfl ?_;have at':∀(u:Int) (m:Nat),u=(m:Int)->m<l.length->zd l u=À (l.getD m 0):=λu m e g=>by rw[e,lX (d:=0) .b .b,Ö]
 refine Nz (M:=Int×Int) (post:=λus=>∃zs,ZF [l.getD i 0,l.getD j 0,l.getD x 0,l.getD y 0,l.getD z 0] zs/\us=[(i:Int),j,x,y,z].zip zs) (λus t U=>∃zs o G q,ZF [l.getD i 0,l.getD j 0,l.getD x 0,l.getD y 0,l.getD z 0] zs/\us=[(i:Int),j,x,y,z].zip zs/\U=[À (.val Â l),À (.val Á [(i:Int),j,x,y,z]),À (.own Á (o:List Int)),G,q]/\QL l [i,j,x,y,z] zs o t/\∀v∈o,Sm 6200 v) (zi 3 4 b_.nd) (JM rfl B.zip .B (c_ Z N rfl (cP (a':=[l.getD i 0,l.getD j 0,l.getD x 0,l.getD y 0,l.getD z 0]) (eC (b':=Á) (f:=λu:Int=>l.getD u.toNat 0) ["i"] [0] (bP (ag ck) dG rfl rfl .f) (bp .B) (bu 0) (λC _ H fp=>c9 0 ["i","numbers"]) a7 (λt u D C _ H fp=>iM (b':=Á) (aZ .B .A ?_)) (by show 5<=1000;decide)) rfl) #[_,_,_,_,_,rfl,n hi,n α,n J,n I,n hz,.inr #[pi,Γ]])) ?_ ?_ ?_
 .have g:=Xs D
  have:∃m:Nat,u=(m:Int)/\m<l.length:=by
   simp only[Xm,Xr,XT] at g;rcases g with rfl|rfl|rfl|rfl|rfl
   .exact#[i,rfl,hi]
   .exact#[j,rfl,α]
   .exact#[x,rfl,J]
   .exact#[y,rfl,I]
   .exact#[z,rfl,hz]
  obtain⟨m,rfl,V⟩:=this;exact at' _ m rfl V
 .rintro us ⟨zs,hz,rfl⟩;refine#[zs,_,none,none,hz,rfl,rfl,#[by rw[abz];lia,λm _=>?_,λs r=>by lia,?_],λv p=>?_]
  .rw[Xq,abj];split<;>rfl
  .exact EW _
  .rw[(List.mem_replicate.mp p).2];unfold Sm;exact aaH _
 .rintro us _ t u U' D ⟨zs,o,G,q,hz,rfl,rfl,ia,sm⟩;have L:zs.length=5:=hz.len;have c:=(YD (z:=u)).mp D;have O:t<5:=(Xy.mp c.1).1
  have T:u.1=(([i,j,x,y,z].getD t 0:Nat):Int):=by
   have h1:=c.1;have:t=0\/t=1\/t=2\/t=3\/t=4:=by lia
   rcases this with rfl|rfl|rfl|rfl|rfl<;>exact(XJ h1).symm
  have ev:u.2=zs.getD t 0:=(getD_at c.2).symm
  have il:[i,j,x,y,z].getD t 0<l.length:=k _ (by
   rw[Xq,Xz (show t<[i,j,x,y,z].length from O)]
   exact Ze _)
  have al:=ia.len;refine Ad 2 (a:=u.2) rfl (ae (a:=u.1) 3) (ae 4) .b .b ?_;refine aM #[zs,_,_,_,hz,rfl,rfl,?_,λv p=>?_]
  .rw[T,ev,Ö];exact ia.step σ O k
  .rcases aco p with h|h
   .exact sm v h
   .rw[h];exact hz.sm _ (Xs c.2)
 .rintro us _ U' ⟨zs,o,G,q,hz,rfl,rfl,ia,sm⟩;have L:zs.length=5:=hz.len;have R:([(i:Int),j,x,y,z].zip zs).length=5:=by rw[aah,L];rfl
  rw[R] at ia;refine dD 2 rfl ?_;refine aw .C #[_,#[ia.len,?_,?_,sm],rfl]
  .obtain⟨v,p,W⟩:=hz.nz;obtain⟨s,r⟩:=YK.mp p;have s5:=(Xy.mp r).1;have:=ia.done s .b;rw[getD_at r] at this;refine#[v,?_,W];rw[<-this];refine Q.getD_mem (d:=0) ?_;rw[ia.len]
   exact k _ (by
    rw[Xq,Xz (show s<[i,j,x,y,z].length by show s<5;lia)]
    exact Ze _)
  .rw[ia.sum];exact hz.eq
def lf:List Int->Int->Int
 |[],x=>x
 |p::ps,x=>lf ps (aX x p).2
theorem CB(p:Int):∀(ps:List Int) (x:Int),lf (ps++[p]) x=(aX (lf ps x) p).2
 |[],x=>rfl
 |q::ps,x=>CB p ps _
def BW(h:ps[i]?=À p):lf (ps.take (i+1)) x=(aX (lf (ps.take i) x) p).2:=by
 rw[YZ,h];exact CB p _ x
def Kg{k:Int}(a:2<=d)(f:0<k):0<(aX k d).2/\(aX k d).2<=k:=by
 obtain⟨h1,h2,b⟩:=e_ a (show k≠0 by lia);have hp:(0:Int)<d^(aX k d).1.toNat:=Yx .b;generalize (aX k d).2=l at *;generalize d^(aX k d).1.toNat=t at *
 have c:0<l:=by
  apply Xt;intro e;have:l*t<=0:=aak .b .b;lia
 have:l*1<=l*t:=XB .b .b;lia
theorem oX:∀(ps:List Int) (x:Int),(∀p,p∈ps->2<=p)->0<x->0<lf ps x/\lf ps x<=x
 |[],x,_,h=>#[h,Yv x]
 |p::ps,x,hp,h=>by
  have a:=Kg (hp p (XA ..)) h;have b:=oX ps (aX x p).2 (λq c=>hp q (Xx _ c)) a.1;exact#[b.1,acw b.2 a.2]
noncomputable def SP:List Int:=[2,3,5,7,11,13]
def mr(k:Int):Bool:=AM k&&decide (rt (lf SP k.natAbs)*rt (lf SP k.natAbs)=lf SP k.natAbs)
def yR:∀p,p∈SP->2<=p:=.a
def Fd:∀p,p∈SP->2<=p/\p<100:=.a
def KR{k:Int}(h:AM k=Á)(i:Nat):0<lf (SP.take i) k.natAbs/\lf (SP.take i) k.natAbs<1073741824:=by
 unfold AM at h;have h':k≠0/\k.natAbs<1073741824:=by simpa using h
 have:=oX (SP.take i) (k.natAbs:Int) (λp hp=>yR p (aa0 hp)) .b;lia
def AG(g:xI K mg "SMALL_PLACES" [0,2,3,5,7,11,13])(o:⇑WM)(n:⇑WA)
  (d:⇑WC) (x:Int):⇑Body tU "is_small" lY f 2 [.val Â x] (RT Á (mr x)):=by
 intro k A outer s H E b;have l:∀i:Int,(if i<0 then -i else i)=(i.natAbs:Int):=λi=>by split<;>omega
 refine aH (lF (hW (aI o (b.mono .a) rfl .A É))) (λc=>?_) (λc=>?_)
 .have e:mr x=Â:=by
   unfold mr;rw[show AM x=Â by simpa using c];rfl
  rw[e];exact aw jX rfl
 have hi:AM x=Á:=by simpa using c
 refine aq 1 iC.nd (iw rfl B.abs .A) ?_;rw[l];refine pX (as:=SP) (λi U=>∃r,U=[À (.val Â x),À (.val Á (lf (SP.take i) x.natAbs)),r]) (cS 2 iC.nd) (HL (BJ (u4 rfl g) af .a .a)) #[none,rfl] ?_ ?_
 .rintro i a U' ha ⟨r,rfl⟩;have hz:=KR hi i;have hp:=Fd a (Xs ha);refine aq 1 iC.nd (bO (aB n (b.mono .a) rfl .B .C #[.e,hp.1,Sm.le (m:=62) (by unfold Sm;omega) .a])) ?_;refine aM ?_;dsimp only;rw[BW ha];exact#[_,rfl]
 .rintro U' ⟨r,rfl⟩;have hz:=KR hi 6;refine aw (RJ (aI d (b.mono .a) rfl .B (Sm.le (m:=62) (by unfold Sm;show(lf (SP.take 6) x.natAbs).natAbs<_;omega) .a)) λ_ _ _ _ h=>nomatch h) ?_;show Bd.val _ _=Bd.val _ _;congr 1;unfold mr;rw[hi,aa2];show(!(DZ (lf SP x.natAbs)).isNone)=_;have j:0<lf SP x.natAbs:=hz.1;unfold DZ;rw[Xl .e];split
  .rename_i h;rw[XY h];rfl
  .rename_i h;rw[X1 h];rfl
open Q (Fr)
def qB(d:⇑aJ 132 "zero_of_five_among" ["numbers"] (gE K J8 Á ZF))(l:List Int)(hp:J8 l):⇑Body fe "zero_of_free" dw f 139 [.val Â l] (uo Á (ZF l)):=by
 intro b A outer e H E c;have g:=hp.fv.l5;refine aH (ax az (br rfl B.len .A) af) (λa=>?_) (λ_=>?_)
 .exfalso;have:=XD a;lia
 refine aH (ax az (br rfl B.len .A) af) (λa=>?_) (λ_=>?_)
 .exfalso;have:=XD a;lia
 refine mz (KA (ax az (br rfl B.len .A) af) (λa=>?_) λ_=>c_ d (c.mono .a) rfl .A hp) λz hz=>#[_,hz,rfl];exfalso;have:=XD a;lia
def Fz{a:Int}(hp:2<=p)(ha:a≠0):(aX a p).2≠0:=λz=>by
 obtain⟨_,_,b⟩:=e_ hp ha;exact b (by rw[z];exact abf _)
theorem vx:∀(ps:List Int) {a b:Int},(∀p∈ps,aT p=Á)->a≠0->b≠0->lf ps (a*b)=lf ps a*lf ps b
 |[],a,b,_,_,_=>rfl
 |p::ps,a,b,h,ha,c=>by
  have hp:=h p (XA ..);have p2:=au hp;show lf ps (aX (a*b) p).2=lf ps (aX a p).2*lf ps (aX b p).2;rw[Bz hp ha c];exact vx ps (λq d=>h q (Xx _ d)) (Fz p2 ha) (Fz p2 c)
def xc:∀p∈SP,aT p=Á:=ip
def OY:lf SP 30030=1:=by
 have b:∀(a p:Int),2<=p->¬p∣a->(aX (a*p) p).2=a:=λa p hp c=>by
  have:=kR (v:=1) hp c;rw[XS,Yc,Yp] at this;rw[this]
 show(aX (aX (aX (aX (aX (aX 30030 2).2 3).2 5).2 7).2 11).2 13).2=1;rw[show(30030:Int)=15015*2 from rfl,b 15015 2 .a .a,show(15015:Int)=5005*3 from rfl,b 5005 3 .a .a,show(5005:Int)=1001*5 from rfl,b 1001 5 .a .a,show(1001:Int)=143*7 from rfl,b 143 7 .a .a,show(143:Int)=13*11 from rfl,b 13 11 .a .a];exact b 1 13 .a .a
def NJ{g:Int}(h:g∈bH 6):lf SP g.natAbs=1:=by
 have n:=bg h;obtain⟨c,d⟩:(g.natAbs:Int)∣30030:=ac6.mpr (jA h)
 have c0:0<c:=by
  apply Xt;intro z;have:=Yk (a:=(g.natAbs:Int)) (b:=c) .b .b;lia
 have e:=OY;rw[d,vx SP xc .b .b] at e;have f:=(oX SP (g.natAbs:Int) yR .b).1;have p2:=(oX SP c yR c0).1;exact Int.eq_one_of_mul_eq_one_right .b e
def xY.small{a:Int}(h:xY a):mr a=Á:=by
 obtain⟨_,e,c,b,_,g,_⟩:=h.ok;have f:=h.1;unfold mr AM;rw[XY #[g,f],aa2];have n:=bg c
 have d:(a.natAbs:Int)=((fF a).natAbs:Int)*(sF a*sF a):=by
  conv=>lhs;rw[e,XZ,YT]
  congr 1;have:=Yq b b;lia
 have i:lf SP a.natAbs=lf SP (sF a)*lf SP (sF a):=by
  rw[d,vx SP xc .b (Xn .b .b),NJ c,Yp,vx SP xc .b .b]
 rw[i];have p:=(oX SP (sF a) yR b).1;generalize lf SP (sF a)=r at *;have:r=rt (r*r):=kX .b (Yv _) (by grind);rw[<-this];exact XY rfl
structure MV(PF:List Int->Prop)(l:List Int):Prop where
 fb:Fn l
 len:l.length<=9
 sm:∀a∈l,xY a
 pf:jz l=none->PF (l.map fF)
def ZO(l:List Int)(z:Option (List Int)):Prop:=(jz l≠none/\z=none)\/(jz l=none/\∃zs,z=À zs/\ZW l zs)
def qx{PF:List Int->Prop}(TU:⇑WU)(n:⇑aJ 9 "first_barring" ["numbers"] (dg K Fn Á jz))(r:⇑aJ 140 "zero_of_free" ["numbers"] (gE K PF Á ZF))(t:⇑aJ 3 "over" ["u","v"] (cO K Nm Á Qp))(D:⇑aJ 4 "made_whole" ["x"] (dg K OW Á P1))(l:List Int)(hp:MV PF l):
  Body P w K mg base c8 "zero_of_small" cg f 140 [.val Â l] (uo Á (ZO l)):=by
 intro J A outer y H E b;obtain⟨o,N,g,pf⟩:=hp;cases c:jz l with
 |some p =>
  refine aH (AQ (x:=À p) (M:=Int) (cP (aI n (b.mono .a) rfl .A o) c) λ_ _ _ _ h=>nomatch h) (λ_=>?_) (λj=>nomatch j);exact aw (lA (M:=List Int)) #[_,.inl #[(by rw[c];exact λz=>nomatch z),rfl],rfl]
 |none =>
  refine aH (AQ (x:=none) (M:=Int) (cP (aI n (b.mono .a) rfl .A o) c) λ_ _ _ _ h=>nomatch h) (λj=>nomatch j) (λ_=>?_);refine wH 1 fI.nd (b':=Á) (f:=λk:Int=>ur (k,1)) ["k"] [] (bP (ag cg) c8 rfl rfl .f) (bp .A) (bu 0) (λC _ H fp=>c9 0 ["k"]) a7 (λi a ha C _ H fp=>aI TU (b.mono .a) rfl (bR .A af) ?_) .b ?_
  .have d:=Xs ha;obtain⟨_,_,_,_,_,G,O⟩:=(g a d).ok;exact Ay G (by have:=(g a d).1;exact Sm.le (m:=30) (by unfold Sm;lia) .a) O
  refine fh 2 fI.nd (c_ r (b.mono .a) rfl (cP (a':=l.map fF) (eC (b':=Á) (f:=λu:Int×(Int×Int)=>u.1) ["one"] [] (bP (ag cg) c8 rfl rfl .f) (bp .B) (bu 0) (λC _ H fp=>c9 0 ["one"]) a7 (λi u q C _ H fp=>bt .A) (by rw[Xv];lia)) (by rw[aaS];rfl)) (pf c)) λz hz=>?_;have I:=hz.len;rw[Xv] at I;obtain⟨F,α⟩:=Pz N g hz;refine aw (jy (aI D (b.mono .a) rfl (cP (a':=xm l z) (eC (b':=Á) (f:=λu:Int×(Int×(Int×Int))=>Qp (u.1,1) u.2.2) ["x","one"] [] (bP (ag cg) c8 rfl rfl .f) (wO rfl B.zip .C .B) (xw 0 1) (λC _ H fp=>zZ 0 1 ["x","one"]) o4 (λi u q C _ H fp=>aB t (b.mono .a) rfl (bR .A af) (bO .B) ?_) (by rw[aah,Xv];lia)) rfl) F)) #[_,.inr #[c,_,rfl,α],rfl];have d:=Xs q;obtain⟨m1,m2⟩:=Dp d;obtain⟨a,ha,s⟩:=XF.mp m2;obtain⟨e,_,_,y,L,_⟩:=(g a ha).ok;have v:u.2=(fF a,(sF a,1)):=by rw[<-s,e]
  rw[v];exact#[rfl,rfl,by show sF a≠0;lia,(hz.sm _ m1).le .a,L.le .a]
def rQ(b:⇑aJ 3 "is_small" ["k"] (dg K (fun(_:Int)=>True) Á mr))(r:List Int)(d:r.length<=1000)(ha:r.all mr=Á):⇑Body hZ "refuse_great" e9 f 3 [.val Â r] QO:=by
 intro c A outer s H E e;refine aH (lF (hW (La rfl rfl B.all (eC (f:=mr) ["k"] [] (bP (ag e9) hZ rfl rfl .f) (bp .A) (bu 0) (λC s H fp=>c9 0 ["k"]) a7 (λi u g C s H fp=>aI b (e.mono .a) rfl .A É) d)))) (λa=>?_) (λ_=>aM É);rw[List.all_map,show r.all (id∘mr)=r.all mr from rfl,ha] at a;cases a
abbrev W8(P w K mg base):=aJ P w K mg base 4 "refuse_great" ["numbers"] (dg K (fun(ns:List Int)=>ns.length<=1000/\ns.all mr=Á) Á sY)
def DQ{PF:List Int->Prop}(g:⇑WT)(c:⇑W8)(h:⇑aJ 141 "zero_of_small" ["numbers"] (gE K (MV PF) Á ZO))(l:List Int)(e:cG l=Á)(hp:MV PF l):⇑Body uG "zero_of" pB f 141 [.val Â l] (uo Á (ZO l)):=by
 intro d A outer i H E b;refine wu (aI g (b.mono .a) rfl .A e) ?_;refine wu (aI c (b.mono .a) rfl .A #[by have:=hp.len;lia,X_.mpr λa ha=>(hp.sm a ha).small]) ?_;exact mz (c_ h (b.mono .a) rfl .A hp) λz hz=>#[_,hz,rfl]
def yz(g:5<=l.length)(h:l.length<=8)(c:∀a∈l,xY a):cG l=Á/\MV J8 l:=by
 have row:cG l=Á:=by
  unfold cG;rw[XY .b,aa2]
  exact X_.mpr λx e=>by
   have:=(c x e).small;unfold mr at this;exact(YQ.mp this).1
 refine#[row,#[row,FX .b c,.b],.b,c,λd=>?_];rw[<-Ji c] at d;have hz:=(wz d).1;rw[bU] at hz;refine#[#[by rw[Xv];exact g,by rw[Xv];lia,hz.2,hz.1],λa ha=>?_];obtain⟨b,f,rfl⟩:=XF.mp ha;exact(c b f).ok.2.2.1
noncomputable def yh(xs:List Int)(k:Int):Int:=if k<(xs.length:Int) then xs.getD k.toNat 0 else 0
def uu(xs:List Int)(k:Int)(g:0<=k):⇑Body lJ "_law_cell_at" iK f kk [.val Â xs,.val Â k] (RT Á (yh xs k)):=by
 intro c A outer s H E h;refine aH (ax fY .B (br rfl B.len .A)) (λb=>?_) (λb=>?_)
 .have a:k<(xs.length:Int):=by simpa using b
  have e:yh xs k=xs.getD k.toNat 0:=Xo a;rw[e];exact aw (iM (aZ .A .B (lX (d:=0) g a))) rfl
 .have a:¬k<(xs.length:Int):=by simpa using b
  have e:yh xs k=0:=Xl a;rw[e];exact aw af rfl
noncomputable def S5(c k j:Int):Int:=(((c.natAbs:Int).fmod 2147483647+97*k+131*j+13)*(16807+j*j+k)).fmod 2147483647
noncomputable def QM(c k:Int):Nat->Int
 |0=>0
 |i+1=>QM c k i*2147483659+(S5 c k i*48271).fmod 2147483647
noncomputable def OB(c k:Int):Int:=if 10^18<=(c.natAbs:Int) then c else QM c k 9
def Dx(c k:Int)(t:0<=k)(h1:k<=100):⇑Body u6 "_law_big" pF f kk [.val Â c,.val Â k] (RT Á (OB c k)):=by
 intro j A outer s H E p;have h:∀i:Int,(if i<0 then -i else i)=(i.natAbs:Int):=λi=>by split<;>lia
 refine aH (ax Gs (iw rfl B.abs .A) (Ph af af S_)) (λd=>?_) (λd=>?_)
 .rw[h] at d;have e:OB c k=c:=Xo ↑d;rw[e];exact aw (iM .A) rfl
 rw[h] at d;have e:OB c k=QM c k 9:=Xl ↑d;rw[e];refine aq 2 fS.nd af ?_;refine eJ (λi U=>∃r g,U=[À (.val Â c),À (.val Â k),À (.val Á (QM c k i)),r,g]) rfl B.range (cS 3 fS.nd) af .a .a #[none,none,rfl] ?_ ?_
 .rintro i U' hi ⟨r,g,rfl⟩;have l:i<9:=hi;have q:=dm (a:=(c.natAbs:Int)) (b:=2147483647) .a;have n:(i:Int)*(i:Int)<=9*9:=Yj .b .b .b .a;have m:(0:Int)<=(i:Int)*(i:Int):=Zi .b .b;refine aq 4 fS.nd (bX (bX (bX (aS (iw rfl B.abs .A) af .a) (aF af .B (mulL .a .a))) (aF af .D (mulL .a .a))) af) ?_;rw[h];refine aq 4 fS.nd (aS (aF (ae 4) (bX (bX af (aF .D .D (mulL .b .b))) .B) (mulL .b .b)) af .a) ?_;have o:=dm (a:=((c.natAbs:Int).fmod 2147483647+97*k+131*(i:Int)+13)*(16807+(i:Int)*(i:Int)+k)) (b:=2147483647) .a;refine aq 2 fS.nd (bX (aF .C af (mulR .a .a)) (aS (aF (ae 4) af (mulR .a .a)) af .a)) ?_;exact aM #[_,_,rfl]
 .rintro U' ⟨r,g,rfl⟩;exact aw .C rfl
def Qd(a b:Int):Int:=((Ë a b:Nat):Int)
def vT(a b:Int):⇑Body mY "_law_common" jC f k [.val Â a,.val Â b] (RT Á (Qd a b)):=by
 intro g A outer s H E h;refine cH (ι:=Bool×Bool×Int×Int) (λi U=>∃r,U=[À (.val i.1 i.2.2.1),À (.val i.2.1 i.2.2.2),r]/\Ë i.2.2.1 i.2.2.2=Ë a b) (λi=>i.2.2.2.natAbs) (Â,Â,a,b) #[none,rfl,rfl] ?_;rintro⟨b1,b2,x,y⟩ U' ⟨r,rfl,c⟩;refine#[_,ax gA .B af,λe=>?_,λe=>?_]
 .have d:y≠0:=by simpa using e
  refine aq 2 fW.nd (aS .A .B d) ?_;refine aq 0 fW.nd .B ?_;refine aq 1 fW.nd .C ?_;exact aM #[(b2,Á,y,x.fmod y),#[_,rfl,(mK x y).trans c],BD x y d]
 .have d:y=0:=by simpa using e
  refine aw (iw rfl B.abs .A) ?_;dsimp only at c ⊢;rw[d,abc] at c;unfold Qd;rw[<-c];show Bd.val _ _=Bd.val _ _;congr 1;split<;>lia
noncomputable def zp(zero:List Int):Nat->Int
 |0=>0
 |i+1=>Qd (zp zero i) (zero.getD i 0)
noncomputable def zt(row zero:List Int):Nat->Int
 |0=>0
 |i+1=>zt row zero i+row.getD i 0*zero.getD i 0*zero.getD i 0
noncomputable def Pd(row zero:List Int):Bool:=decide (zp zero row.length=1)&&decide (zt row zero row.length=0)
def Rb(row zero:List Int):Prop:=zero.length=row.length/\row.length<=100/\(∀x,x∈row->Sm 7600 x)/\∀x,x∈zero->Sm 7600 x
def getD_mem(h:i<xs.length):xs.getD i 0∈xs:=by
 rw[Xq,Xz h];exact Ze h
def Oq(h:i<xs.length):zd xs (i:Int)=À (xs.getD i 0):=lX (d:=0) .b .b
abbrev W9(P w K mg base):=aJ P w K mg base 1 "_law_common" ["_law_a","_law_b"] (cO K (λ_ _=>True) Á Qd)
def t7(j:⇑W9)(row zero:List Int)(hp:Rb row zero):⇑Body lK "_law_is_zero" iL f 1 [.val Â row,.val Â zero] (RT Á (Pd row zero)):=by
 intro g A outer s H E h;obtain⟨l,k,c,d⟩:=hp;refine aH (TW.t (u3 (lF (hW (FG rfl B.isinstance rfl B.list .B))) λ_=>(oB (ax gA (br rfl B.len .B) (br rfl B.len .A))))) (λa=>?_) (λa=>?_)
 .exfalso;simp at a;lia
 refine aq 2 cK.nd af ?_;refine aq 3 cK.nd af ?_;refine eJ (λi U=>∃r,U=[À (.val Â row),À (.val Â zero),À (.val Á (zp zero i)),À (.val Á (zt row zero i)),r]) rfl B.range (cS 4 cK.nd) (br rfl B.len .A) .b .b #[none,rfl] ?_ ?_
 .rintro i U' hi ⟨r,rfl⟩;have h1:i<row.length:=by lia
  have h2:i<zero.length:=by lia
  have e:=c _ (getD_mem h1);have b:=d _ (getD_mem h2);refine aH (TW.t (u3 (lF (hW (Az rfl B.isinstance rfl B.int (aZ .B (ae 4) (Oq h2))))) λ_=>(oB (hW (zH rfl B.isinstance rfl B.bool (aZ .B (ae 4) (Oq h2))))))) (λa=>?_) (λa=>?_)
  .cases a
  refine aq 2 cK.nd (aB j (h.mono .a) rfl .C (aZ .B (ae 4) (Oq h2)) É) ?_;refine aq 3 cK.nd (bX .D (aF (aF (aZ .A (ae 4) (Oq h1)) (aZ .B (ae 4) (Oq h2)) (e.ok b)) (aZ .B (ae 4) (Oq h2)) ((e.mul b).ok b))) ?_;exact aM #[_,rfl]
 .rintro U' ⟨r,rfl⟩;exact aw (lB (eN az .C af) λ_=>(iU (eN az .D af))) rfl
def xX(x e m:Int)(he:0<=e)(u:2<=m)(p:m<2^62):⇑Body qg "_law_power" kf f kk [.val Â x,.val Â e,.val Â m] (RT Á (zA x e m)):=by
 intro r A outer s H E z;have d:1<=m:=by lia
 refine aq 3 cz.nd (cP af (show(1:Int)=1%m from (ZY .a .b).symm)) ?_;refine aq 0 cz.nd (aS .A .C .b) ?_;rw[bD d]
 refine cH (ι:=Bool×Int×Int×Int) (λi U=>U=[À (.val Á i.2.2.2),À (.val i.1 i.2.1),À (.val Â m),À (.val Á i.2.2.1)]/\0<=i.2.1/\i.2.2.1*i.2.2.2^i.2.1.toNat%m=x^e.toNat%m/\0<=i.2.2.1/\i.2.2.1<m/\0<=i.2.2.2/\i.2.2.2<m) (λi=>i.2.1.toNat) (Â,e,1%m,x%m)
  #[rfl,he,by dsimp only;rw[YV,aam _ (ZD m),je,<-YV,Yp],X2 _ .b,XU _ .b,X2 _ .b,XU _ .b] ?_
 rintro⟨y,n,a,q⟩ U' ⟨rfl,t,hi,l,h,v,q1⟩;dsimp only at *;refine#[_,ax eW .B af,λb=>?_,λb=>?_]
 .have k:0<n:=by simpa using b
  have c:=tM t;have j:=X2 (q*q) (show m≠0 by lia);have o:=XU (q*q) (show 0<m by lia);refine aH (ax az (aS .B af .a) af) (λb=>?_) (λb=>?_)
  .have g:n.toNat%2=1:=by
    have:n.fmod 2=1:=by simpa using b
    rw[bD .a] at this;lia
   refine aq 3 cz.nd (aS (aF .D .A (mulL .b .b)) .C .b) (aM ?_);refine aq 0 cz.nd (aS (aF .A .A (mulL .b .b)) .C .b) ?_;refine aq 1 cz.nd (a9 .B af u_) ?_;rw[bD d,bD d];refine aM #[(Á,n.fdiv 2,a*q%m,q*q%m),#[rfl,c.2,?_,X2 _ .b,XU _ .b,j,o],?_]
   .dsimp only;rw[c.1,BX g,hi]
   .dsimp only;lia
  .have g:n.toNat%2=0:=by
    have:¬n.fmod 2=1:=by simpa using b
    rw[bD .a] at this;lia
   refine aq 0 cz.nd (aS (aF .A .A (mulL .b .b)) .C .b) ?_;refine aq 1 cz.nd (a9 .B af u_) ?_;rw[bD d];refine aM #[(Á,n.fdiv 2,a,q*q%m),#[rfl,c.2,?_,l,h,j,o],?_]
   .dsimp only;rw[c.1,yT g,hi]
   .dsimp only;lia
 .have hz:n.toNat=0:=by
   have:¬0<n:=by simpa using b
   lia
  rw[hz,Yc,X0,ZY l h] at hi;refine aw .D ?_;show Bd.val _ _=Bd.val _ _;unfold zA;rw[<-hi]
def zI(n p:Int)(h:n≠0)(h2:2<=p)(q:p<2^31):⇑Body rW "_law_less" lN f kk [.val Â n,.val Â p] (RT Á (xH n p)):=by
 intro o A outer s H E r;have l:p*p≠0:=Xn .b .b;have sp:Sm 31 p:=by unfold Sm;lia
 refine cH (ι:=Bool×Nat×Int) (λi U=>U=[À (.val i.1 i.2.2),À (.val Â p)]/\i.2.2≠0/\i.2.2.natAbs<=i.2.1/\lsN p i.2.1 i.2.2=xH n p) (λi=>i.2.2.natAbs) (Â,n.natAbs,n) #[rfl,h,Xu _,rfl] ?_;rintro⟨b,k,x⟩ U' ⟨rfl,c,g,e⟩;have c:x≠0:=c;have g:x.natAbs<=k:=g;have e:lsN p k x=xH n p:=e;refine#[_,ax az (aS .A (aF .B .B (sp.ok sp)) l) af,λd=>?_,λd=>?_]
 .have a:x.fmod (p*p)=0:=XD d;rw[Yz _ (Zi .b .b)] at a;obtain⟨m,q1,_⟩:=E2 h2 c a;obtain⟨j,rfl⟩:∃j,k=j+1:=#[k-1,.b];rw[Gj a] at e;refine aq 0 p5.nd (a9 .A (aF .B .B (sp.ok sp)) (Sm.div (sp.mul sp) l)) ?_;rw[Yi _ (Zi .b .b)];exact aM #[(Á,j,x/(p*p)),#[rfl,m,.d,e],q1]
 .have a:¬x.fmod (p*p)=0:=X9 d;rw[Yz _ (Zi .b .b)] at a;rw[yX a] at e;rw[<-e];cases b with
  |true=>exact aw .A rfl
  |false=>exact aw (iM (b':=Á) .A) rfl
def Q0(g:List Int)(p:Int):Bool:=!Ov p g
structure R6(g:List Int)(p:Int):Prop where
 pr:aT p=Á
 ne:p≠2
 lt:p<2^31
 un:∀a∈g,¬p∣a
 sz:∀a∈g,Sm 62 a
abbrev W_(P w K mg base):=aJ P w K mg base 1 "_law_power" ["_law_k","_law_often","_law_p"] (uJ K (λ_ e m=>0<=e/\2<=m/\m<2^62) Á zA)
def xQ(m:⇑W_)(g:List Int)(p:Int)(h:R6 g p):⇑Body p6 "_law_alone" kE f 1 [.val Â g,.val Â p] (RT Á (Q0 g p)):=by
 intro l A outer s H E t;obtain⟨hp,h2,o,un,sz⟩:=h;have p2:=au hp
 match g,un,sz with
 |[],_,_ =>
  refine aH (ax fY (br rfl B.len .A) af) (λd=>?_) (λd=>absurd (X9 d) .c);exact aw jX rfl
 |[_],_,_ =>
  refine aH (ax fY (br rfl B.len .A) af) (λd=>?_) (λd=>absurd (X9 d) .c);exact aw jX rfl
 |[a,b],un,sz =>
  have ha:=un a .c;have k:=un b .c;have n:=sz a .c;have u:=sz b .c;refine aH (ax fY (br rfl B.len .A) af) (λd=>absurd (XD d) .c) (λ_=>?_);refine aH (ax eW (br rfl B.len .A) af) (λd=>absurd (XD d) .c) (λ_=>?_);have e:(p-1).fdiv 2=(p-1)/2:=Yi _ .a;refine aw (eN az (dJ m (t.mono .a) rfl (eO af (aF (aZ (a:=a) .A af rfl) (aZ (a:=b) .A af rfl) (n.ok u))) (a9 (eO .B af) af u_) .B #[by rw[e];lia,p2,.b]) (eO .B af)) ?_;show Bd.val _ _=Bd.val _ _;congr 1
  have j:¬p∣-a*b:=λz=>by
   rcases euclid hp z with z|z
   .exact ha (YL.mp z)
   .exact k z
  show decide (zA (0-a*b) ((p-1).fdiv 2) p=p-1)=!decide (bh (-a*b) p=1);rw[e,show 0-a*b=-a*b by grind]
  have i:zA (-a*b) ((p-1)/2) p=p-1↔bh (-a*b) p=-1:=by
   rw[fU hp h2 j];unfold zA;generalize (-a*b)^((p-1)/2).toNat=q;constructor
   .intro z;refine XM ?_;rw[<-ace,z,show p-1+1=p by lia,Int.emod_self]
   .rintro⟨c,d⟩;rw[show q=(p-1)+p*(c-1) by grind,ab2];exact ZY .b .b
  rcases bx j with z|z
  .rw[X1 (λw=>by rw[i,z] at w;exact absurd w .a),z];rfl
  .rw[XY (i.mpr z),z];rfl
 |a::b::c::r,_,_ =>
  have o:((a::b::c::r).length:Int)=(r.length:Int)+3:=by simp only[Yl];lia
  refine aH (ax fY (br rfl B.len .A) af) (λd=>?_) (λ_=>?_)
  .have:=XD d;lia
  refine aH (ax eW (br rfl B.len .A) af) (λ_=>?_) (λd=>?_)
  .exact aw jX rfl
  .have:=X9 d;lia
open Classical in
def M6(l:List Int):Bool:=!decide (PZ l 2 16)
open Classical in
def Bo:M6 l=Â↔PZ l 2 16:=by unfold M6;rw[Bool.not_eq_false',YR]
def E5{c:Bool}(h:c=Á↔PZ l 2 16):(!c)=M6 l:=by
 cases c with
 |true=>exact(Bo.mpr (h.mp rfl)).symm
 |false =>
  cases q:M6 l with
  |true=>rfl
  |false=>exact nomatch h.mpr (Bo.mp q)
def Q5(l:List Int)(d:Db Bool):Prop:=d.ks.Nodup/\∀k,k∈d.ks↔NQ 16 2 l k
noncomputable def yd(a:Int)(k:Int×Bool)(x:Int):Int×Bool:=((k.1+a*x*x).fmod 16,k.2 || decide (x.fmod 2=1))
def C3(a:Int)(ks:List (Int×Bool))(j m:Nat)(d:Db Bool):Prop:=d.ks.Nodup/\∀k,k∈d.ks↔(∃i key,i<j/\ks[i]?=À key/\∃x:Nat,x<4/\k=yd a key x)\/∃key,ks[j]?=À key/\∃x:Nat,x<m/\k=yd a key x
def C3.len{a:Int}{ks:List (Int×Bool)}{m:Nat}{d:Db Bool}(h:C3 a ks j m d):d.l.length<=40:=by
 have:=Fb (N:=16) h.1 λk b=>by
  have c:∀key x,0<=(yd a key x).1/\(yd a key x).1<16:=λkey x=>dm .a;rcases(h.2 k).mp b with⟨i,key,_,_,x,_,rfl⟩|⟨key,_,x,_,rfl⟩<;>exact c _ _
 rw[Db.FZ] at this;lia
def C3.put{a:Int}{ks:List (Int×Bool)}{j m:Nat}{d:Db Bool}{key:Int×Bool}{c:Bool}(g:ks[j]?=À key)(h:C3 a ks j m d):C3 a ks j (m+1) (d.put (yd a key m) c):=by
 refine#[Db.Nw h.1,λk=>?_];rw[Db.I_,h.2];constructor
 .rintro(rfl|h1|⟨f,b,x,i,rfl⟩)
  .exact .inr #[key,g,m,ZJ m,rfl]
  .exact .inl h1
  .exact .inr #[f,b,x,.b,rfl]
 .rintro(h1|⟨f,b,x,i,rfl⟩)
  .exact .inr (.inl h1)
  .rw[g] at b;cases b;by_cases e:x=m
   .subst e;exact .inl rfl
   .exact .inr (.inr #[key,g,x,.b,rfl])
def C3.next{a:Int}{ks:List (Int×Bool)}{d:Db Bool}{key:Int×Bool}(m:ks[j]?=À key)(h:C3 a ks j 4 d):C3 a ks (j+1) 0 d:=by
 refine#[h.1,λk=>?_];rw[h.2];constructor
 .rintro(⟨i,b,h1,h2,g⟩|⟨b,f,x,c,e⟩)
  .exact .inl #[i,b,.b,h2,g]
  .exact .inl #[j,b,.b,f,x,.b,e]
 .rintro(⟨i,b,h1,h2,x,c,e⟩|⟨b,_,x,c,_⟩)
  .by_cases l:i=j
   .subst l;exact .inr #[b,h2,x,.b,e]
   .exact .inl #[i,b,.b,h2,x,c,e]
  .exact absurd c (ZA x)
def C3.done{a:Int}{b d:Db Bool}(j:Q5 l b)(h:C3 a b.ks b.ks.length 0 d):Q5 (l++[a]) d:=by
 refine#[h.1,λk=>?_];rw[h.2,E_]
 have g:∀key (x:Int),yd a key x=((key.1+a*x*x)%16,key.2 || !decide (x%2=0)):=λkey x=>by
  unfold yd;rw[bD .a,bD .a];congr 2;by_cases z:x%2=1
  .rw[z];rfl
  .rw[show x%2=0 by lia];rfl
 constructor
 .rintro(⟨i,key,h1,h2,x,f,e⟩|⟨key,_,x,f,_⟩)
  .exact#[key,(j.2 key).mp (Xs h2),x,.b,.b,by rw[e,g]]
  .exact absurd f (ZA x)
 .rintro⟨key,m,x,c,n,e⟩;obtain⟨i,hi⟩:=YK.mp ((j.2 key).mpr m);refine .inl #[i,key,(Xy.mp hi).1,hi,x.toNat,.b,?_];rw[e,g,aaz c]
def pe(l:List Int)(α:∀a∈l,Sm 62 a):⇑Body jc "_law_by_sixteen" fN f kk [.val Â l] (RT Á (M6 l)):=by
 intro L A outer s H E G;refine aq 1 ba.nd (Pu (L9 (k:=(0,Â)) (c:=Á) (A4 G) (iM (b':=Á) (bR af jX)) jX)) ?_;refine pX (M:=Int) (as:=l) (λi U=>∃g b d F I q t h e,U=[À (.val g l),À (.val b d),F,I,q,t,h,e]/\Q5 (l.take i) d) (cS 2 ba.nd) (bp .A) #[_,_,Db.mk [((0,Â),Á)],none,none,none,none,none,none,rfl,YC.mpr #[.c,aat],λk=>?_] ?_ ?_
 .rw[abR,JC];show k∈[((0:Int),Â)]↔_;exact XX
 .rintro i a U' ha ⟨g,b,v,F,I,q,t,h,e,rfl,D⟩;have R:=α a (Xs ha);refine oV 3 ba.nd (Hr (β:=Bool)) ?_;refine IW (d:=v) (λj U=>∃g r u d q t h e,U=[À (.val g l),À (.val r v),À (.val u a),À (.dpo d),q,t,h,e]/\C3 a v.ks j 0 d) (zi 4 5 ba.nd) .B #[_,_,_,Db.mk [],_,_,_,_,rfl,aat,λk=>?_] ?_ ?_
  .constructor
   .intro z;cases z
   .rintro(⟨i,_,h1,_⟩|⟨_,_,x,h1,_⟩)
    .exact absurd h1 (ZA i)
    .exact absurd h1 (ZA x)
  .rintro j key U' p ⟨g,r,u,d,q,t,h,e,rfl,o⟩;refine eJ (n:=4) (λm U=>∃g r u C y d h e,U=[À (.val g l),À (.val r v),À (.val u a),À (.dpo d),À (.val C key.1),À (.val y key.2),h,e]/\C3 a v.ks j m d) rfl B.range (cS 6 ba.nd) af .a .a #[_,_,_,_,_,d,_,_,rfl,o] ?_ ?_
   .rintro m U' N ⟨g,r,u,C,y,d,h,e,rfl,o⟩;have O:(m:Int)<4:=by have:m<4:=N;lia
    have J:=o.len;refine aq 7 ba.nd (aS (bX (ae 4) (aF (aF .C (ae 6) (mulR .b .b)) (ae 6) (mulR .b .b))) af .a) ?_;refine JD 3 (k:=yd a key m) (c:=Á) (A4 G) rfl (iM (b':=Á) (bR (ae 7) (HE (ae 5) λ_=>(iU (eN az (aS (ae 6) af .a) af))))) jX .b ?_;exact aM #[_,_,_,_,_,_,_,_,rfl,o.put p]
   .rintro U' ⟨g,r,u,C,y,d,h,e,rfl,o⟩;exact aM #[_,_,_,d,_,_,_,_,rfl,o.next p]
  .rintro U' ⟨g,r,u,d,q,t,h,e,rfl,o⟩;refine LN 3 rfl ?_;refine aq 1 ba.nd .D ?_;refine aM #[_,_,d,_,_,_,_,_,_,rfl,?_];rw[YZ,ha];rw[<-Db.FZ] at o;exact C3.done D o
 .rintro U' ⟨g,b,d,F,I,q,t,h,e,rfl,o⟩;refine aw (eN (J3 (k:=(0,Á)) (A4 G)) (iM (b':=Á) (bR af jX)) .B) ?_;show Bd.val _ _=Bd.val _ _;rw[E5 (l:=l) (by rw[Db.LU,o.2,YU,LX .a .a])]
def OA(l:List Int)(p:Int):Bool:=!bZ l p
structure RC(l:List Int)(p:Int):Prop where
 len:1<=l.length/\l.length<=100
 nz:∀a∈l,a≠0/\Sm 62 a
 pl:p=0\/(aT p=Á/\p<2^31)
def Kc(h2:2<=p)(nz:∀a∈l,a≠0/\Sm 62 a):∀a∈l.map (λa=>xH a p),Sm 62 a:=λa ha=>by
 obtain⟨b,c,rfl⟩:=XF.mp ha;obtain⟨_,_,_,_,h⟩:=vV h2 (nz b c).1;exact Sm.of_le h (nz b c).2
abbrev Xa(P w K mg base):=aJ P w K mg base 1 "_law_by_sixteen" ["_law_row_here"] (dg K (fun(l:List Int)=>∀a∈l,Sm 62 a) Á M6)
def AF(L:⇑aJ 1 "_law_less" ["_law_number","_law_p"] (cO K (λn p=>n≠0/\2<=p/\p<2^31) Á xH))(y:⇑aJ 2 "_law_alone" ["_law_group","_law_p"] (cO K R6 Á Q0))(D:⇑Xa)(l:List Int)(p:Int)(h:RC l p):⇑Body gX "_law_bars" fO f 2 [.val Â l,.val Â p] (RT Á (OA l p)):=by
 intro J A outer s H E r;obtain⟨⟨O,S⟩,nz,pl⟩:=h;have c:∀a∈l,a≠0:=λa ha=>(nz a ha).1;refine aH (ax az .B af) (λg=>?_) (λg=>?_)
 .have k:p=0:=XD g;subst k;obtain⟨x,N⟩:=vJ l .b;obtain⟨b1,b2⟩:=wR l .b;refine aw (HE (eN eW (Aj rfl rfl B.min .A .b x N) af) λ_=>(iU (eN fY (zL rfl rfl B.max .A .b b1 b2) af))) ?_;show Bd.val _ _=Bd.val _ _;congr 1;have T:=c _ x;have R:=c _ b1;unfold OA bZ;rw[Xo rfl,Bool.not_and];congr 1
  .rw[Yy];simp;lia
  .rw[Yy];simp;lia
 have I:¬p=0:=X9 g;obtain⟨hp,o⟩:=pl.resolve_left I;have p2:=au hp;refine wH 2 iI.nd (b':=Á) (f:=λa:Int=>xH a p) ["_law_number"] [1] (bP (ag fO) gX rfl rfl .f) (bp .A) (bu 0) (λC s H fp=>c9 0 ["_law_number","_law_p"]) a7 (λi a ha C s H fp=>aB L (r.mono .a) rfl .A .B #[c a (Xs ha),p2,o]) .b ?_;have j:=Kc p2 nz;have d:=J_ p2 c;have u:=JF hp c;have v:(l.map λa=>xH a p).length=l.length:=Xv ..;unfold OA;rw[<-u];generalize (l.map λa=>xH a p)=m at *;refine aH (ax az .B af) (λg=>?_) (λg=>?_)
 .have k:p=2:=XD g;subst k;refine aw (aI D (r.mono .a) rfl .C j) ?_;show Bd.val _ _=Bd.val _ _;congr 1;exact(E5 (MF (λa ha=>λz=>d a ha (XM z)) .b).symm).symm
 have h2:p≠2:=X9 g;have q:∀a:Int,(!decide (a.fmod p=0))=!fX p a:=λa=>by unfold fX;rw[bD .b]
 refine jx (f:=λa:Int=>a) (p:=λa=>!fX p a) (b':=Á) 3 iI.nd ["_law_number"] [1] (bP (ag fO) gX rfl rfl .f) (bp .C) (bu 0) (λC s H fp=>c9 0 ["_law_number","_law_p"]) a7 (λi a hi C s H fp=>by rw[<-q];exact lS (ax gA (aS .A .B .b) af)) (λi a hi _ C s H fp=>iM (b':=Á) .A) .b ?_
 refine jx (f:=λa:Int=>a/p) (p:=λa=>fX p a) (b':=Á) 4 iI.nd ["_law_number"] [1] (bP (ag fO) gX rfl rfl .f) (bp .C) (bu 0) (λC s H fp=>c9 0 ["_law_number","_law_p"]) a7 (λi a hi C s H fp=>by
   have e:fX p a=decide (a.fmod p=0):=by unfold fX;rw[bD .b]
   rw[e]
   exact lS (ax az (aS .A .B .b) af)) (λi a hi _ C s H fp=>cP (a9 .A .B (Sm.div (n:=40) (by unfold Sm;lia) .b)) (Yi _ .b)) .b ?_
 rw[adg];have F:(m.filter λa=>!fX p a)=qi p m:=rfl;have ev:(m.filter λa=>fX p a).map (λa=>a/p)=rL p m:=rfl;rw[F,ev,NM hp h2 d .b];have G:∀a∈qi p m,Sm 62 a:=λa ha=>j a (Ys.mp ha).1
 have α:∀a∈rL p m,Sm 62 a:=λa ha=>by
  obtain⟨b,t,rfl⟩:=XF.mp ha;obtain⟨t,_⟩:=Ys.mp t;refine Sm.of_le ?_ (j b t);exact Int.natAbs_ediv_le_natAbs b p
 refine aw (lB (aB y (r.mono .a) rfl .D .B #[hp,h2,o,BO,G]) λ_=>(iU (aB y (r.mono .a) rfl (ae 4) .B #[hp,h2,o,Br d,α]))) ?_;show Bd.val _ _=Bd.val _ _;congr 1;unfold Q0;rw[Bool.not_or]
noncomputable def u7(c:Int):Nat->Int×Int
 |0=>(1-2*c.fmod 2,c.fdiv 2)
 |i+1=>((if (u7 c i).2.fmod 2=1 then (u7 c i).1*SP.getD i 1 else (u7 c i).1),(u7 c i).2.fdiv 2)
def N3(c:Int):Int:=(u7 c 6).1
include B in
theorem xO(c:Int):⇑Body p8 "_law_small" kC f kk [.val Â c] (RT Á (N3 c)):=by
 intro h A outer s H E k;refine aq 1 dO.nd (eO af (aF af (aS .A af .a) (mulL .a .a))) ?_;refine aq 2 dO.nd (a9 .A af u_) ?_;refine oG (xs:=SP) (b:=Á) (λi U=>∃d,U=[À (.val Â c),À (.val Á (u7 c i).1),À (.val Á (u7 c i).2),d]) (cS 3 dO.nd) (dR (aE af (aE af (aE af (aE af (aE af (aE af bV)))))) (Yn rfl)) #[none,rfl] ?_ ?_
 .rintro i a U' ha ⟨d,rfl⟩;have hi:i<6:=(Xy.mp ha).1;have j:SP.getD i 1=a:=by rw[Xq,ha];rfl
  have l:=Fd a (Xs ha);have e:u7 c (i+1)=((if (u7 c i).2.fmod 2=1 then (u7 c i).1*a else (u7 c i).1),(u7 c i).2.fdiv 2):=by rw[<-j];rfl
  rw[e];refine nv (λU=>U=[À (.val Â c),À (.val Á (if (u7 c i).2.fmod 2=1 then (u7 c i).1*a else (u7 c i).1)),À (.val Á (u7 c i).2),À (.val Á a)]) (ax az (aS .C af .a) af) (λg=>?_) (λg=>?_) ?_
  .rw[Xo ↑g];refine aq 1 dO.nd (aF .B .D (mulR .b .b)) ?_;exact aM rfl
  .rw[Xl ↑g];exact aM rfl
  .rintro U' rfl;refine aq 2 dO.nd (a9 .C af u_) ?_;exact aM #[_,rfl]
 .rintro U' ⟨d,rfl⟩;exact aw .B rfl
noncomputable def C7(c:Int):Int:=if (c.fdiv 128).fmod 4=0 then 1+(c.fdiv 512).fmod 12 else 1
noncomputable def oY(c:Int):Nat->List Int×Int
 |0=>([],c)
 |i+1=>((oY c i).1++[N3 (oY c i).2*C7 (oY c i).2*C7 (oY c i).2],(oY c i).2.fdiv 6144)
def HY(c n:Int):List Int:=(oY c n.toNat).1
def HG(c:Int):1<=C7 c/\C7 c<=12:=by
 have z:=dm (a:=c.fdiv 512) (b:=12) .a;unfold C7;split<;>omega
theorem xh(c:Int):∀i:Nat,(oY c i).1.length=i
 |0=>rfl
 |i+1=>by simp[oY,xh c i]
def CQ(l:⇑aJ 1 "_law_small" ["_law_cell"] (dg K (fun(_:Int)=>True) Á N3))(c n:Int)(r:0<=n)(q:n<=8):⇑Body uO "_law_row" pQ f 1 [.val Â c,.val Â n] (RT Á (HY c n)):=by
 intro j A outer s H E k;refine Ky 2 Int eG.nd ?_;refine aq 3 eG.nd .A ?_;refine eJ (n:=n) (λi U=>∃b d h,U=[À (.val Â c),À (.val Â n),À (.own Á (oY c i).1),À (.val b (oY c i).2),d,h]) rfl B.range (cS 4 eG.nd) .B .b .b #[_,none,none,rfl] ?_ ?_
 .rintro i U' hi ⟨b,d,h,rfl⟩;have m:=xh c i;obtain⟨o,p⟩:=HG (oY c i).2;refine aq 5 eG.nd af ?_;refine nv (λU=>U=[À (.val Â c),À (.val Â n),À (.own Á (oY c i).1),À (.val b (oY c i).2),À (.val Á (i:Int)),À (.val Á (C7 (oY c i).2))]) (ax az (aS (a9 .D af u_) af .a) af) (λg=>?_) (λg=>?_) ?_
  .have e:C7 (oY c i).2=1+((oY c i).2.fdiv 512).fmod 12:=Xo ↑g;rw[e];refine aq 5 eG.nd (bX af (aS (a9 .D af u_) af .a)) ?_;exact aM rfl
  .have e:C7 (oY c i).2=1:=Xl ↑g;rw[e];exact aM rfl
  .rintro U' rfl;refine mO 2 (a:=N3 (oY c i).2*C7 (oY c i).2*C7 (oY c i).2) rfl (aF (aF (aI l (k.mono .a) rfl .D É) (ae 5) (mulR .b .b)) (ae 5) (mulR .b .b)) .b ?_;refine aq 3 eG.nd (a9 .D af u_) ?_;exact aM #[_,_,_,rfl]
 .rintro U' ⟨b,d,h,rfl⟩;refine dD 2 rfl ?_;exact aw .C rfl
theorem BH(c:Int):∀i,(u7 c i).1∈bH i
 |0=>by
  have z:=dm (a:=c) (b:=2) .a;have:c.fmod 2=0\/c.fmod 2=1:=by lia
  show(1-2*c.fmod 2)∈[(1:Int),-1];rcases this with e|e<;>rw[e]<;>decide
 |i+1=>by
  have d:=BH c i;show(if (u7 c i).2.fmod 2=1 then (u7 c i).1*SP.getD i 1 else (u7 c i).1)∈bH i++(bH i).map λk=>k*Q.Q6.getD i 1;split
  .exact XW _ (XF.mpr #[_,d,rfl])
  .exact Ya _ d
def Jv(c:Int):N3 c∈bH 6:=BH c 6
def Sk:∀q∈Ô 13,aT (q:Int)=Á->(q:Int)∈Q6:=by
 have key:∀q∈Ô 13,¬((q:Int)∈Q6)->q<2\/∃d∈Ô 13,2<=d/\d<q/\q%d=0:=by decide
 intro q b hp;by_cases h:(q:Int)∈Q6
 .exact h
 .exfalso;have f:=au hp;rcases key q b h with z|⟨d,_,g,e,c⟩
  .lia
  .have a:(d:Int)∣(q:Int):=Z0.mpr (abv c);rcases eY hp .b a with z|z<;>lia
def Gr(h1:1<=r)(h2:r<=12):lu Q6 r:=#[.b,λq a b=>by
 have:=XH .b b;have c:=au a;have:=Sk q.toNat (Yu.mpr .b) (by rw[aaz .b];exact a);rw[aaz .b] at this
 exact this]
def Tb(x:Int):Prop:=xY x/\x.natAbs<=4324320
theorem vL(c:Int):∀i:Nat,∀x∈(oY c i).1,Tb x
 |0,x,h=>by cases h
 |i+1,x,a=>by
  rcases Yf.mp a with a|a
  .exact vL c i x a
  .rw[XX.mp a];obtain⟨e,b⟩:=HG (oY c i).2;have d:=Jv (oY c i).2;have l:=eV d;have k:(C7 (oY c i).2).natAbs<=12:=by omega
   have bd:(N3 (oY c i).2*C7 (oY c i).2*C7 (oY c i).2).natAbs<=4324320:=by
    rw[XZ,XZ];have:=aaT (aaT l k) k;omega
   exact#[#[.e,iz (iz (nu d) (Gr e b)) (Gr e b)],bd]
def xY.neg(h:xY x):xY (0-x):=by
 rw[Int.zero_sub];exact#[by have:=h.1;lia,gL h.2]
def IS(n:Int):Bool:=decide (n.natAbs<1073741824)&&decide (lf SP (n.natAbs:Int)=1)
def sL(n:Int)(F:n≠0):⇑Body kK "_law_is_small" gP f kk [.val Â n] (RT Á (IS n)):=by
 intro k A outer s H E D;refine aq 1 d_.nd (cP (iw rfl B.abs .A) (qI n)) ?_;refine aH (ax Gs .B af) (λc=>?_) (λc=>?_)
 .have a:(1073741824:Int)<=n.natAbs:=XD c;have e:IS n=Â:=by unfold IS;rw[X1 .b];rfl
  rw[e];exact aw jX rfl
 have a:¬(1073741824:Int)<=n.natAbs:=X9 c;refine oG (xs:=SP) (b:=Á) (λi U=>∃d,U=[À (.val Â n),À (.val Á (lf (SP.take i) (n.natAbs:Int))),d]/\i<=6) (cS 2 d_.nd) (dR (aE af (aE af (aE af (aE af (aE af (aE af bV)))))) (Yn rfl)) #[none,rfl,Yr _] ?_ ?_
 .rintro i p U' hp ⟨d,rfl,_⟩;have hi:i<6:=(Xy.mp hp).1;have C:SP.getD i 1=p:=by rw[Xq,hp];rfl
  obtain⟨p2,y⟩:=Fd p (Xs hp);have j:lf (SP.take i) (n.natAbs:Int)≠0:=by have:=(oX (SP.take i) (n.natAbs:Int) (λp hp=>yR p (aa0 hp)) .b).1;lia
  have e1:lf (SP.take (i+1)) (n.natAbs:Int)=(aX (lf (SP.take i) (n.natAbs:Int)) p).2:=BW hp;rw[e1];generalize lf (SP.take i) (n.natAbs:Int)=x at *;refine cH (ι:=Int×Int) (λu U=>U=[À (.val Â n),À (.val Á u.2),À (.val Á p)]/\0<=u.1/\x=u.2*p^u.1.toNat/\u.2≠0) (λu=>u.2.natAbs) (0,x) #[rfl,Yv 0,by show x=x*p^(0:Int).toNat;rw[show(0:Int).toNat=0 from rfl,Yc,X0],j] ?_;rintro⟨m,l⟩ U' ⟨rfl,g,he,t⟩;dsimp only at *;refine#[_,ax az (aS .B .C .b) af,λc=>?_,λc=>?_]
  .have a:l.fmod p=0:=XD c;obtain⟨h,v,q,o⟩:=F9 g he p2 a t;refine aq 1 d_.nd (a9 .B .C (Sm.div (n:=10) (by unfold Sm;lia) .b)) ?_;exact aM #[(m+1,l.fdiv p),#[rfl,h,v,q],o]
  .have a:¬l.fmod p=0:=X9 c;refine aM #[À (.val Á p),?_,hi];rw[j6 p2 (r:=(m,l)) #[g,he,λz=>a (Q.hV.mpr z)]]
 .rintro U' ⟨d,rfl,_⟩;have e:IS n=decide (lf SP (n.natAbs:Int)=1):=by unfold IS;rw[XY .b,aa2]
  rw[e];exact aw (eN az .B af) rfl
theorem KL{q:Int}(a:aT q=Á):∀(ps:List Int) (x:Int),(∀p∈ps,aT p=Á)->x≠0->q∣x->q∈ps\/q∣lf ps x
 |[],x,_,_,h=>.inr h
 |p::ps,x,hp,b,h=>by
  have pp:=hp p (XA ..);have p2:=au pp;obtain⟨_,c,_⟩:=e_ p2 b;by_cases e:q=p
  .exact .inl (by rw[e];exact XA ..)
  have g:q∣(aX x p).2:=by
   rw[c] at h;rcases euclid a h with z|z
   .exact z
   .exfalso
    have key:∀n:Nat,q∣p^n->q=p:=λn=>by
     induction n with
     |zero=>intro z;rw[Yc] at z;have:=XH .a z;have:=au a;lia
     |succ n d =>
      intro z;rw[XS] at z;rcases euclid a z with z|z
      .exact d z
      .exact bE a pp z
    exact e (key _ z)
  rcases KL a ps _ (λr f=>hp r (Xx _ f)) (Fz p2 b) g with z|z
  .exact .inl (Xx _ z)
  .exact .inr z
def N9{n:Int}(c:n≠0)(h:IS n=Á):xY n:=by
 unfold IS at h;obtain⟨h1,h2⟩:=YQ.mp h;refine#[XD h1,c,λq a b=>?_];rcases KL a SP (n.natAbs:Int) xc .e (Zj.mpr b) with z|z
 .exact z
 .rw[XD h2] at z;have:=XH .a z;have:=au a;omega
def HW(n:Int)(r:List Int):Prop:=r.length=n.toNat/\∀x∈r,xY x
def O3(c:Int){n:Int}:HW n (HY c n):=#[xh _ _,λx a=>(vL _ _ x a).1]
def HW.set{n:Int}{r:List Int}{i:Nat}{x:Int}(h:HW n r)(a:xY x):HW n (r.set i x):=#[by rw[YG];exact h.1,λy b=>by
 rcases aco b with z|z
 .exact h.2 y z
 .rw[z];exact a]
abbrev Xc(P w K mg base):=aJ P w K mg base 1 "_law_is_small" ["_law_number"] (dg K (λn=>n≠0) Á IS)
abbrev Xb(P w K mg base):=aJ P w K mg base 2 "_law_row" ["_law_cell","_law_size"] (cO K (fun(_ n:Int)=>0<=n/\n<=8) Á HY)
def we(q:⇑Xb)(m:⇑Xc)(cell other n:Int)(h1:1<=n)(p:n<=8):⇑Body nB "_law_solved" jB f 2 [.val Â cell,.val Â other,.val Â n] (uo Á (HW n)):=by
 intro u A outer s H E j;refine oV 3 cF.nd (ym q (j.mono .a) rfl .A .C #[.e,p]) ?_;refine yE 3 Á rfl ?_;have c:=O3 cell (n:=n);have r:∀x∈HY cell n,x.natAbs<=4324320:=λx o=>(vL _ _ x o).2;have y:(HY cell n).length=n.toNat:=c.1;generalize HY cell n=row at *;have z:=dm (a:=other) (b:=n) .e;refine aq 4 cF.nd (aS .B .C .e) ?_;generalize other.fmod n=pl at *;refine aq 5 cF.nd af ?_;refine eJ (n:=n) (λi U=>∃t h g,U=[À (.val Â cell),À (.val Â other),À (.val Â n),À (.own Á row),À (.val Á pl),À (.val Á (t:Int)),h,g]) rfl B.range (cS 6 cF.nd) .C .e .e #[_,none,none,rfl] ?_ ?_
 .rintro i U' hi ⟨t,h,g,rfl⟩;have v:i<row.length:=by rw[y];omega
  have ha:=lX (d:=0) (xs:=row) (k:=(i:Int)) .e .e;have D:=r _ (Q.getD_mem (d:=0) (l:=row) (i:=(i:Int).toNat) .e);refine aH (ax gA (ae 6) (ae 4)) (λ_=>?_) (λ_=>aM #[_,_,_,rfl]);have C:=dm (a:=(other.fdiv 8).fdiv (5+(i:Int))) (b:=4) .a;refine aq 7 cF.nd (aS (a9 (a9 .B af u_) (bX af (ae 6)) (Sm.div (n:=20) (by unfold Sm;omega) .e)) af .a) ?_;refine aq 5 cF.nd (bX (ae 5) (aF (aF (Lu 3 rfl (ae 6) ha) (ae 7) (mulR .e .e)) (ae 7) (mulR .e .e))) ?_;exact aM (aM #[_,_,_,rfl])
 .rintro U' ⟨t,h,g,rfl⟩;refine aH (TW.t (pH (ax gA (ae 5) af) λe=>(kW (hW (aI m (j.mono .a) rfl (eO af (ae 5)) ?_))))) (λe=>?_) (λ_=>?_)
  .have:¬t=0:=by simpa using e
   omega
  .obtain⟨c1,c2⟩:=YQ.mp e;have F:¬t=0:=by simpa using c1
   refine Ad 3 rfl (ae 4) (eO af (ae 5)) .e .e (aM ?_);refine dD 3 rfl ?_;exact aw .D #[_,c.set (N9 .e c2),rfl]
  .refine dD 3 rfl ?_;exact aw .D #[_,c,rfl]
abbrev Xd(P w K mg base):=aJ P w K mg base 3 "_law_solved" ["_law_cell","_law_other","_law_size"] (C4 K (fun(_ _ n:Int)=>1<=n/\n<=8) Á (λ_ _ n r=>HW n r))
def y8(D:⇑Xb)(G:⇑Xd)(cell other n:Int)(h1:1<=n)(p:n<=8):⇑Body kr "_law_drawn" iB f 3 [.val Â cell,.val Â other,.val Â n] (uo Á (HW n)):=by
 intro F A outer s H E q;refine oV 3 ff.nd (ym D (q.mono .a) rfl (a9 .A af u_) .C #[.e,p]) ?_;refine yE 3 Á rfl ?_;have g:=O3 (cell.fdiv 4) (n:=n);have I:(HY (cell.fdiv 4) n).length=n.toNat:=g.1;generalize HY (cell.fdiv 4) n=row at *;refine aH (ax az (aS .A af .a) af) (λc=>?_) (λ_=>?_)
 .have L:cell.fmod 4=0:=XD c;refine dD 3 rfl ?_;refine fh 3 ff.nd (xS G (q.mono .a) rfl (a9 .A af u_) .B .C #[h1,p]) λr j=>aM ?_;refine aH (ax az (aS .A af .a) af) (λc=>absurd (XD c) .e) (λ_=>?_);refine aH (ax az (aS .A af .a) af) (λc=>absurd (XD c) .e) (λ_=>?_);exact aw .D #[_,j,rfl]
 .refine aH (ax az (aS .A af .a) af) (λc=>?_) (λ_=>?_)
  .have L:cell.fmod 4=1:=XD c;have v:=dm (a:=cell.fdiv 4) (b:=2) .a;refine aq 4 ff.nd (eO af (aF af (aS (a9 .A af u_) af .a) (mulL .a .a))) ?_;have h:1-2*(cell.fdiv 4).fmod 2=1\/1-2*(cell.fdiv 4).fmod 2=-1:=by omega
   generalize 1-2*(cell.fdiv 4).fmod 2=sg at *;refine dD 3 rfl ?_;refine wH 3 ff.nd (b':=Á) (f:=λx:Int=>sg*(x.natAbs:Int)) ["_law_number"] [4] (bP (ag iB) kr rfl rfl .f) (bp .D) (bu 0) (λC s H fp=>c9 0 ["_law_number","_law_sign"]) a7 (λi a ha C s H fp=>aF .B (cP (iw rfl B.abs .A) (qI a)) (mulL .e .e)) .e (aM ?_);refine aH (ax az (aS .A af .a) af) (λc=>absurd (XD c) .e) (λ_=>?_);refine aw .D #[_,#[by rw[Xv];exact I,λx u=>?_],rfl];obtain⟨y,t,rfl⟩:=XF.mp u;have o:=g.2 y t;have m:=o.neg;rw[Int.zero_sub] at m;rcases ada 0 y with z|z
   .rcases h with sg|sg<;>subst sg
    .rw[Yp,ů z];exact o
    .rw[ϣ,ů z];exact m
   .have e:(y.natAbs:Int)=-y:=by omega
    rw[e];rcases h with sg|sg<;>subst sg
    .rw[Yp];exact m
    .rw[ϣ,Int.neg_neg];exact o
  .refine aH (ax az (aS .A af .a) af) (λ_=>?_) (λ_=>?_)
   .have α:=dm (a:=other) (b:=n) .e;have v:=dm (a:=other+1) (b:=n) .e;have ha:=lX (d:=0) (xs:=row) (k:=(other+1).fmod n) .e .e;have J:row.getD ((other+1).fmod n).toNat 0∈row:=Q.getD_mem (d:=0) (l:=row) (i:=((other+1).fmod n).toNat) .e;refine Ad 3 rfl (aS .B .C .e) (eO af (Lu 3 rfl (aS (bX .B af) .C .e) ha)) .e .e (aM ?_);refine dD 3 rfl ?_;exact aw .D #[_,g.set (g.2 _ J).neg,rfl]
   .refine dD 3 rfl ?_;exact aw .D #[_,g,rfl]
def N4(h2:2<=d)(f:d∣x)(b:d*d<=x):aT x=Â:=by
 cases hp:aT x with
 |false=>rfl
 |true =>
  have g:2*2<=d*d:=Yj h2 h2 .a .b;rcases Q.bY.mp hp with z|⟨_,i,z⟩
  .lia
  .obtain⟨c,a⟩:=f
   have od:d%2=1:=by
    rcases Zm d with e|e
    .obtain⟨h,he⟩:=XM e;rw[he,X6] at a;lia
    .exact e
   exact absurd #[c,a] (z d .b b od)
def IZ(h2:2<=x)(f:x<d*d)(g:2<=d)(a:∀e:Int,2<=e->e<d->¬e∣x):aT x=Á:=by
 rw[bY];by_cases e2:x=2
 .exact .inl e2
 .by_cases b:d=2
  .subst b;exact .inr #[.b,.b,λe h1 h2 c=>by have:3*3<=e*e:=Yj h1 h1 .a .b;lia]
  .refine .inr #[.b,?_,λe h1 h2 c=>a e .b (xK .b .b .b)];have:=a 2 .a .b;lia
def yj(x:Int)(k:x<2^62):⇑Body p_ "_law_prime" j_ f kk [.val Â x] (RT Á (aT x)):=by
 intro h A outer s H E l;refine aH (ax fY .A af) (λa=>?_) (λa=>?_)
 .have b:x<2:=XD a
  have e:aT x=Â:=by
   cases hp:aT x with
   |false=>rfl
   |true=>have:=au hp;lia
  rw[e];exact aw jX rfl
 have h2:¬x<2:=X9 a;refine aq 1 ju.nd af ?_;refine cH (ι:=Int) (λd U=>U=[À (.val Â x),À (.val Á d)]/\2<=d/\d<=x+1/\∀e:Int,2<=e->e<d->¬e∣x) (λd=>(x+3-d).toNat) 2 #[rfl,.a,.b,λe h1 h2=>by lia] ?_;rintro d U' ⟨rfl,c,dx,g⟩;refine#[_,ax FY (aF .B .B (mulL .b .b)) .A,λa=>?_,λa=>?_]
 .have b:d*d<=x:=XD a
  have i:d<=x:=by
   have:2*d<=d*d:=Yj c (Yv d) .b .b;lia
  refine aH (ax az (aS .A .B .b) af) (λa=>?_) (λa=>?_)
  .rw[N4 c (Q.hV.mp (XD a)) b];exact aw jX rfl
  .have j:¬d∣x:=λz=>absurd (Q.hV.mpr z) (X9 a);refine aq 1 ju.nd (bX .B af) ?_;refine aM #[d+1,#[rfl,.b,.b,λe h1 h2=>?_],.b];by_cases z:e=d
   .rw[z];exact j
   .exact g e h1 .b
 .have b:¬d*d<=x:=X9 a;rw[IZ .b .b c g];exact aw jX rfl
def yw(a:⇑aJ 1 "_law_prime" ["_law_k"] (dg K (λk=>k<2^62) Á aT))(p:Int)(h1:p<2^62)(h:p=0\/aT p=Á):⇑Body qk "_law_place" j7 f 1 [.val Â p] (RT Á Á):=by
 intro b A outer s H E c;refine aw (lB (Az (i:=p) rfl B.isinstance rfl B.int .A) λ_=>(lB (E4 (zH (i:=p) rfl B.isinstance rfl B.bool .A)) λ_=>(iU (HE (eN az .A af) λ_=>(iU (aI a (c.mono .a) rfl .A h1)))))) ?_;show Bd.val _ _=Bd.val _ _;congr 1;rcases h with rfl|h
 .rfl
 .rw[h];simp
def R3(l:List Int):Prop:=5<=l.length/\l.length<=8/\∀a∈l,xY a
def Mf(d:cG l=Á)(c:3<=l.length)(h:DU l (À p)):p=0\/(aT p=Á/\p<2^31):=by
 obtain⟨h1,h2⟩:=h;rcases h2 with h2|⟨hp,_,_⟩
 .exact .inl h2
 .refine .inr #[hp,?_];apply Xt;intro f
  have:bZ l p=Á:=nX hp .b c λa ha e=>by
   have:=dN d ha;have:=XH (b:=(a.natAbs:Int)) .b (Zj.mpr e);lia
  rw[this] at h1;cases h1
theorem K7(l z:List Int):∀n:Nat,zt l z n=zQ l z n
 |0=>rfl
 |n+1=>by
  show zt l z n+l.getD n 0*z.getD n 0*z.getD n 0=zQ l z n+l.getD n 0*(z.getD n 0*z.getD n 0);rw[K7 l z n,X6]
theorem GH(z:List Int):∀n:Nat,n<=z.length->zp z n=j0 (z.take n)
 |0,_=>rfl
 |n+1,h=>by
  have e:z[n]?=À (z.getD n 0):=by rw[Xq,Xz .b];rfl
  rw[yI e,<-GH z n .b];rfl
def ZW.is(h:ZW l z):Pd l z=Á:=by
 unfold Pd;have a:=h.len;rw[K7,h.eq,<-a,GH z _ (Xu _),YU,h.one];rfl
abbrev Xg(P w K mg base):=aJ P w K mg base 2 "_law_place" ["_law_p"] (dg K (λp=>p<2^62/\(p=0\/aT p=Á)) Á (λ_=>Á))
abbrev Xf(P w K mg base):=aJ P w K mg base 2 "_law_is_zero" ["_law_row_here","_law_zero"] (cO K Rb Á Pd)
abbrev Xe(P w K mg base):=aJ P w K mg base 142 "zero_of" ["row"] (gE K (λl=>cG l=Á/\MV J8 l) Á ZO)
def zK(t:⇑Xe)(n:⇑WW)(q:⇑Xf)(C:⇑Xg)(u:⇑aJ 3 "_law_bars" ["_law_row_here","_law_p"] (cO K RC Á OA))(row:List Int)(hp:R3 row):⇑Body sj "_law_held" lW f 142 [.val Â row] (RT Á Á):=by
 intro o A outer s H E b;have y:=hp.1;have l:=hp.2.1;obtain⟨d,hz⟩:=yz y l hp.2.2;refine aq 1 iA.nd (Im rfl B.list .A) ?_;refine fh 2 iA.nd (c_ t (b.mono .a) rfl .B #[d,hz]) λz k=>?_;refine aH (ax (PN (M:=List Int) (A4 b)) .B .A) (λc=>?_) (λ_=>?_)
 .simp at c
 rcases k with⟨r,rfl⟩|⟨_,zs,rfl,j⟩
 .refine aH (AQ (M:=List Int) (x:=none) .C λ_ _ _ _=>EK) (λc=>nomatch c) (λ_=>?_);refine aq 3 iA.nd (aI n (b.mono .a) rfl .B hz.fb) ?_;have ok:=sJ row;cases m:jz row with
  |none=>exact absurd m r
  |some p =>
   rw[m] at ok;have g:=Mf d .b ok
   have i:p<2^62:=by
    rcases g with h|h
    .rw[h];decide
    .lia
   refine aw (lB (aI C (b.mono .a) rfl (dC (a:=p) .D) #[i,g.imp id And.left]) λ_=>(iU (aB u (b.mono .a) rfl .A (dC (a:=p) .D) #[.b,Ai d,g]))) ?_;show Bd.val _ _=Bd.val _ _;unfold OA;rw[ok.1];rfl
 .refine aH (AQ (M:=List Int) (x:=À zs) .C λ_ _ _ _=>EK) (λ_=>?_) (λc=>nomatch c);refine aw (aB q (b.mono .a) rfl .A (dC (a:=zs) .C) #[j.len,.b,λv e=>((Ai d v e).2).le .a,λv e=>(j.sm v e).le .a]) ?_;show Bd.val _ _=Bd.val _ _;rw[j.is]
def Kl(h:5<=l.length):(jz l).isNone=bZ l 0:=by
 have ok:=sJ l;cases q:jz l with
 |none=>rw[q] at ok;exact ok.1.symm
 |some p =>
  rw[q] at ok;rcases ok.2 with z|⟨hp,_,_⟩
  .rw[z] at ok;exact ok.1.symm
  .have:=i7 (p:=p) (l:=l) (by have:=au hp;lia) h;exact absurd (this.symm.trans ok.1) .a
abbrev Xj(P w K mg base):=aJ P w K mg base 4 "_law_drawn" ["_law_cell","_law_other","_law_size"] (C4 K (fun(_ _ n:Int)=>1<=n/\n<=8) Á (λ_ _ n r=>HW n r))
abbrev Xi(P w K mg base):=aJ P w K mg base 1 "_law_big" ["_law_cell","_law_k"] (cO K (λ_ k=>0<=k/\k<=100) Á OB)
abbrev Xh(P w K mg base):=aJ P w K mg base 1 "_law_cell_at" ["_law_script","_law_k"] (cO K (λ_ k=>0<=k) Á yh)
def Pn(i:⇑Xh)(g:⇑Xi)(n:⇑Xj)(o:⇑aJ 143 "_law_held" ["_law_row_here"] (dg K R3 Á (λ_=>Á)))(k:⇑WW)(xs:List Int)(u:xs.length<=63):
  Body P w K mg base Lf "law" G5 f 143 [.val Â xs] (RT Á Á):=by
 intro m A outer s H E c;refine aq 1 Aw.nd (aB g (c.mono .a) rfl (aB i (c.mono .a) rfl .A af .a) af #[.a,.a]) ?_;generalize OB _ _=other;have t:=dm (a:=other.fdiv 64) (b:=4) .a;refine fh 2 Aw.nd (xS n (c.mono .a) rfl (aB g (c.mono .a) rfl (aB i (c.mono .a) rfl .A af .a) af #[.a,.a]) .B (bX af (aS (a9 .B af u_) af .a)) #[.b,.b]) λr d=>?_;have x:=d.1;have e:5<=r.length:=by lia
 have j:r.length<=8:=by lia
 obtain⟨v,hz⟩:=yz e j d.2;obtain⟨q,p⟩:=vJ r .b;obtain⟨b1,b2⟩:=wR r .b;refine aw (lB (aI o (c.mono .a) rfl .C #[e,j,d.2]) λ_=>(iU (eN (KY (M:=Bool) (A4 c)) (K1 (aI k (c.mono .a) rfl .C hz.fb) λ_ _ _ _ h=>nomatch h) (lB (eN fY (Aj rfl rfl B.min .C .b q p) af) λ_=>(iU (eN eW (zL rfl rfl B.max .C .b b1 b2) af)))))) ?_;show Bd.val _ _=Bd.val _ _;congr 1
 have l:bZ r 0=(decide (DX r<0)&&decide (0<DY r)):=by
  unfold bZ;rw[Xo rfl]
 rw[Kl e,l,XY rfl];rfl
end
open PySem PySem.Spec PyProof.Rows
open Q (Fr)
open Q (Fr)
def fin{e:Ñ}{w:Û}{K:Ã}{h:â}{mg:Ð->Option Ä}{O:Ç}(X:K.In h)(G:h.Ns Í mg)(x:mg "law"=À (.ref O))(B:Bu mg)
  (TH:ui mg "GREAT_PRIMES_FROM" 32768) (y:ui mg "GREAT_FROM" 1073741824) (Ut:ui mg "LONGEST" 8) (j:xI K mg "SMALL_PLACES" [0,2,3,5,7,11,13]) (T_:xI K mg "AT_NOUGHT" [1,-1]) (UB:xI K mg "AT_TWO" [1,3,5,7,2,6,10,14]) (UD:ui mg "ENOUGH" 5) (V6:Df K "is_whole" mx) (V7:Df K "power_by" l7) (VU:Df K "taken_out" kq) (VF:Df K "square_root" iN) (UR:Df K "square_root_or_none" df) (Vd:Df K "common_divisor" fP) (V8:Df K "fraction" hX) (VA:Df K "next_divisor" gY) (V9:Df K "is_prime" l4) (Wf:Df K "divided" pE) (Wo:Df K "parts" v_) (VM:Df K "tame_parts" jk) (Wq:Df K "power" wo) (Wr:Df K "freed" vP) (VV:Df K "square_by" kD) (Wg:Df K "back_by" oE) (U9:Df K "least_no_square" fE) (VW:Df K "squarings" kg) (Ve:Df K "root_of_square" fM) (Vl:Df K "root_by_prime" gC) (VN:Df K "with_rests" jE) (Wh:Df K "root_by" pP) (Vm:Df K "class_at" jo) (V_:Df K "two_says" lU) (Wa:Df K "odd_says" lV) (Wu:Df K "says" A8) (VX:Df K "primes_of" km) (Vn:Df K "is_row_number" gp) (Wm:Df K "is_row" mG) (Vo:Df K "refuse_no_row" gh) (VB:Df K "is_square_at" gU) (U_:Df K "three_have_zero" fA) (Vf:Df K "four_have_zero" fQ) (VY:Df K "have_zero" ko) (Va:Df K "without_divisor" dj) (Vp:Df K "first_barring" d8) (Vq:Df K "first_without" gD) (Vr:Df K "freed_product" gq) (VG:Df K "from_lesser" iQ) (Vs:Df K "least_root_by" gg) (Vt:Df K "square_of_two" eB) (Vu:Df K "zero_of_three" gu) (VO:Df K "next_prime" jG) (U6:Df K "class_of_product" eF) (U1:Df K "small_free_numbers" cE) (VP:Df K "classes_of" gK) (Vg:Df K "wishes_without" dI) (VZ:Df K "are_among" kF) (VC:Df K "number_among" fB) (VQ:Df K "samples_at" jI) (Vh:Df K "shared_classes" dQ) (Wi:Df K "meeting" lj) (D:Df K "zero_of_free" dw) (t:Df K "zero_by_meeting" a_) (Wv:Df K "over" AA) (Vv:Df K "common_bottom" gf) (Vb:Df K "over_one_bottom" dh) (VR:Df K "made_whole" jH) (VH:Df K "five_places" de) (U2:Df K "zero_of_five_among" ck) (Wb:Df K "is_small" lY) (Vw:Df K "zero_of_small" cg) (VD:Df K "refuse_great" e9) (Wj:Df K "zero_of" pB) (VI:Df K "_law_cell_at" iK) (Wk:Df K "_law_big" pF) (VS:Df K "_law_common" jC) (VJ:Df K "_law_is_zero" iL) (V0:Df K "_law_power" kf) (Wc:Df K "_law_less" lN) (V1:Df K "_law_alone" kE) (Vi:Df K "_law_by_sixteen" fN) (Wd:Df K "_law_bars" fO) (V2:Df K "_law_small" kC) (Wl:Df K "_law_row" pQ) (VE:Df K "_law_is_small" gP) (VT:Df K "_law_solved" jB) (V3:Df K "_law_drawn" iB) (V4:Df K "_law_prime" j_) (V5:Df K "_law_place" j7) (We:Df K "_law_held" lW) (Ww:Df K "law" G5):
  ∃fd:ð,(∀(s:Æ) (u:Ä),ķ s fd #[[u],[]] [("_law_script",u)])/\∀base:â,K.In base->base.Ns Í mg->fR e w K mg base pN 144 O fd ["_law_script"] (yp K):=by
 refine Io Ww X G x (λ_ _ _ _ _ _ s u=>.of_eq rfl) λbase _ _ f fd F=>?_;have UU:WL e w K mg base:=V6.c1 X G λf fd F=>oJ F yQ rfl λa _=>AN B a;have L:WE e w K mg base:=V7.c3 X G λf fd F=>KN F cQ rfl λa b c hp=>zP a b c hp.1 hp.2.1 hp.2.2;have i:WA e w K mg base:=VU.c2 X G λf fd F=>mC F fc rfl λa b hp=>xR a b hp.1 hp.2.1 hp.2.2;have TR:Wx e w K mg base:=VF.c1 X G λf fd F=>oJ F ig rfl λa hp=>uv a hp.1 hp.2;have Tv:WC e w K mg base:=UR.c1 X G λf fd F=>oJ F fC rfl λa hp=>jW TR a hp;have r:Wy e w K mg base:=Vd.c2 X G λf fd F=>mC F dk rfl λa c _=>oN B a c;have H:WD e w K mg base:=V8.c2 X G λf fd F=>mC F kJ rfl λa c hp=>Aq r a c hp.1 hp.2;have Γ:Wz e w K mg base:=VA.c3 X G λf fd F=>KN F jU rfl λa b c hp=>tL B TR a b c hp;have UW:aJ e w K mg base 3 "is_prime" ["k"] (dg K (λk=>k<2^62) Á aT):=V9.c1 X G λf fd F=>oJ F yb rfl λa hp=>AX Γ a hp;have J:WB e w K mg base:=Wf.c2 X G λf fd F=>mC F dt rfl λa c hp=>Dm i Γ a c hp;have R:WI e w K mg base:=Wo.c1 X G λf fd F=>oJ F sS rfl λa hp=>JE J a hp;have Ux:aJ e w K mg base 4 "tame_parts" ["k"] (dg K (λk=>1<=k/\Sm 900 k) Á Oa):=VM.c1 X G λf fd F=>oJ F iO rfl λa hp=>v8 TH y J Tv a hp;have Vy:aJ e w K mg base 1 "power" ["base","exponent"] (cO K R8 Á QQ):=Wq.c2 X G λf fd F=>mC F nR rfl λa c hp=>Je B a c hp;have TU:WU e w K mg base:=Wr.c1 X G λf fd F=>oJ F g5 rfl λa hp=>Ij B Vy H Ux a hp;have g:WG e w K mg base:=VV.c2 X G λf fd F=>mC F nU rfl λa b hp=>zb L a b hp.1 hp.2;have U3:aJ e w K mg base 1 "back_by" ["k","m"] (cO K SQ Á uL):=Wg.c2 X G λf fd F=>mC F bS rfl λa c hp=>C5 a c hp.1 hp.2.1 hp.2.2;have σ:WH e w K mg base:=U9.c1 X G λf fd F=>oJ F eE rfl λa hp=>nV g a hp.1 hp.2;have UJ:aJ e w K mg base 1 "squarings" ["k","p"] (cO K Rv Á jJ):=VW.c2 X G λf fd F=>mC F gJ rfl λa c hp=>yU a c hp;have Ub:aJ e w K mg base 4 "root_of_square" ["k","p"] (cO K Q2 Á HZ):=Ve.c2 X G λf fd F=>mC F aL rfl λa c hp=>pJ B i L σ UJ a c hp;have Uj:aJ e w K mg base 5 "root_by_prime" ["k","p"] (cO K R1 Á xr):=Vl.c2 X G λf fd F=>mC F jd rfl λa c hp=>qG g Ub a c hp;have Uy:aJ e w K mg base 2 "with_rests" ["one","m","other","p"] (HN K Rl Á zC):=VN.c4 X G λf fd F=>Ry F uq rfl λa b c d hp=>wj U3 a b c d hp;have U4:aJ e w K mg base 6 "root_by" ["k","m"] (cO K (λ_ m=>1<=m/\m<2^60) Á F1):=Wh.c2 X G λf fd F=>mC F eK rfl λa c hp=>CI R Uj Uy a c hp.1 hp.2;have S:WJ e w K mg base:=Vm.c2 X G λf fd F=>mC F eU rfl λa b hp=>zX i g a b hp.1 hp.2.1 hp.2.2;have z:WX e w K mg base:=Vm.c2 X G λf fd F=>mC F eU rfl λa b hp=>yM i g a b hp.1 hp.2;have US:aJ e w K mg base 1 "two_says" ["one","other"] (cO K (λ_ _=>True) Á fG):=V_.c2 X G λf fd F=>mC F f9 rfl λa b _=>A5 a b;have UT:WK e w K mg base:=Wa.c3 X G λf fd F=>KN F f_ rfl λa b c hp=>Ap g a b c hp;have VL:WO e w K mg base:=Wu.c3 X G λf fd F=>KN F wU rfl λa b c hp=>Nq S US UT a b c hp.1 hp.2.1 hp.2.2;have V:WS e w K mg base:=VX.c1 X G λf fd F=>oJ F gH rfl λns hp=>x_ B R ns hp;have N:WM e w K mg base:=Vn.c1 X G λf fd F=>oJ F pz rfl λa _=>qJ B y UU a;have Vc:WN e w K mg base:=Wm.c1 X G λf fd F=>oJ F DO rfl λa hp=>HJ B Ut N a hp;have q:WT e w K mg base:=Vo.c1 X G λf fd F=>Qq F oW rfl λa hp=>qw Vc a hp;have TN:WQ e w K mg base:=VB.c2 X G λf fd F=>mC F qD rfl λa b hp=>tP S a b hp;have T:WR e w K mg base:=U_.c4 X G λf fd F=>Ry F l6 rfl λa b c d hp=>nF VL a b c d hp;have Uc:aJ e w K mg base 6 "four_have_zero" ["numbers","p"] (cO K Rc Á bZ):=Vf.c2 X G λf fd F=>mC F iH rfl λa b hp=>oD TN T a b hp;have E:aJ e w K mg base 7 "have_zero" ["numbers","p"] (cO K Qj Á bZ):=VY.c2 X G λf fd F=>mC F xy rfl λa b hp=>y6 B TN T Uc a b hp;have o:WV e w K mg base:=Va.c1 X G λf fd F=>oJ F cR rfl λa hp=>mM r a hp;have I:aJ e w K mg base 9 "first_barring" ["numbers"] (dg K Fn Á jz):=Vp.c1 X G λf fd F=>oJ F i9 rfl λa hp=>qH B V E a hp;have A:WW e w K mg base:=Vq.c1 X G λf fd F=>oJ F pg rfl λa hp=>qK q I a hp;have T3:aJ e w K mg base 6 "freed_product" ["a","b"] (cO K F5 Á OC):=Vr.c2 X G λf fd F=>mC F iW rfl λa c hp=>qy B y TU a c hp;have TV:aJ e w K mg base 3 "from_lesser" ["a","lesser","root","zero"] (HN K QI Á QT):=VG.c4 X G λf fd F=>Ry F h_ rfl λa b c d hp=>uf o a b c d hp;have TL:aJ e w K mg base 7 "least_root_by" ["k","m"] (cO K QF Á EY):=Vs.c2 X G λf fd F=>mC F iV rfl λa c hp=>qE U4 a c hp;have Uk:aJ e w K mg base 126 "square_of_two" ["a","b"] (tO K (λa b=>HQ a b/\tD a b<118/\tD a b<118) Á Og):=pZ B TU TV TL Vt X G 118;have l:W5 e w K mg base:=Vu.c1 X G λf fd F=>rZ F bM rfl λa hp=>qz q o A T3 Uk a hp;have Uz:WY e w K mg base:=VO.c1 X G λf fd F=>oJ F iR rfl λa hp=>wq UW a hp.1 hp.2;have T5:aJ e w K mg base 1 "class_of_product" ["one","other","p"] (uJ K RL Á lr):=U6.c3 X G λf fd F=>KN F gG rfl λa c d hp=>md a c d hp;have TZ:WZ e w K mg base:=U1.c0 X G λf fd F=>Rp F cc rfl (kH B j);have UA:W0 e w K mg base:=VP.c2 X G λf fd F=>mC F ug rfl λa c hp=>wx z a c hp.1 hp.2;have Ud:W2 e w K mg base:=Vg.c3 X G λf fd F=>KN F di rfl λa c d hp=>pO B z T5 a c d hp.1 hp.2.1 hp.2.2;have UK:W3 e w K mg base:=VZ.c2 X G λf fd F=>mC F mS rfl λa c _=>yS B a c;have Uo:W4 e w K mg base:=VC.c2 X G λf fd F=>J7 F bT rfl λa c hp=>se B j Uz TZ UA Ud UK a c hp.1 hp.2.1 hp.2.2;have UC:aJ e w K mg base 4 "samples_at" ["p"] (dg K Ow Á jj):=VQ.c1 X G λf fd F=>oJ F lM rfl λa hp=>wV B T_ UB σ a hp;have Ue:aJ e w K mg base 8 "shared_classes" ["one","other","p"] (uJ K Rr Á zD):=Vh.c3 X G λf fd F=>KN F ng rfl λa c d hp=>oH z UC E a c d hp;have C:W6 e w K mg base:=Wi.c2 X G λf fd F=>J7 F tK rfl λa c hp=>Dq B j V Ue Uo a c hp;have Ul:aJ e w K mg base 128 "zero_of_free" ["numbers"] (gE K Cc Á Z3):=D.c1 X G λf fd F=>rZ F gB rfl λa hp=>qq B l a hp;have T7:aJ e w K mg base 129 "zero_by_meeting" ["numbers"] (gE K Ny Á (MP 4100)):=t.c1 X G λf fd F=>rZ F aY rfl λa hp=>mh B C l Ul a hp;have α:aJ e w K mg base 130 "zero_of_free" ["numbers"] (gE K Ny Á (MP 4100)):=D.c1 X G λf fd F=>rZ F gB rfl λa hp=>qC B T7 a hp;have Z:W7 e w K mg base:=t.c1 X G λf fd F=>rZ F aY rfl λa hp=>gW B C l α a hp;have Ws:aJ e w K mg base 3 "over" ["u","v"] (cO K Nm Á Qp):=Wv.c2 X G λf fd F=>mC F Jh rfl λu v hp=>JX H u v hp;have Vj:aJ e w K mg base 2 "common_bottom" ["numbers"] (dg K HP Á gM):=Vv.c1 X G λf fd F=>oJ F dM rfl λus h=>oR r us h;have U7:aJ e w K mg base 3 "over_one_bottom" ["numbers"] (dg K HP Á EV):=Vb.c1 X G λf fd F=>oJ F gS rfl λus h=>ma Vj us h;have UE:aJ e w K mg base 4 "made_whole" ["x"] (dg K OW Á P1):=VR.c1 X G λf fd F=>oJ F ue rfl λus h=>xt o U7 us h;have Z:W7 e w K mg base:=t.c1 X G λf fd F=>rZ F aY rfl λa hp=>gW B C l α a hp;have Uu:aJ e w K mg base 1 "five_places" ["numbers"] (gE K QP Á RV):=VH.c1 X G λf fd F=>rZ F du rfl λa hp=>ud B UD a hp;have T1:aJ e w K mg base 132 "zero_of_five_among" ["numbers"] (gE K J8 Á ZF):=U2.c1 X G λf fd F=>rZ F b_ rfl λa hp=>ka B Z Uu a hp;have UX:aJ e w K mg base 3 "is_small" ["k"] (dg K (fun(_:Int)=>True) Á mr):=Wb.c1 X G λf fd F=>oJ F iC rfl λa _=>AG B j N i Tv a;have Vx:aJ e w K mg base 140 "zero_of_free" ["numbers"] (gE K J8 Á ZF):=D.c1 X G λf fd F=>rZ F gB rfl λa hp=>qB B T1 a hp;have Um:aJ e w K mg base 141 "zero_of_small" ["numbers"] (gE K (MV J8) Á ZO):=Vw.c1 X G λf fd F=>rZ F fI rfl λa hp=>qx B TU I Vx Ws UE a hp;have Up:W8 e w K mg base:=VD.c1 X G λf fd F=>Qq F qL rfl λa hp=>rQ B UX a hp.1 hp.2;have U5:Xe e w K mg base:=Wj.c1 X G λf fd F=>rZ F zO rfl λa hp=>DQ q Up Um a hp.1 hp.2;have Ua:Xh e w K mg base:=VI.c2 X G λf fd F=>mC F tX rfl λa c hp=>uu B a c hp;have UI:Xi e w K mg base:=Wk.c2 X G λf fd F=>mC F fS rfl λa c hp=>Dx B a c hp.1 hp.2;have UG:W9 e w K mg base:=VS.c2 X G λf fd F=>mC F fW rfl λa c _=>vT B a c;have Uv:Xf e w K mg base:=VJ.c2 X G λf fd F=>mC F cK rfl λa c hp=>t7 B UG a c hp;have UL:W_ e w K mg base:=V0.c3 X G λf fd F=>KN F cz rfl λa b c hp=>xX a b c hp.1 hp.2.1 hp.2.2;have UY:aJ e w K mg base 1 "_law_less" ["_law_number","_law_p"] (cO K (λn p=>n≠0/\2<=p/\p<2^31) Á xH):=Wc.c2 X G λf fd F=>mC F p5 rfl λa c hp=>zI a c hp.1 hp.2.1 hp.2.2;have Us:aJ e w K mg base 2 "_law_alone" ["_law_group","_law_p"] (cO K R6 Á Q0):=V1.c2 X G λf fd F=>mC F xp rfl λa c hp=>xQ B UL a c hp;have Ug:Xa e w K mg base:=Vi.c1 X G λf fd F=>oJ F ba rfl λa hp=>pe B a hp;have UZ:aJ e w K mg base 3 "_law_bars" ["_law_row_here","_law_p"] (cO K RC Á OA):=Wd.c2 X G λf fd F=>mC F iI rfl λa c hp=>AF B UY Us Ug a c hp;have UM:aJ e w K mg base 1 "_law_small" ["_law_cell"] (dg K (fun(_:Int)=>True) Á N3):=V2.c1 X G λf fd F=>oJ F dO rfl λa _=>xO B a;have P:Xb e w K mg base:=Wl.c2 X G λf fd F=>mC F eG rfl λa c hp=>CQ B UM a c hp.1 hp.2;have Uq:Xc e w K mg base:=VE.c1 X G λf fd F=>oJ F d_ rfl λa hp=>sL B a hp;have UH:Xd e w K mg base:=VT.c3 X G λf fd F=>O6 F cF rfl λa c d hp=>we B P Uq a c d hp.1 hp.2;have UP:Xj e w K mg base:=V3.c3 X G λf fd F=>O6 F ff rfl λa c d hp=>y8 B P UH a c d hp.1 hp.2;have UN:aJ e w K mg base 1 "_law_prime" ["_law_k"] (dg K (λk=>k<2^62) Á aT):=V4.c1 X G λf fd F=>oJ F ju rfl λa hp=>yj a hp;have UO:Xg e w K mg base:=V5.c1 X G λf fd F=>oJ F xv rfl λa hp=>yw B UN a hp.1 hp.2;have U0:aJ e w K mg base 143 "_law_held" ["_law_row_here"] (dg K R3 Á (λ_=>Á)):=We.c1 X G λf fd F=>oJ F iA rfl λa hp=>zK B U5 A Uv UO UZ a hp;exact oJ F Aw rfl λa hp=>Pn B Ua UI UP U0 A a hp
end L2.EP.K
open Lean in
local macro_rules|`(#print $s:str)=>do
  let r:=s.getString.toList.toArray
  let f←(Array.range (r.size/10)).mapM fun i=>do
    let n:=mkIdent (.str `PySem.W.Fast s!"tw{(r.extract (10*i) (10*i+10)).foldl (fun n c=>n*89+"#$%&'()*+,.0123456789:;<=>?@ABCDEFGHIJKLMNOPQRSTUVWXYZ[]^_`abcdefghijklmnopqrstuvwxyz{|}~".toList.idxOf c) 0}")
    `(theorem $n:ident:True:=.intro)
  return mkNullNode f
#print "3^k}6z=Nz979?M+S^ME2>Pkr.?pW*yM)UK=;BQZ:YLonO$IS1PQvGS{kL?7cO+){#_44TGJht,vj|^`yU@lDL_qEXS>sysjRfBH(R1;jOXSBUd4H+OI$AqzH+dXFCH'8+.Vw<u=sVlTl=.$`Ob'Tzc<_1[>c048:HYCnjJ,~#o0yOPcDR{%<Q1.lek{+U'$|2G},<k+MSVs~5Shfq?L[iW8si~0;1,]4X^qb%X9ha9X3dks.'hFc<:KoVN(QWn`vgSDBV=cMn'U+o:BVo,Cg4a#$#5lE4RrO.zJ'lD]z>>yfK{~KjZjPZf?T4|?7*}H1Cz`EKr;:enT`aMSeK_hD5?3R`4Kr<,H4rD(h&9TVBK^}]FOFo6X)XxAjPXM]:,2}ja|HlI=xnOEQycZqYV]Ui=@Yr(HDo)K5BYPU3nba&{h0J#2@sB401Z7sXUEHj}u$DEGtaEK%qr)J+<aIm4,s;DA9Z%yoX`$&+JGj8_^CsyD'1'[<DGv,;ni7fRU(u3>(2BxhN?)?C_a.tj&2{~'O'3WmQ@;mIgpk?{'Adk=CXT]N?yM9A*_>:m1)O~$U5WR@?Nw8#N32=4'bvWT`l86?]bs_F2rybtR$G|=ywg[r^YEV<r;L5&Xqf1*y=|UHr>3~8kv'5n>Q@W6{&F|cB_Lw8_q^BfX6EqFn.'palW@4WM*H|QQL3HEcbyTV3@>b;&$p@Ll>MlUu$n[goPiA'99%sg[biO%`$QRP#w6XABf~Y}cg>9<bmX2#2zF,ETcFe&w=JW4ax[ao<R?2Q]]B5Zm90#ErTha,}6|?9K&^Mm[0lh3L:OrkNtqvJ*50;I$'^P2Oye>w_^D.Pg#KN;_x#JG;|hPJ*mDH'EJ<RHk?|RRPi3sb%JKKDl>X+92'n[:w[{Fwm,O*FG~kKe`u^}L;vlEs|*$|=D*X~_2yd9?hENdqpU7uIK.D*Lg$BV(=W49Q)5z8;{+q&xrK.n:xJt6hc'&AVJjRK&3V%pB^A:|B3P&==%vc5|FWy'J5W{1@C*G^ERFp]e}YwI.*Z,_yfvRzI8E6?a.#2S4R{S.oPnqc)lz70_6Q{bD*W1L{{AWe$(g|0@)]E=49Ok,NX^N1Peal,=1]gzWV1O4dK'7(OWt35[5@w&P@eH(@:FohJHJj(*fKo$+~umGF~%OI4FE4'u&FzL7]ZY$tKvFy>3&Nv=}1tIA|9gMCB+;<.N<J$5Qlb91:{S.,tGIwJd&S*^fqPG3Q]Un{_'6*#bgB+V>yBr=2|7MAj1^'Sp%UZ>k+~k=)sHaSZEM;3g?hF5e1W[$|SJ^xu#<s1V32FRV83VR$7eiFnw*y4OI:H__EK>OBwqj=@H~OBW$B|9oa]PEl6cJKef9>YBoJtnJjuJ9YIHzJzhq[<c>)1]@_U0+2$@OlhNHiL+'>i,Fw.F#9'0(oA83$U$DJE+$,Ff0c9<rp3.x0OAUaG4~In^'U^@5`Z6i~>Cv=w7)ikSSWx0^AfY3>PQ;(LR{(4TW(2ur{]xPr.ch#YBjkDf#pX,jt0<x~)a(9$z&Fk,,g;#1IfN5^?KWL2);0R_M_pN)^UM3X+eHz4]IQ(,3mI*Ty?AxoY'Z*PDM:xs;b6`U]]6QiH^.8tII+7t:n'*#Rm(In)UY[tsWj`*0|XM~pac'4WcO#6y<CLRS$l2'']i_F>GfZLLu$Ih36bWN6l'F'<{2u(2v<Dv<{kVX_H8i@TP7,d7gR;+J`x{rE2=)mI6OsIU;Lod>f@b[xt`F6U5Ev~C:Jg@%biKX)CUCoL|*iwL0N{YRGRu?zV<,>G@8;dIHr|O%N(?}u&?JJ#wzZefS&,0PU#cm;aF7u@X>g#PUa~w#q*Zi<~GmS%fkn)=mM$(CD6TaO@(4HOjjO,nwtr%NLF|Z0UZ)eNQEj,SOVOT6X5gaQiR*NF:F1R?MMgz@BIWc4j]@*4#<7+{z7V|5d^WkA_e&4YIMhTFuFdXGEl6xC*^V|OvhRu(Cg]*#paNa}OOt'5'=:(<k]H7A|&dMW5BgR0vNQeE{8t,Uq;w[gXa0H=jH9Kf';o.KsSD4a#<)8WTm{gV_>DfRFH0>bk612*~}O&M?a&<EnhgJww$#[QsZm}yg=7@QOIGq_K_g?7vhW`Bm*[OJ9(Sq*f$+]0b7K.6:nlZS%jG.rx(e'Jei}<4d@PqFn%%JLO0{7U'Z.+,x76[3?5&CYI|B#41<?@d~*`A*aVO5J}2j*(U.Wx=iH{Z;uK4n]5w&kNFbO]RhP*W6C=zz[FhhJ,{%q#Qdrj%X]'@tW71*aQ`J'Cy$S_|'Zmrp>#*T>&}B@gp]cPVVSW._h:fv^1?7mpM:dVRQxI?sn8_SnWPu^]gOX`dRR5D$bL*0:+P,);S1&]v3ghQos'xy*7$1E>?{W)4Xe?xf<8<8N)@r7v,ek2s#Crpna*1Yr8hV2AQ=i1[EyuCFQ&HHa+3G?e~F]8IN'DIy8A]LTX+9|#EcjplWU'*PcHu#H35*D5`cFVlQMSkh:[tnuUk]I81])c37_@nX@(@H#AXlU~~ti_N?,g1}Lco9MO8So=&^4$qN0#;`wW6Yb6Em4t9z'@2QuHTOc5'Lb5+GQ?TPYXBHI=Zm:W}0;L%UiP)|4q$T`c~m@<jEFNTKh+l1w*>7MU$:@tHrbWaay<KVlbtH|EZB}a`@~HJEpF89.a2Rni#l2#Oeh%<y+4hG$rw:Y)'}Bg@=(9%yPT6oT{u$BgqrHmc^~Amg_%=kSPUThagC2p<UpIilOk[EL=:@gQx0jOiqa#X^=ph;0}_B?p$~23|$;F+U6['|8bO*'1>JS%(x^R77M>]sPPs5z(GUNI?smND6}yC{;tGEm(LzP}RteF^uRNbf4zk%)qZ|;>n5YAgLXQz#urO.vCY<FkC4D;*m%n{&TpkG;nsi'fM1r;JSF`3DDNx't*X<B<x@zRHu=,NW=<dCqzE.Y9yqm)^azA,p_CY*Zf0i8AbcD5[]Z$]Iky@JiviuuS?8):'frn'7REsMA<hvXq,be?wjK$HGJFzRD.F4x],,d)PBlGk:kI;?#+;Nl#>CuE8>AfFpgZMKRD<?M;boa(0(:lo9BZp3fTfY$Qh8?3H2@}mm3reRc>]IJph_pT'7xxzu#sHLOp$O`1~bHNtyv]m.dga5oH#]nO'UNUhSr4cKKT.MDa9$)V&x?DIJn<0IS8m9Aq95DVGdn3TJ#0Q,R5r)=f7$KeRB`PF528gK,?g4;JE#3%G4D6<cCnB(xmoAqo~+$uVFzYV`j8p]]j'1&s6Y|~SoO)LJ.U.yrJ#U4ed:vtgWR=pfuNYus]`8&x>fe,8:>Mg`i#y~2i=QOYjGqy~l08~)2he<Zo8.hCp<7b46$@:,kD~pJUV;Q?'p.w0*S1:`n2W~'~}#M)50MRIhwEx_{oL1vJZ;lJpfhrJr2AknrB.LX~~4eL.(Znw,@YFO@Ss:e}b:<Qm^Nas`O81Zcmw^nlg>h#.,q^,(n=h[S:P#S}9:},@311;H|BYkxiPv:')He$5&A%ip;2[NpJxMNTkAC}pxn^iccYH;bEKs*L@JF(^j[gljo0oG??(:ugz74[orT'?={S^|9J<@Z6.CBU.}X^w_yXT$q:PG7cz"
end
open PySem PySem.W PyProof.Rows
set_option maxRecDepth 100000 in
set_option maxHeartbeats 0 in
theorem PySem.Challenge.cw_everyplace_k48_zeros_of_more_holds : PySem.Challenge.rw_everyplace_k48_zeros_of_more.Holds := by
 w_on; o_law; k_head; (case hw => w_witness2)
 k_fill
 refine L2.HD (l := PySem.Challenge.rw_everyplace_k48_zeros_of_more) (n := 63) (k := 144) (x := "_law_script") (CX := L2.pN) (sp := L2.EP.yp) rfl (by decide) rfl ⟨rfl, by decide, by decide⟩ (fun w h Y => PySem.W.kIn_of Y) ?F ?S ?C
 case F =>
  intro w mg fa h KX G hmg
  have B : L2.EP.Bu mg := by
   refine' L2.EP.QE (K := L2.qX KX) KX G ?z1 ?z2 ?z3 ?z4 ?z5 ?z6 ?z7 ?z8 ?z9 ?z10 ?z11 ?z12 ?z13 ?z14 ?z15 ?z16 ?z17 ?z18 ?z19
   all_goals (dsimp only [L2.qX]; k_is)
  have TH : L2.EP.ui mg "GREAT_PRIMES_FROM" 32768 := by
   refine' L2.EP.ui.mk (K := L2.qX KX) KX G ?ga0
   (case ga0 => dsimp only [L2.qX]; k_is)
  have Tw : L2.EP.ui mg "GREAT_FROM" 1073741824 := by
   refine' L2.EP.ui.mk (K := L2.qX KX) KX G ?ga1
   (case ga1 => dsimp only [L2.qX]; k_is)
  have Ut : L2.EP.ui mg "LONGEST" 8 := by
   refine' L2.EP.ui.mk (K := L2.qX KX) KX G ?ga2
   (case ga2 => dsimp only [L2.qX]; k_is)
  have To : L2.EP.xI (L2.qX KX) mg "SMALL_PLACES" [0, 2, 3, 5, 7, 11, 13] := by
   refine' L2.EP.xI.mk (K := L2.qX KX) KX G ?ga3 ?gl3 ?gz3 ?gv3
   (case ga3 => dsimp only [L2.qX]; k_is); (case gl3 => dsimp only [L2.qX]; k_is); (case gz3 => decide); (case gv3 => repeat' (first | exact .nil | refine .cons ⟨_, rfl⟩ ?_))
  have T_ : L2.EP.xI (L2.qX KX) mg "AT_NOUGHT" [1, -1] := by
   refine' L2.EP.xI.mk (K := L2.qX KX) KX G ?ga4 ?gl4 ?gz4 ?gv4
   (case ga4 => dsimp only [L2.qX]; k_is); (case gl4 => dsimp only [L2.qX]; k_is); (case gz4 => decide); (case gv4 => repeat' (first | exact .nil | refine .cons ⟨_, rfl⟩ ?_))
  have UB : L2.EP.xI (L2.qX KX) mg "AT_TWO" [1, 3, 5, 7, 2, 6, 10, 14] := by
   refine' L2.EP.xI.mk (K := L2.qX KX) KX G ?ga5 ?gl5 ?gz5 ?gv5
   (case ga5 => dsimp only [L2.qX]; k_is); (case gl5 => dsimp only [L2.qX]; k_is); (case gz5 => decide); (case gv5 => repeat' (first | exact .nil | refine .cons ⟨_, rfl⟩ ?_))
  have UD : L2.EP.ui mg "ENOUGH" 5 := by
   refine' L2.EP.ui.mk (K := L2.qX KX) KX G ?ga6
   (case ga6 => dsimp only [L2.qX]; k_is)
  refine L2.EP.K.fin (K := L2.qX KX) KX G hmg B TH Tw Ut To T_ UB UD ?_ ?_ ?_ ?_ ?_ ?_ ?_ ?_ ?_ ?_ ?_ ?_ ?_ ?_ ?_ ?_ ?_ ?_ ?_ ?_ ?_ ?_ ?_ ?_ ?_ ?_ ?_ ?_ ?_ ?_ ?_ ?_ ?_ ?_ ?_ ?_ ?_ ?_ ?_ ?_ ?_ ?_ ?_ ?_ ?_ ?_ ?_ ?_ ?_ ?_ ?_ ?_ ?_ ?_ ?_ ?_ ?_ ?_ ?_ ?_ ?_ ?_ ?_ ?_ ?_ ?_ ?_ ?_ ?_ ?_ ?_ ?_ ?_ ?_ ?_ ?_ ?_ ?_ ?_ ?_ ?_ ?_
  all_goals (dsimp only [L2.qX]; refine' L2.EP.Df.mk ?a ?l ?c ?k; (case a=>k_is);(case l=>k_is);(case c=>k_is);(case k=>k_is))
 case S => exact fun K H a ns hl hO hS => L2.EP.C9 K H a ns hl hS
 case C => exact fun _ _ _ _ z => z
