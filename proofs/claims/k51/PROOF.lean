import PyProof.Rows.All
import Wide.All
import OpenK.AllK
import Wide.FinOn
import Lean
import PyProof.EqAt
import PyProof.EqKinds
import PyProof.TupleCall
import PyProof.NeData
import PyProof.P3Eq
import KE.KTryMore
import PyProof.ExcArgs
import PyProof.Rows.CountFlat
import PyProof.ExcBaseAll.ValueError
import PyProof.Conv_int_bool
import PyProof.IsiPairs
import PyProof.IsiNone
import PyProof.IsiStr
import PyProof.IsiBool
import PyProof.IsiHeapPairs
import KE.KRevIter
import PyProof.CollectIter
import PyProof.WalksMore
import PyProof.Rows.SortRunsK
import KE.KSortKey
import PyProof.Rows.RuleN_abs
import PyProof.Rows.CallKwBuiltin
import PySem.Challenge.RW_everyplace_k51_whole_a_zero_or_a_place
open PySem renaming wpAny_bind->W9,wpAny_pure->Xd,wpAny_ite_split->Yt,wpAny_newObj_type->Yx,wpAny_call_entry->YH,wpAny_truthy_bool->YM,wpAny_callSpecial?_slot->YW,wpAny_holding->YZ,wpAny_Call_Name_kw->Zk,wpAny_mono->Zq,wpAny_typeNameOfWhole_keyiter->Zz,mem_of_lookup->ZC,wpAny_fieldsOf->ZG,wpAny_setField->ZH,sizeLine_eq->ZJ,wpAny_passesOwn->ZP,wpAny_setState_of->ZV,wpAny_typeNameOf_keyiter->aab,wpAny_setEntries_of->aac,wpAny_attempt->ϸ,codeAny_builtin->aak,codeAny_mono->Ϸ,fits_of_scanBound->aaW,plainId_quiet->aa3,wpAny_isOneOf_keyiter->aa_,wpAny_newList->abx,wpAny_pyIter_list->abE,wpAny_pyIter_slot->abJ,wpAny_dictEntries->abO,wpAny_askSetting->ab7,wpAny_isInstance->ab8,wpAny_execs_nil->acf,pushCells_keeps->acg,wpAny_dictEpoch->acn,size_of_entries->aco,Value->Ä,starEach->Å,Shared->Æ,Addr->Ç,mainGlobals->Ì,wpAny->Í,model->Î,Str->Ï,Program->Ð,Stmt->Ñ,Expr->Ô,World->Ú,eval->Û,foldedSetIterable->Ü,Paired->Ý,Heap->ß,Around->à,compareOp->ä,backTo->è,cellsFrom->ê,Pos->ì,SetTable->î,NameKind->ï,FuncData->ð,behindInMarks->ô,swapsWith->õ,sysModules->ö,assignEach->ø,Obj->û,rawInt->ü,PyData->ý,intKind->Ą,Scope->ą,binaryOp->ċ,Builtin->č,pyNext->Ď,PassesOwn->ď,codeAny->Ē,bootBuiltins->ē,sliceBounds->ė,cLine->Ę,assign->Ě,IntMulOk->ě,atKey->Ĝ,attributeBase->Ġ,scanBound->Ģ,bindArgs->ģ,holding->Ĥ,letOwnedTupleGo->Ħ,firstArgMember->Ī,pickOrder->ī,callerA->Ĭ,BindsTo->Į,pyIter->ı,Env->ĵ,setNext->ĸ,relayAll->Ĺ,relabel->ĺ,tupleKind->Ŀ,IsPart->ł,IsRangeIter->ņ,valueAt->ň,wpAny_rule->ŋ,typeIs_int->Ō,newFunctionEnv->ō,isSubtype_type->Ŏ,call_meets->ŏ,again->Ő,Params->ő,CmpOp->ŕ,wpAny_standAt->ś,wpAny_comprehension_free->Ŝ,call->ş,lastMarks->ŧ,bindL->Ũ,bindC->ũ,wpAny_typeOf->ų,wpAny_pyNext_range_end->Ŵ,wpAny_pyIter_rangeiter->ŵ,seqIndex_neg->ŷ,isTrue->Ÿ,getItem->Ź,Result->ż,Keyword->Δ,wpAny_isTrue_Compare1->Θ,builtinLookup_eq_fast->Ι,wpAny_of_eq->Ω,wpAny_field->ζ,seqIndex_of->η,numAt_eq->θ,lookup_relabel_local->ν,codeAny_call_builtin->ξ,GenState->χ,KeyKind->ύ,wpAny_setItem_heap->ϕ,wpAny_pyIter_range->ϖ,wpAny_load->ϗ,wpAny_Name->Ϙ,tupleKind_room_in1->ϙ,builtinsNs->ϛ,Tok->Ϝ,wpAny_storeSet_of->Ϣ,wpAny_setEpoch_of->ϣ,wpAny_pyIter_enum->Ϥ,storedH->ϥ,standAt->Ϧ,setItem->ϧ,Reads->ϫ,wpAny_pyIter_zip->ϻ
open List renaming mem_cons->Xa,not_mem_nil->Xe,mem_of_getElem?->Xg,getD_eq_getElem?_getD->Xh,mem_cons_of_mem->Xj,length_map->Xk,getElem?_eq_some_iff->Xl,getElem?_eq_getElem->Xn,mem_cons_self->Xo,mem_map->Xs,mem_singleton->Xv,getElem?_map->Xw,size_toArray->XB,length_append->XD,mem_append_right->XG,map_cons->XQ,all_eq_true->XX,mem_append_left->X0,mem_append->X2,length_cons->Yd,mem_filter->Ye,mem_range->Yh,nodup_cons->Ym,getElem?_zip_eq_some->Yn,length_set->Yr,mem_iff_getElem?->Yu,filter_cons_of_neg->Yv,filter_cons_of_pos->Yw,take_length->YB,replicate_succ->YD,any_eq_true->YI,getElem?_append_left->YJ,pairwise_cons->YV,length_eq_zero_iff->YX,getElem_mem->YY,getElem?_append_right->Y0,take_add_one->Y2,map_append->Y3,find?_cons->Y5,getElem?_eq_none->Y7,length_take->Y8,length_range->Zb,any_cons->Zi,getElem?_set_ne->Zp,flatten_cons->Zu,pairwise_map->Zx,lookup_cons->ZE,getElem?_set_self->ZI,take_of_length_le->ZL,length_zip->ZR,mem_iff_getElem->Z4,nodup_nil->Z7,length_drop->Z9,nodup_range->aaa,append_nil->aah,drop_eq_nil_of_le->aao,eq_nil_of_length_eq_zero->aap,map_nil->ϵ,map_map->ϴ,cons_append->aaB,nil_append->aaE,getElem?_replicate->aaS,nodup_append->aaX,filter_cons->aa5,length_replicate->aa6,length_singleton->aa7,take_append_drop->aa8,of_mem_zip->aba,mem_erase_of_ne->abe,filterMap_cons->abk,filter_eq_self->abl,map_congr_left->abn,take_succ->abo,take_zero->abp,foldl_append->abG,ext_getElem?->abL,flatMap_cons->abP,drop_eq_getElem_cons->abR,pairwise_iff_getElem->abS,getElem?_eq_none_iff->abV,mem_or_eq_of_mem_set->abW,getElem?_take_of_lt->abY,mem_flatMap->ab_,map_id'->aca,getLast?_cons_cons->acd,range_succ->aci,length_nil->acm,filter_eq_nil_iff->acv,pairwise_lt_range->acw,length_filter_le->acx,getElem?_toArray->acB,all_cons->acE,replicate->È,range->Ò,toArray->â,lookup->Ĳ,length->ĳ,perm_cons_erase->ŗ,mem_of_mem_take->Ř,length_eraseIdx->ř,getElem?_mapIdx->Ś,getElem?_range->Š,flatMap_append->š,getElem?_take->Ů,foldl->ů,filter_append->Ű,take_sublist->ſ,getElem_drop->Α,append_assoc->Β,getElem_map->Ρ,getElem_inj->Τ,flatMap_nil->Υ,forIn_cons->ρ,foldl_cons->ς,filter_nil->τ,forIn_nil->ϐ,drop_zero->ϑ,all_map->ϯ
open Int renaming mul_ne_zero->Xb,mul_le_mul_of_nonneg_left->Xp,le_of_dvd->Xt,dvd_of_emod_eq_zero->Xu,mul_one->XC,pow_succ->XE,emod_lt_of_pos->XF,natAbs_mul->XN,emod_nonneg->XO,mul_assoc->XT,dvd_trans->XU,mul_comm->XY,mul_zero->XZ,pow_zero->X1,mul_nonpos_of_nonneg_of_nonpos->X5,mul_pos->X7,fdiv_eq_ediv_of_nonneg->X9,mul_le_mul->X_,emod_eq_zero_of_dvd->Ya,one_mul->Yb,lt_or_gt_of_ne->Yf,mul_le_mul_of_nonneg_right->Yg,le_refl->Yi,pow_pos->Yj,fmod_eq_emod_of_nonneg->Yl,mul_eq_zero->Yo,dvd_neg->Yp,emod_add_mul_ediv->Ys,mul_neg_of_neg_of_pos->Yy,pow_add->Yz,natCast_mul->YA,mul_emod->YC,natAbs_dvd_natAbs->YE,mul_pos_of_neg_of_neg->YK,gcd_dvd_right->YO,mul_fdiv_cancel_left->YQ,mul_nonneg->YR,lt_or_le->YS,dvd_natAbs->Y1,emod_two_eq->Y4,gcd_dvd_left->Y9,mul_nonpos_of_nonpos_of_nonneg->Zc,dvd_refl->Zf,mul_add->Zg,dvd_sub->Zh,lt_or_eq_of_le->Zn,le_of_lt->Zs,lt_trichotomy->Zw,emod_eq_of_lt->Zy,natCast_dvd_natCast->ZA,mul_sub->ZK,mul_nonneg_of_nonpos_of_nonpos->ZU,emod_emod_of_dvd->ZX,mul_ediv_cancel'->ZZ,toNat_of_nonneg->aad,gcd_pos_of_ne_zero_left->aay,dvd_add->Ϻ,ediv_nonneg->aaF,mul_neg_of_pos_of_neg->aaG,natCast_pow->aaH,zero_mul->aaK,gcd_zero_right->aaL,dvd_zero->aaO,add_zero->aaP,fmod_nonneg_of_pos->aa0,zero_add->abc,le_total->abd,gcd_eq_zero_iff->abm,mul_pow->abr,fmod_lt_of_pos->abt,dvd_of_mul_dvd_mul_left->abu,eq_of_mul_eq_mul_right->abA,add_mul_emod_self_left->abB,emod_add_emod->abN,eq_of_mul_eq_mul_left->abQ,gcd_comm->ab1,le_trans->ab2,dvd_mul_left->ab9,natCast_add->ach,dvd_coe_gcd->acj,mul_neg->acr,pow_mul->acs,pow_one->acu,ediv_lt_of_lt_mul->acy,natAbs_dvd->acD,natAbs_eq->acG,zero_dvd->acI,add_comm->acK,gcd->Ê,toNat_natCast->Õ,neg_mul->Ţ,natAbs_of_nonneg->ţ,natAbs_mul_self->ű,natCast_nonneg->Ε,add_sub_cancel->Ζ,mul_left_comm->Φ,dvd_mul_right->Χ,ediv_le_self->υ,pow_ne_zero->ϓ,neg_one_mul->ϔ,natAbs_neg->Ϟ
open Classical renaming byContradiction->Xf,not_imp->abH,epsilon->ó,propDecidable->Ķ
open PySem.Heap renaming get?_push_of_some->Xi,lt_size->Xr,get?_push_size->Xz,get?_update_self->Y6,size_push->Zl,SameBut->Č,get?_update_other->Ŋ,get?_push_ne->Η,size_update->Ψ
open Nat renaming le_refl->Xm,lt_of_lt_of_le->XR,ne_of_lt->XS,le_of_ble_eq_true->X6,le_trans->X8,zero_le->Yc,le_of_lt->YF,lt_succ_of_lt->YN,eq_of_beq_eq_true->YT,not_lt_zero->Ze,lt_succ_self->Zj,pow_le_pow_right->Zr,lt_irrefl->ZS,mul_le_mul_right->ZY,le_succ->Z6,pow_succ->Z_,lt_of_le_of_lt->aai,two_pow_pos->aaj,le_mul_of_pos_left->aam,mod_eq_zero_of_dvd->aan,mul_le_mul->aax,not_lt->aaA,eq_zero_or_pos->aaJ,lt_or_eq_of_le->aaM,le_mul_of_pos_right->aaU,le_of_succ_le->aaV,dvd_of_mod_eq_zero->aa2,beq_eq->abg,log2_lt->abq,one_lt_two_pow->abv,le_of_dvd->abz,le_of_mul_le_mul_left->abU,ne_of_gt->abX,le_of_not_lt->ab0,lt_succ_iff_lt_or_eq->ab3,min_eq_right->ab5,lt_trans->ab6,min_eq_left->ack,le_add_left->acp,le_of_eq->acH,lt_or_ge->acJ,beq->æ,log2->į,ble->œ,lt_succ_of_le->Ξ,le_of_lt_succ->Ο,mul_lt_mul''->ο,min_le_right->π,min_le_left->Ϗ,mul_assoc->Ϯ
open Bool renaming false_ne_true->Xx,and_eq_true->XW,eq_iff_iff->Yk,and_eq_true_iff->YG,or_eq_true->Zd,false_eq_true->Zm,beq_eq_decide_eq->aav,true_and->aaC,or_true->abf,eq_false_iff->abF,not_eq_true'->abM,true->Á,false->Â,false_or->Ϡ,true_or->ϳ
open Option.some renaming inj->Xy,injEq->aaq
open Array renaming length_toList->XJ,getElem?_eq_getElem->YL,getElem?_toList->Zo,getElem_toList->Z0,getElem?_eq_none->aa1,toList_push->abI,getD->Ĉ,append_assoc->Ŧ,toList->ϡ
open PySem.W renaming mg_none_of->X3,cellsFrom_some->aal,mg_of->aby,Frag->Ã,nsIn->Ö,fnOf->ç,keepIn->Ċ,codeIn->ġ,methodObj->ħ,OpenLaw->ū,WalkO->Μ
open PySem.Heap.SameBut renaming update->X4
open PyProof.Rows renaming callWith_type1->YU,slot_tuple_getitem->aae,get?_update_seq->aaI,boot_list->aaZ,callWith_builtin1->abb,listUpdate_at->abC,seqObj->ã,IntsAre->í,envOfC->ę,AllBare->ĥ,arrOf->Ń,Constant_none->Ť,subscriptTail_builtinR->Ŷ,sortedHeap->Ϛ
open PySem.F renaming called_set->Y_,slot_dict_keyiterator_next->Za,args_dict_keyiterator_next_1->abh,entry_dict_keyiterator_next->abi,plain_extend_loop->abT,plainAttrs_list->acb,plain_list_iadd->ace,plain_set_new->acA,slot_set_iter->acC,slot_dict_iter->ϟ,slot_int_rmul->ϱ
open List.Pairwise renaming imp_of_mem->Zt,sublist->acz,nil->ľ
open Ne renaming symm->ZD
open PyProof.Rows.F renaming plain_set_update_loop->ZM,entry_set_update_loop->aaN
open PySem.Obj renaming data_mapFields->ZN,isFreed_of_fields->aa9,cls_mapFields->abK,mapSeq->Ù,mapFields->ć,putSet->ž
open PySem.PassesOwn renaming never->ZQ
open PySem.Around renaming under_plainId->Z5
open Option renaming isSome_iff_exists->Z8,isSome_map->aar,some->À,some_ne_none->Œ,isSome_some->Ŗ,getD_some->Ŭ,getD_none->ŭ,map_some->Ž,map_map->Ν,none->ϝ,map->ϭ
open PySem.Paired renaming length->Ϲ,snoc->ŉ
open Sum.inr renaming inj->aaY
open PySem.Calls renaming Name_function_global->abw,callWith_builtin->Ň,spliced_cons->ť,spliced_nil->Ų
open PySem.Value renaming isInt_shape->abD,none->ò,type->ú,ref->þ,int->ă,bool->ļ,str->ź,isStrOf->ό,isInt->ϩ
open Prod renaming ext->abZ,snd->ώ
open Sum.inl renaming inj->acq
open Prod.mk renaming injEq->acF
open True renaming intro->É
open PySem.Builtin.Int renaming intBits->Ë
open PySem.Builtin.Range renaming rangeSize->Ó,small->ķ
open PySem.SetTable renaming below->Ø,grown->Ā,Probe->Ū,laid->Ż
open PySem.NameKind renaming free->Þ,cell->á
open Sum renaming inr->å,inl->ĉ
open PySem.PyData renaming eqv->é,canLayAll0->ë,eqvAll->đ,depthAll->ĕ
open PySem.Str renaming ofString->ñ
open Lean renaming Syntax->ù
open PySem.Builtin.Slice renaming slicePlaces->ÿ,sliceAdjust->Ĕ,sliceApplied->Ĩ
open PySem.Builtin.Tuple renaming tupleExact->ā
open False renaming elim->Ă
open ForInStep renaming yield->Ć
open PySem.Builtin.List renaming listExtendWith->Đ,listTooLong->Ė,listLengthHint->ĩ,listSameRef->ĭ
open PySem.SetTable.probe renaming go->ĝ
open PySem.SetTable.below renaming go->Ğ
open PySem.Builtin.Dict_items renaming ownsTuple->ğ
open List.Perm renaming cons->İ
open PySem.Builtin.Dict renaming showsAll->Ĵ
open PySem.pickOrder renaming go->Ļ
open PySem.SeqAt.EqAt renaming bool_bool->Ľ,int_bool->ŀ,bool_int->Ł,str_int->ń,int_str->Ņ
open Iff renaming rfl->Ŕ
open PySem.SeqAt renaming notIn_listAt->ŝ,EqAt->Ş,in_listAt->Λ
open PySem.SetTable.Met.empty renaming injEq->Κ
open PySem.Builtin.Frozenset renaming updateFrom->ψ,slot0->ω,sizeOf->ϊ,newClass->ϋ
open PySem.IsRange renaming new->ϒ
open PySem.Walks renaming range->Ϩ
open PyProof.Rows.SortSt renaming mk'->Ϫ
open Or renaming inr->Ϭ
open PySem.Heap.IsSliceOf renaming new->ϰ
open PySem.CmpOp renaming NotIn->ϲ
set_option Elab.async false
set_option maxHeartbeats 8000000
set_option linter.all false
set_option compiler.extract_closed false
set_option genInjectivity false
set_option genSizeOf false
set_option bootstrap.genMatcherCode false
set_option maxRecDepth 100000
theorem zra0(h:True:=by rfl):True:=h
def zra:ù:=zra0._auto_1
theorem zrb0(h:True:=by decide):True:=h
def zrb:ù:=zrb0._auto_1
theorem zrc0(h:True:=by intro _;rfl):True:=h
def zrc:ù:=zrc0._auto_1
theorem zrd0(h:True:=by first|exact .inl rfl|exact .inr rfl):True:=h
def zrd:ù:=zrd0._auto_1
theorem zre0(h:True:=by first|exact Or.inl rfl|exact Ϭ (Or.inl rfl)|exact Ϭ (Ϭ rfl)):True:=h
def zre:ù:=zre0._auto_1
theorem zrf0(h:True:=by first|exact .inl rfl|exact .inr rfl|assumption):True:=h
def zrf:ù:=zrf0._auto_1
theorem zrg0(h:True:=by stop rfl):True:=h
def zrg:ù:=zrg0._auto_1
theorem zrh0(h:True:=by decide +kernel):True:=h
def zrh:ù:=zrh0._auto_1
theorem zri0(h:True:=by first|exact Or.inl rfl|exact Ϭ rfl):True:=h
def zri:ù:=zri0._auto_1
theorem zrj0(h:True:=by intro _ _;rfl):True:=h
def zrj:ù:=zrj0._auto_1
theorem zrk0(h:True:=by intro _ _ _ _ _ _ us e;first|(cases SS e;rfl)|(obtain⟨_,rfl⟩:=SW e;rfl)|(obtain⟨_,_,rfl⟩:=ln2 e;rfl)|(obtain⟨_,_,_,rfl⟩:=Su e;rfl)|(obtain⟨_,_,_,_,rfl⟩:=Si e;rfl)):True:=h
def zrk:ù:=zrk0._auto_1
noncomputable section
open Lean in
local macro_rules|`(fun $xs* => $b)=>do
  unless xs.any (·.raw.isOfKind ``Parser.Term.anonymousCtor) do Macro.throwUnsupported
  let (c,ys)←xs.foldrM (init:=(b,(#[]:Array Syntax))) fun x u=>withFreshMacroScope do match x with
    |`(⟨$q,*⟩)=>
      let e:=q.getElems
      if e.size<2 then Macro.throwUnsupported
      let h←`(h)
      let a:=e[0]!
      let r:=e.extract 1 e.size
      let c:=u.1
      let d:=e[1]!
      let c←if r.size=1 then `(($h).elim fun $a $d=>$c) else `(($h).elim fun $a ⟨$r,*⟩=>$c)
      return (c,u.2.push h)
    |_=>return (u.1,u.2.push x)
  `(fun $(ys.reverse.map fun y=>⟨y⟩)* => $c)
open Lean in
local macro_rules|`(⇑$x)=>`($x $(mkIdent `P) $(mkIdent `w) $(mkIdent `K) $(mkIdent `mg) $(mkIdent `base))
local macro_rules|`(#[$x,$y,*])=>`(⟨$x,$y,*⟩)|`(#[$x])=>`(⟨$x⟩)
local macro_rules|`(↑$x)=>`(by simpa using $x)
local macro_rules|`(tactic|stop $t)=>`(tactic|with_unfolding_all $t)
open Lean in
local macro_rules|`(.$x)=>match x.getId.toString with|"a"=>`(by decide)|"b"=>`(by lia)|"c"=>`(by first|exact List.Mem.head _|exact List.Mem.tail _ (List.Mem.head _)|exact List.Mem.tail _ (List.Mem.tail _ (List.Mem.head _))|exact List.Mem.tail _ (List.Mem.tail _ (List.Mem.tail _ (List.Mem.head _)))|simp)|"d"=>`(by decide +kernel)|"e"=>`(by omega)|"f"=>`(by dsimp only;lia)|"g"=>`(by (first|lia|omega))|"A"=>`($(mkIdent `ae) 0)|"B"=>`($(mkIdent `ae) 1)|"C"=>`($(mkIdent `ae) 2)|"D"=>`($(mkIdent `ae) 3)|"E"=>`($(mkIdent `Î) $(mkIdent `X.prog) $(mkIdent `X.w))|"F"=>`($(mkIdent `off) $(mkIdent `H) $(mkIdent `O))|"G"=>`($(mkIdent `iV) $(mkIdent `X) ($(mkIdent `cN) $(mkIdent `X) $(mkIdent `tn) $(mkIdent `js)) $(mkIdent `ZB) $(mkIdent `C) $(mkIdent `s) $(mkIdent `H) $(mkIdent `fp))|_=>Macro.throwUnsupported
abbrev W_:=@if_neg
abbrev Xc:=@if_pos
abbrev Xq:=@of_decide_eq_true
abbrev XA:=@or_false
abbrev XH:=@decide_eq_false
abbrev XI:=@decide_eq_true
abbrev XM:=@of_decide_eq_false
abbrev Yq:=@decide_eq_true_iff
abbrev Zv:=@decide_eq_true_eq
abbrev ZT:=@if_false
abbrev aat:=@if_true
abbrev aaz:=@beq_self_eq_true
abbrev aaQ:=@beq_iff_eq
abbrev aaR:=@dif_pos
abbrev aaT:=@decide_eq_false_iff_not
abbrev aa4:=@decide_eq_decide
abbrev abj:=@beq_eq_false_iff_ne
abbrev ab4:=@not_or
namespace L2
open PySem PySem.Spec PyProof.Rows
variable{s:Æ}{x:Ï}{b a:Ç}{Z2:List (Ç×û)}{w:Ú}{u:Ä}{op:ŕ}{K:Ã}{A:à}{pos:ì}{P:Ð}{i t' k n:Nat}{h:ß}{e tg c:Ô}{us:List Ä}{ch fp:List Ç}{α:Model}{body:List Ñ}{f:Ä->Ä->Sem Ä}
abbrev Key:=Sum Int Ï
def u5:Key->Ä->Bool
 |.inl k,v=>ϩ k v
 |.inr x,v=>ό x v
def RG(w:Ú):Key->Int
 |.inl k=>hashInt k
 |.inr x=>hashStr w x
def cw:∀{k:Key} {v:Ä},u5 k v=Á->(∃i t,k=ĉ i/\v=ă i t)\/(∃x t,k=å x/\v=ź x t)
 |.inl i,v,h=>by
  obtain⟨t,e⟩:=abD (k:=i) (v:=v) h;exact .inl #[i,t,rfl,e]
 |.inr x,v,h=>by
  obtain⟨t,e⟩:=Value.isStrOf_shape (x:=x) (v:=v) h;exact .inr #[x,t,rfl,e]
def DE(i:Int)(t:Ϝ):u5 (.inl i) (.int i t)=Á:=by simp[u5,ϩ]
def CP(x:Ï)(t:Ϝ):u5 (.inr x) (.str x t)=Á:=by simp[u5,ό]
def MN(a b:Int):decide ((ĉ a:Key)=ĉ b)=(a==b):=by
 by_cases e:a=b
 .subst e;simp
 .have h:¬(ĉ a:Key)=ĉ b:=λq=>e (acq q);rw[XH h];exact(abj.mpr e).symm
def Mj(a b:Ï):decide ((å a:Key)=å b)=decide (a=b):=by
 by_cases e:a=b
 .subst e;simp
 .have h:¬(å a:Key)=å b:=λq=>e (aaY q);rw[XH h,XH e]
def MB(a:Int)(b:Ï):decide ((ĉ a:Key)=å b)=Â:=XH (λq=>nomatch q)
def N1(a:Ï)(b:Int):decide ((å a:Key)=ĉ b)=Â:=XH (λq=>nomatch q)
noncomputable def dR(prog:Ð)(w:Ú):ύ prog w Key where
 is:=u5
 hash:=RG w
 inj:=λv a b ha d=>by
  rcases cw ha with⟨i,t,rfl,rfl⟩|⟨x,t,rfl,rfl⟩
  .rcases cw d with⟨j,u,rfl,e⟩|⟨y,u,rfl,e⟩
   .injection e with e1 _;rw[e1]
   .exact nomatch e
  .rcases cw d with⟨j,u,rfl,e⟩|⟨y,u,rfl,e⟩
   .exact nomatch e
   .injection e with e1 _;rw[e1]
 byValue:=λk v h=>by
  rcases cw h with⟨i,t,rfl,rfl⟩|⟨x,t,rfl,rfl⟩<;>rfl
 pyHash:=λc h=>by
  rcases cw c with⟨i,t,rfl,rfl⟩|⟨x,t,rfl,rfl⟩
  .exact wpAny_pyHash_int h
  .exact wpAny_pyHash_str h
 eqBool:=λf c h=>by
  rcases cw f with⟨i,t,rfl,rfl⟩|⟨x,t,rfl,rfl⟩
  .rcases cw c with⟨j,u,rfl,rfl⟩|⟨y,u,rfl,rfl⟩
   .rw[MN] at h;exact wpAny_eqBool_int h
   .rw[MB] at h;exact Ņ i t y u _ _ _ _ h
  .rcases cw c with⟨j,u,rfl,rfl⟩|⟨y,u,rfl,rfl⟩
   .rw[N1] at h;exact ń x t j u _ _ _ _ h
   .rw[Mj] at h;exact wpAny_eqBool_str h
 «strs»:=λk x t v h=>by
  rcases cw h with⟨i,u,rfl,e⟩|⟨y,u,rfl,e⟩
  .exact nomatch e
  .injection e with e1 _;subst e1;cases v<;>rfl
def ym(prog:Ð)(w:Ú)(i:Int)(t:Ϝ):(dR prog w).is (.inl i) (.int i t)=Á:=DE i t
def ya(prog:Ð)(w:Ú)(x:Ï)(t:Ϝ):(dR prog w).is (.inr x) (.str x t)=Á:=CP x t
def bI(b:Bool):Int:=if b then 1 else 0
noncomputable def Ph(k:Int)(v:Ä):Bool:=match v with
 |.int i _=>i==k
 |.bool b=>bI b==k
 |_=>Â
def cX{k:Int}{v:Ä}(h:Ph k v=Á):(∃t,v=ă k t)\/∃b,k=bI b/\v=ļ b:=by
 cases v with
 |int i t=>exact .inl #[t,by rw[eq_of_beq (show(i==k)=Á from h)]]
 |bool b=>exact .inr #[b,(eq_of_beq (show(bI b==k)=Á from h)).symm,rfl]
 |_=>exact nomatch h
def xN{prog:Ð}{E:Ä->Æ->Prop}{b:Bool}{Q:Int->Æ->Prop}(h:Q (hashInt (bI b)) {s with toks:=s.toks+1}):Í (Î prog w) A (pyHash (.bool b)) Q E s:=by
 refine PySem.W.pyHash_slot (T:="bool") rfl F.slot_bool_hash entry_int_hash (args_int_hash _) (beq_builtin_none _) (.inl rfl) ?_;cases b
 .exact(show Í _ _ (do ret (<-mkInt 0)) _ _ s from W9 (wpAny_mkInt (Xd #[0,_,rfl,h])))
 .exact(show Í _ _ (do ret (<-mkInt 1)) _ _ s from W9 (wpAny_mkInt (Xd #[1,_,rfl,h])))
def JG(a b:Int):decide (a=b)=(a==b):=by
 by_cases e:a=b
 .subst e;simp
 .rw[XH e];exact(abj.mpr e).symm
def A6(prog:Ð)(w:Ú):ύ prog w Int where
 is:=Ph
 hash:=hashInt
 inj:=λv a b ha d=>by
  rcases cX ha with⟨t,rfl⟩|⟨x,rfl,rfl⟩
  .rcases cX d with⟨u,e⟩|⟨y,rfl,e⟩
   .injection e
   .cases e
  .rcases cX d with⟨u,e⟩|⟨y,rfl,e⟩
   .cases e
   .injection e with e;rw[e]
 byValue:=λk v h=>by
  rcases cX h with⟨t,rfl⟩|⟨x,rfl,rfl⟩<;>rfl
 pyHash:=λc h=>by
  rcases cX c with⟨t,rfl⟩|⟨x,rfl,rfl⟩
  .exact wpAny_pyHash_int h
  .exact xN h
 eqBool:=λ{A E s a b u v Q} f c h=>by
  rw[JG] at h;rcases cX f with⟨t,rfl⟩|⟨x,rfl,rfl⟩
  .rcases cX c with⟨t',rfl⟩|⟨y,rfl,rfl⟩
   .exact wpAny_eqBool_int h
   .exact ŀ _ t y _ _ _ _ h
  .rcases cX c with⟨t',rfl⟩|⟨y,rfl,rfl⟩
   .exact Ł x _ t' _ _ _ _ h
   .refine Ľ x y _ _ _ _ ?_;rwa[show(x==y)=(bI x==bI y) by cases x<;>cases y<;>rfl]
 «strs»:=λk x t v h=>by
  rcases cX h with⟨u,e⟩|⟨y,_,e⟩<;>cases e
def kl(k:Int×Bool):List Int:=[k.1,bI k.2]
def EG{x y:Int×Bool}(h:kl x=kl y):x=y:=by
 obtain⟨d,a⟩:=x;obtain⟨c,b⟩:=y;have h1:d=c/\bI a=bI b:=by simpa [kl] using h
 obtain⟨rfl,h2⟩:=h1;cases a<;>cases b<;>first|rfl|exact absurd h2 .a
def Mp(x y:Int×Bool):decide (kl x=kl y)=decide (x=y):=aa4.mpr #[EG,λh=>by rw[h]]
noncomputable def g5(prog:Ð)(w:Ú):PySem.HeapKind prog w (Int×Bool) where
 is:=λh k a=>IsTupleKey (A6 prog w) h (kl k) a
 hash:=λk=>tupleKeyHash (A6 prog w) (kl k)
 draws:=λ_=>3
 room:=λA=>A.units<Ę
 inj:=λe f=>EG (e.inj f)
 keeps:=λx i g j=>x.keeps i g j
 pyHash:=λc d h=>wpAny_pyHash_tuple c d h
 eqBool:=λ{A E s x y a b Q} c e f h=>wpAny_eqBool_tuple c e f (by rwa[Mp])
 quiet:=λd h=>wpAny_eqIsQuiet_tuple d h
def lQ{prog:Ð}(a:A.units+1<Ę):(g5 prog w).room A.in1:=a
set_option genInjectivity true in
inductive V where
 |non|bl (b:Bool)|int (i:Int)|str (x:Ï)|byt (b:Array UInt8)|flt (b:UInt64)|ref (a:Ç)|ty (n:String)
 deriving DecidableEq
variable{v:V}
def RelV:V->Ä->Prop
 |.non,u=>u=ò
 |.bl b,u=>u=ļ b
 |.int i,u=>∃t,u=ă i t
 |.str x,u=>∃t,u=ź x t
 |.byt b,u=>∃t,u=Value.bytes b t
 |.flt b,u=>∃t,u=Value.float b t
 |.ref a,u=>u=þ a
 |.ty n,u=>u=ú n
abbrev Vals:List V->List Ä->Prop:=Ý RelV
def Vals.length{xs:List V}{us:List Ä}(r:Vals xs us):xs.length=us.length:=Ϲ r
theorem Vals.get:∀{xs:List V} {us:List Ä} {i:Nat} {x:V},Vals xs us->xs[i]?=À x->∃u,us[i]?=À u/\RelV x u
 |_,_,_,_,.nil,e=>by simp at e
 |_,_,0,_,.cons r _,e=>by simp at e;subst e;exact#[_,rfl,r]
 |_,_,i+1,x,.cons _ t,e=>by
  obtain⟨u,h1,h2⟩:=Vals.get (i:=i) (x:=x) t ↑e;exact#[u,↑h1,h2]
theorem Vals.set{x:V}{u:Ä}(r:RelV x u):∀{xs:List V} {us:List Ä} (i:Nat),Vals xs us->Vals (xs.set i x) (us.set i u)
 |_,_,_,.nil=>.nil
 |_,_,0,.cons _ t=>.cons r t
 |_,_,i+1,.cons q t=>.cons q (Vals.set r i t)
theorem Vals.append:∀{xs ys:List V} {us a:List Ä},Vals xs us->Vals ys a->Vals (xs++ys) (us++a)
 |_,_,_,_,.nil,s=>s
 |_,_,_,_,.cons r t,s=>.cons r (Vals.append t s)
theorem Vals.take:∀{xs:List V} {us:List Ä} (n:Nat),Vals xs us->Vals (xs.take n) (us.take n)
 |_,_,0,_=>.nil
 |_,_,_+1,.nil=>.nil
 |_,_,n+1,.cons r t=>.cons r (Vals.take n t)
theorem Vals.drop:∀{xs:List V} {us:List Ä} (n:Nat),Vals xs us->Vals (xs.drop n) (us.drop n)
 |_,_,0,r=>r
 |_,_,_+1,.nil=>.nil
 |_,_,n+1,.cons _ t=>Vals.drop n t
def Bg:Option V->Option Ä->Prop
 |some v,À u=>RelV v u
 |none,none=>True
 |_,_=>False
def KV{κ:Type}:List (κ×V)->List (κ×Ä)->Prop:=Ý fun(p:κ×V) (q:κ×Ä)=>p.1=q.1/\RelV p.2 q.2
def kV:Key->V
 |.inl i=>.int i
 |.inr x=>.str x
noncomputable def kB(k:Int×Bool):List V:=[.int k.1,.bl k.2]
inductive HO where
 |lst (xs:List V)
 |tup (xs:List V)
 |dK (YP:List (Key×V))|dT (YP:List (List Key×V))
 |dB (YP:List ((Int×Bool)×V))
 |set (S:Int->Bool) (n:Nat)
 |ins (C dx:Ç) (fs:List (Ï×V))
 |own (x:Ç)
 |xd (fs:List (Ï×V))
 |met (f x:Ç)
 |rng (lo hi:Int)
 |frz (o:û) (u:HO)
 |tbl (ps:Array Ä)
 |ext (φ:ß->Prop)
variable{o:HO}
abbrev Hp:=Ç->Option HO
variable{H:Hp}
noncomputable def upd(H:Hp)(a:Ç)(o:HO):Hp:=λb=>if b=a then À o else H b
def aQ:upd H a o a=À o:=by unfold upd;rw[Xc rfl]
def aC(h:b≠a):upd H a o b=H b:=by unfold upd;rw[W_ h]
def Gr{u:HO}(h:H a=À o)(h':H b=À u)(d:o≠u):a≠b:=by
 intro e;subst e;rw[h] at h';exact d (Xy h')
def bZ(h:H a=À o)(h':H b=none):a≠b:=by
 intro e;subst e;rw[h] at h';cases h'
section
variable(P:Ð)(w:Ú)
def bY(H:Hp)(h:ß)(a:Ç):HO->Prop
 |.lst xs=>xs.length<=sizeLine/\∃(XV:List Ä) (n:Nat),Vals xs XV/\h.get? a=À {cls:=.type "list",data:=.seq XV.toArray n}
 |.tup xs=>xs.length<=sizeLine/\∃XV:List Ä,Vals xs XV/\IsTup h a XV.toArray
 |.dK YP=>YP.length<=sizeLine/\(a==ö)=Â/\∃vs,KV YP vs/\h.DictOf (dR P w) a vs
 |.dT YP=>YP.length<=sizeLine/\(a==ö)=Â/\∃xs:List (List Key×Ç×Ä),
   Ý (fun(p:List Key×V) (q:List Key×Ç×Ä)=>p.1=q.1/\H q.2.1=À (.tup (p.1.map kV))/\RelV p.2 q.2.2) YP xs /\
   ∃o es ep,h.get? a=À o/\o.ExactDict/\o.data=.dict es ep/\es.toList=xs.map (entryOfKey (Ŀ (dR P w)))/\(xs.map (·.1)).Nodup
 |.dB YP=>YP.length<=sizeLine/\(a==ö)=Â/\∃xs:List ((Int×Bool)×Ç×Ä),
   Ý (fun(p:(Int×Bool)×V) (q:(Int×Bool)×Ç×Ä)=>p.1=q.1/\H q.2.1=À (.tup (kB p.1))/\RelV p.2 q.2.2) YP xs /\
   ∃o es ep,h.get? a=À o/\o.ExactDict/\o.data=.dict es ep/\es.toList=xs.map (entryOfKey (g5 P w))/\(xs.map (·.1)).Nodup
 |.set S n=>h.SetOf (Ą P w) a S n
 |.ins C dx fs=>H dx=À (.own a)/\fs.length<=1000/\dx≠a/\h.get? a=À (PySem.W.instObj C dx) /\
   ∃mA,h.Ns1 dx mA/\(∀f,Bg (fs.lookup f) (mA f))/\PySem.Within mA (fs.map (·.1))
 |.own _=>∃o,h.get? a=À o
 |.xd fs=>∃mA,h.Ns1 a mA/\∀f,Bg (fs.lookup f) (mA f)
 |.rng lo hi=>∃t u v,h.get? a=À {cls:=.type "range",data:=.fields (â [.int lo t,.int hi u,.int 1 v])}
 |.frz o u=>h.get? a=À o/\bY H h a u
 |.tbl ps=>h.get? a=À {cls:=.none,data:=.fields ps}
 |.met f x=>h.get? a=À (ħ (.ref f) (.ref x))
 |.ext φ=>φ h/\(∃o,h.get? a=À o)/\∀h1 h2:ß,φ h1->(∀o,h1.get? a=À o->h2.get? a=À o)->φ h2
def lN(H:Hp)(h:ß):Prop:=∀a o,H a=À o->bY P w H h a o
end
section
variable{P:Ð}{w:Ú}{H H':Hp}{h h':ß}{a:Ç}{o:HO}
def bY.lt(x:bY P w H h a o):a<h.objs.size:=by
 cases o with
 |lst xs=>obtain⟨_,_,_,_,e⟩:=x;exact Xr e
 |tup xs=>obtain⟨_,_,_,p⟩:=x;exact p.lt
 |dK YP=>obtain⟨_,_,_,_,o,_,_,e,_⟩:=x;exact Xr e
 |dT YP=>obtain⟨_,_,_,_,o,_,_,e,_⟩:=x;exact Xr e
 |dB YP=>obtain⟨_,_,_,_,o,_,_,e,_⟩:=x;exact Xr e
 |set S n=>obtain⟨o,_,_,_,e,_⟩:=x;exact Xr e
 |ins C dx fs=>obtain⟨_,_,_,e,_⟩:=x;exact Xr e
 |own y=>obtain⟨_,e⟩:=x;exact Xr e
 |xd fs=>obtain⟨_,⟨_,_,_,e,_⟩,_⟩:=x;exact Xr e
 |rng lo hi=>obtain⟨_,_,_,e⟩:=x;exact Xr e
 |frz ob u=>obtain⟨e,_⟩:=x;exact Xr e
 |tbl ps=>exact Xr (show h.get? a=À _ from x)
 |met f y=>exact Xr (show h.get? a=À _ from x)
 |ext φ=>obtain⟨_,⟨_,e⟩,_⟩:=x;exact Xr e
theorem Paired.El{M β:Type}{F G:M->β->Prop}:∀{d:List M} {c:List β},Ý F d c->(∀a b,F a b->G a b)->Ý G d c
 |_,_,.nil,_=>.nil
 |_,_,.cons r t,f=>.cons (f _ _ r) (Paired.El t f)
def bY.vW(x:bY P w H h a o)(k:∀b u,(b=a\/H b=À (.own a))->h.get? b=À u->h'.get? b=À u)
  (j:∀b,H b=À (.own a)->H' b=À (.own a)) (g:∀b xs,H b=À (.tup xs)->H' b=À (.tup xs)):bY P w H' h' a o:=by
 induction o with
 |lst xs=>obtain⟨z,XV,n,r,e⟩:=x;exact#[z,XV,n,r,k _ _ (.inl rfl) e]
 |tup xs=>obtain⟨z,XV,r,ob,e,c⟩:=x;exact#[z,XV,r,ob,k _ _ (.inl rfl) e,c]
 |dK YP=>obtain⟨z,y,vs,r,ob,es,ep,e,c⟩:=x;exact#[z,y,vs,r,ob,es,ep,k _ _ (.inl rfl) e,c]
 |dT YP =>
  obtain⟨z,y,xs,r,ob,es,ep,e,c⟩:=x;exact#[z,y,xs,Paired.El r λp q z=>#[z.1,g _ _ z.2.1,z.2.2],ob,es,ep,k _ _ (.inl rfl) e,c]
 |dB YP =>
  obtain⟨z,y,xs,r,ob,es,ep,e,c⟩:=x;exact#[z,y,xs,Paired.El r λp q z=>#[z.1,g _ _ z.2.1,z.2.2],ob,es,ep,k _ _ (.inl rfl) e,c]
 |set S n=>obtain⟨ob,es,ep,t,e,c⟩:=x;exact#[ob,es,ep,t,k _ _ (.inl rfl) e,c]
 |ins C dx fs =>
  obtain⟨d,z,ne,e,mA,⟨od,es,ep,e2,c⟩,r⟩:=x;exact#[j _ d,z,ne,k _ _ (.inl rfl) e,mA,#[od,es,ep,k _ _ (.inr d) e2,c],r]
 |own y=>obtain⟨ob,e⟩:=x;exact#[ob,k _ _ (.inl rfl) e]
 |xd fs=>obtain⟨mA,⟨od,es,ep,e,c⟩,r⟩:=x;exact#[mA,#[od,es,ep,k _ _ (.inl rfl) e,c],r]
 |rng lo hi=>obtain⟨t,u,v,e⟩:=x;exact#[t,u,v,k _ _ (.inl rfl) e]
 |frz ob u i=>obtain⟨e,q⟩:=x;exact#[k _ _ (.inl rfl) e,i q]
 |tbl ps =>
  have e:h.get? a=À {cls:=.none,data:=.fields ps}:=x;show h'.get? a=À {cls:=.none,data:=.fields ps};exact k a _ (.inl rfl) e
 |met f y =>
  have e:h.get? a=À (ħ (.ref f) (.ref y)):=x;show h'.get? a=À (ħ (.ref f) (.ref y));exact k a _ (.inl rfl) e
 |ext φ=>obtain⟨p,⟨o,e⟩,st⟩:=x;exact#[st _ _ p λo q=>k _ _ (.inl rfl) q,#[o,k _ _ (.inl rfl) e],st]
def lN.lt(x:lN P w H h)(e:H a=À o):a<h.objs.size:=(x a o e).lt
def lN.fresh(x:lN P w H h)(e:h.objs.size<=a):H a=none:=by
 cases q:H a with
 |none=>rfl
 |some u=>exact absurd (XR (x.lt q) e) (ZS _)
def lN.kept(x:lN P w H h)(k:∀b u,h.get? b=À u->h'.get? b=À u):lN P w H h':=λa o e =>
 (x a o e).vW (λb u _ q=>k b u q) (λ_ q=>q) λ_ _ q=>q
def lN.laid(x:lN P w H h)(k:∀b u,h.get? b=À u->h'.get? b=À u)(hp:h.objs.size<=a)(new:bY P w (upd H a o) h' a o):lN P w (upd H a o) h':=λb u e=>by
 have d:=x.fresh hp;by_cases f:b=a
 .subst f;rw[aQ] at e;cases e;exact new
 .rw[aC f] at e;exact(x b u e).vW (λc v _ q=>k c v q) (λc q=>by rwa[aC (bZ q d)]) λc xs q=>by rwa[aC (bZ q d)]
end
def Rd(H:Hp)(a:Ç)(u:HO):Prop:=H a=À u\/∃o,H a=À (.frz o u)
def Rd.ok{u:HO}(r:Rd H a u)(x:lN P w H h):bY P w H h a u:=by
 rcases r with r|⟨o,r⟩
 .exact x a u r
 .obtain⟨_,q⟩:=x a _ r;exact q
def Pq:Option HO->Prop
 |some (.lst _)=>True
 |some (.dK _)=>True
 |some (.dT _)=>True
 |some (.dB _)=>True
 |some (.set _ _)=>True
 |some (.ins _ _ _)=>True
 |some (.ext _)=>True
 |_=>False
section
variable{P:Ð}{w:Ú}{H:Hp}{h h':ß}{x e:Ç}{o':HO}
def lN.write(ok:lN P w H h)(g:Pq (H x))(he:e=x\/H e=À (.own x))(k:∀b u,b≠e->h.get? b=À u->h'.get? b=À u)(l:∃u,h'.get? e=À u)
  (new:bY P w (upd H x o') h' x o'):lN P w (upd H x o') h':=λb u q=>by
 have d:∀c y,H c=À (.own y)->c≠x:=λc y r z=>by subst z;rwa[r] at g
 have f:∀c xs,H c=À (.tup xs)->c≠x:=λc xs r z=>by subst z;rwa[r] at g
 by_cases j:b=x
 .subst j;rw[aQ] at q;cases q;exact new
 .rw[aC j] at q;by_cases a:b=e
  .have q':H b=À (.own x):=by
    rcases he with z|z
    .exact absurd (a.trans z) j
    .rwa[a]
   rw[q] at q';cases q';obtain⟨v,m⟩:=l;exact#[v,by rwa[a]]
  .refine(ok b u q).vW (λc v i r=>k c v ?_ r) (λc r=>by rwa[aC (d c b r)]) λc xs r=>by rwa[aC (f c xs r)]
   rcases i with rfl|i
   .exact a
   .rintro rfl;rcases he with z|z
    .exact d c b i z
    .rw[i] at z;cases z;exact j rfl
end
structure Un(fs ex:List Ç)(H H':Hp)(h h':ß):Prop where
 keep:∀b o,h.get? b=À o->H b=none->b∉fs->b∉ex->h'.get? b=À o
 slot:∀b o,h.get? b=À o->H b=none->b∈fs->b∉ex->∃sl,h'.get? b=À {o with slots:=sl}
 free:∀b o,h.get? b=À o->H b=none->b∉ex->H' b=none
 there:∀b o,h.get? b=À o->b∉ex->∃o',h'.get? b=À o'
 tups:∀b xs,H b=À (.tup xs)->H' b=À (.tup xs)
 frzs:∀b o u,H b=À (.frz o u)->H' b=À (.frz o u)
 tbls:∀b ps,H b=À (.tbl ps)->∃more,H' b=À (.tbl (ps++more))
section
variable{fs fs' ex ex':List Ç}{H H1 H2:Hp}{h h1 h2 h':ß}{a x e:Ç}{o:HO}
def Un.any(u:Un fs ex H H1 h h1){ob:û}(q:h.get? b=À ob)(n:H b=none)(a:b∉ex):∃sl,h1.get? b=À {ob with slots:=sl}:=by
 by_cases c:b∈fs
 .exact u.slot b ob q n c a
 .exact#[ob.slots,u.keep b ob q n c a]
def Un.trans(a:Un fs ex H H1 h h1)(b:Un fs ex H1 H2 h1 h2):Un fs ex H H2 h h2 where
 keep:=λc ob q n e d=>b.keep c ob (a.keep c ob q n e d) (a.free c ob q n d) e d
 slot:=λc ob q n e d=>by
  obtain⟨sl,e1⟩:=a.slot c ob q n e d;obtain⟨f,e2⟩:=b.slot c _ e1 (a.free c ob q n d) e d;exact#[f,e2]
 free:=λc ob q n d=>by
  obtain⟨o',e1⟩:=a.there c ob q d;exact b.free c o' e1 (a.free c ob q n d) d
 there:=λc ob q d=>by
  obtain⟨o',e1⟩:=a.there c ob q d;exact b.there c o' e1 d
 tups:=λc xs q=>b.tups c xs (a.tups c xs q)
 frzs:=λc ob xs q=>b.frzs c ob xs (a.frzs c ob xs q)
 tbls:=λc ps q=>by
  obtain⟨m1,e1⟩:=a.tbls c ps q;obtain⟨m2,e2⟩:=b.tbls c _ e1;exact#[m1++m2,by rw[e2,Ŧ]]
def Un.kept(k:∀b u,h.get? b=À u->h'.get? b=À u):Un fs ex H H h h' :=
 #[λb ob q _ _ _=>k b ob q,λb ob q _ _ _=>#[ob.slots,k b ob q],λ_ _ _ n _=>n,λb ob q _=>#[ob,k b ob q],λ_ _ q=>q,λ_ _ _ q=>q,λ_ ps q=>#[#[],by rw[q];simp]]
def Un.refl:Un fs ex H H h h:=Un.kept λ_ _ q=>q
def Un.laid(k:∀b u,h.get? b=À u->h'.get? b=À u)(hp:h.objs.size<=a)(c:H a=none):Un fs ex H (upd H a o) h h' where
 keep:=λb u q _ _ _=>k b u q
 slot:=λb u q _ _ _=>#[u.slots,k b u q]
 free:=λb u q n _=>by rwa[aC (XS (XR (Xr q) hp))]
 there:=λb u q _=>#[u,k b u q]
 tups:=λb xs q=>by rwa[aC (bZ q c)]
 frzs:=λb u xs q=>by rwa[aC (bZ q c)]
 tbls:=λb ps q=>#[#[],by rw[aC (bZ q c),q];simp]
def Un.write(c:Pq (H x))(he:e=x\/H e=À (.own x))(k:∀b u,b≠e->h.get? b=À u->h'.get? b=À u)(d:∃u,h'.get? e=À u):Un fs ex H (upd H x o) h h':=by
 have g:∀b,H b=none->b≠x:=λb n z=>by subst z;rwa[n] at c
 have i:∀b,H b=none->b≠e:=λb n z=>by
  subst z;rcases he with r|r
  .exact g b n r
  .rw[n] at r;cases r
 have f:∀b u,H b=À u->¬Pq (À u)->b≠x:=λb u q nm z=>by subst z;rw[q] at c;exact nm c
 refine#[λb u q n _ _=>k b u (i b n) q,λb u q n _ _=>#[u.slots,k b u (i b n) q],λb u q n _=>by rwa[aC (g b n)],λb u q _=>?_,
  λb xs q=>by rwa[aC (f b _ q λz=>z)],λb u xs q=>by rwa[aC (f b _ q λz=>z)],λb ps q=>#[#[],by rw[aC (f b _ q λz=>z),q];simp]]
 by_cases a:b=e
 .subst a;exact d
 .exact#[u,k b u a q]
end
def QF(h:ß)(H:Hp):List Ç:=(Ò h.objs.size).filter λa=>(H a).isSome
def xq(h:ß)(H:Hp):ß:=PySem.W.hideAll h (QF h H)
def CY(h:ß)(H:Hp):(xq h H).objs.size=h.objs.size:=PySem.W.hideAll_size _ _
def G_{o:û}(e:h.get? b=À o)(n:H b=none):(xq h H).get? b=À o :=
 PySem.W.hideAll_get _ e λa=>by
  have q:(H b).isSome=Á:=(Ye.mp a).2;rw[n] at q;simp at q
def Km{o:û}(e:(xq h H).get? b=À o):h.get? b=À o/\H b=none:=by
 have a:h.get? b=À o:=PySem.W.of_hideAll (QF h H) e;refine#[a,?_];cases q:H b with
 |none=>rfl
 |some x =>
  have c:b∈QF h H:=Ye.mpr #[Yh.mpr (Xr a),by simp[q]];have z:(xq h H).get? b=none:=PySem.W.hideAll_none (QF h H) c;rw[z] at e;cases e
structure Mod(K:Ã)(mg:Ï->Option Ä)(base:ß):Prop where
 kin:K.In base
 glob:base.Ns Ì mg
 blt:∃mb,base.Ns ϛ mb/\∀x:Ï,x≠"__name__"->mb x=ē x
 nolimit:base.NoLimit
/-- the context: a def's body (or a comprehension's block) running. base: fixed through the whole law; s₀, H₀: the entry; outer: the frames whose slots others may change (a def's callers); stack: all frames that run;
   ex: iterators that were made ahead of the entry and are walked here (a comprehension's);fn: the names whose cells were made at the entry (a def: all;a comprehension's block: XV own);calm: not within an except suite;pn: Z2 that every state bears;xe: what is wanted of an exception that leaves the code -/
structure Cx where
 prog:Ð
 w:Ú
 K:Ã
 mg:Ï->Option Ä
 base:ß
 A:à
 N:List Ï
 s₀:Æ
 H₀:Hp
 env:ĵ
 outer:List ĵ
 stack:List ĵ
 ex:List Ç
 fn:Ï->Bool
 calm:Bool
 pn:List (Ç×û)
 xe:Ä->Æ->Prop
variable{X:Cx}
def B8(l:List ĵ):List Ç:=l.filterMap (·.frame)
abbrev Cx.fs(X:Cx):List Ç:=B8 X.outer
def HV(a:ą)(x:Ï):Prop:=a.names.lookup x=À .local\/a.names.lookup x=À .cell\/a.names.lookup x=À .free
def Loc(a:ą)(x:Ï):Prop:=a.names.lookup x=À .local\/a.names.lookup x=À .cell
def Look(env:ĵ)(h:ß)(m:Ï->Option Ä)(x:Ï)(u:Ä):Prop :=
 (env.kindOf x=À .local/\m x=À u)\/((env.kindOf x=À .cell\/env.kindOf x=À .free)/\∃c,env.cells.lookup x=À c/\h.IsCell c (À u))
structure Cx.Ok(X:Cx):Prop where
 mod:Mod X.K X.mg X.base
 kind:X.env.scope.kind=.function
 glob:X.env.globals=Ì
 blt:X.env.builtins=ϛ
 above:X.s₀.heap.objs.size<=X.env.locals
 inj:∀x y c,X.env.cells.lookup x=À c->X.env.cells.lookup y=À c->x=y
 has:∀x,(X.env.kindOf x=À .cell\/X.env.kindOf x=À .free)->∃c,X.env.cells.lookup x=À c
 cab:∀x c,X.fn x=Á->X.env.cells.lookup x=À c->X.s₀.heap.objs.size<=c
 hd:X.calm=Á->X.A.handled=none
 frames:X.A.frames=À X.stack
 stk:X.stack=X.outer\/(X.stack=X.env::X.outer/\X.env.frame=À X.env.locals)
 exf:∀b∈X.ex,b≠X.env.locals/\∀x c,X.env.cells.lookup x=À c->c≠b
 bs:∀b o,X.base.get? b=À o->X.s₀.heap.get? b=À o/\X.H₀ b=none
 bsz:X.base.objs.size<=X.s₀.heap.objs.size
 noex:∀b o,X.base.get? b=À o->b∉X.ex
 exfs:∀b∈X.ex,b∉X.fs
 oX:X.s₀.heap.FunFrames X.base X.outer
 frf:∀b∈X.fs,X.H₀ b=none
structure Inv(X:Cx)(Z2:List (Ç×û))(Y:List (Option V))(H:Hp)(s:Æ):Prop where
 ok:X.Ok
 os:s.os=X.s₀.os
 bare:ĥ s.gens
 base:Un X.fs X.ex X.H₀ H X.s₀.heap s.heap
 loc:∃m,s.heap.Ns X.env.locals m/\∀(i:Nat) (x:Ï) (v:V),X.N[i]?=À x->Y[i]?=À (À v)->HV X.env.scope x->∃u,RelV v u/\Look X.env s.heap m x u
 cell:∀x c,X.env.cells.lookup x=À c->∃v,s.heap.IsCell c v
 free:H X.env.locals=none
 freeC:∀x c,X.env.cells.lookup x=À c->H c=none
 pin:∀p∈X.pn++Z2,s.heap.get? p.1=À p.2/\H p.1=none/\p.1≠X.env.locals/\p.1∉X.fs/\∀v,p.2.data≠.cell v
 hok:lN X.prog X.w H s.heap
 len:Y.length=X.N.length
section
variable{X:Cx}{Z2:List (Ç×û)}{Y:List (Option V)}{H H':Hp}{s:Æ}{h':ß}
def Cx.Ok.RI(ok:X.Ok){o:û}(e:X.base.get? b=À o):b∉X.fs:=λa=>by
 have:=(ok.oX.mem a).1;rw[e] at this;cases this
def Inv.bs(I:Inv X Z2 Y H s):∀b o,X.base.get? b=À o->s.heap.get? b=À o/\H b=none:=λb o e =>
 #[I.base.keep b o (I.ok.bs b o e).1 (I.ok.bs b o e).2 (I.ok.RI e) (I.ok.noex b o e),I.base.free b o (I.ok.bs b o e).1 (I.ok.bs b o e).2 (I.ok.noex b o e)]
def Inv.bk(I:Inv X Z2 Y H s):∀b o,X.base.get? b=À o->s.heap.get? b=À o:=λb o e=>(I.bs b o e).1
def Inv.mod(I:Inv X Z2 Y H s):Mod X.K X.mg X.base:=I.ok.mod
def Inv.MY(I:Inv X Z2 Y H s):X.K.In s.heap:=I.ok.mod.kin.keeps I.bk
def Inv.lt(I:Inv X Z2 Y H s):X.env.locals<s.heap.objs.size:=let #[_,hn,_]:=I.loc;hn.lt
def Inv.sz(I:Inv X Z2 Y H s):X.s₀.heap.objs.size<=s.heap.objs.size:=X8 I.ok.above (YF I.lt)
def Inv.RY(I:Inv X Z2 Y H s)(h:s.heap.objs.size<=a):a∉X.fs:=λc=>by
 obtain⟨_,o,b,_⟩:=I.ok.oX.mem c;exact absurd (XR (Xr b) (X8 I.sz h)) (ZS _)
def Inv.N3(I:Inv X Z2 Y H s):∀x c,X.env.cells.lookup x=À c->c≠X.env.locals:=λx c e z=>by
 obtain⟨v,o,f,d⟩:=I.cell x c e;obtain⟨m,⟨o',es,ep,a,b,_⟩,_⟩:=I.loc;rw[z,a] at f;cases f;rw[b] at d;cases d
def Inv.oX(I:Inv X Z2 Y H s):s.heap.FunFrames X.base X.outer:=by
 have all:∀(l:List ĵ),(∀b∈B8 l,b∈X.fs)->X.s₀.heap.FunFrames X.base l->s.heap.FunFrames X.base l:=by
  intro l
  induction l with
  |nil=>intro _ _;trivial
  |cons env r m =>
   intro f k;obtain⟨j,⟨L,o,a,g,n,i⟩,h⟩:=k;have c:L∈X.fs:=f L (by unfold B8;rw[abk,a];exact Xo);obtain⟨sl,e⟩:=I.base.slot L o n (I.ok.frf L c) c λz=>I.ok.exfs L z c;exact#[j,#[L,_,a,g,e,i],m (λb d=>f b (by unfold B8;rw[abk,a];exact Xj _ d)) h]
 exact all X.outer (λ_ d=>d) I.ok.oX
def Inv.stack(I:Inv X Z2 Y H s):s.heap.FunFrames X.base X.stack:=by
 rcases I.ok.stk with e|⟨e,a⟩
 .rw[e];exact I.oX
 .rw[e];obtain⟨m,b,_⟩:=I.loc;refine .cons (by rw[I.ok.kind];decide) a b ?_ I.oX;exact Heap.get?_none_of_le (X8 I.ok.bsz I.ok.above)
def Inv.wF(I:Inv X Z2 Y H s):∀b∈B8 X.stack,b∈X.env.locals::X.fs:=λb a=>by
 rcases I.ok.stk with e|⟨e,c⟩
 .rw[e] at a;exact Xj _ a
 .rw[e] at a;unfold B8 at a;rwa[abk,c] at a
def Inv.CI(I:Inv X Z2 Y H s):∀b∈B8 X.stack,H b=none:=λb a=>by
 rcases Xa.mp (I.wF b a) with e|a
 .rw[e];exact I.free
 .obtain⟨_,o,c,_⟩:=I.ok.oX.mem a;exact I.base.free b o c (I.ok.frf b a) λz=>I.ok.exfs b z a
def Inv.step{g':Array χ}{d':Drawn}(I:Inv X Z2 Y H s)
  (f:∀b∈ch,(b∈X.ex\/X.s₀.heap.objs.size<=b)/\b≠X.env.locals/\(∀x c,X.env.cells.lookup x=À c->c≠b)/\∀p∈X.pn++Z2,p.1≠b)
  (keep:∀b o,b≠X.env.locals->b∉X.fs->b∉ch->s.heap.get? b=À o->H b=none->h'.get? b=À o)
  (slot:∀b o,b≠X.env.locals->b∈X.fs->b∉ch->s.heap.get? b=À o->H b=none->∃sl,h'.get? b=À {o with slots:=sl}) (free:∀b o,b∉ch->s.heap.get? b=À o->H b=none->H' b=none)
  (there:∀b o,b∉ch->s.heap.get? b=À o->∃o',h'.get? b=À o')
  (A:∀b xs,H b=À (.tup xs)->H' b=À (.tup xs)) (y:∀b o u,H b=À (.frz o u)->H' b=À (.frz o u)) (C:∀b ps,H b=À (.tbl ps)->∃more,H' b=À (.tbl (ps++more)))
  (ns:∀m,s.heap.Ns X.env.locals m->h'.Ns X.env.locals m) (F:lN X.prog X.w H' h') (K:ĥ g'):
  Inv X Z2 Y H' {s with heap:=h',gens:=g',drawn:=d',toks:=t'}:=by
 have B:∀b o,X.s₀.heap.get? b=À o->b≠X.env.locals:=λb o e=>XS (XR (Xr e) I.ok.above)
 have h:∀b o,X.s₀.heap.get? b=À o->b∉X.ex->b∉ch:=λb o e a j=>by
  rcases(f b j).1 with z|z
  .exact a z
  .exact absurd (XR (Xr e) z) (ZS _)
 have cellK:∀x c,X.env.cells.lookup x=À c->∀v,s.heap.IsCell c v->h'.IsCell c v:=λx c e v ⟨o,t,D⟩=>by
  have g:c∉ch:=λz=>(f c z).2.2.1 x c e rfl;by_cases G:c∈X.fs
  .obtain⟨sl,q⟩:=slot c o (I.N3 x c e) G g t (I.freeC x c e);exact#[_,q,D]
  .exact#[o,keep c o (I.N3 x c e) G g t (I.freeC x c e),D]
 refine#[I.ok,I.os,K,#[λb o e n j a=>?_,λb o e n j a=>?_,λb o e n a=>?_,λb o e a=>?_,λb xs e=>A b xs (I.base.tups b xs e),λb o xs e=>y b o xs (I.base.frzs b o xs e),λb ps e=>?_],?_,λx c e=>?_,?_,λx c e=>?_,λp hp=>?_,F,I.len]
 .exact keep b o (B b o e) j (h b o e a) (I.base.keep b o e n j a) (I.base.free b o e n a)
 .obtain⟨sl,e1⟩:=I.base.slot b o e n j a;obtain⟨E,e2⟩:=slot b _ (B b o e) j (h b o e a) e1 (I.base.free b o e n a);exact#[E,e2]
 .obtain⟨o',e1⟩:=I.base.there b o e a;exact free b o' (h b o e a) e1 (I.base.free b o e n a)
 .obtain⟨o',e1⟩:=I.base.there b o e a;exact there b o' (h b o e a) e1
 .obtain⟨m1,e1⟩:=I.base.tbls b ps e;obtain⟨m2,e2⟩:=C b _ e1;exact#[m1++m2,by rw[e2,Ŧ]]
 .obtain⟨m,α,L⟩:=I.loc;refine#[m,ns m α,λi x v e1 e2 e3=>?_];obtain⟨u,r,l⟩:=L i x v e1 e2 e3;refine#[u,r,?_];rcases l with l|⟨k,c,e,z⟩
  .exact .inl l
  .exact .inr #[k,c,e,cellK x c e _ z]
 .obtain⟨v,z⟩:=I.cell x c e;exact#[v,cellK x c e v z]
 .obtain⟨m,⟨o,_,_,t,_⟩,_⟩:=I.loc;exact free _ o (λz=>(f _ z).2.1 rfl) t I.free
 .obtain⟨v,o,t,D⟩:=I.cell x c e;exact free c o (λz=>(f c z).2.2.1 x c e rfl) t (I.freeC x c e)
 .obtain⟨e,n,ne,J,d⟩:=I.pin p hp;have g:p.1∉ch:=λz=>(f p.1 z).2.2.2 p hp rfl;exact#[keep p.1 p.2 ne J g e n,free p.1 p.2 g e n,ne,J,d]
def Inv.un(I:Inv X Z2 Y H s)(u:Un X.fs [] H H' s.heap h')(d:lN X.prog X.w H' h'):Inv X Z2 Y H' {s with heap:=h',toks:=t'}:=by
 obtain⟨m,⟨o,es,ep,h,r⟩,_⟩:=id I.loc;obtain⟨sl,i⟩:=u.any h I.free .c
 exact I.step (g':=s.gens) (d':=s.drawn) (ch:=[]) (λ_ z=>nomatch z) (λb o _ g _ e n=>u.keep b o e n g .c) (λb o _ g _ e n=>u.slot b o e n g .c) (λb o _ e n=>u.free b o e n .c) (λb o _ e=>u.there b o e .c) u.tups u.frzs u.tbls (λl k=>by
  obtain⟨o',c,f,a,j⟩:=k;rw[h] at a;cases a
  exact#[_,c,f,i,j]) d I.bare
def Inv.call{g':Array χ}{d':Drawn}(I:Inv X Z2 Y H s)(u:Un (B8 X.stack) ch H H' s.heap h')(i:lN X.prog X.w H' h')(l:ĥ g')
  (d:∀b∈ch,(b∈X.ex\/X.s₀.heap.objs.size<=b)/\b≠X.env.locals/\(∀x c,X.env.cells.lookup x=À c->c≠b)/\∀p∈X.pn++Z2,p.1≠b):
  Inv X Z2 Y H' {s with heap:=h',gens:=g',drawn:=d',toks:=t'}:=by
 obtain⟨m,⟨o,es,ep,k,r⟩,_⟩:=id I.loc;obtain⟨sl,h⟩:=u.any k I.free λz=>(d _ z).2.1 rfl
 exact I.step (ch:=ch) d (λb o h t a e n=>u.keep b o e n (λz=>(Xa.mp (I.wF b z)).elim h t) a) (λb o _ _ a e n=>u.any e n a) (λb o a e n=>u.free b o e n a) (λb o a e=>u.there b o e a) u.tups u.frzs u.tbls (λy q=>by
  obtain⟨o',g,j,f,v⟩:=q;rw[k] at f;cases f
  exact#[_,g,j,h,v]) i l
def Inv.turned{it:Ç}(I:Inv X Z2 Y H s)(k:∀b o,b≠it->s.heap.get? b=À o->h'.get? b=À o)(h:H it=none)(f:it≠X.env.locals)
  (h1:it∈X.ex\/X.s₀.heap.objs.size<=it) (h2:∀x c,X.env.cells.lookup x=À c->c≠it) (g:∀p∈X.pn++Z2,p.1≠it):Inv X Z2 Y H {s with heap:=h',toks:=t'}:=by
 have d:∀b u,H b=À u->b≠it:=λb u e z=>by rw[z,h] at e;cases e
 refine I.step (g':=s.gens) (d':=s.drawn) (ch:=[it]) (λb l=>?_) (λb o _ _ a e _=>k b o (λz=>a (by simp[z])) e) (λb o _ _ a e _=>#[o.slots,k b o (λz=>a (by simp[z])) e]) (λ_ _ _ _ n=>n)
  (λb o a e=>#[o,k b o (λz=>a (by simp[z])) e]) (λ_ _ e=>e) (λ_ _ _ e=>e) (λb ps e=>#[#[],by rw[e];simp]) (λm j=>?_) (λb u e=>?_) I.bare
 .have e:b=it:=by simpa using l
  subst e;exact#[h1,f,h2,g]
 .obtain⟨o,es,ep,i,r⟩:=j;exact#[o,es,ep,k _ o (ZD f) i,r]
 .refine(I.hok b u e).vW (λc v a q=>k c v ?_ q) (λ_ q=>q) λ_ _ q=>q;rcases a with z|z
  .rw[z];exact d b u e
  .exact d c _ z
def Inv.tok(I:Inv X Z2 Y H s)(t:Nat):Inv X Z2 Y H {s with toks:=t}:=I.un (h':=s.heap) (t':=t) Un.refl I.hok
def Inv.kept{t':Nat}(I:Inv X Z2 Y H s)(k:∀b u,s.heap.get? b=À u->h'.get? b=À u):Inv X Z2 Y H {s with heap:=h',toks:=t'}:=I.un (Un.kept k) (I.hok.kept k)
def Inv.laid{a:Ç}{o:HO}{t':Nat}(I:Inv X Z2 Y H s)(k:∀b u,s.heap.get? b=À u->h'.get? b=À u)(hp:s.heap.objs.size<=a)(new:bY X.prog X.w (upd H a o) h' a o):
  Inv X Z2 Y (upd H a o) {s with heap:=h',toks:=t'}:=I.un (Un.laid k hp (I.hok.fresh hp)) (I.hok.laid k hp new)
def Inv.write{x e:Ç}{o:HO}{t':Nat}(I:Inv X Z2 Y H s)(c:Pq (H x))(he:e=x\/H e=À (.own x))(k:∀b u,b≠e->s.heap.get? b=À u->h'.get? b=À u)(a:∃u,h'.get? e=À u)
  (new:bY X.prog X.w (upd H x o) h' x o):Inv X Z2 Y (upd H x o) {s with heap:=h',toks:=t'}:=I.un (Un.write c he k a) (I.hok.write c he k a new)
def Inv.weak{Y':List (Option V)}(I:Inv X Z2 Y H s)(a:Y'.length=Y.length)(w:∀(i:Nat) v,Y'[i]?=À (À v)->Y[i]?=À (À v)):Inv X Z2 Y' H s :=
 #[I.ok,I.os,I.bare,I.base,let #[m,hn,hl']:=I.loc;#[m,hn,λi x v e1 e2 e3=>hl' i x v e1 (w i v e2) e3],I.cell,I.free,I.freeC,I.pin,I.hok,a.trans I.len]
def Inv.nD{a:List (Ç×û)}(I:Inv X Z2 Y H s)(h:∀p∈a,s.heap.get? p.1=À p.2/\H p.1=none/\p.1≠X.env.locals/\p.1∉X.fs/\∀v,p.2.data≠.cell v):Inv X a Y H s :=
 #[I.ok,I.os,I.bare,I.base,I.loc,I.cell,I.free,I.freeC,λp hp=>(X2.mp hp).elim (λz=>I.pin p (X0 _ z)) (h p),I.hok,I.len]
def yH{N:List Ï}(c:N.Nodup){j:Nat}(a:N[i]?=À x)(b:N[j]?=À x):i=j:=by
 obtain⟨h1,e1⟩:=Xl.mp a;obtain⟨h2,e2⟩:=Xl.mp b;exact(Τ c).mp (e1.trans e2.symm)
def DC{E:Ä->Æ->Prop}{Q:Unit->Æ->Prop}(I:Inv X Z2 Y H s)(hN:X.N.Nodup)(hi:X.N[i]?=À x)(l:Loc X.env.scope x)(r:RelV v u)
  (h:∀s',Inv X Z2 (Y.set i (À v)) H s'->(∃a,Č a s.heap s'.heap/\(a=X.env.locals\/X.env.cells.lookup x=À a))->Q () s') (hf:autoParam (X.fn x=Á\/X.env.scope.names.lookup x=À .local) zrf):Í α A (storeName X.env x u) Q E s:=by
 obtain⟨m,Γ,hl⟩:=id I.loc;have L:(X.env.scope.kind==.class || (X.env.scope.kind==.module&&X.env.locals != X.env.globals))=Â:=by rw[I.ok.kind];rfl
 have P:i<Y.length:=by rw[I.len];exact(Xl.mp hi).1
 have N3:=I.N3
 have tracked:∀{a:Ç} {h':ß},(∃o,s.heap.get? a=À o/\H a=none)->Č a s.heap h'->lN X.prog X.w H h':=λ{a h'} ha f b ob e=>by
  obtain⟨_,_,t⟩:=ha;refine(I.hok b ob e).vW (λc R g q=>(f.2 c ?_).trans q) (λ_ q=>q) λ_ _ q=>q;rintro rfl;rcases g with rfl|g
  .rw[t] at e;cases e
  .rw[t] at g;cases g
 rcases l with B|B
 .refine wpAny_storeName_local B Γ (λh' σ f=>?_) L;obtain⟨oL,_,_,T,_⟩:=id Γ;refine h _ #[I.ok,I.os,I.bare,#[λb o e n F l=>?_,λb o e n F l=>?_,I.base.free,λb o e l=>?_,I.base.tups,I.base.frzs,I.base.tbls],#[_,σ,λj y V e1 e2 e3=>?_],λy c e=>?_,I.free,I.freeC,λp hp=>?_,tracked #[oL,T,I.free] f,↑I.len] #[_,f,.inl rfl]
  .exact(f.2 b (XS (XR (Xr e) I.ok.above))).trans (I.base.keep b o e n F l)
  .obtain⟨sl,e1⟩:=I.base.slot b o e n F l;exact#[sl,(f.2 b (XS (XR (Xr e) I.ok.above))).trans e1]
  .obtain⟨o',e1⟩:=I.base.there b o e l;exact#[o',(f.2 b (XS (XR (Xr e) I.ok.above))).trans e1]
  .by_cases C:j=i
   .subst C;rw[hi] at e1;cases e1;rw[ZI P] at e2;cases e2;exact#[u,r,.inl #[B,.c]]
   .rw[Zp (ZD C)] at e2;obtain⟨S,Z,q⟩:=hl j y V e1 e2 e3;refine#[S,Z,?_];rcases q with⟨k,e⟩|⟨k,c,e,z⟩
    .refine .inl #[k,?_];have:y≠x:=λe=>C (yH hN e1 (e▸hi));simp[this,e]
    .exact .inr #[k,c,e,z.sameBut f (N3 y c e)]
  .obtain⟨R,z⟩:=I.cell y c e;exact#[R,z.sameBut f (N3 y c e)]
  .obtain⟨e,n,ne,W,d⟩:=I.pin p hp;exact#[(f.2 p.1 ne).trans e,n,ne,W,d]
 .have D:X.fn x=Á:=by
   rcases hf with z|z
   .exact z
   .rw[z] at B;cases B
  obtain⟨c,g⟩:=I.ok.has x (.inl B);obtain⟨R,z⟩:=I.cell x c g;refine wpAny_storeName_cell I.ok.kind B g z (λh' G f=>?_);obtain⟨oc,O,K⟩:=id z;refine h {s with heap:=h'} #[I.ok,I.os,I.bare,#[λb o e n F l=>?_,λb o e n F l=>?_,I.base.free,λb o e l=>?_,I.base.tups,I.base.frzs,I.base.tbls],#[m,Γ.sameBut f (ZD (N3 x c g)),λj y V e1 e2 e3=>?_],λy c' e=>?_,I.free,I.freeC,λp hp=>?_,tracked #[oc,O,I.freeC x c g] f,↑I.len] #[c,f,.inr g]
  .exact(f.2 b (XS (XR (Xr e) (I.ok.cab x c D g)))).trans (I.base.keep b o e n F l)
  .obtain⟨sl,e1⟩:=I.base.slot b o e n F l;exact#[sl,(f.2 b (XS (XR (Xr e) (I.ok.cab x c D g)))).trans e1]
  .obtain⟨o',e1⟩:=I.base.there b o e l;exact#[o',(f.2 b (XS (XR (Xr e) (I.ok.cab x c D g)))).trans e1]
  .by_cases C:j=i
   .subst C;rw[hi] at e1;cases e1;rw[ZI P] at e2;cases e2;exact#[u,r,.inr #[.inl B,c,g,G]]
   .rw[Zp (ZD C)] at e2;obtain⟨S,Z,q⟩:=hl j y V e1 e2 e3;refine#[S,Z,?_];rcases q with q|⟨k,c',e,z'⟩
    .exact .inl q
    .refine .inr #[k,c',e,z'.sameBut f ?_];rintro rfl;exact C (yH hN e1 (I.ok.inj _ _ _ e g▸hi))
  .by_cases J:c'=c
   .subst J;exact#[_,G]
   .obtain⟨w2,z2⟩:=I.cell y c' e;exact#[w2,z2.sameBut f J]
  .obtain⟨e,n,ne,W,d⟩:=I.pin p hp;refine#[(f.2 p.1 ?_).trans e,n,ne,W,d];intro q;rw[q,O] at e;have q':oc=p.2:=Xy e;exact d R (by rwa[<-q'])
def yA{E:Ä->Æ->Prop}{Q:Unit->Æ->Prop}(I:Inv X Z2 Y H s)(d:X.N.Nodup)(hi:X.N[i]?=À x)(a:Loc X.env.scope x)(r:RelV v u)
  (h:∀s',Inv X Z2 (Y.set i (À v)) H s'->Q () s') (b:autoParam (X.fn x=Á\/X.env.scope.names.lookup x=À .local) zrf):Í α A (storeName X.env x u) Q E s :=
 DC I d hi a r (λs' c _=>h s' c) b
def Inv.Qk{s':Æ}(I:Inv X Z2 Y H s)(g:s'.os=s.os)(u:Un (B8 X.stack) ch H H' s.heap s'.heap)(a:lN X.prog X.w H' s'.heap)(f:ĥ s'.gens)
  (d:∀b∈ch,(b∈X.ex\/X.s₀.heap.objs.size<=b)/\b≠X.env.locals/\(∀x c,X.env.cells.lookup x=À c->c≠b)/\∀p∈X.pn++Z2,p.1≠b):Inv X Z2 Y H' s':=by
 obtain⟨h',g',d',t',o'⟩:=s';have e:o'=s.os:=g;subst e;exact I.call (g':=g') (t':=t') (d':=d') u a f d
end
abbrev XK:=Ä->Option Ç->Hp->Prop
abbrev St:=List (Option V)
variable{Y:St}
abbrev VK:=V->Hp->Prop
variable{Q:VK}
abbrev TE:=St->Hp->VK->Prop
abbrev TT:=St->Hp->(Bool->Hp->Prop)->Prop
abbrev TA:=St->Hp->(List V->Hp->Prop)->Prop
structure Ends where
 nx:St->Hp->Prop
 rt:VK
 bk:St->Hp->Prop:=λ_ _=>False
 ct:St->Hp->Prop:=λ_ _=>False
abbrev TS:=Ends->St->Hp->Prop
variable{tb:TS}
def EP(X:Cx)(Z2:List (Ç×û))(Y:St)(Q:VK)(u:Ä)(s':Æ):Prop:=∃v H',Inv X Z2 Y H' s'/\RelV v u/\Q v H'
def TP(X:Cx)(Z2:List (Ç×û))(Y:St)(Q:Bool->Hp->Prop)(b:Bool)(s':Æ):Prop:=∃H',Inv X Z2 Y H' s'/\Q b H'
def AP(X:Cx)(Z2:List (Ç×û))(Y:St)(Q:List V->Hp->Prop)(us:List Ä)(s':Æ):Prop:=∃vs H',Inv X Z2 Y H' s'/\Vals vs us/\Q vs H'
def SP(X:Cx)(Z2:List (Ç×û))(D:Ends)(f:Flow)(s':Æ):Prop :=
 match f with
 |.next=>∃Y' H',Inv X Z2 Y' H' s'/\D.nx Y' H'
 |.brk=>∃Y' H',Inv X Z2 Y' H' s'/\D.bk Y' H'
 |.cont=>∃Y' H',Inv X Z2 Y' H' s'/\D.ct Y' H'
 |.ret u=>∃v Y' H',Inv X Z2 Y' H' s'/\RelV v u/\D.rt v H'
def PE(X:Cx)(e:Ô)(t:TE):Prop :=
 ∀(Z2:List (Ç×û)) (s:Æ) (Y:St) (H:Hp) (Q:VK),Inv X Z2 Y H s->t Y H Q->Í .E X.A (Û e X.env) (EP X Z2 Y Q) X.xe s
def PT(X:Cx)(e:Ô)(t:TT):Prop :=
 ∀(Z2:List (Ç×û)) (s:Æ) (Y:St) (H:Hp) (Q:Bool->Hp->Prop),Inv X Z2 Y H s->t Y H Q->Í .E X.A (Ÿ e X.env (Û e X.env)) (TP X Z2 Y Q) X.xe s
def PW(X:Cx)(e:Ô)(t:TT):Prop :=
 ∀(whole:Sem Ä) (Z2:List (Ç×û)) (s:Æ) (Y:St) (H:Hp) (Q:Bool->Hp->Prop),Inv X Z2 Y H s->t Y H Q->Í .E X.A (Ÿ e X.env whole) (TP X Z2 Y Q) X.xe s
def PW.pt{t:TT}(h:PW X e t):PT X e t:=h _
def PA(X:Cx)(es:List Ô)(t:TA):Prop :=
 ∀(pos:ì) (Z2:List (Ç×û)) (s:Æ) (Y:St) (H:Hp) (Q:List V->Hp->Prop),Inv X Z2 Y H s->t Y H Q->Í .E X.A (spliced (è pos (Å es X.env))) (AP X Z2 Y Q) X.xe s
def PS(X:Cx)(st:Ñ)(t:TS):Prop :=
 ∀(Z2:List (Ç×û)) (s:Æ) (Y:St) (H:Hp) (D:Ends),Inv X Z2 Y H s->t D Y H->Í .E X.A (exec st X.env) (SP X Z2 D) X.xe s
def qW(X:Cx)(st:List Ñ)(t:TS):Prop :=
 ∀(Z2:List (Ç×û)) (s:Æ) (Y:St) (H:Hp) (D:Ends),Inv X Z2 Y H s->t D Y H->Í .E X.A (execs st X.env) (SP X Z2 D) X.xe s
def cj{M:Type}{t:Sem M}{Q b:M->Æ->Prop}{E:Ä->Æ->Prop}(h:Í α A t Q E s)(c:∀a s,Q a s->b a s):Í α A t b E s:=Zq h c λ_ _ x=>x
section
variable{X:Cx}
def OH(i:Nat):TE:=λY H Q=>∃v,Y[i]?=À (À v)/\Q v H
def tC(v:V):TE:=λ_ H Q=>Q v H
def Mn(k:X.N[i]?=À x)(o:HV X.env.scope x)(d:autoParam ((x==("__debug__":Ï))=Â) zrb)(f:autoParam ((x==("__classdict__":Ï))=Â) zrb):PE X (.Name x pos) (OH i):=by
 intro Z2 s Y H Q I h;obtain⟨v,e,h⟩:=h;obtain⟨m,j,n⟩:=I.loc;obtain⟨u,r,l⟩:=n i x v k e o;have fin:EP X Z2 Y Q u s:=#[v,H,I,r,h];rcases l with⟨b,p⟩|⟨b,c,g,a⟩
 .exact Ϙ (wpAny_loadName_local I.ok.kind b j p fin) d
 .rcases b with b|b
  .exact Ϙ (wpAny_loadName_cell I.ok.kind b g a fin) d
  .exact Ϙ (wpAny_loadName_free I.ok.kind b g a fin f) d
def NU{i j pos}:PE X (.Constant (.int i) j pos) (tC (.int i)):=λ_ _ _ H _ I h=>wpAny_Constant_int #[.int i,H,I.tok _,#[_,rfl],h]
def Ow{b j pos}:PE X (.Constant (.bool b) j pos) (tC (.bl b)):=λ_ _ _ H _ I h=>Constant_bool #[.bl b,H,I,rfl,h]
def Mv{j pos}:PE X (.Constant .none j pos) (tC .non):=λ_ _ _ H _ I h=>Ť #[.non,H,I,rfl,h]
def Gl(X:Cx)(x:Ï):Prop:=X.env.kindOf x=À .globalImplicit
def wB{E:Ä->Æ->Prop}{Q:Ä->Æ->Prop}(I:Inv X Z2 Y H s)(a:Gl X x)(c:X.mg x=À u)(h:Q u s)
  (b:autoParam ((x==("__debug__":Ï))=Â) zrb):Í .E X.A (Û (.Name x pos) X.env) Q E s :=
 abw I.ok.kind a (Calls.loadGlobal_global (by rw[I.ok.glob];exact I.mod.glob.keeps I.bk) c h) b
def hV{E:Ä->Æ->Prop}{Q:Ä->Æ->Prop}(I:Inv X Z2 Y H s)(c:Gl X x)(b:X.mg x=none)(e:ē x=À u)(h:Q u s)
  (a:autoParam (x≠"__name__") zrb) (d:autoParam ((x==("__debug__":Ï))=Â) zrb):Í .E X.A (Û (.Name x pos) X.env) Q E s:=by
 obtain⟨f,h1,h2⟩:=I.mod.blt;exact abw I.ok.kind c (Calls.loadGlobal_builtin (by rw[I.ok.glob];exact I.mod.glob.keeps I.bk) b (by rw[I.ok.blt];exact h1.keeps I.bk) ((h2 x a).trans e) h) d
def B5(b:Gl X x)(a:X.mg x=À u)(r:RelV v u)(c:autoParam ((x==("__debug__":Ï))=Â) zrb):PE X (.Name x pos) (tC v) :=
 λ_ _ _ H _ I h=>wB I b a #[v,H,I,r,h] c
def Je(c:Gl X x)(b:X.mg x=none)(e:ē x=À u)(r:RelV v u)(a:autoParam (x≠"__name__") zrb)(d:autoParam ((x==("__debug__":Ï))=Â) zrb):PE X (.Name x pos) (tC v) :=
 λ_ _ _ H _ I h=>hV I c b e #[v,H,I,r,h] a d
variable{a b:Ô}{ta tb:TE}{pos:ì}
def PC(X:Cx)(op:ŕ)(a b:Ô)(t:TE):Prop :=
 ∀(Z2:List (Ç×û)) (s:Æ) (Y:St) (H:Hp) (Q:VK),Inv X Z2 Y H s->t Y H Q ->
  Í .E X.A (Û a X.env) (λv c=>Í .E X.A (Û b X.env) (λu d=>Í .E X.A (ä op v u) (EP X Z2 Y Q) X.xe d) X.xe c) X.xe s
def zi(b:Ô)(h:op≠.In)(h2:op≠.NotIn):ô op b=Â:=by
 have e1:(op==CmpOp.In)=Â:=by cases op<;>first|rfl|exact absurd rfl h
 have e2:(op==ϲ)=Â:=by cases op<;>first|rfl|exact absurd rfl h2
 cases b<;>simp[ô,e1,e2]
def Ru(ta:TE):TE:=λY H Q=>ta Y H λx H1=>Q (.bl (decide (x=.non))) H1
def OY(ta:TE):TE:=λY H Q=>ta Y H λx H1=>Q (.bl (!decide (x=.non))) H1
def RelV.yd{x:V}{v:Ä}(r:RelV x v):(v==ò)=decide (x=.non):=by
 cases x with
 |non=>cases r;rfl
 |bl _=>cases r;rfl
 |int _=>obtain⟨t,rfl⟩:=r;rfl
 |str _=>obtain⟨t,rfl⟩:=r;rfl
 |byt _=>obtain⟨t,rfl⟩:=r;rfl
 |flt _=>obtain⟨t,rfl⟩:=r;rfl
 |ref _=>cases r;rfl
 |ty _=>cases r;rfl
def EZ{j pos'}(ha:PE X a ta):PC X .Is a (.Constant .none j pos') (Ru ta):=by
 intro Z2 s Y H Q I h;refine cj (ha Z2 s Y H _ I h) λv d ⟨x,H1,c,b,q1⟩=>?_;exact Ť (is_none_gen #[.bl _,H1,c,by rw[b.yd];rfl,q1])
def BH{j pos'}(ha:PE X a ta):PC X .IsNot a (.Constant .none j pos') (OY ta):=by
 intro Z2 s Y H Q I h;refine cj (ha Z2 s Y H _ I h) λv d ⟨x,H1,c,b,q1⟩=>?_;exact Ť (isnot_none_gen #[.bl _,H1,c,by rw[b.yd];rfl,q1])
def tB(t:TE):TT:=λY H Q=>t Y H λx H1=>∃c,x=.bl c/\Q c H1
def Fb{t:TE}(h:PC X op a b t)(h1:ô op b=Â:=by first|exact zi _ .a .a|rfl):PE X (.Compare a [op] [b] pos) t:=λZ2 s Y H Q I c=>wpAny_Compare1 (h Z2 s Y H Q I c) h1
def Hc{t:TE}(h:PC X op a b t)(h1:ô op b=Â:=by first|exact zi _ .a .a|rfl):PT X (.Compare a [op] [b] pos) (tB t):=by
 intro Z2 s Y H Q I e;refine Θ (cj (h Z2 s Y H _ I e) λv i h1=>cj h1 λu j h2=>cj h2 λc k ⟨x,H1,g,f,q1⟩=>?_) h1;obtain⟨d,rfl,q⟩:=q1;cases f;exact YM #[H1,g,q]
def Na{t:TE}(h:PE X e t)(he:autoParam (∀whole,Ÿ e X.env whole=(do let v <-whole;Ϧ e.pos;Ĥ [v] (truthy v))) zrc):PT X e (tB t):=by
 intro Z2 s Y H Q I a;refine isTrue_plain (cj (h Z2 s Y H _ I a) λv f ⟨x,H1,c,b,q1⟩=>?_) (he _);obtain⟨d,rfl,q⟩:=q1;cases b;exact YM #[H1,c,q]
variable{tA tB':TT}{rest:List Ô}
def Rr(t u:TT):TT:=λY H Q=>t Y H λc H1=>if c=Á then u Y H1 Q else Q Â H1
def SQ(t u:TT):TT:=λY H Q=>t Y H λc H1=>if c=Á then Q Á H1 else u Y H1 Q
def RV(t:TT):TT:=λY H Q=>t Y H λc H1=>Q (!c) H1
def JD(ha:PT X a tA):PW X (.BoolOp .And [a] pos) tA:=by
 intro b Z2 s Y H Q I h;refine isTrue_and (cj (ha Z2 s Y H Q I h) λc d e=>?_);cases c with
 |true=>exact isTrue_and_nil e
 |false=>exact e
def Oa(ha:PT X a tA):PW X (.BoolOp .Or [a] pos) tA:=by
 intro b Z2 s Y H Q I h;refine isTrue_or (cj (ha Z2 s Y H Q I h) λc d e=>?_);cases c with
 |false=>exact isTrue_or_nil e
 |true=>exact e
def Gi(ha:PT X a tA)(g:PW X (.BoolOp .And (b::rest) pos) tB'):PW X (.BoolOp .And (a::b::rest) pos) (Rr tA tB'):=by
 intro e Z2 s Y H Q I h;refine isTrue_and (cj (ha Z2 s Y H _ I h) λc f ⟨H1,d,q1⟩=>?_);cases c with
 |true=>exact g e Z2 f Y H1 Q d q1
 |false=>exact#[H1,d,q1]
def KH(ha:PT X a tA)(g:PW X (.BoolOp .Or (b::rest) pos) tB'):PW X (.BoolOp .Or (a::b::rest) pos) (SQ tA tB'):=by
 intro e Z2 s Y H Q I h;refine isTrue_or (cj (ha Z2 s Y H _ I h) λc f ⟨H1,d,q1⟩=>?_);cases c with
 |true=>exact#[H1,d,q1]
 |false=>exact g e Z2 f Y H1 Q d q1
def L7(ha:PT X a tA):PT X (.UnaryOp .Not a pos) (RV tA):=by
 intro Z2 s Y H Q I h;exact isTrue_not (ha Z2 s Y H (λc H1=>Q (!c) H1) I h)
def Ql(ta tb:TE):TE:=λY H Q=>ta Y H λx H1=>∃c,x=.bl c/\if c=Á then tb Y H1 Q else Q (.bl Â) H1
def RH(ta tb:TE):TE:=λY H Q=>ta Y H λx H1=>∃c,x=.bl c/\if c=Á then Q (.bl Á) H1 else tb Y H1 Q
def O7(ta:TE):TE:=λY H Q=>ta Y H λx H1=>∃c,x=.bl c/\Q (.bl (!c)) H1
def NB{op}{t:TE}(h:PE X a t):PE X (.BoolOp op [a] pos) t:=λZ2 s Y H Q I b=>BoolOp_one (h Z2 s Y H Q I b)
def D6(ha:PE X a ta)(g:PE X (.BoolOp .And (b::rest) pos) tb):PE X (.BoolOp .And (a::b::rest) pos) (Ql ta tb):=by
 intro Z2 s Y H Q I h;refine BoolOp_and (cj (ha Z2 s Y H _ I h) λv e ⟨x,H1,d,f,q1⟩=>?_);obtain⟨c,rfl,q1⟩:=q1;cases f;refine YM ?_;cases c with
 |true=>exact g Z2 e Y H1 Q d q1
 |false=>exact#[.bl Â,H1,d,rfl,q1]
def Lq(ha:PE X a ta)(g:PE X (.BoolOp .Or (b::rest) pos) tb):PE X (.BoolOp .Or (a::b::rest) pos) (RH ta tb):=by
 intro Z2 s Y H Q I h;refine BoolOp_or (cj (ha Z2 s Y H _ I h) λv e ⟨x,H1,d,f,q1⟩=>?_);obtain⟨c,rfl,q1⟩:=q1;cases f;refine YM ?_;cases c with
 |false=>exact g Z2 e Y H1 Q d q1
 |true=>exact#[.bl Á,H1,d,rfl,q1]
def NX(ha:PE X a ta):PE X (.UnaryOp .Not a pos) (O7 ta):=by
 intro Z2 s Y H Q I h;refine UnaryOp_ (cj (ha Z2 s Y H _ I h) λv e ⟨x,H1,d,b,q1⟩=>?_);obtain⟨c,rfl,q1⟩:=q1;cases b;exact not_of (YM #[.bl (!c),H1,d,rfl,q1])
def Sy(t:TT)(ta tb:TE):TE:=λY H Q=>t Y H λc H1=>if c=Á then ta Y H1 Q else tb Y H1 Q
def iZ(g:PT X c tA)(ha:PE X a ta)(i:PE X b tb):PE X (.IfExp c a b pos) (Sy tA ta tb):=by
 intro Z2 s Y H Q I h;refine wpAny_IfExp (cj (g Z2 s Y H _ I h) λd e ⟨H1,f,q1⟩=>?_);cases d with
 |true=>exact ha Z2 e Y H1 Q f q1
 |false=>exact i Z2 e Y H1 Q f q1
end
def dW(K:Ã)(H:Hp)(a:Ç)(xs:List V):Prop :=
 Rd H a (.lst xs) \/
  ∃(o:û) (XV:Array Ä) (n:Nat),K.lookup a=À o/\o.cls=.type "list"/\o.dict=none/\o.data=.seq XV n/\XV.size<=sizeLine/\Vals xs XV.toList
def zE(K:Ã)(H:Hp)(a:Ç)(xs:List V):Prop :=
 Rd H a (.tup xs) \/
  ∃(o:û) (XV:Array Ä) (n:Nat),K.lookup a=À o/\o.cls=.type "tuple"/\o.data=.seq XV n/\XV.size<=sizeLine/\Vals xs XV.toList
noncomputable def Rq:Ä->Option V
 |.none=>À .non
 |.bool b=>À (.bl b)
 |.int i _=>À (.int i)
 |.str x _=>À (.str x)
 |.bytes b _=>À (.byt b)
 |.float b _=>À (.flt b)
 |.ref a=>À (.ref a)
 |.type n=>À (.ty n)
 |_=>none
def RelV.abs{x:V}(r:RelV x u):Rq u=À x:=by
 cases x with
 |non=>cases r;rfl
 |bl _=>cases r;rfl
 |int _=>obtain⟨t,rfl⟩:=r;rfl
 |str _=>obtain⟨t,rfl⟩:=r;rfl
 |byt _=>obtain⟨t,rfl⟩:=r;rfl
 |flt _=>obtain⟨t,rfl⟩:=r;rfl
 |ref _=>cases r;rfl
 |ty _=>cases r;rfl
def RelV.inj{x y:V}{u:Ä}(r:RelV x u)(q:RelV y u):x=y:=Xy (r.abs.symm.trans q.abs)
theorem Vals.inj:∀{xs ys:List V} {us:List Ä},Vals xs us->Vals ys us->xs=ys
 |_,_,_,.nil,.nil=>rfl
 |_,_,_,.cons r t,.cons a t'=>by rw[r.inj a,Vals.inj t t']
section
variable{X:Cx}{Z2:List (Ç×û)}{Y:St}{H:Hp}{s:Æ}{a:Ç}{xs ys:List V}
def dW.of(h:H a=À (.lst xs)):dW K H a xs:=.inl (.inl h)
def Inv.list(I:Inv X Z2 Y H s)(h:dW X.K H a xs):∃XV:List Ä,Vals xs XV/\PlainL s.heap a XV.toArray/\xs.length<=sizeLine:=by
 rcases h with h|⟨o,XV,n,f,c,d,b,hz,r⟩
 .obtain⟨z,XV,n,r,e⟩:=h.ok I.hok;exact#[XV,r,#[_,n,e,rfl,rfl,rfl],z]
 .refine#[XV.toList,r,#[o,n,I.MY a o f,c,d,↑b],?_];have e:=r.length;simp only[XJ] at e;lia
def Inv.tuple(I:Inv X Z2 Y H s)(h:zE X.K H a xs):∃XV:List Ä,Vals xs XV/\IsTup s.heap a XV.toArray/\xs.length<=sizeLine:=by
 rcases h with h|⟨o,XV,n,d,c,b,hz,r⟩
 .obtain⟨z,XV,r,p⟩:=h.ok I.hok;exact#[XV,r,p,z]
 .refine#[XV.toList,r,#[o,I.MY a o d,c,n,↑b],?_];have e:=r.length;simp only[XJ] at e;lia
def Inv.nX(I:Inv X Z2 Y H s)(h:dW X.K H a xs)(h':dW X.K H a ys):xs=ys:=by
 obtain⟨XV,r,⟨o,n,e,_,_,d⟩,_⟩:=I.list h;obtain⟨its',c,⟨o',f,b,_,_,d'⟩,_⟩:=I.list h';rw[e] at b;cases b;rw[d] at d';injection d' with d1 _;have:XV=its':=by simpa using congrArg ϡ d1
 subst this;exact r.inj c
def Inv.DP(I:Inv X Z2 Y H s)(h:zE X.K H a xs)(h':zE X.K H a ys):xs=ys:=by
 obtain⟨XV,r,⟨o,e,_,n,d⟩,_⟩:=I.tuple h;obtain⟨its',c,⟨o',b,_,f,d'⟩,_⟩:=I.tuple h';rw[e] at b;cases b;rw[d] at d';injection d' with d1 _;have:XV=its':=by simpa using congrArg ϡ d1
 subst this;exact r.inj c
end
abbrev Cx.ur(X:Cx)(E:Ä->Æ->Prop):Cx:={X with xe:=E}
abbrev Cx.K8(X:Cx):Cx:=X.ur λ_ _=>False
def Cx.Ok.ur{X:Cx}(ok:X.Ok)(E:Ä->Æ->Prop):(X.ur E).Ok :=
 #[ok.mod,ok.kind,ok.glob,ok.blt,ok.above,ok.inj,ok.has,ok.cab,ok.hd,ok.frames,ok.stk,ok.exf,ok.bs,ok.bsz,ok.noex,ok.exfs,ok.oX,ok.frf]
def Cx.Ok.kT{E:Ä->Æ->Prop}(ok:(X.ur E).Ok):X.Ok :=
 #[ok.mod,ok.kind,ok.glob,ok.blt,ok.above,ok.inj,ok.has,ok.cab,ok.hd,ok.frames,ok.stk,ok.exf,ok.bs,ok.bsz,ok.noex,ok.exfs,ok.oX,ok.frf]
section
variable{X:Cx}{Z2:List (Ç×û)}{Y:St}{H:Hp}{s:Æ}{E:Ä->Æ->Prop}
def Inv.ur(I:Inv X Z2 Y H s)(E:Ä->Æ->Prop):Inv (X.ur E) Z2 Y H s:=#[I.ok.ur E,I.os,I.bare,I.base,I.loc,I.cell,I.free,I.freeC,I.pin,I.hok,I.len]
def Inv.kT(I:Inv (X.ur E) Z2 Y H s):Inv X Z2 Y H s:=#[I.ok.kT,I.os,I.bare,I.base,I.loc,I.cell,I.free,I.freeC,I.pin,I.hok,I.len]
def SP.kT{D:Ends}{f:Flow}{s':Æ}(h:SP (X.ur E) Z2 D f s'):SP X Z2 D f s':=by
 cases f with
 |next=>obtain⟨Y',H',I,q⟩:=h;exact#[Y',H',I.kT,q]
 |brk=>obtain⟨Y',H',I,q⟩:=h;exact#[Y',H',I.kT,q]
 |cont=>obtain⟨Y',H',I,q⟩:=h;exact#[Y',H',I.kT,q]
 |ret u=>obtain⟨v,Y',H',I,r,q⟩:=h;exact#[v,Y',H',I.kT,r,q]
def qW.K8{st:List Ñ}{t:TS}(h:qW X.K8 st t):qW X st t:=λZ2 s Y H D I a =>
 Zq (h Z2 s Y H D (I.ur _) a) (λ_ _ q=>q.kT) λ_ _ z=>Ă z
variable{st:Ñ}{rest:List Ñ}{t u:TS}{e:Ô}{te:TE}{pos:ì}
def O0:TS:=λD Y H=>D.nx Y H
def RM(t u:TS):TS:=λD Y H=>t {D with nx:=u D} Y H
def JS:qW X [] O0:=λ_ _ Y H _ I h=>acf #[Y,H,I,h]
def FR(h1:PS X st t)(h2:qW X rest u):qW X (st::rest) (RM t u):=by
 intro Z2 s Y H D I h;refine wpAny_execs_cons (cj (h1 Z2 s Y H {D with nx:=u D} I h) λf a q=>?_);cases f with
 |next =>
  obtain⟨Y',H',b,q⟩:=q;exact h2 Z2 a Y' H' D b q
 |ret v=>exact q
 |brk=>exact q
 |cont=>exact q
def Inv.quiet{Z2:List (Ç×û)}{Y:St}{H:Hp}{s:Æ}(I:Inv X Z2 Y H s):interactive X.env=Â:=by simp[interactive,I.ok.kind]
def Qg(te:TE):TS:=λD Y H=>te Y H λ_ H1=>D.nx Y H1
def wG(he:PE X e te)(a:autoParam (õ e none pos.line X.env=pure Â) zra):PS X (.Expr e pos) (Qg te):=by
 intro Z2 s Y H D I h;exact wpAny_Expr_any (cj (he Z2 s Y H _ I h) λv c ⟨x,H1,b,d,q1⟩=>#[Y,H1,b,q1]) I.quiet a
def Rw(te:TE):TS:=λD Y H=>te Y H D.rt
def GJ(he:PE X e te):PS X (.Return (À e) pos) (Rw te):=by
 intro Z2 s Y H D I h;exact wpAny_Return_some (cj (he Z2 s Y H _ I h) λv c ⟨x,H1,b,a,q1⟩=>#[x,Y,H1,b,a,q1])
def RC(c:TT)(t u:TS):TS:=λD Y H=>c Y H λb H1=>if b=Á then t D Y H1 else u D Y H1
def KU{a b:List Ñ}{tc:TT}(g:PT X c tc)(ha:qW X a t)(i:qW X b u):PS X (.If c a b pos) (RC tc t u):=by
 intro Z2 s Y H D I h;refine wpAny_If (cj (g Z2 s Y H _ I h) λd e ⟨H1,f,q1⟩=>?_);cases d with
 |true=>exact ha Z2 e Y H1 D f q1
 |false=>exact i Z2 e Y H1 D f q1
def Nd:TS:=λ_ _ _=>False
def uW{a:List Ñ}:qW X a Nd:=λ_ _ _ _ _ _ h=>h.elim
end
abbrev TG:=V->St->Hp->(St->Hp->Prop)->Prop
variable{g:TG}
abbrev Ny:=List V->St->Hp->(St->Hp->Prop)->Prop
def PG(X:Cx)(target:Ô)(t:TG):Prop :=
 ∀(Z2:List (Ç×û)) (s:Æ) (Y:St) (H:Hp) (v:V) (u:Ä) (Q:St->Hp->Prop),Inv X Z2 Y H s->RelV v u->t v Y H Q ->
  Í .E X.A (Ě target X.env u) (λ_ s'=>∃Y' H',Inv X Z2 Y' H' s'/\Q Y' H') X.xe s
def QH(X:Cx)(a:List Ô)(t:Ny):Prop :=
 ∀(Z2:List (Ç×û)) (s:Æ) (Y:St) (H:Hp) (vs:List V) (us:List Ä) (Q:St->Hp->Prop),Inv X Z2 Y H s->Vals vs us->t vs Y H Q ->
  Í .E X.A (assignInOrder ((ø a X.env).map (·.2)) us) (λ_ s'=>∃Y' H',Inv X Z2 Y' H' s'/\Q Y' H') X.xe s
abbrev Nt:=V->V->V->Hp->(Hp->Prop)->Prop
def Qr(X:Cx)(t:Nt):Prop :=
 ∀(Z2:List (Ç×û)) (s:Æ) (Y:St) (H:Hp) (o i v:V) (b a u:Ä) (Q:Hp->Prop),Inv X Z2 Y H s->RelV o b->RelV i a->RelV v u->t o i v H Q ->
  Í .E X.A (ϧ b a u) (λ_ s'=>∃H',Inv X Z2 Y H' s'/\Q H') X.xe s
section
variable{X:Cx}{pos:ì}
def ke(i:Nat):TG:=λv Y H Q=>Q (Y.set i (À v)) H
def nZ(c:X.N.Nodup)(hi:X.N[i]?=À x)(a:Loc X.env.scope x)(b:autoParam (X.fn x=Á\/X.env.scope.names.lookup x=À .local) zrf):PG X (.Name x pos) (ke i):=by
 intro Z2 s Y H v u Q I r h;exact wpAny_assign_Name (yA I c hi a r (λs' d=>#[_,H,d,h]) b)
def Jr:Ny:=λvs Y H Q=>vs=[]/\Q Y H
def tH(t:TG)(u:Ny):Ny:=λvs Y H Q=>∃v r,vs=v::r/\t v Y H λY' H'=>u r Y' H' Q
def By:QH X [] Jr:=by
 intro Z2 s Y H vs us Q I r h;obtain⟨e,h⟩:=h;subst e;cases r;exact assignInOrder_nil #[Y,H,I,h]
def mY{es:List Ô}{t:TG}{u:Ny}(h1:PG X e t)(h2:QH X es u)
  (b:autoParam ((ø (e::es) X.env).map (·.2)=Ě e X.env::(ø es X.env).map (·.2)) zra):QH X (e::es) (tH t u):=by
 intro Z2 s Y H vs us Q I r h;obtain⟨v,f,e1,h⟩:=h;subst e1;cases r with
 |cons r c =>
  rw[b];refine assignInOrder_cons (cj (h1 Z2 s Y H _ _ _ I r h) λ_ a ⟨σ1,H1,d,q1⟩=>?_);exact h2 Z2 a σ1 H1 _ _ Q d c q1
def IZ(K:Ã)(n:Nat)(t:Ny):TG:=λv Y H Q=>∃a xs,v=.ref a/\zE K H a xs/\xs.length=n/\t xs Y H Q
def EO{es:List Ô}{t:Ny}(p:X.calm=Á)(h:QH X es t)
  (i:autoParam ((ø es X.env).length=n) zra) (c:autoParam ((ø es X.env).findIdx? (·.1)=none) zra):PG X (.Tuple es k pos) (IZ X.K n t):=by
 intro Z2 s Y H v u Q I r d;obtain⟨a,xs,e1,l,j,d⟩:=d;subst e1;cases r;obtain⟨XV,f,g,hz⟩:=I.tuple l;refine assign_Tuple_tuple (I.ok.hd p) g (by simp[i,<-j,f.length]) c λh' m=>?_;have q:Inv X Z2 Y H {s with heap:=h'}:=I.kept (t':=s.toks) λb o e=>m b o (XS (Xr e)) e;exact h Z2 _ Y H xs _ Q q ↑f d
def R0(to b:TE)(t:Nt):TG:=λv Y H Q=>to Y H λo H1=>b Y H1 λi H2=>t o i v H2 λa=>Q Y a
def Nc{o i:Ô}{to c:TE}{t:Nt}(p:PE X o to)(hi:PE X i c)(e:Qr X t)
  (ha:∀v,Ě (.Subscript o i pos) X.env v=(do
   let a <-Ĥ [v] (Û o X.env);let b <-Ĥ [v,a] (Û i X.env)
   Ϧ pos
   Ĥ [v,a,b] (ϧ a b v)
   release [v,a,b] []):=by intro _;rfl):PG X (.Subscript o i pos) (R0 to c t):=by
 intro Z2 s Y H v u Q I r h;rw[ha];refine W9 (YZ (cj (p Z2 s Y H _ I h) λa g ⟨x,H1,w,f,q1⟩=>?_));refine W9 (YZ (cj (hi Z2 g Y H1 _ w q1) λb d ⟨y,H2,k,j,l⟩=>?_));refine W9 (ś (W9 (YZ (cj (e Z2 d Y H2 x y v a b u _ k f j r l) λ_ z ⟨n,q,m⟩=>?_))));exact wpAny_release #[Y,n,q,m]
def PH(te:TE)(g:TG):TS:=λD Y H=>te Y H λx H1=>g x Y H1 D.nx
def MD{te:TE}(he:PE X e te)(b:PG X tg g)(d:autoParam (swapsWithSole [tg] e pos.line X.env=pure Â) zra)(c:autoParam (swappedStores [tg] e X.env=pure none) zra)
  (h1:autoParam ((ø [tg] X.env).map (·.2)=[Ě tg X.env]) zra):PS X (.Assign [tg] e pos) (PH te g):=by
 intro Z2 s Y H D I h;refine wpAny_Assign_stores (cj (he Z2 s Y H _ I h) λv a ⟨x,H1,i,f,q1⟩=>?_) d c;rw[h1];exact cj (b Z2 a Y H1 x v _ i f q1) λ_ j q=>q
def sC{te:TE}{pos':ì}(c:X.N.Nodup)(hi:X.N[i]?=À x)(d:Loc X.env.scope x)(he:PE X e te)(f:autoParam (õ e (À (.Name x pos')) pos.line X.env=pure Â) zra)(a:autoParam (X.fn x=Á\/X.env.scope.names.lookup x=À .local) zrf):
  PS X (.Assign [.Name x pos'] e pos) (PH te (ke i)):=by
 intro Z2 s Y H D I h;refine wpAny_Assign_Name (cj (he Z2 s Y H _ I h) λv k ⟨y,H1,j,g,q1⟩=>?_) f;exact yA j c hi d g (λl b=>#[_,H1,b,q1]) a
def N0(c:TT)(tb:TS):TS:=λD Y H=>∃W:Nat->St->Hp->Prop,(∃m,W m Y H)/\∀m Y H,W m Y H ->
 c Y H λb H1=>if b=Á then ∃N:St->Hp->Prop,(∀Y' H',N Y' H'->∃a,a<m/\W a Y' H')/\tb {D with nx:=N,ct:=N,bk:=D.nx} Y H1 else D.nx Y H1
def G5{tc:TT}(hp:ď .E X.A X.env X.xe)(t:PT X c tc)(u:qW X body tb):PS X (.While c body [] pos) (N0 tc tb):=by
 intro Z2 s Y H D I h;obtain⟨W,⟨y,q⟩,turn⟩:=h;refine wpAny_While (codeAny_whileLoop (λn s'=>∃Y' H',Inv X Z2 Y' H' s'/\W n Y' H') ?_ y #[Y,H,I,q]);rintro n x ⟨σ1,H1,z,r⟩;refine ZP hp (cj (t Z2 x σ1 H1 _ z (turn n σ1 H1 r)) λb p ⟨H2,o,d⟩=>?_);cases b with
 |true =>
  obtain⟨N,m,d⟩:=d;rw[Xc rfl];refine ZP hp (cj (u Z2 p σ1 H2 _ o d) λf B e=>?_);cases f with
  |next =>
   obtain⟨σ3,a,k,i⟩:=e;obtain⟨l,g,j⟩:=m σ3 a i;exact#[l,g,σ3,a,k,j]
  |cont =>
   obtain⟨σ3,a,k,i⟩:=e;obtain⟨l,g,j⟩:=m σ3 a i;exact#[l,g,σ3,a,k,j]
  |brk=>exact e
  |ret v=>exact e
 |false =>
  rw[W_ Xx];exact acf #[σ1,H2,o,d]
end
structure It where
 go:Nat->Hp->Prop
 yld:Nat->Hp->V->Hp->Prop
 stop:Nat->Hp->Prop
def uC(X:Cx)(Z2:List (Ç×û))(H:Hp)(b:Ç):Prop :=
 H b=none/\b≠X.env.locals/\b∉X.fs/\(b∈X.ex\/X.s₀.heap.objs.size<=b)/\(∀x c,X.env.cells.lookup x=À c->c≠b)/\∀p∈X.pn++Z2,p.1≠b
def Inv.A7{H':Hp}(I:Inv X Z2 Y H s)(a:s.heap.objs.size<=b)(d:H' b=none):uC X Z2 H' b:=by
 refine#[d,abX (XR I.lt a),I.RY a,.inr (X8 I.sz a),λx c e z=>?_,λp hp z=>?_]
 .obtain⟨v,q⟩:=I.cell x c e;exact absurd (XR q.lt (by rwa[z])) (ZS _)
 .exact absurd (XR (Xr (I.pin p hp).1) (by rwa[z])) (ZS _)
structure Turn(P:Ð)(w:Ú)(K:Ã)(tg:Ô)(J:It)(fp:List Ç)(it:Ç)(tn:Nat->ß->Prop):Prop where
 mem:it∈fp
 obj:∀i h,tn i h->∀b∈fp,∃o,h.get? b=À o/\∀v,o.data≠.cell v
 keep:∀i h h',tn i h->(∀b∈fp,∀o,h.get? b=À o->h'.get? b=À o)->tn i h'
 item:∀(X:Cx),X.prog=P->X.w=w->X.K=K->X.calm=Á->∀(i:Nat) (Z2:List (Ç×û)) (s:Æ) (Y:St) (H:Hp) (E:Ä->Æ->Prop),Inv X Z2 Y H s->(∀b∈fp,uC X Z2 H b)->tn i s.heap->J.go i H ->
  Í (Î P w) X.A (Ď (.ref it)) (λr s1=>∃u,r=À u /\
   Í (Î P w) X.A (Ħ tg (.ref it) u) (λ_ s2=>∃x H',Inv X Z2 Y H' s2/\RelV x u/\J.yld i H x H'/\tn (i+1) s2.heap/\∀b∈fp,H' b=none) E s1) E s
 done:∀(X:Cx),X.prog=P->X.w=w->X.K=K->X.calm=Á->∀(i:Nat) (Z2:List (Ç×û)) (s:Æ) (Y:St) (H:Hp) (E:Ä->Æ->Prop),Inv X Z2 Y H s->(∀b∈fp,uC X Z2 H b)->tn i s.heap->J.stop i H ->
  Í (Î P w) X.A (Ď (.ref it)) (λr s1=>r=none/\Inv X Z2 Y H s1) E s
 self:∀(A:à) (i:Nat) (s:Æ) (Q:Ä->Æ->Prop) (E:Ä->Æ->Prop),tn i s.heap->Q (.ref it) s->Í (Î P w) A (ı (.ref it)) Q E s
abbrev TI:=St->Hp->(It->Hp->Prop)->Prop
def Rh(X:Cx)(Z2:List (Ç×û))(Y:St)(tg:Ô)(R:It->Hp->Prop)(a:Ä)(c:Æ):Prop :=
 ∃(it:Ç) (fp:List Ç) (tn:Nat->ß->Prop) (J:It) (H':Hp),a=.ref it/\Inv X Z2 Y H' c/\Turn X.prog X.w X.K tg J fp it tn/\tn 0 c.heap/\(∀b∈fp,uC X Z2 H' b)/\R J H'
def PI(X:Cx)(tg iter:Ô)(wi:TI):Prop :=
 ∀(Z2:List (Ç×û)) (s:Æ) (Y:St) (H:Hp) (R:It->Hp->Prop),Inv X Z2 Y H s->wi Y H R ->
  Í .E X.A (Û iter X.env) (λv a=>Í .E X.A (ı v) (Rh X Z2 Y tg R) X.xe a) X.xe s
def zA{α : Model}{A : à}{E : Ä->Æ->Prop}{s : Æ}{tg : Ô}{it : Ç}{u : Ä}{o : û}{n : String}{vs : Array Ä}{Q : Unit->Æ->Prop}(b : s.heap.get? it=À o)(d : o.cls=.type n)(e : o.data=.fields vs)
    (c : ["enumerate","zip","dict_itemiterator","dict_reverseitemiterator","odict_iterator","itertools.zip_longest","itertools.pairwise"].contains n=Â) (a : Q () s) : Í α A (Ħ tg (.ref it) u) Q E s:=by
  unfold Ħ
  cases tg<;>first
    |exact Xd a
    | (cases u <;> first
        |exact Xd a
        | (refine W9 (ϗ b ?_)
           rw[d,e];show Í α A (if (["enumerate","zip","dict_itemiterator","dict_reverseitemiterator","odict_iterator","itertools.zip_longest","itertools.pairwise"].contains n&&vs[0]?==À (ü _))=Á then _ else _) Q E s;rw[W_ (by intro h;rw[c,Bool.false_and] at h;cases h)]
           exact Xd a))
def O5(K:Ã)(a:Ç):It :=
 #[λi H=>∃xs x,dW K H a xs/\xs[i]?=À x,λi H x H'=>H'=H/\∀xs,dW K H a xs->xs[i]?=À x,λi H=>∃xs,dW K H a xs/\xs.length<=i]
def Sj(K:Ã)(a:Ç):It :=
 #[λi H=>∃xs x,zE K H a xs/\xs[i]?=À x,λi H x H'=>H'=H/\∀xs,zE K H a xs->xs[i]?=À x,λi H=>∃xs,zE K H a xs/\xs.length<=i]
def MH(lo:Int)(n:Nat):It:=#[λi _=>i<n,λi H x H'=>H'=H/\x=.int (lo+i),λi _=>n<=i]
def Dt(a it:Ç):Turn P w K tg (O5 K a) [it] it (λi h=>h.IsListIter it a i) where
 mem:=by simp
 obj:=λi h st b f=>by
  have e:b=it:=by simpa using f
  subst e;obtain⟨o,e,c,d⟩:=st;exact#[o,e,λv z=>by rw[d] at z;cases z]
 keep:=λi h h' st k=>st.at λo e=>k it .c o e
 item:=by
  intro X q C D G i Z2 s Y H E I j st n;subst q C D;obtain⟨xs,x,l,t⟩:=n;obtain⟨XV,F,p,hz⟩:=I.list l;obtain⟨u,N,α⟩:=F.get t;obtain⟨A,B,R,y,r,m⟩:=j it .c;refine wpAny_pyNext_list_item st p.isList (x:=u) ↑N λh' g J=>?_;have Q:Inv X Z2 Y H {s with heap:=h'}:=I.turned (t':=s.toks) (λb o f e=>(J.2 b f).trans e) A B y r m;obtain⟨o,e,c,d⟩:=id g;exact#[u,rfl,zA (s:={s with heap:=h'}) e c d .a #[x,H,Q,α,#[rfl,λys L=>by rw[I.nX L l];exact t],g,λb f=>(j b f).1]]
 done:=by
  intro X q C D G i Z2 s Y H E I j st n;subst q C D;obtain⟨xs,l,t⟩:=n;obtain⟨XV,F,p,hz⟩:=I.list l;obtain⟨A,B,R,y,r,m⟩:=j it .c;have S:=F.length;exact wpAny_pyNext_list_end (I.ok.hd G) st p.isList (by simp;lia) λh' O=>#[rfl,I.turned (t':=s.toks) (λb o f e=>O b o f e) A B y r m]
 self:=λ_ _ _ _ _ st h=>wpAny_pyIter_listiter st h
def AY(a it:Ç):Turn P w K tg (Sj K a) [it] it (λi h=>h.IsTupleIter it a i) where
 mem:=by simp
 obj:=λi h st b f=>by
  have e:b=it:=by simpa using f
  subst e;obtain⟨o,e,c,d⟩:=st;exact#[o,e,λv z=>by rw[d] at z;cases z]
 keep:=λi h h' st k=>st.at λo e=>k it .c o e
 item:=by
  intro X q C D G i Z2 s Y H E I j st n;subst q C D;obtain⟨xs,x,l,t⟩:=n;obtain⟨XV,F,p,hz⟩:=I.tuple l;obtain⟨u,N,α⟩:=F.get t;obtain⟨A,B,R,y,r,m⟩:=j it .c;refine wpAny_pyNext_tuple_item st (show s.heap.IsTuple a XV.toArray from p) (x:=u) ↑N λh' g J=>?_;have Q:Inv X Z2 Y H {s with heap:=h'}:=I.turned (t':=s.toks) (λb o f e=>(J.2 b f).trans e) A B y r m;obtain⟨o,e,c,d⟩:=id g;exact#[u,rfl,zA (s:={s with heap:=h'}) e c d .a #[x,H,Q,α,#[rfl,λys L=>by rw[I.DP L l];exact t],g,λb f=>(j b f).1]]
 done:=by
  intro X q C D G i Z2 s Y H E I j st n;subst q C D;obtain⟨xs,l,t⟩:=n;obtain⟨XV,F,p,hz⟩:=I.tuple l;obtain⟨A,B,R,y,r,m⟩:=j it .c;have S:=F.length;exact wpAny_pyNext_tuple_end (I.ok.hd G) st (show s.heap.IsTuple a XV.toArray from p) (by simp;lia) λh' O=>#[rfl,I.turned (t':=s.toks) (λb o f e=>O b o f e) A B y r m]
 self:=λ_ _ _ _ _ st h=>wpAny_pyIter_tupleiter st h
def AX(it:Ç)(lo:Int)(n:Nat):Turn P w K tg (MH lo n) [it] it (λi h=>ņ h it (lo+(i:Nat)*1) ((n:Int)-(i:Nat)) 1) where
 mem:=by simp
 obj:=λi h st b a=>by
  have e:b=it:=by simpa using a
  subst e
  exact#[_,st,λv z=>by
   have y:Data.fields _=Data.cell v:=z
   cases y]
 keep:=λi h h' st k=>k it .c _ st
 item:=by
  intro X j u x m i Z2 s Y H E I d st g;subst j u x;obtain⟨q,r,D,p,l,f⟩:=d it .c;have W:=Ϩ (prog:=X.prog) (w:=X.w) (I.ok.hd m) it lo 1 n;refine W.item i s _ _ g st λv h' tk A c kk=>?_;obtain⟨t,rfl⟩:=A;have C:Inv X Z2 Y H {s with heap:=h',toks:=tk}:=I.turned (λb o a e=>kk b o ↑a e) q r p l f;refine#[_,rfl,zA (s:={s with heap:=h',toks:=tk}) (n:="range_iterator") c rfl rfl .a #[.int (lo+i),H,C,#[t,?_],#[rfl,rfl],c,λb a=>(d b a).1]];rw[XC]
 done:=by
  intro X j u x m i Z2 s Y H E I d st g;subst j u x;obtain⟨q,r,D,p,l,f⟩:=d it .c;exact Ŵ (I.ok.hd m) st (by have:n<=i:=g;lia) λh' B=>#[rfl,I.turned (t':=s.toks) (λb o a e=>B b o a e) q r p l f]
 self:=λ_ _ _ _ _ st h=>ŵ st h
section
variable{X:Cx}{tg:Ô}
def OJ(K:Ã)(tl:TE):TI:=λY H R=>tl Y H λx H1=>∃a,x=.ref a/\(∃xs,dW K H1 a xs)/\R (O5 K a) H1
def Rm(K:Ã)(tl:TE):TI:=λY H R=>tl Y H λx H1=>∃a,x=.ref a/\(∃xs,zE K H1 a xs)/\R (Sj K a) H1
def Cp{l:Ô}{tl:TE}(f:PE X l tl):PI X tg l (OJ X.K tl):=by
 intro Z2 s Y H R I h;refine cj (f Z2 s Y H _ I h) λv c ⟨x,H1,d,i,q1⟩=>?_;obtain⟨a,e,⟨xs,g⟩,q⟩:=q1;subst e;cases i;obtain⟨XV,k,p,hz⟩:=d.list g;refine abE p.isList ?_;refine#[c.heap.objs.size,[c.heap.objs.size],_,_,H1,rfl,d.kept (t':=c.toks) λb o e=>Xi _ e,Dt a _,#[_,Xz _ rfl,rfl,rfl],λb j=>?_,q];have e:b=c.heap.objs.size:=by simpa using j
 subst e;exact d.A7 (Xm _) (d.hok.fresh (Xm _))
def Mi{l:Ô}{tl:TE}(f:PE X l tl):PI X tg l (Rm X.K tl):=by
 intro Z2 s Y H R I h;refine cj (f Z2 s Y H _ I h) λv c ⟨x,H1,d,i,q1⟩=>?_;obtain⟨a,e,⟨xs,g⟩,q⟩:=q1;subst e;cases i;obtain⟨XV,k,p,hz⟩:=d.tuple g;refine wpAny_pyIter_tuple (show c.heap.IsTuple a XV.toArray from p) ?_;refine#[c.heap.objs.size,[c.heap.objs.size],_,_,H1,rfl,d.kept (t':=c.toks) λb o e=>Xi _ e,AY a _,#[_,Xz _ rfl,rfl,rfl],λb j=>?_,q];have e:b=c.heap.objs.size:=by simpa using j
 subst e;exact d.A7 (Xm _) (d.hok.fresh (Xm _))
def HN{R:It->Hp->Prop}{E:Ä->Æ->Prop}{lo hi:Int}{t u v:Ϝ}{tk:Nat}(I:Inv X Z2 Y H s)(h1:-(2^62)<=lo)(h2:lo<2^62)(d:-(2^62)<=hi)(c:hi<2^62)
  (q:R (MH lo (hi-lo).toNat) H):Í .E X.A (ı (.ref s.heap.objs.size)) (Rh X Z2 Y tg R) E {s with heap:=s.heap.push {cls:=.type "range",data:=.fields (â [.int lo t,.int hi u,.int 1 v])},toks:=tk}:=by
 refine ϖ (ϒ ..) (small_one h1 h2 d c) ?_;have a:Inv X Z2 Y H {s with heap:=s.heap.push {cls:=.type "range",data:=.fields (â [.int lo t,.int hi u,.int 1 v])},toks:=tk}:=I.kept λb o e=>Xi _ e
 refine#[(s.heap.push {cls:=.type "range",data:=.fields (â [.int lo t,.int hi u,.int 1 v])}).objs.size,[(s.heap.push {cls:=.type "range",data:=.fields (â [.int lo t,.int hi u,.int 1 v])}).objs.size],_,_,H,rfl,
  a.kept (t':=tk) λb o e=>Xi _ e,AX _ lo (hi-lo).toNat,?_,λb f=>?_,q]
 .have e1:lo+((0:Nat):Int)*1=lo:=by simp
  have e2:(((hi-lo).toNat:Nat):Int)-((0:Nat):Int)=Ó lo hi 1:=by rw[rangeSize_one];split<;>lia
  show ņ _ _ (lo+((0:Nat):Int)*1) ((((hi-lo).toNat:Nat):Int)-((0:Nat):Int)) 1;rw[e1,e2];exact Xz _ rfl
 .have e:b=(s.heap.push {cls:=.type "range",data:=.fields (â [.int lo t,.int hi u,.int 1 v])}).objs.size:=by simpa using f
  subst e;exact a.A7 (Xm _) (a.hok.fresh (Xm _))
def PR(ta:TA):TI:=λY H R=>ta Y H λvs H1=>∃j:Int,vs=[.int j]/\-(2^62)<=j/\j<2^62/\R (MH 0 j.toNat) H1
def uZ{a:Ô}{ta:TA}{p:ì}(b:Gl X "range")(f:X.mg "range"=none)(ha:PA X [a] ta)(d:autoParam (Å [a] X.env=[(Â,Û a X.env)]) zra):PI X tg (.Call (.Name "range" p) [a] [] pos) (PR ta):=by
 intro Z2 s Y H R I h;refine Call_ (hV I b f boot_range (YU (cj (ha pos Z2 s Y H _ I h) λus l ⟨vs,H1,k,g,q1⟩=>?_) d rfl));obtain⟨j,e,q1,c,q⟩:=q1;subst e;cases g with
 |cons r i =>
  cases i;obtain⟨t,rfl⟩:=r;exact call_range_1 (HN k .b .b q1 c ↑q)
def Pk(wi:TI)(g:TG)(tb:TS):TS:=λD Y H=>wi Y H λJ H1=>∃W:Nat->Nat->St->Hp->Prop,(∃m,W 0 m Y H1)/\∀i m Y H,W i m Y H ->
 (J.stop i H/\D.nx Y H)\/(J.go i H/\∃N:St->Hp->Prop,(∀Y' H',N Y' H'->∃a,a<m/\W (i+1) a Y' H')/\∀x H',J.yld i H x H'->g x Y H' λσ2 H2=>tb {D with nx:=N,ct:=N,bk:=D.nx} σ2 H2)
def sY(fp:List Ç)(h:ß):List (Ç×û):=fp.filterMap λb=>(h.get? b).map λo=>(b,o)
def jy{o:û}(a:b∈fp)(e:h.get? b=À o):(b,o)∈sY fp h:=List.mem_filterMap.mpr #[b,a,by rw[e];rfl]
def Dq{p:Ç×û}(hp:p∈sY fp h):p.1∈fp/\h.get? p.1=À p.2:=by
 obtain⟨b,c,e⟩:=List.mem_filterMap.mp hp;cases q:h.get? b with
 |none=>rw[q] at e;cases e
 |some o =>
  rw[q] at e;have a:(b,o)=p:=Xy e;subst a;exact#[c,q]
def Inv.pinned(I:Inv X Z2 Y H s)(f:∀b∈fp,uC X Z2 H b)(i:∀b∈fp,∃o,s.heap.get? b=À o/\∀v,o.data≠.cell v):Inv X (Z2++sY fp s.heap) Y H s :=
 I.nD λp hp=>(X2.mp hp).elim (λz=>I.pin p (XG _ z)) λz=>by
  obtain⟨c,e⟩:=Dq z;obtain⟨g,h,j,_⟩:=f p.1 c;obtain⟨o,a,d⟩:=i p.1 c;rw[e] at a;cases a;exact#[e,g,h,j,d]
def Inv.mJ{pl:List (Ç×û)}(I:Inv X (Z2++pl) Y H s):Inv X Z2 Y H s:=I.nD λp hp=>I.pin p (XG _ (X0 _ hp))
def oM{iter:Ô}{wi:TI}(hp:ď .E X.A X.env X.xe)(K:X.calm=Á)(hi:PI X tg iter wi)(S:PG X tg g)(k:qW X body tb)
  (hs:autoParam (∀x,Ü iter X.env x=pure x) zrc):PS X (.For tg iter body [] pos) (Pk wi g tb):=by
 intro Z2 s Y H D I h;refine wpAny_For (cj (hi Z2 s Y H _ I h) λv s1 h1=>cj h1 λitv s2 h2=>?_) hs;obtain⟨it,fp,tn,J,H2,e,I2,T,E,Q,W,⟨m0,V⟩,turn⟩:=h2;subst e
 -- what stays Á of the iterator's objects through the loop
 have j:∀{H':Hp},(∀b∈fp,H' b=none)->∀b∈fp,uC X Z2 H' b:=λhn b k=>#[hn b k,(Q b k).2];refine codeAny_forLoop_any (λn s'=>∃i Y' H',Inv X Z2 Y' H' s'/\tn i s'.heap/\(∀b∈fp,H' b=none)/\W i n Y' H') ?_ m0 #[0,Y,H2,I2,E,λb k=>(Q b k).1,V];rintro n α ⟨i,σ3,z,L,y,q,w3⟩;rcases turn i n σ3 z w3 with⟨stop,qn⟩|⟨go,N,Γ,step⟩
 .refine ZP hp (cj (T.done X rfl rfl rfl K i Z2 α σ3 z X.xe L (j q) y stop) λr s4 ⟨F,I4⟩=>?_);subst F;exact acf #[σ3,z,I4,qn]
 .refine ZP hp (cj (T.item X rfl rfl rfl K i Z2 α σ3 z X.xe L (j q) y go) λr s4 ⟨u,F,R⟩=>?_);subst F;refine ZP hp (cj R λ_ P ⟨x,O,I5,σ,y5,p,C⟩=>?_);have B:=I5.pinned (j C) (T.obj _ _ p);refine ZP hp (cj (S _ P σ3 O x u _ B σ (step x O y5)) λ_ s6 ⟨σ6,H6,I6,q6⟩=>?_);refine ZP hp (cj (k _ s6 σ6 H6 _ I6 q6) λf G l=>?_)
  have Ő:∀{σ7:St} {a:Hp},Inv X (Z2++sY fp P.heap) σ7 a G->N σ7 a->∃m,m<n/\∃i Y' H',Inv X Z2 Y' H' G/\tn i G.heap/\(∀b∈fp,H' b=none)/\W i m Y' H':=λ{σ7 a} c t=>by
   obtain⟨m',hm,Z⟩:=Γ σ7 a t;refine#[m',hm,i+1,σ7,a,c.mJ,T.keep _ _ _ p λb k o e=>(c.pin (b,o) (XG _ (XG _ (jy k e)))).1,λb k=>?_,Z];obtain⟨o,e,d⟩:=T.obj _ _ p b k;exact(c.pin (b,o) (XG _ (XG _ (jy k e)))).2.1
  cases f with
  |next=>obtain⟨σ7,a,c,t⟩:=l;exact Ő c t
  |cont=>obtain⟨σ7,a,c,t⟩:=l;exact Ő c t
  |brk=>obtain⟨σ7,a,c,l⟩:=l;exact#[σ7,a,c.mJ,l]
  |ret v=>obtain⟨x7,σ7,a,c,r7,l⟩:=l;exact#[x7,σ7,a,c.mJ,r7,l]
end
def E7{xs:List V}{D:Ends}(Pv:Nat->St->Hp->Prop)(d:Pv 0 Y H)(h:∀i Y H,i<=xs.length->Pv i Y H->dW K H a xs)
  (k:∀i x Y H,xs[i]?=À x->Pv i Y H->g x Y H λσ2 H2=>tb {D with nx:=Pv (i+1),ct:=Pv (i+1),bk:=D.nx} σ2 H2) (f:∀Y H,Pv xs.length Y H->D.nx Y H):
  ∃W:Nat->Nat->St->Hp->Prop,(∃m,W 0 m Y H)/\∀i m Y H,W i m Y H ->
   ((O5 K a).stop i H/\D.nx Y H)\/((O5 K a).go i H/\∃N:St->Hp->Prop,(∀Y' H',N Y' H'->∃c,c<m/\W (i+1) c Y' H')/\∀x H',(O5 K a).yld i H x H'->g x Y H' λσ2 H2=>tb {D with nx:=N,ct:=N,bk:=D.nx} σ2 H2):=by
 refine#[λi m Y H=>m=xs.length-i/\i<=xs.length/\Pv i Y H,#[xs.length,.c,Yc _,d],?_];rintro i m Y H ⟨rfl,hi,p⟩;have q:=h i Y H hi p;by_cases b:i<xs.length
 .refine .inr #[#[xs,xs[i],q,by simp[b]],Pv (i+1),λY' H' j=>#[xs.length-(i+1),.b,rfl,b,j],λx H' y=>?_];obtain⟨e,y⟩:=y;subst e;exact k i x Y _ (y xs q) p
 .have e:i=xs.length:=by lia
  subst e;exact .inl #[#[xs,q,Xm _],f Y H p]
def Dy{lo:Int}{D:Ends}(Pv:Nat->St->Hp->Prop)(c:Pv 0 Y H)
  (h:∀i Y H,i<n->Pv i Y H->g (.int (lo+i)) Y H λσ2 H2=>tb {D with nx:=Pv (i+1),ct:=Pv (i+1),bk:=D.nx} σ2 H2) (d:∀Y H,Pv n Y H->D.nx Y H):
  ∃W:Nat->Nat->St->Hp->Prop,(∃m,W 0 m Y H)/\∀i m Y H,W i m Y H ->
   ((MH lo n).stop i H/\D.nx Y H)\/((MH lo n).go i H/\∃N:St->Hp->Prop,(∀Y' H',N Y' H'->∃b,b<m/\W (i+1) b Y' H')/\∀x H',(MH lo n).yld i H x H'->g x Y H' λσ2 H2=>tb {D with nx:=N,ct:=N,bk:=D.nx} σ2 H2):=by
 refine#[λi m Y H=>m=n-i/\i<=n/\Pv i Y H,#[n,.c,Yc _,c],?_];rintro i m Y H ⟨rfl,hi,p⟩;by_cases a:i<n
 .refine .inr #[a,Pv (i+1),λY' H' f=>#[n-(i+1),.b,rfl,a,f],λx H' y=>?_];obtain⟨e,y⟩:=y;subst e y;exact h i Y _ a p
 .have e:i=n:=by lia
  subst e;exact .inl #[Xm _,d Y H p]
abbrev R2:=V->V->Hp->VK->Prop
variable{r:R2}
def k5(X:Cx)(f:Ä->Ä->Sem Ä)(r:R2):Prop :=
 ∀(Z2:List (Ç×û)) (s:Æ) (Y:St) (H:Hp) (x y:V) (v u:Ä) (Q:VK),Inv X Z2 Y H s->RelV x v->RelV y u->r x y H Q ->
  Í .E X.A (f v u) (EP X Z2 Y Q) X.xe s
def Rx(X:Cx)(f:Ä->Sem Ä)(r:V->Hp->VK->Prop):Prop :=
 ∀(Z2:List (Ç×û)) (s:Æ) (Y:St) (H:Hp) (x:V) (v:Ä) (Q:VK),Inv X Z2 Y H s->RelV x v->r x H Q ->
  Í .E X.A (f v) (EP X Z2 Y Q) X.xe s
def kU(X:Cx)(f:Ä)(r:List V->Hp->VK->Prop):Prop :=
 ∀(Z2:List (Ç×û)) (s:Æ) (Y:St) (H:Hp) (xs:List V) (us:List Ä) (Q:VK),Inv X Z2 Y H s->Vals xs us->r xs H Q ->
  Í .E X.A (call f us) (EP X Z2 Y Q) X.xe s
def Qz(r:R2)(ta tb:TE):TE:=λY H Q=>ta Y H λx H1=>tb Y H1 λy H2=>r x y H2 Q
def SK(r:V->Hp->VK->Prop)(ta:TE):TE:=λY H Q=>ta Y H λx H1=>r x H1 Q
def rI(C:Int->Int->Prop)(g:Int->Int->V):R2:=λx y H Q=>∃i j,x=.int i/\y=.int j/\C i j/\Q (g i j) H
def J8(g:Int->Int->V):R2:=λx y H Q=>∃i j,x=.int i/\y=.int j/\Q (g i j) H
def rU(g:Int->V):V->Hp->VK->Prop:=λx H Q=>∃i,x=.int i/\Q (g i) H
section
variable{X:Cx}{a b c:Ô}{ta tb tc:TE}{pos:ì}
def Mg(ha:PE X a ta)(n:PE X b tb){R:V->V->Hp->Prop}(I:Inv X Z2 Y H s)
  (h:ta Y H λx H1=>tb Y H1 λy H2=>R x y H2) {Q:Ä->Æ->Prop} {f:Ä->Ä->Sem Ä}
  (g:∀v u c x y H2,Inv X Z2 Y H2 c->RelV x v->RelV y u->R x y H2->Í .E X.A (f v u) Q X.xe c):
  Í .E X.A (Û a X.env) (λv m=>Í .E X.A (Û b X.env) (λu j=>Í .E X.A (f v u) Q X.xe j) X.xe m) X.xe s:=by
 refine cj (ha Z2 s Y H _ I h) λv d ⟨x,H1,o,l,q1⟩=>?_;refine cj (n Z2 d Y H1 _ o q1) λu c ⟨y,H2,i,e,k⟩=>?_;exact g v u c x y H2 i l e k
def yo{op:Operator}(e:k5 X (ċ op) r)(ha:PE X a ta)(g:PE X b tb):PE X (.BinOp a op b pos) (Qz r ta tb):=by
 intro Z2 s Y H Q I h;exact wpAny_BinOp (Mg ha g I h λv u d x y H2 c i f q=>e Z2 d Y H2 x y v u Q c i f q)
def Qf{op:UnaryOp}{r:V->Hp->VK->Prop}(c:Rx X (unaryOp op) r)(ha:PE X a ta):PE X (.UnaryOp op a pos) (SK r ta):=by
 intro Z2 s Y H Q I h;exact UnaryOp_ (cj (ha Z2 s Y H _ I h) λv b ⟨x,H1,e,d,q1⟩=>c Z2 b Y H1 x v Q e d q1)
def OW{C:Int->Int->Prop}{g:Int->Int->Int}
  (rule:∀(i j:Int) (t u:Ϝ) (s:Æ) (Q:Ä->Æ->Prop) (E:Ä->Æ->Prop),C i j->Q (.int (g i j) s.toks) {s with toks:=s.toks+1}->Í .E X.A (f (.int i t) (.int j u)) Q E s):
  k5 X f (rI C λi j=>.int (g i j)):=by
 intro Z2 s Y H x y v u Q I c b h;obtain⟨i,j,rfl,rfl,a,q⟩:=h;obtain⟨t,rfl⟩:=c;obtain⟨t',rfl⟩:=b;exact rule i j t t' s _ _ a #[.int (g i j),H,I.tok _,#[_,rfl],q]
def O8{g:Int->Int->Int}
  (rule:∀(i j:Int) (t u:Ϝ) (s:Æ) (Q:Ä->Æ->Prop) (E:Ä->Æ->Prop),Q (.int (g i j) s.toks) {s with toks:=s.toks+1}->Í .E X.A (f (.int i t) (.int j u)) Q E s):
  k5 X f (J8 λi j=>.int (g i j)):=by
 intro Z2 s Y H x y v u Q I b a h;obtain⟨i,j,rfl,rfl,q⟩:=h;obtain⟨t,rfl⟩:=b;obtain⟨t',rfl⟩:=a;exact rule i j t t' s _ _ #[.int (g i j),H,I.tok _,#[_,rfl],q]
def Kf{g:Int->Int->Bool}
  (rule:∀(i j:Int) (t u:Ϝ) (s:Æ) (Q:Ä->Æ->Prop) (E:Ä->Æ->Prop),Q (.bool (g i j)) s->Í .E X.A (f (.int i t) (.int j u)) Q E s):
  k5 X f (J8 λi j=>.bl (g i j)):=by
 intro Z2 s Y H x y v u Q I b a h;obtain⟨i,j,rfl,rfl,q⟩:=h;obtain⟨t,rfl⟩:=b;obtain⟨t',rfl⟩:=a;exact rule i j t t' s _ _ #[.bl (g i j),H,I,rfl,q]
def EW(i j:Int):Prop:=0<=j/\j<=1000000/\i.natAbs<2^64
def JK(i j:Int):Prop:=(-(2^64)<i/\i<2^64)\/(-(2^64)<j/\j<2^64)
def JK.ok{i j:Int}(h:JK i j):ě i j:=by
 rcases h with⟨h1,h2⟩|⟨h1,h2⟩
 .exact .of_left (intBits_le_64 h1 h2)
 .exact .of_right (intBits_le_64 h1 h2)
def Nw:k5 X (ċ .Add) (J8 λi j=>.int (i+j)):=O8 λ_ _ _ _ _ _ _ q=>add_int q
def LX:k5 X (ċ .Sub) (J8 λi j=>.int (i-j)):=O8 λ_ _ _ _ _ _ _ q=>sub_int q
def Kn:k5 X (ċ .Mod) (rI (λ_ j=>j≠0) λi j=>.int (i.fmod j)):=OW λ_ _ _ _ _ _ _ a q=>mod_int' a q
def MQ:k5 X (ċ .Pow) (rI EW λi j=>.int (i^j.toNat)):=OW λ_ _ _ _ _ _ _ a q=>pow_int_small a.1 a.2.1 a.2.2 q
def MR:k5 X (ċ .LShift) (rI EW λi j=>.int (i*2^j.toNat)):=OW λ_ _ _ _ _ _ _ a q=>lshift_int_small a.1 a.2.1 a.2.2 q
def SN{f:Ä->Sem Ä}{g:Int->Int}
  (rule:∀(i:Int) (t:Ϝ) (s:Æ) (Q:Ä->Æ->Prop) (E:Ä->Æ->Prop),Q (.int (g i) s.toks) {s with toks:=s.toks+1}->Í .E X.A (f (.int i t)) Q E s):
  Rx X f (rU λi=>.int (g i)):=by
 intro Z2 s Y H x v Q I a h;obtain⟨i,rfl,q⟩:=h;obtain⟨t,rfl⟩:=a;exact rule i t s _ _ #[.int (g i),H,I.tok _,#[_,rfl],q]
def LL:Rx X (unaryOp .USub) (rU λi=>.int (-i)):=SN λ_ _ _ _ _ q=>neg_int q
end
noncomputable def PX:V->V->Bool
 |.non,.non=>Á|.non,.int _=>Á|.int _,.non=>Á|.non,.bl _=>Á|.bl _,.non=>Á|.non,.str _=>Á|.str _,.non=>Á
 |.int _,.int _=>Á|.bl _,.bl _=>Á|.str _,.str _=>Á|.byt _,.byt _=>Á
 |.int _,.str _=>Á|.str _,.int _=>Á|.bl _,.str _=>Á|.str _,.bl _=>Á
 |_,_=>Â
def SG:R2:=λx y H Q=>PX x y=Á/\Q (.bl (decide (x=y))) H
def SO:R2:=λx y H Q=>PX x y=Á/\Q (.bl (!decide (x=y))) H
def rF{i j:Int}:decide (V.int i=V.int j)=(i==j):=by
 rw[Yk];simp
def Fh{i j:Bool}:decide (V.bl i=V.bl j)=(i==j):=by
 rw[Yk];simp
def BP{i j:Ï}:decide (V.str i=V.str j)=(i==j):=by
 rw[Yk];simp
def CB{i j:Array UInt8}:decide (V.byt i=V.byt j)=(i.toList==j.toList):=by
 rw[Yk];cases i;cases j;simp
section
variable{X:Cx}{a b c:Ô}{ta tb tc:TE}{pos:ì}
def bw{k k':Bool}(I:Inv X Z2 Y H s)(q:Q (.bl k) H)(e:k=k'):EP X Z2 Y Q (.bool k') s:=by
 subst e;exact#[.bl k,H,I,rfl,q]
def PJ:k5 X (ä .Eq) SG:=by
 intro Z2 s Y H x y v u Q I c a h;obtain⟨b,q⟩:=h;cases x with
 |non =>
  cases c;cases y with
  |non=>cases a;exact PySem.EqNone.eq_none_none (bw I q .c)
  |bl j=>cases a;exact PySem.EqNone.eq_none_bool (bw I q .c)
  |int j=>obtain⟨t',rfl⟩:=a;exact PySem.EqNone.eq_none_int (bw I q .c)
  |str j=>obtain⟨t',rfl⟩:=a;exact PySem.EqNone.eq_none_str (bw I q .c)
  |_=>exact absurd (show Â=Á from b) Xx
 |bl i =>
  cases c;cases y with
  |non=>cases a;exact PySem.EqNone.eq_bool_none (bw I q .c)
  |bl j=>cases a;exact eq_bool (bw I q Fh)
  |str j=>obtain⟨t',rfl⟩:=a;exact PySem.EqMixed.eq_bool_str (bw I q .c)
  |_=>exact absurd (show Â=Á from b) Xx
 |int i =>
  obtain⟨t,rfl⟩:=c;cases y with
  |non=>cases a;exact PySem.EqNone.eq_int_none (bw I q .c)
  |int j=>obtain⟨t',rfl⟩:=a;exact eq_int (bw I q rF)
  |str j=>obtain⟨t',rfl⟩:=a;exact PySem.EqMixed.eq_int_str (bw I q .c)
  |_=>exact absurd (show Â=Á from b) Xx
 |str i =>
  obtain⟨t,rfl⟩:=c;cases y with
  |non=>cases a;exact PySem.EqNone.eq_str_none (bw I q .c)
  |bl j=>cases a;exact PySem.EqMixed.eq_str_bool (bw I q .c)
  |int j=>obtain⟨t',rfl⟩:=a;exact PySem.EqMixed.eq_str_int (bw I q .c)
  |str j=>obtain⟨t',rfl⟩:=a;exact eq_str (bw I q BP)
  |_=>exact absurd (show Â=Á from b) Xx
 |byt i =>
  obtain⟨t,rfl⟩:=c;cases y with
  |byt j=>obtain⟨t',rfl⟩:=a;exact PySem.W.eq_bytes (bw I q CB)
  |_=>exact absurd (show Â=Á from b) Xx
 |_=>cases y<;>exact absurd (show Â=Á from b) Xx
def Po:k5 X (ä .NotEq) SO:=by
 intro Z2 s Y H x y v u Q I c a h;obtain⟨b,q⟩:=h;cases x with
 |non =>
  cases c;cases y with
  |non=>cases a;exact PySem.EqNone.ne_none_none (bw I q .c)
  |bl j=>cases a;exact PySem.EqNone.ne_none_bool (bw I q .c)
  |int j=>obtain⟨t',rfl⟩:=a;exact PySem.EqNone.ne_none_int (bw I q .c)
  |str j=>obtain⟨t',rfl⟩:=a;exact PySem.EqNone.ne_none_str (bw I q .c)
  |_=>exact absurd (show Â=Á from b) Xx
 |bl i =>
  cases c;cases y with
  |non=>cases a;exact PySem.EqNone.ne_bool_none (bw I q .c)
  |bl j=>cases a;exact ne_bool (bw I q (congrArg not Fh))
  |str j=>obtain⟨t',rfl⟩:=a;exact PySem.EqMixed.ne_bool_str (bw I q .c)
  |_=>exact absurd (show Â=Á from b) Xx
 |int i =>
  obtain⟨t,rfl⟩:=c;cases y with
  |non=>cases a;exact PySem.EqNone.ne_int_none (bw I q .c)
  |int j=>obtain⟨t',rfl⟩:=a;exact ne_int (bw I q (congrArg not rF))
  |str j=>obtain⟨t',rfl⟩:=a;exact PySem.EqMixed.ne_int_str (bw I q .c)
  |_=>exact absurd (show Â=Á from b) Xx
 |str i =>
  obtain⟨t,rfl⟩:=c;cases y with
  |non=>cases a;exact PySem.EqNone.ne_str_none (bw I q .c)
  |bl j=>cases a;exact PySem.EqMixed.ne_str_bool (bw I q .c)
  |int j=>obtain⟨t',rfl⟩:=a;exact PySem.EqMixed.ne_str_int (bw I q .c)
  |str j=>obtain⟨t',rfl⟩:=a;exact ne_str (bw I q (congrArg not BP))
  |_=>exact absurd (show Â=Á from b) Xx
 |byt i =>
  obtain⟨t,rfl⟩:=c;cases y with
  |byt j=>obtain⟨t',rfl⟩:=a;exact PySem.W.ne_bytes (bw I q (congrArg not CB))
  |_=>exact absurd (show Â=Á from b) Xx
 |_=>cases y<;>exact absurd (show Â=Á from b) Xx
def Pp:k5 X (ä .Lt) (J8 λi j=>.bl (decide (i<j))):=Kf λ_ _ _ _ _ _ _ q=>lt_int q
def Qi:k5 X (ä .LtE) (J8 λi j=>.bl (decide (i<=j))):=Kf λ_ _ _ _ _ _ _ q=>le_int q
def PY:k5 X (ä .Gt) (J8 λi j=>.bl (decide (j<i))):=Kf λ_ _ _ _ _ _ _ q=>gt_int q
def P5:k5 X (ä .GtE) (J8 λi j=>.bl (decide (j<=i))):=Kf λ_ _ _ _ _ _ _ q=>ge_int q
def FV(b:Ô)(h:autoParam (op≠.In) zrb)(h2:autoParam (op≠.NotIn) zrb):ô op b=Â:=by
 have e1:(op==CmpOp.In)=Â:=by cases op<;>first|rfl|exact absurd rfl h
 have e2:(op==ϲ)=Â:=by cases op<;>first|rfl|exact absurd rfl h2
 cases b<;>simp[ô,e1,e2]
def Kv(e:k5 X (ä op) r)(ha:PE X a ta)(i:PE X b tb)(f:ô op b=Â):PE X (.Compare a [op] [b] pos) (Qz r ta tb):=by
 intro Z2 s Y H Q I h;exact wpAny_Compare1 (Mg ha i I h λv u d x y H2 c j g q=>e Z2 d Y H2 x y v u Q c j g q) f
def KL(t:TE):TT:=λY H Q=>t Y H λx H'=>∃k,x=.bl k/\Q k H'
def J3(o:k5 X (ä op) r)(ha:PE X a ta)(w:PE X b tb)(q:ô op b=Â):PT X (.Compare a [op] [b] pos) (KL (Qz r ta tb)):=by
 intro Z2 s Y H Q I h
 refine Θ (cj (ha Z2 s Y H _ I h) λv d ⟨x,H1,A,t,q1⟩=>cj (w Z2 d Y H1 _ A q1) λu i ⟨y,H2,g,f,j⟩ =>
  cj (o Z2 i Y H2 x y v u _ g t f j) λc B ⟨z,n,p,m,k,e,l⟩=>?_) q
 subst e;cases m;exact YM #[n,p,l]
def E5(r b:R2)(ta tb tc:TE):TE:=λY H Q=>ta Y H λx H1=>tb Y H1 λy H2=>r x y H2 λz a=>∃k,z=.bl k /\
 (if k=Á then tc Y a λc d=>b y c d Q else Q (.bl Â) a)
def Ef{f:ŕ}{n:R2}(N:k5 X (ä op) r)(g:k5 X (ä f) n)(ha:PE X a ta)(F:PE X b tb)(C:PE X c tc)
  (B:autoParam (ŧ [op,f] [b,c]=Â) zrg):PE X (.Compare a [op,f] [b,c] pos) (E5 r n ta tb tc):=by
 intro Z2 s Y H Q I h
 refine Compare_chain (cj (ha Z2 s Y H _ I h) λv J ⟨x,H1,O,E,q1⟩=>chain_link (cj (F Z2 J Y H1 _ O q1) λu p ⟨y,H2,K,i,L⟩ =>
  cj (N Z2 p Y H2 x y v u _ K E i L) λd w ⟨z,l,m,α,k,e,j⟩=>?_)) B
 subst e;cases α;refine YM ?_;cases k with
 |false=>exact ite_ff #[.bl Â,l,m,rfl,j]
 |true=>exact ite_tt (chain_last (cj (C Z2 w Y l _ m j) λo G ⟨q,P,t,D,A⟩=>g Z2 G Y P y q u o Q t i D A))
def HJ{f:ŕ}{n:R2}(T:k5 X (ä op) r)(g:k5 X (ä f) n)(ha:PE X a ta)(K:PE X b tb)(F:PE X c tc)
  (E:autoParam (ŧ [op,f] [b,c]=Â) zrg):PT X (.Compare a [op,f] [b,c] pos) (KL (E5 r n ta tb tc)):=by
 intro Z2 s Y H Q I h
 refine isTrue_chain (cj (ha Z2 s Y H _ I h) λv N ⟨x,H1,Γ,J,q1⟩=>test_link (cj (K Z2 N Y H1 _ Γ q1) λu p ⟨y,H2,O,i,P⟩ =>
  cj (T Z2 p Y H2 x y v u _ O J i P) λd A ⟨z,l,m,S,k,e,j⟩=>?_)) E
 subst e;cases S;refine YM ?_;cases k with
 |false =>
  obtain⟨k',q,q'⟩:=j;cases q;exact ite_ff #[l,m,q']
 |true =>
  refine ite_tt (test_last (cj (F Z2 A Y l _ m j) λo L ⟨t,V,w,G,C⟩=>cj (g Z2 L Y V y t u o _ w i G C) λd' Z ⟨W,D,R,B,σ,e2,α⟩=>?_));subst e2;cases B;exact YM #[D,R,α]
def xC:(sizeLine:Nat)<2^63:=by rw[ZJ];decide
def vals1{x:V}(r:Vals [x] us):∃u,us=[u]/\RelV x u:=by
 cases r with
 |cons b a=>cases a;exact#[_,rfl,b]
def vals2{x y:V}(r:Vals [x,y] us):∃u a,us=[u,a]/\RelV x u/\RelV y a:=by
 cases r with
 |cons d b =>
  cases b with
  |cons e c=>cases c;exact#[_,_,rfl,d,e]
def D7:kU X (.builtin "abs") (λxs H Q=>∃i,xs=[.int i]/\Q (.int (if i<0 then -i else i)) H):=by
 intro Z2 s Y H xs us Q I r h;obtain⟨i,rfl,q⟩:=h;obtain⟨u,rfl,t,rfl⟩:=vals1 r;exact call_abs_int λu tk=>#[.int (if i<0 then -i else i),H,I.tok _,#[_,rfl],q]
def DY(b:X.calm=Á):kU X (.builtin "max") (λxs H Q=>∃i j,xs=[.int i,.int j]/\Q (.int (if j>i then j else i)) H):=by
 intro Z2 s Y H xs us Q I r h;obtain⟨i,j,rfl,q⟩:=h;obtain⟨u,c,rfl,⟨t,rfl⟩,⟨t',rfl⟩⟩:=vals2 r;refine max_two_ints (I.ok.hd b) λh' tk k=>#[_,H,I.kept k,?_,q];by_cases a:j>i
 .rw[Xc a,Xc a];exact#[_,rfl]
 .rw[W_ a,W_ a];exact#[_,rfl]
def Dw(b:X.calm=Á):kU X (.builtin "min") (λxs H Q=>∃i j,xs=[.int i,.int j]/\Q (.int (if j<i then j else i)) H):=by
 intro Z2 s Y H xs us Q I r h;obtain⟨i,j,rfl,q⟩:=h;obtain⟨u,c,rfl,⟨t,rfl⟩,⟨t',rfl⟩⟩:=vals2 r;refine min_two_ints (I.ok.hd b) λh' tk k=>#[_,H,I.kept k,?_,q];by_cases a:j<i
 .rw[Xc a,Xc a];exact#[_,rfl]
 .rw[W_ a,W_ a];exact#[_,rfl]
variable{prog:Ð}{w:Ú}{A:à}{E:Ä->Æ->Prop}{s:Æ}{K:Ã}{x dx C f:Ç}{mA:Ï->Option Ä}{name:Ï}{v:Ä}
end
section
variable{P:Ð}{w:Ú}{H H':Hp}{h h':ß}{a C dx:Ç}{fs fs':List (Ï×V)}
variable{X:Cx}{Z2:List (Ç×û)}{Y:St}{s:Æ}{f:Ï}{v:V}{A:à}{E:Ä->Æ->Prop}
variable{o e value:Ô}{pos pos' tpos:ì}{ta tv:TE}
variable{Q:Ä->Æ->Prop}{c:Ä}{b:Bool}
end
structure dP(k:Nat)(A:à):Prop where
 hd:A.handled=none
 dp:A.depth+3*k+5<recursionLimit
 un:A.units+16*k+200<Ę
def dP.mono{j:Nat}(r:dP k A)(h:j<=k):dP j A:=#[r.hd,by have:=r.dp;lia,by have:=r.un;lia]
def dP.deeper{k:Nat}{A:à}(r:dP (k+1) A)(env:ĵ):dP k (A.deeper env) :=
 #[r.hd,by have:=r.dp;show A.depth+1+3*k+5<_;lia,by have:=r.un;show A.units+3+16*k+200<_;lia]
def dP.depth{k:Nat}{A:à}(r:dP k A):A.depth<recursionLimit:=by have:=r.dp;lia
def OS:TA:=λ_ H Q=>Q [] H
def Qt(ta:TE)(tr:TA):TA:=λY H Q=>ta Y H λx H1=>tr Y H1 λxs H2=>Q (x::xs) H2
section
variable{X:Cx}{e:Ô}{es:List Ô}{te:TE}{t:TA}{pos:ì}
def a9:PA X [] OS:=λ_ _ _ _ H Q I h=>Ų #[[],H,I,.nil,h]
def aB(ha:PE X e te)(d:PA X es t)(g:autoParam (Å (e::es) X.env=(Â,Û e X.env)::Å es X.env) zra):PA X (e::es) (Qt te t):=by
 intro pos Z2 s Y H Q I h;rw[g];show Í _ _ (spliced ((Â,Û e X.env)::è pos (Å es X.env))) _ _ s;refine ť (cj (ha Z2 s Y H _ I h) λu a ⟨x,H1,j,i,q1⟩=>?_);exact cj (d pos Z2 a Y H1 _ j q1) λus k ⟨xs,H2,c,b,f⟩=>#[x::xs,H2,c,.cons i b,f]
def Q1(t:TA):TE:=λY H Q=>t Y H λxs H1=>xs.length<=sizeLine/\∀p,H1 p=none->Q (.ref p) (upd H1 p (.tup xs))
def Ra(t:TA):TE:=λY H Q=>t Y H λxs H1=>xs.length<=sizeLine/\∀p,H1 p=none->Q (.ref p) (upd H1 p (.lst xs))
def Me{x1}(h:PA X es t):PE X (.Tuple es x1 pos) (Q1 t):=by
 intro Z2 s Y H Q I f;refine wpAny_Tuple_spliced (cj (h pos Z2 s Y H _ I f) λus a ⟨xs,H1,c,r,z,q⟩=>#[by rwa[<-r.length],?_]);have d:H1 a.heap.objs.size=none:=c.hok.fresh (Xm _);refine#[.ref a.heap.objs.size,upd H1 a.heap.objs.size (.tup xs),c.laid (t':=a.toks) (λb u e=>Xi _ e) (Xm _) ?_,rfl,q _ d];exact#[z,us,r,#[_,Xz _ rfl,rfl,_,rfl]]
def Bn(h:PA X es t):PE X (.List es pos) (Ra t):=by
 intro Z2 s Y H Q I f;refine wpAny_List_spliced (cj (h pos Z2 s Y H _ I f) λus a ⟨xs,H1,c,r,z,q⟩=>#[by rwa[<-r.length],?_]);have d:H1 a.heap.objs.size=none:=c.hok.fresh (Xm _);refine#[.ref a.heap.objs.size,upd H1 a.heap.objs.size (.lst xs),c.laid (t':=a.toks) (λb u e=>Xi _ e) (Xm _) ?_,rfl,q _ d];exact#[z,us,0,r,Xz _ rfl]
end
abbrev Sp:=List V->Hp->VK->XK->Prop
abbrev D1:=List ĵ->Hp->Æ->XK->Ä->Æ->Prop
structure JL(P:Ð)(w:Ú)(K:Ã)(mg:Ï->Option Ä)(base:ß)(A:à)(outer:List ĵ)(s:Æ)(H:Hp):Prop where
 frames:A.frames=À outer
 mod:Mod K mg base
 bs:∀b o,base.get? b=À o->s.heap.get? b=À o/\H b=none
 bsz:base.objs.size<=s.heap.objs.size
 oX:s.heap.FunFrames base outer
 frf:∀b∈B8 outer,H b=none
 hok:lN P w H s.heap
 bare:ĥ s.gens
def CE(outer:List ĵ)(P:Ð)(w:Ú)(H:Hp)(s:Æ)(Q:VK)(u:Ä)(s':Æ):Prop :=
 ∃v H',s'.os=s.os/\ĥ s'.gens/\Un (B8 outer) [] H H' s.heap s'.heap/\lN P w H' s'.heap/\RelV v u/\Q v H'
def CR(CX:D1)(outer:List ĵ)(P:Ð)(w:Ú)(H:Hp)(s:Æ)(Q:VK)(E:XK)(r:ż)(s':Æ):Prop :=
 match r with
 |.ok (.ret u)=>CE outer P w H s Q u s'
 |.ok _=>False
 |.error e=>CX outer H s E e s'
structure fU(P:Ð)(w:Ú)(K:Ã)(mg:Ï->Option Ä)(base:ß)(CX:D1)(k:Nat)(f:Ç)(fd:ð)(ps:List Ï)(sp:Sp):Prop where
 len:∀vs H Q E,sp vs H Q E->vs.length=ps.length
 run:∀(A:à) (outer:List ĵ) (s:Æ) (H:Hp) (args:Args) (us:List Ä) (vs:List V) (Q:VK) (E:XK),dP k A->⇑JL A outer s H->Į s fd args (ps.zip us)->Vals vs us->sp vs H Q E ->
  Ē (Î P w) A (.call (.ref f) args) (CR CX outer P w H s Q E) s
section
variable{X:Cx}{Z2:List (Ç×û)}{Y:St}{H:Hp}{s s':Æ}
def Inv.RX(I:Inv X Z2 Y H s):JL X.prog X.w X.K X.mg X.base X.A X.stack s H :=
 #[I.ok.frames,I.ok.mod,I.bs,X8 I.ok.bsz I.sz,I.stack,I.CI,I.hok,I.bare]
def Inv.after(I:Inv X Z2 Y H s)(h:CE X.stack X.prog X.w H s Q u s'):EP X Z2 Y Q u s':=by
 obtain⟨v,H',os,bare,un,a,r,q⟩:=h;obtain⟨e,g,d,t,c⟩:=s';obtain rfl:c=s.os:=os;exact#[v,H',I.call (h':=e) (g':=g) (d':=d) (t':=t) (ch:=[]) un a bare (λb z=>absurd z .c),r,q]
end
def Lf(sp:Sp)(dvs:List V)(E:XK)(t:TA):TE:=λY H Q=>t Y H λvs H1=>sp (vs++dvs) H1 Q E
def Binds(K:Ã)(fd:ð)(ps:List Ï)(ds:List Ä):Prop :=
 ∀(s:Æ) (us:List Ä),K.In s.heap->(us++ds).length=ps.length->Į s fd #[us,[]] (ps.zip (us++ds))
def Binds.all{fd:ð}{ps:List Ï}(h:∀us:List Ä,us.length=ps.length->ģ fd #[us,[]]=pure (ps.zip us)):Binds K fd ps []:=λs us _ a=>by
 rw[aah] at a ⊢;exact .of_eq (h us a)
def Passes(CX:D1)(X:Cx)(E:XK):Prop:=∀(Z2:List (Ç×û)) (Y:St) (H:Hp) (s:Æ) (e:Ä) (s':Æ),Inv X Z2 Y H s->CX X.stack H s E e s'->X.xe e s'
section
variable{X:Cx}{CX:D1}{k:Nat}{f C:Ç}{fd:ð}{ps:List Ï}{sp:Sp}{dvs:List V}{ds:List Ä}{E:XK}{x m:Ï}{p pos apos:ì}{e o:Ô}{es:List Ô}{ta:TE}{t:TA}
def Fv{vs:List V}(F:fU X.prog X.w X.K X.mg X.base CX k f fd ps sp)(c:dP k X.A)(l:Binds X.K fd ps ds)(d:Vals dvs ds)(i:Passes CX X E)
  (I:Inv X Z2 Y H s) (r:Vals vs us) (h:sp (vs++dvs) H Q E):Í .E X.A (call (.ref f) us) (EP X Z2 Y Q) X.xe s:=by
 have b:Vals (vs++dvs) (us++ds):=r.append d;have g:(us++ds).length=ps.length:=by rw[<-b.length];exact F.len _ _ _ _ h
 refine wpAny_call (Ϸ (F.run X.A X.stack s H #[us,[]] (us++ds) (vs++dvs) Q E c I.RX (l s us I.MY g) b h) λr s' a=>?_);cases r with
 |error e=>exact i Z2 Y H s e s' I a
 |ok j =>
  cases j with
  |ret u=>exact I.after a
  |next=>exact Ă a
  |brk=>exact Ă a
  |cont=>exact Ă a
def eY(F:fU X.prog X.w X.K X.mg X.base CX k f fd ps sp)(c:dP k X.A)(d:Gl X x)(l:X.mg x=À (.ref f))(i:Ċ X.K (.ref f)=Á)(m:Binds X.K fd ps ds)(g:Vals dvs ds)(j:Passes CX X E)
  (ha:PA X (e::es) t) (a:autoParam ((x==("__debug__":Ï))=Â) zrb) (he:autoParam (Å (e::es) X.env=(Â,Û e X.env)::Å es X.env) zra) (hpl:autoParam ((è pos (Å es X.env)).any (·.1)=Â) zra):
  PE X (.Call (.Name x p) (e::es) [] pos) (Lf sp dvs E t):=by
 intro Z2 s Y H Q I h;refine Zk (wB I d l ?_ a);refine PySem.W.callWith_K (h₀:=X.base) I.ok.mod.kin i (cj (ha pos Z2 s Y H _ I h) λus n ⟨vs,H1,b,r,q⟩=>#[b.MY,?_]) he hpl;exact Fv F c m g j b r q
def EC(F:fU X.prog X.w X.K X.mg X.base CX k f fd ps sp)(d:dP k X.A)(e:Gl X x)(c:X.mg x=À (.ref f))(i:Ċ X.K (.ref f)=Á)(j:Binds X.K fd ps ds)(g:Vals dvs ds)(b:Passes CX X E)
  (a:autoParam ((x==("__debug__":Ï))=Â) zrb):PE X (.Call (.Name x p) [] [] pos) (Lf sp dvs E OS):=by
 intro Z2 s Y H Q I h;refine Zk (wB I e c ?_ a);exact PySem.W.callWith_K0 I.MY i (Fv (us:=[]) F d j g b I .nil h)
variable{ks:List Ï}{kpos:ì}{kws:List Δ}{te:TE}{tk:TA}{nm:Option Ï}{g:List Ä->List Ä->List Ä}{gV:List V->List V->List V}
end
structure ak(N P:List Ï)(sc:ą):Prop where
 kind:sc.kind=.function
 co:sc.isCoroutine=Â
 gen:sc.isGenerator=Â
 nd:N.Nodup
 pre:N.take P.length=P
 par:∀x∈P,sc.names.lookup x=À .local\/sc.names.lookup x=À .cell
 nofree:∀y∈sc.names,y.2≠.free
theorem vv{kindOf:Ï->Option ï}{x:Ï}:∀{binds:List (Ï×Ä)} {m:Ï->Option Ä},(∀v,(x,v)∉binds)->Ũ kindOf binds m x=m x
 |[],_,_=>rfl
 | (n,v) :: r,m,h=>by
  unfold Ũ;rw[vv λw a=>h w (Xj _ a)];split
  .have:x≠n:=by rintro rfl;exact h v Xo
   simp[this]
  .rfl
theorem vz{kindOf:Ï->Option ï}{x:Ï}:∀{binds:List (Ï×Ä)} {m:Ï->Option Ä},(∀v,(x,v)∉binds)->ũ kindOf binds m x=m x
 |[],_,_=>rfl
 | (n,v) :: r,m,h=>by
  unfold ũ;rw[vz λw a=>h w (Xj _ a)];split
  .rfl
  .have:x≠n:=by rintro rfl;exact h v Xo
   simp[this]
theorem vk{kindOf:Ï->Option ï}{x:Ï}{v:Ä}:∀{P:List Ï} {vs:List Ä} {i:Nat} {m:Ï->Option Ä},P.Nodup->P[i]?=À x->vs[i]?=À v->kindOf x=À .local ->
  Ũ kindOf (P.zip vs) m x=À v
 |[],_,_,_,_,h,_,_=>by simp at h
 |_::_,[],_,_,_,_,h,_=>by simp at h
 |p::P,w::vs,0,m,b,h1,h2,a=>by
  simp at h1 h2;subst h1;subst h2;show Ũ kindOf ((p,w)::P.zip vs) m p=_;unfold Ũ;rw[vv λv c=>(Ym.mp b).1 (aba c).1,Xc a];simp
 |p::P,w::vs,i+1,m,b,h1,h2,a=>by
  show Ũ kindOf ((p,w)::P.zip vs) m x=_;unfold Ũ;exact vk (i:=i) (Ym.mp b).2 ↑h1 ↑h2 a
theorem uK{kindOf:Ï->Option ï}{x:Ï}{v:Ä}:∀{P:List Ï} {vs:List Ä} {i:Nat} {m:Ï->Option Ä},P.Nodup->P[i]?=À x->vs[i]?=À v->kindOf x≠À .local ->
  ũ kindOf (P.zip vs) m x=À v
 |[],_,_,_,_,h,_,_=>by simp at h
 |_::_,[],_,_,_,_,h,_=>by simp at h
 |p::P,w::vs,0,m,b,h1,h2,a=>by
  simp at h1 h2;subst h1;subst h2;show ũ kindOf ((p,w)::P.zip vs) m p=_;unfold ũ;rw[vz λv c=>(Ym.mp b).1 (aba c).1,W_ a];simp
 |p::P,w::vs,i+1,m,b,h1,h2,a=>by
  show ũ kindOf ((p,w)::P.zip vs) m x=_;unfold ũ;exact uK (i:=i) (Ym.mp b).2 ↑h1 ↑h2 a
noncomputable def start(N:List Ï)(vs:List V):St:=vs.map À++È (N.length-vs.length) none
noncomputable def ui(CX:D1)(P:Ð)(w:Ú)(K:Ã)(mg:Ï->Option Ä)(base:ß)(N:List Ï)(qual:Ï)(ZB:ą)(f:Ç)(cd:Ä)(A:à)(outer:List ĵ)(s:Æ)(H:Hp)(E:XK):Cx where
 prog:=P
 w:=w
 K:=K
 mg:=mg
 base:=base
 A:=A.deeper (ę qual ZB s.heap.objs.size f cd)
 N:=N
 s₀:=s
 H₀:=H
 env:=ę qual ZB s.heap.objs.size f cd
 outer:=outer
 stack:=ę qual ZB s.heap.objs.size f cd::outer
 ex:=[]
 calm:=Á
 fn:=λ_=>Á
 pn:=[]
 xe:=λe s'=>Í (Î P w) (A.deeper (ę qual ZB s.heap.objs.size f cd)) (leaving (ę qual ZB s.heap.objs.size f cd) e) (λ_ a=>CX outer H s E e a) (λb a=>CX outer H s E b a) s'
def yy{a:ą}(h:a.names.lookup x=À .cell):∃c,(ê n a.names []).lookup x=À c:=by
 have q:=aal a.names n [] (.inl h);exact Z8.mp q
def Dj{CX:D1}{mg:Ï->Option Ä}{base:ß}{N ps:List Ï}{qual:Ï}{ZB:ą}{f:Ç}{cd:Ä}{outer:List ĵ}{m:Æ}{E:XK}{vs:List V}
  (S:ak N ps ZB) (C:A.handled=none) (d:⇑JL A outer s H) (F:vs.length=ps.length) (r:Vals vs us)
  (x:InCallC s s.heap.objs.size (Ũ (ę qual ZB s.heap.objs.size f cd).kindOf (ps.zip us) λ_=>none) (ê (s.heap.objs.size+1) ZB.names []) (ũ (ę qual ZB s.heap.objs.size f cd).kindOf (ps.zip us) λ_=>none) m):
  Inv (ui CX P w K mg base N qual ZB f cd A outer s H E) [] (start N vs) H m:=by
 have hpl:ps.length<=N.length:=by have:=congrArg ĳ S.pre;rw[Y8] at this;lia
 obtain⟨h1,tk,rfl,t⟩:=x.done;have j:∀b:Ç,b∉(ui CX P w K mg base N qual ZB f cd A outer s H E).ex:=λb z=>absurd (show b∈([]:List Ç) from z) .c
 refine#[#[d.mod,S.kind,rfl,rfl,Xm _,λy z c h1 h2=>?_,λy g=>?_,λy c _ h=>?_,λ_=>C,Around.frames_deeper d.frames,.inr #[rfl,rfl],λb z=>absurd z (j b),d.bs,d.bsz,λb _ _=>j b,λb z=>absurd z (j b),d.oX,d.frf],
  rfl,d.bare,Un.kept t,#[_,x.toInCall.ns,λi y v h1 h2 D=>?_],λy c h=>#[_,x.cell y c h],d.hok.fresh (Xm _),λy c h=>?_,λp hp=>absurd (show p∈([]:List (Ç×û)) from hp) .c,d.hok.kept t,?_]
 .exact name_of_addr x.apart (ZC h1) (ZC h2)
 .have g:ZB.names.lookup y=À .cell\/ZB.names.lookup y=À .free:=g;rcases g with g|g
  .exact yy g
  .exact absurd rfl (S.nofree _ (ZC g))
 .exact YF (x.above y c (ZC h))
 .have hi:i<vs.length:=by
   unfold start at h2;by_cases hi:i<vs.length
   .exact hi
   .rw[Y0 ↑hi] at h2;rw[aaS] at h2;split at h2<;>cases h2
  have ha:vs[i]?=À v:=by
   unfold start at h2;rw[YJ ↑hi,Xw] at h2;cases e:vs[i]? with
   |none=>rw[e] at h2;cases h2
   |some a=>rw[e] at h2;cases h2;rfl
  obtain⟨u,o,B⟩:=r.get ha
  have hp:ps[i]?=À y:=by
   rwa[<-S.pre,abY .b]
  have l:ps.Nodup:=by rw[<-S.pre];exact S.nd.sublist (ſ _ _)
  refine#[u,B,?_];rcases S.par y (Xg hp) with k|k
  .exact .inl #[k,vk l hp o k]
  .obtain⟨c,e⟩:=yy (n:=s.heap.objs.size+1) k;refine .inr #[.inl k,c,e,?_];have q:=x.cell y c e;rw[uK l hp o (by show ZB.names.lookup y≠_;rw[k];decide)] at q;exact q
 .exact d.hok.fresh (YF (x.above y c (ZC h)))
 .unfold start;show _=N.length;rw[XD,Xk,aa6];lia
def P6{CX:D1}{mg:Ï->Option Ä}{base:ß}{f:Ç}{name qual:Ï}{params:Arguments}{ZB:ą}{D kV doc z a ct G:Ä}{B od:Option Ç}
  {l:Array (Option Ä)} {N ps:List Ï} {sp:Sp} (lk:K.lookup f=À #[G,od,.func (ç name qual params body ZB D kV doc z B a ct),l]) (m:ġ K a qual=Á) (S:ak N ps ZB)
  (len:∀vs H Q E,sp vs H Q E->vs.length=ps.length)
  (d:∀(A:à) (outer:List ĵ) (s:Æ) (H:Hp) (vs:List V) (Q:VK) (E:XK),dP k (A.deeper (ę qual ZB s.heap.objs.size f a))->sp vs H Q E ->
   ∃t,qW (ui CX P w K mg base N qual ZB f a A outer s H E) body t/\t {nx:=λ_ H'=>Q .non H',rt:=Q} (start N vs) H):
  fU P w K mg base CX (k+1) f (ç name qual params body ZB D kV doc z B a ct) ps sp:=by
 refine#[len,λA outer s H args us vs Q E j i R r h=>?_];have L:=len _ _ _ _ h;have F:K.In s.heap:=i.mod.kin.keeps λb o e=>(i.bs b o e).1;have lim:s.heap.NoLimit:=i.mod.nolimit.keeps λb o e=>(i.bs b o e).1
 have c:∀y∈ps.zip us,ZB.names.lookup y.1=À .local\/(ZB.names.lookup y.1=À .cell/\((ê (s.heap.objs.size+1) ZB.names []).lookup y.1).isSome=Á):=fun(n,v) T=>by
  rcases S.par n (aba T).1 with q|q
  .exact .inl q
  .exact .inr #[q,aal _ _ _ (.inl q)]
 refine codeAny_call_function j.depth (F _ _ lk) rfl S.co S.gen rfl (PySem.W.codeRec_of F m) (R _ _ _ _ ?_);refine wpAny_newFunctionEnv_cells S.kind c λenv he C x=>?_;subst he;refine#[lim.keeps x.toInCall.keep,codeAny_func ?_];obtain⟨t,Γ,α⟩:=d A outer s H vs Q E (j.deeper _) h;have I:Inv (ui CX P w K mg base N qual ZB f a A outer s H E) [] (start N vs) H C:=Dj S j.hd i L r x;refine Zq (Γ [] C (start N vs) H _ I α) (λO s' g=>?_) λe s' g=>g
 have fin:∀{Y':St} {H':Hp} {v:V} {u:Ä},Inv (ui CX P w K mg base N qual ZB f a A outer s H E) [] Y' H' s'->RelV v u->Q v H'->CE outer P w H s Q u s' :=
  λ{Y' H' v u} J p q=>#[v,H',J.os,J.bare,J.base,J.hok,p,q]
 cases O with
 |ret u =>
  obtain⟨v,Y',H',J,p,q⟩:=g;exact fin J p q
 |next =>
  obtain⟨Y',H',J,q⟩:=g;exact fin (v:=V.non) (u:=ò) J rfl q
 |brk =>
  obtain⟨_,_,_,q⟩:=g;exact Ă q
 |cont =>
  obtain⟨_,_,_,q⟩:=g;exact Ă q
section
variable{X:Cx}{x:Ï}{p pos:ì}{e:Ô}{es:List Ô}{t:TA}{id T:String}{r:List V->Hp->VK->Prop}
def R8(r:List V->Hp->VK->Prop)(t:TA):TE:=λY H Q=>t Y H λvs H1=>r vs H1 Q
def f9(g:kU X (.builtin id) r)(d:Gl X x)(i:X.mg x=none)(f:ē x=À (.builtin id))(ha:PA X (e::es) t)(c:autoParam (x≠"__name__") zrb)(a:autoParam ((x==("__debug__":Ï))=Â) zrb)
  (he:autoParam (Å (e::es) X.env=(Â,Û e X.env)::Å es X.env) zra) (hpl:autoParam ((è pos (Å es X.env)).any (·.1)=Â) zra):PE X (.Call (.Name x p) (e::es) [] pos) (R8 r t):=by
 intro Z2 s Y H Q I h;refine Zk (hV I d i f ?_ c a);exact abb (cj (ha pos Z2 s Y H _ I h) λus b ⟨vs,H1,k,j,q1⟩=>g Z2 b Y H1 vs us Q k j q1) he hpl
def vi(g:kU X (.type T) r)(d:Gl X x)(i:X.mg x=none)(f:ē x=À (.type T))(ha:PA X (e::es) t)(c:autoParam (x≠"__name__") zrb)(a:autoParam ((x==("__debug__":Ï))=Â) zrb)
  (he:autoParam (Å (e::es) X.env=(Â,Û e X.env)::Å es X.env) zra) (hpl:autoParam ((è pos (Å es X.env)).any (·.1)=Â) zra):PE X (.Call (.Name x p) (e::es) [] pos) (R8 r t):=by
 intro Z2 s Y H Q I h;refine Zk (hV I d i f ?_ c a);exact YU (cj (ha pos Z2 s Y H _ I h) λus b ⟨vs,H1,k,j,q1⟩=>g Z2 b Y H1 vs us Q k j q1) he hpl
end
end L2
namespace HT
open PySem PyProof.Rows
section
open PySem.SeqAt
open PySem.AutoSeq1 (wpAny_loadPart')
open PySem.MeetsSeq PySem.MeetsSeq2 PySem.MeetsSeq3
end
section
variable{prog:Ð}{w:Ú}{A:à}{E:Ä->Æ->Prop}{s:Æ}
noncomputable def fK(n d:Nat):Option Int->Nat
 |none=>d
 |some v=>if v<0 then (v+(n:Int)).toNat else min v.toNat n
def oa(n d:Nat):fK n d none=d:=rfl
def rH(n d k:Nat):fK n d (À (k:Int))=min k n:=by
 show(if (k:Int)<0 then ((k:Int)+(n:Int)).toNat else min (k:Int).toNat n)=min k n;rw[W_ .b,Õ]
def M8(n d:Nat)(b:d<=n)(o:Option Int):fK n d o<=n:=by
 cases o with
 |none=>exact b
 |some v =>
  show(if v<0 then (v+(n:Int)).toNat else min v.toNat n)<=n;by_cases a:v<0
  .rw[Xc a];lia
  .rw[W_ a];exact π _ _
def Ct(v:Int)(n d:Nat):(if v<0 then max (v+(n:Int)) 0 else min v (n:Int))=((fK n d (À v):Nat):Int):=by
 show(if v<0 then max (v+(n:Int)) 0 else min v (n:Int))=(((if v<0 then (v+(n:Int)).toNat else min v.toNat n):Nat):Int);by_cases a:v<0
 .simp only[Xc a];lia
 .simp only[W_ a];lia
def AB(lo hi:Option Int)(n:Nat):Ĕ lo hi 1 (n:Int)=(((fK n 0 lo:Nat):Int),((fK n n hi:Nat):Int)):=by
 have h1:¬((1:Int)<0):=by lia
 unfold Ĕ;simp only[h1,ZT];refine abZ ?_ ?_
 .cases lo with
  |none=>rfl
  |some v=>exact Ct v n 0
 .cases hi with
  |none=>rfl
  |some v=>exact Ct v n n
def AW(i j:Nat):ÿ (i:Int) (j:Int) 1=j-i:=by
 unfold ÿ;have h1:(1:Int)>0:=by lia
 simp only[h1,aat,Int.ediv_one];split<;>lia
def rY{v:Ä}{o:Option Int}{Q:Option Int->Æ->Prop}(p:ł v o)(h:Q o s):Í (Î prog w) A (Builtin.Slice.slicePartIndex v) Q E s:=by
 cases p with
 |none=>exact slicePart_none h
 |int i t=>exact slicePart_int h
def pV{sl:Ç}{d c:Ä}{lo hi:Option Int}{n:Nat}{Q:Int×Int×Nat->Æ->Prop}(e:s.heap.IsSliceOf sl d c .none)(pl:ł d lo)(pu:ł c hi)
  (h:Q (((fK n 0 lo:Nat):Int),1,fK n n hi-fK n 0 lo) s):Í (Î prog w) A (Ĩ (.ref sl) (pure (n:Int))) Q E s:=by
 obtain⟨os,a,f,b⟩:=id e;unfold Ĩ Builtin.Slice.sliceFields;refine W9 (W9 (ζ a b (x:=d) rfl (W9 (ζ a b (x:=c) rfl (W9 (ζ a b (x:=.none) rfl (Xd ?_)))))));refine W9 (slicePart_none ?_);show Í _ _ (if ((1:Int)==0)=Á then _ else _) _ _ s;rw[W_ .a];refine W9 (rY pl (W9 (rY pu (W9 (Xd ?_)))));show Í _ _ (match Ĕ lo hi 1 (n:Int) with|(lo,hi)=>pure (lo,(1:Int),ÿ lo hi 1)) _ _ s;rw[AB lo hi n];show Í _ _ (pure (((fK n 0 lo:Nat):Int),(1:Int),ÿ ((fK n 0 lo:Nat):Int) ((fK n n hi:Nat):Int) 1)) _ _ s;rw[AW];exact Xd h
def EJ(xs:Array Ä)(i k:Nat):((Ò k).filterMap fun(m:Nat)=>xs[((i:Int)+(m:Int)*1).toNat]?).toArray=((xs.toList.drop i).take k).toArray:=by
 have e:(fun(m:Nat)=>xs[((i:Int)+(m:Int)*1).toNat]?)=λm=>xs[i+m]?:=by
  funext m;have:((i:Int)+(m:Int)*1).toNat=i+m:=by lia
  rw[this]
 rw[e];have:=pick_run xs i k;rw[List.filterMap_map] at this;have e2:((λx=>xs[x]?)∘λx=>i+x)=λm=>xs[i+m]?:=rfl;rw[e2] at this;rw[this]
def oh{t sl:Ç}{items:Array Ä}{g j:Ä}{lo hi:Option Int}{Q:Ä->Æ->Prop}(b:IsTup s.heap t items)(i:s.heap.IsSliceOf sl g j .none)(pl:ł g lo)(pu:ł j hi)
  (l:¬(fK items.size 0 lo=0/\fK items.size items.size hi=items.size))
  (h:Q (.ref s.heap.objs.size) {s with heap:=s.heap.push {cls:=.type "tuple",data:=.seq ((items.toList.drop (fK items.size 0 lo)).take (fK items.size items.size hi-fK items.size 0 lo)).toArray}})
  (hsz:items.size<=sizeLine):Í (Î prog w) A (Ź (.ref t) (.ref sl)) Q E s:=by
 have a:sizeOk (.seq ((items.toList.drop (fK items.size 0 lo)).take (fK items.size items.size hi-fK items.size 0 lo)).toArray):=by
  show((items.toList.drop (fK items.size 0 lo)).take (fK items.size items.size hi-fK items.size 0 lo)).toArray.size<=sizeLine;rw[XB,Y8,Z9,XJ];omega
 have n:fK items.size items.size hi<=items.size:=M8 _ _ (Xm _) hi;obtain⟨os,d,f,k⟩:=id i;have c:s.TypeIs (.ref sl) "slice":=#[os,d,f];unfold Ź
 try with_reducible refine YZ ?_
 first|refine W9 (Xd ?_)|skip
 refine W9 (wpAny_sequenceKey b.typeIs .a ?_)
 refine W9 (YW (name:=ñ "__getitem__") b.typeIs aae
  (YH aae b.typeIs entry_tuple_getitem ?_ (args_tuple_getitem _ _)))
 show Í _ _ (Builtin.Tuple.tupleItemsOf (.ref t) >>= _) _ _ s;refine W9 (tupleItemsOf_ b ?_);refine W9 (ų c ?_);rw[Xc .a];refine W9 (pV i pl pu ?_)
 have e:¬((((fK items.size 0 lo:Nat):Int)==0&&(1:Int)==1&&(fK items.size items.size hi-fK items.size 0 lo)==items.size)=Á):=by
  intro q;rw[XW,XW] at q;have q1:((fK items.size 0 lo:Nat):Int)=0:=eq_of_beq q.1.1;have o:fK items.size items.size hi-fK items.size 0 lo=items.size:=eq_of_beq q.2;exact l #[.e,.e]
 show Í _ _ (if (((fK items.size 0 lo:Nat):Int)==0&&(1:Int)==1&&(fK items.size items.size hi-fK items.size 0 lo)==items.size)=Á then _ else _) _ _ s;rw[W_ e,EJ]
 first
  |exact W9 (m:=ā _) (Yx (Xd ⟨_,rfl,Xd h⟩) a)
  |exact W9 (m:=ā _) (Yx (W9 (Xd (Xd ⟨_,rfl,Xd h⟩))) a)
  |exact W9 (W9 (m:=ā _) (Yx (Xd (Xd ⟨_,rfl,Xd h⟩)) a))
  |exact W9 (W9 (m:=ā _) (Yx (Xd ⟨_,rfl,Xd h⟩) a))
end
end HT
namespace L2
open PySem PySem.Spec PyProof.Rows
variable{n:Nat}{s:Æ}{XV:List Ä}{x:V}
abbrev TO:=St->Hp->(Option Int->Hp->Prop)->Prop
def PO(X:Cx)(e:Option Ô)(t:TO):Prop :=
 ∀(Z2:List (Ç×û)) (s:Æ) (Y:St) (H:Hp) (Q:Option Int->Hp->Prop),Inv X Z2 Y H s->t Y H Q ->
  Í .E X.A (evalPart e X.env) (λu s'=>∃o H',Inv X Z2 Y H' s'/\ł u o/\Q o H') X.xe s
def Iu:TO:=λ_ H Q=>Q none H
def OL(t:TE):TO:=λY H Q=>t Y H λx H1=>∃i,x=.int i/\Q (À i) H1
def intsAre_of{ns:List Int}:∀{us:List Ä},Vals (ns.map V.int) us->í us ns:=by
 induction ns with
 |nil=>intro us r;rw[ϵ] at r;cases r;exact .nil
 |cons n ns c =>
  intro us r;rw[XQ] at r;cases r with
  |cons b a =>
   obtain⟨t,e⟩:=b;subst e;exact .cons n t (c a)
section
variable{X:Cx}{e:Ô}{te:TE}{lo hi:Option Ô}{tl th:TO}{pos p2:ì}
def rq:PO X none Iu:=by
 intro Z2 s Y H Q I h;rw[evalPart_none];exact Xd #[none,H,I,.none,h]
def rR(h:PE X e te):PO X (À e) (OL te):=by
 intro Z2 s Y H Q I b;rw[evalPart_some];refine cj (h Z2 s Y H _ I b) λu d ⟨x,H1,c,a,q1⟩=>?_;obtain⟨i,rfl,q⟩:=q1;obtain⟨t,rfl⟩:=a;exact#[À i,H1,c,.int i t,q]
def Rv(X:Cx)(r:V->Option Int->Option Int->Hp->VK->Prop):Prop :=
 ∀(Z2:List (Ç×û)) (s:Æ) (Y:St) (H:Hp) (x:V) (v a b:Ä) (lo hi:Option Int) (sl:Ç) (Q:VK),Inv X Z2 Y H s->RelV x v->s.heap.IsSliceOf sl a b .none->ł a lo->ł b hi->r x lo hi H Q ->
  ∃T id,typeLookup (.type T) "__getitem__"=pure (À (.builtin id))/\s.TypeIs v T/\Í .E X.A (Ź v (.ref sl)) (EP X Z2 Y Q) X.xe s
def SJ(r:V->Option Int->Option Int->Hp->VK->Prop)(te:TE)(tl th:TO):TE:=λY H Q=>te Y H λx H1=>tl Y H1 λl H2=>th Y H2 λu a=>r x l u a Q
def nA{r:V->Option Int->Option Int->Hp->VK->Prop}(i:Rv X r)(he:PE X e te)(k:PO X lo tl)(t:PO X hi th):PE X (.Subscript e (.Slice lo hi none p2) pos) (SJ r te tl th):=by
 intro Z2 s Y H Q I h;refine Subscript_ (cj (he Z2 s Y H _ I h) λv p ⟨x,H1,E,n,q1⟩=>?_);refine wpAny_Slice (cj (k Z2 p Y H1 _ E q1) λc g ⟨l,H2,y,pl,z⟩=>cj (t Z2 g Y H2 _ y z) λd a ⟨u,f,C,pu,B⟩=>?_);rw[evalPart_none];refine Xd ?_;have m:Inv X Z2 Y f {a with heap:=a.heap.push {cls:=.type "slice",data:=.fields (â [c,d,.none])}}:=C.kept (t':=a.toks) λb ob q=>Xi _ q;obtain⟨T,id,D,o,j⟩:=i Z2 {a with heap:=a.heap.push {cls:=.type "slice",data:=.fields (â [c,d,.none])}} Y f x v c d l u a.heap.objs.size Q m n (ϰ ..) pl pu B;show Í .E X.A (subscriptTail e (.Slice lo hi none p2) v (.ref a.heap.objs.size)) (EP X Z2 Y Q) X.xe {a with heap:=a.heap.push {cls:=.type "slice",data:=.fields (â [c,d,.none])}};exact tail_any (ops:=[.ref a.heap.objs.size,v]) o D j (by stop rfl)
noncomputable def j8(xs:List V)(lo hi:Option Int):List V:=(xs.drop (HT.fK xs.length 0 lo)).take (HT.fK xs.length xs.length hi-HT.fK xs.length 0 lo)
def qz(xs:List V)(lo hi:Option Int):(j8 xs lo hi).length<=xs.length:=by
 unfold j8;rw[Y8,Z9];lia
def R4(K:Ã):V->Option Int->Option Int->Hp->VK->Prop:=λx lo hi H Q=>∃a xs,x=.ref a/\zE K H a xs /\
 ¬(HT.fK xs.length 0 lo=0/\HT.fK xs.length xs.length hi=xs.length)/\∀p,H p=none->Q (.ref p) (upd H p (.tup (j8 xs lo hi)))
def Ma:Rv X (R4 X.K):=by
 intro Z2 s Y H x v k j lo hi sl Q I i g pl pu h;obtain⟨a,xs,rfl,f,e,q⟩:=h;cases i;obtain⟨XV,r,d,hz⟩:=I.tuple f;have c:XV.toArray.size=xs.length:=by rw[XB];exact r.length.symm
 refine#["tuple",_,aae.lookup,d.typeIs,?_];refine HT.oh d g pl pu (by rwa[c]) ?_ (by rwa[c]);rw[c];refine#[.ref s.heap.objs.size,_,I.laid (t':=s.toks) (o:=.tup (j8 xs lo hi)) (λb ob q=>Xi _ q) (Xm _) ?_,rfl,q _ (I.hok.fresh (Xm _))];exact#[X8 (qz xs lo hi) hz,_,(r.drop (HT.fK xs.length 0 lo)).take (HT.fK xs.length xs.length hi-HT.fK xs.length 0 lo),IsTup.new _ _]
end
noncomputable def D2(n:Nat)(i:Int):Option Nat:=if 0<=i then (if i<n then À i.toNat else none) else if -(n:Int)<=i then À (i+n).toNat else none
noncomputable def xT{M:Type}(xs:List M)(i:Int):Option M:=(D2 xs.length i).bind λj=>xs[j]?
def nC{i:Int}{j:Nat}(h:D2 n i=À j):seqIndex? i n=À j/\j<n/\-(n:Int)<=i/\i<n:=by
 unfold D2 at h;by_cases a:0<=i
 .rw[Xc a] at h;by_cases h1:i<n
  .rw[Xc h1] at h;have e:i.toNat=j:=Xy h;exact#[by rw[η a h1,e],.b,.b,h1]
  .rw[W_ h1] at h;cases h
 .rw[W_ a] at h;by_cases h1:-(n:Int)<=i
  .rw[Xc h1] at h;have e:(i+n).toNat=j:=Xy h;exact#[by rw[ŷ .b h1,e],.b,h1,.b]
  .rw[W_ h1] at h;cases h
def nY{M:Type}{xs:List M}{i:Int}{v:M}(h:xT xs i=À v):∃j,seqIndex? i xs.length=À j/\xs[j]?=À v/\j<xs.length/\-(xs.length:Int)<=i/\i<xs.length:=by
 unfold xT at h;cases e:D2 xs.length i with
 |none=>rw[e] at h;cases h
 |some j =>
  rw[e] at h;obtain⟨h1,h2,b,a⟩:=nC e;exact#[j,h1,h,h2,b,a]
def Jj{M:Type}{xs:List M}{j:Nat}{v:M}(h:xs[j]?=À v):xT xs (j:Int)=À v:=by
 have a:j<xs.length:=(Xl.mp h).1
 have e:D2 xs.length (j:Int)=À j:=by
  unfold D2;rw[Xc .b,Xc .b];simp
 unfold xT;rwa[e]
def rK(b:Ô):Prop:=∀o i,subscripted b Â o i=operate [o,i] (Ź o i)
def QY(X:Cx)(r:R2):Prop :=
 ∀(value slice:Ô) (Z2:List (Ç×û)) (s:Æ) (Y:St) (H:Hp) (x y:V) (v u:Ä) (Q:VK),Inv X Z2 Y H s->RelV x v->RelV y u->r x y H Q ->
  subscripted slice Â v u=operate [v,u] (Ź v u)->Í .E X.A (subscriptTail value slice v u) (EP X Z2 Y Q) X.xe s
def Q_(X:Cx)(id:String)(r:V->List V->Hp->VK->Prop):Prop :=
 ∀(Z2:List (Ç×û)) (s:Æ) (Y:St) (H:Hp) (x:V) (xs:List V) (v:Ä) (us:List Ä) (Q:VK),Inv X Z2 Y H s->RelV x v->Vals xs us->r x xs H Q ->
  Í .E X.A (call (.builtin id) (v::us)) (EP X Z2 Y Q) X.xe s
section
variable{X:Cx}{a b:Ô}{ta tb:TE}{pos:ì}
def zv{r:R2}(e:QY X r)(ha:PE X a ta)(i:PE X b tb)(f:rK b):PE X (.Subscript a b pos) (Qz r ta tb):=by
 intro Z2 s Y H Q I h;exact Subscript_ (Mg ha i I h λv u d x y H2 c j g q=>e a b Z2 d Y H2 x y v u Q c j g q (f _ _))
def RK(K:Ã):R2:=λx y H Q=>∃p xs i v,x=.ref p/\y=.int i/\dW K H p xs/\xT xs i=À v/\Q v H
def QT(K:Ã):R2:=λx y H Q=>∃p xs i v,x=.ref p/\y=.int i/\zE K H p xs/\xT xs i=À v/\Q v H
def BO:QY X (RK X.K):=by
 intro value slice Z2 s Y H x y v u Q I g n h d;obtain⟨p,xs,i,z,rfl,rfl,m,he,q⟩:=h;cases g;obtain⟨t,rfl⟩:=n;obtain⟨XV,r,pl,hz⟩:=I.list m;obtain⟨j,h1,h2,o,f,k⟩:=nY he;obtain⟨w,e,b⟩:=r.get h2;have l:=r.length;have A:=xC;have fin:EP X Z2 Y Q w s:=#[z,H,I,b,q];by_cases c:0<=i
 .have a:i.toNat=j:=by
   rw[η c k] at h1;exact Xy h1
  exact item_listR pl.isList c .b (by rw[a];simpa using e) fin d
 .have a:(i+(XV.toArray.size:Int)).toNat=j:=by
   rw[ŷ .b f] at h1;rw[XB,<-l];exact Xy h1
  exact Ŷ (x:=w) pl.isList.typeIs slot_list_getitem.lookup
   (wpAny_getItem_list_neg (Q:=λr s'=>r=w/\EP X Z2 Y Q r s') pl.isList .b (by rw[XB]<;>lia) .b (by rw[a];simpa using e) #[rfl,fin]) d
def zY:QY X (QT X.K):=by
 intro value slice Z2 s Y H x y v u Q I b g h e;obtain⟨p,xs,i,z,rfl,rfl,d,he,q⟩:=h;cases b;obtain⟨t,rfl⟩:=g;obtain⟨XV,r,pl,hz⟩:=I.tuple d;obtain⟨j,h1,h2,l,k,m⟩:=nY he;obtain⟨w,f,a⟩:=r.get h2;have c:=r.length;have n:=xC;have fin:EP X Z2 Y Q w s:=#[z,H,I,a,q]
 exact Ŷ (x:=w) pl.typeIs slot_tuple_getitem.lookup
  (getItem_tuple (j:=j) (Q:=λr s'=>r=w/\EP X Z2 Y Q r s') pl .b .b (by rwa[XB,<-c]) ↑f #[rfl,fin]) e
def AQ(XV:List Ä)(n j:Nat)(u:Ä):Ù (·.setIfInBounds j u) {cls:=.type "list",data:=.seq XV.toArray n}={cls:=.type "list",data:=.seq (XV.set j u).toArray n}:=by
 simp[Ù]
def Inv.lst{Z2:List (Ç×û)}{Y:St}{H:Hp}{s:Æ}{p:Ç}{xs:List V}(I:Inv X Z2 Y H s)(h:H p=À (.lst xs)):
  ∃(XV:List Ä) (n:Nat),Vals xs XV/\s.heap.get? p=À {cls:=.type "list",data:=.seq XV.toArray n}/\xs.length<=sizeLine:=by
 obtain⟨z,XV,n,r,e⟩:=I.hok p _ h;exact#[XV,n,r,e,z]
def Inv.NW{Z2:List (Ç×û)}{Y:St}{H:Hp}{p:Ç}{xs ys:List V}{its':List Ä}{a:Nat}{f:û->û}(I:Inv X Z2 Y H s)(h:H p=À (.lst xs))
  (d:s.heap.get? p=À {cls:=.type "list",data:=.seq XV.toArray n}) (c:f {cls:=.type "list",data:=.seq XV.toArray n}={cls:=.type "list",data:=.seq its'.toArray a}) (r:Vals ys its') (hz:ys.length<=sizeLine) (t:Nat):
  Inv X Z2 Y (upd H p (.lst ys)) {s with heap:=s.heap.update p f,toks:=t}:=by
 have e:(s.heap.update p f).get? p=À {cls:=.type "list",data:=.seq its'.toArray a}:=by
  rw[Y6 f d (by rw[c]<;>rfl),c]
 refine I.write (x:=p) (e:=p) (by rw[h];trivial) (.inl rfl) (λb u g q=>(Ŋ _ _ (ZD g)).trans q) #[_,e] ?_;exact#[hz,its',a,r,e]
def P_:V->V->V->Hp->(Hp->Prop)->Prop:=λo i v H Q=>∃p xs k j,o=.ref p/\i=.int k/\H p=À (.lst xs)/\D2 xs.length k=À j/\Q (upd H p (.lst (xs.set j v)))
def set_list:Qr X P_:=by
 intro Z2 s Y H o i v z y u Q I l w m h;obtain⟨p,xs,k,j,rfl,rfl,hp,x,q⟩:=h;cases l;obtain⟨t,rfl⟩:=w;obtain⟨XV,n,r,c,hz⟩:=I.lst hp;obtain⟨h1,h2,e,d⟩:=nC x;have a:=r.length;have A:=xC
 have g:Inv X Z2 Y (upd H p (.lst (xs.set j v))) {s with heap:=s.heap.update p (Ù (·.setIfInBounds j u))} :=
  I.NW hp c (AQ XV n j u) (r.set m j) (by rwa[Yr]) s.toks
 by_cases f:0<=k
 .have b:k.toNat=j:=by
   rw[η f d] at h1;exact Xy h1
  exact PySem.W.ki_setAt c f .b (by rwa[XB,<-a]) (by rw[b];exact#[_,g,q])
 .have b:(k+(XV.toArray.size:Int)).toNat=j:=by
   rw[ŷ .b e] at h1;rw[XB,<-a];exact Xy h1
  exact PySem.W.ki_setBack c .b (by rwa[XB,<-a]) .b (by rw[b];exact#[_,g,q])
def wW(lo hi:Option Int)(n:Nat):(ė lo hi none n).1=((HT.fK n 0 lo:Nat):Int)/\(ė lo hi none n).2.1=((HT.fK n n hi:Nat):Int)/\(ė lo hi none n).2.2=1:=by
 refine#[?_,?_,rfl]
 .cases lo with
  |none=>simp[ė,HT.fK]
  |some i =>
   simp only[ė,HT.fK,ŭ,show(1:Int)>0 by decide,aat];by_cases h:i<0
   .simp only[h,aat]<;>lia
   .simp only[h,ZT]<;>lia
 .cases hi with
  |none=>simp[ė,HT.fK]
  |some i =>
   simp only[ė,HT.fK,ŭ,show(1:Int)>0 by decide,aat];by_cases h:i<0
   .simp only[h,aat]<;>lia
   .simp only[h,ZT]<;>lia
def uj(XV:List Ä)(lo hi:Option Int):slicePick XV.toArray lo hi none=((XV.drop (HT.fK XV.length 0 lo)).take (HT.fK XV.length XV.length hi-HT.fK XV.length 0 lo)).toArray:=by
 obtain⟨h1,h2,a⟩:=wW lo hi XV.toArray.size;unfold slicePick;rw[h1,h2,a];simp only[sliceRange_one,pick_run,XB]<;>rfl
def RW(K:Ã):V->Option Int->Option Int->Hp->VK->Prop:=λx lo hi H Q=>∃a xs,x=.ref a/\dW K H a xs/\∀p,H p=none->Q (.ref p) (upd H p (.lst (j8 xs lo hi)))
def xj:Rv X (RW X.K):=by
 intro Z2 s Y H x v j i lo hi sl Q I g f pl pu h;obtain⟨a,xs,rfl,e,q⟩:=h;cases g;obtain⟨XV,r,d,hz⟩:=I.list e;have c:=r.length;refine#["list",_,slot_list_getitem.lookup,d.isList.typeIs,?_];refine wpAny_getItem_list_slice d.isList f pl pu .none .c ?_ (by rw[XB]<;>lia);rw[uj,<-c];refine#[.ref s.heap.objs.size,_,I.laid (t':=s.toks) (o:=.lst (j8 xs lo hi)) (λb ob q=>Xi _ q) (Xm _) ?_,rfl,q _ (I.hok.fresh (Xm _))];exact#[X8 (qz xs lo hi) hz,_,0,(r.drop (HT.fK xs.length 0 lo)).take (HT.fK xs.length xs.length hi-HT.fK xs.length 0 lo),Xz _ rfl]
def oq:V->Bool
 |.non=>Á
 |.bl _=>Á
 |.int _=>Á
 |.str _=>Á
 |_=>Â
noncomputable def Ia:V->V->Bool
 |.non,.non=>Á
 |.bl a,.bl b=>a==b
 |.bl a,.int b=>(if a then 1 else 0)==b
 |.int a,.bl b=>a==(if b then 1 else 0)
 |.int a,.int b=>a==b
 |.str a,.str b=>a==b
 |_,_=>Â
def Nq{A:à}{y:V}{u v:Ä}(e:RelV y u)(c:RelV x v)(f:oq y=Á)(d:oq x=Á):Ş A s u v (Ia y x):=by
 cases y with
 |non =>
  cases e;cases x with
  |non=>cases c;exact SeqAt.EqAt.same _
  |bl b=>cases c;exact SeqAt.EqAt.none_bool b
  |int b=>obtain⟨t,rfl⟩:=c;exact SeqAt.EqAt.none_int b t
  |str b=>obtain⟨t,rfl⟩:=c;exact SeqAt.EqAt.none_str b t
  |_=>exact absurd (show Â=Á from d) Xx
 |bl a =>
  cases e;cases x with
  |non=>cases c;exact SeqAt.EqAt.bool_none a
  |bl b=>cases c;exact Ľ a b
  |int b=>obtain⟨t,rfl⟩:=c;exact Ł a b t
  |str b=>obtain⟨t,rfl⟩:=c;exact SeqAt.EqAt.bool_str a b t
  |_=>exact absurd (show Â=Á from d) Xx
 |int a =>
  obtain⟨t',rfl⟩:=e;cases x with
  |non=>cases c;exact SeqAt.EqAt.int_none a t'
  |bl b=>cases c;exact ŀ a t' b
  |int b=>obtain⟨t,rfl⟩:=c;exact SeqAt.EqAt.int_int a t' b t
  |str b=>obtain⟨t,rfl⟩:=c;exact Ņ a t' b t
  |_=>exact absurd (show Â=Á from d) Xx
 |str a =>
  obtain⟨t',rfl⟩:=e;cases x with
  |non=>cases c;exact SeqAt.EqAt.str_none a t'
  |bl b=>cases c;exact SeqAt.EqAt.str_bool a t' b
  |int b=>obtain⟨t,rfl⟩:=c;exact ń a t' b t
  |str b=>obtain⟨t,rfl⟩:=c;exact SeqAt.EqAt.str_str a t' b t
  |_=>exact absurd (show Â=Á from d) Xx
 |_=>exact absurd (show Â=Á from f) Xx
noncomputable def AO(x:V)(u:Ä):Bool:=match u with
 |.none=>Ia .non x
 |.bool b=>Ia (.bl b) x
 |.int i _=>Ia (.int i) x
 |.str z _=>Ia (.str z) x
 |_=>Â
def HL{y:V}{u:Ä}(r:RelV y u)(f:oq y=Á):AO x u=Ia y x:=by
 cases y with
 |non=>cases r;rfl
 |bl b=>cases r;rfl
 |int i=>obtain⟨t,rfl⟩:=r;rfl
 |str z=>obtain⟨t,rfl⟩:=r;rfl
 |_=>exact absurd (show Â=Á from f) Xx
theorem mW{x:V}:∀{xs:List V} {us:List Ä},Vals xs us->xs.all oq=Á->us.any (AO x)=xs.any λy=>Ia y x
 |_,_,.nil,_=>rfl
 |y::xs,u::us,.cons r t,f=>by
  rw[acE,XW] at f;rw[Zi,Zi,HL r f.1,mW t f.2]
theorem kD{A:à}{s:Æ}{x:V}{v:Ä}(c:RelV x v)(b:oq x=Á):∀{xs:List V} {us:List Ä},Vals xs us->xs.all oq=Á->∀u∈us,Ş A s u v (AO x u)
 |_,_,.nil,_=>λu a=>by cases a
 |y::xs,u::us,.cons r t,f=>λd a=>by
  rw[acE,XW] at f;rcases Xa.mp a with rfl|a
  .rw[HL r f.1];exact Nq r c f.1 b
  .exact kD c b t f.2 d a
def Oj(x:V)(xs:List V):Bool:=xs.any λy=>Ia y x
def Sf(K:Ã)(neg:Bool):R2:=λx y H Q=>∃p xs,y=.ref p/\(dW K H p xs\/zE K H p xs)/\oq x=Á/\xs.all oq=Á/\Q (.bl (if neg then !Oj x xs else Oj x xs)) H
def CM:k5 X (ä .In) (Sf X.K Â):=by
 intro Z2 s Y H x y v u Q I d e h;obtain⟨p,xs,rfl,a,c,fs,q⟩:=h;cases e;rcases a with a|a
 .obtain⟨XV,r,pl,hz⟩:=I.list a;refine Λ (AO x) pl.isList (λw b=>kD d c r fs w ↑b) #[.bl _,H,I,rfl,?_];rwa[show XV.toArray.any (AO x)=XV.any (AO x) by simp,mW r fs]
 .obtain⟨XV,r,pl,hz⟩:=I.tuple a;refine SeqAt.in_tupleAt (AO x) pl (λw b=>kD d c r fs w ↑b) #[.bl _,H,I,rfl,?_];rwa[show XV.toArray.any (AO x)=XV.any (AO x) by simp,mW r fs]
def vI:k5 X (ä .NotIn) (Sf X.K Á):=by
 intro Z2 s Y H x y v u Q I d e h;obtain⟨p,xs,rfl,a,c,fs,q⟩:=h;cases e;rcases a with a|a
 .obtain⟨XV,r,pl,hz⟩:=I.list a;refine ŝ (AO x) pl.isList (λw b=>kD d c r fs w ↑b) #[.bl _,H,I,rfl,?_];rwa[show XV.toArray.any (AO x)=XV.any (AO x) by simp,mW r fs]
 .obtain⟨XV,r,pl,hz⟩:=I.tuple a;refine SeqAt.notIn_tupleAt (AO x) pl (λw b=>kD d c r fs w ↑b) #[.bl _,H,I,rfl,?_];rwa[show XV.toArray.any (AO x)=XV.any (AO x) by simp,mW r fs]
def wL:kU X (.builtin "len") (λxs H Q=>∃p ys,xs=[.ref p]/\(dW X.K H p ys\/zE X.K H p ys)/\Q (.int ys.length) H):=by
 intro Z2 s Y H xs us Q I r h;obtain⟨p,ys,rfl,b,q⟩:=h;obtain⟨u,rfl,d⟩:=vals1 r;cases d;have e:=xC;rcases b with b|b
 .obtain⟨XV,c,pl,hz⟩:=I.list b;have a:=c.length;exact Calls.call_len_list pl.isList (by simp only[XB]<;>lia) #[.int ys.length,H,I.tok _,#[s.toks+1,by rw[XB,a]],q]
 .obtain⟨XV,c,pl,hz⟩:=I.tuple b;have a:=c.length;exact len_tuple pl (by simp only[XB]<;>lia) #[.int ys.length,H,I.tok _,#[s.toks+1,by rw[XB,a]],q]
def nu:kU X (.type "list") (λxs H Q=>∃p ys,xs=[.ref p]/\(dW X.K H p ys\/zE X.K H p ys)/\∀l,H l=none->Q (.ref l) (upd H l (.lst ys))):=by
 intro Z2 s Y H xs us Q I r h;obtain⟨p,ys,rfl,d,q⟩:=h;obtain⟨u,rfl,j⟩:=vals1 r;cases j
 have fin:∀(XV:List Ä),Vals ys XV->ys.length<=sizeLine->∀(h':ß) (c':Nat),(∀b o',s.heap.get? b=À o'->h'.get? b=À o') ->
   h'.get? s.heap.objs.size=À {cls:=.type "list",dict:=none,data:=.seq XV.toArray c',slots:=#[]}->EP X Z2 Y Q (.ref s.heap.objs.size) {s with heap:=h'}:=λXV a hz h' c' kp e =>
  #[.ref s.heap.objs.size,_,I.laid (t':=s.toks) kp (Xm _) (show bY X.prog X.w _ h' _ (.lst ys) from #[hz,XV,c',a,e]),rfl,q _ (I.hok.fresh (Xm _))]
 rcases d with d|d
 .obtain⟨XV,a,pl,hz⟩:=I.list d;have c:=a.length;obtain⟨o,g,i,n,f⟩:=pl.isList;exact call_list_seq p (.inl rfl) g i f (λh' c' kp e=>fin XV a hz h' c' kp e) (by simp only[XB]<;>lia)
 .obtain⟨XV,a,pl,hz⟩:=I.tuple d;have c:=a.length;obtain⟨o,g,i,n,f⟩:=pl;exact call_list_seq p (.inr rfl) g i f (λh' c' kp e=>fin XV a hz h' c' kp e) (by simp only[XB]<;>lia)
def RJ(K:Ã)(T:String)(x:V)(H:Hp):Prop:=match x with
 |.str _=>T="str"
 |.int _=>T="int"
 |.ref p=>(T="list"/\∃xs,dW K H p xs)\/(T="tuple"/\∃o,K.lookup p=À o/\o.cls=.type "tuple"/\o.dict=none) \/
   (T="dict"/\((∃YP,H p=À (.dK YP))\/∃YP,H p=À (.dT YP)))\/(T="set"/\∃S n,H p=À (.set S n))
 |_=>False
def F3{Z2:List (Ç×û)}{Y:St}{H:Hp}{T:String}{v:Ä}(I:Inv X Z2 Y H s)(r:RelV x v)(ty:RJ X.K T x H):
  s.TypeIs v T/\∀a,v=.ref a->∃ob,s.heap.get? a=À ob/\ob.dict=none:=by
 cases x with
 |str z =>
  obtain⟨t,rfl⟩:=r;cases (show T="str" from ty);exact#[typeIs_str s z t,λ_ e=>nomatch e]
 |int i =>
  obtain⟨t,rfl⟩:=r;cases (show T="int" from ty);exact#[Ō s i t,λ_ e=>nomatch e]
 |ref p =>
  cases r;rcases ty with⟨rfl,xs,f⟩|⟨rfl,o,b,g,d⟩|⟨rfl,b⟩|⟨rfl,S,n,b⟩
  .obtain⟨XV,_,pl,_⟩:=I.list f;refine#[pl.isList.typeIs,λa e=>?_];cases e;obtain⟨o,n,e,c,d,_⟩:=pl;exact#[o,e,d]
  .refine#[#[o,I.MY p o b,g],λa e=>?_];cases e;exact#[o,I.MY _ o b,d]
  .have z:∃o,s.heap.get? p=À o/\o.ExactDict:=by
    rcases b with⟨YP,b⟩|⟨YP,b⟩
    .obtain⟨_,_,_,_,o,_,_,e,ex,_⟩:=I.hok p _ b;exact#[o,e,ex]
    .obtain⟨_,_,_,_,o,_,_,e,ex,_⟩:=I.hok p _ b;exact#[o,e,ex]
   obtain⟨o,e,ex⟩:=z;refine#[#[o,e,ex.1],λa e2=>?_];cases e2;exact#[o,e,ex.2.1]
  .obtain⟨o,_,_,_,e,ex,_⟩:=I.hok p _ b;refine#[#[o,e,ex.1],λa e2=>?_];cases e2;exact#[o,e,ex.2.1]
 |_=>exact Ă ty
def Ro(K:Ã)(T:String)(r:V->List V->Hp->VK->Prop)(to:TE):TE:=λY H Q=>to Y H λx H1=>RJ K T x H1/\r x [] H1 Q
def SF(K:Ã)(T:String)(r:V->List V->Hp->VK->Prop)(to:TE)(t:TA):TE:=λY H Q=>to Y H λx H1=>RJ K T x H1/\t Y H1 λxs H2=>r x xs H2 Q
variable{o e:Ô}{es:List Ô}{to:TE}{t:TA}{name:Ï}{apos cpos:ì}{T id:String}{r:V->List V->Hp->VK->Prop}
def E1(g:PlainAttrs T)(slot:Slot T name id)(c:typeOf (.builtin id)=pure (.type "method_descriptor"))(j:Q_ X id r)(i:PE X o to)
  (a:autoParam (Ġ o name X.env (Û o X.env)=Û o X.env) zra) (b:autoParam ((apos.endLine==cpos.line)=Á) zra):PE X (.Call (.Attribute o name apos) [] [] cpos) (Ro X.K T r to):=by
 intro Z2 s Y H Q I h;refine wpAny_Call_method0_late a b (cj (i Z2 s Y H _ I h) λv f ⟨x,H1,e,d,ty,q1⟩=>?_);obtain⟨h1,h2⟩:=F3 e d ty;exact#[T,id,g,slot,c,h1,h2,Ň rfl (PySem.evalArgs_none (j Z2 f Y H1 x [] v [] Q e d .nil q1))]
def PK(k:PlainAttrs T)(slot:Slot T name id)(f:typeOf (.builtin id)=pure (.type "method_descriptor"))(n:Q_ X id r)(y:PE X o to)(ha:PA X (e::es) t)
  (b:autoParam (Ġ o name X.env (Û o X.env)=Û o X.env) zra)
  (d:((è cpos (Å (e::es) X.env)).all (λx=>!x.1)&&(backToKw cpos (keywordEach [] X.env)).all (λx=>x.1.isSome)
   && decide ((e::es).length+([]:List Δ).length+(if ([]:List Δ).isEmpty then 0 else 1)<30))=Á:=by rfl)
  (c:autoParam ((apos.endLine==cpos.line)=Á) zra) (m:autoParam (Å (e::es) X.env=(Â,Û e X.env)::Å es X.env) zra) (a:autoParam ((è cpos (Å es X.env)).any (·.1)=Â) zra):
  PE X (.Call (.Attribute o name apos) (e::es) [] cpos) (SF X.K T r to t):=by
 intro Z2 s Y H Q I h;refine wpAny_Call_method_late b d c rfl (cj (y Z2 s Y H _ I h) λv p ⟨x,H1,j,i,ty,q1⟩=>?_);obtain⟨h1,h2⟩:=F3 j i ty;refine#[T,id,k,slot,f,h1,h2,?_];have g:=ha cpos Z2 p Y H1 _ j q1;rw[m] at g ⊢;refine Ň (by show(Â || (è cpos (Å es X.env)).any (·.1))=Â;rw[a]<;>rfl) (Calls.evalArgs_plain ?_);exact cj g λus l ⟨vs,H2,u,q,w⟩=>n Z2 l Y H2 x vs v us Q u i q w
end
def Sl(X:Cx)(id:String)(r:V->List V->Hp->VK->Prop):Prop :=
 ∀(Z2:List (Ç×û)) (s:Æ) (Y:St) (H:Hp) (x:V) (xs:List V) (v:Ä) (us:List Ä) (Q:VK),Inv X Z2 Y H s->RelV x v->Vals xs us->r x xs H Q ->
  Í .E X.A (call (.builtin id) (v::us)) (EP X Z2 Y Q) X.xe s
def Vals.one:∀{x:V} {us:List Ä},Vals [x] us->∃u,us=[u]/\RelV x u
 |_,_,.cons r .nil=>#[_,rfl,r]
def Vals.zero:∀{us:List Ä},Vals [] us->us=[]
 |_,.nil=>rfl
theorem Vals.rep{xs:List V}{us:List Ä}(h:Vals xs us):∀k:Nat,Vals (È k xs).flatten (È k us).flatten
 |0=>.nil
 |k+1=>by
  rw[YD,YD,Zu,Zu];exact Vals.append h (Vals.rep h k)
theorem foldl_rep(XV:List Ä):∀(k:Nat) (a:List Ä),
  ů (λc b=>c++b) a.toArray (È k XV.toArray)=(a++(È k XV).flatten).toArray
 |0,a=>by simp
 |k+1,a=>by
  have e:a.toArray++XV.toArray=(a++XV).toArray:=by simp
  have e2:(a++XV)++(È k XV).flatten=a++(È (k+1) XV).flatten:=by
   rw[YD,Zu,Β]
  rw[<-e2,<-foldl_rep XV k (a++XV),<-e,YD,ς]
section
variable{X:Cx}{Z2:List (Ç×û)}{Y:St}{H:Hp}{s:Æ}{l b:Ç}{xs ys zs:List V}
def Inv.Pc{its':List Ä}{f:Array Ä->Array Ä}{t':Nat}(I:Inv X Z2 Y H s)(d:H l=À (.lst xs))
  (e:s.heap.get? l=À {cls:=.type "list",data:=.seq XV.toArray n}) (a:f XV.toArray=its'.toArray) (g:Vals ys its') (hz:ys.length<=sizeLine):
  Inv X Z2 Y (upd H l (.lst ys)) {s with heap:=s.heap.update l (Ù f),toks:=t'}:=by
 have q:=PySem.IsL.update e f;rw[a] at q;refine I.write (x:=l) (e:=l) (by rw[d];exact trivial) (.inl rfl) (λb' u c b=>(Ŋ s.heap (Ù f) (ZD c)).trans b) #[_,q] ?_;exact#[hz,its',_,g,q]
def Inv.Kd{t':Nat}(I:Inv X Z2 Y H s)(a:Vals ys XV)(hz:ys.length<=sizeLine):
  Inv X Z2 Y (upd H s.heap.objs.size (.lst ys)) {s with heap:=s.heap.push {cls:=.type "list",data:=.seq XV.toArray},toks:=t'} :=
 I.laid (λ_ _ q=>Xi _ q) (Xm _) #[hz,XV,0,a,Xz _ rfl]
def Inv.fresh(I:Inv X Z2 Y H s):H s.heap.objs.size=none:=I.hok.fresh (Xm _)
def Inv.Ey(I:Inv X Z2 Y H s)(a:H l=À (.lst xs)):xs.length<=sizeLine/\∃(XV:List Ä) (n:Nat),Vals xs XV/\xs.length=XV.length/\s.heap.get? l=À {cls:=.type "list",data:=.seq XV.toArray n}:=by
 obtain⟨z,XV,n,r,e⟩:=I.hok l _ a;exact#[z,XV,n,r,r.length,e]
def Gw(h:n<=sizeLine):Ė n=Â:=by
 unfold Ė;exact XH .b
def I_:V->List V->Hp->VK->Prop:=λx vs H Q=>∃l xs y,x=.ref l/\vs=[y]/\H l=À (.lst xs)/\xs.length<sizeLine/\Q .non (upd H l (.lst (xs++[y])))
def uQ:Sl X "list.append" I_:=by
 intro Z2 s Y H x vs v us Q I d c h;obtain⟨l,xs,y,rfl,rfl,a,hz,q⟩:=h;cases d;obtain⟨u,rfl,b⟩:=c.one;obtain⟨z,XV,n,r,f,e⟩:=I.Ey a;refine ŏ F.slot_list_append #[_,e,rfl] F.entry_list_append (F.args_list_append_2 _ _) (PySem.list_append l XV.toArray n u (by rw[XB];lia)) #[e,?_];refine#[.non,_,I.Pc (its':=XV++[u]) a e .c (r.append (.cons b .nil)) ?_,rfl,q];rw[XD,aa7];lia
def Nz:V->List V->Hp->VK->Prop:=λx vs H Q=>∃l xs,x=.ref l/\vs=[]/\H l=À (.lst xs)/\Q .non (upd H l (.lst []))
def HC:Sl X "list.clear" Nz:=by
 intro Z2 s Y H x vs v us Q I d c h;obtain⟨l,xs,rfl,rfl,b,q⟩:=h;cases d;have a:=c.zero;subst a;obtain⟨z,XV,n,r,f,e⟩:=I.Ey b;refine ŏ F.slot_list_clear #[_,e,rfl] F.entry_list_clear (F.args_list_clear_1 _) (AutoSeq1.list_clear_list_0 l XV.toArray n (by rw[XB];lia)) #[e,?_];exact#[.non,_,I.Pc (its':=[]) (ys:=[]) b e rfl .nil (Yc _),rfl,q]
def Rb:R2:=λx y H Q=>∃l b xs zs,x=.ref l/\y=.ref b/\H l=À (.lst xs)/\H b=À (.lst zs)/\xs.length+zs.length<=sizeLine/\∀p,H p=none->Q (.ref p) (upd H p (.lst (xs++zs)))
def Mx:k5 X (ċ .Add) Rb:=by
 intro Z2 s Y H x y v u Q I k j h;obtain⟨l,b,xs,zs,rfl,rfl,c,f,hz,q⟩:=h;cases k;cases j;obtain⟨z,XV,n,r,m,e⟩:=I.Ey c;obtain⟨p,a,o,d,g,e2⟩:=I.Ey f;refine PySem.P.add_list e e2 ?_ (by rw[XB,XB];lia);have i:XV.toArray++a.toArray=(XV++a).toArray:=by simp
 rw[i];exact#[.ref _,_,I.Kd (t':=s.toks) (r.append d) (by rw[XD];lia),rfl,q _ I.fresh]
def Ri:R2:=λx y H Q=>∃l k xs,x=.ref l/\y=.int k/\H l=À (.lst xs)/\-(2^63)<=k/\k<2^63/\xs.length*k.toNat<=sizeLine /\
 ∀p,H p=none->Q (.ref p) (upd H p (.lst (È k.toNat xs).flatten))
def len_rep{M:Type}(xs:List M)(k:Nat):(È k xs).flatten.length=k*xs.length:=by
 induction k with
 |zero=>simp
 |succ k a=>rw[YD,Zu,XD,a,Nat.succ_mul,Nat.add_comm]
def Ht:k5 X (ċ .Mult) Ri:=by
 intro Z2 s Y H x y v u Q I o B h;obtain⟨l,k,xs,rfl,rfl,w,h1,h2,hz,q⟩:=h;cases o;obtain⟨t,rfl⟩:=B;obtain⟨z,XV,n,r,p,e⟩:=I.Ey w;have g:XV.toArray.size*k.toNat<=sizeLine:=by rwa[XB,<-p]
 have c:¬XV.toArray.size*k.toNat>(2^63-1)/8:=by
  have:(sizeLine:Nat)<=(2^63-1)/8:=by decide
  lia
 have f:¬(!Builtin.List.listFitsIndex k)=Á:=by
  rw[fitsIndex_both h1 h2];exact Xx
 have b:¬Ė (XV.toArray.size*k.toNat)=Á:=by
  rw[Gw g];exact Xx
 have d:ů (λj i=>j++i) #[] (È (if XV.toArray.isEmpty=Á then 0 else k.toNat) XV.toArray)=(È k.toNat XV).flatten.toArray:=by
  have A:∀m:Nat,ů (λj i=>j++i) #[] (È m XV.toArray)=(È m XV).flatten.toArray:=λm=>by
   have:=foldl_rep XV m [];rwa[aaE] at this
  rw[A];cases XV with
  |nil=>simp
  |cons a C=>rw[W_ .c]
 refine wpAny_binaryOp_repeat_ref (T:="list") (U:="int") .a #[_,e,rfl] (λs'=>Ō s' k t) noFill_list_mul F.fills_int_mul ϱ repeat_list F.slot_int_index.lookup
  (ŏ ϱ (Ō s k t) F.entry_int_rmul (F.args_int_rmul_2 _ _) (int___rmul___int_list k t l XV.toArray n)
   #[e,rfl,#[_,e,rfl],ŏ F.slot_list_mul #[_,e,rfl] F.entry_list_mul (F.args_list_mul_2 _ _) (AutoListH.list___mul___list_int_3 l XV.toArray n k t f c b) #[e,?_]])
 rw[d];exact#[.ref _,_,I.Kd (t':=s.toks) (r.rep k.toNat) (by rwa[len_rep,Nat.mul_comm]),rfl,q _ I.fresh]
variable{prog:Ð}{w:Ú}{A:à}{E:Ä->Æ->Prop}
end
end L2
namespace Att
open PySem PySem.W PySem.Calls PyProof.Rows
def qM{P:ő}{h:ß}:∀(ns:List Int) (vs:List Ä),WellAll P h vs (ns.map WData.int)->í vs ns:=by
 intro ns
 induction ns with
 |nil =>
  intro vs w;rw[ϵ] at w;cases w;exact .nil
 |cons n ns c =>
  intro vs w;rw[XQ] at w;cases w with
  |cons a b =>
   cases a;exact .cons _ _ (c _ b)
def C9{l:OpenLaw}{n:Nat}(s:l.most=À n){P:ő}{h:ß}{args:List WData}{vals:List Ä}
  (b:l.row.toRowW.claim.pre args=Á) (j:WellAll P h vals args):
  ∃a vs ns,vals=[þ a]/\args=[WData.list (ns.map WData.int)]/\h.get? a=À {cls:=.type "list",data:=.seq vs.toArray}/\í vs ns/\ns.length<=n:=by
 have i:WShape.hasAll [] args [.list .int]=Á:=(pre_splitW b).1;have k:l.pre.holds [] {args:=args}=Á:=(pre_splitW b).2;obtain⟨d,r,rfl,h1,h2⟩:=hasAllW_cons i;obtain rfl:=hasAllW_nil h2;obtain⟨xs,rfl,m⟩:=hasW_list h1;obtain⟨ns,rfl⟩:=items_int m
 have e:ns.length<=n:=by
  unfold OpenLaw.pre at k
  have f:(WTm.not (.lt (.lit (.int (n:Int))) (.len (.arg 0)))).holds [] {args:=[.list (ns.map .int)]}=Á:=by
   have f:=(holds_andW k).1;rwa[s] at f
  have g:=condW_of f (w_not (w_lt w_lit (w_len_list (w_arg rfl))));rw[Xk] at g;refine ab0 λq=>?_;have q':(n:Int)<((ns.length:Nat):Int):=by omega
  first
   |(rw[XI q'] at g;exact absurd g .a)
   |(simp at g;omega)
 cases j with
 |cons o p =>
  cases p;cases o with
  |list t c=>exact#[_,_,ns,rfl,rfl,t,qM ns _ c,e]
def Dv(l:OpenLaw)(args:List WData):l.row.toRowW.claim.post args (.bool Á) args=Á :=
 postW_of (r:=l.row.toRowW) (X:=(Á==Á))
  (show WShape.has [] (.bool Á) .bool=Á by first|rfl|decide|simp[WShape.has,WShape.arms,WShape.armsAll])
  (show(WTm.eq .res (.lit (.bool Á))).value [] {args:=args,res:=À (.bool Á),after:=args}=À (.bool (Á==Á)) from w_eq_bool (w_res rfl) w_lit) rfl
def yN{l:OpenLaw}{n:Nat}{q:Ð}{loose:List Ï}{x:(Ï->Option Ä)->ß->Prop}{v:Ú->ß->Prop}{d:DefRec}
  (H:l.most=À n) (i:d.params.defaults=[])
  (call:∀(w:Ú) (m b:Æ) (mg k:Ï->Option Ä) (c:Ç) (o:û) (j cd doc:Ä) (a:Ç) (vs:List Ä) (ns:List Int),
   Ground q loose [] x w m mg k b.heap->v w b.heap ->
   b.heap.get? c=À o->o.data=.func (docDef d.name d.params d.body d.scope j cd doc)->b.heap.CodeRec cd d.name->mg d.name=À (.ref c) ->
   b.heap.get? a=À {cls:=.type "list",data:=.seq vs.toArray}->í vs ns->ns.length<=n->b.gens=#[] ->
   Ē (Î l.prog w) Ĭ (.call (.ref c) #[[.ref a],[]]) (λr s'=>r=.ok (.ret (.bool Á))/\OldK b.heap s'.heap/\s'.os=b.os/\ĥ s'.gens) b):
  WalkO q loose x v l.row.toRowW d [] (λf vs=>ş f vs):=by
 intro w m b mg k G σ c o j cd doc I kV J D t u s C args vals as h y K p B;obtain rfl:I=.none:=Dflts.none u i;obtain rfl:kV=.none:=Dflts.noKw u;obtain⟨a,vs,ns,rfl,rfl,e,hints,g⟩:=C9 H h p;refine enter_call (Ϸ (call w m b mg k c o j cd doc a vs ns G σ J (fd_plain D) t s e hints g C) λr s' E=>?_);obtain⟨rfl,h2,A,z⟩:=E;exact#[.inl #[.bool Á,.bool Á,[],rfl,λ_=>rfl,.bool Á,Dv l _,λ_=>#[ľ,λ_ F=>(nomatch F)]],h2,A,z]
section
variable{prog:Ð}{w:Ú}{A:à}{E:Ä->Æ->Prop}{s:Æ}{K:Frag}
end
end Att
namespace L2
open PySem PySem.Spec PyProof.Rows
variable{x qual:Ï}{n k:Nat}{K:Ã}{X:Cx}{f:Ç}{H:Hp}{env:ĵ}{c:Int}
theorem uS:∀{vs:List Ä} {ns:List Int},í vs ns->Vals (ns.map V.int) vs
 |_,_,.nil=>.nil
 |_,_,.cons n t h=>.cons #[t,rfl] (uS h)
def Kk(H:Hp):Prop:=∀b,H b=none\/∃o xs,H b=À (.frz o (.lst xs))
def Fu{P:Ð}{w:Ú}{mg I:Ï->Option Ä}{CX:D1}{E a:Ç}{fd:ð}{sp:Sp}{c:Æ}{vs:List Ä}{ns:List Int}
  (Q:K.In c.heap) (B:c.heap.Ns Ì mg) (f:c.heap.Ns ϛ I) (α:∀x:Ï,x≠"__name__"->I x=ē x) (p:c.heap.NoLimit) (T:c.gens=#[])
  (ha:c.heap.get? a=À {cls:=.type "list",data:=.seq vs.toArray}) (hi:í vs ns) (O:ns.length<=sizeLine) (X:dP k Ĭ)
  (F:∀base:ß,K.In base->base.Ns Ì mg->⇑fU CX k E fd [x] sp) (i:∀(s:Æ) (u:Ä),Į s fd #[[u],[]] [(x,u)])
  (C:∀H:Hp,Kk H->dW K H a (ns.map V.int)->sp [.ref a] H (λv _=>v=.bl Á) λ_ _ _=>False)
  (D:∀H e s',CX [] H c (λ_ _ _=>False) e s'->False):
  Ē (Î P w) Ĭ (.call (.ref E) #[[.ref a],[]]) (λr s'=>r=.ok (.ret (.bool Á))/\OldK c.heap s'.heap/\s'.os=c.os/\ĥ s'.gens) c:=by
 have R:=uS hi;have A:=hi.length
 -- from an abstract heap in which nothing but the script may be tracked
 have core:∀H:Hp,Kk H->dW K H a (ns.map V.int)->lN P w H c.heap->(∀b,H b≠none->b=a)->(H a≠none->K.lookup a=none) ->
   Ē (Î P w) Ĭ (.call (.ref E) #[[.ref a],[]]) (λr s'=>r=.ok (.ret (.bool Á))/\OldK c.heap s'.heap/\s'.os=c.os/\ĥ s'.gens) c:=by
  intro H N hS l S hK;have base_of:∀{b:Ç} {o:û},c.heap.get? b=À o->H b=none->(xq c.heap H).get? b=À o:=λe n=>G_ e n
  have J:∀{b:Ç} {o:û} {es:Array DictEntry} {ep:Nat},c.heap.get? b=À o->o.data=.dict es ep->H b=none:=λ{b o es ep} e d=>by
   cases q:H b with
   |none=>rfl
   |some u =>
    have G:b=a:=S b (by rw[q];simp);subst G;rw[ha] at e;cases e;have d':Data.seq vs.toArray _=Data.dict es ep:=d;cases d'
  have g:∀{b:Ç} {m:Ï->Option Ä},c.heap.Ns b m->(xq c.heap H).Ns b m:=λ{b m} ⟨o,es,ep,e,d,r⟩=>#[o,es,ep,base_of e (J e d),d,r]
  have t:K.In (xq c.heap H):=λb o e=>base_of (Q b o e) (by
   cases q:H b with
   |none=>rfl
   |some u =>
    have G:b=a:=S b (by rw[q];simp);subst G
    rw[hK (by rw[q];simp)] at e;cases e)
  have W:Mod K mg (xq c.heap H):=#[t,g B,#[I,g f,α],let #[mc,h1,h2]:=p;#[mc,g h1,h2]];have Γ:JL P w K mg (xq c.heap H) Ĭ [] c H:=#[rfl,W,λb o e=>Km e,acH (CY _ _),trivial,λb f=>absurd (show b∈([]:List Ç) from f) .c,l,.of_eq T];refine Ϸ ((F _ t (g B)).run Ĭ [] c H #[[.ref a],[]] [.ref a] [.ref a] _ _ X Γ (i c (.ref a)) (.cons rfl .nil) (C H N hS)) λr s' h=>?_;cases r with
  |error e=>exact(D H e s' h).elim
  |ok σ =>
   cases σ with
   |next=>exact Ă h
   |brk=>exact Ă h
   |cont=>exact Ă h
   |ret u =>
    obtain⟨v,H',os,bare,un,y,r',q⟩:=h;have q':v=.bl Á:=q;subst q';obtain rfl:u=ļ Á:=r';refine#[rfl,OldK.of_keep λb o e=>?_,os,bare];cases q:H b with
    |none=>exact un.keep b o e q (by intro z;exact absurd (show b∈([]:List Ç) from z) .c) .c
    |some u =>
     rcases N b with z|⟨ob,xs,z⟩
     .rw[q] at z;cases z
     .have Z:=un.frzs b ob _ z;obtain⟨e1,_⟩:=l b _ z;obtain⟨e2,_⟩:=y b _ Z;rw[e] at e1;cases e1;exact e2
 cases L:K.lookup a with
 |some o =>
  -- the script is one of the module's own objects
  have e:=Q a o L;rw[ha] at e;cases e;refine core (λ_=>none) (λ_=>.inl rfl) (.inr #[_,vs.toArray,_,L,rfl,rfl,rfl,by rwa[XB,A],↑R]) (λb u z=>by have j:(none:Option HO)=À u:=z;cases j) (λb z=>absurd rfl z) λz=>absurd rfl z
 |none =>
  refine core (λb=>if b=a then À (.frz {cls:=.type "list",data:=.seq vs.toArray} (.lst (ns.map V.int))) else none) (λb=>?_) (.inl (.inr #[{cls:=.type "list",data:=.seq vs.toArray},Xc rfl])) (λb u z=>?_) (λb z=>?_) λ_=>L
  .by_cases f:b=a
   .exact .inr #[_,_,Xc f]
   .exact .inl (W_ f)
  .by_cases f:b=a
   .have j:=(Xc f).symm.trans z;cases j;subst f;exact#[ha,by rwa[Xk],vs,_,R,ha]
   .have j:=(W_ f).symm.trans z;cases j
  .by_cases f:b=a
   .exact f
   .exact absurd (W_ f) z
abbrev rL{h:ß}(_:K.In h):Ã:=K
def JZ{l:ū}{q:Ð}{loose:List Ï}{N:(Ï->Option Ä)->ß->Prop}{z:Ú->ß->Prop}{d:DefRec}{K:ő->Ã}{CX:Ú->D1}{sp:Ú->Sp}
  (O:l.most=À n) (t:n<=sizeLine) (m:d.params.defaults=[]) (C:dP k Ĭ)
  (D:∀(w:Ú) (h:ß),z w h->(K w.params).In h)
  (F:∀(w:Ú) (mg:Ï->Option Ä) (j:Ç) (h:ß),(K w.params).In h->h.Ns Ì mg->mg d.name=À (.ref j) ->
   ∃fd:ð,(∀(s:Æ) (u:Ä),Į s fd #[[u],[]] [(x,u)]) /\
    ∀base:ß,(K w.params).In base->base.Ns Ì mg->fU l.prog w (K w.params) mg base (CX w) k j fd [x] (sp w))
  (p:∀(w:Ú) (H:Hp) (a:Ç) (ns:List Int),ns.length<=n->Kk H->dW (K w.params) H a (ns.map V.int)->sp w [.ref a] H (λv _=>v=.bl Á) λ_ _ _=>False)
  (r:∀(w:Ú) (H:Hp) (s:Æ) (e:Ä) (s':Æ),CX w [] H s (λ_ _ _=>False) e s'->False):
  Μ q loose N z l.row.toRowW d [] (λf vs=>ş f vs):=by
 refine Att.yN O m λw Γ J mg S j o Q cd doc a vs ns G σ X R P y i hints c E=>?_;have A:=D w _ σ;obtain⟨fd,L,I⟩:=F w mg j _ A G.T.g y;exact Fu A G.T.g G.T.b G.T.builtins G.T.nolimit E i hints (X8 c t) C I L (λH B α=>p w H a ns c B α) λH e s'=>r w H J e s'
def E4{l:ū}{q:Ð}{loose:List Ï}{t:(Ï->Option Ä)->ß->Prop}{m:Ú->ß->Prop}{d:DefRec}{K:ő->Ã}{CX:D1}{sp:Ã->Sp}
  (y:l.most=À n) (i:n<=sizeLine) (b:d.params.defaults=[]) (p:dP k Ĭ)
  (r:∀(w:Ú) (h:ß),m w h->(K w.params).In h)
  (F:∀(w:Ú) (mg:Ï->Option Ä) (j:Ç) (h:ß),(K w.params).In h->h.Ns Ì mg->mg d.name=À (.ref j) ->
   ∃fd:ð,(∀(s:Æ) (u:Ä),Į s fd #[[u],[]] [(x,u)]) /\
    ∀base:ß,(K w.params).In base->base.Ns Ì mg->fU l.prog w (K w.params) mg base CX k j fd [x] (sp (K w.params)))
  (c:∀(K:Ã) (H:Hp) (a:Ç) (ns:List Int),ns.length<=n->Kk H->dW K H a (ns.map V.int)->sp K [.ref a] H (λv _=>v=.bl Á) λ_ _ _=>False)
  (g:∀(H:Hp) (s:Æ) (e:Ä) (s':Æ),CX [] H s (λ_ _ _=>False) e s'->False):
  Μ q loose t m l.row.toRowW d [] (λf vs=>ş f vs) :=
 JZ (K:=K) (CX:=λ_=>CX) (sp:=λw=>sp (K w.params)) y i b p r F (λw H a ns h1 h2 o=>c (K w.params) H a ns h1 h2 o) λ_ H s e s'=>g H s e s'
def d7(s:Ñ):Arguments:=match s with
 |.FunctionDef _ a _ _ _ _ _ _ _ _=>a
 |_=>{posonlyargs:=[],args:=[],vararg:=none,kwonlyargs:=[],kw_defaults:=[],kwarg:=none,defaults:=[]}
noncomputable def b7(s:Ñ):List Ñ:=match s with
 |.FunctionDef _ _ b _ _ _ _ _ _ _=>b
 |_=>[]
def ag(s:Ñ):ą:=match s with
 |.FunctionDef _ _ _ _ _ _ a _ _ _=>a
 |_=>{kind:=.function,names:=[],isGenerator:=Â,isCoroutine:=Â}
abbrev pd:D1:=λ_ _ _ _ _ _=>False
abbrev E0:XK:=λ_ _ _=>False
def jY:Passes pd X E0:=λ_ _ _ _ _ _ _ h=>h.elim
structure uf(K:Ã)(x qual:Ï)(st:Ñ)(f:Ç)(fd:ð):Prop where
 ex:∃(oc:Ä) (od:Option Ç) (kV doc pm:Ä) (an:Option Ç) (cdv ct:Ä) (osl:Array (Option Ä)),
  fd=ç x qual (d7 st) (b7 st) (ag st) .none kV doc pm an cdv ct/\K.lookup f=À #[oc,od,.func fd,osl]/\ġ K cdv qual=Á
 kp:Ċ K (.ref f)=Á
section
variable{P:Ð}{w:Ú}{K:Ã}{mg:Ï->Option Ä}{base:ß}
def uf.ok{st:Ñ}{fd:ð}{N ps:List Ï}{sp:Sp}(F:uf K x qual st f fd)(S:ak N ps (ag st))(len:∀vs H Q E,sp vs H Q E->vs.length=ps.length)
  (b:∀(a:Ä) (A:à) (outer:List ĵ) (s:Æ) (H:Hp) (vs:List V) (Q:VK) (E:XK),dP k (A.deeper (ę qual (ag st) s.heap.objs.size f a))->sp vs H Q E ->
   ∃t,qW (ui pd P w K mg base N qual (ag st) f a A outer s H E).K8 (b7 st) t/\t {nx:=λ_ H'=>Q .non H',rt:=Q} (start N vs) H):⇑fU pd (k+1) f fd ps sp:=by
 obtain⟨i,od,kV,doc,j,l,a,ct,g,rfl,lk,d⟩:=F.ex;refine P6 lk d S len λA outer s H vs Q E e c=>?_;obtain⟨t,h,q⟩:=b a A outer s H vs Q E e c;exact#[t,h.K8,q]
def uf.binds{st:Ñ}{fd:ð}{ps:List Ï}(F:uf K x qual st f fd)
  (h:∀(kV doc b:Ä) (c:Option Ç) (a ct:Ä) (us:List Ä),us.length=ps.length->ģ (ç x qual (d7 st) (b7 st) (ag st) .none kV doc b c a ct) #[us,[]]=pure (ps.zip us)):Binds K fd ps []:=by
 obtain⟨g,od,kV,doc,b,c,a,ct,d,rfl,lk,e⟩:=F.ex;exact .all (h kV doc b c a ct)
def Nl{st:Ñ}{g:Ä}{od e:Option Ç}{b:Array (Option Ä)}{kV doc d a ct:Ä}(l:K.lookup f=À #[g,od,.func (ç x qual (d7 st) (b7 st) (ag st) .none kV doc d e a ct),b])
  (c:ġ K a qual=Á) (k:Ċ K (.ref f)=Á):uf K x qual st f (ç x qual (d7 st) (b7 st) (ag st) .none kV doc d e a ct):=#[#[g,od,kV,doc,d,e,a,ct,b,rfl,l,c],k]
end
def de(h:n<=1000):n<sizeLine:=aai h .a
section
variable{X:Cx}
def pv(i:Nat){pos:ì}(c:autoParam (X.N[i]?=À x) zra)(d:autoParam (HV X.env.scope x) zre)(b:autoParam ((x==("__debug__":Ï))=Â) zrb)
  (a:autoParam ((x==("__classdict__":Ï))=Â) zrb):PE X (.Name x pos) (OH i):=Mn c d b a
end
def uv{A B:Prop}(h:B):if Â=Á then A else B:=by
 rwa[W_ Xx]
def uh{A B:Prop}(h:A):if Á=Á then A else B:=by
 rwa[Xc rfl]
def aG(H H':Hp):Prop:=∀b o,H b=À o->H' b=À o
def aG.refl(H:Hp):aG H H:=λ_ _ h=>h
def aG.trans{H1 H2:Hp}(a:aG H H1)(b:aG H1 H2):aG H H2:=λc o h=>b c o (a c o h)
def aG.free{H':Hp}(e:aG H H'){l:Ç}(h:H' l=ϝ):H l=ϝ:=by
 cases q:H l with
 |none=>rfl
 |some o =>
  rw[e l o q] at h;cases h
def aG.seq{H':Hp}{a:Ç}{xs:List V}(e:aG H H')(h:dW K H a xs):dW K H' a xs:=by
 rcases h with(h|⟨o,h⟩)|h
 .exact .inl (.inl (e _ _ h))
 .exact .inl (.inr #[o,e _ _ h])
 .exact .inr h
def Kg(a:List (Ï×Ç)):Prop:=∀x y c,a.lookup x=À c->a.lookup y=À c->x=y
def aZ{M:Type}{n:Ï}{a c:M}{r:List (Ï×M)}(h:Ĳ x ((n,a)::r)=À c):(x=n/\a=c)\/(x≠n/\r.lookup x=À c):=by
 rw[ZE] at h;cases b:x==n with
 |true=>rw[b] at h;cases h;exact .inl #[aaQ.mp b,rfl]
 |false=>rw[b] at h;exact .inr #[(λz=>by(rw[z,aaz] at b;cases b)),h]
theorem BZ:∀(names:List (Ï×ï)) (n:Nat) (d:List (Ï×Ç)),Kg d->(∀x c,d.lookup x=À c->c<n) ->
  Kg (ê n names d)/\∀x c,(ê n names d).lookup x=À c->d.lookup x=À c\/n<=c
 |[],_,_,hi,_=>#[hi,λ_ _ h=>.inl h]
 | (y,k) :: r,n,d,hi,g=>by
  unfold ê;by_cases i:(k==á)=Á
  .rw[Xc i]
   have h1:Kg ((y,n)::d):=λa b c e1 e2=>by
    rcases aZ e1 with⟨q1,f⟩|⟨q1,f⟩<;>rcases aZ e2 with⟨j,p2⟩|⟨j,p2⟩
    .rw[q1,j]
    .exact absurd (g _ _ p2) (by rw[<-f];exact ZS _)
    .exact absurd (g _ _ f) (by rw[<-p2];exact ZS _)
    .exact hi a b c f p2
   have h2:∀x c,Ĳ x ((y,n)::d)=À c->c<n+1:=λx c e=>by
    rcases aZ e with⟨_,f⟩|⟨_,f⟩
    .rw[<-f];exact Zj _
    .exact YN (g _ _ f)
   obtain⟨l,m⟩:=BZ r (n+1) ((y,n)::d) h1 h2;refine#[l,λx c e=>?_];rcases m x c e with q|q
   .rcases aZ q with⟨_,f⟩|⟨_,f⟩
    .exact .inr (acH f)
    .exact .inl f
   .exact .inr (aaV q)
  .rw[W_ i];exact BZ r n d hi g
theorem xo:∀(names:List (Ï×ï)) (h:ß) (a:List (Ï×Ç)) (x:Ï) (c:Ç),(ê h.objs.size names a).lookup x=À c->a.lookup x=À c\/(pushCells h names).IsCell c none
 |[],_,_,_,_,e=>.inl e
 | (y,k) :: r,h,a,x,c,e=>by
  unfold ê at e;unfold pushCells;by_cases d:(k==á)=Á
  .rw[Xc d] at e ⊢;have f:(ê (h.push {cls:=.type "cell",data:=.cell none}).objs.size r ((y,h.objs.size)::a)).lookup x=À c:=by rwa[Zl]
   rcases xo r (h.push {cls:=.type "cell",data:=.cell none}) ((y,h.objs.size)::a) x c f with q|q
   .rcases aZ q with⟨_,b⟩|⟨_,b⟩
    .refine .inr ?_;subst b;exact#[_,acg _ _ _ _ (Xz _ rfl),rfl]
    .exact .inl b
   .exact .inr q
  .rw[W_ d] at e ⊢;exact xo r h a x c e
theorem wu:∀(names:List (Ï×ï)) (n:Nat) (a:List (Ï×Ç)) (x:Ï),(∀y∈names,y.1=x->y.2≠.cell)->(ê n names a).lookup x=a.lookup x
 |[],_,_,_,_=>rfl
 | (y,k) :: r,n,a,x,h=>by
  unfold ê;by_cases b:(k==á)=Á
  .rw[Xc b,wu r (n+1) _ x λz hz=>h z (Xj _ hz),ZE]
   have c:(x==y)=Â:=by
    cases d:x==y with
    |false=>rfl
    |true=>exact absurd ↑b (h (y,k) Xo (aaQ.mp d).symm)
   rw[c]
  .rw[W_ b];exact wu r n a x λz hz=>h z (Xj _ hz)
noncomputable def gI(env:ĵ):List (Ï×ï)->List (Ï×Ç)->List (Ï×Ç)
 |[],a=>a
 |(n,k)::r,a=>gI env r (if k==.free then (n,(env.cells.lookup n).getD 0)::a else a)
theorem Ci{env:ĵ}:∀(names:List (Ï×ï)) (b:List (Ï×Ç)),(∀x∈names,x.2=.free->∃c,env.cells.lookup x.1=À c) ->
  (forIn names b λx cs=>(if (x.2==Þ)=Á then (do let a <-cellOf env x.1;pure (Ć ((x.1,a)::cs))) else pure (Ć cs):Sem (ForInStep (List (Ï×Ç)))))=pure (gI env names b)
 |[],_,_=>rfl
 | (n,k) :: r,b,h=>by
  rw[ρ];have g:=λb=>Ci r b λx i=>h x (Xj _ i);unfold gI;by_cases f:(k==Þ)=Á
  .obtain⟨c,j⟩:=h (n,k) Xo ↑f;have d:env.cells.lookup n=À c:=j;have e:cellOf env n=pure c:=by unfold cellOf;rw[d]
   simp only[f,aat,e,d,Ŭ,pure_bind];exact g _
  .simp only[f,ZT,pure_bind];exact g _
def jN{ZB:ą}(h:∀x∈ZB.names,x.2=.free->∃c,env.cells.lookup x.1=À c):closureFor ZB env=pure (gI env ZB.names []):=by
 have:=Ci (env:=env) ZB.names [] h;unfold closureFor;simp only[bind_pure_comp]
 first|exact this|simpa using this
theorem dC{env:ĵ}{x:Ï}:∀(names:List (Ï×ï)) (a:List (Ï×Ç)) (c:Ç),(∀y∈names,y.2=.free->∃c,env.cells.lookup y.1=À c)->(gI env names a).lookup x=À c->a.lookup x=À c\/env.cells.lookup x=À c
 |[],_,_,_,e=>.inl e
 | (n,k) :: r,a,c,h,e=>by
  unfold gI at e;have i:=λa=>dC (x:=x) r a c λy j=>h y (Xj _ j);by_cases g:(k==Þ)=Á
  .rw[Xc g] at e;rcases i _ e with q|q
   .rcases aZ q with⟨q1,d⟩|⟨_,d⟩
    .obtain⟨c',f⟩:=h (n,k) Xo ↑g;have b:env.cells.lookup n=À c':=f;rw[b] at d;right;rw[q1,b];exact congrArg À d
    .exact .inl d
   .exact .inr q
  .rw[W_ g] at e;exact i _ e
theorem sZ{env:ĵ}{x:Ï}:∀(names:List (Ï×ï)) (a:List (Ï×Ç)),((x,Þ)∈names\/∃c,a.lookup x=À c)->∃c,(gI env names a).lookup x=À c
 |[],_,h=>h.elim (λz=>nomatch z) id
 | (n,k) :: r,a,h=>by
  unfold gI;refine sZ r _ ?_;rcases h with h|⟨c,h⟩
  .rcases Xa.mp h with e|h
   .cases e;right;rw[Xc .a];exact#[_,by rw[ZE,aaz]]
   .exact .inl h
  .right;split
   .rw[ZE];split
    .exact#[_,rfl]
    .exact#[c,h]
   .exact#[c,h]
noncomputable def iV(X:Cx)(N:List Ï)(ZB:ą)(C:Ç)(s:Æ)(H:Hp)(fp:List Ç):Cx where
 prog:=X.prog
 w:=X.w
 K:=X.K
 mg:=X.mg
 base:=X.base
 A:=X.A
 N:=N
 s₀:=s
 H₀:=H
 env:={scope:=ĺ ZB X.env,locals:=C,globals:=X.env.globals,cells:=ê (C+1) ZB.names (gI X.env ZB.names []),qual:=X.env.qual,func:=none,code:=X.env.code,frame:=X.env.frame,builtins:=X.env.builtins}
 outer:=X.stack
 stack:=X.stack
 ex:=fp
 fn:=λx=>match ZB.names.lookup x with|some .cell=>Á|_=>Â
 calm:=X.calm
 pn:=[]
 xe:=λ_ _=>False
theorem fe{env:ĵ}:∀{names:List (Ï×ï)} {x:Ï} {k:ï},(names.map fun(n,k)=>if (k==Þ&&env.scope.kind==.function&&env.kindOf n==À .cell) then (n,á) else (n,k)).lookup x=À k ->
  ∃d,names.lookup x=À d/\(k=d\/d=.free)
 |[],_,_,h=>by simp at h
 | (n,q) :: r,x,k,h=>by
  rw[XQ] at h;have h':Ĳ x ((if (q==Þ&&env.scope.kind==.function&&env.kindOf n==À .cell)=Á then (n,á) else (n,q))::_)=À k:=h;have a:∀b:Bool,(if b=Á then (n,á) else (n,q))=(n,if b=Á then á else q):=λb=>by cases b<;>rfl
  rw[a] at h';rw[ZE];rcases aZ h' with⟨e1,e2⟩|⟨e1,e2⟩
  .rw[e1,aaz];refine#[q,rfl,?_];rw[<-e2];by_cases c:(q==Þ&&env.scope.kind==.function&&env.kindOf n==À .cell)=Á
   .right;have:=(YG.mp (YG.mp c).1).1;simpa using this
   .left;rw[W_ c]
  .have e:(x==n)=Â:=by
    cases c:x==n with
    |false=>rfl
    |true=>exact absurd (aaQ.mp c) e1
   rw[e];exact fe e2
structure ik(X:Cx)(ZB:ą)(tn:List Ï)(js:List Nat):Prop where
 kind:ZB.kind=.function
 loc:∀x∈ZB.names,x.2=.local->ZB.names.lookup x.1=À .local
 fre:∀x∈ZB.names,x.2=.free->ZB.names.lookup x.1=À .free/\(X.env.kindOf x.1=À .cell\/X.env.kindOf x.1=À .free)
 one:∀x∈ZB.names,∀y∈ZB.names,x.1=y.1->x.2=y.2
 js:∀j∈js,∃x,X.N[j]?=À x/\ZB.names.lookup x=À .free
def cN(X:Cx)(tn:List Ï)(js:List Nat):List Ï:=tn++js.map λj=>(X.N[j]?).getD ("":Ï)
def cσ(Y:St)(tn:List Ï)(js:List Nat):St:=tn.map (λ_=>none)++js.map λj=>(Y[j]?).getD none
def bK{names:List (Ï×ï)}{k:ï}(h:names.lookup x=À k):(x,k)∈names:=ZC h
section
variable{X:Cx}{Z2:List (Ç×û)}{Y:St}{H:Hp}{s:Æ}{ZB:ą}{tn:List Ï}{js:List Nat}{fp:List Ç}
def f_(ok:X.Ok)(S:ik X ZB tn js):∀x∈ZB.names,x.2=.free->∃c,X.env.cells.lookup x.1=À c:=λx a b=>ok.has x.1 (S.fre x a b).2
def DF(ok:X.Ok)(S:ik X ZB tn js)(b:∀x c,X.env.cells.lookup x=À c->c<n):
  Kg (ê n ZB.names (gI X.env ZB.names []))/\∀x c,(ê n ZB.names (gI X.env ZB.names [])).lookup x=À c->X.env.cells.lookup x=À c\/n<=c:=by
 have a:∀x c,(gI X.env ZB.names []).lookup x=À c->X.env.cells.lookup x=À c:=λx c e=>by
  rcases dC ZB.names [] c (f_ ok S) e with q|q
  .cases q
  .exact q
 obtain⟨h1,h2⟩:=BZ ZB.names n (gI X.env ZB.names []) (λx y c e1 e2=>ok.inj x y c (a x c e1) (a y c e2)) (λx c e=>b x c (a x c e));exact#[h1,λx c e=>(h2 x c e).imp (a x c) id]
def Dm{R:ß}{m:Ï->Option Ä}{t':Nat}(I:Inv X Z2 Y H s)(S:ik X ZB tn js)(Q:∀b∈fp,uC X Z2 H b/\b<s.heap.objs.size)(hns:R.Ns s.heap.objs.size m)
  (C:∀b o,s.heap.get? b=À o->R.get? b=À o) (E:∀x c,(ê (s.heap.objs.size+1) ZB.names (gI X.env ZB.names [])).lookup x=À c->X.env.cells.lookup x=À c\/R.IsCell c none):
  Inv (iV X (cN X tn js) ZB s.heap.objs.size s H fp) [] (cσ Y tn js) H {s with heap:=R,toks:=t'}:=by
 have D:∀x c,X.env.cells.lookup x=À c->c<s.heap.objs.size+1:=λx c e=>by
  obtain⟨v,q⟩:=I.cell x c e;exact YN q.lt
 obtain⟨P,J⟩:=DF I.ok S D;have hC:H s.heap.objs.size=none:=I.hok.fresh (Xm _)
 refine#[#[I.ok.mod,S.kind,I.ok.glob,I.ok.blt,Xm _,P,λx σ=>?_,λx c σ e=>?_,I.ok.hd,I.ok.frames,.inl rfl,λb B=>#[XS (Q b B).2,λx c e z=>?_],I.bs,X8 I.ok.bsz I.sz,λb o e B=>?_,λb B z=>?_,I.stack,I.CI],
  rfl,I.bare,Un.kept C,#[m,hns,λi x v h1 h2 h3=>?_],λx c e=>?_,hC,λx c e=>?_,(λp hp=>nomatch hp),I.hok.kept C,?_]
 .-- has
  have A:(ĺ ZB X.env).names.lookup x=À .cell\/(ĺ ZB X.env).names.lookup x=À .free:=σ
  have own:ZB.names.lookup x=À .cell->∃c,(ê (s.heap.objs.size+1) ZB.names (gI X.env ZB.names [])).lookup x=À c:=λq =>
   Z8.mp (aal ZB.names _ _ (.inl q))
  have F:ZB.names.lookup x=À .free->∃c,(ê (s.heap.objs.size+1) ZB.names (gI X.env ZB.names [])).lookup x=À c:=λq =>
   Z8.mp (aal ZB.names _ _ (.inr (Z8.mpr (sZ ZB.names [] (.inl (bK q))))))
  rcases A with q|q
  .obtain⟨k0,q1,g⟩:=fe q;rcases g with g|g
   .subst g;exact own q1
   .subst g;exact F q1
  .obtain⟨k0,q1,g⟩:=fe q;rcases g with g|g
   .subst g;exact F q1
   .subst g;exact F q1
 .-- cab
  rcases J x c e with q|q
  .exfalso;have A:(match ZB.names.lookup x with|some .cell=>Á|_=>Â)=Á:=σ;split at A
   .rename_i hl
    -- an own cell is new
    have B:∀y c',(gI X.env ZB.names []).lookup y=À c'->c'<s.heap.objs.size+1:=λy c' e'=>by
     rcases dC ZB.names [] c' (f_ I.ok S) e' with z|z
     .cases z
     .exact D y c' z
    have Γ:(gI X.env ZB.names []).lookup x=none:=by
     cases z:(gI X.env ZB.names []).lookup x with
     |none=>rfl
     |some c' =>
      exfalso
      have mem:∀(names:List (Ï×ï)) (l:List (Ï×Ç)),(∃c',(gI X.env names l).lookup x=À c')->(x,Þ)∈names\/∃c',l.lookup x=À c':=by
       intro names
       induction names with
       |nil=>exact λl z=>.inr z
       |cons p r ih =>
        obtain⟨n,k⟩:=p;intro l z;unfold gI at z;rcases ih _ z with z|⟨c',z⟩
        .exact .inl (Xj _ z)
        .split at z
         .rename_i C;rcases aZ z with⟨e1,_⟩|⟨_,e2⟩
          .left;have:k=Þ:=by simpa using C
           rw[e1,this];exact Xo
          .exact .inr #[c',e2]
         .exact .inr #[c',z]
      rcases mem ZB.names [] #[c',z] with z|⟨_,z⟩
      .have:=S.one _ z _ (bK hl) rfl;cases this
      .cases z
    have hh:=BZ ZB.names (s.heap.objs.size+1) (gI X.env ZB.names []) (λa b c' e1 e2=>by
     rcases dC ZB.names [] c' (f_ I.ok S) e1 with z|z
     .cases z
     .rcases dC ZB.names [] c' (f_ I.ok S) e2 with V|V
      .cases V
      .exact I.ok.inj a b c' z V) B
    rcases hh.2 x c e with z|z
    .rw[Γ] at z;cases z
    .exact absurd (D x c q) (aaA.mpr z)
   .cases A
  .exact aaV q
 .-- exf
  obtain⟨⟨f0,f1,f2,f3,W,f5⟩,G⟩:=Q b B;rcases J x c e with q|q
  .exact W x c q z
  .rw[z] at q;exact absurd G (aaA.mpr (aaV q))
 .-- noex
  obtain⟨⟨f0,f1,f2,f3,W,f5⟩,G⟩:=Q b B;rcases f3 with q|q
  .exact I.ok.noex b o e q
  .exact absurd (XR (Xr e) (X8 I.ok.bsz q)) (ZS _)
 .-- exfs
  obtain⟨⟨f0,f1,f2,f3,W,f5⟩,G⟩:=Q b B;rcases Xa.mp (I.wF b z) with q|q
  .exact f1 q
  .exact f2 q
 .-- the names
  have d:(cσ Y tn js)[i]?=À (À v):=h2;have t:(cN X tn js)[i]?=À x:=h1;unfold cσ at d;unfold cN at t;by_cases hi:i<tn.length
  .rw[YJ ↑hi,Xw] at d;cases q:tn[i]? with
   |none=>rw[q] at d;cases d
   |some y=>rw[q] at d;cases d
  .rw[Y0 ↑hi,Xw,Xk] at d;rw[Y0 ↑hi,Xw] at t;cases q:js[i-tn.length]? with
   |none=>rw[q] at d;cases d
   |some j =>
    rw[q] at d t;obtain⟨y,L,h⟩:=S.js j (Xg q)
    have exy:y=x:=by
     have:À ((X.N[j]?).getD ("":Ï))=À x:=t;rw[L] at this;exact Xy this
    subst exy
    have hv:Y[j]?=À (À v):=by
     have:À ((Y[j]?).getD none)=À (À v):=d;cases z:Y[j]? with
     |none=>rw[z] at this;cases this
     |some o=>rw[z] at this;exact congrArg À (Xy this)
    have O:=(S.fre _ (bK h) rfl).2;have vis:HV X.env.scope y:=O.elim (λz=>.inr (.inl z)) λz=>.inr (.inr z);obtain⟨m0,hn0,hl0⟩:=I.loc;obtain⟨u,ru,lk⟩:=hl0 j y v L hv vis;refine#[u,ru,.inr #[?_,?_]]
    .have h3':(ĺ ZB X.env).names.lookup y=À .local\/(ĺ ZB X.env).names.lookup y=À .cell\/(ĺ ZB X.env).names.lookup y=À .free:=h3;rcases h3' with z|z|z
     .obtain⟨k0,z1,T⟩:=fe z;rw[h] at z1;cases z1;rcases T with T|T
      .cases T
      .exfalso
       -- free is relabelled to cell or stays
       have:=z
       have f:∀{names:List (Ï×ï)},(∀p∈names,p.1=y->p.2=.free)->(names.map fun(n,k)=>if (k==Þ&&X.env.scope.kind==.function&&X.env.kindOf n==À .cell) then (n,á) else (n,k)).lookup y≠À .local:=by
        intro names
        induction names with
        |nil=>intro _ w;simp at w
        |cons p r ih =>
         obtain⟨n,k⟩:=p;intro hp w;rw[XQ] at w;have w':Ĳ y ((if (k==Þ&&X.env.scope.kind==.function&&X.env.kindOf n==À .cell)=Á then (n,á) else (n,k))::_)=À .local:=w;have α:∀b:Bool,(if b=Á then (n,á) else (n,k))=(n,if b=Á then á else k):=λb=>by cases b<;>rfl
         rw[α] at w';rcases aZ w' with⟨e1,e2⟩|⟨e1,e2⟩
         .have C:k=.free:=hp (n,k) Xo e1.symm;subst C;split at e2<;>cases e2
         .exact ih (λp hp'=>hp p (Xj _ hp')) e2
       exact f (λp hp e=>S.one p hp _ (bK h) e) z
     .exact .inl z
     .exact .inr z
    .have lk':∃c,X.env.cells.lookup y=À c/\s.heap.IsCell c (À u):=by
      rcases lk with⟨z,_⟩|⟨_,z⟩
      .exfalso;rcases O with q|q
       .rw[q] at z;cases z
       .rw[q] at z;cases z
      .exact z
     obtain⟨c,hc1,Z⟩:=lk';refine#[c,?_,Z.keeps C];show(ê (s.heap.objs.size+1) ZB.names (gI X.env ZB.names [])).lookup y=À c;rw[wu ZB.names _ _ y λp hp e=>by(rw[S.one p hp _ (bK h) e];intro z;cases z)];obtain⟨c',K⟩:=sZ (env:=X.env) ZB.names [] (.inl (bK h));rcases dC ZB.names [] c' (f_ I.ok S) K with z|z
     .cases z
     .rw[hc1] at z;cases z;exact K
 .-- cells are there
  rcases E x c e with q|q
  .obtain⟨v,z⟩:=I.cell x c q;exact#[v,z.keeps C]
  .exact#[none,q]
 .-- and free
  rcases J x c e with q|q
  .exact I.freeC x c q
  .exact I.hok.fresh (aaV q)
 .show(cσ Y tn js).length=(cN X tn js).length;unfold cσ cN;simp
variable{α:Model}{A:à}{E:Ä->Æ->Prop}
def yx{ZB:ą}{globals:Ç}{cl:List (Ï×Ç)}{Q:ĵ->Æ->Prop}
  (d:∀h',h'.Ns s.heap.objs.size (λ_=>none)->(∀b o,s.heap.get? b=À o->h'.get? b=À o)->(∀x c,(ê (s.heap.objs.size+1) ZB.names cl).lookup x=À c->cl.lookup x=À c\/h'.IsCell c none) ->
   Q {scope:=ZB,locals:=s.heap.objs.size,globals,cells:=ê (s.heap.objs.size+1) ZB.names cl,qual,func:=none,code:=env.code,frame:=env.frame,builtins:=env.builtins} {s with heap:=h'}):
  Í α A (ō ZB globals cl [] qual none .none (À env)) Q E s:=by
 simp only[ō,Ŗ,aat];refine W9 (wpAny_alloc ?_);refine W9 (wpAny_layCells _ (λname kind cells=>by cases a:kind==á<;>simp[a]) _ _ _ _ ?_);rw[show({s with heap:=s.heap.push {cls:=.type "dict",data:=.dict #[]}}:Æ).heap.objs.size=s.heap.objs.size+1 from Zl ..];refine W9 ?_;rw[ϐ];refine Xd (Xd ?_);refine d _ ((Heap.Ns.new s.heap (.type "dict")).keeps (acg _ _)) (λb o e=>acg _ _ b o (Xi _ e)) λx c e=>?_;refine xo ZB.names _ cl x c ?_;rwa[Zl]
variable{prog:Ð}{w:Ú}{R:ż->Æ->Prop}
def CT{elt target iter:Ô}{ifs:List Ô}{ZB:ą}{pos:ì}{it a:Ä}(I:Nat->Æ->Prop)
  (turn:∀n s,I n s->Í (Î prog w) A (Ď it) (λr e=>match r with
   |none=>R (.ok .next) e
   |some v=>Í (Î prog w) A (Ħ target it v) (λ_ b=>Í (Î prog w) A (Ě target env v) (λ_ j =>
     Í (Î prog w) A (forIn ifs Á λc r=>if r=Á then do let ok <-Ÿ c env (Û c env);pure (Ć ok) else pure (Ć r)) (λok d =>
      if ok=Á then Í (Î prog w) A (Û elt env) (λx k =>
       Í (Î prog w) A (call (.builtin "list.append") [a,x]) (λ_ g=>∃m,m<n/\I m g) (λ_ _=>False) k) (λ_ _=>False) d
      else ∃m,m<n/\I m d) (λ_ _=>False) j) (λ_ _=>False) b) (λ_ _=>False) e) (λ_ _=>False) s)
  (n:Nat) (h:I n s):
  Ē (Î prog w) A (.compLoop (.ListComp elt [#[target,iter,ifs,0]] ZB pos) 0 it a env) R s:=by
 refine codeAny_loop rfl I (λn s l=>?_) n h;show Í _ A ((compTurn (.ListComp elt [#[target,iter,ifs,0]] ZB pos) 0 it a env).onRaise (λx=>do noteFrame x env;theTreesLotGoes x)) _ _ s;refine wpAny_noted ?_;rw[compTurn_list];refine W9 (ś (W9 (Zq (turn n s l) (λr e h₁=>?_) λ_ _ z=>z.elim)));cases r with
 |none=>exact Xd h₁
 |some v =>
  refine W9 (Zq h₁ (λ_ b f=>?_) λ_ _ z=>z.elim);refine W9 (Zq f (λ_ j p=>W9 (Zq p (λok d i=>?_) λ_ _ z=>z.elim)) λ_ _ z=>z.elim);cases ok with
  |false=>exact Xd #[rfl,i]
  |true =>
   exact W9 (W9 (Zq i (λx k o=>W9 (Zq o (λ_ g q=>Xd (Xd #[rfl,q])) λ_ _ z=>z.elim)) λ_ _ z=>z.elim))
end
def PF(X:Cx)(ifs:List Ô)(t:TT):Prop :=
 ∀(Z2:List (Ç×û)) (s:Æ) (Y:St) (H:Hp) (Q:Bool->Hp->Prop),Inv X Z2 Y H s->t Y H Q ->
  Í .E X.A (forIn ifs Á λc r=>if r=Á then do let ok <-Ÿ c X.env (Û c X.env);pure (Ć ok) else pure (Ć r)) (TP X Z2 Y Q) X.xe s
def L9:PF X [] (λ_ H Q=>Q Á H):=λZ2 s Y H Q I q=>wpAny_tests_nil #[H,I,q]
def LZ{c:Ô}{t:TT}(h:PT X c t):PF X [c] t:=λZ2 s Y H Q I q=>wpAny_tests_one (h Z2 s Y H Q I q)
def BU(Y:St)(tn:List Ï)(js:List Nat)(Y':St):Prop:=(∀(j:Nat) (v:V),tn.length<=j->(cσ Y tn js)[j]?=À (À v)->Y'[j]?=À (À v))/\Y'.length=(cσ Y tn js).length
def QE(wi:TI)(tn:List Ï)(js:List Nat)(g:TG)(tt:TT)(te:TE):TE:=λY H Q=>wi Y H λJ H1=>∀D,H1 D=none->∃W:Nat->Nat->Hp->List V->Prop,(∃m,W 0 m (upd H1 D (.lst [])) []) /\
 ∀i m H xs,W i m H xs->H D=À (.lst xs)/\((J.stop i H/\Q (.ref D) H)\/(J.go i H/\∀x H',J.yld i H x H'->g x (cσ Y tn js) H' λσ2 H2=>BU Y tn js σ2/\tt σ2 H2 λok c =>
  if ok=Á then te σ2 c λy b=>b D=À (.lst xs)/\xs.length<sizeLine/\∃a,a<m/\W (i+1) a (upd b D (.lst (xs++[y]))) (xs++[y])
  else ∃a,a<m/\W (i+1) a c xs))
section
variable{X:Cx}{Z2:List (Ç×û)}{Y:St}{H:Hp}{s:Æ}{ZB:ą}{tn:List Ï}{js:List Nat}{elt target iter:Ô}{ifs:List Ô}{pos:ì}{wi:TI}{g:TG}{tt:TT}{te:TE}
def vF{Q:VK}{RR:Ä->Ç->ż->Æ->Prop}(S:ik X ZB tn js)(hc:X.calm=Á)(hi:PI X target iter wi)
  (a:∀C s H fp,PG .G target g/\PF .G ifs tt/\PE .G elt te)
  (I:Inv X Z2 Y H s) (h:QE wi tn js g tt te Y H Q)
  (hRR:∀D C s' H' oC m,Inv X (Z2++[(C,oC)]) Y H' s'->s'.heap.get? C=À oC->s'.heap.Ns C m->X.s₀.heap.objs.size<=C->C≠X.env.locals->(∀x c,X.env.cells.lookup x=À c->c≠C)->(∀p∈X.pn++Z2,p.1≠C)->Q (.ref D) H'->RR (.ref D) C (.ok .next) s'):
  Í .E X.A (Û iter X.env) (λx s₁=>Í .E X.A (ı x) (λit s₂=>Í .E X.A (newList []) (λacc s₃ =>
   Í .E X.A (ō ZB X.env.globals (gI X.env ZB.names []) [] X.env.qual none .none (À X.env)) (λE s₄ =>
    Ē .E X.A (.compStart (.ListComp elt [#[target,iter,ifs,0]] ZB pos) 0 it acc {E with scope:=ĺ ZB X.env}) (RR acc E.locals) s₄) X.xe s₃) X.xe s₂) X.xe s₁) X.xe s:=by
 refine cj (hi Z2 s Y H _ I h) λv s1 h1=>cj h1 λitv f h2=>?_;obtain⟨it,fp,R,J,H2,e,t,T,st2,f2,hJ⟩:=h2;subst e;refine abx ?_;have D0:H2 f.heap.objs.size=none:=t.hok.fresh (Xm _);obtain⟨W,⟨m0,w0⟩,turn⟩:=hJ f.heap.objs.size D0;have I3:Inv X Z2 Y (upd H2 f.heap.objs.size (.lst [])) {f with heap:=f.heap.push {cls:=.type "list",data:=.seq ([]:List Ä).toArray},toks:=f.toks}:=t.Kd .nil (Yc _);generalize L:({f with heap:=f.heap.push {cls:=.type "list",data:=.seq ([]:List Ä).toArray},toks:=f.toks}:Æ)=s3 at I3;have s3s:s3.heap.objs.size=f.heap.objs.size+1:=by rw[<-L];exact Zl ..
 have k23:∀b o,f.heap.get? b=À o->s3.heap.get? b=À o:=λb o e=>by rw[<-L];exact Xi _ e
 have σ:Un (B8 X.stack) fp H2 (upd H2 f.heap.objs.size (.lst [])) f.heap s3.heap:=Un.laid k23 (Xm _) D0;generalize hH3:upd H2 f.heap.objs.size (.lst [])=k at I3 σ w0;generalize hD:f.heap.objs.size=D at *
 have fpl:∀b∈fp,b<D:=λb a=>by
  obtain⟨o,e,_⟩:=T.obj 0 _ st2 b a;rw[<-hD];exact Xr e
 have f3:∀b∈fp,uC X Z2 k b/\b<s3.heap.objs.size:=λb a=>by
  obtain⟨q0,q⟩:=f2 b a;refine#[#[?_,q],by have:=fpl b a;rw[s3s];exact YN this];rwa[<-hH3,aC (XS (fpl b a))]
 refine yx λh4 hns hk F=>?_
 have cl0:∀x c,(gI X.env ZB.names []).lookup x=À c->X.env.cells.lookup x=À c:=λx c e=>by
  rcases dC ZB.names [] c (f_ I.ok S) e with q|q
  .cases q
  .exact q
 have I4:Inv (iV X (cN X tn js) ZB s3.heap.objs.size s3 k fp) [] (cσ Y tn js) k {s3 with heap:=h4,toks:=s3.toks}:=Dm I3 S f3 hns hk λx c e=>(F x c e).imp (cl0 x c) id;have st4:R 0 h4:=T.keep 0 _ _ st2 λb a o e=>hk b o (k23 b o e)
 have O:∀{H':Hp},(∀b∈fp,H' b=none)->∀b∈fp,uC (iV X (cN X tn js) ZB s3.heap.objs.size s3 k fp) [] H' b:=λhn b a=>by
  obtain⟨⟨q0,q1,q2,q3,q4,q5⟩,ql⟩:=f3 b a;refine#[hn b a,XS ql,λz=>?_,.inl a,λx c e z=>?_,λp hp=>nomatch hp]
  .rcases Xa.mp (I3.wF b z) with q|q
   .exact q1 q
   .exact q2 q
  .exact(I4.ok.exf b a).2 x c e z
 have loop:Ē .E X.A (.compLoop (.ListComp elt [#[target,iter,ifs,0]] ZB pos) 0 (.ref it) (.ref D) (iV X (cN X tn js) ZB s3.heap.objs.size s3 k fp).env) (RR (.ref D) s3.heap.objs.size) {s3 with heap:=h4,toks:=s3.toks}:=by
  refine CT (λn s'=>∃i Y' H' xs,Inv (iV X (cN X tn js) ZB s3.heap.objs.size s3 k fp) [] Y' H' s'/\R i s'.heap/\(∀b∈fp,H' b=none)/\W i n H' xs/\BU Y tn js Y') ?_ m0
   #[0,_,k,[],I4,st4,λb a=>(f3 b a).1.1,w0,λ_ _ _ z=>z,rfl]
  rintro n s5 ⟨i,σ5,B,xs,I5,st5,fr5,w5,kσ,lσ⟩
  -- the state with the targets forgotten
  have I5':Inv (iV X (cN X tn js) ZB s3.heap.objs.size s3 k fp) [] (cσ Y tn js) B s5:=I5.weak lσ.symm λj v e=>by
   by_cases hj:tn.length<=j
   .exact kσ j v hj e
   .exfalso;unfold cσ at e;rw[YJ ↑(Nat.lt_of_not_le hj),Xw] at e;cases q:tn[j]? with
    |none=>rw[q] at e;cases e
    |some y=>rw[q] at e;cases e
  obtain⟨hDx,G⟩:=turn i n B xs w5;rcases G with⟨stop,q⟩|⟨go,step⟩
  .refine cj (T.done (iV X (cN X tn js) ZB s3.heap.objs.size s3 k fp) rfl rfl rfl hc i [] s5 _ B (λ_ _=>False) I5' (O fr5) st5 stop) λr s6 ⟨hr,Γ⟩=>?_;subst hr
   -- back to the def's own state
   have u36:Un (B8 X.stack) fp k B s3.heap s6.heap:=Γ.base;have u26:Un (B8 X.stack) fp H2 B f.heap s6.heap:=σ.trans u36;have I6X:Inv X Z2 Y B s6:=t.Qk (Γ.os.trans (show s3.os=f.os by rw[<-L])) u26 Γ.hok Γ.bare λb a=>#[(f2 b a).2.2.2.1,(f2 b a).2.1,(f2 b a).2.2.2.2.1,(f2 b a).2.2.2.2.2];obtain⟨mm,hnn,_⟩:=Γ.loc;obtain⟨oC,es,ep,hoC,rC⟩:=id hnn;have K:D<=s3.heap.objs.size:=by rw[s3s];exact Z6 _
   have P:∀{b:Ç} {o:û},f.heap.get? b=À o->b≠s3.heap.objs.size:=λe z=>absurd (Xr e) (aaA.mpr (by rwa[hD,z]))
   have cC:∀x c,X.env.cells.lookup x=À c->c≠s3.heap.objs.size:=λx c e z=>by
    obtain⟨v,o,q1,_⟩:=t.cell x c e;exact P q1 z
   have pC:∀p∈X.pn++Z2,p.1≠s3.heap.objs.size:=λp hp=>P (t.pin p hp).1
   have lC:s3.heap.objs.size≠X.env.locals:=λz=>by
    have:=t.lt;rw[hD,<-z] at this;exact absurd this (aaA.mpr K)
   refine hRR D s3.heap.objs.size s6 B oC mm (I6X.nD λp hp=>?_) hoC hnn (X8 t.sz (by rwa[hD])) lC cC pC q;rcases X2.mp hp with hp|hp
   .exact I6X.pin p (XG _ hp)
   .have:p=(s3.heap.objs.size,oC):=by simpa using hp
    subst this;refine#[hoC,Γ.free,lC,λz=>?_,λv z=>?_]
    .have:=t.ok.oX.mem z;have hz:=t.oX.mem z;obtain⟨_,o,hz,_⟩:=hz;exact P hz rfl
    .have:=rC.1;rw[z] at this;cases this
  .refine cj (T.item (iV X (cN X tn js) ZB s3.heap.objs.size s3 k fp) rfl rfl rfl hc i [] s5 _ B (λ_ _=>False) I5' (O fr5) st5 go) λr s6 ⟨u,hr,h6⟩=>?_;subst hr;refine cj h6 λ_ s7 ⟨x,H7,I7,r7,y7,N,fr7⟩=>?_;have I7':=I7.pinned (O fr7) (T.obj _ _ N);refine cj ((a s3.heap.objs.size s3 k fp).1 _ s7 _ H7 x u _ I7' r7 (step x H7 y7)) λ_ s8 ⟨σ8,H8,I8,Z,q8⟩=>?_
   -- what the Z2 say of the iterator,later
   have Ő:∀{Y':St} {H':Hp} {s':Æ} {α:List V} {l:Nat},Inv (iV X (cN X tn js) ZB s3.heap.objs.size s3 k fp) ([]++sY fp s7.heap) Y' H' s'->l<n->W (i+1) l H' α->BU Y tn js Y' ->
     ∃m,m<n/\∃i Y' H' xs,Inv (iV X (cN X tn js) ZB s3.heap.objs.size s3 k fp) [] Y' H' s'/\R i s'.heap/\(∀b∈fp,H' b=none)/\W i m H' xs/\BU Y tn js Y':=λ{Y' H' s' α l} I' hm w' k'=>by
    refine#[l,hm,i+1,Y',H',α,I'.mJ,T.keep _ _ _ N λb a o e=>(I'.pin (b,o) (XG _ (XG _ (jy a e)))).1,λb a=>?_,w',k'];obtain⟨o,e,d⟩:=T.obj _ _ N b a;exact(I'.pin (b,o) (XG _ (XG _ (jy a e)))).2.1
   refine cj ((a s3.heap.objs.size s3 k fp).2.1 _ s8 σ8 H8 _ I8 q8) λok s9 ⟨H9,I9,q9⟩=>?_;cases ok with
   |false =>
    have q9':∃l,l<n/\W (i+1) l H9 xs:=by
     have z:=q9;rwa[W_ Xx] at z
    obtain⟨l,hm,w9⟩:=q9';exact Ő I9 hm w9 Z
   |true =>
    rw[Xc rfl] at q9 ⊢;refine cj ((a s3.heap.objs.size s3 k fp).2.2 _ s9 σ8 H9 _ I9 q9) λyv s10 ⟨y,H10,I10,r10,hD10,hz,l,hm,w10⟩=>?_
    exact cj (uQ _ s10 σ8 H10 (.ref D) [y] (.ref D) [yv] (λ_ H'=>H'=upd H10 D (.lst (xs++[y]))) I10 rfl (.cons r10 .nil) #[D,xs,y,rfl,rfl,hD10,hz,rfl]) λ_ s11 ⟨_,H11,I11,_,e11⟩=>by
     subst e11;exact Ő I11 hm w10 Z
 exact codeAny_compStart_list loop (T.self _ 0 _ _ _ st4 loop)
def ON(S:ik X ZB tn js)(k:X.calm=Á)(hi:PI X target iter wi)
  (a:∀C s H fp,PG .G target g/\PF .G ifs tt/\PE .G elt te)
  (j:autoParam (∀x,Ü iter X.env x=pure x) zrc):PE X (.ListComp elt [#[target,iter,ifs,0]] ZB pos) (QE wi tn js g tt te):=by
 intro Z2 s Y H Q I h;rw[eval_ListComp];refine Ŝ (use:=none) rfl j (jN (f_ I.ok S)) S.kind S.loc ?_;refine vF (RR:=λd C=>compPost .E X.A X.xe none (EP X Z2 Y Q) d C) S k hi a I h ?_;intro D C s' H' u m c l t h1 h2 i f q;refine#[m,t,λh' n=>#[.ref D,H',?_,rfl,q]];have r:Inv X Z2 Y H' s':=c.nD λp hp=>c.pin p (XG _ (X0 _ hp));exact r.turned (t':=s'.toks) (λb o a e=>n.extBut b o a e) (c.pin (C,u) (XG _ (XG _ .c))).2.1 (ZD (ZD h2)) (.inr h1) i f
def Gv{i:Nat}{y:Ï}{py a:ì}(B:X.N.Nodup)(d:X.N[i]?=À y)(L:Loc X.env.scope y)(t:X.fn y=Á\/X.env.scope.names.lookup y=À .local)(S:ik X ZB tn js)(J:X.calm=Á)(hi:PI X target iter wi)
  (k:∀C s H fp,PG .G target g/\PF .G ifs tt/\PE .G elt te)
  (f:õ (.ListComp elt [#[target,iter,ifs,0]] ZB pos) (À (.Name y py)) a.line X.env=pure Á)
  (G:autoParam (∀x,Ü iter X.env x=pure x) zrc):PS X (.Assign [.Name y py] (.ListComp elt [#[target,iter,ifs,0]] ZB pos) a) (λD Y H=>QE wi tn js g tt te Y H λv H1=>D.nx (Y.set i (À v)) H1):=by
 intro Z2 s Y H r I h;rw[exec_Assign_Name_used _ _ _ _ f];refine W9 (ś (W9 ?_));show Í _ X.A (do let _ <-comprehension (.ListComp elt [#[target,iter,ifs,0]] ZB pos) ZB X.env _ (newList []) Â (Û iter X.env) (À (Ě (.Name y py) X.env))) _ _ s;refine W9 (Zq (Ŝ (use:=À (Ě (.Name y py) X.env)) (Q:=λ_ s'=>SP X Z2 r .next s') rfl G (jN (f_ I.ok S)) S.kind S.loc ?_) (λ_ s' E=>Xd (Xd E)) λ_ _ e=>e);refine vF (RR:=λn C=>compPost .E X.A X.xe (À (Ě (.Name y py) X.env)) (λ_ s'=>SP X Z2 r .next s') n C) S J hi k I h ?_;intro D C s' H' R m P j α h1 h2 z u q;show Í _ X.A (Ě (.Name y py) X.env (.ref D)) _ _ _;refine cj (nZ (pos:=py) B d L t _ s' Y H' (.ref D) (.ref D) (λσ2 H2=>σ2=Y.set i (À (.ref D))/\H2=H') P rfl #[rfl,rfl]) λ_ c ⟨σ2,H2,l,e1,e2⟩=>?_;subst e1 e2;obtain⟨O,F,_⟩:=l.pin (C,R) (XG _ (XG _ .c));refine#[m,α.at' λo e=>?_,λh' K=>?_]
 .rw[j] at e;cases e;exact O
 .have T:Inv X Z2 (Y.set i (À (.ref D))) H2 c:=l.nD λp hp=>l.pin p (XG _ (X0 _ hp));exact#[_,H2,T.turned (t':=c.toks) (λb o k e=>K.extBut b o k e) F h2 (.inr h1) z u,q]
def IJ:k5 X (ċ .Mult) (rI ě λi j=>.int (i*j)):=OW λ_ _ _ _ _ _ _ a q=>mul_int q a
def Bp(_ j:Int):Prop:=j≠0/\j.natAbs.log2<9000
def FW:k5 X (ċ .FloorDiv) (rI Bp λi j=>.int (i.fdiv j)):=OW λ_ _ _ _ _ _ _ a q=>floordiv_int a.1 q (.inl (PyProof.noPylong_of_log2 a.2))
def Oh(lo c:Int)(n:Nat):It:=#[λi _=>i<n,λi H x H'=>H'=H/\x=.int (lo+i*c),λi _=>n<=i]
def zj{P:Ð}{w:Ú}{tg:Ô}(it:Ç)(lo c:Int)(n:Nat):Turn P w K tg (Oh lo c n) [it] it (λi h=>ņ h it (lo+(i:Nat)*c) ((n:Int)-(i:Nat)) c) where
 mem:=by simp
 obj:=λi h st b a=>by
  have e:b=it:=by simpa using a
  subst e
  exact#[_,st,λv z=>by
   have A:Data.fields _=Data.cell v:=z
   cases A]
 keep:=λi h h' st k=>k it .c _ st
 item:=by
  intro X l x y p i Z2 s Y H E I f st j;subst l x y;obtain⟨r,u,F,q,m,g⟩:=f it .c;have W:=Ϩ (prog:=X.prog) (w:=X.w) (I.ok.hd p) it lo c n;refine W.item i s _ _ j st λv h' tk B d kk=>?_;obtain⟨t,rfl⟩:=B;have D:Inv X Z2 Y H {s with heap:=h',toks:=tk}:=I.turned (λb o a e=>kk b o ↑a e) r u q m g;exact#[_,rfl,zA (s:={s with heap:=h',toks:=tk}) (n:="range_iterator") d rfl rfl .a #[.int (lo+i*c),H,D,#[t,rfl],#[rfl,rfl],d,λb a=>(f b a).1]]
 done:=by
  intro X l x y p i Z2 s Y H E I f st j;subst l x y;obtain⟨r,u,F,q,m,g⟩:=f it .c;exact Ŵ (I.ok.hd p) st (by have:n<=i:=j;lia) λh' C=>#[rfl,I.turned (t':=s.toks) (λb o a e=>C b o a e) r u q m g]
 self:=λ_ _ _ _ _ st h=>ŵ st h
def Kr{a b:Int}(ha:-(2^62)<=a)(f:a<2^62)(i:-(2^62)<=b)(d:b<2^62)(h:c≠0)(g:-1000<=c)(e:c<=1000):ķ a b c=Á:=by
 have h1:=rangeSize_toNat a b c;have h2:=rangeSize_toNat_le a b c;unfold ķ;generalize Ó a b c=r at *;simp only[Builtin.Range.rangeFitsLong,XW,Zd,Zv,aaQ];refine#[#[#[#[#[.b,.b],.b,.b],.b,.b],.b,.b],?_];right;split<;>simp only[XW,Zv]<;>lia
variable{tg:Ô}
def DL{Z2:List (Ç×û)}{Y:St}{H:Hp}{s:Æ}{R:It->Hp->Prop}{E:Ä->Æ->Prop}{lo hi:Int}{t u v:Ϝ}{tk:Nat}(I:Inv X Z2 Y H s)(h1:-(2^62)<=lo)(h2:lo<2^62)(f:-(2^62)<=hi)(d:hi<2^62)
  (c0:c≠0) (c1:-1000<=c) (c2:c<=1000)
  (q:R (Oh lo c (Ó lo hi c).toNat) H):Í .E X.A (ı (.ref s.heap.objs.size)) (Rh X Z2 Y tg R) E {s with heap:=s.heap.push {cls:=.type "range",data:=.fields (â [.int lo t,.int hi u,.int c v])},toks:=tk}:=by
 refine ϖ (ϒ ..) (Kr h1 h2 f d c0 c1 c2) ?_;have a:Inv X Z2 Y H {s with heap:=s.heap.push {cls:=.type "range",data:=.fields (â [.int lo t,.int hi u,.int c v])},toks:=tk}:=I.kept λb o e=>Xi _ e
 refine#[(s.heap.push {cls:=.type "range",data:=.fields (â [.int lo t,.int hi u,.int c v])}).objs.size,[(s.heap.push {cls:=.type "range",data:=.fields (â [.int lo t,.int hi u,.int c v])}).objs.size],_,_,H,rfl,
  a.kept (t':=tk) λb o e=>Xi _ e,zj _ lo c (Ó lo hi c).toNat,?_,λb g=>?_,q]
 .have e1:lo+((0:Nat):Int)*c=lo:=by simp
  have e2:(((Ó lo hi c).toNat:Nat):Int)-((0:Nat):Int)=Ó lo hi c:=by have:=rangeSize_toNat lo hi c;lia
  show ņ _ _ (lo+((0:Nat):Int)*c) ((((Ó lo hi c).toNat:Nat):Int)-((0:Nat):Int)) c;rw[e1,e2];exact Xz _ rfl
 .have e:b=(s.heap.push {cls:=.type "range",data:=.fields (â [.int lo t,.int hi u,.int c v])}).objs.size:=by simpa using g
  subst e;exact a.A7 (Xm _) (a.hok.fresh (Xm _))
def O1(ta:TA):TI:=λY H R=>ta Y H λvs H1=>∃i j c:Int,vs=[.int i,.int j,.int c]/\(-(2^62)<=i/\i<2^62/\-(2^62)<=j/\j<2^62)/\(c≠0/\-1000<=c/\c<=1000)/\R (Oh i c (Ó i j c).toNat) H1
def Dc{a b c:Ô}{ta:TA}{p pos:ì}(k:Gl X "range")(m:X.mg "range"=none)(ha:PA X [a,b,c] ta)(he:autoParam (Å [a,b,c] X.env=(Â,Û a X.env)::Å [b,c] X.env) zra)
  (hpl:autoParam ((è pos (Å [b,c] X.env)).any (·.1)=Â) zra):PI X tg (.Call (.Name "range" p) [a,b,c] [] pos) (O1 ta):=by
 intro Z2 s Y H R I h;refine Call_ (hV I k m boot_range (YU (cj (ha pos Z2 s Y H _ I h) λus x ⟨vs,H1,w,n,q1⟩=>?_) he hpl));obtain⟨i,j,c,e,⟨q1,o,u,l⟩,⟨c0,c1,c2⟩,q⟩:=q1;subst e;cases n with
 |cons r d =>
  cases d with
  |cons v d =>
   cases d with
   |cons f d =>
    cases d;obtain⟨t,rfl⟩:=r;obtain⟨t',rfl⟩:=v;obtain⟨g,rfl⟩:=f;exact call_range_3 c0 (DL w q1 o u l c0 c1 c2 q) (.inl (PyProof.noPylong_small .e))
def Bk{lo:Int}{g:TG}{tb:TS}{D:Ends}{Y:St}{H:Hp}(Pv:Nat->St->Hp->Prop)(d:Pv 0 Y H)
  (j:∀i Y H,i<n->Pv i Y H->g (.int (lo+i*c)) Y H λσ2 H2=>tb {D with nx:=Pv (i+1),ct:=Pv (i+1),bk:=D.nx} σ2 H2) (f:∀Y H,Pv n Y H->D.nx Y H):
  ∃W:Nat->Nat->St->Hp->Prop,(∃m,W 0 m Y H)/\∀i m Y H,W i m Y H ->
   ((Oh lo c n).stop i H/\D.nx Y H)\/((Oh lo c n).go i H/\∃N:St->Hp->Prop,(∀Y' H',N Y' H'->∃b,b<m/\W (i+1) b Y' H')/\∀x H',(Oh lo c n).yld i H x H'->g x Y H' λσ2 H2=>tb {D with nx:=N,ct:=N,bk:=D.nx} σ2 H2):=by
 refine#[λi m Y H=>m=n-i/\i<=n/\Pv i Y H,#[n,.c,Yc _,d],?_];rintro i m Y H ⟨rfl,hi,p⟩;by_cases a:i<n
 .refine .inr #[a,Pv (i+1),λY' H' h=>#[n-(i+1),.b,rfl,a,h],λx H' y=>?_];obtain⟨e,y⟩:=y;subst e y;exact j i Y _ a p
 .have e:i=n:=by lia
  subst e;exact .inl #[Xm _,f Y H p]
end
mutual
inductive DR(K:Ã)(H:Hp):V->ý->Prop
 |non:DR K H .non .none
 |bl (b:Bool):DR K H (.bl b) (.bool b)
 |int (i:Int):DR K H (.int i) (.int i)
 |str (x:Ï):DR K H (.str x) (.str x)
 |lst {a:Ç} {xs:List V} {ds:List ý}:dW K H a xs->Dn K H xs ds->DR K H (.ref a) (.list ds)
 |tup {a:Ç} {xs:List V} {ds:List ý}:zE K H a xs->Dn K H xs ds->DR K H (.ref a) (.tuple ds)
inductive Dn(K:Ã)(H:Hp):List V->List ý->Prop
 |nil:Dn K H [] []
 |cons {x:V} {xs:List V} {d:ý} {ds:List ý}:DR K H x d->Dn K H xs ds->Dn K H (x::xs) (d::ds)
end
section
variable{X:Cx}{Z2:List (Ç×û)}{Y:St}{H:Hp}{s:Æ}
mutual
theorem DR.reads(I:Inv X Z2 Y H s):∀{x:V} {d:ý} {u:Ä},DR X.K H x d->RelV x u->∃as,ϫ s.heap u d as
 |_,_,_,.non,r=>by cases r;exact#[_,.none]
 |_,_,_,.bl b,r=>by cases r;exact#[_,.bool b]
 |_,_,_,.int i,r=>by obtain⟨t,rfl⟩:=r;exact#[_,.int i t]
 |_,_,_,.str x,r=>by obtain⟨t,rfl⟩:=r;exact#[_,.str x t]
 |_,_,_,.lst h c,r=>by
  cases r;obtain⟨XV,e,p,_⟩:=I.list h;obtain⟨as,a⟩:=Dn.reads I c e;obtain⟨o,e1,e2,n,e3⟩:=p.isList;exact#[_,.list e1 e2 e3 ↑a]
 |_,_,_,.tup h c,r=>by
  cases r;obtain⟨XV,e,p,_⟩:=I.tuple h;obtain⟨as,a⟩:=Dn.reads I c e;obtain⟨o,e1,e2,n,e3⟩:=p;exact#[_,.tuple e1 e2 e3 ↑a]
theorem Dn.reads(I:Inv X Z2 Y H s):∀{xs:List V} {ds:List ý} {us:List Ä},Dn X.K H xs ds->Vals xs us->∃as,ReadsAll s.heap us ds as
 |_,_,_,.nil,r=>by cases r;exact#[_,.nil]
 |_,_,_,.cons h d,r=>by
  cases r with
  |cons e c =>
   obtain⟨as,a⟩:=DR.reads I h e;obtain⟨bs,b⟩:=Dn.reads I d c;exact#[_,.cons a b]
end
def QW(K:Ã):R2:=λx y H Q=>∃d e,DR K H x d/\DR K H y e/\d.canLay0=Á/\e.canLay0=Á/\d.depth<=60/\Q (.bl (é d e)) H
def Rj(K:Ã):R2:=λx y H Q=>∃d e,DR K H x d/\DR K H y e/\d.canLay0=Á/\e.canLay0=Á/\d.depth<=60/\Q (.bl (!PyData.eqv d e)) H
def M3(i:X.A.units+60<Ę):k5 X (ä .Eq) (QW X.K):=by
 intro Z2 s Y H x y v u Q I g f h;obtain⟨d,e,c,he,c1,c2,dp,q⟩:=h;obtain⟨as,a⟩:=c.reads I g;obtain⟨bs,b⟩:=he.reads I f;exact SeqAt.compareEq_reads a b c1 c2 (by have:=Ϗ d.depth e.depth;lia) #[.bl _,H,I,rfl,q]
def NZ(i:X.A.units+60<Ę):k5 X (ä .NotEq) (Rj X.K):=by
 intro Z2 s Y H x y v u Q I g f h;obtain⟨d,e,c,he,c1,c2,dp,q⟩:=h;obtain⟨as,a⟩:=c.reads I g;obtain⟨bs,b⟩:=he.reads I f;exact SeqAt.compareNe_reads a b c1 c2 (by have:=Ϗ d.depth e.depth;lia) #[.bl _,H,I,rfl,q]
end
end L2
namespace L2.EP
open PySem PySem.Spec PyProof.Rows
variable{i j lo:Int}{H H' H0:Hp}{c b c':Bool}{p C:Ç}{K:Ã}{n m:Nat}{v:V}{x y:Ï}{X:Cx}{xs:List V}{s:Æ}{e:Ô}{op:ŕ}{Y:St}{es:List Ô}{ps:ì}{rest:List Ñ}{tn:List Ï}{js:List Nat}{fp:List Ç}
open Classical in
def off(H:Hp)(O:Ç->Prop):Hp:=λb=>if O b then none else H b
def aS{O:Ç->Prop}{b:Ç}(h:¬O b):off H O b=H b:=by unfold off;rw[W_ h]
def nJ{O:Ç->Prop}{b:Ç}(h:O b):off H O b=none:=by unfold off;rw[Xc h]
def dn{O:Ç->Prop}{b:Ç}{o:HO}(h:off H O b=À o):¬O b/\H b=À o:=by
 by_cases a:O b
 .rw[nJ a] at h;cases h
 .rw[aS a] at h;exact#[a,h]
def ar(H:Hp)(O:Ç->Prop):aG .F H:=λ_ _ h=>(dn h).2
def ah{O:Ç->Prop}(s:aG H H'):aG .F (off H' O):=λb o h=>by
 obtain⟨h1,h2⟩:=dn h;rw[aS h1];exact s _ _ h2
def mR{O a:Ç->Prop}(l:∀b,a b->O b):aG .F (off H a):=λb o h=>by
 obtain⟨h1,h2⟩:=dn h;rwa[aS λz=>h1 (l _ z)]
def Jy(H:Hp):off H (λ_=>False)=H:=funext λ_=>aS λz=>z
def qX{O:Ç->Prop}{o:HO}(h:O p):off (upd H p o) O=off H O:=funext λb=>by
 by_cases a:O b
 .rw[nJ a,nJ a]
 .rw[aS a,aS a,aC];rintro rfl;exact a h
def cf(h:H p=none)(o:HO):aG H (upd H p o):=λb u q=>by rwa[aC (bZ q h)]
def aG.rd{a:Ç}{u:HO}(e:aG H H')(h:Rd H a u):Rd H' a u:=by
 rcases h with h|⟨o,h⟩
 .exact .inl (e _ _ h)
 .exact .inr #[o,e _ _ h]
def Rt(H:Hp)(p:Ç)(xs:List V):Prop:=H p=À (.tup xs)\/∃_:Empty,H p=À (.tup xs)
def Rt.pl(h:Rt H p xs):H p=À (.tup xs):=by
 rcases h with h|⟨o,h⟩
 .exact h
 .exact h
def Rt.rd(h:Rt H p xs):Rd H p (.tup xs):=.inl h.pl
def aG.rt{a:Ç}{u:List V}(e:aG H H')(h:Rt H a u):Rt H' a u:=.inl (e _ _ h.pl)
def xu(e:aG H H')(h:Rt H p xs):zE K H' p xs:=.inl (aG.rt e h).rd
inductive Nn where
 |any
 |new (H0:Hp)
 |set (D:Ç->Prop)
variable{N:Nn}
inductive Mt where
 |inl (xs:List V)
 |inr (YP:List (Key×V))
 |inT (YP:List (List Key×V))
 |inB (YP:List ((Int×Bool)×V))
noncomputable def mo:Mt->HO
 |.inl xs=>.lst xs
 |.inr YP=>.dK YP
 |.inT YP=>.dT YP
 |.inB YP=>.dB YP
def Mo(K:Ã)(H:Hp)(p:Ç):Mt->Prop
 |.inl xs=>dW K H p xs
 |.inr YP=>Rd H p (.dK YP)
 |.inT YP=>Rd H p (.dT YP)
 |.inB YP=>Rd H p (.dB YP)
def Mo.mono{o:Mt}(s:aG H H')(h:Mo K H p o):Mo K H' p o:=by
 cases o with
 |inl xs=>exact s.seq h
 |inr YP=>exact aG.rd s h
 |inT YP=>exact aG.rd s h
 |inB YP=>exact aG.rd s h
def Mo.of{K:Ã}{H:Hp}{p:Ç}{o:Mt}(h:H p=À (mo o)):Mo K H p o:=by
 cases o with
 |inl xs=>exact dW.of h
 |inr YP=>exact .inl h
 |inT YP=>exact .inl h
 |inB YP=>exact .inl h
def Nn.has:Nn->Hp->Ç->Mt->Prop
 |.any,_,_,_=>True
 |.new H0,H,p,xs=>H0 p=none/\H p=À (mo xs)
 |.set D,H,p,xs=>D p/\H p=À (mo xs)
def Nn.mono{xs:Mt}(s:aG H H')(h:N.has H p xs):N.has H' p xs:=by
 cases N with
 |any=>exact É
 |new H0=>exact#[h.1,s _ _ h.2]
 |set D=>exact#[h.1,s _ _ h.2]
class Py(M:Type) where
 rp:Ã->Nn->Hp->V->M->Prop
 tr:∀{K:Ã} {N N':Nn} {H H':Hp} {v:V} {a:M},(∀p (o:Mt),Mo K H p o->N.has H p o->Mo K H' p o/\N'.has H' p o)->(∀p xs,Rt H p xs->Rt H' p xs)->rp K N H v a->rp K N' H' v a
def aw{M:Type}[Py M]{a:M}(s:aG H H')(h:Py.rp K N H v a):Py.rp K N H' v a :=
 Py.tr (λ_ _ q n=>#[Mo.mono s q,Nn.mono s n]) (λ_ _ q=>aG.rt s q) h
def bh{M:Type}[Py M]{N':Nn}{a:M}(w:∀p (o:Mt),N.has H p o->N'.has H p o)(h:Py.rp K N H v a):Py.rp K N' H v a :=
 Py.tr (λ_ _ q n=>#[q,w _ _ n]) (λ_ _ q=>q) h
noncomputable instance:Py Int where
 rp _ _ _ v a:=v=.int a
 tr _ _ h:=h
noncomputable instance:Py Bool where
 rp _ _ _ v a:=v=.bl a
 tr _ _ h:=h
noncomputable instance:Py Unit where
 rp _ _ _ v _:=v=.non
 tr _ _ h:=h
noncomputable instance{M:Type}[Py M]:Py (Option M) where
 rp K N H v a:=match a with|none=>v=.non|some b=>Py.rp K N H v b
 tr {K N N' H H' v a} l t h:=by
  cases a with
  |none=>exact h
  |some b=>exact Py.tr (M:=M) l t h
noncomputable instance{M β:Type}[Py M][Py β]:Py (M×β) where
 rp K N H v a:=∃p x y,v=.ref p/\Rt H p [x,y]/\Py.rp K N H x a.1/\Py.rp K N H y a.2
 tr l t h:=by
  obtain⟨p,x,y,e,s,h1,h2⟩:=h;exact#[p,x,y,e,t _ _ s,Py.tr l t h1,Py.tr l t h2]
theorem bM{M β:Type}{F G:M->β->Prop}(f:∀a b,F a b->G a b):∀{d:List M} {c:List β},Ý F d c->Ý G d c
 |_,_,.nil=>.nil
 |_,_,.cons h t=>.cons (f _ _ h) (bM f t)
theorem bE{M β:Type}{F:M->β->Prop}:∀{b:List M} {a:List β},Ý F b a->b.length=a.length
 |_,_,.nil=>rfl
 |_,_,.cons _ t=>congrArg (·+1) (bE t)
theorem ig{M β:Type}{F:M->β->Prop}:∀{d:List M} {c:List β} {i:Nat} {b:β},Ý F d c->c[i]?=À b->∃a,d[i]?=À a/\F a b
 |_,_,_,_,.nil,e=>by simp at e
 |_,_,0,_,.cons h _,e=>by simp at e;subst e;exact#[_,rfl,h]
 |_,_,i+1,_,.cons _ t,e=>by
  obtain⟨a,h1,h2⟩:=ig (i:=i) t ↑e;exact#[a,↑h1,h2]
theorem rA{M β:Type}{F:M->β->Prop}:∀{d:List M} {c:List β} {i:Nat} {a:M},Ý F d c->d[i]?=À a->∃b,c[i]?=À b/\F a b
 |_,_,_,_,.nil,e=>by simp at e
 |_,_,0,_,.cons h _,e=>by simp at e;subst e;exact#[_,rfl,h]
 |_,_,i+1,_,.cons _ t,e=>by
  obtain⟨a,h1,h2⟩:=rA (i:=i) t ↑e;exact#[a,↑h1,h2]
theorem xb{M β:Type}{F:M->β->Prop}:∀{b m₁:List M} {a m₂:List β},Ý F b a->Ý F m₁ m₂->Ý F (b++m₁) (a++m₂)
 |_,_,_,_,.nil,h=>h
 |_,_,_,_,.cons h t,h'=>.cons h (xb t h')
theorem Gy{M β:Type}{F:M->β->Prop}{a:M}{b:β}(f:F a b):∀{d:List M} {c:List β} (i:Nat),Ý F d c->Ý F (d.set i a) (c.set i b)
 |_,_,_,.nil=>.nil
 |_,_,0,.cons _ t=>.cons f t
 |_,_,i+1,.cons h t=>.cons h (Gy f i t)
theorem xD{M β:Type}{F:M->β->Prop}:∀{b:List M} {a:List β} (n:Nat),Ý F b a->Ý F (b.drop n) (a.drop n)
 |_,_,0,h=>h
 |_,_,_+1,.nil=>.nil
 |_,_,n+1,.cons _ t=>xD n t
theorem xx{M β:Type}{F:M->β->Prop}:∀{b:List M} {a:List β} (n:Nat),Ý F b a->Ý F (b.take n) (a.take n)
 |_,_,0,_=>.nil
 |_,_,_+1,.nil=>.nil
 |_,_,n+1,.cons h t=>.cons h (xx n t)
noncomputable instance{M:Type}[Py M]:Py (List M) where
 rp K N H v a:=∃p xs,v=.ref p/\dW K H p xs/\N.has H p (.inl xs)/\Ý (λx b=>Py.rp K N H x b) xs a
 tr l t h:=by
  obtain⟨p,xs,e,s,n,r⟩:=h;obtain⟨s',c⟩:=l _ (.inl xs) s n;exact#[p,xs,e,s',c,bM (λ_ _ q=>Py.tr l t q) r]
class PyD(M:Type) extends Py M where
 dat:M->ý
 dr:∀{K:Ã} {N:Nn} {H:Hp} {v:V} {a:M},Py.rp K N H v a->DR K H v (dat a)
 lay:∀a,(dat a).canLay0=Á
 dep:Nat
 depth:∀a,(dat a).depth<=dep
 eqv:∀a b,é (dat a) (dat b)=Á↔a=b
noncomputable instance:PyD Int where
 dat:=.int
 dr h:=by cases h;exact .int _
 lay _:=rfl
 dep:=0
 depth _:=Xm _
 eqv a b:=by simp[é]
noncomputable instance{M β:Type}[PyD M][PyD β]:PyD (M×β) where
 dat a:=.tuple [PyD.dat a.1,PyD.dat a.2]
 dr h:=by
  obtain⟨p,x,y,e,s,h1,h2⟩:=h;subst e;exact .tup (.inl s.rd) (.cons (PyD.dr h1) (.cons (PyD.dr h2) .nil))
 lay a:=by
  show ë [PyD.dat a.1,PyD.dat a.2]=Á;simp[ë,PyD.lay]
 dep:=max (PyD.dep M) (PyD.dep β)+1
 depth a:=by
  have h1:=PyD.depth a.1;have h2:=PyD.depth a.2;show ĕ [PyD.dat a.1,PyD.dat a.2]+1<=_;simp only[ĕ];lia
 eqv a b:=by
  rw[é];simp only[đ,Bool.and_true,XW,PyD.eqv];exact#[λh=>abZ h.1 h.2,λh=>by subst h;exact#[rfl,rfl]]
theorem sM{M:Type}[PyD M]{K:Ã}{N:Nn}{H:Hp}:∀{xs:List V} {as:List M},Ý (λx b=>Py.rp K N H x b) xs as->Dn K H xs (as.map PyD.dat)
 |_,_,.nil=>.nil
 |_,_,.cons h t=>.cons (PyD.dr h) (sM t)
theorem t9{M:Type}[PyD M]:∀as:List M,ë (as.map PyD.dat)=Á
 |[]=>rfl
 |a::as=>by simp[ë,PyD.lay,t9 as]
theorem yE{M:Type}[PyD M]:∀as:List M,ĕ (as.map PyD.dat)<=PyD.dep M
 |[]=>Yc _
 |a::as=>by
  have h1:=PyD.depth a;have h2:=yE as;simp only[XQ,ĕ];lia
theorem yZ{M:Type}[PyD M]:∀as bs:List M,đ (as.map PyD.dat) (bs.map PyD.dat)=Á↔as=bs
 |[],[]=>by simp[đ]
 |[],_::_=>by simp[đ]
 |_::_,[]=>by simp[đ]
 |a::as,b::bs=>by simp[đ,PyD.eqv,yZ as bs]
noncomputable instance{M:Type}[PyD M]:PyD (List M) where
 dat a:=.list (a.map PyD.dat)
 dr h:=by
  obtain⟨p,xs,e,s,n,r⟩:=h;subst e;exact .lst s (sM r)
 lay a:=t9 a
 dep:=PyD.dep M+1
 depth a:=by
  show ĕ (a.map PyD.dat)+1<=_;have:=yE a;lia
 eqv a b:=by rw[é];exact yZ a b
inductive Bd:Type 1
 |val {M:Type} [Py M] (b:Bool) (a:M):Bd
 |own {M:Type} [Py M] (b:Bool) (as:List M):Bd
 |dpo {M:Type} [Py M] (a:M):Bd
variable{g:Bd}
abbrev aI:=List (Option Bd)
def Nf(H0:Hp):Bool->Nn
 |true=>.new H0
 |false=>.any
def Nf.wk{xs:Mt}(h:H0 p=none)(a:H p=À (mo xs)):(Nf H0 b).has H p xs:=by cases b;exact É;exact#[h,a]
def Nf.le{b':Bool}{xs:Mt}(l:b'=Á->b=Á)(h:(Nf H0 b).has H p xs):(Nf H0 b').has H p xs:=by
 cases b' with
 |false=>exact É
 |true=>rwa[l rfl] at h
def Bd.ok(K:Ã)(H0:Hp)(O:Ç->Prop)(H:Hp)(v:V):Bd->Prop
 |@Bd.val _ _ b a=>Py.rp K (Nf H0 b) .F v a
 |@Bd.own _ _ _ _=>False
 |@Bd.dpo _ _ _=>False
def Bd.AR(K:Ã)(H0:Hp)(O:Ç->Prop)(H:Hp)(D:Ç->Prop)(v:V):Bd->Prop
 |@Bd.val _ _ _ _=>False
 |@Bd.own _ _ b as=>∃p xs,v=.ref p/\D p/\H p=À (.lst xs)/\Ý (λx a=>Py.rp K (Nf H0 b) .F x a) xs as
 |@Bd.dpo _ _ a=>Py.rp K (.set D) H v a
def Bd.g9:Bd->Prop
 |@Bd.val _ _ _ _=>False
 |@Bd.own _ _ _ _=>True
 |@Bd.dpo _ _ _=>True
structure dM(K:Ã)(H0:Hp)(F O:Ç->Prop)(U:aI)(Y:St)(H:Hp):Prop where
 same:aG H0 H
 fo:∀p,F p->O p
 f0:∀p,F p->∃xs:Mt,H0 p=À (mo xs)
 own:∀p,O p->∃xs:Mt,H p=À (mo xs)
 len:Y.length=U.length
 at_:∀(i:Nat) (g:Bd),U[i]?=À (À g)->¬g.g9->∃v,Y[i]?=À (À v)/\g.ok K H0 O H v
 dis:∃D:Nat->Ç->Prop,(∀i j p,D i p->D j p->i=j)/\(∀i p,D i p->O p/\H0 p=none)/\∀(i:Nat) (g:Bd),U[i]?=À (À g)->g.g9->∃v,Y[i]?=À (À v)/\g.AR K H0 O H (D i) v
section
variable{K:Ã}{H0:Hp}{F O:Ç->Prop}{U:aI}{Y:St}{H H':Hp}
def Bd.go(s:aG H H')(h:g.ok K H0 O H v):g.ok K H0 O H' v:=by
 cases g with
 |val b a=>exact aw (ah s) h
 |own b as=>exact h
 |dpo a=>exact h
def Bd.PQ{D j:Ç->Prop}(h:g.AR K H0 O H D v)(i:∀p (xs:Mt),D p->H p=À (mo xs)->H' p=À (mo xs))(d:aG .F (off H' j))(m:∀p,D p->O p)(f:∀p,O p->∃xs:Mt,H p=À (mo xs)):g.AR K H0 j H' D v:=by
 cases g with
 |val b a=>exact h
 |own b as =>
  obtain⟨p,xs,e,o,q,r⟩:=h;exact#[p,xs,e,o,i p (.inl xs) o q,bM (λ_ _ z=>aw d z) r]
 |dpo a =>
  have h':Py.rp K (.set D) H v a:=h;refine Py.tr (M:=_) (a:=a) (λp xs q n=>?_) (λp xs q=>?_) h'
  .obtain⟨k,l⟩:=n;have h2:=i p xs k l;exact#[Mo.of h2,k,h2]
  .have hp:∀u,(H p=À (.tup u)\/∃o,H p=À (.frz o (.tup u)))->¬O p:=λu z hp=>by
    obtain⟨ys,w⟩:=f p hp;rcases z with z|⟨o,z⟩
    .rw[z] at w;rcases ys with ys|ys|ys<;>cases w
    .rw[z] at w;rcases ys with ys|ys|ys<;>cases w
   have c:=hp xs q.rd;rcases q with q|⟨o,q⟩
   .exact .inl ((ar _ _) _ _ (d _ _ (by rwa[aS c])))
   .exact .inr #[o,(ar _ _) _ _ (d _ _ (by rwa[aS c]))]
def dM.go(S:dM K H0 F O U Y H)(s:aG H H'):dM K H0 F O U Y H' where
 same:=S.same.trans s
 fo:=S.fo
 f0:=S.f0
 own:=λp h=>let #[xs,q]:=S.own p h;#[xs,s _ _ q]
 len:=S.len
 at_:=λi g e n=>let #[v,q,r]:=S.at_ i g e n;#[v,q,Bd.go s r]
 dis:=by
  obtain⟨D,c,a,b⟩:=S.dis;refine#[D,c,a,λi g e o=>?_];obtain⟨v,q,r⟩:=b i g e o;exact#[v,q,Bd.PQ r (λp xs _ z=>s _ _ z) (ah s) (λp z=>(a i p z).1) S.own]
def dM.iq(S:dM K H0 F O U Y H)(h:H p=none):H0 p=none:=S.same.free h
def dM.mF(S:dM K H0 F O U Y H)(h:H p=none):¬O p:=λo=>by
 obtain⟨xs,q⟩:=S.own p o;rw[h] at q;cases q
def dM.back{M:Type}[Py M]{a:M}(S:dM K H0 F O U Y H)(h:Py.rp K (Nf H b) (off H' O) v a):Py.rp K (Nf H0 b) (off H' O) v a :=
 bh (λp xs n=>by cases b with|true=>exact#[S.iq n.1,n.2]|false=>exact É) h
end
theorem get_set_ne.{u}{M:Type u}{l:List M}{i j:Nat}{a:M}(h:j≠i):(l.set i a)[j]?=l[j]?:=by
 rw[Zp (ZD h)]
theorem get_set_eq.{u}{M:Type u}{l:List M}{i:Nat}{a:M}(h:i<l.length):(l.set i a)[i]?=À a:=by
 rw[ZI h]
theorem get_set_some.{u}{M:Type u}{l:List (Option M)}{i:Nat}{a x:M}(h:(l.set i (À a))[i]?=À (À x)):i<l.length/\a=x:=by
 by_cases b:i<l.length
 .rw[get_set_eq b] at h;injection h with h;injection h with h;exact#[b,h]
 .rw[Y7 (by rw[Yr];lia)] at h;cases h
def dM.set{K:Ã}{H0:Hp}{F O:Ç->Prop}{U:aI}{Y:St}{H:Hp}{M:Type}[Py M]{b:Bool}{a:M}{v:V}{i:Nat}(S:dM K H0 F O U Y H)(r:Py.rp K (Nf H0 b) .F v a):
  dM K H0 F O (U.set i (À (.val b a))) (Y.set i (À v)) H where
 same:=S.same
 fo:=S.fo
 f0:=S.f0
 own:=S.own
 len:=by rw[Yr,Yr];exact S.len
 at_:=λj g e n=>by
  by_cases c:j=i
  .subst c;obtain⟨h,d⟩:=get_set_some e;subst d;exact#[v,get_set_eq (by rwa[S.len]),r]
  .rw[get_set_ne c] at e;obtain⟨w,q,z⟩:=S.at_ j g e n;exact#[w,by rwa[get_set_ne c],z]
 dis:=by
  obtain⟨D,l,f,k⟩:=S.dis;refine#[D,l,f,λj g e o=>?_]
  have c:j≠i:=by
   rintro rfl;obtain⟨_,d⟩:=get_set_some e;subst d;exact o
  rw[get_set_ne c] at e;obtain⟨w,q,z⟩:=k j g e o;exact#[w,by rwa[get_set_ne c],z]
def tV{M:Type}[Py M](K:Ã)(U:aI)(b:Bool)(a:M):TE:=λY H Q=>∃H0 F O,dM K H0 F O U Y H/\∀v H',aG H H'->Py.rp K (Nf H0 b) (off H' O) v a->Q v H'
@[irreducible] def E{M:Type}[Py M](X:Cx)(U:aI)(e:Ô)(b:Bool)(a:M):Prop:=PE X e (tV X.K U b a)
def N2(K:Ã)(U:aI)(c:Bool):TT:=λY H Q=>∃H0 F O,dM K H0 F O U Y H/\∀H',aG H H'->Q c H'
@[irreducible] def T(X:Cx)(U:aI)(e:Ô)(c:Bool):Prop:=PT X e (N2 X.K U c)
@[irreducible] def TW(X:Cx)(U:aI)(e:Ô)(c:Bool):Prop:=PW X e (N2 X.K U c)
def aJ{t t':TE}(h:PE X e t)(w:∀Y H Q,t' Y H Q->t Y H Q):PE X e t':=λZ2 s Y H Q I q=>h Z2 s Y H Q I (w _ _ _ q)
def sQ{t t':TT}(h:PT X e t)(w:∀Y H Q,t' Y H Q->t Y H Q):PT X e t':=λZ2 s Y H Q I q=>h Z2 s Y H Q I (w _ _ _ q)
def BF{t t':TT}(h:PW X e t)(w:∀Y H Q,t' Y H Q->t Y H Q):PW X e t':=λa Z2 s Y H Q I q=>h a Z2 s Y H Q I (w _ _ _ q)
section
variable{X:Cx}{U:aI}{M β γ:Type}[Py M][Py β][Py γ]{e e1 e2 e3:Ô}{b b1 b2 b3:Bool}{pos:ì}
def ae(i:Nat){a:M}(h:autoParam (U[i]?=À (À (.val b a))) zra)(e:autoParam (X.N[i]?=À x) zra)(f:autoParam (HV X.env.scope x) zre)
  (d:autoParam ((x==("__debug__":Ï))=Â) zrb) (c:autoParam ((x==("__classdict__":Ï))=Â) zrb):E X U (.Name x pos) b a:=by
 stop
  exact aJ (pv i e f d c) λY H Q ⟨H0,F,O,S,q⟩=>by
    obtain⟨v,h1,h2⟩:=S.at_ i _ h (λz=>z);exact#[v,h1,q v H (aG.refl _) h2]
def af{j:Nat}:E X U (.Constant (.int i) j pos) Á i:=by stop exact aJ NU λY H Q ⟨H0,F,O,S,q⟩=>q _ H (aG.refl _) rfl
def j4{i:Bool}{j:Nat}:E X U (.Constant (.bool i) j pos) Á i:=by stop exact aJ Ow λY H Q ⟨H0,F,O,S,q⟩=>q _ H (aG.refl _) rfl
def kC{j:Nat}:E X U (.Constant .none j pos) Á (none:Option M):=by stop exact aJ Mv λY H Q ⟨H0,F,O,S,q⟩=>q _ H (aG.refl _) rfl
theorem E.some{a:M}(h:E X U e b a):E X U e b (À a):=by stop exact aJ h λY H Q ⟨H0,F,O,S,q⟩=>#[H0,F,O,S,λv H' s r=>q v H' s r]
def Aa{op:Operator}{C:Int->Int->Prop}{g:Int->Int->Int}(d:k5 X (ċ op) (rI C λi j=>.int (g i j)))(ha:E X U e1 b1 i)(h:E X U e2 b2 j)(e:C i j):E X U (.BinOp e1 op e2 pos) Á (g i j):=by stop exact aJ (yo d ha h) λY H Q ⟨H0,F,O,S,q⟩=>#[H0,F,O,S,λv H1 a f=>#[H0,F,O,S.go a,λw H2 c b=>#[i,j,f,b,e,q _ H2 (a.trans c) rfl]]]
def bQ(ha:E X U e1 b1 i)(c:E X U e2 b2 j):E X U (.BinOp e1 .Add e2 pos) Á (i+j):=by stop exact Aa (C:=λ_ _=>True) (λZ2 s Y H x y v u Q I a b ⟨i,j,h1,h2,_,q⟩=>Nw Z2 s Y H x y v u Q I a b #[i,j,h1,h2,q]) ha c É
def eO(ha:E X U e1 b1 i)(c:E X U e2 b2 j):E X U (.BinOp e1 .Sub e2 pos) Á (i-j):=by stop exact Aa (C:=λ_ _=>True) (λZ2 s Y H x y v u Q I a b ⟨i,j,h1,h2,_,q⟩=>LX Z2 s Y H x y v u Q I a b #[i,j,h1,h2,q]) ha c É
def aE(ha:E X U e1 b1 i)(a:E X U e2 b2 j)(b:ě i j):E X U (.BinOp e1 .Mult e2 pos) Á (i*j):=by stop exact Aa IJ ha a b
def a8(ha:E X U e1 b1 i)(a:E X U e2 b2 j)(b:Bp i j):E X U (.BinOp e1 .FloorDiv e2 pos) Á (i.fdiv j):=by stop exact Aa FW ha a b
def aR(ha:E X U e1 b1 i)(a:E X U e2 b2 j)(b:j≠0):E X U (.BinOp e1 .Mod e2 pos) Á (i.fmod j):=by stop exact Aa Kn ha a b
def Pd(ha:E X U e1 b1 i)(a:E X U e2 b2 j)(b:EW i j):E X U (.BinOp e1 .Pow e2 pos) Á (i^j.toNat):=by stop exact Aa MQ ha a b
def du(ha:E X U e1 b1 i):E X U (.UnaryOp .USub e1 pos) Á (-i):=by stop exact aJ (Qf LL ha) λY H Q ⟨H0,F,O,S,q⟩=>#[H0,F,O,S,λv H1 a b=>#[i,b,q _ H1 a rfl]]
def CV(X:Cx)(op:ŕ)(x:M)(y:β)(c:Bool):Prop:=∃r,k5 X (ä op) r/\∀(N N':Nn) (H:Hp) (u v:V) (Q:VK),Py.rp X.K N H u x->Py.rp X.K N' H v y->Q (.bl c) H->r u v H Q
def CH{g:Int->Int->Bool}(a:k5 X (ä op) (J8 λi j=>.bl (g i j)))(i j:Int):CV X op i j (g i j):=#[_,a,λN N' H u v Q h1 h2 q=>#[i,j,h1,h2,q]]
def gi:CV X .Lt i j (decide (i<j)):=CH Pp i j
def HP:CV X .LtE i j (decide (i<=j)):=CH Qi i j
def fD:CV X .Gt i j (decide (j<i)):=CH PY i j
def FG:CV X .GtE i j (decide (j<=i)):=CH P5 i j
def ax:CV X .Eq i j (decide (i=j)):=#[_,PJ,λN N' H u v Q h1 h2 q=>by
 cases h1;cases h2;refine#[rfl,?_]
 rwa[rF,aav]]
def gD:CV X .NotEq i j (!decide (i=j)):=#[_,Po,λN N' H u v Q h1 h2 q=>by
 cases h1;cases h2;refine#[rfl,?_]
 rwa[rF,aav]]
def Kz{M:Type}[PyD M][DecidableEq M]{x y:M}(a:X.A.units+60<Ę)(b:autoParam (PyD.dep M<=60) zrb):CV X .Eq x y (decide (x=y)):=#[_,M3 a,λN N' H u v Q h1 h2 q=>by
 refine#[_,_,PyD.dr h1,PyD.dr h2,PyD.lay _,PyD.lay _,X8 (PyD.depth _) b,?_]
 have e:é (PyD.dat x) (PyD.dat y)=decide (x=y):=by
  by_cases h:x=y
  .rw[XI h];exact(PyD.eqv x y).mpr h
  .rw[XH h];exact abF.mpr λz=>h ((PyD.eqv x y).mp z)
 rwa[e]]
def Pa{M:Type}[PyD M][DecidableEq M]{x y:M}(a:X.A.units+60<Ę)(b:autoParam (PyD.dep M<=60) zrb):CV X .NotEq x y (!decide (x=y)):=#[_,NZ a,λN N' H u v Q h1 h2 q=>by
 refine#[_,_,PyD.dr h1,PyD.dr h2,PyD.lay _,PyD.lay _,X8 (PyD.depth _) b,?_]
 have e:é (PyD.dat x) (PyD.dat y)=decide (x=y):=by
  by_cases h:x=y
  .rw[XI h];exact(PyD.eqv x y).mpr h
  .rw[XH h];exact abF.mpr λz=>h ((PyD.eqv x y).mp z)
 rwa[e]]
def fE{x:M}{y:β}(h:CV X op x y c)(ha:E X U e1 b1 x)(j:E X U e2 b2 y)(g:ô op e2=Â:=by first|exact FV _|rfl):E X U (.Compare e1 [op] [e2] pos) Á c:=by
 stop
  obtain⟨r,f,e⟩:=h
  exact aJ (Kv f ha j g) λY H Q ⟨H0,F,O,S,q⟩=>#[H0,F,O,S,λv H1 a i=>#[H0,F,O,S.go a,λw H2 b d =>
   e _ _ H2 v w _ (aw ((ah b).trans (ar _ _)) i) (aw (ar _ _) d) (q _ H2 (a.trans b) rfl)]]
def av{x:M}{y:β}(h:CV X op x y c)(ha:E X U e1 b1 x)(j:E X U e2 b2 y)(g:ô op e2=Â:=by first|exact FV _|rfl):T X U (.Compare e1 [op] [e2] pos) c:=by
 stop
  obtain⟨r,f,e⟩:=h
  exact sQ (J3 f ha j g) λY H Q ⟨H0,F,O,S,q⟩=>#[H0,F,O,S,λv H1 a i=>#[H0,F,O,S.go a,λw H2 b d =>
   e _ _ H2 v w _ (aw ((ah b).trans (ar _ _)) i) (aw (ar _ _) d) #[c,rfl,q H2 (a.trans b)]]]
def Lg{x:Option M}{j:Nat}{p:ì}(ha:E X U e1 b1 x)(e:∀(K:Ã) (N:Nn) (H:Hp) (a:M),¬Py.rp K N H .non a):E X U (.Compare e1 [.Is] [.Constant .none j p] pos) Á x.isNone:=by
 stop
  exact aJ (Fb (EZ ha)) λY H Q ⟨H0,F,O,S,q⟩=>#[H0,F,O,S,λv H1 c b=>by
    have:=q (.bl (decide (v=.non))) H1 c;refine this ?_;cases x with
    |none=>cases b;rfl
    |some a =>
     have d:v≠.non:=by rintro rfl;exact e _ _ _ a b
     show V.bl (decide (v=.non))=.bl Â
     rw[XH d]]
def uU{x:Option M}{j:Nat}{p:ì}(ha:E X U e1 b1 x)(f:∀(K:Ã) (N:Nn) (H:Hp) (a:M),¬Py.rp K N H .non a):T X U (.Compare e1 [.Is] [.Constant .none j p] pos) x.isNone:=by
 stop
  exact sQ (Hc (EZ ha)) λY H Q ⟨H0,F,O,S,q⟩=>#[H0,F,O,S,λv H1 c b=>by
    refine#[decide (v=.non),rfl,?_]
    have e:decide (v=.non)=x.isNone:=by
     cases x with
     |none=>cases b;rfl
     |some a =>
      have d:v≠.non:=by rintro rfl;exact f _ _ _ a b
      rw[XH d];rfl
    rw[e];exact q H1 c]
def eT(h:E X U e b c)(he:autoParam (∀whole,Ÿ e X.env whole=(do let v <-whole;Ϧ e.pos;Ĥ [v] (truthy v))) zrc):T X U e c:=by stop exact sQ (Na h he) λY H Q ⟨H0,F,O,S,q⟩=>#[H0,F,O,S,λv H1 a d=>#[c,d,q H1 a]]
def j0(h:T X U e c):T X U (.UnaryOp .Not e pos) (!c):=by stop exact sQ (L7 h) λY H Q ⟨H0,F,O,S,q⟩=>#[H0,F,O,S,λH1 a=>q H1 a]
variable{rest:List Ô}
def jt(h:T X U e c):TW X U (.BoolOp .And [e] pos) c:=by stop exact JD h
def pW(h:T X U e c):TW X U (.BoolOp .Or [e] pos) c:=by stop exact Oa h
def KO:PW X e (λ_ _ _=>False):=λ_ _ _ _ _ _ _ h=>h.elim
def qe:PE X e (λ_ _ _=>False):=λ_ _ _ _ _ _ h=>h.elim
def kX(h:T X U e1 c)(h':c=Á->TW X U (.BoolOp .And (e2::rest) pos) c'):TW X U (.BoolOp .And (e1::e2::rest) pos) (c&&c'):=by
 stop
  cases c with
  |true=>exact BF (Gi h (h' rfl)) λY H Q ⟨H0,F,O,S,q⟩=>#[H0,F,O,S,λH1 a=>uh #[H0,F,O,S.go a,λH2 b=>q H2 (a.trans b)]]
  |false=>exact BF (Gi h KO) λY H Q ⟨H0,F,O,S,q⟩=>#[H0,F,O,S,λH1 a=>uv (q H1 a)]
def vq(h:T X U e1 c)(h':c=Â->TW X U (.BoolOp .Or (e2::rest) pos) c'):TW X U (.BoolOp .Or (e1::e2::rest) pos) (c || c'):=by
 stop
  cases c with
  |false=>exact BF (KH h (h' rfl)) λY H Q ⟨H0,F,O,S,q⟩=>#[H0,F,O,S,λH1 a=>uv #[H0,F,O,S.go a,λH2 b=>q H2 (a.trans b)]]
  |true=>exact BF (KH h KO) λY H Q ⟨H0,F,O,S,q⟩=>#[H0,F,O,S,λH1 a=>uh (q H1 a)]
def TW.t(h:TW X U e c):T X U e c:=by stop exact h.pt
def jX{op:BoolOp}{a:M}(h:E X U e b a):E X U (.BoolOp op [e] pos) b a:=by stop exact NB h
def qq(h:E X U e1 b1 c)(h':c=Á->E X U (.BoolOp .And (e2::rest) pos) b2 c'):E X U (.BoolOp .And (e1::e2::rest) pos) Á (c&&c'):=by
 stop
  cases c with
  |true=>exact aJ (D6 h (h' rfl)) λY H Q ⟨H0,F,O,S,q⟩=>#[H0,F,O,S,λv H1 a b=>#[Á,b,uh #[H0,F,O,S.go a,λw H2 e d=>q w H2 (a.trans e) d]]]
  |false=>exact aJ (D6 h qe) λY H Q ⟨H0,F,O,S,q⟩=>#[H0,F,O,S,λv H1 a b=>#[Â,b,uv (q _ H1 a rfl)]]
def DU(h:E X U e1 b1 c)(h':c=Â->E X U (.BoolOp .Or (e2::rest) pos) b2 c'):E X U (.BoolOp .Or (e1::e2::rest) pos) Á (c || c'):=by
 stop
  cases c with
  |false=>exact aJ (Lq h (h' rfl)) λY H Q ⟨H0,F,O,S,q⟩=>#[H0,F,O,S,λv H1 a b=>#[Â,b,uv #[H0,F,O,S.go a,λw H2 e d=>q w H2 (a.trans e) d]]]
  |true=>exact aJ (Lq h qe) λY H Q ⟨H0,F,O,S,q⟩=>#[H0,F,O,S,λv H1 a b=>#[Á,b,uh (q _ H1 a rfl)]]
def Hm(h:E X U e b c):E X U (.UnaryOp .Not e pos) Á (!c):=by stop exact aJ (NX h) λY H Q ⟨H0,F,O,S,q⟩=>#[H0,F,O,S,λv H1 a d=>#[c,d,q _ H1 a rfl]]
def kW{x y:M}(g:T X U e c)(ha:c=Á->E X U e1 b x)(h:c=Â->E X U e2 b y):E X U (.IfExp e e1 e2 pos) b (if c then x else y):=by
 stop
  cases c with
  |true=>exact aJ (iZ g (ha rfl) qe) λY H Q ⟨H0,F,O,S,q⟩=>#[H0,F,O,S,λH1 a=>uh #[H0,F,O,S.go a,λw H2 f d=>q w H2 (a.trans f) d]]
  |false=>exact aJ (iZ g qe (h rfl)) λY H Q ⟨H0,F,O,S,q⟩=>#[H0,F,O,S,λH1 a=>uv #[H0,F,O,S.go a,λw H2 f d=>q w H2 (a.trans f) d]]
def wM{xs:Mt}(h:(Nf H0 b1).has H p xs):(Nf H0 (b1&&b2)).has H p xs:=Nf.le (λz=>(YG.mp z).1) h
def wQ{xs:Mt}(h:(Nf H0 b2).has H p xs):(Nf H0 (b1&&b2)).has H p xs:=Nf.le (λz=>(YG.mp z).2) h
def yr{F O:Ç->Prop}{U:aI}(S:dM K H0 F O U Y H)(hp:H p=none):aG H (upd H p (.tup xs))/\Rt (off (upd H p (.tup xs)) O) p xs:=by stop exact#[cf hp _,.inl (by rw[aS (S.mF hp)];exact aQ)]
def cO{F O:Ç->Prop}{U:aI}(S:dM K H0 F O U Y H)(hp:H p=none):aG H (upd H p (.lst xs))/\off (upd H p (.lst xs)) O p=À (.lst xs):=by stop exact#[cf hp _,by rw[aS (S.mF hp)];exact aQ]
def bS{x:M}{y:β}{k:Nat}(ha:E X U e1 b1 x)(h:E X U e2 b2 y)(f:autoParam (Å [e1,e2] X.env=(Â,Û e1 X.env)::Å [e2] X.env) zra)(c:autoParam (Å [e2] X.env=(Â,Û e2 X.env)::Å [] X.env) zra):
  E X U (.Tuple [e1,e2] k pos) (b1&&b2) (x,y):=by
 stop
  exact aJ (Me (aB ha (aB h a9 c) f)) λY H Q ⟨H0,F,O,S,q⟩=>#[H0,F,O,S,λv H1 a g=>#[H0,F,O,S.go a,λw H2 b e=>#[by show 2<=sizeLine;decide,λp hp=>by
    obtain⟨d,i⟩:=yr (xs:=[v,w]) ((S.go a).go b) hp;refine q _ _ (a.trans (b.trans d)) #[p,v,w,rfl,i,?_,?_]
    .exact bh (λ_ _ n=>wM n) (aw ((ah b).trans (ah d)) g)
    .exact bh (λ_ _ n=>wQ n) (aw (ah d) e)]]]
@[irreducible] def EA(X:Cx)(U:aI)(es:List Ô)(b:Bool)(as:List M):Prop :=
 PA X es λY H Q=>∃H0 F O,dM X.K H0 F O U Y H/\∀vs H',aG H H'->Ý (λx a=>Py.rp X.K (Nf H0 b) (off H' O) x a) vs as->Q vs H'
def Ls{X:Cx}{t t':TA}(h:PA X es t)(w:∀Y H Q,t' Y H Q->t Y H Q):PA X es t':=λp Z2 s Y H Q I q=>h p Z2 s Y H Q I (w _ _ _ q)
def bF:EA X U [] b ([]:List M):=by stop exact Ls a9 λY H Q ⟨H0,F,O,S,q⟩=>q [] H (aG.refl _) .nil
def ay{a:M}{as:List M}(h:E X U e b a)(h':EA X U es b as)(g:autoParam (Å (e::es) X.env=(Â,Û e X.env)::Å es X.env) zra):EA X U (e::es) b (a::as):=by stop exact Ls (aB h h' g) λY H Q ⟨H0,F,O,S,q⟩=>#[H0,F,O,S,λv H1 c i=>#[H0,F,O,S.go c,λvs H2 d f=>q _ H2 (c.trans d) (.cons (aw (ah d) i) f)]]
def c8{as:List M}(h:EA X U es b as)(f:as.length<=1000):E X U (.List es pos) b as:=by
 stop
  exact aJ (Bn h) λY H Q ⟨H0,F,O,S,q⟩=>#[H0,F,O,S,λvs H1 a c=>#[by rw[bE c];exact YF (de f),λp hp=>by
    obtain⟨d,e⟩:=cO (xs:=vs) (S.go a) hp
    exact q _ _ (a.trans d) #[p,vs,rfl,dW.of e,Nf.wk ((S.go a).iq hp) e,bM (λ_ _ r=>aw (ah d) r) c]]]
def aT{xs:List M}{a:M}(ha:E X U e1 b xs)(s:E X U e2 b2 i)(h:xT xs i=À a)(m:autoParam (rK e2) zrj):E X U (.Subscript e1 e2 pos) b a:=by
 stop
  exact aJ (zv BO ha s m) λY H Q ⟨H0,F,O,S,q⟩=>#[H0,F,O,S,λv H1 f o=>#[H0,F,O,S.go f,λw H2 c t=>by
    obtain⟨p,vs,e,u,n,r⟩:=o;obtain⟨j,h1,h2,A,z,B⟩:=nY h;obtain⟨x,y,l⟩:=ig r h2;refine#[p,vs,i,x,e,t,(ar _ _).seq ((ah c).seq u),?_,q x H2 (f.trans c) (aw (ah c) l)];unfold xT at h ⊢;rw[bE r];cases d:D2 xs.length i with
    |none=>rw[d] at h;cases h
    |some k =>
     have g:=(nC d).1;rw[h1] at g;cases g
     exact y]]
def br{u:M×β}{j:Nat}{h:ì}(ha:E X U e1 b u):E X U (.Subscript e1 (.Constant (.int 0) j h) pos) b u.1:=by
 stop
  exact aJ (zv zY ha af (λ_ _=>rfl)) λY H Q ⟨H0,F,O,S,q⟩=>#[H0,F,O,S,λv H1 c i=>#[H0,F,O,S.go c,λw H2 a d=>by
    obtain⟨p,u,k,e,f,g,l⟩:=i
    exact#[p,_,0,u,e,d,xu (ar _ _) (aG.rt (ah a) f),rfl,q u H2 (c.trans a) (aw (ah a) g)]]]
def bO{u:M×β}{j:Nat}{i:ì}(ha:E X U e1 b u):E X U (.Subscript e1 (.Constant (.int 1) j i) pos) b u.2:=by
 stop
  exact aJ (zv zY ha af (λ_ _=>rfl)) λY H Q ⟨H0,F,O,S,q⟩=>#[H0,F,O,S,λv H1 c k=>#[H0,F,O,S.go c,λw H2 a f=>by
    obtain⟨p,u,d,e,g,l,h⟩:=k
    exact#[p,_,1,d,e,f,xu (ar _ _) (aG.rt (ah a) g),rfl,q d H2 (c.trans a) (aw (ah a) h)]]]
def iH{p:ì}(f:Gl X "abs")(d:X.mg "abs"=none)(ha:E X U e b i)(a:autoParam (Å [e] X.env=(Â,Û e X.env)::Å [] X.env) zra):E X U (.Call (.Name "abs" p) [e] [] pos) Á (if i<0 then -i else i):=by stop exact aJ (f9 D7 f d boot_abs (aB ha a9 a) (he:=a)) λY H Q ⟨H0,F,O,S,q⟩=>#[H0,F,O,S,λv H1 c g=>#[i,by cases g;rfl,q _ H1 c rfl]]
def OF{p:ì}(g:X.calm=Á)(f:Gl X "min")(h:X.mg "min"=none)(ha:E X U e1 b1 i)(l:E X U e2 b2 j)(c:autoParam (Å [e1,e2] X.env=(Â,Û e1 X.env)::Å [e2] X.env) zra)(a:autoParam (Å [e2] X.env=(Â,Û e2 X.env)::Å [] X.env) zra)(hpl:autoParam ((è pos (Å [e2] X.env)).any (·.1)=Â) zra):
  E X U (.Call (.Name "min" p) [e1,e2] [] pos) Á (if j<i then j else i):=by stop exact aJ (f9 (Dw g) f h boot_min (aB ha (aB l a9 a) c) (he:=c) (hpl:=hpl)) λY H Q ⟨H0,F,O,S,q⟩=>#[H0,F,O,S,λv H1 b k=>#[H0,F,O,S.go b,λw H2 e d=>#[i,j,by cases k;cases d;rfl,q _ H2 (b.trans e) rfl]]]
def OX{p:ì}(g:X.calm=Á)(f:Gl X "max")(h:X.mg "max"=none)(ha:E X U e1 b1 i)(l:E X U e2 b2 j)(c:autoParam (Å [e1,e2] X.env=(Â,Û e1 X.env)::Å [e2] X.env) zra)(a:autoParam (Å [e2] X.env=(Â,Û e2 X.env)::Å [] X.env) zra)(hpl:autoParam ((è pos (Å [e2] X.env)).any (·.1)=Â) zra):
  E X U (.Call (.Name "max" p) [e1,e2] [] pos) Á (if j>i then j else i):=by stop exact aJ (f9 (DY g) f h boot_max (aB ha (aB l a9 a) c) (he:=c) (hpl:=hpl)) λY H Q ⟨H0,F,O,S,q⟩=>#[H0,F,O,S,λv H1 b k=>#[H0,F,O,S.go b,λw H2 e d=>#[i,j,by cases k;cases d;rfl,q _ H2 (b.trans e) rfl]]]
def bj{xs:List M}{p:ì}(f:Gl X "len")(g:X.mg "len"=none)(ha:E X U e b xs)(a:autoParam (Å [e] X.env=(Â,Û e X.env)::Å [] X.env) zra):E X U (.Call (.Name "len" p) [e] [] pos) Á (xs.length:Int):=by
 stop
  exact aJ (f9 wL f g PySem.boot_len (aB ha a9 a) (he:=a)) λY H Q ⟨H0,F,O,S,q⟩=>#[H0,F,O,S,λv H1 c h=>by
    obtain⟨p,vs,e,d,n,r⟩:=h;refine#[p,vs,by rw[e],.inl ((ar _ _).seq d),q _ H1 c ?_];show V.int _=V.int _
    rw[bE r]]
end
structure GD where
 nx:aI->Prop
 rt:Bd->Prop
 bk:aI->Prop:=λ_=>False
 ct:aI->Prop:=λ_=>False
def Bd.SR(K:Ã)(H0:Hp)(F:Ç->Prop)(H:Hp)(v:V):Bd->Prop
 |@Bd.val _ _ b a=>Py.rp K (Nf H0 b) (off H F) v a
 |@Bd.own _ _ _ _=>False
 |@Bd.dpo _ _ _=>False
def tG(K:Ã)(U:aI)(D:GD):TS:=λb Y H=>∃H0 F O,dM K H0 F O U Y H /\
 (∀U' Y' H' a,aG .F (off H' a)->dM K H0 F a U' Y' H'->D.nx U'->b.nx Y' H') /\
 (∀g v H',aG H0 H'->Bd.SR K H0 F H' v g->D.rt g->b.rt v H') /\
 (∀U' Y' H' a,aG .F (off H' a)->dM K H0 F a U' Y' H'->D.bk U'->b.bk Y' H') /\
 (∀U' Y' H' a,aG .F (off H' a)->dM K H0 F a U' Y' H'->D.ct U'->b.ct Y' H')
@[irreducible] def S(X:Cx)(U:aI)(st:List Ñ)(D:GD):Prop:=qW X st (tG X.K U D)
@[irreducible] def S1(X:Cx)(U:aI)(st:Ñ)(D:GD):Prop:=PS X st (tG X.K U D)
def dS{st:Ñ}{t t':TS}(h:PS X st t)(w:∀D Y H,t' D Y H->t D Y H):PS X st t':=λZ2 s Y H D I q=>h Z2 s Y H D I (w _ _ _ q)
def sh{st:List Ñ}{t t':TS}(h:qW X st t)(w:∀D Y H,t' D Y H->t D Y H):qW X st t':=λZ2 s Y H D I q=>h Z2 s Y H D I (w _ _ _ q)
section
variable{X:Cx}{U:aI}{D:GD}{M β γ:Type}[Py M][Py β][Py γ]{e e1 e2 e3:Ô}{b b1 b2 b3:Bool}{pos:ì}{st:Ñ}{rest body orelse:List Ñ}
def aK(h:D.nx U):S X U [] D:=by stop exact sh JS λa Y H ⟨H0,F,O,Z,n,_⟩=>n U Y H O (aG.refl _) Z h
def E8{X:Cx}{st:List Ñ}{ι:Type 1}{P:ι->Prop}{t:ι->TS}(h:∀i,P i->qW X st (t i)):qW X st (λD Y H=>∃i,P i/\t i D Y H):=λZ2 s Y H D I ⟨i,p,q⟩=>h i p Z2 s Y H D I q
def dU(h:S1 X U st {D with nx:=λU'=>S X U' rest D}):S X U (st::rest) D:=by
 stop
  exact sh (FR h (E8 (ι:=aI) (P:=λU'=>S X U' rest D) (t:=λU'=>tG X.K U' D) λ_ q=>q)) λg Y H ⟨H0,F,O,Z,n,r,bk,ct⟩ =>
    #[H0,F,O,Z,λU' Y' H' e sm f q=>#[U',q,H0,F,e,f,λΓ2 σ2 H2 b a d c=>n Γ2 σ2 H2 b (sm.trans a) d c,r,λΓ2 σ2 H2 b a d c=>bk Γ2 σ2 H2 b (sm.trans a) d c,
     λΓ2 σ2 H2 b a d c=>ct Γ2 σ2 H2 b (sm.trans a) d c],r,bk,ct]
def ao(i:Nat){a:M}{p:ì}(f:X.N.Nodup)(he:E X U e b a)(h:S X (U.set i (À (.val b a))) rest D)(hi:autoParam (X.N[i]?=À x) zra)(g:autoParam (Loc X.env.scope x) zri)
  (j:autoParam (õ e (À (.Name x p)) pos.line X.env=pure Â) zra) (d:autoParam (X.fn x=Á\/X.env.scope.names.lookup x=À .local) zrd):S X U (.Assign [.Name x p] e pos::rest) D:=by stop exact dU (dS (sC f hi g he j d) λl Y H ⟨H0,F,O,Z,n,_⟩=>#[H0,F,O,Z,λv H1 c k=>n _ _ H1 O (ah c) ((Z.go c).set k) h])
def sA{a:M}(he:E X U e b a)(h:S X U rest D)(d:autoParam (õ e none pos.line X.env=pure Â) zra):S X U (.Expr e pos::rest) D:=by stop exact dU (dS (wG he d) λg Y H ⟨H0,F,O,Z,n,_⟩=>#[H0,F,O,Z,λv H1 c f=>n U Y H1 O (ah c) (Z.go c) h])
def au{a:M}(he:E X U e b a)(h:D.rt (.val b a)):S X U (.Return (À e) pos::rest) D:=by stop exact dU (dS (GJ he) λf Y H ⟨H0,F,O,Z,n,r,_⟩=>#[H0,F,O,Z,λv H1 c d=>r (.val b a) v H1 ((Z.go c).same) (aw (mR Z.fo) d) h])
def O4(d:T X U e c)(h1:c=Á->S X U body {D with nx:=λU'=>S X U' rest D})(h2:c=Â->S X U orelse {D with nx:=λU'=>S X U' rest D}):S X U (.If e body orelse pos::rest) D:=by
 stop
  cases c with
  |true=>exact dU (dS (KU d (h1 rfl) uW) λf Y H ⟨H0,F,O,Z,n,r,bk,ct⟩=>#[H0,F,O,Z,λH1 b=>uh #[H0,F,O,Z.go b,λΓ2 σ2 H2 a sm=>n Γ2 σ2 H2 a ((ah b).trans sm),r,λΓ2 σ2 H2 a sm=>bk Γ2 σ2 H2 a ((ah b).trans sm),λΓ2 σ2 H2 a sm=>ct Γ2 σ2 H2 a ((ah b).trans sm)]])
  |false=>exact dU (dS (KU d uW (h2 rfl)) λf Y H ⟨H0,F,O,Z,n,r,bk,ct⟩=>#[H0,F,O,Z,λH1 b=>uv #[H0,F,O,Z.go b,λΓ2 σ2 H2 a sm=>n Γ2 σ2 H2 a ((ah b).trans sm),r,λΓ2 σ2 H2 a sm=>bk Γ2 σ2 H2 a ((ah b).trans sm),λΓ2 σ2 H2 a sm=>ct Γ2 σ2 H2 a ((ah b).trans sm)]])
def aF(a:T X U e c)(h1:c=Á->S X U body {D with nx:=λU'=>S X U' rest D})(h2:c=Â->S X U rest D):S X U (.If e body [] pos::rest) D:=by stop exact O4 a h1 λz=>aK (h2 z)
def kE(X:Cx)(body:List Ñ):TS:=λb Y H=>∃U',∃a,S X U' body a/\tG X.K U' a b Y H
def gW:qW X body (kE X body):=by stop exact λZ2 s Y H b I ⟨U',a,t,q⟩=>(show qW X body (tG X.K U' a) from t) Z2 s Y H b I q
def cz{ι:Type}(J:ι->aI->Prop)(μ:ι->Nat)(v:ι)(x:J v U)(z:∀i U',J i U'->∃c,T X U' e c/\(c=Á->S X U' body {D with nx:=λΓ2=>∃j,J j Γ2/\μ j<μ i,ct:=λΓ2=>∃j,J j Γ2/\μ j<μ i,bk:=λΓ2=>S X Γ2 rest D})/\(c=Â->S X U' rest D))
  (hp:ď .E X.A X.env X.xe:=by exact ZQ):S X U (.While e body [] pos::rest) D:=by
 stop
  refine dU (dS (G5 (tc:=λY H Q=>∃U',∃c,T X U' e c/\N2 X.K U' c Y H Q) (tb:=kE X body) hp
   (λZ2 s Y H Q I ⟨U',c,t,q⟩=>(show PT X e (N2 X.K U' c) from t) Z2 s Y H Q I q) gW) λB Y H ⟨H0,F,O,Z,n,r,bk,ct⟩=>?_)
  refine#[λm Y' H'=>∃i U' g,aG .F (off H' g)/\dM X.K H0 F g U' Y' H'/\J i U'/\m=μ i,#[_,v,U,O,aG.refl _,Z,x,rfl],?_];rintro m Y' H' ⟨i,U',g,sm,p,j,rfl⟩;obtain⟨c,t,o,k⟩:=z i U' j;refine#[U',c,t,H0,F,g,p,λH1 h=>?_];cases c with
  |true =>
   refine uh #[λσ2 H2=>∃d Γ2 b,aG .F (off H2 b)/\dM X.K H0 F b Γ2 σ2 H2/\J d Γ2/\μ d<μ i,λσ2 H2 ⟨d,Γ2,b,a,f,y,l⟩=>#[μ d,l,d,Γ2,b,a,f,y,rfl],U',_,o rfl,H0,F,g,p.go h,?_,r,?_,?_]
   .exact λΓ2 σ2 H2 b a f ⟨d,q1,u⟩=>#[d,Γ2,b,sm.trans ((ah h).trans a),f,q1,u]
   .exact λΓ2 σ2 H2 b a f q=>n Γ2 σ2 H2 b (sm.trans ((ah h).trans a)) f q
   .exact λΓ2 σ2 H2 b a f ⟨d,q1,u⟩=>#[d,Γ2,b,sm.trans ((ah h).trans a),f,q1,u]
  |false=>exact uv (n U' Y' H1 g (sm.trans (ah h)) (p.go h) (k rfl))
def GP(g:TG)(M:Type)[Py M](put:Bool->M->aI->aI)(tc:Nat->Prop)(K:Ã):Prop :=
 ∀(b:Bool) (a:M) (H0:Hp) (F O:Ç->Prop) (U:aI) (Y:St) (H:Hp) (v:V) (Q:St->Hp->Prop),dM K H0 F O U Y H->Py.rp K (Nf H0 b) .F v a ->
  (∀Y',dM K H0 F O (put b a U) Y' H->Y'.length=Y.length->(∀j,¬tc j->Y'[j]?=Y[j]?)->Q Y' H)->g v Y H Q
def G(X:Cx)(tg:Ô)(g:TG)(M:Type)[Py M](put:Bool->M->aI->aI)(tc:Nat->Prop):Prop:=PG X tg g/\GP g M put tc X.K
def a_(i:Nat):GP (ke i) M (λb a U=>U.set i (À (.val b a))) (·=i) K:=λb a H0 F O U Y H v Q Z r q=>q _ (Z.set r) (Yr ..) λj c=>get_set_ne c
def cV(i:Nat)(e:X.N.Nodup)(hi:autoParam (X.N[i]?=À x) zra)(c:autoParam (Loc X.env.scope x) zri)(d:autoParam (X.fn x=Á\/X.env.scope.names.lookup x=À .local) zrd):
  G X (.Name x pos) (ke i) M (λb a U=>U.set i (À (.val b a))) (·=i):=#[nZ e hi c d,a_ i]
variable{δ:Type}[Py δ]{tg:Ô}{g:TG}{tc:Nat->Prop}
def eI{put:Bool->Int->aI->aI}{n:Int}{p:ì}(J:Nat->aI->Prop)(t:Gl X "range")(B:X.mg "range"=none)(m:G X tg g Int put tc)(he:E X U e b n)(h1:-(2^62)<=n)(h2:n<2^62)(s:J 0 U)
  (L:∀(i:Nat) U',i<n.toNat->J i U'->S X (put Á (i:Int) U') body {D with nx:=J (i+1),ct:=J (i+1),bk:=λΓ2=>S X Γ2 rest D}) (u:∀U',J n.toNat U'->S X U' rest D)
  (C:autoParam (X.calm=Á) zra) (hp:ď .E X.A X.env X.xe:=by exact ZQ) (z:autoParam (Å [e] X.env=[(Â,Û e X.env)]) zra) (h:autoParam (Å [e] X.env=(Â,Û e X.env)::Å [] X.env) zra)
  (l:autoParam (∀x,Ü (.Call (.Name "range" p) [e] [] ps) X.env x=pure x) zrc):S X U (.For tg (.Call (.Name "range" p) [e] [] ps) body [] pos::rest) D:=by
 stop
  refine dU (dS (oM hp C (uZ t B (aB he a9 h) z) m.1 (tb:=kE X body) gW l) λy Y H ⟨H0,F,O,Z,nx,r,bk,ct⟩=>?_);refine#[H0,F,O,Z,λv H1 o I=>#[n,by cases I;rfl,h1,h2,Dy (lo:=0) (n:=n.toNat) (g:=g) (tb:=kE X body) (D:=y) (λi Y' H'=>∃U' c,aG .F (off H' c)/\dM X.K H0 F c U' Y' H'/\J i U') #[U,O,ah o,Z.go o,s] ?_ ?_]]
  .rintro i Y' H' hi ⟨U',c,sm,k,j⟩;refine m.2 Á (i:Int) H0 F c U' Y' H' _ _ k (by show V.int _=V.int _;rw[abc]) λσ2 d _ _=>?_;refine#[_,_,L i U' hi j,H0,F,c,d,?_,r,?_,?_]
   .exact λΓ2 σ2 H2 f a d q=>#[Γ2,f,sm.trans a,d,q]
   .exact λΓ2 σ2 H2 f a d q=>nx Γ2 σ2 H2 f (sm.trans a) d q
   .exact λΓ2 σ2 H2 f a d q=>#[Γ2,f,sm.trans a,d,q]
  .rintro Y' H' ⟨U',c,sm,k,j⟩;exact nx U' Y' H' c sm k (u U' j)
def xZ{put:Bool->Int->aI->aI}{n c:Int}{p:ì}(J:Nat->aI->Prop)(L:Gl X "range")(P:X.mg "range"=none)(C:G X tg g Int put tc)(t:E X U e1 b1 lo)(m:E X U e2 b2 n)(z:E X U e3 b3 c)(T:-(2^62)<=lo/\lo<2^62/\-(2^62)<=n/\n<2^62)(k:c≠0/\-1000<=c/\c<=1000)(I:J 0 U)
  (Γ:∀(i:Nat) U',i<(Ó lo n c).toNat->J i U'->S X (put Á (lo+i*c:Int) U') body {D with nx:=J (i+1),ct:=J (i+1),bk:=λΓ2=>S X Γ2 rest D}) (α:∀U',J (Ó lo n c).toNat U'->S X U' rest D)
  (Q:autoParam (X.calm=Á) zra) (hp:ď .E X.A X.env X.xe:=by exact ZQ)
  (e:autoParam (Å [e1,e2,e3] X.env=(Â,Û e1 X.env)::Å [e2,e3] X.env) zra) (u:autoParam (Å [e2,e3] X.env=(Â,Û e2 X.env)::Å [e3] X.env) zra) (o:autoParam (Å [e3] X.env=(Â,Û e3 X.env)::Å [] X.env) zra)
  (hpl:autoParam ((è ps (Å [e2,e3] X.env)).any (·.1)=Â) zra) (y:autoParam (∀x,Ü (.Call (.Name "range" p) [e1,e2,e3] [] ps) X.env x=pure x) zrc):S X U (.For tg (.Call (.Name "range" p) [e1,e2,e3] [] ps) body [] pos::rest) D:=by
 stop
  refine dU (dS (oM hp Q (Dc L P (aB t (aB m (aB z a9 o) u) e) e hpl) C.1 (tb:=kE X body) gW y) λN Y H ⟨H0,F,O,Z,nx,r,bk,ct⟩=>?_);refine#[H0,F,O,Z,λv H1 h R=>#[H0,F,O,Z.go h,λv' H2 l V=>#[H0,F,O,Z.go (h.trans l),λσ H3 B W=>#[lo,n,c,by cases R;cases V;cases W;rfl,T,k,Bk (lo:=lo) (c:=c) (n:=(Ó lo n c).toNat) (g:=g) (tb:=kE X body) (D:=N) (λi Y' H'=>∃U' b,aG .F (off H' b)/\dM X.K H0 F b U' Y' H'/\J i U') #[U,O,ah (h.trans (l.trans B)),Z.go (h.trans (l.trans B)),I] ?_ ?_]]]]
  .rintro i Y' H' hi ⟨U',b,sm,s,j⟩;refine C.2 Á (lo+i*c:Int) H0 F b U' Y' H' _ _ s rfl λσ2 d _ _=>?_;refine#[_,_,Γ i U' hi j,H0,F,b,d,?_,r,?_,?_]
   .exact λΓ2 σ2 H2 f a d q=>#[Γ2,f,sm.trans a,d,q]
   .exact λΓ2 σ2 H2 f a d q=>nx Γ2 σ2 H2 f (sm.trans a) d q
   .exact λΓ2 σ2 H2 f a d q=>#[Γ2,f,sm.trans a,d,q]
  .rintro Y' H' ⟨U',b,sm,s,j⟩;exact nx U' Y' H' b sm s (α U' j)
def pO{put:Bool->M->aI->aI}{xs:List M}(J:Nat->aI->Prop)(n:G X tg g M put tc)(he:E X U e b xs)(t:J 0 U)
  (C:∀(i:Nat) (a:M) U',xs[i]?=À a->J i U'->S X (put b a U') body {D with nx:=J (i+1),ct:=J (i+1),bk:=λΓ2=>S X Γ2 rest D}) (u:∀U',J xs.length U'->S X U' rest D)
  (z:autoParam (X.calm=Á) zra) (hp:ď .E X.A X.env X.xe:=by exact ZQ)
  (m:autoParam (∀x,Ü e X.env x=pure x) zrc):S X U (.For tg e body [] pos::rest) D:=by
 stop
  refine dU (dS (oM hp z (Cp he) n.1 (tb:=kE X body) gW m) λy Y H ⟨H0,F,O,Z,nx,r,bk,ct⟩=>?_);refine#[H0,F,O,Z,λv H1 l B=>?_];obtain⟨p,vs,e,o,nn,s⟩:=B;refine#[p,e,#[vs,(ar _ _).seq o],E7 (K:=X.K) (a:=p) (xs:=vs) (g:=g) (tb:=kE X body) (D:=y) (λi Y' H'=>∃U' d,aG (off H1 O) (off H' d)/\dM X.K H0 F d U' Y' H'/\J i U') #[U,O,aG.refl _,Z.go l,t] ?_ ?_ ?_]
  .rintro i Y' H' hi ⟨U',d,sm,k,j⟩;exact(ar _ _).seq (sm.seq o)
  .rintro i x Y' H' hi ⟨U',d,sm,k,j⟩;obtain⟨a,h1,h2⟩:=rA s hi;refine n.2 b a H0 F d U' Y' H' _ _ k (aw sm h2) λσ2 f _ _=>?_;refine#[_,_,C i a U' h1 j,H0,F,d,f,?_,r,?_,?_]
   .exact λΓ2 σ2 H2 h c f q=>#[Γ2,h,sm.trans c,f,q]
   .exact λΓ2 σ2 H2 h c f q=>nx Γ2 σ2 H2 h ((ah l).trans (sm.trans c)) f q
   .exact λΓ2 σ2 H2 h c f q=>#[Γ2,h,sm.trans c,f,q]
  .rintro Y' H' ⟨U',d,sm,k,j⟩;rw[bE s] at j;exact nx U' Y' H' d ((ah l).trans sm) k (u U' j)
end
structure aH(P:Ð)(w:Ú)(K:Ã)(mg:Ï->Option Ä)(base:ß)(k:Nat)(name:Ï)(ps:List Ï)(sp:Sp):Prop where
 ex:∃(f:Ç) (fd:ð),⇑fU pd k f fd ps sp/\Binds K fd ps []/\Ċ K (.ref f)=Á/\mg name=À (.ref f)
def oR(H:Hp)(O:Ç->Prop):Prop:=∀p,O p->∃xs:Mt,H p=À (mo xs)
def cH{M β:Type}[Py M][Py β](K:Ã)(pre:M->Prop)(b:Bool)(f:M->β):Sp:=λvs H Q _=>∃O v a,oR H O/\vs=[v]/\Py.rp K .any .F v a/\pre a/\∀r H',aG H H'->Py.rp K (Nf H b) (off H' O) r (f a)->Q r H'
def cM{M β γ:Type}[Py M][Py β][Py γ](K:Ã)(pre:M->β->Prop)(b:Bool)(f:M->β->γ):Sp:=λvs H Q _=>∃O v w a c,oR H O/\vs=[v,w]/\Py.rp K .any .F v a/\Py.rp K .any .F w c/\pre a c/\∀r H',aG H H'->Py.rp K (Nf H b) (off H' O) r (f a c)->Q r H'
def vg{M β γ δ:Type}[Py M][Py β][Py γ][Py δ](K:Ã)(pre:M->β->γ->Prop)(b:Bool)(f:M->β->γ->δ):Sp:=λvs H Q _=>∃O v w x a c d,oR H O/\vs=[v,w,x]/\Py.rp K .any .F v a/\Py.rp K .any .F w c/\Py.rp K .any .F x d/\pre a c d/\∀r H',aG H H'->Py.rp K (Nf H b) (off H' O) r (f a c d)->Q r H'
def HY{M β γ δ ε:Type}[Py M][Py β][Py γ][Py δ][Py ε](K:Ã)(pre:M->β->γ->δ->Prop)(b:Bool)(f:M->β->γ->δ->ε):Sp:=λvs H Q _=>∃O v w x y a c d g,oR H O/\vs=[v,w,x,y]/\Py.rp K .any .F v a/\Py.rp K .any .F w c/\Py.rp K .any .F x d/\Py.rp K .any .F y g/\pre a c d g/\∀r H',aG H H'->Py.rp K (Nf H b) (off H' O) r (f a c d g)->Q r H'
def bt:∀p xs,(Nf H0 b).has H p xs->Nn.any.has H p xs:=λ_ _ _=>É
section
variable{X:Cx}{U:aI}{D:GD}{M β γ δ ε:Type}[Py M][Py β][Py γ][Py δ][Py ε]{e e1 e2 e3 e4:Ô}{b b1 b2 b3 b4:Bool}{p pos:ì}{k:Nat}{name:Ï}{ps:List Ï}
def aD{pre:M->Prop}{f:M->β}{a:M}(C:aH X.prog X.w X.K X.mg X.base k name ps (cH X.K pre b f))(g:dP k X.A)(h:Gl X name)(h1:E X U e1 b1 a)(hp:pre a)
  (c:autoParam (Å [e1] X.env=(Â,Û e1 X.env)::Å [] X.env) zra) (e:autoParam ((name==("__debug__":Ï))=Â) zrb) (hpl:autoParam ((è pos (Å [] X.env)).any (·.1)=Â) zra):
  E X U (.Call (.Name name p) [e1] [] pos) b (f a):=by
 stop
  obtain⟨l,fd,F,B,kp,m⟩:=C.ex
  exact aJ (eY F g h m kp B .nil jY (aB h1 a9 c) e c hpl) λY H Q ⟨H0,F,O,S,q⟩=>#[H0,F,O,S,λi H1 d j =>
   #[O,i,a,(S.go d).own,rfl,bh bt j,hp,λr H' s' z=>q r H' (d.trans s') ((S.go d).back z)]]
def aA{pre:M->β->Prop}{f:M->β->γ}{a:M}{c:β}(C:aH X.prog X.w X.K X.mg X.base k name ps (cM X.K pre b f))(j:dP k X.A)(l:Gl X name)(h1:E X U e1 b1 a)(h2:E X U e2 b2 c)(hp:pre a c)
  (d:autoParam (Å [e1,e2] X.env=(Â,Û e1 X.env)::Å [e2] X.env) zra) (i:autoParam (Å [e2] X.env=(Â,Û e2 X.env)::Å [] X.env) zra) (h:autoParam ((name==("__debug__":Ï))=Â) zrb) (hpl:autoParam ((è pos (Å [e2] X.env)).any (·.1)=Â) zra):
  E X U (.Call (.Name name p) [e1,e2] [] pos) b (f a c):=by
 stop
  obtain⟨u,fd,F,B,kp,m⟩:=C.ex
  exact aJ (eY F j l m kp B .nil jY (aB h1 (aB h2 a9 i) d) h d hpl) λY H Q ⟨H0,F,O,S,q⟩=>#[H0,F,O,S,λt H1 g n=>#[H0,F,O,S.go g,λo H2 e s =>
   #[O,t,o,a,c,(S.go (g.trans e)).own,rfl,bh bt (aw (ah e) n),bh bt s,hp,λr H' s' z=>q r H' (g.trans (e.trans s')) ((S.go (g.trans e)).back z)]]]
def dJ{pre:M->β->γ->Prop}{f:M->β->γ->δ}{a:M}{c:β}{d:γ}(C:aH X.prog X.w X.K X.mg X.base k name ps (vg X.K pre b f))(s:dP k X.A)(t:Gl X name)(h1:E X U e1 b1 a)(h2:E X U e2 b2 c)(o:E X U e3 b3 d)(hp:pre a c d)
  (e:autoParam (Å [e1,e2,e3] X.env=(Â,Û e1 X.env)::Å [e2,e3] X.env) zra) (n:autoParam (Å [e2,e3] X.env=(Â,Û e2 X.env)::Å [e3] X.env) zra) (l:autoParam (Å [e3] X.env=(Â,Û e3 X.env)::Å [] X.env) zra)
  (j:autoParam ((name==("__debug__":Ï))=Â) zrb) (hpl:autoParam ((è pos (Å [e2,e3] X.env)).any (·.1)=Â) zra):
  E X U (.Call (.Name name p) [e1,e2,e3] [] pos) b (f a c d):=by
 stop
  obtain⟨I,fd,F,B,kp,m⟩:=C.ex
  exact aJ (eY F s t m kp B .nil jY (aB h1 (aB h2 (aB o a9 l) n) e) j e hpl) λY H Q ⟨H0,F,O,S,q⟩=>#[H0,F,O,S,λG H1 i v=>#[H0,F,O,S.go i,λx H2 g y=>#[H0,F,O,S.go (i.trans g),λu J h D =>
   #[O,G,x,u,a,c,d,(S.go (i.trans (g.trans h))).own,rfl,bh bt (aw ((ah g).trans (ah h)) v),bh bt (aw (ah h) y),bh bt D,hp,λr H' s' z=>q r H' (i.trans (g.trans (h.trans s'))) ((S.go (i.trans (g.trans h))).back z)]]]]
def wN{pre:M->β->γ->δ->Prop}{f:M->β->γ->δ->ε}{a:M}{c:β}{d:γ}{g:δ}(C:aH X.prog X.w X.K X.mg X.base k name ps (HY X.K pre b f))(x:dP k X.A)(y:Gl X name)(h1:E X U e1 b1 a)(h2:E X U e2 b2 c)(v:E X U e3 b3 d)(u:E X U e4 b4 g)(hp:pre a c d g)
  (l:autoParam (Å [e1,e2,e3,e4] X.env=(Â,Û e1 X.env)::Å [e2,e3,e4] X.env) zra) (t:autoParam (Å [e2,e3,e4] X.env=(Â,Û e2 X.env)::Å [e3,e4] X.env) zra) (o:autoParam (Å [e3,e4] X.env=(Â,Û e3 X.env)::Å [e4] X.env) zra) (s:autoParam (Å [e4] X.env=(Â,Û e4 X.env)::Å [] X.env) zra)
  (n:autoParam ((name==("__debug__":Ï))=Â) zrb) (hpl:autoParam ((è pos (Å [e2,e3,e4] X.env)).any (·.1)=Â) zra):
  E X U (.Call (.Name name p) [e1,e2,e3,e4] [] pos) b (f a c d g):=by
 stop
  obtain⟨R,fd,F,B,kp,m⟩:=C.ex
  exact aJ (eY F x y m kp B .nil jY (aB h1 (aB h2 (aB v (aB u a9 s) o) t) l) n l hpl) λY H Q ⟨H0,F,O,S,q⟩=>#[H0,F,O,S,λN H1 j I=>#[H0,F,O,S.go j,λJ H2 e L=>#[H0,F,O,S.go (j.trans e),λD T h α=>#[H0,F,O,S.go (j.trans (e.trans h)),λv4 P i G =>
   #[O,N,J,D,v4,a,c,d,g,(S.go (j.trans (e.trans (h.trans i)))).own,rfl,bh bt (aw ((ah e).trans ((ah h).trans (ah i))) I),bh bt (aw ((ah h).trans (ah i)) L),bh bt (aw (ah i) α),bh bt G,hp,λr H' s' z=>q r H' (j.trans (e.trans (h.trans (i.trans s')))) ((S.go (j.trans (e.trans (h.trans i)))).back z)]]]]]
end
def Pt(N:List Ï)(gs:List Bd):aI:=gs.map À++È (N.length-gs.length) none
def RT{M:Type}[Py M](b:Bool)(a:M):GD:={nx:=λ_=>False,rt:=λg=>g=.val b a}
inductive Args(K:Ã)(H:Hp):List V->List Bd->Prop
 |nil:Args K H [] []
 |cons {M:Type} [Py M] {v:V} {a:M} {vs:List V} {gs:List Bd}:Py.rp K .any H v a->Args K H vs gs->Args K H (v::vs) (.val Â a::gs)
def Args.len{K:Ã}{H:Hp}:∀{vs:List V} {gs:List Bd},Args K H vs gs->vs.length=gs.length
 |_,_,.nil=>rfl
 |_,_,@Args.cons _ _ _ _ _ _ _ _ _ t=>congrArg (·+1) t.len
theorem Args.get{K:Ã}{H0 H:Hp}{O:Ç->Prop}:∀{vs:List V} {gs:List Bd} {i:Nat} {g:Bd},Args K .F vs gs->gs[i]?=À g->∃v,vs[i]?=À v/\g.ok K H0 O H v/\¬g.g9
 |_,_,_,_,.nil,e=>by simp at e
 |_,_,0,_,@Args.cons _ _ _ _ _ _ _ _ h _,e=>by simp at e;subst e;exact#[_,rfl,h,λz=>z]
 |_,_,i+1,_,@Args.cons _ _ _ _ _ _ _ _ _ t,e=>by
  obtain⟨a,h1,h2⟩:=Args.get (i:=i) t ↑e;exact#[a,↑h1,h2]
def pQ{O:Ç->Prop}{N:List Ï}{vs:List V}{gs:List Bd}(b:oR H O)(h:Args K .F vs gs):dM K H O O (Pt N gs) (start N vs) H:=by
 have c:=h.len
 have a:∀(i:Nat) (g:Bd),(Pt N gs)[i]?=À (À g)->gs[i]?=À g:=λi g e=>by
  unfold Pt at e;by_cases hi:i<(gs.map À).length
  .rw[YJ hi,Xw] at e;cases q:gs[i]? with
   |none=>rw[q] at e;cases e
   |some g'=>rw[q] at e;simpa using e
  .rw[Y0 .b] at e;have:=Xg e;rw[List.mem_replicate] at this;cases this.2
 refine#[aG.refl _,λ_ z=>z,b,b,by simp[Pt,start,c],λi g e _=>?_,#[λ_ _=>False,λ_ _ _ z=>z.elim,λ_ _ z=>z.elim,λi g e o=>?_]]
 .obtain⟨v,h1,h2,_⟩:=Args.get (H0:=H) h (a i g e);refine#[v,?_,h2];unfold start
  have hi:i<(vs.map À).length:=by
   rw[Xk];exact(Xl.mp h1).1
  rw[YJ hi,Xw,h1];rfl
 .obtain⟨_,_,_,no⟩:=Args.get (H0:=H) h (a i g e);exact absurd o no
section
variable{P:Ð}{w:Ú}{K:Ã}{mg:Ï->Option Ä}{base:ß}{N ps:List Ï}{k:Nat}{x qual:Ï}{st:Ñ}{f:Ç}{fd:ð}
abbrev cx(P:Ð)(w:Ú)(K:Ã)(mg:Ï->Option Ä)(base:ß)(N:List Ï)(qual:Ï)(st:Ñ)(f:Ç)(a:Ä)(A:à)(outer:List ĵ)(s:Æ)(H:Hp)(E:XK):Cx:=(ui pd P w K mg base N qual (ag st) f a A outer s H E).K8
def Body(P:Ð)(w:Ú)(K:Ã)(mg:Ï->Option Ä)(base:ß)(N:List Ï)(qual:Ï)(st:Ñ)(f:Ç)(k:Nat)(gs:List Bd)(D:GD):Prop :=
 ∀(a:Ä) (A:à) (outer:List ĵ) (s:Æ) (H:Hp) (E:XK),dP k (A.deeper (ę qual (ag st) s.heap.objs.size f a))->S (⇑cx N qual st f a A outer s H E) (Pt N gs) (b7 st) D
def nj{gs:List Bd}{vs:List V}{O:Ç->Prop}{M:Type}[Py M]{a:M}{Q:VK}{c:Ä}{A:à}{outer:List ĵ}{E:XK}(B:⇑Body N qual st f k gs (RT b a))(i:dP k (A.deeper (ę qual (ag st) s.heap.objs.size f c)))
  (j:oR H O) (h:Args K .F vs gs) (q:∀r H',aG H H'->Py.rp K (Nf H b) (off H' O) r a->Q r H'):
  ∃t,qW (ui pd P w K mg base N qual (ag st) f c A outer s H E).K8 (b7 st) t/\t {nx:=λ_ H'=>Q .non H',rt:=Q} (start N vs) H:=by stop refine#[_,B c A outer s H E i,H,O,O,pQ j h,λ_ _ _ _ _ _ z=>z.elim,λg v H' sm z e=>?_,λ_ _ _ _ _ _ z=>z.elim,λ_ _ _ _ _ _ z=>z.elim];have d:g=.val b a:=e;subst d;exact q v H' sm z
def mS{M β:Type}[Py M][Py β]{pre:M->Prop}{g:M->β}(F:uf K x qual st f fd)(j:ak N ps (ag st))(e:ps.length=1)(B:∀a,pre a->⇑Body N qual st f k [.val Â a] (RT b (g a))):
  fU P w K mg base pd (k+1) f fd ps (cH K pre b g):=by
 stop
  refine F.ok j (λvs H Q E h=>?_) λc A outer s H vs Q E d h=>?_
  .obtain⟨O,v,a,_,rfl,_⟩:=h;rw[e];rfl
  .obtain⟨O,v,a,i,rfl,r,hp,q⟩:=h;exact nj (B a hp) d i (.cons r .nil) q
def mH{M β γ:Type}[Py M][Py β][Py γ]{pre:M->β->Prop}{g:M->β->γ}(F:uf K x qual st f fd)(n:ak N ps (ag st))(e:ps.length=2)(B:∀a c,pre a c->⇑Body N qual st f k [.val Â a,.val Â c] (RT b (g a c))):
  fU P w K mg base pd (k+1) f fd ps (cM K pre b g):=by
 stop
  refine F.ok n (λvs H Q E h=>?_) λl A outer s H vs Q E d h=>?_
  .obtain⟨O,v,i,a,c,_,rfl,_⟩:=h;rw[e];rfl
  .obtain⟨O,v,i,a,c,m,rfl,r,j,hp,q⟩:=h;exact nj (B a c hp) d m (.cons r (.cons j .nil)) q
def K_{M β γ δ:Type}[Py M][Py β][Py γ][Py δ]{pre:M->β->γ->Prop}{g:M->β->γ->δ}(F:uf K x qual st f fd)(t:ak N ps (ag st))(i:ps.length=3)(B:∀a c d,pre a c d->⇑Body N qual st f k [.val Â a,.val Â c,.val Â d] (RT b (g a c d))):
  fU P w K mg base pd (k+1) f fd ps (vg K pre b g):=by
 stop
  refine F.ok t (λvs H Q E h=>?_) λn A outer s H vs Q E e h=>?_
  .obtain⟨O,v,l,j,a,c,d,_,rfl,_⟩:=h;rw[i];rfl
  .obtain⟨O,v,l,j,a,c,d,p,rfl,r,m,o,hp,q⟩:=h;exact nj (B a c d hp) e p (.cons r (.cons m (.cons o .nil))) q
def Ry{M β γ δ ε:Type}[Py M][Py β][Py γ][Py δ][Py ε]{pre:M->β->γ->δ->Prop}{g:M->β->γ->δ->ε}(F:uf K x qual st f fd)(u:ak N ps (ag st))(i:ps.length=4)(B:∀a c d y,pre a c d y->⇑Body N qual st f k [.val Â a,.val Â c,.val Â d,.val Â y] (RT b (g a c d y))):
  fU P w K mg base pd (k+1) f fd ps (HY K pre b g):=by
 stop
  refine F.ok u (λvs H Q E h=>?_) λo A outer s H vs Q E e h=>?_
  .obtain⟨O,v,m,j,v4,a,c,d,y,_,rfl,_⟩:=h;rw[i];rfl
  .obtain⟨O,v,m,j,v4,a,c,d,y,t,rfl,r,n,p,l,hp,q⟩:=h;exact nj (B a c d y hp) e t (.cons r (.cons n (.cons p (.cons l .nil)))) q
variable{X:Cx}{U:aI}{M β:Type}[Py M][Py β]{e:Ô}{b:Bool}{p p2 pos:ì}
def Fp{a:M}{T:Ï}{d:String}(k:Gl X "isinstance")(n:X.mg "isinstance"=none)(g:Gl X T)(f:X.mg T=none)(m:ē T=À (.type d))(ha:E X U e b a)
  (z:∀(Z2:List (Ç×û)) (s:Æ) (Y:St) (H:Hp) (N:Nn) (v:V) (u:Ä) (Q:Ä->Æ->Prop),Inv X Z2 Y H s->Py.rp X.K N H v a->RelV v u->(∀tk,Q (.bool c) {s with toks:=tk})->Í .E X.A (call (.builtin "isinstance") [u,.type d]) Q X.xe s)
  (j:autoParam (Å [e,.Name T p2] X.env=(Â,Û e X.env)::Å [.Name T p2] X.env) zra) (i:autoParam (Å [.Name T p2] X.env=(Â,Û (.Name T p2) X.env)::Å [] X.env) zra) (hpl:autoParam ((è pos (Å [.Name T p2] X.env)).any (·.1)=Â) zra)
  (y:autoParam (T≠"__name__") zrb) (l:autoParam ((T==("__debug__":Ï))=Â) zrb):
  E X U (.Call (.Name "isinstance" p) [e,.Name T p2] [] pos) Á c:=by
 stop
  have o:kU X (.builtin "isinstance") (λxs H Q=>∃N v,xs=[v,.ty d]/\Py.rp X.K N H v a/\Q (.bl c) H):=by
   intro Z2 s Y H xs us Q I r h;obtain⟨N,v,rfl,C,q⟩:=h;obtain⟨u,G,rfl,D,B⟩:=vals2 r;cases B;exact z Z2 s Y H N v u _ I C D λtk=>#[.bl c,H,I.tok _,rfl,q]
  exact aJ (f9 o k n boot_isinstance (aB ha (aB (Je (v:=.ty d) g f m rfl y l) a9 i) j) (he:=j) (hpl:=hpl)) λY H Q ⟨H0,F,O,S,q⟩=>#[H0,F,O,S,λv H1 x t=>#[_,v,rfl,aw (ar _ _) t,q _ H1 x rfl]]
def Av(d:Gl X "isinstance")(g:X.mg "isinstance"=none)(a:Gl X "int")(c:X.mg "int"=none)(ha:E X U e b i)
  (f:autoParam (Å [e,.Name "int" p2] X.env=(Â,Û e X.env)::Å [.Name "int" p2] X.env) zra):E X U (.Call (.Name "isinstance" p) [e,.Name "int" p2] [] pos) Á Á:=by
 stop
  exact Fp d g a c PyProof.Rows.boot_int ha (λZ2 s Y H N v u Q I h r q=>by
    cases h;obtain⟨t,rfl⟩:=r
    exact IsiPair.int_int (q s.toks)) f
def AD(d:Gl X "isinstance")(g:X.mg "isinstance"=none)(a:Gl X "bool")(c:X.mg "bool"=none)(ha:E X U e b i)
  (f:autoParam (Å [e,.Name "bool" p2] X.env=(Â,Û e X.env)::Å [.Name "bool" p2] X.env) zra):E X U (.Call (.Name "isinstance" p) [e,.Name "bool" p2] [] pos) Á Â:=by
 stop
  exact Fp d g a c PyProof.Rows.boot_bool ha (λZ2 s Y H N v u Q I h r q=>by
    cases h;obtain⟨t,rfl⟩:=r
    exact IsiPair.int_bool (q (s.toks+1))) f
def Ea{xs:List M}(g:Gl X "isinstance")(i:X.mg "isinstance"=none)(c:Gl X "list")(d:X.mg "list"=none)(ha:E X U e b xs)
  (h:autoParam (Å [e,.Name "list" p2] X.env=(Â,Û e X.env)::Å [.Name "list" p2] X.env) zra):E X U (.Call (.Name "isinstance" p) [e,.Name "list" p2] [] pos) Á Á:=by
 stop
  exact Fp g i c d aaZ ha (λZ2 s Y H N v u Q I j r q=>by
    obtain⟨a,ys,rfl,f,_,_⟩:=j;cases r;obtain⟨XV,l,pl,_⟩:=I.list f;obtain⟨o,h1,h2,n,k⟩:=pl.isList
    exact call_isinstance (isinstance_true (Tx:="list") F.isi_meta_list AutoSeq1.sub_list_list) #[#[o,h1,h2],q s.toks]) h
end
def Sm(n:Nat)(i:Int):Prop:=i.natAbs<2^n
def Sm.bits(h:Sm n i):Ë i<=n:=by
 unfold Ë;split
 .exact Yc _
 .rename_i hi
  have a:i.natAbs≠0:=by
   intro z;apply hi;simp;lia
  have:=(abq a).mpr h;lia
def Sm.le(h:Sm m i)(l:m<=n):Sm n i:=XR h (Zr .a l)
def Sm.ok(h:Sm m i)(h':Sm n j)(l:autoParam (m<=1048576) zrb)(a:autoParam (n<=1048576) zrb):ě i j:=IntMulOk.of_bits (X8 h.bits (X8 l .a)) (X8 h'.bits (X8 a .a))
def Sm.mul(h:Sm m i)(h':Sm n j):Sm (m+n) (i*j):=by
 unfold Sm at *;rw[XN,Nat.pow_add];rcases aaJ j.natAbs with z|z
 .rw[z,Nat.mul_zero];exact Nat.mul_pos (aaj _) (aaj _)
 .exact Nat.mul_lt_mul_of_lt_of_le h (YF h') (aaj _)
def Sm.add(h:Sm m i)(h':Sm n j):Sm (max m n+1) (i+j):=by
 have h1:i.natAbs<2^max m n:=XR h (Zr .a (Nat.le_max_left _ _));have h2:j.natAbs<2^max m n:=XR h' (Zr .a (Nat.le_max_right _ _));have a:=Int.natAbs_add_le i j;unfold Sm;rw[Z_];lia
def Sm.neg(h:Sm m i):Sm m (-i):=by unfold Sm at *;rwa[Ϟ]
def Sm.of_le(h:i.natAbs<=j.natAbs)(h':Sm n j):Sm n i:=aai h h'
def Sm.div(h:Sm n j)(a:j≠0)(l:autoParam (n<=9000) zrb):Bp i j:=#[a,(abq .b).mpr (XR h (Zr .a l))]
def mulL(h1:-(2^64)<i)(h2:i<2^64):ě i j:=JK.ok (.inl #[h1,h2])
def mulR(h1:-(2^64)<j)(h2:j<2^64):ě i j:=JK.ok (.inr #[h1,h2])
def vn(h:autoParam (j≠0) zrb)(h2:autoParam (j.natAbs.log2<9000) zrb):Bp i j:=#[h,h2]
def Sz(h:autoParam (0<=j) zrb)(h2:autoParam (j<=1000000) zrb)(a:autoParam (i.natAbs<2^64) zrb):EW i j:=#[h,h2,a]
def AI{k:Nat}{A:à}(a:dP k A):A.units+60<Ę:=by have:=a.un;lia
structure Bu(mg:Ï->Option Ä):Prop where
 abs:mg "abs"=none
 len:mg "len"=none
 min:mg "min"=none
 max:mg "max"=none
 range:mg "range"=none
 isinstance:mg "isinstance"=none
 int:mg "int"=none
 bool:mg "bool"=none
 list:mg "list"=none
 tuple:mg "tuple"=none
 sum:mg "sum"=none
 all:mg "all"=none
 zip:mg "zip"=none
 enumerate:mg "enumerate"=none
 any:mg "any"=none
 sorted:mg "sorted"=none
 set:mg "set"=none
 str:mg "str"=none
 reversed:mg "reversed"=none
def cY{a b:Int}(h:0<b):0<=a.fmod b/\a.fmod b<b:=#[aa0 a h,abt a h]
def Df(K:Ã)(x:Ï)(st:Ñ):Prop:=∃(f:Ç) (fd:ð),Ö K Ì x=À (À (.ref f))/\uf K x x st f fd
def Df.mk{st:Ñ}{f:Ç}{e:Ä}{od h:Option Ç}{d:Array (Option Ä)}{kV doc g b ct:Ä}(a:Ö K Ì x=À (À (.ref f)))
  (l:K.lookup f=À #[e,od,.func (ç x x (d7 st) (b7 st) (ag st) .none kV doc g h b ct),d]) (c:ġ K b x=Á) (k:Ċ K (.ref f)=Á):Df K x st:=#[f,_,a,Nl l c k]
def P4{h:ß}{mg:Ï->Option Ä}(X:K.In h)(G:h.Ns Ì mg)(r:Ö K Ì "abs"=À none)(t:Ö K Ì "len"=À none)(o:Ö K Ì "min"=À none)(m:Ö K Ì "max"=À none)
  (s:Ö K Ì "range"=À none) (l:Ö K Ì "isinstance"=À none) (n:Ö K Ì "int"=À none) (q:Ö K Ì "bool"=À none) (p:Ö K Ì "list"=À none) (b:Ö K Ì "tuple"=À none)
  (i:Ö K Ì "sum"=À none) (j:Ö K Ì "all"=À none) (f:Ö K Ì "zip"=À none) (a:Ö K Ì "enumerate"=À none) (e:Ö K Ì "any"=À none) (c:Ö K Ì "sorted"=À none) (g:Ö K Ì "set"=À none) (d:Ö K Ì "str"=À none) (k:Ö K Ì "reversed"=À none):Bu mg :=
 #[X3 X G r,X3 X G t,X3 X G o,X3 X G m,X3 X G s,X3 X G l,X3 X G n,X3 X G q,X3 X G p,X3 X G b,X3 X G i,X3 X G j,X3 X G f,X3 X G a,X3 X G e,X3 X G c,X3 X G g,X3 X G d,X3 X G k]
section
variable{P:Ð}{w:Ú}{K:Ã}{mg:Ï->Option Ä}{base h:ß}{x:Ï}{st:Ñ}{N ps:List Ï}{k:Nat}
def Df.Nh{sp:Sp}(D:Df K x st)(X:K.In h)(G:h.Ns Ì mg)(e:∀(kV doc c:Ä) (d:Option Ç) (b ct:Ä) (us:List Ä),us.length=ps.length->ģ (ç x x (d7 st) (b7 st) (ag st) .none kV doc c d b ct) #[us,[]]=pure (ps.zip us))
  (ok:∀f fd,uf K x x st f fd->⇑fU pd k f fd ps sp):⇑aH k x ps sp:=by
 obtain⟨f,fd,a,F⟩:=D;exact#[f,fd,ok f fd F,F.binds e,F.kp,aby X G a]
def yj(K:Ã):Sp:=cH K (fun(ns:List Int)=>ns.length<=63) Á (λ_=>Á)
theorem vK{K:Ã}{N:Nn}{H:Hp}:∀ns:List Int,Ý (λx (b:Int)=>Py.rp K N H x b) (ns.map V.int) ns
 |[]=>.nil
 |_::r=>.cons rfl (vK r)
def DK(K:Ã)(H:Hp)(a:Ç)(ns:List Int)(c:ns.length<=63)(b:dW K H a (ns.map V.int)):yj K [.ref a] H (λv _=>v=.bl Á) λ_ _ _=>False :=
 #[λ_=>False,.ref a,ns,λ_ z=>z.elim,rfl,by rw[Jy];exact#[a,_,rfl,b,É,vK ns],c,λr H' _ z=>z]
def Jf{i:Ç}{j:Ð}(D:Df K "law" st)(X:K.In h)(G:h.Ns Ì mg)(d:mg "law"=À (.ref i))
  (m:∀(kV doc c:Ä) (g:Option Ç) (b ct:Ä) (s:Æ) (u:Ä),Į s (ç "law" "law" (d7 st) (b7 st) (ag st) .none kV doc c g b ct) #[[u],[]] [(y,u)])
  (ok:∀base,K.In base->base.Ns Ì mg->∀f fd,uf K "law" "law" st f fd->fU j w K mg base pd k f fd [y] (yj K)):
  ∃fd:ð,(∀(s:Æ) (u:Ä),Į s fd #[[u],[]] [(y,u)])/\∀base:ß,K.In base->base.Ns Ì mg->fU j w K mg base pd k i fd [y] (yj K):=by
 obtain⟨f,fd,a,F⟩:=D;have e:=d.symm.trans (aby X G a);cases e;refine#[fd,?_,λbase l n=>ok base l n _ fd F];obtain⟨q,od,kV,doc,c,g,b,ct,o,rfl,lk,p⟩:=F.ex;exact m kV doc c g b ct
end
def QI{M:Type}[Py M](K:Ã)(H0:Hp)(O:Ç->Prop)(b:Bool)(as:List M)(J:It)(H1:Hp):Prop :=
 ∀(H':Hp) (d:Ç->Prop),oR H' d->aG (off H1 O) (off H' d)->(∀(i:Nat) (a:M),as[i]?=À a->J.go i H'/\∀x c,J.yld i H' x c->aG H' c/\Py.rp K (Nf H0 b) (off c d) x a)/\J.stop as.length H'
def EI{M:Type}[Py M](X:Cx)(U:aI)(tg iter:Ô)(b:Bool)(as:List M):Prop:=∃wi,PI X tg iter wi /\
 ∀(Y:St) (H H0:Hp) (F O:Ç->Prop) (R:It->Hp->Prop),dM X.K H0 F O U Y H->(∀J H1,aG H H1->QI X.K H0 O b as J H1->R J H1)->wi Y H R
def kG(lo c:Int)(n:Nat):List Int:=(Ò n).map λi:Nat=>lo+(i:Int)*c
def FJ{c:Int}{i:Nat}{a:Int}(h:(kG lo c n)[i]?=À a):i<n/\a=lo+(i:Int)*c:=by
 unfold kG at h;rw[Xw] at h;by_cases hi:i<n
 .rw[Š hi] at h;exact#[hi,(Xy h).symm]
 .rw[Y7 (by rw[Zb];lia)] at h;cases h
def Gk(lo c:Int)(n:Nat):(kG lo c n).length=n:=by unfold kG;rw[Xk,Zb]
section
variable{X:Cx}{U:aI}{M β:Type}[Py M][Py β]{e e1 e2 e3 tg:Ô}{b b1 b2 b3:Bool}
def bc{xs:List M}(he:E X U e b xs):EI X U tg e b xs:=by
 stop
  exact#[_,Cp he,λY H H0 F O R Z q=>#[H0,F,O,Z,λv H1 j h=>by
   obtain⟨p,vs,e,c,nn,f⟩:=h;refine#[p,e,#[vs,(ar _ _).seq c],q _ H1 j λH' l _ sm=>#[λi a ha=>?_,?_]]
   .obtain⟨x,h1,h2⟩:=ig f ha;refine#[#[vs,x,(ar _ _).seq (sm.seq c),h1],λy k d=>?_];obtain⟨g,d⟩:=d;subst g;have:=d vs ((ar _ _).seq (sm.seq c));rw[h1] at this;cases this;exact#[aG.refl _,aw sm h2]
   .exact#[vs,(ar _ _).seq (sm.seq c),by rw[bE f];exact Xm _]]]
def DI{O:Ç->Prop}{H1:Hp}:QI K H0 O Á (kG lo 1 n) (MH lo n) H1:=λH' d _ sm=>#[λi a ha=>by
 obtain⟨h1,h2⟩:=FJ ha;refine#[h1,λx b c=>?_];obtain⟨e1,e2⟩:=c;subst e1 e2 h2
 exact#[aG.refl _,by show V.int _=V.int _;rw[XC]],by show n<=_;rw[Gk];exact Xm _]
def zk{n:Int}{p:ì}(d:Gl X "range")(g:X.mg "range"=none)(he:E X U e b n)(h1:-(2^62)<=n)(h2:n<2^62)
  (f:autoParam (Å [e] X.env=[(Â,Û e X.env)]) zra) (a:autoParam (Å [e] X.env=(Â,Û e X.env)::Å [] X.env) zra):EI X U tg (.Call (.Name "range" p) [e] [] ps) Á (kG 0 1 n.toNat):=by stop exact#[_,uZ d g (aB he a9 a) f,λY H H0 F O R Z q=>#[H0,F,O,Z,λv H1 c h=>#[n,by cases h;rfl,h1,h2,q _ H1 c DI]]]
def qh{D:GD}{pos:ì}{body:List Ñ}{g:TG}{tc:Nat->Prop}{put:Bool->M->aI->aI}{as:List M}(J:Nat->aI->Prop)(t:G X tg g M put tc)(he:EI X U tg e b as)(y:J 0 U)
  (L:∀(i:Nat) (a:M) U',as[i]?=À a->J i U'->S X (put b a U') body {D with nx:=J (i+1),ct:=J (i+1),bk:=λΓ2=>S X Γ2 rest D}) (B:∀U',J as.length U'->S X U' rest D)
  (E:autoParam (X.calm=Á) zra) (hp:ď .E X.A X.env X.xe:=by exact ZQ)
  (s:autoParam (∀x,Ü e X.env x=pure x) zrc):S X U (.For tg e body [] pos::rest) D:=by
 stop
  obtain⟨wi,hi,α⟩:=he;refine dU (dS (oM hp E hi t.1 (tb:=kE X body) gW s) λQ Y H ⟨H0,F,O,Z,nx,r,bk,ct⟩=>?_);refine α Y H H0 F O _ Z λR H1 p XV=>?_;refine#[λi m Y' H'=>m=as.length-i/\i<=as.length/\∃U' f,aG (off H1 O) (off H' f)/\dM X.K H0 F f U' Y' H'/\J i U',#[_,rfl,Yc _,U,O,aG.refl _,Z.go p,y],?_];rintro i m Y' H' ⟨rfl,v,U',f,sm,o,j⟩;obtain⟨N,P⟩:=XV H' f o.own sm;by_cases k:i<as.length
  .have ha:as[i]?=À as[i]:=Xn k;obtain⟨go,u⟩:=N i _ ha;refine .inr #[go,λσ2 H2=>∃Γ2 d,aG (off H1 O) (off H2 d)/\dM X.K H0 F d Γ2 σ2 H2/\J (i+1) Γ2,λσ2 H2 q=>#[as.length-(i+1),.e,rfl,k,q],λx l I=>?_];obtain⟨n,z⟩:=u x l I;refine t.2 b as[i] H0 F f U' Y' l _ _ (o.go n) z λσ2 h _ _=>?_;refine#[_,_,L i _ U' ha j,H0,F,f,h,?_,r,?_,?_]
   .exact λΓ2 σ2 H2 d c h q=>#[Γ2,d,sm.trans ((ah n).trans c),h,q]
   .exact λΓ2 σ2 H2 d c h q=>nx Γ2 σ2 H2 d ((ah p).trans (sm.trans ((ah n).trans c))) h q
   .exact λΓ2 σ2 H2 d c h q=>#[Γ2,d,sm.trans ((ah n).trans c),h,q]
  .have C:i=as.length:=by omega
   subst C;exact .inl #[P,nx U' Y' H' f ((ah p).trans sm) o (B U' j)]
end
noncomputable def cB:Option (Option Bd)->Option Bd
 |some (À (@Bd.val _ _ b a))=>À (.val b a)
 |_=>none
def cΓ(U:aI)(tn:List Ï)(js:List Nat):aI:=tn.map (λ_=>none)++js.map λj=>cB U[j]?
def MT{o:Option (Option Bd)}(h:cB o=À g):o=À (À g)/\¬g.g9:=by
 unfold cB at h;split at h
 .cases h;exact#[rfl,λz=>z]
 .cases h
def Hy{U:aI}{i:Nat}(h:(cΓ U tn js)[i]?=À (À g)):∃j,js[i-tn.length]?=À j/\tn.length<=i/\U[j]?=À (À g)/\¬g.g9/\(cσ Y tn js)[i]?=À ((Y[j]?).getD none):=by
 unfold cΓ at h;unfold cσ;by_cases hi:i<tn.length
 .rw[YJ ↑hi,Xw] at h;cases q:tn[i]? with
  |none=>rw[q] at h;cases h
  |some y=>rw[q] at h;cases h
 .rw[Y0 ↑hi,Xw,Xk] at h;rw[Y0 ↑hi,Xw,Xk];cases q:js[i-tn.length]? with
  |none=>rw[q] at h;cases h
  |some j =>
   rw[q] at h;obtain⟨h1,h2⟩:=MT (Xy h);exact#[j,rfl,.b,h1,h2,rfl]
section
variable{K:Ã}{H0:Hp}{F O:Ç->Prop}{U:aI}{Y:St}{H:Hp}
def dM.iV(Z:dM K H0 F O U Y H)(tn:List Ï)(js:List Nat):dM K H0 F O (cΓ U tn js) (cσ Y tn js) H where
 same:=Z.same
 fo:=Z.fo
 f0:=Z.f0
 own:=Z.own
 len:=by unfold cΓ cσ;simp
 at_:=λi g e n=>by
  obtain⟨j,h1,h2,b,a,d⟩:=Hy (Y:=Y) e;obtain⟨v,q1,c⟩:=Z.at_ j g b n;exact#[v,by rw[d,q1];rfl,c]
 dis:=#[λ_ _=>False,λ_ _ _ z=>z.elim,λ_ _ z=>z.elim,λi g e o=>by
  obtain⟨_,_,_,_,a,_⟩:=Hy (Y:=Y) e
  exact absurd o a]
def dM.ownIn{D:Ç}(Z:dM K H0 F O U Y H)(j:H D=none)(sm:aG H H')(k:H' D=À (.lst xs)):dM K H0 F (λp=>O p\/p=D) U Y H'/\aG .F (off H' λp=>O p\/p=D):=by
 have f:aG .F (off H' λp=>O p\/p=D):=λb o h=>by
  obtain⟨h1,h2⟩:=dn h;have s:b≠D:=λz=>by rw[z,j] at h2;cases h2
  rw[aS (by rintro(z|z);exact h1 z;exact s z)];exact sm _ _ h2
 refine#[#[Z.same.trans sm,λp h=>.inl (Z.fo p h),Z.f0,λp h=>?_,Z.len,λi g e n=>?_,?_],f]
 .rcases h with h|h
  .obtain⟨ys,q⟩:=Z.own p h;exact#[ys,sm _ _ q]
  .subst h;exact#[.inl xs,k]
 .obtain⟨v,q1,c⟩:=Z.at_ i g e n;refine#[v,q1,?_];cases g with
  |val b a=>exact aw f c
  |own b as=>exact c
  |dpo a=>exact c
 .obtain⟨r,m,d,l⟩:=Z.dis;refine#[r,m,λi p h=>#[.inl (d i p h).1,(d i p h).2],λi g e o=>?_];obtain⟨v,q1,c⟩:=l i g e o;exact#[v,q1,Bd.PQ c (λp ys _ z=>sm _ _ z) f (λp z=>(d i p z).1) Z.own]
variable{X:Cx}{D:GD}{M β:Type}[Py M][Py β]{elt target iter c:Ô}{b b':Bool}{pos:ì}{ZB:ą}{tn:List Ï}{js:List Nat}{g:TG}{tc:Nat->Prop}{put:Bool->M->aI->aI}{as:List M}{f:M->β}{p:M->Bool}{ifs:List Ô}
def Sg(X:Cx)(tn:List Ï)(js:List Nat)(ZB:ą)(elt:Ô)(β:Type)[Py β](b:Bool):TE:=λY H Q=>∃U',∃v:β,(∀C s H fp,E .G U' elt b v)/\tV X.K U' b v Y H Q
@[irreducible] def FT(X:Cx)(U:aI)(ifs:List Ô)(c:Bool):Prop:=PF X ifs (N2 X.K U c)
def Se(X:Cx)(tn:List Ï)(js:List Nat)(ZB:ą)(ifs:List Ô):TT:=λY H Q=>∃U' c,(∀C s H fp,FT .G U' ifs c)/\N2 X.K U' c Y H Q
def Eo:FT X U [] Á:=by stop exact λZ2 s Y H Q I ⟨H0,F,O,Z,q⟩=>L9 Z2 s Y H Q I (q H (aG.refl _))
def kL{k:Bool}(h:T X U c k):FT X U [c] k:=by stop exact LZ h
def BK{wi:TI}(hw:∀(Y:St) (H H0:Hp) (F O:Ç->Prop) (R:It->Hp->Prop),dM X.K H0 F O U Y H->(∀J H1,aG H H1->QI X.K H0 O b as J H1->R J H1)->wi Y H R)
  (B:GP g M put tc X.K) (L:∀j,tc j->j<tn.length)
  (ht:∀(i:Nat) (a:M),as[i]?=À a->∀C s H fp,FT .G (put b a (cΓ U tn js)) ifs (p a))
  (hb:∀(i:Nat) (a:M),as[i]?=À a->p a=Á->∀C s H fp,E .G (put b a (cΓ U tn js)) elt b' (f a)) (V:as.length<=1000)
  {Y:St} {H:Hp} {Q:VK} {H0:Hp} {F O:Ç->Prop} (Z:dM X.K H0 F O U Y H) (q:∀v H',aG H H'->Py.rp X.K (Nf H0 b') (off H' O) v ((as.filter p).map f)->Q v H'):
  QE wi tn js g (Se X tn js ZB ifs) (Sg X tn js ZB elt β b') Y H Q:=by
 stop
  refine hw Y H H0 F O _ Z λJ H1 S XV D u=>?_;have α:=Z.go S
  refine#[λi m H' xs=>m=as.length-i/\i<=as.length/\aG H1 H'/\H' D=À (.lst xs)/\Ý (λx a=>Py.rp X.K (Nf H0 b') (off H' λp=>O p\/p=D) x a) xs (((as.take i).filter p).map f),
   #[_,rfl,Yc _,cf u _,aQ,.nil],?_]
  rintro i m H' xs ⟨rfl,hi,sm,n,t⟩;refine#[n,?_];obtain⟨P,σ⟩:=α.ownIn u sm n;obtain⟨t1,t2⟩:=XV H' _ P.own σ;by_cases h:i<as.length
  .have ha:as[i]?=À as[i]:=Xn h;have r:as.take (i+1)=as.take i++[as[i]]:=by rw[abo,ha];rfl
   obtain⟨go,yl⟩:=t1 i _ ha;refine .inr #[go,λx A hy=>?_];obtain⟨d,rx⟩:=yl x A hy;refine B b as[i] H0 F _ (cΓ U tn js) (cσ Y tn js) A x _ ((P.go d).iV tn js) rx λσ2 T l2 k2=>?_;refine#[#[λj v hj e=>?_,l2],_,_,ht i _ ha,H0,F,_,T,λH3 k=>?_]
   .rwa[k2 j λz=>absurd (L j z) (aaA.mpr hj)]
   cases hp:p as[i] with
   |false =>
    refine uv #[as.length-(i+1),.b,rfl,h,sm.trans (d.trans k),k _ _ (d _ _ n),?_];rw[r,Ű,aa5,hp];simp only[Zm,ZT,τ,aah];exact bM (λ_ _ z=>aw (ah (d.trans k)) z) t
   |true =>
    refine uh #[_,_,hb i _ ha hp,H0,F,_,T.go k,λy H4 G ry=>?_];have I:H4 D=À (.lst xs):=G _ _ (k _ _ (d _ _ n));have N:(λp=>O p\/p=D) D:=.inr rfl;refine#[I,?_,as.length-(i+1),.b,rfl,h,?_,aQ,?_]
    .have:=bE t;rw[Xk] at this;have h2:=acx p (as.take i);have h3:=List.length_take_le i as;exact aai .b (de V)
    .exact λc o z=>by
      have W:c≠D:=λw=>by rw[w,u] at z;cases z
      rw[aC W];exact G _ _ (k _ _ (d _ _ (sm _ _ z)))
    .rw[qX N,r,Ű,aa5,hp];simp only[aat,τ,Y3,XQ,ϵ];exact xb (bM (λ_ _ z=>aw (ah (d.trans (k.trans G))) z) t) (.cons ry .nil)
  .have Γ:i=as.length:=by lia
   subst Γ;rw[YB] at t;have l:off H' O D=À (.lst xs):=by rwa[aS (α.mF u)]
   refine .inl #[t2,q _ H' (S.trans sm) #[D,xs,rfl,dW.of l,Nf.wk (α.iq u) l,?_]]
   .exact bM (λ_ _ z=>aw (mR λ_ w=>.inl w) z) t
def FD{H:Hp}:PE .G elt (Sg X tn js ZB elt β b'):=by stop exact λZ2 s' Y H' Q I ⟨U',v,h,q⟩=>(show PE .G elt (tV X.K U' b' v) from h C s H fp) Z2 s' Y H' Q I q
def FZ{H:Hp}:PF .G ifs (Se X tn js ZB ifs):=by stop exact λZ2 s' Y H' Q I ⟨U',c,h,q⟩=>(show PF .G ifs (N2 X.K U' c) from h C s H fp) Z2 s' Y H' Q I q
def Bt(tn:List Ï)(js:List Nat)(S:ik X ZB tn js)(he:EI X U target iter b as)(c:GP g M put tc X.K)(e:∀C s H fp,PG .G target g)(d:∀j,tc j->j<tn.length)
  (o:∀(i:Nat) (a:M),as[i]?=À a->∀C s H fp,FT .G (put b a (cΓ U tn js)) ifs (p a))
  (n:∀(i:Nat) (a:M),as[i]?=À a->p a=Á->∀C s H fp,E .G (put b a (cΓ U tn js)) elt b' (f a)) (k:as.length<=1000) (m:autoParam (X.calm=Á) zra)
  (l:autoParam (∀x,Ü iter X.env x=pure x) zrc):E X U (.ListComp elt [#[target,iter,ifs,0]] ZB pos) b' ((as.filter p).map f):=by stop obtain⟨wi,hi,h⟩:=he;exact aJ (ON S m hi (λC s H fp=>#[e C s H fp,FZ,FD]) l) λY H Q ⟨H0,F,O,Z,q⟩=>BK h c d o n k Z q
def eE(tn:List Ï)(js:List Nat)(S:ik X ZB tn js)(he:EI X U target iter b as)(c:GP g M put tc X.K)(e:∀C s H fp,PG .G target g)(d:∀j,tc j->j<tn.length)
  (n:∀(i:Nat) (a:M),as[i]?=À a->∀C s H fp,E .G (put b a (cΓ U tn js)) elt b' (f a)) (k:as.length<=1000) (m:autoParam (X.calm=Á) zra)
  (l:autoParam (∀x,Ü iter X.env x=pure x) zrc):E X U (.ListComp elt [#[target,iter,[],0]] ZB pos) b' (as.map f):=by stop have h:=Bt (pos:=pos) (p:=λ_=>Á) tn js S he c e d (λi a _ C s H fp=>Eo) (λi a ha _=>n i a ha) k m l;rwa[abl.mpr (λ_ _=>rfl)] at h
def iF(i:Nat){py c:ì}(r:X.N.Nodup)(tn:List Ï)(js:List Nat)(I:ik X ZB tn js)(he:EI X U target iter b as)(d:GP g M put tc X.K)(q:∀C s H fp,PG .G target g)(l:∀j,tc j->j<tn.length)
  (G:∀(i:Nat) (a:M),as[i]?=À a->∀C s H fp,FT .G (put b a (cΓ U tn js)) ifs (p a))
  (A:∀(i:Nat) (a:M),as[i]?=À a->p a=Á->∀C s H fp,E .G (put b a (cΓ U tn js)) elt b' (f a)) (t:as.length<=1000)
  (h:S X (U.set i (À (.val b' ((as.filter p).map f)))) rest D) (e:autoParam (X.N[i]?=À y) zra) (B:autoParam (Loc X.env.scope y) zri)
  (o:autoParam (X.fn y=Á\/X.env.scope.names.lookup y=À .local) zrd) (w:autoParam (X.calm=Á) zra)
  (k:autoParam (õ (.ListComp elt [#[target,iter,ifs,0]] ZB pos) (À (.Name y py)) c.line X.env=pure Á) zra)
  (u:autoParam (∀x,Ü iter X.env x=pure x) zrc):EP.S X U (.Assign [.Name y py] (.ListComp elt [#[target,iter,ifs,0]] ZB pos) c::rest) D:=by stop obtain⟨wi,hi,J⟩:=he;exact dU (dS (Gv r e B o I w hi (λC s H fp=>#[q C s H fp,FZ,FD]) k u) λL Y H ⟨H0,F,O,Z,n,_⟩=>BK J d l G A t Z λv H1 m z=>n _ _ H1 O (ah m) ((Z.go m).set z) h)
def ua(i:Nat){py c:ì}(r:X.N.Nodup)(tn:List Ï)(js:List Nat)(n:ik X ZB tn js)(he:EI X U target iter b as)(d:GP g M put tc X.K)(o:∀C s H fp,PG .G target g)(e:∀j,tc j->j<tn.length)
  (q:∀(i:Nat) (a:M),as[i]?=À a->∀C s H fp,E .G (put b a (cΓ U tn js)) elt b' (f a)) (t:as.length<=1000)
  (h:S X (U.set i (À (.val b' (as.map f)))) rest D) (k:autoParam (X.N[i]?=À y) zra) (w:autoParam (Loc X.env.scope y) zri)
  (m:autoParam (X.fn y=Á\/X.env.scope.names.lookup y=À .local) zrd) (v:autoParam (X.calm=Á) zra)
  (l:autoParam (õ (.ListComp elt [#[target,iter,[],0]] ZB pos) (À (.Name y py)) c.line X.env=pure Á) zra)
  (u:autoParam (∀x,Ü iter X.env x=pure x) zrc):EP.S X U (.Assign [.Name y py] (.ListComp elt [#[target,iter,[],0]] ZB pos) c::rest) D:=by stop refine iF (p:=λ_=>Á) i r tn js n he d o e (λi a _ C s H fp=>Eo) (λi a ha _=>q i a ha) t ?_ k w m v l u;rwa[abl.mpr (λ_ _=>rfl)]
end
theorem xV:∀{bs:List Bool} {us:List Ä},Vals (bs.map V.bl) us->LSm.BoolsAre us bs
 |[],_,h=>by cases h;exact .nil
 |b::r,_,h=>by
  cases h with
  |cons h1 h2=>cases h1;exact .cons b (xV h2)
section
variable{X:Cx}
def DA(j:X.calm=Á):kU X (.builtin "all") (λxs H Q=>∃p,∃bs:List Bool,xs=[.ref p]/\dW X.K H p (bs.map V.bl)/\Q (.bl (bs.all id)) H):=by
 intro Z2 s Y H xs us Q I r h;obtain⟨p,bs,rfl,k,q⟩:=h;obtain⟨u,rfl,n⟩:=vals1 r;cases n;obtain⟨XV,m,pl,_⟩:=I.list k;have f:=xV m;have c:=pl.isList;have a:p<s.heap.objs.size:=by obtain⟨_,e,_⟩:=c;exact Xr e
 refine call_all_walk (abE c ?_)
 refine#[s.heap.objs.size,[s.heap.objs.size,p],[s.heap.objs.size],XV.toArray.size,_,_,λi=>(bs[i]?).getD Á,rfl,Walks.list (A:=X.A.in1) (I.ok.hd j) _ p (XS a) XV.toArray,
  #[#[_,Xz _ rfl,rfl,rfl],c.push _],λi v s' o t g d=>?_,λh' tk l=>?_]
 .obtain⟨b,e,rfl⟩:=f.get i v ↑g;simp only[e,Ŭ] at d;exact YM d
 .have e:((Ò XV.toArray.size).all λi=>(bs[i]?).getD Á)=bs.all id:=by
   rw[XB,f.length];exact LSm.range_all bs
  rw[e];exact#[.bl _,H,I.kept (LSm.kept_iter l),rfl,q]
end
theorem K6{K:Ã}{N:Nn}{H:Hp}:∀{xs:List V} {bs:List Bool},Ý (λx (b:Bool)=>Py.rp K N H x b) xs bs->xs=bs.map V.bl
 |_,_,.nil=>rfl
 |_,_,.cons h t=>by rw[show _=V.bl _ from h,K6 t];rfl
theorem sJ{K:Ã}{N:Nn}{H:Hp}:∀{xs:List V} {bs:List Int},Ý (λx (b:Int)=>Py.rp K N H x b) xs bs->xs=bs.map V.int
 |_,_,.nil=>rfl
 |_,_,.cons h t=>by rw[show _=V.int _ from h,sJ t];rfl
section
variable{X:Cx}{U:aI}{M β γ:Type}[Py M][Py β][Py γ]{e e1 e2 e3:Ô}{b b1 b2 b3:Bool}{pos:ì}
def La{bs:List Bool}{p:ì}(h:X.calm=Á)(f:Gl X "all")(g:X.mg "all"=none)(ha:E X U e b bs)(c:autoParam (Å [e] X.env=(Â,Û e X.env)::Å [] X.env) zra):E X U (.Call (.Name "all" p) [e] [] pos) Á (bs.all id):=by
 stop
  exact aJ (f9 (DA h) f g PyProof.Rows.boot_all (aB ha a9 c) (he:=c)) λY H Q ⟨H0,F,O,S,q⟩=>#[H0,F,O,S,λv H1 d i=>by
    obtain⟨p,vs,e,a,n,r⟩:=i;rw[K6 r] at a
    exact#[p,bs,by rw[e],(ar _ _).seq a,q _ H1 d rfl]]
end
noncomputable def So(a:ą)(N:List Ï)(ZB:ą)(js:List Nat):Bool :=
 (ZB.kind==.function)&&ZB.names.all (λx=>(!(x.2==.local) || ZB.names.lookup x.1==À .local)&&(!(x.2==.free) || (ZB.names.lookup x.1==À .free&&(a.names.lookup x.1==À .cell || a.names.lookup x.1==À .free)))&&ZB.names.all (λy=>!(x.1==y.1) || x.2==y.2)) &&
  js.all (λj=>match N[j]? with|some x=>ZB.names.lookup x==À .free|none=>Â)
def bG{ZB:ą}(b:ą)(N:List Ï)(h1:X.env.scope=b)(h2:X.N=N)(h:So b N ZB js=Á):ik X ZB tn js:=by
 subst h1 h2;unfold So at h;simp only[XW,XX] at h;obtain⟨⟨k,ha⟩,i⟩:=h;refine#[↑k,λx a e=>?_,λx a e=>?_,λx a y l e=>?_,λj f=>?_]
 .obtain⟨⟨h1,h2⟩,c⟩:=ha x a;simpa [e] using h1
 .obtain⟨⟨h1,h2⟩,c⟩:=ha x a;have d:(ZB.names.lookup x.1==À .free&&(X.env.scope.names.lookup x.1==À .cell || X.env.scope.names.lookup x.1==À .free))=Á:=by simpa [e] using h2
  obtain⟨q1,g⟩:=YG.mp d;refine#[↑q1,?_];rcases Bool.or_eq_true_iff.mp g with z|z
  .exact .inl (show X.env.scope.names.lookup x.1=_ by simpa using z)
  .exact .inr (show X.env.scope.names.lookup x.1=_ by simpa using z)
 .obtain⟨⟨h1,h2⟩,c⟩:=ha x a;have:=c y l;simpa [e] using this
 .have:=i j f;split at this
  .rename_i x a;exact#[x,a,↑this]
  .cases this
theorem Ff{env:ĵ}{x:Ï}:∀(names:List (Ï×ï)),(names.map fun(n,k)=>if (k==Þ&&env.scope.kind==.function&&env.kindOf n==À .cell) then (n,á) else (n,k)).lookup x =
  (names.lookup x).map λk=>if (k==Þ&&env.scope.kind==.function&&env.kindOf x==À .cell) then á else k
 |[]=>rfl
 | (n,k) :: r=>by
  have c:=Ff (env:=env) (x:=x) r;by_cases e:x=n
  .subst e
   cases a:(k==Þ&&env.scope.kind==.function&&env.kindOf x==À .cell) <;>
    simp only[a,XQ,ZE,aaz,aat,Ž,Zm,ZT]
  .have b:(x==n)=Â:=by simpa using e
   cases a:(k==Þ&&env.scope.kind==.function&&env.kindOf n==À .cell) <;>
    simp only[a,b,XQ,ZE,aat,Zm,ZT]<;>exact c
def wA{env:ĵ}{names:List (Ï×ï)}(h:names.lookup x=À .cell):(names.map fun(n,k)=>if (k==Þ&&env.scope.kind==.function&&env.kindOf n==À .cell) then (n,á) else (n,k)).lookup x=À .cell:=by
 rw[Ff,h];rfl
def cL{ZB:ą}{pos:ì}(i:Nat)(N:List Ï)(h:autoParam (cN X tn js=N) zra)(b:autoParam (N.Nodup) zrh)(hi:autoParam (N[i]?=À x) zra)
  (a:autoParam (ZB.names.lookup x=À .local\/ZB.names.lookup x=À .cell) zrd):PG .G (.Name x pos) (ke i):=by
 refine nZ (show(cN X tn js).Nodup by rwa[h]) (show(cN X tn js)[i]?=À x by rwa[h]) ?_ ?_
 .rcases a with z|z
  .exact .inl (ν z)
  .exact .inr (wA z)
 .rcases a with z|z
  .exact .inr (ν z)
  .refine .inl ?_;show(match ZB.names.lookup x with|some .cell=>Á|_=>Â)=Á;rw[z]
def aX{i:Nat}(h:autoParam (i<n) zrb):∀j,j=i->j<n:=λj e=>by rwa[e]
section
variable{K:Ã}{H0:Hp}{F O:Ç->Prop}{U:aI}{Y:St}{H H':Hp}
def dM.Ab{i:Nat}(Z:dM K H0 F O U Y H)(sm:aG H H')(N:Ç->Prop)(f:∀q,N q->H q=none/\∃xs:Mt,H' q=À (mo xs))(g:Bd)(x:g.g9)(y:g.AR K H0 (λp=>O p\/N p) H' N v):
  dM K H0 F (λp=>O p\/N p) (U.set i (À g)) (Y.set i (À v)) H'/\aG .F (off H' λp=>O p\/N p):=by
 have t:aG .F (off H' λp=>O p\/N p):=λb o h=>by
  obtain⟨h1,h2⟩:=dn h;have B:¬N b:=λz=>by rw[(f b z).1] at h2;cases h2
  rw[aS (by rintro(z|z);exact h1 z;exact B z)];exact sm _ _ h2
 refine#[#[Z.same.trans sm,λp h=>.inl (Z.fo p h),Z.f0,λp h=>?_,by rw[Yr,Yr];exact Z.len,λj g' e n=>?_,?_],t]
 .rcases h with h|h
  .obtain⟨ys,q⟩:=Z.own p h;exact#[ys,sm _ _ q]
  .exact(f p h).2
 .by_cases c:j=i
  .subst c;obtain⟨u,s⟩:=get_set_some e;subst s;exact absurd x n
  .rw[get_set_ne c] at e;obtain⟨w,q1,l⟩:=Z.at_ j g' e n;refine#[w,by rw[get_set_ne c];exact q1,?_];cases g' with
   |val b a=>exact aw t l
   |own b as=>exact l
   |dpo a=>exact l
 .obtain⟨D,A,d,C⟩:=Z.dis;refine#[λj q=>(j=i/\N q)\/(j≠i/\D j q),λj k q h1 h2=>?_,λj q h=>?_,λj g' e o=>?_]
  .rcases h1 with⟨e1,r⟩|⟨e1,r⟩<;>rcases h2 with⟨e2,m⟩|⟨e2,m⟩
   .rw[e1,e2]
   .exact absurd (d k q m).1 (Z.mF (f q r).1)
   .exact absurd (d j q r).1 (Z.mF (f q m).1)
   .exact A j k q r m
  .rcases h with⟨_,n⟩|⟨_,n⟩
   .exact#[.inr n,Z.iq (f q n).1]
   .exact#[.inl (d j q n).1,(d j q n).2]
  .by_cases c:j=i
   .subst c;obtain⟨u,s⟩:=get_set_some e;subst s;refine#[v,get_set_eq (by rwa[Z.len]),?_];have:(λq=>(j=j/\N q)\/(j≠j/\D j q))=N:=funext λq=>propext #[λz=>by rcases z with⟨_,z⟩|⟨z,_⟩;exact z;exact absurd rfl z,λz=>.inl #[rfl,z]];show Bd.AR K H0 (λp=>O p\/N p) H' (λq=>(j=j/\N q)\/(j≠j/\D j q)) v g;rwa[this]
   .rw[get_set_ne c] at e;obtain⟨w,q1,l⟩:=C j g' e o;refine#[w,by rw[get_set_ne c];exact q1,?_];have:(λq=>(j=i/\N q)\/(j≠i/\D j q))=D j:=funext λq=>propext #[λz=>by rcases z with⟨z,_⟩|⟨_,z⟩;exact absurd z c;exact z,λz=>.inr #[c,z]];show Bd.AR K H0 (λp=>O p\/N p) H' (λq=>(j=i/\N q)\/(j≠i/\D j q)) w g';rw[this];exact Bd.PQ l (λp ys _ z=>sm _ _ z) t (λp z=>(d j p z).1) Z.own
def dM.AV{i:Nat}(Z:dM K H0 F O U Y H)(s:U[i]?=À (À g))(I:g.g9):∃v D,Y[i]?=À (À v)/\g.AR K H0 O H D v/\(∀p,D p->O p/\H0 p=none) /\
  ∀(p:Ç) (ys:Mt) (g':Option Bd),D p->(∀d,g'=À d->d.g9/\d.AR K H0 O (upd H p (mo ys)) D v)->dM K H0 F O (U.set i g') Y (upd H p (mo ys))/\off (upd H p (mo ys)) O=off H O:=by
 obtain⟨D,A,h,B⟩:=Z.dis;obtain⟨v,q1,G⟩:=B i g s I;refine#[v,D i,q1,G,h i,λp ys g' hp m=>?_];have u:=(h i p hp).1;have x:=qX (H:=H) (o:=mo ys) u;refine#[#[λb o z=>?_,Z.fo,Z.f0,λb E=>?_,by rw[Yr];exact Z.len,λj c e n=>?_,D,A,h,λj c e o=>?_],x]
 .have:b≠p:=λw=>by rw[w,(h i p hp).2] at z;cases z
  rw[aC this];exact Z.same _ _ z
 .by_cases k:b=p
  .subst k;exact#[ys,aQ]
  .rw[aC k];exact Z.own b E
 .by_cases f:j=i
  .subst f;have t:j<U.length:=(Xl.mp s).1;rw[get_set_eq t] at e;have r:g'=À c:=Xy e;exact absurd (m c r).1 n
  .rw[get_set_ne f] at e;obtain⟨w,y,l⟩:=Z.at_ j c e n;refine#[w,y,?_];cases c with
   |val b a =>
    show Py.rp K _ (off (upd H p _) O) w a;rwa[x]
   |own b as=>exact l
   |dpo a=>exact l
 .by_cases f:j=i
  .subst f;have t:j<U.length:=(Xl.mp s).1;rw[get_set_eq t] at e;have r:g'=À c:=Xy e;exact#[v,q1,(m c r).2]
  .rw[get_set_ne f] at e;obtain⟨w,y,l⟩:=B j c e o;refine#[w,y,Bd.PQ l (λq xs C z=>?_) (by rw[x];exact aG.refl _) (λq z=>(h j q z).1) Z.own];have:q≠p:=λw=>f (A j i q C (w▸hp));rwa[aC this]
def dM.write{i:Nat}(Z:dM K H0 F O U Y H)(e:U[i]?=À (À g))(h:g.g9):∃v D,Y[i]?=À (À v)/\g.AR K H0 O H D v/\(∀p,D p->O p/\H0 p=none) /\
  ∀(p:Ç) (ys:List V) (g':Option Bd),D p->(∀d,g'=À d->d.g9/\d.AR K H0 O (upd H p (.lst ys)) D v)->dM K H0 F O (U.set i g') Y (upd H p (.lst ys))/\off (upd H p (.lst ys)) O=off H O:=by
 obtain⟨v,D,a,b,c,f⟩:=Z.AV e h;exact#[v,D,a,b,c,λp ys=>f p (.inl ys)]
def dM.freeze{i:Nat}{g':Bd}(Z:dM K H0 F O U Y H)(C:U[i]?=À (À g))(J:g.g9)(E:¬g'.g9)
  (I:∀(D c:Ç->Prop) v,g.AR K H0 O H D v->(∀p,D p->H0 p=none/\¬c p)->aG .F (off H c)->(∀p xs,Rt H p xs->Rt (off H c) p xs)->g'.ok K H0 c H v):
  ∃c,dM K H0 F c (U.set i (À g')) Y H/\aG .F (off H c):=by
 obtain⟨D,A,d,B⟩:=Z.dis;obtain⟨v,q1,G⟩:=B i g C J;have t:aG .F (off H λp=>O p/\¬D i p):=mR λp h=>h.1;refine#[λp=>O p/\¬D i p,#[Z.same,λp h=>#[Z.fo p h,λz=>?_],Z.f0,λp h=>Z.own p h.1,by rw[Yr];exact Z.len,λj l e n=>?_,λj q=>j≠i/\D j q,λj k q h1 h2=>A j k q h1.2 h2.2,λj q h=>#[#[(d j q h.2).1,λz=>h.1 (A j i q h.2 z)],(d j q h.2).2],λj l e o=>?_],t]
 .obtain⟨xs,w⟩:=Z.f0 p h;rw[(d i p z).2] at w;cases w
 .by_cases f:j=i
  .subst f;obtain⟨_,x⟩:=get_set_some e;subst x;refine#[v,q1,I (D j) _ v G (λp z=>#[(d j p z).2,λw=>w.2 z]) t λp xs q=>?_]
   have hp:∀u,(H p=À (.tup u)\/∃o,H p=À (.frz o (.tup u)))->¬(O p/\¬D j p):=λu z w=>by
    obtain⟨ys,s⟩:=Z.own p w.1;rcases z with z|⟨o,z⟩
    .rw[z] at s;rcases ys with ys|ys|ys<;>cases s
    .rw[z] at s;rcases ys with ys|ys|ys<;>cases s
   have r:=hp xs q.rd;rcases q with q|⟨o,q⟩
   .exact .inl (by rwa[aS r])
   .exact .inr #[o,by rwa[aS r]]
  .rw[get_set_ne f] at e;obtain⟨w,y,m⟩:=Z.at_ j l e n;refine#[w,y,?_];cases l with
   |val b a=>exact aw t m
   |own b as=>exact m
   |dpo a=>exact m
 .have f:j≠i:=by
   rintro rfl;obtain⟨_,x⟩:=get_set_some e;subst x;exact E o
  rw[get_set_ne f] at e;obtain⟨w,y,m⟩:=B j l e o;refine#[w,y,?_];have:(λq=>j≠i/\D j q)=D j:=funext λq=>propext #[λz=>z.2,λz=>#[f,z]];show Bd.AR K H0 (λp=>O p/\¬D i p) H (λq=>j≠i/\D j q) w l;rw[this];exact Bd.PQ m (λp ys _ z=>z) t (λp z=>(d j p z).1) Z.own
def N_{M:Type}[Py M]{as:List M}{D a:Ç->Prop}(h:(Bd.own b as).AR K H0 O H D v)(c:∀p,D p->H0 p=none/\¬a p)(f:aG .F (off H a)):(Bd.val b as).ok K H0 a H v:=by
 obtain⟨p,xs,e,o,q,r⟩:=h;have d:off H a p=À (.lst xs):=by rwa[aS (c p o).2]
 exact#[p,xs,e,dW.of d,Nf.wk (c p o).1 d,bM (λ_ _ z=>aw f z) r]
def AU{M:Type}[Py M]{a:M}{D b:Ç->Prop}(h:(Bd.dpo a).AR K H0 O H D v)(d:∀p,D p->H0 p=none/\¬b p)(g:∀p xs,Rt H p xs->Rt (off H b) p xs):(Bd.val Á a).ok K H0 b H v:=by
 refine Py.tr (λp xs q n=>?_) g h;obtain⟨e,f⟩:=n;have c:off H b p=À (mo xs):=by rwa[aS (d p e).2]
 exact#[Mo.of c,(d p e).1,c]
variable{X:Cx}{D:GD}{M β γ:Type}[Py M][Py β][Py γ]{e e1 e2:Ô}{b b1 b2:Bool}{pos:ì}{rest st:List Ñ}
def KZ(i:Nat)(M:Type)[Py M]{p p2:ì}(c:X.N.Nodup)(h:S X (U.set i (À (.own Á ([]:List M)))) rest D)(hi:autoParam (X.N[i]?=À x) zra)(d:autoParam (Loc X.env.scope x) zri)
  (f:autoParam (õ (.List [] p2) (À (.Name x p)) pos.line X.env=pure Â) zra) (b:autoParam (X.fn x=Á\/X.env.scope.names.lookup x=À .local) zrd):S X U (.Assign [.Name x p] (.List [] p2) pos::rest) D:=by
 stop
  exact dU (dS (sC c hi d (Bn a9) f b) λk Y H ⟨H0,F,O,Z,n,_⟩=>#[Yc _,λq a=>by
    obtain⟨g,j⟩:=Z.Ab (i:=i) (v:=.ref q) (cf a (.lst [])) (·=q) (λr e=>by subst e;exact#[a,.inl [],aQ]) (Bd.own Á ([]:List M)) É ⟨q,[],rfl,rfl,aQ,.nil⟩
    exact n _ _ _ _ j g h])
def oB(i:Nat){as:List M}{a:M}{p ap j:ì}(B:U[i]?=À (À (.own b as)))(he:E X U e b a)(K:as.length<=1000)(h:S X (U.set i (À (.own b (as++[a])))) rest D)(hi:autoParam (X.N[i]?=À x) zra)
  (L:autoParam (HV X.env.scope x) zre) (J:autoParam ((x==("__debug__":Ï))=Â) zrb) (A:autoParam ((x==("__classdict__":Ï))=Â) zrb)
  (d:autoParam (Ġ (.Name x p) "append" X.env (Û (.Name x p) X.env)=Û (.Name x p) X.env) zra)
  (l:((è j (Å [e] X.env)).all (λx=>!x.1)&&(backToKw j (keywordEach [] X.env)).all (λx=>x.1.isSome)
   && decide (([e]:List Ô).length+([]:List Δ).length+(if ([]:List Δ).isEmpty then 0 else 1)<30))=Á:=by rfl)
  (f:autoParam ((ap.endLine==j.line)=Á) zra) (C:autoParam (Å [e] X.env=(Â,Û e X.env)::Å [] X.env) zra) (c:autoParam ((è j (Å [] X.env)).any (·.1)=Â) zra)
  (t:autoParam (õ (.Call (.Attribute (.Name x p) "append" ap) [e] [] j) none pos.line X.env=pure Â) zra):
  S X U (.Expr (.Call (.Attribute (.Name x p) "append" ap) [e] [] j) pos::rest) D:=by
 stop
  exact dU (dS (wG (PK acb PySem.F.slot_list_append PySem.F.type_list_append uQ (pv i hi L J A) (aB he a9 C) d l f C c) t) λDe Y H ⟨H0,F,O,Z,n,_⟩=>by
    obtain⟨v,Di,k,⟨q,xs,u,G,g,w⟩,_,_⟩:=Z.write B É;subst u;refine#[.ref q,k,.inl #[rfl,xs,dW.of g],H0,F,O,Z,λy H2 o σ=>#[q,xs,y,rfl,rfl,o _ _ g,?_,?_]]
    .rw[bE w];exact de K
    .obtain⟨Γ,D',C3,⟨q',m,α,s,W,P⟩,r,wr⟩:=(Z.go o).write B É;rw[k] at C3;have ev:V.ref q=Γ:=by injection C3 with z;injection z
     subst ev;cases α
     have ex:m=xs:=by
      have:=o _ _ g;rw[W] at this;cases this;rfl
     subst ex
     obtain⟨Q,T⟩:=wr q (m++[y]) (À (.own b (as++[a]))) s λR I=>by
      cases I;refine#[É,q,_,rfl,s,aQ,?_];rw[qX (r q s).1];exact xb P (.cons σ .nil)
     exact n _ _ _ _ (by rw[T];exact ah o) Q h)
def BW{g':Bd}(i:Nat)(e:U[i]?=À (À g))(j:g.g9)(d:¬g'.g9)
  (f:∀(H0 H:Hp) (O D a:Ç->Prop) v,g.AR X.K H0 O H D v->(∀p,D p->H0 p=none/\¬a p)->aG .F (off H a)->(∀p xs,Rt H p xs->Rt (off H a) p xs)->g'.ok X.K H0 a H v)
  (h:S X (U.set i (À g')) st D):S X U st D:=by
 stop
  exact sh h λm Y H ⟨H0,F,O,Z,n,r,bk,ct⟩=>by
   obtain⟨a,k,c⟩:=Z.freeze e j d λl a v=>f H0 H O l a v;exact#[H0,F,a,k,λΓ2 σ2 H2 b sm=>n Γ2 σ2 H2 b (c.trans sm),r,λΓ2 σ2 H2 b sm=>bk Γ2 σ2 H2 b (c.trans sm),λΓ2 σ2 H2 b sm=>ct Γ2 σ2 H2 b (c.trans sm)]
def dt(i:Nat){as:List M}(a:U[i]?=À (À (.own b as)))(h:S X (U.set i (À (.val b as))) st D):S X U st D:=by stop exact BW (g':=.val b as) i a É (λz=>z) (λH0 H O g f v d e c _=>N_ d e c) h
def L_(i:Nat){a:M}(b:U[i]?=À (À (.dpo a)))(h:S X (U.set i (À (.val Á a))) st D):S X U st D:=by stop exact BW (g':=.val Á a) i b É (λz=>z) (λH0 H O g f v d e _ c=>AU d e c) h
def nE(i:Nat){a:M}(d:U[i]?=À (À (.dpo a)))(h:T X (U.set i (À (.val Á a))) e c):T X U e c:=by
 stop
  exact sQ h λY H Q ⟨H0,F,O,Z,q⟩=>by
   obtain⟨b,k,l⟩:=Z.freeze d É (g':=.val Á a) (λz=>z) λm b v g j _ f=>AU g j f;exact#[H0,F,b,k,q]
def vH(i j:Nat){K:Ã}:GP (IZ K 2 (tH (ke i) (tH (ke j) Jr))) (M×β) (λb u U=>(U.set i (À (.val b u.1))).set j (À (.val b u.2))) (λk=>k=i\/k=j) K:=λb u H0 F O U Y H v Q Z r q=>by
 obtain⟨p,h,c,d,e,f,g⟩:=r;refine#[p,_,d,xu (ar _ _) e,rfl,h,[c],rfl,c,[],rfl,rfl,?_];exact q _ ((Z.set f).set g) (by rw[Yr,Yr]) λk a=>by rw[get_set_ne λz=>a (.inr z),get_set_ne λz=>a (.inl z)]
end
end L2.EP
namespace L2
open PySem PySem.Spec PyProof.Rows
def RZ(K : Ã)(a b : Ç) : It :=
  #[λi H=>∃xs ys x y,dW K H a xs/\dW K H b ys/\xs[i]?=À x/\ys[i]?=À y,
   λi H v H'=>∃T x y,H T=none/\v=.ref T/\H'=upd H T (.tup [x,y])/\(∀xs,dW K H a xs->xs[i]?=À x)/\∀ys,dW K H b ys->ys[i]?=À y,
   λi H=>∃xs ys,dW K H a xs/\dW K H b ys/\(xs.length<=i\/ys.length<=i)]
def dH{h:ß}{a b:Ç}{o u:û}(e1:h.get? a=À o)(e2:h.get? b=À u)(d:o.cls≠u.cls):a≠b:=λz=>by
 subst z;rw[e1] at e2;cases e2;exact d rfl
def uH{h:ß}{z TI TO i n m l:Ç}{r o x v w:Ä}{u q:Nat}{xs ys:Array Ä}(hz:IsZip h z TI TO r)(b:IsPair h TI o x)(a:IsPair h TO v w)(h1:h.IsListIter i m u)(h2:h.IsListIter n l q)
  (j:h.IsList m xs) (k:h.IsList l ys) (y:TI≠TO) (p:i≠n):ZipApart z TI TO i n m l:=by
 obtain⟨A,d,b1,_⟩:=h1;obtain⟨B,c,b2,_⟩:=h2;obtain⟨C,c1,g,_⟩:=j;obtain⟨p2,c2,f,_⟩:=k;have X:∀{s t:String},s≠t->ú s≠ú t:=λne e=>ne (by injection e)
 exact#[dH b hz (X .a),dH a hz (X .a),dH d hz (by rw[b1];exact X .a),dH c hz (by rw[b2];exact X .a),y,dH b d (by rw[b1];exact X .a),dH b c (by rw[b2];exact X .a),
  dH a d (by rw[b1];exact X .a),dH a c (by rw[b2];exact X .a),p,dH c1 hz (by rw[g];exact X .a),dH c1 a (by rw[g];exact X .a),dH c1 d (by rw[g,b1];exact X .a),dH c1 c (by rw[g,b2];exact X .a),
  dH c2 hz (by rw[f];exact X .a),dH c2 a (by rw[f];exact X .a),dH c2 d (by rw[f,b1];exact X .a),dH c2 c (by rw[f,b2];exact X .a)]
section
variable{X:Cx}{Z2:List (Ç×û)}{Y:St}{H H':Hp}{s:Æ}
def Inv.Cu{h':ß}{t':Nat}{ch:List Ç}{T:Ç}{xs:List V}(I:Inv X Z2 Y H s)(i:s.heap.objs.size<=T)(k:∀b o,b∉ch->s.heap.get? b=À o->h'.get? b=À o)(th:∀b o,s.heap.get? b=À o->∃o',h'.get? b=À o')(f:∀b∈ch,uC X Z2 H b)
  (new:bY X.prog X.w (upd H T (.tup xs)) h' T (.tup xs)):Inv X Z2 Y (upd H T (.tup xs)) {s with heap:=h',toks:=t'}:=by
 stop
  have h:H T=none:=I.hok.fresh i;have g:∀b u,H b=À u->b∉ch:=λb u e z=>by rw[(f b z).1] at e;cases e
  refine I.step (g':=s.gens) (d':=s.drawn) (ch:=ch) (λb d=>#[(f b d).2.2.2.1,(f b d).2.1,(f b d).2.2.2.2.1,(f b d).2.2.2.2.2]) (λb o _ _ a e _=>k b o a e) (λb o _ _ a e _=>#[o.slots,k b o a e])
   (λb o a e n=>by rwa[aC (XS (XR (Xr e) i))]) (λb o a e=>#[o,k b o a e]) (λb ys e=>by rwa[aC (bZ e h)]) (λb u ys e=>by rwa[aC (bZ e h)]) (λb ps e=>#[#[],by rw[aC (bZ e h),e];simp]) (λm j=>?_) (λb u e=>?_) I.bare
  .obtain⟨o,es,ep,l,r⟩:=j;exact#[o,es,ep,k _ o (λz=>(f _ z).2.1 rfl) l,r]
  .by_cases d:b=T
   .subst d;rw[aQ] at e;cases e;exact new
   .rw[aC d] at e;refine(I.hok b u e).vW (λc v a q=>k c v ?_ q) (λc z=>?_) λc ys z=>?_
    .rcases a with z|z
     .rw[z];exact g b u e
     .exact g c _ z
    .rwa[aC (bZ z h)]
    .rwa[aC (bZ z h)]
end
def ES{P:Ð}{w:Ú}{K:Ã}{elts:List Ô}{kk:Nat}{tp:ì}(z TI TO j l a b:Ç)(n1:TI≠TO)(n2:j≠l):Turn P w K (.Tuple elts kk tp) (RZ K a b) [z,TI,TO,j,l] z
  (λi h=>IsZip h z TI TO .none/\IsPair h TI (.ref j) (.ref l)/\(∃x y,IsPair h TO x y)/\h.IsListIter j a i/\h.IsListIter l b i) where
 mem:=by simp
 obj:=λi h st c J=>by
  obtain⟨hz,f,⟨x,y,g⟩,h1,h2⟩:=st;have d:c=z\/c=TI\/c=TO\/c=j\/c=l:=by simpa using J
  rcases d with e|e|e|e|e
  .subst e;exact#[_,hz,λv q=>by cases q]
  .subst e;exact#[_,f,λv q=>by cases q]
  .subst e;exact#[_,g,λv q=>by cases q]
  .subst e;obtain⟨o,q1,L,C⟩:=h1;exact#[o,q1,λv q=>by rw[C] at q;cases q]
  .subst e;obtain⟨o,q1,L,C⟩:=h2;exact#[o,q1,λv q=>by rw[C] at q;cases q]
 keep:=λi h h' st k=>by
  obtain⟨hz,f,⟨x,y,g⟩,h1,h2⟩:=st;exact#[k z .c _ hz,k TI .c _ f,#[x,y,k TO .c _ g],h1.at λo e=>k j .c o e,h2.at λo e=>k l .c o e]
 item:=by
  intro X hP hw hK J i Z2 s Y H E I A st O;subst hP hw hK;obtain⟨xs,ys,x,y,N,α,gx,gy⟩:=O;obtain⟨hz,f,⟨wa,wb,g⟩,h1,h2⟩:=st;obtain⟨ix,rx,G,_⟩:=I.list N;obtain⟨iy,ry,py,_⟩:=I.list α;have D:=uH hz f g h1 h2 G.isList py.isList n1 n2;obtain⟨u,ux,uxr⟩:=rx.get gx;obtain⟨v,vy,vyr⟩:=ry.get gy;refine wpAny_pyNext_zip_item D hz f g h1 h2 G.isList py.isList ↑ux ↑vy λh' a1 a2 a3 a4 a5 a6 t=>?_;have Z:H s.heap.objs.size=none:=I.hok.fresh (Xm _)
  have I1:Inv X Z2 Y (upd H s.heap.objs.size (.tup [x,y])) {s with heap:=h',toks:=s.toks}:=by
   refine I.Cu (ch:=[z,TO,j,l]) (Xm _) (λc o d e=>t c o (λq=>d (by simp[q])) (λq=>d (by simp[q])) (λq=>d (by simp[q])) (λq=>d (by simp[q])) e) (λc o e=>?_) (λc d=>A c (by simp at d ⊢;rcases d with q|q|q|q<;>simp[q])) ?_
   .have R:=Xr e;have:c<h'.objs.size:=by rw[a6];exact YN R
    by_cases q1:c=z
    .subst q1;exact#[_,a1]
    by_cases L:c=TO
    .subst L;exact#[_,a2]
    by_cases C:c=j
    .subst C;obtain⟨o',q,_⟩:=a3;exact#[o',q]
    by_cases q4:c=l
    .subst q4;obtain⟨o',q,_⟩:=a4;exact#[o',q]
    exact#[o,t c o q1 L C q4 e]
   .exact#[by show 2<=sizeLine;decide,[u,v],.cons uxr (.cons vyr .nil),#[_,a5,rfl,_,rfl]]
  refine#[_,rfl,?_];have B:=A z .c;refine wpAny_letOwnedTupleGo_zip a1 λσ hz' p=>?_;have zT:z≠s.heap.objs.size:=XS (Xr hz);have I2:Inv X Z2 Y (upd H s.heap.objs.size (.tup [x,y])) {({s with heap:=h',toks:=s.toks}:Æ) with heap:=σ,toks:=s.toks}:=I1.turned (λc o d e=>p.extBut c o d e) (by rw[aC zT];exact B.1) B.2.1 B.2.2.2.1 B.2.2.2.2.1 B.2.2.2.2.2;refine#[.ref s.heap.objs.size,upd H s.heap.objs.size (.tup [x,y]),I2,rfl,#[s.heap.objs.size,x,y,Z,rfl,rfl,λxs' Q=>?_,λys' sy'=>?_],#[hz',p.extBut _ _ D.TIz (t _ _ D.TIz D.TITO D.TIi1 D.TIi2 f),#[_,_,p.extBut _ _ D.TOz a2],a3.extBut p.extBut D.i1z,a4.extBut p.extBut D.i2z],λc d=>?_]
  .rwa[I.nX Q N]
  .rwa[I.nX sy' α]
  .have Γ:c<s.heap.objs.size:=by
    have V:c=z\/c=TI\/c=TO\/c=j\/c=l:=by simpa using d
    rcases V with e|e|e|e|e
    .subst e;exact Xr hz
    .subst e;exact Xr f
    .subst e;exact Xr g
    .subst e;obtain⟨_,q,_⟩:=h1;exact Xr q
    .subst e;obtain⟨_,q,_⟩:=h2;exact Xr q
   rw[aC (XS Γ)];exact(A c d).1
 done:=by
  intro X hP hw hK J i Z2 s Y H E I A st O;subst hP hw hK;obtain⟨xs,ys,N,α,F⟩:=O;obtain⟨hz,f,⟨wa,wb,g⟩,h1,h2⟩:=st;obtain⟨ix,rx,G,_⟩:=I.list N;obtain⟨iy,ry,py,_⟩:=I.list α;have D:=uH hz f g h1 h2 G.isList py.isList n1 n2;refine wpAny_pyNext_zip_end (I.ok.hd J) D hz f g h1 h2 G.isList py.isList ?_ λh' t=>#[rfl,?_]
  .rcases F with q|q
   .left;simp[<-rx.length];lia
   .right;simp[<-ry.length];lia
  .have B:=A z .c;have fo:=A TO .c;have f1:=A j .c;have f2:=A l .c
   refine I.step (g':=s.gens) (d':=s.drawn) (t':=s.toks) (ch:=[z,TO,j,l]) (λb hb=>?_) (λb o _ _ d e _=>t b o (λq=>d (by simp[q])) (λq=>d (by simp[q])) (λq=>d (by simp[q])) (λq=>d (by simp[q])) e) (λb o _ _ d e _=>#[o.slots,t b o (λq=>d (by simp[q])) (λq=>d (by simp[q])) (λq=>d (by simp[q])) (λq=>d (by simp[q])) e]) (λ_ _ _ _ n=>n)
    (λb o d e=>#[o,t b o (λq=>d (by simp[q])) (λq=>d (by simp[q])) (λq=>d (by simp[q])) (λq=>d (by simp[q])) e]) (λ_ _ e=>e) (λ_ _ _ e=>e) (λb ps e=>#[#[],by rw[e];simp]) (λm hm=>?_) (λb u e=>?_) I.bare
   .have q:=A b (by simp at hb ⊢;rcases hb with q|q|q|q<;>simp[q]);exact#[q.2.2.2.1,q.2.1,q.2.2.2.2.1,q.2.2.2.2.2]
   .obtain⟨o,es,ep,ho,r⟩:=hm;exact#[o,es,ep,t _ o (ZD B.2.1) (ZD fo.2.1) (ZD f1.2.1) (ZD f2.2.1) ho,r]
   .have nn:∀c v,H c=À v->c≠z/\c≠TO/\c≠j/\c≠l:=λc v e=>#[(λq=>by(rw[q,B.1] at e;cases e)),(λq=>by(rw[q,fo.1] at e;cases e)),(λq=>by(rw[q,f1.1] at e;cases e)),(λq=>by(rw[q,f2.1] at e;cases e))];refine(I.hok b u e).vW (λc v d q=>?_) (λ_ q=>q) λ_ _ q=>q;have:=nn c;rcases d with e'|e'
    .subst e';obtain⟨S,T,w3,w4⟩:=nn c _ e;exact t c v S T w3 w4 q
    .obtain⟨S,T,w3,w4⟩:=nn c _ e';exact t c v S T w3 w4 q
 self:=λ_ _ _ _ _ st h=>ϻ st.1 h
section
variable{X:Cx}{elts:List Ô}{kk:Nat}{tp:ì}
def Q8(K:Ã)(ta:TA):TI:=λY H R=>ta Y H λvs H1=>∃a b,vs=[.ref a,.ref b]/\(∃xs,dW K H1 a xs)/\(∃ys,dW K H1 b ys)/\R (RZ K a b) H1
def Ei{e1 e2:Ô}{ta:TA}{p pos:ì}(k:Gl X "zip")(n:X.mg "zip"=none)(ha:PA X [e1,e2] ta)(he:autoParam (Å [e1,e2] X.env=(Â,Û e1 X.env)::Å [e2] X.env) zra)
  (hpl:autoParam ((è pos (Å [e2] X.env)).any (·.1)=Â) zra):PI X (.Tuple elts kk tp) (.Call (.Name "zip" p) [e1,e2] [] pos) (Q8 X.K ta):=by
 intro Z2 s Y H R I h;refine Call_ (hV I k n PyProof.Rows.boot_zip (YU (cj (ha pos Z2 s Y H _ I h) λus d ⟨vs,H1,g,o,q1⟩=>?_) he hpl));obtain⟨a,b,e,⟨xs,y⟩,⟨ys,m⟩,q⟩:=q1;subst e;obtain⟨u,D,rfl,t,v⟩:=vals2 o;cases t;cases v;obtain⟨F,J,A,_⟩:=g.list y;obtain⟨C,G,py,_⟩:=g.list m;refine call_zip_2 A.isList py.isList λh' j r z l B E x=>?_;have w:Inv X Z2 Y H1 {d with heap:=h',toks:=d.toks}:=g.kept x;refine ϻ (s:={d with heap:=h'}) j ?_;refine#[d.heap.objs.size+4,[d.heap.objs.size+4,d.heap.objs.size+2,d.heap.objs.size+3,d.heap.objs.size,d.heap.objs.size+1],_,RZ X.K a b,H1,rfl,w,ES (d.heap.objs.size+4) (d.heap.objs.size+2) (d.heap.objs.size+3) d.heap.objs.size (d.heap.objs.size+1) a b (XS (Zj _)) (XS (Zj _)),#[j,r,#[_,_,z],l,B],λc i=>?_,q]
 have f:d.heap.objs.size<=c:=by
  simp at i;rcases i with e|e|e|e|e<;>subst e<;>lia
 exact g.A7 f (g.hok.fresh f)
end
end L2
namespace L2.EP
open PySem PySem.Spec PyProof.Rows
section
variable{X:Cx}{U:aI}{M β:Type}[Py M][Py β]{e1 e2:Ô}{b1 b2:Bool}{elts:List Ô}{kk:Nat}{tp p ps:ì}
def xM{xs:List M}{ys:List β}(D:Gl X "zip")(P:X.mg "zip"=none)(h1:E X U e1 b1 xs)(h2:E X U e2 b2 ys)(d:autoParam (Å [e1,e2] X.env=(Â,Û e1 X.env)::Å [e2] X.env) zra)(o:autoParam (Å [e2] X.env=(Â,Û e2 X.env)::Å [] X.env) zra)
  (hpl:autoParam ((è ps (Å [e2] X.env)).any (·.1)=Â) zra):EI X U (.Tuple elts kk tp) (.Call (.Name "zip" p) [e1,e2] [] ps) (b1&&b2) (xs.zip ys):=by
 stop
  exact#[_,Ei D P (aB h1 (aB h2 a9 o) d) d hpl,λY H H0 F O R Z q=>#[H0,F,O,Z,λv H1 A Q=>#[H0,F,O,Z.go A,λw H2 l J=>by
    obtain⟨a,h,W,L,na,B⟩:=Q;obtain⟨c,j,ec,r,nc,rc⟩:=J;have b:=(ah (O:=O) l).seq L;refine#[a,c,by rw[W,ec],#[h,(ar _ _).seq b],#[j,(ar _ _).seq r],q _ H2 (A.trans l) λH' N k sm=>#[λi u Γ=>?_,?_]]
    .obtain⟨I,S⟩:=Yn.mp Γ;obtain⟨x,s,α⟩:=ig B I;obtain⟨y,t,K⟩:=ig rc S;have e:=(ar _ _).seq (sm.seq b);have f:=(ar _ _).seq (sm.seq r);refine#[#[h,j,x,y,e,f,s,t],λv' σ G=>?_];obtain⟨T,x',y',g,rfl,rfl,V,f2⟩:=G;have ex:=V h e;have C:=f2 j f;rw[s] at ex;cases ex;rw[t] at C;cases C
     have m:¬N T:=λz=>by
      obtain⟨zs,w⟩:=k T z;rw[g] at w;cases w
     refine#[cf g _,T,x,y,rfl,.inl (by rw[aS m];exact aQ),?_,?_]
     .exact bh (λ_ _ n=>wM n) (aw ((ah l).trans (sm.trans (ah (cf g _)))) α)
     .exact bh (λ_ _ n=>wQ n) (aw (sm.trans (ah (cf g _))) K)
    .refine#[h,j,(ar _ _).seq (sm.seq b),(ar _ _).seq (sm.seq r),?_];rw[bE B,bE rc,ZR]
     lia]]]
def Ay{ZB:ą}{tn:List Ï}{js:List Nat}{C:Ç}{s:Æ}{H:Hp}{fp:List Ç}{x y:Ï}{e p2 f:ì}{k:Nat}(i j:Nat)(N:List Ï)(g:autoParam (X.calm=Á) zra)(h:autoParam (cN X tn js=N) zra)(b:autoParam (N.Nodup) zrh)(hi:autoParam (N[i]?=À x) zra)(c:autoParam (N[j]?=À y) zra)
  (d:autoParam (ZB.names.lookup x=À .local\/ZB.names.lookup x=À .cell) zrd) (a:autoParam (ZB.names.lookup y=À .local\/ZB.names.lookup y=À .cell) zrd):
  PG .G (.Tuple [.Name x e,.Name y p2] k f) (IZ X.K 2 (tH (ke i) (tH (ke j) Jr))) :=
 EO (X:=iV X (cN X tn js) ZB C s H fp) g (mY (cL i N h b hi d) (mY (cL j N h b c a) By))
def oI{i j n:Nat}(h:autoParam (i<n) zrb)(h2:autoParam (j<n) zrb):∀k,k=i\/k=j->k<n:=λk e=>by rcases e with e|e<;>rw[e]<;>assumption
end
class PyT(β:Type)[Py β]:Prop where
 free:∀{K:Ã} {N N':Nn} {H H':Hp} {v:V} {b:β},(∀p xs,Rt H p xs->Rt H' p xs)->Py.rp K N H v b->Py.rp K N' H' v b
 nl:∀{K:Ã} {N:Nn} {H:Hp} {q:Ç} {b:β} {xs:List V},Py.rp K N H (.ref q) b->H q=À (.lst xs)->False
noncomputable instance:PyT Int where
 free _ h:=h
 nl h _:=nomatch h
noncomputable instance:PyT Bool where
 free _ h:=h
 nl h _:=nomatch h
noncomputable instance{M β:Type}[Py M][Py β][PyT M][PyT β]:PyT (M×β) where
 free t h:=by
  obtain⟨p,x,y,e,s,h1,h2⟩:=h;exact#[p,x,y,e,t _ _ s,PyT.free t h1,PyT.free t h2]
 nl h e:=by
  obtain⟨p,x,y,a,s,h1,h2⟩:=h;cases a;rcases s with s|⟨o,s⟩
  .rw[e] at s;cases s
  .rw[e] at s;cases s
def tN{M:Type}[Py M](K:Ã)(U:aI)(a:M):TE:=λY H Q=>∃H0 F O,dM K H0 F O U Y H/\∀v H',aG H H'->Py.rp K (.new H) (off H' O) v a->Q v H'
@[irreducible] def EN{M:Type}[Py M](X:Cx)(U:aI)(e:Ô)(a:M):Prop:=PE X e (tN X.K U a)
def kc{M:Type}[Py M]{K:Ã}{H H1 b:Hp}{v:V}{a:M}(s:aG H H1)(h:Py.rp K (.new H1) b v a):Py.rp K (.new H) b v a:=bh (N:=.new H1) (N':=.new H) (λ_ _ n=>#[s.free n.1,n.2]) h
section
variable{X:Cx}{U:aI}{D:GD}{M β γ:Type}[Py M][Py β][Py γ]{e e1 e2:Ô}{b b1 b2:Bool}{pos p:ì}{rest st:List Ñ}{k:Nat}{name:Ï}{ps:List Ï}
def yq{pre:M->β->Prop}{f:M->β->γ}{a:M}{c:β}(C:aH X.prog X.w X.K X.mg X.base k name ps (cM X.K pre Á f))(i:dP k X.A)(j:Gl X name)(h1:E X U e1 b1 a)(h2:E X U e2 b2 c)(hp:pre a c)
  (b:autoParam (Å [e1,e2] X.env=(Â,Û e1 X.env)::Å [e2] X.env) zra) (h:autoParam (Å [e2] X.env=(Â,Û e2 X.env)::Å [] X.env) zra) (g:autoParam ((name==("__debug__":Ï))=Â) zrb) (hpl:autoParam ((è pos (Å [e2] X.env)).any (·.1)=Â) zra):
  EN X U (.Call (.Name name p) [e1,e2] [] pos) (f a c):=by
 stop
  obtain⟨t,fd,F,B,kp,m⟩:=C.ex
  exact aJ (eY F i j m kp B .nil jY (aB h1 (aB h2 a9 h) b) g b hpl) λY H Q ⟨H0,F,O,S,q⟩=>#[H0,F,O,S,λs H1 e l=>#[H0,F,O,S.go e,λn H2 d o =>
   #[O,s,n,a,c,(S.go (e.trans d)).own,rfl,bh bt (aw (ah d) l),bh bt o,hp,λr H' s' z=>q r H' (e.trans (d.trans s')) (kc (e.trans d) z)]]]
def pU(i:Nat){x:Ï}{a:M}{p:ì}(g:X.N.Nodup)(he:EN X U e a)(h:S X (U.set i (À (.dpo a))) rest D)(hi:autoParam (X.N[i]?=À x) zra)(j:autoParam (Loc X.env.scope x) zri)
  (k:autoParam (õ e (À (.Name x p)) pos.line X.env=pure Â) zra) (d:autoParam (X.fn x=Á\/X.env.scope.names.lookup x=À .local) zrd):S X U (.Assign [.Name x p] e pos::rest) D:=by
 stop
  exact dU (dS (sC g hi j he k d) λo Y H ⟨H0,F,O,Z,n,_⟩=>#[H0,F,O,Z,λv H1 c l=>by
    obtain⟨m,f⟩:=Z.Ab (i:=i) (v:=v) c (λq=>H q=none/\∃xs:Mt,H1 q=À (mo xs)) (λq z=>z) (Bd.dpo a) É (by
     refine Py.tr (λq xs b nn=>?_) (λq xs b=>aG.rt (ar _ _) b) l;have:=(ar _ _) _ _ nn.2
     exact⟨Mo.of this,⟨nn.1,xs,this⟩,this⟩)
    exact n _ _ _ _ f m h])
variable{b':Bool}
def E.up[PyT M]{a:M}(h:E X U e b a):E X U e b' a:=by stop exact aJ h λY H Q ⟨H0,F,O,S,q⟩=>#[H0,F,O,S,λv H' s r=>q v H' s (PyT.free (λ_ _ z=>z) r)]
def gZ[PyT M]{a:M}(h:E X U e b a):E X U e b' a:=by stop exact E.up h
def IV[PyT M]{xs:List M}{p:ì}(i:Gl X "list")(j:X.mg "list"=none)(ha:E X U e b xs)(d:autoParam (Å [e] X.env=(Â,Û e X.env)::Å [] X.env) zra):E X U (.Call (.Name "list" p) [e] [] pos) Á xs:=by
 stop
  exact aJ (vi nu i j aaZ (aB ha a9 d) (he:=d)) λY H Q ⟨H0,F,O,S,q⟩=>#[H0,F,O,S,λv H1 a k=>by
    obtain⟨p,vs,e,h,n,r⟩:=k;refine#[p,vs,by rw[e],.inl ((ar _ _).seq h),λl c=>?_];obtain⟨f,g⟩:=cO (xs:=vs) (S.go a) c
    exact q _ _ (a.trans f) #[l,vs,rfl,dW.of g,Nf.wk ((S.go a).iq c) g,bM (λ_ _ z=>PyT.free (λ_ _ t=>aG.rt (ah f) t) z) r]]
end
def pF{M β:Type}{g:β->M->β}{z:β}{us:List M}{i:Nat}{a:M}(h:us[i]?=À a):(us.take (i+1)).foldl g z=g ((us.take i).foldl g z) a:=by
 rw[Y2,h,abG];rfl
end L2.EP
namespace Q
variable{p k b a r d m x l e q s c A y f B u g v:Int}{L:List Int}{n i:Nat}
def n_(a b:Int):Ê b (a.fmod b)=Ê a b:=by
 rw[Int.fmod_def,ab1 a b];exact Int.gcd_sub_mul_left_right ..
def Ck(a b:Int)(c:b≠0):(a.fmod b).natAbs<b.natAbs:=by
 rcases Yf c with h|h
 .have e:=Int.neg_fmod_neg a b;have h':(0:Int) < -b:=by omega
  have h1:=aa0 (-a) h';have h2:=abt (-a) h';omega
 .have h1:=aa0 a h;have h2:=abt a h;omega
def fd(t b:Int):Int:=if b<0 then -(Ê t b:Int) else (Ê t b:Int)
def fr(t b:Int):Int×Int:=(t.fdiv (fd t b),b.fdiv (fd t b))
def yz{t:Int}(a:b≠0):fd t b≠0:=by
 have h:Ê t b≠0:=by
  intro h;rw[abm] at h;exact a h.2
 unfold fd;split<;>lia
def yC(t b:Int):fd t b∣t:=by
 unfold fd;split
 .exact(Int.neg_dvd).mpr (Y9 ..)
 .exact Y9 ..
def wH(t b:Int):fd t b∣b:=by
 unfold fd;split
 .exact(Int.neg_dvd).mpr (YO ..)
 .exact YO ..
def yu(h:d∣a):d*a.fdiv d=a:=by
 have e:=Int.mul_fdiv_cancel' h;exact e
def AG(t b:Int):fd t b*(fr t b).1=t:=yu (yC t b)
def v8(t b:Int):fd t b*(fr t b).2=b:=yu (wH t b)
def Fg(t b:Int):(fr t b).1*b=t*(fr t b).2:=by
 have h1:=AG t b;have h2:=v8 t b;generalize (fr t b).1=x at *;generalize (fr t b).2=y at *;generalize fd t b=d at *;subst h1;subst h2;rw[<-XT,XY x d]
def Mw{t:Int}(f:b≠0):1<=(fr t b).2:=by
 have h2:=v8 t b;have c:=yz (t:=t) f
 have e:fd t b<0↔b<0:=by
  unfold fd;have:0<=(Ê t b:Int):=Ε _;unfold fd at c;split<;>split at c<;>lia
 generalize (fr t b).2=y at *;generalize fd t b=d at *;apply Int.not_lt.mp;intro g;have a:y<=0:=by lia
 rcases Yf c with h|h
 .have:=ZU (Zs h) a;have:=e.mp h;lia
 .have:=X5 (Zs h) a;have:¬b<0:=λq=>by have:=e.mpr q;lia
  lia
def GG(t b:Int):(fd t b).natAbs=Ê t b:=by
 unfold fd;split<;>lia
def LU{t:Int}(f:b≠0):Ê (fr t b).1 (fr t b).2=1:=by
 have h1:=AG t b;have h2:=v8 t b;have g:=yz (t:=t) f;have e:=GG t b;have d:Ê (fd t b*(fr t b).1) (fd t b*(fr t b).2)=(fd t b).natAbs*Ê (fr t b).1 (fr t b).2:=Int.gcd_mul_left ..;rw[h1,h2,e] at d;have a:0<Ê t b:=by lia
 have c:Ê t b*1=Ê t b*Ê (fr t b).1 (fr t b).2:=by lia
 exact(Nat.eq_of_mul_eq_mul_left a c).symm
def LW{t:Int}(c:1<=b)(a:Ê t b=1):fr t b=(t,b):=by
 have e:fd t b=1:=by unfold fd;rw[a,W_ .b];rfl
 unfold fr;rw[e,Int.fdiv_one,Int.fdiv_one]
def Kc{t:Int}(a:b≠0):(fr t b).1.natAbs<=t.natAbs:=by
 have h1:=AG t b;have c:=yz (t:=t) a;have h:t.natAbs=(fd t b).natAbs*(fr t b).1.natAbs:=by rw[<-XN,h1]
 rw[h];exact aam _ .b
def J7{t:Int}(a:b≠0):(fr t b).2.natAbs<=b.natAbs:=by
 have h1:=v8 t b;have c:=yz (t:=t) a;have h:b.natAbs=(fd t b).natAbs*(fr t b).2.natAbs:=by rw[<-XN,h1]
 rw[h];exact aam _ .b
def Qq{t:Int}(a:b≠0):(fd t b).natAbs<=b.natAbs:=by
 rw[GG];exact abz .b (YE.mpr (YO t b))
def OT(u v:Int×Int):Int×Int:=fr (u.1*v.2) (u.2*v.1)
def Qx(u:Int×Int):Prop:=1<=u.2/\Ê u.1 u.2=1
def Kb{t:Int}(a:b≠0):Qx (fr t b):=#[Mw a,LU a]
abbrev Fr:=Int×Int
def gN(us:List Fr):Int:=us.foldl (λb u=>(b*u.2).fdiv (Ê b u.2:Nat)) 1
def y3(l:1<=b)(n:1<=c):1<=(b*c).fdiv (Ê b c:Nat)/\b∣(b*c).fdiv (Ê b c:Nat)/\c∣(b*c).fdiv (Ê b c:Nat)/\(b*c).fdiv (Ê b c:Nat)<=b*c:=by
 have o:0<Ê b c:=by
  rcases aaJ (Ê b c) with h|h
  .rw[abm] at h;lia
  .exact h
 have k:((Ê b c:Nat):Int)∣b:=Y9 ..;have i:((Ê b c:Nat):Int)∣c:=YO ..;generalize Ê b c=g at *;obtain⟨x,j⟩:=k;obtain⟨y,a⟩:=i
 have e:(b*c).fdiv (g:Int)=b*y:=by
  rw[a,<-XT,XY b (g:Int),XT];rw[YQ _ .b]
 have d:(1:Int)<=g:=by lia
 have m:1<=x:=by
  apply Int.not_lt.mp;intro h;have:(g:Int)*x<=0:=X5 .b .b;lia
 have f:1<=y:=by
  apply Int.not_lt.mp;intro h;have:(g:Int)*y<=0:=X5 .b .b;lia
 rw[e];refine#[?_,#[y,rfl],#[x,?_],?_]
 .have:=X_ l f .b .b;simpa using this
 .rw[j,a];grind
 .refine Xp ?_ .b;rw[a];have:=Yg d (show 0<=y by lia);simpa using this
theorem Hb:∀(us:List Fr) (b:Int),1<=b->(∀u∈us,1<=u.2)->1<=us.foldl (λb u=>(b*u.2).fdiv (Ê b u.2:Nat)) b/\b∣us.foldl (λb u=>(b*u.2).fdiv (Ê b u.2:Nat)) b/\∀u∈us,u.2∣us.foldl (λb u=>(b*u.2).fdiv (Ê b u.2:Nat)) b
 |[],b,c,_=>#[c,Zf _,λ_ h=>by cases h]
 |u::us,b,c,h=>by
  obtain⟨f,g,j,_⟩:=y3 c (h u Xo);obtain⟨i,d,k⟩:=Hb us _ f λw a=>h w (Xj _ a);refine#[i,XU g d,λw a=>?_];rcases Xa.mp a with e|a
  .rw[e];exact XU j d
  .exact k w a
def FL{us:List Fr}(h:∀u∈us,1<=u.2){u:Fr}(a:u∈us):u.2∣gN us:=(Hb us 1 .a h).2.2 u a
def Ho(us:List Fr):List Int×Int:=(us.map λu=>u.1*(gN us).fdiv u.2,gN us)
def C1{M β:Type}{xs:List M}{ys:List β}{p:M×β}(h:p∈xs.zip ys):p.1∈xs/\p.2∈ys:=aba (a:=p.1) (b:=p.2) h
def getD_mem{M:Type}{l:List M}{d:M}(h:i<l.length):l.getD i d∈l:=by
 rw[Xh,Xn h];exact YY h
def pN{M:Type}{P:M->Prop}(c:∀a b,P a->P b->a=b){a:M}(h:P a):a=@ó M #[a] P :=
 c _ _ h (@Classical.epsilon_spec M P #[a,h])
noncomputable def xp:Nat->Nat
 |0=>0
 |n+1=>if (xp n+1)*(xp n+1)<=n+1 then xp n+1 else xp n
theorem Gn:∀n,xp n*xp n<=n
 |0=>Xm _
 |n+1=>by
  have:=Gn n;unfold xp;split<;>lia
theorem F0:∀n,n<(xp n+1)*(xp n+1)
 |0=>by decide
 |n+1=>by
  have h:=F0 n;unfold xp;split
  .have:(xp n+1)*(xp n+1)<(xp n+1+1)*(xp n+1+1):=ο .b .b;lia
  .lia
def rt(k:Int):Int:=(xp k.toNat:Int)
def jk(k:Int):0<=rt k:=by unfold rt;lia
def D8(h:0<=k):rt k*rt k<=k:=by
 have:=Gn k.toNat;unfold rt;have e:((xp k.toNat*xp k.toNat:Nat):Int)<=((k.toNat:Nat):Int):=by lia
 rw[YA] at e;lia
def KY(h:0<=k):k<(rt k+1)*(rt k+1):=by
 have:=F0 k.toNat;unfold rt;have e:((k.toNat:Nat):Int)<(((xp k.toNat+1)*(xp k.toNat+1):Nat):Int):=by lia
 rw[YA] at e;simp only[ach,Int.natCast_one] at e;lia
def yG(c:0<=a)(h:a*a<b*b)(d:0<=b):a<b:=by
 apply Xf;intro e;have:b*b<=a*a:=X_ .b .b d c;lia
def FF(c:0<=a)(h:a<=b):a*a<=b*b:=X_ h h c .b
def jb(d:0<=r)(h1:r*r<=k)(h2:k<(r+1)*(r+1)):r=rt k:=by
 have e:0<=k:=ab2 (YR d d) h1;have a:=D8 e;have b:=KY e;have c:=jk k;have:=yG d (show r*r<(rt k+1)*(rt k+1) by lia) .b;have:=yG c (show rt k*rt k<(r+1)*(r+1) by lia) .b;lia
def yO(h:0<=k)(a:0<=d):d<rt k+1↔d*d<=k:=by
 constructor
 .intro z;exact ab2 (FF a .b) (D8 h)
 .intro z;exact yG a (by have:=KY h;lia) (by have:=jk k;lia)
def Mz(c:0<=k)(a:0<r)(h:k<r*r):0<=(r+k.fdiv r).fdiv 2/\(r+k.fdiv r).fdiv 2<r/\k<((r+k.fdiv r).fdiv 2+1)*((r+k.fdiv r).fdiv 2+1):=by
 rw[X9 k .b,X9 _ .a];have e:=Int.mul_ediv_add_emod k r;have f:=XO k (show r≠0 by lia);have m1:=XF k a;have j:0<=k/r:=aaF c .b;have q1:k/r<r:=acy a h;generalize k/r=q at *;generalize k%r=m at *;have i:2*((r+q)/2)<=r+q:=by lia
 have b:r+q+1<=2*((r+q)/2)+2:=by lia
 refine#[.b,.b,?_];generalize (r+q)/2=n at *;have d:(r+q+1)*(r+q+1)<=(2*n+2)*(2*n+2):=FF .b b
 have g:0<=(r-(q+1))*(r-(q+1)):=by
  rcases abd 0 (r-(q+1)) with z|z
  .exact YR z z
  .exact ZU z z
 grind
def w_(k:Int):Prop:=∀d:Int,3<=d->d*d<=k->d%2=1->¬d∣k
open Classical in
def aO(k:Int):Bool:=decide (k=2\/(3<=k/\k%2=1/\w_ k))
open Classical in
def bP:aO k=Á↔k=2\/(3<=k/\k%2=1/\w_ k):=by unfold aO;exact Yq
def aq(h:aO k=Á):2<=k:=by rcases bP.mp h with h|h<;>lia
noncomputable def uR(n:Nat)(m:Nat):Bool:=@Nat.rec (λ_=>Bool) Á (λi a=>cond (æ (n%(2*i+3)) 0) Â a) m
theorem zg{n:Nat}:∀{m:Nat},uR n m=Á->∀i,i<m->n%(2*i+3)≠0
 |0,_,i,hi=>absurd hi (Ze _)
 |m+1,h,i,hi=>by
  have h':cond (æ (n%(2*m+3)) 0) Â (uR n m)=Á:=h;cases a:æ (n%(2*m+3)) 0 with
  |true=>rw[a] at h';cases h'
  |false =>
   rw[a] at h';rcases ab3.mp hi with z|z
   .exact zg h' i z
   .subst z;intro e;rw[e] at a;cases a
def Ag{m:Nat}(h:uR n m=Á)(l:n<(2*m+3)*(2*m+3)):w_ (n:Int):=by
 intro d k g j a
 have i:d<(2*m+3:Int):=yG .b (by
  have:(n:Int)<(((2*m+3)*(2*m+3):Nat):Int):=by lia
  rw[YA] at this;simp only[ach,YA] at this
  exact Int.lt_of_le_of_lt g this) .b
 have z:=zg h ((d.toNat-3)/2) .b;have e:2*((d.toNat-3)/2)+3=d.toNat:=by lia
 rw[e] at z;obtain⟨c,f⟩:=a;apply z
 have b:d.toNat∣n:=by
  have:(d.toNat:Int)∣(n:Int):=#[c,by rw[f];congr 1;lia];exact ZA.mp this
 exact aan b
def ic{m:Nat}(h:uR n m=Á)(c:3<=n)(b:n%2=1)(a:n<(2*m+3)*(2*m+3)):aO (n:Int)=Á :=
 bP.mpr (.inr #[.b,.b,Ag h a])
def PB:Int:=1070000011
def sd:aO PB=Á:=ic (n:=1070000011) (m:=16384) .d .a .a .a
def KW:Nat->Int->Int
 |0,k=>k
 |n+1,k=>if aO k then k else KW n (k+2)
def pf(k:Int):Int:=if k<3 then 2 else KW 1073741824 (k+1-k%2)
theorem tE:∀(n:Nat) (k p:Int),aO p=Á->k<=p->(p-k)%2=0->p-k<=2*n->aO (KW n k)=Á/\k<=KW n k/\KW n k<=p/\(KW n k-k)%2=0
 |0,k,p,hp,h1,h2,f=>by
  have:k=p:=by lia
  subst this;exact#[hp,Yi _,Yi _,by unfold KW;lia]
 |n+1,k,p,hp,h1,h2,f=>by
  unfold KW;split
  .rename_i h;exact#[h,Yi _,h1,.b]
  .rename_i h;have e:k≠p:=by rintro rfl;exact h hp
   obtain⟨a,b,c,d⟩:=tE n (k+2) p hp .b .b .b;exact#[a,.b,c,.b]
def aP:aO 2=Á:=bP.mpr (.inl rfl)
def m9(h:k<=PB):aO (pf k)=Á:=by
 unfold pf;split
 .exact aP
 .exact(tE _ _ PB sd (by unfold PB at *;lia) (by unfold PB at *;lia) (by unfold PB at *;lia)).1
def Pr(h:k<=PB):pf k<=PB:=by
 unfold pf;split
 .decide
 .exact(tE _ _ PB sd (by unfold PB at *;lia) (by unfold PB at *;lia) (by unfold PB at *;lia)).2.2.1
def kz(hp:aO p=Á)(h:k<=p)(a:p%2=1)(c:p<=PB)(b:3<=k):pf k<=p:=by
 unfold pf;rw[W_ .b];exact(tE _ _ p hp .b .b (by unfold PB at *;lia)).2.2.1
def xB(h:k<=PB)(e:3<=k):pf k%2=1/\k<=pf k:=by
 unfold pf;rw[W_ .e];obtain⟨a,b,c,d⟩:=tE 1073741824 (k+1-k%2) PB sd (by unfold PB at *;omega) (by unfold PB at *;omega) (by unfold PB at *;omega);omega
def D5(k b m:Int)(r:Option Int):Prop:=match r with
 |none=>∀d,b<=d->d<m->(d-b)%2=0->¬d∣k
 |some d=>b<=d/\d<m/\(d-b)%2=0/\d∣k/\∀d',b<=d'->d'<d->(d'-b)%2=0->¬d'∣k
def D5.uniq:∀r a,D5 k b m r->D5 k b m a->r=a
 |none,none,_,_=>rfl
 |none,À d,h,h'=>absurd h'.2.2.2.1 (h d h'.1 h'.2.1 h'.2.2.1)
 |some d,none,h,h'=>absurd h.2.2.2.1 (h' d h.1 h.2.1 h.2.2.1)
 |some d,À d',h,h'=>by
  rcases Zw d d' with z|z|z
  .exact absurd h.2.2.2.1 (h'.2.2.2.2 d h.1 z h.2.2.1)
  .rw[z]
  .exact absurd h'.2.2.2.1 (h.2.2.2.2 d' h'.1 z h'.2.2.1)
theorem D5.ex(k b m:Int):∀n:Nat,(∃d,D5 k b m (À d))\/∀d,b<=d->d<m->d<b+2*n->(d-b)%2=0->¬d∣k
 |0=>.inr λd h1 h2 a=>by lia
 |n+1=>by
  rcases D5.ex k b m n with h|h
  .exact .inl h
  .by_cases c:b+2*n<m/\(b+2*n:Int)∣k
   .exact .inl #[b+2*n,.b,c.1,.b,c.2,λd' h1 h2 a=>h d' h1 .b h2 a]
   .refine .inr λd h1 h2 a g f=>?_;by_cases e:d=b+2*n
    .subst e;exact c #[h2,f]
    .exact h d h1 h2 .b g f
def Qs(k b m:Int):Option Int:=ó (D5 k b m)
def xK{r:Option Int}(h:D5 k b m r):r=Qs k b m:=pN D5.uniq h
def Az(k b m:Int):D5 k b m (Qs k b m):=by
 rcases D5.ex k b m (m-b).toNat with⟨d,h⟩|h
 .rwa[<-xK h]
 .have z:D5 k b m none:=λd h1 h2 a=>h d h1 h2 .e a;rwa[<-xK z]
def qu(k b e:Int):Option Int:=Qs k b (if rt k+1<e then rt k+1 else e)
def g7:k.fmod d=0↔d∣k:=#[Int.dvd_of_fmod_eq_zero,Int.fmod_eq_zero_of_dvd]
def IQ(a:3<=k)(e:k%2=1):(qu k 3 k).isNone=aO k:=by
 have hz:=Az k 3 (if rt k+1<k then rt k+1 else k)
 have h:rt k+1<=k:=by
  have:=(yO (show 0<=k by lia) (show 0<=k by lia)).mp;apply Xf;intro g;have z:=this .b;have:3*k<=k*k:=X_ a (Yi k) .b .b;lia
 have c:(if rt k+1<k then rt k+1 else k)=rt k+1:=by split<;>lia
 rw[c] at hz;unfold qu;rw[c];cases b:Qs k 3 (rt k+1) with
 |none =>
  rw[b] at hz;symm;refine bP.mpr (.inr #[a,e,λd h1 h2 f=>hz d h1 ((yO .b .b).mpr h2) .b])
 |some d =>
  rw[b] at hz;symm;show aO k=Â;cases hp:aO k with
  |false=>rfl
  |true =>
   rcases bP.mp hp with z|⟨_,_,z⟩
   .lia
   .have h1:3<=d:=hz.1;exact absurd hz.2.2.2.1 (z d hz.1 ((yO .b .b).mp hz.2.1) (by have:=hz.2.2.1;lia))
def fj(hp:aO p=Á)(o:0<d)(h:d∣p):d=1\/d=p:=by
 obtain⟨e,he⟩:=h;have j:=aq hp
 have m:0<e:=by
  apply Xf;intro f;have:d*e<=0:=X5 .b .b;lia
 rcases bP.mp hp with h2|⟨n,q,i⟩
 .have:d<=2:=by
   have:=Xt (show(0:Int)<2 by decide) (#[e,.b]:d∣2);lia
  lia
 .apply Xf;intro f;have k:d≠1:=λz=>f (.inl z);have hd2:d≠p:=λz=>f (.inr z);have l:e≠1:=by rintro rfl;lia
  have b:d%2=1:=by
   rcases Y4 d with z|z
   .obtain⟨c,g⟩:=Xu z;rw[g,XT] at he;lia
   .exact z
  have a:e%2=1:=by
   rcases Y4 e with z|z
   .obtain⟨c,g⟩:=Xu z;rw[g,Φ] at he;lia
   .exact z
  rcases abd d e with z|z
  .exact i d .b (by rw[he];exact Xp z .b) b #[e,he]
  .exact i e .b (by rw[he];exact Yg z .b) a #[d,by rw[he,XY]]
def euclid(hp:aO p=Á)(h:p∣a*b):p∣a\/p∣b:=by
 have d:=aq hp
 have e:(0:Int)<(Ê p a:Nat):=by
  have:=aay a (show p≠0 by lia);lia
 rcases fj hp e (Y9 p a) with z|z
 .right
  have c:Nat.Coprime p.natAbs a.natAbs:=by
   show Nat.gcd p.natAbs a.natAbs=1;have:Ê p a=1:=by lia
   exact this
  have:=YE.mpr h;rw[XN] at this;exact YE.mp (c.dvd_of_dvd_mul_left this)
 .left;rw[<-z];exact YO p a
def wy:a%m=b%m↔m∣a-b:=by
 rw[Int.emod_eq_emod_iff_emod_sub_eq_zero];exact#[Xu,Ya]
theorem je(x m:Int):∀n:Nat,(x%m)^n%m=x^n%m
 |0=>by rw[X1,X1]
 |n+1=>by rw[XE,XE,YC,je x m n,ZX _ (Zf m),<-YC]
def F9{α:List Int}(e:α.Nodup)(c:∀x,x∈α->x∈L):∃b,L.Perm (α++b):=by
 induction α generalizing L with
 |nil=>exact#[L,List.Perm.refl _]
 |cons x α f =>
  have g:x∈L:=c x (Xo ..);have a:=Ym.mp e;obtain⟨b,h⟩:=f (L:=L.erase x) a.2 λy d=>(abe (by rintro rfl;exact a.1 d)).mpr (c y (Xj _ d));exact#[b,(ŗ g).trans (İ x h)]
def dD:List Int->Int
 |[]=>1
 |x::l=>x*dD l
def sE{l a:List Int}(h:l.Perm a):dD l=dD a:=by
 induction h with
 |nil=>rfl
 |cons x _ b=>show x*_=x*_;rw[b]
 |swap x y l=>show y*(x*_)=x*(y*_);rw[Φ]
 |trans _ _ h1 h2=>exact h1.trans h2
theorem uX{p a:Int}:∀l:List Int,p∣dD (l.map λx=>a*x%p)-a^l.length*dD l
 |[]=>#[0,by simp[dD]]
 |x::l=>by
  obtain⟨c,d⟩:=uX (p:=p) (a:=a) l;have e:=Int.emod_def (a*x) p;have e1:dD (List.map (λx=>a*x%p) (x::l))=(a*x%p)*dD (l.map λx=>a*x%p):=rfl;have e2:dD (x::l)=x*dD l:=rfl;rw[e1,e2,Yd,XE];generalize dD (l.map λx=>a*x%p)=u at *;generalize a*x/p=q at *;generalize a*x%p=r at *;generalize a^l.length=t at *;generalize dD l=v at *;have b:u=t*v+p*c:=by lia
  exact#[a*x*c-q*u,by rw[e];grind]
theorem iS{p:Int}(hp:aO p=Á):∀l:List Int,(∀x,x∈l->¬p∣x)->¬p∣dD l
 |[],_=>λh=>by
  have:=aq hp;have:=Xt .a (show p∣(1:Int) from h);lia
 |x::l,a=>λh=>by
  rcases euclid hp (show p∣x*dD l from h) with z|z
  .exact a x (Xo ..) z
  .exact iS hp l (λy b=>a y (Xj _ b)) z
def b_(h:p∣x)(h1:-p<x)(h2:x<p):x=0:=by
 obtain⟨c,rfl⟩:=h;have hp:0<p:=by lia
 by_cases a:c=0
 .rw[a,XZ]
 .rcases Yf a with z|z
  .have:p*c<=p*(-1):=Xp .b .b;lia
  .have:p*1<=p*c:=Xp .b .b;lia
def He(hp:aO p=Á)(ha:¬p∣a):p∣a^(p-1).toNat-1:=by
 have r:=aq hp;let L:List Int:=(Ò (p-1).toNat).map λi:Nat=>(i:Int)+1
 have k:∀x,x∈L↔1<=x/\x<p:=by
  intro x;simp only[L,Xs,Yh];constructor
  .rintro⟨i,h,rfl⟩;lia
  .rintro⟨h1,h2⟩;exact#[(x-1).toNat,.b,.b]
 have o:L.Nodup:=by
  refine Zx.mpr (Zt ?_ (aaa (n:=(p-1).toNat)));intro i j _ _ w;lia
 have d:L.length=(p-1).toNat:=by simp[L]
 clear_value L
 have e:∀x,x∈L->¬p∣x:=λx f s=>by
  have:=(k x).mp f;have:=b_ s .b .b;lia
 have q:(L.map λx=>a*x%p).Nodup:=by
  refine Zx.mpr (Zt ?_ o);intro x y f m v he;have h1:p∣a*(x-y):=by rw[ZK];exact wy.mp he
  rcases euclid hp h1 with z|z
  .exact ha z
  .have:=(k x).mp f;have:=(k y).mp m;have:=b_ z .b .b;lia
 have u:∀x,x∈(L.map λx=>a*x%p)->x∈L:=by
  intro y m;obtain⟨x,f,rfl⟩:=Xs.mp m;have A:=XO (a*x) (show p≠0 by lia);have h1:=XF (a*x) (show 0<p by lia);refine(k _).mpr #[?_,h1];apply Xf;intro B;have hz:a*x%p=0:=by lia
  rcases euclid hp (Xu hz) with z|z
  .exact ha z
  .exact e x f z
 obtain⟨t,b⟩:=F9 q u
 have l:t=[]:=by
  have:=b.length_eq;rw[XD,Xk] at this;exact aap .b
 rw[l,aah] at b;have g:=uX (p:=p) (a:=a) L;rw[<-sE b,d] at g
 have h2:p∣(a^(p-1).toNat-1)*dD L:=by
  obtain⟨c,C⟩:=g;exact#[-c,by rw[Int.sub_mul,Yb,acr];lia]
 rcases euclid hp h2 with z|z
 .exact z
 .exact absurd z (iS hp L e)
def O9(hp:aO p=Á)(h2:p≠2)(ha:¬p∣a):p∣a^((p-1)/2).toNat-1\/p∣a^((p-1)/2).toNat+1:=by
 have d:p%2=1:=by rcases bP.mp hp with z|z<;>lia
 have c:=aq hp;have b:=He hp ha;rw[show(p-1).toNat=((p-1)/2).toNat+((p-1)/2).toNat by lia,Yz] at b;generalize a^((p-1)/2).toNat=y at *;exact euclid hp (show p∣(y-1)*(y+1) by rwa[show(y-1)*(y+1)=y*y-1 by grind])
noncomputable def bp(k p:Int):Int:=if k%p=0 then 0 else if p=2 then 1 else if (k%p)^((p-1)/2).toNat%p=1 then 1 else -1
def c9(h:p∣k):bp k p=0:=Xc (Ya h)
def wI(k p:Int):bp (k%p) p=bp k p:=by unfold bp;rw[ZX _ (Zf p)]
def nR(h:k%p=l%p):bp k p=bp l p:=by unfold bp;rw[h]
def eW(hp:aO p=Á)(h2:p≠2)(a:¬p∣k):bp k p=1↔p∣k^((p-1)/2).toNat-1:=by
 have b:=aq hp;unfold bp;rw[W_ (λz=>a (Xu z)),W_ h2,je,<-wy,Zy (show(0:Int)<=1 by decide) (show(1:Int)<p by lia)];split
 .rename_i h;exact#[λ_=>h,λ_=>rfl]
 .rename_i h;exact#[λz=>absurd z .a,λz=>absurd z h]
def bu(a:¬p∣k):bp k p=1\/bp k p=-1:=by
 unfold bp;rw[W_ (λz=>a (Xu z))];split
 .exact .inl rfl
 .split
  .exact .inl rfl
  .exact .inr rfl
def fY(hp:aO p=Á)(h2:p≠2)(a:¬p∣k):bp k p=-1↔p∣k^((p-1)/2).toNat+1:=by
 have b:=aq hp;have e:=eW hp h2 a;rcases O9 hp h2 a with z|z
 .rw[e.mpr z];refine#[λw=>absurd w .a,λw=>?_]
  have:p∣2:=by
   obtain⟨c,f⟩:=z;obtain⟨d,g⟩:=w;exact#[d-c,by rw[ZK];lia]
  have:=Xt .a this;lia
 .refine#[λ_=>z,λ_=>?_];rcases bu a with w|w
  .have:p∣2:=by
    obtain⟨c,f⟩:=e.mp w;obtain⟨d,g⟩:=z;exact#[d-c,by rw[ZK];lia]
   have:=Xt .a this;lia
  .exact w
def cT(hp:aO p=Á)(a b:Int):bp (a*b) p=bp a p*bp b p:=by
 have n:=aq hp;by_cases ha:p∣a
 .rw[c9 ha,aaK,c9 (XU ha #[b,rfl])]
 by_cases g:p∣b
 .rw[c9 g,XZ,c9 (XU g #[a,XY ..])]
 have f:¬p∣a*b:=λz=>by rcases euclid hp z with z|z<;>contradiction
 by_cases h2:p=2
 .subst h2;have e:∀k:Int,¬(2:Int)∣k->bp k 2=1:=λk o=>by unfold bp;rw[W_ (λz=>o (Xu z)),Xc rfl]
  rw[e _ ha,e _ g,e _ f];rfl
 have j:(a*b)^((p-1)/2).toNat=a^((p-1)/2).toNat*b^((p-1)/2).toNat:=abr ..;rcases bu ha with h|h<;>rcases bu g with i|i<;>rw[h,i]
 .refine(eW hp h2 f).mpr ?_;obtain⟨c,m⟩:=(eW hp h2 ha).mp h;obtain⟨d,l⟩:=(eW hp h2 g).mp i;rw[j];exact#[c*d*p+c+d,by grind]
 .refine(fY hp h2 f).mpr ?_;obtain⟨c,m⟩:=(eW hp h2 ha).mp h;obtain⟨d,l⟩:=(fY hp h2 g).mp i;rw[j];exact#[c*d*p-c+d,by grind]
 .refine(fY hp h2 f).mpr ?_;obtain⟨c,m⟩:=(fY hp h2 ha).mp h;obtain⟨d,l⟩:=(eW hp h2 g).mp i;rw[j];exact#[c*d*p+c-d,by grind]
 .refine(eW hp h2 f).mpr ?_;obtain⟨c,m⟩:=(fY hp h2 ha).mp h;obtain⟨d,l⟩:=(fY hp h2 g).mp i;rw[j];exact#[c*d*p-c-d,by grind]
def zJ(k d:Int)(r:Int×Int):Prop:=0<=r.1/\k=r.2*d^r.1.toNat/\¬d∣r.2
def zJ.lt(f:2<=d){r a:Int×Int}(h:zJ k d r)(h':zJ k d a)(g:r.1<a.1):False:=by
 obtain⟨i,b,c⟩:=h;obtain⟨b1,b2,b3⟩:=h';have e:a.1.toNat=(a.1.toNat-r.1.toNat-1)+1+r.1.toNat:=by lia
 rw[e,Yz,XE] at b2;have hp:d^r.1.toNat≠0:=ϓ .b;have z:r.2*d^r.1.toNat=(a.2*d^(a.1.toNat-r.1.toNat-1)*d)*d^r.1.toNat:=by rw[<-b,b2];grind
 have w:=abA hp z;exact c #[a.2*d^(a.1.toNat-r.1.toNat-1),by rw[w,XY]]
def zJ.uniq(b:2<=d)(r a:Int×Int)(h:zJ k d r)(h':zJ k d a):r=a:=by
 have h1:r.1=a.1:=by
  rcases Zw r.1 a.1 with z|z|z
  .exact(zJ.lt b h h' z).elim
  .exact z
  .exact(zJ.lt b h' h z).elim
 have hp:d^r.1.toNat≠0:=ϓ .b
 have h2:r.2=a.2:=by
  have:=h.2.1.symm.trans h'.2.1;rw[<-h1] at this;exact abA hp this
 exact abZ h1 h2
theorem zJ.ex{d:Int}(i:2<=d):∀(n:Nat) (k:Int),k≠0->k.natAbs<=n->∃r,zJ k d r
 |0,k,e,g=>by lia
 |n+1,k,e,g=>by
  by_cases h:d∣k
  .obtain⟨c,a⟩:=h;have b:c≠0:=by rintro rfl;rw[XZ] at a;exact e a
   have j:c.natAbs<k.natAbs:=by
    rw[a,XN];have:2*c.natAbs<=d.natAbs*c.natAbs:=ZY _ .b;lia
   obtain⟨r,h1,h2,f⟩:=zJ.ex i n c b .b;refine#[(r.1+1,r.2),.f,?_,f];dsimp only;rw[show(r.1+1).toNat=r.1.toNat+1 by lia,XE,a];rw[show d*c=d*(r.2*d^r.1.toNat) by rw[<-h2]];grind
  .exact#[(0,k),Yi 0,by dsimp only;rw[show(0:Int).toNat=0 from rfl,X1,XC],h]
def aV(k d:Int):Int×Int:=ó (zJ k d)
def k8(a:2<=d){r:Int×Int}(h:zJ k d r):aV k d=r:=(pN (zJ.uniq a) h).symm
def e9(b:2<=d)(h:k≠0):zJ k d (aV k d):=by
 obtain⟨r,a⟩:=zJ.ex b k.natAbs k h (Xm _);rwa[k8 b a]
def jB{v:Nat}(a:2<=d)(h:¬d∣k):aV (k*d^v) d=((v:Int),k) :=
 k8 a #[.f,by dsimp only;rw[Õ],h]
def CD(hp:aO p=Á)(ha:a≠0)(e:b≠0):aV (a*b) p=((aV a p).1+(aV b p).1,(aV a p).2*(aV b p).2):=by
 have c:=aq hp;obtain⟨f,d,g⟩:=e9 c ha;obtain⟨b1,b2,b3⟩:=e9 c e;refine k8 c #[.f,?_,λz=>by rcases euclid hp z with w|w<;>contradiction];dsimp only;rw[show((aV a p).1+(aV b p).1).toNat=(aV a p).1.toNat+(aV b p).1.toNat by lia,Yz];generalize (aV a p).1.toNat=m at *;generalize (aV b p).1.toNat=n at *;generalize (aV a p).2=u at *;generalize (aV b p).2=v at *;rw[d,b2];generalize p^m=x;generalize p^n=y;grind
def Gj(f:2<=d)(h:d∣k)(b:k≠0):k.fdiv d*d=k/\k.fdiv d≠0/\(k.fdiv d).natAbs<k.natAbs:=by
 obtain⟨c,rfl⟩:=h;have e:(d*c).fdiv d=c:=YQ c .b;rw[e];have a:c≠0:=by rintro rfl;simp at b
 refine#[XY ..,a,?_];rw[XN];have:2*c.natAbs<=d.natAbs*c.natAbs:=ZY _ .b;lia
def cls(k p:Int):Int×Int:=((aV k p).1%2,if p=2 then (aV k p).2%8 else bp (aV k p).2 p)
def b1(c:Bool):Int:=if c then 1 else 0
noncomputable def fB(x y:Int×Int):Bool:=decide ((b1 (decide (x.2%4=3)&&decide (y.2%4=3))+b1 (decide (x.1=1)&&(decide (y.2=3) || decide (y.2=5)))+b1 (decide (y.1=1)&&(decide (x.2=3) || decide (x.2=5))))%2=0)
noncomputable def CZ(x y:Int×Int)(p:Int):Bool:=decide ((if x.1=1 then y.2 else 1)*(if y.1=1 then x.2 else 1)*(if x.1=1/\y.1=1 then bp (-1) p else 1)=1)
def az(a b p:Int):Bool:=if p=0 then decide (0<a) || decide (0<b) else if p=2 then fB (cls a p) (cls b p) else CZ (cls a p) (cls b p) p
noncomputable def bq(x y:Int×Int)(p:Int):Int×Int:=((x.1+y.1)%2,if p=2 then x.2*y.2%8 else x.2*y.2)
def aM(hp:aO p=Á)(ha:a≠0)(c:b≠0):cls (a*b) p=bq (cls a p) (cls b p) p:=by
 unfold cls bq;rw[CD hp ha c];dsimp only;by_cases h:p=2
 .rw[Xc h,Xc h,Xc h,Xc h];exact abZ .f (YC ..)
 .rw[W_ h,W_ h,W_ h,W_ h];exact abZ .f (cT hp ..)
noncomputable def CO:List (Int×Int):=[(0,1),(0,-1),(1,1),(1,-1)]
noncomputable def C2:List (Int×Int):=[(0,1),(0,3),(0,5),(0,7),(1,1),(1,3),(1,5),(1,7)]
def cG(hp:2<=p)(h2:p≠2)(ha:a≠0):cls a p∈CO:=by
 obtain⟨_,_,b⟩:=e9 hp ha;unfold cls;rw[W_ h2];rcases Y4 (aV a p).1 with z|z<;>rcases bu b with w|w<;>rw[z,w]<;>decide
def cS(ha:a≠0):cls a 2∈C2:=by
 obtain⟨_,_,b⟩:=e9 (d:=2) .a ha;have h':(aV a 2).2%2≠0:=λz=>b (Xu z);have:(aV a 2).2%8=1\/(aV a 2).2%8=3\/(aV a 2).2%8=5\/(aV a 2).2%8=7:=by lia
 unfold cls;rw[Xc rfl];rcases Y4 (aV a 2).1 with z|z<;>rcases this with w|w|w|w<;>rw[z,w]<;>decide
def tU(hp:2<=p):bp (-1) p∈[(1:Int),-1]:=by
 have:¬p∣-1:=λz=>by
  have:=Xt .a ((Yp).mp z);lia
 rcases bu this with w|w<;>rw[w]<;>decide
noncomputable def lJ(x y:Int×Int)(m:Int):Bool:=decide ((if x.1=1 then y.2 else 1)*(if y.1=1 then x.2 else 1)*(if x.1=1/\y.1=1 then m else 1)=1)
def M1(x y:Int×Int)(p:Int):CZ x y p=lJ x y (bp (-1) p):=rfl
def Qa:∀x∈CO,∀y∈CO,∀m∈[(1:Int),-1],lJ x y m=lJ y x m:=.a
def NN:∀x∈C2,∀y∈C2,fB x y=fB y x:=.a
def P0:∀x∈CO,∀y∈CO,∀z∈CO,∀m∈[(1:Int),-1],lJ x (bq y z 3) m=(lJ x y m==lJ x z m):=by decide +kernel
def NT:∀x∈C2,∀y∈C2,∀z∈C2,fB x (bq y z 2)=(fB x y==fB x z):=by decide +kernel
def RL:∀x∈CO,∀y∈CO,bq (bq x y 3) y 3=x:=.a
def Qh:∀x∈C2,∀y∈C2,bq (bq x y 2) y 2=x:=.a
def Pn:∀x∈CO,∀m∈[(1:Int),-1],lJ x (bq (0,m) x 3) m=Á:=.a
def Mm:∀x∈C2,fB x (bq (0,7) x 2)=Á:=.a
def KA:∀x∈CO,∀y∈CO,∀m∈[(1:Int),-1],lJ x (bq y y 3) m=Á:=.a
def Gs:∀x∈C2,∀y∈C2,fB x (bq y y 2)=Á:=.a
def bU{x y:Int×Int}(h:p≠2):bq x y p=bq x y 3:=by unfold bq;rw[W_ h,W_ .a]
def Pl(p:Int):Prop:=p=0\/aO p=Á
def aN:az a b 0=(decide (0<a) || decide (0<b)):=Xc rfl
def aU:az a b 2=fB (cls a 2) (cls b 2):=by unfold az;rw[W_ .a,Xc rfl]
def bg(c:p≠0)(h2:p≠2):az a b p=lJ (cls a p) (cls b p) (bp (-1) p):=by unfold az;rw[W_ c,W_ h2,M1]
def Pl.cases(h:Pl p){Q:Prop}(a:p=0->Q)(h2:p=2->Q)(b:aO p=Á->p≠2->p≠0->2<=p->Q):Q:=by
 rcases h with z|z
 .exact a z
 .have:=aq z;by_cases w:p=2
  .exact h2 w
  .exact b z w .b this
def bA(h:Pl p)(ha:a≠0)(e:b≠0):az b a p=az a b p:=by
 refine h.cases (λz=>?_) (λz=>?_) (λhp h2 d c=>?_)
 .subst z;rw[aN,aN,Bool.or_comm]
 .subst z;rw[aU,aU];exact NN _ (cS e) _ (cS ha)
 .rw[bg d h2,bg d h2];exact Qa _ (cG c h2 e) _ (cG c h2 ha) _ (tU c)
def eN(a:b≠0)(d:c≠0):0<b*c↔(0<b↔0<c):=by
 rcases Yf a with z|z<;>rcases Yf d with w|w
 .have:=YK z w;constructor<;>intro<;>lia
 .have:=Yy z w;constructor<;>intro<;>lia
 .have:=aaG z w;constructor<;>intro<;>lia
 .have:=X7 z w;constructor<;>intro<;>lia
def dw(h:Pl p)(ha:a≠0)(e:b≠0)(d:c≠0):az a (b*c) p=(az a b p==az a c p):=by
 refine h.cases (λz=>?_) (λz=>?_) (λhp h2 g f=>?_)
 .subst z;rw[aN,aN,aN];have:=eN e d;by_cases w:0<a
  .simp[w]
  .by_cases x:0<b<;>by_cases y:0<c<;>simp[w,x,y,this]
 .subst z;rw[aU,aU,aU,aM aP e d];exact NT _ (cS ha) _ (cS e) _ (cS d)
 .rw[bg g h2,bg g h2,bg g h2,aM hp e d,bU h2];exact P0 _ (cG f h2 ha) _ (cG f h2 e) _ (cG f h2 d) _ (tU f)
def kO(hp:aO p=Á)(ha:a≠0)(b:r≠0):cls (a*r*r) p=cls a p:=by
 rw[aM hp (Xb ha b) b,aM hp ha b];have c:=aq hp;by_cases h2:p=2
 .subst h2;exact Qh _ (cS ha) _ (cS b)
 .rw[bU h2,bU h2];exact RL _ (cG c h2 ha) _ (cG c h2 b)
def n8(h:Pl p)(ha:a≠0)(c:r≠0):az (a*r*r) b p=az a b p:=by
 refine h.cases (λz=>?_) (λz=>?_) (λhp h2 d f=>?_)
 .subst z;rw[aN,aN]
  have e:0<a*r*r↔0<a:=by
   rw[XT,eN ha (Xb c c)];have:0<r*r:=(eN c c).mpr Ŕ;constructor
   .intro z;exact z.mpr this
   .intro z;exact#[λ_=>this,λ_=>z]
  rw[aa4.mpr e]
 .subst z;rw[aU,aU,kO aP ha c]
 .rw[bg d h2,bg d h2,kO hp ha c]
def sL(hp:aO p=Á):cls (-1) p=(0,if p=2 then 7 else bp (-1) p):=by
 have a:=aq hp
 have b:¬p∣-1:=λz=>by
  have:=Xt .a ((Yp).mp z);lia
 have e:aV (-1) p=(0,-1):=k8 a #[Yi 0,by dsimp only;rw[show(0:Int).toNat=0 from rfl,X1,XC],b];unfold cls;rw[e];rfl
def tK(h:Pl p)(ha:a≠0):az a (0-a) p=Á:=by
 have b:0-a=-1*a:=by lia
 refine h.cases (λz=>?_) (λz=>?_) (λhp h2 d c=>?_)
 .subst z;rw[aN];simp;lia
 .subst z;rw[aU,b,aM aP .a ha,sL aP,Xc rfl];exact Mm _ (cS ha)
 .rw[bg d h2,b,aM hp .a ha,sL hp,W_ h2,bU h2];exact Pn _ (cG c h2 ha) _ (tU c)
def t8(h:Pl p)(ha:a≠0)(b:r≠0):az a (r*r) p=Á:=by
 refine h.cases (λz=>?_) (λz=>?_) (λhp h2 d c=>?_)
 .subst z;rw[aN];have:0<r*r:=(eN b b).mpr Ŕ;simp[this]
 .subst z;rw[aU,aM aP b b];exact Gs _ (cS ha) _ (cS b)
 .rw[bg d h2,aM hp b b,bU h2];exact KA _ (cG c h2 ha) _ (cG c h2 b) _ (tU c)
def n9(hp:2<=p)(h:¬p∣a):aV a p=(0,a) :=
 k8 hp #[Yi 0,by dsimp only;rw[show(0:Int).toNat=0 from rfl,X1,XC],h]
def lD(hp:aO p=Á)(h2:p≠2)(ha:¬p∣a)(d:¬p∣b):az a b p=Á:=by
 have c:=aq hp;rw[bg .b h2];unfold cls;rw[n9 c ha,n9 c d];rfl
def fT(hp:aO p=Á)(h2:p≠2)(h:p∣a-1):bp a p=1:=by
 have b:=aq hp;rw[nR (l:=1) (wy.mpr h)];unfold bp;rw[Zy .a .b,W_ .a,W_ h2,Int.one_pow,Zy .a .b,Xc rfl]
def DV(e:Int):Nat->List (Int×Int)->Int->Int->List (Int×Int)×Int
 |0,fs,l,_=>(fs,l)
 |n+1,fs,l,b=>match qu l b e with
  |none=>(fs,l)
  |some d=>DV e n (fs++[(d,(aV l d).1)]) (aV l d).2 (d+2)
def yp(k:Int):List (Int×Int):=if 0<(aV k 2).1 then [(2,(aV k 2).1)] else []
def bD(k e:Int):List (Int×Int)×Int:=DV e k.toNat (yp k) (aV k 2).2 3
def ki(g:0<=l)(k:1<=b)(h:qu l b e=À d):b<=d/\d<e/\d*d<=l/\(d-b)%2=0/\d∣l/\∀d',b<=d'->d'<d->(d'-b)%2=0->¬d'∣l:=by
 have z:=Az l b (if rt l+1<e then rt l+1 else e);unfold qu at h;rw[h] at z;obtain⟨c,j,i,a,f⟩:=z;have h1:d<rt l+1/\d<e:=by split at j<;>omega
 exact#[c,h1.2,(yO g .e).mp h1.1,i,a,f]
def yR(f:0<=l)(g:1<=b)(h:qu l b e=none):∀d,b<=d->d<e->d*d<=l->(d-b)%2=0->¬d∣l:=by
 have z:=Az l b (if rt l+1<e then rt l+1 else e);unfold qu at h;rw[h] at z;intro d h1 h2 c a;have:=(yO f .e).mpr c;exact z d h1 (by split<;>omega) a
def xl(b:2<=d)(i:0<l)(h:d∣l):0<(aV l d).2/\2*(aV l d).2<=l/\1<=(aV l d).1/\(aV l d).2∣l:=by
 obtain⟨h1,h2,f⟩:=e9 b (show l≠0 by lia)
 have a:1<=(aV l d).1:=by
  apply Xf;intro g;have e:(aV l d).1.toNat=0:=by lia
  rw[e,X1,XC] at h2;exact f (h2▸h)
 have hp:(2:Int)<=d^(aV l d).1.toNat:=by
  have e:(aV l d).1.toNat=((aV l d).1.toNat-1)+1:=by lia
  rw[e,XE];have:(0:Int)<d^((aV l d).1.toNat-1):=Yj .b;have:1*2<=d^((aV l d).1.toNat-1)*d:=X_ .b b .a .b;lia
 generalize (aV l d).2=x at *;generalize d^(aV l d).1.toNat=t at *
 have c:0<x:=by
  apply Xf;intro g;have:x*t<=0:=Zc .b .b;lia
 have:x*2<=x*t:=Xp hp .b;exact#[c,.b,a,#[t,h2]]
noncomputable def pp:List (Int×Int)->Int
 |[]=>1
 |u::us=>u.1^u.2.toNat*pp us
theorem rg(u:Int×Int):∀us,pp (us++[u])=pp us*u.1^u.2.toNat
 |[]=>by show _*1=1*_;rw[XC,Yb]
 |v::us=>by
  show v.1^v.2.toNat*pp (us++[u])=v.1^v.2.toNat*pp us*_;rw[rg u us,XT]
def gB:Int->List (Int×Int)->Int->Prop
 |a,[],b=>a<b
 |a,u::us,b=>a<u.1/\aO u.1=Á/\1<=u.2/\gB u.1 us b
theorem gB.snoc{b b':Int}{u:Int×Int}(d:aO u.1=Á)(h1:1<=u.2)(e:b<=u.1)(c:u.1<b'):∀{a us},gB a us b->gB a (us++[u]) b'
 |_,[],h=>#[Int.lt_of_lt_of_le h e,d,h1,c]
 |_,_::_,h=>#[h.1,h.2.1,h.2.2.1,gB.snoc d h1 e c h.2.2.2]
structure zO(k:Int)(fs:List (Int×Int))(l b:Int):Prop where
 rise:gB 1 fs b
 prod:pp fs*l=k
 pos:0<l
 odd:l%2=1
 b3:3<=b
 bo:b%2=1
 free:∀d,3<=d->d<b->d%2=1->¬d∣l
def zO.prime{fs:List (Int×Int)}(I:zO k fs l b)(h:qu l b e=À d):aO d=Á:=by
 obtain⟨h1,h2,q,p,m,n⟩:=ki (Zs I.pos) (by have:=I.b3;lia) h;have s:=I.b3;have j:=I.bo;refine bP.mpr (.inr #[.b,.b,λf g r o i=>?_]);have a:f∣l:=XU i m
 have c:f<d:=by
  have:f*3<=f*f:=Xp g .b;lia
 rcases YS f b with z|z
 .exact I.free f g z o a
 .exact n f z c .b a
def zO.step{fs:List (Int×Int)}(I:zO k fs l b)(h:qu l b e=À d):zO k (fs++[(d,(aV l d).1)]) (aV l d).2 (d+2):=by
 obtain⟨h1,h2,A,x,q,s⟩:=ki (Zs I.pos) (by have:=I.b3;lia) h;have E:=I.b3;have n:=I.bo;obtain⟨v,D,j,i⟩:=xl (show 2<=d by lia) I.pos q;obtain⟨w,o,r⟩:=e9 (show 2<=d by lia) (show l≠0 by have:=I.pos;lia);refine#[I.rise.snoc (I.prime h) j h1 .b,?_,v,?_,.b,.b,λf p B u g=>?_]
 .rw[rg,XT,XY (d^_),<-o,I.prod]
 .have C:=I.odd;obtain⟨c,t⟩:=i;rcases Y4 (aV l d).2 with z|z
  .obtain⟨y,m⟩:=Xu z;rw[m,XT] at t;lia
  .exact z
 .have a:f∣l:=XU g i;rcases Zw f d with z|z|z
  .rcases YS f b with y|y
   .exact I.free f p y u a
   .exact s f y z .b a
  .rw[z] at g;exact r g
  .lia
theorem Gx{k e:Int}:∀(n:Nat) (fs:List (Int×Int)) (l b:Int),zO k fs l b->l<=n->∃b',zO k (DV e n fs l b).1 (DV e n fs l b).2 b'/\qu (DV e n fs l b).2 b' e=none
 |0,fs,l,b,I,h=>by have:=I.pos;lia
 |n+1,fs,l,b,I,h=>by
  unfold DV;cases a:qu l b e with
  |none=>exact#[b,I,a]
  |some d =>
   obtain⟨h1,h2,i,g,c,j⟩:=ki (Zs I.pos) (by have:=I.b3;lia) a;obtain⟨p,m,f,o⟩:=xl (show 2<=d by have:=I.b3;lia) I.pos c;exact Gx n _ _ _ (I.step a) .b
def oU(j:1<=k):zO k (yp k) (aV k 2).2 3/\(aV k 2).2<=k:=by
 obtain⟨h,c,g⟩:=e9 (show(2:Int)<=2 by decide) (show k≠0 by lia);have a:(aV k 2).2%2=1:=by lia
 have hp:(0:Int)<2^(aV k 2).1.toNat:=Yj .a
 have b:0<(aV k 2).2:=by
  apply Xf;intro i;have:(aV k 2).2*2^(aV k 2).1.toNat<=0:=Zc .b .b;lia
 have f:(aV k 2).2<=k:=by
  have:(aV k 2).2*1<=(aV k 2).2*2^(aV k 2).1.toNat:=Xp .b .b;lia
 refine#[#[?_,?_,b,a,.a,.a,λd h1 h2=>by lia],f]
 .unfold yp;split
  .exact#[by show(1:Int)<2;decide,aP,.f,by show(2:Int)<3;decide]
  .show(1:Int)<3;decide
 .unfold yp;split
  .show(2^(aV k 2).1.toNat*1)*_=k;rw[XC,XY];exact c.symm
  .have e:(aV k 2).1.toNat=0:=by lia
   rw[e,X1,XC] at c;show 1*_=k;rw[Yb];exact c.symm
def lj(a:1<=k):∃b,zO k (bD k e).1 (bD k e).2 b/\qu (bD k e).2 b e=none:=by
 obtain⟨I,h⟩:=oU a;exact Gx k.toNat _ _ 3 I .b
def pK(k:Int):List (Int×Int):=(bD k (k+1)).1++(if 1<(bD k (k+1)).2 then [((bD k (k+1)).2,1)] else [])
theorem jM:∀{us:List (Int×Int)} {a b:Int},0<=a->gB a us b->0<pp us
 |[],_,_,_,_=>by show(0:Int)<1;decide
 |u::us,a,b,ha,h=>X7 (Yj (by have:=h.1;lia)) (jM (by have:=h.1;lia) h.2.2.2)
def oV(n:1<=k):(∃b,gB 1 (pK k) b)/\pp (pK k)=k:=by
 obtain⟨b,I,l⟩:=lj (e:=k+1) n
 have m:(bD k (k+1)).2<=k:=by
  have h1:=I.prod;have h2:=jM .a I.rise;have q:=I.pos;have:1*(bD k (k+1)).2<=pp (bD k (k+1)).1*(bD k (k+1)).2:=Yg .b .b;lia
 unfold pK;generalize bD k (k+1)=r at *;split
 .rename_i s;have a:=I.odd;have i:=I.b3;have j:=I.bo
  have c:b<=r.2:=by
   rcases YS r.2 b with z|z
   .exact absurd (Zf r.2) (I.free r.2 .b z a)
   .exact z
  have d:aO r.2=Á:=by
   refine bP.mpr (.inr #[.b,a,λf h o p g=>?_]);rcases YS f b with z|z
   .exact I.free f h z p g
   .refine yR .b .b l f z ?_ o .b g;have:f*3<=f*f:=Xp h .b;lia
  refine#[#[r.2+1,I.rise.snoc d (Yi 1) c .f],?_];rw[rg];show pp r.1*r.2^(1:Int).toNat=k;rw[show(1:Int).toNat=1 from rfl,XE,X1,Yb];exact I.prod
 .have:r.2=1:=by have:=I.pos;lia
  rw[aah];refine#[#[b,I.rise],?_];have:=I.prod;rwa[‹r.2=1›,XC] at this
def bX:List Int->Int
 |[]=>0
 |x::l=>x+bX l
def vf{l a:List Int}(h:l.Perm a):bX l=bX a:=by
 induction h with
 |nil=>rfl
 |cons x _ b=>show x+_=x+_;rw[b]
 |swap x y l=>show y+(x+_)=x+(y+_);lia
 |trans _ _ h1 h2=>exact h1.trans h2
def gr(a p k:Int):Int:=a*k%p
def we(a p k:Int):Int:=if gr a p k<=(p-1)/2 then 0 else 1
noncomputable def gs(a p k:Int):Int:=if gr a p k<=(p-1)/2 then gr a p k else p-gr a p k
noncomputable def oG(n:Int):Int:=if n%2=0 then 1 else -1
def BV(m n:Int):oG (m+n)=oG m*oG n:=by
 unfold oG;rcases Y4 m with a|a<;>rcases Y4 n with b|b
 .rw[Xc .b,Xc a,Xc b];rfl
 .rw[W_ .b,Xc a,W_ .b];rfl
 .rw[W_ .b,W_ .b,Xc b];rfl
 .rw[Xc .b,W_ .b,W_ .b];rfl
def xU{n:Int}(h:m%2=n%2):oG m=oG n:=by unfold oG;rw[h]
def Hl(p:Int):List Int:=(Ò ((p-1)/2).toNat).map λi:Nat=>(i:Int)+1
def l7:x∈Hl p↔1<=x/\x<=(p-1)/2:=by
 unfold Hl;simp only[Xs,Yh];constructor
 .rintro⟨i,h,rfl⟩;lia
 .rintro⟨h1,h2⟩;exact#[(x-1).toNat,.b,.b]
def HB(p:Int):(Hl p).Nodup:=by
 refine Zx.mpr (Zt ?_ (aaa (n:=((p-1)/2).toNat)));intro i j _ _ a;lia
def LJ(p:Int):(Hl p).length=((p-1)/2).toNat:=by simp[Hl]
section
variable{p a:Int}(hp:aO p=Á)(h2:p≠2)(ha:¬p∣a)
include hp h2 in
theorem gh:p%2=1/\3<=p:=by
 have:=aq hp;rcases bP.mp hp with z|z<;>lia
include hp h2 ha in
theorem Pg(d:k∈Hl p):1<=gr a p k/\gr a p k<p:=by
 have e:=gh hp h2;have c:=l7.mp d;have f:=XO (a*k) (show p≠0 by lia);have h1:=XF (a*k) (show 0<p by lia);refine#[?_,h1];apply Xf;intro b;have hz:a*k%p=0:=by unfold gr at b;lia
 rcases euclid hp (Xu hz) with z|z
 .exact ha z
 .have:=b_ z .b .b;lia
include hp h2 ha in
theorem Pw(b:k∈Hl p):gs a p k∈Hl p:=by
 have c:=gh hp h2;have:=Pg hp h2 ha b;unfold gs;split
 .exact l7.mpr #[this.1,by assumption]
 .exact l7.mpr #[.e,.e]
def LK(a p k:Int):p∣a*k-gr a p k:=by
 have:=Ys (a*k) p;exact#[a*k/p,by unfold gr;lia]
def Bc(a p k:Int):p∣a*k-oG (we a p k)*gs a p k:=by
 obtain⟨c,b⟩:=LK a p k;unfold we gs oG;split
 .exact#[c,by simp;lia]
 .exact#[c+1,by rw[Zg];simp;lia]
include hp h2 ha in
theorem v7:(Hl p).Perm ((Hl p).map (gs a p)):=by
 have q:=gh hp h2
 have f:((Hl p).map (gs a p)).Nodup:=by
  refine Zx.mpr (Zt ?_ (HB p));intro x y g h n he;have j:=l7.mp g;have k:=l7.mp h;obtain⟨c,o⟩:=Bc a p x;obtain⟨d,i⟩:=Bc a p y;rw[<-he] at i;have e1:oG (we a p x)=1\/oG (we a p x)=-1:=by unfold oG;split<;>simp
  have e2:oG (we a p y)=1\/oG (we a p y)=-1:=by unfold oG;split<;>simp
  have key:p∣a*(x-y)\/p∣a*(x+y):=by
   rcases e1 with z|z<;>rcases e2 with w|w<;>rw[z] at o<;>rw[w] at i
   .exact .inl #[c-d,by rw[ZK,ZK];lia]
   .exact .inr #[c+d,by rw[Zg,Zg];lia]
   .exact .inr #[c+d,by rw[Zg,Zg];lia]
   .exact .inl #[c-d,by rw[ZK,ZK];lia]
  rcases key with z|z
  .rcases euclid hp z with w|w
   .exact ha w
   .have:=b_ w .b .b;lia
  .rcases euclid hp z with w|w
   .exact ha w
   .have:=b_ w .b .b;lia
 have m:∀x,x∈(Hl p).map (gs a p)->x∈Hl p:=by
  intro y h;obtain⟨x,g,rfl⟩:=Xs.mp h;exact Pw hp h2 ha g
 obtain⟨l,b⟩:=F9 f m
 have e:l=[]:=by
  have:=b.length_eq;rw[XD,Xk] at this;exact aap .b
 rwa[e,aah] at b
theorem Fy(a p:Int):∀l:List Int,p∣a^l.length*dD l-oG (bX (l.map (we a p)))*dD (l.map (gs a p))
 |[]=>#[0,by simp[dD,bX,oG]]
 |k::l=>by
  obtain⟨c,b⟩:=Fy a p l;obtain⟨d,e⟩:=Bc a p k;show p∣a^(l.length+1)*(k*dD l)-oG (we a p k+bX (l.map (we a p)))*(gs a p k*dD (l.map (gs a p)));rw[BV,XE];generalize oG (we a p k)=e1 at *;generalize oG (bX (l.map (we a p)))=e2 at *;generalize dD (l.map (gs a p))=v at *;generalize dD l=u at *;generalize a^l.length=t at *;generalize gs a p k=g at *;have h1:t*u=e2*v+p*c:=by lia
  have h2:a*k=e1*g+p*d:=by lia
  exact#[a*k*c+d*(e2*v),by grind]
include hp h2 ha in
theorem Hj:bp a p=oG (bX ((Hl p).map (we a p))):=by
 have f:=gh hp h2;have c:=Fy a p (Hl p);rw[<-sE (v7 hp h2 ha),LJ] at c;have e:p∣(a^((p-1)/2).toNat-oG (bX ((Hl p).map (we a p))))*dD (Hl p):=by rwa[Int.sub_mul]
 rcases euclid hp e with z|z
 .unfold oG at *;split
  .rename_i h;rw[Xc h] at z;exact(eW hp h2 ha).mpr z
  .rename_i h;rw[W_ h] at z;exact(fY hp h2 ha).mpr (by rwa[show a^((p-1)/2).toNat+1=a^((p-1)/2).toNat - -1 by lia])
 .refine absurd z (iS hp _ λx d b=>?_);have:=l7.mp d;have:=b_ b .b .b;lia
def Qb{a p:Int}(f:p%2=1):(a*k-a*k/p-gs a p k-we a p k)%2=0:=by
 have e:=Ys (a*k) p;have b:∃c,p=2*c+1:=#[p/2,.b];obtain⟨c,d⟩:=b
 have g:p*(a*k/p)=2*(c*(a*k/p))+a*k/p:=by
  rw[d];generalize a*k/(2*c+1)=z;grind
 unfold gs we gr;generalize a*k/p=q at *;generalize c*q=y at *;split<;>lia
theorem EV{a p:Int}(b:p%2=1):∀l:List Int,(a*bX l-bX (l.map λk=>a*k/p)-bX (l.map (gs a p))-bX (l.map (we a p)))%2=0
 |[]=>by simp[bX]
 |k::l=>by
  have h1:=EV (a:=a) b l;have h2:=Qb (a:=a) (k:=k) b;show(a*(k+bX l)-(a*k/p+bX (l.map λk=>a*k/p))-(gs a p k+bX (l.map (gs a p)))-(we a p k+bX (l.map (we a p))))%2=0;rw[Zg];generalize a*bX l=c at *;generalize a*k=d at *;lia
include hp h2 ha in
theorem KR(e:a%2=1):bX ((Hl p).map (we a p))%2=bX ((Hl p).map λk=>a*k/p)%2:=by
 have h:=EV (a:=a) (gh hp h2).1 (Hl p);rw[<-vf (v7 hp h2 ha)] at h;have d:∃c,a=2*c+1:=#[a/2,.b];obtain⟨c,b⟩:=d
 have:a*bX (Hl p)=2*(c*bX (Hl p))+bX (Hl p):=by
  rw[b];generalize bX (Hl p)=z;grind
 generalize c*bX (Hl p)=y at *;lia
end
def NG(n:Nat):2*bX ((Ò n).map λi:Nat=>(i:Int)+1)=(n:Int)*(n+1):=by
 have ap:∀(l:List Int) (x:Int),bX (l++[x])=bX l+x:=λl x=>by
  induction l with
  |nil=>show x+0=0+x;lia
  |cons y l a=>show y+bX (l++[x])=y+bX l+x;lia
 induction n with
 |zero=>rfl
 |succ n a =>
  rw[aci,Y3,XQ,ϵ,ap,Zg,a];have:((n+1:Nat):Int)=(n:Int)+1:=by lia
  rw[this];generalize (n:Int)=x;grind
def JO(hp:aO p=Á)(h2:p≠2):bp 2 p=if p%8=1\/p%8=7 then 1 else -1:=by
 have t:=gh hp h2
 have ha:¬p∣2:=λz=>by
  have:=Xt .a z;lia
 rw[Hj hp h2 ha];have h:=EV (a:=2) t.1 (Hl p);rw[<-vf (v7 hp h2 ha)] at h
 have e:∀l:List Int,(∀k,k∈l->k∈Hl p)->bX (l.map λk=>2*k/p)=0:=λl=>by
  induction l with
  |nil=>intro _;rfl
  |cons k l s =>
   intro d;have v:=l7.mp (d k (Xo ..));have f:2*k/p=0:=Int.ediv_eq_zero_of_lt .b .b;show 2*k/p+bX (l.map λk=>2*k/p)=0;rw[f,s λy n=>d y (Xj _ n)];rfl
 rw[e _ λ_ z=>z] at h;have b:=NG ((p-1)/2).toNat;have u:bX (Hl p)=bX ((Ò ((p-1)/2).toNat).map λi:Nat=>(i:Int)+1):=rfl;rw[<-u] at b;have o:(((p-1)/2).toNat:Int)=(p-1)/2:=by lia
 rw[o] at b;have m:∃c r,p=8*c+r/\(r=1\/r=3\/r=5\/r=7):=#[p/8,p%8,.b,.b];obtain⟨c,r,q,g⟩:=m;have key:∀x:Int,(p-1)/2=x->2*bX (Hl p)=x*(x+1):=λx j=>by rwa[<-j]
 rcases g with rfl|rfl|rfl|rfl
 .have k:=key (4*c) .b
  have:bX (Hl p)=2*(c*(4*c+1)):=by
   have:4*c*(4*c+1)=2*(2*(c*(4*c+1))):=by grind
   lia
  rw[Xc .b];unfold oG;rw[Xc .b]
 .have k:=key (4*c+1) .b
  have:bX (Hl p)=2*(4*(c*c)+3*c)+1:=by
   have:(4*c+1)*(4*c+1+1)=2*(2*(4*(c*c)+3*c)+1):=by grind
   lia
  rw[W_ .b];unfold oG;rw[W_ .b]
 .have k:=key (4*c+2) .b
  have:bX (Hl p)=2*(4*(c*c)+5*c+1)+1:=by
   have:(4*c+2)*(4*c+2+1)=2*(2*(4*(c*c)+5*c+1)+1):=by grind
   lia
  rw[W_ .b];unfold oG;rw[W_ .b]
 .have k:=key (4*c+3) .b
  have:bX (Hl p)=2*(4*(c*c)+7*c+3):=by
   have:(4*c+3)*(4*c+3+1)=2*(2*(4*(c*c)+7*c+3)):=by grind
   lia
  rw[Xc .b];unfold oG;rw[Xc .b]
def CQ(hp:aO p=Á)(h2:p≠2):bp (-1) p=if p%4=3 then -1 else 1:=by
 have b:=gh hp h2
 have ha:¬p∣-1:=λz=>by
  have:=Xt .a ((Yp).mp z);lia
 have a:∀n:Nat,(-1:Int)^(2*n)=1:=λn=>by rw[acs,show(-1:Int)^2=1 from rfl,Int.one_pow]
 split
 .refine(fY hp h2 ha).mpr ?_;have e:((p-1)/2).toNat=2*(((p-1)/2).toNat/2)+1:=by lia
  rw[e,XE,a];exact#[0,.b]
 .refine(eW hp h2 ha).mpr ?_;have e:((p-1)/2).toNat=2*(((p-1)/2).toNat/2):=by lia
  rw[e,a];exact#[0,.b]
def sm(n:Nat)(f:Nat->Int):Int:=bX ((Ò n).map f)
def fk(n:Nat)(f:Nat->Int):sm (n+1) f=sm n f+f n:=by
 have ap:∀(l:List Int) (x:Int),bX (l++[x])=bX l+x:=λl x=>by
  induction l with
  |nil=>show x+0=0+x;lia
  |cons y l a=>show y+bX (l++[x])=y+bX l+x;lia
 unfold sm;rw[aci,Y3,XQ,ϵ,ap]
def Ak(n:Nat)(f g:Nat->Int):sm n (λi=>f i+g i)=sm n f+sm n g:=by
 induction n with
 |zero=>rfl
 |succ n a=>rw[fk,fk,fk,a];lia
def rM{f g:Nat->Int}(h:∀i,i<n->f i=g i):sm n f=sm n g:=by
 induction n with
 |zero=>rfl
 |succ n a=>rw[fk,fk,a λi hi=>h i .b,h n .b]
def Iw(n:Nat):sm n (λ_=>0)=0:=by
 induction n with
 |zero=>rfl
 |succ n a=>rw[fk,a];rfl
def IA(m n:Nat)(f:Nat->Nat->Int):sm m (λi=>sm n (f i))=sm n (λj=>sm m λi=>f i j):=by
 induction m with
 |zero=>rw[show(λj=>sm 0 λi=>f i j)=λ_=>0 from rfl,Iw];rfl
 |succ m a =>
  rw[fk,a,show(λj=>sm (m+1) λi=>f i j)=λj=>(sm m λi=>f i j)+f m j from funext λj=>fk m _,Ak]
def N9(n:Nat):sm n (λ_=>1)=n:=by
 induction n with
 |zero=>rfl
 |succ n a=>rw[fk,a];lia
def cnt(b:0<=x):sm n (λj=>if (j:Int)+1<=x then 1 else 0)=if x<=n then x else n:=by
 induction n with
 |zero=>show(0:Int)=_;split<;>lia
 |succ n a =>
  rw[fk,a];split<;>split<;>split<;>lia
def below{t:Int}(hp:0<p)(f:0<=t)(d:¬p∣t)(b:t/p<=n):sm n (λj=>if p*((j:Int)+1)<t then 1 else 0)=t/p:=by
 have c:0<=t/p:=aaF f .b;have e:=cnt (n:=n) c;rw[Xc b] at e;rw[<-e];refine rM λj _=>?_
 have a:p*((j:Int)+1)<t↔(j:Int)+1<=t/p:=by
  rw[Int.le_ediv_iff_mul_le hp,XY];constructor
  .intro z;lia
  .intro z;rcases Zn z with w|w
   .exact w
   .exact absurd #[_,by rw[<-w,XY]] d
 by_cases z:p*((j:Int)+1)<t
 .rw[Xc z,Xc (a.mp z)]
 .rw[W_ z,W_ λw=>z (a.mpr w)]
def Lz(hp:aO p=Á)(h2:p≠2)(d:aO q=Á)(a:q≠2)(e:p≠q):
  bX ((Hl p).map λk=>q*k/p)=sm ((p-1)/2).toNat λi=>sm ((q-1)/2).toNat λj=>if p*((j:Int)+1)<q*((i:Int)+1) then 1 else 0:=by
 have l:=gh hp h2;have f:=gh d a
 have c:¬p∣q:=λz=>by
  rcases fj d (show 0<p by lia) z with w|w<;>lia
 unfold Hl sm;rw[ϴ];show sm ((p-1)/2).toNat _=sm ((p-1)/2).toNat _;refine rM λi hi=>?_;show q*((i:Int)+1)/p=sm _ _;refine(below .b (YR .b .b) (λz=>?_) ?_).symm
 .rcases euclid hp z with w|w
  .exact c w
  .have:=b_ w .b .b;lia
 .have h1:q*((i:Int)+1)<((q-1)/2+1)*p:=by
   have b:2*((i:Int)+1)<=p-1:=by lia
   have:q*(2*((i:Int)+1))<=q*(p-1):=Xp b .b;have e2:2*((q-1)/2+1)=q+1:=by lia
   have e3:2*(((q-1)/2+1)*p)=(q+1)*p:=by rw[<-XT,e2]
   have e4:q*(2*((i:Int)+1))=2*(q*((i:Int)+1)):=by grind
   have g:q*(p-1)=q*p-q:=by grind
   have h:(q+1)*p=q*p+p:=by grind
   lia
  have:=acy (show 0<p by lia) h1;lia
def Il(hp:aO p=Á)(h2:p≠2)(d:aO q=Á)(a:q≠2)(b:p≠q):
  bX ((Hl p).map λk=>q*k/p)+bX ((Hl q).map λk=>p*k/q)=(p-1)/2*((q-1)/2):=by
 have o:=gh hp h2;have l:=gh d a
 have e:¬p∣q:=λz=>by
  rcases fj d (show 0<p by lia) z with w|w<;>lia
 rw[Lz hp h2 d a b,Lz d a hp h2 (λz=>b z.symm),IA ((q-1)/2).toNat,<-Ak]
 have e1:sm ((p-1)/2).toNat (λi=>(sm ((q-1)/2).toNat λj=>if p*((j:Int)+1)<q*((i:Int)+1) then 1 else 0)+sm ((q-1)/2).toNat λf=>if q*((i:Int)+1)<p*((f:Int)+1) then 1 else 0)=sm ((p-1)/2).toNat λ_=>(((q-1)/2).toNat:Int):=by
  refine rM λi hi=>?_;rw[<-Ak,<-N9 ((q-1)/2).toNat];refine rM λj m=>?_
  have g:p*((j:Int)+1)≠q*((i:Int)+1):=λz=>by
   rcases euclid hp (show p∣q*((i:Int)+1) from #[_,z.symm]) with w|w
   .exact e w
   .have:=b_ w .b .b;lia
  generalize p*((j:Int)+1)=x at *;generalize q*((i:Int)+1)=y at *;split<;>split<;>lia
 rw[e1]
 have e2:∀(n:Nat) (c:Int),sm n (λ_=>c)=n*c:=λn c=>by
  induction n with
  |zero=>show(0:Int)=_;simp
  |succ n h=>rw[fk,h];simp[Int.add_mul]
 rw[e2];rw[show(((p-1)/2).toNat:Int)=(p-1)/2 by lia,show(((q-1)/2).toNat:Int)=(q-1)/2 by lia]
def HA(hp:aO p=Á)(h2:p≠2)(e:aO q=Á)(c:q≠2)(g:p≠q):bp q p*bp p q=if p%4=3/\q%4=3 then -1 else 1:=by
 have i:=gh hp h2;have h:=gh e c
 have f:¬p∣q:=λz=>by
  rcases fj e (show 0<p by lia) z with w|w<;>lia
 have d:¬q∣p:=λz=>by
  rcases fj hp (show 0<q by lia) z with w|w<;>lia
 rw[Hj hp h2 f,Hj e c d,xU (KR hp h2 f h.1),xU (KR e c d i.1),<-BV,Il hp h2 e c g];unfold oG;have j:=YC ((p-1)/2) ((q-1)/2) 2;rw[j];by_cases a:p%4=3<;>by_cases b:q%4=3
 .rw[show(p-1)/2%2=1 by lia,show(q-1)/2%2=1 by lia];simp[a,b]
 .rw[show(p-1)/2%2=1 by lia,show(q-1)/2%2=0 by lia];simp[a,b]
 .rw[show(p-1)/2%2=0 by lia];simp[a]
 .rw[show(p-1)/2%2=0 by lia];simp[a]
def Cg(p a b:Int):Prop:=p∣a-b
def iI(p a:Int):Cg p a a:=#[0,.b]
def vS(h:Cg p a b):Cg p b a:=by obtain⟨c,h⟩:=h;exact#[-c,by rw[acr];lia]
def cu(h:Cg p a b)(h':Cg p b c):Cg p a c:=by
 obtain⟨x,h⟩:=h;obtain⟨y,h'⟩:=h';exact#[x+y,by rw[Zg];lia]
def iL(h:Cg p a b)(h':Cg p c d):Cg p (a*c) (b*d):=by
 obtain⟨x,h⟩:=h;obtain⟨y,h'⟩:=h';exact#[x*c+b*y,by grind]
theorem o5{p a b:Int}(h:Cg p a b):∀n:Nat,Cg p (a^n) (b^n)
 |0=>by rw[X1,X1];exact iI _ _
 |n+1=>by rw[XE,XE];exact iL (o5 h n) h
def eX(p a:Int):Cg p (a%p) a:=by
 have:=Ys a p;exact#[-(a/p),by rw[acr];lia]
def Le(ha:0<=a/\a<p)(c:0<=b/\b<p)(h:Cg p a b):a=b:=by
 have:=b_ h .b .b;lia
def Pb(hp:aO p=Á)(h:Cg p (y*y) 1):Cg p y 1\/Cg p y (-1):=by
 have:p∣(y-1)*(y+1):=by rwa[show(y-1)*(y+1)=y*y-1 by grind]
 rcases euclid hp this with z|z
 .exact .inl z
 .exact .inr (by unfold Cg;rwa[show y - -1=y+1 by lia])
def K9(p k:Int):Prop:=2<=k/\bp k p=-1/\∀j,2<=j->j<k->bp j p≠-1
def K9.uniq(a b:Int)(ha:K9 p a)(c:K9 p b):a=b:=by
 rcases Zw a b with z|z|z
 .exact absurd ha.2.1 (c.2.2 a ha.1 z)
 .exact z
 .exact absurd c.2.1 (ha.2.2 b c.1 z)
def j9(p:Int):Int:=ó (K9 p)
def Mc(h:K9 p k):k=j9 p:=pN K9.uniq h
def NR(p:Int):Prop:=∃g,2<=g/\bp g p=-1
def mC(h:NR p):K9 p (j9 p):=by
 obtain⟨g,h1,c⟩:=h
 have:∀n:Nat,(∃k,K9 p k)\/∀j:Int,2<=j->j<2+(n:Int)->bp j p≠-1:=λn=>by
  induction n with
  |zero=>exact .inr λj a b=>by lia
  |succ n d =>
   rcases d with z|z
   .exact .inl z
   .by_cases w:bp (2+(n:Int)) p=-1
    .exact .inl #[2+(n:Int),.b,w,λj a b=>z j a b]
    .refine .inr λj a b=>?_;by_cases e:j=2+(n:Int)
     .rwa[e]
     .exact z j a .b
 rcases this (g-1).toNat with⟨k,z⟩|z
 .rwa[<-Mc z]
 .exact absurd c (z g h1 .b)
def Iq(e p s:Int):Prop:=0<=s/\Cg p (e^2^s.toNat) 1/\∀j:Nat,(j:Int)<s->¬Cg p (e^2^j) 1
def Iq.uniq(a b:Int)(ha:Iq e p a)(c:Iq e p b):a=b:=by
 rcases Zw a b with z|z|z
 .exact absurd ha.2.1 (c.2.2 a.toNat (by have:=ha.1;lia))
 .exact z
 .exact absurd c.2.1 (ha.2.2 b.toNat (by have:=c.1;lia))
def jC(e p:Int):Int:=ó (Iq e p)
def N5(h:Iq e p s):s=jC e p:=pN Iq.uniq h
def Ew(h:Cg p (e^2^n) 1):Iq e p (jC e p)/\jC e p<=n:=by
 have:∀m:Nat,(∃s:Nat,s<=m/\Iq e p s)\/∀j:Nat,j<=m->¬Cg p (e^2^j) 1:=λm=>by
  induction m with
  |zero =>
   by_cases w:Cg p (e^2^0) 1
   .exact .inl #[0,Xm 0,.b,w,λj a=>by lia]
   .exact .inr λj a=>by rwa[Nat.le_zero.mp a]
  |succ m c =>
   rcases c with⟨s,b,z⟩|z
   .exact .inl #[s,.b,z]
   .by_cases w:Cg p (e^2^(m+1)) 1
    .exact .inl #[m+1,Xm _,.b,w,λj a=>z j .b]
    .refine .inr λj a=>?_;by_cases q:j=m+1
     .rwa[q]
     .exact z j .b
 rcases this n with⟨s,b,z⟩|z
 .rw[<-N5 z];exact#[z,.b]
 .exact absurd h (z n (Xm n))
noncomputable def mq(p m:Int):Nat->Int
 |0=>m
 |i+1=>mq p m i*mq p m i%p
theorem K7(p m:Int):∀i,Cg p (mq p m i) (m^2^i)
 |0=>by show Cg p m (m^1);rw[XE,X1,Yb];exact iI _ _
 |i+1=>by
  have h:=K7 p m i;refine cu (eX p _) ?_;rw[show(2:Nat)^(i+1)=2^i+2^i by rw[Z_];lia,Yz];exact iL h h
def Fc(hp:0<p)(a:0<=m/\m<p):∀i,0<=mq p m i/\mq p m i<p
 |0=>a
 |_+1=>#[XO _ .b,XF _ hp]
def oP(p:Int):Nat->Int->Int->Int->Int->Int
 |0,_,r,_,_=>r
 |n+1,t,r,e,m=>if e=1 then r else oP p n (jC e p) (r*mq p m (t-jC e p-1).toNat%p) (e*(mq p m (t-jC e p-1).toNat*mq p m (t-jC e p-1).toNat%p)%p) (mq p m (t-jC e p-1).toNat*mq p m (t-jC e p-1).toNat%p)
structure Oc(p k t r e m:Int):Prop where
 r0:0<=r/\r<p
 e0:0<=e/\e<p
 m0:0<=m/\m<p
 t1:1<=t
 rr:Cg p (r*r) (k*e)
 ee:Cg p (e^2^(t-1).toNat) 1
 mm:e≠1->Cg p (m^2^(t-1).toNat) (-1)
def Oc.step{t:Int}(hp:aO p=Á)(I:Oc p k t r e m)(he:e≠1):
  Iq e p (jC e p)/\1<=jC e p/\jC e p<t/\Oc p k (jC e p) (r*mq p m (t-jC e p-1).toNat%p) (e*(mq p m (t-jC e p-1).toNat*mq p m (t-jC e p-1).toNat%p)%p) (mq p m (t-jC e p-1).toNat*mq p m (t-jC e p-1).toNat%p):=by
 have i:=aq hp;obtain⟨b,j⟩:=Ew I.ee;have q:=I.t1
 have a:1<=jC e p:=by
  apply Xf;intro o;have hz:jC e p=0:=by have:=b.1;lia
  have h1:=b.2.1;rw[hz] at h1
  have d:Cg p e 1:=by
   have:e^2^(0:Int).toNat=e:=by show e^1=e;rw[XE,X1,Yb]
   rwa [this] at h1
  exact he (Le I.e0 #[.a,.b] d)
 have f:jC e p<t:=by lia
 refine#[b,a,f,?_];generalize g:jC e p=s at *;have n:=K7 p m (t-s-1).toNat;have l:=Fc (show 0<p by lia) I.m0 (t-s-1).toNat;generalize mq p m (t-s-1).toNat=x at *
 have e1:Cg p (e^2^(s-1).toNat) (-1):=by
  have c:Cg p (e^2^(s-1).toNat*e^2^(s-1).toNat) 1:=by
   rw[<-Yz,show 2^(s-1).toNat+2^(s-1).toNat=2^s.toNat by rw[show s.toNat=(s-1).toNat+1 by lia,Z_];lia];exact b.2.1
  rcases Pb hp c with z|z
  .exact absurd z (b.2.2 (s-1).toNat .b)
  .exact z
 have h:Cg p (x^2^s.toNat) (-1):=by
  refine cu (o5 n _) ?_;rw[<-acs,<-Nat.pow_add,show(t-s-1).toNat+s.toNat=(t-1).toNat by lia];exact I.mm he
 have m1:Cg p ((x*x%p)^2^(s-1).toNat) (-1):=by
  refine cu (o5 (eX p _) _) ?_;rw[abr,<-Yz,show 2^(s-1).toNat+2^(s-1).toNat=2^s.toNat by rw[show s.toNat=(s-1).toNat+1 by lia,Z_];lia];exact h
 have bd:∀y:Int,0<=y%p/\y%p<p:=λy=>#[XO _ .b,XF _ .b];refine#[bd _,bd _,bd _,a,?_,?_,λ_=>m1]
 .have h1:Cg p (r*x%p*(r*x%p)) (r*x*(r*x)):=iL (eX _ _) (eX _ _);have h2:Cg p (k*(e*(x*x%p)%p)) (k*(e*(x*x))):=iL (iI _ _) (cu (eX _ _) (iL (iI _ _) (eX _ _)));refine cu h1 (cu ?_ (vS h2));rw[show r*x*(r*x)=r*r*(x*x) by grind,show k*(e*(x*x))=k*e*(x*x) by grind];exact iL I.rr (iI _ _)
 .refine cu (o5 (eX p _) _) ?_;rw[abr];refine cu (iL e1 m1) ?_;exact iI _ _
theorem Cw{p k:Int}(hp:aO p=Á):∀(n:Nat) (t r e m:Int),Oc p k t r e m->t<=n->(0<=oP p n t r e m/\oP p n t r e m<p)/\Cg p (oP p n t r e m*oP p n t r e m) k
 |0,t,r,e,m,I,h=>by have:=I.t1;lia
 |n+1,t,r,e,m,I,h=>by
  unfold oP;split
  .rename_i he;refine#[I.r0,?_];have:=I.rr
   rwa [he,XC] at this
  .rename_i he;obtain⟨d,a,c,b⟩:=I.step hp he;exact Cw hp n _ _ _ _ b .b
def HR(k p:Int):Int:=oP p (aV (p-1) 2).1.toNat (aV (p-1) 2).1 (k^(((aV (p-1) 2).2+1)/2).toNat%p) (k^(aV (p-1) 2).2.toNat%p) (if k^(aV (p-1) 2).2.toNat%p≠1 then j9 p^(aV (p-1) 2).2.toNat%p else 1)
def uc(hp:aO p=Á)(h2:p≠2):1<=(aV (p-1) 2).1/\(aV (p-1) 2).2%2=1/\1<=(aV (p-1) 2).2/\(aV (p-1) 2).2.toNat*2^((aV (p-1) 2).1-1).toNat=((p-1)/2).toNat:=by
 have d:=gh hp h2;obtain⟨c,b,a,h⟩:=xl (show(2:Int)<=2 by decide) (show 0<p-1 by lia) (show(2:Int)∣p-1 by lia);obtain⟨b1,b2,b3⟩:=e9 (show(2:Int)<=2 by decide) (show p-1≠0 by lia);refine#[a,.b,.b,?_];generalize (aV (p-1) 2).1=t at *;generalize (aV (p-1) 2).2=o at *;have e:t.toNat=(t-1).toNat+1:=by lia
 rw[e,XE] at b2
 have g:o*2^(t-1).toNat=(p-1)/2:=by
  have:p-1=2*(o*2^(t-1).toNat):=by rw[b2];grind
  lia
 have f:((o.toNat*2^(t-1).toNat:Nat):Int)=o*2^(t-1).toNat:=by
  rw[YA,aaH];rw[show((o.toNat:Nat):Int)=o by lia];rfl
 lia
def yU(hp:aO p=Á)(h2:p≠2)(g:0<=k/\k<p)(b:bp k p=1)(e:NR p):
  Oc p k (aV (p-1) 2).1 (k^(((aV (p-1) 2).2+1)/2).toNat%p) (k^(aV (p-1) 2).2.toNat%p) (if k^(aV (p-1) 2).2.toNat%p≠1 then j9 p^(aV (p-1) 2).2.toNat%p else 1):=by
 have j:=gh hp h2;obtain⟨f,i,h,heq⟩:=uc hp h2;generalize (aV (p-1) 2).1=t at *;generalize (aV (p-1) 2).2=o at *;have bd:∀y:Int,0<=y%p/\y%p<p:=λy=>#[XO _ .b,XF _ .b];have c:¬p∣k:=λz=>by rw[c9 z] at b;cases b
 refine#[bd _,bd _,?_,f,?_,?_,λhe=>?_]
 .split
  .exact bd _
  .exact#[.a,.b]
 .have h1:Cg p (k^((o+1)/2).toNat%p*(k^((o+1)/2).toNat%p)) (k^((o+1)/2).toNat*k^((o+1)/2).toNat):=iL (eX _ _) (eX _ _);refine cu h1 ?_;rw[<-Yz,show((o+1)/2).toNat+((o+1)/2).toNat=o.toNat+1 by lia,XE,XY];exact iL (iI _ _) (vS (eX _ _))
 .refine cu (o5 (eX p _) _) ?_;rw[<-acs,heq];exact(eW hp h2 c).mp b
 .rw[Xc he];refine cu (o5 (eX p _) _) ?_;rw[<-acs,heq];have d:=mC e
  have a:¬p∣j9 p:=λz=>by
   have:=d.2.1;rw[c9 z] at this;cases this
  have:=(fY hp h2 a).mp d.2.1;unfold Cg;rw[show ∀y:Int,y - -1=y+1 from λy=>by lia];exact this
def N8(hp:aO p=Á)(h2:p≠2)(c:0<=k/\k<p)(a:bp k p=1)(b:NR p):(0<=HR k p/\HR k p<p)/\Cg p (HR k p*HR k p) k:=by
 obtain⟨d,_⟩:=uc hp h2;exact Cw hp _ _ _ _ _ (yU hp h2 c a b) .b
def xi(k p:Int):Option Int:=if bp k p=-1 then none else if bp k p=0\/p=2 then À (bp k p) else À (HR (k%p) p)
def tf:xi k p=none↔bp k p=-1:=by
 unfold xi;split
 .rename_i h;exact#[λ_=>h,λ_=>rfl]
 .rename_i h;split
  .exact#[λz=>(Œ _ z).elim,λz=>absurd z h]
  .exact#[λz=>(Œ _ z).elim,λz=>absurd z h]
def MU(hp:aO p=Á)(h2:p≠2)(a:NR p)(h:xi k p=À r):(0<=r/\r<p)/\Cg p (r*r) k:=by
 have f:=aq hp;unfold xi at h;by_cases h1:bp k p=-1
 .rw[Xc h1] at h;cases h
 .rw[W_ h1] at h;by_cases b:bp k p=0
  .rw[Xc (.inl b)] at h
   have d:r=0:=by
    have:=Xy h;lia
   have g:p∣k:=by
    apply Xf;intro a;rcases bu a with z|z<;>lia
   rw[d];obtain⟨c,j⟩:=g;exact#[#[.a,.b],#[-c,by rw[acr];lia]]
  .rw[W_ (λz=>z.elim b h2)] at h;have d:=Xy h;have e:¬p∣k:=λz=>b (c9 z);have i:bp k p=1:=by rcases bu e with z|z<;>lia
   have:=N8 (k:=k%p) hp h2 #[XO _ .b,XF _ .b] (by rwa[wI]) a;rw[d] at this;exact#[this.1,cu this.2 (eX _ _)]
def mZ{n:Int}(h:k∣n*m)(a:Ê k m=1):k∣n:=by
 have:=Int.dvd_mul_gcd_iff_dvd_mul.mpr h;rw[a] at this;simpa using this
def j_(n:Int):Prop:=n≠0/\∀d:Int,2<=d->¬d*d∣n
def oA:j_ 1:=#[.a,λd a h=>by
 have:=Xt .a h;have:2*2<=d*d:=X_ a a .a .b
 lia]
def rT{n:Int}(h:j_ n):j_ (-n):=#[by have:=h.1;lia,λd a z=>h.2 d a (Yp.mp z)]
def w6{n:Int}(h:j_ n)(a:m∣n):j_ m:=#[by rintro rfl;exact h.1 (acI.mp a),λd h2 z=>h.2 d h2 (XU z a)]
def lA(hp:aO p=Á)(h:¬p∣d):Ê d p=1:=by
 have a:=aq hp
 have h1:=fj hp (d:=(Ê d p:Int)) (by
  have:0<Ê d p:=Int.gcd_pos_of_ne_zero_right _ .b
  lia) (YO ..)
 rcases h1 with h1|h1
 .lia
 .exact absurd (by rw[<-h1];exact Y9 ..) h
def lU{n:Int}(h:j_ n)(hp:aO p=Á)(b:¬p∣n):j_ (n*p):=#[Xb h.1 (by have:=aq hp;lia),λd f z=>by
 have e:=aq hp;by_cases a:p∣d
 .obtain⟨c,rfl⟩:=a;have:p*p∣n*p:=XU #[c*c,by grind] z;exact b (Int.dvd_of_mul_dvd_mul_right .b this)
 .exact h.2 d f (mZ z (lA hp λw=>by rcases euclid hp w with w|w<;>exact a w))]
def L0(b:Ê r s=1):Ê (s*s) (r*r)=1:=by
 have a:Ê s (r*r)=1:=by rw[Int.gcd_mul_right_right_of_gcd_eq_one (by rwa[ab1]),ab1];exact b
 rwa[Int.gcd_mul_right_left_of_gcd_eq_one a]
def BY(a:j_ f)(c:0<s)(b:Ê r s=1)(h:s*s∣f*(r*r)):s=1:=by
 have h2:s*s∣f:=mZ h (L0 b);rcases YS s 2 with z|z
 .lia
 .exact absurd h2 (a.2 s z)
def x3{n:Int}(k:j_ n)(i:j_ f)(o:0<r)(p:0<s)(e:n*(r*r)=f*(s*s)):n=f/\r=s:=by
 obtain⟨g,a,s',h,b,j,es⟩:∃g a s':Int,0<g/\Ê a s'=1/\r=g*a/\s=g*s':=by
  have l:0<Ê r s:=aay _ .b;refine#[Ê r s,r/Ê r s,s/Ê r s,.b,?_,(ZZ (Y9 ..)).symm,(ZZ (YO ..)).symm];rw[Int.gcd_ediv_gcd_ediv_gcd l]
 subst j es
 have c:0<a:=by
  rcases YS 0 a with z|z
  .exact z
  .have:=X5 (Zs h) z;lia
 have d:0<s':=by
  rcases YS 0 s' with z|z
  .exact z
  .have:=X5 (Zs h) z;lia
 have m:n*(a*a)=f*(s'*s'):=by
  have:(g*g)*(n*(a*a))=(g*g)*(f*(s'*s')):=by grind
  exact abQ (Xb .b .b) this
 have h1:s'=1:=BY k d b #[f,by grind];have h2:a=1:=BY i c (by rwa[ab1]) #[n,by grind];subst h1 h2;exact#[.b,rfl]
def zD(A:Int):Prop:=∀q,aO q=Á->q∣A->q<32768
def Ji(l:Int):Prop:=∀q,aO q=Á->q∣l->32768<=q
def pH(h:2<=k):∃q,aO q=Á/\q∣k:=by
 obtain⟨⟨b,a⟩,hp⟩:=oV (k:=k) .b;cases c:pK k with
 |nil=>rw[c] at hp;simp only[pp] at hp;lia
 |cons u us =>
  rw[c] at a hp;refine#[u.1,a.2.1,?_];rw[<-hp,pp];have h1:=a.2.2.1;obtain⟨m,d⟩:∃m,u.2.toNat=m+1:=#[u.2.toNat-1,.b];rw[d,XE];exact#[u.1^m*pp us,by grind]
def D_(h:∀q,aO q=Á->q∣a->¬q∣b)(ha:a≠0):Ê a b=1:=by
 have c:0<Ê a b:=aay _ ha;rcases acJ (Ê a b) 2 with z|z
 .lia
 .obtain⟨q,h1,h2⟩:=pH (k:=(Ê a b:Int)) .b;exact absurd (XU h2 (YO ..)) (h q h1 (XU h2 (Y9 ..)))
def vJ(ha:zD A)(c:Ji l)(a:l≠0):Ê l A=1:=D_ (λq h1 h2 b=>by have:=ha q h1 b;have:=c q h1 h2;lia) a
def ly(ha:zD A)(a:zD B):zD (A*B):=λq h1 h2=>by rcases euclid h1 h2 with z|z;exact ha q h1 z;exact a q h1 z
def IF(ha:Ji A)(a:Ji B):Ji (A*B):=λq h1 h2=>by rcases euclid h1 h2 with z|z;exact ha q h1 z;exact a q h1 z
def xy(a:0<A)(h:A<32768):zD A:=λq _ h2=>by have:=Xt a h2;lia
def Ij:Ji 1:=λq h1 h2=>by have:=Xt .a h2;have:=aq h1;lia
theorem CL{q:Int}(a:aO q=Á)(h:q<32768):∀n:Nat,zD (q^n)
 |0=>λr h1 h2=>by rw[X1] at h2;have:=Xt .a h2;have:=aq h1;lia
 |n+1=>by
  rw[XE];exact ly (CL a h n) λr h1 h2=>by have:=Xt (by have:=aq a;lia) h2;lia
def ng(i:0<l)(g:l%2=1)(b3:3<=b)(h:b%2=1)(a:∀d,3<=d->d<b->d%2=1->¬d∣l)(f:qu l b 32768=none):∀d,3<=d->d<32768->d*d<=l->d%2=1->¬d∣l:=λd h1 h2 e c=>by
 rcases YS d b with z|z
 .exact a d h1 z c
 .exact yR .b .b f d z h2 e .b
def sR{fs:List (Int×Int)}(I:zO k fs l b)(h:qu l b 32768=none)(h1:1<l)(h2:l<1073741824):aO l=Á/\b<=l:=by
 have g:=ng I.pos I.odd I.b3 I.bo I.free h;have a:=I.odd;refine#[bP.mpr (.inr #[.b,a,λd e c f=>g d e ?_ c f]),?_]
 .rcases YS d 32768 with z|z
  .exact z
  .have:32768*32768<=d*d:=X_ z z .a .b;lia
 .rcases YS l b with z|z
  .exact absurd (Zf l) (I.free l .b z a)
  .exact z
def t7{fs:List (Int×Int)}(I:zO k fs l b)(d:qu l b 32768=none)(h:1073741824<=l):Ji l:=λq h1 h2=>by
 have a:=ng I.pos I.odd I.b3 I.bo I.free d;rcases YS q 32768 with z|z
 .rcases bP.mp h1 with w|⟨e,c,f⟩
  .subst w;have:=I.odd;lia
  .have:q*q<=32768*32768:=X_ .b .b .b .a;exact absurd h2 (a q e z .b c)
 .exact z
theorem vd{k e:Int}:∀(n:Nat) (fs:List (Int×Int)) (l b:Int),zO k fs l b->(∀u∈fs,u.1<e)->∀u∈(DV e n fs l b).1,u.1<e
 |0,fs,l,b,I,h=>h
 |n+1,fs,l,b,I,h=>by
  unfold DV;cases a:qu l b e with
  |none=>exact h
  |some d =>
   refine vd n _ _ _ (I.step a) λu c=>?_;rcases X2.mp c with z|z
   .exact h u z
   .have:=ki (Zs I.pos) (by have:=I.b3;lia) a;simp only[Xv] at z;subst z;exact this.2.1
def tX(b:1<=k)(he:2<e):∀u∈(bD k e).1,u.1<e:=by
 refine vd _ _ _ _ (oU b).1 λu a=>?_;unfold yp at a;split at a
 .simp only[Xv] at a;subst a;exact he
 .cases a
theorem i7:∀{us:List (Int×Int)} {a b:Int},gB a us b->∀u∈us,aO u.1=Á/\1<=u.2
 |u::us,a,b,h,v,c=>by
  rcases Xa.mp c with z|z
  .subst z;exact#[h.2.1,h.2.2.1]
  .exact i7 h.2.2.2 v z
theorem An:∀{us:List (Int×Int)},(∀u∈us,aO u.1=Á/\u.1<32768)->zD (pp us)
 |[],_=>λq h1 h2=>by have a:q∣1:=h2;have:=Xt .a a;have:=aq h1;lia
 |u::us,h=>ly (CL (h u (Xo ..)).1 (h u (Xo ..)).2 _) (An λv b=>h v (Xj _ b))
def Au(c:1<=s):∃A L,zD A/\Ji L/\0<A/\0<L/\s=A*L:=by
 obtain⟨b,I,f⟩:=lj (k:=s) (e:=32768) c;have a:zD (pp (bD s 32768).1):=An λu d=>#[(i7 I.rise u d).1,tX c .a u d];have hp:=jM .a I.rise;have g:=I.pos;by_cases h1:(bD s 32768).2<32768
 .exact#[s,1,by rw[<-I.prod];exact ly a (xy g h1),Ij,.b,.a,.b]
 .refine#[_,_,a,?_,hp,g,I.prod.symm];by_cases h2:(bD s 32768).2<1073741824
  .have:=sR I f .b h2;intro q q1 h;rcases fj this.1 (by have:=aq q1;lia) h with z|z
   .have:=aq q1;lia
   .lia
  .exact t7 I f .b
def LN{L:Int}(g:zD A)(d:zD B)(f:Ji l)(b:Ji L)(c:0<l)(h1:0<L)(e:A*l=B*L):l=L:=by
 have h:l∣L:=mZ (k:=l) (n:=L) (m:=B) #[A,by grind] (vJ d f .b);have a:L∣l:=mZ (k:=L) (n:=l) (m:=A) #[B,by grind] (vJ g b .b);have:=Xt h1 h;have:=Xt c a;lia
def Tame(k:Int):Prop:=(∃f s,zD f/\0<f/\1<=s/\k=f*(s*s))\/(∃f P,zD f/\0<f/\aO P=Á/\P<1073741824/\k=f*P)
def Dd{fs:List (Int×Int)}(h:Tame k)(x:1<=k)(I:zO k fs l b)(r:∀u∈fs,u.1<32768)(t:qu l b 32768=none):l<1073741824\/rt l*rt l=l:=by
 rcases YS l 1073741824 with z|z
 .exact .inl z
 have o:=t7 I t z;have c:zD (pp fs):=An λu j=>#[(i7 I.rise u j).1,r u j];have d:=I.prod;rcases h with⟨f,s,h1,h2,a,g⟩|⟨f,P,h1,h2,a,g,y⟩
 .obtain⟨A,L,q,p,B,i,w⟩:=Au a;have e:l=L*L:=LN c (ly h1 (ly q q)) o (IF p p) .b (X7 i i) (by rw[d,g,w];grind);right;have:L=rt l:=jb .b .b (by rw[e];grind);rw[<-this,e]
 .have v:l∣P:=mZ (k:=l) (n:=P) (m:=f) #[pp fs,by grind] (vJ h1 o .b);have:=Xt (by have:=aq a;lia) v;lia
noncomputable def nW(c:Int×Int)(u:Int×Int):Int×Int:=(if u.2%2=1 then c.1*u.1 else c.1,c.2*u.1^(u.2/2).toNat)
theorem zL:∀{us:List (Int×Int)} {a b:Int} {c:Int×Int},gB a us b->j_ c.1->(∀q,aO q=Á->a<q->¬q∣c.1)->0<c.2 ->
  j_ (us.foldl nW c).1/\0<(us.foldl nW c).2/\(us.foldl nW c).1*((us.foldl nW c).2*(us.foldl nW c).2)=c.1*(c.2*c.2)*pp us
 |[],a,b,c,_,f,_,h=>#[f,h,by simp[pp]]
 |u::us,a,b,c,o,f,j,h=>by
  obtain⟨v,g,w,t⟩:=o;have s:=aq g;have e:0<u.1^(u.2/2).toNat:=Yj .b
  have l:j_ (nW c u).1:=by
   unfold nW;dsimp only;split
   .exact lU f g (j _ g v)
   .exact f
  have r:∀q,aO q=Á->u.1<q->¬q∣(nW c u).1:=λq h1 h2 d=>by
   unfold nW at d;dsimp only at d;split at d
   .rcases euclid h1 d with z|z
    .exact j q h1 .b z
    .have:=Xt .b z;lia
   .exact j q h1 .b d
  have p:0<(nW c u).2:=X7 h e;obtain⟨k,n,m⟩:=zL (c:=nW c u) t l r p;refine#[k,n,?_];rw[ς,m,pp]
  have i:(if u.2%2=1 then u.1 else 1)*(u.1^(u.2/2).toNat*u.1^(u.2/2).toNat)=u.1^u.2.toNat:=by
   rw[<-Yz];by_cases z:u.2%2=1
   .rw[Xc z,show u.2.toNat=((u.2/2).toNat+(u.2/2).toNat)+1 by lia,XE,XY]
   .rw[W_ z,Yb,show u.2.toNat=(u.2/2).toNat+(u.2/2).toNat by lia]
  unfold nW;dsimp only;rw[<-i];generalize u.1^(u.2/2).toNat=y;split<;>grind
def qI(k:Int):List (Int×Int)×Int :=
 if 1<(bD k 32768).2/\(bD k 32768).2<1073741824 then ((bD k 32768).1++[((bD k 32768).2,1)],1) else ((bD k 32768).1,rt (bD k 32768).2)
def AN(d:1<=k)(l:Tame k):(1<(bD k 32768).2/\(bD k 32768).2<1073741824\/rt (bD k 32768).2*rt (bD k 32768).2=(bD k 32768).2)/\(∃b,gB 1 (qI k).1 b)/\0<(qI k).2/\pp (qI k).1*((qI k).2*(qI k).2)=k:=by
 obtain⟨b,I,f⟩:=lj (k:=k) (e:=32768) d;have j:=Dd l d I (tX d .a) f;have g:=I.pos;have a:=I.prod;unfold qI;by_cases h1:1<(bD k 32768).2/\(bD k 32768).2<1073741824
 .rw[Xc h1];obtain⟨h,p2⟩:=sR I f h1.1 h1.2;refine#[.inl h1,#[_,gB.snoc h (by dsimp only;decide) p2 (b':=(bD k 32768).2+1) .f I.rise],by dsimp only;decide,?_];dsimp only;rw[rg];dsimp only;rw[show(1:Int).toNat=1 from rfl,XE,X1,Yb,XC,XC,a]
 .rw[W_ h1]
  have c:rt (bD k 32768).2*rt (bD k 32768).2=(bD k 32768).2:=by
   rcases j with z|z
   .have e1:(bD k 32768).2=1:=by lia
    rw[e1];have:(1:Int)=rt 1:=jb .a .a .a;rw[<-this];rfl
   .exact z
  have i:=jk (bD k 32768).2;refine#[.inr c,#[b,I.rise],?_,?_]
  .dsimp only;rcases Zn i with z|z
   .exact z
   .rw[<-z] at c;lia
  .dsimp only;rw[c,a]
def J4(t b:Int):Int×Int:=(qI (t.natAbs*b)).1.foldl nW (if 0<t then 1 else -1,(qI (t.natAbs*b)).2)
def D9{t:Int}(x:t≠0)(w:0<b)(d:Tame (t.natAbs*b))(i:j_ f)(v:0<s)(e:t*b=f*(s*s)):J4 t b=(f,s):=by
 have n:1<=(t.natAbs:Int)*b:=by
  have:0<(t.natAbs:Int)*b:=X7 .b w;lia
 obtain⟨_,⟨b',m⟩,l,hp⟩:=AN n d;have j:j_ (if 0<t then (1:Int) else -1):=by split;exact oA;exact rT oA
 have o:∀q,aO q=Á->1<q->¬q∣(if 0<t then (1:Int) else -1):=λq h1 h2 a=>by
  split at a
  .have:=Xt .a a;lia
  .have:=Xt .a (Yp.mp a);lia
 obtain⟨r,p,u⟩:=zL (c:=(if 0<t then (1:Int) else -1,(qI (t.natAbs*b)).2)) m j o l
 have k:(J4 t b).1*((J4 t b).2*(J4 t b).2)=f*(s*s):=by
  show((qI (t.natAbs*b)).1.foldl nW _).1*(((qI (t.natAbs*b)).1.foldl nW _).2*((qI (t.natAbs*b)).1.foldl nW _).2)=_;rw[u,<-e];dsimp only;rw[show(if 0<t then (1:Int) else -1)*((qI (t.natAbs*b)).2*(qI (t.natAbs*b)).2)*pp (qI (t.natAbs*b)).1=(if 0<t then (1:Int) else -1)*(pp (qI (t.natAbs*b)).1*((qI (t.natAbs*b)).2*(qI (t.natAbs*b)).2)) by grind,hp];by_cases z:0<t
  .rw[Xc z,show(t.natAbs:Int)=t by lia];lia
  .rw[W_ z,show(t.natAbs:Int)=-t by lia];grind
 obtain⟨g,h⟩:=x3 r i p v k;exact abZ g h
def bH(hp:2<=p)(h:¬p∣a):cls a p=(0,if p=2 then a%8 else bp a p):=by
 unfold cls;rw[n9 hp h];rfl
def yS(hp:aO p=Á)(b:x≠0)(c:cls y p=(0,1)):az x y p=Á:=by
 have a:=aq hp;by_cases h2:p=2
 .subst h2;rw[aU,c];exact Gs _ (cS b) (0,1) .a
 .rw[bg .b h2,c];exact KA _ (cG a h2 b) (0,1) .a _ (tU a)
def Hi(hp:aO p=Á)(h:¬p∣a):bp (a*a) p=1:=by
 rw[cT hp];rcases bu h with z|z<;>rw[z]<;>rfl
def Nb:∀c∈CO,∀a∈[(1:Int),-1],∀b∈[(1:Int),-1],lJ (bq (0,a) c 3) (bq (0,b) c 3) (a*b)=Á:=.a
def NA:∀a∈[(1:Int),3,5,7],∀b∈[(1:Int),3,5,7],fB (bq (1,a) (0,(b+2*a)%8) 2) (bq (0,b) (0,(b+2*a)%8) 2)=Á:=.a
def MO:∀a∈[(1:Int),3,5,7],∀b∈[(1:Int),3,5,7],fB (bq (0,a) (0,(b+4)%8) 2) (bq (0,b) (0,(b+4)%8) 2)=Á:=.a
def LO:∀c∈C2,∀b∈[(1:Int),3,5,7],fB (bq c (0,b) 2) (bq (0,b) (0,b) 2)=Á:=.a
def Nu:∀c∈[(1:Int),3,5,7],∀a∈[(1:Int),3,5,7],fB (bq (0,a) (1,c) 2) (bq (0,(2*c-a)%8) (1,c) 2)=Á:=.a
def Nv:∀c∈[(1:Int),3,5,7],∀a∈[(1:Int),3,5,7],fB (bq (0,a) (0,c) 2) (bq (0,(4-a)%8) (0,c) 2)=Á:=.a
def Mq:∀c∈C2,∀a∈[(1:Int),3,5,7],fB (bq (0,a) c 2) (bq (0,(0-a)%8) c 2)=Á:=.a
def uo(h:u%2=1):u%8∈[(1:Int),3,5,7]:=by
 have:u%8=1\/u%8=3\/u%8=5\/u%8=7:=by lia
 rcases this with z|z|z|z<;>rw[z]<;>decide
def x_{X:Int}(c:X≠0)(h:X%2=0):(∃x,x%2=1/\X=2*x/\cls X 2=(1,x%8))\/(∃x,x%2=1/\X=4*x/\cls X 2=(0,x%8))\/X%8=0:=by
 obtain⟨h1,h2,g⟩:=e9 (d:=2) .a c;have a:(aV X 2).2%2=1:=by lia
 have b:cls X 2=((aV X 2).1%2,(aV X 2).2%8):=rfl;generalize (aV X 2).2=x at *;generalize (aV X 2).1=v at *
 have f:v.toNat=0\/v.toNat=1\/v.toNat=2\/∃m,v.toNat=m+3:=by
  rcases acJ v.toNat 3 with z|z
  .lia
  .exact .inr (.inr (.inr #[v.toNat-3,.b]))
 rcases f with e|e|e|⟨m,e⟩
 .rw[e] at h2;lia
 .rw[e] at h2;exact .inl #[x,a,.b,by rw[b,show v=1 by lia];rfl]
 .rw[e] at h2;exact .inr (.inl #[x,a,.b,by rw[b,show v=2 by lia];rfl])
 .rw[e,Yz] at h2;right;right;have:(2:Int)^3=8:=by decide
  rw[this,<-XT] at h2;rw[h2];exact Int.mul_emod_left ..
def JB(c:A≠0)(e:B≠0)(a:A+B≠0)(h:¬(A%2=0/\B%2=0)):az (A*(A+B)) (B*(A+B)) 2=Á:=by
 have key:∀A B:Int,A≠0->A%2=0->B%2=1->A+B≠0->az (A*(A+B)) (B*(A+B)) 2=Á:=λA B c ha d a=>by
  have e:B≠0:=by lia
  have cB:cls B 2=(0,B%8):=by rw[bH .a .b];rfl
  have g:cls (A+B) 2=(0,(A+B)%8):=by rw[bH .a .b];rfl
  rw[aU,aM aP c a,aM aP e a,cB,g];rcases x_ c ha with⟨x,h1,h2,b⟩|⟨x,h1,h2,b⟩|h1
  .rw[b,show(A+B)%8=(B%8+2*(x%8))%8 by lia];exact NA _ (uo h1) _ (uo d)
  .rw[b,show(A+B)%8=(B%8+4)%8 by lia];exact MO _ (uo h1) _ (uo d)
  .rw[show(A+B)%8=B%8 by lia];exact LO _ (cS c) _ (uo d)
 rcases Y4 A with ha|ha
 .exact key A B c ha .b a
 .rcases Y4 B with d|d
  .have:=key B A e d ha .b;rw[acK] at this;rw[bA (.inr aP) (Xb e a) (Xb c a)];exact this
  .have f:cls A 2=(0,A%8):=by rw[bH .a .b];rfl
   have cB:cls B 2=(0,B%8):=by rw[bH .a .b];rfl
   rw[aU,aM aP c a,aM aP e a,f,cB];rcases x_ a .b with⟨x,h1,h2,b⟩|⟨x,h1,h2,b⟩|h1
   .rw[b,show B%8=(2*(x%8)-A%8)%8 by lia];exact Nu _ (uo h1) _ (uo ha)
   .rw[b,show B%8=(4-A%8)%8 by lia];exact Nv _ (uo h1) _ (uo ha)
   .rw[show B%8=(0-A%8)%8 by lia];exact Mq _ (cS a) _ (uo ha)
def JN(hp:aO p=Á)(h2:p≠2)(f:A≠0)(g:B≠0)(c:A+B≠0)(h:¬(p∣A/\p∣B)):az (A*(A+B)) (B*(A+B)) p=Á:=by
 have b:=aq hp
 have key:∀A B:Int,A≠0->B≠0->A+B≠0->p∣A->¬p∣B->az (A*(A+B)) (B*(A+B)) p=Á:=λA B f g c ha d=>by
  have a:¬p∣A+B:=λz=>d (by have:=Zh z ha;rwa [show A+B-A=B by lia] at this);refine yS hp (Xb f c) ?_;rw[bH b (λz=>by rcases euclid hp z with w|w;exact d w;exact a w),W_ h2];rw[nR (l:=B*B) (wy.mpr (by rw[show B*(A+B)-B*B=A*B by grind];exact XU ha #[B,rfl])),Hi hp d]
 by_cases ha:p∣A
 .exact key A B f g c ha λz=>h #[ha,z]
 .by_cases d:p∣B
  .have:=key B A g f .b d ha;rw[acK] at this;rw[bA (.inr hp) (Xb g c) (Xb f c)];exact this
  .by_cases a:p∣A+B
   .have e:bp A p*bp B p=bp (-1) p:=by
     rw[<-cT hp,nR (l:=-1*(A*A)) (wy.mpr (by rw[show A*B - -1*(A*A)=A*(A+B) by grind];exact XU a #[A,XY ..])),cT hp,Hi hp ha,XC]
    rw[bg .b h2,aM hp f c,aM hp g c,bH b ha,bH b d,W_ h2,W_ h2,bU h2,bU h2,<-e];refine Nb _ (cG b h2 c) _ ?_ _ ?_
    .rcases bu ha with z|z<;>rw[z]<;>decide
    .rcases bu d with z|z<;>rw[z]<;>decide
   .exact lD hp h2 (λz=>by rcases euclid hp z with w|w;exact ha w;exact a w) (λz=>by rcases euclid hp z with w|w;exact d w;exact a w)
def iX(h:Pl p)(ha:a≠0)(c:b≠0)(d:r≠0):az a (b*r*r) p=az a b p:=by
 rw[bA h (Xb (Xb c d) d) ha,n8 h c d,bA h ha c]
theorem u3{p:Int}(hp:aO p=Á):∀(n:Nat) (A B:Int),A.natAbs<=n->A≠0->B≠0->A+B≠0->az (A*(A+B)) (B*(A+B)) p=Á
 |0,A,B,j,g,e,f=>by lia
 |n+1,A,B,j,g,e,f=>by
  have k:=aq hp;by_cases h:p∣A/\p∣B
  .obtain⟨⟨a,ha⟩,⟨b,m⟩⟩:=h;subst ha m;have h1:a≠0:=λz=>g (by rw[z,XZ]);have h2:b≠0:=λz=>e (by rw[z,XZ]);have d:a+b≠0:=λz=>f (by rw[<-Zg,z,XZ])
   have i:a.natAbs<=n:=by
    have:(p*a).natAbs=p.natAbs*a.natAbs:=XN ..;have o:2*a.natAbs<=p.natAbs*a.natAbs:=ZY _ .b;lia
   have l:=u3 hp n a b i h1 h2 d;have c:p≠0:=by lia
   rw[show p*a*(p*a+p*b)=a*(a+b)*p*p by grind,show p*b*(p*a+p*b)=b*(a+b)*p*p by grind,
    n8 (.inr hp) (Xb h1 d) c,iX (.inr hp) (Xb h1 d) (Xb h2 d) c]
   exact l
  .by_cases h2:p=2
   .subst h2;exact JB g e f λz=>h #[Xu z.1,Xu z.2]
   .exact JN hp h2 g e f h
def HD(hp:Pl p)(c:A≠0)(b:B≠0)(a:A+B≠0):az (A*(A+B)) (B*(A+B)) p=Á:=by
 rcases hp with rfl|hp
 .rw[aN]
  have:0<(A+B)*(A+B):=by
   rcases Yf a with z|z
   .exact YK z z
   .exact X7 z z
  rw[Int.add_mul] at this;by_cases z:0<A*(A+B)
  .simp[z]
  .have:0<B*(A+B):=by omega
   simp[this]
 .exact u3 hp _ A B (Xm _) c b a
def FI{w:Int}(hp:Pl p)(ha:a≠0)(g:b≠0)(c:w≠0)(e:a*x*x+b*y*y=w):az (a*w) (b*w) p=Á:=by
 by_cases f:x=0
 .subst f;have h:w=b*y*y:=by rw[<-e];grind
  have d:y≠0:=by rintro rfl;exact c (by rw[h];grind)
  rw[show b*w=(b*y)*(b*y) by rw[h];grind];exact t8 hp (Xb ha c) (Xb g d)
 .by_cases d:y=0
  .subst d;have h:w=a*x*x:=by rw[<-e];grind
   rw[bA hp (Xb g c) (Xb ha c),show a*w=(a*x)*(a*x) by rw[h];grind];exact t8 hp (Xb g c) (Xb ha f)
  .have:=HD (A:=a*x*x) (B:=b*y*y) hp (Xb (Xb ha f) f) (Xb (Xb g d) d) (by rwa[e]);rwa[e,show a*x*x*w=a*w*x*x by grind,show b*y*y*w=b*w*y*y by grind,n8 hp (Xb ha c) f,iX hp (Xb ha c) (Xb g c) d] at this
def u7(h:Pl p)(ha:a≠0)(e:b≠0)(d:c≠0):az (a*b) c p=(az a c p==az b c p):=by
 rw[bA h d (Xb ha e),dw h d ha e,bA h ha d,bA h e d]
def oY(h:Pl p)(ha:a≠0):az a a p=az a (-1) p:=by
 have h1:=tK h ha;rw[show(0:Int)-a=-1*a by lia,dw h ha .a ha] at h1;have:=eq_of_beq h1;exact this.symm
def ue(a b c p:Int):Bool:=az (-a*c) (-b*c) p
def zW(k p:Int):Prop:=cls k p=(0,1)
def NL(hp:aO p=Á)(b:r≠0):zW (r*r) p:=by
 have h1:cls 1 p=(0,1):=by
  rw[bH (aq hp) (λz=>by have:=Xt .a z;have:=aq hp;lia)];by_cases z:p=2
  .rw[Xc z];rfl
  .rw[W_ z,fT hp z (by exact#[0,.b])]
 have:=kO (a:=1) hp .a b;rw[Yb] at this;unfold zW;rw[this,h1]
def IS(hp:aO p=Á)(b:k≠0)(a:r≠0):zW (k*r*r) p↔zW k p:=by
 unfold zW;rw[kO hp b a]
noncomputable instance{k p:Int}:Decidable (zW k p):=inferInstanceAs (Decidable (cls k p=(0,1)))
def jH{P:Int->Prop}{l:List Int}:(∃x,x∈a::l/\P x)↔P a\/∃x,x∈l/\P x:=by
 constructor
 .rintro⟨x,h,q⟩;rcases Xa.mp h with z|z
  .subst z;exact .inl q
  .exact .inr #[x,z,q]
 .rintro(q|⟨x,h,q⟩)
  .exact#[a,Xo ..,q]
  .exact#[x,Xj _ h,q]
def Es:List Int->Int
 |[]=>0
 |[a]=>a
 |a::l=>if Es l<a then Es l else a
noncomputable def EE:List Int->Int
 |[]=>0
 |[a]=>a
 |a::l=>if a<EE l then EE l else a
theorem Cy:∀l:List Int,Es l<0↔∃x∈l,x<0
 |[]=>by simp[Es]
 |[a]=>by simp[Es]
 |a::b::l=>by
  have c:=Cy (b::l);unfold Es;rw[jH,<-c];split<;>omega
theorem CJ:∀l:List Int,0<EE l↔∃x∈l,0<x
 |[]=>by simp[EE]
 |[a]=>by simp[EE]
 |a::b::l=>by
  have c:=CJ (b::l);unfold EE;rw[jH,<-c];split<;>omega
def bN(l:List Int)(p:Int):Bool:=if p=0 then decide (Es l<0)&&decide (0<EE l) else match l with
 |[]=>Á
 |[_]=>Â
 |[a,b]=>decide (zW (-a*b) p)
 |[a,b,c]=>ue a b c p
 |[a,b,c,d]=>!(decide (zW (a*b*c*d) p)) || ue a b c p
 |_=>Á
def kK{l:List Int}(b:p≠0)(a:5<=l.length):bN l p=Á:=by
 unfold bN;rw[W_ b]
 match l,a with
 |_::_::_::_::_::_,_=>rfl
def rG(b:p≠0):bN [a] p=Â:=by unfold bN;rw[W_ b]
def ll(c:p≠0):bN [a,b] p=decide (zW (-a*b) p):=by unfold bN;rw[W_ c]
def dc(d:p≠0):bN [a,b,c] p=ue a b c p:=by unfold bN;rw[W_ d]
def gX(e:p≠0):bN [a,b,c,d] p=(!(decide (zW (a*b*c*d) p)) || ue a b c p):=by unfold bN;rw[W_ e]
def a7{l:List Int}:bN l 0=Á↔(∃x∈l,x<0)/\∃x∈l,0<x:=by
 unfold bN;rw[Xc rfl,XW,Yq,Yq,Cy,CJ]
noncomputable def d8:List Int->List Int->Int
 |a::l,x::xs=>a*x*x+d8 l xs
 |_,_=>0
def ev:List Int->Int->Int
 |[],_=>0
 |c::cs,x=>c+x*ev cs x
noncomputable def qo(r:Int):List Int->List Int
 |[]=>[]
 |[_]=>[]
 |_::d::cs=>ev (d::cs) r::qo r (d::cs)
theorem Eh(r:Int):∀(c:Int) (cs:List Int),(qo r (c::cs)).length=cs.length
 |_,[]=>rfl
 |_,d::cs=>by simp only[qo,Yd];rw[Eh r d cs]
theorem CK(r:Int):∀(c d:Int) (cs:List Int),(qo r (c::d::cs)).getLast?=(c::d::cs).getLast?
 |c,d,[]=>by simp[qo,ev]
 |c,d,e::cs=>by
  have a:=CK r d e cs;have h1:qo r (c::d::e::cs)=ev (d::e::cs) r::qo r (d::e::cs):=rfl;rw[h1,acd,<-a];have h2:qo r (d::e::cs)=ev (e::cs) r::qo r (e::cs):=rfl;rw[h2,acd]
theorem Lp(r x:Int):∀cs:List Int,ev cs x-ev cs r=(x-r)*ev (qo r cs) x
 |[]=>by simp[ev,qo]
 |[c]=>by simp[ev,qo]
 |c::d::cs=>by
  have a:=Lp r x (d::cs);have h1:qo r (c::d::cs)=ev (d::cs) r::qo r (d::cs):=rfl;rw[h1];have e1:ev (c::d::cs) x=c+x*ev (d::cs) x:=rfl;have e2:ev (c::d::cs) r=c+r*ev (d::cs) r:=rfl;have e3:ev (ev (d::cs) r::qo r (d::cs)) x=ev (d::cs) r+x*ev (qo r (d::cs)) x:=rfl;rw[e1,e2,e3];generalize ev (d::cs) x=u at *;generalize ev (d::cs) r=v at *;generalize ev (qo r (d::cs)) x=t at *;grind
theorem PM{p:Int}(hp:aO p=Á):∀(f cs:List Int),cs.length<=f.length->f.Pairwise (λa b=>¬p∣a-b)->(∀r∈f,p∣ev cs r)->∀c,cs.getLast?=À c->p∣c
 |_,[],_,_,_,c,q=>by simp at q
 |[],_::_,h,_,_,_,_=>by simp at h
 |r::f,[c],_,_,g,d,j=>by
  have:=g r (Xo ..);simp[ev] at this;simp at j;rw[<-j];exact this
 |r::f,c::d::cs,m,i,g,e,he=>by
  obtain⟨h1,h2⟩:=YV.mp i;refine PM hp f (qo r (c::d::cs)) (by rw[Eh];simpa using m) h2 (λs l=>?_) e (by rwa[CK]);have o:=g s (Xj _ l);have n:=g r (Xo ..);have k:=Zh o n;rw[Lp] at k;rcases euclid hp k with z|z
  .exact absurd (by rw[show r-s=-(s-r) by lia];exact Yp.mpr z) (h1 s l)
  .exact z
noncomputable def xn(n:Nat):List Int:=-1::(È n 0++[1])
theorem FU(x:Int):∀n:Nat,ev (È n 0++[1]) x=x^n
 |0=>by simp[ev]
 |n+1=>by
  rw[YD,aaB];show 0+x*ev (È n 0++[1]) x=_;rw[FU x n,XE,XY];lia
def Kw(hp:aO p=Á)(h2:p≠2):∃g,2<=g/\g<p/\bp g p=-1:=by
 have v:=gh hp h2;have h:=aq hp;apply Xf;intro j
 have c:∀g:Int,1<=g->g<p->p∣g^((p-1)/2).toNat-1:=λg u l=>by
  have e:¬p∣g:=λz=>by have:=Xt .b z;lia
  refine(eW hp h2 e).mp ?_;rcases bu e with z|z
  .exact z
  .refine absurd #[g,?_,l,z] j;rcases YS g 2 with w|w
   .have:g=1:=by lia
    subst this;rw[fT hp h2 #[0,.b]] at z;cases z
   .exact w
 obtain⟨m,q⟩:∃m:Nat,((p-1)/2).toNat=m+1:=#[((p-1)/2).toNat-1,.b]
 have h1:=PM hp ((Ò (p-1).toNat).map λi:Nat=>(i:Int)+1) (xn m) (by simp[xn];lia) (by
   rw[Zx];refine Zt ?_ (aaa (n:=(p-1).toNat));intro a b ha t d z;have s:=Yh.mp ha;have o:=Yh.mp t;have:=b_ z .b .b
   exact d .b) (λr k=>by
   obtain⟨i,hi,rfl⟩:=Xs.mp k;have f:=Yh.mp hi;have:=c ((i:Int)+1) .b .b;rw[q] at this;show p∣-1+((i:Int)+1)*ev (È m 0++[1]) _;rw[FU,XY,<-XE];rw[show -1+((i:Int)+1)^(m+1)=((i:Int)+1)^(m+1)-1 by lia]
   exact this) 1 (by show((-1::È m 0)++[1]).getLast?=À 1;exact List.getLast?_concat)
 have:=Xt .a h1;lia
noncomputable def P8:List Int:=[2,3,5,7,11,13,17,19]
def tY:∀r∈P8,aO r=Á:=by
 intro r a;simp only[P8,Xa,Xe,XA] at a;rcases a with rfl|rfl|rfl|rfl|rfl|rfl|rfl|rfl
 .exact aP
 .exact ic (m:=0) (n:=3) .a .a .a .a
 .exact ic (m:=0) (n:=5) .a .a .a .a
 .exact ic (m:=0) (n:=7) .a .a .a .a
 .exact ic (m:=1) (n:=11) .a .a .a .a
 .exact ic (m:=1) (n:=13) .a .a .a .a
 .exact ic (m:=1) (n:=17) .a .a .a .a
 .exact ic (m:=1) (n:=19) .a .a .a .a
def uF(u:Int×Int):Int×(Int×Int):=((J4 u.1 u.2).1,fr (J4 u.1 u.2).2 u.2)
theorem Ar:∀(a b:List (Int×Int)),pp (a++b)=pp a*pp b
 |[],b=>by simp[pp]
 |u::a,b=>by rw[aaB,pp,pp,Ar a b,XT]
theorem pg:∀{us:List (Int×Int)} {a b:Int},gB a us b->∀i,∃b',gB a (us.take i) b'
 |us,a,b,h,0=>#[a+1,by rw[abp];show a<a+1;lia]
 |[],a,b,h,i+1=>#[b,h]
 |u::us,a,b,h,i+1=>by
  obtain⟨b',h'⟩:=pg h.2.2.2 i;exact#[b',h.1,h.2.1,h.2.2.1,h']
theorem pR:∀{us:List (Int×Int)} {a b:Int},gB a us b->∀i,∃a',gB a' (us.drop i) b/\a<=a'
 |us,a,b,h,0=>#[a,h,Yi _]
 |[],a,b,h,i+1=>#[a,h,Yi _]
 |u::us,a,b,h,i+1=>by
  obtain⟨a',h',c⟩:=pR h.2.2.2 i;exact#[a',h',by have:=h.1;lia]
def jL(ha:0<a)(c:1<=b):a<=a*b:=by
 have:a*1<=a*b:=Xp c .b;lia
def IU{us:List (Int×Int)}{sg R:Int}(l:gB 1 us b)(h:0<R)(g:sg=1\/sg=-1)(i:Nat):
  ((us.take i).foldl nW (sg,R)).1.natAbs<=(pp us*(R*R)).natAbs/\0<((us.take i).foldl nW (sg,R)).2/\((us.take i).foldl nW (sg,R)).2<=pp us*(R*R):=by
 obtain⟨b',h'⟩:=pg l i;obtain⟨j,f,t⟩:=pR l i;have r:j_ sg:=by rcases g with z|z<;>rw[z];exact oA;exact rT oA
 have o:∀q,aO q=Á->1<q->¬q∣sg:=λq h1 h2 a=>by
  rcases g with z|z
  .rw[z] at a;have:=Xt .a a;lia
  .rw[z] at a;have:=Xt .a (Yp.mp a);lia
 obtain⟨s,d,n⟩:=zL (c:=(sg,R)) h' r o h;have e:pp us=pp (us.take i)*pp (us.drop i):=by rw[<-Ar,aa8]
 have m:=jM .a h';have p2:=jM (show 0<=j by lia) f;have RR:=X7 h h;dsimp only at n;generalize (us.take i).foldl nW (sg,R)=c at *
 have v:(c.1.natAbs:Int)*(c.2*c.2)=pp (us.take i)*(R*R):=by
  have h1:0<c.2*c.2:=X7 d d;have h2:0<pp (us.take i)*(R*R):=X7 m RR;generalize c.2*c.2=X at *;generalize R*R=σ at *;generalize pp (us.take i)=Z at *;have a:=congrArg Int.natAbs n;rw[XN,XN,XN,show sg.natAbs=1 by rcases g with z|z<;>rw[z]<;>rfl,Nat.one_mul] at a;have k:((c.1.natAbs*X.natAbs:Nat):Int)=((σ.natAbs*Z.natAbs:Nat):Int):=by rw[a]
  rw[YA,YA,show(X.natAbs:Int)=X by lia,show(σ.natAbs:Int)=σ by lia,show(Z.natAbs:Int)=Z by lia] at k;rw[k,XY]
 have u:pp (us.take i)*(R*R)<=pp us*(R*R):=by
  rw[e];exact Yg (jL m .b) .b
 have p:0<(c.1.natAbs:Int):=by have:=s.1;lia
 have c2:0<c.2*c.2:=X7 d d;have m1:=jL p (show 1<=c.2*c.2 by lia);have m2:c.2*c.2<=(c.1.natAbs:Int)*(c.2*c.2):=by rw[XY (c.1.natAbs:Int)];exact jL c2 .b
 have m3:=jL d (show 1<=c.2 by lia);exact#[.b,d,.b]
def Iv{us:List (Int×Int)}(f:gB 1 us b){u:Int×Int}(a:us[i]?=À u):2<=u.1/\1<=u.2/\u.1^(u.2/2).toNat<=pp us/\u.1<=pp us/\(u.2:Int)<pp us:=by
 have j:=i7 f u (Xg a);have h2:=aq j.1;have hi:i<us.length:=(Xl.mp a).1
 have e:us.drop i=u::us.drop (i+1):=by
  rw[abR hi];rw[Xn hi] at a;rw[Xy a]
 obtain⟨b',h'⟩:=pg f i;obtain⟨h,c,p⟩:=pR f (i+1)
 have e2:pp us=pp (us.take i)*(u.1^u.2.toNat*pp (us.drop (i+1))):=by
  have:pp us=pp (us.take i++us.drop i):=by rw[aa8]
  rw[this,Ar,e,pp]
 have r:=jM .a h';have p2:=jM (show 0<=h by lia) c;have k:0<u.1^u.2.toNat:=Yj .b
 have l:u.1^u.2.toNat<=pp us:=by
  rw[e2];have:=jL k (show 1<=pp (us.drop (i+1)) by lia);have q:=X7 k p2;have w:u.1^u.2.toNat*pp (us.drop (i+1))<=pp (us.take i)*(u.1^u.2.toNat*pp (us.drop (i+1))):=by rw[XY (pp (us.take i))];exact jL q .b
  lia
 have mono:∀m n:Nat,m<=n->u.1^m<=u.1^n:=λm n o=>by
  obtain⟨d,rfl⟩:∃d,n=m+d:=#[n-m,.b];rw[Yz];exact jL (Yj .b) (by have:=Yj (n:=u.1) (m:=d) .b;lia)
 refine#[h2,j.2,ab2 (mono _ _ .b) l,?_,?_]
 .have:=mono 1 u.2.toNat .b;rw[XE,X1,Yb] at this;lia
 .have:((u.2.toNat:Nat):Int)<u.1^u.2.toNat:=by
   have g:∀n:Nat,(n:Int)<u.1^n:=λn=>by
    induction n with
    |zero=>rw[X1];decide
    |succ n s =>
     rw[XE];have:u.1^n*2<=u.1^n*u.1:=Xp h2 (Zs (Yj .b));lia
   exact g _
  lia
def FQ{M:Type}{l:List M}{a:M}(h:l[i]?=À a):l.drop i=a::l.drop (i+1):=by
 have hi:i<l.length:=(Xl.mp h).1;rw[abR hi];rw[Xn hi] at h;rw[Xy h]
theorem Ad:∀l:List Int,0<l.length->Es l∈l/\∀a∈l,Es l<=a
 |[a],_=>by simp[Es]
 |a::b::l,_=>by
  obtain⟨h1,h2⟩:=Ad (b::l) .c;unfold Es;split
  .refine#[Xj _ h1,λc d=>?_];rcases Xa.mp d with z|z
   .lia
   .exact h2 c z
  .refine#[Xo ..,λc d=>?_];rcases Xa.mp d with z|z
   .lia
   .have:=h2 c z;lia
theorem A2:∀l:List Int,0<l.length->EE l∈l/\∀a∈l,a<=EE l
 |[a],_=>by simp[EE]
 |a::b::l,_=>by
  obtain⟨h1,h2⟩:=A2 (b::l) .c;unfold EE;split
  .refine#[Xj _ h1,λc d=>?_];rcases Xa.mp d with z|z
   .lia
   .exact h2 c z
  .refine#[Xo ..,λc d=>?_];rcases Xa.mp d with z|z
   .lia
   .have:=h2 c z;lia
def Ge(hp:aO p=Á)(h2:p≠2)(c:¬p∣b):cls (p*b) p=(1,bp b p):=by
 have a:=aq hp;unfold cls;rw[show p*b=b*p^1 by rw[acu];exact XY ..,jB a c,W_ h2];rfl
def cQ(hp:aO p=Á)(h2:p≠2)(ha:¬p∣a):cls a p=(0,bp a p):=by
 rw[bH (aq hp) ha,W_ h2]
def nP(hp:aO p=Á)(h2:p≠2)(ha:¬p∣a)(d:¬p∣b):az a (p*b) p=decide (bp a p=1):=by
 have c:=aq hp;rw[bg .b h2,Ge hp h2 d,cQ hp h2 ha];unfold lJ;simp
def eC(hp:aO p=Á):¬p∣-1:=λh=>by
 have:=aq hp;have:=Xt .a (Yp.mp h);lia
def gQ(hp:aO p=Á)(h2:p≠2):p%2=1:=by
 apply Xf;intro a;rcases bP.mp hp with z|z
 .lia
 .lia
def cy(h:a%2=1):cls a 2=(0,a%8):=by
 rw[bH .a .b,Xc rfl]
def Q9(hp:aO p=Á)(h2:p≠2):az p (-1) p=!decide (p%4=3)/\az (-p) (-1) p=!decide (p%4=3):=by
 have b:=aq hp;have m1:=eC hp;have a:¬p∣1:=λh=>m1 (Yp.mpr h)
 have key:decide (bp (-1) p=1)=!decide (p%4=3):=by
  rw[CQ hp h2];by_cases z:p%4=3
  .rw[Xc z];simp[z]
  .rw[W_ z];simp[z]
 constructor
 .rw[<-bA (.inr hp) .b .a];have:=nP hp h2 m1 a;rw[XC] at this;rw[this,key]
 .rw[<-bA (.inr hp) .b .a];have:=nP hp h2 m1 m1;rw[show p*-1=-p by lia] at this;rw[this,key]
def QU(b:p%2=1):az p (-1) 2=!decide (p%4=3):=by
 rw[aU,cy b,cy (a:=-1) .a];have e:p%8%4=p%4:=by lia
 unfold fB;simp only[e];by_cases z:p%4=3
 .simp[z,b1]
 .simp[z,b1]
def QR(h:0<p):az p (-1) 0=Á/\az (-p) (-1) 0=Â:=by
 rw[aN,aN];constructor
 .simp[h]
 .simp;lia
def oF(L:List Int)(f:Int->Bool):Bool:=decide ((L.filter λp=>!f p).length%2=0)
def dY(p:Int)(L:List Int)(f:Int->Bool):oF (p::L) f=(f p==oF L f):=by
 unfold oF;rw[aa5];cases f p
 .simp only[Bool.not_false,aat,Yd];by_cases h:(L.filter λp=>!f p).length%2=0
  .have:¬((L.filter λp=>!f p).length+1)%2=0:=by lia
   simp[h,this]
  .have:((L.filter λp=>!f p).length+1)%2=0:=by lia
   simp[h,this]
 .simp
def wU(f:Int->Bool):oF [] f=Á:=rfl
theorem Cr(f g:Int->Bool):∀L:List Int,oF L (λp=>f p==g p)=(oF L f==oF L g)
 |[]=>rfl
 |p::L=>by
  rw[dY,dY,dY,Cr f g L];generalize f p=a;generalize g p=b;generalize oF L f=c;generalize oF L g=d;revert a b c d;decide
def t_{f g:Int->Bool}(h:∀p∈L,f p=g p):oF L f=oF L g:=by
 unfold oF;rw[List.filter_congr λp hp=>by rw[h p hp]]
def rN{f:Int->Bool}{S:List Int}(d:L.Nodup)(c:S.Nodup)(b:∀p∈S,p∈L)(h:∀p∈L,p∉S->f p=Á):oF L f=oF S f:=by
 unfold oF
 have:(L.filter λp=>!f p).Perm (S.filter λp=>!f p):=by
  refine(List.perm_ext_iff_of_nodup (d.filter _) (c.filter _)).mpr λa=>?_;rw[Ye,Ye];constructor
  .rintro⟨h1,h2⟩;refine#[Xf λe=>?_,h2];rw[h a h1 e] at h2;cases h2
  .rintro⟨h1,h2⟩;exact#[b a h1,h2]
 rw[this.length_eq]
def wO{f:Int->Bool}(h:∀p∈L,f p=Á):oF L f=Á:=by
 unfold oF;rw[acv.mpr λp hp=>by rw[h p hp];decide];rfl
structure oH(L:List Int):Prop where
 nd:L.Nodup
 pr:∀p∈L,aO p=Á
 two:(2:Int)∈L
def lK(L:List Int)(x:Int):Prop:=x≠0/\∀q,aO q=Á->q∣x->q∈L
def Gh(h:oH L):(0:Int)∉L:=λz=>by have:=aq (h.pr 0 z);lia
def oH.all(h:oH L):((0:Int)::L).Nodup:=Ym.mpr #[Gh h,h.nd]
def oH.pl(h:oH L):∀p∈(0:Int)::L,Pl p:=λp hp=>by
 rcases Xa.mp hp with z|z
 .exact .inl z
 .exact .inr (h.pr p z)
def qJ(L:List Int)(x y:Int):Bool:=oF (0::L) (az x y)
def lq(h:oH L)(a:x≠0)(b:y≠0):qJ L y x=qJ L x y:=t_ λp hp=>bA (h.pl p hp) a b
def BE(h:oH L){z:Int}(a:x≠0)(b:y≠0)(hz:z≠0):qJ L x (y*z)=(qJ L x y==qJ L x z):=by
 unfold qJ;rw[<-Cr];exact t_ λp hp=>dw (h.pl p hp) a b hz
def bC(hp:aO p=Á)(c:aO q=Á)(h:p∣q):p=q:=by
 have h1:=aq hp;have h2:=aq c;apply Xf;intro f;have g:=lA (p:=p) (d:=q) hp;by_cases z:q∣p
 .have a:=Xt .b h;have b:=Xt .b z;lia
 .have e:=lA (p:=q) (d:=p) c z;have:=acj (Zf p) h;rw[e] at this;have:=Xt .a this;lia
def rQ(hp:aO p=Á)(h2:p≠2)(a:∀q,aO q=Á->q∣x->q≠p)(b:∀q,aO q=Á->q∣y->q≠p):az x y p=Á :=
 lD hp h2 (λz=>a p hp z rfl) λz=>b p hp z rfl
def gM(b:aO q=Á):∀r,aO r=Á->r∣q->r=q:=λr a h=>bC a b h
def Lo:∀r,aO r=Á->¬r∣(-1:Int):=λr a=>eC a
def Nj{f:Int->Bool}(a b:Int):oF [a,b] f=(f a==f b):=by
 rw[dY,dY,wU];cases f a<;>cases f b<;>rfl
def QX{f:Int->Bool}(a b c:Int):oF [a,b,c] f=(f a==(f b==f c)):=by
 rw[dY,dY,dY,wU];cases f a<;>cases f b<;>cases f c<;>rfl
def RE(h:oH L):qJ L (-1) (-1)=Á:=by
 unfold qJ;rw[rN (S:=[0,2]) h.all .a (λp hp=>?_) (λp hp b=>?_),Nj,aN,aU,cy (a:=-1) .a]
 .rfl
 .simp only[Xa,Xe,XA] at hp;rcases hp with rfl|rfl
  .exact Xo
  .exact Xj _ h.two
 .simp only[Xa,Xe,XA,ab4] at b hp;have:=h.pr p (hp.resolve_left b.1);exact lD this b.2 (eC this) (eC this)
def E3:cls 2 2=(1,1):=by
 unfold cls;rw[show aV 2 2=(1,1) from k8 .a #[.a,.a,.b]];rfl
def L5(h:oH L):qJ L (-1) 2=Á:=by
 refine wO λp hp=>?_;rcases Xa.mp hp with rfl|z
 .rw[aN];rfl
 have b:=h.pr p z;by_cases h2:p=2
 .subst h2;rw[aU,E3,cy (a:=-1) .a];rfl
 .exact rQ b h2 (λq d c=>absurd c (Lo q d)) λq d c e=>h2 (by rw[<-e];exact gM aP q d c)
def Ot(h:oH L)(a:q∈L):∀p∈[2,q],p∈(0:Int)::L:=λp hp=>by
 simp only[Xa,Xe,XA] at hp;rcases hp with rfl|rfl
 .exact Xj _ h.two
 .exact Xj _ a
def LI(h:oH L)(f:q∈L)(h2:q≠2):qJ L (-1) q=Á:=by
 have hp:=h.pr q f;have g:=aq hp;rw[<-lq h .a .b];unfold qJ;rw[rN (S:=[2,q]) h.all (by simp;lia) (Ot h f) (λp a b=>?_),Nj,QU (gQ hp h2),(Q9 hp h2).1]
 .simp
 .simp only[Xa,Xe,XA,ab4] at b a;rcases a with rfl|z
  .exact(QR .b).1
  .exact rQ (h.pr p z) b.1 (λr c d e=>b.2 (by rw[<-e];exact gM hp r c d)) λr c d=>absurd d (Lo r c)
def GL(h:oH L)(a:x≠0):qJ L x x=qJ L (-1) x:=by
 rw[lq (x:=x) (y:=-1) h a .a];exact t_ λp hp=>oY (h.pl p hp) a
def OU(h:oH L)(f:q∈L)(h2:q≠2):qJ L 2 q=Á:=by
 have hp:=h.pr q f;have l:=aq hp;have j:=gQ hp h2;have i:¬q∣2:=λz=>h2 (gM aP q hp z);have k:¬q∣1:=λz=>eC hp (Yp.mpr z);unfold qJ;rw[rN (S:=[2,q]) h.all (by simp;lia) (Ot h f) (λp a b=>?_),Nj,aU,E3,cy j]
 .have e:=nP hp h2 i k;rw[XC] at e;rw[e,JO hp h2];have g:q%8=1\/q%8=3\/q%8=5\/q%8=7:=by lia
  rcases g with z|z|z|z<;>rw[z]<;>rfl
 .simp only[Xa,Xe,XA,ab4] at b a;rcases a with rfl|z
  .rw[aN];rfl
  .exact rQ (h.pr p z) b.1 (λr c d e=>b.1 (by rw[<-e];exact gM aP r c d)) (λr c d e=>b.2 (by rw[<-e];exact gM hp r c d))
def R3(h:oH L)(n:q∈L)(h2:q≠2)(m:r∈L)(d:r≠2)(c:q≠r):qJ L q r=Á:=by
 have hp:=h.pr q n;have a:=h.pr r m;have D:=aq hp;have w:=aq a;have C:=gQ hp h2;have k:=gQ a d;have l:¬q∣r:=λz=>c (gM a q hp z);have j:¬r∣q:=λz=>c (gM hp r a z).symm;have A:¬q∣1:=λz=>eC hp (Yp.mpr z);have o:¬r∣1:=λz=>eC a (Yp.mpr z);unfold qJ;rw[rN (S:=[2,q,r]) h.all (by simp;lia) (λp b=>?_) (λp b f=>?_),QX,aU,cy C,cy k]
 .have e1:az q r q=decide (bp r q=1):=by
   rw[<-bA (.inr hp) .b .b];have e:=nP hp h2 l A
   rwa [XC] at e
  have e2:az q r r=decide (bp q r=1):=by
   have e:=nP a d j o
   rwa [XC] at e
  rw[e1,e2];have ex:=HA hp h2 a d c
  have t:fB (0,q%8) (0,r%8)=!decide (q%4=3/\r%4=3):=by
   unfold fB;have B:q%8%4=q%4:=by lia
   have y:r%8%4=r%4:=by lia
   simp only[B,y];by_cases z:q%4=3<;>by_cases x:r%4=3<;>simp[z,x,b1]
  rw[t];by_cases z:q%4=3/\r%4=3
  .rw[Xc z] at ex;rw[XI z];rcases bu l with u|u<;>rcases bu j with v|v<;>rw[u,v] at ex ⊢<;>simp_all
  .rw[W_ z] at ex;rw[XH z];rcases bu l with u|u<;>rcases bu j with v|v<;>rw[u,v] at ex ⊢<;>simp_all
 .simp only[Xa,Xe,XA] at b;rcases b with rfl|rfl|rfl
  .exact Xj _ h.two
  .exact Xj _ n
  .exact Xj _ m
 .simp only[Xa,Xe,XA,ab4] at f b;rcases b with rfl|z
  .rw[aN];simp;lia
  .exact rQ (h.pr p z) f.1 (λs i g e=>f.2.1 (by rw[<-e];exact gM hp s i g)) (λs i g e=>f.2.2 (by rw[<-e];exact gM a s i g))
theorem tW{L:List Int}{Q:Int->Prop}(h1:Q 1)(g:Q (-1))(f:∀q∈L,aO q=Á->Q q)(hmul:∀x y,x≠0->y≠0->Q x->Q y->Q (x*y)):∀(n:Nat) (x:Int),x.natAbs<=n->lK L x->Q x
 |0,x,i,h=>absurd (show x=0 by lia) h.1
 |n+1,x,i,h=>by
  have j:=h.1;by_cases z:x=1
  .rwa[z]
  by_cases o:x=-1
  .rwa[o]
  obtain⟨q,q1,c,p⟩:=pH (k:=x.natAbs) .b;have s:=aq q1;have a:q∣x:=Y1.mp #[c,p];obtain⟨d,rfl⟩:=a;have b:d≠0:=by rintro rfl;exact j (XZ _)
  have m:d.natAbs<=n:=by
   have e:(q*d).natAbs=q.natAbs*d.natAbs:=XN ..;have:2*d.natAbs<=q.natAbs*d.natAbs:=ZY _ .b;lia
  refine hmul q d .b b (f q (h.2 q q1 #[d,rfl]) q1) (tW h1 g f hmul n d m #[b,λr l a=>h.2 r l ?_]);obtain⟨e,rfl⟩:=a;exact#[q*e,by grind]
def BR(h:oH L)(b:x≠0):qJ L x 1=Á:=wO λp hp=>by
 have:=t8 (a:=x) (r:=1) (h.pl p hp) b .a
 rwa [XC] at this
def Gb(h:oH L)(k:lK L x)(c:lK L y):qJ L x y=Á:=by
 have base:∀g,(g=-1\/g∈L)->∀y,lK L y->g≠0/\qJ L g y=Á:=λg d y c=>by
  have i:g≠0:=by
   rcases d with rfl|d
   .decide
   .have:=aq (h.pr g d);lia
  refine#[i,tW (L:=L) (Q:=λy=>qJ L g y=Á) (BR h i) ?_ (λq f j=>?_) (λx y k c h1 h2=>by rw[BE h i k c,h1,h2];rfl) y.natAbs y (Xm _) c]
  .rcases d with rfl|d
   .exact RE h
   .rw[<-lq h i .a];by_cases z:g=2
    .rw[z];exact L5 h
    .exact LI h d z
  .have o:=aq j;rcases d with rfl|d
   .by_cases z:q=2
    .rw[z];exact L5 h
    .exact LI h f z
   .by_cases e:g=q
    .subst e;rw[GL h i];by_cases z:g=2
     .rw[z];exact L5 h
     .exact LI h d z
    by_cases z:g=2
    .rw[z];exact OU h f .b
    by_cases l:q=2
    .rw[l,lq h .a i];exact OU h d z
    .exact R3 h d z f l e
 have m:∀x y,qJ L y x=Á->x≠0->y≠0->qJ L x y=Á:=λx y e h1 h2=>by rwa[lq h h2 h1]
 rw[lq h c.1 k.1];exact tW (L:=L) (Q:=λx=>qJ L y x=Á) (BR h c.1) (m _ _ (base _ (.inl rfl) y c).2 c.1 .a) (λq f j=>m _ _ (base q (.inr f) y c).2 c.1 (base q (.inr f) y c).1) (λa b ha n h1 h2=>by rw[BE h c.1 ha n,h1,h2];rfl) x.natAbs x (Xm _) k
def wJ(h1:1<=k)(h2:k<1073741824):Tame k:=by
 by_cases d:zD k
 .exact .inl #[k,1,d,.b,.a,.b]
 .have #[q,i]:=Classical.not_forall.mp d;have #[q1,b]:=abH.mp i;have #[#[f,e],j]:=abH.mp b
  have c:0<f:=by
   apply Xf;intro g;have:q*f<=0:=X5 .b .b;lia
  have h:f<32768:=by
   apply Xf;intro g;have:32768*32768<=q*f:=X_ .b .b .a .b;lia
  have a:q<1073741824:=by
   have:q*1<=q*f:=Xp .b .b;lia
  exact .inr #[f,q,xy c h,c,q1,a,by rw[e];exact XY ..]
theorem Cd:∀(n:Nat) (x:Int),x≠0->x.natAbs<=n->∃f s,j_ f/\0<s/\x=f*(s*s)
 |0,x,a,l=>absurd (show x=0 by lia) a
 |n+1,x,a,l=>by
  by_cases j:j_ x
  .exact#[x,1,j,.a,.b]
  .have h:¬∀d:Int,2<=d->¬d*d∣x:=λz=>j #[a,z];have #[d,m]:=Classical.not_forall.mp h;have #[i,b]:=abH.mp m;have #[c,g]:=Classical.not_not.mp b;have c0:c≠0:=by rintro rfl;exact a (by rw[g,XZ])
   have o:c.natAbs<=n:=by
    have e:x.natAbs=(d*d).natAbs*c.natAbs:=by rw[g,XN]
    have:2<=(d*d).natAbs:=by
     have:2*2<=d*d:=X_ i i .a .b;lia
    have:2*c.natAbs<=(d*d).natAbs*c.natAbs:=ZY _ this;lia
   obtain⟨f,s,h1,h2,k⟩:=Cd n c c0 o;exact#[f,s*d,h1,X7 h2 .b,by rw[g,k];grind]
def JJ(a:0<s)(e:x=f*(s*s)):f.natAbs<=x.natAbs:=by
 rw[e,XN];have:1<=(s*s).natAbs:=by have:=X7 a a;lia
 have:=Nat.mul_le_mul_left f.natAbs this;lia
theorem Ft:∀{us:List (Int×Int)} {a b:Int},gB a us b->∀u∈us,u.1∣pp us
 |[],_,_,_,u,h=>absurd h Xe
 |v::us,a,b,c,u,h=>by
  rcases Xa.mp h with rfl|z
  .show u.1∣u.1^u.2.toNat*pp us;have:=c.2.2.1;rw[show u.2.toNat=(u.2.toNat-1)+1 by lia,XE];exact#[u.1^(u.2.toNat-1)*pp us,by grind]
  .exact XU (Ft c.2.2.2 u z) #[v.1^v.2.toNat,XY ..]
theorem E_{q:Int}(c:aO q=Á):∀{us:List (Int×Int)} {a b:Int},gB a us b->q∣pp us->∃u∈us,u.1=q
 |[],_,_,_,h=>by
  have:=Xt .a (show q∣1 from h);have:=aq c;lia
 |v::us,a,b,d,h=>by
  rcases euclid c (show q∣v.1^v.2.toNat*pp us from h) with z|z
  .have:∀n:Nat,q∣v.1^n->q∣v.1:=λn=>by
    induction n with
    |zero =>
     intro h;rw[X1] at h;have:=Xt .a h;have:=aq c;lia
    |succ n e =>
     intro h;rw[XE] at h;rcases euclid c h with y|y
     .exact e y
     .exact y
   exact#[v,Xo,(bC c d.2.1 (this _ z)).symm]
  .obtain⟨u,h1,h2⟩:=E_ c d.2.2.2 z;exact#[u,Xj _ h1,h2]
def iE(c:1<=k):q∈(pK k).map (·.1)↔aO q=Á/\q∣k:=by
 obtain⟨⟨b,a⟩,e⟩:=oV c;rw[Xs];constructor
 .rintro⟨u,h1,rfl⟩;exact#[(i7 a u h1).1,e▸Ft a u h1]
 .rintro⟨h1,h2⟩;rw[<-e] at h2;exact E_ h1 a h2
def mh(hp:aO p=Á)(h2:p≠2):NR p:=by
 obtain⟨g,h1,_,a⟩:=Kw hp h2;exact#[g,h1,a]
def K4(k m x:Int):Prop:=0<=x/\x<m/\m∣k*x-1
def K4.uniq(x y:Int)(e:K4 k m x)(d:K4 k m y):x=y:=by
 obtain⟨j,n,f⟩:=e;obtain⟨o,l,i⟩:=d
 have h:m∣x-y:=by
  obtain⟨a,ha⟩:=f;obtain⟨b,p⟩:=i;refine#[a*y-b*x,?_];have e1:k*x=1+m*a:=by lia
  have e2:k*y=1+m*b:=by lia
  have:y*(k*x)=x*(k*y):=by grind
  rw[e1,e2] at this;grind
 obtain⟨c,g⟩:=h
 have:c=0:=by
  rcases Zw c 0 with z|z|z
  .have:m*c<=m*(-1):=Xp .b .b;lia
  .exact z
  .have:m*1<=m*c:=Xp .b .b;lia
 rw[this,XZ] at g;lia
def vh(k m:Int):Int:=ó (K4 k m)
def G8(h:K4 k m x):vh k m=x:=(pN K4.uniq h).symm
structure DW(k m r b f g:Int)(u v s:Int):Prop where
 r0:1<=r
 b0:0<=b
 lt:b<r
 rm:r<=m
 gc:Ê r b=1
 fr:m∣k*f-r
 fb:m∣k*g-b
 sg:s=1\/s=-1
 fu:f=-s*u
 gv:g=s*v
 u0:0<=u
 v0:0<=v
 um:u<=m
 sum:u*b+v*r=m
def DW.start(b:2<=m)(a:Ê k m=1):DW k m m (k%m) 0 1 0 1 1:=by
 refine#[.b,XO _ .b,XF _ .b,Yi m,?_,#[-1,.b],?_,.inl rfl,.b,.b,.a,.a,.b,.b]
 .have e:k%m=k.fmod m:=(Yl k (show 0<=m by lia)).symm;rw[e,n_,a]
 .refine#[k/m,?_];have:=Ys k m;lia
def DW.step(I:DW k m r b f g u v s)(t:b≠0):DW k m b (r-r/b*b) g (f-r/b*g) v (u+r/b*v) (-s):=by
 obtain⟨w,h,lt,B,n,fr,j,sg,x,l,u0,i,G,sum⟩:=I;have a:=Ys r b;have E:=XO r t;have m1:=XF r (show 0<b by lia);have p:0<=r/b:=aaF .b h;have e:r-r/b*b=r%b:=by rw[XY] at a;lia
 generalize z:r/b=q at *;have C:0<=q*v:=YR p i;refine#[.b,.b,.b,.b,?_,j,?_,.b,by rw[l];grind,by rw[x,l];grind,i,.b,?_,by grind]
 .have o:r%b=r.fmod b:=(Yl r h).symm;rw[e,o,n_,n]
 .obtain⟨c,D⟩:=fr;obtain⟨d,y⟩:=j;refine#[c-q*d,?_];have e1:k*f=r+m*c:=by lia
  have e2:k*g=b+m*d:=by lia
  have:k*(f-q*g)=k*f-q*(k*g):=by grind
  rw[this,e1,e2];grind
 .have F:v*1<=v*r:=Xp w i;have A:0<=u*b:=YR u0 h;lia
def DW.done(I:DW k m r 0 f g u v s)(b:2<=m):vh k m=f%m:=by
 have h1:r=1:=by
  have:=I.gc;rw[aaL] at this;have:=I.r0;lia
 refine G8 #[XO _ .b,XF _ .b,?_];obtain⟨c,a⟩:=I.fr;rw[h1] at a;have e:=Ys f m;refine#[c-k*(f/m),?_];have:k*(f%m)=k*f-k*(m*(f/m)):=by rw[<-ZK];congr 1;lia
 rw[this,show k*f=1+m*c by lia];grind
def DW.bd(I:DW k m r b f g u v s):f.natAbs<=m/\g.natAbs<=m:=by
 obtain⟨a,c,lt,o,e,fr,h,sg,i,p,u0,d,n,sum⟩:=I;have l:v*1<=v*r:=Xp a d;have j:0<=u*b:=YR u0 c;rcases sg with rfl|rfl<;>lia
def K1(l:2<=m)(j:Ê k m=1):K4 k m (vh k m):=by
 have:∀(n:Nat) (r b f g u v s:Int),DW k m r b f g u v s->b.toNat<=n->∃x,K4 k m x:=λn=>by
  induction n with
  |zero =>
   intro r b f g u v s I h;have a:b=0:=by have:=I.b0;lia
   subst a
   have h1:r=1:=by
    have:=I.gc;rw[aaL] at this;have:=I.r0;lia
   refine#[f%m,XO _ .b,XF _ .b,?_];obtain⟨c,o⟩:=I.fr;rw[h1] at o;have e:=Ys f m;refine#[c-k*(f/m),?_];have:k*(f%m)=k*f-k*(m*(f/m)):=by rw[<-ZK];congr 1;lia
   rw[this,show k*f=1+m*c by lia];grind
  |succ n d =>
   intro r b f g u v s I h;by_cases a:b=0
   .subst a;exact d r 0 f g u v s I .b
   .refine d _ _ _ _ _ _ _ (I.step a) ?_;have:=(I.step a).lt;have:=(I.step a).b0;lia
 obtain⟨x,i⟩:=this _ _ _ _ _ _ _ _ (DW.start l j) (Xm _);rwa[G8 i]
def zF(one m other p:Int):Int:=one+m*((other-one)*vh m p%p)
def Qm{one other:Int}(hp:2<=p)(h:1<=m)(a:Ê m p=1)(f:0<=one)(h1:one<m):(0<=zF one m other p/\zF one m other p<m*p)/\m∣zF one m other p-one/\p∣zF one m other p-other:=by
 obtain⟨g,b1,c,i⟩:=K1 hp a;unfold zF;have b:=XO ((other-one)*vh m p) (show p≠0 by lia);have j:=XF ((other-one)*vh m p) (show 0<p by lia);have k:=Ys ((other-one)*vh m p) p;generalize d:(other-one)*vh m p%p=y at *;generalize (other-one)*vh m p/p=w at *;refine#[#[?_,?_],#[y,.b],?_]
 .have:=YR (show 0<=m by lia) b;lia
 .have:m*y<=m*(p-1):=Xp .b .b;have e:m*(p-1)=m*p-m:=by rw[ZK,XC]
  lia
 .refine#[(other-one)*c-m*w,?_];have e1:y=(other-one)*vh m p-p*w:=by lia
  have e2:m*vh m p=1+p*c:=by lia
  rw[e1];have:m*((other-one)*vh m p-p*w)=(other-one)*(m*vh m p)-m*(p*w):=by grind
  rw[this,e2];grind
def JX(k:Int):List (Int×Int)->Int->Int->Option Int
 |[],a,_=>À a
 |u::us,a,d=>match xi k u.1 with
  |none=>none
  |some r=>JX k us (zF a d r u.1) (d*u.1)
def ET(k m:Int):Option Int:=JX k (pK m) 0 1
def B9(hp:aO p=Á)(h:xi k p=À r):(0<=r/\r<p)/\Cg p (r*r) k:=by
 by_cases h2:p=2
 .subst h2;unfold xi at h
  have a:bp k 2=k%2:=by
   unfold bp;by_cases z:k%2=0
   .rw[Xc z,z]
   .rw[W_ z,Xc rfl];lia
  rw[a] at h;split at h
  .cases h
  .rw[Xc (.inr rfl)] at h;cases h;refine#[.b,?_];have:k%2=0\/k%2=1:=by lia
   rcases this with z|z
   .rw[z];exact#[-(k/2),.b]
   .rw[z];exact#[-(k/2),.b]
 .exact MU hp h2 (mh hp h2) h
structure HZ(k a d:Int)(ps:List Int):Prop where
 d1:1<=d
 a0:0<=a
 a1:a<d
 pr:∀q,aO q=Á->q∣d->q∈ps
 sq:∀q∈ps,q∣a*a-k/\q∣d
def HZ.step{ps:List Int}(I:HZ k a d ps)(hp:aO p=Á)(l:p∉ps)(h:xi k p=À r):HZ k (zF a d r p) (d*p) (ps++[p])/\Ê d p=1/\(0<=r/\r<p):=by
 have e:=aq hp;have g:Ê d p=1:=lA hp λz=>l (I.pr p hp z);obtain⟨⟨s,t⟩,u,o⟩:=Qm (one:=a) (other:=r) e I.d1 g I.a0 I.a1;obtain⟨n,v⟩:=B9 hp h;refine#[#[?_,s,t,λq b m=>?_,λq b=>?_],g,n]
 .have:=X7 (show 0<d by have:=I.d1;lia) (show 0<p by lia);lia
 .rcases euclid b m with z|z
  .exact X0 _ (I.pr q b z)
  .exact XG _ (Xv.mpr (bC b hp z))
 .rcases X2.mp b with z|z
  .obtain⟨i,f⟩:=I.sq q z;refine#[?_,XU f #[p,rfl]];have j:q∣zF a d r p-a:=XU f u;generalize zF a d r p=w at *;have:w*w-k=(w-a)*(w+a)+(a*a-k):=by grind
   rw[this];exact Ϻ (XU j #[w+a,rfl]) i
  .rw[Xv.mp z];refine#[?_,#[d,XY ..]];generalize zF a d r p=w at *;have c:p∣r*r-k:=v;have:w*w-k=(w-r)*(w+r)+(r*r-k):=by grind
   rw[this];exact Ϻ (XU o #[w+r,rfl]) c
def HZ.zero(k:Int):HZ k 0 1 []:=#[.a,.a,.a,λq b a=>by
 have:=Xt .a a;have:=aq b
 lia,λq h=>absurd h Xe]
theorem tO:∀{us:List (Int×Int)} {a b:Int},gB a us b->(us.map (·.1)).Pairwise (·<·)/\∀q∈us.map (·.1),a<q
 |[],_,_,_=>#[ľ,λ_ h=>absurd h Xe]
 |u::us,a,b,h=>by
  obtain⟨h1,h2,g,e⟩:=h;obtain⟨d,c⟩:=tO e;refine#[YV.mpr #[c,d],λq f=>?_];rcases Xa.mp f with rfl|z
  .exact h1
  .have:=c q z;lia
def dp:List (Int×Int)->Int
 |[]=>1
 |u::us=>u.1*dp us
theorem HF:∀{us:List (Int×Int)} {a b:Int},0<=a->gB a us b->1<=dp us/\dp us<=pp us
 |[],_,_,_,_=>#[Yi 1,Yi 1]
 |u::us,a,b,ha,h=>by
  obtain⟨h1,h2,f,c⟩:=h;obtain⟨e,d⟩:=HF .b c
  have hp:u.1<=u.1^u.2.toNat:=by
   rw[show u.2.toNat=(u.2.toNat-1)+1 by lia,XE,XY];have:(0:Int)<u.1^(u.2.toNat-1):=Yj .b;have:u.1*1<=u.1*u.1^(u.2.toNat-1):=Xp .b .b;lia
  constructor
  .have:=X7 (show 0<u.1 by lia) (show 0<dp us by lia);show 1<=u.1*dp us;lia
  .exact X_ hp d .b .b
theorem F1{k α:Int}:∀(us:List (Int×Int)) (a d:Int) (ps:List Int) (b c:Int),gB c us b->(∀q∈ps,q<=c)->0<=c->HZ k a d ps->d*dp us<=α ->
  (JX k us a d=none/\∃u∈us,bp k u.1=-1)\/(∃x e,JX k us a d=À x/\HZ k x e (ps++us.map (·.1))/\e<=α/\∀u∈us,bp k u.1≠-1)
 |[],a,d,ps,b,c,j,g,m,I,i=>.inr #[a,d,rfl,by rwa[ϵ,aah],by have:d*1<=α:=i;lia,λu h=>absurd h Xe]
 |u::us,a,d,ps,b,c,j,g,m,I,i=>by
  obtain⟨h1,h2,y,l⟩:=j;rw[JX];cases f:xi k u.1 with
  |none=>exact .inl #[rfl,u,Xo,tf.mp f]
  |some r =>
   have p:u.1∉ps:=λz=>by have:=g _ z;lia
   obtain⟨s,_⟩:=I.step h2 p f
   have t:=F1 us (zF a d r u.1) (d*u.1) (ps++[u.1]) b u.1 l (λq n=>by
    rcases X2.mp n with z|z
    .have:=g q z;lia
    .rw[Xv.mp z];exact Yi _) .b s (by rwa[XT])
   dsimp only;rcases t with⟨e1,v,e2,e3⟩|⟨x,e,e1,e2,e3,e4⟩
   .exact .inl #[e1,v,Xj _ e2,e3]
   .refine .inr #[x,e,e1,by rwa[XQ,List.append_cons],e3,λv o=>?_];rcases Xa.mp o with z|z
    .rw[z];intro w;rw[tf.mpr w] at f;cases f
    .exact e4 v z
def ML(d:1<=m):(ET k m=none/\∃q,aO q=Á/\q∣m/\bp k q=-1)\/(∃x,ET k m=À x/\0<=x/\x<m/\∀q,aO q=Á->q∣m->q∣x*x-k/\bp k q≠-1):=by
 obtain⟨⟨b,f⟩,c⟩:=oV d;obtain⟨n,g⟩:=HF .a f;rw[c] at g;rcases F1 (k:=k) (α:=m) (pK m) 0 1 [] b 1 f (λq h=>absurd h Xe) .a (HZ.zero k) .b with⟨e1,u,e2,e3⟩|⟨x,e,e1,e2,e3,e4⟩
 .have:=(iE d).mp (Xs.mpr #[u,e2,rfl]);exact .inl #[e1,u.1,this.1,this.2,e3]
 .refine .inr #[x,e1,e2.a0,by have:=e2.a1;lia,λq l j=>?_];have a:=(iE d).mpr #[l,j];obtain⟨u,i,rfl⟩:=Xs.mp a;exact#[(e2.sq u.1 (by rwa[aaE])).1,e4 u i]
end Q
open Q hiding Fr getD_mem cnt ev
namespace L2.EP
open PySem PySem.Spec PyProof.Rows
section
variable{X:Cx}{U:aI}{D:GD}{M β:Type}[Py M][Py β]{e e1 e2:Ô}{b b1 b2:Bool}{pos:ì}{rest:List Ñ}
def O6{i j:Int}(ha:E X U e1 b1 i)(a:E X U e2 b2 j)(b:EW i j):E X U (.BinOp e1 .LShift e2 pos) Á (i*2^j.toNat):=by stop exact Aa (g:=λi j=>i*2^j.toNat) MR ha a b
def Jl:Q_ X "int.bit_length" (λx xs H Q=>∃i,x=.int i/\xs=[]/\Q (.int (Ë i:Nat)) H):=by
 intro Z2 s Y H x xs v us Q I r a h;obtain⟨i,rfl,rfl,q⟩:=h;obtain⟨t,rfl⟩:=r;cases a;exact call_int_bit_length #[.int (Ë i:Nat),H,I.tok _,#[_,rfl],q]
def M5{i:Int}{apos:ì}(ha:E X U e b i)(a:autoParam (Ġ e "bit_length" X.env (Û e X.env)=Û e X.env) zra)(c:autoParam ((apos.endLine==pos.line)=Á) zra):E X U (.Call (.Attribute e "bit_length" apos) [] [] pos) Á ((Ë i:Nat):Int):=by
 stop
  exact aJ (E1 PySem.F.plainAttrs_int PySem.F.slot_int_bit_length PySem.F.type_int_bit_length Jl ha a c) λY H Q ⟨H0,F,O,S,q⟩=>#[H0,F,O,S,λv H1 d f=>by
    cases f
    exact#[rfl,i,rfl,rfl,q _ H1 d rfl]]
def Ga{i:Int}{u:Int×Int}:CV X .In i u (decide (u.1=i) || decide (u.2=i)):=#[_,CM,λN N' H v w Q h1 h2 q=>by
 obtain⟨p,x,y,rfl,a,b,c⟩:=h2;cases h1;cases b;cases c;refine#[p,_,rfl,.inr (xu (aG.refl _) a),rfl,rfl,?_]
 simpa [Oj,Ia,aav] using q]
theorem o_{K:Ã}{N:Nn}{H:Hp}:∀{vs:List V} {xs:List Int},Ý (λx (b:Int)=>Py.rp K N H x b) vs xs->vs=xs.map V.int
 |_,_,.nil=>rfl
 |_,_,.cons h r=>by rw[o_ r,show _=V.int _ from h];rfl
theorem zz{i:Int}:∀xs:List Int,Oj (.int i) (xs.map V.int)=decide (i∈xs)
 |[]=>by simp[Oj]
 |x::xs=>by
  have:=zz (i:=i) xs;unfold Oj at *;rw[XQ,Zi,this];simp only[Ia,Xa,aav,Bool.decide_or];congr 1;exact aa4.mpr eq_comm
def S.Sn{D:GD}{a:aI->Prop}{st:List Ñ}(h:S X U st D)(w:∀U',D.nx U'->a U'):S X U st {D with nx:=a}:=by stop exact sh h λd Y H ⟨H0,F,O,Z,n,r,bk,ct⟩=>#[H0,F,O,Z,λU' Y' H' b sm c q=>n U' Y' H' b sm c (w U' q),r,bk,ct]
def nH{c:Bool}{body orelse:List Ñ}(J:aI->Prop)(a:T X U e c)(h1:c=Á->S X U body {D with nx:=J})(h2:c=Â->S X U orelse {D with nx:=J})(h:∀U',J U'->S X U' rest D):S X U (.If e body orelse pos::rest) D:=by stop exact O4 a (λz=>(h1 z).Sn h) (λz=>(h2 z).Sn h)
def uB(mg:Ï->Option Ä)(x:Ï)(i:Int):Prop:=∃t,mg x=À (.int i t)
def uO{x:Ï}{i:Int}(b:Gl X x)(a:uB X.mg x i)(c:autoParam ((x==("__debug__":Ï))=Â) zrb):E X U (.Name x pos) Á i:=by stop obtain⟨t,a⟩:=a;exact aJ (B5 (v:=.int i) b a #[t,rfl] c) λY H Q ⟨H0,F,O,S,q⟩=>q _ H (aG.refl _) rfl
end
variable{K:Ã}{H:Hp}{p:Ç}{x:Ï}{xs:List V}{c:Bool}
def my{M:Type}{xs:List M}{k:Int}{d:M}(b:0<=k)(h:k<(xs.length:Int)):xT xs k=À (xs.getD k.toNat d):=by
 have a:k.toNat<xs.length:=by lia
 have e:k=((k.toNat:Nat):Int):=by lia
 have q:xT xs ((k.toNat:Nat):Int)=À xs[k.toNat]:=Jj (by rw[Xn a]);rw[<-e] at q;rw[q,Xh,Xn a];rfl
structure A3(M:Type) where
 l:List M
def Ky(K:Ã)(H:Hp)(p:Ç)(xs:List V):Prop:=Rt H p xs\/∃(o:û) (XV:Array Ä) (n:Nat),K.lookup p=À o/\o.cls=.type "tuple"/\o.data=.seq XV n/\XV.size<=sizeLine/\Vals xs XV.toList
def Ky.t(h:Ky K H p xs):zE K H p xs:=h.imp Rt.rd id
def Ml{H':Hp}(t:∀p xs,Rt H p xs->Rt H' p xs)(h:Ky K H p xs):Ky K H' p xs:=h.imp (t _ _) id
def da{H':Hp}(e:aG H H')(h:Ky K H p xs):Ky K H' p xs:=h.imp (λz=>aG.rt e z) id
noncomputable instance{M:Type}[Py M]:Py (A3 M) where
 rp K N H v a:=∃p xs,v=.ref p/\Ky K H p xs/\Ý (λx b=>Py.rp K N H x b) xs a.l
 tr l t h:=by
  obtain⟨p,xs,e,s,r⟩:=h;exact#[p,xs,e,Ml t s,bM (λ_ _ q=>Py.tr l t q) r]
noncomputable instance{M β:Type}[Py M][Py β]:Py (M⊕β) where
 rp K N H v a:=match a with|.inl x=>Py.rp K N H v x|.inr y=>Py.rp K N H v y
 tr {K N N' H H' v a} l t h:=by
  cases a with
  |inl x=>exact Py.tr (M:=M) l t h
  |inr y=>exact Py.tr (M:=β) l t h
def lH(K:Ã)(N:Nn)(H:Hp)(a:Int):¬Py.rp K N H .non a:=λh=>nomatch h
section
variable{X:Cx}{U:aI}{D:GD}{M β:Type}[Py M][Py β]{e e1 e2 tg:Ô}{b b1 b2:Bool}{pos:ì}{rest:List Ñ}
def K2{a:M}(h:E X U e b a):E X U e b (ĉ a:M⊕β):=by stop exact h
def GY{a:β}(h:E X U e b a):E X U e b (å a:M⊕β):=by stop exact h
def LB{a:M}(h:E X U e b (ĉ a:M⊕β)):E X U e b a:=by stop exact h
def vj{a:β}(h:E X U e b (å a:M⊕β)):E X U e b a:=by stop exact h
def FX{xs:List M}(he:E X U e b (A3.mk xs)):EI X U tg e b xs:=by
 stop
  exact#[_,Mi he,λY H H0 F O R Z q=>#[H0,F,O,Z,λv H1 g j=>by
   obtain⟨p,vs,e,c,f⟩:=j;refine#[p,e,#[vs,(da (ar _ _) c).t],q _ H1 g λH' l _ sm=>#[λi a ha=>?_,?_]]
   .obtain⟨x,h1,h2⟩:=ig f ha;refine#[#[vs,x,(da (ar _ _) (da sm c)).t,h1],λy k d=>?_];obtain⟨h,d⟩:=d;subst h;have:=d vs ((da (ar _ _) (da sm c)).t);rw[h1] at this;cases this;exact#[aG.refl _,aw sm h2]
   .exact#[vs,(da (ar _ _) (da sm c)).t,by rw[bE f];exact Xm _]]]
def B6{xs:A3 M}{ys:List M}{k:Int}{p2:ì}(ha:E X U e1 b xs)(o:E X U e2 b2 k)(A:0<k)(g:0<xs.l.length)(s:autoParam (xs.l.drop k.toNat=ys) zra):E X U (.Subscript e1 (.Slice (À e2) none none p2) pos) b (A3.mk ys):=by
 stop
  subst s
  exact aJ (nA Ma ha (rR o) rq) λY H Q ⟨H0,F,O,S,q⟩=>#[H0,F,O,S,λv H1 c n=>#[H0,F,O,S.go c,λw H2 a x=>by
   obtain⟨p,vs,e,y,r⟩:=n;have h:=bE r;have i:k=((k.toNat:Nat):Int):=by lia
   have d:HT.fK vs.length 0 (À k)≠0:=by
    rw[i,HT.rH];lia
   refine#[k,x,p,vs,e,(da (ar _ _) (da (ah a) y)).t,λz=>d z.1,λl g=>?_];obtain⟨m,u⟩:=yr (xs:=j8 vs (À k) none) ((S.go c).go a) g;refine q _ _ (c.trans (a.trans m)) #[l,_,rfl,.inl u,?_]
   have ec:j8 vs (À k) none=vs.drop k.toNat:=by
    unfold j8;rw[i,HT.rH,HT.oa];simp only[Õ];by_cases f:k.toNat<=vs.length
    .rw[ack f,ZL (by rw[Z9];exact Xm _)]
    .rw[ab5 .b,aao (Xm _),aao .b];simp
   have j:=bM (λ_ _ z=>aw ((ah a).trans (ah m)) z) (xD k.toNat r);rw[<-ec] at j
   exact j]]
def xP(K:Ã)(mg:Ï->Option Ä)(x:Ï)(xs:List Int):Prop:=∃(p:Ç) (o:û) (XV:Array Ä) (n:Nat),mg x=À (.ref p)/\K.lookup p=À o/\o.cls=.type "tuple"/\o.data=.seq XV n/\XV.size<=sizeLine/\Vals (xs.map V.int) XV.toList
def u9{xs:List Int}(d:Gl X x)(a:xP X.K X.mg x xs)(e:autoParam ((x==("__debug__":Ï))=Â) zrb):E X U (.Name x pos) Á (A3.mk xs):=by stop obtain⟨p,o,XV,n,a,h1,h2,b,c,f⟩:=a;exact aJ (B5 (v:=.ref p) d a rfl e) λY H Q ⟨H0,F,O,S,q⟩=>q _ H (aG.refl _) #[p,_,rfl,.inr #[o,XV,n,h1,h2,b,c,f],vK xs]
def uB.mk{h:ß}{mg:Ï->Option Ä}{i:Int}{t:Ϝ}(σ:K.In h)(G:h.Ns Ì mg)(a:Ö K Ì x=À (À (.int i t))):uB mg x i:=#[t,aby σ G a]
def xP.mk{h:ß}{mg:Ï->Option Ä}{xs:List Int}{od:Option Ç}{XV:Array Ä}{n:Nat}{b:Array (Option Ä)}(σ:K.In h)(G:h.Ns Ì mg)(a:Ö K Ì x=À (À (.ref p)))
  (l:K.lookup p=À #[.type "tuple",od,.seq XV n,b]) (hz:XV.size<=1000) (c:Vals (xs.map V.int) XV.toList):xP K mg x xs:=#[p,_,XV,n,aby σ G a,l,rfl,rfl,YF (de hz),c]
def c_{a:M}(h:E X U e b (À a)):E X U e b a:=by stop exact h
def jA{a:M}(h:E X U e b a):E X U e b (À a):=by stop exact h
def QS{x:Option M}{j:Nat}{p:ì}(ha:E X U e1 b1 x)(f:∀(K:Ã) (N:Nn) (H:Hp) (a:M),¬Py.rp K N H .non a):E X U (.Compare e1 [.IsNot] [.Constant .none j p] pos) Á (!x.isNone):=by
 stop
  exact aJ (Fb (BH ha)) λY H Q ⟨H0,F,O,S,q⟩=>#[H0,F,O,S,λv H1 c b=>by
    have e:decide (v=.non)=x.isNone:=by
     cases x with
     |none=>cases b;rfl
     |some a =>
      have d:v≠.non:=by rintro rfl;exact f _ _ _ a b
      rw[XH d];rfl
    have:=q (.bl (!decide (v=.non))) H1 c;show Q (.bl (!decide (v=.non))) H1;rw[e] at this ⊢
    exact this rfl]
def qP{x:Option M}{j:Nat}{p:ì}(ha:E X U e1 b1 x)(f:∀(K:Ã) (N:Nn) (H:Hp) (a:M),¬Py.rp K N H .non a):T X U (.Compare e1 [.IsNot] [.Constant .none j p] pos) (!x.isNone):=by
 stop
  exact sQ (Hc (BH ha)) λY H Q ⟨H0,F,O,S,q⟩=>#[H0,F,O,S,λv H1 c b=>by
    refine#[!decide (v=.non),rfl,?_]
    have e:decide (v=.non)=x.isNone:=by
     cases x with
     |none=>cases b;rfl
     |some a =>
      have d:v≠.non:=by rintro rfl;exact f _ _ _ a b
      rw[XH d];rfl
    rw[e];exact q H1 c]
variable{γ:Type}[Py γ]{e3:Ô}{b3:Bool}
def J5{op a:ŕ}{x:M}{y:β}{z:γ}{c':Bool}(h1:CV X op x y c)(h2:CV X a y z c')(ha:E X U e1 b1 x)(n:E X U e2 b2 y)(k:E X U e3 b3 z)(l:autoParam (ŧ [op,a] [e2,e3]=Â) zrg):E X U (.Compare e1 [op,a] [e2,e3] pos) Á (c&&c'):=by
 stop
  obtain⟨r,p,j⟩:=h1;obtain⟨s,f,e⟩:=h2
  exact aJ (Ef p f ha n k l) λY H Q ⟨H0,F,O,S,q⟩=>#[H0,F,O,S,λv H1 d m=>#[H0,F,O,S.go d,λw H2 b h =>
   j _ _ H2 v w _ (aw ((ah b).trans (ar _ _)) m) (aw (ar _ _) h) #[c,rfl,by
    cases c with
    |false=>exact q _ H2 (d.trans b) rfl
    |true=>exact#[H0,F,O,(S.go d).go b,λu i g o=>e _ _ i w u _ (aw ((ah g).trans (ar _ _)) h) (aw (ar _ _) o) (q _ i (d.trans (b.trans g)) rfl)]]]]
def Cz{op a:ŕ}{x:M}{y:β}{z:γ}{c':Bool}(h1:CV X op x y c)(h2:CV X a y z c')(ha:E X U e1 b1 x)(n:E X U e2 b2 y)(k:E X U e3 b3 z)(l:autoParam (ŧ [op,a] [e2,e3]=Â) zrg):T X U (.Compare e1 [op,a] [e2,e3] pos) (c&&c'):=by
 stop
  obtain⟨r,p,j⟩:=h1;obtain⟨s,f,e⟩:=h2
  exact sQ (HJ p f ha n k l) λY H Q ⟨H0,F,O,S,q⟩=>#[H0,F,O,S,λv H1 d m=>#[H0,F,O,S.go d,λw H2 b h =>
   j _ _ H2 v w _ (aw ((ah b).trans (ar _ _)) m) (aw (ar _ _) h) #[c,rfl,by
    cases c with
    |false=>exact#[Â,rfl,q H2 (d.trans b)]
    |true=>exact#[H0,F,O,(S.go d).go b,λu i g o=>e _ _ i w u _ (aw ((ah g).trans (ar _ _)) h) (aw (ar _ _) o) #[c',rfl,q i (d.trans (b.trans g))]]]]]
def IT(i:Nat){as:List M}{p ap e:ì}(j:U[i]?=À (À (.dpo (À as))))(h:S X (U.set i none) rest D)(hi:autoParam (X.N[i]?=À x) zra)
  (l:autoParam (HV X.env.scope x) zre) (k:autoParam ((x==("__debug__":Ï))=Â) zrb) (f:autoParam ((x==("__classdict__":Ï))=Â) zrb)
  (a:autoParam (Ġ (.Name x p) "clear" X.env (Û (.Name x p) X.env)=Û (.Name x p) X.env) zra)
  (b:autoParam ((ap.endLine==e.line)=Á) zra) (d:autoParam (õ (.Call (.Attribute (.Name x p) "clear" ap) [] [] e) none pos.line X.env=pure Â) zra):
  S X U (.Expr (.Call (.Attribute (.Name x p) "clear" ap) [] [] e) pos::rest) D:=by
 stop
  exact dU (dS (wG (E1 acb PySem.F.slot_list_clear PySem.F.type_list_clear HC (pv i hi l k f) a b) d) λt Y H ⟨H0,F,O,Z,n,_⟩=>by
    obtain⟨v,u,c,⟨q,xs,e1,r,nn,w⟩,_,wr⟩:=Z.write j É;subst e1;refine#[.ref q,c,.inl #[rfl,xs,r],q,xs,rfl,rfl,nn.2,?_];obtain⟨m,s⟩:=wr q [] none nn.1 λo g=>nomatch g
    exact n _ _ _ _ (by rw[s];exact aG.refl _) m h)
end
def QD:GD:={nx:=λ_=>True,rt:=λ_=>False}
section
variable{P:Ð}{w:Ú}{K:Ã}{mg:Ï->Option Ä}{base:ß}{N ps:List Ï}{x qual:Ï}{st:Ñ}{f:Ç}{k:Nat}{fd:ð}
def DM{gs:List Bd}{vs:List V}{O:Ç->Prop}{b:Bool}{Q:VK}{a:Ä}{A:à}{outer:List ĵ}{s:Æ}{E:XK}(B:⇑Body N qual st f k gs QD)(c:dP k (A.deeper (ę qual (ag st) s.heap.objs.size f a)))
  (d:oR H O) (h:Args K .F vs gs) (q:∀r H',aG H H'->Py.rp K (Nf H b) (off H' O) r ()->Q r H'):
  ∃t,qW (ui pd P w K mg base N qual (ag st) f a A outer s H E).K8 (b7 st) t/\t {nx:=λ_ H'=>Q .non H',rt:=Q} (start N vs) H:=by stop refine#[_,B a A outer s H E c,H,O,O,pQ d h,λ_ _ H' _ _ Z _=>q .non H' Z.same rfl,λg v H' sm z e=>e.elim,λ_ _ _ _ _ _ z=>z.elim,λ_ _ _ _ _ _ z=>z.elim]
def qt{M:Type}(_:M):Unit:=()
def PU{M:Type}[Py M]{pre:M->Prop}{b:Bool}(F:uf K x qual st f fd)(i:ak N ps (ag st))(e:ps.length=1)(B:∀a,pre a->⇑Body N qual st f k [.val Â a] QD):
  fU P w K mg base pd (k+1) f fd ps (cH K pre b (qt (M:=M))):=by
 stop
  refine F.ok i (λvs H Q E h=>?_) λc A outer s H vs Q E d h=>?_
  .obtain⟨O,v,a,_,rfl,_⟩:=h;rw[e];rfl
  .obtain⟨O,v,a,g,rfl,r,hp,q⟩:=h;exact DM (B a hp) d g (.cons r .nil) q
end
def tJ{O:Ç->Prop}(b:∀p,O p->∃xs:Mt,H p=À (mo xs))(p:Ç)(xs:List V)(h:Rt H p xs):Rt .F p xs:=by
 have a:¬O p:=λz=>by
  obtain⟨ys,e⟩:=b p z;rcases h with h|⟨o,h⟩
  .rw[e] at h;rcases ys with ys|ys|ys<;>cases h
  .rw[e] at h;rcases ys with ys|ys|ys<;>cases h
 rcases h with h|⟨o,h⟩
 .exact .inl (by rwa[aS a])
 .exact .inr #[o,by rwa[aS a]]
theorem wm{M β:Type}{F:M->β->Prop}:∀{b a:List M} {m₁ m₂:List β},Ý F b m₁->Ý F a m₂->Ý F (b++a) (m₁++m₂)
 |_,_,_,_,.nil,h=>h
 |_,_,_,_,.cons h r,h'=>.cons h (wm r h')
section
variable{X:Cx}{U:aI}{D:GD}{M β γ:Type}[Py M][Py β][Py γ]{e e1 e2:Ô}{b b1 b2:Bool}{pos:ì}{st rest:List Ñ}
def cE{a a':M}(h:E X U e b a)(ha:a=a'):E X U e b a':=by stop subst ha;exact h
def Ep{xs ys:List M}(ha:E X U e1 Á xs)(o:E X U e2 Á ys)(k:xs.length+ys.length<=1000):E X U (.BinOp e1 .Add e2 pos) Á (xs++ys):=by
 stop
  exact aJ (yo Mx ha o) λY H Q ⟨H0,F,O,S,q⟩=>#[H0,F,O,S,λv H1 g n=>#[H0,F,O,S.go g,λw H2 d r=>by
    obtain⟨p,vs,e1,s,u,f⟩:=n;obtain⟨i,a,e2,t,m,e⟩:=r;have h1:H2 p=À (.lst vs):=d _ _ ((ar _ _) _ _ u.2);have h2:H2 i=À (.lst a):=(ar _ _) _ _ m.2;refine#[p,i,vs,a,e1,e2,h1,h2,by rw[bE f,bE e];exact YF (de k),λl c=>?_];obtain⟨h,j⟩:=cO (xs:=vs++a) ((S.go g).go d) c
    exact q _ _ (g.trans (d.trans h)) #[l,_,rfl,dW.of j,Nf.wk (b:=Á) (((S.go g).go d).iq c) j,wm (bM (λ_ _ z=>aw ((ah d).trans (ah h)) z) f) (bM (λ_ _ z=>aw (ah h) z) e)]]]
def zU[PyT M]{es:List Ô}{as:List M}(h:EA X U es b as)(f:as.length<=1000):EN X U (.List es pos) as:=by
 stop
  exact aJ (Bn h) λY H Q ⟨H0,F,O,S,q⟩=>#[H0,F,O,S,λvs H1 a c=>#[by rw[bE c];exact YF (de f),λp hp=>by
    obtain⟨d,e⟩:=cO (xs:=vs) (S.go a) hp
    exact q _ _ (a.trans d) #[p,vs,rfl,dW.of e,#[a.free hp,e],bM (λ_ _ r=>PyT.free (λ_ _ w=>w) (aw (ah d) r)) c]]]
def Pz{x y:M}(f:T X U e c)(ha:c=Á->EN X U e1 x)(g:c=Â->EN X U e2 y):EN X U (.IfExp e e1 e2 pos) (if c then x else y):=by
 stop
  cases c with
  |true=>exact aJ (iZ f (ha rfl) qe) λY H Q ⟨H0,F,O,S,q⟩=>#[H0,F,O,S,λH1 a=>uh #[H0,F,O,S.go a,λw H2 d b=>q w H2 (a.trans d) (kc a b)]]
  |false=>exact aJ (iZ f qe (g rfl)) λY H Q ⟨H0,F,O,S,q⟩=>#[H0,F,O,S,λH1 a=>uv #[H0,F,O,S.go a,λw H2 d b=>q w H2 (a.trans d) (kc a b)]]
def yB[PyT M](i:Nat)(b:Bool){as:List M}(d:U[i]?=À (À (.dpo as)))(h:S X (U.set i (À (.own b as))) st D):S X U st D:=by
 stop
  exact sh h λw Y H ⟨H0,F,O,Z,n,r,bk,ct⟩=>by
   refine#[H0,F,O,#[Z.same,Z.fo,Z.f0,Z.own,by rw[Yr];exact Z.len,λj g e no=>?_,?_],n,r,bk,ct]
   .by_cases a:j=i
    .subst a;have f:j<U.length:=(Xl.mp d).1;rw[get_set_eq f] at e;have c:Bd.own b as=g:=Xy (Xy e);exact absurd (c▸(É:(Bd.own b as).g9)) no
    .rw[get_set_ne a] at e;exact Z.at_ j g e no
   .obtain⟨u,q,m,l⟩:=Z.dis;refine#[u,q,m,λj g e o=>?_];by_cases a:j=i
    .subst a;have f:j<U.length:=(Xl.mp d).1;rw[get_set_eq f] at e;have c:Bd.own b as=g:=Xy (Xy e);subst c;obtain⟨v,q1,p,xs,t,x,k,s⟩:=l j _ d É;exact#[v,q1,p,xs,t,k.1,k.2,bM (λ_ _ z=>PyT.free (tJ Z.own) z) s]
    .rw[get_set_ne a] at e;exact l j g e o
end
end L2.EP
namespace L2
open PySem PySem.Spec PyProof.Rows
section
variable{X:Cx}{pos:ì}
end
end L2
namespace L2.EP
open PySem PySem.Spec PyProof.Rows
section
variable{X:Cx}{U:aI}{D:GD}{M β γ:Type}[Py M][Py β][Py γ]{e e1 e2:Ô}{b b1 b2:Bool}{pos:ì}{rest st:List Ñ}
def xJ{xs:List M}{k:Int}{p2:ì}(ha:E X U e1 b xs)(m:E X U e2 b2 k)(u:0<=k):E X U (.Subscript e1 (.Slice none (À e2) none p2) pos) b (xs.take k.toNat):=by
 stop
  exact aJ (nA xj ha rq (rR m)) λY H Q ⟨H0,F,O,S,q⟩=>#[H0,F,O,S,λv H1 c j=>#[H0,F,O,S.go c,λw H2 a o=>by
    obtain⟨p,vs,e,s,n,r⟩:=j;refine#[k,o,p,vs,e,(ar _ _).seq ((ah a).seq s),λl f=>?_];obtain⟨i,g⟩:=cO (xs:=j8 vs none (À k)) ((S.go c).go a) f;refine q _ _ (c.trans (a.trans i)) #[l,_,rfl,dW.of g,Nf.wk (((S.go c).go a).iq f) g,?_]
    have ec:j8 vs none (À k)=vs.take k.toNat:=by
     unfold j8;have t:k=((k.toNat:Nat):Int):=by lia
     rw[t,HT.rH,HT.oa];simp only[Õ,ϑ,Nat.sub_zero];by_cases d:k.toNat<=vs.length
     .rw[ack d]
     .rw[ab5 .b,ZL (Xm _),ZL .b]
    have h:=bM (λ_ _ z=>aw ((ah a).trans (ah i)) z) (xx k.toNat r);rw[<-ec] at h
    exact h]]
def CU(i:X.calm=Á):kU X (.builtin "min") (λxs H Q=>∃p,∃ns:List Int,xs=[.ref p]/\dW X.K H p (ns.map V.int)/\0<ns.length/\∀α,α∈ns->(∀a,a∈ns->α<=a)->Q (.int α) H):=by
 intro Z2 s Y H xs us Q I r h;obtain⟨p,ns,rfl,k,b,q⟩:=h;obtain⟨u,rfl,e⟩:=vals1 r;cases e;obtain⟨XV,m,pl,_⟩:=I.list k;have hi:=intsAre_of m;obtain⟨ys,d⟩:=hi.allInts.items;have c:s.heap.IsList p (intItems ys):=d▸pl.isList
 have e1:ns=ys.toList.map (·.1):=by
  rw[<-nums_intItems,<-d];exact(show numsOf XV.toArray.toList=ns from hi.numsOf).symm
 have hsz:0<ys.size:=by rwa[e1,Xk,XJ] at b
 refine min_intList (I.ok.hd i) c hsz λv h' tk g l=>?_;obtain⟨t,rfl⟩:=intItems_at g;obtain⟨h1,h2⟩:=argBest_lt (numAt ys) (ys.size-1);refine#[.int _,H,I.kept l,#[_,rfl],q _ ?_ λa ha=>?_]
 .rw[e1,θ];exact getD_mem (by rw[Xk,XJ];lia)
 .rw[e1] at ha;obtain⟨j,f,rfl⟩:=mem_getD ha;rw[Xk,XJ] at f;rw[<-θ];exact h2 j .b
def DH(i:X.calm=Á):kU X (.builtin "max") (λxs H Q=>∃p,∃ns:List Int,xs=[.ref p]/\dW X.K H p (ns.map V.int)/\0<ns.length/\∀α,α∈ns->(∀a,a∈ns->a<=α)->Q (.int α) H):=by
 intro Z2 s Y H xs us Q I r h;obtain⟨p,ns,rfl,k,b,q⟩:=h;obtain⟨u,rfl,e⟩:=vals1 r;cases e;obtain⟨XV,m,pl,_⟩:=I.list k;have hi:=intsAre_of m;obtain⟨ys,d⟩:=hi.allInts.items;have c:s.heap.IsList p (intItems ys):=d▸pl.isList
 have e1:ns=ys.toList.map (·.1):=by
  rw[<-nums_intItems,<-d];exact(show numsOf XV.toArray.toList=ns from hi.numsOf).symm
 have hsz:0<ys.size:=by rwa[e1,Xk,XJ] at b
 refine max_intList (I.ok.hd i) c hsz λv h' tk g l=>?_;obtain⟨t,rfl⟩:=intItems_at g;obtain⟨h1,h2⟩:=argBest_gt (numAt ys) (ys.size-1);refine#[.int _,H,I.kept l,#[_,rfl],q _ ?_ λa ha=>?_]
 .rw[e1,θ];exact getD_mem (by rw[Xk,XJ];lia)
 .rw[e1] at ha;obtain⟨j,f,rfl⟩:=mem_getD ha;rw[Xk,XJ] at f;rw[<-θ];exact h2 j .b
def Fj{ns:List Int}{m:Int}{p:ì}(j:X.calm=Á)(h:Gl X "min")(i:X.mg "min"=none)(ha:E X U e b ns)(g:0<ns.length)(h1:m∈ns)(h2:∀a,a∈ns->m<=a)(d:autoParam (Å [e] X.env=(Â,Û e X.env)::Å [] X.env) zra):E X U (.Call (.Name "min" p) [e] [] pos) Á m:=by
 stop
  exact aJ (f9 (CU j) h i boot_min (aB ha a9 d) (he:=d)) λY H Q ⟨H0,F,O,S,q⟩=>#[H0,F,O,S,λv H1 f k=>by
    obtain⟨p,vs,e,c,n,r⟩:=k;rw[sJ r] at c;refine#[p,ns,by rw[e],(ar _ _).seq c,g,λα m1 m2=>q _ H1 f ?_];have:=h2 α m1;have:=m2 m h1;show V.int α=V.int m
    rw[show α=m by lia]]
def E9{ns:List Int}{m:Int}{p:ì}(j:X.calm=Á)(h:Gl X "max")(i:X.mg "max"=none)(ha:E X U e b ns)(g:0<ns.length)(h1:m∈ns)(h2:∀a,a∈ns->a<=m)(d:autoParam (Å [e] X.env=(Â,Û e X.env)::Å [] X.env) zra):E X U (.Call (.Name "max" p) [e] [] pos) Á m:=by
 stop
  exact aJ (f9 (DH j) h i boot_max (aB ha a9 d) (he:=d)) λY H Q ⟨H0,F,O,S,q⟩=>#[H0,F,O,S,λv H1 f k=>by
    obtain⟨p,vs,e,c,n,r⟩:=k;rw[sJ r] at c;refine#[p,ns,by rw[e],(ar _ _).seq c,g,λα m1 m2=>q _ H1 f ?_];have:=h2 α m1;have:=m2 m h1;show V.int α=V.int m
    rw[show α=m by lia]]
end
def IY{X:Cx}:k5 X (ċ .Add) (λx y H Q=>∃l b xs zs,x=.ref l/\y=.ref b/\dW X.K H l xs/\dW X.K H b zs/\xs.length+zs.length<=sizeLine/\∀p,H p=none->Q (.ref p) (upd H p (.lst (xs++zs)))):=by
 intro Z2 s Y H x y v u Q I E D h;obtain⟨l,b,xs,zs,rfl,rfl,A,B,hz,q⟩:=h;cases E;cases D;obtain⟨XV,r,pl,_⟩:=I.list A;obtain⟨a,m,i,_⟩:=I.list B;obtain⟨⟨cls,G,data,sl⟩,n,t,k,f,j⟩:=pl;obtain⟨⟨o,z,data2,g⟩,w,d,e,c,hd2⟩:=i;simp only at k f j e c hd2;subst k f j e c hd2;have L:=r.length;have J:=m.length;have C:XV.toArray++a.toArray=(XV++a).toArray:=by simp
 refine concat_meets #[_,t,rfl] #[_,d,rfl] noFill_list_add seq_list_add PySem.F.slot_list_add PySem.F.entry_list_add (PySem.F.args_list_add_2 _ _) (list_addW l b XV.toArray a.toArray n w none none sl g (by rw[XB,XB];lia)) #[t,d,?_];rw[C];exact#[.ref _,_,I.Kd (t':=s.toks) (r.append m) (by rw[XD];lia),rfl,q _ I.fresh]
section
variable{X:Cx}{U:aI}{D:GD}{M β γ:Type}[Py M][Py β][Py γ]{e e1 e2:Ô}{b b1 b2:Bool}{pos:ì}{rest st:List Ñ}
def fJ[PyT M]{xs ys:List M}(ha:E X U e1 b1 xs)(r:E X U e2 b2 ys)(m:xs.length+ys.length<=1000):E X U (.BinOp e1 .Add e2 pos) Á (xs++ys):=by
 stop
  exact aJ (yo IY ha r) λY H Q ⟨H0,F,O,S,q⟩=>#[H0,F,O,S,λv H1 g o=>#[H0,F,O,S.go g,λw H2 c s=>by
    obtain⟨p,vs,e1,h,x,f⟩:=o;obtain⟨n,e,e2,i,u,d⟩:=s;refine#[p,n,vs,e,e1,e2,(ar _ _).seq ((ah c).seq h),(ar _ _).seq i,by rw[bE f,bE d];exact YF (de m),λl a=>?_];obtain⟨j,k⟩:=cO (xs:=vs++e) ((S.go g).go c) a;refine q _ _ (g.trans (c.trans j)) #[l,_,rfl,dW.of k,Nf.wk (b:=Á) (((S.go g).go c).iq a) k,wm ?_ ?_]
    .exact bM (λ_ _ z=>PyT.free (λ_ _ t=>aG.rt ((ah c).trans (ah j)) t) z) f
    .exact bM (λ_ _ z=>PyT.free (λ_ _ t=>aG.rt (ah j) t) z) d]]
end
end L2.EP
namespace L2
open PySem PySem.Spec PyProof.Rows
def RF(K : Ã)(a : Ç) : It :=
  #[λi H=>∃xs x,dW K H a xs/\xs[i]?=À x,
   λi H v H'=>∃T x,H T=none/\v=.ref T/\H'=upd H T (.tup [.int (i : Int),x])/\∀xs,dW K H a xs->xs[i]?=À x,
   λi H=>∃xs,dW K H a xs/\xs.length<=i]
def Dg{P:Ð}{w:Ú}{K:Ã}{elts:List Ô}{kk:Nat}{tp:ì}(z it a:Ç):Turn P w K (.Tuple elts kk tp) (RF K a) [z,it] z
  (λi h=>(∃old,IsEnum h z it ((i:Nat):Int) old)/\h.IsListIter it a i) where
 mem:=by simp
 obj:=λi h st c y=>by
  obtain⟨⟨old,hz⟩,h1⟩:=st;have d:c=z\/c=it:=by simpa using y
  rcases d with e|e
  .subst e;exact#[_,hz,λv q=>by cases q]
  .subst e;obtain⟨o,q1,q2,B⟩:=h1;exact#[o,q1,λv q=>by rw[B] at q;cases q]
 keep:=λi h h' st k=>by
  obtain⟨⟨old,hz⟩,h1⟩:=st;exact#[#[old,k z .c _ hz],h1.at λo e=>k it .c o e]
 item:=by
  intro X R T Γ y i Z2 s Y H E I g st D;subst R T Γ;obtain⟨xs,x,A,Z⟩:=D;obtain⟨⟨old,hz⟩,h1⟩:=st;obtain⟨ix,O,V,_⟩:=I.list A;have X':∀{s t:String},s≠t->ú s≠ú t:=λne e=>ne (by injection e)
  have j:z≠it:=by
   obtain⟨o1,C,b1,_⟩:=h1;exact dH hz C (by rw[b1];exact X' .a)
  obtain⟨u,ux,N⟩:=O.get Z;refine wpAny_pyNext_enum_item hz h1 V.isList ↑ux j λh' C a3 a5 a6 f=>?_;have α:H s.heap.objs.size=none:=I.hok.fresh (Xm _)
  have I1:Inv X Z2 Y (upd H s.heap.objs.size (.tup [.int (i:Int),x])) {s with heap:=h',toks:=s.toks+1}:=by
   refine I.Cu (ch:=[z,it]) (Xm _) (λc o d e=>f c o (λq=>d (by simp[q])) (λq=>d (by simp[q])) e) (λc o e=>?_) (λc d=>g c d) ?_
   .by_cases q1:c=z
    .subst q1;exact#[_,C]
    by_cases B:c=it
    .subst B;obtain⟨o',q,_⟩:=a3;exact#[o',q]
    exact#[o,f c o q1 B e]
   .exact#[by show 2<=sizeLine;decide,[.int i s.toks,u],.cons #[_,rfl] (.cons N .nil),#[_,a5,rfl,_,rfl]]
  refine#[_,rfl,?_];have p:=g z .c;refine wpAny_letOwnedTupleGo_enum C λL S l=>?_;have zT:z≠s.heap.objs.size:=XS (Xr hz);have I2:Inv X Z2 Y (upd H s.heap.objs.size (.tup [.int (i:Int),x])) {({s with heap:=h',toks:=s.toks+1}:Æ) with heap:=L,toks:=s.toks+1}:=I1.turned (λc o d e=>l.extBut c o d e) (by rw[aC zT];exact p.1) p.2.1 p.2.2.2.1 p.2.2.2.2.1 p.2.2.2.2.2;refine#[.ref s.heap.objs.size,upd H s.heap.objs.size (.tup [.int (i:Int),x]),I2,rfl,#[s.heap.objs.size,x,α,rfl,rfl,λxs' F=>?_],#[#[_,S],a3.extBut l.extBut (ZD j)],λc d=>?_]
  .rwa[I.nX F A]
  .have G:c<s.heap.objs.size:=by
    have J:c=z\/c=it:=by simpa using d
    rcases J with e|e
    .subst e;exact Xr hz
    .subst e;obtain⟨_,q,_⟩:=h1;exact Xr q
   rw[aC (XS G)];exact(g c d).1
 done:=by
  intro X R T Γ y i Z2 s Y H E I g st D;subst R T Γ;obtain⟨xs,A,σ⟩:=D;obtain⟨⟨old,hz⟩,h1⟩:=st;obtain⟨ix,O,V,_⟩:=I.list A;refine wpAny_pyNext_enum_end (I.ok.hd y) hz h1 V.isList ?_ λh' f=>#[rfl,?_]
  .have:=O.length;simp;lia
  .have f1:=g it .c
   refine I.step (g':=s.gens) (d':=s.drawn) (t':=s.toks) (ch:=[it]) (λb hb=>?_) (λb o _ _ d e _=>f b o (λq=>d (by simp[q])) e) (λb o _ _ d e _=>#[o.slots,f b o (λq=>d (by simp[q])) e]) (λ_ _ _ _ n=>n)
    (λb o d e=>#[o,f b o (λq=>d (by simp[q])) e]) (λ_ _ e=>e) (λ_ _ _ e=>e) (λb ps e=>#[#[],by rw[e];simp]) (λm hm=>?_) (λb u e=>?_) I.bare
   .have q:=g b (by simp at hb ⊢;simp[hb]);exact#[q.2.2.2.1,q.2.1,q.2.2.2.2.1,q.2.2.2.2.2]
   .obtain⟨o,es,ep,ho,r⟩:=hm;exact#[o,es,ep,f _ o (ZD f1.2.1) ho,r]
   .have nn:∀c v,H c=À v->c≠it:=λc v e q=>by rw[q,f1.1] at e;cases e
    refine(I.hok b u e).vW (λc v d q=>?_) (λ_ q=>q) λ_ _ q=>q;rcases d with Q|Q
    .subst Q;exact f c v (nn c _ e) q
    .exact f c v (nn c _ Q) q
 self:=λ_ _ _ _ _ st h=>by
  obtain⟨⟨old,hz⟩,_⟩:=st;exact Ϥ hz h
section
variable{X:Cx}{elts:List Ô}{kk:Nat}{tp:ì}
def P9(K:Ã)(ta:TA):TI:=λY H R=>ta Y H λvs H1=>∃a,vs=[.ref a]/\(∃xs,dW K H1 a xs)/\R (RF K a) H1
def JR{e1:Ô}{ta:TA}{p pos:ì}(j:Gl X "enumerate")(l:X.mg "enumerate"=none)(ha:PA X [e1] ta)(he:autoParam (Å [e1] X.env=(Â,Û e1 X.env)::Å [] X.env) zra)
  (hpl:autoParam ((è pos (Å [] X.env)).any (·.1)=Â) zra):PI X (.Tuple elts kk tp) (.Call (.Name "enumerate" p) [e1] [] pos) (P9 X.K ta):=by
 intro Z2 s Y H R I h;refine Call_ (hV I j l PyProof.Rows.boot_enumerate (YU (cj (ha pos Z2 s Y H _ I h) λus b ⟨vs,H1,f,m,q1⟩=>?_) he hpl));obtain⟨a,e,⟨xs,t⟩,q⟩:=q1;subst e;obtain⟨u,rfl,n⟩:=vals1 m;cases n;obtain⟨x,y,v,_⟩:=f.list t;refine call_enumerate_list v.isList λh' i k w r=>?_;have o:Inv X Z2 Y H1 {b with heap:=h',toks:=b.toks}:=f.kept r;refine Ϥ (s:={b with heap:=h'}) i ?_;refine#[b.heap.objs.size+1,[b.heap.objs.size+1,b.heap.objs.size],_,RF X.K a,H1,rfl,o,Dg (b.heap.objs.size+1) b.heap.objs.size a,#[#[_,i],k],λc g=>?_,q]
 have d:b.heap.objs.size<=c:=by
  simp at g;rcases g with e|e<;>subst e<;>lia
 exact f.A7 d (f.hok.fresh d)
end
end L2
namespace L2.EP
open PySem PySem.Spec PyProof.Rows
def D4{M:Type}(xs:List M):List (Int×M):=xs.mapIdx λi x=>((i:Int),x)
def Ca{M:Type}{xs:List M}{i:Nat}{u:Int×M}(h:(D4 xs)[i]?=À u):xs[i]?=À u.2/\u.1=(i:Int):=by
 unfold D4 at h;rw[Ś] at h;cases e:xs[i]? with
 |none=>rw[e] at h;cases h
 |some x=>rw[e] at h;cases h;exact#[rfl,rfl]
def wx{M:Type}(xs:List M):(D4 xs).length=xs.length:=by unfold D4;rw[List.length_mapIdx]
section
variable{X:Cx}{U:aI}{M β:Type}[Py M][Py β]{e1 e2:Ô}{b1 b2:Bool}{elts:List Ô}{kk:Nat}{tp p ps:ì}
def Cc{xs:List M}(l:Gl X "enumerate")(r:X.mg "enumerate"=none)(h1:E X U e1 b1 xs)(b:autoParam (Å [e1] X.env=(Â,Û e1 X.env)::Å [] X.env) zra)
  (hpl:autoParam ((è ps (Å [] X.env)).any (·.1)=Â) zra):EI X U (.Tuple elts kk tp) (.Call (.Name "enumerate" p) [e1] [] ps) b1 (D4 xs):=by
 stop
  exact#[_,JR l r (aB h1 a9 b) b hpl,λY H H0 F O R Z q=>#[H0,F,O,Z,λv H1 t s=>by
    obtain⟨a,d,B,h,I,j⟩:=s;refine#[a,by rw[B],#[d,(ar _ _).seq h],q _ H1 t λH' o e sm=>#[λi u y=>?_,?_]]
    .obtain⟨n,hi⟩:=Ca y;obtain⟨x,k,D⟩:=ig j n;have c:=(ar _ _).seq (sm.seq h);refine#[#[d,x,c,k],λJ C m=>?_];obtain⟨T,G,g,rfl,rfl,A⟩:=m;have ex:=A d c;rw[k] at ex;cases ex
     have f:¬o T:=λz=>by
      obtain⟨zs,w⟩:=e T z;rw[g] at w;cases w
     refine#[cf g _,T,.int (i:Int),x,rfl,.inl (by rw[aS f];exact aQ),?_,?_]
     .show V.int _=V.int _;rw[hi]
     .exact aw (sm.trans (ah (cf g _))) D
    .refine#[d,(ar _ _).seq (sm.seq h),?_];rw[bE j,wx]
     lia]]
end
theorem AF{M β:Type}{F:M->β->Prop}{l:List M}{m:List β}(h:Ý F l m):∀k,Ý F (È k l).flatten (È k m).flatten
 |0=>.nil
 |k+1=>by
  rw[YD,Zu,YD,Zu];exact wm h (AF h k)
section
variable{X:Cx}{U:aI}{D:GD}{M β γ:Type}[Py M][Py β][Py γ]{e e1 e2:Ô}{b b1 b2:Bool}{pos:ì}{rest st:List Ñ}
def OO{xs:List M}{k:Int}(ha:E X U e1 Á xs)(j:E X U e2 b2 k)(r:0<=k)(h1:k<=1000)(h:xs.length*k.toNat<=1000):E X U (.BinOp e1 .Mult e2 pos) Á (È k.toNat xs).flatten:=by
 stop
  exact aJ (yo Ht ha j) λY H Q ⟨H0,F,O,S,q⟩=>#[H0,F,O,S,λv H1 e i=>#[H0,F,O,S.go e,λw H2 c m=>by
    obtain⟨p,vs,e1,n,o,d⟩:=i;have h1:H2 p=À (.lst vs):=c _ _ ((ar _ _) _ _ o.2);refine#[p,k,vs,e1,m,h1,.b,.b,by rw[bE d];exact YF (de h),λl a=>?_];obtain⟨g,f⟩:=cO (xs:=(È k.toNat vs).flatten) ((S.go e).go c) a
    exact q _ _ (e.trans (c.trans g)) #[l,_,rfl,dW.of f,Nf.wk (b:=Á) (((S.go e).go c).iq a) f,AF (bM (λ_ _ z=>aw ((ah c).trans (ah g)) z) d) _]]]
theorem wz{a:M}:∀k,(È k [a]).flatten=È k a
 |0=>rfl
 |k+1=>by rw[YD,Zu,wz k,YD];rfl
def Hv{a:M}{k:Int}(ha:E X U e1 Á [a])(c:E X U e2 b2 k)(b:0<=k)(h1:k<=1000):E X U (.BinOp e1 .Mult e2 pos) Á (È k.toNat a):=by
 rw[<-wz];exact OO ha c b h1 (by simp;lia)
end
end L2.EP
namespace L2.Sx
open PySem
variable{i j n:Nat}{xs:Array Nat}{ns:List Int}{l:Bool}{h:ß}{k:Int}{f:Ä}{os:List Nat}
def C5(xs:Array Nat):Prop:=xs.toList.Pairwise (·<·)
def rJ(h:C5 xs){a b:Nat}(c:a<b)(d:b<xs.size):xs.getD a 0<xs.getD b 0:=by
 have h1:=abS.mp h a b ↑(ab6 c d) ↑d c;rw[Z0,Z0] at h1;simp only[Ĉ,aaR (ab6 c d),aaR d];exact h1
structure Lb(xs:Array Nat)(j i:Nat):Prop where
 le:i<=xs.size
 lo:∀k,k<i->xs.getD k 0<j
 hi:∀k,i<=k->k<xs.size->j<=xs.getD k 0
def GX{k d e:Nat}(h:k<xs.size):xs.getD k d=xs.getD k e:=by
 simp only[Ĉ,aaR h]
theorem F5{xs:Array Nat}{j:Nat}(h:C5 xs):∀(fuel lo hi:Nat),hi-lo<=fuel->lo<=hi->hi<=xs.size->(∀k,k<lo->xs.getD k 0<j)->(∀k,hi<=k->k<xs.size->j<=xs.getD k 0)->Lb xs j (Ğ xs j fuel lo hi)
 |0,lo,hi,h1,h2,i,f,g=>by
  unfold Ğ;exact#[.b,f,λk a b=>g k .b b]
 |fuel+1,lo,hi,h1,h2,i,f,g=>by
  unfold Ğ;by_cases d:lo<hi
  .rw[Xc d];dsimp only;have l:(lo+hi)/2<xs.size:=by lia
   rw[GX (e:=0) l];by_cases c:xs.getD ((lo+hi)/2) 0<j
   .rw[Xc c];refine F5 h fuel _ _ .b .b i (λk m=>?_) g;rcases aaM (Ο m) with z|z
    .exact ab6 (rJ h z l) c
    .rwa[z]
   .rw[W_ c];refine F5 h fuel _ _ .b .b .b f (λk a b=>?_);rcases aaM a with z|z
    .exact X8 (ab0 c) (YF (rJ h z b))
    .rw[<-z];exact ab0 c
  .rw[W_ d];exact#[.b,f,λk a b=>g k .b b]
def rW(c:C5 xs)(j:Nat):Lb xs j (Ø xs j) :=
 F5 c _ _ _ .b .b (Xm _) (λk h=>absurd h (Ze k)) (λk a b=>absurd b .b)
def Bf(a:C5 xs):Ø xs 0=0:=by
 have h:=rW a 0;rcases aaJ (Ø xs 0) with z|z
 .exact z
 .exact absurd (h.lo 0 z) (Ze _)
def zX(a:C5 xs)(hi:i<xs.size):Ø xs (xs.getD i 0+1)=i+1:=by
 have h:=rW a (xs.getD i 0+1);rcases Nat.lt_trichotomy (Ø xs (xs.getD i 0+1)) (i+1) with z|z|z
 .have:=h.hi i .e hi;omega
 .exact z
 .have h1:=h.lo (i+1) z;have h2:=rJ a (show i<i+1 by omega) (XR z h.le);omega
def DD(n:Nat):C5 (Array.range n):=by
 unfold C5;rw[Array.toList_range];exact acw
def Kq(g:C5 xs)(o:xs[Ø xs j]?≠À j):C5 (SetTable.insertAt xs (Ø xs j) j):=by
 have h:=rW g j;unfold C5;rw[SetTable.toList_insertAt];refine List.pairwise_append.mpr #[acz (ſ ..) g,YV.mpr #[λy l=>?_,acz (List.drop_sublist ..) g],λa ha y l=>?_]
 .obtain⟨k,i,e⟩:=Z4.mp l;rw[Α,Z0] at e;rw[Z9,XJ] at i;have c:Ø xs j+k<xs.size:=by lia
  have h1:=h.hi (Ø xs j+k) .b c;simp only[Ĉ,aaR c] at h1;rcases aaJ k with z|z
  .subst z;have h2:xs[Ø xs j]?=À xs[Ø xs j]:=YL .b;rcases aaM h1 with q|q
   .rwa[<-e]
   .refine absurd ?_ o;rw[h2];exact congrArg À ↑q.symm
  .have h2:=rJ g (a:=Ø xs j) (b:=Ø xs j+k) .b c;have n:=h.hi (Ø xs j) (Xm _) .b;simp only[Ĉ,aaR c] at h2;rw[<-e];exact aai n h2
 .obtain⟨k,i,e⟩:=Z4.mp ha;rw[List.getElem_take,Z0] at e;rw[Y8,XJ] at i;have h1:=h.lo k .b;simp only[Ĉ,aaR (show k<xs.size by lia)] at h1;have f:a<j:=by rwa[<-e]
  rcases Xa.mp l with z|z
  .rwa[z]
  .obtain⟨m,p,e2⟩:=Z4.mp z;rw[Α,Z0] at e2;rw[Z9,XJ] at p;have d:Ø xs j+m<xs.size:=by lia
   have h2:=h.hi (Ø xs j+m) .b d;simp only[Ĉ,aaR d] at h2;rw[<-e2];exact XR f h2
def rf(t:î)(j:Nat):Prop:=t.place[Ø t.place j]?≠À j
def y8{t:î}(h:t.slot j=.empty\/t.slot j=.dummy):rf t j:=λe=>by
 unfold SetTable.slot at h;simp only[e,aaz,aat] at h;rcases h with h|h<;>cases h
def vD(t:î)(p:Ū):(t.advance p).dummy=p.dummy:=by
 unfold SetTable.advance;split<;>rfl
theorem oZ{t:î}{f:Nat->Int}{h:Int}:∀(n:Nat) (p:Ū),(∀d,p.dummy=À d->rf t d)->∀j d,ĝ t f h n p=À (.empty j d)->rf t (d.getD j)
 |0,p,_,j,d,e=>by simp[ĝ] at e
 |n+1,p,hp,j,d,e=>by
  unfold ĝ at e;cases b:t.slot p.j with
  |empty =>
   rw[b] at e;simp only[aaq,Κ] at e;obtain⟨rfl,rfl⟩:=e;cases c:p.dummy with
   |none=>exact y8 (.inl b)
   |some d=>exact hp d c
  |dummy =>
   rw[b] at e;refine oZ n _ (λd' a=>?_) j d e;rw[vD] at a;simp only[aaq] at a;rw[<-a];exact y8 (.inr b)
  |live i =>
   rw[b] at e;simp only at e;split at e
   .simp at e
   .exact oZ n _ (λd' a=>hp d' (by rwa[vD] at a)) j d e
def Gz{t:î}{h:Int}{b:Bool}(e:t.freeSlot h=À (j,b)):rf t j:=by
 unfold SetTable.freeSlot at e;split at e
 .rename_i f d c;have:=oZ (t:=t) _ _ (λd a=>by simp[SetTable.probeStart] at a) _ _ c;simp only[aaq,acF] at e;rw[<-e.1];exact this
 .cases e
structure Gd(l:Bool)(t:î):Prop where
 led:t.led=l
 inc:C5 t.place
def Fq(l:Bool):Gd l (.fresh 0 0 l):=#[rfl,by unfold C5 SetTable.fresh;exact .nil]
def og{t:î}(h:Gd l t)(n:Nat):Gd l (t.standIn n):=#[h.led,DD n]
def M4{t:î}(h:Gd l t)(es:Array (Int×Ä))(a:Int)(x:Ä):Gd l (layNew t es a x).2.1:=by
 unfold layNew;split
 .rename_i j b e;have c:=Gz e;have g:Gd l (t.put j).1:=#[h.led,Kq h.inc c];show Gd l ((t.put j).1.orStandIn _);unfold SetTable.orStandIn;split
  .exact g
  .exact og g _
 .exact og h _
def JY{mask n mo:Nat}{pl:Bool}{i:Array Int}{t:î}{o:Array Nat}(e:Ż mask n mo l pl i=À (t,o)):Gd l t:=by
 unfold Ż at e;cases k:SetTable.layClean mask i with
 |none=>rw[k] at e;cases e
 |some h =>
  rw[k] at e;simp only[Option.bind_eq_bind,Option.bind_some,Option.pure_def,aaq,acF] at e;rw[<-e.1];refine#[rfl,?_];unfold C5;simp only;rw[List.map_filterMap]
  have:∀l:List Nat,l.Pairwise (·<·)->(l.filterMap λj=>ϭ (·.1) ((h.getD j none).map λx=>(j,x))).Pairwise (·<·):=λl m=>by
   refine List.Pairwise.filterMap _ (λa a' g b f b' c=>?_) m;cases ha:h.getD a none with
   |none=>rw[ha] at f;simp at f
   |some u =>
    rw[ha] at f;cases d:h.getD a' none with
    |none=>rw[d] at c;simp at c
    |some p =>
     rw[d] at c;simp only[Ž,aaq] at f c;rwa[<-f,<-c]
  exact this _ acw
def G7{t:î}(h:Gd l t)(es:Array (Int×Ä))(n:Nat):Gd l (Ĺ t es n).2.1:=by
 unfold Ĺ;split
 .rename_i t' o e;dsimp only;split
  .unfold SetTable.relaid at e;rw[h.led] at e;exact JY e
  .exact og h _
 .exact og h _
open PySem PyProof.Rows
structure j5(p:Ð)(w:Ú)(l:Bool)(h:ß)(a:Ç)(o:û)(es:Array (Int×Ä))(ep:Nat)(t:î):Prop where
 get:h.get? a=À o
 ex:o.ExactSet
 dat:o.data=.set es ep t
 el:ElemsOf (Ą p w) es.toList
 bd:es.size<Ģ
 fit:t.fits es.size=Á
 gd:Gd l t
def oQ(p:Ð)(w:Ú)(l:Bool)(h:ß)(a:Ç)(ns:List Int):Prop :=
 ∃o es ep t,j5 p w l h a o es ep t/\(∀k,k∈ns↔∃e∈es.toList,(Ą p w).is k e.2=Á)/\es.size=ns.length
def oQ.keep{p:Ð}{w:Ú}{h':ß}{a:Ç}(q:oQ p w l h a ns)(k:∀o,h.get? a=À o->h'.get? a=À o):oQ p w l h' a ns:=by
 obtain⟨o,es,ep,t,g,m,z⟩:=q;exact#[o,es,ep,t,#[k o g.get,g.ex,g.dat,g.el,g.bd,g.fit,g.gd],m,z]
noncomputable def ins(ns:List Int)(k:Int):List Int:=if k∈ns then ns else ns++[k]
section
variable{p:Ð}{w:Ú}{A:à}{E:Ä->Æ->Prop}{s:Æ}{l:Bool}{a:Ç}
def zB{o:û}{es:Array (Int×Ä)}{ep:Nat}{t:î}(g:j5 p w l h a o es ep t){b:Array (Int×Ä)}{t':î}(he:ElemsOf (Ą p w) b.toList)(e:b.size<Ģ)(c:t'.fits b.size=Á)(d:Gd l t'):
  j5 p w l (h.update a (ž b t')) a {o with data:=.set b (ep+1) t'} b (ep+1) t':=by
 refine#[?_,g.ex,rfl,he,e,c,d];have q:=Y6 (ž b t') g.get (by rw[putSet_of b t' g.dat];rfl)
 rwa [putSet_of b t' g.dat] at q
def add_int{u:Ϝ}{Q:Bool->Æ->Prop}(hS:oQ p w l s.heap a ns)(hr:ns.length+1<Ģ)(h:∀b h',Č a s.heap h'->oQ p w l h' a (ins ns k)->Q b {s with heap:=h'}):
  Í (Î p w) A (setAddHashed a (.int k u) ((Ą p w).hash k)) Q E s:=by
 obtain⟨o,es,ep,t,g,F,hz⟩:=hS;have H:(Ą p w).is k (.int k u)=Á:=intKind_is _ _ _ _;have y:(ă k u).scannable=Á:=rfl;have K:byScan (.int k u) es=Á:=byScan_of y g.bd g.el;unfold setAddHashed setAddHashedIn;refine YZ (W9 (ZV g.get g.dat g.fit ?_));dsimp only;rw[Xc K];unfold setAddByScan;refine W9 (W9 (ŋ (W9 (wpAny_setScan_of H g.get g.dat g.fit g.el ?_))));cases S:es.toList.findIdx? (λe=>(Ą p w).is k e.2) with
 |some j =>
  obtain⟨Z,hp,_⟩:=List.findIdx?_eq_some_iff_getElem.mp S;have P:k∈ns:=(F k).mpr #[_,YY Z,hp];refine Xd (Xd (h Â s.heap (Heap.SameBut.refl a s.heap) ?_));unfold ins;rw[Xc P];exact#[o,es,ep,t,g,F,hz]
 |none =>
  have B:k∉ns:=λz=>by
   obtain⟨e,he,hp⟩:=(F k).mp z;have q:=List.findIdx?_eq_none_iff.mp S e he;rw[hp] at q;cases q
  have Γ:∀(b:Bool) (α:Æ) (R:Unit->Æ->Prop),R () α->Í (Î p w) A (match b with|true=>rule "set.scan.the-table-gave-way" |false=>pure ()) R E α:=λb α R q=>by
   cases b with
   |true=>exact ŋ q
   |false=>exact Xd q
  have i:=layNew_perm t es ((Ą p w).hash k) (.int k u);have G:=layNew_fits t es ((Ą p w).hash k) (.int k u);have J:=M4 g.gd es ((Ą p w).hash k) (.int k u);generalize layNew t es ((Ą p w).hash k) (.int k u)=L at i G J ⊢;obtain⟨c,O,wd,gv⟩:=L;dsimp only at i G J ⊢;rw[abI] at i
  have sz:c.size=es.size+1:=by
   rw[<-XJ,i.length_eq,XD,XJ];rfl
  have D:ElemsOf (Ą p w) c.toList:=(g.el.push H y).perm i
  have m:∀k',k'∈ns++[k]↔∃e∈c.toList,(Ą p w).is k' e.2=Á:=λk'=>by
   rw[X2,F k',Xv];constructor
   .rintro(⟨e,he,q⟩|rfl)
    .exact#[e,i.mem_iff.mpr (X0 _ he),q]
    .exact#[_,i.mem_iff.mpr (XG _ (Xv.mpr rfl)),H]
   .rintro⟨e,he,q⟩;rcases X2.mp (i.mem_iff.mp he) with z|z
    .exact .inl #[e,z,q]
    .rw[Xv.mp z] at q;exact .inr ((Ą p w).inj _ k' k q H)
  have n:ins ns k=ns++[k]:=by unfold ins;rw[W_ B]
  refine W9 (Γ _ _ _ ?_)
  have tail:∀d:î,d.fits c.size=Á->Gd l d->Í (Î p w) A (do
    storeSet a c d
    if (!wd&&d.tooFull)=Á then do
      (match (Ĺ d c (Ā c.size)).2.2 with|true=>rule "set.scan.the-table-gave-way" |false=>pure ())
      storeSet a (Ĺ d c (Ā c.size)).1 (Ĺ d c (Ā c.size)).2.1
      pure (À Á)
     else pure (À Á)) (λr s'=>Í (Î p w) A (match r with|some b=>pure b|none=>setAddHashedIn a (.int k u) ((Ą p w).hash k) 99999) Q E s') E s:=λd f2 W=>by
   have I:=zB g D .b f2 W;have V:=X4 s.heap a (ž c d);refine W9 (Ϣ g.get g.dat ?_ (aaW .b));by_cases T:(!wd&&d.tooFull)=Á
   .rw[Xc T];have f:=relayAll_perm d c (Ā c.size);have v:=relayAll_fits d c (Ā c.size);have x:=G7 W c (Ā c.size);generalize Ĺ d c (Ā c.size)=R at f v x ⊢;obtain⟨C,σ,gv2⟩:=R;dsimp only at f v x ⊢;have N:C.size=c.size:=by rw[<-XJ,f.length_eq,XJ]
    have X:=zB I (D.perm f) .b v x;refine W9 (Γ _ _ _ (W9 (Ϣ I.get I.dat ?_ (aaW .b))));refine Xd (Xd (h Á _ (V.trans (X4 _ a _)) ?_));rw[n];refine#[_,C,_,σ,X,λk'=>(m k').trans #[fun⟨e,he,q⟩=>#[e,f.mem_iff.mpr he,q],fun⟨e,he,q⟩=>#[e,f.mem_iff.mp he,q]],?_];rw[XD,N,sz,hz];rfl
   .rw[W_ T];refine Xd (Xd (h Á _ V ?_));rw[n];refine#[_,c,_,d,I,m,?_];rw[XD,sz,hz];rfl
  cases hp:O.plain with
  |true =>
   rw[Xc rfl,hashByValue_scannable 8 y];exact W9 (Xd (tail O G J))
  |false =>
   exact W9 (Xd (tail O G J))
end
open PySem PyProof.Rows PySem.Spec
def met(f:Nat->Int)(i:Nat):List Int:=((Ò i).map f).foldl ins []
def mU(f:Nat->Int)(i:Nat):met f (i+1)=ins (met f i) (f i):=by
 unfold met;rw[aci,Y3,abG];rfl
theorem rh(f:Nat->Int):∀i,(met f i).length<=i
 |0=>Xm _
 |i+1=>by
  have z:=rh f i;rw[mU];unfold ins;split
  .lia
  .rw[XD];simp;lia
section
variable{p:Ð}{w:Ú}{A:à}{E:Ä->Æ->Prop}{s:Æ}{l:Bool}
def Hw{R:ż->Æ->Prop}{I S:Ç}{fp wr:List Ç}{G:Array χ->Array χ->Prop}{P:Nat->Ä->Prop}{St:Nat->Æ->Prop}(W:WalksS p w A.in1 I fp wr G n P St)(u:S∉fp)(f:Nat->Int)(y:∀i v,P i v->∃t,v=.int (f i) t)(F:n+1<Ģ):
  ∀(k i:Nat) (s:Æ),i+k=n->St i s->oQ p w l s.heap S (met f i)->(∀s',Moved (S::wr) G s s'->oQ p w l s'.heap S (met f n)->R (.ok (.ret .none)) s') ->
   Ē (Î p w) A (.builtin "set.update.loop" #[[.ref S,.ref I],[]]) R s:=by
 have x:S∉wr:=λz=>u (W.sub _ z);have up:∀b∈wr,b∈S::wr:=λb z=>Xj _ z;intro k
 induction k with
 |zero =>
  intro i s E st g fin;obtain rfl:i=n:=by lia
  refine aak aaN ?_;rw[Z5 ZM _];show Í _ A.in1 (Ď (.ref I) >>= _) _ _ s;exact W9 (W.done s _ _ st λs' a=>Xd (fin s' (a.mono up) (g.keep λo e=>a.heap S o x e)))
 |succ k C =>
  intro i s E st g fin;refine aak aaN ?_;rw[Z5 ZM _];show Í _ A.in1 (Ď (.ref I) >>= _) _ _ s;refine W9 (W.item i s _ _ .b st λv s' D h a=>?_);obtain⟨t,rfl⟩:=y i v D;have g':=g.keep (h':=s'.heap) λo e=>a.heap S o x e;show Í _ A.in1 (Ĥ [ă (f i) t] (setAdd S (.int (f i) t)) >>= _) _ _ s';unfold setAdd;refine W9 (YZ (YZ (W9 ((Ą p w).pyHash (k:=f i) (intKind_is _ _ _ _) ?_))));have room:(met f i).length+1<Ģ:=by have:=rh f i;lia
  refine add_int (s:={s' with toks:=s'.toks+1}) g' room λb h' q r=>?_;rw[<-mU] at r;refine Xd #[aa3 ZM _,C (i+1) _ .b (W.frame _ s' _ _ h (Z6 _) λc d o e=>?_) r λm j B=>fin m (Moved.trans W.gtrans ((a.mono up).then_heap (Z6 _) λc o d e=>?_) j) B]
  .rwa[q.2 c λz=>u (z▸d)]
  .rwa[q.2 c λz=>d (z▸Xo)]
abbrev tF(w:Ú):Bool:=!w.params.followText "set-order"
abbrev eS(w:Ú):û:={cls:=.type "set",dict:=none,data:=.set #[] 0 (.fresh 0 0 (tF w))}
def IW(a:Ä){R:Ä->Æ->Prop}(h:R (.ref s.heap.objs.size) {s with heap:=s.heap.push (eS w)}):Ē (Î p w) A (.call (.builtin "set.__new__") #[[.type "set",a],[]]) (wants R E) s:=by
 refine codeAny_of_tree (show Í _ A.in1 (checkBuiltinCall "set.__new__" #[[.type "set",a],[]] >>= λ_=>Ő (.builtin "set.__new__" #[[.type "set",a],[]])) _ _ s from ?_);refine W9 (Ω (PySem.F.newCall_set_1 a) (Xd #[aa3 acA _,aak PySem.F.entry_set_new ?_]));rw[Z5 acA _];unfold č.«set.__new__» ϋ;have sub:=sub_set_self;obtain⟨hp,g,d,tk,os⟩:=s;dsimp only
 wp_walk
 refine ab7 (Xd ?_);simp only[newObj];exact W9 (wpAny_alloc (Xd (Xd h)))
def Ju{a:Ç}(e:h.get? a=À (eS w)):oQ p w (tF w) h a [] :=
 #[_,#[],0,_,#[e,#[rfl,rfl,rfl],rfl,(λx b=>by simp at b),.a,rfl,Fq _],(λk=>by simp),rfl]
def Fd{l:Ç}{items:Array Ä}(G:A.handled=none)(z:s.heap.IsList l items)(hi:í items.toList ns)(C:items.size+1<Ģ){R:ż->Æ->Prop}
  (h:∀h' tk,oQ p w (tF w) h' s.heap.objs.size (met (λi=>ns.getD i 0) items.size)->(∀b o,s.heap.get? b=À o->h'.get? b=À o)->R (.ok (.ret .none)) {s with heap:=h',toks:=tk}):
  Í (Î p w) A.in1 (č.«set.__init__» #[[.ref s.heap.objs.size,.ref l],[]]) (λfin s'=>match fin with|.done f=>R (.ok f) s'|.again c'=>c'.quiet=Á/\Ē (Î p w) A c' R s') (λe s'=>R (.error e) s') {s with heap:=s.heap.push (eS w)}:=by
 obtain⟨ol,d,q,nl,r⟩:=z;obtain⟨x,c,u,a⟩:=ol;simp only at q r;subst q r;have H:(s.heap.push (eS w)).get? s.heap.objs.size=À (eS w):=Xz _ rfl;have n:(s.heap.push (eS w)).get? l=À {cls:=.type "list",dict:=c,data:=.seq items nl,slots:=a}:=Xi _ d;have q1:=PySem.F.sub_list_set;have I:=PySem.F.sub_list_frozenset;have J:(ú "list"==ú "dict")=Â:=by decide
 have m:(s.heap.push (eS w)).IsList l items:=#[_,n,rfl,nl,rfl];have j:l<s.heap.objs.size:=Xr d;have sz:(s.heap.push (eS w)).objs.size=s.heap.objs.size+1:=Zl ..;unfold č.«set.__init__» noKeywords ψ;generalize hp:ı=K
 wp_walk
 subst hp;refine abE m (W9 (wpAny_runValue ?_));have D:l≠(s.heap.push (eS w)).objs.size:=by rw[sz];exact XS (YN j)
 have y:s.heap.objs.size∉[(s.heap.push (eS w)).objs.size,l]:=by
  rw[sz];simp only[Xa,Xe,XA,ab4];exact#[XS (Zj _),abX j]
 refine Hw (A:=A.in1) (l:=tF w) ((Walks.list (by simp[G]) _ l D items).toS) y (λi=>ns.getD i 0) (λi v B=>IntsAre.int_at hi i v (by rwa[Zo])) C items.size 0 _ .b #[#[_,Xz _ rfl,rfl,rfl],m.push _] (Ju (Xi _ H)) λs' t g=>?_;obtain⟨h',E,dr,tk,os⟩:=s';obtain rfl:E=s.gens:=t.gens;obtain rfl:dr=s.drawn:=t.drawn;obtain rfl:os=s.os:=t.os;refine Xd (Xd (h h' tk g λb o e=>?_));have k:=Xr e;refine t.heap b o ?_ (Xi _ (Xi _ e));rw[sz];simp only[Xa,Xe,XA,ab4];exact#[XS k,XS (YN k)]
def Hu{l:Ç}{items:Array Ä}{Q:Ä->Æ->Prop}(t:A.handled=none)(m:s.heap.IsList l items)(hi:í items.toList ns)(q:items.size+1<Ģ)
  (h:∀h' tk,oQ p w (tF w) h' s.heap.objs.size (met (λi=>ns.getD i 0) items.size)->(∀b o,s.heap.get? b=À o->h'.get? b=À o)->Q (.ref s.heap.objs.size) {s with heap:=h',toks:=tk}):
  Í (Î p w) A (call (.type "set") [.ref l]) Q E s:=by
 obtain⟨c,tl,m1⟩:=Y_.mro;have m2:=Y_.made;have m3:=Y_.sub;have m4:=Y_.notType;have m5:=Y_.canCreate;have B:=PySem.F.typeCall_set_1 (.ref l);refine wpAny_call (codeAny_of_tree (show Í _ _ (callAny (.type "set") _) _ _ _ from Xd #[Code.quiet_builtin _ .d,aak PySem.F.entry_type_call ?_]));rw[Around.under_plain (weight_type_call_type "set" [.ref l] []) rfl]
 repeat any_goals first|assumption|wp_step
 refine Ϸ (IW (.ref l) (E:=E) (R:=λv j=>v=.ref s.heap.objs.size/\j={s with heap:=s.heap.push (eS w)}) #[rfl,rfl]) λr j d=>?_;cases r with
 |error e=>exact d
 |ok n =>
  cases n with
  |ret v =>
   obtain⟨rfl,rfl⟩:=d;have y:Shared.TypeIs {s with heap:=s.heap.push (eS w)} (.ref s.heap.objs.size) "set":=#[_,Xz _ rfl,rfl];have C:=Y_.init.lookup;have z:=Y_.init.bind (.ref s.heap.objs.size)
   repeat any_goals first|assumption|wp_step
   refine Ϸ (ξ (R:=wants (λr f=>r=.none/\∃h' tk,f={s with heap:=h',toks:=tk}/\oQ p w (tF w) h' s.heap.objs.size (met (λi=>ns.getD i 0) items.size)/\∀b o,s.heap.get? b=À o->h'.get? b=À o) E) Y_.init.plain PySem.F.entry_set_init (check_set_init_1 y (Fd (by simp[t]) m hi q λh' tk g k=>#[rfl,h',tk,rfl,g,k]))) λu f a=>?_;cases u with
   |error e=>exact a
   |ok x =>
    cases x with
    |ret r =>
     obtain⟨rfl,h',tk,rfl,g,k⟩:=a
     repeat any_goals first|assumption|wp_step
     exact h _ _ g k
    |_=>exact a.elim
  |_=>exact d.elim
variable{S:Ç}{o:û}{es:Array (Int×Ä)}{ep:Nat}{t:î}
noncomputable def sl(t:î):Nat->Nat
 |0=>0
 |i+1=>t.place.getD i 0+1
def rP{Q:Bool->Æ->Prop}(h:Q (w.params.followText "set-order") s):Í (Î p w) A setsByText Q E s:=by
 unfold setsByText;exact W9 (ab7 (Xd h))
def Bo(g:j5 p w (tF w) s.heap S o es ep t)(c:w.params.followText "set-order"=Â)(d:t.plain=Á\/es.size<=1)(hi:i<=es.size){Q:Option (Ä×Nat)->Æ->Prop}(h:Q (es[i]?.map λe=>(e.2,sl t (i+1))) s):
  Í (Î p w) A (ĸ S (sl t i) i ep) Q E s:=by
 unfold ĸ;refine W9 (ZV g.get g.dat g.fit (W9 (rP ?_)));rw[c]
 have dr:(!t.plain&&decide (es.size>1))=Â:=by
  rcases d with z|z
  .rw[z];rfl
  .rw[XH .b];simp
 refine Yt (λq=>absurd q Xx) λ_=>?_;refine Yt (λq=>absurd (show(!t.plain&&decide (es.size>1))=Á from q) (by rw[dr];exact Xx)) λ_=>?_;have ld:t.led=Á:=by rw[g.gd.led];show(!w.params.followText "set-order")=Á;rw[c];rfl
 refine W9 (show Í _ _ (if (!t.led&&!es.isEmpty)=Á then unsupported "set:maker-not-led" else pure ()) _ _ _ from ?_);rw[W_ (by rw[ld];simp)];refine Xd ?_;have sz:t.place.size=es.size:=by have f:=g.fit;simp only[SetTable.fits,XW,aaQ] at f;exact f.1
 have b:Ø t.place (sl t i)=i:=by
  cases i with
  |zero=>exact Bf g.gd.inc
  |succ i=>exact zX g.gd.inc .b
 dsimp only;rw[b];refine Xd ?_;by_cases a:i<es.size
 .have h1:es[i]?=À es[i]:=YL a
  have h2:t.place[i]?=À (t.place.getD i 0):=by
   rw[YL .b];simp only[Ĉ,aaR (show i<t.place.size by lia)];rfl
  rw[h1,h2];rwa[h1] at h
 .have h1:es[i]?=none:=aa1 .b;rw[h1];rwa[h1] at h
def DT(g:j5 p w (tF w) s.heap S o es ep t)(a:w.params.followText "set-order"=Á){Q:Option (Ä×Nat)->Æ->Prop}(h:Q ((ī (w.params.setOrder S ep) es)[i]?.map λe=>(e.2,j)) s):
  Í (Î p w) A (ĸ S j i ep) Q E s:=by
 unfold ĸ;refine W9 (ZV g.get g.dat g.fit (W9 (rP ?_)));rw[a];refine Yt (λ_=>?_) λq=>absurd rfl q;refine Yt (λq=>absurd q .c) λ_=>?_;unfold setWalk;refine W9 (W9 (ZV g.get g.dat g.fit (W9 (rP ?_))));rw[a];refine Yt (λ_=>?_) λq=>absurd rfl q;exact W9 (ab7 (Xd (Xd h)))
end
def fh:Slot "set_iterator" "__next__" "set_iterator.__next__" :=
 .of (owner:="set_iterator") (n:="__next__") (by rw[typeLookup_type,Ι];kernel_rfl) .d .d .d
  (by first|exact .inr .d|exact .inl .d) (by rw[Ŏ];kernel_rfl)
def nG:entryFor table "set_iterator.__next__"=À č.«set_iterator.__next__»:=entryFor_of_tree (by kernel_rfl)
def Hh:Manifest.owners.lookup (String.ofList ['r','o','t','a','r','e','t','i','_','t','e','s'].reverse)=À Manifest.sig_set_iterator:=by kernel_rfl
def rD(a:Ä):argsOk "set_iterator.__next__" #[[a],[]]:=by
 unfold argsOk;rw[signature?_of (id:="set_iterator.__next__") (n:=['_','_','t','x','e','n','_','_']) (o:=['r','o','t','a','r','e','t','i','_','t','e','s']) (by kernel_rfl) Hh];kernel_rfl
def xY:Slot "set_iterator" "__iter__" "set_iterator.__iter__" :=
 .of (owner:="set_iterator") (n:="__iter__") (by rw[typeLookup_type,Ι];kernel_rfl) .d .d .d
  (by first|exact .inr .d|exact .inl .d) (by rw[Ŏ];kernel_rfl)
def C_:entryFor table "set_iterator.__iter__"=À č.«dict_keyiterator.__iter__»:=entryFor_alias (id':="dict_keyiterator.__iter__") (by kernel_rfl) rfl .d (by kernel_rfl)
def FA(a:Ä):argsOk "set_iterator.__iter__" #[[a],[]]:=by unfold argsOk;kernel_rfl
def GF:entryFor table "set.__iter__"=À č.«frozenset.__iter__»:=entryFor_alias (id':="frozenset.__iter__") (by kernel_rfl) rfl .d (by kernel_rfl)
def md(h:ß)(I:Ç)(f:Ä)(i:Nat)(S:Ç)(n ep:Nat):Prop:=∃o,h.get? I=À o/\o.cls=.type "set_iterator"/\o.data=.fields (â [f,.int i 0,.ref S,.int n 0,.int ep 0])
section
variable{p:Ð}{w:Ú}{A:à}{E:Ä->Æ->Prop}{s:Æ}{I S:Ç}{o:û}{es:Array (Int×Ä)}{ep:Nat}{t:î}
def md.ty(q:md s.heap I f i S n ep):s.TypeIs (.ref I) "set_iterator":=let #[x,a,b,_]:=q;#[x,a,b]
def BG{Q:Ä->Æ->Prop}(q:md s.heap I f i S n ep)(h:Q (.ref I) s):Í (Î p w) A (ı (.ref I)) Q E s:=by
 refine abJ q.ty xY (YH xY q.ty C_ (show Í _ _ (ret (.ref I)) _ _ s from ?_) (FA _));exact Xd #[_,rfl,"set_iterator",_,q.ty,fh.lookup,h]
def md.put{x:Ä}(q:md h I f i S n ep):md (h.update I (ć (·.setIfInBounds 0 x))) I x i S n ep/\∀j:Nat,md (h.update I (ć (·.setIfInBounds 1 (ü j)))) I f j S n ep:=by
 obtain⟨a,b,c,d⟩:=q;refine#[#[_,Y6 _ b (aa9 (ZN d _)),(abK ..).trans c,?_],λj=>#[_,Y6 _ b (aa9 (ZN d _)),(abK ..).trans c,?_]]
 .rw[ZN d];simp
 .rw[ZN d];simp[ü]
def JU{u:Nat}{x:Ä}{nx:Nat}(q:md s.heap I (.int u 0) i S es.size ep)(g:j5 p w (tF w) s.heap S o es ep t){Q:Option Ä->Æ->Prop}
  (c:∀(A:à) (E:Ä->Æ->Prop) (R:Option (Ä×Nat)->Æ->Prop),R (À (x,nx)) s->Í (Î p w) A (ĸ S u i ep) R E s)
  (h:∀h',md h' I (.int nx 0) (i+1) S es.size ep->Č I s.heap h'->Q (À x) {s with heap:=h'}):Í (Î p w) A (Ď (.ref I)) Q E s:=by
 obtain⟨j,a,k,b⟩:=id q;unfold Ď;refine W9 (ϸ (YW (name:=ñ "__next__") q.ty fh (YH fh q.ty nG ?_ (rD _))));unfold č.«set_iterator.__next__»;refine W9 (Xd (W9 (ZG a b ?_)));dsimp only;refine W9 (aac g.get g.dat g.fit ?_);refine Yt (λz=>absurd z .c) λ_=>?_;dsimp only[Õ];refine W9 (c _ _ _ ?_);dsimp only;have q1:=(q.put (x:=ü nx)).1;obtain⟨f,d,l,e⟩:=id q1;refine W9 (ZH a b .c (W9 (ZH d e .c (Xd #[x,rfl,Xd (h _ ?_ ((X4 ..).trans (X4 ..)))]))));exact(q1.put (x:=.none)).2 (i+1)
def vp{Q:Option Ä->Æ->Prop}(c:A.handled=none)(h:∀h',(∀b o,s.heap.get? b=À o->h'.get? b=À o)->Q none {s with heap:=h'}):
  Í (Î p w) A.in1 (newExc (.type "StopIteration") [] >>= λx=>raiseNew (α:=Fin) x) (λfin s'=>∃v,fin=Fin.done (Flow.ret v)/\Í (Î p w) A (pure (À v)) Q E s')
   (λe s'=>Í (Î p w) A (isInstance e (ú "StopIteration") >>= λb=>if b=Á then pure none else throw e) Q E s') s:=by
 refine W9 ?_;simp only[newExc,newTuple];refine W9 (Yx ?_ (by size_fits));refine W9 (m:=Ī _ _) (Ω (a:=ò) (by first|(simp only[Ī];rfl)|rfl) ?_);refine Yx ?_ (by size_fits);simp only[raiseNew];refine W9 (wpAny_handled ?_);rw[show A.in1.handled=none from c];refine W9 (Xd (wpAny_throw ?_));refine W9 (ab8 (T:="StopIteration") (b:=Á) #[_,Xz _ rfl,rfl] isSubtype_stop (Xd (h _ λb o e=>?_)));exact Xi _ (Xi _ e)
def NY{u:Nat}(d:A.handled=none)(q:md s.heap I (.int u 0) i S es.size ep)(g:j5 p w (tF w) s.heap S o es ep t){Q:Option Ä->Æ->Prop}
  (f:∀(A:à) (E:Ä->Æ->Prop) (R:Option (Ä×Nat)->Æ->Prop),R none s->Í (Î p w) A (ĸ S u i ep) R E s)
  (h:∀h',(∀b o,b≠I->s.heap.get? b=À o->h'.get? b=À o)->Q none {s with heap:=h'}):Í (Î p w) A (Ď (.ref I)) Q E s:=by
 obtain⟨l,a,m,c⟩:=id q;unfold Ď;refine W9 (ϸ (YW (name:=ñ "__next__") q.ty fh (YH fh q.ty nG ?_ (rD _))));unfold č.«set_iterator.__next__»;refine W9 (Xd (W9 (ZG a c ?_)));dsimp only;refine W9 (aac g.get g.dat g.fit ?_);refine Yt (λz=>absurd z .c) λ_=>?_;dsimp only[Õ];refine W9 (f _ _ _ ?_);dsimp only;refine W9 (ZH a c .c ?_);refine vp (s:={s with heap:=s.heap.update I (ć (·.setIfInBounds 2 ò))}) d λh' k=>h h' λb o j e=>k b o ?_;rwa[(X4 s.heap I _).2 b j]
def sX{vs:List Ä}{f:Nat->Nat}(B:A.handled=none)(m:S≠I)(C:vs.length=es.size)
  (y:∀(s:Æ) (i:Nat) (A:à) (E:Ä->Æ->Prop) (R:Option (Ä×Nat)->Æ->Prop),i<=es.size->j5 p w (tF w) s.heap S o es ep t->R (vs[i]?.map λv=>(v,f (i+1))) s->Í (Î p w) A (ĸ S (f i) i ep) R E s):
  Walks p w A I [I,S] [I] vs.length (λi v=>vs[i]?=À v) (λi h=>i<=vs.length/\md h I (.int (f i) 0) i S es.size ep/\j5 p w (tF w) h S o es ep t) where
 sub:=λb j=>by simp at j;simp[j]
 frame:=λi h h' st k=>by
  obtain⟨d,⟨x,a,b,c⟩,g⟩:=st;exact#[d,#[x,k I .c x a,b,c],#[k S .c o g.get,g.ex,g.dat,g.el,g.bd,g.fit,g.gd]]
 item:=λi s Q E hi st l=>by
  obtain⟨d,q,g⟩:=st;have e:vs[i]?=À vs[i]:=Xn hi;refine JU (x:=vs[i]) (nx:=f (i+1)) q g (λA E R r=>y s i A E R .b g (by rwa[e])) λh' q' u=>l _ h' s.toks e #[hi,q',?_] λb o' j n=>?_
  .exact#[by rw[u.2 S m];exact g.get,g.ex,g.dat,g.el,g.bd,g.fit,g.gd]
  .rw[u.2 b λz=>j (by simp[z])];exact n
 done:=λs Q E st l=>by
  obtain⟨d,q,g⟩:=st;exact NY B q g (λA E R r=>y s _ A E R .b g (by rwa[Y7 (Xm _)])) λh' k=>l h' s.toks λb o' j n=>k b o' (λz=>j (by simp[z])) n
 self:=λi s Q E st l=>BG st.2.1 l
variable{T:Ç}
theorem l6{M:Type}:∀(l:List M) (i:Nat) (h:i<l.length),(l[i]::l.eraseIdx i).Perm l
 |x::l,0,_=>.refl _
 |x::l,i+1,h=>by
  have:=l6 l i ↑h;simp only[List.getElem_cons_succ,List.eraseIdx_cons_succ];exact(List.Perm.swap ..).trans (this.cons x)
def zM{src:Source}{Q:Nat->Æ->Prop}(a:n≠0)(h:∀i d,i<n->Q i {s with drawn:=d}):Í (Î p w) A (choose src n) Q E s:=by
 intro U q b;show Sem.wp _ _ (.choose src n .pure) _ _ _ _;rw[Sem.wp_choose];exact#[a,h _ _ (Nat.mod_lt _ (Nat.pos_of_ne_zero a))]
theorem yV{M:Type}:∀(n:Nat) (xs:List M) (s:Æ) (Q:List M->Æ->Prop),xs.length=n->(∀ys d,ys.Perm xs->Q ys {s with drawn:=d})->Í (Î p w) A (drawOrder n xs) Q E s
 |0,xs,s,Q,a,h=>by
  obtain rfl:xs=[]:=YX.mp a;unfold drawOrder;exact Xd (h [] s.drawn (.refl _))
 |n+1,[],s,Q,a,h=>by simp at a
 |n+1,x::xs,s,Q,a,h=>by
  unfold drawOrder;refine W9 (zM .c λi d hi=>?_);have e:(x::xs)[i]?=À (x::xs)[i]:=Xn hi;rw[e];refine W9 (yV n _ _ _ (by rw[ř,Xc hi];simp at a ⊢;lia) λys b c=>?_);refine Xd (h _ b ?_);exact(İ _ c).trans (l6 _ i hi)
def Ir{e:Int×Ä}{c:û}{k:Nat}(q:md s.heap I (.ref T) i S es.size ep)(g:j5 p w (tF w) s.heap S o es ep t)(f:s.heap.get? T=À c)(dT:c.data=.seq (os.map λn:Nat=>ü (n:Int)).toArray k)(d:os[i]?=À j)(he:es[j]?=À e){Q:Option Ä->Æ->Prop}
  (h:∀h',md h' I (.ref T) (i+1) S es.size ep->Č I s.heap h'->Q (À e.2) {s with heap:=h'}):Í (Î p w) A (Ď (.ref I)) Q E s:=by
 obtain⟨l,a,m,b⟩:=id q;unfold Ď;refine W9 (ϸ (YW (name:=ñ "__next__") q.ty fh (YH fh q.ty nG ?_ (rD _))));unfold č.«set_iterator.__next__»;refine W9 (Xd (W9 (ZG a b ?_)));dsimp only;refine W9 (aac g.get g.dat g.fit ?_);refine Yt (λz=>absurd z .c) λ_=>?_;dsimp only[Õ];refine W9 (wpAny_seqItems f dT ?_);dsimp only
 have e1:(os.map λn:Nat=>ü (n:Int)).toArray[i]?=À (ü (j:Int)):=by
  rw[acB,Xw,d];rfl
 rw[e1];dsimp only[ü,Õ];unfold setNextDrawn;refine W9 (W9 (ZV g.get g.dat g.fit ?_));refine Yt (λz=>absurd z .c) λ_=>?_;rw[he];refine Xd (W9 (ZH a b .c (Xd #[e.2,rfl,Xd (h _ ?_ (X4 ..))])));exact(q.put (x:=.none)).2 (i+1)
def MM{f:û}{v:Nat}(j:A.handled=none)(q:md s.heap I (.ref T) i S es.size ep)(g:j5 p w (tF w) s.heap S o es ep t)(u:s.heap.get? T=À f)(dT:f.data=.seq (os.map λn:Nat=>ü (n:Int)).toArray v)(m:os[i]?=none){Q:Option Ä->Æ->Prop}
  (h:∀h',(∀b o,b≠I->s.heap.get? b=À o->h'.get? b=À o)->Q none {s with heap:=h'}):Í (Î p w) A (Ď (.ref I)) Q E s:=by
 obtain⟨B,a,C,c⟩:=id q;unfold Ď;refine W9 (ϸ (YW (name:=ñ "__next__") q.ty fh (YH fh q.ty nG ?_ (rD _))));unfold č.«set_iterator.__next__»;refine W9 (Xd (W9 (ZG a c ?_)));dsimp only;refine W9 (aac g.get g.dat g.fit ?_);refine Yt (λz=>absurd z .c) λ_=>?_;dsimp only[Õ];refine W9 (wpAny_seqItems u dT ?_);dsimp only
 have e1:(os.map λn:Nat=>ü (n:Int)).toArray[i]?=none:=by
  rw[acB,Xw,m];rfl
 rw[e1];dsimp only;have q1:=(q.put (x:=ü 0)).1;obtain⟨y,l,D,r⟩:=id q1;refine W9 (ZH a c .c (W9 (ZH l r .c ?_)));refine vp (s:={s with heap:=(s.heap.update I (ć (·.setIfInBounds 0 (ü 0)))).update I (ć (·.setIfInBounds 2 ò))}) j λh' k=>h h' λb o d e=>k b o ?_;rwa[(X4 _ I _).2 b d,(X4 s.heap I _).2 b d]
def AJ(G:A.handled=none)(B:S≠I)(H:T≠I)(hp:os.Perm (Ò es.size)):
  Walks p w A I [I,S,T] [I] os.length (λi v=>∃j e,os[i]?=À j/\es[j]?=À e/\v=e.2) (λi h=>i<=os.length/\md h I (.ref T) i S es.size ep/\j5 p w (tF w) h S o es ep t/\∃d u,h.get? T=À d/\d.data=.seq (os.map λn:Nat=>ü (n:Int)).toArray u) where
 sub:=λb r=>by simp at r;simp[r]
 frame:=λi h h' st k=>by
  obtain⟨f,⟨x,a,b,c⟩,g,d,u,m,l⟩:=st;exact#[f,#[x,k I .c x a,b,c],#[k S .c o g.get,g.ex,g.dat,g.el,g.bd,g.fit,g.gd],d,u,k T .c d m,l]
 item:=λi s Q E hi st y=>by
  obtain⟨f,q,g,d,u,m,l⟩:=st;have e:os[i]?=À os[i]:=Xn hi;have F:os[i]<es.size:=Yh.mp (hp.mem_iff.mp (YY hi));have e2:es[os[i]]?=À es[os[i]]:=YL F;refine Ir q g m l e e2 λh' q' D=>y _ h' s.toks #[_,_,e,e2,rfl] #[hi,q',?_,d,u,by rwa[D.2 T H],l] λb o' r C=>?_
  .exact#[by rw[D.2 S B];exact g.get,g.ex,g.dat,g.el,g.bd,g.fit,g.gd]
  .rw[D.2 b λz=>r (by simp[z])];exact C
 done:=λs Q E st y=>by
  obtain⟨f,q,g,d,u,m,l⟩:=st;exact MM G q g m l (Y7 (Xm _)) λh' k=>y h' s.toks λb o' r C=>k b o' (λz=>r (by simp[z])) C
 self:=λi s Q E st y=>BG st.2.1 y
end
open PySem PyProof.Rows PySem.Spec PySem.W PySem.Calls
structure zm(s s':Æ):Prop where
 keep:∀b o,s.heap.get? b=À o->s'.heap.get? b=À o
 gens:s'.gens=s.gens
 os:s'.os=s.os
structure OM(p:Ð)(w:Ú)(s s':Æ)(S I:Ç)(es:Array (Int×Ä)):Prop where
 gr:zm s s'
 new:s.heap.objs.size<=I
 wk:∃(fp:List Ç) (n:Nat) (P:Nat->Ä->Prop) (St:Nat->ß->Prop) (vs:List Ä),(∀A:à,A.handled=none->Walks p w A I fp [I] n P St)/\St 0 s'.heap/\(∀b∈fp,b=S\/s.heap.objs.size<=b)/\vs.length=n/\(∀i v,P i v->vs[i]?=À v)/\vs.Perm (es.toList.map (·.2))
theorem BI{M:Type}(f:Nat->Nat):∀(n k:Nat) (l:List M) (a:Array M),l.length=n->(Ļ f n k l a).toList.Perm (a.toList++l)
 |0,k,l,a,h=>by
  obtain rfl:l=[]:=YX.mp h;simp[Ļ]
 |n+1,k,l,a,h=>by
  have hi:f k%l.length<l.length:=Nat.mod_lt _ .b;unfold Ļ;rw[Xn hi];refine(BI f n (k+1) _ _ (by rw[ř,Xc hi];lia)).trans ?_;rw[abI,Β];exact List.Perm.append_left _ (l6 l _ hi)
def DG{M:Type}(f:Nat->Nat)(xs:Array M):(ī f xs).toList.Perm xs.toList:=by
 have:=BI f xs.size 0 xs.toList #[] .c;simpa [ī] using this
section
variable{p:Ð}{w:Ú}{A:à}{E:Ä->Æ->Prop}{s:Æ}{S:Ç}{o:û}{es:Array (Int×Ä)}{ep:Nat}{t:î}
def oJ{h':ß}(g:j5 p w (tF w) h S o es ep t)(k:∀b o,h.get? b=À o->h'.get? b=À o):j5 p w (tF w) h' S o es ep t:=#[k _ _ g.get,g.ex,g.dat,g.el,g.bd,g.fit,g.gd]
def G9(g:j5 p w (tF w) s.heap S o es ep t){Q:Ä->Æ->Prop}(h:∀I s',OM p w s s' S I es->Q (.ref I) s'):Í (Î p w) A (ı (.ref S)) Q E s:=by
 have ty:s.TypeIs (.ref S) "set":=#[o,g.get,g.ex.1];have B:S<s.heap.objs.size:=Xr g.get;refine abJ ty acC (YH acC ty GF ?_ (PySem.F.args_set_iter_1 _));unfold č.«frozenset.__iter__» ω ϊ;refine W9 (W9 (Xd (Xd ?_)));refine W9 (W9 (aac g.get g.dat g.fit (Xd ?_)));unfold setDrawn;refine W9 (W9 (ZV g.get g.dat g.fit (W9 (rP (Xd ?_)))));refine Yt (λy=>?_) λy=>?_
 .have c:(!w.params.followText "set-order"&&(!t.plain&&decide (es.size>1)))=Á:=y;refine W9 (yV es.size (Ò es.size) _ _ Zb λos d k=>?_);have lo:os.length=es.size:=by rw[k.length_eq,Zb]
  refine W9 (wpAny_newTuple ?_ (by rw[Xk,lo];exact aaW g.bd));refine W9 (ϣ (Xi _ g.get) g.dat g.fit ?_);refine W9 (Yx (Xd #[_,rfl,"set_iterator",_,#[_,Xz _ rfl,rfl],fh.lookup,h _ _ ?_]));refine#[#[λb o e=>Xi _ (Xi _ e),rfl,rfl],by rw[Zl];exact Z6 _,?_];have q:S≠(s.heap.push {cls:=.type "tuple",data:=.seq (os.map λn:Nat=>ü (n:Int)).toArray}).objs.size:=by rw[Zl];exact XS (YN B)
  have C:s.heap.objs.size≠(s.heap.push {cls:=.type "tuple",data:=.seq (os.map λn:Nat=>ü (n:Int)).toArray}).objs.size:=by rw[Zl];exact XS (Zj _)
  refine#[_,_,_,_,os.map λj=>(es.getD j (0,.none)).2,λA m=>AJ (o:=o) (t:=t) (ep:=ep) m q C k,#[Yc _,#[_,Xz _ rfl,rfl,rfl],oJ g λb o e=>Xi _ (Xi _ e),_,_,Xi _ (Xz _ rfl),rfl],?_,?_,?_,?_]
  .intro b a;simp only[Xa,Xe,XA] at a;rcases a with rfl|rfl|rfl
   .exact .inr (by rw[Zl];exact Z6 _)
   .exact .inl rfl
   .exact .inr (Xm _)
  .rw[Xk]
  .rintro i v ⟨j,e,e1,e2,rfl⟩;rw[Xw,e1];show À (es.getD j (0,.none)).2=À e.2;obtain⟨D,e3⟩:=Array.getElem?_eq_some_iff.mp e2;simp only[Ĉ,aaR D];exact congrArg (λx:Int×Ä=>À x.2) e3
  .refine(k.map _).trans ?_
   have:(Ò es.size).map (λj=>(es.getD j (0,.none)).2)=es.toList.map (·.2):=by
    refine abL λi=>?_;rw[Xw,Xw];by_cases hi:i<es.size
    .have h2:es.toList[i]?=À (es.getD i (0,.none)):=by
      rw[Zo,YL hi];simp only[Ĉ,aaR hi];rfl
     rw[Š hi,h2];rfl
    .have h2:es.toList[i]?=none:=by rw[Zo];exact aa1 .b
     rw[Y7 (by rw[Zb];lia),h2];rfl
   rw[this]
 .have c:¬(!w.params.followText "set-order"&&(!t.plain&&decide (es.size>1)))=Á:=y;refine W9 (Xd (W9 (ϣ g.get g.dat g.fit ?_)));refine W9 (Yx (Xd #[_,rfl,"set_iterator",_,#[_,Xz _ rfl,rfl],fh.lookup,h _ _ ?_]));refine#[#[λb o e=>Xi _ e,rfl,rfl],Xm _,?_];have q:S≠s.heap.objs.size:=XS B
  have l:∀b∈[s.heap.objs.size,S],b=S\/s.heap.objs.size<=b:=λb a=>by
   simp only[Xa,Xe,XA] at a;rcases a with rfl|rfl
   .exact .inr (Xm _)
   .exact .inl rfl
  have z:j5 p w (tF w) (s.heap.push {cls:=.type "set_iterator",data:=.fields [ü 0,ü 0,.ref S,ü es.size,ü ep].toArray}) S o es ep t:=oJ g λb o e=>Xi _ e;cases a:w.params.followText "set-order" with
  |false =>
   rw[a] at c
   have hpl:t.plain=Á\/es.size<=1:=by
    cases hp:t.plain with
    |true=>exact .inl rfl
    |false =>
     rw[hp] at c;refine .inr ?_;simpa using c
   have u:(es.toList.map (·.2)).length=es.size:=by rw[Xk,XJ]
   refine#[_,_,_,_,es.toList.map (·.2),λA m=>sX (vs:=es.toList.map (·.2)) (f:=sl t) (o:=o) (t:=t) (ep:=ep) m q u λs i A E R hi g r=>Bo g a hpl hi ?_,#[Yc _,#[_,Xz _ rfl,rfl,rfl],z],l,rfl,λi v e=>e,.refl _];rwa[Xw,Zo,Ν] at r
  |true =>
   have k:=(DG (w.params.setOrder S ep) es).map (·.2);have u:((ī (w.params.setOrder S ep) es).toList.map (·.2)).length=es.size:=by rw[k.length_eq,Xk,XJ]
   refine#[_,_,_,_,(ī (w.params.setOrder S ep) es).toList.map (·.2),λA m=>sX (vs:=(ī (w.params.setOrder S ep) es).toList.map (·.2)) (f:=λ_=>0) (o:=o) (t:=t) (ep:=ep) m q u λs i A E R hi g r=>DT g a ?_,#[Yc _,#[_,Xz _ rfl,rfl,rfl],z],l,rfl,λi v e=>e,k];rwa[Xw,Zo,Ν] at r
def Hz{Q:Bool->Æ->Prop}(ty:s.TypeIs (.ref S) "set")(h:Q Â s):Í (Î p w) A (ĩ (.ref S)) Q E s:=by
 unfold ĩ;refine W9 (wpAny_specialOf ty PySem.F.slot_set_len.lookup ?_);generalize a:("set.__len__":String)=c
 wp_delta
 rw[show splitId c=À ("set","__len__") from by subst a;decide +kernel];subst a;refine W9 (ab8 (T:="set") (b:=Á) ty (by rw[Ŏ];kernel_rfl) (Yt (λz=>absurd z .a) λ_=>?_));exact Yt (λ_=>W9 (ų ty (Xd h))) λz=>absurd .d z
def zN{L:Ç}{c:Nat}{R:ż->Æ->Prop}{res:Ä}(F:A.handled=none)(g:j5 p w (tF w) s.heap S o es ep t)(D:s.heap.get? L=À {cls:=.type "list",data:=.seq #[] c})(k:L≠S)
  (h:∀s' a c',(∀b o,b≠L->s.heap.get? b=À o->s'.heap.get? b=À o)->s'.gens=s.gens->s'.os=s.os->s'.heap.get? L=À {cls:=.type "list",dict:=none,data:=.seq a c',slots:=#[]}->a.toList.Perm (es.toList.map (·.2))->R (.ok (.ret res)) s'):
  Í (Î p w) A.in1 (Đ (.ref L) (.ref S) res) (λfin s'=>match fin with|.done f=>R (.ok f) s'|.again c'=>c'.quiet=Á/\Ē (Î p w) A c' R s') (λe s'=>R (.error e) s') s:=by
 have ty:s.TypeIs (.ref S) "set":=#[o,g.get,g.ex.1];unfold Đ;refine W9 (ų (T:="set") ty ?_);have Z:ĭ (.ref L) (.ref S)=Â:=by simp[ĭ,k]
 have V:(ú "set"==ú "list")=Â:=by decide
 have O:(ú "set"==ú "tuple")=Â:=by decide
 simp only[Z,V,O,Bool.or_false,Zm,ZT];refine W9 (G9 g λI s' wk=>?_);obtain⟨gr,nw,fp,n,P,St,vs,W,st,x,H,Q,r⟩:=wk;have v:L<s.heap.objs.size:=Xr D
 have l:L∉fp:=λz=>by
  rcases x L z with q|q
  .exact k q
  .exact absurd v (aaA.mpr q)
 have C:n<=sizeLine:=by
  rw[<-H,r.length_eq,Xk,XJ];exact aaW g.bd
 have key:∀(d:Æ) (c1:Nat),St 0 d.heap->(∀b o,b≠L->s'.heap.get? b=À o->d.heap.get? b=À o)->d.gens=s'.gens->d.os=s'.os->d.heap.get? L=À {cls:=.type "list",data:=.seq #[] c1}->Ē (Î p w) A (.builtin "list.extend.loop" #[[.ref L,.ref I,res],[]]) R d:=λd c1 B K N Γ α=>by
  refine codeAny_extend_loopS ((W A.in1 F).toS) C L l res n 0 d #[] c1 rfl (Yc _) B α (ItemsOf.nil _) λE a c2 y X it=>?_;refine h E a c2 (λb o j e=>y.heap b o (λz=>?_) (K b o j (gr.keep b o e))) ?_ ?_ X ?_
  .rcases Xa.mp z with q|q
   .exact j q
   .exact absurd (Xr e) (aaA.mpr (by rwa[Xv.mp q]))
  .exact(show E.gens=d.gens from y.gens).trans (N.trans gr.gens)
  .exact y.os.trans (Γ.trans gr.os)
  .have:a.toList=vs:=by
    refine abL λi=>?_;by_cases hi:i<a.toList.length
    .have e:=Xn hi;rw[e];exact(Q i _ (it.2 i _ (by rwa[<-Zo]))).symm
    .have σ:a.toList.length=n:=by rw[XJ];exact it.1
     rw[Y7 .b,Y7 .b]
   rwa[this]
 have u:=gr.keep _ _ D;refine W9 (YZ (Hz #[o,gr.keep _ _ g.get,g.ex.1] ?_));refine Yt (λ_=>?_) (λ_=>Xd #[aa3 abT _,key _ c st (λb o _ e=>e) rfl rfl u]);refine W9 (ŋ (W9 (show Í _ _ (updateSeq L (·.push .none) >>= λ_=>updateSeq L (·.pop)) _ _ _ from W9 (wpAny_updateSeq u rfl ?_))));have G:=Y6 (Ù (·.push ò)) u rfl;refine wpAny_updateSeq (hz:=by seq_fits) G rfl ?_;have J:=Y6 (Ù (·.pop)) G rfl
 have m:∀b o,b≠L->s'.heap.get? b=À o->((s'.heap.update L (Ù (·.push ò))).update L (Ù (·.pop))).get? b=À o:=λb o j e=>by
  rwa[(X4 _ L _).2 b j,(X4 _ L _).2 b j]
 exact Xd #[aa3 abT _,key _ _ ((W A.in1 F).frame 0 _ _ st λb j o e=>m b o (λq=>l (q▸j)) e) m rfl rfl J]
end
def kv:Ä->Int
 |.int k _=>k
 |_=>0
theorem Bx:∀{vs:List Ä},(∀v∈vs,∃k t,v=.int k t)->í vs (vs.map kv)
 |[],_=>.nil
 |v::vs,h=>by
  obtain⟨k,t,rfl⟩:=h v (Xo ..);exact .cons k t (Bx λv a=>h v (Xj _ a))
theorem qk:∀{m l:List Int},m.Nodup->(∀x∈m,x∈l)->m.length=l.length->m.Perm l
 |[],l,_,_,h=>by
  obtain rfl:l=[]:=YX.mp h.symm;exact .nil
 |x::m,l,f,a,h=>by
  have c:x∈l:=a x (Xo ..);obtain⟨g,d⟩:=Ym.mp f;have pl:=ŗ c;refine(İ x (qk d (λy b=>?_) ?_)).trans pl.symm
  .exact(abe (λe:y=x=>g (e▸b))).mpr (a y (Xj _ b))
  .have:=pl.length_eq;simp only[Yd] at this h ⊢;lia
def Dp(h:ns.Nodup):(ins ns k).Nodup:=by
 unfold ins;split
 .exact h
 .rename_i c;rw[aaX];exact#[h,.c,λa ha b d e=>c (by rwa[<-Xv.mp d,<-e])]
def IP{x:Int}:x∈ins ns k↔x∈ns\/x=k:=by
 unfold ins;split
 .rename_i a;exact#[.inl,λh=>h.elim id λe=>e▸a]
 .rw[X2,Xv]
theorem pA(f:Nat->Int):∀i,(met f i).Nodup
 |0=>Z7
 |i+1=>by rw[mU];exact Dp (pA f i)
theorem CF(f:Nat->Int){x:Int}:∀i,x∈met f i↔∃j,j<i/\f j=x
 |0=>by simp[met]
 |i+1=>by
  rw[mU,IP,CF f i];constructor
  .rintro(⟨j,h1,h2⟩|e)
   .exact#[j,.b,h2]
   .exact#[i,.b,e.symm]
  .rintro⟨j,h1,h2⟩;rcases aaM (Ο h1) with z|z
   .exact .inl #[j,z,h2]
   .exact .inr (by rw[<-h2,z])
section
variable{p:Ð}{w:Ú}{A:à}{E:Ä->Æ->Prop}{s:Æ}{S:Ç}{o:û}{es:Array (Int×Ä)}{ep:Nat}{t:î}
def y6{R:List Ä->Æ->Prop}(i:A.handled=none)(g:j5 p w (tF w) s.heap S o es ep t)(h:∀s' vs,zm s s'->vs.Perm (es.toList.map (·.2))->R vs s'):Í (Î p w) A (collect (.ref S)) R E s:=by
 have j:S<s.heap.objs.size:=Xr g.get;unfold collect;refine W9 (wpAny_runValue (aak entry_proto_collect' ?_));rw[Z5 PySem.F.plain_proto_collect _];refine(show Í _ A.in1 (newList [] >>= λl=>Ő (.builtin "list.__iadd__" #[[l,.ref S],[]])) _ _ s from W9 (Yx (Xd #[aa3 ace _,aak entry_list_iadd' ?_])));rw[Z5 ace _];have m:(s.heap.push {cls:=.type "list",data:=.seq ([]:List Ä).toArray}).get? s.heap.objs.size=À {cls:=.type "list",data:=.seq #[]}:=Xz _ rfl;refine(show Í _ A.in1 (Đ (.ref s.heap.objs.size) (.ref S) (.ref s.heap.objs.size)) _ _ _ from ?_)
 have key:=zN (A:=A) (s:={s with heap:=s.heap.push {cls:=.type "list",data:=.seq ([]:List Ä).toArray}}) (res:=.ref s.heap.objs.size)
  (R:=λq s'=>∃a c',q=.ok (.ret (.ref s.heap.objs.size))/\zm s s'/\s'.heap.get? s.heap.objs.size=À {cls:=.type "list",dict:=none,data:=.seq a c',slots:=#[]}/\a.toList.Perm (es.toList.map (·.2)))
  i (oJ g λb o e=>Xi _ e) m (abX j) λs' a c' k d os l c=>#[a,c',rfl,#[λb o e=>k b o (XS (Xr e)) (Xi _ e),d,os],l,c]
 refine Zq key (λfin s' x=>?_) λe s' x=>?_
 .cases fin with
  |done f =>
   obtain⟨a,c',e,gr,l,c⟩:=x;cases e;exact show Í _ A (load s.heap.objs.size >>= _) _ _ _ from W9 (ϗ l (Xd (h s' _ gr c)))
  |again c1 =>
   refine#[x.1,Ϸ x.2 λq n y=>?_];obtain⟨a,c',e,gr,l,c⟩:=y;cases e;exact show Í _ A (load s.heap.objs.size >>= _) _ _ _ from W9 (ϗ l (Xd (h n _ gr c)))
 .obtain⟨_,_,r,_⟩:=x;cases r
def zr{Q:Ä->Æ->Prop}{m:List Int}(B:A.handled=none)(q:oQ p w (tF w) s.heap S m)(F:m.Nodup)(f:m.length<64)
  (h:∀(b:Æ) (vs:List Ä) (a:Array Ä) (ns:List Int),zm s b->í a.toList ns->ns.Perm m->ns.Pairwise (·<=·)->Q (.ref b.heap.objs.size) {b with heap:=Ϛ (b.heap.push (ã "list" vs.toArray 0)) b.heap.objs.size vs a}):
  Í (Î p w) A (call (.builtin "sorted") [.ref S]) Q E s:=by
 obtain⟨o,es,ep,t,g,z,hz⟩:=q;refine Calls.call_function_entry kind_sorted plain_sorted entry_sorted (args_sorted1 _) ?_;unfold č.«sorted»;refine W9 (m:=checkCount "sorted" 1 1 _) (Xd (W9 (y6 (A:=A.in1) B g λb vs gr c=>?_)));have l:vs.length=m.length:=by rw[c.length_eq,Xk,XJ,hz]
 have allI:∀v∈vs,∃k t,v=.int k t:=λv n=>by
  obtain⟨e,he,rfl⟩:=Xs.mp (c.mem_iff.mp n);obtain⟨⟨k,i,_⟩,_⟩:=g.el e he;obtain⟨t,d⟩:=abD i;exact#[k,t,d]
 have y:(vs.map kv).Perm m:=by
  refine(qk F (λx u=>?_) (by rw[Xk,l])).symm;obtain⟨e,he,i⟩:=(z x).mp u;obtain⟨t,d⟩:=abD i;exact Xs.mpr #[e.2,c.mem_iff.mpr (Xs.mpr #[e,he,rfl]),by rw[d];rfl]
 refine W9 (abx ?_ (by rw[l];exact X8 (YF f) .a));have j:(b.heap.push (ã "list" vs.toArray 0)).get? b.heap.objs.size=À (ã "list" vs.toArray 0):=Xz _ rfl;refine W9 (YZ (YH slot_list_sort #[_,j,rfl] entry_list_sort (list_sort_tree j (Bx allI) .b λa ns D r C=>#[_,rfl,?_]) (args_list_sort _)));exact Xd #[_,rfl,h b vs a ns gr D (r.trans y) C]
end
end L2.Sx
namespace L2.EP
open PySem PySem.Spec PyProof.Rows L2.Sx
noncomputable def xg(x:Int):List Int->List Int
 |[]=>[x]
 |y::l=>if x<y then x::y::l else if x=y then y::l else y::xg x l
def sset(ns:List Int):List Int:=ns.foldr xg []
theorem sU{x a:Int}:∀{l:List Int},a∈xg x l↔a=x\/a∈l
 |[]=>by simp[xg]
 |y::l=>by
  unfold xg;split
  .simp
  .split
   .rename_i h;subst h;simp
   .rw[Xa,sU (l:=l),Xa];constructor
    .rintro(h|h|h)
     .exact .inr (.inl h)
     .exact .inl h
     .exact .inr (.inr h)
    .rintro(h|h|h)
     .exact .inr (.inl h)
     .exact .inl h
     .exact .inr (.inr h)
theorem yf{x:Int}:∀{l:List Int},l.Pairwise (·<·)->(xg x l).Pairwise (·<·)
 |[],_=>by simp[xg]
 |y::l,h=>by
  obtain⟨h1,h2⟩:=YV.mp h;unfold xg;split
  .rename_i b;refine YV.mpr #[λa ha=>?_,h];rcases Xa.mp ha with z|z
   .lia
   .have:=h1 a z;lia
  .split
   .exact h
   .refine YV.mpr #[λa ha=>?_,yf h2];rcases sU.mp ha with z|z
    .lia
    .exact h1 a z
theorem ip{a:Int}:∀{ns:List Int},a∈sset ns↔a∈ns
 |[]=>by simp[sset]
 |x::ns=>by
  show a∈xg x (sset ns)↔_;rw[sU,ip (ns:=ns),Xa]
theorem hZ:∀(ns:List Int),(sset ns).Pairwise (·<·)
 |[]=>.nil
 |x::ns=>yf (hZ ns)
theorem sj:∀{l m:List Int},l.Pairwise (·<·)->m.Pairwise (·<·)->(∀a,a∈l↔a∈m)->l=m
 |[],[],_,_,_=>rfl
 |[],y::m,_,_,h=>absurd ((h y).mpr (Xo ..)) .c
 |x::l,[],_,_,h=>absurd ((h x).mp (Xo ..)) .c
 |x::l,y::m,h1,h2,h=>by
  obtain⟨b,c⟩:=YV.mp h1;obtain⟨b1,b2⟩:=YV.mp h2
  have e:x=y:=by
   rcases Xa.mp ((h x).mp (Xo ..)) with z|z
   .exact z
   .rcases Xa.mp ((h y).mpr (Xo ..)) with q|q
    .exact q.symm
    .have:=b1 x z;have:=b y q;lia
  subst e;refine congrArg (x::·) (sj c b2 λa=>#[λha=>?_,λha=>?_])
  .rcases Xa.mp ((h a).mp (Xj _ ha)) with z|z
   .have:=b a ha;lia
   .exact z
  .rcases Xa.mp ((h a).mpr (Xj _ ha)) with z|z
   .have:=b1 a ha;lia
   .exact z
def Jv{ns m r:List Int}(h1:r.Perm m)(e:m.Nodup)(h2:r.Pairwise (·<=·))(d:∀a,a∈m↔a∈ns):r=sset ns:=by
 refine sj ?_ (hZ ns) λa=>by rw[h1.mem_iff,d,ip]
 have c:r.Nodup:=h1.symm.nodup e
 exact(List.Pairwise.and h2 c).imp λ{a b} q=>by
  have:=q.1;have:=q.2;lia
def Inv.grown{X:Cx}{Z2:List (Ç×û)}{Y:St}{H:Hp}{s s':Æ}(I:Inv X Z2 Y H s)(g:zm s s'):Inv X Z2 Y H s':=by
 obtain⟨h',a,d,tk,os⟩:=s';obtain⟨k,e1,e2⟩:=g;have J:=I.kept (h':=h') (t':=tk) k;simp only at e1 e2;subst e1 e2;exact#[J.ok,J.os,J.bare,J.base,J.loc,J.cell,J.free,J.freeC,J.pin,J.hok,J.len]
theorem wY:∀{vs:List Ä} {ns:List Int},í vs ns->Vals (ns.map V.int) vs
 |_,_,.nil=>.nil
 |_,_,.cons n t h=>.cons #[t,rfl] (wY h)
section
variable{X:Cx}{U:aI}{D:GD}{e:Ô}{b:Bool}{te:TE}
def Aj{p1 p2 pos c:ì}(α:X.calm=Á)(E:Gl X "sorted")(z:X.mg "sorted"=none)(B:Gl X "set")(F:X.mg "set"=none)(ha:PE X e te)
  (O:autoParam (Å [e] X.env=(Â,Û e X.env)::Å [] X.env) zra) (t:autoParam (Å [.Call (.Name "set" p2) [e] [] c] X.env=(Â,Û (.Call (.Name "set" p2) [e] [] c) X.env)::Å [] X.env) zra)
  (C:autoParam ((è pos (Å [] X.env)).any (·.1)=Â) zra) (D:autoParam ((è c (Å [] X.env)).any (·.1)=Â) zra):
  PE X (.Call (.Name "sorted" p1) [.Call (.Name "set" p2) [e] [] c] [] pos) (λY H Q=>te Y H λv H1=>∃a,∃ns:List Int,v=.ref a/\dW X.K H1 a (ns.map V.int)/\ns.length<64/\∀l,H1 l=none->Q (.ref l) (upd H1 l (.lst ((sset ns).map V.int)))):=by
 intro Z2 s Y H Q I h
 have inner:Í .E X.A (Û (.Call (.Name "set" p2) [e] [] c) X.env) (λu y=>∃(S:Ç) (H1:Hp) (ns:List Int),u=.ref S/\Inv X Z2 Y H1 y/\oQ X.prog X.w (tF X.w) y.heap S (met (λi=>ns.getD i 0) ns.length)/\ns.length<64/\∀l,H1 l=none->Q (.ref l) (upd H1 l (.lst ((sset ns).map V.int)))) X.xe s:=by
  refine Zk (hV I B F PyProof.Rows.boot_set ?_ .a .a);refine YU (cj (aB ha a9 O c Z2 s Y H (λxs H1=>match xs with|[v]=>∃a,∃ns:List Int,v=.ref a/\dW X.K H1 a (ns.map V.int)/\ns.length<64/\∀l,H1 l=none->Q (.ref l) (upd H1 l (.lst ((sset ns).map V.int)))|_=>False) I h) λus y ⟨xs,H1,n,Z,q1⟩=>?_) O D;cases Z with
  |nil=>exact q1.elim
  |@cons v u vs us T x =>
   cases x with
   |cons _ _=>exact q1.elim
   |nil =>
    obtain⟨a,ns,rfl,P,d,q⟩:=q1;cases T;obtain⟨XV,x,pl,_⟩:=n.list P;have hi:=intsAre_of x;have L:XV.length=ns.length:=by rw[<-x.length,Xk]
    refine Hu (items:=XV.toArray) (ns:=ns) (n.ok.hd α) pl.isList ↑hi (by rw[XB,L];exact XR (Nat.add_lt_add_right d 1) .a) λh' tk g k=>?_;rw[show XV.toArray.size=ns.length by rw[XB,L]] at g;exact#[_,H1,ns,rfl,n.kept k,g,d,q]
 refine Zk (hV I E z PyProof.Rows.boot_sorted ?_ .a .a);refine abb ?_ t C;rw[t];refine ť (cj inner λu y ⟨S,H1,ns,e,n,g,d,q⟩=>Ų ?_);subst e;refine zr (n.ok.hd α) g (pA _ _) (aai (rh _ _) d) λf vs m G gr Γ J pw=>?_
 have W:G=sset ns:=Jv J (pA _ _) pw λa=>by
  rw[CF];constructor
  .rintro⟨j,r,rfl⟩;rw[Xh,Xn r];exact YY r
  .intro ha;obtain⟨j,r,e⟩:=Z4.mp ha;exact#[j,r,by rwa[Xh,Xn r]]
 subst W;have N:=Inv.grown n gr
 have lo:((sset ns).map V.int).length<=sizeLine:=by
  rw[Xk,J.length_eq];exact X8 (rh _ _) (X8 (YF d) .a)
 have p:∀b o,f.heap.get? b=À o->b≠f.heap.objs.size:=λb o e=>XS (Xr e)
 have kp:∀b o,f.heap.get? b=À o->(Ϛ (f.heap.push (ã "list" vs.toArray 0)) f.heap.objs.size vs m).get? b=À o:=λb o e=>by
  unfold Ϛ;rw[(X4 _ _ _).2 b (p b o e)];refine Xi _ (Xi _ ?_);rw[(X4 _ _ _).2 b (p b o e)];exact Xi _ e
 obtain⟨c1,R⟩:∃c1,(((f.heap.push (ã "list" vs.toArray 0)).update f.heap.objs.size (Ù λ_=>#[])).get? f.heap.objs.size)=À (ã "list" #[] c1):=#[_,aaI (Xz _ rfl) (λ_=>#[])];have σ:=aaI (Xi (ã "list" #[] 0) (Xi (ã "tuple" vs.toArray 0) R)) (λ_=>m);refine#[.ref f.heap.objs.size,_,N.laid (t':=f.toks) (o:=.lst ((sset ns).map V.int)) kp (Xm _) #[lo,m.toList,_,wY Γ,σ],rfl,q _ (N.hok.fresh (Xm _))]
def uT{ns:List Int}{A p2 pos c:ì}(y:X.calm=Á)(g:Gl X "sorted")(h:X.mg "sorted"=none)(k:Gl X "set")(i:X.mg "set"=none)(ha:E X U e b ns)(u:ns.length<64)
  (w:autoParam (Å [e] X.env=(Â,Û e X.env)::Å [] X.env) zra) (o:autoParam (Å [.Call (.Name "set" p2) [e] [] c] X.env=(Â,Û (.Call (.Name "set" p2) [e] [] c) X.env)::Å [] X.env) zra)
  (p:autoParam ((è pos (Å [] X.env)).any (·.1)=Â) zra) (f:autoParam ((è c (Å [] X.env)).any (·.1)=Â) zra):
  E X U (.Call (.Name "sorted" A) [.Call (.Name "set" p2) [e] [] c] [] pos) Á (sset ns):=by
 stop
  exact aJ (Aj y g h k i ha w o p f) λY H Q ⟨H0,F,O,S,q⟩=>#[H0,F,O,S,λv H1 j z=>by
    obtain⟨a,vs,e,t,n,r⟩:=z;rw[sJ r] at t;refine#[a,ns,by rw[e],(ar _ _).seq t,u,λl d=>?_];obtain⟨C,s⟩:=cO (xs:=(sset ns).map V.int) (S.go j) d;refine q _ _ (j.trans C) #[l,_,rfl,dW.of s,Nf.wk (b:=Á) ((S.go j).iq d) s,?_];generalize sset ns=m
    induction m with
    |nil=>exact .nil
    |cons x m B=>exact .cons rfl B]
end
open PySem PySem.Spec PyProof.Rows
section
variable{X:Cx}{U:aI}{D:GD}{M β γ:Type}[Py M][Py β][Py γ]{e e1 e2:Ô}{b b1 b2:Bool}{pos p:ì}{rest st:List Ñ}
def Jm{i:Int}{xs:List Int}:CV X .NotIn i xs (!decide (i∈xs)):=#[_,vI,λN N' H v w Q h1 h2 q=>by
 obtain⟨p,vs,rfl,a,n,r⟩:=h2;cases h1;refine#[p,vs,rfl,.inl a,rfl,?_,?_]
 .rw[o_ r];simp[oq]
 .rwa[o_ r,zz]]
end
end L2.EP
namespace Q
variable{p a b x k c s q n y r N m v f g A u:Int}{l L:List Int}{w:List (Int×Int)}
theorem tD(f:Int->Bool):∀(xs ys:List Int),oF (xs++ys) f=(oF xs f==oF ys f)
 |[],ys=>by rw[aaE,wU];cases oF ys f<;>rfl
 |x::xs,ys=>by
  rw[aaB,dY,dY,tD f xs ys];generalize f x=a;generalize oF xs f=b;generalize oF ys f=c;revert a b c;decide
theorem kh:∀{L α:List Int},L.Nodup->(∀x∈L,x∈α)->L.length<=α.length
 |[],α,_,_=>Yc _
 |x::L,α,d,h=>by
  obtain⟨f,c⟩:=Ym.mp d;have a:=h x Xo;have e:=kh (α:=α.erase x) c λy b=>(abe (by rintro rfl;exact f b)).mpr (h y (Xj _ b));have g:0<α.length:=List.length_pos_of_mem a;rw[List.length_erase_of_mem a] at e;rw[Yd];lia
def Ov(c:Int)(h:p∣x):p∣c*x:=XU h #[c,XY _ _]
noncomputable def Ie:List Int:=[3,5,7,11,13]
def JH(hp:aO p=Á)(h:bp a p=1):∃r t:Int,r*r=a+p*t:=by
 cases b:xi a p with
 |none=>rw[tf.mp b] at h;cases h
 |some r =>
  obtain⟨_,t,c⟩:=B9 hp b;exact#[r,t,.b]
def Oe(hp:aO p=Á)(ha:¬p∣a)(c:¬p∣b):¬p∣a*b:=λz=>(euclid hp z).elim ha c
noncomputable def R6(r:Nat):Int×Int:=if r%2=1 then (0,((r%8:Nat):Int)) else (1,(((r/2)%8:Nat):Int))
def Sk:List Nat:=[0,1,4,9]
def JV(h:a%4≠0):cls a 2=R6 (a%16).toNat:=by
 unfold R6;by_cases b:a%2=1
 .rw[Xc .b,bH .a .b,Xc rfl];congr 1;lia
 .rw[W_ .b];have:=jB (k:=a/2) (d:=2) (v:=1) .a .b;rw[acu,show a/2*2=a by lia] at this;unfold cls;rw[this,Xc rfl];show((1:Int)%2,a/2%8)=_;congr 1;lia
def Q4(x:Int):(x*x%16).toNat∈Sk/\((x*x%16).toNat%2=1↔¬(2:Int)∣x):=by
 have e:x*x%16=(x%16)*(x%16)%16:=by rw[YC]
 have h1:0<=x%16/\x%16<16:=by lia
 have h2:(2:Int)∣x↔(x%16)%2=0:=by lia
 rw[e,h2];generalize x%16=r at *;have:r=0\/r=1\/r=2\/r=3\/r=4\/r=5\/r=6\/r=7\/r=8\/r=9\/r=10\/r=11\/r=12\/r=13\/r=14\/r=15:=by lia
 rcases this with rfl|rfl|rfl|rfl|rfl|rfl|rfl|rfl|rfl|rfl|rfl|rfl|rfl|rfl|rfl|rfl<;>decide
noncomputable def Q6:List Int:=[2,3,5,7,11,13]
noncomputable def QB(p:Int):List Int:=if p=3 then [1] else if p=5 then [1,4] else if p=7 then [1,2,4] else if p=11 then [1,3,4,5,9] else [1,3,4,9,10,12]
def Pe:∀p∈([3,5,7,11,13]:List Nat),∀r∈Ò p,(bp (r:Int) (p:Int)=1↔(r:Int)∈QB (p:Int)):=by decide +kernel
def LP(hp:p∈Ie):bp k p=1↔k%p∈QB p:=by
 have b:p.toNat∈([3,5,7,11,13]:List Nat):=by
  simp only[Ie,Xa,Xe,XA] at hp;rcases hp with rfl|rfl|rfl|rfl|rfl<;>decide
 have a:0<p:=by
  simp only[Ie,Xa,Xe,XA] at hp;lia
 have h1:=XO k (Int.ne_of_gt a);have h2:=XF k a;have:=Pe p.toNat b (k%p).toNat (Yh.mpr .b);rwa[show(((k%p).toNat:Nat):Int)=k%p by lia,show((p.toNat:Nat):Int)=p by lia,wI] at this
def cR(s:Int)(w:List (Int×Int)):Int:=(Q6.zip w).foldl (λa u=>if u.2.1=1 then a*u.1 else a) s
structure GW(s:Int)(w:List (Int×Int)):Prop where
 sg:s=1\/s=-1
 len:w.length=6
 a:∀j,j<6->(w.getD j (0,1)).1=0\/(w.getD j (0,1)).1=1
 u2:(w.getD 0 (0,1)).2∈[(1:Int),3,5,7]
 u:∀j,1<=j->j<6->(w.getD j (0,1)).2=1\/(w.getD j (0,1)).2=-1
def bits:List (List Int):=(Ò 64).map fun(m:Nat)=>[(m:Int)%2,(m:Int)/2%2,(m:Int)/4%2,(m:Int)/8%2,(m:Int)/16%2,(m:Int)/32%2]
def Iz(s:Int)(a:List Int):Int:=(Q6.zip a).foldl (λb u=>if u.2=1 then b*u.1 else b) s
def A_(k p a:Int):Int:=if a=1 then k/p else k
def Mk:∀s∈[(1:Int),-1],∀a∈bits,Iz s a≠0/\(-30030<=Iz s a/\Iz s a<=30030)/\(0<Iz s a↔s=1)/\∀j∈Ò 6,((a.getD j 0=1->Iz s a/Q6.getD j 1*Q6.getD j 1=Iz s a)/\A_ (Iz s a) (Q6.getD j 1) (a.getD j 0)%Q6.getD j 1≠0):=by decide +kernel
def J6:∀f∈[(0:Int),1],∀b∈[(0:Int),1],∀a∈[(0:Int),1],∀c∈[(0:Int),1],∀e∈[(0:Int),1],∀d∈[(0:Int),1],[f,b,a,c,e,d]∈bits:=by decide +kernel
def six{M:Type}{w:List M}(h:w.length=6):∃a b c d e f,w=[a,b,c,d,e,f]:=by
 match w,h with
 |[a,b,c,d,e,f],_=>exact#[a,b,c,d,e,f,rfl]
def GB(h:w.length=6):cR s w=Iz s (w.map (·.1)):=by
 obtain⟨a,b,c,d,e,f,rfl⟩:=six h;rfl
def GW.bits{s:Int}{w:List (Int×Int)}(h:GW s w):w.map (·.1)∈bits:=by
 obtain⟨a,b,c,d,e,f,rfl⟩:=six h.len;have z:=λj g=>h.a j g;have m:∀x:Int,x=0\/x=1->x∈[(0:Int),1]:=λx i=>by simpa using i
 exact J6 _ (m _ (z 0 .a)) _ (m _ (z 1 .a)) _ (m _ (z 2 .a)) _ (m _ (z 3 .a)) _ (m _ (z 4 .a)) _ (m _ (z 5 .a))
def GW.st(h:GW s w):cR s w≠0/\(-30030<=cR s w/\cR s w<=30030)/\(0<cR s w↔s=1)/\∀j,j<6->(((w.getD j (0,1)).1=1->cR s w/Q6.getD j 1*Q6.getD j 1=cR s w)/\¬Q6.getD j 1∣A_ (cR s w) (Q6.getD j 1) (w.getD j (0,1)).1):=by
 have c:s∈[(1:Int),-1]:=by simpa using h.sg
 obtain⟨h1,h2,b,a⟩:=Mk s c _ h.bits;rw[<-GB h.len] at h1 h2 b a;refine#[h1,h2,b,λj d=>?_];have:=a j (Yh.mpr d)
 have e:(w.map (·.1)).getD j 0=(w.getD j (0,1)).1:=by
  have f:=h.len;rw[Xh,Xh,Xw,Xn .b];rfl
 rw[e] at this;exact#[this.1,λz=>this.2 (Ya z)]
def jc:∀j,j<6->aO (Q6.getD j 1)=Á:=λj a=>tY _ (by
 have:j=0\/j=1\/j=2\/j=3\/j=4\/j=5:=by lia
 rcases this with rfl|rfl|rfl|rfl|rfl|rfl<;>decide)
def Kl(q:Int):Prop:=∀j,j<6->¬Q6.getD j 1∣q
def ja(b:aO q=Á)(h:17<=q):Kl q:=λj a z=>by
 have:=bC (jc j a) b z;have:j=0\/j=1\/j=2\/j=3\/j=4\/j=5:=by lia
 rcases this with rfl|rfl|rfl|rfl|rfl|rfl<;>(simp[Q6] at *;lia)
def Ih:Kl 1:=λj a z=>by
 have:=Xt .a z;have:=aq (jc j a);lia
def Ll(h:GW s w)(g:Kl q){j:Nat}(d:j<6):aV (cR s w*q) (Q6.getD j 1)=((w.getD j (0,1)).1,A_ (cR s w) (Q6.getD j 1) (w.getD j (0,1)).1*q)/\¬Q6.getD j 1∣A_ (cR s w) (Q6.getD j 1) (w.getD j (0,1)).1*q:=by
 obtain⟨_,_,_,f⟩:=h.st;obtain⟨e1,e2⟩:=f j d;have hp:=jc j d;have c:=aq hp;have b:¬Q6.getD j 1∣A_ (cR s w) (Q6.getD j 1) (w.getD j (0,1)).1*q:=λz=>(euclid hp z).elim e2 (g j d);refine#[?_,b];rcases h.a j d with z|z
 .have e:A_ (cR s w) (Q6.getD j 1) (w.getD j (0,1)).1=cR s w:=by unfold A_;rw[W_ .b]
  rw[e] at b ⊢;rw[n9 c b,z]
 .have e:A_ (cR s w) (Q6.getD j 1) (w.getD j (0,1)).1=cR s w/Q6.getD j 1:=by unfold A_;rw[Xc z]
  have e3:=e1 z;rw[e] at b ⊢;have:=jB (k:=cR s w/Q6.getD j 1*q) (v:=1) c b;rw[acu,show cR s w/Q6.getD j 1*q*Q6.getD j 1=(cR s w/Q6.getD j 1*Q6.getD j 1)*q by grind,e3] at this;rw[this,z];rfl
def B0(k s:Int)(w:List (Int×Int)):Bool:=decide ((if 0<k then 1 else -1)=s)&&(Q6.zip w).all λu=>decide (cls k u.1=u.2)
def Om(k p:Int):Int:=if k%p=0 then k/p else k
def Af:∀j,j<5->Ie.getD j 1=Q6.getD (j+1) 1/\Ie.getD j 1∈Ie/\Ie.getD j 1≠2:=λj a=>by
 have:j=0\/j=1\/j=2\/j=3\/j=4:=by lia
 rcases this with rfl|rfl|rfl|rfl|rfl<;>decide
def Ah(h:GW s w)(i:Kl q){j:Nat}(b:j<6):Om (cR s w*q) (Q6.getD j 1)=A_ (cR s w) (Q6.getD j 1) (w.getD j (0,1)).1*q:=by
 obtain⟨_,d⟩:=Ll h i b;obtain⟨_,_,_,f⟩:=h.st;obtain⟨e1,_⟩:=f j b;have g:=aq (jc j b);unfold Om;rcases h.a j b with z|z
 .have e:A_ (cR s w) (Q6.getD j 1) (w.getD j (0,1)).1=cR s w:=by unfold A_;rw[W_ .b]
  rw[e] at d ⊢;rw[W_ λc=>d (Xu c)]
 .have e:A_ (cR s w) (Q6.getD j 1) (w.getD j (0,1)).1=cR s w/Q6.getD j 1:=by unfold A_;rw[Xc z]
  have e3:=e1 z;rw[e];generalize cR s w/Q6.getD j 1=m at *;rw[<-e3,Xc (Ya #[m*q,by grind]),show m*Q6.getD j 1*q=(m*q)*Q6.getD j 1 by grind,Int.mul_ediv_cancel _ .b]
def Ce(n:w.length=6):B0 k s w=Á↔(if 0<k then (1:Int) else -1)=s/\∀j,j<6->cls k (Q6.getD j 1)=w.getD j (0,1):=by
 obtain⟨a,b,c,d,e,f,rfl⟩:=six n;unfold B0;rw[XW,Zv];refine and_congr Ŕ ?_;have:(Q6.zip [a,b,c,d,e,f])=[(2,a),(3,b),(5,c),(7,d),(11,e),(13,f)]:=rfl;rw[this];simp only[acE,List.all_nil,XW,Zv,and_true];constructor
 .rintro⟨m,h1,h2,i,g,l⟩ j o;have:j=0\/j=1\/j=2\/j=3\/j=4\/j=5:=by lia
  rcases this with rfl|rfl|rfl|rfl|rfl|rfl
  .exact m
  .exact h1
  .exact h2
  .exact i
  .exact g
  .exact l
 .intro h;exact#[h 0 .a,h 1 .a,h 2 .a,h 3 .a,h 4 .a,h 5 .a]
def Ii(h:GW s w)(g:Kl q)(i:0<q):B0 (cR s w*q) s w=Á↔Om (cR s w*q) 2%8=(w.getD 0 (0,1)).2/\∀j,j<5->bp (Om (cR s w*q) (Ie.getD j 1)) (Ie.getD j 1)=(w.getD (j+1) (0,1)).2:=by
 obtain⟨m,_,d,_⟩:=h.st;rw[Ce h.len]
 have l:(if 0<cR s w*q then (1:Int) else -1)=s:=by
  rcases h.sg with z|z
  .rw[Xc (X7 (d.mpr z) i),z]
  .have:¬0<cR s w:=λc=>by have:=d.mp c;lia
   have:cR s w*q<0:=Yy .b i;rw[W_ .b,z]
 have ec:∀j,j<6->(cls (cR s w*q) (Q6.getD j 1)=w.getD j (0,1)↔(if Q6.getD j 1=2 then Om (cR s w*q) (Q6.getD j 1)%8 else bp (Om (cR s w*q) (Q6.getD j 1)) (Q6.getD j 1))=(w.getD j (0,1)).2):=λj b=>by
  obtain⟨e1,_⟩:=Ll h g b;rw[Ah h g b];unfold cls;rw[e1];dsimp only;have k:(w.getD j (0,1)).1%2=(w.getD j (0,1)).1:=by rcases h.a j b with z|z<;>rw[z]<;>decide
  rw[k];constructor
  .intro c;rw[<-c]
  .intro c;rw[c]
 constructor
 .rintro⟨_,c⟩;refine#[?_,λj b=>?_]
  .have:=(ec 0 .a).mp (c 0 .a);exact this
  .obtain⟨e,p2,f⟩:=Af j b;have:=(ec (j+1) .b).mp (c (j+1) .b);rwa[<-e,W_ f] at this
 .rintro⟨c0,c⟩;refine#[l,λj b=>(ec j b).mpr ?_]
  match j,b with
  |0,_=>exact c0
  |j+1,b =>
   obtain⟨e,p2,f⟩:=Af j .b;rw[<-e,W_ f];exact c j .b
noncomputable def xt:List Nat:=[17,19,23,29,31,37,41,43,47,53,59,61,67,71,73,79,83,89,97,101,103,107,109,113,127,131,137,139,149,151,157,167,173,179,181,191,193,197,199,211,223,229,233,239,241,251,257,263,269,271,277,281,283,293,307,311,313,317,331,337,349,353,389,397,401,421,439,443,461,463,467,479,491,503,509,521,563,569,587,593,601,607,613,619,631,641,643,647,683,733,739,743,751,757,773,797,823,827,839,859,863,883,937,967,997,1009,1019,1031,1061,1171,1321,1361,1381,1483,1559,1609,1621,1723,1733,1873,1913,1931,2017,2521,2689,2699,3583,8089]
def RN(q:Nat):Nat:=((Ò 46).find? λm=>decide (q<(2*m+3)*(2*m+3))).getD 0
def uI:∀q∈xt,uR q (RN q)=Á/\17<=q/\q%2=1/\q<=8089/\q<(2*RN q+3)*(2*RN q+3):=by decide +kernel
def qm(q:Nat)(p:Int):Bool:=decide ((q:Int)%p∈QB p)
def Jd:∀c∈[1,3,5,7],∀a∈[Á,Â],∀e1∈[Á,Â],∀e2∈[Á,Â],∀e3∈[Á,Â],∀e4∈[Á,Â],(xt.any λq=>decide (q%8=c)&&(qm q 3==a)&&(qm q 5==e1)&&(qm q 7==e2)&&(qm q 11==e3)&&(qm q 13==e4))=Á:=by decide +kernel
def SA(ha:a=1\/a=-1)(d:b=1\/b=-1)(e:c=1\/c=-1)(h:decide (b=1)=(decide (a=1)==decide (c=1))):a*b=c:=by
 rcases ha with rfl|rfl<;>rcases d with rfl|rfl<;>rcases e with rfl|rfl<;>revert h<;>decide
def RQ(h:GW s w):∃q,aO q=Á/\17<=q/\q<=8089/\B0 (cR s w*q) s w=Á:=by
 have n:∀{q:Nat} {x:Int},q%8=(x%8).toNat->(q:Int)%8=x%8:=λh=>by lia
 have c:∀{x:Int},x%2=1->x%8=1\/x%8=3\/x%8=5\/x%8=7:=λh=>by lia
 obtain⟨m,o⟩:∃m:Nat->Int,∀j,m j=A_ (cR s w) (Q6.getD j 1) (w.getD j (0,1)).1:=#[_,λ_=>rfl];have v:∀j,j<6->¬Q6.getD j 1∣m j:=λj l=>by rw[o];exact(h.st.2.2.2 j l).2
 have m2:m 0%2=1:=by
  have:=v 0 .a;simp[Q6] at this;lia
 have G:((m 0*(w.getD 0 (0,1)).2)%8).toNat∈[1,3,5,7]:=by
  have d:=h.u2;simp only[Xa,Xe,XA] at d ⊢;have g:=c m2;rw[YC];rcases d with z|z|z|z<;>rcases g with y|y|y|y<;>rw[z,y]<;>decide
 have bl:∀b:Bool,b∈[Á,Â]:=by decide
 obtain⟨e,he⟩:∃e:Nat->Bool,∀j,e j=(decide (bp (m (j+1)) (Ie.getD j 1)=1)==decide ((w.getD (j+1) (0,1)).2=1)):=#[_,λ_=>rfl];obtain⟨q,C,t⟩:=YI.mp (Jd _ G (e 0) (bl _) (e 1) (bl _) (e 2) (bl _) (e 3) (bl _) (e 4) (bl _));simp only[XW,Zv,aaQ] at t;obtain⟨⟨⟨⟨⟨α,E⟩,K⟩,D⟩,H⟩,J⟩:=t;obtain⟨L,O,A,P,I⟩:=uI q C;have hp:aO (q:Int)=Á:=ic L .b A I;have f:=ja hp .b;refine#[q,hp,.b,.b,(Ii h f .b).mpr #[?_,λj l=>?_]]
 .have:=Ah h f (show 0<6 by decide);rw[<-o] at this;rw[show(2:Int)=Q6.getD 0 1 from rfl,this];have d:=h.u2;simp only[Xa,Xe,XA] at d;have g:=c m2;have p:=n α;rw[YC,p,YC (m 0) ((w.getD 0 (0,1)).2)];rcases d with z|z|z|z<;>rcases g with y|y|y|y<;>rw[z,y]<;>decide
 .obtain⟨r,p2,N⟩:=Af j l;have:=Ah h f (show j+1<6 by lia);rw[<-o] at this;rw[r,this];have i:=jc (j+1) .b;rw[cT i]
  have a:qm q (Q6.getD (j+1) 1)=e j:=by
   have:j=0\/j=1\/j=2\/j=3\/j=4:=by lia
   rcases this with rfl|rfl|rfl|rfl|rfl
   .exact E
   .exact K
   .exact D
   .exact H
   .exact J
  rw[he,r] at a;unfold qm at a;rw[r] at p2;have F:=LP (k:=(q:Int)) p2;have B:decide ((q:Int)%Q6.getD (j+1) 1∈QB (Q6.getD (j+1) 1))=decide (bp (q:Int) (Q6.getD (j+1) 1)=1):=aa4.mpr F.symm;rw[B] at a;exact SA (bu (v (j+1) .b)) (bu (f (j+1) .b)) (h.u (j+1) .b .b) a
def PZ(l:List Int)(p N:Int):Prop:=∃xs:List Int,xs.length=l.length/\N∣d8 l xs/\∃x∈xs,¬p∣x
def Aq(hp:aO p=Á)(ha:¬p∣a)(h:p∣a*x*x-a*y*y):p∣x-y\/p∣x+y:=by
 rw[show a*x*x-a*y*y=a*((x-y)*(x+y)) by grind] at h;rcases euclid hp h with h|h
 .exact absurd h ha
 .exact euclid hp h
def half(p:Int):List Int:=(Ò ((p+1)/2).toNat).map fun(i:Nat)=>(i:Int)
def FY(hp:2<=p):x∈half p↔0<=x/\x<(p+1)/2:=by
 unfold half;simp only[Xs,Yh];constructor
 .rintro⟨i,h,rfl⟩;lia
 .rintro⟨h1,h2⟩;exact#[x.toNat,.b,.b]
theorem nodup_map_on{f:Int->Int}:∀{l:List Int},l.Nodup->(∀x∈l,∀y∈l,f x=f y->x=y)->(l.map f).Nodup
 |[],_,_=>Z7
 |a::l,c,d=>by
  rw[Ym] at c;rw[XQ,Ym];refine#[λh=>?_,nodup_map_on c.2 λx i y j=>d x (by simp[i]) y (by simp[j])];obtain⟨b,g,e⟩:=Xs.mp h;have:=d b (by simp[g]) a .c e;subst this;exact c.1 g
def tR(p:Int):(half p).Nodup:=by
 unfold half;rw[show(Ò ((p+1)/2).toNat).map (fun(i:Nat)=>(i:Int))=((Ò ((p+1)/2).toNat).map fun(i:Nat)=>(i:Int)) from rfl];exact aaa.map _ λa b h e=>h .b
def yQ(hp:aO p=Á)(h2:p≠2)(f:¬p∣s)(d:x∈half p)(g:y∈half p)(e:(c+s*x*x)%p=(c+s*y*y)%p):x=y:=by
 have a:=aq hp;have i:=gQ hp h2;rw[FY a] at d g
 have b:p∣s*x*x-s*y*y:=by
  have:=wy.mp e
  rwa [show c+s*x*x-(c+s*y*y)=s*x*x-s*y*y by lia] at this
 rcases Aq hp f b with h|h
 .have:=b_ h .b .b;lia
 .have:=b_ h .b .b;lia
def Gf(c:Int)(hp:aO p=Á)(h2:p≠2)(ha:¬p∣a)(q:¬p∣b):∃x y:Int,p∣a*x*x+b*y*y-c:=by
 have l:=aq hp;have C:=gQ hp h2;apply Xf;intro s;have k:¬p∣-b:=λz=>q (Yp.mp z);have A:((half p).map λx=>(0+a*x*x)%p).Nodup:=nodup_map_on (tR p) λx f y g e=>yQ hp h2 ha f g e;have o:((half p).map λy=>(c+-b*y*y)%p).Nodup:=nodup_map_on (tR p) λx f y g e=>yQ hp h2 k f g e
 have t:((half p).map (λx=>(0+a*x*x)%p)++(half p).map λy=>(c+-b*y*y)%p).Nodup:=by
  rw[aaX];refine#[A,o,λu j v n e=>s ?_];obtain⟨x,_,rfl⟩:=Xs.mp j;obtain⟨y,_,rfl⟩:=Xs.mp n;refine#[x,y,?_];have:=wy.mp e
  rwa [show 0+a*x*x-(c+-b*y*y)=a*x*x+b*y*y-c by grind] at this
 have m:=kh t (α:=(Ò p.toNat).map fun(i:Nat)=>(i:Int)) λu j=>by
  have d:∃w,u=w%p:=by
   rcases X2.mp j with h|h
   .obtain⟨x,_,rfl⟩:=Xs.mp h;exact#[_,rfl]
   .obtain⟨x,_,rfl⟩:=Xs.mp h;exact#[_,rfl]
  obtain⟨w,rfl⟩:=d;have h1:=XO w (b:=p) .b;have B:=XF w (b:=p) .b;exact Xs.mpr #[(w%p).toNat,Yh.mpr .b,.b]
 have r:(half p).length=((p+1)/2).toNat:=by unfold half;simp
 simp only[XD,Xk,Zb,r] at m;lia
def fZ(xs:List Int):d8 [] xs=0:=by cases xs<;>rfl
theorem lF:∀l:List Int,d8 l (È l.length 0)=0
 |[]=>rfl
 |a::l=>by
  show a*0*0+d8 l (È l.length 0)=0;rw[lF l];lia
theorem jF:∀{l m xs ys:List Int},l.length=xs.length->d8 (l++m) (xs++ys)=d8 l xs+d8 m ys
 |[],_,[],_,_=>by rw[fZ];show d8 _ _=_;simp
 |a::l,m,x::xs,ys,h=>by
  show a*x*x+d8 (l++m) (xs++ys)=a*x*x+d8 l xs+d8 m ys;rw[jF ↑h];lia
def PZ.more(m:List Int)(h:PZ l p N):PZ (l++m) p N:=by
 obtain⟨xs,h1,h2,x,a,b⟩:=h;refine#[xs++È m.length 0,by simp[h1],?_,x,by simp[a],b];rw[jF h1.symm,lF];simpa using h2
def zq(hp:aO p=Á)(h2:p≠2):∀{l:List Int},(∀a∈l,¬p∣a)->(PZ l p p↔3<=l.length\/∃a b,l=[a,b]/\bp (-a*b) p=1)
 |[],_=>by
  constructor
  .rintro⟨xs,h1,_,x,i,_⟩;cases xs with
   |nil=>cases i
   |cons _ _=>cases h1
  .rintro(h|⟨a,b,h,_⟩)
   .cases h
   .cases h
 |[a],g=>by
  constructor
  .rintro⟨xs,h1,i,x,k,f⟩
   match xs,h1 with
   |[y],_ =>
    have e:x=y:=by simpa using k
    subst e;have q:p∣a*x*x:=by simpa [d8] using i
    exact absurd q (Oe hp (Oe hp (g a .c) f) f)
  .rintro(h|⟨c,b,h,_⟩)
   .exact absurd h .c
   .cases h
 |[a,b],g=>by
  have ha:=g a .c;have s:=g b .c;constructor
  .rintro⟨xs,h1,i,x,k,f⟩
   match xs,h1 with
   |[y,z],_ =>
    have n:p∣a*y*y+b*z*z:=by simpa [d8] using i
    have j:¬p∣y/\¬p∣z:=by
     have F:p∣y->p∣z:=λD=>by
      have:p∣b*z*z:=by
       have:=Zh n (Ov (a*y) D)
       rwa [show a*y*y+b*z*z-a*y*y=b*z*z by lia] at this
      rcases euclid hp this with w|w
      .exact(euclid hp w).elim (λw=>absurd w s) id
      .exact w
     have E:p∣z->p∣y:=λhz=>by
      have:p∣a*y*y:=by
       have:=Zh n (Ov (b*z) hz)
       rwa [show a*y*y+b*z*z-b*z*z=a*y*y by lia] at this
      rcases euclid hp this with w|w
      .exact(euclid hp w).elim (λw=>absurd w ha) id
      .exact w
     rcases Xa.mp k with e|e
     .subst e;exact#[f,λw=>f (E w)]
     .have e:x=z:=by simpa using e
      subst e;exact#[λw=>f (F w),f]
    refine .inr #[a,b,rfl,?_]
    have e:bp (-a*b*z*z) p=bp ((a*y)*(a*y)) p:=nR (wy.mpr (by
     rw[show -a*b*z*z-a*y*(a*y)=-a*(a*y*y+b*z*z) by grind]
     exact Ov _ n))
    have m:¬p∣-a*b:=Oe hp (λw=>ha (Yp.mp w)) s;rw[cT hp,cT hp,cT hp (a*y)] at e;have o:=Oe hp ha j.1;rcases bu m with u|u<;>rcases bu j.2 with v|v<;>rcases bu o with w|w<;>rw[u,v,w] at e<;>first|exact u|(exfalso;revert e;decide)
  .rintro(h|⟨c,d,h,B⟩)
   .exact absurd h .c
   .cases h;obtain⟨r,t,A⟩:=JH hp B;refine#[[r,a],rfl,?_,a,.c,ha];show p∣a*r*r+(b*a*a+0);rw[show a*r*r+(b*a*a+0)=a*(r*r+a*b) by grind,A];exact#[a*t,by grind]
 |a::b::c::l,g=>by
  refine#[λ_=>.inl .c,λ_=>?_];obtain⟨x,y,C⟩:=Gf (-c) hp h2 (g a .c) (g b .c)
  have:PZ [a,b,c] p p:=by
   refine#[[x,y,1],rfl,?_,1,.c,λw=>by have:=Xt .a w;have:=aq hp;lia];show p∣a*x*x+(b*y*y+(c*1*1+0))
   rwa [show a*x*x+(b*y*y+(c*1*1+0))=a*x*x+b*y*y - -c by lia]
  exact this.more l
noncomputable def sel(f:Int->Bool):List Int->List Int->List Int
 |a::l,x::xs=>if f a then x::sel f l xs else sel f l xs
 |_,_=>[]
def f7(p a:Int):Bool:=decide (a%p=0)
def p_(p:Int)(l:List Int):List Int:=l.filter λa=>!f7 p a
def rn(p:Int)(l:List Int):List Int:=(l.filter (f7 p)).map (·/p)
def Lr(z:f7 p a=Á):p_ p (a::l)=p_ p l:=by unfold p_;exact Yv (p:=λa=>!f7 p a) (by simp[z])
def LF(z:f7 p a=Á):rn p (a::l)=a/p::rn p l:=by unfold rn;rw[Yw z];rfl
def Ln(z:¬f7 p a=Á):p_ p (a::l)=a::p_ p l:=by unfold p_;exact Yw (p:=λa=>!f7 p a) (by simp[z])
def KC(z:¬f7 p a=Á):rn p (a::l)=rn p l:=by unfold rn;rw[Yv z]
def lG{f:Int->Bool}{xs:List Int}(z:f a=Á):sel f (a::l) (x::xs)=x::sel f l xs:=Xc z
def lE{f:Int->Bool}{xs:List Int}(z:¬f a=Á):sel f (a::l) (x::xs)=sel f l xs:=W_ z
theorem xr(f:Int->Bool):∀{l xs:List Int},xs.length=l.length->(sel f l xs).length=(l.filter f).length
 |[],[],_=>rfl
 |a::l,x::xs,h=>by
  have b:=xr f (l:=l) (xs:=xs) ↑h;unfold sel;by_cases z:f a=Á
  .rw[Xc z,Yw z,Yd,Yd,b]
  .rw[W_ z,Yv z,b]
theorem lu{p:Int}(hp:2<=p):∀{l xs:List Int},xs.length=l.length->d8 l xs=d8 (p_ p l) (sel (λa=>!f7 p a) l xs)+p*d8 (rn p l) (sel (f7 p) l xs)
 |[],[],_=>by simp[d8,p_,rn]
 |a::l,x::xs,h=>by
  have c:=lu hp (l:=l) (xs:=xs) ↑h;show a*x*x+d8 l xs=_;rw[c];by_cases z:f7 p a=Á
  .have b:¬(!f7 p a)=Á:=by simp[z]
   have e:p*(a/p)=a:=ZZ (Xu (Xq z));rw[Lr z,LF z,lG z,lE (f:=λa=>!f7 p a) b];show _=_+p*(a/p*x*x+_);rw[Zg,show p*(a/p*x*x)=(p*(a/p))*x*x by grind,e];lia
  .have b:(!f7 p a)=Á:=by simp[z]
   rw[Ln z,KC z,lE z,lG (f:=λa=>!f7 p a) b];show _=a*x*x+_+_;lia
theorem Fi(f:Int->Bool):∀{l xs:List Int} {Q:Int->Prop},xs.length=l.length->(∃x∈xs,Q x)->(∃x∈sel f l xs,Q x)\/∃x∈sel (λa=>!f a) l xs,Q x
 |[],[],_,_,⟨x,h,_⟩=>by cases h
 |a::l,x::xs,Q,h,he=>by
  have c:=Fi f (l:=l) (xs:=xs) (Q:=Q) ↑h;rw[jH] at he;by_cases z:f a=Á
  .have b:¬(!f a)=Á:=by simp[z]
   rw[lG z,lE (f:=λa=>!f a) b,jH];rcases he with he|he
   .exact .inl (.inl he)
   .exact(c he).imp .inr id
  .have b:(!f a)=Á:=by simp[z]
   rw[lE z,lG (f:=λa=>!f a) b,jH];rcases he with he|he
   .exact .inr (.inl he)
   .exact(c he).imp id .inr
noncomputable def Hk(f:Int->Bool):List Int->List Int->List Int->List Int
 |a::l,ys,zs=>if f a then (match ys with|y::ys=>y::Hk f l ys zs|[]=>0::Hk f l [] zs) else (match zs with|z::zs=>z::Hk f l ys zs|[]=>0::Hk f l ys [])
 |[],_,_=>[]
theorem wV(f:Int->Bool):∀{l ys zs:List Int},ys.length=(l.filter f).length->zs.length=(l.filter λa=>!f a).length->(Hk f l ys zs).length=l.length/\sel f l (Hk f l ys zs)=ys/\sel (λa=>!f a) l (Hk f l ys zs)=zs
 |[],ys,zs,h1,h2=>by
  have e1:ys=[]:=YX.mp h1;have e2:zs=[]:=YX.mp h2;subst e1;subst e2;exact#[rfl,rfl,rfl]
 |a::l,ys,zs,h1,h2=>by
  by_cases z:f a=Á
  .have b:¬(!f a)=Á:=by simp[z]
   rw[Yw z] at h1;rw[Yv (p:=λa=>!f a) b] at h2
   match ys,h1 with
   |y::ys,h1 =>
    obtain⟨c,e,d⟩:=wV f (l:=l) (ys:=ys) (zs:=zs) ↑h1 h2;unfold Hk;rw[Xc z];dsimp only;rw[lG z,lE (f:=λa=>!f a) b,e,d];exact#[by simp[c],rfl,rfl]
  .have b:(!f a)=Á:=by simp[z]
   rw[Yv z] at h1;rw[Yw (p:=λa=>!f a) b] at h2
   match zs,h2 with
   |w::zs,h2 =>
    obtain⟨c,e,d⟩:=wV f (l:=l) (ys:=ys) (zs:=zs) h1 ↑h2;unfold Hk;rw[W_ z];dsimp only;rw[lE z,lG (f:=λa=>!f a) b,e,d];exact#[by simp[c],rfl,rfl]
theorem q_(f:Int->Bool):∀{l xs:List Int} {x:Int},x∈sel f l xs->x∈xs
 |[],_,_,h=>by simp[sel] at h
 |_::_,[],_,h=>by simp[sel] at h
 |a::l,y::xs,x,h=>by
  unfold sel at h;split at h
  .rcases Xa.mp h with e|e
   .exact Xa.mpr (.inl e)
   .exact Xa.mpr (.inr (q_ f e))
  .exact Xa.mpr (.inr (q_ f h))
theorem Br{d:Int}:∀{l xs:List Int},(∀x∈xs,d∣x)->d*d∣d8 l xs
 |[],xs,_=>by rw[fZ];exact aaO _
 |_::_,[],_=>aaO _
 |a::l,x::xs,h=>by
  show d*d∣a*x*x+d8 l xs;obtain⟨t,rfl⟩:=h x .c;exact Ϻ #[a*t*t,by grind] (Br λy b=>h y (by simp[b]))
theorem Ly{p:Int}(hp:aO p=Á)(h2:p≠2):∀{l xs:List Int} (r:Int),xs.length=l.length->(∀a∈l,¬p∣a)->p∣d8 l xs-r->(∃x∈xs,¬p∣x)->∃ys:List Int,ys.length=l.length/\p*p∣d8 l ys-r/\∃y∈ys,¬p∣y
 |[],[],_,_,_,_,⟨x,h,_⟩=>by cases h
 |a::l,x::xs,r,k,m,s,he=>by
  have o:=aq hp;by_cases d:p∣x
  .have j:∃y∈xs,¬p∣y:=by
    rw[jH] at he;exact he.resolve_left λz=>z d
   obtain⟨ys,E,F,B⟩:=Ly hp h2 (l:=l) (xs:=xs) (r-a*x*x) ↑k (λb C=>m b (by simp[C])) (by
    show p∣d8 l xs-(r-a*x*x)
    rwa [show d8 l xs-(r-a*x*x)=(a*x*x+d8 l xs)-r by lia]) j
   refine#[x::ys,by simp[E],?_,?_]
   .show p*p∣a*x*x+d8 l ys-r
    rwa [show a*x*x+d8 l ys-r=d8 l ys-(r-a*x*x) by lia]
   .obtain⟨y,D,f⟩:=B;exact#[y,by simp[D],f]
  .-- x+p t: a (x+p t)^2=a x^2+2 a x p t+p^2 ..
   obtain⟨q,w⟩:=s;have i:¬p∣(2:Int):=λz=>h2 (bC hp aP z);have f:¬p∣2*a*x:=Oe hp (Oe hp i (m a .c)) d
   obtain⟨u,v,g⟩:∃u v:Int,2*a*x*u=1+p*v:=by
    have n:=He hp f;obtain⟨v,A⟩:=n;have c:(p-1).toNat=(p-2).toNat+1:=by lia
    refine#[(2*a*x)^(p-2).toNat,v,?_];rw[c,XE] at A;have:2*a*x*(2*a*x)^(p-2).toNat=(2*a*x)^(p-2).toNat*(2*a*x):=XY _ _;lia
   refine#[(x+p*(-(q*u)))::xs,↑k,?_,x+p*(-(q*u)),.c,λz=>d ?_]
   .show p*p∣a*(x+p*(-(q*u)))*(x+p*(-(q*u)))+d8 l xs-r;have e:a*x*x+d8 l xs-r=p*q:=w;refine#[-(q*v)+a*(q*u)*(q*u),?_];have e2:a*(x+p*(-(q*u)))*(x+p*(-(q*u)))+d8 l xs-r=(a*x*x+d8 l xs-r)-p*q*(2*a*x*u)+p*p*(a*(q*u)*(q*u)):=by grind
    rw[e2,e,g];grind
   .have:=Zh z #[-(q*u),rfl]
    rwa [show x+p*(-(q*u))-p*(-(q*u))=x by lia] at this
def yM(hp:aO p=Á)(h2:p≠2):PZ l p (p*p)↔PZ (p_ p l) p p\/PZ (rn p l) p p:=by
 have c:=aq hp
 have B:∀a∈p_ p l,¬p∣a:=λa ha z=>by
  have:=(Ye.mp ha).2;simp only[f7,abM,aaT] at this;exact this (Ya z)
 have j:(rn p l).length=(l.filter (f7 p)).length:=by unfold rn;rw[Xk]
 constructor
 .rintro⟨xs,h1,b,d⟩;have m:=lu c h1;have A:=xr (λa=>!f7 p a) h1;have r:=xr (f7 p) h1;by_cases g:∃x∈sel (λa=>!f7 p a) l xs,¬p∣x
  .refine .inl #[_,A,?_,g];have:p∣d8 l xs:=XU #[p,rfl] b;rw[m] at this;have:=Zh this #[d8 (rn p l) (sel (f7 p) l xs),rfl]
   rwa [Ζ] at this
  .refine .inr #[_,r.trans j.symm,?_,?_]
   .have hz:∀x∈sel (λa=>!f7 p a) l xs,p∣x:=λx k=>Xf λz=>g #[x,k,z];have o:=Br (l:=p_ p l) hz;rw[m] at b;have n:=Zh b o;rw[show d8 (p_ p l) (sel (λa=>!f7 p a) l xs)+p*d8 (rn p l) (sel (f7 p) l xs)-d8 (p_ p l) (sel (λa=>!f7 p a) l xs)=p*d8 (rn p l) (sel (f7 p) l xs) by lia] at n;exact abu .b n
   .exact(Fi (f7 p) h1 d).resolve_right g
 .rintro(⟨ys,h1,b,d⟩|⟨zs,h1,b,d⟩)
  .obtain⟨f,w,u,s⟩:=Ly hp h2 (l:=p_ p l) (xs:=ys) 0 h1 B ↑b d
   obtain⟨m1,m2,m3⟩:=wV (λa=>!f7 p a) (l:=l) (ys:=f) (zs:=È (rn p l).length 0) w (by
    rw[aa6,j];congr 2;funext a;simp)
   refine#[_,m1,?_,?_]
   .rw[lu c m1,m2]
    have:sel (f7 p) l (Hk (λa=>!f7 p a) l f (È (rn p l).length 0))=È (rn p l).length 0:=by
     have q:=m3;rwa[show(λa=>!!f7 p a)=f7 p by funext a;simp] at q
    rw[this,lF];simpa using u
   .obtain⟨y,h,i⟩:=s;exact#[y,q_ _ (by rwa[m2]),i]
  .obtain⟨m1,m2,m3⟩:=wV (λa=>!f7 p a) (l:=l) (ys:=È (p_ p l).length 0) (zs:=zs) (by simp[p_]) (by
    rw[h1,j];congr 2;funext a;simp)
   have e:sel (f7 p) l (Hk (λa=>!f7 p a) l (È (p_ p l).length 0) zs)=zs:=by
    have:=m3;rwa[show(λa=>!!f7 p a)=f7 p by funext a;simp] at this
   refine#[_,m1,?_,?_]
   .rw[lu c m1,m2,e,lF];obtain⟨t,v⟩:=b;exact#[t,by rw[v];grind]
   .obtain⟨y,h,i⟩:=d;exact#[y,q_ _ (by rwa[e]),i]
noncomputable def ME(m:Int):List (Int×Int)->Bool
 |[]=>Á
 |[_]=>Â
 |[a,b]=>decide (bq (bq (0,m) a 3) b 3=(0,1))
 |[a,b,c]=>lJ (bq (bq (0,m) a 3) c 3) (bq (bq (0,m) b 3) c 3) m
 |[a,b,c,d]=>!decide (bq (bq (bq a b 3) c 3) d 3=(0,1)) || lJ (bq (bq (0,m) a 3) c 3) (bq (bq (0,m) b 3) c 3) m
 |_=>Á
noncomputable def OP(m:Int)(cs:List (Int×Int)):Bool:=match cs with
 |[a,b]=>decide (m*a.2*b.2=1)
 |_::_::_::_=>Á
 |_=>Â
def Kx(m:Int)(cs:List (Int×Int)):Bool:=OP m (cs.filter λc=>decide (c.1=0)) || OP m (cs.filter λc=>decide (c.1=1))
def SM:∀m∈[(1:Int),-1],∀a∈CO,ME m [a]=Kx m [a]:=by decide +kernel
def SU:∀m∈[(1:Int),-1],∀a∈CO,∀b∈CO,ME m [a,b]=Kx m [a,b]:=by decide +kernel
def SE:∀m∈[(1:Int),-1],∀a∈CO,∀b∈CO,∀c∈CO,ME m [a,b,c]=Kx m [a,b,c]:=by decide +kernel
def SH:∀m∈[(1:Int),-1],∀a∈CO,∀b∈CO,∀c∈CO,∀d∈CO,ME m [a,b,c,d]=Kx m [a,b,c,d]:=by decide +kernel
def vE{cs:List (Int×Int)}(h:3<=cs.length):OP m cs=Á:=by
 match cs,h with
 |_::_::_::_,_=>rfl
def Ee{cs:List (Int×Int)}(h:∀c∈cs,c.1=0\/c.1=1):(cs.filter λc=>decide (c.1=0)).length+(cs.filter λc=>decide (c.1=1)).length=cs.length:=by
 induction cs with
 |nil=>rfl
 |cons c cs a =>
  have a:=a λd b=>h d (by simp[b]);rcases h c .c with z|z
  .rw[Yw (by simp[z]),Yv (by simp[z])];simp only[Yd];lia
  .rw[Yv (by simp[z]),Yw (by simp[z])];simp only[Yd];lia
def Rc{c:Int×Int}(h:c∈CO):c.1=0\/c.1=1:=by
 revert c;decide
def Ha(f:m∈[(1:Int),-1]):∀{cs:List (Int×Int)},(∀c∈cs,c∈CO)->1<=cs.length->ME m cs=Kx m cs
 |[a],h,_=>SM m f a (h a .c)
 |[a,b],h,_=>SU m f a (h a .c) b (h b .c)
 |[a,b,c],h,_=>SE m f a (h a .c) b (h b .c) c (h c .c)
 |[a,b,c,d],h,_=>SH m f a (h a .c) b (h b .c) c (h c .c) d (h d .c)
 |a::b::c::d::e::l,h,_=>by
  have g:=Ee λc i=>Rc (h c i);show Á=_;unfold Kx;simp only[Yd] at g;rcases acJ ((a::b::c::d::e::l).filter fun(c:Int×Int)=>decide (c.1=0)).length 3 with z|z
  .rw[vE (cs:=(a::b::c::d::e::l).filter fun(c:Int×Int)=>decide (c.1=1)) .b,abf]
  .rw[vE z,ϳ]
def Bq(hp:aO p=Á):bp (-1) p∈[(1:Int),-1]:=tU (aq hp)
def mP(hp:aO p=Á)(h2:p≠2)(ha:a≠0):cls (-a) p=bq (0,bp (-1) p) (cls a p) 3:=by
 rw[show -a=-1*a by lia,aM hp .a ha,sL hp,W_ h2,bU h2]
def rO(hp:aO p=Á)(h2:p≠2):∀{l:List Int},(∀a∈l,a≠0)->bN l p=ME (bp (-1) p) (l.map λa=>cls a p)
 |[],_=>by unfold bN ME;have:=aq hp;rw[W_ .b];rfl
 |[a],_=>by have:=aq hp;rw[rG .b];rfl
 |[a,b],h=>by
  have:=aq hp;have ha:=h a .c;have g:=h b .c;rw[ll .b];show decide (cls (-a*b) p=(0,1))=decide (_=_);rw[aM hp .b g,mP hp h2 ha,bU h2]
 |[a,b,c],h=>by
  have:=aq hp;have ha:=h a .c;have g:=h b .c;have f:=h c .c;rw[dc .b];unfold ue;rw[bg .b h2,aM hp .b f,aM hp .b f,mP hp h2 ha,mP hp h2 g,bU h2,bU h2];rfl
 |[a,b,c,d],h=>by
  have:=aq hp;have ha:=h a .c;have g:=h b .c;have f:=h c .c;have j:=h d .c;have i:=Xb ha g;rw[gX .b];unfold ue;rw[bg .b h2,aM hp (a:=-a) .b f,aM hp (a:=-b) .b f,mP hp h2 ha,mP hp h2 g,bU h2,bU h2];show(!decide (cls (a*b*c*d) p=(0,1)) || _)=(!decide (_=_) || _);rw[aM hp (Xb i f) j,aM hp i f,aM hp ha g,bU h2,bU h2,bU h2]
 |a::b::c::d::e::l,_=>by
  have:=aq hp;rw[kK .b .c];rfl
def On(p:Int)(l:List Int):Prop:=∀a∈l,¬p*p∣a
def On.nz(h:On p l):∀a∈l,a≠0:=λa ha z=>h a ha (by rw[z];exact aaO _)
def Lu(hp:aO p=Á)(h2:p≠2)(h:¬f7 p a=Á):cls a p=(0,bp a p):=cQ hp h2 λz=>h (XI (Ya z))
def GV(hp:aO p=Á)(h2:p≠2)(h:f7 p a=Á)(c:¬p*p∣a):cls a p=(1,bp (a/p) p)/\¬p∣a/p:=by
 have e:p*(a/p)=a:=ZZ (Xu (Xq h));have b:¬p∣a/p:=fun⟨t,z⟩=>c #[t,by rw[<-e,z];grind];refine#[?_,b];have:=Ge hp h2 b
 rwa [e] at this
theorem Bi{p:Int}(hp:aO p=Á)(h2:p≠2):∀{l:List Int},On p l->((l.map λa=>cls a p).filter λc=>decide (c.1=0))=(p_ p l).map λa=>((0:Int),bp a p)
 |[],_=>rfl
 |a::l,h=>by
  have d:=Bi hp h2 (l:=l) λb f=>h b (by simp[f]);rw[XQ];by_cases z:f7 p a=Á
  .have e:=(GV hp h2 z (h a .c)).1;rw[Lr z,Yv (by rw[e];simp),d]
  .have e:=Lu hp h2 z;rw[Ln z,Yw (by rw[e];simp),d,e,XQ]
theorem AH{p:Int}(hp:aO p=Á)(h2:p≠2):∀{l:List Int},On p l->((l.map λa=>cls a p).filter λc=>decide (c.1=1))=(rn p l).map λa=>((1:Int),bp a p)
 |[],_=>rfl
 |a::l,h=>by
  have d:=AH hp h2 (l:=l) λb f=>h b (by simp[f]);rw[XQ];by_cases z:f7 p a=Á
  .have e:=(GV hp h2 z (h a .c)).1;rw[LF z,Yw (by rw[e];simp),d,e,XQ]
  .have e:=Lu hp h2 z;rw[KC z,Yv (by rw[e];simp),d]
def BJ:∀a∈p_ p l,¬p∣a:=λa ha z=>by
 have:=(Ye.mp ha).2;simp only[f7,abM,aaT] at this;exact this (Ya z)
def Cs(h:On p l):∀a∈rn p l,¬p∣a:=λa ha ⟨t,z⟩=>by
 obtain⟨b,c,rfl⟩:=Xs.mp ha;obtain⟨h1,h2⟩:=Ye.mp c;have e:p*(b/p)=b:=ZZ (Xu (Xq h2));exact h b h1 #[t,by rw[<-e,z];grind]
def y9(hp:aO p=Á)(h2:p≠2)(h:∀a∈l,¬p∣a):PZ l p p↔OP (bp (-1) p) (l.map λa=>(v,bp a p))=Á:=by
 rw[zq hp h2 h]
 match l with
 |[]=>exact#[λz=>by rcases z with z|⟨_,_,z,_⟩;(· cases z);(· cases z),λz=>by cases z]
 |[a]=>exact#[λz=>by rcases z with z|⟨_,_,z,_⟩;(· exact absurd z .c);(· cases z),λz=>by cases z]
 |[a,b] =>
  show _↔decide (bp (-1) p*bp a p*bp b p=1)=Á;rw[Yq,<-cT hp,<-cT hp];constructor
  .rintro(z|⟨c,d,z,q⟩)
   .exact absurd z .c
   .cases z;rwa [show -1*a*b=-a*b by grind]
  .intro q;exact .inr #[a,b,rfl,by rwa [show -a*b=-1*a*b by grind]]
 |a::b::c::l=>exact#[λ_=>rfl,λ_=>.inl .c]
def M9(hp:aO p=Á)(h2:p≠2)(h:On p l)(h1:1<=l.length):PZ l p (p*p)↔bN l p=Á:=by
 rw[yM hp h2,y9 (v:=0) hp h2 BJ,y9 (v:=1) hp h2 (Cs h),rO hp h2 h.nz,Ha (Bq hp) ?_ ↑h1]
 .unfold Kx;rw[Bi hp h2 h,AH hp h2 h,Zd]
 .intro c b;obtain⟨a,ha,rfl⟩:=Xs.mp b;exact cG (aq hp) h2 (h.nz a ha)
noncomputable def xR:List Nat:=[1,2,3,5,6,7,9,10,11,13,14,15]
noncomputable def jd:List Nat->Nat->Bool->Bool
 |[],c,o=>o&&æ (c%16) 0
 |a::l,c,o=>jd l c o || (jd l (c+a) Á || (jd l (c+9*a) Á || jd l (c+4*a) o))
noncomputable def C3:List (Int×Int)->Bool
 |[]=>Á
 |[_]=>Â
 |[a,b]=>decide (bq (bq (0,7) a 2) b 2=(0,1))
 |[a,b,c]=>fB (bq (bq (0,7) a 2) c 2) (bq (bq (0,7) b 2) c 2)
 |[a,b,c,d]=>!decide (bq (bq (bq a b 2) c 2) d 2=(0,1)) || fB (bq (bq (0,7) a 2) c 2) (bq (bq (0,7) b 2) c 2)
 |_=>Á
def vN(r:Nat):Nat:=1-r%2
def uN(r:Nat):Nat:=cond (æ (r%2) 1) (r%8) (r/2%8)
def q1(v w:Nat):Bool:=æ v 0&&æ w 1
def b4(c:Bool):Nat:=cond c 1 0
def RS(w:Nat):Bool:=æ w 3 || Nat.beq w 5
noncomputable def tw(v w b a:Nat):Bool:=æ ((b4 (æ (w%4) 3&&æ (a%4) 3)+b4 (æ v 1&&RS a)+b4 (æ b 1&&RS w))%2) 0
noncomputable def Ss(a b c:Nat):Bool:=tw ((vN a+vN c)%2) (7*uN a*uN c%8) ((vN b+vN c)%2) (7*uN b*uN c%8)
noncomputable def Q2(a b c d:Nat):Bool:=!q1 ((vN a+vN b+vN c+vN d)%2) (uN a*uN b*uN c*uN d%8) || Ss a b c
def m1:∀a∈xR,jd [a] 0 Â=Â:=by decide +kernel
def m2:∀a∈xR,∀b∈xR,jd [a,b] 0 Â=q1 ((vN a+vN b)%2) (7*uN a*uN b%8):=by decide +kernel
def m3:∀a∈xR,∀b∈xR,∀c∈xR,jd [a,b,c] 0 Â=Ss a b c:=by decide +kernel
def m4:(xR.all λa=>xR.all λb=>xR.all λc=>xR.all λd=>(jd [a,b,c,d] 0 Â==Q2 a b c d))=Á:=by decide +kernel
def m5:(xR.all λa=>xR.all λb=>xR.all λc=>xR.all λd=>(Q2 a b c d || xR.all λe=>jd [a,b,c,d,e] 0 Â))=Á:=by decide +kernel
theorem B4:∀(l:List Int) (c:Nat) (o:Bool),jd (l.map λa=>(a%16).toNat) c o=Á↔∃xs:List Int,xs.length=l.length/\(16:Int)∣(c:Int)+d8 l xs/\(o=Á\/∃x∈xs,¬(2:Int)∣x)
 |[],c,o=>by
  show(o&&æ (c%16) 0)=Á↔_;rw[XW,abg];constructor
  .rintro⟨h1,h2⟩;exact#[[],rfl,by rw[fZ];lia,.inl h1]
  .rintro⟨xs,h1,h2,d⟩;have e:xs=[]:=YX.mp h1;subst e;rw[fZ] at h2;exact#[d.resolve_right fun⟨x,f,_⟩=>(by cases f),.b]
 |a::l,c,o=>by
  have key:∀(s:Int) (x:Int) (o':Bool),(16:Int)∣x*x-s->0<=s->(jd (l.map λa=>(a%16).toNat) (c+s.toNat*(a%16).toNat) o'=Á↔∃xs:List Int,xs.length=l.length/\(16:Int)∣(c:Int)+(a*x*x+d8 l xs)/\(o'=Á\/∃x∈xs,¬(2:Int)∣x)):=by
   intro s x o' ⟨t,F⟩ g;rw[B4 l _ o'];have C:=XO a (b:=16) .a
   have e1:((c+s.toNat*(a%16).toNat:Nat):Int)=c+s*(a%16):=by
    rw[ach,YA,aad g,aad C]
   have e2:a=a%16+16*(a/16):=(Ys a 16).symm
   have e3:∀w:Int,(c:Int)+(a*x*x+w)=((c:Int)+s*(a%16)+w)+16*(a*t+s*(a/16)):=λw=>by
    have:x*x=s+16*t:=by lia
    rw[show a*x*x=a*(x*x) by grind,this];generalize a%16=r at *;generalize a/16=q at *;subst e2;grind
   constructor
   .rintro⟨xs,h1,h2,d⟩;refine#[xs,h1,?_,d];rw[e3];rw[e1] at h2;exact Ϻ h2 #[_,rfl]
   .rintro⟨xs,h1,h2,d⟩;refine#[xs,h1,?_,d];rw[e3] at h2;rw[e1];have:=Zh h2 #[a*t+s*(a/16),rfl]
    rwa [Ζ] at this
  show(jd (l.map λa=>(a%16).toNat) c o || (jd (l.map λa=>(a%16).toNat) (c+(a%16).toNat) Á || (jd (l.map λa=>(a%16).toNat) (c+9*(a%16).toNat) Á || jd (l.map λa=>(a%16).toNat) (c+4*(a%16).toNat) o)))=Á↔_;have v:=key 0 0 o #[0,.a] .a;have A:=key 1 1 Á #[0,.a] .a;have B:=key 9 3 Á #[0,.a] .a;have p:=key 4 2 o #[0,.a] .a;rw[show c+(0:Int).toNat*(a%16).toNat=c by simp] at v;rw[show c+(1:Int).toNat*(a%16).toNat=c+(a%16).toNat by simp] at A;rw[show(9:Int).toNat=9 from rfl] at B;rw[show(4:Int).toNat=4 from rfl] at p;rw[Zd,Zd,Zd,v,A,B,p];constructor
  .rintro(⟨xs,h1,h2,d⟩|⟨xs,h1,h2,d⟩|⟨xs,h1,h2,d⟩|⟨xs,h1,h2,d⟩)
   .exact#[0::xs,by simp[h1],h2,d.imp id fun⟨x,f,m⟩=>#[x,by simp[f],m]]
   .exact#[1::xs,by simp[h1],h2,.inr #[1,.c,.a]]
   .exact#[3::xs,by simp[h1],h2,.inr #[3,.c,.a]]
   .exact#[2::xs,by simp[h1],h2,d.imp id fun⟨x,f,m⟩=>#[x,by simp[f],m]]
  .rintro⟨xs,h1,h2,d⟩
   match xs,h1 with
   |x::xs,h1 =>
    have n:(16:Int)∣(c:Int)+(a*x*x+d8 l xs):=h2;have j:xs.length=l.length:=by simpa using h1
    have g:=Q4 x;have E:=XO (x*x) (b:=16) .a
    have k:∀y:Int,x*x%16=y*y%16->(16:Int)∣(c:Int)+(a*y*y+d8 l xs):=λy e=>by
     have D:(16:Int)∣x*x-y*y:=wy.mp e;have:=Zh n (Ov a D)
     rwa [show(c:Int)+(a*x*x+d8 l xs)-a*(x*x-y*y)=c+(a*y*y+d8 l xs) by grind] at this
    have i:o=Á\/¬(2:Int)∣x\/∃x∈xs,¬(2:Int)∣x:=by
     rcases d with d|d
     .exact .inl d
     .rw[jH] at d;exact .inr d
    have u:=g.1;simp only[Sk,Xa,Xe,XA] at u;rcases u with e|e|e|e
    .refine .inl #[xs,j,k 0 .b,?_];have:(2:Int)∣x:=Xf λz=>by have:=g.2.mpr z;lia
     rcases i with h|h|h
     .exact .inl h
     .exact absurd this h
     .exact .inr h
    .exact .inr (.inl #[xs,j,k 1 .b,.inl rfl])
    .refine .inr (.inr (.inr #[xs,j,k 2 .b,?_]));have:(2:Int)∣x:=Xf λz=>by have:=g.2.mpr z;lia
     rcases i with h|h|h
     .exact .inl h
     .exact absurd this h
     .exact .inr h
    .exact .inr (.inr (.inl #[xs,j,k 3 .b,.inl rfl]))
def qZ:PZ l 2 16↔jd (l.map λa=>(a%16).toNat) 0 Â=Á:=by
 rw[B4];constructor
 .rintro⟨xs,h1,h2,b⟩;exact#[xs,h1,↑h2,.inr b]
 .rintro⟨xs,h1,h2,b⟩;exact#[xs,h1,↑h2,b.resolve_left λz=>by cases z]
def u6(h:a%4≠0):(a%16).toNat∈xR:=by
 have c:=XO a (b:=16) .a;have h1:=XF a (b:=16) .a;simp only[xR,Xa,Xe,XA];lia
def Md(h:a%4≠0):cls a 2=(((vN (a%16).toNat:Nat):Int),((uN (a%16).toNat:Nat):Int)):=by
 rw[JV h];revert h;have b:∀r∈xR,R6 r=(((vN r:Nat):Int),((uN r:Nat):Int)):=by decide +kernel
 exact λh=>b _ (u6 h)
def nK(a b c d:Nat):bq ((a:Int),(b:Int)) ((c:Int),(d:Int)) 2=((((a+c)%2:Nat):Int),((b*d%8:Nat):Int)):=by
 unfold bq;rw[Xc rfl];simp
def Sb(v w:Nat):decide (((v:Int),(w:Int))=((0:Int),(1:Int)))=q1 v w:=by
 unfold q1;rw[Yk,XW,abg,abg,Yq,acF];lia
def SI(c:Bool):b1 c=((b4 c:Nat):Int):=by cases c<;>rfl
def MX(a b:Nat):decide ((a:Int)=(b:Int))=æ a b:=by
 rw[Yk,Yq,abg];lia
def Sr(v w b a:Nat):fB ((v:Int),(w:Int)) ((b:Int),(a:Int))=tw v w b a:=by
 unfold fB tw RS;dsimp only;have c:∀x:Nat,decide ((x:Int)%4=3)=æ (x%4) 3:=λx=>by rw[Yk,Yq,abg];lia
 have h1:∀x:Nat,decide ((x:Int)=1)=æ x 1:=λx=>MX x 1;have d:∀x:Nat,decide ((x:Int)=3)=æ x 3:=λx=>MX x 3;have e:∀x:Nat,decide ((x:Int)=5)=æ x 5:=λx=>MX x 5;simp only[c,h1,d,e,SI];rw[Yk,Yq,abg];lia
def IK(g:∀a∈l,a%4≠0)(h1:1<=l.length):jd (l.map λa=>(a%16).toNat) 0 Â=bN l 2:=by
 have nz:∀a∈l,a≠0:=λa ha z=>g a ha (by rw[z];rfl);have r:cls (-1) 2=(((0:Nat):Int),((7:Nat):Int)):=by rw[sL aP];rfl
 have cn:∀a,a∈l->cls (-a) 2=((((0+vN (a%16).toNat)%2:Nat):Int),((7*uN (a%16).toNat%8:Nat):Int)):=λa ha=>by
  rw[show -a=-1*a by lia,aM aP .a (nz a ha),r,Md (g a ha),nK]
 have i:∀x y:Nat,x%8*y%8=x*y%8:=λx y=>by rw[Nat.mod_mul_mod]
 have m:∀x y z:Nat,x%8*y*z%8=x*y*z%8:=λx y z=>by rw[Ϯ,i,<-Ϯ]
 have k:∀x y:Nat,((0+x)%2+y)%2=(x+y)%2:=λx y=>by lia
 match l,h1 with
 |[a],_ =>
  rw[rG .a];exact m1 _ (u6 (g a .c))
 |[a,b],_ =>
  rw[ll .a];show jd [_,_] 0 Â=decide (cls (-a*b) 2=(0,1));rw[m2 _ (u6 (g a .c)) _ (u6 (g b .c)),aM aP (by have:=nz a .c;lia) (nz b .c),cn a .c,Md (g b .c),nK,k,i];exact(Sb _ _).symm
 |[a,b,c],_ =>
  rw[dc .a];unfold ue;show jd [_,_,_] 0 Â=_;rw[m3 _ (u6 (g a .c)) _ (u6 (g b .c)) _ (u6 (g c .c)),aU,aM aP (by have:=nz a .c;lia) (nz c .c),aM aP (by have:=nz b .c;lia) (nz c .c),cn a .c,cn b .c,Md (g c .c),nK,nK,k,k,i,i,Sr];rfl
 |[a,b,c,d],_ =>
  rw[gX .a];unfold ue;show jd [_,_,_,_] 0 Â=(!decide (cls (a*b*c*d) 2=(0,1)) || _);have f:=m4;rw[XX] at f;have f:=f _ (u6 (g a .c));rw[XX] at f;have f:=f _ (u6 (g b .c));rw[XX] at f;have f:=f _ (u6 (g c .c));rw[XX] at f;have f:=eq_of_beq (f _ (u6 (g d .c)));rw[f];have ha:=nz a .c;have o:=nz b .c;have n:=nz c .c;have j:=Xb ha o
  rw[aU,aM aP (a:=-a) .b (nz c .c),aM aP (a:=-b) .b (nz c .c),aM aP (Xb j n) (nz d .c),aM aP j n,aM aP ha o,
   cn a .c,cn b .c,Md (g a .c),Md (g b .c),Md (g c .c),Md (g d .c),nK,nK,nK,nK,nK,k,k,i,i,i,m,Sr,Sb]
  unfold Q2;rw[show ∀x y z w:Nat,(((x+y)%2+z)%2+w)%2=(x+y+z+w)%2 from λx y z w=>by lia];rfl
 |a::b::c::d::e::l,_ =>
  rw[kK .a .c];have h:=m5;rw[XX] at h;have h:=h _ (u6 (g a .c));rw[XX] at h;have h:=h _ (u6 (g b .c));rw[XX] at h;have h:=h _ (u6 (g c .c));rw[XX] at h;have h:=h _ (u6 (g d .c));rw[Zd] at h
  have q:PZ [a,b,c,d,e] 2 16:=by
   rcases h with h|h
   .have f:=m4;rw[XX] at f;have f:=f _ (u6 (g a .c));rw[XX] at f;have f:=f _ (u6 (g b .c));rw[XX] at f;have f:=f _ (u6 (g c .c));rw[XX] at f;have f:=eq_of_beq (f _ (u6 (g d .c)));rw[h] at f;have:PZ [a,b,c,d] 2 16:=qZ.mpr f;exact this.more [e]
   .rw[XX] at h;exact qZ.mpr (h _ (u6 (g e .c)))
  have p:PZ (a::b::c::d::e::l) 2 16:=q.more l;exact qZ.mp p
def MZ(b:∀a∈l,a%4≠0)(h1:1<=l.length):PZ l 2 16↔bN l 2=Á:=by
 rw[qZ,IK b h1]
def LR(N p:Int)(l:List Int)(k:Int×Bool):Prop:=∃xs:List Int,xs.length=l.length/\(∀x∈xs,0<=x/\x<=N/2)/\k.1=d8 l xs%N/\k.2=xs.any λx=>!decide (x%p=0)
def Jk(k:Int×Bool):LR N p [] k↔k=(0,Â):=by
 constructor
 .rintro⟨xs,h1,_,c,d⟩;have e:xs=[]:=YX.mp h1;subst e;rw[fZ] at c;obtain⟨a,b⟩:=k;simp only at c d;rw[c,d];simp
 .rintro rfl;exact#[[],rfl,λx f=>(by cases f),(by rw[fZ];simp),rfl]
def Ex(j:0<N)(k:Int×Bool):LR N p (l++[a]) k↔∃k',LR N p l k'/\∃x:Int,0<=x/\x<=N/2/\k=((k'.1+a*x*x)%N,k'.2 || !decide (x%p=0)):=by
 constructor
 .rintro⟨xs,h1,h2,d,c⟩;have b:xs≠[]:=λz=>by subst z;simp at h1
  obtain⟨ys,x,rfl⟩:∃ys x,xs=ys++[x]:=#[xs.dropLast,xs.getLast b,(List.dropLast_concat_getLast b).symm];have h:ys.length=l.length:=by simpa using h1
  refine#[(d8 l ys%N,ys.any λx=>!decide (x%p=0)),#[ys,h,λy g=>h2 y (by simp[g]),rfl,rfl],x,(h2 x .c).1,(h2 x .c).2,?_];obtain⟨i,m⟩:=k;simp only at d c ⊢;rw[d,c,jF h.symm];congr 1
  .show(d8 l ys+(a*x*x+d8 [] []))%N=_;rw[fZ,aaP,abN]
  .simp
 .rintro⟨k',⟨ys,h1,h2,d,c⟩,x,f,e,rfl⟩;refine#[ys++[x],by simp[h1],λy g=>?_,?_,?_]
  .rcases X2.mp g with z|z
   .exact h2 y z
   .rw[Xv.mp z];exact#[f,e]
  .show(k'.1+a*x*x)%N=_;rw[d,jF h1.symm];show _=(d8 l ys+(a*x*x+d8 [] []))%N;rw[fZ,aaP,abN]
  .show(k'.2 || _)=_;rw[c];simp
def mG(N x:Int):Int:=if x%N<=N/2 then x%N else N-x%N
def vR(c:0<N):0<=mG N x/\mG N x<=N/2/\N∣mG N x*mG N x-x*x/\(N∣mG N x-x\/N∣mG N x+x):=by
 have a:=XO x (b:=N) .b;have h1:=XF x c;have e:=Ys x N;unfold mG;generalize d:x%N=r at *;generalize f:x/N=q at *;subst e;split
 .rename_i h;exact#[a,h,#[-(q*(2*r+N*q)),by grind],.inl #[-q,by grind]]
 .rename_i h;exact#[.b,.b,#[N-2*r-q*(2*r+N*q),by grind],.inr #[q+1,by grind]]
theorem Bv{N:Int}(b:0<N):∀{l xs:List Int},N∣d8 l (xs.map (mG N))-d8 l xs
 |[],xs=>by rw[fZ,fZ];simp
 |_::_,[]=>by simp[d8]
 |a::l,x::xs=>by
  show N∣a*mG N x*mG N x+d8 l (xs.map (mG N))-(a*x*x+d8 l xs);rw[show a*mG N x*mG N x+d8 l (xs.map (mG N))-(a*x*x+d8 l xs)=a*(mG N x*mG N x-x*x)+(d8 l (xs.map (mG N))-d8 l xs) by grind];exact Ϻ (Ov a (vR b).2.2.1) (Bv b)
def Pm(a:0<N)(hp:p∣N):p∣mG N x↔p∣x:=by
 obtain⟨_,_,_,h|h⟩:=vR (x:=x) a
 .have:=XU hp h;constructor
  .intro z;have:=Zh z this
   rwa [show mG N x-(mG N x-x)=x by lia] at this
  .intro z;have:=Ϻ this z
   rwa [show mG N x-x+x=mG N x by lia] at this
 .have:=XU hp h;constructor
  .intro z;have:=Zh this z
   rwa [show mG N x+x-mG N x=x by lia] at this
  .intro z;have:=Zh this z
   rwa [show mG N x+x-x=mG N x by lia] at this
def Ni(b:0<N)(hp:p∣N):LR N p l (0,Á)↔PZ l p N:=by
 constructor
 .rintro⟨xs,h1,_,e,d⟩;refine#[xs,h1,Xu e.symm,?_];obtain⟨x,c,a⟩:=YI.mp d.symm;exact#[x,c,λz=>by rw[XI (Ya z)] at a;cases a]
 .rintro⟨xs,h1,h2,x,c,a⟩;refine#[xs.map (mG N),by simp[h1],λy f=>?_,?_,?_]
  .obtain⟨z,_,rfl⟩:=Xs.mp f;exact#[(vR b).1,(vR b).2.1]
  .show(0:Int)=_;have:=Ϻ (Bv b (l:=l) (xs:=xs)) h2;rw[show d8 l (xs.map (mG N))-d8 l xs+d8 l xs=d8 l (xs.map (mG N)) by lia] at this;exact(Ya this).symm
  .show Á=_;refine(YI.mpr #[mG N x,Xs.mpr #[x,c,rfl],?_]).symm;rw[XH (λz=>a ((Pm b hp).mp (Xu z)))];rfl
def ER{L:List (Int×Bool)}(g:L.Nodup)(m:∀k∈L,0<=k.1/\k.1<N):L.length<=2*N.toNat:=by
 have f:∀x∈L,∀y∈L,(2*x.1+if x.2 then 1 else 0)=(2*y.1+if y.2 then 1 else 0)->x=y:=λx _ y _ e=>by
  obtain⟨a,b⟩:=x;obtain⟨c,d⟩:=y;cases b<;>cases d<;>simp at e ⊢<;>lia
 have j:(L.map λk:Int×Bool=>2*k.1+if k.2 then 1 else 0).Nodup:=by
  clear m
  induction L with
  |nil=>exact Z7
  |cons a l q =>
   rw[Ym] at g;rw[XQ,Ym];refine#[λh=>?_,q g.2 λx r y s=>f x (by simp[r]) y (by simp[s])];obtain⟨b,n,e⟩:=Xs.mp h;have:=f b (by simp[n]) a .c e;subst this;exact g.1 n
 have:=kh j (α:=(Ò (2*N.toNat)).map fun(i:Nat)=>(i:Int)) λu o=>by
  obtain⟨k,p,rfl⟩:=Xs.mp o;have:=m k p;refine Xs.mpr #[(2*k.1+if k.2 then 1 else 0).toNat,Yh.mpr ?_,?_]
  .split<;>lia
  .split<;>lia
 simpa using this
def ku(ha:a≠0):cls (-a) 2=bq (0,7) (cls a 2) 2:=by
 rw[show -a=-1*a by lia,aM aP .a ha,sL aP];rfl
def yI:∀{l:List Int},(∀a∈l,a≠0)->bN l 2=C3 (l.map λa=>cls a 2)
 |[],_=>rfl
 |[a],_=>by rw[rG .a];rfl
 |[a,b],h=>by
  have ha:=h a .c;have g:=h b .c;rw[ll .a];show decide (cls (-a*b) 2=(0,1))=decide (_=_);rw[aM aP .b g,ku ha]
 |[a,b,c],h=>by
  have ha:=h a .c;have g:=h b .c;have f:=h c .c;rw[dc .a];unfold ue;rw[aU,aM aP .b f,aM aP .b f,ku ha,ku g];rfl
 |[a,b,c,d],h=>by
  have ha:=h a .c;have g:=h b .c;have f:=h c .c;have j:=h d .c;have i:=Xb ha g;rw[gX .a];unfold ue;rw[aU,aM aP (a:=-a) .b f,aM aP (a:=-b) .b f,ku ha,ku g];show(!decide (cls (a*b*c*d) 2=(0,1)) || _)=(!decide (_=_) || _);rw[aM aP (Xb i f) j,aM aP i f,aM aP ha g]
 |a::b::c::d::e::l,_=>by
  rw[kK .a .c];rfl
def pe(hp:aO p=Á){m:List Int}(b:∀a∈l,a≠0)(c:∀a∈m,a≠0)(e:l.map (λa=>cls a p)=m.map λa=>cls a p):bN l p=bN m p:=by
 by_cases h2:p=2
 .subst h2;rw[yI b,yI c,e]
 .rw[rO hp h2 b,rO hp h2 c,e]
def yK(hp:aO p=Á)(h:¬p∣k):(cls (k*p) p).1=1:=by
 have:=jB (k:=k) (d:=p) (v:=1) (aq hp) h;rw[acu] at this;unfold cls;rw[this];rfl
def GK(b:j_ f)(hp:aO p=Á)(e:p∣f):∃h,f=h*p/\¬p∣h/\j_ h:=by
 obtain⟨t,a⟩:=e;have c:=aq hp;refine#[t,by rw[a,XY],fun⟨r,g⟩=>b.2 p c #[r,by rw[a,g];grind],?_,λd e ⟨r,g⟩=>b.2 d e #[p*r,by rw[a,g];grind]];intro z;exact b.1 (by rw[a,z];simp)
def zP(l:List Int):Option Int->Prop
 |none=>bN l 0=Á/\∀q,aO q=Á->bN l q=Á
 |some p=>bN l p=Â/\(p=0\/(aO p=Á/\bN l 0=Á/\∀q,aO q=Á->q<p->bN l q=Á))
def zP.uniq:∀r f,zP l r->zP l f->r=f
 |none,none,_,_=>rfl
 |none,À p,h,h'=>by
  obtain⟨h1,h2⟩:=h;obtain⟨c,d⟩:=h';rcases d with rfl|⟨d,_⟩
  .rw[h1] at c;cases c
  .rw[h2 p d] at c;cases c
 |some p,none,h',h=>by
  obtain⟨h1,h2⟩:=h;obtain⟨c,d⟩:=h';rcases d with rfl|⟨d,_⟩
  .rw[h1] at c;cases c
  .rw[h2 p d] at c;cases c
 |some p,À q,h,h'=>by
  obtain⟨h1,h2⟩:=h;obtain⟨c,d⟩:=h';rcases h2 with rfl|⟨h2,j,i⟩
  .rcases d with rfl|⟨d,g,e⟩
   .rfl
   .rw[g] at h1;cases h1
  .rcases d with rfl|⟨d,g,e⟩
   .rw[j] at c;cases c
   .have a:¬q<p:=λz=>by rw[i q d z] at c;cases c
    have b:¬p<q:=λz=>by rw[e p h2 z] at h1;cases h1
    rw[show p=q by lia]
def iU(l:List Int):Option Int:=ó (zP l)
def fQ{r:Option Int}(h:zP l r):r=iU l:=pN zP.uniq h
def om(hp:aO p=Á)(h2:p≠2)(b:3<=l.length)(h:∀a∈l,¬p∣a):bN l p=Á:=by
 rw[<-M9 hp h2 (λa ha z=>h a ha (XU #[p,rfl] z)) .b,yM hp h2];refine .inl ?_
 have e:p_ p l=l:=by
  unfold p_;rw[abl];intro a ha;simp only[f7,abM,aaT];exact λz=>h a ha (Xu z)
 rw[e,zq hp h2 h];exact .inl b
def L4(hp:aO p=Á)(ha:a≠0)(c:b≠0)(e:r*r=-a*b):bN [a,b] p=Á:=by
 have:=aq hp;rw[ll .b,Yq,<-e]
 exact NL hp λz=>by
  rw[z] at e;exact Xb (show -a≠0 by lia) c (by rw[<-e];rfl)
def JW(a b:Int):Prop:=(∃r,r*r=-a*b)\/∃q,aO q=Á/\q<=997/\bN [a,b] q=Â
def AL(ha:a≠0)(t:b≠0)(hz:bN [a,b] 0=Á)(h:JW a b):(zP [a,b] none/\∃r,r*r=-a*b)\/∃p,zP [a,b] (À p)/\aO p=Á/\p<=997/\¬∃r,r*r=-a*b:=by
 by_cases d:∃r,r*r=-a*b
 .obtain⟨r,i⟩:=id d;exact .inl #[#[hz,λq c=>L4 c ha t i],d]
 .obtain⟨q,q1,j,k⟩:=h.resolve_left d
  have:∀n:Nat,∀q:Int,aO q=Á->q<=997->bN [a,b] q=Â->q<=n->∃p,zP [a,b] (À p)/\aO p=Á/\p<=997:=by
   intro n
   induction n with
   |zero=>intro q h1 _ _ h2;have:=aq h1;lia
   |succ n m =>
    intro q h1 h2 g u;by_cases c:∃r,aO r=Á/\r<q/\bN [a,b] r=Â
    .obtain⟨r,e,f,o⟩:=c;exact m r e .b o .b
    .exact#[q,#[g,.inr #[h1,hz,λr e f=>Xf λz=>c #[r,e,f,↑z]]],h1,h2]
  obtain⟨p,l,p2,s⟩:=this q.toNat q q1 j k .b;exact .inr #[p,l,p2,s,d]
def xG(l:List Int):zP l (iU l):=by
 have:∃r,zP l r:=by
  by_cases hz:bN l 0=Á
  .by_cases hp:∃p,aO p=Á/\bN l p=Â
   .obtain⟨p,hp,e⟩:=hp
    have:∀n:Nat,∀q:Int,aO q=Á->bN l q=Â->q<=n->∃p,zP l (À p):=by
     intro n
     induction n with
     |zero=>intro q h1 _ h2;have:=aq h1;lia
     |succ n g =>
      intro q h1 f i;by_cases b:∃r,aO r=Á/\r<q/\bN l r=Â
      .obtain⟨r,c,d,h⟩:=b;exact g r c h .b
      .exact#[q,f,.inr #[h1,hz,λr c d=>Xf λz=>b #[r,c,d,↑z]]]
    obtain⟨r,a⟩:=this p.toNat p hp e .b;exact#[À r,a]
   .exact#[none,hz,λq b=>Xf λz=>hp #[q,b,↑z]]
  .exact#[À 0,↑hz,.inl rfl]
 obtain⟨r,a⟩:=this;rwa[<-fQ a]
def qB(a b:Int):Prop:=∀p,Pl p->az a b p=Á
def qB.swap(ha:a≠0)(c:b≠0)(h:qB a b):qB b a:=λp hp=>by
 rw[bA hp ha c];exact h p hp
def FN(hp:Pl p)(ha:a≠0)(h:r*r-a≠0):az a (r*r-a) p=Á:=by
 by_cases b:r=0
 .subst b;have:=tK hp ha;rw[XZ];exact this
 .have h1:=FI (x:=1) (y:=1) (w:=r*r) hp ha h (Xb b b) (by simp only[XC];lia);rwa[<-XT,<-XT,n8 hp ha b,iX hp ha h b] at h1
def qB.step(ha:a≠0)(i:b≠0)(g:c≠0)(f:s≠0)(h:qB a b)(e:r*r-a=b*c*(s*s)):qB a c:=λp hp=>by
 have d:b*c≠0:=Xb i g;have h1:=FN (r:=r) hp ha (by rw[e];exact Xb d (Xb f f));rw[e,<-XT,iX hp ha d f,dw hp ha i g,h p hp] at h1;cases q:az a c p with
 |true=>rfl
 |false=>rw[q] at h1;cases h1
def Fo(hp:Pl p)(ha:a≠0)(i:b≠0)(h:c≠0):ue a b c p=az (-a*b) (-a*c) p:=by
 have d:-a*c≠0:=Xb .g h;have f:-a*b≠0:=Xb .g i;have g:-b*c≠0:=Xb .g h
 have h1:az (-a*c) ((-b*c)*(-a*b)) p=Á:=by
  have e:(-b*c)*(-a*b)=(0-(-a*c))*b*b:=by grind
  rw[e,iX hp d .g i];exact tK hp d
 rw[dw hp d g f] at h1;unfold ue;rw[bA hp d f];cases q:az (-a*c) (-b*c) p<;>cases q':az (-a*c) (-a*b) p<;>rw[q,q'] at h1<;>first|rfl|cases h1
def DO{B:Int}(hp:Pl p)(c:A≠0)(d:B≠0)(g:u≠0)(h:v≠0)(e:a=A*(u*u))(f:b=B*(v*v)):az a b p=az A B p:=by
 rw[e,f,<-XT,<-XT,n8 hp c g,iX hp c d h]
def LQ(hp:aO p=Á)(ha:a≠0)(e:¬p*p∣b)(d:p∣b)(h:az a b p=Á):bp a p≠-1:=by
 by_cases h2:p=2
 .subst h2;intro z;unfold bp at z;split at z<;>lia
 .have p2:=aq hp;by_cases c:p∣a
  .rw[c9 c];decide
  .intro z;rw[bg .b h2,bH p2 c,W_ h2,z,(GV hp h2 (by simpa [f7] using Ya d) e).1] at h;simp[lJ] at h
theorem wo{n:Int}:∀(k:Nat) (m:Int),m.natAbs<=k->0<m->j_ m->(∀q,aO q=Á->q∣m->q∣n)->m∣n
 |0,m,p,e,_,_=>by lia
 |k+1,m,p,e,g,h=>by
  by_cases h1:m=1
  .rw[h1];exact Int.one_dvd n
  .obtain⟨q,d,⟨a,rfl⟩⟩:=pH (k:=m) .b;have f:=aq d;have j:0<a:=Int.pos_of_mul_pos_right e .b
   have lt:a<q*a:=by
    have:=Yg f (show 0<=a by lia);lia
   obtain⟨t,i⟩:=wo k a .b j (w6 g (ab9 _ _)) λr l o=>h r l (XU o (ab9 _ _));have b:=h q d (Χ _ _);rw[i] at b;rcases euclid d b with z|z
   .exfalso;obtain⟨c,rfl⟩:=z;exact g.2 q f #[c,by rw[XT]]
   .obtain⟨c,rfl⟩:=z;exact#[c,by rw[i];grind]
def EY(ha:a≠0)(d:j_ b)(h:qB a b):∃x,ET a b.natAbs=À x/\0<=x/\x<b.natAbs/\b∣x*x-a:=by
 have p:=d.1;rcases ML (k:=a) (m:=b.natAbs) .b with⟨_,q,c,f,z⟩|⟨x,e,j,l,o⟩
 .have g:=Y1.mp f;exact absurd z (LQ c ha (λw=>d.2 q (aq c) w) g (h q (.inr c)))
 .refine#[x,e,j,l,?_]
  have i:j_ (b.natAbs:Int):=by
   rcases acG b with z|z
   .rwa[<-z]
   .have:(b.natAbs:Int)=-b:=by lia
    rw[this];exact rT d
  exact acD.mp (wo (n:=x*x-a) _ (b.natAbs:Int) (Xm _) .b i λq c f=>(o q c f).1)
def vC(ha:j_ a)(h1:a≠1)(e:x*x=a*(y*y)):y=0:=by
 apply Xf;intro b
 have c:x≠0:=λz=>by
  rw[z,XZ] at e;exact Xb ha.1 (Xb b b) e.symm
 have e2:a*((y.natAbs:Int)*(y.natAbs:Int))=1*((x.natAbs:Int)*(x.natAbs:Int)):=by
  rw[Yb,<-YA,<-YA,ű,ű];exact e.symm
 exact h1 (x3 ha oA .b .b e2).1
def lg(a:Int):Nat:=į a.natAbs
noncomputable def tI(a b:Int):Nat:=2*(lg a+lg b)+if b.natAbs<a.natAbs then 1 else 0
def B2(g:2<=b.natAbs)(f:c≠0)(h:4*c.natAbs<=b.natAbs+4):lg c+1<=lg b:=by
 unfold lg;have a:b.natAbs≠0:=by lia
 have d:c.natAbs≠0:=by lia
 have h1:b.natAbs<2^(į b.natAbs+1):=(abq a).mp (Zj _);have h2:1<=į b.natAbs:=(Nat.le_log2 a).mpr .b;obtain⟨m,e⟩:∃m,į b.natAbs=m+1:=#[į b.natAbs-1,.b];rw[e] at h1 ⊢;have e1:2^(m+1+1)=4*2^m:=by rw[Z_,Z_];lia
 have e2:2^(m+1)=2*2^m:=by rw[Z_];lia
 have:c.natAbs<2^(m+1):=by
  have:=aaj m;lia
 have:=(abq d).mpr this;lia
def uJ(b:a≠0)(h:a.natAbs<1073741824):lg a<=29:=by
 have:į a.natAbs<30:=(abq .b).mpr .b;unfold lg;lia
def Gu(h:b.natAbs<a.natAbs):tI b a+1<=tI a b:=by
 unfold tI;rw[Xc h,W_ .b];lia
def Fl(h:a.natAbs<=b.natAbs)(d:lg c+1<=lg b):tI a c+1<=tI a b:=by
 unfold tI;rw[W_ (show ¬b.natAbs<a.natAbs by lia)];split<;>lia
def MJ(ha:a≠0)(c:b≠0)(h1:a.natAbs<1073741824)(h2:b.natAbs<1073741824):tI a b<=117:=by
 have:=uJ ha h1;have:=uJ c h2;unfold tI;split<;>lia
def Iy(h:a.natAbs<=b.natAbs)(c:2*r.natAbs<=b.natAbs)(f:b≠0)(e:r*r-a=b*k):4*k.natAbs<=b.natAbs+4:=by
 have h1:b.natAbs*k.natAbs<=r.natAbs*r.natAbs+a.natAbs:=by
  rw[<-XN,<-XN,<-e];omega
 have h2:(2*r.natAbs)*(2*r.natAbs)<=b.natAbs*b.natAbs:=aax c c
 have e2:(2*r.natAbs)*(2*r.natAbs)=4*(r.natAbs*r.natAbs):=by
  rw[Nat.mul_mul_mul_comm]
 have d:b.natAbs*(4*k.natAbs)<=b.natAbs*(b.natAbs+4):=by
  rw[Nat.mul_left_comm,Nat.mul_add];omega
 exact abU d .e
def JI(n:s≠0)(k:2*r.natAbs<=b.natAbs)(o:b≠0)(g:a.natAbs<=1073741824)(j:b.natAbs<=1073741824)(e:r*r-a=b*c*(s*s)):(c*s).natAbs<2147483648:=by
 have h2:(c*s).natAbs<=(c*(s*s)).natAbs:=by
  rw[<-XT,XN (c*s)];exact aaU _ .b
 have i:b.natAbs*(c*(s*s)).natAbs<=r.natAbs*r.natAbs+a.natAbs:=by
  rw[<-XN,<-XN,<-XT,<-e];lia
 have d:1<=b.natAbs:=by lia
 have h:r.natAbs*r.natAbs<=b.natAbs*536870912:=aax .b .b;have l:a.natAbs<=b.natAbs*1073741824:=X8 g (aam _ d);have f:b.natAbs*(c*(s*s)).natAbs<=b.natAbs*1610612736:=by lia
 have m:=abU f .b;lia
def Kh{t d f t':Int}(h:g≠0)(o:x*x=a*(y*y)+c*(t*t))(e:r*r-a=b*c*(s*s))(ex:x*r+a*y=g*d)(i:x+r*y=g*f)(m:c*s*t=g*t'):d*d=a*(f*f)+b*(t'*t'):=by
 have k:(x*r+a*y)*(x*r+a*y)=a*((x+r*y)*(x+r*y))+b*((c*s*t)*(c*s*t)):=by
  have n:(x*r+a*y)*(x*r+a*y)-a*((x+r*y)*(x+r*y))=(x*x-a*(y*y))*(r*r-a):=by grind
  have l:x*x-a*(y*y)=c*(t*t):=by lia
  rw[l,e] at n;have p:c*(t*t)*(b*c*(s*s))=b*((c*s*t)*(c*s*t)):=by grind
  lia
 rw[ex,i,m] at k;have j:(g*g)*(d*d)=(g*g)*(a*(f*f)+b*(t'*t')):=by grind
 exact abQ (Xb h h) j
def NK{B t d e t':Int}(f:g≠0)(e1:-a*b=A*(u*u))(e2:-a*c=B*(v*v))(h:x*x=A*(y*y)+B*(t*t))(ex:x*u*v=g*d)(i:y*a*v=g*e)(k:t*a*u=g*t'):a*(d*d)+b*(e*e)+c*(t'*t')=0:=by
 have j:a*((x*u*v)*(x*u*v))+b*((y*a*v)*(y*a*v))+c*((t*a*u)*(t*a*u))=0:=by
  have e3:a*((x*u*v)*(x*u*v))+b*((y*a*v)*(y*a*v))+c*((t*a*u)*(t*a*u))=a*((x*x)*(u*u)*(v*v)-(-a*b)*(y*y)*(v*v)-(-a*c)*(t*t)*(u*u)):=by grind
  rw[e3,e1,e2,h];grind
 rw[ex,i,k] at j;have l:(g*g)*(a*(d*d)+b*(e*e)+c*(t'*t'))=0:=by grind
 rcases Yo.mp l with z|z
 .exact absurd z (Xb f f)
 .exact z
def B7(a:A≠0)(c:0<u)(e:k=A*(u*u)):u.natAbs<=k.natAbs:=by
 have b:k=u*(u*A):=by rw[e];grind
 conv=>rhs;rw[b,XN]
 refine aaU _ ?_;have:u*A≠0:=Xb .b a;lia
noncomputable def lsN(p:Int):Nat->Int->Int
 |0,n=>n
 |k+1,n=>if n%(p*p)=0 then lsN p k (n/(p*p)) else n
def xO(n p:Int):Int:=lsN p n.natAbs n
def Fe(hp:2<=p)(a:n≠0)(h:n%(p*p)=0):n/(p*p)≠0/\(n/(p*p)).natAbs<n.natAbs/\n=n/(p*p)*(p*p):=by
 have pp:4<=p*p:=X_ hp hp .a .b;have e:=Int.ediv_mul_cancel (Xu h);have b:n/(p*p)≠0:=λz=>a (by rw[<-e,z,aaK]);refine#[b,?_,e.symm]
 conv=>rhs;rw[<-e,XN]
 have:1*(n/(p*p)).natAbs<(p*p).natAbs*(n/(p*p)).natAbs:=Nat.mul_lt_mul_of_pos_right .b .b;rw[Nat.mul_comm];lia
def zy(h:¬n%(p*p)=0):∀k,lsN p k n=n
 |0=>rfl
 |k+1=>by unfold lsN;exact W_ h
def EU{k:Nat}(h:n%(p*p)=0):lsN p (k+1) n=lsN p k (n/(p*p)):=by
 rw[lsN.eq_2];exact Xc h
theorem Gg{p:Int}(hp:2<=p):∀(k:Nat) (n:Int),n≠0->n.natAbs<=k->∃s,s≠0/\n=lsN p k n*s*s/\¬p*p∣lsN p k n/\(lsN p k n).natAbs<=n.natAbs
 |0,n,h,b=>by lia
 |k+1,n,h,b=>by
  by_cases a:n%(p*p)=0
  .obtain⟨d,q1,e⟩:=Fe hp h a;obtain⟨s,c,e2,h2,f⟩:=Gg hp k (n/(p*p)) d .b;rw[EU a];refine#[p*s,Xb .b c,?_,h2,.b]
   conv=>lhs;rw[e,e2]
   grind
  .rw[zy a];exact#[1,.a,.b,λz=>a (Ya z),Xm _]
def v9(hp:2<=p)(a:n≠0):∃s,s≠0/\n=xO n p*s*s/\¬p*p∣xO n p/\(xO n p).natAbs<=n.natAbs:=Gg hp _ n a (Xm _)
def FK(hp:2<=p)(a:n≠0):xO n p≠0:=λz=>by
 obtain⟨s,_,e,_⟩:=v9 hp a;rw[z,aaK,aaK] at e;exact a e
def Io(hp:aO p=Á)(c:∀a∈l,a≠0):bN (l.map λa=>xO a p) p=bN l p:=by
 have p2:=aq hp;refine pe hp (λa ha=>?_) c ?_
 .obtain⟨b,f,rfl⟩:=Xs.mp ha;exact FK p2 (c b f)
 .rw[ϴ];refine abn λa ha=>?_;obtain⟨s,d,e,_,_⟩:=v9 p2 (c a ha);show cls (xO a p) p=cls a p
  conv=>rhs;rw[e]
  exact(kO hp (FK p2 (c a ha)) d).symm
def Jw(hp:2<=p)(d:∀a∈l,a≠0):On p (l.map λa=>xO a p):=λa ha=>by
 obtain⟨b,c,rfl⟩:=Xs.mp ha;obtain⟨s,_,_,h,_⟩:=v9 hp (d b c);exact h
noncomputable def Oi(p:Int)(g:List Int):Bool:=match g with
 |[a,b]=>decide (bp (-a*b) p=1)
 |_::_::_::_=>Á
 |_=>Â
def LC(hp:aO p=Á):∀g:List Int,OP (bp (-1) p) (g.map λa=>(v,bp a p))=Oi p g
 |[]=>rfl
 |[_]=>rfl
 |[a,b]=>by
  show decide (bp (-1) p*bp a p*bp b p=1)=decide (bp (-a*b) p=1);rw[<-cT hp,<-cT hp,show -1*a*b=-a*b by grind]
 |_::_::_::_=>rfl
def MI(hp:aO p=Á)(h2:p≠2)(h:On p l)(h1:1<=l.length):bN l p=(Oi p (p_ p l) || Oi p (rn p l)):=by
 have p2:=aq hp
 rw[rO hp h2 h.nz,Ha (Bq hp) (λc b=>by
  obtain⟨a,ha,rfl⟩:=Xs.mp b
  exact cG p2 h2 (h.nz a ha)) (by rwa[Xk])]
 unfold Kx;rw[Bi hp h2 h,AH hp h2 h,LC hp,LC hp]
def IE(a:0<=x)(b:x<=8):∃y:Int,0<=y/\y<4/\(16:Int)∣y*y-x*x/\y%2=x%2:=by
 have:x=0\/x=1\/x=2\/x=3\/x=4\/x=5\/x=6\/x=7\/x=8:=by lia
 rcases this with rfl|rfl|rfl|rfl|rfl|rfl|rfl|rfl|rfl
 .exact#[0,.a,.a,.a,.a]
 .exact#[1,.a,.a,.a,.a]
 .exact#[2,.a,.a,.a,.a]
 .exact#[3,.a,.a,.a,.a]
 .exact#[0,.a,.a,.a,.a]
 .exact#[3,.a,.a,.a,.a]
 .exact#[2,.a,.a,.a,.a]
 .exact#[1,.a,.a,.a,.a]
 .exact#[0,.a,.a,.a,.a]
def Ek(k:Int×Bool):LR 16 2 (l++[a]) k↔∃k',LR 16 2 l k'/\∃x:Int,0<=x/\x<4/\k=((k'.1+a*x*x)%16,k'.2 || !decide (x%2=0)):=by
 rw[Ex .a];constructor
 .rintro⟨k',h,x,b,g,rfl⟩;obtain⟨y,f,d,e,he⟩:=IE b .b;refine#[k',h,y,f,d,?_];rw[he];congr 1;obtain⟨c,j⟩:=e;rw[show k'.1+a*y*y=(k'.1+a*x*x)+16*(a*c) by grind,abB]
 .rintro⟨k',h,x,b,i,rfl⟩;exact#[k',h,x,b,.b,rfl]
theorem xS:∀{us:List (Int×Int)} {a b:Int},2<=a->gB a us b->(3:Int)^us.length<=pp us
 |[],a,b,_,_=>by show(1:Int)<=1;decide
 |u::us,a,b,ha,h=>by
  obtain⟨h1,h2,f,c⟩:=h;have e:=xS .b c;obtain⟨n,d⟩:∃n,u.2.toNat=n+1:=#[u.2.toNat-1,.b]
  have hp:(3:Int)<=u.1^u.2.toNat:=by
   rw[d,XE];have:(1:Int)<=u.1^n:=by have:=Yj (n:=u.1) (m:=n) .b;lia
   have:=X_ this (show(3:Int)<=u.1 by lia) .a .b;lia
  show(3:Int)^(us.length+1)<=u.1^u.2.toNat*pp us;rw[XE,XY];exact X_ hp e (by have:=Yj (n:=3) (m:=us.length) .a;lia) .b
def vm(h1:1<=k)(h2:k<1073741824):(pK k).length<=19:=by
 obtain⟨⟨b,a⟩,e⟩:=oV h1;cases i:pK k with
 |nil=>simp
 |cons u us =>
  rw[i] at a e;obtain⟨s,p,r,o⟩:=a;have f:=xS .b o;have h:u.1^u.2.toNat*pp us=k:=e;have j:(1:Int)<=u.1^u.2.toNat:=by have:=Yj (n:=u.1) (m:=u.2.toNat) .b;lia
  have p2:pp us<=k:=by
   rw[<-h];have d:0<=pp us:=by have:=Yj (n:=3) (m:=us.length) .a;lia
   have:=Yg j d;lia
  apply Xf;intro g;have q:19<=us.length:=by simp at g;lia
  obtain⟨m,l⟩:∃m,us.length=19+m:=#[us.length-19,.b];rw[l,Yz] at f;have:(1:Int)<=3^m:=by have:=Yj (n:=3) (m:=m) .a;lia
  have:=Xp this (show(0:Int)<=3^19 by decide);have c:(3:Int)^19=1162261467:=by decide
  lia
noncomputable def bx:Nat->List Int
 |0=>[1,-1]
 |i+1=>bx i++(bx i).map λk=>k*Q6.getD i 1
def Jc:∀i,i<=6->(bx i).length<=128:=by decide +kernel
def tZ:(bx 6).length=128/\∀k∈bx 6,k≠0/\-30030<=k/\k<=30030/\30030%k=0:=by decide +kernel
def ND:∀s∈[(1:Int),-1],∀a∈bits,Iz s a∈bx 6:=by decide +kernel
def Ng:∀i,i<=6->∀k∈bx i,-30030<=k/\k<=30030:=by decide +kernel
noncomputable def P7:List Int:=[0,2,3,5,7,11,13]
def bJ(k p:Int):Int⊕(Int×Int):=if p=0 then .inl (if 0<k then 1 else -1) else .inr (cls k p)
noncomputable def lI(a b:Int⊕(Int×Int))(p:Int):Int⊕(Int×Int):=match a,b with
 |.inl x,.inl y=>.inl (x*y)
 |.inr u,.inr v=>.inr (bq u v p)
 |_,_=>.inl 0
def fI:∀p∈Q6,aO p=Á:=λp hp=>by
 obtain⟨j,b,e⟩:=Z4.mp hp;have a:j<6:=b;have:=jc j a;rwa[Xh,Xn b,e] at this
def tL(h:p∈P7):p=0\/(p≠0/\aO p=Á/\p∈Q6):=by
 have:p=0\/p∈Q6:=Xa.mp h;rcases this with z|z
 .exact .inl z
 .have q:=fI p z;have:=aq q;exact .inr #[.b,q,z]
def rV(hp:p∈P7)(ha:a≠0)(d:b≠0):lI (bJ a p) (bJ b p) p=bJ (a*b) p:=by
 rcases tL hp with rfl|⟨c,pp,_⟩
 .unfold bJ lI;rw[Xc rfl,Xc rfl,Xc rfl];show ĉ _=ĉ _;congr 1;rcases Yf ha with x|x<;>rcases Yf d with y|y
  .rw[W_ .b,W_ .b,Xc (YK x y)];rfl
  .rw[W_ .b,Xc y,W_ (by have:=Yy x y;lia)];rfl
  .rw[Xc x,W_ .b,W_ (by have:=aaG x y;lia)];rfl
  .rw[Xc x,Xc y,Xc (X7 x y)];rfl
 .unfold bJ lI;rw[W_ c,W_ c,W_ c];show å _=å _;rw[aM pp ha d]
def L8(hp:p∈P7)(ha:a≠0)(c:r≠0):bJ (a*r*r) p=bJ a p:=by
 rcases tL hp with rfl|⟨b,pp,_⟩
 .unfold bJ;rw[Xc rfl,Xc rfl];congr 1
  have q:0<r*r:=by
   rcases Yf c with z|z
   .exact YK z z
   .exact X7 z z
  rw[XT];by_cases z:0<a
  .rw[Xc z,Xc (X7 z q)]
  .rw[W_ z,W_ (by have:=Yy (show a<0 by lia) q;lia)]
 .unfold bJ;rw[W_ b,W_ b,kO pp ha c]
def jE(hp:aO p=Á)(b:n≠0):((cls n p).1=0\/(cls n p).1=1)/\(p=2->(cls n p).2∈[(1:Int),3,5,7])/\(p≠2->(cls n p).2=1\/(cls n p).2=-1):=by
 have t:=e9 (aq hp) b;have a:¬p∣(aV n p).2:=t.2.2;refine#[?_,λh2=>?_,λh2=>?_]
 .show(aV n p).1%2=0\/(aV n p).1%2=1;lia
 .show(if p=2 then (aV n p).2%8 else bp (aV n p).2 p)∈_;rw[Xc h2];rw[h2] at a;have:(aV n 2).2%8=1\/(aV n 2).2%8=3\/(aV n 2).2%8=5\/(aV n 2).2%8=7:=by lia
  rw[h2];simp only[Xa,Xe,XA];exact this
 .show(if p=2 then (aV n p).2%8 else bp (aV n p).2 p)=1\/(if p=2 then (aV n p).2%8 else bp (aV n p).2 p)=-1;rw[W_ h2];exact bu a
def yX{ns:List Int}(A:ns.length=7)(y:∀n∈ns,n≠0):∃k q,k∈bx 6/\aO q=Á/\17<=q/\q<=8089/\∀j,j<7->bJ (k*q) (P7.getD j 0)=bJ (ns.getD j 1) (P7.getD j 0):=by
 obtain⟨u,t,o,s,i,l,r,rfl⟩:∃a b c d e f g,ns=[a,b,c,d,e,f,g]:=by
  match ns,A with
  |[a,b,c,d,e,f,g],_=>exact#[a,b,c,d,e,f,g,rfl]
 have m:∀n,n∈[u,t,o,s,i,l,r]->n≠0:=y
 have h:GW (if 0<u then 1 else -1) [cls t 2,cls o 3,cls s 5,cls i 7,cls l 11,cls r 13]:=by
  have c1:=jE (n:=t) (p:=2) (fI 2 .a) (m _ .c);have c2:=jE (n:=o) (p:=3) (fI 3 .a) (m _ .c);have c3:=jE (n:=s) (p:=5) (fI 5 .a) (m _ .c);have c4:=jE (n:=i) (p:=7) (fI 7 .a) (m _ .c);have x:=jE (n:=l) (p:=11) (fI 11 .a) (m _ .c);have w:=jE (n:=r) (p:=13) (fI 13 .a) (m _ .c);refine#[by split<;>simp,rfl,λj v=>?_,c1.2.1 rfl,λj h1 v=>?_]
  .have:j=0\/j=1\/j=2\/j=3\/j=4\/j=5:=by lia
   rcases this with rfl|rfl|rfl|rfl|rfl|rfl
   .exact c1.1
   .exact c2.1
   .exact c3.1
   .exact c4.1
   .exact x.1
   .exact w.1
  .have:j=1\/j=2\/j=3\/j=4\/j=5:=by lia
   rcases this with rfl|rfl|rfl|rfl|rfl
   .exact c2.2.2 .a
   .exact c3.2.2 .a
   .exact c4.2.2 .a
   .exact x.2.2 .a
   .exact w.2.2 .a
 obtain⟨q,q1,C,D,B⟩:=RQ h;have ha:=(Ce (k:=cR _ _*q) h.len).mp B;refine#[cR (if 0<u then 1 else -1) [cls t 2,cls o 3,cls s 5,cls i 7,cls l 11,cls r 13],q,?_,q1,C,D,λj v=>?_]
 .rw[GB h.len];exact ND _ (by rcases h.sg with z|z<;>rw[z]<;>simp) _ h.bits
 .have:j=0\/j=1\/j=2\/j=3\/j=4\/j=5\/j=6:=by lia
  rcases this with rfl|rfl|rfl|rfl|rfl|rfl|rfl
  .exact congrArg ĉ ha.1
  .exact congrArg å (ha.2 0 .a)
  .exact congrArg å (ha.2 1 .a)
  .exact congrArg å (ha.2 2 .a)
  .exact congrArg å (ha.2 3 .a)
  .exact congrArg å (ha.2 4 .a)
  .exact congrArg å (ha.2 5 .a)
def jn(a b:Int):Int:=a.fdiv ((Ê a b:Nat):Int)*b.fdiv ((Ê a b:Nat):Int)
def KP(ha:a≠0):∃g u v,0<g/\a=g*u/\b=g*v/\jn a b=u*v/\Ê u v=1:=by
 obtain⟨u,c⟩:=Y9 a b;obtain⟨v,d⟩:=YO a b;have e:((Ê a b:Nat):Int)≠0:=λz=>ha (by rw[c,z,aaK])
 have j:a.fdiv ((Ê a b:Nat):Int)=u:=by
  have:=YQ u e;rwa[<-c] at this
 have ev:b.fdiv ((Ê a b:Nat):Int)=v:=by
  have:=YQ v e;rwa[<-d] at this
 have u0:u≠0:=λz=>ha (by rw[c,z,XZ]);refine#[((Ê a b:Nat):Int),u,v,.b,c,d,by unfold jn;rw[j,ev],D_ (λq h ⟨s,i⟩ ⟨t,k⟩=>?_) u0];have h1:((Ê a b:Nat):Int)*q∣a:=#[s,by rwa[XT,<-i]];have h2:((Ê a b:Nat):Int)*q∣b:=#[t,by rwa[XT,<-k]];have f:=acj h1 h2;have l:=Xt .b f;have:=aq h;have:=Xp (show(2:Int)<=q by lia) (show(0:Int)<=((Ê a b:Nat):Int) by lia);lia
def Qe(ha:a≠0):∃g u,0<g/\a=g*u/\a*b=jn a b*(g*g):=by
 obtain⟨g,u,v,c,e1,e2,e3,_⟩:=KP (b:=b) ha;refine#[g,u,c,e1,?_];rw[e3,e1,e2];grind
def MP(ha:a≠0)(h1:a∣m)(h2:b∣m):jn a b∣m:=by
 obtain⟨g,u,v,f,e1,e2,e3,e4⟩:=KP (b:=b) ha;rw[e3];have e:u∣m:=XU #[g,by rw[e1,XY]] h1;have d:v∣m:=XU #[g,by rw[e2,XY]] h2;have c:Nat.Coprime u.natAbs v.natAbs:=e4;have:=Nat.Coprime.mul_dvd_of_dvd_of_dvd c (YE.mpr e) (YE.mpr d);rw[<-XN] at this;exact YE.mp this
def R5:∀d∈Ò 174,2<=d->30030%(d*d)≠0:=by decide +kernel
def GO:j_ 30030:=#[.a,λd c z=>by
 have h1:=Xt .a z
 have e:d<174:=by
  apply Xf;intro b;have:=X_ (show(174:Int)<=d by lia) (show(174:Int)<=d by lia) .a .b;lia
 obtain⟨n,rfl⟩:=Int.eq_ofNat_of_zero_le (show 0<=d by lia);have:=R5 n (Yh.mpr .b) .b
 have a:n*n∣30030:=by
  have:=YE.mpr z;rwa[XN] at this
 exact this (aan a)]
def iB(h:k∈bx 6):k∣30030:=Xu (tZ.2 k h).2.2.2
def BD(h:k∈bx 6):j_ k:=w6 GO (iB h)
def GQ(a:aO q=Á)(h:q∣30030):q∈Q6:=by
 have e:(30030:Int)=2*(3*(5*(7*(11*13)))):=by decide
 rw[e] at h;have m:∀{p:Int},p∈Q6->q∣p->q∈Q6:=λ{p} hp b=>by rwa[bC a (fI p hp) b]
 rcases euclid a h with z|h
 .exact m .a z
 rcases euclid a h with z|h
 .exact m .a z
 rcases euclid a h with z|h
 .exact m .a z
 rcases euclid a h with z|h
 .exact m .a z
 rcases euclid a h with z|h
 .exact m .a z
 .exact m .a h
def sV(h:k∈bx 6)(b:aO q=Á)(a:q∣k):q∈Q6:=GQ b (XU a (iB h))
def rB:∀k∈bx 6,-k∈bx 6/\(k.natAbs:Int)∈bx 6/\jn k 1=k/\jn k (-1)=-k:=by decide +kernel
def Bz:oH Q6:=#[.a,fI,.a]
def nh(h:k∈bx 6):lK Q6 k:=#[(tZ.2 k h).1,λ_ b a=>sV h b a]
def uG(k p:Int):Bool:=if p=0 then decide (0<k) else decide (cls k p=(0,1))
def jq(p:Int):List Int:=if p=0 then [1,-1] else if p=2 then [1,3,5,7,2,6,10,14] else [1,j9 p,p,p*j9 p]
def G4(p:Int):(jq p).length<=8:=by unfold jq;split;decide;split<;>simp
def GS(h:bJ a p=bJ k p):az a c p=az k c p:=by
 unfold bJ at h;by_cases b:p=0
 .subst b;rw[Xc rfl,Xc rfl] at h;have e:=acq h;rw[aN,aN];congr 1;by_cases x:0<a<;>by_cases y:0<k<;>simp[x,y] at e ⊢
 .rw[W_ b,W_ b] at h;have e:=aaY h;unfold az;rw[W_ b,W_ b,e]
def aY(h:k∈bx 6):k≠0:=(tZ.2 k h).1
def eA(h:k∈bx 6):k.natAbs<=30030:=by have:=tZ.2 k h;lia
def Rl:∀a∈Ò 174,∀b∈Ò 174,30030%(174*a+b)=0->((174*a+b:Nat):Int)∈bx 6:=by decide +kernel
def Cf(h:n∣30030):n∈bx 6:=by
 have h1:n.natAbs∣30030:=YE.mpr h;have h2:=abz .a h1
 have key:(n.natAbs:Int)∈bx 6:=by
  have e:n.natAbs=174*(n.natAbs/174)+n.natAbs%174:=by lia
  have:=Rl (n.natAbs/174) (Yh.mpr .b) (n.natAbs%174) (Yh.mpr .b);rw[<-e] at this;exact this (aan h1)
 rcases acG n with e|e
 .rw[e];exact key
 .rw[e];exact(rB _ key).1
def Ms(ha:a∈bx 6)(c:b∈bx 6):jn a b∈bx 6:=Cf (MP (aY ha) (iB ha) (iB c))
def kM(hp:Pl p)(b:x≠0)(h:uG n p=Á):az x n p=Á:=by
 unfold uG at h;by_cases a:p=0
 .subst a;rw[Xc rfl] at h;rw[aN,h,abf]
 .rw[W_ a] at h;exact yS (hp.resolve_left a) b (Xq h)
def NH:∀cn∈C2,∀a∈C2,∀c1 c2:Bool,(c1=Â->cn≠(0,1))->(c2=Â->a≠(0,1))->(cn=a->c1=c2)->∃s∈[((0:Int),(1:Int)),(0,3),(0,5),(0,7),(1,1),(1,3),(1,5),(1,7)],fB s cn=c1/\fB s a=c2:=.a
def M7:∀cn∈CO,∀a∈CO,∀m∈[(1:Int),-1],∀c1 c2:Bool,(c1=Â->cn≠(0,1))->(c2=Â->a≠(0,1))->(cn=a->c1=c2)->∃s∈[((0:Int),(1:Int)),(0,-1),(1,1),(1,-1)],lJ s cn m=c1/\lJ s a m=c2:=.a
def PV(pp:aO p=Á):cls 1 p=(0,1):=by
 have p2:=aq pp;have a:¬p∣1:=λz=>by have:=Xt .a z;lia
 rw[bH p2 a];by_cases e2:p=2
 .rw[Xc e2];rfl
 .rw[W_ e2,fT pp e2 #[0,.b]]
def vZ(h:Pl p)(ha:a≠0)(d:b≠0)(c:k≠0):az (a*k) (b*k) p=(az k (-1*(a*b)) p==az a b p):=by
 have e:=Xb ha d;rw[u7 h ha c (Xb d c),dw h ha d c,dw h c d c,oY h c,dw h c .a e,dw h c ha d,bA h c ha];cases az a b p<;>cases az k a p<;>cases az k b p<;>cases az k (-1) p<;>rfl
def vY(h:Pl p)(ha:a≠0)(c:b≠0):az a (-1*(a*b)) p=az a b p:=by
 rw[dw h ha .a (Xb ha c),dw h ha ha c,oY h ha];cases az a b p<;>cases az a (-1) p<;>rfl
def Bs(ha:a≠0)(b:k≠0):0<a*k↔(0<a/\0<k)\/(a<0/\k<0):=by
 rcases Yf ha with h|h<;>rcases Yf b with h'|h'
 .exact#[λ_=>.inr #[h,h'],λ_=>YK h h']
 .have:=Yy h h';exact#[λz=>by lia,λz=>by lia]
 .have:=aaG h h';exact#[λz=>by lia,λz=>by lia]
 .exact#[λ_=>.inl #[h,h'],λ_=>X7 h h']
def Ej(ha:a≠0)(j:b≠0)(f:c≠0):bN [a,b,c] p=az (-a*c) (-b*c) p:=by
 by_cases g:p=0
 .subst g;rw[Yk,a7,aN,Zd,Zv,Zv,Bs .b f,Bs .b f];constructor
  .rintro⟨⟨x,d,i⟩,⟨y,e,h⟩⟩;simp only[Xa,Xe,XA] at d e;rcases d with rfl|rfl|rfl<;>rcases e with rfl|rfl|rfl<;>lia
  .intro z;have n:a<0\/b<0\/c<0:=by lia
   have q:0<a\/0<b\/0<c:=by lia
   constructor
   .rcases n with n|n|n
    .exact#[a,.c,n]
    .exact#[b,.c,n]
    .exact#[c,.c,n]
   .rcases q with n|n|n
    .exact#[a,.c,n]
    .exact#[b,.c,n]
    .exact#[c,.c,n]
 .rw[dc g];rfl
def iJ(b:lK L x)(c:lK L y):lK L (x*y):=#[Xb b.1 c.1,λq a d=>(euclid a d).elim (b.2 q a) (c.2 q a)]
def mQ{α:List Int}(h:∀p∈L,p∈α)(a:lK L x):lK α x:=#[a.1,λq c b=>h q (a.2 q c b)]
def gL(a:lK L x):lK L (-x):=#[by have:=a.1;lia,λq b c=>a.2 q b (Yp.mp c)]
def dG(hp:Pl p)(ha:a≠0)(d:b≠0):lI (bJ a p) (bJ b p) p=bJ (a*b) p:=by
 rcases hp with rfl|pp
 .exact rV .a ha d
 .have c:p≠0:=by have:=aq pp;lia
  unfold bJ lI;rw[W_ c,W_ c,W_ c];show å _=å _;rw[aM pp ha d]
def wc(hp:Pl p)(ha:a≠0)(b:r≠0):bJ (a*r*r) p=bJ a p:=by
 rcases hp with rfl|pp
 .exact L8 .a ha b
 .have c:p≠0:=by have:=aq pp;lia
  unfold bJ;rw[W_ c,W_ c,kO pp ha b]
def u4(hp:Pl p)(a:f≠0)(c:k≠0)(b:n≠0):bJ k p=lI (bJ f p) (bJ n p) p↔bJ (k*f) p=bJ n p:=by
 rw[dG hp a b];constructor
 .intro h;rw[<-dG hp c a,h,dG hp (Xb a b) a,show f*n*f=n*f*f by grind,wc hp b a]
 .intro h;rw[<-dG hp a b,<-h,dG hp a (Xb c a),show f*(k*f)=k*f*f by grind,wc hp c a]
def mB(hp:Pl p):∀k∈jq p,k≠0:=λk a=>by
 unfold jq at a;split at a
 .simp only[Xa,Xe,XA] at a;lia
 .rename_i b;split at a
  .simp only[Xa,Xe,XA] at a;lia
  .rename_i h2;have pp:=hp.resolve_left b;have n:=(mC (mh pp h2)).1;simp only[Xa,Xe,XA] at a;rcases a with rfl|rfl|rfl|rfl
   .decide
   .lia
   .exact b
   .exact Xb b .b
def BS(hp:Pl p)(B:n≠0)(y:m≠0)(c1 c2:Bool)(h1:c1=Â->uG n p=Â)(h2:c2=Â->uG m p=Â)(j:bJ n p=bJ m p->c1=c2):∃k∈jq p,az k n p=c1/\az k m p=c2:=by
 by_cases c:p=0
 .subst c;have g:∀x:Int,bJ x 0=.inl (if 0<x then 1 else -1):=λx=>by unfold bJ;rw[Xc rfl]
  have d:∀x:Int,uG x 0=Â->¬0<x:=λx h=>by
   unfold uG at h;rw[Xc rfl] at h;exact XM h
  have sn:∀x:Int,az (-1) x 0=decide (0<x):=λx=>by rw[aN];rfl
  have eq:¬0<n->¬0<m->c1=c2:=λa b=>j (by rw[g,g,W_ a,W_ b]);by_cases r:c1=Á/\c2=Á
  .refine#[1,by unfold jq;simp,?_];rw[aN,aN,r.1,r.2];exact#[rfl,rfl]
  .refine#[-1,by unfold jq;simp,?_];rw[sn,sn];cases c1 with
   |false =>
    have a:=d n (h1 rfl);cases c2 with
    |false=>exact#[XH a,XH (d m (h2 rfl))]
    |true=>exact#[XH a,XI (Xf λz=>by have:=eq a z;cases this)]
   |true =>
    cases c2 with
    |true=>exact absurd #[rfl,rfl] r
    |false =>
     have a:=d m (h2 rfl);exact#[XI (Xf λz=>by have:=eq z a;cases this),XH a]
 have pp:=hp.resolve_left c;have p2:=aq pp
 have d:∀x:Int,uG x p=Â->cls x p≠(0,1):=λx h=>by
  unfold uG at h;rw[W_ c] at h;exact XM h
 have g:cls n p=cls m p->bJ n p=bJ m p:=λe=>by unfold bJ;rw[W_ c,W_ c,e]
 by_cases e2:p=2
 .subst e2;obtain⟨s,i,w,t⟩:=NH _ (cS B) _ (cS y) c1 c2 (λh=>d _ (h1 h)) (λh=>d _ (h2 h)) (λe=>j (g e));have key:∀k:Int,k∈jq 2->cls k 2=s->∃k∈jq 2,az k n 2=c1/\az k m 2=c2:=λk u ek=>#[k,u,by rwa[aU,ek],by rw[aU,ek];exact t];have sm:jq 2=[1,3,5,7,2,6,10,14]:=by unfold jq;rw[W_ .a,Xc rfl]
  rw[sm] at key ⊢;have od:∀x:Int,¬(2:Int)∣x->cls x 2=(0,x%8):=λx h=>by rw[bH .a h];rfl
  have ev:∀x:Int,x≠0->¬(2:Int)∣x->cls (2*x) 2=(1,x%8):=λx D h=>by
   have:=dG (p:=2) (a:=2) (b:=x) (.inr aP) .a D;unfold bJ at this;rw[W_ .a,W_ .a,W_ .a,E3,od x h] at this;have e:=aaY this.symm;rw[e];show((1+0)%2,_)=_;rw[show((1:Int)+0)%2=1 by decide];have:(1*(x%8))%8=x%8:=by lia
   exact congrArg (Prod.mk (1:Int)) this
  simp only[Xa,Xe,XA] at i;rcases i with rfl|rfl|rfl|rfl|rfl|rfl|rfl|rfl
  .exact key 1 .c (od 1 .a)
  .exact key 3 .c (od 3 .a)
  .exact key 5 .c (od 5 .a)
  .exact key 7 .c (od 7 .a)
  .exact key 2 .c (ev 1 .a .a)
  .exact key 6 .c (ev 3 .a .a)
  .exact key 10 .c (ev 5 .a .a)
  .exact key 14 .c (ev 7 .a .a)
 .obtain⟨s,i,w,t⟩:=M7 _ (cG p2 e2 B) _ (cG p2 e2 y) _ (tU p2) c1 c2 (λh=>d _ (h1 h)) (λh=>d _ (h2 h)) (λe=>j (g e));have key:∀k:Int,k∈jq p->cls k p=s->∃k∈jq p,az k n p=c1/\az k m p=c2:=λk u ek=>#[k,u,by rwa[bg c e2,ek],by rw[bg c e2,ek];exact t];have sm:jq p=[1,j9 p,p,p*j9 p]:=by unfold jq;rw[W_ c,W_ e2]
  rw[sm] at key ⊢;obtain⟨F,q,_⟩:=mC (mh pp e2)
  have E:¬p∣j9 p:=λz=>by
   rw[c9 z] at q;cases q
  have cn:cls (j9 p) p=(0,-1):=by rw[bH p2 E,W_ e2,q]
  have f:¬p∣1:=λz=>by have:=Xt .a z;lia
  have A:bp 1 p=1:=fT pp e2 #[0,.b];have l:cls 1 p=(0,1):=by rw[bH p2 f,W_ e2,A]
  have C:cls p p=(1,1):=by
   have:=jB (v:=1) p2 f;rw[XE,X1,Yb,Yb] at this;unfold cls;rw[this,W_ e2];dsimp only;rw[A];rfl
  have o:cls (p*j9 p) p=(1,-1):=by
   have:=dG (p:=p) (a:=p) (b:=j9 p) hp c .b;unfold bJ at this;rw[W_ c,W_ c,W_ c,C,cn] at this;have e:=aaY this.symm;rw[e];show((1+0)%2,_)=_;rw[W_ e2];rfl
  simp only[Xa,Xe,XA] at i;rcases i with rfl|rfl|rfl|rfl
  .exact key 1 .c l
  .exact key (j9 p) .c cn
  .exact key p .c C
  .exact key (p*j9 p) .c o
def zV{d:Int}(hp:Pl p)(ha:a≠0)(l:b≠0)(B:c≠0)(w:d≠0)(h:bN [a,b,c,d] p=Á):∃k∈jq p,bN [a,b,-k] p=Á/\bN [c,d,k] p=Á:=by
 by_cases i:p=0
 .subst i;have sm:jq 0=[1,-1]:=by unfold jq;rw[Xc rfl]
  rw[sm];rw[a7] at h
  have key:∀k:Int,k∈[(1:Int),-1]->((a<0\/b<0\/0<k)/\(0<a\/0<b\/k<0))->((c<0\/d<0\/k<0)/\(0<c\/0<d\/0<k))->∃k∈[(1:Int),-1],bN [a,b,-k] 0=Á/\bN [c,d,k] 0=Á:=λk m e1 e2=>by
   refine#[k,m,?_,?_]
   .rw[a7];constructor
    .rcases e1.1 with z|z|z
     .exact#[a,.c,z]
     .exact#[b,.c,z]
     .exact#[-k,.c,.b]
    .rcases e1.2 with z|z|z
     .exact#[a,.c,z]
     .exact#[b,.c,z]
     .exact#[-k,.c,.b]
   .rw[a7];constructor
    .rcases e2.1 with z|z|z
     .exact#[c,.c,z]
     .exact#[d,.c,z]
     .exact#[k,.c,z]
    .rcases e2.2 with z|z|z
     .exact#[c,.c,z]
     .exact#[d,.c,z]
     .exact#[k,.c,z]
  obtain⟨⟨x,n,C⟩,⟨y,o,A⟩⟩:=h;simp only[Xa,Xe,XA] at n o;by_cases q:0<a/\0<b\/((a<0/\0<b\/0<a/\b<0)/\c<0)
  .refine key 1 .c #[.b,.b] #[?_,.b];rcases n with rfl|rfl|rfl|rfl<;>lia
  .refine key (-1) .c #[.b,.b] #[.b,?_];rcases o with rfl|rfl|rfl|rfl<;>lia
 have pp:=hp.resolve_left i;have pl:Pl p:=hp;have f:-c≠0:=by lia
 have g:-d≠0:=by lia
 have nn:-1*(a*b)≠0:=Xb .a (Xb ha l);have j:-1*(-c*-d)≠0:=Xb .a (Xb f g)
 obtain⟨k,m,v,s⟩:=BS hp nn j (az a b p) (az (-c) (-d) p) (λe=>by
   cases z:uG (-1*(a*b)) p with
   |false=>rfl
   |true =>
    have:=kM pl ha z;rw[vY pl ha l,e] at this
    cases this) (λe=>by
   cases z:uG (-1*(-c*-d)) p with
   |false=>rfl
   |true =>
    have:=kM pl f z;rw[vY pl f g,e] at this
    cases this) (λe=>by
   have u:zW (a*b*c*d) p:=by
    have e1:=dG hp nn j;rw[e,dG hp j j] at e1;have e2:=wc (a:=1) hp .a j;rw[Yb,e1] at e2;unfold bJ at e2;rw[W_ i,W_ i] at e2;have e3:=aaY e2;have e4:-1*(a*b)*(-1*(-c*-d))=a*b*c*d:=by grind
    rw[e4] at e3;show cls (a*b*c*d) p=(0,1);rw[e3];exact PV pp
   rw[gX i,XI u] at h;have tz:ue a b c p=Á:=h;unfold ue at tz;rw[show -a*c=a*-c by grind,show -b*c=b*-c by grind,vZ pl ha l f] at tz
   have t:az (-c) (-1*(a*b)) p=az (-c) (-d) p:=by
    rw[bA pl nn f,GS e,bA pl f j,vY pl f g]
   rw[t] at tz
   exact(aaQ.mp tz).symm)
 have r:=mB hp k m;refine#[k,m,?_,?_]
 .rw[dc i];unfold ue;rw[show -a*-k=a*k by grind,show -b*-k=b*k by grind,vZ pl ha l r,v];simp
 .rw[dc i];unfold ue;rw[vZ pl f g r,s];simp
def BQ(hp:Pl p){m:List Int}(i:∀a∈l,a≠0)(g:∀a∈m,a≠0)(e:l.map (λa=>bJ a p)=m.map λa=>bJ a p):bN l p=bN m p:=by
 rcases hp with rfl|pp
 .have key:∀{l m:List Int},(∀a∈l,a≠0)->(∀a∈m,a≠0)->l.map (λa=>bJ a 0)=m.map (λa=>bJ a 0)->bN l 0=Á->bN m 0=Á:=λ{l m} i g e h=>by
   rw[a7] at h ⊢
   have go:∀x∈l,∃y∈m,bJ y 0=bJ x 0:=λx j=>by
    have:bJ x 0∈l.map λa=>bJ a 0:=Xs.mpr #[x,j,rfl];rw[e] at this;exact Xs.mp this
   have sg:∀{x y:Int},x≠0->y≠0->bJ y 0=bJ x 0->(0<y↔0<x):=λ{x y} j o h=>by
    unfold bJ at h;rw[Xc rfl,Xc rfl] at h;have:=acq h;by_cases a:0<x<;>by_cases b:0<y
    .exact#[λ_=>a,λ_=>b]
    .rw[W_ b,Xc a] at this;cases this
    .rw[Xc b,W_ a] at this;cases this
    .exact#[λz=>absurd z b,λz=>absurd z a]
   obtain⟨⟨x,j,v⟩,⟨y,o,r⟩⟩:=h;obtain⟨n,d,ex⟩:=go x j;obtain⟨q,k,t⟩:=go y o;have h1:=sg (i x j) (g n d) ex;have h2:=sg (i y o) (g q k) t;have:=g n d;exact#[#[n,d,.b],#[q,k,h2.mpr r]]
  exact Yk.mpr #[key i g e,key g i e.symm]
 .have s:p≠0:=by have:=aq pp;lia
  refine pe pp i g ?_;have:(l.map λa=>bJ a p).map (λc=>match c with|.inl _=>((0:Int),(0:Int))|.inr u=>u)=(m.map λa=>bJ a p).map (λc=>match c with|.inl _=>((0:Int),(0:Int))|.inr u=>u):=by rw[e]
  rw[ϴ,ϴ] at this
  have f:((λc:Int⊕(Int×Int)=>match c with|.inl _=>((0:Int),(0:Int))|.inr u=>u)∘λa=>bJ a p)=λa=>cls a p:=funext λa=>by
   show(match bJ a p with|.inl _=>((0:Int),(0:Int))|.inr u=>u)=_;unfold bJ;rw[W_ s]
  rwa[f] at this
def zI(one other:List Int)(p:Int):List (Int⊕(Int×Int)):=((jq p).filter λk=>bN (one++[-k]) p&&bN (other++[k]) p).map λk=>bJ k p
def NI{t:Int}{one other:List Int}(hp:Pl p)(h1:∀a∈one,a≠0)(h2:∀a∈other,a≠0)(d:t≠0)(h:bJ t p∈zI one other p):bN (one++[-t]) p=Á/\bN (other++[t]) p=Á:=by
 obtain⟨k,b,e⟩:=Xs.mp h;obtain⟨b,z⟩:=Ye.mp b;rw[XW] at z;have c:=mB hp k b
 have i:bJ (-t) p=bJ (-k) p:=by
  rw[show -t=-1*t by lia,show -k=-1*k by lia,<-dG hp .a d,<-dG hp .a c,e]
 have nz:∀{l:List Int} {x:Int},(∀a∈l,a≠0)->x≠0->∀a∈l++[x],a≠0:=λ{l x} f g a ha=>by
  rcases X2.mp ha with ha|ha
  .exact f a ha
  .rwa[Xv.mp ha]
 constructor
 .rw[BQ hp (nz h1 .b) (nz h1 (show -k≠0 by lia)) (by rw[Y3,Y3,XQ,XQ,i])];exact z.1
 .rw[BQ hp (nz h2 d) (nz h2 c) (by rw[Y3,Y3,XQ,XQ,e])];exact z.2
def A9{one other:List Int}(a:k∈jq p)(h1:bN (one++[-k]) p=Á)(h2:bN (other++[k]) p=Á):bJ k p∈zI one other p:=Xs.mpr #[k,Ye.mpr #[a,by rw[h1,h2];rfl],rfl]
def KN(d:oH L)(c:lK L x)(e:lK L y)(h:∀p∈(0:Int)::L,az x y p=Á):∀p,Pl p->az x y p=Á:=λp hp=>by
 by_cases a:p∈(0:Int)::L
 .exact h p a
 rcases hp with rfl|hp
 .exact absurd (Xo ..) a
 have b:p∉L:=λz=>a (Xj _ z);exact lD hp (λz=>b (by rw[z];exact d.two)) (λz=>b (c.2 p hp z)) (λz=>b (e.2 p hp z))
def NM(b:oH (L++[q]))(a:lK (L++[q]) x)(c:lK (L++[q]) y)(h:∀p∈(0:Int)::L,az x y p=Á):∀p,Pl p->az x y p=Á:=by
 have ev:=Gb b a c;unfold qJ at ev;rw[show(0:Int)::(L++[q])=((0:Int)::L)++[q] from rfl,tD,wO h] at ev
 have d:az x y q=Á:=by
  cases z:az x y q with
  |true=>rfl
  |false =>
   exfalso
   have:oF [q] (az x y)=Â:=by
    unfold oF;rw[aa5,z];rfl
   rw[this] at ev;cases ev
 refine KN b a c λp hp=>?_;rcases Xa.mp hp with z|z
 .exact h p (by rw[z];exact Xo ..)
 .rcases X2.mp z with z|z
  .exact h p (Xj _ z)
  .rwa[Xv.mp z]
def ka(q n:Nat):Bool:=æ ((n%q)^(q/2)%q) 1
def w8{q:Nat}(hp:aO (q:Int)=Á)(h2:q≠2)(n:Nat):ka q n=Á↔bp (n:Int) (q:Int)=1:=by
 have b:=aq hp
 have od:q%2=1:=by
  rcases bP.mp hp with z|z
  .lia
  .lia
 unfold ka bp;have e1:((n:Int)%(q:Int))=((n%q:Nat):Int):=rfl;have e2:(((q:Int)-1)/2).toNat=q/2:=by lia
 rw[e1,e2,W_ (show ¬(q:Int)=2 by lia)];by_cases z:n%q=0
 .rw[z,Xc (show((0:Nat):Int)=0 from rfl),Nat.zero_pow .b,Nat.zero_mod];exact#[λh=>absurd h .a,λh=>absurd h .a]
 .rw[W_ .b]
  have e3:(((n%q:Nat):Int))^(q/2)%(q:Int)=(((n%q)^(q/2)%q:Nat):Int):=by
   rw[Int.natCast_emod ((n%q)^(q/2)) q,aaH]
  rw[e3];constructor
  .intro h;rw[YT h];rfl
  .intro h;split at h
   .rename_i a;have:(n%q)^(q/2)%q=1:=by lia
    rw[this];rfl
   .cases h
noncomputable def Ez(n:Nat):Nat:=n%8/2*32+(ka 3 n).toNat*16+(ka 5 n).toNat*8+(ka 7 n).toNat*4+(ka 11 n).toNat*2+(ka 13 n).toNat
noncomputable def FT:List Nat:=[593,17,353,257,1913,233,137,113,41,1361,89,521,281,569,401,641,73,937,97,313,193,337,2017,1873,241,601,1321,1609,1009,2521,2689,8089,83,563,587,467,827,107,683,443,1931,131,59,251,1019,491,2699,179,307,283,643,1483,1723,43,67,883,19,139,619,859,739,211,331,1171,293,173,773,797,197,1733,317,53,461,101,509,269,149,29,1061,389,733,997,397,157,613,277,37,757,349,61,229,181,109,1381,421,1621,167,503,47,647,743,263,863,23,479,1559,839,311,239,1031,71,191,3583,607,223,103,967,127,463,823,271,439,31,199,151,79,631,751]
noncomputable def RT:List (List Nat):=[[1097,593,4457,11633,16673,1553],[857,17,19577,7433,11777,7817],[1697,353,13457,15137,9497,8273],[1193,257,1433,4073,11177,6473],[2153,9137,11057,1913,4817,11393],[953,7193,10313,12377,22073,6353],[617,137,13577,5657,977,4337],[2297,23633,113,19457,12497],[761,41,23561,11681,6089],[1889,16649,3449,2609,17729,4289],[929,89,14969,20681,7649,3881],[881,3041,1049,11801,10169],[1289,9209,11321,16529,11369],[809,569,4001,3329,1481,2081],[449,17609,23081,6689,1409,6521],[4481,22961,9689,641,5009,7121],[1657,8377,4297,3673,73,2593],[1777,1993,21577,12073,2617,2833],[577,1753,97,15217,5857,4513],[433,3793,1153,20593,3457,5113],[457,3313,193,10753,1033,4153],[673,18433,19993,4993,1297,337],[2137,23857,2377,6337,8353,15073],[2473,1873,4657,7393,8737,11257],[409,11161,14929,13681,4441,5689],[1249,3769,8161,601,4969],[1489,21481,16369,2281,1321,5449],[2161,1609,3169,23929,15889,4801],[1129,3049,3361,1201,3889],[4729,12601,13441,19681,23689,2521],[3529,7681,5569,18481,2689,12049],[1,19009,21961,21121,24049,8089],[227,83,6947,5843,9323,2243],[1427,563,3923,4787,11483,8147],[1307,11003,21587,4283,16427],[1907,12347,467,14843,8363,13523],[1163,9587,3203,15803,6203,3803],[347,13043,3467,1187,107,5147],[947,19427,17483,1787,7547,14723],[2003,2027,17627,21323,7043],[2411,5939,8819,13691,1931,4451],[1091,1979,131,3251,8291,1811],[1259,2099,7451,6779,6131,2579],[419,5171,971,14699,16691,251],[1451,23459,10691,1019,5051,2459],[659,3539,491,3299,16979,5651],[4019,15299,22859,21179,14051,2699],[1499,179,3371,4211,10091,2531],[787,5683,18427,4483,307,1627],[523,283,8707,4003,14563,4507],[1123,22027,2803,23203,19507],[2467,15643,15427,19603,17923,1483],[2683,1723,3907,11923,3187,4363],[547,43,9283,10243,11827,8467],[163,9067,14683,67,5923,1747],[907,5443,6763,883,7723,2083],[811,19,21859,2659,16411],[1459,15259,23371,23539,1531,2131],[691,2971,6571,619,3499,8539],[1291,1699,3331,8011,4339,15739],[1051,22171,2251,739,23251,6091],[571,2851,8059,211,22051,3571],[379,2179,499,331,14851,3931],[2011,21499,2731,3259,6451,3019],[2477,13397,18413,7013,4373,293],[677,4157,3533,5477,4637,4133],[2693,11213,2957,8237,5813,4493,773],[1013,12893,10253,11093,1277,797],[557,4253,1493,197,19037],[2213,17333,10973,22877,5573,4397],[1373,317,2333,19853,3557,12413],[653,53,6917,3917,12653],[941,2789,9341,17981,461,2309],[1949,101,2141,3461,5381,5981],[1181,509,2621,9029,16229,6389],[1109,1301,7349,7901,12269,2861,269],[821,14669,19469,5189,3581,149],[701,7589,19709,6101,2549],[1709,2069,13421,12149,1061,2381],[1901,9221,389,2909,4229,3221],[853,733,7213,16477,3517,3373],[1693,19813,6397,14797,997,7237],[1237,15277,4933,18133,4357,3853],[2677,6373,157,17317,3877,5197],[877,18757,19597,1597,20533,5077],[373,2053,277,4957,4813,1117],[2293,3733,37,5413,6637,2797],[1093,3613,12973,13693,1213],[1669,11149,5101,11941,2749,7741],[1069,14629,4021,3709,10141,61],[661,229,1021,16141,9901,6229],[829,181,2029,8629,19309,1741],[541,2221,109,3109,15061],[1429,5821,21589,9829,1381,8269],[709,4789,19429,6469,10861,421],[3301,10789,23269,6301,9109,5581],[1487,3863,21383,11087,3167,7103],[887,3407,1223,23063,23663],[383,11903,47,20663,2663,983],[2687,16943,14447,647,11423],[2087,13463,17903,743,4127,2543],[1583,263,5903,4463,8087,4967],[1103,863,2423,6983,7247],[2447,14543,23,7583,10607],[1151,1319,15671,479,2351,3671,4919],[2999,14951,5711,10559,1559,6551,10799],[2399,14831,20639,6359,11399],[719,1511,19991,311,5879,5591],[359,22079,2111,14519,21599,239],[2591,1031,5279,4391,10271,6959],[2039,71,12959,4271,6911],[599,191,1439,3719,1871],[3967,23623,10303,12823,13327,16183,12487],[1063,1447,11527,7927,2383,9127],[1567,1783,223,14503,9007,3463],[367,9463,5743,103,727,1543],[2503,3343,5623,21247,5167,2767],[1327,6343,11743,12583,18223,127],[487,11383,8647,1087,6703],[1303,5503,4447,823,13183,3943],[1399,6079,13879,271,4231,4639],[1231,3559,439,4759,15991],[1279,31,4591,1879,22111,3391],[1039,1951,13711,11311,17359],[1471,14071,7039,9391,9319,10831],[919,3319,9151,20071,79,17599],[1831,7639,5839,631,3271,5791],[991,2311,19471,751,15031,4159]]
noncomputable def NC(n:Nat):Bool:=!Nat.beq (n%2) 0&&!Nat.beq (n%3) 0&&!Nat.beq (n%5) 0&&!Nat.beq (n%7) 0&&!Nat.beq (n%11) 0&&!Nat.beq (n%13) 0
noncomputable def LD:List Nat:=[17,19,23,29,31,37,41,43,47,53,59,61,67,71,73,79,83,89]
def LS:((Ò 128).all λi=>(xt.any λq=>æ q (FT.getD i 0))&&æ (Ez (FT.getD i 0)) i)=Á:=by decide +kernel
def M6:((Ò 8090).all λn=>!NC n || Nat.ble n 16 || Nat.ble (FT.getD (Ez n) 0) n || LD.any λd=>æ (n%d) 0&&Nat.blt d n)=Á:=by decide +kernel
def R9(r:Nat):Nat:=cond (Nat.blt r 160) 5 77
def OE:((Ò 128).all λi=>(RT.getD i []).all λr=>æ (Ez r) i&&(æ r 1 || (uR r (R9 r)&&œ 17 r&&æ (r%2) 1&&œ r 24049)))=Á:=by decide +kernel
def Rz:(xt.all λq=>RT.all λl=>(l.any λr=>!Nat.beq (r%q) 0&&ka q r)&&(l.any λr=>!Nat.beq (r%q) 0&&!ka q r))=Á:=by decide +kernel
def all_range{n:Nat}{f:Nat->Bool}(h:((Ò n).all f)=Á){i:Nat}(hi:i<n):f i=Á:=XX.mp h i (Yh.mpr hi)
def Ae(n:Nat):Ez n<128:=by
 have b:∀c:Bool,c.toNat<=1:=by decide
 have:=b (ka 3 n);have:=b (ka 5 n);have:=b (ka 7 n);have:=b (ka 11 n);have:=b (ka 13 n);unfold Ez;lia
def DJ:∀p∈([3,5,7,11,13]:List Nat),aO ((p:Nat):Int)=Á:=λp hp=>by
 refine fI _ ?_;have:∀p∈([3,5,7,11,13]:List Nat),((p:Nat):Int)∈Q6:=by decide
 exact this p hp
def xX{m n:Nat}(q:Kl m)(r:Kl n)(C:0<m)(w:0<n)(e:Ez m=Ez n):∀p∈P7,bJ (m:Int) p=bJ (n:Int) p:=by
 have b:∀c:Bool,c.toNat<=1:=by decide
 have h2:∀{x:Nat},Kl x->x%2=1:=λ{x} h=>by
  have:=h 0 .a;simp[Q6] at this;lia
 have m2:=h2 q;have A:=h2 r;have:=b (ka 3 m);have:=b (ka 5 m);have:=b (ka 7 m);have:=b (ka 11 m);have:=b (ka 13 m);have:=b (ka 3 n);have:=b (ka 5 n);have:=b (ka 7 n);have:=b (ka 11 n);have:=b (ka 13 n);unfold Ez at e;have tn:∀{x y:Bool},x.toNat=y.toNat->x=y:=by decide
 have B:m%8=n%8:=by lia
 have e3:ka 3 m=ka 3 n:=tn .b;have t:ka 5 m=ka 5 n:=tn .b;have u:ka 7 m=ka 7 n:=tn .b;have k:ka 11 m=ka 11 n:=tn .b;have i:ka 13 m=ka 13 n:=tn .b
 have odd:∀(p:Nat),p∈([3,5,7,11,13]:List Nat)->¬((p:Nat):Int)∣(m:Int)->¬((p:Nat):Int)∣(n:Int)->ka p m=ka p n->cls (m:Int) (p:Int)=cls (n:Int) (p:Int):=λp hp o l v=>by
  have pp:=DJ p hp;have p2:p≠2:=λz=>by subst z;revert hp;decide
  have a:((p:Nat):Int)≠2:=by lia
  rw[cQ pp a o,cQ pp a l];have f:=w8 pp p2 m;have s:=w8 pp p2 n;rw[v,s] at f;rcases bu o with z|z<;>rcases bu l with y|y
  .rw[z,y]
  .rw[z,y] at f;exact absurd (f.mpr rfl) .a
  .rw[z,y] at f;exact absurd (f.mp rfl) .a
  .rw[z,y]
 intro p hp;have c:=λj g=>q j g;have d:=λj g=>r j g;simp only[P7,Xa,Xe,XA] at hp;rcases hp with rfl|rfl|rfl|rfl|rfl|rfl|rfl
 .unfold bJ;rw[Xc rfl,Xc rfl,Xc .b,Xc .b]
 .unfold bJ;rw[W_ .a,W_ .a,cy .b,cy .b,show(m:Int)%8=(n:Int)%8 by lia]
 .unfold bJ;rw[W_ .a,W_ .a];exact congrArg å (odd 3 .a (c 1 .a) (d 1 .a) e3)
 .unfold bJ;rw[W_ .a,W_ .a];exact congrArg å (odd 5 .a (c 2 .a) (d 2 .a) t)
 .unfold bJ;rw[W_ .a,W_ .a];exact congrArg å (odd 7 .a (c 3 .a) (d 3 .a) u)
 .unfold bJ;rw[W_ .a,W_ .a];exact congrArg å (odd 11 .a (c 4 .a) (d 4 .a) k)
 .unfold bJ;rw[W_ .a,W_ .a];exact congrArg å (odd 13 .a (c 5 .a) (d 5 .a) i)
def e_{q:Nat}(h:q∈xt):aO (q:Int)=Á/\17<=q/\q<=8089:=by
 obtain⟨d,b,a,c,e⟩:=uI q h;exact#[ic d .b a e,b,c]
def II(o:aO q=Á)(f:17<=q)(C:q<=8089):∃r:Nat,r∈xt/\(r:Int)<=q/\∀p∈P7,bJ (r:Int) p=bJ q p:=by
 obtain⟨n,rfl⟩:∃n:Nat,q=(n:Int):=#[q.toNat,.b];have s:=ja o f
 have x:NC n=Á:=by
  have c:=λj v=>s j v
  have a:∀p:Nat,¬((p:Nat):Int)∣(n:Int)->(!Nat.beq (n%p) 0)=Á:=λp h=>by
   cases z:æ (n%p) 0 with
   |false=>rfl
   |true =>
    have:=YT z;exact absurd (ZA.mpr (aa2 this)) h
  unfold NC;rw[a 2 (c 0 .a),a 3 (c 1 .a),a 5 (c 2 .a),a 7 (c 3 .a),a 11 (c 4 .a),a 13 (c 5 .a)];rfl
 have h1:=all_range M6 (i:=n) .b;rw[x,show œ n 16=Â from abF.mpr λz=>by have:=X6 z;lia] at h1;simp only[Bool.not_true,Ϡ,Zd] at h1;have k:=all_range LS (Ae n);rw[XW] at k;obtain⟨y,B⟩:=k;obtain⟨r,m,b⟩:=YI.mp y;have b:=YT b;have l:=YT B;rcases h1 with h1|h1
 .have g:=X6 h1;rw[<-b] at g l;obtain⟨w,A,_⟩:=e_ m;exact#[r,m,.b,xX (ja w .b) s .b .b l]
 .exfalso;obtain⟨d,u,e⟩:=YI.mp h1;rw[XW] at e;have e1:=YT e.1;have e2:d<n:=X6 e.2;have t:∀d∈LD,2<=d:=by decide
  have:=t d u;rcases fj o .b (ZA.mpr (aa2 e1)) with z|z<;>lia
def C6{ns:List Int}(H:ns.length=7)(F:∀n∈ns,n≠0){q:Nat}(C:q∈xt){sg:Int}(i:sg=1\/sg=-1):∃k r,k∈bx 6/\(r=1\/(aO r=Á/\17<=r/\r<=24049))/\(∀j,j<7->bJ (k*r) (P7.getD j 0)=bJ (ns.getD j 1) (P7.getD j 0))/\¬(q:Int)∣k*r/\bp (k*r) q=sg:=by
 obtain⟨g,K,O⟩:=e_ C;obtain⟨k,q1,y,α,x,_,G⟩:=yX H F;obtain⟨d,rfl⟩:∃n:Nat,q1=(n:Int):=#[q1.toNat,.b];have w:∀p∈Q6,p<=13:=by decide
 have u:¬(q:Int)∣k:=λz=>by have:=w _ (GQ g (XU z (iB y)));lia
 have l:=XX.mp Rz q C
 have mem:RT.getD (Ez d) []∈RT:=by
  rw[Xh,Xn (show Ez d<RT.length from Ae d)];exact YY _
 have a:=XX.mp l _ mem;rw[XW] at a
 have pick:∀s:Int,(s=1\/s=-1)->∃r∈RT.getD (Ez d) [],¬(q:Int)∣(r:Int)/\bp (r:Int) q=s:=λs i=>by
  have B:∀{r:Nat},(!Nat.beq (r%q) 0)=Á->¬(q:Int)∣(r:Int):=λ{r} h z=>by
   have:=aan (ZA.mp z);rw[this] at h;cases h
  rcases i with rfl|rfl
  .obtain⟨r,b,e⟩:=YI.mp a.1;rw[XW] at e;exact#[r,b,B e.1,(w8 g .b r).mp e.2]
  .obtain⟨r,b,e⟩:=YI.mp a.2;rw[XW] at e;refine#[r,b,B e.1,?_];rcases bu (B e.1) with z|z
   .rw[(w8 g .b r).mpr z] at e;exact absurd e.2 .a
   .exact z
 obtain⟨r,b,J,I⟩:=pick (sg*bp k q) (by rcases i with rfl|rfl<;>rcases bu u with z|z<;>rw[z]<;>decide);have t:=XX.mp (all_range OE (Ae d)) r b;rw[XW] at t;have ec:=YT t.1
 have D:r=1\/(aO (r:Int)=Á/\17<=r/\r<=24049):=by
  have:=t.2;rw[Zd] at this;rcases this with z|z
  .exact .inl (YT z)
  .simp only[XW] at z;obtain⟨⟨⟨N,v⟩,A⟩,m⟩:=z;have v:=X6 v;have A:=YT A;have m:=X6 m;refine .inr #[ic N .b A ?_,v,m];unfold R9;cases c:Nat.blt r 160 with
   |true=>have:r<160:=X6 c;show r<(2*5+3)*(2*5+3);lia
   |false=>show r<(2*77+3)*(2*77+3);lia
 have cr:Kl (r:Int):=by
  rcases D with rfl|z
  .exact Ih
  .exact ja z.1 .b
 have L:0<r:=by lia
 have E:=(tZ.2 k y).1;refine#[k,r,y,?_,λj f=>?_,λz=>(euclid g z).elim u J,?_]
 .rcases D with rfl|z
  .exact .inl rfl
  .exact .inr #[z.1,.b,.b]
 .have o:P7.getD j 0∈P7:=by
   rw[Xh,Xn (show j<P7.length from f)];exact YY _
  rw[<-G j f,<-rV o E .b,<-rV o E .b,xX cr (ja α x) L .b ec _ o]
 .rw[cT g,I];rcases i with rfl|rfl<;>rcases bu u with z|z<;>rw[z]<;>decide
def pJ(f:oH L){z:Int}(b:lK L x)(a:lK L y)(d:lK L z\/∃q,oH (L++[q])/\lK (L++[q]) z)(h:∀p∈(0:Int)::L,bN [x,y,z] p=Á):∀p,Pl p->bN [x,y,z] p=Á:=by
 have e:z≠0:=by rcases d with o|⟨_,_,o⟩<;>exact o.1
 have c:∀p∈(0:Int)::L,az (-x*z) (-y*z) p=Á:=λp hp=>by rw[<-Ej b.1 a.1 e];exact h p hp
 have all:∀p,Pl p->az (-x*z) (-y*z) p=Á:=by
  rcases d with o|⟨q,g,o⟩
  .exact KN f (iJ (gL b) o) (iJ (gL a) o) c
  .have sub:∀p∈L,p∈L++[q]:=λp hp=>X0 _ hp;exact NM g (iJ (mQ sub (gL b)) o) (iJ (mQ sub (gL a)) o) c
 intro p hp;rw[Ej b.1 a.1 e];exact all p hp
def Lw(c:oH L)(g:aO q=Á)(d:q∉L):oH (L++[q]):=#[aaX.mpr #[c.nd,.c,λa ha b f=>by
  rw[Xv.mp f];intro e;rw[e] at ha
  exact d ha],λp hp=>by
  rcases X2.mp hp with hp|hp
  .exact c.pr p hp
  .rwa[Xv.mp hp],X0 _ c.two]
def EL(f:oH L)(e:∀p∈Q6,p∈L)(g:k∈bx 6)(c:q=1\/aO q=Á):lK L (k*q)\/∃r,oH (L++[r])/\lK (L++[r]) (k*q):=by
 have ok:=mQ e (nh g);rcases c with rfl|c
 .rw[XC];exact .inl ok
 have h:=aq c
 have pr:∀r,aO r=Á->r∣q->r=q:=λr a b=>by
  have:=aq a;rcases fj c .b b with z|z
  .lia
  .exact z
 by_cases d:q∈L
 .exact .inl (iJ ok #[.b,λr a b=>by rwa[pr r a b]])
 .exact .inr #[q,Lw f c d,iJ (mQ (λp hp=>X0 _ hp) ok) #[.b,λr a b=>by rw[pr r a b];simp]]
def Ja{t:Int}(pp:aO p=Á)(h2:p≠2)(ha:¬p∣a)(q:¬p∣b)(j:¬p∣c)(r:t≠0):∃k∈jq p,¬p∣k/\bN [a,b,-k] p=Á/\bN [c,t,k] p=Á:=by
 have p2:=aq pp;have d:∀{x:Int},¬p∣x->x≠0:=λ{x} h z=>h (by rw[z];exact aaO p);have sm:jq p=[1,j9 p,p,p*j9 p]:=by unfold jq;rw[W_ .b,W_ h2]
 obtain⟨w,i,_⟩:=mC (mh pp h2)
 have m:¬p∣j9 p:=λz=>by
  rw[c9 z] at i;cases i
 have g:¬p∣1:=λz=>by have:=Xt .a z;lia
 have s:bp 1 p=1:=fT pp h2 #[0,.b]
 obtain⟨k,v,e,u⟩:∃k∈jq p,¬p∣k/\bp (-c*k) p=1:=by
  have o:¬p∣-c:=λz=>j (Yp.mp z);rcases bu o with z|z
  .exact#[1,by rw[sm];simp,g,by rw[cT pp,z,s];rfl]
  .exact#[j9 p,by rw[sm];simp,m,by rw[cT pp,z,i];rfl]
 refine#[k,v,e,om pp h2 (Xm 3) λx n=>?_,?_]
 .simp only[Xa,Xe,XA] at n;rcases n with rfl|rfl|rfl
  .exact ha
  .exact q
  .exact λz=>e (Yp.mp z)
 .have f:=d e;have c0:=d j;have l:¬p∣-c*k:=λz=>(euclid pp z).elim (λy=>j (Yp.mp y)) e;rw[Ej c0 r f,bA (.inr pp) (Xb .b f) (Xb .b f)];refine kM (.inr pp) (Xb .b f) ?_;unfold uG;rw[W_ .b,cQ pp h2 l,u];exact XI rfl
def MK(pp:aO p=Á):∃m1 m2:Int,m1≠0/\m2≠0/\uG m1 p=Â/\uG m2 p=Â/\bJ m1 p≠bJ m2 p:=by
 have p2:=aq pp;have a:¬p=0:=by lia
 by_cases e2:p=2
 .subst e2;have od:∀x:Int,¬(2:Int)∣x->cls x 2=(0,x%8):=λx h=>by rw[bH .a h];rfl
  refine#[3,5,.a,.a,?_,?_,?_]
  .unfold uG;rw[W_ a,od 3 .a];rfl
  .unfold uG;rw[W_ a,od 5 .a];rfl
  .unfold bJ;rw[W_ a,W_ a,od 3 .a,od 5 .a];decide
 .obtain⟨g,c,_⟩:=mC (mh pp e2)
  have f:¬p∣j9 p:=λz=>by
   rw[c9 z] at c;cases c
  have cn:cls (j9 p) p=(0,-1):=by rw[bH p2 f,W_ e2,c]
  have b:¬p∣1:=λz=>by have:=Xt .a z;lia
  have e:bp 1 p=1:=fT pp e2 #[0,.b]
  have d:cls p p=(1,1):=by
   have:=jB (v:=1) p2 b;rw[XE,X1,Yb,Yb] at this;unfold cls;rw[this,W_ e2];dsimp only;rw[e];rfl
  refine#[j9 p,p,.b,a,?_,?_,?_]
  .unfold uG;rw[W_ a,cn];rfl
  .unfold uG;rw[W_ a,d];rfl
  .unfold bJ;rw[W_ a,W_ a,cn,d];decide
def CS{d e:Int}(hp:Pl p)(ha:a≠0)(l:b≠0)(v:c≠0)(t:d≠0)(he:e≠0)(u:a<0/\0<b\/0<a/\b<0):∃k∈jq p,bN [a,b,-k] p=Á/\bN [c,d,e,k] p=Á:=by
 by_cases f:p=0
 .subst f;have sm:jq 0=[1,-1]:=by unfold jq;rw[Xc rfl]
  have o:∀k:Int,bN [a,b,-k] 0=Á:=λk=>by
   rw[a7];rcases u with z|z
   .exact#[#[a,.c,z.1],#[b,.c,z.2]]
   .exact#[#[b,.c,z.2],#[a,.c,z.1]]
  by_cases q:0<c
  .exact#[-1,by rw[sm];simp,o _,by rw[a7];exact#[#[-1,.c,.a],#[c,.c,q]]]
  .exact#[1,by rw[sm];simp,o _,by rw[a7];exact#[#[c,.c,.b],#[1,.c,.a]]]
 have pp:=hp.resolve_left f;have nn:-1*(a*b)≠0:=Xb .a (Xb ha l);have g:c*d*e≠0:=Xb (Xb v t) he
 obtain⟨m,i,B,C⟩:∃m:Int,m≠0/\uG m p=Â/\bJ (-1*(a*b)) p≠bJ m p:=by
  obtain⟨m1,m2,h1,h2,x,s,j⟩:=MK pp;by_cases z:bJ (-1*(a*b)) p=bJ m1 p
  .exact#[m2,h2,s,λy=>j (z.symm.trans y)]
  .exact#[m1,h1,x,z]
 obtain⟨k,r,D,w⟩:=BS hp nn i (az a b p) (!az (c*d*e) m p) (λe=>by
   cases z:uG (-1*(a*b)) p with
   |false=>rfl
   |true =>
    have:=kM hp ha z;rw[vY hp ha l,e] at this
    cases this) (λ_=>B) (λz=>absurd z C)
 have n:=mB hp k r;refine#[k,r,?_,?_]
 .rw[dc f];unfold ue;rw[show -a*-k=a*k by grind,show -b*-k=b*k by grind,vZ hp ha l n,D];simp
 .rw[gX f]
  have ns:¬zW (c*d*e*k) p:=λA=>by
   have:uG (c*d*e*k) p=Á:=by unfold uG;rw[W_ f];exact XI A
   have h:=kM hp i this;rw[bA hp (Xb g n) i,u7 hp g n i,w] at h;revert h;cases az (c*d*e) m p<;>decide
  rw[XH ns];rfl
def Fx(ha:a∈bx 6)(j:k∈bx 6)(l:q=1\/(aO q=Á/\17<=q/\q<=24049)):Tame (a*(k*q)).natAbs/\(J4 (a*(k*q)) 1).1.natAbs<1073741824:=by
 have n:=aY ha;have v:=aY j;have C:=eA ha;have lk:=eA j
 have D:0<q/\q<=24049:=by
  rcases l with rfl|⟨_,h,h'⟩
  .decide
  .lia
 have sm:zD ((a.natAbs:Int)*(k.natAbs:Int)):=ly (xy .b .b) (xy .b .b);have ps:0<(a.natAbs:Int)*(k.natAbs:Int):=X7 .b .b
 have B:((a*(k*q)).natAbs:Int)=(a.natAbs:Int)*(k.natAbs:Int)*q:=by
  rw[XN,XN,YA,YA,show(q.natAbs:Int)=q by lia,XT]
 have o:Tame (a*(k*q)).natAbs:=by
  rw[B];rcases l with rfl|⟨c,m,x⟩
  .exact .inl #[_,1,sm,ps,.a,.b]
  .exact .inr #[_,q,sm,ps,c,.b,rfl]
 refine#[o,?_];obtain⟨g,u,y,_,e⟩:=Qe (a:=a) (b:=k) n;have d:=Ms ha j;have js:j_ (jn a k):=w6 GO (iB d);have r:=eA d
 have w:j_ (jn a k*q):=by
  rcases l with rfl|⟨c,m,x⟩
  .rwa[XC]
  .refine lU js c λz=>?_;have:=GQ c (XU z (iB d));have i:∀p∈Q6,p<=13:=by decide
   have:=i q this;lia
 have A:a*(k*q)≠0:=Xb n (Xb v .b);rw[D9 (t:=a*(k*q)) (b:=1) (f:=jn a k*q) (s:=g) A .a (by rwa[XC]) w y (by rw[XC,<-XT,e];grind)];show(jn a k*q).natAbs<1073741824;rw[XN];have:=aax r (show q.natAbs<=24049 by lia);lia
def IX:∀f∈bx 6,∀g∈bx 6,f=-g\/0<f*g\/(Q6.any λp=>decide (f%p=0) != decide (g%p=0))=Á:=by decide +kernel
def B3(hp:aO p=Á)(a:j_ f)(i:f≠0)(c:p∣f)(b:¬p∣g):¬zW (-f*g) p:=λh=>by
 obtain⟨k,e,d,_⟩:=GK a hp c;have e2:-f*g=(-k*g)*p:=by rw[e];grind
 have:=yK (k:=-k*g) hp λz=>(euclid hp z).elim (λz=>d (Yp.mp z)) b;rw[e2] at h;unfold zW at h;rw[h] at this;cases this
def sP{t:Int}(k:f∈bx 6)(l:g∈bx 6)(q:s≠0)(r:t≠0)(C:a=f*(s*s))(D:b=g*(t*t))(hz:bN [a,b] 0=Á):JW a b:=by
 have u:=aY k;have o:=aY l;have st:s*t≠0:=Xb q r;have e:-a*b=-f*g*(s*t)*(s*t):=by rw[C,D];grind
 rcases IX f k g l with h|h|h
 .exact .inl #[g*(s*t),by rw[e,h];grind]
 .exfalso;rw[a7] at hz;have w:0<s*s:=by rcases Yf q with z|z;exact YK z z;exact X7 z z
  have v:0<t*t:=by rcases Yf r with z|z;exact YK z z;exact X7 z z
  obtain⟨⟨x,m,F⟩,⟨y,n,E⟩⟩:=hz;simp only[Xa,Xe,XA] at m n;rcases Yf u with z|z
  .have d:g<0:=by
    apply Xf;intro d;have:=Zc (a:=f) (b:=g) .b .b;lia
   have A:=Yy z w;have B:=Yy d v;rcases m with rfl|rfl<;>rcases n with rfl|rfl<;>lia
  .have d:0<g:=by
    apply Xf;intro d;have:=X5 (a:=f) (b:=g) .b .b;lia
   have A:=X7 z w;have B:=X7 d v;rcases m with rfl|rfl<;>rcases n with rfl|rfl<;>lia
 .obtain⟨p,hp,j⟩:=YI.mp h;have pp:=fI p hp
  have pl:p<=997:=by
   have:∀p∈Q6,p<=997:=by decide
   exact this p hp
  have p2:=aq pp;refine .inr #[p,pp,pl,?_];rw[ll .b,e];refine XH ?_;rw[IS pp (Xb .b o) st];by_cases i:p∣f
  .by_cases c:p∣g
   .rw[XI (Ya i),XI (Ya c)] at j;cases j
   .exact B3 pp (BD k) u i c
  .by_cases c:p∣g
   .have:=B3 pp (BD l) o c i;rw[show -f*g=-g*f by grind];exact this
   .rw[XH (λz=>i (Xu z)),XH (λz=>c (Xu z))] at j;cases j
end Q
namespace L2
open PySem PySem.Spec PyProof.Rows
section
variable{κ:Type}[DecidableEq κ]
noncomputable def lL(YP:List (κ×V))(k:κ):Option V:=(YP.find? λkv=>decide (kv.1=k)).map (·.2)
noncomputable def putK(YP:List (κ×V))(k:κ)(v:V):List (κ×V) :=
 if (YP.any λkv=>decide (kv.1=k))=Á then YP.map (λkv=>if kv.1=k then (kv.1,v) else kv) else YP++[(k,v)]
def kd{p:κ×V}{r:List (κ×V)}{k:κ}(e:p.1=k):lL (p::r) k=À p.2:=by simp[lL,Y5,e]
def kN{p:κ×V}{r:List (κ×V)}{k:κ}(e:¬p.1=k):lL (p::r) k=lL r k:=by simp[lL,Y5,e]
theorem tP(k:κ):∀YP:List (κ×V),(YP.any λkv=>decide (kv.1=k))=(lL YP k).isSome
 |[]=>rfl
 |p::r=>by
  rw[Zi];by_cases e:p.1=k
  .simp only[kd e,XI e,ϳ,Ŗ]
  .rw[kN e,XH e,Ϡ];exact tP k r
def kF(YP:List (κ×V))(k:κ)(v:V):(putK YP k v).length<=YP.length+1:=by
 unfold putK;split
 .rw[Xk];lia
 .rw[XD,Yd,acm];lia
def Bg.i8{o:Option V}{u:Option Ä}(r:Bg o u):o.isSome=u.isSome:=by
 cases o with
 |none=>cases u with
  |none=>rfl
  |some _=>exact(show False from r).elim
 |some _=>cases u with
  |none=>exact(show False from r).elim
  |some _=>rfl
def KV.val{YP:List (κ×V)}{vs:List (κ×Ä)}(r:KV YP vs)(k:κ):Bg (lL YP k) (ň vs k):=by
 unfold KV at r
 induction r with
 |nil=>exact É
 |@cons p q ps c h t d =>
  obtain⟨h1,h2⟩:=h;by_cases e:p.1=k
  .have a:q.1=k:=h1.symm.trans e;have b:ň (q::c) k=À q.2:=by simp[ň,Y5,a]
   rwa[kd e,b]
  .have a:¬q.1=k:=λz=>e (h1.trans z);have b:ň (q::c) k=ň c k:=by simp[ň,Y5,a]
   rwa[kN e,b]
def KV.any{YP:List (κ×V)}{vs:List (κ×Ä)}(r:KV YP vs)(k:κ):(YP.any λkv=>decide (kv.1=k))=vs.any λkv=>decide (kv.1=k):=by
 unfold KV at r
 induction r with
 |nil=>rfl
 |cons h t a=>rw[Zi,Zi,a,h.1]
def KV.Er{YP:List (κ×V)}{vs:List (κ×Ä)}(r:KV YP vs)(k:κ){y:V}{u:Ä}(b:RelV y u):
  KV (YP.map λkv=>if kv.1=k then (kv.1,y) else kv) (vs.map λkv=>if kv.1=k then (kv.1,u) else kv):=by
 unfold KV at r ⊢
 induction r with
 |nil=>exact .nil
 |@cons p q ps c h t a =>
  rw[XQ,XQ];refine .cons ?_ a;obtain⟨h1,h2⟩:=h;by_cases e:p.1=k
  .rw[Xc e,Xc (h1.symm.trans e)];exact#[h1,b]
  .rw[W_ e,W_ (λz=>e (h1.trans z))];exact#[h1,h2]
def KV.put{YP:List (κ×V)}{vs:List (κ×Ä)}(r:KV YP vs)(k:κ){y:V}{u:Ä}(a:RelV y u):KV (putK YP k y) (stored vs k u):=by
 unfold putK stored;rw[r.any k];by_cases e:(vs.any λkv=>decide (kv.1=k))=Á
 .rw[Xc e,Xc e];exact r.Er k a
 .rw[W_ e,W_ e];exact ŉ r #[rfl,a]
def KV.length{YP:List (κ×V)}{vs:List (κ×Ä)}(r:KV YP vs):YP.length=vs.length:=Ϲ r
end
variable{H H':Hp}{u:Ä}{YP:List (List Key×V)}{P:Ð}{w:Ú}{y:V}{xs:List (List Key×Ç×Ä)}
def HH{k:Key}(r:RelV (kV k) u):(dR P w).is k u=Á:=by
 cases k with
 |inl i=>obtain⟨t,e⟩:=(show ∃t,u=ă i t from r);subst e;exact ym P w i t
 |inr x=>obtain⟨t,e⟩:=(show ∃t,u=ź x t from r);subst e;exact ya P w x t
theorem uM{P:Ð}{w:Ú}:∀{ks:List Key} {us:List Ä},Vals (ks.map kV) us->ItemsAre (dR P w) ks us
 |[],_,r=>by rw[ϵ] at r;cases r;exact .nil
 |k::ks,_,r=>by
  rw[XQ] at r;cases r with
  |cons h t=>exact .cons (HH h) (uM t)
abbrev KT(H:Hp):List (List Key×V)->List (List Key×Ç×Ä)->Prop:=Ý λp q=>p.1=q.1/\H q.2.1=À (.tup (p.1.map kV))/\RelV p.2 q.2.2
def KT.val{H:Hp}{YP:List (List Key×V)}{xs:List (List Key×Ç×Ä)}(r:KT H YP xs)(k:List Key):Bg (lL YP k) ((Ĝ xs k).map (·.2)):=by
 induction r with
 |nil=>exact É
 |@cons p q ps c h t d =>
  obtain⟨h1,_,h2⟩:=h;by_cases e:p.1=k
  .have a:q.1=k:=h1.symm.trans e;have b:Ĝ (q::c) k=À q.2:=by simp[Ĝ,Y5,a]
   rwa[kd e,b]
  .have a:¬q.1=k:=λz=>e (h1.trans z);have b:Ĝ (q::c) k=Ĝ c k:=by simp[Ĝ,Y5,a]
   rwa[kN e,b]
def KT.Er(r:KT H YP xs)(k:List Key)(b:RelV y u):
  KT H (YP.map λkv=>if kv.1=k then (kv.1,y) else kv) (xs.map (putAt k u)):=by
 induction r with
 |nil=>exact .nil
 |@cons p q ps d h t c =>
  rw[XQ,XQ];refine .cons ?_ c;obtain⟨h1,h2,a⟩:=h;unfold putAt;by_cases e:p.1=k
  .rw[Xc e,Xc (h1.symm.trans e)];exact#[h1,h2,b]
  .rw[W_ e,W_ (λz=>e (h1.trans z))];exact#[h1,h2,a]
def KT.put(r:KT H YP xs)(k:List Key){b:Ç}(c:H b=À (.tup (k.map kV)))(a:RelV y u):
  KT H (putK YP k y) (ϥ xs k b u):=by
 have e:(YP.any λkv=>decide (kv.1=k))=(Ĝ xs k).isSome:=by
  rw[tP,(r.val k).i8,aar]
 unfold putK ϥ;rw[e];by_cases q:(Ĝ xs k).isSome=Á
 .rw[Xc q,Xc q];exact r.Er k a
 .rw[W_ q,W_ q];exact ŉ r #[rfl,c,a]
def KT.keeps(r:KT H YP xs)(a:∀b ys,H b=À (.tup ys)->H' b=À (.tup ys)):KT H' YP xs :=
 Paired.El r λ_ _ z=>#[z.1,a _ _ z.2.1,z.2.2]
def A5{k:Int×Bool}{us:List Ä}(r:Vals (kB k) us):ItemsAre (A6 P w) (kl k) us:=by
 cases r with
 |cons h1 b =>
  cases b with
  |cons h2 a =>
   cases a;obtain⟨t,rfl⟩:=(show ∃t,_=ă k.1 t from h1);cases (show _=ļ k.2 from h2);exact .cons (by show(k.1==k.1)=Á;simp) (.cons (by show(bI k.2==bI k.2)=Á;simp) .nil)
abbrev KB(H:Hp):List ((Int×Bool)×V)->List ((Int×Bool)×Ç×Ä)->Prop:=Ý λp q=>p.1=q.1/\H q.2.1=À (.tup (kB p.1))/\RelV p.2 q.2.2
def KB.val{H:Hp}{YP:List ((Int×Bool)×V)}{xs:List ((Int×Bool)×Ç×Ä)}(r:KB H YP xs)(k:Int×Bool):Bg (lL YP k) ((Ĝ xs k).map (·.2)):=by
 induction r with
 |nil=>exact É
 |@cons p q ps c h t d =>
  obtain⟨h1,_,h2⟩:=h;by_cases e:p.1=k
  .have a:q.1=k:=h1.symm.trans e;have b:Ĝ (q::c) k=À q.2:=by simp[Ĝ,Y5,a]
   rwa[kd e,b]
  .have a:¬q.1=k:=λz=>e (h1.trans z);have b:Ĝ (q::c) k=Ĝ c k:=by simp[Ĝ,Y5,a]
   rwa[kN e,b]
def KB.Er{YP:List ((Int×Bool)×V)}{xs:List ((Int×Bool)×Ç×Ä)}(r:KB H YP xs)(k:Int×Bool)(c:RelV y u):
  KB H (YP.map λkv=>if kv.1=k then (kv.1,y) else kv) (xs.map (putAt k u)):=by
 induction r with
 |nil=>exact .nil
 |@cons p q ps d h t b =>
  rw[XQ,XQ];refine .cons ?_ b;obtain⟨h1,h2,a⟩:=h;unfold putAt;by_cases e:p.1=k
  .rw[Xc e,Xc (h1.symm.trans e)];exact#[h1,h2,c]
  .rw[W_ e,W_ (λz=>e (h1.trans z))];exact#[h1,h2,a]
def KB.put{YP:List ((Int×Bool)×V)}{xs:List ((Int×Bool)×Ç×Ä)}(r:KB H YP xs)(k:Int×Bool){b:Ç}(c:H b=À (.tup (kB k)))(a:RelV y u):
  KB H (putK YP k y) (ϥ xs k b u):=by
 have e:(YP.any λkv=>decide (kv.1=k))=(Ĝ xs k).isSome:=by
  rw[tP,(r.val k).i8,aar]
 unfold putK ϥ;rw[e];by_cases q:(Ĝ xs k).isSome=Á
 .rw[Xc q,Xc q];exact r.Er k a
 .rw[W_ q,W_ q];exact ŉ r #[rfl,c,a]
def KB.keeps{YP:List ((Int×Bool)×V)}{xs:List ((Int×Bool)×Ç×Ä)}(r:KB H YP xs)(a:∀b ys,H b=À (.tup ys)->H' b=À (.tup ys)):KB H' YP xs :=
 Paired.El r λ_ _ z=>#[z.1,a _ _ z.2.1,z.2.2]
section
variable{P:Ð}{w:Ú}{H:Hp}{h:ß}{a:Ç}
def B_{u:HO}(ok:lN P w H h)(e:Rd H a u):bY P w H h a u:=e.ok ok
def Lk{YP:List (Key×V)}(ok:lN P w H h)(e:Rd H a (.dK YP)):YP.length<=sizeLine/\(a==ö)=Â/\∃vs,KV YP vs/\h.DictOf (dR P w) a vs :=
 show bY P w H h a (.dK YP) from B_ ok e
def OD{YP:List (Key×V)}(ok:lN P w H h)(e:H a=À (.dK YP)):YP.length<=sizeLine/\(a==ö)=Â/\∃vs,KV YP vs/\h.DictOf (dR P w) a vs:=Lk ok (.inl e)
def Bl{ks:List Key}(ok:lN P w H h)(e:H a=À (.tup (ks.map kV))):(Ŀ (dR P w)).is h ks a:=by
 obtain⟨_,XV,r,o,h1,h2,n,b⟩:=(show bY P w H h a (.tup (ks.map kV)) from ok a _ e);exact#[o,XV.toArray,n,h1,h2,b,by simpa using uM r]
def KD(ok:lN P w H h)(e:Rd H a (.dT YP)):YP.length<=sizeLine/\(a==ö)=Â /\
  ∃xs,KT H YP xs/\h.DictOfH (Ŀ (dR P w)) a xs:=by
 obtain⟨z,y,xs,r,o,es,ep,h1,h2,f,d,g⟩:=(show bY P w H h a (.dT YP) from B_ ok e);refine#[z,y,xs,r,o,es,ep,h1,h2,f,d,λx b=>?_,g]
 have all:∀{l:List (List Key×V)} {m:List (List Key×Ç×Ä)},KT H l m->∀x∈m,(Ŀ (dR P w)).is h x.1 x.2.1:=by
  intro l m q
  induction q with
  |nil=>intro x b;exact nomatch b
  |@cons p q ps j c t i =>
   intro x b;rcases Xa.mp b with e|b
   .subst e;exact Bl ok (by rw[<-c.1];exact c.2.1)
   .exact i x b
 exact all r x b
def Ox(ok:lN P w H h)(e:H a=À (.dT YP)):YP.length<=sizeLine/\(a==ö)=Â /\
  ∃xs,KT H YP xs/\h.DictOfH (Ŀ (dR P w)) a xs:=KD ok (.inl e)
def rk{ks:Int×Bool}(ok:lN P w H h)(e:H a=À (.tup (kB ks))):(g5 P w).is h ks a:=by
 obtain⟨_,XV,r,o,h1,h2,n,b⟩:=(show bY P w H h a (.tup (kB ks)) from ok a _ e);exact#[o,XV.toArray,n,h1,h2,b,by simpa using A5 r]
def K0{YP:List ((Int×Bool)×V)}(ok:lN P w H h)(e:Rd H a (.dB YP)):YP.length<=sizeLine/\(a==ö)=Â /\
  ∃xs,KB H YP xs/\h.DictOfH (g5 P w) a xs:=by
 obtain⟨z,y,xs,r,o,es,ep,h1,h2,f,d,g⟩:=(show bY P w H h a (.dB YP) from B_ ok e);refine#[z,y,xs,r,o,es,ep,h1,h2,f,d,λx b=>?_,g]
 have all:∀{l:List ((Int×Bool)×V)} {m:List ((Int×Bool)×Ç×Ä)},KB H l m->∀x∈m,(g5 P w).is h x.1 x.2.1:=by
  intro l m q
  induction q with
  |nil=>intro x b;exact nomatch b
  |@cons p q ps j c t i =>
   intro x b;rcases Xa.mp b with e|b
   .subst e;exact rk ok (by rw[<-c.1];exact c.2.1)
   .exact i x b
 exact all r x b
def K3{YP:List ((Int×Bool)×V)}(ok:lN P w H h)(e:H a=À (.dB YP)):YP.length<=sizeLine/\(a==ö)=Â /\
  ∃xs,KB H YP xs/\h.DictOfH (g5 P w) a xs:=K0 ok (.inl e)
end
def Qo(H:Hp)(a:Ç)(y:V)(r:Option V):Prop :=
 (∃YP k,Rd H a (.dK YP)/\y=kV k/\r=lL YP k)\/(∃YP k b,Rd H a (.dT YP)/\y=.ref b/\H b=À (.tup (k.map kV))/\r=lL YP k) \/
 ∃YP k b,Rd H a (.dB YP)/\y=.ref b/\H b=À (.tup (kB k))/\r=lL YP k
def My(H:Hp)(a:Ç)(y v:V)(H':Hp):Prop :=
 (∃YP k,H a=À (.dK YP)/\y=kV k/\YP.length<sizeLine/\H'=upd H a (.dK (putK YP k v))) \/
 (∃YP k b,H a=À (.dT YP)/\y=.ref b/\H b=À (.tup (k.map kV))/\YP.length<sizeLine/\H'=upd H a (.dT (putK YP k v))) \/
 ∃YP k b,H a=À (.dB YP)/\y=.ref b/\H b=À (.tup (kB k))/\YP.length<sizeLine/\H'=upd H a (.dB (putK YP k v))
section
variable{X:Cx}{Z2:List (Ç×û)}{Y:St}{H:Hp}{s:Æ}{a:Ç}{y v:V}{u r:Ä}{o:Option V}{A:à}{E:Ä->Æ->Prop}
def Inv.big(I:Inv X Z2 Y H s):ö<s.heap.objs.size:=by
 have h:Ì<s.heap.objs.size:=(I.mod.glob.keeps I.bk).lt;exact ab6 .a h
def J0{Q:Ä->Æ->Prop}(m:A.units+1<Ę)(I:Inv X Z2 Y H s)(g:Qo H a y o)(j:RelV y u)(h:∀s',Inv X Z2 Y H s'->Q (.bool (!o.isSome)) s'):
  Í .E A (ä .NotIn u (.ref a)) Q E s:=by
 rcases g with⟨YP,k,e,d,l⟩|⟨YP,k,b,e,d,i,l⟩|⟨YP,k,b,e,d,i,l⟩
 .subst d;obtain⟨z,c,vs,rel,f⟩:=Lk I.hok e;refine wpAny_notIn_of (HH j) c f.mapOf ?_;rw[<-(rel.val k).i8,<-l];exact h _ (I.tok _)
 .subst d;cases (show u=þ b from j);obtain⟨z,c,xs,rel,f⟩:=KD I.hok e;refine wpAny_notIn_heap (ϙ m) (Bl I.hok i) c f ?_;have q:=(rel.val k).i8;rw[aar] at q;rw[<-q,<-l];exact h _ (I.tok _)
 .subst d;cases (show u=þ b from j);obtain⟨z,c,xs,rel,f⟩:=K0 I.hok e;refine wpAny_notIn_heap (lQ m) (rk I.hok i) c f ?_;have q:=(rel.val k).i8;rw[aar] at q;rw[<-q,<-l];exact h _ (I.tok _)
def rS{h':ß}{t':Nat}{ob:HO}(I:Inv X Z2 Y H s)(d:Pq (H a))(c:Č a s.heap h')(he:∃q,h'.get? a=À q)(new:bY X.prog X.w (upd H a ob) h' a ob):
  Inv X Z2 Y (upd H a ob) {s with heap:=h',toks:=t'} :=
 I.write (x:=a) (e:=a) d (.inl rfl) (λb q f z=>(c.2 b f).trans z) he new
def Nm{h':ß}{YP:List (Key×V)}{vs:List (Key×Ä)}(z:YP.length<=sizeLine)(b:(a==ö)=Â)(rel:KV YP vs)(c:h'.DictOf (dR P w) a vs):
  bY P w H' h' a (.dK YP):=#[z,b,vs,rel,c]
def DX{Q:Unit->Æ->Prop}(G:A.units+1<Ę)(I:Inv X Z2 Y H s)(g:My H a y v H')(F:RelV y u)(D:RelV v r)(h:∀s',Inv X Z2 Y H' s'->Q () s'):
  Í .E A (ϧ (.ref a) u r) Q E s:=by
 rcases g with⟨YP,k,e,p,l,n⟩|⟨YP,k,b,e,p,t,l,n⟩|⟨YP,k,b,e,p,t,l,n⟩
 .subst p n;obtain⟨z,i,vs,rel,o⟩:=OD I.hok e;have hz:vs.length<=sizeLine:=by rwa[<-rel.length]
  have j:(putK YP k v).length<=sizeLine:=by have:=kF YP k v;lia
  refine wpAny_setItem_pairs (hsz:=hz) (HH F) o λh' d m=>h _ ?_;have he:∃q,h'.get? a=À q:=let #[q,_,_,f,_]:=d;#[q,f];exact rS I (by rw[e];exact É) m he (Nm j i (rel.put k D) d)
 .subst p n;cases (show u=þ b from F);obtain⟨z,i,xs,rel,o⟩:=Ox I.hok e;have hz:xs.length<=sizeLine:=by rwa[<-Ϲ rel]
  have j:(putK YP k v).length<=sizeLine:=by have:=kF YP k v;lia
  refine ϕ (hsz:=hz) (ϙ G) (Bl I.hok t) o λh' d m=>h _ ?_;obtain⟨q,es,ep,f,h2,B,x,_,C⟩:=d;refine rS I (by rw[e];exact É) m #[q,f] #[j,i,_,(rel.put k t D).keeps λc ys ec=>?_,q,es,ep,f,h2,B,x,C];rwa[aC (Gr ec e (λz=>nomatch z))]
 .subst p n;cases (show u=þ b from F);obtain⟨z,i,xs,rel,o⟩:=K3 I.hok e;have hz:xs.length<=sizeLine:=by rwa[<-Ϲ rel]
  have j:(putK YP k v).length<=sizeLine:=by have:=kF YP k v;lia
  refine ϕ (hsz:=hz) (lQ G) (rk I.hok t) o λh' d m=>h _ ?_;obtain⟨q,es,ep,f,h2,B,x,_,C⟩:=d;refine rS I (by rw[e];exact É) m #[q,f] #[j,i,_,(rel.put k t D).keeps λc ys ec=>?_,q,es,ep,f,h2,B,x,C];rwa[aC (Gr ec e (λz=>nomatch z))]
variable{YP:List (Key×V)}{k:Key}
end
def P2(td ty tv:TE):TS:=λD Y H=>tv Y H λv H1=>td Y H1 λx H2=>ty Y H2 λy c=>∃a b,x=.ref a/\My c a y v b/\D.nx Y b
section
variable{X:Cx}{o i e value:Ô}{pos pos' tpos:ì}{td ty tv:TE}
def JT(k:X.A.units+1<Ę)(p:PE X o td)(hi:PE X i ty)(e:PE X value tv)(f:õ value (À (.Subscript o i pos')) pos.line X.env=pure Â):
  PS X (.Assign [.Subscript o i pos'] value pos) (P2 td ty tv):=by
 intro Z2 s Y H D I h;refine wpAny_Assign_Subscript (cj (e Z2 s Y H _ I h) λr j ⟨v,H1,w,z,q1⟩=>cj (p Z2 j Y H1 _ w q1) λu b ⟨x,H2,l,c,m⟩=>cj (hi Z2 b Y H2 _ l m) λF C ⟨y,G,q,t,a,B,ex,g,n⟩=>?_) f;subst ex;obtain rfl:u=þ a:=c;exact DX k q g t z λE d=>#[Y,B,d,n]
end
def x6(h:ß)(a:ö<h.objs.size):bY P w H (h.push {cls:=.type "dict",data:=.dict #[]}) h.objs.size (.dB []) :=
 #[Yc _,abj.mpr (ZD (XS a)),[],.nil,_,#[],0,Xz _ rfl,#[rfl,rfl,rfl],rfl,rfl,Z7]
def MF:TE:=λ_ H Q=>∀p,H p=none->Q (.ref p) (upd H p (.dB []))
section
variable{X:Cx}{pos:ì}
def FC:PE X (.Dict [] [] pos) MF:=λZ2 s Y H Q I h =>
 wpAny_Dict_empty #[V.ref s.heap.objs.size,_,I.laid (a:=s.heap.objs.size) (o:=.dB []) (t':=s.toks) (λ_ _ q=>Xi _ q) (Xm _) (x6 s.heap I.big),rfl,h _ (I.hok.fresh (Xm _))]
variable{Z2:List (Ç×û)}{Y:St}{H:Hp}{s:Æ}{a:Ç}{y d:V}{u r:Ä}{o:Option V}{A:à}{E:Ä->Æ->Prop}
end
section
variable{X:Cx}{o e f:Ô}{apos cpos:ì}{td ty tx:TE}
variable{Z2:List (Ç×û)}{Y:St}{H:Hp}{s:Æ}{a:Ç}{YP:List (Key×V)}{A:à}{E:Ä->Æ->Prop}
variable{y:V}{u:Ä}
end
end L2
namespace L2.EP
open PySem PySem.Spec PyProof.Rows
section
variable{X:Cx}{U:aI}{D:GD}{M β γ:Type}[Py M][Py β][Py γ]{e e1 e2 ek:Ô}{b b1 b2:Bool}{pos:ì}{rest st:List Ñ}
def Jx(b:X.A.units+1<Ę):k5 X (ä .NotIn) (λx y H Q=>∃a o,y=.ref a/\Qo H a x o/\Q (.bl (!o.isSome)) H):=by
 intro Z2 s Y H x y v u Q I e d h;obtain⟨a,o,rfl,g,q⟩:=h;cases d;exact J0 b I g e λs' c=>#[.bl _,H,c,rfl,q]
def DS[PyT β](i:Nat){a:M}{c:β}(f:U[i]?=À (À (.dpo a)))(h:E X (U.set i (À (.val Á a))) e b c):E X U e Á c:=by
 stop
  exact aJ h λY H Q ⟨H0,F,O,Z,q⟩=>by
   obtain⟨d,j,m⟩:=Z.freeze f É (g':=.val Á a) (λz=>z) λn d v l k _ g=>AU l k g;refine#[H0,F,d,j,λv H' s r=>q v H' s ?_];exact PyT.free (λp xs w=>tJ (Z.go s).own p xs (aG.rt (ar _ _) w)) r
def x5(i j:Nat){x y:Ï}{a p2 m:ì}{k:Nat}(d:X.N.Nodup)(n:autoParam (X.calm=Á) zra)(hi:autoParam (X.N[i]?=À x) zra)(h:autoParam (X.N[j]?=À y) zra)
  (l:autoParam (Loc X.env.scope x) zri) (o:autoParam (Loc X.env.scope y) zri)
  (g:autoParam (X.fn x=Á\/X.env.scope.names.lookup x=À .local) zrd) (c:autoParam (X.fn y=Á\/X.env.scope.names.lookup y=À .local) zrd)
  (q:autoParam ((ø [.Name x a,.Name y p2] X.env).length=2) zra)
  (p:autoParam ((ø [.Name x a,.Name y p2] X.env).findIdx? (·.1)=none) zra) (e:autoParam (ø [.Name x a,.Name y p2] X.env=(Â,Ě (.Name x a) X.env)::ø [.Name y p2] X.env) zra) (f:autoParam (ø [.Name y p2] X.env=(Â,Ě (.Name y p2) X.env)::ø [] X.env) zra):
  G X (.Tuple [.Name x a,.Name y p2] k m) (IZ X.K 2 (tH (ke i) (tH (ke j) Jr))) (M×β) (λb u U=>(U.set i (À (.val b u.1))).set j (À (.val b u.2))) (λk=>k=i\/k=j):=by stop exact#[EO n (mY (nZ d hi l g) (mY (nZ d h o c) By)),vH i j]
end
variable{x:Ï}
def Bd.wk:Bd->Bd
 |@Bd.val _ _ _ a=>.val Â a
 |@Bd.own _ _ _ as=>.own Â as
 |@Bd.dpo _ _ a=>.dpo a
def Ob(U:aI):aI:=U.map (ϭ Bd.wk)
def BX{U:aI}{i:Nat}{g:Bd}(h:(Ob U)[i]?=À (À g)):∃a,U[i]?=À (À a)/\g=a.wk:=by
 unfold Ob at h;rw[Xw] at h;cases e:U[i]? with
 |none=>rw[e] at h;cases h
 |some o =>
  cases o with
  |none=>rw[e] at h;cases h
  |some a=>rw[e] at h;cases h;exact#[a,rfl,rfl]
section
variable{K:Ã}{H0 H H':Hp}{F O:Ç->Prop}{U:aI}{Y:St}{a:Ç}{u:HO}{YP:List (Key×V)}{o:û}
def off_ne{H H':Hp}(ne:∀b,b≠a->H' b=H b):∀b,b≠a->off H' O b=off H O b:=λb c=>by
 by_cases h:O b
 .rw[nJ h,nJ h]
 .rw[aS h,aS h,ne b c]
variable{X:Cx}{D:GD}{M β γ:Type}[Py M][Py β][Py γ]{e e1 e2 tg:Ô}{b b1 b2:Bool}{pos:ì}{rest body:List Ñ}
variable{e3:Ô}{b3:Bool}{st:List Ñ}
def N4{xs:List M}{i:Int}{a:M}(ha:E X U e1 b (A3.mk xs))(o:E X U e2 b2 i)(h:xT xs i=À a)(m:autoParam (rK e2) zrj):E X U (.Subscript e1 e2 pos) b a:=by
 stop
  exact aJ (zv zY ha o m) λY H Q ⟨H0,F,O,S,q⟩=>#[H0,F,O,S,λv H1 f n=>#[H0,F,O,S.go f,λw H2 c s=>by
    obtain⟨p,vs,e,u,r⟩:=n;obtain⟨j,h1,h2,A,z,B⟩:=nY h;obtain⟨x,y,l⟩:=ig r h2;refine#[p,vs,i,x,e,s,(da (ar _ _) (da (ah c) u)).t,?_,q x H2 (f.trans c) (aw (ah c) l)];unfold xT at h ⊢;rw[bE r];cases d:D2 xs.length i with
    |none=>rw[d] at h;cases h
    |some k =>
     have g:=(nC d).1;rw[h1] at g;cases g
     exact y]]
end
noncomputable instance:PyD (Int⊕(Int×Int)) where
 dat a:=match a with|.inl i=>.int i|.inr u=>.tuple [.int u.1,.int u.2]
 dr {K N H v a} h:=by
  cases a with
  |inl i=>exact PyD.dr (M:=Int) (N:=N) h
  |inr u=>exact PyD.dr (M:=Int×Int) (N:=N) h
 lay a:=by
  cases a with
  |inl i=>exact PyD.lay (M:=Int) i
  |inr u=>exact PyD.lay (M:=Int×Int) u
 dep:=PyD.dep (Int×Int)
 depth a:=by
  cases a with
  |inl i=>exact X8 (PyD.depth (M:=Int) i) (Yc _)
  |inr u=>exact PyD.depth (M:=Int×Int) u
 eqv a b:=by
  cases a with
  |inl i=>cases b with
   |inl j=>exact(PyD.eqv (M:=Int) i j).trans #[λh=>by rw[h],λh=>by injection h]
   |inr u=>simp[é]
  |inr v=>cases b with
   |inl j=>simp[é]
   |inr u=>exact(PyD.eqv (M:=Int×Int) v u).trans #[λh=>by rw[h],λh=>by injection h]
section
variable{X:Cx}{U:aI}{D:GD}{M β γ:Type}[Py M][Py β][Py γ]{e e1 e2 ek:Ô}{b b1 b2:Bool}{pos:ì}{rest st:List Ñ}
def A4(i:Nat){as:List M}{a:M}{k:Int}{p c:ì}(s:U[i]?=À (À (.own b as)))(R:E X U ek b2 k)(he:E X U e b a)(z:0<=k)(C:k<as.length)(h:S X (U.set i (À (.own b (as.set k.toNat a)))) rest D)(hi:autoParam (X.N[i]?=À x) zra)
  (I:autoParam (HV X.env.scope x) zre) (B:autoParam ((x==("__debug__":Ï))=Â) zrb) (r:autoParam ((x==("__classdict__":Ï))=Â) zrb)
  (ha:∀v,Ě (.Subscript (.Name x p) ek c) X.env v=(do
   let f <-Ĥ [v] (Û (.Name x p) X.env);let l <-Ĥ [v,f] (Û ek X.env)
   Ϧ c
   Ĥ [v,f,l] (ϧ f l v)
   release [v,f,l] []):=by intro _;rfl)
  (J:autoParam (swapsWithSole [.Subscript (.Name x p) ek c] e pos.line X.env=pure Â) zra) (T:autoParam (swappedStores [.Subscript (.Name x p) ek c] e X.env=pure none) zra)
  (h1:autoParam ((ø [.Subscript (.Name x p) ek c] X.env).map (·.2)=[Ě (.Subscript (.Name x p) ek c) X.env]) zra):S X U (.Assign [.Subscript (.Name x p) ek c] e pos::rest) D:=by
 stop
  exact dU (dS (MD he (Nc (pv i hi I B r) R set_list ha) J T h1) λDe Y H ⟨H0,F,O,Z,n,_⟩=>#[H0,F,O,Z,λu H1 g Q=>by
    obtain⟨v,P,d,_,_,_⟩:=(Z.go g).write s É;refine#[v,d,H0,F,O,Z.go g,λy H3 m ry=>?_];obtain⟨Γ,P,C3,⟨q,ys,e1,j,G,t⟩,w,wr⟩:=(Z.go (g.trans m)).write s É;rw[d] at C3;have ev:v=Γ:=Xy (Xy C3);subst ev;have σ:y=V.int k:=ry;subst σ;have α:k<ys.length:=by rwa[bE t]
    have o:D2 ys.length k=À k.toNat:=by
     unfold D2;rw[Xc z,Xc .b]
    refine#[q,ys,k,k.toNat,e1,rfl,G,o,?_]
    obtain⟨K,W⟩:=wr q (ys.set k.toNat u) (À (.own b (as.set k.toNat a))) j λL A=>by
     cases A;refine#[É,q,_,e1,j,aQ,?_];rw[qX (w q j).1];exact Gy (aw (ah m) Q) k.toNat t
    exact n _ _ _ _ (by rw[W];exact ah (g.trans m)) K h])
variable{δ:Type}[Py δ]{e3:Ô}{b3:Bool}{p:ì}{k:Nat}{name:Ï}{ps:List Ï}
def OZ{a:M}(h:EN X U e a):E X U e Á a:=by stop exact aJ h λY H Q ⟨H0,F,O,Z,q⟩=>#[H0,F,O,Z,λv H1 b c=>q v H1 b (kc Z.same c)]
def Lj(o:Nat){as:List M}{i:Int}{a:M}{p:ì}(g:U[o]?=À (À (.own b as)))(d:E X U e2 b2 i)(h:xT as i=À a)(hi:autoParam (X.N[o]?=À x) zra)
  (t:autoParam (HV X.env.scope x) zre) (n:autoParam ((x==("__debug__":Ï))=Â) zrb) (e:autoParam ((x==("__classdict__":Ï))=Â) zrb)
  (u:autoParam (rK e2) zrj):E X U (.Subscript (.Name x p) e2 pos) b a:=by
 stop
  exact aJ (zv BO (pv o hi t n e) d u) λY H Q ⟨H0,F,O,Z,q⟩=>by
   obtain⟨v,z,c,_,_,_⟩:=Z.write g É;refine#[v,c,H0,F,O,Z,λw H2 f A=>?_];obtain⟨C,z,C3,⟨q',ys,e1,J,r,m⟩,_,_⟩:=(Z.go f).write g É;rw[c] at C3;have ev:v=C:=Xy (Xy C3);subst ev;obtain⟨j,h1,h2,G,D,I⟩:=nY h;obtain⟨y,B,s⟩:=ig m h2;refine#[q',ys,i,y,e1,A,dW.of r,?_,q y H2 f s];unfold xT at h ⊢;rw[bE m];cases l:D2 as.length i with
   |none=>rw[l] at h;cases h
   |some k =>
    have d:=(nC l).1;rw[h1] at d;cases d;exact B
end
section
variable{X:Cx}{U:aI}{D:GD}{M β γ:Type}[Py M][Py β][Py γ]{elt target iter c:Ô}{b b' b1:Bool}{pos:ì}{ZB:ą}{tn:List Ï}{js:List Nat}{g:TG}{tc:Nat->Prop}{put:Bool->M->aI->aI}{as:List M}{f:M->β}{p:M->Bool}{ifs:List Ô}
variable{α:Model}{A:à}{E:Ä->Æ->Prop}{s:Æ}{base:ß}{env:ĵ}{outer:List ĵ}{L C e:Ç}
variable{Z2:List (Ç×û)}{Y:St}{H H':Hp}{h':ß}
end
section
variable{X:Cx}{Z2:List (Ç×û)}{Y:St}{H:Hp}{s s':Æ}{E:XK}
variable{R:RB}{U:aI}{D:GD}{M β γ:Type}[Py M][Py β][Py γ]{e e1 e2 e3:Ô}{b b1 b2 b3:Bool}{p pos np cpos cps:ì}{st:Ñ}{rest body orelse:List Ñ}{C:Ç}{cn:Ï}
variable{es:List Ô}{f:Ç}{x name:Ï}{k:Nat}{ps:List Ï}{fd:ð}{t:TA}{sp:Sp}
variable{P:Ð}{w:Ú}{K:Ã}{mg:Ï->Option Ä}{base:ß}{N:List Ï}{qual:Ï}
end
mutual
inductive DN(K:Ã)(N:Nn)(H:Hp):V->ý->Prop
 |non:DN K N H .non .none
 |bl (b:Bool):DN K N H (.bl b) (.bool b)
 |int (i:Int):DN K N H (.int i) (.int i)
 |str (x:Ï):DN K N H (.str x) (.str x)
 |lst {a:Ç} {xs:List V} {ds:List ý}:dW K H a xs->N.has H a (.inl xs)->zC K N H xs ds->DN K N H (.ref a) (.list ds)
 |tup {a:Ç} {xs:List V} {ds:List ý}:Rt H a xs->zC K N H xs ds->DN K N H (.ref a) (.tuple ds)
inductive zC(K:Ã)(N:Nn)(H:Hp):List V->List ý->Prop
 |nil:zC K N H [] []
 |cons {x:V} {xs:List V} {d:ý} {ds:List ý}:DN K N H x d->zC K N H xs ds->zC K N H (x::xs) (d::ds)
end
mutual
theorem DN.tr{K:Ã}{N N':Nn}{H H':Hp}(l:∀p (o:Mt),Mo K H p o->N.has H p o->Mo K H' p o/\N'.has H' p o)(t:∀p xs,Rt H p xs->Rt H' p xs):∀{v:V} {d:ý},DN K N H v d->DN K N' H' v d
 |_,_,.non=>.non
 |_,_,.bl b=>.bl b
 |_,_,.int i=>.int i
 |_,_,.str x=>.str x
 |_,_,.lst (xs:=xs) s n r=>.lst (l _ (.inl xs) s n).1 (l _ (.inl xs) s n).2 (zC.tr l t r)
 |_,_,.tup s r=>.tup (t _ _ s) (zC.tr l t r)
theorem zC.tr{K:Ã}{N N':Nn}{H H':Hp}(l:∀p (o:Mt),Mo K H p o->N.has H p o->Mo K H' p o/\N'.has H' p o)(t:∀p xs,Rt H p xs->Rt H' p xs):∀{v:List V} {d:List ý},zC K N H v d->zC K N' H' v d
 |_,_,.nil=>.nil
 |_,_,.cons h r=>.cons (DN.tr l t h) (zC.tr l t r)
end
mutual
theorem DN.dr{K:Ã}{N:Nn}{H:Hp}:∀{v:V} {d:ý},DN K N H v d->DR K H v d
 |_,_,.non=>.non
 |_,_,.bl b=>.bl b
 |_,_,.int i=>.int i
 |_,_,.str x=>.str x
 |_,_,.lst s _ r=>.lst s (zC.dr r)
 |_,_,.tup s r=>.tup (Ky.t (.inl s)) (zC.dr r)
theorem zC.dr{K:Ã}{N:Nn}{H:Hp}:∀{v:List V} {d:List ý},zC K N H v d->Dn K H v d
 |_,_,.nil=>.nil
 |_,_,.cons h r=>.cons (DN.dr h) (zC.dr r)
end
section
variable{X:Cx}{U:aI}{M β:Type}[Py M][Py β]{e e1 e2:Ô}{b b1 b2:Bool}{p p2 pos:ì}
def rE[PyT M]{xs:List M}{k:Int}(ha:E X U e1 b xs)(m:E X U e2 b2 k)(x:0<=k):E X U (.Subscript e1 (.Slice (À e2) none none p2) pos) Á (xs.drop k.toNat):=by
 stop
  exact aJ (nA xj ha (rR m) rq) λY H Q ⟨H0,F,O,S,q⟩=>#[H0,F,O,S,λv H1 c j=>#[H0,F,O,S.go c,λw H2 a o=>by
    obtain⟨p,vs,e,s,n,r⟩:=j;refine#[k,o,p,vs,e,(ar _ _).seq ((ah a).seq s),λl f=>?_];obtain⟨i,g⟩:=cO (xs:=j8 vs (À k) none) ((S.go c).go a) f;refine q _ _ (c.trans (a.trans i)) #[l,_,rfl,dW.of g,Nf.wk (b:=Á) (((S.go c).go a).iq f) g,?_]
    have ec:j8 vs (À k) none=vs.drop k.toNat:=by
     unfold j8;have u:k=((k.toNat:Nat):Int):=by lia
     rw[u,HT.rH,HT.oa];simp only[Õ];by_cases d:k.toNat<=vs.length
     .rw[ack d,ZL (by rw[Z9];exact Xm _)]
     .rw[ab5 .b,aao (Xm _),aao .b];simp
    have h:=bM (λ_ _ z=>PyT.free (N':=Nf H0 Á) (λ_ _ t=>aG.rt ((ah a).trans (ah i)) t) z) (xD k.toNat r);rw[<-ec] at h
    exact h]]
variable{D:GD}{γ:Type}[Py γ]{rest st:List Ñ}
end
@[irreducible] def EX{M:Type}[Py M](X:Cx)(U:aI)(e:Ô)(b:Bool)(post:M->Prop):Prop:=PE X e λY H Q=>∃H0 F O,dM X.K H0 F O U Y H/\∀a v H',post a->aG H H'->Py.rp X.K (Nf H0 b) (off H' O) v a->Q v H'
def ug{M:Type}[Py M](b:Bool)(post:M->Prop):GD:={nx:=λ_=>False,rt:=λg=>∃a,post a/\g=.val b a}
def eF{M β:Type}[Py M][Py β](K:Ã)(pre:M->Prop)(b:Bool)(post:M->β->Prop):Sp:=λvs H Q _=>∃O v a,oR H O/\vs=[v]/\Py.rp K .any .F v a/\pre a/\∀z r H',post a z->aG H H'->Py.rp K (Nf H b) (off H' O) r z->Q r H'
def s_{M β γ:Type}[Py M][Py β][Py γ](K:Ã)(pre:M->β->Prop)(b:Bool)(post:M->β->γ->Prop):Sp:=λvs H Q _=>∃O v w a c,oR H O/\vs=[v,w]/\Py.rp K .any .F v a/\Py.rp K .any .F w c/\pre a c/\∀z r H',post a c z->aG H H'->Py.rp K (Nf H b) (off H' O) r z->Q r H'
def Dx{M β γ δ:Type}[Py M][Py β][Py γ][Py δ](K:Ã)(pre:M->β->γ->Prop)(b:Bool)(post:M->β->γ->δ->Prop):Sp:=λvs H Q _=>∃O v w x a c d,oR H O/\vs=[v,w,x]/\Py.rp K .any .F v a/\Py.rp K .any .F w c/\Py.rp K .any .F x d/\pre a c d/\∀z r H',post a c d z->aG H H'->Py.rp K (Nf H b) (off H' O) r z->Q r H'
section
variable{X:Cx}{U:aI}{D:GD}{M β γ δ:Type}[Py M][Py β][Py γ][Py δ]{e e1 e2 e3:Ô}{b b1 b2 b3:Bool}{p pos:ì}{rest:List Ñ}{k:Nat}{name:Ï}{ps:List Ï}
def bV{pre:M->Prop}{post:M->β->Prop}{a:M}(C:aH X.prog X.w X.K X.mg X.base k name ps (eF X.K pre b post))(f:dP k X.A)(g:Gl X name)(h1:E X U e1 b1 a)(hp:pre a)
  (c:autoParam (Å [e1] X.env=(Â,Û e1 X.env)::Å [] X.env) zra) (d:autoParam ((name==("__debug__":Ï))=Â) zrb) (hpl:autoParam ((è pos (Å [] X.env)).any (·.1)=Â) zra):
  EX X U (.Call (.Name name p) [e1] [] pos) b (post a):=by
 stop
  obtain⟨l,fd,F,B,kp,m⟩:=C.ex
  exact aJ (eY F f g m kp B .nil jY (aB h1 a9 c) d c hpl) λY H Q ⟨H0,F,O,S,q⟩=>#[H0,F,O,S,λj H1 e h =>
   #[O,j,a,(S.go e).own,rfl,bh bt h,hp,λz r H' hz s' i=>q z r H' hz (e.trans s') ((S.go e).back i)]]
def jo{pre:M->β->Prop}{post:M->β->γ->Prop}{a:M}{c:β}(C:aH X.prog X.w X.K X.mg X.base k name ps (s_ X.K pre b post))(i:dP k X.A)(j:Gl X name)(h1:E X U e1 b1 a)(h2:E X U e2 b2 c)(hp:pre a c)
  (d:autoParam (Å [e1,e2] X.env=(Â,Û e1 X.env)::Å [e2] X.env) zra) (h:autoParam (Å [e2] X.env=(Â,Û e2 X.env)::Å [] X.env) zra) (g:autoParam ((name==("__debug__":Ï))=Â) zrb) (hpl:autoParam ((è pos (Å [e2] X.env)).any (·.1)=Â) zra):
  EX X U (.Call (.Name name p) [e1,e2] [] pos) b (post a c):=by
 stop
  obtain⟨u,fd,F,B,kp,m⟩:=C.ex
  exact aJ (eY F i j m kp B .nil jY (aB h1 (aB h2 a9 h) d) g d hpl) λY H Q ⟨H0,F,O,S,q⟩=>#[H0,F,O,S,λt H1 f l=>#[H0,F,O,S.go f,λn H2 e o =>
   #[O,t,n,a,c,(S.go (f.trans e)).own,rfl,bh bt (aw (ah e) l),bh bt o,hp,λz r H' hz s' s=>q z r H' hz (f.trans (e.trans s')) ((S.go (f.trans e)).back s)]]]
def sW{pre:M->β->γ->Prop}{post:M->β->γ->δ->Prop}{a:M}{c:β}{d:γ}(C:aH X.prog X.w X.K X.mg X.base k name ps (Dx X.K pre b post))(o:dP k X.A)(s:Gl X name)(h1:E X U e1 b1 a)(h2:E X U e2 b2 c)(n:E X U e3 b3 d)(hp:pre a c d)
  (e:autoParam (Å [e1,e2,e3] X.env=(Â,Û e1 X.env)::Å [e2,e3] X.env) zra) (l:autoParam (Å [e2,e3] X.env=(Â,Û e2 X.env)::Å [e3] X.env) zra) (j:autoParam (Å [e3] X.env=(Â,Û e3 X.env)::Å [] X.env) zra)
  (i:autoParam ((name==("__debug__":Ï))=Â) zrb) (hpl:autoParam ((è pos (Å [e2,e3] X.env)).any (·.1)=Â) zra):
  EX X U (.Call (.Name name p) [e1,e2,e3] [] pos) b (post a c d):=by
 stop
  obtain⟨I,fd,F,B,kp,m⟩:=C.ex
  exact aJ (eY F o s m kp B .nil jY (aB h1 (aB h2 (aB n a9 j) l) e) i e hpl) λY H Q ⟨H0,F,O,S,q⟩=>#[H0,F,O,S,λG H1 h u=>#[H0,F,O,S.go h,λv H2 f x=>#[H0,F,O,S.go (h.trans f),λt J g D =>
   #[O,G,v,t,a,c,d,(S.go (h.trans (f.trans g))).own,rfl,bh bt (aw ((ah f).trans (ah g)) u),bh bt (aw (ah g) x),bh bt D,hp,λz r H' hz s' y=>q z r H' hz (h.trans (f.trans (g.trans s'))) ((S.go (h.trans (f.trans g))).back y)]]]]
def P1{a:M}{post:M->Prop}(h:E X U e b a)(hp:post a):EX X U e b post:=by stop exact aJ h λY H Q ⟨H0,F,O,S,q⟩=>#[H0,F,O,S,λv H' s' r=>q a v H' hp s' r]
def Lx{post post':M->Prop}(h:EX X U e b post)(hp:∀a,post a->post' a):EX X U e b post':=by stop exact aJ h λY H Q ⟨H0,F,O,S,q⟩=>#[H0,F,O,S,λa v H' hz s' r=>q a v H' (hp a hz) s' r]
def fR(i:Nat){post:M->Prop}{p:ì}(f:X.N.Nodup)(he:EX X U e b post)(h:∀a,post a->S X (U.set i (À (.val b a))) rest D)(hi:autoParam (X.N[i]?=À x) zra)(g:autoParam (Loc X.env.scope x) zri)
  (j:autoParam (õ e (À (.Name x p)) pos.line X.env=pure Â) zra) (d:autoParam (X.fn x=Á\/X.env.scope.names.lookup x=À .local) zrd):S X U (.Assign [.Name x p] e pos::rest) D:=by stop exact dU (dS (sC f hi g he j d) λl Y H ⟨H0,F,O,Z,n,_⟩=>#[H0,F,O,Z,λa v H1 hz c k=>n _ _ H1 O (ah c) ((Z.go c).set k) (h a hz)])
variable{P:Ð}{w:Ú}{K:Ã}{mg:Ï->Option Ä}{base:ß}{N:List Ï}{x qual:Ï}{st:Ñ}{f:Ç}{fd:ð}
def lB{gs:List Bd}{vs:List V}{H:Hp}{O:Ç->Prop}{M:Type}[Py M]{b:Bool}{post:M->Prop}{Q:VK}{c:Ä}{A:à}{outer:List ĵ}{s:Æ}{E:XK}(B:⇑Body N qual st f k gs (ug b post))(i:dP k (A.deeper (ę qual (ag st) s.heap.objs.size f c)))
  (j:oR H O) (h:Args K .F vs gs) (q:∀a r H',post a->aG H H'->Py.rp K (Nf H b) (off H' O) r a->Q r H'):
  ∃t,qW (ui pd P w K mg base N qual (ag st) f c A outer s H E).K8 (b7 st) t/\t {nx:=λ_ H'=>Q .non H',rt:=Q} (start N vs) H:=by stop refine#[_,B c A outer s H E i,H,O,O,pQ j h,λ_ _ _ _ _ _ z=>z.elim,λg v H' sm z e=>?_,λ_ _ _ _ _ _ z=>z.elim,λ_ _ _ _ _ _ z=>z.elim];obtain⟨a,ha,d⟩:=e;subst d;exact q a v H' ha sm z
def qG{M β:Type}[Py M][Py β]{pre:M->Prop}{b:Bool}{post:M->β->Prop}(F:uf K x qual st f fd)(i:ak N ps (ag st))(e:ps.length=1)(B:∀a,pre a->⇑Body N qual st f k [.val Â a] (ug b (post a))):
  fU P w K mg base pd (k+1) f fd ps (eF K pre b post):=by
 stop
  refine F.ok i (λvs H Q E h=>?_) λc A outer s H vs Q E d h=>?_
  .obtain⟨O,v,a,_,rfl,_⟩:=h;rw[e];rfl
  .obtain⟨O,v,a,g,rfl,r,hp,q⟩:=h;exact lB (B a hp) d g (.cons r .nil) q
def Jb{M β γ:Type}[Py M][Py β][Py γ]{pre:M->β->Prop}{b:Bool}{post:M->β->γ->Prop}(F:uf K x qual st f fd)(m:ak N ps (ag st))(e:ps.length=2)(B:∀a c,pre a c->⇑Body N qual st f k [.val Â a,.val Â c] (ug b (post a c))):
  fU P w K mg base pd (k+1) f fd ps (s_ K pre b post):=by
 stop
  refine F.ok m (λvs H Q E h=>?_) λj A outer s H vs Q E d h=>?_
  .obtain⟨O,v,g,a,c,_,rfl,_⟩:=h;rw[e];rfl
  .obtain⟨O,v,g,a,c,l,rfl,r,i,hp,q⟩:=h;exact lB (B a c hp) d l (.cons r (.cons i .nil)) q
def OR{M β γ δ:Type}[Py M][Py β][Py γ][Py δ]{pre:M->β->γ->Prop}{b:Bool}{post:M->β->γ->δ->Prop}(F:uf K x qual st f fd)(p:ak N ps (ag st))(g:ps.length=3)(B:∀a c d,pre a c d->⇑Body N qual st f k [.val Â a,.val Â c,.val Â d] (ug b (post a c d))):
  fU P w K mg base pd (k+1) f fd ps (Dx K pre b post):=by
 stop
  refine F.ok p (λvs H Q E h=>?_) λm A outer s H vs Q E e h=>?_
  .obtain⟨O,v,j,i,a,c,d,_,rfl,_⟩:=h;rw[g];rfl
  .obtain⟨O,v,j,i,a,c,d,o,rfl,r,l,n,hp,q⟩:=h;exact lB (B a c d hp) e o (.cons r (.cons l (.cons n .nil))) q
end
end L2.EP
namespace L2
open PySem PySem.Spec PyProof.Rows
section
variable{prog:Ð}{w:Ú}{A:à}{E:Ä->Æ->Prop}{s:Æ}{d it:Ç}{o od:û}{es:Array DictEntry}{ep i:Nat}
def ED{Q:Ä->Æ->Prop}(e:(d==ö)=Â)(b:s.heap.get? d=À o)(g:o.ExactDict)(a:o.data=.dict es ep)
  (f:Q (.ref s.heap.objs.size) {s with heap:=s.heap.push {cls:=.type "dict_keyiterator",data:=.fields (â [.ref d,.int 0 0,.int es.size 0,.int ep 0])}}):
  Í (Î prog w) A (ı (.ref d)) Q E s:=by
 have c:s.TypeIs (.ref d) "dict":=#[o,b,g.1];refine abJ c ϟ (YH ϟ c F.entry_dict_iter ?_ (F.args_dict_iter_1 _));unfold č.«dict.__iter__»;refine W9 ?_;unfold Builtin.Dict.dictSlotNone;refine W9 (wpAny_notOrdered_dict c ?_);show Í _ _ (pure (þ d)) _ _ s;refine Xd ?_;show Í _ _ (Ĵ d >>= _) _ _ s;unfold Ĵ;rw[W_ (by rw[e];exact Xx)];refine W9 (Xd (W9 (abO b a (W9 (acn b a ?_)))));refine W9 (Yx (Xd #[_,rfl,"dict_keyiterator",_,#[_,Xz _ rfl,rfl],Za.lookup,?_]));simpa [ü] using f
def FH{Q:Option Ä->Æ->Prop}(hit:s.heap.IsKeyIter it d i es.size ep)(e:s.heap.get? d=À od)(c:od.data=.dict es ep)(g:i<es.size)
  (h:∀h',h'.IsKeyIter it d (i+1) es.size ep->Č it s.heap h'->Q (À es[i].key) {s with heap:=h'}):
  Í (Î prog w) A (Ď (.ref it)) Q E s:=by
 obtain⟨o,f,j,b⟩:=id hit;unfold Ď;refine W9 (ϸ (YW (name:=ñ "__next__") hit.typeIs Za (YH Za hit.typeIs abi ?_ (abh _))));refine W9 (Xd (W9 (W9 ?_)))
 first|refine W9 (Zz hit.typeIs (Xd (W9 (ZG f b ?_))))|refine W9 (aab hit.typeIs (Xd (W9 (ZG f b ?_))))
 simp only[show ğ "dict_keyiterator"=Â by decide,Zm,ZT];show Í _ _ (if (þ d==ò)=Á then _ else _) _ _ s;rw[W_ (show ¬((þ d==ò)=Á) from Xx)];refine W9 (Xd (W9 (abO e c ?_)));rw[W_ .c];refine W9 (Xd (W9 (acn e c ?_)));rw[W_ .c];refine Xd ?_;simp only[show ¬((i:Int)<0) from by lia,ZT,Õ,YL g];refine W9 ?_
 first|refine W9 (Zz hit.typeIs (Xd (W9 (aa_ hit.typeIs ?_))))|refine W9 (aab hit.typeIs (Xd (W9 (aa_ hit.typeIs ?_))))
 show Í _ _ (setField (.ref it) 1 (ü ((i:Int)+1)) >>= _) _ _ s;refine W9 (ZH f b .c ?_);have a:(s.heap.update it (ć (·.setIfInBounds 1 (ü ((i:Int)+1))))).IsKeyIter it d (i+1) es.size ep:=#[_,Y6 _ f (aa9 (ZN b _)),(abK ..).trans j,by rw[ZN b];simp[ü]];refine W9 (YZ (W9 (aa_ (s:={s with heap:=s.heap.update it (ć (·.setIfInBounds 1 (ü ((i:Int)+1))))}) a.typeIs ?_)));show Í _ _ (pure es[i].key) _ _ _;exact Xd (Xd #[_,rfl,Xd (h _ a (X4 ..))])
def next_end{Q:Option Ä->Æ->Prop}(j:A.handled=none)(hit:s.heap.IsKeyIter it d i es.size ep)(e:s.heap.get? d=À od)(c:od.data=.dict es ep)(g:es.size<=i)
  (k:∀h',Heap.ExtBut it s.heap h'->Q none {s with heap:=h'}):Í (Î prog w) A (Ď (.ref it)) Q E s:=by
 obtain⟨o,f,l,h⟩:=id hit;unfold Ď;refine W9 (ϸ (YW (name:=ñ "__next__") hit.typeIs Za (YH Za hit.typeIs abi ?_ (abh _))));refine W9 (Xd (W9 (W9 ?_)))
 first|refine W9 (Zz hit.typeIs (Xd (W9 (ZG f h ?_))))|refine W9 (aab hit.typeIs (Xd (W9 (ZG f h ?_))))
 simp only[show ğ "dict_keyiterator"=Â by decide,Zm,ZT];show Í _ _ (if (þ d==ò)=Á then _ else _) _ _ s;rw[W_ (show ¬((þ d==ò)=Á) from Xx)];refine W9 (Xd (W9 (abO e c ?_)));rw[W_ .c];refine W9 (Xd (W9 (acn e c ?_)));rw[W_ .c];refine Xd ?_;simp only[show ¬((i:Int)<0) from by lia,ZT,Õ,aa1 g];refine W9 ?_
 first|refine W9 (Zz hit.typeIs (Xd ?_))|refine W9 (aab hit.typeIs (Xd ?_))
 show Í _ _ (setField (.ref it) 0 .none >>= _) _ _ s;refine W9 (ZH f h .c ?_);show Í _ _ (newExc (.type "StopIteration") [] >>= _) _ _ _;refine W9 ?_;simp only[newExc,newTuple];refine W9 (Yx ?_ (by size_fits));refine W9 (m:=Ī _ _) (Ω (a:=ò) (by first|rfl|(simp only[Ī];rfl)) (Yx ?_ (by size_fits)));simp only[raiseNew];refine W9 (wpAny_handled ?_);rw[show A.in1.handled=none from j];refine W9 (Xd (wpAny_throw ?_));refine W9 (ab8 (T:="StopIteration") (b:=Á) #[_,Xz _ rfl,rfl] isSubtype_stop (Xd ?_));exact k _ (((X4 ..).extBut.push _).push _)
end
def R_(a : Ç)(o : û)(YP : List ((Int×Bool)×V)) : It :=
  #[λi H=>H a=À (.frz o (.dB YP))/\i<YP.length,
   λi H x H'=>H'=H/\∃kv b,YP[i]?=À kv/\x=.ref b/\H b=À (.tup (kB kv.1)),
   λi H=>H a=À (.frz o (.dB YP))/\YP.length<=i]
def zS{P:Ð}{w:Ú}{K:Ã}{tg:Ô}(a it:Ç)(o:û)(YP:List ((Int×Bool)×V)):Turn P w K tg (R_ a o YP) [it] it (λi h=>∃es ep,o.data=.dict es ep/\h.IsKeyIter it a i YP.length ep) where
 mem:=by simp
 obj:=λi h st b f=>by
  have e:b=it:=by simpa using f
  subst e;obtain⟨es,ep,_,o',e,c,d⟩:=st;exact#[o',e,λv z=>by rw[d] at z;cases z]
 keep:=λi h h' st k=>by
  obtain⟨es,ep,e,st⟩:=st;exact#[es,ep,e,st.at λo e=>k it .c o e]
 item:=by
  intro X F L α N i Z2 s Y H E I n st q;subst F L α;obtain⟨es,ep,g,st⟩:=st;obtain⟨A,hi⟩:=q;obtain⟨go,hz,Γ,xs,kv,o',D,B,e1,Z,l,p,O⟩:=(show bY X.prog X.w H s.heap a (.frz o (.dB YP)) from I.hok a _ A);rw[go] at e1;cases e1;rw[g] at l;cases l;have r:YP.length=xs.length:=Ϲ kv;have hsz:es.size=YP.length:=by rw[r];exact aco p
  obtain⟨u,J,f2,G,t,C⟩:=n it .c;have j:i<es.size:=by lia
  rw[<-hsz] at st;refine FH st go g j λh' m σ=>?_;have S:Inv X Z2 Y H {s with heap:=h'}:=I.turned (t':=s.toks) (λb o f e=>(σ.2 b f).trans e) u J G t C;obtain⟨o2,e2,c2,T⟩:=id m;obtain⟨x,hx⟩:∃x,xs[i]?=À x:=#[xs[i]'.b,Xn .b];obtain⟨y,hy,q1,R,q3⟩:=EP.rA kv (Xn hi)
  have Q:es[i].key=.ref y.2.1:=by
   have:=entry_at p i;rw[hy,YL j] at this;rw[Xy this];rfl
  refine#[es[i].key,rfl,zA (s:={s with heap:=h'}) e2 c2 T .a #[.ref y.2.1,H,S,Q,#[rfl,_,y.2.1,Xn hi,rfl,R],#[es,ep,g,by rwa[<-hsz]],λb f=>(n b f).1]]
 done:=by
  intro X F L α N i Z2 s Y H E I n st q;subst F L α;obtain⟨es,ep,g,st⟩:=st;obtain⟨A,hi⟩:=q;obtain⟨go,hz,Γ,xs,kv,o',D,B,e1,Z,l,p,O⟩:=(show bY X.prog X.w H s.heap a (.frz o (.dB YP)) from I.hok a _ A);rw[go] at e1;cases e1;rw[g] at l;cases l;have r:YP.length=xs.length:=Ϲ kv;have hsz:es.size=YP.length:=by rw[r];exact aco p
  obtain⟨u,J,f2,G,t,C⟩:=n it .c;rw[<-hsz] at st;exact next_end (I.ok.hd N) st go g .b λh' eb=>#[rfl,I.turned (t':=s.toks) (λb o f e=>eb b o f e) u J G t C]
 self:=λ_ _ _ _ _ st h=>by
  obtain⟨es,ep,_,st⟩:=st;exact wpAny_pyIter_keyiter st h
def H_(YP:List ((Int×Bool)×V))(u:HO):Prop:=u=.dB YP\/∃o,u=.frz o (.dB YP)
section
variable{X:Cx}{tg:Ô}{Z2:List (Ç×û)}{Y:St}{H:Hp}{s:Æ}{a:Ç}{u0 u:HO}{YP:List ((Int×Bool)×V)}
def Inv.KG(I:Inv X Z2 Y H s)(e:H a=À u0)(h:H_ YP u0)(ok:bY X.prog X.w H s.heap a u)(l:∀o' j,X.H₀ a=À (.frz o' j)->u=.frz o' j):Inv X Z2 Y (upd H a u) s:=by
 have g:∀b,H b=none->b≠a:=λb n z=>by subst z;rw[n] at e;cases e
 have k:∀b xs,H b=À (.tup xs)->b≠a:=λb xs q z=>by
  subst z;rw[e] at q;rcases h with d|⟨o,d⟩<;>(rw[d] at q;cases q)
 have m:∀b x,H b=À (.own x)->b≠a:=λb xs q z=>by
  subst z;rw[e] at q;rcases h with d|⟨o,d⟩<;>(rw[d] at q;cases q)
 have st:∀b v,bY X.prog X.w H s.heap b v->bY X.prog X.w (upd H a u) s.heap b v:=λb v z=>z.vW (λc v _ q=>q) (λc q=>by rwa[aC (m c _ q)]) λc xs q=>by rwa[aC (k c xs q)]
 refine#[I.ok,I.os,I.bare,#[I.base.keep,I.base.slot,λb o q n t=>?_,I.base.there,λb xs q=>?_,λb o v q=>?_,λb ps q=>?_],I.loc,I.cell,?_,λx c q=>?_,λp hp=>?_,λb v q=>?_,I.len]
 .have:=I.base.free b o q n t;rw[aC (g b this)];exact this
 .have:=I.base.tups b xs q;rw[aC (k b xs this)];exact this
 .by_cases f:b=a
  .subst f;rw[aQ,l _ _ q]
  .rw[aC f];exact I.base.frzs b o v q
 .obtain⟨more,q'⟩:=I.base.tbls b ps q
  have f:b≠a:=λz=>by
   subst z;rw[e] at q';rcases h with d|⟨o,d⟩<;>(rw[d] at q';cases q')
  exact#[more,by rwa[aC f]]
 .rw[aC (g _ I.free)];exact I.free
 .rw[aC (g _ (I.freeC x c q))];exact I.freeC x c q
 .obtain⟨q1,i,r⟩:=I.pin p hp;exact#[q1,by rwa[aC (g _ i)],r]
 .by_cases f:b=a
  .subst f;rw[aQ] at q;cases q;exact st _ _ ok
  .rw[aC f] at q;exact st _ _ (I.hok b v q)
def HK(X:Cx)(tl:TE):TI:=λY H R=>tl Y H λx H1=>∃a YP u,x=.ref a/\H1 a=À u/\H_ YP u /\
 ∀o,(u=.dB YP\/u=.frz o (.dB YP))->(∀o' b,X.H₀ a=À (.frz o' b)->u=.frz o' b)->R (R_ a o YP) (upd H1 a (.frz o (.dB YP)))
def Fw{l:Ô}{tl:TE}(m:PE X l tl):PI X tg l (HK X tl):=by
 intro Z2 s Y H R I h;refine cj (m Z2 s Y H _ I h) λv f ⟨x,H1,k,n,q1⟩=>?_;obtain⟨a,YP,u,e,i,p,q⟩:=q1;subst e;cases n
 have rd:Rd H1 a (.dB YP):=by
  rcases p with d|⟨o,d⟩
  .exact .inl (by rw[i,d])
  .exact .inr #[o,by rw[i,d]]
 have j:=(show bY X.prog X.w H1 f.heap a (.dB YP) from B_ k.hok rd);obtain⟨hz,B,xs,kv,o,es,ep,e1,n,A,D,E⟩:=id j
 have g:u=.dB YP\/u=.frz o (.dB YP):=by
  rcases p with d|⟨o',d⟩
  .exact .inl d
  .refine .inr ?_;have:=(show bY X.prog X.w H1 f.heap a (.frz o' (.dB YP)) from k.hok a _ (by rw[i,d])).1;rw[e1] at this;rw[d,Xy this]
 have y:∀o' c,X.H₀ a=À (.frz o' c)->u=.frz o' c:=λo' c z=>by
  have:=k.base.frzs a o' c z;rw[i] at this;exact Xy this
 have t:∀o' c,X.H₀ a=À (.frz o' c)->HO.frz o (.dB YP)=.frz o' c:=λo' c z=>by
  have:=y o' c z;rcases g with d|d
  .rw[d] at this;cases this
  .rw[<-d];exact this
 have r:=k.KG (u:=.frz o (.dB YP)) i p #[e1,j] t;refine ED B e1 n A ?_;have m:YP.length=xs.length:=Ϲ kv;have hsz:es.size=YP.length:=by rw[m];exact aco D
 refine#[f.heap.objs.size,[f.heap.objs.size],_,_,_,rfl,r.kept (t':=f.toks) λb o e=>Xi _ e,zS a _ o YP,#[es,ep,A,by rw[<-hsz];exact#[_,Xz _ rfl,rfl,rfl]],λb C=>?_,q o g y];have e:b=f.heap.objs.size:=by simpa using C
 subst e;exact r.A7 (Xm _) (r.hok.fresh (Xm _))
def Sd(X:Cx)(D:Ends):Ends:={D with
 nx:=λY' H'=>∃a YP u o,H' a=À (.frz o (.dB YP))/\(u=.dB YP\/u=.frz o (.dB YP))/\(∀o' b,X.H₀ a=À (.frz o' b)->u=.frz o' b)/\D.nx Y' (upd H' a u)
 rt:=λv H'=>D.rt v H'\/∃a YP u o,H' a=À (.frz o (.dB YP))/\(u=.dB YP\/u=.frz o (.dB YP))/\(∀o' b,X.H₀ a=À (.frz o' b)->u=.frz o' b)/\D.rt v (upd H' a u)}
def Inv.GR{o:û}(I:Inv X Z2 Y H s)(e:H a=À (.frz o (.dB YP)))(f:u=.dB YP\/u=.frz o (.dB YP))(c:∀o' b,X.H₀ a=À (.frz o' b)->u=.frz o' b):Inv X Z2 Y (upd H a u) s:=by
 have ok:=(show bY X.prog X.w H s.heap a (.frz o (.dB YP)) from I.hok a _ e);refine I.KG e (.inr #[o,rfl]) ?_ c;rcases f with d|d
 .rw[d];exact ok.2
 .rw[d];exact ok
def GZ{l:Ô}{tl:TE}{body:List Ñ}{g:TG}{tb:TS}{pos:ì}(hp:ď .E X.A X.env X.xe)(n:X.calm=Á)(k:PE X l tl)(j:PG X tg g)(p:qW X body tb)
  (m:autoParam (∀x,Ü l X.env x=pure x) zrc):PS X (.For tg l body [] pos) (λD Y H=>Pk (HK X tl) g tb (Sd X D) Y H):=by
 intro Z2 s Y H D I h;refine cj (oM hp n (Fw k) j p m Z2 s Y H (Sd X D) I h) λf s' q=>?_;cases f with
 |next =>
  obtain⟨Y',H',b,a,YP,u,o,e,d,c,q⟩:=q;exact#[Y',_,b.GR e d c,q]
 |brk=>exact q
 |cont=>exact q
 |ret v =>
  obtain⟨i,Y',H',b,r,q|⟨a,YP,u,o,e,d,c,q⟩⟩:=q
  .exact#[i,Y',H',b,r,q]
  .exact#[i,Y',_,b.GR e d c,r,q]
end
end L2
namespace L2.EP
open PySem PySem.Spec PyProof.Rows
variable{p:Ç}{v:V}{H:Hp}{k:Int×Bool}{YP:List ((Int×Bool)×V)}{K:Ã}{N:Nn}
structure Db(β:Type) where
 l:List ((Int×Bool)×β)
def Db.val{β:Type}(d:Db β)(k:Int×Bool):Option β:=(d.l.find? λu=>decide (u.1=k)).map (·.2)
def Db.put{β:Type}(d:Db β)(k:Int×Bool)(c:β):Db β:=#[if (d.l.any λu=>decide (u.1=k))=Á then d.l.map (λu=>if u.1=k then (u.1,c) else u) else d.l++[(k,c)]]
def DB{β:Type}[Py β](K:Ã)(N:Nn)(H:Hp)(x:(Int×Bool)×V)(y:(Int×Bool)×β):Prop:=x.1=y.1/\Py.rp K N H x.2 y.2
noncomputable instance{β:Type}[Py β]:Py (Db β) where
 rp K N H v d:=∃p YP,v=.ref p/\Rd H p (.dB YP)/\N.has H p (.inB YP)/\Ý (DB K N H) YP d.l
 tr l t h:=by
  obtain⟨p,YP,e,s,n,r⟩:=h;obtain⟨s',a⟩:=l _ (.inB YP) s n;exact#[p,YP,e,s',a,bM (λ_ _ q=>#[q.1,Py.tr l t q.2]) r]
open Classical in
noncomputable def zH(H0:Hp)(a:Ç)(o:û)(YP:List ((Int×Bool)×V)):Hp:=if H0 a=none then H0 else upd H0 a (.frz o (.dB YP))
section
variable{K:Ã}{H0 H H':Hp}{F O:Ç->Prop}{U:aI}{Y:St}{a:Ç}{u:HO}{YP:List ((Int×Bool)×V)}{o:û}
def nF:zH H0 a o YP p=none↔H0 p=none:=by
 unfold zH;split
 .exact Ŕ
 .rename_i h;by_cases e:p=a
  .subst e;rw[aQ];exact#[λz=>(by cases z),λz=>absurd z h]
  .rw[aC e]
def xH(h:p≠a):zH H0 a o YP p=H0 p:=by
 unfold zH;split
 .rfl
 .rw[aC h]
def Gm(h:H0 a≠none):zH H0 a o YP a=À (.frz o (.dB YP)):=by
 unfold zH;rw[W_ h,aQ]
def v_{G g:Hp}{u j:HO}(ne:∀b,b≠a->g b=G b)(e:G a=À u)(i:g a=À j)(d:H_ YP u)(d':H_ YP j){m:Mt}(h:Mo K G p m):Mo K g p m:=by
 by_cases hp:p=a
 .subst hp;cases m with
  |inl xs =>
   rcases h with(h|⟨c,h⟩)|h
   .rw[e] at h;rcases d with d|⟨f,d⟩<;>(rw[d] at h;cases h)
   .rw[e] at h;rcases d with d|⟨f,d⟩<;>(rw[d] at h;cases h)
   .exact .inr h
  |inB ks =>
   have ek:ks=YP:=by
    rcases h with h|⟨c,h⟩
    .rw[e] at h;rcases d with d|⟨f,d⟩<;>(rw[d] at h;cases h);rfl
    .rw[e] at h;rcases d with d|⟨f,d⟩<;>(rw[d] at h;cases h);rfl
   subst ek;rcases d' with d'|⟨f,d'⟩
   .exact .inl (by rw[i,d'])
   .exact .inr #[f,by rw[i,d']]
  |inT ks =>
   exfalso;rcases h with h|⟨c,h⟩
   .rw[e] at h;rcases d with d|⟨f,d⟩<;>(rw[d] at h;cases h)
   .rw[e] at h;rcases d with d|⟨f,d⟩<;>(rw[d] at h;cases h)
  |inr ks =>
   exfalso;rcases h with h|⟨c,h⟩
   .rw[e] at h;rcases d with d|⟨f,d⟩<;>(rw[d] at h;cases h)
   .rw[e] at h;rcases d with d|⟨f,d⟩<;>(rw[d] at h;cases h)
 .cases m with
  |inl xs =>
   rcases h with(h|⟨c,h⟩)|h
   .exact .inl (.inl (by rwa[ne p hp]))
   .exact .inl (.inr #[c,by rwa[ne p hp]])
   .exact .inr h
  |inr ks =>
   rcases h with h|⟨c,h⟩
   .exact .inl (by rwa[ne p hp])
   .exact .inr #[c,by rwa[ne p hp]]
  |inT ks =>
   rcases h with h|⟨c,h⟩
   .exact .inl (by rwa[ne p hp])
   .exact .inr #[c,by rwa[ne p hp]]
  |inB ks =>
   rcases h with h|⟨c,h⟩
   .exact .inl (by rwa[ne p hp])
   .exact .inr #[c,by rwa[ne p hp]]
def qY{G c:Hp}{u:HO}(ne:∀b,b≠a->c b=G b)(e:G a=À u)(d:H_ YP u){xs:List V}(h:Rt G p xs):Rt c p xs:=by
 have hp:p≠a:=λz=>by
  subst z;rcases h with h|⟨f,h⟩
  .rw[e] at h;rcases d with d|⟨g,d⟩<;>(rw[d] at h;cases h)
  .rw[e] at h;rcases d with d|⟨g,d⟩<;>(rw[d] at h;cases h)
 rcases h with h|⟨f,h⟩
 .exact .inl (by rwa[ne p hp])
 .exact .inr #[f,by rwa[ne p hp]]
def dM.OK(Z:dM K H0 F O U Y H)(ha:¬O a)(e:H a=À u)(j:H_ YP u):dM K (zH H0 a o YP) F O (Ob U) Y (upd H a (.frz o (.dB YP))):=by
 have ne:∀b,b≠a->upd H a (.frz o (.dB YP)) b=H b:=λb d=>aC d;have k:∀p,O p->p≠a:=λp h z=>ha (z▸h);have E:off H O a=À u:=by rwa[aS ha]
 have y:off (upd H a (.frz o (.dB YP))) O a=À (.frz o (.dB YP)):=by rw[aS ha];exact aQ
 have d':H_ YP (.frz o (.dB YP)):=.inr #[o,rfl]
 have any:∀{β:Type} [Py β] {N:Nn} {v:V} {x:β},Py.rp K N .F v x->Py.rp K .any (off (upd H a (.frz o (.dB YP))) O) v x:=λr =>
  Py.tr (λp m h _=>#[v_ (off_ne ne) E y j d' h,É]) (λp xs h=>qY (off_ne ne) E j h) r
 refine#[λb w h=>?_,Z.fo,λp h=>?_,λp h=>?_,?_,λi g s l=>?_,?_]
 .by_cases d:b=a
  .subst d;have l:H0 b≠none:=λz=>by rw[nF.mpr z] at h;cases h
   rw[Gm l] at h;rwa[aQ]
  .rw[xH d] at h;rw[aC d];exact Z.same _ _ h
 .obtain⟨xs,q⟩:=Z.f0 p h;exact#[xs,by rwa[xH (k p (Z.fo p h))]]
 .obtain⟨xs,q⟩:=Z.own p h;exact#[xs,by rwa[aC (k p h)]]
 .unfold Ob;rw[Xk];exact Z.len
 .obtain⟨t,c,rfl⟩:=BX s;cases t with
  |val b x =>
   obtain⟨v,h1,h2⟩:=Z.at_ i _ c (λz=>z);exact#[v,h1,any h2]
  |own b as=>exact absurd É l
  |dpo x=>exact absurd É l
 .obtain⟨D,I,f,C⟩:=Z.dis;refine#[D,I,λi p h=>#[(f i p h).1,nF.mpr (f i p h).2],λi g s L=>?_];obtain⟨t,c,rfl⟩:=BX s;cases t with
  |val b x=>exact absurd L (λz=>z)
  |own b as =>
   obtain⟨v,h1,p,xs,q1,B,J,G⟩:=C i _ c É;exact#[v,h1,p,xs,q1,B,by rwa[aC (k p (f i p B).1)],bM (λ_ _ z=>any z) G]
  |dpo x =>
   obtain⟨v,h1,h2⟩:=C i _ c É;refine#[v,h1,?_];have A:Py.rp K (.set (D i)) H v x:=h2;exact Py.tr (a:=x) (N:=.set (D i)) (N':=.set (D i)) (λp m h n=>#[v_ ne e aQ j d' h,n.1,by rw[aC (k p (f i p n.1).1)];exact n.2]) (λp xs h=>qY ne e j h) A
def xI{β:Type}[Py β]{b:Bool}{x:β}{O:Ç->Prop}(ha:¬O a)(e:H' a=À (.frz o (.dB YP)))(j:u=.dB YP\/u=.frz o (.dB YP))(h:Py.rp K (Nf (zH H0 a o YP) b) (off H' O) v x):Py.rp K (Nf H0 b) (off (upd H' a u) O) v x:=by
 have ne:∀b,b≠a->upd H' a u b=H' b:=λb g=>aC g;have f:off H' O a=À (.frz o (.dB YP)):=by rwa[aS ha]
 have c:off (upd H' a u) O a=À u:=by rw[aS ha];exact aQ
 have i:H_ YP u:=j.imp id λd=>#[o,d];refine Py.tr (λp m h n=>#[v_ (off_ne ne) f c (.inr #[o,rfl]) i h,?_]) (λp xs h=>qY (off_ne ne) f (.inr #[o,rfl]) h) h;cases b with
 |false=>exact É
 |true =>
  have hp:p≠a:=λz=>by
   subst z;have:=n.2;rw[f] at this;rcases m with m|m|m|m<;>cases this
  exact#[nF.mp n.1,by rw[off_ne ne p hp];exact n.2]
def dM.LG{k:Ç->Prop}{U':aI}{Y':St}(Z:dM K H0 F O U Y H)(ha:H a=À u)(c:dM K (zH H0 a o YP) F k U' Y' H')(l:¬k a)(e:H' a=À (.frz o (.dB YP)))(t:u=.dB YP\/u=.frz o (.dB YP)):dM K H0 F k U' Y' (upd H' a u):=by
 have ne:∀b,b≠a->upd H' a u b=H' b:=λb f=>aC f;have s:∀p,k p->p≠a:=λp h z=>l (z▸h);have I:H_ YP u:=t.imp id λd=>#[o,d];refine#[λb w h=>?_,c.fo,Z.f0,λp h=>?_,c.len,λi g r y=>?_,?_]
 .by_cases f:b=a
  .subst f;have:=Z.same _ _ h;rw[aQ,<-ha];exact this
  .rw[aC f];exact c.same _ _ (by rwa[xH f])
 .obtain⟨xs,q⟩:=c.own p h;exact#[xs,by rwa[aC (s p h)]]
 .obtain⟨v,h1,h2⟩:=c.at_ i g r y;refine#[v,h1,?_];cases g with
  |val b x=>exact xI l e t h2
  |own b as=>exact absurd É y
  |dpo x=>exact absurd É y
 .obtain⟨D,G,j,L⟩:=c.dis;refine#[D,G,λi p h=>#[(j i p h).1,nF.mp (j i p h).2],λi g r C=>?_];obtain⟨v,h1,h2⟩:=L i g r C;refine#[v,h1,?_];cases g with
  |val b x=>exact absurd C (λz=>z)
  |own b as =>
   obtain⟨p,xs,q1,B,J,E⟩:=h2;exact#[p,xs,q1,B,by rwa[aC (s p (j i p B).1)],bM (λ_ _ z=>xI l e t z) E]
  |dpo x =>
   have A:Py.rp K (.set (D i)) H' v x:=h2;exact Py.tr (a:=x) (N:=.set (D i)) (N':=.set (D i)) (λp m h n=>#[v_ ne e aQ (.inr #[o,rfl]) I h,n.1,by rw[aC (s p (j i p n.1).1)];exact n.2]) (λp xs h=>qY ne e (.inr #[o,rfl]) h) A
def ve{d:Ç->Prop}(ha:¬O a)(e:H a=À u)(s:aG (off (upd H a (.frz o (.dB YP))) O) (off H' d)):¬d a/\H' a=À (.frz o (.dB YP))/\aG .F (off (upd H' a u) d):=by
 have h1:off (upd H a (.frz o (.dB YP))) O a=À (.frz o (.dB YP)):=by rw[aS ha];exact aQ
 obtain⟨n,h2⟩:=dn (s _ _ h1);refine#[n,h2,λb w h=>?_];by_cases g:b=a
 .subst g;rw[aS ha,e] at h;rwa[aS n,aQ]
 .have:=s b w (by rwa[off_ne (a:=a) (H:=H) (λc f=>aC f) b g]);rw[off_ne (a:=a) (H:=H') (λc f=>aC f) b g];exact this
variable{X:Cx}{D:GD}{M β γ:Type}[Py M][Py β][Py γ]{e e1 e2 tg:Ô}{b b1 b2:Bool}{pos:ì}{rest body:List Ñ}
theorem JQ{g:TG}{tc:Nat->Prop}{put:Bool->Int×Bool->aI->aI}{d:Db β}(J:Nat->aI->Prop)(hG:G X tg g (Int×Bool) put tc)(he:E X U e b d)(h0:J 0 (Ob U))
  (ht:∀(i:Nat) (k:Int×Bool) U',(d.l.map (·.1))[i]?=À k->J i U'->S X (put Á k U') body {D with nx:=J (i+1),ct:=J (i+1),bk:=λΓ2=>S X Γ2 rest D}) (hd:∀U',J d.l.length U'->S X U' rest D)
  (hc:autoParam (X.calm=Á) zra) (hp:ď .E X.A X.env X.xe:=by exact ZQ)
  (hfs:autoParam (∀x,Ü e X.env x=pure x) zrc):S X U (.For tg e body [] pos::rest) D:=by
 stop
  refine dU (dS (GZ hp hc he hG.1 (tb:=kE X body) gW hfs) λDe Y H ⟨H0,F,O,Z,nx,r,bk,ct⟩=>?_);refine#[H0,F,O,Z,λv H1 s1 r1=>?_];obtain⟨a,YP,ev,rd,_,rr⟩:=r1
  have σ:¬O a/\∃u,H1 a=À u/\H_ YP u:=by
   rcases rd with h|⟨o,h⟩
   .obtain⟨n,h⟩:=dn h;exact#[n,_,h,.inl rfl]
   .obtain⟨n,h⟩:=dn h;exact#[n,_,h,.inr #[o,rfl]]
  obtain⟨V,u,L,dz⟩:=σ;refine#[a,YP,u,ev,L,dz,λo t hf=>?_];have Z1:=Z.go s1;have lk:YP.length=d.l.length:=bE rr
  have R:∀(Q:St->Hp->Prop) (P:aI->Prop),(∀U' Y' H' c,aG .F (off H' c)->dM X.K H0 F c U' Y' H'->P U'->Q Y' H')->∀U' Y' H' c,aG (off (upd H1 a (.frz o (.dB YP))) O) (off H' c)->dM X.K (zH H0 a o YP) F c U' Y' H'->P U' ->
    ∃a YP u o,H' a=À (.frz o (.dB YP))/\(u=.dB YP\/u=.frz o (.dB YP))/\(∀o' u',X.H₀ a=À (.frz o' u')->u=.frz o' u')/\Q Y' (upd H' a u):=λQ P q U' Y' H' c sm α p=>by
   obtain⟨n',N,T⟩:=ve V L sm;exact#[a,YP,u,o,N,t,hf,q U' Y' _ c ((ah s1).trans T) (Z1.LG L α n' N t) p]
  refine#[λi m Y' H'=>m=d.l.length-i/\i<=d.l.length/\∃U' c,aG (off (upd H1 a (.frz o (.dB YP))) O) (off H' c)/\dM X.K (zH H0 a o YP) F c U' Y' H'/\J i U',#[_,rfl,Yc _,Ob U,O,aG.refl _,Z1.OK V L dz,h0],?_];rintro i m Y' H' ⟨rfl,hi',U',c,sm,α,j⟩;obtain⟨n',N,T⟩:=ve V L sm;by_cases W:i<d.l.length
  .refine .inr #[#[N,.e],λσ2 H2=>∃Γ2 B,aG (off (upd H1 a (.frz o (.dB YP))) O) (off H2 B)/\dM X.K (zH H0 a o YP) F B Γ2 σ2 H2/\J (i+1) Γ2,λσ2 H2 q=>#[d.l.length-(i+1),.e,rfl,W,q],λx H'' hy=>?_];obtain⟨rfl,kv,bb,hk,rfl,C⟩:=hy;obtain⟨y,hy,hxy⟩:=rA rr hk;refine hG.2 Á y.1 (zH H0 a o YP) F c U' Y' H'' _ _ α #[bb,_,_,rfl,.inl (by rw[aS (λz=>by obtain⟨m,hm⟩:=α.own bb z;rw[hm] at C;cases m<;>cases C),C,hxy.1];rfl),rfl,rfl] λσ2 I _ _=>?_;refine#[_,_,ht i y.1 U' (by rw[Xw,hy];rfl) j,zH H0 a o YP,F,c,I,?_,?_,?_,?_]
   .exact λΓ2 σ2 H2 B f I q=>#[Γ2,B,sm.trans f,I,q]
   .intro g v H2 Γ s q;by_cases hn:H0 a=none
    .have e0:zH H0 a o YP=H0:=by unfold zH;rw[Xc hn]
     rw[e0] at Γ s;exact .inl (r g v H2 Γ s q)
    .have e2:H2 a=À (.frz o (.dB YP)):=Γ _ _ (Gm hn);refine .inr #[a,YP,u,o,e2,t,hf,r g v _ (λb w h=>?_) ?_ q]
     .by_cases hb:b=a
      .subst hb;have:=Z1.same _ _ h;rw[aQ,<-L];exact this
      .rw[aC hb];exact Γ _ _ (by rwa[xH hb])
     .cases g with
      |val b x=>exact xI (λz=>V (Z.fo a z)) e2 t s
      |own b as=>exact s
      |dpo x=>exact s
   .exact λΓ2 σ2 H2 B f I q=>R _ _ nx Γ2 σ2 H2 B (sm.trans f) I q
   .exact λΓ2 σ2 H2 B f I q=>#[Γ2,B,sm.trans f,I,q]
  .have ei:i=d.l.length:=by omega
   subst ei;exact .inl #[#[N,.e],R _ _ nx U' Y' H' c sm α (hd U' j)]
end
def NJ{a b:Ç}(e:H a=À (.dB YP))(c:H b=À (.tup (kB k)))(d:YP.length<sizeLine):My H a (.ref b) v (upd H a (.dB (putK YP k v))):=.inr (.inr #[YP,k,b,e,rfl,c,d,rfl])
def FE(h:Py.rp K N H v k):∃b,v=.ref b/\H b=À (.tup (kB k)):=by
 obtain⟨p,x,y,e,s,h1,h2⟩:=h;have e1:x=V.int _:=h1;have e2:y=V.bl _:=h2;subst e1;subst e2;exact#[p,e,s.pl]
theorem FO{β:Type}[Py β]{K:Ã}{N:Nn}{H:Hp}(k:Int×Bool):∀{YP:List ((Int×Bool)×V)} {l:List ((Int×Bool)×β)},Ý (DB K N H) YP l ->
  (∀c,(Db.mk l).val k=À c->∃v,lL YP k=À v/\Py.rp K N H v c)/\((Db.mk l).val k=none->lL YP k=none)
 |_,_,.nil=>#[λc h=>(by cases h),λ_=>rfl]
 |_,_,.cons (a:=x) (b:=y) h t=>by
  obtain⟨g,i⟩:=FO k t;by_cases e:y.1=k
  .have d:x.1=k:=by rw[h.1,e]
   have f:∀r,(Db.mk (y::r)).val k=À y.2:=λr=>by unfold Db.val;rw[Y5];simp[e]
   rw[f,kd d];exact#[λc j=>(by cases j;exact#[_,rfl,h.2]),λz=>(by cases z)]
  .have d:¬x.1=k:=by rw[h.1];intro z;exact e (z)
   have f:∀r,(Db.mk (y::r)).val k=(Db.mk r).val k:=λr=>by unfold Db.val;rw[Y5];simp[e]
   rw[f,kN d];exact#[g,i]
def Im{β:Type}[Py β](k:Int×Bool){l:List ((Int×Bool)×β)}(r:Ý (DB K N H) YP l):(lL YP k).isSome=((Db.mk l).val k).isSome:=by
 obtain⟨h1,h2⟩:=FO k r;cases e:(Db.mk l).val k with
 |none=>rw[h2 e];rfl
 |some c =>
  obtain⟨v,a,_⟩:=h1 c e;rw[a];rfl
def Mh{β:Type}[Py β]{c:β}{l:List ((Int×Bool)×β)}(r:Ý (DB K N H) YP l)(h:Py.rp K N H v c):Ý (DB K N H) (putK YP k v) ((Db.mk l).put k c).l:=by
 have ha:∀{YP:List ((Int×Bool)×V)} {l:List ((Int×Bool)×β)},Ý (DB K N H) YP l->(YP.any λkv=>decide (kv.1=k))=(l.any λu=>decide (u.1=k)):=λr=>by
  induction r with
  |nil=>rfl
  |cons h t a =>
   rw[Zi,Zi,a,h.1]
 have b:∀{YP:List ((Int×Bool)×V)} {l:List ((Int×Bool)×β)},Ý (DB K N H) YP l->Ý (DB K N H) (YP.map λkv=>if kv.1=k then (kv.1,v) else kv) (l.map λu=>if u.1=k then (u.1,c) else u):=λr=>by
  induction r with
  |nil=>exact .nil
  |@cons x y _ _ g t a =>
   rw[XQ,XQ];refine .cons ?_ a;by_cases e:y.1=k
   .rw[Xc e,Xc (by rw[g.1,e])];exact#[g.1,h]
   .rw[W_ e,W_ (by rw[g.1];intro z;exact e (z))];exact g
 unfold putK Db.put;dsimp only;rw[ha r];split
 .exact b r
 .exact xb r (.cons #[rfl,h] .nil)
section
variable{X:Cx}{U:aI}{D:GD}{M β γ:Type}[Py M][Py β][Py γ] {e e1 e2 ek ec:Ô}{b b1 b2:Bool}{pos:ì}{rest st:List Ñ}
def GI:EN X U (.Dict [] [] pos) (Db.mk ([]:List ((Int×Bool)×β))):=by
 stop
  exact aJ FC λY H Q ⟨H0,F,O,Z,q⟩ p hp=>by
   have a:off (upd H p (.dB [])) O p=À (.dB []):=by rw[aS (Z.mF hp)];exact aQ
   exact q _ _ (cf hp _) #[p,[],rfl,.inl a,#[hp,a],.nil]
def Jz[PyT β](i:Nat){d:Db β}{c:β}{x:Ï}{p I:ì}(hu:X.A.units+60<Ę)(C:U[i]?=À (À (.dpo d)))(hk:E X U ek b2 k)(he:E X U e b c)(Q:d.l.length<=1000)(h:S X (U.set i (À (.dpo (d.put k c)))) rest D)(hi:autoParam (X.N[i]?=À x) zra)
  (R:autoParam (HV X.env.scope x) zre) (P:autoParam ((x==("__debug__":Ï))=Â) zrb) (B:autoParam ((x==("__classdict__":Ï))=Â) zrb)
  (T:autoParam (õ e (À (.Subscript (.Name x p) ek I)) pos.line X.env=pure Â) zra):S X U (.Assign [.Subscript (.Name x p) ek I] e pos::rest) D:=by
 stop
  exact dU (dS (JT .b (pv i hi R P B) hk he T) λDe Y H ⟨H0,F,O,Z,n,_⟩=>#[H0,F,O,Z,λu H1 j W=>by
    obtain⟨v,s,g,_,_,_⟩:=(Z.go j).AV C É;refine#[v,g,H0,F,O,Z.go j,λy f t ry=>?_];obtain⟨v',s,C3,⟨q,YP,e1,rd,nn,L⟩,hO,wr⟩:=(Z.go (j.trans t)).AV C É;rw[g] at C3;have ev:v=v':=Xy (Xy C3);subst ev;obtain⟨a,ey,ha⟩:=FE ry;subst ey;have o:f a=À (.tup (kB k)):=ar _ _ _ _ ha;have G:f q=À (.dB YP):=nn.2
    have J:∀p xs,Rt f p xs->Rt (upd f q (.dB (putK YP k u))) p xs:=λp xs h=>by
     have hp:p≠q:=λw=>by
      subst w;have:=h.pl;rw[G] at this;cases this
     exact .inl (by rw[aC hp];exact h.pl)
    refine#[q,_,e1,NJ (k:=k) G o (by rw[bE L];exact de Q),?_];have r:Ý (DB X.K (.set s) (upd f q (.dB (putK YP k u)))) YP d.l:=bM (λ_ _ z=>#[z.1,PyT.free J z.2]) L;have m:Py.rp X.K (.set s) (upd f q (.dB (putK YP k u))) u c:=PyT.free (λp xs w=>J p xs (aG.rt ((ar _ _).trans t) w)) W
    obtain⟨Γ,σ⟩:=wr q (.inB (putK YP k u)) (À (.dpo (d.put k c))) nn.1 λV α=>by
     cases α;exact#[É,q,_,e1,.inl aQ,⟨nn.1,aQ⟩,Mh r m]
    exact n _ _ _ _ (by rw[show upd f q (HO.dB (putK YP k u))=upd f q (mo (.inB (putK YP k u))) from rfl,σ];exact ah (j.trans t)) Γ h])
end
end L2.EP
namespace L2
open PySem PySem.Spec PyProof.Rows
def Ko(tk tv:TE):TE:=λY H Q=>∀p,H p=none->tk Y (upd H p (.dB [])) λx H1=>tv Y H1 λv H2=>H2 p=À (.dB [])/\∃k b,x=.ref b/\H2 b=À (.tup (kB k))/\Q (.ref p) (upd H2 p (.dB [(k,v)]))
def Dr{X:Cx}{pos:ì}{ek ev:Ô}{tk tv:TE}(B:X.A.units<Ę)(E:PE X ek tk)(m:PE X ev tv):PE X (.Dict [À ek] [ev] pos) (Ko tk tv):=by
 intro Z2 s Y H Q I q;have C:=I.hok.fresh (Xm s.heap.objs.size);have G:=I.laid (a:=s.heap.objs.size) (o:=.dB []) (h':=s.heap.push {cls:=.type "dict",data:=.dict #[]}) (t':=s.toks) (λ_ _ q=>Xi _ q) (Xm _) (x6 s.heap I.big);refine wpAny_Dict_any rfl rfl .c .c (pairTrees_cons_walk (cj (E Z2 _ Y _ _ G (q _ C)) λu t ⟨x,H1,y,J,q1⟩=>cj (m Z2 t Y H1 _ y q1) λr K ⟨v,H2,d,F,e,k,b,ex,f,D⟩=>pairTrees_nil_walk ?_));subst ex;cases (show u=þ b from J);obtain⟨z,j,xs,rel,p⟩:=K3 d.hok e;cases rel;unfold storeAll;rw[ρ];refine W9 (W9 (wpAny_dictSet_heap (knd:=g5 X.prog X.w) (hsz:=Yc _) B (rk d.hok f) p λh' c n=>Xd ?_));dsimp only;rw[ϐ];obtain⟨o,es,ep,g,h2,i,h,_,l⟩:=c;refine Xd #[.ref s.heap.objs.size,upd H2 s.heap.objs.size (.dB [(k,v)]),rS (ob:=.dB [(k,v)]) d (by rw[e];exact É) n #[o,g] #[by rw[ZJ];simp,j,_,.cons #[rfl,?_,F] .nil,o,es,ep,g,h2,i,h,l],rfl,D];rwa[aC (Gr f e (λz=>nomatch z))]
end L2
namespace L2.EP
open PySem PySem.Spec PyProof.Rows
section
variable{X:Cx}{U:aI}{D:GD}{β:Type}[Py β]{ek ev:Ô}{b1 b2:Bool}{pos:ì}
def LY[PyT β]{k:Int×Bool}{c:β}(z:X.A.units+60<Ę)(u:E X U ek b1 k)(r:E X U ev b2 c):EN X U (.Dict [À ek] [ev] pos) (Db.mk [(k,c)]):=by
 stop
  exact aJ (Dr .b u r) λY H Q ⟨H0,F,O,Z,q⟩ p hp=>by
   have l:=cf hp (.dB []);refine#[H0,F,O,Z.go l,λx H1 i w=>#[H0,F,O,(Z.go l).go i,λy H2 d v=>?_]];obtain⟨a,ex,ha⟩:=FE w;have j:H2 a=À (.tup (kB k)):=d _ _ (ar _ _ _ _ ha);have b:H2 p=À (.dB []):=d _ _ (i _ _ aQ);have s:∀a o,H a=À o->a≠p:=λa o h e=>by rw[e,hp] at h;cases h
   refine#[b,k,a,ex,j,?_];have n:off (upd H2 p (.dB [(k,y)])) O p=À (.dB [(k,y)]):=by rw[aS (Z.mF hp)];exact aQ
   refine q _ _ (λa o h=>?_) #[p,[(k,y)],rfl,.inl n,#[hp,n],.cons #[rfl,?_] .nil]
   .rw[aC (s a o h)];exact d _ _ (i _ _ (l _ _ h))
   .refine PyT.free (λa xs t=>?_) v
    have m:a≠p:=λe=>by
     subst e;rcases t with h|⟨o,h⟩<;>· have:=(dn h).2;rw[b] at this;cases this
    rcases t with h|⟨o,h⟩
    .obtain⟨f,g⟩:=dn h;exact .inl (by rwa[aS f,aC m])
    .obtain⟨f,g⟩:=dn h;exact .inr #[o,by rwa[aS f,aC m]]
end
variable{k:Int×Bool}
def Db.ks{β:Type}(d:Db β):List (Int×Bool):=d.l.map (·.1)
def Db.NO{β:Type}{d:Db β}:(d.val k).isSome=Á↔k∈d.ks:=by
 unfold Db.val Db.ks;rw[aar,List.find?_isSome,Xs];constructor
 .rintro⟨u,a,e⟩;exact#[u,a,Xq e]
 .rintro⟨u,a,e⟩;exact#[u,a,XI e]
def Db.HM{β:Type}{d:Db β}{c:β}:(d.put k c).ks=if k∈d.ks then d.ks else d.ks++[k]:=by
 have e:((d.l.any λu=>decide (u.1=k))=Á)↔k∈d.ks:=by
  unfold Db.ks;rw[YI,Xs];constructor
  .rintro⟨u,a,e⟩;exact#[u,a,Xq e]
  .rintro⟨u,a,e⟩;exact#[u,a,XI e]
 unfold Db.put;by_cases h:k∈d.ks
 .rw[Xc h,Xc (e.mpr h)];unfold Db.ks;rw[ϴ];apply abn;intro u _;show(if u.1=k then (u.1,c) else u).1=u.1;split<;>rfl
 .rw[W_ h,W_ (λz=>h (e.mp z))];unfold Db.ks;rw[Y3];rfl
def Db.Js{β:Type}{d:Db β}{k':Int×Bool}{c:β}:k'∈(d.put k c).ks↔k'=k\/k'∈d.ks:=by
 rw[Db.HM];split
 .rename_i h;exact#[.inr,λz=>z.elim (λe=>e▸h) id]
 .rw[X2,Xv];exact#[λz=>z.elim .inr .inl,λz=>z.elim .inr .inl]
def Db.LH{β:Type}{d:Db β}{c:β}(h:d.ks.Nodup):(d.put k c).ks.Nodup:=by
 rw[Db.HM];split
 .exact h
 .rename_i f;rw[aaX];exact#[h,.c,λa ha b g e=>f (by rwa[<-Xv.mp g,<-e])]
def Db.Hq{β:Type}{d:Db β}:d.ks.length=d.l.length:=Xk _
section
variable{X:Cx}{U:aI}{D:GD}{M β γ:Type}[Py M][Py β][Py γ]{e e1 e2:Ô}{b b1 b2:Bool}{pos:ì}{rest st:List Ñ}
def IC[PyT M]{a:M}{k:Int}(ha:E X U e1 Á [a])(j:E X U e2 b2 k)(x:0<=k)(h1:k<=1000):EN X U (.BinOp e1 .Mult e2 pos) (È k.toNat a):=by
 rw[<-wz]
 stop
  exact aJ (yo Ht ha j) λY H Q ⟨H0,F,O,S,q⟩=>#[H0,F,O,S,λv H1 e i=>#[H0,F,O,S.go e,λw H2 c m=>by
    obtain⟨p,vs,e1,r,u,d⟩:=i;have h:H2 p=À (.lst vs):=c _ _ ((ar _ _) _ _ u.2);refine#[p,k,vs,e1,m,h,.b,.b,by rw[bE d];exact YF (de (show [a].length*k.toNat<=1000 by simp;lia)),λl b=>?_];obtain⟨g,f⟩:=cO (xs:=(È k.toNat vs).flatten) ((S.go e).go c) b
    have s:H l=none:=by
     cases n:H l with
     |none=>rfl
     |some o=>have:=c _ _ (e _ _ n);rw[b] at this;cases this
    exact q _ _ (e.trans (c.trans g)) #[l,_,rfl,dW.of f,#[s,f],AF (bM (λ_ _ z=>PyT.free (λp xs t=>aG.rt ((ah c).trans (ah g)) t) z) d) _]]]
def Eg{c:Bool}{post:M->Prop}(h:T X U e c)(ha:c=Á->EX X U e1 b post)(i:c=Â->EX X U e2 b post):EX X U (.IfExp e e1 e2 pos) b post:=by
 stop
  cases c with
  |true=>exact aJ (iZ h (ha rfl) qe) λY H Q ⟨H0,F,O,S,q⟩=>#[H0,F,O,S,λH1 d=>uh #[H0,F,O,S.go d,λa w H2 hz g f=>q a w H2 hz (d.trans g) f]]
  |false=>exact aJ (iZ h qe (i rfl)) λY H Q ⟨H0,F,O,S,q⟩=>#[H0,F,O,S,λH1 d=>uv #[H0,F,O,S.go d,λa w H2 hz g f=>q a w H2 hz (d.trans g) f]]
def iT{post:M->Prop}(he:EX X U e b post)(h:∀a,post a->D.rt (.val b a)):S X U (.Return (À e) pos::rest) D:=by stop exact dU (dS (GJ he) λf Y H ⟨H0,F,O,Z,n,r,_⟩=>#[H0,F,O,Z,λa v H1 hz c d=>r (.val b a) v H1 ((Z.go c).same) (aw (mR Z.fo) d) (h a hz)])
variable{δ ε:Type}[Py δ][Py ε]{e3 e4:Ô}{b3 b4:Bool}{p:ì}{k:Nat}{name:Ï}{ps:List Ï}
def F4{a:M}{post:M->Prop}(h:EX X U e b post)(hp:∀z,post z->z=a):E X U e b a:=by stop exact aJ h λY H Q ⟨H0,F,O,S,q⟩=>#[H0,F,O,S,λz v H' hz s' r=>q v H' s' (hp z hz▸r)]
def BL{pre:M->Prop}{f:M->β}{post:M->Prop}(C:aH X.prog X.w X.K X.mg X.base k name ps (cH X.K pre b f))(g:dP k X.A)(h:Gl X name)(h1:EX X U e1 b1 post)(hp:∀a,post a->pre a)
  (c:autoParam (Å [e1] X.env=(Â,Û e1 X.env)::Å [] X.env) zra) (d:autoParam ((name==("__debug__":Ï))=Â) zrb) (hpl:autoParam ((è pos (Å [] X.env)).any (·.1)=Â) zra):
  EX X U (.Call (.Name name p) [e1] [] pos) b (λr=>∃a,post a/\r=f a):=by
 stop
  obtain⟨n,fd,F,B,kp,m⟩:=C.ex
  exact aJ (eY F g h m kp B .nil jY (aB h1 a9 c) d c hpl) λY H Q ⟨H0,F,O,S,q⟩=>#[H0,F,O,S,λa l H1 ha e i =>
   #[O,l,a,(S.go e).own,rfl,bh bt i,hp a ha,λr H' s' j=>q _ r H' #[a,ha,rfl] (e.trans s') ((S.go e).back j)]]
def Ig{pre:M->β->γ->δ->Prop}{f:M->β->γ->δ->ε}{a:M}{c:β}{d:γ}{post:δ->Prop}(C:aH X.prog X.w X.K X.mg X.base k name ps (HY X.K pre b f))(y:dP k X.A)(n:Gl X name)(h1:E X U e1 b1 a)(h2:E X U e2 b2 c)(x:E X U e3 b3 d)(v:EX X U e4 b4 post)(hp:∀g,post g->pre a c d g)
  (l:autoParam (Å [e1,e2,e3,e4] X.env=(Â,Û e1 X.env)::Å [e2,e3,e4] X.env) zra) (u:autoParam (Å [e2,e3,e4] X.env=(Â,Û e2 X.env)::Å [e3,e4] X.env) zra) (s:autoParam (Å [e3,e4] X.env=(Â,Û e3 X.env)::Å [e4] X.env) zra) (t:autoParam (Å [e4] X.env=(Â,Û e4 X.env)::Å [] X.env) zra)
  (o:autoParam ((name==("__debug__":Ï))=Â) zrb) (hpl:autoParam ((è pos (Å [e2,e3,e4] X.env)).any (·.1)=Â) zra):
  EX X U (.Call (.Name name p) [e1,e2,e3,e4] [] pos) b (λr=>∃g,post g/\r=f a c d g):=by
 stop
  obtain⟨R,fd,F,B,kp,m⟩:=C.ex
  exact aJ (eY F y n m kp B .nil jY (aB h1 (aB h2 (aB x (aB v a9 t) s) u) l) o l hpl) λY H Q ⟨H0,F,O,S,q⟩=>#[H0,F,O,S,λN H1 j G=>#[H0,F,O,S.go j,λI H2 e J=>#[H0,F,O,S.go (j.trans e),λz T h α=>#[H0,F,O,S.go (j.trans (e.trans h)),λg v4 P n i D =>
   #[O,N,I,z,v4,a,c,d,g,(S.go (j.trans (e.trans (h.trans i)))).own,rfl,bh bt (aw ((ah e).trans ((ah h).trans (ah i))) G),bh bt (aw ((ah h).trans (ah i)) J),bh bt (aw (ah i) α),bh bt D,hp g n,λr H' s' L=>q _ r H' #[g,n,rfl] (j.trans (e.trans (h.trans (i.trans s')))) ((S.go (j.trans (e.trans (h.trans i)))).back L)]]]]]
end
def Jn{X:Cx}{β:Type}[Py β]{d:Db β}(b:X.A.units+60<Ę):CV X .NotIn k d (!(d.val k).isSome):=#[_,Jx .b,λN N' H u v Q h1 h2 q=>by
 obtain⟨p,YP,rfl,rd,n,r⟩:=h2;obtain⟨a,rfl,ha⟩:=FE h1;refine#[p,lL YP k,rfl,.inr (.inr #[YP,k,a,rd,rfl,ha,rfl]),?_];rw[Im k r]
 exact q]
open PySem PySem.Spec PyProof.Rows L2.Sx
section
variable{X:Cx}{U:aI}{D:GD}{M β γ:Type}[Py M][Py β][Py γ]{e e1 e2 ek ev ek2 ev2:Ô}{b b1 b2 b3 b4:Bool}{pos:ì}{rest st:List Ñ}
end
end L2.EP
namespace L2.Sx
open PySem PyProof.Rows PySem.Spec PySem.W PySem.Calls
section
variable{p:Ð}{w:Ú}{A:à}{E:Ä->Æ->Prop}{s:Æ}{d:Ç}{YP:List (Key×Ä)}
end
end L2.Sx
namespace L2.EP
open PySem PySem.Spec PyProof.Rows L2.Sx
section
variable{X:Cx}{U:aI}{D:GD}{M β γ:Type}[Py M][Py β][Py γ]{e e1 e2 ek ev ek2 ev2:Ô}{b b1 b2 b3 b4:Bool}{pos:ì}{rest st:List Ñ}
end
open PySem PySem.Spec PyProof.Rows
@[irreducible] def Sv{M:Type}[Py M](X:Cx)(U:aI)(e:Ô)(post:M->Prop):Prop:=PE X e λY H Q=>∃H0 F O,dM X.K H0 F O U Y H/\∀a v H',post a->aG H H'->Py.rp X.K (.new H) (off H' O) v a->Q v H'
section
variable{X:Cx}{U:aI}{D:GD}{M β γ:Type}[Py M][Py β][Py γ]{e e1 e2:Ô}{b b1 b2:Bool}{pos p:ì}{rest st:List Ñ}{k:Nat}{name:Ï}{ps:List Ï}
def IG(i:Nat){x:Ï}{post:M->Prop}{p:ì}(f:X.N.Nodup)(he:Sv X U e post)(h:∀a,post a->S X (U.set i (À (.dpo a))) rest D)(hi:autoParam (X.N[i]?=À x) zra)(j:autoParam (Loc X.env.scope x) zri)
  (k:autoParam (õ e (À (.Name x p)) pos.line X.env=pure Â) zra) (d:autoParam (X.fn x=Á\/X.env.scope.names.lookup x=À .local) zrd):S X U (.Assign [.Name x p] e pos::rest) D:=by
 stop
  exact dU (dS (sC f hi j he k d) λo Y H ⟨H0,F,O,Z,n,_⟩=>#[H0,F,O,Z,λa v H1 hz c l=>by
    obtain⟨m,g⟩:=Z.Ab (i:=i) (v:=v) c (λq=>H q=none/\∃xs:Mt,H1 q=À (mo xs)) (λq z=>z) (Bd.dpo a) É (by
     refine Py.tr (λq xs b nn=>?_) (λq xs b=>aG.rt (ar _ _) b) l;have:=(ar _ _) _ _ nn.2
     exact⟨Mo.of this,⟨nn.1,xs,this⟩,this⟩)
    exact n _ _ _ _ g m (h a hz)])
end
end L2.EP
namespace L2.Srt
open PySem PyProof.Rows
def O_:Code->Option Ä->Option Bool
 |.call (.builtin id) ⟨[.int a _,.int b _],[]⟩,none=>bif id=="int.__lt__" then À (decide (a<b)) else none
 |_,_=>none
def ev(S:Setting){M:Type}(t:Sem M):Option M :=
 Sem.rec (motive:=λ_=>Option M) À (λ_=>none) (λ_=>none) (λ_=>none)
  (λ_ _ a=>a ()) (λ_ _ _=>none) (λ_ _ _ _=>none) (λ_ _ _ _ _=>none) (λ_ _ _=>none) (λ_ _ _=>none) (λ_ _ _=>none) (λ_ _ _=>none) (λ_ _=>none)
  (λ_ a=>a S) (λ_ _ _ _=>none) (λ_ _ _ _=>none) (λc h _ _ _ a=>(O_ c h).elim none λb=>a (.ok (.ret (.bool b))))
  (λ_ _ _=>none) (λ_ _ _=>none) (λ_ _ _=>none) (λ_ _ _ _ _=>none) (λ_ _ _ _ _=>none) (λ_ _=>none) (λ_ _ _=>none) (λ_ _=>none) (λ_ _ _ _ _ _=>none) t
section
variable{w:Ú}{prog:Ð}{s:Æ}{E:Ä->Æ->Prop}{A:à}
def Mf{c:Code}{h:Option Ä}{b:Bool}(e:O_ c h=À b):h=none/\∃x t y u,c=.call (.builtin "int.__lt__") #[[.int x t,.int y u],[]]/\b=decide (x<y):=by
 unfold O_ at e;split at e
 .rename_i id x t y u;cases z:id=="int.__lt__"
  .rw[z] at e;cases e
  .rw[z] at e;cases e;cases eq_of_beq z;exact#[rfl,_,_,_,_,rfl,rfl]
 .cases e
def OI{M:Type}{Q:M->Æ->Prop}{a:M}(t:Sem M)(e:ev #[prog,w.params] t=À a)(q:Q a s):Í (Î prog w) A t Q E s:=by
 intro U p g
 induction t with
 |pure b=>cases e;exact q
 |rule _ k d=>exact d () e
 |ask k d=>exact d _ e
 |call c h _ _ k d =>
  have e:(O_ c h).elim none (λb=>ev #[prog,w.params] (k (.ok (.ret (.bool b)))))=À a:=e;cases f:O_ c h with
  |none=>rw[f] at e;cases e
  |some b =>
   rw[f] at e;obtain⟨rfl,x,t,y,u,rfl,rfl⟩:=Mf f
   have z:Ē (Î prog w) A (.call (.builtin "int.__lt__") #[[.int x t,.int y u],[]]) (λr s'=>r=.ok (.ret (.bool (decide (x<y))))/\s'=s) s:=by
    refine ξ slot_int_lt.plain entry_int_lt (slot_int_lt.check _ _ _ _ _ _ _ _ (Ō s x t) (args_int_lt _ _) ?_);exact Xd #[rfl,rfl]
   refine Ϸ z (λr s' h=>?_) _ p rfl (g.enter _ none p (by intro x;cases x));obtain⟨rfl,rfl⟩:=h;exact d _ e
 |_=>cases e
def F7:List Int:=[2,3,5,7,11,13].foldl (λl p=>l++l.map (·*p)) [1,-1]
def oE(n:Int):Int:=if n<0 then -n else n
def sg:List Nat:=[0,1,2,3,4,5,8,9,6,7,16,17,10,11,32,33,64,65,18,19,12,13,20,21,34,35,66,67,14,15,36,37,24,25,68,69,22,23,40,41,72,73,38,39,26,27,48,49,70,71,80,81,28,29,42,43,74,75,96,97,50,51,44,45,82,83,76,77,30,31,52,53,84,85,98,99,46,47,56,57,78,79,100,101,88,89,54,55,86,87,104,105,58,59,102,103,90,91,112,113,60,61,92,93,106,107,114,115,108,109,62,63,94,95,116,117,110,111,120,121,118,119,122,123,124,125,126,127]
def lk(T Γ:Nat->Ϝ):List Keyed:=F7.zipIdx.map λp=>(.int (oE p.1) (T p.2),.int p.1 (Γ p.2))
def S0(prog:Ð)(pr:ő)(b:Bool):Setting:=#[prog,{pr with followText:=λs=>bif s=="special-get-raises" then b else pr.followText s}]
def Nx(pr:ő)(b:Bool)(T Γ:Nat->Ϝ):((ev (S0 prog pr b) (sortRuns' (Ϫ oneType' (lk T Γ).toArray #[] 7 none))).map λx=>(Ń x.2,failedOf x.2))=À ((sg.map λi=>(lk T Γ).getD i (.none,.none)).toArray,none):=by
 cases b<;>kernel_rfl
def OV(T Γ:Nat->Ϝ):lk T Γ=(Ò 128).map λi=>(lk T Γ).getD i (.none,.none):=by kernel_rfl
def Jg:sg.Perm (Ò 128):=by decide +kernel
def Pf(prog:Ð)(pr:ő):(#[prog,pr]:Setting)=S0 prog pr (pr.followText "special-get-raises"):=by
 have:pr.followText=λs=>bif s=="special-get-raises" then pr.followText "special-get-raises" else pr.followText s:=by
  funext s;cases z:s=="special-get-raises"
  .rfl
  .cases eq_of_beq z;rfl
 unfold S0;rw[<-this]
def MW(T Γ:Nat->Ϝ):wpS (Î prog w) A E s sortRuns' (λ_ st=>failedOf st=none/\(Ń st).toList.Perm (lk T Γ)) (Ϫ oneType' (lk T Γ).toArray #[] 7 none):=by
 obtain⟨x,e,z⟩:=Option.map_eq_some_iff.mp (Nx (prog:=prog) w.params (w.params.followText "special-get-raises") T Γ);rw[<-Pf] at e;have a:=congrArg Prod.fst z;have b:=congrArg ώ z;dsimp only at a b;refine OI _ e #[rfl,b,?_];rw[a]
 conv=>rhs;rw[OV]
 rw[List.toList_toArray];exact Jg.map _
def BA{vs:List Ä}{ns:List Int}(h:í vs ns):∃Γ:Nat->Ϝ,vs=ns.zipIdx.map λp=>.int p.1 (Γ p.2):=by
 refine#[λi=>match vs.getD i .none with|.int _ t=>t|_=>0,abL λi=>?_];rw[Xw,List.getElem?_zipIdx];cases e:ns[i]? with
 |none=>exact abV.mpr (h.length▸abV.mp e)
 |some n =>
  obtain⟨t,a⟩:=h.get i n e;simp[a]
variable{vs:List Ä}{ns:List Int}{a kS l:Ç}{keys:Array Ä}{e e1:Nat}{P:PySem.Fin->Æ->Prop}{Q:Ä->Æ->Prop}
theorem yh:∀{vs:List Ä},(∀v∈vs,∃n t,v=ă n t)->í vs (vs.map numOf)
 |[],_=>.nil
 |v::vs,h=>by
  obtain⟨n,t,rfl⟩:=h v (Xo ..);exact .cons n t (yh λu a=>h u (Xj _ a))
def Dh{us vs:List Ä}{ns:List Int}(h:us.Perm vs)(a:í vs ns):∃b,í us b/\b.Perm ns:=by
 refine#[us.map numOf,yh λv c=>a.all v (h.mem_iff.mp c),?_];rw[<-a.nums];exact h.map _
def Kp(a kS:Ç)(h h':ß):Prop:=∀b o,b≠a->b≠kS->h.get? b=À o->h'.get? b=À o
def N6{st:SortSt}(n:s.heap.get? kS=À (ã "list" keys e))(l:s.heap.get? a=À (ã "list" #[] e1))(f:kS≠a)(hz:keys.size<=1000)(g:(Ń st).size<=1000)(i:failedOf st=none)
  (h:∀h' tk c,Kp a kS s.heap h'->h'.get? a=À (ã "list" ((Ń st).map (·.2)) c)->P (.done (.ret .none)) {s with heap:=h',toks:=tk}):Í (Î prog w) A (ksk_tail a Â e1 (.ref kS) st) P E s:=by
 have k:=X4 s.heap kS (Ù λ_=>(#[]:Array Ä));have d:(s.heap.update kS (Ù λ_=>(#[]:Array Ä))).get? a=À (ã "list" #[] e1):=(k.2 a f.symm).trans l;have m:=X4 (s.heap.update kS (Ù λ_=>(#[]:Array Ä))) a (Ù λ_=>(Ń st).map (·.2));obtain⟨c2,j⟩:∃c2,((s.heap.update kS (Ù λ_=>(#[]:Array Ä))).update a (Ù λ_=>(Ń st).map (·.2))).get? a=À (ã "list" ((Ń st).map (·.2)) c2):=#[_,aaI d λ_=>(Ń st).map (·.2)];have q:((Ń st).map (·.2)).size<=1000:=by rwa[Array.size_map]
 unfold ksk_tail;dsimp only;refine W9 (abC n rfl ?_ (by rw[ZJ];lia) (Yc _));refine W9 (wpAny_letGo (W9 (seqEpoch_at d rfl ?_)));refine W9 (abC d rfl ?_ (Yc _) (by show((Ń st).map (·.2)).size<=_;rw[ZJ];lia));rw[i];simp only[ZT,Zm,bne_self_eq_false];refine Xd (h _ _ c2 (λb o b1 b2 p=>?_) j);exact(m.2 b b1).trans ((k.2 b b2).trans p)
def s_end(m:s.heap.get? kS=À (ã "list" keys e))(k:s.heap.get? a=À (ã "list" #[] e1))(d:kS≠a)(f:í keys.toList (F7.map oE))(g:í vs F7)
  (h:∀h' tk b c,Kp a kS s.heap h'->h'.get? a=À (ã "list" b c)->b.toList.Perm vs->P (.done (.ret .none)) {s with heap:=h',toks:=tk}):Í (Î prog w) A (ksk_end a Â vs.toArray e1 (.ref kS) keys) P E s:=by
 have p:vs.length=128:=g.length;have hsz:keys.size=128:=(XJ (xs:=keys)).symm.trans f.length;obtain⟨Γ,i⟩:=BA g;obtain⟨T,o⟩:=BA f
 have hz:keys.zip vs.toArray=(lk T Γ).toArray:=by
  have e:(keys.zip vs.toArray).toList=lk T Γ:=by
   rw[ksk_zip,o,i]
   kernel_rfl
  rw[<-e]
 unfold ksk_end;dsimp only;rw[W_ .a,W_ (by rw[XB];lia),W_ (by rw[XB];lia),ksk_kind f .b,hz];refine W9 (Xd (W9 (Zq (MW T Γ) ?_ λ_ _ z=>z)));rintro⟨⟨⟩,n⟩ s' ⟨rfl,j,hp⟩;dsimp only;refine N6 m k d .b (by rw[<-XJ,hp.length_eq];show 128<=1000;lia) j λh' tk c kp l=>h h' tk _ c kp l ?_;have q:=hp.map ώ;rw[Array.toList_map];have e2:(lk T Γ).map ώ=vs:=by rw[i];kernel_rfl
 rwa[e2] at q
def ID{us:List Ä}{b:List Int}{j:Nat}{x:Ä}(h:í us b)(a:us[j]?=À x):∃n t,x=ă n t/\b[j]?=À n:=by
 induction h generalizing j with
 |nil=>cases a
 |cons n t _ c =>
  cases j with
  |zero=>cases a;exact#[n,t,rfl,rfl]
  |succ j=>exact c a
def L6(α:s.heap.get? kS=À (ã "list" #[] 0))(J:s.heap.get? a=À (ã "list" #[] e1))(m:kS≠a)(p:í vs F7)
  (h:∀h' tk g c,Kp a kS s.heap h'->h'.get? a=À (ã "list" g c)->g.toList.Perm vs->P (.done (.ret .none)) {s with heap:=h',toks:=tk}):Í (Î prog w) A (ksk_rest a (.builtin "abs") Â vs.toArray e1 (.ref kS)) P E s:=by
 have N:vs.length=128:=p.length;unfold ksk_rest;refine W9 (ŋ ?_);rw[List.forIn_toArray];refine W9 (ksk_fold (λi s'=>∃h' tk f e,s'={s with heap:=h',toks:=tk}/\Kp a kS s.heap h'/\h'.get? kS=À (ã "list" f e)/\h'.get? a=À (ã "list" #[] e1)/\í f.toList ((F7.map oE).take i)) vs 0 s #[s.heap,s.toks,#[],0,rfl,λ_ _ _ _ z=>z,α,J,IntsAre.nil] ?_ ?_)
 .rintro j x s' G ⟨h',tk,f,e,rfl,kp,d,k,l⟩;simp only[Nat.zero_add] at l ⊢;obtain⟨n,t,rfl,v⟩:=ID p G;have Q:j<vs.length:=(Xl.mp G).1;have B:(F7.map oE)[j]?=À (oE n):=by rw[Xw,v];rfl
  have hz:f.size<=1000:=by
   have h1:=l.length;rw[XJ,Y8] at h1;lia
  refine W9 (ϸ (call_abs_int λu L=>?_));dsimp only;have H:=X4 h' kS (Ù (·.push (.int (oE n) u)));obtain⟨c2,C⟩:∃c2,(h'.update kS (Ù (·.push (.int (oE n) u)))).get? kS=À (ã "list" (f.push (.int (oE n) u)) c2):=#[_,aaI d (·.push (.int (oE n) u))];have ek:(F7.map oE).take (j+1)=(F7.map oE).take j++[oE n]:=by rw[Y2,B];rfl
  have O:(f.push (ă (oE n) u)).toList=f.toList++[ă (oE n) u]:=abI ..;refine W9 (abC d rfl ?_ (by rw[ZJ];lia) (X8 (acH (Array.size_push ..)) (by rw[ZJ];lia)));refine Xd #[rfl,_,_,f.push (.int (oE n) u),c2,rfl,λb o b1 b2 y=>(H.2 b b2).trans (kp b o b1 b2 y),C,(H.2 a m.symm).trans k,by rw[O,ek];exact ksk_snoc l]
 .rintro s' ⟨h',tk,f,e,rfl,kp,d,k,l⟩
  have r:í f.toList (F7.map oE):=by
   rw[ZL (show(F7.map oE).length<=_ by rw[Nat.zero_add,N];decide)] at l;exact l
  refine W9 (listItems_at d rfl ?_);exact s_end d k m r p λI D g c F q K=>h I D g c (λb o b1 b2 y=>F b o b1 b2 (kp b o b1 b2 y)) q K
def MA{n:Nat}(g:s.heap.get? a=À (ã "list" vs.toArray n))(j:í vs F7)
  (h:∀h' tk d c,(∀b o,b≠a->s.heap.get? b=À o->h'.get? b=À o)->h'.get? a=À (ã "list" d c)->d.toList.Perm vs->P (.done (.ret .none)) {s with heap:=h',toks:=tk}):Í (Î prog w) A (ksk_tree a (.builtin "abs") Â) P E s:=by
 have q:vs.length=128:=j.length;have ha:a<s.heap.objs.size:=Xr g;have p:=X4 s.heap a (Ù λ_=>(#[]:Array Ä));obtain⟨e1,f⟩:∃e1,(s.heap.update a (Ù λ_=>(#[]:Array Ä))).get? a=À (ã "list" #[] e1):=#[_,aaI g λ_=>#[]];have e:((s.heap.update a (Ù λ_=>(#[]:Array Ä))).push (ã "tuple" vs.toArray 0)).objs.size=s.heap.objs.size+1:=by rw[size_push',Ψ]
 unfold ksk_tree;refine W9 (listItems_at g rfl ?_);refine W9 (abC g rfl ?_ (by rw[XB,ZJ];lia) (Yc _));refine W9 (seqEpoch_at f rfl (W9 (wpAny_newTuple ?_ (by show vs.length<=_;rw[ZJ];lia))));refine W9 (abx ?_ (Yc _));refine YZ ?_;refine L6 (s:={s with heap:=((s.heap.update a (Ù λ_=>(#[]:Array Ä))).push (ã "tuple" vs.toArray 0)).push (ã "list" #[] 0)}) (kS:=((s.heap.update a (Ù λ_=>(#[]:Array Ä))).push (ã "tuple" vs.toArray 0)).objs.size) (Xz _ rfl) (Xi _ (Xi _ f)) (by rw[e];exact abX (YN ha)) j ?_;intro h' tk d c kp m l;refine h h' tk d c (λb o b1 k=>?_) m l;have i:b<s.heap.objs.size:=Xr k;exact kp b o b1 (by rw[e];exact XS (YN i)) (Xi _ (Xi _ ((p.2 b b1).trans k)))
def EF(j:s.heap.IsList l vs.toArray)(f:í vs F7)
  (h:∀h' tk d c,(∀b o,s.heap.get? b=À o->h'.get? b=À o)->h'.get? (s.heap.objs.size+1)=À (ã "list" d c)->d.toList.Perm vs->Q (.ref (s.heap.objs.size+1)) {s with heap:=h',toks:=tk}):Í (Î prog w) A (call (.builtin "sorted") [.ref l] [(ñ "key",.builtin "abs")]) Q E s:=by
 have n:vs.length=128:=f.length;refine call_function_entry_kw kind_sorted plain_sorted entry_sorted (ksk_s1 _ _) ?_;unfold č.«sorted»;refine W9 (m:=checkCount "sorted" 1 1 _) (Xd (W9 (collect_list j ?_ (by rw[ZJ];lia))));refine W9 (abx ?_ (by rw[ZJ];lia));have hsz:((s.heap.push (ã "list" #[] 0)).update s.heap.objs.size (Ù (·++vs.toArray))).objs.size=s.heap.objs.size+1:=by rw[Ψ,size_push']
 have e:(((s.heap.push (ã "list" #[] 0)).update s.heap.objs.size (Ù (·++vs.toArray))).push (ã "list" vs.toArray 0)).get? (s.heap.objs.size+1)=À (ã "list" vs.toArray 0):=by rw[<-hsz];exact Xz _ rfl
 have keep:∀b o,s.heap.get? b=À o->(((s.heap.push (ã "list" #[] 0)).update s.heap.objs.size (Ù (·++vs.toArray))).push (ã "list" vs.toArray 0)).get? b=À o:=λb o q=>by
  have a:b<s.heap.objs.size:=Xr q;rw[Η _ _ _ (by rw[hsz];exact XS (YN a)),Heap.get?_update_ne _ _ _ _ (XS a),Η _ _ _ (XS a)];exact q
 show Í _ _ _ _ _ {s with heap:=((s.heap.push (ã "list" #[] 0)).update s.heap.objs.size (Ù (·++vs.toArray))).push (ã "list" vs.toArray 0)};rw[hsz];refine W9 (YZ (wpAny_call_entry_kw slot_list_sort #[_,e,rfl] entry_list_sort ?_ (ksk_l1 _ _)));rw[ksk_t4];refine MA e f λh' tk d c kp k i=>#[_,rfl,?_];refine Xd #[_,rfl,h h' tk d c (λb o g=>kp b o (λz=>?_) (keep b o g)) k i];have a:b<s.heap.objs.size:=Xr g;rw[z] at a;exact absurd a (aaA.mpr (Z6 _))
end
end L2.Srt
namespace L2.EP
open PySem PySem.Spec PyProof.Rows
section
variable{X:Cx}{U:aI}{e:Ô}{b:Bool}{p q kp pos:ì}{t:TA}
def Sq(K:Ã)(xs:List V)(H:Hp)(Q:VK):Prop:=∃p,∃ns:List Int,xs=[.ref p]/\dW K H p (ns.map V.int)/\ns=L2.Srt.F7/\∀l (a:List Int),H l=none->a.Perm ns->Q (.ref l) (upd H l (.lst (a.map V.int)))
def AA{Z2:List (Ç×û)}{s:Æ}{Y:St}{H:Hp}{xs:List V}{us:List Ä}{Q:VK}(I:Inv X Z2 Y H s)(r:Vals xs us)(h:Sq X.K xs H Q):Í .E X.A (call (.builtin "sorted") us [(ñ "key",.builtin "abs")]) (EP X Z2 Y Q) X.xe s:=by
 obtain⟨p,ns,rfl,f,rfl,q⟩:=h;obtain⟨u,rfl,k⟩:=vals1 r;cases k;obtain⟨XV,j,pl,_⟩:=I.list f;have hi:=intsAre_of j;refine L2.Srt.EF pl.isList hi λh' tk b c kp i e=>?_;obtain⟨a,g,d⟩:=L2.Srt.Dh e hi
 have lo:(a.map V.int).length<=sizeLine:=by
  rw[Xk,d.length_eq];decide
 exact#[.ref (s.heap.objs.size+1),_,I.laid (t':=tk) (o:=.lst (a.map V.int)) kp (Z6 _) #[lo,b.toList,c,wY g,i],rfl,q _ a (I.hok.fresh (Z6 _)) d]
def G0(d:Gl X "sorted")(f:X.mg "sorted"=none)(a:Gl X "abs")(b:X.mg "abs"=none)(ha:PA X [e] t)(he:autoParam (Å [e] X.env=(Â,Û e X.env)::Å [] X.env) zra):
  PE X (.Call (.Name "sorted" p) [e] [#[À (ñ "key"),.Name "abs" q,kp]] pos) (λY H Q=>t Y H λvs H1=>Sq X.K vs H1 Q):=by
 intro Z2 s Y H Q I h;refine Zk (hV I d f boot_sorted ?_);refine callWith_kw (cj (ha pos Z2 s Y H _ I h) λus i ⟨vs,H1,c,g,q1⟩=>?_) (by rw[he];rfl) (by rw[he];rfl);refine kws_cons (hV c a b boot_abs (kws_nil ?_));exact AA c g q1
def EB{ns:List Int}(o:Gl X "sorted")(s:X.mg "sorted"=none)(g:Gl X "abs")(d:X.mg "abs"=none)(ha:E X U e b ns)(h2:ns=L2.Srt.F7)(h:autoParam (Å [e] X.env=(Â,Û e X.env)::Å [] X.env) zra):
  EX X U (.Call (.Name "sorted" p) [e] [#[À (ñ "key"),.Name "abs" q,kp]] pos) Á (λc:List Int=>c.Perm ns):=by
 stop
  exact aJ (G0 o s g d (aB ha a9 h) h) λY H Q ⟨H0,F,O,S,q⟩=>#[H0,F,O,S,λv H1 f t=>by
    obtain⟨p,vs,e,j,n,r⟩:=t;rw[sJ r] at j;refine#[p,ns,by rw[e],(ar _ _).seq j,h2,λl c a k=>?_];obtain⟨w,i⟩:=cO (xs:=c.map V.int) (S.go f) a;refine q c _ _ k (f.trans w) #[l,_,rfl,dW.of i,Nf.wk (b:=Á) ((S.go f).iq a) i,?_];generalize c=m
    induction m with
    |nil=>exact .nil
    |cons x m u=>exact .cons rfl u]
def Q3(K:Ã)(neg:Bool):R2:=λx y H Q=>∃p xs d ds,y=.ref p/\dW K H p xs/\DR K H x d/\Dn K H xs ds/\d.canLay0=Á/\ë ds=Á/\d.depth<=50/\Q (.bl (if neg then !(ds.any λe=>é e d) else ds.any λe=>é e d)) H
theorem yY{h:ß}:∀{us:List Ä} {ds:List ý} {as:List Ç},ReadsAll h us ds as->ë ds=Á->∀u∈us,∃c cs,ϫ h u c cs/\c.canLay0=Á/\c∈ds
 |_,_,_,.nil,_,u,d=>by cases d
 |_,_,_,.cons r f,e,u,d=>by
  rw[ë,XW] at e;rcases Xa.mp d with rfl|d
  .exact#[_,_,r,e.1,Xo ..]
  .obtain⟨c,cs,a,b,m⟩:=yY f e.2 u d;exact#[c,cs,a,b,Xj _ m]
theorem uL{h:ß}{f:Ä->Bool}{g:ý->Bool}:∀{us:List Ä} {ds:List ý} {as:List Ç},ReadsAll h us ds as->ë ds=Á->(∀u c cs,ϫ h u c cs->c.canLay0=Á->f u=g c)->us.any f=ds.any g
 |_,_,_,.nil,_,_=>rfl
 |_,_,_,.cons r b,a,k=>by
  rw[ë,XW] at a;rw[Zi,Zi,k _ _ _ r a.1,uL b a.2 k]
def eD(h:ß)(d:ý)(w:Ä):Bool:=open Classical in decide (∃c cs,ϫ h w c cs/\c.canLay0=Á/\é c d=Á)
def PD{h:ß}{d c:ý}{w:Ä}{cs:List Ç}(r:ϫ h w c cs)(lc:c.canLay0=Á):eD h d w=é c d:=by
 unfold eD;cases z:é c d with
 |true=>exact @XI _ (Ķ _) #[c,cs,r,lc,z]
 |false =>
  refine @XH _ (Ķ _) ?_;rintro⟨c',a,e,f,b⟩;have:=SeqAt.Reads.unique c c' w cs a lc r e;rw[<-this,z] at b;cases b
def C8(t:X.A.units+60<Ę){neg:Bool}{op:ŕ}(m:op=if neg then .NotIn else .In):k5 X (ä op) (Q3 X.K neg):=by
 intro Z2 s Y H x y v u Q I f o h;obtain⟨p,xs,d,ds,rfl,i,g,j,c1,c2,dp,q⟩:=h;cases o;obtain⟨XV,r,pl,hz⟩:=I.list i;obtain⟨as,k⟩:=g.reads I f;obtain⟨bs,a⟩:=j.reads I r;have key:∀w c cs,ϫ s.heap w c cs->c.canLay0=Á->eD s.heap d w=é c d:=λw c cs n lc=>PD n lc
 have he:∀w,w∈XV.toArray->Ş X.A.in1 s w v (eD s.heap d w):=λw l=>by
  obtain⟨c,cs,rc,lc,_⟩:=yY a c2 w ↑l;rw[key w c cs rc lc];refine SeqAt.eqAt_reads c d X.A.in1 s w v cs as rc k lc c1 ?_;have h1:=π c.depth d.depth;have h2:X.A.in1.units=X.A.units+1:=rfl;lia
 have b:XV.toArray.any (eD s.heap d)=ds.any λe=>é e d:=by
  rw[show XV.toArray.any (eD s.heap d)=XV.any (eD s.heap d) by simp];exact uL a c2 key
 subst m;cases neg
 .exact Λ _ pl.isList he #[.bl _,H,I,rfl,by rwa[b]]
 .exact ŝ _ pl.isList he #[.bl _,H,I,rfl,by rwa[b]]
def Jq{M:Type}[PyD M]{a:M}{as:List M}{c:Bool}(h:c=Á↔a∈as):((as.map PyD.dat).any λe=>é e (PyD.dat a))=c:=by
 rw[Yk,h,YI];constructor
 .rintro⟨x,d,e⟩;obtain⟨b,f,rfl⟩:=Xs.mp d;rwa[<-(PyD.eqv b a).mp e]
 .intro m;exact#[_,List.mem_map_of_mem m,(PyD.eqv a a).mpr rfl]
def Kj{M:Type}[PyD M]{a:M}{as:List M}{c:Bool}(b:X.A.units+60<Ę)(f:PyD.dep M<=50)(h:c=Á↔a∈as):CV X .NotIn a as (!c):=#[_,C8 b (neg:=Á) rfl,λN N' H u v Q h1 h2 q=>by
 obtain⟨p,vs,e,d,n,r⟩:=h2
 exact#[p,vs,_,_,e,d,PyD.dr h1,sM r,PyD.lay a,t9 as,X8 (PyD.depth a) f,by rwa[Jq h]]]
end
def Jo{β:Type}[Py β](K:Ã)(b:Bool)(post:β->Prop):Sp:=λvs H Q _=>∃O,oR H O/\vs=[]/\∀z r H',post z->aG H H'->Py.rp K (Nf H b) (off H' O) r z->Q r H'
section
variable{X:Cx}{U:aI}{β:Type}[Py β]{b:Bool}{p pos:ì}{k:Nat}{name:Ï}{ps:List Ï}
def E6{post:β->Prop}(C:aH X.prog X.w X.K X.mg X.base k name ps (Jo X.K b post))(d:dP k X.A)(c:Gl X name)(a:autoParam ((name==("__debug__":Ï))=Â) zrb):
  EX X U (.Call (.Name name p) [] [] pos) b post:=by stop obtain⟨f,fd,F,B,kp,m⟩:=C.ex;exact aJ (EC F d c m kp B .nil jY a) λY H Q ⟨H0,F,O,S,q⟩=>#[O,S.own,rfl,λz r H' hz s' e=>q z r H' hz s' (S.back e)]
variable{P:Ð}{w:Ú}{K:Ã}{mg:Ï->Option Ä}{base:ß}{N:List Ï}{x qual:Ï}{st:Ñ}{f:Ç}{fd:ð}
def QV{β:Type}[Py β]{b:Bool}{post:β->Prop}(F:uf K x qual st f fd)(g:ak N ps (ag st))(d:ps.length=0)(B:⇑Body N qual st f k [] (ug b post)):⇑fU pd (k+1) f fd ps (Jo K b post):=by
 stop
  refine F.ok g (λvs H Q E h=>?_) λa A outer s H vs Q E c h=>?_
  .obtain⟨O,_,rfl,_⟩:=h;rw[d];rfl
  .obtain⟨O,e,rfl,q⟩:=h;exact lB B c e .nil q
variable{D:GD}{M γ δ ε:Type}[Py M][Py γ][Py δ][Py ε]{e e1 e2 e3 e4:Ô}{b1 b2 b3 b4:Bool}{rest:List Ñ}
def Dz{pre:M->Prop}{post:M->β->Prop}{a:M}(C:aH X.prog X.w X.K X.mg X.base k name ps (eF X.K pre Á post))(e:dP k X.A)(f:Gl X name)(h1:E X U e1 b1 a)(hp:pre a)
  (b:autoParam (Å [e1] X.env=(Â,Û e1 X.env)::Å [] X.env) zra) (c:autoParam ((name==("__debug__":Ï))=Â) zrb) (hpl:autoParam ((è pos (Å [] X.env)).any (·.1)=Â) zra):
  Sv X U (.Call (.Name name p) [e1] [] pos) (post a):=by
 stop
  obtain⟨j,fd,F,B,kp,m⟩:=C.ex
  exact aJ (eY F e f m kp B .nil jY (aB h1 a9 b) c b hpl) λY H Q ⟨H0,F,O,S,q⟩=>#[H0,F,O,S,λi H1 d g =>
   #[O,i,a,(S.go d).own,rfl,bh bt g,hp,λz r H' hz s' h=>q z r H' hz (d.trans s') (kc d h)]]
def Nr{post:Option M->Prop}{post':M->Prop}(h:EX X U e b post)(hp:∀o,post o->∃a,o=À a/\post' a):EX X U e b post':=by
 stop
  exact aJ h λY H Q ⟨H0,F,O,S,q⟩=>#[H0,F,O,S,λo v H' hz s' r=>by
   obtain⟨a,rfl,ha⟩:=hp o hz
   exact q a v H' ha s' r]
def wK[PyT M]{xs:List M}{p:ì}(i:Gl X "list")(j:X.mg "list"=none)(ha:E X U e b (A3.mk xs))(d:autoParam (Å [e] X.env=(Â,Û e X.env)::Å [] X.env) zra):E X U (.Call (.Name "list" p) [e] [] pos) Á xs:=by
 stop
  exact aJ (vi nu i j aaZ (aB ha a9 d) (he:=d)) λY H Q ⟨H0,F,O,S,q⟩=>#[H0,F,O,S,λv H1 a k=>by
    obtain⟨p,vs,e,h,r⟩:=k;refine#[p,vs,by rw[e],.inr (da (ar _ _) h).t,λl c=>?_];obtain⟨f,g⟩:=cO (xs:=vs) (S.go a) c
    exact q _ _ (a.trans f) #[l,vs,rfl,dW.of g,Nf.wk ((S.go a).iq c) g,bM (λ_ _ z=>PyT.free (λ_ _ t=>aG.rt (ah f) t) z) r]]
def KQ{xs:List M}{k:Int}{p2:ì}(ha:E X U e1 b xs)(m:E X U e2 b2 k)(h1:k=-1):E X U (.Subscript e1 (.Slice none (À e2) none p2) pos) b (xs.take (xs.length-1)):=by
 stop
  exact aJ (nA xj ha rq (rR m)) λY H Q ⟨H0,F,O,S,q⟩=>#[H0,F,O,S,λv H1 c j=>#[H0,F,O,S.go c,λw H2 a o=>by
    obtain⟨p,vs,e,s,n,r⟩:=j;refine#[k,o,p,vs,e,(ar _ _).seq ((ah a).seq s),λl d=>?_];obtain⟨h,f⟩:=cO (xs:=j8 vs none (À k)) ((S.go c).go a) d;refine q _ _ (c.trans (a.trans h)) #[l,_,rfl,dW.of f,Nf.wk (((S.go c).go a).iq d) f,?_];have i:=bE r
    have ec:j8 vs none (À k)=vs.take (xs.length-1):=by
     unfold j8;rw[HT.oa]
     have:HT.fK vs.length vs.length (À k)=xs.length-1:=by
      show(if k<0 then (k+(vs.length:Int)).toNat else min k.toNat vs.length)=_;rw[Xc .b,h1];lia
     rw[this];simp only[ϑ,Nat.sub_zero]
    have g:=bM (λ_ _ z=>aw ((ah a).trans (ah h)) z) (xx (xs.length-1) r);rw[<-ec] at g
    exact g]]
end
def SS{M:Type}{us:List M}(h:us.length=0):us=[]:=aap h
def SW{M:Type}{us:List M}(h:us.length=1):∃a,us=[a]:=match us,h with|[a],_=>#[a,rfl]
def ln2{M:Type}{us:List M}(h:us.length=2):∃a b,us=[a,b]:=match us,h with|[a,b],_=>#[a,b,rfl]
def Su{M:Type}{us:List M}(h:us.length=3):∃a b c,us=[a,b,c]:=match us,h with|[a,b,c],_=>#[a,b,c,rfl]
def Si{M:Type}{us:List M}(h:us.length=4):∃a b c d,us=[a,b,c,d]:=match us,h with|[a,b,c,d],_=>#[a,b,c,d,rfl]
def cF{N P:List Ï}{a:ą}(h1:autoParam (a.kind=.function) zra)(h2:autoParam (a.isCoroutine=Â) zra)(d:autoParam (a.isGenerator=Â) zra)(c:autoParam (N.Nodup) zrh)(f:autoParam (N.take P.length=P) zra)(e:autoParam (∀x∈P,a.names.lookup x=À .local\/a.names.lookup x=À .cell) zrh)(b:autoParam (∀y∈a.names,y.2≠.free) zrh):ak N P a:=#[h1,h2,d,c,f,e,b]
section
variable{P:Ð}{w:Ú}{K:Ã}{mg:Ï->Option Ä}{base h:ß}{x p q r t:Ï}{st:Ñ}{k:Nat}{sp:Sp}
def Df.c0(D:Df K x st)(X:K.In h)(G:h.Ns Ì mg)(ok:∀f fd,uf K x x st f fd->⇑fU pd k f fd [] sp)(c:autoParam (∀(kV doc b:Ä) (e:Option Ç) (a ct:Ä) (us:List Ä),us.length=0->ģ (ç x x (d7 st) (b7 st) (ag st) .none kV doc b e a ct) #[us,[]]=pure (([]:List Ï).zip us)) zrk):⇑aH k x [] sp:=D.Nh X G c ok
def Df.c1(D:Df K x st)(X:K.In h)(G:h.Ns Ì mg)(ok:∀f fd,uf K x x st f fd->⇑fU pd k f fd [p] sp)(e:autoParam (∀(kV doc b:Ä) (c:Option Ç) (a ct:Ä) (us:List Ä),us.length=1->ģ (ç x x (d7 st) (b7 st) (ag st) .none kV doc b c a ct) #[us,[]]=pure ([p].zip us)) zrk):⇑aH k x [p] sp:=D.Nh X G e ok
def Df.c2(D:Df K x st)(X:K.In h)(G:h.Ns Ì mg)(ok:∀f fd,uf K x x st f fd->⇑fU pd k f fd [p,q] sp)(e:autoParam (∀(kV doc b:Ä) (c:Option Ç) (a ct:Ä) (us:List Ä),us.length=2->ģ (ç x x (d7 st) (b7 st) (ag st) .none kV doc b c a ct) #[us,[]]=pure ([p,q].zip us)) zrk):⇑aH k x [p,q] sp:=D.Nh X G e ok
def Df.c3(D:Df K x st)(X:K.In h)(G:h.Ns Ì mg)(ok:∀f fd,uf K x x st f fd->⇑fU pd k f fd [p,q,r] sp)(e:autoParam (∀(kV doc b:Ä) (c:Option Ç) (a ct:Ä) (us:List Ä),us.length=3->ģ (ç x x (d7 st) (b7 st) (ag st) .none kV doc b c a ct) #[us,[]]=pure ([p,q,r].zip us)) zrk):⇑aH k x [p,q,r] sp:=D.Nh X G e ok
def Df.c4(D:Df K x st)(X:K.In h)(G:h.Ns Ì mg)(ok:∀f fd,uf K x x st f fd->⇑fU pd k f fd [p,q,r,t] sp)(e:autoParam (∀(kV doc b:Ä) (c:Option Ç) (a ct:Ä) (us:List Ä),us.length=4->ģ (ç x x (d7 st) (b7 st) (ag st) .none kV doc b c a ct) #[us,[]]=pure ([p,q,r,t].zip us)) zrk):⇑aH k x [p,q,r,t] sp:=D.Nh X G e ok
end
section
variable{X:Cx}{U:aI}{M β:Type}[Py M][Py β]{e e1 e2 tg:Ô}{b b1 b2:Bool}{elts:List Ô}{kk:Nat}{tp p ps:ì}
def Sh{M:Type}[Py M](X:Cx)(U:aI)(tg iter:Ô)(b:Bool)(post:List M->Prop):Prop:=∃wi,PI X tg iter wi /\
 ∀(Y:St) (H H0:Hp) (F O:Ç->Prop) (R:It->Hp->Prop),dM X.K H0 F O U Y H->(∀as J H1,post as->aG H H1->QI X.K H0 O b as J H1->R J H1)->wi Y H R
def JE{xs:List M}{post:List β->Prop}(D:Gl X "zip")(P:X.mg "zip"=none)(h1:E X U e1 b1 xs)(h2:EX X U e2 b2 post)(d:autoParam (Å [e1,e2] X.env=(Â,Û e1 X.env)::Å [e2] X.env) zra)(o:autoParam (Å [e2] X.env=(Â,Û e2 X.env)::Å [] X.env) zra)
  (hpl:autoParam ((è ps (Å [e2] X.env)).any (·.1)=Â) zra):Sh X U (.Tuple elts kk tp) (.Call (.Name "zip" p) [e1,e2] [] ps) (b1&&b2) (λus=>∃ys,post ys/\us=xs.zip ys):=by
 stop
  exact#[_,Ei D P (aB h1 (aB h2 a9 o) d) d hpl,λY H H0 F O R Z q=>#[H0,F,O,Z,λv H1 A Q=>#[H0,F,O,Z.go A,λys w H2 hz l J=>by
    obtain⟨a,h,W,L,na,B⟩:=Q;obtain⟨c,j,ec,r,nc,rc⟩:=J;have b:=(ah (O:=O) l).seq L;refine#[a,c,by rw[W,ec],#[h,(ar _ _).seq b],#[j,(ar _ _).seq r],q _ _ H2 #[ys,hz,rfl] (A.trans l) λH' N k sm=>#[λi u Γ=>?_,?_]]
    .obtain⟨I,S⟩:=Yn.mp Γ;obtain⟨x,s,α⟩:=ig B I;obtain⟨y,t,K⟩:=ig rc S;have e:=(ar _ _).seq (sm.seq b);have f:=(ar _ _).seq (sm.seq r);refine#[#[h,j,x,y,e,f,s,t],λv' σ G=>?_];obtain⟨T,x',y',g,rfl,rfl,V,f2⟩:=G;have ex:=V h e;have C:=f2 j f;rw[s] at ex;cases ex;rw[t] at C;cases C
     have m:¬N T:=λz=>by
      obtain⟨zs,w⟩:=k T z;rw[g] at w;cases w
     refine#[cf g _,T,x,y,rfl,.inl (by rw[aS m];exact aQ),?_,?_]
     .exact bh (λ_ _ n=>wM n) (aw ((ah l).trans (sm.trans (ah (cf g _)))) α)
     .exact bh (λ_ _ n=>wQ n) (aw (sm.trans (ah (cf g _))) K)
    .refine#[h,j,(ar _ _).seq (sm.seq b),(ar _ _).seq (sm.seq r),?_];rw[bE B,bE rc,ZR]
     lia]]]
def LM{D:GD}{pos:ì}{rest body:List Ñ}{g:TG}{tc:Nat->Prop}{put:Bool->M->aI->aI}{post:List M->Prop}(J:List M->Nat->aI->Prop)(t:G X tg g M put tc)(he:Sh X U tg e b post)(y:∀as,post as->J as 0 U)
  (L:∀as,post as->∀(i:Nat) (a:M) U',as[i]?=À a->J as i U'->S X (put b a U') body {D with nx:=J as (i+1),ct:=J as (i+1),bk:=λΓ2=>S X Γ2 rest D}) (B:∀as,post as->∀U',J as as.length U'->S X U' rest D)
  (E:autoParam (X.calm=Á) zra) (hp:ď .E X.A X.env X.xe:=by exact ZQ)
  (s:autoParam (∀x,Ü e X.env x=pure x) zrc):S X U (.For tg e body [] pos::rest) D:=by
 stop
  obtain⟨wi,hi,α⟩:=he;refine dU (dS (oM hp E hi t.1 (tb:=kE X body) gW s) λQ Y H ⟨H0,F,O,Z,nx,r,bk,ct⟩=>?_);refine α Y H H0 F O _ Z λas R H1 hz p XV=>?_;refine#[λi m Y' H'=>m=as.length-i/\i<=as.length/\∃U' f,aG (off H1 O) (off H' f)/\dM X.K H0 F f U' Y' H'/\J as i U',#[_,rfl,Yc _,U,O,aG.refl _,Z.go p,y as hz],?_];rintro i m Y' H' ⟨rfl,v,U',f,sm,o,j⟩;obtain⟨N,P⟩:=XV H' f o.own sm;by_cases k:i<as.length
  .have ha:as[i]?=À as[i]:=Xn k;obtain⟨go,u⟩:=N i _ ha;refine .inr #[go,λσ2 H2=>∃Γ2 d,aG (off H1 O) (off H2 d)/\dM X.K H0 F d Γ2 σ2 H2/\J as (i+1) Γ2,λσ2 H2 q=>#[as.length-(i+1),.e,rfl,k,q],λx l I=>?_];obtain⟨n,z⟩:=u x l I;refine t.2 b as[i] H0 F f U' Y' l _ _ (o.go n) z λσ2 h _ _=>?_;refine#[_,_,L as hz i _ U' ha j,H0,F,f,h,?_,r,?_,?_]
   .exact λΓ2 σ2 H2 d c h q=>#[Γ2,d,sm.trans ((ah n).trans c),h,q]
   .exact λΓ2 σ2 H2 d c h q=>nx Γ2 σ2 H2 d ((ah p).trans (sm.trans ((ah n).trans c))) h q
   .exact λΓ2 σ2 H2 d c h q=>#[Γ2,d,sm.trans ((ah n).trans c),h,q]
  .have C:i=as.length:=by omega
   subst C;exact .inl #[P,nx U' Y' H' f ((ah p).trans sm) o (B as hz U' j)]
end
end L2.EP
namespace L2.EP.K
open PySem PySem.Spec PyProof.Rows
variable{a b x q p c d r m e y A u v:Int}{l ps xs z:List Int}{n i j:Nat}
noncomputable def top(i:Nat):Ñ:=PySem.Challenge.pw_everyplace_k51_whole_a_zero_or_a_place.main.body.getD i (.Pass #[0,0,0,0])
abbrev lY:Ñ:=top 5
abbrev tM:List Ï:=["k"]
def zh:ak tM ["k"] (ag lY):=cF
abbrev vX:Ñ:=top 6
abbrev Co:List Ï:=["base","exponent","answer","step"]
def nV:ak Co ["base","exponent"] (ag vX):=cF
abbrev mD:Ñ:=top 7
abbrev tT:List Ï:=["base","exponent","m","answer","square"]
def cP:ak tT ["base","exponent","m"] (ag mD):=cF
abbrev kJ:Ñ:=top 8
abbrev qw:List Ï:=["k","divisor","often","left"]
def eQ:ak qw ["k","divisor"] (ag kJ):=cF
abbrev iK:Ñ:=top 9
abbrev lT:List Ï:=["k","root"]
def gR:ak lT ["k"] (ag iK):=cF
abbrev dh:Ñ:=top 10
abbrev fC:List Ï:=["k","root"]
def ff:ak fC ["k"] (ag dh):=cF
abbrev pT:Ñ:=top 11
abbrev vw:List Ï:=["k","m","rest","below","factor","factor_below","often","left","factor_left"]
def bT:ak vw ["k","m"] (ag pT):=cF
abbrev fH:Ñ:=top 13
abbrev ji:List Ï:=["a","b","rest"]
def di:ak ji ["a","b"] (ag fH):=cF
abbrev gU:Ñ:=top 14
abbrev l_:List Ï:=["top","bottom","divisor"]
def kY:ak l_ ["top","bottom"] (ag gU):=cF
abbrev A0:Ñ:=top 15
abbrev Gp:List Ï:=["u","v"]
def JP:ak Gp ["u","v"] (ag A0):=cF
abbrev g8:Ñ:=top 19
abbrev kf:List Ï:=["k","begin","end","divisor"]
def jS:ak kf ["k","begin","end"] (ag g8):=cF
abbrev l4:Ñ:=top 20
abbrev sH:List Ï:=["k"]
def yc:ak sH ["k"] (ag l4):=cF
abbrev jD:Ñ:=top 21
abbrev oo:List Ï:=["k","answer"]
def iR:ak oo ["k"] (ag jD):=cF
abbrev o8:Ñ:=top 22
abbrev vA:List Ï:=["k","end","out","found","left","divisor"]
def dy:ak vA ["k","end"] (ag o8):=cF
abbrev xh:Ñ:=top 23
abbrev Cb:List Ï:=["k","known","last"]
def rZ:ak Cb ["k"] (ag xh):=cF
abbrev jK:Ñ:=top 24
abbrev m_:List Ï:=["k","known","root"]
def iN:ak m_ ["k"] (ag jK):=cF
abbrev vL:Ñ:=top 25
abbrev BN:List Ï:=["u","known","number","root","part"]
def g6:ak BN ["u"] (ag vL):=cF
abbrev k6:Ñ:=top 27
abbrev qd:List Ï:=["k","p","rest"]
def nv:ak qd ["k","p"] (ag k6):=cF
abbrev fw:Ñ:=top 28
abbrev iD:List Ï:=["p","k"]
def eG:ak iD ["p"] (ag fw):=cF
abbrev k_:Ñ:=top 29
abbrev qg:List Ï:=["k","p","often"]
def gK:ak qg ["k","p"] (ag k_):=cF
abbrev fW:Ñ:=top 30
abbrev iY:List Ï:=["k","p","out","twos","odd","root","error","mender","often","step"]
def aL:ak iY ["k","p"] (ag fW):=cF
abbrev gF:Ñ:=top 31
abbrev jZ:List Ï:=["k","p","kind"]
def i9:ak jZ ["k","p"] (ag gF):=cF
abbrev jx:Ñ:=top 32
abbrev mK:List Ï:=["one","m","other","p"]
def uE:ak mK ["one","m","other","p"] (ag jx):=cF
abbrev oN:Ñ:=top 33
abbrev u_:List Ï:=["k","m","answer","done","part","root"]
def eB:ak u_ ["k","m"] (ag oN):=cF
abbrev jv:Ñ:=top 35
abbrev mE:List Ï:=["k","p","out","rest"]
def eP:ak mE ["k","p"] (ag jv):=cF
abbrev h_:Ñ:=top 36
abbrev kq:List Ï:=["k","p"]
def qV:ak kq ["k","p"] (ag h_):=cF
abbrev lV:Ñ:=top 37
abbrev tu:List Ï:=["one","other","reasons"]
def gg:ak tu ["one","other"] (ag lV):=cF
abbrev mj:Ñ:=top 38
abbrev sI:List Ï:=["one","other","p","said"]
def gb:ak sI ["one","other","p"] (ag mj):=cF
abbrev AZ:Ñ:=top 39
abbrev Hd:List Ï:=["a","b","p","one","other"]
def xm:ak Hd ["a","b","p"] (ag AZ):=cF
abbrev kP:Ñ:=top 40
abbrev qi:List Ï:=["numbers","found","k","part"]
def gP:ak qi ["numbers"] (ag kP):=cF
abbrev gA:Ñ:=top 43
abbrev jT:List Ï:=["k"]
def oK:ak jT ["k"] (ag gA):=cF
abbrev mI:Ñ:=top 44
abbrev rX:List Ï:=["row"]
def C0:ak rX ["row"] (ag mI):=cF
abbrev gp:Ñ:=top 45
abbrev jV:List Ï:=["row"]
def pX:ak jV ["row"] (ag gp):=cF
abbrev eR:Ñ:=top 46
abbrev iC:List Ï:=["a","b","c","p"]
def mi:ak iC ["a","b","c","p"] (ag eR):=cF
abbrev fS:Ñ:=top 47
abbrev jh:List Ï:=["numbers","p","product"]
def iu:ak jh ["numbers","p"] (ag fS):=cF
abbrev kr:Ñ:=top 48
abbrev qx:List Ï:=["numbers","p"]
def vM:ak qx ["numbers","p"] (ag kr):=cF
abbrev dg:Ñ:=top 49
abbrev fG:List Ï:=["row","p"]
def cU:ak fG ["row"] (ag dg):=cF
abbrev d_:Ñ:=top 50
abbrev gE:List Ï:=["numbers","barring"]
def iW:ak gE ["numbers"] (ag d_):=cF
abbrev gH:Ñ:=top 51
abbrev jO:List Ï:=["row"]
def pY:ak jO ["row"] (ag gH):=cF
abbrev lX:Ñ:=top 54
abbrev sN:List Ï:=["k","left","p"]
def iG:ak sN ["k"] (ag lX):=cF
abbrev jw:Ñ:=top 58
abbrev ni:List Ï:=["p","no_square"]
def lR:ak ni ["p"] (ag jw):=cF
abbrev eJ:Ñ:=top 59
abbrev gY:List Ï:=["one","other","p","rest"]
def gJ:ak gY ["one","other","p"] (ag eJ):=cF
abbrev cc:Ñ:=top 60
abbrev dF:List Ï:=["found","p"]
def b9:ak dF [] (ag cc):=cF
abbrev gO:Ñ:=top 61
abbrev jI:List Ï:=["k","places"]
def uD:ak jI ["k","places"] (ag gO):=cF
abbrev dQ:Ñ:=top 62
abbrev fV:List Ï:=["k","places","wishes","answer","p","classes","own"]
def dm:ak fV ["k","places","wishes"] (ag dQ):=cF
abbrev kj:Ñ:=top 63
abbrev p8:List Ï:=["classes","wishes","own","wish"]
def nQ:ak p8 ["classes","wishes"] (ag kj):=cF
abbrev fA:Ñ:=top 64
abbrev gS:List Ï:=["places","wishes","starts","k","known","further","left","classes"]
def bR:ak gS ["places","wishes"] (ag fA):=cF
abbrev dO:Ñ:=top 65
abbrev fN:List Ï:=["one","other","p"]
def oD:ak fN ["one","other","p"] (ag dO):=cF
abbrev lx:Ñ:=top 66
abbrev oW:List Ï:=["one","other","places"]
def t6:ak oW ["one","other"] (ag lx):=cF
abbrev gq:Ñ:=top 68
abbrev jU:List Ï:=["numbers","bottom","u"]
def dN:ak jU ["numbers"] (ag gq):=cF
abbrev dj:Ñ:=top 69
abbrev eZ:List Ï:=["numbers","bottom"]
def hE:ak eZ ["numbers"] (ag dj):=cF
abbrev dk:Ñ:=top 71
abbrev eV:List Ï:=["numbers","divisor","k"]
def cW:ak eV ["numbers"] (ag dk):=cF
abbrev iO:Ñ:=top 72
abbrev lM:List Ï:=["row","root"]
def kI:ak lM ["row"] (ag iO):=cF
abbrev gC:Ñ:=top 73
abbrev jP:List Ï:=["a","b","answer"]
def i_:ak jP ["a","b"] (ag gC):=cF
abbrev iP:Ñ:=top 74
abbrev lO:List Ï:=["a","lesser","root","zero","x","y"]
def gT:ak lO ["a","lesser","root","zero"] (ag iP):=cF
abbrev gu:Ñ:=top 75
abbrev jW:List Ï:=["k","m","root"]
def jj:ak jW ["k","m"] (ag gu):=cF
abbrev dZ:Ñ:=top 76
abbrev jR:List Ï:=["a","b","found","root","lesser"]
def cI:ak jR ["a","b"] (ag dZ):=cF
abbrev gG:Ñ:=top 77
abbrev jQ:List Ï:=["row","one","other","found","root","other_root","x"]
def bL:ak jQ ["row"] (ag gG):=cF
abbrev fc:Ñ:=top 80
abbrev hX:List Ï:=["numbers"]
def qN:ak hX ["numbers"] (ag fc):=cF
abbrev bf:Ñ:=top 81
abbrev bz:List Ï:=["numbers","t","one","other"]
def aW:ak bz ["numbers"] (ag bf):=cF
abbrev df:Ñ:=top 82
abbrev dX:List Ï:=["numbers","above","below","ahead","others"]
def dE:ak dX ["numbers"] (ag df):=cF
abbrev cg:Ñ:=top 83
abbrev dv:List Ï:=["numbers","places","answer","i","x"]
def b8:ak dv ["numbers"] (ag cg):=cF
abbrev dA:Ñ:=top 84
abbrev eU:List Ï:=["numbers"]
def gj:ak eU ["numbers"] (ag dA):=cF
abbrev jG:Ñ:=top 85
abbrev ny:List Ï:=["x"]
def uu:ak ny ["x"] (ag jG):=cF
abbrev cb:Ñ:=top 86
abbrev cZ:List Ï:=["numbers","known","zero"]
def fL:ak cZ ["numbers"] (ag cb):=cF
abbrev pS:Ñ:=top 87
abbrev uV:List Ï:=["row"]
def Be:ak uV ["row"] (ag pS):=cF
abbrev iQ:Ñ:=top 89
abbrev lS:List Ï:=["_law_script","_law_k"]
def tj:ak lS ["_law_script","_law_k"] (ag iQ):=cF
abbrev o7:Ñ:=top 90
abbrev vo:List Ï:=["_law_cell","_law_k","_law_number","_law_j","_law_part"]
def fO:ak vo ["_law_cell","_law_k"] (ag o7):=cF
abbrev kZ:Ñ:=top 91
abbrev qj:List Ï:=["_law_cell","_law_number","_law_bits","_law_p"]
def dI:ak qj ["_law_cell"] (ag kZ):=cF
abbrev pE:Ñ:=top 92
abbrev vx:List Ï:=["_law_cell","_law_size","_law_row_here","_law_rest","_law_k","_law_root"]
def eK:ak vx ["_law_cell","_law_size"] (ag pE):=cF
abbrev jr:Ñ:=top 93
abbrev mX:List Ï:=["_law_cell","_law_other","_law_size","_law_row_here","_law_place_here","_law_total","_law_k","_law_x"]
def cD:ak mX ["_law_cell","_law_other","_law_size"] (ag jr):=cF
abbrev ib:Ñ:=top 94
abbrev km:List Ï:=["_law_number","_law_left","_law_p"]
def d9:ak km ["_law_number"] (ag ib):=cF
abbrev kR:Ñ:=top 95
abbrev p4:List Ï:=["_law_k","_law_often","_law_p","_law_found"]
def ck:ak p4 ["_law_k","_law_often","_law_p"] (ag kR):=cF
abbrev me:Ñ:=top 96
abbrev si:List Ï:=["_law_number","_law_p"]
def qy:ak si ["_law_number","_law_p"] (ag me):=cF
abbrev k7:Ñ:=top 97
abbrev pZ:List Ï:=["_law_group","_law_p"]
def xf:ak pZ ["_law_group","_law_p"] (ag k7):=cF
abbrev fM:Ñ:=top 98
abbrev jg:List Ï:=["_law_row_here","_law_sums","_law_number","_law_wider","_law_rest","_law_odd","_law_x","_law_new_rest"]
def ba:ak jg ["_law_row_here"] (ag fM):=cF
abbrev fP:Ñ:=top 99
abbrev g_:List Ï:=["_law_row_here","_law_p","_law_less_here","_law_plain","_law_divided"]
def iA:ak g_ ["_law_row_here","_law_p"] (ag fP):=cF
abbrev kg:Ñ:=top 100
abbrev qA:List Ï:=["_law_k","_law_d"]
def ju:ak qA ["_law_k"] (ag kg):=cF
abbrev kH:Ñ:=top 101
abbrev p9:List Ï:=["_law_p"]
def wg:ak p9 ["_law_p"] (ag kH):=cF
abbrev jJ:Ñ:=top 102
abbrev mV:List Ï:=["_law_a","_law_b","_law_rest"]
def fX:ak mV ["_law_a","_law_b"] (ag jJ):=cF
abbrev iM:Ñ:=top 103
abbrev lP:List Ï:=["_law_row_here","_law_zero","_law_part","_law_total","_law_k"]
def cJ:ak lP ["_law_row_here","_law_zero"] (ag iM):=cF
abbrev iw:Ñ:=top 104
abbrev kQ:List Ï:=["_law_cell","_law_other","_law_size","_law_row_here","_law_sign"]
def fg:ak kQ ["_law_cell","_law_other","_law_size"] (ag iw):=cF
abbrev mx:Ñ:=top 105
abbrev sO:List Ï:=["_law_row_here","_law_handed","_law_zero","_law_p"]
def gf:ak sO ["_law_row_here"] (ag mx):=cF
abbrev jz:Ñ:=top 106
abbrev mw:List Ï:=["_law_row_here","_law_bars_found"]
def qr:ak mw ["_law_row_here"] (ag jz):=cF
abbrev BB:Ñ:=top 107
abbrev Eu:List Ï:=["_law_script","_law_size","_law_cells"]
def Ba:ak Eu ["_law_script"] (ag BB):=cF
section
variable{P:Ð}{w:Ú}{K:Ã}{mg:Ï->Option Ä}{base:ß}{f:Ç}{k:Nat}(B:Bu mg)
def AS(x:Int):⇑Body tM "is_whole" lY f kk [.val Â x] (RT Á Á):=by
 intro a A outer s H E b;exact au (qq (Av rfl B.isinstance rfl B.int .A) λ_=>(jX (Hm (AD rfl B.isinstance rfl B.bool .A)))) rfl
def zG(b e m:Int):Int:=b^e.toNat%m
def bB(h:1<=m):a.fmod m=a%m:=Yl a .b
def CC{S:Int}(h:n%2=1):(A*S%m)*(S*S%m)^(n/2)%m=A*S^n%m:=by
 rw[YC,ZX _ (Zf m),je,<-YC,abr,<-Yz,XT];congr 2;have e:S^n=S^(1+(n/2+n/2)):=by congr 1;lia
 rw[e,Yz S 1,XE,X1,Yb,Yz]
def zd{S:Int}(h:n%2=0):A*(S*S%m)^(n/2)%m=A*S^n%m:=by
 rw[YC,je,<-YC,abr,<-Yz];congr 3;lia
def sG(h:0<=e):(e.fdiv 2).toNat=e.toNat/2/\0<=e.fdiv 2:=by
 rw[X9 _ .a];lia
def Bj(x e m:Int)(he:0<=e)(c:1<=m)(t:m<2^62):⇑Body tT "power_by" mD f kk [.val Â x,.val Â e,.val Â m] (RT Á (zG x e m)):=by
 intro p A outer s H E v;refine ao 3 cP.nd (aR af .C .e) ?_;refine ao 4 cP.nd (aR .A .C .e) ?_;rw[bB c,bB c]
 refine cz (ι:=Bool×Int×Int×Int) (λi U=>U=[À (.val Â x),À (.val i.1 i.2.1),À (.val Â m),À (.val Á i.2.2.1),À (.val Á i.2.2.2)]/\0<=i.2.1/\i.2.2.1*i.2.2.2^i.2.1.toNat%m=x^e.toNat%m/\0<=i.2.2.1/\i.2.2.1<m/\0<=i.2.2.2/\i.2.2.2<m) (λi=>i.2.1.toNat) (Â,e,1%m,x%m)
  #[rfl,he,by dsimp only;rw[YC,ZX _ (Zf m),je,<-YC,Yb],XO _ .e,XF _ .e,XO _ .e,XF _ .e] ?_
 rintro⟨u,n,a,q⟩ U' ⟨rfl,r,hi,h,j,y,q1⟩;dsimp only at *;refine#[_,av fD .B af,λb=>?_,λb=>?_]
 .have k:0<n:=by simpa using b
  have d:=sG r;have l:=XO (q*q) (show m≠0 by omega);have o:=XF (q*q) (show 0<m by omega);refine aF (av ax (aR .B af .a) af) (λb=>?_) (λb=>?_)
  .have g:n.toNat%2=1:=by
    have:n.fmod 2=1:=by simpa using b
    rw[bB .a] at this;omega
   refine ao 3 cP.nd (aR (aE .D (ae 4) (mulL .e .e)) .C .e) (aK ?_);refine ao 4 cP.nd (aR (aE (ae 4) (ae 4) (mulL .e .e)) .C .e) ?_;refine ao 1 cP.nd (a8 .B af vn) ?_;rw[bB c,bB c];refine aK #[(Á,n.fdiv 2,a*q%m,q*q%m),#[rfl,d.2,?_,XO _ .e,XF _ .e,l,o],?_]
   .dsimp only;rw[d.1,CC g,hi]
   .dsimp only;omega
  .have g:n.toNat%2=0:=by
    have:¬n.fmod 2=1:=by simpa using b
    rw[bB .a] at this;omega
   refine ao 4 cP.nd (aR (aE (ae 4) (ae 4) (mulL .e .e)) .C .e) ?_;refine ao 1 cP.nd (a8 .B af vn) ?_;rw[bB c];refine aK #[(Á,n.fdiv 2,a,q*q%m),#[rfl,d.2,?_,h,j,l,o],?_]
   .dsimp only;rw[d.1,zd g,hi]
   .dsimp only;omega
 .have hz:n.toNat=0:=by
   have:¬0<n:=by simpa using b
   omega
  rw[hz,X1,XC,Zy h j] at hi;refine au .D ?_;show Bd.val _ _=Bd.val _ _;unfold zG;rw[<-hi]
def Hr{k l n:Int}(g:0<=n)(he:k=l*d^n.toNat)(e:2<=d)(f:l.fmod d=0)(hz:l≠0):0<=n+1/\k=l.fdiv d*d^(n+1).toNat/\l.fdiv d≠0/\(l.fdiv d).natAbs<l.natAbs:=by
 obtain⟨a,b,c⟩:=Gj e (Q.g7.mp f) hz;refine#[.b,?_,b,c];rw[show(n+1).toNat=n.toNat+1 by lia,XE,he];generalize d^n.toNat=t;generalize l.fdiv d=q at *;rw[<-a];grind
def za(x d:Int)(j:x≠0)(e:2<=d)(q:Sm 9000 d):⇑Body qw "taken_out" kJ f kk [.val Â x,.val Â d] (RT Á (aV x d)):=by
 intro g A outer s H E u;refine ao 2 eQ.nd af ?_;refine ao 3 eQ.nd .A ?_;refine cz (ι:=Bool×Int×Int) (λi U=>U=[À (.val Â x),À (.val Â d),À (.val Á i.2.1),À (.val i.1 i.2.2)]/\0<=i.2.1/\x=i.2.2*d^i.2.1.toNat/\i.2.2≠0) (λi=>i.2.2.natAbs) (Â,0,x) #[rfl,Yi 0,by dsimp only;rw[show(0:Int).toNat=0 from rfl,X1,XC],j] ?_;rintro⟨t,n,l⟩ U' ⟨rfl,c,he,k⟩;dsimp only at *;refine#[_,av ax (aR .D .B .b) af,λb=>?_,λb=>?_]
 .have a:l.fmod d=0:=by simpa using b
  refine ao 3 eQ.nd (a8 .D .B (q.div .b)) ?_;refine ao 2 eQ.nd (bQ .C af) ?_;obtain⟨o,m,p,h⟩:=Hr c he e a k;exact aK #[(Á,n+1,l.fdiv d),#[rfl,o,m,p],h]
 .have a:¬l.fmod d=0:=by simpa using b
  refine au (bS .C (gZ (b':=Á) .D)) ?_;show Bd.val _ _=Bd.val _ _;rw[k8 e (r:=(n,l)) #[c,he,λz=>a (Q.g7.mpr z)]];rfl
def IH{k:Int}(c:0<=k):k<(2:Int)^((Ë k+1)/2)*2^((Ë k+1)/2):=by
 have d:k.natAbs<2^Ë k:=by
  unfold Ë;by_cases hz:k=0
  .subst hz;decide
  .rw[W_ ↑hz];exact Nat.lt_log2_self
 have h2:Ë k<=(Ë k+1)/2+(Ë k+1)/2:=by lia
 have b:(2:Nat)^Ë k<=2^((Ë k+1)/2+(Ë k+1)/2):=Zr .a h2;rw[<-Yz];have a:((2^((Ë k+1)/2+(Ë k+1)/2):Nat):Int)=(2:Int)^((Ë k+1)/2+(Ë k+1)/2):=by rw[aaH];rfl
 rw[<-a];lia
def uk(x:Int)(g:0<=x)(n:Sm 8000 x):⇑Body lT "square_root" iK f k [.val Â x] (RT Á (rt x)):=by
 intro j A outer s H E p;have u:Ë x<=8000:=n.bits
 have d:((Ë x:Int)+1).fdiv 2=(((Ë x+1)/2:Nat):Int):=by
  rw[X9 _ .a];lia
 refine ao 1 gR.nd (O6 af (a8 (bQ (M5 .A) af) af vn) #[by rw[d];lia,by rw[d];lia,.a]) ?_;rw[d,Yb,Õ];have v:=IH g
 have l:Sm 8001 ((2:Int)^((Ë x+1)/2)):=by
  unfold Sm;rw[Int.natAbs_pow];exact Nat.pow_lt_pow_right .a .b
 have hp:(0:Int)<2^((Ë x+1)/2):=Yj .a;generalize (2:Int)^((Ë x+1)/2)=R at *
 refine cz (ι:=Int) (λr U=>U=[À (.val Â x),À (.val Á r)]/\0<=r/\r<=R/\x<(r+1)*(r+1)) (λr=>r.toNat) R #[rfl,.b,.b,by
  have:R*R<=(R+1)*(R+1):=FF .b .b
  lia] ?_
 rintro r U' ⟨rfl,h,t,i⟩;have b:Sm 8001 r:=Sm.of_le .b l;refine#[_,av fD (aE .B .B (b.ok b)) .A,λe=>?_,λe=>?_]
 .have a:x<r*r:=by simpa using e
  have c:0<r:=by
   rcases Zn h with z|z
   .exact z
   .rw[<-z] at a;simp at a;lia
  refine ao 1 gR.nd (a8 (bQ .B (a8 .A .B (b.div .b))) af vn) ?_;obtain⟨m,q,o⟩:=Mz g c a;exact aK #[_,#[rfl,m,.b,o],.b]
 .have a:r*r<=x:=by simpa using e
  refine au .B ?_;show Bd.val _ _=Bd.val _ _;rw[jb h a i]
noncomputable def tq(k:Int):Option Int:=if k<0 then none else if rt k*rt k=k then À (rt k) else none
def LA{k:Int}(b:0<=k)(a:Sm n k):Sm n (rt k):=by
 have h1:=D8 b;have h2:=jk k;refine Sm.of_le ?_ a
 have:rt k<=k:=by
  rcases YS (rt k) 1 with z|z
  .lia
  .have:rt k*1<=rt k*rt k:=Xp z h2;lia
 lia
abbrev Wh(P w K mg base):=aH P w K mg base 1 "square_root" ["k"] (cH K (λk=>0<=k/\Sm 8000 k) Á rt)
def j6(i:⇑Wh)(x:Int)(b:Sm 8000 x):⇑Body fC "square_root_or_none" dh f 1 [.val Â x] (RT Á (tq x)):=by
 intro d A outer s H E h;refine aF (av gi .A af) (λa=>?_) (λa=>?_)
 .have e:tq x=none:=Xc ↑a;rw[e];exact au (kC (M:=Int)) rfl
 have g:¬x<0:=by simpa using a
 refine ao 1 ff.nd (aD i (h.mono .a) rfl .A #[.b,b]) ?_;have c:=LA .b b;refine au (kW (av ax (aE .B .B (c.ok c)) .A) (λ_=>(ae 1).some) λ_=>kC (M:=Int)) ?_;show Bd.val _ _=Bd.val _ _;congr 1;unfold tq;rw[W_ g];by_cases z:rt x*rt x=x
 .rw[Xc z,Xc ↑z]
 .rw[W_ z,W_ ↑z]
def o9(a b:Int):⇑Body ji "common_divisor" fH f k [.val Â a,.val Â b] (RT Á ((Ê a b:Nat):Int)):=by
 intro g A outer s H E h;refine cz (ι:=Bool×Bool×Int×Int) (λi U=>∃r,U=[À (.val i.1 i.2.2.1),À (.val i.2.1 i.2.2.2),r]/\Ê i.2.2.1 i.2.2.2=Ê a b) (λi=>i.2.2.2.natAbs) (Â,Â,a,b) #[none,rfl,rfl] ?_;rintro⟨b1,b2,x,y⟩ U' ⟨r,rfl,c⟩;refine#[_,av gD .B af,λe=>?_,λe=>?_]
 .have d:y≠0:=by simpa using e
  refine ao 2 di.nd (aR .A .B d) ?_;refine ao 0 di.nd .B ?_;refine ao 1 di.nd .C ?_;exact aK #[(b2,Á,y,x.fmod y),#[_,rfl,(n_ x y).trans c],Ck x y d]
 .have d:y=0:=by simpa using e
  refine au (iH rfl B.abs .A) ?_;dsimp only at c ⊢;rw[d,aaL] at c;rw[<-c];show Bd.val _ _=Bd.val _ _;congr 1;split<;>lia
def R1(_ b:Int):Prop:=b≠0/\Sm 9000 b
abbrev Wi(P w K mg base):=aH P w K mg base 1 "common_divisor" ["a","b"] (cM K (λ_ _=>True) Á λa b=>((Ê a b:Nat):Int))
def Am(j:⇑Wi)(t b:Int)(g:b≠0)(i:Sm 9000 b):
  Body P w K mg base l_ "fraction" gU f 1 [.val Â t,.val Â b] (RT Á (fr t b)):=by
 intro a A outer s H E h;have e:=yz (t:=t) g;have hz:Sm 9000 (fd t b):=Sm.of_le (Qq g) i;refine ao 2 kY.nd (aA j h rfl .A .B É) ?_
 have last:∀d:Int,d=fd t b->S (⇑cx l_ "fraction" gU f a A outer s H E) [À (.val Â t),À (.val Â b),À (.val Á d)] [(b7 gU).getD 2 (.Pass #[0,0,0,0])] (RT Á (fr t b)):=by
  rintro d rfl;exact au (bS (a8 .A .C (hz.div e)) (a8 .B .C (hz.div e))) rfl
 refine aF (av gi .B af) (λc=>?_) (λc=>?_)
 .refine ao 2 kY.nd (du .C) (aK ?_);exact last _ (by unfold fd;rw[Xc ↑c])
 .exact last _ (by unfold fd;rw[W_ ↑c])
def OC:i<(Ó b m 2).toNat↔b+(i:Int)*2<m:=by
 unfold Ó;simp;split<;>lia
def sD(u:⇑Wh)(x b e:Int)(hp:1<=x/\Sm 8000 x/\1<=b/\b<2^62/\-(2^62)<=e/\e<2^62):
  Body P w K mg base kf "next_divisor" g8 f 1 [.val Â x,.val Â b,.val Â e] (RT Á (qu x b e)):=by
 intro p A outer s H E o;obtain⟨h1,h2,v,n,y,C⟩:=hp;have m:=jk x;have l:-(2^62)<=(if rt x+1<e then rt x+1 else e)/\(if rt x+1<e then rt x+1 else e)<2^62:=by split<;>lia
 have k:qu x b e=Qs x b (if rt x+1<e then rt x+1 else e):=rfl;refine xZ (λi U=>∃r,U=[À (.val Â x),À (.val Â b),À (.val Â e),r]/\∀j:Nat,j<i->¬(b+(j:Int)*2)∣x) rfl B.range (cV 3 jS.nd) .B (OF rfl rfl B.min .C (bQ (aD u (o.mono .a) rfl .A #[.b,h2]) af)) af #[.b,n,l.1,l.2] .a #[none,rfl,λj a=>absurd a (Ze _)] ?_ ?_
 .rintro i U' hi ⟨r,rfl,a⟩;have c:=OC.mp hi;refine aF (av ax (aR .A .D .b) af) (λg=>?_) (λg=>?_)
  .have d:(b+(i:Int)*2)∣x:=Q.g7.mp ↑g;refine au (ae 3).some ?_;show Bd.val _ _=Bd.val _ _;rw[k,<-xK (r:=À (b+(i:Int)*2)) #[.b,c,.b,d,λd' q1 q t=>?_]];have:=a ((d'-b)/2).toNat .b
   rwa [show b+((((d'-b)/2).toNat:Nat):Int)*2=d' by lia] at this
  .have d:¬(b+(i:Int)*2)∣x:=λz=>by
    have:=Q.g7.mpr z;simp[this] at g
   refine aK #[_,rfl,λj h=>?_];rcases ab3.mp h with z|z
   .exact a j z
   .rwa[z]
 .rintro U' ⟨r,rfl,a⟩;refine au (kC (M:=Int)) ?_;show Bd.val _ _=Bd.val _ _;rw[k,<-xK (r:=none) λd' q1 q t=>?_];have:=a ((d'-b)/2).toNat (OC.mpr .b)
  rwa [show b+((((d'-b)/2).toNat:Nat):Int)*2=d' by lia] at this
def Lh(k:Int):k.fmod 2=k%2:=Yl k .a
abbrev Wj(P w K mg base):=aH P w K mg base 2 "next_divisor" ["k","begin","end"] (vg K (λk b e=>1<=k/\Sm 8000 k/\1<=b/\b<2^62/\-(2^62)<=e/\e<2^62) Á qu)
def zR(e:⇑Wj)(x:Int)(c:x<2^62):
  Body P w K mg base sH "is_prime" l4 f 2 [.val Â x] (RT Á (aO x)):=by
 intro d A outer s H E g;refine aF (TW.t (vq (av gi .A af) λ_=>(pW (av ax (aR .A af .a) af)))) (λb=>?_) (λb=>?_)
 .have a:x<3\/x%2=0:=by simpa [Lh] using b
  refine au (fE ax .A af) ?_;show Bd.val _ _=Bd.val _ _;congr 1;rw[Yk,bP,Yq];constructor
  .exact .inl
  .rintro(z|z)<;>omega
 .have a:3<=x/\x%2=1:=by
   have:¬(x<3\/x%2=0):=by simpa [Lh] using b
   omega
  refine au (Lg (dJ e (g.mono .a) rfl .A af .A #[.e,Sm.le (m:=62) (by unfold Sm;omega) .a,.a,.a,.e,c]) λ_ _ _ _ h=>nomatch h) ?_;show Bd.val _ _=Bd.val _ _;rw[IQ a.1 a.2]
def QO(k e:Int):Prop:=1<=k/\Sm 900 k/\0<=e/\e<2^61
theorem Fn:∀{us:List (Int×Int)} {a b:Int},1<=a->gB a us b->(2:Int)^us.length<=pp us
 |[],_,_,_,_=>by show(2:Int)^0<=1;decide
 |u::us,a,b,ha,h=>by
  have h1:=Fn (show 1<=u.1 by have:=h.1;lia) h.2.2.2
  have c:(2:Int)<=u.1^u.2.toNat:=by
   have e:u.2.toNat=(u.2.toNat-1)+1:=by have:=h.2.2.1;lia
   rw[e,XE];have:(0:Int)<u.1^(u.2.toNat-1):=Yj (by have:=h.1;lia);have:=h.1;have:1*2<=u.1^(u.2.toNat-1)*u.1:=X_ .b .b .a .b;lia
  show(2:Int)^(us.length+1)<=u.1^u.2.toNat*pp us;rw[XE,XY];have d:(0:Int)<2^us.length:=Yj .a;exact X_ c h1 .b .b
def Fz{k:Int}{fs:List (Int×Int)}{l:Int}(I:zO k fs l b):l<=k/\(2:Int)^fs.length<=k:=by
 have h1:=I.prod;have h2:=jM .a I.rise;have c:=I.pos;have a:=Fn (Yi 1) I.rise;have e:1*l<=pp fs*l:=Yg .b .b;have d:pp fs*1<=pp fs*l:=Xp .b .b;lia
def Bh{m:Nat}{k:Int}(h:(2:Int)^m<=k)(a:Sm 900 k):m<=900:=by
 apply Xf;intro b;unfold Sm at a;have h1:(2:Nat)^900<=2^m:=Zr .a .b;have h2:((2^m:Nat):Int)=(2:Int)^m:=by rw[aaH];rfl
 lia
abbrev Wk(P w K mg base):=aH P w K mg base 1 "taken_out" ["k","divisor"] (cM K (λk d=>k≠0/\2<=d/\Sm 9000 d) Á aV)
def Dl(u:⇑Wk)(y:⇑Wj)(x e:Int)(hp:QO x e):
  Body P w K mg base vA "divided" o8 f 2 [.val Â x,.val Â e] (RT Á (bD x e)):=by
 intro G A outer s H E o;obtain⟨h1,h2,O,N⟩:=hp;obtain⟨v,j⟩:=oU h1;have two:Sm 9000 (2:Int):=Sm.le (m:=2) (by unfold Sm;decide) .a;refine ao 2 dy.nd (aA u (o.mono .a) rfl .A af #[.b,.a,two]) ?_;refine pU 3 dy.nd (Pz (av fD (br .C) af) (λ_=>zU (M:=Int×Int) (ay (bS af (br .C)) bF) (X6 rfl)) λ_=>zU (M:=Int×Int) (b:=Á) bF (X6 rfl)) ?_
 have C:(if decide (0<(aV x 2).1)=Á then [((2:Int),(aV x 2).1)] else [])=yp x:=by
  unfold yp;by_cases z:0<(aV x 2).1
  .rw[Xc z,Xc ↑z]
  .rw[W_ z,W_ ↑z]
 rw[C];refine yB (M:=Int×Int) 3 Á rfl ?_;refine ao 4 dy.nd (bO .C) ?_;have g:∀l:Int,0<l->l<=x->Sm 8000 l:=λl a b=>Sm.le (Sm.of_le .b h2) .a;have q:=v.pos;refine ao 5 dy.nd (dJ y (o.mono .a) rfl (ae 4) af .B #[.b,g _ q j,.a,.a,.b,.b]) ?_;refine cz (ι:=Nat×List (Int×Int)×Int×Int) (λi U=>∃r,U=[À (.val Â x),À (.val Â e),r,À (.own Á i.2.1),À (.val Á i.2.2.1),À (.val Á (qu i.2.2.1 i.2.2.2 e))]/\zO x i.2.1 i.2.2.1 i.2.2.2/\i.2.2.1<=(i.1:Int)/\DV e i.1 i.2.1 i.2.2.1 i.2.2.2=bD x e) (λi=>i.1) (x.toNat,yp x,(aV x 2).2,3) #[_,rfl,v,.f,rfl] ?_;rintro⟨n,fs,l,b⟩ U' ⟨r,rfl,I,S,t⟩;dsimp only at *;have p:=I.pos;have F:=I.b3;obtain⟨B,k⟩:=Fz I;cases n with
 |zero=>lia
 |succ n =>
 refine#[_,qP (M:=Int) (ae 5) lH,λh=>?_,λh=>?_]
 .cases c:qu l b e with
  |none=>rw[c] at h;cases h
  |some d =>
   obtain⟨R,α,Γ,X,D,T⟩:=ki .b .b c;obtain⟨J,V,L,W⟩:=xl (show 2<=d by lia) p D;refine ao 2 dy.nd (aA u (o.mono .a) rfl (ae 4) (c_ (M:=Int) (a:=d) (ae 5)) #[.b,.b,Sm.le (m:=62) (by unfold Sm;lia) .a]) ?_;refine oB 3 rfl (gZ (b':=Á) (bS (c_ (M:=Int) (a:=d) (ae 5)) (br .C))) (by have:=Bh k h2;lia) ?_;refine ao 4 dy.nd (bO .C) ?_;refine ao 5 dy.nd (dJ y (o.mono .a) rfl (ae 4) (bQ (c_ (M:=Int) (a:=d) (ae 5)) af) .B #[.b,g _ J .b,.b,.b,.b,.b]) ?_;refine aK #[(n,fs++[(d,(aV l d).1)],(aV l d).2,d+2),#[_,rfl,I.step c,.f,?_],.f];rw[<-t];show _=DV e (n+1) fs l b;rw[DV,c]
 .have c:qu l b e=none:=by
   cases hz:qu l b e with
   |none=>rfl
   |some d=>rw[hz] at h;cases h
  refine dt 3 rfl ?_;have e2:DV e (n+1) fs l b=(fs,l):=by rw[DV,c]
  rw[<-t,e2];refine au (bS .D (ae 4)) ?_;rfl
abbrev Wl(P w K mg base):=aH P w K mg base 3 "divided" ["k","end"] (cM K QO Á bD)
def Ki(g:⇑Wl)(x:Int)(hp:1<=x/\x<2^60):⇑Body Cb "parts" xh f 3 [.val Â x] (RT Á (pK x)):=by
 intro d A outer s H E h;have c:Sm 900 x:=Sm.le (m:=60) (by unfold Sm;lia) .a;refine ao 1 rZ.nd (aA g (h.mono .a) rfl .A (bQ .A af) #[hp.1,c,.b,.b]) ?_;refine ao 2 rZ.nd (kW (av fD (bO .B) af) (λ_=>(c8 (M:=Int×Int) (ay (bS (bO .B) af) bF) (X6 rfl))) λ_=>(c8 (M:=Int×Int) bF (X6 rfl))) ?_;obtain⟨b,I,_⟩:=lj (e:=x+1) hp.1;obtain⟨_,a⟩:=Fz I;have i:=Bh a c;refine au (Ep (br .B) .C ?_) ?_
 .split
  .show _+1<=1000;lia
  .show _+0<=1000;lia
 .show Bd.val _ _=Bd.val _ _;unfold pK;congr 2;by_cases z:1<(bD x (x+1)).2
  .rw[Xc z,Xc ↑z]
  .rw[W_ z,W_ ↑z]
def Np(k:Int):Option (List (Int×Int)×Int) :=
 if 1<(bD k 32768).2/\(bD k 32768).2<1073741824 then À ((bD k 32768).1++[((bD k 32768).2,1)],1) else (tq (bD k 32768).2).map λq=>((bD k 32768).1,q)
abbrev Wm(P w K mg base):=aH P w K mg base 2 "square_root_or_none" ["k"] (cH K (λk=>Sm 8000 k) Á tq)
def xw(o:uB mg "GREAT_PRIMES_FROM" 32768)(n:uB mg "GREAT_FROM" 1073741824)(l:⇑Wl)(k:⇑Wm)(x:Int)(hp:1<=x/\Sm 900 x):
  Body P w K mg base m_ "tame_parts" jK f 3 [.val Â x] (RT Á (Np x)):=by
 intro j A outer s H E g;refine ao 1 iN.nd (aA l (g.mono .a) rfl .A (uO rfl o) #[hp.1,hp.2,.a,.a]) ?_;obtain⟨b,I,_⟩:=lj (e:=32768) hp.1;obtain⟨m,c⟩:=Fz I;have p:=Bh c hp.2;have i:=I.pos;refine aF (Cz gi gi af (bO .B) (uO rfl n)) (λd=>?_) (λd=>?_)
 .have e:Np x=À ((bD x 32768).1++[((bD x 32768).2,1)],1):=Xc ↑d;rw[e];exact au (jA (bS (Ep (br .B) (c8 (M:=Int×Int) (b:=Á) (ay (gZ (b':=Á) (bS (bO .B) af)) bF) (X6 rfl)) (by show _+1<=1000;lia)) af)) rfl
 have e:Np x=(tq (bD x 32768).2).map λq=>((bD x 32768).1,q):=W_ ↑d;rw[e];refine ao 2 iN.nd (aD k (g.mono .a) rfl (bO .B) (Sm.le (Sm.of_le .b hp.2) .a)) ?_;cases t:tq (bD x 32768).2 with
 |none=>exact au (kW (M:=Option (List (Int×Int)×Int)) (x:=none) (y:=none) (uU (M:=Int) (x:=none) .C lH) (λ_=>kC (M:=List (Int×Int)×Int)) λh=>absurd h .a) rfl
 |some r =>
  refine au (kW (M:=Option (List (Int×Int)×Int)) (x:=none) (y:=À ((bD x 32768).1,r)) (uU (M:=Int) (x:=À r) .C lH) (λh=>absurd h Xx) λ_=>jA (bS (br .B) (c_ (M:=Int) (a:=r) .C))) ?_;rfl
def QC(b e:Int):Int:=b^e.toNat
def Rk(b e:Int):Prop:=1<=b/\0<=e/\e<2^62/\Sm 1000 (b^e.toNat)/\Sm 1000 b
def y_(a:1<=b){m:Nat}(h:m<=n):b^m<=b^n:=by
 obtain⟨d,rfl⟩:∃d,n=m+d:=#[n-m,.b];rw[Yz];exact jL (Yj .b) (by have:=Yj (n:=b) (m:=d) .b;lia)
def Ik(b e:Int)(hp:Rk b e):⇑Body Co "power" vX f kk [.val Â b,.val Â e] (RT Á (QC b e)):=by
 intro d A outer s H E j;obtain⟨h1,h2,c,a,g⟩:=hp;refine ao 2 nV.nd af ?_;refine eI (n:=e) (λi U=>∃r,U=[À (.val Â b),À (.val Â e),À (.val Á (b^i)),r]) rfl B.range (cV 3 nV.nd) .B .b c #[none,by rw[X1];rfl] ?_ ?_
 .rintro i U' hi ⟨r,rfl⟩
  have h:Sm 1000 (b^i):=by
   have:=y_ h1 (YF hi);have:=Yj (n:=b) (m:=i) .b;exact Sm.of_le .b a
  refine ao 2 nV.nd (aE .C .A (h.ok g)) ?_;exact aK #[_,by rw[XE];rfl]
 .rintro U' ⟨r,rfl⟩;exact au .C rfl
def Kt{M β:Type}[Py M][Py β](K:Ã)(N:Nn)(H:Hp)(a:M×β):¬Py.rp K N H .non a:=fun⟨_,_,_,e,_⟩=>nomatch e
def oE(i:Int):(if i<0 then -i else i)=(i.natAbs:Int):=by split<;>lia
def Ol(u:Int×Int):Prop:=u.1≠0/\1<=u.2/\Sm 400 u.1/\Sm 400 u.2/\Tame (u.1.natAbs*u.2)
def FP{k:Int}(a:1<=k)(c:Tame k):Np k=À (qI k):=by
 obtain⟨h1,_,_,_⟩:=AN a c;obtain⟨b,I,_⟩:=lj (k:=k) (e:=32768) a;have hp:=I.pos;unfold Np qI;by_cases z:1<(bD k 32768).2/\(bD k 32768).2<1073741824
 .rw[Xc z,Xc z]
 .rw[W_ z,W_ z]
  have h2:rt (bD k 32768).2*rt (bD k 32768).2=(bD k 32768).2:=by
   rcases h1 with h1|h1
   .exact absurd h1 z
   .exact h1
  unfold tq;rw[W_ .b,Xc h2];rfl
abbrev Wn(P w K mg base):=aH P w K mg base 2 "fraction" ["top","bottom"] (cM K R1 Á fr)
def Ke(X:⇑aH 1 "power" ["base","exponent"] (cM K Rk Á QC))(R:⇑Wn)(S:⇑aH 4 "tame_parts" ["k"] (cH K (λk=>1<=k/\Sm 900 k) Á Np))(u:Int×Int)(hp:Ol u):
  Body P w K mg base BN "freed" vL f 4 [.val Â u] (RT Á (uF u)):=by
 intro V A outer s H E t;obtain⟨h0,h1,σ,D,J⟩:=hp;have l:Sm 400 (u.1.natAbs:Int):=Sm.of_le .b σ
 have F:1<=(u.1.natAbs:Int)*u.2:=by
  have:0<(u.1.natAbs:Int)*u.2:=X7 .b .b;lia
 have o:Sm 800 ((u.1.natAbs:Int)*u.2):=l.mul D;refine ao 1 g6.nd (aD S (t.mono .a) rfl (cE (aE (iH rfl B.abs (br .A)) (bO .A) (by rw[oE];exact l.ok D)) (by rw[oE])) #[F,Sm.le o .a]) ?_;rw[FP F J];obtain⟨_,⟨b,g⟩,C,d⟩:=AN F J;have y:uF u=(((qI (u.1.natAbs*u.2)).1.foldl nW (if 0<u.1 then 1 else -1,(qI (u.1.natAbs*u.2)).2)).1,fr ((qI (u.1.natAbs*u.2)).1.foldl nW (if 0<u.1 then 1 else -1,(qI (u.1.natAbs*u.2)).2)).2 u.2):=rfl;rw[y];generalize (u.1.natAbs:Int)*u.2=k at *;generalize hT:qI k=T at *;refine aF (uU (M:=List (Int×Int)×Int) (x:=À T) .B Kt) (λh=>absurd h .c) (λh=>?_);refine ao 2 g6.nd (kW (av fD (br .A) af) (λ_=>af) λ_=>(du af)) ?_
 have q:(if decide (0<u.1)=Á then (1:Int) else -1)=(if 0<u.1 then 1 else -1):=by
  by_cases z:0<u.1
  .rw[Xc ↑z,Xc z]
  .rw[W_ ↑z,W_ z]
 rw[q];have j:(if 0<u.1 then (1:Int) else -1)=1\/(if 0<u.1 then (1:Int) else -1)=-1:=by split<;>simp
 generalize (if 0<u.1 then (1:Int) else -1)=sg at *;refine ao 3 g6.nd (bO (c_ (M:=List (Int×Int)×Int) (a:=T) .B)) ?_;have bd:=λi=>IU g C j i;rw[d] at bd
 have Γ:pp T.1<=k:=by
  rw[<-d];exact jL (jM .a g) (by have:=X7 C C;lia)
 refine qh (λi U=>∃r,U=[À (.val Â u),À (.val Á (À T)),À (.val Á ((T.1.take i).foldl nW (sg,T.2)).1),À (.val Á ((T.1.take i).foldl nW (sg,T.2)).2),r]) (cV 4 g6.nd) (bc (br (c_ (M:=List (Int×Int)×Int) (a:=T) .B))) #[none,rfl] ?_ ?_
 .rintro i v U' G ⟨r,rfl⟩;obtain⟨b1,b2,b3⟩:=bd i;obtain⟨Z,v2,v3,v4,v5⟩:=Iv g G;have α:(T.1.take (i+1)).foldl nW (sg,T.2)=nW ((T.1.take i).foldl nW (sg,T.2)) v:=pF G;rw[α];generalize (T.1.take i).foldl nW (sg,T.2)=c at *;have sn:Sm 800 c.1:=Sm.of_le b1 o;have N:Sm 800 c.2:=Sm.of_le .b o;have I:Sm 800 v.1:=Sm.of_le .b o;have sp:Sm 800 (v.1^(v.2/2).toNat):=Sm.of_le (by have:=Yj (n:=v.1) (m:=(v.2/2).toNat) .b;lia) o;have p:v.2.fdiv 2=v.2/2:=X9 _ .a
  have L:v.2<2^62:=by
   apply Xf;intro hn
   have g1:(2:Int)^900<=v.1^(v.2/2).toNat:=by
    have a1:(2:Int)^900<=2^(v.2/2).toNat:=y_ .a .b
    have O:∀n:Nat,(2:Int)^n<=v.1^n:=λn=>by
     induction n with
     |zero=>rw[X1,X1];decide
     |succ n W =>
      rw[XE,XE];exact X_ W Z .a (Zs (Yj .b))
    have:=O (v.2/2).toNat;lia
   have g2:(v.1^(v.2/2).toNat).natAbs<2^800:=sp;have g3:((2:Int)^800)<2^900:=by decide +kernel
   have g4:((2^800:Nat):Int)=(2:Int)^800:=by decide +kernel
   lia
  refine nH (λU=>U=[À (.val Â u),À (.val Á (À T)),À (.val Á (if v.2%2=1 then c.1*v.1 else c.1)),À (.val Á c.2),À (.val Á v)]) (av ax (aR (bO (ae 4)) af .a) af) (λh=>?_) (λh=>?_) ?_
  .have e:v.2%2=1:=by simpa [bB] using h
   rw[Xc e];exact ao 2 g6.nd (aE .C (br (ae 4)) (sn.ok I)) (aK rfl)
  .have e:¬v.2%2=1:=by simpa [bB] using h
   rw[W_ e];exact aK rfl
  rintro U' rfl;refine ao 3 g6.nd (aE .D (aA X (t.mono .a) rfl (br (ae 4)) (a8 (bO (ae 4)) af vn) #[.b,by rw[p];lia,by rw[p];lia,by rw[p];exact Sm.le sp .a,Sm.le I .a]) (by show ě c.2 (v.1^(v.2.fdiv 2).toNat);rw[p];exact N.ok sp)) ?_;refine aK #[À (.val Á v),?_];unfold nW QC;rw[p];rfl
 .rintro U' ⟨r,rfl⟩;rw[YB];refine au (bS .C (aA R (t.mono .a) rfl .D (bO .A) #[.b,Sm.le D .a])) ?_;rfl
abbrev Wo(P w K mg base):=aH P w K mg base 1 "power_by" ["base","exponent","m"] (vg K (λ_ e m=>0<=e/\1<=m/\m<2^62) Á zG)
def yb(i:⇑Wo)(x p:Int)(hp:2<=p)(b:p<2^62):⇑Body qd "square_by" k6 f 1 [.val Â x,.val Â p] (RT Á (bp x p)):=by
 intro g A outer s H E h;have d:(p-1).fdiv 2=(p-1)/2:=X9 _ .a;refine ao 2 nv.nd (aR .A .B .b) ?_;rw[bB (show 1<=p by lia)];refine aF (TW.t (vq (av ax .C af) λ_=>(pW (av ax .B af)))) (λc=>?_) (λc=>?_)
 .have a:x%p=0\/p=2:=by simpa using c
  have e:bp x p=x%p:=by
   unfold bp;by_cases z:x%p=0
   .rw[Xc z,z]
   .rcases a with w|w
    .exact absurd w z
    .rw[W_ z,Xc w];subst w;lia
  rw[e];exact au .C rfl
 .have a:¬(x%p=0\/p=2):=by simpa using c
  refine au (kW (av ax (dJ i (h.mono .a) rfl .C (a8 (eO .B af) af vn) .B #[by rw[d];lia,.b,b]) af) (λ_=>af) λ_=>(du af)) ?_;show Bd.val _ _=Bd.val _ _;unfold bp zG;rw[W_ (λz=>a (.inl z)),W_ (λz=>a (.inr z)),d];congr 1;by_cases z:(x%p)^((p-1)/2).toNat%p=1
  .rw[Xc z,Xc ↑z]
  .rw[W_ z,W_ ↑z]
def Sa(k m:Int):Prop:=Ê k m=1/\2<=m/\m<2^62
def DQ(x m:Int)(y:Ê x m=1)(o:2<=m)(z:m<2^62):⇑Body vw "back_by" pT f kk [.val Â x,.val Â m] (RT Á (vh x m)):=by
 intro B A outer s H E F;refine ao 2 bT.nd (gZ (b':=Á) .B) ?_;refine ao 3 bT.nd (aR .A .B .b) ?_;rw[bB .b];refine ao 4 bT.nd af ?_;refine ao 5 bT.nd af ?_;refine cz (ι:=Int×Int×Int×Int) (λi U=>(∃j l g,U=[À (.val Â x),À (.val Â m),À (.val Á i.1),À (.val Á i.2.1),À (.val Á i.2.2.1),À (.val Á i.2.2.2),j,l,g])/\∃u v s,DW x m i.1 i.2.1 i.2.2.1 i.2.2.2 u v s) (λi=>i.2.1.toNat) (m,x%m,0,1) #[#[none,none,none,rfl],0,1,1,Q.DW.start o y] ?_;rintro⟨r,b,q,h⟩ U' ⟨⟨j,l,g,rfl⟩,u,v,s,I⟩;dsimp only at I ⊢;have C:=I.r0;have p:=I.b0;have D:=I.lt;have L:=I.rm;have G:=I.bd;have k:∀{a c:Int},a.natAbs<=m->c.natAbs<=m->ě a c:=λ{a c} h1 h2=>(show Sm 70 a by unfold Sm;lia).ok (show Sm 70 c by unfold Sm;lia);refine#[_,av gD .D af,λe=>?_,λe=>?_]
 .have d:b≠0:=by simpa using e
  have st:=I.step d;have t:r.fdiv b=r/b:=X9 _ p;have J:0<=r/b:=aaF .b p
  have q1:r/b<=m:=by
   have:=υ b (show 0<=r by lia);lia
  refine ao 6 bT.nd (a8 .C .D (Sm.div (n:=70) (by unfold Sm;lia) d)) ?_;rw[t];refine ao 7 bT.nd (eO .C (aE (ae 6) .D (k .b .b))) ?_;refine ao 8 bT.nd (eO (ae 4) (aE (ae 6) (ae 5) (k .b .b))) ?_;refine ao 2 bT.nd .D ?_;refine ao 3 bT.nd (ae 7) ?_;refine ao 4 bT.nd (ae 5) ?_;refine ao 5 bT.nd (ae 8) ?_;have N:=st.lt;have α:=st.b0;exact aK #[(b,r-r/b*b,h,q-r/b*h),#[#[_,_,_,rfl],v,u+r/b*v,-s,st],.f]
 .have d:b=0:=by simpa using e
  subst d;rw[I.done o,<-bB (show 1<=m by lia)];exact au (aR (ae 4) .B .b) rfl
abbrev Wq(P w K mg base):=aH P w K mg base 2 "square_by" ["k","p"] (cM K (λ_ p=>2<=p/\p<2^62) Á bp)
def nN(h:⇑Wq)(p:Int)(g:NR p)(hp:2<=p/\p<2^62):⇑Body iD "least_no_square" fw f 2 [.val Â p] (RT Á (j9 p)):=by
 intro e A outer s H E i;obtain⟨o,m,n⟩:=mC g;refine ao 1 eG.nd af ?_;refine cz (ι:=Int) (λk U=>U=[À (.val Â p),À (.val Á k)]/\2<=k/\k<=j9 p) (λk=>(j9 p-k).toNat) 2 #[rfl,.a,o] ?_;rintro k U' ⟨rfl,c,l⟩;refine#[_,av gD (aA h (i.mono .a) rfl .B .A hp) (du af),λb=>?_,λb=>?_]
 .have a:bp k p≠-1:=by simpa using b
  have d:k≠j9 p:=by rintro rfl;exact a m
  exact ao 1 eG.nd (bQ .B af) (aK #[k+1,#[rfl,.b,.b],.b])
 .have a:bp k p=-1:=by simpa using b
  have j:k=j9 p:=by
   rcases Zn l with z|z
   .exact absurd a (n k c z)
   .exact z
  rw[<-j];exact au .B rfl
def RA(e p:Int):Prop:=(∃n:Nat,Cg p (e^2^n) 1)/\(0<=e/\e<p)/\2<=p/\p<2^62
def ye(e p:Int)(hp:RA e p):⇑Body qg "squarings" k_ f kk [.val Â e,.val Â p] (RT Á (jC e p)):=by
 intro j A outer s H E t;obtain⟨⟨n,l⟩,he,p2,u⟩:=hp;obtain⟨⟨q,h,m⟩,_⟩:=Ew l;refine ao 2 gK.nd af ?_;refine cz (ι:=Bool×Nat×Int) (λi U=>U=[À (.val i.1 i.2.2),À (.val Â p),À (.val Á (i.2.1:Int))]/\Cg p i.2.2 (e^2^i.2.1)/\(0<=i.2.2/\i.2.2<p)/\(i.2.1:Int)<=jC e p) (λi=>(jC e p-(i.2.1:Int)).toNat) (Â,0,e) #[rfl,by show Cg p e (e^1);rw[XE,X1,Yb];exact iI _ _,he,q] ?_;rintro⟨r,i,k⟩ U' ⟨rfl,b,c,hi⟩;dsimp only at *;refine#[_,av gD .A af,λd=>?_,λd=>?_]
 .have a:k≠1:=by simpa using d
  have g:¬Cg p (e^2^i) 1:=λz=>a (Le c #[.a,.b] (cu b z))
  have o:(i:Int)<jC e p:=by
   rcases Zn hi with z|z
   .exact z
   .rw[<-z,Õ] at h;exact absurd h g
  refine ao 0 gK.nd (aR (aE .A .A (mulL .b .b)) .B .b) ?_;refine ao 2 gK.nd (bQ .C af) ?_;rw[bB .b];refine aK #[(Á,i+1,k*k%p),#[rfl,?_,#[XO _ .b,XF _ .b],.f],.f];dsimp only;refine cu (eX _ _) ?_;rw[show(2:Nat)^(i+1)=2^i+2^i by rw[Z_];lia,Yz];exact iL b b
 .have a:k=1:=by simpa using d
  have heq:(i:Int)=jC e p:=by
   rcases Zn hi with z|z
   .rw[a] at b;exact absurd (vS b) (m i z)
   .exact z
  rw[<-heq];exact au .C rfl
def Q5(k p:Int):Prop:=aO p=Á/\p≠2/\p<2^60/\(0<=k/\k<p)/\bp k p=1/\NR p
abbrev Wr(P w K mg base):=aH P w K mg base 3 "least_no_square" ["p"] (cH K (λp=>NR p/\2<=p/\p<2^62) Á j9)
def pB(F:⇑Wk)(q:⇑Wo)(V:⇑Wr)(N:⇑aH 1 "squarings" ["k","p"] (cM K RA Á jC))
  (k p:Int) (hp:Q5 k p):⇑Body iY "root_of_square" fW f 3 [.val Â k,.val Â p] (RT Á (HR k p)):=by
 intro R A outer s H E d;obtain⟨a,h2,D,T,G,o⟩:=hp;have ho:=gh a h2;obtain⟨t1,σ,o2,_⟩:=uc a h2;have two:Sm 9000 (2:Int):=Sm.le (m:=2) (by unfold Sm;decide) .a;refine ao 2 aL.nd (aA F (d.mono .a) rfl (eO .B af) af #[.b,.a,two]) ?_;refine ao 3 aL.nd (br .C) ?_;refine ao 4 aL.nd (bO .C) ?_;have v:((aV (p-1) 2).2+1).fdiv 2=((aV (p-1) 2).2+1)/2:=X9 _ .a;refine ao 5 aL.nd (dJ q (d.mono .a) rfl .A (a8 (bQ (ae 4) af) af vn) .B #[by rw[v];lia,.b,.b]) ?_;refine ao 6 aL.nd (dJ q (d.mono .a) rfl .A (ae 4) .B #[.b,.b,.b]) ?_;refine ao 7 aL.nd (kW (av gD (ae 6) af) (λ_=>(dJ q (d.mono .a) rfl (aD V (d.mono .a) rfl .B #[o,.b,.b]) (ae 4) .B #[.b,.b,.b])) λ_=>af) ?_;have O:=yU a h2 T G o
 have em:(if (!decide (zG k (aV (p-1) 2).2 p=1))=Á then zG (j9 p) (aV (p-1) 2).2 p else 1)=(if k^(aV (p-1) 2).2.toNat%p≠1 then j9 p^(aV (p-1) 2).2.toNat%p else 1):=by
  unfold zG;by_cases z:k^(aV (p-1) 2).2.toNat%p=1
  .rw[W_ (by simp[z]),W_ (by simp[z])]
  .rw[Xc (by simp[z]),Xc z]
 rw[em,v]
 refine cz (ι:=Nat×Int×Int×Int×Int) (λi U=>∃u g,U=[À (.val Â k),À (.val Â p),À (.val Á (aV (p-1) 2)),À (.val Á i.2.1),À (.val Á (aV (p-1) 2).2),À (.val Á i.2.2.1),À (.val Á i.2.2.2.1),À (.val Á i.2.2.2.2),u,g]/\Oc p k i.2.1 i.2.2.1 i.2.2.2.1 i.2.2.2.2/\i.2.1<=(i.1:Int)/\i.2.1<2^61/\oP p i.1 i.2.1 i.2.2.1 i.2.2.2.1 i.2.2.2.2=HR k p) (λi=>i.1)
  ((aV (p-1) 2).1.toNat,(aV (p-1) 2).1,k^(((aV (p-1) 2).2+1)/2).toNat%p,k^(aV (p-1) 2).2.toNat%p,if k^(aV (p-1) 2).2.toNat%p≠1 then j9 p^(aV (p-1) 2).2.toNat%p else 1) #[none,none,rfl,O,.f,?_,rfl] ?_
 .dsimp only;obtain⟨b1,b2,b3⟩:=e9 (show(2:Int)<=2 by decide) (show p-1≠0 by lia);apply Xf;intro o
  have g1:((aV (p-1) 2).1.toNat:Int)<(2:Int)^(aV (p-1) 2).1.toNat:=by
   have:=Nat.lt_two_pow_self (n:=(aV (p-1) 2).1.toNat);have c1:((2^(aV (p-1) 2).1.toNat:Nat):Int)=(2:Int)^(aV (p-1) 2).1.toNat:=by rw[aaH];rfl
   lia
  have X:1*(2:Int)^(aV (p-1) 2).1.toNat<=(aV (p-1) 2).2*2^(aV (p-1) 2).1.toNat:=Yg .b .b;lia
 rintro⟨n,t,r,e,m⟩ U' ⟨u,g,rfl,I,J,S,c⟩;dsimp only at *;have y:=I.t1;cases n with
 |zero=>lia
 |succ n =>
 refine#[_,av gD (ae 6) af,λl=>?_,λl=>?_]
 .have he:e≠1:=by simpa using l
  obtain⟨Z,C,α,Γ⟩:=I.step a he;have ie:=I.e0;have ir:=I.r0;refine ao 8 aL.nd (aA N (d.mono .a) rfl (ae 6) .B #[#[_,I.ee],I.e0,.b,.b]) ?_;refine eI (λj U=>∃g,U=[À (.val Â k),À (.val Â p),À (.val Á (aV (p-1) 2)),À (.val Á t),À (.val Á (aV (p-1) 2).2),À (.val Á r),À (.val Á e),À (.val Á (mq p m j)),À (.val Á (jC e p)),g]) rfl B.range (cV 9 aL.nd) (eO (eO .D (ae 8)) af) .b .b #[_,rfl] ?_ ?_
  .rintro j U' W ⟨g,rfl⟩;have L:=Fc (show 0<p by lia) I.m0 j;refine ao 7 aL.nd (aR (aE (ae 7) (ae 7) (mulL .b .b)) .B .b) ?_;rw[bB .b];exact aK #[_,rfl]
  .rintro U' ⟨g,rfl⟩;have L:=Fc (show 0<p by lia) I.m0 (t-jC e p-1).toNat;have b:oP p (n+1) t r e m=oP p n (jC e p) (r*mq p m (t-jC e p-1).toNat%p) (e*(mq p m (t-jC e p-1).toNat*mq p m (t-jC e p-1).toNat%p)%p) (mq p m (t-jC e p-1).toNat*mq p m (t-jC e p-1).toNat%p):=by rw[oP,W_ he]
   rw[b] at c;generalize mq p m (t-jC e p-1).toNat=x at *;refine ao 5 aL.nd (aR (aE (ae 5) (ae 7) (mulL .b .b)) .B .b) ?_;refine ao 7 aL.nd (aR (aE (ae 7) (ae 7) (mulL .b .b)) .B .b) ?_;refine ao 6 aL.nd (aR (aE (ae 6) (ae 7) (mulL .b .b)) .B .b) ?_;refine ao 3 aL.nd (ae 8) ?_;rw[bB .b,bB .b,bB .b];exact aK #[(n,jC e p,r*x%p,e*(x*x%p)%p,x*x%p),#[_,_,rfl,Γ,.f,.f,c],.f]
 .have he:e=1:=by simpa using l
  have h:oP p (n+1) t r e m=r:=by rw[oP,Xc he]
  rw[<-c,h];exact au (ae 5) rfl
def RU(k p:Int):Prop:=aO p=Á/\p<2^60
def qT(o:⇑Wq)(m:⇑aH 4 "root_of_square" ["k","p"] (cM K Q5 Á HR))(k p:Int)(hp:RU k p):⇑Body jZ "root_by_prime" gF f 4 [.val Â k,.val Â p] (RT Á (xi k p)):=by
 intro l A outer s H E j;obtain⟨b,h⟩:=hp;have d:=aq b;refine ao 2 i9.nd (aA o (j.mono .a) rfl .A .B #[d,.b]) ?_;refine aF (av ax .C (du af)) (λa=>?_) (λa=>?_)
 .have e:xi k p=none:=Xc ↑a;rw[e];exact au (kC (M:=Int)) rfl
 have h1:¬bp k p=-1:=by simpa using a
 refine aF (TW.t (vq (av ax .C af) λ_=>(pW (av ax .B af)))) (λa=>?_) (λa=>?_)
 .have e:xi k p=À (bp k p):=by unfold xi;rw[W_ h1,Xc ↑a]
  rw[e];exact au (jA .C) rfl
 have g:¬(bp k p=0\/p=2):=by simpa using a
 have e:xi k p=À (HR (k%p) p):=by unfold xi;rw[W_ h1,W_ g]
 have h2:p≠2:=λz=>g (.inr z);have n:=mh b h2;have i:¬p∣k:=λz=>g (.inl (c9 z));have c:bp k p=1:=by rcases bu i with z|z<;>lia
 rw[e,<-bB (show 1<=p by lia)];refine au (jA (aA m (j.mono .a) rfl (aR .A .B .b) .B #[b,h2,h,?_,?_,n])) rfl
 .rw[bB .b];exact#[XO _ .b,XF _ .b]
 .rwa[bB .b,wI]
def RP(a m o p:Int):Prop:=(0<=a/\a<m)/\(0<=o/\o<p)/\Ê m p=1/\m<2^60/\2<=p/\p<2^60
def xa(i:⇑aH 1 "back_by" ["k","m"] (cM K Sa Á vh))(a m o p:Int)(hp:RP a m o p):⇑Body mK "with_rests" jx f 1 [.val Â a,.val Â m,.val Â o,.val Â p] (RT Á (zF a m o p)):=by
 intro g A outer s H E h;obtain⟨⟨k,q⟩,⟨o0,l⟩,b,r,h2,j⟩:=hp;obtain⟨n,b1,_⟩:=K1 h2 b;have u:=XO ((o-a)*vh m p) (show p≠0 by lia);have t:=XF ((o-a)*vh m p) (show 0<p by lia);have e:((o-a)*vh m p).fmod p=(o-a)*vh m p%p:=bB .b;have d:∀{a c:Int},a.natAbs<2^64->c.natAbs<2^64->ě a c:=λ{a c} h1 h2=>(show Sm 64 a from h1).ok (show Sm 64 c from h2);refine au (bQ .A (aE .B (aR (aE (eO .C .A) (aA i (h.mono .a) rfl .B .D #[b,h2,.b]) (d .b .b)) .D .b) (d .b (by rw[e];lia)))) ?_;show Bd.val _ _=Bd.val _ _;unfold zF;rw[e]
abbrev Ws(P w K mg base):=aH P w K mg base 4 "parts" ["k"] (cH K (λk=>1<=k/\k<2^60) Á pK)
def DZ(σ:⇑Ws)(T3:⇑aH 5 "root_by_prime" ["k","p"] (cM K RU Á xi))(W:⇑aH 2 "with_rests" ["one","m","other","p"] (HY K RP Á zF))(k m:Int)(Γ:1<=m)(J:m<2^60):⇑Body u_ "root_by" oN f 5 [.val Â k,.val Â m] (RT Á (ET k m)):=by
 intro cdv A outer s H E F;obtain⟨⟨b,l⟩,C⟩:=oV Γ;obtain⟨_,R⟩:=HF .a l;rw[C] at R;refine ao 2 eB.nd af ?_;refine ao 3 eB.nd af ?_;have e0:ET k m=JX k (pK m) 0 1:=rfl;have y:=i7 l;have p:=(tO l).1;generalize N:pK m=us at *;rw[e0];refine pO (xs:=us) (λi U=>∃a d r T,U=[À (.val Â k),À (.val Â m),À (.val Á a),À (.val Á d),r,T]/\HZ k a d ((us.take i).map (·.1))/\JX k us 0 1=JX k (us.drop i) a d/\d*dp (us.drop i)<=m/\1<=dp (us.drop i)) (cV 4 eB.nd) (cE (aD σ (F.mono .a) rfl .B #[Γ,J]) N) #[0,1,none,none,rfl,Q.HZ.zero k,rfl,by show 1*dp us<=m;lia,by show 1<=dp us;lia] ?_ ?_
 .rintro i u U' t ⟨a,d,r,T,rfl,I,c,G,h⟩;obtain⟨up,u1⟩:=y u (Xg t);have α:=aq up;rw[FQ t] at c G h;have O:d*(u.1*dp (us.drop (i+1)))<=m:=G;have n:1<=u.1*dp (us.drop (i+1)):=h
  have g:1<=dp (us.drop (i+1)):=by
   apply Xf;intro V;have:u.1*dp (us.drop (i+1))<=0:=X5 .b .b;lia
  have d1:=I.d1
  have ub:u.1<=m/\d<=m:=by
   have t1:u.1*1<=u.1*dp (us.drop (i+1)):=Xp g .b;have t2:d*1<=d*(u.1*dp (us.drop (i+1))):=Xp n .b;have t3:1*(u.1*dp (us.drop (i+1)))<=d*(u.1*dp (us.drop (i+1))):=Yg d1 .b;lia
  refine ao 5 eB.nd (aA T3 (F.mono .a) rfl .A (br (ae 4)) #[up,by show u.1<2^60;lia]) ?_;rw[JX] at c;cases S:xi k u.1 with
  |none =>
   rw[S] at c;refine aF (uU (M:=Int) (x:=none) (ae 5) lH) (λ_=>?_) (λL=>absurd L .a);rw[c];exact au (kC (M:=Int)) rfl
  |some q =>
   rw[S] at c
   have V:u.1∉(us.take i).map (·.1):=λz=>by
    obtain⟨v,Z,e⟩:=Xs.mp z;obtain⟨j,B⟩:=List.getElem?_of_mem Z
    have o:j<i:=by
     have:=(Xl.mp B).1;rw[Y8] at this;lia
    rw[abY o] at B;have D:=abS.mp p j i (by rw[Xk];exact(Xl.mp B).1) (by rw[Xk];exact(Xl.mp t).1) o;rw[Ρ,Ρ,(Xl.mp B).2,(Xl.mp t).2] at D;lia
   obtain⟨I',X,q0,q1⟩:=I.step up V S;refine aF (uU (M:=Int) (x:=À q) (ae 5) lH) (λL=>absurd L Xx) (λ_=>?_);refine ao 2 eB.nd (wN W (F.mono .a) rfl .C .D (c_ (M:=Int) (a:=q) (ae 5)) (br (ae 4)) #[#[I.a0,I.a1],#[q0,q1],X,.b,α,by show u.1<2^60;lia]) ?_;refine ao 3 eB.nd (aE .D (br (ae 4)) ((show Sm 64 d by unfold Sm;lia).ok (show Sm 64 u.1 by unfold Sm;lia))) ?_;refine aK #[zF a d q u.1,d*u.1,_,_,rfl,?_,c,by rwa[XT],g];rw[abo,t];simpa using I'
 .rintro U' ⟨a,d,r,T,rfl,I,c,G,h⟩;rw[List.drop_length] at c;rw[c];exact au (jA .C) rfl
def AE(d:⇑Wk)(h:⇑Wq)(x p:Int)(g:x≠0)(hp:2<=p)(a:p<2^62):⇑Body mE "class_at" jv f 2 [.val Â x,.val Â p] (RT Á (cls x p)):=by
 intro e A outer s H E c;refine aF (av ax .B af) (λb=>?_) (λb=>?_)
 .exact absurd (show p=0 by simpa using b) .b
 refine ao 2 eP.nd (aA d (c.mono .a) rfl .A .B #[g,hp,Sm.le (m:=62) (by unfold Sm;lia) .a]) ?_;refine ao 3 eP.nd (kW (av ax .B af) (λ_=>(aR (bO .C) af .a)) λ_=>(aA h (c.mono .a) rfl (bO .C) .B #[hp,a])) ?_;refine au (bS (aR (br .C) af .a) .D) ?_;show Bd.val _ _=Bd.val _ _;unfold cls;rw[bB .a,bB .a];congr 2;by_cases z:p=2
 .rw[Xc z,Xc ↑z]
 .rw[W_ z,W_ ↑z]
def tQ(k p:Int):Int⊕(Int×Int):=if p=0 then .inl (if 0<k then 1 else -1) else .inr (cls k p)
def zb(h:⇑Wk)(j:⇑Wq)(x p:Int)(g:x≠0)(hp:p=0\/(2<=p/\p<2^62)):⇑Body mE "class_at" jv f 2 [.val Â x,.val Â p] (RT Á (tQ x p)):=by
 intro i A outer s H E d;refine aF (av ax .B af) (λb=>?_) (λb=>?_)
 .have e:tQ x p=.inl (if decide (0<x)=Á then 1 else -1):=by
   unfold tQ;rw[Xc ↑b];congr 1;by_cases z:0<x
   .rw[Xc z,Xc ↑z]
   .rw[W_ z,W_ ↑z]
  rw[e];exact au (K2 (β:=Int×Int) (kW (av fD .A af) (λ_=>af) λ_=>(du af))) rfl
 have c:¬p=0:=by simpa using b
 have a:2<=p/\p<2^62:=by omega
 refine ao 2 eP.nd (aA h (d.mono .a) rfl .A .B #[g,a.1,Sm.le (m:=62) (by unfold Sm;omega) .a]) ?_;refine ao 3 eP.nd (kW (av ax .B af) (λ_=>(aR (bO .C) af .a)) λ_=>(aA j (d.mono .a) rfl (bO .C) .B a)) ?_;refine au (GY (M:=Int) (bS (aR (br .C) af .a) .D)) ?_;show Bd.val _ _=Bd.val _ _;unfold tQ cls;rw[bB .a,bB .a,W_ c];congr 3;by_cases z:p=2
 .rw[Xc z,Xc ↑z]
 .rw[W_ z,W_ ↑z]
def As(x y:Int×Int):⇑Body tu "two_says" lV f kk [.val Â x,.val Â y] (RT Á (fB x y)):=by
 intro c A outer s H E d;refine ao 2 gg.nd af ?_;refine nH (λU=>U=[À (.val Â x),À (.val Â y),À (.val Á (0+b1 (decide (x.2.fmod 4=3)&&decide (y.2.fmod 4=3))))]) (TW.t (kX (av ax (aR (bO .A) af .a) af) λ_=>(jt (av ax (aR (bO .B) af .a) af)))) (λb=>?_) (λb=>?_) ?_
 .exact ao 2 gg.nd (bQ .C af) (aK (by rw[b];rfl))
 .exact aK (by rw[b];rfl)
 rintro U' rfl;refine nH (λU=>U=[À (.val Â x),À (.val Â y),À (.val Á (0+b1 (decide (x.2.fmod 4=3)&&decide (y.2.fmod 4=3))+b1 (decide (x.1=1)&&(decide ((3:Int)=y.2) || decide ((5:Int)=y.2)))))]) (TW.t (kX (av ax (br .A) af) λ_=>(jt (av Ga (bO .B) (bS af af))))) (λb=>?_) (λb=>?_) ?_
 .exact ao 2 gg.nd (bQ .C af) (aK (by rw[b];rfl))
 .exact aK (by rw[b];show [_,_,_]=[_,_,_];simp[b1])
 rintro U' rfl;refine nH (λU=>U=[À (.val Â x),À (.val Â y),À (.val Á (0+b1 (decide (x.2.fmod 4=3)&&decide (y.2.fmod 4=3))+b1 (decide (x.1=1)&&(decide ((3:Int)=y.2) || decide ((5:Int)=y.2)))+b1 (decide (y.1=1)&&(decide ((3:Int)=x.2) || decide ((5:Int)=x.2)))))]) (TW.t (kX (av ax (br .B) af) λ_=>(jt (av Ga (bO .A) (bS af af))))) (λb=>?_) (λb=>?_) ?_
 .exact ao 2 gg.nd (bQ .C af) (aK (by rw[b];rfl))
 .exact aK (by rw[b];show [_,_,_]=[_,_,_];simp[b1])
 rintro U' rfl;refine au (fE ax (aR .C af .a) af) ?_;show Bd.val _ _=Bd.val _ _;unfold fB;congr 1;rw[bB .a,bB .a,bB .a,abc];simp only[eq_comm (a:=(3:Int)),eq_comm (a:=(5:Int))]
def vG(x p:Int):-2<=bp x p/\bp x p<=2:=by
 unfold bp
 repeat' split
 all_goals decide
def Ai(e:⇑Wq)(x y:Int×Int)(p:Int)(hp:(-2<=x.2/\x.2<=2)/\(-2<=y.2/\y.2<=2)/\2<=p/\p<2^62):⇑Body sI "odd_says" mj f 2 [.val Â x,.val Â y,.val Â p] (RT Á (CZ x y p)):=by
 intro d A outer s H E g;obtain⟨i,j,c,b⟩:=hp;have h:=vG (-1) p;refine ao 3 gb.nd af ?_;refine nH (λU=>U=[À (.val Â x),À (.val Â y),À (.val Â p),À (.val Á (1*(if x.1=1 then y.2 else 1)))]) (av ax (br .A) af) (λa=>?_) (λa=>?_) ?_
 .exact ao 3 gb.nd (aE .D (bO .B) (mulL .a .a)) (aK (by rw[Xc ↑a];rfl))
 .exact aK (by rw[W_ ↑a];rfl)
 rintro U' rfl;refine nH (λU=>U=[À (.val Â x),À (.val Â y),À (.val Â p),À (.val Á (1*(if x.1=1 then y.2 else 1)*(if y.1=1 then x.2 else 1)))]) (av ax (br .B) af) (λa=>?_) (λa=>?_) ?_
 .exact ao 3 gb.nd (aE .D (bO .A) (mulR .e .e)) (aK (by rw[Xc (show y.1=1 by simpa using a)];rfl))
 .exact aK (by rw[W_ (show ¬y.1=1 by simpa using a),XC])
 rintro U' rfl;refine nH (λU=>U=[À (.val Â x),À (.val Â y),À (.val Â p),À (.val Á (1*(if x.1=1 then y.2 else 1)*(if y.1=1 then x.2 else 1)*(if x.1=1/\y.1=1 then bp (-1) p else 1)))]) (TW.t (kX (av ax (br .A) af) λ_=>(jt (av ax (br .B) af)))) (λa=>?_) (λa=>?_) ?_
 .exact ao 3 gb.nd (aE .D (aA e (g.mono .a) rfl (du af) .C #[c,b]) (mulR .e .e)) (aK (by rw[Xc (show x.1=1/\y.1=1 by simpa using a)];rfl))
 .exact aK (by rw[W_ (show ¬(x.1=1/\y.1=1) by simpa using a),XC])
 rintro U' rfl;refine au (fE ax .D af) ?_;show Bd.val _ _=Bd.val _ _;unfold CZ;rw[Yb]
def uP(x:Int)(h2:p≠2):-2<=(cls x p).2/\(cls x p).2<=2:=by
 unfold cls;dsimp only;rw[W_ h2];exact vG _ _
abbrev Wu(P w K mg base):=aH P w K mg base 3 "odd_says" ["one","other","p"] (vg K (λx y p=>(-2<=x.2/\x.2<=2)/\(-2<=y.2/\y.2<=2)/\2<=p/\p<2^62) Á CZ)
abbrev Wt(P w K mg base):=aH P w K mg base 3 "class_at" ["k","p"] (cM K (λk p=>k≠0/\2<=p/\p<2^62) Á cls)
def M_(i:⇑Wt)(l:⇑aH 1 "two_says" ["one","other"] (cM K (λ_ _=>True) Á fB))
  (j:⇑Wu) (a b p:Int) (ha:a≠0) (k:b≠0) (hp:p=0\/(2<=p/\p<2^62)):⇑Body Hd "says" AZ f 3 [.val Â a,.val Â b,.val Â p] (RT Á (az a b p)):=by
 intro m A outer s H E d;refine aF (av ax .C af) (λh=>?_) (λh=>?_)
 .have g:p=0:=by simpa using h
  have e:az a b p=(decide (0<a) || decide (0<b)):=Xc g;rw[e];exact au (DU (fE fD .A af) λ_=>(jX (fE fD .B af))) rfl
 have g:¬p=0:=by simpa using h
 have c:2<=p/\p<2^62:=by lia
 refine ao 3 xm.nd (aA i (d.mono .a) rfl .A .C #[ha,c]) ?_;refine ao 4 xm.nd (aA i (d.mono .a) rfl .B .C #[k,c]) ?_;refine au (kW (av ax .C af) (λ_=>(aA l (d.mono .a) rfl .D (ae 4) É)) λh2=>(dJ j (d.mono .a) rfl .D (ae 4) .C #[uP a ↑h2,uP b ↑h2,c])) ?_;show Bd.val _ _=Bd.val _ _;congr 1;unfold az;rw[W_ g];by_cases z:p=2
 .rw[Xc z,Xc ↑z]
 .rw[W_ z,W_ ↑z]
def yF(ns:List Int):List Int:=2::ns.flatMap λk=>(pK (k.natAbs:Int)).map (·.1)
def mN(ns:List Int):List Int:=sset (yF ns)
structure HI(ns:List Int):Prop where
 len:ns.length<=100
 rng:∀k∈ns,1<=(k.natAbs:Int)/\(k.natAbs:Int)<2^60
 few:(yF ns).length<64
def Cj{ns:List Int}{k:Int}(h:ns[i]?=À k):yF (ns.take (i+1))=yF (ns.take i)++(pK (k.natAbs:Int)).map (·.1):=by
 unfold yF;rw[abo,h];simp[š]
def Mb{ns:List Int}(i:Nat):(yF (ns.take i)).length<=(yF ns).length:=by
 unfold yF
 have:ns.flatMap (λk=>(pK (k.natAbs:Int)).map (·.1))=(ns.take i).flatMap (λk=>(pK (k.natAbs:Int)).map (·.1))++(ns.drop i).flatMap (λk=>(pK (k.natAbs:Int)).map (·.1)):=by
  rw[<-š,aa8]
 rw[this];simp
def F8(x:Int):(if x<0 then -x else x)=(x.natAbs:Int):=by split<;>lia
def yD(p:⇑Ws)(ns:List Int)(h:HI ns):⇑Body qi "primes_of" kP f 4 [.val Â ns] (RT Á (mN ns)):=by
 intro l A outer s H E o;have g:=h.few;refine pU 1 gP.nd (zU (ay af bF) .c) ?_;refine yB 1 Á rfl ?_;refine pO (λi U=>∃c a,U=[À (.val Â ns),À (.own Á (yF (ns.take i))),c,a]) (cV 2 gP.nd) .A #[none,none,rfl] ?_ ?_
 .rintro i k U' e ⟨c,a,rfl⟩;obtain⟨n,q⟩:=h.rng k (Xg e);rw[Cj e];have d:=Mb (ns:=ns) (i+1);rw[Cj e,XD,Xk] at d;generalize hp:pK (k.natAbs:Int)=pr at *;refine qh (as:=pr) (b:=Á) (λj U=>∃a,U=[À (.val Â ns),À (.own Á (yF (ns.take i)++(pr.take j).map (·.1))),À (.val Â k),a]) (cV 3 gP.nd) (bc (cE (aD p (o.mono .a) rfl (iH rfl B.abs .C) (by rw[F8];exact#[n,q])) (by rwa[F8]))) #[a,.c] ?_ ?_
  .rintro j u U' m ⟨a,rfl⟩;refine oB 1 rfl (gZ (b':=Á) (br .D)) ?_ (aK #[À (.val Á u),?_])
   .have:(pr.take j).length<=pr.length:=by rw[Y8];lia
    rw[XD,Xk];lia
   .rw[abo,m];simp
  .rintro U' ⟨a,rfl⟩;rw[YB];exact aK #[_,_,rfl]
 .rintro U' ⟨c,a,rfl⟩;rw[YB];refine dt 1 rfl ?_;exact au (uT rfl rfl B.sorted rfl B.set .B g) rfl
noncomputable def z_(k:Int):Bool:=decide (k≠0/\k.natAbs<1073741824)
abbrev Wv(P w K mg base):=aH P w K mg base 1 "is_whole" ["k"] (cH K (fun(_:Int)=>True) Á (λ_=>Á))
def qS(d:uB mg "GREAT_FROM" 1073741824)(c:⇑Wv)(x:Int):⇑Body jT "is_row_number" gA f 1 [.val Â x] (RT Á (z_ x)):=by
 intro a A outer s H E b;refine au (qq (aD c (b.mono .a) rfl .A É) λ_=>(qq (fE gD .A af) λ_=>(jX (fE gi (iH rfl B.abs .A) (uO rfl d))))) ?_;show Bd.val _ _=Bd.val _ _;congr 1;unfold z_;rw[Yk,Yq];simp;intro _;split<;>lia
noncomputable def bW(xs:List Int):Bool:=decide (1<=xs.length/\xs.length<=8)&&xs.all z_
def uY(h:bW xs=Á):1<=xs.length/\xs.length<=8:=by
 unfold bW at h;have:=(YG.mp h).1;simpa using this
def cK(h:bW xs=Á)(a:x∈xs):x≠0/\x.natAbs<1073741824:=by
 unfold bW at h;have:=XX.mp (YG.mp h).2 x a;unfold z_ at this;simpa using this
abbrev Ww(P w K mg base):=aH P w K mg base 2 "is_row_number" ["k"] (cH K (fun(_:Int)=>True) Á z_)
def GC(g:uB mg "LONGEST" 8)(d:⇑Ww)(xs:List Int)(j:xs.length<=1000):⇑Body rX "is_row" mI f 2 [.val Â xs] (RT Á (bW xs)):=by
 intro c A outer s H E h;refine aF (TW.t (vq (j0 (eT (Ea rfl B.isinstance rfl B.list .A))) λ_=>(pW (j0 (Cz HP HP af (bj rfl B.len .A) (uO rfl g)))))) (λb=>?_) (λb=>?_)
 .have a:¬(1<=xs.length/\xs.length<=8):=by
   simp at b;lia
  have e:bW xs=Â:=by unfold bW;rw[XH a];rfl
  rw[e];exact au j4 rfl
 .have a:1<=xs.length/\xs.length<=8:=by
   simp at b;lia
  refine au (La rfl rfl B.all (eE (f:=z_) ["k"] [] (bG (ag mI) rX rfl rfl .d) (bc .A) (a_ 0) (λC s H fp=>cL 0 ["k"]) aX (λi u k C s H fp=>aD d (h.mono .a) rfl .A É) j)) ?_;show Bd.val _ _=Bd.val _ _;congr 1;unfold bW;rw[XI a,aaC,ϯ];rfl
abbrev Wx(P w K mg base):=aH P w K mg base 3 "is_row" ["row"] (cH K (fun(xs:List Int)=>xs.length<=1000) Á bW)
def qR(e:⇑Wx)(xs:List Int)(b:bW xs=Á):⇑Body jV "refuse_no_row" gp f 3 [.val Â xs] QD:=by
 intro c A outer s H E d;have:=uY b;refine aF (j0 (eT (aD e (d.mono .a) rfl .A .b))) (λa=>?_) (λa=>?_)
 .rw[b] at a;cases a
 .exact aK É
def JM(k p:Int):Bool:=decide (zW k p)
def sT(c:⇑Wt)(k p:Int)(hp:k≠0/\2<=p/\p<2^62):⇑Body kq "is_square_at" h_ f 3 [.val Â k,.val Â p] (RT Á (JM k p)):=by
 intro b A outer s H E a;refine au (fE (Kz (M:=Int×Int) (AI a)) (aA c (a.mono .a) rfl .A .B hp) (kW (M:=Int×Int) (x:=(0,1)) (y:=(0,1)) (av ax .B af) (λh=>absurd (show p=0 by simpa using h) .b) λ_=>(gZ (b':=Á) (bS af af)))) ?_;show Bd.val _ _=Bd.val _ _;rw[ite_self];rfl
def QJ(a b c p:Int):Prop:=a≠0/\b≠0/\c≠0/\2<=p/\p<2^62/\Sm 62 a/\Sm 62 b/\Sm 62 c
abbrev Wy(P w K mg base):=aH P w K mg base 4 "says" ["a","b","p"] (vg K (λa b p=>a≠0/\b≠0/\(p=0\/(2<=p/\p<2^62))) Á az)
def nU(j:⇑Wy)(a b c p:Int)(hp:QJ a b c p):⇑Body iC "three_have_zero" eR f 4 [.val Â a,.val Â b,.val Â c,.val Â p] (RT Á (ue a b c p)):=by
 intro g A outer s H E h;obtain⟨ha,m,d,i,p2,l,k,e⟩:=hp;exact au (dJ j (h.mono .a) rfl (aE (du .A) .C (l.neg.ok e)) (aE (du .B) .C (k.neg.ok e)) .D #[Xb .b d,Xb .b d,.inr #[i,p2]]) rfl
def Q0(l:List Int)(p:Int):Prop:=l.length=4/\(∀a∈l,a≠0/\Sm 62 a)/\2<=p/\p<2^62
abbrev WA(P w K mg base):=aH P w K mg base 5 "three_have_zero" ["a","b","c","p"] (HY K QJ Á ue)
abbrev Wz(P w K mg base):=aH P w K mg base 4 "is_square_at" ["k","p"] (cM K (λk p=>k≠0/\2<=p/\p<2^62) Á JM)
def oS(u:⇑Wz)(t:⇑WA)(l:List Int)(p:Int)(hp:Q0 l p):⇑Body jh "four_have_zero" fS f 5 [.val Â l,.val Â p] (RT Á (bN l p)):=by
 intro q A outer s H E m;obtain⟨o,e,n,p2⟩:=hp
 match l,o,e with
 |[a,b,c,d],_,e =>
 have ha:=e a .c;have j:=e b .c;have i:=e c .c;have k:=e d .c;have g:=ha.2.mul j.2;have h:=g.mul i.2;refine ao 2 iu.nd (aE (aE (aE (aT (a:=a) .A af rfl) (aT (a:=b) .A af rfl) (ha.2.ok j.2)) (aT (a:=c) .A af rfl) (g.ok i.2)) (aT (a:=d) .A af rfl) (h.ok k.2)) ?_;have r:a*b*c*d≠0:=Xb (Xb (Xb ha.1 j.1) i.1) k.1;refine au (DU (Hm (aA u (m.mono .a) rfl .C .B #[r,n,p2])) λ_=>(jX (wN t (m.mono .a) rfl (aT (a:=a) .A af rfl) (aT (a:=b) .A af rfl) (aT (a:=c) .A af rfl) .B #[ha.1,j.1,i.1,n,p2,ha.2,j.2,i.2]))) ?_;show Bd.val _ _=Bd.val _ _;rw[gX .b];rfl
def Oo(l:List Int)(p:Int):Prop:=1<=l.length/\(∀a∈l,a≠0/\Sm 62 a)/\(p=0\/(2<=p/\p<2^62))
def yW(t:⇑Wz)(r:⇑WA)(x:⇑aH 6 "four_have_zero" ["numbers","p"] (cM K Q0 Á bN))(l:List Int)(p:Int)(hp:Oo l p):⇑Body qx "have_zero" kr f 6 [.val Â l,.val Â p] (RT Á (bN l p)):=by
 intro u A outer s H E k;obtain⟨h1,i,o⟩:=hp;refine aF (av ax .B af) (λd=>?_) (λd=>?_)
 .have g:p=0:=by simpa using d
  subst g;obtain⟨v,q⟩:=Ad l .b;obtain⟨b1,b2⟩:=A2 l .b;refine au (J5 gi gi (Fj rfl rfl B.min .A .b v q) af (E9 rfl rfl B.max .A .b b1 b2)) ?_;show Bd.val _ _=Bd.val _ _;unfold bN;rw[Xc rfl]
 have g:¬p=0:=by simpa using d
 have m:2<=p:=by lia
 have p2:p<2^62:=by lia
 have len:∀n:Nat,decide ((l.length:Int)=(n:Int))=Á->l.length=n:=λn h=>by
  have:(l.length:Int)=(n:Int):=by simpa using h
  lia
 have e:∀n:Nat,decide ((l.length:Int)=(n:Int))=Â->l.length≠n:=λn h=>by
  have:¬(l.length:Int)=(n:Int):=by simpa using h
  lia
 refine aF (av ax (bj rfl B.len .A) af) (λd=>?_) (λc1=>?_)
 .match l,len 1 d with
  |[a],_=>rw[rG g];exact au j4 rfl
 refine aF (av ax (bj rfl B.len .A) af) (λd=>?_) (λc2=>?_)
 .match l,len 2 d,i with
  |[a,b],_,i =>
  have ha:=i a .c;have j:=i b .c;rw[ll g];exact au (aA t (k.mono .a) rfl (aE (du (aT (a:=a) .A af rfl)) (aT (a:=b) .A af rfl) (ha.2.neg.ok j.2)) .B #[Xb (by have:=ha.1;lia) j.1,m,p2]) rfl
 refine aF (av ax (bj rfl B.len .A) af) (λd=>?_) (λc3=>?_)
 .match l,len 3 d,i with
  |[a,b,c],_,i =>
  have ha:=i a .c;have j:=i b .c;have d:=i c .c;rw[dc g];exact au (wN r (k.mono .a) rfl (aT (a:=a) .A af rfl) (aT (a:=b) .A af rfl) (aT (a:=c) .A af rfl) .B #[ha.1,j.1,d.1,m,p2,ha.2,j.2,d.2]) rfl
 refine aF (av ax (bj rfl B.len .A) af) (λd=>?_) (λc4=>?_)
 .exact au (aA x (k.mono .a) rfl .A .B #[len 4 d,i,m,p2]) rfl
 rw[kK g (by have:=e 1 c1;have:=e 2 c2;have:=e 3 c3;have:=e 4 c4;lia)];exact au j4 rfl
def xc(h:bW l=Á):∀a∈l,a≠0/\Sm 62 a:=λa ha=>by
 have:=cK h ha;exact#[this.1,by unfold Sm;lia]
def jf(xs:List Int):Int:=xs.foldl (λg k=>((Ê g k:Nat):Int)) 0
def wd(xs:List Int):List Int:=xs.map λk=>k.fdiv (jf xs)
def IM(xs:List Int):Prop:=xs.length<=100/\jf xs≠0/\Sm 8000 (jf xs)
def zc(h:xs[i]?=À x):jf (xs.take (i+1))=((Ê (jf (xs.take i)) x:Nat):Int):=by
 unfold jf;rw[Y2,h];simp[abG]
def nL(e:⇑Wi)(xs:List Int)(hp:IM xs):⇑Body eV "without_divisor" dk f 1 [.val Â xs] (RT Á (wd xs)):=by
 intro b A outer s H E d;obtain⟨h1,h2,c⟩:=hp;refine ao 1 cW.nd af ?_;refine pO (λi U=>∃r,U=[À (.val Â xs),À (.val Á (jf (xs.take i))),r]) (cV 2 cW.nd) .A #[none,rfl] ?_ ?_
 .rintro i a U' ha ⟨r,rfl⟩;refine ao 1 cW.nd (aA e (d.mono .a) rfl .B .C É) (aK ?_);dsimp only;rw[zc ha];exact#[_,rfl]
 .rintro U' ⟨r,rfl⟩;rw[YB];exact au (eE (f:=λk:Int=>k.fdiv (jf xs)) ["k"] [1] (bG (ag dk) eV rfl rfl .d) (bc .A) (a_ 0) (λC s H fp=>cL 0 ["k","divisor"]) aX (λi u g C s H fp=>a8 .A .B (Sm.div (n:=8000) c h2)) .b) rfl
theorem E2:∀(xs:List Int) (a:Int),(xs.foldl (λg k=>((Ê g k:Nat):Int)) a∣a)/\∀x∈xs,xs.foldl (λg k=>((Ê g k:Nat):Int)) a∣x
 |[],a=>#[Zf a,λx h=>by cases h]
 |y::ys,a=>by
  obtain⟨h1,h2⟩:=E2 ys ((Ê a y:Nat):Int);refine#[XU h1 (Y9 a y),λx b=>?_];rcases Xa.mp b with rfl|b
  .exact XU h1 (YO a x)
  .exact h2 x b
theorem F2{d:Int}:∀(xs:List Int) (a:Int),d∣a->(∀x∈xs,d∣x)->d∣xs.foldl (λg k=>((Ê g k:Nat):Int)) a
 |[],a,h,_=>h
 |y::ys,a,h,b=>F2 ys _ (acj h (b y (Xo ..))) λx q=>b x (Xj _ q)
theorem AM:∀(xs:List Int) (a:Int),0<=a->0<=xs.foldl (λg k=>((Ê g k:Nat):Int)) a
 |[],a,h=>h
 |y::ys,a,_=>AM ys _ (Ε _)
def rj(h:x∈xs):jf xs∣x:=(E2 xs 0).2 x h
def wC(h:x∈xs)(a:x≠0):0<jf xs:=by
 have h1:0<=jf xs:=AM xs 0 (Yi 0)
 have h2:jf xs≠0:=λz=>a (by
  have:=rj h;rw[z] at this
  exact acI.mp this)
 lia
def lh(h:0<jf xs)(b:x∈xs):x=jf xs*x.fdiv (jf xs):=by
 obtain⟨c,a⟩:=rj b
 have e:x.fdiv (jf xs)=c:=by
  conv=>lhs;arg 1;rw[a]
  exact YQ c .b
 rwa[e]
def HG(h:0<jf xs):jf (wd xs)=1:=by
 have c:0<=jf (wd xs):=AM _ 0 (Yi 0)
 have h1:jf xs*jf (wd xs)∣jf xs*1:=by
  rw[XC];refine F2 xs 0 (aaO _) λx a=>?_;have b:x.fdiv (jf xs)∈wd xs:=Xs.mpr #[x,a,rfl];have:=Int.mul_dvd_mul_left (jf xs) (rj b);rwa[<-lh h a] at this
 have h2:=abu .b h1;have:=Xt .a h2;have:jf (wd xs)≠0:=λz=>by rw[z] at h2;exact absurd (acI.mp h2) .a
 lia
def vB(h:0<jf xs)(a:x∈xs):(x.fdiv (jf xs)).natAbs<=x.natAbs:=by
 have:=lh h a
 conv=>rhs;rw[this,XN]
 exact aam _ .e
def Aw(h:x∈xs)(b:x≠0)(a:Sm n x):Sm n (jf xs):=by
 have:=YE.mpr (rj h);exact Sm.of_le (abz .b this) a
def r_{t:Int}(h:¬(x=0/\y=0/\t=0))(e:Sm n x)(f:Sm n y)(i:Sm n t)(j:n<=8000):
  IM [x,y,t]/\∃g b c t',0<g/\wd [x,y,t]=[b,c,t']/\x=g*b/\y=g*c/\t=g*t'/\jf [b,c,t']=1/\Sm n b/\Sm n c/\Sm n t':=by
 obtain⟨z,hz,d,sz⟩:∃z∈[x,y,t],z≠0/\Sm n z:=by
  by_cases h1:x=0
  .by_cases h2:y=0
   .exact#[t,.c,λz=>h #[h1,h2,z],i]
   .exact#[y,.c,h2,f]
  .exact#[x,.c,h1,e]
 have a:=wC hz d;have m1:x∈[x,y,t]:=by simp
 have m2:y∈[x,y,t]:=by simp
 have m3:t∈[x,y,t]:=by simp
 exact#[#[by show 3<=100;decide,.b,(Aw hz d sz).le j],jf [x,y,t],_,_,_,a,rfl,lh a m1,lh a m2,lh a m3,HG a,Sm.of_le (vB a m1) e,Sm.of_le (vB a m2) f,Sm.of_le (vB a m3) i]
def wR(j:⇑aH 3 "is_prime" ["k"] (cH K (λk=>k<2^62) Á aO))(x:Int)(h2:2<=x)(q:x<=30000):⇑Body oo "next_prime" jD f 3 [.val Â x] (RT Á (pf (x+1))):=by
 intro i A outer s H E m;have n:PB=1070000011:=rfl;have h:x+1<=PB:=by lia
 have b:=m9 h;have l:=Pr h;have g:=xB h .b;refine ao 1 iR.nd (bQ .A af) ?_;refine cz (ι:=Int) (λd U=>U=[À (.val Â x),À (.val Á d)]/\x+1<=d/\d<=pf (x+1)) (λd=>(pf (x+1)-d).toNat) (x+1) #[rfl,Yi _,g.2] ?_;rintro d U' ⟨rfl,h1,o⟩;refine#[_,j0 (eT (aD j (m.mono .a) rfl .B .b)),λa=>?_,λa=>?_]
 .have p:d≠pf (x+1):=λz=>by rw[z,b] at a;cases a
  refine ao 1 iR.nd (bQ .B af) ?_;exact aK #[d+1,#[rfl,.b,.b],.b]
 .have hp:aO d=Á:=by simpa using a
  have e:pf (x+1)=d:=by
   have c:d%2=1:=by
    rcases Q.bP.mp hp with z|z
    .lia
    .exact z.2.1
   have:=kz hp h1 c .b .b;lia
  rw[e];exact au .B rfl
def Rg(l:List Int):Prop:=∃a b,l=[a,b]/\a≠0/\b≠0/\Sm 62 a/\Sm 62 b/\bN [a,b] 0=Á/\JW a b
def EK{k:Int}(h:tq k=À r):r*r=k:=by
 unfold tq at h;split at h
 .cases h
 .split at h
  .rename_i e;cases h;exact e
  .cases h
def yi{k:Int}(h:tq k=none):¬∃r:Int,r*r=k:=fun⟨r,e⟩=>by
 have b:0<=k:=by
  rw[<-e];rcases abd 0 r with z|z
  .exact YR z z
  .exact ZU z z
 have:∀r:Int,0<=r->r*r=k->False:=λr a e=>by
  have e2:=jb (k:=k) (r:=r) a .b (by
   have:(r+1)*(r+1)=r*r+2*r+1:=by grind
   lia)
  unfold tq at h;rw[W_ .b,Xc (by rwa[<-e2])] at h;cases h
 rcases abd 0 r with z|z
 .exact this r z e
 .exact this (-r) .b (by rwa[Int.neg_mul_neg])
abbrev WC(P w K mg base):=aH P w K mg base 7 "have_zero" ["numbers","p"] (cM K Oo Á bN)
abbrev WB(P w K mg base):=aH P w K mg base 4 "next_prime" ["k"] (cH K (λk=>2<=k/\k<=30000) Á (λk=>pf (k+1)))
def j7(y:⇑Wm)(T:⇑WB)(G:⇑WC)(l:List Int)(hp:Rg l):⇑Body fG "first_prime_without" dg f 7 [.val Â l] (RT Á (iU l)):=by
 intro O A outer s H E i;obtain⟨a,b,rfl,ha,u,n,j,hz,g⟩:=hp;have v:Sm 8000 (-a*b):=Sm.le (n.neg.mul j) .a;have c:=AL ha u hz g;cases m:tq (-a*b) with
 |some r =>
  have o:=EK m;refine aF (qP (x:=À r) (M:=Int) (cE (aD y (i.mono .a) rfl (aE (du (aT (a:=a) .A af rfl)) (aT (a:=b) .A af rfl) (n.neg.ok j)) v) m) λ_ _ _ _ h=>nomatch h) (λd=>?_) (λd=>by cases d);rcases c with⟨h1,_⟩|⟨p,_,_,_,h⟩
  .rw[<-fQ h1];exact au (kC (M:=Int)) rfl
  .exact absurd #[r,o] h
 |none =>
  have S:=yi m;refine aF (qP (x:=none) (M:=Int) (cE (aD y (i.mono .a) rfl (aE (du (aT (a:=a) .A af rfl)) (aT (a:=b) .A af rfl) (n.neg.ok j)) v) m) λ_ _ _ _ h=>nomatch h) (λd=>by cases d) (λd=>?_);rcases c with⟨_,h⟩|⟨p,h1,h2,Γ,_⟩
  .exact absurd h S
  rw[<-fQ h1];obtain⟨R,N⟩:=h1;have p2:=aq h2;obtain⟨_,_,F⟩:=N.resolve_left .b;refine ao 1 cU.nd af ?_;refine cz (ι:=Int) (λq U=>U=[À (.val Â [a,b]),À (.val Á q)]/\aO q=Á/\q<=p) (λq=>(p-q).toNat) 2 #[rfl,aP,p2] ?_;rintro q U' ⟨rfl,t,I⟩;have C:=aq t;refine#[_,eT (aA G (i.mono .a) rfl .A .B #[.c,λx L=>?_,.inr #[C,.b]]),λd=>?_,λd=>?_]
  .rcases Xa.mp L with e|e
   .rw[e];exact#[ha,n]
   .rw[Xv.mp e];exact#[u,j]
  .have D:q≠p:=λz=>by rw[z,R] at d;cases d
   have B:q+1<=PB:=by show q+1<=1070000011;lia
   have J:=m9 B;have V:=(xB B .b).2
   have α:=kz h2 (k:=q+1) .b (by
    rcases Q.bP.mp h2 with z|z
    .lia
    .exact z.2.1) (by show p<=1070000011;lia) .b
   refine ao 1 cU.nd (aD T (i.mono .a) rfl .B #[C,.b]) (aK #[_,#[rfl,J,α],?_]);lia
  .have e:q=p:=by
    rcases Zn I with z|z
    .rw[F q t z] at d;cases d
    .exact z
   rw[<-e];exact au ((ae 1).some) rfl
structure Ic(l:List Int):Prop where
 row:bW l=Á
 po:HI l
 two:∀a b,l=[a,b]->bN l 0=Á->JW a b
def Al(l:List Int):List Int:=(mN l).filter λp=>!(bN l p)
def M0(f:bW l=Á)(hz:bN l 0=Á)(r:3<=l.length):zP l (Al l).head?:=by
 have o:∀q:Int,q∈mN l↔q=2\/(aO q=Á/\∃a∈l,q∣a):=λq=>by
  unfold mN;rw[ip];unfold yF;rw[Xa,ab_];refine or_congr_right ?_;constructor
  .rintro⟨a,ha,c⟩;have h1:1<=(a.natAbs:Int):=by have:=cK f ha;lia
   obtain⟨j,k⟩:=(iE h1).mp c;exact#[j,a,ha,Y1.mp k]
  .rintro⟨j,a,ha,k⟩;have h1:1<=(a.natAbs:Int):=by have:=cK f ha;lia
   exact#[a,ha,(iE h1).mpr #[j,Y1.mpr k]]
 have g:∀q,aO q=Á->q∉mN l->bN l q=Á:=λq c h=>by
  rw[o] at h;exact om c (λz=>h (.inl z)) r λa ha s=>h (.inr #[c,a,ha,s])
 have n:∀q,q∈mN l->aO q=Á:=λq c=>by
  rcases(o q).mp c with z|z
  .rw[z];exact aP
  .exact z.1
 cases m:Al l with
 |nil =>
  refine#[hz,λq c=>?_];by_cases b:q∈mN l
  .apply Xf;intro h;have:q∈Al l:=Ye.mpr #[b,↑h];rw[m] at this;cases this
  .exact g q c b
 |cons p ps =>
  have hp:p∈Al l:=by rw[m];exact Xo ..
  obtain⟨h1,h2⟩:=Ye.mp hp;refine#[↑h2,.inr #[n p h1,hz,λq c t=>?_]];by_cases b:q∈mN l
  .apply Xf;intro h;have i:q∈Al l:=Ye.mpr #[b,↑h];have d:(Al l).Pairwise (·<·):=(hZ _).filter _;rw[m] at i d;rcases Xa.mp i with e|e
   .lia
   .have:=(YV.mp d).1 q e;lia
  .exact g q c b
def En(h:HI l):(mN l).length<=64:=by
 have h1:(mN l).length<=(yF l).length:=kh ((hZ _).imp λh=>by lia) λx a=>ip.mp a;have:=h.few;lia
def CN(b:bW l=Á)(h:q∈mN l):2<=q/\q<2^62:=by
 unfold mN at h;rw[ip] at h;unfold yF at h;rcases Xa.mp h with z|z
 .rw[z];decide
 .obtain⟨a,ha,e⟩:=ab_.mp z;have f:=cK b ha;have h1:1<=(a.natAbs:Int):=by omega
  obtain⟨c,d⟩:=(iE h1).mp e;have:=Xt .e d;exact#[aq c,.e]
abbrev WD(P w K mg base):=aH P w K mg base 5 "primes_of" ["numbers"] (cH K HI Á mN)
def qO(I:⇑WD)(k:⇑WC)(J:⇑aH 8 "first_prime_without" ["row"] (cH K Rg Á iU))(l:List Int)(hp:Ic l):⇑Body gE "first_barring" d_ f 8 [.val Â l] (RT Á (iU l)):=by
 intro G A outer s H E g;have m:=uY hp.row;have e:∀a∈l,a≠0/\Sm 62 a:=xc hp.row;refine aF (j0 (eT (aA k (g.mono .a) rfl .A af #[m.1,e,.inl rfl]))) (λc=>?_) (λc=>?_)
 .have hz:bN l 0=Â:=by simpa using c
  rw[<-fQ (r:=À 0) #[hz,.inl rfl]];exact au (jA af) rfl
 have hz:bN l 0=Á:=by simpa using c
 refine aF (av ax (bj rfl B.len .A) af) (λc=>?_) (λc=>?_)
 .have h2:(l.length:Int)=2:=by simpa using c
  match l,h2 with
  |[a,b],_ =>
   exact au (aD J (g.mono .a) rfl .A #[a,b,rfl,(e a .c).1,(e b .c).1,(e a .c).2,(e b .c).2,hz,hp.two a b rfl hz]) rfl
 have h2:¬(l.length:Int)=2:=by simpa using c
 have h1:l.length≠1:=λz=>by
  match l,z with
  |[a],_ =>
   rw[a7] at hz;obtain⟨⟨x,v,F⟩,⟨y,D,u⟩⟩:=hz;rw[Xv.mp v] at F;rw[Xv.mp D] at u;lia
 refine aF (av fD (bj rfl B.len .A) af) (λc=>?_) (λc=>?_)
 .have L:4<(l.length:Int):=by simpa using c
  rw[<-fQ (r:=none) #[hz,λq t=>kK (by have:=aq t;lia) .b]];exact au (kC (M:=Int)) rfl
 have o:3<=l.length:=by lia
 have n:=En hp.po;refine iF (f:=λq:Int=>q) (p:=λq=>!(bN l q)) (b':=Á) 1 iW.nd ["p"] [0] (bG (ag d_) gE rfl rfl .d) (bc (aD I (g.mono .a) rfl .A hp.po)) (a_ 0) (λC s H fp=>cL 0 ["p","numbers"]) aX (λi q hi C s H fp=>kL (j0 (eT (aA k (g.mono .a) rfl .B .A #[m.1,e,.inr (CN hp.row (Xg hi))])))) (λi q hi _ C s H fp=>gZ (b':=Á) .A) .b ?_;rw[aca];have j:=M0 hp.row hz o;rw[<-fQ j];unfold Al;generalize (mN l).filter (λq=>!(bN l q))=bl;cases bl with
 |nil =>
  refine au (kW (M:=Option Int) (x:=none) (y:=none) (av fD (bj rfl B.len .B) af) (λh=>absurd (show(0:Int)<0 by simpa using h) .a) λ_=>kC (M:=Int)) ?_;show Bd.val _ _=Bd.val _ _;rw[ite_self];rfl
 |cons p ps =>
  refine au (kW (M:=Option Int) (x:=À p) (y:=À p) (av fD (bj rfl B.len .B) af) (λh=>(jA (aT (a:=p) .B af (by rw[my (d:=p) .a .c];rfl)))) λh=>absurd (show(0:Int)<((p::ps).length:Int) by simp) ↑h) ?_;show Bd.val _ _=Bd.val _ _;rw[ite_self];rfl
abbrev WE(P w K mg base):=aH P w K mg base 4 "refuse_no_row" ["row"] (cH K (fun(xs:List Int)=>bW xs=Á) Á qt)
def qK(b:⇑WE)(d:⇑aH 9 "first_barring" ["numbers"] (cH K Ic Á iU))(l:List Int)(hp:Ic l):⇑Body jO "first_without" gH f 9 [.val Â l] (RT Á (iU l)):=by
 intro c A outer s H E a;refine sA (aD b (a.mono .a) rfl .A hp.row) ?_;exact au (aD d (a.mono .a) rfl .A hp) rfl
def Oq(a b:Int):Int×(Int×Int):=uF (a*b,1)
def Fs(a b:Int):Prop:=a≠0/\b≠0/\Sm 60 a/\Sm 60 b/\Tame (a*b).natAbs/\(Oq a b).1.natAbs<1073741824
def Ax{k:Int}(h:k≠0)(b:Sm 200 k)(a:Tame k.natAbs):Ol (k,1):=#[h,Yi 1,b.le .a,by show(1:Int).natAbs<2^400;exact abv .a,by show Tame (k.natAbs*1);rwa[XC]]
abbrev WG(P w K mg base):=aH P w K mg base 5 "freed" ["u"] (cH K Ol Á uF)
def qD(l:uB mg "GREAT_FROM" 1073741824)(To:⇑WG)(a b:Int)(h:Fs a b):⇑Body jP "freed_product" gC f 5 [.val Â a,.val Â b] (RT Á (Oq a b)):=by
 intro g A outer s H E j;obtain⟨ha,m,e,d,n,k⟩:=h;refine ao 2 i_.nd (aD To (j.mono .a) rfl (bS (aE .A .B (e.ok d)) af) (Ax (Xb ha m) ((e.mul d).le .a) n)) ?_;refine aF (av FG (iH rfl B.abs (br .C)) (uO rfl l)) (λc=>?_) (λ_=>?_)
 .exfalso;have i:(uF (a*b,1)).1.natAbs<1073741824:=k;rw[oE] at c;have:(1073741824:Int)<=((uF (a*b,1)).1.natAbs:Int):=Xq c;lia
 .exact au .C rfl
def xF{k:Int}(h:k≠0)(b:Tame k.natAbs):∃A u,uF (k,1)=(A,(u,1))/\j_ A/\0<u/\k=A*(u*u):=by
 obtain⟨f,s,h1,h2,a⟩:=Cd _ k h (Xm _);have t:Tame (k.natAbs*1):=by rwa[XC]
 have e:=D9 h .a t h1 h2 (by rwa[XC]);refine#[f,s,?_,h1,h2,a];show((J4 k 1).1,fr (J4 k 1).2 1)=_;rw[e];show(f,fr s 1)=(f,(s,1));rw[LW .a (Int.gcd_one_right s)]
noncomputable def Qw(a:Int)(l:Int×(Int×Int))(r:Int)(z:List Int):List Int:=wd [z.getD 0 0*r+a*z.getD 1 0,z.getD 0 0+r*z.getD 1 0,l.1*l.2.1*z.getD 2 0]
structure Qy(a:Int)(l:Int×(Int×Int))(r:Int)(z:List Int):Prop where
 len:z.length=3
 sa:Sm 40 a
 s1:Sm 40 l.1
 s2:Sm 40 l.2.1
 sr:Sm 40 r
 sz:∀x∈z,Sm 4000 x
 nz:¬(z.getD 0 0*r+a*z.getD 1 0=0/\z.getD 0 0+r*z.getD 1 0=0/\l.1*l.2.1*z.getD 2 0=0)
abbrev WH(P w K mg base):=aH P w K mg base 2 "without_divisor" ["numbers"] (cH K IM Á wd)
def uz(i:⇑WH)(a:Int)(l:Int×(Int×Int))(r:Int)(z:List Int)(hp:Qy a l r z):⇑Body lO "from_lesser" iP f 2 [.val Â a,.val Â l,.val Â r,.val Â z] (RT Á (Qw a l r z)):=by
 intro j A outer s H E k;obtain⟨len,h,d,e,c,sz,nz⟩:=hp
 match z,len with
 |[x,y,t],_ =>
 have g:=sz x .c;have b:=sz y .c;have st:=sz t .c;have n:Sm 4100 (x*r+a*y):=((g.mul c).add (h.mul b)).le .a;have o:Sm 4100 (x+r*y):=(g.add (c.mul b)).le .a;have m:Sm 4100 (l.1*l.2.1*t):=((d.mul e).mul st).le .a;refine ao 4 gT.nd (bQ (aE (aT (a:=x) .D af rfl) .C (g.ok c)) (aE .A (aT (a:=y) .D af rfl) (h.ok b))) ?_;refine ao 5 gT.nd (bQ (aT (a:=x) .D af rfl) (aE .C (aT (a:=y) .D af rfl) (c.ok b))) ?_;exact au (aD i (k.mono .a) rfl (c8 (ay (ae 4) (ay (ae 5) (ay (aE (aE (br .B) (br (bO .B)) (d.ok e)) (aT (a:=t) .D af rfl) ((d.mul e).ok st)) bF))) (by show 3<=1000;decide)) (r_ nz n o m .a).1) rfl
def F6(k m:Int):Int:=if m<2*(ET k m).getD 0 then (ET k m).getD 0-m else (ET k m).getD 0
def QL(k m:Int):Prop:=1<=m/\m<2^60/\∃x,ET k m=À x/\0<=x/\x<m
def qF(d:⇑aH 6 "root_by" ["k","m"] (cM K (λ_ m=>1<=m/\m<2^60) Á ET))(k m:Int)(hp:QL k m):⇑Body jW "least_root_by" gu f 6 [.val Â k,.val Â m] (RT Á (F6 k m)):=by
 intro c A outer s H E g;obtain⟨m1,m2,x,b,i,j⟩:=hp;refine ao 2 jj.nd (aA d (g.mono .a) rfl .A .B #[m1,m2]) ?_;have e:F6 k m=if m<2*x then x-m else x:=by unfold F6;rw[b];rfl
 rw[b,e];refine au (kW (av fD (aE af (c_ (a:=x) .C) (mulL .a .a)) .B) (λ_=>eO (c_ (a:=x) .C) .B) λ_=>c_ (a:=x) .C) ?_;show Bd.val _ _=Bd.val _ _;congr 1;by_cases h:m<2*x
 .rw[Xc h,XI h];rfl
 .rw[W_ h,XH h];rfl
def Pj(ha:a≠0)(j:j_ b)(h:qB a b)(n:b.natAbs<1073741824):QL a b.natAbs/\2*(F6 a b.natAbs).natAbs<=b.natAbs/\b∣F6 a b.natAbs*F6 a b.natAbs-a:=by
 obtain⟨x,e,k,l,f⟩:=EY ha j h;have o:=j.1;have i:F6 a b.natAbs=if (b.natAbs:Int)<2*x then x-b.natAbs else x:=by unfold F6;rw[e];rfl
 refine#[#[.b,.b,x,e,k,l],?_,?_]
 .rw[i];split<;>lia
 .rw[i];split
  .have g:b∣(b.natAbs:Int):=Y1.mpr (Zf b);obtain⟨c,p⟩:=g;obtain⟨d,f⟩:=f;refine#[d-2*x*c+(b.natAbs:Int)*c,?_];generalize (b.natAbs:Int)=m at *;grind
  .exact f
structure HQ(a b:Int):Prop where
 qa:j_ a
 qb:j_ b
 la:a.natAbs<1073741824
 lb:b.natAbs<1073741824
 yes:qB a b
def MC(a b:Int)(z:List Int):Prop:=∃x y t,z=[x,y,t]/\x*x=a*(y*y)+b*(t*t)/\¬(x=0/\y=0/\t=0)/\Sm (31*(lg a+lg b)+40) x/\Sm (31*(lg a+lg b)+40) y/\Sm (31*(lg a+lg b)+40) t
def HQ.two(h:HQ a b)(ha:a≠1)(c:b≠1)(f:a.natAbs<=b.natAbs):2<=b.natAbs:=by
 have d:=h.qa.1;have g:=h.qb.1;apply Xf;intro e;have e1:a=-1:=by lia
 have e2:b=1\/b=-1:=by lia
 rcases e2 with e2|e2
 .exact absurd e2 c
 .have:=h.yes 0 (.inl rfl);rw[e1,e2,aN] at this;exact absurd this .a
structure Qp(a b r:Int)(l:Int×(Int×Int)):Prop where
 ex:∃c s,l=(c,(s,1))/\HQ a c/\0<s/\r*r-a=b*c*(s*s)/\tI a c+1<=tI a b/\s.natAbs<1073741824/\lg c+1<=lg b
def Ka(h:HQ a b)(h1:a≠1)(m:a.natAbs<=b.natAbs)(h2:2<=b.natAbs)(q:2*r.natAbs<=b.natAbs)(t:b∣r*r-a):((r*r-a).fdiv b≠0/\((r*r-a).fdiv b).natAbs<1073741824)/\Qp a b r (uF ((r*r-a).fdiv b,1)):=by
 obtain⟨k,f⟩:=t;have i:=h.qb.1;have o:=h.qa.1;have ek:(r*r-a).fdiv b=k:=by rw[f];exact YQ k i
 have g:r*r-a≠0:=λz=>by
  have:=vC (x:=r) (y:=1) h.qa h1 (by rw[XC,XC];(first|lia|omega));exact absurd this .a
 have l:k≠0:=λz=>g (by rw[f,z,XZ]);have bd:=Iy m q i f;have u:=h.lb;have kl:k.natAbs<1073741824:=by (first|lia|omega)
 rw[ek];refine#[#[l,kl],?_];obtain⟨c,s,e,d,n,j⟩:=xF l (wJ .g .g);have cl:=JJ n j;have e3:r*r-a=b*c*(s*s):=by rw[f,j];grind
 have sl:s.natAbs<=k.natAbs:=by
  have p:k=s*(s*c):=by rw[j];grind
  conv=>rhs;rw[p,XN]
  refine aaU _ ?_;have:s*c≠0:=Xb .g d.1;(first|lia|omega)
 exact#[c,s,e,#[h.qa,d,h.la,by (first|lia|omega),h.yes.step o i d.1 .g e3],n,e3,Fl m (B2 h2 d.1 .g),by (first|lia|omega),B2 h2 d.1 .g]
def BM{l:Int×(Int×Int)}(h:HQ a b)(h1:a≠1)(W:tI a b<118)(I:2*r.natAbs<=b.natAbs)(G:Qp a b r l)(hz:MC a l.1 z):Qy a l r z/\MC a b (Qw a l r z):=by
 obtain⟨c,s,rfl,w,Z,e,R,sl,α⟩:=G.ex;obtain⟨x,y,t,rfl,f,nz,i,d,st⟩:=hz;have i:Sm (31*(lg a+lg c)+40) x:=i;have d:Sm (31*(lg a+lg c)+40) y:=d;have st:Sm (31*(lg a+lg c)+40) t:=st;have f:x*x=a*(y*y)+c*(t*t):=f;have T:=h.la;have F:=h.lb;have lc:=w.lb;have σ:=uJ h.qa.1 T;have Γ:=uJ h.qb.1 F
 have m:¬(x*r+a*y=0/\x+r*y=0/\c*s*t=0):=fun⟨C,j,n⟩=>by
  have B:t=0:=by
   rcases Yo.mp n with z|z
   .exact absurd z (Xb w.qb.1 .b)
   .exact z
  rw[B,XZ,XZ,aaP] at f;have u:=vC h.qa h1 f;rw[u,XZ,aaP] at j;exact nz #[j,u,B]
 have D:Sm 30 a:=by unfold Sm;lia
 have k:Sm 30 r:=by unfold Sm;lia
 have o:Sm 31 (c*s):=JI .b I h.qb.1 .b .b e;have X:31*(lg a+lg c)+40+31<=31*(lg a+lg b)+40:=by lia
 have J:Sm (31*(lg a+lg b)+40) (x*r+a*y):=((i.mul k).add (D.mul d)).le .b;have L:Sm (31*(lg a+lg b)+40) (x+r*y):=(i.add (k.mul d)).le .b;have P:Sm (31*(lg a+lg b)+40) (c*s*t):=(o.mul st).le .b;obtain⟨_,g,E,S,t',V,N,ex,A,p,_,O,H,K⟩:=r_ m J L P .b;refine#[#[rfl,D.le .a,(show Sm 30 c by unfold Sm;lia).le .a,(show Sm 30 s by unfold Sm;lia).le .a,k.le .a,λv q=>?_,m],E,S,t',N,?_,fun⟨C,j,n⟩=>m #[by rw[ex,C,XZ],by rw[A,j,XZ],by rw[p,n,XZ]],O,H,K]
 .simp only[Xa,Xe,XA] at q;rcases q with rfl|rfl|rfl
  .exact i.le .b
  .exact d.le .b
  .exact st.le .b
 .exact Kh .b f e ex A p
section
variable(To:⇑WG)(Tp:⇑aH 3 "from_lesser" ["a","lesser","root","zero"] (HY K Qy Á Qw))(Ti:⇑aH 7 "least_root_by" ["k","m"] (cM K QL Á F6))
def Sw:Sm (n+40) 0:=by unfold Sm;exact aaj _
def QK:Sm (n+40) 1:=by unfold Sm;exact abv .b
include B To Tp Ti in
theorem qQ(n:Nat)(v:⇑aH (8+n) "square_of_two" ["a","b"] (s_ K (λa b=>HQ a b/\tI a b<n/\tI a b<118) Á MC))(a b:Int)(h:HQ a b)(σ:tI a b<n+1)(G:tI a b<118):⇑Body jR "square_of_two" dZ f (8+n) [.val Â a,.val Â b] (ug Á (MC a b)):=by
 intro S A outer s H E i;have C:=h.qa.1;have F:=h.qb.1;have Z:=h.la;have I:=h.lb;refine aF (av ax .A af) (λd=>?_) (λd=>?_)
 .have ha:a=1:=Xq d;exact au (c8 (as:=[1,1,0]) (ay af (ay af (ay af bF))) (by show 3<=1000;decide)) #[_,#[1,1,0,rfl,by rw[ha];grind,λz=>absurd z.1 .a,QK,QK,Sw],rfl]
 have h1:a≠1:=XM d;refine aF (av ax .B af) (λd=>?_) (λd=>?_)
 .have R:b=1:=Xq d;exact au (c8 (as:=[1,0,1]) (ay af (ay af (ay af bF))) (by show 3<=1000;decide)) #[_,#[1,0,1,rfl,by rw[R];grind,λz=>absurd z.1 .a,QK,Sw,QK],rfl]
 have p:=d;refine aF (av fD (iH rfl B.abs .A) (iH rfl B.abs .B)) (λd=>?_) (λd=>?_)
 .rw[oE,oE] at d;have k:(b.natAbs:Int)<a.natAbs:=Xq d;have o:b.natAbs<a.natAbs:=by lia
  have u:=Gu o;refine fR 2 cI.nd (jo v i rfl .B .A #[#[h.qb,h.qa,h.lb,h.la,h.yes.swap C F],.b,.b]) λz hz=>?_;obtain⟨x,y,t,rfl,α,nz,V,L,st⟩:=hz;have le:31*(lg b+lg a)+40<=31*(lg a+lg b)+40:=by lia
  exact au (c8 (as:=[x,t,y]) (ay (aT (a:=x) .C af rfl) (ay (aT (a:=t) .C af rfl) (ay (aT (a:=y) .C af rfl) bF))) (by show 3<=1000;decide)) #[_,#[x,t,y,rfl,by rw[α,acK],fun⟨X,O,W⟩=>nz #[X,W,O],V.le le,st.le le,L.le le],rfl]
 rw[oE,oE] at d;have k:¬(b.natAbs:Int)<a.natAbs:=XM d;have j:a.natAbs<=b.natAbs:=by lia
 have h2:=h.two h1 (XM p) j;obtain⟨pl,g,J⟩:=Pj C h.qb h.yes I;refine ao 3 cI.nd (aA Ti (i.mono .b) rfl .A (cE (iH rfl B.abs .B) (oE b)) pl) ?_;generalize F6 a b.natAbs=r at *;obtain⟨⟨Γ,kl⟩,m⟩:=Ka h h1 j h2 g J;have D:Sm 30 r:=by unfold Sm;lia
 have T:Sm 30 ((r*r-a).fdiv b):=by unfold Sm;lia
 refine ao 4 cI.nd (aD To (i.mono .b) rfl (bS (a8 (eO (aE .D .D (D.ok D)) .A) .B (Sm.div (n:=30) (by unfold Sm;lia) F)) af) (Ax Γ (T.le .a) (wJ .b .b))) ?_;generalize uF ((r*r-a).fdiv b,1)=l at *;obtain⟨c,q,N,d,_,_,u,_,_⟩:=m.ex;have e:l.1=c:=by rw[N]
 refine iT (Ig Tp (i.mono .b) rfl .A (ae 4) .D (jo v i rfl .A (br (ae 4)) #[by rwa[e],by rw[e];lia,by rw[e];lia]) λz hz=>(BM h h1 G g m hz).1) ?_;rintro y ⟨z,hz,rfl⟩;exact#[_,(BM h h1 G g m hz).2,rfl]
include B To Tp Ti in
theorem qf{h:ß}(D:Df K "square_of_two" dZ)(X:K.In h)(G:h.Ns Ì mg):∀n:Nat,⇑aH (8+n) "square_of_two" ["a","b"] (s_ K (λa b=>HQ a b/\tI a b<n/\tI a b<118) Á MC)
 |0=>D.Nh X G (λ_ _ _ _ _ _ us d=>match us,d with|[_,_],_=>rfl) λf fd F=>Jb F cI rfl λa c hp=>absurd hp.2.1 (Ze _)
 |n+1=>D.Nh X G (λ_ _ _ _ _ _ us d=>match us,d with|[_,_],_=>rfl) λf fd F=>Jb F cI rfl λa c hp=>qQ B To Tp Ti n (qf D X G n) a c hp.1 hp.2.1 hp.2.2
end
structure Bm(l:List Int):Prop where
 row:bW l=Á
 len:l.length=3
 po:HI l
 q1:Fs (-l.getD 0 0) (l.getD 1 0)
 q2:Fs (-l.getD 0 0) (l.getD 2 0)
def Z3(row:List Int)(z:Option (List Int)):Prop:=(iU row≠none/\z=none)\/(iU row=none/\∃x y t,z=À [x,y,t]/\jf [x,y,t]=1/\row.getD 0 0*(x*x)+row.getD 1 0*(y*y)+row.getD 2 0*(t*t)=0/\Sm 2000 x/\Sm 2000 y/\Sm 2000 t)
def NS{B:Int}(ha:a≠0)(j:b≠0)(i:c≠0)(m:A≠0)(k:B≠0)(r:0<u)(s:0<v)(e1:-a*b=A*(u*u))(e2:-a*c=B*(v*v))(h:zP [a,b,c] none):qB A B:=λp hp=>by
 obtain⟨f,l⟩:=h;rw[<-DO hp m k .b .b e1 e2];rcases hp with rfl|hp
 .rw[aN];rw[a7] at f;obtain⟨⟨x,g,q⟩,⟨y,d,t⟩⟩:=f
  have key:0 < -a*b\/0 < -a*c:=by
   apply Xf;intro e;have o:¬0 < -a*b:=λz=>e (.inl z);have n:¬0 < -a*c:=λz=>e (.inr z);rw[eN .b j] at o;rw[eN .b i] at n;simp only[Xa,Xe,XA] at g d;rcases g with rfl|rfl|rfl<;>rcases d with rfl|rfl|rfl<;>lia
  rcases key with z|z
  .rw[XI z];rfl
  .rw[XI z,abf]
 .have:=l p hp;rwa[dc (by have:=aq hp;lia),Fo (.inr hp) ha j i] at this
abbrev WI(P w K mg base):=aH P w K mg base 10 "first_without" ["row"] (cH K Ic Á iU)
def qU(S3:⇑WE)(SY:⇑WH)(Tc:⇑WI)
  (Tz:⇑aH 6 "freed_product" ["a","b"] (cM K Fs Á Oq)) (T4:⇑aH 126 "square_of_two" ["a","b"] (s_ K (λa b=>HQ a b/\tI a b<118/\tI a b<118) Á MC)) (row:List Int) (hp:Bm row):⇑Body jQ "zero_of_three" gG f 126 [.val Â row] (ug Á (Z3 row)):=by
 intro cdv A outer s H E i;obtain⟨C,hl,T,q1,α⟩:=hp
 match row,hl with
 |[a,b,c],_ =>
 have q1:Fs (-a) b:=q1;have α:Fs (-a) c:=α;have ha:=cK C (x:=a) .c;have Γ:=cK C (x:=b) .c;have d:=cK C (x:=c) .c;refine sA (aD S3 (i.mono .a) rfl .A C) ?_;refine ao 1 bL.nd (aA Tz (i.mono .a) rfl (du (aT (a:=a) .A af rfl)) (aT (a:=b) .A af rfl) q1) ?_;refine ao 2 bL.nd (aA Tz (i.mono .a) rfl (du (aT (a:=a) .A af rfl)) (aT (a:=c) .A af rfl) α) ?_;have B:Ic [a,b,c]:=#[C,T,λ_ _ e=>by simp at e];obtain⟨_,_,_,_,t1,l⟩:=q1;obtain⟨_,_,_,_,t2,n⟩:=α;obtain⟨N,u,R,j,u0,e1⟩:=xF (Xb .b Γ.1) t1;obtain⟨L,v,O,D,Z,e2⟩:=xF (Xb .b d.1) t2;have o:Oq (-a) b=(N,(u,1)):=R;have q:Oq (-a) c=(L,(v,1)):=O;rw[o] at l ⊢;rw[q] at n ⊢;have l:N.natAbs<1073741824:=l;have n:L.natAbs<1073741824:=n;have ok:=xG [a,b,c];cases I:iU [a,b,c] with
 |some p =>
  refine aF (qP (x:=À p) (M:=Int) (cE (aD Tc (i.mono .a) rfl .A B) I) λ_ _ _ _ h=>nomatch h) (λ_=>?_) (λd=>nomatch d);exact au (kC (M:=List Int)) #[_,.inl #[(by rw[I];exact λz=>nomatch z),rfl],rfl]
 |none =>
  rw[I] at ok;refine aF (qP (x:=none) (M:=Int) (cE (aD Tc (i.mono .a) rfl .A B) I) λ_ _ _ _ h=>nomatch h) (λd=>nomatch d) (λ_=>?_);have yes:=NS ha.1 Γ.1 d.1 j.1 D.1 u0 Z e1 e2 ok;have σ:=MJ j.1 D.1 l n;have hl1:=uJ j.1 l;have hl2:=uJ D.1 n;refine fR 3 bL.nd (jo T4 (i.mono .a) rfl (cE (a':=N) (br (u:=(N,(u,(1:Int)))) .B) rfl) (cE (a':=L) (br (u:=(L,(v,(1:Int)))) .C) rfl) #[#[j,D,l,n,yes],Ξ σ,Ξ σ]) λz hz=>?_;obtain⟨x,y,t,rfl,ez,nz,G,r,st⟩:=hz;have G:Sm 1850 x:=G.le .b;have r:Sm 1850 y:=r.le .b;have st:Sm 1850 t:=st.le .b
  have W:∀{k A u:Int},A≠0->0<u->k.natAbs<1073741824*1073741824->k=A*(u*u)->Sm 60 u:=λ{k A u} j hu hk e=>by
   have:=B7 j hu e;unfold Sm;lia
  have X:∀{x y:Int},x.natAbs<1073741824->y.natAbs<1073741824->(-x*y).natAbs<1073741824*1073741824:=λ{x y} h1 h2=>by
   rw[XN,Ϟ];exact ο h1 h2
  have F:=W j.1 u0 (X ha.2 Γ.2) e1;have J:=W D.1 Z (X ha.2 d.2) e2;have m:Sm 30 a:=by unfold Sm;exact ha.2
  refine ao 4 bL.nd (br (bO .B)) ?_;refine ao 5 bL.nd (br (bO .C)) ?_;refine ao 6 bL.nd (aE (aE (aT (a:=x) .D af rfl) (ae 4) (G.ok F)) (ae 5) ((G.mul F).ok J)) ?_
  have hn:¬(x*u*v=0/\y*a*v=0/\t*a*u=0):=fun⟨z1,z2,z3⟩=>nz #[by
    rcases Yo.mp z1 with z|z
    .rcases Yo.mp z with z|z
     .exact z
     .lia
    .lia,by
    rcases Yo.mp z2 with z|z
    .rcases Yo.mp z with z|z
     .exact z
     .exact absurd z ha.1
    .lia,by
    rcases Yo.mp z3 with z|z
    .rcases Yo.mp z with z|z
     .exact z
     .exact absurd z ha.1
    .lia]
  have w1:Sm 2000 (x*u*v):=((G.mul F).mul J).le .a;have w2:Sm 2000 (y*a*v):=((r.mul m).mul J).le .a;have w3:Sm 2000 (t*a*u):=((st.mul m).mul F).le .a;obtain⟨pw,g,S,V,t',g0,ew,ex,ey,et,hg,s1,s2,s3⟩:=r_ hn w1 w2 w3 .a;have heq:a*(S*S)+b*(V*V)+c*(t'*t')=0:=NK .b e1 e2 ez ex ey et;refine au (jA (aD SY (i.mono .a) rfl (c8 (as:=[x*u*v,y*a*v,t*a*u]) (ay (ae 6) (ay (aE (aE (aT (a:=y) .D af rfl) (gZ (b':=Á) (aT (a:=a) .A af rfl)) (r.ok m)) (ae 5) ((r.mul m).ok J)) (ay (aE (aE (aT (a:=t) .D af rfl) (gZ (b':=Á) (aT (a:=a) .A af rfl)) (st.ok m)) (ae 4) ((st.mul m).ok F)) bF))) (by show 3<=1000;decide)) pw)) ?_;rw[ew];exact#[_,.inr #[I,S,V,t',rfl,hg,heq,s1,s2,s3],rfl]
def mM{row:List Int}(nz:∀x∈row,x≠0):q∈mN row↔q=2\/(aO q=Á/\∃a∈row,q∣a):=by
 unfold mN;rw[ip];unfold yF;rw[Xa,ab_];refine or_congr_right ?_;constructor
 .rintro⟨a,ha,d⟩;have h1:1<=(a.natAbs:Int):=by have:=nz a ha;lia
  obtain⟨b,c⟩:=(iE h1).mp d;exact#[b,a,ha,Y1.mp c]
 .rintro⟨b,a,ha,c⟩;have h1:1<=(a.natAbs:Int):=by have:=nz a ha;lia
  exact#[a,ha,(iE h1).mpr #[b,Y1.mpr c]]
def F_(h:∀x∈[a,b,c],x≠0/\x.natAbs<1073741824)(q1:Fs (-a) b)(f:Fs (-a) c):Bm [a,b,c]:=by
 refine#[?_,rfl,#[by show 3<=100;decide,λk g=>by have:=h k g;lia,?_],q1,f]
 .unfold bW;rw[XI (by show 1<=3/\3<=8;decide),aaC];exact XX.mpr λx d=>by unfold z_;exact XI (h x d)
 .have e:∀x∈[a,b,c],(pK (x.natAbs:Int)).length<=19:=λx d=>by
   have:=h x d;exact vm .b .b
  have j:=e a .c;have i:=e b .c;have l:=e c .c;unfold yF;simp only[abP,Υ,Yd,XD,Xk,acm];lia
def oO{K:Ã}{N:Nn}{H:Hp}{a:List Int}:¬Py.rp K N H .non a:=λh=>by
 obtain⟨_,_,e,_⟩:=h;cases e
abbrev nM:=List (Int⊕(Int×Int))
noncomputable instance:DecidableEq (Int⊕(Int×Int)):=λa b=>match a,b with
 |.inl x,.inl y=>decidable_of_iff (x=y) #[λh=>by rw[h],λh=>acq h]
 |.inr x,.inr y=>decidable_of_iff (x=y) #[λh=>by rw[h],λh=>aaY h]
 |.inl _,.inr _=>isFalse λh=>by cases h
 |.inr _,.inl _=>isFalse λh=>by cases h
def OQ(c:Int⊕(Int×Int))(cs:nM):Bool:=cs.any λd=>decide (d=c)
def ou{c:Int⊕(Int×Int)}{cs:nM}:OQ c cs=Á↔c∈cs:=by
 unfold OQ;rw[YI];constructor
 .rintro⟨d,a,e⟩;rwa[<-Xq e]
 .intro h;exact#[c,h,XI rfl]
def D3(k:Int)(ps:List Int):nM:=ps.map (bJ k)
def p5(ps:List Int):Prop:=ps=P7\/∃q:Nat,q∈xt/\ps=P7++[(q:Int)]
def p5.ok(h:p5 ps)(hp:p∈ps):Pl p/\(p=0\/(2<=p/\p<2^20)):=by
 have a:p∈P7->Pl p/\(p=0\/(2<=p/\p<2^20)):=λm=>by
  rcases tL m with z|z
  .exact#[.inl z,.inl z]
  .refine#[.inr z.2.1,?_];simp only[P7,Xa,Xe,XA] at m;lia
 rcases h with rfl|⟨q,b,rfl⟩
 .exact a hp
 .rcases X2.mp hp with z|z
  .exact a z
  .rw[Xv.mp z];obtain⟨h1,h2,c⟩:=e_ b;exact#[.inr h1,.inr #[.b,.b]]
def p5.len(h:p5 ps):7<=ps.length/\ps.length<=8:=by
 rcases h with rfl|⟨q,a,rfl⟩
 .decide
 .rw[XD];exact#[Z6 7,Xm 8]
def p5.at(h:p5 ps)(a:j<7):ps.getD j 0=P7.getD j 0:=by
 rcases h with rfl|⟨q,b,rfl⟩
 .rfl
 .rw[Xh,YJ (show j<P7.length from a),Xh]
def get_mem(a:j<ps.length):ps.getD j 0∈ps/\ps[j]?=À (ps.getD j 0):=by
 rw[Xh,Xn a];exact#[YY _,rfl]
def RD(a b:Int⊕(Int×Int))(p:Int):Prop:=Pl p/\∃m n:Int,m≠0/\n≠0/\a=bJ m p/\b=bJ n p
def KI{n:Int}(hp:aO p=Á)(b:n≠0):Sm 4 (cls n p).2:=by
 obtain⟨_,h2,a⟩:=jE hp b;by_cases z:p=2
 .have:=h2 z;simp only[Xa,Xe,XA] at this;unfold Sm;omega
 .have:=a z;unfold Sm;omega
def mz(a b:Int⊕(Int×Int))(p:Int)(hp:RD a b p):⇑Body gY "class_of_product" eJ f kk [.val Â a,.val Â b,.val Â p] (RT Á (lI a b p)):=by
 intro j A outer s H E o;obtain⟨hp,m,n,k,l,rfl,rfl⟩:=hp;rcases hp with rfl|pp
 .have g:bJ m 0=ĉ (if 0<m then 1 else -1):=Xc rfl;have h:bJ n 0=ĉ (if 0<n then 1 else -1):=Xc rfl;rw[g,h];have c:Sm 1 (if 0<m then (1:Int) else -1):=by unfold Sm;split<;>decide
  have e:Sm 1 (if 0<n then (1:Int) else -1):=by unfold Sm;split<;>decide
  generalize (if 0<m then (1:Int) else -1)=x at *;generalize (if 0<n then (1:Int) else -1)=y at *;refine aF (av ax .C af) (λ_=>?_) (λi=>absurd i .a);exact au (K2 (β:=Int×Int) (aE (LB (β:=Int×Int) (a:=x) .A) (LB (β:=Int×Int) (a:=y) .B) (c.ok e))) rfl
 .have d:p≠0:=by have:=aq pp;lia
  have g:bJ m p=å (cls m p):=W_ d;have h:bJ n p=å (cls n p):=W_ d;have c:=KI pp k;have e:=KI pp l;rw[g,h];generalize cls m p=u at *;generalize cls n p=v at *;refine aF (av ax .C af) (λi=>absurd ↑i d) (λ_=>?_);refine ao 3 gJ.nd (aE (bO (vj (M:=Int) (a:=u) .A)) (bO (vj (M:=Int) (a:=v) .B)) (c.ok e)) ?_;by_cases z:p=2
  .refine au (GY (M:=Int) (bS (aR (bQ (br (vj (M:=Int) (a:=u) .A)) (br (vj (M:=Int) (a:=v) .B))) af .a) (kW (av ax .C af) (λ_=>aR .D af .a) (λ_=>ae 3)))) ?_;show Bd.val _ _=Bd.val _ (å (bq u v p));unfold bq;rw[Xc z,Xc (XI z),Yl _ .a,Yl _ .a];rfl
  .refine au (GY (M:=Int) (bS (aR (bQ (br (vj (M:=Int) (a:=u) .A)) (br (vj (M:=Int) (a:=v) .B))) af .a) (kW (av ax .C af) (λ_=>aR .D af .a) (λ_=>ae 3)))) ?_;show Bd.val _ _=Bd.val _ (å (bq u v p));unfold bq;rw[W_ z,W_ (by rw[XH z];decide),Yl _ .a];rfl
def O3(h:Q6[i]?=À p):p=Q.Q6.getD i 1/\i<6/\0<=p/\p<=13:=by
 have hi:i<6:=(Xl.mp h).1;have e:p=Q.Q6.getD i 1:=by rw[Xh,h];rfl
 have m:p∈Q6:=Xg h;simp only[Q6,Xa,Xe,XA] at m;exact#[e,hi,.b,.b]
def ky(o:xP K mg "SMALL_PLACES" [0,2,3,5,7,11,13]):⇑Body dF "small_free_numbers" cc f kk [] (ug Á (fun(m:List Int)=>m.Perm (bx 6))):=by
 intro g A outer s H E t;refine ao 0 b9.nd (c8 (as:=[(1:Int),-1]) (b:=Á) (ay af (ay (du af) bF)) (X6 rfl)) ?_;refine qh (as:=Q6) (λi U=>∃d,i<=6/\U=[À (.val Á (bx i)),d]) (cV 1 b9.nd) (FX (B6 (u9 rfl o) af .a .a)) #[none,.a,rfl] ?_ ?_
 .rintro i p U' hp ⟨d,e,rfl⟩;obtain⟨ep,hi,q,l⟩:=O3 hp;have u:=Jc i e;have c:=Ng i e
  refine ao 0 b9.nd (cE (a':=bx (i+1)) (Ep .A (eE (b':=Á) (f:=λk:Int=>k*p) ["k"] [1] (bG (ag cc) dF rfl rfl .d) (bc .A) (a_ 0) (λC s H fp=>cL 0 ["k","p"]) aX (λj k n C s H fp=>by
   have:=c k (Xg n)
   exact aE .A .B ((show Sm 15 k by unfold Sm;lia).ok (show Sm 4 p by unfold Sm;lia))) .b) (by rw[Xk];lia)) (by rw[ep];rfl)) ?_
  exact aK #[_,.b,rfl]
 .rintro U' ⟨d,_,rfl⟩;have r:=Q.tZ.1;exact iT (EB rfl B.sorted rfl B.abs .A (by kernel_rfl)) λa h=>#[a,h,rfl]
abbrev WJ(P w K mg base):=aH P w K mg base 3 "class_at" ["k","p"] (cM K (λk p=>k≠0/\(p=0\/(2<=p/\p<2^62))) Á tQ)
def wj(e:⇑WJ)(k:Int)(ps:List Int)(d:k≠0)(a:p5 ps):⇑Body jI "classes_of" gO f 3 [.val Â k,.val Â ps] (RT Á (D3 k ps)):=by
 intro b A outer s H E c;have g:=a.len;exact au (eE (b':=Á) (f:=bJ k) ["p"] [0] (bG (ag gO) jI rfl rfl .d) (bc .B) (a_ 0) (λC s H fp=>cL 0 ["p","k"]) aX (λj p hp C s H fp=>aA e (c.mono .a) rfl .B .A #[d,by have:=(a.ok (Xg hp)).2;omega]) .e) rfl
structure Ks(ps:List Int)(ws:List nM):Prop where
 len:ws.length=ps.length
 few:∀cs∈ws,cs.length<=100
 cl:∀j,j<ps.length->∀c∈ws.getD j [],∃n:Int,n≠0/\c=bJ n (ps.getD j 0)
def A8(k:Int)(ps:List Int)(a:List nM):List nM:=(ps.zip a).map λu=>u.2.map λc=>lI (bJ k u.1) c u.1
def MS{a:List nM}{u:Int×nM}(b:a.length=ps.length)(h:(ps.zip a)[i]?=À u):i<ps.length/\u.1=ps.getD i 0/\u.2=a.getD i []/\u.1∈ps/\u.2∈a:=by
 have hz:=(Yn (z:=u)).mp h;exact#[(Xl.mp hz.1).1,by rw[Xh,hz.1];rfl,by rw[Xh,hz.2];rfl,Xg hz.1,Xg hz.2]
def ph(I:⇑WJ)(F:⇑aH 1 "class_of_product" ["one","other","p"] (vg K RD Á lI))(k:Int)(ps:List Int)(b:List nM)(r:k≠0)(h:p5 ps)(G:Ks ps b):⇑Body fV "wishes_without" dQ f 3 [.val Â k,.val Â ps,.val Â b] (RT Á (A8 k ps b)):=by
 intro D A outer s H E o;obtain⟨x,d,z⟩:=G;refine KZ 3 nM dm.nd ?_;refine qh (as:=ps.zip b) (λi U=>∃m l g,U=[À (.val Â k),À (.val Â ps),À (.val Â b),À (.own Á (((ps.zip b).take i).map λu=>u.2.map λc=>lI (bJ k u.1) c u.1)),m,l,g]) (x5 4 5 dm.nd) (xM rfl B.zip .B .C) #[none,none,none,rfl] ?_ ?_
 .rintro i u U' q ⟨m,l,g,rfl⟩;obtain⟨hi,e1,e2,m1,m2⟩:=MS x q;refine ao 6 dm.nd (aA I (o.mono .a) rfl .A (ae (a:=u.1) 4) #[r,by have:=(h.ok m1).2;lia]) ?_;have p:=d _ m2;refine oB 3 (a:=u.2.map λc=>lI (bJ k u.1) c u.1) rfl (eE (b':=Á) (f:=λc=>lI (bJ k u.1) c u.1) ["wish"] [6,4] (bG (ag dQ) fV rfl rfl .d) (bc (ae (a:=u.2) 5)) (a_ 0) (λC s H fp=>cL 0 ["wish","own","p"]) aX (λj c e C s H fp=>?_) .b) ?_ ?_
  .have t:c∈u.2:=Xg e;rw[e2] at t;obtain⟨n,y,v⟩:=z i hi c t;rw[<-e1] at v;exact dJ F (o.mono .a) rfl .B .A .C #[(h.ok m1).1,k,n,r,y,rfl,v]
  .have:=h.len;rw[Xk,Y8];lia
  .refine aK #[À (.val Â u.1),À (.val Â u.2),À (.val Á (tQ k u.1)),?_];rw[Y2,q,Option.toList_some,Y3];rfl
 .rintro U' ⟨m,l,g,rfl⟩;refine dt 3 rfl ?_;rw[YB];exact au .D rfl
def HS(cl:nM)(a:List nM):Bool:=(cl.zip a).all λu=>OQ u.1 u.2
def zx(cl:nM)(d:List nM):⇑Body p8 "are_among" kj f kk [.val Â cl,.val Â d] (RT Á (HS cl d)):=by
 intro m A outer s H E o;refine qh (as:=cl.zip d) (λi U=>(∀u∈(cl.zip d).take i,u.1∈u.2)/\∃h j,U=[À (.val Â cl),À (.val Â d),h,j]) (x5 2 3 nQ.nd) (xM rfl B.zip .A .B) #[(λu b=>by rw[abp] at b;cases b),none,none,rfl] ?_ ?_
 .rintro i u U' b ⟨g,h,j,rfl⟩;refine aF (av (Kj (a:=u.1) (as:=u.2) (c:=OQ u.1 u.2) (AI o) .a ou) .C .D) (λk=>?_) (λk=>?_)
  .have n:OQ u.1 u.2=Â:=by simpa using k
   have e:HS cl d=Â:=by
    unfold HS;rw[List.all_eq_false];exact#[u,Xg b,by rw[n];decide]
   rw[e];exact au j4 rfl
  .have p:u.1∈u.2:=ou.mp ↑k;refine aK #[λx l=>?_,_,_,rfl];rw[Y2,b] at l;rcases X2.mp l with w|w
   .exact g x w
   .rwa[Xv.mp w]
 .rintro U' ⟨g,h,j,rfl⟩
  have e:HS cl d=Á:=by
   unfold HS;rw[XX];intro u b;rw[YB] at g;exact ou.mpr (g u b)
  rw[e];exact au j4 rfl
def Qn(ps:List Int)(a:List nM)(n:Int):Prop:=∀j,j<ps.length->bJ n (ps.getD j 0)∈a.getD j []
structure PL(ps:List Int)(ws:List nM):Prop where
 ne:∀j,j<7->ws.getD j []≠[]
 un:∀q:Nat,ps=P7++[(q:Int)]->∃n:Int,¬(q:Int)∣n/\bJ n q∈ws.getD 7 []
def QM(ps:List Int)(a:List nM)(n:Int):Prop:=∃k q:Int,n=k*q/\k∈bx 6/\(q=1\/(aO q=Á/\17<=q/\q<=24049))/\(ps=P7->q=1\/∃r:Nat,r∈xt/\q=(r:Int))/\Qn ps a n
def OG{f:Int}{a:List nM}(d:a.length=ps.length)(b:j<ps.length):(A8 f ps a).getD j []=(a.getD j []).map λc=>lI (bJ f (ps.getD j 0)) c (ps.getD j 0):=by
 have h2:a[j]?=À (a.getD j []):=by rw[Xh,Xn (show j<a.length by lia)];rfl
 unfold A8;rw[Xh,Xw,(Yn (z:=(ps.getD j 0,a.getD j []))).mpr #[(get_mem b).2,h2]];rfl
def zK{f k:Int}{b:List nM}(q:p5 ps)(o:Ks ps b)(d:f≠0)(i:k≠0):HS (D3 k ps) (A8 f ps b)=Á↔Qn ps b (k*f):=by
 have l:=o.len;have lw:(A8 f ps b).length=ps.length:=by unfold A8;rw[Xk,ZR,l];lia
 have key:∀j,j<ps.length->(bJ k (ps.getD j 0)∈(A8 f ps b).getD j []↔bJ (k*f) (ps.getD j 0)∈b.getD j []):=λj a=>by
  have pl:=(q.ok (get_mem a).1).1;rw[OG l a,Xs];constructor
  .rintro⟨c,m,e⟩;obtain⟨n,r,rfl⟩:=o.cl j a c m;rwa[(u4 pl d i r).mp e.symm]
  .intro s;exact#[_,s,((u4 pl d i (Xb i d)).mpr rfl).symm]
 have p:∀{j:Nat},j<ps.length->(ps.map (bJ k))[j]?=À (bJ k (ps.getD j 0)):=λ{j} a=>by rw[Xw,(get_mem a).2];rfl
 unfold HS D3;rw[XX];constructor
 .intro h j a;rw[<-key j a];have h2:(A8 f ps b)[j]?=À ((A8 f ps b).getD j []):=by rw[Xh,Xn .b];rfl
  exact ou.mp (h _ (Xg ((Yn (z:=(bJ k (ps.getD j 0),(A8 f ps b).getD j []))).mpr #[p a,h2])))
 .intro h u t;obtain⟨j,a⟩:=Yu.mp t;have hz:=(Yn (z:=u)).mp a;have g:j<ps.length:=by have:=(Xl.mp hz.2).1;lia
  have e1:u.1=bJ k (ps.getD j 0):=Xy (hz.1.symm.trans (p g));have e2:u.2=(A8 f ps b).getD j []:=by rw[Xh,hz.2];rfl
  refine ou.mpr ?_;rw[e1,e2,key j g];exact h j g
def PN{h:List nM}(o:p5 ps)(K:Ks ps h)(f:PL ps h):∃k q,k∈bx 6/\(q=1\/(aO q=Á/\17<=q/\q<=24049))/\(ps=P7->q<=8089)/\Qn ps h (k*q):=by
 have T:=o.len
 have ch:∀j,j<7->∃n:Int,n≠0/\bJ n (P7.getD j 0)∈h.getD j []:=λj a=>by
  obtain⟨c,g⟩:=List.exists_mem_of_ne_nil _ (f.ne j a);obtain⟨n,d,rfl⟩:=K.cl j .b c g;rw[o.at a] at g;exact#[n,d,g]
 obtain⟨d,R,Γ⟩:=ch 0 .a;obtain⟨v,Z,b1⟩:=ch 1 .a;obtain⟨p,V,b2⟩:=ch 2 .a;obtain⟨t,σ,b3⟩:=ch 3 .a;obtain⟨i,P,b4⟩:=ch 4 .a;obtain⟨l,a5,S⟩:=ch 5 .a;obtain⟨s,W,O⟩:=ch 6 .a
 have nz:∀n∈[d,v,p,t,i,l,s],n≠0:=λn B=>by
  simp only[Xa,Xe,XA] at B;rcases B with rfl|rfl|rfl|rfl|rfl|rfl|rfl<;>assumption
 have fin:∀x:Int,(∀j,j<7->bJ x (P7.getD j 0)=bJ ([d,v,p,t,i,l,s].getD j 1) (P7.getD j 0))->∀j,j<7->bJ x (ps.getD j 0)∈h.getD j []:=λx F j a=>by
  rw[o.at a,F j a];have:j=0\/j=1\/j=2\/j=3\/j=4\/j=5\/j=6:=by lia
  rcases this with rfl|rfl|rfl|rfl|rfl|rfl|rfl<;>assumption
 rcases id o with e|⟨q,C,e⟩
 .obtain⟨k,q,w,q1,u,L,a⟩:=yX (ns:=[d,v,p,t,i,l,s]) rfl nz;refine#[k,q,w,.inr #[q1,u,.b],λ_=>L,λj b=>fin _ a j ?_];rwa[e] at b
 .obtain⟨m,y,g⟩:=f.un q e;obtain⟨D,H,_⟩:=e_ C;obtain⟨k,r,w,I,a,N,E⟩:=C6 (ns:=[d,v,p,t,i,l,s]) rfl nz C (sg:=bp m q) (bu y);refine#[k,r,w,I,λz=>?_,λj b=>?_]
  .rw[z] at e;have:=congrArg ĳ e;rw[XD] at this;exact absurd (show 7=7+1 from this) .a
  .have X:ps.length=8:=by rw[e,XD];rfl
   by_cases α:j<7
   .exact fin _ a j α
   .have J:j=7:=by lia
    subst J;have G:ps.getD 7 0=(q:Int):=by rw[e];rfl
    rw[G];have A:¬(q:Int)=0:=by lia
    have u:(q:Int)≠2:=by lia
    have ec:bJ (k*r) q=bJ m q:=by
     unfold bJ;rw[W_ A,W_ A,cQ D u N,cQ D u y,E]
    rwa[ec]
abbrev WN(P w K mg base):=aH P w K mg base 1 "are_among" ["classes","wishes"] (cM K (fun(_:nM) (_:List nM)=>True) Á HS)
abbrev WM(P w K mg base):=aH P w K mg base 4 "wishes_without" ["k","places","wishes"] (vg K (fun(k:Int) (ps:List Int) (a:List nM)=>k≠0/\p5 ps/\Ks ps a) Á A8)
abbrev WL(P w K mg base):=aH P w K mg base 4 "classes_of" ["k","places"] (cM K (fun(k:Int) (ps:List Int)=>k≠0/\p5 ps) Á D3)
abbrev WK(P w K mg base):=aH P w K mg base 1 "small_free_numbers" [] (Jo K Á (fun(a:List Int)=>a.Perm (bx 6)))
def ud(S5:xP K mg "SMALL_PLACES" [0,2,3,5,7,11,13])(Ts:⇑WB)(Tu:⇑WK)(Uk:⇑WL)(TX:⇑WM)(Ut:⇑WN)
  (ps:List Int) (g:List nM) (o:p5 ps) (J:Ks ps g) (N:PL ps g):⇑Body gS "number_among" fA f 4 [.val Â ps,.val Â g] (ug Á (QM ps g)):=by
 intro cdv A outer s H E G;obtain⟨k0,m,I,V,R,O⟩:=PN o J N;have α:=tZ;refine fR 2 bR.nd (E6 Tu (G.mono .a) rfl) ?_;intro b hp;have ml:b.length=128:=by rw[hp.length_eq];exact α.1
 have mm:∀k∈b,k≠0/\-30030<=k/\k<=30030:=λk c=>by
  have:=α.2 k (hp.mem_iff.mp c);exact#[this.1,this.2.1,this.2.2.1]
 refine ua 4 bR.nd (b':=Á) (f:=λk=>D3 k ps) ["k"] [0] (bG (ag fA) gS rfl rfl .d) (bc .C) (a_ 0) (λC s H fp=>cL 0 ["k","places"]) aX (λj k c C s H fp=>aA Uk (G.mono .a) rfl .A .B #[(mm k (Xg c)).1,o]) .b ?_;refine ao 5 bR.nd af ?_
 have T:pf (13+1)=17:=by
  have h1:=kz (k:=14) (p:=17) (tY 17 .a) .a .a .a .a;have h2:=xB (k:=14) .a .a;have W:=m9 (k:=14) .a
  have:pf 14≠15:=λz=>by
   rw[z] at W;have:=(fj W (d:=3) .a .a);lia
  show pf 14=17;lia
 have hPB:PB=1070000011:=rfl;refine cz (ι:=Int) (λq U=>∃h σ l,U=[À (.val Â ps),À (.val Â g),À (.val Á b),h,À (.val Á (b.map λk=>D3 k ps)),À (.val Á q),σ,l]/\(q=1\/(aO q=Á/\17<=q))/\q<=m/\∀r,aO r=Á->17<=r->r<q->∀k∈bx 6,¬Qn ps g (k*r)) (λq=>(m-q).toNat) 1 #[none,none,none,rfl,.inl rfl,.b,λr _ h1 h2=>by lia] ?_;rintro q U' ⟨h,σ,l,rfl,Γ,hle,mn⟩;have q1:1<=q:=by lia
 refine#[Á,eT j4,λ_=>?_,λz=>nomatch z];refine ao 6 bR.nd (dJ TX (G.mono .a) rfl (ae 5) .A .B #[.b,o,J]) ?_;refine qh (as:=b.zip (b.map λk=>D3 k ps)) (λi U=>(∀k∈b.take i,HS (D3 k ps) (A8 q ps g)=Â)/\∃h l,U=[À (.val Â ps),À (.val Â g),À (.val Á b),h,À (.val Á (b.map λk=>D3 k ps)),À (.val Á q),À (.val Á (A8 q ps g)),l]) (x5 3 7 bR.nd) (xM rfl B.zip .C (ae 4)) #[(λk c=>by rw[abp] at c;cases c),h,l,rfl] ?_ ?_
 .rintro i u U' hu ⟨D,h,l,rfl⟩;have hz:=(Yn (z:=u)).mp hu;have mk:=Xg hz.1;obtain⟨k1,k2,k3⟩:=mm _ mk
  have e2:u.2=D3 u.1 ps:=by
   have:=hz.2;rw[Xw,hz.1] at this;exact(Xy this).symm
  refine aF (eT (aA Ut (G.mono .a) rfl (ae (a:=u.2) 7) (ae 6) É)) (λL=>?_) (λL=>?_)
  .rw[e2] at L;have hj:=(zK o J (show q≠0 by lia) k1).mp L;refine au (aE (ae (a:=u.1) 3) (ae 5) ((show Sm 15 u.1 by unfold Sm;lia).ok (show Sm 15 q by unfold Sm;lia))) #[u.1*q,#[u.1,q,rfl,hp.mem_iff.mp mk,?_,λe=>?_,hj],rfl]
   .rcases Γ with z|z
    .exact .inl z
    .exact .inr #[z.1,z.2,.b]
   .rcases Γ with z|z
    .exact .inl z
    .refine .inr ?_;have:=R e;obtain⟨r,t,hle',S⟩:=II z.1 z.2 .b;obtain⟨v,n,_⟩:=e_ t;by_cases er:(r:Int)=q
     .exact#[r,t,er.symm]
     .refine absurd (λj F=>?_) (mn r v .b .b u.1 (hp.mem_iff.mp mk));have X:ps.getD j 0∈P7:=by have:=(get_mem F).1;rw[e] at this ⊢;exact this
      have:=hj j F;rw[<-rV X k1 .b] at this ⊢;rw[S _ X];exact this
  .refine aK #[λk c=>?_,_,_,rfl];rw[Y2,hz.1] at c;rcases X2.mp c with w|w
   .exact D k w
   .rwa[Xv.mp w,<-e2]
 .rintro U' ⟨D,h,l,rfl⟩;have lz:(b.zip (b.map λk=>D3 k ps)).length=b.length:=by rw[ZR,Xk,Nat.min_self]
  rw[lz,YB] at D
  have Z:q≠m:=λz=>by
   have:=D k0 (hp.mem_iff.mpr I);rw[z,(zK o J (show m≠0 by lia) (α.2 k0 I).1).mpr O] at this;cases this
  have fail:∀k∈bx 6,¬Qn ps g (k*q):=λk c z=>by
   have:=D k (hp.mem_iff.mpr c);rw[(zK o J (show q≠0 by lia) (α.2 k c).1).mpr z] at this;cases this
  obtain⟨p1,p2,p3⟩:aO m=Á/\17<=m/\m<=24049:=V.resolve_left .b
  have ho:∀{x:Int},aO x=Á->17<=x->x%2=1:=λ{x} h1 h2=>by
   rcases Q.bP.mp h1 with z|z
   .lia
   .exact z.2.1
  refine ao 5 bR.nd (aD Ts (G.mono .a) rfl (OX rfl rfl B.max (ae 5) (N4 (a:=13) (u9 rfl S5) af rfl)) #[by split<;>lia,by split<;>lia]) ?_;rcases Γ with z|⟨z1,z2⟩
  .have e:(if (13:Int)>q then (13:Int) else q)=13:=Xc .b;rw[e,T];exact aK #[17,#[_,_,_,rfl,.inr #[tY 17 .a,.a],p2,λr _ h1 h2=>by lia],.b]
  .have e:(if (13:Int)>q then (13:Int) else q)=q:=W_ .b;rw[e];have h1:=kz (k:=q+1) p1 .b (ho p1 p2) .b .b;have h2:=xB (k:=q+1) .b .b;refine aK #[_,#[_,_,_,rfl,.inr #[m9 .b,.b],h1,λr v n rl=>?_],.b];rcases Zw r q with y|y|y
   .exact mn r v n y
   .rw[y];exact fail
   .have:=kz (k:=q+1) v .b (ho v n) .b .b;lia
def Of(p:Int):Prop:=Pl p/\(p=0\/(2<=p/\p<2^20))
def Hs(hp:Of p)(b:p≠0)(h2:p≠2):NR p/\Sm 20 p/\Sm 20 (j9 p):=by
 have pp:=hp.1.resolve_left b;have a:=mh pp h2;obtain⟨g,d,h,c⟩:=Kw pp h2;obtain⟨i,f,e⟩:=mC a;have:¬g<j9 p:=λz=>e g d z c;have:=hp.2;refine#[a,?_,?_]
 .unfold Sm;lia
 .unfold Sm;lia
def vP(g:xP K mg "AT_NOUGHT" [1,-1])(e:xP K mg "AT_TWO" [1,3,5,7,2,6,10,14])(h:⇑Wr)(p:Int)(hp:Of p):⇑Body ni "samples_at" jw f 3 [.val Â p] (RT Á (jq p)):=by
 intro d A outer s H E j;unfold jq;refine aF (av ax .A af) (λa=>?_) (λa=>?_)
 .rw[Xc (Xq a)];exact au (wK rfl B.list (u9 rfl g)) rfl
 have c:p≠0:=XM a;rw[W_ c];refine aF (av ax .A af) (λa=>?_) (λa=>?_)
 .rw[Xc (Xq a)];exact au (wK rfl B.list (u9 rfl e)) rfl
 have h2:p≠2:=XM a;rw[W_ h2];obtain⟨l,i,k⟩:=Hs hp c h2;have:=hp.2.resolve_left c;refine ao 1 lR.nd (aD h (j.mono .a) rfl .A #[l,.e,.e]) ?_;exact au (c8 (as:=[1,j9 p,p,p*j9 p]) (b:=Á) (ay af (ay .B (ay (gZ (b':=Á) .A) (ay (aE .A .B (i.ok k)) bF)))) (by show 4<=1000;decide)) rfl
structure R7(one other:List Int)(p:Int):Prop where
 l1:one.length<=8
 l2:other.length<=8
 o1:∀a∈one,a≠0/\Sm 62 a
 o2:∀a∈other,a≠0/\Sm 62 a
 pl:Of p
def Ed(one other:List Int)(p:Int):zI one other p=((jq p).filter λk=>bN (one++[-k]) p&&bN (other++[k]) p).map λk=>tQ k p:=rfl
def KJ{k:Int}(hp:Of p)(a:k∈jq p):Sm 62 k/\Sm 62 (-k):=by
 have key:Sm 42 k:=by
  by_cases b:p=0
  .subst b;unfold jq at a;rw[Xc rfl] at a;simp only[Xa,Xe,XA] at a;unfold Sm;lia
  by_cases h2:p=2
  .subst h2;unfold jq at a;rw[W_ .a,Xc rfl] at a;simp only[Xa,Xe,XA] at a;unfold Sm;lia
  obtain⟨_,c,d⟩:=Hs hp b h2;unfold jq at a;rw[W_ b,W_ h2] at a;simp only[Xa,Xe,XA] at a;rcases a with rfl|rfl|rfl|rfl
  .show(1:Int).natAbs<2^42;decide
  .exact d.le .a
  .exact c.le .a
  .exact(c.mul d).le .a
 exact#[key.le .a,by have:Sm 62 k:=key.le .a;unfold Sm at *;lia]
def pP(h:⇑WJ)(j:⇑aH 4 "samples_at" ["p"] (cH K Of Á jq))(c:⇑aH 7 "have_zero" ["numbers","p"] (cM K Oo Á bN))(one other:List Int)(p:Int)(hp:R7 one other p):
  Body P w K mg base fN "shared_classes" dO f 7 [.val Â one,.val Â other,.val Â p] (RT Á (zI one other p)):=by
 intro d A outer s H E b;have hpl:=hp.pl
 have ok:∀{l:List Int} {k:Int},(∀a∈l,a≠0/\Sm 62 a)->k≠0->Sm 62 k->Oo (l++[k]) p:=λ{l k} g e m=>#[by rw[XD];exact acp _ _,λa ha=>by
  rcases X2.mp ha with ha|ha
  .exact g a ha
  .rw[Xv.mp ha];exact#[e,m],by have:=hpl.2;lia]
 refine au (Bt (f:=λk:Int=>tQ k p) (p:=λk=>bN (one++[-k]) p&&bN (other++[k]) p) (b':=Á) ["k"] [0,1,2] (bG (ag dO) fN rfl rfl .d) (bc (aD j (b.mono .a) rfl .C hpl)) (a_ 0) (λC s H fp=>cL 0 ["k","one","other","p"]) aX (λi k hi C s H fp=>kL (TW.t (kX (eT (aA c (b.mono .a) rfl (fJ .B (c8 (ay (du .A) bF) .c) ?_) .D ?_)) λ_=>(jt (eT (aA c (b.mono .a) rfl (fJ .C (c8 (ay .A bF) .c) ?_) .D ?_)))))) (λi k hi _ C s H fp=>aA h (b.mono .a) rfl .A .D #[mB hpl.1 k (Xg hi),by have:=hpl.2;lia]) (by have:=G4 p;lia)) rfl
 .have:=hp.l1;rw[aa7];lia
 .have:=mB hpl.1 k (Xg hi);exact ok hp.o1 .b (KJ hpl (Xg hi)).2
 .have:=hp.l2;rw[aa7];lia
 .exact ok hp.o2 (mB hpl.1 k (Xg hi)) (KJ hpl (Xg hi)).1
structure Od(one other:List Int):Prop where
 l1:one.length<=8
 l2:other.length<=8
 o1:∀a∈one,a≠0/\Sm 62 a
 o2:∀a∈other,a≠0/\Sm 62 a
 po:HI (one++other)
 pl:(mN (one++other)).length<=50
 ps:∃ps,p5 ps/\(∀p,p∈ps↔p∈P7\/p∈mN (one++other))/\PL ps (ps.map λp=>zI one other p)
structure K5(one other ps:List Int)(t:Int):Prop where
 ok:p5 ps
 sm:∀p,p∈ps↔p∈P7\/p∈mN (one++other)
 na:QM ps (ps.map λp=>zI one other p) t
def tS{M:Type}(g:Int->List M)(h:j<ps.length):(ps.map g).getD j []=g (ps.getD j 0):=by
 rw[Xh,Xw,(get_mem h).2];rfl
def Qd(f:p5 ps)(one other:List Int):Ks ps (ps.map λp=>zI one other p):=by
 refine#[Xk ..,λcs a=>?_,λj d c b=>?_]
 .obtain⟨p,_,rfl⟩:=Xs.mp a;rw[Ed,Xk];exact X8 (acx ..) (X8 (G4 p) .a)
 .rw[tS _ d,Ed] at b;obtain⟨k,e,rfl⟩:=Xs.mp b;exact#[k,mB (f.ok (get_mem d).1).1 k (Ye.mp e).1,rfl]
def p5.inc(h:p5 ps):ps.Pairwise (·<·):=by
 have c:P7.Pairwise (·<·):=by decide
 rcases h with rfl|⟨q,e,rfl⟩
 .exact c
 .refine List.pairwise_append.mpr #[c,List.pairwise_singleton _ _,λa ha b d=>?_];rw[Xv.mp d];have:=(e_ e).2.1;simp only[P7,Xa,Xe,XA] at ha;lia
abbrev WO(P w K mg base):=aH P w K mg base 5 "number_among" ["places","wishes"] (s_ K (fun(ps:List Int) (a:List nM)=>p5 ps/\Ks ps a/\PL ps a) Á (λps a (n:Int)=>QM ps a n))
def C4(m:xP K mg "SMALL_PLACES" [0,2,3,5,7,11,13])(o:⇑WD)(n:⇑aH 8 "shared_classes" ["one","other","p"] (vg K R7 Á zI))(h:⇑WO)(one other:List Int)(hp:Od one other):
  Body P w K mg base oW "meeting" lx f 8 [.val Â one,.val Â other] (ug Á (fun(t:Int)=>∃ps,K5 one other ps t)):=by
 intro j A outer s H E e;have l:=hp.l1;have k:=hp.l2;have pl:=hp.pl;obtain⟨ps,b,g,d⟩:=hp.ps;have r:=b.len
 have c:sset ([0,2,3,5,7,11,13]++mN (one++other))=ps:=sj (hZ _) b.inc λa=>by
  rw[ip,X2,g];exact Ŕ
 refine ao 2 t6.nd (cE (a':=ps) (uT rfl rfl B.sorted rfl B.set (fJ (wK rfl B.list (u9 rfl m)) (aD o (e.mono .a) rfl (fJ .A .B .b) hp.po) (by show 7+_<=1000;lia)) (by rw[XD];show 7+_<64;lia)) c) ?_;exact iT (jo h (e.mono .a) rfl .C (eE (b':=Á) (f:=λp=>zI one other p) ["p"] [0,1] (bG (ag lx) oW rfl rfl .d) (bc .C) (a_ 0) (λC s H fp=>cL 0 ["p","one","other"]) aX (λi p hi C s H fp=>dJ n (e.mono .a) rfl .B .C .A #[l,k,hp.o1,hp.o2,b.ok (Xg hi)]) .b) #[b,Qd b one other,d]) λt q=>#[_,#[ps,b,g,q],rfl]
abbrev WQ(P w K mg base):=aH P w K mg base 127 "zero_of_three" ["row"] (eF K Bm Á Z3)
def qC(c:⇑WQ)(l:List Int)(hp:Bm l):⇑Body eU "zero_of_free" dA f 127 [.val Â l] (ug Á (Z3 l)):=by
 intro b A outer s H E d;have e:=hp.len;refine aF (av ax (bj rfl B.len .A) af) (λa=>?_) (λ_=>?_)
 .exfalso;have:=Xq a;lia
 refine aF (av ax (bj rfl B.len .A) af) (λ_=>?_) (λa=>?_)
 .exact iT (bV c (d.mono .a) rfl .A hp) λz hz=>#[_,hz,rfl]
 .exfalso;have:=XM a;lia
noncomputable def zQ(l z:List Int):Nat->Int
 |0=>0
 |i+1=>zQ l z i+l.getD i 0*(z.getD i 0*z.getD i 0)
structure zu(n:Nat)(l z:List Int):Prop where
 len:z.length=l.length
 nz:∃x∈z,x≠0
 eq:zQ l z l.length=0
 sm:∀x∈z,Sm n x
abbrev ZF:=zu 6200
def mO(h:iU l=none):bN l 0=Á/\∀q,aO q=Á->bN l q=Á:=by
 have:=xG l;rwa[h] at this
def xv(h:∀p,Pl p->bN l p=Á):iU l=none:=(fQ (r:=none) #[h 0 (.inl rfl),λq a=>h q (.inr a)]).symm
def wq(h:lK Q6 a):(pK (a.natAbs:Int)).length<=6:=by
 have n:=h.1;have h1:1<=(a.natAbs:Int):=by lia
 have key:((pK (a.natAbs:Int)).map (·.1)).length<=Q.Q6.length:=kh (by obtain⟨⟨b,f⟩,_⟩:=oV h1;exact(tO f).1.imp λh=>by lia) λx c=>by
  obtain⟨d,e⟩:=(iE h1).mp c;exact h.2 x d (Y1.mp e)
 rwa[Xk] at key
theorem GN:∀{l:List Int} {n:Nat},(∀a∈l,(pK (a.natAbs:Int)).length<=n)->(l.flatMap λk=>(pK (k.natAbs:Int)).map (·.1)).length<=l.length*n
 |[],n,_=>by simp
 |a::l,n,h=>by
  have h1:=GN (l:=l) (n:=n) λx b=>h x (Xj _ b);have h2:=h a (Xo ..);rw[abP,XD,Xk,Yd,Nat.add_mul,Nat.one_mul];lia
def G6(c:l.length<=9)(h:∀a∈l,a.natAbs<1073741824/\lK Q6 a):HI l:=by
 refine#[.b,λk b=>?_,?_]
 .have:=h k b;have:=this.2.1;lia
 .have:=GN (n:=6) λa ha=>wq (h a ha).2;unfold yF;rw[Yd];lia
def Bw(b:l.length<=9)(h:∀a∈l,a∈bx 6):HI l:=G6 b λa ha=>#[by have:=eA (h a ha);lia,nh (h a ha)]
def Cn(h:∀a∈l,a∈bx 6)(d:q∈mN l):q∈P7:=by
 rcases(mM λx b=>aY (h x b)).mp d with z|⟨z,a,ha,c⟩
 .rw[z];decide
 .exact Xj _ (sV (h a ha) z c)
def GA(h:∀a∈l,a∈bx 6):(mN l).length<=50:=by
 have:(mN l).length<=P7.length:=kh ((hZ _).imp λh=>by lia) λx b=>Cn h b;have e:P7.length=7:=rfl;lia
def xW(h:a∈bx 6):a≠0/\Sm 62 a:=by
 have:=eA h;exact#[aY h,by unfold Sm;lia]
def TQ(q:Int):Prop:=q=1\/∃r:Nat,r∈xt/\q=(r:Int)
structure Lc(l:List Int):Prop where
 ex:∃a b c k q,l=[a,b,c,k*q]/\a∈bx 6/\b∈bx 6/\c∈bx 6/\k∈bx 6/\TQ q
 no:iU l=none
structure QP(l:List Int):Prop where
 ex:∃a b c d e,l=[a,b,c,d,e]/\a∈bx 6/\b∈bx 6/\c∈bx 6/\d∈bx 6/\e∈bx 6/\(a<0/\0<b\/0<a/\b<0)
def Ip(q:Int):Prop:=q=1\/(aO q=Á/\17<=q/\q<=24049)
def ko{k:Int}(a:k∈bx 6)(c:Ip q):k*q≠0/\(k*q).natAbs<1073741824:=by
 have l:=eA a
 have b:q≠0/\q.natAbs<=24049:=by
  rcases c with rfl|⟨_,h,h'⟩
  .decide
  .lia
 refine#[Xb (aY a) b.1,?_];rw[XN];have:=aax l b.2;lia
def wD{k:Int}(ha:a∈bx 6)(b:k∈bx 6)(c:Ip q):Fs (-a) (k*q):=by
 obtain⟨t,l⟩:=Fx (rB a ha).1 b c;have h1:=eA ha;have h2:=aY ha;obtain⟨d,e⟩:=ko b c;exact#[.b,d,by unfold Sm;lia,by unfold Sm;lia,t,l]
def Nk(ha:a∈bx 6)(c:b∈bx 6):Fs (-a) b:=by
 have:=wD (q:=1) ha c (.inl rfl);rwa[XC] at this
def Ap{k:Int}(ha:a∈bx 6)(c:b∈bx 6)(d:k∈bx 6)(e:Ip q):Bm [a,b,k*q]:=F_ (λx f=>by
  have h1:=eA ha;have h2:=aY ha;have g:=eA c;have h:=aY c;simp only[Xa,Xe,XA] at f;rcases f with rfl|rfl|rfl
  .lia
  .lia
  .exact ko d e) (Nk ha c) (wD ha d e)
def yn(h:TQ q):Ip q:=by
 rcases h with z|⟨r,a,rfl⟩
 .exact .inl z
 .obtain⟨h1,h2,b⟩:=e_ a;exact .inr #[h1,.b,.b]
theorem K5.at{one other ps:List Int}{t:Int}(h:K5 one other ps t)(h1:∀a∈one,a≠0)(h2:∀a∈other,a≠0)(f:t≠0){p:Int}(hp:p∈ps):bN (one++[-t]) p=Á/\bN (other++[t]) p=Á:=by
 obtain⟨k,q,_,_,_,_,d⟩:=h.na;obtain⟨j,c⟩:=Yu.mp hp;have b:=(Xl.mp c).1;have:=d j b;rw[tS _ b] at this;have e:ps.getD j 0=p:=by rw[Xh,c];rfl
 rw[e] at this;exact NI (h.ok.ok hp).1 h1 h2 f this
def p5.cons{ps:List Int}(h:p5 ps):∃L,ps=0::L/\oH L/\∀p∈Q6,p∈L:=by
 rcases h with rfl|⟨q,c,rfl⟩
 .exact#[Q6,rfl,Bz,λp hp=>hp]
 .obtain⟨d,b,_⟩:=e_ c;refine#[Q6++[(q:Int)],rfl,Lw Bz d λz=>?_,λp hp=>X0 _ hp];have a:∀p∈Q6,p<=13:=by decide
  have:=a _ z;lia
def J_{k:Int}(ha:a∈bx 6)(i:b∈bx 6)(g:c∈bx 6)(j:k∈bx 6)(n:TQ q):HI [a,b,c,k*q]/\(mN [a,b,c,k*q]).length<=50/\∃ps,p5 ps/\(∀p,p∈ps↔p∈P7\/p∈mN [a,b,c,k*q])/\(ps=P7/\q=1\/∃r:Nat,r∈xt/\q=(r:Int)/\ps=P7++[(r:Int)]):=by
 have A:=aY j;rcases n with rfl|⟨r,f,rfl⟩
 .rw[XC]
  have all:∀x∈[a,b,c,k],x∈bx 6:=λx d=>by
   simp only[Xa,Xe,XA] at d;rcases d with rfl|rfl|rfl|rfl<;>assumption
  exact#[Bw (by show 4<=9;decide) all,GA all,P7,.inl rfl,λp=>#[.inl,λz=>z.elim id (Cn all)],.inl #[rfl,rfl]]
 .obtain⟨l,o,u⟩:=e_ f;obtain⟨s,tl⟩:=ko j (yn (.inr #[r,f,rfl]))
  have nz:∀x∈[a,b,c,k*(r:Int)],x≠0:=λx d=>by
   simp only[Xa,Xe,XA] at d;rcases d with rfl|rfl|rfl|rfl
   .exact aY ha
   .exact aY i
   .exact aY g
   .exact s
  have mem:∀p,p∈mN [a,b,c,k*(r:Int)]->p∈P7\/p=(r:Int):=λp hp=>by
   have six:∀{x:Int},x∈bx 6->aO p=Á->p∣x->p∈P7:=λd pp e=>Xj _ (sV d pp e);rcases(mM nz).mp hp with z|⟨pp,x,d,e⟩
   .rw[z];exact .inl .a
   .simp only[Xa,Xe,XA] at d;rcases d with rfl|rfl|rfl|rfl
    .exact .inl (six ha pp e)
    .exact .inl (six i pp e)
    .exact .inl (six g pp e)
    .rcases euclid pp e with y|y
     .exact .inl (six j pp y)
     .exact .inr (bC pp l y)
  have v:(mN [a,b,c,k*(r:Int)]).length<=(P7++[(r:Int)]).length:=kh ((hZ _).imp λh=>by lia) λx d=>by
   rcases mem x d with z|z
   .exact X0 _ z
   .rw[z];simp
  have w:(P7++[(r:Int)]).length=8:=by rw[XD];rfl
  refine#[#[by show 4<=100;decide,λx d=>?_,?_],.b,P7++[(r:Int)],.inr #[r,f,rfl],λp=>#[λz=>?_,λz=>?_],.inr #[r,f,rfl,rfl]]
  .have h1:=eA ha;have h2:=eA i;have m:=eA g;have:=nz x d;simp only[Xa,Xe,XA] at d;rcases d with rfl|rfl|rfl|rfl<;>lia
  .have h1:=wq (nh ha);have h2:=wq (nh i);have m:=wq (nh g);have t:=vm (k:=((k*(r:Int)).natAbs:Int)) .b .b;unfold yF;simp only[abP,Υ,Yd,XD,Xk,acm];lia
  .rcases X2.mp z with y|y
   .exact .inl y
   .rw[Xv.mp y];exact .inr ((mM nz).mpr (.inr #[l,_,.c,ab9 k (r:Int)]))
  .rcases z with y|y
   .exact X0 _ y
   .rcases mem p y with x|x
    .exact X0 _ x
    .rw[x];simp
def xE(ha:a≠0)(d:b≠0):∀x∈[a,b],x≠0:=λx c=>by
 simp only[Xa,Xe,XA] at c;rcases c with rfl|rfl<;>assumption
def GU{k:Int}(ha:a∈bx 6)(l:b∈bx 6)(i:c∈bx 6)(F:k∈bx 6)(D:TQ q)(h:iU [a,b,c,k*q]=none):Od [a,b] [c,k*q]:=by
 obtain⟨po,pl,ps,n,K,y⟩:=J_ ha l i F D;obtain⟨v,tl⟩:=ko F (yn D);have H:=aY ha;have I:=aY l;have c0:=aY i
 have J:∀p,Pl p->bN [a,b,c,k*q] p=Á:=λp hp=>by
  rcases hp with rfl|hp
  .exact(mO h).1
  .exact(mO h).2 p hp
 have N:=n.len;refine#[by show 2<=8;decide,by show 2<=8;decide,λx d=>?_,λx d=>?_,po,pl,ps,n,K,λj α=>?_,λr g=>?_]
 .simp only[Xa,Xe,XA] at d;rcases d with rfl|rfl
  .exact xW ha
  .exact xW l
 .simp only[Xa,Xe,XA] at d;rcases d with rfl|rfl
  .exact xW i
  .exact#[v,by unfold Sm;lia]
 .have B:j<ps.length:=by lia
  rw[tS _ B];have f:=(n.ok (get_mem B).1).1;obtain⟨s,o,A,t⟩:=zV f H I c0 v (J _ f);have:=A9 (one:=[a,b]) (other:=[c,k*q]) o A t;intro z;rw[z] at this;cases this
 .have u:∀p∈Q6,p<=13:=by decide
  rcases y with⟨e,_⟩|⟨G,m,eq,e⟩
  .rw[e] at g;have:=congrArg ĳ g;rw[XD] at this;exact absurd (show 7=7+1 from this) .a
  .have C:(r:Int)=(G:Int):=by
    rw[g] at e;exact List.singleton_inj.mp (List.append_cancel_left e)
   obtain⟨E,L,_⟩:=e_ m;rw[C,g]
   have w:∀{x:Int},x∈bx 6->¬(G:Int)∣x:=λd z=>by
    have:=u _ (sV d E z);lia
   obtain⟨s,o,ns,A,t⟩:=Ja E .b (w ha) (w l) (w i) v;refine#[s,ns,?_];show _∈((P7++[(r:Int)]).map λp=>zI [a,b] [c,k*q] p).getD 7 [];rw[tS _ (by rw[XD];exact Zj 7)];show _∈zI [a,b] [c,k*q] (r:Int);rw[C];exact A9 (one:=[a,b]) (other:=[c,k*q]) o A t
def EM{k t:Int}(ha:a∈bx 6)(v:b∈bx 6)(u:c∈bx 6)(F:k∈bx 6)(B:TQ q)(h:K5 [a,b] [c,k*q] ps t):∃k' q',t=k'*q'/\k'∈bx 6/\Ip q'/\iU [a,b,-t]=none/\iU [c,k*q,t]=none:=by
 obtain⟨k',q',g,d,e,_,_⟩:=h.na;have G:t≠0:=by rw[g];exact(ko d e).1
 have T0:=(ko F (yn B)).1;have l:=aY ha;have o:=aY v;have c0:=aY u;obtain⟨L,w,j,y⟩:=h.ok.cons;have s:=λp hp=>h.at (xE l o) (xE c0 T0) G (p:=p) (by rwa[w]);have i:∀{x:Int},x∈bx 6->lK L x:=λf=>mQ y (nh f);have C:∀{x:Int},Ip x->x=1\/aO x=Á:=λf=>f.imp id (·.1)
 have D:lK L (k*q):=#[T0,λr n A=>by
  have E:∀x∈[a,b]++[c,k*q],x≠0:=λx f=>by
   rcases X2.mp f with z|z
   .exact xE l o x z
   .exact xE c0 T0 x z
  have:r∈ps:=(h.sm r).mpr (.inr ((mM E).mpr (.inr #[n,_,.c,A])));rw[w] at this;rcases Xa.mp this with z|z
  .have:=aq n;lia
  .exact z]
 have m:lK L t\/∃r,oH (L++[r])/\lK (L++[r]) t:=by rw[g];exact EL j y d (C e)
 refine#[k',q',g,d,e,xv ?_,xv ?_]
 .refine pJ j (i ha) (i v) (m.imp gL fun⟨r,h1,h2⟩=>#[r,h1,gL h2]) λp hp=>(s p hp).1
 .exact pJ j (i u) D m λp hp=>(s p hp).2
def LV{k k' q':Int}(d:c∈bx 6)(g:k∈bx 6)(f:Ip q)(a:k'∈bx 6)(b:Ip q'):Bm [c,k*q,k'*q']:=F_ (λx e=>by
  have h1:=eA d;have h2:=aY d;simp only[Xa,Xe,XA] at e;rcases e with rfl|rfl|rfl
  .lia
  .exact ko g f
  .exact ko a b) (wD d g f) (wD d a b)
def J2{t w s:Int}(e1:a*(x*x)+b*(y*y)+-t*(w*w)=0)(e2:c*(u*u)+d*(v*v)+t*(s*s)=0):0+a*((x*s)*(x*s))+b*((y*s)*(y*s))+c*((u*w)*(u*w))+d*((v*w)*(v*w))=0:=by
 have h1:0+a*((x*s)*(x*s))+b*((y*s)*(y*s))+c*((u*w)*(u*w))+d*((v*w)*(v*w))=(s*s)*(a*(x*x)+b*(y*y)+-t*(w*w))+(w*w)*(c*(u*u)+d*(v*v)+t*(s*s)):=by grind
 rw[h1,e1,e2,XZ,XZ];rfl
def vT{t:Int}(h:jf [x,y,t]=1):¬(x=0/\y=0/\t=0):=fun⟨h1,h2,a⟩=>by
 subst h1 h2 a;exact absurd h .a
abbrev WR(P w K mg base):=aH P w K mg base 9 "meeting" ["one","other"] (s_ K Od Á (λone other (t:Int)=>∃ps,K5 one other ps t))
def lZ(TF:⇑WR)(S2:⇑WQ)(Γ:⇑aH 128 "zero_of_free" ["numbers"] (eF K Bm Á Z3))(l:List Int)(hp:Lc l):
  Body P w K mg base bz "zero_by_meeting" bf f 128 [.val Â l] (ug Á (zu 4100 l)):=by
 intro cdv A outer o H E I;obtain⟨⟨a,b,c,k,q,rfl,ha,L,e,G,r⟩,O⟩:=hp;have T0:=(ko G (yn r)).1;have V:=GU ha L e G r O;have mf:=λps t=>EM (ps:=ps) (t:=t) ha L e G r;have Z:=λk' q'=>LV (k':=k') (q':=q') e G (yn r);generalize k*q=d at *;refine fR 1 aW.nd (jo TF (I.mono .a) rfl (cE (a':=[a,b]) (xJ .A af .a) rfl) (cE (a':=[c,d]) (rE .A af .a) rfl) V) λt α=>?_;obtain⟨ps,α⟩:=α;obtain⟨k',q',W,j,p,n1,σ⟩:=mf ps t α;subst W
 have p1:Bm [a,b,-(k'*q')]:=by
  have:=Ap ha L (rB k' j).1 p;rwa[Ţ] at this
 have p2:Bm [c,d,k'*q']:=Z k' q' j p;generalize k'*q'=t at *;refine fR 2 aW.nd (bV S2 (I.mono .a) rfl (cE (a':=[a,b,-t]) (fJ (cE (a':=[a,b]) (xJ .A af .a) rfl) (c8 (as:=[-t]) (b:=Á) (ay (du .B) bF) (by show 1<=1000;decide)) (by show 2+1<=1000;decide)) rfl) p1) λz hz=>?_;rcases hz with⟨hz,_⟩|⟨_,x,y,w,rfl,g1,e1,N,J,sw⟩
 .exact absurd n1 hz
 have e1:a*(x*x)+b*(y*y)+-t*(w*w)=0:=e1;refine aF (av ax (aT (a:=w) (c_ (a:=[x,y,w]) .C) af rfl) af) (λe=>?_) (λe=>?_)
 .have h:w=0:=Xq e;subst h;refine au (cE (a':=[x,y,0,0]) (fJ (xJ (c_ (a:=[x,y,0]) .C) af .a) (Hv (a:=(0:Int)) (c8 (as:=[0]) (b:=Á) (ay af bF) (by show 1<=1000;decide)) (eO (bj rfl B.len .A) af) (by show(0:Int)<=4-2;decide) (by show(4:Int)-2<=1000;decide)) (by show 2+2<=1000;decide)) rfl) #[[x,y,0,0],#[rfl,?_,?_,λv R=>?_],rfl]
  .by_cases m:x=0
   .exact#[y,.c,λD=>vT g1 #[m,D,rfl]]
   .exact#[x,.c,m]
  .show 0+a*(x*x)+b*(y*y)+c*(0*0)+d*(0*0)=0;simp only[XZ,aaP,abc] at e1 ⊢;exact e1
  .simp only[Xa,Xe,XA] at R;rcases R with rfl|rfl|rfl|rfl
   .exact N.le .a
   .exact J.le .a
   .exact sw.le .a
   .exact sw.le .a
 have h:w≠0:=XM e;refine fR 3 aW.nd (bV Γ (I.mono .a) rfl (cE (a':=[c,d,t]) (fJ (cE (a':=[c,d]) (rE .A af .a) rfl) (c8 (as:=[t]) (b:=Á) (ay .B bF) (by show 1<=1000;decide)) (by show 2+1<=1000;decide)) rfl) p2) λz hz=>?_;rcases hz with⟨hz,_⟩|⟨_,u,v,s,rfl,X,e2,T,S,F⟩
 .exact absurd σ hz
 have e2:c*(u*u)+d*(v*v)+t*(s*s)=0:=e2;refine au (cE (a':=[x*s,y*s,u*w,v*w]) (fJ (eE (b':=Á) (f:=λn:Int=>n*s) ["x"] [3] (bG (ag bf) bz rfl rfl .d) (bc (cE (a':=[x,y]) (xJ (c_ (a:=[x,y,w]) .C) af .a) rfl)) (a_ 0) (λC _ H fp=>cL 0 ["x","other"]) aX (λi n g C _ H fp=>aE .A (aT (a:=s) (c_ (a:=[u,v,s]) .B) (du af) rfl) ?_) (by show 2<=1000;decide)) (eE (b':=Á) (f:=λn:Int=>n*w) ["x"] [2] (bG (ag bf) bz rfl rfl .d) (bc (cE (a':=[u,v]) (KQ (c_ (a:=[u,v,s]) .D) (du af) .a) rfl)) (a_ 0) (λC _ H fp=>cL 0 ["x","one"]) aX (λi n g C _ H fp=>aE .A (aT (a:=w) (c_ (a:=[x,y,w]) .B) af rfl) ?_) (by show 2<=1000;decide)) (by show 2+2<=1000;decide)) rfl) #[[x*s,y*s,u*w,v*w],#[rfl,?_,J2 e1 e2,λn g=>?_],rfl]
 .have:=Xg g;simp only[Xa,Xe,XA] at this;rcases this with rfl|rfl
  .exact N.ok F
  .exact J.ok F
 .have:=Xg g;simp only[Xa,Xe,XA] at this;rcases this with rfl|rfl
  .exact T.ok sw
  .exact S.ok sw
 .by_cases h1:u*w=0
  .by_cases h2:v*w=0
   .have u0:=(Yo.mp h1).resolve_right h;have v0:=(Yo.mp h2).resolve_right h;have o:s≠0:=λo=>vT X #[u0,v0,o];by_cases m:x=0
    .by_cases D:y=0
     .exfalso;rw[m,D] at e1;have:t*(w*w)=0:=by rw[Ţ] at e1;omega
      have t0:=(Yo.mp this).resolve_right (Xb h h);exact cK p2.row (x:=t) .c |>.1 t0
     .exact#[y*s,.c,Xb D o]
    .exact#[x*s,.c,Xb m o]
   .exact#[v*w,.c,h2]
  .exact#[u*w,.c,h1]
 .simp only[Xa,Xe,XA] at g;rcases g with rfl|rfl|rfl|rfl
  .exact(N.mul F).le .a
  .exact(J.mul F).le .a
  .exact(T.mul sw).le .a
  .exact(S.mul sw).le .a
abbrev WS(P w K mg base):=aH P w K mg base 129 "zero_by_meeting" ["numbers"] (eF K Lc Á (zu 4100))
def qE(h:⇑WS)(l:List Int)(hp:Lc l):⇑Body eU "zero_of_free" dA f 129 [.val Â l] (ug Á (zu 4100 l)):=by
 intro e A outer j H E g;have i:l.length=4:=by obtain⟨a,b,c,k,q,rfl,_⟩:=hp.ex;rfl
 refine aF (av ax (bj rfl B.len .A) af) (λd=>?_) (λ_=>?_)
 .exfalso;have:=Xq d;lia
 refine aF (av ax (bj rfl B.len .A) af) (λd=>?_) (λ_=>?_)
 .exfalso;have:=Xq d;lia
 refine iT (Eg (av ax (bj rfl B.len .A) af) (λ_=>bV h (g.mono .a) rfl .A hp) λd=>?_) λz hz=>#[_,hz,rfl];exfalso;have:=XM d;lia
open Q (Fr)
def NP(u v:Int×Int):Prop:=u.2=1/\v.2=1/\v.1≠0/\Sm 7000 u.1/\Sm 40 v.1
def OB(h:1<=n):Sm n 1:=by unfold Sm;exact abv .b
def Jp(e:⇑Wn)(u v:Int×Int)(h:NP u v):⇑Body Gp "over" A0 f 2 [.val Â u,.val Â v] (RT Á (OT u v)):=by
 intro c A outer s H E i;obtain⟨h1,h2,d,j,b⟩:=h;have a:Sm 1 u.2:=by rw[h1];exact OB .a
 have g:Sm 1 v.2:=by rw[h2];exact OB .a
 exact au (aA e (i.mono .a) rfl (aE (br .A) (bO .B) (j.ok g)) (aE (bO .A) (br .B) (a.ok b)) #[Xb .b d,(a.mul b).le .a]) rfl
structure HW(us:List Fr):Prop where
 len:us.length<=10
 low:∀u∈us,Qx u
 s1:∀u∈us,Sm 7000 u.1
 s2:∀u∈us,Sm 40 u.2
def Cq{us:List Fr}(h:HW us)(i:Nat)(hi:i<=us.length):1<=gN (us.take i)/\Sm (1+40*i) (gN (us.take i)):=by
 induction i with
 |zero=>exact#[by show(1:Int)<=1;decide,by show(1:Int).natAbs<2^1;decide]
 |succ i c =>
  obtain⟨h1,h2⟩:=c .e;have b:us[i]?=À us[i]:=Xn .e;have a:=Xg b;have e:gN (us.take (i+1))=(gN (us.take i)*us[i].2).fdiv (Ê (gN (us.take i)) us[i].2:Nat):=pF b;have z:=y3 h1 (h.low _ a).1;rw[<-e] at z;refine#[z.1,?_];have s:=h2.mul (h.s2 _ a);have l:=z.2.2.2;have:Sm (1+40*i+40) (gN (us.take (i+1))):=Sm.of_le .e s;exact this.le .e
def yJ{us:List Fr}(h:HW us):1<=gN us/\Sm 401 (gN us):=by
 have z:=Cq h us.length (Xm _);rw[YB] at z;exact#[z.1,z.2.le (by have:=h.len;lia)]
def IB(c:1<=b)(h:Sm n b):((Ê a b:Nat):Int)≠0/\Sm n ((Ê a b:Nat):Int):=by
 have h1:Ê a b≠0:=λz=>by rw[abm] at z;lia
 refine#[.b,Sm.of_le ?_ h];have:(Ê a b)<=b.natAbs:=abz .b (Int.gcd_dvd_natAbs_right a b);lia
def yg(ha:1<=a)(c:1<=b)(h:Sm n a):Sm n (a.fdiv b):=by
 refine Sm.of_le ?_ h;rw[X9 a .b];have h1:0<=a/b:=aaF .b .b;have h2:a/b<=a:=υ b .b;lia
def pD(k:⇑Wi)(us:List Fr)(h:HW us):⇑Body jU "common_bottom" gq f 1 [.val Â us] (RT Á (gN us)):=by
 intro d A outer s H E e;refine ao 1 dN.nd af ?_;refine pO (λi U=>∃r,U=[À (.val Â us),À (.val Á (gN (us.take i))),r]) (cV 2 dN.nd) .A #[none,rfl] ?_ ?_
 .rintro i u U' b ⟨r,rfl⟩;have c:=Xg b;have hi:i<us.length:=(Xl.mp b).1;obtain⟨m,l⟩:=Cq h i .b;have j:Sm 401 (gN (us.take i)):=l.le (by have:=h.len;lia);have g:=IB (a:=gN (us.take i)) (h.low u c).1 (h.s2 u c);refine ao 1 dN.nd (a8 (aE .B (bO .C) (j.ok (h.s2 u c))) (aA k (e.mono .a) rfl .B (bO .C) É) (g.2.div g.1)) ?_;refine aK #[À (.val Â u),?_];unfold gN;rw[pF b];rfl
 .rintro U' ⟨r,rfl⟩;rw[YB];exact au .B rfl
def lW(c:⇑aH 2 "common_bottom" ["numbers"] (cH K HW Á gN))(us:List Fr)(h:HW us):⇑Body eZ "over_one_bottom" dj f 2 [.val Â us] (RT Á (Ho us)):=by
 intro b A outer s H E d;obtain⟨e,g⟩:=yJ h;refine ao 1 hE.nd (aD c (d.mono .a) rfl .A h) ?_;exact au (bS (eE (f:=λu:Fr=>u.1*(gN us).fdiv u.2) ["u"] [1] (bG (ag dj) eZ rfl rfl .d) (bc .A) (a_ 0) (λC s H fp=>cL 0 ["u","bottom"]) aX (λk u a C s H fp=>aE (br .A) (a8 .B (bO .A) ((h.s2 u (Xg a)).div (by have:=(h.low u (Xg a)).1;lia))) ((h.s1 u (Xg a)).ok (yg e (h.low u (Xg a)).1 g))) (by have:=h.len;lia)) .B) rfl
def Oz(us:List Fr):List Int:=wd (Ho us).1
def Qc(us:List Fr):Prop:=HW us/\IM (Ho us).1
def wt(b:⇑WH)(d:⇑aH 3 "over_one_bottom" ["numbers"] (cH K HW Á Ho))(us:List Fr)(h:Qc us):⇑Body ny "made_whole" jG f 3 [.val Â us] (RT Á (Oz us)):=by
 intro c A outer s H E a;exact au (aD b (a.mono .a) rfl (br (aD d (a.mono .a) rfl .A h.1)) h.2) rfl
def fF(a:Int):Int:=(uF (a,1)).1
def sF(a:Int):Int:=(uF (a,1)).2.1
def xQ(a:Int):Prop:=a.natAbs<1073741824/\lK Q6 a
def JF{g:Int}(h:j_ g)(e:lK Q6 g):g∈bx 6:=by
 have f:=h.1
 have b:j_ (g.natAbs:Int):=by
  rcases acG g with z|z
  .rwa[<-z]
  .have:(g.natAbs:Int)=-g:=by lia
   rw[this];exact rT h
 have a:∀p∈Q6,p∣(30030:Int):=by decide
 exact Cf (acD.mp (wo (n:=30030) _ (g.natAbs:Int) (Xm _) .b b λq d c=>a q (e.2 q d (Y1.mp c))))
def xQ.ok(h:xQ a):uF (a,1)=(fF a,(sF a,1))/\a=fF a*(sF a*sF a)/\fF a∈bx 6/\0<sF a/\Sm 30 (sF a)/\a≠0/\Tame a.natAbs:=by
 obtain⟨m,e,l⟩:=h;have i:Tame a.natAbs:=wJ .b .b;obtain⟨f,s,c,b,g,d⟩:=xF e i;have e1:fF a=f:=by unfold fF;rw[c]
 have e2:sF a=s:=by unfold sF;rw[c]
 rw[e1,e2];have u:=JF b #[b.1,λq k j=>l q k (by rw[d];exact XU j (Χ f _))];have:=B7 b.1 g d;refine#[c,d,u,g,?_,e,i];unfold Sm;lia
def JA(h:∀a∈l,xQ a):iU (l.map fF)=iU l:=by
 have nz:∀a∈l,a≠0:=λa ha=>(h a ha).ok.2.2.2.2.2.1
 have B:∀a∈l.map fF,a≠0:=λa ha=>by
  obtain⟨b,d,rfl⟩:=Xs.mp ha;exact aY (h b d).ok.2.2.1
 have pr:∀p,aO p=Á->bN (l.map fF) p=bN l p:=λp hp=>pe hp B nz (by
  rw[ϴ];refine abn λa ha=>?_;obtain⟨_,e,f,o,_⟩:=(h a ha).ok;show cls (fF a) p=_
  conv=>rhs;rw[e,<-XT]
  exact(kO hp (aY f) .e).symm)
 have sg:∀a∈l,(fF a<0↔a<0)/\(0<fF a↔0<a):=λa ha=>by
  obtain⟨_,e,f,o,_⟩:=(h a ha).ok;have n:=aY f;have ps:0<sF a*sF a:=X7 o o;generalize fF a=g at *;generalize sF a*sF a=q at *;rcases Yf n with z|z
  .have:=Yy z ps;omega
  .have:=X7 z ps;omega
 have i:bN (l.map fF) 0=bN l 0:=by
  rw[Yk,a7,a7];constructor
  .rintro⟨⟨x,v,m⟩,⟨y,A,k⟩⟩;obtain⟨a,ha,rfl⟩:=Xs.mp v;obtain⟨b,d,rfl⟩:=Xs.mp A;exact#[#[a,ha,(sg a ha).1.mp m],#[b,d,(sg b d).2.mp k]]
  .rintro⟨⟨a,ha,m⟩,⟨b,d,k⟩⟩;exact#[#[_,Xs.mpr #[a,ha,rfl],(sg a ha).1.mpr m],#[_,Xs.mpr #[b,d,rfl],(sg b d).2.mpr k]]
 refine(fQ ?_).symm;have ok:=xG l;cases q:iU l with
 |none =>
  rw[q] at ok;exact#[by rw[i];exact ok.1,λp hp=>by rw[pr p hp];exact ok.2 p hp]
 |some p =>
  rw[q] at ok;obtain⟨t,c⟩:=ok;rcases c with c|⟨c,w,u⟩
  .exact#[by rw[c,i,<-c];exact t,.inl c]
  .exact#[by rw[pr p c];exact t,.inr #[c,by rwa[i],λr s j=>by rw[pr r s];exact u r s j]]
theorem yt{l f s z zs:List Int}{G α:Int}:∀n:Nat,(∀i,i<n->l.getD i 0=f.getD i 0*(s.getD i 0*s.getD i 0)/\G*(zs.getD i 0*s.getD i 0)=α*z.getD i 0)->(G*G)*zQ l zs n=(α*α)*zQ f z n
 |0,_=>by show G*G*0=α*α*0;rw[XZ,XZ]
 |n+1,h=>by
  have g:=yt n λi hi=>h i .b;obtain⟨h1,h2⟩:=h n .b;show(G*G)*(zQ l zs n+l.getD n 0*(zs.getD n 0*zs.getD n 0))=(α*α)*(zQ f z n+f.getD n 0*(z.getD n 0*z.getD n 0));rw[Zg,Zg,g,h1];generalize f.getD n 0=a at *;generalize s.getD n 0=b at *;generalize zs.getD n 0=c at *;generalize z.getD n 0=d at *;have e:G*G*(a*(b*b)*(c*c))=a*((G*(c*b))*(G*(c*b))):=by grind
  rw[e,h2];congr 1;grind
def getD_at{M:Type}{l:List M}{a d:M}(h:l[i]?=À a):l.getD i d=a:=by rw[Xh,h];rfl
def vO(l z:List Int):List Fr:=(z.zip (l.map λk=>uF (k,1))).map λu=>OT (u.1,1) u.2.2
def Lm(b:∀a∈l,xQ a)(hz:z.length=l.length)(hi:i<l.length):∃a x,l[i]?=À a/\z[i]?=À x/\a∈l/\x∈z/\(vO l z)[i]?=À (fr x (sF a)):=by
 have h1:l[i]?=À l[i]:=Xn hi;have h2:z[i]?=À z[i]:=Xn .e;refine#[_,_,h1,h2,Xg h1,Xg h2,?_];unfold vO;rw[Xw,show(z.zip (l.map λk=>uF (k,1)))[i]?=À (z[i],uF (l[i],1)) from Yn.mpr #[h2,by rw[Xw,h1];rfl]];obtain⟨e,_⟩:=(b _ (Xg h1)).ok;show À (fr (z[i]*(uF (l[i],1)).2.2) (1*(uF (l[i],1)).2.1))=_;rw[e];show À (fr (z[i]*1) (1*sF l[i]))=_;rw[XC,Yb]
structure ZW(l zs:List Int):Prop where
 len:zs.length=l.length
 one:jf zs=1
 eq:zQ l zs l.length=0
 sm:∀x∈zs,Sm 7500 x
def Px(W:l.length<=9)(j:∀a∈l,xQ a)(hz:ZF (l.map fF) z):Qc (vO l z)/\ZW l (Oz (vO l z)):=by
 obtain⟨v,⟨σ,A,xn⟩,C,zs⟩:=hz;rw[Xk] at v C;have len:(vO l z).length=l.length:=by unfold vO;rw[Xk,ZR,Xk,v];lia
 have mem:∀u∈vO l z,∃a x,a∈l/\x∈z/\u=fr x (sF a):=λu n=>by
  obtain⟨i,hi⟩:=Yu.mp n;have g:=(Xl.mp hi).1;rw[len] at g;obtain⟨a,x,_,_,ha,d,e⟩:=Lm j v g;rw[e] at hi;exact#[a,x,ha,d,(Xy hi).symm]
 have b:HW (vO l z):=by
  refine#[.b,λu n=>?_,λu n=>?_,λu n=>?_]<;>obtain⟨a,x,ha,d,rfl⟩:=mem u n<;>obtain⟨_,_,_,S,H,_⟩:=(j a ha).ok
  .exact Kb .b
  .exact Sm.of_le (Kc .b) ((zs x d).le .a)
  .exact Sm.of_le (J7 .b) (H.le .a)
 obtain⟨m1,m2⟩:=yJ b
 have top:∀i,i<l.length->∃a x t,l[i]?=À a/\z[i]?=À x/\(Ho (vO l z)).1[i]?=À t/\a∈l/\t*sF a=gN (vO l z)*x/\Sm 7500 t:=λi hi=>by
  obtain⟨a,x,h1,h2,ha,d,p⟩:=Lm j v hi;obtain⟨_,_,_,S,H,_⟩:=(j a ha).ok;have r:=Xg p;refine#[a,x,_,h1,h2,by show((vO l z).map _)[i]?=_;rw[Xw,p];rfl,ha,?_,?_]
  .have cr:=Fg x (sF a);obtain⟨c,K⟩:=FL (λu h=>(b.low u h).1) r;have lw:=(b.low _ r).1;show(fr x (sF a)).1*(gN (vO l z)).fdiv (fr x (sF a)).2*sF a=_;rw[K,YQ _ .b];have:(fr x (sF a)).1*c*sF a=((fr x (sF a)).1*sF a)*c:=by grind
   rw[this,cr];grind
  .exact((b.s1 _ r).mul (yg m1 (b.low _ r).1 m2)).le .a
 have m:(Ho (vO l z)).1.length=l.length:=by show((vO l z).map _).length=_;rw[Xk,len]
 have R:Oz (vO l z)=wd (Ho (vO l z)).1:=rfl;unfold Qc;rw[R];generalize (Ho (vO l z)).1=T at *;generalize gN (vO l z)=α at *;obtain⟨Γ,o⟩:=Yu.mp A;have J:=(Xl.mp o).1;obtain⟨V,X,O,h1,h2,p,N,D,w⟩:=top Γ .b;rw[o] at h2;cases h2
 have tn:O≠0:=λq=>by
  rw[q,aaK] at D;exact Xb .b xn D.symm
 have E:=Xg p;have y:=wC E tn;refine#[#[b,.b,.b,(Aw E tn w).le .a],by unfold wd;rwa[Xk],HG y,?_,λx d=>?_]
 .have I:=yt (l:=l) (f:=l.map fF) (s:=l.map sF) (z:=z) (zs:=wd T) (G:=jf T) (α:=α) l.length λi hi=>by
   obtain⟨a,x,t,B,L,k,ha,e,_⟩:=top i hi;obtain⟨_,P,_⟩:=(j a ha).ok;rw[getD_at B,getD_at (l:=l.map fF) (a:=fF a) (by rw[Xw,B];rfl),getD_at (l:=l.map sF) (a:=sF a) (by rw[Xw,B];rfl),getD_at L,getD_at (l:=wd T) (a:=t.fdiv (jf T)) (by unfold wd;rw[Xw,k];rfl)];refine#[P,?_];rwa[<-XT,<-lh y (Xg k)]
  rw[C,XZ] at I;exact(Yo.mp I).resolve_left (Xb .b .b)
 .obtain⟨t,F,rfl⟩:=Xs.mp d;obtain⟨i,hi⟩:=Yu.mp F;have li:=(Xl.mp hi).1;obtain⟨_,_,t',_,_,k,_,_,st⟩:=top i .b;rw[hi] at k;cases k;exact Sm.of_le (vB y F) st
def Hg(ha:a∈bx 6)(n:b∈bx 6)(l:c∈bx 6)(k:d∈bx 6)(he:e∈bx 6)(h:a<0/\0<b\/0<a/\b<0):Od [a,b] [c,d,e]:=by
 have all:∀x∈[a,b]++[c,d,e],x∈bx 6:=λx f=>by
  simp only[aaB,aaE,Xa,Xe,XA] at f;rcases f with rfl|rfl|rfl|rfl|rfl<;>assumption
 refine#[by show 2<=8;decide,by show 3<=8;decide,λx f=>xW (all x (X0 _ f)),λx f=>xW (all x (XG _ f)),Bw (by show 5<=9;decide) all,GA all,P7,.inl rfl,λp=>#[.inl,λz=>z.elim id (Cn all)],λj i=>?_,λq z=>?_]
 .rw[tS _ i];have g:=(p5.ok (.inl rfl) (get_mem (ps:=P7) i).1).1;obtain⟨s,h,m,o⟩:=CS g (aY ha) (aY n) (aY l) (aY k) (aY he) h;have:=A9 (one:=[a,b]) (other:=[c,d,e]) h m o;intro z;rw[z] at this;cases this
 .have:=congrArg ĳ z;rw[XD] at this;exact absurd (show 7=7+1 from this) .a
def EH{t:Int}(ha:a∈bx 6)(A:b∈bx 6)(w:c∈bx 6)(n:d∈bx 6)(he:e∈bx 6)(h:K5 [a,b] [c,d,e] ps t):∃k q,t=k*q/\k∈bx 6/\Ip q/\iU [a,b,-t]=none/\Lc [c,d,e,t]:=by
 have all:∀x∈[a,b]++[c,d,e],x∈bx 6:=λx f=>by
  simp only[aaB,aaE,Xa,Xe,XA] at f;rcases f with rfl|rfl|rfl|rfl|rfl<;>assumption
 have s:ps=P7:=by
  rcases h.ok with z|⟨q,i,z⟩
  .exact z
  .exfalso;have g:(q:Int)∈ps:=by rw[z];simp
   have:=(e_ i).2.1;have j:∀p∈P7,p<=13:=by decide
   rcases(h.sm q).mp g with y|y
   .have:=j _ y;lia
   .have:=j _ (Cn all y);lia
 obtain⟨k,q,l,m,i,C,_⟩:=h.na;have B:t≠0:=by rw[l];exact(ko m i).1
 have D:=λx f=>aY (all x (X0 _ f));have v:=λx f=>aY (all x (XG _ f));have o:=λp hp=>h.at D v B (p:=p) (by rwa[s]);refine#[k,q,l,m,i,xv ?_,#[c,d,e,k,q,by rw[l],w,n,he,m,C s],xv λp hp=>?_]
 .have u:lK Q6 t\/∃r,oH (Q6++[r])/\lK (Q6++[r]) t:=by rw[l];exact EL Bz (λp hp=>hp) m (i.imp id (·.1))
  exact pJ Bz (nh ha) (nh A) (u.imp gL fun⟨r,h1,h2⟩=>#[r,h1,gL h2]) λp hp=>(o p hp).1
 .by_cases g:p∈P7
  .exact(o p g).2
  .rcases hp with rfl|pp
   .exact absurd .a g
   have p2:=aq pp;rw[gX .b]
   have:ue c d e p=Á:=by
    rw[<-dc .b];exact om pp (λz=>g (by rw[z];decide)) (Xm 3) λx f n=>g (Xj _ (sV (all x (XG _ f)) pp n))
   rw[this,abf]
def Eb{t w s:Int}(e1:a*(x*x)+b*(y*y)+-t*(w*w)=0)(e2:0+c*(u*u)+d*(v*v)+e*(r*r)+t*(s*s)=0):0+a*((x*s)*(x*s))+b*((y*s)*(y*s))+c*((u*w)*(u*w))+d*((v*w)*(v*w))+e*((r*w)*(r*w))=0:=by
 have h1:0+a*((x*s)*(x*s))+b*((y*s)*(y*s))+c*((u*w)*(u*w))+d*((v*w)*(v*w))+e*((r*w)*(r*w))=(s*s)*(a*(x*x)+b*(y*y)+-t*(w*w))+(w*w)*(0+c*(u*u)+d*(v*v)+e*(r*r)+t*(s*s)):=by grind
 rw[h1,e1,e2,XZ,XZ];rfl
def hW(TF:⇑WR)(S2:⇑WQ)(TB:⇑aH 130 "zero_of_free" ["numbers"] (eF K Lc Á (zu 4100)))(l:List Int)(hp:QP l):
  Body P w K mg base bz "zero_by_meeting" bf f 130 [.val Â l] (ug Á (ZF l)):=by
 intro cdv A outer R H E p;obtain⟨a,b,c,d,e,rfl,ha,D,h,S,he,hs⟩:=hp.ex;refine fR 1 aW.nd (jo TF (p.mono .a) rfl (cE (a':=[a,b]) (xJ .A af .a) rfl) (cE (a':=[c,d,e]) (rE .A af .a) rfl) (Hg ha D h S he hs)) λt F=>?_;obtain⟨ps,F⟩:=F;obtain⟨k',q',Γ,j,m,n1,p2⟩:=EH ha D h S he F;subst Γ;have t0:=(ko j m).1
 have p1:Bm [a,b,-(k'*q')]:=by
  have:=Ap ha D (rB k' j).1 m;rwa[Ţ] at this
 generalize k'*q'=t at *;refine fR 2 aW.nd (bV S2 (p.mono .a) rfl (cE (a':=[a,b,-t]) (fJ (cE (a':=[a,b]) (xJ .A af .a) rfl) (c8 (as:=[-t]) (b:=Á) (ay (du .B) bF) (by show 1<=1000;decide)) (by show 2+1<=1000;decide)) rfl) p1) λz hz=>?_;rcases hz with⟨hz,_⟩|⟨_,x,y,w,rfl,Z,e1,I,q,sw⟩
 .exact absurd n1 hz
 have e1:a*(x*x)+b*(y*y)+-t*(w*w)=0:=e1;refine aF (av ax (aT (a:=w) (c_ (a:=[x,y,w]) .C) af rfl) af) (λh=>?_) (λh=>?_)
 .have G:w=0:=Xq h;subst G;refine au (cE (a':=[x,y,0,0,0]) (fJ (xJ (c_ (a:=[x,y,0]) .C) af .a) (Hv (a:=(0:Int)) (c8 (as:=[0]) (b:=Á) (ay af bF) (by show 1<=1000;decide)) (eO (bj rfl B.len .A) af) (by show(0:Int)<=5-2;decide) (by show(5:Int)-2<=1000;decide)) (by show 2+3<=1000;decide)) rfl) #[[x,y,0,0,0],#[rfl,?_,?_,λv α=>?_],rfl]
  .by_cases O:x=0
   .exact#[y,.c,λV=>vT Z #[O,V,rfl]]
   .exact#[x,.c,O]
  .show 0+a*(x*x)+b*(y*y)+c*(0*0)+d*(0*0)+e*(0*0)=0;simp only[XZ,aaP,abc] at e1 ⊢;exact e1
  .simp only[Xa,Xe,XA] at α;rcases α with rfl|rfl|rfl|rfl|rfl
   .exact I.le .a
   .exact q.le .a
   all_goals exact sw.le .a
 have G:w≠0:=XM h;refine fR 3 aW.nd (bV TB p rfl (cE (a':=[c,d,e,t]) (fJ (cE (a':=[c,d,e]) (rE .A af .a) rfl) (c8 (as:=[t]) (b:=Á) (ay .B bF) (by show 1<=1000;decide)) (by show 3+1<=1000;decide)) rfl) p2) λz hz=>?_;obtain⟨X,⟨n,g,n0⟩,e2,sz⟩:=hz
 match z,X with
 |[u,v,r,s],_ =>
 have e2:0+c*(u*u)+d*(v*v)+e*(r*r)+t*(s*s)=0:=e2;have T:=sz u .c;have N:=sz v .c;have L:=sz r .c;have o:=sz s .c;refine au (cE (a':=[x*s,y*s,u*w,v*w,r*w]) (fJ (eE (b':=Á) (f:=λn:Int=>n*s) ["x"] [3] (bG (ag bf) bz rfl rfl .d) (bc (cE (a':=[x,y]) (xJ (c_ (a:=[x,y,w]) .C) af .a) rfl)) (a_ 0) (λC _ H fp=>cL 0 ["x","other"]) aX (λi n g C _ H fp=>aE .A (aT (a:=s) (ae (a:=[u,v,r,s]) 1) (du af) rfl) ?_) (by show 2<=1000;decide)) (eE (b':=Á) (f:=λn:Int=>n*w) ["x"] [2] (bG (ag bf) bz rfl rfl .d) (bc (cE (a':=[u,v,r]) (KQ (ae (a:=[u,v,r,s]) 3) (du af) .a) rfl)) (a_ 0) (λC _ H fp=>cL 0 ["x","one"]) aX (λi n g C _ H fp=>aE .A (aT (a:=w) (c_ (a:=[x,y,w]) .B) af rfl) ?_) (by show 3<=1000;decide)) (by show 2+3<=1000;decide)) rfl) #[[x*s,y*s,u*w,v*w,r*w],#[rfl,?_,Eb e1 e2,λn g=>?_],rfl]
 .have:=Xg g;simp only[Xa,Xe,XA] at this;rcases this with rfl|rfl
  .exact I.ok o
  .exact q.ok o
 .have:=Xg g;simp only[Xa,Xe,XA] at this;rcases this with rfl|rfl|rfl
  .exact T.ok sw
  .exact N.ok sw
  .exact L.ok sw
 .apply Xf;intro no;have J:∀k,k*w∈[x*s,y*s,u*w,v*w,r*w]->k=0:=λk hk=>Xf λz=>no #[_,hk,Xb z G];have u0:=J u .c;have v0:=J v .c;have σ:=J r .c;subst u0 v0 σ;have:t*(s*s)=0:=by simpa using e2
  have W:=(Yo.mp this).resolve_left t0;have R:s=0:=by rcases Yo.mp W with z|z<;>exact z
  subst R;simp only[Xa,Xe,XA] at g;lia
 .simp only[Xa,Xe,XA] at g;rcases g with rfl|rfl|rfl|rfl|rfl
  .exact(I.mul o).le .a
  .exact(q.mul o).le .a
  .exact(T.mul sw).le .a
  .exact(N.mul sw).le .a
  .exact(L.mul sw).le .a
structure QA(l:List Int):Prop where
 l5:5<=l.length
 l9:l.length<=9
 ab:∃x∈l,0<x
 be:∃x∈l,x<0
structure Q7(l ps:List Int):Prop where
 ex:∃i j x y z:Nat,ps=[(i:Int),j,x,y,z]/\i<l.length/\j<l.length/\x<l.length/\y<l.length/\z<l.length/\[i,j,x,y,z].Nodup/\0<l.getD i 0/\l.getD j 0<0
def x4{p:Int->Bool}(h:∃x∈l,p x=Á):∃i:Nat,i<l.length/\p (l.getD i 0)=Á/\xT (((D4 l).filter λu=>p u.2).map (·.1)) 0=À (i:Int):=by
 obtain⟨x,k,n⟩:=h;obtain⟨j,b⟩:=Yu.mp k;have m:=(Xl.mp b).1;have e:((j:Int),x)∈(D4 l).filter λu=>p u.2:=Ye.mpr #[Xg (i:=j) (by unfold D4;rw[Ś,b];rfl),n];cases c:(D4 l).filter λu=>p u.2 with
 |nil=>rw[c] at e;cases e
 |cons u us =>
  have f:u∈(D4 l).filter λu=>p u.2:=by rw[c];exact Xo ..
  obtain⟨h1,h2⟩:=Ye.mp f;obtain⟨i,hi⟩:=Yu.mp h1;obtain⟨a,g⟩:=Ca hi;refine#[i,(Xl.mp a).1,by rwa[Xh,a],?_];rw[XQ,g,my (d:=(0:Int)) .a (by rw[Yd];lia)];rfl
def uw(J:uB mg "ENOUGH" 5)(l:List Int)(hp:QA l):⇑Body dX "five_places" df f kk [.val Â l] (ug Á (Q7 l)):=by
 intro O A outer s H E W;obtain⟨l5,l9,S,be⟩:=hp;obtain⟨i,hi,pi,R⟩:=x4 (l:=l) (p:=λk=>decide (0<k)) (by obtain⟨x,h1,h2⟩:=S;exact#[x,h1,XI h2]);obtain⟨j,F,T,N⟩:=x4 (l:=l) (p:=λk=>decide (k<0)) (by obtain⟨x,h1,h2⟩:=be;exact#[x,h1,XI h2]);have e:0<l.getD i 0:=Xq pi;have g:l.getD j 0<0:=Xq T;have Γ:i≠j:=λz=>by rw[z] at e;lia
 refine iF (as:=D4 l) (f:=λu:Int×Int=>u.1) (p:=λu:Int×Int=>decide (0<u.2)) (b':=Á) 1 dE.nd ["i","k"] [] (bG (ag df) dX rfl rfl .d) (Cc rfl B.enumerate .A) (vH 0 1) (λC s H fp=>Ay 0 1 ["i","k"]) oI (λa u c C s H fp=>kL (av fD .B af)) (λa u c _ C s H fp=>gZ (b':=Á) .A) (by rw[wx];lia) ?_;refine iF (as:=D4 l) (f:=λu:Int×Int=>u.1) (p:=λu:Int×Int=>decide (u.2<0)) (b':=Á) 2 dE.nd ["i","k"] [] (bG (ag df) dX rfl rfl .d) (Cc rfl B.enumerate .A) (vH 0 1) (λC s H fp=>Ay 0 1 ["i","k"]) oI (λa u c C s H fp=>kL (av gi .B af)) (λa u c _ C s H fp=>gZ (b':=Á) .A) (by rw[wx];lia) ?_;refine ao 3 dE.nd (c8 (as:=[(i:Int),(j:Int)]) (b:=Á) (ay (aT .B af R) (ay (aT .C af N) bF)) (by show 2<=1000;decide)) ?_;refine iF (as:=kG 0 1 (l.length:Int).toNat) (f:=λu:Int=>u) (p:=λu:Int=>!decide (u∈[(i:Int),(j:Int)])) (b':=Á) 4 dE.nd ["i"] [3] (bG (ag df) dX rfl rfl .d) (zk rfl B.range (bj rfl B.len .A) .b .b) (a_ 0) (λC s H fp=>cL 0 ["i","ahead"]) aX (λa u c C s H fp=>kL (av Jm .A .B)) (λa u c _ C s H fp=>gZ (b':=Á) .A) (by unfold kG;rw[Xk,Zb];lia) ?_;rw[aca];generalize q:(kG 0 1 (l.length:Int).toNat).filter (λu:Int=>!decide (u∈[(i:Int),(j:Int)]))=L
 have v:∀u:Int,u∈kG 0 1 (l.length:Int).toNat↔∃m:Nat,m<l.length/\u=(m:Int):=λu=>by
  unfold kG;rw[Xs];constructor
  .rintro⟨m,t,rfl⟩;have:=Yh.mp t;exact#[m,.b,.b]
  .rintro⟨m,t,rfl⟩;exact#[m,Yh.mpr .b,.b]
 have d:∀u:Int,u∈L↔(∃m:Nat,m<l.length/\u=(m:Int))/\u≠i/\u≠j:=λu=>by
  rw[<-q,Ye,v];simp
 have n:L.Nodup:=by
  rw[<-q];refine List.Pairwise.filter _ ?_;unfold kG;exact Zx.mpr (aaa.imp λh=>by lia)
 have α:3<=L.length:=by
  have:(kG 0 1 (l.length:Int).toNat).length<=(L++[(i:Int),(j:Int)]).length:=kh (by unfold kG;exact Zx.mpr (aaa.imp λh=>by lia)) λu c=>by
   by_cases h1:u=i
   .rw[h1];simp
   .by_cases h2:u=j
    .rw[h2];simp
    .exact X0 _ ((d u).mpr #[(v u).mp c,h1,h2])
  unfold kG at this;rw[Xk,Zb,XD] at this;have e2:[(i:Int),(j:Int)].length=2:=rfl;lia
 match L,α,d,n with
 |x::y::z::L,_,d,n =>
 obtain⟨⟨o,G,rfl⟩,x1,X⟩:=(d x).mp .c;obtain⟨⟨D,I,rfl⟩,V,σ⟩:=(d y).mp .c;obtain⟨⟨r,hz,rfl⟩,z1,Z⟩:=(d z).mp .c;simp only[Ym,Xa,ab4] at n;refine au (cE (a':=[(i:Int),j,o,D,r]) (fJ .D (xJ (ae 4) (eO (uO rfl J) af) .a) ?_) rfl) #[_,#[i,j,o,D,r,rfl,hi,F,G,I,hz,?_,e,g],rfl]
 .show 2+(List.take 3 _).length<=1000;rw[Y8];lia
 .simp only[Ym,Xa,Xe,ab4,XA,not_false_eq_true,Z7,and_true];lia
structure RO(l:List Int):Prop where
 fv:QA l
 fn:∀a∈l,a∈bx 6
theorem Hf{l:List Int}{m:Nat}:∀n:Nat,zQ l (È m 0) n=0
 |0=>rfl
 |n+1=>by
  have:(È m (0:Int)).getD n 0=0:=by
   rw[Xh,aaS];split<;>rfl
  show zQ l (È m 0) n+_=0;rw[Hf n,this,XZ,XZ];rfl
theorem Em{l z:List Int}{k:Nat}{u:Int}(b:k<z.length)(a:z.getD k 0=0):∀n:Nat,zQ l (z.set k u) n=zQ l z n+if k<n then l.getD k 0*(u*u) else 0
 |0=>by rw[W_ .b];rfl
 |n+1=>by
  show zQ l (z.set k u) n+l.getD n 0*((z.set k u).getD n 0*(z.set k u).getD n 0)=zQ l z n+l.getD n 0*(z.getD n 0*z.getD n 0)+_;rw[Em b a n];by_cases e:k=n
  .subst e;have:(z.set k u).getD k 0=u:=by rw[Xh,ZI b];rfl
   rw[this,a,W_ .b,Xc .b];lia
  .have:(z.set k u).getD n 0=z.getD n 0:=by rw[Xh,Zp e,Xh]
   rw[this];by_cases h:k<n
   .rw[Xc h,Xc .b];lia
   .rw[W_ h,W_ .b];lia
structure QQ(l:List Int)(ix:List Nat)(zs z:List Int)(t:Nat):Prop where
 len:z.length=l.length
 rest:∀m,m∉ix.take t->z.getD m 0=0
 done:∀s,s<t->z.getD (ix.getD s 0) 0=zs.getD s 0
 sum:zQ l z l.length=zQ (ix.map λi=>l.getD i 0) zs t
def QQ.step{b:List Nat}{zs:List Int}{t:Nat}(h:QQ l b zs z t)(o:b.Nodup)(j:t<b.length)(n:∀i∈b,i<l.length):QQ l b zs (z.set (b.getD t 0) (zs.getD t 0)) (t+1):=by
 have d:b[t]?=À (b.getD t 0):=by rw[Xh,Xn j];rfl
 have im:b.getD t 0∈b:=Xg d;have g:=n _ im
 have k:b.getD t 0∉b.take t:=λz=>by
  obtain⟨s,c⟩:=Yu.mp z;rw[Ů] at c;split at c
  .have:=Τ (h₀:=(Xl.mp c).1) (h₁:=j) o |>.mp (by rw[(Xl.mp c).2,(Xl.mp d).2]);lia
  .cases c
 generalize b.getD t 0=i at *;refine#[by rw[Yr];exact h.len,λm f=>?_,λs c=>?_,?_]
 .rw[Y2,d] at f;have h1:m∉b.take t:=λz=>f (X0 _ z);have h2:i≠m:=λz=>f (by rw[z];simp);rw[Xh,Zp h2,<-Xh];exact h.rest m h1
 .by_cases e:s=t
  .subst e;rw[getD_at d,Xh,ZI (by rwa[h.len])];rfl
  .have es:b[s]?=À (b.getD s 0):=by rw[Xh,Xn .b];rfl
   have ne:i≠b.getD s 0:=λz=>k (by
    rw[z]
    exact Xg (i:=s) (by rwa[Ů,Xc .b]))
   rw[Xh,Zp ne,<-Xh];exact h.done s .b
 .rw[Em (by rwa[h.len]) (h.rest i k),Xc g,h.sum];show _=zQ (b.map λi=>l.getD i 0) zs t+(b.map λi=>l.getD i 0).getD t 0*(zs.getD t 0*zs.getD t 0);rw[getD_at (l:=b.map λi=>l.getD i 0) (a:=l.getD i 0) (by rw[Xw,d];rfl)]
abbrev WT(P w K mg base):=aH P w K mg base 131 "zero_by_meeting" ["numbers"] (eF K QP Á ZF)
def kx(V:⇑WT)(W:⇑aH 1 "five_places" ["numbers"] (eF K QA Á Q7))(l:List Int)(hp:RO l):⇑Body dv "zero_of_five_among" cg f 131 [.val Â l] (ug Á (ZF l)):=by
 intro σ A outer s H E α;have l5:=hp.fv.l5;have l9:=hp.fv.l9;refine fR 1 b8.nd (bV W (α.mono .a) rfl .A hp.fv) λps D=>?_;obtain⟨i,j,x,y,z,rfl,hi,N,J,O,hz,nd,pi,Z⟩:=D.ex;have p:∀{m:Nat},m<l.length->l.getD m 0∈bx 6:=λ{m} k=>hp.fn _ (Q.getD_mem (d:=0) k)
 have n:∀m∈[i,j,x,y,z],m<l.length:=λm k=>by
  simp only[Xa,Xe,XA] at k;rcases k with rfl|rfl|rfl|rfl|rfl<;>assumption
 refine pU 2 b8.nd (IC (a:=(0:Int)) (c8 (as:=[0]) (b:=Á) (ay af bF) (by show 1<=1000;decide)) (bj rfl B.len .A) .b .b) ?_;refine yB 2 Á rfl ?_;have at':∀(u:Int) (m:Nat),u=(m:Int)->m<l.length->xT l u=À (l.getD m 0):=λu m e k=>by rw[e,my (d:=0) .b .b,Õ]
 refine LM (M:=Int×Int) (post:=λus=>∃zs,ZF [l.getD i 0,l.getD j 0,l.getD x 0,l.getD y 0,l.getD z 0] zs/\us=[(i:Int),j,x,y,z].zip zs) (λus t U=>∃zs q F r,ZF [l.getD i 0,l.getD j 0,l.getD x 0,l.getD y 0,l.getD z 0] zs/\us=[(i:Int),j,x,y,z].zip zs/\U=[À (.val Â l),À (.val Á [(i:Int),j,x,y,z]),À (.own Á (q:List Int)),F,r]/\QQ l [i,j,x,y,z] zs q t/\∀v∈q,Sm 6200 v) (x5 3 4 b8.nd) (JE rfl B.zip .B (bV V α rfl (cE (a':=[l.getD i 0,l.getD j 0,l.getD x 0,l.getD y 0,l.getD z 0]) (eE (b':=Á) (f:=λu:Int=>l.getD u.toNat 0) ["i"] [0] (bG (ag cg) dv rfl rfl .d) (bc .B) (a_ 0) (λC _ H fp=>cL 0 ["i","numbers"]) aX (λt u I C _ H fp=>gZ (b':=Á) (aT .B .A ?_)) (by show 5<=1000;decide)) rfl) #[_,_,_,_,_,rfl,p hi,p N,p J,p O,p hz,.inr #[pi,Z]])) ?_ ?_ ?_
 .have k:=Xg I
  have:∃m:Nat,u=(m:Int)/\m<l.length:=by
   simp only[Xa,Xe,XA] at k;rcases k with rfl|rfl|rfl|rfl|rfl
   .exact#[i,rfl,hi]
   .exact#[j,rfl,N]
   .exact#[x,rfl,J]
   .exact#[y,rfl,O]
   .exact#[z,rfl,hz]
  obtain⟨m,rfl,S⟩:=this;exact at' _ m rfl S
 .rintro us ⟨zs,hz,rfl⟩;refine#[zs,_,none,none,hz,rfl,rfl,#[by rw[aa6];lia,λm _=>?_,λs G=>by lia,?_],λv o=>?_]
  .rw[Xh,aaS];split<;>rfl
  .exact Hf _
  .rw[(List.mem_replicate.mp o).2];unfold Sm;exact aaj _
 .rintro us _ t u U' I ⟨zs,q,F,r,hz,rfl,rfl,g,sm⟩;have L:zs.length=5:=hz.len;have c:=(Yn (z:=u)).mp I;have R:t<5:=(Xl.mp c.1).1
  have T:u.1=(([i,j,x,y,z].getD t 0:Nat):Int):=by
   have h1:=c.1;have:t=0\/t=1\/t=2\/t=3\/t=4:=by lia
   rcases this with rfl|rfl|rfl|rfl|rfl<;>exact(Xy h1).symm
  have ev:u.2=zs.getD t 0:=(getD_at c.2).symm
  have il:[i,j,x,y,z].getD t 0<l.length:=n _ (by
   rw[Xh,Xn (show t<[i,j,x,y,z].length from R)]
   exact YY _)
  have al:=g.len;refine A4 2 (a:=u.2) rfl (ae (a:=u.1) 3) (ae 4) .b .b ?_;refine aK #[zs,_,_,_,hz,rfl,rfl,?_,λv o=>?_]
  .rw[T,ev,Õ];exact g.step nd R n
  .rcases abW o with h|h
   .exact sm v h
   .rw[h];exact hz.sm _ (Xg c.2)
 .rintro us _ U' ⟨zs,q,F,r,hz,rfl,rfl,g,sm⟩;have L:zs.length=5:=hz.len;have Γ:([(i:Int),j,x,y,z].zip zs).length=5:=by rw[ZR,L];rfl
  rw[Γ] at g;refine dt 2 rfl ?_;refine au .C #[_,#[g.len,?_,?_,sm],rfl]
  .obtain⟨v,o,X⟩:=hz.nz;obtain⟨s,G⟩:=Yu.mp o;have s5:=(Xl.mp G).1;have:=g.done s .b;rw[getD_at G] at this;refine#[v,?_,X];rw[<-this];refine Q.getD_mem (d:=0) ?_;rw[g.len]
   exact n _ (by
    rw[Xh,Xn (show s<[i,j,x,y,z].length by show s<5;lia)]
    exact YY _)
  .rw[g.sum];exact hz.eq
open Q (Fr)
def Rf(l:List Int):Prop:=∃a b r,l=[a,b]/\bW l=Á/\tq (-a*b)=À r
def zu.up{m:Nat}(h:zu n l z)(b:n<=m):zu m l z:=#[h.len,h.nz,h.eq,λx a=>(h.sm x a).le b]
def Mu(ha:a≠0)(i:Sm 62 a)(l:Sm 62 r)(k:r*r=-a*b):IM [r,a]/\zu 62 [a,b] (wd [r,a]):=by
 have d:a∈[r,a]:=by simp
 have h:r∈[r,a]:=by simp
 have c:=wC d ha;have j:=lh c h;have f:=lh c d;have m:=vB c h;have o:=vB c d;refine#[#[by show 2<=100;decide,.b,(Aw d ha i).le .a],?_];have p:wd [r,a]=[r.fdiv (jf [r,a]),a.fdiv (jf [r,a])]:=rfl;rw[p];generalize r.fdiv (jf [r,a])=x at *;generalize a.fdiv (jf [r,a])=y at *;generalize jf [r,a]=g at *;refine#[rfl,#[y,.c,λz=>ha (by rw[f,z,XZ])],?_,λv e=>?_]
 .show 0+a*(x*x)+b*(y*y)=0;have:g*g*(0+a*(x*x)+b*(y*y))=a*((g*x)*(g*x))+b*((g*y)*(g*y)):=by grind
  rw[<-j,<-f,k] at this;have n:a*(-a*b)+b*(a*a)=0:=by grind
  rw[n] at this;exact(Yo.mp this).resolve_left (Xb .b .b)
 .simp only[Xa,Xe,XA] at e;rcases e with rfl|rfl
  .exact Sm.of_le m l
  .exact Sm.of_le o i
def uq(o:⇑Wm)(t:⇑WE)(k:⇑WH)
  (l:List Int) (hp:Rf l):⇑Body lM "zero_of_two" iO f 4 [.val Â l] (ug Á (zu 62 l)):=by
 intro m A outer s H E d;obtain⟨a,b,r,rfl,g,c⟩:=hp;have ha:=cK g (x:=a) .c;have v:=cK g (x:=b) .c;have e:Sm 30 a:=by unfold Sm;lia
 have j:Sm 30 b:=by unfold Sm;lia
 have i:Sm 62 (-a*b):=(e.neg.mul j).le .a;have p:=EK c
 have q:Sm 62 r:=by
  unfold tq at c;split at c
  .cases c
  .split at c
   .cases c;exact LA .b i
   .cases c
 obtain⟨u,n⟩:=Mu ha.1 (e.le .a) q p;refine sA (aD t (d.mono .a) rfl .A g) ?_;refine ao 1 kI.nd (cE (aD o (d.mono .a) rfl (aE (du (aT (a:=a) .A af rfl)) (aT (a:=b) .A af rfl) (e.neg.ok j)) (i.le .a)) c) ?_;exact iT (Eg (uU (M:=Int) (x:=À r) .B lH) (λh=>absurd h Xx) λ_=>P1 (aD k (d.mono .a) rfl (c8 (ay (c_ (M:=Int) (a:=r) .B) (ay (gZ (aT (a:=a) .A af rfl)) bF)) (X6 rfl)) u) n) λz hz=>#[_,hz,rfl]
structure PA(l:List Int):Prop where
 fn:∀a∈l,a∈bx 6
 len:l.length<=9
 no:iU l=none
def PA.two(h:PA l):2<=l.length:=by
 have hz:=(mO h.no).1;rw[a7] at hz;obtain⟨⟨x,b,e⟩,⟨y,c,d⟩⟩:=hz
 match l,b,c with
 |[a],b,c =>
  rw[Xv.mp b] at e;rw[Xv.mp c] at d;lia
 |_::_::l,_,_=>exact acp 2 l.length
def Fm(h1:1<=l.length)(c:l.length<=8)(h:∀a∈l,a≠0/\a.natAbs<1073741824):bW l=Á:=by
 unfold bW;rw[XI .b,aaC];exact XX.mpr λx b=>XI (h x b)
def qL(V:⇑aH 5 "zero_of_two" ["row"] (eF K Rf Á (zu 62)))(X:⇑WQ)(S:⇑WS)(L:⇑aH 132 "zero_of_five_among" ["numbers"] (eF K RO Á ZF))(l:List Int)(hp:PA l):⇑Body eU "zero_of_free" dA f 139 [.val Â l] (ug Á (ZF l)):=by
 intro Γ A outer s0 H E j;have h2:=hp.two;have i:=hp.no;have hz:=(mO i).1;refine aF (av ax (bj rfl B.len .A) af) (λg=>?_) (λn=>?_)
 .have e:(l.length:Int)=2:=Xq g;obtain⟨a,b,rfl⟩:=ln2 (us:=l) .b;have ha:=hp.fn a .c;have I:=hp.fn b .c;have W:=aY ha;have b1:=aY I;have fin:=sP (s:=1) (t:=1) ha I .a .a (by rw[XC,XC]) (by rw[XC,XC]) hz
  have O:∃r,r*r=-a*b:=by
   rcases AL W b1 hz fin with⟨_,h⟩|⟨p,h,_,_,_⟩
   .exact h
   .rw[<-fQ h] at i;cases i
  have u:∃r,tq (-a*b)=À r:=by
   cases h:tq (-a*b) with
   |none=>exact absurd O (yi h)
   |some r=>exact#[r,rfl]
  obtain⟨r,u⟩:=u;exact iT (Lx (post:=zu 62 [a,b]) (bV V (j.mono .a) rfl .A #[a,b,r,rfl,Fm (l:=[a,b]) (by show 1<=2;decide) (by show 2<=8;decide) λx G=>#[aY (hp.fn x G),by have:=eA (hp.fn x G);lia],u]) λz h=>h.up .a) λz hz=>#[_,hz,rfl]
 have Z:¬(l.length:Int)=2:=XM n;refine aF (av ax (bj rfl B.len .A) af) (λg=>?_) (λk=>?_)
 .have e:(l.length:Int)=3:=Xq g;obtain⟨a,b,c,rfl⟩:=Su (us:=l) .b;have C:=Ap (q:=1) (hp.fn a .c) (hp.fn b .c) (hp.fn c .c) (.inl rfl);rw[XC] at C;refine iT (Nr (post':=ZF [a,b,c]) (bV X (j.mono .a) rfl .A C) λo h=>?_) λz hz=>#[_,hz,rfl];rcases h with⟨h,_⟩|⟨_,x,y,t,rfl,N,e,T,α,R⟩
  .exact absurd i h
  .refine#[_,rfl,rfl,?_,?_,λv D=>?_]
   .have:=vT N;by_cases J:x=0
    .by_cases F:y=0
     .exact#[t,.c,λz=>this #[J,F,z]]
     .exact#[y,.c,F]
    .exact#[x,.c,J]
   .show 0+a*(x*x)+b*(y*y)+c*(t*t)=0;rwa[abc]
   .simp only[Xa,Xe,XA] at D;rcases D with rfl|rfl|rfl
    .exact T.le .a
    .exact α.le .a
    .exact R.le .a
 have n3:¬(l.length:Int)=3:=XM k;refine iT (post:=ZF l) (Eg (av ax (bj rfl B.len .A) af) (λg=>?_) λm=>?_) λz hz=>#[_,hz,rfl]
 .have e:(l.length:Int)=4:=Xq g;obtain⟨a,b,c,d,rfl⟩:=Si (us:=l) .b;exact Lx (post:=zu 4100 [a,b,c,d]) (bV S (j.mono .a) rfl .A #[#[a,b,c,d,1,by rw[XC],hp.fn a .c,hp.fn b .c,hp.fn c .c,hp.fn d .c,.inl rfl],i]) λz h=>h.up .a
 .have σ:¬(l.length:Int)=4:=XM m;rw[a7] at hz;exact bV L (j.mono .a) rfl .A #[#[.b,hp.len,hz.2,hz.1],hp.fn]
def lf:List Int->Int->Int
 |[],x=>x
 |p::ps,x=>lf ps (aV x p).2
theorem CG(p:Int):∀(ps:List Int) (x:Int),lf (ps++[p]) x=(aV (lf ps x) p).2
 |[],x=>rfl
 |q::ps,x=>CG p ps _
def CA(h:ps[i]?=À p):lf (ps.take (i+1)) x=(aV (lf (ps.take i) x) p).2:=by
 rw[Y2,h];exact CG p _ x
def Jh{k:Int}(a:2<=d)(e:0<k):0<(aV k d).2/\(aV k d).2<=k:=by
 obtain⟨h1,h2,b⟩:=e9 a (show k≠0 by lia);have hp:(0:Int)<d^(aV k d).1.toNat:=Yj .b;generalize (aV k d).2=l at *;generalize d^(aV k d).1.toNat=t at *
 have f:0<l:=by
  apply Xf;intro c;have:l*t<=0:=Zc .b .b;lia
 have:l*1<=l*t:=Xp .b .b;lia
theorem pM:∀(ps:List Int) (x:Int),(∀p,p∈ps->2<=p)->0<x->0<lf ps x/\lf ps x<=x
 |[],x,_,h=>#[h,Yi x]
 |p::ps,x,hp,h=>by
  have a:=Jh (hp p (Xo ..)) h;have b:=pM ps (aV x p).2 (λq c=>hp q (Xj _ c)) a.1;exact#[b.1,ab2 b.2 a.2]
def SP:List Int:=[2,3,5,7,11,13]
def nB(k:Int):Bool:=z_ k&&decide (rt (lf SP k.natAbs)*rt (lf SP k.natAbs)=lf SP k.natAbs)
def yP:∀p,p∈SP->2<=p:=.a
def Et:∀p,p∈SP->2<=p/\p<100:=.a
def Ld{k:Int}(h:z_ k=Á)(i:Nat):0<lf (SP.take i) k.natAbs/\lf (SP.take i) k.natAbs<1073741824:=by
 unfold z_ at h;have h':k≠0/\k.natAbs<1073741824:=by simpa using h
 have:=pM (SP.take i) (k.natAbs:Int) (λp hp=>yP p (Ř hp)) .b;lia
def Ac(o:xP K mg "SMALL_PLACES" [0,2,3,5,7,11,13])(l:⇑Ww)(n:⇑Wk)
  (g:⇑Wm) (x:Int):⇑Body sN "is_small" lX f 2 [.val Â x] (RT Á (nB x)):=by
 intro d A outer s H E b;have k:∀i:Int,(if i<0 then -i else i)=(i.natAbs:Int):=λi=>by split<;>omega
 refine aF (j0 (eT (aD l (b.mono .a) rfl .A É))) (λc=>?_) (λc=>?_)
 .have e:nB x=Â:=by
   unfold nB;rw[show z_ x=Â by simpa using c];rfl
  rw[e];exact au j4 rfl
 have hi:z_ x=Á:=by simpa using c
 refine ao 1 iG.nd (iH rfl B.abs .A) ?_;rw[k];refine qh (as:=SP) (λi U=>∃r,U=[À (.val Â x),À (.val Á (lf (SP.take i) x.natAbs)),r]) (cV 2 iG.nd) (FX (B6 (u9 rfl o) af .a .a)) #[none,rfl] ?_ ?_
 .rintro i a U' ha ⟨r,rfl⟩;have hz:=Ld hi i;have hp:=Et a (Xg ha);refine ao 1 iG.nd (bO (aA n (b.mono .a) rfl .B .C #[.e,hp.1,Sm.le (m:=62) (by unfold Sm;omega) .a])) ?_;refine aK ?_;dsimp only;rw[CA ha];exact#[_,rfl]
 .rintro U' ⟨r,rfl⟩;have hz:=Ld hi 6;refine au (QS (aD g (b.mono .a) rfl .B (Sm.le (m:=62) (by unfold Sm;show(lf (SP.take 6) x.natAbs).natAbs<_;omega) .a)) λ_ _ _ _ h=>nomatch h) ?_;show Bd.val _ _=Bd.val _ _;congr 1;unfold nB;rw[hi,aaC];show(!(tq (lf SP x.natAbs)).isNone)=_;have j:0<lf SP x.natAbs:=hz.1;unfold tq;rw[W_ .e];split
  .rename_i h;rw[XI h];rfl
  .rename_i h;rw[XH h];rfl
open Q (Fr)
def Gq(hp:2<=p)(ha:a≠0):(aV a p).2≠0:=λz=>by
 obtain⟨_,_,b⟩:=e9 hp ha;exact b (by rw[z];exact aaO _)
theorem wX:∀(ps:List Int) {a b:Int},(∀p∈ps,aO p=Á)->a≠0->b≠0->lf ps (a*b)=lf ps a*lf ps b
 |[],a,b,_,_,_=>rfl
 |p::ps,a,b,h,ha,c=>by
  have hp:=h p (Xo ..);have p2:=aq hp;show lf ps (aV (a*b) p).2=lf ps (aV a p).2*lf ps (aV b p).2;rw[CD hp ha c];exact wX ps (λq d=>h q (Xj _ d)) (Gq p2 ha) (Gq p2 c)
def wZ:∀p∈SP,aO p=Á:=fI
def Ou:lf SP 30030=1:=by
 have b:∀(a p:Int),2<=p->¬p∣a->(aV (a*p) p).2=a:=λa p hp c=>by
  have:=jB (v:=1) hp c;rw[XE,X1,Yb] at this;rw[this]
 show(aV (aV (aV (aV (aV (aV 30030 2).2 3).2 5).2 7).2 11).2 13).2=1;rw[show(30030:Int)=15015*2 from rfl,b 15015 2 .a .a,show(15015:Int)=5005*3 from rfl,b 5005 3 .a .a,show(5005:Int)=1001*5 from rfl,b 1001 5 .a .a,show(1001:Int)=143*7 from rfl,b 143 7 .a .a,show(143:Int)=13*11 from rfl,b 13 11 .a .a];exact b 1 13 .a .a
def NQ{g:Int}(h:g∈bx 6):lf SP g.natAbs=1:=by
 have n:=aY h;obtain⟨c,d⟩:(g.natAbs:Int)∣30030:=acD.mpr (iB h)
 have c0:0<c:=by
  apply Xf;intro z;have:=X5 (a:=(g.natAbs:Int)) (b:=c) .b .b;lia
 have e:=Ou;rw[d,wX SP wZ .b .b] at e;have f:=(pM SP (g.natAbs:Int) yP .b).1;have p2:=(pM SP c yP c0).1;exact Int.eq_one_of_mul_eq_one_right .b e
def xQ.small(h:xQ a):nB a=Á:=by
 obtain⟨_,e,c,b,_,d,_⟩:=h.ok;have g:=h.1;unfold nB z_;rw[XI #[d,g],aaC];have n:=aY c
 have i:(a.natAbs:Int)=((fF a).natAbs:Int)*(sF a*sF a):=by
  conv=>lhs;rw[e,XN,YA]
  congr 1;have:=X7 b b;lia
 have f:lf SP a.natAbs=lf SP (sF a)*lf SP (sF a):=by
  rw[i,wX SP wZ .b (Xb .b .b),NQ c,Yb,wX SP wZ .b .b]
 rw[f];have p:=(pM SP (sF a) yP b).1;generalize lf SP (sF a)=r at *;have:r=rt (r*r):=jb .b (Yi _) (by grind);rw[<-this];exact XI rfl
structure Lv(PF:List Int->Prop)(l:List Int):Prop where
 fb:Ic l
 len:l.length<=9
 sm:∀a∈l,xQ a
 pf:iU l=none->PF (l.map fF)
def ZO(l:List Int)(z:Option (List Int)):Prop:=(iU l≠none/\z=none)\/(iU l=none/\∃zs,z=À zs/\ZW l zs)
def qH{PF:List Int->Prop}(To:⇑WG)(q:⇑aH 9 "first_barring" ["numbers"] (cH K Ic Á iU))(v:⇑aH 140 "zero_of_free" ["numbers"] (eF K PF Á ZF))(α:⇑aH 3 "over" ["u","v"] (cM K NP Á OT))(y:⇑aH 4 "made_whole" ["x"] (cH K Qc Á Oz))(l:List Int)(hp:Lv PF l):
  Body P w K mg base cZ "zero_of_small" cb f 140 [.val Â l] (ug Á (ZO l)):=by
 intro J A outer N H E b;obtain⟨n,t,d,pf⟩:=hp;cases c:iU l with
 |some p =>
  refine aF (qP (x:=À p) (M:=Int) (cE (aD q (b.mono .a) rfl .A n) c) λ_ _ _ _ h=>nomatch h) (λ_=>?_) (λj=>nomatch j);exact au (kC (M:=List Int)) #[_,.inl #[(by rw[c];exact λz=>nomatch z),rfl],rfl]
 |none =>
  refine aF (qP (x:=none) (M:=Int) (cE (aD q (b.mono .a) rfl .A n) c) λ_ _ _ _ h=>nomatch h) (λj=>nomatch j) (λ_=>?_);refine ua 1 fL.nd (b':=Á) (f:=λk:Int=>uF (k,1)) ["k"] [] (bG (ag cb) cZ rfl rfl .d) (bc .A) (a_ 0) (λC _ H fp=>cL 0 ["k"]) aX (λi a ha C _ H fp=>aD To (b.mono .a) rfl (bS .A af) ?_) .b ?_
  .have g:=Xg ha;obtain⟨_,_,_,_,_,r,F⟩:=(d a g).ok;exact Ax r (by have:=(d a g).1;exact Sm.le (m:=30) (by unfold Sm;lia) .a) F
  refine fR 2 fL.nd (bV v (b.mono .a) rfl (cE (a':=l.map fF) (eE (b':=Á) (f:=λu:Int×(Int×Int)=>u.1) ["one"] [] (bG (ag cb) cZ rfl rfl .d) (bc .B) (a_ 0) (λC _ H fp=>cL 0 ["one"]) aX (λi u o C _ H fp=>br .A) (by rw[Xk];lia)) (by rw[ϴ];rfl)) (pf c)) λz hz=>?_;have G:=hz.len;rw[Xk] at G;obtain⟨s,O⟩:=Px t d hz;refine au (jA (aD y (b.mono .a) rfl (cE (a':=vO l z) (eE (b':=Á) (f:=λu:Int×(Int×(Int×Int))=>OT (u.1,1) u.2.2) ["x","one"] [] (bG (ag cb) cZ rfl rfl .d) (xM rfl B.zip .C .B) (vH 0 1) (λC _ H fp=>Ay 0 1 ["x","one"]) oI (λi u o C _ H fp=>aA α (b.mono .a) rfl (bS .A af) (bO .B) ?_) (by rw[ZR,Xk];lia)) rfl) s)) #[_,.inr #[c,_,rfl,O],rfl];have g:=Xg o;obtain⟨m1,m2⟩:=C1 g;obtain⟨a,ha,L⟩:=Xs.mp m2;obtain⟨e,_,_,N,I,_⟩:=(d a ha).ok;have D:u.2=(fF a,(sF a,1)):=by rw[<-L,e]
  rw[D];exact#[rfl,rfl,by show sF a≠0;lia,(hz.sm _ m1).le .a,I.le .a]
def sS(c:⇑aH 3 "is_small" ["k"] (cH K (fun(_:Int)=>True) Á nB))(r:List Int)(e:r.length<=1000)(ha:r.all nB=Á):⇑Body hX "refuse_great" fc f 3 [.val Â r] QD:=by
 intro b A outer s H E d;refine aF (j0 (eT (La rfl rfl B.all (eE (f:=nB) ["k"] [] (bG (ag fc) hX rfl rfl .d) (bc .A) (a_ 0) (λC s H fp=>cL 0 ["k"]) aX (λi u g C s H fp=>aD c (d.mono .a) rfl .A É) e)))) (λa=>?_) (λ_=>aK É);rw[ϯ,show r.all (id∘nB)=r.all nB from rfl,ha] at a;cases a
abbrev WU(P w K mg base):=aH P w K mg base 4 "refuse_great" ["numbers"] (cH K (fun(ns:List Int)=>ns.length<=1000/\ns.all nB=Á) Á qt)
def Dk{PF:List Int->Prop}(c:⇑WE)(d:⇑WU)(h:⇑aH 141 "zero_of_small" ["numbers"] (eF K (Lv PF) Á ZO))(l:List Int)(g:bW l=Á)(hp:Lv PF l):⇑Body uV "zero_of" pS f 141 [.val Â l] (ug Á (ZO l)):=by
 intro e A outer i H E b;refine sA (aD c (b.mono .a) rfl .A g) ?_;refine sA (aD d (b.mono .a) rfl .A #[by have:=hp.len;lia,XX.mpr λa ha=>(hp.sm a ha).small]) ?_;exact iT (bV h (b.mono .a) rfl .A hp) λz hz=>#[_,hz,rfl]
def Cv(h1:1<=l.length)(h:l.length<=8)(c:∀a∈l,xQ a):bW l=Á/\Lv PA l:=by
 have row:bW l=Á:=Fm h1 h λx f=>#[(c x f).ok.2.2.2.2.2.1,(c x f).1];refine#[row,#[row,G6 .b c,λa b e hz=>?_],.b,c,λd=>?_]
 .subst e;obtain⟨_,j,g,o,_⟩:=(c a .c).ok;obtain⟨_,k,i,n,_⟩:=(c b .c).ok;exact sP g i .b .b j k hz
 .rw[<-JA c] at d;refine#[λa ha=>?_,by rw[Xk];lia,d];obtain⟨b,m,rfl⟩:=Xs.mp ha;exact(c b m).ok.2.2.1
noncomputable def p6(xs:List Int)(k:Int):Int:=if k<(xs.length:Int) then xs.getD k.toNat 0 else 0
def uA(xs:List Int)(k:Int)(g:0<=k):⇑Body lS "_law_cell_at" iQ f kk [.val Â xs,.val Â k] (RT Á (p6 xs k)):=by
 intro c A outer s H E h;refine aF (av gi .B (bj rfl B.len .A)) (λb=>?_) (λb=>?_)
 .have a:k<(xs.length:Int):=by simpa using b
  have e:p6 xs k=xs.getD k.toNat 0:=Xc a;rw[e];exact au (gZ (aT .A .B (my (d:=0) g a))) rfl
 .have a:¬k<(xs.length:Int):=by simpa using b
  have e:p6 xs k=0:=W_ a;rw[e];exact au af rfl
noncomputable def SD(c k j:Int):Int:=(((c.natAbs:Int).fmod 2147483647+97*k+131*j+13)*(16807+j*j+k)).fmod 2147483647
noncomputable def Qv(c k:Int):Nat->Int
 |0=>0
 |i+1=>Qv c k i*2147483659+(SD c k i*48271).fmod 2147483647
noncomputable def NF(c k:Int):Int:=if 10^18<=(c.natAbs:Int) then c else Qv c k 9
def Du(c k:Int)(o:0<=k)(h1:k<=100):⇑Body vo "_law_big" o7 f kk [.val Â c,.val Â k] (RT Á (NF c k)):=by
 intro j A outer s H E p;have g:∀i:Int,(if i<0 then -i else i)=(i.natAbs:Int):=λi=>by split<;>lia
 refine aF (av FG (iH rfl B.abs .A) (Pd af af Sz)) (λd=>?_) (λd=>?_)
 .rw[g] at d;have e:NF c k=c:=Xc ↑d;rw[e];exact au (gZ .A) rfl
 rw[g] at d;have e:NF c k=Qv c k 9:=W_ ↑d;rw[e];refine ao 2 fO.nd af ?_;refine eI (λi U=>∃r h,U=[À (.val Â c),À (.val Â k),À (.val Á (Qv c k i)),r,h]) rfl B.range (cV 3 fO.nd) af .a .a #[none,none,rfl] ?_ ?_
 .rintro i U' hi ⟨r,h,rfl⟩;have l:i<9:=hi;have t:=cY (a:=(c.natAbs:Int)) (b:=2147483647) .a;have n:(i:Int)*(i:Int)<=9*9:=X_ .b .b .b .a;have m:(0:Int)<=(i:Int)*(i:Int):=YR .b .b;refine ao 4 fO.nd (bQ (bQ (bQ (aR (iH rfl B.abs .A) af .a) (aE af .B (mulL .a .a))) (aE af .D (mulL .a .a))) af) ?_;rw[g];refine ao 4 fO.nd (aR (aE (ae 4) (bQ (bQ af (aE .D .D (mulL .b .b))) .B) (mulL .b .b)) af .a) ?_;have q:=cY (a:=((c.natAbs:Int).fmod 2147483647+97*k+131*(i:Int)+13)*(16807+(i:Int)*(i:Int)+k)) (b:=2147483647) .a;refine ao 2 fO.nd (bQ (aE .C af (mulR .a .a)) (aR (aE (ae 4) af (mulR .a .a)) af .a)) ?_;exact aK #[_,_,rfl]
 .rintro U' ⟨r,h,rfl⟩;exact au .C rfl
def Qj(a b:Int):Int:=((Ê a b:Nat):Int)
def xA(a b:Int):⇑Body mV "_law_common" jJ f k [.val Â a,.val Â b] (RT Á (Qj a b)):=by
 intro g A outer s H E h;refine cz (ι:=Bool×Bool×Int×Int) (λi U=>∃r,U=[À (.val i.1 i.2.2.1),À (.val i.2.1 i.2.2.2),r]/\Ê i.2.2.1 i.2.2.2=Ê a b) (λi=>i.2.2.2.natAbs) (Â,Â,a,b) #[none,rfl,rfl] ?_;rintro⟨b1,b2,x,y⟩ U' ⟨r,rfl,c⟩;refine#[_,av gD .B af,λe=>?_,λe=>?_]
 .have d:y≠0:=by simpa using e
  refine ao 2 fX.nd (aR .A .B d) ?_;refine ao 0 fX.nd .B ?_;refine ao 1 fX.nd .C ?_;exact aK #[(b2,Á,y,x.fmod y),#[_,rfl,(n_ x y).trans c],Ck x y d]
 .have d:y=0:=by simpa using e
  refine au (iH rfl B.abs .A) ?_;dsimp only at c ⊢;rw[d,aaL] at c;unfold Qj;rw[<-c];show Bd.val _ _=Bd.val _ _;congr 1;split<;>lia
noncomputable def zp(zero:List Int):Nat->Int
 |0=>0
 |i+1=>Qj (zp zero i) (zero.getD i 0)
noncomputable def zt(row zero:List Int):Nat->Int
 |0=>0
 |i+1=>zt row zero i+row.getD i 0*zero.getD i 0*zero.getD i 0
noncomputable def Pu(row zero:List Int):Bool:=decide (zp zero row.length=1)&&decide (zt row zero row.length=0)
def QG(row zero:List Int):Prop:=zero.length=row.length/\row.length<=100/\(∀x,x∈row->Sm 7600 x)/\∀x,x∈zero->Sm 7600 x
def getD_mem(h:i<xs.length):xs.getD i 0∈xs:=by
 rw[Xh,Xn h];exact YY h
def Og(h:i<xs.length):xT xs (i:Int)=À (xs.getD i 0):=my (d:=0) .b .b
abbrev WV(P w K mg base):=aH P w K mg base 1 "_law_common" ["_law_a","_law_b"] (cM K (λ_ _=>True) Á Qj)
def uy(k:⇑WV)(row zero:List Int)(hp:QG row zero):⇑Body lP "_law_is_zero" iM f 1 [.val Â row,.val Â zero] (RT Á (Pu row zero)):=by
 intro g A outer s H E j;obtain⟨l,h,b,d⟩:=hp;refine aF (TW.t (vq (j0 (eT (Ea rfl B.isinstance rfl B.list .B))) λ_=>(pW (av gD (bj rfl B.len .B) (bj rfl B.len .A))))) (λa=>?_) (λa=>?_)
 .exfalso;simp at a;lia
 refine ao 2 cJ.nd af ?_;refine ao 3 cJ.nd af ?_;refine eI (λi U=>∃r,U=[À (.val Â row),À (.val Â zero),À (.val Á (zp zero i)),À (.val Á (zt row zero i)),r]) rfl B.range (cV 4 cJ.nd) (bj rfl B.len .A) .b .b #[none,rfl] ?_ ?_
 .rintro i U' hi ⟨r,rfl⟩;have h1:i<row.length:=by lia
  have h2:i<zero.length:=by lia
  have e:=b _ (getD_mem h1);have c:=d _ (getD_mem h2);refine aF (TW.t (vq (j0 (eT (Av rfl B.isinstance rfl B.int (aT .B (ae 4) (Og h2))))) λ_=>(pW (eT (AD rfl B.isinstance rfl B.bool (aT .B (ae 4) (Og h2))))))) (λa=>?_) (λa=>?_)
  .cases a
  refine ao 2 cJ.nd (aA k (j.mono .a) rfl .C (aT .B (ae 4) (Og h2)) É) ?_;refine ao 3 cJ.nd (bQ .D (aE (aE (aT .A (ae 4) (Og h1)) (aT .B (ae 4) (Og h2)) (e.ok c)) (aT .B (ae 4) (Og h2)) ((e.mul c).ok c))) ?_;exact aK #[_,rfl]
 .rintro U' ⟨r,rfl⟩;exact au (qq (fE ax .C af) λ_=>(jX (fE ax .D af))) rfl
def yw(x e m:Int)(he:0<=e)(t:2<=m)(u:m<2^62):⇑Body p4 "_law_power" kR f kk [.val Â x,.val Â e,.val Â m] (RT Á (zG x e m)):=by
 intro p A outer s H E y;have d:1<=m:=by lia
 refine ao 3 ck.nd (cE af (show(1:Int)=1%m from (Zy .a .b).symm)) ?_;refine ao 0 ck.nd (aR .A .C .b) ?_;rw[bB d]
 refine cz (ι:=Bool×Int×Int×Int) (λi U=>U=[À (.val Á i.2.2.2),À (.val i.1 i.2.1),À (.val Â m),À (.val Á i.2.2.1)]/\0<=i.2.1/\i.2.2.1*i.2.2.2^i.2.1.toNat%m=x^e.toNat%m/\0<=i.2.2.1/\i.2.2.1<m/\0<=i.2.2.2/\i.2.2.2<m) (λi=>i.2.1.toNat) (Â,e,1%m,x%m)
  #[rfl,he,by dsimp only;rw[YC,ZX _ (Zf m),je,<-YC,Yb],XO _ .b,XF _ .b,XO _ .b,XF _ .b] ?_
 rintro⟨v,n,a,q⟩ U' ⟨rfl,r,hi,h,j,z,q1⟩;dsimp only at *;refine#[_,av fD .B af,λb=>?_,λb=>?_]
 .have k:0<n:=by simpa using b
  have c:=sG r;have l:=XO (q*q) (show m≠0 by lia);have o:=XF (q*q) (show 0<m by lia);refine aF (av ax (aR .B af .a) af) (λb=>?_) (λb=>?_)
  .have g:n.toNat%2=1:=by
    have:n.fmod 2=1:=by simpa using b
    rw[bB .a] at this;lia
   refine ao 3 ck.nd (aR (aE .D .A (mulL .b .b)) .C .b) (aK ?_);refine ao 0 ck.nd (aR (aE .A .A (mulL .b .b)) .C .b) ?_;refine ao 1 ck.nd (a8 .B af vn) ?_;rw[bB d,bB d];refine aK #[(Á,n.fdiv 2,a*q%m,q*q%m),#[rfl,c.2,?_,XO _ .b,XF _ .b,l,o],?_]
   .dsimp only;rw[c.1,CC g,hi]
   .dsimp only;lia
  .have g:n.toNat%2=0:=by
    have:¬n.fmod 2=1:=by simpa using b
    rw[bB .a] at this;lia
   refine ao 0 ck.nd (aR (aE .A .A (mulL .b .b)) .C .b) ?_;refine ao 1 ck.nd (a8 .B af vn) ?_;rw[bB d];refine aK #[(Á,n.fdiv 2,a,q*q%m),#[rfl,c.2,?_,h,j,l,o],?_]
   .dsimp only;rw[c.1,zd g,hi]
   .dsimp only;lia
 .have hz:n.toNat=0:=by
   have:¬0<n:=by simpa using b
   lia
  rw[hz,X1,XC,Zy h j] at hi;refine au .D ?_;show Bd.val _ _=Bd.val _ _;unfold zG;rw[<-hi]
def Bb(n p:Int)(h:n≠0)(h2:2<=p)(q:p<2^31):⇑Body si "_law_less" me f kk [.val Â n,.val Â p] (RT Á (xO n p)):=by
 intro m A outer s H E r;have g:p*p≠0:=Xb .b .b;have sp:Sm 31 p:=by unfold Sm;lia
 refine cz (ι:=Bool×Nat×Int) (λi U=>U=[À (.val i.1 i.2.2),À (.val Â p)]/\i.2.2≠0/\i.2.2.natAbs<=i.2.1/\lsN p i.2.1 i.2.2=xO n p) (λi=>i.2.2.natAbs) (Â,n.natAbs,n) #[rfl,h,Xm _,rfl] ?_;rintro⟨b,k,x⟩ U' ⟨rfl,c,l,e⟩;have c:x≠0:=c;have l:x.natAbs<=k:=l;have e:lsN p k x=xO n p:=e;refine#[_,av ax (aR .A (aE .B .B (sp.ok sp)) g) af,λd=>?_,λd=>?_]
 .have a:x.fmod (p*p)=0:=Xq d;rw[Yl _ (YR .b .b)] at a;obtain⟨o,q1,_⟩:=Fe h2 c a;obtain⟨j,rfl⟩:∃j,k=j+1:=#[k-1,.b];rw[EU a] at e;refine ao 0 qy.nd (a8 .A (aE .B .B (sp.ok sp)) (Sm.div (sp.mul sp) g)) ?_;rw[X9 _ (YR .b .b)];exact aK #[(Á,j,x/(p*p)),#[rfl,o,.f,e],q1]
 .have a:¬x.fmod (p*p)=0:=XM d;rw[Yl _ (YR .b .b)] at a;rw[zy a] at e;rw[<-e];cases b with
  |true=>exact au .A rfl
  |false=>exact au (gZ (b':=Á) .A) rfl
def QN(g:List Int)(p:Int):Bool:=!Oi p g
structure Rp(g:List Int)(p:Int):Prop where
 pr:aO p=Á
 ne:p≠2
 lt:p<2^31
 un:∀a∈g,¬p∣a
 sz:∀a∈g,Sm 62 a
abbrev WW(P w K mg base):=aH P w K mg base 1 "_law_power" ["_law_k","_law_often","_law_p"] (vg K (λ_ e m=>0<=e/\2<=m/\m<2^62) Á zG)
def zo(o:⇑WW)(g:List Int)(p:Int)(h:Rp g p):⇑Body pZ "_law_alone" k7 f 1 [.val Â g,.val Â p] (RT Á (QN g p)):=by
 intro k A outer s H E l;obtain⟨hp,h2,n,un,sz⟩:=h;have p2:=aq hp
 match g,un,sz with
 |[],_,_ =>
  refine aF (av gi (bj rfl B.len .A) af) (λd=>?_) (λd=>absurd (XM d) .c);exact au j4 rfl
 |[_],_,_ =>
  refine aF (av gi (bj rfl B.len .A) af) (λd=>?_) (λd=>absurd (XM d) .c);exact au j4 rfl
 |[a,b],un,sz =>
  have ha:=un a .c;have m:=un b .c;have u:=sz a .c;have t:=sz b .c;refine aF (av gi (bj rfl B.len .A) af) (λd=>absurd (Xq d) .c) (λ_=>?_);refine aF (av fD (bj rfl B.len .A) af) (λd=>absurd (Xq d) .c) (λ_=>?_);have j:(p-1).fdiv 2=(p-1)/2:=X9 _ .a;refine au (fE ax (dJ o (l.mono .a) rfl (eO af (aE (aT (a:=a) .A af rfl) (aT (a:=b) .A af rfl) (u.ok t))) (a8 (eO .B af) af vn) .B #[by rw[j];lia,p2,.b]) (eO .B af)) ?_;show Bd.val _ _=Bd.val _ _;congr 1
  have e:¬p∣-a*b:=λz=>by
   rcases euclid hp z with z|z
   .exact ha (Yp.mp z)
   .exact m z
  show decide (zG (0-a*b) ((p-1).fdiv 2) p=p-1)=!decide (bp (-a*b) p=1);rw[j,show 0-a*b=-a*b by grind]
  have i:zG (-a*b) ((p-1)/2) p=p-1↔bp (-a*b) p=-1:=by
   rw[fY hp h2 e];unfold zG;generalize (-a*b)^((p-1)/2).toNat=q;constructor
   .intro z;refine Xu ?_;rw[<-abN,z,show p-1+1=p by lia,Int.emod_self]
   .rintro⟨c,d⟩;rw[show q=(p-1)+p*(c-1) by grind,abB];exact Zy .b .b
  rcases bu e with z|z
  .rw[XH (λw=>by rw[i,z] at w;exact absurd w .a),z];rfl
  .rw[XI (i.mpr z),z];rfl
 |a::b::c::r,_,_ =>
  have n:((a::b::c::r).length:Int)=(r.length:Int)+3:=by simp only[Yd];lia
  refine aF (av gi (bj rfl B.len .A) af) (λd=>?_) (λ_=>?_)
  .have:=Xq d;lia
  refine aF (av fD (bj rfl B.len .A) af) (λ_=>?_) (λd=>?_)
  .exact au j4 rfl
  .have:=XM d;lia
open Classical in
def N7(l:List Int):Bool:=!decide (PZ l 2 16)
open Classical in
def BC:N7 l=Â↔PZ l 2 16:=by unfold N7;rw[Bool.not_eq_false',Yq]
def Hn{c:Bool}(h:c=Á↔PZ l 2 16):(!c)=N7 l:=by
 cases c with
 |true=>exact(BC.mpr (h.mp rfl)).symm
 |false =>
  cases q:N7 l with
  |true=>rfl
  |false=>exact nomatch h.mpr (BC.mp q)
def Rn(l:List Int)(d:Db Bool):Prop:=d.ks.Nodup/\∀k,k∈d.ks↔LR 16 2 l k
noncomputable def yL(a:Int)(k:Int×Bool)(x:Int):Int×Bool:=((k.1+a*x*x).fmod 16,k.2 || decide (x.fmod 2=1))
def CW(a:Int)(ks:List (Int×Bool))(j m:Nat)(d:Db Bool):Prop:=d.ks.Nodup/\∀k,k∈d.ks↔(∃i key,i<j/\ks[i]?=À key/\∃x:Nat,x<4/\k=yL a key x)\/∃key,ks[j]?=À key/\∃x:Nat,x<m/\k=yL a key x
def CW.len{ks:List (Int×Bool)}{m:Nat}{d:Db Bool}(h:CW a ks j m d):d.l.length<=40:=by
 have:=ER (N:=16) h.1 λk c=>by
  have b:∀key x,0<=(yL a key x).1/\(yL a key x).1<16:=λkey x=>cY .a;rcases(h.2 k).mp c with⟨i,key,_,_,x,_,rfl⟩|⟨key,_,x,_,rfl⟩<;>exact b _ _
 rw[Db.Hq] at this;lia
def CW.put{a:Int}{ks:List (Int×Bool)}{j m:Nat}{d:Db Bool}{key:Int×Bool}{c:Bool}(g:ks[j]?=À key)(h:CW a ks j m d):CW a ks j (m+1) (d.put (yL a key m) c):=by
 refine#[Db.LH h.1,λk=>?_];rw[Db.Js,h.2];constructor
 .rintro(rfl|h1|⟨f,b,x,i,rfl⟩)
  .exact .inr #[key,g,m,Zj m,rfl]
  .exact .inl h1
  .exact .inr #[f,b,x,.b,rfl]
 .rintro(h1|⟨f,b,x,i,rfl⟩)
  .exact .inr (.inl h1)
  .rw[g] at b;cases b;by_cases e:x=m
   .subst e;exact .inl rfl
   .exact .inr (.inr #[key,g,x,.b,rfl])
def CW.next{ks:List (Int×Bool)}{d:Db Bool}{key:Int×Bool}(m:ks[j]?=À key)(h:CW a ks j 4 d):CW a ks (j+1) 0 d:=by
 refine#[h.1,λk=>?_];rw[h.2];constructor
 .rintro(⟨i,b,h1,h2,g⟩|⟨b,f,x,c,e⟩)
  .exact .inl #[i,b,.b,h2,g]
  .exact .inl #[j,b,.b,f,x,.b,e]
 .rintro(⟨i,b,h1,h2,x,c,e⟩|⟨b,_,x,c,_⟩)
  .by_cases l:i=j
   .subst l;exact .inr #[b,h2,x,.b,e]
   .exact .inl #[i,b,.b,h2,x,c,e]
  .exact absurd c (Ze x)
def CW.done{b d:Db Bool}(f:Rn l b)(h:CW a b.ks b.ks.length 0 d):Rn (l++[a]) d:=by
 refine#[h.1,λk=>?_];rw[h.2,Ek]
 have j:∀key (x:Int),yL a key x=((key.1+a*x*x)%16,key.2 || !decide (x%2=0)):=λkey x=>by
  unfold yL;rw[bB .a,bB .a];congr 2;by_cases z:x%2=1
  .rw[z];rfl
  .rw[show x%2=0 by lia];rfl
 constructor
 .rintro(⟨i,key,h1,h2,x,g,e⟩|⟨key,_,x,g,_⟩)
  .exact#[key,(f.2 key).mp (Xg h2),x,.b,.b,by rw[e,j]]
  .exact absurd g (Ze x)
 .rintro⟨key,n,x,c,m,e⟩;obtain⟨i,hi⟩:=Yu.mp ((f.2 key).mpr n);refine .inl #[i,key,(Xl.mp hi).1,hi,x.toNat,.b,?_];rw[e,j,aad c]
def pG(l:List Int)(L:∀a∈l,Sm 62 a):⇑Body jg "_law_by_sixteen" fM f kk [.val Â l] (RT Á (N7 l)):=by
 intro O A outer s H E C;refine ao 1 ba.nd (OZ (LY (k:=(0,Â)) (c:=Á) (AI C) (gZ (b':=Á) (bS af j4)) j4)) ?_;refine qh (M:=Int) (as:=l) (λi U=>∃o b d F I r q e h,U=[À (.val o l),À (.val b d),F,I,r,q,e,h]/\Rn (l.take i) d) (cV 2 ba.nd) (bc .A) #[_,_,Db.mk [((0,Â),Á)],none,none,none,none,none,none,rfl,Ym.mpr #[.c,Z7],λk=>?_] ?_ ?_
 .rw[abp,Jk];show k∈[((0:Int),Â)]↔_;exact Xv
 .rintro i a U' ha ⟨o,b,v,F,I,r,q,e,h,rfl,G⟩;have R:=L a (Xg ha);refine pU 3 ba.nd (GI (β:=Bool)) ?_;refine JQ (d:=v) (λj U=>∃o u t d r q e h,U=[À (.val o l),À (.val u v),À (.val t a),À (.dpo d),r,q,e,h]/\CW a v.ks j 0 d) (x5 4 5 ba.nd) .B #[_,_,_,Db.mk [],_,_,_,_,rfl,Z7,λk=>?_] ?_ ?_
  .constructor
   .intro z;cases z
   .rintro(⟨i,_,h1,_⟩|⟨_,_,x,h1,_⟩)
    .exact absurd h1 (Ze i)
    .exact absurd h1 (Ze x)
  .rintro j key U' p ⟨o,u,t,d,r,q,e,h,rfl,g⟩;refine eI (n:=4) (λm U=>∃o u t D y d e h,U=[À (.val o l),À (.val u v),À (.val t a),À (.dpo d),À (.val D key.1),À (.val y key.2),e,h]/\CW a v.ks j m d) rfl B.range (cV 6 ba.nd) af .a .a #[_,_,_,_,_,d,_,_,rfl,g] ?_ ?_
   .rintro m U' α ⟨o,u,t,D,y,d,e,h,rfl,g⟩;have N:(m:Int)<4:=by have:m<4:=α;lia
    have J:=g.len;refine ao 7 ba.nd (aR (bQ (ae 4) (aE (aE .C (ae 6) (mulR .b .b)) (ae 6) (mulR .b .b))) af .a) ?_;refine Jz 3 (k:=yL a key m) (c:=Á) (AI C) rfl (gZ (b':=Á) (bS (ae 7) (DU (ae 5) λ_=>(jX (fE ax (aR (ae 6) af .a) af))))) j4 .b ?_;exact aK #[_,_,_,_,_,_,_,_,rfl,g.put p]
   .rintro U' ⟨o,u,t,D,y,d,e,h,rfl,g⟩;exact aK #[_,_,_,d,_,_,_,_,rfl,g.next p]
  .rintro U' ⟨o,u,t,d,r,q,e,h,rfl,g⟩;refine L_ 3 rfl ?_;refine ao 1 ba.nd .D ?_;refine aK #[_,_,d,_,_,_,_,_,_,rfl,?_];rw[Y2,ha];rw[<-Db.Hq] at g;exact CW.done G g
 .rintro U' ⟨o,b,d,F,I,r,q,e,h,rfl,g⟩;refine au (fE (Jn (k:=(0,Á)) (AI C)) (gZ (b':=Á) (bS af j4)) .B) ?_;show Bd.val _ _=Bd.val _ _;rw[Hn (l:=l) (by rw[Db.NO,g.2,YB,Ni .a .a])]
def HX(l:List Int)(p:Int):Bool:=!bN l p
structure Qu(l:List Int)(p:Int):Prop where
 len:1<=l.length/\l.length<=100
 nz:∀a∈l,a≠0/\Sm 62 a
 pl:p=0\/(aO p=Á/\p<2^31)
def Ku(h2:2<=p)(nz:∀a∈l,a≠0/\Sm 62 a):∀a∈l.map (λa=>xO a p),Sm 62 a:=λa ha=>by
 obtain⟨b,c,rfl⟩:=Xs.mp ha;obtain⟨_,_,_,_,h⟩:=v9 h2 (nz b c).1;exact Sm.of_le h (nz b c).2
abbrev WX(P w K mg base):=aH P w K mg base 1 "_law_by_sixteen" ["_law_row_here"] (cH K (fun(l:List Int)=>∀a∈l,Sm 62 a) Á N7)
def Ao(J:⇑aH 1 "_law_less" ["_law_number","_law_p"] (cM K (λn p=>n≠0/\2<=p/\p<2^31) Á xO))(v:⇑aH 2 "_law_alone" ["_law_group","_law_p"] (cM K Rp Á QN))(I:⇑WX)(l:List Int)(p:Int)(h:Qu l p):⇑Body g_ "_law_bars" fP f 2 [.val Â l,.val Â p] (RT Á (HX l p)):=by
 intro L A outer s H E r;obtain⟨⟨T,S⟩,nz,pl⟩:=h;have c:∀a∈l,a≠0:=λa ha=>(nz a ha).1;refine aF (av ax .B af) (λk=>?_) (λk=>?_)
 .have d:p=0:=Xq k;subst d;obtain⟨y,D⟩:=Ad l .b;obtain⟨b1,b2⟩:=A2 l .b;refine au (DU (fE fD (Fj rfl rfl B.min .A .b y D) af) λ_=>(jX (fE gi (E9 rfl rfl B.max .A .b b1 b2) af))) ?_;show Bd.val _ _=Bd.val _ _;congr 1;have R:=c _ y;have O:=c _ b1;unfold HX bN;rw[Xc rfl,Bool.not_and];congr 1
  .rw[Yk];simp;lia
  .rw[Yk];simp;lia
 have α:¬p=0:=XM k;obtain⟨hp,j⟩:=pl.resolve_left α;have p2:=aq hp;refine ua 2 iA.nd (b':=Á) (f:=λa:Int=>xO a p) ["_law_number"] [1] (bG (ag fP) g_ rfl rfl .d) (bc .A) (a_ 0) (λC s H fp=>cL 0 ["_law_number","_law_p"]) aX (λi a ha C s H fp=>aA J (r.mono .a) rfl .A .B #[c a (Xg ha),p2,j]) .b ?_;have o:=Ku p2 nz;have g:=Jw p2 c;have u:=Io hp c;have x:(l.map λa=>xO a p).length=l.length:=Xk ..;unfold HX;rw[<-u];generalize (l.map λa=>xO a p)=m at *;refine aF (av ax .B af) (λk=>?_) (λk=>?_)
 .have d:p=2:=Xq k;subst d;refine au (aD I (r.mono .a) rfl .C o) ?_;show Bd.val _ _=Bd.val _ _;congr 1;exact(Hn (MZ (λa ha=>λz=>g a ha (Xu z)) .b).symm).symm
 have h2:p≠2:=XM k;have q:∀a:Int,(!decide (a.fmod p=0))=!f7 p a:=λa=>by unfold f7;rw[bB .b]
 refine iF (f:=λa:Int=>a) (p:=λa=>!f7 p a) (b':=Á) 3 iA.nd ["_law_number"] [1] (bG (ag fP) g_ rfl rfl .d) (bc .C) (a_ 0) (λC s H fp=>cL 0 ["_law_number","_law_p"]) aX (λi a hi C s H fp=>by rw[<-q];exact kL (av gD (aR .A .B .b) af)) (λi a hi _ C s H fp=>gZ (b':=Á) .A) .b ?_
 refine iF (f:=λa:Int=>a/p) (p:=λa=>f7 p a) (b':=Á) 4 iA.nd ["_law_number"] [1] (bG (ag fP) g_ rfl rfl .d) (bc .C) (a_ 0) (λC s H fp=>cL 0 ["_law_number","_law_p"]) aX (λi a hi C s H fp=>by
   have e:f7 p a=decide (a.fmod p=0):=by unfold f7;rw[bB .b]
   rw[e]
   exact kL (av ax (aR .A .B .b) af)) (λi a hi _ C s H fp=>cE (a8 .A .B (Sm.div (n:=40) (by unfold Sm;lia) .b)) (X9 _ .b)) .b ?_
 rw[aca];have G:(m.filter λa=>!f7 p a)=p_ p m:=rfl;have ev:(m.filter λa=>f7 p a).map (λa=>a/p)=rn p m:=rfl;rw[G,ev,MI hp h2 g .b];have N:∀a∈p_ p m,Sm 62 a:=λa ha=>o a (Ye.mp ha).1
 have F:∀a∈rn p m,Sm 62 a:=λa ha=>by
  obtain⟨b,t,rfl⟩:=Xs.mp ha;obtain⟨t,_⟩:=Ye.mp t;refine Sm.of_le ?_ (o b t);exact Int.natAbs_ediv_le_natAbs b p
 refine au (qq (aA v (r.mono .a) rfl .D .B #[hp,h2,j,BJ,N]) λ_=>(jX (aA v (r.mono .a) rfl (ae 4) .B #[hp,h2,j,Cs g,F]))) ?_;show Bd.val _ _=Bd.val _ _;congr 1;unfold QN;rw[Bool.not_or]
noncomputable def vt(c:Int):Nat->Int×Int
 |0=>(1-2*c.fmod 2,c.fdiv 2)
 |i+1=>((if (vt c i).2.fmod 2=1 then (vt c i).1*SP.getD i 1 else (vt c i).1),(vt c i).2.fdiv 2)
def MG(c:Int):Int:=(vt c 6).1
include B in
theorem x8(c:Int):⇑Body qj "_law_small" kZ f kk [.val Â c] (RT Á (MG c)):=by
 intro h A outer s H E k;refine ao 1 dI.nd (eO af (aE af (aR .A af .a) (mulL .a .a))) ?_;refine ao 2 dI.nd (a8 .A af vn) ?_;refine pO (xs:=SP) (b:=Á) (λi U=>∃d,U=[À (.val Â c),À (.val Á (vt c i).1),À (.val Á (vt c i).2),d]) (cV 3 dI.nd) (c8 (ay af (ay af (ay af (ay af (ay af (ay af bF)))))) (X6 rfl)) #[none,rfl] ?_ ?_
 .rintro i a U' ha ⟨d,rfl⟩;have hi:i<6:=(Xl.mp ha).1;have j:SP.getD i 1=a:=by rw[Xh,ha];rfl
  have l:=Et a (Xg ha);have e:vt c (i+1)=((if (vt c i).2.fmod 2=1 then (vt c i).1*a else (vt c i).1),(vt c i).2.fdiv 2):=by rw[<-j];rfl
  rw[e];refine nH (λU=>U=[À (.val Â c),À (.val Á (if (vt c i).2.fmod 2=1 then (vt c i).1*a else (vt c i).1)),À (.val Á (vt c i).2),À (.val Á a)]) (av ax (aR .C af .a) af) (λg=>?_) (λg=>?_) ?_
  .rw[Xc ↑g];refine ao 1 dI.nd (aE .B .D (mulR .b .b)) ?_;exact aK rfl
  .rw[W_ ↑g];exact aK rfl
  .rintro U' rfl;refine ao 2 dI.nd (a8 .C af vn) ?_;exact aK #[_,rfl]
 .rintro U' ⟨d,rfl⟩;exact au .B rfl
noncomputable def Ds(c:Int):Int:=if (c.fdiv 128).fmod 4=0 then 1+(c.fdiv 512).fmod 12 else 1
noncomputable def o4(c:Int):Nat->List Int×Int
 |0=>([],c)
 |i+1=>((o4 c i).1++[MG (o4 c i).2*Ds (o4 c i).2*Ds (o4 c i).2],(o4 c i).2.fdiv 6144)
def Ib(c n:Int):List Int:=(o4 c n.toNat).1
def HE(c:Int):1<=Ds c/\Ds c<=12:=by
 have z:=cY (a:=c.fdiv 512) (b:=12) .a;unfold Ds;split<;>omega
theorem vU(c:Int):∀i:Nat,(o4 c i).1.length=i
 |0=>rfl
 |i+1=>by simp[o4,vU c i]
def C7(l:⇑aH 1 "_law_small" ["_law_cell"] (cH K (fun(_:Int)=>True) Á MG))(c n:Int)(p:0<=n)(o:n<=8):⇑Body vx "_law_row" pE f 1 [.val Â c,.val Â n] (RT Á (Ib c n)):=by
 intro j A outer s H E k;refine KZ 2 Int eK.nd ?_;refine ao 3 eK.nd .A ?_;refine eI (n:=n) (λi U=>∃b h d,U=[À (.val Â c),À (.val Â n),À (.own Á (o4 c i).1),À (.val b (o4 c i).2),h,d]) rfl B.range (cV 4 eK.nd) .B .b .b #[_,none,none,rfl] ?_ ?_
 .rintro i U' hi ⟨b,h,d,rfl⟩;have q:=vU c i;obtain⟨r,m⟩:=HE (o4 c i).2;refine ao 5 eK.nd af ?_;refine nH (λU=>U=[À (.val Â c),À (.val Â n),À (.own Á (o4 c i).1),À (.val b (o4 c i).2),À (.val Á (i:Int)),À (.val Á (Ds (o4 c i).2))]) (av ax (aR (a8 .D af vn) af .a) af) (λg=>?_) (λg=>?_) ?_
  .have e:Ds (o4 c i).2=1+((o4 c i).2.fdiv 512).fmod 12:=Xc ↑g;rw[e];refine ao 5 eK.nd (bQ af (aR (a8 .D af vn) af .a)) ?_;exact aK rfl
  .have e:Ds (o4 c i).2=1:=W_ ↑g;rw[e];exact aK rfl
  .rintro U' rfl;refine oB 2 (a:=MG (o4 c i).2*Ds (o4 c i).2*Ds (o4 c i).2) rfl (aE (aE (aD l (k.mono .a) rfl .D É) (ae 5) (mulR .b .b)) (ae 5) (mulR .b .b)) .b ?_;refine ao 3 eK.nd (a8 .D af vn) ?_;exact aK #[_,_,_,rfl]
 .rintro U' ⟨b,h,d,rfl⟩;refine dt 2 rfl ?_;exact au .C rfl
theorem Cm(c:Int):∀i,(vt c i).1∈bx i
 |0=>by
  have z:=cY (a:=c) (b:=2) .a;have:c.fmod 2=0\/c.fmod 2=1:=by lia
  show(1-2*c.fmod 2)∈[(1:Int),-1];rcases this with e|e<;>rw[e]<;>decide
 |i+1=>by
  have d:=Cm c i;show(if (vt c i).2.fmod 2=1 then (vt c i).1*SP.getD i 1 else (vt c i).1)∈bx i++(bx i).map λk=>k*Q.Q6.getD i 1;split
  .exact XG _ (Xs.mpr #[_,d,rfl])
  .exact X0 _ d
def IL(c:Int):MG c∈bx 6:=Cm c 6
def QZ:∀q∈Ò 13,aO (q:Int)=Á->(q:Int)∈Q6:=by
 have key:∀q∈Ò 13,¬((q:Int)∈Q6)->q<2\/∃d∈Ò 13,2<=d/\d<q/\q%d=0:=by decide
 intro q c hp;by_cases h:(q:Int)∈Q6
 .exact h
 .exfalso;have g:=aq hp;rcases key q c h with z|⟨d,_,e,f,b⟩
  .lia
  .have a:(d:Int)∣(q:Int):=ZA.mpr (aa2 b);rcases fj hp .b a with z|z<;>lia
def GH(h1:1<=r)(h2:r<=12):lK Q6 r:=#[.b,λq a b=>by
 have:=Xt .b b;have c:=aq a;have:=QZ q.toNat (Yh.mpr .b) (by rwa[aad .b]);rw[aad .b] at this
 exact this]
def SV(x:Int):Prop:=xQ x/\x.natAbs<=4324320
theorem vQ(c:Int):∀i:Nat,∀x∈(o4 c i).1,SV x
 |0,x,h=>by cases h
 |i+1,x,a=>by
  rcases X2.mp a with a|a
  .exact vQ c i x a
  .rw[Xv.mp a];obtain⟨e,b⟩:=HE (o4 c i).2;have d:=IL (o4 c i).2;have l:=eA d;have k:(Ds (o4 c i).2).natAbs<=12:=by omega
   have bd:(MG (o4 c i).2*Ds (o4 c i).2*Ds (o4 c i).2).natAbs<=4324320:=by
    rw[XN,XN];have:=aax (aax l k) k;omega
   exact#[#[.e,iJ (iJ (nh d) (GH e b)) (GH e b)],bd]
def xQ.neg(h:xQ x):xQ (0-x):=by
 rw[Int.zero_sub];exact#[by have:=h.1;lia,gL h.2]
def JC(n:Int):Bool:=decide (n.natAbs<1073741824)&&decide (lf SP (n.natAbs:Int)=1)
def se(n:Int)(y:n≠0):⇑Body km "_law_is_small" ib f kk [.val Â n] (RT Á (JC n)):=by
 intro q A outer s H E C;refine ao 1 d9.nd (cE (iH rfl B.abs .A) (oE n)) ?_;refine aF (av FG .B af) (λc=>?_) (λc=>?_)
 .have a:(1073741824:Int)<=n.natAbs:=Xq c;have e:JC n=Â:=by unfold JC;rw[XH .b];rfl
  rw[e];exact au j4 rfl
 have a:¬(1073741824:Int)<=n.natAbs:=XM c;refine pO (xs:=SP) (b:=Á) (λi U=>∃d,U=[À (.val Â n),À (.val Á (lf (SP.take i) (n.natAbs:Int))),d]/\i<=6) (cV 2 d9.nd) (c8 (ay af (ay af (ay af (ay af (ay af (ay af bF)))))) (X6 rfl)) #[none,rfl,Yc _] ?_ ?_
 .rintro i p U' hp ⟨d,rfl,_⟩;have hi:i<6:=(Xl.mp hp).1;have D:SP.getD i 1=p:=by rw[Xh,hp];rfl
  obtain⟨p2,F⟩:=Et p (Xg hp);have j:lf (SP.take i) (n.natAbs:Int)≠0:=by have:=(pM (SP.take i) (n.natAbs:Int) (λp hp=>yP p (Ř hp)) .b).1;lia
  have e1:lf (SP.take (i+1)) (n.natAbs:Int)=(aV (lf (SP.take i) (n.natAbs:Int)) p).2:=CA hp;rw[e1];generalize lf (SP.take i) (n.natAbs:Int)=x at *;refine cz (ι:=Int×Int) (λu U=>U=[À (.val Â n),À (.val Á u.2),À (.val Á p)]/\0<=u.1/\x=u.2*p^u.1.toNat/\u.2≠0) (λu=>u.2.natAbs) (0,x) #[rfl,Yi 0,by show x=x*p^(0:Int).toNat;rw[show(0:Int).toNat=0 from rfl,X1,XC],j] ?_;rintro⟨m,l⟩ U' ⟨rfl,g,he,k⟩;dsimp only at *;refine#[_,av ax (aR .B .C .b) af,λc=>?_,λc=>?_]
  .have a:l.fmod p=0:=Xq c;obtain⟨v,o,t,h⟩:=Hr g he p2 a k;refine ao 1 d9.nd (a8 .B .C (Sm.div (n:=10) (by unfold Sm;lia) .b)) ?_;exact aK #[(m+1,l.fdiv p),#[rfl,v,o,t],h]
  .have a:¬l.fmod p=0:=XM c;refine aK #[À (.val Á p),?_,hi];rw[k8 p2 (r:=(m,l)) #[g,he,λz=>a (Q.g7.mpr z)]]
 .rintro U' ⟨d,rfl,_⟩;have e:JC n=decide (lf SP (n.natAbs:Int)=1):=by unfold JC;rw[XI .b,aaC]
  rw[e];exact au (fE ax .B af) rfl
theorem Li{q:Int}(a:aO q=Á):∀(ps:List Int) (x:Int),(∀p∈ps,aO p=Á)->x≠0->q∣x->q∈ps\/q∣lf ps x
 |[],x,_,_,h=>.inr h
 |p::ps,x,hp,b,h=>by
  have pp:=hp p (Xo ..);have p2:=aq pp;obtain⟨_,g,_⟩:=e9 p2 b;by_cases e:q=p
  .exact .inl (by rw[e];exact Xo ..)
  have d:q∣(aV x p).2:=by
   rw[g] at h;rcases euclid a h with z|z
   .exact z
   .exfalso
    have key:∀n:Nat,q∣p^n->q=p:=λn=>by
     induction n with
     |zero=>intro z;rw[X1] at z;have:=Xt .a z;have:=aq a;lia
     |succ n f =>
      intro z;rw[XE] at z;rcases euclid a z with z|z
      .exact f z
      .exact bC a pp z
    exact e (key _ z)
  rcases Li a ps _ (λr c=>hp r (Xj _ c)) (Gq p2 b) d with z|z
  .exact .inl (Xj _ z)
  .exact .inr z
def NV{n:Int}(b:n≠0)(h:JC n=Á):xQ n:=by
 unfold JC at h;obtain⟨h1,h2⟩:=YG.mp h;refine#[Xq h1,b,λq a c=>?_];rcases Li a SP (n.natAbs:Int) wZ .e (Y1.mpr c) with z|z
 .exact z
 .rw[Xq h2] at z;have:=Xt .a z;have:=aq a;omega
def G3(n:Int)(r:List Int):Prop:=r.length=n.toNat/\∀x∈r,xQ x
def Oy(c:Int){n:Int}:G3 n (Ib c n):=#[vU _ _,λx a=>(vQ _ _ x a).1]
def G3.set{n:Int}{r:List Int}{i:Nat}{x:Int}(h:G3 n r)(a:xQ x):G3 n (r.set i x):=#[by rw[Yr];exact h.1,λy b=>by
 rcases abW b with z|z
 .exact h.2 y z
 .rwa[z]]
abbrev WZ(P w K mg base):=aH P w K mg base 1 "_law_is_small" ["_law_number"] (cH K (λn=>n≠0) Á JC)
abbrev WY(P w K mg base):=aH P w K mg base 2 "_law_row" ["_law_cell","_law_size"] (cM K (fun(_ n:Int)=>0<=n/\n<=8) Á Ib)
def vV(y:⇑WY)(q:⇑WZ)(cell other n:Int)(h1:1<=n)(m:n<=8):⇑Body mX "_law_solved" jr f 2 [.val Â cell,.val Â other,.val Â n] (ug Á (G3 n)):=by
 intro v A outer s H E j;refine pU 3 cD.nd (yq y (j.mono .a) rfl .A .C #[.e,m]) ?_;refine yB 3 Á rfl ?_;have e:=Oy cell (n:=n);have u:∀x∈Ib cell n,x.natAbs<=4324320:=λx r=>(vQ _ _ x r).2;have p:(Ib cell n).length=n.toNat:=e.1;generalize Ib cell n=row at *;have z:=cY (a:=other) (b:=n) .e;refine ao 4 cD.nd (aR .B .C .e) ?_;generalize other.fmod n=pl at *;refine ao 5 cD.nd af ?_;refine eI (n:=n) (λi U=>∃t c g,U=[À (.val Â cell),À (.val Â other),À (.val Â n),À (.own Á row),À (.val Á pl),À (.val Á (t:Int)),c,g]) rfl B.range (cV 6 cD.nd) .C .e .e #[_,none,none,rfl] ?_ ?_
 .rintro i U' hi ⟨t,c,g,rfl⟩;have o:i<row.length:=by rw[p];omega
  have ha:=my (d:=0) (xs:=row) (k:=(i:Int)) .e .e;have D:=u _ (Q.getD_mem (d:=0) (l:=row) (i:=(i:Int).toNat) .e);refine aF (av gD (ae 6) (ae 4)) (λ_=>?_) (λ_=>aK #[_,_,_,rfl]);have C:=cY (a:=(other.fdiv 8).fdiv (5+(i:Int))) (b:=4) .a;refine ao 7 cD.nd (aR (a8 (a8 .B af vn) (bQ af (ae 6)) (Sm.div (n:=20) (by unfold Sm;omega) .e)) af .a) ?_;refine ao 5 cD.nd (bQ (ae 5) (aE (aE (Lj 3 rfl (ae 6) ha) (ae 7) (mulR .e .e)) (ae 7) (mulR .e .e))) ?_;exact aK (aK #[_,_,_,rfl])
 .rintro U' ⟨t,c,g,rfl⟩;refine aF (TW.t (kX (av gD (ae 5) af) λh=>(jt (eT (aD q (j.mono .a) rfl (eO af (ae 5)) ?_))))) (λh=>?_) (λ_=>?_)
  .have:¬t=0:=by simpa using h
   omega
  .obtain⟨c1,c2⟩:=YG.mp h;have F:¬t=0:=by simpa using c1
   refine A4 3 rfl (ae 4) (eO af (ae 5)) .e .e (aK ?_);refine dt 3 rfl ?_;exact au .D #[_,e.set (NV .e c2),rfl]
  .refine dt 3 rfl ?_;exact au .D #[_,e,rfl]
abbrev W0(P w K mg base):=aH P w K mg base 3 "_law_solved" ["_law_cell","_law_other","_law_size"] (Dx K (fun(_ _ n:Int)=>1<=n/\n<=8) Á (λ_ _ n r=>G3 n r))
def yk(I:⇑WY)(J:⇑W0)(cell other n:Int)(h1:1<=n)(p:n<=8):⇑Body kQ "_law_drawn" iw f 3 [.val Â cell,.val Â other,.val Â n] (ug Á (G3 n)):=by
 intro G A outer s H E q;refine pU 3 fg.nd (yq I (q.mono .a) rfl (a8 .A af vn) .C #[.e,p]) ?_;refine yB 3 Á rfl ?_;have g:=Oy (cell.fdiv 4) (n:=n);have u:(Ib (cell.fdiv 4) n).length=n.toNat:=g.1;generalize Ib (cell.fdiv 4) n=row at *;refine aF (av ax (aR .A af .a) af) (λc=>?_) (λ_=>?_)
 .have t:cell.fmod 4=0:=Xq c;refine dt 3 rfl ?_;refine fR 3 fg.nd (sW J (q.mono .a) rfl (a8 .A af vn) .B .C #[h1,p]) λr j=>aK ?_;refine aF (av ax (aR .A af .a) af) (λc=>absurd (Xq c) .e) (λ_=>?_);refine aF (av ax (aR .A af .a) af) (λc=>absurd (Xq c) .e) (λ_=>?_);exact au .D #[_,j,rfl]
 .refine aF (av ax (aR .A af .a) af) (λc=>?_) (λ_=>?_)
  .have t:cell.fmod 4=1:=Xq c;have L:=cY (a:=cell.fdiv 4) (b:=2) .a;refine ao 4 fg.nd (eO af (aE af (aR (a8 .A af vn) af .a) (mulL .a .a))) ?_;have h:1-2*(cell.fdiv 4).fmod 2=1\/1-2*(cell.fdiv 4).fmod 2=-1:=by omega
   generalize 1-2*(cell.fdiv 4).fmod 2=sg at *;refine dt 3 rfl ?_;refine ua 3 fg.nd (b':=Á) (f:=λx:Int=>sg*(x.natAbs:Int)) ["_law_number"] [4] (bG (ag iw) kQ rfl rfl .d) (bc .D) (a_ 0) (λC s H fp=>cL 0 ["_law_number","_law_sign"]) aX (λi a ha C s H fp=>aE .B (cE (iH rfl B.abs .A) (oE a)) (mulL .e .e)) .e (aK ?_);refine aF (av ax (aR .A af .a) af) (λc=>absurd (Xq c) .e) (λ_=>?_);refine au .D #[_,#[by rwa[Xk],λx v=>?_],rfl];obtain⟨y,F,rfl⟩:=Xs.mp v;have m:=g.2 y F;have o:=m.neg;rw[Int.zero_sub] at o;rcases abd 0 y with z|z
   .rcases h with sg|sg<;>subst sg
    .rwa[Yb,ţ z]
    .rwa[ϔ,ţ z]
   .have e:(y.natAbs:Int)=-y:=by omega
    rw[e];rcases h with sg|sg<;>subst sg
    .rwa[Yb]
    .rwa[ϔ,Int.neg_neg]
  .refine aF (av ax (aR .A af .a) af) (λ_=>?_) (λ_=>?_)
   .have α:=cY (a:=other) (b:=n) .e;have L:=cY (a:=other+1) (b:=n) .e;have ha:=my (d:=0) (xs:=row) (k:=(other+1).fmod n) .e .e;have D:row.getD ((other+1).fmod n).toNat 0∈row:=Q.getD_mem (d:=0) (l:=row) (i:=((other+1).fmod n).toNat) .e;refine A4 3 rfl (aR .B .C .e) (eO af (Lj 3 rfl (aR (bQ .B af) .C .e) ha)) .e .e (aK ?_);refine dt 3 rfl ?_;exact au .D #[_,g.set (g.2 _ D).neg,rfl]
   .refine dt 3 rfl ?_;exact au .D #[_,g,rfl]
def MV(h2:2<=d)(f:d∣x)(b:d*d<=x):aO x=Â:=by
 cases hp:aO x with
 |false=>rfl
 |true =>
  have h:2*2<=d*d:=X_ h2 h2 .a .b;rcases Q.bP.mp hp with z|⟨_,g,z⟩
  .lia
  .obtain⟨c,a⟩:=f
   have od:d%2=1:=by
    rcases Y4 d with e|e
    .obtain⟨i,he⟩:=Xu e;rw[he,XT] at a;lia
    .exact e
   exact absurd #[c,a] (z d .b b od)
def J9(h2:2<=x)(f:x<d*d)(g:2<=d)(a:∀e:Int,2<=e->e<d->¬e∣x):aO x=Á:=by
 rw[bP];by_cases e2:x=2
 .exact .inl e2
 .by_cases c:d=2
  .subst c;exact .inr #[.b,.b,λe h1 h2 b=>by have:3*3<=e*e:=X_ h1 h1 .a .b;lia]
  .refine .inr #[.b,?_,λe h1 h2 b=>a e .b (yG .b .b .b)];have:=a 2 .a .b;lia
def x9(x:Int)(l:x<2^62):⇑Body qA "_law_prime" kg f kk [.val Â x] (RT Á (aO x)):=by
 intro h A outer s H E k;refine aF (av gi .A af) (λa=>?_) (λa=>?_)
 .have b:x<2:=Xq a
  have e:aO x=Â:=by
   cases hp:aO x with
   |false=>rfl
   |true=>have:=aq hp;lia
  rw[e];exact au j4 rfl
 have h2:¬x<2:=XM a;refine ao 1 ju.nd af ?_;refine cz (ι:=Int) (λd U=>U=[À (.val Â x),À (.val Á d)]/\2<=d/\d<=x+1/\∀e:Int,2<=e->e<d->¬e∣x) (λd=>(x+3-d).toNat) 2 #[rfl,.a,.b,λe h1 h2=>by lia] ?_;rintro d U' ⟨rfl,c,dx,g⟩;refine#[_,av HP (aE .B .B (mulL .b .b)) .A,λa=>?_,λa=>?_]
 .have b:d*d<=x:=Xq a
  have j:d<=x:=by
   have:2*d<=d*d:=X_ c (Yi d) .b .b;lia
  refine aF (av ax (aR .A .B .b) af) (λa=>?_) (λa=>?_)
  .rw[MV c (Q.g7.mp (Xq a)) b];exact au j4 rfl
  .have i:¬d∣x:=λz=>absurd (Q.g7.mpr z) (XM a);refine ao 1 ju.nd (bQ .B af) ?_;refine aK #[d+1,#[rfl,.b,.b,λe h1 h2=>?_],.b];by_cases z:e=d
   .rwa[z]
   .exact g e h1 .b
 .have b:¬d*d<=x:=XM a;rw[J9 .b .b c g];exact au j4 rfl
def yT(b:⇑aH 1 "_law_prime" ["_law_k"] (cH K (λk=>k<2^62) Á aO))(p:Int)(h1:p<2^62)(h:p=0\/aO p=Á):⇑Body p9 "_law_place" kH f 1 [.val Â p] (RT Á Á):=by
 intro a A outer s H E c;refine au (qq (Av (i:=p) rfl B.isinstance rfl B.int .A) λ_=>(qq (Hm (AD (i:=p) rfl B.isinstance rfl B.bool .A)) λ_=>(jX (DU (fE ax .A af) λ_=>(jX (aD b (c.mono .a) rfl .A h1)))))) ?_;show Bd.val _ _=Bd.val _ _;congr 1;rcases h with rfl|h
 .rfl
 .rw[h];simp
def HU(l:List Int):Prop:=1<=l.length/\l.length<=8/\∀a∈l,xQ a
def Mr(e:∀a∈l,xQ a)(h1:1<=l.length)(r:bW l=Á)(h:zP l (À p)):p=0\/(aO p=Á/\p<2^31):=by
 obtain⟨c,h2⟩:=id h;rcases h2 with h2|⟨hp,hz,v⟩
 .exact .inl h2
 .refine .inr #[hp,?_];have p2:=aq hp;apply Xf;intro A;by_cases d:3<=l.length
  .have:bN l p=Á:=om hp .b d λa ha j=>by
    have:=cK r ha;have:=Xt (b:=(a.natAbs:Int)) .b (Y1.mpr j);lia
   rw[this] at c;cases c
  .by_cases h2:l.length=2
   .obtain⟨a,b,rfl⟩:=ln2 h2;obtain⟨_,t,f,D,_,g,_⟩:=(e a .c).ok;obtain⟨_,u,i,C,_,k,_⟩:=(e b .c).ok;rcases AL g k hz (sP f i .b .b t u hz) with⟨w,_⟩|⟨q,w,z,B,_⟩
    .have e1:=fQ h;have e2:=fQ w;rw[<-e1] at e2;cases e2
    .have e1:=fQ h;have e2:=fQ w;rw[<-e1] at e2;cases e2;lia
   .match l,h1,h2,d,hz with
    |[a],_,_,_,hz =>
     rw[a7] at hz;obtain⟨⟨x,n,s⟩,⟨y,o,m⟩⟩:=hz;rw[Xv.mp n] at s;rw[Xv.mp o] at m;lia
    |_::_::_::_,_,_,d,_=>exact d (acp 3 _)
theorem KS(l z:List Int):∀n:Nat,zt l z n=zQ l z n
 |0=>rfl
 |n+1=>by
  show zt l z n+l.getD n 0*z.getD n 0*z.getD n 0=zQ l z n+l.getD n 0*(z.getD n 0*z.getD n 0);rw[KS l z n,XT]
theorem Ec(z:List Int):∀n:Nat,n<=z.length->zp z n=jf (z.take n)
 |0,_=>rfl
 |n+1,h=>by
  have e:z[n]?=À (z.getD n 0):=by rw[Xh,Xn .b];rfl
  rw[zc e,<-Ec z n .b];rfl
def ZW.is(h:ZW l z):Pu l z=Á:=by
 unfold Pu;have a:=h.len;rw[KS,h.eq,<-a,Ec z _ (Xm _),YB,h.one];rfl
abbrev W5(P w K mg base):=aH P w K mg base 3 "_law_bars" ["_law_row_here","_law_p"] (cM K Qu Á HX)
abbrev W4(P w K mg base):=aH P w K mg base 2 "_law_place" ["_law_p"] (cH K (λp=>p<2^62/\(p=0\/aO p=Á)) Á (λ_=>Á))
abbrev W3(P w K mg base):=aH P w K mg base 2 "_law_is_zero" ["_law_row_here","_law_zero"] (cM K QG Á Pu)
abbrev W2(P w K mg base):=aH P w K mg base 142 "zero_of" ["row"] (eF K (λl=>bW l=Á/\Lv PA l) Á ZO)
def zZ(q:⇑W2)(D:⇑WI)(o:⇑W3)(F:⇑W4)(y:⇑W5)(row:List Int)(hp:HU row):⇑Body sO "_law_held" mx f 142 [.val Â row] (RT Á Á):=by
 intro C A outer s H E c;have n:=hp.1;have l:=hp.2.1;obtain⟨g,hz⟩:=Cv n l hp.2.2;have r:∀{zs:List Int},ZW row zs->QG row zs:=λd=>#[d.len,.b,λv j=>((xc g v j).2).le .a,λv j=>(d.sm v j).le .a];refine ao 1 gf.nd (IV rfl B.list .A) ?_;refine IG 2 gf.nd (Dz q (c.mono .a) rfl .B #[g,hz]) λz e=>?_;refine aF (av (Pa (M:=List Int) (AI c)) .B .A) (λb=>?_) (λ_=>?_)
 .simp at b
 rcases e with⟨m,rfl⟩|⟨m,zs,rfl,d⟩
 .refine aF (nE 2 rfl (TW.t (kX (c':=Â) (qP (M:=List Int) (x:=none) .C λ_ _ _ _=>oO) λh=>nomatch h))) (λb=>nomatch b) (λ_=>?_);refine aF (nE 2 rfl (qP (M:=List Int) (x:=none) .C λ_ _ _ _=>oO)) (λb=>nomatch b) (λ_=>?_);refine ao 3 gf.nd (aD D (c.mono .a) rfl .B hz.fb) ?_;have ok:=xG row;cases u:iU row with
  |none=>exact absurd u m
  |some p =>
   rw[u] at ok;have k:=Mr hp.2.2 n g ok
   have i:p<2^62:=by
    rcases k with h|h
    .rw[h];decide
    .lia
   refine au (qq (aD F (c.mono .a) rfl (c_ (a:=p) .D) #[i,k.imp id And.left]) λ_=>(jX (aA y (c.mono .a) rfl .A (c_ (a:=p) .D) #[.b,xc g,k]))) ?_;show Bd.val _ _=Bd.val _ _;unfold HX;rw[ok.1];rfl
 .refine aF (nE 2 rfl (TW.t (kX (qP (M:=List Int) (x:=À zs) .C λ_ _ _ _=>oO) λ_=>jt (av gi (bj rfl B.len .A) af)))) (λ_=>?_) (λ_=>?_)
  .refine IT 2 rfl ?_;refine fR 2 gf.nd (bV q (c.mono .a) rfl .B #[g,hz]) λz e=>?_;rcases e with⟨h,_⟩|⟨_,zs,rfl,d⟩
   .exact absurd m h
   refine aK ?_;refine aF (qP (M:=List Int) (x:=À zs) .C λ_ _ _ _=>oO) (λ_=>?_) (λb=>nomatch b);refine au (aA o (c.mono .a) rfl .A (c_ (a:=zs) .C) (r d)) ?_;show Bd.val _ _=Bd.val _ _;rw[d.is]
  .refine aF (nE 2 rfl (qP (M:=List Int) (x:=À zs) .C λ_ _ _ _=>oO)) (λ_=>?_) (λb=>nomatch b);refine au (DS 2 rfl (aA o (c.mono .a) rfl .A (c_ (a:=zs) .C) (r d))) ?_;show Bd.val _ _=Bd.val _ _;rw[d.is]
include B in
theorem AK(l:⇑W2)(r:⇑W5)(n:⇑aH 143 "_law_held" ["_law_row_here"] (cH K HU Á (λ_=>Á)))(row:List Int)(hp:HU row):⇑Body mw "_law_both" jz f 143 [.val Â row] (RT Á Á):=by
 intro j A outer s H E a;obtain⟨g,hz⟩:=Cv hp.1 hp.2.1 hp.2.2;have u:=hp.1;have t:=hp.2.1
 have pl:∀p∈([0,2,3,5,7,11,13]:List Int),p=0\/(aO p=Á/\p<2^31):=λp hp=>by
  rcases Xa.mp hp with z|z
  .exact .inl z
  .exact .inr #[fI p z,by simp only[Xa,Xe,XA] at z;lia]
 have m:∀p∈([0,2,3,5,7,11,13]:List Int),Qu row p:=λp hp=>#[.b,xc g,pl p hp];refine aF (j0 (eT (aD n (a.mono .a) rfl .A hp))) (λc=>nomatch c) (λ_=>?_);refine iF (as:=[0,2,3,5,7,11,13]) (f:=λq:Int=>q) (p:=λq=>HX row q) (b':=Á) 1 qr.nd ["_law_p"] [0] (bG (ag jz) mw rfl rfl .d) (bc (c8 (ay af (ay af (ay af (ay af (ay af (ay af (ay af bF))))))) (X6 rfl))) (a_ 0) (λC s H fp=>cL 0 ["_law_p","_law_row_here"]) aX (λi q hi C s H fp=>kL (eT (aA r (a.mono .a) rfl .B .A (m q (Xg hi))))) (λi q hi _ C s H fp=>gZ (b':=Á) .A) .a ?_;rw[aca];refine au (DU (fE (Kz (M:=List Int) (AI a)) .B (c8 (b:=Á) bF .a)) λc=>(jX (Lg (x:=none) (F4 (bV l (a.mono .a) rfl .A #[g,hz]) λz h=>?_) λ_ _ _ _=>oO))) ?_
 .rcases h with⟨_,e⟩|⟨k,_⟩
  .exact e
  .exfalso;have d:=mO k
   have:(([0,2,3,5,7,11,13]:List Int).filter λq=>HX row q)=[]:=acv.mpr λq o=>by
    unfold HX;rcases pl q o with z|z
    .rw[z,d.1];decide
    .rw[d.2 q z.1];decide
   rw[this] at c;cases c
 .show Bd.val _ _=Bd.val _ _;rw[Option.isNone_none,abf]
def HU.of{n:Int}{r:List Int}(h:G3 n r)(h1:1<=n)(a:n<=8):HU r:=#[by have:=h.1;lia,by have:=h.1;lia,h.2]
abbrev W8(P w K mg base):=aH P w K mg base 4 "_law_drawn" ["_law_cell","_law_other","_law_size"] (Dx K (fun(_ _ n:Int)=>1<=n/\n<=8) Á (λ_ _ n r=>G3 n r))
abbrev W7(P w K mg base):=aH P w K mg base 1 "_law_big" ["_law_cell","_law_k"] (cM K (λ_ k=>0<=k/\k<=100) Á NF)
abbrev W6(P w K mg base):=aH P w K mg base 1 "_law_cell_at" ["_law_script","_law_k"] (cM K (λ_ k=>0<=k) Á p6)
def OA(i:⇑W6)(p:⇑W7)(l:⇑W8)(m:⇑aH 144 "_law_both" ["_law_row_here"] (cH K HU Á (λ_=>Á)))(xs:List Int)(q:xs.length<=63):
  Body P w K mg base Eu "law" BB f 144 [.val Â xs] (RT Á Á):=by
 intro n A outer s H E d;refine ao 1 Ba.nd (bQ af (aR (aA i (d.mono .a) rfl .A af .a) af .a)) ?_;have f8:=cY (a:=p6 xs 0) (b:=8) .a;refine ua 2 Ba.nd (b':=Á) (f:=λk:Int=>NF (p6 xs k) k) ["_law_k"] [0] (bG (ag BB) Eu rfl rfl .d) (zk rfl B.range af .a .a) (a_ 0) (λC s H fp=>cL 0 ["_law_k","_law_script"]) aX (λj a ha C s H fp=>?_) .a ?_
 .have t:0<=a/\a<4:=by
   have:=Xg ha;simp[kG] at this;lia
  exact aA p (d.mono .a) rfl (aA i (d.mono .a) rfl .B .A .b) .A #[.b,.b]
 obtain⟨c0,c1,c2,c3,g⟩:∃c0 c1 c2 c3,(kG 0 1 (4:Int).toNat).map (λk:Int=>NF (p6 xs k) k)=[c0,c1,c2,c3]:=#[_,_,_,_,rfl];rw[g];have u:=cY (a:=c0.fdiv 8) (b:=2) .a;refine aF (j0 (eT (c:=Á) (F4 (BL m (d.mono .a) rfl (sW l (d.mono .a) rfl (aT (a:=c1) .C af rfl) (aT (a:=c2) .C af rfl) .B #[.b,.b]) λr h=>HU.of h .b .b) λz h=>?_))) (λo=>nomatch o) (λ_=>?_)
 .obtain⟨_,_,e⟩:=h;exact e
 .refine au (F4 (BL m (d.mono .a) rfl (sW l (d.mono .a) rfl (aT (a:=c3) .C af rfl) (aT (a:=c2) .C af rfl) (bQ af (aR (a8 (aT (a:=c0) .C af rfl) af vn) af .a)) #[.b,.b]) λr h=>HU.of h .b .b) λz h=>?_) rfl;obtain⟨_,_,e⟩:=h;exact e
end
open PySem PySem.Spec PyProof.Rows
open Q (Fr)
open Q (Fr)
open Q (Fr)
def fin{e:Ð}{w:Ú}{K:Ã}{h:ß}{mg:Ï->Option Ä}{J:Ç}(X:K.In h)(G:h.Ns Ì mg)(C:mg "law"=À (.ref J))(B:Bu mg)
  (Tf:uB mg "GREAT_PRIMES_FROM" 32768) (D:uB mg "GREAT_FROM" 1073741824) (Uc:uB mg "LONGEST" 8) (o:xP K mg "SMALL_PLACES" [0,2,3,5,7,11,13]) (TM:xP K mg "AT_NOUGHT" [1,-1]) (Ul:xP K mg "AT_TWO" [1,3,5,7,2,6,10,14]) (Uo:uB mg "ENOUGH" 5) (VQ:Df K "is_whole" lY) (VR:Df K "power_by" mD) (VD:Df K "taken_out" kJ) (Vo:Df K "square_root" iK) (Uz:Df K "square_root_or_none" dh) (UX:Df K "common_divisor" fH) (VS:Df K "fraction" gU) (Vj:Df K "next_divisor" g8) (VT:Df K "is_prime" l4) (V1:Df K "divided" o8) (V_:Df K "parts" xh) (Vv:Df K "tame_parts" jK) (Wa:Df K "power" vX) (Wb:Df K "freed" vL) (VE:Df K "square_by" k6) (V2:Df K "back_by" pT) (UR:Df K "least_no_square" fw) (VF:Df K "squarings" k_) (UY:Df K "root_of_square" fW) (U5:Df K "root_by_prime" gF) (Vw:Df K "with_rests" jx) (V3:Df K "root_by" oN) (U6:Df K "class_at" jv) (VU:Df K "two_says" lV) (VV:Df K "odd_says" mj) (We:Df K "says" AZ) (VG:Df K "primes_of" kP) (U7:Df K "is_row_number" gA) (V8:Df K "is_row" mI) (U8:Df K "refuse_no_row" gp) (Vk:Df K "is_square_at" h_) (US:Df K "three_have_zero" eR) (UZ:Df K "four_have_zero" fS) (VH:Df K "have_zero" kr) (UT:Df K "without_divisor" dk) (Vx:Df K "next_prime" jD) (UA:Df K "first_prime_without" dg) (U9:Df K "first_barring" d_) (U_:Df K "first_without" gH) (Va:Df K "freed_product" gC) (Vp:Df K "from_lesser" iP) (Vb:Df K "least_root_by" gu) (Vc:Df K "square_of_two" dZ) (Vd:Df K "zero_of_three" gG) (UO:Df K "class_of_product" eJ) (UJ:Df K "small_free_numbers" cc) (Vy:Df K "classes_of" gO) (U0:Df K "wishes_without" dQ) (VI:Df K "are_among" kj) (Vl:Df K "number_among" fA) (Vz:Df K "samples_at" jw) (U1:Df K "shared_classes" dO) (V4:Df K "meeting" lx) (t:Df K "zero_of_free" dA) (x:Df K "zero_by_meeting" bf) (Wf:Df K "over" A0) (Ve:Df K "common_bottom" gq) (UU:Df K "over_one_bottom" dj) (VA:Df K "made_whole" jG) (Vq:Df K "five_places" df) (UK:Df K "zero_of_five_among" cg) (Vr:Df K "zero_of_two" iO) (VW:Df K "is_small" lX) (Vf:Df K "zero_of_small" cb) (Vm:Df K "refuse_great" fc) (V5:Df K "zero_of" pS) (Vs:Df K "_law_cell_at" iQ) (V6:Df K "_law_big" o7) (VB:Df K "_law_common" jJ) (Vt:Df K "_law_is_zero" iM) (VJ:Df K "_law_power" kR) (VX:Df K "_law_less" me) (VL:Df K "_law_alone" k7) (U2:Df K "_law_by_sixteen" fM) (VY:Df K "_law_bars" fP) (VM:Df K "_law_small" kZ) (V7:Df K "_law_row" pE) (Vn:Df K "_law_is_small" ib) (VC:Df K "_law_solved" jr) (VN:Df K "_law_drawn" iw) (VO:Df K "_law_prime" kg) (VP:Df K "_law_place" kH) (VZ:Df K "_law_held" mx) (V0:Df K "_law_both" jz) (Wg:Df K "law" BB):
  ∃fd:ð,(∀(s:Æ) (u:Ä),Į s fd #[[u],[]] [("_law_script",u)])/\∀base:ß,K.In base->base.Ns Ì mg->fU e w K mg base pd 145 J fd ["_law_script"] (yj K):=by
 refine Jf Wg X G C (λ_ _ _ _ _ _ s u=>.of_eq rfl) λbase _ _ f fd F=>?_;have UD:Wv e w K mg base:=VQ.c1 X G λf fd F=>mS F zh rfl λa _=>AS B a;have R:Wo e w K mg base:=VR.c3 X G λf fd F=>K_ F cP rfl λa b c hp=>Bj a b c hp.1 hp.2.1 hp.2.2;have g:Wk e w K mg base:=VD.c2 X G λf fd F=>mH F eQ rfl λa b hp=>za a b hp.1 hp.2.1 hp.2.2;have I:Wh e w K mg base:=Vo.c1 X G λf fd F=>mS F gR rfl λa hp=>uk a hp.1 hp.2;have l:Wm e w K mg base:=Uz.c1 X G λf fd F=>mS F ff rfl λa hp=>j6 I a hp;have y:Wi e w K mg base:=UX.c2 X G λf fd F=>mH F di rfl λa c _=>o9 B a c;have P:Wn e w K mg base:=VS.c2 X G λf fd F=>mH F kY rfl λa c hp=>Am y a c hp.1 hp.2;have V:Wj e w K mg base:=Vj.c3 X G λf fd F=>K_ F jS rfl λa b c hp=>sD B I a b c hp;have UE:aH e w K mg base 3 "is_prime" ["k"] (cH K (λk=>k<2^62) Á aO):=VT.c1 X G λf fd F=>mS F yc rfl λa hp=>zR V a hp;have T1:Wl e w K mg base:=V1.c2 X G λf fd F=>mH F dy rfl λa c hp=>Dl g V a c hp;have Uh:Ws e w K mg base:=V_.c1 X G λf fd F=>mS F rZ rfl λa hp=>Ki T1 a hp;have Ui:aH e w K mg base 4 "tame_parts" ["k"] (cH K (λk=>1<=k/\Sm 900 k) Á Np):=Vv.c1 X G λf fd F=>mS F iN rfl λa hp=>xw Tf D T1 l a hp;have Vh:aH e w K mg base 1 "power" ["base","exponent"] (cM K Rk Á QC):=Wa.c2 X G λf fd F=>mH F nV rfl λa c hp=>Ik B a c hp;have To:WG e w K mg base:=Wb.c1 X G λf fd F=>mS F g6 rfl λa hp=>Ke B Vh P Ui a hp;have j:Wq e w K mg base:=VE.c2 X G λf fd F=>mH F nv rfl λa b hp=>yb R a b hp.1 hp.2;have UL:aH e w K mg base 1 "back_by" ["k","m"] (cM K Sa Á vh):=V2.c2 X G λf fd F=>mH F bT rfl λa c hp=>DQ a c hp.1 hp.2.1 hp.2.2;have Γ:Wr e w K mg base:=UR.c1 X G λf fd F=>mS F eG rfl λa hp=>nN j a hp.1 hp.2;have Us:aH e w K mg base 1 "squarings" ["k","p"] (cM K RA Á jC):=VF.c2 X G λf fd F=>mH F gK rfl λa c hp=>ye a c hp;have TU:aH e w K mg base 4 "root_of_square" ["k","p"] (cM K Q5 Á HR):=UY.c2 X G λf fd F=>mH F aL rfl λa c hp=>pB B g R Γ Us a c hp;have T3:aH e w K mg base 5 "root_by_prime" ["k","p"] (cM K RU Á xi):=U5.c2 X G λf fd F=>mH F i9 rfl λa c hp=>qT j TU a c hp;have Uj:aH e w K mg base 2 "with_rests" ["one","m","other","p"] (HY K RP Á zF):=Vw.c4 X G λf fd F=>Ry F uE rfl λa b c d hp=>xa UL a b c d hp;have UM:aH e w K mg base 6 "root_by" ["k","m"] (cM K (λ_ m=>1<=m/\m<2^60) Á ET):=V3.c2 X G λf fd F=>mH F eB rfl λa c hp=>DZ Uh T3 Uj a c hp.1 hp.2;have σ:Wt e w K mg base:=U6.c2 X G λf fd F=>mH F eP rfl λa b hp=>AE g j a b hp.1 hp.2.1 hp.2.2;have z:WJ e w K mg base:=U6.c2 X G λf fd F=>mH F eP rfl λa b hp=>zb g j a b hp.1 hp.2;have UB:aH e w K mg base 1 "two_says" ["one","other"] (cM K (λ_ _=>True) Á fB):=VU.c2 X G λf fd F=>mH F gg rfl λa b _=>As a b;have UC:Wu e w K mg base:=VV.c3 X G λf fd F=>K_ F gb rfl λa b c hp=>Ai j a b c hp;have Vu:Wy e w K mg base:=We.c3 X G λf fd F=>K_ F xm rfl λa b c hp=>M_ σ UB UC a b c hp.1 hp.2.1 hp.2.2;have S:WD e w K mg base:=VG.c1 X G λf fd F=>mS F gP rfl λns hp=>yD B Uh ns hp;have Th:Ww e w K mg base:=U7.c1 X G λf fd F=>mS F oK rfl λa _=>qS B D UD a;have UW:Wx e w K mg base:=V8.c1 X G λf fd F=>mS F C0 rfl λa hp=>GC B Uc Th a hp;have q:WE e w K mg base:=U8.c1 X G λf fd F=>PU F pX rfl λa hp=>qR UW a hp;have Z:Wz e w K mg base:=Vk.c2 X G λf fd F=>mH F qV rfl λa b hp=>sT σ a b hp;have L:WA e w K mg base:=US.c4 X G λf fd F=>Ry F mi rfl λa b c d hp=>nU Vu a b c d hp;have TV:aH e w K mg base 6 "four_have_zero" ["numbers","p"] (cM K Q0 Á bN):=UZ.c2 X G λf fd F=>mH F iu rfl λa b hp=>oS Z L a b hp;have E:WC e w K mg base:=VH.c2 X G λf fd F=>mH F vM rfl λa b hp=>yW B Z L TV a b hp;have r:WH e w K mg base:=UT.c1 X G λf fd F=>mS F cW rfl λa hp=>nL y a hp;have Ts:WB e w K mg base:=Vx.c1 X G λf fd F=>mS F iR rfl λa hp=>wR UE a hp.1 hp.2;have Tt:aH e w K mg base 8 "first_prime_without" ["row"] (cH K Rg Á iU):=UA.c1 X G λf fd F=>mS F cU rfl λa hp=>j7 l Ts E a hp;have N:aH e w K mg base 9 "first_barring" ["numbers"] (cH K Ic Á iU):=U9.c1 X G λf fd F=>mS F iW rfl λa hp=>qO B S E Tt a hp;have T:WI e w K mg base:=U_.c1 X G λf fd F=>mS F pY rfl λa hp=>qK q N a hp;have Tz:aH e w K mg base 6 "freed_product" ["a","b"] (cM K Fs Á Oq):=Va.c2 X G λf fd F=>mH F i_ rfl λa c hp=>qD B D To a c hp;have Tp:aH e w K mg base 3 "from_lesser" ["a","lesser","root","zero"] (HY K Qy Á Qw):=Vp.c4 X G λf fd F=>Ry F gT rfl λa b c d hp=>uz r a b c d hp;have Ti:aH e w K mg base 7 "least_root_by" ["k","m"] (cM K QL Á F6):=Vb.c2 X G λf fd F=>mH F jj rfl λa c hp=>qF UM a c hp;have T4:aH e w K mg base 126 "square_of_two" ["a","b"] (s_ K (λa b=>HQ a b/\tI a b<118/\tI a b<118) Á MC):=qf B To Tp Ti Vc X G 118;have i:WQ e w K mg base:=Vd.c1 X G λf fd F=>qG F bL rfl λa hp=>qU q r T Tz T4 a hp;have TC:aH e w K mg base 1 "class_of_product" ["one","other","p"] (vg K RD Á lI):=UO.c3 X G λf fd F=>K_ F gJ rfl λa c d hp=>mz a c d hp;have Tu:WK e w K mg base:=UJ.c0 X G λf fd F=>QV F b9 rfl (ky B o);have Uk:WL e w K mg base:=Vy.c2 X G λf fd F=>mH F uD rfl λa c hp=>wj z a c hp.1 hp.2;have TX:WM e w K mg base:=U0.c3 X G λf fd F=>K_ F dm rfl λa c d hp=>ph B z TC a c d hp.1 hp.2.1 hp.2.2;have Ut:WN e w K mg base:=VI.c2 X G λf fd F=>mH F nQ rfl λa c _=>zx B a c;have T7:WO e w K mg base:=Vl.c2 X G λf fd F=>Jb F bR rfl λa c hp=>ud B o Ts Tu Uk TX Ut a c hp.1 hp.2.1 hp.2.2;have Um:aH e w K mg base 4 "samples_at" ["p"] (cH K Of Á jq):=Vz.c1 X G λf fd F=>mS F lR rfl λa hp=>vP B TM Ul Γ a hp;have TY:aH e w K mg base 8 "shared_classes" ["one","other","p"] (vg K R7 Á zI):=U1.c3 X G λf fd F=>K_ F oD rfl λa c d hp=>pP z Um E a c d hp;have A:WR e w K mg base:=V4.c2 X G λf fd F=>Jb F t6 rfl λa c hp=>C4 B o S TY T7 a c hp;have T5:aH e w K mg base 128 "zero_of_free" ["numbers"] (eF K Bm Á Z3):=t.c1 X G λf fd F=>qG F gj rfl λa hp=>qC B i a hp;have O:WS e w K mg base:=x.c1 X G λf fd F=>qG F aW rfl λa hp=>lZ B A i T5 a hp;have TB:aH e w K mg base 130 "zero_of_free" ["numbers"] (eF K Lc Á (zu 4100)):=t.c1 X G λf fd F=>qG F gj rfl λa hp=>qE B O a hp;have Tr:WT e w K mg base:=x.c1 X G λf fd F=>qG F aW rfl λa hp=>hW B A i TB a hp;have Wc:aH e w K mg base 3 "over" ["u","v"] (cM K NP Á OT):=Wf.c2 X G λf fd F=>mH F JP rfl λu v hp=>Jp P u v hp;have U3:aH e w K mg base 2 "common_bottom" ["numbers"] (cH K HW Á gN):=Ve.c1 X G λf fd F=>mS F dN rfl λus h=>pD y us h;have UP:aH e w K mg base 3 "over_one_bottom" ["numbers"] (cH K HW Á Ho):=UU.c1 X G λf fd F=>mS F hE rfl λus h=>lW U3 us h;have Up:aH e w K mg base 4 "made_whole" ["x"] (cH K Qc Á Oz):=VA.c1 X G λf fd F=>mS F uu rfl λus h=>wt r UP us h;have Tr:WT e w K mg base:=x.c1 X G λf fd F=>qG F aW rfl λa hp=>hW B A i TB a hp;have Ud:aH e w K mg base 1 "five_places" ["numbers"] (eF K QA Á Q7):=Vq.c1 X G λf fd F=>qG F dE rfl λa hp=>uw B Uo a hp;have Tv:aH e w K mg base 132 "zero_of_five_among" ["numbers"] (eF K RO Á ZF):=UK.c1 X G λf fd F=>qG F b8 rfl λa hp=>kx B Tr Ud a hp;have Ue:aH e w K mg base 5 "zero_of_two" ["row"] (eF K Rf Á (zu 62)):=Vr.c1 X G λf fd F=>qG F kI rfl λa hp=>uq l q r a hp;have Vg:aH e w K mg base 140 "zero_of_free" ["numbers"] (eF K PA Á ZF):=t.c1 X G λf fd F=>qG F gj rfl λa hp=>qL B Ue i O Tv a hp;have UG:aH e w K mg base 3 "is_small" ["k"] (cH K (fun(_:Int)=>True) Á nB):=VW.c1 X G λf fd F=>mS F iG rfl λa _=>Ac B o Th g l a;have T6:aH e w K mg base 141 "zero_of_small" ["numbers"] (eF K (Lv PA) Á ZO):=Vf.c1 X G λf fd F=>qG F fL rfl λa hp=>qH B To N Vg Wc Up a hp;have T8:WU e w K mg base:=Vm.c1 X G λf fd F=>PU F qN rfl λa hp=>sS B UG a hp.1 hp.2;have TH:W2 e w K mg base:=V5.c1 X G λf fd F=>qG F Be rfl λa hp=>Dk q T8 T6 a hp.1 hp.2;have TR:W6 e w K mg base:=Vs.c2 X G λf fd F=>mH F tj rfl λa c hp=>uA B a c hp;have UN:W7 e w K mg base:=V6.c2 X G λf fd F=>mH F fO rfl λa c hp=>Du B a c hp.1 hp.2;have Uq:WV e w K mg base:=VB.c2 X G λf fd F=>mH F fX rfl λa c _=>xA B a c;have TN:W3 e w K mg base:=Vt.c2 X G λf fd F=>mH F cJ rfl λa c hp=>uy B Uq a c hp;have Uu:WW e w K mg base:=VJ.c3 X G λf fd F=>K_ F ck rfl λa b c hp=>yw a b c hp.1 hp.2.1 hp.2.2;have UH:aH e w K mg base 1 "_law_less" ["_law_number","_law_p"] (cM K (λn p=>n≠0/\2<=p/\p<2^31) Á xO):=VX.c2 X G λf fd F=>mH F qy rfl λa c hp=>Bb a c hp.1 hp.2.1 hp.2.2;have Ua:aH e w K mg base 2 "_law_alone" ["_law_group","_law_p"] (cM K Rp Á QN):=VL.c2 X G λf fd F=>mH F xf rfl λa c hp=>zo B Uu a c hp;have TZ:WX e w K mg base:=U2.c1 X G λf fd F=>mS F ba rfl λa hp=>pG B a hp;have α:W5 e w K mg base:=VY.c2 X G λf fd F=>mH F iA rfl λa c hp=>Ao B UH Ua TZ a c hp;have Uv:aH e w K mg base 1 "_law_small" ["_law_cell"] (cH K (fun(_:Int)=>True) Á MG):=VM.c1 X G λf fd F=>mS F dI rfl λa _=>x8 B a;have H:WY e w K mg base:=V7.c2 X G λf fd F=>mH F eK rfl λa c hp=>C7 B Uv a c hp.1 hp.2;have T9:WZ e w K mg base:=Vn.c1 X G λf fd F=>mS F d9 rfl λa hp=>se B a hp;have Ur:W0 e w K mg base:=VC.c3 X G λf fd F=>OR F cD rfl λa c d hp=>vV B H T9 a c d hp.1 hp.2;have Ub:W8 e w K mg base:=VN.c3 X G λf fd F=>OR F fg rfl λa c d hp=>yk B H Ur a c d hp.1 hp.2;have Uw:aH e w K mg base 1 "_law_prime" ["_law_k"] (cH K (λk=>k<2^62) Á aO):=VO.c1 X G λf fd F=>mS F ju rfl λa hp=>x9 a hp;have Ux:W4 e w K mg base:=VP.c1 X G λf fd F=>mS F wg rfl λa hp=>yT B Uw a hp.1 hp.2;have UI:aH e w K mg base 143 "_law_held" ["_law_row_here"] (cH K HU Á (λ_=>Á)):=VZ.c1 X G λf fd F=>mS F gf rfl λa hp=>zZ B TH T TN Ux α a hp;have Ug:aH e w K mg base 144 "_law_both" ["_law_row_here"] (cH K HU Á (λ_=>Á)):=V0.c1 X G λf fd F=>mS F qr rfl λa hp=>AK B TH α UI a hp;exact mS F Ba rfl λa hp=>OA B TR UN Ub Ug a hp
end L2.EP.K
open Lean in
local macro_rules|`(#print $s:str)=>do
  let r:=s.getString.toList.toArray
  let f←(Array.range (r.size/10)).mapM fun i=>do
    let n:=mkIdent (.str `PySem.W.Fast s!"tw{(r.extract (10*i) (10*i+10)).foldl (fun n c=>n*89+"#$%&'()*+,.0123456789:;<=>?@ABCDEFGHIJKLMNOPQRSTUVWXYZ[]^_`abcdefghijklmnopqrstuvwxyz{|}~".toList.idxOf c) 0}")
    `(theorem $n:ident:True:=.intro)
  return mkNullNode f
#print "NsP1kd7$8QHkG[:T[oJR8$QJ=<c#6uXo6XEPw4{,*J8vf{eEAhO%EhS.=~iQ9CsaZ$$_nfD<*eWM'C~N(Rib(vX)j7D=w}{WaN].@|JP5V56fc.[cTa;BYqF%HT&f9)XcwUc'MbUq7rQ2G%GNsr?e=507h}Fzv)#GU6BiwL%0}S|4NQ'9v$?2XRy)%SZJJ@sb2UH2MgD;e^$R)]b2t7t})]oD)08IPSPcZBb;t=8p.O0PFe0CQ2XVO,&b&;a%_*la]]b7G(lrSz0aOGO5Hh(Vm1^<V:x75GhPl9eGx}@jeoe;Sq*Sv(rf|3$u7q3;0C_Bje}`;SYihCNw%J)*73xQ>aTpYLp#RXVoWvoQ2=,Jse4ckT9ia3(9S%JQ]A~N}8:nXlK{$8r|B?)|E9=(2a.Y>[kr{E_BrguHU&%>?_Q'SASY2WLun<3jg$n2WWW46VYd):{N.PIQif4<eb}`jCFf,N7rVJ_nnTvO%P9,b?7T(Q=@i5t]$dRJskS|g#R;4M7628{fa.ALa2%X<;%ikG_&+XpBtgYYJ[Fp]c+'<;X.X)JT8]4+:MPu14{O~EkqgX,:S0AVJ8<$v`P_Z>6kf.w}).95z>,>$s_<KQLJy2d6A_ZN|PQfIitwZ1Y:nBZrGYg9AIwUcal{7CC7,@Q^FTFTc&'ma'|B]1>g)r1y.^yW@_kG},i~g2UXU$2<HKH5(WjB44]B^:Y9^h{DgCaLKwQWRP][*W:nHVsYS?<TD5i7+NLZu34U?eDs@:x3mt_8wxuM174Xx(5q)[:DHR~4PX0j93xG~DCWFJR3V`klKc'5w6Uz{a<,$>}HSepYPiQtfSEcr_<iV06Tbmf$(Y#+0UHEn4RKqC8DVwo(xu#p%F(ieTvHXtRV?bR+usn~#D4=>cqYLarIH${o^neCK134t5kV&~pJGz$8+ay7KJs%O3NCs0e%8Xx1[9xU=Xw^vt9jJj*Rf=p?czULC4RQa^<oU|s@&slY6RV%TF};_n`cbw.+Ng@]|lK,WJiy#@d314`Gbyio}xclq3FzTXgeindF~c3.9prKP*rFB{B'_84>.7{cDgmQxC9J{|i)|2kOtYFu*6A`xIUCQox4ldIU`mlIIuuZoGls7*`no^%SVuepoTHms'VRjf6%Y(T9=&`u5P3#N#7ld%.nt}#S?lyvv(lY^FM*m*}dJe54lE;9Z7%Wj@32c.oRk(.MBL`7U@AW0C<&Q5D5A>~8.b%:{Hl^f0%j==i}Rhm)f,eb}BCMN#*KNrSQY*W2AKBzwV[g,Uy_{x5tFaEHkWa^`>]^gP8?X0BhMh}A367>X_iK_#^7_RG_n9'%b21oQ(9x#)_~JYK)7SH#=SW25MV'kUTfO9Nt{f=)(s,2KkX]jR3}g$j>Q<06FTOY+gV$;FvdI6B@@5CY%_l<O[Exy=g*,>Rdsg%,0k<S{f,$|398<X9gxa:2uFA}fL`=>Sr.k33$QWO>ZiS#w`Oa*M<y5p{S*<TC~Q;ZQJmN88QOUhOA[G$Gb2Nkd4_^gCx(D%a#SZ;T8<Aa[<Y<{#Dpe17_tx%+(m52|.r]FQQ~Qcb({[7$lfJL+T6?'B|#V9.NKb8PT]A^bQPlp+D2h,V|`WN#RGYp_d,eRUMQ#v}@4AoOvli1XQlpFNb1~r)Zl]}&4ys*,16}eU:,04{qADVXn_0t[46)ACUon})F@m;6S$)hh@*v~1:Z,<z{;oz?;?0M&O5rVK80*dPy&3=(;xstP}lK%9uDcW#Gsq50bbQee{_'JRa|3BsI~(lP?74BkPrHoL4~_.Rhghd8O1m`F*v^28`{Hc)%6&]92iyijs09Z.SEa<q4olsHb{8R:G{?tNU%{fQfvu]$7`k+%3IIVH9[S{^T;(f8kxwppA&tE<'fG>AQ*%CN]k~3A>bK$XeC2W.%{;I)gvU46sj@>8yp:I[6xJ@Fv]O#JRu3J:nWe9[eRi[7L{Pk)dkciJ|Hm&SitbNAADb{nfntv)_~Q+|RMs}Ms5q5x_X~2(rdHVPyWDZ1G4s+D'h^:S')6g7TAb*I.]hyM}yui:6HwlN3A[c*|_j^OO0`m3Rm~Mtpu|61gW=3i]O>aPT|g+a$7,QLVG.'3[U<bKKkN=7;e$7,^;6_G>Ix{7gz9?_e%lW@sb;cJC_nuM=9q$m|?%qNM)3+xD90t5m3npYo:E9RO=&6w_WOmEo:w@+&:wj8cjblDF}_OMrTstzkbvw5gf%{G5qlT0Ivpf4N.8#K<1}Ml20:j5;D{P[oTzB4yNO4_yr0L(=xOT<]r)k2uk>7OD90B2X|Y%Dq@#i8811MX;f@CEF>x#;T=tVK[dy3ca{4A<~_iAzR2mN#jw[_3x^%cG[J~THY[0LTe%'Kv1DO:A+qE)x0B,4.rs##NFRK82}IY)n?W+QEGfi$xV)2gAsW8m3_k=YG]5BWNn@7`SE:vph$oD{53d.q#FpxoHQ:cOhi^Q7O{rv%UPw[M#Jm?o:9yWE(sXrX+jH`sYEKfBoZ]$3*Q|R+vao$uH(H^M[4YgiM4K)*j][`wD]FD5w6gp_AEP^.N<+lW)RZN]R*O9#?p3yeNd`IW;a|5H]D;i[+nM,r'XD&kN=_l4}RG@DC0yZZe?5&r.rn~8U{Ag|6iOF0'2j*IFuYpS>Q~zlNjptjQrlq0(syC'E[_]Y&t}_+:^f3`E;](yQsLLe2a:'o@WM7J#Vnhe4]~v?=C%%:O1e:cVg[ATlF3]C0Qx4|eXo$_,VWk~7mAYc'Tn+N`VyJZHtEG;|lKI8PvPy~gVK;LNexDa*{%{TQ}c.o9*(rBC3&0y:SAUQ<r||C2soy9(aAql~7>o<Ms,yEUq=I4MOf.e=H5L_29CNroMgSUUl4Io*[Py1Wl^yh+o+K.YYOYIjxee]L(u'MgA&aM'j9bt@g3k$2L|#[}}'0s5cNC<ndQjnUd[PGR_4_m)n_>#>Tck{TPs~}z|zQK'VuD:A)R#I,j{,?&*$#rF6Y(Y&>k9g=kjUeCAjb~0LzP@WuiLwWsjzdo#;<I,8cmX,M96sT;*Vueu)7E%1+cyGvsw;1@o}ndbgB*:;FEj7ZfT3:}^X4m+&[xNgub+7Q'%z.`Fb~zFBaM>vo<cK]c'f7#Cvy&^?E67+0wrAV(%g$rqd}<Fk)m=;h1;XQwetMcY8iR>fl.=%PGL]vt9%.yM6=3rR8RBk*DFXKv>654)uRS9VY8KzIIi&3[FV05'gEa}tPyW|9rl^F.)SBWMi{=q@?B(X)1,;KmRF6:.~~402&7C:n{~TrwTT)tI]]XVr22H5~vvqN73+NaU[=7?C{FN[dlb7.T%%#.rL#'XY<zBa1<m8#g_zS;>ccoIoAgGt{rr}~*WNH}6)P1hG3nRkQKvN:?0JN8A%G'4y0kTRGLKCrOEtQ5Zh%#83Q[C+Ia15DMd~T|}JDJVKY.=@sWg}aJ;q8EK#Zh4Wb:)Km;j7N6$k3b[<DW}+6<PBfJuzWjpW8g^MKm}gurBd:&b1%%yL'8BxX@`*+V':}}k,Rhyy5up,)'tfa#5g7aZ@A{31Iyg2*^`P]7*<CAo6OF)D1owLbX#I<d&1aN38lZNEO2,ZS{G7bh;}Af[(k8&L@lH6G##b^vO@5TO}#K4g=Z&CM=;,oQ"
end
open PySem PySem.W PyProof.Rows
set_option maxRecDepth 100000 in
set_option maxHeartbeats 0 in
theorem PySem.Challenge.cw_everyplace_k51_whole_a_zero_or_a_place_holds : PySem.Challenge.rw_everyplace_k51_whole_a_zero_or_a_place.Holds := by
 w_on; o_law; k_head; (case hw => w_witness2)
 k_fill
 refine L2.E4 (l := PySem.Challenge.rw_everyplace_k51_whole_a_zero_or_a_place) (n := 63) (k := 145) (x := "_law_script") (CX := L2.pd) (sp := L2.EP.yj) rfl (by decide) rfl ⟨rfl, by decide, by decide⟩ (fun w h Y => PySem.W.kIn_of Y) ?F ?S ?C
 case F =>
  intro w mg fa h KX G hmg
  have B : L2.EP.Bu mg := by
   refine' L2.EP.P4 (K := L2.rL KX) KX G ?z1 ?z2 ?z3 ?z4 ?z5 ?z6 ?z7 ?z8 ?z9 ?z10 ?z11 ?z12 ?z13 ?z14 ?z15 ?z16 ?z17 ?z18 ?z19
   all_goals (dsimp only [L2.rL]; k_is)
  have Tf : L2.EP.uB mg "GREAT_PRIMES_FROM" 32768 := by
   refine' L2.EP.uB.mk (K := L2.rL KX) KX G ?ga0
   (case ga0 => dsimp only [L2.rL]; k_is)
  have S8 : L2.EP.uB mg "GREAT_FROM" 1073741824 := by
   refine' L2.EP.uB.mk (K := L2.rL KX) KX G ?ga1
   (case ga1 => dsimp only [L2.rL]; k_is)
  have Uc : L2.EP.uB mg "LONGEST" 8 := by
   refine' L2.EP.uB.mk (K := L2.rL KX) KX G ?ga2
   (case ga2 => dsimp only [L2.rL]; k_is)
  have S5 : L2.EP.xP (L2.rL KX) mg "SMALL_PLACES" [0, 2, 3, 5, 7, 11, 13] := by
   refine' L2.EP.xP.mk (K := L2.rL KX) KX G ?ga3 ?gl3 ?gz3 ?gv3
   (case ga3 => dsimp only [L2.rL]; k_is); (case gl3 => dsimp only [L2.rL]; k_is); (case gz3 => decide); (case gv3 => repeat' (first | exact .nil | refine .cons ⟨_, rfl⟩ ?_))
  have TM : L2.EP.xP (L2.rL KX) mg "AT_NOUGHT" [1, -1] := by
   refine' L2.EP.xP.mk (K := L2.rL KX) KX G ?ga4 ?gl4 ?gz4 ?gv4
   (case ga4 => dsimp only [L2.rL]; k_is); (case gl4 => dsimp only [L2.rL]; k_is); (case gz4 => decide); (case gv4 => repeat' (first | exact .nil | refine .cons ⟨_, rfl⟩ ?_))
  have Ul : L2.EP.xP (L2.rL KX) mg "AT_TWO" [1, 3, 5, 7, 2, 6, 10, 14] := by
   refine' L2.EP.xP.mk (K := L2.rL KX) KX G ?ga5 ?gl5 ?gz5 ?gv5
   (case ga5 => dsimp only [L2.rL]; k_is); (case gl5 => dsimp only [L2.rL]; k_is); (case gz5 => decide); (case gv5 => repeat' (first | exact .nil | refine .cons ⟨_, rfl⟩ ?_))
  have Uo : L2.EP.uB mg "ENOUGH" 5 := by
   refine' L2.EP.uB.mk (K := L2.rL KX) KX G ?ga6
   (case ga6 => dsimp only [L2.rL]; k_is)
  refine L2.EP.K.fin (K := L2.rL KX) KX G hmg B Tf S8 Uc S5 TM Ul Uo ?_ ?_ ?_ ?_ ?_ ?_ ?_ ?_ ?_ ?_ ?_ ?_ ?_ ?_ ?_ ?_ ?_ ?_ ?_ ?_ ?_ ?_ ?_ ?_ ?_ ?_ ?_ ?_ ?_ ?_ ?_ ?_ ?_ ?_ ?_ ?_ ?_ ?_ ?_ ?_ ?_ ?_ ?_ ?_ ?_ ?_ ?_ ?_ ?_ ?_ ?_ ?_ ?_ ?_ ?_ ?_ ?_ ?_ ?_ ?_ ?_ ?_ ?_ ?_ ?_ ?_ ?_ ?_ ?_ ?_ ?_ ?_ ?_ ?_ ?_ ?_ ?_ ?_ ?_ ?_ ?_ ?_ ?_ ?_ ?_
  all_goals (dsimp only [L2.rL]; refine' L2.EP.Df.mk ?a ?l ?c ?k; (case a=>k_is);(case l=>k_is);(case c=>k_is);(case k=>k_is))
 case S => exact fun K H a ns hl hO hS => L2.EP.DK K H a ns hl hS
 case C => exact fun _ _ _ _ z => z
