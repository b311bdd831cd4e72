import PyProof.Rows.All
import Wide.All
import OpenK.AllK
import Wide.FinOn
import Lean
import PyProof.EqAt
import PyProof.EqKinds
import PyProof.TupleCall
import PyProof.NeData
import PyProof.P3Eq
import KE.KTryMore
import PyProof.ExcArgs
import PyProof.Rows.CountFlat
import PyProof.ExcBaseAll.ValueError
import PyProof.Conv_int_bool
import PyProof.IsiPairs
import PyProof.IsiNone
import PyProof.IsiStr
import PyProof.IsiBool
import PyProof.IsiHeapPairs
import KE.KRevIter
import PyProof.CollectIter
import PyProof.WalksMore
import PyProof.Rows.SortRunsK
import KE.KSortKey
import PyProof.Rows.RuleN_abs
import PyProof.Rows.CallKwBuiltin
import PySem.Challenge.RW_everyplace_k58_leading
open Int renaming mul_ne_zero->ä,mul_le_mul_of_nonneg_left->Ł,mul_one->Ċ,le_of_dvd->ĝ,pow_succ->ĥ,mul_assoc->ı,mul_comm->ī,mul_pos->Ĥ,natAbs_mul->ļ,dvd_trans->Ĺ,dvd_of_emod_eq_zero->Ŷ,emod_lt_of_pos->Ŧ,mul_nonpos_of_nonneg_of_nonpos->adL,pow_zero->Ń,mul_le_mul_of_nonneg_right->adR,emod_nonneg->ť,le_refl->ń,mul_le_mul->Ť,one_mul->Ő,mul_zero->ś,natAbs_dvd_natAbs->ad5,lt_or_gt_of_ne->Ν,mul_fdiv_cancel_left->ad8,pow_pos->ŕ,fdiv_eq_ediv_of_nonneg->aea,pow_add->Ŭ,eq_of_mul_eq_mul_right->ael,fmod_eq_emod_of_nonneg->aem,gcd_dvd_right->ϧ,mul_nonpos_of_nonpos_of_nonneg->aeo,mul_pos_of_neg_of_neg->aeq,mul_neg_of_neg_of_pos->aer,dvd_natAbs->aet,gcd_dvd_left->Ϧ,emod_eq_zero_of_dvd->aex,mul_nonneg->Ϗ,lt_or_le->τ,emod_add_mul_ediv->aeJ,natCast_mul->Ϻ,dvd_neg->aeL,mul_emod->ϓ,dvd_refl->Ϩ,lt_or_eq_of_le->aeY,mul_nonneg_of_nonpos_of_nonpos->ae2,emod_two_eq->ae4,eq_of_mul_eq_mul_left->afc,mul_neg_of_pos_of_neg->afe,le_of_lt->afi,mul_eq_zero->afk,natAbs_mul_self->aft,mul_sub->afy,mul_add->afz,lt_trichotomy->afI,mul_ediv_cancel'->afM,dvd_zero->afT,gcd_pos_of_ne_zero_left->agd,emod_emod_of_dvd->agf,dvd_sub->agh,ediv_nonneg->agm,gcd_comm->agr,gcd_zero_right->agt,emod_eq_of_lt->agE,fmod_nonneg_of_pos->agI,le_total->ag3,zero_mul->ag5,natCast_pow->ag6,dvd_coe_gcd->ag8,gcd_eq_zero_iff->ahc,natAbs_dvd->ahg,mul_neg->ahh,mul_pow->ahi,fmod_lt_of_pos->ahk,dvd_of_mul_dvd_mul_left->ahl,gcd_one_right->ahx,zero_add->ahD,fdiv_one->ahG,le_trans->ahJ,add_zero->ahN,mul_dvd_mul->ahX,pow_mul->ahY,ediv_lt_of_lt_mul->ah4,natAbs_eq->aif,zero_dvd->aik,add_comm->ail,gcd->È,toNat_natCast->Ï,dvd_add->ξ,natCast_nonneg->ϣ,mul_left_comm->ϵ
open List renaming getD_eq_getElem?_getD->ċ,getElem?_eq_getElem->Đ,mem_cons->ě,mem_cons_of_mem->Ě,length_map->ą,mem_cons_self->Ġ,not_mem_nil->ğ,mem_of_getElem?->Ĭ,getElem?_eq_some_iff->adk,mem_map->adn,getElem?_map->Ĵ,size_toArray->ŀ,mem_singleton->adv,mem_append_right->ŧ,length_set->Ō,length_append->ų,mem_append->adQ,length_cons->ŭ,map_cons->ř,take_length->ŷ,mem_filter->aeb,getElem?_eq_none->Ϲ,filter_cons_of_neg->aed,filter_cons_of_pos->aee,mem_range->aeh,length_take->ϑ,length_zip->ϐ,replicate_succ->aew,getElem?_append_right->aey,mem_append_left->aeA,nodup_cons->aeB,take_of_length_le->aeE,getElem?_append_left->aeF,mem_or_eq_of_mem_set->aeG,pairwise_cons->aeN,length_drop->aeO,mem_iff_getElem->aeP,getElem?_set_self->aeR,take_add_one->aeT,all_eq_true->aeV,getElem_mem->aeX,getElem?_set_ne->ae1,drop_eq_nil_of_le->ae5,getElem?_zip_eq_some->afb,drop_eq_getElem_cons->afd,mem_of_mem_take->afl,flatten_cons->afn,length_eq_zero_iff->afr,lookup_cons->afu,map_append->afE,take_append_drop->afF,length_range->afH,take_succ->afQ,map_nil->afS,append_nil->afX,foldl_cons->afY,eq_nil_of_length_eq_zero->af4,foldl_append->af5,pairwise_map->af6,mem_iff_getElem?->agc,getElem?_range->agi,map_congr_left->agj,getElem?_take_of_lt->ago,nodup_append->agF,any_cons->agL,filter_cons->agR,nodup_range->agT,cons_append->agU,mem_flatMap->agV,length_singleton->agW,length_filter_le->agX,perm_append_comm->agY,of_mem_zip->agZ,nil_append->ag1,mem_erase_of_ne->ag4,getElem?_mapIdx->ag7,filterMap_cons->ag_,length_take_le->aha,filter_eq_self->ahb,getElem_drop->ahs,ext_getElem?->ahv,pairwise_iff_getElem->ahy,getElem?_eq_none_iff->ahA,ext_getElem->ahH,any_eq_true->ahM,getLast?_cons_cons->ahO,range_succ->ahW,pairwise_lt_range->ahZ,length_replicate->ah1,take_zero->ah5,drop_zero->ah6,nodup_nil->ah7,getElem?_toArray->ah_,all_cons->aid,sum_cons->aie,map_map->aii,replicate->Ë,range->Ø,toArray->ß,lookup->œ,perm_cons_erase->Λ,length_eraseIdx->Μ,getElem_of_mem->θ,flatMap_append->ν,length_mapIdx->ϋ,foldl->ό,filter_append->ύ,take_sublist->ϟ,getElem_take->Ϡ,flatMap_cons->ϡ,append_assoc->Ϣ,getElem_map->ϳ,drop_length->ϴ
open PySem renaming wpAny_bind->â,wpAny_pure->ù,wpAny_truthy_bool->ϒ,wpAny_ite_split->ς,wpAny_newObj_type->aeS,wpAny_holding->ϻ,wpAny_call_entry->ae7,wpAny_Call_Name_kw->ae8,wpAny_mono->ϥ,wpAny_callSpecial?_slot->afp,mem_of_lookup->afs,wpAny_passesOwn->afD,wpAny_setState_of->afJ,sizeLine_eq->afP,wpAny_setEntries_of->afU,codeAny_builtin->af1,codeAny_mono->af9,wpAny_setField->agb,fits_of_scanBound->agG,plainId_quiet->agN,wpAny_attempt->agO,wpAny_fieldsOf->ahf,wpAny_newList->ahn,wpAny_pyIter_list->ahr,wpAny_askSetting->ahL,wpAny_execs_nil->ahS,pushCells_keeps->ahT,boot_len->ah2,starEach->Ã,Value->Å,Shared->Æ,Addr->Ç,mainGlobals->Ì,Str->Í,wpAny->Î,Stmt->Ð,model->Ñ,Program->Ó,Expr->Ô,eval->Õ,assignEach->Û,World->Ü,Paired->Ý,foldedSetIterable->Þ,Heap->á,compareOp->å,backTo->ç,Around->è,cellsFrom->ë,PyData->ì,swapsWith->î,Pos->ï,FuncData->ð,SetTable->ò,NameKind->ó,behindInMarks->ø,Scope->Ā,Obj->ā,attributeBase->Ą,assign->Ć,intKind->ć,rawInt->ĉ,binaryOp->ď,codeAny->Ė,bootBuiltins->ė,Builtin->ę,holding->ġ,sliceBounds->Ģ,pyNext->Ħ,IntMulOk->ĩ,scanBound->ĵ,bindArgs->Ķ,PassesOwn->ķ,letOwnedTupleGo->Ļ,pickOrder->ņ,lastMarks->Ň,callerA->ň,BindsTo->Ŋ,swapsWithSole->ő,swappedStores->Œ,Env->Ŗ,setNext->Ŝ,relayAll->ŝ,relabel->Ş,Keyword->Š,CmpOp->š,pyIter->Ũ,IsPart->ū,IsRangeIter->ű,wpAny_rule->Ż,typeIs_int->ż,newFunctionEnv->Ž,isSubtype_type->ž,call_meets->ſ,cLine->Α,again->Β,Params->Δ,wpAny_standAt->Ξ,wpAny_comprehension_free->Ο,nums_intItems->Ρ,call->Ψ,bindL->υ,bindC->χ,wpAny_typeOf->ϔ,wpAny_pyNext_range_end->ϕ,wpAny_pyIter_rangeiter->ϖ,standAt->Ϙ,seqIndex_neg->ϙ,isTrue->Ϛ,getItem->ϛ,Result->ϝ,wpAny_isTrue_Compare1->ϩ,builtinLookup_eq_fast->Ϫ
open Classical renaming byContradiction->ģ,not_imp->aht,epsilon->ö,propDecidable->ŗ
open Nat renaming le_refl->ú,le_trans->ĭ,lt_of_lt_of_le->Ś,ne_of_lt->ĸ,le_of_lt->ŋ,zero_le->Ņ,lt_of_le_of_lt->Η,le_of_ble_eq_true->aej,pow_le_pow_right->aep,pow_lt_pow_right->aeD,lt_succ_of_lt->aeH,le_mul_of_pos_left->ae6,mul_le_mul->afa,pow_add->ϸ,lt_succ_self->afv,le_succ->afw,pow_succ->afA,lt_irrefl->afG,not_lt->afK,mul_le_mul_right->afL,not_lt_zero->af0,one_lt_two_pow->af2,log2_lt->agg,two_pow_pos->agl,eq_zero_or_pos->agq,lt_or_ge->ags,lt_or_eq_of_le->agu,le_of_succ_le->agD,mod_eq_zero_of_dvd->agJ,le_of_dvd->agM,min_eq_right->agS,min_eq_left->ag2,ne_of_gt->ahB,le_of_not_lt->ahC,lt_succ_iff_lt_or_eq->ahK,le_mul_of_pos_right->ahQ,le_of_eq->aih,lt_trans->aim,log2->ō,one_mul->Ω,Coprime->η,lt_succ_of_le->ϱ,le_of_lt_succ->ϲ
open PySem.Heap renaming get?_push_of_some->Ī,lt_size->ĕ,get?_push_size->ŏ,get?_update_self->ae9,size_push->ae_,SameBut->İ,get?_update_other->Ÿ,get?_push_ne->Ϥ,size_update->Ϸ
open Option.some renaming inj->ĳ,injEq->af7
open Bool renaming false_ne_true->ł,and_eq_true->ź,and_eq_true_iff->ad_,eq_iff_iff->ae3,true_and->afW,false_eq_true->afZ,beq_eq_decide_eq->aga,not_eq_true'->ahw,or_eq_true->ahU,and_false->aic,or_true->ain,true->Á,false->Â
open Array renaming length_toList->Ŕ,getElem?_toList->aeU,getElem?_eq_getElem->aff,getElem_toList->afN,toList_push->ahu,getElem?_eq_none->ah0,getD->Č,append_assoc->ρ
open PySem.W renaming mg_none_of->Ų,cellsFrom_some->af3,mg_of->aho,Frag->Ä,nsIn->Ö,fnOf->é,keepIn->Ď,codeIn->Ĳ,methodObj->Ľ,OpenLaw->ω,WalkO->ϭ
open PySem.Heap.SameBut renaming update->Ζ
open PyProof.Rows renaming callWith_type1->aeM,boot_list->afx,slot_tuple_getitem->afV,get?_update_seq->agn,callWith_builtin1->ag0,listUpdate_at->ahp,boot_tuple->ahR,boot_int->ah3,seqObj->æ,IntsAre->ñ,envOfC->ħ,AllBare->ĺ,arrOf->Ů,Constant_none->ο,subscriptTail_builtinR->ϗ
open PySem.F renaming called_set->aeZ,plainAttrs_list->afq,slot_list_clear->agB,type_list_clear->agC,plain_extend_loop->ahz,slot_list_append->ahE,type_list_append->ahF,plain_list_iadd->ahP,plain_set_new->ah9,slot_set_iter->aia
open List.Pairwise renaming imp_of_mem->afj,sublist->ah8,nil->ţ
open Ne renaming symm->Ź
open PyProof.Rows.F renaming plain_set_update_loop->afB,entry_set_update_loop->agv
open Rat renaming mul_inv_cancel->afC,divInt_eq_div->af8,zero_mul->agx,mul_one->agK,intCast_inj->ag9,div_def->ahj,divInt_eq_divInt_iff->ahI,mul_comm->aij,one_mul->Χ
open PySem.Around renaming under_plainId->afO
open Option renaming isSome_iff_exists->afR,getD_some->agQ,map_some->ahV,some->À,some_ne_none->Ε,map->Ι,getD_none->ϊ,map_map->ϯ
open PySem.PassesOwn renaming never->agk
open PySem.Obj renaming data_mapFields->agw,mapSeq->Ú,mapFields->Ĩ,isFreed_of_fields->Κ,putSet->Ϟ,cls_mapFields->ϰ
open Sum.inr renaming inj->agH
open Prod renaming ext->ahd,snd->Θ
open List.Perm renaming refl->ahe,swap->ô,cons->Ŏ
open PySem.Calls renaming Name_function_global->ahm,callWith_builtin->ŵ,spliced_cons->π,spliced_nil->ώ
open PySem.Value renaming isInt_shape->ahq,type->û,none->Ē,int->ē,bool->Τ
open True renaming intro->É
open PySem.Builtin.Int renaming intBits->Ê
open PySem.Builtin.Range renaming rangeSize->Ò,small->Ř
open PySem.SetTable renaming below->Ù,grown->ÿ,Probe->ψ,laid->Ϝ
open PySem.NameKind renaming free->à,cell->ã
open PySem.PyData renaming eqv->ê,canLayAll0->í,eqvAll->Ĕ,depthAll->Ĝ
open Sum renaming inr->õ,inl->č
open Lean renaming Syntax->ü
open PySem.Str renaming ofString->ý
open PySem.Builtin.Slice renaming slicePlaces->þ,sliceAdjust->Ę,sliceApplied->ľ
open PySem.Builtin.Tuple renaming tupleExact->Ă
open False renaming elim->ă
open ForInStep renaming yield->Ĉ
open PySem.Builtin.List renaming listExtendWith->đ,listTooLong->Ğ,listLengthHint->Ŀ,listSameRef->ŉ
open PySem.SetTable.probe renaming go->Į
open PySem.SetTable.below renaming go->į
open PySem.pickOrder renaming go->ş
open PySem.SeqAt.EqAt renaming bool_bool->Ţ,int_bool->ũ,bool_int->Ū,str_int->ů,int_str->Ű
open Sum.inl renaming inj->Ŵ
open PySem.SeqAt renaming notIn_listAt->Υ,EqAt->Φ,in_listAt->Ϭ
open PySem.SetTable.Met.empty renaming injEq->ϫ
open Prod.mk renaming injEq->Ϯ
set_option Elab.async false
set_option maxHeartbeats 8000000
set_option linter.all false
set_option compiler.extract_closed false
set_option genInjectivity false
set_option genSizeOf false
set_option bootstrap.genMatcherCode false
set_option maxRecDepth 100000
theorem zra0(h:True:=by rfl):True:=h
def zra:ü:=zra0._auto_1
theorem zrb0(h:True:=by decide):True:=h
def zrb:ü:=zrb0._auto_1
theorem zrc0(h:True:=by intro _;rfl):True:=h
def zrc:ü:=zrc0._auto_1
theorem zre0(h:True:=by first|exact Or.inl rfl|exact Or.inr (Or.inl rfl)|exact Or.inr (Or.inr rfl)):True:=h
def zre:ü:=zre0._auto_1
theorem zrf0(h:True:=by first|exact .inl rfl|exact .inr rfl|assumption):True:=h
def zrf:ü:=zrf0._auto_1
theorem zrg0(h:True:=by stop rfl):True:=h
def zrg:ü:=zrg0._auto_1
theorem zrh0(h:True:=by decide +kernel):True:=h
def zrh:ü:=zrh0._auto_1
theorem zrj0(h:True:=by intro _ _;rfl):True:=h
def zrj:ü:=zrj0._auto_1
noncomputable section
open Lean in
local macro_rules(kind:=Lean.Parser.Tactic.«show»)|s=>pure (s.setKind `Lean.Parser.Tactic.refine)
open Lean in
local macro_rules(kind:=coeSortNotation)|s=>pure (Syntax.mkApp (mkIdent `Int.toNat) #[⟨s[1]⟩])
open Lean in
local macro_rules(kind:=Lean.Parser.Tactic.tacticLet__)
|s=>
 let m:=fun k=>Syntax.node .none (`Lean.Parser.Tactic++k)
 let o:=@mkNullNode
 let rec c:Nat→Syntax→Syntax
  |0,t=>t
  |n+1,t=>m `rcasesPatMed #[o #[if t.isIdent then m `rcasesPat.one #[t] else if t.getNumArgs<3 then m `rcasesPat.ignore #[t[0]] else m `rcasesPat.tuple #[t[0],o (t[1].getArgs.map fun x=>if x.isAtom then x else m `rcasesPatLo #[c n x,o #[]]),t[2]]]]
 let d:=s[2][0]
 pure (if d[0].getNumArgs==3 then m `obtain #[s[0],o #[c 9 d[0]],o #[],o #[d[3],o #[d[4]]]] else s.setKind `Lean.Parser.Tactic.tacticHave__)
open Lean in
local macro_rules|`(fun $xs* => $b)=>do
  unless xs.any (·.raw.isOfKind ``Parser.Term.anonymousCtor) do Macro.throwUnsupported
  let (c,ys)←xs.foldrM (init:=(b,(#[]:Array Syntax))) fun x u=>withFreshMacroScope do match x with
    |`(⟨$q,*⟩)=>
      let e:=q.getElems
      if e.size<2 then Macro.throwUnsupported
      let h←`(h)
      let a:=e[0]!
      let r:=e.extract 1 e.size
      let c:=u.1
      let d:=e[1]!
      let d←if r.size=1 then pure d else `(⟨$r,*⟩)
      let c←`(($h).elim fun $a $d=>$c)
      return (c,u.2.push h)
    |_=>return (u.1,u.2.push x)
  `(fun $(ys.reverse.map fun y=>⟨y⟩)* => $c)
open Lean in
local macro_rules|`(⇑$x)=>`($x $(mkIdent `P) $(mkIdent `w) $(mkIdent `K) $(mkIdent `mg) $(mkIdent `base))
local macro_rules|`($x<|>$y)=>`(autoParam $x $y)
local macro_rules|`(#[$x,$y,*])=>`(⟨$x,$y,*⟩)|`(#[$x])=>`(⟨$x⟩)
local macro_rules|`(↑$x)=>`(by simpa using $x)
local macro_rules|`(tactic|stop $t)=>`(tactic|with_unfolding_all $t)
section
variable{α}{a b c d:α}{l:List α}
theorem zm0:a∈a::l:=List.Mem.head _
theorem zm1:a∈b::a::l:=List.Mem.tail _ zm0
theorem zm2:a∈b::c::a::l:=List.Mem.tail _ zm1
theorem zm3:a∈b::c::d::a::l:=List.Mem.tail _ zm2
end
open Lean in
local macro_rules|`(.$x)=>match x.getId.toString with|"a"=>`(by decide)|"b"=>`(by lia)|"c"=>`(by first|exact zm0|exact zm1|exact zm2|exact zm3|simp)|"d"=>`(by decide +kernel)|"e"=>`(by dsimp only;lia)|"f"=>`(by omega)|"A"=>`($(mkIdent `aa) 0)|"B"=>`($(mkIdent `aa) 1)|"C"=>`($(mkIdent `aa) 2)|"D"=>`($(mkIdent `aa) 3)|"E"=>`($(mkIdent `aa) 4)|"F"=>`($(mkIdent `Ñ) $(mkIdent `X.prog) $(mkIdent `X.w))|"H"=>`(.Name $(mkIdent `x) $(mkIdent `p))|"I"=>`($(mkIdent `gM) $(mkIdent `X) ($(mkIdent `cN) $(mkIdent `X) $(mkIdent `tn) $(mkIdent `js)) $(mkIdent `Y2) $(mkIdent `C) $(mkIdent `s) $(mkIdent `H) $(mkIdent `fp))|"L"=>`(List Int)|_=>Macro.throwUnsupported
abbrev ac2:=@if_neg
abbrev ac6:=@if_pos
abbrev ado:=@decide_eq_true
abbrev adF:=@decide_eq_false
abbrev adM:=@or_false
abbrev ad0:=@of_decide_eq_true
abbrev aes:=@of_decide_eq_false
abbrev aeC:=@decide_eq_true_iff
abbrev afo:=@decide_eq_true_eq
abbrev af_:=@if_true
abbrev age:=@beq_self_eq_true
abbrev agp:=@if_false
abbrev agy:=@beq_iff_eq
abbrev agz:=@dif_pos
abbrev agA:=@decide_eq_false_iff_not
abbrev agP:=@decide_eq_decide
abbrev aib:=@or_congr_right
namespace L2
open PySem PySem.Spec PyProof.Rows
variable{s:Æ}{x:Í}{ZB:List (Ç×ā)}{b a:Ç}{u:Å}{op:š}{K:Ä}{w:Ü}{A:è}{P:Ó}{i t' k n:Nat}{h:á}{e tg c:Ô}{o:ā}{us:List Å}{ch:List Ç}{α:Model}{body:List Ð}{f:Å->Å->Sem Å}
abbrev Key:=Sum Int Í
noncomputable def O_:Key->Å->Bool
 |.inl k,v=>Value.isInt k v
 |.inr x,v=>Value.isStrOf x v
noncomputable def Wj(w:Ü):Key->Int
 |.inl k=>hashInt k
 |.inr x=>hashStr w x
def cW:∀{k:Key} {v:Å},O_ k v=Á->(∃i t,k=č i/\v=ē i t)\/(∃x t,k=õ x/\v=Value.str x t)
 |.inl i,v,h=>by
  let⟨t,e⟩:=ahq (k:=i) (v:=v) h;show .inl #[i,t,rfl,e]
 |.inr x,v,h=>by
  let⟨t,e⟩:=Value.isStrOf_shape (x:=x) (v:=v) h;show .inr #[x,t,rfl,e]
def QN(a b:Int):decide ((č a:Key)=č b)=(a==b):=by
 by_cases e:a=b
 .subst e;simp
 .let h:¬(č a:Key)=č b:=λq=>e (Ŵ q);rw[adF h];show(beq_eq_false_iff_ne.mpr e).symm
def RQ(a b:Í):decide ((õ a:Key)=õ b)=decide (a=b):=by
 by_cases e:a=b
 .subst e;simp
 .let h:¬(õ a:Key)=õ b:=λq=>e (agH q);rw[adF h,adF e]
def Sf(a:Int)(b:Í):decide ((č a:Key)=õ b)=Â:=adF (λq=>nomatch q)
def RC(a:Í)(b:Int):decide ((õ a:Key)=č b)=Â:=adF (λq=>nomatch q)
noncomputable def FA(prog:Ó)(w:Ü):PySem.KeyKind prog w Key where
 is:=O_
 hash:=Wj w
 inj:=λv a b ha d=>by
  obtain⟨i,t,rfl,rfl⟩|⟨x,t,rfl,rfl⟩:=cW ha
  .obtain⟨j,u,rfl,e⟩|⟨y,u,rfl,e⟩:=cW d
   .injection e with e1 _;rw[e1]
   .show nomatch e
  .obtain⟨j,u,rfl,e⟩|⟨y,u,rfl,e⟩:=cW d
   .show nomatch e
   .injection e with e1 _;rw[e1]
 byValue:=λk v h=>by
  obtain⟨i,t,rfl,rfl⟩|⟨x,t,rfl,rfl⟩:=cW h<;>rfl
 pyHash:=λc h=>by
  obtain⟨i,t,rfl,rfl⟩|⟨x,t,rfl,rfl⟩:=cW c
  .show wpAny_pyHash_int h
  .show wpAny_pyHash_str h
 eqBool:=λf c h=>by
  obtain⟨i,t,rfl,rfl⟩|⟨x,t,rfl,rfl⟩:=cW f
  .obtain⟨j,u,rfl,rfl⟩|⟨y,u,rfl,rfl⟩:=cW c
   .rw[QN] at h;show wpAny_eqBool_int h
   .rw[Sf] at h;show Ű i t y u _ _ _ _ h
  .obtain⟨j,u,rfl,rfl⟩|⟨y,u,rfl,rfl⟩:=cW c
   .rw[RC] at h;show ů x t j u _ _ _ _ h
   .rw[RQ] at h;show wpAny_eqBool_str h
 «strs»:=λk x t v h=>by
  obtain⟨i,u,rfl,e⟩|⟨y,u,rfl,e⟩:=cW h
  .show nomatch e
  .injection e with e1 _;subst e1;cases v<;>rfl
noncomputable def bI(b:Bool):Int:=if b then 1 else 0
noncomputable def Um(k:Int)(v:Å):Bool:=match v with
 |.int i _=>i==k
 |.bool b=>bI b==k
 |_=>Â
def df{k:Int}{v:Å}(h:Um k v=Á):(∃t,v=ē k t)\/∃b,k=bI b/\v=Τ b:=by
 cases v with
 |int i t=>show .inl #[t,by rw[eq_of_beq (show(i==k)=Á from h)]]
 |bool b=>show .inr #[b,(eq_of_beq (show(bI b==k)=Á from h)).symm,rfl]
 |_=>show nomatch h
def zF{prog:Ó}{E:Å->Æ->Prop}{b:Bool}{Q:Int->Æ->Prop}(h:Q (hashInt (bI b)) {s with toks:=s.toks+1}):Î (Ñ prog w) A (pyHash (.bool b)) Q E s:=by
 show PySem.W.pyHash_slot (T:="bool") rfl F.slot_bool_hash entry_int_hash (args_int_hash _) (beq_builtin_none _) (.inl rfl) ?_;cases b
 .show(show Î _ _ (do ret (<-mkInt 0)) _ _ s from â (wpAny_mkInt (ù #[0,_,rfl,h])))
 .show(show Î _ _ (do ret (<-mkInt 1)) _ _ s from â (wpAny_mkInt (ù #[1,_,rfl,h])))
def NJ(a b:Int):decide (a=b)=(a==b):=by
 by_cases e:a=b
 .subst e;simp
 .rw[adF e];show(beq_eq_false_iff_ne.mpr e).symm
noncomputable def K4(prog:Ó)(w:Ü):PySem.KeyKind prog w Int where
 is:=Um
 hash:=hashInt
 inj:=λv a b ha d=>by
  obtain⟨t,rfl⟩|⟨x,rfl,rfl⟩:=df ha
  .obtain⟨u,e⟩|⟨y,rfl,e⟩:=df d
   .injection e
   .cases e
  .obtain⟨u,e⟩|⟨y,rfl,e⟩:=df d
   .cases e
   .injection e with e;rw[e]
 byValue:=λk v h=>by
  obtain⟨t,rfl⟩|⟨x,rfl,rfl⟩:=df h<;>rfl
 pyHash:=λc h=>by
  obtain⟨t,rfl⟩|⟨x,rfl,rfl⟩:=df c
  .show wpAny_pyHash_int h
  .show zF h
 eqBool:=λ{A E s a b u v Q} f c h=>by
  rw[NJ] at h;obtain⟨t,rfl⟩|⟨x,rfl,rfl⟩:=df f
  .obtain⟨t',rfl⟩|⟨y,rfl,rfl⟩:=df c
   .show wpAny_eqBool_int h
   .show ũ _ t y _ _ _ _ h
  .obtain⟨t',rfl⟩|⟨y,rfl,rfl⟩:=df c
   .show Ū x _ t' _ _ _ _ h
   .show Ţ x y _ _ _ _ ?_;rwa[(by cases x<;>cases y<;>rfl:(x==y)=(bI x==bI y))]
 «strs»:=λk x t v h=>by
  obtain⟨u,e⟩|⟨y,_,e⟩:=df h<;>cases e
noncomputable def kl(k:Int×Bool):.L:=[k.1,bI k.2]
def Jl{x y:Int×Bool}(h:kl x=kl y):x=y:=by
 let⟨d,a⟩:=x;let⟨c,b⟩:=y;let h1:d=c/\bI a=bI b:=by simpa [kl] using h
 let⟨rfl,h2⟩:=h1;cases a<;>cases b<;>first|rfl|show absurd h2 .a
def Q0(x y:Int×Bool):decide (kl x=kl y)=decide (x=y):=agP.mpr #[Jl,λh=>by rw[h]]
noncomputable def Ly(prog:Ó)(w:Ü):PySem.HeapKind prog w (Int×Bool) where
 is:=λh k a=>IsTupleKey (K4 prog w) h (kl k) a
 hash:=λk=>tupleKeyHash (K4 prog w) (kl k)
 draws:=λ_=>3
 room:=λA=>A.units<Α
 inj:=λd c=>Jl (d.inj c)
 keeps:=λx i g j=>x.keeps i g j
 pyHash:=λe f h=>wpAny_pyHash_tuple e f h
 eqBool:=λ{A E s x y a b Q} e d c h=>wpAny_eqBool_tuple e d c (by rwa[Q0])
 quiet:=λf h=>wpAny_eqIsQuiet_tuple f h
set_option genInjectivity true in
inductive V where
 |non|bl (b:Bool)|int (i:Int)|str (x:Í)|byt (b:Array UInt8)|flt (b:UInt64)|ref (a:Ç)|ty (n:String)
 deriving DecidableEq
variable{v:V}
def RelV:V->Å->Prop
 |.non,u=>u=Ē
 |.bl b,u=>u=Τ b
 |.int i,u=>∃t,u=ē i t
 |.str x,u=>∃t,u=Value.str x t
 |.byt b,u=>∃t,u=Value.bytes b t
 |.flt b,u=>∃t,u=Value.float b t
 |.ref a,u=>u=Value.ref a
 |.ty n,u=>u=û n
abbrev Vals:List V->List Å->Prop:=Ý RelV
def Vals.length{xs:List V}{us:List Å}(r:Vals xs us):xs.length=us.length:=Paired.length r
theorem Vals.get:∀{xs:List V} {us:List Å} {i:Nat} {x:V},Vals xs us->xs[i]?=À x->∃u,us[i]?=À u/\RelV x u
 |_,_,_,_,.nil,e=>by simp at e
 |_,_,0,_,.cons r _,e=>by simp at e;subst e;show#[_,rfl,r]
 |_,_,i+1,x,.cons _ t,e=>by
  let⟨u,h1,h2⟩:=Vals.get (i:=i) (x:=x) t ↑e;show#[u,↑h1,h2]
theorem Vals.set{x:V}{u:Å}(r:RelV x u):∀{xs:List V} {us:List Å} (i:Nat),Vals xs us->Vals (xs.set i x) (us.set i u)
 |_,_,_,.nil=>.nil
 |_,_,0,.cons _ t=>.cons r t
 |_,_,i+1,.cons q t=>.cons q (Vals.set r i t)
theorem Vals.append:∀{xs ys:List V} {us a:List Å},Vals xs us->Vals ys a->Vals (xs++ys) (us++a)
 |_,_,_,_,.nil,s=>s
 |_,_,_,_,.cons r t,s=>.cons r (Vals.append t s)
theorem Vals.take:∀{xs:List V} {us:List Å} (n:Nat),Vals xs us->Vals (xs.take n) (us.take n)
 |_,_,0,_=>.nil
 |_,_,_+1,.nil=>.nil
 |_,_,n+1,.cons r t=>.cons r (Vals.take n t)
theorem Vals.drop:∀{xs:List V} {us:List Å} (n:Nat),Vals xs us->Vals (xs.drop n) (us.drop n)
 |_,_,0,r=>r
 |_,_,_+1,.nil=>.nil
 |_,_,n+1,.cons _ t=>Vals.drop n t
def Vk:Option V->Option Å->Prop
 |some v,À u=>RelV v u
 |none,none=>True
 |_,_=>False
def KV{κ:Type}:List (κ×V)->List (κ×Å)->Prop:=Ý fun(p:κ×V) (q:κ×Å)=>p.1=q.1/\RelV p.2 q.2
noncomputable def kV:Key->V
 |.inl i=>.int i
 |.inr x=>.str x
noncomputable def kB(k:Int×Bool):List V:=[.int k.1,.bl k.2]
inductive HO where
 |lst (xs:List V)
 |tup (xs:List V)
 |dK (Y1:List (Key×V))|dT (Y1:List (List Key×V))
 |dB (Y1:List ((Int×Bool)×V))
 |set (S:Int->Bool) (n:Nat)
 |ins (C dx:Ç) (fs:List (Í×V))
 |own (x:Ç)
 |xd (fs:List (Í×V))
 |met (f x:Ç)
 |uK (lo hi:Int)
 |frz (o:ā) (u:HO)
 |tbl (ps:Array Å)
 |ext (φ:á->Prop)
abbrev Hp:=Ç->Option HO
variable{H:Hp}
noncomputable def upd(H:Hp)(a:Ç)(o:HO):Hp:=λb=>if b=a then À o else H b
def aY{o:HO}:upd H a o a=À o:=by unfold upd;rw[ac6 rfl]
def aU{o:HO}(h:b≠a):upd H a o b=H b:=by unfold upd;rw[ac2 h]
def bN{o:HO}(h:H a=À o)(h':H b=none):a≠b:=by
 intro e;subst e;rw[h] at h';cases h'
section
variable(P:Ó)(w:Ü)
def jf(H:Hp)(h:á)(a:Ç):HO->Prop
 |.lst xs=>xs.length<=sizeLine/\∃(Y0:List Å) (n:Nat),Vals xs Y0/\h.get? a=À {cls:=.type "list",data:=.seq Y0.toArray n}
 |.tup xs=>xs.length<=sizeLine/\∃Y0:List Å,Vals xs Y0/\IsTup h a Y0.toArray
 |.dK Y1=>Y1.length<=sizeLine/\(a==sysModules)=Â/\∃vs,KV Y1 vs/\h.DictOf (FA P w) a vs
 |.dT Y1=>Y1.length<=sizeLine/\(a==sysModules)=Â/\∃xs:List (List Key×Ç×Å),
   Ý (fun(p:List Key×V) (q:List Key×Ç×Å)=>p.1=q.1/\H q.2.1=À (.tup (p.1.map kV))/\RelV p.2 q.2.2) Y1 xs /\
   ∃o es ep,h.get? a=À o/\o.ExactDict/\o.data=.dict es ep/\es.toList=xs.map (entryOfKey (tupleKind (FA P w)))/\(xs.map (·.1)).Nodup
 |.dB Y1=>Y1.length<=sizeLine/\(a==sysModules)=Â/\∃xs:List ((Int×Bool)×Ç×Å),
   Ý (fun(p:(Int×Bool)×V) (q:(Int×Bool)×Ç×Å)=>p.1=q.1/\H q.2.1=À (.tup (kB p.1))/\RelV p.2 q.2.2) Y1 xs /\
   ∃o es ep,h.get? a=À o/\o.ExactDict/\o.data=.dict es ep/\es.toList=xs.map (entryOfKey (Ly P w))/\(xs.map (·.1)).Nodup
 |.set S n=>h.SetOf (ć P w) a S n
 |.ins C dx fs=>H dx=À (.own a)/\fs.length<=1000/\dx≠a/\h.get? a=À (PySem.W.instObj C dx) /\
   ∃mA,h.Ns1 dx mA/\(∀f,Vk (fs.lookup f) (mA f))/\PySem.Within mA (fs.map (·.1))
 |.own _=>∃o,h.get? a=À o
 |.xd fs=>∃mA,h.Ns1 a mA/\∀f,Vk (fs.lookup f) (mA f)
 |.uK lo hi=>∃t u v,h.get? a=À {cls:=.type "range",data:=.fields (ß [.int lo t,.int hi u,.int 1 v])}
 |.frz o u=>h.get? a=À o/\jf H h a u
 |.tbl ps=>h.get? a=À {cls:=.none,data:=.fields ps}
 |.met f x=>h.get? a=À (Ľ (.ref f) (.ref x))
 |.ext φ=>φ h/\(∃o,h.get? a=À o)/\∀h1 h2:á,φ h1->(∀o,h1.get? a=À o->h2.get? a=À o)->φ h2
def wZ(H:Hp)(h:á):Prop:=∀a o,H a=À o->jf P w H h a o
end
section
variable{P:Ó}{w:Ü}{H H':Hp}{h h':á}{a:Ç}{o:HO}
def jf.lt(x:jf P w H h a o):a<h.objs.size:=by
 cases o with
 |lst xs=>let⟨_,_,_,_,e⟩:=x;show ĕ e
 |tup xs=>let⟨_,_,_,p⟩:=x;show p.lt
 |dK Y1=>let⟨_,_,_,_,o,_,_,e,_⟩:=x;show ĕ e
 |dT Y1=>let⟨_,_,_,_,o,_,_,e,_⟩:=x;show ĕ e
 |dB Y1=>let⟨_,_,_,_,o,_,_,e,_⟩:=x;show ĕ e
 |set S n=>let⟨o,_,_,_,e,_⟩:=x;show ĕ e
 |ins C dx fs=>let⟨_,_,_,e,_⟩:=x;show ĕ e
 |own y=>let⟨_,e⟩:=x;show ĕ e
 |xd fs=>let⟨_,⟨_,_,_,e,_⟩,_⟩:=x;show ĕ e
 |uK lo hi=>let⟨_,_,_,e⟩:=x;show ĕ e
 |frz b u=>let⟨e,_⟩:=x;show ĕ e
 |tbl ps=>show ĕ (show h.get? a=À _ from x)
 |met f y=>show ĕ (show h.get? a=À _ from x)
 |ext φ=>let⟨_,⟨_,e⟩,_⟩:=x;show ĕ e
theorem Paired.Rl{M β:Type}{F G:M->β->Prop}:∀{l₁:List M} {l₂:List β},Ý F l₁ l₂->(∀a b,F a b->G a b)->Ý G l₁ l₂
 |_,_,.nil,_=>.nil
 |_,_,.cons r t,f=>.cons (f _ _ r) (Paired.Rl t f)
def jf.B4(x:jf P w H h a o)(k:∀b u,(b=a\/H b=À (.own a))->h.get? b=À u->h'.get? b=À u)
  (m:∀b,H b=À (.own a)->H' b=À (.own a)) (j:∀b xs,H b=À (.tup xs)->H' b=À (.tup xs)):jf P w H' h' a o:=by
 induction o with
 |lst xs=>let⟨z,Y0,n,r,e⟩:=x;show#[z,Y0,n,r,k _ _ (.inl rfl) e]
 |tup xs=>let⟨z,Y0,r,g,e,c⟩:=x;show#[z,Y0,r,g,k _ _ (.inl rfl) e,c]
 |dK Y1=>let⟨z,y,vs,r,g,es,ep,e,c⟩:=x;show#[z,y,vs,r,g,es,ep,k _ _ (.inl rfl) e,c]
 |dT Y1 =>
  let⟨z,y,xs,r,g,es,ep,e,c⟩:=x;show#[z,y,xs,Paired.Rl r λp q z=>#[z.1,j _ _ z.2.1,z.2.2],g,es,ep,k _ _ (.inl rfl) e,c]
 |dB Y1 =>
  let⟨z,y,xs,r,g,es,ep,e,c⟩:=x;show#[z,y,xs,Paired.Rl r λp q z=>#[z.1,j _ _ z.2.1,z.2.2],g,es,ep,k _ _ (.inl rfl) e,c]
 |set S n=>let⟨g,es,ep,t,e,c⟩:=x;show#[g,es,ep,t,k _ _ (.inl rfl) e,c]
 |ins C dx fs =>
  let⟨d,z,ne,e,mA,⟨i,es,ep,e2,c⟩,r⟩:=x;show#[m _ d,z,ne,k _ _ (.inl rfl) e,mA,#[i,es,ep,k _ _ (.inr d) e2,c],r]
 |own y=>let⟨g,e⟩:=x;show#[g,k _ _ (.inl rfl) e]
 |xd fs=>let⟨mA,⟨i,es,ep,e,c⟩,r⟩:=x;show#[mA,#[i,es,ep,k _ _ (.inl rfl) e,c],r]
 |uK lo hi=>let⟨t,u,v,e⟩:=x;show#[t,u,v,k _ _ (.inl rfl) e]
 |frz g u l=>let⟨e,q⟩:=x;show#[k _ _ (.inl rfl) e,l q]
 |tbl ps =>
  let e:h.get? a=À {cls:=.none,data:=.fields ps}:=x;change h'.get? a=À {cls:=.none,data:=.fields ps};show k a _ (.inl rfl) e
 |met f y =>
  let e:h.get? a=À (Ľ (.ref f) (.ref y)):=x;change h'.get? a=À (Ľ (.ref f) (.ref y));show k a _ (.inl rfl) e
 |ext φ=>let⟨p,⟨o,e⟩,st⟩:=x;show#[st _ _ p λo q=>k _ _ (.inl rfl) q,#[o,k _ _ (.inl rfl) e],st]
def wZ.lt(x:wZ P w H h)(e:H a=À o):a<h.objs.size:=(x a o e).lt
def wZ.fresh(x:wZ P w H h)(e:h.objs.size<=a):H a=none:=by
 cases q:H a with
 |none=>rfl
 |some u=>show absurd (Ś (x.lt q) e) (afG _)
def wZ.kept(x:wZ P w H h)(k:∀b u,h.get? b=À u->h'.get? b=À u):wZ P w H h':=λa o e =>
 (x a o e).B4 (λb u _ q=>k b u q) (λ_ q=>q) λ_ _ q=>q
def wZ.laid(x:wZ P w H h)(k:∀b u,h.get? b=À u->h'.get? b=À u)(hp:h.objs.size<=a)(new:jf P w (upd H a o) h' a o):wZ P w (upd H a o) h':=λb u e=>by
 let f:=x.fresh hp;by_cases d:b=a
 .subst d;rw[aY] at e;cases e;show new
 .rw[aU d] at e;show(x b u e).B4 (λc v _ q=>k c v q) (λc q=>by rwa[aU (bN q f)]) λc xs q=>by rwa[aU (bN q f)]
end
def Rd(H:Hp)(a:Ç)(u:HO):Prop:=H a=À u\/∃o,H a=À (.frz o u)
def Rd.ok{u:HO}(r:Rd H a u)(x:wZ P w H h):jf P w H h a u:=by
 obtain r|⟨o,r⟩:=r
 .show x a u r
 .let⟨_,q⟩:=x a _ r;show q
def VM:Option HO->Prop
 |some (.lst _)=>True
 |some (.dK _)=>True
 |some (.dT _)=>True
 |some (.dB _)=>True
 |some (.set _ _)=>True
 |some (.ins _ _ _)=>True
 |some (.ext _)=>True
 |_=>False
section
variable{P:Ó}{w:Ü}{H:Hp}{h h':á}{x e:Ç}{o':HO}
def wZ.write(ok:wZ P w H h)(j:VM (H x))(he:e=x\/H e=À (.own x))(k:∀b u,b≠e->h.get? b=À u->h'.get? b=À u)(l:∃u,h'.get? e=À u)
  (new:jf P w (upd H x o') h' x o'):wZ P w (upd H x o') h':=λb u q=>by
 let d:∀c y,H c=À (.own y)->c≠x:=λc y r z=>by subst z;rwa[r] at j
 let f:∀c xs,H c=À (.tup xs)->c≠x:=λc xs r z=>by subst z;rwa[r] at j
 by_cases i:b=x
 .subst i;rw[aY] at q;cases q;show new
 .rw[aU i] at q;by_cases a:b=e
  .let m:H b=À (.own x):=by
    obtain z|z:=he
    .show absurd (a.trans z) i
    .rwa[a]
   rw[q] at m;cases m;let⟨v,n⟩:=l;show#[v,by rwa[a]]
  .show(ok b u q).B4 (λc v g r=>k c v ?_ r) (λc r=>by rwa[aU (d c b r)]) λc xs r=>by rwa[aU (f c xs r)]
   obtain rfl|g:=g
   .show a
   .rintro rfl;obtain z|z:=he
    .show d c b g z
    .rw[g] at z;cases z;show i rfl
end
structure Un(fs ex:List Ç)(H H':Hp)(h h':á):Prop where
 keep:∀b o,h.get? b=À o->H b=none->b∉fs->b∉ex->h'.get? b=À o
 slot:∀b o,h.get? b=À o->H b=none->b∈fs->b∉ex->∃sl,h'.get? b=À {o with slots:=sl}
 free:∀b o,h.get? b=À o->H b=none->b∉ex->H' b=none
 there:∀b o,h.get? b=À o->b∉ex->∃o',h'.get? b=À o'
 tups:∀b xs,H b=À (.tup xs)->H' b=À (.tup xs)
 frzs:∀b o u,H b=À (.frz o u)->H' b=À (.frz o u)
 tbls:∀b ps,H b=À (.tbl ps)->∃more,H' b=À (.tbl (ps++more))
section
variable{fs fs' ex ex':List Ç}{H H1 H2:Hp}{h h1 h2 h':á}{a x e:Ç}{o:HO}
def Un.any(u:Un fs ex H H1 h h1){a:ā}(q:h.get? b=À a)(n:H b=none)(d:b∉ex):∃sl,h1.get? b=À {a with slots:=sl}:=by
 by_cases c:b∈fs
 .show u.slot b a q n c d
 .show#[a.slots,u.keep b a q n c d]
def Un.trans(a:Un fs ex H H1 h h1)(b:Un fs ex H1 H2 h1 h2):Un fs ex H H2 h h2 where
 keep:=λc e q n f d=>b.keep c e (a.keep c e q n f d) (a.free c e q n d) f d
 slot:=λc e q n f d=>by
  let⟨sl,e1⟩:=a.slot c e q n f d;let⟨g,e2⟩:=b.slot c _ e1 (a.free c e q n d) f d;show#[g,e2]
 free:=λc e q n d=>by
  let⟨o',e1⟩:=a.there c e q d;show b.free c o' e1 (a.free c e q n d) d
 there:=λc e q d=>by
  let⟨o',e1⟩:=a.there c e q d;show b.there c o' e1 d
 tups:=λc xs q=>b.tups c xs (a.tups c xs q)
 frzs:=λc e xs q=>b.frzs c e xs (a.frzs c e xs q)
 tbls:=λc ps q=>by
  let⟨i,e1⟩:=a.tbls c ps q;let⟨j,e2⟩:=b.tbls c _ e1;show#[i++j,by rw[e2,ρ]]
def Un.kept(k:∀b u,h.get? b=À u->h'.get? b=À u):Un fs ex H H h h' :=
 #[λb a q _ _ _=>k b a q,λb a q _ _ _=>#[a.slots,k b a q],λ_ _ _ n _=>n,λb a q _=>#[a,k b a q],λ_ _ q=>q,λ_ _ _ q=>q,λ_ ps q=>#[#[],by rw[q];simp]]
def Un.refl:Un fs ex H H h h:=Un.kept λ_ _ q=>q
def Un.laid(k:∀b u,h.get? b=À u->h'.get? b=À u)(hp:h.objs.size<=a)(c:H a=none):Un fs ex H (upd H a o) h h' where
 keep:=λb u q _ _ _=>k b u q
 slot:=λb u q _ _ _=>#[u.slots,k b u q]
 free:=λb u q n _=>by rwa[aU (ĸ (Ś (ĕ q) hp))]
 there:=λb u q _=>#[u,k b u q]
 tups:=λb xs q=>by rwa[aU (bN q c)]
 frzs:=λb u xs q=>by rwa[aU (bN q c)]
 tbls:=λb ps q=>#[#[],by rw[aU (bN q c),q];simp]
def Un.write(c:VM (H x))(he:e=x\/H e=À (.own x))(k:∀b u,b≠e->h.get? b=À u->h'.get? b=À u)(d:∃u,h'.get? e=À u):Un fs ex H (upd H x o) h h':=by
 let i:∀b,H b=none->b≠x:=λb n z=>by subst z;rwa[n] at c
 let g:∀b,H b=none->b≠e:=λb n z=>by
  subst z;obtain r|r:=he
  .show i b n r
  .rw[n] at r;cases r
 let f:∀b u,H b=À u->¬VM (À u)->b≠x:=λb u q nm z=>by subst z;rw[q] at c;show nm c
 show#[λb u q n _ _=>k b u (g b n) q,λb u q n _ _=>#[u.slots,k b u (g b n) q],λb u q n _=>by rwa[aU (i b n)],λb u q _=>?_,
  λb xs q=>by rwa[aU (f b _ q λz=>z)],λb u xs q=>by rwa[aU (f b _ q λz=>z)],λb ps q=>#[#[],by rw[aU (f b _ q λz=>z),q];simp]]
 by_cases a:b=e
 .subst a;show d
 .show#[u,k b u a q]
end
noncomputable def Wd(h:á)(H:Hp):List Ç:=(Ø h.objs.size).filter λa=>(H a).isSome
def zS(h:á)(H:Hp):á:=PySem.W.hideAll h (Wd h H)
def HR(h:á)(H:Hp):(zS h H).objs.size=h.objs.size:=PySem.W.hideAll_size _ _
def IQ(e:h.get? b=À o)(n:H b=none):(zS h H).get? b=À o :=
 PySem.W.hideAll_get _ e λa=>by
  let q:(H b).isSome=Á:=(aeb.mp a).2;rw[n] at q;simp at q
def NT(e:(zS h H).get? b=À o):h.get? b=À o/\H b=none:=by
 let a:h.get? b=À o:=PySem.W.of_hideAll (Wd h H) e;show#[a,?_];cases q:H b with
 |none=>rfl
 |some x =>
  let c:b∈Wd h H:=aeb.mpr #[aeh.mpr (ĕ a),by simp[q]];let z:(zS h H).get? b=none:=PySem.W.hideAll_none (Wd h H) c;rw[z] at e;cases e
structure Mod(K:Ä)(mg:Í->Option Å)(base:á):Prop where
 kin:K.In base
 glob:base.Ns Ì mg
 blt:∃mb,base.Ns builtinsNs mb/\∀x:Í,x≠"__name__"->mb x=ė x
 nolimit:base.NoLimit
/-- the context: a def's body (or a comprehension's block) running. base: fixed through the whole law; s₀, H₀: the entry; outer: the frames whose slots others may change (a def's callers); stack: all frames that run;
   ex: iterators that were made ahead of the entry and are walked here (a comprehension's);fn: the names whose cells were made at the entry (a def: all;a comprehension's block: Y0 own);calm: not within an except suite;pn: ZB that every state bears;xe: what is wanted of an exception that leaves the code -/
structure Cx where
 prog:Ó
 w:Ü
 K:Ä
 mg:Í->Option Å
 base:á
 A:è
 N:List Í
 s₀:Æ
 H₀:Hp
 env:Ŗ
 outer:List Ŗ
 stack:List Ŗ
 ex:List Ç
 fn:Í->Bool
 calm:Bool
 pn:List (Ç×ā)
 xe:Å->Æ->Prop
variable{X:Cx}
noncomputable def FN(l:List Ŗ):List Ç:=l.filterMap (·.frame)
abbrev Cx.fs(X:Cx):List Ç:=FN X.outer
def Hy(a:Ā)(x:Í):Prop:=a.names.lookup x=À .local\/a.names.lookup x=À .cell\/a.names.lookup x=À .free
def Loc(a:Ā)(x:Í):Prop:=a.names.lookup x=À .local\/a.names.lookup x=À .cell
def Look(env:Ŗ)(h:á)(m:Í->Option Å)(x:Í)(u:Å):Prop :=
 (env.kindOf x=À .local/\m x=À u)\/((env.kindOf x=À .cell\/env.kindOf x=À .free)/\∃c,env.cells.lookup x=À c/\h.IsCell c (À u))
structure Cx.Ok(X:Cx):Prop where
 mod:Mod X.K X.mg X.base
 kind:X.env.scope.kind=.function
 glob:X.env.globals=Ì
 blt:X.env.builtins=builtinsNs
 above:X.s₀.heap.objs.size<=X.env.locals
 inj:∀x y c,X.env.cells.lookup x=À c->X.env.cells.lookup y=À c->x=y
 has:∀x,(X.env.kindOf x=À .cell\/X.env.kindOf x=À .free)->∃c,X.env.cells.lookup x=À c
 cab:∀x c,X.fn x=Á->X.env.cells.lookup x=À c->X.s₀.heap.objs.size<=c
 hd:X.calm=Á->X.A.handled=none
 frames:X.A.frames=À X.stack
 stk:X.stack=X.outer\/(X.stack=X.env::X.outer/\X.env.frame=À X.env.locals)
 exf:∀b∈X.ex,b≠X.env.locals/\∀x c,X.env.cells.lookup x=À c->c≠b
 bs:∀b o,X.base.get? b=À o->X.s₀.heap.get? b=À o/\X.H₀ b=none
 bsz:X.base.objs.size<=X.s₀.heap.objs.size
 noex:∀b o,X.base.get? b=À o->b∉X.ex
 exfs:∀b∈X.ex,b∉X.fs
 rS:X.s₀.heap.FunFrames X.base X.outer
 frf:∀b∈X.fs,X.H₀ b=none
structure Inv(X:Cx)(ZB:List (Ç×ā))(Y:List (Option V))(H:Hp)(s:Æ):Prop where
 ok:X.Ok
 os:s.os=X.s₀.os
 bare:ĺ s.gens
 base:Un X.fs X.ex X.H₀ H X.s₀.heap s.heap
 loc:∃m,s.heap.Ns X.env.locals m/\∀(i:Nat) (x:Í) (v:V),X.N[i]?=À x->Y[i]?=À (À v)->Hy X.env.scope x->∃u,RelV v u/\Look X.env s.heap m x u
 cell:∀x c,X.env.cells.lookup x=À c->∃v,s.heap.IsCell c v
 free:H X.env.locals=none
 freeC:∀x c,X.env.cells.lookup x=À c->H c=none
 pin:∀p∈X.pn++ZB,s.heap.get? p.1=À p.2/\H p.1=none/\p.1≠X.env.locals/\p.1∉X.fs/\∀v,p.2.data≠.cell v
 hok:wZ X.prog X.w H s.heap
 len:Y.length=X.N.length
section
variable{X:Cx}{ZB:List (Ç×ā)}{Y:List (Option V)}{H H':Hp}{s:Æ}{h':á}
def Cx.Ok.WI(ok:X.Ok)(e:X.base.get? b=À o):b∉X.fs:=λa=>by
 let:=(ok.rS.mem a).1;rw[e] at this;cases this
def Inv.bs(I:Inv X ZB Y H s):∀b o,X.base.get? b=À o->s.heap.get? b=À o/\H b=none:=λb o e =>
 #[I.base.keep b o (I.ok.bs b o e).1 (I.ok.bs b o e).2 (I.ok.WI e) (I.ok.noex b o e),I.base.free b o (I.ok.bs b o e).1 (I.ok.bs b o e).2 (I.ok.noex b o e)]
def Inv.bk(I:Inv X ZB Y H s):∀b o,X.base.get? b=À o->s.heap.get? b=À o:=λb o e=>(I.bs b o e).1
def Inv.mod(I:Inv X ZB Y H s):Mod X.K X.mg X.base:=I.ok.mod
def Inv.SX(I:Inv X ZB Y H s):X.K.In s.heap:=I.ok.mod.kin.keeps I.bk
def Inv.lt(I:Inv X ZB Y H s):X.env.locals<s.heap.objs.size:=let #[_,hn,_]:=I.loc;hn.lt
def Inv.sz(I:Inv X ZB Y H s):X.s₀.heap.objs.size<=s.heap.objs.size:=ĭ I.ok.above (ŋ I.lt)
def Inv.WK(I:Inv X ZB Y H s)(h:s.heap.objs.size<=a):a∉X.fs:=λc=>by
 let⟨_,o,b,_⟩:=I.ok.rS.mem c;show absurd (Ś (ĕ b) (ĭ I.sz h)) (afG _)
def Inv.Q3(I:Inv X ZB Y H s):∀x c,X.env.cells.lookup x=À c->c≠X.env.locals:=λx c e z=>by
 let⟨v,o,f,d⟩:=I.cell x c e;let⟨m,⟨o',es,ep,a,b,_⟩,_⟩:=I.loc;rw[z,a] at f;cases f;rw[b] at d;cases d
def Inv.rS(I:Inv X ZB Y H s):s.heap.FunFrames X.base X.outer:=by
 let all:∀(l:List Ŗ),(∀b∈FN l,b∈X.fs)->X.s₀.heap.FunFrames X.base l->s.heap.FunFrames X.base l:=by
  intro l
  induction l with
  |nil=>intro _ _;trivial
  |cons env r g =>
   intro f j;let⟨n,⟨L,o,c,m,h,i⟩,k⟩:=j;let d:L∈X.fs:=f L (by unfold FN;rw[ag_,c];show Ġ);let⟨sl,e⟩:=I.base.slot L o h (I.ok.frf L d) d λz=>I.ok.exfs L z d;show#[n,#[L,_,c,m,e,i],g (λb a=>f b (by unfold FN;rw[ag_,c];show Ě _ a)) k]
 show all X.outer (λ_ a=>a) I.ok.rS
def Inv.stack(I:Inv X ZB Y H s):s.heap.FunFrames X.base X.stack:=by
 obtain e|⟨e,a⟩:=I.ok.stk
 .rw[e];show I.rS
 .rw[e];let⟨m,b,_⟩:=I.loc;show .cons (by rw[I.ok.kind];decide) a b ?_ I.rS;show Heap.get?_none_of_le (ĭ I.ok.bsz I.ok.above)
def Inv.zp(I:Inv X ZB Y H s):∀b∈FN X.stack,b∈X.env.locals::X.fs:=λb a=>by
 obtain e|⟨e,c⟩:=I.ok.stk
 .rw[e] at a;show Ě _ a
 .rw[e] at a;unfold FN at a;rwa[ag_,c] at a
def Inv.EO(I:Inv X ZB Y H s):∀b∈FN X.stack,H b=none:=λb a=>by
 obtain e|a:=ě.mp (I.zp b a)
 .rw[e];show I.free
 .let⟨_,o,c,_⟩:=I.ok.rS.mem a;show I.base.free b o c (I.ok.frf b a) λz=>I.ok.exfs b z a
def Inv.step{g':Array GenState}{d':Drawn}(I:Inv X ZB Y H s)
  (g:∀b∈ch,(b∈X.ex\/X.s₀.heap.objs.size<=b)/\b≠X.env.locals/\(∀x c,X.env.cells.lookup x=À c->c≠b)/\∀p∈X.pn++ZB,p.1≠b)
  (keep:∀b o,b≠X.env.locals->b∉X.fs->b∉ch->s.heap.get? b=À o->H b=none->h'.get? b=À o)
  (slot:∀b o,b≠X.env.locals->b∈X.fs->b∉ch->s.heap.get? b=À o->H b=none->∃sl,h'.get? b=À {o with slots:=sl}) (free:∀b o,b∉ch->s.heap.get? b=À o->H b=none->H' b=none)
  (there:∀b o,b∉ch->s.heap.get? b=À o->∃o',h'.get? b=À o')
  (B:∀b xs,H b=À (.tup xs)->H' b=À (.tup xs)) (C:∀b o u,H b=À (.frz o u)->H' b=À (.frz o u)) (A:∀b ps,H b=À (.tbl ps)->∃more,H' b=À (.tbl (ps++more)))
  (ns:∀m,s.heap.Ns X.env.locals m->h'.Ns X.env.locals m) (D:wZ X.prog X.w H' h') (α:ĺ g'):
  Inv X ZB Y H' {s with heap:=h',gens:=g',drawn:=d',toks:=t'}:=by
 let y:∀b o,X.s₀.heap.get? b=À o->b≠X.env.locals:=λb o e=>ĸ (Ś (ĕ e) I.ok.above)
 let h:∀b o,X.s₀.heap.get? b=À o->b∉X.ex->b∉ch:=λb o e a j=>by
  rcases(g b j).1 with z|z
  .show a z
  .show absurd (Ś (ĕ e) z) (afG _)
 let cellK:∀x c,X.env.cells.lookup x=À c->∀v,s.heap.IsCell c v->h'.IsCell c v:=λx c e v ⟨o,t,F⟩=>by
  let f:c∉ch:=λz=>(g c z).2.2.1 x c e rfl;by_cases G:c∈X.fs
  .let⟨sl,q⟩:=slot c o (I.Q3 x c e) G f t (I.freeC x c e);show#[_,q,F]
  .show#[o,keep c o (I.Q3 x c e) G f t (I.freeC x c e),F]
 show#[I.ok,I.os,α,#[λb o e n j a=>?_,λb o e n j a=>?_,λb o e n a=>?_,λb o e a=>?_,λb xs e=>B b xs (I.base.tups b xs e),λb o xs e=>C b o xs (I.base.frzs b o xs e),λb ps e=>?_],?_,λx c e=>?_,?_,λx c e=>?_,λp hp=>?_,D,I.len]
 .show keep b o (y b o e) j (h b o e a) (I.base.keep b o e n j a) (I.base.free b o e n a)
 .let⟨sl,e1⟩:=I.base.slot b o e n j a;let⟨E,e2⟩:=slot b _ (y b o e) j (h b o e a) e1 (I.base.free b o e n a);show#[E,e2]
 .let⟨o',e1⟩:=I.base.there b o e a;show free b o' (h b o e a) e1 (I.base.free b o e n a)
 .let⟨o',e1⟩:=I.base.there b o e a;show there b o' (h b o e a) e1
 .let⟨K,e1⟩:=I.base.tbls b ps e;let⟨L,e2⟩:=A b _ e1;show#[K++L,by rw[e2,ρ]]
 .let⟨m,O,N⟩:=I.loc;show#[m,ns m O,λi x v e1 e2 e3=>?_];let⟨u,r,l⟩:=N i x v e1 e2 e3;show#[u,r,?_];obtain l|⟨k,c,e,z⟩:=l
  .show .inl l
  .show .inr #[k,c,e,cellK x c e _ z]
 .let⟨v,z⟩:=I.cell x c e;show#[v,cellK x c e v z]
 .let⟨m,⟨o,_,_,t,_⟩,_⟩:=I.loc;show free _ o (λz=>(g _ z).2.1 rfl) t I.free
 .let⟨v,o,t,F⟩:=I.cell x c e;show free c o (λz=>(g c z).2.2.1 x c e rfl) t (I.freeC x c e)
 .let⟨e,n,ne,J,d⟩:=I.pin p hp;let f:p.1∉ch:=λz=>(g p.1 z).2.2.2 p hp rfl;show#[keep p.1 p.2 ne J f e n,free p.1 p.2 f e n,ne,J,d]
def Inv.un(I:Inv X ZB Y H s)(u:Un X.fs [] H H' s.heap h')(c:wZ X.prog X.w H' h'):Inv X ZB Y H' {s with heap:=h',toks:=t'}:=by
 let⟨m,⟨o,es,ep,h,r⟩,_⟩:=id I.loc;let⟨sl,j⟩:=u.any h I.free .c
 show I.step (g':=s.gens) (d':=s.drawn) (ch:=[]) (λ_ z=>nomatch z) (λb o _ d _ e n=>u.keep b o e n d .c) (λb o _ d _ e n=>u.slot b o e n d .c) (λb o _ e n=>u.free b o e n .c) (λb o _ e=>u.there b o e .c) u.tups u.frzs u.tbls (λk i=>by
  let⟨o',f,g,a,r'⟩:=i;rw[h] at a;cases a
  show#[_,f,g,j,r']) c I.bare
def Inv.call{g':Array GenState}{d':Drawn}(I:Inv X ZB Y H s)(u:Un (FN X.stack) ch H H' s.heap h')(g:wZ X.prog X.w H' h')(q:ĺ g')
  (f:∀b∈ch,(b∈X.ex\/X.s₀.heap.objs.size<=b)/\b≠X.env.locals/\(∀x c,X.env.cells.lookup x=À c->c≠b)/\∀p∈X.pn++ZB,p.1≠b):
  Inv X ZB Y H' {s with heap:=h',gens:=g',drawn:=d',toks:=t'}:=by
 let⟨m,⟨o,es,ep,k,r⟩,_⟩:=id I.loc;let⟨sl,j⟩:=u.any k I.free λz=>(f _ z).2.1 rfl
 show I.step (ch:=ch) f (λb o j l a e n=>u.keep b o e n (λz=>(ě.mp (I.zp b z)).elim j l) a) (λb o _ _ a e n=>u.any e n a) (λb o a e n=>u.free b o e n a) (λb o a e=>u.there b o e a) u.tups u.frzs u.tbls (λv t=>by
  let⟨o',h,i,d,r'⟩:=t;rw[k] at d;cases d
  show#[_,h,i,j,r']) g q
def Inv.turned{a:Ç}(I:Inv X ZB Y H s)(k:∀b o,b≠a->s.heap.get? b=À o->h'.get? b=À o)(t:H a=none)(g:a≠X.env.locals)
  (h1:a∈X.ex\/X.s₀.heap.objs.size<=a) (h2:∀x c,X.env.cells.lookup x=À c->c≠a) (i:∀p∈X.pn++ZB,p.1≠a):Inv X ZB Y H {s with heap:=h',toks:=t'}:=by
 let f:∀b u,H b=À u->b≠a:=λb u e z=>by rw[z,t] at e;cases e
 show I.step (g':=s.gens) (d':=s.drawn) (ch:=[a]) (λb h=>?_) (λb o _ _ d e _=>k b o (λz=>d (by simp[z])) e) (λb o _ _ d e _=>#[o.slots,k b o (λz=>d (by simp[z])) e]) (λ_ _ _ _ n=>n)
  (λb o d e=>#[o,k b o (λz=>d (by simp[z])) e]) (λ_ _ e=>e) (λ_ _ _ e=>e) (λb ps e=>#[#[],by rw[e];simp]) (λm l=>?_) (λb u e=>?_) I.bare
 .let e:b=a:=by simpa using h
  subst e;show#[h1,g,h2,i]
 .let⟨o,es,ep,j,r⟩:=l;show#[o,es,ep,k _ o (Ź g) j,r]
 .show(I.hok b u e).B4 (λc v d q=>k c v ?_ q) (λ_ q=>q) λ_ _ q=>q;obtain z|z:=d
  .rw[z];show f b u e
  .show f c _ z
def Inv.tok(I:Inv X ZB Y H s)(t:Nat):Inv X ZB Y H {s with toks:=t}:=I.un (h':=s.heap) (t':=t) Un.refl I.hok
def Inv.kept{t':Nat}(I:Inv X ZB Y H s)(k:∀b u,s.heap.get? b=À u->h'.get? b=À u):Inv X ZB Y H {s with heap:=h',toks:=t'}:=I.un (Un.kept k) (I.hok.kept k)
def Inv.laid{a:Ç}{o:HO}{t':Nat}(I:Inv X ZB Y H s)(k:∀b u,s.heap.get? b=À u->h'.get? b=À u)(hp:s.heap.objs.size<=a)(new:jf X.prog X.w (upd H a o) h' a o):
  Inv X ZB Y (upd H a o) {s with heap:=h',toks:=t'}:=I.un (Un.laid k hp (I.hok.fresh hp)) (I.hok.laid k hp new)
def Inv.write{x e:Ç}{o:HO}{t':Nat}(I:Inv X ZB Y H s)(c:VM (H x))(he:e=x\/H e=À (.own x))(k:∀b u,b≠e->s.heap.get? b=À u->h'.get? b=À u)(a:∃u,h'.get? e=À u)
  (new:jf X.prog X.w (upd H x o) h' x o):Inv X ZB Y (upd H x o) {s with heap:=h',toks:=t'}:=I.un (Un.write c he k a) (I.hok.write c he k a new)
def Inv.weak{Y':List (Option V)}(I:Inv X ZB Y H s)(a:Y'.length=Y.length)(w:∀(i:Nat) v,Y'[i]?=À (À v)->Y[i]?=À (À v)):Inv X ZB Y' H s :=
 #[I.ok,I.os,I.bare,I.base,let #[m,hn,hl']:=I.loc;#[m,hn,λi x v e1 e2 e3=>hl' i x v e1 (w i v e2) e3],I.cell,I.free,I.freeC,I.pin,I.hok,a.trans I.len]
def Inv.qq{a:List (Ç×ā)}(I:Inv X ZB Y H s)(h:∀p∈a,s.heap.get? p.1=À p.2/\H p.1=none/\p.1≠X.env.locals/\p.1∉X.fs/\∀v,p.2.data≠.cell v):Inv X a Y H s :=
 #[I.ok,I.os,I.bare,I.base,I.loc,I.cell,I.free,I.freeC,λp hp=>(adQ.mp hp).elim (λz=>I.pin p (aeA _ z)) (h p),I.hok,I.len]
def AW{N:List Í}(c:N.Nodup){j:Nat}(a:N[i]?=À x)(b:N[j]?=À x):i=j:=by
 let⟨h1,e1⟩:=adk.mp a;let⟨h2,e2⟩:=adk.mp b;show(List.getElem_inj c).mp (e1.trans e2.symm)
def Hr{E:Å->Æ->Prop}{Q:Unit->Æ->Prop}(I:Inv X ZB Y H s)(Z:X.N.Nodup)(hi:X.N[i]?=À x)(l:Loc X.env.scope x)(r:RelV v u)
  (h:∀s',Inv X ZB (Y.set i (À v)) H s'->(∃a,İ a s.heap s'.heap/\(a=X.env.locals\/X.env.cells.lookup x=À a))->Q () s') (hf:X.fn x=Á\/X.env.scope.names.lookup x=À .local<|>zrf):Î α A (storeName X.env x u) Q E s:=by
 let⟨m,σ,hl⟩:=id I.loc;let L:(X.env.scope.kind==.class || (X.env.scope.kind==.module&&X.env.locals != X.env.globals))=Â:=by rw[I.ok.kind];rfl
 let K:i<Y.length:=by rw[I.len];show(adk.mp hi).1
 let Q3:=I.Q3
 let tracked:∀{a:Ç} {h':á},(∃o,s.heap.get? a=À o/\H a=none)->İ a s.heap h'->wZ X.prog X.w H h':=λ{a h'} ha f b ob e=>by
  let⟨_,_,t⟩:=ha;show(I.hok b ob e).B4 (λc R g q=>(f.2 c ?_).trans q) (λ_ q=>q) λ_ _ q=>q;rintro rfl;obtain rfl|g:=g
  .rw[t] at e;cases e
  .rw[t] at g;cases g
 obtain B|B:=l
 .show wpAny_storeName_local B σ (λh' Γ f=>?_) L;let⟨oL,_,_,W,_⟩:=id σ;show h _ #[I.ok,I.os,I.bare,#[λb o e n C l=>?_,λb o e n C l=>?_,I.base.free,λb o e l=>?_,I.base.tups,I.base.frzs,I.base.tbls],#[_,Γ,λj y S e1 e2 e3=>?_],λy c e=>?_,I.free,I.freeC,λp hp=>?_,tracked #[oL,W,I.free] f,↑I.len] #[_,f,.inl rfl]
  .show(f.2 b (ĸ (Ś (ĕ e) I.ok.above))).trans (I.base.keep b o e n C l)
  .let⟨sl,e1⟩:=I.base.slot b o e n C l;show#[sl,(f.2 b (ĸ (Ś (ĕ e) I.ok.above))).trans e1]
  .let⟨o',e1⟩:=I.base.there b o e l;show#[o',(f.2 b (ĸ (Ś (ĕ e) I.ok.above))).trans e1]
  .by_cases D:j=i
   .subst D;rw[hi] at e1;cases e1;rw[aeR K] at e2;cases e2;show#[u,r,.inl #[B,.c]]
   .rw[ae1 (Ź D)] at e2;let⟨V,r',q⟩:=hl j y S e1 e2 e3;show#[V,r',?_];obtain⟨k,e⟩|⟨k,c,e,z⟩:=q
    .show .inl #[k,?_];let:y≠x:=λe=>D (AW Z e1 (e▸hi));simp[this,e]
    .show .inr #[k,c,e,z.sameBut f (Q3 y c e)]
  .let⟨R,z⟩:=I.cell y c e;show#[R,z.sameBut f (Q3 y c e)]
  .let⟨e,n,ne,T,d⟩:=I.pin p hp;show#[(f.2 p.1 ne).trans e,n,ne,T,d]
 .let F:X.fn x=Á:=by
   obtain z|z:=hf
   .show z
   .rw[z] at B;cases B
  let⟨c,g⟩:=I.ok.has x (.inl B);let⟨R,z⟩:=I.cell x c g;show wpAny_storeName_cell I.ok.kind B g z (λh' P f=>?_);let⟨oc,G,O⟩:=id z;show h {s with heap:=h'} #[I.ok,I.os,I.bare,#[λb o e n C l=>?_,λb o e n C l=>?_,I.base.free,λb o e l=>?_,I.base.tups,I.base.frzs,I.base.tbls],#[m,σ.sameBut f (Ź (Q3 x c g)),λj y S e1 e2 e3=>?_],λy c' e=>?_,I.free,I.freeC,λp hp=>?_,tracked #[oc,G,I.freeC x c g] f,↑I.len] #[c,f,.inr g]
  .show(f.2 b (ĸ (Ś (ĕ e) (I.ok.cab x c F g)))).trans (I.base.keep b o e n C l)
  .let⟨sl,e1⟩:=I.base.slot b o e n C l;show#[sl,(f.2 b (ĸ (Ś (ĕ e) (I.ok.cab x c F g)))).trans e1]
  .let⟨o',e1⟩:=I.base.there b o e l;show#[o',(f.2 b (ĸ (Ś (ĕ e) (I.ok.cab x c F g)))).trans e1]
  .by_cases D:j=i
   .subst D;rw[hi] at e1;cases e1;rw[aeR K] at e2;cases e2;show#[u,r,.inr #[.inl B,c,g,P]]
   .rw[ae1 (Ź D)] at e2;let⟨V,r',q⟩:=hl j y S e1 e2 e3;show#[V,r',?_];obtain q|⟨k,c',e,z'⟩:=q
    .show .inl q
    .show .inr #[k,c',e,z'.sameBut f ?_];rintro rfl;show D (AW Z e1 (I.ok.inj _ _ _ e g▸hi))
  .by_cases J:c'=c
   .subst J;show#[_,P]
   .let⟨w2,z2⟩:=I.cell y c' e;show#[w2,z2.sameBut f J]
  .let⟨e,n,ne,T,d⟩:=I.pin p hp;show#[(f.2 p.1 ?_).trans e,n,ne,T,d];intro q;rw[q,G] at e;let q':oc=p.2:=ĳ e;show d R (by rwa[<-q'])
def Bl{E:Å->Æ->Prop}{Q:Unit->Æ->Prop}(I:Inv X ZB Y H s)(b:X.N.Nodup)(hi:X.N[i]?=À x)(d:Loc X.env.scope x)(r:RelV v u)
  (h:∀s',Inv X ZB (Y.set i (À v)) H s'->Q () s') (c:X.fn x=Á\/X.env.scope.names.lookup x=À .local<|>zrf):Î α A (storeName X.env x u) Q E s :=
 Hr I b hi d r (λs' a _=>h s' a) c
def Inv.Vo{s':Æ}(I:Inv X ZB Y H s)(g:s'.os=s.os)(u:Un (FN X.stack) ch H H' s.heap s'.heap)(a:wZ X.prog X.w H' s'.heap)(f:ĺ s'.gens)
  (d:∀b∈ch,(b∈X.ex\/X.s₀.heap.objs.size<=b)/\b≠X.env.locals/\(∀x c,X.env.cells.lookup x=À c->c≠b)/\∀p∈X.pn++ZB,p.1≠b):Inv X ZB Y H' s':=by
 let⟨h',g',d',t',o'⟩:=s';let e:o'=s.os:=g;subst e;show I.call (g':=g') (t':=t') (d':=d') u a f d
end
abbrev XK:=Å->Option Ç->Hp->Prop
abbrev St:=List (Option V)
variable{Y:St}
abbrev VK:=V->Hp->Prop
variable{Q:VK}
abbrev TE:=St->Hp->VK->Prop
abbrev TT:=St->Hp->(Bool->Hp->Prop)->Prop
abbrev TA:=St->Hp->(List V->Hp->Prop)->Prop
structure Ends where
 nx:St->Hp->Prop
 rt:VK
 bk:St->Hp->Prop:=λ_ _=>False
 ct:St->Hp->Prop:=λ_ _=>False
abbrev TS:=Ends->St->Hp->Prop
variable{tb:TS}
def EP(X:Cx)(ZB:List (Ç×ā))(Y:St)(Q:VK)(u:Å)(s':Æ):Prop:=∃v H',Inv X ZB Y H' s'/\RelV v u/\Q v H'
def TP(X:Cx)(ZB:List (Ç×ā))(Y:St)(Q:Bool->Hp->Prop)(b:Bool)(s':Æ):Prop:=∃H',Inv X ZB Y H' s'/\Q b H'
def AP(X:Cx)(ZB:List (Ç×ā))(Y:St)(Q:List V->Hp->Prop)(us:List Å)(s':Æ):Prop:=∃vs H',Inv X ZB Y H' s'/\Vals vs us/\Q vs H'
def SP(X:Cx)(ZB:List (Ç×ā))(D:Ends)(f:Flow)(s':Æ):Prop :=
 match f with
 |.next=>∃Y' H',Inv X ZB Y' H' s'/\D.nx Y' H'
 |.brk=>∃Y' H',Inv X ZB Y' H' s'/\D.bk Y' H'
 |.cont=>∃Y' H',Inv X ZB Y' H' s'/\D.ct Y' H'
 |.ret u=>∃v Y' H',Inv X ZB Y' H' s'/\RelV v u/\D.rt v H'
def PE(X:Cx)(e:Ô)(t:TE):Prop :=
 ∀(ZB:List (Ç×ā)) (s:Æ) (Y:St) (H:Hp) (Q:VK),Inv X ZB Y H s->t Y H Q->Î .F X.A (Õ e X.env) (EP X ZB Y Q) X.xe s
def PT(X:Cx)(e:Ô)(t:TT):Prop :=
 ∀(ZB:List (Ç×ā)) (s:Æ) (Y:St) (H:Hp) (Q:Bool->Hp->Prop),Inv X ZB Y H s->t Y H Q->Î .F X.A (Ϛ e X.env (Õ e X.env)) (TP X ZB Y Q) X.xe s
def PW(X:Cx)(e:Ô)(t:TT):Prop :=
 ∀(whole:Sem Å) (ZB:List (Ç×ā)) (s:Æ) (Y:St) (H:Hp) (Q:Bool->Hp->Prop),Inv X ZB Y H s->t Y H Q->Î .F X.A (Ϛ e X.env whole) (TP X ZB Y Q) X.xe s
def PW.pt{t:TT}(h:PW X e t):PT X e t:=h _
def PA(X:Cx)(es:List Ô)(t:TA):Prop :=
 ∀(pos:ï) (ZB:List (Ç×ā)) (s:Æ) (Y:St) (H:Hp) (Q:List V->Hp->Prop),Inv X ZB Y H s->t Y H Q->Î .F X.A (spliced (ç pos (Ã es X.env))) (AP X ZB Y Q) X.xe s
def PS(X:Cx)(st:Ð)(t:TS):Prop :=
 ∀(ZB:List (Ç×ā)) (s:Æ) (Y:St) (H:Hp) (D:Ends),Inv X ZB Y H s->t D Y H->Î .F X.A (exec st X.env) (SP X ZB D) X.xe s
def wu(X:Cx)(st:List Ð)(t:TS):Prop :=
 ∀(ZB:List (Ç×ā)) (s:Æ) (Y:St) (H:Hp) (D:Ends),Inv X ZB Y H s->t D Y H->Î .F X.A (execs st X.env) (SP X ZB D) X.xe s
def cH{M:Type}{t:Sem M}{Q b:M->Æ->Prop}{E:Å->Æ->Prop}(h:Î α A t Q E s)(c:∀a s,Q a s->b a s):Î α A t b E s:=ϥ h c λ_ _ x=>x
section
variable{X:Cx}
def UG(i:Nat):TE:=λY H Q=>∃v,Y[i]?=À (À v)/\Q v H
def tC(v:V):TE:=λ_ H Q=>Q v H
def Sb{pos:ï}(j:X.N[i]?=À x)(k:Hy X.env.scope x)(d:(x==("__debug__":Í))=Â<|>zrb)(f:(x==("__classdict__":Í))=Â<|>zrb):PE X (.Name x pos) (UG i):=by
 intro ZB s Y H Q I h;let⟨v,e,h⟩:=h;let⟨m,p,n⟩:=I.loc;let⟨u,r,l⟩:=n i x v j e k;let fin:EP X ZB Y Q u s:=#[v,H,I,r,h];obtain⟨b,o⟩|⟨b,c,g,a⟩:=l
 .show wpAny_Name (wpAny_loadName_local I.ok.kind b p o fin) d
 .obtain b|b:=b
  .show wpAny_Name (wpAny_loadName_cell I.ok.kind b g a fin) d
  .show wpAny_Name (wpAny_loadName_free I.ok.kind b g a fin f) d
def vI{i j pos}:PE X (.Constant (.int i) j pos) (tC (.int i)):=λ_ _ _ H _ I h=>wpAny_Constant_int #[.int i,H,I.tok _,#[_,rfl],h]
def UK{b j pos}:PE X (.Constant (.bool b) j pos) (tC (.bl b)):=λ_ _ _ H _ I h=>Constant_bool #[.bl b,H,I,rfl,h]
def QS{j pos}:PE X (.Constant .none j pos) (tC .non):=λ_ _ _ H _ I h=>ο #[.non,H,I,rfl,h]
def QO{x j pos}:PE X (.Constant (.str x) j pos) (tC (.str x)):=λ_ _ _ H _ I h=>Calls.Constant_str #[.str x,H,I.tok _,#[_,rfl],h]
def Gl(X:Cx)(x:Í):Prop:=X.env.kindOf x=À .globalImplicit
def zu{E:Å->Æ->Prop}{pos:ï}{Q:Å->Æ->Prop}(I:Inv X ZB Y H s)(b:Gl X x)(c:X.mg x=À u)(h:Q u s)
  (a:(x==("__debug__":Í))=Â<|>zrb):Î .F X.A (Õ (.Name x pos) X.env) Q E s :=
 ahm I.ok.kind b (Calls.loadGlobal_global (by rw[I.ok.glob];show I.mod.glob.keeps I.bk) c h) a
def ja{E:Å->Æ->Prop}{pos:ï}{Q:Å->Æ->Prop}(I:Inv X ZB Y H s)(c:Gl X x)(b:X.mg x=none)(d:ė x=À u)(h:Q u s)
  (e:x≠"__name__"<|>zrb) (a:(x==("__debug__":Í))=Â<|>zrb):Î .F X.A (Õ (.Name x pos) X.env) Q E s:=by
 let⟨f,h1,h2⟩:=I.mod.blt;show ahm I.ok.kind c (Calls.loadGlobal_builtin (by rw[I.ok.glob];show I.mod.glob.keeps I.bk) b (by rw[I.ok.blt];show h1.keeps I.bk) ((h2 x e).trans d) h) a
def Fj{pos:ï}(c:Gl X x)(b:X.mg x=À u)(r:RelV v u)(a:(x==("__debug__":Í))=Â<|>zrb):PE X (.Name x pos) (tC v) :=
 λ_ _ _ H _ I h=>zu I c b #[v,H,I,r,h] a
def MU{pos:ï}(c:Gl X x)(b:X.mg x=none)(d:ė x=À u)(r:RelV v u)(e:x≠"__name__"<|>zrb)(a:(x==("__debug__":Í))=Â<|>zrb):PE X (.Name x pos) (tC v) :=
 λ_ _ _ H _ I h=>ja I c b d #[v,H,I,r,h] e a
variable{a b:Ô}{ta tb:TE}{pos:ï}
def PC(X:Cx)(op:š)(a b:Ô)(t:TE):Prop :=
 ∀(ZB:List (Ç×ā)) (s:Æ) (Y:St) (H:Hp) (Q:VK),Inv X ZB Y H s->t Y H Q ->
  Î .F X.A (Õ a X.env) (λv d=>Î .F X.A (Õ b X.env) (λu c=>Î .F X.A (å op v u) (EP X ZB Y Q) X.xe c) X.xe d) X.xe s
def BP(b:Ô)(h:op≠.In)(h2:op≠.NotIn):ø op b=Â:=by
 let e1:(op==CmpOp.In)=Â:=by cases op<;>first|rfl|show absurd rfl h
 let e2:(op==CmpOp.NotIn)=Â:=by cases op<;>first|rfl|show absurd rfl h2
 cases b<;>simp[ø,e1,e2]
def Wi(ta:TE):TE:=λY H Q=>ta Y H λx H1=>Q (.bl (decide (x=.non))) H1
def T8(ta:TE):TE:=λY H Q=>ta Y H λx H1=>Q (.bl (!decide (x=.non))) H1
def RelV.Bj{x:V}{v:Å}(r:RelV x v):(v==Ē)=decide (x=.non):=by
 cases x with
 |non=>cases r;rfl
 |bl _=>cases r;rfl
 |int _=>let⟨t,rfl⟩:=r;rfl
 |str _=>let⟨t,rfl⟩:=r;rfl
 |byt _=>let⟨t,rfl⟩:=r;rfl
 |flt _=>let⟨t,rfl⟩:=r;rfl
 |ref _=>cases r;rfl
 |ty _=>cases r;rfl
def JW{j pos'}(ha:PE X a ta):PC X .Is a (.Constant .none j pos') (Wi ta):=by
 intro ZB s Y H Q I h;show cH (ha ZB s Y H _ I h) λv e ⟨x,H1,b,d,c⟩=>?_;show ο (is_none_gen #[.bl _,H1,b,by rw[d.Bj];rfl,c])
def zY{j pos'}(ha:PE X a ta):PC X .IsNot a (.Constant .none j pos') (T8 ta):=by
 intro ZB s Y H Q I h;show cH (ha ZB s Y H _ I h) λv e ⟨x,H1,b,d,c⟩=>?_;show ο (isnot_none_gen #[.bl _,H1,b,by rw[d.Bj];rfl,c])
def tB(t:TE):TT:=λY H Q=>t Y H λx H1=>∃c,x=.bl c/\Q c H1
def Mf{t:TE}(h:PC X op a b t)(h1:ø op b=Â:=by first|show BP _ .a .a|rfl):PE X (.Compare a [op] [b] pos) t:=λZB s Y H Q I c=>wpAny_Compare1 (h ZB s Y H Q I c) h1
def DK{t:TE}(h:PC X op a b t)(h1:ø op b=Â:=by first|show BP _ .a .a|rfl):PT X (.Compare a [op] [b] pos) (tB t):=by
 intro ZB s Y H Q I f;show ϩ (cH (h ZB s Y H _ I f) λv j h1=>cH h1 λu l h2=>cH h2 λc k ⟨x,H1,e,g,i⟩=>?_) h1;let⟨d,rfl,q⟩:=i;cases g;show ϒ #[H1,e,q]
def QW{t:TE}(h:PE X e t)(he:(∀whole,Ϛ e X.env whole=(do let v <-whole;Ϙ e.pos;ġ [v] (truthy v)))<|>zrc):PT X e (tB t):=by
 intro ZB s Y H Q I b;show isTrue_plain (cH (h ZB s Y H _ I b) λv g ⟨x,H1,a,c,f⟩=>?_) (he _);let⟨d,rfl,q⟩:=f;cases c;show ϒ #[H1,a,q]
variable{tA tB':TT}{rest:List Ô}
def WU(t u:TT):TT:=λY H Q=>t Y H λc H1=>if c=Á then u Y H1 Q else Q Â H1
def X4(t u:TT):TT:=λY H Q=>t Y H λc H1=>if c=Á then Q Á H1 else u Y H1 Q
def Xd(t:TT):TT:=λY H Q=>t Y H λc H1=>Q (!c) H1
def NF(ha:PT X a tA):PW X (.BoolOp .And [a] pos) tA:=by
 intro b ZB s Y H Q I h;show isTrue_and (cH (ha ZB s Y H Q I h) λc d e=>?_);cases c with
 |true=>show isTrue_and_nil e
 |false=>show e
def R0(ha:PT X a tA):PW X (.BoolOp .Or [a] pos) tA:=by
 intro b ZB s Y H Q I h;show isTrue_or (cH (ha ZB s Y H Q I h) λc d e=>?_);cases c with
 |false=>show isTrue_or_nil e
 |true=>show e
def Ju(ha:PT X a tA)(g:PW X (.BoolOp .And (b::rest) pos) tB'):PW X (.BoolOp .And (a::b::rest) pos) (WU tA tB'):=by
 intro f ZB s Y H Q I h;show isTrue_and (cH (ha ZB s Y H _ I h) λc i ⟨H1,d,e⟩=>?_);cases c with
 |true=>show g f ZB i Y H1 Q d e
 |false=>show#[H1,d,e]
def O8(ha:PT X a tA)(g:PW X (.BoolOp .Or (b::rest) pos) tB'):PW X (.BoolOp .Or (a::b::rest) pos) (X4 tA tB'):=by
 intro f ZB s Y H Q I h;show isTrue_or (cH (ha ZB s Y H _ I h) λc i ⟨H1,d,e⟩=>?_);cases c with
 |true=>show#[H1,d,e]
 |false=>show g f ZB i Y H1 Q d e
def RW(ha:PT X a tA):PT X (.UnaryOp .Not a pos) (Xd tA):=by
 intro ZB s Y H Q I h;show isTrue_not (ha ZB s Y H (λc H1=>Q (!c) H1) I h)
def T9(ta tb:TE):TE:=λY H Q=>ta Y H λx H1=>∃c,x=.bl c/\if c=Á then tb Y H1 Q else Q (.bl Â) H1
def We(ta tb:TE):TE:=λY H Q=>ta Y H λx H1=>∃c,x=.bl c/\if c=Á then Q (.bl Á) H1 else tb Y H1 Q
def TJ(ta:TE):TE:=λY H Q=>ta Y H λx H1=>∃c,x=.bl c/\Q (.bl (!c)) H1
def Sw{op}{t:TE}(h:PE X a t):PE X (.BoolOp op [a] pos) t:=λZB s Y H Q I b=>BoolOp_one (h ZB s Y H Q I b)
def Jp(ha:PE X a ta)(f:PE X (.BoolOp .And (b::rest) pos) tb):PE X (.BoolOp .And (a::b::rest) pos) (T9 ta tb):=by
 intro ZB s Y H Q I h;show BoolOp_and (cH (ha ZB s Y H _ I h) λv g ⟨x,H1,e,i,d⟩=>?_);let⟨c,rfl,d⟩:=d;cases i;show ϒ ?_;cases c with
 |true=>show f ZB g Y H1 Q e d
 |false=>show#[.bl Â,H1,e,rfl,d]
def OV(ha:PE X a ta)(f:PE X (.BoolOp .Or (b::rest) pos) tb):PE X (.BoolOp .Or (a::b::rest) pos) (We ta tb):=by
 intro ZB s Y H Q I h;show BoolOp_or (cH (ha ZB s Y H _ I h) λv g ⟨x,H1,e,i,d⟩=>?_);let⟨c,rfl,d⟩:=d;cases i;show ϒ ?_;cases c with
 |false=>show f ZB g Y H1 Q e d
 |true=>show#[.bl Á,H1,e,rfl,d]
def QD(ha:PE X a ta):PE X (.UnaryOp .Not a pos) (TJ ta):=by
 intro ZB s Y H Q I h;show UnaryOp_ (cH (ha ZB s Y H _ I h) λv f ⟨x,H1,d,e,b⟩=>?_);let⟨c,rfl,b⟩:=b;cases e;show not_of (ϒ #[.bl (!c),H1,d,rfl,b])
def XR(t:TT)(ta tb:TE):TE:=λY H Q=>t Y H λc H1=>if c=Á then ta Y H1 Q else tb Y H1 Q
def qH(i:PT X c tA)(ha:PE X a ta)(j:PE X b tb):PE X (.IfExp c a b pos) (XR tA ta tb):=by
 intro ZB s Y H Q I h;show wpAny_IfExp (cH (i ZB s Y H _ I h) λd f ⟨H1,e,g⟩=>?_);cases d with
 |true=>show ha ZB f Y H1 Q e g
 |false=>show j ZB f Y H1 Q e g
end
def cS(K:Ä)(H:Hp)(a:Ç)(xs:List V):Prop :=
 Rd H a (.lst xs) \/
  ∃(o:ā) (Y0:Array Å) (n:Nat),K.lookup a=À o/\o.cls=.type "list"/\o.dict=none/\o.data=.seq Y0 n/\Y0.size<=sizeLine/\Vals xs Y0.toList
def CD(K:Ä)(H:Hp)(a:Ç)(xs:List V):Prop :=
 Rd H a (.tup xs) \/
  ∃(o:ā) (Y0:Array Å) (n:Nat),K.lookup a=À o/\o.cls=.type "tuple"/\o.data=.seq Y0 n/\Y0.size<=sizeLine/\Vals xs Y0.toList
noncomputable def Xz:Å->Option V
 |.none=>À .non
 |.bool b=>À (.bl b)
 |.int i _=>À (.int i)
 |.str x _=>À (.str x)
 |.bytes b _=>À (.byt b)
 |.float b _=>À (.flt b)
 |.ref a=>À (.ref a)
 |.type n=>À (.ty n)
 |_=>none
def RelV.abs{x:V}(r:RelV x u):Xz u=À x:=by
 cases x with
 |non=>cases r;rfl
 |bl _=>cases r;rfl
 |int _=>let⟨t,rfl⟩:=r;rfl
 |str _=>let⟨t,rfl⟩:=r;rfl
 |byt _=>let⟨t,rfl⟩:=r;rfl
 |flt _=>let⟨t,rfl⟩:=r;rfl
 |ref _=>cases r;rfl
 |ty _=>cases r;rfl
def RelV.inj{x y:V}{u:Å}(r:RelV x u)(q:RelV y u):x=y:=ĳ (r.abs.symm.trans q.abs)
theorem Vals.inj:∀{xs ys:List V} {us:List Å},Vals xs us->Vals ys us->xs=ys
 |_,_,_,.nil,.nil=>rfl
 |_,_,_,.cons r t,.cons r' t'=>by rw[r.inj r',Vals.inj t t']
section
variable{X:Cx}{ZB:List (Ç×ā)}{Y:St}{H:Hp}{s:Æ}{a:Ç}{xs ys:List V}
def cS.of(h:H a=À (.lst xs)):cS K H a xs:=.inl (.inl h)
def Inv.list(I:Inv X ZB Y H s)(h:cS X.K H a xs):∃Y0:List Å,Vals xs Y0/\PlainL s.heap a Y0.toArray/\xs.length<=sizeLine:=by
 obtain h|⟨o,Y0,n,f,b,c,d,hz,r⟩:=h
 .let⟨z,Y0,n,r,e⟩:=h.ok I.hok;show#[Y0,r,#[_,n,e,rfl,rfl,rfl],z]
 .show#[Y0.toList,r,#[o,n,I.SX a o f,b,c,↑d],?_];let e:=r.length;simp only[Ŕ] at e;lia
def Inv.tuple(I:Inv X ZB Y H s)(h:CD X.K H a xs):∃Y0:List Å,Vals xs Y0/\IsTup s.heap a Y0.toArray/\xs.length<=sizeLine:=by
 obtain h|⟨o,Y0,n,d,b,c,hz,r⟩:=h
 .let⟨z,Y0,r,p⟩:=h.ok I.hok;show#[Y0,r,p,z]
 .show#[Y0.toList,r,#[o,I.SX a o d,b,n,↑c],?_];let e:=r.length;simp only[Ŕ] at e;lia
def Inv.qf(I:Inv X ZB Y H s)(h:cS X.K H a xs)(h':cS X.K H a ys):xs=ys:=by
 let⟨Y0,r,⟨o,n,e,_,_,d⟩,_⟩:=I.list h;let⟨its',r',⟨o',c,b,_,_,d'⟩,_⟩:=I.list h';rw[e] at b;cases b;rw[d] at d';injection d' with d1 _;let:Y0=its':=by simpa using congrArg Array.toList d1
 subst this;show r.inj r'
def Inv.GQ(I:Inv X ZB Y H s)(h:CD X.K H a xs)(h':CD X.K H a ys):xs=ys:=by
 let⟨Y0,r,⟨o,e,_,n,d⟩,_⟩:=I.tuple h;let⟨its',r',⟨o',b,_,c,d'⟩,_⟩:=I.tuple h';rw[e] at b;cases b;rw[d] at d';injection d' with d1 _;let:Y0=its':=by simpa using congrArg Array.toList d1
 subst this;show r.inj r'
end
abbrev Cx.xM(X:Cx)(E:Å->Æ->Prop):Cx:={X with xe:=E}
abbrev Cx.Pd(X:Cx):Cx:=X.xM λ_ _=>False
def Cx.Ok.xM{X:Cx}(ok:X.Ok)(E:Å->Æ->Prop):(X.xM E).Ok :=
 #[ok.mod,ok.kind,ok.glob,ok.blt,ok.above,ok.inj,ok.has,ok.cab,ok.hd,ok.frames,ok.stk,ok.exf,ok.bs,ok.bsz,ok.noex,ok.exfs,ok.rS,ok.frf]
def Cx.Ok.mT{E:Å->Æ->Prop}(ok:(X.xM E).Ok):X.Ok :=
 #[ok.mod,ok.kind,ok.glob,ok.blt,ok.above,ok.inj,ok.has,ok.cab,ok.hd,ok.frames,ok.stk,ok.exf,ok.bs,ok.bsz,ok.noex,ok.exfs,ok.rS,ok.frf]
section
variable{X:Cx}{ZB:List (Ç×ā)}{Y:St}{H:Hp}{s:Æ}{E:Å->Æ->Prop}
def Inv.xM(I:Inv X ZB Y H s)(E:Å->Æ->Prop):Inv (X.xM E) ZB Y H s:=#[I.ok.xM E,I.os,I.bare,I.base,I.loc,I.cell,I.free,I.freeC,I.pin,I.hok,I.len]
def Inv.mT(I:Inv (X.xM E) ZB Y H s):Inv X ZB Y H s:=#[I.ok.mT,I.os,I.bare,I.base,I.loc,I.cell,I.free,I.freeC,I.pin,I.hok,I.len]
def SP.mT{D:Ends}{f:Flow}{s':Æ}(h:SP (X.xM E) ZB D f s'):SP X ZB D f s':=by
 cases f with
 |next=>let⟨Y',H',I,q⟩:=h;show#[Y',H',I.mT,q]
 |brk=>let⟨Y',H',I,q⟩:=h;show#[Y',H',I.mT,q]
 |cont=>let⟨Y',H',I,q⟩:=h;show#[Y',H',I.mT,q]
 |ret u=>let⟨v,Y',H',I,r,q⟩:=h;show#[v,Y',H',I.mT,r,q]
def wu.Pd{st:List Ð}{t:TS}(h:wu X.Pd st t):wu X st t:=λZB s Y H D I a =>
 ϥ (h ZB s Y H D (I.xM _) a) (λ_ _ q=>q.mT) λ_ _ z=>ă z
variable{st:Ð}{rest:List Ð}{t u:TS}{e:Ô}{te:TE}{pos:ï}
def TU:TS:=λD Y H=>D.nx Y H
def Wv(t u:TS):TS:=λD Y H=>t {D with nx:=u D} Y H
def Oj:wu X [] TU:=λ_ _ Y H _ I h=>ahS #[Y,H,I,h]
def Kn(h1:PS X st t)(h2:wu X rest u):wu X (st::rest) (Wv t u):=by
 intro ZB s Y H D I h;show wpAny_execs_cons (cH (h1 ZB s Y H {D with nx:=u D} I h) λf b q=>?_);cases f with
 |next =>
  let⟨Y',H',a,q⟩:=q;show h2 ZB b Y' H' D a q
 |ret v=>show q
 |brk=>show q
 |cont=>show q
def Inv.quiet{ZB:List (Ç×ā)}{Y:St}{H:Hp}{s:Æ}(I:Inv X ZB Y H s):interactive X.env=Â:=by simp[interactive,I.ok.kind]
def T_(te:TE):TS:=λD Y H=>te Y H λ_ H1=>D.nx Y H1
def nQ(he:PE X e te)(b:î e none pos.line X.env=pure Â<|>zra):PS X (.Expr e pos) (T_ te):=by
 intro ZB s Y H D I h;show wpAny_Expr_any (cH (he ZB s Y H _ I h) λv d ⟨x,H1,a,f,c⟩=>#[Y,H1,a,c]) I.quiet b
def WL(te:TE):TS:=λD Y H=>te Y H D.rt
def Mg(he:PE X e te):PS X (.Return (À e) pos) (WL te):=by
 intro ZB s Y H D I h;show wpAny_Return_some (cH (he ZB s Y H _ I h) λv d ⟨x,H1,a,c,b⟩=>#[x,Y,H1,a,c,b])
def Xq(c:TT)(t u:TS):TS:=λD Y H=>c Y H λb H1=>if b=Á then t D Y H1 else u D Y H1
def PL{a b:List Ð}{tc:TT}(i:PT X c tc)(ha:wu X a t)(j:wu X b u):PS X (.If c a b pos) (Xq tc t u):=by
 intro ZB s Y H D I h;show wpAny_If (cH (i ZB s Y H _ I h) λd f ⟨H1,e,g⟩=>?_);cases d with
 |true=>show ha ZB f Y H1 D e g
 |false=>show j ZB f Y H1 D e g
def QX:TS:=λ_ _ _=>False
def yA{a:List Ð}:wu X a QX:=λ_ _ _ _ _ _ h=>h.elim
end
abbrev TG:=V->St->Hp->(St->Hp->Prop)->Prop
variable{g:TG}
abbrev QR:=List V->St->Hp->(St->Hp->Prop)->Prop
def PG(X:Cx)(target:Ô)(t:TG):Prop :=
 ∀(ZB:List (Ç×ā)) (s:Æ) (Y:St) (H:Hp) (v:V) (u:Å) (Q:St->Hp->Prop),Inv X ZB Y H s->RelV v u->t v Y H Q ->
  Î .F X.A (Ć target X.env u) (λ_ s'=>∃Y' H',Inv X ZB Y' H' s'/\Q Y' H') X.xe s
def V7(X:Cx)(a:List Ô)(t:QR):Prop :=
 ∀(ZB:List (Ç×ā)) (s:Æ) (Y:St) (H:Hp) (vs:List V) (us:List Å) (Q:St->Hp->Prop),Inv X ZB Y H s->Vals vs us->t vs Y H Q ->
  Î .F X.A (assignInOrder ((Û a X.env).map (·.2)) us) (λ_ s'=>∃Y' H',Inv X ZB Y' H' s'/\Q Y' H') X.xe s
abbrev Ta:=V->V->V->Hp->(Hp->Prop)->Prop
def UU(X:Cx)(t:Ta):Prop :=
 ∀(ZB:List (Ç×ā)) (s:Æ) (Y:St) (H:Hp) (o i v:V) (a b u:Å) (Q:Hp->Prop),Inv X ZB Y H s->RelV o a->RelV i b->RelV v u->t o i v H Q ->
  Î .F X.A (setItem a b u) (λ_ s'=>∃H',Inv X ZB Y H' s'/\Q H') X.xe s
section
variable{X:Cx}{pos:ï}
def l_(i:Nat):TG:=λv Y H Q=>Q (Y.set i (À v)) H
def ib(b:X.N.Nodup)(hi:X.N[i]?=À x)(d:Loc X.env.scope x)(c:X.fn x=Á\/X.env.scope.names.lookup x=À .local<|>zrf):PG X (.Name x pos) (l_ i):=by
 intro ZB s Y H v u Q I r h;show wpAny_assign_Name (Bl I b hi d r (λs' a=>#[_,H,a,h]) c)
def Oz:QR:=λvs Y H Q=>vs=[]/\Q Y H
def xg(t:TG)(u:QR):QR:=λvs Y H Q=>∃v r,vs=v::r/\t v Y H λY' H'=>u r Y' H' Q
def AE:V7 X [] Oz:=by
 intro ZB s Y H vs us Q I r h;let⟨e,h⟩:=h;subst e;cases r;show assignInOrder_nil #[Y,H,I,h]
def gI{es:List Ô}{t:TG}{u:QR}(h1:PG X e t)(h2:V7 X es u)
  (d:(Û (e::es) X.env).map (·.2)=Ć e X.env::(Û es X.env).map (·.2)<|>zra):V7 X (e::es) (xg t u):=by
 intro ZB s Y H vs us Q I r h;let⟨v,g,e1,h⟩:=h;subst e1;cases r with
 |cons r c =>
  rw[d];show assignInOrder_cons (cH (h1 ZB s Y H _ _ _ I r h) λ_ b ⟨σ1,H1,a,f⟩=>?_);show h2 ZB b σ1 H1 _ _ Q a c f
def NV(K:Ä)(n:Nat)(t:QR):TG:=λv Y H Q=>∃a xs,v=.ref a/\CD K H a xs/\xs.length=n/\t xs Y H Q
def Dq{es:List Ô}{t:QR}(g:X.calm=Á)(h:V7 X es t)
  (q:(Û es X.env).length=n<|>zra) (c:(Û es X.env).findIdx? (·.1)=none<|>zra):PG X (.Tuple es k pos) (NV X.K n t):=by
 intro ZB s Y H v u Q I r d;let⟨a,xs,e1,l,p,d⟩:=d;subst e1;cases r;let⟨Y0,f,m,hz⟩:=I.tuple l;show assign_Tuple_tuple (I.ok.hd g) m (by simp[q,<-p,f.length]) c λh' j=>?_;let i:Inv X ZB Y H {s with heap:=h'}:=I.kept (t':=s.toks) λb o e=>j b o (ĸ (ĕ e)) e;show h ZB _ Y H xs _ Q i ↑f d
def W9(to b:TE)(t:Ta):TG:=λv Y H Q=>to Y H λo H1=>b Y H1 λi H2=>t o i v H2 λa=>Q Y a
def Ja{o i:Ô}{to c:TE}{t:Ta}(j:PE X o to)(hi:PE X i c)(m:UU X t)
  (ha:∀v,Ć (.Subscript o i pos) X.env v=(do
   let a <-ġ [v] (Õ o X.env);let b <-ġ [v,a] (Õ i X.env)
   Ϙ pos
   ġ [v,a,b] (setItem a b v)
   release [v,a,b] []):=by intro _;rfl):PG X (.Subscript o i pos) (W9 to c t):=by
 intro ZB s Y H v u Q I r h;rw[ha];show â (ϻ (cH (j ZB s Y H _ I h) λa g ⟨x,H1,d,q,n⟩=>?_));show â (ϻ (cH (hi ZB g Y H1 _ d n) λb w ⟨y,H2,p,e,l⟩=>?_));show â (Ξ (â (ϻ (cH (m ZB w Y H2 x y v a b u _ p q e r l) λ_ A ⟨k,f,z⟩=>?_))));show wpAny_release #[Y,k,f,z]
def VH(te:TE)(g:TG):TS:=λD Y H=>te Y H λx H1=>g x Y H1 D.nx
def D6{te:TE}(he:PE X e te)(c:PG X tg g)(f:ő [tg] e pos.line X.env=pure Â<|>zra)(d:Œ [tg] e X.env=pure none<|>zra)
  (h1:(Û [tg] X.env).map (·.2)=[Ć tg X.env]<|>zra):PS X (.Assign [tg] e pos) (VH te g):=by
 intro ZB s Y H D I h;show wpAny_Assign_stores (cH (he ZB s Y H _ I h) λv b ⟨x,H1,a,i,j⟩=>?_) f d;rw[h1];show cH (c ZB b Y H1 x v _ a i j) λ_ k q=>q
def oR{te:TE}{pos':ï}(a:X.N.Nodup)(hi:X.N[i]?=À x)(d:Loc X.env.scope x)(he:PE X e te)(g:î e (À (.Name x pos')) pos.line X.env=pure Â<|>zra)(c:X.fn x=Á\/X.env.scope.names.lookup x=À .local<|>zrf):
  PS X (.Assign [.Name x pos'] e pos) (VH te (l_ i)):=by
 intro ZB s Y H D I h;show wpAny_Assign_Name (cH (he ZB s Y H _ I h) λv l ⟨y,H1,b,f,k⟩=>?_) g;show Bl b a hi d f (λm j=>#[_,H1,j,k]) c
def S4(c:TT)(tb:TS):TS:=λD Y H=>∃W:Nat->St->Hp->Prop,(∃m,W m Y H)/\∀m Y H,W m Y H ->
 c Y H λb H1=>if b=Á then ∃N:St->Hp->Prop,(∀Y' H',N Y' H'->∃a,a<m/\W a Y' H')/\tb {D with nx:=N,ct:=N,bk:=D.nx} Y H1 else D.nx Y H1
def IB{tc:TT}(hp:ķ .F X.A X.env X.xe)(x:PT X c tc)(q:wu X body tb):PS X (.While c body [] pos) (S4 tc tb):=by
 intro ZB s Y H D I h;let⟨W,⟨u,y⟩,turn⟩:=h;show wpAny_While (codeAny_whileLoop (λn s'=>∃Y' H',Inv X ZB Y' H' s'/\W n Y' H') ?_ u #[Y,H,I,y]);rintro n r ⟨σ1,H1,p,t⟩;show afD hp (cH (x ZB r σ1 H1 _ p (turn n σ1 H1 t)) λb z ⟨H2,o,d⟩=>?_);cases b with
 |true =>
  let⟨N,m,d⟩:=d;rw[ac6 rfl];show afD hp (cH (q ZB z σ1 H2 _ o d) λf B e=>?_);cases f with
  |next =>
   let⟨σ3,a,i,k⟩:=e;let⟨g,l,j⟩:=m σ3 a k;show#[g,l,σ3,a,i,j]
  |cont =>
   let⟨σ3,a,i,k⟩:=e;let⟨g,l,j⟩:=m σ3 a k;show#[g,l,σ3,a,i,j]
  |brk=>show e
  |ret v=>show e
 |false =>
  rw[ac2 ł];show ahS #[σ1,H2,o,d]
end
structure It where
 go:Nat->Hp->Prop
 yld:Nat->Hp->V->Hp->Prop
 stop:Nat->Hp->Prop
def xF(X:Cx)(ZB:List (Ç×ā))(H:Hp)(b:Ç):Prop :=
 H b=none/\b≠X.env.locals/\b∉X.fs/\(b∈X.ex\/X.s₀.heap.objs.size<=b)/\(∀x c,X.env.cells.lookup x=À c->c≠b)/\∀p∈X.pn++ZB,p.1≠b
def Inv.Hq{H':Hp}(I:Inv X ZB Y H s)(a:s.heap.objs.size<=b)(d:H' b=none):xF X ZB H' b:=by
 show#[d,ahB (Ś I.lt a),I.WK a,.inr (ĭ I.sz a),λx c e z=>?_,λp hp z=>?_]
 .let⟨v,q⟩:=I.cell x c e;show absurd (Ś q.lt (by rwa[z])) (afG _)
 .show absurd (Ś (ĕ (I.pin p hp).1) (by rwa[z])) (afG _)
structure Turn(P:Ó)(w:Ü)(K:Ä)(tg:Ô)(J:It)(fp:List Ç)(it:Ç)(tn:Nat->á->Prop):Prop where
 mem:it∈fp
 obj:∀i h,tn i h->∀b∈fp,∃o,h.get? b=À o/\∀v,o.data≠.cell v
 keep:∀i h h',tn i h->(∀b∈fp,∀o,h.get? b=À o->h'.get? b=À o)->tn i h'
 item:∀(X:Cx),X.prog=P->X.w=w->X.K=K->X.calm=Á->∀(i:Nat) (ZB:List (Ç×ā)) (s:Æ) (Y:St) (H:Hp) (E:Å->Æ->Prop),Inv X ZB Y H s->(∀b∈fp,xF X ZB H b)->tn i s.heap->J.go i H ->
  Î (Ñ P w) X.A (Ħ (.ref it)) (λr s1=>∃u,r=À u /\
   Î (Ñ P w) X.A (Ļ tg (.ref it) u) (λ_ s2=>∃x H',Inv X ZB Y H' s2/\RelV x u/\J.yld i H x H'/\tn (i+1) s2.heap/\∀b∈fp,H' b=none) E s1) E s
 done:∀(X:Cx),X.prog=P->X.w=w->X.K=K->X.calm=Á->∀(i:Nat) (ZB:List (Ç×ā)) (s:Æ) (Y:St) (H:Hp) (E:Å->Æ->Prop),Inv X ZB Y H s->(∀b∈fp,xF X ZB H b)->tn i s.heap->J.stop i H ->
  Î (Ñ P w) X.A (Ħ (.ref it)) (λr s1=>r=none/\Inv X ZB Y H s1) E s
 self:∀(A:è) (i:Nat) (s:Æ) (Q:Å->Æ->Prop) (E:Å->Æ->Prop),tn i s.heap->Q (.ref it) s->Î (Ñ P w) A (Ũ (.ref it)) Q E s
abbrev TI:=St->Hp->(It->Hp->Prop)->Prop
def Xa(X:Cx)(ZB:List (Ç×ā))(Y:St)(tg:Ô)(R:It->Hp->Prop)(a:Å)(c:Æ):Prop :=
 ∃(d:Ç) (fp:List Ç) (tn:Nat->á->Prop) (J:It) (H':Hp),a=.ref d/\Inv X ZB Y H' c/\Turn X.prog X.w X.K tg J fp d tn/\tn 0 c.heap/\(∀b∈fp,xF X ZB H' b)/\R J H'
def PI(X:Cx)(tg iter:Ô)(wi:TI):Prop :=
 ∀(ZB:List (Ç×ā)) (s:Æ) (Y:St) (H:Hp) (R:It->Hp->Prop),Inv X ZB Y H s->wi Y H R ->
  Î .F X.A (Õ iter X.env) (λv a=>Î .F X.A (Ũ v) (Xa X ZB Y tg R) X.xe a) X.xe s
def Fg{α : Model}{A : è}{E : Å->Æ->Prop}{s : Æ}{tg : Ô}{b : Ç}{u : Å}{o : ā}{n : String}{vs : Array Å}{Q : Unit->Æ->Prop}(d : s.heap.get? b=À o)(c : o.cls=.type n)(e : o.data=.fields vs)
    (f : ["enumerate","zip","dict_itemiterator","dict_reverseitemiterator","odict_iterator","itertools.zip_longest","itertools.pairwise"].contains n=Â) (a : Q () s) : Î α A (Ļ tg (.ref b) u) Q E s:=by
  unfold Ļ
  cases tg<;>first
    |show ù a
    | (cases u <;> first
        |show ù a
        | (show â (wpAny_load d ?_)
           rw[c,e];change Î α A (if (["enumerate","zip","dict_itemiterator","dict_reverseitemiterator","odict_iterator","itertools.zip_longest","itertools.pairwise"].contains n&&vs[0]?==À (ĉ _))=Á then _ else _) Q E s;rw[ac2 (by intro h;rw[f,Bool.false_and] at h;cases h)]
           show ù a))
def Ui(K:Ä)(a:Ç):It :=
 #[λi H=>∃xs x,cS K H a xs/\xs[i]?=À x,λi H x H'=>H'=H/\∀xs,cS K H a xs->xs[i]?=À x,λi H=>∃xs,cS K H a xs/\xs.length<=i]
def XH(K:Ä)(a:Ç):It :=
 #[λi H=>∃xs x,CD K H a xs/\xs[i]?=À x,λi H x H'=>H'=H/\∀xs,CD K H a xs->xs[i]?=À x,λi H=>∃xs,CD K H a xs/\xs.length<=i]
def RS(lo:Int)(n:Nat):It:=#[λi _=>i<n,λi H x H'=>H'=H/\x=.int (lo+i),λi _=>n<=i]
def HC(a g:Ç):Turn P w K tg (Ui K a) [g] g (λi h=>h.IsListIter g a i) where
 mem:=by simp
 obj:=λi h st b f=>by
  let e:b=g:=by simpa using f
  subst e;let⟨o,e,c,d⟩:=st;show#[o,e,λv z=>by rw[d] at z;cases z]
 keep:=λi h h' st k=>st.at λo e=>k g .c o e
 item:=by
  intro X y D r J i ZB s Y H E I l st C;subst y D r;let⟨xs,x,m,t⟩:=C;let⟨Y0,B,p,hz⟩:=I.list m;let⟨u,S,O⟩:=B.get t;let⟨F,A,R,G,n,q⟩:=l g .c;show wpAny_pyNext_list_item st p.isList (x:=u) ↑S λh' j N=>?_;let α:Inv X ZB Y H {s with heap:=h'}:=I.turned (t':=s.toks) (λb o f e=>(N.2 b f).trans e) F A G n q;let⟨o,e,c,d⟩:=id j;show#[u,rfl,Fg (s:={s with heap:=h'}) e c d .a #[x,H,α,O,#[rfl,λys Q=>by rw[I.qf Q m];show t],j,λb f=>(l b f).1]]
 done:=by
  intro X y D r J i ZB s Y H E I l st C;subst y D r;let⟨xs,m,t⟩:=C;let⟨Y0,B,p,hz⟩:=I.list m;let⟨F,A,R,G,n,q⟩:=l g .c;let T:=B.length;show wpAny_pyNext_list_end (I.ok.hd J) st p.isList (by simp;lia) λh' L=>#[rfl,I.turned (t':=s.toks) (λb o f e=>L b o f e) F A G n q]
 self:=λ_ _ _ _ _ st h=>wpAny_pyIter_listiter st h
def Ec(a g:Ç):Turn P w K tg (XH K a) [g] g (λi h=>h.IsTupleIter g a i) where
 mem:=by simp
 obj:=λi h st b f=>by
  let e:b=g:=by simpa using f
  subst e;let⟨o,e,c,d⟩:=st;show#[o,e,λv z=>by rw[d] at z;cases z]
 keep:=λi h h' st k=>st.at λo e=>k g .c o e
 item:=by
  intro X y D r J i ZB s Y H E I l st C;subst y D r;let⟨xs,x,m,t⟩:=C;let⟨Y0,B,p,hz⟩:=I.tuple m;let⟨u,S,O⟩:=B.get t;let⟨F,A,R,G,n,q⟩:=l g .c;show wpAny_pyNext_tuple_item st (show s.heap.IsTuple a Y0.toArray from p) (x:=u) ↑S λh' j N=>?_;let α:Inv X ZB Y H {s with heap:=h'}:=I.turned (t':=s.toks) (λb o f e=>(N.2 b f).trans e) F A G n q;let⟨o,e,c,d⟩:=id j;show#[u,rfl,Fg (s:={s with heap:=h'}) e c d .a #[x,H,α,O,#[rfl,λys Q=>by rw[I.GQ Q m];show t],j,λb f=>(l b f).1]]
 done:=by
  intro X y D r J i ZB s Y H E I l st C;subst y D r;let⟨xs,m,t⟩:=C;let⟨Y0,B,p,hz⟩:=I.tuple m;let⟨F,A,R,G,n,q⟩:=l g .c;let T:=B.length;show wpAny_pyNext_tuple_end (I.ok.hd J) st (show s.heap.IsTuple a Y0.toArray from p) (by simp;lia) λh' L=>#[rfl,I.turned (t':=s.toks) (λb o f e=>L b o f e) F A G n q]
 self:=λ_ _ _ _ _ st h=>wpAny_pyIter_tupleiter st h
def CF(a:Ç)(lo:Int)(n:Nat):Turn P w K tg (RS lo n) [a] a (λi h=>ű h a (lo+(i:Nat)*1) ((n:Int)-(i:Nat)) 1) where
 mem:=by simp
 obj:=λi h st b c=>by
  let e:b=a:=by simpa using c
  subst e
  show#[_,st,λv z=>by
   let B:Data.fields _=Data.cell v:=z
   cases B]
 keep:=λi h h' st k=>k a .c _ st
 item:=by
  intro X p u l m i ZB s Y H E I f st r;subst p u l;let⟨x,q,D,y,g,j⟩:=f a .c;let W:=Walks.range (prog:=X.prog) (w:=X.w) (I.ok.hd m) a lo 1 n;show W.item i s _ _ r st λv h' tk F d kk=>?_;let⟨t,rfl⟩:=F;let C:Inv X ZB Y H {s with heap:=h',toks:=tk}:=I.turned (λb o c e=>kk b o ↑c e) x q y g j;show#[_,rfl,Fg (s:={s with heap:=h',toks:=tk}) (n:="range_iterator") d rfl rfl .a #[.int (lo+i),H,C,#[t,?_],#[rfl,rfl],d,λb c=>(f b c).1]];rw[Ċ]
 done:=by
  intro X p u l m i ZB s Y H E I f st r;subst p u l;let⟨x,q,D,y,g,j⟩:=f a .c;show ϕ (I.ok.hd m) st (by let:n<=i:=r;lia) λh' A=>#[rfl,I.turned (t':=s.toks) (λb o c e=>A b o c e) x q y g j]
 self:=λ_ _ _ _ _ st h=>ϖ st h
section
variable{X:Cx}{tg:Ô}
def US(K:Ä)(tl:TE):TI:=λY H R=>tl Y H λx H1=>∃a,x=.ref a/\(∃xs,cS K H1 a xs)/\R (Ui K a) H1
def Xg(K:Ä)(tl:TE):TI:=λY H R=>tl Y H λx H1=>∃a,x=.ref a/\(∃xs,CD K H1 a xs)/\R (XH K a) H1
def Gn{l:Ô}{tl:TE}(j:PE X l tl):PI X tg l (US X.K tl):=by
 intro ZB s Y H R I h;show cH (j ZB s Y H _ I h) λv d ⟨x,H1,c,i,k⟩=>?_;let⟨a,e,⟨xs,g⟩,q⟩:=k;subst e;cases i;let⟨Y0,m,p,hz⟩:=c.list g;show ahr p.isList ?_;show#[d.heap.objs.size,[d.heap.objs.size],_,_,H1,rfl,c.kept (t':=d.toks) λb o e=>Ī _ e,HC a _,#[_,ŏ _ rfl,rfl,rfl],λb f=>?_,q];let e:b=d.heap.objs.size:=by simpa using f
 subst e;show c.Hq (ú _) (c.hok.fresh (ú _))
def Qp{l:Ô}{tl:TE}(j:PE X l tl):PI X tg l (Xg X.K tl):=by
 intro ZB s Y H R I h;show cH (j ZB s Y H _ I h) λv c ⟨x,H1,d,i,k⟩=>?_;let⟨a,e,⟨xs,g⟩,q⟩:=k;subst e;cases i;let⟨Y0,m,p,hz⟩:=d.tuple g;show wpAny_pyIter_tuple (show c.heap.IsTuple a Y0.toArray from p) ?_;show#[c.heap.objs.size,[c.heap.objs.size],_,_,H1,rfl,d.kept (t':=c.toks) λb o e=>Ī _ e,Ec a _,#[_,ŏ _ rfl,rfl,rfl],λb f=>?_,q];let e:b=c.heap.objs.size:=by simpa using f
 subst e;show d.Hq (ú _) (d.hok.fresh (ú _))
def KG{R:It->Hp->Prop}{E:Å->Æ->Prop}{lo hi:Int}{t u v:Tok}{tk:Nat}(I:Inv X ZB Y H s)(h1:-(2^62)<=lo)(h2:lo<2^62)(d:-(2^62)<=hi)(f:hi<2^62)
  (q:R (RS lo ↥(hi-lo)) H):Î .F X.A (Ũ (.ref s.heap.objs.size)) (Xa X ZB Y tg R) E {s with heap:=s.heap.push {cls:=.type "range",data:=.fields (ß [.int lo t,.int hi u,.int 1 v])},toks:=tk}:=by
 show wpAny_pyIter_range (IsRange.new ..) (small_one h1 h2 d f) ?_;let a:Inv X ZB Y H {s with heap:=s.heap.push {cls:=.type "range",data:=.fields (ß [.int lo t,.int hi u,.int 1 v])},toks:=tk}:=I.kept λb o e=>Ī _ e
 show#[(s.heap.push {cls:=.type "range",data:=.fields (ß [.int lo t,.int hi u,.int 1 v])}).objs.size,[(s.heap.push {cls:=.type "range",data:=.fields (ß [.int lo t,.int hi u,.int 1 v])}).objs.size],_,_,H,rfl,
  a.kept (t':=tk) λb o e=>Ī _ e,CF _ lo ↥(hi-lo),?_,λb c=>?_,q]
 .let e1:lo+((0:Nat):Int)*1=lo:=by simp
  let e2:((↥(hi-lo):Nat):Int)-((0:Nat):Int)=Ò lo hi 1:=by rw[rangeSize_one];split<;>lia
  change ű _ _ (lo+((0:Nat):Int)*1) (((↥(hi-lo):Nat):Int)-((0:Nat):Int)) 1;rw[e1,e2];show ŏ _ rfl
 .let e:b=(s.heap.push {cls:=.type "range",data:=.fields (ß [.int lo t,.int hi u,.int 1 v])}).objs.size:=by simpa using c
  subst e;show a.Hq (ú _) (a.hok.fresh (ú _))
def VC(ta:TA):TI:=λY H R=>ta Y H λvs H1=>∃j:Int,vs=[.int j]/\-(2^62)<=j/\j<2^62/\R (RS 0 ↥j) H1
def yC{a:Ô}{ta:TA}{p pos:ï}(d:Gl X "range")(g:X.mg "range"=none)(ha:PA X [a] ta)(l:Ã [a] X.env=[(Â,Õ a X.env)]<|>zra):PI X tg (.Call (.Name "range" p) [a] [] pos) (VC ta):=by
 intro ZB s Y H R I h;show Call_ (ja I d g boot_range (aeM (cH (ha pos ZB s Y H _ I h) λus m ⟨vs,H1,c,f,b⟩=>?_) l rfl));let⟨j,e,b,k,q⟩:=b;subst e;cases f with
 |cons r i =>
  cases i;let⟨t,rfl⟩:=r;show call_range_1 (KG c .b .b b k ↑q)
def Xk(wi:TI)(g:TG)(tb:TS):TS:=λD Y H=>wi Y H λJ H1=>∃W:Nat->Nat->St->Hp->Prop,(∃m,W 0 m Y H1)/\∀i m Y H,W i m Y H ->
 (J.stop i H/\D.nx Y H)\/(J.go i H/\∃N:St->Hp->Prop,(∀Y' H',N Y' H'->∃a,a<m/\W (i+1) a Y' H')/\∀x H',J.yld i H x H'->g x Y H' λσ2 H2=>tb {D with nx:=N,ct:=N,bk:=D.nx} σ2 H2)
noncomputable def wJ(fp:List Ç)(h:á):List (Ç×ā):=fp.filterMap λb=>(h.get? b).map λo=>(b,o)
def kP{fp:List Ç}(a:b∈fp)(e:h.get? b=À o):(b,o)∈wJ fp h:=List.mem_filterMap.mpr #[b,a,by rw[e];rfl]
def HP{fp:List Ç}{p:Ç×ā}(hp:p∈wJ fp h):p.1∈fp/\h.get? p.1=À p.2:=by
 let⟨b,c,e⟩:=List.mem_filterMap.mp hp;cases q:h.get? b with
 |none=>rw[q] at e;cases e
 |some o =>
  rw[q] at e;let a:(b,o)=p:=ĳ e;subst a;show#[c,q]
def Inv.pinned{fp:List Ç}(I:Inv X ZB Y H s)(f:∀b∈fp,xF X ZB H b)(i:∀b∈fp,∃o,s.heap.get? b=À o/\∀v,o.data≠.cell v):Inv X (ZB++wJ fp s.heap) Y H s :=
 I.qq λp hp=>(adQ.mp hp).elim (λz=>I.pin p (ŧ _ z)) λz=>by
  let⟨a,e⟩:=HP z;let⟨j,h,g,_⟩:=f p.1 a;let⟨o,c,d⟩:=i p.1 a;rw[e] at c;cases c;show#[e,j,h,g,d]
def Inv.qg{pl:List (Ç×ā)}(I:Inv X (ZB++pl) Y H s):Inv X ZB Y H s:=I.qq λp hp=>I.pin p (ŧ _ (aeA _ hp))
def Ay{iter:Ô}{wi:TI}{pos:ï}(hp:ķ .F X.A X.env X.xe)(O:X.calm=Á)(hi:PI X tg iter wi)(hg:PG X tg g)(j:wu X body tb)
  (Z:(∀x,Þ iter X.env x=pure x)<|>zrc):PS X (.For tg iter body [] pos) (Xk wi g tb):=by
 intro ZB s Y H D I h;show wpAny_For (cH (hi ZB s Y H _ I h) λv s1 h1=>cH h1 λitv s2 h2=>?_) Z;let⟨it,fp,tn,J,H2,e,I2,T,G,P,W,⟨σ,w0⟩,turn⟩:=h2;subst e
 -- what stays Á of the iterator's objects through the loop
 let k:∀{H':Hp},(∀b∈fp,H' b=none)->∀b∈fp,xF X ZB H' b:=λhn b j=>#[hn b j,(P b j).2];show codeAny_forLoop_any (λn s'=>∃i Y' H',Inv X ZB Y' H' s'/\tn i s'.heap/\(∀b∈fp,H' b=none)/\W i n Y' H') ?_ σ #[0,Y,H2,I2,G,λb j=>(P b j).1,w0];rintro n α ⟨i,σ3,z,L,y,t,w3⟩;obtain⟨stop,qn⟩|⟨go,N,hN,step⟩:=turn i n σ3 z w3
 .show afD hp (cH (T.done X rfl rfl rfl O i ZB α σ3 z X.xe L (k t) y stop) λr s4 ⟨E,I4⟩=>?_);subst E;show ahS #[σ3,z,I4,qn]
 .show afD hp (cH (T.item X rfl rfl rfl O i ZB α σ3 z X.xe L (k t) y go) λr s4 ⟨u,E,V⟩=>?_);subst E;show afD hp (cH V λ_ Q ⟨x,K,I5,r5,y5,p,F⟩=>?_);let C:=I5.pinned (k F) (T.obj _ _ p);show afD hp (cH (hg _ Q σ3 K x u _ C r5 (step x K y5)) λ_ R ⟨σ6,H6,I6,q6⟩=>?_);show afD hp (cH (j _ R σ6 H6 _ I6 q6) λf B l=>?_)
  let Β:∀{σ7:St} {a:Hp},Inv X (ZB++wJ fp Q.heap) σ7 a B->N σ7 a->∃m,m<n/\∃i Y' H',Inv X ZB Y' H' B/\tn i B.heap/\(∀b∈fp,H' b=none)/\W i m Y' H':=λ{σ7 a} c q=>by
   let⟨S,hm,w7⟩:=hN σ7 a q;show#[S,hm,i+1,σ7,a,c.qg,T.keep _ _ _ p λb j o e=>(c.pin (b,o) (ŧ _ (ŧ _ (kP j e)))).1,λb j=>?_,w7];let⟨o,e,d⟩:=T.obj _ _ p b j;show(c.pin (b,o) (ŧ _ (ŧ _ (kP j e)))).2.1
  cases f with
  |next=>let⟨σ7,a,c,q⟩:=l;show Β c q
  |cont=>let⟨σ7,a,c,q⟩:=l;show Β c q
  |brk=>let⟨σ7,a,c,l⟩:=l;show#[σ7,a,c.qg,l]
  |ret v=>let⟨Γ,σ7,a,c,r7,l⟩:=l;show#[Γ,σ7,a,c.qg,r7,l]
end
def JS{xs:List V}{D:Ends}(Pv:Nat->St->Hp->Prop)(h:Pv 0 Y H)(j:∀i Y H,i<=xs.length->Pv i Y H->cS K H a xs)
  (d:∀i x Y H,xs[i]?=À x->Pv i Y H->g x Y H λσ2 H2=>tb {D with nx:=Pv (i+1),ct:=Pv (i+1),bk:=D.nx} σ2 H2) (f:∀Y H,Pv xs.length Y H->D.nx Y H):
  ∃W:Nat->Nat->St->Hp->Prop,(∃m,W 0 m Y H)/\∀i m Y H,W i m Y H ->
   ((Ui K a).stop i H/\D.nx Y H)\/((Ui K a).go i H/\∃N:St->Hp->Prop,(∀Y' H',N Y' H'->∃c,c<m/\W (i+1) c Y' H')/\∀x H',(Ui K a).yld i H x H'->g x Y H' λσ2 H2=>tb {D with nx:=N,ct:=N,bk:=D.nx} σ2 H2):=by
 show#[λi m Y H=>m=xs.length-i/\i<=xs.length/\Pv i Y H,#[xs.length,.c,Ņ _,h],?_];rintro i m Y H ⟨rfl,hi,p⟩;let q:=j i Y H hi p;by_cases b:i<xs.length
 .show .inr #[#[xs,xs[i],q,by simp[b]],Pv (i+1),λY' H' p'=>#[xs.length-(i+1),.b,rfl,b,p'],λx H' y=>?_];let⟨e,y⟩:=y;subst e;show d i x Y _ (y xs q) p
 .let e:i=xs.length:=by lia
  subst e;show .inl #[#[xs,q,ú _],f Y H p]
def Hi{lo:Int}{D:Ends}(Pv:Nat->St->Hp->Prop)(f:Pv 0 Y H)
  (c:∀i Y H,i<n->Pv i Y H->g (.int (lo+i)) Y H λσ2 H2=>tb {D with nx:=Pv (i+1),ct:=Pv (i+1),bk:=D.nx} σ2 H2) (d:∀Y H,Pv n Y H->D.nx Y H):
  ∃W:Nat->Nat->St->Hp->Prop,(∃m,W 0 m Y H)/\∀i m Y H,W i m Y H ->
   ((RS lo n).stop i H/\D.nx Y H)\/((RS lo n).go i H/\∃N:St->Hp->Prop,(∀Y' H',N Y' H'->∃b,b<m/\W (i+1) b Y' H')/\∀x H',(RS lo n).yld i H x H'->g x Y H' λσ2 H2=>tb {D with nx:=N,ct:=N,bk:=D.nx} σ2 H2):=by
 show#[λi m Y H=>m=n-i/\i<=n/\Pv i Y H,#[n,.c,Ņ _,f],?_];rintro i m Y H ⟨rfl,hi,p⟩;by_cases a:i<n
 .show .inr #[a,Pv (i+1),λY' H' p'=>#[n-(i+1),.b,rfl,a,p'],λx H' y=>?_];let⟨e,y⟩:=y;subst e y;show c i Y _ a p
 .let e:i=n:=by lia
  subst e;show .inl #[ú _,d Y H p]
abbrev R2:=V->V->Hp->VK->Prop
variable{r:R2}
def lW(X:Cx)(f:Å->Å->Sem Å)(r:R2):Prop :=
 ∀(ZB:List (Ç×ā)) (s:Æ) (Y:St) (H:Hp) (x y:V) (v u:Å) (Q:VK),Inv X ZB Y H s->RelV x v->RelV y u->r x y H Q ->
  Î .F X.A (f v u) (EP X ZB Y Q) X.xe s
def Xc(X:Cx)(f:Å->Sem Å)(r:V->Hp->VK->Prop):Prop :=
 ∀(ZB:List (Ç×ā)) (s:Æ) (Y:St) (H:Hp) (x:V) (v:Å) (Q:VK),Inv X ZB Y H s->RelV x v->r x H Q ->
  Î .F X.A (f v) (EP X ZB Y Q) X.xe s
def h9(X:Cx)(f:Å)(r:List V->Hp->VK->Prop):Prop :=
 ∀(ZB:List (Ç×ā)) (s:Æ) (Y:St) (H:Hp) (xs:List V) (us:List Å) (Q:VK),Inv X ZB Y H s->Vals xs us->r xs H Q ->
  Î .F X.A (call f us) (EP X ZB Y Q) X.xe s
def V0(r:R2)(ta tb:TE):TE:=λY H Q=>ta Y H λx H1=>tb Y H1 λy H2=>r x y H2 Q
def X8(r:V->Hp->VK->Prop)(ta:TE):TE:=λY H Q=>ta Y H λx H1=>r x H1 Q
def rI(C:Int->Int->Prop)(g:Int->Int->V):R2:=λx y H Q=>∃i j,x=.int i/\y=.int j/\C i j/\Q (g i j) H
def NL(g:Int->Int->V):R2:=λx y H Q=>∃i j,x=.int i/\y=.int j/\Q (g i j) H
def rU(g:Int->V):V->Hp->VK->Prop:=λx H Q=>∃i,x=.int i/\Q (g i) H
section
variable{X:Cx}{a b c:Ô}{ta tb tc:TE}{pos:ï}
def S3(ha:PE X a ta)(g:PE X b tb){R:V->V->Hp->Prop}(I:Inv X ZB Y H s)
  (h:ta Y H λx H1=>tb Y H1 λy H2=>R x y H2) {Q:Å->Æ->Prop} {f:Å->Å->Sem Å}
  (i:∀v u c x y H2,Inv X ZB Y H2 c->RelV x v->RelV y u->R x y H2->Î .F X.A (f v u) Q X.xe c):
  Î .F X.A (Õ a X.env) (λv j=>Î .F X.A (Õ b X.env) (λu d=>Î .F X.A (f v u) Q X.xe d) X.xe j) X.xe s:=by
 show cH (ha ZB s Y H _ I h) λv l ⟨x,H1,e,m,o⟩=>?_;show cH (g ZB l Y H1 _ e o) λu c ⟨y,H2,p,k,n⟩=>?_;show i v u c x y H2 p m k n
def BX{op:Operator}(e:lW X (ď op) r)(ha:PE X a ta)(c:PE X b tb):PE X (.BinOp a op b pos) (V0 r ta tb):=by
 intro ZB s Y H Q I h;show wpAny_BinOp (S3 ha c I h λv u g x y H2 i f d q=>e ZB g Y H2 x y v u Q i f d q)
def Ud{op:UnaryOp}{r:V->Hp->VK->Prop}(b:Xc X (unaryOp op) r)(ha:PE X a ta):PE X (.UnaryOp op a pos) (X8 r ta):=by
 intro ZB s Y H Q I h;show UnaryOp_ (cH (ha ZB s Y H _ I h) λv d ⟨x,H1,c,f,e⟩=>b ZB d Y H1 x v Q c f e)
def Vl{C:Int->Int->Prop}{g:Int->Int->Int}
  (rule:∀(i j:Int) (t u:Tok) (s:Æ) (Q:Å->Æ->Prop) (E:Å->Æ->Prop),C i j->Q (.int (g i j) s.toks) {s with toks:=s.toks+1}->Î .F X.A (f (.int i t) (.int j u)) Q E s):
  lW X f (rI C λi j=>.int (g i j)):=by
 intro ZB s Y H x y v u Q I c b h;let⟨i,j,rfl,rfl,a,q⟩:=h;let⟨t,rfl⟩:=c;let⟨t',rfl⟩:=b;show rule i j t t' s _ _ a #[.int (g i j),H,I.tok _,#[_,rfl],q]
def UI{g:Int->Int->Int}
  (rule:∀(i j:Int) (t u:Tok) (s:Æ) (Q:Å->Æ->Prop) (E:Å->Æ->Prop),Q (.int (g i j) s.toks) {s with toks:=s.toks+1}->Î .F X.A (f (.int i t) (.int j u)) Q E s):
  lW X f (NL λi j=>.int (g i j)):=by
 intro ZB s Y H x y v u Q I b a h;let⟨i,j,rfl,rfl,q⟩:=h;let⟨t,rfl⟩:=b;let⟨t',rfl⟩:=a;show rule i j t t' s _ _ #[.int (g i j),H,I.tok _,#[_,rfl],q]
def N3{g:Int->Int->Bool}
  (rule:∀(i j:Int) (t u:Tok) (s:Æ) (Q:Å->Æ->Prop) (E:Å->Æ->Prop),Q (.bool (g i j)) s->Î .F X.A (f (.int i t) (.int j u)) Q E s):
  lW X f (NL λi j=>.bl (g i j)):=by
 intro ZB s Y H x y v u Q I b a h;let⟨i,j,rfl,rfl,q⟩:=h;let⟨t,rfl⟩:=b;let⟨t',rfl⟩:=a;show rule i j t t' s _ _ #[.bl (g i j),H,I,rfl,q]
def LS(i j:Int):Prop:=0<=j/\j<=1000000/\i.natAbs<2^64
def NN(i j:Int):Prop:=(-(2^64)<i/\i<2^64)\/(-(2^64)<j/\j<2^64)
def NN.ok{i j:Int}(h:NN i j):ĩ i j:=by
 obtain⟨h1,h2⟩|⟨h1,h2⟩:=h
 .show .of_left (intBits_le_64 h1 h2)
 .show .of_right (intBits_le_64 h1 h2)
def Q1:lW X (ď .Add) (NL λi j=>.int (i+j)):=UI λ_ _ _ _ _ _ _ q=>add_int q
def Sj:lW X (ď .Sub) (NL λi j=>.int (i-j)):=UI λ_ _ _ _ _ _ _ q=>sub_int q
def N2:lW X (ď .Mod) (rI (λ_ j=>j≠0) λi j=>.int (i.fmod j)):=Vl λ_ _ _ _ _ _ _ a q=>mod_int' a q
def Sh:lW X (ď .Pow) (rI LS λi j=>.int (i^↥j)):=Vl λ_ _ _ _ _ _ _ a q=>pow_int_small a.1 a.2.1 a.2.2 q
def Qr:lW X (ď .LShift) (rI LS λi j=>.int (i*2^↥j)):=Vl λ_ _ _ _ _ _ _ a q=>lshift_int_small a.1 a.2.1 a.2.2 q
def X_{f:Å->Sem Å}{g:Int->Int}
  (rule:∀(i:Int) (t:Tok) (s:Æ) (Q:Å->Æ->Prop) (E:Å->Æ->Prop),Q (.int (g i) s.toks) {s with toks:=s.toks+1}->Î .F X.A (f (.int i t)) Q E s):
  Xc X f (rU λi=>.int (g i)):=by
 intro ZB s Y H x v Q I a h;let⟨i,rfl,q⟩:=h;let⟨t,rfl⟩:=a;show rule i t s _ _ #[.int (g i),H,I.tok _,#[_,rfl],q]
def Sv:Xc X (unaryOp .USub) (rU λi=>.int (-i)):=X_ λ_ _ _ _ _ q=>neg_int q
end
noncomputable def Ug:V->V->Bool
 |.non,.non=>Á|.non,.int _=>Á|.int _,.non=>Á|.non,.bl _=>Á|.bl _,.non=>Á|.non,.str _=>Á|.str _,.non=>Á
 |.int _,.int _=>Á|.bl _,.bl _=>Á|.str _,.str _=>Á|.byt _,.byt _=>Á
 |.int _,.str _=>Á|.str _,.int _=>Á|.bl _,.str _=>Á|.str _,.bl _=>Á
 |_,_=>Â
def X9:R2:=λx y H Q=>Ug x y=Á/\Q (.bl (decide (x=y))) H
def X6:R2:=λx y H Q=>Ug x y=Á/\Q (.bl (!decide (x=y))) H
def uQ{i j:Int}:decide (V.int i=V.int j)=(i==j):=by
 rw[ae3];simp
def LI{i j:Bool}:decide (V.bl i=V.bl j)=(i==j):=by
 rw[ae3];simp
def Ez{i j:Í}:decide (V.str i=V.str j)=(i==j):=by
 rw[ae3];simp
def Eo{i j:Array UInt8}:decide (V.byt i=V.byt j)=(i.toList==j.toList):=by
 rw[ae3];cases i;cases j;simp
section
variable{X:Cx}{a b c:Ô}{ta tb tc:TE}{pos:ï}
def bF{k a:Bool}(I:Inv X ZB Y H s)(q:Q (.bl k) H)(e:k=a):EP X ZB Y Q (.bool a) s:=by
 subst e;show#[.bl k,H,I,rfl,q]
def Vp:lW X (å .Eq) X9:=by
 intro ZB s Y H x y v u Q I c a h;let⟨b,q⟩:=h;cases x with
 |non =>
  cases c;cases y with
  |non=>cases a;show PySem.EqNone.eq_none_none (bF I q .c)
  |bl j=>cases a;show PySem.EqNone.eq_none_bool (bF I q .c)
  |int j=>let⟨t',rfl⟩:=a;show PySem.EqNone.eq_none_int (bF I q .c)
  |str j=>let⟨t',rfl⟩:=a;show PySem.EqNone.eq_none_str (bF I q .c)
  |_=>show absurd (show Â=Á from b) ł
 |bl i =>
  cases c;cases y with
  |non=>cases a;show PySem.EqNone.eq_bool_none (bF I q .c)
  |bl j=>cases a;show eq_bool (bF I q LI)
  |str j=>let⟨t',rfl⟩:=a;show PySem.EqMixed.eq_bool_str (bF I q .c)
  |_=>show absurd (show Â=Á from b) ł
 |int i =>
  let⟨t,rfl⟩:=c;cases y with
  |non=>cases a;show PySem.EqNone.eq_int_none (bF I q .c)
  |int j=>let⟨t',rfl⟩:=a;show eq_int (bF I q uQ)
  |str j=>let⟨t',rfl⟩:=a;show PySem.EqMixed.eq_int_str (bF I q .c)
  |_=>show absurd (show Â=Á from b) ł
 |str i =>
  let⟨t,rfl⟩:=c;cases y with
  |non=>cases a;show PySem.EqNone.eq_str_none (bF I q .c)
  |bl j=>cases a;show PySem.EqMixed.eq_str_bool (bF I q .c)
  |int j=>let⟨t',rfl⟩:=a;show PySem.EqMixed.eq_str_int (bF I q .c)
  |str j=>let⟨t',rfl⟩:=a;show eq_str (bF I q Ez)
  |_=>show absurd (show Â=Á from b) ł
 |byt i =>
  let⟨t,rfl⟩:=c;cases y with
  |byt j=>let⟨t',rfl⟩:=a;show PySem.W.eq_bytes (bF I q Eo)
  |_=>show absurd (show Â=Á from b) ł
 |_=>cases y<;>show absurd (show Â=Á from b) ł
def TZ:lW X (å .NotEq) X6:=by
 intro ZB s Y H x y v u Q I c a h;let⟨b,q⟩:=h;cases x with
 |non =>
  cases c;cases y with
  |non=>cases a;show PySem.EqNone.ne_none_none (bF I q .c)
  |bl j=>cases a;show PySem.EqNone.ne_none_bool (bF I q .c)
  |int j=>let⟨t',rfl⟩:=a;show PySem.EqNone.ne_none_int (bF I q .c)
  |str j=>let⟨t',rfl⟩:=a;show PySem.EqNone.ne_none_str (bF I q .c)
  |_=>show absurd (show Â=Á from b) ł
 |bl i =>
  cases c;cases y with
  |non=>cases a;show PySem.EqNone.ne_bool_none (bF I q .c)
  |bl j=>cases a;show ne_bool (bF I q (congrArg not LI))
  |str j=>let⟨t',rfl⟩:=a;show PySem.EqMixed.ne_bool_str (bF I q .c)
  |_=>show absurd (show Â=Á from b) ł
 |int i =>
  let⟨t,rfl⟩:=c;cases y with
  |non=>cases a;show PySem.EqNone.ne_int_none (bF I q .c)
  |int j=>let⟨t',rfl⟩:=a;show ne_int (bF I q (congrArg not uQ))
  |str j=>let⟨t',rfl⟩:=a;show PySem.EqMixed.ne_int_str (bF I q .c)
  |_=>show absurd (show Â=Á from b) ł
 |str i =>
  let⟨t,rfl⟩:=c;cases y with
  |non=>cases a;show PySem.EqNone.ne_str_none (bF I q .c)
  |bl j=>cases a;show PySem.EqMixed.ne_str_bool (bF I q .c)
  |int j=>let⟨t',rfl⟩:=a;show PySem.EqMixed.ne_str_int (bF I q .c)
  |str j=>let⟨t',rfl⟩:=a;show ne_str (bF I q (congrArg not Ez))
  |_=>show absurd (show Â=Á from b) ł
 |byt i =>
  let⟨t,rfl⟩:=c;cases y with
  |byt j=>let⟨t',rfl⟩:=a;show PySem.W.ne_bytes (bF I q (congrArg not Eo))
  |_=>show absurd (show Â=Á from b) ł
 |_=>cases y<;>show absurd (show Â=Á from b) ł
def Ua:lW X (å .Lt) (NL λi j=>.bl (decide (i<j))):=N3 λ_ _ _ _ _ _ _ q=>lt_int q
def UD:lW X (å .LtE) (NL λi j=>.bl (decide (i<=j))):=N3 λ_ _ _ _ _ _ _ q=>le_int q
def Vz:lW X (å .Gt) (NL λi j=>.bl (decide (j<i))):=N3 λ_ _ _ _ _ _ _ q=>gt_int q
def T5:lW X (å .GtE) (NL λi j=>.bl (decide (j<=i))):=N3 λ_ _ _ _ _ _ _ q=>ge_int q
def JU(b:Ô)(h:op≠.In<|>zrb)(h2:op≠.NotIn<|>zrb):ø op b=Â:=by
 let e1:(op==CmpOp.In)=Â:=by cases op<;>first|rfl|show absurd rfl h
 let e2:(op==CmpOp.NotIn)=Â:=by cases op<;>first|rfl|show absurd rfl h2
 cases b<;>simp[ø,e1,e2]
def M_(e:lW X (å op) r)(ha:PE X a ta)(c:PE X b tb)(g:ø op b=Â):PE X (.Compare a [op] [b] pos) (V0 r ta tb):=by
 intro ZB s Y H Q I h;show wpAny_Compare1 (S3 ha c I h λv u i x y H2 j f d q=>e ZB i Y H2 x y v u Q j f d q) g
def Kt(t:TE):TT:=λY H Q=>t Y H λx H'=>∃k,x=.bl k/\Q k H'
def NI(n:lW X (å op) r)(ha:PE X a ta)(f:PE X b tb)(p:ø op b=Â):PT X (.Compare a [op] [b] pos) (Kt (V0 r ta tb)):=by
 intro ZB s Y H Q I h
 show ϩ (cH (ha ZB s Y H _ I h) λv j ⟨x,H1,d,l,B⟩=>cH (f ZB j Y H1 _ d B) λu w ⟨y,H2,A,g,q⟩ =>
  cH (n ZB w Y H2 x y v u _ A l g q) λc C ⟨z,o,i,m,k,e,t⟩=>?_) p
 subst e;cases m;show ϒ #[o,i,t]
def J9(r r':R2)(ta tb tc:TE):TE:=λY H Q=>ta Y H λx H1=>tb Y H1 λy H2=>r x y H2 λz a=>∃k,z=.bl k /\
 (if k=Á then tc Y a λb c=>r' y b c Q else Q (.bl Â) a)
def Iv{f:š}{r':R2}(B:lW X (å op) r)(g:lW X (å f) r')(ha:PE X a ta)(p:PE X b tb)(G:PE X c tc)
  (O:Ň [op,f] [b,c]=Â<|>zrg):PE X (.Compare a [op,f] [b,c] pos) (J9 r r' ta tb tc):=by
 intro ZB s Y H Q I h
 show Compare_chain (cH (ha ZB s Y H _ I h) λv t ⟨x,H1,o,L,E⟩=>chain_link (cH (p ZB t Y H1 _ o E) λu P ⟨y,H2,F,i,C⟩ =>
  cH (B ZB P Y H2 x y v u _ F L i C) λd D ⟨z,l,j,A,k,e,m⟩=>?_)) O
 subst e;cases A;show ϒ ?_;cases k with
 |false=>show ite_ff #[.bl Â,l,j,rfl,m]
 |true=>show ite_tt (chain_last (cH (G ZB D Y l _ j m) λq α ⟨n,K,N,w,J⟩=>g ZB α Y K y n u q Q N i w J))
def JT{f:š}{r':R2}(C:lW X (å op) r)(g:lW X (å f) r')(ha:PE X a ta)(q:PE X b tb)(K:PE X c tc)
  (S:Ň [op,f] [b,c]=Â<|>zrg):PT X (.Compare a [op,f] [b,c] pos) (Kt (J9 r r' ta tb tc)):=by
 intro ZB s Y H Q I h
 show isTrue_chain (cH (ha ZB s Y H _ I h) λv w ⟨x,H1,p,N,F⟩=>test_link (cH (q ZB w Y H1 _ p F) λu W ⟨y,H2,G,i,D⟩ =>
  cH (C ZB W Y H2 x y v u _ G N i D) λd E ⟨z,l,j,B,k,e,m⟩=>?_)) S
 subst e;cases B;show ϒ ?_;cases k with
 |false =>
  let⟨σ,Γ,T⟩:=m;cases Γ;show ite_ff #[l,j,T]
 |true =>
  show ite_tt (test_last (cH (K ZB E Y l _ j m) λt O ⟨o,α,P,A,L⟩=>cH (g ZB O Y α y o u t _ P i A L) λd' Z ⟨z2,n,J,R,k2,e2,V⟩=>?_));subst e2;cases R;show ϒ #[n,J,V]
def AA:(sizeLine:Nat)<2^63:=by rw[afP];decide
def vals1{x:V}(r:Vals [x] us):∃u,us=[u]/\RelV x u:=by
 cases r with
 |cons b a=>cases a;show#[_,rfl,b]
def vals2{x y:V}(r:Vals [x,y] us):∃u a,us=[u,a]/\RelV x u/\RelV y a:=by
 cases r with
 |cons e c =>
  cases c with
  |cons b d=>cases d;show#[_,_,rfl,e,b]
def KD:h9 X (.builtin "abs") (λxs H Q=>∃i,xs=[.int i]/\Q (.int (if i<0 then -i else i)) H):=by
 intro ZB s Y H xs us Q I r h;let⟨i,rfl,q⟩:=h;let⟨u,rfl,t,rfl⟩:=vals1 r;show call_abs_int λu tk=>#[.int (if i<0 then -i else i),H,I.tok _,#[_,rfl],q]
def GB(b:X.calm=Á):h9 X (.builtin "max") (λxs H Q=>∃i j,xs=[.int i,.int j]/\Q (.int (if j>i then j else i)) H):=by
 intro ZB s Y H xs us Q I r h;let⟨i,j,rfl,q⟩:=h;let⟨u,c,rfl,⟨t,rfl⟩,⟨t',rfl⟩⟩:=vals2 r;show max_two_ints (I.ok.hd b) λh' tk k=>#[_,H,I.kept k,?_,q];by_cases a:j>i
 .rw[ac6 a,ac6 a];show#[_,rfl]
 .rw[ac2 a,ac2 a];show#[_,rfl]
def HW(b:X.calm=Á):h9 X (.builtin "min") (λxs H Q=>∃i j,xs=[.int i,.int j]/\Q (.int (if j<i then j else i)) H):=by
 intro ZB s Y H xs us Q I r h;let⟨i,j,rfl,q⟩:=h;let⟨u,c,rfl,⟨t,rfl⟩,⟨t',rfl⟩⟩:=vals2 r;show min_two_ints (I.ok.hd b) λh' tk k=>#[_,H,I.kept k,?_,q];by_cases a:j<i
 .rw[ac6 a,ac6 a];show#[_,rfl]
 .rw[ac2 a,ac2 a];show#[_,rfl]
def HM:h9 X (.type "int") (λxs H Q=>(∃i,xs=[.int i]/\Q (.int i) H)\/∃k,xs=[.bl k]/\Q (.int (if k then 1 else 0)) H):=by
 intro ZB s Y H xs us Q I r h;obtain⟨i,rfl,q⟩|⟨k,rfl,q⟩:=h
 .let⟨u,rfl,t,rfl⟩:=vals1 r;show call_int_int #[.int i,H,I,#[_,rfl],q]
 .let⟨u,rfl,a⟩:=vals1 r;cases a;show call_int_bool #[.int (if k then 1 else 0),H,I.tok _,#[_,rfl],q]
variable{prog:Ó}{w:Ü}{A:è}{E:Å->Æ->Prop}{s:Æ}{K:Ä}{x dx C f:Ç}{mA:Í->Option Å}{name:Í}{v:Å}
end
section
variable{P:Ó}{w:Ü}{H H':Hp}{h h':á}{a C dx:Ç}{fs fs':List (Í×V)}
variable{X:Cx}{ZB:List (Ç×ā)}{Y:St}{s:Æ}{f:Í}{v:V}{A:è}{E:Å->Æ->Prop}
variable{o e value:Ô}{pos pos' tpos:ï}{ta tv:TE}
variable{Q:Å->Æ->Prop}{c:Å}{b:Bool}
end
structure dN(k:Nat)(A:è):Prop where
 hd:A.handled=none
 dp:A.depth+3*k+5<recursionLimit
 un:A.units+16*k+200<Α
def dN.mono{j:Nat}(r:dN k A)(h:j<=k):dN j A:=#[r.hd,by let:=r.dp;lia,by let:=r.un;lia]
def dN.deeper{k:Nat}{A:è}(r:dN (k+1) A)(env:Ŗ):dN k (A.deeper env) :=
 #[r.hd,by let:=r.dp;change A.depth+1+3*k+5<_;lia,by let:=r.un;change A.units+3+16*k+200<_;lia]
def dN.depth{k:Nat}{A:è}(r:dN k A):A.depth<recursionLimit:=by let:=r.dp;lia
def TR:TA:=λ_ H Q=>Q [] H
def VA(ta:TE)(tr:TA):TA:=λY H Q=>ta Y H λx H1=>tr Y H1 λxs H2=>Q (x::xs) H2
section
variable{X:Cx}{e:Ô}{es:List Ô}{te:TE}{t:TA}{pos:ï}
def aW:PA X [] TR:=λ_ _ _ _ H Q I h=>ώ #[[],H,I,.nil,h]
def aB(ha:PE X e te)(g:PA X es t)(j:Ã (e::es) X.env=(Â,Õ e X.env)::Ã es X.env<|>zra):PA X (e::es) (VA te t):=by
 intro pos ZB s Y H Q I h;rw[j];change Î _ _ (spliced ((Â,Õ e X.env)::ç pos (Ã es X.env))) _ _ s;show π (cH (ha ZB s Y H _ I h) λu c ⟨x,H1,a,d,f⟩=>?_);show cH (g pos ZB c Y H1 _ a f) λus l ⟨xs,H2,k,b,i⟩=>#[x::xs,H2,k,.cons d b,i]
def Wn(t:TA):TE:=λY H Q=>t Y H λxs H1=>xs.length<=sizeLine/\∀p,H1 p=none->Q (.ref p) (upd H1 p (.tup xs))
def WB(t:TA):TE:=λY H Q=>t Y H λxs H1=>xs.length<=sizeLine/\∀p,H1 p=none->Q (.ref p) (upd H1 p (.lst xs))
def Dh{x1}(h:PA X es t):PE X (.Tuple es x1 pos) (Wn t):=by
 intro ZB s Y H Q I f;show wpAny_Tuple_spliced (cH (h pos ZB s Y H _ I f) λus a ⟨xs,H1,c,r,z,q⟩=>#[by rwa[<-r.length],?_]);let d:H1 a.heap.objs.size=none:=c.hok.fresh (ú _);show#[.ref a.heap.objs.size,upd H1 a.heap.objs.size (.tup xs),c.laid (t':=a.toks) (λb u e=>Ī _ e) (ú _) ?_,rfl,q _ d];show#[z,us,r,#[_,ŏ _ rfl,rfl,_,rfl]]
def w6(h:PA X es t):PE X (.List es pos) (WB t):=by
 intro ZB s Y H Q I f;show wpAny_List_spliced (cH (h pos ZB s Y H _ I f) λus a ⟨xs,H1,c,r,z,q⟩=>#[by rwa[<-r.length],?_]);let d:H1 a.heap.objs.size=none:=c.hok.fresh (ú _);show#[.ref a.heap.objs.size,upd H1 a.heap.objs.size (.lst xs),c.laid (t':=a.toks) (λb u e=>Ī _ e) (ú _) ?_,rfl,q _ d];show#[z,us,0,r,ŏ _ rfl]
end
abbrev Sp:=List V->Hp->VK->XK->Prop
abbrev H_:=List Ŗ->Hp->Æ->XK->Å->Æ->Prop
structure MS(P:Ó)(w:Ü)(K:Ä)(mg:Í->Option Å)(base:á)(A:è)(outer:List Ŗ)(s:Æ)(H:Hp):Prop where
 frames:A.frames=À outer
 mod:Mod K mg base
 bs:∀b o,base.get? b=À o->s.heap.get? b=À o/\H b=none
 bsz:base.objs.size<=s.heap.objs.size
 rS:s.heap.FunFrames base outer
 frf:∀b∈FN outer,H b=none
 hok:wZ P w H s.heap
 bare:ĺ s.gens
def CE(outer:List Ŗ)(P:Ó)(w:Ü)(H:Hp)(s:Æ)(Q:VK)(u:Å)(s':Æ):Prop :=
 ∃v H',s'.os=s.os/\ĺ s'.gens/\Un (FN outer) [] H H' s.heap s'.heap/\wZ P w H' s'.heap/\RelV v u/\Q v H'
def CR(CX:H_)(outer:List Ŗ)(P:Ó)(w:Ü)(H:Hp)(s:Æ)(Q:VK)(E:XK)(r:ϝ)(s':Æ):Prop :=
 match r with
 |.ok (.ret u)=>CE outer P w H s Q u s'
 |.ok _=>False
 |.error e=>CX outer H s E e s'
structure fH(P:Ó)(w:Ü)(K:Ä)(mg:Í->Option Å)(base:á)(CX:H_)(k:Nat)(f:Ç)(fd:ð)(ps:List Í)(sp:Sp):Prop where
 len:∀vs H Q E,sp vs H Q E->vs.length=ps.length
 run:∀(A:è) (outer:List Ŗ) (s:Æ) (H:Hp) (args:Args) (us:List Å) (vs:List V) (Q:VK) (E:XK),dN k A->⇑MS A outer s H->Ŋ s fd args (ps.zip us)->Vals vs us->sp vs H Q E ->
  Ė (Ñ P w) A (.call (.ref f) args) (CR CX outer P w H s Q E) s
section
variable{X:Cx}{ZB:List (Ç×ā)}{Y:St}{H:Hp}{s s':Æ}
def Inv.W8(I:Inv X ZB Y H s):MS X.prog X.w X.K X.mg X.base X.A X.stack s H :=
 #[I.ok.frames,I.ok.mod,I.bs,ĭ I.ok.bsz I.sz,I.stack,I.EO,I.hok,I.bare]
def Inv.after(I:Inv X ZB Y H s)(h:CE X.stack X.prog X.w H s Q u s'):EP X ZB Y Q u s':=by
 let⟨v,H',os,bare,un,a,r,q⟩:=h;let⟨e,g,d,t,c⟩:=s';obtain rfl:c=s.os:=os;show#[v,H',I.call (h':=e) (g':=g) (d':=d) (t':=t) (ch:=[]) un a bare (λb z=>absurd z .c),r,q]
end
def Pg(sp:Sp)(dvs:List V)(E:XK)(t:TA):TE:=λY H Q=>t Y H λvs H1=>sp (vs++dvs) H1 Q E
def Binds(K:Ä)(fd:ð)(ps:List Í)(ds:List Å):Prop :=
 ∀(s:Æ) (us:List Å),K.In s.heap->(us++ds).length=ps.length->Ŋ s fd #[us,[]] (ps.zip (us++ds))
def Binds.all{fd:ð}{ps:List Í}(h:∀us:List Å,us.length=ps.length->Ķ fd #[us,[]]=pure (ps.zip us)):Binds K fd ps []:=λs us _ a=>by
 rw[afX] at a ⊢;show .of_eq (h us a)
def Passes(CX:H_)(X:Cx)(E:XK):Prop:=∀(ZB:List (Ç×ā)) (Y:St) (H:Hp) (s:Æ) (e:Å) (s':Æ),Inv X ZB Y H s->CX X.stack H s E e s'->X.xe e s'
section
variable{X:Cx}{CX:H_}{k:Nat}{f C:Ç}{fd:ð}{ps:List Í}{sp:Sp}{dvs:List V}{ds:List Å}{E:XK}{x m:Í}{p pos apos:ï}{e o:Ô}{es:List Ô}{ta:TE}{t:TA}
def Jc{vs:List V}(F:fH X.prog X.w X.K X.mg X.base CX k f fd ps sp)(l:dN k X.A)(d:Binds X.K fd ps ds)(i:Vals dvs ds)(g:Passes CX X E)
  (I:Inv X ZB Y H s) (r:Vals vs us) (h:sp (vs++dvs) H Q E):Î .F X.A (call (.ref f) us) (EP X ZB Y Q) X.xe s:=by
 let b:Vals (vs++dvs) (us++ds):=r.append i;let j:(us++ds).length=ps.length:=by rw[<-b.length];show F.len _ _ _ _ h
 show wpAny_call (af9 (F.run X.A X.stack s H #[us,[]] (us++ds) (vs++dvs) Q E l I.W8 (d s us I.SX j) b h) λr s' a=>?_);cases r with
 |error e=>show g ZB Y H s e s' I a
 |ok c =>
  cases c with
  |ret u=>show I.after a
  |next=>show ă a
  |brk=>show ă a
  |cont=>show ă a
def d_(F:fH X.prog X.w X.K X.mg X.base CX k f fd ps sp)(l:dN k X.A)(g:Gl X x)(j:X.mg x=À (.ref f))(m:Ď X.K (.ref f)=Á)(c:Binds X.K fd ps ds)(i:Vals dvs ds)(d:Passes CX X E)
  (ha:PA X (e::es) t) (a:(x==("__debug__":Í))=Â<|>zrb) (he:Ã (e::es) X.env=(Â,Õ e X.env)::Ã es X.env<|>zra) (hpl:(ç pos (Ã es X.env)).any (·.1)=Â<|>zra):
  PE X (.Call .H (e::es) [] pos) (Pg sp dvs E t):=by
 intro ZB s Y H Q I h;show ae8 (zu I g j ?_ a);show PySem.W.callWith_K (h₀:=X.base) I.ok.mod.kin m (cH (ha pos ZB s Y H _ I h) λus n ⟨vs,H1,b,r,q⟩=>#[b.SX,?_]) he hpl;show Jc F l c i d b r q
def Jm(F:fH X.prog X.w X.K X.mg X.base CX k f fd ps sp)(g:dN k X.A)(i:Gl X x)(c:X.mg x=À (.ref f))(j:Ď X.K (.ref f)=Á)(d:Binds X.K fd ps ds)(b:Vals dvs ds)(e:Passes CX X E)
  (a:(x==("__debug__":Í))=Â<|>zrb):PE X (.Call .H [] [] pos) (Pg sp dvs E TR):=by
 intro ZB s Y H Q I h;show ae8 (zu I i c ?_ a);show PySem.W.callWith_K0 I.SX j (Jc (us:=[]) F g d b e I .nil h)
variable{ks:List Í}{kpos:ï}{kws:List Š}{te:TE}{tk:TA}{nm:Option Í}{g:List Å->List Å->List Å}{gV:List V->List V->List V}
end
structure ak(N P:List Í)(sc:Ā):Prop where
 kind:sc.kind=.function
 co:sc.isCoroutine=Â
 gen:sc.isGenerator=Â
 nd:N.Nodup
 pre:N.take P.length=P
 par:∀x∈P,sc.names.lookup x=À .local\/sc.names.lookup x=À .cell
 nofree:∀y∈sc.names,y.2≠.free
theorem yO{kindOf:Í->Option ó}{x:Í}:∀{binds:List (Í×Å)} {m:Í->Option Å},(∀v,(x,v)∉binds)->υ kindOf binds m x=m x
 |[],_,_=>rfl
 | (n,v) :: r,m,h=>by
  unfold υ;rw[yO λw a=>h w (Ě _ a)];split
  .let:x≠n:=by rintro rfl;show h v Ġ
   simp[this]
  .rfl
theorem yE{kindOf:Í->Option ó}{x:Í}:∀{binds:List (Í×Å)} {m:Í->Option Å},(∀v,(x,v)∉binds)->χ kindOf binds m x=m x
 |[],_,_=>rfl
 | (n,v) :: r,m,h=>by
  unfold χ;rw[yE λw a=>h w (Ě _ a)];split
  .rfl
  .let:x≠n:=by rintro rfl;show h v Ġ
   simp[this]
theorem yw{kindOf:Í->Option ó}{x:Í}{v:Å}:∀{P:List Í} {vs:List Å} {i:Nat} {m:Í->Option Å},P.Nodup->P[i]?=À x->vs[i]?=À v->kindOf x=À .local ->
  υ kindOf (P.zip vs) m x=À v
 |[],_,_,_,_,h,_,_=>by simp at h
 |_::_,[],_,_,_,_,h,_=>by simp at h
 |p::P,w::vs,0,m,b,h1,h2,a=>by
  simp at h1 h2;subst h1;subst h2;change υ kindOf ((p,w)::P.zip vs) m p=_;unfold υ;rw[yO λv c=>(aeB.mp b).1 (agZ c).1,ac6 a];simp
 |p::P,w::vs,i+1,m,b,h1,h2,a=>by
  change υ kindOf ((p,w)::P.zip vs) m x=_;unfold υ;show yw (i:=i) (aeB.mp b).2 ↑h1 ↑h2 a
theorem yt{kindOf:Í->Option ó}{x:Í}{v:Å}:∀{P:List Í} {vs:List Å} {i:Nat} {m:Í->Option Å},P.Nodup->P[i]?=À x->vs[i]?=À v->kindOf x≠À .local ->
  χ kindOf (P.zip vs) m x=À v
 |[],_,_,_,_,h,_,_=>by simp at h
 |_::_,[],_,_,_,_,h,_=>by simp at h
 |p::P,w::vs,0,m,b,h1,h2,a=>by
  simp at h1 h2;subst h1;subst h2;change χ kindOf ((p,w)::P.zip vs) m p=_;unfold χ;rw[yE λv c=>(aeB.mp b).1 (agZ c).1,ac2 a];simp
 |p::P,w::vs,i+1,m,b,h1,h2,a=>by
  change χ kindOf ((p,w)::P.zip vs) m x=_;unfold χ;show yt (i:=i) (aeB.mp b).2 ↑h1 ↑h2 a
noncomputable def start(N:List Í)(vs:List V):St:=vs.map À++Ë (N.length-vs.length) none
noncomputable def xK(CX:H_)(P:Ó)(w:Ü)(K:Ä)(mg:Í->Option Å)(base:á)(N:List Í)(qual:Í)(Y2:Ā)(f:Ç)(cd:Å)(A:è)(outer:List Ŗ)(s:Æ)(H:Hp)(E:XK):Cx where
 prog:=P
 w:=w
 K:=K
 mg:=mg
 base:=base
 A:=A.deeper (ħ qual Y2 s.heap.objs.size f cd)
 N:=N
 s₀:=s
 H₀:=H
 env:=ħ qual Y2 s.heap.objs.size f cd
 outer:=outer
 stack:=ħ qual Y2 s.heap.objs.size f cd::outer
 ex:=[]
 calm:=Á
 fn:=λ_=>Á
 pn:=[]
 xe:=λe s'=>Î (Ñ P w) (A.deeper (ħ qual Y2 s.heap.objs.size f cd)) (leaving (ħ qual Y2 s.heap.objs.size f cd) e) (λ_ a=>CX outer H s E e a) (λb a=>CX outer H s E b a) s'
def A3{a:Ā}(h:a.names.lookup x=À .cell):∃c,(ë n a.names []).lookup x=À c:=by
 let q:=af3 a.names n [] (.inl h);show afR.mp q
def Ht{CX:H_}{mg:Í->Option Å}{base:á}{N ps:List Í}{qual:Í}{Y2:Ā}{f:Ç}{cd:Å}{outer:List Ŗ}{m:Æ}{E:XK}{vs:List V}
  (S:ak N ps Y2) (C:A.handled=none) (d:⇑MS A outer s H) (D:vs.length=ps.length) (r:Vals vs us)
  (x:InCallC s s.heap.objs.size (υ (ħ qual Y2 s.heap.objs.size f cd).kindOf (ps.zip us) λ_=>none) (ë (s.heap.objs.size+1) Y2.names []) (χ (ħ qual Y2 s.heap.objs.size f cd).kindOf (ps.zip us) λ_=>none) m):
  Inv (xK CX P w K mg base N qual Y2 f cd A outer s H E) [] (start N vs) H m:=by
 let hpl:ps.length<=N.length:=by let:=congrArg List.length S.pre;rw[ϑ] at this;lia
 let⟨h1,tk,rfl,t⟩:=x.done;let g:∀b:Ç,b∉(xK CX P w K mg base N qual Y2 f cd A outer s H E).ex:=λb z=>absurd (show b∈([]:List Ç) from z) .c
 show#[#[d.mod,S.kind,rfl,rfl,ú _,λy z c h1 h2=>?_,λy j=>?_,λy c _ h=>?_,λ_=>C,Around.frames_deeper d.frames,.inr #[rfl,rfl],λb z=>absurd z (g b),d.bs,d.bsz,λb _ _=>g b,λb z=>absurd z (g b),d.rS,d.frf],
  rfl,d.bare,Un.kept t,#[_,x.toInCall.ns,λi y v h1 h2 F=>?_],λy c h=>#[_,x.cell y c h],d.hok.fresh (ú _),λy c h=>?_,λp hp=>absurd (show p∈([]:List (Ç×ā)) from hp) .c,d.hok.kept t,?_]
 .show name_of_addr x.apart (afs h1) (afs h2)
 .let j:Y2.names.lookup y=À .cell\/Y2.names.lookup y=À .free:=j;obtain j|j:=j
  .show A3 j
  .show absurd rfl (S.nofree _ (afs j))
 .show ŋ (x.above y c (afs h))
 .let hi:i<vs.length:=by
   unfold start at h2;by_cases hi:i<vs.length
   .show hi
   .rw[aey ↑hi] at h2;rw[List.getElem?_replicate] at h2;split at h2<;>cases h2
  let ha:vs[i]?=À v:=by
   unfold start at h2;rw[aeF ↑hi,Ĵ] at h2;cases e:vs[i]? with
   |none=>rw[e] at h2;cases h2
   |some a=>rw[e] at h2;cases h2;rfl
  let⟨u,o,B⟩:=r.get ha
  let hp:ps[i]?=À y:=by
   rwa[<-S.pre,ago .b]
  let l:ps.Nodup:=by rw[<-S.pre];show S.nd.sublist (ϟ _ _)
  show#[u,B,?_];obtain k|k:=S.par y (Ĭ hp)
  .show .inl #[k,yw l hp o k]
  .let⟨c,e⟩:=A3 (n:=s.heap.objs.size+1) k;show .inr #[.inl k,c,e,?_];let q:=x.cell y c e;rw[yt l hp o (by change Y2.names.lookup y≠_;rw[k];decide)] at q;show q
 .show d.hok.fresh (ŋ (x.above y c (afs h)))
 .unfold start;change _=N.length;rw[ų,ą,ah1];lia
def Vf{CX:H_}{mg:Í->Option Å}{base:á}{f:Ç}{name qual:Í}{params:Arguments}{Y2:Ā}{D kV doc C a ct R:Å}{F α:Option Ç}
  {m:Array (Option Å)} {N ps:List Í} {sp:Sp} (lk:K.lookup f=À #[R,α,.func (é name qual params body Y2 D kV doc C F a ct),m]) (j:Ĳ K a qual=Á) (S:ak N ps Y2)
  (len:∀vs H Q E,sp vs H Q E->vs.length=ps.length)
  (c:∀(A:è) (outer:List Ŗ) (s:Æ) (H:Hp) (vs:List V) (Q:VK) (E:XK),dN k (A.deeper (ħ qual Y2 s.heap.objs.size f a))->sp vs H Q E ->
   ∃t,wu (xK CX P w K mg base N qual Y2 f a A outer s H E) body t/\t {nx:=λ_ H'=>Q .non H',rt:=Q} (start N vs) H):
  fH P w K mg base CX (k+1) f (é name qual params body Y2 D kV doc C F a ct) ps sp:=by
 show#[len,λA outer s H args us vs Q E p h G r i=>?_];let X:=len _ _ _ _ i;let z:K.In s.heap:=h.mod.kin.keeps λb o e=>(h.bs b o e).1;let lim:s.heap.NoLimit:=h.mod.nolimit.keeps λb o e=>(h.bs b o e).1
 let d:∀y∈ps.zip us,Y2.names.lookup y.1=À .local\/(Y2.names.lookup y.1=À .cell/\((ë (s.heap.objs.size+1) Y2.names []).lookup y.1).isSome=Á):=fun(n,v) T=>by
  obtain q|q:=S.par n (agZ T).1
  .show .inl q
  .show .inr #[q,af3 _ _ _ (.inl q)]
 show codeAny_call_function p.depth (z _ _ lk) rfl S.co S.gen rfl (PySem.W.codeRec_of z j) (G _ _ _ _ ?_);show wpAny_newFunctionEnv_cells S.kind d λenv he B x=>?_;subst he;show#[lim.keeps x.toInCall.keep,codeAny_func ?_];let⟨t,L,Γ⟩:=c A outer s H vs Q E (p.deeper _) i;let I:Inv (xK CX P w K mg base N qual Y2 f a A outer s H E) [] (start N vs) H B:=Ht S p.hd h X r x;show ϥ (L [] B (start N vs) H _ I Γ) (λO s' g=>?_) λe s' g=>g
 let fin:∀{Y':St} {H':Hp} {v:V} {u:Å},Inv (xK CX P w K mg base N qual Y2 f a A outer s H E) [] Y' H' s'->RelV v u->Q v H'->CE outer P w H s Q u s' :=
  λ{Y' H' v u} J l q=>#[v,H',J.os,J.bare,J.base,J.hok,l,q]
 cases O with
 |ret u =>
  let⟨v,Y',H',J,l,q⟩:=g;show fin J l q
 |next =>
  let⟨Y',H',J,q⟩:=g;show fin (v:=V.non) (u:=Ē) J rfl q
 |brk =>
  let⟨_,_,_,q⟩:=g;show ă q
 |cont =>
  let⟨_,_,_,q⟩:=g;show ă q
section
variable{X:Cx}{x:Í}{p pos:ï}{e:Ô}{es:List Ô}{t:TA}{id T:String}{r:List V->Hp->VK->Prop}
def XJ(r:List V->Hp->VK->Prop)(t:TA):TE:=λY H Q=>t Y H λvs H1=>r vs H1 Q
def du(b:h9 X (.builtin id) r)(f:Gl X x)(j:X.mg x=none)(g:ė x=À (.builtin id))(ha:PA X (e::es) t)(l:x≠"__name__"<|>zrb)(a:(x==("__debug__":Í))=Â<|>zrb)
  (he:Ã (e::es) X.env=(Â,Õ e X.env)::Ã es X.env<|>zra) (hpl:(ç pos (Ã es X.env)).any (·.1)=Â<|>zra):PE X (.Call .H (e::es) [] pos) (XJ r t):=by
 intro ZB s Y H Q I h;show ae8 (ja I f j g ?_ l a);show ag0 (cH (ha pos ZB s Y H _ I h) λus d ⟨vs,H1,c,i,k⟩=>b ZB d Y H1 vs us Q c i k) he hpl
def iM(b:h9 X (.type T) r)(f:Gl X x)(j:X.mg x=none)(g:ė x=À (.type T))(ha:PA X (e::es) t)(l:x≠"__name__"<|>zrb)(a:(x==("__debug__":Í))=Â<|>zrb)
  (he:Ã (e::es) X.env=(Â,Õ e X.env)::Ã es X.env<|>zra) (hpl:(ç pos (Ã es X.env)).any (·.1)=Â<|>zra):PE X (.Call .H (e::es) [] pos) (XJ r t):=by
 intro ZB s Y H Q I h;show ae8 (ja I f j g ?_ l a);show aeM (cH (ha pos ZB s Y H _ I h) λus d ⟨vs,H1,c,i,k⟩=>b ZB d Y H1 vs us Q c i k) he hpl
end
end L2
namespace HT
open PySem PyProof.Rows
section
open PySem.SeqAt
open PySem.AutoSeq1 (wpAny_loadPart')
open PySem.MeetsSeq PySem.MeetsSeq2 PySem.MeetsSeq3
end
section
variable{prog:Ó}{w:Ü}{A:è}{E:Å->Æ->Prop}{s:Æ}
noncomputable def fX(n d:Nat):Option Int->Nat
 |none=>d
 |some v=>if v<0 then ↥(v+(n:Int)) else min ↥v n
def mC(n d:Nat):fX n d none=d:=rfl
def qF(n d k:Nat):fX n d (À (k:Int))=min k n:=by
 change(if (k:Int)<0 then ↥((k:Int)+(n:Int)) else min ↥(k:Int) n)=min k n;rw[ac2 .b,Ï]
def Rp(n d:Nat)(b:d<=n)(o:Option Int):fX n d o<=n:=by
 cases o with
 |none=>show b
 |some v =>
  change(if v<0 then ↥(v+(n:Int)) else min ↥v n)<=n;by_cases a:v<0
  .rw[ac6 a];lia
  .rw[ac2 a];show Nat.min_le_right _ _
def FC(v:Int)(n d:Nat):(if v<0 then max (v+(n:Int)) 0 else min v (n:Int))=((fX n d (À v):Nat):Int):=by
 change(if v<0 then max (v+(n:Int)) 0 else min v (n:Int))=(((if v<0 then ↥(v+(n:Int)) else min ↥v n):Nat):Int);by_cases a:v<0
 .simp only[ac6 a];lia
 .simp only[ac2 a];lia
def C0(lo hi:Option Int)(n:Nat):Ę lo hi 1 (n:Int)=(((fX n 0 lo:Nat):Int),((fX n n hi:Nat):Int)):=by
 let h1:¬((1:Int)<0):=by lia
 unfold Ę;simp only[h1,agp];show ahd ?_ ?_
 .cases lo with
  |none=>rfl
  |some v=>show FC v n 0
 .cases hi with
  |none=>rfl
  |some v=>show FC v n n
def DY(i j:Nat):þ (i:Int) (j:Int) 1=j-i:=by
 unfold þ;let h1:(1:Int)>0:=by lia
 simp only[h1,af_,Int.ediv_one];split<;>lia
def vN{v:Å}{o:Option Int}{Q:Option Int->Æ->Prop}(p:ū v o)(h:Q o s):Î (Ñ prog w) A (Builtin.Slice.slicePartIndex v) Q E s:=by
 cases p with
 |none=>show slicePart_none h
 |int i t=>show slicePart_int h
def sM{sl:Ç}{d c:Å}{lo hi:Option Int}{n:Nat}{Q:Int×Int×Nat->Æ->Prop}(f:s.heap.IsSliceOf sl d c .none)(pl:ū d lo)(pu:ū c hi)
  (h:Q (((fX n 0 lo:Nat):Int),1,fX n n hi-fX n 0 lo) s):Î (Ñ prog w) A (ľ (.ref sl) (pure (n:Int))) Q E s:=by
 let⟨os,b,e,a⟩:=id f;unfold ľ Builtin.Slice.sliceFields;show â (â (wpAny_field b a (x:=d) rfl (â (wpAny_field b a (x:=c) rfl (â (wpAny_field b a (x:=.none) rfl (ù ?_)))))));show â (slicePart_none ?_);change Î _ _ (if ((1:Int)==0)=Á then _ else _) _ _ s;rw[ac2 .a];show â (vN pl (â (vN pu (â (ù ?_)))));change Î _ _ (match Ę lo hi 1 (n:Int) with|(lo,hi)=>pure (lo,(1:Int),þ lo hi 1)) _ _ s;rw[C0 lo hi n];change Î _ _ (pure (((fX n 0 lo:Nat):Int),(1:Int),þ ((fX n 0 lo:Nat):Int) ((fX n n hi:Nat):Int) 1)) _ _ s;rw[DY];show ù h
def KS(xs:Array Å)(i k:Nat):((Ø k).filterMap fun(m:Nat)=>xs[↥((i:Int)+(m:Int)*1)]?).toArray=((xs.toList.drop i).take k).toArray:=by
 let e:(fun(m:Nat)=>xs[↥((i:Int)+(m:Int)*1)]?)=λm=>xs[i+m]?:=by
  funext m;let:↥((i:Int)+(m:Int)*1)=i+m:=by lia
  rw[this]
 rw[e];let:=pick_run xs i k;rw[List.filterMap_map] at this;let e2:((λx=>xs[x]?)∘λx=>i+x)=λm=>xs[i+m]?:=rfl;rw[e2] at this;rw[this]
def qk{t sl:Ç}{items:Array Å}{j i:Å}{lo hi:Option Int}{Q:Å->Æ->Prop}(b:IsTup s.heap t items)(g:s.heap.IsSliceOf sl j i .none)(pl:ū j lo)(pu:ū i hi)
  (n:¬(fX items.size 0 lo=0/\fX items.size items.size hi=items.size))
  (h:Q (.ref s.heap.objs.size) {s with heap:=s.heap.push {cls:=.type "tuple",data:=.seq ((items.toList.drop (fX items.size 0 lo)).take (fX items.size items.size hi-fX items.size 0 lo)).toArray}})
  (k:items.size<=sizeLine):Î (Ñ prog w) A (ϛ (.ref t) (.ref sl)) Q E s:=by
 let a:sizeOk (.seq ((items.toList.drop (fX items.size 0 lo)).take (fX items.size items.size hi-fX items.size 0 lo)).toArray):=by
  change((items.toList.drop (fX items.size 0 lo)).take (fX items.size items.size hi-fX items.size 0 lo)).toArray.size<=sizeLine;rw[ŀ,ϑ,aeO,Ŕ];omega
 let r:fX items.size items.size hi<=items.size:=Rp _ _ (ú _) hi;let⟨os,d,f,l⟩:=id g;let e:s.TypeIs (.ref sl) "slice":=#[os,d,f];unfold ϛ
 try with_reducible show ϻ ?_
 first|show â (ù ?_)|skip
 show â (wpAny_sequenceKey b.typeIs .a ?_)
 show â (afp (name:=ý "__getitem__") b.typeIs afV
  (ae7 afV b.typeIs entry_tuple_getitem ?_ (args_tuple_getitem _ _)))
 change Î _ _ (Builtin.Tuple.tupleItemsOf (.ref t) >>= _) _ _ s;show â (tupleItemsOf_ b ?_);show â (ϔ e ?_);rw[ac6 .a];show â (sM g pl pu ?_)
 let c:¬((((fX items.size 0 lo:Nat):Int)==0&&(1:Int)==1&&(fX items.size items.size hi-fX items.size 0 lo)==items.size)=Á):=by
  intro q;rw[ź,ź] at q;let p:((fX items.size 0 lo:Nat):Int)=0:=eq_of_beq q.1.1;let o:fX items.size items.size hi-fX items.size 0 lo=items.size:=eq_of_beq q.2;show n #[.f,.f]
 change Î _ _ (if (((fX items.size 0 lo:Nat):Int)==0&&(1:Int)==1&&(fX items.size items.size hi-fX items.size 0 lo)==items.size)=Á then _ else _) _ _ s;rw[ac2 c,KS]
 first
  |show â (m:=Ă _) (aeS (ù ⟨_,rfl,ù h⟩) a)
  |show â (m:=Ă _) (aeS (â (ù (ù ⟨_,rfl,ù h⟩))) a)
  |show â (â (m:=Ă _) (aeS (ù (ù ⟨_,rfl,ù h⟩)) a))
  |show â (â (m:=Ă _) (aeS (ù ⟨_,rfl,ù h⟩) a))
end
end HT
namespace L2
open PySem PySem.Spec PyProof.Rows
variable{n:Nat}{s:Æ}{Y0:List Å}{x:V}
abbrev TO:=St->Hp->(Option Int->Hp->Prop)->Prop
def PO(X:Cx)(e:Option Ô)(t:TO):Prop :=
 ∀(ZB:List (Ç×ā)) (s:Æ) (Y:St) (H:Hp) (Q:Option Int->Hp->Prop),Inv X ZB Y H s->t Y H Q ->
  Î .F X.A (evalPart e X.env) (λu s'=>∃o H',Inv X ZB Y H' s'/\ū u o/\Q o H') X.xe s
def NG:TO:=λ_ H Q=>Q none H
def Vy(t:TE):TO:=λY H Q=>t Y H λx H1=>∃i,x=.int i/\Q (À i) H1
def intsAre_of{ns:.L}:∀{us:List Å},Vals (ns.map V.int) us->ñ us ns:=by
 induction ns with
 |nil=>intro us r;rw[afS] at r;cases r;show .nil
 |cons n ns a =>
  intro us r;rw[ř] at r;cases r with
  |cons b c =>
   let⟨t,e⟩:=b;subst e;show .cons n t (a c)
section
variable{X:Cx}{e:Ô}{te:TE}{lo hi:Option Ô}{tl th:TO}{pos p2:ï}
def pK:PO X none NG:=by
 intro ZB s Y H Q I h;rw[evalPart_none];show ù #[none,H,I,.none,h]
def pW(h:PE X e te):PO X (À e) (Vy te):=by
 intro ZB s Y H Q I b;rw[evalPart_some];show cH (h ZB s Y H _ I b) λu f ⟨x,H1,a,d,c⟩=>?_;let⟨i,rfl,q⟩:=c;let⟨t,rfl⟩:=d;show#[À i,H1,a,.int i t,q]
def Xl(X:Cx)(r:V->Option Int->Option Int->Hp->VK->Prop):Prop :=
 ∀(ZB:List (Ç×ā)) (s:Æ) (Y:St) (H:Hp) (x:V) (v a b:Å) (lo hi:Option Int) (sl:Ç) (Q:VK),Inv X ZB Y H s->RelV x v->s.heap.IsSliceOf sl a b .none->ū a lo->ū b hi->r x lo hi H Q ->
  ∃T id,typeLookup (.type T) "__getitem__"=pure (À (.builtin id))/\s.TypeIs v T/\Î .F X.A (ϛ v (.ref sl)) (EP X ZB Y Q) X.xe s
def XS(r:V->Option Int->Option Int->Hp->VK->Prop)(te:TE)(tl th:TO):TE:=λY H Q=>te Y H λx H1=>tl Y H1 λl H2=>th Y H2 λu a=>r x l u a Q
def mw{r:V->Option Int->Option Int->Hp->VK->Prop}(C:Xl X r)(he:PE X e te)(B:PO X lo tl)(D:PO X hi th):PE X (.Subscript e (.Slice lo hi none p2) pos) (XS r te tl th):=by
 intro ZB s Y H Q I h;show Subscript_ (cH (he ZB s Y H _ I h) λv j ⟨x,H1,g,y,o⟩=>?_);show wpAny_Slice (cH (B ZB j Y H1 _ g o) λd E ⟨l,H2,p,pl,n⟩=>cH (D ZB E Y H2 _ p n) λc a ⟨u,f,i,pu,F⟩=>?_);rw[evalPart_none];show ù ?_;let z:Inv X ZB Y f {a with heap:=a.heap.push {cls:=.type "slice",data:=.fields (ß [d,c,.none])}}:=i.kept (t':=a.toks) λb G q=>Ī _ q;let⟨T,id,m,k,t⟩:=C ZB {a with heap:=a.heap.push {cls:=.type "slice",data:=.fields (ß [d,c,.none])}} Y f x v d c l u a.heap.objs.size Q z y (Heap.IsSliceOf.new ..) pl pu F;change Î .F X.A (subscriptTail e (.Slice lo hi none p2) v (.ref a.heap.objs.size)) (EP X ZB Y Q) X.xe {a with heap:=a.heap.push {cls:=.type "slice",data:=.fields (ß [d,c,.none])}};show tail_any (ops:=[.ref a.heap.objs.size,v]) k m t (by stop rfl)
noncomputable def jU(xs:List V)(lo hi:Option Int):List V:=(xs.drop (HT.fX xs.length 0 lo)).take (HT.fX xs.length xs.length hi-HT.fX xs.length 0 lo)
def t6(xs:List V)(lo hi:Option Int):(jU xs lo hi).length<=xs.length:=by
 unfold jU;rw[ϑ,aeO];lia
def WC(K:Ä):V->Option Int->Option Int->Hp->VK->Prop:=λx lo hi H Q=>∃a xs,x=.ref a/\CD K H a xs /\
 ¬(HT.fX xs.length 0 lo=0/\HT.fX xs.length xs.length hi=xs.length)/\∀p,H p=none->Q (.ref p) (upd H p (.tup (jU xs lo hi)))
def Qf:Xl X (WC X.K):=by
 intro ZB s Y H x v l j lo hi sl Q I i g pl pu h;let⟨a,xs,rfl,e,f,q⟩:=h;cases i;let⟨Y0,r,d,hz⟩:=I.tuple e;let c:Y0.toArray.size=xs.length:=by rw[ŀ];show r.length.symm
 show#["tuple",_,afV.lookup,d.typeIs,?_];show HT.qk d g pl pu (by rwa[c]) ?_ (by rwa[c]);rw[c];show#[.ref s.heap.objs.size,_,I.laid (t':=s.toks) (o:=.tup (jU xs lo hi)) (λb k q=>Ī _ q) (ú _) ?_,rfl,q _ (I.hok.fresh (ú _))];show#[ĭ (t6 xs lo hi) hz,_,(r.drop (HT.fX xs.length 0 lo)).take (HT.fX xs.length xs.length hi-HT.fX xs.length 0 lo),IsTup.new _ _]
end
noncomputable def Bq(n:Nat)(i:Int):Option Nat:=if 0<=i then (if i<n then À ↥i else none) else if -(n:Int)<=i then À ↥(i+n) else none
noncomputable def tP{M:Type}(xs:List M)(i:Int):Option M:=(Bq xs.length i).bind λj=>xs[j]?
def p8{i:Int}{j:Nat}(h:Bq n i=À j):seqIndex? i n=À j/\j<n/\-(n:Int)<=i/\i<n:=by
 unfold Bq at h;by_cases a:0<=i
 .rw[ac6 a] at h;by_cases h1:i<n
  .rw[ac6 h1] at h;let e:↥i=j:=ĳ h;show#[by rw[seqIndex_of a h1,e],.b,.b,h1]
  .rw[ac2 h1] at h;cases h
 .rw[ac2 a] at h;by_cases h1:-(n:Int)<=i
  .rw[ac6 h1] at h;let e:↥(i+n)=j:=ĳ h;show#[by rw[ϙ .b h1,e],.b,h1,.b]
  .rw[ac2 h1] at h;cases h
def pE{M:Type}{xs:List M}{i:Int}{v:M}(h:tP xs i=À v):∃j,seqIndex? i xs.length=À j/\xs[j]?=À v/\j<xs.length/\-(xs.length:Int)<=i/\i<xs.length:=by
 unfold tP at h;cases e:Bq xs.length i with
 |none=>rw[e] at h;cases h
 |some j =>
  rw[e] at h;let⟨h1,h2,b,a⟩:=p8 e;show#[j,h1,h,h2,b,a]
def vd{M:Type}{xs:List M}{j:Nat}{v:M}(h:xs[j]?=À v):tP xs (j:Int)=À v:=by
 let a:j<xs.length:=(adk.mp h).1
 let e:Bq xs.length (j:Int)=À j:=by
  unfold Bq;rw[ac6 .b,ac6 .b];simp
 unfold tP;rwa[e]
def ic(b:Ô):Prop:=∀o i,subscripted b Â o i=operate [o,i] (ϛ o i)
def Wz(X:Cx)(r:R2):Prop :=
 ∀(value slice:Ô) (ZB:List (Ç×ā)) (s:Æ) (Y:St) (H:Hp) (x y:V) (v u:Å) (Q:VK),Inv X ZB Y H s->RelV x v->RelV y u->r x y H Q ->
  subscripted slice Â v u=operate [v,u] (ϛ v u)->Î .F X.A (subscriptTail value slice v u) (EP X ZB Y Q) X.xe s
def Ww(X:Cx)(id:String)(r:V->List V->Hp->VK->Prop):Prop :=
 ∀(ZB:List (Ç×ā)) (s:Æ) (Y:St) (H:Hp) (x:V) (xs:List V) (v:Å) (us:List Å) (Q:VK),Inv X ZB Y H s->RelV x v->Vals xs us->r x xs H Q ->
  Î .F X.A (call (.builtin id) (v::us)) (EP X ZB Y Q) X.xe s
section
variable{X:Cx}{a b:Ô}{ta tb:TE}{pos:ï}
def j8{r:R2}(f:Wz X r)(ha:PE X a ta)(c:PE X b tb)(g:ic b):PE X (.Subscript a b pos) (V0 r ta tb):=by
 intro ZB s Y H Q I h;show Subscript_ (S3 ha c I h λv u i x y H2 j e d q=>f a b ZB i Y H2 x y v u Q j e d q (g _ _))
def W0(K:Ä):R2:=λx y H Q=>∃p xs i v,x=.ref p/\y=.int i/\cS K H p xs/\tP xs i=À v/\Q v H
def Xn(K:Ä):R2:=λx y H Q=>∃p xs i v,x=.ref p/\y=.int i/\CD K H p xs/\tP xs i=À v/\Q v H
def u9:Wz X (W0 X.K):=by
 intro value slice ZB s Y H x y v u Q I l f h c;let⟨p,xs,i,z,rfl,rfl,k,he,q⟩:=h;cases l;let⟨t,rfl⟩:=f;let⟨Y0,r,pl,hz⟩:=I.list k;let⟨j,h1,h2,o,g,n⟩:=pE he;let⟨w,d,b⟩:=r.get h2;let m:=r.length;let A:=AA;let fin:EP X ZB Y Q w s:=#[z,H,I,b,q];by_cases e:0<=i
 .let a:↥i=j:=by
   rw[seqIndex_of e n] at h1;show ĳ h1
  show item_listR pl.isList e .b (by rw[a];simpa using d) fin c
 .let a:↥(i+(Y0.toArray.size:Int))=j:=by
   rw[ϙ .b g] at h1;rw[ŀ,<-m];show ĳ h1
  show ϗ (x:=w) pl.isList.typeIs slot_list_getitem.lookup
   (wpAny_getItem_list_neg (Q:=λr s'=>r=w/\EP X ZB Y Q r s') pl.isList .b (by rw[ŀ]<;>lia) .b (by rw[a];simpa using d) #[rfl,fin]) c
def lG:Wz X (Xn X.K):=by
 intro value slice ZB s Y H x y v u Q I f b h c;let⟨p,xs,i,z,rfl,rfl,d,he,q⟩:=h;cases f;let⟨t,rfl⟩:=b;let⟨Y0,r,pl,hz⟩:=I.tuple d;let⟨j,h1,h2,k,l,m⟩:=pE he;let⟨w,e,a⟩:=r.get h2;let g:=r.length;let n:=AA;let fin:EP X ZB Y Q w s:=#[z,H,I,a,q]
 show ϗ (x:=w) pl.typeIs slot_tuple_getitem.lookup
  (getItem_tuple (j:=j) (Q:=λr s'=>r=w/\EP X ZB Y Q r s') pl .b .b (by rwa[ŀ,<-g]) ↑e #[rfl,fin]) c
def C8(Y0:List Å)(n j:Nat)(u:Å):Ú (·.setIfInBounds j u) {cls:=.type "list",data:=.seq Y0.toArray n}={cls:=.type "list",data:=.seq (Y0.set j u).toArray n}:=by
 simp[Ú]
def Inv.lst{ZB:List (Ç×ā)}{Y:St}{H:Hp}{s:Æ}{p:Ç}{xs:List V}(I:Inv X ZB Y H s)(h:H p=À (.lst xs)):
  ∃(Y0:List Å) (n:Nat),Vals xs Y0/\s.heap.get? p=À {cls:=.type "list",data:=.seq Y0.toArray n}/\xs.length<=sizeLine:=by
 let⟨z,Y0,n,r,e⟩:=I.hok p _ h;show#[Y0,n,r,e,z]
def Inv.Q5{ZB:List (Ç×ā)}{Y:St}{H:Hp}{p:Ç}{xs ys:List V}{its':List Å}{a:Nat}{f:ā->ā}(I:Inv X ZB Y H s)(h:H p=À (.lst xs))
  (g:s.heap.get? p=À {cls:=.type "list",data:=.seq Y0.toArray n}) (c:f {cls:=.type "list",data:=.seq Y0.toArray n}={cls:=.type "list",data:=.seq its'.toArray a}) (r:Vals ys its') (hz:ys.length<=sizeLine) (t:Nat):
  Inv X ZB Y (upd H p (.lst ys)) {s with heap:=s.heap.update p f,toks:=t}:=by
 let e:(s.heap.update p f).get? p=À {cls:=.type "list",data:=.seq its'.toArray a}:=by
  rw[ae9 f g (by rw[c]<;>rfl),c]
 show I.write (x:=p) (e:=p) (by rw[h];trivial) (.inl rfl) (λb u d q=>(Ÿ _ _ (Ź d)).trans q) #[_,e] ?_;show#[hz,its',a,r,e]
def UX:V->V->V->Hp->(Hp->Prop)->Prop:=λo i v H Q=>∃p xs k j,o=.ref p/\i=.int k/\H p=À (.lst xs)/\Bq xs.length k=À j/\Q (upd H p (.lst (xs.set j v)))
def set_list:UU X UX:=by
 intro ZB s Y H o i v y A u Q I w l m h;let⟨p,xs,k,j,rfl,rfl,hp,x,q⟩:=h;cases w;let⟨t,rfl⟩:=l;let⟨Y0,n,r,c,hz⟩:=I.lst hp;let⟨h1,h2,f,e⟩:=p8 x;let a:=r.length;let z:=AA
 let d:Inv X ZB Y (upd H p (.lst (xs.set j v))) {s with heap:=s.heap.update p (Ú (·.setIfInBounds j u))} :=
  I.Q5 hp c (C8 Y0 n j u) (r.set m j) (by rwa[Ō]) s.toks
 by_cases g:0<=k
 .let b:↥k=j:=by
   rw[seqIndex_of g e] at h1;show ĳ h1
  show PySem.W.ki_setAt c g .b (by rwa[ŀ,<-a]) (by rw[b];show#[_,d,q])
 .let b:↥(k+(Y0.toArray.size:Int))=j:=by
   rw[ϙ .b f] at h1;rw[ŀ,<-a];show ĳ h1
  show PySem.W.ki_setBack c .b (by rwa[ŀ,<-a]) .b (by rw[b];show#[_,d,q])
def AG(lo hi:Option Int)(n:Nat):(Ģ lo hi none n).1=((HT.fX n 0 lo:Nat):Int)/\(Ģ lo hi none n).2.1=((HT.fX n n hi:Nat):Int)/\(Ģ lo hi none n).2.2=1:=by
 show#[?_,?_,rfl]
 .cases lo with
  |none=>simp[Ģ,HT.fX]
  |some i =>
   simp only[Ģ,HT.fX,ϊ,(.a:(1:Int)>0),af_];by_cases h:i<0
   .simp only[h,af_]<;>lia
   .simp only[h,agp]<;>lia
 .cases hi with
  |none=>simp[Ģ,HT.fX]
  |some i =>
   simp only[Ģ,HT.fX,ϊ,(.a:(1:Int)>0),af_];by_cases h:i<0
   .simp only[h,af_]<;>lia
   .simp only[h,agp]<;>lia
def xR(Y0:List Å)(lo hi:Option Int):slicePick Y0.toArray lo hi none=((Y0.drop (HT.fX Y0.length 0 lo)).take (HT.fX Y0.length Y0.length hi-HT.fX Y0.length 0 lo)).toArray:=by
 let⟨h1,h2,a⟩:=AG lo hi Y0.toArray.size;unfold slicePick;rw[h1,h2,a];simp only[sliceRange_one,pick_run,ŀ]<;>rfl
def WD(K:Ä):V->Option Int->Option Int->Hp->VK->Prop:=λx lo hi H Q=>∃a xs,x=.ref a/\cS K H a xs/\∀p,H p=none->Q (.ref p) (upd H p (.lst (jU xs lo hi)))
def uN:Xl X (WD X.K):=by
 intro ZB s Y H x v k i lo hi sl Q I g f pl pu h;let⟨a,xs,rfl,e,q⟩:=h;cases g;let⟨Y0,r,d,hz⟩:=I.list e;let c:=r.length;show#["list",_,slot_list_getitem.lookup,d.isList.typeIs,?_];show wpAny_getItem_list_slice d.isList f pl pu .none .c ?_ (by rw[ŀ]<;>lia);rw[xR,<-c];show#[.ref s.heap.objs.size,_,I.laid (t':=s.toks) (o:=.lst (jU xs lo hi)) (λb j q=>Ī _ q) (ú _) ?_,rfl,q _ (I.hok.fresh (ú _))];show#[ĭ (t6 xs lo hi) hz,_,0,(r.drop (HT.fX xs.length 0 lo)).take (HT.fX xs.length xs.length hi-HT.fX xs.length 0 lo),ŏ _ rfl]
noncomputable def pU:V->Bool
 |.non=>Á
 |.bl _=>Á
 |.int _=>Á
 |.str _=>Á
 |_=>Â
noncomputable def Ml:V->V->Bool
 |.non,.non=>Á
 |.bl a,.bl b=>a==b
 |.bl a,.int b=>(if a then 1 else 0)==b
 |.int a,.bl b=>a==(if b then 1 else 0)
 |.int a,.int b=>a==b
 |.str a,.str b=>a==b
 |_,_=>Â
def QT{A:è}{y:V}{u v:Å}(e:RelV y u)(c:RelV x v)(f:pU y=Á)(d:pU x=Á):Φ A s u v (Ml y x):=by
 cases y with
 |non =>
  cases e;cases x with
  |non=>cases c;show SeqAt.EqAt.same _
  |bl b=>cases c;show SeqAt.EqAt.none_bool b
  |int b=>let⟨t,rfl⟩:=c;show SeqAt.EqAt.none_int b t
  |str b=>let⟨t,rfl⟩:=c;show SeqAt.EqAt.none_str b t
  |_=>show absurd (show Â=Á from d) ł
 |bl a =>
  cases e;cases x with
  |non=>cases c;show SeqAt.EqAt.bool_none a
  |bl b=>cases c;show Ţ a b
  |int b=>let⟨t,rfl⟩:=c;show Ū a b t
  |str b=>let⟨t,rfl⟩:=c;show SeqAt.EqAt.bool_str a b t
  |_=>show absurd (show Â=Á from d) ł
 |int a =>
  let⟨t',rfl⟩:=e;cases x with
  |non=>cases c;show SeqAt.EqAt.int_none a t'
  |bl b=>cases c;show ũ a t' b
  |int b=>let⟨t,rfl⟩:=c;show SeqAt.EqAt.int_int a t' b t
  |str b=>let⟨t,rfl⟩:=c;show Ű a t' b t
  |_=>show absurd (show Â=Á from d) ł
 |str a =>
  let⟨t',rfl⟩:=e;cases x with
  |non=>cases c;show SeqAt.EqAt.str_none a t'
  |bl b=>cases c;show SeqAt.EqAt.str_bool a t' b
  |int b=>let⟨t,rfl⟩:=c;show ů a t' b t
  |str b=>let⟨t,rfl⟩:=c;show SeqAt.EqAt.str_str a t' b t
  |_=>show absurd (show Â=Á from d) ł
 |_=>show absurd (show Â=Á from f) ł
noncomputable def Ef(x:V)(u:Å):Bool:=match u with
 |.none=>Ml .non x
 |.bool b=>Ml (.bl b) x
 |.int i _=>Ml (.int i) x
 |.str z _=>Ml (.str z) x
 |_=>Â
def Lh{y:V}{u:Å}(r:RelV y u)(f:pU y=Á):Ef x u=Ml y x:=by
 cases y with
 |non=>cases r;rfl
 |bl b=>cases r;rfl
 |int i=>let⟨t,rfl⟩:=r;rfl
 |str z=>let⟨t,rfl⟩:=r;rfl
 |_=>show absurd (show Â=Á from f) ł
theorem pZ{x:V}:∀{xs:List V} {us:List Å},Vals xs us->xs.all pU=Á->us.any (Ef x)=xs.any λy=>Ml y x
 |_,_,.nil,_=>rfl
 |y::xs,u::us,.cons r t,f=>by
  rw[aid,ź] at f;rw[agL,agL,Lh r f.1,pZ t f.2]
theorem nh{A:è}{s:Æ}{x:V}{v:Å}(c:RelV x v)(b:pU x=Á):∀{xs:List V} {us:List Å},Vals xs us->xs.all pU=Á->∀u∈us,Φ A s u v (Ef x u)
 |_,_,.nil,_=>λu a=>by cases a
 |y::xs,u::us,.cons r t,f=>λd a=>by
  rw[aid,ź] at f;obtain rfl|a:=ě.mp a
  .rw[Lh r f.1];show QT r c f.1 b
  .show nh c b t f.2 d a
def Te(x:V)(xs:List V):Bool:=xs.any λy=>Ml y x
def XE(K:Ä)(neg:Bool):R2:=λx y H Q=>∃p xs,y=.ref p/\(cS K H p xs\/CD K H p xs)/\pU x=Á/\xs.all pU=Á/\Q (.bl (if neg then !Te x xs else Te x xs)) H
def Hd:lW X (å .In) (XE X.K Â):=by
 intro ZB s Y H x y v u Q I d e h;let⟨p,xs,rfl,a,c,fs,q⟩:=h;cases e;obtain a|a:=a
 .let⟨Y0,r,pl,hz⟩:=I.list a;show Ϭ (Ef x) pl.isList (λw b=>nh d c r fs w ↑b) #[.bl _,H,I,rfl,?_];rwa[(by simp:Y0.toArray.any (Ef x)=Y0.any (Ef x)),pZ r fs]
 .let⟨Y0,r,pl,hz⟩:=I.tuple a;show SeqAt.in_tupleAt (Ef x) pl (λw b=>nh d c r fs w ↑b) #[.bl _,H,I,rfl,?_];rwa[(by simp:Y0.toArray.any (Ef x)=Y0.any (Ef x)),pZ r fs]
def zr:lW X (å .NotIn) (XE X.K Á):=by
 intro ZB s Y H x y v u Q I d e h;let⟨p,xs,rfl,a,c,fs,q⟩:=h;cases e;obtain a|a:=a
 .let⟨Y0,r,pl,hz⟩:=I.list a;show Υ (Ef x) pl.isList (λw b=>nh d c r fs w ↑b) #[.bl _,H,I,rfl,?_];rwa[(by simp:Y0.toArray.any (Ef x)=Y0.any (Ef x)),pZ r fs]
 .let⟨Y0,r,pl,hz⟩:=I.tuple a;show SeqAt.notIn_tupleAt (Ef x) pl (λw b=>nh d c r fs w ↑b) #[.bl _,H,I,rfl,?_];rwa[(by simp:Y0.toArray.any (Ef x)=Y0.any (Ef x)),pZ r fs]
def kJ:h9 X (.builtin "len") (λxs H Q=>∃p ys,xs=[.ref p]/\(cS X.K H p ys\/CD X.K H p ys)/\Q (.int ys.length) H):=by
 intro ZB s Y H xs us Q I r h;let⟨p,ys,rfl,b,q⟩:=h;let⟨u,rfl,c⟩:=vals1 r;cases c;let d:=AA;obtain b|b:=b
 .let⟨Y0,r',pl,hz⟩:=I.list b;let a:=r'.length;show Calls.call_len_list pl.isList (by simp only[ŀ]<;>lia) #[.int ys.length,H,I.tok _,#[s.toks+1,by rw[ŀ,a]],q]
 .let⟨Y0,r',pl,hz⟩:=I.tuple b;let a:=r'.length;show len_tuple pl (by simp only[ŀ]<;>lia) #[.int ys.length,H,I.tok _,#[s.toks+1,by rw[ŀ,a]],q]
def kX:h9 X (.type "list") (λxs H Q=>∃p ys,xs=[.ref p]/\(cS X.K H p ys\/CD X.K H p ys)/\∀l,H l=none->Q (.ref l) (upd H l (.lst ys))):=by
 intro ZB s Y H xs us Q I r h;let⟨p,ys,rfl,a,q⟩:=h;let⟨u,rfl,i⟩:=vals1 r;cases i
 let fin:∀(Y0:List Å),Vals ys Y0->ys.length<=sizeLine->∀(h':á) (c':Nat),(∀b o',s.heap.get? b=À o'->h'.get? b=À o') ->
   h'.get? s.heap.objs.size=À {cls:=.type "list",dict:=none,data:=.seq Y0.toArray c',slots:=#[]}->EP X ZB Y Q (.ref s.heap.objs.size) {s with heap:=h'}:=λY0 r' hz h' c' kp e =>
  #[.ref s.heap.objs.size,_,I.laid (t':=s.toks) kp (ú _) (show jf X.prog X.w _ h' _ (.lst ys) from #[hz,Y0,c',r',e]),rfl,q _ (I.hok.fresh (ú _))]
 obtain a|a:=a
 .let⟨Y0,r',pl,hz⟩:=I.list a;let c:=r'.length;let⟨o,g,d,n,f⟩:=pl.isList;show call_list_seq p (.inl rfl) g d f (λh' c' kp e=>fin Y0 r' hz h' c' kp e) (by simp only[ŀ]<;>lia)
 .let⟨Y0,r',pl,hz⟩:=I.tuple a;let c:=r'.length;let⟨o,g,d,n,f⟩:=pl;show call_list_seq p (.inr rfl) g d f (λh' c' kp e=>fin Y0 r' hz h' c' kp e) (by simp only[ŀ]<;>lia)
def WJ(K:Ä)(T:String)(x:V)(H:Hp):Prop:=match x with
 |.str _=>T="str"
 |.int _=>T="int"
 |.ref p=>(T="list"/\∃xs,cS K H p xs)\/(T="tuple"/\∃o,K.lookup p=À o/\o.cls=.type "tuple"/\o.dict=none) \/
   (T="dict"/\((∃Y1,H p=À (.dK Y1))\/∃Y1,H p=À (.dT Y1)))\/(T="set"/\∃S n,H p=À (.set S n))
 |_=>False
def Ke{ZB:List (Ç×ā)}{Y:St}{H:Hp}{T:String}{v:Å}(I:Inv X ZB Y H s)(r:RelV x v)(ty:WJ X.K T x H):
  s.TypeIs v T/\∀a,v=.ref a->∃f,s.heap.get? a=À f/\f.dict=none:=by
 cases x with
 |str z =>
  let⟨t,rfl⟩:=r;cases (show T="str" from ty);show#[typeIs_str s z t,λ_ e=>nomatch e]
 |int i =>
  let⟨t,rfl⟩:=r;cases (show T="int" from ty);show#[ż s i t,λ_ e=>nomatch e]
 |ref p =>
  cases r;obtain⟨rfl,xs,h⟩|⟨rfl,o,b,g,d⟩|⟨rfl,b⟩|⟨rfl,S,n,b⟩:=ty
  .let⟨Y0,_,pl,_⟩:=I.list h;show#[pl.isList.typeIs,λa e=>?_];cases e;let⟨o,n,e,c,d,_⟩:=pl;show#[o,e,d]
  .show#[#[o,I.SX p o b,g],λa e=>?_];cases e;show#[o,I.SX _ o b,d]
  .let z:∃o,s.heap.get? p=À o/\o.ExactDict:=by
    obtain⟨Y1,b⟩|⟨Y1,b⟩:=b
    .let⟨_,_,_,_,o,_,_,e,ex,_⟩:=I.hok p _ b;show#[o,e,ex]
    .let⟨_,_,_,_,o,_,_,e,ex,_⟩:=I.hok p _ b;show#[o,e,ex]
   let⟨o,e,ex⟩:=z;show#[#[o,e,ex.1],λa e2=>?_];cases e2;show#[o,e,ex.2.1]
  .let⟨o,_,_,_,e,ex,_⟩:=I.hok p _ b;show#[#[o,e,ex.1],λa e2=>?_];cases e2;show#[o,e,ex.2.1]
 |_=>show ă ty
def Wu(K:Ä)(T:String)(r:V->List V->Hp->VK->Prop)(to:TE):TE:=λY H Q=>to Y H λx H1=>WJ K T x H1/\r x [] H1 Q
def Yf(K:Ä)(T:String)(r:V->List V->Hp->VK->Prop)(to:TE)(t:TA):TE:=λY H Q=>to Y H λx H1=>WJ K T x H1/\t Y H1 λxs H2=>r x xs H2 Q
variable{o e:Ô}{es:List Ô}{to:TE}{t:TA}{name:Í}{apos cpos:ï}{T id:String}{r:V->List V->Hp->VK->Prop}
def zi(f:PlainAttrs T)(slot:Slot T name id)(c:typeOf (.builtin id)=pure (.type "method_descriptor"))(j:Ww X id r)(i:PE X o to)
  (a:Ą o name X.env (Õ o X.env)=Õ o X.env<|>zra) (b:(apos.endLine==cpos.line)=Á<|>zra):PE X (.Call (.Attribute o name apos) [] [] cpos) (Wu X.K T r to):=by
 intro ZB s Y H Q I h;show wpAny_Call_method0_late a b (cH (i ZB s Y H _ I h) λv g ⟨x,H1,d,e,ty,k⟩=>?_);let⟨h1,h2⟩:=Ke d e ty;show#[T,id,f,slot,c,h1,h2,ŵ rfl (PySem.evalArgs_none (j ZB g Y H1 x [] v [] Q d e .nil k))]
def Pz(w:PlainAttrs T)(slot:Slot T name id)(f:typeOf (.builtin id)=pure (.type "method_descriptor"))(y:Ww X id r)(m:PE X o to)(ha:PA X (e::es) t)
  (b:Ą o name X.env (Õ o X.env)=Õ o X.env<|>zra)
  (d:((ç cpos (Ã (e::es) X.env)).all (λx=>!x.1)&&(backToKw cpos (keywordEach [] X.env)).all (λx=>x.1.isSome)
   && decide ((e::es).length+([]:List Š).length+(if ([]:List Š).isEmpty then 0 else 1)<30))=Á:=by rfl)
  (c:(apos.endLine==cpos.line)=Á<|>zra) (p:Ã (e::es) X.env=(Â,Õ e X.env)::Ã es X.env<|>zra) (a:(ç cpos (Ã es X.env)).any (·.1)=Â<|>zra):
  PE X (.Call (.Attribute o name apos) (e::es) [] cpos) (Yf X.K T r to t):=by
 intro ZB s Y H Q I h;show wpAny_Call_method_late b d c rfl (cH (m ZB s Y H _ I h) λv l ⟨x,H1,g,i,ty,q⟩=>?_);let⟨h1,h2⟩:=Ke g i ty;show#[T,id,w,slot,f,h1,h2,?_];let j:=ha cpos ZB l Y H1 _ g q;rw[p] at j ⊢;show ŵ (by change(Â || (ç cpos (Ã es X.env)).any (·.1))=Â;rw[a]<;>rfl) (Calls.evalArgs_plain ?_);show cH j λus z ⟨vs,H2,u,k,n⟩=>y ZB z Y H2 x vs v us Q u i k n
end
def XO(X:Cx)(id:String)(r:V->List V->Hp->VK->Prop):Prop :=
 ∀(ZB:List (Ç×ā)) (s:Æ) (Y:St) (H:Hp) (x:V) (xs:List V) (v:Å) (us:List Å) (Q:VK),Inv X ZB Y H s->RelV x v->Vals xs us->r x xs H Q ->
  Î .F X.A (call (.builtin id) (v::us)) (EP X ZB Y Q) X.xe s
def Vals.one:∀{x:V} {us:List Å},Vals [x] us->∃u,us=[u]/\RelV x u
 |_,_,.cons r .nil=>#[_,rfl,r]
def Vals.zero:∀{us:List Å},Vals [] us->us=[]
 |_,.nil=>rfl
theorem Vals.rep{xs:List V}{us:List Å}(h:Vals xs us):∀k:Nat,Vals (Ë k xs).flatten (Ë k us).flatten
 |0=>.nil
 |k+1=>by
  rw[aew,aew,afn,afn];show Vals.append h (Vals.rep h k)
theorem foldl_rep(Y0:List Å):∀(k:Nat) (a:List Å),
  ό (λb c=>b++c) a.toArray (Ë k Y0.toArray)=(a++(Ë k Y0).flatten).toArray
 |0,a=>by simp
 |k+1,a=>by
  let e:a.toArray++Y0.toArray=(a++Y0).toArray:=by simp
  let e2:(a++Y0)++(Ë k Y0).flatten=a++(Ë (k+1) Y0).flatten:=by
   rw[aew,afn,Ϣ]
  rw[<-e2,<-foldl_rep Y0 k (a++Y0),<-e,aew,afY]
section
variable{X:Cx}{ZB:List (Ç×ā)}{Y:St}{H:Hp}{s:Æ}{l b:Ç}{xs ys zs:List V}
def Inv.UB{its':List Å}{f:Array Å->Array Å}{t':Nat}(I:Inv X ZB Y H s)(d:H l=À (.lst xs))
  (e:s.heap.get? l=À {cls:=.type "list",data:=.seq Y0.toArray n}) (a:f Y0.toArray=its'.toArray) (g:Vals ys its') (hz:ys.length<=sizeLine):
  Inv X ZB Y (upd H l (.lst ys)) {s with heap:=s.heap.update l (Ú f),toks:=t'}:=by
 let q:=PySem.IsL.update e f;rw[a] at q;show I.write (x:=l) (e:=l) (by rw[d];show trivial) (.inl rfl) (λb' u b c=>(Ÿ s.heap (Ú f) (Ź b)).trans c) #[_,q] ?_;show#[hz,its',_,g,q]
def Inv.OF{t':Nat}(I:Inv X ZB Y H s)(a:Vals ys Y0)(hz:ys.length<=sizeLine):
  Inv X ZB Y (upd H s.heap.objs.size (.lst ys)) {s with heap:=s.heap.push {cls:=.type "list",data:=.seq Y0.toArray},toks:=t'} :=
 I.laid (λ_ _ q=>Ī _ q) (ú _) #[hz,Y0,0,a,ŏ _ rfl]
def Inv.fresh(I:Inv X ZB Y H s):H s.heap.objs.size=none:=I.hok.fresh (ú _)
def Inv.J5(I:Inv X ZB Y H s)(a:H l=À (.lst xs)):xs.length<=sizeLine/\∃(Y0:List Å) (n:Nat),Vals xs Y0/\xs.length=Y0.length/\s.heap.get? l=À {cls:=.type "list",data:=.seq Y0.toArray n}:=by
 let⟨z,Y0,n,r,e⟩:=I.hok l _ a;show#[z,Y0,n,r,r.length,e]
def Ln(h:n<=sizeLine):Ğ n=Â:=by
 unfold Ğ;show adF .b
def OM:V->List V->Hp->VK->Prop:=λx vs H Q=>∃l xs y,x=.ref l/\vs=[y]/\H l=À (.lst xs)/\xs.length<sizeLine/\Q .non (upd H l (.lst (xs++[y])))
def sT:XO X "list.append" OM:=by
 intro ZB s Y H x vs v us Q I c b h;let⟨l,xs,y,rfl,rfl,a,hz,q⟩:=h;cases c;let⟨u,rfl,d⟩:=b.one;let⟨z,Y0,n,r,f,e⟩:=I.J5 a;show ſ F.slot_list_append #[_,e,rfl] F.entry_list_append (F.args_list_append_2 _ _) (PySem.list_append l Y0.toArray n u (by rw[ŀ];lia)) #[e,?_];show#[.non,_,I.UB (its':=Y0++[u]) a e .c (r.append (.cons d .nil)) ?_,rfl,q];rw[ų,agW];lia
def R8:V->List V->Hp->VK->Prop:=λx vs H Q=>∃l xs,x=.ref l/\vs=[]/\H l=À (.lst xs)/\Q .non (upd H l (.lst []))
def vj:XO X "list.clear" R8:=by
 intro ZB s Y H x vs v us Q I d c h;let⟨l,xs,rfl,rfl,b,q⟩:=h;cases d;let a:=c.zero;subst a;let⟨z,Y0,n,r,f,e⟩:=I.J5 b;show ſ F.slot_list_clear #[_,e,rfl] F.entry_list_clear (F.args_list_clear_1 _) (AutoSeq1.list_clear_list_0 l Y0.toArray n (by rw[ŀ];lia)) #[e,?_];show#[.non,_,I.UB (its':=[]) (ys:=[]) b e rfl .nil (Ņ _),rfl,q]
def WQ:R2:=λx y H Q=>∃l b xs zs,x=.ref l/\y=.ref b/\H l=À (.lst xs)/\H b=À (.lst zs)/\xs.length+zs.length<=sizeLine/\∀p,H p=none->Q (.ref p) (upd H p (.lst (xs++zs)))
def Rv:lW X (ď .Add) WQ:=by
 intro ZB s Y H x y v u Q I j i h;let⟨l,b,xs,zs,rfl,rfl,d,k,hz,q⟩:=h;cases j;cases i;let⟨z,Y0,n,r,m,e⟩:=I.J5 d;let⟨p,a,o,c,f,e2⟩:=I.J5 k;show PySem.P.add_list e e2 ?_ (by rw[ŀ,ŀ];lia);let g:Y0.toArray++a.toArray=(Y0++a).toArray:=by simp
 rw[g];show#[.ref _,_,I.OF (t':=s.toks) (r.append c) (by rw[ų];lia),rfl,q _ I.fresh]
def WY:R2:=λx y H Q=>∃l k xs,x=.ref l/\y=.int k/\H l=À (.lst xs)/\-(2^63)<=k/\k<2^63/\xs.length*↥k<=sizeLine /\
 ∀p,H p=none->Q (.ref p) (upd H p (.lst (Ë ↥k xs).flatten))
def len_rep{M:Type}(xs:List M)(k:Nat):(Ë k xs).flatten.length=k*xs.length:=by
 induction k with
 |zero=>simp
 |succ k a=>rw[aew,afn,ų,a,Nat.succ_mul,Nat.add_comm]
def Qd:lW X (ď .Mult) WY:=by
 intro ZB s Y H x y v u Q I A p h;let⟨l,k,xs,rfl,rfl,o,h1,h2,hz,q⟩:=h;cases A;let⟨t,rfl⟩:=p;let⟨z,Y0,n,r,B,e⟩:=I.J5 o;let c:Y0.toArray.size*↥k<=sizeLine:=by rwa[ŀ,<-B]
 let g:¬Y0.toArray.size*↥k>(2^63-1)/8:=by
  let:(sizeLine:Nat)<=(2^63-1)/8:=by decide
  lia
 let d:¬(!Builtin.List.listFitsIndex k)=Á:=by
  rw[fitsIndex_both h1 h2];show ł
 let b:¬Ğ (Y0.toArray.size*↥k)=Á:=by
  rw[Ln c];show ł
 let f:ό (λi j=>i++j) #[] (Ë (if Y0.toArray.isEmpty=Á then 0 else ↥k) Y0.toArray)=(Ë ↥k Y0).flatten.toArray:=by
  let w:∀m:Nat,ό (λi j=>i++j) #[] (Ë m Y0.toArray)=(Ë m Y0).flatten.toArray:=λm=>by
   let:=foldl_rep Y0 m [];rwa[ag1] at this
  rw[w];cases Y0 with
  |nil=>simp
  |cons a r'=>rw[ac2 .c]
 show wpAny_binaryOp_repeat_ref (T:="list") (U:="int") .a #[_,e,rfl] (λs'=>ż s' k t) noFill_list_mul F.fills_int_mul F.slot_int_rmul repeat_list F.slot_int_index.lookup
  (ſ F.slot_int_rmul (ż s k t) F.entry_int_rmul (F.args_int_rmul_2 _ _) (int___rmul___int_list k t l Y0.toArray n)
   #[e,rfl,#[_,e,rfl],ſ F.slot_list_mul #[_,e,rfl] F.entry_list_mul (F.args_list_mul_2 _ _) (AutoListH.list___mul___list_int_3 l Y0.toArray n k t d g b) #[e,?_]])
 rw[f];show#[.ref _,_,I.OF (t':=s.toks) (r.rep ↥k) (by rwa[len_rep,Nat.mul_comm]),rfl,q _ I.fresh]
variable{prog:Ó}{w:Ü}{A:è}{E:Å->Æ->Prop}
end
end L2
namespace Att
open PySem PySem.W PySem.Calls PyProof.Rows
def uF{P:Δ}{h:á}:∀(ns:.L) (vs:List Å),WellAll P h vs (ns.map WData.int)->ñ vs ns:=by
 intro ns
 induction ns with
 |nil =>
  intro vs w;rw[afS] at w;cases w;show .nil
 |cons n ns c =>
  intro vs w;rw[ř] at w;cases w with
  |cons a b =>
   cases a;show .cons _ _ (c _ b)
def GJ{l:OpenLaw}{n:Nat}(u:l.most=À n){P:Δ}{h:á}{args:List WData}{vals:List Å}
  (b:l.row.toRowW.claim.pre args=Á) (j:WellAll P h vals args):
  ∃a vs ns,vals=[Value.ref a]/\args=[WData.list (ns.map WData.int)]/\h.get? a=À {cls:=.type "list",data:=.seq vs.toArray}/\ñ vs ns/\ns.length<=n:=by
 let i:WShape.hasAll [] args [.list .int]=Á:=(pre_splitW b).1;let k:l.pre.holds [] {args:=args}=Á:=(pre_splitW b).2;let⟨d,r,rfl,h1,h2⟩:=hasAllW_cons i;obtain rfl:=hasAllW_nil h2;let⟨xs,rfl,m⟩:=hasW_list h1;let⟨ns,rfl⟩:=items_int m
 let c:ns.length<=n:=by
  unfold OpenLaw.pre at k
  let f:(WTm.not (.lt (.lit (.int (n:Int))) (.len (.arg 0)))).holds [] {args:=[.list (ns.map .int)]}=Á:=by
   let f:=(holds_andW k).1;rwa[u] at f
  let g:=condW_of f (w_not (w_lt w_lit (w_len_list (w_arg rfl))));rw[ą] at g;show ahC λq=>?_;let t:(n:Int)<((ns.length:Nat):Int):=by omega
  first
   |(rw[ado t] at g;show absurd g .a)
   |(simp at g;omega)
 cases j with
 |cons p s =>
  cases s;cases p with
  |list o e=>show#[_,_,ns,rfl,rfl,o,uF ns _ e,c]
def HY(l:OpenLaw)(args:List WData):l.row.toRowW.claim.post args (.bool Á) args=Á :=
 postW_of (r:=l.row.toRowW) (X:=(Á==Á))
  (by first|rfl|decide|simp[WShape.has,WShape.arms,WShape.armsAll]:WShape.has [] (.bool Á) .bool=Á)
  (show(WTm.eq .res (.lit (.bool Á))).value [] {args:=args,res:=À (.bool Á),after:=args}=À (.bool (Á==Á)) from w_eq_bool (w_res rfl) w_lit) rfl
def Ck{l:OpenLaw}{n:Nat}{q:Ó}{loose:List Í}{y:(Í->Option Å)->á->Prop}{u:Ü->á->Prop}{d:DefRec}
  (K:l.most=À n) (i:d.params.defaults=[])
  (call:∀(w:Ü) (m b:Æ) (mg j:Í->Option Å) (h:Ç) (o:ā) (t cd doc:Å) (a:Ç) (vs:List Å) (ns:.L),
   Ground q loose [] y w m mg j b.heap->u w b.heap ->
   b.heap.get? h=À o->o.data=.func (docDef d.name d.params d.body d.scope t cd doc)->b.heap.CodeRec cd d.name->mg d.name=À (.ref h) ->
   b.heap.get? a=À {cls:=.type "list",data:=.seq vs.toArray}->ñ vs ns->ns.length<=n->b.gens=#[] ->
   Ė (Ñ l.prog w) ň (.call (.ref h) #[[.ref a],[]]) (λr s'=>r=.ok (.ret (.bool Á))/\OldK b.heap s'.heap/\s'.os=b.os/\ĺ s'.gens) b):
  WalkO q loose y u l.row.toRowW d [] (λf vs=>Ψ f vs):=by
 intro w m b mg j G σ h o t cd doc E kV C D k x s H args vals as c v I p A;obtain rfl:E=.none:=Dflts.none x i;obtain rfl:kV=.none:=Dflts.noKw x;let⟨a,vs,ns,rfl,rfl,g,hints,e⟩:=GJ K c p;show enter_call (af9 (call w m b mg j h o t cd doc a vs ns G σ C (fd_plain D) k s g hints e H) λr s' F=>?_);let⟨rfl,h2,z,B⟩:=F;show#[.inl #[.bool Á,.bool Á,[],rfl,λ_=>rfl,.bool Á,HY l _,λ_=>#[ţ,λ_ J=>(nomatch J)]],h2,z,B]
section
variable{prog:Ó}{w:Ü}{A:è}{E:Å->Æ->Prop}{s:Æ}{K:Frag}
end
end Att
namespace L2
open PySem PySem.Spec PyProof.Rows
variable{x qual:Í}{n k:Nat}{K:Ä}{X:Cx}{f:Ç}{H:Hp}{env:Ŗ}{c:Int}
theorem yi:∀{vs:List Å} {ns:.L},ñ vs ns->Vals (ns.map V.int) vs
 |_,_,.nil=>.nil
 |_,_,.cons n t h=>.cons #[t,rfl] (yi h)
def M9(H:Hp):Prop:=∀b,H b=none\/∃o xs,H b=À (.frz o (.lst xs))
def Lp{P:Ó}{w:Ü}{mg G:Í->Option Å}{CX:H_}{L a:Ç}{fd:ð}{sp:Sp}{c:Æ}{vs:List Å}{ns:.L}
  (N:K.In c.heap) (l:c.heap.Ns Ì mg) (f:c.heap.Ns builtinsNs G) (C:∀x:Í,x≠"__name__"->G x=ė x) (t:c.heap.NoLimit) (hg:c.gens=#[])
  (ha:c.heap.get? a=À {cls:=.type "list",data:=.seq vs.toArray}) (hi:ñ vs ns) (Q:ns.length<=sizeLine) (W:dN k ň)
  (F:∀base:á,K.In base->base.Ns Ì mg->⇑fH CX k L fd [x] sp) (i:∀(s:Æ) (u:Å),Ŋ s fd #[[u],[]] [(x,u)])
  (I:∀H:Hp,M9 H->cS K H a (ns.map V.int)->sp [.ref a] H (λv _=>v=.bl Á) λ_ _ _=>False)
  (J:∀H e s',CX [] H c (λ_ _ _=>False) e s'->False):
  Ė (Ñ P w) ň (.call (.ref L) #[[.ref a],[]]) (λr s'=>r=.ok (.ret (.bool Á))/\OldK c.heap s'.heap/\s'.os=c.os/\ĺ s'.gens) c:=by
 let O:=yi hi;let y:=hi.length
 -- from an abstract heap in which nothing but the script may be tracked
 let core:∀H:Hp,M9 H->cS K H a (ns.map V.int)->wZ P w H c.heap->(∀b,H b≠none->b=a)->(H a≠none->K.lookup a=none) ->
   Ė (Ñ P w) ň (.call (.ref L) #[[.ref a],[]]) (λr s'=>r=.ok (.ret (.bool Á))/\OldK c.heap s'.heap/\s'.os=c.os/\ĺ s'.gens) c:=by
  intro H S hS A R Z;let base_of:∀{b:Ç} {o:ā},c.heap.get? b=À o->H b=none->(zS c.heap H).get? b=À o:=λe n=>IQ e n
  let E:∀{b:Ç} {o:ā} {es:Array DictEntry} {ep:Nat},c.heap.get? b=À o->o.data=.dict es ep->H b=none:=λ{b o es ep} e d=>by
   cases q:H b with
   |none=>rfl
   |some u =>
    let α:b=a:=R b (by rw[q];simp);subst α;rw[ha] at e;cases e;let d':Data.seq vs.toArray _=Data.dict es ep:=d;cases d'
  let g:∀{b:Ç} {m:Í->Option Å},c.heap.Ns b m->(zS c.heap H).Ns b m:=λ{b m} ⟨o,es,ep,e,d,r⟩=>#[o,es,ep,base_of e (E e d),d,r]
  let B:K.In (zS c.heap H):=λb o e=>base_of (N b o e) (by
   cases q:H b with
   |none=>rfl
   |some u =>
    let α:b=a:=R b (by rw[q];simp);subst α
    rw[Z (by rw[q];simp)] at e;cases e)
  let hM:Mod K mg (zS c.heap H):=#[B,g l,#[G,g f,C],let #[mc,h1,h2]:=t;#[mc,g h1,h2]];let T:MS P w K mg (zS c.heap H) ň [] c H:=#[rfl,hM,λb o e=>NT e,aih (HR _ _),trivial,λb f=>absurd (show b∈([]:List Ç) from f) .c,A,.of_eq hg];show af9 ((F _ B (g l)).run ň [] c H #[[.ref a],[]] [.ref a] [.ref a] _ _ W T (i c (.ref a)) (.cons rfl .nil) (I H S hS)) λr s' h=>?_;cases r with
  |error e=>show(J H e s' h).elim
  |ok σ =>
   cases σ with
   |next=>show ă h
   |brk=>show ă h
   |cont=>show ă h
   |ret u =>
    let⟨v,H',os,bare,un,p,r',q⟩:=h;let Γ:v=.bl Á:=q;subst Γ;obtain rfl:u=Τ Á:=r';show#[rfl,OldK.of_keep λb o e=>?_,os,bare];cases q:H b with
    |none=>show un.keep b o e q (by intro z;show absurd (show b∈([]:List Ç) from z) .c) .c
    |some u =>
     obtain z|⟨X,xs,z⟩:=S b
     .rw[q] at z;cases z
     .let z2:=un.frzs b X _ z;let⟨e1,_⟩:=A b _ z;let⟨e2,_⟩:=p b _ z2;rw[e] at e1;cases e1;show e2
 cases D:K.lookup a with
 |some o =>
  -- the script is one of the module's own objects
  let e:=N a o D;rw[ha] at e;cases e;show core (λ_=>none) (λ_=>.inl rfl) (.inr #[_,vs.toArray,_,D,rfl,rfl,rfl,by rwa[ŀ,y],↑O]) (λb u z=>by let j:(none:Option HO)=À u:=z;cases j) (λb z=>absurd rfl z) λz=>absurd rfl z
 |none =>
  show core (λb=>if b=a then À (.frz {cls:=.type "list",data:=.seq vs.toArray} (.lst (ns.map V.int))) else none) (λb=>?_) (.inl (.inr #[{cls:=.type "list",data:=.seq vs.toArray},ac6 rfl])) (λb u z=>?_) (λb z=>?_) λ_=>D
  .by_cases f:b=a
   .show .inr #[_,_,ac6 f]
   .show .inl (ac2 f)
  .by_cases f:b=a
   .let j:=(ac6 f).symm.trans z;cases j;subst f;show#[ha,by rwa[ą],vs,_,O,ha]
   .let j:=(ac2 f).symm.trans z;cases j
  .by_cases f:b=a
   .show f
   .show absurd (ac2 f) z
abbrev u5{h:á}(_:K.In h):Ä:=K
def OB{l:ω}{q:Ó}{loose:List Í}{I:(Í->Option Å)->á->Prop}{A:Ü->á->Prop}{d:DefRec}{K:Δ->Ä}{CX:Ü->H_}{sp:Ü->Sp}
  (P:l.most=À n) (t:n<=sizeLine) (m:d.params.defaults=[]) (L:dN k ň)
  (α:∀(w:Ü) (h:á),A w h->(K w.params).In h)
  (F:∀(w:Ü) (mg:Í->Option Å) (j:Ç) (h:á),(K w.params).In h->h.Ns Ì mg->mg d.name=À (.ref j) ->
   ∃fd:ð,(∀(s:Æ) (u:Å),Ŋ s fd #[[u],[]] [(x,u)]) /\
    ∀base:á,(K w.params).In base->base.Ns Ì mg->fH l.prog w (K w.params) mg base (CX w) k j fd [x] (sp w))
  (p:∀(w:Ü) (H:Hp) (a:Ç) (ns:.L),ns.length<=n->M9 H->cS (K w.params) H a (ns.map V.int)->sp w [.ref a] H (λv _=>v=.bl Á) λ_ _ _=>False)
  (r:∀(w:Ü) (H:Hp) (s:Æ) (e:Å) (s':Æ),CX w [] H s (λ_ _ _=>False) e s'->False):
  ϭ q loose I A l.row.toRowW d [] (λf vs=>Ψ f vs):=by
 show Att.Ck P m λw X B mg S j o Γ cd doc a vs ns G σ Q R D y i hints c E=>?_;let z:=α w _ σ;let⟨fd,C,O⟩:=F w mg j _ z G.T.g y;show Lp z G.T.g G.T.b G.T.builtins G.T.nolimit E i hints (ĭ c t) L O C (λH N J=>p w H a ns c N J) λH e s'=>r w H B e s'
def Ka{l:ω}{q:Ó}{loose:List Í}{p:(Í->Option Å)->á->Prop}{j:Ü->á->Prop}{d:DefRec}{K:Δ->Ä}{CX:H_}{sp:Ä->Sp}
  (y:l.most=À n) (i:n<=sizeLine) (b:d.params.defaults=[]) (r:dN k ň)
  (t:∀(w:Ü) (h:á),j w h->(K w.params).In h)
  (F:∀(w:Ü) (mg:Í->Option Å) (m:Ç) (h:á),(K w.params).In h->h.Ns Ì mg->mg d.name=À (.ref m) ->
   ∃fd:ð,(∀(s:Æ) (u:Å),Ŋ s fd #[[u],[]] [(x,u)]) /\
    ∀base:á,(K w.params).In base->base.Ns Ì mg->fH l.prog w (K w.params) mg base CX k m fd [x] (sp (K w.params)))
  (c:∀(K:Ä) (H:Hp) (a:Ç) (ns:.L),ns.length<=n->M9 H->cS K H a (ns.map V.int)->sp K [.ref a] H (λv _=>v=.bl Á) λ_ _ _=>False)
  (g:∀(H:Hp) (s:Æ) (e:Å) (s':Æ),CX [] H s (λ_ _ _=>False) e s'->False):
  ϭ q loose p j l.row.toRowW d [] (λf vs=>Ψ f vs) :=
 OB (K:=K) (CX:=λ_=>CX) (sp:=λw=>sp (K w.params)) y i b r t F (λw H a ns h1 h2 o=>c (K w.params) H a ns h1 h2 o) λ_ H s e s'=>g H s e s'
noncomputable def eP(s:Ð):Arguments:=match s with
 |.FunctionDef _ a _ _ _ _ _ _ _ _=>a
 |_=>{posonlyargs:=[],args:=[],vararg:=none,kwonlyargs:=[],kw_defaults:=[],kwarg:=none,defaults:=[]}
noncomputable def b9(s:Ð):List Ð:=match s with
 |.FunctionDef _ _ b _ _ _ _ _ _ _=>b
 |_=>[]
noncomputable def af(s:Ð):Ā:=match s with
 |.FunctionDef _ _ _ _ _ _ a _ _ _=>a
 |_=>{kind:=.function,names:=[],isGenerator:=Â,isCoroutine:=Â}
abbrev qZ:H_:=λ_ _ _ _ _ _=>False
abbrev E0:XK:=λ_ _ _=>False
def jC:Passes qZ X E0:=λ_ _ _ _ _ _ _ h=>h.elim
structure ve(K:Ä)(x qual:Í)(st:Ð)(f:Ç)(fd:ð):Prop where
 ex:∃(oc:Å) (od:Option Ç) (kV doc pm:Å) (an:Option Ç) (cdv ct:Å) (osl:Array (Option Å)),
  fd=é x qual (eP st) (b9 st) (af st) .none kV doc pm an cdv ct/\K.lookup f=À #[oc,od,.func fd,osl]/\Ĳ K cdv qual=Á
 kp:Ď K (.ref f)=Á
section
variable{P:Ó}{w:Ü}{K:Ä}{mg:Í->Option Å}{base:á}
def ve.ok{st:Ð}{fd:ð}{N ps:List Í}{sp:Sp}(F:ve K x qual st f fd)(S:ak N ps (af st))(len:∀vs H Q E,sp vs H Q E->vs.length=ps.length)
  (b:∀(a:Å) (A:è) (outer:List Ŗ) (s:Æ) (H:Hp) (vs:List V) (Q:VK) (E:XK),dN k (A.deeper (ħ qual (af st) s.heap.objs.size f a))->sp vs H Q E ->
   ∃t,wu (xK qZ P w K mg base N qual (af st) f a A outer s H E).Pd (b9 st) t/\t {nx:=λ_ H'=>Q .non H',rt:=Q} (start N vs) H):⇑fH qZ (k+1) f fd ps sp:=by
 let⟨l,j,kV,doc,i,m,a,ct,e,rfl,lk,d⟩:=F.ex;show Vf lk d S len λA outer s H vs Q E g c=>?_;let⟨t,h,q⟩:=b a A outer s H vs Q E g c;show#[t,h.Pd,q]
def ve.binds{st:Ð}{fd:ð}{ps:List Í}(F:ve K x qual st f fd)
  (h:∀(kV doc c:Å) (b:Option Ç) (a ct:Å) (us:List Å),us.length=ps.length->Ķ (é x qual (eP st) (b9 st) (af st) .none kV doc c b a ct) #[us,[]]=pure (ps.zip us)):Binds K fd ps []:=by
 let⟨g,i,kV,doc,c,b,a,ct,d,rfl,lk,e⟩:=F.ex;show .all (h kV doc c b a ct)
def Qu{st:Ð}{g:Å}{h d:Option Ç}{b:Array (Option Å)}{kV doc e a ct:Å}(l:K.lookup f=À #[g,h,.func (é x qual (eP st) (b9 st) (af st) .none kV doc e d a ct),b])
  (c:Ĳ K a qual=Á) (k:Ď K (.ref f)=Á):ve K x qual st f (é x qual (eP st) (b9 st) (af st) .none kV doc e d a ct):=#[#[g,h,kV,doc,e,d,a,ct,b,rfl,l,c],k]
end
def bP(h:n<=1000):n<sizeLine:=Η h .a
section
variable{X:Cx}
def pv(i:Nat){pos:ï}(c:X.N[i]?=À x<|>zra)(d:Hy X.env.scope x<|>zre)(b:(x==("__debug__":Í))=Â<|>zrb)
  (a:(x==("__classdict__":Í))=Â<|>zrb):PE X (.Name x pos) (UG i):=Sb c d b a
end
def zD{A B:Prop}(h:B):if Â=Á then A else B:=by
 rwa[ac2 ł]
def vp{A B:Prop}(h:A):if Á=Á then A else B:=by
 rwa[ac6 rfl]
def aI(H H':Hp):Prop:=∀b o,H b=À o->H' b=À o
def aI.refl(H:Hp):aI H H:=λ_ _ h=>h
def aI.trans{H1 H2:Hp}(a:aI H H1)(b:aI H1 H2):aI H H2:=λc o h=>b c o (a c o h)
def aI.free{H':Hp}(e:aI H H'){l:Ç}(h:H' l=Option.none):H l=Option.none:=by
 cases q:H l with
 |none=>rfl
 |some o =>
  rw[e l o q] at h;cases h
def aI.seq{H':Hp}{a:Ç}{xs:List V}(e:aI H H')(h:cS K H a xs):cS K H' a xs:=by
 rcases h with(h|⟨o,h⟩)|h
 .show .inl (.inl (e _ _ h))
 .show .inl (.inr #[o,e _ _ h])
 .show .inr h
def Ou(a:List (Í×Ç)):Prop:=∀x y c,a.lookup x=À c->a.lookup y=À c->x=y
def bt{M:Type}{n:Í}{a c:M}{r:List (Í×M)}(h:œ x ((n,a)::r)=À c):(x=n/\a=c)\/(x≠n/\r.lookup x=À c):=by
 rw[afu] at h;cases b:x==n with
 |true=>rw[b] at h;cases h;show .inl #[agy.mp b,rfl]
 |false=>rw[b] at h;show .inr #[(λz=>by(rw[z,age] at b;cases b)),h]
theorem Fx:∀(names:List (Í×ó)) (n:Nat) (d:List (Í×Ç)),Ou d->(∀x c,d.lookup x=À c->c<n) ->
  Ou (ë n names d)/\∀x c,(ë n names d).lookup x=À c->d.lookup x=À c\/n<=c
 |[],_,_,hi,_=>#[hi,λ_ _ h=>.inl h]
 | (y,k) :: r,n,d,hi,g=>by
  unfold ë;by_cases i:(k==ã)=Á
  .rw[ac6 i]
   let h1:Ou ((y,n)::d):=λa b c e1 e2=>by
    obtain⟨j,f⟩|⟨j,f⟩:=bt e1<;>obtain⟨p1,p2⟩|⟨p1,p2⟩:=bt e2
    .rw[j,p1]
    .show absurd (g _ _ p2) (by rw[<-f];show afG _)
    .show absurd (g _ _ f) (by rw[<-p2];show afG _)
    .show hi a b c f p2
   let h2:∀x c,œ x ((y,n)::d)=À c->c<n+1:=λx c e=>by
    obtain⟨_,f⟩|⟨_,f⟩:=bt e
    .rw[<-f];show afv _
    .show aeH (g _ _ f)
   let⟨m,l⟩:=Fx r (n+1) ((y,n)::d) h1 h2;show#[m,λx c e=>?_];obtain q|q:=l x c e
   .obtain⟨_,f⟩|⟨_,f⟩:=bt q
    .show .inr (aih f)
    .show .inl f
   .show .inr (agD q)
  .rw[ac2 i];show Fx r n d hi g
theorem yZ:∀(names:List (Í×ó)) (h:á) (a:List (Í×Ç)) (x:Í) (c:Ç),(ë h.objs.size names a).lookup x=À c->a.lookup x=À c\/(pushCells h names).IsCell c none
 |[],_,_,_,_,e=>.inl e
 | (y,k) :: r,h,a,x,c,e=>by
  unfold ë at e;unfold pushCells;by_cases d:(k==ã)=Á
  .rw[ac6 d] at e ⊢;let f:(ë (h.push {cls:=.type "cell",data:=.cell none}).objs.size r ((y,h.objs.size)::a)).lookup x=À c:=by rwa[ae_]
   obtain q|q:=yZ r (h.push {cls:=.type "cell",data:=.cell none}) ((y,h.objs.size)::a) x c f
   .obtain⟨_,b⟩|⟨_,b⟩:=bt q
    .show .inr ?_;subst b;show#[_,ahT _ _ _ _ (ŏ _ rfl),rfl]
    .show .inl b
   .show .inr q
  .rw[ac2 d] at e ⊢;show yZ r h a x c e
theorem zW:∀(names:List (Í×ó)) (n:Nat) (a:List (Í×Ç)) (x:Í),(∀y∈names,y.1=x->y.2≠.cell)->(ë n names a).lookup x=a.lookup x
 |[],_,_,_,_=>rfl
 | (y,k) :: r,n,a,x,h=>by
  unfold ë;by_cases b:(k==ã)=Á
  .rw[ac6 b,zW r (n+1) _ x λz hz=>h z (Ě _ hz),afu]
   let d:(x==y)=Â:=by
    cases c:x==y with
    |false=>rfl
    |true=>show absurd ↑b (h (y,k) Ġ (agy.mp c).symm)
   rw[d]
  .rw[ac2 b];show zW r n a x λz hz=>h z (Ě _ hz)
noncomputable def hE(env:Ŗ):List (Í×ó)->List (Í×Ç)->List (Í×Ç)
 |[],a=>a
 |(n,k)::r,a=>hE env r (if k==.free then (n,(env.cells.lookup n).getD 0)::a else a)
theorem F0{env:Ŗ}:∀(names:List (Í×ó)) (b:List (Í×Ç)),(∀x∈names,x.2=.free->∃c,env.cells.lookup x.1=À c) ->
  (forIn names b λx cs=>(if (x.2==à)=Á then (do let a <-cellOf env x.1;pure (Ĉ ((x.1,a)::cs))) else pure (Ĉ cs):Sem (ForInStep (List (Í×Ç)))))=pure (hE env names b)
 |[],_,_=>rfl
 | (n,k) :: r,b,h=>by
  rw[List.forIn_cons];let g:=λb=>F0 r b λx j=>h x (Ě _ j);unfold hE;by_cases f:(k==à)=Á
  .let⟨c,i⟩:=h (n,k) Ġ ↑f;let d:env.cells.lookup n=À c:=i;let e:cellOf env n=pure c:=by unfold cellOf;rw[d]
   simp only[f,af_,e,d,agQ,pure_bind];show g _
  .simp only[f,agp,pure_bind];show g _
def lM{Y2:Ā}(h:∀x∈Y2.names,x.2=.free->∃c,env.cells.lookup x.1=À c):closureFor Y2 env=pure (hE env Y2.names []):=by
 let:=F0 (env:=env) Y2.names [] h;unfold closureFor;simp only[bind_pure_comp]
 first|show this|simpa using this
theorem dZ{env:Ŗ}{x:Í}:∀(names:List (Í×ó)) (a:List (Í×Ç)) (c:Ç),(∀y∈names,y.2=.free->∃c,env.cells.lookup y.1=À c)->(hE env names a).lookup x=À c->a.lookup x=À c\/env.cells.lookup x=À c
 |[],_,_,_,e=>.inl e
 | (n,k) :: r,a,c,h,e=>by
  unfold hE at e;let i:=λa=>dZ (x:=x) r a c λy j=>h y (Ě _ j);by_cases f:(k==à)=Á
  .rw[ac6 f] at e;obtain q|q:=i _ e
   .obtain⟨l,d⟩|⟨_,d⟩:=bt q
    .let⟨c',g⟩:=h (n,k) Ġ ↑f;let b:env.cells.lookup n=À c':=g;rw[b] at d;right;rw[l,b];show congrArg À d
    .show .inl d
   .show .inr q
  .rw[ac2 f] at e;show i _ e
theorem wm{env:Ŗ}{x:Í}:∀(names:List (Í×ó)) (a:List (Í×Ç)),((x,à)∈names\/∃c,a.lookup x=À c)->∃c,(hE env names a).lookup x=À c
 |[],_,h=>h.elim (λz=>nomatch z) id
 | (n,k) :: r,a,h=>by
  unfold hE;show wm r _ ?_;obtain h|⟨c,h⟩:=h
  .obtain e|h:=ě.mp h
   .cases e;right;rw[ac6 .a];show#[_,by rw[afu,age]]
   .show .inl h
  .right;split
   .rw[afu];split
    .show#[_,rfl]
    .show#[c,h]
   .show#[c,h]
noncomputable def gM(X:Cx)(N:List Í)(Y2:Ā)(C:Ç)(s:Æ)(H:Hp)(fp:List Ç):Cx where
 prog:=X.prog
 w:=X.w
 K:=X.K
 mg:=X.mg
 base:=X.base
 A:=X.A
 N:=N
 s₀:=s
 H₀:=H
 env:={scope:=Ş Y2 X.env,locals:=C,globals:=X.env.globals,cells:=ë (C+1) Y2.names (hE X.env Y2.names []),qual:=X.env.qual,func:=none,code:=X.env.code,frame:=X.env.frame,builtins:=X.env.builtins}
 outer:=X.stack
 stack:=X.stack
 ex:=fp
 fn:=λx=>match Y2.names.lookup x with|some .cell=>Á|_=>Â
 calm:=X.calm
 pn:=[]
 xe:=λ_ _=>False
theorem fJ{env:Ŗ}:∀{names:List (Í×ó)} {x:Í} {k:ó},(names.map fun(n,k)=>if (k==à&&env.scope.kind==.function&&env.kindOf n==À .cell) then (n,ã) else (n,k)).lookup x=À k ->
  ∃d,names.lookup x=À d/\(k=d\/d=.free)
 |[],_,_,h=>by simp at h
 | (n,q) :: r,x,k,h=>by
  rw[ř] at h;let h':œ x ((if (q==à&&env.scope.kind==.function&&env.kindOf n==À .cell)=Á then (n,ã) else (n,q))::_)=À k:=h;let a:∀b:Bool,(if b=Á then (n,ã) else (n,q))=(n,if b=Á then ã else q):=λb=>by cases b<;>rfl
  rw[a] at h';rw[afu];obtain⟨e1,e2⟩|⟨e1,e2⟩:=bt h'
  .rw[e1,age];show#[q,rfl,?_];rw[<-e2];by_cases c:(q==à&&env.scope.kind==.function&&env.kindOf n==À .cell)=Á
   .right;let:=(ad_.mp (ad_.mp c).1).1;simpa using this
   .left;rw[ac2 c]
  .let e:(x==n)=Â:=by
    cases c:x==n with
    |false=>rfl
    |true=>show absurd (agy.mp c) e1
   rw[e];show fJ e2
structure gA(X:Cx)(Y2:Ā)(tn:List Í)(js:List Nat):Prop where
 kind:Y2.kind=.function
 loc:∀x∈Y2.names,x.2=.local->Y2.names.lookup x.1=À .local
 fre:∀x∈Y2.names,x.2=.free->Y2.names.lookup x.1=À .free/\(X.env.kindOf x.1=À .cell\/X.env.kindOf x.1=À .free)
 one:∀x∈Y2.names,∀y∈Y2.names,x.1=y.1->x.2=y.2
 js:∀j∈js,∃x,X.N[j]?=À x/\Y2.names.lookup x=À .free
noncomputable def cN(X:Cx)(tn:List Í)(js:List Nat):List Í:=tn++js.map λj=>(X.N[j]?).getD ("":Í)
noncomputable def cσ(Y:St)(tn:List Í)(js:List Nat):St:=tn.map (λ_=>none)++js.map λj=>(Y[j]?).getD none
def bM{names:List (Í×ó)}{k:ó}(h:names.lookup x=À k):(x,k)∈names:=afs h
section
variable{X:Cx}{ZB:List (Ç×ā)}{Y:St}{H:Hp}{s:Æ}{Y2:Ā}{tn:List Í}{js:List Nat}{fp:List Ç}
def gP(ok:X.Ok)(S:gA X Y2 tn js):∀x∈Y2.names,x.2=.free->∃c,X.env.cells.lookup x.1=À c:=λx b a=>ok.has x.1 (S.fre x b a).2
def Hm(ok:X.Ok)(S:gA X Y2 tn js)(b:∀x c,X.env.cells.lookup x=À c->c<n):
  Ou (ë n Y2.names (hE X.env Y2.names []))/\∀x c,(ë n Y2.names (hE X.env Y2.names [])).lookup x=À c->X.env.cells.lookup x=À c\/n<=c:=by
 let a:∀x c,(hE X.env Y2.names []).lookup x=À c->X.env.cells.lookup x=À c:=λx c e=>by
  obtain q|q:=dZ Y2.names [] c (gP ok S) e
  .cases q
  .show q
 let⟨h1,h2⟩:=Fx Y2.names n (hE X.env Y2.names []) (λx y c e1 e2=>ok.inj x y c (a x c e1) (a y c e2)) (λx c e=>b x c (a x c e));show#[h1,λx c e=>(h2 x c e).imp (a x c) id]
def Hs{T:á}{m:Í->Option Å}{t':Nat}(I:Inv X ZB Y H s)(S:gA X Y2 tn js)(R:∀b∈fp,xF X ZB H b/\b<s.heap.objs.size)(W:T.Ns s.heap.objs.size m)
  (B:∀b o,s.heap.get? b=À o->T.get? b=À o) (G:∀x c,(ë (s.heap.objs.size+1) Y2.names (hE X.env Y2.names [])).lookup x=À c->X.env.cells.lookup x=À c\/T.IsCell c none):
  Inv (gM X (cN X tn js) Y2 s.heap.objs.size s H fp) [] (cσ Y tn js) H {s with heap:=T,toks:=t'}:=by
 let F:∀x c,X.env.cells.lookup x=À c->c<s.heap.objs.size+1:=λx c e=>by
  let⟨v,q⟩:=I.cell x c e;show aeH q.lt
 let⟨L,J⟩:=Hm I.ok S F;let hC:H s.heap.objs.size=none:=I.hok.fresh (ú _)
 show#[#[I.ok.mod,S.kind,I.ok.glob,I.ok.blt,ú _,L,λx hx=>?_,λx c hx e=>?_,I.ok.hd,I.ok.frames,.inl rfl,λb C=>#[ĸ (R b C).2,λx c e z=>?_],I.bs,ĭ I.ok.bsz I.sz,λb o e C=>?_,λb C z=>?_,I.stack,I.EO],
  rfl,I.bare,Un.kept B,#[m,W,λi x v h1 h2 h3=>?_],λx c e=>?_,hC,λx c e=>?_,(λp hp=>nomatch hp),I.hok.kept B,?_]
 .-- has
  let l:(Ş Y2 X.env).names.lookup x=À .cell\/(Ş Y2 X.env).names.lookup x=À .free:=hx
  let own:Y2.names.lookup x=À .cell->∃c,(ë (s.heap.objs.size+1) Y2.names (hE X.env Y2.names [])).lookup x=À c:=λq =>
   afR.mp (af3 Y2.names _ _ (.inl q))
  let D:Y2.names.lookup x=À .free->∃c,(ë (s.heap.objs.size+1) Y2.names (hE X.env Y2.names [])).lookup x=À c:=λq =>
   afR.mp (af3 Y2.names _ _ (.inr (afR.mpr (wm Y2.names [] (.inl (bM q))))))
  obtain q|q:=l
  .let⟨k0,O,h⟩:=fJ q;obtain h|h:=h
   .subst h;show own O
   .subst h;show D O
  .let⟨k0,O,h⟩:=fJ q;obtain h|h:=h
   .subst h;show D O
   .subst h;show D O
 .-- cab
  obtain q|q:=J x c e
  .exfalso;let l:(match Y2.names.lookup x with|some .cell=>Á|_=>Â)=Á:=hx;split at l
   .rename_i hl
    -- an own cell is new
    let C:∀y c',(hE X.env Y2.names []).lookup y=À c'->c'<s.heap.objs.size+1:=λy c' e'=>by
     obtain z|z:=dZ Y2.names [] c' (gP I.ok S) e'
     .cases z
     .show F y c' z
    let nof:(hE X.env Y2.names []).lookup x=none:=by
     cases z:(hE X.env Y2.names []).lookup x with
     |none=>rfl
     |some c' =>
      exfalso
      let mem:∀(names:List (Í×ó)) (t:List (Í×Ç)),(∃c',(hE X.env names t).lookup x=À c')->(x,à)∈names\/∃c',t.lookup x=À c':=by
       intro names
       induction names with
       |nil=>show λt z=>.inr z
       |cons p r ih =>
        let⟨n,k⟩:=p;intro t z;unfold hE at z;obtain z|⟨c',z⟩:=ih _ z
        .show .inl (Ě _ z)
        .split at z
         .rename_i B;obtain⟨e1,_⟩|⟨_,e2⟩:=bt z
          .left;let:k=à:=by simpa using B
           rw[e1,this];show Ġ
          .show .inr #[c',e2]
         .show .inr #[c',z]
      obtain z|⟨_,z⟩:=mem Y2.names [] #[c',z]
      .let:=S.one _ z _ (bM hl) rfl;cases this
      .cases z
    let hh:=Fx Y2.names (s.heap.objs.size+1) (hE X.env Y2.names []) (λa b c' e1 e2=>by
     obtain z|z:=dZ Y2.names [] c' (gP I.ok S) e1
     .cases z
     .obtain V|V:=dZ Y2.names [] c' (gP I.ok S) e2
      .cases V
      .show I.ok.inj a b c' z V) C
    obtain z|z:=hh.2 x c e
    .rw[nof] at z;cases z
    .show absurd (F x c q) (afK.mpr z)
   .cases l
  .show agD q
 .-- exf
  let⟨⟨f0,f1,f2,f3,σ,f5⟩,E⟩:=R b C;obtain q|q:=J x c e
  .show σ x c q z
  .rw[z] at q;show absurd E (afK.mpr (agD q))
 .-- noex
  let⟨⟨f0,f1,f2,f3,σ,f5⟩,E⟩:=R b C;obtain q|q:=f3
  .show I.ok.noex b o e q
  .show absurd (Ś (ĕ e) (ĭ I.ok.bsz q)) (afG _)
 .-- exfs
  let⟨⟨f0,f1,f2,f3,σ,f5⟩,E⟩:=R b C;obtain q|q:=ě.mp (I.zp b z)
  .show f1 q
  .show f2 q
 .-- the names
  let d:(cσ Y tn js)[i]?=À (À v):=h2;let A:(cN X tn js)[i]?=À x:=h1;unfold cσ at d;unfold cN at A;by_cases hi:i<tn.length
  .rw[aeF ↑hi,Ĵ] at d;cases q:tn[i]? with
   |none=>rw[q] at d;cases d
   |some y=>rw[q] at d;cases d
  .rw[aey ↑hi,Ĵ,ą] at d;rw[aey ↑hi,Ĵ] at A;cases q:js[i-tn.length]? with
   |none=>rw[q] at d;cases d
   |some j =>
    rw[q] at d A;let⟨y,K,f⟩:=S.js j (Ĭ q)
    let exy:y=x:=by
     let:À ((X.N[j]?).getD ("":Í))=À x:=A;rw[K] at this;show ĳ this
    subst exy
    let hv:Y[j]?=À (À v):=by
     let:À ((Y[j]?).getD none)=À (À v):=d;cases z:Y[j]? with
     |none=>rw[z] at this;cases this
     |some o=>rw[z] at this;show congrArg À (ĳ this)
    let α:=(S.fre _ (bM f) rfl).2;let vis:Hy X.env.scope y:=α.elim (λz=>.inr (.inl z)) λz=>.inr (.inr z);let⟨m0,hn0,hl0⟩:=I.loc;let⟨u,ru,lk⟩:=hl0 j y v K hv vis;show#[u,ru,.inr #[?_,?_]]
    .let Z:(Ş Y2 X.env).names.lookup y=À .local\/(Ş Y2 X.env).names.lookup y=À .cell\/(Ş Y2 X.env).names.lookup y=À .free:=h3;obtain z|z|z:=Z
     .let⟨k0,z1,Γ⟩:=fJ z;rw[f] at z1;cases z1;obtain Γ|Γ:=Γ
      .cases Γ
      .exfalso
       -- free is relabelled to cell or stays
       let:=z
       let g:∀{names:List (Í×ó)},(∀p∈names,p.1=y->p.2=.free)->(names.map fun(n,k)=>if (k==à&&X.env.scope.kind==.function&&X.env.kindOf n==À .cell) then (n,ã) else (n,k)).lookup y≠À .local:=by
        intro names
        induction names with
        |nil=>intro _ w;simp at w
        |cons p r ih =>
         let⟨n,k⟩:=p;intro hp w;rw[ř] at w;let w':œ y ((if (k==à&&X.env.scope.kind==.function&&X.env.kindOf n==À .cell)=Á then (n,ã) else (n,k))::_)=À .local:=w;let Q:∀b:Bool,(if b=Á then (n,ã) else (n,k))=(n,if b=Á then ã else k):=λb=>by cases b<;>rfl
         rw[Q] at w';obtain⟨e1,e2⟩|⟨e1,e2⟩:=bt w'
         .let B:k=.free:=hp (n,k) Ġ e1.symm;subst B;split at e2<;>cases e2
         .show ih (λp hp'=>hp p (Ě _ hp')) e2
       show g (λp hp e=>S.one p hp _ (bM f) e) z
     .show .inl z
     .show .inr z
    .let lk':∃c,X.env.cells.lookup y=À c/\s.heap.IsCell c (À u):=by
      obtain⟨z,_⟩|⟨_,z⟩:=lk
      .exfalso;obtain q|q:=α
       .rw[q] at z;cases z
       .rw[q] at z;cases z
      .show z
     let⟨c,hc1,hc2⟩:=lk';show#[c,?_,hc2.keeps B];change(ë (s.heap.objs.size+1) Y2.names (hE X.env Y2.names [])).lookup y=À c;rw[zW Y2.names _ _ y λp hp e=>by(rw[S.one p hp _ (bM f) e];intro z;cases z)];let⟨c',P⟩:=wm (env:=X.env) Y2.names [] (.inl (bM f));obtain z|z:=dZ Y2.names [] c' (gP I.ok S) P
     .cases z
     .rw[hc1] at z;cases z;show P
 .-- cells are there
  obtain q|q:=G x c e
  .let⟨v,z⟩:=I.cell x c q;show#[v,z.keeps B]
  .show#[none,q]
 .-- and free
  obtain q|q:=J x c e
  .show I.freeC x c q
  .show I.hok.fresh (agD q)
 .change(cσ Y tn js).length=(cN X tn js).length;unfold cσ cN;simp
variable{α:Model}{A:è}{E:Å->Æ->Prop}
def BS{Y2:Ā}{globals:Ç}{cl:List (Í×Ç)}{Q:Ŗ->Æ->Prop}
  (d:∀h',h'.Ns s.heap.objs.size (λ_=>none)->(∀b o,s.heap.get? b=À o->h'.get? b=À o)->(∀x c,(ë (s.heap.objs.size+1) Y2.names cl).lookup x=À c->cl.lookup x=À c\/h'.IsCell c none) ->
   Q {scope:=Y2,locals:=s.heap.objs.size,globals,cells:=ë (s.heap.objs.size+1) Y2.names cl,qual,func:=none,code:=env.code,frame:=env.frame,builtins:=env.builtins} {s with heap:=h'}):
  Î α A (Ž Y2 globals cl [] qual none .none (À env)) Q E s:=by
 simp only[Ž,Option.isSome_some,af_];show â (wpAny_alloc ?_);show â (wpAny_layCells _ (λname kind cells=>by cases a:kind==ã<;>simp[a]) _ _ _ _ ?_);rw[show({s with heap:=s.heap.push {cls:=.type "dict",data:=.dict #[]}}:Æ).heap.objs.size=s.heap.objs.size+1 from ae_ ..];show â ?_;rw[List.forIn_nil];show ù (ù ?_);show d _ ((Heap.Ns.new s.heap (.type "dict")).keeps (ahT _ _)) (λb o e=>ahT _ _ b o (Ī _ e)) λx c e=>?_;show yZ Y2.names _ cl x c ?_;rwa[ae_]
variable{prog:Ó}{w:Ü}{R:ϝ->Æ->Prop}
def G9{elt target iter:Ô}{ifs:List Ô}{Y2:Ā}{pos:ï}{d a:Å}(I:Nat->Æ->Prop)
  (turn:∀n s,I n s->Î (Ñ prog w) A (Ħ d) (λr e=>match r with
   |none=>R (.ok .next) e
   |some v=>Î (Ñ prog w) A (Ļ target d v) (λ_ b=>Î (Ñ prog w) A (Ć target env v) (λ_ i =>
     Î (Ñ prog w) A (forIn ifs Á λc r=>if r=Á then do let ok <-Ϛ c env (Õ c env);pure (Ĉ ok) else pure (Ĉ r)) (λok g =>
      if ok=Á then Î (Ñ prog w) A (Õ elt env) (λx o =>
       Î (Ñ prog w) A (call (.builtin "list.append") [a,x]) (λ_ k=>∃m,m<n/\I m k) (λ_ _=>False) o) (λ_ _=>False) g
      else ∃m,m<n/\I m g) (λ_ _=>False) i) (λ_ _=>False) b) (λ_ _=>False) e) (λ_ _=>False) s)
  (n:Nat) (h:I n s):
  Ė (Ñ prog w) A (.compLoop (.ListComp elt [#[target,iter,ifs,0]] Y2 pos) 0 d a env) R s:=by
 show codeAny_loop rfl I (λn s q=>?_) n h;change Î _ A ((compTurn (.ListComp elt [#[target,iter,ifs,0]] Y2 pos) 0 d a env).onRaise (λx=>do noteFrame x env;theTreesLotGoes x)) _ _ s;show wpAny_noted ?_;rw[compTurn_list];show â (Ξ (â (ϥ (turn n s q) (λr e l=>?_) λ_ _ z=>z.elim)));cases r with
 |none=>show ù l
 |some v =>
  show â (ϥ l (λ_ b f=>?_) λ_ _ z=>z.elim);show â (ϥ f (λ_ i t=>â (ϥ t (λok g j=>?_) λ_ _ z=>z.elim)) λ_ _ z=>z.elim);cases ok with
  |false=>show ù #[rfl,j]
  |true =>
   show â (â (ϥ j (λx o p=>â (ϥ p (λ_ k u=>ù (ù #[rfl,u])) λ_ _ z=>z.elim)) λ_ _ z=>z.elim))
end
def PF(X:Cx)(ifs:List Ô)(t:TT):Prop :=
 ∀(ZB:List (Ç×ā)) (s:Æ) (Y:St) (H:Hp) (Q:Bool->Hp->Prop),Inv X ZB Y H s->t Y H Q ->
  Î .F X.A (forIn ifs Á λc r=>if r=Á then do let ok <-Ϛ c X.env (Õ c X.env);pure (Ĉ ok) else pure (Ĉ r)) (TP X ZB Y Q) X.xe s
def Rb:PF X [] (λ_ H Q=>Q Á H):=λZB s Y H Q I q=>wpAny_tests_nil #[H,I,q]
def Qa{c:Ô}{t:TT}(h:PT X c t):PF X [c] t:=λZB s Y H Q I q=>wpAny_tests_one (h ZB s Y H Q I q)
def E7(Y:St)(tn:List Í)(js:List Nat)(Y':St):Prop:=(∀(j:Nat) (v:V),tn.length<=j->(cσ Y tn js)[j]?=À (À v)->Y'[j]?=À (À v))/\Y'.length=(cσ Y tn js).length
def Tt(wi:TI)(tn:List Í)(js:List Nat)(g:TG)(tt:TT)(te:TE):TE:=λY H Q=>wi Y H λJ H1=>∀D,H1 D=none->∃W:Nat->Nat->Hp->List V->Prop,(∃m,W 0 m (upd H1 D (.lst [])) []) /\
 ∀i m H xs,W i m H xs->H D=À (.lst xs)/\((J.stop i H/\Q (.ref D) H)\/(J.go i H/\∀x H',J.yld i H x H'->g x (cσ Y tn js) H' λσ2 H2=>E7 Y tn js σ2/\tt σ2 H2 λok c =>
  if ok=Á then te σ2 c λy b=>b D=À (.lst xs)/\xs.length<sizeLine/\∃a,a<m/\W (i+1) a (upd b D (.lst (xs++[y]))) (xs++[y])
  else ∃a,a<m/\W (i+1) a c xs))
section
variable{X:Cx}{ZB:List (Ç×ā)}{Y:St}{H:Hp}{s:Æ}{Y2:Ā}{tn:List Í}{js:List Nat}{elt target iter:Ô}{ifs:List Ô}{pos:ï}{wi:TI}{g:TG}{tt:TT}{te:TE}
def ya{Q:VK}{RR:Å->Ç->ϝ->Æ->Prop}(S:gA X Y2 tn js)(hc:X.calm=Á)(hi:PI X target iter wi)
  (a:∀C s H fp,PG .I target g/\PF .I ifs tt/\PE .I elt te)
  (I:Inv X ZB Y H s) (h:Tt wi tn js g tt te Y H Q)
  (hRR:∀D C s' H' oC m,Inv X (ZB++[(C,oC)]) Y H' s'->s'.heap.get? C=À oC->s'.heap.Ns C m->X.s₀.heap.objs.size<=C->C≠X.env.locals->(∀x c,X.env.cells.lookup x=À c->c≠C)->(∀p∈X.pn++ZB,p.1≠C)->Q (.ref D) H'->RR (.ref D) C (.ok .next) s'):
  Î .F X.A (Õ iter X.env) (λx s₁=>Î .F X.A (Ũ x) (λit s₂=>Î .F X.A (newList []) (λacc s₃ =>
   Î .F X.A (Ž Y2 X.env.globals (hE X.env Y2.names []) [] X.env.qual none .none (À X.env)) (λE s₄ =>
    Ė .F X.A (.compStart (.ListComp elt [#[target,iter,ifs,0]] Y2 pos) 0 it acc {E with scope:=Ş Y2 X.env}) (RR acc E.locals) s₄) X.xe s₃) X.xe s₂) X.xe s₁) X.xe s:=by
 show cH (hi ZB s Y H _ I h) λv s1 h1=>cH h1 λitv f h2=>?_;let⟨it,fp,R,J,H2,e,l,T,st2,f2,hJ⟩:=h2;subst e;show ahn ?_;let D0:H2 f.heap.objs.size=none:=l.hok.fresh (ú _);let⟨W,⟨m0,w0⟩,turn⟩:=hJ f.heap.objs.size D0;let I3:Inv X ZB Y (upd H2 f.heap.objs.size (.lst [])) {f with heap:=f.heap.push {cls:=.type "list",data:=.seq ([]:List Å).toArray},toks:=f.toks}:=l.OF .nil (Ņ _);generalize P:({f with heap:=f.heap.push {cls:=.type "list",data:=.seq ([]:List Å).toArray},toks:=f.toks}:Æ)=s3 at I3;let s3s:s3.heap.objs.size=f.heap.objs.size+1:=by rw[<-P];show ae_ ..
 let k23:∀b o,f.heap.get? b=À o->s3.heap.get? b=À o:=λb o e=>by rw[<-P];show Ī _ e
 let u23:Un (FN X.stack) fp H2 (upd H2 f.heap.objs.size (.lst [])) f.heap s3.heap:=Un.laid k23 (ú _) D0;generalize hH3:upd H2 f.heap.objs.size (.lst [])=k at I3 u23 w0;generalize hD:f.heap.objs.size=D at *
 let fpl:∀b∈fp,b<D:=λb a=>by
  let⟨o,e,_⟩:=T.obj 0 _ st2 b a;rw[<-hD];show ĕ e
 let f3:∀b∈fp,xF X ZB k b/\b<s3.heap.objs.size:=λb a=>by
  let⟨q0,q⟩:=f2 b a;show#[#[?_,q],by let:=fpl b a;rw[s3s];show aeH this];rwa[<-hH3,aU (ĸ (fpl b a))]
 show BS λh4 hns hk G=>?_
 let cl0:∀x c,(hE X.env Y2.names []).lookup x=À c->X.env.cells.lookup x=À c:=λx c e=>by
  obtain q|q:=dZ Y2.names [] c (gP I.ok S) e
  .cases q
  .show q
 let I4:Inv (gM X (cN X tn js) Y2 s3.heap.objs.size s3 k fp) [] (cσ Y tn js) k {s3 with heap:=h4,toks:=s3.toks}:=Hs I3 S f3 hns hk λx c e=>(G x c e).imp (cl0 x c) id;let st4:R 0 h4:=T.keep 0 _ _ st2 λb a o e=>hk b o (k23 b o e)
 let L:∀{H':Hp},(∀b∈fp,H' b=none)->∀b∈fp,xF (gM X (cN X tn js) Y2 s3.heap.objs.size s3 k fp) [] H' b:=λhn b a=>by
  let⟨⟨q0,q1,q2,q3,q4,q5⟩,ql⟩:=f3 b a;show#[hn b a,ĸ ql,λz=>?_,.inl a,λx c e z=>?_,λp hp=>nomatch hp]
  .obtain q|q:=ě.mp (I3.zp b z)
   .show q1 q
   .show q2 q
  .show(I4.ok.exf b a).2 x c e z
 let loop:Ė .F X.A (.compLoop (.ListComp elt [#[target,iter,ifs,0]] Y2 pos) 0 (.ref it) (.ref D) (gM X (cN X tn js) Y2 s3.heap.objs.size s3 k fp).env) (RR (.ref D) s3.heap.objs.size) {s3 with heap:=h4,toks:=s3.toks}:=by
  show G9 (λn s'=>∃i Y' H' xs,Inv (gM X (cN X tn js) Y2 s3.heap.objs.size s3 k fp) [] Y' H' s'/\R i s'.heap/\(∀b∈fp,H' b=none)/\W i n H' xs/\E7 Y tn js Y') ?_ m0
   #[0,_,k,[],I4,st4,λb a=>(f3 b a).1.1,w0,λ_ _ _ z=>z,rfl]
  rintro n s5 ⟨i,σ5,B,xs,I5,st5,fr5,w5,kσ,lσ⟩
  -- the state with the targets forgotten
  let I5':Inv (gM X (cN X tn js) Y2 s3.heap.objs.size s3 k fp) [] (cσ Y tn js) B s5:=I5.weak lσ.symm λj v e=>by
   by_cases hj:tn.length<=j
   .show kσ j v hj e
   .exfalso;unfold cσ at e;rw[aeF ↑(Nat.lt_of_not_le hj),Ĵ] at e;cases q:tn[j]? with
    |none=>rw[q] at e;cases e
    |some y=>rw[q] at e;cases e
  let⟨hDx,N⟩:=turn i n B xs w5;obtain⟨stop,q⟩|⟨go,step⟩:=N
  .show cH (T.done (gM X (cN X tn js) Y2 s3.heap.objs.size s3 k fp) rfl rfl rfl hc i [] s5 _ B (λ_ _=>False) I5' (L fr5) st5 stop) λr σ (⟨hr,Γ⟩)=>?_;subst hr
   -- back to the def's own state
   let u36:Un (FN X.stack) fp k B s3.heap σ.heap:=Γ.base;let u26:Un (FN X.stack) fp H2 B f.heap σ.heap:=u23.trans u36;let I6X:Inv X ZB Y B σ:=l.Vo (Γ.os.trans (by rw[<-P]:s3.os=f.os)) u26 Γ.hok Γ.bare λb a=>#[(f2 b a).2.2.2.1,(f2 b a).2.1,(f2 b a).2.2.2.2.1,(f2 b a).2.2.2.2.2];let⟨mm,Z,_⟩:=Γ.loc;let⟨oC,es,ep,hoC,rC⟩:=id Z;let α:D<=s3.heap.objs.size:=by rw[s3s];show afw _
   let K:∀{b:Ç} {o:ā},f.heap.get? b=À o->b≠s3.heap.objs.size:=λe z=>absurd (ĕ e) (afK.mpr (by rwa[hD,z]))
   let cC:∀x c,X.env.cells.lookup x=À c->c≠s3.heap.objs.size:=λx c e z=>by
    let⟨v,o,q1,_⟩:=l.cell x c e;show K q1 z
   let pC:∀p∈X.pn++ZB,p.1≠s3.heap.objs.size:=λp hp=>K (l.pin p hp).1
   let lC:s3.heap.objs.size≠X.env.locals:=λz=>by
    let:=l.lt;rw[hD,<-z] at this;show absurd this (afK.mpr α)
   show hRR D s3.heap.objs.size σ B oC mm (I6X.qq λp hp=>?_) hoC Z (ĭ l.sz (by rwa[hD])) lC cC pC q;obtain hp|hp:=adQ.mp hp
   .show I6X.pin p (ŧ _ hp)
   .let:p=(s3.heap.objs.size,oC):=by simpa using hp
    subst this;show#[hoC,Γ.free,lC,λz=>?_,λv z=>?_]
    .let:=l.ok.rS.mem z;let hz:=l.rS.mem z;let⟨_,o,hz,_⟩:=hz;show K hz rfl
    .let:=rC.1;rw[z] at this;cases this
  .show cH (T.item (gM X (cN X tn js) Y2 s3.heap.objs.size s3 k fp) rfl rfl rfl hc i [] s5 _ B (λ_ _=>False) I5' (L fr5) st5 go) λr σ (⟨u,hr,h6⟩)=>?_;subst hr;show cH h6 λ_ s7 (⟨x,H7,I7,r7,y7,O,fr7⟩)=>?_;let I7':=I7.pinned (L fr7) (T.obj _ _ O);show cH ((a s3.heap.objs.size s3 k fp).1 _ s7 _ H7 x u _ I7' r7 (step x H7 y7)) λ_ s8 (⟨σ8,H8,I8,kc8,q8⟩)=>?_
   -- what the ZB say of the iterator,later
   let Β:∀{Y':St} {H':Hp} {s':Æ} {F:List V} {t:Nat},Inv (gM X (cN X tn js) Y2 s3.heap.objs.size s3 k fp) ([]++wJ fp s7.heap) Y' H' s'->t<n->W (i+1) t H' F->E7 Y tn js Y' ->
     ∃m,m<n/\∃i Y' H' xs,Inv (gM X (cN X tn js) Y2 s3.heap.objs.size s3 k fp) [] Y' H' s'/\R i s'.heap/\(∀b∈fp,H' b=none)/\W i m H' xs/\E7 Y tn js Y':=λ{Y' H' s' F t} I' hm w' k'=>by
    show#[t,hm,i+1,Y',H',F,I'.qg,T.keep _ _ _ O λb a o e=>(I'.pin (b,o) (ŧ _ (ŧ _ (kP a e)))).1,λb a=>?_,w',k'];let⟨o,e,d⟩:=T.obj _ _ O b a;show(I'.pin (b,o) (ŧ _ (ŧ _ (kP a e)))).2.1
   show cH ((a s3.heap.objs.size s3 k fp).2.1 _ s8 σ8 H8 _ I8 q8) λok s9 (⟨H9,I9,q9⟩)=>?_;cases ok with
   |false =>
    let q9':∃t,t<n/\W (i+1) t H9 xs:=by
     let z:=q9;rwa[ac2 ł] at z
    let⟨t,hm,w9⟩:=q9';show Β I9 hm w9 kc8
   |true =>
    rw[ac6 rfl] at q9 ⊢;show cH ((a s3.heap.objs.size s3 k fp).2.2 _ s9 σ8 H9 _ I9 q9) λyv s10 (⟨y,H10,I10,r10,hD10,hz,t,hm,w10⟩)=>?_
    show cH (sT _ s10 σ8 H10 (.ref D) [y] (.ref D) [yv] (λ_ H'=>H'=upd H10 D (.lst (xs++[y]))) I10 rfl (.cons r10 .nil) #[D,xs,y,rfl,rfl,hD10,hz,rfl]) λ_ s11 (⟨_,H11,I11,_,e11⟩)=>by
     subst e11;show Β I11 hm w10 kc8
 show codeAny_compStart_list loop (T.self _ 0 _ _ _ st4 loop)
def PN(S:gA X Y2 tn js)(r:X.calm=Á)(hi:PI X target iter wi)
  (c:∀C s H fp,PG .I target g/\PF .I ifs tt/\PE .I elt te)
  (l:(∀x,Þ iter X.env x=pure x)<|>zrc):PE X (.ListComp elt [#[target,iter,ifs,0]] Y2 pos) (Tt wi tn js g tt te):=by
 intro ZB s Y H Q I h;rw[eval_ListComp];show Ο (use:=none) rfl l (lM (gP I.ok S)) S.kind S.loc ?_;show ya (RR:=λd C=>compPost .F X.A X.xe none (EP X ZB Y Q) d C) S r hi c I h ?_;intro D C s' H' t m a j u h1 h2 f i q;show#[m,u,λh' k=>#[.ref D,H',?_,rfl,q]];let n:Inv X ZB Y H' s':=a.qq λp hp=>a.pin p (ŧ _ (aeA _ hp));show n.turned (t':=s'.toks) (λb o c e=>k.extBut b o c e) (a.pin (C,t) (ŧ _ (ŧ _ .c))).2.1 (Ź (Ź h2)) (.inr h1) f i
def BW{i:Nat}{y:Í}{py a:ï}(u:X.N.Nodup)(j:X.N[i]?=À y)(O:Loc X.env.scope y)(z:X.fn y=Á\/X.env.scope.names.lookup y=À .local)(S:gA X Y2 tn js)(α:X.calm=Á)(hi:PI X target iter wi)
  (d:∀C s H fp,PG .I target g/\PF .I ifs tt/\PE .I elt te)
  (f:î (.ListComp elt [#[target,iter,ifs,0]] Y2 pos) (À (.Name y py)) a.line X.env=pure Á)
  (L:(∀x,Þ iter X.env x=pure x)<|>zrc):PS X (.Assign [.Name y py] (.ListComp elt [#[target,iter,ifs,0]] Y2 pos) a) (λD Y H=>Tt wi tn js g tt te Y H λv H1=>D.nx (Y.set i (À v)) H1):=by
 intro ZB s Y H r I h;rw[exec_Assign_Name_used _ _ _ _ f];show â (Ξ (â ?_));change Î _ X.A (do let _ <-comprehension (.ListComp elt [#[target,iter,ifs,0]] Y2 pos) Y2 X.env _ (newList []) Â (Õ iter X.env) (À (Ć (.Name y py) X.env))) _ _ s;show â (ϥ (Ο (use:=À (Ć (.Name y py) X.env)) (Q:=λ_ s'=>SP X ZB r .next s') rfl L (lM (gP I.ok S)) S.kind S.loc ?_) (λ_ s' R=>ù (ù R)) λ_ _ e=>e);show ya (RR:=λn C=>compPost .F X.A X.xe (À (Ć (.Name y py) X.env)) (λ_ s'=>SP X ZB r .next s') n C) S α hi d I h ?_;intro D C s' H' P m t k T h1 h2 F J q;change Î _ X.A (Ć (.Name y py) X.env (.ref D)) _ _ _;show cH (ib (pos:=py) u j O z _ s' Y H' (.ref D) (.ref D) (λσ2 H2=>σ2=Y.set i (À (.ref D))/\H2=H') t rfl #[rfl,rfl]) λ_ c ⟨σ2,H2,l,e1,e2⟩=>?_;subst e1 e2;let⟨G,E,_⟩:=l.pin (C,P) (ŧ _ (ŧ _ .c));show#[m,T.at' λo e=>?_,λh' K=>?_]
 .rw[k] at e;cases e;show G
 .let B:Inv X ZB (Y.set i (À (.ref D))) H2 c:=l.qq λp hp=>l.pin p (ŧ _ (aeA _ hp));show#[_,H2,B.turned (t':=c.toks) (λb o d e=>K.extBut b o d e) E h2 (.inr h1) F J,q]
def Nd:lW X (ď .Mult) (rI ĩ λi j=>.int (i*j)):=Vl λ_ _ _ _ _ _ _ a q=>mul_int q a
def FY(_ j:Int):Prop:=j≠0/\j.natAbs.log2<9000
def J8:lW X (ď .FloorDiv) (rI FY λi j=>.int (i.fdiv j)):=Vl λ_ _ _ _ _ _ _ a q=>floordiv_int a.1 q (.inl (PyProof.noPylong_of_log2 a.2))
noncomputable def Tg(lo c:Int)(n:Nat):It:=#[λi _=>i<n,λi H x H'=>H'=H/\x=.int (lo+i*c),λi _=>n<=i]
def Cs{P:Ó}{w:Ü}{tg:Ô}(a:Ç)(lo c:Int)(n:Nat):Turn P w K tg (Tg lo c n) [a] a (λi h=>ű h a (lo+(i:Nat)*c) ((n:Int)-(i:Nat)) c) where
 mem:=by simp
 obj:=λi h st b d=>by
  let e:b=a:=by simpa using d
  subst e
  show#[_,st,λv z=>by
   let C:Data.fields _=Data.cell v:=z
   cases C]
 keep:=λi h h' st k=>k a .c _ st
 item:=by
  intro X q x m p i ZB s Y H E I g st u;subst q x m;let⟨y,r,F,A,j,l⟩:=g a .c;let W:=Walks.range (prog:=X.prog) (w:=X.w) (I.ok.hd p) a lo c n;show W.item i s _ _ u st λv h' tk G f kk=>?_;let⟨t,rfl⟩:=G;let D:Inv X ZB Y H {s with heap:=h',toks:=tk}:=I.turned (λb o d e=>kk b o ↑d e) y r A j l;show#[_,rfl,Fg (s:={s with heap:=h',toks:=tk}) (n:="range_iterator") f rfl rfl .a #[.int (lo+i*c),H,D,#[t,rfl],#[rfl,rfl],f,λb d=>(g b d).1]]
 done:=by
  intro X q x m p i ZB s Y H E I g st u;subst q x m;let⟨y,r,F,A,j,l⟩:=g a .c;show ϕ (I.ok.hd p) st (by let:n<=i:=u;lia) λh' B=>#[rfl,I.turned (t':=s.toks) (λb o d e=>B b o d e) y r A j l]
 self:=λ_ _ _ _ _ st h=>ϖ st h
def Ga{a b:Int}(ha:-(2^62)<=a)(d:a<2^62)(i:-(2^62)<=b)(g:b<2^62)(h:c≠0)(f:-1000<=c)(e:c<=1000):Ř a b c=Á:=by
 let h1:=rangeSize_toNat a b c;let h2:=rangeSize_toNat_le a b c;unfold Ř;generalize Ò a b c=r at *;simp only[Builtin.Range.rangeFitsLong,ź,ahU,afo,agy];show#[#[#[#[#[.b,.b],.b,.b],.b,.b],.b,.b],?_];right;split<;>simp only[ź,afo]<;>lia
variable{tg:Ô}
def G5{ZB:List (Ç×ā)}{Y:St}{H:Hp}{s:Æ}{R:It->Hp->Prop}{E:Å->Æ->Prop}{lo hi:Int}{t u v:Tok}{tk:Nat}(I:Inv X ZB Y H s)(h1:-(2^62)<=lo)(h2:lo<2^62)(f:-(2^62)<=hi)(g:hi<2^62)
  (c0:c≠0) (c1:-1000<=c) (c2:c<=1000)
  (q:R (Tg lo c ↥(Ò lo hi c)) H):Î .F X.A (Ũ (.ref s.heap.objs.size)) (Xa X ZB Y tg R) E {s with heap:=s.heap.push {cls:=.type "range",data:=.fields (ß [.int lo t,.int hi u,.int c v])},toks:=tk}:=by
 show wpAny_pyIter_range (IsRange.new ..) (Ga h1 h2 f g c0 c1 c2) ?_;let a:Inv X ZB Y H {s with heap:=s.heap.push {cls:=.type "range",data:=.fields (ß [.int lo t,.int hi u,.int c v])},toks:=tk}:=I.kept λb o e=>Ī _ e
 show#[(s.heap.push {cls:=.type "range",data:=.fields (ß [.int lo t,.int hi u,.int c v])}).objs.size,[(s.heap.push {cls:=.type "range",data:=.fields (ß [.int lo t,.int hi u,.int c v])}).objs.size],_,_,H,rfl,
  a.kept (t':=tk) λb o e=>Ī _ e,Cs _ lo c ↥(Ò lo hi c),?_,λb d=>?_,q]
 .let e1:lo+((0:Nat):Int)*c=lo:=by simp
  let e2:((↥(Ò lo hi c):Nat):Int)-((0:Nat):Int)=Ò lo hi c:=by let:=rangeSize_toNat lo hi c;lia
  change ű _ _ (lo+((0:Nat):Int)*c) (((↥(Ò lo hi c):Nat):Int)-((0:Nat):Int)) c;rw[e1,e2];show ŏ _ rfl
 .let e:b=(s.heap.push {cls:=.type "range",data:=.fields (ß [.int lo t,.int hi u,.int c v])}).objs.size:=by simpa using d
  subst e;show a.Hq (ú _) (a.hok.fresh (ú _))
def Vu(ta:TA):TI:=λY H R=>ta Y H λvs H1=>∃i j c:Int,vs=[.int i,.int j,.int c]/\(-(2^62)<=i/\i<2^62/\-(2^62)<=j/\j<2^62)/\(c≠0/\-1000<=c/\c<=1000)/\R (Tg i c ↥(Ò i j c)) H1
def GO{a b c:Ô}{ta:TA}{p pos:ï}(o:Gl X "range")(v:X.mg "range"=none)(ha:PA X [a,b,c] ta)(he:Ã [a,b,c] X.env=(Â,Õ a X.env)::Ã [b,c] X.env<|>zra)
  (hpl:(ç pos (Ã [b,c] X.env)).any (·.1)=Â<|>zra):PI X tg (.Call (.Name "range" p) [a,b,c] [] pos) (Vu ta):=by
 intro ZB s Y H R I h;show Call_ (ja I o v boot_range (aeM (cH (ha pos ZB s Y H _ I h) λus x ⟨vs,H1,k,u,f⟩=>?_) he hpl));let⟨i,j,c,e,⟨f,m,w,n⟩,⟨c0,c1,c2⟩,q⟩:=f;subst e;cases u with
 |cons r d =>
  cases d with
  |cons r' d =>
   cases d with
   |cons g d =>
    cases d;let⟨t,rfl⟩:=r;let⟨t',rfl⟩:=r';let⟨l,rfl⟩:=g;show call_range_3 c0 (G5 k f m w n c0 c1 c2 q) (.inl (PyProof.noPylong_small .f))
def D8{lo:Int}{g:TG}{tb:TS}{D:Ends}{Y:St}{H:Hp}(Pv:Nat->St->Hp->Prop)(h:Pv 0 Y H)
  (d:∀i Y H,i<n->Pv i Y H->g (.int (lo+i*c)) Y H λσ2 H2=>tb {D with nx:=Pv (i+1),ct:=Pv (i+1),bk:=D.nx} σ2 H2) (f:∀Y H,Pv n Y H->D.nx Y H):
  ∃W:Nat->Nat->St->Hp->Prop,(∃m,W 0 m Y H)/\∀i m Y H,W i m Y H ->
   ((Tg lo c n).stop i H/\D.nx Y H)\/((Tg lo c n).go i H/\∃N:St->Hp->Prop,(∀Y' H',N Y' H'->∃b,b<m/\W (i+1) b Y' H')/\∀x H',(Tg lo c n).yld i H x H'->g x Y H' λσ2 H2=>tb {D with nx:=N,ct:=N,bk:=D.nx} σ2 H2):=by
 show#[λi m Y H=>m=n-i/\i<=n/\Pv i Y H,#[n,.c,Ņ _,h],?_];rintro i m Y H ⟨rfl,hi,p⟩;by_cases a:i<n
 .show .inr #[a,Pv (i+1),λY' H' p'=>#[n-(i+1),.b,rfl,a,p'],λx H' y=>?_];let⟨e,y⟩:=y;subst e y;show d i Y _ a p
 .let e:i=n:=by lia
  subst e;show .inl #[ú _,f Y H p]
end
mutual
inductive DR(K:Ä)(H:Hp):V->ì->Prop
 |non:DR K H .non .none
 |bl (b:Bool):DR K H (.bl b) (.bool b)
 |int (i:Int):DR K H (.int i) (.int i)
 |str (x:Í):DR K H (.str x) (.str x)
 |lst {a:Ç} {xs:List V} {ds:List ì}:cS K H a xs->HB K H xs ds->DR K H (.ref a) (.list ds)
 |tup {a:Ç} {xs:List V} {ds:List ì}:CD K H a xs->HB K H xs ds->DR K H (.ref a) (.tuple ds)
inductive HB(K:Ä)(H:Hp):List V->List ì->Prop
 |nil:HB K H [] []
 |cons {x:V} {xs:List V} {d:ì} {ds:List ì}:DR K H x d->HB K H xs ds->HB K H (x::xs) (d::ds)
end
section
variable{X:Cx}{ZB:List (Ç×ā)}{Y:St}{H:Hp}{s:Æ}
mutual
theorem DR.reads(I:Inv X ZB Y H s):∀{x:V} {d:ì} {u:Å},DR X.K H x d->RelV x u->∃as,Reads s.heap u d as
 |_,_,_,.non,r=>by cases r;show#[_,.none]
 |_,_,_,.bl b,r=>by cases r;show#[_,.bool b]
 |_,_,_,.int i,r=>by let⟨t,rfl⟩:=r;show#[_,.int i t]
 |_,_,_,.str x,r=>by let⟨t,rfl⟩:=r;show#[_,.str x t]
 |_,_,_,.lst h e,r=>by
  cases r;let⟨Y0,a,p,_⟩:=I.list h;let⟨as,c⟩:=HB.reads I e a;let⟨o,e1,e2,n,e3⟩:=p.isList;show#[_,.list e1 e2 e3 ↑c]
 |_,_,_,.tup h e,r=>by
  cases r;let⟨Y0,a,p,_⟩:=I.tuple h;let⟨as,c⟩:=HB.reads I e a;let⟨o,e1,e2,n,e3⟩:=p;show#[_,.tuple e1 e2 e3 ↑c]
theorem HB.reads(I:Inv X ZB Y H s):∀{xs:List V} {ds:List ì} {us:List Å},HB X.K H xs ds->Vals xs us->∃as,ReadsAll s.heap us ds as
 |_,_,_,.nil,r=>by cases r;show#[_,.nil]
 |_,_,_,.cons h e,r=>by
  cases r with
  |cons c d =>
   let⟨as,a⟩:=DR.reads I h c;let⟨bs,b⟩:=HB.reads I e d;show#[_,.cons a b]
end
def Xh(K:Ä):R2:=λx y H Q=>∃d e,DR K H x d/\DR K H y e/\d.canLay0=Á/\e.canLay0=Á/\d.depth<=60/\Q (.bl (ê d e)) H
def Xe(K:Ä):R2:=λx y H Q=>∃d e,DR K H x d/\DR K H y e/\d.canLay0=Á/\e.canLay0=Á/\d.depth<=60/\Q (.bl (!PyData.eqv d e)) H
def RZ(i:X.A.units+60<Α):lW X (å .Eq) (Xh X.K):=by
 intro ZB s Y H x y v u Q I c a h;let⟨d,e,b,he,c1,c2,dp,q⟩:=h;let⟨as,f⟩:=b.reads I c;let⟨bs,g⟩:=he.reads I a;show SeqAt.compareEq_reads f g c1 c2 (by let:=Nat.min_le_left d.depth e.depth;lia) #[.bl _,H,I,rfl,q]
def Sd(i:X.A.units+60<Α):lW X (å .NotEq) (Xe X.K):=by
 intro ZB s Y H x y v u Q I c a h;let⟨d,e,b,he,c1,c2,dp,q⟩:=h;let⟨as,f⟩:=b.reads I c;let⟨bs,g⟩:=he.reads I a;show SeqAt.compareNe_reads f g c1 c2 (by let:=Nat.min_le_left d.depth e.depth;lia) #[.bl _,H,I,rfl,q]
end
end L2
namespace L2.EP
open PySem PySem.Spec PyProof.Rows
variable{i j lo:Int}{H H' H0:Hp}{c b c':Bool}{p C:Ç}{K:Ä}{n m:Nat}{x y:Í}{v:V}{X:Cx}{xs:List V}{s:Æ}{e:Ô}{op:š}{Y:St}{es:List Ô}{rest:List Ð}{tn:List Í}{js:List Nat}
open Classical in
def off(H:Hp)(O:Ç->Prop):Hp:=λb=>if O b then none else H b
def bB{O:Ç->Prop}{b:Ç}(h:¬O b):off H O b=H b:=by unfold off;rw[ac2 h]
def zq{O:Ç->Prop}{b:Ç}(h:O b):off H O b=none:=by unfold off;rw[ac6 h]
def i8{O:Ç->Prop}{b:Ç}{o:HO}(h:off H O b=À o):¬O b/\H b=À o:=by
 by_cases a:O b
 .rw[zq a] at h;cases h
 .rw[bB a] at h;show#[a,h]
def au(H:Hp)(O:Ç->Prop):aI (off H O) H:=λ_ _ h=>(i8 h).2
def ah{O:Ç->Prop}(s:aI H H'):aI (off H O) (off H' O):=λb o h=>by
 let⟨h1,h2⟩:=i8 h;rw[bB h1];show s _ _ h2
def kj{O a:Ç->Prop}(l:∀b,a b->O b):aI (off H O) (off H a):=λb o h=>by
 let⟨h1,h2⟩:=i8 h;rwa[bB λz=>h1 (l _ z)]
def Oq(H:Hp):off H (λ_=>False)=H:=funext λ_=>bB λz=>z
def k5{O:Ç->Prop}{o:HO}(h:O p):off (upd H p o) O=off H O:=funext λb=>by
 by_cases a:O b
 .rw[zq a,zq a]
 .rw[bB a,bB a,aU];rintro rfl;show a h
def cT(h:H p=none)(o:HO):aI H (upd H p o):=λb u q=>by rwa[aU (bN q h)]
def aI.rd{a:Ç}{u:HO}(e:aI H H')(h:Rd H a u):Rd H' a u:=by
 obtain h|⟨o,h⟩:=h
 .show .inl (e _ _ h)
 .show .inr #[o,e _ _ h]
def Rt(H:Hp)(p:Ç)(xs:List V):Prop:=H p=À (.tup xs)\/∃_:Empty,H p=À (.tup xs)
def Rt.pl(h:Rt H p xs):H p=À (.tup xs):=by
 obtain h|⟨o,h⟩:=h
 .show h
 .show h
def Rt.rd(h:Rt H p xs):Rd H p (.tup xs):=.inl h.pl
def aI.rt{a:Ç}{u:List V}(e:aI H H')(h:Rt H a u):Rt H' a u:=.inl (e _ _ h.pl)
def gS(e:aI H H')(h:Rt H p xs):CD K H' p xs:=.inl (aI.rt e h).rd
inductive Nn where
 |any
 |new (H0:Hp)
 |set (D:Ç->Prop)
variable{N:Nn}
inductive Mt where
 |inl (xs:List V)
 |inr (Y1:List (Key×V))
 |inT (Y1:List (List Key×V))
 |inB (Y1:List ((Int×Bool)×V))
noncomputable def mo:Mt->HO
 |.inl xs=>.lst xs
 |.inr Y1=>.dK Y1
 |.inT Y1=>.dT Y1
 |.inB Y1=>.dB Y1
def Mo(K:Ä)(H:Hp)(p:Ç):Mt->Prop
 |.inl xs=>cS K H p xs
 |.inr Y1=>Rd H p (.dK Y1)
 |.inT Y1=>Rd H p (.dT Y1)
 |.inB Y1=>Rd H p (.dB Y1)
def Mo.mono{o:Mt}(s:aI H H')(h:Mo K H p o):Mo K H' p o:=by
 cases o with
 |inl xs=>show s.seq h
 |inr Y1=>show aI.rd s h
 |inT Y1=>show aI.rd s h
 |inB Y1=>show aI.rd s h
def Mo.of{K:Ä}{H:Hp}{p:Ç}{o:Mt}(h:H p=À (mo o)):Mo K H p o:=by
 cases o with
 |inl xs=>show cS.of h
 |inr Y1=>show .inl h
 |inT Y1=>show .inl h
 |inB Y1=>show .inl h
def Nn.has:Nn->Hp->Ç->Mt->Prop
 |.any,_,_,_=>True
 |.new H0,H,p,xs=>H0 p=none/\H p=À (mo xs)
 |.set D,H,p,xs=>D p/\H p=À (mo xs)
def Nn.mono{xs:Mt}(s:aI H H')(h:N.has H p xs):N.has H' p xs:=by
 cases N with
 |any=>show É
 |new H0=>show#[h.1,s _ _ h.2]
 |set D=>show#[h.1,s _ _ h.2]
class Py(M:Type) where
 rp:Ä->Nn->Hp->V->M->Prop
 tr:∀{K:Ä} {N N':Nn} {H H':Hp} {v:V} {a:M},(∀p (o:Mt),Mo K H p o->N.has H p o->Mo K H' p o/\N'.has H' p o)->(∀p xs,Rt H p xs->Rt H' p xs)->rp K N H v a->rp K N' H' v a
def aw{M:Type}[Py M]{a:M}(s:aI H H')(h:Py.rp K N H v a):Py.rp K N H' v a :=
 Py.tr (λ_ _ q n=>#[Mo.mono s q,Nn.mono s n]) (λ_ _ q=>aI.rt s q) h
def a_{M:Type}[Py M]{N':Nn}{a:M}(w:∀p (o:Mt),N.has H p o->N'.has H p o)(h:Py.rp K N H v a):Py.rp K N' H v a :=
 Py.tr (λ_ _ q n=>#[q,w _ _ n]) (λ_ _ q=>q) h
noncomputable instance:Py Int where
 rp _ _ _ v a:=v=.int a
 tr _ _ h:=h
noncomputable instance:Py Bool where
 rp _ _ _ v a:=v=.bl a
 tr _ _ h:=h
noncomputable instance:Py Unit where
 rp _ _ _ v _:=v=.non
 tr _ _ h:=h
noncomputable instance:Py Í where
 rp _ _ _ v a:=v=.str a
 tr _ _ h:=h
noncomputable instance{M:Type}[Py M]:Py (Option M) where
 rp K N H v a:=match a with|none=>v=.non|some b=>Py.rp K N H v b
 tr {K N N' H H' v a} l t h:=by
  cases a with
  |none=>show h
  |some b=>show Py.tr (M:=M) l t h
noncomputable instance{M β:Type}[Py M][Py β]:Py (M×β) where
 rp K N H v a:=∃p x y,v=.ref p/\Rt H p [x,y]/\Py.rp K N H x a.1/\Py.rp K N H y a.2
 tr l t h:=by
  let⟨p,x,y,e,s,h1,h2⟩:=h;show#[p,x,y,e,t _ _ s,Py.tr l t h1,Py.tr l t h2]
structure T3(M β γ:Type) where
 a:M
 b:β
 c:γ
 deriving DecidableEq
noncomputable instance{M β γ:Type}[Py M][Py β][Py γ]:Py (T3 M β γ) where
 rp K N H v a:=∃p x y z,v=.ref p/\Rt H p [x,y,z]/\Py.rp K N H x a.a/\Py.rp K N H y a.b/\Py.rp K N H z a.c
 tr l t h:=by
  let⟨p,x,y,z,e,s,h1,h2,d⟩:=h;show#[p,x,y,z,e,t _ _ s,Py.tr l t h1,Py.tr l t h2,Py.tr l t d]
theorem bc{M β:Type}{F G:M->β->Prop}(f:∀a b,F a b->G a b):∀{l₁:List M} {l₂:List β},Ý F l₁ l₂->Ý G l₁ l₂
 |_,_,.nil=>.nil
 |_,_,.cons h t=>.cons (f _ _ h) (bc f t)
theorem br{M β:Type}{F:M->β->Prop}:∀{l₁:List M} {l₂:List β},Ý F l₁ l₂->l₁.length=l₂.length
 |_,_,.nil=>rfl
 |_,_,.cons _ t=>congrArg (·+1) (br t)
theorem i7{M β:Type}{F:M->β->Prop}:∀{l₁:List M} {l₂:List β} {i:Nat} {b:β},Ý F l₁ l₂->l₂[i]?=À b->∃a,l₁[i]?=À a/\F a b
 |_,_,_,_,.nil,e=>by simp at e
 |_,_,0,_,.cons h _,e=>by simp at e;subst e;show#[_,rfl,h]
 |_,_,i+1,_,.cons _ t,e=>by
  let⟨a,h1,h2⟩:=i7 (i:=i) t ↑e;show#[a,↑h1,h2]
theorem nC{M β:Type}{F:M->β->Prop}:∀{l₁:List M} {l₂:List β} {i:Nat} {a:M},Ý F l₁ l₂->l₁[i]?=À a->∃b,l₂[i]?=À b/\F a b
 |_,_,_,_,.nil,e=>by simp at e
 |_,_,0,_,.cons h _,e=>by simp at e;subst e;show#[_,rfl,h]
 |_,_,i+1,_,.cons _ t,e=>by
  let⟨a,h1,h2⟩:=nC (i:=i) t ↑e;show#[a,↑h1,h2]
theorem rK{M β:Type}{F:M->β->Prop}:∀{l₁ m₁:List M} {l₂ m₂:List β},Ý F l₁ l₂->Ý F m₁ m₂->Ý F (l₁++m₁) (l₂++m₂)
 |_,_,_,_,.nil,h=>h
 |_,_,_,_,.cons h t,h'=>.cons h (rK t h')
theorem D7{M β:Type}{F:M->β->Prop}{a:M}{b:β}(f:F a b):∀{l₁:List M} {l₂:List β} (i:Nat),Ý F l₁ l₂->Ý F (l₁.set i a) (l₂.set i b)
 |_,_,_,.nil=>.nil
 |_,_,0,.cons _ t=>.cons f t
 |_,_,i+1,.cons h t=>.cons h (D7 f i t)
theorem uV{M β:Type}{F:M->β->Prop}:∀{l₁:List M} {l₂:List β} (n:Nat),Ý F l₁ l₂->Ý F (l₁.drop n) (l₂.drop n)
 |_,_,0,h=>h
 |_,_,_+1,.nil=>.nil
 |_,_,n+1,.cons _ t=>uV n t
theorem Ak{M β:Type}{F:M->β->Prop}:∀{l₁:List M} {l₂:List β} (n:Nat),Ý F l₁ l₂->Ý F (l₁.take n) (l₂.take n)
 |_,_,0,_=>.nil
 |_,_,_+1,.nil=>.nil
 |_,_,n+1,.cons h t=>.cons h (Ak n t)
noncomputable instance{M:Type}[Py M]:Py (List M) where
 rp K N H v a:=∃p xs,v=.ref p/\cS K H p xs/\N.has H p (.inl xs)/\Ý (λx b=>Py.rp K N H x b) xs a
 tr l t h:=by
  let⟨p,xs,e,s,n,r⟩:=h;let⟨s',c⟩:=l _ (.inl xs) s n;show#[p,xs,e,s',c,bc (λ_ _ q=>Py.tr l t q) r]
class PyD(M:Type) extends Py M where
 dat:M->ì
 dr:∀{K:Ä} {N:Nn} {H:Hp} {v:V} {a:M},Py.rp K N H v a->DR K H v (dat a)
 lay:∀a,(dat a).canLay0=Á
 dep:Nat
 depth:∀a,(dat a).depth<=dep
 eqv:∀a b,ê (dat a) (dat b)=Á↔a=b
noncomputable instance:PyD Int where
 dat:=.int
 dr h:=by cases h;show .int _
 lay _:=rfl
 dep:=0
 depth _:=ú _
 eqv a b:=by simp[ê]
noncomputable instance{M β:Type}[PyD M][PyD β]:PyD (M×β) where
 dat a:=.tuple [PyD.dat a.1,PyD.dat a.2]
 dr h:=by
  let⟨p,x,y,e,s,h1,h2⟩:=h;subst e;show .tup (.inl s.rd) (.cons (PyD.dr h1) (.cons (PyD.dr h2) .nil))
 lay a:=by
  change í [PyD.dat a.1,PyD.dat a.2]=Á;simp[í,PyD.lay]
 dep:=max (PyD.dep M) (PyD.dep β)+1
 depth a:=by
  let h1:=PyD.depth a.1;let h2:=PyD.depth a.2;change Ĝ [PyD.dat a.1,PyD.dat a.2]+1<=_;simp only[Ĝ];lia
 eqv a b:=by
  rw[ê];simp only[Ĕ,Bool.and_true,ź,PyD.eqv];show#[λh=>ahd h.1 h.2,λh=>by subst h;show#[rfl,rfl]]
theorem v9{M:Type}[PyD M]{K:Ä}{N:Nn}{H:Hp}:∀{xs:List V} {as:List M},Ý (λx b=>Py.rp K N H x b) xs as->HB K H xs (as.map PyD.dat)
 |_,_,.nil=>.nil
 |_,_,.cons h t=>.cons (PyD.dr h) (v9 t)
theorem vO{M:Type}[PyD M]:∀as:List M,í (as.map PyD.dat)=Á
 |[]=>rfl
 |a::as=>by simp[í,PyD.lay,vO as]
theorem BK{M:Type}[PyD M]:∀as:List M,Ĝ (as.map PyD.dat)<=PyD.dep M
 |[]=>Ņ _
 |a::as=>by
  let h1:=PyD.depth a;let h2:=BK as;simp only[ř,Ĝ];lia
theorem A9{M:Type}[PyD M]:∀as bs:List M,Ĕ (as.map PyD.dat) (bs.map PyD.dat)=Á↔as=bs
 |[],[]=>by simp[Ĕ]
 |[],_::_=>by simp[Ĕ]
 |_::_,[]=>by simp[Ĕ]
 |a::as,b::bs=>by simp[Ĕ,PyD.eqv,A9 as bs]
noncomputable instance{M:Type}[PyD M]:PyD (List M) where
 dat a:=.list (a.map PyD.dat)
 dr h:=by
  let⟨p,xs,e,s,n,r⟩:=h;subst e;show .lst s (v9 r)
 lay a:=vO a
 dep:=PyD.dep M+1
 depth a:=by
  change Ĝ (a.map PyD.dat)+1<=_;let:=BK a;lia
 eqv a b:=by rw[ê];show A9 a b
inductive Bd:Type 1
 |val {M:Type} [Py M] (b:Bool) (a:M):Bd
 |own {M:Type} [Py M] (b:Bool) (as:List M):Bd
 |dpo {M:Type} [Py M] (a:M):Bd
variable{g:Bd}
abbrev aM:=List (Option Bd)
noncomputable def Nf(H0:Hp):Bool->Nn
 |true=>.new H0
 |false=>.any
def Nf.wk{xs:Mt}(h:H0 p=none)(a:H p=À (mo xs)):(Nf H0 b).has H p xs:=by cases b;show É;show#[h,a]
def Nf.le{b':Bool}{xs:Mt}(l:b'=Á->b=Á)(h:(Nf H0 b).has H p xs):(Nf H0 b').has H p xs:=by
 cases b' with
 |false=>show É
 |true=>rwa[l rfl] at h
def Bd.ok(K:Ä)(H0:Hp)(O:Ç->Prop)(H:Hp)(v:V):Bd->Prop
 |@Bd.val _ _ b a=>Py.rp K (Nf H0 b) (off H O) v a
 |@Bd.own _ _ _ _=>False
 |@Bd.dpo _ _ _=>False
def Bd.CT(K:Ä)(H0:Hp)(O:Ç->Prop)(H:Hp)(D:Ç->Prop)(v:V):Bd->Prop
 |@Bd.val _ _ _ _=>False
 |@Bd.own _ _ b as=>∃p xs,v=.ref p/\D p/\H p=À (.lst xs)/\Ý (λx a=>Py.rp K (Nf H0 b) (off H O) x a) xs as
 |@Bd.dpo _ _ a=>Py.rp K (.set D) H v a
def Bd.gR:Bd->Prop
 |@Bd.val _ _ _ _=>False
 |@Bd.own _ _ _ _=>True
 |@Bd.dpo _ _ _=>True
structure eZ(K:Ä)(H0:Hp)(F O:Ç->Prop)(U:aM)(Y:St)(H:Hp):Prop where
 same:aI H0 H
 fo:∀p,F p->O p
 f0:∀p,F p->∃xs:Mt,H0 p=À (mo xs)
 own:∀p,O p->∃xs:Mt,H p=À (mo xs)
 len:Y.length=U.length
 at_:∀(i:Nat) (g:Bd),U[i]?=À (À g)->¬g.gR->∃v,Y[i]?=À (À v)/\g.ok K H0 O H v
 dis:∃D:Nat->Ç->Prop,(∀i j p,D i p->D j p->i=j)/\(∀i p,D i p->O p/\H0 p=none)/\∀(i:Nat) (g:Bd),U[i]?=À (À g)->g.gR->∃v,Y[i]?=À (À v)/\g.CT K H0 O H (D i) v
section
variable{K:Ä}{H0:Hp}{F O:Ç->Prop}{U:aM}{Y:St}{H H':Hp}
def Bd.go(s:aI H H')(h:g.ok K H0 O H v):g.ok K H0 O H' v:=by
 cases g with
 |val b a=>show aw (ah s) h
 |own b as=>show h
 |dpo a=>show h
def Bd.VE{D i:Ç->Prop}(h:g.CT K H0 O H D v)(j:∀p (xs:Mt),D p->H p=À (mo xs)->H' p=À (mo xs))(d:aI (off H O) (off H' i))(m:∀p,D p->O p)(f:∀p,O p->∃xs:Mt,H p=À (mo xs)):g.CT K H0 i H' D v:=by
 cases g with
 |val b a=>show h
 |own b as =>
  let⟨p,xs,e,o,q,r⟩:=h;show#[p,xs,e,o,j p (.inl xs) o q,bc (λ_ _ z=>aw d z) r]
 |dpo a =>
  let h':Py.rp K (.set D) H v a:=h;show Py.tr (M:=_) (a:=a) (λp xs q n=>?_) (λp xs q=>?_) h'
  .let⟨k,l⟩:=n;let h2:=j p xs k l;show#[Mo.of h2,k,h2]
  .let hp:∀u,(H p=À (.tup u)\/∃o,H p=À (.frz o (.tup u)))->¬O p:=λu z hp=>by
    let⟨ys,w⟩:=f p hp;obtain z|⟨o,z⟩:=z
    .rw[z] at w;obtain ys|ys|ys:=ys<;>cases w
    .rw[z] at w;obtain ys|ys|ys:=ys<;>cases w
   let c:=hp xs q.rd;obtain q|⟨o,q⟩:=q
   .show .inl ((au _ _) _ _ (d _ _ (by rwa[bB c])))
   .show .inr #[o,(au _ _) _ _ (d _ _ (by rwa[bB c]))]
def eZ.go(S:eZ K H0 F O U Y H)(s:aI H H'):eZ K H0 F O U Y H' where
 same:=S.same.trans s
 fo:=S.fo
 f0:=S.f0
 own:=λp h=>let #[xs,q]:=S.own p h;#[xs,s _ _ q]
 len:=S.len
 at_:=λi g e n=>let #[v,q,r]:=S.at_ i g e n;#[v,q,Bd.go s r]
 dis:=by
  let⟨D,c,a,b⟩:=S.dis;show#[D,c,a,λi g e o=>?_];let⟨v,q,r⟩:=b i g e o;show#[v,q,Bd.VE r (λp xs _ z=>s _ _ z) (ah s) (λp z=>(a i p z).1) S.own]
def eZ.fL(S:eZ K H0 F O U Y H)(h:H p=none):H0 p=none:=S.same.free h
def eZ.ph(S:eZ K H0 F O U Y H)(h:H p=none):¬O p:=λo=>by
 let⟨xs,q⟩:=S.own p o;rw[h] at q;cases q
def eZ.back{M:Type}[Py M]{a:M}(S:eZ K H0 F O U Y H)(h:Py.rp K (Nf H b) (off H' O) v a):Py.rp K (Nf H0 b) (off H' O) v a :=
 a_ (λp xs n=>by cases b with|true=>show#[S.fL n.1,n.2]|false=>show É) h
end
theorem get_set_ne.{u}{M:Type u}{l:List M}{i j:Nat}{a:M}(h:j≠i):(l.set i a)[j]?=l[j]?:=by
 rw[ae1 (Ź h)]
theorem get_set_eq.{u}{M:Type u}{l:List M}{i:Nat}{a:M}(h:i<l.length):(l.set i a)[i]?=À a:=by
 rw[aeR h]
theorem get_set_some.{u}{M:Type u}{l:List (Option M)}{i:Nat}{a x:M}(h:(l.set i (À a))[i]?=À (À x)):i<l.length/\a=x:=by
 by_cases b:i<l.length
 .rw[get_set_eq b] at h;injection h with h;injection h with h;show#[b,h]
 .rw[Ϲ (by rw[Ō];lia)] at h;cases h
def eZ.set{K:Ä}{H0:Hp}{F O:Ç->Prop}{U:aM}{Y:St}{H:Hp}{M:Type}[Py M]{b:Bool}{a:M}{v:V}{i:Nat}(S:eZ K H0 F O U Y H)(r:Py.rp K (Nf H0 b) (off H O) v a):
  eZ K H0 F O (U.set i (À (.val b a))) (Y.set i (À v)) H where
 same:=S.same
 fo:=S.fo
 f0:=S.f0
 own:=S.own
 len:=by rw[Ō,Ō];show S.len
 at_:=λj g e n=>by
  by_cases c:j=i
  .subst c;let⟨h,d⟩:=get_set_some e;subst d;show#[v,get_set_eq (by rwa[S.len]),r]
  .rw[get_set_ne c] at e;let⟨w,q,z⟩:=S.at_ j g e n;show#[w,by rwa[get_set_ne c],z]
 dis:=by
  let⟨D,k,f,l⟩:=S.dis;show#[D,k,f,λj g e o=>?_]
  let c:j≠i:=by
   rintro rfl;let⟨_,d⟩:=get_set_some e;subst d;show o
  rw[get_set_ne c] at e;let⟨w,q,z⟩:=l j g e o;show#[w,by rwa[get_set_ne c],z]
def tV{M:Type}[Py M](K:Ä)(U:aM)(b:Bool)(a:M):TE:=λY H Q=>∃H0 F O,eZ K H0 F O U Y H/\∀v H',aI H H'->Py.rp K (Nf H0 b) (off H' O) v a->Q v H'
@[irreducible] def E{M:Type}[Py M](X:Cx)(U:aM)(e:Ô)(b:Bool)(a:M):Prop:=PE X e (tV X.K U b a)
def Qi(K:Ä)(U:aM)(c:Bool):TT:=λY H Q=>∃H0 F O,eZ K H0 F O U Y H/\∀H',aI H H'->Q c H'
@[irreducible] def T(X:Cx)(U:aM)(e:Ô)(c:Bool):Prop:=PT X e (Qi X.K U c)
@[irreducible] def TW(X:Cx)(U:aM)(e:Ô)(c:Bool):Prop:=PW X e (Qi X.K U c)
def aK{t t':TE}(h:PE X e t)(w:∀Y H Q,t' Y H Q->t Y H Q):PE X e t':=λZB s Y H Q I q=>h ZB s Y H Q I (w _ _ _ q)
def pM{t t':TT}(h:PT X e t)(w:∀Y H Q,t' Y H Q->t Y H Q):PT X e t':=λZB s Y H Q I q=>h ZB s Y H Q I (w _ _ _ q)
def Ew{t t':TT}(h:PW X e t)(w:∀Y H Q,t' Y H Q->t Y H Q):PW X e t':=λa ZB s Y H Q I q=>h a ZB s Y H Q I (w _ _ _ q)
section
variable{X:Cx}{U:aM}{M β γ:Type}[Py M][Py β][Py γ]{e e1 e2 e3:Ô}{b b1 b2 b3:Bool}{pos:ï}
def aa(i:Nat){a:M}(h:U[i]?=À (À (.val b a))<|>zra)(d:X.N[i]?=À x<|>zra)(e:Hy X.env.scope x<|>zre)
  (f:(x==("__debug__":Í))=Â<|>zrb) (c:(x==("__classdict__":Í))=Â<|>zrb):E X U (.Name x pos) b a:=by
 stop
  show aK (pv i d e f c) λY H Q ⟨H0,F,O,S,q⟩=>by
    let⟨v,h1,h2⟩:=S.at_ i _ h (λz=>z);show#[v,h1,q v H (aI.refl _) h2]
def ae{j:Nat}:E X U (.Constant (.int i) j pos) Á i:=by stop show aK vI λY H Q ⟨H0,F,O,S,q⟩=>q _ H (aI.refl _) rfl
def xI{i:Bool}{j:Nat}:E X U (.Constant (.bool i) j pos) Á i:=by stop show aK UK λY H Q ⟨H0,F,O,S,q⟩=>q _ H (aI.refl _) rfl
def j9{j:Nat}:E X U (.Constant .none j pos) Á (none:Option M):=by stop show aK QS λY H Q ⟨H0,F,O,S,q⟩=>q _ H (aI.refl _) rfl
def FG{j:Nat}:E X U (.Constant (.str x) j pos) Á x:=by stop show aK QO λY H Q ⟨H0,F,O,S,q⟩=>q _ H (aI.refl _) rfl
theorem E.some{a:M}(h:E X U e b a):E X U e b (À a):=by stop show aK h λY H Q ⟨H0,F,O,S,q⟩=>#[H0,F,O,S,λv H' s r=>q v H' s r]
def C4{op:Operator}{C:Int->Int->Prop}{g:Int->Int->Int}(f:lW X (ď op) (rI C λi j=>.int (g i j)))(ha:E X U e1 b1 i)(c:E X U e2 b2 j)(b:C i j):E X U (.BinOp e1 op e2 pos) Á (g i j):=by stop show aK (BX f ha c) λY H Q ⟨H0,F,O,S,q⟩=>#[H0,F,O,S,λv H1 a e=>#[H0,F,O,S.go a,λw H2 h d=>#[i,j,e,d,b,q _ H2 (a.trans h) rfl]]]
def bG(ha:E X U e1 b1 i)(a:E X U e2 b2 j):E X U (.BinOp e1 .Add e2 pos) Á (i+j):=by stop show C4 (C:=λ_ _=>True) (λZB s Y H x y v u Q I c b ⟨i,j,h1,h2,_,q⟩=>Q1 ZB s Y H x y v u Q I c b #[i,j,h1,h2,q]) ha a É
def j_(ha:E X U e1 b1 i)(a:E X U e2 b2 j):E X U (.BinOp e1 .Sub e2 pos) Á (i-j):=by stop show C4 (C:=λ_ _=>True) (λZB s Y H x y v u Q I c b ⟨i,j,h1,h2,_,q⟩=>Sj ZB s Y H x y v u Q I c b #[i,j,h1,h2,q]) ha a É
def aH(ha:E X U e1 b1 i)(b:E X U e2 b2 j)(a:ĩ i j):E X U (.BinOp e1 .Mult e2 pos) Á (i*j):=by stop show C4 Nd ha b a
def bf(ha:E X U e1 b1 i)(b:E X U e2 b2 j)(a:FY i j):E X U (.BinOp e1 .FloorDiv e2 pos) Á (i.fdiv j):=by stop show C4 J8 ha b a
def bg(ha:E X U e1 b1 i)(b:E X U e2 b2 j)(a:j≠0):E X U (.BinOp e1 .Mod e2 pos) Á (i.fmod j):=by stop show C4 N2 ha b a
def U_(ha:E X U e1 b1 i)(b:E X U e2 b2 j)(a:LS i j):E X U (.BinOp e1 .Pow e2 pos) Á (i^↥j):=by stop show C4 Sh ha b a
def dU(ha:E X U e1 b1 i):E X U (.UnaryOp .USub e1 pos) Á (-i):=by stop show aK (Ud Sv ha) λY H Q ⟨H0,F,O,S,q⟩=>#[H0,F,O,S,λv H1 b a=>#[i,a,q _ H1 b rfl]]
def CV(X:Cx)(op:š)(x:M)(y:β)(c:Bool):Prop:=∃r,lW X (å op) r/\∀(N N':Nn) (H:Hp) (u v:V) (Q:VK),Py.rp X.K N H u x->Py.rp X.K N' H v y->Q (.bl c) H->r u v H Q
def Ep{g:Int->Int->Bool}(a:lW X (å op) (NL λi j=>.bl (g i j)))(i j:Int):CV X op i j (g i j):=#[_,a,λN N' H u v Q h1 h2 q=>#[i,j,h1,h2,q]]
def gO:CV X .Lt i j (decide (i<j)):=Ep Ua i j
def BG:CV X .LtE i j (decide (i<=j)):=Ep UD i j
def h_:CV X .Gt i j (decide (j<i)):=Ep Vz i j
def EW:CV X .GtE i j (decide (j<=i)):=Ep T5 i j
def aO:CV X .Eq i j (decide (i=j)):=#[_,Vp,λN N' H u v Q h1 h2 q=>by
 cases h1;cases h2;show#[rfl,?_]
 rwa[uQ,aga]]
def cw:CV X .NotEq i j (!decide (i=j)):=#[_,TZ,λN N' H u v Q h1 h2 q=>by
 cases h1;cases h2;show#[rfl,?_]
 rwa[uQ,aga]]
def EE{M:Type}[PyD M][DecidableEq M]{x y:M}(b:X.A.units+60<Α)(a:PyD.dep M<=60<|>zrb):CV X .Eq x y (decide (x=y)):=#[_,RZ b,λN N' H u v Q h1 h2 q=>by
 show#[_,_,PyD.dr h1,PyD.dr h2,PyD.lay _,PyD.lay _,ĭ (PyD.depth _) a,?_]
 let e:ê (PyD.dat x) (PyD.dat y)=decide (x=y):=by
  by_cases h:x=y
  .rw[ado h];show(PyD.eqv x y).mpr h
  .rw[adF h];show Bool.eq_false_iff.mpr λz=>h ((PyD.eqv x y).mp z)
 rwa[e]]
def Ii{M:Type}[PyD M][DecidableEq M]{x y:M}(b:X.A.units+60<Α)(a:PyD.dep M<=60<|>zrb):CV X .NotEq x y (!decide (x=y)):=#[_,Sd b,λN N' H u v Q h1 h2 q=>by
 show#[_,_,PyD.dr h1,PyD.dr h2,PyD.lay _,PyD.lay _,ĭ (PyD.depth _) a,?_]
 let e:ê (PyD.dat x) (PyD.dat y)=decide (x=y):=by
  by_cases h:x=y
  .rw[ado h];show(PyD.eqv x y).mpr h
  .rw[adF h];show Bool.eq_false_iff.mpr λz=>h ((PyD.eqv x y).mp z)
 rwa[e]]
def jy{x:M}{y:β}(d:CV X op x y c)(ha:E X U e1 b1 x)(e:E X U e2 b2 y)(i:ø op e2=Â:=by first|show JU _|rfl):E X U (.Compare e1 [op] [e2] pos) Á c:=by
 stop
  let⟨r,h,j⟩:=d
  show aK (M_ h ha e i) λY H Q ⟨H0,F,O,S,q⟩=>#[H0,F,O,S,λv H1 a g=>#[H0,F,O,S.go a,λw H2 b f =>
   j _ _ H2 v w _ (aw ((ah b).trans (au _ _)) g) (aw (au _ _) f) (q _ H2 (a.trans b) rfl)]]
def aD{x:M}{y:β}(d:CV X op x y c)(ha:E X U e1 b1 x)(e:E X U e2 b2 y)(i:ø op e2=Â:=by first|show JU _|rfl):T X U (.Compare e1 [op] [e2] pos) c:=by
 stop
  let⟨r,h,j⟩:=d
  show pM (NI h ha e i) λY H Q ⟨H0,F,O,S,q⟩=>#[H0,F,O,S,λv H1 a g=>#[H0,F,O,S.go a,λw H2 b f =>
   j _ _ H2 v w _ (aw ((ah b).trans (au _ _)) g) (aw (au _ _) f) #[c,rfl,q H2 (a.trans b)]]]
def Px{x:Option M}{j:Nat}{p:ï}(ha:E X U e1 b1 x)(c:∀(K:Ä) (N:Nn) (H:Hp) (a:M),¬Py.rp K N H .non a):E X U (.Compare e1 [.Is] [.Constant .none j p] pos) Á x.isNone:=by
 stop
  show aK (Mf (JW ha)) λY H Q ⟨H0,F,O,S,q⟩=>#[H0,F,O,S,λv H1 d b=>by
    let:=q (.bl (decide (v=.non))) H1 d;show this ?_;cases x with
    |none=>cases b;rfl
    |some a =>
     let e:v≠.non:=by rintro rfl;show c _ _ _ a b
     change V.bl (decide (v=.non))=.bl Â
     rw[adF e]]
def t8{x:Option M}{j:Nat}{p:ï}(ha:E X U e1 b1 x)(c:∀(K:Ä) (N:Nn) (H:Hp) (a:M),¬Py.rp K N H .non a):T X U (.Compare e1 [.Is] [.Constant .none j p] pos) x.isNone:=by
 stop
  show pM (DK (JW ha)) λY H Q ⟨H0,F,O,S,q⟩=>#[H0,F,O,S,λv H1 d b=>by
    show#[decide (v=.non),rfl,?_]
    let e:decide (v=.non)=x.isNone:=by
     cases x with
     |none=>cases b;rfl
     |some a =>
      let f:v≠.non:=by rintro rfl;show c _ _ _ a b
      rw[adF f];rfl
    rw[e];show q H1 d]
def eH(h:E X U e b c)(he:(∀whole,Ϛ e X.env whole=(do let v <-whole;Ϙ e.pos;ġ [v] (truthy v)))<|>zrc):T X U e c:=by stop show pM (QW h he) λY H Q ⟨H0,F,O,S,q⟩=>#[H0,F,O,S,λv H1 d a=>#[c,a,q H1 d]]
def fW(h:T X U e c):T X U (.UnaryOp .Not e pos) (!c):=by stop show pM (RW h) λY H Q ⟨H0,F,O,S,q⟩=>#[H0,F,O,S,λH1 a=>q H1 a]
variable{rest:List Ô}
def jq(h:T X U e c):TW X U (.BoolOp .And [e] pos) c:=by stop show NF h
def gT(h:T X U e c):TW X U (.BoolOp .Or [e] pos) c:=by stop show R0 h
def OR:PW X e (λ_ _ _=>False):=λ_ _ _ _ _ _ _ h=>h.elim
def yF:PE X e (λ_ _ _=>False):=λ_ _ _ _ _ _ h=>h.elim
def iX(h:T X U e1 c)(h':c=Á->TW X U (.BoolOp .And (e2::rest) pos) c'):TW X U (.BoolOp .And (e1::e2::rest) pos) (c&&c'):=by
 stop
  cases c with
  |true=>show Ew (Ju h (h' rfl)) λY H Q ⟨H0,F,O,S,q⟩=>#[H0,F,O,S,λH1 a=>vp #[H0,F,O,S.go a,λH2 b=>q H2 (a.trans b)]]
  |false=>show Ew (Ju h OR) λY H Q ⟨H0,F,O,S,q⟩=>#[H0,F,O,S,λH1 a=>zD (q H1 a)]
def iS(h:T X U e1 c)(h':c=Â->TW X U (.BoolOp .Or (e2::rest) pos) c'):TW X U (.BoolOp .Or (e1::e2::rest) pos) (c || c'):=by
 stop
  cases c with
  |false=>show Ew (O8 h (h' rfl)) λY H Q ⟨H0,F,O,S,q⟩=>#[H0,F,O,S,λH1 a=>zD #[H0,F,O,S.go a,λH2 b=>q H2 (a.trans b)]]
  |true=>show Ew (O8 h OR) λY H Q ⟨H0,F,O,S,q⟩=>#[H0,F,O,S,λH1 a=>vp (q H1 a)]
def TW.t(h:TW X U e c):T X U e c:=by stop show h.pt
def ud{op:BoolOp}{a:M}(h:E X U e b a):E X U (.BoolOp op [e] pos) b a:=by stop show Sw h
def tW(h:E X U e1 b1 c)(h':c=Á->E X U (.BoolOp .And (e2::rest) pos) b2 c'):E X U (.BoolOp .And (e1::e2::rest) pos) Á (c&&c'):=by
 stop
  cases c with
  |true=>show aK (Jp h (h' rfl)) λY H Q ⟨H0,F,O,S,q⟩=>#[H0,F,O,S,λv H1 a b=>#[Á,b,vp #[H0,F,O,S.go a,λw H2 e d=>q w H2 (a.trans e) d]]]
  |false=>show aK (Jp h yF) λY H Q ⟨H0,F,O,S,q⟩=>#[H0,F,O,S,λv H1 a b=>#[Â,b,zD (q _ H1 a rfl)]]
def TK(h:E X U e1 b1 c)(h':c=Â->E X U (.BoolOp .Or (e2::rest) pos) b2 c'):E X U (.BoolOp .Or (e1::e2::rest) pos) Á (c || c'):=by
 stop
  cases c with
  |false=>show aK (OV h (h' rfl)) λY H Q ⟨H0,F,O,S,q⟩=>#[H0,F,O,S,λv H1 a b=>#[Â,b,zD #[H0,F,O,S.go a,λw H2 e d=>q w H2 (a.trans e) d]]]
  |true=>show aK (OV h yF) λY H Q ⟨H0,F,O,S,q⟩=>#[H0,F,O,S,λv H1 a b=>#[Á,b,vp (q _ H1 a rfl)]]
def OU(h:E X U e b c):E X U (.UnaryOp .Not e pos) Á (!c):=by stop show aK (QD h) λY H Q ⟨H0,F,O,S,q⟩=>#[H0,F,O,S,λv H1 d a=>#[c,a,q _ H1 d rfl]]
def ko{x y:M}(g:T X U e c)(ha:c=Á->E X U e1 b x)(h:c=Â->E X U e2 b y):E X U (.IfExp e e1 e2 pos) b (if c then x else y):=by
 stop
  cases c with
  |true=>show aK (qH g (ha rfl) yF) λY H Q ⟨H0,F,O,S,q⟩=>#[H0,F,O,S,λH1 a=>vp #[H0,F,O,S.go a,λw H2 f d=>q w H2 (a.trans f) d]]
  |false=>show aK (qH g yF (h rfl)) λY H Q ⟨H0,F,O,S,q⟩=>#[H0,F,O,S,λH1 a=>zD #[H0,F,O,S.go a,λw H2 f d=>q w H2 (a.trans f) d]]
def EF{xs:Mt}(h:(Nf H0 b1).has H p xs):(Nf H0 (b1&&b2)).has H p xs:=Nf.le (λz=>(ad_.mp z).1) h
def Fs{xs:Mt}(h:(Nf H0 b2).has H p xs):(Nf H0 (b1&&b2)).has H p xs:=Nf.le (λz=>(ad_.mp z).2) h
def qu{F O:Ç->Prop}{U:aM}(S:eZ K H0 F O U Y H)(hp:H p=none):aI H (upd H p (.tup xs))/\Rt (off (upd H p (.tup xs)) O) p xs:=by stop show#[cT hp _,.inl (by rw[bB (S.ph hp)];show aY)]
def bS{F O:Ç->Prop}{U:aM}(S:eZ K H0 F O U Y H)(hp:H p=none):aI H (upd H p (.lst xs))/\off (upd H p (.lst xs)) O p=À (.lst xs):=by stop show#[cT hp _,by rw[bB (S.ph hp)];show aY]
def bj{x:M}{y:β}{k:Nat}(ha:E X U e1 b1 x)(e:E X U e2 b2 y)(g:Ã [e1,e2] X.env=(Â,Õ e1 X.env)::Ã [e2] X.env<|>zra)(b:Ã [e2] X.env=(Â,Õ e2 X.env)::Ã [] X.env<|>zra):
  E X U (.Tuple [e1,e2] k pos) (b1&&b2) (x,y):=by
 stop
  show aK (Dh (aB ha (aB e aW b) g)) λY H Q ⟨H0,F,O,S,q⟩=>#[H0,F,O,S,λv H1 a h=>#[H0,F,O,S.go a,λw H2 d f=>#[by change 2<=sizeLine;decide,λp hp=>by
    let⟨c,i⟩:=qu (xs:=[v,w]) ((S.go a).go d) hp;show q _ _ (a.trans (d.trans c)) #[p,v,w,rfl,i,?_,?_]
    .show a_ (λ_ _ n=>EF n) (aw ((ah d).trans (ah c)) h)
    .show a_ (λ_ _ n=>Fs n) (aw (ah c) f)]]]
@[irreducible] def EA(X:Cx)(U:aM)(es:List Ô)(b:Bool)(as:List M):Prop :=
 PA X es λY H Q=>∃H0 F O,eZ X.K H0 F O U Y H/\∀vs H',aI H H'->Ý (λx a=>Py.rp X.K (Nf H0 b) (off H' O) x a) vs as->Q vs H'
def ET{X:Cx}{t t':TA}(h:PA X es t)(w:∀Y H Q,t' Y H Q->t Y H Q):PA X es t':=λp ZB s Y H Q I q=>h p ZB s Y H Q I (w _ _ _ q)
def bD:EA X U [] b ([]:List M):=by stop show ET aW λY H Q ⟨H0,F,O,S,q⟩=>q [] H (aI.refl _) .nil
def aF{a:M}{as:List M}(h:E X U e b a)(h':EA X U es b as)(g:Ã (e::es) X.env=(Â,Õ e X.env)::Ã es X.env<|>zra):EA X U (e::es) b (a::as):=by stop show ET (aB h h' g) λY H Q ⟨H0,F,O,S,q⟩=>#[H0,F,O,S,λv H1 c i=>#[H0,F,O,S.go c,λvs H2 d f=>q _ H2 (c.trans d) (.cons (aw (ah d) i) f)]]
def d8{as:List M}(h:EA X U es b as)(f:as.length<=1000):E X U (.List es pos) b as:=by
 stop
  show aK (w6 h) λY H Q ⟨H0,F,O,S,q⟩=>#[H0,F,O,S,λvs H1 a c=>#[by rw[br c];show ŋ (bP f),λp hp=>by
    let⟨d,e⟩:=bS (xs:=vs) (S.go a) hp
    show q _ _ (a.trans d) #[p,vs,rfl,cS.of e,Nf.wk ((S.go a).fL hp) e,bc (λ_ _ r=>aw (ah d) r) c]]]
def aJ{xs:List M}{a:M}(ha:E X U e1 b xs)(l:E X U e2 b2 i)(h:tP xs i=À a)(t:ic e2<|>zrj):E X U (.Subscript e1 e2 pos) b a:=by
 stop
  show aK (j8 u9 ha l t) λY H Q ⟨H0,F,O,S,q⟩=>#[H0,F,O,S,λv H1 d u=>#[H0,F,O,S.go d,λw H2 c m=>by
    let⟨p,vs,e,y,n,r⟩:=u;let⟨j,h1,h2,z,A,B⟩:=pE h;let⟨x,s,o⟩:=i7 r h2;show#[p,vs,i,x,e,m,(au _ _).seq ((ah c).seq y),?_,q x H2 (d.trans c) (aw (ah c) o)];unfold tP at h ⊢;rw[br r];cases f:Bq xs.length i with
    |none=>rw[f] at h;cases h
    |some k =>
     let g:=(p8 f).1;rw[h1] at g;cases g
     show s]]
def aV{u:M×β}{j:Nat}{p':ï}(ha:E X U e1 b u):E X U (.Subscript e1 (.Constant (.int 0) j p') pos) b u.1:=by
 stop
  show aK (j8 lG ha ae (λ_ _=>rfl)) λY H Q ⟨H0,F,O,S,q⟩=>#[H0,F,O,S,λv H1 c f=>#[H0,F,O,S.go c,λw H2 a d=>by
    let⟨p,u,i,e,h,g,k⟩:=f
    show#[p,_,0,u,e,d,gS (au _ _) (aI.rt (ah a) h),rfl,q u H2 (c.trans a) (aw (ah a) g)]]]
def aX{u:M×β}{j:Nat}{p':ï}(ha:E X U e1 b u):E X U (.Subscript e1 (.Constant (.int 1) j p') pos) b u.2:=by
 stop
  show aK (j8 lG ha ae (λ_ _=>rfl)) λY H Q ⟨H0,F,O,S,q⟩=>#[H0,F,O,S,λv H1 d h=>#[H0,F,O,S.go d,λw H2 a f=>by
    let⟨p,u,c,e,i,k,g⟩:=h
    show#[p,_,1,c,e,f,gS (au _ _) (aI.rt (ah a) i),rfl,q c H2 (d.trans a) (aw (ah a) g)]]]
def iR{p:ï}(g:Gl X "abs")(c:X.mg "abs"=none)(ha:E X U e b i)(a:Ã [e] X.env=(Â,Õ e X.env)::Ã [] X.env<|>zra):E X U (.Call (.Name "abs" p) [e] [] pos) Á (if i<0 then -i else i):=by stop show aK (du KD g c boot_abs (aB ha aW a) (he:=a)) λY H Q ⟨H0,F,O,S,q⟩=>#[H0,F,O,S,λv H1 f d=>#[i,by cases d;rfl,q _ H1 f rfl]]
def PH{p:ï}(d:X.calm=Á)(g:Gl X "min")(k:X.mg "min"=none)(ha:E X U e1 b1 i)(e:E X U e2 b2 j)(c:Ã [e1,e2] X.env=(Â,Õ e1 X.env)::Ã [e2] X.env<|>zra)(a:Ã [e2] X.env=(Â,Õ e2 X.env)::Ã [] X.env<|>zra)(hpl:(ç pos (Ã [e2] X.env)).any (·.1)=Â<|>zra):
  E X U (.Call (.Name "min" p) [e1,e2] [] pos) Á (if j<i then j else i):=by stop show aK (du (HW d) g k boot_min (aB ha (aB e aW a) c) (he:=c) (hpl:=hpl)) λY H Q ⟨H0,F,O,S,q⟩=>#[H0,F,O,S,λv H1 b h=>#[H0,F,O,S.go b,λw H2 l f=>#[i,j,by cases h;cases f;rfl,q _ H2 (b.trans l) rfl]]]
def UO{p:ï}(d:X.calm=Á)(g:Gl X "max")(k:X.mg "max"=none)(ha:E X U e1 b1 i)(e:E X U e2 b2 j)(c:Ã [e1,e2] X.env=(Â,Õ e1 X.env)::Ã [e2] X.env<|>zra)(a:Ã [e2] X.env=(Â,Õ e2 X.env)::Ã [] X.env<|>zra)(hpl:(ç pos (Ã [e2] X.env)).any (·.1)=Â<|>zra):
  E X U (.Call (.Name "max" p) [e1,e2] [] pos) Á (if j>i then j else i):=by stop show aK (du (GB d) g k boot_max (aB ha (aB e aW a) c) (he:=c) (hpl:=hpl)) λY H Q ⟨H0,F,O,S,q⟩=>#[H0,F,O,S,λv H1 b h=>#[H0,F,O,S.go b,λw H2 l f=>#[i,j,by cases h;cases f;rfl,q _ H2 (b.trans l) rfl]]]
def bx{xs:List M}{p:ï}(d:Gl X "len")(h:X.mg "len"=none)(ha:E X U e b xs)(a:Ã [e] X.env=(Â,Õ e X.env)::Ã [] X.env<|>zra):E X U (.Call (.Name "len" p) [e] [] pos) Á (xs.length:Int):=by
 stop
  show aK (du kJ d h ah2 (aB ha aW a) (he:=a)) λY H Q ⟨H0,F,O,S,q⟩=>#[H0,F,O,S,λv H1 c f=>by
    let⟨p,vs,e,g,n,r⟩:=f;show#[p,vs,by rw[e],.inl ((au _ _).seq g),q _ H1 c ?_];change V.int _=V.int _
    rw[br r]]
def QJ{p:ï}(h:Gl X "int")(d:X.mg "int"=none)(ha:E X U e b c)(a:Ã [e] X.env=(Â,Õ e X.env)::Ã [] X.env<|>zra):E X U (.Call (.Name "int" p) [e] [] pos) Á (if c then (1:Int) else 0):=by stop show aK (iM HM h d ah3 (aB ha aW a) (he:=a)) λY H Q ⟨H0,F,O,S,q⟩=>#[H0,F,O,S,λv H1 g f=>.inr #[c,by cases f;rfl,q _ H1 g rfl]]
end
structure GD where
 nx:aM->Prop
 rt:Bd->Prop
 bk:aM->Prop:=λ_=>False
 ct:aM->Prop:=λ_=>False
def Bd.X5(K:Ä)(H0:Hp)(F:Ç->Prop)(H:Hp)(v:V):Bd->Prop
 |@Bd.val _ _ b a=>Py.rp K (Nf H0 b) (off H F) v a
 |@Bd.own _ _ _ _=>False
 |@Bd.dpo _ _ _=>False
def tG(K:Ä)(U:aM)(D:GD):TS:=λb Y H=>∃H0 F O,eZ K H0 F O U Y H /\
 (∀U' Y' H' a,aI (off H O) (off H' a)->eZ K H0 F a U' Y' H'->D.nx U'->b.nx Y' H') /\
 (∀g v H',aI H0 H'->Bd.X5 K H0 F H' v g->D.rt g->b.rt v H') /\
 (∀U' Y' H' a,aI (off H O) (off H' a)->eZ K H0 F a U' Y' H'->D.bk U'->b.bk Y' H') /\
 (∀U' Y' H' a,aI (off H O) (off H' a)->eZ K H0 F a U' Y' H'->D.ct U'->b.ct Y' H')
@[irreducible] def S(X:Cx)(U:aM)(st:List Ð)(D:GD):Prop:=wu X st (tG X.K U D)
@[irreducible] def S1(X:Cx)(U:aM)(st:Ð)(D:GD):Prop:=PS X st (tG X.K U D)
def c7{st:Ð}{t t':TS}(h:PS X st t)(w:∀D Y H,t' D Y H->t D Y H):PS X st t':=λZB s Y H D I q=>h ZB s Y H D I (w _ _ _ q)
def mL{st:List Ð}{t t':TS}(h:wu X st t)(w:∀D Y H,t' D Y H->t D Y H):wu X st t':=λZB s Y H D I q=>h ZB s Y H D I (w _ _ _ q)
section
variable{X:Cx}{U:aM}{D:GD}{M β γ:Type}[Py M][Py β][Py γ]{e e1 e2 e3:Ô}{b b1 b2 b3:Bool}{pos:ï}{st:Ð}{rest body orelse:List Ð}
def aN(h:D.nx U):S X U [] D:=by stop show mL Oj λa Y H ⟨H0,F,O,Z,n,_⟩=>n U Y H O (aI.refl _) Z h
def IG{X:Cx}{st:List Ð}{ι:Type 1}{P:ι->Prop}{t:ι->TS}(h:∀i,P i->wu X st (t i)):wu X st (λD Y H=>∃i,P i/\t i D Y H):=λZB s Y H D I ⟨i,p,q⟩=>h i p ZB s Y H D I q
def c9(h:S1 X U st {D with nx:=λU'=>S X U' rest D}):S X U (st::rest) D:=by
 stop
  show mL (Kn h (IG (ι:=aM) (P:=λU'=>S X U' rest D) (t:=λU'=>tG X.K U' D) λ_ q=>q)) λg Y H ⟨H0,F,O,Z,n,r,bk,ct⟩ =>
    #[H0,F,O,Z,λU' Y' H' f sm e q=>#[U',q,H0,F,f,e,λΓ2 σ2 H2 b a c d=>n Γ2 σ2 H2 b (sm.trans a) c d,r,λΓ2 σ2 H2 b a c d=>bk Γ2 σ2 H2 b (sm.trans a) c d,
     λΓ2 σ2 H2 b a c d=>ct Γ2 σ2 H2 b (sm.trans a) c d],r,bk,ct]
def ao(i:Nat){a:M}{p:ï}(d:X.N.Nodup)(he:E X U e b a)(h:S X (U.set i (À (.val b a))) rest D)(hi:X.N[i]?=À x<|>zra)(g:Loc X.env.scope x<|>zrf)
  (j:î e (À .H) pos.line X.env=pure Â<|>zra) (f:X.fn x=Á\/X.env.scope.names.lookup x=À .local<|>zrf):S X U (.Assign [.Name x p] e pos::rest) D:=by stop show c9 (c7 (oR d hi g he j f) λl Y H ⟨H0,F,O,Z,n,_⟩=>#[H0,F,O,Z,λv H1 c k=>n _ _ H1 O (ah c) ((Z.go c).set k) h])
def k_{a:M}(he:E X U e b a)(h:S X U rest D)(d:î e none pos.line X.env=pure Â<|>zra):S X U (.Expr e pos::rest) D:=by stop show c9 (c7 (nQ he d) λf Y H ⟨H0,F,O,Z,n,_⟩=>#[H0,F,O,Z,λv H1 c g=>n U Y H1 O (ah c) (Z.go c) h])
def ay{a:M}(he:E X U e b a)(h:D.rt (.val b a)):S X U (.Return (À e) pos::rest) D:=by stop show c9 (c7 (Mg he) λf Y H ⟨H0,F,O,Z,n,r,_⟩=>#[H0,F,O,Z,λv H1 c d=>r (.val b a) v H1 ((Z.go c).same) (aw (kj Z.fo) d) h])
def Vw(d:T X U e c)(h1:c=Á->S X U body {D with nx:=λU'=>S X U' rest D})(h2:c=Â->S X U orelse {D with nx:=λU'=>S X U' rest D}):S X U (.If e body orelse pos::rest) D:=by
 stop
  cases c with
  |true=>show c9 (c7 (PL d (h1 rfl) yA) λf Y H ⟨H0,F,O,Z,n,r,bk,ct⟩=>#[H0,F,O,Z,λH1 b=>vp #[H0,F,O,Z.go b,λΓ2 σ2 H2 a sm=>n Γ2 σ2 H2 a ((ah b).trans sm),r,λΓ2 σ2 H2 a sm=>bk Γ2 σ2 H2 a ((ah b).trans sm),λΓ2 σ2 H2 a sm=>ct Γ2 σ2 H2 a ((ah b).trans sm)]])
  |false=>show c9 (c7 (PL d yA (h2 rfl)) λf Y H ⟨H0,F,O,Z,n,r,bk,ct⟩=>#[H0,F,O,Z,λH1 b=>zD #[H0,F,O,Z.go b,λΓ2 σ2 H2 a sm=>n Γ2 σ2 H2 a ((ah b).trans sm),r,λΓ2 σ2 H2 a sm=>bk Γ2 σ2 H2 a ((ah b).trans sm),λΓ2 σ2 H2 a sm=>ct Γ2 σ2 H2 a ((ah b).trans sm)]])
def aQ(a:T X U e c)(h1:c=Á->S X U body {D with nx:=λU'=>S X U' rest D})(h2:c=Â->S X U rest D):S X U (.If e body [] pos::rest) D:=by stop show Vw a h1 λz=>aN (h2 z)
def pO(X:Cx)(body:List Ð):TS:=λb Y H=>∃U',∃a,S X U' body a/\tG X.K U' a b Y H
def l7:wu X body (pO X body):=by stop show λZB s Y H a I ⟨U',b,t,q⟩=>(show wu X body (tG X.K U' b) from t) ZB s Y H a I q
def cR{ι:Type}(J:ι->aM->Prop)(μ:ι->Nat)(x:ι)(B:J x U)(z:∀i U',J i U'->∃c,T X U' e c/\(c=Á->S X U' body {D with nx:=λΓ2=>∃j,J j Γ2/\μ j<μ i,ct:=λΓ2=>∃j,J j Γ2/\μ j<μ i,bk:=λΓ2=>S X Γ2 rest D})/\(c=Â->S X U' rest D))
  (hp:ķ .F X.A X.env X.xe:=by show agk):S X U (.While e body [] pos::rest) D:=by
 stop
  show c9 (c7 (IB (tc:=λY H Q=>∃U',∃c,T X U' e c/\Qi X.K U' c Y H Q) (tb:=pO X body) hp
   (λZB s Y H Q I ⟨U',c,t,q⟩=>(show PT X e (Qi X.K U' c) from t) ZB s Y H Q I q) l7) λC Y H ⟨H0,F,O,Z,n,r,bk,ct⟩=>?_)
  show#[λm Y' H'=>∃i U' h,aI (off H O) (off H' h)/\eZ X.K H0 F h U' Y' H'/\J i U'/\m=μ i,#[_,x,U,O,aI.refl _,Z,B,rfl],?_];rintro m Y' H' ⟨i,U',h,sm,o,j,rfl⟩;let⟨c,t,p,k⟩:=z i U' j;show#[U',c,t,H0,F,h,o,λH1 g=>?_];cases c with
  |true =>
   show vp #[λσ2 H2=>∃d Γ2 b,aI (off H O) (off H2 b)/\eZ X.K H0 F b Γ2 σ2 H2/\J d Γ2/\μ d<μ i,λσ2 H2 ⟨d,Γ2,b,a,f,y,l⟩=>#[μ d,l,d,Γ2,b,a,f,y,rfl],U',_,p rfl,H0,F,h,o.go g,?_,r,?_,?_]
   .show λΓ2 σ2 H2 b a f ⟨d,v,u⟩=>#[d,Γ2,b,sm.trans ((ah g).trans a),f,v,u]
   .show λΓ2 σ2 H2 b a f q=>n Γ2 σ2 H2 b (sm.trans ((ah g).trans a)) f q
   .show λΓ2 σ2 H2 b a f ⟨d,v,u⟩=>#[d,Γ2,b,sm.trans ((ah g).trans a),f,v,u]
  |false=>show zD (n U' Y' H1 h (sm.trans (ah g)) (o.go g) (k rfl))
def GP(g:TG)(M:Type)[Py M](put:Bool->M->aM->aM)(tc:Nat->Prop)(K:Ä):Prop :=
 ∀(b:Bool) (a:M) (H0:Hp) (F O:Ç->Prop) (U:aM) (Y:St) (H:Hp) (v:V) (Q:St->Hp->Prop),eZ K H0 F O U Y H->Py.rp K (Nf H0 b) (off H O) v a ->
  (∀Y',eZ K H0 F O (put b a U) Y' H->Y'.length=Y.length->(∀j,¬tc j->Y'[j]?=Y[j]?)->Q Y' H)->g v Y H Q
def G(X:Cx)(tg:Ô)(g:TG)(M:Type)[Py M](put:Bool->M->aM->aM)(tc:Nat->Prop):Prop:=PG X tg g/\GP g M put tc X.K
def bp(i:Nat):GP (l_ i) M (λb a U=>U.set i (À (.val b a))) (·=i) K:=λb a H0 F O U Y H v Q Z r q=>q _ (Z.set r) (Ō ..) λj c=>get_set_ne c
def bW(i:Nat)(c:X.N.Nodup)(hi:X.N[i]?=À x<|>zra)(e:Loc X.env.scope x<|>zrf)(d:X.fn x=Á\/X.env.scope.names.lookup x=À .local<|>zrf):
  G X (.Name x pos) (l_ i) M (λb a U=>U.set i (À (.val b a))) (·=i):=#[ib c hi e d,bp i]
variable{δ:Type}[Py δ]{tg:Ô}{g:TG}{tc:Nat->Prop}
def dS{put:Bool->Int->aM->aM}{n:Int}{p ps:ï}(J:Nat->aM->Prop)(B:Gl X "range")(I:X.mg "range"=none)(o:G X tg g Int put tc)(he:E X U e b n)(h1:-(2^62)<=n)(h2:n<2^62)(L:J 0 U)
  (s:∀(i:Nat) U',i<↥n->J i U'->S X (put Á (i:Int) U') body {D with nx:=J (i+1),ct:=J (i+1),bk:=λΓ2=>S X Γ2 rest D}) (t:∀U',J ↥n U'->S X U' rest D)
  (y:X.calm=Á<|>zra) (hp:ķ .F X.A X.env X.xe:=by show agk) (u:Ã [e] X.env=[(Â,Õ e X.env)]<|>zra) (l:Ã [e] X.env=(Â,Õ e X.env)::Ã [] X.env<|>zra)
  (k:(∀x,Þ (.Call (.Name "range" p) [e] [] ps) X.env x=pure x)<|>zrc):S X U (.For tg (.Call (.Name "range" p) [e] [] ps) body [] pos::rest) D:=by
 stop
  show c9 (c7 (Ay hp y (yC B I (aB he aW l) u) o.1 (tb:=pO X body) l7 k) λz Y H ⟨H0,F,O,Z,nx,r,bk,ct⟩=>?_);show#[H0,F,O,Z,λv H1 m C=>#[n,by cases C;rfl,h1,h2,Hi (lo:=0) (n:=↥n) (g:=g) (tb:=pO X body) (D:=z) (λi Y' H'=>∃U' d,aI (off H O) (off H' d)/\eZ X.K H0 F d U' Y' H'/\J i U') #[U,O,ah m,Z.go m,L] ?_ ?_]]
  .rintro i Y' H' hi ⟨U',d,sm,h,j⟩;show o.2 Á (i:Int) H0 F d U' Y' H' _ _ h (by change V.int _=V.int _;rw[ahD]) λσ2 c _ _=>?_;show#[_,_,s i U' hi j,H0,F,d,c,?_,r,?_,?_]
   .show λΓ2 σ2 H2 f a c q=>#[Γ2,f,sm.trans a,c,q]
   .show λΓ2 σ2 H2 f a c q=>nx Γ2 σ2 H2 f (sm.trans a) c q
   .show λΓ2 σ2 H2 f a c q=>#[Γ2,f,sm.trans a,c,q]
  .rintro Y' H' ⟨U',d,sm,h,j⟩;show nx U' Y' H' d sm h (t U' j)
def tQ{put:Bool->Int->aM->aM}{n c:Int}{p ps:ï}(J:Nat->aM->Prop)(T:Gl X "range")(V:X.mg "range"=none)(B:G X tg g Int put tc)(u:E X U e1 b1 lo)(s:E X U e2 b2 n)(z:E X U e3 b3 c)(I:-(2^62)<=lo/\lo<2^62/\-(2^62)<=n/\n<2^62)(l:c≠0/\-1000<=c/\c<=1000)(W:J 0 U)
  (N:∀(i:Nat) U',i<↥(Ò lo n c)->J i U'->S X (put Á (lo+i*c:Int) U') body {D with nx:=J (i+1),ct:=J (i+1),bk:=λΓ2=>S X Γ2 rest D}) (P:∀U',J ↥(Ò lo n c) U'->S X U' rest D)
  (Q:X.calm=Á<|>zra) (hp:ķ .F X.A X.env X.xe:=by show agk)
  (f:Ã [e1,e2,e3] X.env=(Â,Õ e1 X.env)::Ã [e2,e3] X.env<|>zra) (t:Ã [e2,e3] X.env=(Â,Õ e2 X.env)::Ã [e3] X.env<|>zra) (k:Ã [e3] X.env=(Â,Õ e3 X.env)::Ã [] X.env<|>zra)
  (hpl:(ç ps (Ã [e2,e3] X.env)).any (·.1)=Â<|>zra) (o:(∀x,Þ (.Call (.Name "range" p) [e1,e2,e3] [] ps) X.env x=pure x)<|>zrc):S X U (.For tg (.Call (.Name "range" p) [e1,e2,e3] [] ps) body [] pos::rest) D:=by
 stop
  show c9 (c7 (Ay hp Q (GO T V (aB u (aB s (aB z aW k) t) f) f hpl) B.1 (tb:=pO X body) l7 o) λR Y H ⟨H0,F,O,Z,nx,r,bk,ct⟩=>?_);show#[H0,F,O,Z,λv H1 h Γ=>#[H0,F,O,Z.go h,λv' H2 y L=>#[H0,F,O,Z.go (h.trans y),λσ H3 C α=>#[lo,n,c,by cases Γ;cases L;cases α;rfl,I,l,D8 (lo:=lo) (c:=c) (n:=↥(Ò lo n c)) (g:=g) (tb:=pO X body) (D:=R) (λi Y' H'=>∃U' d,aI (off H O) (off H' d)/\eZ X.K H0 F d U' Y' H'/\J i U') #[U,O,ah (h.trans (y.trans C)),Z.go (h.trans (y.trans C)),W] ?_ ?_]]]]
  .rintro i Y' H' hi ⟨U',d,sm,m,j⟩;show B.2 Á (lo+i*c:Int) H0 F d U' Y' H' _ _ m rfl λσ2 b _ _=>?_;show#[_,_,N i U' hi j,H0,F,d,b,?_,r,?_,?_]
   .show λΓ2 σ2 H2 e a b q=>#[Γ2,e,sm.trans a,b,q]
   .show λΓ2 σ2 H2 e a b q=>nx Γ2 σ2 H2 e (sm.trans a) b q
   .show λΓ2 σ2 H2 e a b q=>#[Γ2,e,sm.trans a,b,q]
  .rintro Y' H' ⟨U',d,sm,m,j⟩;show nx U' Y' H' d sm m (P U' j)
def jO{put:Bool->M->aM->aM}{xs:List M}(J:Nat->aM->Prop)(n:G X tg g M put tc)(he:E X U e b xs)(C:J 0 U)
  (t:∀(i:Nat) (a:M) U',xs[i]?=À a->J i U'->S X (put b a U') body {D with nx:=J (i+1),ct:=J (i+1),bk:=λΓ2=>S X Γ2 rest D}) (u:∀U',J xs.length U'->S X U' rest D)
  (y:X.calm=Á<|>zra) (hp:ķ .F X.A X.env X.xe:=by show agk)
  (m:(∀x,Þ e X.env x=pure x)<|>zrc):S X U (.For tg e body [] pos::rest) D:=by
 stop
  show c9 (c7 (Ay hp y (Gn he) n.1 (tb:=pO X body) l7 m) λz Y H ⟨H0,F,O,Z,nx,r,bk,ct⟩=>?_);show#[H0,F,O,Z,λv H1 l B=>?_];let⟨p,vs,e,o,nn,s⟩:=B;show#[p,e,#[vs,(au _ _).seq o],JS (K:=X.K) (a:=p) (xs:=vs) (g:=g) (tb:=pO X body) (D:=z) (λi Y' H'=>∃U' d,aI (off H1 O) (off H' d)/\eZ X.K H0 F d U' Y' H'/\J i U') #[U,O,aI.refl _,Z.go l,C] ?_ ?_ ?_]
  .rintro i Y' H' hi ⟨U',d,sm,k,j⟩;show(au _ _).seq (sm.seq o)
  .rintro i x Y' H' hi ⟨U',d,sm,k,j⟩;let⟨a,h1,h2⟩:=nC s hi;show n.2 b a H0 F d U' Y' H' _ _ k (aw sm h2) λσ2 f _ _=>?_;show#[_,_,t i a U' h1 j,H0,F,d,f,?_,r,?_,?_]
   .show λΓ2 σ2 H2 h c f q=>#[Γ2,h,sm.trans c,f,q]
   .show λΓ2 σ2 H2 h c f q=>nx Γ2 σ2 H2 h ((ah l).trans (sm.trans c)) f q
   .show λΓ2 σ2 H2 h c f q=>#[Γ2,h,sm.trans c,f,q]
  .rintro Y' H' ⟨U',d,sm,k,j⟩;rw[br s] at j;show nx U' Y' H' d ((ah l).trans sm) k (u U' j)
end
structure aG(P:Ó)(w:Ü)(K:Ä)(mg:Í->Option Å)(base:á)(k:Nat)(name:Í)(ps:List Í)(sp:Sp):Prop where
 ex:∃(f:Ç) (fd:ð),⇑fH qZ k f fd ps sp/\Binds K fd ps []/\Ď K (.ref f)=Á/\mg name=À (.ref f)
def qA(H:Hp)(O:Ç->Prop):Prop:=∀p,O p->∃xs:Mt,H p=À (mo xs)
def cj{M β:Type}[Py M][Py β](K:Ä)(pre:M->Prop)(b:Bool)(f:M->β):Sp:=λvs H Q _=>∃O v a,qA H O/\vs=[v]/\Py.rp K .any (off H O) v a/\pre a/\∀r H',aI H H'->Py.rp K (Nf H b) (off H' O) r (f a)->Q r H'
def bw{M β γ:Type}[Py M][Py β][Py γ](K:Ä)(pre:M->β->Prop)(b:Bool)(f:M->β->γ):Sp:=λvs H Q _=>∃O v w a c,qA H O/\vs=[v,w]/\Py.rp K .any (off H O) v a/\Py.rp K .any (off H O) w c/\pre a c/\∀r H',aI H H'->Py.rp K (Nf H b) (off H' O) r (f a c)->Q r H'
def tZ{M β γ δ:Type}[Py M][Py β][Py γ][Py δ](K:Ä)(pre:M->β->γ->Prop)(b:Bool)(f:M->β->γ->δ):Sp:=λvs H Q _=>∃O v w x a c d,qA H O/\vs=[v,w,x]/\Py.rp K .any (off H O) v a/\Py.rp K .any (off H O) w c/\Py.rp K .any (off H O) x d/\pre a c d/\∀r H',aI H H'->Py.rp K (Nf H b) (off H' O) r (f a c d)->Q r H'
def EL{M β γ δ ε:Type}[Py M][Py β][Py γ][Py δ][Py ε](K:Ä)(pre:M->β->γ->δ->Prop)(b:Bool)(f:M->β->γ->δ->ε):Sp:=λvs H Q _=>∃O v w x y a c d g,qA H O/\vs=[v,w,x,y]/\Py.rp K .any (off H O) v a/\Py.rp K .any (off H O) w c/\Py.rp K .any (off H O) x d/\Py.rp K .any (off H O) y g/\pre a c d g/\∀r H',aI H H'->Py.rp K (Nf H b) (off H' O) r (f a c d g)->Q r H'
def a7:∀p xs,(Nf H0 b).has H p xs->Nn.any.has H p xs:=λ_ _ _=>É
section
variable{X:Cx}{U:aM}{D:GD}{M β γ δ ε:Type}[Py M][Py β][Py γ][Py δ][Py ε]{e e1 e2 e3 e4:Ô}{b b1 b2 b3 b4:Bool}{p pos:ï}{k:Nat}{name:Í}{ps:List Í}
def aC{pre:M->Prop}{f:M->β}{a:M}(C:aG X.prog X.w X.K X.mg X.base k name ps (cj X.K pre b f))(j:dN k X.A)(h:Gl X name)(h1:E X U e1 b1 a)(hp:pre a)
  (c:Ã [e1] X.env=(Â,Õ e1 X.env)::Ã [] X.env<|>zra) (d:(name==("__debug__":Í))=Â<|>zrb) (hpl:(ç pos (Ã [] X.env)).any (·.1)=Â<|>zra):
  E X U (.Call (.Name name p) [e1] [] pos) b (f a):=by
 stop
  let⟨l,fd,F,B,kp,m⟩:=C.ex
  show aK (d_ F j h m kp B .nil jC (aB h1 aW c) d c hpl) λY H Q ⟨H0,F,O,S,q⟩=>#[H0,F,O,S,λg H1 e i =>
   #[O,g,a,(S.go e).own,rfl,a_ a7 i,hp,λr H' s' z=>q r H' (e.trans s') ((S.go e).back z)]]
def av{pre:M->β->Prop}{f:M->β->γ}{a:M}{c:β}(C:aG X.prog X.w X.K X.mg X.base k name ps (bw X.K pre b f))(t:dN k X.A)(o:Gl X name)(h1:E X U e1 b1 a)(h2:E X U e2 b2 c)(hp:pre a c)
  (d:Ã [e1,e2] X.env=(Â,Õ e1 X.env)::Ã [e2] X.env<|>zra) (i:Ã [e2] X.env=(Â,Õ e2 X.env)::Ã [] X.env<|>zra) (h:(name==("__debug__":Í))=Â<|>zrb) (hpl:(ç pos (Ã [e2] X.env)).any (·.1)=Â<|>zra):
  E X U (.Call (.Name name p) [e1,e2] [] pos) b (f a c):=by
 stop
  let⟨u,fd,F,B,kp,m⟩:=C.ex
  show aK (d_ F t o m kp B .nil jC (aB h1 (aB h2 aW i) d) h d hpl) λY H Q ⟨H0,F,O,S,q⟩=>#[H0,F,O,S,λn H1 e s=>#[H0,F,O,S.go e,λl H2 g j =>
   #[O,n,l,a,c,(S.go (e.trans g)).own,rfl,a_ a7 (aw (ah g) s),a_ a7 j,hp,λr H' s' z=>q r H' (e.trans (g.trans s')) ((S.go (e.trans g)).back z)]]]
def cP{pre:M->β->γ->Prop}{f:M->β->γ->δ}{a:M}{c:β}{d:γ}(C:aG X.prog X.w X.K X.mg X.base k name ps (tZ X.K pre b f))(G:dN k X.A)(y:Gl X name)(h1:E X U e1 b1 a)(h2:E X U e2 b2 c)(s:E X U e3 b3 d)(hp:pre a c d)
  (h:Ã [e1,e2,e3] X.env=(Â,Õ e1 X.env)::Ã [e2,e3] X.env<|>zra) (n:Ã [e2,e3] X.env=(Â,Õ e2 X.env)::Ã [e3] X.env<|>zra) (l:Ã [e3] X.env=(Â,Õ e3 X.env)::Ã [] X.env<|>zra)
  (j:(name==("__debug__":Í))=Â<|>zrb) (hpl:(ç pos (Ã [e2,e3] X.env)).any (·.1)=Â<|>zra):
  E X U (.Call (.Name name p) [e1,e2,e3] [] pos) b (f a c d):=by
 stop
  let⟨J,fd,F,B,kp,m⟩:=C.ex
  show aK (d_ F G y m kp B .nil jC (aB h1 (aB h2 (aB s aW l) n) h) j h hpl) λY H Q ⟨H0,F,O,S,q⟩=>#[H0,F,O,S,λx H1 e D=>#[H0,F,O,S.go e,λv H2 i o=>#[H0,F,O,S.go (e.trans i),λu I g t =>
   #[O,x,v,u,a,c,d,(S.go (e.trans (i.trans g))).own,rfl,a_ a7 (aw ((ah i).trans (ah g)) D),a_ a7 (aw (ah g) o),a_ a7 t,hp,λr H' s' z=>q r H' (e.trans (i.trans (g.trans s'))) ((S.go (e.trans (i.trans g))).back z)]]]]
def qG{pre:M->β->γ->δ->Prop}{f:M->β->γ->δ->ε}{a:M}{c:β}{d:γ}{g:δ}(C:aG X.prog X.w X.K X.mg X.base k name ps (EL X.K pre b f))(N:dN k X.A)(L:Gl X name)(h1:E X U e1 b1 a)(h2:E X U e2 b2 c)(v:E X U e3 b3 d)(D:E X U e4 b4 g)(hp:pre a c d g)
  (l:Ã [e1,e2,e3,e4] X.env=(Â,Õ e1 X.env)::Ã [e2,e3,e4] X.env<|>zra) (t:Ã [e2,e3,e4] X.env=(Â,Õ e2 X.env)::Ã [e3,e4] X.env<|>zra) (o:Ã [e3,e4] X.env=(Â,Õ e3 X.env)::Ã [e4] X.env<|>zra) (s:Ã [e4] X.env=(Â,Õ e4 X.env)::Ã [] X.env<|>zra)
  (n:(name==("__debug__":Í))=Â<|>zrb) (hpl:(ç pos (Ã [e2,e3,e4] X.env)).any (·.1)=Â<|>zra):
  E X U (.Call (.Name name p) [e1,e2,e3,e4] [] pos) b (f a c d g):=by
 stop
  let⟨T,fd,F,B,kp,m⟩:=C.ex
  show aK (d_ F N L m kp B .nil jC (aB h1 (aB h2 (aB v (aB D aW s) o) t) l) n l hpl) λY H Q ⟨H0,F,O,S,q⟩=>#[H0,F,O,S,λJ H1 e α=>#[H0,F,O,S.go e,λI H2 j u=>#[H0,F,O,S.go (e.trans j),λG P h x=>#[H0,F,O,S.go (e.trans (j.trans h)),λv4 R i y =>
   #[O,J,I,G,v4,a,c,d,g,(S.go (e.trans (j.trans (h.trans i)))).own,rfl,a_ a7 (aw ((ah j).trans ((ah h).trans (ah i))) α),a_ a7 (aw ((ah h).trans (ah i)) u),a_ a7 (aw (ah i) x),a_ a7 y,hp,λr H' s' z=>q r H' (e.trans (j.trans (h.trans (i.trans s')))) ((S.go (e.trans (j.trans (h.trans i)))).back z)]]]]]
end
noncomputable def Ux(N:List Í)(gs:List Bd):aM:=gs.map À++Ë (N.length-gs.length) none
noncomputable def RT{M:Type}[Py M](b:Bool)(a:M):GD:={nx:=λ_=>False,rt:=λg=>g=.val b a}
inductive Args(K:Ä)(H:Hp):List V->List Bd->Prop
 |nil:Args K H [] []
 |cons {M:Type} [Py M] {v:V} {a:M} {vs:List V} {gs:List Bd}:Py.rp K .any H v a->Args K H vs gs->Args K H (v::vs) (.val Â a::gs)
def Args.len{K:Ä}{H:Hp}:∀{vs:List V} {gs:List Bd},Args K H vs gs->vs.length=gs.length
 |_,_,.nil=>rfl
 |_,_,@Args.cons _ _ _ _ _ _ _ _ _ t=>congrArg (·+1) t.len
theorem Args.get{K:Ä}{H0 H:Hp}{O:Ç->Prop}:∀{vs:List V} {gs:List Bd} {i:Nat} {g:Bd},Args K (off H O) vs gs->gs[i]?=À g->∃v,vs[i]?=À v/\g.ok K H0 O H v/\¬g.gR
 |_,_,_,_,.nil,e=>by simp at e
 |_,_,0,_,@Args.cons _ _ _ _ _ _ _ _ h _,e=>by simp at e;subst e;show#[_,rfl,h,λz=>z]
 |_,_,i+1,_,@Args.cons _ _ _ _ _ _ _ _ _ t,e=>by
  let⟨a,h1,h2⟩:=Args.get (i:=i) t ↑e;show#[a,↑h1,h2]
def sL{O:Ç->Prop}{N:List Í}{vs:List V}{gs:List Bd}(b:qA H O)(h:Args K (off H O) vs gs):eZ K H O O (Ux N gs) (start N vs) H:=by
 let c:=h.len
 let a:∀(i:Nat) (g:Bd),(Ux N gs)[i]?=À (À g)->gs[i]?=À g:=λi g e=>by
  unfold Ux at e;by_cases hi:i<(gs.map À).length
  .rw[aeF hi,Ĵ] at e;cases q:gs[i]? with
   |none=>rw[q] at e;cases e
   |some g'=>rw[q] at e;simpa using e
  .rw[aey .b] at e;let:=Ĭ e;rw[List.mem_replicate] at this;cases this.2
 show#[aI.refl _,λ_ z=>z,b,b,by simp[Ux,start,c],λi g e _=>?_,#[λ_ _=>False,λ_ _ _ z=>z.elim,λ_ _ z=>z.elim,λi g e o=>?_]]
 .let⟨v,h1,h2,_⟩:=Args.get (H0:=H) h (a i g e);show#[v,?_,h2];unfold start
  let hi:i<(vs.map À).length:=by
   rw[ą];show(adk.mp h1).1
  rw[aeF hi,Ĵ,h1];rfl
 .let⟨_,_,_,no⟩:=Args.get (H0:=H) h (a i g e);show absurd o no
section
variable{P:Ó}{w:Ü}{K:Ä}{mg:Í->Option Å}{base:á}{N ps:List Í}{k:Nat}{x qual:Í}{st:Ð}{f:Ç}{fd:ð}
abbrev cx(P:Ó)(w:Ü)(K:Ä)(mg:Í->Option Å)(base:á)(N:List Í)(qual:Í)(st:Ð)(f:Ç)(a:Å)(A:è)(outer:List Ŗ)(s:Æ)(H:Hp)(E:XK):Cx:=(xK qZ P w K mg base N qual (af st) f a A outer s H E).Pd
def Body(P:Ó)(w:Ü)(K:Ä)(mg:Í->Option Å)(base:á)(N:List Í)(qual:Í)(st:Ð)(f:Ç)(k:Nat)(gs:List Bd)(D:GD):Prop :=
 ∀(a:Å) (A:è) (outer:List Ŗ) (s:Æ) (H:Hp) (E:XK),dN k (A.deeper (ħ qual (af st) s.heap.objs.size f a))->S (⇑cx N qual st f a A outer s H E) (Ux N gs) (b9 st) D
def qw{gs:List Bd}{vs:List V}{O:Ç->Prop}{M:Type}[Py M]{a:M}{Q:VK}{c:Å}{A:è}{outer:List Ŗ}{E:XK}(B:⇑Body N qual st f k gs (RT b a))(i:dN k (A.deeper (ħ qual (af st) s.heap.objs.size f c)))
  (d:qA H O) (h:Args K (off H O) vs gs) (q:∀r H',aI H H'->Py.rp K (Nf H b) (off H' O) r a->Q r H'):
  ∃t,wu (xK qZ P w K mg base N qual (af st) f c A outer s H E).Pd (b9 st) t/\t {nx:=λ_ H'=>Q .non H',rt:=Q} (start N vs) H:=by stop show#[_,B c A outer s H E i,H,O,O,sL d h,λ_ _ _ _ _ _ z=>z.elim,λg v H' sm z e=>?_,λ_ _ _ _ _ _ z=>z.elim,λ_ _ _ _ _ _ z=>z.elim];let j:g=.val b a:=e;subst j;show q v H' sm z
def nH{M β:Type}[Py M][Py β]{pre:M->Prop}{g:M->β}(F:ve K x qual st f fd)(e:ak N ps (af st))(i:ps.length=1)(B:∀a,pre a->⇑Body N qual st f k [.val Â a] (RT b (g a))):
  fH P w K mg base qZ (k+1) f fd ps (cj K pre b g):=by
 stop
  show F.ok e (λvs H Q E h=>?_) λc A outer s H vs Q E j h=>?_
  .let⟨O,v,a,_,rfl,_⟩:=h;rw[i];rfl
  .let⟨O,v,a,d,rfl,r,hp,q⟩:=h;show qw (B a hp) j d (.cons r .nil) q
def jm{M β γ:Type}[Py M][Py β][Py γ]{pre:M->β->Prop}{g:M->β->γ}(F:ve K x qual st f fd)(i:ak N ps (af st))(m:ps.length=2)(B:∀a c,pre a c->⇑Body N qual st f k [.val Â a,.val Â c] (RT b (g a c))):
  fH P w K mg base qZ (k+1) f fd ps (bw K pre b g):=by
 stop
  show F.ok i (λvs H Q E h=>?_) λl A outer s H vs Q E n h=>?_
  .let⟨O,v,j,a,c,_,rfl,_⟩:=h;rw[m];rfl
  .let⟨O,v,j,a,c,e,rfl,r,d,hp,q⟩:=h;show qw (B a c hp) n e (.cons r (.cons d .nil)) q
def Mv{M β γ δ:Type}[Py M][Py β][Py γ][Py δ]{pre:M->β->γ->Prop}{g:M->β->γ->δ}(F:ve K x qual st f fd)(l:ak N ps (af st))(p:ps.length=3)(B:∀a c d,pre a c d->⇑Body N qual st f k [.val Â a,.val Â c,.val Â d] (RT b (g a c d))):
  fH P w K mg base qZ (k+1) f fd ps (tZ K pre b g):=by
 stop
  show F.ok l (λvs H Q E h=>?_) λo A outer s H vs Q E t h=>?_
  .let⟨O,v,n,m,a,c,d,_,rfl,_⟩:=h;rw[p];rfl
  .let⟨O,v,n,m,a,c,d,j,rfl,r,e,i,hp,q⟩:=h;show qw (B a c d hp) t j (.cons r (.cons e (.cons i .nil))) q
def U9{M β γ δ ε:Type}[Py M][Py β][Py γ][Py δ][Py ε]{pre:M->β->γ->δ->Prop}{g:M->β->γ->δ->ε}(F:ve K x qual st f fd)(m:ak N ps (af st))(t:ps.length=4)(B:∀a c d y,pre a c d y->⇑Body N qual st f k [.val Â a,.val Â c,.val Â d,.val Â y] (RT b (g a c d y))):
  fH P w K mg base qZ (k+1) f fd ps (EL K pre b g):=by
 stop
  show F.ok m (λvs H Q E h=>?_) λp A outer s H vs Q E u h=>?_
  .let⟨O,v,o,n,v4,a,c,d,y,_,rfl,_⟩:=h;rw[t];rfl
  .let⟨O,v,o,n,v4,a,c,d,y,l,rfl,r,e,j,i,hp,q⟩:=h;show qw (B a c d y hp) u l (.cons r (.cons e (.cons j (.cons i .nil)))) q
variable{X:Cx}{U:aM}{M β:Type}[Py M][Py β]{e:Ô}{b:Bool}{p p2 pos:ï}
def Cd{a:M}{T:Í}{d:String}(t:Gl X "isinstance")(B:X.mg "isinstance"=none)(f:Gl X T)(i:X.mg T=none)(x:ė T=À (.type d))(ha:E X U e b a)
  (C:∀(ZB:List (Ç×ā)) (s:Æ) (Y:St) (H:Hp) (N:Nn) (v:V) (u:Å) (Q:Å->Æ->Prop),Inv X ZB Y H s->Py.rp X.K N H v a->RelV v u->(∀tk,Q (.bool c) {s with toks:=tk})->Î .F X.A (call (.builtin "isinstance") [u,.type d]) Q X.xe s)
  (j:Ã [e,.Name T p2] X.env=(Â,Õ e X.env)::Ã [.Name T p2] X.env<|>zra) (g:Ã [.Name T p2] X.env=(Â,Õ (.Name T p2) X.env)::Ã [] X.env<|>zra) (hpl:(ç pos (Ã [.Name T p2] X.env)).any (·.1)=Â<|>zra)
  (D:T≠"__name__"<|>zrb) (m:(T==("__debug__":Í))=Â<|>zrb):
  E X U (.Call (.Name "isinstance" p) [e,.Name T p2] [] pos) Á c:=by
 stop
  let n:h9 X (.builtin "isinstance") (λxs H Q=>∃N v,xs=[v,.ty d]/\Py.rp X.K N H v a/\Q (.bl c) H):=by
   intro ZB s Y H xs us Q I r h;let⟨N,v,rfl,o,q⟩:=h;let⟨u,G,rfl,z,l⟩:=vals2 r;cases l;show C ZB s Y H N v u _ I o z λtk=>#[.bl c,H,I.tok _,rfl,q]
  show aK (du n t B boot_isinstance (aB ha (aB (MU (v:=.ty d) f i x rfl D m) aW g) j) (he:=j) (hpl:=hpl)) λY H Q ⟨H0,F,O,S,q⟩=>#[H0,F,O,S,λv H1 k y=>#[_,v,rfl,aw (au _ _) y,q _ H1 k rfl]]
def SW(f:Gl X "isinstance")(g:X.mg "isinstance"=none)(a:Gl X "int")(c:X.mg "int"=none)(ha:E X U e b i)
  (h:Ã [e,.Name "int" p2] X.env=(Â,Õ e X.env)::Ã [.Name "int" p2] X.env<|>zra):E X U (.Call (.Name "isinstance" p) [e,.Name "int" p2] [] pos) Á Á:=by
 stop
  show Cd f g a c ah3 ha (λZB s Y H N v u Q I d r q=>by
    cases d;let⟨t,rfl⟩:=r
    show IsiPair.int_int (q s.toks)) h
def QI(f:Gl X "isinstance")(g:X.mg "isinstance"=none)(a:Gl X "bool")(c:X.mg "bool"=none)(ha:E X U e b i)
  (h:Ã [e,.Name "bool" p2] X.env=(Â,Õ e X.env)::Ã [.Name "bool" p2] X.env<|>zra):E X U (.Call (.Name "isinstance" p) [e,.Name "bool" p2] [] pos) Á Â:=by
 stop
  show Cd f g a c PyProof.Rows.boot_bool ha (λZB s Y H N v u Q I d r q=>by
    cases d;let⟨t,rfl⟩:=r
    show IsiPair.int_bool (q (s.toks+1))) h
def DI{xs:List M}(g:Gl X "isinstance")(i:X.mg "isinstance"=none)(c:Gl X "list")(d:X.mg "list"=none)(ha:E X U e b xs)
  (j:Ã [e,.Name "list" p2] X.env=(Â,Õ e X.env)::Ã [.Name "list" p2] X.env<|>zra):E X U (.Call (.Name "isinstance" p) [e,.Name "list" p2] [] pos) Á Á:=by
 stop
  show Cd g i c d afx ha (λZB s Y H N v u Q I f r q=>by
    let⟨a,ys,rfl,h,_,_⟩:=f;cases r;let⟨Y0,l,pl,_⟩:=I.list h;let⟨o,h1,h2,n,k⟩:=pl.isList
    show call_isinstance (isinstance_true (Tx:="list") F.isi_meta_list AutoSeq1.sub_list_list) #[#[o,h1,h2],q s.toks]) j
end
def Sm(n:Nat)(i:Int):Prop:=i.natAbs<2^n
def Sm.bits(h:Sm n i):Ê i<=n:=by
 unfold Ê;split
 .show Ņ _
 .rename_i hi
  let a:i.natAbs≠0:=by
   intro z;apply hi;simp;lia
  let:=(agg a).mpr h;lia
def Sm.le(h:Sm m i)(l:m<=n):Sm n i:=Ś h (aep .a l)
def Sm.ok(h:Sm m i)(h':Sm n j)(l:m<=1048576<|>zrb)(a:n<=1048576<|>zrb):ĩ i j:=IntMulOk.of_bits (ĭ h.bits (ĭ l .a)) (ĭ h'.bits (ĭ a .a))
def Sm.mul(h:Sm m i)(h':Sm n j):Sm (m+n) (i*j):=by
 unfold Sm at *;rw[ļ,ϸ];obtain z|z:=agq j.natAbs
 .rw[z,Nat.mul_zero];show Nat.mul_pos (agl _) (agl _)
 .show Nat.mul_lt_mul_of_lt_of_le h (ŋ h') (agl _)
def Sm.add(h:Sm m i)(h':Sm n j):Sm (max m n+1) (i+j):=by
 let h1:i.natAbs<2^max m n:=Ś h (aep .a (Nat.le_max_left _ _));let h2:j.natAbs<2^max m n:=Ś h' (aep .a (Nat.le_max_right _ _));let a:=Int.natAbs_add_le i j;unfold Sm;rw[afA];lia
def Sm.neg(h:Sm m i):Sm m (-i):=by unfold Sm at *;rwa[Int.natAbs_neg]
def Sm.of_le(h:i.natAbs<=j.natAbs)(h':Sm n j):Sm n i:=Η h h'
def Sm.div(h:Sm n j)(a:j≠0)(l:n<=9000<|>zrb):FY i j:=#[a,(agg .b).mpr (Ś h (aep .a l))]
def mulL(h1:-(2^64)<i)(h2:i<2^64):ĩ i j:=NN.ok (.inl #[h1,h2])
def mulR(h1:-(2^64)<j)(h2:j<2^64):ĩ i j:=NN.ok (.inr #[h1,h2])
def AR(h:j≠0<|>zrb)(h2:j.natAbs.log2<9000<|>zrb):FY i j:=#[h,h2]
def XT(h:0<=j<|>zrb)(h2:j<=1000000<|>zrb)(a:i.natAbs<2^64<|>zrb):LS i j:=#[h,h2,a]
def Bx{k:Nat}{A:è}(a:dN k A):A.units+60<Α:=by let:=a.un;lia
structure Bu(mg:Í->Option Å):Prop where
 abs:mg "abs"=none
 len:mg "len"=none
 min:mg "min"=none
 max:mg "max"=none
 range:mg "range"=none
 isinstance:mg "isinstance"=none
 int:mg "int"=none
 bool:mg "bool"=none
 list:mg "list"=none
 tuple:mg "tuple"=none
 sum:mg "sum"=none
 all:mg "all"=none
 zip:mg "zip"=none
 enumerate:mg "enumerate"=none
 any:mg "any"=none
 sorted:mg "sorted"=none
 set:mg "set"=none
 str:mg "str"=none
 reversed:mg "reversed"=none
def eM{a b:Int}(h:0<b):0<=a.fmod b/\a.fmod b<b:=#[agI a h,ahk a h]
def Df(K:Ä)(x:Í)(st:Ð):Prop:=∃(f:Ç) (fd:ð),Ö K Ì x=À (À (.ref f))/\ve K x x st f fd
def Df.mk{st:Ð}{f:Ç}{e:Å}{i g:Option Ç}{d:Array (Option Å)}{kV doc h b ct:Å}(a:Ö K Ì x=À (À (.ref f)))
  (l:K.lookup f=À #[e,i,.func (é x x (eP st) (b9 st) (af st) .none kV doc h g b ct),d]) (c:Ĳ K b x=Á) (k:Ď K (.ref f)=Á):Df K x st:=#[f,_,a,Qu l c k]
def Vg{h:á}{mg:Í->Option Å}(X:K.In h)(G:h.Ns Ì mg)(p:Ö K Ì "abs"=À none)(t:Ö K Ì "len"=À none)(m:Ö K Ì "min"=À none)(s:Ö K Ì "max"=À none)
  (r:Ö K Ì "range"=À none) (l:Ö K Ì "isinstance"=À none) (o:Ö K Ì "int"=À none) (q:Ö K Ì "bool"=À none) (n:Ö K Ì "list"=À none) (k:Ö K Ì "tuple"=À none)
  (f:Ö K Ì "sum"=À none) (e:Ö K Ì "all"=À none) (j:Ö K Ì "zip"=À none) (a:Ö K Ì "enumerate"=À none) (b:Ö K Ì "any"=À none) (i:Ö K Ì "sorted"=À none) (d:Ö K Ì "set"=À none) (g:Ö K Ì "str"=À none) (c:Ö K Ì "reversed"=À none):Bu mg :=
 #[Ų X G p,Ų X G t,Ų X G m,Ų X G s,Ų X G r,Ų X G l,Ų X G o,Ų X G q,Ų X G n,Ų X G k,Ų X G f,Ų X G e,Ų X G j,Ų X G a,Ų X G b,Ų X G i,Ų X G d,Ų X G g,Ų X G c]
section
variable{P:Ó}{w:Ü}{K:Ä}{mg:Í->Option Å}{base h:á}{x:Í}{st:Ð}{N ps:List Í}{k:Nat}
def Df.OT{sp:Sp}(D:Df K x st)(X:K.In h)(G:h.Ns Ì mg)(c:∀(kV doc e:Å) (d:Option Ç) (b ct:Å) (us:List Å),us.length=ps.length->Ķ (é x x (eP st) (b9 st) (af st) .none kV doc e d b ct) #[us,[]]=pure (ps.zip us))
  (ok:∀f fd,ve K x x st f fd->⇑fH qZ k f fd ps sp):⇑aG k x ps sp:=by
 let⟨f,fd,a,F⟩:=D;show#[f,fd,ok f fd F,F.binds c,F.kp,aho X G a]
def B2(K:Ä):Sp:=cj K (fun(ns:.L)=>ns.length<=63) Á (λ_=>Á)
theorem Ag{K:Ä}{N:Nn}{H:Hp}:∀ns:.L,Ý (λx (b:Int)=>Py.rp K N H x b) (ns.map V.int) ns
 |[]=>.nil
 |_::r=>.cons rfl (Ag r)
def G4(K:Ä)(H:Hp)(a:Ç)(ns:.L)(b:ns.length<=63)(c:cS K H a (ns.map V.int)):B2 K [.ref a] H (λv _=>v=.bl Á) λ_ _ _=>False :=
 #[λ_=>False,.ref a,ns,λ_ z=>z.elim,rfl,by rw[Oq];show#[a,_,rfl,c,É,Ag ns],b,λr H' _ z=>z]
def Nk{j:Ç}{i:Ó}(D:Df K "law" st)(X:K.In h)(G:h.Ns Ì mg)(c:mg "law"=À (.ref j))
  (m:∀(kV doc g:Å) (d:Option Ç) (b ct:Å) (s:Æ) (u:Å),Ŋ s (é "law" "law" (eP st) (b9 st) (af st) .none kV doc g d b ct) #[[u],[]] [(y,u)])
  (ok:∀base,K.In base->base.Ns Ì mg->∀f fd,ve K "law" "law" st f fd->fH i w K mg base qZ k f fd [y] (B2 K)):
  ∃fd:ð,(∀(s:Æ) (u:Å),Ŋ s fd #[[u],[]] [(y,u)])/\∀base:á,K.In base->base.Ns Ì mg->fH i w K mg base qZ k j fd [y] (B2 K):=by
 let⟨f,fd,a,F⟩:=D;let e:=c.symm.trans (aho X G a);cases e;show#[fd,?_,λbase l o=>ok base l o _ fd F];let⟨r,q,kV,doc,g,d,b,ct,p,rfl,lk,n⟩:=F.ex;show m kV doc g d b ct
end
def Vr{M:Type}[Py M](K:Ä)(H0:Hp)(O:Ç->Prop)(b:Bool)(as:List M)(J:It)(H1:Hp):Prop :=
 ∀(H':Hp) (d:Ç->Prop),qA H' d->aI (off H1 O) (off H' d)->(∀(i:Nat) (a:M),as[i]?=À a->J.go i H'/\∀x c,J.yld i H' x c->aI H' c/\Py.rp K (Nf H0 b) (off c d) x a)/\J.stop as.length H'
def EI{M:Type}[Py M](X:Cx)(U:aM)(tg iter:Ô)(b:Bool)(as:List M):Prop:=∃wi,PI X tg iter wi /\
 ∀(Y:St) (H H0:Hp) (F O:Ç->Prop) (R:It->Hp->Prop),eZ X.K H0 F O U Y H->(∀J H1,aI H H1->Vr X.K H0 O b as J H1->R J H1)->wi Y H R
noncomputable def jc(lo c:Int)(n:Nat):.L:=(Ø n).map λi:Nat=>lo+(i:Int)*c
def mU{c:Int}{i:Nat}{a:Int}(h:(jc lo c n)[i]?=À a):i<n/\a=lo+(i:Int)*c:=by
 unfold jc at h;rw[Ĵ] at h;by_cases hi:i<n
 .rw[agi hi] at h;show#[hi,(ĳ h).symm]
 .rw[Ϲ (by rw[afH];lia)] at h;cases h
def fR(lo c:Int)(n:Nat):(jc lo c n).length=n:=by unfold jc;rw[ą,afH]
section
variable{X:Cx}{U:aM}{M β:Type}[Py M][Py β]{e e1 e2 e3 tg:Ô}{b b1 b2 b3:Bool}
def bA{xs:List M}(he:E X U e b xs):EI X U tg e b xs:=by
 stop
  show#[_,Gn he,λY H H0 F O R Z q=>#[H0,F,O,Z,λv H1 g j=>by
   let⟨p,vs,e,c,nn,f⟩:=j;show#[p,e,#[vs,(au _ _).seq c],q _ H1 g λH' l _ sm=>#[λi a ha=>?_,?_]]
   .let⟨x,h1,h2⟩:=i7 f ha;show#[#[vs,x,(au _ _).seq (sm.seq c),h1],λy h d=>?_];let⟨k,d⟩:=d;subst k;let:=d vs ((au _ _).seq (sm.seq c));rw[h1] at this;cases this;show#[aI.refl _,aw sm h2]
   .show#[vs,(au _ _).seq (sm.seq c),by rw[br f];show ú _]]]
def Hj{O:Ç->Prop}{H1:Hp}:Vr K H0 O Á (jc lo 1 n) (RS lo n) H1:=λH' d _ sm=>#[λi a ha=>by
 let⟨h1,h2⟩:=mU ha;show#[h1,λx c b=>?_];let⟨e1,e2⟩:=b;subst e1 e2 h2
 show#[aI.refl _,by change V.int _=V.int _;rw[Ċ]],by change n<=_;rw[fR];show ú _]
def lZ{n:Int}{p ps:ï}(d:Gl X "range")(h:X.mg "range"=none)(he:E X U e b n)(h1:-(2^62)<=n)(h2:n<2^62)
  (f:Ã [e] X.env=[(Â,Õ e X.env)]<|>zra) (a:Ã [e] X.env=(Â,Õ e X.env)::Ã [] X.env<|>zra):EI X U tg (.Call (.Name "range" p) [e] [] ps) Á (jc 0 1 ↥n):=by stop show#[_,yC d h (aB he aW a) f,λY H H0 F O R Z q=>#[H0,F,O,Z,λv H1 c g=>#[n,by cases g;rfl,h1,h2,q _ H1 c Hj]]]
def qI{D:GD}{pos:ï}{body:List Ð}{g:TG}{tc:Nat->Prop}{put:Bool->M->aM->aM}{as:List M}(J:Nat->aM->Prop)(t:G X tg g M put tc)(he:EI X U tg e b as)(α:J 0 U)
  (u:∀(i:Nat) (a:M) U',as[i]?=À a->J i U'->S X (put b a U') body {D with nx:=J (i+1),ct:=J (i+1),bk:=λΓ2=>S X Γ2 rest D}) (v:∀U',J as.length U'->S X U' rest D)
  (B:X.calm=Á<|>zra) (hp:ķ .F X.A X.env X.xe:=by show agk)
  (s:(∀x,Þ e X.env x=pure x)<|>zrc):S X U (.For tg e body [] pos::rest) D:=by
 stop
  let⟨wi,hi,I⟩:=he;show c9 (c7 (Ay hp B hi t.1 (tb:=pO X body) l7 s) λR Y H ⟨H0,F,O,Z,nx,r,bk,ct⟩=>?_);show I Y H H0 F O _ Z λQ H1 o Y0=>?_;show#[λi m Y' H'=>m=as.length-i/\i<=as.length/\∃U' h,aI (off H1 O) (off H' h)/\eZ X.K H0 F h U' Y' H'/\J i U',#[_,rfl,Ņ _,U,O,aI.refl _,Z.go o,α],?_];rintro i m Y' H' ⟨rfl,y,U',h,sm,p,j⟩;let⟨N,P⟩:=Y0 H' h p.own sm;by_cases l:i<as.length
  .let ha:as[i]?=À as[i]:=Đ l;let⟨go,E⟩:=N i _ ha;show .inr #[go,λσ2 H2=>∃Γ2 d,aI (off H1 O) (off H2 d)/\eZ X.K H0 F d Γ2 σ2 H2/\J (i+1) Γ2,λσ2 H2 q=>#[as.length-(i+1),.f,rfl,l,q],λx k C=>?_];let⟨n,L⟩:=E x k C;show t.2 b as[i] H0 F h U' Y' k _ _ (p.go n) L λσ2 f _ _=>?_;show#[_,_,u i _ U' ha j,H0,F,h,f,?_,r,?_,?_]
   .show λΓ2 σ2 H2 d c f q=>#[Γ2,d,sm.trans ((ah n).trans c),f,q]
   .show λΓ2 σ2 H2 d c f q=>nx Γ2 σ2 H2 d ((ah o).trans (sm.trans ((ah n).trans c))) f q
   .show λΓ2 σ2 H2 d c f q=>#[Γ2,d,sm.trans ((ah n).trans c),f,q]
  .let z:i=as.length:=by omega
   subst z;show .inl #[P,nx U' Y' H' h ((ah o).trans sm) p (v U' j)]
end
noncomputable def cB:Option (Option Bd)->Option Bd
 |some (À (@Bd.val _ _ b a))=>À (.val b a)
 |_=>none
noncomputable def cΓ(U:aM)(tn:List Í)(js:List Nat):aM:=tn.map (λ_=>none)++js.map λj=>cB U[j]?
def Qe{o:Option (Option Bd)}(h:cB o=À g):o=À (À g)/\¬g.gR:=by
 unfold cB at h;split at h
 .cases h;show#[rfl,λz=>z]
 .cases h
def LN{U:aM}{i:Nat}(h:(cΓ U tn js)[i]?=À (À g)):∃j,js[i-tn.length]?=À j/\tn.length<=i/\U[j]?=À (À g)/\¬g.gR/\(cσ Y tn js)[i]?=À ((Y[j]?).getD none):=by
 unfold cΓ at h;unfold cσ;by_cases hi:i<tn.length
 .rw[aeF ↑hi,Ĵ] at h;cases q:tn[i]? with
  |none=>rw[q] at h;cases h
  |some y=>rw[q] at h;cases h
 .rw[aey ↑hi,Ĵ,ą] at h;rw[aey ↑hi,Ĵ,ą];cases q:js[i-tn.length]? with
  |none=>rw[q] at h;cases h
  |some j =>
   rw[q] at h;let⟨h1,h2⟩:=Qe (ĳ h);show#[j,rfl,.b,h1,h2,rfl]
section
variable{K:Ä}{H0:Hp}{F O:Ç->Prop}{U:aM}{Y:St}{H:Hp}
def eZ.gM(Z:eZ K H0 F O U Y H)(tn:List Í)(js:List Nat):eZ K H0 F O (cΓ U tn js) (cσ Y tn js) H where
 same:=Z.same
 fo:=Z.fo
 f0:=Z.f0
 own:=Z.own
 len:=by unfold cΓ cσ;simp
 at_:=λi g e n=>by
  let⟨j,h1,h2,b,a,c⟩:=LN (Y:=Y) e;let⟨v,f,d⟩:=Z.at_ j g b n;show#[v,by rw[c,f];rfl,d]
 dis:=#[λ_ _=>False,λ_ _ _ z=>z.elim,λ_ _ z=>z.elim,λi g e o=>by
  let⟨_,_,_,_,a,_⟩:=LN (Y:=Y) e
  show absurd o a]
def eZ.ownIn{D:Ç}(Z:eZ K H0 F O U Y H)(m:H D=none)(sm:aI H H')(k:H' D=À (.lst xs)):eZ K H0 F (λp=>O p\/p=D) U Y H'/\aI (off H O) (off H' λp=>O p\/p=D):=by
 let d:aI (off H O) (off H' λp=>O p\/p=D):=λb o h=>by
  let⟨h1,h2⟩:=i8 h;let l:b≠D:=λz=>by rw[z,m] at h2;cases h2
  rw[bB (by rintro(z|z);show h1 z;show l z)];show sm _ _ h2
 show#[#[Z.same.trans sm,λp h=>.inl (Z.fo p h),Z.f0,λp h=>?_,Z.len,λi g e n=>?_,?_],d]
 .obtain h|h:=h
  .let⟨ys,q⟩:=Z.own p h;show#[ys,sm _ _ q]
  .subst h;show#[.inl xs,k]
 .let⟨v,j,c⟩:=Z.at_ i g e n;show#[v,j,?_];cases g with
  |val b a=>show aw d c
  |own b as=>show c
  |dpo a=>show c
 .let⟨t,r,f,s⟩:=Z.dis;show#[t,r,λi p h=>#[.inl (f i p h).1,(f i p h).2],λi g e o=>?_];let⟨v,j,c⟩:=s i g e o;show#[v,j,Bd.VE c (λp ys _ z=>sm _ _ z) d (λp z=>(f i p z).1) Z.own]
variable{X:Cx}{D:GD}{M β:Type}[Py M][Py β]{elt target iter c:Ô}{b b':Bool}{pos:ï}{Y2:Ā}{tn:List Í}{js:List Nat}{g:TG}{tc:Nat->Prop}{put:Bool->M->aM->aM}{as:List M}{f:M->β}{p:M->Bool}{ifs:List Ô}
def Xw(X:Cx)(tn:List Í)(js:List Nat)(Y2:Ā)(elt:Ô)(β:Type)[Py β](b:Bool):TE:=λY H Q=>∃U',∃v:β,(∀C s H fp,E .I U' elt b v)/\tV X.K U' b v Y H Q
@[irreducible] def FT(X:Cx)(U:aM)(ifs:List Ô)(c:Bool):Prop:=PF X ifs (Qi X.K U c)
def V2(X:Cx)(tn:List Í)(js:List Nat)(Y2:Ā)(ifs:List Ô):TT:=λY H Q=>∃U' c,(∀C s H fp,FT .I U' ifs c)/\Qi X.K U' c Y H Q
def Az:FT X U [] Á:=by stop show λZB s Y H Q I ⟨H0,F,O,Z,q⟩=>Rb ZB s Y H Q I (q H (aI.refl _))
def sR{k:Bool}(h:T X U c k):FT X U [c] k:=by stop show Qa h
def F2{wi:TI}(hw:∀(Y:St) (H H0:Hp) (F O:Ç->Prop) (R:It->Hp->Prop),eZ X.K H0 F O U Y H->(∀J H1,aI H H1->Vr X.K H0 O b as J H1->R J H1)->wi Y H R)
  (I:GP g M put tc X.K) (G:∀j,tc j->j<tn.length)
  (ht:∀(i:Nat) (a:M),as[i]?=À a->∀C s H fp,FT .I (put b a (cΓ U tn js)) ifs (p a))
  (hb:∀(i:Nat) (a:M),as[i]?=À a->p a=Á->∀C s H fp,E .I (put b a (cΓ U tn js)) elt b' (f a)) (hl:as.length<=1000)
  {Y:St} {H:Hp} {Q:VK} {H0:Hp} {F O:Ç->Prop} (Z:eZ X.K H0 F O U Y H) (q:∀v H',aI H H'->Py.rp X.K (Nf H0 b') (off H' O) v ((as.filter p).map f)->Q v H'):
  Tt wi tn js g (V2 X tn js Y2 ifs) (Xw X tn js Y2 elt β b') Y H Q:=by
 stop
  show hw Y H H0 F O _ Z λJ H1 P Y0 D u=>?_;let L:=Z.go P
  show#[λi m H' xs=>m=as.length-i/\i<=as.length/\aI H1 H'/\H' D=À (.lst xs)/\Ý (λx a=>Py.rp X.K (Nf H0 b') (off H' λp=>O p\/p=D) x a) xs (((as.take i).filter p).map f),
   #[_,rfl,Ņ _,cT u _,aY,.nil],?_]
  rintro i m H' xs ⟨rfl,hi,sm,n,r⟩;show#[n,?_];let⟨T,Γ⟩:=L.ownIn u sm n;let⟨t1,t2⟩:=Y0 H' _ T.own Γ;by_cases h:i<as.length
  .let ha:as[i]?=À as[i]:=Đ h;let A:as.take (i+1)=as.take i++[as[i]]:=by rw[afQ,ha];rfl
   let⟨go,W⟩:=t1 i _ ha;show .inr #[go,λx l hy=>?_];let⟨k,rx⟩:=W x l hy;show I b as[i] H0 F _ (cΓ U tn js) (cσ Y tn js) l x _ ((T.go k).gM tn js) rx λσ2 S l2 k2=>?_;show#[#[λj v hj e=>?_,l2],_,_,ht i _ ha,H0,F,_,S,λH3 d=>?_]
   .rwa[k2 j λz=>absurd (G j z) (afK.mpr hj)]
   cases hp:p as[i] with
   |false =>
    show zD #[as.length-(i+1),.b,rfl,h,sm.trans (k.trans d),d _ _ (k _ _ n),?_];rw[A,ύ,agR,hp];simp only[afZ,agp,List.filter_nil,afX];show bc (λ_ _ z=>aw (ah (k.trans d)) z) r
   |true =>
    show vp #[_,_,hb i _ ha hp,H0,F,_,S.go d,λy σ N ry=>?_];let α:σ D=À (.lst xs):=N _ _ (d _ _ (k _ _ n));let B:(λp=>O p\/p=D) D:=.inr rfl;show#[α,?_,as.length-(i+1),.b,rfl,h,?_,aY,?_]
    .let:=br r;rw[ą] at this;let h2:=agX p (as.take i);let h3:=aha i as;show Η .b (bP hl)
    .show λc o z=>by
      let V:c≠D:=λw=>by rw[w,u] at z;cases z
      rw[aU V];show N _ _ (d _ _ (k _ _ (sm _ _ z)))
    .rw[k5 B,A,ύ,agR,hp];simp only[af_,List.filter_nil,afE,ř,afS];show rK (bc (λ_ _ z=>aw (ah (k.trans (d.trans N))) z) r) (.cons ry .nil)
  .let ei:i=as.length:=by lia
   subst ei;rw[ŷ] at r;let t:off H' O D=À (.lst xs):=by rwa[bB (L.ph u)]
   show .inl #[t2,q _ H' (P.trans sm) #[D,xs,rfl,cS.of t,Nf.wk (L.fL u) t,?_]]
   .show bc (λ_ _ z=>aw (kj λ_ w=>.inl w) z) r
def Dp{H:Hp}{fp:List Ç}:PE .I elt (Xw X tn js Y2 elt β b'):=by stop show λZB s' Y H' Q I ⟨U',v,h,q⟩=>(show PE .I elt (tV X.K U' b' v) from h C s H fp) ZB s' Y H' Q I q
def zH{H:Hp}{fp:List Ç}:PF .I ifs (V2 X tn js Y2 ifs):=by stop show λZB s' Y H' Q I ⟨U',c,h,q⟩=>(show PF .I ifs (Qi X.K U' c) from h C s H fp) ZB s' Y H' Q I q
def nL(tn:List Í)(js:List Nat)(S:gA X Y2 tn js)(he:EI X U target iter b as)(c:GP g M put tc X.K)(k:∀C s H fp,PG .I target g)(d:∀j,tc j->j<tn.length)
  (n:∀(i:Nat) (a:M),as[i]?=À a->∀C s H fp,FT .I (put b a (cΓ U tn js)) ifs (p a))
  (h:∀(i:Nat) (a:M),as[i]?=À a->p a=Á->∀C s H fp,E .I (put b a (cΓ U tn js)) elt b' (f a)) (o:as.length<=1000) (e:X.calm=Á<|>zra)
  (m:(∀x,Þ iter X.env x=pure x)<|>zrc):E X U (.ListComp elt [#[target,iter,ifs,0]] Y2 pos) b' ((as.filter p).map f):=by stop let⟨wi,hi,l⟩:=he;show aK (PN S e hi (λC s H fp=>#[k C s H fp,zH,Dp]) m) λY H Q ⟨H0,F,O,Z,q⟩=>F2 l c d n h o Z q
def dg(tn:List Í)(js:List Nat)(S:gA X Y2 tn js)(he:EI X U target iter b as)(c:GP g M put tc X.K)(l:∀C s H fp,PG .I target g)(d:∀j,tc j->j<tn.length)
  (k:∀(i:Nat) (a:M),as[i]?=À a->∀C s H fp,E .I (put b a (cΓ U tn js)) elt b' (f a)) (m:as.length<=1000) (e:X.calm=Á<|>zra)
  (n:(∀x,Þ iter X.env x=pure x)<|>zrc):E X U (.ListComp elt [#[target,iter,[],0]] Y2 pos) b' (as.map f):=by stop have h:=nL (pos:=pos) (p:=λ_=>Á) tn js S he c l d (λi a _ C s H fp=>Az) (λi a ha _=>k i a ha) m e n;rwa[ahb.mpr (λ_ _=>rfl)] at h
def FK(i:Nat){py c:ï}(o:X.N.Nodup)(tn:List Í)(js:List Nat)(I:gA X Y2 tn js)(he:EI X U target iter b as)(k:GP g M put tc X.K)(A:∀C s H fp,PG .I target g)(l:∀j,tc j->j<tn.length)
  (t:∀(i:Nat) (a:M),as[i]?=À a->∀C s H fp,FT .I (put b a (cΓ U tn js)) ifs (p a))
  (q:∀(i:Nat) (a:M),as[i]?=À a->p a=Á->∀C s H fp,E .I (put b a (cΓ U tn js)) elt b' (f a)) (J:as.length<=1000)
  (h:S X (U.set i (À (.val b' ((as.filter p).map f)))) rest D) (e:X.N[i]?=À y<|>zra) (z:Loc X.env.scope y<|>zrf)
  (r:X.fn y=Á\/X.env.scope.names.lookup y=À .local<|>zrf) (w:X.calm=Á<|>zra)
  (d:î (.ListComp elt [#[target,iter,ifs,0]] Y2 pos) (À (.Name y py)) c.line X.env=pure Á<|>zra)
  (u:(∀x,Þ iter X.env x=pure x)<|>zrc):EP.S X U (.Assign [.Name y py] (.ListComp elt [#[target,iter,ifs,0]] Y2 pos) c::rest) D:=by stop let⟨wi,hi,B⟩:=he;show c9 (c7 (BW o e z r I w hi (λC s H fp=>#[A C s H fp,zH,Dp]) d u) λL Y H ⟨H0,F,O,Z,n,_⟩=>F2 B k l t q J Z λv H1 m G=>n _ _ H1 O (ah m) ((Z.go m).set G) h)
def J4(i:Nat){py c:ï}(n:X.N.Nodup)(tn:List Í)(js:List Nat)(u:gA X Y2 tn js)(he:EI X U target iter b as)(k:GP g M put tc X.K)(t:∀C s H fp,PG .I target g)(l:∀j,tc j->j<tn.length)
  (q:∀(i:Nat) (a:M),as[i]?=À a->∀C s H fp,E .I (put b a (cΓ U tn js)) elt b' (f a)) (v:as.length<=1000)
  (h:S X (U.set i (À (.val b' (as.map f)))) rest D) (e:X.N[i]?=À y<|>zra) (o:Loc X.env.scope y<|>zrf)
  (r:X.fn y=Á\/X.env.scope.names.lookup y=À .local<|>zrf) (m:X.calm=Á<|>zra)
  (d:î (.ListComp elt [#[target,iter,[],0]] Y2 pos) (À (.Name y py)) c.line X.env=pure Á<|>zra)
  (w:(∀x,Þ iter X.env x=pure x)<|>zrc):EP.S X U (.Assign [.Name y py] (.ListComp elt [#[target,iter,[],0]] Y2 pos) c::rest) D:=by stop show FK (p:=λ_=>Á) i n tn js u he k t l (λi a _ C s H fp=>Az) (λi a ha _=>q i a ha) v ?_ e o r m d w;rwa[ahb.mpr (λ_ _=>rfl)]
end
theorem Cv:∀{bs:List Bool} {us:List Å},Vals (bs.map V.bl) us->LSm.BoolsAre us bs
 |[],_,h=>by cases h;show .nil
 |b::r,_,h=>by
  cases h with
  |cons h1 h2=>cases h1;show .cons b (Cv h2)
section
variable{X:Cx}
def Hc(g:X.calm=Á):h9 X (.builtin "all") (λxs H Q=>∃p,∃bs:List Bool,xs=[.ref p]/\cS X.K H p (bs.map V.bl)/\Q (.bl (bs.all id)) H):=by
 intro ZB s Y H xs us Q I r h;let⟨p,bs,rfl,k,q⟩:=h;let⟨u,rfl,l⟩:=vals1 r;cases l;let⟨Y0,m,pl,_⟩:=I.list k;let f:=Cv m;let c:=pl.isList;let a:p<s.heap.objs.size:=by let⟨_,e,_⟩:=c;show ĕ e
 show call_all_walk (ahr c ?_)
 show#[s.heap.objs.size,[s.heap.objs.size,p],[s.heap.objs.size],Y0.toArray.size,_,_,λi=>(bs[i]?).getD Á,rfl,Walks.list (A:=X.A.in1) (I.ok.hd g) _ p (ĸ a) Y0.toArray,
  #[#[_,ŏ _ rfl,rfl,rfl],c.push _],λi v s' o t j d=>?_,λh' tk n=>?_]
 .let⟨b,e,rfl⟩:=f.get i v ↑j;simp only[e,agQ] at d;show ϒ d
 .let e:((Ø Y0.toArray.size).all λi=>(bs[i]?).getD Á)=bs.all id:=by
   rw[ŀ,f.length];show LSm.range_all bs
  rw[e];show#[.bl _,H,I.kept (LSm.kept_iter n),rfl,q]
def Hf(c:X.calm=Á):h9 X (.builtin "sum") (λxs H Q=>∃p,∃ns:.L,xs=[.ref p]/\cS X.K H p (ns.map V.int)/\Q (.int ns.sum) H):=by
 intro ZB s Y H xs us Q I r h;let⟨p,ns,rfl,d,q⟩:=h;let⟨u,rfl,e⟩:=vals1 r;cases e;let⟨Y0,f,pl,_⟩:=I.list d;let hi:=intsAre_of f;let⟨ys,b⟩:=hi.allInts.items;let a:s.heap.IsList p (intItems ys):=b▸pl.isList;show sum_intListG (I.ok.hd c) a λh' tk t' g=>?_
 let e1:ns=ys.toList.map (·.1):=by
  rw[<-Ρ,<-b];show(show numsOf Y0.toArray.toList=ns from hi.numsOf).symm
 let e2:preSum (numAt ys) ys.size=ns.sum:=by
  rw[preSum_eq,aeE .c,e1]
 rw[e2];show#[.int _,H,I.kept g,#[_,rfl],q]
end
theorem O4{K:Ä}{N:Nn}{H:Hp}:∀{xs:List V} {bs:List Bool},Ý (λx (b:Bool)=>Py.rp K N H x b) xs bs->xs=bs.map V.bl
 |_,_,.nil=>rfl
 |_,_,.cons h t=>by rw[show _=V.bl _ from h,O4 t];rfl
theorem oV{K:Ä}{N:Nn}{H:Hp}:∀{xs:List V} {bs:.L},Ý (λx (b:Int)=>Py.rp K N H x b) xs bs->xs=bs.map V.int
 |_,_,.nil=>rfl
 |_,_,.cons h t=>by rw[show _=V.int _ from h,oV t];rfl
section
variable{X:Cx}{U:aM}{M β γ:Type}[Py M][Py β][Py γ]{e e1 e2 e3:Ô}{b b1 b2 b3:Bool}{pos:ï}
def PD{bs:List Bool}{p:ï}(d:X.calm=Á)(g:Gl X "all")(i:X.mg "all"=none)(ha:E X U e b bs)(a:Ã [e] X.env=(Â,Õ e X.env)::Ã [] X.env<|>zra):E X U (.Call (.Name "all" p) [e] [] pos) Á (bs.all id):=by
 stop
  show aK (du (Hc d) g i PyProof.Rows.boot_all (aB ha aW a) (he:=a)) λY H Q ⟨H0,F,O,S,q⟩=>#[H0,F,O,S,λv H1 f h=>by
    let⟨p,vs,e,c,n,r⟩:=h;rw[O4 r] at c
    show#[p,bs,by rw[e],(au _ _).seq c,q _ H1 f rfl]]
def T4{ns:.L}{p:ï}(d:X.calm=Á)(g:Gl X "sum")(i:X.mg "sum"=none)(ha:E X U e b ns)(a:Ã [e] X.env=(Â,Õ e X.env)::Ã [] X.env<|>zra):E X U (.Call (.Name "sum" p) [e] [] pos) Á ns.sum:=by
 stop
  show aK (du (Hf d) g i PyProof.Rows.boot_sum (aB ha aW a) (he:=a)) λY H Q ⟨H0,F,O,S,q⟩=>#[H0,F,O,S,λv H1 f h=>by
    let⟨p,vs,e,c,n,r⟩:=h;rw[oV r] at c
    show#[p,ns,by rw[e],(au _ _).seq c,q _ H1 f rfl]]
def SO{xs:List M}{k:Int}{p2:ï}(ha:E X U e1 b xs)(j:E X U e2 b2 k)(u:0<=k):E X U (.Subscript e1 (.Slice (À e2) none none p2) pos) b (xs.drop ↥k):=by
 stop
  show aK (mw uN ha (pW j) pK) λY H Q ⟨H0,F,O,S,q⟩=>#[H0,F,O,S,λv H1 c o=>#[H0,F,O,S.go c,λw H2 a m=>by
    let⟨p,vs,e,s,n,r⟩:=o;show#[k,m,p,vs,e,(au _ _).seq ((ah a).seq s),λl g=>?_];let⟨f,i⟩:=bS (xs:=jU vs (À k) none) ((S.go c).go a) g;show q _ _ (c.trans (a.trans f)) #[l,_,rfl,cS.of i,Nf.wk (((S.go c).go a).fL g) i,?_]
    let ec:jU vs (À k) none=vs.drop ↥k:=by
     unfold jU;let t:k=((↥k:Nat):Int):=by lia
     rw[t,HT.qF,HT.mC];simp only[Ï];by_cases d:↥k<=vs.length
     .rw[ag2 d,aeE (by rw[aeO];show ú _)]
     .rw[agS .b,ae5 (ú _),ae5 .b];simp
    let h:=bc (λ_ _ z=>aw ((ah a).trans (ah f)) z) (uV ↥k r);rw[<-ec] at h
    show h]]
end
noncomputable def XA(a:Ā)(N:List Í)(Y2:Ā)(js:List Nat):Bool :=
 (Y2.kind==.function)&&Y2.names.all (λx=>(!(x.2==.local) || Y2.names.lookup x.1==À .local)&&(!(x.2==.free) || (Y2.names.lookup x.1==À .free&&(a.names.lookup x.1==À .cell || a.names.lookup x.1==À .free)))&&Y2.names.all (λy=>!(x.1==y.1) || x.2==y.2)) &&
  js.all (λj=>match N[j]? with|some x=>Y2.names.lookup x==À .free|none=>Â)
def bH{Y2:Ā}(b:Ā)(N:List Í)(h1:X.env.scope=b)(h2:X.N=N)(h:XA b N Y2 js=Á):gA X Y2 tn js:=by
 subst h1 h2;unfold XA at h;simp only[ź,aeV] at h;let⟨⟨l,ha⟩,m⟩:=h;show#[↑l,λx a e=>?_,λx a e=>?_,λx a y g e=>?_,λj c=>?_]
 .let⟨⟨h1,h2⟩,d⟩:=ha x a;simpa [e] using h1
 .let⟨⟨h1,h2⟩,d⟩:=ha x a;let f:(Y2.names.lookup x.1==À .free&&(X.env.scope.names.lookup x.1==À .cell || X.env.scope.names.lookup x.1==À .free))=Á:=by simpa [e] using h2
  let⟨k,i⟩:=ad_.mp f;show#[↑k,?_];obtain z|z:=Bool.or_eq_true_iff.mp i
  .show .inl (by simpa using z:X.env.scope.names.lookup x.1=_)
  .show .inr (by simpa using z:X.env.scope.names.lookup x.1=_)
 .let⟨⟨h1,h2⟩,d⟩:=ha x a;let:=d y g;simpa [e] using this
 .let:=m j c;split at this
  .rename_i x a;show#[x,a,↑this]
  .cases this
theorem LY{env:Ŗ}{x:Í}:∀(names:List (Í×ó)),(names.map fun(n,k)=>if (k==à&&env.scope.kind==.function&&env.kindOf n==À .cell) then (n,ã) else (n,k)).lookup x =
  (names.lookup x).map λk=>if (k==à&&env.scope.kind==.function&&env.kindOf x==À .cell) then ã else k
 |[]=>rfl
 | (n,k) :: r=>by
  let b:=LY (env:=env) (x:=x) r;by_cases e:x=n
  .subst e
   cases a:(k==à&&env.scope.kind==.function&&env.kindOf x==À .cell) <;>
    simp only[a,ř,afu,age,af_,ahV,afZ,agp]
  .let c:(x==n)=Â:=by simpa using e
   cases a:(k==à&&env.scope.kind==.function&&env.kindOf n==À .cell) <;>
    simp only[a,c,ř,afu,af_,afZ,agp]<;>show b
def Ae{env:Ŗ}{names:List (Í×ó)}(h:names.lookup x=À .cell):(names.map fun(n,k)=>if (k==à&&env.scope.kind==.function&&env.kindOf n==À .cell) then (n,ã) else (n,k)).lookup x=À .cell:=by
 rw[LY,h];rfl
def cI{Y2:Ā}{fp:List Ç}{pos:ï}(i:Nat)(N:List Í)(h:cN X tn js=N<|>zra)(b:N.Nodup<|>zrh)(hi:N[i]?=À x<|>zra)
  (a:Y2.names.lookup x=À .local\/Y2.names.lookup x=À .cell<|>zrf):PG .I (.Name x pos) (l_ i):=by
 show ib (by rwa[h]:(cN X tn js).Nodup) (by rwa[h]:(cN X tn js)[i]?=À x) ?_ ?_
 .obtain z|z:=a
  .show .inl (lookup_relabel_local z)
  .show .inr (Ae z)
 .obtain z|z:=a
  .show .inr (lookup_relabel_local z)
  .show .inl ?_;change(match Y2.names.lookup x with|some .cell=>Á|_=>Â)=Á;rw[z]
def a8{i:Nat}(h:i<n<|>zrb):∀j,j=i->j<n:=λj e=>by rwa[e]
section
variable{K:Ä}{H0:Hp}{F O:Ç->Prop}{U:aM}{Y:St}{H H':Hp}
def eZ.rR{i:Nat}(Z:eZ K H0 F O U Y H)(sm:aI H H')(N:Ç->Prop)(d:∀q,N q->H q=none/\∃xs:Mt,H' q=À (mo xs))(g:Bd)(C:g.gR)(E:g.CT K H0 (λp=>O p\/N p) H' N v):
  eZ K H0 F (λp=>O p\/N p) (U.set i (À g)) (Y.set i (À v)) H'/\aI (off H O) (off H' λp=>O p\/N p):=by
 let s:aI (off H O) (off H' λp=>O p\/N p):=λb o h=>by
  let⟨h1,h2⟩:=i8 h;let y:¬N b:=λz=>by rw[(d b z).1] at h2;cases h2
  rw[bB (by rintro(z|z);show h1 z;show y z)];show sm _ _ h2
 show#[#[Z.same.trans sm,λp h=>.inl (Z.fo p h),Z.f0,λp h=>?_,by rw[Ō,Ō];show Z.len,λj g' e n=>?_,?_],s]
 .obtain h|h:=h
  .let⟨ys,q⟩:=Z.own p h;show#[ys,sm _ _ q]
  .show(d p h).2
 .by_cases c:j=i
  .subst c;let⟨x,u⟩:=get_set_some e;subst u;show absurd C n
  .rw[get_set_ne c] at e;let⟨w,t,f⟩:=Z.at_ j g' e n;show#[w,by rw[get_set_ne c];show t,?_];cases g' with
   |val b a=>show aw s f
   |own b as=>show f
   |dpo a=>show f
 .let⟨D,B,l,A⟩:=Z.dis;show#[λj q=>(j=i/\N q)\/(j≠i/\D j q),λj k q h1 h2=>?_,λj q h=>?_,λj g' e o=>?_]
  .obtain⟨e1,r⟩|⟨e1,r⟩:=h1<;>obtain⟨e2,m⟩|⟨e2,m⟩:=h2
   .rw[e1,e2]
   .show absurd (l k q m).1 (Z.ph (d q r).1)
   .show absurd (l j q r).1 (Z.ph (d q m).1)
   .show B j k q r m
  .obtain⟨_,n⟩|⟨_,n⟩:=h
   .show#[.inr n,Z.fL (d q n).1]
   .show#[.inl (l j q n).1,(l j q n).2]
  .by_cases c:j=i
   .subst c;let⟨x,u⟩:=get_set_some e;subst u;show#[v,get_set_eq (by rwa[Z.len]),?_];let:(λq=>(j=j/\N q)\/(j≠j/\D j q))=N:=funext λq=>propext #[λz=>by obtain⟨_,z⟩|⟨z,_⟩:=z;show z;show absurd rfl z,λz=>.inl #[rfl,z]];change Bd.CT K H0 (λp=>O p\/N p) H' (λq=>(j=j/\N q)\/(j≠j/\D j q)) v g;rw[this];show E
   .rw[get_set_ne c] at e;let⟨w,t,f⟩:=A j g' e o;show#[w,by rw[get_set_ne c];show t,?_];let:(λq=>(j=i/\N q)\/(j≠i/\D j q))=D j:=funext λq=>propext #[λz=>by obtain⟨z,_⟩|⟨_,z⟩:=z;show absurd z c;show z,λz=>.inr #[c,z]];change Bd.CT K H0 (λp=>O p\/N p) H' (λq=>(j=i/\N q)\/(j≠i/\D j q)) w g';rw[this];show Bd.VE f (λp ys _ z=>sm _ _ z) s (λp z=>(l j p z).1) Z.own
def eZ.QG{i:Nat}(Z:eZ K H0 F O U Y H)(s:U[i]?=À (À g))(G:g.gR):∃v D,Y[i]?=À (À v)/\g.CT K H0 O H D v/\(∀p,D p->O p/\H0 p=none) /\
  ∀(p:Ç) (ys:Mt) (g':Option Bd),D p->(∀d,g'=À d->d.gR/\d.CT K H0 O (upd H p (mo ys)) D v)->eZ K H0 F O (U.set i g') Y (upd H p (mo ys))/\off (upd H p (mo ys)) O=off H O:=by
 let⟨D,B,m,A⟩:=Z.dis;let⟨v,C,I⟩:=A i g s G;show#[v,D i,C,I,m i,λp ys g' hp h=>?_];let t:=(m i p hp).1;let r:=k5 (H:=H) (o:=mo ys) t;show#[#[λb o z=>?_,Z.fo,Z.f0,λb E=>?_,by rw[Ō];show Z.len,λj c e n=>?_,D,B,m,λj c e o=>?_],r]
 .let:b≠p:=λw=>by rw[w,(m i p hp).2] at z;cases z
  rw[aU this];show Z.same _ _ z
 .by_cases k:b=p
  .subst k;show#[ys,aY]
  .rw[aU k];show Z.own b E
 .by_cases f:j=i
  .subst f;let u:j<U.length:=(adk.mp s).1;rw[get_set_eq u] at e;let x:g'=À c:=ĳ e;show absurd (h c x).1 n
  .rw[get_set_ne f] at e;let⟨w,y,l⟩:=Z.at_ j c e n;show#[w,y,?_];cases c with
   |val b a =>
    change Py.rp K _ (off (upd H p _) O) w a;rwa[r]
   |own b as=>show l
   |dpo a=>show l
 .by_cases f:j=i
  .subst f;let u:j<U.length:=(adk.mp s).1;rw[get_set_eq u] at e;let x:g'=À c:=ĳ e;show#[v,C,(h c x).2]
  .rw[get_set_ne f] at e;let⟨w,y,l⟩:=A j c e o;show#[w,y,Bd.VE l (λq xs J z=>?_) (by rw[r];show aI.refl _) (λq z=>(m j q z).1) Z.own];let:q≠p:=λw=>f (B j i q J (w▸hp));rwa[aU this]
def eZ.write{i:Nat}(Z:eZ K H0 F O U Y H)(e:U[i]?=À (À g))(h:g.gR):∃v D,Y[i]?=À (À v)/\g.CT K H0 O H D v/\(∀p,D p->O p/\H0 p=none) /\
  ∀(p:Ç) (ys:List V) (g':Option Bd),D p->(∀d,g'=À d->d.gR/\d.CT K H0 O (upd H p (.lst ys)) D v)->eZ K H0 F O (U.set i g') Y (upd H p (.lst ys))/\off (upd H p (.lst ys)) O=off H O:=by
 let⟨v,D,a,b,c,f⟩:=Z.QG e h;show#[v,D,a,b,c,λp ys=>f p (.inl ys)]
def eZ.freeze{i:Nat}{g':Bd}(Z:eZ K H0 F O U Y H)(I:U[i]?=À (À g))(C:g.gR)(J:¬g'.gR)
  (L:∀(D c:Ç->Prop) v,g.CT K H0 O H D v->(∀p,D p->H0 p=none/\¬c p)->aI (off H O) (off H c)->(∀p xs,Rt H p xs->Rt (off H c) p xs)->g'.ok K H0 c H v):
  ∃c,eZ K H0 F c (U.set i (À g')) Y H/\aI (off H O) (off H c):=by
 let⟨D,B,m,A⟩:=Z.dis;let⟨v,G,E⟩:=A i g I C;let s:aI (off H O) (off H λp=>O p/\¬D i p):=kj λp h=>h.1;show#[λp=>O p/\¬D i p,#[Z.same,λp h=>#[Z.fo p h,λz=>?_],Z.f0,λp h=>Z.own p h.1,by rw[Ō];show Z.len,λj d e n=>?_,λj q=>j≠i/\D j q,λj k q h1 h2=>B j k q h1.2 h2.2,λj q h=>#[#[(m j q h.2).1,λz=>h.1 (B j i q h.2 z)],(m j q h.2).2],λj d e o=>?_],s]
 .let⟨xs,w⟩:=Z.f0 p h;rw[(m i p z).2] at w;cases w
 .by_cases r:j=i
  .subst r;let⟨_,y⟩:=get_set_some e;subst y;show#[v,G,L (D j) _ v E (λp z=>#[(m j p z).2,λw=>w.2 z]) s λp xs q=>?_]
   let hp:∀u,(H p=À (.tup u)\/∃o,H p=À (.frz o (.tup u)))->¬(O p/\¬D j p):=λu z w=>by
    let⟨ys,t⟩:=Z.own p w.1;obtain z|⟨o,z⟩:=z
    .rw[z] at t;obtain ys|ys|ys:=ys<;>cases t
    .rw[z] at t;obtain ys|ys|ys:=ys<;>cases t
   let l:=hp xs q.rd;obtain q|⟨o,q⟩:=q
   .show .inl (by rwa[bB l])
   .show .inr #[o,by rwa[bB l]]
  .rw[get_set_ne r] at e;let⟨w,x,f⟩:=Z.at_ j d e n;show#[w,x,?_];cases d with
   |val b a=>show aw s f
   |own b as=>show f
   |dpo a=>show f
 .let r:j≠i:=by
   rintro rfl;let⟨_,y⟩:=get_set_some e;subst y;show J o
  rw[get_set_ne r] at e;let⟨w,x,f⟩:=A j d e o;show#[w,x,?_];let:(λq=>j≠i/\D j q)=D j:=funext λq=>propext #[λz=>z.2,λz=>#[r,z]];change Bd.CT K H0 (λp=>O p/\¬D i p) H (λq=>j≠i/\D j q) w d;rw[this];show Bd.VE f (λp ys _ z=>z) s (λp z=>(m j p z).1) Z.own
def IW{M:Type}[Py M]{as:List M}{D a:Ç->Prop}(h:(Bd.own b as).CT K H0 O H D v)(d:∀p,D p->H0 p=none/\¬a p)(f:aI (off H O) (off H a)):(Bd.val b as).ok K H0 a H v:=by
 let⟨p,xs,e,o,q,r⟩:=h;let c:off H a p=À (.lst xs):=by rwa[bB (d p o).2]
 show#[p,xs,e,cS.of c,Nf.wk (d p o).1 c,bc (λ_ _ z=>aw f z) r]
def DE{M:Type}[Py M]{a:M}{D b:Ç->Prop}(h:(Bd.dpo a).CT K H0 O H D v)(c:∀p,D p->H0 p=none/\¬b p)(f:∀p xs,Rt H p xs->Rt (off H b) p xs):(Bd.val Á a).ok K H0 b H v:=by
 show Py.tr (λp xs q n=>?_) f h;let⟨e,g⟩:=n;let d:off H b p=À (mo xs):=by rwa[bB (c p e).2]
 show#[Mo.of d,(c p e).1,d]
variable{X:Cx}{D:GD}{M β γ:Type}[Py M][Py β][Py γ]{e e1 e2:Ô}{b b1 b2:Bool}{pos:ï}{rest st:List Ð}
def O1(i:Nat)(M:Type)[Py M]{p p2:ï}(b:X.N.Nodup)(h:S X (U.set i (À (.own Á ([]:List M)))) rest D)(hi:X.N[i]?=À x<|>zra)(d:Loc X.env.scope x<|>zrf)
  (g:î (.List [] p2) (À .H) pos.line X.env=pure Â<|>zra) (c:X.fn x=Á\/X.env.scope.names.lookup x=À .local<|>zrf):S X U (.Assign [.Name x p] (.List [] p2) pos::rest) D:=by
 stop
  show c9 (c7 (oR b hi d (w6 aW) g c) λk Y H ⟨H0,F,O,Z,n,_⟩=>#[Ņ _,λq a=>by
    let⟨j,f⟩:=Z.rR (i:=i) (v:=.ref q) (cT a (.lst [])) (·=q) (λr e=>by subst e;show#[a,.inl [],aY]) (Bd.own Á ([]:List M)) É ⟨q,[],rfl,rfl,aY,.nil⟩
    show n _ _ _ _ f j h])
def qQ(i:Nat){as:List M}{a:M}{p ap cp:ï}(C:U[i]?=À (À (.own b as)))(he:E X U e b a)(W:as.length<=1000)(h:S X (U.set i (À (.own b (as++[a])))) rest D)(hi:X.N[i]?=À x<|>zra)
  (Γ:Hy X.env.scope x<|>zre) (α:(x==("__debug__":Í))=Â<|>zrb) (u:(x==("__classdict__":Í))=Â<|>zrb)
  (d:Ą .H "append" X.env (Õ .H X.env)=Õ .H X.env<|>zra)
  (j:((ç cp (Ã [e] X.env)).all (λx=>!x.1)&&(backToKw cp (keywordEach [] X.env)).all (λx=>x.1.isSome)
   && decide (([e]:List Ô).length+([]:List Š).length+(if ([]:List Š).isEmpty then 0 else 1)<30))=Á:=by rfl)
  (g:(ap.endLine==cp.line)=Á<|>zra) (B:Ã [e] X.env=(Â,Õ e X.env)::Ã [] X.env<|>zra) (c:(ç cp (Ã [] X.env)).any (·.1)=Â<|>zra)
  (r:î (.Call (.Attribute .H "append" ap) [e] [] cp) none pos.line X.env=pure Â<|>zra):
  S X U (.Expr (.Call (.Attribute .H "append" ap) [e] [] cp) pos::rest) D:=by
 stop
  show c9 (c7 (nQ (Pz afq ahE ahF sT (pv i hi Γ α u) (aB he aW B) d j g B c) r) λDe Y H ⟨H0,F,O,Z,n,_⟩=>by
    let⟨v,Di,l,⟨q,xs,A,I,f,s⟩,_,_⟩:=Z.write C É;subst A;show#[.ref q,l,.inl #[rfl,xs,cS.of f],H0,F,O,Z,λy H2 o G=>#[q,xs,y,rfl,rfl,o _ _ f,?_,?_]]
    .rw[br s];show bP W
    .let⟨K,D',k,⟨q',m,R,w,J,L⟩,t,wr⟩:=(Z.go o).write C É;rw[l] at k;let ev:V.ref q=K:=by injection k with z;injection z
     subst ev;cases R
     let ex:m=xs:=by
      let:=o _ _ f;rw[J] at this;cases this;rfl
     subst ex
     let⟨Q,T⟩:=wr q (m++[y]) (À (.own b (as++[a]))) w λP σ=>by
      cases σ;show#[É,q,_,rfl,w,aY,?_];rw[k5 (t q w).1];show rK L (.cons G .nil)
     show n _ _ _ _ (by rw[T];show ah o) Q h)
def AJ{g':Bd}(i:Nat)(e:U[i]?=À (À g))(f:g.gR)(l:¬g'.gR)
  (k:∀(H0 H:Hp) (O D a:Ç->Prop) v,g.CT X.K H0 O H D v->(∀p,D p->H0 p=none/\¬a p)->aI (off H O) (off H a)->(∀p xs,Rt H p xs->Rt (off H a) p xs)->g'.ok X.K H0 a H v)
  (h:S X (U.set i (À g')) st D):S X U st D:=by
 stop
  show mL h λm Y H ⟨H0,F,O,Z,n,r,bk,ct⟩=>by
   let⟨a,j,c⟩:=Z.freeze e f l λd a v=>k H0 H O d a v;show#[H0,F,a,j,λΓ2 σ2 H2 b sm=>n Γ2 σ2 H2 b (c.trans sm),r,λΓ2 σ2 H2 b sm=>bk Γ2 σ2 H2 b (c.trans sm),λΓ2 σ2 H2 b sm=>ct Γ2 σ2 H2 b (c.trans sm)]
def fF(i:Nat){as:List M}(c:U[i]?=À (À (.own b as)))(h:S X (U.set i (À (.val b as))) st D):S X U st D:=by stop show AJ (g':=.val b as) i c É (λz=>z) (λH0 H O f g v d e a _=>IW d e a) h
def Qj(i:Nat){a:M}(b:U[i]?=À (À (.dpo a)))(h:S X (U.set i (À (.val Á a))) st D):S X U st D:=by stop show AJ (g':=.val Á a) i b É (λz=>z) (λH0 H O f g v c e _ d=>DE c e d) h
def L6(i:Nat){a:M}(d:U[i]?=À (À (.dpo a)))(h:T X (U.set i (À (.val Á a))) e c):T X U e c:=by
 stop
  show pM h λY H Q ⟨H0,F,O,Z,q⟩=>by
   let⟨b,g,m⟩:=Z.freeze d É (g':=.val Á a) (λz=>z) λl b v f k _ j=>DE f k j;show#[H0,F,b,g,q]
def Dy(i j:Nat){K:Ä}:GP (NV K 2 (xg (l_ i) (xg (l_ j) Oz))) (M×β) (λb u U=>(U.set i (À (.val b u.1))).set j (À (.val b u.2))) (λk=>k=i\/k=j) K:=λb u H0 F O U Y H v Q Z r q=>by
 let⟨p,d,a,h,g,f,e⟩:=r;show#[p,_,h,gS (au _ _) g,rfl,d,[a],rfl,a,[],rfl,rfl,?_];show q _ ((Z.set f).set e) (by rw[Ō,Ō]) λk c=>by rw[get_set_ne λz=>c (.inr z),get_set_ne λz=>c (.inl z)]
end
end L2.EP
namespace L2
open PySem PySem.Spec PyProof.Rows
def W6(K : Ä)(a b : Ç) : It :=
  #[λi H=>∃xs ys x y,cS K H a xs/\cS K H b ys/\xs[i]?=À x/\ys[i]?=À y,
   λi H v H'=>∃T x y,H T=none/\v=.ref T/\H'=upd H T (.tup [x,y])/\(∀xs,cS K H a xs->xs[i]?=À x)/\∀ys,cS K H b ys->ys[i]?=À y,
   λi H=>∃xs ys,cS K H a xs/\cS K H b ys/\(xs.length<=i\/ys.length<=i)]
def dQ{h:á}{a b:Ç}{o u:ā}(e1:h.get? a=À o)(e2:h.get? b=À u)(d:o.cls≠u.cls):a≠b:=λz=>by
 subst z;rw[e1] at e2;cases e2;show d rfl
def yN{h:á}{z TI TO j l k n:Ç}{v r o p x:Å}{y u:Nat}{xs ys:Array Å}(hz:IsZip h z TI TO v)(b:IsPair h TI r o)(a:IsPair h TO p x)(h1:h.IsListIter j k y)(h2:h.IsListIter l n u)
  (i:h.IsList k xs) (m:h.IsList n ys) (w:TI≠TO) (q:j≠l):ZipApart z TI TO j l k n:=by
 let⟨B,c,b1,_⟩:=h1;let⟨A,d,b2,_⟩:=h2;let⟨p1,c1,f,_⟩:=i;let⟨p2,c2,g,_⟩:=m;let X:∀{s t:String},s≠t->û s≠û t:=λne e=>ne (by injection e)
 show#[dQ b hz (X .a),dQ a hz (X .a),dQ c hz (by rw[b1];show X .a),dQ d hz (by rw[b2];show X .a),w,dQ b c (by rw[b1];show X .a),dQ b d (by rw[b2];show X .a),
  dQ a c (by rw[b1];show X .a),dQ a d (by rw[b2];show X .a),q,dQ c1 hz (by rw[f];show X .a),dQ c1 a (by rw[f];show X .a),dQ c1 c (by rw[f,b1];show X .a),dQ c1 d (by rw[f,b2];show X .a),
  dQ c2 hz (by rw[g];show X .a),dQ c2 a (by rw[g];show X .a),dQ c2 c (by rw[g,b1];show X .a),dQ c2 d (by rw[g,b2];show X .a)]
section
variable{X:Cx}{ZB:List (Ç×ā)}{Y:St}{H H':Hp}{s:Æ}
def Inv.ES{h':á}{t':Nat}{ch:List Ç}{T:Ç}{xs:List V}(I:Inv X ZB Y H s)(i:s.heap.objs.size<=T)(k:∀b o,b∉ch->s.heap.get? b=À o->h'.get? b=À o)(th:∀b o,s.heap.get? b=À o->∃o',h'.get? b=À o')(f:∀b∈ch,xF X ZB H b)
  (new:jf X.prog X.w (upd H T (.tup xs)) h' T (.tup xs)):Inv X ZB Y (upd H T (.tup xs)) {s with heap:=h',toks:=t'}:=by
 stop
  let h:H T=none:=I.hok.fresh i;let g:∀b u,H b=À u->b∉ch:=λb u e z=>by rw[(f b z).1] at e;cases e
  show I.step (g':=s.gens) (d':=s.drawn) (ch:=ch) (λb d=>#[(f b d).2.2.2.1,(f b d).2.1,(f b d).2.2.2.2.1,(f b d).2.2.2.2.2]) (λb o _ _ a e _=>k b o a e) (λb o _ _ a e _=>#[o.slots,k b o a e])
   (λb o a e n=>by rwa[aU (ĸ (Ś (ĕ e) i))]) (λb o a e=>#[o,k b o a e]) (λb ys e=>by rwa[aU (bN e h)]) (λb u ys e=>by rwa[aU (bN e h)]) (λb ps e=>#[#[],by rw[aU (bN e h),e];simp]) (λm l=>?_) (λb u e=>?_) I.bare
  .let⟨o,es,ep,j,r⟩:=l;show#[o,es,ep,k _ o (λz=>(f _ z).2.1 rfl) j,r]
  .by_cases d:b=T
   .subst d;rw[aY] at e;cases e;show new
   .rw[aU d] at e;show(I.hok b u e).B4 (λc v a q=>k c v ?_ q) (λc z=>?_) λc ys z=>?_
    .obtain z|z:=a
     .rw[z];show g b u e
     .show g c _ z
    .rwa[aU (bN z h)]
    .rwa[aU (bN z h)]
end
def LO{P:Ó}{w:Ü}{K:Ä}{elts:List Ô}{kk:Nat}{tp:ï}(z TI TO l j a b:Ç)(n1:TI≠TO)(n2:l≠j):Turn P w K (.Tuple elts kk tp) (W6 K a b) [z,TI,TO,l,j] z
  (λi h=>IsZip h z TI TO .none/\IsPair h TI (.ref l) (.ref j)/\(∃x y,IsPair h TO x y)/\h.IsListIter l a i/\h.IsListIter j b i) where
 mem:=by simp
 obj:=λi h st c L=>by
  let⟨hz,f,⟨x,y,g⟩,h1,h2⟩:=st;let d:c=z\/c=TI\/c=TO\/c=l\/c=j:=by simpa using L
  obtain e|e|e|e|e:=d
  .subst e;show#[_,hz,λv q=>by cases q]
  .subst e;show#[_,f,λv q=>by cases q]
  .subst e;show#[_,g,λv q=>by cases q]
  .subst e;let⟨o,F,α,C⟩:=h1;show#[o,F,λv q=>by rw[C] at q;cases q]
  .subst e;let⟨o,F,α,C⟩:=h2;show#[o,F,λv q=>by rw[C] at q;cases q]
 keep:=λi h h' st k=>by
  let⟨hz,f,⟨x,y,g⟩,h1,h2⟩:=st;show#[k z .c _ hz,k TI .c _ f,#[x,y,k TO .c _ g],h1.at λo e=>k l .c o e,h2.at λo e=>k j .c o e]
 item:=by
  intro X σ hw hK L i ZB s Y H E I A st hg;subst σ hw hK;let⟨xs,ys,x,y,N,J,gx,gy⟩:=hg;let⟨hz,f,⟨wa,wb,g⟩,h1,h2⟩:=st;let⟨ix,rx,px,_⟩:=I.list N;let⟨iy,ry,py,_⟩:=I.list J;let D:=yN hz f g h1 h2 px.isList py.isList n1 n2;let⟨u,ux,Γ⟩:=rx.get gx;let⟨v,vy,O⟩:=ry.get gy;show wpAny_pyNext_zip_item D hz f g h1 h2 px.isList py.isList ↑ux ↑vy λh' a1 a2 a3 a4 a5 a6 t=>?_;let hT0:H s.heap.objs.size=none:=I.hok.fresh (ú _)
  let I1:Inv X ZB Y (upd H s.heap.objs.size (.tup [x,y])) {s with heap:=h',toks:=s.toks}:=by
   show I.ES (ch:=[z,TO,l,j]) (ú _) (λc o d e=>t c o (λq=>d (by simp[q])) (λq=>d (by simp[q])) (λq=>d (by simp[q])) (λq=>d (by simp[q])) e) (λc o e=>?_) (λc d=>A c (by simp at d ⊢;obtain q|q|q|q:=d<;>simp[q])) ?_
   .let V:=ĕ e;let:c<h'.objs.size:=by rw[a6];show aeH V
    by_cases F:c=z
    .subst F;show#[_,a1]
    by_cases α:c=TO
    .subst α;show#[_,a2]
    by_cases C:c=l
    .subst C;let⟨o',q,_⟩:=a3;show#[o',q]
    by_cases q4:c=j
    .subst q4;let⟨o',q,_⟩:=a4;show#[o',q]
    show#[o,t c o F α C q4 e]
   .show#[by change 2<=sizeLine;decide,[u,v],.cons Γ (.cons O .nil),#[_,a5,rfl,_,rfl]]
  show#[_,rfl,?_];let B:=A z .c;show wpAny_letOwnedTupleGo_zip a1 λT hz' p=>?_;let zT:z≠s.heap.objs.size:=ĸ (ĕ hz);let I2:Inv X ZB Y (upd H s.heap.objs.size (.tup [x,y])) {({s with heap:=h',toks:=s.toks}:Æ) with heap:=T,toks:=s.toks}:=I1.turned (λc o d e=>p.extBut c o d e) (by rw[aU zT];show B.1) B.2.1 B.2.2.2.1 B.2.2.2.2.1 B.2.2.2.2.2;show#[.ref s.heap.objs.size,upd H s.heap.objs.size (.tup [x,y]),I2,rfl,#[s.heap.objs.size,x,y,hT0,rfl,rfl,λxs' sx'=>?_,λys' sy'=>?_],#[hz',p.extBut _ _ D.TIz (t _ _ D.TIz D.TITO D.TIi1 D.TIi2 f),#[_,_,p.extBut _ _ D.TOz a2],a3.extBut p.extBut D.i1z,a4.extBut p.extBut D.i2z],λc d=>?_]
  .rwa[I.qf sx' N]
  .rwa[I.qf sy' J]
  .let Q:c<s.heap.objs.size:=by
    let hc2:c=z\/c=TI\/c=TO\/c=l\/c=j:=by simpa using d
    obtain e|e|e|e|e:=hc2
    .subst e;show ĕ hz
    .subst e;show ĕ f
    .subst e;show ĕ g
    .subst e;let⟨_,q,_⟩:=h1;show ĕ q
    .subst e;let⟨_,q,_⟩:=h2;show ĕ q
   rw[aU (ĸ Q)];show(A c d).1
 done:=by
  intro X σ hw hK L i ZB s Y H E I A st hg;subst σ hw hK;let⟨xs,ys,N,J,G⟩:=hg;let⟨hz,f,⟨wa,wb,g⟩,h1,h2⟩:=st;let⟨ix,rx,px,_⟩:=I.list N;let⟨iy,ry,py,_⟩:=I.list J;let D:=yN hz f g h1 h2 px.isList py.isList n1 n2;show wpAny_pyNext_zip_end (I.ok.hd L) D hz f g h1 h2 px.isList py.isList ?_ λh' t=>#[rfl,?_]
  .obtain q|q:=G
   .left;simp[<-rx.length];lia
   .right;simp[<-ry.length];lia
  .let B:=A z .c;let fo:=A TO .c;let f1:=A l .c;let f2:=A j .c
   show I.step (g':=s.gens) (d':=s.drawn) (t':=s.toks) (ch:=[z,TO,l,j]) (λb hb=>?_) (λb o _ _ d e _=>t b o (λq=>d (by simp[q])) (λq=>d (by simp[q])) (λq=>d (by simp[q])) (λq=>d (by simp[q])) e) (λb o _ _ d e _=>#[o.slots,t b o (λq=>d (by simp[q])) (λq=>d (by simp[q])) (λq=>d (by simp[q])) (λq=>d (by simp[q])) e]) (λ_ _ _ _ n=>n)
    (λb o d e=>#[o,t b o (λq=>d (by simp[q])) (λq=>d (by simp[q])) (λq=>d (by simp[q])) (λq=>d (by simp[q])) e]) (λ_ _ e=>e) (λ_ _ _ e=>e) (λb ps e=>#[#[],by rw[e];simp]) (λm hm=>?_) (λb u e=>?_) I.bare
   .let q:=A b (by simp at hb ⊢;obtain q|q|q|q:=hb<;>simp[q]);show#[q.2.2.2.1,q.2.1,q.2.2.2.2.1,q.2.2.2.2.2]
   .let⟨o,es,ep,ho,r⟩:=hm;show#[o,es,ep,t _ o (Ź B.2.1) (Ź fo.2.1) (Ź f1.2.1) (Ź f2.2.1) ho,r]
   .let nn:∀c v,H c=À v->c≠z/\c≠TO/\c≠l/\c≠j:=λc v e=>#[(λq=>by(rw[q,B.1] at e;cases e)),(λq=>by(rw[q,fo.1] at e;cases e)),(λq=>by(rw[q,f1.1] at e;cases e)),(λq=>by(rw[q,f2.1] at e;cases e))];show(I.hok b u e).B4 (λc v d q=>?_) (λ_ q=>q) λ_ _ q=>q;let:=nn c;obtain e'|e':=d
    .subst e';let⟨S,Z,w3,R⟩:=nn c _ e;show t c v S Z w3 R q
    .let⟨S,Z,w3,R⟩:=nn c _ e';show t c v S Z w3 R q
 self:=λ_ _ _ _ _ st h=>wpAny_pyIter_zip st.1 h
section
variable{X:Cx}{elts:List Ô}{kk:Nat}{tp:ï}
def Xm(K:Ä)(ta:TA):TI:=λY H R=>ta Y H λvs H1=>∃a b,vs=[.ref a,.ref b]/\(∃xs,cS K H1 a xs)/\(∃ys,cS K H1 b ys)/\R (W6 K a b) H1
def SN{e1 e2:Ô}{ta:TA}{p pos:ï}(r:Gl X "zip")(y:X.mg "zip"=none)(ha:PA X [e1,e2] ta)(he:Ã [e1,e2] X.env=(Â,Õ e1 X.env)::Ã [e2] X.env<|>zra)
  (hpl:(ç pos (Ã [e2] X.env)).any (·.1)=Â<|>zra):PI X (.Tuple elts kk tp) (.Call (.Name "zip" p) [e1,e2] [] pos) (Xm X.K ta):=by
 intro ZB s Y H R I h;show Call_ (ja I r y PyProof.Rows.boot_zip (aeM (cH (ha pos ZB s Y H _ I h) λus d ⟨vs,H1,f,v,l⟩=>?_) he hpl));let⟨a,b,e,⟨xs,t⟩,⟨ys,k⟩,q⟩:=l;subst e;let⟨u,D,rfl,w,n⟩:=vals2 v;cases w;cases n;let⟨E,G,px,_⟩:=f.list t;let⟨J,F,py,_⟩:=f.list k;show call_zip_2 px.isList py.isList λh' i A o z x C B=>?_;let m:Inv X ZB Y H1 {d with heap:=h',toks:=d.toks}:=f.kept B;show wpAny_pyIter_zip (s:={d with heap:=h'}) i ?_;show#[d.heap.objs.size+4,[d.heap.objs.size+4,d.heap.objs.size+2,d.heap.objs.size+3,d.heap.objs.size,d.heap.objs.size+1],_,W6 X.K a b,H1,rfl,m,LO (d.heap.objs.size+4) (d.heap.objs.size+2) (d.heap.objs.size+3) d.heap.objs.size (d.heap.objs.size+1) a b (ĸ (afv _)) (ĸ (afv _)),#[i,A,#[_,_,o],z,x],λc j=>?_,q]
 let g:d.heap.objs.size<=c:=by
  simp at j;obtain e|e|e|e|e:=j<;>subst e<;>lia
 show f.Hq g (f.hok.fresh g)
end
end L2
namespace L2.EP
open PySem PySem.Spec PyProof.Rows
section
variable{X:Cx}{U:aM}{M β:Type}[Py M][Py β]{e1 e2:Ô}{b1 b2:Bool}{elts:List Ô}{kk:Nat}{tp p ps:ï}
def Am{xs:List M}{ys:List β}(V:Gl X "zip")(hm:X.mg "zip"=none)(h1:E X U e1 b1 xs)(h2:E X U e2 b2 ys)(f:Ã [e1,e2] X.env=(Â,Õ e1 X.env)::Ã [e2] X.env<|>zra)(o:Ã [e2] X.env=(Â,Õ e2 X.env)::Ã [] X.env<|>zra)
  (hpl:(ç ps (Ã [e2] X.env)).any (·.1)=Â<|>zra):EI X U (.Tuple elts kk tp) (.Call (.Name "zip" p) [e1,e2] [] ps) (b1&&b2) (xs.zip ys):=by
 stop
  show#[_,SN V hm (aB h1 (aB h2 aW o) f) f hpl,λY H H0 F O R Z q=>#[H0,F,O,Z,λv H1 s W=>#[H0,F,O,Z.go s,λw H2 r N=>by
    let⟨a,j,K,D,na,t⟩:=W;let⟨c,g,ec,k,nc,rc⟩:=N;let b:=(ah (O:=O) r).seq D;show#[a,c,by rw[K,ec],#[j,(au _ _).seq b],#[g,(au _ _).seq k],q _ H2 (s.trans r) λH' G m sm=>#[λi u α=>?_,?_]]
    .let⟨J,Q⟩:=afb.mp α;let⟨x,B,σ⟩:=i7 t J;let⟨y,C,P⟩:=i7 rc Q;let d:=(au _ _).seq (sm.seq b);let e:=(au _ _).seq (sm.seq k);show#[#[j,g,x,y,d,e,B,C],λv' I L=>?_];let⟨T,x',y',h,rfl,rfl,Γ,S⟩:=L;let ex:=Γ j d;let A:=S g e;rw[B] at ex;cases ex;rw[C] at A;cases A
     let l:¬G T:=λz=>by
      let⟨zs,w⟩:=m T z;rw[h] at w;cases w
     show#[cT h _,T,x,y,rfl,.inl (by rw[bB l];show aY),?_,?_]
     .show a_ (λ_ _ n=>EF n) (aw ((ah r).trans (sm.trans (ah (cT h _)))) σ)
     .show a_ (λ_ _ n=>Fs n) (aw (sm.trans (ah (cT h _))) P)
    .show#[j,g,(au _ _).seq (sm.seq b),(au _ _).seq (sm.seq k),?_];rw[br t,br rc,ϐ]
     lia]]]
def K8{Y2:Ā}{tn:List Í}{js:List Nat}{C:Ç}{s:Æ}{H:Hp}{fp:List Ç}{x y:Í}{p1 p2 d:ï}{k:Nat}(i j:Nat)(N:List Í)(c:X.calm=Á<|>zra)(h:cN X tn js=N<|>zra)(b:N.Nodup<|>zrh)(hi:N[i]?=À x<|>zra)(f:N[j]?=À y<|>zra)
  (e:Y2.names.lookup x=À .local\/Y2.names.lookup x=À .cell<|>zrf) (a:Y2.names.lookup y=À .local\/Y2.names.lookup y=À .cell<|>zrf):
  PG .I (.Tuple [.Name x p1,.Name y p2] k d) (NV X.K 2 (xg (l_ i) (xg (l_ j) Oz))) :=
 Dq (X:=gM X (cN X tn js) Y2 C s H fp) c (gI (cI i N h b hi e) (gI (cI j N h b f a) AE))
def yh{i j n:Nat}(h:i<n<|>zrb)(h2:j<n<|>zrb):∀k,k=i\/k=j->k<n:=λk e=>by obtain e|e:=e<;>rw[e]<;>assumption
end
class PyT(β:Type)[Py β]:Prop where
 free:∀{K:Ä} {N N':Nn} {H H':Hp} {v:V} {b:β},(∀p xs,Rt H p xs->Rt H' p xs)->Py.rp K N H v b->Py.rp K N' H' v b
 nl:∀{K:Ä} {N:Nn} {H:Hp} {q:Ç} {b:β} {xs:List V},Py.rp K N H (.ref q) b->H q=À (.lst xs)->False
noncomputable instance:PyT Int where
 free _ h:=h
 nl h _:=nomatch h
noncomputable instance{M β:Type}[Py M][Py β][PyT M][PyT β]:PyT (M×β) where
 free t h:=by
  let⟨p,x,y,e,s,h1,h2⟩:=h;show#[p,x,y,e,t _ _ s,PyT.free t h1,PyT.free t h2]
 nl h e:=by
  let⟨p,x,y,a,s,h1,h2⟩:=h;cases a;obtain s|⟨o,s⟩:=s
  .rw[e] at s;cases s
  .rw[e] at s;cases s
def tN{M:Type}[Py M](K:Ä)(U:aM)(a:M):TE:=λY H Q=>∃H0 F O,eZ K H0 F O U Y H/\∀v H',aI H H'->Py.rp K (.new H) (off H' O) v a->Q v H'
@[irreducible] def EN{M:Type}[Py M](X:Cx)(U:aM)(e:Ô)(a:M):Prop:=PE X e (tN X.K U a)
def iV{M:Type}[Py M]{K:Ä}{H H1 b:Hp}{v:V}{a:M}(s:aI H H1)(h:Py.rp K (.new H1) b v a):Py.rp K (.new H) b v a:=a_ (N:=.new H1) (N':=.new H) (λ_ _ n=>#[s.free n.1,n.2]) h
section
variable{X:Cx}{U:aM}{D:GD}{M β γ:Type}[Py M][Py β][Py γ]{e e1 e2:Ô}{b b1 b2:Bool}{pos p:ï}{rest st:List Ð}{k:Nat}{name:Í}{ps:List Í}
def Kk{pre:M->Prop}{f:M->β}{a:M}(C:aG X.prog X.w X.K X.mg X.base k name ps (cj X.K pre Á f))(i:dN k X.A)(g:Gl X name)(h1:E X U e1 b1 a)(hp:pre a)
  (b:Ã [e1] X.env=(Â,Õ e1 X.env)::Ã [] X.env<|>zra) (c:(name==("__debug__":Í))=Â<|>zrb) (hpl:(ç pos (Ã [] X.env)).any (·.1)=Â<|>zra):
  EN X U (.Call (.Name name p) [e1] [] pos) (f a):=by
 stop
  let⟨j,fd,F,B,kp,m⟩:=C.ex
  show aK (d_ F i g m kp B .nil jC (aB h1 aW b) c b hpl) λY H Q ⟨H0,F,O,S,q⟩=>#[H0,F,O,S,λe H1 d h =>
   #[O,e,a,(S.go d).own,rfl,a_ a7 h,hp,λr H' s' z=>q r H' (d.trans s') (iV d z)]]
def Lj{pre:M->β->Prop}{f:M->β->γ}{a:M}{c:β}(C:aG X.prog X.w X.K X.mg X.base k name ps (bw X.K pre Á f))(s:dN k X.A)(n:Gl X name)(h1:E X U e1 b1 a)(h2:E X U e2 b2 c)(hp:pre a c)
  (b:Ã [e1,e2] X.env=(Â,Õ e1 X.env)::Ã [e2] X.env<|>zra) (h:Ã [e2] X.env=(Â,Õ e2 X.env)::Ã [] X.env<|>zra) (g:(name==("__debug__":Í))=Â<|>zrb) (hpl:(ç pos (Ã [e2] X.env)).any (·.1)=Â<|>zra):
  EN X U (.Call (.Name name p) [e1,e2] [] pos) (f a c):=by
 stop
  let⟨t,fd,F,B,kp,m⟩:=C.ex
  show aK (d_ F s n m kp B .nil jC (aB h1 (aB h2 aW h) b) g b hpl) λY H Q ⟨H0,F,O,S,q⟩=>#[H0,F,O,S,λl H1 d o=>#[H0,F,O,S.go d,λj H2 e i =>
   #[O,l,j,a,c,(S.go (d.trans e)).own,rfl,a_ a7 (aw (ah e) o),a_ a7 i,hp,λr H' s' z=>q r H' (d.trans (e.trans s')) (iV (d.trans e) z)]]]
def C9(i:Nat){x:Í}{a:M}{p:ï}(c:X.N.Nodup)(he:EN X U e a)(h:S X (U.set i (À (.dpo a))) rest D)(hi:X.N[i]?=À x<|>zra)(f:Loc X.env.scope x<|>zrf)
  (m:î e (À .H) pos.line X.env=pure Â<|>zra) (d:X.fn x=Á\/X.env.scope.names.lookup x=À .local<|>zrf):S X U (.Assign [.Name x p] e pos::rest) D:=by
 stop
  show c9 (c7 (oR c hi f he m d) λo Y H ⟨H0,F,O,Z,n,_⟩=>#[H0,F,O,Z,λv H1 j k=>by
    let⟨l,g⟩:=Z.rR (i:=i) (v:=v) j (λq=>H q=none/\∃xs:Mt,H1 q=À (mo xs)) (λq z=>z) (Bd.dpo a) É (by
     show Py.tr (λq xs b nn=>?_) (λq xs b=>aI.rt (au _ _) b) k;let:=(au _ _) _ _ nn.2
     show⟨Mo.of this,⟨nn.1,xs,this⟩,this⟩)
    show n _ _ _ _ g l h])
variable{b':Bool}
def E.up[PyT M]{a:M}(h:E X U e b a):E X U e b' a:=by stop show aK h λY H Q ⟨H0,F,O,S,q⟩=>#[H0,F,O,S,λv H' s r=>q v H' s (PyT.free (λ_ _ z=>z) r)]
def dv[PyT M]{a:M}(h:E X U e b a):E X U e b' a:=by stop show E.up h
def qx[PyT M]{xs:List M}{p:ï}(h:Gl X "list")(k:X.mg "list"=none)(ha:E X U e b xs)(c:Ã [e] X.env=(Â,Õ e X.env)::Ã [] X.env<|>zra):E X U (.Call (.Name "list" p) [e] [] pos) Á xs:=by
 stop
  show aK (iM kX h k afx (aB ha aW c) (he:=c)) λY H Q ⟨H0,F,O,S,q⟩=>#[H0,F,O,S,λv H1 a i=>by
    let⟨p,vs,e,j,n,r⟩:=i;show#[p,vs,by rw[e],.inl ((au _ _).seq j),λl f=>?_];let⟨d,g⟩:=bS (xs:=vs) (S.go a) f
    show q _ _ (a.trans d) #[l,vs,rfl,cS.of g,Nf.wk ((S.go a).fL f) g,bc (λ_ _ z=>PyT.free (λ_ _ t=>aI.rt (ah d) t) z) r]]
end
def kq{M β:Type}{g:β->M->β}{z:β}{us:List M}{i:Nat}{a:M}(h:us[i]?=À a):(us.take (i+1)).foldl g z=g ((us.take i).foldl g z) a:=by
 rw[aeT,h,af5];rfl
end L2.EP
namespace Q
variable{p k b a d r m x l e q s c y A f B u g v:Int}{n i j:Nat}{L:.L}
def p_(a b:Int):È b (a.fmod b)=È a b:=by
 rw[Int.fmod_def,agr a b];show Int.gcd_sub_mul_left_right ..
def FV(a b:Int)(c:b≠0):(a.fmod b).natAbs<b.natAbs:=by
 obtain h|h:=Ν c
 .let e:=Int.neg_fmod_neg a b;let h':(0:Int) < -b:=by omega
  let h1:=agI (-a) h';let h2:=ahk (-a) h';omega
 .let h1:=agI a h;let h2:=ahk a h;omega
noncomputable def fd(t b:Int):Int:=if b<0 then -(È t b:Int) else (È t b:Int)
noncomputable def fr(t b:Int):Int×Int:=(t.fdiv (fd t b),b.fdiv (fd t b))
def xh{t:Int}(a:b≠0):fd t b≠0:=by
 let h:È t b≠0:=by
  intro h;rw[ahc] at h;show a h.2
 unfold fd;split<;>lia
def Cp(t b:Int):fd t b∣t:=by
 unfold fd;split
 .show(Int.neg_dvd).mpr (Ϧ ..)
 .show Ϧ ..
def zO(t b:Int):fd t b∣b:=by
 unfold fd;split
 .show(Int.neg_dvd).mpr (ϧ ..)
 .show ϧ ..
def wK(h:d∣a):d*a.fdiv d=a:=by
 let e:=Int.mul_fdiv_cancel' h;show e
def AF(t b:Int):fd t b*(fr t b).1=t:=wK (Cp t b)
def tx(t b:Int):fd t b*(fr t b).2=b:=wK (zO t b)
def bT(t b:Int):(fr t b).1*b=t*(fr t b).2:=by
 let h1:=AF t b;let h2:=tx t b;generalize (fr t b).1=x at *;generalize (fr t b).2=y at *;generalize fd t b=d at *;subst h1;subst h2;rw[<-ı,ī x d]
def mV{t:Int}(f:b≠0):1<=(fr t b).2:=by
 let h2:=tx t b;let c:=xh (t:=t) f
 let e:fd t b<0↔b<0:=by
  unfold fd;let:0<=(È t b:Int):=ϣ _;unfold fd at c;split<;>split at c<;>lia
 generalize (fr t b).2=y at *;generalize fd t b=d at *;apply Int.not_lt.mp;intro g;let a:y<=0:=by lia
 obtain h|h:=Ν c
 .let:=ae2 (afi h) a;let:=e.mp h;lia
 .let:=adL (afi h) a;let:¬b<0:=λq=>by let:=e.mpr q;lia
  lia
def IY(t b:Int):(fd t b).natAbs=È t b:=by
 unfold fd;split<;>lia
def oF{t:Int}(d:b≠0):È (fr t b).1 (fr t b).2=1:=by
 let h1:=AF t b;let h2:=tx t b;let g:=xh (t:=t) d;let e:=IY t b;let f:È (fd t b*(fr t b).1) (fd t b*(fr t b).2)=(fd t b).natAbs*È (fr t b).1 (fr t b).2:=Int.gcd_mul_left ..;rw[h1,h2,e] at f;let c:0<È t b:=by lia
 let a:È t b*1=È t b*È (fr t b).1 (fr t b).2:=by lia
 show(Nat.eq_of_mul_eq_mul_left c a).symm
def SD{t:Int}(c:1<=b)(a:È t b=1):fr t b=(t,b):=by
 let e:fd t b=1:=by unfold fd;rw[a,ac2 .b];rfl
 unfold fr;rw[e,ahG,ahG]
def qN{t:Int}(a:b≠0):(fr t b).1.natAbs<=t.natAbs:=by
 let h1:=AF t b;let c:=xh (t:=t) a;let h:t.natAbs=(fd t b).natAbs*(fr t b).1.natAbs:=by rw[<-ļ,h1]
 rw[h];show ae6 _ .b
def qr{t:Int}(a:b≠0):(fr t b).2.natAbs<=b.natAbs:=by
 let h1:=tx t b;let c:=xh (t:=t) a;let h:b.natAbs=(fd t b).natAbs*(fr t b).2.natAbs:=by rw[<-ļ,h1]
 rw[h];show ae6 _ .b
def PY{t:Int}(a:b≠0):(fd t b).natAbs<=b.natAbs:=by
 rw[IY];show agM .b (ad5.mpr (ϧ t b))
def mP(h:a∣b*c)(g:È a b=1):a∣c:=by
 let h':a.natAbs∣b.natAbs*c.natAbs:=by rw[<-ļ];show ad5.mpr h
 show ad5.mp (Nat.Coprime.dvd_of_dvd_mul_left (show η a.natAbs b.natAbs from g) h')
def G_{t:Int}(a:b≠0)(n:1<=y)(f:È x y=1)(h:x*b=t*y):fr t b=(x,y):=by
 let h1:=AF t b;let h2:=tx t b;let hp:=mV (t:=t) a;let c:=oF (t:=t) a;let m:=bT t b;let j:=xh (t:=t) a;generalize l:(fr t b).1=u at *;generalize g:(fr t b).2=v at *;generalize fd t b=d at *;subst h1;subst h2
 let he:x*v=u*y:=by
  let:d*(x*v)=d*(u*y):=by
   rw[<-ı,<-ı,ī d x,ı,h]
  show afc j this
 -- v∣u*y,gcd u v=1->v∣y ;y∣x*v->y∣v
 let k:v∣y:=by
  let:v∣u*y:=#[x,by rw[<-he,ī]];show mP this (by rwa[agr])
 let i:y∣v:=by
  let:y∣x*v:=#[u,by rw[he,ī]];show mP this (by rwa[agr])
 let e:v=y:=Int.dvd_antisymm .b .b k i
 let e2:x=u:=by
  rw[e] at he;show ael .b he
 apply ahd
 .rw[l,e2]
 .rw[g,e]
noncomputable def cV(u v:Int×Int):Int×Int:=fr (u.1*v.2+v.1*u.2) (u.2*v.2)
noncomputable def aE(u v:Int×Int):Int×Int:=fr (u.1*v.1) (u.2*v.2)
def dc(u:Int×Int):Prop:=1<=u.2/\È u.1 u.2=1
def nU{t:Int}(a:b≠0):dc (fr t b):=#[mV a,oF a]
def dc.ne{u:Int×Int}(h:dc u):u.2≠0:=by let:=h.1;lia
def mj{t:Int}{u:Int×Int}(a:b≠0)(h:dc u)(e:u.1*b=t*u.2):fr t b=u:=G_ (x:=u.1) (y:=u.2) a h.1 h.2 e
abbrev Fr:=Int×Int
def uK(n:Nat):.L:=(Ø n).map λi:Nat=>(i:Int)
def eU(n:Nat):(uK n).length=n:=by unfold uK;simp
def LL(h:i<n):(uK n)[i]?=À (i:Int):=by
 unfold uK;rw[Ĵ,agi h];rfl
noncomputable def fS(us:List Fr):Int:=us.foldl (λb u=>(b*u.2).fdiv (È b u.2:Nat)) 1
def Ci(j:1<=b)(n:1<=c):1<=(b*c).fdiv (È b c:Nat)/\b∣(b*c).fdiv (È b c:Nat)/\c∣(b*c).fdiv (È b c:Nat)/\(b*c).fdiv (È b c:Nat)<=b*c:=by
 let o:0<È b c:=by
  obtain h|h:=agq (È b c)
  .rw[ahc] at h;lia
  .show h
 let l:((È b c:Nat):Int)∣b:=Ϧ ..;let m:((È b c:Nat):Int)∣c:=ϧ ..;generalize È b c=g at *;let⟨x,k⟩:=l;let⟨y,f⟩:=m
 let e:(b*c).fdiv (g:Int)=b*y:=by
  rw[f,<-ı,ī b (g:Int),ı];rw[ad8 _ .b]
 let a:(1:Int)<=g:=by lia
 let i:1<=x:=by
  apply Int.not_lt.mp;intro h;let:(g:Int)*x<=0:=adL .b .b;lia
 let d:1<=y:=by
  apply Int.not_lt.mp;intro h;let:(g:Int)*y<=0:=adL .b .b;lia
 rw[e];show#[?_,#[y,rfl],#[x,?_],?_]
 .let:=Ť j d .b .b;simpa using this
 .rw[k,f];grind
 .show Ł ?_ .b;rw[f];let:=adR a (.b:0<=y);simpa using this
theorem Ei:∀(us:List Fr) (b:Int),1<=b->(∀u∈us,1<=u.2)->1<=us.foldl (λb u=>(b*u.2).fdiv (È b u.2:Nat)) b/\b∣us.foldl (λb u=>(b*u.2).fdiv (È b u.2:Nat)) b/\∀u∈us,u.2∣us.foldl (λb u=>(b*u.2).fdiv (È b u.2:Nat)) b
 |[],b,c,_=>#[c,Ϩ _,λ_ h=>by cases h]
 |u::us,b,c,h=>by
  let⟨f,j,i,_⟩:=Ci c (h u Ġ);let⟨g,d,k⟩:=Ei us _ f λw a=>h w (Ě _ a);show#[g,Ĺ j d,λw a=>?_];obtain e|a:=ě.mp a
  .rw[e];show Ĺ i d
  .show k w a
def qR{us:List Fr}(h:∀u∈us,1<=u.2):1<=fS us:=(Ei us 1 .a h).1
def A4{us:List Fr}(h:∀u∈us,1<=u.2){u:Fr}(a:u∈us):u.2∣fS us:=(Ei us 1 .a h).2.2 u a
noncomputable def Fw(us:List Fr):.L×Int:=(us.map λu=>u.1*(fS us).fdiv u.2,fS us)
noncomputable def DP(xs ys:.L):Int:=((xs.zip ys).map λp=>p.1*p.2).sum
noncomputable def Ms(a b:.L×Int):Fr:=fr (DP a.1 b.1) (a.2*b.2)
noncomputable def uE(us vs:List Fr):Fr:=(us.zip vs).foldl (λa p=>cV a (aE p.1 p.2)) (0,1)
def SF{u w:Fr}(c:dc u)(a:dc w)(h:u.1*w.2=w.1*u.2):u=w:=by
 let h1:=mj (t:=w.1) (b:=w.2) a.ne c h;let h2:=mj (t:=w.1) (b:=w.2) a.ne a rfl;rw[<-h1,h2]
def tI:dc (0,1):=#[.a,.a]
def uY{u v:Fr}(b:dc u)(a:dc v):dc (cV u v):=nU (ä b.ne a.ne)
def bC{u v:Fr}(b:dc u)(a:dc v):dc (aE u v):=nU (ä b.ne a.ne)
theorem Et{A B:Int}(t:A≠0)(e:B≠0)(f g:Fr->Int):∀(ps:List (Fr×Fr)) (b:Fr) (s:Int),dc b->b.1*(A*B)=s*b.2->(∀p∈ps,dc p.1/\dc p.2/\f p.1*p.1.2=p.1.1*A/\g p.2*p.2.2=p.2.1*B) ->
  dc (ps.foldl (λb p=>cV b (aE p.1 p.2)) b)/\(ps.foldl (λb p=>cV b (aE p.1 p.2)) b).1*(A*B)=(s+(ps.map λp=>f p.1*g p.2).sum)*(ps.foldl (λb p=>cV b (aE p.1 p.2)) b).2
 |[],b,s,ha,he,_=>#[ha,↑he]
 |p::ps,b,s,ha,he,h=>by
  let⟨c,d,e1,e2⟩:=h p Ġ;let lm:=bC c d;let n:=uY ha lm;let c1:(aE p.1 p.2).1*(p.1.2*p.2.2)=(p.1.1*p.2.1)*(aE p.1 p.2).2:=bT _ _;let c2:(cV b (aE p.1 p.2)).1*(b.2*(aE p.1 p.2).2)=(b.1*(aE p.1 p.2).2+(aE p.1 p.2).1*b.2)*(cV b (aE p.1 p.2)).2:=bT _ _;let o:=c.ne;let j:=d.ne;let k:=ha.ne;let u:=lm.ne
  let i:(aE p.1 p.2).1*(A*B)=(f p.1*g p.2)*(aE p.1 p.2).2:=by
   generalize aE p.1 p.2=m at *;apply ael (ä o j);let:m.1*(A*B)*(p.1.2*p.2.2)=(m.1*(p.1.2*p.2.2))*(A*B):=by grind
   rw[this,c1];let:f p.1*g p.2*m.2*(p.1.2*p.2.2)=(f p.1*p.1.2)*(g p.2*p.2.2)*m.2:=by grind
   rw[this,e1,e2];grind
  let step:(cV b (aE p.1 p.2)).1*(A*B)=(s+f p.1*g p.2)*(cV b (aE p.1 p.2)).2:=by
   generalize cV b (aE p.1 p.2)=a at *;generalize aE p.1 p.2=m at *;apply ael (ä k u);let:a.1*(A*B)*(b.2*m.2)=(a.1*(b.2*m.2))*(A*B):=by grind
   rw[this,c2];let:(b.1*m.2+m.1*b.2)*a.2*(A*B)=((b.1*(A*B))*m.2+(m.1*(A*B))*b.2)*a.2:=by grind
   rw[this,he,i];grind
  let r:=Et t e f g ps (cV b (aE p.1 p.2)) (s+f p.1*g p.2) n step λq l=>h q (Ě _ l);rwa[afY,ř,aie,<-Int.add_assoc]
theorem t7(f g:Fr->Int):∀(us vs:List Fr),DP (us.map f) (vs.map g)=((us.zip vs).map λp=>f p.1*g p.2).sum
 |[],_=>by simp[DP]
 |_::_,[]=>by simp[DP]
 |u::us,v::vs=>by
  let:=t7 f g us vs;unfold DP at this ⊢;simp only[ř,List.zip_cons_cons,aie,this]
def div_mul(h:b∣a)(c:Int):(c*a.fdiv b)*b=c*a:=by
 let:=wK h;rw[ı,ī _ b,this]
def sU{M β:Type}{xs:List M}{ys:List β}{p:M×β}(h:p∈xs.zip ys):p.1∈xs/\p.2∈ys:=agZ (a:=p.1) (b:=p.2) h
def En{us vs:List Fr}(b:∀u∈us,dc u)(a:∀v∈vs,dc v):Ms (Fw us) (Fw vs)=uE us vs:=by
 let i:=qR λu h=>(b u h).1;let g:=qR λu h=>(a u h).1;let c:fS us≠0:=by lia
 let f:fS vs≠0:=by lia
 let⟨h1,h2⟩:=Et c f (λu=>u.1*(fS us).fdiv u.2) (λu=>u.1*(fS vs).fdiv u.2) (us.zip vs) (0,1) 0 tI .c λp hp=>by
  let⟨d,e⟩:=sU hp;show#[b _ d,a _ e,div_mul (A4 (λu h=>(b u h).1) d) _,div_mul (A4 (λu h=>(a u h).1) e) _]
 rw[ahD] at h2;unfold Ms Fw;rw[t7];show mj (ä c f) h1 h2
def Kd{us vs:List Fr}(b:∀u∈us,dc u)(a:∀v∈vs,dc v):dc (uE us vs):=by
 rw[<-En b a];let d:=qR λu h=>(b u h).1;let c:=qR λu h=>(a u h).1;show nU (ä (by change fS us≠0;lia) (by change fS vs≠0;lia))
abbrev Tb:=List (List Fr)
noncomputable def kF(T:Tb)(j:Int):List Fr:=T.map λr=>r.getD ↥j (0,1)
noncomputable def n_(T:Tb):Tb:=(uK T.length).map (kF T)
def iL(A B:Tb):Tb:=A.map λr=>((n_ B).map Fw).map (Ms (Fw r))
structure Sq(n:Nat)(T:Tb):Prop where
 len:T.length=n
 row:∀r∈T,r.length=n
 low:∀r∈T,∀u∈r,dc u
def getD_mem{M:Type}{l:List M}{d:M}(h:i<l.length):l.getD i d∈l:=by
 rw[ċ,Đ h];show aeX h
def Sq.col{T:Tb}(h:Sq n T){j:Int}(c:0<=j)(d:j<n):(kF T j).length=n/\∀u∈kF T j,dc u:=by
 show#[by unfold kF;rw[ą];show h.len,λu b=>?_];unfold kF at b;let⟨r,a,e⟩:=adn.mp b;subst e;show h.low r a _ (getD_mem (by rw[h.row r a];lia))
def p6{j:Int}(h:j∈uK n):0<=j/\j<n:=by
 unfold uK at h;let⟨i,hi,e⟩:=adn.mp h;let:=aeh.mp hi;lia
theorem Sq.n_{n:Nat}{T:Tb}(h:Sq n T):Sq n (n_ T):=by
 show#[by unfold Q.n_;rw[ą,eU];show h.len,λr c=>?_,λr c=>?_]
 .let⟨j,d,e⟩:=adn.mp c;let⟨b,a⟩:=p6 d;rw[h.len] at a;subst e;show(h.col b a).1
 .let⟨j,d,e⟩:=adn.mp c;let⟨b,a⟩:=p6 d;rw[h.len] at a;subst e;show(h.col b a).2
def Jw{A B:Tb}(d:Sq n A)(a:Sq n B):iL A B=A.map λr=>(uK n).map λj=>uE r (kF B j):=by
 unfold iL;apply agj;intro r e;unfold Q.n_;rw[aii,aii,a.len];apply agj;intro j f;let⟨b,c⟩:=p6 f;show En (d.low r e) (a.col b c).2
theorem Sq.iL{n:Nat}{A B:Tb}(b:Sq n A)(d:Sq n B):Sq n (iL A B):=by
 rw[Jw b d];show#[by rw[ą];show b.len,λr a=>?_,λr a u h=>?_]
 .let⟨q,c,e⟩:=adn.mp a;subst e;rw[ą,eU]
 .let⟨q,c,e⟩:=adn.mp a;subst e;let⟨j,i,e⟩:=adn.mp h;let⟨f,g⟩:=p6 i;subst e;show Kd (b.low q c) (d.col f g).2
def xZ{us vs:List Fr}{k:Nat}(h1:k<us.length)(h2:k<vs.length):(us.zip vs).take (k+1)=(us.zip vs).take k++[(us.getD k (0,1),vs.getD k (0,1))]:=by
 let a:k<(us.zip vs).length:=by rw[ϐ];lia
 rw[afQ,Đ a,ċ,ċ,Đ h1,Đ h2];simp
noncomputable def zU(n:Nat)(i:Int):List Fr:=(uK n).map λj=>if j=i then (1,1) else (0,1)
def uU(n:Nat):Tb:=(uK n).map λi=>zU n i
def U5{v:Fr}(a:dc v):aE (0,1) v=(0,1):=mj (ä .a a.ne) tI .c
def U1{v:Fr}(a:dc v):aE v (0,1)=(0,1):=mj (ä a.ne .a) tI .c
def Vs{v:Fr}(a:dc v):aE (1,1) v=v:=mj (ä .a a.ne) a .c
def UN{v:Fr}(a:dc v):aE v (1,1)=v:=mj (ä a.ne .a) a .c
def WA{v:Fr}(a:dc v):cV v (0,1)=v:=mj (ä a.ne .a) a .c
def U0{v:Fr}(a:dc v):cV (0,1) v=v:=mj (ä .a a.ne) a .c
theorem wL(m:Fr×Fr->Fr):∀(ps:List (Fr×Fr)) (a:Fr),dc a->(∀p∈ps,m p=(0,1))->ps.foldl (λa p=>cV a (m p)) a=a
 |[],_,_,_=>rfl
 |p::ps,a,ha,h=>by
  rw[afY,h p Ġ,WA ha];show wL m ps a ha λq b=>h q (Ě _ b)
def Gg(m:Fr×Fr->Fr)(v:Fr)(b:dc v)(ps:List (Fr×Fr))(k:Nat)(g:k<ps.length)(d:m ps[k]=v)(h:∀i (hi:i<ps.length),i≠k->m ps[i]=(0,1)):ps.foldl (λa p=>cV a (m p)) (0,1)=v:=by
 let e:ps=ps.take k++ps[k]::ps.drop (k+1):=by rw[<-afd g,afF]
 let c:∀p∈ps.take k,m p=(0,1):=λp hp=>by
  let⟨i,hi,e⟩:=θ hp;rw[ϑ] at hi;rw[Ϡ] at e;rw[<-e];show h i .b .b
 let f:∀p∈ps.drop (k+1),m p=(0,1):=λp hp=>by
  let⟨i,hi,e⟩:=θ hp;rw[aeO] at hi;rw[ahs] at e;rw[<-e];show h _ .b .b
 rw[e,af5,afY,wL m _ _ tI c,d,U0 b,wL m _ _ b f]
def jz{k:Nat}{i:Int}(h:k<n):(zU n i)[k]?=À (if (k:Int)=i then (1,1) else (0,1)):=by
 unfold zU;rw[Ĵ,LL h];rfl
def kQ(n:Nat)(i:Int):(zU n i).length=n:=by unfold zU;rw[ą,eU]
def Vm:dc (1,1):=#[.a,.a]
def g_(n:Nat):Sq n (uU n):=by
 show#[by unfold uU;rw[ą,eU],λr a=>?_,λr a u b=>?_]
 .let⟨i,_,e⟩:=adn.mp a;subst e;show kQ n i
 .let⟨i,_,e⟩:=adn.mp a;subst e;let⟨j,_,e⟩:=adn.mp b;subst e;split
  .show Vm
  .show tI
def iA{us vs:List Fr}(h:i<(us.zip vs).length):(us.zip vs)[i]=(us.getD i (0,1),vs.getD i (0,1)):=by
 let h1:i<us.length:=by rw[ϐ] at h;lia
 let h2:i<vs.length:=by rw[ϐ] at h;lia
 rw[List.getElem_zip,ċ,ċ,Đ h1,Đ h2];rfl
def Oe{k:Nat}{vs:List Fr}(c:k<n)(d:vs.length=n)(a:∀v∈vs,dc v):uE (zU n k) vs=vs.getD k (0,1):=by
 unfold uE;show Gg (λp=>aE p.1 p.2) _ (a _ (getD_mem .b)) _ k (by rw[ϐ,kQ];lia) ?_ ?_
 .rw[iA,ċ (l:=zU n k),jz c,ac6 rfl];show Vs (a _ (getD_mem .b))
 .intro i hi b;rw[ϐ,kQ] at hi;rw[iA,ċ (l:=zU n k),jz .b,ac2 .b];show U5 (a _ (getD_mem .b))
def Ny{k:Nat}{us:List Fr}(c:k<n)(d:us.length=n)(a:∀v∈us,dc v):uE us (zU n k)=us.getD k (0,1):=by
 unfold uE;show Gg (λp=>aE p.1 p.2) _ (a _ (getD_mem .b)) _ k (by rw[ϐ,kQ];lia) ?_ ?_
 .rw[iA,ċ (l:=zU n k),jz c,ac6 rfl];show UN (a _ (getD_mem .b))
 .intro i hi b;rw[ϐ,kQ] at hi;rw[iA,ċ (l:=zU n k),jz .b,ac2 .b];show U1 (a _ (getD_mem .b))
def zR{A B:Tb}(a:Sq n A)(d:Sq n B)(h:∀i j:Nat,i<n->j<n->(A.getD i []).getD j (0,1)=(B.getD i []).getD j (0,1)):A=B:=by
 show ahH (by rw[a.len,d.len]) λi h1 h2=>?_;let b:=a.row _ (aeX h1);let f:=d.row _ (aeX h2);show ahH (by rw[b,f]) λj c e=>?_;let:=h i j (by rwa[<-a.len]) (by rwa[<-b]);simp only[ċ,Đ h1,Đ h2,agQ,Đ c,Đ e] at this;show this
def getD_map{M β:Type}{l:List M}{f:M->β}{d:β}{e:M}(h:i<l.length):(l.map f).getD i d=f (l.getD i e):=by
 rw[ċ,Ĵ,ċ,Đ h];rfl
def pR(h:i<n):(uK n).getD i d=(i:Int):=by rw[ċ,LL h];rfl
def Fi{T:Tb}(h:Sq n T)(hi:i<n)(a:j<n):((n_ T).getD i []).getD j (0,1)=(T.getD j []).getD i (0,1):=by
 unfold Q.n_;rw[getD_map (e:=0) (by rwa[eU,h.len]),pR (by rwa[h.len])];unfold kF;rw[getD_map (e:=[]) (by rwa[h.len]),Ï]
def Ap{A B:Tb}(b:Sq n A)(c:Sq n B)(hi:i<n)(a:j<n):((iL A B).getD i []).getD j (0,1)=uE (A.getD i []) (kF B j):=by
 rw[Jw b c,getD_map (e:=[]) (by rwa[b.len]),getD_map (e:=0) (by rwa[eU]),pR a]
def lq{A:Tb}(a:Sq n A)(hi:i<n):A.getD i []∈A:=getD_mem (by rwa[a.len])
def rJ{A:Tb}(a:Sq n A){j:Int}(hi:i<n):(kF A j).getD i (0,1)=(A.getD i []).getD ↥j (0,1):=by
 unfold kF;rw[getD_map (e:=[]) (by rwa[a.len])]
def qt(h:i<n):(uU n).getD i []=zU n i:=by
 unfold uU;rw[getD_map (e:=0) (by rwa[eU]),pR h]
def LK(h:j<n):kF (uU n) j=zU n j:=by
 show ahH (by unfold kF;rw[ą,(g_ n).len,kQ]) λi h1 h2=>?_;let hi:i<n:=by rwa[kQ] at h2
 let e1:=rJ (g_ n) (j:=(j:Int)) hi;rw[qt hi,ċ,Đ h1,Ï,ċ,jz h] at e1;let e2:=jz (i:=(j:Int)) hi;rw[Đ h2] at e2;let c:(kF (uU n) (j:Int))[i]=if (j:Int)=(i:Int) then (1,1) else (0,1):=e1
 let b:(zU n (j:Int))[i]=if (i:Int)=(j:Int) then (1,1) else (0,1):=ĳ e2
 rw[c,b];by_cases a:(i:Int)=j
 .rw[ac6 a,ac6 a.symm]
 .rw[ac2 a,ac2 (λz=>a z.symm)]
def QQ{A:Tb}(a:Sq n A):iL (uU n) A=A:=zR ((g_ n).iL a) a λi j hi b=>by
 let c:=a.col (j:=(j:Int)) .b .b;rw[Ap (g_ n) a hi b,qt hi,Oe hi c.1 c.2,rJ a hi,Ï]
def Sa{A:Tb}(a:Sq n A):iL A (uU n)=A:=zR (a.iL (g_ n)) a λi j hi b=>by
 let m:=lq a hi;rw[Ap a (g_ n) hi b,LK b,Ny b (a.row _ m) (a.low _ m)]
noncomputable def val(u:Fr):Rat:=Rat.divInt u.1 u.2
def ze{t:Int}(a:b≠0):val (fr t b)=Rat.divInt t b :=
 (ahI (nU a).ne a).mpr (bT t b)
def val_inj{u v:Fr}(a:dc u)(b:dc v)(h:val u=val v):u=v :=
 SF a b ((ahI a.ne b.ne).mp h)
def val_add{u v:Fr}(b:dc u)(a:dc v):val (cV u v)=val u+val v:=by
 unfold cV;rw[ze (ä b.ne a.ne)];show(Rat.divInt_add_divInt u.1 v.1 b.ne a.ne).symm
def val_mul{u v:Fr}(b:dc u)(a:dc v):val (aE u v)=val u*val v:=by
 unfold aE;rw[ze (ä b.ne a.ne)];show(Rat.divInt_mul_divInt u.1 v.1).symm
def Gm:val (0,1)=0:=Rat.zero_divInt 1
noncomputable def sN(f:Nat->Rat):Nat->Rat
 |0=>0
 |n+1=>sN f n+f n
theorem fA{f g:Nat->Rat}:∀n,(∀i,i<n->f i=g i)->sN f n=sN g n
 |0,_=>rfl
 |n+1,h=>by
  change sN f n+f n=sN g n+g n;rw[fA n λi hi=>h i .b,h n .b]
theorem Ah(c:Rat)(f:Nat->Rat):∀n,sN (λi=>c*f i) n=c*sN f n
 |0=>by change(0:Rat)=c*0;grind
 |n+1=>by
  change sN (λi=>c*f i) n+c*f n=c*(sN f n+f n);rw[Ah c f n];grind
def MW(c:Rat)(f:Nat->Rat)(n:Nat):sN (λi=>f i*c) n=sN f n*c:=by
 rw[aij,<-Ah];show fA n λi _=>aij _ _
theorem J2(f g:Nat->Rat):∀n,sN (λi=>f i+g i) n=sN f n+sN g n
 |0=>by change(0:Rat)=0+0;grind
 |n+1=>by
  change sN (λi=>f i+g i) n+(f n+g n)=sN f n+f n+(sN g n+g n);rw[J2 f g n];grind
theorem AL:∀n,sN (λ_=>0) n=0
 |0=>rfl
 |n+1=>by change sN (λ_=>0) n+0=0;rw[AL n];grind
theorem Ff(f:Nat->Nat->Rat)(m:Nat):∀n,sN (λi=>sN (f i) m) n=sN (λj=>sN (λi=>f i j) n) m
 |0=>(AL m).symm
 |n+1=>by
  change sN (λi=>sN (f i) m) n+sN (f n) m=sN (λj=>sN (λi=>f i j) n+f n j) m;rw[Ff f m n,J2]
noncomputable def Kj(r x:List Fr):Nat->Fr
 |0=>(0,1)
 |k+1=>cV (Kj r x k) (aE (r.getD k (0,1)) (x.getD k (0,1)))
def qB{l:List Fr}(h:∀u∈l,dc u)(k:Nat):dc (l.getD k (0,1)):=by
 by_cases a:k<l.length
 .show h _ (getD_mem a)
 .rw[ċ,Ϲ .b];show tI
theorem Bp{r x:List Fr}(d:∀u∈r,dc u)(c:∀u∈x,dc u):∀k,dc (Kj r x k)/\val (Kj r x k)=sN (λi=>val (r.getD i (0,1))*val (x.getD i (0,1))) k
 |0=>#[tI,Gm]
 |k+1=>by
  let⟨a,b⟩:=Bp d c k;let h1:=qB d k;let h2:=qB c k;show#[uY a (bC h1 h2),?_];change val (cV _ (aE _ _))=sN _ k+_;rw[val_add a (bC h1 h2),val_mul h1 h2,b]
theorem yn(r x:List Fr)(b:r.length=x.length):∀k,k<=r.length->Kj r x k=((r.zip x).take k).foldl (λa p=>cV a (aE p.1 p.2)) (0,1)
 |0,_=>rfl
 |k+1,h=>by
  rw[xZ .b .b,af5,<-yn r x b k .b];rfl
def LX{r x:List Fr}(h1:r.length=n)(h2:x.length=n):uE r x=Kj r x n:=by
 rw[yn r x .b n .b,aeE (by rw[ϐ];lia)];rfl
def JL{r x:List Fr}(h1:r.length=n)(h2:x.length=n)(b:∀u∈r,dc u)(a:∀u∈x,dc u):val (uE r x)=sN (λi=>val (r.getD i (0,1))*val (x.getD i (0,1))) n:=by
 rw[LX h1 h2];show(Bp b a n).2
def sZ{M:Type}{P:M->Prop}(c:∀a b,P a->P b->a=b){a:M}(h:P a):a=@ö M #[a] P :=
 c _ _ h (@Classical.epsilon_spec M P #[a,h])
noncomputable def zw:Nat->Nat
 |0=>0
 |n+1=>if (zw n+1)*(zw n+1)<=n+1 then zw n+1 else zw n
theorem II:∀n,zw n*zw n<=n
 |0=>ú _
 |n+1=>by
  let:=II n;unfold zw;split<;>lia
theorem LJ:∀n,n<(zw n+1)*(zw n+1)
 |0=>by decide
 |n+1=>by
  let h:=LJ n;unfold zw;split
  .let:(zw n+1)*(zw n+1)<(zw n+1+1)*(zw n+1+1):=Nat.mul_lt_mul'' .b .b;lia
  .lia
noncomputable def rt(k:Int):Int:=(zw ↥k:Int)
def iI(k:Int):0<=rt k:=by unfold rt;lia
def Ge(h:0<=k):rt k*rt k<=k:=by
 let:=II ↥k;unfold rt;let e:((zw ↥k*zw ↥k:Nat):Int)<=((↥k:Nat):Int):=by lia
 rw[Ϻ] at e;lia
def PU(h:0<=k):k<(rt k+1)*(rt k+1):=by
 let:=LJ ↥k;unfold rt;let e:((↥k:Nat):Int)<(((zw ↥k+1)*(zw ↥k+1):Nat):Int):=by lia
 rw[Ϻ] at e;simp only[Int.natCast_add,Int.natCast_one] at e;lia
def Em(c:0<=a)(h:a*a<b*b)(d:0<=b):a<b:=by
 apply ģ;intro e;let:b*b<=a*a:=Ť .b .b d c;lia
def Js(c:0<=a)(h:a<=b):a*a<=b*b:=Ť h h c .b
def fe(d:0<=r)(h1:r*r<=k)(h2:k<(r+1)*(r+1)):r=rt k:=by
 let e:0<=k:=ahJ (Ϗ d d) h1;let a:=Ge e;let b:=PU e;let c:=iI k;let:=Em d (.b:r*r<(rt k+1)*(rt k+1)) .b;let:=Em c (.b:rt k*rt k<(r+1)*(r+1)) .b;lia
def Cu(h:0<=k)(a:0<=d):d<rt k+1↔d*d<=k:=by
 constructor
 .intro z;show ahJ (Js a .b) (Ge h)
 .intro z;show Em a (by let:=PU h;lia) (by let:=iI k;lia)
def Lv(c:0<=k)(a:0<r)(h:k<r*r):0<=(r+k.fdiv r).fdiv 2/\(r+k.fdiv r).fdiv 2<r/\k<((r+k.fdiv r).fdiv 2+1)*((r+k.fdiv r).fdiv 2+1):=by
 rw[aea k .b,aea _ .a];let e:=Int.mul_ediv_add_emod k r;let g:=ť k (.b:r≠0);let i:=Ŧ k a;let l:0<=k/r:=agm c .b;let o:k/r<r:=ah4 a h;generalize k/r=q at *;generalize k%r=m at *;let f:2*((r+q)/2)<=r+q:=by lia
 let b:r+q+1<=2*((r+q)/2)+2:=by lia
 show#[.b,.b,?_];generalize (r+q)/2=n at *;let j:(r+q+1)*(r+q+1)<=(2*n+2)*(2*n+2):=Js .b b
 let d:0<=(r-(q+1))*(r-(q+1)):=by
  obtain z|z:=ag3 0 (r-(q+1))
  .show Ϗ z z
  .show ae2 z z
 grind
def Av(k:Int):Prop:=∀d:Int,3<=d->d*d<=k->d%2=1->¬d∣k
open Classical in
def aT(k:Int):Bool:=decide (k=2\/(3<=k/\k%2=1/\Av k))
open Classical in
def cQ:aT k=Á↔k=2\/(3<=k/\k%2=1/\Av k):=by unfold aT;show aeC
def az(h:aT k=Á):2<=k:=by obtain h|h:=cQ.mp h<;>lia
noncomputable def yb(n:Nat)(m:Nat):Bool:=@Nat.rec (λ_=>Bool) Á (λi a=>cond (Nat.beq (n%(2*i+3)) 0) Â a) m
theorem BL{n:Nat}:∀{m:Nat},yb n m=Á->∀i,i<m->n%(2*i+3)≠0
 |0,_,i,hi=>absurd hi (af0 _)
 |m+1,h,i,hi=>by
  let h':cond (Nat.beq (n%(2*m+3)) 0) Â (yb n m)=Á:=h;cases a:Nat.beq (n%(2*m+3)) 0 with
  |true=>rw[a] at h';cases h'
  |false =>
   rw[a] at h';obtain z|z:=ahK.mp hi
   .show BL h' i z
   .subst z;intro e;rw[e] at a;cases a
def CK{m:Nat}(h:yb n m=Á)(k:n<(2*m+3)*(2*m+3)):Av (n:Int):=by
 intro d l g j a
 let i:d<(2*m+3:Int):=Em .b (by
  let:(n:Int)<(((2*m+3)*(2*m+3):Nat):Int):=by lia
  rw[Ϻ] at this;simp only[Int.natCast_add,Ϻ] at this
  show Int.lt_of_le_of_lt g this) .b
 let z:=BL h ((↥d-3)/2) .b;let e:2*((↥d-3)/2)+3=↥d:=by lia
 rw[e] at z;let⟨c,f⟩:=a;apply z
 let b:↥d∣n:=by
  let:(↥d:Int)∣(n:Int):=#[c,by rw[f];congr 1;lia];show Int.natCast_dvd_natCast.mp this
 show agJ b
def jT{m:Nat}(h:yb n m=Á)(c:3<=n)(b:n%2=1)(a:n<(2*m+3)*(2*m+3)):aT (n:Int)=Á :=
 cQ.mpr (.inr #[.b,.b,CK h a])
def PB:Int:=1070000011
def xu:aT PB=Á:=jT (n:=1070000011) (m:=16384) .d .a .a .a
def Pf:Nat->Int->Int
 |0,k=>k
 |n+1,k=>if aT k then k else Pf n (k+2)
def pf(k:Int):Int:=if k<3 then 2 else Pf 1073741824 (k+1-k%2)
theorem wo:∀(n:Nat) (k p:Int),aT p=Á->k<=p->(p-k)%2=0->p-k<=2*n->aT (Pf n k)=Á/\k<=Pf n k/\Pf n k<=p/\(Pf n k-k)%2=0
 |0,k,p,hp,h1,h2,f=>by
  let:k=p:=by lia
  subst this;show#[hp,ń _,ń _,by unfold Pf;lia]
 |n+1,k,p,hp,h1,h2,f=>by
  unfold Pf;split
  .rename_i h;show#[h,ń _,h1,.b]
  .rename_i h;let e:k≠p:=by rintro rfl;show h hp
   let⟨a,b,c,d⟩:=wo n (k+2) p hp .b .b .b;show#[a,.b,c,.b]
def bQ:aT 2=Á:=cQ.mpr (.inl rfl)
def qE(h:k<=PB):aT (pf k)=Á:=by
 unfold pf;split
 .show bQ
 .show(wo _ _ PB xu (by unfold PB at *;lia) (by unfold PB at *;lia) (by unfold PB at *;lia)).1
def Ve(h:k<=PB):pf k<=PB:=by
 unfold pf;split
 .decide
 .show(wo _ _ PB xu (by unfold PB at *;lia) (by unfold PB at *;lia) (by unfold PB at *;lia)).2.2.1
def pT(hp:aT p=Á)(h:k<=p)(a:p%2=1)(c:p<=PB)(b:3<=k):pf k<=p:=by
 unfold pf;rw[ac2 .b];show(wo _ _ p hp .b .b (by unfold PB at *;lia)).2.2.1
def zM(h:k<=PB)(e:3<=k):pf k%2=1/\k<=pf k:=by
 unfold pf;rw[ac2 .f];let⟨a,b,c,d⟩:=wo 1073741824 (k+1-k%2) PB xu (by unfold PB at *;omega) (by unfold PB at *;omega) (by unfold PB at *;omega);omega
def Ib(k b m:Int)(r:Option Int):Prop:=match r with
 |none=>∀d,b<=d->d<m->(d-b)%2=0->¬d∣k
 |some d=>b<=d/\d<m/\(d-b)%2=0/\d∣k/\∀d',b<=d'->d'<d->(d'-b)%2=0->¬d'∣k
def Ib.uniq:∀r r',Ib k b m r->Ib k b m r'->r=r'
 |none,none,_,_=>rfl
 |none,À d,h,h'=>absurd h'.2.2.2.1 (h d h'.1 h'.2.1 h'.2.2.1)
 |some d,none,h,h'=>absurd h.2.2.2.1 (h' d h.1 h.2.1 h.2.2.1)
 |some d,À d',h,h'=>by
  obtain z|z|z:=afI d d'
  .show absurd h.2.2.2.1 (h'.2.2.2.2 d h.1 z h.2.2.1)
  .rw[z]
  .show absurd h'.2.2.2.1 (h.2.2.2.2 d' h'.1 z h'.2.2.1)
theorem Ib.ex(k b m:Int):∀n:Nat,(∃d,Ib k b m (À d))\/∀d,b<=d->d<m->d<b+2*n->(d-b)%2=0->¬d∣k
 |0=>.inr λd h1 h2 c=>by lia
 |n+1=>by
  obtain h|h:=Ib.ex k b m n
  .show .inl h
  .by_cases a:b+2*n<m/\(b+2*n:Int)∣k
   .show .inl #[b+2*n,.b,a.1,.b,a.2,λd' h1 h2 c=>h d' h1 .b h2 c]
   .show .inr λd h1 h2 c g f=>?_;by_cases e:d=b+2*n
    .subst e;show a #[h2,f]
    .show h d h1 h2 .b g f
def Ur(k b m:Int):Option Int:=ö (Ib k b m)
def AH{r:Option Int}(h:Ib k b m r):r=Ur k b m:=sZ Ib.uniq h
def DM(k b m:Int):Ib k b m (Ur k b m):=by
 obtain⟨d,h⟩|h:=Ib.ex k b m ↥(m-b)
 .rwa[<-AH h]
 .let z:Ib k b m none:=λd h1 h2 a=>h d h1 h2 .f a;rwa[<-AH z]
def tH(k b e:Int):Option Int:=Ur k b (if rt k+1<e then rt k+1 else e)
def jk:k.fmod d=0↔d∣k:=#[Int.dvd_of_fmod_eq_zero,Int.fmod_eq_zero_of_dvd]
def NW(a:3<=k)(e:k%2=1):(tH k 3 k).isNone=aT k:=by
 let hz:=DM k 3 (if rt k+1<k then rt k+1 else k)
 let g:rt k+1<=k:=by
  let:=(Cu (.b:0<=k) (.b:0<=k)).mp;apply ģ;intro h;let z:=this .b;let:3*k<=k*k:=Ť a (ń k) .b .b;lia
 let b:(if rt k+1<k then rt k+1 else k)=rt k+1:=by split<;>lia
 rw[b] at hz;unfold tH;rw[b];cases c:Ur k 3 (rt k+1) with
 |none =>
  rw[c] at hz;symm;show cQ.mpr (.inr #[a,e,λd h1 h2 f=>hz d h1 ((Cu .b .b).mpr h2) .b])
 |some d =>
  rw[c] at hz;symm;change aT k=Â;cases hp:aT k with
  |false=>rfl
  |true =>
   obtain z|⟨_,_,z⟩:=cQ.mp hp
   .lia
   .let h1:3<=d:=hz.1;show absurd hz.2.2.2.1 (z d hz.1 ((Cu .b .b).mp hz.2.1) (by let:=hz.2.2.1;lia))
def iD(hp:aT p=Á)(o:0<d)(h:d∣p):d=1\/d=p:=by
 let⟨e,he⟩:=h;let j:=az hp
 let k:0<e:=by
  apply ģ;intro g;let:d*e<=0:=adL .b .b;lia
 obtain h2|⟨n,q,i⟩:=cQ.mp hp
 .let:d<=2:=by
   let:=ĝ (.a:(0:Int)<2) (#[e,.b]:d∣2);lia
  lia
 .apply ģ;intro g;let l:d≠1:=λz=>g (.inl z);let hd2:d≠p:=λz=>g (.inr z);let m:e≠1:=by rintro rfl;lia
  let a:d%2=1:=by
   obtain z|z:=ae4 d
   .let⟨c,f⟩:=Ŷ z;rw[f,ı] at he;lia
   .show z
  let b:e%2=1:=by
   obtain z|z:=ae4 e
   .let⟨c,f⟩:=Ŷ z;rw[f,ϵ] at he;lia
   .show z
  obtain z|z:=ag3 d e
  .show i d .b (by rw[he];show Ł z .b) a #[e,he]
  .show i e .b (by rw[he];show adR z .b) b #[d,by rw[he,ī]]
def euclid(hp:aT p=Á)(h:p∣a*b):p∣a\/p∣b:=by
 let d:=az hp
 let e:(0:Int)<(È p a:Nat):=by
  let:=agd a (.b:p≠0);lia
 obtain z|z:=iD hp e (Ϧ p a)
 .right
  let c:η p.natAbs a.natAbs:=by
   change Nat.gcd p.natAbs a.natAbs=1;let:È p a=1:=by lia
   show this
  let:=ad5.mpr h;rw[ļ] at this;show ad5.mp (c.dvd_of_dvd_mul_left this)
 .left;rw[<-z];show ϧ p a
def Br:a%m=b%m↔m∣a-b:=by
 rw[Int.emod_eq_emod_iff_emod_sub_eq_zero];show#[Ŷ,aex]
theorem mM(x m:Int):∀n:Nat,(x%m)^n%m=x^n%m
 |0=>by rw[Ń,Ń]
 |n+1=>by rw[ĥ,ĥ,ϓ,mM x m n,agf _ (Ϩ m),<-ϓ]
def LF{α:.L}(g:α.Nodup)(d:∀x,x∈α->x∈L):∃b,L.Perm (α++b):=by
 induction α generalizing L with
 |nil=>show#[L,ahe _]
 |cons x α f =>
  let e:x∈L:=d x (Ġ ..);let a:=aeB.mp g;let⟨b,h⟩:=f (L:=L.erase x) a.2 λy c=>(ag4 (by rintro rfl;show a.1 c)).mpr (d y (Ě _ c));show#[b,(Λ e).trans (Ŏ x h)]
noncomputable def dY:.L->Int
 |[]=>1
 |x::l=>x*dY l
def vk{l a:.L}(h:l.Perm a):dY l=dY a:=by
 induction h with
 |nil=>rfl
 |cons x _ b=>show x*_=x*_;rw[b]
 |swap x y l=>show y*(x*_)=x*(y*_);rw[ϵ]
 |trans _ _ h1 h2=>show h1.trans h2
theorem yR{p a:Int}:∀l:.L,p∣dY (l.map λx=>a*x%p)-a^l.length*dY l
 |[]=>#[0,by simp[dY]]
 |x::l=>by
  let⟨c,b⟩:=yR (p:=p) (a:=a) l;let e:=Int.emod_def (a*x) p;let e1:dY (List.map (λx=>a*x%p) (x::l))=(a*x%p)*dY (l.map λx=>a*x%p):=rfl;let e2:dY (x::l)=x*dY l:=rfl;rw[e1,e2,ŭ,ĥ];generalize dY (l.map λx=>a*x%p)=u at *;generalize a*x/p=q at *;generalize a*x%p=r at *;generalize a^l.length=t at *;generalize dY l=v at *;let d:u=t*v+p*c:=by lia
  show#[a*x*c-q*u,by rw[e];grind]
theorem jL{p:Int}(hp:aT p=Á):∀l:.L,(∀x,x∈l->¬p∣x)->¬p∣dY l
 |[],_=>λh=>by
  let:=az hp;let:=ĝ .a (show p∣(1:Int) from h);lia
 |x::l,a=>λh=>by
  obtain z|z:=euclid hp (show p∣x*dY l from h)
  .show a x (Ġ ..) z
  .show jL hp l (λy b=>a y (Ě _ b)) z
def cG(h:p∣x)(h1:-p<x)(h2:x<p):x=0:=by
 let⟨c,rfl⟩:=h;let hp:0<p:=by lia
 by_cases a:c=0
 .rw[a,ś]
 .obtain z|z:=Ν a
  .let:p*c<=p*(-1):=Ł .b .b;lia
  .let:p*1<=p*c:=Ł .b .b;lia
def Io(hp:aT p=Á)(ha:¬p∣a):p∣a^↥(p-1)-1:=by
 let q:=az hp;letI L:.L:=(Ø ↥(p-1)).map λi:Nat=>(i:Int)+1
 let k:∀x,x∈L↔1<=x/\x<p:=by
  intro x;simp only[L,adn,aeh];constructor
  .rintro⟨i,h,rfl⟩;lia
  .rintro⟨h1,h2⟩;show#[↥(x-1),.b,.b]
 let m:L.Nodup:=by
  show af6.mpr (afj ?_ (agT (n:=↥(p-1))));intro i j _ _ v;lia
 let g:L.length=↥(p-1):=by simp[L]
 clear_value L
 let e:∀x,x∈L->¬p∣x:=λx d r=>by
  let:=(k x).mp d;let:=cG r .b .b;lia
 let s:(L.map λx=>a*x%p).Nodup:=by
  show af6.mpr (afj ?_ m);intro x y d l u he;let h1:p∣a*(x-y):=by rw[afy];show Br.mp he
  obtain z|z:=euclid hp h1
  .show ha z
  .let:=(k x).mp d;let:=(k y).mp l;let:=cG z .b .b;lia
 let w:∀x,x∈(L.map λx=>a*x%p)->x∈L:=by
  intro y l;let⟨x,d,rfl⟩:=adn.mp l;let B:=ť (a*x) (.b:p≠0);let h1:=Ŧ (a*x) (.b:0<p);show(k _).mpr #[?_,h1];apply ģ;intro C;let hz:a*x%p=0:=by lia
  obtain z|z:=euclid hp (Ŷ hz)
  .show ha z
  .show e x d z
 let⟨t,b⟩:=LF s w
 let o:t=[]:=by
  let:=b.length_eq;rw[ų,ą] at this;show af4 .b
 rw[o,afX] at b;let f:=yR (p:=p) (a:=a) L;rw[<-vk b,g] at f
 let h2:p∣(a^↥(p-1)-1)*dY L:=by
  let⟨c,A⟩:=f;show#[-c,by rw[Int.sub_mul,Ő,ahh];lia]
 obtain z|z:=euclid hp h2
 .show z
 .show absurd z (jL hp L e)
def UL(hp:aT p=Á)(h2:p≠2)(ha:¬p∣a):p∣a^↥((p-1)/2)-1\/p∣a^↥((p-1)/2)+1:=by
 let d:p%2=1:=by obtain z|z:=cQ.mp hp<;>lia
 let c:=az hp;let b:=Io hp ha;rw[(.b:↥(p-1)=↥((p-1)/2)+↥((p-1)/2)),Ŭ] at b;generalize a^↥((p-1)/2)=y at *;show euclid hp (by rwa[(by grind:(y-1)*(y+1)=y*y-1)]:p∣(y-1)*(y+1))
noncomputable def bK(k p:Int):Int:=if k%p=0 then 0 else if p=2 then 1 else if (k%p)^↥((p-1)/2)%p=1 then 1 else -1
def eK(h:p∣k):bK k p=0:=ac6 (aex h)
def zE(k p:Int):bK (k%p) p=bK k p:=by unfold bK;rw[agf _ (Ϩ p)]
def pJ(h:k%p=l%p):bK k p=bK l p:=by unfold bK;rw[h]
def fk(hp:aT p=Á)(h2:p≠2)(b:¬p∣k):bK k p=1↔p∣k^↥((p-1)/2)-1:=by
 let a:=az hp;unfold bK;rw[ac2 (λz=>b (Ŷ z)),ac2 h2,mM,<-Br,agE (.a:(0:Int)<=1) (.b:(1:Int)<p)];split
 .rename_i h;show#[λ_=>h,λ_=>rfl]
 .rename_i h;show#[λz=>absurd z .a,λz=>absurd z h]
def cE(a:¬p∣k):bK k p=1\/bK k p=-1:=by
 unfold bK;rw[ac2 (λz=>a (Ŷ z))];split
 .show .inl rfl
 .split
  .show .inl rfl
  .show .inr rfl
def ig(hp:aT p=Á)(h2:p≠2)(a:¬p∣k):bK k p=-1↔p∣k^↥((p-1)/2)+1:=by
 let g:=az hp;let e:=fk hp h2 a;obtain z|z:=UL hp h2 a
 .rw[e.mpr z];show#[λw=>absurd w .a,λw=>?_]
  let:p∣2:=by
   let⟨c,b⟩:=z;let⟨d,f⟩:=w;show#[d-c,by rw[afy];lia]
  let:=ĝ .a this;lia
 .show#[λ_=>z,λ_=>?_];obtain w|w:=cE a
  .let:p∣2:=by
    let⟨c,b⟩:=e.mp w;let⟨d,f⟩:=z;show#[d-c,by rw[afy];lia]
   let:=ĝ .a this;lia
  .show w
def gF(hp:aT p=Á)(a b:Int):bK (a*b) p=bK a p*bK b p:=by
 let n:=az hp;by_cases ha:p∣a
 .rw[eK ha,ag5,eK (Ĺ ha #[b,rfl])]
 by_cases g:p∣b
 .rw[eK g,ś,eK (Ĺ g #[a,ī ..])]
 let f:¬p∣a*b:=λz=>by obtain z|z:=euclid hp z<;>contradiction
 by_cases h2:p=2
 .subst h2;let e:∀k:Int,¬(2:Int)∣k->bK k 2=1:=λk o=>by unfold bK;rw[ac2 (λz=>o (Ŷ z)),ac6 rfl]
  rw[e _ ha,e _ g,e _ f];rfl
 let j:(a*b)^↥((p-1)/2)=a^↥((p-1)/2)*b^↥((p-1)/2):=ahi ..;obtain i|i:=cE ha<;>obtain h|h:=cE g<;>rw[i,h]
 .show(fk hp h2 f).mpr ?_;let⟨c,l⟩:=(fk hp h2 ha).mp i;let⟨d,m⟩:=(fk hp h2 g).mp h;rw[j];show#[c*d*p+c+d,by grind]
 .show(ig hp h2 f).mpr ?_;let⟨c,l⟩:=(fk hp h2 ha).mp i;let⟨d,m⟩:=(ig hp h2 g).mp h;rw[j];show#[c*d*p-c+d,by grind]
 .show(ig hp h2 f).mpr ?_;let⟨c,l⟩:=(ig hp h2 ha).mp i;let⟨d,m⟩:=(fk hp h2 g).mp h;rw[j];show#[c*d*p+c-d,by grind]
 .show(fk hp h2 f).mpr ?_;let⟨c,l⟩:=(ig hp h2 ha).mp i;let⟨d,m⟩:=(ig hp h2 g).mp h;rw[j];show#[c*d*p-c-d,by grind]
def CC(k d:Int)(r:Int×Int):Prop:=0<=r.1/\k=r.2*d^↥r.1/\¬d∣r.2
def CC.lt(f:2<=d){r r':Int×Int}(h:CC k d r)(h':CC k d r')(g:r.1<r'.1):False:=by
 let⟨c,a,b⟩:=h;let⟨b1,b2,b3⟩:=h';let e:↥r'.1=(↥r'.1-↥r.1-1)+1+↥r.1:=by lia
 rw[e,Ŭ,ĥ] at b2;let hp:d^↥r.1≠0:=Int.pow_ne_zero .b;let z:r.2*d^↥r.1=(r'.2*d^(↥r'.1-↥r.1-1)*d)*d^↥r.1:=by rw[<-a,b2];grind
 let w:=ael hp z;show b #[r'.2*d^(↥r'.1-↥r.1-1),by rw[w,ī]]
def CC.uniq(a:2<=d)(r r':Int×Int)(h:CC k d r)(h':CC k d r'):r=r':=by
 let h1:r.1=r'.1:=by
  obtain z|z|z:=afI r.1 r'.1
  .show(CC.lt a h h' z).elim
  .show z
  .show(CC.lt a h' h z).elim
 let hp:d^↥r.1≠0:=Int.pow_ne_zero .b
 let h2:r.2=r'.2:=by
  let:=h.2.1.symm.trans h'.2.1;rw[<-h1] at this;show ael hp this
 show ahd h1 h2
theorem CC.ex{d:Int}(i:2<=d):∀(n:Nat) (k:Int),k≠0->k.natAbs<=n->∃r,CC k d r
 |0,k,e,j=>by lia
 |n+1,k,e,j=>by
  by_cases h:d∣k
  .let⟨c,a⟩:=h;let b:c≠0:=by rintro rfl;rw[ś] at a;show e a
   let f:c.natAbs<k.natAbs:=by
    rw[a,ļ];let:2*c.natAbs<=d.natAbs*c.natAbs:=afL _ .b;lia
   let⟨r,h1,h2,g⟩:=CC.ex i n c b .b;show#[(r.1+1,r.2),.e,?_,g];dsimp only;rw[(.b:↥(r.1+1)=↥r.1+1),ĥ,a];rw[(by rw[<-h2]:d*c=d*(r.2*d^↥r.1))];grind
  .show#[(0,k),ń 0,by dsimp only;rw[show ↥(0:Int)=0 from rfl,Ń,Ċ],h]
def a9(k d:Int):Int×Int:=ö (CC k d)
def nt(a:2<=d){r:Int×Int}(h:CC k d r):a9 k d=r:=(sZ (CC.uniq a) h).symm
def fE(a:2<=d)(h:k≠0):CC k d (a9 k d):=by
 let⟨r,b⟩:=CC.ex a k.natAbs k h (ú _);rwa[nt a b]
def u_{v:Nat}(a:2<=d)(h:¬d∣k):a9 (k*d^v) d=((v:Int),k) :=
 nt a #[.e,by dsimp only;rw[Ï],h]
def Fu(hp:aT p=Á)(ha:a≠0)(e:b≠0):a9 (a*b) p=((a9 a p).1+(a9 b p).1,(a9 a p).2*(a9 b p).2):=by
 let c:=az hp;let⟨f,d,g⟩:=fE c ha;let⟨b1,b2,b3⟩:=fE c e;show nt c #[.e,?_,λz=>by obtain w|w:=euclid hp z<;>contradiction];dsimp only;rw[(.b:↥((a9 a p).1+(a9 b p).1)=↥(a9 a p).1+↥(a9 b p).1),Ŭ];generalize ↥(a9 a p).1=m at *;generalize ↥(a9 b p).1=n at *;generalize (a9 a p).2=u at *;generalize (a9 b p).2=v at *;rw[d,b2];generalize p^m=x;generalize p^n=y;grind
def BJ(f:2<=d)(h:d∣k)(b:k≠0):k.fdiv d*d=k/\k.fdiv d≠0/\(k.fdiv d).natAbs<k.natAbs:=by
 let⟨c,rfl⟩:=h;let e:(d*c).fdiv d=c:=ad8 c .b;rw[e];let a:c≠0:=by rintro rfl;simp at b
 show#[ī ..,a,?_];rw[ļ];let:2*c.natAbs<=d.natAbs*c.natAbs:=afL _ .b;lia
def cls(k p:Int):Int×Int:=((a9 k p).1%2,if p=2 then (a9 k p).2%8 else bK (a9 k p).2 p)
noncomputable def b1(c:Bool):Int:=if c then 1 else 0
noncomputable def iH(x y:Int×Int):Bool:=decide ((b1 (decide (x.2%4=3)&&decide (y.2%4=3))+b1 (decide (x.1=1)&&(decide (y.2=3) || decide (y.2=5)))+b1 (decide (y.1=1)&&(decide (x.2=3) || decide (x.2=5))))%2=0)
noncomputable def GF(x y:Int×Int)(p:Int):Bool:=decide ((if x.1=1 then y.2 else 1)*(if y.1=1 then x.2 else 1)*(if x.1=1/\y.1=1 then bK (-1) p else 1)=1)
def aq(a b p:Int):Bool:=if p=0 then decide (0<a) || decide (0<b) else if p=2 then iH (cls a p) (cls b p) else GF (cls a p) (cls b p) p
noncomputable def cg(x y:Int×Int)(p:Int):Int×Int:=((x.1+y.1)%2,if p=2 then x.2*y.2%8 else x.2*y.2)
def bE(hp:aT p=Á)(ha:a≠0)(c:b≠0):cls (a*b) p=cg (cls a p) (cls b p) p:=by
 unfold cls cg;rw[Fu hp ha c];dsimp only;by_cases h:p=2
 .rw[ac6 h,ac6 h,ac6 h,ac6 h];show ahd .e (ϓ ..)
 .rw[ac2 h,ac2 h,ac2 h,ac2 h];show ahd .e (gF hp ..)
noncomputable def CO:List (Int×Int):=[(0,1),(0,-1),(1,1),(1,-1)]
noncomputable def C2:List (Int×Int):=[(0,1),(0,3),(0,5),(0,7),(1,1),(1,3),(1,5),(1,7)]
noncomputable def dn(hp:2<=p)(h2:p≠2)(ha:a≠0):cls a p∈CO:=by
 let⟨_,_,b⟩:=fE hp ha;unfold cls;rw[ac2 h2];obtain z|z:=ae4 (a9 a p).1<;>obtain w|w:=cE b<;>rw[z,w]<;>decide
def dm(ha:a≠0):cls a 2∈C2:=by
 let⟨_,_,b⟩:=fE (d:=2) .a ha;let h':(a9 a 2).2%2≠0:=λz=>b (Ŷ z);let:(a9 a 2).2%8=1\/(a9 a 2).2%8=3\/(a9 a 2).2%8=5\/(a9 a 2).2%8=7:=by lia
 unfold cls;rw[ac6 rfl];obtain z|z:=ae4 (a9 a 2).1<;>obtain w|w|w|w:=this<;>rw[z,w]<;>decide
def vQ(hp:2<=p):bK (-1) p∈[(1:Int),-1]:=by
 let:¬p∣-1:=λz=>by
  let:=ĝ .a ((aeL).mp z);lia
 obtain w|w:=cE this<;>rw[w]<;>decide
noncomputable def oe(x y:Int×Int)(m:Int):Bool:=decide ((if x.1=1 then y.2 else 1)*(if y.1=1 then x.2 else 1)*(if x.1=1/\y.1=1 then m else 1)=1)
def R5(x y:Int×Int)(p:Int):GF x y p=oe x y (bK (-1) p):=rfl
def TM:∀x∈CO,∀y∈CO,∀m∈[(1:Int),-1],oe x y m=oe y x m:=.a
def Ql:∀x∈C2,∀y∈C2,iH x y=iH y x:=.a
def Ub:∀x∈CO,∀y∈CO,∀z∈CO,∀m∈[(1:Int),-1],oe x (cg y z 3) m=(oe x y m==oe x z m):=by decide +kernel
def SE:∀x∈C2,∀y∈C2,∀z∈C2,iH x (cg y z 2)=(iH x y==iH x z):=by decide +kernel
def Ws:∀x∈CO,∀y∈CO,cg (cg x y 3) y 3=x:=.a
def U7:∀x∈C2,∀y∈C2,cg (cg x y 2) y 2=x:=.a
def Uv:∀x∈CO,∀m∈[(1:Int),-1],oe x (cg (0,m) x 3) m=Á:=.a
def Qc:∀x∈C2,iH x (cg (0,7) x 2)=Á:=.a
def Po:∀x∈CO,∀y∈CO,∀m∈[(1:Int),-1],oe x (cg y y 3) m=Á:=.a
def IE:∀x∈C2,∀y∈C2,iH x (cg y y 2)=Á:=.a
def b7{x y:Int×Int}(h:p≠2):cg x y p=cg x y 3:=by unfold cg;rw[ac2 h,ac2 .a]
def Pl(p:Int):Prop:=p=0\/aT p=Á
def aR:aq a b 0=(decide (0<a) || decide (0<b)):=ac6 rfl
def bu:aq a b 2=iH (cls a 2) (cls b 2):=by unfold aq;rw[ac2 .a,ac6 rfl]
def bz(c:p≠0)(h2:p≠2):aq a b p=oe (cls a p) (cls b p) (bK (-1) p):=by unfold aq;rw[ac2 c,ac2 h2,R5]
def Pl.cases(h:Pl p){Q:Prop}(b:p=0->Q)(h2:p=2->Q)(a:aT p=Á->p≠2->p≠0->2<=p->Q):Q:=by
 obtain z|z:=h
 .show b z
 .let:=az z;by_cases w:p=2
  .show h2 w
  .show a z w .b this
def ba(h:Pl p)(ha:a≠0)(e:b≠0):aq b a p=aq a b p:=by
 show h.cases (λz=>?_) (λz=>?_) (λhp h2 d c=>?_)
 .subst z;rw[aR,aR,Bool.or_comm]
 .subst z;rw[bu,bu];show Ql _ (dm e) _ (dm ha)
 .rw[bz d h2,bz d h2];show TM _ (dn c h2 e) _ (dn c h2 ha) _ (vQ c)
def fg(d:b≠0)(a:c≠0):0<b*c↔(0<b↔0<c):=by
 obtain z|z:=Ν d<;>obtain w|w:=Ν a
 .let:=aeq z w;constructor<;>intro<;>lia
 .let:=aer z w;constructor<;>intro<;>lia
 .let:=afe z w;constructor<;>intro<;>lia
 .let:=Ĥ z w;constructor<;>intro<;>lia
def aS(h:Pl p)(ha:a≠0)(e:b≠0)(d:c≠0):aq a (b*c) p=(aq a b p==aq a c p):=by
 show h.cases (λz=>?_) (λz=>?_) (λhp h2 g f=>?_)
 .subst z;rw[aR,aR,aR];let:=fg e d;by_cases w:0<a
  .simp[w]
  .by_cases x:0<b<;>by_cases y:0<c<;>simp[w,x,y,this]
 .subst z;rw[bu,bu,bu,bE bQ e d];show SE _ (dm ha) _ (dm e) _ (dm d)
 .rw[bz g h2,bz g h2,bz g h2,bE hp e d,b7 h2];show Ub _ (dn f h2 ha) _ (dn f h2 e) _ (dn f h2 d) _ (vQ f)
def vS(hp:aT p=Á)(ha:a≠0)(b:r≠0):cls (a*r*r) p=cls a p:=by
 rw[bE hp (ä ha b) b,bE hp ha b];let c:=az hp;by_cases h2:p=2
 .subst h2;show U7 _ (dm ha) _ (dm b)
 .rw[b7 h2,b7 h2];show Ws _ (dn c h2 ha) _ (dn c h2 b)
def jB(h:Pl p)(ha:a≠0)(c:r≠0):aq (a*r*r) b p=aq a b p:=by
 show h.cases (λz=>?_) (λz=>?_) (λhp h2 d f=>?_)
 .subst z;rw[aR,aR]
  let e:0<a*r*r↔0<a:=by
   rw[ı,fg ha (ä c c)];let:0<r*r:=(fg c c).mpr Iff.rfl;constructor
   .intro z;show z.mpr this
   .intro z;show#[λ_=>this,λ_=>z]
  rw[agP.mpr e]
 .subst z;rw[bu,bu,vS bQ ha c]
 .rw[bz d h2,bz d h2,vS hp ha c]
def DZ(hp:aT p=Á):cls (-1) p=(0,if p=2 then 7 else bK (-1) p):=by
 let a:=az hp
 let b:¬p∣-1:=λz=>by
  let:=ĝ .a ((aeL).mp z);lia
 let e:a9 (-1) p=(0,-1):=nt a #[ń 0,by dsimp only;rw[show ↥(0:Int)=0 from rfl,Ń,Ċ],b];unfold cls;rw[e];rfl
def qC(h:Pl p)(ha:a≠0):aq a (0-a) p=Á:=by
 let b:0-a=-1*a:=by lia
 show h.cases (λz=>?_) (λz=>?_) (λhp h2 d c=>?_)
 .subst z;rw[aR];simp;lia
 .subst z;rw[bu,b,bE bQ .a ha,DZ bQ,ac6 rfl];show Qc _ (dm ha)
 .rw[bz d h2,b,bE hp .a ha,DZ hp,ac2 h2,b7 h2];show Uv _ (dn c h2 ha) _ (vQ c)
def rh(h:Pl p)(ha:a≠0)(b:r≠0):aq a (r*r) p=Á:=by
 show h.cases (λz=>?_) (λz=>?_) (λhp h2 d c=>?_)
 .subst z;rw[aR];let:0<r*r:=(fg b b).mpr Iff.rfl;simp[this]
 .subst z;rw[bu,bE bQ b b];show IE _ (dm ha) _ (dm b)
 .rw[bz d h2,bE hp b b,b7 h2];show Po _ (dn c h2 ha) _ (dn c h2 b) _ (vQ c)
def rg(hp:2<=p)(h:¬p∣a):a9 a p=(0,a) :=
 nt hp #[ń 0,by dsimp only;rw[show ↥(0:Int)=0 from rfl,Ń,Ċ],h]
def iK(hp:aT p=Á)(h2:p≠2)(ha:¬p∣a)(d:¬p∣b):aq a b p=Á:=by
 let c:=az hp;rw[bz .b h2];unfold cls;rw[rg c ha,rg c d];rfl
def lH(hp:aT p=Á)(h2:p≠2)(h:p∣a-1):bK a p=1:=by
 let b:=az hp;rw[pJ (l:=1) (Br.mpr h)];unfold bK;rw[agE .a .b,ac2 .a,ac2 h2,Int.one_pow,agE .a .b,ac6 rfl]
def HK(e:Int):Nat->List (Int×Int)->Int->Int->List (Int×Int)×Int
 |0,fs,l,_=>(fs,l)
 |n+1,fs,l,b=>match tH l b e with
  |none=>(fs,l)
  |some d=>HK e n (fs++[(d,(a9 l d).1)]) (a9 l d).2 (d+2)
def BO(k:Int):List (Int×Int):=if 0<(a9 k 2).1 then [(2,(a9 k 2).1)] else []
def bJ(k e:Int):List (Int×Int)×Int:=HK e ↥k (BO k) (a9 k 2).2 3
def mJ(f:0<=l)(k:1<=b)(h:tH l b e=À d):b<=d/\d<e/\d*d<=l/\(d-b)%2=0/\d∣l/\∀d',b<=d'->d'<d->(d'-b)%2=0->¬d'∣l:=by
 let z:=DM l b (if rt l+1<e then rt l+1 else e);unfold tH at h;rw[h] at z;let⟨a,j,g,i,c⟩:=z;let h1:d<rt l+1/\d<e:=by split at j<;>omega
 show#[a,h1.2,(Cu f .f).mp h1.1,g,i,c]
def Cc(c:0<=l)(g:1<=b)(h:tH l b e=none):∀d,b<=d->d<e->d*d<=l->(d-b)%2=0->¬d∣l:=by
 let z:=DM l b (if rt l+1<e then rt l+1 else e);unfold tH at h;rw[h] at z;intro d h1 h2 f a;let:=(Cu c .f).mpr f;show z d h1 (by split<;>omega) a
def zt(b:2<=d)(i:0<l)(h:d∣l):0<(a9 l d).2/\2*(a9 l d).2<=l/\1<=(a9 l d).1/\(a9 l d).2∣l:=by
 let⟨h1,h2,f⟩:=fE b (.b:l≠0)
 let a:1<=(a9 l d).1:=by
  apply ģ;intro g;let e:↥(a9 l d).1=0:=by lia
  rw[e,Ń,Ċ] at h2;show f (h2▸h)
 let hp:(2:Int)<=d^↥(a9 l d).1:=by
  let e:↥(a9 l d).1=(↥(a9 l d).1-1)+1:=by lia
  rw[e,ĥ];let:(0:Int)<d^(↥(a9 l d).1-1):=ŕ .b;let:1*2<=d^(↥(a9 l d).1-1)*d:=Ť .b b .a .b;lia
 generalize (a9 l d).2=x at *;generalize d^↥(a9 l d).1=t at *
 let c:0<x:=by
  apply ģ;intro g;let:x*t<=0:=aeo .b .b;lia
 let:x*2<=x*t:=Ł hp .b;show#[c,.b,a,#[t,h2]]
noncomputable def pp:List (Int×Int)->Int
 |[]=>1
 |u::us=>u.1^↥u.2*pp us
theorem vi(u:Int×Int):∀us,pp (us++[u])=pp us*u.1^↥u.2
 |[]=>by change _*1=1*_;rw[Ċ,Ő]
 |v::us=>by
  change v.1^↥v.2*pp (us++[u])=v.1^↥v.2*pp us*_;rw[vi u us,ı]
def g5:Int->List (Int×Int)->Int->Prop
 |a,[],b=>a<b
 |a,u::us,b=>a<u.1/\aT u.1=Á/\1<=u.2/\g5 u.1 us b
theorem g5.snoc{b b':Int}{u:Int×Int}(e:aT u.1=Á)(h1:1<=u.2)(d:b<=u.1)(c:u.1<b'):∀{a us},g5 a us b->g5 a (us++[u]) b'
 |_,[],h=>#[Int.lt_of_lt_of_le h d,e,h1,c]
 |_,_::_,h=>#[h.1,h.2.1,h.2.2.1,g5.snoc e h1 d c h.2.2.2]
structure DQ(k:Int)(fs:List (Int×Int))(l b:Int):Prop where
 rise:g5 1 fs b
 prod:pp fs*l=k
 pos:0<l
 odd:l%2=1
 b3:3<=b
 bo:b%2=1
 free:∀d,3<=d->d<b->d%2=1->¬d∣l
def DQ.prime{fs:List (Int×Int)}(I:DQ k fs l b)(h:tH l b e=À d):aT d=Á:=by
 let⟨h1,h2,r,s,n,j⟩:=mJ (afi I.pos) (by let:=I.b3;lia) h;let p:=I.b3;let m:=I.bo;show cQ.mpr (.inr #[.b,.b,λf g q o i=>?_]);let a:f∣l:=Ĺ i n
 let c:f<d:=by
  let:f*3<=f*f:=Ł g .b;lia
 obtain z|z:=τ f b
 .show I.free f g z o a
 .show j f z c .b a
def DQ.step{fs:List (Int×Int)}(I:DQ k fs l b)(h:tH l b e=À d):DQ k (fs++[(d,(a9 l d).1)]) (a9 l d).2 (d+2):=by
 let⟨h1,h2,B,C,s,n⟩:=mJ (afi I.pos) (by let:=I.b3;lia) h;let w:=I.b3;let r:=I.bo;let⟨t,E,p,i⟩:=zt (.b:2<=d) I.pos s;let⟨x,u,o⟩:=fE (.b:2<=d) (by let:=I.pos;lia:l≠0);show#[I.rise.snoc (I.prime h) p h1 .b,?_,t,?_,.b,.b,λf q A v g=>?_]
 .rw[vi,ı,ī (d^_),<-u,I.prod]
 .let D:=I.odd;let⟨c,j⟩:=i;obtain z|z:=ae4 (a9 l d).2
  .let⟨y,m⟩:=Ŷ z;rw[m,ı] at j;lia
  .show z
 .let a:f∣l:=Ĺ g i;obtain z|z|z:=afI f d
  .obtain y|y:=τ f b
   .show I.free f q y v a
   .show n f y z .b a
  .rw[z] at g;show o g
  .lia
theorem JO{k e:Int}:∀(n:Nat) (fs:List (Int×Int)) (l b:Int),DQ k fs l b->l<=n->∃b',DQ k (HK e n fs l b).1 (HK e n fs l b).2 b'/\tH (HK e n fs l b).2 b' e=none
 |0,fs,l,b,I,h=>by let:=I.pos;lia
 |n+1,fs,l,b,I,h=>by
  unfold HK;cases a:tH l b e with
  |none=>show#[b,I,a]
  |some d =>
   let⟨h1,h2,i,m,c,g⟩:=mJ (afi I.pos) (by let:=I.b3;lia) a;let⟨o,p,j,f⟩:=zt (by let:=I.b3;lia:2<=d) I.pos c;show JO n _ _ _ (I.step a) .b
def r_(i:1<=k):DQ k (BO k) (a9 k 2).2 3/\(a9 k 2).2<=k:=by
 let⟨g,f,h⟩:=fE (.a:(2:Int)<=2) (.b:k≠0);let b:(a9 k 2).2%2=1:=by lia
 let hp:(0:Int)<2^↥(a9 k 2).1:=ŕ .a
 let a:0<(a9 k 2).2:=by
  apply ģ;intro j;let:(a9 k 2).2*2^↥(a9 k 2).1<=0:=aeo .b .b;lia
 let c:(a9 k 2).2<=k:=by
  let:(a9 k 2).2*1<=(a9 k 2).2*2^↥(a9 k 2).1:=Ł .b .b;lia
 show#[#[?_,?_,a,b,.a,.a,λd h1 h2=>by lia],c]
 .unfold BO;split
  .show#[by change(1:Int)<2;decide,bQ,.e,by change(2:Int)<3;decide]
  .change(1:Int)<3;decide
 .unfold BO;split
  .change(2^↥(a9 k 2).1*1)*_=k;rw[Ċ,ī];show f.symm
  .let e:↥(a9 k 2).1=0:=by lia
   rw[e,Ń,Ċ] at f;change 1*_=k;rw[Ő];show f.symm
def n9(a:1<=k):∃b,DQ k (bJ k e).1 (bJ k e).2 b/\tH (bJ k e).2 b e=none:=by
 let⟨I,h⟩:=r_ a;show JO ↥k _ _ 3 I .b
def nN(k:Int):List (Int×Int):=(bJ k (k+1)).1++(if 1<(bJ k (k+1)).2 then [((bJ k (k+1)).2,1)] else [])
theorem k9:∀{us:List (Int×Int)} {a b:Int},0<=a->g5 a us b->0<pp us
 |[],_,_,_,_=>by change(0:Int)<1;decide
 |u::us,a,b,ha,h=>Ĥ (ŕ (by let:=h.1;lia)) (k9 (by let:=h.1;lia) h.2.2.2)
def rG(o:1<=k):(∃b,g5 1 (nN k) b)/\pp (nN k)=k:=by
 let⟨b,I,n⟩:=n9 (e:=k+1) o
 let i:(bJ k (k+1)).2<=k:=by
  let h1:=I.prod;let h2:=k9 .a I.rise;let q:=I.pos;let:1*(bJ k (k+1)).2<=pp (bJ k (k+1)).1*(bJ k (k+1)).2:=adR .b .b;lia
 unfold nN;generalize bJ k (k+1)=r at *;split
 .rename_i s;let a:=I.odd;let j:=I.b3;let m:=I.bo
  let d:b<=r.2:=by
   obtain z|z:=τ r.2 b
   .show absurd (Ϩ r.2) (I.free r.2 .b z a)
   .show z
  let c:aT r.2=Á:=by
   show cQ.mpr (.inr #[.b,a,λf h l p g=>?_]);obtain z|z:=τ f b
   .show I.free f h z p g
   .show Cc .b .b n f z ?_ l .b g;let:f*3<=f*f:=Ł h .b;lia
  show#[#[r.2+1,I.rise.snoc c (ń 1) d .e],?_];rw[vi];change pp r.1*r.2^↥(1:Int)=k;rw[show ↥(1:Int)=1 from rfl,ĥ,Ń,Ő];show I.prod
 .let:r.2=1:=by let:=I.pos;lia
  rw[afX];show#[#[b,I.rise],?_];let:=I.prod;rwa[‹r.2=1›,Ċ] at this
noncomputable def cf:.L->Int
 |[]=>0
 |x::l=>x+cf l
def yp{l a:.L}(h:l.Perm a):cf l=cf a:=by
 induction h with
 |nil=>rfl
 |cons x _ b=>show x+_=x+_;rw[b]
 |swap x y l=>show y+(x+_)=x+(y+_);lia
 |trans _ _ h1 h2=>show h1.trans h2
def gr(a p k:Int):Int:=a*k%p
noncomputable def Ar(a p k:Int):Int:=if gr a p k<=(p-1)/2 then 0 else 1
noncomputable def gs(a p k:Int):Int:=if gr a p k<=(p-1)/2 then gr a p k else p-gr a p k
noncomputable def rB(n:Int):Int:=if n%2=0 then 1 else -1
def F1(m n:Int):rB (m+n)=rB m*rB n:=by
 unfold rB;obtain a|a:=ae4 m<;>obtain b|b:=ae4 n
 .rw[ac6 .b,ac6 a,ac6 b];rfl
 .rw[ac2 .b,ac6 a,ac2 .b];rfl
 .rw[ac2 .b,ac2 .b,ac6 b];rfl
 .rw[ac6 .b,ac2 .b,ac2 .b];rfl
def Cj{n:Int}(h:m%2=n%2):rB m=rB n:=by unfold rB;rw[h]
noncomputable def Hl(p:Int):.L:=(Ø ↥((p-1)/2)).map λi:Nat=>(i:Int)+1
def o6:x∈Hl p↔1<=x/\x<=(p-1)/2:=by
 unfold Hl;simp only[adn,aeh];constructor
 .rintro⟨i,h,rfl⟩;lia
 .rintro⟨h1,h2⟩;show#[↥(x-1),.b,.b]
def Km(p:Int):(Hl p).Nodup:=by
 show af6.mpr (afj ?_ (agT (n:=↥((p-1)/2))));intro i j _ _ a;lia
def Rm(p:Int):(Hl p).length=↥((p-1)/2):=by simp[Hl]
section
variable{p a:Int}(hp:aT p=Á)(h2:p≠2)(ha:¬p∣a)
include hp h2 in
theorem gH:p%2=1/\3<=p:=by
 let:=az hp;obtain z|z:=cQ.mp hp<;>lia
include hp h2 ha in
theorem TN(c:k∈Hl p):1<=gr a p k/\gr a p k<p:=by
 let e:=gH hp h2;let b:=o6.mp c;let f:=ť (a*k) (.b:p≠0);let h1:=Ŧ (a*k) (.b:0<p);show#[?_,h1];apply ģ;intro d;let hz:a*k%p=0:=by unfold gr at d;lia
 obtain z|z:=euclid hp (Ŷ hz)
 .show ha z
 .let:=cG z .b .b;lia
include hp h2 ha in
theorem Ue(b:k∈Hl p):gs a p k∈Hl p:=by
 let c:=gH hp h2;let:=TN hp h2 ha b;unfold gs;split
 .show o6.mpr #[this.1,by assumption]
 .show o6.mpr #[.f,.f]
def Q2(a p k:Int):p∣a*k-gr a p k:=by
 let:=aeJ (a*k) p;show#[a*k/p,by unfold gr;lia]
def Dr(a p k:Int):p∣a*k-rB (Ar a p k)*gs a p k:=by
 let⟨c,b⟩:=Q2 a p k;unfold Ar gs rB;split
 .show#[c,by simp;lia]
 .show#[c+1,by rw[afz];simp;lia]
include hp h2 ha in
theorem zd:(Hl p).Perm ((Hl p).map (gs a p)):=by
 let q:=gH hp h2
 let g:((Hl p).map (gs a p)).Nodup:=by
  show af6.mpr (afj ?_ (Km p));intro x y f e m he;let o:=o6.mp f;let k:=o6.mp e;let⟨c,j⟩:=Dr a p x;let⟨d,i⟩:=Dr a p y;rw[<-he] at i;let e1:rB (Ar a p x)=1\/rB (Ar a p x)=-1:=by unfold rB;split<;>simp
  let e2:rB (Ar a p y)=1\/rB (Ar a p y)=-1:=by unfold rB;split<;>simp
  let key:p∣a*(x-y)\/p∣a*(x+y):=by
   obtain z|z:=e1<;>obtain w|w:=e2<;>rw[z] at j<;>rw[w] at i
   .show .inl #[c-d,by rw[afy,afy];lia]
   .show .inr #[c+d,by rw[afz,afz];lia]
   .show .inr #[c+d,by rw[afz,afz];lia]
   .show .inl #[c-d,by rw[afy,afy];lia]
  obtain z|z:=key
  .obtain w|w:=euclid hp z
   .show ha w
   .let:=cG w .b .b;lia
  .obtain w|w:=euclid hp z
   .show ha w
   .let:=cG w .b .b;lia
 let n:∀x,x∈(Hl p).map (gs a p)->x∈Hl p:=by
  intro y e;let⟨x,f,rfl⟩:=adn.mp e;show Ue hp h2 ha f
 let⟨l,b⟩:=LF g n
 let h:l=[]:=by
  let:=b.length_eq;rw[ų,ą] at this;show af4 .b
 rwa[h,afX] at b
theorem KL(a p:Int):∀l:.L,p∣a^l.length*dY l-rB (cf (l.map (Ar a p)))*dY (l.map (gs a p))
 |[]=>#[0,by simp[dY,cf,rB]]
 |k::l=>by
  let⟨c,b⟩:=KL a p l;let⟨d,e⟩:=Dr a p k;change p∣a^(l.length+1)*(k*dY l)-rB (Ar a p k+cf (l.map (Ar a p)))*(gs a p k*dY (l.map (gs a p)));rw[F1,ĥ];generalize rB (Ar a p k)=e1 at *;generalize rB (cf (l.map (Ar a p)))=e2 at *;generalize dY (l.map (gs a p))=v at *;generalize dY l=u at *;generalize a^l.length=t at *;generalize gs a p k=g at *;let h1:t*u=e2*v+p*c:=by lia
  let h2:a*k=e1*g+p*d:=by lia
  show#[a*k*c+d*(e2*v),by grind]
include hp h2 ha in
theorem Kv:bK a p=rB (cf ((Hl p).map (Ar a p))):=by
 let f:=gH hp h2;let c:=KL a p (Hl p);rw[<-vk (zd hp h2 ha),Rm] at c;let d:p∣(a^↥((p-1)/2)-rB (cf ((Hl p).map (Ar a p))))*dY (Hl p):=by rwa[Int.sub_mul]
 obtain z|z:=euclid hp d
 .unfold rB at *;split
  .rename_i h;rw[ac6 h] at z;show(fk hp h2 ha).mpr z
  .rename_i h;rw[ac2 h] at z;show(ig hp h2 ha).mpr (by rwa[(.b:a^↥((p-1)/2)+1=a^↥((p-1)/2) - -1)])
 .show absurd z (jL hp _ λx e b=>?_);let:=o6.mp e;let:=cG b .b .b;lia
def Vd{a p:Int}(f:p%2=1):(a*k-a*k/p-gs a p k-Ar a p k)%2=0:=by
 let e:=aeJ (a*k) p;let b:∃c,p=2*c+1:=#[p/2,.b];let⟨c,d⟩:=b
 let g:p*(a*k/p)=2*(c*(a*k/p))+a*k/p:=by
  rw[d];generalize a*k/(2*c+1)=z;grind
 unfold gs Ar gr;generalize a*k/p=q at *;generalize c*q=y at *;split<;>lia
theorem L_{a p:Int}(b:p%2=1):∀l:.L,(a*cf l-cf (l.map λk=>a*k/p)-cf (l.map (gs a p))-cf (l.map (Ar a p)))%2=0
 |[]=>by simp[cf]
 |k::l=>by
  let h1:=L_ (a:=a) b l;let h2:=Vd (a:=a) (k:=k) b;change(a*(k+cf l)-(a*k/p+cf (l.map λk=>a*k/p))-(gs a p k+cf (l.map (gs a p)))-(Ar a p k+cf (l.map (Ar a p))))%2=0;rw[afz];generalize a*cf l=c at *;generalize a*k=d at *;lia
include hp h2 ha in
theorem OX(e:a%2=1):cf ((Hl p).map (Ar a p))%2=cf ((Hl p).map λk=>a*k/p)%2:=by
 let h:=L_ (a:=a) (gH hp h2).1 (Hl p);rw[<-yp (zd hp h2 ha)] at h;let d:∃c,a=2*c+1:=#[a/2,.b];let⟨c,b⟩:=d
 let:a*cf (Hl p)=2*(c*cf (Hl p))+cf (Hl p):=by
  rw[b];generalize cf (Hl p)=z;grind
 generalize c*cf (Hl p)=y at *;lia
end
def Qs(n:Nat):2*cf ((Ø n).map λi:Nat=>(i:Int)+1)=(n:Int)*(n+1):=by
 let ap:∀(l:.L) (x:Int),cf (l++[x])=cf l+x:=λl x=>by
  induction l with
  |nil=>show x+0=0+x;lia
  |cons y l a=>show y+cf (l++[x])=y+cf l+x;lia
 induction n with
 |zero=>rfl
 |succ n a =>
  rw[ahW,afE,ř,afS,ap,afz,a];let:((n+1:Nat):Int)=(n:Int)+1:=by lia
  rw[this];generalize (n:Int)=x;grind
def M8(hp:aT p=Á)(h2:p≠2):bK 2 p=if p%8=1\/p%8=7 then 1 else -1:=by
 let j:=gH hp h2
 let ha:¬p∣2:=λz=>by
  let:=ĝ .a z;lia
 rw[Kv hp h2 ha];let h:=L_ (a:=2) j.1 (Hl p);rw[<-yp (zd hp h2 ha)] at h
 let e:∀l:.L,(∀k,k∈l->k∈Hl p)->cf (l.map λk=>2*k/p)=0:=λl=>by
  induction l with
  |nil=>intro _;rfl
  |cons k l f =>
   intro d;let v:=o6.mp (d k (Ġ ..));let t:2*k/p=0:=Int.ediv_eq_zero_of_lt .b .b;change 2*k/p+cf (l.map λk=>2*k/p)=0;rw[t,f λy o=>d y (Ě _ o)];rfl
 rw[e _ λ_ z=>z] at h;let b:=Qs ↥((p-1)/2);let g:cf (Hl p)=cf ((Ø ↥((p-1)/2)).map λi:Nat=>(i:Int)+1):=rfl;rw[<-g] at b;let s:(↥((p-1)/2):Int)=(p-1)/2:=by lia
 rw[s] at b;let n:∃c r,p=8*c+r/\(r=1\/r=3\/r=5\/r=7):=#[p/8,p%8,.b,.b];let⟨c,r,m,u⟩:=n;let key:∀x:Int,(p-1)/2=x->2*cf (Hl p)=x*(x+1):=λx q=>by rwa[<-q]
 obtain rfl|rfl|rfl|rfl:=u
 .let k:=key (4*c) .b
  let:cf (Hl p)=2*(c*(4*c+1)):=by
   let:4*c*(4*c+1)=2*(2*(c*(4*c+1))):=by grind
   lia
  rw[ac6 .b];unfold rB;rw[ac6 .b]
 .let k:=key (4*c+1) .b
  let:cf (Hl p)=2*(4*(c*c)+3*c)+1:=by
   let:(4*c+1)*(4*c+1+1)=2*(2*(4*(c*c)+3*c)+1):=by grind
   lia
  rw[ac2 .b];unfold rB;rw[ac2 .b]
 .let k:=key (4*c+2) .b
  let:cf (Hl p)=2*(4*(c*c)+5*c+1)+1:=by
   let:(4*c+2)*(4*c+2+1)=2*(2*(4*(c*c)+5*c+1)+1):=by grind
   lia
  rw[ac2 .b];unfold rB;rw[ac2 .b]
 .let k:=key (4*c+3) .b
  let:cf (Hl p)=2*(4*(c*c)+7*c+3):=by
   let:(4*c+3)*(4*c+3+1)=2*(2*(4*(c*c)+7*c+3)):=by grind
   lia
  rw[ac6 .b];unfold rB;rw[ac6 .b]
def HS(hp:aT p=Á)(h2:p≠2):bK (-1) p=if p%4=3 then -1 else 1:=by
 let b:=gH hp h2
 let ha:¬p∣-1:=λz=>by
  let:=ĝ .a ((aeL).mp z);lia
 let a:∀n:Nat,(-1:Int)^(2*n)=1:=λn=>by rw[ahY,show(-1:Int)^2=1 from rfl,Int.one_pow]
 split
 .show(ig hp h2 ha).mpr ?_;let e:↥((p-1)/2)=2*(↥((p-1)/2)/2)+1:=by lia
  rw[e,ĥ,a];show#[0,.b]
 .show(fk hp h2 ha).mpr ?_;let e:↥((p-1)/2)=2*(↥((p-1)/2)/2):=by lia
  rw[e,a];show#[0,.b]
noncomputable def sm(n:Nat)(f:Nat->Int):Int:=cf ((Ø n).map f)
def fK(n:Nat)(f:Nat->Int):sm (n+1) f=sm n f+f n:=by
 let ap:∀(l:.L) (x:Int),cf (l++[x])=cf l+x:=λl x=>by
  induction l with
  |nil=>show x+0=0+x;lia
  |cons y l a=>show y+cf (l++[x])=y+cf l+x;lia
 unfold sm;rw[ahW,afE,ř,afS,ap]
def C_(n:Nat)(f g:Nat->Int):sm n (λi=>f i+g i)=sm n f+sm n g:=by
 induction n with
 |zero=>rfl
 |succ n a=>rw[fK,fK,fK,a];lia
def uL{f g:Nat->Int}(h:∀i,i<n->f i=g i):sm n f=sm n g:=by
 induction n with
 |zero=>rfl
 |succ n a=>rw[fK,fK,a λi hi=>h i .b,h n .b]
def Nt(n:Nat):sm n (λ_=>0)=0:=by
 induction n with
 |zero=>rfl
 |succ n a=>rw[fK,a];rfl
def Nr(m n:Nat)(f:Nat->Nat->Int):sm m (λi=>sm n (f i))=sm n (λj=>sm m λi=>f i j):=by
 induction m with
 |zero=>rw[show(λj=>sm 0 λi=>f i j)=λ_=>0 from rfl,Nt];rfl
 |succ m a =>
  rw[fK,a,show(λj=>sm (m+1) λi=>f i j)=λj=>(sm m λi=>f i j)+f m j from funext λj=>fK m _,C_]
def S5(n:Nat):sm n (λ_=>1)=n:=by
 induction n with
 |zero=>rfl
 |succ n a=>rw[fK,a];lia
def cnt(b:0<=x):sm n (λj=>if (j:Int)+1<=x then 1 else 0)=if x<=n then x else n:=by
 induction n with
 |zero=>show(0:Int)=_;split<;>lia
 |succ n a =>
  rw[fK,a];split<;>split<;>split<;>lia
def below{t:Int}(hp:0<p)(b:0<=t)(c:¬p∣t)(f:t/p<=n):sm n (λj=>if p*((j:Int)+1)<t then 1 else 0)=t/p:=by
 let d:0<=t/p:=agm b .b;let e:=cnt (n:=n) d;rw[ac6 f] at e;rw[<-e];show uL λj _=>?_
 let a:p*((j:Int)+1)<t↔(j:Int)+1<=t/p:=by
  rw[Int.le_ediv_iff_mul_le hp,ī];constructor
  .intro z;lia
  .intro z;obtain w|w:=aeY z
   .show w
   .show absurd #[_,by rw[<-w,ī]] c
 by_cases z:p*((j:Int)+1)<t
 .rw[ac6 z,ac6 (a.mp z)]
 .rw[ac2 z,ac2 λw=>z (a.mpr w)]
def Pe(hp:aT p=Á)(h2:p≠2)(d:aT q=Á)(a:q≠2)(e:p≠q):
  cf ((Hl p).map λk=>q*k/p)=sm ↥((p-1)/2) λi=>sm ↥((q-1)/2) λj=>if p*((j:Int)+1)<q*((i:Int)+1) then 1 else 0:=by
 let g:=gH hp h2;let f:=gH d a
 let c:¬p∣q:=λz=>by
  obtain w|w:=iD d (.b:0<p) z<;>lia
 unfold Hl sm;rw[aii];change sm ↥((p-1)/2) _=sm ↥((p-1)/2) _;show uL λi hi=>?_;change q*((i:Int)+1)/p=sm _ _;show(below .b (Ϗ .b .b) (λz=>?_) ?_).symm
 .obtain w|w:=euclid hp z
  .show c w
  .let:=cG w .b .b;lia
 .let h1:q*((i:Int)+1)<((q-1)/2+1)*p:=by
   let b:2*((i:Int)+1)<=p-1:=by lia
   let:q*(2*((i:Int)+1))<=q*(p-1):=Ł b .b;let e2:2*((q-1)/2+1)=q+1:=by lia
   let e3:2*(((q-1)/2+1)*p)=(q+1)*p:=by rw[<-ı,e2]
   let e4:q*(2*((i:Int)+1))=2*(q*((i:Int)+1)):=by grind
   let e5:q*(p-1)=q*p-q:=by grind
   let h:(q+1)*p=q*p+p:=by grind
   lia
  let:=ah4 (.b:0<p) h1;lia
def N0(hp:aT p=Á)(h2:p≠2)(d:aT q=Á)(a:q≠2)(b:p≠q):
  cf ((Hl p).map λk=>q*k/p)+cf ((Hl q).map λk=>p*k/q)=(p-1)/2*((q-1)/2):=by
 let m:=gH hp h2;let h:=gH d a
 let f:¬p∣q:=λz=>by
  obtain w|w:=iD d (.b:0<p) z<;>lia
 rw[Pe hp h2 d a b,Pe d a hp h2 (λz=>b z.symm),Nr ↥((q-1)/2),<-C_]
 let e1:sm ↥((p-1)/2) (λi=>(sm ↥((q-1)/2) λj=>if p*((j:Int)+1)<q*((i:Int)+1) then 1 else 0)+sm ↥((q-1)/2) λe=>if q*((i:Int)+1)<p*((e:Int)+1) then 1 else 0)=sm ↥((p-1)/2) λ_=>(↥((q-1)/2):Int):=by
  show uL λi hi=>?_;rw[<-C_,<-S5 ↥((q-1)/2)];show uL λj o=>?_
  let g:p*((j:Int)+1)≠q*((i:Int)+1):=λz=>by
   obtain w|w:=euclid hp (show p∣q*((i:Int)+1) from #[_,z.symm])
   .show f w
   .let:=cG w .b .b;lia
  generalize p*((j:Int)+1)=x at *;generalize q*((i:Int)+1)=y at *;split<;>split<;>lia
 rw[e1]
 let e2:∀(n:Nat) (c:Int),sm n (λ_=>c)=n*c:=λn c=>by
  induction n with
  |zero=>show(0:Int)=_;simp
  |succ n l=>rw[fK,l];simp[Int.add_mul]
 rw[e2];rw[(.b:(↥((p-1)/2):Int)=(p-1)/2),(.b:(↥((q-1)/2):Int)=(q-1)/2)]
def Jo(hp:aT p=Á)(h2:p≠2)(e:aT q=Á)(c:q≠2)(g:p≠q):bK q p*bK p q=if p%4=3/\q%4=3 then -1 else 1:=by
 let i:=gH hp h2;let h:=gH e c
 let f:¬p∣q:=λz=>by
  obtain w|w:=iD e (.b:0<p) z<;>lia
 let d:¬q∣p:=λz=>by
  obtain w|w:=iD hp (.b:0<q) z<;>lia
 rw[Kv hp h2 f,Kv e c d,Cj (OX hp h2 f h.1),Cj (OX e c d i.1),<-F1,N0 hp h2 e c g];unfold rB;let j:=ϓ ((p-1)/2) ((q-1)/2) 2;rw[j];by_cases a:p%4=3<;>by_cases b:q%4=3
 .rw[(.b:(p-1)/2%2=1),(.b:(q-1)/2%2=1)];simp[a,b]
 .rw[(.b:(p-1)/2%2=1),(.b:(q-1)/2%2=0)];simp[a,b]
 .rw[(.b:(p-1)/2%2=0)];simp[a]
 .rw[(.b:(p-1)/2%2=0)];simp[a]
def Cg(p a b:Int):Prop:=p∣a-b
def jr(p a:Int):Cg p a a:=#[0,.b]
def Ao(h:Cg p a b):Cg p b a:=by let⟨c,h⟩:=h;show#[-c,by rw[ahh];lia]
noncomputable def cO(h:Cg p a b)(h':Cg p b c):Cg p a c:=by
 let⟨x,h⟩:=h;let⟨y,h'⟩:=h';show#[x+y,by rw[afz];lia]
def jP(h:Cg p a b)(h':Cg p c d):Cg p (a*c) (b*d):=by
 let⟨x,h⟩:=h;let⟨y,h'⟩:=h';show#[x*c+b*y,by grind]
theorem sV{p a b:Int}(h:Cg p a b):∀n:Nat,Cg p (a^n) (b^n)
 |0=>by rw[Ń,Ń];show jr _ _
 |n+1=>by rw[ĥ,ĥ];show jP (sV h n) h
def fM(p a:Int):Cg p (a%p) a:=by
 let:=aeJ a p;show#[-(a/p),by rw[ahh];lia]
def PQ(ha:0<=a/\a<p)(c:0<=b/\b<p)(h:Cg p a b):a=b:=by
 let:=cG h .b .b;lia
def Va(hp:aT p=Á)(h:Cg p (y*y) 1):Cg p y 1\/Cg p y (-1):=by
 let:p∣(y-1)*(y+1):=by rwa[(by grind:(y-1)*(y+1)=y*y-1)]
 obtain z|z:=euclid hp this
 .show .inl z
 .show .inr (by unfold Cg;rwa[(.b:y - -1=y+1)])
def OZ(p k:Int):Prop:=2<=k/\bK k p=-1/\∀j,2<=j->j<k->bK j p≠-1
def OZ.uniq(a b:Int)(ha:OZ p a)(c:OZ p b):a=b:=by
 obtain z|z|z:=afI a b
 .show absurd ha.2.1 (c.2.2 a ha.1 z)
 .show z
 .show absurd c.2.1 (ha.2.2 b c.1 z)
def pz(p:Int):Int:=ö (OZ p)
def RG(h:OZ p k):k=pz p:=sZ OZ.uniq h
def NR(p:Int):Prop:=∃g,2<=g/\bK g p=-1
def xj(h:NR p):OZ p (pz p):=by
 let⟨g,h1,d⟩:=h
 let:∀n:Nat,(∃k,OZ p k)\/∀j:Int,2<=j->j<2+(n:Int)->bK j p≠-1:=λn=>by
  induction n with
  |zero=>show .inr λj a b=>by lia
  |succ n c =>
   obtain z|z:=c
   .show .inl z
   .by_cases w:bK (2+(n:Int)) p=-1
    .show .inl #[2+(n:Int),.b,w,λj a b=>z j a b]
    .show .inr λj a b=>?_;by_cases e:j=2+(n:Int)
     .rwa[e]
     .show z j a .b
 obtain⟨k,z⟩|z:=this ↥(g-1)
 .rwa[<-RG z]
 .show absurd d (z g h1 .b)
def OE(e p s:Int):Prop:=0<=s/\Cg p (e^2^↥s) 1/\∀j:Nat,(j:Int)<s->¬Cg p (e^2^j) 1
def OE.uniq(a b:Int)(ha:OE e p a)(c:OE e p b):a=b:=by
 obtain z|z|z:=afI a b
 .show absurd ha.2.1 (c.2.2 ↥a (by let:=ha.1;lia))
 .show z
 .show absurd c.2.1 (ha.2.2 ↥b (by let:=c.1;lia))
def lB(e p:Int):Int:=ö (OE e p)
def S9(h:OE e p s):s=lB e p:=sZ OE.uniq h
def Lw(h:Cg p (e^2^n) 1):OE e p (lB e p)/\lB e p<=n:=by
 let:∀m:Nat,(∃s:Nat,s<=m/\OE e p s)\/∀j:Nat,j<=m->¬Cg p (e^2^j) 1:=λm=>by
  induction m with
  |zero =>
   by_cases w:Cg p (e^2^0) 1
   .show .inl #[0,ú 0,.b,w,λj a=>by lia]
   .show .inr λj a=>by rwa[Nat.le_zero.mp a]
  |succ m b =>
   obtain⟨s,c,z⟩|z:=b
   .show .inl #[s,.b,z]
   .by_cases w:Cg p (e^2^(m+1)) 1
    .show .inl #[m+1,ú _,.b,w,λj a=>z j .b]
    .show .inr λj a=>?_;by_cases q:j=m+1
     .rwa[q]
     .show z j .b
 obtain⟨s,c,z⟩|z:=this n
 .rw[<-S9 z];show#[z,.b]
 .show absurd h (z n (ú n))
noncomputable def mq(p m:Int):Nat->Int
 |0=>m
 |i+1=>mq p m i*mq p m i%p
theorem O9(p m:Int):∀i,Cg p (mq p m i) (m^2^i)
 |0=>by change Cg p m (m^1);rw[ĥ,Ń,Ő];show jr _ _
 |i+1=>by
  let h:=O9 p m i;show cO (fM p _) ?_;rw[(by rw[afA];lia:(2:Nat)^(i+1)=2^i+2^i),Ŭ];show jP h h
def Jv(hp:0<p)(a:0<=m/\m<p):∀i,0<=mq p m i/\mq p m i<p
 |0=>a
 |_+1=>#[ť _ .b,Ŧ _ hp]
def sY(p:Int):Nat->Int->Int->Int->Int->Int
 |0,_,r,_,_=>r
 |n+1,t,r,e,m=>if e=1 then r else sY p n (lB e p) (r*mq p m ↥(t-lB e p-1)%p) (e*(mq p m ↥(t-lB e p-1)*mq p m ↥(t-lB e p-1)%p)%p) (mq p m ↥(t-lB e p-1)*mq p m ↥(t-lB e p-1)%p)
structure Th(p k t r e m:Int):Prop where
 r0:0<=r/\r<p
 e0:0<=e/\e<p
 m0:0<=m/\m<p
 t1:1<=t
 rr:Cg p (r*r) (k*e)
 ee:Cg p (e^2^↥(t-1)) 1
 mm:e≠1->Cg p (m^2^↥(t-1)) (-1)
def Th.step{t:Int}(hp:aT p=Á)(I:Th p k t r e m)(he:e≠1):
  OE e p (lB e p)/\1<=lB e p/\lB e p<t/\Th p k (lB e p) (r*mq p m ↥(t-lB e p-1)%p) (e*(mq p m ↥(t-lB e p-1)*mq p m ↥(t-lB e p-1)%p)%p) (mq p m ↥(t-lB e p-1)*mq p m ↥(t-lB e p-1)%p):=by
 let h:=az hp;let⟨b,n⟩:=Lw I.ee;let q:=I.t1
 let a:1<=lB e p:=by
  apply ģ;intro u;let hz:lB e p=0:=by let:=b.1;lia
  let h1:=b.2.1;rw[hz] at h1
  let f:Cg p e 1:=by
   let:e^2^↥(0:Int)=e:=by change e^1=e;rw[ĥ,Ń,Ő]
   rwa [this] at h1
  show he (PQ I.e0 #[.a,.b] f)
 let c:lB e p<t:=by lia
 show#[b,a,c,?_];generalize o:lB e p=s at *;let l:=O9 p m ↥(t-s-1);let j:=Jv (.b:0<p) I.m0 ↥(t-s-1);generalize mq p m ↥(t-s-1)=x at *
 let e1:Cg p (e^2^↥(s-1)) (-1):=by
  let d:Cg p (e^2^↥(s-1)*e^2^↥(s-1)) 1:=by
   rw[<-Ŭ,(by rw[(.b:↥s=↥(s-1)+1),afA];lia:2^↥(s-1)+2^↥(s-1)=2^↥s)];show b.2.1
  obtain z|z:=Va hp d
  .show absurd z (b.2.2 ↥(s-1) .b)
  .show z
 let i:Cg p (x^2^↥s) (-1):=by
  show cO (sV l _) ?_;rw[<-ahY,<-ϸ,(.b:↥(t-s-1)+↥s=↥(t-1))];show I.mm he
 let g:Cg p ((x*x%p)^2^↥(s-1)) (-1):=by
  show cO (sV (fM p _) _) ?_;rw[ahi,<-Ŭ,(by rw[(.b:↥s=↥(s-1)+1),afA];lia:2^↥(s-1)+2^↥(s-1)=2^↥s)];show i
 let bd:∀y:Int,0<=y%p/\y%p<p:=λy=>#[ť _ .b,Ŧ _ .b];show#[bd _,bd _,bd _,a,?_,?_,λ_=>g]
 .let h1:Cg p (r*x%p*(r*x%p)) (r*x*(r*x)):=jP (fM _ _) (fM _ _);let h2:Cg p (k*(e*(x*x%p)%p)) (k*(e*(x*x))):=jP (jr _ _) (cO (fM _ _) (jP (jr _ _) (fM _ _)));show cO h1 (cO ?_ (Ao h2));rw[(by grind:r*x*(r*x)=r*r*(x*x)),(by grind:k*(e*(x*x))=k*e*(x*x))];show jP I.rr (jr _ _)
 .show cO (sV (fM p _) _) ?_;rw[ahi];show cO (jP e1 g) ?_;show jr _ _
theorem Ey{p k:Int}(hp:aT p=Á):∀(n:Nat) (t r e m:Int),Th p k t r e m->t<=n->(0<=sY p n t r e m/\sY p n t r e m<p)/\Cg p (sY p n t r e m*sY p n t r e m) k
 |0,t,r,e,m,I,h=>by let:=I.t1;lia
 |n+1,t,r,e,m,I,h=>by
  unfold sY;split
  .rename_i he;show#[I.r0,?_];let:=I.rr
   rwa [he,Ċ] at this
  .rename_i he;let⟨d,c,b,a⟩:=I.step hp he;show Ey hp n _ _ _ _ a .b
def Mn(k p:Int):Int:=sY p ↥(a9 (p-1) 2).1 (a9 (p-1) 2).1 (k^↥(((a9 (p-1) 2).2+1)/2)%p) (k^↥(a9 (p-1) 2).2%p) (if k^↥(a9 (p-1) 2).2%p≠1 then pz p^↥(a9 (p-1) 2).2%p else 1)
def wF(hp:aT p=Á)(h2:p≠2):1<=(a9 (p-1) 2).1/\(a9 (p-1) 2).2%2=1/\1<=(a9 (p-1) 2).2/\↥(a9 (p-1) 2).2*2^↥((a9 (p-1) 2).1-1)=↥((p-1)/2):=by
 let c:=gH hp h2;let⟨d,f,a,g⟩:=zt (.a:(2:Int)<=2) (.b:0<p-1) (.b:(2:Int)∣p-1);let⟨b1,b2,b3⟩:=fE (.a:(2:Int)<=2) (.b:p-1≠0);show#[a,.b,.b,?_];generalize (a9 (p-1) 2).1=t at *;generalize (a9 (p-1) 2).2=o at *;let e:↥t=↥(t-1)+1:=by lia
 rw[e,ĥ] at b2
 let h:o*2^↥(t-1)=(p-1)/2:=by
  let:p-1=2*(o*2^↥(t-1)):=by rw[b2];grind
  lia
 let b:((↥o*2^↥(t-1):Nat):Int)=o*2^↥(t-1):=by
  rw[Ϻ,ag6];rw[(.b:((↥o:Nat):Int)=o)];rfl
 lia
def Bt(hp:aT p=Á)(h2:p≠2)(j:0<=k/\k<p)(c:bK k p=1)(f:NR p):
  Th p k (a9 (p-1) 2).1 (k^↥(((a9 (p-1) 2).2+1)/2)%p) (k^↥(a9 (p-1) 2).2%p) (if k^↥(a9 (p-1) 2).2%p≠1 then pz p^↥(a9 (p-1) 2).2%p else 1):=by
 let h:=gH hp h2;let⟨e,g,i,heq⟩:=wF hp h2;generalize (a9 (p-1) 2).1=t at *;generalize (a9 (p-1) 2).2=o at *;let bd:∀y:Int,0<=y%p/\y%p<p:=λy=>#[ť _ .b,Ŧ _ .b];let b:¬p∣k:=λz=>by rw[eK z] at c;cases c
 show#[bd _,bd _,?_,e,?_,?_,λhe=>?_]
 .split
  .show bd _
  .show#[.a,.b]
 .let h1:Cg p (k^↥((o+1)/2)%p*(k^↥((o+1)/2)%p)) (k^↥((o+1)/2)*k^↥((o+1)/2)):=jP (fM _ _) (fM _ _);show cO h1 ?_;rw[<-Ŭ,(.b:↥((o+1)/2)+↥((o+1)/2)=↥o+1),ĥ,ī];show jP (jr _ _) (Ao (fM _ _))
 .show cO (sV (fM p _) _) ?_;rw[<-ahY,heq];show(fk hp h2 b).mp c
 .rw[ac6 he];show cO (sV (fM p _) _) ?_;rw[<-ahY,heq];let d:=xj f
  let a:¬p∣pz p:=λz=>by
   let:=d.2.1;rw[eK z] at this;cases this
  let:=(ig hp h2 a).mp d.2.1;unfold Cg;rw[show ∀y:Int,y - -1=y+1 from λy=>by lia];show this
def QH(hp:aT p=Á)(h2:p≠2)(b:0<=k/\k<p)(a:bK k p=1)(c:NR p):(0<=Mn k p/\Mn k p<p)/\Cg p (Mn k p*Mn k p) k:=by
 let⟨d,_⟩:=wF hp h2;show Ey hp _ _ _ _ _ (Bt hp h2 b a c) .b
def AK(k p:Int):Option Int:=if bK k p=-1 then none else if bK k p=0\/p=2 then À (bK k p) else À (Mn (k%p) p)
def wM:AK k p=none↔bK k p=-1:=by
 unfold AK;split
 .rename_i h;show#[λ_=>h,λ_=>rfl]
 .rename_i h;split
  .show#[λz=>(Ε _ z).elim,λz=>absurd z h]
  .show#[λz=>(Ε _ z).elim,λz=>absurd z h]
def Q8(hp:aT p=Á)(h2:p≠2)(e:NR p)(h:AK k p=À r):(0<=r/\r<p)/\Cg p (r*r) k:=by
 let f:=az hp;unfold AK at h;by_cases h1:bK k p=-1
 .rw[ac6 h1] at h;cases h
 .rw[ac2 h1] at h;by_cases b:bK k p=0
  .rw[ac6 (.inl b)] at h
   let d:r=0:=by
    let:=ĳ h;lia
   let g:p∣k:=by
    apply ģ;intro e;obtain z|z:=cE e<;>lia
   rw[d];let⟨c,j⟩:=g;show#[#[.a,.b],#[-c,by rw[ahh];lia]]
  .rw[ac2 (λz=>z.elim b h2)] at h;let d:=ĳ h;let a:¬p∣k:=λz=>b (eK z);let i:bK k p=1:=by obtain z|z:=cE a<;>lia
   let:=QH (k:=k%p) hp h2 #[ť _ .b,Ŧ _ .b] (by rwa[zE]) e;rw[d] at this;show#[this.1,cO this.2 (fM _ _)]
def iB{n:Int}(h:k∣n*m)(a:È k m=1):k∣n:=by
 let:=Int.dvd_mul_gcd_iff_dvd_mul.mpr h;rw[a] at this;simpa using this
def eF(n:Int):Prop:=n≠0/\∀d:Int,2<=d->¬d*d∣n
def nP:eF 1:=#[.a,λd a h=>by
 let:=ĝ .a h;let:2*2<=d*d:=Ť a a .a .b
 lia]
def nR{n:Int}(h:eF n):eF (-n):=#[by let:=h.1;lia,λd a z=>h.2 d a (aeL.mp z)]
def uJ{n:Int}(h:eF n)(a:m∣n):eF m:=#[by rintro rfl;show h.1 (aik.mp a),λd h2 z=>h.2 d h2 (Ĺ z a)]
def kx(hp:aT p=Á)(h:¬p∣d):È d p=1:=by
 let a:=az hp
 let h1:=iD hp (d:=(È d p:Int)) (by
  let:0<È d p:=Int.gcd_pos_of_ne_zero_right _ .b
  lia) (ϧ ..)
 obtain h1|h1:=h1
 .lia
 .show absurd (by rw[<-h1];show Ϧ ..) h
def jQ{n:Int}(h:eF n)(hp:aT p=Á)(f:¬p∣n):eF (n*p):=#[ä h.1 (by let:=az hp;lia),λd e z=>by
 let b:=az hp;by_cases a:p∣d
 .let⟨c,rfl⟩:=a;let:p*p∣n*p:=Ĺ #[c*c,by grind] z;show f (Int.dvd_of_mul_dvd_mul_right .b this)
 .show h.2 d e (iB z (kx hp λw=>by obtain w|w:=euclid hp w<;>show a w))]
def Ss(b:È r s=1):È (s*s) (r*r)=1:=by
 let a:È s (r*r)=1:=by rw[Int.gcd_mul_right_right_of_gcd_eq_one (by rwa[agr]),agr];show b
 rwa[Int.gcd_mul_right_left_of_gcd_eq_one a]
def EG(a:eF f)(c:0<s)(b:È r s=1)(h:s*s∣f*(r*r)):s=1:=by
 let h2:s*s∣f:=iB h (Ss b);obtain z|z:=τ s 2
 .lia
 .show absurd h2 (a.2 s z)
def qW{n:Int}(k:eF n)(h:eF f)(m:0<r)(o:0<s)(e:n*(r*r)=f*(s*s)):n=f/\r=s:=by
 obtain⟨g,r',s',d,a,i,es⟩:∃g r' s':Int,0<g/\È r' s'=1/\r=g*r'/\s=g*s':=by
  let j:0<È r s:=agd _ .b;show#[È r s,r/È r s,s/È r s,.b,?_,(afM (Ϧ ..)).symm,(afM (ϧ ..)).symm];rw[Int.gcd_ediv_gcd_ediv_gcd j]
 subst i es
 let b:0<r':=by
  obtain z|z:=τ 0 r'
  .show z
  .let:=adL (afi d) z;lia
 let c:0<s':=by
  obtain z|z:=τ 0 s'
  .show z
  .let:=adL (afi d) z;lia
 let l:n*(r'*r')=f*(s'*s'):=by
  let:(g*g)*(n*(r'*r'))=(g*g)*(f*(s'*s')):=by grind
  show afc (ä .b .b) this
 let h1:s'=1:=EG k c a #[f,by grind];let h2:r'=1:=EG h b (by rwa[agr]) #[n,by grind];subst h1 h2;show#[.b,rfl]
def C3(A:Int):Prop:=∀q,aT q=Á->q∣A->q<32768
def N8(l:Int):Prop:=∀q,aT q=Á->q∣l->32768<=q
def fZ(h:2<=k):∃q,aT q=Á/\q∣k:=by
 let⟨⟨b,a⟩,hp⟩:=rG (k:=k) .b;cases c:nN k with
 |nil=>rw[c] at hp;simp only[pp] at hp;lia
 |cons u us =>
  rw[c] at a hp;show#[u.1,a.2.1,?_];rw[<-hp,pp];let h1:=a.2.2.1;obtain⟨m,d⟩:∃m,↥u.2=m+1:=#[↥u.2-1,.b];rw[d,ĥ];show#[u.1^m*pp us,by grind]
def vJ(h:∀q,aT q=Á->q∣a->¬q∣b)(ha:a≠0):È a b=1:=by
 let c:0<È a b:=agd _ ha;obtain z|z:=ags (È a b) 2
 .lia
 .let⟨q,h1,h2⟩:=fZ (k:=(È a b:Int)) .b;show absurd (Ĺ h2 (ϧ ..)) (h q h1 (Ĺ h2 (Ϧ ..)))
def zX(ha:C3 A)(c:N8 l)(a:l≠0):È l A=1:=vJ (λq h1 h2 b=>by let:=ha q h1 b;let:=c q h1 h2;lia) a
def qp(ha:C3 A)(a:C3 B):C3 (A*B):=λq h1 h2=>by obtain z|z:=euclid h1 h2;show ha q h1 z;show a q h1 z
def N1(ha:N8 A)(a:N8 B):N8 (A*B):=λq h1 h2=>by obtain z|z:=euclid h1 h2;show ha q h1 z;show a q h1 z
def Jx(a:0<A)(h:A<32768):C3 A:=λq _ h2=>by let:=ĝ a h2;lia
def Ni:N8 1:=λq h1 h2=>by let:=ĝ .a h2;let:=az h1;lia
theorem Es{q:Int}(a:aT q=Á)(h:q<32768):∀n:Nat,C3 (q^n)
 |0=>λr h1 h2=>by rw[Ń] at h2;let:=ĝ .a h2;let:=az h1;lia
 |n+1=>by
  rw[ĥ];show qp (Es a h n) λr h1 h2=>by let:=ĝ (by let:=az a;lia) h2;lia
def qV(h:0<l)(g:l%2=1)(b3:3<=b)(i:b%2=1)(c:∀d,3<=d->d<b->d%2=1->¬d∣l)(f:tH l b 32768=none):∀d,3<=d->d<32768->d*d<=l->d%2=1->¬d∣l:=λd h1 h2 e a=>by
 obtain z|z:=τ d b
 .show c d h1 z a
 .show Cc .b .b f d z h2 e .b
def vG{fs:List (Int×Int)}(I:DQ k fs l b)(h:tH l b 32768=none)(h1:1<l)(h2:l<1073741824):aT l=Á/\b<=l:=by
 let f:=qV I.pos I.odd I.b3 I.bo I.free h;let a:=I.odd;show#[cQ.mpr (.inr #[.b,a,λd c e g=>f d c ?_ e g]),?_]
 .obtain z|z:=τ d 32768
  .show z
  .let:32768*32768<=d*d:=Ť z z .a .b;lia
 .obtain z|z:=τ l b
  .show absurd (Ϩ l) (I.free l .b z a)
  .show z
def wx{fs:List (Int×Int)}(I:DQ k fs l b)(e:tH l b 32768=none)(h:1073741824<=l):N8 l:=λq h1 h2=>by
 let c:=qV I.pos I.odd I.b3 I.bo I.free e;obtain z|z:=τ q 32768
 .obtain w|⟨d,a,f⟩:=cQ.mp h1
  .subst w;let:=I.odd;lia
  .let:q*q<=32768*32768:=Ť .b .b .b .a;show absurd h2 (c q d z .b a)
 .show z
theorem yW{k e:Int}:∀(n:Nat) (fs:List (Int×Int)) (l b:Int),DQ k fs l b->(∀u∈fs,u.1<e)->∀u∈(HK e n fs l b).1,u.1<e
 |0,fs,l,b,I,h=>h
 |n+1,fs,l,b,I,h=>by
  unfold HK;cases a:tH l b e with
  |none=>show h
  |some d =>
   show yW n _ _ _ (I.step a) λu c=>?_;obtain z|z:=adQ.mp c
   .show h u z
   .let:=mJ (afi I.pos) (by let:=I.b3;lia) a;simp only[adv] at z;subst z;show this.2.1
def vD(b:1<=k)(he:2<e):∀u∈(bJ k e).1,u.1<e:=by
 show yW _ _ _ _ (r_ b).1 λu a=>?_;unfold BO at a;split at a
 .simp only[adv] at a;subst a;show he
 .cases a
theorem kf:∀{us:List (Int×Int)} {a b:Int},g5 a us b->∀u∈us,aT u.1=Á/\1<=u.2
 |u::us,a,b,h,v,c=>by
  obtain z|z:=ě.mp c
  .subst z;show#[h.2.1,h.2.2.1]
  .show kf h.2.2.2 v z
theorem CU:∀{us:List (Int×Int)},(∀u∈us,aT u.1=Á/\u.1<32768)->C3 (pp us)
 |[],_=>λq h1 h2=>by let a:q∣1:=h2;let:=ĝ .a a;let:=az h1;lia
 |u::us,h=>qp (Es (h u (Ġ ..)).1 (h u (Ġ ..)).2 _) (CU λv b=>h v (Ě _ b))
def CJ(f:1<=s):∃A L,C3 A/\N8 L/\0<A/\0<L/\s=A*L:=by
 let⟨b,I,h⟩:=n9 (k:=s) (e:=32768) f;let a:C3 (pp (bJ s 32768).1):=CU λu d=>#[(kf I.rise u d).1,vD f .a u d];let hp:=k9 .a I.rise;let c:=I.pos;by_cases h1:(bJ s 32768).2<32768
 .show#[s,1,by rw[<-I.prod];show qp a (Jx c h1),Ni,.b,.a,.b]
 .show#[_,_,a,?_,hp,c,I.prod.symm];by_cases h2:(bJ s 32768).2<1073741824
  .let:=vG I h .b h2;intro q g i;obtain z|z:=iD this.1 (by let:=az g;lia) i
   .let:=az g;lia
   .lia
  .show wx I h .b
def RP{L:Int}(d:C3 A)(h:C3 B)(c:N8 l)(f:N8 L)(b:0<l)(h1:0<L)(e:A*l=B*L):l=L:=by
 let g:l∣L:=iB (k:=l) (n:=L) (m:=B) #[A,by grind] (zX h c .b);let a:L∣l:=iB (k:=L) (n:=l) (m:=A) #[B,by grind] (zX d f .b);let:=ĝ h1 g;let:=ĝ b a;lia
def Tame(k:Int):Prop:=(∃f s,C3 f/\0<f/\1<=s/\k=f*(s*s))\/(∃f P,C3 f/\0<f/\aT P=Á/\P<1073741824/\k=f*P)
def HX{fs:List (Int×Int)}(h:Tame k)(B:1<=k)(I:DQ k fs l b)(r:∀u∈fs,u.1<32768)(w:tH l b 32768=none):l<1073741824\/rt l*rt l=l:=by
 obtain z|z:=τ l 1073741824
 .show .inl z
 let p:=wx I w z;let a:C3 (pp fs):=CU λu q=>#[(kf I.rise u q).1,r u q];let d:=I.prod;obtain⟨f,s,h1,h2,c,j⟩|⟨f,P,h1,h2,c,j,x⟩:=h
 .let⟨A,L,g,o,y,i,t⟩:=CJ c;let e:l=L*L:=RP a (qp h1 (qp g g)) p (N1 o o) .b (Ĥ i i) (by rw[d,j,t];grind);right;let:L=rt l:=fe .b .b (by rw[e];grind);rw[<-this,e]
 .let v:l∣P:=iB (k:=l) (n:=P) (m:=f) #[pp fs,by grind] (zX h1 p .b);let:=ĝ (by let:=az c;lia) v;lia
noncomputable def kK(c:Int×Int)(u:Int×Int):Int×Int:=(if u.2%2=1 then c.1*u.1 else c.1,c.2*u.1^↥(u.2/2))
theorem Dj:∀{us:List (Int×Int)} {a b:Int} {c:Int×Int},g5 a us b->eF c.1->(∀q,aT q=Á->a<q->¬q∣c.1)->0<c.2 ->
  eF (us.foldl kK c).1/\0<(us.foldl kK c).2/\(us.foldl kK c).1*((us.foldl kK c).2*(us.foldl kK c).2)=c.1*(c.2*c.2)*pp us
 |[],a,b,c,_,f,_,i=>#[f,i,by simp[pp]]
 |u::us,a,b,c,t,f,h,i=>by
  let⟨p,g,w,o⟩:=t;let m:=az g;let e:0<u.1^↥(u.2/2):=ŕ .b
  let r:eF (kK c u).1:=by
   unfold kK;dsimp only;split
   .show jQ f g (h _ g p)
   .show f
  let k:∀q,aT q=Á->u.1<q->¬q∣(kK c u).1:=λq h1 h2 d=>by
   unfold kK at d;dsimp only at d;split at d
   .obtain z|z:=euclid h1 d
    .show h q h1 .b z
    .let:=ĝ .b z;lia
   .show h q h1 .b d
  let l:0<(kK c u).2:=Ĥ i e;let⟨v,n,s⟩:=Dj (c:=kK c u) o r k l;show#[v,n,?_];rw[afY,s,pp]
  let j:(if u.2%2=1 then u.1 else 1)*(u.1^↥(u.2/2)*u.1^↥(u.2/2))=u.1^↥u.2:=by
   rw[<-Ŭ];by_cases z:u.2%2=1
   .rw[ac6 z,(.b:↥u.2=(↥(u.2/2)+↥(u.2/2))+1),ĥ,ī]
   .rw[ac2 z,Ő,(.b:↥u.2=↥(u.2/2)+↥(u.2/2))]
  unfold kK;dsimp only;rw[<-j];generalize u.1^↥(u.2/2)=y;split<;>grind
def uk(k:Int):List (Int×Int)×Int :=
 if 1<(bJ k 32768).2/\(bJ k 32768).2<1073741824 then ((bJ k 32768).1++[((bJ k 32768).2,1)],1) else ((bJ k 32768).1,rt (bJ k 32768).2)
def D1(d:1<=k)(h:Tame k):(1<(bJ k 32768).2/\(bJ k 32768).2<1073741824\/rt (bJ k 32768).2*rt (bJ k 32768).2=(bJ k 32768).2)/\(∃b,g5 1 (uk k).1 b)/\0<(uk k).2/\pp (uk k).1*((uk k).2*(uk k).2)=k:=by
 let⟨b,I,g⟩:=n9 (k:=k) (e:=32768) d;let i:=HX h d I (vD d .a) g;let f:=I.pos;let a:=I.prod;unfold uk;by_cases h1:1<(bJ k 32768).2/\(bJ k 32768).2<1073741824
 .rw[ac6 h1];let⟨p1,p2⟩:=vG I g h1.1 h1.2;show#[.inl h1,#[_,g5.snoc p1 (by dsimp only;decide) p2 (b':=(bJ k 32768).2+1) .e I.rise],by dsimp only;decide,?_];dsimp only;rw[vi];dsimp only;rw[show ↥(1:Int)=1 from rfl,ĥ,Ń,Ő,Ċ,Ċ,a]
 .rw[ac2 h1]
  let c:rt (bJ k 32768).2*rt (bJ k 32768).2=(bJ k 32768).2:=by
   obtain z|z:=i
   .let e1:(bJ k 32768).2=1:=by lia
    rw[e1];let:(1:Int)=rt 1:=fe .a .a .a;rw[<-this];rfl
   .show z
  let j:=iI (bJ k 32768).2;show#[.inr c,#[b,I.rise],?_,?_]
  .dsimp only;obtain z|z:=aeY j
   .show z
   .rw[<-z] at c;lia
  .dsimp only;rw[c,a]
def Mh(t b:Int):Int×Int:=(uk (t.natAbs*b)).1.foldl kK (if 0<t then 1 else -1,(uk (t.natAbs*b)).2)
def Ej{t:Int}(x:t≠0)(i:0<b)(a:Tame (t.natAbs*b))(j:eF f)(v:0<s)(e:t*b=f*(s*s)):Mh t b=(f,s):=by
 let w:1<=(t.natAbs:Int)*b:=by
  let:0<(t.natAbs:Int)*b:=Ĥ .b i;lia
 let⟨_,⟨b',p⟩,n,hp⟩:=D1 w a;let o:eF (if 0<t then (1:Int) else -1):=by split;show nP;show nR nP
 let h:∀q,aT q=Á->1<q->¬q∣(if 0<t then (1:Int) else -1):=λq h1 h2 d=>by
  split at d
  .let:=ĝ .a d;lia
  .let:=ĝ .a (aeL.mp d);lia
 let⟨g,m,u⟩:=Dj (c:=(if 0<t then (1:Int) else -1,(uk (t.natAbs*b)).2)) p o h n
 let k:(Mh t b).1*((Mh t b).2*(Mh t b).2)=f*(s*s):=by
  change((uk (t.natAbs*b)).1.foldl kK _).1*(((uk (t.natAbs*b)).1.foldl kK _).2*((uk (t.natAbs*b)).1.foldl kK _).2)=_;rw[u,<-e];dsimp only;rw[(by grind:(if 0<t then (1:Int) else -1)*((uk (t.natAbs*b)).2*(uk (t.natAbs*b)).2)*pp (uk (t.natAbs*b)).1=(if 0<t then (1:Int) else -1)*(pp (uk (t.natAbs*b)).1*((uk (t.natAbs*b)).2*(uk (t.natAbs*b)).2))),hp];by_cases z:0<t
  .rw[ac6 z,(.b:(t.natAbs:Int)=t)];lia
  .rw[ac2 z,(.b:(t.natAbs:Int)=-t)];grind
 let⟨r,l⟩:=qW g j m v k;show ahd r l
def cy(hp:2<=p)(h:¬p∣a):cls a p=(0,if p=2 then a%8 else bK a p):=by
 unfold cls;rw[rg hp h];rfl
def vL(hp:aT p=Á)(c:x≠0)(b:cls y p=(0,1)):aq x y p=Á:=by
 let a:=az hp;by_cases h2:p=2
 .subst h2;rw[bu,b];show IE _ (dm c) (0,1) .a
 .rw[bz .b h2,b];show Po _ (dn a h2 c) (0,1) .a _ (vQ a)
def LU(hp:aT p=Á)(h:¬p∣a):bK (a*a) p=1:=by
 rw[gF hp];obtain z|z:=cE h<;>rw[z]<;>rfl
def QC:∀c∈CO,∀a∈[(1:Int),-1],∀b∈[(1:Int),-1],oe (cg (0,a) c 3) (cg (0,b) c 3) (a*b)=Á:=.a
def Sn:∀a∈[(1:Int),3,5,7],∀b∈[(1:Int),3,5,7],iH (cg (1,a) (0,(b+2*a)%8) 2) (cg (0,b) (0,(b+2*a)%8) 2)=Á:=.a
def QZ:∀a∈[(1:Int),3,5,7],∀b∈[(1:Int),3,5,7],iH (cg (0,a) (0,(b+4)%8) 2) (cg (0,b) (0,(b+4)%8) 2)=Á:=.a
def So:∀c∈C2,∀b∈[(1:Int),3,5,7],iH (cg c (0,b) 2) (cg (0,b) (0,b) 2)=Á:=.a
def S_:∀c∈[(1:Int),3,5,7],∀a∈[(1:Int),3,5,7],iH (cg (0,a) (1,c) 2) (cg (0,(2*c-a)%8) (1,c) 2)=Á:=.a
def Rk:∀c∈[(1:Int),3,5,7],∀a∈[(1:Int),3,5,7],iH (cg (0,a) (0,c) 2) (cg (0,(4-a)%8) (0,c) 2)=Á:=.a
def Sg:∀c∈C2,∀a∈[(1:Int),3,5,7],iH (cg (0,a) c 2) (cg (0,(0-a)%8) c 2)=Á:=.a
def xE(h:u%2=1):u%8∈[(1:Int),3,5,7]:=by
 let:u%8=1\/u%8=3\/u%8=5\/u%8=7:=by lia
 obtain z|z|z|z:=this<;>rw[z]<;>decide
def Cy{X:Int}(c:X≠0)(h:X%2=0):(∃x,x%2=1/\X=2*x/\cls X 2=(1,x%8))\/(∃x,x%2=1/\X=4*x/\cls X 2=(0,x%8))\/X%8=0:=by
 let⟨h1,h2,g⟩:=fE (d:=2) .a c;let b:(a9 X 2).2%2=1:=by lia
 let a:cls X 2=((a9 X 2).1%2,(a9 X 2).2%8):=rfl;generalize (a9 X 2).2=x at *;generalize (a9 X 2).1=v at *
 let f:↥v=0\/↥v=1\/↥v=2\/∃m,↥v=m+3:=by
  obtain z|z:=ags ↥v 3
  .lia
  .show .inr (.inr (.inr #[↥v-3,.b]))
 obtain e|e|e|⟨m,e⟩:=f
 .rw[e] at h2;lia
 .rw[e] at h2;show .inl #[x,b,.b,by rw[a,(.b:v=1)];rfl]
 .rw[e] at h2;show .inr (.inl #[x,b,.b,by rw[a,(.b:v=2)];rfl])
 .rw[e,Ŭ] at h2;right;right;let:(2:Int)^3=8:=by decide
  rw[this,<-ı] at h2;rw[h2];show Int.mul_emod_left ..
def Nm(c:A≠0)(e:B≠0)(a:A+B≠0)(h:¬(A%2=0/\B%2=0)):aq (A*(A+B)) (B*(A+B)) 2=Á:=by
 let key:∀A B:Int,A≠0->A%2=0->B%2=1->A+B≠0->aq (A*(A+B)) (B*(A+B)) 2=Á:=λA B c ha d a=>by
  let e:B≠0:=by lia
  let cB:cls B 2=(0,B%8):=by rw[cy .a .b];rfl
  let g:cls (A+B) 2=(0,(A+B)%8):=by rw[cy .a .b];rfl
  rw[bu,bE bQ c a,bE bQ e a,cB,g];obtain⟨x,h1,h2,b⟩|⟨x,h1,h2,b⟩|h1:=Cy c ha
  .rw[b,(.b:(A+B)%8=(B%8+2*(x%8))%8)];show Sn _ (xE h1) _ (xE d)
  .rw[b,(.b:(A+B)%8=(B%8+4)%8)];show QZ _ (xE h1) _ (xE d)
  .rw[(.b:(A+B)%8=B%8)];show So _ (dm c) _ (xE d)
 obtain ha|ha:=ae4 A
 .show key A B c ha .b a
 .obtain d|d:=ae4 B
  .let:=key B A e d ha .b;rw[ail] at this;rw[ba (.inr bQ) (ä e a) (ä c a)];show this
  .let f:cls A 2=(0,A%8):=by rw[cy .a .b];rfl
   let cB:cls B 2=(0,B%8):=by rw[cy .a .b];rfl
   rw[bu,bE bQ c a,bE bQ e a,f,cB];obtain⟨x,h1,h2,b⟩|⟨x,h1,h2,b⟩|h1:=Cy a .b
   .rw[b,(.b:B%8=(2*(x%8)-A%8)%8)];show S_ _ (xE h1) _ (xE ha)
   .rw[b,(.b:B%8=(4-A%8)%8)];show Rk _ (xE h1) _ (xE ha)
   .rw[(.b:B%8=(0-A%8)%8)];show Sg _ (dm a) _ (xE ha)
def N6(hp:aT p=Á)(h2:p≠2)(f:A≠0)(g:B≠0)(d:A+B≠0)(h:¬(p∣A/\p∣B)):aq (A*(A+B)) (B*(A+B)) p=Á:=by
 let b:=az hp
 let key:∀A B:Int,A≠0->B≠0->A+B≠0->p∣A->¬p∣B->aq (A*(A+B)) (B*(A+B)) p=Á:=λA B f g d ha c=>by
  let a:¬p∣A+B:=λz=>c (by let:=agh z ha;rwa [(.b:A+B-A=B)] at this);show vL hp (ä f d) ?_;rw[cy b (λz=>by obtain w|w:=euclid hp z;show c w;show a w),ac2 h2];rw[pJ (l:=B*B) (Br.mpr (by rw[(by grind:B*(A+B)-B*B=A*B)];show Ĺ ha #[B,rfl])),LU hp c]
 by_cases ha:p∣A
 .show key A B f g d ha λz=>h #[ha,z]
 .by_cases c:p∣B
  .let:=key B A g f .b c ha;rw[ail] at this;rw[ba (.inr hp) (ä g d) (ä f d)];show this
  .by_cases a:p∣A+B
   .let e:bK A p*bK B p=bK (-1) p:=by
     rw[<-gF hp,pJ (l:=-1*(A*A)) (Br.mpr (by rw[(by grind:A*B - -1*(A*A)=A*(A+B))];show Ĺ a #[A,ī ..])),gF hp,LU hp ha,Ċ]
    rw[bz .b h2,bE hp f d,bE hp g d,cy b ha,cy b c,ac2 h2,ac2 h2,b7 h2,b7 h2,<-e];show QC _ (dn b h2 d) _ ?_ _ ?_
    .obtain z|z:=cE ha<;>rw[z]<;>decide
    .obtain z|z:=cE c<;>rw[z]<;>decide
   .show iK hp h2 (λz=>by obtain w|w:=euclid hp z;show ha w;show a w) (λz=>by obtain w|w:=euclid hp z;show c w;show a w)
def eL(h:Pl p)(ha:a≠0)(c:b≠0)(d:r≠0):aq a (b*r*r) p=aq a b p:=by
 rw[ba h (ä (ä c d) d) ha,jB h c d,ba h ha c]
theorem yD{p:Int}(hp:aT p=Á):∀(n:Nat) (A B:Int),A.natAbs<=n->A≠0->B≠0->A+B≠0->aq (A*(A+B)) (B*(A+B)) p=Á
 |0,A,B,m,f,g,e=>by lia
 |n+1,A,B,m,f,g,e=>by
  let j:=az hp;by_cases i:p∣A/\p∣B
  .let⟨⟨a,ha⟩,⟨b,k⟩⟩:=i;subst ha k;let h1:a≠0:=λz=>f (by rw[z,ś]);let h2:b≠0:=λz=>g (by rw[z,ś]);let d:a+b≠0:=λz=>e (by rw[<-afz,z,ś])
   let h:a.natAbs<=n:=by
    let:(p*a).natAbs=p.natAbs*a.natAbs:=ļ ..;let o:2*a.natAbs<=p.natAbs*a.natAbs:=afL _ .b;lia
   let l:=yD hp n a b h h1 h2 d;let c:p≠0:=by lia
   rw[(by grind:p*a*(p*a+p*b)=a*(a+b)*p*p),(by grind:p*b*(p*a+p*b)=b*(a+b)*p*p),
    jB (.inr hp) (ä h1 d) c,eL (.inr hp) (ä h1 d) (ä h2 d) c]
   show l
  .by_cases h2:p=2
   .subst h2;show Nm f g e λz=>i #[Ŷ z.1,Ŷ z.2]
   .show N6 hp h2 f g e i
def Kw(hp:Pl p)(c:A≠0)(b:B≠0)(a:A+B≠0):aq (A*(A+B)) (B*(A+B)) p=Á:=by
 obtain rfl|hp:=hp
 .rw[aR]
  let:0<(A+B)*(A+B):=by
   obtain z|z:=Ν a
   .show aeq z z
   .show Ĥ z z
  rw[Int.add_mul] at this;by_cases z:0<A*(A+B)
  .simp[z]
  .let:0<B*(A+B):=by omega
   simp[this]
 .show yD hp _ A B (ú _) c b a
def Cf{w:Int}(hp:Pl p)(ha:a≠0)(f:b≠0)(c:w≠0)(e:a*x*x+b*y*y=w):aq (a*w) (b*w) p=Á:=by
 by_cases g:x=0
 .subst g;let h:w=b*y*y:=by rw[<-e];grind
  let d:y≠0:=by rintro rfl;show c (by rw[h];grind)
  rw[(by rw[h];grind:b*w=(b*y)*(b*y))];show rh hp (ä ha c) (ä f d)
 .by_cases d:y=0
  .subst d;let h:w=a*x*x:=by rw[<-e];grind
   rw[ba hp (ä f c) (ä ha c),(by rw[h];grind:a*w=(a*x)*(a*x))];show rh hp (ä f c) (ä ha g)
  .let:=Kw (A:=a*x*x) (B:=b*y*y) hp (ä (ä ha g) g) (ä (ä f d) d) (by rwa[e]);rwa[e,(by grind:a*x*x*w=a*w*x*x),(by grind:b*y*y*w=b*w*y*y),jB hp (ä ha c) g,eL hp (ä ha c) (ä f c) d] at this
def gb(h:Pl p)(ha:a≠0)(e:b≠0)(d:c≠0):aq (a*b) c p=(aq a c p==aq b c p):=by
 rw[ba h d (ä ha e),aS h d ha e,ba h ha d,ba h e d]
def f9(h:Pl p)(ha:a≠0):aq a a p=aq a (-1) p:=by
 let h1:=qC h ha;rw[(.b:(0:Int)-a=-1*a),aS h ha .a ha] at h1;let:=eq_of_beq h1;show this.symm
def yI(a b c p:Int):Bool:=aq (-a*c) (-b*c) p
def DW(k p:Int):Prop:=cls k p=(0,1)
def RD(hp:aT p=Á)(b:r≠0):DW (r*r) p:=by
 let h1:cls 1 p=(0,1):=by
  rw[cy (az hp) (λz=>by let:=ĝ .a z;let:=az hp;lia)];by_cases z:p=2
  .rw[ac6 z];rfl
  .rw[ac2 z,lH hp z (by show#[0,.b])]
 let:=vS (a:=1) hp .a b;rw[Ő] at this;unfold DW;rw[this,h1]
def E6(hp:aT p=Á)(a:k≠0)(b:r≠0):DW (k*r*r) p↔DW k p:=by
 unfold DW;rw[vS hp a b]
noncomputable instance{k p:Int}:Decidable (DW k p):=inferInstanceAs (Decidable (cls k p=(0,1)))
def nK{P:Int->Prop}{l:.L}:(∃x,x∈a::l/\P x)↔P a\/∃x,x∈l/\P x:=by
 constructor
 .rintro⟨x,h,q⟩;obtain z|z:=ě.mp h
  .subst z;show .inl q
  .show .inr #[x,z,q]
 .rintro(q|⟨x,h,q⟩)
  .show#[a,Ġ ..,q]
  .show#[x,Ě _ h,q]
noncomputable def Mc:.L->Int
 |[]=>0
 |[a]=>a
 |a::l=>if Mc l<a then Mc l else a
noncomputable def KH:.L->Int
 |[]=>0
 |[a]=>a
 |a::l=>if a<KH l then KH l else a
theorem FR:∀l:.L,Mc l<0↔∃x∈l,x<0
 |[]=>by simp[Mc]
 |[a]=>by simp[Mc]
 |a::b::l=>by
  let c:=FR (b::l);unfold Mc;rw[nK,<-c];split<;>omega
theorem Gp:∀l:.L,0<KH l↔∃x∈l,0<x
 |[]=>by simp[KH]
 |[a]=>by simp[KH]
 |a::b::l=>by
  let c:=Gp (b::l);unfold KH;rw[nK,<-c];split<;>omega
def dM(l:.L)(p:Int):Bool:=if p=0 then decide (Mc l<0)&&decide (0<KH l) else match l with
 |[]=>Á
 |[_]=>Â
 |[a,b]=>decide (DW (-a*b) p)
 |[a,b,c]=>yI a b c p
 |[a,b,c,d]=>!(decide (DW (a*b*c*d) p)) || yI a b c p
 |_=>Á
def wR{l:.L}(a:p≠0)(b:5<=l.length):dM l p=Á:=by
 unfold dM;rw[ac2 a]
 match l,b with
 |_::_::_::_::_::_,_=>rfl
def E1(b:p≠0):dM [a] p=Â:=by unfold dM;rw[ac2 b]
def Aq(c:p≠0):dM [a,b] p=decide (DW (-a*b) p):=by unfold dM;rw[ac2 c]
def eC(d:p≠0):dM [a,b,c] p=yI a b c p:=by unfold dM;rw[ac2 d]
def rf(e:p≠0):dM [a,b,c,d] p=(!(decide (DW (a*b*c*d) p)) || yI a b c p):=by unfold dM;rw[ac2 e]
def dq{l:.L}:dM l 0=Á↔(∃x∈l,x<0)/\∃x∈l,0<x:=by
 unfold dM;rw[ac6 rfl,ź,aeC,aeC,FR,Gp]
noncomputable def lr:.L->.L->Int
 |a::l,x::xs=>a*x*x+lr l xs
 |_,_=>0
noncomputable def ev:.L->Int->Int
 |[],_=>0
 |c::cs,x=>c+x*ev cs x
noncomputable def qo(r:Int):.L->.L
 |[]=>[]
 |[_]=>[]
 |_::d::cs=>ev (d::cs) r::qo r (d::cs)
theorem KZ(r:Int):∀(c:Int) (cs:.L),(qo r (c::cs)).length=cs.length
 |_,[]=>rfl
 |_,d::cs=>by simp only[qo,ŭ];rw[KZ r d cs]
theorem E2(r:Int):∀(c d:Int) (cs:.L),(qo r (c::d::cs)).getLast?=(c::d::cs).getLast?
 |c,d,[]=>by simp[qo,ev]
 |c,d,e::cs=>by
  let a:=E2 r d e cs;let h1:qo r (c::d::e::cs)=ev (d::e::cs) r::qo r (d::e::cs):=rfl;rw[h1,ahO,<-a];let h2:qo r (d::e::cs)=ev (e::cs) r::qo r (e::cs):=rfl;rw[h2,ahO]
theorem Pc(r x:Int):∀cs:.L,ev cs x-ev cs r=(x-r)*ev (qo r cs) x
 |[]=>by simp[ev,qo]
 |[c]=>by simp[ev,qo]
 |c::d::cs=>by
  let a:=Pc r x (d::cs);let h1:qo r (c::d::cs)=ev (d::cs) r::qo r (d::cs):=rfl;rw[h1];let e1:ev (c::d::cs) x=c+x*ev (d::cs) x:=rfl;let e2:ev (c::d::cs) r=c+r*ev (d::cs) r:=rfl;let e3:ev (ev (d::cs) r::qo r (d::cs)) x=ev (d::cs) r+x*ev (qo r (d::cs)) x:=rfl;rw[e1,e2,e3];generalize ev (d::cs) x=u at *;generalize ev (d::cs) r=v at *;generalize ev (qo r (d::cs)) x=t at *;grind
theorem Uw{p:Int}(hp:aT p=Á):∀(f cs:.L),cs.length<=f.length->f.Pairwise (λa b=>¬p∣a-b)->(∀r∈f,p∣ev cs r)->∀c,cs.getLast?=À c->p∣c
 |_,[],_,_,_,c,m=>by simp at m
 |[],_::_,h,_,_,_,_=>by simp at h
 |r::f,[c],_,_,g,d,j=>by
  let:=g r (Ġ ..);simp[ev] at this;simp at j;rw[<-j];show this
 |r::f,c::d::cs,q,i,g,e,he=>by
  let⟨h1,h2⟩:=aeN.mp i;show Uw hp f (qo r (c::d::cs)) (by rw[KZ];simpa using q) h2 (λs l=>?_) e (by rwa[E2]);let n:=g s (Ě _ l);let o:=g r (Ġ ..);let k:=agh n o;rw[Pc] at k;obtain z|z:=euclid hp k
  .show absurd (by rw[(.b:r-s=-(s-r))];show aeL.mpr z) (h1 s l)
  .show z
noncomputable def xn(n:Nat):.L:=-1::(Ë n 0++[1])
theorem Im(x:Int):∀n:Nat,ev (Ë n 0++[1]) x=x^n
 |0=>by simp[ev]
 |n+1=>by
  rw[aew,agU];change 0+x*ev (Ë n 0++[1]) x=_;rw[Im x n,ĥ,ī];lia
def Pk(hp:aT p=Á)(h2:p≠2):∃g,2<=g/\g<p/\bK g p=-1:=by
 let v:=gH hp h2;let f:=az hp;apply ģ;intro t
 let c:∀g:Int,1<=g->g<p->p∣g^↥((p-1)/2)-1:=λg u j=>by
  let e:¬p∣g:=λz=>by let:=ĝ .b z;lia
  show(fk hp h2 e).mp ?_;obtain z|z:=cE e
  .show z
  .show absurd #[g,?_,j,z] t;obtain w|w:=τ g 2
   .let:g=1:=by lia
    subst this;rw[lH hp h2 #[0,.b]] at z;cases z
   .show w
 obtain⟨m,q⟩:∃m:Nat,↥((p-1)/2)=m+1:=#[↥((p-1)/2)-1,.b]
 let h1:=Uw hp ((Ø ↥(p-1)).map λi:Nat=>(i:Int)+1) (xn m) (by simp[xn];lia) (by
   rw[af6];show afj ?_ (agT (n:=↥(p-1)));intro a b ha h d z;let l:=aeh.mp ha;let k:=aeh.mp h;let:=cG z .b .b
   show d .b) (λr s=>by
   let⟨i,hi,rfl⟩:=adn.mp s;let o:=aeh.mp hi;let:=c ((i:Int)+1) .b .b;rw[q] at this;change p∣-1+((i:Int)+1)*ev (Ë m 0++[1]) _;rw[Im,ī,<-ĥ];rw[(.b:-1+((i:Int)+1)^(m+1)=((i:Int)+1)^(m+1)-1)]
   show this) 1 (by change((-1::Ë m 0)++[1]).getLast?=À 1;show List.getLast?_concat)
 let:=ĝ .a h1;lia
noncomputable def xy:.L->Int->Int
 |[],_=>1
 |q::a,c=>(if c%2=1 then q else 1)*xy a (c/2)
noncomputable def P8:.L:=[2,3,5,7,11,13,17,19]
def vZ:∀r∈P8,aT r=Á:=by
 intro r a;simp only[P8,ě,ğ,adM] at a;obtain rfl|rfl|rfl|rfl|rfl|rfl|rfl|rfl:=a
 .show bQ
 .show jT (m:=0) (n:=3) .a .a .a .a
 .show jT (m:=0) (n:=5) .a .a .a .a
 .show jT (m:=0) (n:=7) .a .a .a .a
 .show jT (m:=1) (n:=11) .a .a .a .a
 .show jT (m:=1) (n:=13) .a .a .a .a
 .show jT (m:=1) (n:=17) .a .a .a .a
 .show jT (m:=1) (n:=19) .a .a .a .a
def Gf(u:Int×Int):Int×(Int×Int):=((Mh u.1 u.2).1,fr (Mh u.1 u.2).2 u.2)
theorem Ee:∀(a b:List (Int×Int)),pp (a++b)=pp a*pp b
 |[],b=>by simp[pp]
 |u::a,b=>by rw[agU,pp,pp,Ee a b,ı]
theorem rN:∀{us:List (Int×Int)} {a b:Int},g5 a us b->∀i,∃b',g5 a (us.take i) b'
 |us,a,b,h,0=>#[a+1,by rw[ah5];change a<a+1;lia]
 |[],a,b,h,i+1=>#[b,h]
 |u::us,a,b,h,i+1=>by
  let⟨b',h'⟩:=rN h.2.2.2 i;show#[b',h.1,h.2.1,h.2.2.1,h']
theorem tE:∀{us:List (Int×Int)} {a b:Int},g5 a us b->∀i,∃a',g5 a' (us.drop i) b/\a<=a'
 |us,a,b,h,0=>#[a,h,ń _]
 |[],a,b,h,i+1=>#[a,h,ń _]
 |u::us,a,b,h,i+1=>by
  let⟨a',h',c⟩:=tE h.2.2.2 i;show#[a',h',by let:=h.1;lia]
def kZ(ha:0<a)(c:1<=b):a<=a*b:=by
 let:a*1<=a*b:=Ł c .b;lia
def MC{us:List (Int×Int)}{sg R:Int}(m:g5 1 us b)(h:0<R)(g:sg=1\/sg=-1)(i:Nat):
  ((us.take i).foldl kK (sg,R)).1.natAbs<=(pp us*(R*R)).natAbs/\0<((us.take i).foldl kK (sg,R)).2/\((us.take i).foldl kK (sg,R)).2<=pp us*(R*R):=by
 let⟨b',h'⟩:=rN m i;let⟨f,j,v⟩:=tE m i;let r:eF sg:=by obtain z|z:=g<;>rw[z];show nP;show nR nP
 let o:∀q,aT q=Á->1<q->¬q∣sg:=λq h1 h2 a=>by
  obtain z|z:=g
  .rw[z] at a;let:=ĝ .a a;lia
  .rw[z] at a;let:=ĝ .a (aeL.mp a);lia
 let⟨n,d,l⟩:=Dj (c:=(sg,R)) h' r o h;let e:pp us=pp (us.take i)*pp (us.drop i):=by rw[<-Ee,afF]
 let p1:=k9 .a h';let p2:=k9 (.b:0<=f) j;let RR:=Ĥ h h;dsimp only at l;generalize (us.take i).foldl kK (sg,R)=c at *
 let w:(c.1.natAbs:Int)*(c.2*c.2)=pp (us.take i)*(R*R):=by
  let h1:0<c.2*c.2:=Ĥ d d;let h2:0<pp (us.take i)*(R*R):=Ĥ p1 RR;generalize c.2*c.2=X at *;generalize R*R=σ at *;generalize pp (us.take i)=Z at *;let a:=congrArg Int.natAbs l;rw[ļ,ļ,ļ,(by obtain z|z:=g<;>rw[z]<;>rfl:sg.natAbs=1),Ω] at a;let k:((c.1.natAbs*X.natAbs:Nat):Int)=((σ.natAbs*Z.natAbs:Nat):Int):=by rw[a]
  rw[Ϻ,Ϻ,(.b:(X.natAbs:Int)=X),(.b:(σ.natAbs:Int)=σ),(.b:(Z.natAbs:Int)=Z)] at k;rw[k,ī]
 let x:pp (us.take i)*(R*R)<=pp us*(R*R):=by
  rw[e];show adR (kZ p1 .b) .b
 let p:0<(c.1.natAbs:Int):=by let:=n.1;lia
 let c2:0<c.2*c.2:=Ĥ d d;let t:=kZ p (.b:1<=c.2*c.2);let u:c.2*c.2<=(c.1.natAbs:Int)*(c.2*c.2):=by rw[ī (c.1.natAbs:Int)];show kZ c2 .b
 let s:=kZ d (.b:1<=c.2);show#[.b,d,.b]
def Oh{us:List (Int×Int)}(f:g5 1 us b){u:Int×Int}(a:us[i]?=À u):2<=u.1/\1<=u.2/\u.1^↥(u.2/2)<=pp us/\u.1<=pp us/\(u.2:Int)<pp us:=by
 let k:=kf f u (Ĭ a);let h2:=az k.1;let hi:i<us.length:=(adk.mp a).1
 let e:us.drop i=u::us.drop (i+1):=by
  rw[afd hi];rw[Đ hi] at a;rw[ĳ a]
 let⟨b',h'⟩:=rN f i;let⟨c,h,r⟩:=tE f (i+1)
 let e2:pp us=pp (us.take i)*(u.1^↥u.2*pp (us.drop (i+1))):=by
  let:pp us=pp (us.take i++us.drop i):=by rw[afF]
  rw[this,Ee,e,pp]
 let p1:=k9 .a h';let p2:=k9 (.b:0<=c) h;let j:0<u.1^↥u.2:=ŕ .b
 let l:u.1^↥u.2<=pp us:=by
  rw[e2];let:=kZ j (.b:1<=pp (us.drop (i+1)));let q:=Ĥ j p2;let w:u.1^↥u.2*pp (us.drop (i+1))<=pp (us.take i)*(u.1^↥u.2*pp (us.drop (i+1))):=by rw[ī (pp (us.take i))];show kZ q .b
  lia
 let mono:∀m n:Nat,m<=n->u.1^m<=u.1^n:=λm n o=>by
  obtain⟨d,rfl⟩:∃d,n=m+d:=#[n-m,.b];rw[Ŭ];show kZ (ŕ .b) (by let:=ŕ (n:=u.1) (m:=d) .b;lia)
 show#[h2,k.2,ahJ (mono _ _ .b) l,?_,?_]
 .let:=mono 1 ↥u.2 .b;rw[ĥ,Ń,Ő] at this;lia
 .let:((↥u.2:Nat):Int)<u.1^↥u.2:=by
   let g:∀n:Nat,(n:Int)<u.1^n:=λn=>by
    induction n with
    |zero=>rw[Ń];decide
    |succ n p =>
     rw[ĥ];let:u.1^n*2<=u.1^n*u.1:=Ł h2 (afi (ŕ .b));lia
   show g _
  lia
def Bn{M:Type}{l:List M}{a:M}(h:l[i]?=À a):l.drop i=a::l.drop (i+1):=by
 let hi:i<l.length:=(adk.mp h).1;rw[afd hi];rw[Đ hi] at h;rw[ĳ h]
theorem IH:∀l:.L,0<l.length->Mc l∈l/\∀a∈l,Mc l<=a
 |[a],_=>by simp[Mc]
 |a::b::l,_=>by
  let⟨h1,h2⟩:=IH (b::l) .c;unfold Mc;split
  .show#[Ě _ h1,λc d=>?_];obtain z|z:=ě.mp d
   .lia
   .show h2 c z
  .show#[Ġ ..,λc d=>?_];obtain z|z:=ě.mp d
   .lia
   .let:=h2 c z;lia
theorem Ir:∀l:.L,0<l.length->KH l∈l/\∀a∈l,a<=KH l
 |[a],_=>by simp[KH]
 |a::b::l,_=>by
  let⟨h1,h2⟩:=Ir (b::l) .c;unfold KH;split
  .show#[Ě _ h1,λc d=>?_];obtain z|z:=ě.mp d
   .lia
   .show h2 c z
  .show#[Ġ ..,λc d=>?_];obtain z|z:=ě.mp d
   .lia
   .let:=h2 c z;lia
noncomputable def ent(F:Tb)(i j:Nat):Fr:=(F.getD i []).getD j (0,1)
structure Xo(n:Nat)(Q:Fr->Prop)(T:Tb):Prop where
 len:T.length=n
 row:∀r∈T,r.length=n
 all:∀r∈T,∀u∈r,Q u
noncomputable def Bw(n:Nat)(p:Int)(u:Fr):List Fr:=(uK n).map λj=>if j=p then u else (0,1)
noncomputable def Tj(us:List Fr):Tb:=us.mapIdx λi u=>Bw us.length (i:Int) u
def JX{u:Fr}{Q:Fr->Prop}(a:Q (0,1))(b:Q u):(Bw n p u).length=n/\∀v∈Bw n p u,Q v:=by
 unfold Bw;show#[by rw[ą,eU],λv c=>?_];let⟨j,_,rfl⟩:=adn.mp c;split
 .show b
 .show a
def Om{us:List Fr}{Q:Fr->Prop}(d:Q (0,1))(e:∀u∈us,Q u):Xo us.length Q (Tj us):=by
 unfold Tj
 let key:∀r∈us.mapIdx λi u=>Bw us.length (i:Int) u,∃(i:Nat) (u:Fr),u∈us/\r=Bw us.length (i:Int) u:=λr a=>by
  let⟨i,hi,rfl⟩:=List.mem_mapIdx.mp a;show#[i,us[i],aeX hi,rfl]
 show#[by rw[ϋ],λr a=>?_,λr a u b=>?_]
 .let⟨i,u,_,rfl⟩:=key r a;unfold Bw;rw[ą,eU]
 .let⟨i,v,c,rfl⟩:=key r a;show(JX d (e v c)).2 u b
def OJ{us:List Fr}(hi:i<us.length)(a:j<us.length):ent (Tj us) i j=if i=j then us.getD i (0,1) else (0,1):=by
 unfold ent Tj;rw[ċ (l:=us.mapIdx _),ag7,Đ hi];simp only[ahV,agQ];unfold Bw;rw[getD_map (e:=0) (by rwa[eU]),pR a,ċ,Đ hi];by_cases z:i=j
 .rw[ac6 z,ac6 .b];rfl
 .rw[ac2 z,ac2 .b]
def JY(hp:aT p=Á)(h2:p≠2)(c:¬p∣b):cls (p*b) p=(1,bK b p):=by
 let a:=az hp;unfold cls;rw[(by rw[Int.pow_one];show ī ..:p*b=b*p^1),u_ a c,ac2 h2];rfl
def rj(hp:aT p=Á)(h2:p≠2)(ha:¬p∣a):cls a p=(0,bK a p):=by
 rw[cy (az hp) ha,ac2 h2]
def qO(hp:aT p=Á)(h2:p≠2)(ha:¬p∣a)(d:¬p∣b):aq a (p*b) p=decide (bK a p=1):=by
 let c:=az hp;rw[bz .b h2,JY hp h2 d,rj hp h2 ha];unfold oe;simp
def e_(hp:aT p=Á):¬p∣-1:=λh=>by
 let:=az hp;let:=ĝ .a (aeL.mp h);lia
def iJ(hp:aT p=Á)(h2:p≠2):p%2=1:=by
 apply ģ;intro a;obtain z|z:=cQ.mp hp
 .lia
 .lia
def dP(h:a%2=1):cls a 2=(0,a%8):=by
 rw[cy .a .b,ac6 rfl]
def W5(hp:aT p=Á)(h2:p≠2):aq p (-1) p=!decide (p%4=3)/\aq (-p) (-1) p=!decide (p%4=3):=by
 let b:=az hp;let a:=e_ hp;let c:¬p∣1:=λh=>a (aeL.mpr h)
 let key:decide (bK (-1) p=1)=!decide (p%4=3):=by
  rw[HS hp h2];by_cases z:p%4=3
  .rw[ac6 z];simp[z]
  .rw[ac2 z];simp[z]
 constructor
 .rw[<-ba (.inr hp) .b .a];let:=qO hp h2 a c;rw[Ċ] at this;rw[this,key]
 .rw[<-ba (.inr hp) .b .a];let:=qO hp h2 a a;rw[(.b:p*-1=-p)] at this;rw[this,key]
def Xx(b:p%2=1):aq p (-1) 2=!decide (p%4=3):=by
 rw[bu,dP b,dP (a:=-1) .a];let e:p%8%4=p%4:=by lia
 unfold iH;simp only[e];by_cases z:p%4=3
 .simp[z,b1]
 .simp[z,b1]
def Xp(h:0<p):aq p (-1) 0=Á/\aq (-p) (-1) 0=Â:=by
 rw[aR,aR];constructor
 .simp[h]
 .simp;lia
noncomputable def mZ(L:.L)(f:Int->Bool):Bool:=decide ((L.filter λp=>!f p).length%2=0)
def cK(p:Int)(L:.L)(f:Int->Bool):mZ (p::L) f=(f p==mZ L f):=by
 unfold mZ;rw[agR];cases f p
 .simp only[Bool.not_false,af_,ŭ];by_cases h:(L.filter λp=>!f p).length%2=0
  .let:¬((L.filter λp=>!f p).length+1)%2=0:=by lia
   simp[h,this]
  .let:((L.filter λp=>!f p).length+1)%2=0:=by lia
   simp[h,this]
 .simp
def nW(f:Int->Bool):mZ [] f=Á:=rfl
theorem Gv(f g:Int->Bool):∀L:.L,mZ L (λp=>f p==g p)=(mZ L f==mZ L g)
 |[]=>rfl
 |p::L=>by
  rw[cK,cK,cK,Gv f g L];generalize f p=a;generalize g p=b;generalize mZ L f=c;generalize mZ L g=d;revert a b c d;decide
def vW{f g:Int->Bool}(h:∀p∈L,f p=g p):mZ L f=mZ L g:=by
 unfold mZ;rw[List.filter_congr λp hp=>by rw[h p hp]]
def vg{f:Int->Bool}{S:.L}(d:L.Nodup)(c:S.Nodup)(b:∀p∈S,p∈L)(h:∀p∈L,p∉S->f p=Á):mZ L f=mZ S f:=by
 unfold mZ
 let:(L.filter λp=>!f p).Perm (S.filter λp=>!f p):=by
  show(List.perm_ext_iff_of_nodup (d.filter _) (c.filter _)).mpr λa=>?_;rw[aeb,aeb];constructor
  .rintro⟨h1,h2⟩;show#[ģ λe=>?_,h2];rw[h a h1 e] at h2;cases h2
  .rintro⟨h1,h2⟩;show#[b a h1,h2]
 rw[this.length_eq]
def uP{f:Int->Bool}(h:∀p∈L,f p=Á):mZ L f=Á:=by
 unfold mZ;rw[List.filter_eq_nil_iff.mpr λp hp=>by rw[h p hp];decide];rfl
structure By(L:.L):Prop where
 nd:L.Nodup
 pr:∀p∈L,aT p=Á
 two:(2:Int)∈L
def uh(L:.L)(x:Int):Prop:=x≠0/\∀q,aT q=Á->q∣x->q∈L
def IS(h:By L):(0:Int)∉L:=λz=>by let:=az (h.pr 0 z);lia
def By.all(h:By L):((0:Int)::L).Nodup:=aeB.mpr #[IS h,h.nd]
def By.pl(h:By L):∀p∈(0:Int)::L,Pl p:=λp hp=>by
 obtain z|z:=ě.mp hp
 .show .inl z
 .show .inr (h.pr p z)
def uy(L:.L)(x y:Int):Bool:=mZ (0::L) (aq x y)
def nG(h:By L)(b:x≠0)(a:y≠0):uy L y x=uy L x y:=vW λp hp=>ba (h.pl p hp) b a
def E4(h:By L){z:Int}(b:x≠0)(a:y≠0)(hz:z≠0):uy L x (y*z)=(uy L x y==uy L x z):=by
 unfold uy;rw[<-Gv];show vW λp hp=>aS (h.pl p hp) b a hz
def bq(hp:aT p=Á)(c:aT q=Á)(h:p∣q):p=q:=by
 let h1:=az hp;let h2:=az c;apply ģ;intro g;let f:=kx (p:=p) (d:=q) hp;by_cases z:q∣p
 .let a:=ĝ .b h;let b:=ĝ .b z;lia
 .let e:=kx (p:=q) (d:=p) c z;let:=ag8 (Ϩ p) h;rw[e] at this;let:=ĝ .a this;lia
def vh(hp:aT p=Á)(h2:p≠2)(b:∀q,aT q=Á->q∣x->q≠p)(a:∀q,aT q=Á->q∣y->q≠p):aq x y p=Á :=
 iK hp h2 (λz=>b p hp z rfl) λz=>a p hp z rfl
def ik(a:aT q=Á):∀r,aT r=Á->r∣q->r=q:=λr b h=>bq b a h
def Pn:∀r,aT r=Á->¬r∣(-1:Int):=λr a=>e_ a
def Rq{f:Int->Bool}(a b:Int):mZ [a,b] f=(f a==f b):=by
 rw[cK,cK,nW];cases f a<;>cases f b<;>rfl
def Xb{f:Int->Bool}(a b c:Int):mZ [a,b,c] f=(f a==(f b==f c)):=by
 rw[cK,cK,cK,nW];cases f a<;>cases f b<;>cases f c<;>rfl
def Xy(h:By L):uy L (-1) (-1)=Á:=by
 unfold uy;rw[vg (S:=[0,2]) h.all .a (λp hp=>?_) (λp hp b=>?_),Rq,aR,bu,dP (a:=-1) .a]
 .rfl
 .simp only[ě,ğ,adM] at hp;obtain rfl|rfl:=hp
  .show Ġ
  .show Ě _ h.two
 .simp only[ě,ğ,adM,not_or] at b hp;let:=h.pr p (hp.resolve_left b.1);show iK this b.2 (e_ this) (e_ this)
def K3:cls 2 2=(1,1):=by
 unfold cls;rw[show a9 2 2=(1,1) from nt .a #[.a,.a,.b]];rfl
def RA(h:By L):uy L (-1) 2=Á:=by
 show uP λp hp=>?_;obtain rfl|z:=ě.mp hp
 .rw[aR];rfl
 let d:=h.pr p z;by_cases h2:p=2
 .subst h2;rw[bu,K3,dP (a:=-1) .a];rfl
 .show vh d h2 (λq c b=>absurd b (Pn q c)) λq c b e=>h2 (by rw[<-e];show ik bQ q c b)
def UW(h:By L)(a:q∈L):∀p∈[2,q],p∈(0:Int)::L:=λp hp=>by
 simp only[ě,ğ,adM] at hp;obtain rfl|rfl:=hp
 .show Ě _ h.two
 .show Ě _ a
def SQ(h:By L)(f:q∈L)(h2:q≠2):uy L (-1) q=Á:=by
 let hp:=h.pr q f;let g:=az hp;rw[<-nG h .a .b];unfold uy;rw[vg (S:=[2,q]) h.all (by simp;lia) (UW h f) (λp a d=>?_),Rq,Xx (iJ hp h2),(W5 hp h2).1]
 .simp
 .simp only[ě,ğ,adM,not_or] at d a;obtain rfl|z:=a
  .show(Xp .b).1
  .show vh (h.pr p z) d.1 (λr c b e=>d.2 (by rw[<-e];show ik hp r c b)) λr c b=>absurd b (Pn r c)
def JI(h:By L)(a:x≠0):uy L x x=uy L (-1) x:=by
 rw[nG (x:=x) (y:=-1) h a .a];show vW λp hp=>f9 (h.pl p hp) a
def Uq(h:By L)(f:q∈L)(h2:q≠2):uy L 2 q=Á:=by
 let hp:=h.pr q f;let l:=az hp;let i:=iJ hp h2;let j:¬q∣2:=λz=>h2 (ik bQ q hp z);let k:¬q∣1:=λz=>e_ hp (aeL.mpr z);unfold uy;rw[vg (S:=[2,q]) h.all (by simp;lia) (UW h f) (λp a b=>?_),Rq,bu,K3,dP i]
 .let e:=qO hp h2 j k;rw[Ċ] at e;rw[e,M8 hp h2];let g:q%8=1\/q%8=3\/q%8=5\/q%8=7:=by lia
  obtain z|z|z|z:=g<;>rw[z]<;>rfl
 .simp only[ě,ğ,adM,not_or] at b a;obtain rfl|z:=a
  .rw[aR];rfl
  .show vh (h.pr p z) b.1 (λr d c e=>b.1 (by rw[<-e];show ik bQ r d c)) (λr d c e=>b.2 (by rw[<-e];show ik hp r d c))
def WG(h:By L)(m:q∈L)(h2:q≠2)(n:r∈L)(d:r≠2)(c:q≠r):uy L q r=Á:=by
 let hp:=h.pr q m;let a:=h.pr r n;let D:=az hp;let B:=az a;let x:=iJ hp h2;let k:=iJ a d;let l:¬q∣r:=λz=>c (ik a q hp z);let i:¬r∣q:=λz=>c (ik hp r a z).symm;let y:¬q∣1:=λz=>e_ hp (aeL.mpr z);let A:¬r∣1:=λz=>e_ a (aeL.mpr z);unfold uy;rw[vg (S:=[2,q,r]) h.all (by simp;lia) (λp b=>?_) (λp b f=>?_),Xb,bu,dP x,dP k]
 .let e1:aq q r q=decide (bK r q=1):=by
   rw[<-ba (.inr hp) .b .b];let e:=qO hp h2 l y
   rwa [Ċ] at e
  let e2:aq q r r=decide (bK q r=1):=by
   let e:=qO a d i A
   rwa [Ċ] at e
  rw[e1,e2];let ex:=Jo hp h2 a d c
  let t:iH (0,q%8) (0,r%8)=!decide (q%4=3/\r%4=3):=by
   unfold iH;let o:q%8%4=q%4:=by lia
   let C:r%8%4=r%4:=by lia
   simp only[o,C];by_cases z:q%4=3<;>by_cases w:r%4=3<;>simp[z,w,b1]
  rw[t];by_cases z:q%4=3/\r%4=3
  .rw[ac6 z] at ex;rw[ado z];obtain u|u:=cE l<;>obtain v|v:=cE i<;>rw[u,v] at ex ⊢<;>simp_all
  .rw[ac2 z] at ex;rw[adF z];obtain u|u:=cE l<;>obtain v|v:=cE i<;>rw[u,v] at ex ⊢<;>simp_all
 .simp only[ě,ğ,adM] at b;obtain rfl|rfl|rfl:=b
  .show Ě _ h.two
  .show Ě _ m
  .show Ě _ n
 .simp only[ě,ğ,adM,not_or] at f b;obtain rfl|z:=b
  .rw[aR];simp;lia
  .show vh (h.pr p z) f.1 (λs j g e=>f.2.1 (by rw[<-e];show ik hp s j g)) (λs j g e=>f.2.2 (by rw[<-e];show ik a s j g))
theorem wq{L:.L}{Q:Int->Prop}(h1:Q 1)(i:Q (-1))(f:∀q∈L,aT q=Á->Q q)(hmul:∀x y,x≠0->y≠0->Q x->Q y->Q (x*y)):∀(n:Nat) (x:Int),x.natAbs<=n->uh L x->Q x
 |0,x,s,h=>absurd (.b:x=0) h.1
 |n+1,x,s,h=>by
  let m:=h.1;by_cases z:x=1
  .rwa[z]
  by_cases l:x=-1
  .rwa[l]
  let⟨q,b,c,j⟩:=fZ (k:=x.natAbs) .b;let t:=az b;let a:q∣x:=aet.mp #[c,j];let⟨d,rfl⟩:=a;let g:d≠0:=by rintro rfl;show m (ś _)
  let o:d.natAbs<=n:=by
   let e:(q*d).natAbs=q.natAbs*d.natAbs:=ļ ..;let:2*d.natAbs<=q.natAbs*d.natAbs:=afL _ .b;lia
  show hmul q d .b g (f q (h.2 q b #[d,rfl]) b) (wq h1 i f hmul n d o #[g,λr p a=>h.2 r p ?_]);let⟨e,rfl⟩:=a;show#[q*e,by grind]
def Fy(h:By L)(b:x≠0):uy L x 1=Á:=uP λp hp=>by
 let:=rh (a:=x) (r:=1) (h.pl p hp) b .a
 rwa [Ċ] at this
def IA(h:By L)(k:uh L x)(c:uh L y):uy L x y=Á:=by
 let base:∀g,(g=-1\/g∈L)->∀y,uh L y->g≠0/\uy L g y=Á:=λg d y c=>by
  let i:g≠0:=by
   obtain rfl|d:=d
   .decide
   .let:=az (h.pr g d);lia
  show#[i,wq (L:=L) (Q:=λy=>uy L g y=Á) (Fy h i) ?_ (λq f j=>?_) (λx y k c h1 h2=>by rw[E4 h i k c,h1,h2];rfl) y.natAbs y (ú _) c]
  .obtain rfl|d:=d
   .show Xy h
   .rw[<-nG h i .a];by_cases z:g=2
    .rw[z];show RA h
    .show SQ h d z
  .let o:=az j;obtain rfl|d:=d
   .by_cases z:q=2
    .rw[z];show RA h
    .show SQ h f z
   .by_cases e:g=q
    .subst e;rw[JI h i];by_cases z:g=2
     .rw[z];show RA h
     .show SQ h d z
    by_cases z:g=2
    .rw[z];show Uq h f .b
    by_cases m:q=2
    .rw[m,nG h .a i];show Uq h d z
    .show WG h d z f m e
 let l:∀x y,uy L y x=Á->x≠0->y≠0->uy L x y=Á:=λx y e h1 h2=>by rwa[nG h h2 h1]
 rw[nG h c.1 k.1];show wq (L:=L) (Q:=λx=>uy L y x=Á) (Fy h c.1) (l _ _ (base _ (.inl rfl) y c).2 c.1 .a) (λq f j=>l _ _ (base q (.inr f) y c).2 c.1 (base q (.inr f) y c).1) (λa b ha n h1 h2=>by rw[E4 h c.1 ha n,h1,h2];rfl) x.natAbs x (ú _) k
def qJ(h1:1<=k)(h2:k<1073741824):Tame k:=by
 by_cases d:C3 k
 .show .inl #[k,1,d,.b,.a,.b]
 .let #[q,h]:=Classical.not_forall.mp d;let #[i,a]:=aht.mp h;let #[#[f,g],l]:=aht.mp a
  let c:0<f:=by
   apply ģ;intro j;let:q*f<=0:=adL .b .b;lia
  let e:f<32768:=by
   apply ģ;intro j;let:32768*32768<=q*f:=Ť .b .b .a .b;lia
  let b:q<1073741824:=by
   let:q*1<=q*f:=Ł .b .b;lia
  show .inr #[f,q,Jx c e,c,i,b,by rw[g];show ī ..]
theorem vf:∀(n:Nat) (x:Int),x≠0->x.natAbs<=n->∃f s,eF f/\0<s/\x=f*(s*s)
 |0,x,a,o=>absurd (.b:x=0) a
 |n+1,x,a,o=>by
  by_cases j:eF x
  .show#[x,1,j,.a,.b]
  .let g:¬∀d:Int,2<=d->¬d*d∣x:=λz=>j #[a,z];let #[d,l]:=Classical.not_forall.mp g;let #[i,h]:=aht.mp l;let #[c,b]:=Classical.not_not.mp h;let c0:c≠0:=by rintro rfl;show a (by rw[b,ś])
   let m:c.natAbs<=n:=by
    let e:x.natAbs=(d*d).natAbs*c.natAbs:=by rw[b,ļ]
    let:2<=(d*d).natAbs:=by
     let:2*2<=d*d:=Ť i i .a .b;lia
    let:2*c.natAbs<=(d*d).natAbs*c.natAbs:=afL _ this;lia
   let⟨f,s,h1,h2,k⟩:=vf n c c0 m;show#[f,s*d,h1,Ĥ h2 .b,by rw[b,k];grind]
def Aj(a:0<s)(e:x=f*(s*s)):f.natAbs<=x.natAbs:=by
 rw[e,ļ];let:1<=(s*s).natAbs:=by let:=Ĥ a a;lia
 let:=Nat.mul_le_mul_left f.natAbs this;lia
theorem J1:∀{us:List (Int×Int)} {a b:Int},g5 a us b->∀u∈us,u.1∣pp us
 |[],_,_,_,u,h=>absurd h ğ
 |v::us,a,b,c,u,h=>by
  obtain rfl|z:=ě.mp h
  .change u.1∣u.1^↥u.2*pp us;let:=c.2.2.1;rw[(.b:↥u.2=(↥u.2-1)+1),ĥ];show#[u.1^(↥u.2-1)*pp us,by grind]
  .show Ĺ (J1 c.2.2.2 u z) #[v.1^↥v.2,ī ..]
theorem Ku{q:Int}(c:aT q=Á):∀{us:List (Int×Int)} {a b:Int},g5 a us b->q∣pp us->∃u∈us,u.1=q
 |[],_,_,_,h=>by
  let:=ĝ .a (show q∣1 from h);let:=az c;lia
 |v::us,a,b,d,h=>by
  obtain z|z:=euclid c (show q∣v.1^↥v.2*pp us from h)
  .let:∀n:Nat,q∣v.1^n->q∣v.1:=λn=>by
    induction n with
    |zero =>
     intro h;rw[Ń] at h;let:=ĝ .a h;let:=az c;lia
    |succ n e =>
     intro h;rw[ĥ] at h;obtain y|y:=euclid c h
     .show e y
     .show y
   show#[v,Ġ,(bq c d.2.1 (this _ z)).symm]
  .let⟨u,h1,h2⟩:=Ku c d.2.2.2 z;show#[u,Ě _ h1,h2]
def gG(c:1<=k):q∈(nN k).map (·.1)↔aT q=Á/\q∣k:=by
 let⟨⟨b,a⟩,e⟩:=rG c;rw[adn];constructor
 .rintro⟨u,h1,rfl⟩;show#[(kf a u h1).1,e▸J1 a u h1]
 .rintro⟨h1,h2⟩;rw[<-e] at h2;show Ku h1 a h2
def vM(hp:aT p=Á)(h2:p≠2):NR p:=by
 let⟨g,h1,_,a⟩:=Pk hp h2;show#[g,h1,a]
def Pb(k m x:Int):Prop:=0<=x/\x<m/\m∣k*x-1
def Pb.uniq(x y:Int)(g:Pb k m x)(e:Pb k m y):x=y:=by
 let⟨n,l,i⟩:=g;let⟨o,j,f⟩:=e
 let h:m∣x-y:=by
  let⟨a,ha⟩:=i;let⟨b,p⟩:=f;show#[a*y-b*x,?_];let e1:k*x=1+m*a:=by lia
  let e2:k*y=1+m*b:=by lia
  let:y*(k*x)=x*(k*y):=by grind
  rw[e1,e2] at this;grind
 let⟨c,d⟩:=h
 let:c=0:=by
  obtain z|z|z:=afI c 0
  .let:m*c<=m*(-1):=Ł .b .b;lia
  .show z
  .let:m*1<=m*c:=Ł .b .b;lia
 rw[this,ś] at d;lia
def yu(k m:Int):Int:=ö (Pb k m)
def Ki(h:Pb k m x):yu k m=x:=(sZ Pb.uniq h).symm
structure Hg(k m r b f g:Int)(u v s:Int):Prop where
 r0:1<=r
 b0:0<=b
 lt:b<r
 rm:r<=m
 gc:È r b=1
 fr:m∣k*f-r
 fb:m∣k*g-b
 sg:s=1\/s=-1
 fu:f=-s*u
 gv:g=s*v
 u0:0<=u
 v0:0<=v
 um:u<=m
 sum:u*b+v*r=m
def Hg.start(b:2<=m)(a:È k m=1):Hg k m m (k%m) 0 1 0 1 1:=by
 show#[.b,ť _ .b,Ŧ _ .b,ń m,?_,#[-1,.b],?_,.inl rfl,.b,.b,.a,.a,.b,.b]
 .let e:k%m=k.fmod m:=(aem k (.b:0<=m)).symm;rw[e,p_,a]
 .show#[k/m,?_];let:=aeJ k m;lia
def Hg.step(I:Hg k m r b f g u v s)(n:b≠0):Hg k m b (r-r/b*b) g (f-r/b*g) v (u+r/b*v) (-s):=by
 let⟨t,i,lt,B,w,fr,l,sg,o,j,p,h,G,sum⟩:=I;let a:=aeJ r b;let E:=ť r n;let C:=Ŧ r (.b:0<b);let x:0<=r/b:=agm .b i;let e:r-r/b*b=r%b:=by rw[ī] at a;lia
 generalize A:r/b=q at *;let qv:0<=q*v:=Ϗ x h;show#[.b,.b,.b,.b,?_,l,?_,.b,by rw[j];grind,by rw[o,j];grind,h,.b,?_,by grind]
 .let y:r%b=r.fmod b:=(aem r i).symm;rw[e,y,p_,w]
 .let⟨c,F⟩:=fr;let⟨d,D⟩:=l;show#[c-q*d,?_];let e1:k*f=r+m*c:=by lia
  let e2:k*g=b+m*d:=by lia
  let:k*(f-q*g)=k*f-q*(k*g):=by grind
  rw[this,e1,e2];grind
 .let z:v*1<=v*r:=Ł t h;let H:0<=u*b:=Ϗ p i;lia
def Hg.done(I:Hg k m r 0 f g u v s)(b:2<=m):yu k m=f%m:=by
 let h1:r=1:=by
  let:=I.gc;rw[agt] at this;let:=I.r0;lia
 show Ki #[ť _ .b,Ŧ _ .b,?_];let⟨c,a⟩:=I.fr;rw[h1] at a;let e:=aeJ f m;show#[c-k*(f/m),?_];let:k*(f%m)=k*f-k*(m*(f/m)):=by rw[<-afy];congr 1;lia
 rw[this,(.b:k*f=1+m*c)];grind
def Hg.bd(I:Hg k m r b f g u v s):f.natAbs<=m/\g.natAbs<=m:=by
 let⟨e,c,lt,i,j,fr,q,sg,l,p,d,a,n,sum⟩:=I;let h:v*1<=v*r:=Ł e a;let o:0<=u*b:=Ϗ d c;obtain rfl|rfl:=sg<;>lia
def PK(o:2<=m)(l:È k m=1):Pb k m (yu k m):=by
 let:∀(n:Nat) (r b f g u v s:Int),Hg k m r b f g u v s->↥b<=n->∃x,Pb k m x:=λn=>by
  induction n with
  |zero =>
   intro r b f g u v s I h;let a:b=0:=by let:=I.b0;lia
   subst a
   let h1:r=1:=by
    let:=I.gc;rw[agt] at this;let:=I.r0;lia
   show#[f%m,ť _ .b,Ŧ _ .b,?_];let⟨c,j⟩:=I.fr;rw[h1] at j;let e:=aeJ f m;show#[c-k*(f/m),?_];let:k*(f%m)=k*f-k*(m*(f/m)):=by rw[<-afy];congr 1;lia
   rw[this,(.b:k*f=1+m*c)];grind
  |succ n i =>
   intro r b f g u v s I h;by_cases a:b=0
   .subst a;show i r 0 f g u v s I .b
   .show i _ _ _ _ _ _ _ (I.step a) ?_;let:=(I.step a).lt;let:=(I.step a).b0;lia
 let⟨x,d⟩:=this _ _ _ _ _ _ _ _ (Hg.start o l) (ú _);rwa[Ki d]
def Cz(one m other p:Int):Int:=one+m*((other-one)*yu m p%p)
def UC{one other:Int}(hp:2<=p)(i:1<=m)(b:È m p=1)(j:0<=one)(h1:one<m):(0<=Cz one m other p/\Cz one m other p<m*p)/\m∣Cz one m other p-one/\p∣Cz one m other p-other:=by
 let⟨g,b1,c,d⟩:=PK hp b;unfold Cz;let a:=ť ((other-one)*yu m p) (.b:p≠0);let h:=Ŧ ((other-one)*yu m p) (.b:0<p);let k:=aeJ ((other-one)*yu m p) p;generalize f:(other-one)*yu m p%p=y at *;generalize (other-one)*yu m p/p=w at *;show#[#[?_,?_],#[y,.b],?_]
 .let:=Ϗ (.b:0<=m) a;lia
 .let:m*y<=m*(p-1):=Ł .b .b;let e:m*(p-1)=m*p-m:=by rw[afy,Ċ]
  lia
 .show#[(other-one)*c-m*w,?_];let e1:y=(other-one)*yu m p-p*w:=by lia
  let e2:m*yu m p=1+p*c:=by lia
  rw[e1];let:m*((other-one)*yu m p-p*w)=(other-one)*(m*yu m p)-m*(p*w):=by grind
  rw[this,e2];grind
def Oo(k:Int):List (Int×Int)->Int->Int->Option Int
 |[],a,_=>À a
 |u::us,a,d=>match AK k u.1 with
  |none=>none
  |some r=>Oo k us (Cz a d r u.1) (d*u.1)
def LB(k m:Int):Option Int:=Oo k (nN m) 0 1
def FD(hp:aT p=Á)(h:AK k p=À r):(0<=r/\r<p)/\Cg p (r*r) k:=by
 by_cases h2:p=2
 .subst h2;unfold AK at h
  let a:bK k 2=k%2:=by
   unfold bK;by_cases z:k%2=0
   .rw[ac6 z,z]
   .rw[ac2 z,ac6 rfl];lia
  rw[a] at h;split at h
  .cases h
  .rw[ac6 (.inr rfl)] at h;cases h;show#[.b,?_];let:k%2=0\/k%2=1:=by lia
   obtain z|z:=this
   .rw[z];show#[-(k/2),.b]
   .rw[z];show#[-(k/2),.b]
 .show Q8 hp h2 (vM hp h2) h
structure Mq(k a d:Int)(ps:.L):Prop where
 d1:1<=d
 a0:0<=a
 a1:a<d
 pr:∀q,aT q=Á->q∣d->q∈ps
 sq:∀q∈ps,q∣a*a-k/\q∣d
def Mq.step{ps:.L}(I:Mq k a d ps)(hp:aT p=Á)(v:p∉ps)(h:AK k p=À r):Mq k (Cz a d r p) (d*p) (ps++[p])/\È d p=1/\(0<=r/\r<p):=by
 let c:=az hp;let f:È d p=1:=kx hp λz=>v (I.pr p hp z);let⟨⟨s,u⟩,n,l⟩:=UC (one:=a) (other:=r) c I.d1 f I.a0 I.a1;let⟨t,i⟩:=FD hp h;show#[#[?_,s,u,λq b o=>?_,λq b=>?_],f,t]
 .let:=Ĥ (by let:=I.d1;lia:0<d) (.b:0<p);lia
 .obtain z|z:=euclid b o
  .show aeA _ (I.pr q b z)
  .show ŧ _ (adv.mpr (bq b hp z))
 .obtain z|z:=adQ.mp b
  .let⟨j,g⟩:=I.sq q z;show#[?_,Ĺ g #[p,rfl]];let m:q∣Cz a d r p-a:=Ĺ g n;generalize Cz a d r p=w at *;let:w*w-k=(w-a)*(w+a)+(a*a-k):=by grind
   rw[this];show ξ (Ĺ m #[w+a,rfl]) j
  .rw[adv.mp z];show#[?_,#[d,ī ..]];generalize Cz a d r p=w at *;let e:p∣r*r-k:=i;let:w*w-k=(w-r)*(w+r)+(r*r-k):=by grind
   rw[this];show ξ (Ĺ l #[w+r,rfl]) e
def Mq.zero(k:Int):Mq k 0 1 []:=#[.a,.a,.a,λq a b=>by
 let:=ĝ .a b;let:=az a
 lia,λq h=>absurd h ğ]
theorem wy:∀{us:List (Int×Int)} {a b:Int},g5 a us b->(us.map (·.1)).Pairwise (·<·)/\∀q∈us.map (·.1),a<q
 |[],_,_,_=>#[ţ,λ_ h=>absurd h ğ]
 |u::us,a,b,h=>by
  let⟨h1,h2,g,e⟩:=h;let⟨f,c⟩:=wy e;show#[aeN.mpr #[c,f],λq d=>?_];obtain rfl|z:=ě.mp d
  .show h1
  .let:=c q z;lia
noncomputable def dp:List (Int×Int)->Int
 |[]=>1
 |u::us=>u.1*dp us
theorem Lu:∀{us:List (Int×Int)} {a b:Int},0<=a->g5 a us b->1<=dp us/\dp us<=pp us
 |[],_,_,_,_=>#[ń 1,ń 1]
 |u::us,a,b,ha,h=>by
  let⟨h1,h2,e,c⟩:=h;let⟨f,d⟩:=Lu .b c
  let hp:u.1<=u.1^↥u.2:=by
   rw[(.b:↥u.2=(↥u.2-1)+1),ĥ,ī];let:(0:Int)<u.1^(↥u.2-1):=ŕ .b;let:u.1*1<=u.1*u.1^(↥u.2-1):=Ł .b .b;lia
  constructor
  .let:=Ĥ (.b:0<u.1) (.b:0<dp us);change 1<=u.1*dp us;lia
  .show Ť hp d .b .b
theorem Kb{k α:Int}:∀(us:List (Int×Int)) (a d:Int) (ps:.L) (b c:Int),g5 c us b->(∀q∈ps,q<=c)->0<=c->Mq k a d ps->d*dp us<=α ->
  (Oo k us a d=none/\∃u∈us,bK k u.1=-1)\/(∃x e,Oo k us a d=À x/\Mq k x e (ps++us.map (·.1))/\e<=α/\∀u∈us,bK k u.1≠-1)
 |[],a,d,ps,b,c,j,g,s,I,i=>.inr #[a,d,rfl,by rwa[afS,afX],by let:d*1<=α:=i;lia,λu h=>absurd h ğ]
 |u::us,a,d,ps,b,c,j,g,s,I,i=>by
  let⟨h1,h2,y,n⟩:=j;rw[Oo];cases f:AK k u.1 with
  |none=>show .inl #[rfl,u,Ġ,wM.mp f]
  |some r =>
   let t:u.1∉ps:=λz=>by let:=g _ z;lia
   let⟨l,_⟩:=I.step h2 t f
   let m:=Kb us (Cz a d r u.1) (d*u.1) (ps++[u.1]) b u.1 n (λq o=>by
    obtain z|z:=adQ.mp o
    .let:=g q z;lia
    .rw[adv.mp z];show ń _) .b l (by rwa[ı])
   dsimp only;obtain⟨e1,v,e2,e3⟩|⟨x,e,e1,e2,e3,e4⟩:=m
   .show .inl #[e1,v,Ě _ e2,e3]
   .show .inr #[x,e,e1,by rwa[ř,List.append_cons],e3,λv p=>?_];obtain z|z:=ě.mp p
    .rw[z];intro w;rw[wM.mpr w] at f;cases f
    .show e4 v z
def Ry(c:1<=m):(LB k m=none/\∃q,aT q=Á/\q∣m/\bK k q=-1)\/(∃x,LB k m=À x/\0<=x/\x<m/\∀q,aT q=Á->q∣m->q∣x*x-k/\bK k q≠-1):=by
 let⟨⟨b,f⟩,d⟩:=rG c;let⟨n,i⟩:=Lu .a f;rw[d] at i;obtain⟨e1,u,e2,e3⟩|⟨x,e,e1,e2,e3,e4⟩:=Kb (k:=k) (α:=m) (nN m) 0 1 [] b 1 f (λq h=>absurd h ğ) .a (Mq.zero k) .b
 .let:=(gG c).mp (adn.mpr #[u,e2,rfl]);show .inl #[e1,u.1,this.1,this.2,e3]
 .show .inr #[x,e1,e2.a0,by let:=e2.a1;lia,λq g j=>?_];let a:=(gG c).mpr #[g,j];let⟨u,l,rfl⟩:=adn.mp a;show#[(e2.sq u.1 (by rwa[ag1])).1,e4 u l]
end Q
open Q hiding Fr getD_mem cnt kK ev xy
namespace L2.EP
open PySem PySem.Spec PyProof.Rows
section
variable{X:Cx}{U:aM}{D:GD}{M β:Type}[Py M][Py β]{e e1 e2:Ô}{b b1 b2:Bool}{pos:ï}{rest:List Ð}
def VF{i j:Int}(ha:E X U e1 b1 i)(b:E X U e2 b2 j)(a:LS i j):E X U (.BinOp e1 .LShift e2 pos) Á (i*2^↥j):=by stop show C4 (g:=λi j=>i*2^↥j) Qr ha b a
def MZ:Ww X "int.bit_length" (λx xs H Q=>∃i,x=.int i/\xs=[]/\Q (.int (Ê i:Nat)) H):=by
 intro ZB s Y H x xs v us Q I r a h;let⟨i,rfl,rfl,q⟩:=h;let⟨t,rfl⟩:=r;cases a;show call_int_bit_length #[.int (Ê i:Nat),H,I.tok _,#[_,rfl],q]
def P_{i:Int}{apos:ï}(ha:E X U e b i)(a:Ą e "bit_length" X.env (Õ e X.env)=Õ e X.env<|>zra)(c:(apos.endLine==pos.line)=Á<|>zra):E X U (.Call (.Attribute e "bit_length" apos) [] [] pos) Á ((Ê i:Nat):Int):=by
 stop
  show aK (zi PySem.F.plainAttrs_int PySem.F.slot_int_bit_length PySem.F.type_int_bit_length MZ ha a c) λY H Q ⟨H0,F,O,S,q⟩=>#[H0,F,O,S,λv H1 f d=>by
    cases d
    show#[rfl,i,rfl,rfl,q _ H1 f rfl]]
def IP{i:Int}{u:Int×Int}:CV X .In i u (decide (u.1=i) || decide (u.2=i)):=#[_,Hd,λN N' H v w Q h1 h2 q=>by
 let⟨p,x,y,rfl,c,b,a⟩:=h2;cases h1;cases b;cases a;show#[p,_,rfl,.inr (gS (aI.refl _) c),rfl,rfl,?_]
 simpa [Te,Ml,aga] using q]
theorem rO{K:Ä}{N:Nn}{H:Hp}:∀{vs:List V} {xs:.L},Ý (λx (b:Int)=>Py.rp K N H x b) vs xs->vs=xs.map V.int
 |_,_,.nil=>rfl
 |_,_,.cons h r=>by rw[rO r,show _=V.int _ from h];rfl
theorem BQ{i:Int}:∀xs:.L,Te (.int i) (xs.map V.int)=decide (i∈xs)
 |[]=>by simp[Te]
 |x::xs=>by
  let:=BQ (i:=i) xs;unfold Te at *;rw[ř,agL,this];simp only[Ml,ě,aga,Bool.decide_or];congr 1;show agP.mpr eq_comm
def S.XD{D:GD}{a:aM->Prop}{st:List Ð}(h:S X U st D)(w:∀U',D.nx U'->a U'):S X U st {D with nx:=a}:=by stop show mL h λd Y H ⟨H0,F,O,Z,n,r,bk,ct⟩=>#[H0,F,O,Z,λU' Y' H' c sm b q=>n U' Y' H' c sm b (w U' q),r,bk,ct]
def mz{c:Bool}{body orelse:List Ð}(J:aM->Prop)(a:T X U e c)(h1:c=Á->S X U body {D with nx:=J})(h2:c=Â->S X U orelse {D with nx:=J})(h:∀U',J U'->S X U' rest D):S X U (.If e body orelse pos::rest) D:=by stop show Vw a (λz=>(h1 z).XD h) (λz=>(h2 z).XD h)
def xw(mg:Í->Option Å)(x:Í)(i:Int):Prop:=∃t,mg x=À (.int i t)
def ua{x:Í}{i:Int}(c:Gl X x)(a:xw X.mg x i)(b:(x==("__debug__":Í))=Â<|>zrb):E X U (.Name x pos) Á i:=by stop let⟨t,a⟩:=a;show aK (Fj (v:=.int i) c a #[t,rfl] b) λY H Q ⟨H0,F,O,S,q⟩=>q _ H (aI.refl _) rfl
end
variable{K:Ä}{H:Hp}{p:Ç}{xs:List V}{x:Í}{c:Bool}
def tD{M:Type}{xs:List M}{k:Int}{d:M}(b:0<=k)(h:k<(xs.length:Int)):tP xs k=À (xs.getD ↥k d):=by
 let a:↥k<xs.length:=by lia
 let e:k=((↥k:Nat):Int):=by lia
 let q:tP xs ((↥k:Nat):Int)=À xs[↥k]:=vd (by rw[Đ a]);rw[<-e] at q;rw[q,ċ,Đ a];rfl
structure zA(M:Type) where
 l:List M
def Mz(K:Ä)(H:Hp)(p:Ç)(xs:List V):Prop:=Rt H p xs\/∃(o:ā) (Y0:Array Å) (n:Nat),K.lookup p=À o/\o.cls=.type "tuple"/\o.data=.seq Y0 n/\Y0.size<=sizeLine/\Vals xs Y0.toList
def Mz.t(h:Mz K H p xs):CD K H p xs:=h.imp Rt.rd id
def R6{H':Hp}(t:∀p xs,Rt H p xs->Rt H' p xs)(h:Mz K H p xs):Mz K H' p xs:=h.imp (t _ _) id
def cZ{H':Hp}(e:aI H H')(h:Mz K H p xs):Mz K H' p xs:=h.imp (λz=>aI.rt e z) id
noncomputable instance{M:Type}[Py M]:Py (zA M) where
 rp K N H v a:=∃p xs,v=.ref p/\Mz K H p xs/\Ý (λx b=>Py.rp K N H x b) xs a.l
 tr l t h:=by
  let⟨p,xs,e,s,r⟩:=h;show#[p,xs,e,R6 t s,bc (λ_ _ q=>Py.tr l t q) r]
noncomputable instance{M β:Type}[Py M][Py β]:Py (M⊕β) where
 rp K N H v a:=match a with|.inl x=>Py.rp K N H v x|.inr y=>Py.rp K N H v y
 tr {K N N' H H' v a} l t h:=by
  cases a with
  |inl x=>show Py.tr (M:=M) l t h
  |inr y=>show Py.tr (M:=β) l t h
def qS(K:Ä)(N:Nn)(H:Hp)(a:Int):¬Py.rp K N H .non a:=λh=>nomatch h
section
variable{X:Cx}{U:aM}{D:GD}{M β:Type}[Py M][Py β]{e e1 e2 tg:Ô}{b b1 b2:Bool}{pos:ï}{rest:List Ð}
def O5{a:M}(h:E X U e b a):E X U e b (č a:M⊕β):=by stop show h
def Je{a:β}(h:E X U e b a):E X U e b (õ a:M⊕β):=by stop show h
def OP{a:M}(h:E X U e b (č a:M⊕β)):E X U e b a:=by stop show h
def yH{a:β}(h:E X U e b (õ a:M⊕β)):E X U e b a:=by stop show h
def Ld{xs:List M}(he:E X U e b (zA.mk xs)):EI X U tg e b xs:=by
 stop
  show#[_,Qp he,λY H H0 F O R Z q=>#[H0,F,O,Z,λv H1 g h=>by
   let⟨p,vs,e,c,f⟩:=h;show#[p,e,#[vs,(cZ (au _ _) c).t],q _ H1 g λH' l _ sm=>#[λi a ha=>?_,?_]]
   .let⟨x,h1,h2⟩:=i7 f ha;show#[#[vs,x,(cZ (au _ _) (cZ sm c)).t,h1],λy j d=>?_];let⟨k,d⟩:=d;subst k;let:=d vs ((cZ (au _ _) (cZ sm c)).t);rw[h1] at this;cases this;show#[aI.refl _,aw sm h2]
   .show#[vs,(cZ (au _ _) (cZ sm c)).t,by rw[br f];show ú _]]]
def EM{xs:zA M}{ys:List M}{k:Int}{p2:ï}(ha:E X U e1 b xs)(n:E X U e2 b2 k)(A:0<k)(i:0<xs.l.length)(s:xs.l.drop ↥k=ys<|>zra):E X U (.Subscript e1 (.Slice (À e2) none none p2) pos) b (zA.mk ys):=by
 stop
  subst s
  show aK (mw Qf ha (pW n) pK) λY H Q ⟨H0,F,O,S,q⟩=>#[H0,F,O,S,λv H1 d u=>#[H0,F,O,S.go d,λw H2 a o=>by
   let⟨p,vs,e,x,r⟩:=u;let h:=br r;let m:k=((↥k:Nat):Int):=by lia
   let f:HT.fX vs.length 0 (À k)≠0:=by
    rw[m,HT.qF];lia
   show#[k,o,p,vs,e,(cZ (au _ _) (cZ (ah a) x)).t,λz=>f z.1,λl i=>?_];let⟨g,y⟩:=qu (xs:=jU vs (À k) none) ((S.go d).go a) i;show q _ _ (d.trans (a.trans g)) #[l,_,rfl,.inl y,?_]
   let ec:jU vs (À k) none=vs.drop ↥k:=by
    unfold jU;rw[m,HT.qF,HT.mC];simp only[Ï];by_cases c:↥k<=vs.length
    .rw[ag2 c,aeE (by rw[aeO];show ú _)]
    .rw[agS .b,ae5 (ú _),ae5 .b];simp
   let j:=bc (λ_ _ z=>aw ((ah a).trans (ah g)) z) (uV ↥k r);rw[<-ec] at j
   show j]]
def AN(K:Ä)(mg:Í->Option Å)(x:Í)(xs:.L):Prop:=∃(p:Ç) (o:ā) (Y0:Array Å) (n:Nat),mg x=À (.ref p)/\K.lookup p=À o/\o.cls=.type "tuple"/\o.data=.seq Y0 n/\Y0.size<=sizeLine/\Vals (xs.map V.int) Y0.toList
def yg{xs:.L}(b:Gl X x)(a:AN X.K X.mg x xs)(e:(x==("__debug__":Í))=Â<|>zrb):E X U (.Name x pos) Á (zA.mk xs):=by stop let⟨p,o,Y0,n,a,h1,h2,c,d,f⟩:=a;show aK (Fj (v:=.ref p) b a rfl e) λY H Q ⟨H0,F,O,S,q⟩=>q _ H (aI.refl _) #[p,_,rfl,.inr #[o,Y0,n,h1,h2,c,d,f],Ag xs]
def xw.mk{h:á}{mg:Í->Option Å}{i:Int}{t:Tok}(σ:K.In h)(G:h.Ns Ì mg)(a:Ö K Ì x=À (À (.int i t))):xw mg x i:=#[t,aho σ G a]
def AN.mk{h:á}{mg:Í->Option Å}{xs:.L}{d:Option Ç}{Y0:Array Å}{n:Nat}{b:Array (Option Å)}(σ:K.In h)(G:h.Ns Ì mg)(a:Ö K Ì x=À (À (.ref p)))
  (l:K.lookup p=À #[.type "tuple",d,.seq Y0 n,b]) (hz:Y0.size<=1000) (c:Vals (xs.map V.int) Y0.toList):AN K mg x xs:=#[p,_,Y0,n,aho σ G a,l,rfl,rfl,ŋ (bP hz),c]
def mB{a:M}(h:E X U e b (À a)):E X U e b a:=by stop show h
def jR{a:M}(h:E X U e b a):E X U e b (À a):=by stop show h
def WM{x:Option M}{j:Nat}{p:ï}(ha:E X U e1 b1 x)(c:∀(K:Ä) (N:Nn) (H:Hp) (a:M),¬Py.rp K N H .non a):E X U (.Compare e1 [.IsNot] [.Constant .none j p] pos) Á (!x.isNone):=by
 stop
  show aK (Mf (zY ha)) λY H Q ⟨H0,F,O,S,q⟩=>#[H0,F,O,S,λv H1 d b=>by
    let e:decide (v=.non)=x.isNone:=by
     cases x with
     |none=>cases b;rfl
     |some a =>
      let f:v≠.non:=by rintro rfl;show c _ _ _ a b
      rw[adF f];rfl
    let:=q (.bl (!decide (v=.non))) H1 d;change Q (.bl (!decide (v=.non))) H1;rw[e] at this ⊢
    show this rfl]
def HU{x:Option M}{j:Nat}{p:ï}(ha:E X U e1 b1 x)(c:∀(K:Ä) (N:Nn) (H:Hp) (a:M),¬Py.rp K N H .non a):T X U (.Compare e1 [.IsNot] [.Constant .none j p] pos) (!x.isNone):=by
 stop
  show pM (DK (zY ha)) λY H Q ⟨H0,F,O,S,q⟩=>#[H0,F,O,S,λv H1 d b=>by
    show#[!decide (v=.non),rfl,?_]
    let e:decide (v=.non)=x.isNone:=by
     cases x with
     |none=>cases b;rfl
     |some a =>
      let f:v≠.non:=by rintro rfl;show c _ _ _ a b
      rw[adF f];rfl
    rw[e];show q H1 d]
variable{γ:Type}[Py γ]{e3:Ô}{b3:Bool}
def Na{op a:š}{x:M}{y:β}{z:γ}{c':Bool}(h1:CV X op x y c)(h2:CV X a y z c')(ha:E X U e1 b1 x)(j:E X U e2 b2 y)(m:E X U e3 b3 z)(o:Ň [op,a] [e2,e3]=Â<|>zrg):E X U (.Compare e1 [op,a] [e2,e3] pos) Á (c&&c'):=by
 stop
  let⟨r,l,p⟩:=h1;let⟨r',f,e⟩:=h2
  show aK (Iv l f ha j m o) λY H Q ⟨H0,F,O,S,q⟩=>#[H0,F,O,S,λv H1 b n=>#[H0,F,O,S.go b,λw H2 d g =>
   p _ _ H2 v w _ (aw ((ah d).trans (au _ _)) n) (aw (au _ _) g) #[c,rfl,by
    cases c with
    |false=>show q _ H2 (b.trans d) rfl
    |true=>show#[H0,F,O,(S.go b).go d,λu h i k=>e _ _ h w u _ (aw ((ah i).trans (au _ _)) g) (aw (au _ _) k) (q _ h (b.trans (d.trans i)) rfl)]]]]
def FZ{op a:š}{x:M}{y:β}{z:γ}{c':Bool}(h1:CV X op x y c)(h2:CV X a y z c')(ha:E X U e1 b1 x)(j:E X U e2 b2 y)(m:E X U e3 b3 z)(o:Ň [op,a] [e2,e3]=Â<|>zrg):T X U (.Compare e1 [op,a] [e2,e3] pos) (c&&c'):=by
 stop
  let⟨r,l,p⟩:=h1;let⟨r',f,e⟩:=h2
  show pM (JT l f ha j m o) λY H Q ⟨H0,F,O,S,q⟩=>#[H0,F,O,S,λv H1 b n=>#[H0,F,O,S.go b,λw H2 d g =>
   p _ _ H2 v w _ (aw ((ah d).trans (au _ _)) n) (aw (au _ _) g) #[c,rfl,by
    cases c with
    |false=>show#[Â,rfl,q H2 (b.trans d)]
    |true=>show#[H0,F,O,(S.go b).go d,λu h i k=>e _ _ h w u _ (aw ((ah i).trans (au _ _)) g) (aw (au _ _) k) #[c',rfl,q h (b.trans (d.trans i))]]]]]
end
def T1:GD:={nx:=λ_=>True,rt:=λ_=>False}
section
variable{P:Ó}{w:Ü}{K:Ä}{mg:Í->Option Å}{base:á}{N ps:List Í}{x qual:Í}{st:Ð}{f:Ç}{k:Nat}{fd:ð}
def yr{gs:List Bd}{vs:List V}{O:Ç->Prop}{b:Bool}{Q:VK}{a:Å}{A:è}{outer:List Ŗ}{s:Æ}{E:XK}(B:⇑Body N qual st f k gs T1)(d:dN k (A.deeper (ħ qual (af st) s.heap.objs.size f a)))
  (c:qA H O) (h:Args K (off H O) vs gs) (q:∀r H',aI H H'->Py.rp K (Nf H b) (off H' O) r ()->Q r H'):
  ∃t,wu (xK qZ P w K mg base N qual (af st) f a A outer s H E).Pd (b9 st) t/\t {nx:=λ_ H'=>Q .non H',rt:=Q} (start N vs) H:=by stop show#[_,B a A outer s H E d,H,O,O,sL c h,λ_ _ H' _ _ Z _=>q .non H' Z.same rfl,λg v H' sm z e=>e.elim,λ_ _ _ _ _ _ z=>z.elim,λ_ _ _ _ _ _ z=>z.elim]
noncomputable def tT{M:Type}(_:M):Unit:=()
def WX{M:Type}[Py M]{pre:M->Prop}{b:Bool}(F:ve K x qual st f fd)(e:ak N ps (af st))(g:ps.length=1)(B:∀a,pre a->⇑Body N qual st f k [.val Â a] T1):
  fH P w K mg base qZ (k+1) f fd ps (cj K pre b (tT (M:=M))):=by
 stop
  show F.ok e (λvs H Q E h=>?_) λc A outer s H vs Q E i h=>?_
  .let⟨O,v,a,_,rfl,_⟩:=h;rw[g];rfl
  .let⟨O,v,a,d,rfl,r,hp,q⟩:=h;show yr (B a hp) i d (.cons r .nil) q
end
def vm{O:Ç->Prop}(b:∀p,O p->∃xs:Mt,H p=À (mo xs))(p:Ç)(xs:List V)(h:Rt H p xs):Rt (off H O) p xs:=by
 let a:¬O p:=λz=>by
  let⟨ys,e⟩:=b p z;obtain h|⟨o,h⟩:=h
  .rw[e] at h;obtain ys|ys|ys:=ys<;>cases h
  .rw[e] at h;obtain ys|ys|ys:=ys<;>cases h
 obtain h|⟨o,h⟩:=h
 .show .inl (by rwa[bB a])
 .show .inr #[o,by rwa[bB a]]
theorem w8{M β:Type}{F:M->β->Prop}:∀{l₁ l₂:List M} {m₁ m₂:List β},Ý F l₁ m₁->Ý F l₂ m₂->Ý F (l₁++l₂) (m₁++m₂)
 |_,_,_,_,.nil,h=>h
 |_,_,_,_,.cons h r,h'=>.cons h (w8 r h')
section
variable{X:Cx}{U:aM}{D:GD}{M β γ:Type}[Py M][Py β][Py γ]{e e1 e2:Ô}{b b1 b2:Bool}{pos:ï}{st rest:List Ð}
def lj{a a':M}(h:E X U e b a)(ha:a=a'):E X U e b a':=by stop subst ha;show h
def FJ{xs ys:List M}(ha:E X U e1 Á xs)(j:E X U e2 Á ys)(r:xs.length+ys.length<=1000):E X U (.BinOp e1 .Add e2 pos) Á (xs++ys):=by
 stop
  show aK (BX Rv ha j) λY H Q ⟨H0,F,O,S,q⟩=>#[H0,F,O,S,λv H1 g o=>#[H0,F,O,S.go g,λw H2 f k=>by
    let⟨p,vs,e1,s,t,c⟩:=o;let⟨p',a,e2,n,m,e⟩:=k;let h1:H2 p=À (.lst vs):=f _ _ ((au _ _) _ _ t.2);let h2:H2 p'=À (.lst a):=(au _ _) _ _ m.2;show#[p,p',vs,a,e1,e2,h1,h2,by rw[br c,br e];show ŋ (bP r),λl d=>?_];let⟨h,i⟩:=bS (xs:=vs++a) ((S.go g).go f) d
    show q _ _ (g.trans (f.trans h)) #[l,_,rfl,cS.of i,Nf.wk (b:=Á) (((S.go g).go f).fL d) i,w8 (bc (λ_ _ z=>aw ((ah f).trans (ah h)) z) c) (bc (λ_ _ z=>aw (ah h) z) e)]]]
def Dz[PyT M]{es:List Ô}{as:List M}(h:EA X U es b as)(f:as.length<=1000):EN X U (.List es pos) as:=by
 stop
  show aK (w6 h) λY H Q ⟨H0,F,O,S,q⟩=>#[H0,F,O,S,λvs H1 a c=>#[by rw[br c];show ŋ (bP f),λp hp=>by
    let⟨d,e⟩:=bS (xs:=vs) (S.go a) hp
    show q _ _ (a.trans d) #[p,vs,rfl,cS.of e,#[a.free hp,e],bc (λ_ _ r=>PyT.free (λ_ _ w=>w) (aw (ah d) r)) c]]]
def VB{x y:M}(f:T X U e c)(ha:c=Á->EN X U e1 x)(g:c=Â->EN X U e2 y):EN X U (.IfExp e e1 e2 pos) (if c then x else y):=by
 stop
  cases c with
  |true=>show aK (qH f (ha rfl) yF) λY H Q ⟨H0,F,O,S,q⟩=>#[H0,F,O,S,λH1 a=>vp #[H0,F,O,S.go a,λw H2 d b=>q w H2 (a.trans d) (iV a b)]]
  |false=>show aK (qH f yF (g rfl)) λY H Q ⟨H0,F,O,S,q⟩=>#[H0,F,O,S,λH1 a=>zD #[H0,F,O,S.go a,λw H2 d b=>q w H2 (a.trans d) (iV a b)]]
def L4[PyT M](i:Nat)(b:Bool){as:List M}(c:U[i]?=À (À (.dpo as)))(h:S X (U.set i (À (.own b as))) st D):S X U st D:=by
 stop
  show mL h λx Y H ⟨H0,F,O,Z,n,r,bk,ct⟩=>by
   show#[H0,F,O,#[Z.same,Z.fo,Z.f0,Z.own,by rw[Ō];show Z.len,λj g e no=>?_,?_],n,r,bk,ct]
   .by_cases a:j=i
    .subst a;let d:j<U.length:=(adk.mp c).1;rw[get_set_eq d] at e;let f:Bd.own b as=g:=ĳ (ĳ e);show absurd (f▸(É:(Bd.own b as).gR)) no
    .rw[get_set_ne a] at e;show Z.at_ j g e no
   .let⟨w,m,t,k⟩:=Z.dis;show#[w,m,t,λj g e o=>?_];by_cases a:j=i
    .subst a;let d:j<U.length:=(adk.mp c).1;rw[get_set_eq d] at e;let f:Bd.own b as=g:=ĳ (ĳ e);subst f;let⟨v,s,p,xs,q,y,l,u⟩:=k j _ c É;show#[v,s,p,xs,q,l.1,l.2,bc (λ_ _ z=>PyT.free (vm Z.own) z) u]
    .rw[get_set_ne a] at e;show k j g e o
end
end L2.EP
namespace L2
open PySem PySem.Spec PyProof.Rows
section
variable{X:Cx}{pos:ï}
end
end L2
namespace L2.EP
open PySem PySem.Spec PyProof.Rows
section
variable{X:Cx}{U:aM}{D:GD}{M β γ:Type}[Py M][Py β][Py γ]{e e1 e2:Ô}{b b1 b2:Bool}{pos:ï}{rest st:List Ð}
def UE{xs:List M}{k:Int}{p2:ï}(ha:E X U e1 b xs)(j:E X U e2 b2 k)(u:0<=k):E X U (.Subscript e1 (.Slice none (À e2) none p2) pos) b (xs.take ↥k):=by
 stop
  show aK (mw uN ha pK (pW j)) λY H Q ⟨H0,F,O,S,q⟩=>#[H0,F,O,S,λv H1 c o=>#[H0,F,O,S.go c,λw H2 a m=>by
    let⟨p,vs,e,s,n,r⟩:=o;show#[k,m,p,vs,e,(au _ _).seq ((ah a).seq s),λl g=>?_];let⟨f,i⟩:=bS (xs:=jU vs none (À k)) ((S.go c).go a) g;show q _ _ (c.trans (a.trans f)) #[l,_,rfl,cS.of i,Nf.wk (((S.go c).go a).fL g) i,?_]
    let ec:jU vs none (À k)=vs.take ↥k:=by
     unfold jU;let t:k=((↥k:Nat):Int):=by lia
     rw[t,HT.qF,HT.mC];simp only[Ï,ah6,Nat.sub_zero];by_cases d:↥k<=vs.length
     .rw[ag2 d]
     .rw[agS .b,aeE (ú _),aeE .b]
    let h:=bc (λ_ _ z=>aw ((ah a).trans (ah f)) z) (Ak ↥k r);rw[<-ec] at h
    show h]]
def GS(f:X.calm=Á):h9 X (.builtin "min") (λxs H Q=>∃p,∃ns:.L,xs=[.ref p]/\cS X.K H p (ns.map V.int)/\0<ns.length/\∀α,α∈ns->(∀a,a∈ns->α<=a)->Q (.int α) H):=by
 intro ZB s Y H xs us Q I r h;let⟨p,ns,rfl,i,b,q⟩:=h;let⟨u,rfl,k⟩:=vals1 r;cases k;let⟨Y0,l,pl,_⟩:=I.list i;let hi:=intsAre_of l;let⟨ys,e⟩:=hi.allInts.items;let d:s.heap.IsList p (intItems ys):=e▸pl.isList
 let e1:ns=ys.toList.map (·.1):=by
  rw[<-Ρ,<-e];show(show numsOf Y0.toArray.toList=ns from hi.numsOf).symm
 let c:0<ys.size:=by rwa[e1,ą,Ŕ] at b
 show min_intList (I.ok.hd f) d c λv h' tk g m=>?_;let⟨t,rfl⟩:=intItems_at g;let⟨h1,h2⟩:=argBest_lt (numAt ys) (ys.size-1);show#[.int _,H,I.kept m,#[_,rfl],q _ ?_ λa ha=>?_]
 .rw[e1,numAt_eq];show getD_mem (by rw[ą,Ŕ];lia)
 .rw[e1] at ha;let⟨j,n,rfl⟩:=mem_getD ha;rw[ą,Ŕ] at n;rw[<-numAt_eq];show h2 j .b
def HE(f:X.calm=Á):h9 X (.builtin "max") (λxs H Q=>∃p,∃ns:.L,xs=[.ref p]/\cS X.K H p (ns.map V.int)/\0<ns.length/\∀α,α∈ns->(∀a,a∈ns->a<=α)->Q (.int α) H):=by
 intro ZB s Y H xs us Q I r h;let⟨p,ns,rfl,i,b,q⟩:=h;let⟨u,rfl,k⟩:=vals1 r;cases k;let⟨Y0,l,pl,_⟩:=I.list i;let hi:=intsAre_of l;let⟨ys,e⟩:=hi.allInts.items;let d:s.heap.IsList p (intItems ys):=e▸pl.isList
 let e1:ns=ys.toList.map (·.1):=by
  rw[<-Ρ,<-e];show(show numsOf Y0.toArray.toList=ns from hi.numsOf).symm
 let c:0<ys.size:=by rwa[e1,ą,Ŕ] at b
 show max_intList (I.ok.hd f) d c λv h' tk g m=>?_;let⟨t,rfl⟩:=intItems_at g;let⟨h1,h2⟩:=argBest_gt (numAt ys) (ys.size-1);show#[.int _,H,I.kept m,#[_,rfl],q _ ?_ λa ha=>?_]
 .rw[e1,numAt_eq];show getD_mem (by rw[ą,Ŕ];lia)
 .rw[e1] at ha;let⟨j,n,rfl⟩:=mem_getD ha;rw[ą,Ŕ] at n;rw[<-numAt_eq];show h2 j .b
def SM{ns:.L}{m:Int}{p:ï}(f:X.calm=Á)(h:Gl X "min")(o:X.mg "min"=none)(ha:E X U e b ns)(l:0<ns.length)(h1:m∈ns)(h2:∀a,a∈ns->m<=a)(c:Ã [e] X.env=(Â,Õ e X.env)::Ã [] X.env<|>zra):E X U (.Call (.Name "min" p) [e] [] pos) Á m:=by
 stop
  show aK (du (GS f) h o boot_min (aB ha aW c) (he:=c)) λY H Q ⟨H0,F,O,S,q⟩=>#[H0,F,O,S,λv H1 g k=>by
    let⟨p,vs,e,d,n,r⟩:=k;rw[oV r] at d;show#[p,ns,by rw[e],(au _ _).seq d,l,λα i j=>q _ H1 g ?_];let:=h2 α i;let:=j m h1;change V.int α=V.int m
    rw[(.b:α=m)]]
def S7{ns:.L}{m:Int}{p:ï}(f:X.calm=Á)(h:Gl X "max")(o:X.mg "max"=none)(ha:E X U e b ns)(l:0<ns.length)(h1:m∈ns)(h2:∀a,a∈ns->a<=m)(c:Ã [e] X.env=(Â,Õ e X.env)::Ã [] X.env<|>zra):E X U (.Call (.Name "max" p) [e] [] pos) Á m:=by
 stop
  show aK (du (HE f) h o boot_max (aB ha aW c) (he:=c)) λY H Q ⟨H0,F,O,S,q⟩=>#[H0,F,O,S,λv H1 g k=>by
    let⟨p,vs,e,d,n,r⟩:=k;rw[oV r] at d;show#[p,ns,by rw[e],(au _ _).seq d,l,λα i j=>q _ H1 g ?_];let:=h2 α i;let:=j m h1;change V.int α=V.int m
    rw[(.b:α=m)]]
end
def E8{X:Cx}:lW X (ď .Add) (λx y H Q=>∃l b xs zs,x=.ref l/\y=.ref b/\cS X.K H l xs/\cS X.K H b zs/\xs.length+zs.length<=sizeLine/\∀p,H p=none->Q (.ref p) (upd H p (.lst (xs++zs)))):=by
 intro ZB s Y H x y v u Q I D z h;let⟨l,b,xs,zs,rfl,rfl,w,E,hz,q⟩:=h;cases D;cases z;let⟨Y0,r,pl,_⟩:=I.list w;let⟨a,j,g,_⟩:=I.list E;let⟨⟨cls,J,data,sl⟩,n,k,o,d,m⟩:=pl;let⟨⟨t,B,data2,i⟩,A,e,f,c,hd2⟩:=g;simp only at o d m f c hd2;subst o d m f c hd2;let G:=r.length;let L:=j.length;let C:Y0.toArray++a.toArray=(Y0++a).toArray:=by simp
 show concat_meets #[_,k,rfl] #[_,e,rfl] noFill_list_add seq_list_add PySem.F.slot_list_add PySem.F.entry_list_add (PySem.F.args_list_add_2 _ _) (list_addW l b Y0.toArray a.toArray n A none none sl i (by rw[ŀ,ŀ];lia)) #[k,e,?_];rw[C];show#[.ref _,_,I.OF (t':=s.toks) (r.append j) (by rw[ų];lia),rfl,q _ I.fresh]
section
variable{X:Cx}{U:aM}{D:GD}{M β γ:Type}[Py M][Py β][Py γ]{e e1 e2:Ô}{b b1 b2:Bool}{pos:ï}{rest st:List Ð}
def tj[PyT M]{xs ys:List M}(ha:E X U e1 b1 xs)(m:E X U e2 b2 ys)(r:xs.length+ys.length<=1000):E X U (.BinOp e1 .Add e2 pos) Á (xs++ys):=by
 stop
  show aK (BX E8 ha m) λY H Q ⟨H0,F,O,S,q⟩=>#[H0,F,O,S,λv H1 g o=>#[H0,F,O,S.go g,λw H2 f n=>by
    let⟨p,vs,e1,j,u,a⟩:=o;let⟨p',c,e2,i,s,e⟩:=n;show#[p,p',vs,c,e1,e2,(au _ _).seq ((ah f).seq j),(au _ _).seq i,by rw[br a,br e];show ŋ (bP r),λl d=>?_];let⟨h,k⟩:=bS (xs:=vs++c) ((S.go g).go f) d;show q _ _ (g.trans (f.trans h)) #[l,_,rfl,cS.of k,Nf.wk (b:=Á) (((S.go g).go f).fL d) k,w8 ?_ ?_]
    .show bc (λ_ _ z=>PyT.free (λ_ _ t=>aI.rt ((ah f).trans (ah h)) t) z) a
    .show bc (λ_ _ z=>PyT.free (λ_ _ t=>aI.rt (ah h) t) z) e]]
end
end L2.EP
namespace L2
open PySem PySem.Spec PyProof.Rows
noncomputable def Wh(K : Ä)(a : Ç) : It :=
  #[λi H=>∃xs x,cS K H a xs/\xs[i]?=À x,
   λi H v H'=>∃T x,H T=none/\v=.ref T/\H'=upd H T (.tup [.int (i : Int),x])/\∀xs,cS K H a xs->xs[i]?=À x,
   λi H=>∃xs,cS K H a xs/\xs.length<=i]
def Ha{P:Ó}{w:Ü}{K:Ä}{elts:List Ô}{kk:Nat}{tp:ï}(z f a:Ç):Turn P w K (.Tuple elts kk tp) (Wh K a) [z,f] z
  (λi h=>(∃old,IsEnum h z f ((i:Nat):Int) old)/\h.IsListIter f a i) where
 mem:=by simp
 obj:=λi h st c A=>by
  let⟨⟨old,hz⟩,h1⟩:=st;let d:c=z\/c=f:=by simpa using A
  obtain e|e:=d
  .subst e;show#[_,hz,λv q=>by cases q]
  .subst e;let⟨o,D,q2,B⟩:=h1;show#[o,D,λv q=>by rw[B] at q;cases q]
 keep:=λi h h' st k=>by
  let⟨⟨old,hz⟩,h1⟩:=st;show#[#[old,k z .c _ hz],h1.at λo e=>k f .c o e]
 item:=by
  intro X α Γ R A i ZB s Y H E I j st T;subst α Γ R;let⟨xs,x,F,gx⟩:=T;let⟨⟨old,hz⟩,h1⟩:=st;let⟨ix,V,px,_⟩:=I.list F;let X':∀{s t:String},s≠t->û s≠û t:=λne e=>ne (by injection e)
  let p:z≠f:=by
   let⟨o1,C,b1,_⟩:=h1;show dQ hz C (by rw[b1];show X' .a)
  let⟨u,ux,L⟩:=V.get gx;show wpAny_pyNext_enum_item hz h1 px.isList ↑ux p λh' C Z a5 a6 g=>?_;let Q:H s.heap.objs.size=none:=I.hok.fresh (ú _)
  let I1:Inv X ZB Y (upd H s.heap.objs.size (.tup [.int (i:Int),x])) {s with heap:=h',toks:=s.toks+1}:=by
   show I.ES (ch:=[z,f]) (ú _) (λc o d e=>g c o (λq=>d (by simp[q])) (λq=>d (by simp[q])) e) (λc o e=>?_) (λc d=>j c d) ?_
   .by_cases D:c=z
    .subst D;show#[_,C]
    by_cases B:c=f
    .subst B;let⟨o',q,_⟩:=Z;show#[o',q]
    show#[o,g c o D B e]
   .show#[by change 2<=sizeLine;decide,[.int i s.toks,u],.cons #[_,rfl] (.cons L .nil),#[_,a5,rfl,_,rfl]]
  show#[_,rfl,?_];let y:=j z .c;show wpAny_letOwnedTupleGo_enum C λJ S l=>?_;let zT:z≠s.heap.objs.size:=ĸ (ĕ hz);let I2:Inv X ZB Y (upd H s.heap.objs.size (.tup [.int (i:Int),x])) {({s with heap:=h',toks:=s.toks+1}:Æ) with heap:=J,toks:=s.toks+1}:=I1.turned (λc o d e=>l.extBut c o d e) (by rw[aU zT];show y.1) y.2.1 y.2.2.2.1 y.2.2.2.2.1 y.2.2.2.2.2;show#[.ref s.heap.objs.size,upd H s.heap.objs.size (.tup [.int (i:Int),x]),I2,rfl,#[s.heap.objs.size,x,Q,rfl,rfl,λxs' O=>?_],#[#[_,S],Z.extBut l.extBut (Ź p)],λc d=>?_]
  .rwa[I.qf O F]
  .let G:c<s.heap.objs.size:=by
    let N:c=z\/c=f:=by simpa using d
    obtain e|e:=N
    .subst e;show ĕ hz
    .subst e;let⟨_,q,_⟩:=h1;show ĕ q
   rw[aU (ĸ G)];show(j c d).1
 done:=by
  intro X α Γ R A i ZB s Y H E I j st T;subst α Γ R;let⟨xs,F,hend⟩:=T;let⟨⟨old,hz⟩,h1⟩:=st;let⟨ix,V,px,_⟩:=I.list F;show wpAny_pyNext_enum_end (I.ok.hd A) hz h1 px.isList ?_ λh' g=>#[rfl,?_]
  .let:=V.length;simp;lia
  .let f1:=j f .c
   show I.step (g':=s.gens) (d':=s.drawn) (t':=s.toks) (ch:=[f]) (λb hb=>?_) (λb o _ _ d e _=>g b o (λq=>d (by simp[q])) e) (λb o _ _ d e _=>#[o.slots,g b o (λq=>d (by simp[q])) e]) (λ_ _ _ _ n=>n)
    (λb o d e=>#[o,g b o (λq=>d (by simp[q])) e]) (λ_ _ e=>e) (λ_ _ _ e=>e) (λb ps e=>#[#[],by rw[e];simp]) (λm hm=>?_) (λb u e=>?_) I.bare
   .let q:=j b (by simp at hb ⊢;simp[hb]);show#[q.2.2.2.1,q.2.1,q.2.2.2.2.1,q.2.2.2.2.2]
   .let⟨o,es,ep,ho,r⟩:=hm;show#[o,es,ep,g _ o (Ź f1.2.1) ho,r]
   .let nn:∀c v,H c=À v->c≠f:=λc v e q=>by rw[q,f1.1] at e;cases e
    show(I.hok b u e).B4 (λc v d q=>?_) (λ_ q=>q) λ_ _ q=>q;obtain σ|σ:=d
    .subst σ;show g c v (nn c _ e) q
    .show g c v (nn c _ σ) q
 self:=λ_ _ _ _ _ st h=>by
  let⟨⟨old,hz⟩,_⟩:=st;show wpAny_pyIter_enum hz h
section
variable{X:Cx}{elts:List Ô}{kk:Nat}{tp:ï}
def Uc(K:Ä)(ta:TA):TI:=λY H R=>ta Y H λvs H1=>∃a,vs=[.ref a]/\(∃xs,cS K H1 a xs)/\R (Wh K a) H1
def Nw{e1:Ô}{ta:TA}{p pos:ï}(l:Gl X "enumerate")(r:X.mg "enumerate"=none)(ha:PA X [e1] ta)(he:Ã [e1] X.env=(Â,Õ e1 X.env)::Ã [] X.env<|>zra)
  (hpl:(ç pos (Ã [] X.env)).any (·.1)=Â<|>zra):PI X (.Tuple elts kk tp) (.Call (.Name "enumerate" p) [e1] [] pos) (Uc X.K ta):=by
 intro ZB s Y H R I h;show Call_ (ja I l r PyProof.Rows.boot_enumerate (aeM (cH (ha pos ZB s Y H _ I h) λus b ⟨vs,H1,f,n,j⟩=>?_) he hpl));let⟨a,e,⟨xs,m⟩,q⟩:=j;subst e;let⟨u,rfl,o⟩:=vals1 n;cases o;let⟨x,y,px,_⟩:=f.list m;show call_enumerate_list px.isList λh' g t w v=>?_;let k:Inv X ZB Y H1 {b with heap:=h',toks:=b.toks}:=f.kept v;show wpAny_pyIter_enum (s:={b with heap:=h'}) g ?_;show#[b.heap.objs.size+1,[b.heap.objs.size+1,b.heap.objs.size],_,Wh X.K a,H1,rfl,k,Ha (b.heap.objs.size+1) b.heap.objs.size a,#[#[_,g],t],λc i=>?_,q]
 let d:b.heap.objs.size<=c:=by
  simp at i;obtain e|e:=i<;>subst e<;>lia
 show f.Hq d (f.hok.fresh d)
end
end L2
namespace L2.EP
open PySem PySem.Spec PyProof.Rows
variable{H:Hp}{K:Ä}{k:Int}
noncomputable def GG{M:Type}(xs:List M):List (Int×M):=xs.mapIdx λi x=>((i:Int),x)
def zV{M:Type}{xs:List M}{i:Nat}{u:Int×M}(h:(GG xs)[i]?=À u):xs[i]?=À u.2/\u.1=(i:Int):=by
 unfold GG at h;rw[ag7] at h;cases e:xs[i]? with
 |none=>rw[e] at h;cases h
 |some x=>rw[e] at h;cases h;show#[rfl,rfl]
def zv{M:Type}(xs:List M):(GG xs).length=xs.length:=by unfold GG;rw[ϋ]
section
variable{X:Cx}{U:aM}{M β:Type}[Py M][Py β]{e1 e2:Ô}{b1 b2:Bool}{elts:List Ô}{kk:Nat}{tp p ps:ï}
def FU{xs:List M}(s:Gl X "enumerate")(C:X.mg "enumerate"=none)(h1:E X U e1 b1 xs)(c:Ã [e1] X.env=(Â,Õ e1 X.env)::Ã [] X.env<|>zra)
  (hpl:(ç ps (Ã [] X.env)).any (·.1)=Â<|>zra):EI X U (.Tuple elts kk tp) (.Call (.Name "enumerate" p) [e1] [] ps) b1 (GG xs):=by
 stop
  show#[_,Nw s C (aB h1 aW c) c hpl,λY H H0 F O R Z q=>#[H0,F,O,Z,λv H1 l A=>by
    let⟨a,d,t,e,I,k⟩:=A;show#[a,by rw[t],#[d,(au _ _).seq e],q _ H1 l λH' m h sm=>#[λi u D=>?_,?_]]
    .let⟨o,hi⟩:=zV D;let⟨x,j,B⟩:=i7 k o;let b:=(au _ _).seq (sm.seq e);show#[#[d,x,b,j],λG n y=>?_];let⟨T,J,f,rfl,rfl,r⟩:=y;let ex:=r d b;rw[j] at ex;cases ex
     let g:¬m T:=λz=>by
      let⟨zs,w⟩:=h T z;rw[f] at w;cases w
     show#[cT f _,T,.int (i:Int),x,rfl,.inl (by rw[bB g];show aY),?_,?_]
     .change V.int _=V.int _;rw[hi]
     .show aw (sm.trans (ah (cT f _))) B
    .show#[d,(au _ _).seq (sm.seq e),?_];rw[br k,zv]
     lia]]
end
structure Jj(β:Type) where
 rows:List (List β)
noncomputable instance{β:Type}[Py β]:Py (Jj β) where
 rp K N H v a:=∃p xs,v=.ref p/\cS K H p xs/\N.has H p (.inl xs)/\xs.Nodup/\Ý (λx (r:List β)=>Py.rp K N H x r) xs a.rows
 tr l t h:=by
  let⟨p,xs,e,s,n,b,r⟩:=h;let⟨s',c⟩:=l _ (.inl xs) s n;show#[p,xs,e,s',c,b,bc (λ_ _ q=>Py.tr l t q) r]
def NA{β:Type}[Py β]{N:Nn}{v:V}{rows:List (List β)}(h:Py.rp K N H v (Jj.mk rows)):Py.rp K N H v rows:=by
 let⟨p,xs,e,s,n,_,r⟩:=h;show#[p,xs,e,s,n,r]
section
variable{X:Cx}{U:aM}{D:GD}{M β:Type}[Py M][Py β]{elt target iter c:Ô}{b b':Bool}{pos:ï}{Y2:Ā}{tn:List Í}{js:List Nat}{g:TG}{tc:Nat->Prop}{put:Bool->M->aM->aM}{as:List M}
def XG(X:Cx)(tn:List Í)(js:List Nat)(Y2:Ā)(elt:Ô)(β:Type)[Py β]:TE:=λY H Q=>∃U',∃v:β,(∀C s H fp,EN .I U' elt v)/\tN X.K U' v Y H Q
def QA{C:Ç}{s:Æ}{fp:List Ç}:PE .I elt (XG X tn js Y2 elt β):=by stop show λZB s' Y H' Q I ⟨U',v,h,q⟩=>(show PE .I elt (tN X.K U' v) from h C s H fp) ZB s' Y H' Q I q
def K6{f:M->List β}{wi:TI}(hw:∀(Y:St) (H H0:Hp) (F O:Ç->Prop) (R:It->Hp->Prop),eZ X.K H0 F O U Y H->(∀J H1,aI H H1->Vr X.K H0 O b as J H1->R J H1)->wi Y H R)
  (hgp:GP g M put tc X.K) (σ:∀j,tc j->j<tn.length)
  (hb:∀(i:Nat) (a:M),as[i]?=À a->∀C s H fp,EN .I (put b a (cΓ U tn js)) elt (f a)) (hl:as.length<=1000)
  {Y:St} {H:Hp} {Q:VK} {H0:Hp} {F O:Ç->Prop} (Z:eZ X.K H0 F O U Y H) (q:∀v H',aI H H'->Py.rp X.K (.new H) (off H' O) v (Jj.mk (as.map f))->Q v H'):
  Tt wi tn js g (V2 X tn js Y2 []) (XG X tn js Y2 elt (List β)) Y H Q:=by
 stop
  show hw Y H H0 F O _ Z λJ H1 N Y0 D L=>?_;let Z1:=Z.go N
  show#[λi m H' xs=>m=as.length-i/\i<=as.length/\aI H1 H'/\H' D=À (.lst xs)/\xs.Nodup/\(∀x∈xs,∃q ys,x=.ref q/\H' q=À (.lst ys))/\Ý (λx a=>Py.rp X.K (.new H) (off H' λp=>O p\/p=D) x a) xs ((as.take i).map f),
   #[_,rfl,Ņ _,cT L _,aY,ah7,(λx h=>by cases h),.nil],?_]
  rintro i m H' xs ⟨rfl,hi,sm,B,nd,G,P⟩;show#[B,?_];let⟨Z',so⟩:=Z1.ownIn L sm B;let⟨t1,t2⟩:=Y0 H' _ Z'.own so;by_cases A:i<as.length
  .let ha:as[i]?=À as[i]:=Đ A;let htk:as.take (i+1)=as.take i++[as[i]]:=by rw[afQ,ha];rfl
   let⟨go,yl⟩:=t1 i _ ha;show .inr #[go,λx t hy=>?_];let⟨k,rx⟩:=yl x t hy;show hgp b as[i] H0 F _ (cΓ U tn js) (cσ Y tn js) t x _ ((Z'.go k).gM tn js) rx λσ2 Z2 l2 k2=>?_;show#[#[λj v hj e=>?_,l2],_,_,λC s H fp=>Az,H0,F,_,Z2,λH3 d=>?_]
   .rwa[k2 j λz=>absurd (σ j z) (afK.mpr hj)]
   show vp #[_,_,hb i _ ha,H0,F,_,Z2.go d,λy H4 Γ ry=>?_];let hx4:H4 D=À (.lst xs):=Γ _ _ (d _ _ (k _ _ B));let W:(λp=>O p\/p=D) D:=.inr rfl;let sH3:aI H H3:=N.trans (sm.trans (k.trans d));let ry':=iV sH3 ry;let⟨S,α,e0,sq0,l,rr0⟩:=ry;let V:H4 S=À (.lst α):=(au _ _) _ _ l.2
   let I:S≠D:=λw=>by
    let r:H3 D=À (.lst xs):=d _ _ (k _ _ B);rw[<-w,l.1] at r;cases r
   show#[hx4,?_,as.length-(i+1),.b,rfl,A,?_,aY,?_,?_,?_]
   .let:=br P;rw[ą] at this;let r:=aha i as;show Η .b (bP hl)
   .show λc o z=>by
     let hc:c≠D:=λw=>by rw[w,L] at z;cases z
     rw[aU hc];show Γ _ _ (d _ _ (k _ _ (sm _ _ z)))
   .rw[agF];show#[nd,.c,λa ha1 c hc1=>?_];rw[adv.mp hc1];let⟨T,n,e1,h1⟩:=G a ha1;rw[e1,e0];intro w;cases w;let r:H3 S=À (.lst n):=d _ _ (k _ _ h1);rw[l.1] at r;cases r
   .intro x' hx';obtain z|z:=adQ.mp hx'
    .let⟨T,n,e1,h1⟩:=G x' z;by_cases u:T=D
     .show#[T,xs++[y],e1,by rw[u];show aY]
     .show#[T,n,e1,by rw[aU u];show Γ _ _ (d _ _ (k _ _ h1))]
    .rw[adv.mp z];show#[S,α,e0,by rw[aU I];show V]
   .rw[k5 W,htk];simp only[afE,ř,afS];show rK (bc (λ_ _ z=>aw (ah (k.trans (d.trans Γ))) z) P) (.cons ry' .nil)
  .let ei:i=as.length:=by lia
   subst ei;rw[ŷ] at P;let E:off H' O D=À (.lst xs):=by rwa[bB (Z1.ph L)]
   show .inl #[t2,q _ H' (N.trans sm) #[D,xs,rfl,cS.of E,#[N.free L,E],nd,?_]];show bc (λ_ _ z=>aw (kj λ_ w=>.inl w) z) P
def Ji[PyT β]{f:M->β}{wi:TI}(hw:∀(Y:St) (H H0:Hp) (F O:Ç->Prop) (R:It->Hp->Prop),eZ X.K H0 F O U Y H->(∀J H1,aI H H1->Vr X.K H0 O b as J H1->R J H1)->wi Y H R)
  (I:GP g M put tc X.K) (G:∀j,tc j->j<tn.length)
  (hb:∀(i:Nat) (a:M),as[i]?=À a->∀C s H fp,E .I (put b a (cΓ U tn js)) elt b' (f a)) (hl:as.length<=1000)
  {Y:St} {H:Hp} {Q:VK} {H0:Hp} {F O:Ç->Prop} (Z:eZ X.K H0 F O U Y H) (q:∀v H',aI H H'->Py.rp X.K (.new H) (off H' O) v (as.map f)->Q v H'):
  Tt wi tn js g (V2 X tn js Y2 []) (Xw X tn js Y2 elt β b') Y H Q:=by
 stop
  show hw Y H H0 F O _ Z λJ H1 A Y0 D l=>?_;let T:=Z.go A
  show#[λi m H' xs=>m=as.length-i/\i<=as.length/\aI H1 H'/\H' D=À (.lst xs)/\Ý (λx a=>Py.rp X.K (.new H) (off H' λp=>O p\/p=D) x a) xs ((as.take i).map f),
   #[_,rfl,Ņ _,cT l _,aY,.nil],?_]
  rintro i m H' xs ⟨rfl,hi,sm,r,t⟩;show#[r,?_];let⟨S,Γ⟩:=T.ownIn l sm r;let⟨t1,t2⟩:=Y0 H' _ S.own Γ;by_cases h:i<as.length
  .let ha:as[i]?=À as[i]:=Đ h;let N:as.take (i+1)=as.take i++[as[i]]:=by rw[afQ,ha];rfl
   let⟨go,W⟩:=t1 i _ ha;show .inr #[go,λx d hy=>?_];let⟨u,rx⟩:=W x d hy;show I b as[i] H0 F _ (cΓ U tn js) (cσ Y tn js) d x _ ((S.go u).gM tn js) rx λσ2 P l2 k2=>?_;show#[#[λj v hj e=>?_,l2],_,_,λC s H fp=>Az,H0,F,_,P,λH3 n=>?_]
   .rwa[k2 j λz=>absurd (G j z) (afK.mpr hj)]
   show vp #[_,_,hb i _ ha,H0,F,_,P.go n,λy σ α ry=>?_];let L:σ D=À (.lst xs):=α _ _ (n _ _ (u _ _ r));let B:(λp=>O p\/p=D) D:=.inr rfl;show#[L,?_,as.length-(i+1),.b,rfl,h,?_,aY,?_]
   .let:=br t;rw[ą] at this;let h3:=aha i as;show Η .b (bP hl)
   .show λc o z=>by
     let V:c≠D:=λw=>by rw[w,l] at z;cases z
     rw[aU V];show α _ _ (n _ _ (u _ _ (sm _ _ z)))
   .rw[k5 B,N];simp only[afE,ř,afS];show rK (bc (λ_ _ z=>aw (ah (u.trans (n.trans α))) z) t) (.cons (PyT.free (λ_ _ w=>w) ry) .nil)
  .let ei:i=as.length:=by lia
   subst ei;rw[ŷ] at t;let k:off H' O D=À (.lst xs):=by rwa[bB (T.ph l)]
   show .inl #[t2,q _ H' (A.trans sm) #[D,xs,rfl,cS.of k,#[A.free l,k],?_]];show bc (λ_ _ z=>aw (kj λ_ w=>.inl w) z) t
variable{γ:Type}[Py γ]{e e1 e2:Ô}{b1 b2:Bool}{p:ï}{rest st:List Ð}
def OD(i:Nat){rows:List (List β)}(c:U[i]?=À (À (.dpo (Jj.mk rows))))(h:S X (U.set i (À (.val Á rows))) st D):S X U st D:=by stop show AJ (g':=Bd.val Á rows) i c É (λz=>z) (λH0 H O f g v b e _ d=>NA (DE (a:=Jj.mk rows) b e d)) h
def Me[PyT β]{D:Ç->Prop}{q:Ç}{ys zs:List V}{r':List β}(g:H q=À (.lst ys))(v:D q)(hz:Ý (λx (c:β)=>Py.rp K .any (upd H q (.lst zs)) x c) zs r'):
  ∀{vs:List V} {rows:List (List β)} {k:Nat},Ý (λx r=>Py.rp K (.set D) H x r) vs rows->vs.Nodup->vs[k]?=À (.ref q)->Ý (λx r=>Py.rp K (.set D) (upd H q (.lst zs)) x r) vs (rows.set k r'):=by
 let m:∀p xs,Rt H p xs->Rt (upd H q (.lst zs)) p xs:=λp xs h=>by
  let hp:p≠q:=λw=>by
   subst w;obtain h|⟨o,h⟩:=h
   .rw[g] at h;cases h
   .rw[g] at h;cases h
  obtain h|⟨o,h⟩:=h
  .show .inl (by rwa[aU hp])
  .show .inr #[o,by rwa[aU hp]]
 let other:∀{x:V} {r:List β},Py.rp K (.set D) H x r->x≠.ref q->Py.rp K (.set D) (upd H q (.lst zs)) x r:=λ{x r} h d=>by
  let⟨p,xs,e,A,nn,y⟩:=h;let hp:p≠q:=λw=>d (by rw[e,w]);let e2:upd H q (.lst zs) p=À (.lst xs):=by rw[aU hp];show nn.2
  show#[p,xs,e,cS.of e2,#[nn.1,e2],bc (λ_ _ z=>PyT.free m z) y]
 let here:Py.rp K (.set D) (upd H q (.lst zs)) (.ref q) r':=#[q,zs,rfl,cS.of aY,#[v,aY],bc (λ_ _ z=>PyT.free (λ_ _ w=>w) z) hz];intro vs rows k h
 induction h generalizing k with
 |nil=>intro _ e;simp at e
 |@cons x r a b u t f =>
  intro n e;let⟨j,s⟩:=aeB.mp n;cases k with
  |zero =>
   let ex:x=.ref q:=by simpa using e
   subst ex;show .cons here ?_
   let:∀{a:List V} {b:List (List β)},Ý (λx r=>Py.rp K (.set D) H x r) a b->(V.ref q)∉a->Ý (λx r=>Py.rp K (.set D) (upd H q (.lst zs)) x r) a b:=λ{a b} t=>by
    induction t with
    |nil=>intro _;show .nil
    |cons h t f=>intro l;show .cons (other h λw=>l (by rw[w];show Ġ ..)) (f λw=>l (Ě _ w))
   show this t j
  |succ k =>
   let i:a[k]?=À (.ref q):=by simpa using e
   show .cons (other u λw=>j (by rw[w];show Ĭ i)) (f s i)
def Hz[PyT β]{D:Ç->Prop}{p q:Ç}{xs ys:List V}{k:Nat}(hp:H p=À (.lst xs))(a:H q=À (.lst ys))(b:xs[k]?=À (.ref q))(e:List β)(d:Ý (λx (c:β)=>Py.rp K (.set D) H x c) ys e):p≠q:=λw=>by
 subst w;rw[hp] at a;cases a;let⟨c,_,h2⟩:=nC d b;show PyT.nl h2 hp
def uW[PyT β](i:Nat){rows:List (List β)}{B:List β}{c:β}{l:Int}{x:Í}{p m s:ï}(hg:U[i]?=À (À (.dpo (Jj.mk rows))))(hk:0<=k)(hr:rows[↥k]?=À B)(hl0:0<=l)(hl:↥l<B.length)(he:E X U e b c)(Γ:E X U e1 b1 k)(hel:E X U e2 b2 l)
  (h:S X (U.set i (À (.dpo (Jj.mk (rows.set ↥k (B.set ↥l c)))))) rest D) (hi:X.N[i]?=À x<|>zra)
  (hv:Hy X.env.scope x<|>zre) (hd:(x==("__debug__":Í))=Â<|>zrb) (hcd:(x==("__classdict__":Í))=Â<|>zrb)
  (hp1:ic e1<|>zrj)
  (ha:∀v,Ć (.Subscript (.Subscript .H e1 m) e2 s) X.env v=(do
   let P <-ġ [v] (Õ (.Subscript .H e1 m) X.env);let iv <-ġ [v,P] (Õ e2 X.env)
   Ϙ s
   ġ [v,P,iv] (setItem P iv v)
   release [v,P,iv] []):=by intro _;rfl)
  (hs:ő [.Subscript (.Subscript .H e1 m) e2 s] e pos.line X.env=pure Â<|>zra) (hw:Œ [.Subscript (.Subscript .H e1 m) e2 s] e X.env=pure none<|>zra)
  (h1:(Û [.Subscript (.Subscript .H e1 m) e2 s] X.env).map (·.2)=[Ć (.Subscript (.Subscript .H e1 m) e2 s) X.env]<|>zra):
  S X U (.Assign [.Subscript (.Subscript .H e1 m) e2 s] e pos::rest) D:=by
 stop
  show c9 (c7 (D6 he (Ja (j8 u9 (pv i hi hv hd hcd) Γ hp1) hel set_list ha) hs hw h1) λDe Y H ⟨H0,F,O,Z,n,_⟩=>#[H0,F,O,Z,λu H1 A ru=>by
    let⟨v,_,t,_,_,_⟩:=(Z.go A).write hg É;show#[v,t,H0,F,O,Z.go A,λku H2 K rk=>?_];cases rk;let⟨v',Di2,C,⟨L,g,r,sq2,nn2,nd2,rr2⟩,_,_⟩:=((Z.go A).go K).write hg É;let T:v=v':=by rw[t] at C;show ĳ (ĳ C)
    subst T;let⟨v0,f,⟨y,ys2,e0,s0,n0,rr0⟩⟩:=i7 rr2 hr;subst e0;show#[L,g,k,.ref y,r,rfl,sq2,?_,H0,F,O,(Z.go A).go K,λlu H3 α rl=>?_]
    .let hkk:k=((↥k:Nat):Int):=by lia
     rw[hkk];show vd f
    cases rl;let⟨v3,Di,J,⟨q,xs,I,sq,nn,nd,rr⟩,hO,wr⟩:=(((Z.go A).go K).go α).write hg É;let ev3:v=v3:=by rw[t] at J;show ĳ (ĳ J)
    subst ev3;let eq2:L=q:=by rw[r] at I;cases I;rfl
    subst eq2
    let R:g=xs:=by
     let a1:=α _ _ nn2.2;rw[nn.2] at a1;cases a1;rfl
    subst R;let⟨W,j,⟨q0',ys,σ,s0',a,d⟩⟩:=i7 rr hr;let G:V.ref y=W:=by rw[f] at j;show ĳ j
    rw[σ] at G;cases G;let hly:↥l<ys.length:=by rwa[br d]
    let hix:Bq ys.length l=À ↥l:=by unfold Bq;rw[ac6 hl0,ac6 .b]
    show#[y,ys,l,↥l,rfl,rfl,a.2,hix,?_];let hne:=Hz nn.2 a.2 f B d
    let ht:∀p xs,Rt H3 p xs->Rt (upd H3 y (.lst (ys.set ↥l u))) p xs:=λp xs h=>by
     let hp:p≠y:=λw=>by
      subst w;obtain h|⟨o,h⟩:=h
      .rw[a.2] at h;cases h
      .rw[a.2] at h;cases h
     obtain h|⟨o,h⟩:=h
     .show .inl (by rwa[aU hp])
     .show .inr #[o,by rwa[aU hp]]
    let Q:=Me (zs:=ys.set ↥l u) (r':=B.set ↥l c) a.2 a.1 (D7 (PyT.free (λp xs w=>ht p xs (aI.rt (K.trans α) (aI.rt (au _ _) w))) ru) ↥l (bc (λ_ _ z=>PyT.free ht z) d)) rr nd f
    let⟨Z',eo⟩:=wr y (ys.set ↥l u) (À (.dpo (Jj.mk (rows.set ↥k (B.set ↥l c))))) a.1 λg'' e'=>by
     cases e';let e2:upd H3 y (.lst (ys.set ↥l u)) L=À (.lst g):=by rw[aU hne];show nn.2
     show#[É,L,g,r,cS.of e2,⟨nn.1,e2⟩,nd,Q]
    show n _ _ _ _ (by rw[eo];show ah (A.trans (K.trans α))) Z' h])
end
theorem Ky{M β:Type}{F:M->β->Prop}{l:List M}{m:List β}(h:Ý F l m):∀k,Ý F (Ë k l).flatten (Ë k m).flatten
 |0=>.nil
 |k+1=>by
  rw[aew,afn,aew,afn];show w8 h (Ky h k)
section
variable{X:Cx}{U:aM}{D:GD}{M β γ:Type}[Py M][Py β][Py γ]{e e1 e2:Ô}{b b1 b2:Bool}{pos:ï}{rest st:List Ð}
def TQ{xs:List M}(ha:E X U e1 Á xs)(h:E X U e2 b2 k)(r:0<=k)(h1:k<=1000)(m:xs.length*↥k<=1000):E X U (.BinOp e1 .Mult e2 pos) Á (Ë ↥k xs).flatten:=by
 stop
  show aK (BX Qd ha h) λY H Q ⟨H0,F,O,S,q⟩=>#[H0,F,O,S,λv H1 e j=>#[H0,F,O,S.go e,λw H2 a i=>by
    let⟨p,vs,e1,n,o,c⟩:=j;let h1:H2 p=À (.lst vs):=a _ _ ((au _ _) _ _ o.2);show#[p,k,vs,e1,i,h1,.b,.b,by rw[br c];show ŋ (bP m),λl d=>?_];let⟨f,g⟩:=bS (xs:=(Ë ↥k vs).flatten) ((S.go e).go a) d
    show q _ _ (e.trans (a.trans f)) #[l,_,rfl,cS.of g,Nf.wk (b:=Á) (((S.go e).go a).fL d) g,Ky (bc (λ_ _ z=>aw ((ah a).trans (ah f)) z) c) _]]]
theorem FE{a:M}:∀k,(Ë k [a]).flatten=Ë k a
 |0=>rfl
 |k+1=>by rw[aew,afn,FE k,aew];rfl
def SS{a:M}(ha:E X U e1 Á [a])(c:E X U e2 b2 k)(b:0<=k)(h1:k<=1000):E X U (.BinOp e1 .Mult e2 pos) Á (Ë ↥k a):=by
 rw[<-FE];show TQ ha c b h1 (by simp;lia)
end
end L2.EP
namespace L2.Sx
open PySem
variable{i j n:Nat}{xs:Array Nat}{ns:.L}{l:Bool}{h:á}{k:Int}{f:Å}{os:List Nat}
def Hn(xs:Array Nat):Prop:=xs.toList.Pairwise (·<·)
def uR(h:Hn xs){a b:Nat}(c:a<b)(d:b<xs.size):xs.getD a 0<xs.getD b 0:=by
 let h1:=ahy.mp h a b ↑(aim c d) ↑d c;rw[afN,afN] at h1;simp only[Č,agz (aim c d),agz d];show h1
structure Lb(xs:Array Nat)(j i:Nat):Prop where
 le:i<=xs.size
 lo:∀k,k<i->xs.getD k 0<j
 hi:∀k,i<=k->k<xs.size->j<=xs.getD k 0
def IV{k d e:Nat}(h:k<xs.size):xs.getD k d=xs.getD k e:=by
 simp only[Č,agz h]
theorem K_{xs:Array Nat}{j:Nat}(f:Hn xs):∀(fuel lo hi:Nat),hi-lo<=fuel->lo<=hi->hi<=xs.size->(∀k,k<lo->xs.getD k 0<j)->(∀k,hi<=k->k<xs.size->j<=xs.getD k 0)->Lb xs j (į xs j fuel lo hi)
 |0,lo,hi,h1,h2,i,g,h=>by
  unfold į;show#[.b,g,λk a b=>h k .b b]
 |fuel+1,lo,hi,h1,h2,i,g,h=>by
  unfold į;by_cases d:lo<hi
  .rw[ac6 d];dsimp only;let l:(lo+hi)/2<xs.size:=by lia
   rw[IV (e:=0) l];by_cases c:xs.getD ((lo+hi)/2) 0<j
   .rw[ac6 c];show K_ f fuel _ _ .b .b i (λk m=>?_) h;obtain z|z:=agu (ϲ m)
    .show aim (uR f z l) c
    .rwa[z]
   .rw[ac2 c];show K_ f fuel _ _ .b .b .b g (λk a b=>?_);obtain z|z:=agu a
    .show ĭ (ahC c) (ŋ (uR f z b))
    .rw[<-z];show ahC c
  .rw[ac2 d];show#[.b,g,λk a b=>h k .b b]
def xq(c:Hn xs)(j:Nat):Lb xs j (Ù xs j) :=
 K_ c _ _ _ .b .b (ú _) (λk h=>absurd h (af0 k)) (λk a b=>absurd b .b)
def Eb(a:Hn xs):Ù xs 0=0:=by
 let h:=xq a 0;obtain z|z:=agq (Ù xs 0)
 .show z
 .show absurd (h.lo 0 z) (af0 _)
def CP(a:Hn xs)(hi:i<xs.size):Ù xs (xs.getD i 0+1)=i+1:=by
 let h:=xq a (xs.getD i 0+1);obtain z|z|z:=Nat.lt_trichotomy (Ù xs (xs.getD i 0+1)) (i+1)
 .let:=h.hi i .f hi;omega
 .show z
 .let h1:=h.lo (i+1) z;let h2:=uR a (.f:i<i+1) (Ś z h.le);omega
def GI(n:Nat):Hn (Array.range n):=by
 unfold Hn;rw[Array.toList_range];show ahZ
def MP(g:Hn xs)(p:xs[Ù xs j]?≠À j):Hn (SetTable.insertAt xs (Ù xs j) j):=by
 let h:=xq g j;unfold Hn;rw[SetTable.toList_insertAt];show List.pairwise_append.mpr #[ah8 (ϟ ..) g,aeN.mpr #[λy i=>?_,ah8 (List.drop_sublist ..) g],λa ha y i=>?_]
 .let⟨k,l,e⟩:=aeP.mp i;rw[ahs,afN] at e;rw[aeO,Ŕ] at l;let c:Ù xs j+k<xs.size:=by lia
  let h1:=h.hi (Ù xs j+k) .b c;simp only[Č,agz c] at h1;obtain z|z:=agq k
  .subst z;let h2:xs[Ù xs j]?=À xs[Ù xs j]:=aff .b;obtain q|q:=agu h1
   .rwa[<-e]
   .show absurd ?_ p;rw[h2];show congrArg À ↑q.symm
  .let h2:=uR g (a:=Ù xs j) (b:=Ù xs j+k) .b c;let n:=h.hi (Ù xs j) (ú _) .b;simp only[Č,agz c] at h2;rw[<-e];show Η n h2
 .let⟨k,l,e⟩:=aeP.mp ha;rw[Ϡ,afN] at e;rw[ϑ,Ŕ] at l;let h1:=h.lo k .b;simp only[Č,agz (.b:k<xs.size)] at h1;let f:a<j:=by rwa[<-e]
  obtain z|z:=ě.mp i
  .rwa[z]
  .let⟨m,o,e2⟩:=aeP.mp z;rw[ahs,afN] at e2;rw[aeO,Ŕ] at o;let d:Ù xs j+m<xs.size:=by lia
   let h2:=h.hi (Ù xs j+m) .b d;simp only[Č,agz d] at h2;rw[<-e2];show Ś f h2
def uS(t:ò)(j:Nat):Prop:=t.place[Ù t.place j]?≠À j
def Bc{t:ò}(h:t.slot j=.empty\/t.slot j=.dummy):uS t j:=λe=>by
 unfold SetTable.slot at h;simp only[e,age,af_] at h;obtain h|h:=h<;>cases h
def yM(t:ò)(p:ψ):(t.advance p).dummy=p.dummy:=by
 unfold SetTable.advance;split<;>rfl
theorem sC{t:ò}{f:Nat->Int}{h:Int}:∀(n:Nat) (p:ψ),(∀d,p.dummy=À d->uS t d)->∀j d,Į t f h n p=À (.empty j d)->uS t (d.getD j)
 |0,p,_,j,d,e=>by simp[Į] at e
 |n+1,p,hp,j,d,e=>by
  unfold Į at e;cases b:t.slot p.j with
  |empty =>
   rw[b] at e;simp only[af7,ϫ] at e;let⟨rfl,rfl⟩:=e;cases c:p.dummy with
   |none=>show Bc (.inl b)
   |some d=>show hp d c
  |dummy =>
   rw[b] at e;show sC n _ (λd' a=>?_) j d e;rw[yM] at a;simp only[af7] at a;rw[<-a];show Bc (.inr b)
  |live i =>
   rw[b] at e;simp only at e;split at e
   .simp at e
   .show sC n _ (λd' a=>hp d' (by rwa[yM] at a)) j d e
def Kq{t:ò}{h:Int}{b:Bool}(e:t.freeSlot h=À (j,b)):uS t j:=by
 unfold SetTable.freeSlot at e;split at e
 .rename_i f d c;let:=sC (t:=t) _ _ (λd a=>by simp[SetTable.probeStart] at a) _ _ c;simp only[af7,Ϯ] at e;rw[<-e.1];show this
 .cases e
structure Gd(l:Bool)(t:ò):Prop where
 led:t.led=l
 inc:Hn t.place
def JH(l:Bool):Gd l (.fresh 0 0 l):=#[rfl,by unfold Hn SetTable.fresh;show .nil]
def pG{t:ò}(h:Gd l t)(n:Nat):Gd l (t.standIn n):=#[h.led,GI n]
def SV{t:ò}(h:Gd l t)(es:Array (Int×Å))(a:Int)(x:Å):Gd l (layNew t es a x).2.1:=by
 unfold layNew;split
 .rename_i j b e;let c:=Kq e;let g:Gd l (t.put j).1:=#[h.led,MP h.inc c];change Gd l ((t.put j).1.orStandIn _);unfold SetTable.orStandIn;split
  .show g
  .show pG g _
 .show pG h _
def OA{mask m mo:Nat}{pl:Bool}{k:Array Int}{t:ò}{o:Array Nat}(e:Ϝ mask m mo l pl k=À (t,o)):Gd l t:=by
 unfold Ϝ at e;cases i:SetTable.layClean mask k with
 |none=>rw[i] at e;cases e
 |some h =>
  rw[i] at e;simp only[Option.bind_eq_bind,Option.bind_some,Option.pure_def,af7,Ϯ] at e;rw[<-e.1];show#[rfl,?_];unfold Hn;simp only;rw[List.map_filterMap]
  let:∀l:List Nat,l.Pairwise (·<·)->(l.filterMap λj=>Ι (·.1) ((h.getD j none).map λx=>(j,x))).Pairwise (·<·):=λl n=>by
   show List.Pairwise.filterMap _ (λa a' g b d b' c=>?_) n;cases ha:h.getD a none with
   |none=>rw[ha] at d;simp at d
   |some u =>
    rw[ha] at d;cases f:h.getD a' none with
    |none=>rw[f] at c;simp at c
    |some p =>
     rw[f] at c;simp only[ahV,af7] at d c;rwa[<-d,<-c]
  show this _ ahZ
def Kh{t:ò}(h:Gd l t)(es:Array (Int×Å))(n:Nat):Gd l (ŝ t es n).2.1:=by
 unfold ŝ;split
 .rename_i t' o e;dsimp only;split
  .unfold SetTable.relaid at e;rw[h.led] at e;show OA e
  .show pG h _
 .show pG h _
open PySem PyProof.Rows
structure lX(p:Ó)(w:Ü)(l:Bool)(h:á)(a:Ç)(o:ā)(es:Array (Int×Å))(ep:Nat)(t:ò):Prop where
 get:h.get? a=À o
 ex:o.ExactSet
 dat:o.data=.set es ep t
 el:ElemsOf (ć p w) es.toList
 bd:es.size<ĵ
 fit:t.fits es.size=Á
 gd:Gd l t
def sO(p:Ó)(w:Ü)(l:Bool)(h:á)(a:Ç)(ns:.L):Prop :=
 ∃o es ep t,lX p w l h a o es ep t/\(∀k,k∈ns↔∃e∈es.toList,(ć p w).is k e.2=Á)/\es.size=ns.length
def sO.keep{p:Ó}{w:Ü}{h':á}{a:Ç}(q:sO p w l h a ns)(k:∀o,h.get? a=À o->h'.get? a=À o):sO p w l h' a ns:=by
 let⟨o,es,ep,t,g,m,z⟩:=q;show#[o,es,ep,t,#[k o g.get,g.ex,g.dat,g.el,g.bd,g.fit,g.gd],m,z]
noncomputable def ins(ns:.L)(k:Int):.L:=if k∈ns then ns else ns++[k]
section
variable{p:Ó}{w:Ü}{A:è}{E:Å->Æ->Prop}{s:Æ}{l:Bool}{a:Ç}
def B8{o:ā}{es:Array (Int×Å)}{ep:Nat}{t:ò}(g:lX p w l h a o es ep t){b:Array (Int×Å)}{t':ò}(he:ElemsOf (ć p w) b.toList)(c:b.size<ĵ)(d:t'.fits b.size=Á)(e:Gd l t'):
  lX p w l (h.update a (Ϟ b t')) a {o with data:=.set b (ep+1) t'} b (ep+1) t':=by
 show#[?_,g.ex,rfl,he,c,d,e];let q:=ae9 (Ϟ b t') g.get (by rw[putSet_of b t' g.dat];rfl)
 rwa [putSet_of b t' g.dat] at q
def add_int{u:Tok}{Q:Bool->Æ->Prop}(hS:sO p w l s.heap a ns)(hr:ns.length+1<ĵ)(h:∀b h',İ a s.heap h'->sO p w l h' a (ins ns k)->Q b {s with heap:=h'}):
  Î (Ñ p w) A (setAddHashed a (.int k u) ((ć p w).hash k)) Q E s:=by
 let⟨o,es,ep,t,g,K,hz⟩:=hS;let G:(ć p w).is k (.int k u)=Á:=intKind_is _ _ _ _;let y:(ē k u).scannable=Á:=rfl;let P:byScan (.int k u) es=Á:=byScan_of y g.bd g.el;unfold setAddHashed setAddHashedIn;show ϻ (â (afJ g.get g.dat g.fit ?_));dsimp only;rw[ac6 P];unfold setAddByScan;show â (â (Ż (â (wpAny_setScan_of G g.get g.dat g.fit g.el ?_))));cases T:es.toList.findIdx? (λe=>(ć p w).is k e.2) with
 |some j =>
  let⟨Z,hp,_⟩:=List.findIdx?_eq_some_iff_getElem.mp T;let S:k∈ns:=(K k).mpr #[_,aeX Z,hp];show ù (ù (h Â s.heap (Heap.SameBut.refl a s.heap) ?_));unfold ins;rw[ac6 S];show#[o,es,ep,t,g,K,hz]
 |none =>
  let C:k∉ns:=λz=>by
   let⟨e,he,hp⟩:=(K k).mp z;let q:=List.findIdx?_eq_none_iff.mp T e he;rw[hp] at q;cases q
  let X:∀(b:Bool) (α:Æ) (R:Unit->Æ->Prop),R () α->Î (Ñ p w) A (match b with|true=>rule "set.scan.the-table-gave-way" |false=>pure ()) R E α:=λb α R q=>by
   cases b with
   |true=>show Ż q
   |false=>show ù q
  let n:=layNew_perm t es ((ć p w).hash k) (.int k u);let H:=layNew_fits t es ((ć p w).hash k) (.int k u);let J:=SV g.gd es ((ć p w).hash k) (.int k u);generalize layNew t es ((ć p w).hash k) (.int k u)=L at n H J ⊢;let⟨c,N,wd,gv⟩:=L;dsimp only at n H J ⊢;rw[ahu] at n
  let sz:c.size=es.size+1:=by
   rw[<-Ŕ,n.length_eq,ų,Ŕ];rfl
  let F:ElemsOf (ć p w) c.toList:=(g.el.push G y).perm n
  let m:∀x,x∈ns++[k]↔∃e∈c.toList,(ć p w).is x e.2=Á:=λx=>by
   rw[adQ,K x,adv];constructor
   .rintro(⟨e,he,q⟩|rfl)
    .show#[e,n.mem_iff.mpr (aeA _ he),q]
    .show#[_,n.mem_iff.mpr (ŧ _ (adv.mpr rfl)),G]
   .rintro⟨e,he,q⟩;obtain z|z:=adQ.mp (n.mem_iff.mp he)
    .show .inl #[e,z,q]
    .rw[adv.mp z] at q;show .inr ((ć p w).inj _ x k q G)
  let i:ins ns k=ns++[k]:=by unfold ins;rw[ac2 C]
  show â (X _ _ _ ?_)
  let tail:∀d:ò,d.fits c.size=Á->Gd l d->Î (Ñ p w) A (do
    storeSet a c d
    if (!wd&&d.tooFull)=Á then do
      (match (ŝ d c (ÿ c.size)).2.2 with|true=>rule "set.scan.the-table-gave-way" |false=>pure ())
      storeSet a (ŝ d c (ÿ c.size)).1 (ŝ d c (ÿ c.size)).2.1
      pure (À Á)
     else pure (À Á)) (λr s'=>Î (Ñ p w) A (match r with|some b=>pure b|none=>setAddHashedIn a (.int k u) ((ć p w).hash k) 99999) Q E s') E s:=λd f2 W=>by
   let I:=B8 g F .b f2 W;let Γ:=Ζ s.heap a (Ϟ c d);show â (wpAny_storeSet_of g.get g.dat ?_ (agG .b));by_cases V:(!wd&&d.tooFull)=Á
   .rw[ac6 V];let f:=relayAll_perm d c (ÿ c.size);let B:=relayAll_fits d c (ÿ c.size);let v:=Kh W c (ÿ c.size);generalize ŝ d c (ÿ c.size)=R at f B v ⊢;let⟨D,t3,σ⟩:=R;dsimp only at f B v ⊢;let O:D.size=c.size:=by rw[<-Ŕ,f.length_eq,Ŕ]
    let G2:=B8 I (F.perm f) .b B v;show â (X _ _ _ (â (wpAny_storeSet_of I.get I.dat ?_ (agG .b))));show ù (ù (h Á _ (Γ.trans (Ζ _ a _)) ?_));rw[i];show#[_,D,_,t3,G2,λx=>(m x).trans #[fun⟨e,he,q⟩=>#[e,f.mem_iff.mpr he,q],fun⟨e,he,q⟩=>#[e,f.mem_iff.mp he,q]],?_];rw[ų,O,sz,hz];rfl
   .rw[ac2 V];show ù (ù (h Á _ Γ ?_));rw[i];show#[_,c,_,d,I,m,?_];rw[ų,sz,hz];rfl
  cases hp:N.plain with
  |true =>
   rw[ac6 rfl,hashByValue_scannable 8 y];show â (ù (tail N H J))
  |false =>
   show â (ù (tail N H J))
end
open PySem PyProof.Rows PySem.Spec
noncomputable def met(f:Nat->Int)(i:Nat):.L:=((Ø i).map f).foldl ins []
def pN(f:Nat->Int)(i:Nat):met f (i+1)=ins (met f i) (f i):=by
 unfold met;rw[ahW,afE,af5];rfl
theorem u7(f:Nat->Int):∀i,(met f i).length<=i
 |0=>ú _
 |i+1=>by
  let z:=u7 f i;rw[pN];unfold ins;split
  .lia
  .rw[ų];simp;lia
section
variable{p:Ó}{w:Ü}{A:è}{E:Å->Æ->Prop}{s:Æ}{l:Bool}
def KY{R:ϝ->Æ->Prop}{I S:Ç}{fp wr:List Ç}{G:Array GenState->Array GenState->Prop}{P:Nat->Å->Prop}{St:Nat->Æ->Prop}(W:WalksS p w A.in1 I fp wr G n P St)(x:S∉fp)(f:Nat->Int)(y:∀i v,P i v->∃t,v=.int (f i) t)(F:n+1<ĵ):
  ∀(k i:Nat) (s:Æ),i+k=n->St i s->sO p w l s.heap S (met f i)->(∀s',Moved (S::wr) G s s'->sO p w l s'.heap S (met f n)->R (.ok (.ret .none)) s') ->
   Ė (Ñ p w) A (.builtin "set.update.loop" #[[.ref S,.ref I],[]]) R s:=by
 let u:S∉wr:=λz=>x (W.sub _ z);let up:∀b∈wr,b∈S::wr:=λb z=>Ě _ z;intro k
 induction k with
 |zero =>
  intro i s C st g fin;obtain rfl:i=n:=by lia
  show af1 agv ?_;rw[afO afB _];change Î _ A.in1 (Ħ (.ref I) >>= _) _ _ s;show â (W.done s _ _ st λs' a=>ù (fin s' (a.mono up) (g.keep λo e=>a.heap S o u e)))
 |succ k D =>
  intro i s C st g fin;show af1 agv ?_;rw[afO afB _];change Î _ A.in1 (Ħ (.ref I) >>= _) _ _ s;show â (W.item i s _ _ .b st λv s' B h a=>?_);let⟨t,rfl⟩:=y i v B;let g':=g.keep (h':=s'.heap) λo e=>a.heap S o u e;change Î _ A.in1 (ġ [ē (f i) t] (setAdd S (.int (f i) t)) >>= _) _ _ s';unfold setAdd;show â (ϻ (ϻ (â ((ć p w).pyHash (k:=f i) (intKind_is _ _ _ _) ?_))));let room:(met f i).length+1<ĵ:=by let:=u7 f i;lia
  show add_int (s:={s' with toks:=s'.toks+1}) g' room λb h' q r=>?_;rw[<-pN] at r;show ù #[agN afB _,D (i+1) _ .b (W.frame _ s' _ _ h (afw _) λc j o e=>?_) r λm d E=>fin m (Moved.trans W.gtrans ((a.mono up).then_heap (afw _) λc o j e=>?_) d) E]
  .rwa[q.2 c λz=>x (z▸j)]
  .rwa[q.2 c λz=>j (z▸Ġ)]
abbrev vK(w:Ü):Bool:=!w.params.followText "set-order"
abbrev eS(w:Ü):ā:={cls:=.type "set",dict:=none,data:=.set #[] 0 (.fresh 0 0 (vK w))}
def MJ(a:Å){R:Å->Æ->Prop}(h:R (.ref s.heap.objs.size) {s with heap:=s.heap.push (eS w)}):Ė (Ñ p w) A (.call (.builtin "set.__new__") #[[.type "set",a],[]]) (wants R E) s:=by
 show codeAny_of_tree (show Î _ A.in1 (checkBuiltinCall "set.__new__" #[[.type "set",a],[]] >>= λ_=>Β (.builtin "set.__new__" #[[.type "set",a],[]])) _ _ s from ?_);show â (wpAny_of_eq (PySem.F.newCall_set_1 a) (ù #[agN ah9 _,af1 PySem.F.entry_set_new ?_]));rw[afO ah9 _];unfold ę.«set.__new__» Builtin.Frozenset.newClass;let sub:=sub_set_self;let⟨hp,g,d,tk,os⟩:=s;dsimp only
 wp_walk
 show ahL (ù ?_);simp only[newObj];show â (wpAny_alloc (ù (ù h)))
def OG{a:Ç}(e:h.get? a=À (eS w)):sO p w (vK w) h a [] :=
 #[_,#[],0,_,#[e,#[rfl,rfl,rfl],rfl,(λx b=>by simp at b),.a,rfl,JH _],(λk=>by simp),rfl]
def Ij{l:Ç}{items:Array Å}(D:A.handled=none)(E:s.heap.IsList l items)(hi:ñ items.toList ns)(z:items.size+1<ĵ){R:ϝ->Æ->Prop}
  (h:∀h' tk,sO p w (vK w) h' s.heap.objs.size (met (λi=>ns.getD i 0) items.size)->(∀b o,s.heap.get? b=À o->h'.get? b=À o)->R (.ok (.ret .none)) {s with heap:=h',toks:=tk}):
  Î (Ñ p w) A.in1 (ę.«set.__init__» #[[.ref s.heap.objs.size,.ref l],[]]) (λfin s'=>match fin with|.done f=>R (.ok f) s'|.again c'=>c'.quiet=Á/\Ė (Ñ p w) A c' R s') (λe s'=>R (.error e) s') {s with heap:=s.heap.push (eS w)}:=by
 let⟨ol,n,k,nl,j⟩:=E;let⟨x,c,u,a⟩:=ol;simp only at k j;subst k j;let G:(s.heap.push (eS w)).get? s.heap.objs.size=À (eS w):=ŏ _ rfl;let m:(s.heap.push (eS w)).get? l=À {cls:=.type "list",dict:=c,data:=.seq items nl,slots:=a}:=Ī _ n;let J:=PySem.F.sub_list_set;let I:=PySem.F.sub_list_frozenset;let L:(û "list"==û "dict")=Â:=by decide
 let d:(s.heap.push (eS w)).IsList l items:=#[_,m,rfl,nl,rfl];let r:l<s.heap.objs.size:=ĕ n;let sz:(s.heap.push (eS w)).objs.size=s.heap.objs.size+1:=ae_ ..;unfold ę.«set.__init__» noKeywords Builtin.Frozenset.updateFrom;generalize hp:Ũ=K
 wp_walk
 subst hp;show ahr d (â (wpAny_runValue ?_));let H:l≠(s.heap.push (eS w)).objs.size:=by rw[sz];show ĸ (aeH r)
 let B:s.heap.objs.size∉[(s.heap.push (eS w)).objs.size,l]:=by
  rw[sz];simp only[ě,ğ,adM,not_or];show#[ĸ (afv _),ahB r]
 show KY (A:=A.in1) (l:=vK w) ((Walks.list (by simp[D]) _ l H items).toS) B (λi=>ns.getD i 0) (λi v C=>IntsAre.int_at hi i v (by rwa[aeU])) z items.size 0 _ .b #[#[_,ŏ _ rfl,rfl,rfl],d.push _] (OG (Ī _ G)) λs' t g=>?_;let⟨h',y,dr,tk,os⟩:=s';obtain rfl:y=s.gens:=t.gens;obtain rfl:dr=s.drawn:=t.drawn;obtain rfl:os=s.os:=t.os;show ù (ù (h h' tk g λb o e=>?_));let q:=ĕ e;show t.heap b o ?_ (Ī _ (Ī _ e));rw[sz];simp only[ě,ğ,adM,not_or];show#[ĸ q,ĸ (aeH q)]
def Jf{l:Ç}{items:Array Å}{Q:Å->Æ->Prop}(x:A.handled=none)(y:s.heap.IsList l items)(hi:ñ items.toList ns)(m:items.size+1<ĵ)
  (h:∀h' tk,sO p w (vK w) h' s.heap.objs.size (met (λi=>ns.getD i 0) items.size)->(∀b o,s.heap.get? b=À o->h'.get? b=À o)->Q (.ref s.heap.objs.size) {s with heap:=h',toks:=tk}):
  Î (Ñ p w) A (call (.type "set") [.ref l]) Q E s:=by
 let⟨c,tl,C⟩:=aeZ.mro;let D:=aeZ.made;let B:=aeZ.sub;let G:=aeZ.notType;let I:=aeZ.canCreate;let H:=PySem.F.typeCall_set_1 (.ref l);show wpAny_call (codeAny_of_tree (show Î _ _ (callAny (.type "set") _) _ _ _ from ù #[Code.quiet_builtin _ .d,af1 PySem.F.entry_type_call ?_]));rw[Around.under_plain (weight_type_call_type "set" [.ref l] []) rfl]
 repeat any_goals first|assumption|wp_step
 show af9 (MJ (.ref l) (E:=E) (R:=λv j=>v=.ref s.heap.objs.size/\j={s with heap:=s.heap.push (eS w)}) #[rfl,rfl]) λr j d=>?_;cases r with
 |error e=>show d
 |ok t =>
  cases t with
  |ret v =>
   let⟨rfl,rfl⟩:=d;let n:Shared.TypeIs {s with heap:=s.heap.push (eS w)} (.ref s.heap.objs.size) "set":=#[_,ŏ _ rfl,rfl];let J:=aeZ.init.lookup;let z:=aeZ.init.bind (.ref s.heap.objs.size)
   repeat any_goals first|assumption|wp_step
   show af9 (codeAny_call_builtin (R:=wants (λr f=>r=.none/\∃h' tk,f={s with heap:=h',toks:=tk}/\sO p w (vK w) h' s.heap.objs.size (met (λi=>ns.getD i 0) items.size)/\∀b o,s.heap.get? b=À o->h'.get? b=À o) E) aeZ.init.plain PySem.F.entry_set_init (check_set_init_1 n (Ij (by simp[x]) y hi m λh' tk g k=>#[rfl,h',tk,rfl,g,k]))) λq f a=>?_;cases q with
   |error e=>show a
   |ok u =>
    cases u with
    |ret r =>
     let⟨rfl,h',tk,rfl,g,k⟩:=a
     repeat any_goals first|assumption|wp_step
     show h _ _ g k
    |_=>show a.elim
  |_=>show d.elim
variable{S:Ç}{o:ā}{es:Array (Int×Å)}{ep:Nat}{t:ò}
noncomputable def sl(t:ò):Nat->Nat
 |0=>0
 |i+1=>t.place.getD i 0+1
def uO{Q:Bool->Æ->Prop}(h:Q (w.params.followText "set-order") s):Î (Ñ p w) A setsByText Q E s:=by
 unfold setsByText;show â (ahL (ù h))
def CS(g:lX p w (vK w) s.heap S o es ep t)(c:w.params.followText "set-order"=Â)(d:t.plain=Á\/es.size<=1)(hi:i<=es.size){Q:Option (Å×Nat)->Æ->Prop}(h:Q (es[i]?.map λe=>(e.2,sl t (i+1))) s):
  Î (Ñ p w) A (Ŝ S (sl t i) i ep) Q E s:=by
 unfold Ŝ;show â (afJ g.get g.dat g.fit (â (uO ?_)));rw[c]
 let dr:(!t.plain&&decide (es.size>1))=Â:=by
  obtain z|z:=d
  .rw[z];rfl
  .rw[adF .b];simp
 show ς (λq=>absurd q ł) λ_=>?_;show ς (λq=>absurd (show(!t.plain&&decide (es.size>1))=Á from q) (by rw[dr];show ł)) λ_=>?_;let ld:t.led=Á:=by rw[g.gd.led];change(!w.params.followText "set-order")=Á;rw[c];rfl
 show â (show Î _ _ (if (!t.led&&!es.isEmpty)=Á then unsupported "set:maker-not-led" else pure ()) _ _ _ from ?_);rw[ac2 (by rw[ld];simp)];show ù ?_;let sz:t.place.size=es.size:=by let f:=g.fit;simp only[SetTable.fits,ź,agy] at f;show f.1
 let a:Ù t.place (sl t i)=i:=by
  cases i with
  |zero=>show Eb g.gd.inc
  |succ i=>show CP g.gd.inc .b
 dsimp only;rw[a];show ù ?_;by_cases b:i<es.size
 .let h1:es[i]?=À es[i]:=aff b
  let h2:t.place[i]?=À (t.place.getD i 0):=by
   rw[aff .b];simp only[Č,agz (.b:i<t.place.size)];rfl
  rw[h1,h2];rwa[h1] at h
 .let h1:es[i]?=none:=ah0 .b;rw[h1];rwa[h1] at h
def HG(g:lX p w (vK w) s.heap S o es ep t)(a:w.params.followText "set-order"=Á){Q:Option (Å×Nat)->Æ->Prop}(h:Q ((ņ (w.params.setOrder S ep) es)[i]?.map λe=>(e.2,j)) s):
  Î (Ñ p w) A (Ŝ S j i ep) Q E s:=by
 unfold Ŝ;show â (afJ g.get g.dat g.fit (â (uO ?_)));rw[a];show ς (λ_=>?_) λq=>absurd rfl q;show ς (λq=>absurd q .c) λ_=>?_;unfold setWalk;show â (â (afJ g.get g.dat g.fit (â (uO ?_))));rw[a];show ς (λ_=>?_) λq=>absurd rfl q;show â (ahL (ù (ù h)))
end
def fj:Slot "set_iterator" "__next__" "set_iterator.__next__" :=
 .of (owner:="set_iterator") (n:="__next__") (by rw[typeLookup_type,Ϫ];kernel_rfl) .d .d .d
  (by first|show .inr .d|show .inl .d) (by rw[ž];kernel_rfl)
def qK:entryFor table "set_iterator.__next__"=À ę.«set_iterator.__next__»:=entryFor_of_tree (by kernel_rfl)
def L0:Manifest.owners.lookup (String.ofList ['r','o','t','a','r','e','t','i','_','t','e','s'].reverse)=À Manifest.sig_set_iterator:=by kernel_rfl
def u3(a:Å):argsOk "set_iterator.__next__" #[[a],[]]:=by
 unfold argsOk;rw[signature?_of (id:="set_iterator.__next__") (n:=['_','_','t','x','e','n','_','_']) (o:=['r','o','t','a','r','e','t','i','_','t','e','s']) (by kernel_rfl) L0];kernel_rfl
def A5:Slot "set_iterator" "__iter__" "set_iterator.__iter__" :=
 .of (owner:="set_iterator") (n:="__iter__") (by rw[typeLookup_type,Ϫ];kernel_rfl) .d .d .d
  (by first|show .inr .d|show .inl .d) (by rw[ž];kernel_rfl)
def Gy:entryFor table "set_iterator.__iter__"=À ę.«dict_keyiterator.__iter__»:=entryFor_alias (id':="dict_keyiterator.__iter__") (by kernel_rfl) rfl .d (by kernel_rfl)
def IK(a:Å):argsOk "set_iterator.__iter__" #[[a],[]]:=by unfold argsOk;kernel_rfl
def Kf:entryFor table "set.__iter__"=À ę.«frozenset.__iter__»:=entryFor_alias (id':="frozenset.__iter__") (by kernel_rfl) rfl .d (by kernel_rfl)
def oW(h:á)(I:Ç)(f:Å)(i:Nat)(S:Ç)(n ep:Nat):Prop:=∃o,h.get? I=À o/\o.cls=.type "set_iterator"/\o.data=.fields (ß [f,.int i 0,.ref S,.int n 0,.int ep 0])
section
variable{p:Ó}{w:Ü}{A:è}{E:Å->Æ->Prop}{s:Æ}{I S:Ç}{o:ā}{es:Array (Int×Å)}{ep:Nat}{t:ò}
def oW.ty(q:oW s.heap I f i S n ep):s.TypeIs (.ref I) "set_iterator":=let #[x,a,b,_]:=q;#[x,a,b]
def EZ{Q:Å->Æ->Prop}(q:oW s.heap I f i S n ep)(h:Q (.ref I) s):Î (Ñ p w) A (Ũ (.ref I)) Q E s:=by
 show wpAny_pyIter_slot q.ty A5 (ae7 A5 q.ty Gy (show Î _ _ (ret (.ref I)) _ _ s from ?_) (IK _));show ù #[_,rfl,"set_iterator",_,q.ty,fj.lookup,h]
def oW.put{x:Å}(q:oW h I f i S n ep):oW (h.update I (Ĩ (·.setIfInBounds 0 x))) I x i S n ep/\∀j:Nat,oW (h.update I (Ĩ (·.setIfInBounds 1 (ĉ j)))) I f j S n ep:=by
 let⟨a,b,c,d⟩:=q;show#[#[_,ae9 _ b (Κ (agw d _)),(ϰ ..).trans c,?_],λj=>#[_,ae9 _ b (Κ (agw d _)),(ϰ ..).trans c,?_]]
 .rw[agw d];simp
 .rw[agw d];simp[ĉ]
def NX{u:Nat}{x:Å}{nx:Nat}(q:oW s.heap I (.int u 0) i S es.size ep)(g:lX p w (vK w) s.heap S o es ep t){Q:Option Å->Æ->Prop}
  (f:∀(A:è) (E:Å->Æ->Prop) (R:Option (Å×Nat)->Æ->Prop),R (À (x,nx)) s->Î (Ñ p w) A (Ŝ S u i ep) R E s)
  (h:∀h',oW h' I (.int nx 0) (i+1) S es.size ep->İ I s.heap h'->Q (À x) {s with heap:=h'}):Î (Ñ p w) A (Ħ (.ref I)) Q E s:=by
 let⟨l,a,k,b⟩:=id q;unfold Ħ;show â (agO (afp (name:=ý "__next__") q.ty fj (ae7 fj q.ty qK ?_ (u3 _))));unfold ę.«set_iterator.__next__»;show â (ù (â (ahf a b ?_)));dsimp only;show â (afU g.get g.dat g.fit ?_);show ς (λz=>absurd z .c) λ_=>?_;dsimp only[Ï];show â (f _ _ _ ?_);dsimp only;let c:=(q.put (x:=ĉ nx)).1;let⟨m,d,j,e⟩:=id c;show â (agb a b .c (â (agb d e .c (ù #[x,rfl,ù (h _ ?_ ((Ζ ..).trans (Ζ ..)))]))));show(c.put (x:=.none)).2 (i+1)
def ym{Q:Option Å->Æ->Prop}(c:A.handled=none)(h:∀h',(∀b o,s.heap.get? b=À o->h'.get? b=À o)->Q none {s with heap:=h'}):
  Î (Ñ p w) A.in1 (newExc (.type "StopIteration") [] >>= λx=>raiseNew (α:=Fin) x) (λfin s'=>∃v,fin=Fin.done (Flow.ret v)/\Î (Ñ p w) A (pure (À v)) Q E s')
   (λe s'=>Î (Ñ p w) A (isInstance e (û "StopIteration") >>= λb=>if b=Á then pure none else throw e) Q E s') s:=by
 show â ?_;simp only[newExc,newTuple];show â (aeS ?_ (by size_fits));show â (m:=firstArgMember _ _) (wpAny_of_eq (a:=Ē) (by first|(simp only[firstArgMember];rfl)|rfl) ?_);show aeS ?_ (by size_fits);simp only[raiseNew];show â (wpAny_handled ?_);rw[show A.in1.handled=none from c];show â (ù (wpAny_throw ?_));show â (wpAny_isInstance (T:="StopIteration") (b:=Á) #[_,ŏ _ rfl,rfl] isSubtype_stop (ù (h _ λb o e=>?_)));show Ī _ (Ī _ e)
def Qv{u:Nat}(f:A.handled=none)(q:oW s.heap I (.int u 0) i S es.size ep)(g:lX p w (vK w) s.heap S o es ep t){Q:Option Å->Æ->Prop}
  (j:∀(A:è) (E:Å->Æ->Prop) (R:Option (Å×Nat)->Æ->Prop),R none s->Î (Ñ p w) A (Ŝ S u i ep) R E s)
  (h:∀h',(∀b o,b≠I->s.heap.get? b=À o->h'.get? b=À o)->Q none {s with heap:=h'}):Î (Ñ p w) A (Ħ (.ref I)) Q E s:=by
 let⟨m,a,l,c⟩:=id q;unfold Ħ;show â (agO (afp (name:=ý "__next__") q.ty fj (ae7 fj q.ty qK ?_ (u3 _))));unfold ę.«set_iterator.__next__»;show â (ù (â (ahf a c ?_)));dsimp only;show â (afU g.get g.dat g.fit ?_);show ς (λz=>absurd z .c) λ_=>?_;dsimp only[Ï];show â (j _ _ _ ?_);dsimp only;show â (agb a c .c ?_);show ym (s:={s with heap:=s.heap.update I (Ĩ (·.setIfInBounds 2 Ē))}) f λh' k=>h h' λb o d e=>k b o ?_;rwa[(Ζ s.heap I _).2 b d]
def wc{vs:List Å}{f:Nat->Nat}(B:A.handled=none)(m:S≠I)(D:vs.length=es.size)
  (y:∀(s:Æ) (i:Nat) (A:è) (E:Å->Æ->Prop) (R:Option (Å×Nat)->Æ->Prop),i<=es.size->lX p w (vK w) s.heap S o es ep t->R (vs[i]?.map λv=>(v,f (i+1))) s->Î (Ñ p w) A (Ŝ S (f i) i ep) R E s):
  Walks p w A I [I,S] [I] vs.length (λi v=>vs[i]?=À v) (λi h=>i<=vs.length/\oW h I (.int (f i) 0) i S es.size ep/\lX p w (vK w) h S o es ep t) where
 sub:=λb j=>by simp at j;simp[j]
 frame:=λi h h' st k=>by
  let⟨d,⟨x,a,b,c⟩,g⟩:=st;show#[d,#[x,k I .c x a,b,c],#[k S .c o g.get,g.ex,g.dat,g.el,g.bd,g.fit,g.gd]]
 item:=λi s Q E hi st l=>by
  let⟨d,q,g⟩:=st;let e:vs[i]?=À vs[i]:=Đ hi;show NX (x:=vs[i]) (nx:=f (i+1)) q g (λA E R r=>y s i A E R .b g (by rwa[e])) λh' C u=>l _ h' s.toks e #[hi,C,?_] λb o' j n=>?_
  .show#[by rw[u.2 S m];show g.get,g.ex,g.dat,g.el,g.bd,g.fit,g.gd]
  .rw[u.2 b λz=>j (by simp[z])];show n
 done:=λs Q E st l=>by
  let⟨d,q,g⟩:=st;show Qv B q g (λA E R r=>y s _ A E R .b g (by rwa[Ϲ (ú _)])) λh' k=>l h' s.toks λb o' j n=>k b o' (λz=>j (by simp[z])) n
 self:=λi s Q E st l=>EZ st.2.1 l
variable{T:Ç}
theorem o7{M:Type}:∀(l:List M) (i:Nat) (h:i<l.length),(l[i]::l.eraseIdx i).Perm l
 |x::l,0,_=>.refl _
 |x::l,i+1,h=>by
  let:=o7 l i ↑h;simp only[List.getElem_cons_succ,List.eraseIdx_cons_succ];show(ô ..).trans (this.cons x)
def D5{src:Source}{Q:Nat->Æ->Prop}(a:n≠0)(h:∀i d,i<n->Q i {s with drawn:=d}):Î (Ñ p w) A (choose src n) Q E s:=by
 intro U q b;change Sem.wp _ _ (.choose src n .pure) _ _ _ _;rw[Sem.wp_choose];show#[a,h _ _ (Nat.mod_lt _ (Nat.pos_of_ne_zero a))]
theorem B3{M:Type}:∀(n:Nat) (xs:List M) (s:Æ) (Q:List M->Æ->Prop),xs.length=n->(∀ys d,ys.Perm xs->Q ys {s with drawn:=d})->Î (Ñ p w) A (drawOrder n xs) Q E s
 |0,xs,s,Q,a,h=>by
  obtain rfl:xs=[]:=afr.mp a;unfold drawOrder;show ù (h [] s.drawn (.refl _))
 |n+1,[],s,Q,a,h=>by simp at a
 |n+1,x::xs,s,Q,a,h=>by
  unfold drawOrder;show â (D5 .c λi d hi=>?_);let e:(x::xs)[i]?=À (x::xs)[i]:=Đ hi;rw[e];show â (B3 n _ _ _ (by rw[Μ,ac6 hi];simp at a ⊢;lia) λys b c=>?_);show ù (h _ b ?_);show(Ŏ _ c).trans (o7 _ i hi)
def N4{e:Int×Å}{c:ā}{d:Nat}(q:oW s.heap I (.ref T) i S es.size ep)(g:lX p w (vK w) s.heap S o es ep t)(f:s.heap.get? T=À c)(dT:c.data=.seq (os.map λn:Nat=>ĉ (n:Int)).toArray d)(k:os[i]?=À j)(he:es[j]?=À e){Q:Option Å->Æ->Prop}
  (h:∀h',oW h' I (.ref T) (i+1) S es.size ep->İ I s.heap h'->Q (À e.2) {s with heap:=h'}):Î (Ñ p w) A (Ħ (.ref I)) Q E s:=by
 let⟨m,a,l,b⟩:=id q;unfold Ħ;show â (agO (afp (name:=ý "__next__") q.ty fj (ae7 fj q.ty qK ?_ (u3 _))));unfold ę.«set_iterator.__next__»;show â (ù (â (ahf a b ?_)));dsimp only;show â (afU g.get g.dat g.fit ?_);show ς (λz=>absurd z .c) λ_=>?_;dsimp only[Ï];show â (wpAny_seqItems f dT ?_);dsimp only
 let e1:(os.map λn:Nat=>ĉ (n:Int)).toArray[i]?=À (ĉ (j:Int)):=by
  rw[ah_,Ĵ,k];rfl
 rw[e1];dsimp only[ĉ,Ï];unfold setNextDrawn;show â (â (afJ g.get g.dat g.fit ?_));show ς (λz=>absurd z .c) λ_=>?_;rw[he];show ù (â (agb a b .c (ù #[e.2,rfl,ù (h _ ?_ (Ζ ..))])));show(q.put (x:=.none)).2 (i+1)
def Qq{f:ā}{j:Nat}(r:A.handled=none)(q:oW s.heap I (.ref T) i S es.size ep)(g:lX p w (vK w) s.heap S o es ep t)(u:s.heap.get? T=À f)(dT:f.data=.seq (os.map λn:Nat=>ĉ (n:Int)).toArray j)(y:os[i]?=none){Q:Option Å->Æ->Prop}
  (h:∀h',(∀b o,b≠I->s.heap.get? b=À o->h'.get? b=À o)->Q none {s with heap:=h'}):Î (Ñ p w) A (Ħ (.ref I)) Q E s:=by
 let⟨D,c,C,d⟩:=id q;unfold Ħ;show â (agO (afp (name:=ý "__next__") q.ty fj (ae7 fj q.ty qK ?_ (u3 _))));unfold ę.«set_iterator.__next__»;show â (ù (â (ahf c d ?_)));dsimp only;show â (afU g.get g.dat g.fit ?_);show ς (λz=>absurd z .c) λ_=>?_;dsimp only[Ï];show â (wpAny_seqItems u dT ?_);dsimp only
 let e1:(os.map λn:Nat=>ĉ (n:Int)).toArray[i]?=none:=by
  rw[ah_,Ĵ,y];rfl
 rw[e1];dsimp only;let v:=(q.put (x:=ĉ 0)).1;let⟨F,l,B,m⟩:=id v;show â (agb c d .c (â (agb l m .c ?_)));show ym (s:={s with heap:=(s.heap.update I (Ĩ (·.setIfInBounds 0 (ĉ 0)))).update I (Ĩ (·.setIfInBounds 2 Ē))}) r λh' k=>h h' λb o a e=>k b o ?_;rwa[(Ζ _ I _).2 b a,(Ζ s.heap I _).2 b a]
def Dv(G:A.handled=none)(B:S≠I)(F:T≠I)(hp:os.Perm (Ø es.size)):
  Walks p w A I [I,S,T] [I] os.length (λi v=>∃j e,os[i]?=À j/\es[j]?=À e/\v=e.2) (λi h=>i<=os.length/\oW h I (.ref T) i S es.size ep/\lX p w (vK w) h S o es ep t/\∃d l,h.get? T=À d/\d.data=.seq (os.map λn:Nat=>ĉ (n:Int)).toArray l) where
 sub:=λb m=>by simp at m;simp[m]
 frame:=λi h h' st k=>by
  let⟨f,⟨x,a,b,c⟩,g,d,l,r,u⟩:=st;show#[f,#[x,k I .c x a,b,c],#[k S .c o g.get,g.ex,g.dat,g.el,g.bd,g.fit,g.gd],d,l,k T .c d r,u]
 item:=λi s Q E hi st y=>by
  let⟨f,q,g,d,l,r,u⟩:=st;let e:os[i]?=À os[i]:=Đ hi;let J:os[i]<es.size:=aeh.mp (hp.mem_iff.mp (aeX hi));let e2:es[os[i]]?=À es[os[i]]:=aff J;show N4 q g r u e e2 λh' H C=>y _ h' s.toks #[_,_,e,e2,rfl] #[hi,H,?_,d,l,by rwa[C.2 T F],u] λb o' m D=>?_
  .show#[by rw[C.2 S B];show g.get,g.ex,g.dat,g.el,g.bd,g.fit,g.gd]
  .rw[C.2 b λz=>m (by simp[z])];show D
 done:=λs Q E st y=>by
  let⟨f,q,g,d,l,r,u⟩:=st;show Qq G q g r u (Ϲ (ú _)) λh' k=>y h' s.toks λb o' m D=>k b o' (λz=>m (by simp[z])) D
 self:=λi s Q E st y=>EZ st.2.1 y
end
open PySem PyProof.Rows PySem.Spec PySem.W PySem.Calls
structure B7(s s':Æ):Prop where
 keep:∀b o,s.heap.get? b=À o->s'.heap.get? b=À o
 gens:s'.gens=s.gens
 os:s'.os=s.os
structure Vi(p:Ó)(w:Ü)(s s':Æ)(S I:Ç)(es:Array (Int×Å)):Prop where
 gr:B7 s s'
 new:s.heap.objs.size<=I
 wk:∃(fp:List Ç) (n:Nat) (P:Nat->Å->Prop) (St:Nat->á->Prop) (vs:List Å),(∀A:è,A.handled=none->Walks p w A I fp [I] n P St)/\St 0 s'.heap/\(∀b∈fp,b=S\/s.heap.objs.size<=b)/\vs.length=n/\(∀i v,P i v->vs[i]?=À v)/\vs.Perm (es.toList.map (·.2))
theorem F3{M:Type}(f:Nat->Nat):∀(n k:Nat) (l:List M) (a:Array M),l.length=n->(ş f n k l a).toList.Perm (a.toList++l)
 |0,k,l,a,h=>by
  obtain rfl:l=[]:=afr.mp h;simp[ş]
 |n+1,k,l,a,h=>by
  let hi:f k%l.length<l.length:=Nat.mod_lt _ .b;unfold ş;rw[Đ hi];show(F3 f n (k+1) _ _ (by rw[Μ,ac6 hi];lia)).trans ?_;rw[ahu,Ϣ];show List.Perm.append_left _ (o7 l _ hi)
def GN{M:Type}(f:Nat->Nat)(xs:Array M):(ņ f xs).toList.Perm xs.toList:=by
 let:=F3 f xs.size 0 xs.toList #[] .c;simpa [ņ] using this
section
variable{p:Ó}{w:Ü}{A:è}{E:Å->Æ->Prop}{s:Æ}{S:Ç}{o:ā}{es:Array (Int×Å)}{ep:Nat}{t:ò}
def rH{h':á}(g:lX p w (vK w) h S o es ep t)(k:∀b o,h.get? b=À o->h'.get? b=À o):lX p w (vK w) h' S o es ep t:=#[k _ _ g.get,g.ex,g.dat,g.el,g.bd,g.fit,g.gd]
def KQ(g:lX p w (vK w) s.heap S o es ep t){Q:Å->Æ->Prop}(h:∀I s',Vi p w s s' S I es->Q (.ref I) s'):Î (Ñ p w) A (Ũ (.ref S)) Q E s:=by
 let ty:s.TypeIs (.ref S) "set":=#[o,g.get,g.ex.1];let z:S<s.heap.objs.size:=ĕ g.get;show wpAny_pyIter_slot ty aia (ae7 aia ty Kf ?_ (PySem.F.args_set_iter_1 _));unfold ę.«frozenset.__iter__» Builtin.Frozenset.slot0 Builtin.Frozenset.sizeOf;show â (â (ù (ù ?_)));show â (â (afU g.get g.dat g.fit (ù ?_)));unfold setDrawn;show â (â (afJ g.get g.dat g.fit (â (uO (ù ?_)))));show ς (λy=>?_) λy=>?_
 .let c:(!w.params.followText "set-order"&&(!t.plain&&decide (es.size>1)))=Á:=y;show â (B3 es.size (Ø es.size) _ _ afH λos d k=>?_);let lo:os.length=es.size:=by rw[k.length_eq,afH]
  show â (wpAny_newTuple ?_ (by rw[ą,lo];show agG g.bd));show â (wpAny_setEpoch_of (Ī _ g.get) g.dat g.fit ?_);show â (aeS (ù #[_,rfl,"set_iterator",_,#[_,ŏ _ rfl,rfl],fj.lookup,h _ _ ?_]));show#[#[λb o e=>Ī _ (Ī _ e),rfl,rfl],by rw[ae_];show afw _,?_];let q:S≠(s.heap.push {cls:=.type "tuple",data:=.seq (os.map λn:Nat=>ĉ (n:Int)).toArray}).objs.size:=by rw[ae_];show ĸ (aeH z)
  let C:s.heap.objs.size≠(s.heap.push {cls:=.type "tuple",data:=.seq (os.map λn:Nat=>ĉ (n:Int)).toArray}).objs.size:=by rw[ae_];show ĸ (afv _)
  show#[_,_,_,_,os.map λj=>(es.getD j (0,.none)).2,λA m=>Dv (o:=o) (t:=t) (ep:=ep) m q C k,#[Ņ _,#[_,ŏ _ rfl,rfl,rfl],rH g λb o e=>Ī _ (Ī _ e),_,_,Ī _ (ŏ _ rfl),rfl],?_,?_,?_,?_]
  .intro b a;simp only[ě,ğ,adM] at a;obtain rfl|rfl|rfl:=a
   .show .inr (by rw[ae_];show afw _)
   .show .inl rfl
   .show .inr (ú _)
  .rw[ą]
  .rintro i v ⟨j,e,e1,e2,rfl⟩;rw[Ĵ,e1];change À (es.getD j (0,.none)).2=À e.2;let⟨D,e3⟩:=Array.getElem?_eq_some_iff.mp e2;simp only[Č,agz D];show congrArg (λx:Int×Å=>À x.2) e3
  .show(k.map _).trans ?_
   let:(Ø es.size).map (λj=>(es.getD j (0,.none)).2)=es.toList.map (·.2):=by
    show ahv λi=>?_;rw[Ĵ,Ĵ];by_cases hi:i<es.size
    .let h2:es.toList[i]?=À (es.getD i (0,.none)):=by
      rw[aeU,aff hi];simp only[Č,agz hi];rfl
     rw[agi hi,h2];rfl
    .let h2:es.toList[i]?=none:=by rw[aeU];show ah0 .b
     rw[Ϲ (by rw[afH];lia),h2];rfl
   rw[this]
 .let c:¬(!w.params.followText "set-order"&&(!t.plain&&decide (es.size>1)))=Á:=y;show â (ù (â (wpAny_setEpoch_of g.get g.dat g.fit ?_)));show â (aeS (ù #[_,rfl,"set_iterator",_,#[_,ŏ _ rfl,rfl],fj.lookup,h _ _ ?_]));show#[#[λb o e=>Ī _ e,rfl,rfl],ú _,?_];let q:S≠s.heap.objs.size:=ĸ z
  let l:∀b∈[s.heap.objs.size,S],b=S\/s.heap.objs.size<=b:=λb a=>by
   simp only[ě,ğ,adM] at a;obtain rfl|rfl:=a
   .show .inr (ú _)
   .show .inl rfl
  let B:lX p w (vK w) (s.heap.push {cls:=.type "set_iterator",data:=.fields [ĉ 0,ĉ 0,.ref S,ĉ es.size,ĉ ep].toArray}) S o es ep t:=rH g λb o e=>Ī _ e;cases a:w.params.followText "set-order" with
  |false =>
   rw[a] at c
   let hpl:t.plain=Á\/es.size<=1:=by
    cases hp:t.plain with
    |true=>show .inl rfl
    |false =>
     rw[hp] at c;show .inr ?_;simpa using c
   let u:(es.toList.map (·.2)).length=es.size:=by rw[ą,Ŕ]
   show#[_,_,_,_,es.toList.map (·.2),λA m=>wc (vs:=es.toList.map (·.2)) (f:=sl t) (o:=o) (t:=t) (ep:=ep) m q u λs i A E R hi g r=>CS g a hpl hi ?_,#[Ņ _,#[_,ŏ _ rfl,rfl,rfl],B],l,rfl,λi v e=>e,.refl _];rwa[Ĵ,aeU,ϯ] at r
  |true =>
   let k:=(GN (w.params.setOrder S ep) es).map (·.2);let u:((ņ (w.params.setOrder S ep) es).toList.map (·.2)).length=es.size:=by rw[k.length_eq,ą,Ŕ]
   show#[_,_,_,_,(ņ (w.params.setOrder S ep) es).toList.map (·.2),λA m=>wc (vs:=(ņ (w.params.setOrder S ep) es).toList.map (·.2)) (f:=λ_=>0) (o:=o) (t:=t) (ep:=ep) m q u λs i A E R hi g r=>HG g a ?_,#[Ņ _,#[_,ŏ _ rfl,rfl,rfl],B],l,rfl,λi v e=>e,k];rwa[Ĵ,aeU,ϯ] at r
def Kz{Q:Bool->Æ->Prop}(ty:s.TypeIs (.ref S) "set")(h:Q Â s):Î (Ñ p w) A (Ŀ (.ref S)) Q E s:=by
 unfold Ŀ;show â (wpAny_specialOf ty PySem.F.slot_set_len.lookup ?_);generalize a:("set.__len__":String)=c
 wp_delta
 rw[show splitId c=À ("set","__len__") from by subst a;decide +kernel];subst a;show â (wpAny_isInstance (T:="set") (b:=Á) ty (by rw[ž];kernel_rfl) (ς (λz=>absurd z .a) λ_=>?_));show ς (λ_=>â (ϔ ty (ù h))) λz=>absurd .d z
def DO{L:Ç}{c:Nat}{R:ϝ->Æ->Prop}{res:Å}(H:A.handled=none)(g:lX p w (vK w) s.heap S o es ep t)(F:s.heap.get? L=À {cls:=.type "list",data:=.seq #[] c})(m:L≠S)
  (h:∀s' a c',(∀b o,b≠L->s.heap.get? b=À o->s'.heap.get? b=À o)->s'.gens=s.gens->s'.os=s.os->s'.heap.get? L=À {cls:=.type "list",dict:=none,data:=.seq a c',slots:=#[]}->a.toList.Perm (es.toList.map (·.2))->R (.ok (.ret res)) s'):
  Î (Ñ p w) A.in1 (đ (.ref L) (.ref S) res) (λfin s'=>match fin with|.done f=>R (.ok f) s'|.again c'=>c'.quiet=Á/\Ė (Ñ p w) A c' R s') (λe s'=>R (.error e) s') s:=by
 let ty:s.TypeIs (.ref S) "set":=#[o,g.get,g.ex.1];unfold đ;show â (ϔ (T:="set") ty ?_);let J:ŉ (.ref L) (.ref S)=Â:=by simp[ŉ,m]
 let z2:(û "set"==û "list")=Â:=by decide
 let Γ:(û "set"==û "tuple")=Â:=by decide
 simp only[J,z2,Γ,Bool.or_false,afZ,agp];show â (KQ g λI s' wk=>?_);let⟨gr,nw,fp,n,P,St,vs,W,st,y,N,α,k⟩:=wk;let v:L<s.heap.objs.size:=ĕ F
 let l:L∉fp:=λz=>by
  obtain q|q:=y L z
  .show m q
  .show absurd v (afK.mpr q)
 let C:n<=sizeLine:=by
  rw[<-N,k.length_eq,ą,Ŕ];show agG g.bd
 let key:∀(d:Æ) (c1:Nat),St 0 d.heap->(∀b o,b≠L->s'.heap.get? b=À o->d.heap.get? b=À o)->d.gens=s'.gens->d.os=s'.os->d.heap.get? L=À {cls:=.type "list",data:=.seq #[] c1}->Ė (Ñ p w) A (.builtin "list.extend.loop" #[[.ref L,.ref I,res],[]]) R d:=λd c1 u σ O V K=>by
  show codeAny_extend_loopS ((W A.in1 H).toS) C L l res n 0 d #[] c1 rfl (Ņ _) u K (ItemsOf.nil _) λE a c2 B Z D=>?_;show h E a c2 (λb o j e=>B.heap b o (λz=>?_) (σ b o j (gr.keep b o e))) ?_ ?_ Z ?_
  .obtain q|q:=ě.mp z
   .show j q
   .show absurd (ĕ e) (afK.mpr (by rwa[adv.mp q]))
  .show(show E.gens=d.gens from B.gens).trans (O.trans gr.gens)
  .show B.os.trans (V.trans gr.os)
  .let:a.toList=vs:=by
    show ahv λi=>?_;by_cases hi:i<a.toList.length
    .let e:=Đ hi;rw[e];show(α i _ (D.2 i _ (by rwa[<-aeU]))).symm
    .let X:a.toList.length=n:=by rw[Ŕ];show D.1
     rw[Ϲ .b,Ϲ .b]
   rwa[this]
 let x:=gr.keep _ _ F;show â (ϻ (Kz #[o,gr.keep _ _ g.get,g.ex.1] ?_));show ς (λ_=>?_) (λ_=>ù #[agN ahz _,key _ c st (λb o _ e=>e) rfl rfl x]);show â (Ż (â (show Î _ _ (updateSeq L (·.push .none) >>= λ_=>updateSeq L (·.pop)) _ _ _ from â (wpAny_updateSeq x rfl ?_))));let G:=ae9 (Ú (·.push Ē)) x rfl;show wpAny_updateSeq (hz:=by seq_fits) G rfl ?_;let Q:=ae9 (Ú (·.pop)) G rfl
 let r:∀b o,b≠L->s'.heap.get? b=À o->((s'.heap.update L (Ú (·.push Ē))).update L (Ú (·.pop))).get? b=À o:=λb o j e=>by
  rwa[(Ζ _ L _).2 b j,(Ζ _ L _).2 b j]
 show ù #[agN ahz _,key _ _ ((W A.in1 H).frame 0 _ _ st λb j o e=>r b o (λq=>l (q▸j)) e) r rfl rfl Q]
end
noncomputable def kv:Å->Int
 |.int k _=>k
 |_=>0
theorem Fl:∀{vs:List Å},(∀v∈vs,∃k t,v=.int k t)->ñ vs (vs.map kv)
 |[],_=>.nil
 |v::vs,h=>by
  let⟨k,t,rfl⟩:=h v (Ġ ..);show .cons k t (Fl λv a=>h v (Ě _ a))
theorem t9:∀{m l:.L},m.Nodup->(∀x∈m,x∈l)->m.length=l.length->m.Perm l
 |[],l,_,_,h=>by
  obtain rfl:l=[]:=afr.mp h.symm;show .nil
 |x::m,l,d,b,h=>by
  let c:x∈l:=b x (Ġ ..);let⟨f,g⟩:=aeB.mp d;let pl:=Λ c;show(Ŏ x (t9 g (λy a=>?_) ?_)).trans pl.symm
  .show(ag4 (λe:y=x=>f (e▸a))).mpr (b y (Ě _ a))
  .let:=pl.length_eq;simp only[ŭ] at this h ⊢;lia
def GH(h:ns.Nodup):(ins ns k).Nodup:=by
 unfold ins;split
 .show h
 .rename_i c;rw[agF];show#[h,.c,λa ha b d e=>c (by rwa[<-adv.mp d,<-e])]
def NH{x:Int}:x∈ins ns k↔x∈ns\/x=k:=by
 unfold ins;split
 .rename_i a;show#[.inl,λh=>h.elim id λe=>e▸a]
 .rw[adQ,adv]
theorem rY(f:Nat->Int):∀i,(met f i).Nodup
 |0=>ah7
 |i+1=>by rw[pN];show GH (rY f i)
theorem Gq(f:Nat->Int){x:Int}:∀i,x∈met f i↔∃j,j<i/\f j=x
 |0=>by simp[met]
 |i+1=>by
  rw[pN,NH,Gq f i];constructor
  .rintro(⟨j,h1,h2⟩|e)
   .show#[j,.b,h2]
   .show#[i,.b,e.symm]
  .rintro⟨j,h1,h2⟩;obtain z|z:=agu (ϲ h1)
   .show .inl #[j,z,h2]
   .show .inr (by rw[<-h2,z])
section
variable{p:Ó}{w:Ü}{A:è}{E:Å->Æ->Prop}{s:Æ}{S:Ç}{o:ā}{es:Array (Int×Å)}{ep:Nat}{t:ò}
def Bo{R:List Å->Æ->Prop}(i:A.handled=none)(g:lX p w (vK w) s.heap S o es ep t)(h:∀s' vs,B7 s s'->vs.Perm (es.toList.map (·.2))->R vs s'):Î (Ñ p w) A (collect (.ref S)) R E s:=by
 let m:S<s.heap.objs.size:=ĕ g.get;unfold collect;show â (wpAny_runValue (af1 entry_proto_collect' ?_));rw[afO PySem.F.plain_proto_collect _];show(show Î _ A.in1 (newList [] >>= λl=>Β (.builtin "list.__iadd__" #[[l,.ref S],[]])) _ _ s from â (aeS (ù #[agN ahP _,af1 entry_list_iadd' ?_])));rw[afO ahP _];let n:(s.heap.push {cls:=.type "list",data:=.seq ([]:List Å).toArray}).get? s.heap.objs.size=À {cls:=.type "list",data:=.seq #[]}:=ŏ _ rfl;show(show Î _ A.in1 (đ (.ref s.heap.objs.size) (.ref S) (.ref s.heap.objs.size)) _ _ _ from ?_)
 let key:=DO (A:=A) (s:={s with heap:=s.heap.push {cls:=.type "list",data:=.seq ([]:List Å).toArray}}) (res:=.ref s.heap.objs.size)
  (R:=λq s'=>∃a c',q=.ok (.ret (.ref s.heap.objs.size))/\B7 s s'/\s'.heap.get? s.heap.objs.size=À {cls:=.type "list",dict:=none,data:=.seq a c',slots:=#[]}/\a.toList.Perm (es.toList.map (·.2)))
  i (rH g λb o e=>Ī _ e) n (ahB m) λs' a c' k d os l c=>#[a,c',rfl,#[λb o e=>k b o (ĸ (ĕ e)) (Ī _ e),d,os],l,c]
 show ϥ key (λfin s' x=>?_) λe s' x=>?_
 .cases fin with
  |done f =>
   let⟨a,c',e,gr,l,c⟩:=x;cases e;show show Î _ A (load s.heap.objs.size >>= _) _ _ _ from â (wpAny_load l (ù (h s' _ gr c)))
  |again c1 =>
   show#[x.1,af9 x.2 λq r y=>?_];let⟨a,c',e,gr,l,c⟩:=y;cases e;show show Î _ A (load s.heap.objs.size >>= _) _ _ _ from â (wpAny_load l (ù (h r _ gr c)))
 .let⟨_,_,j,_⟩:=x;cases j
def Bs{Q:Å->Æ->Prop}{m:.L}(B:A.handled=none)(q:sO p w (vK w) s.heap S m)(r:m.Nodup)(i:m.length<64)
  (h:∀(b:Æ) (vs:List Å) (a:Array Å) (ns:.L),B7 s b->ñ a.toList ns->ns.Perm m->ns.Pairwise (·<=·)->Q (.ref b.heap.objs.size) {b with heap:=sortedHeap (b.heap.push (æ "list" vs.toArray 0)) b.heap.objs.size vs a}):
  Î (Ñ p w) A (call (.builtin "sorted") [.ref S]) Q E s:=by
 let⟨o,es,ep,t,g,D,hz⟩:=q;show Calls.call_function_entry kind_sorted plain_sorted entry_sorted (args_sorted1 _) ?_;unfold ę.«sorted»;show â (m:=checkCount "sorted" 1 1 _) (ù (â (Bo (A:=A.in1) B g λb vs gr f=>?_)));let j:vs.length=m.length:=by rw[f.length_eq,ą,Ŕ,hz]
 let allI:∀v∈vs,∃k t,v=.int k t:=λv z=>by
  let⟨e,he,rfl⟩:=adn.mp (f.mem_iff.mp z);let⟨⟨k,c,_⟩,_⟩:=g.el e he;let⟨t,d⟩:=ahq c;show#[k,t,d]
 let F:(vs.map kv).Perm m:=by
  show(t9 r (λx y=>?_) (by rw[ą,j])).symm;let⟨e,he,c⟩:=(D x).mp y;let⟨t,d⟩:=ahq c;show adn.mpr #[e.2,f.mem_iff.mpr (adn.mpr #[e,he,rfl]),by rw[d];rfl]
 show â (ahn ?_ (by rw[j];show ĭ (ŋ i) .a));let l:(b.heap.push (æ "list" vs.toArray 0)).get? b.heap.objs.size=À (æ "list" vs.toArray 0):=ŏ _ rfl;show â (ϻ (ae7 slot_list_sort #[_,l,rfl] entry_list_sort (list_sort_tree l (Fl allI) .b λa ns n C u=>#[_,rfl,?_]) (args_list_sort _)));show ù #[_,rfl,h b vs a ns gr n (C.trans F) u]
end
end L2.Sx
namespace L2.EP
open PySem PySem.Spec PyProof.Rows L2.Sx
noncomputable def oK(x:Int):.L->.L
 |[]=>[x]
 |y::l=>if x<y then x::y::l else if x=y then y::l else y::oK x l
noncomputable def sset(ns:.L):.L:=ns.foldr oK []
theorem xm{x a:Int}:∀{l:.L},a∈oK x l↔a=x\/a∈l
 |[]=>by simp[oK]
 |y::l=>by
  unfold oK;split
  .simp
  .split
   .rename_i h;subst h;simp
   .rw[ě,xm (l:=l),ě];constructor
    .rintro(h|h|h)
     .show .inr (.inl h)
     .show .inl h
     .show .inr (.inr h)
    .rintro(h|h|h)
     .show .inr (.inl h)
     .show .inl h
     .show .inr (.inr h)
theorem Cn{x:Int}:∀{l:.L},l.Pairwise (·<·)->(oK x l).Pairwise (·<·)
 |[],_=>by simp[oK]
 |y::l,h=>by
  let⟨h1,h2⟩:=aeN.mp h;unfold oK;split
  .rename_i b;show aeN.mpr #[λa ha=>?_,h];obtain z|z:=ě.mp ha
   .lia
   .let:=h1 a z;lia
  .split
   .show h
   .show aeN.mpr #[λa ha=>?_,Cn h2];obtain z|z:=xm.mp ha
    .lia
    .show h1 a z
theorem gJ{a:Int}:∀{ns:.L},a∈sset ns↔a∈ns
 |[]=>by simp[sset]
 |x::ns=>by
  change a∈oK x (sset ns)↔_;rw[xm,gJ (ns:=ns),ě]
theorem iW:∀(ns:.L),(sset ns).Pairwise (·<·)
 |[]=>.nil
 |x::ns=>Cn (iW ns)
theorem xv:∀{l m:.L},l.Pairwise (·<·)->m.Pairwise (·<·)->(∀a,a∈l↔a∈m)->l=m
 |[],[],_,_,_=>rfl
 |[],y::m,_,_,h=>absurd ((h y).mpr (Ġ ..)) .c
 |x::l,[],_,_,h=>absurd ((h x).mp (Ġ ..)) .c
 |x::l,y::m,h1,h2,h=>by
  let⟨b,c⟩:=aeN.mp h1;let⟨b1,b2⟩:=aeN.mp h2
  let e:x=y:=by
   obtain z|z:=ě.mp ((h x).mp (Ġ ..))
   .show z
   .obtain q|q:=ě.mp ((h y).mpr (Ġ ..))
    .show q.symm
    .let:=b1 x z;let:=b y q;lia
  subst e;show congrArg (x::·) (xv c b2 λa=>#[λha=>?_,λha=>?_])
  .obtain z|z:=ě.mp ((h a).mp (Ě _ ha))
   .let:=b a ha;lia
   .show z
  .obtain z|z:=ě.mp ((h a).mpr (Ě _ ha))
   .let:=b1 a ha;lia
   .show z
def Nb{ns m r:.L}(h1:r.Perm m)(d:m.Nodup)(h2:r.Pairwise (·<=·))(e:∀a,a∈m↔a∈ns):r=sset ns:=by
 show xv ?_ (iW ns) λa=>by rw[h1.mem_iff,e,gJ]
 let c:r.Nodup:=h1.symm.nodup d
 show(List.Pairwise.and h2 c).imp λ{a b} q=>by
  let:=q.1;let:=q.2;lia
def Inv.grown{X:Cx}{ZB:List (Ç×ā)}{Y:St}{H:Hp}{s s':Æ}(I:Inv X ZB Y H s)(g:B7 s s'):Inv X ZB Y H s':=by
 let⟨h',a,d,tk,os⟩:=s';let⟨k,e1,e2⟩:=g;let J:=I.kept (h':=h') (t':=tk) k;simp only at e1 e2;subst e1 e2;show#[J.ok,J.os,J.bare,J.base,J.loc,J.cell,J.free,J.freeC,J.pin,J.hok,J.len]
theorem u6:∀{vs:List Å} {ns:.L},ñ vs ns->Vals (ns.map V.int) vs
 |_,_,.nil=>.nil
 |_,_,.cons n t h=>.cons #[t,rfl] (u6 h)
section
variable{X:Cx}{U:aM}{D:GD}{e:Ô}{b:Bool}{te:TE}
def C5{p1 p2 pos c:ï}(α:X.calm=Á)(B:Gl X "sorted")(E:X.mg "sorted"=none)(F:Gl X "set")(D:X.mg "set"=none)(ha:PE X e te)
  (L:Ã [e] X.env=(Â,Õ e X.env)::Ã [] X.env<|>zra) (p:Ã [.Call (.Name "set" p2) [e] [] c] X.env=(Â,Õ (.Call (.Name "set" p2) [e] [] c) X.env)::Ã [] X.env<|>zra)
  (G:(ç pos (Ã [] X.env)).any (·.1)=Â<|>zra) (C:(ç c (Ã [] X.env)).any (·.1)=Â<|>zra):
  PE X (.Call (.Name "sorted" p1) [.Call (.Name "set" p2) [e] [] c] [] pos) (λY H Q=>te Y H λv H1=>∃a,∃ns:.L,v=.ref a/\cS X.K H1 a (ns.map V.int)/\ns.length<64/\∀l,H1 l=none->Q (.ref l) (upd H1 l (.lst ((sset ns).map V.int)))):=by
 intro ZB s Y H Q I h
 let inner:Î .F X.A (Õ (.Call (.Name "set" p2) [e] [] c) X.env) (λu x=>∃(S:Ç) (H1:Hp) (ns:.L),u=.ref S/\Inv X ZB Y H1 x/\sO X.prog X.w (vK X.w) x.heap S (met (λi=>ns.getD i 0) ns.length)/\ns.length<64/\∀l,H1 l=none->Q (.ref l) (upd H1 l (.lst ((sset ns).map V.int)))) X.xe s:=by
  show ae8 (ja I F D PyProof.Rows.boot_set ?_ .a .a);show aeM (cH (aB ha aW L c ZB s Y H (λxs H1=>match xs with|[v]=>∃a,∃ns:.L,v=.ref a/\cS X.K H1 a (ns.map V.int)/\ns.length<64/\∀l,H1 l=none->Q (.ref l) (upd H1 l (.lst ((sset ns).map V.int)))|_=>False) I h) λus x ⟨xs,H1,n,r1,J⟩=>?_) L C;cases r1 with
  |nil=>show J.elim
  |@cons v u vs us R y =>
   cases y with
   |cons _ _=>show J.elim
   |nil =>
    let⟨a,ns,rfl,T,d,q⟩:=J;cases R;let⟨Y0,y,pl,_⟩:=n.list T;let hi:=intsAre_of y;let N:Y0.length=ns.length:=by rw[<-y.length,ą]
    show Jf (items:=Y0.toArray) (ns:=ns) (n.ok.hd α) pl.isList ↑hi (by rw[ŀ,N];show Ś (Nat.add_lt_add_right d 1) .a) λh' tk g k=>?_;rw[(by rw[ŀ,N]:Y0.toArray.size=ns.length)] at g;show#[_,H1,ns,rfl,n.kept k,g,d,q]
 show ae8 (ja I B E PyProof.Rows.boot_sorted ?_ .a .a);show ag0 ?_ p G;rw[p];show π (cH inner λu x ⟨S,H1,ns,e,n,g,d,q⟩=>ώ ?_);subst e;show Bs (n.ok.hd α) g (rY _ _) (Η (u7 _ _) d) λf vs m z gr ia P W=>?_
 let Γ:z=sset ns:=Nb P (rY _ _) W λa=>by
  rw[Gq];constructor
  .rintro⟨j,t,rfl⟩;rw[ċ,Đ t];show aeX t
  .intro ha;let⟨j,t,e⟩:=aeP.mp ha;show#[j,t,by rwa[ċ,Đ t]]
 subst Γ;let O:=Inv.grown n gr
 let lo:((sset ns).map V.int).length<=sizeLine:=by
  rw[ą,P.length_eq];show ĭ (u7 _ _) (ĭ (ŋ d) .a)
 let r:∀b o,f.heap.get? b=À o->b≠f.heap.objs.size:=λb o e=>ĸ (ĕ e)
 let kp:∀b o,f.heap.get? b=À o->(sortedHeap (f.heap.push (æ "list" vs.toArray 0)) f.heap.objs.size vs m).get? b=À o:=λb o e=>by
  unfold sortedHeap;rw[(Ζ _ _ _).2 b (r b o e)];show Ī _ (Ī _ ?_);rw[(Ζ _ _ _).2 b (r b o e)];show Ī _ e
 obtain⟨c1,Z⟩:∃c1,(((f.heap.push (æ "list" vs.toArray 0)).update f.heap.objs.size (Ú λ_=>#[])).get? f.heap.objs.size)=À (æ "list" #[] c1):=#[_,agn (ŏ _ rfl) (λ_=>#[])];let σ:=agn (Ī (æ "list" #[] 0) (Ī (æ "tuple" vs.toArray 0) Z)) (λ_=>m);show#[.ref f.heap.objs.size,_,O.laid (t':=f.toks) (o:=.lst ((sset ns).map V.int)) kp (ú _) #[lo,m.toList,_,u6 ia,σ],rfl,q _ (O.hok.fresh (ú _))]
def yQ{ns:.L}{p1 p2 pos c:ï}(z:X.calm=Á)(j:Gl X "sorted")(f:X.mg "sorted"=none)(g:Gl X "set")(p:X.mg "set"=none)(ha:E X U e b ns)(B:ns.length<64)
  (y:Ã [e] X.env=(Â,Õ e X.env)::Ã [] X.env<|>zra) (o:Ã [.Call (.Name "set" p2) [e] [] c] X.env=(Â,Õ (.Call (.Name "set" p2) [e] [] c) X.env)::Ã [] X.env<|>zra)
  (i:(ç pos (Ã [] X.env)).any (·.1)=Â<|>zra) (k:(ç c (Ã [] X.env)).any (·.1)=Â<|>zra):
  E X U (.Call (.Name "sorted" p1) [.Call (.Name "set" p2) [e] [] c] [] pos) Á (sset ns):=by
 stop
  show aK (C5 z j f g p ha y o i k) λY H Q ⟨H0,F,O,S,q⟩=>#[H0,F,O,S,λv H1 h A=>by
    let⟨a,vs,e,s,n,r⟩:=A;rw[oV r] at s;show#[a,ns,by rw[e],(au _ _).seq s,B,λl d=>?_];let⟨w,t⟩:=bS (xs:=(sset ns).map V.int) (S.go h) d;show q _ _ (h.trans w) #[l,_,rfl,cS.of t,Nf.wk (b:=Á) ((S.go h).fL d) t,?_];generalize sset ns=m
    induction m with
    |nil=>show .nil
    |cons x m u=>show .cons rfl u]
end
open PySem PySem.Spec PyProof.Rows
section
variable{X:Cx}{U:aM}{D:GD}{M β γ:Type}[Py M][Py β][Py γ]{e e1 e2:Ô}{b b1 b2:Bool}{pos p:ï}{rest st:List Ð}
def E5{i:Int}{xs:.L}:CV X .NotIn i xs (!decide (i∈xs)):=#[_,zr,λN N' H v w Q h1 h2 q=>by
 let⟨p,vs,rfl,a,n,r⟩:=h2;cases h1;show#[p,vs,rfl,.inl a,rfl,?_,?_]
 .rw[rO r];simp[pU]
 .rwa[rO r,BQ]]
end
end L2.EP
namespace Q
variable{a p b c x k q y s r d e α m v u:Int}{l L:.L}{n j i B:Nat}{w:List (Int×Int)}{A F:Tb}
theorem wU(f:Int->Bool):∀(xs ys:.L),mZ (xs++ys) f=(mZ xs f==mZ ys f)
 |[],ys=>by rw[ag1,nW];cases mZ ys f<;>rfl
 |x::xs,ys=>by
  rw[agU,cK,cK,wU f xs ys];generalize f x=a;generalize mZ xs f=b;generalize mZ ys f=c;revert a b c;decide
def qv(p:Int):.L->Bool
 |[]=>Á
 |a::r=>mZ r (λb=>aq a b p)==qv p r
def Ih(p:Int):.L->Nat
 |[]=>0
 |a::r=>(r.filter λb=>!aq a b p).length+Ih p r
theorem EH(p:Int):∀row:.L,decide (Ih p row%2=0)=qv p row
 |[]=>rfl
 |a::r=>by
  let c:=EH p r;let e:mZ r (λb=>aq a b p)=decide ((r.filter λb=>!aq a b p).length%2=0):=rfl;rw[qv,Ih,e,<-c];generalize (r.filter λb=>!aq a b p).length=m;generalize Ih p r=n;by_cases h1:m%2=0<;>by_cases h2:n%2=0
  .let:(m+n)%2=0:=by lia
   simp[h1,h2,this]
  .let:¬(m+n)%2=0:=by lia
   simp[h1,h2,this]
  .let:¬(m+n)%2=0:=by lia
   simp[h1,h2,this]
  .let:(m+n)%2=0:=by lia
   simp[h1,h2,this]
theorem Ek{p:Int}(hp:aT p=Á)(h2:p≠2):∀{row:.L},(∀n∈row,¬p∣n)->qv p row=Á
 |[],_=>rfl
 |a::r,h=>by
  rw[qv,Ek hp h2 λn d=>h n (Ě _ d),uP λb c=>iK hp h2 (h a Ġ) (h b (Ě _ c))];rfl
theorem rQ:∀{L α:.L},L.Nodup->(∀x∈L,x∈α)->L.length<=α.length
 |[],α,_,_=>Ņ _
 |x::L,α,f,h=>by
  let⟨d,e⟩:=aeB.mp f;let b:=h x Ġ;let c:=rQ (α:=α.erase x) e λy a=>(ag4 (by rintro rfl;show d a)).mpr (h y (Ě _ a));let g:0<α.length:=List.length_pos_of_mem b;rw[List.length_erase_of_mem b] at c;rw[ŭ];lia
def W2(c:Int)(h:p∣x):p∣c*x:=Ĺ h #[c,ī _ _]
noncomputable def Mw:.L:=[3,5,7,11,13]
def NB(hp:aT p=Á)(h:bK a p=1):∃r t:Int,r*r=a+p*t:=by
 cases b:AK a p with
 |none=>rw[wM.mp b] at h;cases h
 |some r =>
  let⟨_,t,c⟩:=FD hp b;show#[r,t,.b]
def To(hp:aT p=Á)(ha:¬p∣a)(c:¬p∣b):¬p∣a*b:=λz=>(euclid hp z).elim ha c
noncomputable def Q6:.L:=[2,3,5,7,11,13]
noncomputable def V3(p:Int):.L:=if p=3 then [1] else if p=5 then [1,4] else if p=7 then [1,2,4] else if p=11 then [1,3,4,5,9] else [1,3,4,9,10,12]
def Uh:∀p∈([3,5,7,11,13]:List Nat),∀r∈Ø p,(bK (r:Int) (p:Int)=1↔(r:Int)∈V3 (p:Int)):=by decide +kernel
def R_(hp:p∈Mw):bK k p=1↔k%p∈V3 p:=by
 let b:↥p∈([3,5,7,11,13]:List Nat):=by
  simp only[Mw,ě,ğ,adM] at hp;obtain rfl|rfl|rfl|rfl|rfl:=hp<;>decide
 let a:0<p:=by
  simp only[Mw,ě,ğ,adM] at hp;lia
 let h1:=ť k (Int.ne_of_gt a);let h2:=Ŧ k a;let:=Uh ↥p b ↥(k%p) (aeh.mpr .b);rwa[(.b:((↥(k%p):Nat):Int)=k%p),(.b:((↥p:Nat):Int)=p),zE] at this
noncomputable def de(s:Int)(w:List (Int×Int)):Int:=(Q6.zip w).foldl (λa u=>if u.2.1=1 then a*u.1 else a) s
structure GW(s:Int)(w:List (Int×Int)):Prop where
 sg:s=1\/s=-1
 len:w.length=6
 a:∀j,j<6->(w.getD j (0,1)).1=0\/(w.getD j (0,1)).1=1
 u2:(w.getD 0 (0,1)).2∈[(1:Int),3,5,7]
 u:∀j,1<=j->j<6->(w.getD j (0,1)).2=1\/(w.getD j (0,1)).2=-1
noncomputable def bits:List .L:=(Ø 64).map fun(m:Nat)=>[(m:Int)%2,(m:Int)/2%2,(m:Int)/4%2,(m:Int)/8%2,(m:Int)/16%2,(m:Int)/32%2]
def MM(s:Int)(a:.L):Int:=(Q6.zip a).foldl (λb u=>if u.2=1 then b*u.1 else b) s
noncomputable def Dn(k p a:Int):Int:=if a=1 then k/p else k
def RM:∀s∈[(1:Int),-1],∀a∈bits,MM s a≠0/\(-30030<=MM s a/\MM s a<=30030)/\(0<MM s a↔s=1)/\∀j∈Ø 6,((a.getD j 0=1->MM s a/Q6.getD j 1*Q6.getD j 1=MM s a)/\Dn (MM s a) (Q6.getD j 1) (a.getD j 0)%Q6.getD j 1≠0):=by decide +kernel
def MH:∀e∈[(0:Int),1],∀b∈[(0:Int),1],∀c∈[(0:Int),1],∀d∈[(0:Int),1],∀a∈[(0:Int),1],∀f∈[(0:Int),1],[e,b,c,d,a,f]∈bits:=by decide +kernel
def six{M:Type}{w:List M}(h:w.length=6):∃a b c d e f,w=[a,b,c,d,e,f]:=by
 match w,h with
 |[a,b,c,d,e,f],_=>show#[a,b,c,d,e,f,rfl]
def KP(h:w.length=6):de s w=MM s (w.map (·.1)):=by
 let⟨a,b,c,d,e,f,rfl⟩:=six h;rfl
def GW.bits{s:Int}{w:List (Int×Int)}(h:GW s w):w.map (·.1)∈bits:=by
 let⟨a,b,c,d,e,f,rfl⟩:=six h.len;let z:=λj i=>h.a j i;let m:∀x:Int,x=0\/x=1->x∈[(0:Int),1]:=λx g=>by simpa using g
 show MH _ (m _ (z 0 .a)) _ (m _ (z 1 .a)) _ (m _ (z 2 .a)) _ (m _ (z 3 .a)) _ (m _ (z 4 .a)) _ (m _ (z 5 .a))
def GW.st(h:GW s w):de s w≠0/\(-30030<=de s w/\de s w<=30030)/\(0<de s w↔s=1)/\∀j,j<6->(((w.getD j (0,1)).1=1->de s w/Q6.getD j 1*Q6.getD j 1=de s w)/\¬Q6.getD j 1∣Dn (de s w) (Q6.getD j 1) (w.getD j (0,1)).1):=by
 let c:s∈[(1:Int),-1]:=by simpa using h.sg
 let⟨h1,h2,b,a⟩:=RM s c _ h.bits;rw[<-KP h.len] at h1 h2 b a;show#[h1,h2,b,λj d=>?_];let:=a j (aeh.mpr d)
 let e:(w.map (·.1)).getD j 0=(w.getD j (0,1)).1:=by
  let f:=h.len;rw[ċ,ċ,Ĵ,Đ .b];rfl
 rw[e] at this;show#[this.1,λz=>this.2 (aex z)]
def l6:∀j,j<6->aT (Q6.getD j 1)=Á:=λj a=>vZ _ (by
 let:j=0\/j=1\/j=2\/j=3\/j=4\/j=5:=by lia
 obtain rfl|rfl|rfl|rfl|rfl|rfl:=this<;>decide)
def V8(q:Int):Prop:=∀j,j<6->¬Q6.getD j 1∣q
def GX(a:aT q=Á)(h:17<=q):V8 q:=λj b z=>by
 let:=bq (l6 j b) a z;let:j=0\/j=1\/j=2\/j=3\/j=4\/j=5:=by lia
 obtain rfl|rfl|rfl|rfl|rfl|rfl:=this<;>(simp[Q6] at *;lia)
def P5(h:GW s w)(g:V8 q)(d:j<6):a9 (de s w*q) (Q6.getD j 1)=((w.getD j (0,1)).1,Dn (de s w) (Q6.getD j 1) (w.getD j (0,1)).1*q)/\¬Q6.getD j 1∣Dn (de s w) (Q6.getD j 1) (w.getD j (0,1)).1*q:=by
 let⟨_,_,_,f⟩:=h.st;let⟨e1,e2⟩:=f j d;let hp:=l6 j d;let b:=az hp;let c:¬Q6.getD j 1∣Dn (de s w) (Q6.getD j 1) (w.getD j (0,1)).1*q:=λz=>(euclid hp z).elim e2 (g j d);show#[?_,c];obtain z|z:=h.a j d
 .let e:Dn (de s w) (Q6.getD j 1) (w.getD j (0,1)).1=de s w:=by unfold Dn;rw[ac2 .b]
  rw[e] at c ⊢;rw[rg b c,z]
 .let e:Dn (de s w) (Q6.getD j 1) (w.getD j (0,1)).1=de s w/Q6.getD j 1:=by unfold Dn;rw[ac6 z]
  let e3:=e1 z;rw[e] at c ⊢;let:=u_ (k:=de s w/Q6.getD j 1*q) (v:=1) b c;rw[Int.pow_one,(by grind:de s w/Q6.getD j 1*q*Q6.getD j 1=(de s w/Q6.getD j 1*Q6.getD j 1)*q),e3] at this;rw[this,z];rfl
def Fc(k s:Int)(w:List (Int×Int)):Bool:=decide ((if 0<k then 1 else -1)=s)&&(Q6.zip w).all λu=>decide (cls k u.1=u.2)
noncomputable def Tr(k p:Int):Int:=if k%p=0 then k/p else k
def CZ:∀j,j<5->Mw.getD j 1=Q6.getD (j+1) 1/\Mw.getD j 1∈Mw/\Mw.getD j 1≠2:=λj a=>by
 let:j=0\/j=1\/j=2\/j=3\/j=4:=by lia
 obtain rfl|rfl|rfl|rfl|rfl:=this<;>decide
def C6(h:GW s w)(i:V8 q)(b:j<6):Tr (de s w*q) (Q6.getD j 1)=Dn (de s w) (Q6.getD j 1) (w.getD j (0,1)).1*q:=by
 let⟨_,d⟩:=P5 h i b;let⟨_,_,_,f⟩:=h.st;let⟨e1,_⟩:=f j b;let g:=az (l6 j b);unfold Tr;obtain z|z:=h.a j b
 .let e:Dn (de s w) (Q6.getD j 1) (w.getD j (0,1)).1=de s w:=by unfold Dn;rw[ac2 .b]
  rw[e] at d ⊢;rw[ac2 λc=>d (Ŷ c)]
 .let e:Dn (de s w) (Q6.getD j 1) (w.getD j (0,1)).1=de s w/Q6.getD j 1:=by unfold Dn;rw[ac6 z]
  let e3:=e1 z;rw[e];generalize de s w/Q6.getD j 1=m at *;rw[<-e3,ac6 (aex #[m*q,by grind]),(by grind:m*Q6.getD j 1*q=(m*q)*Q6.getD j 1),Int.mul_ediv_cancel _ .b]
def Fe(i:w.length=6):Fc k s w=Á↔(if 0<k then (1:Int) else -1)=s/\∀j,j<6->cls k (Q6.getD j 1)=w.getD j (0,1):=by
 let⟨a,b,c,d,e,f,rfl⟩:=six i;unfold Fc;rw[ź,afo];show and_congr Iff.rfl ?_;let:(Q6.zip [a,b,c,d,e,f])=[(2,a),(3,b),(5,c),(7,d),(11,e),(13,f)]:=rfl;rw[this];simp only[aid,List.all_nil,ź,afo,and_true];constructor
 .rintro⟨l,h1,h2,n,g,m⟩ j o;let:j=0\/j=1\/j=2\/j=3\/j=4\/j=5:=by lia
  obtain rfl|rfl|rfl|rfl|rfl|rfl:=this
  .show l
  .show h1
  .show h2
  .show n
  .show g
  .show m
 .intro h;show#[h 0 .a,h 1 .a,h 2 .a,h 3 .a,h 4 .a,h 5 .a]
def OH(h:GW s w)(f:V8 q)(g:0<q):Fc (de s w*q) s w=Á↔Tr (de s w*q) 2%8=(w.getD 0 (0,1)).2/\∀j,j<5->bK (Tr (de s w*q) (Mw.getD j 1)) (Mw.getD j 1)=(w.getD (j+1) (0,1)).2:=by
 let⟨l,_,d,_⟩:=h.st;rw[Fe h.len]
 let i:(if 0<de s w*q then (1:Int) else -1)=s:=by
  obtain z|z:=h.sg
  .rw[ac6 (Ĥ (d.mpr z) g),z]
  .let:¬0<de s w:=λc=>by let:=d.mp c;lia
   let:de s w*q<0:=aer .b g;rw[ac2 .b,z]
 let ec:∀j,j<6->(cls (de s w*q) (Q6.getD j 1)=w.getD j (0,1)↔(if Q6.getD j 1=2 then Tr (de s w*q) (Q6.getD j 1)%8 else bK (Tr (de s w*q) (Q6.getD j 1)) (Q6.getD j 1))=(w.getD j (0,1)).2):=λj b=>by
  let⟨e1,_⟩:=P5 h f b;rw[C6 h f b];unfold cls;rw[e1];dsimp only;let k:(w.getD j (0,1)).1%2=(w.getD j (0,1)).1:=by obtain z|z:=h.a j b<;>rw[z]<;>decide
  rw[k];constructor
  .intro c;rw[<-c]
  .intro c;rw[c]
 constructor
 .rintro⟨_,c⟩;show#[?_,λj b=>?_]
  .let:=(ec 0 .a).mp (c 0 .a);show this
  .let⟨p1,p2,e⟩:=CZ j b;let:=(ec (j+1) .b).mp (c (j+1) .b);rwa[<-p1,ac2 e] at this
 .rintro⟨c0,c⟩;show#[i,λj b=>(ec j b).mpr ?_]
  match j,b with
  |0,_=>show c0
  |j+1,b =>
   let⟨p1,p2,e⟩:=CZ j .b;rw[<-p1,ac2 e];show c j .b
noncomputable def XM:List Nat:=[17,19,23,29,31,37,41,43,47,53,59,61,67,71,73,79,83,89,97,101,103,107,109,113,127,131,137,139,149,151,157,167,173,179,181,191,193,197,199,211,223,229,233,239,241,251,257,263,269,271,277,281,283,293,307,311,313,317,331,337,349,353,389,397,401,421,439,443,461,463,467,479,491,503,509,521,563,569,587,593,601,607,613,619,631,641,643,647,683,733,739,743,751,757,773,797,823,827,839,859,863,883,937,967,997,1009,1019,1031,1061,1171,1321,1361,1381,1483,1559,1609,1621,1723,1733,1873,1913,1931,2017,2521,2689,2699,3583,8089]
noncomputable def WH(q:Nat):Nat:=((Ø 46).find? λm=>decide (q<(2*m+3)*(2*m+3))).getD 0
def G8:∀q∈XM,yb q (WH q)=Á/\17<=q/\q%2=1/\q<=8089/\q<(2*WH q+3)*(2*WH q+3):=by decide +kernel
noncomputable def qm(q:Nat)(p:Int):Bool:=decide ((q:Int)%p∈V3 p)
def M6:∀c∈[1,3,5,7],∀a∈[Á,Â],∀e1∈[Á,Â],∀e2∈[Á,Â],∀e3∈[Á,Â],∀e4∈[Á,Â],(XM.any λq=>decide (q%8=c)&&(qm q 3==a)&&(qm q 5==e1)&&(qm q 7==e2)&&(qm q 11==e3)&&(qm q 13==e4))=Á:=by decide +kernel
def Yc(ha:a=1\/a=-1)(e:b=1\/b=-1)(d:c=1\/c=-1)(h:decide (b=1)=(decide (a=1)==decide (c=1))):a*b=c:=by
 obtain rfl|rfl:=ha<;>obtain rfl|rfl:=e<;>obtain rfl|rfl:=d<;>revert h<;>decide
def Wm(h:GW s w):∃q,aT q=Á/\17<=q/\q<=8089/\Fc (de s w*q) s w=Á:=by
 let l:∀{q:Nat} {x:Int},q%8=↥(x%8)->(q:Int)%8=x%8:=λh=>by lia
 let c:∀{x:Int},x%2=1->x%8=1\/x%8=3\/x%8=5\/x%8=7:=λh=>by lia
 obtain⟨m,n⟩:∃m:Nat->Int,∀j,m j=Dn (de s w) (Q6.getD j 1) (w.getD j (0,1)).1:=#[_,λ_=>rfl];let t:∀j,j<6->¬Q6.getD j 1∣m j:=λj p=>by rw[n];show(h.st.2.2.2 j p).2
 let r:m 0%2=1:=by
  let:=t 0 .a;simp[Q6] at this;lia
 let H:↥((m 0*(w.getD 0 (0,1)).2)%8)∈[1,3,5,7]:=by
  let d:=h.u2;simp only[ě,ğ,adM] at d ⊢;let o:=c r;rw[ϓ];obtain z|z|z|z:=d<;>obtain y|y|y|y:=o<;>rw[z,y]<;>decide
 let bl:∀b:Bool,b∈[Á,Â]:=by decide
 obtain⟨e,he⟩:∃e:Nat->Bool,∀j,e j=(decide (bK (m (j+1)) (Mw.getD j 1)=1)==decide ((w.getD (j+1) (0,1)).2=1)):=#[_,λ_=>rfl];let⟨q,J,v⟩:=ahM.mp (M6 _ H (e 0) (bl _) (e 1) (bl _) (e 2) (bl _) (e 3) (bl _) (e 4) (bl _));simp only[ź,afo,agy] at v;let⟨⟨⟨⟨⟨I,L⟩,D⟩,B⟩,A⟩,K⟩:=v;let⟨α,P,C,O,E⟩:=G8 q J;let hp:aT (q:Int)=Á:=jT α .b C E;let f:=GX hp .b;show#[q,hp,.b,.b,(OH h f .b).mpr #[?_,λj p=>?_]]
 .let:=C6 h f (.a:0<6);rw[<-n] at this;rw[show(2:Int)=Q6.getD 0 1 from rfl,this];let d:=h.u2;simp only[ě,ğ,adM] at d;let o:=c r;let g:=l I;rw[ϓ,g,ϓ (m 0) ((w.getD 0 (0,1)).2)];obtain z|z|z|z:=d<;>obtain y|y|y|y:=o<;>rw[z,y]<;>decide
 .let⟨p1,p2,N⟩:=CZ j p;let:=C6 h f (.b:j+1<6);rw[<-n] at this;rw[p1,this];let i:=l6 (j+1) .b;rw[gF i]
  let a:qm q (Q6.getD (j+1) 1)=e j:=by
   let:j=0\/j=1\/j=2\/j=3\/j=4:=by lia
   obtain rfl|rfl|rfl|rfl|rfl:=this
   .show L
   .show D
   .show B
   .show A
   .show K
  rw[he,p1] at a;unfold qm at a;rw[p1] at p2;let G:=R_ (k:=(q:Int)) p2;let F:decide ((q:Int)%Q6.getD (j+1) 1∈V3 (Q6.getD (j+1) 1))=decide (bK (q:Int) (Q6.getD (j+1) 1)=1):=agP.mpr G.symm;rw[F] at a;show Yc (cE (t (j+1) .b)) (cE (f (j+1) .b)) (h.u (j+1) .b .b) a
def cast_inj(h:(a:Rat)=(b:Rat)):a=b:=ag9.mp h
noncomputable def Tf(T:Tb)(i j:Nat):Rat:=val ((T.getD i []).getD j (0,1))
def MR{u:Fr}{L:Int}(c:dc u)(b:u.2∣L):((u.1*L.fdiv u.2:Int):Rat)=(L:Rat)*val u:=by
 let⟨q,e⟩:=b;let a:=c.ne;rw[e,ad8 _ a];unfold val;rw[af8]
 push_cast
 let h1:(u.2:Rat)≠0:=λz=>a (cast_inj (by rw[z];rfl));let h2:(u.2:Rat)*(u.2:Rat)⁻¹=1:=afC _ h1;rw[ahj];let:(u.2:Rat)*q*(u.1*(u.2:Rat)⁻¹)=u.1*q*((u.2:Rat)*(u.2:Rat)⁻¹):=by grind
 rw[this,h2];grind
def Ri{u:Fr}{P Q:Int}(b:dc u)(a:Q≠0)(e:val u=(P:Rat)*(Q:Rat)⁻¹):u.1.natAbs<=P.natAbs/\u.2.natAbs<=Q.natAbs:=by
 let e2:u=fr P Q:=val_inj b (nU a) (by rwa[ze a,af8,ahj]);rw[e2];show#[qN a,qr a]
def kE{B:Tb}(a:Sq n A)(b:Sq n B)(hi:i<n)(e:j<n):Tf (iL A B) i j=sN (λm=>Tf A i m*Tf B m j) n:=by
 unfold Tf;let c:=b.col (j:=(j:Int)) .b .b;rw[Ap a b hi e,JL (a.row _ (lq a hi)) c.1 (a.low _ (lq a hi)) c.2];show fA n λm d=>by rw[rJ b d,Ï]
def Aw{T:Tb}(h:Sq n T)(hi:i<n)(a:j<n):Tf (n_ T) i j=Tf T j i:=by
 unfold Tf;rw[Fi h hi a]
def DF{B:Tb}(a:Sq n A)(b:Sq n B)(h:∀i,i<n->∀j,j<n->Tf A i j=Tf B i j):A=B :=
 zR a b λi j hi c=>val_inj (qB (a.low _ (lq a hi)) j) (qB (b.low _ (lq b hi)) j) (h i hi j c)
def rL{B C:Tb}(c:Sq n A)(a:Sq n B)(b:Sq n C):iL (iL A B) C=iL A (iL B C):=by
 show DF ((c.iL a).iL b) (c.iL (a.iL b)) λi hi j d=>?_;rw[kE (c.iL a) b hi d,kE c (a.iL b) hi d];rw[fA (g:=λm=>sN (λk=>Tf A i k*(Tf B k m*Tf C m j)) n) n (λm e=>by rw[kE c a hi e,<-MW];show fA n λk _=>by grind),Ff];show fA n λk f=>by rw[kE a b f d,<-Ah]
def OC{B:Tb}(a:Sq n A)(b:Sq n B):n_ (iL A B)=iL (n_ B) (n_ A):=by
 show DF (a.iL b).n_ (b.n_.iL a.n_) λi hi j c=>?_;rw[Aw (a.iL b) hi c,kE a b c hi,kE b.n_ a.n_ hi c];show fA n λm d=>by rw[Aw b hi d,Aw a d c];grind
noncomputable def mh(F T:Tb):Tb:=iL (n_ T) (iL F T)
def Rf{T:Tb}(b:Sq n F)(a:Sq n T):Sq n (mh F T):=a.n_.iL (b.iL a)
def MN{T Γ:Tb}(c:Sq n F)(a:Sq n T)(b:Sq n Γ):mh (mh F T) Γ=mh F (iL T Γ):=by
 unfold mh;rw[OC a b,rL b.n_ a.n_ (c.iL (a.iL b)),rL a.n_ (c.iL a) b,rL c a b]
def Rz(n:Nat):n_ (uU n)=uU n:=zR (g_ n).n_ (g_ n) λi j hi a=>by
 rw[Fi (g_ n) hi a,qt hi,qt a,ċ,ċ,jz hi,jz a];by_cases e:(i:Int)=j
 .rw[ac6 e,ac6 e.symm]
 .rw[ac2 e,ac2 λz=>e z.symm]
def Rx(a:Sq n F):mh F (uU n)=F:=by
 unfold mh;rw[Rz,Sa a,QQ a]
def Ov(α:Int)(B:Nat)(u:Fr):Prop:=∃P:Int,P.natAbs<=B/\val u*(α:Rat)=(P:Rat)
def Ov.mono{c:Nat}{u:Fr}(h:Ov α B u)(l:B<=c):Ov α c u:=by
 let⟨P,a,b⟩:=h;show#[P,ĭ a l,b]
def FO{u:Fr}(h:Ov α B u)(d:dc u)(m:1<=α):u.1.natAbs<=B/\u.2.natAbs<=α.natAbs/\u.2∣α:=by
 let⟨P,a,b⟩:=h;let c:α≠0:=by lia
 let g:(α:Rat)≠0:=λz=>c (cast_inj (by rw[z];rfl))
 let e:val u=(P:Rat)*(α:Rat)⁻¹:=by
  rw[<-b];let:=afC _ g;grind
 let⟨i,f⟩:=Ri d c e;let e2:u=fr P α:=val_inj d (nU c) (by rwa[ze c,af8,ahj]);show#[.b,f,?_];rw[e2];show#[_,by rw[ī];show(tx P α).symm]
theorem JZ{f:Nat->Rat}{α:Int}{B:Nat}:∀n,(∀i,i<n->∃P:Int,P.natAbs<=B/\f i*(α:Rat)=(P:Rat))->∃P:Int,P.natAbs<=n*B/\sN f n*(α:Rat)=(P:Rat)
 |0,_=>#[0,.c,by change(0:Rat)*_=_;rw[agx];rfl]
 |n+1,h=>by
  let⟨P,a,b⟩:=JZ n λi hi=>h i .b;let⟨Q,c,d⟩:=h n .b;show#[P+Q,?_,?_]
  .rw[Nat.add_mul,Ω];lia
  .change(sN f n+f n)*(α:Rat)=_
   push_cast
   rw[<-b,<-d];grind
def DU{x y:Rat}{N:Int}{C:Nat}(h:∃P:Int,P.natAbs<=B/\x*(α:Rat)=(P:Rat))(h':∃P:Int,P.natAbs<=C/\y*(N:Rat)=(P:Rat)):∃P:Int,P.natAbs<=B*C/\(x*y)*((α*N:Int):Rat)=(P:Rat):=by
 let⟨P,a,b⟩:=h;let⟨Q,c,d⟩:=h';show#[P*Q,by rw[ļ];show afa a c,?_]
 push_cast
 rw[<-b,<-d];grind
def Ot(α:Int)(B:Nat)(T:Tb):Prop:=∀r∈T,∀u∈r,Ov α B u
def Ot.at{T:Tb}(h:Ot α B T)(a:Sq n T)(hi:i<n)(b:j<n):∃P:Int,P.natAbs<=B/\Tf T i j*(α:Rat)=(P:Rat) :=
 h _ (lq a hi) _ (getD_mem (by rwa[a.row _ (lq a hi)]))
def Ot.of{T:Tb}(a:Sq n T)(h:∀i,i<n->∀j,j<n->∃P:Int,P.natAbs<=B/\Tf T i j*(α:Rat)=(P:Rat)):Ot α B T:=λr b u d=>by
 let⟨i,hi,e⟩:=aeP.mp b;let⟨j,c,e2⟩:=aeP.mp d;let:=h i (by rwa[<-a.len]) j (by rwa[<-a.row r b]);unfold Tf at this;rw[ċ (l:=T),Đ hi,e] at this;dsimp only[Option.getD] at this;rwa[ċ,Đ c,e2] at this
theorem Ot.iL{n:Nat}{α N:Int}{B C:Nat}{T Γ:Tb}(h:Ot α B T)(h':Ot N C Γ)(a:Sq n T)(b:Sq n Γ):Ot (α*N) (n*(B*C)) (iL T Γ):=Ot.of (a.iL b) λi hi j c=>by
 rw[kE a b hi c];show JZ n λm d=>DU (h.at a hi d) (h'.at b d c)
theorem y6{f:Nat->Rat}{i:Nat}:∀n,i<n->(∀j,j<n->j≠i->f j=0)->sN f n=f i
 |0,h,_=>absurd h (af0 i)
 |n+1,h,a=>by
  change sN f n+f n=f i;by_cases e:i=n
  .subst e;rw[fA (g:=λ_=>0) i (λj c=>a j .b .b),AL];grind
  .rw[y6 n .b (λj c b=>a j .b b),a n .b (λz=>e z.symm)];grind
def PZ(l:.L)(p N:Int):Prop:=∃xs:.L,xs.length=l.length/\N∣lr l xs/\∃x∈xs,¬p∣x
def D4(hp:aT p=Á)(ha:¬p∣a)(h:p∣a*x*x-a*y*y):p∣x-y\/p∣x+y:=by
 rw[(by grind:a*x*x-a*y*y=a*((x-y)*(x+y)))] at h;obtain h|h:=euclid hp h
 .show absurd h ha
 .show euclid hp h
noncomputable def half(p:Int):.L:=(Ø ↥((p+1)/2)).map fun(i:Nat)=>(i:Int)
def Jk(hp:2<=p):x∈half p↔0<=x/\x<(p+1)/2:=by
 unfold half;simp only[adn,aeh];constructor
 .rintro⟨i,h,rfl⟩;lia
 .rintro⟨h1,h2⟩;show#[↥x,.b,.b]
theorem nodup_map_on{f:Int->Int}:∀{l:.L},l.Nodup->(∀x∈l,∀y∈l,f x=f y->x=y)->(l.map f).Nodup
 |[],_,_=>ah7
 |a::l,c,g=>by
  rw[aeB] at c;rw[ř,aeB];show#[λh=>?_,nodup_map_on c.2 λx j y i=>g x (by simp[j]) y (by simp[i])];let⟨b,d,e⟩:=adn.mp h;let:=g b (by simp[d]) a .c e;subst this;show c.1 d
def xr(p:Int):(half p).Nodup:=by
 unfold half;rw[show(Ø ↥((p+1)/2)).map (fun(i:Nat)=>(i:Int))=((Ø ↥((p+1)/2)).map fun(i:Nat)=>(i:Int)) from rfl];show agT.map _ λa b h e=>h .b
def BB(hp:aT p=Á)(h2:p≠2)(g:¬p∣s)(d:x∈half p)(b:y∈half p)(e:(c+s*x*x)%p=(c+s*y*y)%p):x=y:=by
 let a:=az hp;let i:=iJ hp h2;rw[Jk a] at d b
 let f:p∣s*x*x-s*y*y:=by
  let:=Br.mp e
  rwa [(.b:c+s*x*x-(c+s*y*y)=s*x*x-s*y*y)] at this
 obtain h|h:=D4 hp g f
 .let:=cG h .b .b;lia
 .let:=cG h .b .b;lia
def JJ(c:Int)(hp:aT p=Á)(h2:p≠2)(ha:¬p∣a)(l:¬p∣b):∃x y:Int,p∣a*x*x+b*y*y-c:=by
 let o:=az hp;let C:=iJ hp h2;apply ģ;intro A;let g:¬p∣-b:=λz=>l (aeL.mp z);let t:((half p).map λx=>(0+a*x*x)%p).Nodup:=nodup_map_on (xr p) λx f y d e=>BB hp h2 ha f d e;let n:((half p).map λy=>(c+-b*y*y)%p).Nodup:=nodup_map_on (xr p) λx f y d e=>BB hp h2 g f d e
 let m:((half p).map (λx=>(0+a*x*x)%p)++(half p).map λy=>(c+-b*y*y)%p).Nodup:=by
  rw[agF];show#[t,n,λu j v q e=>A ?_];let⟨x,_,rfl⟩:=adn.mp j;let⟨y,_,rfl⟩:=adn.mp q;show#[x,y,?_];let:=Br.mp e
  rwa [(by grind:0+a*x*x-(c+-b*y*y)=a*x*x+b*y*y-c)] at this
 let s:=rQ m (α:=(Ø ↥p).map fun(i:Nat)=>(i:Int)) λu j=>by
  let k:∃w,u=w%p:=by
   obtain h|h:=adQ.mp j
   .let⟨x,_,rfl⟩:=adn.mp h;show#[_,rfl]
   .let⟨x,_,rfl⟩:=adn.mp h;show#[_,rfl]
  let⟨w,rfl⟩:=k;let h1:=ť w (b:=p) .b;let B:=Ŧ w (b:=p) .b;show adn.mpr #[↥(w%p),aeh.mpr .b,.b]
 let r:(half p).length=↥((p+1)/2):=by unfold half;simp
 simp only[ų,ą,afH,r] at s;lia
def Gi(xs:.L):lr [] xs=0:=by cases xs<;>rfl
theorem nM:∀l:.L,lr l (Ë l.length 0)=0
 |[]=>rfl
 |a::l=>by
  change a*0*0+lr l (Ë l.length 0)=0;rw[nM l];lia
theorem wQ:∀{l m xs ys:.L},l.length=xs.length->lr (l++m) (xs++ys)=lr l xs+lr m ys
 |[],_,[],_,_=>by rw[Gi];change lr _ _=_;simp
 |a::l,m,x::xs,ys,h=>by
  change a*x*x+lr (l++m) (xs++ys)=a*x*x+lr l xs+lr m ys;rw[wQ ↑h];lia
def PZ.more{N:Int}(m:.L)(h:PZ l p N):PZ (l++m) p N:=by
 let⟨xs,h1,h2,x,b,a⟩:=h;show#[xs++Ë m.length 0,by simp[h1],?_,x,by simp[b],a];rw[wQ h1.symm,nM];simpa using h2
def B_(hp:aT p=Á)(h2:p≠2):∀{l:.L},(∀a∈l,¬p∣a)->(PZ l p p↔3<=l.length\/∃a b,l=[a,b]/\bK (-a*b) p=1)
 |[],_=>by
  constructor
  .rintro⟨xs,h1,_,x,i,_⟩;cases xs with
   |nil=>cases i
   |cons _ _=>cases h1
  .rintro(h|⟨a,b,h,_⟩)
   .cases h
   .cases h
 |[a],g=>by
  constructor
  .rintro⟨xs,h1,i,x,m,f⟩
   match xs,h1 with
   |[y],_ =>
    let e:x=y:=by simpa using m
    subst e;let k:p∣a*x*x:=by simpa [lr] using i
    show absurd k (To hp (To hp (g a .c) f) f)
  .rintro(h|⟨c,b,h,_⟩)
   .show absurd h .c
   .cases h
 |[a,b],g=>by
  let ha:=g a .c;let s:=g b .c;constructor
  .rintro⟨xs,h1,i,x,m,f⟩
   match xs,h1 with
   |[y,z],_ =>
    let n:p∣a*y*y+b*z*z:=by simpa [lr] using i
    let j:¬p∣y/\¬p∣z:=by
     let E:p∣y->p∣z:=λB=>by
      let:p∣b*z*z:=by
       let:=agh n (W2 (a*y) B)
       rwa [(.b:a*y*y+b*z*z-a*y*y=b*z*z)] at this
      obtain w|w:=euclid hp this
      .show(euclid hp w).elim (λw=>absurd w s) id
      .show w
     let C:p∣z->p∣y:=λhz=>by
      let:p∣a*y*y:=by
       let:=agh n (W2 (b*z) hz)
       rwa [(.b:a*y*y+b*z*z-b*z*z=a*y*y)] at this
      obtain w|w:=euclid hp this
      .show(euclid hp w).elim (λw=>absurd w ha) id
      .show w
     obtain e|e:=ě.mp m
     .subst e;show#[f,λw=>f (C w)]
     .let e:x=z:=by simpa using e
      subst e;show#[λw=>f (E w),f]
    show .inr #[a,b,rfl,?_]
    let e:bK (-a*b*z*z) p=bK ((a*y)*(a*y)) p:=pJ (Br.mpr (by
     rw[(by grind:-a*b*z*z-a*y*(a*y)=-a*(a*y*y+b*z*z))]
     show W2 _ n))
    let o:¬p∣-a*b:=To hp (λw=>ha (aeL.mp w)) s;rw[gF hp,gF hp,gF hp (a*y)] at e;let q:=To hp ha j.1;obtain u|u:=cE o<;>obtain v|v:=cE j.2<;>obtain w|w:=cE q<;>rw[u,v,w] at e<;>first|show u|(exfalso;revert e;decide)
  .rintro(h|⟨c,d,h,A⟩)
   .show absurd h .c
   .cases h;let⟨r,t,D⟩:=NB hp A;show#[[r,a],rfl,?_,a,.c,ha];change p∣a*r*r+(b*a*a+0);rw[(by grind:a*r*r+(b*a*a+0)=a*(r*r+a*b)),D];show#[a*t,by grind]
 |a::b::c::l,g=>by
  show#[λ_=>.inl .c,λ_=>?_];let⟨x,y,F⟩:=JJ (-c) hp h2 (g a .c) (g b .c)
  let:PZ [a,b,c] p p:=by
   show#[[x,y,1],rfl,?_,1,.c,λw=>by let:=ĝ .a w;let:=az hp;lia];change p∣a*x*x+(b*y*y+(c*1*1+0))
   rwa [(.b:a*x*x+(b*y*y+(c*1*1+0))=a*x*x+b*y*y - -c)]
  show this.more l
noncomputable def sel(f:Int->Bool):.L->.L->.L
 |a::l,x::xs=>if f a then x::sel f l xs else sel f l xs
 |_,_=>[]
noncomputable def jt(p a:Int):Bool:=decide (a%p=0)
noncomputable def xA(p:Int)(l:.L):.L:=l.filter λa=>!jt p a
noncomputable def Aa(p:Int)(l:.L):.L:=(l.filter (jt p)).map (·/p)
def ON(z:jt p a=Á):xA p (a::l)=xA p l:=by unfold xA;show aed (p:=λa=>!jt p a) (by simp[z])
def OY(z:jt p a=Á):Aa p (a::l)=a/p::Aa p l:=by unfold Aa;rw[aee z];rfl
def OO(z:¬jt p a=Á):xA p (a::l)=a::xA p l:=by unfold xA;show aee (p:=λa=>!jt p a) (by simp[z])
def Pj(z:¬jt p a=Á):Aa p (a::l)=Aa p l:=by unfold Aa;rw[aed z]
def nO{f:Int->Bool}{xs:.L}(z:f a=Á):sel f (a::l) (x::xs)=x::sel f l xs:=ac6 z
def nE{f:Int->Bool}{xs:.L}(z:¬f a=Á):sel f (a::l) (x::xs)=sel f l xs:=ac2 z
theorem AM(f:Int->Bool):∀{l xs:.L},xs.length=l.length->(sel f l xs).length=(l.filter f).length
 |[],[],_=>rfl
 |a::l,x::xs,h=>by
  let b:=AM f (l:=l) (xs:=xs) ↑h;unfold sel;by_cases z:f a=Á
  .rw[ac6 z,aee z,ŭ,ŭ,b]
  .rw[ac2 z,aed z,b]
theorem nF{p:Int}(hp:2<=p):∀{l xs:.L},xs.length=l.length->lr l xs=lr (xA p l) (sel (λa=>!jt p a) l xs)+p*lr (Aa p l) (sel (jt p) l xs)
 |[],[],_=>by simp[lr,xA,Aa]
 |a::l,x::xs,h=>by
  let c:=nF hp (l:=l) (xs:=xs) ↑h;change a*x*x+lr l xs=_;rw[c];by_cases z:jt p a=Á
  .let b:¬(!jt p a)=Á:=by simp[z]
   let e:p*(a/p)=a:=afM (Ŷ (ad0 z));rw[ON z,OY z,nO z,nE (f:=λa=>!jt p a) b];change _=_+p*(a/p*x*x+_);rw[afz,(by grind:p*(a/p*x*x)=(p*(a/p))*x*x),e];lia
  .let b:(!jt p a)=Á:=by simp[z]
   rw[OO z,Pj z,nE z,nO (f:=λa=>!jt p a) b];change _=a*x*x+_+_;lia
theorem IU(f:Int->Bool):∀{l xs:.L} {Q:Int->Prop},xs.length=l.length->(∃x∈xs,Q x)->(∃x∈sel f l xs,Q x)\/∃x∈sel (λa=>!f a) l xs,Q x
 |[],[],_,_,⟨x,h,_⟩=>by cases h
 |a::l,x::xs,Q,h,he=>by
  let c:=IU f (l:=l) (xs:=xs) (Q:=Q) ↑h;rw[nK] at he;by_cases z:f a=Á
  .let b:¬(!f a)=Á:=by simp[z]
   rw[nO z,nE (f:=λa=>!f a) b,nK];obtain he|he:=he
   .show .inl (.inl he)
   .show(c he).imp .inr id
  .let b:(!f a)=Á:=by simp[z]
   rw[nE z,nO (f:=λa=>!f a) b,nK];obtain he|he:=he
   .show .inr (.inl he)
   .show(c he).imp id .inr
noncomputable def Jb(f:Int->Bool):.L->.L->.L->.L
 |a::l,ys,zs=>if f a then (match ys with|y::ys=>y::Jb f l ys zs|[]=>0::Jb f l [] zs) else (match zs with|z::zs=>z::Jb f l ys zs|[]=>0::Jb f l ys [])
 |[],_,_=>[]
theorem zN(f:Int->Bool):∀{l ys zs:.L},ys.length=(l.filter f).length->zs.length=(l.filter λa=>!f a).length->(Jb f l ys zs).length=l.length/\sel f l (Jb f l ys zs)=ys/\sel (λa=>!f a) l (Jb f l ys zs)=zs
 |[],ys,zs,h1,h2=>by
  let e1:ys=[]:=afr.mp h1;let e2:zs=[]:=afr.mp h2;subst e1;subst e2;show#[rfl,rfl,rfl]
 |a::l,ys,zs,h1,h2=>by
  by_cases z:f a=Á
  .let b:¬(!f a)=Á:=by simp[z]
   rw[aee z] at h1;rw[aed (p:=λa=>!f a) b] at h2
   match ys,h1 with
   |y::ys,h1 =>
    let⟨e,c,d⟩:=zN f (l:=l) (ys:=ys) (zs:=zs) ↑h1 h2;unfold Jb;rw[ac6 z];dsimp only;rw[nO z,nE (f:=λa=>!f a) b,c,d];show#[by simp[e],rfl,rfl]
  .let b:(!f a)=Á:=by simp[z]
   rw[aed z] at h1;rw[aee (p:=λa=>!f a) b] at h2
   match zs,h2 with
   |w::zs,h2 =>
    let⟨e,c,d⟩:=zN f (l:=l) (ys:=ys) (zs:=zs) h1 ↑h2;unfold Jb;rw[ac2 z];dsimp only;rw[nE z,nO (f:=λa=>!f a) b,c,d];show#[by simp[e],rfl,rfl]
theorem uH(f:Int->Bool):∀{l xs:.L} {x:Int},x∈sel f l xs->x∈xs
 |[],_,_,h=>by simp[sel] at h
 |_::_,[],_,h=>by simp[sel] at h
 |a::l,y::xs,x,h=>by
  unfold sel at h;split at h
  .obtain e|e:=ě.mp h
   .show ě.mpr (.inl e)
   .show ě.mpr (.inr (uH f e))
  .show ě.mpr (.inr (uH f h))
theorem FF{d:Int}:∀{l xs:.L},(∀x∈xs,d∣x)->d*d∣lr l xs
 |[],xs,_=>by rw[Gi];show afT _
 |_::_,[],_=>afT _
 |a::l,x::xs,h=>by
  change d*d∣a*x*x+lr l xs;let⟨t,rfl⟩:=h x .c;show ξ #[a*t*t,by grind] (FF λy b=>h y (by simp[b]))
theorem OW{p:Int}(hp:aT p=Á)(h2:p≠2):∀{l xs:.L} (r:Int),xs.length=l.length->(∀a∈l,¬p∣a)->p∣lr l xs-r->(∃x∈xs,¬p∣x)->∃ys:.L,ys.length=l.length/\p*p∣lr l ys-r/\∃y∈ys,¬p∣y
 |[],[],_,_,_,_,⟨x,h,_⟩=>by cases h
 |a::l,x::xs,r,k,m,s,he=>by
  let w:=az hp;by_cases f:p∣x
  .let g:∃y∈xs,¬p∣y:=by
    rw[nK] at he;show he.resolve_left λz=>z f
   let⟨ys,E,F,D⟩:=OW hp h2 (l:=l) (xs:=xs) (r-a*x*x) ↑k (λb n=>m b (by simp[n])) (by
    change p∣lr l xs-(r-a*x*x)
    rwa [(.b:lr l xs-(r-a*x*x)=(a*x*x+lr l xs)-r)]) g
   show#[x::ys,by simp[E],?_,?_]
   .change p*p∣a*x*x+lr l ys-r
    rwa [(.b:a*x*x+lr l ys-r=lr l ys-(r-a*x*x))]
   .let⟨y,A,j⟩:=D;show#[y,by simp[A],j]
  .-- x+p t: a (x+p t)^2=a x^2+2 a x p t+p^2 ..
   let⟨q,B⟩:=s;let i:¬p∣(2:Int):=λz=>h2 (bq hp bQ z);let j:¬p∣2*a*x:=To hp (To hp i (m a .c)) f
   obtain⟨u,v,d⟩:∃u v:Int,2*a*x*u=1+p*v:=by
    let o:=Io hp j;let⟨v,C⟩:=o;let c:↥(p-1)=↥(p-2)+1:=by lia
    show#[(2*a*x)^↥(p-2),v,?_];rw[c,ĥ] at C;let:2*a*x*(2*a*x)^↥(p-2)=(2*a*x)^↥(p-2)*(2*a*x):=ī _ _;lia
   show#[(x+p*(-(q*u)))::xs,↑k,?_,x+p*(-(q*u)),.c,λz=>f ?_]
   .change p*p∣a*(x+p*(-(q*u)))*(x+p*(-(q*u)))+lr l xs-r;let e:a*x*x+lr l xs-r=p*q:=B;show#[-(q*v)+a*(q*u)*(q*u),?_];let e2:a*(x+p*(-(q*u)))*(x+p*(-(q*u)))+lr l xs-r=(a*x*x+lr l xs-r)-p*q*(2*a*x*u)+p*p*(a*(q*u)*(q*u)):=by grind
    rw[e2,e,d];grind
   .let:=agh z #[-(q*u),rfl]
    rwa [(.b:x+p*(-(q*u))-p*(-(q*u))=x)] at this
def AV(hp:aT p=Á)(h2:p≠2):PZ l p (p*p)↔PZ (xA p l) p p\/PZ (Aa p l) p p:=by
 let c:=az hp
 let C:∀a∈xA p l,¬p∣a:=λa ha z=>by
  let:=(aeb.mp ha).2;simp only[jt,ahw,agA] at this;show this (aex z)
 let j:(Aa p l).length=(l.filter (jt p)).length:=by unfold Aa;rw[ą]
 constructor
 .rintro⟨xs,h1,b,f⟩;let s:=nF c h1;let A:=AM (λa=>!jt p a) h1;let v:=AM (jt p) h1;by_cases m:∃x∈sel (λa=>!jt p a) l xs,¬p∣x
  .show .inl #[_,A,?_,m];let:p∣lr l xs:=Ĺ #[p,rfl] b;rw[s] at this;let:=agh this #[lr (Aa p l) (sel (jt p) l xs),rfl]
   rwa [Int.add_sub_cancel] at this
  .show .inr #[_,v.trans j.symm,?_,?_]
   .let hz:∀x∈sel (λa=>!jt p a) l xs,p∣x:=λx n=>ģ λz=>m #[x,n,z];let B:=FF (l:=xA p l) hz;rw[s] at b;let r:=agh b B;rw[(.b:lr (xA p l) (sel (λa=>!jt p a) l xs)+p*lr (Aa p l) (sel (jt p) l xs)-lr (xA p l) (sel (λa=>!jt p a) l xs)=p*lr (Aa p l) (sel (jt p) l xs))] at r;show ahl .b r
   .show(IU (jt p) h1 f).resolve_right m
 .rintro(⟨ys,h1,b,f⟩|⟨zs,h1,b,f⟩)
  .let⟨g,E,w,D⟩:=OW hp h2 (l:=xA p l) (xs:=ys) 0 h1 C ↑b f
   let⟨d,h,i⟩:=zN (λa=>!jt p a) (l:=l) (ys:=g) (zs:=Ë (Aa p l).length 0) E (by
    rw[ah1,j];congr 2;funext a;simp)
   show#[_,d,?_,?_]
   .rw[nF c d,h]
    let:sel (jt p) l (Jb (λa=>!jt p a) l g (Ë (Aa p l).length 0))=Ë (Aa p l).length 0:=by
     let q:=i;rwa[(by funext a;simp:(λa=>!!jt p a)=jt p)] at q
    rw[this,nM];simpa using w
   .let⟨y,k,o⟩:=D;show#[y,uH _ (by rwa[h]),o]
  .let⟨d,h,i⟩:=zN (λa=>!jt p a) (l:=l) (ys:=Ë (xA p l).length 0) (zs:=zs) (by simp[xA]) (by
    rw[h1,j];congr 2;funext a;simp)
   let e:sel (jt p) l (Jb (λa=>!jt p a) l (Ë (xA p l).length 0) zs)=zs:=by
    let:=i;rwa[(by funext a;simp:(λa=>!!jt p a)=jt p)] at this
   show#[_,d,?_,?_]
   .rw[nF c d,h,e,nM];let⟨t,u⟩:=b;show#[t,by rw[u];grind]
   .let⟨y,k,o⟩:=f;show#[y,uH _ (by rwa[e]),o]
noncomputable def Qg(m:Int):List (Int×Int)->Bool
 |[]=>Á
 |[_]=>Â
 |[a,b]=>decide (cg (cg (0,m) a 3) b 3=(0,1))
 |[a,b,c]=>oe (cg (cg (0,m) a 3) c 3) (cg (cg (0,m) b 3) c 3) m
 |[a,b,c,d]=>!decide (cg (cg (cg a b 3) c 3) d 3=(0,1)) || oe (cg (cg (0,m) a 3) c 3) (cg (cg (0,m) b 3) c 3) m
 |_=>Á
noncomputable def V5(m:Int)(cs:List (Int×Int)):Bool:=match cs with
 |[a,b]=>decide (m*a.2*b.2=1)
 |_::_::_::_=>Á
 |_=>Â
noncomputable def Rj(m:Int)(cs:List (Int×Int)):Bool:=V5 m (cs.filter λc=>decide (c.1=0)) || V5 m (cs.filter λc=>decide (c.1=1))
def XW:∀m∈[(1:Int),-1],∀a∈CO,Qg m [a]=Rj m [a]:=by decide +kernel
def XQ:∀m∈[(1:Int),-1],∀a∈CO,∀b∈CO,Qg m [a,b]=Rj m [a,b]:=by decide +kernel
def XZ:∀m∈[(1:Int),-1],∀a∈CO,∀b∈CO,∀c∈CO,Qg m [a,b,c]=Rj m [a,b,c]:=by decide +kernel
def XX:∀m∈[(1:Int),-1],∀a∈CO,∀b∈CO,∀c∈CO,∀d∈CO,Qg m [a,b,c,d]=Rj m [a,b,c,d]:=by decide +kernel
def yK{cs:List (Int×Int)}(h:3<=cs.length):V5 m cs=Á:=by
 match cs,h with
 |_::_::_::_,_=>rfl
def L9{cs:List (Int×Int)}(h:∀c∈cs,c.1=0\/c.1=1):(cs.filter λc=>decide (c.1=0)).length+(cs.filter λc=>decide (c.1=1)).length=cs.length:=by
 induction cs with
 |nil=>rfl
 |cons c cs a =>
  let a:=a λd b=>h d (by simp[b]);obtain z|z:=h c .c
  .rw[aee (by simp[z]),aed (by simp[z])];simp only[ŭ];lia
  .rw[aed (by simp[z]),aee (by simp[z])];simp only[ŭ];lia
def Xt{c:Int×Int}(h:c∈CO):c.1=0\/c.1=1:=by
 revert c;decide
def RX(f:m∈[(1:Int),-1]):∀{cs:List (Int×Int)},(∀c∈cs,c∈CO)->1<=cs.length->Qg m cs=Rj m cs
 |[a],h,_=>XW m f a (h a .c)
 |[a,b],h,_=>XQ m f a (h a .c) b (h b .c)
 |[a,b,c],h,_=>XZ m f a (h a .c) b (h b .c) c (h c .c)
 |[a,b,c,d],h,_=>XX m f a (h a .c) b (h b .c) c (h c .c) d (h d .c)
 |a::b::c::d::e::l,h,_=>by
  let i:=L9 λc g=>Xt (h c g);change Á=_;unfold Rj;simp only[ŭ] at i;obtain z|z:=ags ((a::b::c::d::e::l).filter fun(c:Int×Int)=>decide (c.1=0)).length 3
  .rw[yK (cs:=(a::b::c::d::e::l).filter fun(c:Int×Int)=>decide (c.1=1)) .b,ain]
  .rw[yK z,Bool.true_or]
def M3(hp:aT p=Á):bK (-1) p∈[(1:Int),-1]:=vQ (az hp)
def pF(hp:aT p=Á)(h2:p≠2)(ha:a≠0):cls (-a) p=cg (0,bK (-1) p) (cls a p) 3:=by
 rw[(.b:-a=-1*a),bE hp .a ha,DZ hp,ac2 h2,b7 h2]
def MA(hp:aT p=Á)(h2:p≠2):∀{l:.L},(∀a∈l,a≠0)->dM l p=Qg (bK (-1) p) (l.map λa=>cls a p)
 |[],_=>by unfold dM Qg;let:=az hp;rw[ac2 .b];rfl
 |[a],_=>by let:=az hp;rw[E1 .b];rfl
 |[a,b],h=>by
  let:=az hp;let ha:=h a .c;let g:=h b .c;rw[Aq .b];change decide (cls (-a*b) p=(0,1))=decide (_=_);rw[bE hp .b g,pF hp h2 ha,b7 h2]
 |[a,b,c],h=>by
  let:=az hp;let ha:=h a .c;let g:=h b .c;let f:=h c .c;rw[eC .b];unfold yI;rw[bz .b h2,bE hp .b f,bE hp .b f,pF hp h2 ha,pF hp h2 g,b7 h2,b7 h2];rfl
 |[a,b,c,d],h=>by
  let:=az hp;let ha:=h a .c;let g:=h b .c;let f:=h c .c;let j:=h d .c;let i:=ä ha g;rw[rf .b];unfold yI;rw[bz .b h2,bE hp (a:=-a) .b f,bE hp (a:=-b) .b f,pF hp h2 ha,pF hp h2 g,b7 h2,b7 h2];change(!decide (cls (a*b*c*d) p=(0,1)) || _)=(!decide (_=_) || _);rw[bE hp (ä i f) j,bE hp i f,bE hp ha g,b7 h2,b7 h2,b7 h2]
 |a::b::c::d::e::l,_=>by
  let:=az hp;rw[wR .b .c];rfl
def On(p:Int)(l:.L):Prop:=∀a∈l,¬p*p∣a
def On.nz(h:On p l):∀a∈l,a≠0:=λa ha z=>h a ha (by rw[z];show afT _)
def PR(hp:aT p=Á)(h2:p≠2)(h:¬jt p a=Á):cls a p=(0,bK a p):=rj hp h2 λz=>h (ado (aex z))
def JB(hp:aT p=Á)(h2:p≠2)(h:jt p a=Á)(c:¬p*p∣a):cls a p=(1,bK (a/p) p)/\¬p∣a/p:=by
 let e:p*(a/p)=a:=afM (Ŷ (ad0 h));let b:¬p∣a/p:=fun⟨t,z⟩=>c #[t,by rw[<-e,z];grind];show#[?_,b];let:=JY hp h2 b
 rwa [e] at this
theorem KN{p:Int}(hp:aT p=Á)(h2:p≠2):∀{l:.L},On p l->((l.map λa=>cls a p).filter λc=>decide (c.1=0))=(xA p l).map λa=>((0:Int),bK a p)
 |[],_=>rfl
 |a::l,h=>by
  let d:=KN hp h2 (l:=l) λb f=>h b (by simp[f]);rw[ř];by_cases z:jt p a=Á
  .let e:=(JB hp h2 z (h a .c)).1;rw[ON z,aed (by rw[e];simp),d]
  .let e:=PR hp h2 z;rw[OO z,aee (by rw[e];simp),d,e,ř]
theorem Ik{p:Int}(hp:aT p=Á)(h2:p≠2):∀{l:.L},On p l->((l.map λa=>cls a p).filter λc=>decide (c.1=1))=(Aa p l).map λa=>((1:Int),bK a p)
 |[],_=>rfl
 |a::l,h=>by
  let d:=Ik hp h2 (l:=l) λb f=>h b (by simp[f]);rw[ř];by_cases z:jt p a=Á
  .let e:=(JB hp h2 z (h a .c)).1;rw[OY z,aee (by rw[e];simp),d,e,ř]
  .let e:=PR hp h2 z;rw[Pj z,aed (by rw[e];simp),d]
def Og:∀a∈xA p l,¬p∣a:=λa ha z=>by
 let:=(aeb.mp ha).2;simp only[jt,ahw,agA] at this;show this (aex z)
def Oa(h:On p l):∀a∈Aa p l,¬p∣a:=λa ha ⟨t,z⟩=>by
 let⟨b,c,rfl⟩:=adn.mp ha;let⟨h1,h2⟩:=aeb.mp c;let e:p*(b/p)=b:=afM (Ŷ (ad0 h2));show h b h1 #[t,by rw[<-e,z];grind]
def A0(hp:aT p=Á)(h2:p≠2)(h:∀a∈l,¬p∣a):PZ l p p↔V5 (bK (-1) p) (l.map λa=>(v,bK a p))=Á:=by
 rw[B_ hp h2 h]
 match l with
 |[]=>show#[λz=>by obtain z|⟨_,_,z,_⟩:=z;(· cases z);(· cases z),λz=>by cases z]
 |[a]=>show#[λz=>by obtain z|⟨_,_,z,_⟩:=z;(· show absurd z .c);(· cases z),λz=>by cases z]
 |[a,b] =>
  change _↔decide (bK (-1) p*bK a p*bK b p=1)=Á;rw[aeC,<-gF hp,<-gF hp];constructor
  .rintro(z|⟨c,d,z,q⟩)
   .show absurd z .c
   .cases z;rwa [(by grind:-1*a*b=-a*b)]
  .intro q;show .inr #[a,b,rfl,by rwa [(by grind:-a*b=-1*a*b)]]
 |a::b::c::l=>show#[λ_=>rfl,λ_=>.inl .c]
def Qo(hp:aT p=Á)(h2:p≠2)(h:On p l)(h1:1<=l.length):PZ l p (p*p)↔dM l p=Á:=by
 rw[AV hp h2,A0 (v:=0) hp h2 Og,A0 (v:=1) hp h2 (Oa h),MA hp h2 h.nz,RX (M3 hp) ?_ ↑h1]
 .unfold Rj;rw[KN hp h2 h,Ik hp h2 h,ahU]
 .intro c b;let⟨a,ha,rfl⟩:=adn.mp b;show dn (az hp) h2 (h.nz a ha)
def FW(l:.L):Option Int->Prop
 |none=>dM l 0=Á/\∀q,aT q=Á->dM l q=Á
 |some p=>dM l p=Â/\(p=0\/(aT p=Á/\dM l 0=Á/\∀q,aT q=Á->q<p->dM l q=Á))
def FW.uniq:∀r r',FW l r->FW l r'->r=r'
 |none,none,_,_=>rfl
 |none,À p,h,h'=>by
  let⟨h1,h2⟩:=h;let⟨c,d⟩:=h';obtain rfl|⟨d,_⟩:=d
  .rw[h1] at c;cases c
  .rw[h2 p d] at c;cases c
 |some p,none,h',h=>by
  let⟨h1,h2⟩:=h;let⟨c,d⟩:=h';obtain rfl|⟨d,_⟩:=d
  .rw[h1] at c;cases c
  .rw[h2 p d] at c;cases c
 |some p,À q,h,h'=>by
  let⟨h1,h2⟩:=h;let⟨c,d⟩:=h';obtain rfl|⟨h2,g,i⟩:=h2
  .obtain rfl|⟨d,f,e⟩:=d
   .rfl
   .rw[f] at h1;cases h1
  .obtain rfl|⟨d,f,e⟩:=d
   .rw[g] at c;cases c
   .let a:¬q<p:=λz=>by rw[i q d z] at c;cases c
    let b:¬p<q:=λz=>by rw[e p h2 z] at h1;cases h1
    rw[(.b:p=q)]
def xV(l:.L):Option Int:=ö (FW l)
def oN{r:Option Int}(h:FW l r):r=xV l:=sZ FW.uniq h
def J_(hp:aT p=Á)(h2:p≠2)(b:3<=l.length)(h:∀a∈l,¬p∣a):dM l p=Á:=by
 rw[<-Qo hp h2 (λa ha z=>h a ha (Ĺ #[p,rfl] z)) .b,AV hp h2];show .inl ?_
 let e:xA p l=l:=by
  unfold xA;rw[ahb];intro a ha;simp only[jt,ahw,agA];show λz=>h a ha (Ŷ z)
 rw[e,B_ hp h2 h];show .inl b
def Sk(hp:aT p=Á)(ha:a≠0)(c:b≠0)(e:r*r=-a*b):dM [a,b] p=Á:=by
 let:=az hp;rw[Aq .b,aeC,<-e]
 show RD hp λz=>by
  rw[z] at e;show ä (.b:-a≠0) c (by rw[<-e];rfl)
def Se(a b:Int):Prop:=(∃r,r*r=-a*b)\/∃q,aT q=Á/\q<=997/\dM [a,b] q=Â
def Sz(ha:a≠0)(i:b≠0)(hz:dM [a,b] 0=Á)(h:Se a b):(FW [a,b] none/\∃r,r*r=-a*b)\/∃p,FW [a,b] (À p)/\aT p=Á/\p<=997/\¬∃r,r*r=-a*b:=by
 by_cases d:∃r,r*r=-a*b
 .let⟨r,m⟩:=id d;show .inl #[#[hz,λq c=>Sk c ha i m],d]
 .let⟨q,s,o,t⟩:=h.resolve_left d
  let:∀n:Nat,∀q:Int,aT q=Á->q<=997->dM [a,b] q=Â->q<=n->∃p,FW [a,b] (À p)/\aT p=Á/\p<=997:=by
   intro n
   induction n with
   |zero=>intro q h1 _ _ h2;let:=az h1;lia
   |succ n l =>
    intro q h1 h2 j u;by_cases c:∃r,aT r=Á/\r<q/\dM [a,b] r=Â
    .let⟨r,e,f,k⟩:=c;show l r e .b k .b
    .show#[q,#[j,.inr #[h1,hz,λr e f=>ģ λz=>c #[r,e,f,↑z]]],h1,h2]
  let⟨p,p1,p2,g⟩:=this ↥q q s o t .b;show .inr #[p,p1,p2,g,d]
def J0(l:.L):FW l (xV l):=by
 let:∃r,FW l r:=by
  by_cases hz:dM l 0=Á
  .by_cases hp:∃p,aT p=Á/\dM l p=Â
   .let⟨p,hp,e⟩:=hp
    let:∀n:Nat,∀q:Int,aT q=Á->dM l q=Â->q<=n->∃p,FW l (À p):=by
     intro n
     induction n with
     |zero=>intro q h1 _ h2;let:=az h1;lia
     |succ n h =>
      intro q h1 f i;by_cases a:∃r,aT r=Á/\r<q/\dM l r=Â
      .let⟨r,c,d,g⟩:=a;show h r c g .b
      .show#[q,f,.inr #[h1,hz,λr c d=>ģ λz=>a #[r,c,d,↑z]]]
    let⟨r,b⟩:=this ↥p p hp e .b;show#[À r,b]
   .show#[none,hz,λq a=>ģ λz=>hp #[q,a,↑z]]
  .show#[À 0,↑hz,.inl rfl]
 let⟨r,b⟩:=this;rwa[<-oN b]
def uj(a b:Int):Prop:=∀p,Pl p->aq a b p=Á
def uj.swap(ha:a≠0)(c:b≠0)(h:uj a b):uj b a:=λp hp=>by
 rw[ba hp ha c];show h p hp
def Ls(hp:Pl p)(ha:a≠0)(h:r*r-a≠0):aq a (r*r-a) p=Á:=by
 by_cases b:r=0
 .subst b;let:=qC hp ha;rw[ś];show this
 .let h1:=Cf (x:=1) (y:=1) (w:=r*r) hp ha h (ä b b) (by simp only[Ċ];lia);rwa[<-ı,<-ı,jB hp ha b,eL hp ha h b] at h1
def uj.step(ha:a≠0)(i:b≠0)(g:c≠0)(f:s≠0)(h:uj a b)(e:r*r-a=b*c*(s*s)):uj a c:=λp hp=>by
 let d:b*c≠0:=ä i g;let h1:=Ls (r:=r) hp ha (by rw[e];show ä d (ä f f));rw[e,<-ı,eL hp ha d f,aS hp ha i g,h p hp] at h1;cases q:aq a c p with
 |true=>rfl
 |false=>rw[q] at h1;cases h1
def KI(hp:Pl p)(ha:a≠0)(i:b≠0)(h:c≠0):yI a b c p=aq (-a*b) (-a*c) p:=by
 let d:-a*c≠0:=ä (by first|lia|omega) h;let f:-a*b≠0:=ä (by first|lia|omega) i;let g:-b*c≠0:=ä (by first|lia|omega) h
 let h1:aq (-a*c) ((-b*c)*(-a*b)) p=Á:=by
  let e:(-b*c)*(-a*b)=(0-(-a*c))*b*b:=by grind
  rw[e,eL hp d (by first|lia|omega) i];show qC hp d
 rw[aS hp d g f] at h1;unfold yI;rw[ba hp d f];cases q:aq (-a*c) (-b*c) p<;>cases j:aq (-a*c) (-a*b) p<;>rw[q,j] at h1<;>first|rfl|cases h1
def HH{A B:Int}(hp:Pl p)(c:A≠0)(h:B≠0)(e:u≠0)(g:v≠0)(f:a=A*(u*u))(d:b=B*(v*v)):aq a b p=aq A B p:=by
 rw[f,d,<-ı,<-ı,jB hp c e,eL hp c h g]
def SJ(hp:aT p=Á)(ha:a≠0)(d:¬p*p∣b)(e:p∣b)(h:aq a b p=Á):bK a p≠-1:=by
 by_cases h2:p=2
 .subst h2;intro z;unfold bK at z;split at z<;>lia
 .let p2:=az hp;by_cases c:p∣a
  .rw[eK c];decide
  .intro z;rw[bz .b h2,cy p2 c,ac2 h2,z,(JB hp h2 (by simpa [jt] using aex e) d).1] at h;simp[oe] at h
theorem z_{n:Int}:∀(k:Nat) (m:Int),m.natAbs<=k->0<m->eF m->(∀q,aT q=Á->q∣m->q∣n)->m∣n
 |0,m,p,g,_,_=>by lia
 |k+1,m,p,g,e,h=>by
  by_cases h1:m=1
  .rw[h1];show Int.one_dvd n
  .let⟨q,d,⟨a,rfl⟩⟩:=fZ (k:=m) .b;let i:=az d;let o:0<a:=Int.pos_of_mul_pos_right g .b
   let lt:a<q*a:=by
    let:=adR i (.b:0<=a);lia
   let⟨t,f⟩:=z_ k a .b o (uJ e (Int.dvd_mul_left _ _)) λr l j=>h r l (Ĺ j (Int.dvd_mul_left _ _));let b:=h q d (Int.dvd_mul_right _ _);rw[f] at b;obtain z|z:=euclid d b
   .exfalso;let⟨c,rfl⟩:=z;show e.2 q i #[c,by rw[ı]]
   .let⟨c,rfl⟩:=z;show#[c,by rw[f];grind]
def KJ(ha:a≠0)(d:eF b)(h:uj a b):∃x,LB a b.natAbs=À x/\0<=x/\x<b.natAbs/\b∣x*x-a:=by
 let p:=d.1;obtain⟨_,q,c,i,z⟩|⟨x,e,l,j,o⟩:=Ry (k:=a) (m:=b.natAbs) .b
 .let g:=aet.mp i;show absurd z (SJ c ha (λw=>d.2 q (az c) w) g (h q (.inr c)))
 .show#[x,e,l,j,?_]
  let f:eF (b.natAbs:Int):=by
   obtain z|z:=aif b
   .rwa[<-z]
   .let:(b.natAbs:Int)=-b:=by lia
    rw[this];show nR d
  show ahg.mp (z_ (n:=x*x-a) _ (b.natAbs:Int) (ú _) .b f λq c i=>(o q c i).1)
def ye(ha:eF a)(h1:a≠1)(e:x*x=a*(y*y)):y=0:=by
 apply ģ;intro b
 let c:x≠0:=λz=>by
  rw[z,ś] at e;show ä ha.1 (ä b b) e.symm
 let e2:a*((y.natAbs:Int)*(y.natAbs:Int))=1*((x.natAbs:Int)*(x.natAbs:Int)):=by
  rw[Ő,<-Ϻ,<-Ϻ,aft,aft];show e.symm
 show h1 (qW ha nP .b .b e2).1
noncomputable def lg(a:Int):Nat:=ō a.natAbs
noncomputable def wz(a b:Int):Nat:=2*(lg a+lg b)+if b.natAbs<a.natAbs then 1 else 0
def El(g:2<=b.natAbs)(f:c≠0)(h:4*c.natAbs<=b.natAbs+4):lg c+1<=lg b:=by
 unfold lg;let a:b.natAbs≠0:=by lia
 let d:c.natAbs≠0:=by lia
 let h1:b.natAbs<2^(ō b.natAbs+1):=(agg a).mp (afv _);let h2:1<=ō b.natAbs:=(Nat.le_log2 a).mpr .b;obtain⟨m,e⟩:∃m,ō b.natAbs=m+1:=#[ō b.natAbs-1,.b];rw[e] at h1 ⊢;let e1:2^(m+1+1)=4*2^m:=by rw[afA,afA];lia
 let e2:2^(m+1)=2*2^m:=by rw[afA];lia
 let:c.natAbs<2^(m+1):=by
  let:=agl m;lia
 let:=(agg d).mpr this;lia
def vT(b:a≠0)(h:a.natAbs<1073741824):lg a<=29:=by
 let:ō a.natAbs<30:=(agg .b).mpr .b;unfold lg;lia
def Ma(h:b.natAbs<a.natAbs):wz b a+1<=wz a b:=by
 unfold wz;rw[ac6 h,ac2 .b];lia
noncomputable def L8(h:a.natAbs<=b.natAbs)(d:lg c+1<=lg b):wz a c+1<=wz a b:=by
 unfold wz;rw[ac2 (.b:¬b.natAbs<a.natAbs)];split<;>lia
def RI(ha:a≠0)(c:b≠0)(h1:a.natAbs<1073741824)(h2:b.natAbs<1073741824):wz a b<=117:=by
 let:=vT ha h1;let:=vT c h2;unfold wz;split<;>lia
def EB(h:a.natAbs<=b.natAbs)(c:2*r.natAbs<=b.natAbs)(f:b≠0)(e:r*r-a=b*k):4*k.natAbs<=b.natAbs+4:=by
 let h1:b.natAbs*k.natAbs<=r.natAbs*r.natAbs+a.natAbs:=by
  rw[<-ļ,<-ļ,<-e];omega
 let h2:(2*r.natAbs)*(2*r.natAbs)<=b.natAbs*b.natAbs:=afa c c
 let e2:(2*r.natAbs)*(2*r.natAbs)=4*(r.natAbs*r.natAbs):=by
  rw[Nat.mul_mul_mul_comm]
 let d:b.natAbs*(4*k.natAbs)<=b.natAbs*(b.natAbs+4):=by
  rw[Nat.mul_left_comm,Nat.mul_add];omega
 show Nat.le_of_mul_le_mul_left d .f
def Nc{t g f d t':Int}(h:g≠0)(o:x*x=a*(y*y)+c*(t*t))(e:r*r-a=b*c*(s*s))(ex:x*r+a*y=g*f)(k:x+r*y=g*d)(m:c*s*t=g*t'):f*f=a*(d*d)+b*(t'*t'):=by
 let l:(x*r+a*y)*(x*r+a*y)=a*((x+r*y)*(x+r*y))+b*((c*s*t)*(c*s*t)):=by
  let e5:(x*r+a*y)*(x*r+a*y)-a*((x+r*y)*(x+r*y))=(x*x-a*(y*y))*(r*r-a):=by grind
  let j:x*x-a*(y*y)=c*(t*t):=by lia
  rw[j,e] at e5;let n:c*(t*t)*(b*c*(s*s))=b*((c*s*t)*(c*s*t)):=by grind
  lia
 rw[ex,k,m] at l;let i:(g*g)*(f*f)=(g*g)*(a*(d*d)+b*(t'*t')):=by grind
 show afc (ä h h) i
def Su{A B t g e d t':Int}(f:g≠0)(e1:-a*b=A*(u*u))(e2:-a*c=B*(v*v))(k:x*x=A*(y*y)+B*(t*t))(ex:x*u*v=g*e)(i:y*a*v=g*d)(l:t*a*u=g*t'):a*(e*e)+b*(d*d)+c*(t'*t')=0:=by
 let j:a*((x*u*v)*(x*u*v))+b*((y*a*v)*(y*a*v))+c*((t*a*u)*(t*a*u))=0:=by
  let e3:a*((x*u*v)*(x*u*v))+b*((y*a*v)*(y*a*v))+c*((t*a*u)*(t*a*u))=a*((x*x)*(u*u)*(v*v)-(-a*b)*(y*y)*(v*v)-(-a*c)*(t*t)*(u*u)):=by grind
  rw[e3,e1,e2,k];grind
 rw[ex,i,l] at j;let h:(g*g)*(a*(e*e)+b*(d*d)+c*(t'*t'))=0:=by grind
 obtain z|z:=afk.mp h
 .show absurd z (ä f f)
 .show z
def Nx{A w:Int}(g:eF A)(h:0<u)(c:m≠0)(i:w≠0)(e:A*(u*u)=m*(w*w)):A.natAbs<=m.natAbs:=by
 let⟨f,t,d,a,b⟩:=vf _ m c (ú _)
 let e2:A*(u*u)=f*((t*(w.natAbs:Int))*(t*(w.natAbs:Int))):=by
  let:(w.natAbs:Int)*(w.natAbs:Int)=w*w:=by rw[<-Ϻ,aft]
  rw[e,b];generalize (w.natAbs:Int)=z at *;grind
 let:=(qW g d h (Ĥ a .b) e2).1;rw[this];show Aj a b
theorem Bi:∀{us:List (Int×Int)} {a b:Int},2<=a->g5 a us b->(3:Int)^us.length<=pp us
 |[],a,b,_,_=>by change(1:Int)<=1;decide
 |u::us,a,b,ha,h=>by
  let⟨h1,h2,f,d⟩:=h;let c:=Bi .b d;obtain⟨n,e⟩:∃n,↥u.2=n+1:=#[↥u.2-1,.b]
  let hp:(3:Int)<=u.1^↥u.2:=by
   rw[e,ĥ];let:(1:Int)<=u.1^n:=by let:=ŕ (n:=u.1) (m:=n) .b;lia
   let:=Ť this (.b:(3:Int)<=u.1) .a .b;lia
  change(3:Int)^(us.length+1)<=u.1^↥u.2*pp us;rw[ĥ,ī];show Ť hp c (by let:=ŕ (n:=3) (m:=us.length) .a;lia) .b
def Gz(h1:1<=k)(h2:k<1073741824):(nN k).length<=19:=by
 let⟨⟨b,a⟩,e⟩:=rG h1;cases c:nN k with
 |nil=>simp
 |cons u us =>
  rw[c] at a e;let⟨p,o,q,d⟩:=a;let f:=Bi .b d;let h:u.1^↥u.2*pp us=k:=e;let p1:(1:Int)<=u.1^↥u.2:=by let:=ŕ (n:=u.1) (m:=↥u.2) .b;lia
  let p2:pp us<=k:=by
   rw[<-h];let l:0<=pp us:=by let:=ŕ (n:=3) (m:=us.length) .a;lia
   let:=adR p1 l;lia
  apply ģ;intro j;let r:19<=us.length:=by simp at j;lia
  obtain⟨m,i⟩:∃m,us.length=19+m:=#[us.length-19,.b];rw[i,Ŭ] at f;let:(1:Int)<=3^m:=by let:=ŕ (n:=3) (m:=m) .a;lia
  let:=Ł this (.a:(0:Int)<=3^19);let g:(3:Int)^19=1162261467:=by decide
  lia
noncomputable def PW:.L:=[2,3,5,7,11,13,17,19,23,29,31,97,101,997,10007,32771,32779,40009,40013]
noncomputable def XC:List (Nat×Nat):=[(3,0),(5,0),(7,0),(11,1),(13,1),(17,2),(19,2),(23,2),(29,3),(31,3),(97,4),(101,5),(997,15),(10007,49),(32771,90),(32779,90),(40009,99),(40013,99)]
def WO(h:p∈PW):aT p=Á:=by
 let e:∀u∈XC,yb u.1 u.2=Á/\3<=u.1/\u.1%2=1/\u.1<(2*u.2+3)*(2*u.2+3):=by decide +kernel
 let g:∀q∈PW,q=2\/∃u∈XC,((u.1:Nat):Int)=q:=by decide +kernel
 obtain rfl|⟨u,f,rfl⟩:=g p h
 .show bQ
 .let⟨a,b,c,d⟩:=e u f;show jT a b c d
noncomputable def iN:.L->Int
 |[]=>1
 |a::r=>a*iN r
theorem jH:∀{l:.L},(∀a∈l,a≠0)->iN l≠0
 |[],_=>by change(1:Int)≠0;decide
 |a::l,h=>ä (h a (Ġ ..)) (jH λx b=>h x (Ě _ b))
theorem BR{p a:Int}(hp:Pl p)(ha:a≠0):∀{l:.L},(∀x∈l,x≠0)->mZ l (λb=>aq a b p)=aq a (iN l) p
 |[],_=>by
  let:=rh (r:=1) hp ha .a;rw[Ċ] at this;change Á=aq a 1 p;rw[this]
 |b::l,h=>by
  let e:=h b (Ġ ..);let c:=λx d=>h x (Ě b d);rw[cK,BR hp ha c];change _=aq a (b*iN l) p;rw[aS hp ha e (jH c)]
def di(hp:Pl p)(ha:a≠0)(h:∀x∈l,x≠0):qv p (a::l)=(aq a (iN l) p==qv p l):=by
 change(mZ l (λb=>aq a b p)==qv p l)=_;rw[BR hp ha h]
def F9(hp:Pl p)(ha:a≠0)(f:b≠0)(e:c≠0):yI a b c p=(qv p [a,b,c]==aq (-1) (-(a*b*c)) p):=by
 let d:(-1:Int)≠0:=by decide
 let g:-1*a≠0:=by lia
 let i:-1*b≠0:=by lia
 let h:-1*b*c≠0:=ä i e;let ex:∀z:Int,z≠0->aq z (-1*b*c) p=((aq z (-1) p==aq z b p)==aq z c p):=λz hz=>by rw[aS hp hz i e,aS hp hz d f]
 let e1:yI a b c p=((((aq (-1) (-1) p==aq (-1) b p)==aq (-1) c p)==((aq (-1) a p==aq a b p)==aq a c p))==((aq (-1) c p==aq b c p)==aq (-1) c p)):=by
  unfold yI;rw[(by grind:-a*c=-1*a*c),(by grind:-b*c=-1*b*c),gb hp g e h,gb hp d ha h,ex _ d,ex _ ha,ex _ e,ba hp d ha,ba hp d e,ba hp f e,f9 hp e,ba hp d e]
 let e2:aq (-1) (-(a*b*c)) p=(((aq (-1) (-1) p==aq (-1) a p)==aq (-1) b p)==aq (-1) c p):=by
  rw[(by grind:-(a*b*c)=-1*a*b*c),aS hp d (ä g f) e,aS hp d g f,aS hp d d ha]
 let e3:qv p [a,b,c]=((aq a b p==(aq a c p==Á))==((aq b c p==Á)==(Á==Á))):=by
  change(mZ [b,c] (λy=>aq a y p)==(mZ [c] (λy=>aq b y p)==(mZ [] (λy=>aq c y p)==Á)))=_;rw[cK,cK,cK,nW,nW,nW]
 rw[e1,e2,e3];generalize aq (-1) (-1) p=j;generalize aq (-1) a p=m;generalize aq (-1) b p=q;generalize aq (-1) c p=k;generalize aq a b p=o;generalize aq a c p=n;generalize aq b c p=l;revert j m q k o n l;decide
def BC{m:.L}(h:l.Perm m):iN l=iN m:=by
 induction h with
 |nil=>rfl
 |cons a _ c=>show a*_=a*_;rw[c]
 |swap a b l=>show b*(a*iN l)=a*(b*iN l);grind
 |trans _ _ d e=>rw[d,e]
def zZ(hp:Pl p){m:.L}(h:l.Perm m):(∀x∈l,x≠0)->qv p l=qv p m:=by
 induction h with
 |nil=>intro _;rfl
 |@cons a l m g q =>
  intro h;let d:=λx c=>h x (Ě a c);let r:∀x∈m,x≠0:=λx c=>d x (g.mem_iff.mpr c);rw[di hp (h a (Ġ ..)) d,di hp (h a (Ġ ..)) r,q d,BC g]
 |swap a b l =>
  intro h;let ha:=h a .c;let f:=h b .c;let d:∀x∈l,x≠0:=λx c=>h x (by simp[c]);let k:=jH d;let j:∀x∈a::l,x≠0:=λx c=>h x (by obtain e|e:=ě.mp c<;>simp[e]);let i:∀x∈b::l,x≠0:=λx c=>h x (by obtain e|e:=ě.mp c<;>simp[e]);rw[di hp f j,di hp ha i,di hp ha d,di hp f d];change(aq b (a*iN l) p==_)=(aq a (b*iN l) p==_);rw[aS hp f ha k,aS hp ha f k,ba hp ha f];cases aq a b p<;>cases aq a (iN l) p<;>cases aq b (iN l) p<;>cases qv p l<;>rfl
 |trans h1 _ n o=>intro h;rw[n h,o λx c=>h x (h1.mem_iff.mpr c)]
def M4{t:Int}(hp:Pl p)(ha:a≠0)(f:b≠0)(d:c≠0)(he:e≠0)(j:s≠0)(w:t≠0)(h:∀x∈l,x≠0)(e1:a*x*x+b*y*y=c*s*s)(e2:a*b*c=e*t*t):qv p (c::e::l)=qv p (a::b::l):=by
 let k:=jH h
 let o:∀x∈b::l,x≠0:=λx g=>by
  obtain rfl|g:=ě.mp g
  .show f
  .show h x g
 let r:∀x∈e::l,x≠0:=λx g=>by
  obtain rfl|g:=ě.mp g
  .show he
  .show h x g
 rw[di hp d r,di hp he h,di hp ha o,di hp f h];change(aq c (e*iN l) p==_)=(aq a (b*iN l) p==_);rw[aS hp d he k,aS hp ha f k]
 -- cross terms
 let D:(aq c (iN l) p==aq e (iN l) p)=(aq a (iN l) p==aq b (iN l) p):=by
  rw[<-gb hp d he k,<-gb hp ha f k]
  let e3:c*e*t*t=a*b*c*c:=by
   let:c*e*t*t=c*(e*t*t):=by grind
   rw[this,<-e2];grind
  let i:=jB (b:=iN l) hp (ä d he) w;let u:=jB (b:=iN l) hp (ä ha f) d;rw[<-i,e3,u]
 let A:aq c e p=aq a b p:=by
  let C:c*s*s≠0:=ä (ä d j) j;let z:=Cf hp ha f C e1
  let i:aq (a*c) (b*c) p=Á:=by
   rwa[(by grind:a*(c*s*s)=a*c*s*s),(by grind:b*(c*s*s)=b*c*s*s),jB hp (ä ha d) j,eL hp (ä ha d) (ä f d) j] at z
  let u:aq c e p=aq c (a*b*c) p:=by rw[e2,eL hp d he w]
  rw[gb hp ha d (ä f d),aS hp ha f d,aS hp d f d,f9 hp d] at i;rw[u,aS hp d (ä ha f) d,aS hp d ha f,f9 hp d,ba hp ha d];generalize aq a c p=n at *;generalize aq c b p=m at *;generalize aq c (-1) p=v at *;generalize aq a b p=q at *;revert i;cases n<;>cases m<;>cases v<;>cases q<;>decide
 rw[A];generalize aq c (iN l) p=n at *;generalize aq e (iN l) p=m at *;generalize aq a (iN l) p=v at *;generalize aq b (iN l) p=q at *;generalize aq a b p=E at *;generalize qv p l=B at *;revert D;cases n<;>cases m<;>cases v<;>cases q<;>cases E<;>cases B<;>decide
noncomputable def GV(l:.L):Nat:=(l.filter λk=>decide (0<k)).length
theorem wB:∀(l:.L) (i:Nat),i<l.length->∃r,l.Perm (l.getD i 0::r)/\∀u,(l.set i u).Perm (u::r)
 |[],_,h=>by cases h
 |x::l,0,_=>#[l,ahe _,λu=>ahe _]
 |x::l,i+1,h=>by
  let⟨r,h1,h2⟩:=wB l i ↑h;show#[x::r,?_,λu=>?_]
  .let e:(x::l).getD (i+1) 0=l.getD i 0:=by simp
   rw[e];show(h1.cons x).trans (ô ..)
  .change(x::l.set i u).Perm _;show((h2 u).cons x).trans (ô ..)
theorem B6:∀(l:.L) (i j:Nat),i≠j->i<l.length->j<l.length->∃r,l.Perm (l.getD i 0::l.getD j 0::r)/\∀u v,((l.set j v).set i u).Perm (u::v::r)
 |[],_,_,_,h,_=>by cases h
 |x::l,0,0,h,_,_=>absurd rfl h
 |x::l,0,j+1,_,_,h=>by
  let⟨r,h1,h2⟩:=wB l j ↑h;show#[r,?_,λu v=>?_]
  .let e:(x::l).getD (j+1) 0=l.getD j 0:=by simp
   rw[e];show h1.cons x
  .change(u::l.set j v).Perm _;show(h2 v).cons u
 |x::l,i+1,0,_,h,_=>by
  let⟨r,h1,h2⟩:=wB l i ↑h;show#[r,?_,λu v=>?_]
  .let e:(x::l).getD (i+1) 0=l.getD i 0:=by simp
   rw[e];show(h1.cons x).trans (ô ..)
  .change(v::l.set i u).Perm _;show((h2 u).cons v).trans (ô ..)
 |x::l,i+1,j+1,b,hi,a=>by
  let⟨r,h1,h2⟩:=B6 l i j .b ↑hi ↑a;show#[x::r,?_,λu v=>?_]
  .let e1:(x::l).getD (i+1) 0=l.getD i 0:=by simp
   let e2:(x::l).getD (j+1) 0=l.getD j 0:=by simp
   rw[e1,e2];show(h1.cons x).trans ((ô ..).trans ((ô ..).cons _))
  .change(x::(l.set j v).set i u).Perm _;show((h2 u v).cons x).trans ((ô ..).trans ((ô ..).cons _))
def IF(a:s≠0):(0<c*s*s↔0<c)/\(c*s*s<0↔c<0):=by
 let p:0<s*s:=by
  obtain z|z:=Ν a
  .show aeq z z
  .show Ĥ z z
 rw[ı];show#[#[λz=>Int.pos_of_mul_pos_left z p,λz=>Ĥ z p],λz=>?_,λz=>aer z p];apply ģ;intro b;let:=Ϗ (.b:0<=c) (.b:0<=s*s);lia
def P1(x:Int):0<=x*x:=by
 obtain z|z:=ag3 0 x
 .show Ϗ z z
 .show ae2 z z
def Il{t:Int}(ha:a≠0)(u:b≠0)(l:c≠0)(he:e≠0)(f:s≠0)(n:t≠0)(e1:a*x*x+b*y*y=c*s*s)(e2:a*b*c=e*t*t):
  ((0<a/\0<b)->(0<c/\0<e))/\((a<0/\b<0)->(c<0/\e<0))/\((0<a/\b<0)\/(a<0/\0<b)->(0<c/\e<0)\/(c<0/\0<e)):=by
 let⟨c1,c2⟩:=IF (c:=c) f;let⟨g,i⟩:=IF (c:=e) n;let d:c*s*s≠0:=ä (ä l f) f;let j:=P1 x;let m:=P1 y;rw[<-e1] at c1 c2 d;rw[<-e2] at g i;rw[ı a x x,ı b y y] at c1 c2 d;show#[fun⟨p,q⟩=>?_,fun⟨p,q⟩=>?_,λh=>?_]
 .let r:=Ϗ (.b:0<=a) j;let o:=Ϗ (.b:0<=b) m;let cp:0<c:=c1.mp .b;show#[cp,g.mp (Ĥ (Ĥ p q) cp)]
 .let r:=aeo (.b:a<=0) j;let o:=aeo (.b:b<=0) m;let cn:c<0:=c2.mp .b;show#[cn,i.mp (afe (aeq p q) cn)]
 .let k:a*b<0:=by
   obtain⟨p,q⟩|⟨p,q⟩:=h
   .show afe p q
   .show aer p q
  obtain z|z:=Ν l
  .show .inr #[z,g.mp (aeq k z)]
  .show .inl #[z,i.mp (aer k z)]
def b8(a:Int)(l:.L):GV (a::l)=(if 0<a then 1 else 0)+GV l:=by
 unfold GV;by_cases z:0<a
 .rw[aee ↑z,ŭ,ac6 z];lia
 .rw[aed ↑z,ac2 z];lia
noncomputable def cD:Nat->.L
 |0=>[1,-1]
 |i+1=>cD i++(cD i).map λk=>k*Q6.getD i 1
def Oc:∀i,i<=6->(cD i).length<=128:=by decide +kernel
def yB:(cD 6).length=128/\∀k∈cD 6,k≠0/\-30030<=k/\k<=30030/\30030%k=0:=by decide +kernel
def Q9:∀s∈[(1:Int),-1],∀a∈bits,MM s a∈cD 6:=by decide +kernel
def SA:∀i,i<=6->∀k∈cD i,-30030<=k/\k<=30030:=by decide +kernel
noncomputable def P7:.L:=[0,2,3,5,7,11,13]
def fh(k p:Int):Int⊕(Int×Int):=if p=0 then .inl (if 0<k then 1 else -1) else .inr (cls k p)
noncomputable def ui(a b:Int⊕(Int×Int))(p:Int):Int⊕(Int×Int):=match a,b with
 |.inl x,.inl y=>.inl (x*y)
 |.inr u,.inr v=>.inr (cg u v p)
 |_,_=>.inl 0
def jN:∀p∈Q6,aT p=Á:=λp hp=>by
 let⟨j,b,e⟩:=aeP.mp hp;let a:j<6:=b;let:=l6 j a;rwa[ċ,Đ b,e] at this
def fI(h:p∈P7):p=0\/(p≠0/\aT p=Á/\p∈Q6):=by
 let:p=0\/p∈Q6:=ě.mp h;obtain z|z:=this
 .show .inl z
 .let q:=jN p z;let:=az q;show .inr #[.b,q,z]
def iG(hp:p∈P7)(ha:a≠0)(d:b≠0):ui (fh a p) (fh b p) p=fh (a*b) p:=by
 obtain rfl|⟨c,pp,_⟩:=fI hp
 .unfold fh ui;rw[ac6 rfl,ac6 rfl,ac6 rfl];change č _=č _;congr 1;obtain x|x:=Ν ha<;>obtain y|y:=Ν d
  .rw[ac2 .b,ac2 .b,ac6 (aeq x y)];rfl
  .rw[ac2 .b,ac6 y,ac2 (by let:=aer x y;lia)];rfl
  .rw[ac6 x,ac2 .b,ac2 (by let:=afe x y;lia)];rfl
  .rw[ac6 x,ac6 y,ac6 (Ĥ x y)];rfl
 .unfold fh ui;rw[ac2 c,ac2 c,ac2 c];change õ _=õ _;rw[bE pp ha d]
def DG(hp:p∈P7)(ha:a≠0)(b:r≠0):fh (a*r*r) p=fh a p:=by
 obtain rfl|⟨c,pp,_⟩:=fI hp
 .unfold fh;rw[ac6 rfl,ac6 rfl];congr 1
  let q:0<r*r:=by
   obtain z|z:=Ν b
   .show aeq z z
   .show Ĥ z z
  rw[ı];by_cases z:0<a
  .rw[ac6 z,ac6 (Ĥ z q)]
  .rw[ac2 z,ac2 (by let:=aer (.b:a<0) q;lia)]
 .unfold fh;rw[ac2 c,ac2 c,vS pp ha b]
def Cw{f n:Int}(hp:p∈P7)(a:f≠0)(c:k≠0)(b:n≠0):fh k p=ui (fh f p) (fh n p) p↔fh (k*f) p=fh n p:=by
 rw[iG hp a b];constructor
 .intro h;rw[<-iG hp c a,h,iG hp (ä a b) a,(by grind:f*n*f=n*f*f),DG hp b a]
 .intro h;rw[<-iG hp a b,<-h,iG hp a (ä c a),(by grind:f*(k*f)=k*f*f),DG hp c a]
def lD{n:Int}(hp:aT p=Á)(b:n≠0):((cls n p).1=0\/(cls n p).1=1)/\(p=2->(cls n p).2∈[(1:Int),3,5,7])/\(p≠2->(cls n p).2=1\/(cls n p).2=-1):=by
 let t:=fE (az hp) b;let a:¬p∣(a9 n p).2:=t.2.2;show#[?_,λh2=>?_,λh2=>?_]
 .change(a9 n p).1%2=0\/(a9 n p).1%2=1;lia
 .change(if p=2 then (a9 n p).2%8 else bK (a9 n p).2 p)∈_;rw[ac6 h2];rw[h2] at a;let:(a9 n 2).2%8=1\/(a9 n 2).2%8=3\/(a9 n 2).2%8=5\/(a9 n 2).2%8=7:=by lia
  rw[h2];simp only[ě,ğ,adM];show this
 .change(if p=2 then (a9 n p).2%8 else bK (a9 n p).2 p)=1\/(if p=2 then (a9 n p).2%8 else bK (a9 n p).2 p)=-1;rw[ac2 h2];show cE a
def Iw{ns:.L}(E:ns.length=7)(D:∀n∈ns,n≠0):∃k q,k∈cD 6/\aT q=Á/\17<=q/\q<=8089/\∀j,j<7->fh (k*q) (P7.getD j 0)=fh (ns.getD j 1) (P7.getD j 0):=by
 obtain⟨u,s,i,l,t,r,o,rfl⟩:∃a b c d e f g,ns=[a,b,c,d,e,f,g]:=by
  match ns,E with
  |[a,b,c,d,e,f,g],_=>show#[a,b,c,d,e,f,g,rfl]
 let m:∀n,n∈[u,s,i,l,t,r,o]->n≠0:=D
 let h:GW (if 0<u then 1 else -1) [cls s 2,cls i 3,cls l 5,cls t 7,cls r 11,cls o 13]:=by
  let c1:=lD (n:=s) (p:=2) (jN 2 .a) (m _ .c);let c2:=lD (n:=i) (p:=3) (jN 3 .a) (m _ .c);let c3:=lD (n:=l) (p:=5) (jN 5 .a) (m _ .c);let c4:=lD (n:=t) (p:=7) (jN 7 .a) (m _ .c);let x:=lD (n:=r) (p:=11) (jN 11 .a) (m _ .c);let w:=lD (n:=o) (p:=13) (jN 13 .a) (m _ .c);show#[by split<;>simp,rfl,λj v=>?_,c1.2.1 rfl,λj h1 v=>?_]
  .let:j=0\/j=1\/j=2\/j=3\/j=4\/j=5:=by lia
   obtain rfl|rfl|rfl|rfl|rfl|rfl:=this
   .show c1.1
   .show c2.1
   .show c3.1
   .show c4.1
   .show x.1
   .show w.1
  .let:j=1\/j=2\/j=3\/j=4\/j=5:=by lia
   obtain rfl|rfl|rfl|rfl|rfl:=this
   .show c2.2.2 .a
   .show c3.2.2 .a
   .show c4.2.2 .a
   .show x.2.2 .a
   .show w.2.2 .a
 let⟨q,A,y,B,C⟩:=Wm h;let ha:=(Fe (k:=de _ _*q) h.len).mp C;show#[de (if 0<u then 1 else -1) [cls s 2,cls i 3,cls l 5,cls t 7,cls r 11,cls o 13],q,?_,A,y,B,λj v=>?_]
 .rw[KP h.len];show Q9 _ (by obtain z|z:=h.sg<;>rw[z]<;>simp) _ h.bits
 .let:j=0\/j=1\/j=2\/j=3\/j=4\/j=5\/j=6:=by lia
  obtain rfl|rfl|rfl|rfl|rfl|rfl|rfl:=this
  .show congrArg č ha.1
  .show congrArg õ (ha.2 0 .a)
  .show congrArg õ (ha.2 1 .a)
  .show congrArg õ (ha.2 2 .a)
  .show congrArg õ (ha.2 3 .a)
  .show congrArg õ (ha.2 4 .a)
  .show congrArg õ (ha.2 5 .a)
noncomputable def jn(a b:Int):Int:=a.fdiv ((È a b:Nat):Int)*b.fdiv ((È a b:Nat):Int)
def Jg(ha:a≠0):∃g u v,0<g/\a=g*u/\b=g*v/\jn a b=u*v/\È u v=1:=by
 let⟨u,c⟩:=Ϧ a b;let⟨v,d⟩:=ϧ a b;let e:((È a b:Nat):Int)≠0:=λz=>ha (by rw[c,z,ag5])
 let l:a.fdiv ((È a b:Nat):Int)=u:=by
  let:=ad8 u e;rwa[<-c] at this
 let ev:b.fdiv ((È a b:Nat):Int)=v:=by
  let:=ad8 v e;rwa[<-d] at this
 let i:u≠0:=λz=>ha (by rw[c,z,ś]);show#[((È a b:Nat):Int),u,v,.b,c,d,by unfold jn;rw[l,ev],vJ (λq k ⟨s,j⟩ ⟨t,h⟩=>?_) i];let h1:((È a b:Nat):Int)*q∣a:=#[s,by rwa[ı,<-j]];let h2:((È a b:Nat):Int)*q∣b:=#[t,by rwa[ı,<-h]];let f:=ag8 h1 h2;let m:=ĝ .b f;let:=az k;let:=Ł (.b:(2:Int)<=q) (.b:(0:Int)<=((È a b:Nat):Int));lia
def TH(ha:a≠0):∃g u,0<g/\a=g*u/\a*b=jn a b*(g*g):=by
 let⟨g,u,v,c,e1,e2,e3,_⟩:=Jg (b:=b) ha;show#[g,u,c,e1,?_];rw[e3,e1,e2];grind
def Kl(ha:a≠0)(h1:a∣m)(h2:b∣m):jn a b∣m:=by
 let⟨g,u,v,f,e1,e2,e3,e4⟩:=Jg (b:=b) ha;rw[e3];let e:u∣m:=Ĺ #[g,by rw[e1,ī]] h1;let d:v∣m:=Ĺ #[g,by rw[e2,ī]] h2;let c:η u.natAbs v.natAbs:=e4;let:=Nat.Coprime.mul_dvd_of_dvd_of_dvd c (ad5.mpr e) (ad5.mpr d);rw[<-ļ] at this;show ad5.mp this
def Xf:∀d∈Ø 174,2<=d->30030%(d*d)≠0:=by decide +kernel
def Rr:eF 30030:=#[.a,λd b z=>by
 let h1:=ĝ .a z
 let c:d<174:=by
  apply ģ;intro e;let:=Ť (.b:(174:Int)<=d) (.b:(174:Int)<=d) .a .b;lia
 let⟨n,rfl⟩:=Int.eq_ofNat_of_zero_le (.b:0<=d);let:=Xf n (aeh.mpr .b) .b
 let a:n*n∣30030:=by
  let:=ad5.mpr z;rwa[ļ] at this
 show this (agJ a)]
def lF(h:k∈cD 6):k∣30030:=Ŷ (yB.2 k h).2.2.2
def jE(h:k∈cD 6):eF k:=uJ Rr (lF h)
def UQ(a:aT q=Á)(h:q∣30030):q∈Q6:=by
 let e:(30030:Int)=2*(3*(5*(7*(11*13)))):=by decide
 rw[e] at h;let m:∀{p:Int},p∈Q6->q∣p->q∈Q6:=λ{p} hp b=>by rwa[bq a (jN p hp) b]
 obtain z|h:=euclid a h
 .show m .a z
 obtain z|h:=euclid a h
 .show m .a z
 obtain z|h:=euclid a h
 .show m .a z
 obtain z|h:=euclid a h
 .show m .a z
 obtain z|h:=euclid a h
 .show m .a z
 .show m .a h
def y8(h:k∈cD 6)(a:aT q=Á)(b:q∣k):q∈Q6:=UQ a (Ĺ b (lF h))
def ED:∀k∈cD 6,-k∈cD 6/\(k.natAbs:Int)∈cD 6/\jn k 1=k/\jn k (-1)=-k:=by decide +kernel
noncomputable def vF(h:k∈cD 6):uh Q6 k:=#[(yB.2 k h).1,λ_ a b=>y8 h a b]
def Mj(k p:Int):Bool:=if p=0 then decide (0<k) else decide (cls k p=(0,1))
def km(p:Int):.L:=if p=0 then [1,-1] else if p=2 then [1,3,5,7,2,6,10,14] else [1,pz p,p,p*pz p]
def yq(hp:p∈P7):∀k∈km p,k≠0:=λk a=>by
 unfold km at a;split at a
 .simp only[ě,ğ,adM] at a;lia
 .rename_i b;split at a
  .simp only[ě,ğ,adM] at a;lia
  .rename_i h2;let⟨_,pp,_⟩:=(fI hp).resolve_left b;let n:=(xj (vM pp h2)).1;simp only[ě,ğ,adM] at a;obtain rfl|rfl|rfl|rfl:=a
   .decide
   .lia
   .show b
   .show ä b .b
def L5(p:Int):(km p).length<=8:=by unfold km;split;decide;split<;>simp
def xb(h:fh a p=fh k p):aq a c p=aq k c p:=by
 unfold fh at h;by_cases b:p=0
 .subst b;rw[ac6 rfl,ac6 rfl] at h;let e:=Ŵ h;rw[aR,aR];congr 1;by_cases x:0<a<;>by_cases y:0<k<;>simp[x,y] at e ⊢
 .rw[ac2 b,ac2 b] at h;let e:=agH h;unfold aq;rw[ac2 b,ac2 b,e]
def bL(h:k∈cD 6):k≠0:=(yB.2 k h).1
def kN(h:k∈cD 6):k.natAbs<=30030:=by let:=yB.2 k h;lia
def Xv:∀a∈Ø 174,∀b∈Ø 174,30030%(174*a+b)=0->((174*a+b:Nat):Int)∈cD 6:=by decide +kernel
def Gb{n:Int}(h:n∣30030):n∈cD 6:=by
 let h1:n.natAbs∣30030:=ad5.mpr h;let h2:=agM .a h1
 let key:(n.natAbs:Int)∈cD 6:=by
  let e:n.natAbs=174*(n.natAbs/174)+n.natAbs%174:=by lia
  let:=Xv (n.natAbs/174) (aeh.mpr .b) (n.natAbs%174) (aeh.mpr .b);rw[<-e] at this;show this (agJ h1)
 obtain e|e:=aif n
 .rw[e];show key
 .rw[e];show(ED _ key).1
def IX(ha:a∈cD 6)(c:b∈cD 6):jn a b∈cD 6:=Gb (Kl (bL ha) (lF ha) (lF c))
def Cq{n:Int}(hp:Pl p)(b:x≠0)(h:Mj n p=Á):aq x n p=Á:=by
 unfold Mj at h;by_cases a:p=0
 .subst a;rw[ac6 rfl] at h;rw[aR,h,ain]
 .rw[ac2 a] at h;show vL (hp.resolve_left a) b (ad0 h)
def Qy:∀cn∈C2,∀a∈C2,∀c1 c2:Bool,(c1=Â->cn≠(0,1))->(c2=Â->a≠(0,1))->(cn=a->c1=c2)->∃s∈[((0:Int),(1:Int)),(0,3),(0,5),(0,7),(1,1),(1,3),(1,5),(1,7)],iH s cn=c1/\iH s a=c2:=.a
def QL:∀cn∈CO,∀a∈CO,∀m∈[(1:Int),-1],∀c1 c2:Bool,(c1=Â->cn≠(0,1))->(c2=Â->a≠(0,1))->(cn=a->c1=c2)->∃s∈[((0:Int),(1:Int)),(0,-1),(1,1),(1,-1)],oe s cn m=c1/\oe s a m=c2:=.a
def MO{n:Int}(hp:p∈P7)(C:n≠0)(B:m≠0)(c1 c2:Bool)(h1:c1=Â->Mj n p=Â)(h2:c2=Â->Mj m p=Â)(o:fh n p=fh m p->c1=c2):∃k∈km p,aq k n p=c1/\aq k m p=c2:=by
 by_cases c:p=0
 .subst c;let j:∀x:Int,fh x 0=.inl (if 0<x then 1 else -1):=λx=>by unfold fh;rw[ac6 rfl]
  let d:∀x:Int,Mj x 0=Â->¬0<x:=λx h=>by
   unfold Mj at h;rw[ac6 rfl] at h;show aes h
  let sn:∀x:Int,aq (-1) x 0=decide (0<x):=λx=>by rw[aR];rfl
  let eq:¬0<n->¬0<m->c1=c2:=λa b=>o (by rw[j,j,ac2 a,ac2 b]);by_cases u:c1=Á/\c2=Á
  .show#[1,by unfold km;simp,?_];rw[aR,aR,u.1,u.2];show#[rfl,rfl]
  .show#[-1,by unfold km;simp,?_];rw[sn,sn];cases c1 with
   |false =>
    let a:=d n (h1 rfl);cases c2 with
    |false=>show#[adF a,adF (d m (h2 rfl))]
    |true=>show#[adF a,ado (ģ λz=>by let:=eq a z;cases this)]
   |true =>
    cases c2 with
    |true=>show absurd #[rfl,rfl] u
    |false =>
     let a:=d m (h2 rfl);show#[ado (ģ λz=>by let:=eq z a;cases this),adF a]
 let⟨_,pp,_⟩:=(fI hp).resolve_left c;let p2:=az pp
 let d:∀x:Int,Mj x p=Â->cls x p≠(0,1):=λx h=>by
  unfold Mj at h;rw[ac2 c] at h;show aes h
 let j:cls n p=cls m p->fh n p=fh m p:=λe=>by unfold fh;rw[ac2 c,ac2 c,e]
 by_cases e2:p=2
 .subst e2;let⟨s,g,r,w⟩:=Qy _ (dm C) _ (dm B) c1 c2 (λh=>d _ (h1 h)) (λh=>d _ (h2 h)) (λe=>o (j e));let key:∀k:Int,k∈km 2->cls k 2=s->∃k∈km 2,aq k n 2=c1/\aq k m 2=c2:=λk y ek=>#[k,y,by rwa[bu,ek],by rwa[bu,ek]];let sm:km 2=[1,3,5,7,2,6,10,14]:=by unfold km;rw[ac2 .a,ac6 rfl]
  rw[sm] at key ⊢;let i:∀x:Int,¬(2:Int)∣x->cls x 2=(0,x%8):=λx h=>by rw[cy .a h];rfl
  let ev:∀x:Int,x≠0->¬(2:Int)∣x->cls (2*x) 2=(1,x%8):=λx E h=>by
   let:=iG (p:=2) (a:=2) (b:=x) .a .a E;unfold fh at this;rw[ac2 .a,ac2 .a,ac2 .a,K3,i x h] at this;let e:=agH this.symm;rw[e];change((1+0)%2,_)=_;rw[(.a:((1:Int)+0)%2=1)];let:(1*(x%8))%8=x%8:=by lia
   show congrArg (Prod.mk (1:Int)) this
  simp only[ě,ğ,adM] at g;obtain rfl|rfl|rfl|rfl|rfl|rfl|rfl|rfl:=g
  .show key 1 .c (i 1 .a)
  .show key 3 .c (i 3 .a)
  .show key 5 .c (i 5 .a)
  .show key 7 .c (i 7 .a)
  .show key 2 .c (ev 1 .a .a)
  .show key 6 .c (ev 3 .a .a)
  .show key 10 .c (ev 5 .a .a)
  .show key 14 .c (ev 7 .a .a)
 .let⟨s,g,r,w⟩:=QL _ (dn p2 e2 C) _ (dn p2 e2 B) _ (vQ p2) c1 c2 (λh=>d _ (h1 h)) (λh=>d _ (h2 h)) (λe=>o (j e));let key:∀k:Int,k∈km p->cls k p=s->∃k∈km p,aq k n p=c1/\aq k m p=c2:=λk y ek=>#[k,y,by rwa[bz c e2,ek],by rwa[bz c e2,ek]];let sm:km p=[1,pz p,p,p*pz p]:=by unfold km;rw[ac2 c,ac2 e2]
  rw[sm] at key ⊢;let⟨F,t,_⟩:=xj (vM pp e2)
  let D:¬p∣pz p:=λz=>by
   rw[eK z] at t;cases t
  let cn:cls (pz p) p=(0,-1):=by rw[cy p2 D,ac2 e2,t]
  let f:¬p∣1:=λz=>by let:=ĝ .a z;lia
  let A:bK 1 p=1:=lH pp e2 #[0,.b];let q:cls 1 p=(0,1):=by rw[cy p2 f,ac2 e2,A]
  let cp:cls p p=(1,1):=by
   let:=u_ (v:=1) p2 f;rw[ĥ,Ń,Ő,Ő] at this;unfold cls;rw[this,ac2 e2];dsimp only;rw[A];rfl
  let l:cls (p*pz p) p=(1,-1):=by
   let:=iG (p:=p) (a:=p) (b:=pz p) hp c .b;unfold fh at this;rw[ac2 c,ac2 c,ac2 c,cp,cn] at this;let e:=agH this.symm;rw[e];change((1+0)%2,_)=_;rw[ac2 e2];rfl
  simp only[ě,ğ,adM] at g;obtain rfl|rfl|rfl|rfl:=g
  .show key 1 .c q
  .show key (pz p) .c cn
  .show key p .c cp
  .show key (p*pz p) .c l
def VG(pp:aT p=Á):cls 1 p=(0,1):=by
 let p2:=az pp;let a:¬p∣1:=λz=>by let:=ĝ .a z;lia
 rw[cy p2 a];by_cases e2:p=2
 .rw[ac6 e2];rfl
 .rw[ac2 e2,lH pp e2 #[0,.b]]
def oH(h:Pl p)(ha:a≠0)(d:b≠0)(c:k≠0):aq (a*k) (b*k) p=(aq k (-1*(a*b)) p==aq a b p):=by
 let e:=ä ha d;rw[gb h ha c (ä d c),aS h ha d c,aS h c d c,f9 h c,aS h c .a e,aS h c ha d,ba h c ha];cases aq a b p<;>cases aq k a p<;>cases aq k b p<;>cases aq k (-1) p<;>rfl
def DT(h:Pl p)(ha:a≠0)(c:b≠0):aq a (-1*(a*b)) p=aq a b p:=by
 rw[aS h ha .a (ä ha c),aS h ha ha c,f9 h ha];cases aq a b p<;>cases aq a (-1) p<;>rfl
def Hw(hp:p∈P7)(ha:a≠0)(l:b≠0)(B:c≠0)(A:d≠0)(h:dM [a,b,c,d] p=Á):∃k∈km p,dM [a,b,-k] p=Á/\dM [c,d,k] p=Á:=by
 by_cases i:p=0
 .subst i;let sm:km 0=[1,-1]:=by unfold km;rw[ac6 rfl]
  rw[sm];rw[dq] at h
  let key:∀k:Int,k∈[(1:Int),-1]->((a<0\/b<0\/0<k)/\(0<a\/0<b\/k<0))->((c<0\/d<0\/k<0)/\(0<c\/0<d\/0<k))->∃k∈[(1:Int),-1],dM [a,b,-k] 0=Á/\dM [c,d,k] 0=Á:=λk m e1 e2=>by
   show#[k,m,?_,?_]
   .rw[dq];constructor
    .obtain z|z|z:=e1.1
     .show#[a,.c,z]
     .show#[b,.c,z]
     .show#[-k,.c,.b]
    .obtain z|z|z:=e1.2
     .show#[a,.c,z]
     .show#[b,.c,z]
     .show#[-k,.c,.b]
   .rw[dq];constructor
    .obtain z|z|z:=e2.1
     .show#[c,.c,z]
     .show#[d,.c,z]
     .show#[k,.c,z]
    .obtain z|z|z:=e2.2
     .show#[c,.c,z]
     .show#[d,.c,z]
     .show#[k,.c,z]
  let⟨⟨x,r,w⟩,⟨y,o,C⟩⟩:=h;simp only[ě,ğ,adM] at r o;by_cases q:0<a/\0<b\/((a<0/\0<b\/0<a/\b<0)/\c<0)
  .show key 1 .c #[.b,.b] #[?_,.b];obtain rfl|rfl|rfl|rfl:=r<;>lia
  .show key (-1) .c #[.b,.b] #[.b,?_];obtain rfl|rfl|rfl|rfl:=o<;>lia
 let⟨_,pp,_⟩:=(fI hp).resolve_left i;let pl:Pl p:=.inr pp;let f:-c≠0:=by lia
 let g:-d≠0:=by lia
 let nn:-1*(a*b)≠0:=ä .a (ä ha l);let j:-1*(-c*-d)≠0:=ä .a (ä f g)
 let⟨k,m,t,v⟩:=MO hp nn j (aq a b p) (aq (-c) (-d) p) (λe=>by
   cases z:Mj (-1*(a*b)) p with
   |false=>rfl
   |true =>
    let:=Cq pl ha z;rw[DT pl ha l,e] at this
    cases this) (λe=>by
   cases z:Mj (-1*(-c*-d)) p with
   |false=>rfl
   |true =>
    let:=Cq pl f z;rw[DT pl f g,e] at this
    cases this) (λe=>by
   let u:DW (a*b*c*d) p:=by
    let e1:=iG hp nn j;rw[e,iG hp j j] at e1;let e2:=DG (a:=1) hp .a j;rw[Ő,e1] at e2;unfold fh at e2;rw[ac2 i,ac2 i] at e2;let e3:=agH e2;let e4:-1*(a*b)*(-1*(-c*-d))=a*b*c*d:=by grind
    rw[e4] at e3;change cls (a*b*c*d) p=(0,1);rw[e3];show VG pp
   rw[rf i,ado u] at h;let tz:yI a b c p=Á:=h;unfold yI at tz;rw[(by grind:-a*c=a*-c),(by grind:-b*c=b*-c),oH pl ha l f] at tz
   let s:aq (-c) (-1*(a*b)) p=aq (-c) (-d) p:=by
    rw[ba pl nn f,xb e,ba pl f j,DT pl f g]
   rw[s] at tz
   show(agy.mp tz).symm)
 let n:=yq hp k m;show#[k,m,?_,?_]
 .rw[eC i];unfold yI;rw[(by grind:-a*-k=a*k),(by grind:-b*-k=b*k),oH pl ha l n,t];simp
 .rw[eC i];unfold yI;rw[oH pl f g n,v];simp
def Vb(d:uh Q6 x)(c:uh Q6 y)(h:∀p∈P7,aq x y p=Á):∀p,Pl p->aq x y p=Á:=λp hp=>by
 by_cases b:p∈P7
 .show h p b
 obtain rfl|hp:=hp
 .show absurd .a b
 let a:p∉Q6:=λz=>b (Ě _ z);show iK hp (λz=>a (by rw[z];decide)) (λz=>a (d.2 p hp z)) (λz=>a (c.2 p hp z))
def T2(m:aT q=Á)(k:17<=q)(j:uh (Q6++[q]) x)(i:uh (Q6++[q]) y)(h:∀p∈P7,aq x y p=Á):∀p,Pl p->aq x y p=Á:=by
 let e:∀p∈Q6,p<=13:=by decide
 let d:By (Q6++[q]):=#[agF.mpr #[.a,.c,λa ha b l=>by
   rw[adv.mp l];let:=e a ha
   lia],λp hp=>by
   obtain hp|hp:=adQ.mp hp
   .show jN p hp
   .rwa[adv.mp hp],by simp[Q6]]
 let ev:=IA d j i;unfold uy at ev;rw[show(0:Int)::(Q6++[q])=P7++[q] from rfl,wU,uP h] at ev
 let n:aq x y q=Á:=by
  cases z:aq x y q with
  |true=>rfl
  |false =>
   exfalso
   let:mZ [q] (aq x y)=Â:=by
    unfold mZ;rw[agR,z];rfl
   rw[this] at ev;cases ev
 intro p hp;by_cases g:p∈P7
 .show h p g
 by_cases c:p=q
 .rwa[c]
 obtain rfl|hp:=hp
 .show absurd .a g
 let f:p∉Q6++[q]:=λz=>by
  obtain z|z:=adQ.mp z
  .show g (Ě _ z)
  .show c (adv.mp z)
 show iK hp (λz=>f (by rw[z];simp[Q6])) (λz=>f (j.2 p hp z)) (λz=>f (i.2 p hp z))
def ER(ha:a≠0)(b:k≠0):0<a*k↔(0<a/\0<k)\/(a<0/\k<0):=by
 obtain h|h:=Ν ha<;>obtain h'|h':=Ν b
 .show#[λ_=>.inr #[h,h'],λ_=>aeq h h']
 .let:=aer h h';show#[λz=>by lia,λz=>by lia]
 .let:=afe h h';show#[λz=>by lia,λz=>by lia]
 .show#[λ_=>.inl #[h,h'],λ_=>Ĥ h h']
def F4(ha:a≠0)(i:b≠0)(d:c≠0):dM [a,b,c] p=aq (-a*c) (-b*c) p:=by
 by_cases g:p=0
 .subst g;rw[ae3,dq,aR,ahU,afo,afo,ER .b d,ER .b d];constructor
  .rintro⟨⟨x,f,h⟩,⟨y,e,j⟩⟩;simp only[ě,ğ,adM] at f e;obtain rfl|rfl|rfl:=f<;>obtain rfl|rfl|rfl:=e<;>lia
  .intro z;let n:a<0\/b<0\/c<0:=by lia
   let q:0<a\/0<b\/0<c:=by lia
   constructor
   .obtain n|n|n:=n
    .show#[a,.c,n]
    .show#[b,.c,n]
    .show#[c,.c,n]
   .obtain n|n|n:=q
    .show#[a,.c,n]
    .show#[b,.c,n]
    .show#[c,.c,n]
 .rw[eC g];rfl
def Pu(a b c d p:Int):List (Int⊕(Int×Int)):=((km p).filter λk=>dM [a,b,-k] p&&dM [c,d,k] p).map λk=>fh k p
def Uu(hp:p∈P7)(ha:a≠0)(g:b≠0)(e:c≠0)(f:d≠0)(h:dM [a,b,c,d] p=Á):Pu a b c d p≠[]:=λz=>by
 let⟨k,i,h1,h2⟩:=Hw hp ha g e f h;let:fh k p∈Pu a b c d p:=adn.mpr #[k,aeb.mpr #[i,by rw[h1,h2];rfl],rfl];rw[z] at this;cases this
def EJ{t:Int}(hp:p∈P7)(ha:a≠0)(f:b≠0)(n:c≠0)(o:d≠0)(j:t≠0)(h:fh t p∈Pu a b c d p):aq (a*t) (b*t) p=Á/\aq (-c*t) (-d*t) p=Á:=by
 let⟨k,i,e⟩:=adn.mp h;let⟨i,z⟩:=aeb.mp i;rw[ź] at z;let g:=yq hp k i
 let pl:Pl p:=by
  obtain z|z:=fI hp
  .show .inl z
  .show .inr z.2.1
 let⟨l,m⟩:=z;rw[F4 ha f .b,(by grind:-a*-k=a*k),(by grind:-b*-k=b*k),oH pl ha f g,xb e] at l;rw[F4 n o g,oH pl .b .b g,xb e] at m;rw[oH pl ha f j,oH pl .b .b j];show#[l,m]
def pS(c:uh L x)(b:uh L y):uh L (x*y):=#[ä c.1 b.1,λq a d=>(euclid a d).elim (c.2 q a) (b.2 q a)]
def zP{α:.L}(h:∀p∈L,p∈α)(a:uh L x):uh α x:=#[a.1,λq b c=>h q (a.2 q b c)]
def FH(a:uh L x):uh L (-x):=#[by let:=a.1;lia,λq b c=>a.2 q b (aeL.mp c)]
def MK(i:uh Q6 a)(g:uh Q6 b)(e:uh Q6 c)(f:uh Q6 d)(w:k∈cD 6)(n:q=1\/(aT q=Á/\17<=q/\q<=8089))(h:∀p∈P7,fh (k*q) p∈Pu a b c d p):
  ∀p,Pl p->dM [a,b,-(k*q)] p=Á/\dM [c,d,k*q] p=Á:=by
 let ok:=vF w
 let o:q≠0:=by
  obtain rfl|⟨_,h,_⟩:=n
  .decide
  .lia
 let l:k*q≠0:=ä ok.1 o
 let all:∀{x y:Int},uh Q6 x->uh Q6 y->(∀p∈P7,aq (x*(k*q)) (y*(k*q)) p=Á)->∀p,Pl p->aq (x*(k*q)) (y*(k*q)) p=Á:=λ{x y} u s m=>by
  obtain rfl|⟨v,j,_⟩:=n
  .rw[Ċ] at m ⊢;show Vb (pS u ok) (pS s ok) m
  .let sub:∀p∈Q6,p∈Q6++[q]:=λp hp=>aeA _ hp
   let B:uh (Q6++[q]) q:=#[o,λr C A=>by
    let D:=az C;obtain z|z:=iD v .b A
    .lia
    .rw[z];simp]
   let t:=pS (zP sub ok) B;show T2 v j (pS (zP sub u) t) (pS (zP sub s) t) m
 let one:=all i g λp hp=>(EJ hp i.1 g.1 e.1 f.1 l (h p hp)).1;let two:=all (FH e) (FH f) λp hp=>(EJ hp i.1 g.1 e.1 f.1 l (h p hp)).2;intro p hp;rw[F4 i.1 g.1 .b,F4 e.1 f.1 l,(by grind:-a*-(k*q)=a*(k*q)),(by grind:-b*-(k*q)=b*(k*q))];show#[one p hp,two p hp]
def Oi{n:Int}(b:n≠0)(h:∀q,aT q=Á->¬q*q∣n):eF n:=#[b,λd a z=>by
 let⟨q,h1,h2⟩:=fZ a
 show h q h1 (Ĺ (ahX h2 h2) z)]
def ID(a:aT q=Á)(h:¬q∣v):È (q*q) v=1:=vJ (λr b h1 h2=>by
 let:r∣q:=by obtain z|z:=euclid b h1<;>show z
 rw[bq b a this] at h2
 show h h2) (by let:=az a;show ä .b .b)
def AI(ha:eF a)(j:eF b):eF (jn a b)/\∃g,0<g/\a*b=jn a b*(g*g):=by
 let⟨g,u,v,m,h,e,i,l⟩:=Jg (b:=b) ha.1;let f:eF u:=uJ ha #[g,by rw[h,ī]];let d:eF v:=uJ j #[g,by rw[e,ī]];show#[?_,g,m,by rw[i,h,e];grind];rw[i];show Oi (ä f.1 d.1) λq c z=>?_;let n:=az c;by_cases w:q∣u
 .let k:¬q∣v:=λt=>by
   let:=ag8 w t;rw[l] at this;let:=ĝ .a this;lia
  show f.2 q .b (iB z (ID c k))
 .rw[ī u v] at z;show d.2 q .b (iB z (ID c w))
def vV(ha:eF a)(e:eF b)(d:eF c):eF (jn (jn a b) c)/\∃g,g≠0/\a*b*c=jn (jn a b) c*g*g:=by
 let⟨h1,g,f,e1⟩:=AI ha e;let⟨h2,k,h,e2⟩:=AI h1 d;show#[h2,k*g,ä .b .b,?_];rw[e1];let:jn a b*(g*g)*c=(jn a b*c)*(g*g):=by grind
 rw[this,e2];grind
def QU(b:k∈cD 6)(c:q=1\/(aT q=Á/\17<=q/\q<=8089)):eF (k*q):=by
 obtain rfl|⟨h1,h2,_⟩:=c
 .rw[Ċ];show jE b
 .show jQ (jE b) h1 λz=>?_;let:=y8 b h1 z;let a:∀p∈Q6,p<=13:=by decide
  let:=a _ this;lia
def uv(x y:Int):Prop:=∃s t,s≠0/\t≠0/\x*s*s=y*t*t
def uv.says(hp:Pl p)(ha:a≠0)(d:x≠0)(c:y≠0)(h:uv x y):aq a x p=aq a y p:=by
 let⟨s,t,f,b,e⟩:=h;rw[<-eL hp ha d f,e,eL hp ha c b]
def uv.trans{z:Int}(h:uv x y)(h':uv y z):uv x z:=by
 let⟨s,t,f,b,e⟩:=h;let⟨u,v,d,a,c⟩:=h';show#[s*u,t*v,ä f d,ä b a,?_];let h1:x*(s*u)*(s*u)=(x*s*s)*(u*u):=by grind
 let h2:z*(t*v)*(t*v)=(z*v*v)*(t*t):=by grind
 rw[h1,h2,e,<-c];grind
def uv.symm{x y:Int}(h:uv x y):uv y x:=by
 let⟨s,t,b,a,e⟩:=h;show#[t,s,a,b,e.symm]
def uv.WT(ha:a≠0)(h:uv (a*x) (a*y)):uv x y:=by
 let⟨s,t,c,b,e⟩:=h;show#[s,t,c,b,afc ha ?_];let h1:a*(x*s*s)=a*x*s*s:=by grind
 let h2:a*(y*t*t)=a*y*t*t:=by grind
 rw[h1,h2,e]
def uv.eq(b:eF x)(a:eF y)(h:uv x y):x=y:=by
 let⟨s,t,d,c,e⟩:=h;show(qW (r:=(s.natAbs:Int)) (s:=(t.natAbs:Int)) b a .b .b ?_).1;let h1:(s.natAbs:Int)*(s.natAbs:Int)=s*s:=aft;let h2:(t.natAbs:Int)*(t.natAbs:Int)=t*t:=aft;rw[h1,h2,<-ı,<-ı,e]
structure nX(l m:.L):Prop where
 len:l.length=m.length
 sg:GV l=GV m
 nu:uv (iN l) (iN m)
 sy:∀p,Pl p->qv p l=qv p m
def Ox(hp:Pl p)(a:c≠0):aq (-c) c p=Á:=by
 rw[ba hp a .b];let:=qC hp a
 rwa [Int.zero_sub] at this
def SI(ha:a≠0)(d:b≠0):∀x∈[a,b],x≠0:=λx c=>by
 simp only[ě,ğ,adM] at c;obtain rfl|rfl:=c
 .show ha
 .show d
def Vn(ha:a≠0)(f:b≠0)(e:c≠0):∀x∈[a,b,c],x≠0:=λx d=>by
 obtain rfl|d:=ě.mp d
 .show ha
 .show SI f e x d
def JR(hp:Pl p)(a:c≠0)(b:d≠0):qv p [c,d]=aq c d p:=by
 rw[di hp a (λx e=>by rwa[adv.mp e])];let e1:iN [d]=d:=by change d*1=d;lia
 let e2:qv p [d]=Á:=rfl;rw[e1,e2];cases aq c d p<;>rfl
def nX.two(ha:a≠0)(k:b≠0)(e:c≠0)(g:d≠0)(h:nX [a,b] [c,d]):∀p,Pl p->dM [a,b,-c] p=Á:=by
 intro p hp;by_cases m:p=0
 .subst m;let s:=h.sg;rw[b8,b8,b8,b8] at s;let q:GV []=0:=rfl;rw[q] at s;rw[dq];by_cases c0:0<c
  .show#[#[-c,.c,.b],?_];by_cases i:0<a
   .show#[a,.c,i]
   .show#[b,.c,?_];rw[ac2 i,ac6 c0] at s;split at s<;>lia
  .show#[?_,#[-c,.c,.b]];by_cases i:0<a
   .show#[b,.c,?_];rw[ac6 i,ac2 c0] at s;split at s<;>split at s<;>lia
   .show#[a,.c,.b]
 let f:=SI ha k;let l:=jH f;let o:=jH (SI e g);let c1:-c≠0:=by lia
 let j:(-1:Int)≠0:=by decide
 let n:iN [c,d]=c*d:=by change c*(d*1)=_;rw[Ċ]
 let r:iN [a,b]=a*b:=by change a*(b*1)=_;rw[Ċ]
 rw[eC m,F9 hp ha k c1];let t:qv p [a,b,-c]=qv p [-c,a,b]:=zZ hp (by show(agY (l₁:=[a,b]) (l₂:=[-c]))) (Vn ha k c1);rw[t,di hp c1 f,h.sy p hp,JR hp e g,h.nu.says hp c1 l o,n,aS hp c1 e g,Ox hp e];let e2:-(a*b*-c)=iN [a,b]*c:=by rw[r];grind
 rw[e2,aS hp j l e,h.nu.says hp j l o,n,aS hp j e g]
 let e3:aq (-c) d p=(aq (-1) d p==aq c d p):=by
  let:=gb hp j e g
  rwa [(.b:(-1:Int)*c=-c)] at this
 rw[e3];cases aq (-1) d p<;>cases aq c d p<;>cases aq (-1) c p<;>rfl
def nX.three{f:Int}(ha:a≠0)(z:b≠0)(C:c≠0)(j:d≠0)(he:e≠0)(k:f≠0)(h:nX [a,b,c] [d,e,f]):∀p,Pl p->dM [a,b,c,-d] p=Á:=by
 intro p hp;let N:=Vn ha z C;let J:=Vn j he k;let o:=jH N;let O:=jH J;by_cases r:p=0
 .subst r;let s:=h.sg;rw[dq];rw[b8,b8,b8,b8,b8,b8] at s;let F:GV []=0:=rfl;rw[F] at s;by_cases A:0<d
  .show#[#[-d,.c,.b],?_];by_cases l:0<a
   .show#[a,.c,l]
   by_cases n:0<b
   .show#[b,.c,n]
   show#[c,.c,?_];rw[ac2 l,ac2 n,ac6 A] at s;split at s<;>lia
  .show#[?_,#[-d,.c,.b]];by_cases l:0<a
   .by_cases n:0<b
    .show#[c,.c,?_];rw[ac6 l,ac6 n,ac2 A] at s;split at s<;>split at s<;>split at s<;>lia
    .show#[b,.c,.b]
   .show#[a,.c,.b]
 let i:aT p=Á:=hp.resolve_left r;rw[rf r];by_cases q:DW (a*b*c*-d) p
 .rw[ado q];change yI a b c p=Á;let g:(-1:Int)≠0:=by decide
  let u:e*f≠0:=ä he k;let v:iN [a,b,c]=a*b*c:=by change a*(b*(c*1))=_;rw[Ċ];grind
  let B:iN [d,e,f]=d*(e*f):=by change d*(e*(f*1))=_;rw[Ċ]
  let I:DW (-(e*f)) p:=by
   let⟨s,t,K,H,E⟩:=h.nu;rw[v,B] at E;let G:a*b*c*-d≠0:=ä (by rwa[<-v]) .b;let h1:DW (a*b*c*-d*s*s) p:=(E6 i G K).mpr q
   let h2:a*b*c*-d*s*s=-(e*f)*(d*t)*(d*t):=by
    let:a*b*c*-d*s*s=(a*b*c*s*s)*-d:=by grind
    rw[this,E];grind
   rw[h2] at h1;show(E6 i .b (ä j H)).mp h1
  let y:∀x,x≠0->aq x (e*f) p=aq x (-1) p:=λx D=>by
   let:=aS (a:=x) (b:=-1) (c:=-(e*f)) hp D g .b;rw[(by grind:(-1:Int)*-(e*f)=e*f),vL i D I] at this;rw[this];cases aq x (-1) p<;>rfl
  let α:aq e f p=Á:=by
   let m:=aS (a:=e) (b:=e) (c:=f) hp he he k;rw[y e he,f9 hp he] at m;cases w:aq e f p
   .rw[w] at m;cases L:aq e (-1) p<;>rw[L] at m<;>cases m
   .rfl
  rw[F9 hp ha z C,h.sy p hp,di hp j (SI he k),JR hp he k,α];let e1:iN [e,f]=e*f:=by change e*(f*1)=_;rw[Ċ]
  let e2:-(a*b*c)=-1*iN [a,b,c]:=by rw[v];lia
  rw[e1,y d j,e2,aS hp g g o,h.nu.says hp g o O,B,aS hp g j u,y (-1) g,ba (a:=d) (b:=-1) hp j g];cases aq d (-1) p<;>cases aq (-1) (-1) p<;>rfl
 .rw[adF q];rfl
def nX.tail{m:.L}(ha:a≠0)(c:∀x∈l,x≠0)(d:∀x∈m,x≠0)(h:nX (a::l) (a::m)):nX l m:=by
 let b:uv (iN l) (iN m):=uv.WT ha h.nu;show#[by let:=h.len;simpa using this,?_,b,λp hp=>?_]
 .let s:=h.sg;rw[b8,b8] at s;lia
 .let q:=h.sy p hp;rw[di hp ha c,di hp ha d,b.says hp ha (jH c) (jH d)] at q;let key:∀x y z:Bool,(x==y)=(x==z)->y=z:=by decide
  show key _ _ _ q
def IZ{t:Int}(ha:a≠0)(g:b≠0)(i:c≠0)(he:e≠0)(m:s≠0)(j:t≠0)(e1:a*x*x+b*y*y=c*s*s)(e2:a*b*c=e*t*t):GV (c::e::l)=GV (a::b::l):=by
 let⟨n,k,h⟩:=Il ha g i he m j e1 e2;rw[b8,b8,b8,b8];obtain f|f:=Ν ha<;>obtain d|d:=Ν g
 .let:=k #[f,d];rw[ac2 .b,ac2 .b,ac2 .b,ac2 .b]
 .obtain w|w:=h (.inr #[f,d])
  .rw[ac6 .b,ac2 .b,ac2 .b,ac6 .b];lia
  .rw[ac2 .b,ac6 .b,ac2 .b,ac6 .b]
 .obtain w|w:=h (.inl #[f,d])
  .rw[ac6 .b,ac2 .b,ac6 .b,ac2 .b]
  .rw[ac2 .b,ac6 .b,ac6 .b,ac2 .b];lia
 .let:=n #[f,d];rw[ac6 .b,ac6 .b,ac6 .b,ac6 .b]
def nX.turn{t:Int}{m:.L}(ha:a≠0)(g:b≠0)(d:c≠0)(he:e≠0)(i:s≠0)(f:t≠0)(j:∀x∈l,x≠0)(e1:a*x*x+b*y*y=c*s*s)(e2:a*b*c=e*t*t)(h:nX (a::b::l) m):nX (c::e::l) m:=by
 show#[h.len,(IZ ha g d he i f e1 e2).trans h.sg,uv.trans #[t,c,f,d,?_] h.nu,λp hp=>(M4 hp ha g d he i f j e1 e2).trans (h.sy p hp)];change c*(e*iN l)*t*t=a*(b*iN l)*c*c;let:c*(e*iN l)*t*t=(e*t*t)*(c*iN l):=by grind
 rw[this,<-e2];grind
def nX.perm{a m:.L}(hp:l.Perm a)(b:∀x∈l,x≠0)(h:nX l m):nX a m :=
 #[hp.length_eq.symm.trans h.len,((hp.filter _).length_eq.symm.trans h.sg:GV a=GV m),by rw[<-BC hp];show h.nu,λp q=>(zZ q hp b).symm.trans (h.sy p q)]
noncomputable def VN(n:Nat):Nat:=n*n/4+2*n+min n 2
def FP:∀L,L<30->VN L<=270/\∀l,l<30->(l+2<=L\/(L<=2/\l+1<=L))->VN l+L+2<=VN L:=by decide +kernel
noncomputable def ps(a:Int):Nat:=VN (lg a)
def A6(b:a≠0)(h:a.natAbs<1073741824):ps a<=270:=(FP _ (by let:=vT b h;lia)).1
def EK(b:a≠0):a.natAbs<2^(lg a+1):=(agg .b).mp (afv _)
def Jh(f:2<=b.natAbs)(d:eF c)(h:4*c.natAbs<=b.natAbs+4):lg c+2<=lg b\/(lg b<=2/\lg c+1<=lg b):=by
 let c0:=d.1;let h1:=El f c0 h;by_cases h2:lg b<=2
 .show .inr #[h2,h1]
 show .inl ?_;let b1:=EK (a:=b) .b;obtain⟨m,g⟩:∃m,lg b=m+3:=#[lg b-3,.b];rw[g,(.b:m+3+1=m+2+2),ϸ] at b1;let cl:c.natAbs<=2^(m+2):=by lia
 let ne:c.natAbs≠2^(m+2):=λe=>d.2 2 .a (ad5.mp (by
  rw[e,ϸ]
  show Nat.dvd_mul_left _ _))
 let:lg c<m+2:=(agg .b).mpr .b;lia
def half_lt(a:b≠0)(h:2*r.natAbs<=b.natAbs):r.natAbs<2^lg b:=by
 let:=EK a;rw[afA] at this;lia
def Iy(f:s≠0)(ha:a.natAbs<=b.natAbs)(d:2*r.natAbs<=b.natAbs)(g:2<=b.natAbs)(e:r*r-a=b*c*(s*s)):(c*s).natAbs<2^(lg b+1):=by
 let h2:(c*s).natAbs<=(c*(s*s)).natAbs:=by
  rw[<-ı,ļ (c*s)];show ahQ _ .b
 let:=EB (k:=c*(s*s)) ha d .b (by rw[e,ı]);let:=EK (a:=b) .b;lia
def Lx{A:Int}(d:A≠0)(a:0<u)(c:k.natAbs<2^60)(e:k=A*(u*u)):u.natAbs<2^30:=by
 apply ģ;intro b;let h1:2^30*2^30<=u.natAbs*u.natAbs:=afa .b .b
 let h2:u.natAbs*u.natAbs<=k.natAbs:=by
  rw[e,ļ,ļ];show ae6 _ .b
 lia
def ka(q x:Int):Prop:=eF x/\x∣30030*q
def Qk(q:Int):Prop:=q=1\/(aT q=Á/\17<=q/\q<=8089)
def Qk.pos(h:Qk q):0<q/\q<=8089:=by
 obtain rfl|⟨_,h,h'⟩:=h
 .decide
 .lia
def ka.lt(b:Qk q)(h:ka q x):x≠0/\x.natAbs<1073741824:=by
 let c:=b.pos;show#[h.1.1,?_];let:=ĝ (a:=(x.natAbs:Int)) .b (ahg.mpr h.2);lia
theorem ka.jn{q x y:Int}(a:ka q x)(b:ka q y):ka q (jn x y):=#[(AI a.1 b.1).1,Kl a.1.1 a.2 b.2]
def ka.neg(h:ka q x):ka q (-x):=#[nR h.1,Int.neg_dvd.mpr h.2]
def vR(h:x∈cD 6):ka q x:=#[jE h,Int.dvd_mul_of_dvd_left (lF h)]
def T6(a:k∈cD 6)(b:Qk q):ka q (k*q):=#[QU a b,ahX (lF a) (Ϩ q)]
def Bg(a:Qk q)(h:x∣30030*q)(hp:aT p=Á)(b:p∣x):p<32768:=by
 obtain z|z:=euclid hp (Ĺ b h)
 .let:=ĝ .a z;lia
 .let:=ĝ a.pos.1 z;let:=a.pos;lia
def ka.Wl(a:Qk q)(c:ka q x)(b:ka q y):Tame (x*y).natAbs:=by
 let n:x*y≠0:=ä c.1.1 b.1.1;show .inl #[((x*y).natAbs:Int),1,λp hp d=>?_,.b,ń 1,.b];obtain z|z:=euclid hp (aet.mp d)
 .show Bg a c.2 hp z
 .show Bg a b.2 hp z
def ND(ha:a≠0)(e:b≠0)(d:c≠0)(hp:Pl p)(h:dM [a,b,c] p=Á):dM [c,a,b] p=Á:=by
 by_cases f:p=0
 .subst f;rw[dq] at h ⊢;let⟨⟨x,k,g⟩,⟨y,i,j⟩⟩:=h
  let m:∀z:Int,z∈[a,b,c]->z∈[c,a,b]:=λz hz=>by
   simp only[ě,ğ,adM] at hz ⊢;lia
  show#[#[x,m x k,g],#[y,m y i,j]]
 rw[eC f,F9 hp ha e d] at h;rw[eC f,F9 hp d ha e,show qv p [c,a,b]=qv p [a,b,c] from (zZ hp (agY (l₁:=[a,b]) (l₂:=[c])) (Vn ha e d)).symm,(by grind:c*a*b=a*b*c)];show h
noncomputable def CB(row:.L):Tb:=Tj (row.map λk=>(k,1))
def y_(k:Int):val (k,1)=(k:Rat):=by
 unfold val;rw[af8,ahj,show((1:Int):Rat)=1 from rfl,(.d:(1:Rat)⁻¹=1),agK]
def val_inv{t:Int}(h:t≠0):val (1,t)=(t:Rat)⁻¹:=by
 unfold val;rw[af8,ahj,show((1:Int):Rat)=1 from rfl,Χ]
def F8(a:Int):dc (a,1):=#[by change(1:Int)<=1;decide,by change È a 1=1;show ahx _]
def Bb(row:.L):Sq row.length (CB row):=by
 let h:=Om (us:=row.map λk=>((k,1):Fr)) (Q:=dc) (F8 0) λu a=>by
  let⟨k,_,rfl⟩:=adn.mp a;show F8 k
 rw[ą] at h;show#[h.len,h.row,h.all]
def Fh{row:.L}(hi:i<row.length)(a:j<row.length):Tf (CB row) i j=if i=j then (row.getD i 0:Rat) else 0:=by
 let e:(row.map λk=>((k,1):Fr)).length=row.length:=ą ..;let:=OJ (us:=row.map λk=>((k,1):Fr)) (i:=i) (j:=j) .b .b;change val (ent (Tj _) i j)=_;rw[this];by_cases z:i=j
 .rw[ac6 z,ac6 z,getD_map (e:=0) hi,y_]
 .rw[ac2 z,ac2 z,Gm]
def L7{row:.L}{T:Tb}(b:Sq row.length T)(hi:i<row.length)(e:j<row.length):Tf (mh (CB row) T) i j=sN (λk=>(row.getD k 0:Rat)*(Tf T k i*Tf T k j)) row.length:=by
 let d:=Bb row;unfold mh;rw[kE b.n_ (d.iL b) hi e];show fA _ λm a=>?_;rw[Aw b hi a,kE d b a e,y6 (i:=m) _ a (λl f c=>by rw[Fh a f,ac2 (λz=>c z.symm),agx]),Fh a a,ac6 rfl];grind
theorem IL{f:Nat->Rat}{i j:Nat}(a:i<j):∀n,j<n->(∀k,k<n->k≠i->k≠j->f k=0)->sN f n=f i+f j
 |0,h,_=>by lia
 |n+1,h,b=>by
  change sN f n+f n=f i+f j;by_cases z:j=n
  .subst z;rw[y6 (i:=i) _ a λk d c=>b k .b c .b]
  .rw[IL a n .b λk d=>b k .b,b n .b .b (λw=>z w.symm)];grind
structure VY(n i j:Nat)(x y z w:Rat)(C:Tb):Prop where
 sq:Sq n C
 ij:i<j
 jn:j<n
 ii:Tf C i i=x
 ji:Tf C j i=y
 zj:Tf C i j=z
 jj:Tf C j j=w
 ci:∀k,k<n->k≠i->k≠j->Tf C k i=0/\Tf C k j=0
 pl:∀k q,k<n->q<n->q≠i->q≠j->Tf C k q=if k=q then 1 else 0
def pV{M:Type}{l:List M}{k:Nat}{v d:M}(h:i<l.length):(l.set i v).getD k d=if k=i then v else l.getD k d:=by
 rw[ċ,ċ];by_cases z:k=i
 .subst z;rw[ac6 rfl,aeR h];rfl
 .rw[ac2 z,ae1 (λw=>z w.symm)]
def VY.led{x y:Rat}{C:Tb}{row:.L}{t:Int}(G:row.length=n)(h:VY n i j x y (-(b:Rat)*(y*(t:Rat)⁻¹)) ((a:Rat)*(x*(t:Rat)⁻¹)) C)(ha:row.getD i 0=a)(v:row.getD j 0=b)(H:t≠0)(h1:(a:Rat)*x*x+b*y*y=c)(h2:a*b*c=e*t*t):mh (CB row) C=CB ((row.set i c).set j e):=by
 subst G;let I:=h.ij;let jn:=h.jn;let D:((row.set i c).set j e).length=row.length:=by rw[Ō,Ō]
 let J:(t:Rat)*(t:Rat)⁻¹=1:=afC _ λz=>H (ag9.mp (by rw[z];rfl))
 let w:(a:Rat)*b*c=e*t*t:=by
  let:=congrArg (λk:Int=>(k:Rat)) h2;simp only[Rat.intCast_mul] at this;show this
 let F:∀k,((row.set i c).set j e).getD k 0=if k=j then e else if k=i then c else row.getD k 0:=λk=>by
  rw[pV (by rw[Ō];show jn)];split
  .rfl
  .rw[pV .b]
 let B:Sq row.length (CB ((row.set i c).set j e)):=by let:=Bb ((row.set i c).set j e);rwa [D] at this
 show DF (Rf (Bb row) h.sq) B λp hp q u=>?_;rw[L7 h.sq hp u,Fh (by rwa[D]) (by rwa[D]),F];let two:∀f:Nat->Rat,(∀k,k<row.length->k≠i->k≠j->f k=0)->sN f row.length=f i+f j:=λf E=>IL I _ jn E;by_cases pi:p=i
 .subst pi;by_cases d:q=p
  .subst d;rw[ac6 rfl,ac2 .b,ac6 rfl,two _ λk l o m=>by rw[(h.ci k l o m).1];grind];rw[h.ii,h.ji,ha,v,<-h1];grind
  .rw[ac2 (λz=>d z.symm)];by_cases g:q=j
   .subst g;rw[two _ λk l o m=>by rw[(h.ci k l o m).1];grind];rw[h.ii,h.ji,h.zj,h.jj,ha,v];grind
   .rw[two _ λk l o m=>by rw[(h.ci k l o m).1];grind];rw[h.pl p q hp u d g,h.pl j q jn u d g,ac2 (λz=>d z.symm),ac2 (λz=>g z.symm)];grind
 .by_cases r:p=j
  .subst r;by_cases d:q=i
   .subst d;rw[ac2 pi,two _ λk l o m=>by rw[(h.ci k l o m).1];grind];rw[h.ii,h.ji,h.zj,h.jj,ha,v];grind
   .by_cases g:q=p
    .subst g;rw[ac6 rfl,ac6 rfl,two _ λk l o m=>by rw[(h.ci k l o m).2];grind];rw[h.zj,h.jj,ha,v];generalize (t:Rat)⁻¹=s at *;let o:(a:Rat)*(-(b:Rat)*(y*s)*(-(b:Rat)*(y*s)))+(b:Rat)*((a:Rat)*(x*s)*((a:Rat)*(x*s)))=(a:Rat)*b*((a:Rat)*x*x+b*y*y)*(s*s):=by grind
     let m:(e:Rat)*t*t*(s*s)=e*((t*s)*(t*s)):=by grind
     rw[o,h1,w,m,J];grind
    .rw[ac2 (λz=>g z.symm),two _ λk l o m=>by rw[(h.ci k l o m).2];grind];rw[h.pl i q .b u d g,h.pl p q hp u d g,ac2 (λz=>d z.symm),ac2 (λz=>g z.symm)];grind
  .rw[ac2 r,ac2 pi,y6 (i:=p) _ hp λk l A=>by rw[h.pl k p l hp pi r,ac2 A];grind];rw[h.pl p p hp hp pi r,ac6 rfl];by_cases d:q=i
   .subst d;rw[(h.ci p hp pi r).1,ac2 pi];grind
   .by_cases g:q=j
    .subst g;rw[(h.ci p hp pi r).2,ac2 r];grind
    .rw[h.pl p q hp u d g];split
     .grind
     .grind
noncomputable def qU(T:Tb)(p q:Nat)(u:Fr):Tb:=T.set p ((T.getD p []).set q u)
def lA{T:Tb}(h:Sq n T){p:Nat}(hp:p<n):(T.getD p []).length=n:=h.row _ (getD_mem (by rwa[h.len]))
def kH{T:Tb}(h:Sq n T){p q:Nat}{u:Fr}(hp:p<n)(c:dc u):Sq n (qU T p q u):=by
 show#[by unfold qU;rw[Ō];show h.len,λr b=>?_,λr b v a=>?_]
 .obtain z|z:=aeG b
  .show h.row r z
  .rw[z,Ō];show lA h hp
 .obtain z|z:=aeG b
  .show h.low r z v a
  .rw[z] at a;obtain w|w:=aeG a
   .show h.low _ (getD_mem (by rwa[h.len])) v w
   .rwa[w]
def uG{T:Tb}(h:Sq n T){p q a b:Nat}{u:Fr}(hp:p<n)(c:q<n):Tf (qU T p q u) a b=if a=p/\b=q then val u else Tf T a b:=by
 unfold Tf qU;rw[pV (by rwa[h.len])];by_cases z:a=p
 .rw[ac6 z,pV (by rwa[lA h hp])];by_cases w:b=q
  .rw[ac6 w,ac6 #[z,w]]
  .rw[ac2 w,ac2 (λk=>w k.2),z]
 .rw[ac2 z,ac2 (λk=>z k.1)]
noncomputable def Wc(n i j:Nat)(x y z w:Fr):Tb:=qU (qU (qU (qU (uU n) i i x) j i y) i j z) j j w
def Gj(hi:i<n)(a:j<n):Tf (uU n) i j=if i=j then 1 else 0:=by
 unfold Tf uU;rw[getD_map (e:=0) (by rwa[eU])];unfold zU;rw[getD_map (e:=0) (by rwa[eU])]
 let e:∀k,k<n->(uK n).getD k 0=(k:Int):=λk b=>by
  unfold uK;rw[ċ,Ĵ,agi b];rfl
 rw[e i hi,e j a];by_cases z:i=j
 .subst z;rw[ac6 rfl];simp;show y_ 1
 .rw[ac2 z,ac2 .b];show Gm
def RL{x y z w:Fr}(e:i<j)(c:j<n)(o:dc x)(m:dc y)(hz:dc z)(s:dc w):VY n i j (val x) (val y) (val z) (val w) (Wc n i j x y z w):=by
 let h:=g_ n;let f:=kH h (p:=i) (q:=i) (.b:i<n) o;let g:=kH f (p:=j) (q:=i) c m;let l:=kH g (p:=i) (q:=j) (.b:i<n) hz;let u:=kH l (p:=j) (q:=j) c s
 let key:∀a b,Tf (Wc n i j x y z w) a b=if a=j/\b=j then val w else if a=i/\b=j then val z else if a=j/\b=i then val y else if a=i/\b=i then val x else Tf (uU n) a b:=λa b=>by
  unfold Wc;rw[uG l c c,uG g (.b:i<n) c,uG f c (.b:i<n),uG h (.b:i<n) (.b:i<n)]
 show#[u,e,c,?_,?_,?_,?_,λk d v t=>#[?_,?_],λk q d r B A=>?_]
 .rw[key,ac2 .b,ac2 .b,ac2 .b,ac6 #[rfl,rfl]]
 .rw[key,ac2 .b,ac2 .b,ac6 #[rfl,rfl]]
 .rw[key,ac2 .b,ac6 #[rfl,rfl]]
 .rw[key,ac6 #[rfl,rfl]]
 .rw[key,ac2 .b,ac2 .b,ac2 .b,ac2 .b,Gj d .b,ac2 v]
 .rw[key,ac2 .b,ac2 .b,ac2 .b,ac2 .b,Gj d .b,ac2 t]
 .rw[key,ac2 .b,ac2 .b,ac2 .b,ac2 .b,Gj d r]
end Q
namespace L2.EP
open PySem PySem.Spec PyProof.Rows
variable{x y:Í}{H:Hp}{k:Int}{u:Int×Int}{p1 p:ï}{K:Ä}{N:Nn}{v:V}
theorem PX{M β:Type}{R:M->β->Prop}:∀{xs:List M} {us:List β},xs.length=us.length->(∀(i:Nat) x u,xs[i]?=À x->us[i]?=À u->R x u)->Ý R xs us
 |[],[],_,_=>.nil
 |[],_::_,h,_=>nomatch h
 |_::_,[],h,_=>nomatch h
 |x::xs,u::us,h,f=>.cons (f 0 x u rfl rfl) (PX (Nat.succ.inj h) λi a b h1 h2=>f (i+1) a b h1 h2)
section
variable{X:Cx}{U:aM}{D:GD}{M β γ:Type}[Py M][Py β][Py γ]{e e1 e2 ek ec:Ô}{b b1 b2:Bool}{pos:ï}{rest st:List Ð}
def Fp(i j:Nat){p2 e:ï}{k:Nat}(c:X.N.Nodup)(d:X.calm=Á<|>zra)(hi:X.N[i]?=À x<|>zra)(n:X.N[j]?=À y<|>zra)
  (l:Loc X.env.scope x<|>zrf) (g:Loc X.env.scope y<|>zrf)
  (h:X.fn x=Á\/X.env.scope.names.lookup x=À .local<|>zrf) (a:X.fn y=Á\/X.env.scope.names.lookup y=À .local<|>zrf)
  (p:(Û [.Name x p1,.Name y p2] X.env).length=2<|>zra)
  (f:(Û [.Name x p1,.Name y p2] X.env).findIdx? (·.1)=none<|>zra) (o:Û [.Name x p1,.Name y p2] X.env=(Â,Ć (.Name x p1) X.env)::Û [.Name y p2] X.env<|>zra) (m:Û [.Name y p2] X.env=(Â,Ć (.Name y p2) X.env)::Û [] X.env<|>zra):
  G X (.Tuple [.Name x p1,.Name y p2] k e) (NV X.K 2 (xg (l_ i) (xg (l_ j) Oz))) (M×β) (λb u U=>(U.set i (À (.val b u.1))).set j (À (.val b u.2))) (λk=>k=i\/k=j):=by stop show#[Dq d (gI (ib c hi l h) (gI (ib c n g a) AE)),Dy i j]
variable{e3:Ô}{b3:Bool}
def U6(r:Ç)(lo hi c:Int)(h:á):Prop:=∃t u v,IsRange h r lo hi c t u v
def xN(z:X.calm=Á):h9 X (.type "list") (λxs H Q=>∃(r:Ç) (i j c:Int) (n:Nat),xs=[.ref r]/\H r=À (.ext (U6 r i j c))/\(-(2^62)<=i/\i<2^62/\-(2^62)<=j/\j<2^62)/\(c≠0/\-1000<=c/\c<=1000)/\Ò i j c=n/\n<=2^24 /\
  ∀l,H l=none->Q (.ref l) (upd H l (.lst ((jc i c n).map V.int)))):=by
 intro ZB s Y H xs us Q I F h;let⟨r,i,j,c,n,rfl,A,⟨y,f,p,B⟩,⟨c0,c1,c2⟩,α,e,q⟩:=h;let⟨u,rfl,D⟩:=vals1 F;cases D;let⟨⟨O,P,N,K⟩,_⟩:=(show jf X.prog X.w H s.heap r (.ext (U6 r i j c)) from I.hok r _ A);show call_list_range (I.ok.hd z) K (Ga y f p B c0 c1 c2) α e λh' tk b c' L G d=>?_
 let C:Vals ((jc i c n).map V.int) b.toList:=by
  show PX (by rw[ą,fR,<-d.1];simp) λk x v h1 h2=>?_;rw[Ĵ] at h1;let⟨t,g⟩:=d.2 k v (by rwa[<-aeU]);cases e5:(jc i c n)[k]? with
  |none=>rw[e5] at h1;cases h1
  |some m =>
   rw[e5] at h1;cases h1;let⟨_,E⟩:=mU e5;subst E;show#[t,g]
 let J:=I.laid (t':=tk) (h':=h') (a:=s.heap.objs.size) (o:=.lst ((jc i c n).map V.int)) L (ú _) #[by rwa[ą,fR],b.toList,c',C,by rw[Array.toArray_toList];show G];show#[.ref s.heap.objs.size,_,J,rfl,q _ (I.hok.fresh (ú _))]
theorem A_{K:Ä}{N:Nn}{H:Hp}:∀ns:.L,Ý (λx (b:Int)=>Py.rp K N H x b) (ns.map V.int) ns
 |[]=>.nil
 |_::ns=>.cons rfl (A_ ns)
def wA{xs:List M}{i:Int}{a:M}(ha:E X U e1 b (zA.mk xs))(l:E X U e2 b2 i)(h:tP xs i=À a)(s:ic e2<|>zrj):E X U (.Subscript e1 e2 pos) b a:=by
 stop
  show aK (j8 lG ha l s) λY H Q ⟨H0,F,O,S,q⟩=>#[H0,F,O,S,λv H1 d u=>#[H0,F,O,S.go d,λw H2 c m=>by
    let⟨p,vs,e,y,r⟩:=u;let⟨j,h1,h2,z,A,B⟩:=pE h;let⟨x,o,n⟩:=i7 r h2;show#[p,vs,i,x,e,m,(cZ (au _ _) (cZ (ah c) y)).t,?_,q x H2 (d.trans c) (aw (ah c) n)];unfold tP at h ⊢;rw[br r];cases f:Bq xs.length i with
    |none=>rw[f] at h;cases h
    |some k =>
     let g:=(p8 f).1;rw[h1] at g;cases g
     show o]]
end
noncomputable instance:PyD (Int⊕(Int×Int)) where
 dat a:=match a with|.inl i=>.int i|.inr u=>.tuple [.int u.1,.int u.2]
 dr {K N H v a} h:=by
  cases a with
  |inl i=>show PyD.dr (M:=Int) (N:=N) h
  |inr u=>show PyD.dr (M:=Int×Int) (N:=N) h
 lay a:=by
  cases a with
  |inl i=>show PyD.lay (M:=Int) i
  |inr u=>show PyD.lay (M:=Int×Int) u
 dep:=PyD.dep (Int×Int)
 depth a:=by
  cases a with
  |inl i=>show ĭ (PyD.depth (M:=Int) i) (Ņ _)
  |inr u=>show PyD.depth (M:=Int×Int) u
 eqv a b:=by
  cases a with
  |inl i=>cases b with
   |inl j=>show(PyD.eqv (M:=Int) i j).trans #[λh=>by rw[h],λh=>by injection h]
   |inr u=>simp[ê]
  |inr v=>cases b with
   |inl j=>simp[ê]
   |inr u=>show(PyD.eqv (M:=Int×Int) v u).trans #[λh=>by rw[h],λh=>by injection h]
section
variable{X:Cx}{U:aM}{D:GD}{M β γ:Type}[Py M][Py β][Py γ]{e e1 e2 ek:Ô}{b b1 b2:Bool}{pos:ï}{rest st:List Ð}
def oX(i:Nat){as:List M}{a:M}{p':ï}(t:U[i]?=À (À (.own b as)))(K:E X U ek b2 k)(he:E X U e b a)(W:0<=k)(I:k<as.length)(h:S X (U.set i (À (.own b (as.set ↥k a)))) rest D)(hi:X.N[i]?=À x<|>zra)
  (G:Hy X.env.scope x<|>zre) (P:(x==("__debug__":Í))=Â<|>zrb) (l:(x==("__classdict__":Í))=Â<|>zrb)
  (ha:∀v,Ć (.Subscript .H ek p') X.env v=(do
   let g <-ġ [v] (Õ .H X.env);let r <-ġ [v,g] (Õ ek X.env)
   Ϙ p'
   ġ [v,g,r] (setItem g r v)
   release [v,g,r] []):=by intro _;rfl)
  (B:ő [.Subscript .H ek p'] e pos.line X.env=pure Â<|>zra) (Γ:Œ [.Subscript .H ek p'] e X.env=pure none<|>zra)
  (h1:(Û [.Subscript .H ek p'] X.env).map (·.2)=[Ć (.Subscript .H ek p') X.env]<|>zra):S X U (.Assign [.Subscript .H ek p'] e pos::rest) D:=by
 stop
  show c9 (c7 (D6 he (Ja (pv i hi G P l) K set_list ha) B Γ h1) λDe Y H ⟨H0,F,O,Z,n,_⟩=>#[H0,F,O,Z,λu H1 f C=>by
    let⟨v,w,d,_,_,_⟩:=(Z.go f).write t É;show#[v,d,H0,F,O,Z.go f,λy H3 m L=>?_];let⟨α,w,c,⟨q,ys,e1,j,T,s⟩,hO,wr⟩:=(Z.go (f.trans m)).write t É;rw[d] at c;let ev:v=α:=ĳ (ĳ c);subst ev;let J:y=V.int k:=L;subst J;let Q:k<ys.length:=by rwa[br s]
    let o:Bq ys.length k=À ↥k:=by
     unfold Bq;rw[ac6 W,ac6 .b]
    show#[q,ys,k,↥k,e1,rfl,T,o,?_]
    let⟨A,R⟩:=wr q (ys.set ↥k u) (À (.own b (as.set ↥k a))) j λz σ=>by
     cases σ;show#[É,q,_,e1,j,aY,?_];rw[k5 (hO q j).1];show D7 (aw (ah m) C) ↥k s
    show n _ _ _ _ (by rw[R];show ah (f.trans m)) A h])
def HV(i:Nat){a:M}(d:U[i]?=À (À (.dpo (À a))))(h:S X (U.set i (À (.dpo a))) st D):S X U st D:=by
 stop
  show mL h λp Y H ⟨H0,F,O,Z,n,r,bk,ct⟩=>by
   let b:i<U.length:=by
    obtain z|z:=ags i U.length
    .show z
    .rw[Ϲ z] at d;cases d
   show#[H0,F,O,#[Z.same,Z.fo,Z.f0,Z.own,by rw[Ō];show Z.len,λj g e no=>?_,?_],n,r,bk,ct]
   .by_cases c:j=i
    .subst c;rw[get_set_eq b] at e;cases e;show absurd É no
    .rw[get_set_ne c] at e;show Z.at_ j g e no
   .let⟨k,m,l,f⟩:=Z.dis;show#[k,m,l,λj g e o=>?_];by_cases c:j=i
    .subst c;rw[get_set_eq b] at e;cases e;let⟨v,h1,h2⟩:=f j _ d É;show#[v,h1,h2]
    .rw[get_set_ne c] at e;show f j g e o
variable{elt target iter:Ô}{b':Bool}{Y2:Ā}{tn:List Í}{js:List Nat}{g:TG}{tc:Nat->Prop}{put:Bool->M->aM->aM}{as:List M}
def IC{f:M->List β}(tn:List Í)(js:List Nat)(S:gA X Y2 tn js)(he:EI X U target iter b as)(c:GP g M put tc X.K)(k:∀C s H fp,PG .I target g)(d:∀j,tc j->j<tn.length)
  (h:∀(i:Nat) (a:M),as[i]?=À a->∀C s H fp,EN .I (put b a (cΓ U tn js)) elt (f a)) (n:as.length<=1000) (e:X.calm=Á<|>zra)
  (m:(∀x,Þ iter X.env x=pure x)<|>zrc):E X U (.ListComp elt [#[target,iter,[],0]] Y2 pos) Á (Jj.mk (as.map f)):=by stop let⟨wi,hi,l⟩:=he;show aK (PN S e hi (λC s H fp=>#[k C s H fp,zH,QA]) m) λY H Q ⟨H0,F,O,Z,q⟩=>K6 l c d h n Z λv H' s' r'=>q v H' s' (iV Z.same r')
def Ex(o:Nat){as:List M}{i:Int}{a:M}(l:U[o]?=À (À (.own b as)))(e:E X U e2 b2 i)(h:tP as i=À a)(hi:X.N[o]?=À x<|>zra)
  (D:Hy X.env.scope x<|>zre) (A:(x==("__debug__":Í))=Â<|>zrb) (f:(x==("__classdict__":Í))=Â<|>zrb)
  (B:ic e2<|>zrj):E X U (.Subscript .H e2 pos) b a:=by
 stop
  show aK (j8 u9 (pv o hi D A f) e B) λY H Q ⟨H0,F,O,Z,q⟩=>by
   let⟨v,r,d,_,_,_⟩:=Z.write l É;show#[v,d,H0,F,O,Z,λw H2 n s=>?_];let⟨u,r,c,⟨G,ys,e1,K,C,m⟩,_,_⟩:=(Z.go n).write l É;rw[d] at c;let ev:v=u:=ĳ (ĳ c);subst ev;let⟨j,h1,h2,I,J,L⟩:=pE h;let⟨y,z,t⟩:=i7 m h2;show#[G,ys,i,y,e1,s,cS.of C,?_,q y H2 n t];unfold tP at h ⊢;rw[br m];cases g:Bq as.length i with
   |none=>rw[g] at h;cases h
   |some k =>
    let e:=(p8 g).1;rw[h1] at e;cases e;show z
def sX[PyT β](i:Nat){as:List M}{c:β}(j:U[i]?=À (À (.own b1 as)))(h:E X (U.set i (À (.val b1 as))) e b c):E X U e Á c:=by
 stop
  show aK h λY H Q ⟨H0,F,O,Z,q⟩=>by
   let⟨a,f,m⟩:=Z.freeze j É (g':=.val b1 as) (λz=>z) λl a v d k g _=>IW d k g;show#[H0,F,a,f,λv H' s r=>q v H' s ?_];show PyT.free (λp xs w=>vm (Z.go s).own p xs (aI.rt (au _ _) w)) r
variable{c:Ô}{f:M->β}{p:M->Bool}{ifs:List Ô}
variable{κ:Type}[Py κ]{ec:Ô}
def NY[PyT β](i:Nat){f:M->β}{py c:ï}{rest:List Ð}(o:X.N.Nodup)(tn:List Í)(js:List Nat)(α:gA X Y2 tn js)(he:EI X U target iter b as)(k:GP g M put tc X.K)(I:∀C s H fp,PG .I target g)(l:∀j,tc j->j<tn.length)
  (p:∀(i:Nat) (a:M),as[i]?=À a->∀C s H fp,E .I (put b a (cΓ U tn js)) elt b' (f a)) (P:as.length<=1000)
  (h:S X (U.set i (À (.dpo (as.map f)))) rest D) (e:X.N[i]?=À y<|>zra) (G:Loc X.env.scope y<|>zrf)
  (r:X.fn y=Á\/X.env.scope.names.lookup y=À .local<|>zrf) (B:X.calm=Á<|>zra)
  (d:î (.ListComp elt [#[target,iter,[],0]] Y2 pos) (À (.Name y py)) c.line X.env=pure Á<|>zra)
  (A:(∀x,Þ iter X.env x=pure x)<|>zrc):EP.S X U (.Assign [.Name y py] (.ListComp elt [#[target,iter,[],0]] Y2 pos) c::rest) D:=by
 stop
  let⟨wi,hi,J⟩:=he
  show c9 (c7 (BW o e G r α B hi (λC s H fp=>#[I C s H fp,zH,Dp]) d A) λQ Y H ⟨H0,F,O,Z,n,_⟩=>Ji J k l p P Z λv H1 u L=>by
   let⟨w,t⟩:=Z.rR (i:=i) (v:=v) u (λq=>H q=none/\∃xs:Mt,H1 q=À (mo xs)) (λq z=>z) (Bd.dpo (as.map f)) É (by
    show Py.tr (λq xs m nn=>?_) (λq xs m=>aI.rt (au _ _) m) L;let:=(au _ _) _ _ nn.2
    show⟨Mo.of this,⟨nn.1,xs,this⟩,this⟩)
   show n _ _ _ _ t w h)
end
section
variable{α:Model}{A:è}{E:Å->Æ->Prop}{s:Æ}{base:á}{env:Ŗ}{outer:List Ŗ}{L C e:Ç}
variable{X:Cx}{ZB:List (Ç×ā)}{Y:St}{H H':Hp}{h':á}
end
section
variable{X:Cx}{ZB:List (Ç×ā)}{Y:St}{H:Hp}{s s':Æ}{E:XK}
variable{R:RB}{U:aM}{D:GD}{M β γ:Type}[Py M][Py β][Py γ]{e e1 e2 e3:Ô}{b b1 b2 b3:Bool}{p pos np cpos cps:ï}{st:Ð}{rest body orelse:List Ð}{C:Ç}{cn:Í}
variable{es:List Ô}{f:Ç}{x name:Í}{k:Nat}{ps:List Í}{fd:ð}{t:TA}{sp:Sp}
variable{P:Ó}{w:Ü}{K:Ä}{mg:Í->Option Å}{base:á}{N:List Í}{qual:Í}
end
mutual
inductive DN(K:Ä)(N:Nn)(H:Hp):V->ì->Prop
 |non:DN K N H .non .none
 |bl (b:Bool):DN K N H (.bl b) (.bool b)
 |int (i:Int):DN K N H (.int i) (.int i)
 |str (x:Í):DN K N H (.str x) (.str x)
 |lst {a:Ç} {xs:List V} {ds:List ì}:cS K H a xs->N.has H a (.inl xs)->AS K N H xs ds->DN K N H (.ref a) (.list ds)
 |tup {a:Ç} {xs:List V} {ds:List ì}:Rt H a xs->AS K N H xs ds->DN K N H (.ref a) (.tuple ds)
inductive AS(K:Ä)(N:Nn)(H:Hp):List V->List ì->Prop
 |nil:AS K N H [] []
 |cons {x:V} {xs:List V} {d:ì} {ds:List ì}:DN K N H x d->AS K N H xs ds->AS K N H (x::xs) (d::ds)
end
mutual
theorem DN.tr{K:Ä}{N N':Nn}{H H':Hp}(l:∀p (o:Mt),Mo K H p o->N.has H p o->Mo K H' p o/\N'.has H' p o)(t:∀p xs,Rt H p xs->Rt H' p xs):∀{v:V} {d:ì},DN K N H v d->DN K N' H' v d
 |_,_,.non=>.non
 |_,_,.bl b=>.bl b
 |_,_,.int i=>.int i
 |_,_,.str x=>.str x
 |_,_,.lst (xs:=xs) s n r=>.lst (l _ (.inl xs) s n).1 (l _ (.inl xs) s n).2 (AS.tr l t r)
 |_,_,.tup s r=>.tup (t _ _ s) (AS.tr l t r)
theorem AS.tr{K:Ä}{N N':Nn}{H H':Hp}(l:∀p (o:Mt),Mo K H p o->N.has H p o->Mo K H' p o/\N'.has H' p o)(t:∀p xs,Rt H p xs->Rt H' p xs):∀{v:List V} {d:List ì},AS K N H v d->AS K N' H' v d
 |_,_,.nil=>.nil
 |_,_,.cons h r=>.cons (DN.tr l t h) (AS.tr l t r)
end
structure Dt where
 d:ì
noncomputable instance:Py Dt where
 rp K N H v a:=DN K N H v a.d
 tr l t h:=DN.tr l t h
mutual
theorem DN.dr{K:Ä}{N:Nn}{H:Hp}:∀{v:V} {d:ì},DN K N H v d->DR K H v d
 |_,_,.non=>.non
 |_,_,.bl b=>.bl b
 |_,_,.int i=>.int i
 |_,_,.str x=>.str x
 |_,_,.lst s _ r=>.lst s (AS.dr r)
 |_,_,.tup s r=>.tup (Mz.t (.inl s)) (AS.dr r)
theorem AS.dr{K:Ä}{N:Nn}{H:Hp}:∀{v:List V} {d:List ì},AS K N H v d->HB K H v d
 |_,_,.nil=>.nil
 |_,_,.cons h r=>.cons (DN.dr h) (AS.dr r)
end
theorem Ks{K:Ä}{N:Nn}{H:Hp}:∀{xs:List V} {ds:List ì},AS K N H xs ds->Ý (λx (b:Dt)=>Py.rp K N H x b) xs (ds.map Dt.mk)
 |_,_,.nil=>.nil
 |_,_,.cons h r=>.cons h (Ks r)
theorem LW{K:Ä}{N:Nn}{H:Hp}:∀{xs:List V} {ds:List Dt},Ý (λx (b:Dt)=>Py.rp K N H x b) xs ds->AS K N H xs (ds.map Dt.d)
 |_,_,.nil=>.nil
 |_,_,.cons h r=>.cons h (LW r)
section
variable{X:Cx}{U:aM}{M β:Type}[Py M][Py β]{e e1 e2:Ô}{b b1 b2:Bool}{p p2 pos:ï}
def zC{a:M}{c:β}(h:E X U e b a)(w:∀N H v,Py.rp X.K N H v a->Py.rp X.K N H v c):E X U e b c:=by stop show aK h λY H Q ⟨H0,F,O,S,q⟩=>#[H0,F,O,S,λv H1 f d=>q v H1 f (w _ _ _ d)]
def Ru(h:E X U e b k):E X U e b (Dt.mk (.int k)):=zC h λN H v r=>by cases r;show DN.int k
def WR(h:E X U e b (none:Option Int)):E X U e b (Dt.mk .none):=zC h λN H v r=>by cases r;show DN.non
def MX(h:E X U e b x):E X U e b (Dt.mk (.str x)):=zC h λN H v r=>by cases r;show DN.str x
def Lc(h:E X U e b (Dt.mk (.int k))):E X U e b k:=zC h λN H v r=>by
 let r':DN X.K N H v (.int k):=r;cases r';rfl
def wX{ds:List ì}(h:E X U e b (Dt.mk (.tuple ds))):E X U e b (zA.mk (ds.map Dt.mk)):=zC h λN H v r=>by
 let r':DN X.K N H v (.tuple ds):=r;cases r' with
 |tup a q=>show#[_,_,rfl,.inl a,Ks q]
noncomputable def W_:ì->Bool
 |.tuple _=>Á
 |_=>Â
def Rh{ZB:List (Ç×ā)}{s:Æ}{Y:St}{a:Ç}{xs:List V}(I:Inv X ZB Y H s)(h:Mz X.K H a xs):∃o,s.heap.get? a=À o/\o.cls=.type "tuple":=by
 let⟨Y0,b,pl,_⟩:=I.tuple h.t;let⟨o,h1,h2,_⟩:=pl;show#[o,h1,h2]
def R7{d:ì}(j:Gl X "isinstance")(k:X.mg "isinstance"=none)(a:Gl X "tuple")(f:X.mg "tuple"=none)(ha:E X U e b (Dt.mk d))
  (h:Ã [e,.Name "tuple" p2] X.env=(Â,Õ e X.env)::Ã [.Name "tuple" p2] X.env<|>zra):E X U (.Call (.Name "isinstance" p) [e,.Name "tuple" p2] [] pos) Á (W_ d):=by
 stop
  show Cd j k a f ahR ha (λZB s Y H N v u Q I i r q=>by
    let c:DN X.K N H v d:=i;cases c with
    |non=>cases r;show IsiPair.NoneType_tuple (q _)
    |bl x=>cases r;show IsiPair.bool_tuple (q _)
    |int x=>let⟨t,rfl⟩:=r;show IsiPair.int_tuple (q _)
    |str x=>let⟨t,rfl⟩:=r;show IsiPair.str_tuple (q _)
    |lst g n z =>
     cases r;let⟨Y0,l,pl,_⟩:=I.list g;let⟨o,h1,h2,_⟩:=pl.isList;show IsiPair.list_tuple h1 h2 (q _)
    |tup g z =>
     cases r;let⟨o,h1,h2⟩:=Rh I (.inl g)
     show IsiPair.tuple_tuple h1 h2 (q s.toks)) h
def NM[PyT M]{xs:List M}(ha:E X U e1 b xs)(j:E X U e2 b2 k)(x:0<=k):E X U (.Subscript e1 (.Slice (À e2) none none p2) pos) Á (xs.drop ↥k):=by
 stop
  show aK (mw uN ha (pW j) pK) λY H Q ⟨H0,F,O,S,q⟩=>#[H0,F,O,S,λv H1 c o=>#[H0,F,O,S.go c,λw H2 a m=>by
    let⟨p,vs,e,s,n,r⟩:=o;show#[k,m,p,vs,e,(au _ _).seq ((ah a).seq s),λl g=>?_];let⟨f,i⟩:=bS (xs:=jU vs (À k) none) ((S.go c).go a) g;show q _ _ (c.trans (a.trans f)) #[l,_,rfl,cS.of i,Nf.wk (b:=Á) (((S.go c).go a).fL g) i,?_]
    let ec:jU vs (À k) none=vs.drop ↥k:=by
     unfold jU;let u:k=((↥k:Nat):Int):=by omega
     rw[u,HT.qF,HT.mC];simp only[Ï];by_cases d:↥k<=vs.length
     .rw[ag2 d,aeE (by rw[aeO];show ú _)]
     .rw[agS .f,ae5 (ú _),ae5 .f];simp
    let h:=bc (λ_ _ z=>PyT.free (N':=Nf H0 Á) (λ_ _ t=>aI.rt ((ah a).trans (ah f)) t) z) (uV ↥k r);rw[<-ec] at h
    show h]]
def Qh{ds:List M}{p:ï}(d:Gl X "len")(h:X.mg "len"=none)(ha:E X U e b (zA.mk ds))(a:Ã [e] X.env=(Â,Õ e X.env)::Ã [] X.env<|>zra):E X U (.Call (.Name "len" p) [e] [] pos) Á (ds.length:Int):=by
 stop
  show aK (du kJ d h ah2 (aB ha aW a) (he:=a)) λY H Q ⟨H0,F,O,S,q⟩=>#[H0,F,O,S,λv H1 c f=>by
    let⟨p,vs,e,g,r⟩:=f;show#[p,vs,by rw[e],.inr (cZ (au _ _) g).t,q _ H1 c ?_];change V.int _=V.int _
    rw[br r]]
def xo{es:List Ô}{ds:List Dt}{k:Nat}(h:EA X U es b ds)(f:ds.length<=1000):E X U (.Tuple es k pos) b (Dt.mk (.tuple (ds.map Dt.d))):=by
 stop
  show aK (Dh h) λY H Q ⟨H0,F,O,S,q⟩=>#[H0,F,O,S,λvs H1 a c=>#[by rw[br c];show ŋ (bP f),λp hp=>by
    let⟨e,g⟩:=qu (xs:=vs) (S.go a) hp
    show q _ _ (a.trans e) (DN.tup g (LW (bc (λ_ _ r=>aw (ah e) r) c)))]]
noncomputable def xD(u:Int×Int):ì:=.tuple [.int u.1,.int u.2]
def Iz(h:Py.rp K N H v u):DN K N H v (xD u):=by
 let⟨p,x,y,ev,d,e,c⟩:=h;let b:x=V.int _:=e;let a:y=V.int _:=c;subst ev b a;show DN.tup d (.cons (.int _) (.cons (.int _) .nil))
def Ip(h:DN K N H v (xD u)):Py.rp K N H v u:=by
 unfold xD at h;cases h with
 |tup a q =>
  cases q with
  |cons h1 q =>
   cases h1;cases q with
   |cons h2 q =>
    cases h2;cases q;show#[_,_,_,rfl,a,rfl,rfl]
def OS(h:E X U e b u):E X U e b (Dt.mk (xD u)):=zC h λN H v r=>Iz r
def FL(h:E X U e b (Dt.mk (xD u))):E X U e b u:=zC h λN H v r=>Ip r
variable{D:GD}{γ:Type}[Py γ]{rest st:List Ð}
def oS[PyT M](i:Nat){as:List M}{p pl:ï}(G:X.N.Nodup)(J:Gl X "list")(L:X.mg "list"=none)(ha:E X U e b as)(h:S X (U.set i (À (.own Á as))) rest D)(d:Ã [e] X.env=(Â,Õ e X.env)::Ã [] X.env<|>zra)(hi:X.N[i]?=À x<|>zra)(B:Loc X.env.scope x<|>zrf)
  (g:î (.Call (.Name "list" pl) [e] [] p) (À (.Name x p1)) pos.line X.env=pure Â<|>zra) (m:X.fn x=Á\/X.env.scope.names.lookup x=À .local<|>zrf):S X U (.Assign [.Name x p1] (.Call (.Name "list" pl) [e] [] p) pos::rest) D:=by
 stop
  show c9 (c7 (oR G hi B (iM kX J L afx (aB ha aW d) (he:=d)) g m) λα Y H ⟨H0,F,O,Z,n,_⟩=>#[H0,F,O,Z,λv H1 k K=>by
    let⟨I,vs,ev,C,nn,r⟩:=K;show#[I,vs,by rw[ev],.inl ((au _ _).seq C),λq j=>?_];let u:=cT j (.lst vs);let f:H q=none:=k.free j
    let kp:aI (off H1 O) (off (upd H1 q (.lst vs)) λp=>O p\/p=q):=λa o w=>by
     let⟨A,l⟩:=i8 w;let c:a≠q:=bN l j;rwa[bB (by rintro(z|z);show A z;show c z),aU c]
    let⟨y,s⟩:=Z.rR (i:=i) (v:=.ref q) (k.trans u) (·=q) (λr e=>by subst e;show#[f,.inl vs,aY]) (Bd.own Á as) É ⟨q,vs,rfl,rfl,aY,bc (λ_ _ z=>PyT.free (λ_ _ t=>aI.rt kp t) z) r⟩
    show n _ _ _ _ s y h])
end
section
variable{P:Ó}{w:Ü}{K:Ä}{mg:Í->Option Å}{base h:á}{N:List Í}{k:Nat}{x y:Í}{st:Ð}{C:Ç}{c:Í}
end
structure dO where
 i:Int
 j:Int
 x:Int×Int
 y:Int×Int
noncomputable def me(s:dO):ì:=.tuple [.int s.i,.int s.j,xD s.x,xD s.y]
section
variable{X:Cx}{R:RB}{U:aM}{D:GD}{M β γ δ:Type}[Py M][Py β][Py γ][Py δ]{e e1 e2 e3:Ô}{b b1 b2 b3:Bool}{p pos:ï}{rest st:List Ð}{C:Ç}{name:Í}{k:Nat}{ps:List Í}
def EV{s:dO}(h:E X U e b (Dt.mk (me s)))(h2:E X U e2 b2 (0:Int))(c:ic e2<|>zrj):E X U (.Subscript e e2 pos) b s.i:=Lc (wA (a:=Dt.mk (.int s.i)) (wX (ds:=[.int s.i,.int s.j,xD s.x,xD s.y]) h) h2 rfl c)
def Fb{s:dO}(h:E X U e b (Dt.mk (me s)))(h2:E X U e2 b2 (1:Int))(c:ic e2<|>zrj):E X U (.Subscript e e2 pos) b s.j:=Lc (wA (a:=Dt.mk (.int s.j)) (wX (ds:=[.int s.i,.int s.j,xD s.x,xD s.y]) h) h2 rfl c)
def LC{s:dO}(h:E X U e b (Dt.mk (me s)))(h2:E X U e2 b2 (2:Int))(c:ic e2<|>zrj):E X U (.Subscript e e2 pos) b s.x:=FL (wA (a:=Dt.mk (xD s.x)) (wX (ds:=[.int s.i,.int s.j,xD s.x,xD s.y]) h) h2 rfl c)
def Md{s:dO}(h:E X U e b (Dt.mk (me s)))(h2:E X U e2 b2 (3:Int))(c:ic e2<|>zrj):E X U (.Subscript e e2 pos) b s.y:=FL (wA (a:=Dt.mk (xD s.y)) (wX (ds:=[.int s.i,.int s.j,xD s.x,xD s.y]) h) h2 rfl c)
def DA{s:dO}(h:DN K N H v (me s)):∃q b c a v4,v=.ref q/\Rt H q [b,c,a,v4]/\b=.int s.i/\c=.int s.j/\Py.rp K N H a s.x/\Py.rp K N H v4 s.y:=by
 unfold me at h;cases h with
 |tup e q =>
  cases q with
  |cons h1 q =>
   cases q with
   |cons h2 q =>
    cases q with
    |cons f q =>
     cases q with
     |cons d q =>
      cases q;cases h1;cases h2;show#[_,_,_,_,_,rfl,e,rfl,rfl,Ip f,Ip d]
def Qn(i j l m:Nat){z w:Í}{u:dO}{p2 c a d:ï}{k:Nat}(f:X.N.Nodup)(he:E X U e b (Dt.mk (me u)))(h:S X ((((U.set i (À (.val b u.i))).set j (À (.val b u.j))).set l (À (.val b u.x))).set m (À (.val b u.y))) rest D)(Q:X.calm=Á<|>zra)(hi:X.N[i]?=À x<|>zra)(J:X.N[j]?=À y<|>zra)(hl:X.N[l]?=À z<|>zra)(hm:X.N[m]?=À w<|>zra)
  (T:Loc X.env.scope x<|>zrf) (R:Loc X.env.scope y<|>zrf) (hz:Loc X.env.scope z<|>zrf) (r:Loc X.env.scope w<|>zrf)
  (C:X.fn x=Á\/X.env.scope.names.lookup x=À .local<|>zrf) (o:X.fn y=Á\/X.env.scope.names.lookup y=À .local<|>zrf) (s:X.fn z=Á\/X.env.scope.names.lookup z=À .local<|>zrf) (p:X.fn w=Á\/X.env.scope.names.lookup w=À .local<|>zrf)
  (α:ő [.Tuple [.Name x p1,.Name y p2,.Name z c,.Name w a] k d] e pos.line X.env=pure Â<|>zra) (W:Œ [.Tuple [.Name x p1,.Name y p2,.Name z c,.Name w a] k d] e X.env=pure none<|>zra)
  (h1:(Û [.Tuple [.Name x p1,.Name y p2,.Name z c,.Name w a] k d] X.env).map (·.2)=[Ć (.Tuple [.Name x p1,.Name y p2,.Name z c,.Name w a] k d) X.env]<|>zra) (hn:(Û [.Name x p1,.Name y p2,.Name z c,.Name w a] X.env).length=4<|>zra)
  (B:(Û [.Name x p1,.Name y p2,.Name z c,.Name w a] X.env).findIdx? (·.1)=none<|>zra) (ha1:Û [.Name x p1,.Name y p2,.Name z c,.Name w a] X.env=(Â,Ć (.Name x p1) X.env)::Û [.Name y p2,.Name z c,.Name w a] X.env<|>zra) (P:Û [.Name y p2,.Name z c,.Name w a] X.env=(Â,Ć (.Name y p2) X.env)::Û [.Name z c,.Name w a] X.env<|>zra)
  (ha3:Û [.Name z c,.Name w a] X.env=(Â,Ć (.Name z c) X.env)::Û [.Name w a] X.env<|>zra) (L:Û [.Name w a] X.env=(Â,Ć (.Name w a) X.env)::Û [] X.env<|>zra):
  S X U (.Assign [.Tuple [.Name x p1,.Name y p2,.Name z c,.Name w a] k d] e pos::rest) D:=by
 stop
  show c9 (c7 (D6 he (Dq Q (gI (ib f hi T C) (gI (ib f J R o) (gI (ib f hl hz s) (gI (ib f hm r p) AE))))) α W h1) λDe Y H ⟨H0,F,O,Z,n,_⟩=>#[H0,F,O,Z,λv H1 t σ=>by
    let⟨q,Γ,A,g,v4,e',sq,K,I,G,V⟩:=DA σ;show#[q,_,e',gS (au _ _) sq,rfl,Γ,[A,g,v4],rfl,A,[g,v4],rfl,g,[v4],rfl,v4,[],rfl,rfl,?_]
    show n _ _ H1 O (ah t) (((((Z.go t).set (M:=Int) K).set (M:=Int) I).set G).set V) h])
end
def Nv(r r' a:R2)(ta tb tc g:TE):TE:=λY H Q=>ta Y H λx H1=>tb Y H1 λy H2=>r x y H2 λz d=>∃k,z=.bl k /\
 (if k=Á then tc Y d λw h=>r' y w h λf b=>∃c,f=.bl c/\(if c=Á then g Y b λu e=>a w u e Q else Q (.bl Â) b) else Q (.bl Â) d)
def Gx{X:Cx}{a b c d:Ô}{ta tb tc t:TE}{pos:ï}{op g f:š}{r r' i:R2}(ho:lW X (å op) r)(m:lW X (å g) r')(j:lW X (å f) i)(ha:PE X a ta)(W:PE X b tb)(O:PE X c tc)(hd:PE X d t)
  (hm:Ň [op,g,f] [b,c,d]=Â<|>zrg):PT X (.Compare a [op,g,f] [b,c,d] pos) (Kt (Nv r r' i ta tb tc t)):=by
 intro ZB s Y H Q I h
 show isTrue_chain (cH (ha ZB s Y H _ I h) λv K ⟨x,H1,J,r1,q1⟩=>test_link (cH (W ZB K Y H1 _ J q1) λu s2 ⟨y,H2,I2,C,q2⟩ =>
  cH (ho ZB s2 Y H2 x y v u _ I2 r1 C q2) λd N ⟨z,E,q,L,k,e,A⟩=>?_)) hm
 subst e;cases L;show ϒ ?_;cases k with
 |false =>
  let⟨σ,n,l⟩:=A;cases n;show ite_ff #[E,q,l]
 |true =>
  show ite_tt (test_link (cH (O ZB N Y E _ q A) λB s4 ⟨p,R,I4,D,P⟩=>cH (m ZB s4 Y R y p u B _ I4 C D P) λd' s5 ⟨z2,o,w,T,k2,e2,F⟩=>?_));subst e2;cases T;show ϒ ?_;cases k2 with
  |false =>
   let⟨σ,n,l⟩:=F;cases n;show ite_ff #[o,w,l]
  |true =>
   show ite_tt (test_last (cH (hd ZB s5 Y o _ w F) λw3 G ⟨z3,V,I6,r6,S⟩=>cH (j ZB G Y V p z3 B w3 _ I6 D r6 S) λd3 s7 ⟨z4,α,Γ,r7,k3,e3,Z⟩=>?_));subst e3;cases r7;show ϒ #[α,Γ,Z]
section
variable{X:Cx}{U:aM}{M β γ δ:Type}[Py M][Py β][Py γ][Py δ]{e1 e2 e3 e4:Ô}{b1 b2 b3 b4:Bool}{pos:ï}
def Ce{op d a:š}{x:M}{y:β}{z:γ}{t:δ}{c c' b:Bool}(h1:CV X op x y c)(h2:CV X d y z c')(B:CV X a z t b)(ha:E X U e1 b1 x)(A:E X U e2 b2 y)(I:E X U e3 b3 z)(D:E X U e4 b4 t)(K:Ň [op,d,a] [e2,e3,e4]=Â<|>zrg):T X U (.Compare e1 [op,d,a] [e2,e3,e4] pos) (c&&(c'&&b)):=by
 stop
  let⟨r,G,α⟩:=h1;let⟨r',k,j⟩:=h2;let⟨L,g,h⟩:=B
  show pM (Gx G k g ha A I D K) λY H Q ⟨H0,F,O,S,q⟩=>#[H0,F,O,S,λv H1 e J=>#[H0,F,O,S.go e,λw H2 f l =>
   α _ _ H2 v w _ (aw ((ah f).trans (au _ _)) J) (aw (au _ _) l) #[c,rfl,by
    cases c with
    |false=>show#[Â,rfl,q H2 (e.trans f)]
    |true=>show#[H0,F,O,(S.go e).go f,λu n i m=>j _ _ n w u _ (aw ((ah i).trans (au _ _)) l) (aw (au _ _) m) #[c',rfl,by
      cases c' with
      |false=>show#[Â,rfl,q n (e.trans (f.trans i))]
      |true=>show#[H0,F,O,((S.go e).go f).go i,λs o p C=>h _ _ o u s _ (aw ((ah p).trans (au _ _)) m) (aw (au _ _) C) #[b,rfl,q o (e.trans (f.trans (i.trans p)))]]]]]]]
variable{D:GD}{e:Ô}{ip px py:ï}{rest body:List Ð}
end
@[irreducible] def EX{M:Type}[Py M](X:Cx)(U:aM)(e:Ô)(b:Bool)(post:M->Prop):Prop:=PE X e λY H Q=>∃H0 F O,eZ X.K H0 F O U Y H/\∀a v H',post a->aI H H'->Py.rp X.K (Nf H0 b) (off H' O) v a->Q v H'
noncomputable def zx{M:Type}[Py M](b:Bool)(post:M->Prop):GD:={nx:=λ_=>False,rt:=λg=>∃a,post a/\g=.val b a}
def Hk{M β:Type}[Py M][Py β](K:Ä)(pre:M->Prop)(b:Bool)(post:M->β->Prop):Sp:=λvs H Q _=>∃O v a,qA H O/\vs=[v]/\Py.rp K .any (off H O) v a/\pre a/\∀z r H',post a z->aI H H'->Py.rp K (Nf H b) (off H' O) r z->Q r H'
def kU{M β γ:Type}[Py M][Py β][Py γ](K:Ä)(pre:M->β->Prop)(b:Bool)(post:M->β->γ->Prop):Sp:=λvs H Q _=>∃O v w a c,qA H O/\vs=[v,w]/\Py.rp K .any (off H O) v a/\Py.rp K .any (off H O) w c/\pre a c/\∀z r H',post a c z->aI H H'->Py.rp K (Nf H b) (off H' O) r z->Q r H'
def Eh{M β γ δ:Type}[Py M][Py β][Py γ][Py δ](K:Ä)(pre:M->β->γ->Prop)(b:Bool)(post:M->β->γ->δ->Prop):Sp:=λvs H Q _=>∃O v w x a c d,qA H O/\vs=[v,w,x]/\Py.rp K .any (off H O) v a/\Py.rp K .any (off H O) w c/\Py.rp K .any (off H O) x d/\pre a c d/\∀z r H',post a c d z->aI H H'->Py.rp K (Nf H b) (off H' O) r z->Q r H'
section
variable{X:Cx}{U:aM}{D:GD}{M β γ δ:Type}[Py M][Py β][Py γ][Py δ]{e e1 e2 e3:Ô}{b b1 b2 b3:Bool}{p pos:ï}{rest:List Ð}{k:Nat}{name:Í}{ps:List Í}
def B5{pre:M->Prop}{post:M->β->Prop}{a:M}(C:aG X.prog X.w X.K X.mg X.base k name ps (Hk X.K pre b post))(j:dN k X.A)(h:Gl X name)(h1:E X U e1 b1 a)(hp:pre a)
  (c:Ã [e1] X.env=(Â,Õ e1 X.env)::Ã [] X.env<|>zra) (d:(name==("__debug__":Í))=Â<|>zrb) (hpl:(ç pos (Ã [] X.env)).any (·.1)=Â<|>zra):
  EX X U (.Call (.Name name p) [e1] [] pos) b (post a):=by
 stop
  let⟨l,fd,F,B,kp,m⟩:=C.ex
  show aK (d_ F j h m kp B .nil jC (aB h1 aW c) d c hpl) λY H Q ⟨H0,F,O,S,q⟩=>#[H0,F,O,S,λg H1 e i =>
   #[O,g,a,(S.go e).own,rfl,a_ a7 i,hp,λz r H' hz s' f=>q z r H' hz (e.trans s') ((S.go e).back f)]]
def gK{pre:M->β->Prop}{post:M->β->γ->Prop}{a:M}{c:β}(C:aG X.prog X.w X.K X.mg X.base k name ps (kU X.K pre b post))(t:dN k X.A)(o:Gl X name)(h1:E X U e1 b1 a)(h2:E X U e2 b2 c)(hp:pre a c)
  (d:Ã [e1,e2] X.env=(Â,Õ e1 X.env)::Ã [e2] X.env<|>zra) (h:Ã [e2] X.env=(Â,Õ e2 X.env)::Ã [] X.env<|>zra) (g:(name==("__debug__":Í))=Â<|>zrb) (hpl:(ç pos (Ã [e2] X.env)).any (·.1)=Â<|>zra):
  EX X U (.Call (.Name name p) [e1,e2] [] pos) b (post a c):=by
 stop
  let⟨u,fd,F,B,kp,m⟩:=C.ex
  show aK (d_ F t o m kp B .nil jC (aB h1 (aB h2 aW h) d) g d hpl) λY H Q ⟨H0,F,O,S,q⟩=>#[H0,F,O,S,λn H1 e s=>#[H0,F,O,S.go e,λl H2 f i =>
   #[O,n,l,a,c,(S.go (e.trans f)).own,rfl,a_ a7 (aw (ah f) s),a_ a7 i,hp,λz r H' hz s' j=>q z r H' hz (e.trans (f.trans s')) ((S.go (e.trans f)).back j)]]]
def Lg{pre:M->β->γ->Prop}{post:M->β->γ->δ->Prop}{a:M}{c:β}{d:γ}(C:aG X.prog X.w X.K X.mg X.base k name ps (Eh X.K pre b post))(G:dN k X.A)(y:Gl X name)(h1:E X U e1 b1 a)(h2:E X U e2 b2 c)(o:E X U e3 b3 d)(hp:pre a c d)
  (g:Ã [e1,e2,e3] X.env=(Â,Õ e1 X.env)::Ã [e2,e3] X.env<|>zra) (l:Ã [e2,e3] X.env=(Â,Õ e2 X.env)::Ã [e3] X.env<|>zra) (j:Ã [e3] X.env=(Â,Õ e3 X.env)::Ã [] X.env<|>zra)
  (i:(name==("__debug__":Í))=Â<|>zrb) (hpl:(ç pos (Ã [e2,e3] X.env)).any (·.1)=Â<|>zra):
  EX X U (.Call (.Name name p) [e1,e2,e3] [] pos) b (post a c d):=by
 stop
  let⟨J,fd,F,B,kp,m⟩:=C.ex
  show aK (d_ F G y m kp B .nil jC (aB h1 (aB h2 (aB o aW j) l) g) i g hpl) λY H Q ⟨H0,F,O,S,q⟩=>#[H0,F,O,S,λx H1 e D=>#[H0,F,O,S.go e,λv H2 h n=>#[H0,F,O,S.go (e.trans h),λt I f s =>
   #[O,x,v,t,a,c,d,(S.go (e.trans (h.trans f))).own,rfl,a_ a7 (aw ((ah h).trans (ah f)) D),a_ a7 (aw (ah f) n),a_ a7 s,hp,λz r H' hz s' u=>q z r H' hz (e.trans (h.trans (f.trans s'))) ((S.go (e.trans (h.trans f))).back u)]]]]
def OQ{a:M}{post:M->Prop}(h:E X U e b a)(hp:post a):EX X U e b post:=by stop show aK h λY H Q ⟨H0,F,O,S,q⟩=>#[H0,F,O,S,λv H' s' r=>q a v H' hp s' r]
def mi(i:Nat){post:M->Prop}{p:ï}(d:X.N.Nodup)(he:EX X U e b post)(h:∀a,post a->S X (U.set i (À (.val b a))) rest D)(hi:X.N[i]?=À x<|>zra)(g:Loc X.env.scope x<|>zrf)
  (j:î e (À .H) pos.line X.env=pure Â<|>zra) (f:X.fn x=Á\/X.env.scope.names.lookup x=À .local<|>zrf):S X U (.Assign [.Name x p] e pos::rest) D:=by stop show c9 (c7 (oR d hi g he j f) λl Y H ⟨H0,F,O,Z,n,_⟩=>#[H0,F,O,Z,λa v H1 hz c k=>n _ _ H1 O (ah c) ((Z.go c).set k) (h a hz)])
variable{P:Ó}{w:Ü}{K:Ä}{mg:Í->Option Å}{base:á}{N:List Í}{x qual:Í}{st:Ð}{f:Ç}{fd:ð}
def kD{gs:List Bd}{vs:List V}{O:Ç->Prop}{M:Type}[Py M]{b:Bool}{post:M->Prop}{Q:VK}{c:Å}{A:è}{outer:List Ŗ}{s:Æ}{E:XK}(B:⇑Body N qual st f k gs (zx b post))(i:dN k (A.deeper (ħ qual (af st) s.heap.objs.size f c)))
  (d:qA H O) (h:Args K (off H O) vs gs) (q:∀a r H',post a->aI H H'->Py.rp K (Nf H b) (off H' O) r a->Q r H'):
  ∃t,wu (xK qZ P w K mg base N qual (af st) f c A outer s H E).Pd (b9 st) t/\t {nx:=λ_ H'=>Q .non H',rt:=Q} (start N vs) H:=by stop show#[_,B c A outer s H E i,H,O,O,sL d h,λ_ _ _ _ _ _ z=>z.elim,λg v H' sm z e=>?_,λ_ _ _ _ _ _ z=>z.elim,λ_ _ _ _ _ _ z=>z.elim];let⟨a,ha,j⟩:=e;subst j;show q a v H' ha sm z
def Vv{M β:Type}[Py M][Py β]{pre:M->Prop}{b:Bool}{post:M->β->Prop}(F:ve K x qual st f fd)(e:ak N ps (af st))(g:ps.length=1)(B:∀a,pre a->⇑Body N qual st f k [.val Â a] (zx b (post a))):
  fH P w K mg base qZ (k+1) f fd ps (Hk K pre b post):=by
 stop
  show F.ok e (λvs H Q E h=>?_) λc A outer s H vs Q E i h=>?_
  .let⟨O,v,a,_,rfl,_⟩:=h;rw[g];rfl
  .let⟨O,v,a,d,rfl,r,hp,q⟩:=h;show kD (B a hp) i d (.cons r .nil) q
def BZ{M β γ:Type}[Py M][Py β][Py γ]{pre:M->β->Prop}{b:Bool}{post:M->β->γ->Prop}(F:ve K x qual st f fd)(g:ak N ps (af st))(l:ps.length=2)(B:∀a c,pre a c->⇑Body N qual st f k [.val Â a,.val Â c] (zx b (post a c))):
  fH P w K mg base qZ (k+1) f fd ps (kU K pre b post):=by
 stop
  show F.ok g (λvs H Q E h=>?_) λj A outer s H vs Q E m h=>?_
  .let⟨O,v,i,a,c,_,rfl,_⟩:=h;rw[l];rfl
  .let⟨O,v,i,a,c,e,rfl,r,d,hp,q⟩:=h;show kD (B a c hp) m e (.cons r (.cons d .nil)) q
def Vh{M β γ δ:Type}[Py M][Py β][Py γ][Py δ]{pre:M->β->γ->Prop}{b:Bool}{post:M->β->γ->δ->Prop}(F:ve K x qual st f fd)(j:ak N ps (af st))(o:ps.length=3)(B:∀a c d,pre a c d->⇑Body N qual st f k [.val Â a,.val Â c,.val Â d] (zx b (post a c d))):
  fH P w K mg base qZ (k+1) f fd ps (Eh K pre b post):=by
 stop
  show F.ok j (λvs H Q E h=>?_) λn A outer s H vs Q E p h=>?_
  .let⟨O,v,m,l,a,c,d,_,rfl,_⟩:=h;rw[o];rfl
  .let⟨O,v,m,l,a,c,d,i,rfl,r,e,g,hp,q⟩:=h;show kD (B a c d hp) p i (.cons r (.cons e (.cons g .nil))) q
end
section
variable{X:Cx}{U:aM}{D:GD}{M β γ:Type}[Py M][Py β][Py γ]{e e1 e2:Ô}{b b1 b2:Bool}{pos:ï}{rest st:List Ð}
def kR{post:M->Prop}(he:EX X U e b post)(h:∀a,post a->D.rt (.val b a)):S X U (.Return (À e) pos::rest) D:=by stop show c9 (c7 (Mg he) λf Y H ⟨H0,F,O,Z,n,r,_⟩=>#[H0,F,O,Z,λa v H1 hz c d=>r (.val b a) v H1 ((Z.go c).same) (aw (kj Z.fo) d) (h a hz)])
variable{δ ε:Type}[Py δ][Py ε]{e3 e4:Ô}{b3 b4:Bool}{p:ï}{k:Nat}{name:Í}{ps:List Í}
def OL{pre:M->β->γ->δ->Prop}{f:M->β->γ->δ->ε}{a:M}{c:β}{d:γ}{post:δ->Prop}(C:aG X.prog X.w X.K X.mg X.base k name ps (EL X.K pre b f))(N:dN k X.A)(n:Gl X name)(h1:E X U e1 b1 a)(h2:E X U e2 b2 c)(x:E X U e3 b3 d)(D:EX X U e4 b4 post)(hp:∀g,post g->pre a c d g)
  (l:Ã [e1,e2,e3,e4] X.env=(Â,Õ e1 X.env)::Ã [e2,e3,e4] X.env<|>zra) (u:Ã [e2,e3,e4] X.env=(Â,Õ e2 X.env)::Ã [e3,e4] X.env<|>zra) (s:Ã [e3,e4] X.env=(Â,Õ e3 X.env)::Ã [e4] X.env<|>zra) (t:Ã [e4] X.env=(Â,Õ e4 X.env)::Ã [] X.env<|>zra)
  (o:(name==("__debug__":Í))=Â<|>zrb) (hpl:(ç pos (Ã [e2,e3,e4] X.env)).any (·.1)=Â<|>zra):
  EX X U (.Call (.Name name p) [e1,e2,e3,e4] [] pos) b (λr=>∃g,post g/\r=f a c d g):=by
 stop
  let⟨T,fd,F,B,kp,m⟩:=C.ex
  show aK (d_ F N n m kp B .nil jC (aB h1 (aB h2 (aB x (aB D aW t) s) u) l) o l hpl) λY H Q ⟨H0,F,O,S,q⟩=>#[H0,F,O,S,λL H1 e α=>#[H0,F,O,S.go e,λJ H2 j v=>#[H0,F,O,S.go (e.trans j),λI P h y=>#[H0,F,O,S.go (e.trans (j.trans h)),λg v4 R n i z =>
   #[O,L,J,I,v4,a,c,d,g,(S.go (e.trans (j.trans (h.trans i)))).own,rfl,a_ a7 (aw ((ah j).trans ((ah h).trans (ah i))) α),a_ a7 (aw ((ah h).trans (ah i)) v),a_ a7 (aw (ah i) y),a_ a7 z,hp g n,λr H' s' G=>q _ r H' #[g,n,rfl] (e.trans (j.trans (h.trans (i.trans s')))) ((S.go (e.trans (j.trans (h.trans i)))).back G)]]]]]
end
open PySem PySem.Spec PyProof.Rows L2.Sx
noncomputable def rZ(ns:.L):.L:=ns.mergeSort λa b=>decide (a<=b)
def zG(ns:.L):(rZ ns).Perm ns/\(rZ ns).Pairwise (·<=·):=by
 show#[List.mergeSort_perm _ _,?_];let:=List.pairwise_mergeSort (le:=λa b:Int=>decide (a<=b)) (λa b c h1 h2=>by simp at *;lia) (λa b=>by simp;lia) ns;show this.imp λh=>by simpa using h
def J3{m ns:.L}(h1:m.Perm ns)(h2:m.Pairwise (·<=·)):m=rZ ns :=
 List.Perm.eq_of_pairwise (λ_ _ _ _ h h'=>Int.le_antisymm h h') h2 (zG ns).2 (h1.trans (zG ns).1.symm)
section
variable{X:Cx}{U:aM}{D:GD}{M β γ:Type}[Py M][Py β][Py γ]{e e1 e2 ek ev ek2 ev2:Ô}{b b1 b2 b3 b4:Bool}{pos:ï}{rest st:List Ð}
def Dc:h9 X (.builtin "sorted") (λxs H Q=>∃p,∃ns:.L,xs=[.ref p]/\cS X.K H p (ns.map V.int)/\ns.length<64/\∀l,H l=none->Q (.ref l) (upd H l (.lst ((rZ ns).map V.int)))):=by
 intro ZB s Y H xs us Q I r h;let⟨p,ns,rfl,j,b,q⟩:=h;let⟨u,rfl,m⟩:=vals1 r;cases m;let⟨Y0,f,pl,_⟩:=I.list j;let hi:=intsAre_of f;let n:Y0.length=ns.length:=by rw[<-f.length,ą]
 show sorted_ints pl.isList hi (by rwa[n]) λa k g d t=>?_;let e:=J3 d t;subst e;let⟨c,i⟩:=sortedAll_at s.heap Y0 a
 let lo:((rZ ns).map V.int).length<=sizeLine:=by
  rw[ą,d.length_eq];show ĭ (ŋ b) .a
 show#[.ref (s.heap.objs.size+1),_,I.laid (t':=s.toks) (o:=.lst ((rZ ns).map V.int)) (λ_ _=>sortedAll_old) (afw _) #[lo,a.toList,_,u6 g,i],rfl,q _ (I.hok.fresh (afw _))]
def F5{ns:.L}(i:Gl X "sorted")(s:X.mg "sorted"=none)(ha:E X U e b ns)(d:ns.length<64)(f:Ã [e] X.env=(Â,Õ e X.env)::Ã [] X.env<|>zra):E X U (.Call (.Name "sorted" p) [e] [] pos) Á (rZ ns):=by
 stop
  show aK (du Dc i s boot_sorted (aB ha aW f) (he:=f)) λY H Q ⟨H0,F,O,S,q⟩=>#[H0,F,O,S,λv H1 c j=>by
    let⟨p,vs,e,g,n,r⟩:=j;rw[oV r] at g;show#[p,ns,by rw[e],(au _ _).seq g,d,λl a=>?_];let⟨o,h⟩:=bS (xs:=(rZ ns).map V.int) (S.go c) a;show q _ _ (c.trans o) #[l,_,rfl,cS.of h,Nf.wk (b:=Á) ((S.go c).fL a) h,?_];generalize rZ ns=m
    induction m with
    |nil=>show .nil
    |cons x m k=>show .cons rfl k]
end
end L2.EP
namespace L2.Sx
open PySem PyProof.Rows PySem.Spec PySem.W PySem.Calls
section
variable{p:Ó}{w:Ü}{A:è}{E:Å->Æ->Prop}{s:Æ}{d:Ç}{Y1:List (Key×Å)}
end
end L2.Sx
namespace L2.EP
open PySem PySem.Spec PyProof.Rows L2.Sx
section
variable{X:Cx}{U:aM}{D:GD}{M β γ:Type}[Py M][Py β][Py γ]{e e1 e2 ek ev ek2 ev2:Ô}{b b1 b2 b3 b4:Bool}{pos:ï}{rest st:List Ð}
end
open PySem PySem.Spec PyProof.Rows
@[irreducible] def XF{M:Type}[Py M](X:Cx)(U:aM)(e:Ô)(post:M->Prop):Prop:=PE X e λY H Q=>∃H0 F O,eZ X.K H0 F O U Y H/\∀a v H',post a->aI H H'->Py.rp X.K (.new H) (off H' O) v a->Q v H'
section
variable{X:Cx}{U:aM}{D:GD}{M β γ:Type}[Py M][Py β][Py γ]{e e1 e2:Ô}{b b1 b2:Bool}{pos p:ï}{rest st:List Ð}{k:Nat}{name:Í}{ps:List Í}
def x9{pre:M->β->Prop}{post:M->β->γ->Prop}{a:M}{c:β}(C:aG X.prog X.w X.K X.mg X.base k name ps (kU X.K pre Á post))(s:dN k X.A)(n:Gl X name)(h1:E X U e1 b1 a)(h2:E X U e2 b2 c)(hp:pre a c)
  (b:Ã [e1,e2] X.env=(Â,Õ e1 X.env)::Ã [e2] X.env<|>zra) (g:Ã [e2] X.env=(Â,Õ e2 X.env)::Ã [] X.env<|>zra) (f:(name==("__debug__":Í))=Â<|>zrb) (hpl:(ç pos (Ã [e2] X.env)).any (·.1)=Â<|>zra):
  XF X U (.Call (.Name name p) [e1,e2] [] pos) (post a c):=by
 stop
  let⟨t,fd,F,B,kp,m⟩:=C.ex
  show aK (d_ F s n m kp B .nil jC (aB h1 (aB h2 aW g) b) f b hpl) λY H Q ⟨H0,F,O,S,q⟩=>#[H0,F,O,S,λl H1 d o=>#[H0,F,O,S.go d,λj H2 e h =>
   #[O,l,j,a,c,(S.go (d.trans e)).own,rfl,a_ a7 (aw (ah e) o),a_ a7 h,hp,λz r H' hz s' i=>q z r H' hz (d.trans (e.trans s')) (iV (d.trans e) i)]]]
def FX(i:Nat){x:Í}{post:M->Prop}{p:ï}(c:X.N.Nodup)(he:XF X U e post)(h:∀a,post a->S X (U.set i (À (.dpo a))) rest D)(hi:X.N[i]?=À x<|>zra)(f:Loc X.env.scope x<|>zrf)
  (m:î e (À .H) pos.line X.env=pure Â<|>zra) (d:X.fn x=Á\/X.env.scope.names.lookup x=À .local<|>zrf):S X U (.Assign [.Name x p] e pos::rest) D:=by
 stop
  show c9 (c7 (oR c hi f he m d) λo Y H ⟨H0,F,O,Z,n,_⟩=>#[H0,F,O,Z,λa v H1 hz j k=>by
    let⟨l,g⟩:=Z.rR (i:=i) (v:=v) j (λq=>H q=none/\∃xs:Mt,H1 q=À (mo xs)) (λq z=>z) (Bd.dpo a) É (by
     show Py.tr (λq xs b nn=>?_) (λq xs b=>aI.rt (au _ _) b) k;let:=(au _ _) _ _ nn.2
     show⟨Mo.of this,⟨nn.1,xs,this⟩,this⟩)
    show n _ _ _ _ g l (h a hz)])
variable{R:RB}{δ:Type}[Py δ]{e3:Ô}{b3:Bool}{C:Ç}
def eZ.Ul{K:Ä}{H0 H:Hp}{F O:Ç->Prop}{U:aM}{Y:St}{i:Nat}{g g':Bd}(Z:eZ K H0 F O U Y H)(d:U[i]?=À (À g))(n:¬g.gR)(c:¬g'.gR)(k:∀v,g.ok K H0 O H v->g'.ok K H0 O H v):eZ K H0 F O (U.set i (À g')) Y H:=by
 let hi:i<U.length:=by
  obtain h|h:=ags i U.length
  .show h
  .rw[Ϲ h] at d;cases d
 let at_:∀(j:Nat) (a:Bd),(U.set i (À g'))[j]?=À (À a)->(j=i/\a=g')\/(j≠i/\U[j]?=À (À a)):=λj a b=>by
  by_cases z:j=i
  .subst z;rw[aeR hi] at b;cases b;show .inl #[rfl,rfl]
  .rw[ae1 (Ź z)] at b;show .inr #[z,b]
 let⟨D,m,f,l⟩:=Z.dis;show#[Z.same,Z.fo,Z.f0,Z.own,by rw[Ō];show Z.len,λj a b e=>?_,D,m,f,λj a b how=>?_]
 .obtain⟨rfl,rfl⟩|⟨_,h⟩:=at_ j a b
  .let⟨v,h1,h2⟩:=Z.at_ j g d n;show#[v,h1,k v h2]
  .show Z.at_ j a h e
 .obtain⟨rfl,rfl⟩|⟨_,h⟩:=at_ j a b
  .show absurd how c
  .show l j a h how
def E_{β:Type}[Py β](i:Nat){a:β}{st:List Ð}(c:U[i]?=À (À (.val b (À a))))(h:S X (U.set i (À (.val b a))) st D):S X U st D:=by stop show mL h λd Y H ⟨H0,F,O,Z,n,r,bk,ct⟩=>#[H0,F,O,Z.Ul c (λz=>z) (λz=>z) λv q=>q,n,r,bk,ct]
end
end L2.EP
namespace L2.Srt
open PySem PyProof.Rows
noncomputable def U3:Code->Option Å->Option Bool
 |.call (.builtin id) ⟨[.int a _,.int b _],[]⟩,none=>bif id=="int.__lt__" then À (decide (a<b)) else none
 |_,_=>none
def ev(S:Setting){M:Type}(t:Sem M):Option M :=
 Sem.rec (motive:=λ_=>Option M) À (λ_=>none) (λ_=>none) (λ_=>none)
  (λ_ _ a=>a ()) (λ_ _ _=>none) (λ_ _ _ _=>none) (λ_ _ _ _ _=>none) (λ_ _ _=>none) (λ_ _ _=>none) (λ_ _ _=>none) (λ_ _ _=>none) (λ_ _=>none)
  (λ_ a=>a S) (λ_ _ _ _=>none) (λ_ _ _ _=>none) (λc h _ _ _ a=>(U3 c h).elim none λb=>a (.ok (.ret (.bool b))))
  (λ_ _ _=>none) (λ_ _ _=>none) (λ_ _ _=>none) (λ_ _ _ _ _=>none) (λ_ _ _ _ _=>none) (λ_ _=>none) (λ_ _ _=>none) (λ_ _=>none) (λ_ _ _ _ _ _=>none) t
section
variable{w:Ü}{prog:Ó}{s:Æ}{E:Å->Æ->Prop}{A:è}
def SK{c:Code}{h:Option Å}{b:Bool}(e:U3 c h=À b):h=none/\∃x t y u,c=.call (.builtin "int.__lt__") #[[.int x t,.int y u],[]]/\b=decide (x<y):=by
 unfold U3 at e;split at e
 .rename_i id x t y u;cases z:id=="int.__lt__"
  .rw[z] at e;cases e
  .rw[z] at e;cases e;cases eq_of_beq z;show#[rfl,_,_,_,_,rfl,rfl]
 .cases e
def UZ{M:Type}{Q:M->Æ->Prop}{a:M}(t:Sem M)(e:ev #[prog,w.params] t=À a)(q:Q a s):Î (Ñ prog w) A t Q E s:=by
 intro U p g
 induction t with
 |pure b=>cases e;show q
 |rule _ k d=>show d () e
 |ask k d=>show d _ e
 |call c h _ _ k d =>
  let e:(U3 c h).elim none (λb=>ev #[prog,w.params] (k (.ok (.ret (.bool b)))))=À a:=e;cases f:U3 c h with
  |none=>rw[f] at e;cases e
  |some b =>
   rw[f] at e;let⟨rfl,x,t,y,u,rfl,rfl⟩:=SK f
   let z:Ė (Ñ prog w) A (.call (.builtin "int.__lt__") #[[.int x t,.int y u],[]]) (λr s'=>r=.ok (.ret (.bool (decide (x<y))))/\s'=s) s:=by
    show codeAny_call_builtin slot_int_lt.plain entry_int_lt (slot_int_lt.check _ _ _ _ _ _ _ _ (ż s x t) (args_int_lt _ _) ?_);show ù #[rfl,rfl]
   show af9 z (λr s' h=>?_) _ p rfl (g.enter _ none p (by intro x;cases x));let⟨rfl,rfl⟩:=h;show d _ e
 |_=>cases e
noncomputable def F7:.L:=[2,3,5,7,11,13].foldl (λl p=>l++l.map (·*p)) [1,-1]
noncomputable def s_(n:Int):Int:=if n<0 then -n else n
noncomputable def sg:List Nat:=[0,1,2,3,4,5,8,9,6,7,16,17,10,11,32,33,64,65,18,19,12,13,20,21,34,35,66,67,14,15,36,37,24,25,68,69,22,23,40,41,72,73,38,39,26,27,48,49,70,71,80,81,28,29,42,43,74,75,96,97,50,51,44,45,82,83,76,77,30,31,52,53,84,85,98,99,46,47,56,57,78,79,100,101,88,89,54,55,86,87,104,105,58,59,102,103,90,91,112,113,60,61,92,93,106,107,114,115,108,109,62,63,94,95,116,117,110,111,120,121,118,119,122,123,124,125,126,127]
noncomputable def lk(T Γ:Nat->Tok):List Keyed:=F7.zipIdx.map λp=>(.int (s_ p.1) (T p.2),.int p.1 (Γ p.2))
noncomputable def S0(prog:Ó)(pr:Δ)(b:Bool):Setting:=#[prog,{pr with followText:=λs=>bif s=="special-get-raises" then b else pr.followText s}]
def Uz(pr:Δ)(b:Bool)(T Γ:Nat->Tok):((ev (S0 prog pr b) (sortRuns' (SortSt.mk' oneType' (lk T Γ).toArray #[] 7 none))).map λx=>(Ů x.2,failedOf x.2))=À ((sg.map λi=>(lk T Γ).getD i (.none,.none)).toArray,none):=by
 cases b<;>kernel_rfl
def Vt(T Γ:Nat->Tok):lk T Γ=(Ø 128).map λi=>(lk T Γ).getD i (.none,.none):=by kernel_rfl
def NP:sg.Perm (Ø 128):=by decide +kernel
def TV(prog:Ó)(pr:Δ):(#[prog,pr]:Setting)=S0 prog pr (pr.followText "special-get-raises"):=by
 let:pr.followText=λs=>bif s=="special-get-raises" then pr.followText "special-get-raises" else pr.followText s:=by
  funext s;cases z:s=="special-get-raises"
  .rfl
  .cases eq_of_beq z;rfl
 unfold S0;rw[<-this]
def Uy(T Γ:Nat->Tok):wpS (Ñ prog w) A E s sortRuns' (λ_ st=>failedOf st=none/\(Ů st).toList.Perm (lk T Γ)) (SortSt.mk' oneType' (lk T Γ).toArray #[] 7 none):=by
 let⟨x,e,z⟩:=Option.map_eq_some_iff.mp (Uz (prog:=prog) w.params (w.params.followText "special-get-raises") T Γ);rw[<-TV] at e;let a:=congrArg Prod.fst z;let b:=congrArg Θ z;dsimp only at a b;show UZ _ e #[rfl,b,?_];rw[a]
 conv=>rhs;rw[Vt]
 rw[List.toList_toArray];show NP.map _
def Gr{vs:List Å}{ns:.L}(h:ñ vs ns):∃Γ:Nat->Tok,vs=ns.zipIdx.map λp=>.int p.1 (Γ p.2):=by
 show#[λi=>match vs.getD i .none with|.int _ t=>t|_=>0,ahv λi=>?_];rw[Ĵ,List.getElem?_zipIdx];cases e:ns[i]? with
 |none=>show ahA.mpr (h.length▸ahA.mp e)
 |some n =>
  let⟨t,a⟩:=h.get i n e;simp[a]
variable{vs:List Å}{ns:.L}{a kS l:Ç}{keys:Array Å}{e e1:Nat}{P:PySem.Fin->Æ->Prop}{Q:Å->Æ->Prop}
theorem Bm:∀{vs:List Å},(∀v∈vs,∃n t,v=ē n t)->ñ vs (vs.map numOf)
 |[],_=>.nil
 |v::vs,h=>by
  let⟨n,t,rfl⟩:=h v (Ġ ..);show .cons n t (Bm λu a=>h u (Ě _ a))
def Hv{us vs:List Å}{ns:.L}(h:us.Perm vs)(a:ñ vs ns):∃b,ñ us b/\b.Perm ns:=by
 show#[us.map numOf,Bm λv c=>a.all v (h.mem_iff.mp c),?_];rw[<-a.nums];show h.map _
def Kp(a kS:Ç)(h h':á):Prop:=∀b o,b≠a->b≠kS->h.get? b=À o->h'.get? b=À o
def Sl{st:SortSt}(m:s.heap.get? kS=À (æ "list" keys e))(n:s.heap.get? a=À (æ "list" #[] e1))(f:kS≠a)(hz:keys.size<=1000)(g:(Ů st).size<=1000)(i:failedOf st=none)
  (h:∀h' tk c,Kp a kS s.heap h'->h'.get? a=À (æ "list" ((Ů st).map (·.2)) c)->P (.done (.ret .none)) {s with heap:=h',toks:=tk}):Î (Ñ prog w) A (ksk_tail a Â e1 (.ref kS) st) P E s:=by
 let k:=Ζ s.heap kS (Ú λ_=>(#[]:Array Å));let d:(s.heap.update kS (Ú λ_=>(#[]:Array Å))).get? a=À (æ "list" #[] e1):=(k.2 a f.symm).trans n;let p:=Ζ (s.heap.update kS (Ú λ_=>(#[]:Array Å))) a (Ú λ_=>(Ů st).map (·.2));obtain⟨c2,j⟩:∃c2,((s.heap.update kS (Ú λ_=>(#[]:Array Å))).update a (Ú λ_=>(Ů st).map (·.2))).get? a=À (æ "list" ((Ů st).map (·.2)) c2):=#[_,agn d λ_=>(Ů st).map (·.2)];let q:((Ů st).map (·.2)).size<=1000:=by rwa[Array.size_map]
 unfold ksk_tail;dsimp only;show â (ahp m rfl ?_ (by rw[afP];lia) (Ņ _));show â (wpAny_letGo (â (seqEpoch_at d rfl ?_)));show â (ahp d rfl ?_ (Ņ _) (by change((Ů st).map (·.2)).size<=_;rw[afP];lia));rw[i];simp only[agp,afZ,bne_self_eq_false];show ù (h _ _ c2 (λb o b1 b2 l=>?_) j);show(p.2 b b1).trans ((k.2 b b2).trans l)
def s_end(n:s.heap.get? kS=À (æ "list" keys e))(p:s.heap.get? a=À (æ "list" #[] e1))(d:kS≠a)(f:ñ keys.toList (F7.map s_))(g:ñ vs F7)
  (h:∀h' tk b c,Kp a kS s.heap h'->h'.get? a=À (æ "list" b c)->b.toList.Perm vs->P (.done (.ret .none)) {s with heap:=h',toks:=tk}):Î (Ñ prog w) A (ksk_end a Â vs.toArray e1 (.ref kS) keys) P E s:=by
 let r:vs.length=128:=g.length;let m:keys.size=128:=(Ŕ (xs:=keys)).symm.trans f.length;let⟨Γ,i⟩:=Gr g;let⟨T,l⟩:=Gr f
 let hz:keys.zip vs.toArray=(lk T Γ).toArray:=by
  let e:(keys.zip vs.toArray).toList=lk T Γ:=by
   rw[ksk_zip,l,i]
   kernel_rfl
  rw[<-e]
 unfold ksk_end;dsimp only;rw[ac2 .a,ac2 (by rw[ŀ];lia),ac2 (by rw[ŀ];lia),ksk_kind f .b,hz];show â (ù (â (ϥ (Uy T Γ) ?_ λ_ _ z=>z)));rintro⟨⟨⟩,k⟩ s' ⟨rfl,j,hp⟩;dsimp only;show Sl n p d .b (by rw[<-Ŕ,hp.length_eq];change 128<=1000;lia) j λh' tk c kp o=>h h' tk _ c kp o ?_;let q:=hp.map Θ;rw[Array.toList_map];let e2:(lk T Γ).map Θ=vs:=by rw[i];kernel_rfl
 rwa[e2] at q
def Oy{us:List Å}{b:.L}{j:Nat}{x:Å}(h:ñ us b)(a:us[j]?=À x):∃n t,x=ē n t/\b[j]?=À n:=by
 induction h generalizing j with
 |nil=>cases a
 |cons n t _ c =>
  cases j with
  |zero=>cases a;show#[n,t,rfl,rfl]
  |succ j=>show c a
def Q7(J:s.heap.get? kS=À (æ "list" #[] 0))(α:s.heap.get? a=À (æ "list" #[] e1))(m:kS≠a)(v:ñ vs F7)
  (h:∀h' tk g c,Kp a kS s.heap h'->h'.get? a=À (æ "list" g c)->g.toList.Perm vs->P (.done (.ret .none)) {s with heap:=h',toks:=tk}):Î (Ñ prog w) A (ksk_rest a (.builtin "abs") Â vs.toArray e1 (.ref kS)) P E s:=by
 let N:vs.length=128:=v.length;unfold ksk_rest;show â (Ż ?_);rw[List.forIn_toArray];show â (ksk_fold (λi s'=>∃h' tk f e,s'={s with heap:=h',toks:=tk}/\Kp a kS s.heap h'/\h'.get? kS=À (æ "list" f e)/\h'.get? a=À (æ "list" #[] e1)/\ñ f.toList ((F7.map s_).take i)) vs 0 s #[s.heap,s.toks,#[],0,rfl,λ_ _ _ _ z=>z,J,α,IntsAre.nil] ?_ ?_)
 .rintro j x s' H ⟨h',tk,f,e,rfl,kp,d,k,l⟩;simp only[Nat.zero_add] at l ⊢;let⟨n,t,rfl,p⟩:=Oy v H;let Q:j<vs.length:=(adk.mp H).1;let B:(F7.map s_)[j]?=À (s_ n):=by rw[Ĵ,p];rfl
  let hz:f.size<=1000:=by
   let h1:=l.length;rw[Ŕ,ϑ] at h1;lia
  show â (agO (call_abs_int λu K=>?_));dsimp only;let G:=Ζ h' kS (Ú (·.push (.int (s_ n) u)));obtain⟨c2,D⟩:∃c2,(h'.update kS (Ú (·.push (.int (s_ n) u)))).get? kS=À (æ "list" (f.push (.int (s_ n) u)) c2):=#[_,agn d (·.push (.int (s_ n) u))];let ek:(F7.map s_).take (j+1)=(F7.map s_).take j++[s_ n]:=by rw[aeT,B];rfl
  let L:(f.push (ē (s_ n) u)).toList=f.toList++[ē (s_ n) u]:=ahu ..;show â (ahp d rfl ?_ (by rw[afP];lia) (ĭ (aih (Array.size_push ..)) (by rw[afP];lia)));show ù #[rfl,_,_,f.push (.int (s_ n) u),c2,rfl,λb o b1 b2 q=>(G.2 b b2).trans (kp b o b1 b2 q),D,(G.2 a m.symm).trans k,by rw[L,ek];show ksk_snoc l]
 .rintro s' ⟨h',tk,f,e,rfl,kp,d,k,l⟩
  let r:ñ f.toList (F7.map s_):=by
   rw[aeE (by rw[Nat.zero_add,N];decide:(F7.map s_).length<=_)] at l;show l
  show â (listItems_at d rfl ?_);show s_end d k m r v λI y g c C F O=>h I y g c (λb o b1 b2 q=>C b o b1 b2 (kp b o b1 b2 q)) F O
def RE{n:Nat}(g:s.heap.get? a=À (æ "list" vs.toArray n))(k:ñ vs F7)
  (h:∀h' tk d c,(∀b o,b≠a->s.heap.get? b=À o->h'.get? b=À o)->h'.get? a=À (æ "list" d c)->d.toList.Perm vs->P (.done (.ret .none)) {s with heap:=h',toks:=tk}):Î (Ñ prog w) A (ksk_tree a (.builtin "abs") Â) P E s:=by
 let q:vs.length=128:=k.length;let ha:a<s.heap.objs.size:=ĕ g;let l:=Ζ s.heap a (Ú λ_=>(#[]:Array Å));obtain⟨e1,f⟩:∃e1,(s.heap.update a (Ú λ_=>(#[]:Array Å))).get? a=À (æ "list" #[] e1):=#[_,agn g λ_=>#[]];let e:((s.heap.update a (Ú λ_=>(#[]:Array Å))).push (æ "tuple" vs.toArray 0)).objs.size=s.heap.objs.size+1:=by rw[size_push',Ϸ]
 unfold ksk_tree;show â (listItems_at g rfl ?_);show â (ahp g rfl ?_ (by rw[ŀ,afP];lia) (Ņ _));show â (seqEpoch_at f rfl (â (wpAny_newTuple ?_ (by change vs.length<=_;rw[afP];lia))));show â (ahn ?_ (Ņ _));show ϻ ?_;show Q7 (s:={s with heap:=((s.heap.update a (Ú λ_=>(#[]:Array Å))).push (æ "tuple" vs.toArray 0)).push (æ "list" #[] 0)}) (kS:=((s.heap.update a (Ú λ_=>(#[]:Array Å))).push (æ "tuple" vs.toArray 0)).objs.size) (ŏ _ rfl) (Ī _ (Ī _ f)) (by rw[e];show ahB (aeH ha)) k ?_;intro h' tk d c kp m p;show h h' tk d c (λb o b1 j=>?_) m p;let i:b<s.heap.objs.size:=ĕ j;show kp b o b1 (by rw[e];show ĸ (aeH i)) (Ī _ (Ī _ ((l.2 b b1).trans j)))
def Jd(k:s.heap.IsList l vs.toArray)(i:ñ vs F7)
  (h:∀h' tk d c,(∀b o,s.heap.get? b=À o->h'.get? b=À o)->h'.get? (s.heap.objs.size+1)=À (æ "list" d c)->d.toList.Perm vs->Q (.ref (s.heap.objs.size+1)) {s with heap:=h',toks:=tk}):Î (Ñ prog w) A (call (.builtin "sorted") [.ref l] [(ý "key",.builtin "abs")]) Q E s:=by
 let p:vs.length=128:=i.length;show call_function_entry_kw kind_sorted plain_sorted entry_sorted (ksk_s1 _ _) ?_;unfold ę.«sorted»;show â (m:=checkCount "sorted" 1 1 _) (ù (â (collect_list k ?_ (by rw[afP];lia))));show â (ahn ?_ (by rw[afP];lia));let e:((s.heap.push (æ "list" #[] 0)).update s.heap.objs.size (Ú (·++vs.toArray))).objs.size=s.heap.objs.size+1:=by rw[Ϸ,size_push']
 let f:(((s.heap.push (æ "list" #[] 0)).update s.heap.objs.size (Ú (·++vs.toArray))).push (æ "list" vs.toArray 0)).get? (s.heap.objs.size+1)=À (æ "list" vs.toArray 0):=by rw[<-e];show ŏ _ rfl
 let keep:∀b o,s.heap.get? b=À o->(((s.heap.push (æ "list" #[] 0)).update s.heap.objs.size (Ú (·++vs.toArray))).push (æ "list" vs.toArray 0)).get? b=À o:=λb o q=>by
  let a:b<s.heap.objs.size:=ĕ q;rw[Ϥ _ _ _ (by rw[e];show ĸ (aeH a)),Heap.get?_update_ne _ _ _ _ (ĸ a),Ϥ _ _ _ (ĸ a)];show q
 change Î _ _ _ _ _ {s with heap:=((s.heap.push (æ "list" #[] 0)).update s.heap.objs.size (Ú (·++vs.toArray))).push (æ "list" vs.toArray 0)};rw[e];show â (ϻ (wpAny_call_entry_kw slot_list_sort #[_,f,rfl] entry_list_sort ?_ (ksk_l1 _ _)));rw[ksk_t4];show RE f i λh' tk d c kp j n=>#[_,rfl,?_];show ù #[_,rfl,h h' tk d c (λb o g=>kp b o (λz=>?_) (keep b o g)) j n];let a:b<s.heap.objs.size:=ĕ g;rw[z] at a;show absurd a (afK.mpr (afw _))
end
end L2.Srt
namespace L2.EP
open PySem PySem.Spec PyProof.Rows
section
variable{X:Cx}{U:aM}{e:Ô}{b:Bool}{p q kp pos:ï}{t:TA}
def XB(K:Ä)(xs:List V)(H:Hp)(Q:VK):Prop:=∃p,∃ns:.L,xs=[.ref p]/\cS K H p (ns.map V.int)/\ns=L2.Srt.F7/\∀l (a:.L),H l=none->a.Perm ns->Q (.ref l) (upd H l (.lst (a.map V.int)))
def DB{ZB:List (Ç×ā)}{s:Æ}{Y:St}{H:Hp}{xs:List V}{us:List Å}{Q:VK}(I:Inv X ZB Y H s)(r:Vals xs us)(h:XB X.K xs H Q):Î .F X.A (call (.builtin "sorted") us [(ý "key",.builtin "abs")]) (EP X ZB Y Q) X.xe s:=by
 let⟨p,ns,rfl,g,rfl,q⟩:=h;let⟨u,rfl,i⟩:=vals1 r;cases i;let⟨Y0,j,pl,_⟩:=I.list g;let hi:=intsAre_of j;show L2.Srt.Jd pl.isList hi λh' tk a c kp e k=>?_;let⟨b,f,d⟩:=L2.Srt.Hv k hi
 let lo:(b.map V.int).length<=sizeLine:=by
  rw[ą,d.length_eq];decide
 show#[.ref (s.heap.objs.size+1),_,I.laid (t':=tk) (o:=.lst (b.map V.int)) kp (afw _) #[lo,a.toList,c,u6 f,e],rfl,q _ b (I.hok.fresh (afw _)) d]
def Kr(d:Gl X "sorted")(g:X.mg "sorted"=none)(a:Gl X "abs")(b:X.mg "abs"=none)(ha:PA X [e] t)(he:Ã [e] X.env=(Â,Õ e X.env)::Ã [] X.env<|>zra):
  PE X (.Call (.Name "sorted" p) [e] [#[À (ý "key"),.Name "abs" q,kp]] pos) (λY H Q=>t Y H λvs H1=>XB X.K vs H1 Q):=by
 intro ZB s Y H Q I h;show ae8 (ja I d g boot_sorted ?_);show callWith_kw (cH (ha pos ZB s Y H _ I h) λus j ⟨vs,H1,c,f,i⟩=>?_) (by rw[he];rfl) (by rw[he];rfl);show kws_cons (ja c a b boot_abs (kws_nil ?_));show DB c f i
def Kc{ns:.L}(t:Gl X "sorted")(w:X.mg "sorted"=none)(d:Gl X "abs")(g:X.mg "abs"=none)(ha:E X U e b ns)(h2:ns=L2.Srt.F7)(h:Ã [e] X.env=(Â,Õ e X.env)::Ã [] X.env<|>zra):
  EX X U (.Call (.Name "sorted" p) [e] [#[À (ý "key"),.Name "abs" q,kp]] pos) Á (λa:.L=>a.Perm ns):=by
 stop
  show aK (Kr t w d g (aB ha aW h) h) λY H Q ⟨H0,F,O,S,q⟩=>#[H0,F,O,S,λv H1 f u=>by
    let⟨p,vs,e,i,n,r⟩:=u;rw[oV r] at i;show#[p,ns,by rw[e],(au _ _).seq i,h2,λl a c s=>?_];let⟨o,j⟩:=bS (xs:=a.map V.int) (S.go f) c;show q a _ _ s (f.trans o) #[l,_,rfl,cS.of j,Nf.wk (b:=Á) ((S.go f).fL c) j,?_];generalize a=m
    induction m with
    |nil=>show .nil
    |cons x m k=>show .cons rfl k]
def Wg(K:Ä)(neg:Bool):R2:=λx y H Q=>∃p xs d ds,y=.ref p/\cS K H p xs/\DR K H x d/\HB K H xs ds/\d.canLay0=Á/\í ds=Á/\d.depth<=50/\Q (.bl (if neg then !(ds.any λe=>ê e d) else ds.any λe=>ê e d)) H
theorem BV{h:á}:∀{us:List Å} {ds:List ì} {as:List Ç},ReadsAll h us ds as->í ds=Á->∀u∈us,∃c cs,Reads h u c cs/\c.canLay0=Á/\c∈ds
 |_,_,_,.nil,_,u,d=>by cases d
 |_,_,_,.cons r f,e,u,d=>by
  rw[í,ź] at e;obtain rfl|d:=ě.mp d
  .show#[_,_,r,e.1,Ġ ..]
  .let⟨c,cs,a,b,m⟩:=BV f e.2 u d;show#[c,cs,a,b,Ě _ m]
theorem yS{h:á}{f:Å->Bool}{g:ì->Bool}:∀{us:List Å} {ds:List ì} {as:List Ç},ReadsAll h us ds as->í ds=Á->(∀u c cs,Reads h u c cs->c.canLay0=Á->f u=g c)->us.any f=ds.any g
 |_,_,_,.nil,_,_=>rfl
 |_,_,_,.cons r b,a,k=>by
  rw[í,ź] at a;rw[agL,agL,k _ _ _ r a.1,yS b a.2 k]
def eD(h:á)(d:ì)(w:Å):Bool:=open Classical in decide (∃c cs,Reads h w c cs/\c.canLay0=Á/\ê c d=Á)
def Uk{h:á}{d c:ì}{w:Å}{cs:List Ç}(r:Reads h w c cs)(lc:c.canLay0=Á):eD h d w=ê c d:=by
 unfold eD;cases z:ê c d with
 |true=>show @ado _ (ŗ _) #[c,cs,r,lc,z]
 |false =>
  show @adF _ (ŗ _) ?_;rintro⟨c',a,r',e,b⟩;let:=SeqAt.Reads.unique c c' w cs a lc r r';rw[<-this,z] at b;cases b
def GK(o:X.A.units+60<Α){neg:Bool}{op:š}(g:op=if neg then .NotIn else .In):lW X (å op) (Wg X.K neg):=by
 intro ZB s Y H x y v u Q I m f h;let⟨p,xs,d,ds,rfl,k,i,j,c1,c2,dp,q⟩:=h;cases f;let⟨Y0,r,pl,hz⟩:=I.list k;let⟨as,n⟩:=i.reads I m;let⟨bs,a⟩:=j.reads I r;let key:∀w c cs,Reads s.heap w c cs->c.canLay0=Á->eD s.heap d w=ê c d:=λw c cs r' lc=>Uk r' lc
 let he:∀w,w∈Y0.toArray->Φ X.A.in1 s w v (eD s.heap d w):=λw l=>by
  let⟨c,cs,rc,lc,_⟩:=BV a c2 w ↑l;rw[key w c cs rc lc];show SeqAt.eqAt_reads c d X.A.in1 s w v cs as rc n lc c1 ?_;let h1:=Nat.min_le_right c.depth d.depth;let h2:X.A.in1.units=X.A.units+1:=rfl;lia
 let b:Y0.toArray.any (eD s.heap d)=ds.any λe=>ê e d:=by
  rw[(by simp:Y0.toArray.any (eD s.heap d)=Y0.any (eD s.heap d))];show yS a c2 key
 subst g;cases neg
 .show Ϭ _ pl.isList he #[.bl _,H,I,rfl,by rwa[b]]
 .show Υ _ pl.isList he #[.bl _,H,I,rfl,by rwa[b]]
def Nl{M:Type}[PyD M]{a:M}{as:List M}{c:Bool}(h:c=Á↔a∈as):((as.map PyD.dat).any λe=>ê e (PyD.dat a))=c:=by
 rw[ae3,h,ahM];constructor
 .rintro⟨x,f,e⟩;let⟨b,d,rfl⟩:=adn.mp f;rwa[<-(PyD.eqv b a).mp e]
 .intro m;show#[_,List.mem_map_of_mem m,(PyD.eqv a a).mpr rfl]
def MI{M:Type}[PyD M]{a:M}{as:List M}{c:Bool}(f:X.A.units+60<Α)(d:PyD.dep M<=50)(h:c=Á↔a∈as):CV X .NotIn a as (!c):=#[_,GK f (neg:=Á) rfl,λN N' H u v Q h1 h2 q=>by
 let⟨p,vs,e,b,n,r⟩:=h2
 show#[p,vs,_,_,e,b,PyD.dr h1,v9 r,PyD.lay a,vO as,ĭ (PyD.depth a) d,by rwa[Nl h]]]
end
variable{j:Nat}{p' ap cp p sp:ï}{x:Í}
def NO{β:Type}[Py β](K:Ä)(b:Bool)(post:β->Prop):Sp:=λvs H Q _=>∃O,qA H O/\vs=[]/\∀z r H',post z->aI H H'->Py.rp K (Nf H b) (off H' O) r z->Q r H'
section
variable{X:Cx}{U:aM}{β:Type}[Py β]{b:Bool}{p pos:ï}{k:Nat}{name:Í}{ps:List Í}
def Kx{post:β->Prop}(C:aG X.prog X.w X.K X.mg X.base k name ps (NO X.K b post))(e:dN k X.A)(c:Gl X name)(a:(name==("__debug__":Í))=Â<|>zrb):
  EX X U (.Call (.Name name p) [] [] pos) b post:=by stop let⟨f,fd,F,B,kp,m⟩:=C.ex;show aK (Jm F e c m kp B .nil jC a) λY H Q ⟨H0,F,O,S,q⟩=>#[O,S.own,rfl,λz r H' hz s' d=>q z r H' hz s' (S.back d)]
variable{P:Ó}{w:Ü}{K:Ä}{mg:Í->Option Å}{base:á}{N:List Í}{x qual:Í}{st:Ð}{f:Ç}{fd:ð}
def WW{β:Type}[Py β]{b:Bool}{post:β->Prop}(F:ve K x qual st f fd)(d:ak N ps (af st))(e:ps.length=0)(B:⇑Body N qual st f k [] (zx b post)):⇑fH qZ (k+1) f fd ps (NO K b post):=by
 stop
  show F.ok d (λvs H Q E h=>?_) λa A outer s H vs Q E g h=>?_
  .let⟨O,_,rfl,_⟩:=h;rw[e];rfl
  .let⟨O,c,rfl,q⟩:=h;show kD B g c .nil q
variable{D:GD}{M γ δ ε:Type}[Py M][Py γ][Py δ][Py ε]{e e1 e2 e3 e4:Ô}{b1 b2 b3 b4:Bool}{rest:List Ð}
def RY{post:Option M->Prop}{c:M->Prop}(h:EX X U e b post)(hp:∀o,post o->∃a,o=À a/\c a):EX X U e b c:=by
 stop
  show aK h λY H Q ⟨H0,F,O,S,q⟩=>#[H0,F,O,S,λo v H' hz s' r=>by
   let⟨a,rfl,ha⟩:=hp o hz
   show q a v H' ha s' r]
def zL[PyT M]{xs:List M}{p:ï}(h:Gl X "list")(k:X.mg "list"=none)(ha:E X U e b (zA.mk xs))(c:Ã [e] X.env=(Â,Õ e X.env)::Ã [] X.env<|>zra):E X U (.Call (.Name "list" p) [e] [] pos) Á xs:=by
 stop
  show aK (iM kX h k afx (aB ha aW c) (he:=c)) λY H Q ⟨H0,F,O,S,q⟩=>#[H0,F,O,S,λv H1 a i=>by
    let⟨p,vs,e,j,r⟩:=i;show#[p,vs,by rw[e],.inr (cZ (au _ _) j).t,λl f=>?_];let⟨d,g⟩:=bS (xs:=vs) (S.go a) f
    show q _ _ (a.trans d) #[l,vs,rfl,cS.of g,Nf.wk ((S.go a).fL f) g,bc (λ_ _ z=>PyT.free (λ_ _ t=>aI.rt (ah d) t) z) r]]
def P4{xs:List M}{k:Int}{p2:ï}(ha:E X U e1 b xs)(i:E X U e2 b2 k)(h1:k=-1):E X U (.Subscript e1 (.Slice none (À e2) none p2) pos) b (xs.take (xs.length-1)):=by
 stop
  show aK (mw uN ha pK (pW i)) λY H Q ⟨H0,F,O,S,q⟩=>#[H0,F,O,S,λv H1 c m=>#[H0,F,O,S.go c,λw H2 a j=>by
    let⟨p,vs,e,o,n,r⟩:=m;show#[k,j,p,vs,e,(au _ _).seq ((ah a).seq o),λl f=>?_];let⟨d,h⟩:=bS (xs:=jU vs none (À k)) ((S.go c).go a) f;show q _ _ (c.trans (a.trans d)) #[l,_,rfl,cS.of h,Nf.wk (((S.go c).go a).fL f) h,?_];let s:=br r
    let ec:jU vs none (À k)=vs.take (xs.length-1):=by
     unfold jU;rw[HT.mC]
     let:HT.fX vs.length vs.length (À k)=xs.length-1:=by
      change(if k<0 then ↥(k+(vs.length:Int)) else min ↥k vs.length)=_;rw[ac6 .b,h1];lia
     rw[this];simp only[ah6,Nat.sub_zero]
    let g:=bc (λ_ _ z=>aw ((ah a).trans (ah d)) z) (Ak (xs.length-1) r);rw[<-ec] at g
    show g]]
end
def X7{M:Type}{us:List M}(h:us.length=0):us=[]:=af4 h
def XU{M:Type}{us:List M}(h:us.length=1):∃a,us=[a]:=match us,h with|[a],_=>#[a,rfl]
def ln2{M:Type}{us:List M}(h:us.length=2):∃a b,us=[a,b]:=match us,h with|[a,b],_=>#[a,b,rfl]
def Yd{M:Type}{us:List M}(h:us.length=3):∃a b c,us=[a,b,c]:=match us,h with|[a,b,c],_=>#[a,b,c,rfl]
def Ya{M:Type}{us:List M}(h:us.length=4):∃a b c d,us=[a,b,c,d]:=match us,h with|[a,b,c,d],_=>#[a,b,c,d,rfl]
def bU{N P:List Í}{a:Ā}(h1:(a.kind=.function)<|>zra)(h2:a.isCoroutine=Â<|>zra)(f:a.isGenerator=Â<|>zra)(b:N.Nodup<|>zrh)(d:N.take P.length=P<|>zra)(e:(∀x∈P,a.names.lookup x=À .local\/a.names.lookup x=À .cell)<|>zrh)(c:(∀y∈a.names,y.2≠.free)<|>zrh):ak N P a:=#[h1,h2,f,b,d,e,c]
section
variable{P:Ó}{w:Ü}{K:Ä}{mg:Í->Option Å}{base h:á}{x p q r t:Í}{st:Ð}{k:Nat}{sp:Sp}
def Df.c0(D:Df K x st)(X:K.In h)(G:h.Ns Ì mg)(ok:∀f fd,ve K x x st f fd->⇑fH qZ k f fd [] sp)(b:∀(kV doc d:Å) (c:Option Ç) (a ct:Å),Ķ (é x x (eP st) (b9 st) (af st) .none kV doc d c a ct) #[[],[]]=pure ([]:List (Í×Å)):=by intros;rfl):⇑aG k x [] sp:=D.OT X G (λ_ _ _ _ _ _ us e=>by cases X7 e;show b ..) ok
def Df.c1(D:Df K x st)(X:K.In h)(G:h.Ns Ì mg)(ok:∀f fd,ve K x x st f fd->⇑fH qZ k f fd [p] sp)(b:∀(kV doc d:Å) (c:Option Ç) (a ct:Å) (u:Å),Ķ (é x x (eP st) (b9 st) (af st) .none kV doc d c a ct) #[[u],[]]=pure [(p,u)]:=by intros;rfl):⇑aG k x [p] sp:=D.OT X G (λ_ _ _ _ _ _ us e=>by let⟨_,rfl⟩:=XU e;show b ..) ok
def Df.c2(D:Df K x st)(X:K.In h)(G:h.Ns Ì mg)(ok:∀f fd,ve K x x st f fd->⇑fH qZ k f fd [p,q] sp)(b:∀(kV doc d:Å) (c:Option Ç) (a ct:Å) (u v:Å),Ķ (é x x (eP st) (b9 st) (af st) .none kV doc d c a ct) #[[u,v],[]]=pure [(p,u),(q,v)]:=by intros;rfl):⇑aG k x [p,q] sp:=D.OT X G (λ_ _ _ _ _ _ us e=>by let⟨_,_,rfl⟩:=ln2 e;show b ..) ok
def Df.c3(D:Df K x st)(X:K.In h)(G:h.Ns Ì mg)(ok:∀f fd,ve K x x st f fd->⇑fH qZ k f fd [p,q,r] sp)(b:∀(kV doc d:Å) (c:Option Ç) (a ct:Å) (u v y:Å),Ķ (é x x (eP st) (b9 st) (af st) .none kV doc d c a ct) #[[u,v,y],[]]=pure [(p,u),(q,v),(r,y)]:=by intros;rfl):⇑aG k x [p,q,r] sp:=D.OT X G (λ_ _ _ _ _ _ us e=>by let⟨_,_,_,rfl⟩:=Yd e;show b ..) ok
def Df.c4(D:Df K x st)(X:K.In h)(G:h.Ns Ì mg)(ok:∀f fd,ve K x x st f fd->⇑fH qZ k f fd [p,q,r,t] sp)(b:∀(kV doc d:Å) (c:Option Ç) (a ct:Å) (u v y z:Å),Ķ (é x x (eP st) (b9 st) (af st) .none kV doc d c a ct) #[[u,v,y,z],[]]=pure [(p,u),(q,v),(r,y),(t,z)]:=by intros;rfl):⇑aG k x [p,q,r,t] sp:=D.OT X G (λ_ _ _ _ _ _ us e=>by let⟨_,_,_,_,rfl⟩:=Ya e;show b ..) ok
end
def J6{M β γ δ ζ ε:Type}[Py M][Py β][Py γ][Py δ][Py ζ][Py ε](K:Ä)(pre:M->β->γ->δ->ζ->Prop)(b:Bool)(post:M->β->γ->δ->ζ->ε->Prop):Sp:=λvs H Q _=>∃O v w x y u a c d g i,qA H O/\vs=[v,w,x,y,u]/\Py.rp K .any (off H O) v a/\Py.rp K .any (off H O) w c/\Py.rp K .any (off H O) x d/\Py.rp K .any (off H O) y g/\Py.rp K .any (off H O) u i/\pre a c d g i/\∀z r H',post a c d g i z->aI H H'->Py.rp K (Nf H b) (off H' O) r z->Q r H'
@[irreducible] def Vq{M:Type}[Py M](X:Cx)(U:aM)(es:List Ô)(b:Bool)(post:List M->Prop):Prop :=
 PA X es λY H Q=>∃H0 F O,eZ X.K H0 F O U Y H/\∀as vs H',post as->aI H H'->Ý (λx a=>Py.rp X.K (Nf H0 b) (off H' O) x a) vs as->Q vs H'
section
variable{X:Cx}{U:aM}{D:GD}{M β γ δ ζ ε:Type}[Py M][Py β][Py γ][Py δ][Py ζ][Py ε]{e e1 e2 e3 e4 e5:Ô}{es:List Ô}{b b1 b2 b3 b4 b5:Bool}{p pos:ï}{rest:List Ð}{k:Nat}{name:Í}{ps:List Í}
def pQ{pre:M->β->γ->δ->ζ->Prop}{post:M->β->γ->δ->ζ->ε->Prop}{a:M}{c:β}{d:γ}{g:δ}{i:ζ}(C:aG X.prog X.w X.K X.mg X.base k name ps (J6 X.K pre b post))(Γ:dN k X.A)(P:Gl X name)(h1:E X U e1 b1 a)(h2:E X U e2 b2 c)(y:E X U e3 b3 d)(I:E X U e4 b4 g)(V:E X U e5 b5 i)(hp:pre a c d g i)
  (n:Ã [e1,e2,e3,e4,e5] X.env=(Â,Õ e1 X.env)::Ã [e2,e3,e4,e5] X.env<|>zra) (v:Ã [e2,e3,e4,e5] X.env=(Â,Õ e2 X.env)::Ã [e3,e4,e5] X.env<|>zra) (t:Ã [e3,e4,e5] X.env=(Â,Õ e3 X.env)::Ã [e4,e5] X.env<|>zra) (u:Ã [e4,e5] X.env=(Â,Õ e4 X.env)::Ã [e5] X.env<|>zra) (s:Ã [e5] X.env=(Â,Õ e5 X.env)::Ã [] X.env<|>zra)
  (o:(name==("__debug__":Í))=Â<|>zrb) (hpl:(ç pos (Ã [e2,e3,e4,e5] X.env)).any (·.1)=Â<|>zra):
  EX X U (.Call (.Name name p) [e1,e2,e3,e4,e5] [] pos) b (post a c d g i):=by
 stop
  let⟨fa,fd,F,B,kp,m⟩:=C.ex
  show aK (d_ F Γ P m kp B .nil jC (aB h1 (aB h2 (aB y (aB I (aB V aW s) u) t) v) n) o n hpl) λY H Q ⟨H0,F,O,S,q⟩=>#[H0,F,O,S,λN H1 e R=>#[H0,F,O,S.go e,λα H2 l x=>#[H0,F,O,S.go (e.trans l),λJ Z f D=>#[H0,F,O,S.go (e.trans (l.trans f)),λv4 H4 j G=>#[H0,F,O,S.go (e.trans (l.trans (f.trans j))),λW σ h T =>
   #[O,N,α,J,v4,W,a,c,d,g,i,(S.go (e.trans (l.trans (f.trans (j.trans h))))).own,rfl,a_ a7 (aw (ah (l.trans (f.trans (j.trans h)))) R),a_ a7 (aw (ah (f.trans (j.trans h))) x),a_ a7 (aw (ah (j.trans h)) D),a_ a7 (aw (ah h) G),a_ a7 T,hp,λz r H' hz s' L=>q z r H' hz (e.trans (l.trans (f.trans (j.trans (h.trans s'))))) ((S.go (e.trans (l.trans (f.trans (j.trans h))))).back L)]]]]]]
def JG{pre:M->β->γ->Prop}{post:M->β->γ->δ->Prop}{a:M}{c:β}{po:γ->Prop}(C:aG X.prog X.w X.K X.mg X.base k name ps (Eh X.K pre b post))(I:dN k X.A)(D:Gl X name)(h1:E X U e1 b1 a)(h2:E X U e2 b2 c)(s:EX X U e3 b3 po)(hp:∀d,po d->pre a c d)
  (g:Ã [e1,e2,e3] X.env=(Â,Õ e1 X.env)::Ã [e2,e3] X.env<|>zra) (l:Ã [e2,e3] X.env=(Â,Õ e2 X.env)::Ã [e3] X.env<|>zra) (j:Ã [e3] X.env=(Â,Õ e3 X.env)::Ã [] X.env<|>zra) (i:(name==("__debug__":Í))=Â<|>zrb) (hpl:(ç pos (Ã [e2,e3] X.env)).any (·.1)=Â<|>zra):
  EX X U (.Call (.Name name p) [e1,e2,e3] [] pos) b (λr=>∃d,po d/\post a c d r):=by
 stop
  let⟨L,fd,F,B,kp,m⟩:=C.ex
  show aK (d_ F I D m kp B .nil jC (aB h1 (aB h2 (aB s aW j) l) g) i g hpl) λY H Q ⟨H0,F,O,S,q⟩=>#[H0,F,O,S,λy H1 e G=>#[H0,F,O,S.go e,λx H2 h o=>#[H0,F,O,S.go (e.trans h),λd u J n f t =>
   #[O,y,x,u,a,c,d,(S.go (e.trans (h.trans f))).own,rfl,a_ a7 (aw (ah (h.trans f)) G),a_ a7 (aw (ah f) o),a_ a7 t,hp d n,λz r H' hz s' v=>q z r H' #[d,n,hz] (e.trans (h.trans (f.trans s'))) ((S.go (e.trans (h.trans f))).back v)]]]]
def yY:Vq X U [] b (λas:List M=>as=[]):=by stop show ET aW λY H Q ⟨H0,F,O,S,q⟩=>q [] _ H rfl (aI.refl _) .nil
def vq{po:M->Prop}{pos:List M->Prop}(h:EX X U e b po)(h':Vq X U es b pos)(d:Ã (e::es) X.env=(Â,Õ e X.env)::Ã es X.env<|>zra):Vq X U (e::es) b (λas=>∃a c,as=a::c/\po a/\pos c):=by stop show ET (aB h h' d) λY H Q ⟨H0,F,O,S,q⟩=>#[H0,F,O,S,λa v H1 ha f j=>#[H0,F,O,S.go f,λas vs H2 d g i=>q _ _ H2 #[a,as,rfl,ha,d] (f.trans g) (.cons (aw (ah g) j) i)]]
def LZ{po:List M->Prop}(h:Vq X U es b po)(f:∀as,po as->as.length<=1000):EX X U (.List es pos) b po:=by
 stop
  show aK (w6 h) λY H Q ⟨H0,F,O,S,q⟩=>#[H0,F,O,S,λas vs H1 hz a c=>#[by rw[br c];show ŋ (bP (f as hz)),λp hp=>by
    let⟨d,e⟩:=bS (xs:=vs) (S.go a) hp
    show q as _ _ hz (a.trans d) #[p,vs,rfl,cS.of e,Nf.wk ((S.go a).fL hp) e,bc (λ_ _ r=>aw (ah d) r) c]]]
variable{P:Ó}{w:Ü}{K:Ä}{mg:Í->Option Å}{base:á}{N:List Í}{x qual:Í}{st:Ð}{f:Ç}{fd:ð}
def WN{M β γ δ ζ ε:Type}[Py M][Py β][Py γ][Py δ][Py ζ][Py ε]{pre:M->β->γ->δ->ζ->Prop}{b:Bool}{post:M->β->γ->δ->ζ->ε->Prop}(F:ve K x qual st f fd)(n:ak N ps (af st))(u:ps.length=5)(B:∀a c d g i,pre a c d g i->⇑Body N qual st f k [.val Â a,.val Â c,.val Â d,.val Â g,.val Â i] (zx b (post a c d g i))):
  fH P w K mg base qZ (k+1) f fd ps (J6 K pre b post):=by
 stop
  show F.ok n (λvs H Q E h=>?_) λt A outer s H vs Q E z h=>?_
  .let⟨O,v,p,o,v4,C,a,c,d,g,i,_,rfl,_⟩:=h;rw[u];rfl
  .let⟨O,v,p,o,v4,C,a,c,d,g,i,m,rfl,r,e,l,j,y,hp,q⟩:=h;show kD (B a c d g i hp) z m (.cons r (.cons e (.cons l (.cons j (.cons y .nil))))) q
noncomputable def La{M β:Type}(_:M)(_:β):Unit:=()
def WZ{M β:Type}[Py M][Py β]{pre:M->β->Prop}{b:Bool}(F:ve K x qual st f fd)(g:ak N ps (af st))(l:ps.length=2)(B:∀a c,pre a c->⇑Body N qual st f k [.val Â a,.val Â c] T1):
  fH P w K mg base qZ (k+1) f fd ps (bw K pre b (La (M:=M) (β:=β))):=by
 stop
  show F.ok g (λvs H Q E h=>?_) λj A outer s H vs Q E m h=>?_
  .let⟨O,v,i,a,c,_,rfl,_⟩:=h;rw[l];rfl
  .let⟨O,v,i,a,c,e,rfl,r,d,hp,q⟩:=h;show yr (B a c hp) m e (.cons r (.cons d .nil)) q
end
def QM{K:Ä}{N:Nn}{H:Hp}{q:Ç}{a v4:V}{s:dO}(h:Rt H q [.int s.i,.int s.j,a,v4])(c:Py.rp K N H a s.x)(b:Py.rp K N H v4 s.y):DN K N H (.ref q) (me s):=.tup h (.cons (.int _) (.cons (.int _) (.cons (Iz c) (.cons (Iz b) .nil))))
noncomputable instance:Py dO where
 rp K N H v s:=DN K N H v (me s)
 tr l t h:=DN.tr l t h
noncomputable instance:PyT dO where
 free t h:=by
  let⟨q,a,c,f,v4,rfl,r,rfl,rfl,b,d⟩:=DA h;show QM (t _ _ r) (PyT.free t b) (PyT.free t d)
 nl h e:=by
  let⟨q,a,c,f,v4,g,s,_⟩:=DA h;cases g;obtain s|⟨o,s⟩:=s
  .rw[e] at s;cases s
  .rw[e] at s;cases s
section
variable{X:Cx}{U:aM}{D:GD}{M β:Type}[Py M][Py β]{e e1 e2:Ô}{es:List Ô}{b b1 b2:Bool}{p pos:ï}{rest:List Ð}
def oB{s:dO}(h:E X U e b s):E X U e b (Dt.mk (me s)):=zC h λN H v r=>r
def RK{s:dO}(h:E X U e b (Dt.mk (me s))):E X U e b s:=zC h λN H v r=>r
def Ng[PyT M]{xs:List M}{po:List M->Prop}(ha:E X U e1 b1 xs)(n:EX X U e2 b2 po)(s:∀ys,po ys->xs.length+ys.length<=1000):EX X U (.BinOp e1 .Add e2 pos) Á (λzs=>∃ys,po ys/\zs=xs++ys):=by
 stop
  show aK (BX E8 ha n) λY H Q ⟨H0,F,O,S,q⟩=>#[H0,F,O,S,λv H1 g r=>#[H0,F,O,S.go g,λys w H2 k f o=>by
    let⟨p,vs,e1,j,x,a⟩:=r;let⟨p',c,e2,i,u,e⟩:=o;show#[p,p',vs,c,e1,e2,(au _ _).seq ((ah f).seq j),(au _ _).seq i,by rw[br a,br e];show ŋ (bP (s ys k)),λl d=>?_];let⟨h,m⟩:=bS (xs:=vs++c) ((S.go g).go f) d;show q _ _ _ #[ys,k,rfl] (g.trans (f.trans h)) #[l,_,rfl,cS.of m,Nf.wk (b:=Á) (((S.go g).go f).fL d) m,w8 ?_ ?_]
    .show bc (λ_ _ z=>PyT.free (λ_ _ t=>aI.rt ((ah f).trans (ah h)) t) z) a
    .show bc (λ_ _ z=>PyT.free (λ_ _ t=>aI.rt (ah h) t) z) e]]
def Ol(i:Nat){po:List M->Prop}{p p1:ï}(l:X.N.Nodup)(ha:Vq X U es b po)(B:∀as,po as->as.length<=1000)(h:∀as,po as->S X (U.set i (À (.own b as))) rest D)(hi:X.N[i]?=À x<|>zra)(A:Loc X.env.scope x<|>zrf)
  (g:î (.List es p) (À (.Name x p1)) pos.line X.env=pure Â<|>zra) (m:X.fn x=Á\/X.env.scope.names.lookup x=À .local<|>zrf):S X U (.Assign [.Name x p1] (.List es p) pos::rest) D:=by
 stop
  show c9 (c7 (oR l hi A (w6 ha) g m) λC Y H ⟨H0,F,O,Z,n,_⟩=>#[H0,F,O,Z,λas vs H1 hz j r=>#[by rw[br r];show ŋ (bP (B as hz)),λq f=>by
    let t:=cT f (.lst vs);let d:H q=none:=j.free f
    let kp:aI (off H1 O) (off (upd H1 q (.lst vs)) λp=>O p\/p=q):=λa o w=>by
     let⟨y,k⟩:=i8 w;let c:a≠q:=bN k f;rwa[bB (by rintro(z|z);show y z;show c z),aU c]
    let⟨u,s⟩:=Z.rR (i:=i) (v:=.ref q) (j.trans t) (·=q) (λr e=>by subst e;show#[d,.inl vs,aY]) (Bd.own b as) É ⟨q,vs,rfl,rfl,aY,bc (λ_ _ z=>aw kp z) r⟩
    show n _ _ _ _ s u (h as hz)]])
def HD(i:Nat){as:List M}{po:M->Prop}{p:ï}(C:U[i]?=À (À (.own b as)))(he:EX X U e b po)(Γ:as.length<=1000)(h:∀a,po a->S X (U.set i (À (.own b (as++[a])))) rest D)(hi:X.N[i]?=À x<|>zra)
  (T:Hy X.env.scope x<|>zre) (L:(x==("__debug__":Í))=Â<|>zrb) (u:(x==("__classdict__":Í))=Â<|>zrb)
  (d:Ą .H "append" X.env (Õ .H X.env)=Õ .H X.env<|>zra)
  (j:((ç cp (Ã [e] X.env)).all (λx=>!x.1)&&(backToKw cp (keywordEach [] X.env)).all (λx=>x.1.isSome)
   && decide (([e]:List Ô).length+([]:List Š).length+(if ([]:List Š).isEmpty then 0 else 1)<30))=Á:=by rfl)
  (g:(ap.endLine==cp.line)=Á<|>zra) (B:Ã [e] X.env=(Â,Õ e X.env)::Ã [] X.env<|>zra) (c:(ç cp (Ã [] X.env)).any (·.1)=Â<|>zra)
  (r:î (.Call (.Attribute .H "append" ap) [e] [] cp) none pos.line X.env=pure Â<|>zra):
  S X U (.Expr (.Call (.Attribute .H "append" ap) [e] [] cp) pos::rest) D:=by
 stop
  show c9 (c7 (nQ (Pz afq ahE ahF sT (pv i hi T L u) (aB he aW B) d j g B c) r) λDe Y H ⟨H0,F,O,Z,n,_⟩=>by
    let⟨v,σ,l,⟨q,xs,A,G,f,s⟩,_,_⟩:=Z.write C É;subst A;show#[.ref q,l,.inl #[rfl,xs,cS.of f],H0,F,O,Z,λa y H2 hz o E=>#[q,xs,y,rfl,rfl,o _ _ f,?_,?_]]
    .rw[br s];show bP Γ
    .let⟨J,D',k,⟨q',m,Q,w,I,K⟩,t,wr⟩:=(Z.go o).write C É;rw[l] at k;let ev:V.ref q=J:=by injection k with z;injection z
     subst ev;cases Q
     let ex:m=xs:=by
      let:=o _ _ f;rw[I] at this;cases this;rfl
     subst ex
     let⟨P,R⟩:=wr q (m++[y]) (À (.own b (as++[a]))) w λα W=>by
      cases W;show#[É,q,_,rfl,w,aY,?_];rw[k5 (t q w).1];show rK K (.cons E .nil)
     show n _ _ _ _ (by rw[R];show ah o) P (h a hz))
variable{γ:Type}[Py γ]{e3:Ô}{b3:Bool}
def Rg{d:ì}{c:Bool}(ha:E X U e1 b1 (Dt.mk d))(a:∀(K:Ä) (N:Nn) (H:Hp) v,DN K N H v d->decide (v=.non)=!c):T X U (.Compare e1 [.IsNot] [.Constant .none j p] pos) c:=by
 stop
  show pM (DK (zY ha)) λY H Q ⟨H0,F,O,S,q⟩=>#[H0,F,O,S,λv H1 e b=>by
    show#[!decide (v=.non),rfl,?_]
    rw[a _ _ _ _ b,Bool.not_not];show q H1 e]
def Ac:h9 X (.type "range") (λxs H Q=>∃j:Int,xs=[.int j]/\∀r,H r=none->Q (.ref r) (upd H r (.ext (U6 r 0 j 1)))):=by
 intro ZB s Y H xs us Q I g h;let⟨j,rfl,q⟩:=h;let⟨u,rfl,t,rfl⟩:=vals1 g;show call_range_1 ?_;let c:(s.heap.push {cls:=.type "range",data:=.fields (ß [.int 0 s.toks,.int j t,.int 1 (s.toks+1)])}).get? s.heap.objs.size=À {cls:=.type "range",data:=.fields (ß [.int 0 s.toks,.int j t,.int 1 (s.toks+1)])}:=ŏ _ rfl
 let J:=I.laid (t':=s.toks+1+1) (h':=s.heap.push {cls:=.type "range",data:=.fields (ß [.int 0 s.toks,.int j t,.int 1 (s.toks+1)])}) (a:=s.heap.objs.size) (o:=.ext (U6 s.heap.objs.size 0 j 1)) (λb u e=>Ī _ e) (ú _)
  #[#[_,t,_,c],#[_,c],λh1 h2 ⟨d,f,i,a⟩ k=>#[d,f,i,k _ a]]
 show#[.ref s.heap.objs.size,_,J,rfl,q _ (I.hok.fresh (ú _))]
def Bz{m:Nat}{p ps pl:ï}(h:Gl X "list")(j:X.mg "list"=none)(o:Gl X "range")(u:X.mg "range"=none)(i:E X U e b (m:Int))(w:m<=1000)(n:X.calm=Á<|>zra)
  (c:Ã [e] X.env=(Â,Õ e X.env)::Ã [] X.env<|>zra)
  (a:Ã [.Call (.Name "range" p) [e] [] ps] X.env=(Â,Õ (.Call (.Name "range" p) [e] [] ps) X.env)::Ã [] X.env<|>zra):E X U (.Call (.Name "list" pl) [.Call (.Name "range" p) [e] [] ps] [] pos) Á (jc 0 1 m):=by
 stop
  show aK (iM (xN n) h j afx (aB (iM Ac o u boot_range (aB i aW c) (he:=c)) aW a) (he:=a)) λY H Q ⟨H0,F,O,S,q⟩=>#[H0,F,O,S,λv H1 g s=>by
    cases s;show#[(m:Int),rfl,λr x=>?_];let f:=cT x (.ext (U6 r 0 m 1));show#[r,0,m,1,m,rfl,aY,.b,.a,by rw[rangeSize_one];split<;>lia,ĭ w .a,λl d=>?_];let⟨t,k⟩:=bS (xs:=(jc 0 1 m).map V.int) (S.go (g.trans f)) d
    show q _ _ (g.trans (f.trans t)) #[l,_,rfl,cS.of k,#[(S.go (g.trans f)).fL d,k],A_ _]]
def Qm{x:M}{y:β}{z:γ}{k:Nat}(ha:E X U e1 b x)(i:E X U e2 b y)(h:E X U e3 b z)(l:Ã [e1,e2,e3] X.env=(Â,Õ e1 X.env)::Ã [e2,e3] X.env<|>zra)(f:Ã [e2,e3] X.env=(Â,Õ e2 X.env)::Ã [e3] X.env<|>zra)(g:Ã [e3] X.env=(Â,Õ e3 X.env)::Ã [] X.env<|>zra):
  E X U (.Tuple [e1,e2,e3] k pos) b (T3.mk x y z):=by
 stop
  show aK (Dh (aB ha (aB i (aB h aW g) f) l)) λY H Q ⟨H0,F,O,S,q⟩=>#[H0,F,O,S,λv H1 a m=>#[H0,F,O,S.go a,λw H2 e j=>#[H0,F,O,(S.go a).go e,λu r d n=>#[by change 3<=sizeLine;decide,λp hp=>by
    let⟨c,o⟩:=qu (xs:=[v,w,u]) (((S.go a).go e).go d) hp
    show q _ _ (a.trans (e.trans (d.trans c))) #[p,v,w,u,rfl,o,aw ((ah e).trans ((ah d).trans (ah c))) m,aw ((ah d).trans (ah c)) j,aw (ah c) n]]]]]
end
structure LP where
noncomputable instance:Py LP where
 rp K N H v _:=∃p c ys b f a xs,v=.ref p/\Rt H p [.ref c,.ref b,.ref a]/\(cS K H c ys/\N.has H c (.inl ys))/\(cS K H b f/\N.has H b (.inl f))/\(cS K H a xs/\N.has H a (.inl xs))/\0<xs.length/\c≠a/\b≠a/\∀x∈xs,∃d zs,x=.ref d/\cS K H d zs/\N.has H d (.inl zs)
 tr l t h:=by
  let⟨p,c,ys,b,f,a,xs,e,s,g,k,i,o,ne1,ne2,q⟩:=h;show#[p,c,ys,b,f,a,xs,e,t _ _ s,l _ (.inl ys) g.1 g.2,l _ (.inl f) k.1 k.2,l _ (.inl xs) i.1 i.2,o,ne1,ne2,λx n=>?_];let⟨d,zs,m,j⟩:=q x n;show#[d,zs,m,l _ (.inl zs) j.1 j.2]
section
variable{X:Cx}{U:aM}{D:GD}{M β γ:Type}[Py M][Py β][Py γ]{e:Ô}{pos:ï}{rest st:List Ð}
def Ra[PyT M][PyT β]{K:Ä}{j:Ç->Prop}{H:Hp}{v:V}{l:List M}{m:List β}{T:List (List γ)}(R:0<T.length)(h:Py.rp K (.set j) H v (T3.mk l m T)):Py.rp K (.set j) H v LP.mk:=by
 let⟨p,x,y,z,e,s,⟨D,ys,e1,G,E,P⟩,⟨C,B,e2,Q,w,N⟩,⟨t,xs,e3,I,A,u⟩⟩:=h;subst e1 e2 e3
 let row:∀{x:V} {i:Nat},xs[i]?=À x->∃d zs,x=.ref d/\cS K H d zs/\Nn.has (.set j) H d (.inl zs):=λ{x i} k=>by
  let⟨r,O,d,zs,F,α,J,Γ⟩:=nC u k;show#[d,zs,F,α,J]
 let S:xs.length=T.length:=br u;let b:xs[0]?=À xs[0]:=Đ .b;let⟨q,o,f,_,n⟩:=row b;let a:H q=À (.lst o):=n.2;let g:H t=À (.lst xs):=A.2;show#[p,D,ys,C,B,t,xs,e,s,#[G,E],#[Q,w],#[I,A],.b,λz=>?_,λz=>?_,λx k=>?_]
 .subst z;let h1:H D=À (.lst ys):=E.2;rw[g] at h1;cases h1;let⟨c,L,rc⟩:=nC P b;rw[f] at rc;show PyT.nl rc a
 .subst z;let h1:H C=À (.lst B):=w.2;rw[g] at h1;cases h1;let⟨c,L,rc⟩:=nC N b;rw[f] at rc;show PyT.nl rc a
 .let⟨i,hi,ex⟩:=aeP.mp k;show row (i:=i) (x:=x) (by rw[Đ hi,ex])
def NZ(i:Nat){a:M}{c:β}(k:U[i]?=À (À (.dpo a)))(w:∀f H v,Py.rp X.K (.set f) H v a->Py.rp X.K (.set f) H v c)(h:S X (U.set i (À (.dpo c))) st D):S X U st D:=by
 stop
  show mL h λq Y H ⟨H0,F,O,Z,n,r,bk,ct⟩=>by
   let b:i<U.length:=by
    obtain z|z:=ags i U.length
    .show z
    .rw[Ϲ z] at k;cases k
   show#[H0,F,O,#[Z.same,Z.fo,Z.f0,Z.own,by rw[Ō];show Z.len,λj g e no=>?_,?_],n,r,bk,ct]
   .by_cases d:j=i
    .subst d;rw[get_set_eq b] at e;cases e;show absurd É no
    .rw[get_set_ne d] at e;show Z.at_ j g e no
   .let⟨f,p,m,l⟩:=Z.dis;show#[f,p,m,λj g e o=>?_];by_cases d:j=i
    .subst d;rw[get_set_eq b] at e;cases e;let⟨v,h1,h2⟩:=l j _ k É;show#[v,h1,w _ _ _ h2]
    .rw[get_set_ne d] at e;show l j g e o
def Gu{K:Ä}{f:Ç->Prop}{H:Hp}{p i h d q:Ç}{ys y xs:List V}(s:Rt H p [.ref i,.ref h,.ref d])(D:Nn.has (.set f) H i (.inl ys))(t:Nn.has (.set f) H h (.inl y))(m:Nn.has (.set f) H d (.inl xs))(C:0<xs.length)(ne1:i≠d)(ne2:h≠d)(E:∀x∈xs,∃g zs,x=.ref g/\cS K H g zs/\Nn.has (.set f) H g (.inl zs))(w:q≠d)(F:∃us,H q=À (.lst us)):
  Py.rp K (.set f) (upd H q (.lst [])) (.ref p) LP.mk:=by
 let lst:∀{a:Ç} {zs:List V},Nn.has (.set f) H a (.inl zs)->∃c,cS K (upd H q (.lst [])) a c/\Nn.has (.set f) (upd H q (.lst [])) a (.inl c):=λ{a zs} n=>by
  by_cases z:a=q
  .subst z;show#[[],cS.of aY,n.1,aY]
  .let e:upd H q (.lst []) a=À (.lst zs):=by rw[aU z];show n.2
   show#[zs,cS.of e,n.1,e]
 let⟨us,A⟩:=F
 let G:p≠q:=λz=>by
  let h1:=s.pl;rw[z,A] at h1;cases h1
 let s':Rt (upd H q (.lst [])) p [.ref i,.ref h,.ref d]:=.inl (by rw[aU G];show s.pl);let⟨j,o⟩:=lst D;let⟨k,B⟩:=lst t;let l:upd H q (.lst []) d=À (.lst xs):=by rw[aU (Ź w)];show m.2
 show#[p,i,j,h,k,d,xs,rfl,s',o,B,#[cS.of l,m.1,l],C,ne1,ne2,λx v=>?_];let⟨g,zs,r,_,u⟩:=E x v;let⟨c,b⟩:=lst u;show#[g,c,r,b]
def ME(i:Nat)(w:U[i]?=À (À (.dpo LP.mk)))(h:S X (U.set i (À (.dpo LP.mk))) rest D)(hi:X.N[i]?=À x<|>zra)
  (y:Hy X.env.scope x<|>zre) (l:(x==("__debug__":Í))=Â<|>zrb) (g:(x==("__classdict__":Í))=Â<|>zrb)
  (a:Ą (.Subscript .H (.Constant (.int 0) j p') sp) "clear" X.env (Õ (.Subscript .H (.Constant (.int 0) j p') sp) X.env)=Õ (.Subscript .H (.Constant (.int 0) j p') sp) X.env<|>zra)
  (b:(ap.endLine==cp.line)=Á<|>zra) (e:î (.Call (.Attribute (.Subscript .H (.Constant (.int 0) j p') sp) "clear" ap) [] [] cp) none pos.line X.env=pure Â<|>zra):
  S X U (.Expr (.Call (.Attribute (.Subscript .H (.Constant (.int 0) j p') sp) "clear" ap) [] [] cp) pos::rest) D:=by
 stop
  show c9 (c7 (nQ (zi afq agB agC vj (j8 lG (pv i hi y l g) vI (λ_ _=>rfl)) a b) e) λG Y H ⟨H0,F,O,Z,n,_⟩=>by
    let⟨v,E,f,⟨q,d,ys,r,I,k,xs,e1,s,c,C,t,A,ne1,ne2,B⟩,_,wr⟩:=Z.write w É;show#[v,f,q,[.ref d,.ref r,.ref k],0,.ref d,e1,rfl,gS (aI.refl _) s,rfl,.inl #[rfl,ys,c.1],d,ys,rfl,rfl,c.2.2,?_]
    let⟨o,u⟩:=wr d [] (À (.dpo LP.mk)) c.2.1 λm z=>by
     cases z;subst e1;show#[É,Gu s c.2 C.2 t.2 A ne1 ne2 B ne1 ⟨_,c.2.2⟩]
    show n _ _ _ _ (by rw[u];show aI.refl _) o h)
def Nj(i:Nat)(z:U[i]?=À (À (.dpo LP.mk)))(h:S X (U.set i (À (.dpo LP.mk))) rest D)(hi:X.N[i]?=À x<|>zra)
  (A:Hy X.env.scope x<|>zre) (o:(x==("__debug__":Í))=Â<|>zrb) (g:(x==("__classdict__":Í))=Â<|>zrb)
  (a:Ą (.Subscript .H (.Constant (.int 1) j p') sp) "clear" X.env (Õ (.Subscript .H (.Constant (.int 1) j p') sp) X.env)=Õ (.Subscript .H (.Constant (.int 1) j p') sp) X.env<|>zra)
  (b:(ap.endLine==cp.line)=Á<|>zra) (e:î (.Call (.Attribute (.Subscript .H (.Constant (.int 1) j p') sp) "clear" ap) [] [] cp) none pos.line X.env=pure Â<|>zra):
  S X U (.Expr (.Call (.Attribute (.Subscript .H (.Constant (.int 1) j p') sp) "clear" ap) [] [] cp) pos::rest) D:=by
 stop
  show c9 (c7 (nQ (zi afq agB agC vj (j8 lG (pv i hi A o g) vI (λ_ _=>rfl)) a b) e) λI Y H ⟨H0,F,O,Z,n,_⟩=>by
    let⟨v,G,f,⟨q,w,ys,d,k,m,xs,e1,s,l,c,u,C,ne1,ne2,E⟩,_,wr⟩:=Z.write z É;show#[v,f,q,[.ref w,.ref d,.ref m],1,.ref d,e1,rfl,gS (aI.refl _) s,rfl,.inl #[rfl,k,c.1],d,k,rfl,rfl,c.2.2,?_]
    let⟨t,y⟩:=wr d [] (À (.dpo LP.mk)) c.2.1 λr B=>by
     cases B;subst e1;show#[É,Gu s l.2 c.2 u.2 C ne1 ne2 E ne2 ⟨_,c.2.2⟩]
    show n _ _ _ _ (by rw[y];show aI.refl _) t h)
def K9(i:Nat){p2 bw:ï}{d:Nat}(B:U[i]?=À (À (.dpo LP.mk)))(h:S X (U.set i none) rest D)(hi:X.N[i]?=À x<|>zra)
  (C:Hy X.env.scope x<|>zre) (r:(x==("__debug__":Í))=Â<|>zrb) (l:(x==("__classdict__":Í))=Â<|>zrb)
  (b:Ą (.Subscript (.Subscript .H (.Constant (.int 2) j p') sp) (.Constant (.int 0) d p2) bw) "clear" X.env (Õ (.Subscript (.Subscript .H (.Constant (.int 2) j p') sp) (.Constant (.int 0) d p2) bw) X.env)=Õ (.Subscript (.Subscript .H (.Constant (.int 2) j p') sp) (.Constant (.int 0) d p2) bw) X.env<|>zra)
  (c:(ap.endLine==cp.line)=Á<|>zra) (e:î (.Call (.Attribute (.Subscript (.Subscript .H (.Constant (.int 2) j p') sp) (.Constant (.int 0) d p2) bw) "clear" ap) [] [] cp) none pos.line X.env=pure Â<|>zra):
  S X U (.Expr (.Call (.Attribute (.Subscript (.Subscript .H (.Constant (.int 2) j p') sp) (.Constant (.int 0) d p2) bw) "clear" ap) [] [] cp) pos::rest) D:=by
 stop
  show c9 (c7 (nQ (zi afq agB agC vj (j8 u9 (j8 lG (pv i hi C r l) vI (λ_ _=>rfl)) vI (λ_ _=>rfl)) b c) e) λα Y H ⟨H0,F,O,Z,n,_⟩=>by
    let⟨v,K,f,⟨q,z,ys,w,P,g,xs,e1,s,L,Q,y,I,ne1,ne2,J⟩,_,wr⟩:=Z.write B É;let a:xs[0]?=À xs[0]:=Đ I;let⟨k,zs,o,E,m⟩:=J _ (Ĭ a);rw[o] at a;show#[v,f,q,[.ref z,.ref w,.ref g],2,.ref g,e1,rfl,gS (aI.refl _) s,rfl,g,xs,0,.ref k,rfl,rfl,y.1,vd (j:=0) a,.inl #[rfl,zs,E],k,zs,rfl,rfl,m.2,?_];let⟨u,A⟩:=wr k [] none m.1 λt G=>nomatch G
    show n _ _ _ _ (by rw[A];show aI.refl _) u h)
variable{e1:Ô}{b:Bool}{p p2:ï}
def RU{x:T3 M β γ}(h:Gl X "isinstance")(j:X.mg "isinstance"=none)(c:Gl X "tuple")(d:X.mg "tuple"=none)(ha:E X U e b x)
  (f:Ã [e,.Name "tuple" p2] X.env=(Â,Õ e X.env)::Ã [.Name "tuple" p2] X.env<|>zra):E X U (.Call (.Name "isinstance" p) [e,.Name "tuple" p2] [] pos) Á Á:=by
 stop
  show Cd h j c d ahR ha (λZB s Y H N v u Q I g r q=>by
    let⟨a,x,y,z,rfl,i,_⟩:=g;cases r;let⟨Y0,l,pl,_⟩:=I.tuple (.inl i.rd);let⟨o,h1,h2,n,k⟩:=pl
    show call_isinstance (isinstance_true (Tx:="tuple") F.isi_meta_tuple AutoSeq1.sub_tuple_tuple) #[#[o,h1,h2],q s.toks]) f
def QK{x:T3 M β γ}(d:Gl X "len")(h:X.mg "len"=none)(ha:E X U e b x)(a:Ã [e] X.env=(Â,Õ e X.env)::Ã [] X.env<|>zra):E X U (.Call (.Name "len" p) [e] [] pos) Á (3:Int):=by
 stop
  show aK (du kJ d h ah2 (aB ha aW a) (he:=a)) λY H Q ⟨H0,F,O,S,q⟩=>#[H0,F,O,S,λv H1 c f=>by
    let⟨p,u,w,t,e,g,_⟩:=f
    show#[p,_,by rw[e],.inr (gS (au _ _) g),q _ H1 c rfl]]
def Pw{u:T3 M β γ}(ha:E X U e1 b u):E X U (.Subscript e1 (.Constant (.int 0) j p') pos) b u.a:=by
 stop
  show aK (j8 lG ha ae (λ_ _=>rfl)) λY H Q ⟨H0,F,O,S,q⟩=>#[H0,F,O,S,λv H1 d g=>#[H0,F,O,S.go d,λw H2 c f=>by
    let⟨p,x,y,z,e,i,h,k,l⟩:=g
    show#[p,_,0,x,e,f,gS (au _ _) (aI.rt (ah c) i),rfl,q x H2 (d.trans c) (aw (ah c) h)]]]
def Up{u:T3 M β γ}(ha:E X U e1 b u):E X U (.Subscript e1 (.Constant (.int 1) j p') pos) b u.b:=by
 stop
  show aK (j8 lG ha ae (λ_ _=>rfl)) λY H Q ⟨H0,F,O,S,q⟩=>#[H0,F,O,S,λv H1 c g=>#[H0,F,O,S.go c,λw H2 a d=>by
    let⟨p,x,y,z,e,h,i,f,k⟩:=g
    show#[p,_,1,y,e,d,gS (au _ _) (aI.rt (ah a) h),rfl,q y H2 (c.trans a) (aw (ah a) f)]]]
def Vj{u:T3 M β γ}(ha:E X U e1 b u):E X U (.Subscript e1 (.Constant (.int 2) j p') pos) b u.c:=by
 stop
  show aK (j8 lG ha ae (λ_ _=>rfl)) λY H Q ⟨H0,F,O,S,q⟩=>#[H0,F,O,S,λv H1 d g=>#[H0,F,O,S.go d,λw H2 a f=>by
    let⟨p,x,y,z,e,h,l,k,i⟩:=g
    show#[p,_,2,z,e,f,gS (au _ _) (aI.rt (ah a) h),rfl,q z H2 (d.trans a) (aw (ah a) i)]]]
end
end L2.EP
namespace L2.EP.K
open PySem PySem.Spec PyProof.Rows
variable{a b x c q p d y e g A r:Int}{l xs z other new:.L}{n i m j:Nat}{N:Nn}{H:Hp}
noncomputable def top(i:Nat):Ð:=PySem.Challenge.pw_everyplace_k58_leading.main.body.getD i (.Pass #[0,0,0,0])
abbrev oQ:Ð:=top 6
abbrev wg:List Í:=["k"]
def AY:ak wg ["k"] (af oQ):=bU
abbrev zg:Ð:=top 7
abbrev Fq:List Í:=["base","exponent","answer","step"]
def qL:ak Fq ["base","exponent"] (af zg):=bU
abbrev oY:Ð:=top 8
abbrev wD:List Í:=["base","exponent","m","answer","square"]
def da:ak wD ["base","exponent","m"] (af oY):=bU
abbrev mE:Ð:=top 9
abbrev t_:List Í:=["k","divisor","often","left"]
def fG:ak t_ ["k","divisor"] (af mE):=bU
abbrev jK:Ð:=top 10
abbrev oz:List Í:=["k","root"]
def iU:ak oz ["k"] (af jK):=bU
abbrev dA:Ð:=top 11
abbrev fU:List Í:=["k","root"]
def fC:ak fU ["k"] (af dA):=bU
abbrev tf:Ð:=top 12
abbrev yG:List Í:=["k","m","rest","below","factor","factor_below","often","left","factor_left"]
def bX:ak yG ["k","m"] (af tf):=bU
abbrev fY:Ð:=top 14
abbrev kh:List Í:=["a","b","rest"]
def dJ:ak kh ["a","b"] (af fY):=bU
abbrev iZ:Ð:=top 15
abbrev o4:List Í:=["top","bottom","divisor"]
def mW:ak o4 ["top","bottom"] (af iZ):=bU
abbrev CY:Ð:=top 16
abbrev Le:List Í:=["u","v"]
def NU:ak Le ["u","v"] (af CY):=bU
abbrev y9:Ð:=top 17
abbrev FI:List Í:=["u","v"]
def K5:ak FI ["u","v"] (af y9):=bU
abbrev iY:Ð:=top 21
abbrev mO:List Í:=["k","begin","end","divisor"]
def lJ:ak mO ["k","begin","end"] (af iY):=bU
abbrev pg:Ð:=top 22
abbrev vB:List Í:=["k"]
def BY:ak vB ["k"] (af pg):=bU
abbrev lE:Ð:=top 23
abbrev pY:List Í:=["k","answer"]
def jG:ak pY ["k"] (af lE):=bU
abbrev sP:Ð:=top 24
abbrev x_:List Í:=["k","end","out","found","left","divisor"]
def dW:ak x_ ["k","end"] (af sP):=bU
abbrev zc:Ð:=top 25
abbrev Gs:List Í:=["k","known","last"]
def we:ak Gs ["k"] (af zc):=bU
abbrev k7:Ð:=top 26
abbrev qP:List Í:=["k","known","root"]
def jX:ak qP ["k"] (af k7):=bU
abbrev zI:Ð:=top 27
abbrev E9:List Í:=["u","known","number","root","part"]
def je:ak E9 ["u"] (af zI):=bU
abbrev tw:Ð:=top 28
abbrev yd:List Í:=["k"]
def D2:ak yd ["k"] (af tw):=bU
abbrev mX:Ð:=top 30
abbrev tR:List Í:=["k","p","rest"]
def qX:ak tR ["k","p"] (af mX):=bU
abbrev fN:Ð:=top 31
abbrev ju:List Í:=["p","k"]
def e9:ak ju ["p"] (af fN):=bU
abbrev md:Ð:=top 32
abbrev tM:List Í:=["k","p","often"]
def iF:ak tM ["k","p"] (af md):=bU
abbrev f7:Ð:=top 33
abbrev j5:List Í:=["k","p","out","twos","odd","root","error","mender","often","step"]
def aP:ak j5 ["k","p"] (af f7):=bU
abbrev hV:Ð:=top 34
abbrev lR:List Í:=["k","p","kind"]
def kd:ak lR ["k","p"] (af hV):=bU
abbrev kT:Ð:=top 35
abbrev q_:List Í:=["one","m","other","p"]
def xH:ak q_ ["one","m","other","p"] (af kT):=bU
abbrev rM:Ð:=top 36
abbrev yx:List Í:=["k","m","answer","done","part","root"]
def e8:ak yx ["k","m"] (af rM):=bU
abbrev kM:Ð:=top 38
abbrev o_:List Í:=["k","p","out","rest"]
def ff:ak o_ ["k","p"] (af kM):=bU
abbrev i_:Ð:=top 39
abbrev mI:List Í:=["k","p"]
def uf:ak mI ["k","p"] (af i_):=bU
abbrev pd:Ð:=top 40
abbrev xf:List Í:=["one","other","reasons"]
def gL:ak xf ["one","other"] (af pd):=bU
abbrev oI:Ð:=top 41
abbrev wH:List Í:=["one","other","p","said"]
def gQ:ak wH ["one","other","p"] (af oI):=bU
abbrev Dd:Ð:=top 42
abbrev KC:List Í:=["a","b","p","one","other"]
def zy:ak KC ["a","b","p"] (af Dd):=bU
abbrev l9:Ð:=top 43
abbrev ue:List Í:=["numbers","found","k","part"]
def iz:ak ue ["numbers"] (af l9):=bU
abbrev gX:Ð:=top 46
abbrev lS:List Í:=["k"]
def rV:ak lS ["k"] (af gX):=bU
abbrev pP:Ð:=top 47
abbrev xi:List Í:=["row"]
def GU:ak xi ["row"] (af pP):=bU
abbrev gY:Ð:=top 48
abbrev lN:List Í:=["row"]
def rF:ak lN ["row"] (af gY):=bU
abbrev wW:Ð:=top 49
abbrev BA:List Í:=["a","b","divisor"]
def yk:ak BA ["a","b"] (af wW):=bU
abbrev iT:Ð:=top 50
abbrev mK:List Í:=["row","number","k"]
def eO:ak mK ["row"] (af iT):=bU
abbrev kL:Ð:=top 51
abbrev oM:List Í:=["row"]
def Co:ak oM ["row"] (af kL):=bU
abbrev uX:Ð:=top 52
abbrev AB:List Í:=["row","p","noes","i","a"]
def pX:ak AB ["row","p"] (af uX):=bU
abbrev nZ:Ð:=top 53
abbrev sD:List Í:=["row"]
def CG:ak sD ["row"] (af nZ):=bU
abbrev fO:Ð:=top 54
abbrev jF:List Í:=["a","b","c","p"]
def o8:ak jF ["a","b","c","p"] (af fO):=bU
abbrev gm:Ð:=top 55
abbrev j6:List Í:=["numbers","p","product"]
def jw:ak j6 ["numbers","p"] (af gm):=bU
abbrev l4:Ð:=top 56
abbrev tO:List Í:=["numbers","p"]
def zo:ak tO ["numbers","p"] (af l4):=bU
abbrev dy:Ð:=top 57
abbrev fV:List Í:=["row","p"]
def dj:ak fV ["row"] (af dy):=bU
abbrev eQ:Ð:=top 58
abbrev g6:List Í:=["numbers","barring"]
def j4:ak g6 ["numbers"] (af eQ):=bU
abbrev g9:Ð:=top 59
abbrev lU:List Í:=["row"]
def sE:ak lU ["row"] (af g9):=bU
abbrev o9:Ð:=top 62
abbrev wV:List Í:=["k","left","p"]
def jv:ak wV ["k"] (af o9):=bU
abbrev k8:Ð:=top 66
abbrev qM:List Í:=["p","no_square"]
def ou:ak qM ["p"] (af k8):=bU
abbrev eW:Ð:=top 67
abbrev i9:List Í:=["one","other","p","rest"]
def hX:ak i9 ["one","other","p"] (af eW):=bU
abbrev cU:Ð:=top 68
abbrev dX:List Í:=["found","p"]
def cz:ak dX [] (af cU):=bU
abbrev iE:Ð:=top 69
abbrev kO:List Í:=["k","places"]
def xJ:ak kO ["k","places"] (af iE):=bU
abbrev eh:Ð:=top 70
abbrev gq:List Í:=["k","places","wishes","answer","p","classes","own"]
def dH:ak gq ["k","places","wishes"] (af eh):=bU
abbrev m9:Ð:=top 71
abbrev tX:List Í:=["classes","wishes","own","wish"]
def pD:ak tX ["classes","wishes"] (af m9):=bU
abbrev fP:Ð:=top 72
abbrev iQ:List Í:=["places","wishes","starts","k","known","further","left","classes"]
def bZ:ak iQ ["places","wishes"] (af fP):=bU
abbrev eB:Ð:=top 73
abbrev gp:List Í:=["one","other","p"]
def rn:ak gp ["one","other","p"] (af eB):=bU
abbrev nV:Ð:=top 74
abbrev tq:List Í:=["one","other","places"]
def w_:ak tq ["one","other"] (af nV):=bU
abbrev iC:Ð:=top 76
abbrev kY:List Í:=["n","place"]
def xS:ak kY ["n","place"] (af iC):=bU
abbrev dw:Ð:=top 77
abbrev eJ:List Í:=["n"]
def mY:ak eJ ["n"] (af dw):=bU
abbrev pH:Ð:=top 78
abbrev xk:List Í:=["T","j"]
def He:ak xk ["T","j"] (af pH):=bU
abbrev gE:Ð:=top 79
abbrev jI:List Í:=["T"]
def vE:ak jI ["T"] (af gE):=bU
abbrev hW:Ð:=top 80
abbrev lQ:List Í:=["numbers","bottom","u"]
def eE:ak lQ ["numbers"] (af hW):=bU
abbrev dD:Ð:=top 81
abbrev fB:List Í:=["numbers","bottom"]
def jb:ak fB ["numbers"] (af dD):=bU
abbrev dI:Ð:=top 82
abbrev fQ:List Í:=["one","other","total"]
def iO:ak fQ ["one","other"] (af dI):=bU
abbrev jD:Ð:=top 83
abbrev nr:List Í:=["one","others"]
def zK:ak nr ["one","others"] (af jD):=bU
abbrev kC:Ð:=top 84
abbrev nJ:List Í:=["one","other","columns"]
def vH:ak nJ ["one","other"] (af kC):=bU
abbrev jM:Ð:=top 86
abbrev oD:List Í:=["a","b","x","y","top"]
def mH:ak oD ["a","b","x","y"] (af jM):=bU
abbrev rD:Ð:=top 87
abbrev yU:List Í:=["k"]
def DH:ak yU ["k"] (af rD):=bU
abbrev f_:Ð:=top 88
abbrev kc:List Í:=["row","step","i","j","made","other"]
def cL:ak kc ["row","step"] (af f_):=bU
abbrev oZ:Ð:=top 89
abbrev xp:List Í:=["row","step","numbers","answer"]
def tU:ak xp ["row","step","numbers"] (af oZ):=bU
abbrev nv:Ð:=top 90
abbrev tY:List Í:=["row","step","numbers","i","j","factor","answer"]
def fw:ak tY ["row","step","numbers"] (af nv):=bU
abbrev lh:Ð:=top 91
abbrev pL:List Í:=["row","steps","answer","step"]
def gC:ak pL ["row","steps"] (af lh):=bU
abbrev jW:Ð:=top 92
abbrev om:List Í:=["row","steps","answer","table","step","numbers"]
def cu:ak om ["row","steps"] (af jW):=bU
abbrev dF:Ð:=top 94
abbrev fD:List Í:=["numbers","divisor","k"]
def dk:ak fD ["numbers"] (af dF):=bU
abbrev gW:Ð:=top 95
abbrev lP:List Í:=["a","b","answer"]
def ki:ak lP ["a","b"] (af gW):=bU
abbrev jV:Ð:=top 96
abbrev oE:List Í:=["a","lesser","root","zero","x","y"]
def jd:ak oE ["a","lesser","root","zero"] (af jV):=bU
abbrev g8:Ð:=top 97
abbrev lL:List Í:=["k","m","root"]
def ky:ak lL ["k","m"] (af g8):=bU
abbrev eR:Ð:=top 98
abbrev lT:List Í:=["a","b","found","root","lesser"]
def c8:ak lT ["a","b"] (af eR):=bU
abbrev g7:Ð:=top 99
abbrev lK:List Í:=["row","one","other","found","root","other_root","x"]
def bO:ak lK ["row"] (af g7):=bU
abbrev gD:Ð:=top 100
abbrev jS:List Í:=["numbers"]
def wC:ak jS ["numbers"] (af gD):=bU
abbrev cY:Ð:=top 102
abbrev eA:List Í:=["numbers","c","zero","h","often","answer"]
def dG:ak eA ["numbers","c","zero"] (af cY):=bU
abbrev gZ:Ð:=top 103
abbrev lO:List Í:=["a","b","c"]
def rW:ak lO ["a","b","c"] (af gZ):=bU
abbrev d7:Ð:=top 106
abbrev gN:List Í:=["one","other","p"]
def fT:ak gN ["one","other"] (af d7):=bU
abbrev sG:Ð:=top 107
abbrev yL:List Í:=["one","other","p"]
def vY:ak yL ["one","other"] (af sG):=bU
abbrev eI:Ð:=top 108
abbrev hZ:List Í:=["k"]
def ng:ak hZ ["k"] (af eI):=bU
abbrev b_:Ð:=top 109
abbrev dh:List Í:=["row","longest"]
def jZ:ak dh ["row","longest"] (af b_):=bU
abbrev sW:Ð:=top 110
abbrev yJ:List Í:=["i","j","a","b","c","values"]
def v8:ak yJ ["i","j","a","b","c"] (af sW):=bU
abbrev gf:Ð:=top 111
abbrev kg:List Í:=["one","other","t","steps","row"]
def dE:ak kg ["one","other"] (af gf):=bU
abbrev oO:Ð:=top 112
abbrev vt:List Í:=["one","other"]
def Cr:ak vt ["one","other"] (af oO):=bU
abbrev sQ:Ð:=top 113
abbrev yf:List Í:=["one","other","apart","steps"]
def oJ:ak yf ["one","other"] (af sQ):=bU
abbrev jJ:Ð:=top 115
abbrev oA:List Í:=["_law_script","_law_k"]
def vz:ak oA ["_law_script","_law_k"] (af jJ):=bU
abbrev sI:Ð:=top 116
abbrev yj:List Í:=["_law_cell","_law_k","_law_number","_law_j","_law_part"]
def gu:ak yj ["_law_cell","_law_k"] (af sI):=bU
abbrev nj:Ð:=top 117
abbrev tL:List Í:=["_law_cell","_law_number","_law_bits","_law_p"]
def d9:ak tL ["_law_cell"] (af nj):=bU
abbrev jg:Ð:=top 118
abbrev mN:List Í:=["_law_cell","_law_size","_law_row","_law_k"]
def eV:ak mN ["_law_cell","_law_size"] (af jg):=bU
abbrev kG:Ð:=top 119
abbrev qz:List Í:=["_law_a","_law_b","_law_rest"]
def gB:ak qz ["_law_a","_law_b"] (af kG):=bU
abbrev dR:Ð:=top 120
abbrev jh:List Í:=["_law_top","_law_bottom","_law_part"]
def gU:ak jh ["_law_top","_law_bottom"] (af dR):=bU
abbrev tF:Ð:=top 121
abbrev yc:List Í:=["_law_u","_law_v"]
def Ds:ak yc ["_law_u","_law_v"] (af tF):=bU
abbrev mx:Ð:=top 122
abbrev uc:List Í:=["_law_u","_law_v"]
def Ad:ak uc ["_law_u","_law_v"] (af mx):=bU
abbrev oG:Ð:=top 123
abbrev wj:List Í:=["_law_k","_law_root_here"]
def ny:ak wj ["_law_k"] (af oG):=bU
abbrev o5:Ð:=top 124
abbrev xc:List Í:=["_law_number","_law_left","_law_free_here","_law_d","_law_often"]
def cc:ak xc ["_law_number"] (af o5):=bU
abbrev gh:Ð:=top 125
abbrev kz:List Í:=["_law_one","_law_other_here","_law_part"]
def jx:ak kz ["_law_one","_law_other_here"] (af gh):=bU
abbrev jY:Ð:=top 126
abbrev oo:List Í:=["_law_row","_law_step","_law_i","_law_j","_law_x","_law_y","_law_made","_law_new","_law_both"]
def c_:ak oo ["_law_row","_law_step"] (af jY):=bU
abbrev iP:Ð:=top 127
abbrev ni:List Í:=["_law_number","_law_left","_law_p"]
def eN:ak ni ["_law_number"] (af iP):=bU
abbrev mG:Ð:=top 128
abbrev tJ:List Í:=["_law_row","_law_cell","_law_new","_law_turn","_law_i","_law_j","_law_x","_law_y","_law_made","_law_c"]
def bR:ak tJ ["_law_row","_law_cell"] (af mG):=bU
abbrev jo:Ð:=top 129
abbrev mQ:List Í:=["_law_one","_law_other_here","_law_steps","_law_order","_law_new","_law_step"]
def iq:ak mQ ["_law_one","_law_other_here","_law_steps","_law_order"] (af jo):=bU
abbrev iu:Ð:=top 130
abbrev k6:List Í:=["_law_row","_law_table","_law_new","_law_n","_law_i","_law_j","_law_total","_law_k"]
def cX:ak k6 ["_law_row","_law_table","_law_new"] (af iu):=bU
abbrev oP:Ð:=top 131
abbrev v7:List Í:=["_law_one","_law_other_here","_law_handed","_law_said"]
def jA:ak v7 ["_law_one","_law_other_here"] (af oP):=bU
abbrev Er:Ð:=top 132
abbrev JN:List Í:=["_law_script","_law_k","_law_cells","_law_one","_law_other_here","_law_turn","_law_any_row"]
def mS:ak JN ["_law_script"] (af Er):=bU
section
variable{P:Ó}{w:Ü}{K:Ä}{mg:Í->Option Å}{base:á}{f:Ç}{k:Nat}(B:Bu mg)
def Ed(x:Int):⇑Body wg "is_whole" oQ f kk [.val Â x] (RT Á Á):=by
 intro a A outer s H E b;show ay (tW (SW rfl B.isinstance rfl B.int .A) λ_=>(ud (OU (QI rfl B.isinstance rfl B.bool .A)))) rfl
noncomputable def NQ(b e m:Int):Int:=b^↥e%m
def cJ{m:Int}(h:1<=m):a.fmod m=a%m:=aem a .b
def Od{S m:Int}(h:n%2=1):(A*S%m)*(S*S%m)^(n/2)%m=A*S^n%m:=by
 rw[ϓ,agf _ (Ϩ m),mM,<-ϓ,ahi,<-Ŭ,ı];congr 2;let e:S^n=S^(1+(n/2+n/2)):=by congr 1;lia
 rw[e,Ŭ S 1,ĥ,Ń,Ő,Ŭ]
def LA{S m:Int}(h:n%2=0):A*(S*S%m)^(n/2)%m=A*S^n%m:=by
 rw[ϓ,mM,<-ϓ,ahi,<-Ŭ];congr 3;lia
def Eg(h:0<=e):↥(e.fdiv 2)=↥e/2/\0<=e.fdiv 2:=by
 rw[aea _ .a];lia
def CL(x e m:Int)(he:0<=e)(c:1<=m)(r:m<2^62):⇑Body wD "power_by" oY f kk [.val Â x,.val Â e,.val Â m] (RT Á (NQ x e m)):=by
 intro p A outer s H E y;show ao 3 da.nd (bg ae .C .f) ?_;show ao 4 da.nd (bg .A .C .f) ?_;rw[cJ c,cJ c]
 show cR (ι:=Bool×Int×Int×Int) (λi U=>U=[À (.val Â x),À (.val i.1 i.2.1),À (.val Â m),À (.val Á i.2.2.1),À (.val Á i.2.2.2)]/\0<=i.2.1/\i.2.2.1*i.2.2.2^↥i.2.1%m=x^↥e%m/\0<=i.2.2.1/\i.2.2.1<m/\0<=i.2.2.2/\i.2.2.2<m) (λi=>↥i.2.1) (Â,e,1%m,x%m)
  #[rfl,he,by dsimp only;rw[ϓ,agf _ (Ϩ m),mM,<-ϓ,Ő],ť _ .f,Ŧ _ .f,ť _ .f,Ŧ _ .f] ?_
 rintro⟨v,n,a,q⟩ U' ⟨rfl,t,hi,j,h,u,z⟩;dsimp only at *;show#[_,aD h_ .B ae,λb=>?_,λb=>?_]
 .let l:0<n:=by simpa using b
  let d:=Eg t;let k:=ť (q*q) (.f:m≠0);let o:=Ŧ (q*q) (.f:0<m);show aQ (aD aO (bg .B ae .a) ae) (λb=>?_) (λb=>?_)
  .let g:↥n%2=1:=by
    let:n.fmod 2=1:=by simpa using b
    rw[cJ .a] at this;omega
   show ao 3 da.nd (bg (aH .D .E (mulL .f .f)) .C .f) (aN ?_);show ao 4 da.nd (bg (aH .E .E (mulL .f .f)) .C .f) ?_;show ao 1 da.nd (bf .B ae AR) ?_;rw[cJ c,cJ c];show aN #[(Á,n.fdiv 2,a*q%m,q*q%m),#[rfl,d.2,?_,ť _ .f,Ŧ _ .f,k,o],?_]
   .dsimp only;rw[d.1,Od g,hi]
   .dsimp only;omega
  .let g:↥n%2=0:=by
    let:¬n.fmod 2=1:=by simpa using b
    rw[cJ .a] at this;omega
   show ao 4 da.nd (bg (aH .E .E (mulL .f .f)) .C .f) ?_;show ao 1 da.nd (bf .B ae AR) ?_;rw[cJ c];show aN #[(Á,n.fdiv 2,a,q*q%m),#[rfl,d.2,?_,j,h,k,o],?_]
   .dsimp only;rw[d.1,LA g,hi]
   .dsimp only;omega
 .let hz:↥n=0:=by
   let:¬0<n:=by simpa using b
   omega
  rw[hz,Ń,Ċ,agE j h] at hi;show ay .D ?_;change Bd.val _ _=Bd.val _ _;unfold NQ;rw[<-hi]
def CQ{k l n:Int}(g:0<=n)(he:k=l*d^↥n)(e:2<=d)(f:l.fmod d=0)(hz:l≠0):0<=n+1/\k=l.fdiv d*d^↥(n+1)/\l.fdiv d≠0/\(l.fdiv d).natAbs<l.natAbs:=by
 let⟨a,b,c⟩:=BJ e (Q.jk.mp f) hz;show#[.b,?_,b,c];rw[(.b:↥(n+1)=↥n+1),ĥ,he];generalize d^↥n=t;generalize l.fdiv d=q at *;rw[<-a];grind
def Bv(x d:Int)(m:x≠0)(c:2<=d)(q:Sm 9000 d):⇑Body t_ "taken_out" mE f kk [.val Â x,.val Â d] (RT Á (a9 x d)):=by
 intro j A outer s H E u;show ao 2 fG.nd ae ?_;show ao 3 fG.nd .A ?_;show cR (ι:=Bool×Int×Int) (λi U=>U=[À (.val Â x),À (.val Â d),À (.val Á i.2.1),À (.val i.1 i.2.2)]/\0<=i.2.1/\x=i.2.2*d^↥i.2.1/\i.2.2≠0) (λi=>i.2.2.natAbs) (Â,0,x) #[rfl,ń 0,by dsimp only;rw[show ↥(0:Int)=0 from rfl,Ń,Ċ],m] ?_;rintro⟨t,n,l⟩ U' ⟨rfl,e,he,o⟩;dsimp only at *;show#[_,aD aO (bg .D .B .b) ae,λb=>?_,λb=>?_]
 .let a:l.fmod d=0:=by simpa using b
  show ao 3 fG.nd (bf .D .B (q.div .b)) ?_;show ao 2 fG.nd (bG .C ae) ?_;let⟨g,k,p,h⟩:=CQ e he c a o;show aN #[(Á,n+1,l.fdiv d),#[rfl,g,k,p],h]
 .let a:¬l.fmod d=0:=by simpa using b
  show ay (bj .C (dv (b':=Á) .D)) ?_;change Bd.val _ _=Bd.val _ _;rw[nt c (r:=(n,l)) #[e,he,λz=>a (Q.jk.mpr z)]];rfl
def N5{k:Int}(b:0<=k):k<(2:Int)^((Ê k+1)/2)*2^((Ê k+1)/2):=by
 let c:k.natAbs<2^Ê k:=by
  unfold Ê;by_cases hz:k=0
  .subst hz;decide
  .rw[ac2 ↑hz];show Nat.lt_log2_self
 let h2:Ê k<=(Ê k+1)/2+(Ê k+1)/2:=by lia
 let d:(2:Nat)^Ê k<=2^((Ê k+1)/2+(Ê k+1)/2):=aep .a h2;rw[<-Ŭ];let a:((2^((Ê k+1)/2+(Ê k+1)/2):Nat):Int)=(2:Int)^((Ê k+1)/2+(Ê k+1)/2):=by rw[ag6];rfl
 rw[<-a];lia
def xQ(x:Int)(h:0<=x)(o:Sm 8000 x):⇑Body oz "square_root" jK f k [.val Â x] (RT Á (rt x)):=by
 intro j A outer s H E v;let p:Ê x<=8000:=o.bits
 let e:((Ê x:Int)+1).fdiv 2=(((Ê x+1)/2:Nat):Int):=by
  rw[aea _ .a];lia
 show ao 1 iU.nd (VF ae (bf (bG (P_ .A) ae) ae AR) #[by rw[e];lia,by rw[e];lia,.a]) ?_;rw[e,Ő,Ï];let q:=N5 h
 let m:Sm 8001 ((2:Int)^((Ê x+1)/2)):=by
  unfold Sm;rw[Int.natAbs_pow];show aeD .a .b
 let hp:(0:Int)<2^((Ê x+1)/2):=ŕ .a;generalize (2:Int)^((Ê x+1)/2)=R at *
 show cR (ι:=Int) (λr U=>U=[À (.val Â x),À (.val Á r)]/\0<=r/\r<=R/\x<(r+1)*(r+1)) (λr=>↥r) R #[rfl,.b,.b,by
  let:R*R<=(R+1)*(R+1):=Js .b .b
  lia] ?_
 rintro r U' ⟨rfl,g,t,i⟩;let b:Sm 8001 r:=Sm.of_le .b m;show#[_,aD h_ (aH .B .B (b.ok b)) .A,λd=>?_,λd=>?_]
 .let a:x<r*r:=by simpa using d
  let c:0<r:=by
   obtain z|z:=aeY g
   .show z
   .rw[<-z] at a;simp at a;lia
  show ao 1 iU.nd (bf (bG .B (bf .A .B (b.div .b))) ae AR) ?_;let⟨l,u,n⟩:=Lv h c a;show aN #[_,#[rfl,l,.b,n],.b]
 .let a:r*r<=x:=by simpa using d
  show ay .B ?_;change Bd.val _ _=Bd.val _ _;rw[fe g a i]
noncomputable def AO(k:Int):Option Int:=if k<0 then none else if rt k*rt k=k then À (rt k) else none
def UA{k:Int}(a:0<=k)(b:Sm n k):Sm n (rt k):=by
 let h1:=Ge a;let h2:=iI k;show Sm.of_le ?_ b
 let:rt k<=k:=by
  obtain z|z:=τ (rt k) 1
  .lia
  .let:rt k*1<=rt k*rt k:=Ł z h2;lia
 lia
abbrev abX(P w K mg base):=aG P w K mg base 1 "square_root" ["k"] (cj K (λk=>0<=k/\Sm 8000 k) Á rt)
def lY(h:⇑abX)(x:Int)(c:Sm 8000 x):⇑Body fU "square_root_or_none" dA f 1 [.val Â x] (RT Á (AO x)):=by
 intro i A outer s H E g;show aQ (aD gO .A ae) (λa=>?_) (λa=>?_)
 .let e:AO x=none:=ac6 ↑a;rw[e];show ay (j9 (M:=Int)) rfl
 let d:¬x<0:=by simpa using a
 show ao 1 fC.nd (aC h (g.mono .a) rfl .A #[.b,c]) ?_;let b:=UA .b c;show ay (ko (aD aO (aH .B .B (b.ok b)) .A) (λ_=>(aa 1).some) λ_=>j9 (M:=Int)) ?_;change Bd.val _ _=Bd.val _ _;congr 1;unfold AO;rw[ac2 d];by_cases z:rt x*rt x=x
 .rw[ac6 z,ac6 ↑z]
 .rw[ac2 z,ac2 ↑z]
def rE(a b:Int):⇑Body kh "common_divisor" fY f k [.val Â a,.val Â b] (RT Á ((È a b:Nat):Int)):=by
 intro g A outer s H E h;show cR (ι:=Bool×Bool×Int×Int) (λi U=>∃r,U=[À (.val i.1 i.2.2.1),À (.val i.2.1 i.2.2.2),r]/\È i.2.2.1 i.2.2.2=È a b) (λi=>i.2.2.2.natAbs) (Â,Â,a,b) #[none,rfl,rfl] ?_;rintro⟨b1,b2,x,y⟩ U' ⟨r,rfl,d⟩;show#[_,aD cw .B ae,λe=>?_,λe=>?_]
 .let c:y≠0:=by simpa using e
  show ao 2 dJ.nd (bg .A .B c) ?_;show ao 0 dJ.nd .B ?_;show ao 1 dJ.nd .C ?_;show aN #[(b2,Á,y,x.fmod y),#[_,rfl,(p_ x y).trans d],FV x y c]
 .let c:y=0:=by simpa using e
  show ay (iR rfl B.abs .A) ?_;dsimp only at d ⊢;rw[c,agt] at d;rw[<-d];change Bd.val _ _=Bd.val _ _;congr 1;split<;>lia
def Mx(_ b:Int):Prop:=b≠0/\Sm 9000 b
abbrev abY(P w K mg base):=aG P w K mg base 1 "common_divisor" ["a","b"] (bw K (λ_ _=>True) Á λa b=>((È a b:Nat):Int))
def DJ(h:⇑abY)(t b:Int)(e:b≠0)(j:Sm 9000 b):
  Body P w K mg base o4 "fraction" iZ f 1 [.val Â t,.val Â b] (RT Á (fr t b)):=by
 intro c A outer s H E i;let g:=xh (t:=t) e;let hz:Sm 9000 (fd t b):=Sm.of_le (PY e) j;show ao 2 mW.nd (av h i rfl .A .B É) ?_
 let last:∀d:Int,d=fd t b->S (⇑cx o4 "fraction" iZ f c A outer s H E) [À (.val Â t),À (.val Â b),À (.val Á d)] [(b9 iZ).getD 2 (.Pass #[0,0,0,0])] (RT Á (fr t b)):=by
  rintro d rfl;show ay (bj (bf .A .C (hz.div g)) (bf .B .C (hz.div g))) rfl
 show aQ (aD gO .B ae) (λa=>?_) (λa=>?_)
 .show ao 2 mW.nd (dU .C) (aN ?_);show last _ (by unfold fd;rw[ac6 ↑a])
 .show last _ (by unfold fd;rw[ac2 ↑a])
def TX{m:Int}:i<↥(Ò b m 2)↔b+(i:Int)*2<m:=by
 unfold Ò;simp;split<;>lia
def vn(p:⇑abX)(x b e:Int)(hp:1<=x/\Sm 8000 x/\1<=b/\b<2^62/\-(2^62)<=e/\e<2^62):
  Body P w K mg base mO "next_divisor" iY f 1 [.val Â x,.val Â b,.val Â e] (RT Á (tH x b e)):=by
 intro q A outer s H E u;let⟨h1,h2,C,m,D,y⟩:=hp;let t:=iI x;let l:-(2^62)<=(if rt x+1<e then rt x+1 else e)/\(if rt x+1<e then rt x+1 else e)<2^62:=by split<;>lia
 let k:tH x b e=Ur x b (if rt x+1<e then rt x+1 else e):=rfl;show tQ (λi U=>∃r,U=[À (.val Â x),À (.val Â b),À (.val Â e),r]/\∀j:Nat,j<i->¬(b+(j:Int)*2)∣x) rfl B.range (bW 3 lJ.nd) .B (PH rfl rfl B.min .C (bG (aC p (u.mono .a) rfl .A #[.b,h2]) ae)) ae #[.b,m,l.1,l.2] .a #[none,rfl,λj a=>absurd a (af0 _)] ?_ ?_
 .rintro i U' hi ⟨r,rfl,a⟩;let d:=TX.mp hi;show aQ (aD aO (bg .A .D .b) ae) (λg=>?_) (λg=>?_)
  .let c:(b+(i:Int)*2)∣x:=Q.jk.mp ↑g;show ay (aa 3).some ?_;change Bd.val _ _=Bd.val _ _;rw[k,<-AH (r:=À (b+(i:Int)*2)) #[.b,d,.b,c,λd' o n v=>?_]];let:=a ↥((d'-b)/2) .b
   rwa [(.b:b+((↥((d'-b)/2):Nat):Int)*2=d')] at this
  .let c:¬(b+(i:Int)*2)∣x:=λz=>by
    let:=Q.jk.mpr z;simp[this] at g
   show aN #[_,rfl,λj h=>?_];obtain z|z:=ahK.mp h
   .show a j z
   .rwa[z]
 .rintro U' ⟨r,rfl,a⟩;show ay (j9 (M:=Int)) ?_;change Bd.val _ _=Bd.val _ _;rw[k,<-AH (r:=none) λd' o n v=>?_];let:=a ↥((d'-b)/2) (TX.mpr .b)
  rwa [(.b:b+((↥((d'-b)/2):Nat):Int)*2=d')] at this
def P6(k:Int):k.fmod 2=k%2:=aem k .a
abbrev abZ(P w K mg base):=aG P w K mg base 2 "next_divisor" ["k","begin","end"] (tZ K (λk b e=>1<=k/\Sm 8000 k/\1<=b/\b<2^62/\-(2^62)<=e/\e<2^62) Á tH)
def Dl(d:⇑abZ)(x:Int)(c:x<2^62):
  Body P w K mg base vB "is_prime" pg f 2 [.val Â x] (RT Á (aT x)):=by
 intro g A outer s H E e;show aQ (TW.t (iS (aD gO .A ae) λ_=>(gT (aD aO (bg .A ae .a) ae)))) (λb=>?_) (λb=>?_)
 .let a:x<3\/x%2=0:=by simpa [P6] using b
  show ay (jy aO .A ae) ?_;change Bd.val _ _=Bd.val _ _;congr 1;rw[ae3,cQ,aeC];constructor
  .show .inl
  .rintro(z|z)<;>omega
 .let a:3<=x/\x%2=1:=by
   let:¬(x<3\/x%2=0):=by simpa [P6] using b
   omega
  show ay (Px (cP d (e.mono .a) rfl .A ae .A #[.f,Sm.le (m:=62) (by unfold Sm;omega) .a,.a,.a,.f,c]) λ_ _ _ _ h=>nomatch h) ?_;change Bd.val _ _=Bd.val _ _;rw[NW a.1 a.2]
def VO(k e:Int):Prop:=1<=k/\Sm 900 k/\0<=e/\e<2^61
theorem Lo:∀{us:List (Int×Int)} {a b:Int},1<=a->g5 a us b->(2:Int)^us.length<=pp us
 |[],_,_,_,_=>by change(2:Int)^0<=1;decide
 |u::us,a,b,ha,h=>by
  let h1:=Lo (by let:=h.1;lia:1<=u.1) h.2.2.2
  let c:(2:Int)<=u.1^↥u.2:=by
   let e:↥u.2=(↥u.2-1)+1:=by let:=h.2.2.1;lia
   rw[e,ĥ];let:(0:Int)<u.1^(↥u.2-1):=ŕ (by let:=h.1;lia);let:=h.1;let:1*2<=u.1^(↥u.2-1)*u.1:=Ť .b .b .a .b;lia
  change(2:Int)^(us.length+1)<=u.1^↥u.2*pp us;rw[ĥ,ī];let d:(0:Int)<2^us.length:=ŕ .a;show Ť c h1 .b .b
def JV{k:Int}{fs:List (Int×Int)}{l:Int}(I:DQ k fs l b):l<=k/\(2:Int)^fs.length<=k:=by
 let h1:=I.prod;let h2:=k9 .a I.rise;let e:=I.pos;let a:=Lo (ń 1) I.rise;let c:1*l<=pp fs*l:=adR .b .b;let d:pp fs*1<=pp fs*l:=Ł .b .b;lia
def CM{k:Int}(h:(2:Int)^m<=k)(a:Sm 900 k):m<=900:=by
 apply ģ;intro b;unfold Sm at a;let h1:(2:Nat)^900<=2^m:=aep .a .b;let h2:((2^m:Nat):Int)=(2:Int)^m:=by rw[ag6];rfl
 lia
abbrev ab0(P w K mg base):=aG P w K mg base 1 "taken_out" ["k","divisor"] (bw K (λk d=>k≠0/\2<=d/\Sm 9000 d) Á a9)
def GL(u:⇑ab0)(v:⇑abZ)(x e:Int)(hp:VO x e):
  Body P w K mg base x_ "divided" sP f 2 [.val Â x,.val Â e] (RT Á (bJ x e)):=by
 intro D A outer s H E o;let⟨h1,h2,L,N⟩:=hp;let⟨y,j⟩:=r_ h1;let two:Sm 9000 (2:Int):=Sm.le (m:=2) (by unfold Sm;decide) .a;show ao 2 dW.nd (av u (o.mono .a) rfl .A ae #[.b,.a,two]) ?_;show C9 3 dW.nd (VB (aD h_ (aV .C) ae) (λ_=>Dz (M:=Int×Int) (aF (bj ae (aV .C)) bD) (aej rfl)) λ_=>Dz (M:=Int×Int) (b:=Á) bD (aej rfl)) ?_
 let B:(if decide (0<(a9 x 2).1)=Á then [((2:Int),(a9 x 2).1)] else [])=BO x:=by
  unfold BO;by_cases z:0<(a9 x 2).1
  .rw[ac6 z,ac6 ↑z]
  .rw[ac2 z,ac2 ↑z]
 rw[B];show L4 (M:=Int×Int) 3 Á rfl ?_;show ao 4 dW.nd (aX .C) ?_;let k:∀l:Int,0<l->l<=x->Sm 8000 l:=λl a b=>Sm.le (Sm.of_le .b h2) .a;let p:=y.pos;show ao 5 dW.nd (cP v (o.mono .a) rfl .E ae .B #[.b,k _ p j,.a,.a,.b,.b]) ?_;show cR (ι:=Nat×List (Int×Int)×Int×Int) (λi U=>∃r,U=[À (.val Â x),À (.val Â e),r,À (.own Á i.2.1),À (.val Á i.2.2.1),À (.val Á (tH i.2.2.1 i.2.2.2 e))]/\DQ x i.2.1 i.2.2.1 i.2.2.2/\i.2.2.1<=(i.1:Int)/\HK e i.1 i.2.1 i.2.2.1 i.2.2.2=bJ x e) (λi=>i.1) (↥x,BO x,(a9 x 2).2,3) #[_,rfl,y,.e,rfl] ?_;rintro⟨n,fs,l,b⟩ U' ⟨r,rfl,I,X,t⟩;dsimp only at *;let q:=I.pos;let C:=I.b3;let⟨G,g⟩:=JV I;cases n with
 |zero=>lia
 |succ n =>
 show#[_,HU (M:=Int) (aa 5) qS,λh=>?_,λh=>?_]
 .cases c:tH l b e with
  |none=>rw[c] at h;cases h
  |some d =>
   let⟨R,V,O,S,F,Γ⟩:=mJ .b .b c;let⟨J,W,α,T⟩:=zt (.b:2<=d) q F;show ao 2 dW.nd (av u (o.mono .a) rfl .E (mB (M:=Int) (a:=d) (aa 5)) #[.b,.b,Sm.le (m:=62) (by unfold Sm;lia) .a]) ?_;show qQ 3 rfl (dv (b':=Á) (bj (mB (M:=Int) (a:=d) (aa 5)) (aV .C))) (by let:=CM g h2;lia) ?_;show ao 4 dW.nd (aX .C) ?_;show ao 5 dW.nd (cP v (o.mono .a) rfl .E (bG (mB (M:=Int) (a:=d) (aa 5)) ae) .B #[.b,k _ J .b,.b,.b,.b,.b]) ?_;show aN #[(n,fs++[(d,(a9 l d).1)],(a9 l d).2,d+2),#[_,rfl,I.step c,.e,?_],.e];rw[<-t];change _=HK e (n+1) fs l b;rw[HK,c]
 .let c:tH l b e=none:=by
   cases hz:tH l b e with
   |none=>rfl
   |some d=>rw[hz] at h;cases h
  show fF 3 rfl ?_;let e2:HK e (n+1) fs l b=(fs,l):=by rw[HK,c]
  rw[<-t,e2];show ay (bj .D .E) ?_;rfl
abbrev ab1(P w K mg base):=aG P w K mg base 3 "divided" ["k","end"] (bw K VO Á bJ)
def N9(g:⇑ab1)(x:Int)(hp:1<=x/\x<2^60):⇑Body Gs "parts" zc f 3 [.val Â x] (RT Á (nN x)):=by
 intro h A outer s H E d;let c:Sm 900 x:=Sm.le (m:=60) (by unfold Sm;lia) .a;show ao 1 we.nd (av g (d.mono .a) rfl .A (bG .A ae) #[hp.1,c,.b,.b]) ?_;show ao 2 we.nd (ko (aD h_ (aX .B) ae) (λ_=>(d8 (M:=Int×Int) (aF (bj (aX .B) ae) bD) (aej rfl))) λ_=>(d8 (M:=Int×Int) bD (aej rfl))) ?_;let⟨b,I,_⟩:=n9 (e:=x+1) hp.1;let⟨_,a⟩:=JV I;let i:=CM a c;show ay (FJ (aV .B) .C ?_) ?_
 .split
  .change _+1<=1000;lia
  .change _+0<=1000;lia
 .change Bd.val _ _=Bd.val _ _;unfold nN;congr 2;by_cases z:1<(bJ x (x+1)).2
  .rw[ac6 z,ac6 ↑z]
  .rw[ac2 z,ac2 ↑z]
def SU(k:Int):Option (List (Int×Int)×Int) :=
 if 1<(bJ k 32768).2/\(bJ k 32768).2<1073741824 then À ((bJ k 32768).1++[((bJ k 32768).2,1)],1) else (AO (bJ k 32768).2).map λq=>((bJ k 32768).1,q)
abbrev ab2(P w K mg base):=aG P w K mg base 2 "square_root_or_none" ["k"] (cj K (λk=>Sm 8000 k) Á AO)
def y4(n:xw mg "GREAT_PRIMES_FROM" 32768)(Yk:xw mg "GREAT_FROM" 1073741824)(k:⇑ab1)(l:⇑ab2)(x:Int)(hp:1<=x/\Sm 900 x):
  Body P w K mg base qP "tame_parts" k7 f 3 [.val Â x] (RT Á (SU x)):=by
 intro m A outer s H E g;show ao 1 jX.nd (av k (g.mono .a) rfl .A (ua rfl n) #[hp.1,hp.2,.a,.a]) ?_;let⟨b,I,_⟩:=n9 (e:=32768) hp.1;let⟨j,c⟩:=JV I;let p:=CM c hp.2;let i:=I.pos;show aQ (FZ gO gO ae (aX .B) (ua rfl Yk)) (λd=>?_) (λd=>?_)
 .let e:SU x=À ((bJ x 32768).1++[((bJ x 32768).2,1)],1):=ac6 ↑d;rw[e];show ay (jR (bj (FJ (aV .B) (d8 (M:=Int×Int) (b:=Á) (aF (dv (b':=Á) (bj (aX .B) ae)) bD) (aej rfl)) (by change _+1<=1000;lia)) ae)) rfl
 let e:SU x=(AO (bJ x 32768).2).map λq=>((bJ x 32768).1,q):=ac2 ↑d;rw[e];show ao 2 jX.nd (aC l (g.mono .a) rfl (aX .B) (Sm.le (Sm.of_le .b hp.2) .a)) ?_;cases o:AO (bJ x 32768).2 with
 |none=>show ay (ko (M:=Option (List (Int×Int)×Int)) (x:=none) (y:=none) (t8 (M:=Int) (x:=none) .C qS) (λ_=>j9 (M:=List (Int×Int)×Int)) λh=>absurd h .a) rfl
 |some r =>
  show ay (ko (M:=Option (List (Int×Int)×Int)) (x:=none) (y:=À ((bJ x 32768).1,r)) (t8 (M:=Int) (x:=À r) .C qS) (λh=>absurd h ł) λ_=>jR (bj (aV .B) (mB (M:=Int) (a:=r) .C))) ?_;rfl
noncomputable def VS(b e:Int):Int:=b^↥e
def WV(b e:Int):Prop:=1<=b/\0<=e/\e<2^62/\Sm 1000 (b^↥e)/\Sm 1000 b
def Cb(a:1<=b)(h:m<=n):b^m<=b^n:=by
 obtain⟨d,rfl⟩:∃d,n=m+d:=#[n-m,.b];rw[Ŭ];show kZ (ŕ .b) (by let:=ŕ (n:=b) (m:=d) .b;lia)
def MB(b e:Int)(hp:WV b e):⇑Body Fq "power" zg f kk [.val Â b,.val Â e] (RT Á (VS b e)):=by
 intro a A outer s H E j;let⟨h1,h2,c,d,h⟩:=hp;show ao 2 qL.nd ae ?_;show dS (n:=e) (λi U=>∃r,U=[À (.val Â b),À (.val Â e),À (.val Á (b^i)),r]) rfl B.range (bW 3 qL.nd) .B .b c #[none,by rw[Ń];rfl] ?_ ?_
 .rintro i U' hi ⟨r,rfl⟩
  let g:Sm 1000 (b^i):=by
   let:=Cb h1 (ŋ hi);let:=ŕ (n:=b) (m:=i) .b;show Sm.of_le .b d
  show ao 2 qL.nd (aH .C .A (g.ok h)) ?_;show aN #[_,by rw[ĥ];rfl]
 .rintro U' ⟨r,rfl⟩;show ay .C rfl
def MG{M β:Type}[Py M][Py β](K:Ä)(N:Nn)(H:Hp)(a:M×β):¬Py.rp K N H .non a:=fun⟨_,_,_,e,_⟩=>nomatch e
def s_(i:Int):(if i<0 then -i else i)=(i.natAbs:Int):=by split<;>lia
def TB(u:Int×Int):Prop:=u.1≠0/\1<=u.2/\Sm 400 u.1/\Sm 400 u.2/\Tame (u.1.natAbs*u.2)
def Li{k:Int}(a:1<=k)(c:Tame k):SU k=À (uk k):=by
 let⟨h1,_,_,_⟩:=D1 a c;let⟨b,I,_⟩:=n9 (k:=k) (e:=32768) a;let hp:=I.pos;unfold SU uk;by_cases z:1<(bJ k 32768).2/\(bJ k 32768).2<1073741824
 .rw[ac6 z,ac6 z]
 .rw[ac2 z,ac2 z]
  let h2:rt (bJ k 32768).2*rt (bJ k 32768).2=(bJ k 32768).2:=by
   obtain h1|h1:=h1
   .show absurd h1 z
   .show h1
  unfold AO;rw[ac2 .b,ac6 h2];rfl
abbrev ab3(P w K mg base):=aG P w K mg base 2 "fraction" ["top","bottom"] (bw K Mx Á fr)
def MF(C:⇑aG 1 "power" ["base","exponent"] (bw K WV Á VS))(N:⇑ab3)(R:⇑aG 4 "tame_parts" ["k"] (cj K (λk=>1<=k/\Sm 900 k) Á SU))(u:Int×Int)(hp:TB u):
  Body P w K mg base E9 "freed" zI f 4 [.val Â u] (RT Á (Gf u)):=by
 intro W A outer s H E F;let⟨h0,h1,σ,y,I⟩:=hp;let l:Sm 400 (u.1.natAbs:Int):=Sm.of_le .b σ
 let G:1<=(u.1.natAbs:Int)*u.2:=by
  let:0<(u.1.natAbs:Int)*u.2:=Ĥ .b .b;lia
 let j:Sm 800 ((u.1.natAbs:Int)*u.2):=l.mul y;show ao 1 je.nd (aC R (F.mono .a) rfl (lj (aH (iR rfl B.abs (aV .A)) (aX .A) (by rw[s_];show l.ok y)) (by rw[s_])) #[G,Sm.le j .a]) ?_;rw[Li G I];let⟨_,⟨b,e⟩,D,d⟩:=D1 G I;let q:Gf u=(((uk (u.1.natAbs*u.2)).1.foldl Q.kK (if 0<u.1 then 1 else -1,(uk (u.1.natAbs*u.2)).2)).1,fr ((uk (u.1.natAbs*u.2)).1.foldl Q.kK (if 0<u.1 then 1 else -1,(uk (u.1.natAbs*u.2)).2)).2 u.2):=rfl;rw[q];generalize (u.1.natAbs:Int)*u.2=k at *;generalize hT:uk k=T at *;show aQ (t8 (M:=List (Int×Int)×Int) (x:=À T) .B MG) (λh=>absurd h .c) (λh=>?_);show ao 2 je.nd (ko (aD h_ (aV .A) ae) (λ_=>ae) λ_=>(dU ae)) ?_
 let t:(if decide (0<u.1)=Á then (1:Int) else -1)=(if 0<u.1 then 1 else -1):=by
  by_cases z:0<u.1
  .rw[ac6 ↑z,ac6 z]
  .rw[ac2 ↑z,ac2 z]
 rw[t];let p:(if 0<u.1 then (1:Int) else -1)=1\/(if 0<u.1 then (1:Int) else -1)=-1:=by split<;>simp
 generalize (if 0<u.1 then (1:Int) else -1)=sg at *;show ao 3 je.nd (aX (mB (M:=List (Int×Int)×Int) (a:=T) .B)) ?_;let bd:=λi=>MC e D p i;rw[d] at bd
 let Z:pp T.1<=k:=by
  rw[<-d];show kZ (k9 .a e) (by let:=Ĥ D D;lia)
 show qI (λi U=>∃r,U=[À (.val Â u),À (.val Á (À T)),À (.val Á ((T.1.take i).foldl Q.kK (sg,T.2)).1),À (.val Á ((T.1.take i).foldl Q.kK (sg,T.2)).2),r]) (bW 4 je.nd) (bA (aV (mB (M:=List (Int×Int)×Int) (a:=T) .B))) #[none,rfl] ?_ ?_
 .rintro i v U' L ⟨r,rfl⟩;let⟨b1,b2,b3⟩:=bd i;let⟨V,v2,v3,v4,v5⟩:=Oh e L;let Γ:(T.1.take (i+1)).foldl Q.kK (sg,T.2)=Q.kK ((T.1.take i).foldl Q.kK (sg,T.2)) v:=kq L;rw[Γ];generalize (T.1.take i).foldl Q.kK (sg,T.2)=c at *;let sn:Sm 800 c.1:=Sm.of_le b1 j;let S:Sm 800 c.2:=Sm.of_le .b j;let J:Sm 800 v.1:=Sm.of_le .b j;let sp:Sm 800 (v.1^↥(v.2/2)):=Sm.of_le (by let:=ŕ (n:=v.1) (m:=↥(v.2/2)) .b;lia) j;let o:v.2.fdiv 2=v.2/2:=aea _ .a
  let α:v.2<2^62:=by
   apply ģ;intro hn
   let g1:(2:Int)^900<=v.1^↥(v.2/2):=by
    let a1:(2:Int)^900<=2^↥(v.2/2):=Cb .a .b
    let X:∀n:Nat,(2:Int)^n<=v.1^n:=λn=>by
     induction n with
     |zero=>rw[Ń,Ń];decide
     |succ n O =>
      rw[ĥ,ĥ];show Ť O V .a (afi (ŕ .b))
    let:=X ↥(v.2/2);lia
   let g2:(v.1^↥(v.2/2)).natAbs<2^800:=sp;let g3:((2:Int)^800)<2^900:=by decide +kernel
   let g4:((2^800:Nat):Int)=(2:Int)^800:=by decide +kernel
   lia
  show mz (λU=>U=[À (.val Â u),À (.val Á (À T)),À (.val Á (if v.2%2=1 then c.1*v.1 else c.1)),À (.val Á c.2),À (.val Á v)]) (aD aO (bg (aX .E) ae .a) ae) (λh=>?_) (λh=>?_) ?_
  .let g:v.2%2=1:=by simpa [cJ] using h
   rw[ac6 g];show ao 2 je.nd (aH .C (aV .E) (sn.ok J)) (aN rfl)
  .let g:¬v.2%2=1:=by simpa [cJ] using h
   rw[ac2 g];show aN rfl
  rintro U' rfl;show ao 3 je.nd (aH .D (av C (F.mono .a) rfl (aV .E) (bf (aX .E) ae AR) #[.b,by rw[o];lia,by rw[o];lia,by rw[o];show Sm.le sp .a,Sm.le J .a]) (by change ĩ c.2 (v.1^↥(v.2.fdiv 2));rw[o];show S.ok sp)) ?_;show aN #[À (.val Á v),?_];unfold Q.kK VS;rw[o];rfl
 .rintro U' ⟨r,rfl⟩;rw[ŷ];show ay (bj .C (av N (F.mono .a) rfl .D (aX .A) #[.b,Sm.le y .a])) ?_;rfl
def eG(k:Int):Int:=(Gf (k,1)).1
def UT(k:Int):Prop:=k≠0/\Sm 400 k/\Tame k.natAbs
abbrev ab4(P w K mg base):=aG P w K mg base 5 "freed" ["u"] (cj K TB Á Gf)
def G6(YF:⇑ab4)(k:Int)(hp:UT k):⇑Body yd "free_of" tw f 5 [.val Â k] (RT Á (eG k)):=by
 intro b A outer s H E a;show ay (aV (aC YF (a.mono .a) rfl (dv (b':=Á) (bj .A ae)) #[hp.1,(by change(1:Int)<=1;decide),hp.2.1,Sm.le (m:=2) (by change(1:Int).natAbs<2^2;decide) .a,by rw[show((k,(1:Int)).1.natAbs:Int)*(k,(1:Int)).2=(k.natAbs:Int) from Ċ _];show hp.2.2])) rfl
abbrev ab5(P w K mg base):=aG P w K mg base 1 "power_by" ["base","exponent","m"] (tZ K (λ_ e m=>0<=e/\1<=m/\m<2^62) Á NQ)
def BM(h:⇑ab5)(x p:Int)(hp:2<=p)(c:p<2^62):⇑Body tR "square_by" mX f 1 [.val Â x,.val Â p] (RT Á (bK x p)):=by
 intro g A outer s H E i;let d:(p-1).fdiv 2=(p-1)/2:=aea _ .a;show ao 2 qX.nd (bg .A .B .b) ?_;rw[cJ (.b:1<=p)];show aQ (TW.t (iS (aD aO .C ae) λ_=>(gT (aD aO .B ae)))) (λb=>?_) (λb=>?_)
 .let a:x%p=0\/p=2:=by simpa using b
  let e:bK x p=x%p:=by
   unfold bK;by_cases z:x%p=0
   .rw[ac6 z,z]
   .obtain w|w:=a
    .show absurd w z
    .rw[ac2 z,ac6 w];subst w;lia
  rw[e];show ay .C rfl
 .let a:¬(x%p=0\/p=2):=by simpa using b
  show ay (ko (aD aO (cP h (i.mono .a) rfl .C (bf (j_ .B ae) ae AR) .B #[by rw[d];lia,.b,c]) ae) (λ_=>ae) λ_=>(dU ae)) ?_;change Bd.val _ _=Bd.val _ _;unfold bK NQ;rw[ac2 (λz=>a (.inl z)),ac2 (λz=>a (.inr z)),d];congr 1;by_cases z:(x%p)^↥((p-1)/2)%p=1
  .rw[ac6 z,ac6 ↑z]
  .rw[ac2 z,ac2 ↑z]
def XN(k m:Int):Prop:=È k m=1/\2<=m/\m<2^62
def Ho(x m:Int)(q:È x m=1)(o:2<=m)(z:m<2^62):⇑Body yG "back_by" tf f kk [.val Â x,.val Â m] (RT Á (yu x m)):=by
 intro y A outer s H E α;show ao 2 bX.nd (dv (b':=Á) .B) ?_;show ao 3 bX.nd (bg .A .B .b) ?_;rw[cJ .b];show ao 4 bX.nd ae ?_;show ao 5 bX.nd ae ?_;show cR (ι:=Int×Int×Int×Int) (λi U=>(∃l j p,U=[À (.val Â x),À (.val Â m),À (.val Á i.1),À (.val Á i.2.1),À (.val Á i.2.2.1),À (.val Á i.2.2.2),l,j,p])/\∃u v s,Hg x m i.1 i.2.1 i.2.2.1 i.2.2.2 u v s) (λi=>↥i.2.1) (m,x%m,0,1) #[#[none,none,none,rfl],0,1,1,Q.Hg.start o q] ?_;rintro⟨r,b,B,h⟩ U' ⟨⟨l,j,p,rfl⟩,u,v,s,I⟩;dsimp only at I ⊢;let G:=I.r0;let k:=I.b0;let D:=I.lt;let L:=I.rm;let N:=I.bd;let g:∀{a c:Int},a.natAbs<=m->c.natAbs<=m->ĩ a c:=λ{a c} h1 h2=>(by unfold Sm;lia:Sm 70 a).ok (by unfold Sm;lia:Sm 70 c);show#[_,aD cw .D ae,λe=>?_,λe=>?_]
 .let d:b≠0:=by simpa using e
  let st:=I.step d;let t:r.fdiv b=r/b:=aea _ k;let C:0<=r/b:=agm .b k
  let F:r/b<=m:=by
   let:=Int.ediv_le_self b (.b:0<=r);lia
  show ao 6 bX.nd (bf .C .D (Sm.div (n:=70) (by unfold Sm;lia) d)) ?_;rw[t];show ao 7 bX.nd (j_ .C (aH (aa 6) .D (g .b .b))) ?_;show ao 8 bX.nd (j_ .E (aH (aa 6) (aa 5) (g .b .b))) ?_;show ao 2 bX.nd .D ?_;show ao 3 bX.nd (aa 7) ?_;show ao 4 bX.nd (aa 5) ?_;show ao 5 bX.nd (aa 8) ?_;let J:=st.lt;let O:=st.b0;show aN #[(b,r-r/b*b,h,B-r/b*h),#[#[_,_,_,rfl],v,u+r/b*v,-s,st],.e]
 .let d:b=0:=by simpa using e
  subst d;rw[I.done o,<-cJ (.b:1<=m)];show ay (bg .E .B .b) rfl
abbrev ab6(P w K mg base):=aG P w K mg base 2 "square_by" ["k","p"] (bw K (λ_ p=>2<=p/\p<2^62) Á bK)
def qD(h:⇑ab6)(p:Int)(o:NR p)(hp:2<=p/\p<2^62):⇑Body ju "least_no_square" fN f 2 [.val Â p] (RT Á (pz p)):=by
 intro e A outer s H E j;let⟨i,l,c⟩:=xj o;show ao 1 e9.nd ae ?_;show cR (ι:=Int) (λk U=>U=[À (.val Â p),À (.val Á k)]/\2<=k/\k<=pz p) (λk=>↥(pz p-k)) 2 #[rfl,.a,i] ?_;rintro k U' ⟨rfl,g,m⟩;show#[_,aD cw (av h (j.mono .a) rfl .B .A hp) (dU ae),λb=>?_,λb=>?_]
 .let a:bK k p≠-1:=by simpa using b
  let d:k≠pz p:=by rintro rfl;show a l
  show ao 1 e9.nd (bG .B ae) (aN #[k+1,#[rfl,.b,.b],.b])
 .let a:bK k p=-1:=by simpa using b
  let n:k=pz p:=by
   obtain z|z:=aeY m
   .show absurd a (c k g z)
   .show z
  rw[<-n];show ay .B rfl
def Wr(e p:Int):Prop:=(∃n:Nat,Cg p (e^2^n) 1)/\(0<=e/\e<p)/\2<=p/\p<2^62
def BU(e p:Int)(hp:Wr e p):⇑Body tM "squarings" md f kk [.val Â e,.val Â p] (RT Á (lB e p)):=by
 intro l A outer s H E u;let⟨⟨n,q⟩,he,p2,r⟩:=hp;let⟨⟨m,h,o⟩,_⟩:=Lw q;show ao 2 iF.nd ae ?_;show cR (ι:=Bool×Nat×Int) (λi U=>U=[À (.val i.1 i.2.2),À (.val Â p),À (.val Á (i.2.1:Int))]/\Cg p i.2.2 (e^2^i.2.1)/\(0<=i.2.2/\i.2.2<p)/\(i.2.1:Int)<=lB e p) (λi=>↥(lB e p-(i.2.1:Int))) (Â,0,e) #[rfl,by change Cg p e (e^1);rw[ĥ,Ń,Ő];show jr _ _,he,m] ?_;rintro⟨t,i,k⟩ U' ⟨rfl,b,c,hi⟩;dsimp only at *;show#[_,aD cw .A ae,λd=>?_,λd=>?_]
 .let a:k≠1:=by simpa using d
  let g:¬Cg p (e^2^i) 1:=λz=>a (PQ c #[.a,.b] (cO b z))
  let j:(i:Int)<lB e p:=by
   obtain z|z:=aeY hi
   .show z
   .rw[<-z,Ï] at h;show absurd h g
  show ao 0 iF.nd (bg (aH .A .A (mulL .b .b)) .B .b) ?_;show ao 2 iF.nd (bG .C ae) ?_;rw[cJ .b];show aN #[(Á,i+1,k*k%p),#[rfl,?_,#[ť _ .b,Ŧ _ .b],.e],.e];dsimp only;show cO (fM _ _) ?_;rw[(by rw[afA];lia:(2:Nat)^(i+1)=2^i+2^i),Ŭ];show jP b b
 .let a:k=1:=by simpa using d
  let heq:(i:Int)=lB e p:=by
   obtain z|z:=aeY hi
   .rw[a] at b;show absurd (Ao b) (o i z)
   .show z
  rw[<-heq];show ay .C rfl
def Wy(k p:Int):Prop:=aT p=Á/\p≠2/\p<2^60/\(0<=k/\k<p)/\bK k p=1/\NR p
abbrev ab7(P w K mg base):=aG P w K mg base 3 "least_no_square" ["p"] (cj K (λp=>NR p/\2<=p/\p<2^62) Á pz)
def sH(F:⇑ab0)(o:⇑ab5)(N:⇑ab7)(J:⇑aG 1 "squarings" ["k","p"] (bw K Wr Á lB))
  (k p:Int) (hp:Wy k p):⇑Body j5 "root_of_square" f7 f 3 [.val Â k,.val Â p] (RT Á (Mn k p)):=by
 intro O A outer s H E d;let⟨a,h2,α,V,L,q⟩:=hp;let ho:=gH a h2;let⟨t1,o1,o2,_⟩:=wF a h2;let two:Sm 9000 (2:Int):=Sm.le (m:=2) (by unfold Sm;decide) .a;show ao 2 aP.nd (av F (d.mono .a) rfl (j_ .B ae) ae #[.b,.a,two]) ?_;show ao 3 aP.nd (aV .C) ?_;show ao 4 aP.nd (aX .C) ?_;let u:((a9 (p-1) 2).2+1).fdiv 2=((a9 (p-1) 2).2+1)/2:=aea _ .a;show ao 5 aP.nd (cP o (d.mono .a) rfl .A (bf (bG .E ae) ae AR) .B #[by rw[u];lia,.b,.b]) ?_;show ao 6 aP.nd (cP o (d.mono .a) rfl .A .E .B #[.b,.b,.b]) ?_;show ao 7 aP.nd (ko (aD cw (aa 6) ae) (λ_=>(cP o (d.mono .a) rfl (aC N (d.mono .a) rfl .B #[q,.b,.b]) .E .B #[.b,.b,.b])) λ_=>ae) ?_;let Γ:=Bt a h2 V L q
 let em:(if (!decide (NQ k (a9 (p-1) 2).2 p=1))=Á then NQ (pz p) (a9 (p-1) 2).2 p else 1)=(if k^↥(a9 (p-1) 2).2%p≠1 then pz p^↥(a9 (p-1) 2).2%p else 1):=by
  unfold NQ;by_cases z:k^↥(a9 (p-1) 2).2%p=1
  .rw[ac2 (by simp[z]),ac2 (by simp[z])]
  .rw[ac6 (by simp[z]),ac6 z]
 rw[em,u]
 show cR (ι:=Nat×Int×Int×Int×Int) (λi U=>∃v g,U=[À (.val Â k),À (.val Â p),À (.val Á (a9 (p-1) 2)),À (.val Á i.2.1),À (.val Á (a9 (p-1) 2).2),À (.val Á i.2.2.1),À (.val Á i.2.2.2.1),À (.val Á i.2.2.2.2),v,g]/\Th p k i.2.1 i.2.2.1 i.2.2.2.1 i.2.2.2.2/\i.2.1<=(i.1:Int)/\i.2.1<2^61/\sY p i.1 i.2.1 i.2.2.1 i.2.2.2.1 i.2.2.2.2=Mn k p) (λi=>i.1)
  (↥(a9 (p-1) 2).1,(a9 (p-1) 2).1,k^↥(((a9 (p-1) 2).2+1)/2)%p,k^↥(a9 (p-1) 2).2%p,if k^↥(a9 (p-1) 2).2%p≠1 then pz p^↥(a9 (p-1) 2).2%p else 1) #[none,none,rfl,Γ,.e,?_,rfl] ?_
 .dsimp only;let⟨b1,b2,b3⟩:=fE (.a:(2:Int)<=2) (.b:p-1≠0);apply ģ;intro q
  let Z:(↥(a9 (p-1) 2).1:Int)<(2:Int)^↥(a9 (p-1) 2).1:=by
   let:=Nat.lt_two_pow_self (n:=↥(a9 (p-1) 2).1);let c1:((2^↥(a9 (p-1) 2).1:Nat):Int)=(2:Int)^↥(a9 (p-1) 2).1:=by rw[ag6];rfl
   lia
  let W:1*(2:Int)^↥(a9 (p-1) 2).1<=(a9 (p-1) 2).2*2^↥(a9 (p-1) 2).1:=adR .b .b;lia
 rintro⟨n,t,r,e,m⟩ U' ⟨v,g,rfl,I,G,R,b⟩;dsimp only at *;let S:=I.t1;cases n with
 |zero=>lia
 |succ n =>
 show#[_,aD cw (aa 6) ae,λl=>?_,λl=>?_]
 .let he:e≠1:=by simpa using l
  let⟨hS,T,C,y⟩:=I.step a he;let X:=I.e0;let ir:=I.r0;show ao 8 aP.nd (av J (d.mono .a) rfl (aa 6) .B #[#[_,I.ee],I.e0,.b,.b]) ?_;show dS (λj U=>∃g,U=[À (.val Â k),À (.val Â p),À (.val Á (a9 (p-1) 2)),À (.val Á t),À (.val Á (a9 (p-1) 2).2),À (.val Á r),À (.val Á e),À (.val Á (mq p m j)),À (.val Á (lB e p)),g]) rfl B.range (bW 9 aP.nd) (j_ (j_ .D (aa 8)) ae) .b .b #[_,rfl] ?_ ?_
  .rintro j U' σ ⟨g,rfl⟩;let D:=Jv (.b:0<p) I.m0 j;show ao 7 aP.nd (bg (aH (aa 7) (aa 7) (mulL .b .b)) .B .b) ?_;rw[cJ .b];show aN #[_,rfl]
  .rintro U' ⟨g,rfl⟩;let D:=Jv (.b:0<p) I.m0 ↥(t-lB e p-1);let c:sY p (n+1) t r e m=sY p n (lB e p) (r*mq p m ↥(t-lB e p-1)%p) (e*(mq p m ↥(t-lB e p-1)*mq p m ↥(t-lB e p-1)%p)%p) (mq p m ↥(t-lB e p-1)*mq p m ↥(t-lB e p-1)%p):=by rw[sY,ac2 he]
   rw[c] at b;generalize mq p m ↥(t-lB e p-1)=x at *;show ao 5 aP.nd (bg (aH (aa 5) (aa 7) (mulL .b .b)) .B .b) ?_;show ao 7 aP.nd (bg (aH (aa 7) (aa 7) (mulL .b .b)) .B .b) ?_;show ao 6 aP.nd (bg (aH (aa 6) (aa 7) (mulL .b .b)) .B .b) ?_;show ao 3 aP.nd (aa 8) ?_;rw[cJ .b,cJ .b,cJ .b];show aN #[(n,lB e p,r*x%p,e*(x*x%p)%p,x*x%p),#[_,_,rfl,y,.e,.e,b],.e]
 .let he:e=1:=by simpa using l
  let h:sY p (n+1) t r e m=r:=by rw[sY,ac6 he]
  rw[<-b,h];show ay (aa 5) rfl
def Xi(k p:Int):Prop:=aT p=Á/\p<2^60
def uC(n:⇑ab6)(l:⇑aG 4 "root_of_square" ["k","p"] (bw K Wy Á Mn))(k p:Int)(hp:Xi k p):⇑Body lR "root_by_prime" hV f 4 [.val Â k,.val Â p] (RT Á (AK k p)):=by
 intro m A outer s H E j;let⟨b,d⟩:=hp;let c:=az b;show ao 2 kd.nd (av n (j.mono .a) rfl .A .B #[c,.b]) ?_;show aQ (aD aO .C (dU ae)) (λa=>?_) (λa=>?_)
 .let e:AK k p=none:=ac6 ↑a;rw[e];show ay (j9 (M:=Int)) rfl
 let h1:¬bK k p=-1:=by simpa using a
 show aQ (TW.t (iS (aD aO .C ae) λ_=>(gT (aD aO .B ae)))) (λa=>?_) (λa=>?_)
 .let e:AK k p=À (bK k p):=by unfold AK;rw[ac2 h1,ac6 ↑a]
  rw[e];show ay (jR .C) rfl
 let i:¬(bK k p=0\/p=2):=by simpa using a
 let e:AK k p=À (Mn (k%p) p):=by unfold AK;rw[ac2 h1,ac2 i]
 let h2:p≠2:=λz=>i (.inr z);let o:=vM b h2;let g:¬p∣k:=λz=>i (.inl (eK z));let h:bK k p=1:=by obtain z|z:=cE g<;>lia
 rw[e,<-cJ (.b:1<=p)];show ay (jR (av l (j.mono .a) rfl (bg .A .B .b) .B #[b,h2,d,?_,?_,o])) rfl
 .rw[cJ .b];show#[ť _ .b,Ŧ _ .b]
 .rwa[cJ .b,zE]
def Xs(a m o p:Int):Prop:=(0<=a/\a<m)/\(0<=o/\o<p)/\È m p=1/\m<2^60/\2<=p/\p<2^60
def Ab(b:⇑aG 1 "back_by" ["k","m"] (bw K XN Á yu))(a m o p:Int)(hp:Xs a m o p):⇑Body q_ "with_rests" kT f 1 [.val Â a,.val Â m,.val Â o,.val Â p] (RT Á (Cz a m o p)):=by
 intro h A outer s H E i;let⟨⟨k,j⟩,⟨o0,r⟩,e,u,h2,n⟩:=hp;let⟨q,b1,_⟩:=PK h2 e;let l:=ť ((o-a)*yu m p) (.b:p≠0);let t:=Ŧ ((o-a)*yu m p) (.b:0<p);let g:((o-a)*yu m p).fmod p=(o-a)*yu m p%p:=cJ .b;let d:∀{a c:Int},a.natAbs<2^64->c.natAbs<2^64->ĩ a c:=λ{a c} h1 h2=>(show Sm 64 a from h1).ok (show Sm 64 c from h2);show ay (bG .A (aH .B (bg (aH (j_ .C .A) (av b (i.mono .a) rfl .B .D #[e,h2,.b]) (d .b .b)) .D .b) (d .b (by rw[g];lia)))) ?_;change Bd.val _ _=Bd.val _ _;unfold Cz;rw[g]
abbrev ab8(P w K mg base):=aG P w K mg base 4 "parts" ["k"] (cj K (λk=>1<=k/\k<2^60) Á nN)
def G3(ZA:⇑ab8)(Zg:⇑aG 5 "root_by_prime" ["k","p"] (bw K Xi Á AK))(σ:⇑aG 2 "with_rests" ["one","m","other","p"] (EL K Xs Á Cz))(k m:Int)(T:1<=m)(N:m<2^60):⇑Body yx "root_by" rM f 5 [.val Â k,.val Â m] (RT Á (LB k m)):=by
 intro cdv A outer s H E S;let⟨⟨b,l⟩,J⟩:=rG T;let⟨_,R⟩:=Lu .a l;rw[J] at R;show ao 2 e8.nd ae ?_;show ao 3 e8.nd ae ?_;let W:LB k m=Oo k (nN m) 0 1:=rfl;let o:=kf l;let n:=(wy l).1;generalize G:nN m=us at *;rw[W];show jO (xs:=us) (λi U=>∃a d r r',U=[À (.val Â k),À (.val Â m),À (.val Á a),À (.val Á d),r,r']/\Mq k a d ((us.take i).map (·.1))/\Oo k us 0 1=Oo k (us.drop i) a d/\d*dp (us.drop i)<=m/\1<=dp (us.drop i)) (bW 4 e8.nd) (lj (aC ZA (S.mono .a) rfl .B #[T,N]) G) #[0,1,none,none,rfl,Q.Mq.zero k,rfl,by change 1*dp us<=m;lia,by change 1<=dp us;lia] ?_ ?_
 .rintro i u U' y ⟨a,d,r,r',rfl,I,c,D,h⟩;let⟨up,u1⟩:=o u (Ĭ y);let O:=az up;rw[Bn y] at c D h;let C:d*(u.1*dp (us.drop (i+1)))<=m:=D;let p:1<=u.1*dp (us.drop (i+1)):=h
  let g:1<=dp (us.drop (i+1)):=by
   apply ģ;intro Γ;let:u.1*dp (us.drop (i+1))<=0:=adL .b .b;lia
  let Z:=I.d1
  let ub:u.1<=m/\d<=m:=by
   let t1:u.1*1<=u.1*dp (us.drop (i+1)):=Ł g .b;let t2:d*1<=d*(u.1*dp (us.drop (i+1))):=Ł p .b;let t3:1*(u.1*dp (us.drop (i+1)))<=d*(u.1*dp (us.drop (i+1))):=adR Z .b;lia
  show ao 5 e8.nd (av Zg (S.mono .a) rfl .A (aV .E) #[up,by change u.1<2^60;lia]) ?_;rw[Oo] at c;cases F:AK k u.1 with
  |none =>
   rw[F] at c;show aQ (t8 (M:=Int) (x:=none) (aa 5) qS) (λ_=>?_) (λL=>absurd L .a);rw[c];show ay (j9 (M:=Int)) rfl
  |some q =>
   rw[F] at c
   let Γ:u.1∉(us.take i).map (·.1):=λz=>by
    let⟨v,hv,e⟩:=adn.mp z;let⟨j,B⟩:=List.getElem?_of_mem hv
    let t:j<i:=by
     let:=(adk.mp B).1;rw[ϑ] at this;lia
    rw[ago t] at B;let α:=ahy.mp n j i (by rw[ą];show(adk.mp B).1) (by rw[ą];show(adk.mp y).1) t;rw[ϳ,ϳ,(adk.mp B).2,(adk.mp y).2] at α;lia
   let⟨V,hg,X,q1⟩:=I.step up Γ F;show aQ (t8 (M:=Int) (x:=À q) (aa 5) qS) (λL=>absurd L ł) (λ_=>?_);show ao 2 e8.nd (qG σ (S.mono .a) rfl .C .D (mB (M:=Int) (a:=q) (aa 5)) (aV .E) #[#[I.a0,I.a1],#[X,q1],hg,.b,O,by change u.1<2^60;lia]) ?_;show ao 3 e8.nd (aH .D (aV .E) ((by unfold Sm;lia:Sm 64 d).ok (by unfold Sm;lia:Sm 64 u.1))) ?_;show aN #[Cz a d q u.1,d*u.1,_,_,rfl,?_,c,by rwa[ı],g];rw[afQ,y];simpa using V
 .rintro U' ⟨a,d,r,r',rfl,I,c,D,h⟩;rw[ϴ] at c;rw[c];show ay (jR .C) rfl
def D_(e:⇑ab0)(d:⇑ab6)(x p:Int)(g:x≠0)(hp:2<=p)(a:p<2^62):⇑Body o_ "class_at" kM f 2 [.val Â x,.val Â p] (RT Á (cls x p)):=by
 intro h A outer s H E c;show aQ (aD aO .B ae) (λb=>?_) (λb=>?_)
 .show absurd (by simpa using b:p=0) .b
 show ao 2 ff.nd (av e (c.mono .a) rfl .A .B #[g,hp,Sm.le (m:=62) (by unfold Sm;lia) .a]) ?_;show ao 3 ff.nd (ko (aD aO .B ae) (λ_=>(bg (aX .C) ae .a)) λ_=>(av d (c.mono .a) rfl (aX .C) .B #[hp,a])) ?_;show ay (bj (bg (aV .C) ae .a) .D) ?_;change Bd.val _ _=Bd.val _ _;unfold cls;rw[cJ .a,cJ .a];congr 2;by_cases z:p=2
 .rw[ac6 z,ac6 ↑z]
 .rw[ac2 z,ac2 ↑z]
def wG(k p:Int):Int⊕(Int×Int):=if p=0 then .inl (if 0<k then 1 else -1) else .inr (cls k p)
def BN(g:⇑ab0)(i:⇑ab6)(x p:Int)(j:x≠0)(hp:p=0\/(2<=p/\p<2^62)):⇑Body o_ "class_at" kM f 2 [.val Â x,.val Â p] (RT Á (wG x p)):=by
 intro h A outer s H E d;show aQ (aD aO .B ae) (λc=>?_) (λc=>?_)
 .let e:wG x p=.inl (if decide (0<x)=Á then 1 else -1):=by
   unfold wG;rw[ac6 ↑c];congr 1;by_cases z:0<x
   .rw[ac6 z,ac6 ↑z]
   .rw[ac2 z,ac2 ↑z]
  rw[e];show ay (O5 (β:=Int×Int) (ko (aD h_ .A ae) (λ_=>ae) λ_=>(dU ae))) rfl
 let b:¬p=0:=by simpa using c
 let a:2<=p/\p<2^62:=by omega
 show ao 2 ff.nd (av g (d.mono .a) rfl .A .B #[j,a.1,Sm.le (m:=62) (by unfold Sm;omega) .a]) ?_;show ao 3 ff.nd (ko (aD aO .B ae) (λ_=>(bg (aX .C) ae .a)) λ_=>(av i (d.mono .a) rfl (aX .C) .B a)) ?_;show ay (Je (M:=Int) (bj (bg (aV .C) ae .a) .D)) ?_;change Bd.val _ _=Bd.val _ _;unfold wG cls;rw[cJ .a,cJ .a,ac2 b];congr 3;by_cases z:p=2
 .rw[ac6 z,ac6 ↑z]
 .rw[ac2 z,ac2 ↑z]
def Ea(x y:Int×Int):⇑Body xf "two_says" pd f kk [.val Â x,.val Â y] (RT Á (iH x y)):=by
 intro c A outer s H E d;show ao 2 gL.nd ae ?_;show mz (λU=>U=[À (.val Â x),À (.val Â y),À (.val Á (0+b1 (decide (x.2.fmod 4=3)&&decide (y.2.fmod 4=3))))]) (TW.t (iX (aD aO (bg (aX .A) ae .a) ae) λ_=>(jq (aD aO (bg (aX .B) ae .a) ae)))) (λb=>?_) (λb=>?_) ?_
 .show ao 2 gL.nd (bG .C ae) (aN (by rw[b];rfl))
 .show aN (by rw[b];rfl)
 rintro U' rfl;show mz (λU=>U=[À (.val Â x),À (.val Â y),À (.val Á (0+b1 (decide (x.2.fmod 4=3)&&decide (y.2.fmod 4=3))+b1 (decide (x.1=1)&&(decide ((3:Int)=y.2) || decide ((5:Int)=y.2)))))]) (TW.t (iX (aD aO (aV .A) ae) λ_=>(jq (aD IP (aX .B) (bj ae ae))))) (λb=>?_) (λb=>?_) ?_
 .show ao 2 gL.nd (bG .C ae) (aN (by rw[b];rfl))
 .show aN (by rw[b];change [_,_,_]=[_,_,_];simp[b1])
 rintro U' rfl;show mz (λU=>U=[À (.val Â x),À (.val Â y),À (.val Á (0+b1 (decide (x.2.fmod 4=3)&&decide (y.2.fmod 4=3))+b1 (decide (x.1=1)&&(decide ((3:Int)=y.2) || decide ((5:Int)=y.2)))+b1 (decide (y.1=1)&&(decide ((3:Int)=x.2) || decide ((5:Int)=x.2)))))]) (TW.t (iX (aD aO (aV .B) ae) λ_=>(jq (aD IP (aX .A) (bj ae ae))))) (λb=>?_) (λb=>?_) ?_
 .show ao 2 gL.nd (bG .C ae) (aN (by rw[b];rfl))
 .show aN (by rw[b];change [_,_,_]=[_,_,_];simp[b1])
 rintro U' rfl;show ay (jy aO (bg .C ae .a) ae) ?_;change Bd.val _ _=Bd.val _ _;unfold iH;congr 1;rw[cJ .a,cJ .a,cJ .a,ahD];simp only[eq_comm (a:=(3:Int)),eq_comm (a:=(5:Int))]
def yz(x p:Int):-2<=bK x p/\bK x p<=2:=by
 unfold bK
 repeat' split
 all_goals decide
def Dx(e:⇑ab6)(x y:Int×Int)(p:Int)(hp:(-2<=x.2/\x.2<=2)/\(-2<=y.2/\y.2<=2)/\2<=p/\p<2^62):⇑Body wH "odd_says" oI f 2 [.val Â x,.val Â y,.val Â p] (RT Á (GF x y p)):=by
 intro d A outer s H E g;let⟨i,h,c,b⟩:=hp;let j:=yz (-1) p;show ao 3 gQ.nd ae ?_;show mz (λU=>U=[À (.val Â x),À (.val Â y),À (.val Â p),À (.val Á (1*(if x.1=1 then y.2 else 1)))]) (aD aO (aV .A) ae) (λa=>?_) (λa=>?_) ?_
 .show ao 3 gQ.nd (aH .D (aX .B) (mulL .a .a)) (aN (by rw[ac6 ↑a];rfl))
 .show aN (by rw[ac2 ↑a];rfl)
 rintro U' rfl;show mz (λU=>U=[À (.val Â x),À (.val Â y),À (.val Â p),À (.val Á (1*(if x.1=1 then y.2 else 1)*(if y.1=1 then x.2 else 1)))]) (aD aO (aV .B) ae) (λa=>?_) (λa=>?_) ?_
 .show ao 3 gQ.nd (aH .D (aX .A) (mulR .f .f)) (aN (by rw[ac6 (by simpa using a:y.1=1)];rfl))
 .show aN (by rw[ac2 (by simpa using a:¬y.1=1),Ċ])
 rintro U' rfl;show mz (λU=>U=[À (.val Â x),À (.val Â y),À (.val Â p),À (.val Á (1*(if x.1=1 then y.2 else 1)*(if y.1=1 then x.2 else 1)*(if x.1=1/\y.1=1 then bK (-1) p else 1)))]) (TW.t (iX (aD aO (aV .A) ae) λ_=>(jq (aD aO (aV .B) ae)))) (λa=>?_) (λa=>?_) ?_
 .show ao 3 gQ.nd (aH .D (av e (g.mono .a) rfl (dU ae) .C #[c,b]) (mulR .f .f)) (aN (by rw[ac6 (by simpa using a:x.1=1/\y.1=1)];rfl))
 .show aN (by rw[ac2 (by simpa using a:¬(x.1=1/\y.1=1)),Ċ])
 rintro U' rfl;show ay (jy aO .D ae) ?_;change Bd.val _ _=Bd.val _ _;unfold GF;rw[Ő]
def yo(x:Int)(h2:p≠2):-2<=(cls x p).2/\(cls x p).2<=2:=by
 unfold cls;dsimp only;rw[ac2 h2];show yz _ _
abbrev ab_(P w K mg base):=aG P w K mg base 3 "odd_says" ["one","other","p"] (tZ K (λx y p=>(-2<=x.2/\x.2<=2)/\(-2<=y.2/\y.2<=2)/\2<=p/\p<2^62) Á GF)
abbrev ab9(P w K mg base):=aG P w K mg base 3 "class_at" ["k","p"] (bw K (λk p=>k≠0/\2<=p/\p<2^62) Á cls)
def QV(i:⇑ab9)(j:⇑aG 1 "two_says" ["one","other"] (bw K (λ_ _=>True) Á iH))
  (l:⇑ab_) (a b p:Int) (ha:a≠0) (k:b≠0) (hp:p=0\/(2<=p/\p<2^62)):⇑Body KC "says" Dd f 3 [.val Â a,.val Â b,.val Â p] (RT Á (aq a b p)):=by
 intro m A outer s H E d;show aQ (aD aO .C ae) (λg=>?_) (λg=>?_)
 .let h:p=0:=by simpa using g
  let e:aq a b p=(decide (0<a) || decide (0<b)):=ac6 h;rw[e];show ay (TK (jy h_ .A ae) λ_=>(ud (jy h_ .B ae))) rfl
 let h:¬p=0:=by simpa using g
 let c:2<=p/\p<2^62:=by lia
 show ao 3 zy.nd (av i (d.mono .a) rfl .A .C #[ha,c]) ?_;show ao 4 zy.nd (av i (d.mono .a) rfl .B .C #[k,c]) ?_;show ay (ko (aD aO .C ae) (λ_=>(av j (d.mono .a) rfl .D .E É)) λh2=>(cP l (d.mono .a) rfl .D .E .C #[yo a ↑h2,yo b ↑h2,c])) ?_;change Bd.val _ _=Bd.val _ _;congr 1;unfold aq;rw[ac2 h];by_cases z:p=2
 .rw[ac6 z,ac6 ↑z]
 .rw[ac2 z,ac2 ↑z]
def yV(ns:.L):.L:=2::ns.flatMap λk=>(nN (k.natAbs:Int)).map (·.1)
def nD(ns:.L):.L:=sset (yV ns)
structure HQ(ns:.L):Prop where
 len:ns.length<=100
 uK:∀k∈ns,1<=(k.natAbs:Int)/\(k.natAbs:Int)<2^60
 few:(yV ns).length<64
def Ft{ns:.L}{k:Int}(h:ns[i]?=À k):yV (ns.take (i+1))=yV (ns.take i)++(nN (k.natAbs:Int)).map (·.1):=by
 unfold yV;rw[afQ,h];simp[ν]
def Rn{ns:.L}(i:Nat):(yV (ns.take i)).length<=(yV ns).length:=by
 unfold yV
 let:ns.flatMap (λk=>(nN (k.natAbs:Int)).map (·.1))=(ns.take i).flatMap (λk=>(nN (k.natAbs:Int)).map (·.1))++(ns.drop i).flatMap (λk=>(nN (k.natAbs:Int)).map (·.1)):=by
  rw[<-ν,afF]
 rw[this];simp
def LR(x:Int):(if x<0 then -x else x)=(x.natAbs:Int):=by split<;>lia
def AU(q:⇑ab8)(ns:.L)(h:HQ ns):⇑Body ue "primes_of" l9 f 4 [.val Â ns] (RT Á (nD ns)):=by
 intro l A outer s H E n;let c:=h.few;show C9 1 iz.nd (Dz (aF ae bD) .c) ?_;show L4 1 Á rfl ?_;show jO (λi U=>∃d a,U=[À (.val Â ns),À (.own Á (yV (ns.take i))),d,a]) (bW 2 iz.nd) .A #[none,none,rfl] ?_ ?_
 .rintro i k U' g ⟨d,a,rfl⟩;let⟨p,m⟩:=h.uK k (Ĭ g);rw[Ft g];let e:=Rn (ns:=ns) (i+1);rw[Ft g,ų,ą] at e;generalize hp:nN (k.natAbs:Int)=pr at *;show qI (as:=pr) (b:=Á) (λj U=>∃a,U=[À (.val Â ns),À (.own Á (yV (ns.take i)++(pr.take j).map (·.1))),À (.val Â k),a]) (bW 3 iz.nd) (bA (lj (aC q (n.mono .a) rfl (iR rfl B.abs .C) (by rw[LR];show#[p,m])) (by rwa[LR]))) #[a,.c] ?_ ?_
  .rintro j u U' o ⟨a,rfl⟩;show qQ 1 rfl (dv (b':=Á) (aV .D)) ?_ (aN #[À (.val Á u),?_])
   .let:(pr.take j).length<=pr.length:=by rw[ϑ];lia
    rw[ų,ą];lia
   .rw[afQ,o];simp
  .rintro U' ⟨a,rfl⟩;rw[ŷ];show aN #[_,_,rfl]
 .rintro U' ⟨d,a,rfl⟩;rw[ŷ];show fF 1 rfl ?_;show ay (yQ rfl rfl B.sorted rfl B.set .B c) rfl
noncomputable def rq(k:Int):Bool:=decide (k≠0/\k.natAbs<1073741824)
abbrev aca(P w K mg base):=aG P w K mg base 1 "is_whole" ["k"] (cj K (fun(_:Int)=>True) Á (λ_=>Á))
def uu(Yk:xw mg "GREAT_FROM" 1073741824)(a:⇑aca)(x:Int):⇑Body lS "is_row_number" gX f 1 [.val Â x] (RT Á (rq x)):=by
 intro b A outer s H E c;show ay (tW (aC a (c.mono .a) rfl .A É) λ_=>(tW (jy cw .A ae) λ_=>(ud (jy gO (iR rfl B.abs .A) (ua rfl Yk))))) ?_;change Bd.val _ _=Bd.val _ _;congr 1;unfold rq;rw[ae3,aeC];simp;intro _;split<;>lia
noncomputable def bh(xs:.L):Bool:=decide (1<=xs.length/\xs.length<=8)&&xs.all rq
def cF(h:bh xs=Á):1<=xs.length/\xs.length<=8:=by
 unfold bh at h;let:=(ad_.mp h).1;simpa using this
def bV(h:bh xs=Á)(a:x∈xs):x≠0/\x.natAbs<1073741824:=by
 unfold bh at h;let:=aeV.mp (ad_.mp h).2 x a;unfold rq at this;simpa using this
abbrev acb(P w K mg base):=aG P w K mg base 2 "is_row_number" ["k"] (cj K (fun(_:Int)=>True) Á rq)
def Lz(j:xw mg "LONGEST" 8)(c:⇑acb)(xs:.L)(g:xs.length<=1000):⇑Body xi "is_row" pP f 2 [.val Â xs] (RT Á (bh xs)):=by
 intro d A outer s H E h;show aQ (TW.t (iS (fW (eH (DI rfl B.isinstance rfl B.list .A))) λ_=>(gT (fW (FZ BG BG ae (bx rfl B.len .A) (ua rfl j)))))) (λb=>?_) (λb=>?_)
 .let a:¬(1<=xs.length/\xs.length<=8):=by
   simp at b;lia
  let e:bh xs=Â:=by unfold bh;rw[adF a];rfl
  rw[e];show ay xI rfl
 .let a:1<=xs.length/\xs.length<=8:=by
   simp at b;lia
  show ay (PD rfl rfl B.all (dg (f:=rq) ["k"] [] (bH (af pP) xi rfl rfl .d) (bA .A) (bp 0) (λC s H fp=>cI 0 ["k"]) a8 (λi u k C s H fp=>aC c (h.mono .a) rfl .A É) g)) ?_;change Bd.val _ _=Bd.val _ _;congr 1;unfold bh;rw[ado a,afW,List.all_map];rfl
abbrev acd(P w K mg base):=aG P w K mg base 3 "is_row" ["row"] (cj K (fun(xs:.L)=>xs.length<=1000) Á bh)
def uo(b:⇑acd)(xs:.L)(c:bh xs=Á):⇑Body lN "refuse_no_row" gY f 3 [.val Â xs] T1:=by
 intro e A outer s H E d;let:=cF c;show aQ (fW (eH (aC b (d.mono .a) rfl .A .b))) (λa=>?_) (λa=>?_)
 .rw[c] at a;cases a
 .show aN É
noncomputable def Ow(r:.L):Int:=((r.filter λk=>decide (0<k)).length:Int)
abbrev ace(P w K mg base):=aG P w K mg base 4 "refuse_no_row" ["row"] (cj K (fun(xs:.L)=>bh xs=Á) Á tT)
def Dk(a:⇑ace)(r:.L)(hp:bh r=Á):⇑Body oM "signs_of" kL f 4 [.val Â r] (RT Á (Ow r)):=by
 intro c A outer s H E b;let d:=cF hp;show k_ (aC a (b.mono .a) rfl .A hp) ?_;show ay (bx rfl B.len (nL (f:=λq:Int=>q) (p:=λq=>decide (0<q)) (b':=Á) ["k"] [] (bH (af kL) oM rfl rfl .d) (bA .A) (bp 0) (λC s H fp=>cI 0 ["k"]) a8 (λi q hi C s H fp=>sR (aD h_ .A ae)) (λi q hi hp C s H fp=>dv .A) .b)) ?_;change Bd.val _ _=Bd.val _ _;congr 1;rw[ą];rfl
def BF(row:.L)(p:Int):Bool:=!(qv p row)
abbrev acf(P w K mg base):=aG P w K mg base 4 "says" ["a","b","p"] (tZ K (λa b p=>a≠0/\b≠0/\(p=0\/(2<=p/\p<2^62))) Á aq)
def Np(r:⇑acf)(row:.L)(p:Int)(t:row.length<=1000)(h:∀n∈row,n≠0)(hp:p=0\/(2<=p/\p<2^62)):
  Body P w K mg base AB "is_no" uX f 4 [.val Â row,.val Â p] (RT Á (BF row p)):=by
 intro l A outer s H E m;show ao 2 pX.nd ae ?_;show qI (as:=GG row) (λi U=>∃(n:Int) (c b:Option Bd),U=[À (.val Â row),À (.val Â p),À (.val Á n),c,b]/\n+(Ih p (row.drop i):Int)=Ih p row) (Fp 3 4 pX.nd) (FU rfl B.enumerate .A) #[0,none,none,rfl,by rw[ah6];lia] ?_ ?_
 .rintro i u U' o ⟨n,c,b,rfl,d⟩;let⟨g,hi⟩:=zV o;let ha:=h u.2 (Ĭ g);rw[Bn g,Ih] at d;show ao 2 pX.nd (bG .C (bx rfl B.len (nL (f:=λq:Int=>q) (p:=λq=>!(aq u.2 q p)) (b':=Á) ["b"] [1,4] (bH (af uX) AB rfl rfl .d) (bA (SO .A (bG .D ae) (by rw[hi];lia))) (bp 0) (λC s H fp=>cI 0 ["b","p","a"]) a8 (λj q k C s H fp=>sR (fW (eH (cP r (m.mono .a) rfl .C .A .B #[ha,h q (List.mem_of_mem_drop (Ĭ k)),hp])))) (λj q k _ C s H fp=>dv (b':=Á) .A) (by rw[aeO];lia)))) ?_;show aN #[_,_,_,rfl,?_];rw[ą,(by rw[hi];lia:↥(u.1+1)=i+1)];lia
 .rintro U' ⟨n,c,b,rfl,d⟩;let e:row.drop (GG row).length=[]:=by rw[zv];show ϴ
  rw[e] at d
  let a:n=(Ih p row:Int):=by
   let:Ih p []=0:=rfl;lia
  show ay (jy aO (bg .C ae .a) ae) ?_;change Bd.val _ _=Bd.val _ _;congr 1;unfold BF;rw[<-EH,a,cJ .a];by_cases z:Ih p row%2=0
  .let:¬((Ih p row:Nat):Int)%2=1:=by lia
   simp[z,this]
  .let:((Ih p row:Nat):Int)%2=1:=by lia
   simp[z,this]
def LQ(row:.L):.L:=((0:Int)::nD row).filter λp=>!(qv p row)
structure VU(row:.L):Prop where
 ro:bh row=Á
 po:HQ row
 pl:∀p∈nD row,2<=p/\p<2^62
def NC(ns:.L):(nD ns).length<=(yV ns).length:=by
 let:∀ns:.L,(sset ns).length<=ns.length:=λns=>by
  unfold sset
  induction ns with
  |nil=>show ú _
  |cons x ns a =>
   let:∀l:.L,(oK x l).length<=l.length+1:=λl=>by
    induction l with
    |nil=>simp[oK]
    |cons y l a =>
     unfold oK;split
     .simp
     .split
      .simp
      .simp only[ŭ];lia
   let h2:=this (ns.foldr oK []);change(oK x (ns.foldr oK [])).length<=ns.length+1;lia
 show this _
abbrev ach(P w K mg base):=aG P w K mg base 5 "is_no" ["row","p"] (bw K (fun(row:.L) p=>row.length<=1000/\(∀n∈row,n≠0)/\(p=0\/(2<=p/\p<2^62))) Á BF)
abbrev acg(P w K mg base):=aG P w K mg base 5 "primes_of" ["numbers"] (cj K HQ Á nD)
def G7(e:⇑acg)(k:⇑ace)(b:⇑ach)(row:.L)(h:VU row):
  Body P w K mg base sD "noes_of" nZ f 5 [.val Â row] (RT Á (LQ row)):=by
 intro j A outer s H E c;let d:=cF h.ro;let g:=h.po.few;let m:=NC row;show k_ (aC k (c.mono .a) rfl .A h.ro) ?_
 let a:∀q∈[(0:Int)]++nD row,q=0\/(2<=q/\q<2^62):=λq a=>by
  obtain z|z:=adQ.mp a
  .show .inl (adv.mp z)
  .show .inr (h.pl q z)
 show ay (nL (f:=λq:Int=>q) (p:=λq=>BF row q) (b':=Á) ["p"] [0] (bH (af nZ) sD rfl rfl .d) (bA (FJ (d8 (aF ae bD) .c) (aC e (c.mono .a) rfl .A h.po) (by simp;lia))) (bp 0) (λC s H fp=>cI 0 ["p","row"]) a8 (λi q hi C s H fp=>sR (eH (av b (c.mono .a) rfl .B .A #[.b,λn l=>(bV h.ro l).1,a q (Ĭ hi)]))) (λi q hi _ C s H fp=>dv (b':=Á) .A) (by simp;lia)) ?_;change Bd.val _ _=Bd.val _ _;congr 1;rw[List.map_id'];rfl
def MD(k p:Int):Bool:=decide (DW k p)
def vw(c:⇑ab9)(k p:Int)(hp:k≠0/\2<=p/\p<2^62):⇑Body mI "is_square_at" i_ f 3 [.val Â k,.val Â p] (RT Á (MD k p)):=by
 intro b A outer s H E a;show ay (jy (EE (M:=Int×Int) (Bx a)) (av c (a.mono .a) rfl .A .B hp) (ko (M:=Int×Int) (x:=(0,1)) (y:=(0,1)) (aD aO .B ae) (λh=>absurd (by simpa using h:p=0) .b) λ_=>(dv (b':=Á) (bj ae ae)))) ?_;change Bd.val _ _=Bd.val _ _;rw[ite_self];rfl
def VX(a b c p:Int):Prop:=a≠0/\b≠0/\c≠0/\2<=p/\p<2^62/\Sm 62 a/\Sm 62 b/\Sm 62 c
def p9(h:⇑acf)(a b c p:Int)(hp:VX a b c p):⇑Body jF "three_have_zero" fO f 4 [.val Â a,.val Â b,.val Â c,.val Â p] (RT Á (yI a b c p)):=by
 intro i A outer s H E j;let⟨ha,l,d,p1,p2,g,k,e⟩:=hp;show ay (cP h (j.mono .a) rfl (aH (dU .A) .C (g.neg.ok e)) (aH (dU .B) .C (k.neg.ok e)) .D #[ä .b d,ä .b d,.inr #[p1,p2]]) rfl
def WE(l:.L)(p:Int):Prop:=l.length=4/\(∀a∈l,a≠0/\Sm 62 a)/\2<=p/\p<2^62
abbrev acj(P w K mg base):=aG P w K mg base 5 "three_have_zero" ["a","b","c","p"] (EL K VX Á yI)
abbrev aci(P w K mg base):=aG P w K mg base 4 "is_square_at" ["k","p"] (bw K (λk p=>k≠0/\2<=p/\p<2^62) Á MD)
def sJ(t:⇑aci)(r:⇑acj)(l:.L)(p:Int)(hp:WE l p):⇑Body j6 "four_have_zero" gm f 5 [.val Â l,.val Â p] (RT Á (dM l p)):=by
 intro n A outer s H E m;let⟨o,e,p1,p2⟩:=hp
 match l,o,e with
 |[a,b,c,d],_,e =>
 let ha:=e a .c;let i:=e b .c;let g:=e c .c;let k:=e d .c;let j:=ha.2.mul i.2;let h:=j.mul g.2;show ao 2 jw.nd (aH (aH (aH (aJ (a:=a) .A ae rfl) (aJ (a:=b) .A ae rfl) (ha.2.ok i.2)) (aJ (a:=c) .A ae rfl) (j.ok g.2)) (aJ (a:=d) .A ae rfl) (h.ok k.2)) ?_;let q:a*b*c*d≠0:=ä (ä (ä ha.1 i.1) g.1) k.1;show ay (TK (OU (av t (m.mono .a) rfl .C .B #[q,p1,p2])) λ_=>(ud (qG r (m.mono .a) rfl (aJ (a:=a) .A ae rfl) (aJ (a:=b) .A ae rfl) (aJ (a:=c) .A ae rfl) .B #[ha.1,i.1,g.1,p1,p2,ha.2,i.2,g.2]))) ?_;change Bd.val _ _=Bd.val _ _;rw[rf .b];rfl
def Tv(l:.L)(p:Int):Prop:=1<=l.length/\(∀a∈l,a≠0/\Sm 62 a)/\(p=0\/(2<=p/\p<2^62))
def Be(v:⇑aci)(q:⇑acj)(o:⇑aG 6 "four_have_zero" ["numbers","p"] (bw K WE Á dM))(l:.L)(p:Int)(hp:Tv l p):⇑Body tO "have_zero" l4 f 6 [.val Â l,.val Â p] (RT Á (dM l p)):=by
 intro t A outer s H E k;let⟨h1,i,r⟩:=hp;show aQ (aD aO .B ae) (λe=>?_) (λe=>?_)
 .let g:p=0:=by simpa using e
  subst g;let⟨m,u⟩:=IH l .b;let⟨b1,b2⟩:=Ir l .b;show ay (Na gO gO (SM rfl rfl B.min .A .b m u) ae (S7 rfl rfl B.max .A .b b1 b2)) ?_;change Bd.val _ _=Bd.val _ _;unfold dM;rw[ac6 rfl]
 let g:¬p=0:=by simpa using e
 let p1:2<=p:=by lia
 let p2:p<2^62:=by lia
 let len:∀n:Nat,decide ((l.length:Int)=(n:Int))=Á->l.length=n:=λn h=>by
  let:(l.length:Int)=(n:Int):=by simpa using h
  lia
 let d:∀n:Nat,decide ((l.length:Int)=(n:Int))=Â->l.length≠n:=λn h=>by
  let:¬(l.length:Int)=(n:Int):=by simpa using h
  lia
 show aQ (aD aO (bx rfl B.len .A) ae) (λe=>?_) (λc1=>?_)
 .match l,len 1 e with
  |[a],_=>rw[E1 g];show ay xI rfl
 show aQ (aD aO (bx rfl B.len .A) ae) (λe=>?_) (λc2=>?_)
 .match l,len 2 e,i with
  |[a,b],_,i =>
  let ha:=i a .c;let j:=i b .c;rw[Aq g];show ay (av v (k.mono .a) rfl (aH (dU (aJ (a:=a) .A ae rfl)) (aJ (a:=b) .A ae rfl) (ha.2.neg.ok j.2)) .B #[ä (by let:=ha.1;lia) j.1,p1,p2]) rfl
 show aQ (aD aO (bx rfl B.len .A) ae) (λe=>?_) (λc3=>?_)
 .match l,len 3 e,i with
  |[a,b,c],_,i =>
  let ha:=i a .c;let j:=i b .c;let e:=i c .c;rw[eC g];show ay (qG q (k.mono .a) rfl (aJ (a:=a) .A ae rfl) (aJ (a:=b) .A ae rfl) (aJ (a:=c) .A ae rfl) .B #[ha.1,j.1,e.1,p1,p2,ha.2,j.2,e.2]) rfl
 show aQ (aD aO (bx rfl B.len .A) ae) (λe=>?_) (λc4=>?_)
 .show ay (av o (k.mono .a) rfl .A .B #[len 4 e,i,p1,p2]) rfl
 rw[wR g (by let:=d 1 c1;let:=d 2 c2;let:=d 3 c3;let:=d 4 c4;lia)];show ay xI rfl
def Sr(h:bh l=Á):∀a∈l,a≠0/\Sm 62 a:=λa ha=>by
 let:=bV h ha;show#[this.1,by unfold Sm;lia]
noncomputable def l5(xs:.L):Int:=xs.foldl (λg k=>((È g k:Nat):Int)) 0
def wd(xs:.L):.L:=xs.map λk=>k.fdiv (l5 xs)
def UR(xs:.L):Prop:=xs.length<=100/\l5 xs≠0/\Sm 8000 (l5 xs)
def IJ(h:xs[i]?=À x):l5 (xs.take (i+1))=((È (l5 (xs.take i)) x:Nat):Int):=by
 unfold l5;rw[aeT,h];simp[af5]
def qh(d:⇑abY)(xs:.L)(hp:UR xs):⇑Body fD "without_divisor" dF f 1 [.val Â xs] (RT Á (wd xs)):=by
 intro b A outer s H E e;let⟨h1,h2,c⟩:=hp;show ao 1 dk.nd ae ?_;show jO (λi U=>∃r,U=[À (.val Â xs),À (.val Á (l5 (xs.take i))),r]) (bW 2 dk.nd) .A #[none,rfl] ?_ ?_
 .rintro i a U' ha ⟨r,rfl⟩;show ao 1 dk.nd (av d (e.mono .a) rfl .B .C É) (aN ?_);dsimp only;rw[IJ ha];show#[_,rfl]
 .rintro U' ⟨r,rfl⟩;rw[ŷ];show ay (dg (f:=λk:Int=>k.fdiv (l5 xs)) ["k"] [1] (bH (af dF) fD rfl rfl .d) (bA .A) (bp 0) (λC s H fp=>cI 0 ["k","divisor"]) a8 (λi u g C s H fp=>bf .A .B (Sm.div (n:=8000) c h2)) .b) rfl
theorem Lf:∀(xs:.L) (a:Int),(xs.foldl (λg k=>((È g k:Nat):Int)) a∣a)/\∀x∈xs,xs.foldl (λg k=>((È g k:Nat):Int)) a∣x
 |[],a=>#[Ϩ a,λx h=>by cases h]
 |y::ys,a=>by
  let⟨h1,h2⟩:=Lf ys ((È a y:Nat):Int);show#[Ĺ h1 (Ϧ a y),λx b=>?_];obtain rfl|b:=ě.mp b
  .show Ĺ h1 (ϧ a x)
  .show h2 x b
theorem Dw{d:Int}:∀(xs:.L) (a:Int),d∣a->(∀x∈xs,d∣x)->d∣xs.foldl (λg k=>((È g k:Nat):Int)) a
 |[],a,h,_=>h
 |y::ys,a,h,b=>Dw ys _ (ag8 h (b y (Ġ ..))) λx q=>b x (Ě _ q)
theorem Dm:∀(xs:.L) (a:Int),0<=a->0<=xs.foldl (λg k=>((È g k:Nat):Int)) a
 |[],a,h=>h
 |y::ys,a,_=>Dm ys _ (ϣ _)
def uM(h:x∈xs):l5 xs∣x:=(Lf xs 0).2 x h
def N_(h:x∈xs)(a:x≠0):0<l5 xs:=by
 let h1:0<=l5 xs:=Dm xs 0 (ń 0)
 let h2:l5 xs≠0:=λz=>a (by
  let:=uM h;rw[z] at this
  show aik.mp this)
 lia
def xa(h:0<l5 xs)(b:x∈xs):x=l5 xs*x.fdiv (l5 xs):=by
 let⟨c,a⟩:=uM b
 let e:x.fdiv (l5 xs)=c:=by
  conv=>lhs;arg 1;rw[a]
  show ad8 c .b
 rwa[e]
def Q_(h:0<l5 xs):l5 (wd xs)=1:=by
 let c:0<=l5 (wd xs):=Dm _ 0 (ń 0)
 let h1:l5 xs*l5 (wd xs)∣l5 xs*1:=by
  rw[Ċ];show Dw xs 0 (afT _) λx a=>?_;let b:x.fdiv (l5 xs)∈wd xs:=adn.mpr #[x,a,rfl];let:=Int.mul_dvd_mul_left (l5 xs) (uM b);rwa[<-xa h a] at this
 let h2:=ahl .b h1;let:=ĝ .a h2;let:l5 (wd xs)≠0:=λz=>by rw[z] at h2;show absurd (aik.mp h2) .a
 lia
def Kg(h:0<l5 xs)(a:x∈xs):(x.fdiv (l5 xs)).natAbs<=x.natAbs:=by
 let:=xa h a
 conv=>rhs;rw[this,ļ]
 show ae6 _ .f
def SG(h:x∈xs)(b:x≠0)(a:Sm n x):Sm n (l5 xs):=by
 let:=ad5.mpr (uM h);show Sm.of_le (agM .b this) a
def wI{t:Int}(h:¬(x=0/\y=0/\t=0))(e:Sm n x)(d:Sm n y)(l:Sm n t)(m:n<=8000):
  UR [x,y,t]/\∃g c b t',0<g/\wd [x,y,t]=[c,b,t']/\x=g*c/\y=g*b/\t=g*t'/\l5 [c,b,t']=1/\Sm n c/\Sm n b/\Sm n t':=by
 obtain⟨z,hz,f,sz⟩:∃z∈[x,y,t],z≠0/\Sm n z:=by
  by_cases h1:x=0
  .by_cases h2:y=0
   .show#[t,.c,λz=>h #[h1,h2,z],l]
   .show#[y,.c,h2,d]
  .show#[x,.c,h1,e]
 let a:=N_ hz f;let j:x∈[x,y,t]:=by simp
 let k:y∈[x,y,t]:=by simp
 let i:t∈[x,y,t]:=by simp
 show#[#[by change 3<=100;decide,.b,(SG hz f sz).le m],l5 [x,y,t],_,_,_,a,rfl,xa a j,xa a k,xa a i,Q_ a,Sm.of_le (Kg a j) e,Sm.of_le (Kg a k) d,Sm.of_le (Kg a i) l]
def As(n:⇑aG 3 "is_prime" ["k"] (cj K (λk=>k<2^62) Á aT))(x:Int)(h2:2<=x)(o:x<=30000):⇑Body pY "next_prime" lE f 3 [.val Â x] (RT Á (pf (x+1))):=by
 intro j A outer s H E m;let l:PB=1070000011:=rfl;let b:x+1<=PB:=by lia
 let h:=qE b;let i:=Ve b;let g:=zM b .b;show ao 1 jG.nd (bG .A ae) ?_;show cR (ι:=Int) (λd U=>U=[À (.val Â x),À (.val Á d)]/\x+1<=d/\d<=pf (x+1)) (λd=>↥(pf (x+1)-d)) (x+1) #[rfl,ń _,g.2] ?_;rintro d U' ⟨rfl,h1,p⟩;show#[_,fW (eH (aC n (m.mono .a) rfl .B .b)),λa=>?_,λa=>?_]
 .let q:d≠pf (x+1):=λz=>by rw[z,h] at a;cases a
  show ao 1 jG.nd (bG .B ae) ?_;show aN #[d+1,#[rfl,.b,.b],.b]
 .let hp:aT d=Á:=by simpa using a
  let e:pf (x+1)=d:=by
   let c:d%2=1:=by
    obtain z|z:=Q.cQ.mp hp
    .lia
    .show z.2.1
   let:=pT hp h1 c .b .b;lia
  rw[e];show ay .B rfl
def Wt(l:.L):Prop:=∃a b,l=[a,b]/\a≠0/\b≠0/\Sm 62 a/\Sm 62 b/\dM [a,b] 0=Á/\Se a b
def RV{k:Int}(h:AO k=À r):r*r=k:=by
 unfold AO at h;split at h
 .cases h
 .split at h
  .rename_i e;cases h;show e
  .cases h
def LH{k:Int}(h:AO k=none):¬∃r:Int,r*r=k:=fun⟨r,e⟩=>by
 let b:0<=k:=by
  rw[<-e];obtain z|z:=ag3 0 r
  .show Ϗ z z
  .show ae2 z z
 let:∀r:Int,0<=r->r*r=k->False:=λr a e=>by
  let e2:=fe (k:=k) (r:=r) a .b (by
   let:(r+1)*(r+1)=r*r+2*r+1:=by grind
   lia)
  unfold AO at h;rw[ac2 .b,ac6 (by rwa[<-e2])] at h;cases h
 obtain z|z:=ag3 0 r
 .show this r z e
 .show this (-r) .b (by rwa[Int.neg_mul_neg])
abbrev acm(P w K mg base):=aG P w K mg base 7 "have_zero" ["numbers","p"] (bw K Tv Á dM)
abbrev ack(P w K mg base):=aG P w K mg base 4 "next_prime" ["k"] (cj K (λk=>2<=k/\k<=30000) Á (λk=>pf (k+1)))
def lV(y:⇑ab2)(G:⇑ack)(N:⇑acm)(l:.L)(hp:Wt l):⇑Body fV "first_prime_without" dy f 7 [.val Â l] (RT Á (xV l)):=by
 intro J A outer s H E n;let⟨a,b,rfl,ha,t,i,m,hz,g⟩:=hp;let B:Sm 8000 (-a*b):=Sm.le (i.neg.mul m) .a;let c:=Sz ha t hz g;cases j:AO (-a*b) with
 |some r =>
  let o:=RV j;show aQ (HU (x:=À r) (M:=Int) (lj (aC y (n.mono .a) rfl (aH (dU (aJ (a:=a) .A ae rfl)) (aJ (a:=b) .A ae rfl) (i.neg.ok m)) B) j) λ_ _ _ _ h=>nomatch h) (λd=>?_) (λd=>by cases d);obtain⟨h1,_⟩|⟨p,_,_,_,h⟩:=c
  .rw[<-oN h1];show ay (j9 (M:=Int)) rfl
  .show absurd #[r,o] h
 |none =>
  let T:=LH j;show aQ (HU (x:=none) (M:=Int) (lj (aC y (n.mono .a) rfl (aH (dU (aJ (a:=a) .A ae rfl)) (aJ (a:=b) .A ae rfl) (i.neg.ok m)) B) j) λ_ _ _ _ h=>nomatch h) (λd=>by cases d) (λd=>?_);obtain⟨_,h⟩|⟨p,h1,h2,Γ,_⟩:=c
  .show absurd h T
  rw[<-oN h1];let⟨S,α⟩:=h1;let p2:=az h2;let⟨_,_,F⟩:=α.resolve_left .b;show ao 1 dj.nd ae ?_;show cR (ι:=Int) (λq U=>U=[À (.val Â [a,b]),À (.val Á q)]/\aT q=Á/\q<=p) (λq=>↥(p-q)) 2 #[rfl,bQ,p2] ?_;rintro q U' ⟨rfl,u,O⟩;let v:=az u;show#[_,eH (av N (n.mono .a) rfl .A .B #[.c,λx I=>?_,.inr #[v,.b]]),λd=>?_,λd=>?_]
  .obtain e|e:=ě.mp I
   .rw[e];show#[ha,i]
   .rw[adv.mp e];show#[t,m]
  .let D:q≠p:=λz=>by rw[z,S] at d;cases d
   let C:q+1<=PB:=by change q+1<=1070000011;lia
   let L:=qE C;let V:=(zM C .b).2
   let R:=pT h2 (k:=q+1) .b (by
    obtain z|z:=Q.cQ.mp h2
    .lia
    .show z.2.1) (by change p<=1070000011;lia) .b
   show ao 1 dj.nd (aC G (n.mono .a) rfl .B #[v,.b]) (aN #[_,#[rfl,L,R],?_]);lia
  .let e:q=p:=by
    obtain z|z:=aeY O
    .rw[F q u z] at d;cases d
    .show z
   rw[<-e];show ay ((aa 1).some) rfl
structure RJ(l:.L):Prop where
 row:bh l=Á
 po:HQ l
 two:∀a b,l=[a,b]->dM l 0=Á->Se a b
def Dg(l:.L):.L:=(nD l).filter λp=>!(dM l p)
def QY(d:bh l=Á)(hz:dM l 0=Á)(s:3<=l.length):FW l (Dg l).head?:=by
 let o:∀q:Int,q∈nD l↔q=2\/(aT q=Á/\∃a∈l,q∣a):=λq=>by
  unfold nD;rw[gJ];unfold yV;rw[ě,agV];show aib ?_;constructor
  .rintro⟨a,ha,c⟩;let h1:1<=(a.natAbs:Int):=by let:=bV d ha;lia
   let⟨k,n⟩:=(gG h1).mp c;show#[k,a,ha,aet.mp n]
  .rintro⟨k,a,ha,n⟩;let h1:1<=(a.natAbs:Int):=by let:=bV d ha;lia
   show#[a,ha,(gG h1).mpr #[k,aet.mpr n]]
 let g:∀q,aT q=Á->q∉nD l->dM l q=Á:=λq c h=>by
  rw[o] at h;show J_ c (λz=>h (.inl z)) s λa ha t=>h (.inr #[c,a,ha,t])
 let m:∀q,q∈nD l->aT q=Á:=λq c=>by
  rcases(o q).mp c with z|z
  .rw[z];show bQ
  .show z.1
 cases j:Dg l with
 |nil =>
  show#[hz,λq c=>?_];by_cases b:q∈nD l
  .apply ģ;intro h;let:q∈Dg l:=aeb.mpr #[b,↑h];rw[j] at this;cases this
  .show g q c b
 |cons p ps =>
  let hp:p∈Dg l:=by rw[j];show Ġ ..
  let⟨h1,h2⟩:=aeb.mp hp;show#[↑h2,.inr #[m p h1,hz,λq c r=>?_]];by_cases b:q∈nD l
  .apply ģ;intro h;let i:q∈Dg l:=aeb.mpr #[b,↑h];let f:(Dg l).Pairwise (·<·):=(iW _).filter _;rw[j] at i f;obtain e|e:=ě.mp i
   .lia
   .let:=(aeN.mp f).1 q e;lia
  .show g q c b
def KU(h:HQ l):(nD l).length<=64:=by
 let h1:(nD l).length<=(yV l).length:=rQ ((iW _).imp λh=>by lia) λx a=>gJ.mp a;let:=h.few;lia
def Hh(b:bh l=Á)(h:q∈nD l):2<=q/\q<2^62:=by
 unfold nD at h;rw[gJ] at h;unfold yV at h;obtain z|z:=ě.mp h
 .rw[z];decide
 .let⟨a,ha,e⟩:=agV.mp z;let f:=bV b ha;let h1:1<=(a.natAbs:Int):=by omega
  let⟨c,d⟩:=(gG h1).mp e;let:=ĝ .f d;show#[az c,.f]
def ug(u:⇑acg)(n:⇑acm)(J:⇑aG 8 "first_prime_without" ["row"] (cj K Wt Á xV))(l:.L)(hp:RJ l):⇑Body g6 "first_barring" eQ f 8 [.val Â l] (RT Á (xV l)):=by
 intro I A outer s H E g;let m:=cF hp.row;let e:∀a∈l,a≠0/\Sm 62 a:=Sr hp.row;show aQ (fW (eH (av n (g.mono .a) rfl .A ae #[m.1,e,.inl rfl]))) (λc=>?_) (λc=>?_)
 .let hz:dM l 0=Â:=by simpa using c
  rw[<-oN (r:=À 0) #[hz,.inl rfl]];show ay (jR ae) rfl
 let hz:dM l 0=Á:=by simpa using c
 show aQ (aD aO (bx rfl B.len .A) ae) (λc=>?_) (λc=>?_)
 .let h2:(l.length:Int)=2:=by simpa using c
  match l,h2 with
  |[a,b],_ =>
   show ay (aC J (g.mono .a) rfl .A #[a,b,rfl,(e a .c).1,(e b .c).1,(e a .c).2,(e b .c).2,hz,hp.two a b rfl hz]) rfl
 let h2:¬(l.length:Int)=2:=by simpa using c
 let h1:l.length≠1:=λz=>by
  match l,z with
  |[a],_ =>
   rw[dq] at hz;let⟨⟨x,F,o⟩,⟨y,v,D⟩⟩:=hz;rw[adv.mp F] at o;rw[adv.mp v] at D;lia
 show aQ (aD h_ (bx rfl B.len .A) ae) (λc=>?_) (λc=>?_)
 .let L:4<(l.length:Int):=by simpa using c
  rw[<-oN (r:=none) #[hz,λq G=>wR (by let:=az G;lia) .b]];show ay (j9 (M:=Int)) rfl
 let t:3<=l.length:=by lia
 let k:=KU hp.po;show FK (f:=λq:Int=>q) (p:=λq=>!(dM l q)) (b':=Á) 1 j4.nd ["p"] [0] (bH (af eQ) g6 rfl rfl .d) (bA (aC u (g.mono .a) rfl .A hp.po)) (bp 0) (λC s H fp=>cI 0 ["p","numbers"]) a8 (λi q hi C s H fp=>sR (fW (eH (av n (g.mono .a) rfl .B .A #[m.1,e,.inr (Hh hp.row (Ĭ hi))])))) (λi q hi _ C s H fp=>dv (b':=Á) .A) .b ?_;rw[List.map_id'];let j:=QY hp.row hz t;rw[<-oN j];unfold Dg;generalize (nD l).filter (λq=>!(dM l q))=bl;cases bl with
 |nil =>
  show ay (ko (M:=Option Int) (x:=none) (y:=none) (aD h_ (bx rfl B.len .B) ae) (λh=>absurd (by simpa using h:(0:Int)<0) .a) λ_=>j9 (M:=Int)) ?_;change Bd.val _ _=Bd.val _ _;rw[ite_self];rfl
 |cons p ps =>
  show ay (ko (M:=Option Int) (x:=À p) (y:=À p) (aD h_ (bx rfl B.len .B) ae) (λh=>(jR (aJ (a:=p) .B ae (by rw[tD (d:=p) .a .c];rfl)))) λh=>absurd (by simp:(0:Int)<((p::ps).length:Int)) ↑h) ?_;change Bd.val _ _=Bd.val _ _;rw[ite_self];rfl
def uD(b:⇑ace)(d:⇑aG 9 "first_barring" ["numbers"] (cj K RJ Á xV))(l:.L)(hp:RJ l):⇑Body lU "first_without" g9 f 9 [.val Â l] (RT Á (xV l)):=by
 intro c A outer s H E a;show k_ (aC b (a.mono .a) rfl .A hp.row) ?_;show ay (aC d (a.mono .a) rfl .A hp) rfl
def Tz(a b:Int):Int×(Int×Int):=Gf (a*b,1)
def K0(a b:Int):Prop:=a≠0/\b≠0/\Sm 60 a/\Sm 60 b/\Tame (a*b).natAbs/\(Tz a b).1.natAbs<1073741824
def Ll{k:Int}(h:k≠0)(b:Sm 200 k)(a:Tame k.natAbs):TB (k,1):=#[h,ń 1,b.le .a,by change(1:Int).natAbs<2^400;show af2 .a,by change Tame (k.natAbs*1);rwa[Ċ]]
def uq(Yk:xw mg "GREAT_FROM" 1073741824)(YF:⇑ab4)(a b:Int)(h:K0 a b):⇑Body lP "freed_product" gW f 5 [.val Â a,.val Â b] (RT Á (Tz a b)):=by
 intro i A outer s H E m;let⟨ha,g,d,e,j,l⟩:=h;show ao 2 ki.nd (aC YF (m.mono .a) rfl (bj (aH .A .B (d.ok e)) ae) (Ll (ä ha g) ((d.mul e).le .a) j)) ?_;show aQ (aD EW (iR rfl B.abs (aV .C)) (ua rfl Yk)) (λc=>?_) (λ_=>?_)
 .exfalso;let k:(Gf (a*b,1)).1.natAbs<1073741824:=l;rw[s_] at c;let:(1073741824:Int)<=((Gf (a*b,1)).1.natAbs:Int):=ad0 c;lia
 .show ay .C rfl
def AD{k:Int}(h:k≠0)(b:Tame k.natAbs):∃A u,Gf (k,1)=(A,(u,1))/\eF A/\0<u/\k=A*(u*u):=by
 let⟨f,s,h1,h2,a⟩:=vf _ k h (ú _);let t:Tame (k.natAbs*1):=by rwa[Ċ]
 let e:=Ej h .a t h1 h2 (by rwa[Ċ]);show#[f,s,?_,h1,h2,a];change((Mh k 1).1,fr (Mh k 1).2 1)=_;rw[e];change(f,fr s 1)=(f,(s,1));rw[SD .a (ahx s)]
noncomputable def VJ(a:Int)(l:Int×(Int×Int))(r:Int)(z:.L):.L:=wd [z.getD 0 0*r+a*z.getD 1 0,z.getD 0 0+r*z.getD 1 0,l.1*l.2.1*z.getD 2 0]
structure V9(a:Int)(l:Int×(Int×Int))(r:Int)(z:.L):Prop where
 len:z.length=3
 sa:Sm 40 a
 s1:Sm 40 l.1
 s2:Sm 40 l.2.1
 sr:Sm 40 r
 sz:∀x∈z,Sm 4000 x
 nz:¬(z.getD 0 0*r+a*z.getD 1 0=0/\z.getD 0 0+r*z.getD 1 0=0/\l.1*l.2.1*z.getD 2 0=0)
abbrev acn(P w K mg base):=aG P w K mg base 2 "without_divisor" ["numbers"] (cj K UR Á wd)
def xT(i:⇑acn)(a:Int)(l:Int×(Int×Int))(r:Int)(z:.L)(hp:V9 a l r z):⇑Body oE "from_lesser" jV f 2 [.val Â a,.val Â l,.val Â r,.val Â z] (RT Á (VJ a l r z)):=by
 intro j A outer s H E n;let⟨len,h,d,g,c,sz,nz⟩:=hp
 match z,len with
 |[x,y,t],_ =>
 let e:=sz x .c;let b:=sz y .c;let st:=sz t .c;let o:Sm 4100 (x*r+a*y):=((e.mul c).add (h.mul b)).le .a;let m:Sm 4100 (x+r*y):=(e.add (c.mul b)).le .a;let k:Sm 4100 (l.1*l.2.1*t):=((d.mul g).mul st).le .a;show ao 4 jd.nd (bG (aH (aJ (a:=x) .D ae rfl) .C (e.ok c)) (aH .A (aJ (a:=y) .D ae rfl) (h.ok b))) ?_;show ao 5 jd.nd (bG (aJ (a:=x) .D ae rfl) (aH .C (aJ (a:=y) .D ae rfl) (c.ok b))) ?_;show ay (aC i (n.mono .a) rfl (d8 (aF .E (aF (aa 5) (aF (aH (aH (aV .B) (aV (aX .B)) (d.ok g)) (aJ (a:=t) .D ae rfl) ((d.mul g).ok st)) bD))) (by change 3<=1000;decide)) (wI nz o m k .a).1) rfl
def JK(k m:Int):Int:=if m<2*(LB k m).getD 0 then (LB k m).getD 0-m else (LB k m).getD 0
def Wb(k m:Int):Prop:=1<=m/\m<2^60/\∃x,LB k m=À x/\0<=x/\x<m
def uA(b:⇑aG 6 "root_by" ["k","m"] (bw K (λ_ m=>1<=m/\m<2^60) Á LB))(k m:Int)(hp:Wb k m):⇑Body lL "least_root_by" g8 f 6 [.val Â k,.val Â m] (RT Á (JK k m)):=by
 intro d A outer s H E j;let⟨g,i,x,c,n,l⟩:=hp;show ao 2 ky.nd (av b (j.mono .a) rfl .A .B #[g,i]) ?_;let e:JK k m=if m<2*x then x-m else x:=by unfold JK;rw[c];rfl
 rw[c,e];show ay (ko (aD h_ (aH ae (mB (a:=x) .C) (mulL .a .a)) .B) (λ_=>j_ (mB (a:=x) .C) .B) λ_=>mB (a:=x) .C) ?_;change Bd.val _ _=Bd.val _ _;congr 1;by_cases h:m<2*x
 .rw[ac6 h,ado h];rfl
 .rw[ac2 h,adF h];rfl
def Vc(ha:a≠0)(i:eF b)(h:uj a b)(p:b.natAbs<1073741824):Wb a b.natAbs/\2*(JK a b.natAbs).natAbs<=b.natAbs/\b∣JK a b.natAbs*JK a b.natAbs-a:=by
 let⟨x,e,l,k,f⟩:=KJ ha i h;let o:=i.1;let j:JK a b.natAbs=if (b.natAbs:Int)<2*x then x-b.natAbs else x:=by unfold JK;rw[e];rfl
 show#[#[.b,.b,x,e,l,k],?_,?_]
 .rw[j];split<;>lia
 .rw[j];split
  .let g:b∣(b.natAbs:Int):=aet.mpr (Ϩ b);let⟨c,n⟩:=g;let⟨d,f⟩:=f;show#[d-2*x*c+(b.natAbs:Int)*c,?_];generalize (b.natAbs:Int)=m at *;grind
  .show f
structure Mm(a b:Int):Prop where
 qa:eF a
 qb:eF b
 la:a.natAbs<1073741824
 lb:b.natAbs<1073741824
 yes:uj a b
def SY(a b:Int)(z:.L):Prop:=∃x y t,z=[x,y,t]/\x*x=a*(y*y)+b*(t*t)/\¬(x=0/\y=0/\t=0)/\Sm (ps a+ps b+2) x/\Sm (ps a+ps b+2) y/\Sm (ps a+ps b+2) t
def Mm.two(h:Mm a b)(ha:a≠1)(c:b≠1)(e:a.natAbs<=b.natAbs):2<=b.natAbs:=by
 let d:=h.qa.1;let f:=h.qb.1;apply ģ;intro g;let e1:a=-1:=by lia
 let e2:b=1\/b=-1:=by lia
 obtain e2|e2:=e2
 .show absurd e2 c
 .let:=h.yes 0 (.inl rfl);rw[e1,e2,aR] at this;show absurd this .a
structure UP(a b r:Int)(l:Int×(Int×Int)):Prop where
 ex:∃c s,l=(c,(s,1))/\Mm a c/\0<s/\r*r-a=b*c*(s*s)/\wz a c+1<=wz a b/\s.natAbs<1073741824/\(lg c+2<=lg b\/(lg b<=2/\lg c+1<=lg b))/\a.natAbs<=b.natAbs
def MY(h:Mm a b)(h1:a≠1)(l:a.natAbs<=b.natAbs)(h2:2<=b.natAbs)(t:2*r.natAbs<=b.natAbs)(p:b∣r*r-a):((r*r-a).fdiv b≠0/\((r*r-a).fdiv b).natAbs<1073741824)/\UP a b r (Gf ((r*r-a).fdiv b,1)):=by
 let⟨k,f⟩:=p;let j:=h.qb.1;let o:=h.qa.1;let ek:(r*r-a).fdiv b=k:=by rw[f];show ad8 k j
 let i:r*r-a≠0:=λz=>by
  let:=ye (x:=r) (y:=1) h.qa h1 (by rw[Ċ,Ċ];(first|lia|omega));show absurd this .a
 let m:k≠0:=λz=>i (by rw[f,z,ś]);let bd:=EB l t j f;let u:=h.lb;let kl:k.natAbs<1073741824:=by (first|lia|omega)
 rw[ek];show#[#[m,kl],?_];let⟨c,s,e,d,n,g⟩:=AD m (qJ (by first|lia|omega) (by first|lia|omega));let cl:=Aj n g;let e3:r*r-a=b*c*(s*s):=by rw[f,g];grind
 let sl:s.natAbs<=k.natAbs:=by
  let q:k=s*(s*c):=by rw[g];grind
  conv=>rhs;rw[q,ļ]
  show ahQ _ ?_;let:s*c≠0:=ä (by first|lia|omega) d.1;(first|lia|omega)
 show#[c,s,e,#[h.qa,d,h.la,by (first|lia|omega),h.yes.step o j d.1 (by first|lia|omega) e3],n,e3,L8 l (El h2 d.1 (by first|lia|omega)),by (first|lia|omega),Jh h2 d (by first|lia|omega),l]
def Fn{l:Int×(Int×Int)}(h:Mm a b)(h1:a≠1)(q:b≠1)(hm:wz a b<118)(H:2*r.natAbs<=b.natAbs)(V:UP a b r l)(hz:SY a l.1 z):V9 a l r z/\SY a b (VJ a l r z):=by
 let⟨c,s,rfl,p,s0,e,S,sl,u,d⟩:=V.ex;let⟨x,y,t,rfl,i,nz,j,f,st⟩:=hz;let j:Sm (ps a+ps c+2) x:=j;let f:Sm (ps a+ps c+2) y:=f;let st:Sm (ps a+ps c+2) t:=st;let i:x*x=a*(y*y)+c*(t*t):=i;let F:=h.la;let I:=h.lb;let lc:=p.lb;let g1:=vT h.qa.1 F;let g2:=vT h.qb.1 I
 let B:¬(x*r+a*y=0/\x+r*y=0/\c*s*t=0):=fun⟨C,k,A⟩=>by
  let J:t=0:=by
   obtain z|z:=afk.mp A
   .show absurd z (ä p.qb.1 .b)
   .show z
  rw[J,ś,ś,ahN] at i;let D:=ye h.qa h1 i;rw[D,ś,ahN] at k;show nz #[k,D,J]
 let pa:=A6 h.qa.1 F;let pb:=A6 h.qb.1 I;let pc:=A6 p.qb.1 lc
 let w:2<=b.natAbs:=by
  let:=h.two h1 q d;show this
 let o:Sm 30 a:=by unfold Sm;lia
 let m:Sm 30 r:=by unfold Sm;lia
 let bl:=EK h.qb.1;let N:Sm (lg b+1) a:=Η d bl;let K:Sm (lg b) r:=half_lt h.qb.1 H;let n:Sm (lg b+1) (c*s):=Iy .b d H w e;let Z:ps c+lg b+2<=ps b:=(FP _ .b).2 _ .b u;let P:Sm (ps a+ps b+2) (x*r+a*y):=((j.mul K).add (N.mul f)).le .b;let Γ:Sm (ps a+ps b+2) (x+r*y):=(j.add (K.mul f)).le .b;let X:Sm (ps a+ps b+2) (c*s*t):=(n.mul st).le .b;let⟨_,g,W,α,t',g0,T,ex,G,L,_,O,σ,R⟩:=wI B P Γ X .b;show#[#[rfl,o.le .a,(by unfold Sm;lia:Sm 30 c).le .a,(by unfold Sm;lia:Sm 30 s).le .a,m.le .a,λv E=>?_,B],W,α,t',T,?_,fun⟨C,k,A⟩=>B #[by rw[ex,C,ś],by rw[G,k,ś],by rw[L,A,ś]],O,σ,R]
 .simp only[ě,ğ,adM] at E;obtain rfl|rfl|rfl:=E
  .show j.le .b
  .show f.le .b
  .show st.le .b
 .show Nc .b i e ex G L
section
variable(YF:⇑ab4)(YG:⇑aG 3 "from_lesser" ["a","lesser","root","zero"] (EL K V9 Á VJ))(YD:⇑aG 7 "least_root_by" ["k","m"] (bw K Wb Á JK))
def XI:Sm (n+2) 0:=by unfold Sm;show agl _
def V_:Sm (n+2) 1:=by unfold Sm;show af2 .b
include B YF YG YD in
theorem ur(n:Nat)(j:⇑aG (8+n) "square_of_two" ["a","b"] (kU K (λa b=>Mm a b/\wz a b<n/\wz a b<118) Á SY))(a b:Int)(h:Mm a b)(Z:wz a b<n+1)(G:wz a b<118):⇑Body lT "square_of_two" eR f (8+n) [.val Â a,.val Â b] (zx Á (SY a b)):=by
 intro T A outer s H E m;let C:=h.qa.1;let F:=h.qb.1;let σ:=h.la;let V:=h.lb;show aQ (aD aO .A ae) (λd=>?_) (λd=>?_)
 .let ha:a=1:=ad0 d;show ay (d8 (as:=[1,1,0]) (aF ae (aF ae (aF ae bD))) (by change 3<=1000;decide)) #[_,#[1,1,0,rfl,by rw[ha];grind,λz=>absurd z.1 .a,V_,V_,XI],rfl]
 let h1:a≠1:=aes d;show aQ (aD aO .B ae) (λd=>?_) (λd=>?_)
 .let I:b=1:=ad0 d;show ay (d8 (as:=[1,0,1]) (aF ae (aF ae (aF ae bD))) (by change 3<=1000;decide)) #[_,#[1,0,1,rfl,by rw[I];grind,λz=>absurd z.1 .a,V_,XI,V_],rfl]
 let e:=d;show aQ (aD h_ (iR rfl B.abs .A) (iR rfl B.abs .B)) (λd=>?_) (λd=>?_)
 .rw[s_,s_] at d;let u:(b.natAbs:Int)<a.natAbs:=ad0 d;let o:b.natAbs<a.natAbs:=by lia
  let p:=Ma o;show mi 2 c8.nd (gK j m rfl .B .A #[#[h.qb,h.qa,h.lb,h.la,h.yes.swap C F],.b,.b]) λz hz=>?_;let⟨x,y,t,rfl,R,nz,Γ,N,st⟩:=hz;let le:ps b+ps a+2<=ps a+ps b+2:=by lia
  show ay (d8 (as:=[x,t,y]) (aF (aJ (a:=x) .C ae rfl) (aF (aJ (a:=t) .C ae rfl) (aF (aJ (a:=y) .C ae rfl) bD))) (by change 3<=1000;decide)) #[_,#[x,t,y,rfl,by rw[R,ail],fun⟨O,W,S⟩=>nz #[O,S,W],Γ.le le,st.le le,N.le le],rfl]
 rw[s_,s_] at d;let u:¬(b.natAbs:Int)<a.natAbs:=aes d;let k:a.natAbs<=b.natAbs:=by lia
 let h2:=h.two h1 (aes e) k;let⟨pl,i,α⟩:=Vc C h.qb h.yes V;show ao 3 c8.nd (av YD (m.mono .b) rfl .A (lj (iR rfl B.abs .B) (s_ b)) pl) ?_;generalize JK a b.natAbs=r at *;let⟨⟨J,kl⟩,v⟩:=MY h h1 k h2 i α;let D:Sm 30 r:=by unfold Sm;lia
 let X:Sm 30 ((r*r-a).fdiv b):=by unfold Sm;lia
 show ao 4 c8.nd (aC YF (m.mono .b) rfl (bj (bf (j_ (aH .D .D (D.ok D)) .A) .B (Sm.div (n:=30) (by unfold Sm;lia) F)) ae) (Ll J (X.le .a) (qJ .b .b))) ?_;generalize Gf ((r*r-a).fdiv b,1)=l at *;let⟨c,q,L,d,_,_,p,_,_⟩:=v.ex;let g:l.1=c:=by rw[L]
 show kR (OL YG (m.mono .b) rfl .A .E .D (gK j m rfl .A (aV .E) #[by rwa[g],by rw[g];lia,by rw[g];lia]) λz hz=>(Fn h h1 (aes e) G i v hz).1) ?_;rintro y ⟨z,hz,rfl⟩;show#[_,(Fn h h1 (aes e) G i v hz).2,rfl]
include B YF YG YD in
theorem tK{h:á}(D:Df K "square_of_two" eR)(X:K.In h)(G:h.Ns Ì mg):∀n:Nat,⇑aG (8+n) "square_of_two" ["a","b"] (kU K (λa b=>Mm a b/\wz a b<n/\wz a b<118) Á SY)
 |0=>D.OT X G (λ_ _ _ _ _ _ us d=>match us,d with|[_,_],_=>rfl) λf fd F=>BZ F c8 rfl λa c hp=>absurd hp.2.1 (af0 _)
 |n+1=>D.OT X G (λ_ _ _ _ _ _ us d=>match us,d with|[_,_],_=>rfl) λf fd F=>BZ F c8 rfl λa c hp=>ur B YF YG YD n (tK D X G n) a c hp.1 hp.2.1 hp.2.2
end
structure Tw(l:.L):Prop where
 row:bh l=Á
 len:l.length=3
 po:HQ l
 q1:K0 (-l.getD 0 0) (l.getD 1 0)
 q2:K0 (-l.getD 0 0) (l.getD 2 0)
def Z3(row:.L)(z:Option .L):Prop:=(xV row≠none/\z=none)\/(xV row=none/\∃x y t,z=À [x,y,t]/\l5 [x,y,t]=1/\row.getD 0 0*(x*x)+row.getD 1 0*(y*y)+row.getD 2 0*(t*t)=0/\Sm 602 x/\Sm 602 y/\Sm 602 t)
def RH{B u v:Int}(ha:a≠0)(d:b≠0)(e:c≠0)(n:A≠0)(o:B≠0)(t:0<u)(s:0<v)(e1:-a*b=A*(u*u))(e2:-a*c=B*(v*v))(h:FW [a,b,c] none):uj A B:=λp hp=>by
 let⟨i,l⟩:=h;rw[<-HH hp n o .b .b e1 e2];obtain rfl|hp:=hp
 .rw[aR];rw[dq] at i;let⟨⟨x,g,q⟩,⟨y,f,r⟩⟩:=i
  let key:0 < -a*b\/0 < -a*c:=by
   apply ģ;intro j;let m:¬0 < -a*b:=λz=>j (.inl z);let k:¬0 < -a*c:=λz=>j (.inr z);rw[fg .b d] at m;rw[fg .b e] at k;simp only[ě,ğ,adM] at g f;obtain rfl|rfl|rfl:=g<;>obtain rfl|rfl|rfl:=f<;>lia
  obtain z|z:=key
  .rw[ado z];rfl
  .rw[ado z,ain]
 .let:=l p hp;rwa[eC (by let:=az hp;lia),KI (.inr hp) ha d e] at this
def uz(Yg:⇑ace)(Yx:⇑acn)(X:⇑aG 10 "first_without" ["row"] (cj K RJ Á xV))
  (Z:⇑aG 6 "freed_product" ["a","b"] (bw K K0 Á Tz)) (Zi:⇑aG 126 "square_of_two" ["a","b"] (kU K (λa b=>Mm a b/\wz a b<118/\wz a b<118) Á SY)) (row:.L) (hp:Tw row):⇑Body lK "zero_of_three" g7 f 126 [.val Â row] (zx Á (Z3 row)):=by
 intro cdv A outer s H E l;let⟨F,hl,Γ,O,N⟩:=hp
 match row,hl with
 |[a,b,c],_ =>
 let O:K0 (-a) b:=O;let N:K0 (-a) c:=N;let ha:=bV F (x:=a) .c;let T:=bV F (x:=b) .c;let i:=bV F (x:=c) .c;show k_ (aC Yg (l.mono .a) rfl .A F) ?_;show ao 1 bO.nd (av Z (l.mono .a) rfl (dU (aJ (a:=a) .A ae rfl)) (aJ (a:=b) .A ae rfl) O) ?_;show ao 2 bO.nd (av Z (l.mono .a) rfl (dU (aJ (a:=a) .A ae rfl)) (aJ (a:=c) .A ae rfl) N) ?_;let C:RJ [a,b,c]:=#[F,Γ,λ_ _ e=>by simp at e];let⟨_,_,_,_,t1,j⟩:=O;let⟨_,_,_,_,t2,m⟩:=N;let⟨J,u,V,d,u0,e1⟩:=AD (ä .b T.1) t1;let⟨L,v,W,o,v0,e2⟩:=AD (ä .b i.1) t2;let D:Tz (-a) b=(J,(u,1)):=V;let I:Tz (-a) c=(L,(v,1)):=W;rw[D] at j ⊢;rw[I] at m ⊢;let j:J.natAbs<1073741824:=j;let m:L.natAbs<1073741824:=m;let ok:=J0 [a,b,c];cases B:xV [a,b,c] with
 |some p =>
  show aQ (HU (x:=À p) (M:=Int) (lj (aC X (l.mono .a) rfl .A C) B) λ_ _ _ _ h=>nomatch h) (λ_=>?_) (λi=>nomatch i);show ay (j9 (M:=.L)) #[_,.inl #[(by rw[B];show λz=>nomatch z),rfl],rfl]
 |none =>
  rw[B] at ok;show aQ (HU (x:=none) (M:=Int) (lj (aC X (l.mono .a) rfl .A C) B) λ_ _ _ _ h=>nomatch h) (λi=>nomatch i) (λ_=>?_);let yes:=RH ha.1 T.1 i.1 d.1 o.1 u0 v0 e1 e2 ok;let hm:=RI d.1 o.1 j m;let hl1:=vT d.1 j;let hl2:=vT o.1 m;show mi 3 bO.nd (gK Zi (l.mono .a) rfl (lj (a':=J) (aV (u:=(J,(u,(1:Int)))) .B) rfl) (lj (a':=L) (aV (u:=(L,(v,(1:Int)))) .C) rfl) #[#[d,o,j,m,yes],ϱ hm,ϱ hm]) λz hz=>?_;let⟨x,y,t,rfl,ez,nz,G,r,st⟩:=hz;let hp1:=A6 d.1 j;let hp2:=A6 o.1 m;let G:Sm 542 x:=G.le .b;let r:Sm 542 y:=r.le .b;let st:Sm 542 t:=st.le .b;let σ:∀{k A u:Int},A≠0->0<u->k.natAbs<1073741824*1073741824->k=A*(u*u)->Sm 30 u:=λ{k A u} d hu hk e=>Lx d hu hk e
  let mb:∀{x y:Int},x.natAbs<1073741824->y.natAbs<1073741824->(-x*y).natAbs<1073741824*1073741824:=λ{x y} h1 h2=>by
   rw[ļ,Int.natAbs_neg];show Nat.mul_lt_mul'' h1 h2
  let q:=σ d.1 u0 (mb ha.2 T.2) e1;let α:=σ o.1 v0 (mb ha.2 i.2) e2;let n:Sm 30 a:=by unfold Sm;show ha.2
  show ao 4 bO.nd (aV (aX .B)) ?_;show ao 5 bO.nd (aV (aX .C)) ?_;show ao 6 bO.nd (aH (aH (aJ (a:=x) .D ae rfl) .E (G.ok q)) (aa 5) ((G.mul q).ok α)) ?_
  let hn:¬(x*u*v=0/\y*a*v=0/\t*a*u=0):=fun⟨z1,z2,z3⟩=>nz #[by
    obtain z|z:=afk.mp z1
    .obtain z|z:=afk.mp z
     .show z
     .lia
    .lia,by
    obtain z|z:=afk.mp z2
    .obtain z|z:=afk.mp z
     .show z
     .show absurd z ha.1
    .lia,by
    obtain z|z:=afk.mp z3
    .obtain z|z:=afk.mp z
     .show z
     .show absurd z ha.1
    .lia]
  let w1:Sm 602 (x*u*v):=((G.mul q).mul α).le .a;let w2:Sm 602 (y*a*v):=((r.mul n).mul α).le .a;let w3:Sm 602 (t*a*u):=((st.mul n).mul q).le .a;let⟨pw,g,S,R,t',g0,ew,ex,ey,et,hg,s1,s2,s3⟩:=wI hn w1 w2 w3 .a;let heq:a*(S*S)+b*(R*R)+c*(t'*t')=0:=Su .b e1 e2 ez ex ey et;show ay (jR (aC Yx (l.mono .a) rfl (d8 (as:=[x*u*v,y*a*v,t*a*u]) (aF (aa 6) (aF (aH (aH (aJ (a:=y) .D ae rfl) (dv (b':=Á) (aJ (a:=a) .A ae rfl)) (r.ok n)) (aa 5) ((r.mul n).ok α)) (aF (aH (aH (aJ (a:=t) .D ae rfl) (dv (b':=Á) (aJ (a:=a) .A ae rfl)) (st.ok n)) .E ((st.mul n).ok q)) bD))) (by change 3<=1000;decide)) pw)) ?_;rw[ew];show#[_,.inr #[B,S,R,t',rfl,hg,heq,s1,s2,s3],rfl]
def Lm{row:.L}(nz:∀x∈row,x≠0):q∈nD row↔q=2\/(aT q=Á/\∃a∈row,q∣a):=by
 unfold nD;rw[gJ];unfold yV;rw[ě,agV];show aib ?_;constructor
 .rintro⟨a,ha,d⟩;let h1:1<=(a.natAbs:Int):=by let:=nz a ha;lia
  let⟨b,c⟩:=(gG h1).mp d;show#[b,a,ha,aet.mp c]
 .rintro⟨b,a,ha,c⟩;let h1:1<=(a.natAbs:Int):=by let:=nz a ha;lia
  show#[a,ha,(gG h1).mpr #[b,aet.mpr c]]
def SR{m w:Int}(ha:a≠0)(c:b≠0)(l:a.natAbs<1073741824)(o:b.natAbs<1073741824)(f:Tame (-a*b).natAbs)(h:w≠0)(e:-a*b=m*(w*w))(n:m.natAbs<1073741824):K0 (-a) b:=by
 let d:-a*b≠0:=ä .b c;let k:m≠0:=λz=>d (by rw[e,z,ag5]);let⟨A,u,g,j,i,ek⟩:=AD d f;show#[.b,c,by unfold Sm;lia,by unfold Sm;lia,f,?_];change(Gf (-a*b,1)).1.natAbs<_;rw[g];let:=Nx j i k h (ek.symm.trans e);change A.natAbs<_;lia
def S8(h:∀x∈[a,b,c],x≠0/\x.natAbs<1073741824)(i:K0 (-a) b)(g:K0 (-a) c):Tw [a,b,c]:=by
 show#[?_,rfl,#[by change 3<=100;decide,λk f=>by let:=h k f;lia,?_],i,g]
 .unfold bh;rw[ado (by change 1<=3/\3<=8;decide),afW];show aeV.mpr λx d=>by unfold rq;show ado (h x d)
 .let e:∀x∈[a,b,c],(nN (x.natAbs:Int)).length<=19:=λx d=>by
   let:=h x d;show Gz .b .b
  let j:=e a .c;let m:=e b .c;let l:=e c .c;unfold yV;simp only[ϡ,List.flatMap_nil,ŭ,ų,ą,List.length_nil];lia
abbrev rA:=List (Int⊕(Int×Int))
noncomputable instance:DecidableEq (Int⊕(Int×Int)):=λa b=>match a,b with
 |.inl x,.inl y=>decidable_of_iff (x=y) #[λh=>by rw[h],λh=>Ŵ h]
 |.inr x,.inr y=>decidable_of_iff (x=y) #[λh=>by rw[h],λh=>agH h]
 |.inl _,.inr _=>isFalse λh=>by cases h
 |.inr _,.inl _=>isFalse λh=>by cases h
def Ut(c:Int⊕(Int×Int))(cs:rA):Bool:=cs.any λd=>decide (d=c)
def qd{c:Int⊕(Int×Int)}{cs:rA}:Ut c cs=Á↔c∈cs:=by
 unfold Ut;rw[ahM];constructor
 .rintro⟨d,a,e⟩;rwa[<-ad0 e]
 .intro h;show#[c,h,ado rfl]
def Ia(k:Int)(ps:.L):rA:=ps.map (fh k)
def WS(a b:Int⊕(Int×Int))(p:Int):Prop:=p∈P7/\∃m n:Int,m≠0/\n≠0/\a=fh m p/\b=fh n p
def PJ{n:Int}(hp:aT p=Á)(b:n≠0):Sm 4 (cls n p).2:=by
 let⟨_,h2,a⟩:=lD hp b;by_cases z:p=2
 .let:=h2 z;simp only[ě,ğ,adM] at this;unfold Sm;omega
 .let:=a z;unfold Sm;omega
def oU(a b:Int⊕(Int×Int))(p:Int)(hp:WS a b p):⇑Body i9 "class_of_product" eW f kk [.val Â a,.val Â b,.val Â p] (RT Á (ui a b p)):=by
 intro j A outer s H E o;let⟨hp,m,n,k,l,rfl,rfl⟩:=hp;obtain rfl|⟨i,pp,_⟩:=fI hp
 .let g:fh m 0=č (if 0<m then 1 else -1):=ac6 rfl;let d:fh n 0=č (if 0<n then 1 else -1):=ac6 rfl;rw[g,d];let e:Sm 1 (if 0<m then (1:Int) else -1):=by unfold Sm;split<;>decide
  let h:Sm 1 (if 0<n then (1:Int) else -1):=by unfold Sm;split<;>decide
  generalize (if 0<m then (1:Int) else -1)=x at *;generalize (if 0<n then (1:Int) else -1)=y at *;show aQ (aD aO .C ae) (λ_=>?_) (λc=>absurd c .a);show ay (O5 (β:=Int×Int) (aH (OP (β:=Int×Int) (a:=x) .A) (OP (β:=Int×Int) (a:=y) .B) (e.ok h))) rfl
 .let g:fh m p=õ (cls m p):=ac2 i;let d:fh n p=õ (cls n p):=ac2 i;let e:=PJ pp k;let h:=PJ pp l;rw[g,d];generalize cls m p=u at *;generalize cls n p=v at *;show aQ (aD aO .C ae) (λc=>absurd ↑c i) (λ_=>?_);show ao 3 hX.nd (aH (aX (yH (M:=Int) (a:=u) .A)) (aX (yH (M:=Int) (a:=v) .B)) (e.ok h)) ?_;by_cases z:p=2
  .show ay (Je (M:=Int) (bj (bg (bG (aV (yH (M:=Int) (a:=u) .A)) (aV (yH (M:=Int) (a:=v) .B))) ae .a) (ko (aD aO .C ae) (λ_=>bg .D ae .a) (λ_=>aa 3)))) ?_;change Bd.val _ _=Bd.val _ (õ (cg u v p));unfold cg;rw[ac6 z,ac6 (ado z),aem _ .a,aem _ .a];rfl
  .show ay (Je (M:=Int) (bj (bg (bG (aV (yH (M:=Int) (a:=u) .A)) (aV (yH (M:=Int) (a:=v) .B))) ae .a) (ko (aD aO .C ae) (λ_=>bg .D ae .a) (λ_=>aa 3)))) ?_;change Bd.val _ _=Bd.val _ (õ (cg u v p));unfold cg;rw[ac2 z,ac2 (by rw[adF z];decide),aem _ .a];rfl
def TF(h:Q6[i]?=À p):p=Q.Q6.getD i 1/\i<6/\0<=p/\p<=13:=by
 let hi:i<6:=(adk.mp h).1;let e:p=Q.Q6.getD i 1:=by rw[ċ,h];rfl
 let m:p∈Q6:=Ĭ h;simp only[Q6,ě,ğ,adM] at m;show#[e,hi,.b,.b]
def m_(m:AN K mg "SMALL_PLACES" [0,2,3,5,7,11,13]):⇑Body dX "small_free_numbers" cU f kk [] (zx Á (fun(n:.L)=>n.Perm (cD 6))):=by
 intro g A outer s H E t;show ao 0 cz.nd (d8 (as:=[(1:Int),-1]) (b:=Á) (aF ae (aF (dU ae) bD)) (aej rfl)) ?_;show qI (as:=Q6) (λi U=>∃d,i<=6/\U=[À (.val Á (cD i)),d]) (bW 1 cz.nd) (Ld (EM (yg rfl m) ae .a .a)) #[none,.a,rfl] ?_ ?_
 .rintro i p U' hp ⟨d,e,rfl⟩;let⟨ep,hi,u,l⟩:=TF hp;let r:=Oc i e;let c:=SA i e
  show ao 0 cz.nd (lj (a':=cD (i+1)) (FJ .A (dg (b':=Á) (f:=λk:Int=>k*p) ["k"] [1] (bH (af cU) dX rfl rfl .d) (bA .A) (bp 0) (λC s H fp=>cI 0 ["k","p"]) a8 (λj k o C s H fp=>by
   let:=c k (Ĭ o)
   show aH .A .B ((by unfold Sm;lia:Sm 15 k).ok (by unfold Sm;lia:Sm 4 p))) .b) (by rw[ą];lia)) (by rw[ep];rfl)) ?_
  show aN #[_,.b,rfl]
 .rintro U' ⟨d,_,rfl⟩;let q:=Q.yB.1;show kR (Kc rfl B.sorted rfl B.abs .A (by kernel_rfl)) λa h=>#[a,h,rfl]
def BH(h:p∈P7):p=0\/(2<=p/\p<2^62):=by
 simp only[P7,ě,ğ,adM] at h;lia
abbrev aco(P w K mg base):=aG P w K mg base 3 "class_at" ["k","p"] (bw K (λk p=>k≠0/\(p=0\/(2<=p/\p<2^62))) Á wG)
def Au(b:⇑aco)(k:Int)(ps:.L)(d:k≠0)(e:ps=P7):⇑Body kO "classes_of" iE f 3 [.val Â k,.val Â ps] (RT Á (Ia k ps)):=by
 intro a A outer s H E c;subst e;show ay (dg (b':=Á) (f:=fh k) ["p"] [0] (bH (af iE) kO rfl rfl .d) (bA .B) (bp 0) (λC s H fp=>cI 0 ["p","k"]) a8 (λj p hp C s H fp=>av b (c.mono .a) rfl .B .A #[d,BH (Ĭ hp)]) .a) rfl
def MQ(a:List rA):Prop:=a.length=7/\(∀cs∈a,cs.length<=100)/\∀j,j<7->∀c∈a.getD j [],∃n:Int,n≠0/\c=fh n (Q.P7.getD j 0)
def CA(k:Int)(ps:.L)(a:List rA):List rA:=(ps.zip a).map λu=>u.2.map λc=>ui (fh k u.1) c u.1
def QF{a:List rA}{u:Int×rA}(c:a.length=7)(h:(Q.P7.zip a)[i]?=À u):i<7/\u.1=Q.P7.getD i 0/\u.2=a.getD i []/\u.1∈P7/\u.2∈a:=by
 let hi:i<(Q.P7.zip a).length:=(adk.mp h).1;rw[ϐ,c] at hi;let b:i<7:=by let:Q.P7.length=7:=rfl;lia
 let h1:P7[i]?=À u.1:=by let:=congrArg (Ι Prod.fst) h;rw[<-Ĵ,List.map_fst_zip (by rw[c];decide)] at this;show this
 let h2:a[i]?=À u.2:=by let:=congrArg (Ι Θ) h;rw[<-Ĵ,List.map_snd_zip (by rw[c];decide)] at this;show this
 show#[b,by rw[ċ,h1];rfl,by rw[ċ,h2];rfl,Ĭ h1,Ĭ h2]
def sS(I:⇑aco)(J:⇑aG 1 "class_of_product" ["one","other","p"] (tZ K WS Á ui))(k:Int)(ps:.L)(b:List rA)(x:k≠0)(e:ps=P7)(G:MQ b):⇑Body gq "wishes_without" eh f 3 [.val Â k,.val Â ps,.val Â b] (RT Á (CA k ps b)):=by
 intro F A outer s H E r;subst e;let⟨L,d,D⟩:=G;show O1 3 rA dH.nd ?_;show qI (as:=Q.P7.zip b) (λi U=>∃h m l,U=[À (.val Â k),À (.val Â P7),À (.val Â b),À (.own Á (((Q.P7.zip b).take i).map λu=>u.2.map λc=>ui (fh k u.1) c u.1)),h,m,l]) (Fp 4 5 dH.nd) (Am rfl B.zip .B .C) #[none,none,none,rfl] ?_ ?_
 .rintro i u U' t ⟨h,m,l,rfl⟩;let⟨hi,e1,e2,o,y⟩:=QF L t;show ao 6 dH.nd (av I (r.mono .a) rfl .A (aa (a:=u.1) 4) #[x,BH o]) ?_;let v:=d _ y;show qQ 3 (a:=u.2.map λc=>ui (fh k u.1) c u.1) rfl (dg (b':=Á) (f:=λc=>ui (fh k u.1) c u.1) ["wish"] [6,4] (bH (af eh) gq rfl rfl .d) (bA (aa (a:=u.2) 5)) (bp 0) (λC s H fp=>cI 0 ["wish","own","p"]) a8 (λj c g C s H fp=>?_) .b) ?_ ?_
  .let p:c∈u.2:=Ĭ g;rw[e2] at p;let⟨n,z,q⟩:=D i hi c p;rw[<-e1] at q;show cP J (r.mono .a) rfl .B .A .C #[o,k,n,x,z,rfl,q]
  .rw[ą,ϑ];lia
  .show aN #[À (.val Â u.1),À (.val Â u.2),À (.val Á (wG k u.1)),?_];rw[aeT,t,Option.toList_some,afE];rfl
 .rintro U' ⟨h,m,l,rfl⟩;show fF 3 rfl ?_;rw[ŷ];show ay .D rfl
noncomputable def Mu(cl:rA)(a:List rA):Bool:=(cl.zip a).all λu=>Ut u.1 u.2
def Bf(cl:rA)(b:List rA):⇑Body tX "are_among" m9 f kk [.val Â cl,.val Â b] (RT Á (Mu cl b)):=by
 intro m A outer s H E o;show qI (as:=cl.zip b) (λi U=>(∀u∈(cl.zip b).take i,u.1∈u.2)/\∃j k,U=[À (.val Â cl),À (.val Â b),j,k]) (Fp 2 3 pD.nd) (Am rfl B.zip .A .B) #[(λu d=>by rw[ah5] at d;cases d),none,none,rfl] ?_ ?_
 .rintro i u U' d ⟨g,j,k,rfl⟩;show aQ (aD (MI (a:=u.1) (as:=u.2) (c:=Ut u.1 u.2) (Bx o) .a qd) .C .D) (λh=>?_) (λh=>?_)
  .let p:Ut u.1 u.2=Â:=by simpa using h
   let e:Mu cl b=Â:=by
    unfold Mu;rw[List.all_eq_false];show#[u,Ĭ d,by rw[p];decide]
   rw[e];show ay xI rfl
  .let n:u.1∈u.2:=qd.mp ↑h;show aN #[λx l=>?_,_,_,rfl];rw[aeT,d] at l;obtain w|w:=adQ.mp l
   .show g x w
   .rwa[adv.mp w]
 .rintro U' ⟨g,j,k,rfl⟩
  let e:Mu cl b=Á:=by
   unfold Mu;rw[aeV];intro u d;rw[ŷ] at g;show qd.mpr (g u d)
  rw[e];show ay xI rfl
def Tu(a:List rA)(n:Int):Prop:=∃k q:Int,n=k*q/\k∈cD 6/\(q=1\/(aT q=Á/\17<=q/\q<=8089))/\∀j,j<7->fh n (Q.P7.getD j 0)∈a.getD j []
def U8{f:Int}{a:List rA}(d:a.length=7)(b:j<7):(CA f P7 a).getD j []=(a.getD j []).map λc=>ui (fh f (Q.P7.getD j 0)) c (Q.P7.getD j 0):=by
 let h1:P7[j]?=À (Q.P7.getD j 0):=by rw[ċ,Đ (show j<Q.P7.length from b)];rfl
 let h2:a[j]?=À (a.getD j []):=by rw[ċ,Đ (.b:j<a.length)];rfl
 unfold CA;rw[ċ,Ĵ,(afb (z:=(Q.P7.getD j 0,a.getD j []))).mpr #[h1,h2]];rfl
def JD{f k:Int}{a:List rA}(o:a.length=7)(p:MQ a)(g:f≠0)(i:k≠0):Mu (Ia k P7) (CA f P7 a)=Á↔∀j,j<7->fh (k*f) (Q.P7.getD j 0)∈a.getD j []:=by
 let lw:(CA f P7 a).length=7:=by unfold CA;rw[ą,ϐ,o];rfl
 let m:∀{j:Nat},j<7->Q.P7.getD j 0∈P7:=λ{j} b=>by rw[ċ,Đ (show j<Q.P7.length from b)];show aeX _
 let key:∀j,j<7->(fh k (Q.P7.getD j 0)∈(CA f P7 a).getD j []↔fh (k*f) (Q.P7.getD j 0)∈a.getD j []):=λj b=>by
  rw[U8 o b,adn];constructor
  .rintro⟨c,l,e⟩;let⟨n,s,rfl⟩:=p.2.2 j b c l;rwa[(Cw (m b) g i s).mp e.symm]
  .intro q;show#[_,q,?_];show((Cw (m b) g i (ä i g)).mpr rfl).symm
 unfold Mu Ia;rw[aeV];constructor
 .intro h j b;rw[<-key j b]
  let h1:(Q.P7.map (fh k))[j]?=À (fh k (Q.P7.getD j 0)):=by
   rw[Ĵ,Đ (show j<Q.P7.length from b),ċ,Đ (show j<Q.P7.length from b)];rfl
  let h2:(CA f P7 a)[j]?=À ((CA f P7 a).getD j []):=by rw[ċ,Đ .b];rfl
  let:=h (fh k (Q.P7.getD j 0),(CA f P7 a).getD j []) (Ĭ ((afb (z:=(fh k (Q.P7.getD j 0),(CA f P7 a).getD j []))).mpr #[h1,h2]));show qd.mp this
 .intro h u r;let⟨j,b⟩:=agc.mp r;let hz:=(afb (z:=u)).mp b;let d:j<7:=by let:=(adk.mp hz.2).1;lia
  let e1:u.1=fh k (Q.P7.getD j 0):=by
   let:=hz.1;rw[Ĵ,Đ (show j<Q.P7.length from d)] at this;rw[ċ,Đ (show j<Q.P7.length from d)];show(ĳ this).symm
  let e2:u.2=(CA f P7 a).getD j []:=by rw[ċ,hz.2];rfl
  show qd.mpr ?_;rw[e1,e2,key j d];show h j d
def Uo{b:List rA}(s:MQ b)(d:∀j,j<7->b.getD j []≠[]):∃k q,k∈cD 6/\aT q=Á/\17<=q/\q<=8089/\∀j,j<7->fh (k*q) (Q.P7.getD j 0)∈b.getD j []:=by
 let ch:∀j,j<7->∃n:Int,n≠0/\fh n (Q.P7.getD j 0)∈b.getD j []:=λj a=>by
  let⟨c,f⟩:=List.exists_mem_of_ne_nil _ (d j a);let⟨n,e,rfl⟩:=s.2.2 j a c f;show#[n,e,f]
 let⟨e,y,D⟩:=ch 0 .a;let⟨t,x,b1⟩:=ch 1 .a;let⟨i,E,b2⟩:=ch 2 .a;let⟨m,C,b3⟩:=ch 3 .a;let⟨u,z,b4⟩:=ch 4 .a;let⟨r,A,b5⟩:=ch 5 .a;let⟨o,B,F⟩:=ch 6 .a
 let⟨k,q,v,l,h,w,p⟩:=Iw (ns:=[e,t,i,m,u,r,o]) rfl (λn g=>by
  simp only[ě,ğ,adM] at g
  obtain rfl|rfl|rfl|rfl|rfl|rfl|rfl:=g<;>assumption)
 show#[k,q,v,l,h,w,λj a=>?_];rw[p j a];let:j=0\/j=1\/j=2\/j=3\/j=4\/j=5\/j=6:=by lia
 obtain rfl|rfl|rfl|rfl|rfl|rfl|rfl:=this<;>assumption
abbrev acs(P w K mg base):=aG P w K mg base 1 "are_among" ["classes","wishes"] (bw K (fun(_:rA) (_:List rA)=>True) Á Mu)
abbrev acr(P w K mg base):=aG P w K mg base 4 "wishes_without" ["k","places","wishes"] (tZ K (fun(k:Int) (ps:.L) (a:List rA)=>k≠0/\ps=P7/\MQ a) Á CA)
abbrev acq(P w K mg base):=aG P w K mg base 4 "classes_of" ["k","places"] (bw K (fun(k:Int) (ps:.L)=>k≠0/\ps=P7) Á Ia)
abbrev acp(P w K mg base):=aG P w K mg base 1 "small_free_numbers" [] (NO K Á (fun(a:.L)=>a.Perm (cD 6)))
def vX(V:AN K mg "SMALL_PLACES" [0,2,3,5,7,11,13])(YL:⇑ack)(S:⇑acp)(R:⇑acq)(X:⇑acr)(Z:⇑acs)
  (ps:.L) (g:List rA) (e:ps=P7) (r:MQ g) (y:∀j,j<7->g.getD j []≠[]):⇑Body iQ "number_among" fP f 4 [.val Â ps,.val Â g] (zx Á (Tu g)):=by
 intro Γ A outer s H E m;subst e;let J:=r.1;let⟨I,n,o,p1,p2,p3,x⟩:=Uo r y;let F:=yB;show mi 2 bZ.nd (Kx S (m.mono .a) rfl) ?_;intro b hp;let ml:b.length=128:=by rw[hp.length_eq];show F.1
 let α:∀k∈b,k≠0/\-30030<=k/\k<=30030:=λk c=>by
  let:=F.2 k (hp.mem_iff.mp c);show#[this.1,this.2.1,this.2.2.1]
 show J4 4 bZ.nd (b':=Á) (f:=λk=>Ia k P7) ["k"] [0] (bH (af fP) iQ rfl rfl .d) (bA .C) (bp 0) (λC s H fp=>cI 0 ["k","places"]) a8 (λj k c C s H fp=>av R (m.mono .a) rfl .A .B #[(α k (Ĭ c)).1,rfl]) .b ?_;show ao 5 bZ.nd ae ?_
 let D:pf (13+1)=17:=by
  let h1:=pT (k:=14) (p:=17) (vZ 17 .a) .a .a .a .a;let h2:=zM (k:=14) .a .a;let L:=qE (k:=14) .a
  let:pf 14≠15:=λz=>by
   rw[z] at L;let:=(iD L (d:=3) .a .a);lia
  change pf 14=17;lia
 let hPB:PB=1070000011:=rfl
 let ho:n%2=1:=by
  obtain z|z:=Q.cQ.mp p1
  .lia
  .show z.2.1
 show cR (ι:=Int) (λq U=>∃h O l,U=[À (.val Â P7),À (.val Â g),À (.val Á b),h,À (.val Á (b.map λk=>Ia k P7)),À (.val Á q),O,l]/\(q=1\/(aT q=Á/\17<=q))/\q<=n) (λq=>↥(n-q)) 1 #[none,none,none,rfl,.inl rfl,.b] ?_;rintro q U' ⟨h,O,l,rfl,N,T⟩;let q1:1<=q:=by lia
 show#[Á,eH xI,λ_=>?_,λz=>nomatch z];show ao 6 bZ.nd (cP X (m.mono .a) rfl (aa 5) .A .B #[.b,rfl,r]) ?_;show qI (as:=b.zip (b.map λk=>Ia k P7)) (λi U=>(∀k∈b.take i,Mu (Ia k P7) (CA q P7 g)=Â)/\∃h l,U=[À (.val Â P7),À (.val Â g),À (.val Á b),h,À (.val Á (b.map λk=>Ia k P7)),À (.val Á q),À (.val Á (CA q P7 g)),l]) (Fp 3 7 bZ.nd) (Am rfl B.zip .C .E) #[(λk c=>by rw[ah5] at c;cases c),h,l,rfl] ?_ ?_
 .rintro i u U' W ⟨v,h,l,rfl⟩;let hz:=(afb (z:=u)).mp W;let mk:=Ĭ hz.1;let⟨k1,k2,k3⟩:=α _ mk
  let e2:u.2=Ia u.1 P7:=by
   let:=hz.2;rw[Ĵ,hz.1] at this;show(ĳ this).symm
  show aQ (eH (av Z (m.mono .a) rfl (aa (a:=u.2) 7) (aa 6) É)) (λt=>?_) (λt=>?_)
  .rw[e2] at t;let hj:=(JD J r (.b:q≠0) k1).mp t;show ay (aH (aa (a:=u.1) 3) (aa 5) ((by unfold Sm;lia:Sm 15 u.1).ok (by unfold Sm;lia:Sm 13 q))) #[u.1*q,#[u.1,q,rfl,hp.mem_iff.mp mk,?_,hj],rfl];obtain z|z:=N
   .show .inl z
   .show .inr #[z.1,z.2,.b]
  .show aN #[λk c=>?_,_,_,rfl];rw[aeT,hz.1] at c;obtain w|w:=adQ.mp c
   .show v k w
   .rw[adv.mp w,<-e2];show t
 .rintro U' ⟨v,h,l,rfl⟩;let σ:(b.zip (b.map λk=>Ia k P7)).length=b.length:=by rw[ϐ,ą,Nat.min_self]
  rw[σ,ŷ] at v
  let G:q≠n:=λz=>by
   let:=v I (hp.mem_iff.mpr o);rw[z,(JD J r (.b:n≠0) (F.2 I o).1).mpr x] at this;cases this
  show ao 5 bZ.nd (aC YL (m.mono .a) rfl (UO rfl rfl B.max (aa 5) (wA (a:=13) (yg rfl V) ae rfl)) #[by split<;>lia,by split<;>lia]) ?_;obtain z|⟨z1,z2⟩:=N
  .let e:(if (13:Int)>q then (13:Int) else q)=13:=ac6 .b;rw[e,D];show aN #[17,#[_,_,_,rfl,.inr #[vZ 17 .a,.a],p2],.b]
  .let e:(if (13:Int)>q then (13:Int) else q)=q:=ac2 .b;rw[e];let h1:=pT (k:=q+1) p1 .b ho .b .b;let h2:=zM (k:=q+1) .b .b;show aN #[_,#[_,_,_,rfl,.inr #[qE .b,.b],h1],.b]
def Lk(hp:p∈P7)(c:p≠0)(h2:p≠2):NR p/\Sm 4 p/\Sm 4 (pz p):=by
 let⟨_,pp,_⟩:=(fI hp).resolve_left c;let a:=vM pp h2;let⟨g,e,i,d⟩:=Pk pp h2;let⟨f,h,b⟩:=xj a;let:¬g<pz p:=λz=>b g e z d;simp only[P7,ě,ğ,adM] at hp;show#[a,?_,?_]
 .unfold Sm;lia
 .unfold Sm;lia
def zk(g:AN K mg "AT_NOUGHT" [1,-1])(d:AN K mg "AT_TWO" [1,3,5,7,2,6,10,14])(j:⇑ab7)(p:Int)(hp:p∈P7):⇑Body qM "samples_at" k8 f 3 [.val Â p] (RT Á (km p)):=by
 intro k A outer s H E i;unfold km;show aQ (aD aO .A ae) (λa=>?_) (λa=>?_)
 .rw[ac6 (ad0 a)];show ay (zL rfl B.list (yg rfl g)) rfl
 let c:p≠0:=aes a;rw[ac2 c];show aQ (aD aO .A ae) (λa=>?_) (λa=>?_)
 .rw[ac6 (ad0 a)];show ay (zL rfl B.list (yg rfl d)) rfl
 let h2:p≠2:=aes a;rw[ac2 h2];let⟨h,l,e⟩:=Lk hp c h2;let:=(BH hp).resolve_left c;show ao 1 ou.nd (aC j (i.mono .a) rfl .A #[h,this]) ?_;show ay (d8 (as:=[1,pz p,p,p*pz p]) (b:=Á) (aF ae (aF .B (aF (dv (b':=Á) .A) (aF (aH .A .B (l.ok e)) bD)))) (by change 4<=1000;decide)) rfl
structure W7(one other:.L)(p:Int):Prop where
 l1:one.length<=8
 l2:other.length<=8
 o1:∀a∈one,a≠0/\Sm 62 a
 o2:∀a∈other,a≠0/\Sm 62 a
 p7:p∈P7
def Ig(one other:.L)(p:Int):rA:=((km p).filter λk=>dM (one++[-k]) p&&dM (other++[k]) p).map λk=>wG k p
def BI(a b c d p:Int):Ig [a,b] [c,d] p=Pu a b c d p:=rfl
def Pr{k:Int}(hp:p∈P7)(a:k∈km p):Sm 62 k/\Sm 62 (-k):=by
 let key:Sm 20 k:=by
  by_cases b:p=0
  .subst b;unfold km at a;rw[ac6 rfl] at a;simp only[ě,ğ,adM] at a;unfold Sm;lia
  by_cases h2:p=2
  .subst h2;unfold km at a;rw[ac2 .a,ac6 rfl] at a;simp only[ě,ğ,adM] at a;unfold Sm;lia
  let⟨_,c,d⟩:=Lk hp b h2;unfold km at a;rw[ac2 b,ac2 h2] at a;simp only[ě,ğ,adM] at a;obtain rfl|rfl|rfl|rfl:=a
  .change(1:Int).natAbs<2^20;decide
  .show d.le .a
  .show c.le .a
  .show(c.mul d).le .a
 show#[key.le .a,by let:Sm 62 k:=key.le .a;unfold Sm at *;lia]
def si(h:⇑aco)(m:⇑aG 4 "samples_at" ["p"] (cj K (fun(p:Int)=>p∈P7) Á km))(d:⇑aG 7 "have_zero" ["numbers","p"] (bw K Tv Á dM))(one other:.L)(p:Int)(hp:W7 one other p):
  Body P w K mg base gp "shared_classes" eB f 7 [.val Â one,.val Â other,.val Â p] (RT Á (Ig one other p)):=by
 intro e A outer s H E c;let b:=hp.p7
 let ok:∀{l:.L} {k:Int},(∀a∈l,a≠0/\Sm 62 a)->k≠0->Sm 62 k->Tv (l++[k]) p:=λ{l k} j n g=>#[by rw[ų];show Nat.le_add_left _ _,λa ha=>by
  obtain ha|ha:=adQ.mp ha
  .show j a ha
  .rw[adv.mp ha];show#[n,g],BH b]
 show ay (nL (f:=λk:Int=>wG k p) (p:=λk=>dM (one++[-k]) p&&dM (other++[k]) p) (b':=Á) ["k"] [0,1,2] (bH (af eB) gp rfl rfl .d) (bA (aC m (c.mono .a) rfl .C b)) (bp 0) (λC s H fp=>cI 0 ["k","one","other","p"]) a8 (λi k hi C s H fp=>sR (TW.t (iX (eH (av d (c.mono .a) rfl (tj .B (d8 (aF (dU .A) bD) .c) ?_) .D ?_)) λ_=>(jq (eH (av d (c.mono .a) rfl (tj .C (d8 (aF .A bD) .c) ?_) .D ?_)))))) (λi k hi _ C s H fp=>av h (c.mono .a) rfl .A .D #[yq b k (Ĭ hi),BH b]) (by let:=L5 p;lia)) rfl
 .let:=hp.l1;rw[agW];lia
 .let:=yq b k (Ĭ hi);show ok hp.o1 .b (Pr b (Ĭ hi)).2
 .let:=hp.l2;rw[agW];lia
 .show ok hp.o2 (yq b k (Ĭ hi)) (Pr b (Ĭ hi)).1
structure V1(one other:.L):Prop where
 l1:one.length<=8
 l2:other.length<=8
 o1:∀a∈one,a≠0/\Sm 62 a
 o2:∀a∈other,a≠0/\Sm 62 a
 po:HQ (one++other)
 pl:(nD (one++other)).length<=50
 p7:∀q∈nD (one++other),q∈P7
 ne:∀p∈P7,Ig one other p≠[]
def CI{M:Type}(g:Int->List M)(h:j<7):(P7.map g).getD j []=g (P7.getD j 0):=by
 rw[ċ,Ĵ,ċ,Đ (show j<P7.length from h)];rfl
def Pa(a:j<7):P7.getD j 0∈P7:=by
 rw[ċ,Đ (show j<P7.length from a)];show aeX _
def Us(one other:.L):MQ (P7.map λp=>Ig one other p):=by
 show#[rfl,λcs b=>?_,λj d c a=>?_]
 .let⟨p,_,rfl⟩:=adn.mp b;unfold Ig;rw[ą];show ĭ (agX ..) (ĭ (L5 p) .a)
 .rw[CI _ d] at a;unfold Ig at a;let⟨k,e,rfl⟩:=adn.mp a;show#[k,yq (Pa d) k (aeb.mp e).1,rfl]
def HF(m:AN K mg "SMALL_PLACES" [0,2,3,5,7,11,13])(g:⇑acg)(q:⇑aG 8 "shared_classes" ["one","other","p"] (tZ K W7 Á Ig))(l:⇑aG 5 "number_among" ["places","wishes"] (kU K (fun(ps:.L) (c:List rA)=>ps=P7/\MQ c/\∀j,j<7->c.getD j []≠[]) Á (λ_ c (n:Int)=>Tu c n)))(one other:.L)(hp:V1 one other):
  Body P w K mg base tq "meeting" nV f 8 [.val Â one,.val Â other] (zx Á (Tu (P7.map λp=>Ig one other p))):=by
 intro k A outer s H E d;let h:=hp.l1;let r:=hp.l2;let pl:=hp.pl
 let b:sset ([0,2,3,5,7,11,13]++nD (one++other))=P7:=xv (iW _) .a λa=>by
  rw[gJ,adQ];show#[λz=>z.elim id (hp.p7 a),.inl]
 show ao 2 w_.nd (lj (a':=P7) (yQ rfl rfl B.sorted rfl B.set (tj (zL rfl B.list (yg rfl m)) (aC g (d.mono .a) rfl (tj .A .B .b) hp.po) (by change 7+_<=1000;lia)) (by rw[ų];change 7+_<64;lia)) b) ?_;show kR (gK l (d.mono .a) rfl .C (dg (b':=Á) (f:=λp=>Ig one other p) ["p"] [0,1] (bH (af nV) tq rfl rfl .d) (bA .C) (bp 0) (λC s H fp=>cI 0 ["p","one","other"]) a8 (λi p hi C s H fp=>cP q (d.mono .a) rfl .B .C .A #[h,r,hp.o1,hp.o2,Ĭ hi]) .a) #[rfl,Us one other,λj e=>by rw[CI _ e];show hp.ne _ (Pa e)]) λt o=>#[_,o,rfl]
def lf:.L->Int->Int
 |[],x=>x
 |p::ps,x=>lf ps (a9 x p).2
theorem Fm(p:Int):∀(ps:.L) (x:Int),lf (ps++[p]) x=(a9 (lf ps x) p).2
 |[],x=>rfl
 |q::ps,x=>Fm p ps _
def Nu{ps:.L}(h:ps[i]?=À p):lf (ps.take (i+1)) x=(a9 (lf (ps.take i) x) p).2:=by
 rw[aeT,h];show Fm p _ x
def M0{k:Int}(a:2<=d)(c:0<k):0<(a9 k d).2/\(a9 k d).2<=k:=by
 let⟨h1,h2,e⟩:=fE a (.b:k≠0);let hp:(0:Int)<d^↥(a9 k d).1:=ŕ .b;generalize (a9 k d).2=l at *;generalize d^↥(a9 k d).1=t at *
 let b:0<l:=by
  apply ģ;intro f;let:l*t<=0:=aeo .b .b;lia
 let:l*1<=l*t:=Ł .b .b;lia
theorem zh:∀(ps:.L) (x:Int),(∀p,p∈ps->2<=p)->0<x->0<lf ps x/\lf ps x<=x
 |[],x,_,h=>#[h,ń x]
 |p::ps,x,hp,h=>by
  let a:=M0 (hp p (Ġ ..)) h;let b:=zh ps (a9 x p).2 (λq c=>hp q (Ě _ c)) a.1;show#[b.1,ahJ b.2 a.2]
noncomputable def SP:.L:=[2,3,5,7,11,13]
def AZ(k:Int):Bool:=rq k&&decide (rt (lf SP k.natAbs)*rt (lf SP k.natAbs)=lf SP k.natAbs)
def JA:∀p,p∈SP->2<=p:=.a
def I_:∀p,p∈SP->2<=p/\p<100:=.a
def PV{k:Int}(h:rq k=Á)(i:Nat):0<lf (SP.take i) k.natAbs/\lf (SP.take i) k.natAbs<1073741824:=by
 unfold rq at h;let h':k≠0/\k.natAbs<1073741824:=by simpa using h
 let:=zh (SP.take i) (k.natAbs:Int) (λp hp=>JA p (afl hp)) .b;lia
def DV(n:AN K mg "SMALL_PLACES" [0,2,3,5,7,11,13])(d:⇑acb)(l:⇑ab0)
  (j:⇑ab2) (x:Int):⇑Body wV "is_small" o9 f 2 [.val Â x] (RT Á (AZ x)):=by
 intro k A outer s H E c;let o:∀i:Int,(if i<0 then -i else i)=(i.natAbs:Int):=λi=>by split<;>omega
 show aQ (fW (eH (aC d (c.mono .a) rfl .A É))) (λb=>?_) (λb=>?_)
 .let e:AZ x=Â:=by
   unfold AZ;rw[(by simpa using b:rq x=Â)];rfl
  rw[e];show ay xI rfl
 let hi:rq x=Á:=by simpa using b
 show ao 1 jv.nd (iR rfl B.abs .A) ?_;rw[o];show qI (as:=SP) (λi U=>∃r,U=[À (.val Â x),À (.val Á (lf (SP.take i) x.natAbs)),r]) (bW 2 jv.nd) (Ld (EM (yg rfl n) ae .a .a)) #[none,rfl] ?_ ?_
 .rintro i a U' ha ⟨r,rfl⟩;let hz:=PV hi i;let hp:=I_ a (Ĭ ha);show ao 1 jv.nd (aX (av l (c.mono .a) rfl .B .C #[.f,hp.1,Sm.le (m:=62) (by unfold Sm;omega) .a])) ?_;show aN ?_;dsimp only;rw[Nu ha];show#[_,rfl]
 .rintro U' ⟨r,rfl⟩;let hz:=PV hi 6;show ay (WM (aC j (c.mono .a) rfl .B (Sm.le (m:=62) (by unfold Sm;change(lf (SP.take 6) x.natAbs).natAbs<_;omega) .a)) λ_ _ _ _ h=>nomatch h) ?_;change Bd.val _ _=Bd.val _ _;congr 1;unfold AZ;rw[hi,afW];change(!(AO (lf SP x.natAbs)).isNone)=_;let g:0<lf SP x.natAbs:=hz.1;unfold AO;rw[ac2 .f];split
  .rename_i h;rw[ado h];rfl
  .rename_i h;rw[adF h];rfl
open Q (Fr)
noncomputable def zQ(l z:.L):Nat->Int
 |0=>0
 |i+1=>zQ l z i+l.getD i 0*(z.getD i 0*z.getD i 0)
def Ko{p:Int->Bool}(h:∃x∈l,p x=Á):∃i:Nat,i<l.length/\p (l.getD i 0)=Á/\tP (((GG l).filter λu=>p u.2).map (·.1)) 0=À (i:Int):=by
 let⟨x,f,px⟩:=h;let⟨j,e⟩:=agc.mp f;let k:=(adk.mp e).1;let c:((j:Int),x)∈(GG l).filter λu=>p u.2:=aeb.mpr #[Ĭ (i:=j) (by unfold GG;rw[ag7,e];rfl),px];cases a:(GG l).filter λu=>p u.2 with
 |nil=>rw[a] at c;cases c
 |cons u us =>
  let m:u∈(GG l).filter λu=>p u.2:=by rw[a];show Ġ ..
  let⟨h1,h2⟩:=aeb.mp m;let⟨i,hi⟩:=agc.mp h1;let⟨b,g⟩:=zV hi;show#[i,(adk.mp b).1,by rwa[ċ,b],?_];rw[ř,g,tD (d:=(0:Int)) .a (by rw[ŭ];lia)];rfl
def VW(l:.L)(i:Int):Prop:=∃n:Nat,i=(n:Int)/\n<l.length/\l.getD n 0≠0
def x8(l:.L)(e:l.length<=100)(h:∃x∈l,x≠0):⇑Body jS "first_place" gD f kk [.val Â l] (zx Á (VW l)):=by
 intro b A outer s H E g;let⟨i,hi,pi,c⟩:=Ko (l:=l) (p:=λk=>!decide (k=0)) (by let⟨x,h1,h2⟩:=h;show#[x,h1,↑h2]);show kR (post:=VW l) (OQ (a:=(i:Int)) (aJ (nL (as:=GG l) (f:=λu:Int×Int=>u.1) (p:=λu:Int×Int=>!decide (u.2=0)) (b':=Á) ["i","k"] [] (bH (af gD) jS rfl rfl .d) (FU rfl B.enumerate .A) (Dy 0 1) (λC s H fp=>K8 0 1 ["i","k"]) yh (λa u d C s H fp=>sR (aD cw .B ae)) (λa u d _ C s H fp=>dv (b':=Á) .A) (by rw[zv];lia)) ae c) #[i,rfl,hi,↑pi]) λz hz=>#[_,hz,rfl]
def uT(u v:Fr):Prop:=(u.2≠0/\v.2≠0)/\Sm 20000 u.1/\Sm 9000 u.2/\Sm 20000 v.1/\Sm 9000 v.2/\Sm 9000 (u.2*v.2)
def M5(j:⇑ab3)(u v:Fr)(h:uT u v):⇑Body FI "times" y9 f 2 [.val Â u,.val Â v] (RT Á (aE u v)):=by
 intro g A outer s H E e;let⟨⟨h1,h2⟩,a,i,c,d,b⟩:=h;show ay (av j (e.mono .a) rfl (aH (aV .A) (aV .B) (a.ok c)) (aH (aX .A) (aX .B) (i.ok d)) #[ä h1 h2,b]) rfl
def R4(j:⇑ab3)(u v:Fr)(h:uT u v):⇑Body Le "plus" CY f 2 [.val Â u,.val Â v] (RT Á (cV u v)):=by
 intro i A outer s H E g;let⟨⟨h1,h2⟩,c,b,e,a,d⟩:=h;show ay (av j (g.mono .a) rfl (bG (aH (aV .A) (aX .B) (c.ok a)) (aH (aV .B) (aX .A) (e.ok b))) (aH (aX .A) (aX .B) (b.ok a)) #[ä h1 h2,d]) rfl
noncomputable def Qb(l:.L)(vs:List Fr):Nat->Int×Int
 |0=>(0,1)
 |k+1=>((Qb l vs k).1*(vs.getD k (0,1)).2*(vs.getD k (0,1)).2+l.getD k 0*(vs.getD k (0,1)).1*(vs.getD k (0,1)).1*(Qb l vs k).2,(Qb l vs k).2*(vs.getD k (0,1)).2*(vs.getD k (0,1)).2)
structure VL(m:Nat)(l:.L)(c:Int)(vs:List Fr):Prop where
 len:vs.length=l.length
 low:∀u∈vs,1<=u.2/\È u.1 u.2=1
 sm:∀u∈vs,Sm (m+40) u.1/\Sm (m+40) u.2
 eq:(Qb l vs l.length).1=c*(Qb l vs l.length).2
 cb:∃q:Int,1<=q/\Sm (m+40) q/\∀u∈vs,∃n,Sm (m+40) n/\u.1*q=n*u.2
def OK{s:Int}(h:x*d=y*b)(a:p*(d*d)=q*s):(p*b*b+e*x*x*q)*(d*d)=q*b*b*(s+e*(y*y)):=by
 let h2:(x*d)*(x*d)=(y*b)*(y*b):=by rw[h]
 let:(p*b*b+e*x*x*q)*(d*d)=(p*(d*d))*(b*b)+e*q*((x*d)*(x*d)):=by grind
 rw[this,a,h2];grind
theorem K1{l y:.L}{vs:List Fr}{d:Int}{n:Nat}(h:∀k,k<n->(vs.getD k (0,1)).1*d=y.getD k 0*(vs.getD k (0,1)).2):∀k,k<=n->(Qb l vs k).1*(d*d)=(Qb l vs k).2*zQ l y k
 |0,_=>by change 0*(d*d)=1*0;rw[ag5,ś]
 |k+1,a=>OK (h k .b) (K1 h k .b)
theorem LD{l m z:.L}:∀k,k<=l.length->zQ (l++m) z k=zQ l z k
 |0,_=>rfl
 |k+1,h=>by
  change zQ (l++m) z k+(l++m).getD k 0*_=zQ l z k+l.getD k 0*_;let e:(l++m).getD k 0=l.getD k 0:=by rw[ċ,aeF .b,<-ċ]
  rw[LD k .b,e]
theorem O6{l z y:.L}{t b:Int}{h:Nat}(a:∀k,y.getD k 0=t*z.getD k 0+if k=h then b else 0):∀k,zQ l y k=t*t*zQ l z k+if h<k then l.getD h 0*(2*t*z.getD h 0*b+b*b) else 0
 |0=>by rw[ac2 .b];change(0:Int)=t*t*0+0;lia
 |k+1=>by
  change zQ l y k+l.getD k 0*(y.getD k 0*y.getD k 0)=t*t*(zQ l z k+l.getD k 0*(z.getD k 0*z.getD k 0))+_;rw[O6 a k,a k];by_cases e:k=h
  .subst e;rw[ac6 rfl,ac2 .b,ac6 .b];grind
  .rw[ac2 e];by_cases g:h<k
   .rw[ac6 g,ac6 .b];grind
   .rw[ac2 g,ac2 .b];grind
structure MV(m:Nat)(l:.L)(c:Int)(z:.L):Prop where
 m7:m<=7500
 l1:1<=l.length
 l8:l.length<=8
 nz:∀a∈l,a≠0/\Sm 31 a
 cs:Sm 31 c
 len:z.length=l.length+1
 one:l5 z=1
 eq:zQ (l++[-c]) z (l.length+1)=0
 zs:∀x∈z,Sm m x
def MV.sum(h:MV m l c z):zQ l z l.length=c*(z.getD l.length 0*z.getD l.length 0):=by
 let e:zQ (l++[-c]) z l.length+(l++[-c]).getD l.length 0*(z.getD l.length 0*z.getD l.length 0)=0:=h.eq;rw[LD _ (ú _),ċ,aey (ú _),Nat.sub_self] at e;let:zQ l z l.length+-c*(z.getD l.length 0*z.getD l.length 0)=0:=e;rw[Int.neg_mul] at this;lia
def Ai{k:Nat}{g:Int->Fr}(a:k<n)(hz:n<=z.length):((z.take n).map g).getD k (0,1)=g (z.getD k 0):=by
 rw[ċ,Ĵ,ago a,ċ,Đ .b];rfl
def EU{t:Int}(a:b≠0)(c:Sm n t)(d:Sm m b):Sm n (fr t b).1/\Sm m (fr t b).2:=#[Sm.of_le (qN a) c,Sm.of_le (qr a) d]
def RF(h:MV m l c z)(f:z.getD l.length 0≠0):VL m l c ((z.take l.length).map λx=>fr x (z.getD l.length 0)):=by
 let q:=h.len;let i:z.getD l.length 0∈z:=Q.getD_mem (d:=0) .b;let o:((z.take l.length).map λx=>fr x (z.getD l.length 0)).length=l.length:=by rw[ą,ϑ];lia
 show#[o,λu e=>?_,λu e=>?_,?_,?_]
 .let⟨x,_,rfl⟩:=adn.mp e;show#[mV f,oF f]
 .let⟨x,g,rfl⟩:=adn.mp e;let⟨a,b⟩:=EU (t:=x) f (h.zs x (afl g)) (h.zs _ i);show#[a.le .b,b.le .b]
 .let:=K1 (l:=l) (y:=z) (vs:=(z.take l.length).map λx=>fr x (z.getD l.length 0)) (d:=z.getD l.length 0) (n:=l.length) (λk j=>by rw[Ai j .b];show bT _ _) l.length (ú _);rw[h.sum] at this;let p:z.getD l.length 0*z.getD l.length 0≠0:=ä f f;show ael p ?_;rw[this];grind
 .let sz:=h.zs _ i;generalize z.getD l.length 0=d at *;obtain w|w:=Int.lt_or_lt_of_ne f
  .show#[-d,.b,sz.neg.le .b,λu e=>?_];let⟨x,g,rfl⟩:=adn.mp e;show#[-x,(h.zs x (afl g)).neg.le .b,by rw[ahh,bT,Int.neg_mul]]
  .show#[d,.b,sz.le .b,λu e=>?_];let⟨x,g,rfl⟩:=adn.mp e;show#[x,(h.zs x (afl g)).le .b,bT _ _]
def Rw(h:MV m l c z)(J:z.getD l.length 0=0)(D:n<z.length)(hz:z.getD n 0≠0):
  n<l.length/\(2*l.getD n 0*z.getD n 0≠0/\Sm 9000 (2*l.getD n 0*z.getD n 0))/\(∀x∈z,uT (fr (c-l.getD n 0) (2*l.getD n 0*z.getD n 0)) (x,1)) /\
  uT (aE (fr (c-l.getD n 0) (2*l.getD n 0*z.getD n 0)) (z.getD n 0,1)) (1,1) /\
  VL m l c (((z.take l.length).map λx=>aE (fr (c-l.getD n 0) (2*l.getD n 0*z.getD n 0)) (x,1)).set n (cV (aE (fr (c-l.getD n 0) (2*l.getD n 0*z.getD n 0)) (z.getD n 0,1)) (1,1))):=by
 let V:=h.len;let ne:n≠l.length:=λe=>hz (by rwa[e]);let i:n<l.length:=by lia
 let am:=h.nz _ (Q.getD_mem (d:=0) i);let L:∀{k:Nat},k<z.length->Sm m (z.getD k 0):=λC=>h.zs _ (Q.getD_mem (d:=0) C);let A:2*l.getD n 0*z.getD n 0≠0:=ä (ä .a am.1) hz;let R:Sm 2 (2:Int):=by unfold Sm;decide
 let Γ:=h.m7;let F:Sm (m+33) (2*l.getD n 0*z.getD n 0):=((R.mul am.2).mul (L D)).le .b;let st:Sm 32 (c-l.getD n 0):=by let:=h.cs;let:=am.2;unfold Sm at *;lia
 let⟨r,o⟩:=EU A st F;let S:=mV (t:=c-l.getD n 0) A;let N:=bT (c-l.getD n 0) (2*l.getD n 0*z.getD n 0);generalize fr (c-l.getD n 0) (2*l.getD n 0*z.getD n 0)=u at *;let O:∀x∈z,uT u (x,1):=λx f=>#[#[.b,by change(1:Int)≠0;decide],r.le .a,o.le .b,(h.zs x f).le .b,by change Sm 9000 1;unfold Sm;show af2 .a,by change Sm 9000 (u.2*1);rw[Ċ];show o.le .b];let B:∀x∈z,Sm (32+m) (aE u (x,1)).1/\Sm (m+33) (aE u (x,1)).2:=λx f=>EU (t:=u.1*x) (b:=u.2*1) .b (r.mul (h.zs x f)) (by rwa[Ċ]);let fp:∀x,1<=(aE u (x,1)).2:=λx=>mV (t:=u.1*x) (b:=u.2*1) .b
 let fc:∀x,(aE u (x,1)).1*u.2=u.1*x*(aE u (x,1)).2:=λx=>by
  let:=bT (u.1*x) (u.2*1);rw[Ċ] at this;change(fr (u.1*x) (u.2*1)).1*u.2=u.1*x*(fr (u.1*x) (u.2*1)).2;rw[Ċ];show this
 let zn:z.getD n 0∈z:=Q.getD_mem (d:=0) D;let p1:=fp (z.getD n 0);let c1:=fc (z.getD n 0);let⟨H,p⟩:=B _ zn;show#[i,#[A,F.le .b],O,?_,?_]
 .show#[#[.b,by change(1:Int)≠0;decide],H.le .b,p.le .b,by change Sm 20000 1;unfold Sm;show af2 .a,by change Sm 9000 1;unfold Sm;show af2 .a,by change Sm 9000 (_*1);rw[Ċ];show p.le .b]
 generalize T:aE u (z.getD n 0,1)=v at *;let ev:cV v (1,1)=fr (v.1*1+1*v.2) (v.2*1):=rfl;let s:v.2*1≠0:=by lia
 let ap:=mV (t:=v.1*1+1*v.2) s;let E:=oF (t:=v.1*1+1*v.2) s;let ac:=bT (v.1*1+1*v.2) (v.2*1)
 let as:=EU (n:=m+40) (m:=m+33) (t:=v.1*1+1*v.2) s (by
  rw[Ċ,Ő]
  show((H.le (.b:32+m<=m+33)).add p).le .b) (by rwa[Ċ])
 rw[<-ev] at ap E ac as;generalize cV v (1,1)=q at *;let α:((z.take l.length).map λx=>aE u (x,1)).length=l.length:=by rw[ą,ϑ];lia
 let mem:∀w∈((z.take l.length).map λx=>aE u (x,1)).set n q,w=q\/∃x∈z,w=aE u (x,1):=λw j=>by
  obtain g|g:=aeG j
  .let⟨x,f,e⟩:=adn.mp g;show .inr #[x,afl f,e.symm]
  .show .inl g
 let I:q.1*u.2=(u.1*z.getD n 0+u.2)*q.2:=by
  rw[Ċ] at ac
  let e2:v.2*(q.1*u.2)=v.2*((u.1*z.getD n 0+u.2)*q.2):=by
   let K:v.2*(q.1*u.2)=(q.1*v.2)*u.2:=by grind
   rw[K,ac];let P:(v.1*1+1*v.2)*q.2*u.2=(v.1*u.2)*q.2+v.2*u.2*q.2:=by grind
   rw[P,c1];grind
  show afc .b e2
 show#[by rwa[Ō],λw j=>?_,λw j=>?_,?_,?_]
 .obtain rfl|⟨x,_,rfl⟩:=mem w j
  .show#[ap,E]
  .show#[fp x,oF (t:=u.1*x) (b:=u.2*1) .b]
 .obtain rfl|⟨x,f,rfl⟩:=mem w j
  .show#[as.1,as.2.le .b]
  .show#[(B x f).1.le .b,(B x f).2.le .b]
 .let G:∀k,((z.map λx=>u.1*x).set n (u.1*z.getD n 0+u.2)).getD k 0=u.1*z.getD k 0+if k=n then u.2 else 0:=λk=>by
   by_cases e:k=n
   .subst e;rw[ac6 rfl,ċ,aeR (by rwa[ą])];rfl
   .rw[ac2 e,ċ,ae1 (λz=>e z.symm),Ĵ,ċ,ahN];cases z[k]? with
    |none=>show(0:Int)=u.1*0;rw[ś]
    |some x=>rfl
  let ce:=K1 (l:=l) (y:=(z.map λx=>u.1*x).set n (u.1*z.getD n 0+u.2)) (vs:=((z.take l.length).map λx=>aE u (x,1)).set n q) (d:=u.2) (n:=l.length) (λk C=>by
   rw[G k];by_cases e:k=n
   .subst e;rw[ac6 rfl,ċ,aeR .b];change q.1*u.2=(u.1*z.getD k 0+u.2)*q.2;show I
   .rw[ac2 e,ċ,ae1 (λz=>e z.symm),<-ċ,Ai C .b,ahN]
    show fc _) l.length (ú _)
  rw[O6 G,ac6 i,h.sum,J] at ce
  let e3:u.1*u.1*(c*(0*0))+l.getD n 0*(2*u.1*z.getD n 0*u.2+u.2*u.2)=c*(u.2*u.2):=by
   let:l.getD n 0*(2*u.1*z.getD n 0*u.2+u.2*u.2)=(u.1*(2*l.getD n 0*z.getD n 0))*u.2+l.getD n 0*(u.2*u.2):=by grind
   rw[this,N];grind
  rw[e3] at ce;show ael (a:=u.2*u.2) (ä .b .b) ?_;rw[ce];grind
 .show#[u.2,.b,o.le .b,λw j=>?_];obtain rfl|⟨x,f,rfl⟩:=mem w j
  .show#[_,(((r.mul (h.zs _ zn)).le (.b:32+m<=m+33)).add o).le .b,I]
  .show#[_,(r.mul (h.zs x f)).le .b,fc x]
abbrev acu(P w K mg base):=aG P w K mg base 1 "first_place" ["numbers"] (Hk K (fun(l:.L)=>l.length<=100/\∃x∈l,x≠0) Á VW)
def se(q:⇑ab3)(O:⇑acu)(L:⇑aG 3 "times" ["u","v"] (bw K uT Á aE))(o:⇑aG 3 "plus" ["u","v"] (bw K uT Á cV))(l:.L)(c:Int)(z:.L)(hp:MV m l c z):⇑Body eA "values_by_zero" cY f 3 [.val Â l,.val Â c,.val Â z] (zx Á (VL m l c)):=by
 intro J A outer s H E h;let v:=hp.len;let R:=hp.l8;let t:z.take (z.length-1)=z.take l.length:=by rw[v];rfl
 let b:tP z (-1)=À (z.getD l.length 0):=by
  let e:Bq z.length (-1)=À l.length:=by
   unfold Bq;rw[v,ac2 .a,ac6 .b];congr 1;lia
  unfold tP;rw[e];change z[l.length]?=_;rw[ċ,Đ .b];rfl
 let D:z.getD l.length 0∈z:=Q.getD_mem (d:=0) .b;let lt:(z.take l.length).length=l.length:=by rw[ϑ];lia
 show aQ (aD cw (aJ .C (dU ae) b) ae) (λp=>?_) (λp=>?_)
 .let j:z.getD l.length 0≠0:=by simpa using p
  show kR (post:=VL m l c) (OQ (dg (b':=Á) (f:=λx:Int=>fr x (z.getD l.length 0)) ["x"] [2] (bH (af cY) eA rfl rfl .d) (bA (lj (P4 .C (dU ae) rfl) t)) (bp 0) (λC s H fp=>cI 0 ["x","zero"]) a8 (λi x a C s H fp=>av q (h.mono .a) rfl .A (aJ .B (dU ae) b) #[j,(hp.zs _ D).le (by let:=hp.m7;lia)]) .b) (RF hp j)) λz hz=>#[_,hz,rfl]
 let j:z.getD l.length 0=0:=by simpa using p
 let ex:∃x∈z,x≠0:=by
  apply ģ;intro k;let h1:=hp.one;let:∀x∈z,x=0:=λx a=>ģ λw=>k #[x,a,w]
  let d:(2:Int)∣l5 z:=by
   unfold l5;show Dw z 0 (afT 2) λx a=>by rw[this x a];show afT 2
  rw[h1] at d;show absurd d .a
 show mi 3 dG.nd (B5 O (h.mono .a) rfl .C #[.b,ex]) λi hi=>?_;let⟨n,rfl,k,hz⟩:=hi;let⟨g,⟨α,G⟩,I,tp,N⟩:=Rw hp j k hz;let r:tP l (n:Int)=À (l.getD n 0):=by rw[tD (d:=0) .b .b,Ï]
 let B:tP z (n:Int)=À (z.getD n 0):=by rw[tD (d:=0) .b .b,Ï]
 let am:=hp.nz _ (Q.getD_mem (d:=0) g);let y:Sm 2 (2:Int):=by unfold Sm;decide
 let sz:=(hp.zs _ (Q.getD_mem (d:=0) k)).le hp.m7;show ao 4 dG.nd (av q (h.mono .a) rfl (j_ .B (aJ .A .D r)) (aH (aH ae (aJ .A .D r) (y.ok am.2)) (aJ .C .D B) ((y.mul am.2).ok sz)) #[α,G]) ?_;generalize fr (c-l.getD n 0) (2*l.getD n 0*z.getD n 0)=u at *;show NY 5 dG.nd (β:=Fr) (b':=Á) (f:=λx:Int=>aE u (x,1)) ["x"] [4] (bH (af cY) eA rfl rfl .d) (bA (lj (P4 .C (dU ae) rfl) t)) (bp 0) (λC s H fp=>cI 0 ["x","often"]) a8 (λi x a C s H fp=>av L (h.mono .a) rfl .B (bj .A ae) (I x (afl (Ĭ a)))) .b ?_;show L4 5 Á rfl ?_
 let F:tP ((z.take l.length).map λx=>aE u (x,1)) (n:Int)=À (aE u (z.getD n 0,1)):=by
  rw[tD (d:=((0:Int),(1:Int))) .b (by rw[ą];lia),Ï,Ai g .b]
 show oX 5 rfl .D (av o (h.mono .a) rfl (sX (β:=Fr) 5 rfl (aJ (aa 5) .D F)) (bj ae ae) tp) .b (by rw[ą];lia) ?_;show fF 5 rfl ?_;show ay (aa 5) ?_;rw[Ï];show#[_,N,rfl]
def zJ{k f s:Int}(c:k≠0)(d:k.natAbs<1073741824)(a:eF f)(b:0<s)(e:k=f*(s*s)):eG k=f:=by
 let t:Tame (k.natAbs*1):=by rw[Ċ];show qJ .f .f
 change(Mh k 1).1=f;rw[Ej c .a t a b (by rwa[Ċ])]
def rT{k:Int}(b:k≠0)(c:k.natAbs<1073741824):∃s,eF (eG k)/\0<s/\k=eG k*(s*s):=by
 let⟨f,s,h1,h2,a⟩:=vf _ k b (ú _);let e:=zJ b c h1 h2 a;rw[e];show#[s,h1,h2,a]
def zl{k:Int}(c:k≠0)(a:k.natAbs<1073741824):eG k≠0/\(eG k).natAbs<=k.natAbs:=by
 let⟨s,h1,h2,b⟩:=rT c a;show#[h1.1,Aj h2 b]
def xP{n:Int}(b:n≠0)(h:∀q,aT q=Á->¬q*q∣n):eF n:=#[b,λd a z=>by
 let⟨q,h1,h2⟩:=fZ a
 show h q h1 (Ĺ (ahX h2 h2) z)]
def dz(a b:Int):Int:=a.fdiv ((È a b:Nat):Int)*b.fdiv ((È a b:Nat):Int)
def OI(a b:Int):Prop:=a≠0/\b≠0/\Sm 400 a/\Sm 400 b
def IM(h:g∣a)(ha:a≠0):g≠0/\a.fdiv g≠0/\(a.fdiv g).natAbs<=a.natAbs:=by
 let⟨c,rfl⟩:=h;let b:g≠0:=λz=>ha (by rw[z,ag5]);let d:c≠0:=λz=>ha (by rw[z,ś]);rw[ad8 c b];show#[b,d,?_];rw[ļ];show ae6 _ .b
def kr(ha:a≠0)(g:b≠0):((È a b:Nat):Int)≠0/\a.fdiv ((È a b:Nat):Int)≠0/\(a.fdiv ((È a b:Nat):Int)).natAbs<=a.natAbs/\b.fdiv ((È a b:Nat):Int)≠0/\(b.fdiv ((È a b:Nat):Int)).natAbs<=b.natAbs:=by
 let⟨d,h,e⟩:=IM (Ϧ a b) ha;let⟨_,f,c⟩:=IM (ϧ a b) g;show#[d,h,e,f,c]
def O0(ha:a≠0)(g:b≠0)(e:Sm m a)(i:Sm n b):dz a b≠0/\Sm (m+n) (dz a b):=by
 let⟨_,h,d,f,c⟩:=kr ha g;show#[ä h f,(Sm.of_le d e).mul (Sm.of_le c i)]
def Jr(ha:a≠0)(c:Sm n a):Sm n ((È a b:Nat):Int):=by
 let:È a b<=a.natAbs:=agM .b (ad5.mpr (Ϧ a b));unfold Sm at *;lia
def dC{M:Type}{l:List M}{i:Int}{d:M}(a:0<=i)(h1:i<n)(b:l.length=n):tP l i=À (l.getD ↥i d):=by
 unfold tP Bq;rw[ac6 a,ac6 .b];change l[↥i]?=_;rw[ċ,Đ .b];rfl
open Q (Fr)
def uI(n:Nat):jc 0 1 n=uK n:=by
 unfold jc uK;show agj λi _=>by lia
structure xG(us:List Fr):Prop where
 len:us.length<=3
 low:∀u∈us,dc u
 s1:∀u∈us,Sm 1500 u.1
 s2:∀u∈us,Sm 1400 u.2
structure HJ(o:.L×Int):Prop where
 len:o.1.length<=3
 sm:∀x∈o.1,Sm 5701 x
 pos:1<=o.2
 s2:Sm 4201 o.2
noncomputable def VP(a:.L×Int)(bs:List (.L×Int)):List Fr:=bs.map (Ms a)
noncomputable def DC(n i:Int):List Fr:=zU ↥n i
def Of(n:Int):Tb:=uU ↥n
def gg{M:Type}{l:List M}{a:M}(h:l[i]?=À a):a∈l:=Ĭ h
def JP{us:List Fr}(h:xG us)(i:Nat)(hi:i<=us.length):1<=fS (us.take i)/\Sm (1+1400*i) (fS (us.take i)):=by
 induction i with
 |zero=>show#[by change(1:Int)<=1;decide,by change(1:Int).natAbs<2^1;decide]
 |succ i c =>
  let⟨h1,h2⟩:=c .b;let b:us[i]?=À us[i]:=Đ .b;let a:=gg b;let e:fS (us.take (i+1))=(fS (us.take i)*us[i].2).fdiv (È (fS (us.take i)) us[i].2:Nat):=kq b;let z:=Ci h1 (h.low _ a).1;rw[<-e] at z;show#[z.1,?_];let s:=h2.mul (h.s2 _ a);let l:=z.2.2.2;let:Sm (1+1400*i+1400) (fS (us.take (i+1))):=Sm.of_le .b s;show this.le .b
def Eu{us:List Fr}(h:xG us):1<=fS us/\Sm 4201 (fS us):=by
 let z:=JP h us.length (ú _);rw[ŷ] at z;show#[z.1,z.2.le (by let:=h.len;lia)]
def NK(c:1<=b)(h:Sm n b):((È a b:Nat):Int)≠0/\Sm n ((È a b:Nat):Int):=by
 let h1:È a b≠0:=λz=>by rw[ahc] at z;lia
 show#[.b,Sm.of_le ?_ h];let:(È a b)<=b.natAbs:=agM .b (Int.gcd_dvd_natAbs_right a b);lia
def E3(ha:1<=a)(c:1<=b)(h:Sm n a):Sm n (a.fdiv b):=by
 show Sm.of_le ?_ h;rw[aea a .b];let h1:0<=a/b:=agm .b .b;let h2:a/b<=a:=Int.ediv_le_self b .b;lia
def J7{us:List Fr}(h:xG us):HJ (Fw us):=by
 let⟨h1,h2⟩:=Eu h;show#[by change(us.map _).length<=3;rw[ą];show h.len,λx b=>?_,h1,h2];let⟨u,a,rfl⟩:=adn.mp b;show(h.s1 u a).mul (E3 h1 (h.low u a).1 h2)
structure AQ(n:Nat)(T:Tb):Prop where
 sq:Sq n T
 n8:n<=3
 s1:∀r∈T,∀u∈r,Sm 1500 u.1
 s2:∀r∈T,∀u∈r,Sm 1400 u.2
def AQ.row{n:Nat}{T:Tb}(h:AQ n T){r:List Fr}(a:r∈T):xG r:=#[by rw[h.sq.row r a];show h.n8,h.sq.low r a,h.s1 r a,h.s2 r a]
def AQ.len{n:Nat}{T:Tb}(h:AQ n T):T.length<=8:=by rw[h.sq.len];let:=h.n8;lia
def AQ.Ye{T:Tb}(h:AQ n T):AQ n (n_ T):=by
 let key:∀r∈n_ T,∀u∈r,∃r'∈T,u∈r':=λr d u e=>by
  let⟨j,f,rfl⟩:=adn.mp d;let⟨r',c,rfl⟩:=adn.mp e;let:=p6 f;rw[h.sq.len] at this;show#[r',c,Q.getD_mem (by rw[h.sq.row r' c];lia)]
 show#[h.sq.n_,h.n8,λr d u e=>by let⟨r',a,b⟩:=key r d u e;show h.s1 r' a u b,λr d u e=>by let⟨r',a,b⟩:=key r d u e;show h.s2 r' a u b]
def K7{M:Type}{d:M}{xs:List M}{k:Int}(b:0<=k)(h:k<(xs.length:Int)):tP xs k=À (xs.getD ↥k d):=by
 let a:↥k<xs.length:=by lia
 let e:k=((↥k:Nat):Int):=by lia
 let q:tP xs ((↥k:Nat):Int)=À xs[↥k]:=vd (by rw[Đ a]);rw[<-e] at q;rw[q,ċ,Đ a];rfl
def An(n i:Int)(b:0<=n)(h1:n<=8):⇑Body kY "plain_list" iC f k [.val Â n,.val Â i] (RT Á (DC n i)):=by
 intro a A outer s H E c;show ay (dg (f:=λj=>if decide (j=i) then (1,1) else (0,1)) ["j"] [1] (bH (af iC) kY rfl rfl .d) (lZ rfl B.range .A .b .b) (bp 0) (λC s H fp=>cI 0 ["j","place"]) a8 (λk j d C s H fp=>ko (aD aO .A .B) (λ_=>bj ae ae) λ_=>bj ae ae) (by rw[fR];lia)) ?_;rw[uI];change Bd.val _ _=Bd.val _ _;congr 1;unfold DC zU;show agj λj _=>by by_cases z:j=i<;>simp[z]
abbrev acv(P w K mg base):=aG P w K mg base 1 "plain_list" ["n","place"] (bw K (λn (_:Int)=>(0:Int)<=n/\n<=8) Á DC)
def xO(a:⇑acv)(n:Int)(c:0<=n)(h1:n<=8):⇑Body eJ "plain_table" dw f 1 [.val Â n] (RT Á (Of n)):=by
 intro b A outer s H E d;show ay (dg (f:=λi=>DC n i) ["i"] [0] (bH (af dw) eJ rfl rfl .d) (lZ rfl B.range .A .b .b) (bp 0) (λC s H fp=>cI 0 ["i","n"]) a8 (λk j e C s H fp=>av a (d.mono .a) rfl .B .A #[c,h1]) (by rw[fR];lia)) ?_;rw[uI];rfl
def Lq(T:Tb)(j:Int)(c:T.length<=8)(h1:0<=j)(h2:∀r∈T,j<(r.length:Int)):⇑Body xk "column" pH f k [.val Â T,.val Â j] (RT Á (kF T j)):=by
 intro b A outer s H E a;show ay (dg (f:=λr:List Fr=>r.getD ↥j (0,1)) ["numbers"] [1] (bH (af pH) xk rfl rfl .d) (bA .A) (bp 0) (λC s H fp=>cI 0 ["numbers","j"]) a8 (λk r a C s H fp=>dv (aJ .A .B (K7 h1 (h2 r (gg a))))) .b) rfl
abbrev acw(P w K mg base):=aG P w K mg base 1 "column" ["T","j"] (bw K (fun(T:Tb) (j:Int)=>T.length<=8/\0<=j/\∀r∈T,j<(r.length:Int)) Á kF)
def xU(a:⇑acw)(n:Nat)(T:Tb)(h:AQ n T):⇑Body jI "turned_over" gE f 1 [.val Â T] (RT Á (n_ T)):=by
 intro d A outer s H E b;let e:=h.len;show ay (dg (f:=λj=>kF T j) ["j"] [0] (bH (af gE) jI rfl rfl .d) (lZ rfl B.range (bx rfl B.len .A) .b .b) (bp 0) (λC s H fp=>cI 0 ["j","T"]) a8 (λk j c C s H fp=>av a (b.mono .a) rfl .B .A #[e,?_,λr b=>?_]) (by rw[fR];lia)) ?_
 .let:=(mU c).2;lia
 .let:=(mU c);let e1:=h.sq.len;let e2:=h.sq.row r b;lia
 .rw[uI];rfl
def uB(j:⇑abY)(us:List Fr)(h:xG us):⇑Body lQ "common_bottom" hW f 1 [.val Â us] (RT Á (fS us)):=by
 intro e A outer s H E k;show ao 1 eE.nd ae ?_;show jO (λi U=>∃r,U=[À (.val Â us),À (.val Á (fS (us.take i))),r]) (bW 2 eE.nd) .A #[none,rfl] ?_ ?_
 .rintro i u U' c ⟨r,rfl⟩;let b:=gg c;let hi:i<us.length:=(adk.mp c).1;let⟨m,l⟩:=JP h i .b;let d:Sm 4201 (fS (us.take i)):=l.le (by let:=h.len;lia);let g:=NK (a:=fS (us.take i)) (h.low u b).1 (h.s2 u b);show ao 1 eE.nd (bf (aH .B (aX .C) (d.ok (h.s2 u b))) (av j (k.mono .a) rfl .B (aX .C) É) (g.2.div g.1)) ?_;show aN #[À (.val Â u),?_];unfold fS;rw[kq c];rfl
 .rintro U' ⟨r,rfl⟩;rw[ŷ];show ay .B rfl
def qy(c:⇑aG 2 "common_bottom" ["numbers"] (cj K xG Á fS))(us:List Fr)(h:xG us):⇑Body fB "over_one_bottom" dD f 2 [.val Â us] (RT Á (Fw us)):=by
 intro b A outer s H E e;let⟨d,g⟩:=Eu h;show ao 1 jb.nd (aC c (e.mono .a) rfl .A h) ?_;show ay (bj (dg (f:=λu:Fr=>u.1*(fS us).fdiv u.2) ["u"] [1] (bH (af dD) fB rfl rfl .d) (bA .A) (bp 0) (λC s H fp=>cI 0 ["u","bottom"]) a8 (λk u a C s H fp=>aH (aV .A) (bf .B (aX .A) ((h.s2 u (gg a)).div (h.low u (gg a)).ne)) ((h.s1 u (gg a)).ok (E3 d (h.low u (gg a)).1 g))) (by let:=h.len;lia)) .B) rfl
def qY(e:⇑ab3)(a b:.L×Int)(ha:HJ a)(c:HJ b):⇑Body fQ "sum_of_products" dI f 2 [.val Â a,.val Â b] (RT Á (Ms a b)):=by
 intro d A outer s H E g;show ao 2 iO.nd (T4 rfl rfl B.sum (dg (f:=λp:Int×Int=>p.1*p.2) ["a","b"] [] (bH (af dI) fQ rfl rfl .d) (Am rfl B.zip (aV .A) (aV .B)) (Dy 0 1) (λC s H fp=>K8 0 1 ["a","b"]) yh (λk p hp C s H fp=>aH .A .B ((ha.sm _ (sU (gg hp)).1).ok (c.sm _ (sU (gg hp)).2))) (by rw[ϐ];let:=ha.len;lia))) ?_;show ay (av e (g.mono .a) rfl .C (aH (aX .A) (aX .B) (ha.s2.ok c.s2)) #[ä (by let:=ha.pos;lia) (by let:=c.pos;lia),(ha.s2.mul c.s2).le .a]) rfl
abbrev acx(P w K mg base):=aG P w K mg base 3 "sum_of_products" ["one","other"] (bw K (λa b=>HJ a/\HJ b) Á Ms)
def Ca(g:⇑acx)(a:.L×Int)(bs:List (.L×Int))(ha:HJ a)(h:bs.length<=8)(c:∀b∈bs,HJ b):⇑Body nr "sums_with" jD f 3 [.val Â a,.val Â bs] (RT Á (VP a bs)):=by
 intro d A outer s H E e;show ay (dg (f:=λb=>Ms a b) ["other"] [0] (bH (af jD) nr rfl rfl .d) (bA .B) (bp 0) (λC s H fp=>cI 0 ["other","one"]) a8 (λk b hp C s H fp=>av g (e.mono .a) rfl .B .A #[ha,c b (gg hp)]) .b) rfl
abbrev acy(P w K mg base):=aG P w K mg base 4 "sums_with" ["one","others"] (bw K (fun(a:.L×Int) (bs:List (.L×Int))=>HJ a/\bs.length<=8/\∀b∈bs,HJ b) Á VP)
def G0(j:⇑aG 2 "turned_over" ["T"] (cj K (fun(T:Tb)=>∃n,AQ n T) Á n_))(h:⇑aG 3 "over_one_bottom" ["numbers"] (cj K xG Á Fw))(l:⇑acy)
  (n:Nat) (T Γ:Tb) (ha:AQ n T) (g:AQ n Γ):⇑Body nJ "product" kC f 4 [.val Â T,.val Â Γ] (RT Á (iL T Γ)):=by
 intro i A outer s H E d;let c:=g.Ye;show ao 2 vH.nd (dg (f:=λr=>Fw r) ["numbers"] [] (bH (af kC) nJ rfl rfl .d) (bA (aC j (d.mono .a) rfl .B #[n,g])) (bp 0) (λC s H fp=>cI 0 ["numbers"]) a8 (λk r a C s H fp=>aC h (d.mono .a) rfl .A (c.row (gg a))) (by let:=c.len;lia)) ?_;show ay (dg (f:=λr=>VP (Fw r) ((n_ Γ).map Fw)) ["numbers"] [2] (bH (af kC) nJ rfl rfl .d) (bA .A) (bp 0) (λC s H fp=>cI 0 ["numbers","columns"]) a8 (λk r a C s H fp=>av l (d.mono .a) rfl (aC h (d.mono .a) rfl .A (ha.row (gg a))) .B #[J7 (ha.row (gg a)),?_,λb e=>?_]) (by let:=ha.len;lia)) ?_
 .rw[ą];show c.len
 .let⟨r',z,rfl⟩:=adn.mp e;show J7 (c.row z)
 .rfl
open Q (Fr)
def QE{X:Cx}{U:aM}{e:Ô}{c c':Bool}(h:T X U e c)(z:c=c'):T X U e c':=z▸h
def DD(b:Int):dz 1 b=b:=by
 unfold dz;let:È 1 b=1:=Int.gcd_one_left b;rw[this];change(1:Int).fdiv 1*b.fdiv 1=b;rw[ahG,ahG,Ő]
def Lr(j:⇑abY)(a b:Int)(hp:OI a b):⇑Body BA "joined" wW f 1 [.val Â a,.val Â b] (RT Á (dz a b)):=by
 intro h A outer s H E k;let⟨ha,g,c,l⟩:=hp;let⟨d,n,i,m,e⟩:=kr ha g;let sg:=Jr (b:=b) ha c;show ao 2 yk.nd (av j (k.mono .a) rfl .A .B É) ?_;show ay (aH (bf .A .C (sg.div d)) (bf .B .C (sg.div d)) ((Sm.of_le i c).ok (Sm.of_le e l))) rfl
def HN(row:.L):Int:=row.foldl (λn k=>dz n (eG k)) 1
def Cm(row:.L):Prop:=row.length<=8/\∀k∈row,k≠0/\k.natAbs<1073741824
theorem JM{row:.L}(h:Cm row):∀i,i<=row.length->(row.take i).foldl (λn k=>dz n (eG k)) 1≠0/\Sm (1+30*i) ((row.take i).foldl (λn k=>dz n (eG k)) 1)
 |0,_=>#[by change(1:Int)≠0;decide,by change(1:Int).natAbs<2^1;decide]
 |i+1,hi=>by
  let⟨a,b⟩:=JM h i .b;let c:row[i]?=À row[i]:=Đ .b;let e:(row.take (i+1)).foldl (λn k=>dz n (eG k)) 1=dz ((row.take i).foldl (λn k=>dz n (eG k)) 1) (eG row[i]):=kq c;let d:=h.2 _ (Ĭ c);let⟨g,l⟩:=zl d.1 d.2;let⟨f,j⟩:=O0 a g b (by unfold Sm;lia:Sm 30 (eG row[i]));rw[e];show#[f,j.le .b]
def Iq{k:Int}(h1:k≠0)(h2:k.natAbs<1073741824):UT k:=#[h1,(by unfold Sm;lia:Sm 30 k).le .a,qJ .b .b]
abbrev acz(P w K mg base):=aG P w K mg base 2 "joined" ["a","b"] (bw K OI Á dz)
def wY(Za:⇑acz)(l:⇑aG 6 "free_of" ["k"] (cj K UT Á eG))(row:.L)(h:Cm row):⇑Body mK "free_product" iT f 6 [.val Â row] (RT Á (HN row)):=by
 intro o A outer s H E j;let p:=h.1;show ao 1 eO.nd ae ?_;show jO (b:=Â) (λi U=>i<=row.length/\∃r,U=[À (.val Â row),À (.val Á ((row.take i).foldl (λn k=>dz n (eG k)) 1)),r]) (bW 2 eO.nd) .A #[Ņ _,none,rfl] ?_ ?_
 .rintro i k U' g ⟨hi,r,rfl⟩;let d:i<row.length:=(adk.mp g).1;let⟨a,b⟩:=JM h i hi;let c:=h.2 _ (Ĭ g);let⟨m,q⟩:=zl c.1 c.2;let e:(row.take (i+1)).foldl (λn k=>dz n (eG k)) 1=dz ((row.take i).foldl (λn k=>dz n (eG k)) 1) (eG k):=kq g;show ao 1 eO.nd (av Za (j.mono .a) rfl .B (aC l (j.mono .a) rfl .C (Iq c.1 c.2)) #[a,m,b.le .b,(by unfold Sm;lia:Sm 30 (eG k)).le .a]) ?_;rw[e];show aN #[d,_,rfl]
 .rintro U' ⟨hi,r,rfl⟩;rw[ŷ];show ay .B rfl
noncomputable def TC(a b:Int)(x y:Fr):Fr:=fr (a*x.1*x.1*y.2*y.2+b*y.1*y.1*x.2*x.2) (x.2*x.2*y.2*y.2)
def Mp(x:Fr):Prop:=dc x/\Sm 650 x.1/\Sm 650 x.2
def VV(a b:Int)(x y:Fr):Prop:=Sm 30 a/\Sm 30 b/\Mp x/\Mp y
def xW(t:⇑ab3)(a b:Int)(x y:Fr)(h:VV a b x y):⇑Body oD "made_of_two" jM f 2 [.val Â a,.val Â b,.val Â x,.val Â y] (RT Á (TC a b x y)):=by
 intro r A outer s H E u;let⟨i,k,⟨o,g,d⟩,⟨j,e,c⟩⟩:=h;let p1:=i.mul g;let p2:=p1.mul g;let q:=p2.mul c;let p:=k.mul e;let n:=p.mul e;let v:=n.mul d;let m:=d.mul d;let l:=m.mul c;show ao 4 mH.nd (bG (aH (aH (aH (aH .A (aV .C) (i.ok g)) (aV .C) (p1.ok g)) (aX .D) (p2.ok c)) (aX .D) (q.ok c)) (aH (aH (aH (aH .B (aV .D) (k.ok e)) (aV .D) (p.ok e)) (aX .C) (n.ok d)) (aX .C) (v.ok d))) ?_;show ay (av t (u.mono .a) rfl .E (aH (aH (aH (aX .C) (aX .C) (d.ok d)) (aX .D) (m.ok c)) (aX .D) (l.ok c)) #[ä (ä (ä o.ne o.ne) j.ne) j.ne,(l.mul c).le .a]) rfl
def Fz(k:Int):Bool:=rq k&&decide (eG k=k)
def Hb(b:⇑acb)(d:⇑aG 6 "free_of" ["k"] (cj K UT Á eG))(k:Int):⇑Body yU "is_free" rD f 6 [.val Â k] (RT Á (Fz k)):=by
 intro g A outer s H E a;cases q:rq k with
 |false =>
  let e:Fz k=Â:=by unfold Fz;rw[q];rfl
  rw[e];show ay (tW (c':=Â) (b2:=Á) (aC b (a.mono .a) rfl .A É) λz=>absurd z (by rw[q];decide)) ?_;rw[q];rfl
 |true =>
  let c:k≠0/\k.natAbs<1073741824:=by unfold rq at q;simpa using q
  show ay (tW (aC b (a.mono .a) rfl .A É) λ_=>(ud (jy aO (aC d (a.mono .a) rfl .A (Iq c.1 c.2)) .A))) rfl
def C7(row:.L)(s:dO):Prop:=0<=s.i/\s.i<s.j/\s.j<row.length
noncomputable instance(row:.L)(s:dO):Decidable (C7 row s):=by unfold C7;infer_instance
noncomputable def kW(row:.L)(s:dO):Fr:=TC (row.getD ↥s.i 0) (row.getD ↥s.j 0) s.x s.y
def Ic(row:.L)(s:dO):Int:=dz (HN [row.getD ↥s.i 0,row.getD ↥s.j 0]) (kW row s).1
def mR(row:.L)(s:dO):Prop:=C7 row s/\((kW row s).2=1/\Fz (kW row s).1=Á)/\(Ic row s).natAbs<1073741824
def yT(row:.L)(s:dO):Prop:=bh row=Á/\Mp s.x/\Mp s.y
def N7(row:.L)(s:dO):Fr:=((kW row s).1,Ic row s)
noncomputable def VZ(d:ì):dO:=match d with
 |.tuple [.int i,.int j,.tuple [.int a,.int b],.tuple [.int c,.int e]]=>#[i,j,(a,b),(c,e)]
 |_=>#[0,0,(0,1),(0,1)]
def VT(row:.L)(d:Dt):Fr:=N7 row (VZ d.d)
def rP{row:.L}{s:dO}(d:bh row=Á)(h1:C7 row s):(row.getD ↥s.i 0≠0/\(row.getD ↥s.i 0).natAbs<1073741824)/\(row.getD ↥s.j 0≠0/\(row.getD ↥s.j 0).natAbs<1073741824):=by
 let⟨a,b,c⟩:=h1;show#[bV d (Q.getD_mem .b),bV d (Q.getD_mem .b)]
def Qx{row:.L}{s:dO}(h:yT row s)(h1:C7 row s):VV (row.getD ↥s.i 0) (row.getD ↥s.j 0) s.x s.y:=by
 let⟨a,b⟩:=rP h.1 h1;show#[by unfold Sm;lia,by unfold Sm;lia,h.2.1,h.2.2]
def S6{row:.L}{s:dO}(h:yT row s)(h1:C7 row s)(h2:Fz (kW row s).1=Á):Cm [row.getD ↥s.i 0,row.getD ↥s.j 0]/\OI (HN [row.getD ↥s.i 0,row.getD ↥s.j 0]) (kW row s).1:=by
 let⟨a,b⟩:=rP h.1 h1
 let pf:Cm [row.getD ↥s.i 0,row.getD ↥s.j 0]:=#[by change 2<=8;decide,λk c=>by
  simp only[ě,ğ,adM] at c;obtain rfl|rfl:=c
  .show a
  .show b]
 let⟨f,e⟩:=JM pf 2 (ú _)
 let d:(kW row s).1≠0/\(kW row s).1.natAbs<1073741824:=by
  unfold Fz at h2;let:=(ad_.mp h2).1;unfold rq at this;simpa using this
 show#[pf,f,d.1,e.le .a,(by unfold Sm;lia:Sm 30 _).le .a]
abbrev acB(P w K mg base):=aG P w K mg base 7 "is_free" ["k"] (cj K (fun(_:Int)=>True) Á Fz)
abbrev acA(P w K mg base):=aG P w K mg base 7 "free_product" ["row"] (cj K Cm Á HN)
def ck{row:.L}{s:dO}:(!(decide ((0:Int)<=s.i)&&(decide (s.i<s.j)&&decide (s.j<(row.length:Int)))))=!decide (C7 row s):=by
 congr 1;rw[ae3,aeC];unfold C7;simp
section
variable(Yk:xw mg "GREAT_FROM" 1073741824)(Za:⇑acz)(Yt:⇑acA)(Y6:⇑aG 3 "made_of_two" ["a","b","x","y"] (EL K VV Á TC))(YX:⇑acB)
include B Yk
include Za Yt Y6 YX in
theorem sA(row:.L)(d:Dt)(s:dO)(e:d.d=me s)(h:yT row s)(ok:mR row s):⇑Body kc "numbers_behind" f_ f 7 [.val Â row,.val Â d] (RT Á (VT row d)):=by
 intro n A outer r H E k;let⟨d⟩:=d;let p:d=me s:=e;subst p;let⟨h1,⟨h2,m⟩,u⟩:=ok;let l:=h1;let⟨a,b,c⟩:=l;let⟨pf,o⟩:=S6 h h1 m;let q:∀i:Int,(if i<0 then -i else i)=(i.natAbs:Int):=λi=>by split<;>lia
 change S _ _ _ (RT Á (N7 row s));show ao 2 cL.nd (EV (s:=s) .B ae) ?_;show ao 3 cL.nd (Fb (s:=s) .B ae) ?_;show aQ (QE (c':=Â) (fW (Ce BG gO gO ae .C .D (bx rfl B.len .A))) (by rw[ck,ado h1];rfl)) (λg=>nomatch g) (λ_=>?_);show ao 4 cL.nd (qG Y6 (k.mono .a) rfl (aJ .A .C (dC (d:=0) a .b rfl)) (aJ .A .D (dC (d:=0) .b c rfl)) (LC (s:=s) .B ae) (Md (s:=s) .B ae) (Qx h h1)) ?_;change S _ [À (.val Â row),À (.val Â (Dt.mk (me s))),À (.val Â s.i),À (.val Â s.j),À (.val Á (kW row s)),none] _ _;show aQ (TW.t (iS (aD cw (aX .E) ae) λ_=>(gT (fW (eH (aC YX (k.mono .a) rfl (aV .E) É)))))) (λg=>?_) (λ_=>?_)
 .rw[h2,m] at g;cases g
 show ao 5 cL.nd (av Za (k.mono .a) rfl (aC Yt (k.mono .a) rfl (d8 (b:=Á) (aF (dv (aJ .A .C (dC (d:=0) a .b rfl))) (aF (dv (aJ .A .D (dC (d:=0) .b c rfl))) bD)) (aej rfl)) pf) (aV .E) o) ?_;change S _ [À (.val Â row),À (.val Â (Dt.mk (me s))),À (.val Â s.i),À (.val Â s.j),À (.val Á (kW row s)),À (.val Á (Ic row s))] _ _;show aQ (aD EW (iR rfl B.abs (aa 5)) (ua rfl Yk)) (λg=>?_) (λ_=>?_)
 .rw[q] at g;let:(1073741824:Int)<=((Ic row s).natAbs:Int):=by simpa using g
  lia
 show ay (bj (aV .E) (aa 5)) ?_;rfl
end
noncomputable def T7(row:.L)(s:dO)(u:Fr):.L:=(row.set ↥s.i u.1).set ↥s.j u.2
def V4(row:.L)(d:Dt)(u:Fr):.L:=T7 row (VZ d.d) u
def CH(row:.L)(d:Dt)(u:Fr)(s:dO)(e:d.d=me s)(h1:C7 row s):⇑Body xp "row_with" oZ f kk [.val Â row,.val Â d,.val Â u] (RT Á (V4 row d u)):=by
 intro h A outer j H E k;let⟨d⟩:=d;let g:d=me s:=e;subst g;let⟨a,b,c⟩:=h1;change S _ _ _ (RT Á (T7 row s u));show oS 3 tU.nd rfl B.list .A ?_;show oX 3 (a:=u.1) rfl (EV (s:=s) .B ae) (dv (aV .C)) a .b ?_;show oX 3 (as:=row.set ↥s.i u.1) (a:=u.2) rfl (Fb (s:=s) .B ae) (dv (aX .C)) .b (by rwa[Ō]) ?_;show fF 3 rfl ?_;show ay .D rfl
def xy(row:.L)(s:dO):.L:=T7 row s (N7 row s)
def QB(n:Int):Jj Fr:=Jj.mk (Of n)
def wO(a:⇑acv)(n:Int)(c:0<=n)(h1:n<=8):⇑Body eJ "plain_table" dw f 1 [.val Â n] (RT Á (QB n)):=by
 intro b A outer s H E d;show ay (IC (β:=Fr) (f:=λi=>DC n i) ["i"] [0] (bH (af dw) eJ rfl rfl .d) (lZ rfl B.range .A .b .b) (bp 0) (λC s H fp=>cI 0 ["i","n"]) a8 (λk j e C s H fp=>Lj a (d.mono .a) rfl .B .A #[c,h1]) (by rw[fR];lia)) ?_;rw[uI];rfl
def Wa{M:Type}{d:M}{l:List M}(h:i<l.length):l[i]?=À (l.getD i d):=by
 rw[ċ,Đ h];rfl
def wN(row:.L)(s:dO)(u:Fr):Fr:=(1,rt ((row.getD ↥s.i 0*row.getD ↥s.j 0*u.1).fdiv u.2))
def Xr(row:.L)(s:dO)(u:Fr):Tb:=Wc row.length ↥s.i ↥s.j s.x s.y (aE (-row.getD ↥s.j 0,1) (aE s.y (wN row s u))) (aE (row.getD ↥s.i 0,1) (aE s.x (wN row s u)))
def Wq(row:.L)(d:Dt)(u:Fr):Tb:=Xr row (VZ d.d) u
structure PM(row:.L)(s:dO)(u:Fr):Prop where
 nb:C7 row s
 isr:bh row=Á
 x:Mp s.x
 y:Mp s.y
 u1:u.1.natAbs<1073741824
 u2:u.2.natAbs<1073741824
 u0:u.2≠0
 t:∃t,0<t/\t<2^46/\row.getD ↥s.i 0*row.getD ↥s.j 0*u.1=u.2*(t*t)
def PM.fc{row:.L}{s:dO}{u:Fr}(h:PM row s u):∃t,0<t/\t<2^46/\row.getD ↥s.i 0*row.getD ↥s.j 0*u.1=u.2*(t*t)/\wN row s u=(1,t)/\(row.getD ↥s.i 0*row.getD ↥s.j 0*u.1).fdiv u.2=t*t:=by
 let⟨t,a,b,e⟩:=h.t;let e2:(row.getD ↥s.i 0*row.getD ↥s.j 0*u.1).fdiv u.2=t*t:=by rw[e,ad8 _ h.u0]
 show#[t,a,b,e,?_,e2];unfold wN;rw[e2,<-fe (.b:0<=t) (ń _) (by grind)]
def Ba{t:Int}(h:0<t):dc ((1,t):Fr):=#[by change(1:Int)<=t;lia,by change È 1 t=1;show Int.gcd_one_left t]
def PM.low{row:.L}{s:dO}{u:Fr}(h:PM row s u):dc (aE (-row.getD ↥s.j 0,1) (aE s.y (wN row s u)))/\dc (aE (row.getD ↥s.i 0,1) (aE s.x (wN row s u))):=by
 let⟨t,a,_,_,e,_⟩:=h.fc;rw[e];show#[bC (F8 _) (bC h.y.1 (Ba a)),bC (F8 _) (bC h.x.1 (Ba a))]
def Sm.Ct{t:Int}(a:b≠0)(h:Sm n t):Sm n (fr t b).1:=Sm.of_le (qN a) h
def Sm.Bh{t:Int}(a:b≠0)(h:Sm n b):Sm n (fr t b).2:=Sm.of_le (qr a) h
def B9(Ys:⇑abX)(L:⇑aG 3 "times" ["u","v"] (bw K uT Á aE))(Zn:⇑aG 2 "plain_table" ["n"] (cj K (λn=>(0:Int)<=n/\n<=8) Á QB))(row:.L)(d:Dt)(u:Fr)(s:dO)(e:d.d=me s)(h:PM row s u):⇑Body tY "change_to" nv f 3 [.val Â row,.val Â d,.val Â u] (RT Á (Wq row d u)):=by
 intro cdv A outer sh H E r;let⟨d⟩:=d;let e':d=me s:=e;subst e';change S _ _ _ (RT Á (Xr row s u));let⟨t,J,t1,_,F,σ⟩:=h.fc;let⟨lz,lw⟩:=h.low;let⟨C,ij,jl⟩:=h.nb;let l8:=cF h.isr;let⟨ra,rb⟩:=rP h.isr h.nb;let⟨I,z,c⟩:=h.x;let⟨v,D,g⟩:=h.y;let u1:=h.u1;let u2:=h.u2;let u0:=h.u0;let α:Sm 30 (row.getD ↥s.i 0):=by unfold Sm;lia
 let O:Sm 30 (row.getD ↥s.j 0):=by unfold Sm;lia
 let su:Sm 30 u.1:=by unfold Sm;lia
 let R:Sm 30 u.2:=by unfold Sm;lia
 let st:Sm 46 t:=by unfold Sm;lia
 let G:Sm 1 (1:Int):=by change(1:Int).natAbs<2^1;decide
 let gi:=dC (d:=(0:Int)) (l:=row) C (.b:s.i<row.length) rfl;let V:=dC (d:=(0:Int)) (l:=row) (.b:0<=s.j) jl rfl;show ao 3 fw.nd (EV (s:=s) .B ae) ?_;show ao 4 fw.nd (Fb (s:=s) .B ae) ?_;show ao 5 fw.nd (dv (b':=Á) (bj ae (aC Ys (r.mono .a) rfl (bf (aH (aH (aJ .A .D gi) (aJ .A .E V) (α.ok O)) (aV .C) ((α.mul O).ok su)) (aX .C) (R.div u0)) #[by rw[σ];let:=Ĥ J J;lia,by rw[σ];show(st.mul st).le .a]))) ?_;change S _ [À (.val Â row),À (.val Â (Dt.mk (me s))),À (.val Â u),À (.val Â s.i),À (.val Â s.j),À (.val Á (wN row s u)),none] _ _;let a:Sm 46 (wN row s u).2:=by rw[F];show st
 let b:Sm 1 (wN row s u).1:=by rw[F];show G
 let o:(wN row s u).2≠0:=by rw[F];change t≠0;lia
 let q1:uT s.y (wN row s u):=#[#[v.ne,o],D.le .a,g.le .a,b.le .a,a.le .a,(g.mul a).le .a];let q2:uT s.x (wN row s u):=#[#[I.ne,o],z.le .a,c.le .a,b.le .a,a.le .a,(c.mul a).le .a];let yl:=bC v (by rw[F];show Ba J:dc (wN row s u));let xl:=bC I (by rw[F];show Ba J:dc (wN row s u));let y1:Sm 651 (aE s.y (wN row s u)).1:=Sm.Ct (ä v.ne o) (D.mul b);let W:Sm 696 (aE s.y (wN row s u)).2:=Sm.Bh (ä v.ne o) (g.mul a);let x1:Sm 651 (aE s.x (wN row s u)).1:=Sm.Ct (ä I.ne o) (z.mul b);let X:Sm 696 (aE s.x (wN row s u)).2:=Sm.Bh (ä I.ne o) (c.mul a);let w1:uT (-row.getD ↥s.j 0,1) (aE s.y (wN row s u)):=#[#[(by change(1:Int)≠0;decide),yl.ne],O.neg.le .a,G.le .a,y1.le .a,W.le .a,(G.mul W).le .a];let w2:uT (row.getD ↥s.i 0,1) (aE s.x (wN row s u)):=#[#[(by change(1:Int)≠0;decide),xl.ne],α.le .a,G.le .a,x1.le .a,X.le .a,(G.mul X).le .a];let T:=g_ row.length;let N:=kH T (p:=↥s.i) (q:=↥s.i) (u:=s.x) .b I;let Γ:=kH N (p:=↥s.j) (q:=↥s.i) (u:=s.y) .b v;let Z:=kH Γ (p:=↥s.i) (q:=↥s.j) .b lz;let k:↥s.i<row.length:=by lia
 let m:↥s.j<row.length:=by lia
 show C9 6 fw.nd (Kk Zn (r.mono .a) rfl (bx rfl B.len .A) #[.b,.b]) ?_;show uW 6 (rows:=uU row.length) rfl C (Wa (d:=[]) (by rwa[T.len])) C (by rwa[lA T k]) (LC (s:=s) .B ae) .D .D ?_;show uW 6 (rows:=qU (uU row.length) ↥s.i ↥s.i s.x) rfl (.b:0<=s.j) (Wa (d:=[]) (by rwa[N.len])) C (by rwa[lA N m]) (Md (s:=s) .B ae) .E .D ?_;show uW 6 (rows:=qU (qU (uU row.length) ↥s.i ↥s.i s.x) ↥s.j ↥s.i s.y) rfl C (Wa (d:=[]) (by rwa[Γ.len])) (.b:0<=s.j) (by rwa[lA Γ k]) (av L (r.mono .a) rfl (dv (b':=Á) (bj (dU (aJ .A .E V)) ae)) (av L (r.mono .a) rfl (Md (s:=s) .B ae) (aa 5) q1) w1) .D .E ?_;show uW 6 (rows:=qU (qU (qU (uU row.length) ↥s.i ↥s.i s.x) ↥s.j ↥s.i s.y) ↥s.i ↥s.j (aE (-row.getD ↥s.j 0,1) (aE s.y (wN row s u)))) rfl (.b:0<=s.j) (Wa (d:=[]) (by rwa[Z.len])) (.b:0<=s.j) (by rwa[lA Z m]) (av L (r.mono .a) rfl (dv (b':=Á) (bj (aJ .A .D gi) ae)) (av L (r.mono .a) rfl (LC (s:=s) .B ae) (aa 5) q2) w2) .E .E ?_;show OD 6 rfl ?_;show ay (aa 6) rfl
def P2(ha:a≠0)(f:b≠0):∃g,0<g/\a*b=dz a b*(g*g):=by
 let⟨c,k,_,j,_⟩:=kr ha f;let⟨u,d⟩:=Ϧ a b;let⟨v,e⟩:=ϧ a b
 let h:a.fdiv ((È a b:Nat):Int)=u:=by
  let:=ad8 u c;rwa[<-d] at this
 let ev:b.fdiv ((È a b:Nat):Int)=v:=by
  let:=ad8 v c;rwa[<-e] at this
 let i:dz a b=u*v:=by unfold dz;rw[h,ev]
 show#[((È a b:Nat):Int),.b,?_];rw[i];generalize ((È a b:Nat):Int)=g at *;rw[d,e];grind
def VD{row:.L}{s:dO}(h:yT row s)(h1:C7 row s)(n:(kW row s).1≠0)(C:(kW row s).1.natAbs<1073741824):Ic row s≠0/\∃t,0<t/\t<2^46/\row.getD ↥s.i 0*row.getD ↥s.j 0*(kW row s).1=Ic row s*(t*t):=by
 let⟨d,c⟩:=rP h.1 h1
 let e:Ic row s=dz (dz (eG (row.getD ↥s.i 0)) (eG (row.getD ↥s.j 0))) (kW row s).1:=by
  change dz (dz (dz 1 _) _) _=_;rw[DD]
 generalize row.getD ↥s.i 0=a at *;generalize row.getD ↥s.j 0=b at *;generalize Ic row s=o at *;generalize (kW row s).1=m at *;let⟨p,p1,D,G⟩:=rT d.1 d.2;let⟨q,r,A,w⟩:=rT c.1 c.2;let⟨_,z,_,v,_⟩:=kr p1.1 r.1;let f:dz (eG a) (eG b)≠0:=ä z v;let⟨_,H,_,F,_⟩:=kr f n;let o0:dz (dz (eG a) (eG b)) m≠0:=ä H F;let⟨g,E,ge⟩:=P2 p1.1 r.1;let⟨k,B,l⟩:=P2 f n;rw[<-e] at l o0
 let eq:a*b*m=o*((p*q*g*k)*(p*q*g*k)):=by
  generalize eG a=x at *;generalize eG b=y at *;generalize dz x y=J at *;rw[G,w];let:x*(p*p)*(y*(q*q))*m=(x*y)*m*(p*q*(p*q)):=by grind
  rw[this,ge];let:J*(g*g)*m*(p*q*(p*q))=(J*m)*(p*q*g*(p*q*g)):=by grind
  rw[this,l];grind
 let u:0<p*q*g*k:=Ĥ (Ĥ (Ĥ D A) E) B;show#[o0,p*q*g*k,u,?_,eq];generalize p*q*g*k=t at *;apply ģ;intro I;let big:(2:Int)^46*2^46<=t*t:=Ť .b .b .a .b;let e1:=congrArg Int.natAbs eq;rw[ļ,ļ,ļ] at e1;let b1:=afa (afa (ŋ d.2) (ŋ c.2)) (ŋ C);let b2:(t*t).natAbs<=o.natAbs*(t*t).natAbs:=ae6 _ .b;lia
def Pp{row:.L}{s:dO}(h:yT row s)(ok:mR row s):PM row s (N7 row s):=by
 let⟨h1,⟨h2,b⟩,c⟩:=ok
 let a:(kW row s).1≠0/\(kW row s).1.natAbs<1073741824:=by
  unfold Fz at b;let:=(ad_.mp b).1;unfold rq at this;simpa using this
 let⟨o0,t⟩:=VD h h1 a.1 a.2;show#[h1,h.1,h.2.1,h.2.2,a.2,c,o0,t]
def Mr(row:.L)(s:dO):Tb:=Xr row s (N7 row s)
def oh(a:Int):dc (a,1):=#[by change(1:Int)<=1;decide,by change È a 1=1;show ahx _]
def GY{j d i c m g n f k e l C2 S1 h:Int}(c1:m*(d*d)=j*j*g)(c2:n*(c*c)=i*i*f)(c3:k*(1*g)=a*m*e)(c4:l*(1*f)=b*n*C2)(r:S1*(e*C2)=(k*C2+l*e)*h):
  S1*(d*d*c*c)*(g*f*e*C2)=(a*j*j*c*c+b*i*i*d*d)*h*(g*f*e*C2):=by
 let q:S1*(d*d*c*c)*(g*f*e*C2)=(S1*(e*C2))*(d*d*c*c*g*f):=by grind
 let p:((k*C2+l*e)*h)*(d*d*c*c*g*f)=(k*(1*g))*(C2*h*d*d*c*c*f)+(l*(1*f))*(e*h*d*d*c*c*g):=by grind
 let o:(a*m*e)*(C2*h*d*d*c*c*f)+(b*n*C2)*(e*h*d*d*c*c*g)=(m*(d*d))*(a*e*C2*h*c*c*f)+(n*(c*c))*(b*C2*e*h*d*d*g):=by grind
 rw[q,r,p,c3,c4,o,c1,c2];grind
def Fd{x y:Fr}(e:dc x)(d:dc y):cV (aE (a,1) (aE x x)) (aE (b,1) (aE y y))=TC a b x y:=by
 let i:=bC e e;let g:=bC d d;let j:=bC (oh a) i;let c:=bC (oh b) g;let f:=e.ne;let h:=d.ne;let l:x.2*x.2*y.2*y.2≠0:=ä (ä (ä f f) h) h;show(mj l (uY j c) ?_).symm;let c1:(aE x x).1*(x.2*x.2)=(x.1*x.1)*(aE x x).2:=bT _ _;let c2:(aE y y).1*(y.2*y.2)=(y.1*y.1)*(aE y y).2:=bT _ _;let c3:(aE (a,1) (aE x x)).1*(1*(aE x x).2)=(a*(aE x x).1)*(aE (a,1) (aE x x)).2:=bT _ _;let c4:(aE (b,1) (aE y y)).1*(1*(aE y y).2)=(b*(aE y y).1)*(aE (b,1) (aE y y)).2:=bT _ _;let m:(cV (aE (a,1) (aE x x)) (aE (b,1) (aE y y))).1*((aE (a,1) (aE x x)).2*(aE (b,1) (aE y y)).2)=((aE (a,1) (aE x x)).1*(aE (b,1) (aE y y)).2+(aE (b,1) (aE y y)).1*(aE (a,1) (aE x x)).2)*(cV (aE (a,1) (aE x x)) (aE (b,1) (aE y y))).2:=bT _ _;let e1:=i.ne;let e2:=g.ne;let e3:=j.ne;let e4:=c.ne;generalize (cV (aE (a,1) (aE x x)) (aE (b,1) (aE y y)))=S at *;generalize (aE (a,1) (aE x x))=A at *;generalize (aE (b,1) (aE y y))=C at *;generalize aE x x=X at *;generalize aE y y=σ at *;let k:X.2*σ.2*A.2*C.2≠0:=ä (ä (ä e1 e2) e3) e4;apply ael k;generalize X.1=s at *;generalize X.2=r at *;generalize σ.1=t at *;generalize σ.2=z at *;generalize A.1=p at *;generalize A.2=w at *;generalize C.1=v at *;generalize C.2=C2 at *;generalize S.1=S1 at *;generalize S.2=B at *;generalize x.1=n at *;generalize x.2=q at *;generalize y.1=u at *;generalize y.2=o at *;show GY c1 c2 c3 c4 m
def QP{row:.L}{s:dO}(b:dc s.x)(a:dc s.y):val (kW row s)=(row.getD ↥s.i 0:Rat)*val s.x*val s.x+(row.getD ↥s.j 0:Rat)*val s.y*val s.y:=by
 change val (TC _ _ _ _)=_;let d:=bC b b;let c:=bC a a;rw[<-Fd b a,val_add (bC (oh _) d) (bC (oh _) c),val_mul (oh _) d,val_mul (oh _) c,val_mul b b,val_mul a a,y_,y_];grind
def KR{row:.L}{s:dO}(h:yT row s)(ok:mR row s):∃t:Int,0<t/\t<2^46/\row.getD ↥s.i 0*row.getD ↥s.j 0*(kW row s).1=Ic row s*(t*t)/\VY row.length ↥s.i ↥s.j (val s.x) (val s.y) (-(row.getD ↥s.j 0:Rat)*(val s.y*(t:Rat)⁻¹)) ((row.getD ↥s.i 0:Rat)*(val s.x*(t:Rat)⁻¹)) (Mr row s):=by
 let pc:=Pp h ok;let⟨t,a,f,e,b,_⟩:=pc.fc;let⟨d,lw⟩:=pc.low;let⟨l,g,k⟩:=ok.1;let c:=RL (n:=row.length) (i:=↥s.i) (j:=↥s.j) .b .b h.2.1.1 h.2.2.1 d lw;show#[t,a,f,e,?_];let lt:=Ba a
 let e1:val (aE (-row.getD ↥s.j 0,1) (aE s.y (wN row s (N7 row s))))=-(row.getD ↥s.j 0:Rat)*(val s.y*(t:Rat)⁻¹):=by
  rw[b,val_mul (oh _) (bC h.2.2.1 lt),val_mul h.2.2.1 lt,y_,val_inv .b];rw[Rat.intCast_neg]
 let e2:val (aE (row.getD ↥s.i 0,1) (aE s.x (wN row s (N7 row s))))=(row.getD ↥s.i 0:Rat)*(val s.x*(t:Rat)⁻¹):=by
  rw[b,val_mul (oh _) (bC h.2.1.1 lt),val_mul h.2.1.1 lt,y_,val_inv .b]
 rwa[e1,e2] at c
def SH{row:.L}{s:dO}(h:yT row s)(ok:mR row s):mh (CB row) (Mr row s)=CB (xy row s):=by
 let⟨t,d,_,b,c⟩:=KR h ok;let a:=QP (row:=row) h.2.1.1 h.2.2.1;let e2:kW row s=((kW row s).1,1):=by rw[<-ok.2.1.1]
 rw[e2,y_] at a;show c.led rfl rfl rfl .b a.symm (by rwa[ı (N7 row s).2])
def Ti(s:dO):Prop:=∃q b a:Int,1<=q/\Sm 645 q/\Sm 645 b/\Sm 645 a/\s.x.1*q=b*s.x.2/\s.y.1*q=a*s.y.2
def Iu{u:Fr}{n:Int}(h:dc u)(e:u.1*q=n*u.2):val u*(q:Rat)=n:=by
 let b:val u*(u.2:Rat)=u.1:=by
  let:=MR h (Ϩ u.2);rw[Int.fdiv_self (by let:=h.1;lia),Ċ] at this;rw[this,aij]
 let a:(u.2:Rat)≠0:=λz=>by
  let:=ag9.mp (by rw[z];rfl:((u.2:Int):Rat)=((0:Int):Rat));let:=h.1;lia
 let c:(u.1:Rat)*q=n*u.2:=by
  let:=congrArg (λz:Int=>(z:Rat)) e
  push_cast at this
  show this
 let v4:val u*(q:Rat)*u.2=n*u.2:=by rw[<-c,<-b];grind
 let:=congrArg (λz=>z*(u.2:Rat)⁻¹) v4;rwa[Rat.mul_assoc,afC _ a,agK,Rat.mul_assoc,afC _ a,agK] at this
def P0{row:.L}{s:dO}(h:yT row s)(ok:mR row s)(C:Ti s):Sq row.length (Mr row s)/\∃α:Int,1<=α/\α.natAbs<=2^691/\Ot α (2^691) (Mr row s):=by
 let⟨t,A,I,_,c⟩:=KR h ok;let⟨H,G⟩:=rP h.1 ok.1;let⟨b,o,m,b1,E,e,v,e1,e2⟩:=C;let F:1<=b*t:=Ĥ .b A;let st:Sm 46 t:=by unfold Sm;lia
 let d:(b*t).natAbs<=2^691:=ŋ (E.mul st);let k:=Iu h.2.1.1 e1;let l:=Iu h.2.2.1 e2
 let u:(t:Rat)*(t:Rat)⁻¹=1:=afC _ λz=>by
  let:=ag9.mp (by rw[z];rfl:((t:Int):Rat)=((0:Int):Rat));lia
 let w:Sm 30 (row.getD ↥s.i 0):=by unfold Sm;lia
 let B:Sm 30 (row.getD ↥s.j 0):=by unfold Sm;lia
 show#[c.sq,b*t,F,d,Ot.of c.sq λp hp q D=>?_];let f:((b*t:Int):Rat)=(b:Rat)*t:=by push_cast;rfl
 rw[f];generalize (t:Rat)⁻¹=r at *;by_cases g:q=↥s.i
 .subst g;by_cases pi:p=↥s.i
  .subst pi;rw[c.ii];show#[o*t,ŋ (e.mul st),?_]
   push_cast
   rw[<-k];grind
  .by_cases a:p=↥s.j
   .subst a;rw[c.ji];show#[m*t,ŋ (v.mul st),?_]
    push_cast
    rw[<-l];grind
   .rw[(c.ci p hp pi a).1];show#[0,Ņ _,by rw[agx];rfl]
 .by_cases n:q=↥s.j
  .subst n;by_cases pi:p=↥s.i
   .subst pi;rw[c.zj];show#[-row.getD ↥s.j 0*m,ŋ ((B.neg.mul v).le .a),?_]
    push_cast
    rw[<-l];let:-(row.getD ↥s.j 0:Rat)*(val s.y*r)*((b:Rat)*t)=-(row.getD ↥s.j 0:Rat)*(val s.y*b)*(t*r):=by grind
    rw[this,u,agK]
   .by_cases a:p=↥s.j
    .subst a;rw[c.jj];show#[row.getD ↥s.i 0*o,ŋ ((w.mul e).le .a),?_]
     push_cast
     rw[<-k];let:(row.getD ↥s.i 0:Rat)*(val s.x*r)*((b:Rat)*t)=(row.getD ↥s.i 0:Rat)*(val s.x*b)*(t*r):=by grind
     rw[this,u,agK]
    .rw[(c.ci p hp pi a).2];show#[0,Ņ _,by rw[agx];rfl]
  .rw[c.pl p q hp D g n];split
   .show#[b*t,d,by rw[Χ,f]]
   .show#[0,Ņ _,by rw[agx];rfl]
def Good:.L->List dO->Prop
 |_,[]=>True
 |row,s::a=>yT row s/\mR row s/\Ti s/\Good (xy row s) a
def DS(row:.L)(T:Tb):List dO->.L×Tb
 |[]=>(row,T)
 |s::a=>DS (xy row s) (iL T (Mr row s)) a
def Jn(row:.L)(s:dO):(xy row s).length=row.length:=by unfold xy T7;rw[Ō,Ō]
def R3{row:.L}{s:dO}(h:yT row s)(ok:mR row s):bh (xy row s)=Á:=by
 let a:(kW row s).1≠0/\(kW row s).1.natAbs<1073741824:=by
  let:=(ad_.mp (show(rq (kW row s).1&&_)=Á from ok.2.1.2)).1;unfold rq at this;simpa using this
 let⟨o0,_⟩:=VD h ok.1 a.1 a.2;let c:=cF h.1;unfold bh;rw[ź,aeC,aeV,Jn];show#[c,λx b=>?_];unfold rq;rw[aeC];obtain z|z:=aeG b
 .obtain z|z:=aeG z
  .show bV h.1 z
  .rwa[z]
 .rw[z];show#[o0,ok.2.2]
structure xX(row0:.L)(k:Nat)(row:.L)(T:Tb):Prop where
 len:row.length=row0.length
 isr:bh row=Á
 sq:Sq row0.length T
 ot:∃α:Int,1<=α/\α.natAbs<=2^(691*k)/\Ot α (2^(694*k)) T
 led:mh (CB row0) T=CB row
def xX.start{row:.L}(h:bh row=Á):xX row 0 row (uU row.length):=by
 let a:=g_ row.length;show#[rfl,h,a,#[1,.a,.a,Ot.of a λi hi j b=>?_],Rx (Bb row)];rw[Gj hi b];split
 .show#[1,.a,by rw[Χ]]
 .show#[0,Ņ _,by rw[agx];rfl]
def xX.step{a row:.L}{k:Nat}{T:Tb}{s:dO}(I:xX a k row T)(h:yT row s)(ok:mR row s)(b:Ti s):xX a (k+1) (xy row s) (iL T (Mr row s)):=by
 let⟨cs,N,e,i,co⟩:=P0 h ok b;let⟨α,c,d,mo⟩:=I.ot;rw[I.len] at cs;let l:=cF h.1;let j:=I.len;show#[by rw[Jn];show I.len,R3 h ok,I.sq.iL cs,#[α*N,Ĥ c e,?_,?_],?_]
 .rw[ļ,(.b:691*(k+1)=691*k+691),ϸ];show afa d i
 .let:=mo.iL co I.sq cs;intro r f u g;show(this r f u g).mono ?_;rw[(.b:694*(k+1)=3+(694*k+691)),ϸ,ϸ];show afa .b (ú _)
 .rw[<-MN (Bb a) I.sq cs,I.led];show SH h ok
def xX.pt{c row:.L}{k:Nat}{T:Tb}(I:xX c k row T)(n:k<=2)(l:c.length<=3):AQ c.length T:=by
 let⟨α,g,h,mo⟩:=I.ot;let m:=cF I.isr;let j:=I.len
 let key:∀r∈T,∀u∈r,Sm 1389 u.1/\Sm 1383 u.2:=λr d u e=>by
  let⟨a,b,_⟩:=FO (mo r d u e) (I.sq.low r d u e) g;let p1:(2:Nat)^(694*k)<=2^1388:=aep .a .b;let p2:(2:Nat)^(691*k)<=2^1382:=aep .a .b;let f:(2:Nat)^1388<2^1389:=aeD .a .a;let i:(2:Nat)^1382<2^1383:=aeD .a .a;show#[Η (ĭ a p1) f,Η (ĭ b (ĭ h p2)) i]
 show#[I.sq,.b,λr d u e=>(key r d u e).1.le .a,λr d u e=>(key r d u e).2.le .a]
def UJ{row:.L}{s:dO}(h:yT row s)(ok:mR row s)(e:Ti s)(i:row.length<=3):AQ row.length (Mr row s):=by
 let⟨cs,N,f,g,co⟩:=P0 h ok e;let j:=cF h.1
 let key:∀r∈Mr row s,∀u∈r,Sm 692 u.1/\Sm 692 u.2:=λr c u d=>by
  let⟨a,b,_⟩:=FO (co r c u d) (cs.low r c u d) f;show#[Η a (aeD .a .a),Η (ĭ b g) (aeD .a .a)]
 show#[cs,.b,λr c u d=>(key r c u d).1.le .a,λr c u d=>(key r c u d).2.le .a]
theorem BD(s:dO):∀(a:List dO) (row:.L) (T:Tb),DS row T (a++[s])=(xy (DS row T a).1 s,iL (DS row T a).2 (Mr (DS row T a).1 s))
 |[],_,_=>rfl
 |_::a,_,_=>BD s a _ _
def my(row:.L)(a:List dO):.L×Tb:=DS row (uU row.length) a
def uZ{row:.L}{a:List dO}{s:dO}(h:a[i]?=À s):my row (a.take (i+1))=(xy (my row (a.take i)).1 s,iL (my row (a.take i)).2 (Mr (my row (a.take i)).1 s)):=by
 unfold my;rw[aeT,h];show BD s _ _ _
theorem F6{row:.L}{a:List dO}(h:bh row=Á)(g:Good row a):∀i,i<=a.length->xX row i (my row (a.take i)).1 (my row (a.take i)).2/\Good (my row (a.take i)).1 (a.drop i)
 |0,_=>#[xX.start h,g]
 |i+1,hi=>by
  let⟨I,G⟩:=F6 h g i .b;let d:a[i]?=À a[i]:=Đ .b;rw[afd .b] at G;let⟨e,c,b,f⟩:=G;rw[uZ d];show#[I.step e c b,f]
def Tq(row:.L)(a:List dO):Prop:=bh row=Á/\(a.length<=3/\row.length<=3)/\Good row a
def vo{row:.L}{a:List dO}{s:dO}(d:bh row=Á)(g:Good row a)(c:a[i]?=À s):i<a.length/\xX row i (my row (a.take i)).1 (my row (a.take i)).2/\yT (my row (a.take i)).1 s/\mR (my row (a.take i)).1 s/\Ti s:=by
 let b:i<a.length:=(adk.mp c).1;let⟨I,G⟩:=F6 d g i .b;rw[afd b] at G;let es:a[i]=s:=by rw[Đ b] at c;show ĳ c
 rw[es] at G;show#[b,I,G.1,G.2.1,G.2.2.1]
abbrev acF(P w K mg base):=aG P w K mg base 1 "row_with" ["row","step","numbers"] (tZ K (fun(r:.L) (d:Dt) (_:Fr)=>∃s,d.d=me s/\C7 r s) Á V4)
abbrev acE(P w K mg base):=aG P w K mg base 4 "change_to" ["row","step","numbers"] (tZ K (fun(r:.L) (d:Dt) (u:Fr)=>∃s,d.d=me s/\PM r s u) Á Wq)
abbrev acD(P w K mg base):=aG P w K mg base 8 "numbers_behind" ["row","step"] (bw K (fun(r:.L) (d:Dt)=>∃s,d.d=me s/\yT r s/\mR r s) Á VT)
abbrev acC(P w K mg base):=aG P w K mg base 5 "product" ["one","other"] (bw K (fun(A B:Tb)=>∃n,AQ n A/\AQ n B) Á iL)
def xC(p:⇑ace)(o:⇑aG 2 "plain_table" ["n"] (cj K (λn=>(0:Int)<=n/\n<=8) Á Of))(j:⇑acC)(z:⇑acD)(u:⇑acE)(q:⇑acF)(row:.L)(a:List dO)(hp:Tq row a):⇑Body om "all_stepped" jW f 9 [.val Â row,.val Â a] (RT Á (my row a)):=by
 intro v A outer F H E c;let⟨k,⟨G,C⟩,g⟩:=hp;let J:=cF k;show k_ (aC p (c.mono .a) rfl .A k) ?_;show ao 2 cu.nd (qx rfl B.list .A) ?_;show ao 3 cu.nd (aC o (c.mono .a) rfl (bx rfl B.len .A) #[.b,.b]) ?_;show jO (b:=Â) (λi U=>∃e l,U=[À (.val Â row),À (.val Â a),À (.val Á (my row (a.take i)).1),À (.val Á (my row (a.take i)).2),e,l]) (bW 4 cu.nd) .B #[none,none,rfl] ?_ ?_
 .rintro i s U' m ⟨e,l,rfl⟩;let⟨D,I,h,d,t⟩:=vo k g m;let len:=I.len;let pt:=I.pt .b C;rw[uZ m];generalize (my row (a.take i)).1=r at *;generalize (my row (a.take i)).2=T at *;let cp:=UJ h d t .b;rw[len] at cp;show ao 5 cu.nd (av z (c.mono .a) rfl .C (oB .E) #[s,rfl,h,d]) ?_;show ao 3 cu.nd (av j (c.mono .a) rfl .D (cP u (c.mono .a) rfl .C (oB .E) (aa 5) #[s,rfl,Pp h d]) #[row.length,pt,cp]) ?_;show ao 2 cu.nd (cP q (c.mono .a) rfl .C (oB .E) (aa 5) #[s,rfl,d.1]) ?_;show aN #[_,_,rfl]
 .rintro U' ⟨e,l,rfl⟩;rw[ŷ];show ay (bj (b1:=Á) (b2:=Á) (x:=(my row a).1) (y:=(my row a).2) .C .D) rfl
def Ax(n:⇑acD)(j:⇑acF)(row:.L)(a:List dO)(hp:Tq row a):⇑Body pL "row_behind" lh f 8 [.val Â row,.val Â a] (RT Á (my row a).1):=by
 intro k A outer q H E h;let⟨l,_,g⟩:=hp;show ao 2 gC.nd (qx rfl B.list .A) ?_;show jO (b:=Â) (λi U=>∃c,U=[À (.val Â row),À (.val Â a),À (.val Á (my row (a.take i)).1),c]) (bW 3 gC.nd) .B #[none,rfl] ?_ ?_
 .rintro i s U' e ⟨c,rfl⟩;let⟨o,I,m,d,p⟩:=vo l g e;rw[uZ e];generalize (my row (a.take i)).1=r at *;show ao 2 gC.nd (cP j (h.mono .a) rfl .C (oB .D) (av n (h.mono .a) rfl .C (oB .D) #[s,rfl,m,d]) #[s,rfl,d.1]) ?_;show aN #[_,rfl]
 .rintro U' ⟨c,rfl⟩;rw[ŷ];show ay .C rfl
noncomputable def Jz(a b:.L)(p:Int):Bool:=!decide (p∈a) || !decide (p∈b)
noncomputable def NS(a b:.L):Option Int:=(rZ (a++b)).find? (Jz a b)
theorem Gk{f:Int->Bool}:∀{l:.L} {i:Nat} {a:Int},l[i]?=À a->(∀x∈l.take i,f x=Â)->f a=Á->l.find? f=À a
 |[],_,_,h,_,_=>by simp at h
 |b::l,0,a,h,_,c=>by cases h;show List.find?_cons_of_pos c
 |b::l,i+1,a,h,d,c=>by
  rw[List.find?_cons_of_neg (by rw[d b .c];show ł)];show Gk (i:=i) ↑h (λx e=>d x (by simp[e])) c
def Nz{f:Int->Bool}(h:∀x∈l,f x=Â):l.find? f=none:=List.find?_eq_none.mpr λx a=>by rw[h x a];show ł
def take_all{f:Int->Bool}(h:l[i]?=À a)(d:∀x∈l.take i,f x=Â)(c:f a=Â):∀x∈l.take (i+1),f x=Â:=λx b=>by
 rw[aeT,h] at b;obtain z|z:=adQ.mp b
 .show d x z
 .rwa[adv.mp z]
def mD(a b:.L)(h:a.length+b.length<64):⇑Body gN "first_in_one_alone" d7 f kk [.val Â a,.val Â b] (RT Á (NS a b)):=by
 intro k A outer s H E l;show qI (M:=Int) (as:=rZ (a++b)) (b:=Á) (λi U=>∃r,U=[À (.val Â a),À (.val Â b),r]/\∀x∈(rZ (a++b)).take i,Jz a b x=Â) (bW 2 fT.nd) (bA (F5 rfl B.sorted (tj .A .B .b) (by rwa[ų]))) #[none,rfl,λx j=>by simp at j] ?_ ?_
 .rintro i p U' hp ⟨r,rfl,d⟩;show aQ (c:=Jz a b p) (TW.t (iS (aD E5 .C .A) λ_=>(gT (aD E5 .C .B)))) (λg=>?_) (λg=>?_)
  .let e:NS a b=À p:=Gk hp d g;rw[e];show ay ((aa 2).some) rfl
  .show aN #[_,rfl,take_all hp d g]
 .rintro U' ⟨r,rfl,d⟩;rw[ŷ] at d;let e:NS a b=none:=Nz d;rw[e];show ay (j9 (M:=Int)) rfl
inductive Pt where
 |no
 |w (s:Í)
 |pl (p:Int)
noncomputable def Qt:Pt->ì
 |.no=>.none
 |.w s=>.tuple [.str s]
 |.pl p=>.tuple [.str "place",.int p]
def KA(a b:.L):Pt:=if a.length≠b.length then .w "size" else if Ow a≠Ow b then .w "signs" else if HN a≠HN b then .w "number" else match NS (LQ a) (LQ b) with
 |none=>.no
 |some p=>.pl p
def Ts(a b:.L):Dt:=Dt.mk (Qt (KA a b))
def U2(row:.L):Nat:=(row.map λx:Int=>(nN (x.natAbs:Int)).length).sum
structure GR(c m:Nat)(row:.L):Prop where
 len:1<=row.length/\row.length<=8
 nz:∀x∈row,x≠0/\x.natAbs<1073741824
 np:U2 row<=c
 pr:∃α:.L,α.length<=m/\∀x∈row,∀q,aT q=Á->q∣x->q∈α
theorem GR.row{c m:Nat}{row:.L}(h:GR c m row):bh row=Á:=by
 unfold bh;rw[ado h.len,afW];show aeV.mpr λx a=>by unfold rq;show ado (h.nz x a)
def Rc(row:.L):(yV row).length=U2 row+1:=by
 unfold yV U2;rw[ŭ,List.length_flatMap];congr 3;funext x;show ą ..
def GR.po{row:.L}(h:GR 61 m row):HQ row:=#[by let:=h.len;lia,λk a=>by let:=h.nz k a;lia,by rw[Rc];let:=h.np;lia]
def CN{row:.L}(nz:∀x∈row,x≠0):q∈nD row↔q=2\/(aT q=Á/\∃a∈row,q∣a):=by
 unfold nD;rw[gJ];unfold yV;rw[ě,agV];show aib ?_;constructor
 .rintro⟨a,ha,d⟩;let h1:1<=(a.natAbs:Int):=by let:=nz a ha;lia
  let⟨b,c⟩:=(gG h1).mp d;show#[b,a,ha,aet.mp c]
 .rintro⟨b,a,ha,c⟩;let h1:1<=(a.natAbs:Int):=by let:=nz a ha;lia
  show#[a,ha,(gG h1).mpr #[b,aet.mpr c]]
def Ph{c:Nat}{row:.L}(h:GR c m row):∀p∈nD row,2<=p/\p<2^31:=λp hp=>by
 rcases(CN λx e=>(h.nz x e).1).mp hp with rfl|⟨h1,a,ha,d⟩
 .decide
 .let:=h.nz a ha;let:=ĝ (b:=(a.natAbs:Int)) .b (aet.mpr d);show#[az h1,.b]
def GR.no{row:.L}(h:GR 61 m row):VU row:=#[h.row,h.po,λp hp=>by let:=Ph h p hp;lia]
def Al{row:.L}(nz:∀x∈row,x≠0):p∈LQ row↔Pl p/\qv p row=Â:=by
 unfold LQ;rw[aeb,ě,CN nz];constructor
 .rintro⟨h1,h2⟩;show#[?_,↑h2];obtain h|h|h:=h1
  .show .inl h
  .show .inr (by rw[h];show bQ)
  .show .inr h.1
 .rintro⟨h1,h2⟩;show#[?_,↑h2];obtain h|h:=h1
  .show .inl h
  .by_cases b:p=2
   .show .inr (.inl b)
   .show .inr (.inr #[h,?_]);apply ģ;intro d;rw[Ek h b λn a c=>d #[n,a,c]] at h2;cases h2
def LM{c:Nat}{row:.L}(h:GR c m row):(LQ row).length<=m+2:=by
 let⟨α,g,d⟩:=h.pr;let nz:∀x∈row,x≠0:=λx b=>(h.nz x b).1
 let h1:((0:Int)::nD row).length<=(0::2::α).length:=by
  show rQ ?_ λx b=>?_
  .show aeB.mpr #[λz=>?_,(iW _).imp λh=>by lia];let:=Ph h 0 z;lia
  .obtain e|e:=ě.mp b
   .rw[e];simp
   .rcases(CN nz).mp e with e|⟨e,a,ha,f⟩
    .rw[e];simp
    .let:=d a ha x e f;simp[this]
 let h2:(LQ row).length<=((0:Int)::nD row).length:=agX _ _;simp only[ŭ] at h1 h2;lia
def Tn(a b:.L):Prop:=∃d c,GR 61 d a/\GR 61 c b/\d+c<=55
def GR.fp{c:Nat}{row:.L}(h:GR c m row):Cm row:=#[h.len.2,h.nz]
abbrev acH(P w K mg base):=aG P w K mg base 1 "first_in_one_alone" ["one","other"] (bw K (fun(a b:.L)=>a.length+b.length<64) Á NS)
abbrev acG(P w K mg base):=aG P w K mg base 5 "signs_of" ["row"] (cj K (fun(r:.L)=>bh r=Á) Á Ow)
def Hu(j:⇑ace)(i:⇑acG)(Yt:⇑acA)(k:⇑aG 6 "noes_of" ["row"] (cj K VU Á LQ))(m:⇑acH)(a b:.L)(hp:Tn a b):⇑Body yL "parting" sG f 7 [.val Â a,.val Â b] (RT Á (Ts a b)):=by
 intro l A outer s H E e;let⟨o,q,ha,g,r⟩:=hp;let n:=LM ha;let t:=LM g;unfold Ts KA;show k_ (aC j (e.mono .a) rfl .A ha.row) ?_;show k_ (aC j (e.mono .a) rfl .B g.row) ?_;show aQ (aD cw (bx rfl B.len .A) (bx rfl B.len .B)) (λd=>?_) (λd=>?_)
 .rw[ac6 (by simp at d;lia)];show ay (xo (ds:=[Dt.mk (.str "size")]) (b:=Á) (aF (MX FG) bD) (by change 1<=1000;decide)) rfl
 rw[ac2 (by simp at d;lia)];show aQ (aD cw (aC i (e.mono .a) rfl .A ha.row) (aC i (e.mono .a) rfl .B g.row)) (λd=>?_) (λd=>?_)
 .rw[ac6 ↑d];show ay (xo (ds:=[Dt.mk (.str "signs")]) (b:=Á) (aF (MX FG) bD) (by change 1<=1000;decide)) rfl
 rw[ac2 ↑d];show aQ (aD cw (aC Yt (e.mono .a) rfl .A ha.fp) (aC Yt (e.mono .a) rfl .B g.fp)) (λd=>?_) (λd=>?_)
 .rw[ac6 ↑d];show ay (xo (ds:=[Dt.mk (.str "number")]) (b:=Á) (aF (MX FG) bD) (by change 1<=1000;decide)) rfl
 rw[ac2 ↑d];show ao 2 vY.nd (av m (e.mono .a) rfl (aC k (e.mono .a) rfl .A ha.no) (aC k (e.mono .a) rfl .B g.no) .b) ?_;cases NS (LQ a) (LQ b) with
 |none =>
  show ay (ko (M:=Dt) (x:=Dt.mk .none) (y:=Dt.mk .none) (b:=Á) (c:=Á) (t8 (M:=Int) (x:=none) .C λ_ _ _ _ h=>nomatch h) (λ_=>WR (j9 (M:=Int))) λh=>nomatch h) ?_;rfl
 |some p =>
  show ay (ko (M:=Dt) (x:=Dt.mk .none) (y:=Dt.mk (.tuple [.str "place",.int p])) (b:=Á) (c:=Â) (t8 (M:=Int) (x:=À p) .C λ_ _ _ _ h=>nomatch h) (λh=>nomatch h) λ_=>xo (ds:=[Dt.mk (.str "place"),Dt.mk (.int p)]) (aF (MX FG) (aF (Ru (mB (a:=p) .C)) bD)) (by change 2<=1000;decide)) ?_;rfl
open Q (Fr)
def F_(h:xV l=none):dM l 0=Á/\∀q,aT q=Á->dM l q=Á:=by
 let:=J0 l;rwa[h] at this
def vC(h:∀p,Pl p->dM l p=Á):xV l=none:=(oN (r:=none) #[h 0 (.inl rfl),λq a=>h q (.inr a)]).symm
def TL(h:xV l=none)(hp:p∈P7):dM l p=Á:=by
 obtain z|z:=fI hp
 .rw[z];show(F_ h).1
 .show(F_ h).2 p z.2.1
def Jy(h:uh Q6 a):(nN (a.natAbs:Int)).length<=6:=by
 let n:=h.1;let h1:1<=(a.natAbs:Int):=by lia
 let key:((nN (a.natAbs:Int)).map (·.1)).length<=Q.Q6.length:=rQ (by let⟨⟨b,e⟩,_⟩:=rG h1;show(wy e).1.imp λh=>by lia) λx d=>by
  let⟨c,f⟩:=(gG h1).mp d;show h.2 x c (aet.mp f)
 rwa[ą] at key
theorem KW:∀{l:.L} {n:Nat},(∀a∈l,(nN (a.natAbs:Int)).length<=n)->(l.flatMap λk=>(nN (k.natAbs:Int)).map (·.1)).length<=l.length*n
 |[],n,_=>by simp
 |a::l,n,h=>by
  let h1:=KW (l:=l) (n:=n) λx b=>h x (Ě _ b);let h2:=h a (Ġ ..);rw[ϡ,ų,ą,ŭ,Nat.add_mul,Ω];lia
def Qz(c:l.length<=9)(h:∀a∈l,a.natAbs<1073741824/\uh Q6 a):HQ l:=by
 show#[.b,λk b=>?_,?_]
 .let:=h k b;let:=this.2.1;lia
 .let:=KW (n:=6) λa ha=>Jy (h a ha).2;unfold yV;rw[ŭ];lia
def Ob(b:l.length<=9)(h:∀a∈l,a∈cD 6):HQ l:=Qz b λa ha=>#[by let:=kN (h a ha);lia,vF (h a ha)]
def P9(h:∀a∈l,a∈cD 6)(d:q∈nD l):q∈P7:=by
 rcases(Lm λx c=>bL (h x c)).mp d with z|⟨z,a,ha,b⟩
 .rw[z];decide
 .show Ě _ (y8 (h a ha) z b)
def Q4(h:∀a∈l,a∈cD 6):(nD l).length<=50:=by
 let:(nD l).length<=P7.length:=rQ ((iW _).imp λh=>by lia) λx b=>P9 h b;let e:P7.length=7:=rfl;lia
def Gh(h:a∈cD 6):a≠0/\Sm 62 a:=by
 let:=kN h;show#[bL h,by unfold Sm;lia]
def Jq(ha:a∈cD 6)(i:b∈cD 6)(f:c∈cD 6)(g:d∈cD 6)(h:xV [a,b,c,d]=none):V1 [a,b] [c,d]:=by
 let all:∀x∈[a,b]++[c,d],x∈cD 6:=λx e=>by
  simp only[agU,ag1,ě,ğ,adM] at e;obtain rfl|rfl|rfl|rfl:=e<;>assumption
 show#[by change 2<=8;decide,by change 2<=8;decide,λx e=>Gh (all x (aeA _ e)),λx e=>Gh (all x (ŧ _ e)),Ob (by change 4<=9;decide) all,Q4 all,λq j=>P9 all j,λp hp=>by
  rw[BI]
  show Uu hp (bL ha) (bL i) (bL f) (bL g) (TL h hp)]
def R1(q:Int):Prop:=q=1\/(aT q=Á/\17<=q/\q<=8089)
def Pq(hp:2<=p)(ha:a≠0):(a9 a p).2≠0:=λz=>by
 let⟨_,_,b⟩:=fE hp ha;show b (by rw[z];show afT _)
theorem KO:∀(ps:.L) {a b:Int},(∀p∈ps,aT p=Á)->a≠0->b≠0->lf ps (a*b)=lf ps a*lf ps b
 |[],a,b,_,_,_=>rfl
 |p::ps,a,b,h,ha,c=>by
  let hp:=h p (Ġ ..);let p2:=az hp;change lf ps (a9 (a*b) p).2=lf ps (a9 a p).2*lf ps (a9 b p).2;rw[Fu hp ha c];show KO ps (λq d=>h q (Ě _ d)) (Pq p2 ha) (Pq p2 c)
def Si:∀p∈SP,aT p=Á:=jN
def Vx:lf SP 30030=1:=by
 let b:∀(a p:Int),2<=p->¬p∣a->(a9 (a*p) p).2=a:=λa p hp c=>by
  let:=u_ (v:=1) hp c;rw[ĥ,Ń,Ő] at this;rw[this]
 change(a9 (a9 (a9 (a9 (a9 (a9 30030 2).2 3).2 5).2 7).2 11).2 13).2=1;rw[show(30030:Int)=15015*2 from rfl,b 15015 2 .a .a,show(15015:Int)=5005*3 from rfl,b 5005 3 .a .a,show(5005:Int)=1001*5 from rfl,b 1001 5 .a .a,show(1001:Int)=143*7 from rfl,b 143 7 .a .a,show(143:Int)=13*11 from rfl,b 13 11 .a .a];show b 1 13 .a .a
def Qw(h:g∈cD 6):lf SP g.natAbs=1:=by
 let n:=bL h;obtain⟨c,d⟩:(g.natAbs:Int)∣30030:=ahg.mpr (lF h)
 let c0:0<c:=by
  apply ģ;intro z;let:=adL (a:=(g.natAbs:Int)) (b:=c) .b .b;lia
 let e:=Vx;rw[d,KO SP Si .b .b] at e;let p1:=(zh SP (g.natAbs:Int) JA .b).1;let p2:=(zh SP c JA c0).1;show Int.eq_one_of_mul_eq_one_right .b e
def GC(h:a∈cD 6):AZ a=Á:=by
 let h1:=bL h;let h2:=kN h;unfold AZ rq;rw[ado #[h1,.b],afW,Qw h];let:rt 1=1:=(fe (k:=1) (r:=1) .a .a .a).symm;rw[this];rfl
def IT(h:a∈cD 6):eG a=a:=by
 let t:Tame (a.natAbs*1):=by rw[Ċ];show qJ (by let:=bL h;lia) (by let:=kN h;lia)
 change(Mh a 1).1=a;rw[Ej (s:=1) (bL h) .a t (jE h) .a .b]
def Ie(a b c:Int):Prop:=Tw [a,b,-c]/\xV [a,b,-c]=none
def R9{t:Int}(hp:Ie a b c)(h1:l5 [x,y,t]=1)(h2:a*(x*x)+b*(y*y)+-c*(t*t)=0)(d:Sm 602 x/\Sm 602 y/\Sm 602 t):MV 602 [a,b] c [x,y,t]:=by
 let m:∀z∈[a,b,-c],z≠0/\z.natAbs<1073741824:=λz hz=>bV hp.1.row hz;let e:=m a .c;let f:=m b .c;let g:=m (-c) .c;show#[.a,by change 1<=2;decide,by change 2<=8;decide,λz hz=>?_,by unfold Sm;lia,rfl,h1,?_,λz hz=>?_]
 .simp only[ě,ğ,adM] at hz;obtain rfl|rfl:=hz
  .show#[e.1,by unfold Sm;lia]
  .show#[f.1,by unfold Sm;lia]
 .change 0+a*(x*x)+b*(y*y)+-c*(t*t)=0;rwa[ahD]
 .simp only[ě,ğ,adM] at hz;obtain rfl|rfl|rfl:=hz
  .show d.1
  .show d.2.1
  .show d.2.2
abbrev acI(P w K mg base):=aG P w K mg base 4 "values_by_zero" ["numbers","c","zero"] (Eh K (MV 602) Á (λl c _ vs=>VL 602 l c vs))
def uw(n:⇑aG 127 "zero_of_three" ["row"] (Hk K Tw Á Z3))(k:⇑acI)(a b c:Int)(hp:Ie a b c):⇑Body lO "values_of_two" gZ f 127 [.val Â a,.val Â b,.val Â c] (zx Á (VL 602 [a,b] c)):=by
 intro i A outer s H E g;show kR (JG (po:=MV 602 [a,b] c) k (g.mono .a) rfl (d8 (as:=[a,b]) (b:=Á) (aF (dv .A) (aF (dv .B) bD)) (by change 2<=1000;decide)) .C (RY (B5 n (g.mono .a) rfl (d8 (as:=[a,b,-c]) (b:=Á) (aF (dv .A) (aF (dv .B) (aF (dU .C) bD))) (by change 3<=1000;decide)) hp.1) λo l=>?_) λd m=>m) λz hz=>hz.elim λd h=>#[_,h.2,rfl];obtain⟨h,_⟩|⟨_,x,y,t,e,h1,h2,j⟩:=l
 .show absurd hp.2 h
 .show#[_,e,R9 hp h1 h2 j]
def Uj(_:Int):Bool:=Á
def og(d:⇑aG 3 "is_small" ["k"] (cj K (fun(_:Int)=>True) Á AZ))(YX:⇑acB)(a:Int)(h:a∈cD 6):⇑Body hZ "is_small_and_free" eI f 7 [.val Â a] (RT Á (Uj a)):=by
 intro c A outer s H E b;show ay (tW (aC d (b.mono .a) rfl .A É) λ_=>(ud (aC YX (b.mono .a) rfl .A É))) ?_
 let:Fz a=Á:=by
  let h1:=bL h;let h2:=kN h;unfold Fz rq;rw[ado #[h1,.b],IT h,ado rfl];rfl
 rw[GC h,this];rfl
def Wf(l:.L)(n:Int):Prop:=(l.length:Int)<=n/\l.length<=8/\∀a∈l,a∈cD 6
def kI(j:⇑aG 8 "is_small_and_free" ["k"] (cj K (fun(a:Int)=>a∈cD 6) Á Uj))(l:.L)(n:Int)(hp:Wf l n):⇑Body dh "refuse_great_or_long" b_ f 8 [.val Â l,.val Â n] T1:=by
 intro c A outer s H E g;let⟨h1,h2,d⟩:=hp;show aQ (TW.t (iS (aD h_ (bx rfl B.len .A) .B) λ_=>(gT (fW (eH (PD rfl rfl B.all (dg (f:=Uj) ["k"] [] (bH (af b_) dh rfl rfl .d) (bA .A) (bp 0) (λC s H fp=>cI 0 ["k"]) a8 (λi u h C s H fp=>aC j (g.mono .a) rfl .A (d u (Ĭ h))) .b))))))) (λb=>?_) (λ_=>aN É);let e:(l.map Uj).all id=Á:=by rw[List.all_map];show aeV.mpr λ_ _=>rfl
 rw[adF .b,e] at b;cases b
def UH{X:Cx}{U:aM}{e1 e2 e3 e4:Ô}{b1 b2 b3 b4:Bool}{pos:ï}{k:Nat}{s:dO}(h1:E X U e1 b1 s.i)(h2:E X U e2 b2 s.j)(f:E X U e3 b3 s.x)(g:E X U e4 b4 s.y)(e:Ã [e1,e2,e3,e4] X.env=(Â,Õ e1 X.env)::Ã [e2,e3,e4] X.env<|>zra)(a:Ã [e2,e3,e4] X.env=(Â,Õ e2 X.env)::Ã [e3,e4] X.env<|>zra)(c:Ã [e3,e4] X.env=(Â,Õ e3 X.env)::Ã [e4] X.env<|>zra)(d:Ã [e4] X.env=(Â,Õ e4 X.env)::Ã [] X.env<|>zra):
  E X U (.Tuple [e1,e2,e3,e4] k pos) Á (Dt.mk (me s)) :=
 xo (b:=Á) (ds:=[#[.int s.i],#[.int s.j],#[xD s.x],#[xD s.y]]) (aF (Ru (dv h1)) (aF (Ru (dv h2)) (aF (OS (dv f)) (aF (OS (dv g)) bD d) c) a) e) (aej rfl)
def Ro(i j a b c:Int)(s:dO):Prop:=s.i=i/\s.j=j/\VL 602 [a,b] c [s.x,s.y]
abbrev acJ(P w K mg base):=aG P w K mg base 128 "values_of_two" ["a","b","c"] (Eh K Ie Á (λa b c vs=>VL 602 [a,b] c vs))
def Gw(g:⇑acJ)(i j a b c:Int)(hp:Ie a b c):⇑Body yJ "step_to" sW f 128 [.val Â i,.val Â j,.val Â a,.val Â b,.val Â c] (zx Á (Ro i j a b c)):=by
 intro e A outer s H E h;show mi 5 v8.nd (Lg g (h.mono .a) rfl .C .D .E hp) λvs d=>?_
 match vs,d.len with
 |[x,y],_=>show ay (RK (UH (s:=#[i,j,x,y]) .A .B (aJ (a:=x) (aa 5) ae rfl) (aJ (a:=y) (aa 5) ae rfl))) #[_,#[rfl,rfl,d],rfl]
def JQ(c:R1 q)(f:ka q x)(d:ka q y):K0 (-x) y:=by
 let⟨h,k⟩:=f.lt c;let⟨i,j⟩:=d.lt c;let⟨g,_,l,_,e⟩:=TH (a:=-x) (b:=y) .b;show SR h i k j (f.neg.Wl c d) (.b:g≠0) e ((f.neg.jn d).lt c).2
def yX(d:R1 q)(ha:ka q a)(f:ka q b)(e:ka q c):Tw [a,b,c]:=S8 (λx g=>by
  simp only[ě,ğ,adM] at g;obtain rfl|rfl|rfl:=g
  .show ha.lt d
  .show f.lt d
  .show e.lt d) (JQ d ha f) (JQ d ha e)
def vU{x y:Fr}(h:VL 602 [a,b] c [x,y]):(Mp x/\Mp y)/\a*x.1*x.1*y.2*y.2+b*y.1*y.1*x.2*x.2=c*(x.2*x.2*y.2*y.2):=by
 let f:=h.sm x .c;let d:=h.sm y .c;show#[#[#[h.low x .c,f.1.le .a,f.2.le .a],#[h.low y .c,d.1.le .a,d.2.le .a]],?_];let e:(0*x.2*x.2+a*x.1*x.1*1)*y.2*y.2+b*y.1*y.1*(1*x.2*x.2)=c*(1*x.2*x.2*y.2*y.2):=h.eq;grind
def EY(b:R1 q)(h:ka q a):eG a=a:=zJ (s:=1) h.1.1 (h.lt b).2 h.1 .a .b
def Fv{row:.L}{s:dO}(r:bh row=Á)(C:C7 row s)(m:row.getD ↥s.i 0=a)(k:row.getD ↥s.j 0=b)(f:R1 q)(ha:ka q a)(l:ka q b)(g:ka q c)(n:VL 602 [a,b] c [s.x,s.y]):yT row s/\mR row s/\Ti s/\xy row s=(row.set ↥s.i c).set ↥s.j (dz (dz a b) c):=by
 let⟨⟨px,py⟩,e⟩:=vU n;let v:s.x.2*s.x.2*s.y.2*s.y.2≠0:=ä (ä (ä px.1.ne px.1.ne) py.1.ne) py.1.ne
 let em:kW row s=(c,1):=by
  change fr _ _=_;rw[m,k,e];show mj v (oh c) (by change c*_=c*_*1;rw[Ċ])
 let h:Ic row s=dz (dz a b) c:=by
  change dz (dz (dz 1 (eG (row.getD ↥s.i 0))) (eG (row.getD ↥s.j 0))) (kW row s).1=_;rw[em,m,k,EY f ha,EY f l,DD]
 let p:=((ha.jn l).jn g).lt f;let⟨c0,cl⟩:=g.lt f;show#[#[r,px,py],#[C,#[by rw[em],?_],by rw[h];show p.2],?_,?_]
 .rw[em];unfold Fz rq;change(decide (c≠0/\c.natAbs<1073741824)&&decide (eG c=c))=Á;rw[ado #[c0,cl],EY f g,ado rfl];rfl
 .let⟨d,w,A,o⟩:=n.cb;let⟨u,t,e1⟩:=o s.x .c;let⟨z,B,e2⟩:=o s.y .c;show#[d,u,z,w,A.le .a,t.le .a,B.le .a,e1,e2]
 .change(row.set ↥s.i (kW row s).1).set ↥s.j (Ic row s)=_;rw[em,h]
def tu(b:R1 q)(h1:1<=l.length)(a:l.length<=8)(h:∀x∈l,ka q x):bh l=Á:=by
 unfold bh;rw[ado #[h1,a],afW];show aeV.mpr λx c=>ado ((h x c).lt b)
def A7{m:.L}{x y:Fr}(ha:eF a)(f:eF b)(d:eF c)(n:∀x∈l,x≠0)(px:Mp x)(py:Mp y)(e:a*x.1*x.1*y.2*y.2+b*y.1*y.1*x.2*x.2=c*(x.2*x.2*y.2*y.2))(h:nX (a::b::l) m):nX (c::dz (dz a b) c::l) m:=by
 let⟨i,g,k,j⟩:=vV ha f d;show h.turn (x:=x.1*y.2) (y:=y.1*x.2) (s:=x.2*y.2) (t:=g) ha.1 f.1 d.1 i.1 (ä px.1.ne py.1.ne) k n (by grind) j
def Pm(one other:.L)(a:List dO):Prop:=a.length<=3/\Good one a/\(my one a).1=other
def Wx(one other:.L):Prop:=∃a b c d e g,one=[a,b,c]/\other=[d,e,g]/\(∀x∈[a,b,c,d,e,g],x∈cD 6)/\nX one other
def LG(one other:.L):Prop:=one.length=other.length/\1<=one.length/\one.length<=3/\(∀x∈one,x∈cD 6)/\(∀x∈other,x∈cD 6)/\nX one other
def last_eq{u h:Int}(l:eF u)(d:eF g)(he:eF e)(i:eF h)(a:uv (u*g) (e*h)):dz (dz u g) e=h:=by
 let⟨b,k,f,ek⟩:=vV l d he;show Q.uv.eq b i ?_;let⟨s,t,j,c,es⟩:=a;show#[k*s,e*t,ä f j,ä he.1 c,?_];change jn (jn u g) e*(k*s)*(k*s)=_;let h1:jn (jn u g) e*(k*s)*(k*s)=(jn (jn u g) e*k*k)*(s*s):=by grind
 rw[h1,<-ek];let h2:u*g*e*(s*s)=(u*g*s*s)*e:=by grind
 rw[h2,es];grind
def HL{t:Int}(S:bh [a,b,c]=Á)(o:R1 q)(ha:ka q a)(B:ka q b)(w:ka q c)(y:ka q d)(he:ka q e)(C:ka q g)(k:ka q t)(al:nX [a,b,c] [d,e,g]){m p:dO}(h1:Ro 0 1 a b t m)(h2:Ro 0 2 t c d p):
  Good [a,b,c] [m,p]/\∃u v,ka q u/\ka q v/\(my [a,b,c] [m,p]).1=[d,u,v]/\Ie u v e/\∀r,Ro 1 2 u v e r->Good [a,b,c] [m,p,r]/\(my [a,b,c] [m,p,r]).1=[d,e,g]:=by
 let⟨σ,V,H,E⟩:=m;let⟨Z,W,D,K⟩:=p;let⟨rfl,rfl,A⟩:=h1;let⟨rfl,rfl,z⟩:=h2;let n:∀{x},ka q x->x≠0:=λh=>h.1.1;let⟨p1,L,c1,e1⟩:=Fv (s:=#[0,1,H,E]) S #[by change(0:Int)<=0;decide,by change(0:Int)<1;decide,by change(1:Int)<3;decide] rfl rfl o ha B k A;let f:=(ha.jn B).jn k;let e1:xy [a,b,c] #[0,1,H,E]=[t,dz (dz a b) t,c]:=e1;generalize α:dz (dz a b) t=u at *;let f:ka q u:=by rwa[<-α]
 let N:nX [t,u,c] [d,e,g]:=by
  rw[<-α];show A7 ha.1 B.1 k.1 (λx i=>by cases adv.mp i;show n w) (vU A).1.1 (vU A).1.2 (vU A).2 al
 let⟨p2,F,c2,e2⟩:=Fv (row:=[t,u,c]) (s:=#[0,2,D,K]) (tu o (by change 1<=3;decide) (by change 3<=8;decide) (l:=[t,u,c]) λx i=>by
  simp only[ě,ğ,adM] at i
  obtain rfl|rfl|rfl:=i<;>assumption) #[by change(0:Int)<=0;decide,by change(0:Int)<2;decide,by change(2:Int)<3;decide] rfl rfl o k w y z
 let j:=(k.jn w).jn y;let e2:xy [t,u,c] #[0,2,D,K]=[d,u,dz (dz t c) d]:=e2;generalize ev:dz (dz t c) d=v at *;let j:ka q v:=by rwa[<-ev]
 let T:nX [d,v,u] [d,e,g]:=by
  rw[<-ev];show A7 k.1 w.1 y.1 (λx i=>by cases adv.mp i;show n f) (vU z).1.1 (vU z).1.2 (vU z).2 (N.perm (.cons t (.swap c u [])) (Vn (n k) (n f) (n w)))
 let G:nX [u,v] [e,g]:=(T.tail (n y) (SI (n j) (n f)) (SI (n he) (n C))).perm (.swap u v []) (SI (n j) (n f));show#[#[p1,L,c1,by rw[e1];show#[p2,F,c2,É]],u,v,f,j,?_,#[yX o f j he.neg,vC (G.two (n f) (n j) (n he) (n C))],λr O=>?_]
 .change(DS _ _ _).1=_;unfold DS DS DS;rw[e1,e2]
 .let⟨X,x3,I,J⟩:=r;let⟨rfl,rfl,P⟩:=O
  let⟨R,Γ,c3,e3⟩:=Fv (row:=[d,u,v]) (s:=#[1,2,I,J]) (tu o (by change 1<=3;decide) (by change 3<=8;decide) (l:=[d,u,v]) λx i=>by
   simp only[ě,ğ,adM] at i
   obtain rfl|rfl|rfl:=i<;>assumption) #[by change(0:Int)<=1;decide,by change(1:Int)<2;decide,by change(2:Int)<3;decide] rfl rfl o f j he P
  let e3:xy [d,u,v] #[1,2,I,J]=[d,e,dz (dz u v) e]:=e3;rw[last_eq f.1 j.1 he.1 C.1 (by let:=G.nu;simpa [iN] using this)] at e3;show#[#[p1,L,c1,by rw[e1];show#[p2,F,c2,by rw[e2];show#[R,Γ,c3,É]]],?_];change(DS _ _ _).1=_;unfold DS DS DS DS;rw[e1,e2,e3]
abbrev acL(P w K mg base):=aG P w K mg base 129 "step_to" ["i","j","a","b","c"] (J6 K (fun(_ _:Int) a b c=>Ie a b c) Á Ro)
abbrev acK(P w K mg base):=aG P w K mg base 9 "meeting" ["one","other"] (kU K V1 Á (λone other (t:Int)=>Tu (P7.map λp=>Ig one other p) t))
def rX(C:⇑acK)(I:⇑acL)(Γ:⇑aG 9 "row_behind" ["row","steps"] (bw K Tq Á (λr X=>(my r X).1)))(one other:.L)(hp:Wx one other):⇑Body kg "steps_of_three" gf f 129 [.val Â one,.val Â other] (zx Á (Pm one other)):=by
 intro W A outer s H E o;let⟨a,b,c,d,e,g,rfl,rfl,m,al⟩:=hp;let ha:=m a .c;let y:=m b .c;let n:=m c .c;let B:=m d .c;let he:=m e .c;let S:=m g .c;let G:=vC (al.three (bL ha) (bL y) (bL n) (bL B) (bL he) (bL S));let l:=(ED d B).1;show mi 2 dE.nd (gK C (o.mono .a) rfl (lj (a':=[a,b]) (UE .A ae .a) rfl) (d8 (as:=[c,-d]) (b:=Á) (aF (dv (aJ (a:=c) .A ae rfl)) (aF (dU (aJ (a:=d) .B ae rfl)) bD)) (by change 2<=1000;decide)) (Jq ha y n l G)) λt ht=>?_;let⟨k,q,J,O,i,F⟩:=ht;let i:R1 q:=i
 let Z:∀p∈P7,fh (k*q) p∈Pu a b c (-d) p:=λp hp=>by
  let⟨j,T⟩:=agc.mp hp;let L:j<7:=(adk.mp T).1;let:=F j L;rw[CI _ L,BI,J] at this;let e:P7.getD j 0=p:=by rw[ċ,T];rfl
  rwa[e] at this
 let mo:=MK (vF ha) (vF y) (vF n) (vF l) O i Z;let z:ka q t:=by rw[J];show T6 O i
 let D:∀{x},x∈cD 6->ka q x:=λh=>vR h;rw[<-J] at mo;let p1:Ie a b t:=#[yX i (D ha) (D y) z.neg,vC λp hp=>(mo p hp).1];let p2:Ie t c d:=#[yX i z (D n) (D B).neg,vC λp hp=>ND (bL n) (bL l) z.1.1 hp (mo p hp).2];show Ol 3 dE.nd (vq (pQ I (o.mono .a) rfl ae ae (aJ (a:=a) .A ae rfl) (aJ (a:=b) .A ae rfl) .C p1) yY) (λas h=>?_) λas h=>?_
 .let⟨_,_,rfl,_,rfl⟩:=h;change 1<=1000;decide
 let⟨s1,_,rfl,h1,rfl⟩:=h;show HD 3 rfl (pQ I (o.mono .a) rfl ae ae .C (aJ (a:=c) .A ae rfl) (aJ (a:=d) .B ae rfl) p2) (by change 1<=1000;decide) λs2 h2=>?_;show fF 3 rfl ?_;let R:bh [a,b,c]=Á:=tu i (by change 1<=3;decide) (by change 3<=8;decide) λx α=>D (m x (by simp only[ě,ğ,adM] at α ⊢;obtain h|h|h:=α<;>simp[h]));let⟨gd,u,v,hu,hv,N,pv,fin⟩:=HL R i (D ha) (D y) (D n) (D B) (D he) (D S) z al h1 h2;show ao 4 dE.nd (av Γ (o.mono .a) rfl .A .D #[R,#[by change 2<=3;decide,by change 3<=3;decide],gd]) ?_;show kR (Ng .D (LZ (vq (pQ I (o.mono .a) rfl ae ae (aJ (a:=u) .E ae (by rw[N];rfl)) (aJ (a:=v) .E ae (by rw[N];rfl)) (aJ (a:=e) .B ae rfl) pv) yY) λas h=>?_) λys h=>?_) λzs h=>?_
 .let⟨_,_,rfl,_,rfl⟩:=h;change 1<=1000;decide
 .let⟨_,_,rfl,_,rfl⟩:=h;change 3<=1000;decide
 .let⟨_,⟨V,_,rfl,σ,rfl⟩,rfl⟩:=h;show#[_,#[by change 3<=3;decide,fin V σ],rfl]
theorem Mb:∀(l:.L) (n:Int),eF n->(∀x∈l,x∈cD 6)->eF (l.foldl (λn k=>dz n (eG k)) n)/\uv (n*iN l) (l.foldl (λn k=>dz n (eG k)) n)
 |[],n,h,_=>#[h,1,1,.a,.a,by change n*1*1*1=n*1*1;rw[Ċ]]
 |x::l,n,h,b=>by
  let a:=b x (Ġ ..);let e:eG x=x:=EY (q:=1) (.inl rfl) (vR a);let⟨j,g,m,f⟩:=AI h (jE a);let⟨i,d⟩:=Mb l (dz n x) j λy c=>b y (Ě _ c);rw[afY,e];show#[i,Q.uv.trans #[1,g,.a,.b,?_] d];change n*(x*iN l)*1*1=jn n x*iN l*g*g;rw[<-ı,f,Ċ,Ċ];grind
def O3(h:∀x∈l,x∈cD 6):eF (HN l)/\uv (iN l) (HN l):=by
 let:=Mb l 1 (jE .a) h;rwa[Ő] at this
def Fo{a b:.L}:NS a b=none↔∀p,p∈a↔p∈b:=by
 unfold NS;rw[List.find?_eq_none];constructor
 .intro h p;let h1:=λz=>h p ((zG (a++b)).1.mem_iff.mpr z);unfold Jz at h1;rw[adQ] at h1;by_cases x:p∈a<;>by_cases y:p∈b<;>simp[x,y] at h1 ⊢
 .intro h p _;unfold Jz;let m:=(zG (a++b)).1.mem_iff (a:=p);by_cases x:p∈a<;>let y:=h p<;>simp[x] at y<;>simp_all
def vA{a b:.L}(ha:∀x∈a,x∈cD 6)(d:∀x∈b,x∈cD 6):KA a b=.no↔nX a b:=by
 let g:∀x∈a,x≠0:=λx c=>bL (ha x c);let f:∀x∈b,x≠0:=λx c=>bL (d x c);let⟨k,j⟩:=O3 ha;let⟨l,i⟩:=O3 d;unfold KA;constructor
 .intro h;split at h
  .cases h
  split at h
  .cases h
  split at h
  .cases h
  rename_i h1 h2 m;split at h
  .rename_i e;rw[Fo] at e;show#[.b,?_,?_,λp hp=>?_]
   .let:Ow a=Ow b:=by lia
    unfold Ow at this;unfold GV;lia
   .show j.trans ?_;rw[(.b:HN a=HN b)];show i.symm
   .let:=e p;rw[Al g,Al f] at this;cases x:qv p a<;>cases y:qv p b<;>simp_all
  .cases h
 .intro h;rw[ac2 (by let:=h.len;lia),ac2 (by let:=h.sg;unfold GV at this;unfold Ow;lia),ac2 (by let:=Q.uv.eq k l (j.symm.trans (h.nu.trans i));lia)]
  rw[Fo.mpr λp=>by
   rw[Al g,Al f]
   show#[fun⟨u,v⟩=>#[u,by rwa[<-h.sy p u]],fun⟨u,v⟩=>#[u,by rwa[h.sy p u]]]]
def LG.len{one:.L}(h:LG one other):(∃a d,one=[a]/\other=[d])\/(∃a b d e,one=[a,b]/\other=[d,e])\/∃a b c d e g,one=[a,b,c]/\other=[d,e,g]:=by
 let⟨l,h1,f,_⟩:=h;obtain _|⟨a,_|⟨b,_|⟨c,_|⟨z,r⟩⟩⟩⟩:=one<;>obtain _|⟨d,_|⟨e,_|⟨g,_|⟨i,r'⟩⟩⟩⟩:=other<;>simp at l h1 f
 .show .inl #[_,_,rfl,rfl]
 .show .inr (.inl #[_,_,_,_,rfl,rfl])
 .show .inr (.inr #[_,_,_,_,_,_,rfl,rfl])
 all_goals lia
def CW(u:⇑acL)(F:⇑aG 130 "steps_of_three" ["one","other"] (kU K Wx Á Pm))(one other:.L)(hp:LG one other):⇑Body vt "steps_to" oO f 130 [.val Â one,.val Â other] (zx Á (Pm one other)):=by
 intro y A outer s H E t;let⟨L,h1,I,j,l,al⟩:=id hp;show aQ (aD (EE (M:=.L) (Bx t)) .A .B) (λi=>?_) (λi=>?_)
 .show ay (d8 (M:=dO) (b:=Á) bD (by change 0<=1000;decide)) #[([]:List dO),#[by change 0<=3;decide,É,ad0 i],rfl]
 let D:∀{x},x∈cD 6->ka 1 x:=λh=>vR h;obtain⟨a,d,rfl,rfl⟩|⟨a,b,d,e,rfl,rfl⟩|⟨a,b,c,d,e,g,rfl,rfl⟩:=hp.len
 .let:=al.nu;simp only[iN,Ċ] at this;let:=Q.uv.eq (D (j a .c)).1 (D (l d .c)).1 this;rw[this] at i;simp at i
 .let ha:=j a .c;let k:=j b .c;let m:=l d .c;let he:=l e .c;let n:∀{x},x∈cD 6->x≠0:=λh=>bL h;let pv:Ie a b d:=#[yX (.inl rfl) (D ha) (D k) (D m).neg,vC (al.two (n ha) (n k) (n m) (n he))];show aQ (aD aO (bx rfl B.len .A) ae) (λ_=>?_) (λi=>by cases i);show kR (LZ (vq (pQ u (t.mono .a) rfl ae ae (aJ (a:=a) .A ae rfl) (aJ (a:=b) .A ae rfl) (aJ (a:=d) .B ae rfl) pv) yY) λas h=>?_) λzs h=>?_
  .let⟨_,_,rfl,_,rfl⟩:=h;change 1<=1000;decide
  .let⟨⟨J,G,r,p⟩,_,rfl,⟨rfl,rfl,v⟩,rfl⟩:=h;let⟨p1,C,c1,e1⟩:=Fv (s:=#[0,1,r,p]) (row:=[a,b]) (tu (q:=1) (.inl rfl) (by change 1<=2;decide) (by change 2<=8;decide) λx o=>D (j x o)) #[by change(0:Int)<=0;decide,by change(0:Int)<1;decide,by change(1:Int)<2;decide] rfl rfl (.inl rfl) (D ha) (D k) (D m) v;let e1:xy [a,b] #[0,1,r,p]=[d,dz (dz a b) d]:=e1;rw[last_eq (D ha).1 (D k).1 (D m).1 (D he).1 (by let:=al.nu;simpa [iN] using this)] at e1;show#[[#[0,1,r,p]],#[by change 1<=3;decide,#[p1,C,c1,É],e1],rfl]
 .show aQ (aD aO (bx rfl B.len .A) ae) (λi=>by cases i) (λ_=>?_);show kR (gK F (t.mono .a) rfl .A .B #[a,b,c,d,e,g,rfl,rfl,λx o=>?_,al]) λz hz=>#[_,hz,rfl];rw[show [a,b,c,d,e,g]=[a,b,c]++[d,e,g] from rfl,adQ] at o;show o.elim (j x) (l x)
def Mk(one other:.L):Prop:=Tn one other/\(1<=one.length/\one.length<=3/\other.length<=3)/\(∀x∈one,x∈cD 6)/\∀x∈other,x∈cD 6
abbrev Td:=T3 (List dO) .L Tb
def V6(one other:.L)(u:Option Td):Prop:=(¬nX one other/\u=none)\/(nX one other/\∃a,Pm one other a/\u=À #[a,jc 0 1 one.length,(my one a).2])
def X3:Pt->Bool
 |.no=>Â
 |_=>Á
def D3{K:Ä}{v:V}{p:Pt}(h:DN K N H v (Qt p)):decide (v=.non)=!X3 p:=by
 cases p<;>cases h<;>rfl
abbrev acM(P w K mg base):=aG P w K mg base 8 "parting" ["one","other"] (bw K Tn Á Ts)
def HA(j:xw mg "LONGEST_LED" 3)(v:⇑acM)(m:⇑aG 9 "refuse_great_or_long" ["row","longest"] (bw K Wf Á La))(n:⇑aG 131 "steps_to" ["one","other"] (kU K LG Á Pm))(o:⇑aG 10 "all_stepped" ["row","steps"] (bw K Tq Á my))(one other:.L)(hp:Mk one other):⇑Body yf "leading" sQ f 131 [.val Â one,.val Â other] (zx Á (V6 one other)):=by
 intro r A outer s H E e;let⟨pp,⟨k,l,y⟩,a,g⟩:=hp;show ao 2 oJ.nd (av v (e.mono .a) rfl .A .B pp) ?_;show k_ (av m (e.mono .a) rfl .A (ua rfl j) #[.b,.b,a]) ?_;show k_ (av m (e.mono .a) rfl .B (ua rfl j) #[.b,.b,g]) ?_;show aQ (Rg (d:=Qt (KA one other)) .C λ_ _ _ _ h=>D3 h) (λc=>?_) (λc=>?_)
 .show ay (j9 (M:=Td)) #[_,.inl #[λal=>(by rw[(vA a g).mpr al] at c;cases c),rfl],rfl]
 let al:nX one other:=(vA a g).mp (by cases h:KA one other<;>rw[h] at c<;>first|rfl|cases c);show mi 3 oJ.nd (gK n (e.mono .a) rfl .A .B #[al.len,k,l,a,g,al]) λu i=>?_;let t:bh one=Á:=tu (q:=1) (.inl rfl) k .b λx p=>vR (a x p);show ay (jR (Qm (b:=Á) .D (Bz rfl B.list rfl B.range (bx rfl B.len .A) .b) (aX (av o (e.mono .a) rfl .A .D #[t,#[i.1,l],i.2.1])))) #[_,.inr #[al,u,i,rfl],rfl]
noncomputable def xt(xs:.L)(k:Int):Int:=if k<(xs.length:Int) then xs.getD ↥k 0 else 0
def xB(xs:.L)(k:Int)(c:0<=k):⇑Body oA "_law_cell_at" jJ f kk [.val Â xs,.val Â k] (RT Á (xt xs k)):=by
 intro g A outer s H E h;show aQ (aD gO .B (bx rfl B.len .A)) (λb=>?_) (λb=>?_)
 .let a:k<(xs.length:Int):=by simpa using b
  let e:xt xs k=xs.getD ↥k 0:=ac6 a;rw[e];show ay (dv (aJ .A .B (tD (d:=0) c a))) rfl
 .let a:¬k<(xs.length:Int):=by simpa using b
  let e:xt xs k=0:=ac2 a;rw[e];show ay ae rfl
noncomputable def Yb(c k j:Int):Int:=(((c.natAbs:Int).fmod 2147483647+97*k+131*j+13)*(16807+j*j+k)).fmod 2147483647
noncomputable def VR(c k:Int):Nat->Int
 |0=>0
 |i+1=>VR c k i*2147483659+(Yb c k i*48271).fmod 2147483647
noncomputable def Sy(c k:Int):Int:=if 10^18<=(c.natAbs:Int) then c else VR c k 9
def HI(c k:Int)(p:0<=k)(h1:k<=100):⇑Body yj "_law_big" sI f kk [.val Â c,.val Â k] (RT Á (Sy c k)):=by
 intro h A outer s H E q;let g:∀i:Int,(if i<0 then -i else i)=(i.natAbs:Int):=λi=>by split<;>lia
 show aQ (aD EW (iR rfl B.abs .A) (U_ ae ae XT)) (λd=>?_) (λd=>?_)
 .rw[g] at d;let e:Sy c k=c:=ac6 ↑d;rw[e];show ay (dv .A) rfl
 rw[g] at d;let e:Sy c k=VR c k 9:=ac2 ↑d;rw[e];show ao 2 gu.nd ae ?_;show dS (λi U=>∃r r',U=[À (.val Â c),À (.val Â k),À (.val Á (VR c k i)),r,r']) rfl B.range (bW 3 gu.nd) ae .a .a #[none,none,rfl] ?_ ?_
 .rintro i U' hi ⟨r,r',rfl⟩;let m:i<9:=hi;let n:=eM (a:=(c.natAbs:Int)) (b:=2147483647) .a;let j:(i:Int)*(i:Int)<=9*9:=Ť .b .b .b .a;let l:(0:Int)<=(i:Int)*(i:Int):=Ϗ .b .b;show ao 4 gu.nd (bG (bG (bG (bg (iR rfl B.abs .A) ae .a) (aH ae .B (mulL .a .a))) (aH ae .D (mulL .a .a))) ae) ?_;rw[g];show ao 4 gu.nd (bg (aH .E (bG (bG ae (aH .D .D (mulL .b .b))) .B) (mulL .b .b)) ae .a) ?_;let o:=eM (a:=((c.natAbs:Int).fmod 2147483647+97*k+131*(i:Int)+13)*(16807+(i:Int)*(i:Int)+k)) (b:=2147483647) .a;show ao 2 gu.nd (bG (aH .C ae (mulR .a .a)) (bg (aH .E ae (mulR .a .a)) ae .a)) ?_;show aN #[_,_,rfl]
 .rintro U' ⟨r,r',rfl⟩;show ay .C rfl
def O7(a b:Int):Int:=((È a b:Nat):Int)
def Af(a b:Int):⇑Body qz "_law_common" kG f k [.val Â a,.val Â b] (RT Á (O7 a b)):=by
 intro g A outer s H E h;show cR (ι:=Bool×Bool×Int×Int) (λi U=>∃r,U=[À (.val i.1 i.2.2.1),À (.val i.2.1 i.2.2.2),r]/\È i.2.2.1 i.2.2.2=È a b) (λi=>i.2.2.2.natAbs) (Â,Â,a,b) #[none,rfl,rfl] ?_;rintro⟨b1,b2,x,y⟩ U' ⟨r,rfl,d⟩;show#[_,aD cw .B ae,λe=>?_,λe=>?_]
 .let c:y≠0:=by simpa using e
  show ao 2 gB.nd (bg .A .B c) ?_;show ao 0 gB.nd .B ?_;show ao 1 gB.nd .C ?_;show aN #[(b2,Á,y,x.fmod y),#[_,rfl,(p_ x y).trans d],FV x y c]
 .let c:y=0:=by simpa using e
  show ay (iR rfl B.abs .A) ?_;dsimp only at d ⊢;rw[c,agt] at d;unfold O7;rw[<-d];change Bd.val _ _=Bd.val _ _;congr 1;split<;>lia
def Du(x:Int)(e:0<=x)(l:Sm 8000 x):⇑Body wj "_law_root" oG f k [.val Â x] (RT Á (rt x)):=by
 intro j A outer s H E t;show ao 1 ny.nd .A ?_
 show cR (ι:=Bool×Int) (λi U=>U=[À (.val Â x),À (.val i.1 i.2)]/\0<=i.2/\i.2<=x/\x<(i.2+1)*(i.2+1)) (λi=>↥i.2) (Â,x) #[rfl,e,ń x,by
  dsimp only;let:(x+1)*1<=(x+1)*(x+1):=Ł .b .b
  lia] ?_
 rintro⟨p,r⟩ U' ⟨rfl,g,o,h⟩;dsimp only at *;let b:Sm 8000 r:=Sm.of_le .b l;show#[_,aD h_ (aH .B .B (b.ok b)) .A,λd=>?_,λd=>?_]
 .let a:x<r*r:=by simpa using d
  let c:0<r:=by
   obtain z|z:=aeY g
   .show z
   .rw[<-z] at a;simp at a;lia
  show ao 1 ny.nd (bf (bG .B (bf .A .B (b.div .b))) ae AR) ?_;let⟨m,q,n⟩:=Lv e c a;show aN #[(Á,(r+x.fdiv r).fdiv 2),#[rfl,m,.e,n],.e]
 .let a:r*r<=x:=by simpa using d
  rw[<-fe g a h];show ay (dv .B) rfl
structure GZ(n fr l d:Int):Prop where
 d2:2<=d
 l0:0<l
 f0:0<fr
 sq:eF fr
 lo:∀q,aT q=Á->q<d->¬q∣l
 hi:∀q,aT q=Á->d<=q->¬q∣fr
 ex:∃s,0<s/\n=fr*l*(s*s)
def GZ.le{n fr l:Int}(h:GZ n fr l d):fr*l<=n/\l<=n/\fr<=n:=by
 let⟨s,f,e⟩:=h.ex;let i:=h.l0;let g:=h.f0;let p:0<fr*l:=Ĥ g i;let q:1<=s*s:=Ĥ f f;let a:=Ł q (.b:0<=fr*l);let b:=adR (.b:1<=fr) (.b:0<=l);let c:=Ł (.b:1<=l) (.b:0<=fr);rw[e];lia
def GZ.start{n:Int}(h:0<n):GZ n 1 n 2:=#[.a,h,.a,nP,λq a b=>by let:=az a;lia,λq a _ z=>by
 let:=ĝ .a z;let:=az a
 lia,1,.a,by rw[Ő,Ċ,Ċ]]
def GZ.prime{n fr a l:Int}{v:Nat}(h:GZ n fr a d)(e:a=l*d^(v+1)):aT d=Á:=by
 let b:d∣a:=#[l*d^v,by rw[e,ĥ];grind];let⟨q,h1,h2⟩:=fZ h.d2;let c:=ĝ (by let:=h.d2;lia) h2;by_cases z:q<d
 .show absurd (Ĺ h2 b) (h.lo q h1 z)
 .rwa[(.b:d=q)]
def GZ.step{n fr g l:Int}{v:Nat}(h:GZ n fr g d)(e:g=l*d^v)(r:¬d∣l)(j:0<l):GZ n (if v%2=1 then fr*d else fr) l (d+1):=by
 let t:=h.d2;let dl:l∣g:=#[_,e];let⟨s,i,ex⟩:=h.ex
 let b:∀q,aT q=Á->q<d+1->¬q∣l:=λq a p z=>by
  by_cases w:q<d
  .show h.lo q a w (Ĺ z dl)
  .rw[(.b:q=d)] at z;show r z
 let k:∀m:Nat,0<d^m:=λm=>ŕ .b;by_cases o:v%2=1
 .rw[ac6 o];obtain⟨m,c⟩:∃m,v=2*m+1:=#[v/2,.b];let hp:aT d=Á:=h.prime (v:=2*m) (by rw[e,c]);show#[.b,j,Ĥ h.f0 .b,jQ h.sq hp (h.hi d hp (ń d)),b,λq a f z=>?_,s*d^m,Ĥ i (k m),?_]
  .obtain z|z:=euclid a z
   .show h.hi q a .b z
   .let:=ĝ .b z;lia
  .rw[ex,e,c,ĥ,(.b:2*m=m+m),Ŭ];grind
 .rw[ac2 o];obtain⟨m,c⟩:∃m,v=2*m:=#[v/2,.b];show#[.b,j,h.f0,h.sq,b,λq a f z=>h.hi q a .b z,s*d^m,Ĥ i (k m),?_];rw[ex,e,c,(.b:2*m=m+m),Ŭ];grind
def GZ.done{n fr l:Int}(h:GZ n fr l d)(B:l<d*d*d):∃s,0<s/\eF (if rt l*rt l=l then fr else fr*l)/\n=(if rt l*rt l=l then fr else fr*l)*(s*s):=by
 let⟨s,j,ex⟩:=h.ex;let F:=h.l0;let G:=h.f0;let E:=h.d2;by_cases r:rt l*rt l=l
 .rw[ac6 r];let D:rt l≠0:=λz=>by rw[z] at r;lia
  let y:0<((rt l).natAbs:Int):=by lia
  show#[s*(rt l).natAbs,Ĥ j y,h.sq,?_];let e2:((rt l).natAbs:Int)*((rt l).natAbs:Int)=l:=by rw[<-Ϻ,aft,r]
  rw[ex];grind
 .rw[ac2 r]
  let sl:∀q,aT q=Á->¬q*q∣l:=λq a z=>by
   let⟨m,em⟩:=z;let C:=az a
   let b:d<=q:=by
    by_cases w:q<d
    .show absurd #[q*m,by rw[em];grind] (h.lo q a w)
    .lia
   let v:0<m:=by
    by_cases w:0<m
    .show w
    .let:q*q*m<=0:=adL (by let:=Ĥ (.b:0<q) (.b:0<q);lia) .b;lia
   by_cases f:m=1
   .show r ?_
    let:rt l=q:=by
     rw[em,f,Ċ];show(fe .b (ń _) (by grind)).symm
    rw[this,em,f,Ċ]
   .let⟨p,hp,i⟩:=fZ (.b:2<=m)
    let x:d<=p:=by
     by_cases w:p<d
     .show absurd (Ĺ i #[q*q,by rw[em];grind]) (h.lo p hp w)
     .lia
    let u:=ĝ v i;let k:d*d<=q*q:=Ť b b .b .b;let H:d*d*d<=q*q*m:=Ť k .b .b (by let:=Ĥ (.b:0<q) (.b:0<q);lia);lia
  show#[s,j,xP (ä .b .b) λq a z=>?_,ex];by_cases w:q∣l
  .let b:d<=q:=by
    by_cases t:q<d
    .show absurd w (h.lo q a t)
    .lia
   let c:=h.hi q a b
   let g:È (q*q) fr=1:=by
    let A:È fr q=1:=kx a c
    show vJ (λr e h1 h2=>by
     let:r∣q:=by obtain z|z:=euclid e h1<;>show z
     rw[bq e a this] at h2
     show c h2) (by let:=az a;show ä .b .b)
   rw[ī fr l] at z;show sl q a (iB z g)
  .let g:È (q*q) l=1:=vJ (λr e h1 h2=>by
     let:r∣q:=by obtain z|z:=euclid e h1<;>show z
     rw[bq e a this] at h2
     show w h2) (by let:=az a;show ä .b .b)
   let o:=iB z g;show h.sq.2 q (by let:=az a;lia) o
abbrev acN(P w K mg base):=aG P w K mg base 1 "_law_root" ["_law_k"] (cj K (λk=>0<=k/\Sm 8000 k) Á rt)
def DX(α:⇑acN)(n:Int)(J:n≠0)(I:n.natAbs<1073741824):⇑Body xc "_law_free" o5 f 1 [.val Â n] (RT Á (eG n)):=by
 intro V A outer s H E L;let Γ:∀i:Int,(if i<0 then -i else i)=(i.natAbs:Int):=λi=>by split<;>lia
 show ao 1 cc.nd (iR rfl B.abs .A) ?_;rw[Γ];show ao 2 cc.nd ae ?_;show ao 3 cc.nd ae ?_;show cR (ι:=Int×Int×Int) (λi U=>∃q,U=[À (.val Â n),À (.val Á i.1),À (.val Á i.2.1),À (.val Á i.2.2),q]/\GZ n.natAbs i.2.1 i.1 i.2.2/\i.2.2<=n.natAbs+2) (λi=>↥(i.1-i.2.2+5)) ((n.natAbs:Int),1,2) #[none,rfl,GZ.start .b,.e] ?_;rintro⟨a,b,d⟩ U' ⟨q,rfl,m,S⟩;dsimp only at *;let r:=m.d2;let C:=m.l0;let T:=m.f0;let⟨_,Z,N⟩:=m.le;let k:Sm 31 d:=by unfold Sm;lia
 show#[_,aD BG (aH (aH .D .D (k.ok k)) .D ((k.mul k).ok k)) .B,λc=>?_,λc=>?_]
 .let o:d*d*d<=a:=by simpa using c
  let R:d<a:=by
   let t:2*d<=d*d:=adR r .b;let D:d*d*1<=d*d*d:=Ł .b .b;lia
  show ao 4 cc.nd ae ?_;show cR (ι:=Int×Int) (λi U=>U=[À (.val Â n),À (.val Á i.1),À (.val Á b),À (.val Á d),À (.val Á i.2)]/\0<=i.2/\a=i.1*d^↥i.2/\0<i.1) (λi=>i.1.natAbs) (a,0) #[rfl,ń 0,by dsimp only;rw[show ↥(0:Int)=0 from rfl,Ń,Ċ],C] ?_;rintro⟨l,v⟩ U' ⟨rfl,W,he,p⟩;dsimp only at *;show#[_,aD aO (bg .B .D .b) ae,λc=>?_,λc=>?_]
  .let h:l.fmod d=0:=by simpa using c
   show ao 1 cc.nd (bf .B .D (k.div .b)) ?_;show ao 4 cc.nd (bG .E ae) ?_;let⟨t,D,a3,O⟩:=CQ W he r h .b;let⟨b1,_,_⟩:=BJ r (Q.jk.mp h) (.b:l≠0)
   let pos:0<l.fdiv d:=by
    by_cases w:0<l.fdiv d
    .show w
    .let:=adL (.b:0<=d) (.b:l.fdiv d<=0);let:=aeo (.b:l.fdiv d<=0) (.b:0<=d);lia
   show aN #[(l.fdiv d,v+1),#[rfl,t,D,pos],O]
  .let h:¬d∣l:=λz=>by
    let:=Q.jk.mpr z;rw[ado this] at c;cases c
   let σ:=m.step (v:=↥v) he h p
   let ll:l<=a:=by
    let:=ĝ C (show l∣a from #[_,he]);show this
   let F:v.fmod 2=1↔↥v%2=1:=by
    rw[aem _ .a];lia
   show mz (λU=>U=[À (.val Â n),À (.val Á l),À (.val Á (if ↥v%2=1 then b*d else b)),À (.val Á d),À (.val Á v)]) (aD aO (bg .E ae .a) ae) (λc=>?_) (λc=>?_) ?_
   .let j:↥v%2=1:=F.mp ↑c;rw[ac6 j];show ao 2 cc.nd (aH .C .D ((by unfold Sm;lia:Sm 31 b).ok k)) ?_;show aN rfl
   .let j:¬↥v%2=1:=λw=>by
     let:=F.mpr w;rw[ado this] at c;cases c
    rw[ac2 j];show aN rfl
   rintro U' rfl;show ao 3 cc.nd (bG .D ae) ?_;show aN #[(l,(if ↥v%2=1 then b*d else b),d+1),#[_,rfl,σ,.e],.e]
 .let o:a<d*d*d:=by
   let:¬d*d*d<=a:=by simpa using c
   lia
  let⟨s',G,y,x⟩:=m.done o;let sl:Sm 8000 a:=(by unfold Sm;lia:Sm 31 a).le .a
  let u:Sm 31 (rt a):=by
   let w1:=Ge (.b:0<=a);let X:=iI a
   let w3:rt a<=a:=by
    by_cases w:rt a=0
    .lia
    .let:=Ł (.b:1<=rt a) X;lia
   unfold Sm;lia
  show mz (λU=>U=[À (.val Â n),À (.val Á a),À (.val Á (if rt a*rt a=a then b else b*a)),À (.val Á d),q]) (aD cw (aH (aC α (L.mono .a) rfl .B #[.b,sl]) (aC α (L.mono .a) rfl .B #[.b,sl]) (u.ok u)) .B) (λc=>?_) (λc=>?_) ?_
  .let h:¬rt a*rt a=a:=by simpa using c
   rw[ac2 h];show ao 2 cc.nd (aH .C .B ((by unfold Sm;lia:Sm 31 b).ok (by unfold Sm;lia:Sm 31 a))) ?_;show aN rfl
  .let h:rt a*rt a=a:=by simpa using c
   rw[ac6 h];show aN rfl
  rintro U' rfl;generalize (if rt a*rt a=a then b else b*a)=g at *;show aQ (aD gO .A ae) (λc=>?_) (λc=>?_)
  .let hn:n<0:=by simpa using c
   let e:eG n=-g:=zJ J I (nR y) G (by
    let:n=-(n.natAbs:Int):=by lia
    rw[this,x]
    grind)
   rw[e,(.b:-g=0-g)];show ay (j_ ae .C) rfl
  .let hn:¬n<0:=by simpa using c
   let e:eG n=g:=zJ J I y G (by
    let:n=(n.natAbs:Int):=by lia
    rw[this]
    show x)
   rw[e];show ay .C rfl
abbrev acO(P w K mg base):=aG P w K mg base 1 "_law_common" ["_law_a","_law_b"] (bw K (λ_ _=>True) Á O7)
def sF(m:⇑acO)(a b:Int)(hp:OI a b):⇑Body kz "_law_free_times" gh f 1 [.val Â a,.val Â b] (RT Á (dz a b)):=by
 intro h A outer s H E k;let⟨ha,g,c,l⟩:=hp;let⟨d,o,i,n,e⟩:=kr ha g;let sg:=Jr (b:=b) ha c;show ao 2 jx.nd (av m (k.mono .a) rfl .A .B É) ?_;show ay (aH (bf .A .C (Sm.div (j:=O7 a b) sg d)) (bf .B .C (Sm.div (j:=O7 a b) sg d)) ((Sm.of_le i c).ok (Sm.of_le e l))) rfl
noncomputable def yP(c:Int):Nat->Int×Int
 |0=>(1-2*c.fmod 2,c.fdiv 2)
 |i+1=>((if (yP c i).2.fmod 2=1 then (yP c i).1*SP.getD i 1 else (yP c i).1),(yP c i).2.fdiv 2)
noncomputable def Tp(c:Int):Int:=(yP c 6).1
include B in
theorem Bk(c:Int):⇑Body tL "_law_small" nj f kk [.val Â c] (RT Á (Tp c)):=by
 intro j A outer s H E l;show ao 1 d9.nd (j_ ae (aH ae (bg .A ae .a) (mulL .a .a))) ?_;show ao 2 d9.nd (bf .A ae AR) ?_;show jO (xs:=SP) (b:=Á) (λi U=>∃g,U=[À (.val Â c),À (.val Á (yP c i).1),À (.val Á (yP c i).2),g]) (bW 3 d9.nd) (d8 (aF ae (aF ae (aF ae (aF ae (aF ae (aF ae bD)))))) (aej rfl)) #[none,rfl] ?_ ?_
 .rintro i a U' ha ⟨g,rfl⟩;let hi:i<6:=(adk.mp ha).1;let h:SP.getD i 1=a:=by rw[ċ,ha];rfl
  let k:=I_ a (Ĭ ha);let e:yP c (i+1)=((if (yP c i).2.fmod 2=1 then (yP c i).1*a else (yP c i).1),(yP c i).2.fdiv 2):=by rw[<-h];rfl
  rw[e];show mz (λU=>U=[À (.val Â c),À (.val Á (if (yP c i).2.fmod 2=1 then (yP c i).1*a else (yP c i).1)),À (.val Á (yP c i).2),À (.val Á a)]) (aD aO (bg .C ae .a) ae) (λd=>?_) (λd=>?_) ?_
  .rw[ac6 ↑d];show ao 1 d9.nd (aH .B .D (mulR .b .b)) ?_;show aN rfl
  .rw[ac2 ↑d];show aN rfl
  .rintro U' rfl;show ao 2 d9.nd (bf .C ae AR) ?_;show aN #[_,rfl]
 .rintro U' ⟨g,rfl⟩;show ay .B rfl
theorem EC(c:Int):∀i,(yP c i).1∈cD i
 |0=>by
  let z:=eM (a:=c) (b:=2) .a;let:c.fmod 2=0\/c.fmod 2=1:=by lia
  change(1-2*c.fmod 2)∈[(1:Int),-1];obtain e|e:=this<;>rw[e]<;>decide
 |i+1=>by
  let d:=EC c i;change(if (yP c i).2.fmod 2=1 then (yP c i).1*SP.getD i 1 else (yP c i).1)∈cD i++(cD i).map λk=>k*Q6.getD i 1;split
  .show ŧ _ (adn.mpr #[_,d,rfl])
  .show aeA _ d
def Nq(c:Int):Tp c∈cD 6:=EC c 6
noncomputable def Mi(c:Int):Nat->.L×Int
 |0=>([],c)
 |i+1=>((Mi c i).1++[Tp (Mi c i).2],(Mi c i).2.fdiv 128)
noncomputable def kK(c n:Int):.L:=(Mi c ↥n).1
theorem zf(c:Int):∀i:Nat,(Mi c i).1.length=i/\∀x∈(Mi c i).1,x∈cD 6
 |0=>#[rfl,λx h=>by cases h]
 |i+1=>by
  let⟨a,b⟩:=zf c i;show#[by simp[Mi,a],λx d=>?_];obtain d|d:=adQ.mp d
  .show b x d
  .rw[adv.mp d];show Nq _
def v_(g:⇑aG 1 "_law_small" ["_law_cell"] (cj K (fun(_:Int)=>True) Á Tp))(c n:Int)(l:0<=n)(j:n<=8):⇑Body mN "_law_free_row" jg f 1 [.val Â c,.val Â n] (RT Á (kK c n)):=by
 intro e A outer s H E h;show O1 2 Int eV.nd ?_;show dS (n:=n) (λi U=>∃b d,U=[À (.val b (Mi c i).2),À (.val Â n),À (.own Á (Mi c i).1),d]) rfl B.range (bW 3 eV.nd) .B .b .b #[_,none,rfl] ?_ ?_
 .rintro i U' hi ⟨b,d,rfl⟩;let⟨k,_⟩:=zf c i;show qQ 2 (a:=Tp (Mi c i).2) rfl (aC g (h.mono .a) rfl .A É) .b ?_;show ao 0 eV.nd (bf .A ae AR) ?_;show aN #[_,_,rfl]
 .rintro U' ⟨b,d,rfl⟩;show fF 2 rfl ?_;show ay .C rfl
open Q (Fr)
def wt(j:⇑acO)(t b:Int)(e:b≠0)(i:Sm 9000 b):
  Body P w K mg base jh "_law_fraction" dR f 1 [.val Â t,.val Â b] (RT Á (fr t b)):=by
 intro c A outer s H E h;let g:=xh (t:=t) e;let hz:Sm 9000 (fd t b):=Sm.of_le (PY e) i;show ao 2 gU.nd (av j h rfl .A .B É) ?_
 let last:∀d:Int,d=fd t b->S (⇑cx jh "_law_fraction" dR f c A outer s H E) [À (.val Â t),À (.val Â b),À (.val Á d)] [(b9 dR).getD 2 (.Pass #[0,0,0,0])] (RT Á (fr t b)):=by
  rintro d rfl;show ay (bj (bf .A .C (hz.div g)) (bf .B .C (hz.div g))) rfl
 show aQ (aD gO .B ae) (λa=>?_) (λa=>?_)
 .show ao 2 gU.nd (j_ ae .C) (aN ?_);show last _ (by unfold fd;rw[ac6 ↑a];unfold O7;lia)
 .show last _ (by unfold fd;rw[ac2 ↑a];rfl)
abbrev acP(P w K mg base):=aG P w K mg base 2 "_law_fraction" ["_law_top","_law_bottom"] (bw K Mx Á fr)
def A8(j:⇑acP)(u v:Fr)(h:uT u v):⇑Body uc "_law_times" mx f 2 [.val Â u,.val Â v] (RT Á (aE u v)):=by
 intro g A outer s H E e;let⟨⟨h1,h2⟩,a,i,c,d,b⟩:=h;show ay (av j (e.mono .a) rfl (aH (aV .A) (aV .B) (a.ok c)) (aH (aX .A) (aX .B) (i.ok d)) #[ä h1 h2,b]) rfl
def GA(j:⇑acP)(u v:Fr)(h:uT u v):⇑Body yc "_law_sum" tF f 2 [.val Â u,.val Â v] (RT Á (cV u v)):=by
 intro i A outer s H E g;let⟨⟨h1,h2⟩,c,b,e,a,d⟩:=h;show ay (av j (g.mono .a) rfl (bG (aH (aV .A) (aX .B) (c.ok a)) (aH (aV .B) (aX .A) (e.ok b))) (aH (aX .A) (aX .B) (b.ok a)) #[ä h1 h2,d]) rfl
def Xj(row:.L)(d:Dt):Option .L:=À (xy row (VZ d.d))
def XY(a b:Int):HN [a,b]=dz (eG a) (eG b):=by
 change dz (dz 1 (eG a)) (eG b)=_;rw[DD]
abbrev acR(P w K mg base):=aG P w K mg base 2 "_law_free_times" ["_law_one","_law_other_here"] (bw K OI Á dz)
abbrev acQ(P w K mg base):=aG P w K mg base 2 "_law_free" ["_law_number"] (cj K (fun(n:Int)=>n≠0/\n.natAbs<1073741824) Á eG)
def xY(Zf:⇑aG 3 "_law_sum" ["_law_u","_law_v"] (bw K uT Á cV))(α:⇑aG 3 "_law_times" ["_law_u","_law_v"] (bw K uT Á aE))(R:⇑acQ)(Yp:⇑acR)
  (row:.L) (d:Dt) (s:dO) (e:d.d=me s) (h:yT row s) (ok:mR row s):⇑Body oo "_law_stepped" jY f 3 [.val Â row,.val Â d] (RT Á (Xj row d)):=by
 intro cdv A outer sh H E b;let⟨d⟩:=d;let e':d=me s:=e;subst e';change S _ _ _ (RT Á (À (xy row s)));let⟨hR,⟨g,G,o⟩,c,J,m⟩:=h;let⟨h1,⟨m1,mf⟩,_⟩:=ok;let Z:=h1;let⟨T,ab,c0⟩:=Z;let⟨σ,V⟩:=rP hR h1;let sa:Sm 30 (row.getD ↥s.i 0):=by unfold Sm;lia
 let sb:Sm 30 (row.getD ↥s.j 0):=by unfold Sm;lia
 let L:=bC g g;let I:=bC c c;let q:Sm 1300 (aE s.x s.x).1:=Sm.Ct (ä g.ne g.ne) (G.mul G);let k:Sm 1300 (aE s.x s.x).2:=Sm.Bh (ä g.ne g.ne) (o.mul o);let v:Sm 1300 (aE s.y s.y).1:=Sm.Ct (ä c.ne c.ne) (J.mul J);let l:Sm 1300 (aE s.y s.y).2:=Sm.Bh (ä c.ne c.ne) (m.mul m);let p:Sm 1 (1:Int):=by change(1:Int).natAbs<2^1;decide
 let N:=oh (row.getD ↥s.i 0);let O:=oh (row.getD ↥s.j 0);let ax:=bC N L;let bY:=bC O I;let X:Sm 1330 (aE (row.getD ↥s.i 0,1) (aE s.x s.x)).1:=Sm.Ct (ä N.ne L.ne) (sa.mul q);let C:Sm 1301 (aE (row.getD ↥s.i 0,1) (aE s.x s.x)).2:=Sm.Bh (ä N.ne L.ne) (p.mul k);let Γ:Sm 1330 (aE (row.getD ↥s.j 0,1) (aE s.y s.y)).1:=Sm.Ct (ä O.ne I.ne) (sb.mul v);let u:Sm 1301 (aE (row.getD ↥s.j 0,1) (aE s.y s.y)).2:=Sm.Bh (ä O.ne I.ne) (p.mul l);show Qn 2 3 4 5 c_.nd .B ?_;show ao 6 c_.nd (av α (b.mono .a) rfl (bj (aJ .A .C (dC (d:=0) T .b rfl)) ae) (av α (b.mono .a) rfl .E .E #[#[g.ne,g.ne],G.le .a,o.le .a,G.le .a,o.le .a,(o.mul o).le .a]) #[#[N.ne,L.ne],sa.le .a,p.le .a,q.le .a,k.le .a,(p.mul k).le .a]) ?_;show ao 6 c_.nd (lj (av Zf (b.mono .a) rfl (aa 6) (av α (b.mono .a) rfl (bj (aJ .A .D (dC (d:=0) .b c0 rfl)) ae) (av α (b.mono .a) rfl (aa 5) (aa 5) #[#[c.ne,c.ne],J.le .a,m.le .a,J.le .a,m.le .a,(m.mul m).le .a]) #[#[O.ne,I.ne],sb.le .a,p.le .a,v.le .a,l.le .a,(p.mul l).le .a]) #[#[ax.ne,bY.ne],X.le .a,C.le .a,Γ.le .a,u.le .a,(C.mul u).le .a]) (Fd g c:_=kW row s)) ?_;change S _ [À (.val Â row),À (.val Â (Dt.mk (me s))),À (.val Â s.i),À (.val Â s.j),À (.val Â s.x),À (.val Â s.y),À (.val Á (kW row s)),none,none] _ _
 let n:((kW row s).1≠0/\(kW row s).1.natAbs<1073741824)/\eG (kW row s).1=(kW row s).1:=by
  unfold Fz rq at mf;simpa using mf
 let⟨n,mF⟩:=n;let ml:=n.2;show aQ (TW.t (iS (aD cw (aX (aa 6)) ae) λz1=>(iS (aD aO (aV (aa 6)) ae) λz2=>(gT (aD cw (aC R (b.mono .a) rfl (aV (aa 6)) n) (aV (aa 6))))))) (λW=>?_) (λW=>?_)
 .rw[ado m1,adF n.1,ado mF] at W;cases W
 let⟨z,fa2⟩:=zl σ.1 σ.2;let⟨F,fb2⟩:=zl V.1 V.2;let D:Sm 30 (eG (row.getD ↥s.i 0)):=by unfold Sm;lia
 let r:Sm 30 (eG (row.getD ↥s.j 0)):=by unfold Sm;lia
 let⟨j1,j2⟩:=O0 z F D r;let sm:Sm 30 (kW row s).1:=by unfold Sm;lia
 let ef:xy row s=(row.set ↥s.i (kW row s).1).set ↥s.j (dz (dz (eG (row.getD ↥s.i 0)) (eG (row.getD ↥s.j 0))) (kW row s).1):=by
  unfold xy T7 N7 Ic;rw[XY]
 rw[ef];show oS 7 c_.nd rfl B.list .A ?_;show oX 7 (a:=(kW row s).1) rfl .C (aV (aa 6)) T .b ?_;show ao 8 c_.nd (av Yp (b.mono .a) rfl (aC R (b.mono .a) rfl (aJ .A .C (dC (d:=0) T .b rfl)) σ) (aC R (b.mono .a) rfl (aJ .A .D (dC (d:=0) .b c0 rfl)) V) #[z,F,D.le .a,r.le .a]) ?_;show oX 7 (as:=row.set ↥s.i (kW row s).1) (a:=dz (dz (eG (row.getD ↥s.i 0)) (eG (row.getD ↥s.j 0))) (kW row s).1) rfl .D (av Yp (b.mono .a) rfl (aa 8) (aV (aa 6)) #[j1,n.1,j2.le .a,sm.le .a]) .b (by rw[Ō];show c0) ?_;show fF 7 rfl ?_;show ay (jR (aa 7)) rfl
def RN(a:x≠0)(b:x.natAbs<1073741824):eG x∣x:=by
 let⟨s,_,_,e⟩:=rT a b;show#[s*s,e]
def My(l:Int):Nat->Int
 |0=>l
 |i+1=>(a9 (My l i) (SP.getD i 1)).2
def km(n:Int):Bool:=decide (n.natAbs<1073741824)&&decide (My (n.natAbs:Int) 6=1)
def JF:∀p∈SP,aT p=Á:=λp hp=>by
 show WO ?_;let:∀p∈SP,p∈Q.PW:=by decide
 show this p hp
theorem FQ{q p:Int}(a:aT q=Á)(hp:aT p=Á):∀n:Nat,q∣p^n->q=p
 |0,h=>by
  rw[Ń] at h;let:=ĝ .a h;let:=az a;lia
 |n+1,h=>by
  rw[ĥ] at h;obtain z|z:=euclid a h
  .show FQ a hp n z
  .show bq a hp z
theorem DL{l:Int}(b:l≠0):∀i,i<=6->My l i≠0/\∀q,aT q=Á->q∣l->q∈SP\/q∣My l i
 |0,_=>#[b,λq _ h=>.inr h]
 |i+1,hi=>by
  let⟨h1,h2⟩:=DL b i .b;let c:SP.getD i 1∈SP:=Q.getD_mem (by change i<6;lia);let hp:=JF _ c;let⟨j,e,g⟩:=fE (az hp) h1;show#[λz=>g (by let d:(a9 (My l i) (SP.getD i 1)).2=0:=z;rw[d];show afT _),λq a f=>?_];obtain z|z:=h2 q a f
  .show .inl z
  .rw[e] at z;obtain z|z:=euclid a z
   .show .inr z
   .rw[FQ a hp _ z];show .inl c
def Tc{n:Int}(c:n≠0)(h:km n=Á):n.natAbs<1073741824/\∀q,aT q=Á->q∣n->q∈SP:=by
 unfold km at h;let⟨h1,h2⟩:=ad_.mp h;let h1:=ad0 h1;let h2:=ad0 h2;show#[h1,λq a b=>?_];rcases(DL (l:=(n.natAbs:Int)) .b 6 (ú _)).2 q a (aet.mpr b) with z|z
 .show z
 .rw[h2] at z;let:=ĝ .a z;let:=az a;lia
def vP(n:Int)(D:n≠0):⇑Body ni "_law_is_small" iP f kk [.val Â n] (RT Á (km n)):=by
 intro q A outer s H E F;show ao 1 eN.nd (lj (iR rfl B.abs .A) (s_ n)) ?_;show aQ (aD EW .B ae) (λc=>?_) (λc=>?_)
 .let a:(1073741824:Int)<=n.natAbs:=ad0 c;let e:km n=Â:=by unfold km;rw[adF .b];rfl
  rw[e];show ay xI rfl
 let a:¬(1073741824:Int)<=n.natAbs:=aes c;show jO (xs:=SP) (b:=Á) (λi U=>∃d,U=[À (.val Â n),À (.val Á (My (n.natAbs:Int) i)),d]/\i<=6) (bW 2 eN.nd) (d8 (aF ae (aF ae (aF ae (aF ae (aF ae (aF ae bD)))))) (aej rfl)) #[none,rfl,Ņ _] ?_ ?_
 .rintro i p U' hp ⟨d,rfl,_⟩;let hi:i<6:=(adk.mp hp).1;let j:SP.getD i 1=p:=by rw[ċ,hp];rfl
  let⟨p2,C⟩:=I_ p (Ĭ hp);let⟨t,_⟩:=DL (l:=(n.natAbs:Int)) .b i .b;let e1:My (n.natAbs:Int) (i+1)=(a9 (My (n.natAbs:Int) i) p).2:=by rw[<-j];rfl
  rw[e1];generalize My (n.natAbs:Int) i=x at *;show cR (ι:=Int×Int) (λu U=>U=[À (.val Â n),À (.val Á u.2),À (.val Á p)]/\0<=u.1/\x=u.2*p^↥u.1/\u.2≠0) (λu=>u.2.natAbs) (0,x) #[rfl,ń 0,by change x=x*p^↥(0:Int);rw[show ↥(0:Int)=0 from rfl,Ń,Ċ],t] ?_;rintro⟨m,l⟩ U' ⟨rfl,g,he,y⟩;dsimp only at *;show#[_,aD aO (bg .B .C .b) ae,λc=>?_,λc=>?_]
  .let a:l.fmod p=0:=ad0 c;let⟨h,v,o,k⟩:=CQ g he p2 a y;show ao 1 eN.nd (bf .B .C (Sm.div (n:=10) (by unfold Sm;lia) .b)) ?_;show aN #[(m+1,l.fdiv p),#[rfl,h,v,o],k]
  .let a:¬l.fmod p=0:=aes c;show aN #[À (.val Á p),?_,hi];rw[nt p2 (r:=(m,l)) #[g,he,λz=>a (Q.jk.mpr z)]]
 .rintro U' ⟨d,rfl,_⟩;let e:km n=decide (My (n.natAbs:Int) 6=1):=by unfold km;rw[ado .b,afW]
  rw[e];show ay (jy aO .B ae) rfl
def TY(c:x≠0)(d:x.natAbs<1073741824)(h:∀q,aT q=Á->q∣x->q∈SP):eG x∈cD 6:=by
 let⟨s,h1,h2,e⟩:=rT c d;let i:=h1.1;let a:∀p∈SP,p∣(30030:Int):=by decide
 let b:eF ((eG x).natAbs:Int):=by
  obtain z|z:=aif (eG x)
  .rwa[<-z]
  .let:((eG x).natAbs:Int)=-eG x:=by lia
   rw[this];show nR h1
 show Gb (ahg.mp (z_ (n:=30030) _ ((eG x).natAbs:Int) (ú _) .b b λq f g=>?_));show a q (h q f (Ĺ (aet.mp g) (RN c d)))
def RO(r:.L):Prop:=(1<=r.length/\r.length<=8)/\∀x∈r,x∈cD 6
def W3(r r':.L):Prop:=RO r'/\nX r' r
def LV{r:.L}(h:RO r)(b:x∈cD 6):RO (r.set i x):=by
 show#[by rw[Ō];show h.1,λy a=>?_];obtain z|z:=aeG a
 .show h.2 y z
 .rwa[z]
def Nh{m:.L}{n:Int}(k:∀x∈l,x∈cD 6)(b:i≠j)(hi:i<l.length)(B:j<l.length)(w:l.getD i 0=a)(ec:l.getD j 0=c)(v:n≠0)(u:n.natAbs<1073741824)(C:eG n∈cD 6)(em:a*x*x+c*y*y=n)(h:nX l m):nX ((l.set j (dz (dz a c) (eG n))).set i (eG n)) m:=by
 let⟨s,h1,h2,q⟩:=rT v u;let⟨r,p1,p2⟩:=B6 l i j b hi B;rw[w,ec] at p1;let mem:∀z∈a::c::r,z∈cD 6:=λz hz=>k z (p1.mem_iff.mpr hz);let ha:=mem a .c;let d:=mem c .c;let o:∀z∈r,z∈cD 6:=λz hz=>mem z (by simp[hz]);let nz:∀{z},z∈cD 6->z≠0:=λh=>bL h;let⟨f,g,A,p⟩:=vV (jE ha) (jE d) h1;let t:=(h.perm p1 λz hz=>nz (k z hz)).turn (c:=eG n) (e:=dz (dz a c) (eG n)) (x:=x) (y:=y) (s:=s) (t:=g) (nz ha) (nz d) h1.1 f.1 .b A (λz hz=>nz (o z hz)) (by rwa[em,ı]) p;show t.perm (p2 _ _).symm λz hz=>?_;obtain rfl|hz:=ě.mp hz
 .show h1.1
 .obtain rfl|hz:=ě.mp hz
  .show f.1
  .show nz (o z hz)
abbrev acS(P w K mg base):=aG P w K mg base 1 "_law_is_small" ["_law_number"] (cj K (λn=>n≠0) Á km)
def AX(YJ:⇑acQ)(V:⇑acR)(Z:⇑acS)(row:.L)(cell:Int)(h:RO row):⇑Body tJ "_law_other" mG f 2 [.val Â row,.val Â cell] (zx Á (λr'=>W3 row r')):=by
 intro X A outer s H E q;show oS 2 bR.nd rfl B.list .A ?_;show dS (n:=4) (λi U=>∃b1 cl new D α G S R J I,U=[À (.val Â row),À (.val b1 (cl:Int)),À (.own Á (new:.L)),D,α,G,S,R,J,I]/\RO new/\nX new row) rfl B.range (bW 3 bR.nd) ae .a .a #[_,_,_,none,none,none,none,none,none,none,rfl,h,#[rfl,rfl,#[1,1,.a,.a,rfl],λ_ _=>rfl]] ?_ ?_
 .rintro t U' ht ⟨b1,cl,new,D,α,G,S,R,J,I,rfl,g,p⟩;let l1:=g.1;let lI:(1:Int)<=new.length:=by lia
  show ao 4 bR.nd (bg .B (sX 2 rfl (bx rfl B.len .C)) .b) ?_;show ao 5 bR.nd (bg (bf .B ae AR) (sX 2 rfl (bx rfl B.len .C)) .b) ?_;show ao 6 bR.nd (bg (bf .B ae AR) ae .a) ?_;show ao 7 bR.nd (bG ae (bg (bf .B ae AR) ae .a)) ?_;show ao 1 bR.nd (bf .B ae AR) ?_;let r:=eM (a:=cl) (b:=(new.length:Int)) .b;let u:=eM (a:=cl.fdiv 8) (b:=(new.length:Int)) .b;let x1:=eM (a:=cl.fdiv 64) (b:=4) .a;let y1:=eM (a:=cl.fdiv 256) (b:=3) .a;generalize cl.fmod (new.length:Int)=i at *;generalize (cl.fdiv 8).fmod (new.length:Int)=j at *;generalize (cl.fdiv 64).fmod 4=x at *;generalize (cl.fdiv 256).fmod 3=y at *;let C:new.getD ↥i 0∈cD 6:=g.2 _ (Q.getD_mem .b);let v:new.getD ↥j 0∈cD 6:=g.2 _ (Q.getD_mem .b);let Γ:tP new i=À (new.getD ↥i 0):=dC r.1 r.2 rfl;let T:tP new j=À (new.getD ↥j 0):=dC u.1 u.2 rfl;let ai1:=kN C;let aj1:=kN v;generalize σ:new.getD ↥i 0=a at *;generalize hC:new.getD ↥j 0=c at *;show ao 8 bR.nd (bG (aH (aH (Ex 2 rfl .E Γ) (aa 6) (mulL .b .b)) (aa 6) (mulR .b .b)) (aH (aH (Ex 2 rfl (aa 5) T) (aa 7) (mulL .b .b)) (aa 7) (mulR .b .b))) ?_;generalize hM:a*x*x+c*(1+y)*(1+y)=m at *;by_cases k:m=0
  .show aQ (c:=(!decide (i=j))&&Â) (TW.t (iX (aD cw .E (aa 5)) λ_=>(by
    let e:Â=((!decide (m=0))&&Â):=by rw[aic]
    rw[e]
    show iX (aD cw (aa 8) ae) λh=>absurd k ↑h))) (λl=>?_) (λ_=>?_)
   .rw[aic] at l;cases l
   .show aN #[_,_,new,_,_,_,_,_,_,_,rfl,g,p]
  .show aQ (TW.t (iX (aD cw .E (aa 5)) λ_=>(iX (aD cw (aa 8) ae) λ_=>(jq (eH (aC Z (q.mono .a) rfl (aa 8) k)))))) (λl=>?_) (λ_=>?_)
   .let O:i≠j:=λz=>by
     rw[ado z] at l;cases l
    let L:km m=Á:=by
     let⟨_,z⟩:=ad_.mp l;show(ad_.mp z).2
    let⟨F,mp⟩:=Tc k L;let o:=TY k F mp;let N:dz a c∈cD 6:=IX C v;let W:dz (dz a c) (eG m)∈cD 6:=IX N o;let d:∀{z:Int},z∈cD 6->Sm 400 z:=λhz=>(Gh hz).2.le .a;let nz:∀{z:Int},z∈cD 6->z≠0:=λhz=>bL hz;show ao 9 bR.nd (aC YJ (q.mono .a) rfl (aa 8) #[k,F]) ?_;show oX 2 rfl (aa 5) (av V (q.mono .a) rfl (av V (q.mono .a) rfl (Ex 2 rfl .E Γ) (Ex 2 rfl (aa 5) T) #[nz C,nz v,d C,d v]) (aa 9) #[nz N,nz o,d N,d o]) u.1 u.2 ?_;show oX 2 rfl .E (aa 9) r.1 (by rw[Ō];show r.2) ?_;show aN (aN #[_,_,_,_,_,_,_,_,_,_,rfl,LV (LV g W) o,Nh g.2 (λz=>O .b) .b .b σ hC k F o hM p])
   .show aN #[_,_,new,_,_,_,_,_,_,_,rfl,g,p]
 .rintro U' ⟨b1,cl,new,D,α,G,S,R,J,I,rfl,g,p⟩;show fF 2 rfl ?_;show ay .C #[_,#[g,p],rfl]
noncomputable def Wo(_ _:.L)(_:List dO)(_:.L):Bool:=Á
def Wk(one other:.L)(a:List dO)(o:.L):Prop:=bh one=Á/\(a.length<=3/\one.length<=3)/\Good one a/\(my one a).1=other/\o=jc 0 1 one.length
def U4{K:Ä}{a:.L}:¬Py.rp K N H .non a:=λh=>by
 let⟨_,_,e,_⟩:=h;cases e
def MT(h:n<=3):rZ (jc 0 1 n)=jc 0 1 n:=by
 show(J3 (ahe _) ?_).symm;let:n=0\/n=1\/n=2\/n=3:=by lia
 obtain rfl|rfl|rfl|rfl:=this<;>decide
def M7(h:l.length<=3):(jc 0 1 l.length).map (λk:Int=>l.getD ↥k 0)=l:=by
 obtain _|⟨a,_|⟨b,_|⟨c,_|⟨d,l⟩⟩⟩⟩:=l
 .rfl
 .rfl
 .rfl
 .rfl
 .simp only[ŭ] at h;lia
abbrev acT(P w K mg base):=aG P w K mg base 4 "_law_stepped" ["_law_row","_law_step"] (bw K (fun(r:.L) (d:Dt)=>∃s,d.d=me s/\yT r s/\mR r s) Á Xj)
def BE(D:⇑acT)(one other:.L)(c:List dO)(o:.L)(hp:Wk one other c o):⇑Body mQ "_law_walks" jo f 4 [.val Â one,.val Â other,.val Â c,.val Â o] (RT Á (Wo one other c o)):=by
 intro α A outer R H E l;let⟨v,⟨p,N⟩,g,L,rfl⟩:=hp;show ao 4 iq.nd (qx rfl B.list .A) ?_;show jO (b:=Â) (λi U=>∃h,U=[À (.val Â one),À (.val Â other),À (.val Â c),À (.val Â (jc 0 1 one.length)),À (.val Á (my one (c.take i)).1),h]) (bW 5 iq.nd) .C #[none,rfl] ?_ ?_
 .rintro i s U' q ⟨h,rfl⟩;let⟨Q,I,F,m,S⟩:=vo v g q;rw[uZ q];generalize (my one (c.take i)).1=r at *;let⟨G,J,z⟩:=m.1;show aQ (TW.t (iS (fW (eH (R7 (d:=me s) rfl B.isinstance rfl B.tuple (oB (aa 5))))) λ_=>(iS (aD cw (Qh rfl B.len (wX (ds:=[.int s.i,.int s.j,xD s.x,xD s.y]) (oB (aa 5)))) ae) λ_=>(gT (fW (Ce BG gO gO ae (EV (oB (aa 5)) ae) (Fb (oB (aa 5)) ae) (bx rfl B.len .E))))))) (λe=>?_) (λ_=>?_)
  .let h1:decide ((0:Int)<=s.i)=Á:=ado G;let h2:decide (s.i<s.j)=Á:=ado J;let p:decide (s.j<(r.length:Int))=Á:=ado z;rw[h1,h2,p] at e;cases e
  show ao 4 iq.nd (av D (l.mono .a) rfl .E (oB (aa 5)) #[s,rfl,F,m]) ?_;show aQ (t8 (M:=.L) (x:=À (xy r s)) .E λ_ _ _ _=>U4) (λe=>nomatch e) (λ_=>?_);show E_ 4 (a:=xy r s) rfl ?_;show aN #[_,rfl]
 .rintro U' ⟨h,rfl⟩;let len:=(F6 v g c.length (ú _)).1.len;rw[ŷ] at len ⊢;rw[L] at len ⊢;show ay (tW (jy (EE (M:=.L) (Bx l)) (F5 rfl B.sorted .D (by rw[fR];lia)) (Bz rfl B.list rfl B.range (bx rfl B.len .A) .b)) λ_=>(ud (jy (EE (M:=.L) (Bx l)) (dg (f:=λk:Int=>other.getD ↥k 0) (b':=Á) ["_law_k"] [4] (bH (af jo) mQ rfl rfl .d) (bA .D) (bp 0) (λC s H fp=>cI 0 ["_law_k","_law_new"]) a8 (λi u O C s H fp=>?_) (by rw[fR];lia)) .B))) ?_
  .let⟨h1,h2⟩:=mU O;show dv (aJ .B .A (dC (d:=0) .b (n:=one.length) .b len))
  .rw[MT N,<-len,M7 .b,ado rfl,ado rfl];rfl
noncomputable def W4(_:.L)(_:Tb)(_:.L):Bool:=Á
structure HZ(row:.L)(T:Tb)(new:.L):Prop where
 isr:bh row=Á
 len:new.length=row.length
 sm:∀x∈new,Sm 40 x
 sq:Sq row.length T
 ot:∃α:Int,1<=α/\α.natAbs<=2^2073/\Ot α (2^2082) T
 led:mh (CB row) T=CB new
noncomputable def iw(T:Tb)(k i:Nat):Fr:=(T.getD k []).getD i (0,1)
noncomputable def tS(row:.L)(T:Tb)(i j:Nat):Nat->Fr
 |0=>(0,1)
 |k+1=>cV (tS row T i j k) (aE (row.getD k 0,1) (aE (iw T k i) (iw T k j)))
def HZ.ent{row:.L}{T:Tb}(h:HZ row T new){k:Nat}(l:k<row.length)(hi:i<row.length):dc (iw T k i)/\Sm 2083 (iw T k i).1/\Sm 2074 (iw T k i).2:=by
 let⟨α,f,g,mo⟩:=h.ot;let c:T.getD k []∈T:=Q.getD_mem (by rwa[h.sq.len]);let d:iw T k i∈T.getD k []:=Q.getD_mem (by rwa[h.sq.row _ c]);let lo:=h.sq.low _ c _ d;let⟨a,b,_⟩:=FO (mo _ c _ d) lo f;let e:(2:Nat)^2082<2^2083:=aeD .a .a;let j:(2:Nat)^2073<2^2074:=aeD .a .a;show#[lo,Η a e,Η (ĭ b g) j]
def HZ.term{row:.L}{T:Tb}(h:HZ row T new){k:Nat}(f:k<row.length)(hi:i<row.length)(q:j<row.length):uT (iw T k i) (iw T k j)/\uT (row.getD k 0,1) (aE (iw T k i) (iw T k j))/\dc (aE (row.getD k 0,1) (aE (iw T k i) (iw T k j)))/\Sm 4200 (aE (row.getD k 0,1) (aE (iw T k i) (iw T k j))).1/\Sm 4200 (aE (row.getD k 0,1) (aE (iw T k i) (iw T k j))).2/\val (aE (row.getD k 0,1) (aE (iw T k i) (iw T k j)))=(row.getD k 0:Rat)*(Tf T k i*Tf T k j):=by
 let⟨a,n,c⟩:=h.ent f hi;let⟨b1,b2,b3⟩:=h.ent f q;let r:=bV h.isr (Q.getD_mem (l:=row) (d:=0) f);let o:Sm 30 (row.getD k 0):=by unfold Sm;lia
 let b:Sm 1 (1:Int):=by change(1:Int).natAbs<2^1;decide
 let m:=bC a b1;let g:Sm 4166 (aE (iw T k i) (iw T k j)).1:=Sm.Ct (ä a.ne b1.ne) (n.mul b2);let e:Sm 4148 (aE (iw T k i) (iw T k j)).2:=Sm.Bh (ä a.ne b1.ne) (c.mul b3);let p:((row.getD k 0,1):Fr).2*(aE (iw T k i) (iw T k j)).2≠0:=ä (oh _).ne m.ne;show#[#[#[a.ne,b1.ne],n.le .a,c.le .a,b2.le .a,b3.le .a,(c.mul b3).le .a],#[#[(oh _).ne,m.ne],o.le .a,b.le .a,g.le .a,e.le .a,(b.mul e).le .a],bC (oh _) m,(Sm.Ct p (o.mul g)).le .a,(Sm.Bh p (b.mul e)).le .a,?_];rw[val_mul (oh _) m,val_mul a b1,y_];rfl
def HZ.sum{row new:.L}{T:Tb}(h:HZ row T new){i j:Nat}(hi:i<row.length)(c:j<row.length):∀k,k<=row.length->dc (tS row T i j k)/\val (tS row T i j k)=sN (λm=>(row.getD m 0:Rat)*(Tf T m i*Tf T m j)) k/\Sm 4200 (tS row T i j k).1/\Sm 4200 (tS row T i j k).2
 |0,_=>#[tI,Gm,(show(0:Int).natAbs<2^4200 from Nat.pow_pos .a),(by change(1:Int).natAbs<2^1;decide:Sm 1 (1:Int)).le .a]
 |k+1,t=>by
  let⟨l,v,_,_⟩:=h.sum hi c k .b;let⟨_,_,tl,_,_,tv⟩:=h.term (k:=k) .b hi c;let lo:=uY l tl
  let e:val (tS row T i j (k+1))=sN (λm=>(row.getD m 0:Rat)*(Tf T m i*Tf T m j)) (k+1):=by
   change val (cV _ _)=sN _ k+_;rw[val_add l tl,v,tv]
  let⟨α,g,n,mo⟩:=h.ot;let o:=JZ (f:=λm=>(row.getD m 0:Rat)*(Tf T m i*Tf T m j)) (α:=1*(α*α)) (B:=2^30*(2^2082*2^2082)) (k+1) λm s=>DU (α:=1) #[row.getD m 0,by let:=bV h.isr (Q.getD_mem (l:=row) (d:=0) (i:=m) .b);lia,by rw[show((1:Int):Rat)=1 from rfl,agK]] (DU (mo.at h.sq .b hi) (mo.at h.sq .b c));let r:=cF h.isr;let p:1<=1*(α*α):=by rw[Ő];show Ĥ g g
  let O:Ov (1*(α*α)) ((k+1)*(2^30*(2^2082*2^2082))) (tS row T i j (k+1)):=by
   unfold Ov;rwa[e]
  let⟨a,b,_⟩:=FO O lo p;show#[lo,e,?_,?_]
  .let p1:(k+1)*(2^30*(2^2082*2^2082))<=2^3*(2^30*(2^2082*2^2082)):=afa .b (ú _);let p2:(2:Nat)^3*(2^30*(2^2082*2^2082))=2^4197:=by rw[<-ϸ,<-ϸ,<-ϸ]
   rw[p2] at p1;show Η (ĭ a p1) (aeD .a .a)
  .let q:(1*(α*α)).natAbs<=2^2073*2^2073:=by rw[Ő,ļ];show afa n n
   rw[<-ϸ] at q;show Η (ĭ b q) (aeD .a .a)
def HZ.done{row:.L}{T:Tb}(h:HZ row T new)(hi:i<row.length)(a:j<row.length):tS row T i j row.length=(new.getD i 0*(if i=j then 1 else 0),1):=by
 let⟨l,v,_⟩:=h.sum hi a row.length (ú _);show val_inj l (oh _) ?_;rw[v,<-L7 h.sq hi a,h.led,Fh (by rwa[h.len]) (by rwa[h.len]),y_];split
 .rw[Ċ]
 .rw[ś];rfl
def zB(N:⇑aG 3 "_law_sum" ["_law_u","_law_v"] (bw K uT Á cV))(G:⇑aG 3 "_law_times" ["_law_u","_law_v"] (bw K uT Á aE))(row:.L)(T:Tb)(new:.L)(h:HZ row T new):⇑Body k6 "_law_is_led" iu f 3 [.val Â row,.val Â T,.val Â new] (RT Á (W4 row T new)):=by
 intro Γ A outer sh H E q;let l8:=cF h.isr;let D:=h.sq.len;let hn:=h.len;show ao 3 cX.nd (bx rfl B.len .A) ?_
 let X:T.map (λl:List Fr=>(l.length:Int))=Ë row.length (row.length:Int):=by
  show List.eq_replicate_iff.mpr #[by rwa[ą],λx S=>?_];let⟨l,V,rfl⟩:=adn.mp S;rw[h.sq.row l V]
 show aQ (c:=Â) (QE (TW.t (iS (fW (eH (DI rfl B.isinstance rfl B.list .B))) λ_=>(gT (aD (Ii (M:=.L) (Bx q)) (dg (f:=λl:List Fr=>(l.length:Int)) (b':=Á) ["_law_line"] [] (bH (af iu) k6 rfl rfl .d) (bA .B) (bp 0) (λC s H fp=>cI 0 ["_law_line"]) a8 (λi u hu C s H fp=>bx rfl B.len .A) .b) (SS (a:=(row.length:Int)) (k:=row.length) (d8 (aF .D bD) (by change 1<=1000;decide)) .D .b .b))))) (by rw[Ï,X,ado rfl];rfl)) (λr=>nomatch r) (λ_=>?_);show dS (n:=(row.length:Int)) (λi U=>∃v g e b,U=[À (.val Â row),À (.val Â T),À (.val Â new),À (.val Á (row.length:Int)),v,g,e,b]) rfl B.range (bW 4 cX.nd) .D .b .b #[none,none,none,none,rfl] ?_ ?_
 .rintro i U' hi ⟨v,g,e,b,rfl⟩;let m:i<row.length:=by lia
  show dS (n:=(row.length:Int)) (λj U=>∃g e b,U=[À (.val Â row),À (.val Â T),À (.val Â new),À (.val Á (row.length:Int)),À (.val Á (i:Int)),g,e,b]) rfl B.range (bW 5 cX.nd) .D .b .b #[g,e,b,rfl] ?_ ?_
  .rintro j U' hj ⟨g,e,b,rfl⟩;let o:j<row.length:=by lia
   show ao 6 cX.nd (dv (b':=Á) (bj ae ae)) ?_;show dS (n:=(row.length:Int)) (λk U=>∃b,U=[À (.val Â row),À (.val Â T),À (.val Â new),À (.val Á (row.length:Int)),À (.val Á (i:Int)),À (.val Á (j:Int)),À (.val Á (tS row T i j k)),b]) rfl B.range (bW 7 cX.nd) .D .b .b #[b,rfl] ?_ ?_
   .rintro k U' hk ⟨b,rfl⟩;let p:k<row.length:=by lia
    let⟨W,t2,σ,Z,J,_⟩:=h.term p m o;let⟨O,_,R,L⟩:=h.sum m o k .b;let gl:(T.getD k []).length=row.length:=lA h.sq p;let α:=dC (d:=(0:Int)) (l:=row) (i:=(k:Int)) .b (.b:(k:Int)<row.length) rfl;let gt:=dC (d:=([]:List Fr)) (l:=T) (i:=(k:Int)) (n:=row.length) .b .b D;let F:=dC (d:=((0,1):Fr)) (l:=T.getD k []) (i:=(i:Int)) (n:=row.length) .b .b gl;let y:=dC (d:=((0,1):Fr)) (l:=T.getD k []) (i:=(j:Int)) (n:=row.length) .b .b gl;rw[Ï] at α gt F y;show ao 6 cX.nd (av N (q.mono .a) rfl (aa 6) (av G (q.mono .a) rfl (dv (b':=Á) (bj (aJ .A (aa 7) α) ae)) (av G (q.mono .a) rfl (aJ (aJ .B (aa 7) gt) .E F) (aJ (aJ .B (aa 7) gt) (aa 5) y) W) t2) #[#[O.ne,σ.ne],R.le .a,L.le .a,Z.le .a,J.le .a,(L.mul J).le .a]) ?_;show aN #[_,rfl]
   .rintro U' ⟨b,rfl⟩;rw[Ï];let I:=dC (d:=(0:Int)) (l:=new) (i:=(i:Int)) (n:=row.length) .b .b hn;rw[Ï] at I;let sn:Sm 40 (new.getD i 0):=h.sm _ (Q.getD_mem .b);let o1:Sm 1 (if decide ((i:Int)=(j:Int)) then (1:Int) else 0):=by unfold Sm;split<;>decide
    let eq:tS row T i j row.length=(new.getD i 0*(if decide ((i:Int)=(j:Int)) then (1:Int) else 0),1):=by
     rw[h.done m o];by_cases z:i=j
     .rw[ac6 z,ac6 (by simp[z])]
     .rw[ac2 z,ac2 (by simp;lia)]
    show aQ (c:=Â) (QE (aD (Ii (M:=Fr) (Bx q)) (aa 6) (bj (aH (aJ .C .E I) (QJ rfl B.int (jy aO .E (aa 5))) (sn.ok o1)) ae)) (by rw[ado eq];rfl)) (λr=>nomatch r) (λ_=>?_);show aN #[_,_,_,rfl]
  .rintro U' ⟨g,e,b,rfl⟩;show aN #[_,_,_,_,rfl]
 .rintro U' ⟨v,g,e,b,rfl⟩;show ay xI rfl
def VQ(_ _:.L):Bool:=Á
def VI{K:Ä}{a:Td}:¬Py.rp K N H .non a:=λh=>by
 let⟨_,_,_,_,e,_⟩:=h;cases e
def Mk.row{one:.L}(h:Mk one other):bh one=Á:=tu (q:=1) (.inl rfl) h.2.1.1 (by let:=h.2.1.2.1;lia) λx a=>vR (h.2.2.1 x a)
def JC{one:.L}{a:List dO}(h:Mk one other)(j:Pm one other a):HZ one (my one a).2 other:=by
 let⟨k,g,e⟩:=j;let I:=(F6 h.row g a.length (ú _)).1;rw[ŷ] at I;let⟨α,c,d,mo⟩:=I.ot;rw[e] at I;show#[h.row,I.len,λx b=>(Gh (h.2.2.2 x b)).2 |> λz=>?_,I.sq,#[α,c,ĭ d (aep .a .b),?_],I.led]
 .let:=kN (h.2.2.2 x b);unfold Sm;lia
 .intro r f u i;let⟨n,h1,h2⟩:=mo r f u i;show#[n,ĭ h1 (aep .a .b),h2]
abbrev acV(P w K mg base):=aG P w K mg base 4 "_law_is_led" ["_law_row","_law_table","_law_new"] (tZ K HZ Á W4)
abbrev acU(P w K mg base):=aG P w K mg base 5 "_law_walks" ["_law_one","_law_other_here","_law_steps","_law_order"] (EL K Wk Á Wo)
def D9(n:⇑aG 132 "leading" ["one","other"] (kU K Mk Á V6))(y:⇑acM)(u:⇑acU)(p:⇑acV)(one other:.L)(hp:Mk one other):⇑Body v7 "_law_held" oP f 132 [.val Â one,.val Â other] (RT Á (VQ one other)):=by
 intro r A outer s H E j;let q:=hp.2.1;let l:=hp.2.2.1;let m:=hp.2.2.2;show ao 2 jA.nd (d8 (as:=[one,other]) (b:=Á) (aF (qx rfl B.list .A) (aF (qx rfl B.list .B) bD)) (by change 2<=1000;decide)) ?_;show FX 3 jA.nd (x9 n (j.mono .a) rfl (aJ (a:=one) .C ae rfl) (aJ (a:=other) .C ae rfl) hp) λo g=>?_;show mz (λU=>∃o:Option Td,U=[À (.val Â one),À (.val Â other),À (.val Á [one,other]),À (.dpo o)]/\V6 one other o) (L6 3 rfl (TW.t (iX (HU (x:=o) .D λ_ _ _ _=>VI) λ_=>(jq (aD gO (bx rfl B.len .A) ae))))) (λe=>?_) (λ_=>aN #[o,rfl,g]) ?_
 .obtain⟨_,rfl⟩|⟨al,k,i,rfl⟩:=g
  .cases e
  let len:=(JC hp i).sq.len;show HV 3 rfl ?_;show NZ 3 (c:=LP.mk) rfl (λC H v h=>Ra .b h) ?_;show ME 3 rfl (Nj 3 rfl (K9 3 rfl ?_));show FX 3 jA.nd (x9 n (j.mono .a) rfl (aJ (a:=one) .C ae rfl) (aJ (a:=other) .C ae rfl) hp) λo g=>aN #[o,rfl,g]
 rintro U' ⟨o,rfl,g⟩;show Qj 3 rfl ?_;show aQ (aD (Ii (M:=List .L) (Bx j)) .C (d8 (as:=[one,other]) (b:=Â) (aF .A (aF .B bD)) (by change 2<=1000;decide))) (λe=>?_) (λ_=>?_)
 .rw[ado rfl] at e;cases e
 show aQ (Rg (d:=Qt (KA one other)) (lj (a':=Dt.mk (Qt (KA one other))) (av y (j.mono .a) rfl .A .B hp.1) rfl) λ_ _ _ _ h=>D3 h) (λe=>?_) (λe=>?_)
 .obtain⟨_,rfl⟩|⟨al,_⟩:=g
  .show ay (Px (M:=Td) (x:=none) .D λ_ _ _ _=>VI) rfl
  .rw[(vA l m).mpr al] at e;cases e
 let al:nX one other:=(vA l m).mp (by cases h:KA one other<;>rw[h] at e<;>first|rfl|cases e);obtain⟨z,_⟩|⟨_,k,i,rfl⟩:=g
 .show absurd al z
 show E_ 3 (a:=(#[k,jc 0 1 one.length,(my one k).2]:Td)) rfl ?_;show aQ (TW.t (iS (fW (eH (RU rfl B.isinstance rfl B.tuple .D))) λ_=>(iS (aD cw (QK rfl B.len .D) ae) λ_=>(gT (fW (eH (DI rfl B.isinstance rfl B.list (Pw .D)))))))) (λe=>nomatch e) (λ_=>?_);show ay (tW (qG u (j.mono .a) rfl .A .B (Pw .D) (Up .D) #[hp.row,#[i.1,q.2.1],i.2.1,i.2.2,rfl]) λ_=>(ud (cP p (j.mono .a) rfl .A (Vj .D) .B (JC hp i)))) rfl
def JE(h1:1<=l.length)(d:l.length<=8)(h:∀x∈l,x∈cD 6):GR 61 6 l:=by
 show#[#[h1,d],λx b=>#[bL (h x b),by let:=kN (h x b);lia],?_,Q6,.a,λa ha q e g=>y8 (h a ha) e g]
 let key:∀m:.L,(∀x∈m,x∈cD 6)->U2 m<=m.length*6:=λm=>by
  induction m with
  |nil=>intro _;show ú _
  |cons a m f =>
   intro c;let h2:=f λx b=>c x (Ě _ b);let i:=Jy (vF (c a (Ġ ..)));unfold U2 at h2 ⊢;rw[ř,aie,ŭ];lia
 let:=key l h;lia
def K2{a b:.L}(c:1<=a.length)(e:a.length<=3)(b1:1<=b.length)(b3:b.length<=3)(ha:∀x∈a,x∈cD 6)(d:∀x∈b,x∈cD 6):Mk a b:=#[#[6,6,JE c .b ha,JE b1 .b d,.a],#[c,e,b3],ha,d]
noncomputable def UY(xs:.L)(k:Int):.L:=(jc 0 1 3).map λj=>Sy (xt xs (k+j)) (k+j)
def Xu{n:Int}{m:Int}(a:n<=m)(h:i<↥(Ò 0 n 3)):(0:Int)+(i:Int)*3<m:=by
 unfold Ò at h;simp at h;split at h<;>lia
abbrev ac0(P w K mg base):=aG P w K mg base 133 "_law_held" ["_law_one","_law_other_here"] (bw K Mk Á VQ)
abbrev acZ(P w K mg base):=aG P w K mg base 3 "_law_other" ["_law_row","_law_cell"] (kU K (fun(r:.L) (_:Int)=>RO r) Á (λr _ r'=>W3 r r'))
abbrev acY(P w K mg base):=aG P w K mg base 2 "_law_free_row" ["_law_cell","_law_size"] (bw K (fun(_ n:Int)=>0<=n/\n<=8) Á kK)
abbrev acX(P w K mg base):=aG P w K mg base 1 "_law_big" ["_law_cell","_law_k"] (bw K (λ_ k=>0<=k/\k<=100) Á Sy)
abbrev acW(P w K mg base):=aG P w K mg base 1 "_law_cell_at" ["_law_script","_law_k"] (bw K (λ_ k=>0<=k) Á xt)
def UM(X:⇑acM)(Γ:⇑acW)(u:⇑acX)(α:⇑acY)(σ:⇑acZ)(I:⇑ac0)(xs:.L)(hl:xs.length<=63):
  Body P w K mg base JN "law" Er f 133 [.val Â xs] (RT Á Á):=by
 intro V A outer s H E g;let hl':(if (xs.length:Int)<3 then (xs.length:Int) else 3)<=3/\0<=(if (xs.length:Int)<3 then (xs.length:Int) else 3):=by split<;>lia
 show tQ (λi U=>∃G z n q o r,U=[À (.val Â xs),G,z,n,q,o,r]) rfl B.range (bW 1 mS.nd) ae (bG (PH rfl rfl B.min ae (bx rfl B.len .A)) ae) ae #[.a,.a,.b,.b] .a #[none,none,none,none,none,none,rfl] ?_ ?_
 .rintro i U' hi ⟨G,z,n,q,o,r,rfl⟩;let hi':=Xu (m:=4) .b hi;show J4 2 mS.nd (b':=Á) (f:=λj:Int=>Sy (xt xs ((0:Int)+(i:Int)*3+j)) ((0:Int)+(i:Int)*3+j)) ["_law_j"] [0,1] (bH (af Er) JN rfl rfl .d) (lZ rfl B.range ae .a .a) (bp 0) (λC s H fp=>cI 0 ["_law_j","_law_script","_law_k"]) a8 (λj a ha C s H fp=>?_) .a ?_
  .let hm:0<=a/\a<3:=by
    let:=Ĭ ha;simp[jc] at this;lia
   show av u (g.mono .a) rfl (av Γ (g.mono .a) rfl .B (bG .C .A) .b) (bG .C .A) #[.b,.b]
  change S _ [À (.val Â xs),À (.val Á ((0:Int)+(i:Int)*3)),À (.val Á (UY xs ((0:Int)+(i:Int)*3))),n,q,o,r] _ _;obtain⟨c0,c1,c2,v⟩:∃c0 c1 c2,UY xs ((0:Int)+(i:Int)*3)=[c0,c1,c2]:=#[_,_,_,rfl];rw[v];let f3:=eM (a:=c1) (b:=3) .a;show ao 3 mS.nd (av α (g.mono .a) rfl (aJ (a:=c0) .C ae rfl) (bG ae (bg (aJ (a:=c1) .C ae rfl) ae .a)) #[.b,.b]) ?_;let⟨T,l⟩:=zf c0 ↥(1+c1.fmod 3);let T:(kK c0 (1+c1.fmod 3)).length=↥(1+c1.fmod 3):=T;let l:∀x∈kK c0 (1+c1.fmod 3),x∈cD 6:=l;generalize kK c0 (1+c1.fmod 3)=one at *;show mi 4 mS.nd (gK σ (g.mono .a) rfl .D (aJ (a:=c2) .C ae rfl) #[#[.b,.b],l]) λc ho=>?_;let⟨⟨o1,R⟩,al⟩:=ho;let ol:=al.len;let O:=eM (a:=c1.fdiv 3) (b:=(c.length:Int)) .b;show ao 5 mS.nd (bg (bf (aJ (a:=c1) .C ae rfl) ae AR) (bx rfl B.len .E) .b) ?_;generalize (c1.fdiv 3).fmod (c.length:Int)=t at *;show ao 4 mS.nd (tj (NM .E (aa 5) O.1) (UE .E (aa 5) O.1) (by rw[aeO,ϑ];lia)) ?_
  let J:(c.drop ↥t++c.take ↥t).Perm c:=by
   let:=agY (l₁:=c.drop ↥t) (l₂:=c.take ↥t);rwa[afF] at this
  let e:nX (c.drop ↥t++c.take ↥t) one:=al.perm J.symm λx y=>bL (R x y);let N:∀x∈c.drop ↥t++c.take ↥t,x∈cD 6:=λx y=>R x (J.mem_iff.mp y);let l2:(c.drop ↥t++c.take ↥t).length=one.length:=e.len;generalize c.drop ↥t++c.take ↥t=other at *;let D:nX one other:=#[e.len.symm,e.sg.symm,e.nu.symm,λp hp=>(e.sy p hp).symm];let pl:=K2 (a:=one) (b:=other) .b .b .b .b l N;let W:=(vA l N).mpr D;show aQ (TW.t (iS (Rg (d:=Qt (KA one other)) (lj (a':=Dt.mk (Qt (KA one other))) (av X (g.mono .a) rfl .D .E pl.1) rfl) λ_ _ _ _ h=>D3 h) λ_=>(gT (fW (eH (av I (g.mono .a) rfl .D .E pl)))))) (λk=>?_) (λ_=>?_)
  .rw[W] at k;cases k
  let f4:=eM (a:=c1.fdiv 9) (b:=4) .a
  let f5:0<=((c1.fdiv 9).fmod 4).fdiv 3/\((c1.fdiv 9).fmod 4).fdiv 3<=1:=by
   rw[aea _ .a];lia
  show ao 6 mS.nd (av α (g.mono .a) rfl (aJ (a:=c2) .C ae rfl) (bG (bx rfl B.len .D) (bf (bg (bf (aJ (a:=c1) .C ae rfl) ae AR) ae .a) ae AR)) #[.b,.b]) ?_;let⟨L,F⟩:=zf c2 ↥((one.length:Int)+((c1.fdiv 9).fmod 4).fdiv 3);let L:(kK c2 ((one.length:Int)+((c1.fdiv 9).fmod 4).fdiv 3)).length=↥((one.length:Int)+((c1.fdiv 9).fmod 4).fdiv 3):=L;let F:∀x∈kK c2 ((one.length:Int)+((c1.fdiv 9).fmod 4).fdiv 3),x∈cD 6:=F;generalize kK c2 ((one.length:Int)+((c1.fdiv 9).fmod 4).fdiv 3)=Z at *;show aQ (TW.t (iX (aD gO (bx rfl B.len (aa 6)) ae) λk=>(jq (fW (eH (av I (g.mono .a) rfl .D (aa 6) (K2 .b .b .b (by let:=ad0 k;lia) l F))))))) (λk=>?_) (λ_=>?_)
  .rw[show(!VQ one Z)=Â from rfl,aic] at k;cases k
  show aN #[_,_,_,_,_,_,rfl]
 .rintro U' ⟨G,z,n,q,o,r,rfl⟩;show ay xI rfl
end
open PySem PySem.Spec PyProof.Rows
open Q (Fr)
open Q (Fr)
open Q (Fr)
open Q (Fr)
open Q (Fr)
def fin{l:Ó}{w:Ü}{K:Ä}{h:á}{mg:Í->Option Å}{fa:Ç}(X:K.In h)(G:h.Ns Ì mg)(hfa:mg "law"=À (.ref fa))(B:Bu mg)
  (Yy:xw mg "GREAT_PRIMES_FROM" 32768) (Yk:xw mg "GREAT_FROM" 1073741824) (Zp:xw mg "LONGEST" 8) (z:AN K mg "SMALL_PLACES" [0,2,3,5,7,11,13]) (Y5:AN K mg "AT_NOUGHT" [1,-1]) (ZF:AN K mg "AT_TWO" [1,3,5,7,2,6,10,14]) (Zw:xw mg "LONGEST_LED" 3) (abk:Df K "is_whole" oQ) (abl:Df K "power_by" oY) (aa9:Df K "taken_out" mE) (aaR:Df K "square_root" jK) (ZV:Df K "square_root_or_none" dA) (aan:Df K "common_divisor" fY) (abm:Df K "fraction" iZ) (aaK:Df K "next_divisor" iY) (abn:Df K "is_prime" pg) (aby:Df K "divided" sP) (abP:Df K "parts" zc) (α:Df K "tame_parts" k7) (abQ:Df K "power" zg) (abR:Df K "freed" zI) (abz:Df K "free_of" tw) (aa_:Df K "square_by" mX) (abA:Df K "back_by" tf) (aag:Df K "least_no_square" fN) (aba:Df K "squarings" md) (Γ:Df K "root_of_square" f7) (aaw:Df K "root_by_prime" hV) (aa1:Df K "with_rests" kT) (abB:Df K "root_by" rM) (r:Df K "class_at" kM) (abo:Df K "two_says" pd) (abp:Df K "odd_says" oI) (abU:Df K "says" Dd) (abb:Df K "primes_of" l9) (aay:Df K "is_row_number" gX) (L:Df K "is_row" pP) (aaz:Df K "refuse_no_row" gY) (abq:Df K "signs_of" kL) (abS:Df K "is_no" uX) (abC:Df K "noes_of" nZ) (aaL:Df K "is_square_at" i_) (aah:Df K "three_have_zero" fO) (aap:Df K "four_have_zero" gm) (D:Df K "have_zero" l4) (aai:Df K "without_divisor" dF) (aa2:Df K "next_prime" lE) (ZW:Df K "first_prime_without" dy) (H:Df K "first_barring" eQ) (aaB:Df K "first_without" g9) (Z:Df K "freed_product" gW) (E:Df K "from_lesser" jV) (aaD:Df K "least_root_by" g8) (aaE:Df K "square_of_two" eR) (aaF:Df K "zero_of_three" g7) (aaf:Df K "class_of_product" eW) (Z7:Df K "small_free_numbers" cU) (aa3:Df K "classes_of" iE) (aaq:Df K "wishes_without" eh) (abd:Df K "are_among" m9) (aaM:Df K "number_among" fP) (aa4:Df K "samples_at" k8) (aar:Df K "shared_classes" eB) (abD:Df K "meeting" nV) (N:Df K "is_small" o9) (V:Df K "first_place" gD) (abT:Df K "times" y9) (abV:Df K "plus" CY) (aas:Df K "values_by_zero" cY) (aa5:Df K "plain_list" iC) (Z9:Df K "plain_table" dw) (S:Df K "column" pH) (aaU:Df K "turned_over" gE) (aaG:Df K "common_bottom" hW) (aaj:Df K "over_one_bottom" dD) (P:Df K "sum_of_products" dI) (abe:Df K "sums_with" jD) (abE:Df K "product" kC) (abN:Df K "joined" wW) (aaN:Df K "free_product" iT) (I:Df K "made_of_two" jM) (abF:Df K "is_free" rD) (aat:Df K "numbers_behind" f_) (abt:Df K "row_with" oZ) (abf:Df K "change_to" nv) (aaW:Df K "all_stepped" jW) (aa6:Df K "row_behind" lh) (Z8:Df K "first_in_one_alone" d7) (abG:Df K "parting" sG) (aaH:Df K "values_of_two" gZ) (Z_:Df K "is_small_and_free" eI) (ZS:Df K "refuse_great_or_long" b_) (abH:Df K "step_to" sW) (aau:Df K "steps_of_three" gf) (abu:Df K "steps_to" oO) (abI:Df K "leading" sQ) (J:Df K "_law_cell_at" jJ) (abJ:Df K "_law_big" sI) (aa7:Df K "_law_common" kG) (abv:Df K "_law_root" oG) (abw:Df K "_law_free" o5) (aav:Df K "_law_free_times" gh) (abg:Df K "_law_small" nj) (aaO:Df K "_law_free_row" jg) (aaP:Df K "_law_fraction" dR) (abK:Df K "_law_sum" tF) (abh:Df K "_law_times" mx) (aaY:Df K "_law_stepped" jY) (aaQ:Df K "_law_is_small" iP) (abi:Df K "_law_other" mG) (abj:Df K "_law_walks" jo) (aa8:Df K "_law_is_led" iu) (abx:Df K "_law_held" oP) (abW:Df K "law" Er):
  ∃fd:ð,(∀(s:Æ) (u:Å),Ŋ s fd #[[u],[]] [("_law_script",u)])/\∀base:á,K.In base->base.Ns Ì mg->fH l w K mg base qZ 134 fa fd ["_law_script"] (B2 K):=by
 show Nk abW X G hfa (λ_ _ _ _ _ _ s u=>.of_eq rfl) λbase _ _ f fd F=>?_;let Z0:aca l w K mg base:=abk.c1 X G λf fd F=>nH F AY rfl λa _=>Ed B a;let YH:ab5 l w K mg base:=abl.c3 X G λf fd F=>Mv F da rfl λa b c hp=>CL a b c hp.1 hp.2.1 hp.2.2;let x:ab0 l w K mg base:=aa9.c2 X G λf fd F=>jm F fG rfl λa b hp=>Bv a b hp.1 hp.2.1 hp.2.2;let Ys:abX l w K mg base:=aaR.c1 X G λf fd F=>nH F iU rfl λa hp=>xQ a hp.1 hp.2;let Yi:ab2 l w K mg base:=ZV.c1 X G λf fd F=>nH F fC rfl λa hp=>lY Ys a hp;let C:abY l w K mg base:=aan.c2 X G λf fd F=>jm F dJ rfl λa c _=>rE B a c;let o:ab3 l w K mg base:=abm.c2 X G λf fd F=>jm F mW rfl λa c hp=>DJ C a c hp.1 hp.2;let Yz:abZ l w K mg base:=aaK.c3 X G λf fd F=>Mv F lJ rfl λa b c hp=>vn B Ys a b c hp;let Z4:aG l w K mg base 3 "is_prime" ["k"] (cj K (λk=>k<2^62) Á aT):=abn.c1 X G λf fd F=>nH F BY rfl λa hp=>Dl Yz a hp;let Zd:ab1 l w K mg base:=aby.c2 X G λf fd F=>jm F dW rfl λa c hp=>GL x Yz a c hp;let ZA:ab8 l w K mg base:=abP.c1 X G λf fd F=>nH F we rfl λa hp=>N9 Zd a hp;let ZC:aG l w K mg base 4 "tame_parts" ["k"] (cj K (λk=>1<=k/\Sm 900 k) Á SU):=α.c1 X G λf fd F=>nH F jX rfl λa hp=>y4 Yy Yk Zd Yi a hp;let aaI:aG l w K mg base 1 "power" ["base","exponent"] (bw K WV Á VS):=abQ.c2 X G λf fd F=>jm F qL rfl λa c hp=>MB B a c hp;let YF:ab4 l w K mg base:=abR.c1 X G λf fd F=>nH F je rfl λa hp=>MF B aaI o ZC a hp;let Ze:aG l w K mg base 6 "free_of" ["k"] (cj K UT Á eG):=abz.c1 X G λf fd F=>nH F D2 rfl λa hp=>G6 YF a hp;let t:ab6 l w K mg base:=aa_.c2 X G λf fd F=>jm F qX rfl λa b hp=>BM YH a b hp.1 hp.2;let aaa:aG l w K mg base 1 "back_by" ["k","m"] (bw K XN Á yu):=abA.c2 X G λf fd F=>jm F bX rfl λa c hp=>Ho a c hp.1 hp.2.1 hp.2.2;let Yv:ab7 l w K mg base:=aag.c1 X G λf fd F=>nH F e9 rfl λa hp=>qD t a hp.1 hp.2;let ZL:aG l w K mg base 1 "squarings" ["k","p"] (bw K Wr Á lB):=aba.c2 X G λf fd F=>jm F iF rfl λa c hp=>BU a c hp;let Y7:aG l w K mg base 4 "root_of_square" ["k","p"] (bw K Wy Á Mn):=Γ.c2 X G λf fd F=>jm F aP rfl λa c hp=>sH B x YH Yv ZL a c hp;let Zg:aG l w K mg base 5 "root_by_prime" ["k","p"] (bw K Xi Á AK):=aaw.c2 X G λf fd F=>jm F kd rfl λa c hp=>uC t Y7 a c hp;let ZD:aG l w K mg base 2 "with_rests" ["one","m","other","p"] (EL K Xs Á Cz):=aa1.c4 X G λf fd F=>U9 F xH rfl λa b c d hp=>Ab aaa a b c d hp;let aab:aG l w K mg base 6 "root_by" ["k","m"] (bw K (λ_ m=>1<=m/\m<2^60) Á LB):=abB.c2 X G λf fd F=>jm F e8 rfl λa c hp=>G3 ZA Zg ZD a c hp.1 hp.2;let Yq:ab9 l w K mg base:=r.c2 X G λf fd F=>jm F ff rfl λa b hp=>D_ x t a b hp.1 hp.2.1 hp.2.2;let ZT:aco l w K mg base:=r.c2 X G λf fd F=>jm F ff rfl λa b hp=>BN x t a b hp.1 hp.2;let ZY:aG l w K mg base 1 "two_says" ["one","other"] (bw K (λ_ _=>True) Á iH):=abo.c2 X G λf fd F=>jm F gL rfl λa b _=>Ea a b;let ZZ:ab_ l w K mg base:=abp.c3 X G λf fd F=>Mv F gQ rfl λa b c hp=>Dx t a b c hp;let ZU:acf l w K mg base:=abU.c3 X G λf fd F=>Mv F zy rfl λa b c hp=>QV Yq ZY ZZ a b c hp.1 hp.2.1 hp.2.2;let YB:acg l w K mg base:=abb.c1 X G λf fd F=>nH F iz rfl λns hp=>AU B ZA ns hp;let Yo:acb l w K mg base:=aay.c1 X G λf fd F=>nH F rV rfl λa _=>uu B Yk Z0 a;let aal:acd l w K mg base:=L.c1 X G λf fd F=>nH F GU rfl λa hp=>Lz B Zp Yo a hp;let q:ace l w K mg base:=aaz.c1 X G λf fd F=>WX F rF rfl λa hp=>uo aal a hp;let Zx:acG l w K mg base:=abq.c1 X G λf fd F=>nH F Co rfl λa hp=>Dk B q a hp;let σ:ach l w K mg base:=abS.c2 X G λf fd F=>jm F pX rfl λa c hp=>Np B ZU a c hp.1 hp.2.1 hp.2.2;let ZJ:aG l w K mg base 6 "noes_of" ["row"] (cj K VU Á LQ):=abC.c1 X G λf fd F=>nH F CG rfl λa hp=>G7 YB q σ a hp;let YE:aci l w K mg base:=aaL.c2 X G λf fd F=>jm F uf rfl λa b hp=>vw Yq a b hp;let Yw:acj l w K mg base:=aah.c4 X G λf fd F=>U9 F o8 rfl λa b c d hp=>p9 ZU a b c d hp;let Y8:aG l w K mg base 6 "four_have_zero" ["numbers","p"] (bw K WE Á dM):=aap.c2 X G λf fd F=>jm F jw rfl λa b hp=>sJ YE Yw a b hp;let Yr:acm l w K mg base:=D.c2 X G λf fd F=>jm F zo rfl λa b hp=>Be B YE Yw Y8 a b hp;let Yx:acn l w K mg base:=aai.c1 X G λf fd F=>nH F dk rfl λa hp=>qh C a hp;let YL:ack l w K mg base:=aa2.c1 X G λf fd F=>nH F jG rfl λa hp=>As Z4 a hp.1 hp.2;let YM:aG l w K mg base 8 "first_prime_without" ["row"] (cj K Wt Á xV):=ZW.c1 X G λf fd F=>nH F dj rfl λa hp=>lV Yi YL Yr a hp;let Zh:aG l w K mg base 9 "first_barring" ["numbers"] (cj K RJ Á xV):=H.c1 X G λf fd F=>nH F j4 rfl λa hp=>ug B YB Yr YM a hp;let YU:aG l w K mg base 10 "first_without" ["row"] (cj K RJ Á xV):=aaB.c1 X G λf fd F=>nH F sE rfl λa hp=>uD q Zh a hp;let YV:aG l w K mg base 6 "freed_product" ["a","b"] (bw K K0 Á Tz):=Z.c2 X G λf fd F=>jm F ki rfl λa c hp=>uq B Yk YF a c hp;let YG:aG l w K mg base 3 "from_lesser" ["a","lesser","root","zero"] (EL K V9 Á VJ):=E.c4 X G λf fd F=>U9 F jd rfl λa b c d hp=>xT Yx a b c d hp;let YD:aG l w K mg base 7 "least_root_by" ["k","m"] (bw K Wb Á JK):=aaD.c2 X G λf fd F=>jm F ky rfl λa c hp=>uA aab a c hp;let Zi:aG l w K mg base 126 "square_of_two" ["a","b"] (kU K (λa b=>Mm a b/\wz a b<118/\wz a b<118) Á SY):=tK B YF YG YD aaE X G 118;let Zk:aG l w K mg base 127 "zero_of_three" ["row"] (Hk K Tw Á Z3):=aaF.c1 X G λf fd F=>Vv F bO rfl λa hp=>uz q Yx YU YV Zi a hp;let YW:aG l w K mg base 1 "class_of_product" ["one","other","p"] (tZ K WS Á ui):=aaf.c3 X G λf fd F=>Mv F hX rfl λa c d hp=>oU a c d hp;let YR:acp l w K mg base:=Z7.c0 X G λf fd F=>WW F cz rfl (m_ B z);let ZE:acq l w K mg base:=aa3.c2 X G λf fd F=>jm F xJ rfl λa c hp=>Au ZT a c hp.1 hp.2;let Y9:acr l w K mg base:=aaq.c3 X G λf fd F=>Mv F dH rfl λa c d hp=>sS B ZT YW a c d hp.1 hp.2.1 hp.2.2;let ZM:acs l w K mg base:=abd.c2 X G λf fd F=>jm F pD rfl λa c _=>Bf B a c;let Zm:aG l w K mg base 5 "number_among" ["places","wishes"] (kU K (fun(ps:.L) (y:List rA)=>ps=P7/\MQ y/\∀j,j<7->y.getD j []≠[]) Á (λ_ y (n:Int)=>Tu y n)):=aaM.c2 X G λf fd F=>BZ F bZ rfl λa c hp=>vX B z YL YR ZE Y9 ZM a c hp.1 hp.2.1 hp.2.2;let ZG:aG l w K mg base 4 "samples_at" ["p"] (cj K (fun(p:Int)=>p∈P7) Á Q.km):=aa4.c1 X G λf fd F=>nH F ou rfl λa hp=>zk B Y5 ZF Yv a hp;let Y_:aG l w K mg base 8 "shared_classes" ["one","other","p"] (tZ K W7 Á Ig):=aar.c3 X G λf fd F=>Mv F rn rfl λa c d hp=>si ZT ZG Yr a c d hp;let R:acK l w K mg base:=abD.c2 X G λf fd F=>BZ F w_ rfl λa c hp=>HF B z YB Y_ Zm a c hp;let Z5:aG l w K mg base 3 "is_small" ["k"] (cj K (fun(_:Int)=>True) Á AZ):=N.c1 X G λf fd F=>nH F jv rfl λa _=>DV B z Yo x Yi a;let Zq:acu l w K mg base:=V.c1 X G λf fd F=>Vv F wC rfl λa hp=>x8 B a hp.1 hp.2;let YY:aG l w K mg base 3 "times" ["u","v"] (bw K uT Á aE):=abT.c2 X G λf fd F=>jm F K5 rfl λu v hp=>M5 o u v hp;let aaZ:aG l w K mg base 3 "plus" ["u","v"] (bw K uT Á cV):=abV.c2 X G λf fd F=>jm F NU rfl λu v hp=>R4 o u v hp;let Zb:acI l w K mg base:=aas.c3 X G λf fd F=>Vh F dG rfl λa c d hp=>se o Zq YY aaZ a c d hp;let YN:acv l w K mg base:=aa5.c2 X G λf fd F=>jm F xS rfl λn i hp=>An B n i hp.1 hp.2;let Zs:aG l w K mg base 2 "plain_table" ["n"] (cj K (λn=>(0:Int)<=n/\n<=8) Á Of):=Z9.c1 X G λf fd F=>nH F mY rfl λn hp=>xO B YN n hp.1 hp.2;let aam:acw l w K mg base:=S.c2 X G λf fd F=>jm F He rfl λT j hp=>Lq T j hp.1 hp.2.1 hp.2.2;let Zr:aG l w K mg base 2 "turned_over" ["T"] (cj K (fun(T:Tb)=>∃n,AQ n T) Á n_):=aaU.c1 X G λf fd F=>nH F vE rfl λT hp=>hp.elim λn h=>xU B aam n T h;let Zj:aG l w K mg base 2 "common_bottom" ["numbers"] (cj K xG Á fS):=aaG.c1 X G λf fd F=>nH F eE rfl λus h=>uB C us h;let YK:aG l w K mg base 3 "over_one_bottom" ["numbers"] (cj K xG Á Fw):=aaj.c1 X G λf fd F=>nH F jb rfl λus h=>qy Zj us h;let Y4:acx l w K mg base:=P.c2 X G λf fd F=>jm F iO rfl λa b h=>qY B o a b h.1 h.2;let ZN:acy l w K mg base:=abe.c2 X G λf fd F=>jm F zK rfl λa b h=>Ca Y4 a b h.1 h.2.1 h.2.2;let aac:acC l w K mg base:=abE.c2 X G λf fd F=>jm F vH rfl λA B h=>h.elim λn h=>G0 Zr YK ZN n A B h.1 h.2;let Za:acz l w K mg base:=abN.c2 X G λf fd F=>jm F yk rfl λa c hp=>Lr C a c hp;let Yt:acA l w K mg base:=aaN.c1 X G λf fd F=>nH F eO rfl λa hp=>wY Za Ze a hp;let Y6:aG l w K mg base 3 "made_of_two" ["a","b","x","y"] (EL K VV Á TC):=I.c4 X G λf fd F=>U9 F mH rfl λa c d e hp=>xW o a c d e hp;let YX:acB l w K mg base:=abF.c1 X G λf fd F=>nH F DH rfl λa _=>Hb Yo Ze a;let YA:acD l w K mg base:=aat.c2 X G λf fd F=>jm F cL rfl λa c hp=>hp.elim λs h=>sA B Yk Za Yt Y6 YX a c s h.1 h.2.1 h.2.2;let YZ:acF l w K mg base:=abt.c3 X G λf fd F=>Mv F tU rfl λa c d hp=>hp.elim λs h=>CH B a c d s h.1 h.2;let Zn:aG l w K mg base 2 "plain_table" ["n"] (cj K (λn=>(0:Int)<=n/\n<=8) Á QB):=Z9.c1 X G λf fd F=>nH F mY rfl λn hp=>wO B YN n hp.1 hp.2;let ZO:acE l w K mg base:=abf.c3 X G λf fd F=>Mv F fw rfl λa c u hp=>hp.elim λs h=>B9 B Ys YY Zn a c u s h.1 h.2;let Zt:aG l w K mg base 10 "all_stepped" ["row","steps"] (bw K Tq Á my):=aaW.c2 X G λf fd F=>jm F cu rfl λa c hp=>xC B q Zs aac YA ZO YZ a c hp;let ZH:aG l w K mg base 9 "row_behind" ["row","steps"] (bw K Tq Á (λrow ss=>(my row ss).1)):=aa6.c2 X G λf fd F=>jm F gC rfl λa c hp=>Ax B YA YZ a c hp;let YS:acH l w K mg base:=Z8.c2 X G λf fd F=>jm F fT rfl λa c hp=>mD B a c hp;let YI:acM l w K mg base:=abG.c2 X G λf fd F=>jm F vY rfl λa c hp=>Hu B q Zx Yt ZJ YS a c hp;let Zl:acJ l w K mg base:=aaH.c3 X G λf fd F=>Vh F rW rfl λa c d hp=>uw Zk Zb a c d hp;let YT:aG l w K mg base 8 "is_small_and_free" ["k"] (cj K (fun(a:Int)=>a∈cD 6) Á Uj):=Z_.c1 X G λf fd F=>nH F ng rfl λa hp=>og Z5 YX a hp;let YC:aG l w K mg base 9 "refuse_great_or_long" ["row","longest"] (bw K Wf Á La):=ZS.c2 X G λf fd F=>WZ F jZ rfl λa c hp=>kI B YT a c hp;let YQ:acL l w K mg base:=abH.OT X G (λ_ _ _ _ _ _ us hl=>match us,hl with|[_,_,_,_,_],_=>rfl) λf fd F=>WN F v8 rfl λa c d g i hp=>Gw Zl a c d g i hp;let Zc:aG l w K mg base 130 "steps_of_three" ["one","other"] (kU K Wx Á Pm):=aau.c2 X G λf fd F=>BZ F dE rfl λa c hp=>rX R YQ ZH a c hp;let Z6:aG l w K mg base 131 "steps_to" ["one","other"] (kU K LG Á Pm):=abu.c2 X G λf fd F=>BZ F Cr rfl λa c hp=>CW B YQ Zc a c hp;let ZK:aG l w K mg base 132 "leading" ["one","other"] (kU K Mk Á V6):=abI.c2 X G λf fd F=>BZ F oJ rfl λa c hp=>HA B Zw YI YC Z6 Zt a c hp;let Zv:acW l w K mg base:=J.c2 X G λf fd F=>jm F vz rfl λa c hp=>xB B a c hp;let O:acX l w K mg base:=abJ.c2 X G λf fd F=>jm F gu rfl λa c hp=>HI B a c hp.1 hp.2;let YO:acO l w K mg base:=aa7.c2 X G λf fd F=>jm F gB rfl λa c _=>Af B a c;let Zy:acN l w K mg base:=abv.c1 X G λf fd F=>nH F ny rfl λa hp=>Du a hp.1 hp.2;let YJ:acQ l w K mg base:=abw.c1 X G λf fd F=>nH F cc rfl λa hp=>DX B Zy a hp.1 hp.2;let Yp:acR l w K mg base:=aav.c2 X G λf fd F=>jm F jx rfl λa c hp=>sF YO a c hp;let ZP:aG l w K mg base 1 "_law_small" ["_law_cell"] (cj K (fun(_:Int)=>True) Á Tp):=abg.c1 X G λf fd F=>nH F d9 rfl λa _=>Bk B a;let Y3:acY l w K mg base:=aaO.c2 X G λf fd F=>jm F eV rfl λa c hp=>v_ B ZP a c hp.1 hp.2;let ZX:acP l w K mg base:=aaP.c2 X G λf fd F=>jm F gU rfl λa c hp=>wt YO a c hp.1 hp.2;let Zf:aG l w K mg base 3 "_law_sum" ["_law_u","_law_v"] (bw K uT Á cV):=abK.c2 X G λf fd F=>jm F Ds rfl λu v hp=>GA ZX u v hp;let Yu:aG l w K mg base 3 "_law_times" ["_law_u","_law_v"] (bw K uT Á aE):=abh.c2 X G λf fd F=>jm F Ad rfl λu v hp=>A8 ZX u v hp;let Zu:acT l w K mg base:=aaY.c2 X G λf fd F=>jm F c_ rfl λa c hp=>hp.elim λs h=>xY B Zf Yu YJ Yp a c s h.1 h.2.1 h.2.2;let Zo:acS l w K mg base:=aaQ.c1 X G λf fd F=>nH F eN rfl λa hp=>vP B a hp;let ZR:acZ l w K mg base:=abi.c2 X G λf fd F=>BZ F bR rfl λa c hp=>AX B YJ Yp Zo a c hp;let ZQ:acU l w K mg base:=abj.c4 X G λf fd F=>U9 F iq rfl λa c d g hp=>BE B Zu a c d g hp;let ZI:acV l w K mg base:=aa8.c3 X G λf fd F=>Mv F cX rfl λa c d hp=>zB B Zf Yu a c d hp;let Zz:ac0 l w K mg base:=abx.c2 X G λf fd F=>jm F jA rfl λa c hp=>D9 B ZK YI ZQ ZI a c hp;show nH F mS rfl λa hp=>UM B YI Zv O Y3 ZR Zz a hp
end L2.EP.K
open Lean in
local macro_rules|`(#print $s:str)=>do
  let r:=s.getString.toList.toArray
  let f←(Array.range (r.size/10)).mapM fun i=>do
    let n:=mkIdent (.str `PySem.W.Fast s!"tw{(r.extract (10*i) (10*i+10)).foldl (fun n c=>n*89+"#$%&'()*+,.0123456789:;<=>?@ABCDEFGHIJKLMNOPQRSTUVWXYZ[]^_`abcdefghijklmnopqrstuvwxyz{|}~".toList.idxOf c) 0}")
    `(theorem $n:ident:True:=.intro)
  return mkNullNode f
#print "U18^Cd~e`7&IkjoZ%I|8V3bU3Yb}~HAf]f4Hz+2RF}l2h8b>M,&g#$R~%qV[(2ptF0~.$E.ce'ZY`:wLT?exnbWayhYIf56fCNbVTC:XusvG5GGup%YeQJq8)7W:K0p|`&C#mos(1&`,28|`X;e;_*JOdh~*5jgPKh59E2*JSbIq$K}Co[#QUL+$,0IR+3@<p,r7P>U@&`OO174^h&J2j@wuOPJu7vA@)9fLI+)Tg9ymfRnaVmI'1.8ga:#{~_0y$2`F;K>T26X~br<<a6(Y&d'T>dM{S]2%|x?<2Cg$w?a*Xi$d^e6=K.#b6ZMROLBC1<?zPYy3+oNwgYJ:>wyu(Aj2F3yEj0VJ6',lj[zA;A;dl^_|'IWRWKdT~*Ke@2k}r:E4I2.m75.U><1[C.uZs<5F&i8Yg9ukm(Px6<N+jjLs:)VVQb#7O4q$)i]f62u},dX`dA7ok<Rc(Cp]25YM95VWsSVvdI<MWHa~NxmH~1MYz9Zcl]%X>Y#Tq`f@A>)<.77CmH64QZu8Wh.|<t#Sy[s;(:fBO1aZnlxg6u+|WRvL=(|o%9k4$:p~JtG0fEJzq1q80n=mOZ5F5~&7Kg)F]A$.5VJxpX:r}C=MIE@JRLu;KrwEhR}MNy;%|9;sUrJ$$()qgIaGxwCN|WmE>x|I&gJ~{Lm%ehJoZl_}OZtAE%MQ.B:)1WW6}wJgNCbfXS(^Hv9WM}@~3~p7(Tz82s;UhjB?_{,NufXvXXV75Zt}AfL}(N:..a3^B)LUIknH?<n}tG;[~OW2<:WZWe2pT~q$VFOp.?6.y2dO.`)C&UdW0+Pv6:{'pX%C%V6LcDv%x=Qw=Bq?4Hj_(,4|u=}PLk*Q>GR_UI{xUL^2Cw>W_6;+pMIe%Ln@L=.[s'c89SU4<bqF|pT_'lL.~ehj@&O(l1t`T'wL.:m,d@jI>{Oe(A7X[F3C>'Q2.2+,8c>:gp8k<qFhG*ts|^kD@2+i#r)I)iO=+oGFwA.i4HMrxCjdsH^sAeNF+cv=Kv?3:Dpa+ZFt3(dfD8@l5Z.yVPh+I_9%Q82Uz1D_cuPlQ.T,}2)EB@pBbgFrmU%<I%R&]A3j+uI#b[5lU&=59~^T+J[{Qsw4m~FDVS#K#&k2|L=z=}fG^Ot?gaW=,'xCULjR+5(SKS`|zL7D9L$^2NZa%'wR~cXi:~+*#8TTm`$ZJbBU]gt2l`Q%*94NV90dNAsJ>Z``G=4F@?M4$YL,*q$n&.&`s{J#FjW>~]F}*l^%yBr[oNM$&0g+H*#'LW%dtgb=eFWe#Ws~#1OeO&uiSc5pK)TVr7q[$}`:9h*a~[)Wy.#+rgTeSogyJr6W_kq`+;50ySo}@eaI6{y|MN%a1,2`s2pRe']rN8vdN&(p,w4#uMP@_%J(<<h=d;eP*+R>|d'7UElmUfL**@UN3o:~a7Qm)IM;JiYA=k_@U~RB$?{7`&Qg'Ple[tn$JY;=YT'{V2>u9P,|^PD8#,LA:~kih9WEWEbX{XS5Z(9~>9=3kSxT&B|z7V^.5g:ADKrhL8(c@xPLwIHuwSOX=WitYQtAIkNKdp*2G2IN1Nu*d~,%@,u{CBc:C+8FV:k.uwv>=mt[)C8lP.CY,[nf&S1s(W+_D$dN:6%A]>AzY5$oId1GL<:i:{M_^8'fK7(&R,rdHa:_GKQ3NDOjYG2P3yg+=c&L6*>IQIZUd<IpC]&Z)2uOiR8FQ2df<5^373o~dUg)GtVK,k.6j~nRS3[2DaI?Fd$,wYIeP>o'HNKlc%2*hPAzsDP~8,iZ:K;~HBGb')2bEi$zeoL*B$6G|[+xnI++CRKp|(4,K}izyu(SP$X#3~(r,o1lT[WPn|)Qp16rh~;v[K,+*]$Tmb<|+@3)CW|JkZ6{H~hIn7ceWMBPZ?@#.tADEBne_A3avG*}_}GM6#s`>Zdvi5ji>t$H$Hn(m+1oOy~L1uKNN''v6SfJEdXMJ#~7ai5gW7XoC+_OVh)CLrP'mu.XgG8Vh1wjqOJN.Gj't#MBfY3uCK8r^0w9+5qs@h`46zJ01{z#KfS>'Hu2i'GrZ`':c#@,(Y97I;vP`.T&,3)YN<:sO9_oQ(;+NHYoQJE9;WKQTbyZ47`=JBFRx^?7bqNqy*?Y:WlD,?9wCbC?WRpYR=WTO_HS<Z.p&}SZWCIAb>*>Vt^Vi<,L(4WGw`O[o@SyR]o#tedA0bB9Kp5CGe)F=`ts%v{=rY>y.'M@:^2I,I~G{gc2UN9ryfX>3tp]5M@i575i1?8=Q}H1}c?X13eID+wl3OV5XC&eMnZ[C*ab[.'%WbFK#k#*$?%G6``K5P2Qb2IlMNKwC`m0*_CzIFDM]g3*@ZIiDzr6UpNbac<:2>Q%I;7k)9@?FzCWcoL.V)%5]yUoaMGgMV9fi~Jz|u7.VPrS{t`,E.OeB>pG6+#'_sGETWEmLn:RiwMW?GCkdYU4f2M%2LD)s5uu,n4g]NZm3gtX<dUB$NPin>.[e+&l]^9%5wr*}6(*IrERWX_@{]lK7KDsM=8Fu;=a,k<pzdK^<@xkYK^mpj4(olC_U+M}KfH7Eohz*'R8#wGYk4urD2jn%*a_&E<Bn|+wc_U6@%5)%@Y__{+on.S^tXzn@Lb{x<s,obDI0U%ePW1B:~~#i3,r'*,^[yff3xj&0e,]Ytj(4cPvKLY>P|<%5$oW{uvqOj7VoB..@|idK1g[{:9{|*:U~JbS#B+45d=Qvv_X'?7whGWF,KR{?O~Q[ees?wWh_gYi_tatM<odsV9SiSN&CZ.01k{dJu%8t>zx{y7+f>]C%}]L9q,<1wd*R1<D>XFCT&X{Sbi[SQ)}s|86h8Xona8NDm_3r[%FH)=7O{V+RL7&53SR=`Ot}wEUY=G}`FJ26jUW9m>X{1L@Y#kX$q)b.7As3Yhtgp>rqr>*)h|`+()},8VPk^&udvkQX8O)&rE=I{[}[VAY[|QL_m]>RSIgL0AA#Y%n8o.ZlZn{*6=(&<hV[hT^=9F8&|*w)tR5#,86InSnVn0m2M&tJC9#'[jStHAT(XyNt}qDMV(QekgoCTPAsb&MV_xcJ:r#nW5[<U7yH3Z(bec&R6*olq9bF'V]j*%J4v<1Lk^(F`a?8j'kVOqS:i0]UE(E}Kqu5GH|Orkg&&zxM=Piz1Y[*U68[pd^p+zVCVYR8ZJ.H>#s0Q%PnT&Q&UkUrRT@<(6I^Up*`}W1R=G&=Qi$IiF0Gz`~[(jt5hOl,]w,@0Prq>hmlSTJGp@A03|o6k32]Y=Yf;l|3A3B&u3[+LN]O)E5Wqo^JHP(qWN?]k<RJ0<'F^n}C+dN?t;8NjOjV8%AFyl[&88UM~iYpJ<BBdD8XW.{(&UWLh&@V{.g.<j$=S%@Wix.:(v6zPG+zb=:ni]6;GLKi^ZY#hWd#UkUk#@3GS?LfYZ7,r#2XI@$1ogL6$@7:m3}?Q739yaAk#USEe%3AawMrHPI0JZ?pQ@?L&:H6*48N8*)qjeD;S)yWQtF7O81ry'y{6VzqMQ~'C=DVq&jOhE(7iGAH$A#EK,FFMkM>pUuX'(7<=?h:gtH09d$R*.YMX)PmK%c19;sgQz+3c+Csu+'g~lQE43&=>xn;sON$[eTdsxcK2{Z+hlPFcWDH0,<z(IoX(SYyHJh:?Tyt;&JR{`R:22?*E.5*@U4rx=Fw}OAS:~)$R^(5J,WwU3:C3nBBX%n`a2{;h8$uTp2GZ)Q%<,7R6PWjLTd9<6AUD]97E(17)07L}HXY3JrO8L(Bp4~p%)OUb(foaCsgP(:R=$N$:Kvkk=+p%ga=o=nI^bVMaHUO~#?f3gLsH|qBHJ.<=kLR|J~Br4[vn;qAyU)C4na79*`:0w*<NC^OFHh&8``i2P[4+ilVrZq$q]K=}VnJmBJxJA{Z7k+2]Z%U*7He`1iYw*$6b1n2XzFS{+59T+Z~'R@;?8o2eI&t%K%s`A'`~ELAFBZW^Xvm`P4C{7.Cd.Tg&^p1i(N;Z_lvX3$Buib%vpU*bHj37$Q4z(yE^lS_[OwJ|x_.fHOkPLc{M>9bD6V$Riz+@hpvqR6WOIOU@bU.#4u;Ia>]@W<$W0hhn7CMG,|YR9N%+OO=jIyy}BXAnmv`qKV3,?^*}9=qY^&YVERu_$60zEV$?71o$r*KpuY1_R$_c$N6UbU0APTY7G=dRg?:{G`?WXspyfq$H%}E@BM?*>ooT)a(+C`,uku3Jw$g5O{&ML%ZK5z6f;wy<U*Ms6O~'s_D>0{'vl}F]:#Gr.mMKnO#pYn.2`<joFb*m=ay0b&(@xjRik=#t@&zm#q_6Mt6NN&0~e4o]+Qj$@D<A8|l'M3U>N4tNwxsl.+pTESv=R558u+@YI?Y=B8|Obls2>o<ls)@w_9{}ADRJDe(S5?2L,kT8&NVT?lPYp]lT(<Pym3teZM0`>j]{r*.#Ur*a>{+i7FZQ?$Brp._S:Z7c%ER?1acuGn1^Y@cNTw0@>+#Vs<3FBl6)NHK;#eH;NBY,Apx+YEpyAY3yz9,&#k}GXZO`$g]s4)Myvn%p1D>]Y8SlW.[gu*Spz]((O<D8*{TF%d@p#bQ}Z)Lrb[Wwi(vUJrycb(JU~*W&cfc;O)Fl(Zq~7|fXy2TNYVetLkv>"
end
open PySem PySem.W PyProof.Rows
set_option maxRecDepth 100000 in
set_option maxHeartbeats 0 in
theorem PySem.Challenge.cw_everyplace_k58_leading_holds : PySem.Challenge.rw_everyplace_k58_leading.Holds := by
 w_on; o_law; k_head; (case hw => w_witness2)
 k_fill
 refine L2.Ka (l := PySem.Challenge.rw_everyplace_k58_leading) (n := 63) (k := 134) (x := "_law_script") (CX := L2.qZ) (sp := L2.EP.B2) rfl (by decide) rfl ⟨rfl, by decide, by decide⟩ (fun w h Y => PySem.W.kIn_of Y) ?F ?S ?C
 case F =>
  intro w mg fa h KX G hmg
  have B : L2.EP.Bu mg := by
   refine' L2.EP.Vg (K := L2.u5 KX) KX G ?z1 ?z2 ?z3 ?z4 ?z5 ?z6 ?z7 ?z8 ?z9 ?z10 ?z11 ?z12 ?z13 ?z14 ?z15 ?z16 ?z17 ?z18 ?z19
   all_goals (dsimp only [L2.u5]; k_is)
  have Yy : L2.EP.xw mg "GREAT_PRIMES_FROM" 32768 := by
   refine' L2.EP.xw.mk (K := L2.u5 KX) KX G ?ga0
   (case ga0 => dsimp only [L2.u5]; k_is)
  have Yk : L2.EP.xw mg "GREAT_FROM" 1073741824 := by
   refine' L2.EP.xw.mk (K := L2.u5 KX) KX G ?ga1
   (case ga1 => dsimp only [L2.u5]; k_is)
  have Zp : L2.EP.xw mg "LONGEST" 8 := by
   refine' L2.EP.xw.mk (K := L2.u5 KX) KX G ?ga2
   (case ga2 => dsimp only [L2.u5]; k_is)
  have Ym : L2.EP.AN (L2.u5 KX) mg "SMALL_PLACES" [0, 2, 3, 5, 7, 11, 13] := by
   refine' L2.EP.AN.mk (K := L2.u5 KX) KX G ?ga3 ?gl3 ?gz3 ?gv3
   (case ga3 => dsimp only [L2.u5]; k_is); (case gl3 => dsimp only [L2.u5]; k_is); (case gz3 => decide); (case gv3 => repeat' (first | exact .nil | refine .cons ⟨_, rfl⟩ ?_))
  have Y5 : L2.EP.AN (L2.u5 KX) mg "AT_NOUGHT" [1, -1] := by
   refine' L2.EP.AN.mk (K := L2.u5 KX) KX G ?ga4 ?gl4 ?gz4 ?gv4
   (case ga4 => dsimp only [L2.u5]; k_is); (case gl4 => dsimp only [L2.u5]; k_is); (case gz4 => decide); (case gv4 => repeat' (first | exact .nil | refine .cons ⟨_, rfl⟩ ?_))
  have ZF : L2.EP.AN (L2.u5 KX) mg "AT_TWO" [1, 3, 5, 7, 2, 6, 10, 14] := by
   refine' L2.EP.AN.mk (K := L2.u5 KX) KX G ?ga5 ?gl5 ?gz5 ?gv5
   (case ga5 => dsimp only [L2.u5]; k_is); (case gl5 => dsimp only [L2.u5]; k_is); (case gz5 => decide); (case gv5 => repeat' (first | exact .nil | refine .cons ⟨_, rfl⟩ ?_))
  have Zw : L2.EP.xw mg "LONGEST_LED" 3 := by
   refine' L2.EP.xw.mk (K := L2.u5 KX) KX G ?ga6
   (case ga6 => dsimp only [L2.u5]; k_is)
  refine L2.EP.K.fin (K := L2.u5 KX) KX G hmg B Yy Yk Zp Ym Y5 ZF Zw ?_ ?_ ?_ ?_ ?_ ?_ ?_ ?_ ?_ ?_ ?_ ?_ ?_ ?_ ?_ ?_ ?_ ?_ ?_ ?_ ?_ ?_ ?_ ?_ ?_ ?_ ?_ ?_ ?_ ?_ ?_ ?_ ?_ ?_ ?_ ?_ ?_ ?_ ?_ ?_ ?_ ?_ ?_ ?_ ?_ ?_ ?_ ?_ ?_ ?_ ?_ ?_ ?_ ?_ ?_ ?_ ?_ ?_ ?_ ?_ ?_ ?_ ?_ ?_ ?_ ?_ ?_ ?_ ?_ ?_ ?_ ?_ ?_ ?_ ?_ ?_ ?_ ?_ ?_ ?_ ?_ ?_ ?_ ?_ ?_ ?_ ?_ ?_ ?_ ?_ ?_ ?_ ?_ ?_ ?_ ?_ ?_ ?_ ?_ ?_ ?_ ?_ ?_ ?_ ?_ ?_ ?_
  all_goals (dsimp only [L2.u5]; refine' L2.EP.Df.mk ?a ?l ?c ?k; (case a=>k_is);(case l=>k_is);(case c=>k_is);(case k=>k_is))
 case S => exact fun K H a ns hl hO hS => L2.EP.G4 K H a ns hl hS
 case C => exact fun _ _ _ _ z => z
