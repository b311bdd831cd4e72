import PyProof.Rows.All
import Wide.All
import OpenK.AllK
import Wide.FinOn
import Lean
import PyProof.EqAt
import PyProof.EqKinds
import PyProof.TupleCall
import PyProof.NeData
import PyProof.P3Eq
import KE.KTryMore
import PyProof.ExcArgs
import PyProof.Rows.CountFlat
import PyProof.ExcBaseAll.ValueError
import PyProof.Conv_int_bool
import PyProof.IsiPairs
import PyProof.IsiNone
import PyProof.IsiStr
import PyProof.IsiBool
import PyProof.IsiHeapPairs
import KE.KRevIter
import PyProof.CollectIter
import PyProof.WalksMore
import PyProof.Rows.SortRunsK
import KE.KSortKey
import PyProof.Rows.RuleN_abs
import PyProof.Rows.CallKwBuiltin
import PySem.Challenge.RW_everyplace_k62_rests_alike
open Int renaming mul_ne_zero->ë,mul_le_mul_of_nonneg_left->Ł,le_of_dvd->Ę,mul_one->Đ,mul_pos->Ħ,mul_comm->ī,pow_succ->Ī,dvd_trans->İ,dvd_of_emod_eq_zero->ű,mul_assoc->ĵ,mul_nonpos_of_nonneg_of_nonpos->ϵ,natAbs_mul->ń,emod_lt_of_pos->Ů,pow_zero->ŀ,natAbs_dvd_natAbs->aet,mul_le_mul_of_nonneg_right->aeu,lt_or_gt_of_ne->Ε,emod_nonneg->ŭ,le_refl->Ņ,mul_le_mul->Ű,emod_eq_zero_of_dvd->Ϲ,one_mul->Ś,mul_fdiv_cancel_left->aeL,mul_zero->Ū,pow_pos->Ş,mul_pos_of_neg_of_neg->aeP,mul_neg_of_neg_of_pos->aeQ,mul_nonpos_of_nonpos_of_nonneg->aeT,fdiv_eq_ediv_of_nonneg->aeU,dvd_natAbs->aeV,pow_add->Ź,dvd_neg->ae0,fmod_eq_emod_of_nonneg->ae3,gcd_dvd_right->ϻ,gcd_dvd_left->Ϻ,mul_nonneg->Ϝ,natCast_mul->ϴ,lt_or_le->Ϗ,emod_add_mul_ediv->afl,mul_emod->ϛ,natAbs_mul_self->afu,dvd_refl->ϳ,lt_or_eq_of_le->afy,mul_nonneg_of_nonpos_of_nonpos->afB,emod_two_eq->afE,eq_of_mul_eq_mul_right->afH,eq_of_mul_eq_mul_left->afO,mul_neg_of_pos_of_neg->afP,le_of_lt->afT,mul_eq_zero->afW,mul_sub->af7,mul_add->af8,lt_trichotomy->agj,mul_ediv_cancel'->agl,gcd_comm->agu,dvd_zero->agw,gcd_pos_of_ne_zero_left->agP,emod_emod_of_dvd->agS,dvd_sub->agX,gcd_eq_zero_iff->agY,ediv_nonneg->ag0,mul_dvd_mul->ag3,gcd_zero_right->ag6,emod_eq_of_lt->ahb,dvd_mul_right->ahf,fmod_nonneg_of_pos->ahh,le_total->ahy,zero_mul->ahA,natCast_pow->ahB,dvd_coe_gcd->ahC,natAbs_dvd->ahK,mul_neg->ahN,mul_pow->ahO,fmod_lt_of_pos->ahP,dvd_of_mul_dvd_mul_left->ahQ,fdiv_one->ah7,le_trans->ah8,add_zero->aic,pow_mul->ail,neg_neg->aiq,ediv_lt_of_lt_mul->ais,natAbs_eq->aiE,zero_add->aiG,zero_dvd->aiH,add_comm->aiJ,gcd->È,toNat_natCast->Ó,pow_one->ω,one_dvd->ϊ,dvd_add->ϋ,natCast_nonneg->ϱ
open PySem renaming wpAny_bind->Ü,wpAny_pure->û,wpAny_truthy_bool->ϝ,wpAny_ite_split->ϐ,wpAny_holding->ϒ,wpAny_newObj_type->afh,wpAny_mono->Ρ,wpAny_Call_Name_kw->afw,wpAny_call_entry->afJ,wpAny_setField->afM,wpAny_callSpecial?_slot->afY,mem_of_lookup->af0,wpAny_passesOwn->agc,wpAny_setState_of->agk,sizeLine_eq->agq,codeAny_mono->ags,wpAny_setEntries_of->agx,wpAny_attempt->agA,codeAny_builtin->agD,wpAny_field->agV,fits_of_scanBound->ahd,plainId_quiet->ahk,codeAny_call_builtin->ahE,wpAny_fieldsOf->ahJ,wpAny_newList->ahS,wpAny_pyIter_list->ahX,wpAny_call->ah2,wpAny_askSetting->aia,wpAny_execs_nil->aih,pushCells_keeps->aii,wpAny_of_eq->ain,starEach->Ä,Value->Å,Shared->Æ,Addr->Ç,mainGlobals->É,wpAny->Ë,Str->Ì,model->Î,Stmt->Ï,Program->Ð,Expr->Ô,eval->Õ,World->Ø,Heap->Û,foldedSetIterable->Þ,Paired->ß,backTo->ã,assignEach->ä,Around->å,compareOp->ç,cellsFrom->ì,FuncData->í,PyData->ï,Pos->ð,SetTable->ò,NameKind->ó,swapsWith->õ,behindInMarks->ü,rawInt->ý,Obj->ÿ,Scope->Ć,intKind->ĉ,assign->ď,Builtin->Ē,holding->Ě,codeAny->ě,bootBuiltins->Ĝ,binaryOp->ĝ,sliceBounds->Ĥ,bindArgs->ĥ,pyNext->Ĭ,IntMulOk->ĭ,scanBound->ĸ,noteFrame->Ĺ,PassesOwn->ĺ,letOwnedTupleGo->ļ,setFlight->Ň,pickOrder->ň,lastMarks->ŉ,callerA->Ŋ,BindsTo->Ō,Env->ő,swapsWithSole->ŕ,swappedStores->Ŗ,attributeBase->ŗ,setNext->ţ,relayAll->Ť,relabel->ť,CmpOp->ũ,pyIter->Ų,IsPart->ŵ,IsRangeIter->ž,wpAny_rule->Η,newFunctionEnv->Θ,isSubtype_type->Ι,cLine->Κ,again->Λ,Params->Ν,wpAny_standAt->θ,wpAny_comprehension_free->ν,nums_intItems->ξ,call->ς,bindL->ϓ,bindC->ϔ,wpAny_typeOf->Ϡ,wpAny_pyNext_range_end->ϡ,wpAny_pyIter_rangeiter->Ϣ,standAt->Ϥ,seqIndex_neg->ϥ,isTrue->Ϧ,getItem->ϧ,Result->ϩ,Keyword->ϰ
open List renaming mem_cons->đ,getD_eq_getElem?_getD->ĩ,mem_cons_of_mem->ę,length_map->ċ,getElem?_eq_getElem->į,mem_cons_self->ġ,not_mem_nil->Ĕ,mem_of_getElem?->Į,getElem?_eq_some_iff->adU,mem_map->adX,mem_singleton->ad0,getElem?_map->ł,mem_append_right->Ţ,size_toArray->ņ,length_append->Ř,length_cons->Œ,mem_append->aen,length_set->Ŝ,take_length->Ζ,mem_append_left->ϑ,filter_cons_of_neg->ϸ,filter_cons_of_pos->Ϸ,map_cons->ů,mem_filter->aeJ,mem_or_eq_of_mem_set->aeR,mem_range->aeY,length_take->ϟ,length_drop->Ϟ,take_add_one->ae7,getElem?_append_right->ae_,getElem?_set_ne->afb,nodup_cons->afc,take_of_length_le->aff,getElem?_append_left->afg,pairwise_cons->afo,all_eq_true->afq,mem_of_mem_drop->afr,mem_of_mem_take->afs,getElem?_eq_none->afv,append_nil->afD,drop_eq_nil_of_le->afF,getElem?_zip_eq_some->afN,length_eq_zero_iff->afZ,lookup_cons->af1,getElem?_set_self->af3,length_filter_le->age,map_append->agf,length_range->agi,drop_eq_getElem_cons->agm,mem_iff_getElem->ago,map_nil->agt,getElem_mem->agv,length_zip->agC,eq_nil_of_length_eq_zero->agG,pairwise_map->agH,length_singleton->agK,take_succ->agM,mem_iff_getElem?->agN,cons_append->agT,getElem?_take_of_lt->ag4,nodup_append->ahc,any_cons->ahj,filter_cons->ahl,nodup_range->ahn,any_eq_true->aho,length_filter_eq_length_iff->ahp,mem_flatMap->ahq,take_append_drop->ahr,of_mem_zip->ahu,mem_erase_of_ne->ahz,filterMap_cons->ahF,length_take_le->ahG,filter_eq_self->ahH,foldl_append->ahZ,ext_getElem?->ah1,pairwise_iff_getElem->ah3,getElem?_eq_none_iff->ah5,getLast?_cons_cons->aid,range_succ->aij,nil_append->aik,pairwise_lt_range->aim,length_pos_of_mem->aip,length_replicate->air,take_zero->aiu,drop_zero->aiv,nodup_nil->aiw,getElem?_toArray->aiz,perm_append_comm->aiC,all_cons->aiD,all_map->aiL,range->Ö,replicate->Ý,toArray->æ,lookup->ś,perm_cons_erase->Χ,length_eraseIdx->Ψ,getElem?_mapIdx->Ω,map_congr_left->υ,getElem?_range->χ,flatMap_append->ψ,filter_append->ϙ,take_sublist->Ϭ,getElem_drop->ϭ,getElem?_set->Ϯ,flatMap_cons->ϯ
open Classical renaming byContradiction->ğ,not_imp->agI,not_forall->ahD,epsilon->ú,propDecidable->Š
open PySem.Heap renaming get?_push_of_some->Ĩ,lt_size->ē,get?_push_size->Ŕ,get?_update_other->ae5,get?_update_self->afj,size_push->afK,SameBut->ĳ,get?_none_of_le->η,get?_push_ne->ϲ
open Nat renaming le_refl->Ā,lt_of_lt_of_le->ř,ne_of_lt->Ķ,le_of_ble_eq_true->ſ,le_trans->Ń,zero_le->ş,le_of_lt->ź,lt_succ_of_lt->afi,lt_of_le_of_lt->afn,le_mul_of_pos_left->afG,pow_le_pow_right->afS,mul_le_mul_right->afV,lt_succ_self->af2,not_lt->af5,le_succ->af6,pow_succ->af9,one_lt_two_pow->agb,two_pow_pos->agd,lt_irrefl->agg,le_of_dvd->agU,log2_lt->agW,not_lt_zero->ag1,eq_zero_or_pos->ag5,lt_or_eq_of_le->ag7,le_of_succ_le->aha,mod_eq_zero_of_dvd->ahi,min_eq_right->ahm,ne_of_gt->aht,min_eq_left->ahx,mul_le_mul->ahL,pow_add->ahM,le_of_not_lt->ah6,lt_succ_iff_lt_or_eq->ah9,le_mul_of_pos_right->aif,le_of_eq->aiF,lt_or_ge->aiI,lt_trans->aiK,log2->ŏ,Coprime->τ
open Option.some renaming inj->ķ,injEq->agJ
open Bool renaming false_ne_true->ō,and_eq_true->ŷ,and_eq_true_iff->aeO,eq_iff_iff->afC,true_and->agh,false_eq_true->agB,beq_eq_decide_eq->agL,and_false->agO,not_eq_true'->ahe,or_eq_true->ahw,eq_false_iff->ahY,or_true->aib,true->Á,false->Â
open Array renaming length_toList->ŝ,getElem?_eq_some_iff->afI,getElem?_toList->afL,getElem?_eq_getElem->afQ,getElem_toList->agn,toList_push->ah0,getElem?_eq_none->aio,getD->č,append_assoc->ώ
open PySem.W renaming mg_none_of->Ÿ,mg_of->afA,cellsFrom_some->agE,Frag->Ã,nsIn->Ñ,fnOf->á,kitOne->è,keepIn->ø,exmOne->ć,findIn->Ģ,codeIn->ģ,mroIn->Ļ,methodObj->Ľ,findObj->Ŏ,excIn->ŧ,Looks->Ũ,looks_findIn->Β,callWith_K->Μ,OpenLaw->ϖ
open PySem.Heap.SameBut renaming update->Τ
open Ne renaming symm->œ
open PyProof.Rows renaming callWith_type1->afm,slot_tuple_getitem->agy,boot_list->agF,get?_update_seq->ag2,callWith_builtin1->ahv,listUpdate_at->ahV,seqObj->é,IntsAre->ñ,envOfC->ħ,AllBare->Ĵ,arrOf->Ż,Constant_none->ό,subscriptTail_builtinR->ϣ
open PySem.F renaming called_set->afz,excBase_ValueError->ahT,excAttr_ValueError->ahU,plain_extend_loop->ah4,plain_list_iadd->aie,plain_set_new->aiy,slot_set_iter->aiA
open Option renaming isSome_iff_exists->afR,bind_some->ah_,some->À,some_ne_none->Ξ,map->Φ,getD_some->ϗ,getD_none->Ϙ,map_some->Ϫ
open List.Pairwise renaming imp_of_mem->afU,sublist->aix,nil->Ŭ
open PyProof.Rows.F renaming plain_set_update_loop->af_,entry_set_update_loop->ag8
open PySem.Obj renaming data_mapFields->aga,isFreed_of_fields->ahs,mapSeq->Ú,mapFields->Č,putSet->ϫ
open PySem.Around renaming under_plainId->agp
open PySem.PassesOwn renaming never->agZ
open Sum.inr renaming inj->ahg
open Prod renaming ext->ahI,snd->Υ
open PySem.Calls renaming Name_function_global->ahR,callWith_builtin->Δ,evalArgs_plain->Ο,spliced_cons->ύ,spliced_nil->Ϛ
open PySem.Value renaming isInt_shape->ahW,type->þ,none->ā,int->Ė,bool->ο
open List.Perm renaming refl->ait,swap->ô,cons->Ő
open True renaming intro->Ê
open PySem.Builtin.Int renaming intBits->Í
open PySem.Builtin.Range renaming rangeSize->Ò,small->š
open PySem.SetTable renaming below->Ù,grown->ą,Probe->ϕ,laid->Ϩ
open PySem.NameKind renaming free->à,cell->â
open PySem.PyData renaming eqv->ê,canLayAll0->î,eqvAll->ė,depthAll->Ġ
open Sum renaming inr->ö,inl->Ď
open False renaming elim->ù
open Lean renaming Syntax->Ă
open PySem.Str renaming ofString->ă
open PySem.Builtin.Slice renaming slicePlaces->Ą,sliceAdjust->Ğ,sliceApplied->ľ
open PySem.Builtin.Tuple renaming tupleExact->Ĉ
open ForInStep renaming yield->Ċ
open PySem.Builtin.List renaming listExtendWith->ĕ,listLengthHint->Ŀ,listSameRef->ŋ
open PySem.SetTable.probe renaming go->ı
open PySem.SetTable.below renaming go->Ĳ
open PySem.pickOrder renaming go->Ŧ
open PySem.SeqAt.EqAt renaming bool_bool->ū,int_bool->ų,bool_int->Ŵ,str_int->ż,int_str->Ž
open PySem.EntryCells renaming newEntry->Ŷ
open Sum.inl renaming inj->Α
open PySem.SeqAt renaming notIn_listAt->π,EqAt->ρ
set_option Elab.async false
set_option maxHeartbeats 8000000
set_option linter.all false
set_option compiler.extract_closed false
set_option genInjectivity false
set_option genSizeOf false
set_option bootstrap.genMatcherCode false
set_option maxRecDepth 100000
theorem zra0(h:True:=by rfl):True:=h
def zra:Ă:=zra0._auto_1
theorem zrb0(h:True:=by decide):True:=h
def zrb:Ă:=zrb0._auto_1
theorem zrc0(h:True:=by intro _;rfl):True:=h
def zrc:Ă:=zrc0._auto_1
theorem zre0(h:True:=by first|exact Or.inl rfl|exact Or.inr (Or.inl rfl)|exact Or.inr (Or.inr rfl)):True:=h
def zre:Ă:=zre0._auto_1
theorem zrf0(h:True:=by first|exact .inl rfl|exact .inr rfl|assumption):True:=h
def zrf:Ă:=zrf0._auto_1
theorem zrg0(h:True:=by stop rfl):True:=h
def zrg:Ă:=zrg0._auto_1
theorem zrh0(h:True:=by decide +kernel):True:=h
def zrh:Ă:=zrh0._auto_1
theorem zrj0(h:True:=by intro _ _;rfl):True:=h
def zrj:Ă:=zrj0._auto_1
noncomputable section
open Lean in
local macro_rules(kind:=Lean.Parser.Tactic.«show»)|s=>pure (s.setKind `Lean.Parser.Tactic.refine)
theorem zrm(h:True:=by lia):True:=h
theorem zrn(h:True:=by first|exact zm0|exact zm1|exact zm2|exact zm3|simp):True:=h
theorem zro(h:True:=by dsimp only;lia):True:=h
theorem zrp(h:True:=by omega):True:=h
open Lean in
local macro_rules(kind:=Lean.Parser.Term.dotIdent)|s=>do
 let i:=mkIdent
 let e:=Syntax.mkApp
 let r:=fun f l=>(pure (e (i f) (List.toArray l)).raw:MacroM Syntax)
 let q:=fun n=>r `aa [Syntax.mkNumLit n]
 let y:=fun t=>(pure (.node .none ``Parser.Term.byTactic #[mkAtom "by",t]):MacroM Syntax)
 let t:=fun n=>do return (←`(($(Syntax.mkNumLit n) :Int))).raw
 match s[1].getId.toString with|"a"=>y zrb|"b"=>y zrm._auto_1|"c"=>y zrn._auto_1|"d"=>y zrh|"e"=>y zro._auto_1|"f"=>y zrp._auto_1|"A"=>q "0"|"B"=>q "1"|"C"=>q "2"|"D"=>q "3"|"E"=>r `Î [i `X.prog,i `X.w]|"F"=>r `off [i `H,i `O]|"H"=>r `gQ [i `X,e (i `cN) #[i `X,i `tn,i `js],i `Ze,i `C,i `s,i `H,i `fp]|"L"=>r `List [i `Int]|"M"=>t "1"|"N"=>t "0"|"O"=>t "2"|_=>Macro.throwUnsupported
open Lean in
local macro_rules(kind:=Vector.«term#v[_,]»)|s=>pure (Syntax.mkApp (mkIdent `À) #[Syntax.mkApp (mkIdent `Bd.val) #[mkIdent `Â,⟨s[1][0]⟩]])
open Lean in
local macro_rules(kind:=«term‹_›»)|s=>pure (Syntax.mkApp (mkIdent `À) #[Syntax.mkApp (mkIdent `Bd.val) #[mkIdent `Á,⟨s[1]⟩]])
open Lean in
local macro_rules(kind:=coeSortNotation)|s=>pure (Syntax.mkApp (mkIdent `Int.toNat) #[⟨s[1]⟩])
open Lean in
local macro_rules(kind:=«term~~~_»)|s=>pure (.node .none ``Parser.Term.proj #[s[1],mkAtom ".",mkIdent `length])
open Lean in
local macro_rules(kind:=«term_⁻¹»)|s=>pure (.node .none ``Parser.Term.proj #[s[0],mkAtom ".",mkIdent `heap.objs.size])
open Lean in
local macro_rules(kind:=Lean.Parser.Tactic.tacticLet__)
|s=>
 let m:=fun k=>Syntax.node .none (`Lean.Parser.Tactic++k)
 let o:=@mkNullNode
 let rec c:Nat→Syntax→Syntax
  |0,t=>t
  |n+1,t=>m `rcasesPatMed #[o #[if t.isIdent then m `rcasesPat.one #[t] else if t.getNumArgs<3 then m `rcasesPat.ignore #[t[0]] else m `rcasesPat.tuple #[t[0],o (t[1].getArgs.map fun x=>if x.isAtom then x else m `rcasesPatLo #[c n x,o #[]]),t[2]]]]
 let d:=s[2][0]
 pure (if d[0].getNumArgs==3 then m `obtain #[s[0],o #[c 9 d[0]],o #[],o #[d[3],o #[d[4]]]] else s.setKind `Lean.Parser.Tactic.tacticHave__)
open Lean in
local macro_rules|`(fun $xs* => $b)=>do
  unless xs.any (·.raw.isOfKind ``Parser.Term.anonymousCtor) do Macro.throwUnsupported
  let (c,ys)←xs.foldrM (init:=(b,(#[]:Array Syntax))) fun x u=>withFreshMacroScope do
    let x:=x.raw
    if x.isOfKind ``Parser.Term.anonymousCtor then
      let a:=x[1].getArgs
      if a.size<3 then Macro.throwUnsupported
      let h←`(h)
      let d:=if a.size=3 then a[2]! else x.setArg 1 (mkNullNode (a.extract 2 99))
      let c←`(($h).elim fun $(⟨a[0]!⟩) $(⟨d⟩)=>$(u.1))
      return (c,u.2.push h)
    return (u.1,u.2.push x)
  `(fun $(ys.reverse.map fun y=>⟨y⟩)* => $c)
open Lean in
local macro_rules|`(⇑$x)=>`($x $(mkIdent `P) $(mkIdent `w) $(mkIdent `K) $(mkIdent `mg) $(mkIdent `base))
local macro_rules|`($x<|>$y)=>`(autoParam $x $y)
local macro_rules|`(#[$x,$y,*])=>`(⟨$x,$y,*⟩)|`(#[$x])=>`(⟨$x⟩)
local macro_rules|`(↑$x)=>`(by simpa using $x)
local macro_rules|`(tactic|stop $t)=>`(tactic|with_unfolding_all $t)
section
variable{α}{a b c d:α}{l:List α}
theorem zm0:a∈a::l:=List.Mem.head _
theorem zm1:a∈b::a::l:=List.Mem.tail _ zm0
theorem zm2:a∈b::c::a::l:=List.Mem.tail _ zm1
theorem zm3:a∈b::c::d::a::l:=List.Mem.tail _ zm2
end
abbrev adF:=@if_neg
abbrev adI:=@if_pos
abbrev adZ:=@decide_eq_true
abbrev aec:=@decide_eq_false
abbrev aej:=@or_false
abbrev aer:=@of_decide_eq_true
abbrev aeC:=@of_decide_eq_false
abbrev afe:=@decide_eq_true_iff
abbrev afX:=@decide_eq_true_eq
abbrev af4:=@beq_iff_eq
abbrev agr:=@decide_eq_decide
abbrev agz:=@if_true
abbrev agQ:=@if_false
abbrev agR:=@beq_self_eq_true
abbrev ag9:=@dif_pos
abbrev ag_:=@decide_eq_false_iff_not
abbrev aiB:=@or_congr_right
theorem zrN{P:Nat->Prop}(z:P 0)(s:∀n,P n->P (n+1)):∀n,P n:=λn=>Nat.rec z s n
theorem zrL{α}{P:List α->Prop}(z:P [])(s:∀a l,P l->P (a::l)):∀l,P l:=λl=>List.rec z s l
namespace L2
open PySem PySem.Spec PyProof.Rows
variable{s:Æ}{x:Ì}{ZB:List (Ç×ÿ)}{b a:Ç}{u:Å}{op:ũ}{K:Ã}{w:Ø}{A:å}{P:Ð}{i t' k n:Nat}{h:Û}{e tg c:Ô}{o:ÿ}{us:List Å}{ch:List Ç}{α:Model}{body:List Ï}{f:Å->Å->Sem Å}
abbrev Key:=Sum Int Ì
def Pr:Key->Å->Bool
 |.inl k,v=>Value.isInt k v
 |.inr x,v=>Value.isStrOf x v
def XO(w:Ø):Key->Int
 |.inl k=>hashInt k
 |.inr x=>hashStr w x
def cU:∀{k:Key} {v:Å},Pr k v=Á->(∃i t,k=Ď i/\v=Ė i t)\/(∃x t,k=ö x/\v=Value.str x t)
 |.inl i,v,h=>by
  let⟨t,e⟩:=ahW (k:=i) (v:=v) h;show .inl #[i,t,rfl,e]
 |.inr x,v,h=>by
  let⟨t,e⟩:=Value.isStrOf_shape (x:=x) (v:=v) h;show .inr #[x,t,rfl,e]
def Ri(a b:Int):decide ((Ď a:Key)=Ď b)=(a==b):=by
 by_cases e:a=b
 .subst e;simp
 .let h:¬(Ď a:Key)=Ď b:=λq=>e (Α q);rw[aec h];show(beq_eq_false_iff_ne.mpr e).symm
def RP(a b:Ì):decide ((ö a:Key)=ö b)=decide (a=b):=by
 by_cases e:a=b
 .subst e;simp
 .let h:¬(ö a:Key)=ö b:=λq=>e (ahg q);rw[aec h,aec e]
def Rq(a:Int)(b:Ì):decide ((Ď a:Key)=ö b)=Â:=aec (λq=>nomatch q)
def SI(a:Ì)(b:Int):decide ((ö a:Key)=Ď b)=Â:=aec (λq=>nomatch q)
noncomputable def FE(prog:Ð)(w:Ø):PySem.KeyKind prog w Key where
 is:=Pr
 hash:=XO w
 inj:=λv a b ha d=>by
  obtain⟨i,t,rfl,rfl⟩|⟨x,t,rfl,rfl⟩:=cU ha
  .obtain⟨j,u,rfl,e⟩|⟨y,u,rfl,e⟩:=cU d
   .injection e with e1 _;rw[e1]
   .show nomatch e
  .obtain⟨j,u,rfl,e⟩|⟨y,u,rfl,e⟩:=cU d
   .show nomatch e
   .injection e with e1 _;rw[e1]
 byValue:=λk v h=>by
  obtain⟨i,t,rfl,rfl⟩|⟨x,t,rfl,rfl⟩:=cU h<;>rfl
 pyHash:=λc h=>by
  obtain⟨i,t,rfl,rfl⟩|⟨x,t,rfl,rfl⟩:=cU c
  .show wpAny_pyHash_int h
  .show wpAny_pyHash_str h
 eqBool:=λf c h=>by
  obtain⟨i,t,rfl,rfl⟩|⟨x,t,rfl,rfl⟩:=cU f
  .obtain⟨j,u,rfl,rfl⟩|⟨y,u,rfl,rfl⟩:=cU c
   .rw[Ri] at h;show wpAny_eqBool_int h
   .rw[Rq] at h;show Ž i t y u _ _ _ _ h
  .obtain⟨j,u,rfl,rfl⟩|⟨y,u,rfl,rfl⟩:=cU c
   .rw[SI] at h;show ż x t j u _ _ _ _ h
   .rw[RP] at h;show wpAny_eqBool_str h
 «strs»:=λk x t v h=>by
  obtain⟨i,u,rfl,e⟩|⟨y,u,rfl,e⟩:=cU h
  .show nomatch e
  .injection e with e1 _;subst e1;cases v<;>rfl
def bI(b:Bool):Int:=if b then 1 else 0
def Vh(k:Int)(v:Å):Bool:=match v with
 |.int i _=>i==k
 |.bool b=>bI b==k
 |_=>Â
def di{k:Int}{v:Å}(h:Vh k v=Á):(∃t,v=Ė k t)\/∃b,k=bI b/\v=ο b:=by
 cases v with
 |int i t=>show .inl #[t,by rw[eq_of_beq (show(i==k)=Á from h)]]
 |bool b=>show .inr #[b,(eq_of_beq (show(bI b==k)=Á from h)).symm,rfl]
 |_=>show nomatch h
def zO{prog:Ð}{E:Å->Æ->Prop}{b:Bool}{Q:Int->Æ->Prop}(h:Q (hashInt (bI b)) {s with toks:=s.toks+1}):Ë (Î prog w) A (pyHash (.bool b)) Q E s:=by
 show PySem.W.pyHash_slot (T:="bool") rfl F.slot_bool_hash entry_int_hash (args_int_hash _) (beq_builtin_none _) (.inl rfl) ?_;cases b
 .show(show Ë _ _ (do ret (<-mkInt 0)) _ _ s from Ü (wpAny_mkInt (û #[0,_,rfl,h])))
 .show(show Ë _ _ (do ret (<-mkInt 1)) _ _ s from Ü (wpAny_mkInt (û #[1,_,rfl,h])))
def O6(a b:Int):decide (a=b)=(a==b):=by
 by_cases e:a=b
 .subst e;simp
 .rw[aec e];show(beq_eq_false_iff_ne.mpr e).symm
def Mn(prog:Ð)(w:Ø):PySem.KeyKind prog w Int where
 is:=Vh
 hash:=hashInt
 inj:=λv a b ha d=>by
  obtain⟨t,rfl⟩|⟨x,rfl,rfl⟩:=di ha
  .obtain⟨u,e⟩|⟨y,rfl,e⟩:=di d
   .injection e
   .cases e
  .obtain⟨u,e⟩|⟨y,rfl,e⟩:=di d
   .cases e
   .injection e with e;rw[e]
 byValue:=λk v h=>by
  obtain⟨t,rfl⟩|⟨x,rfl,rfl⟩:=di h<;>rfl
 pyHash:=λc h=>by
  obtain⟨t,rfl⟩|⟨x,rfl,rfl⟩:=di c
  .show wpAny_pyHash_int h
  .show zO h
 eqBool:=λ{A E s a b u v Q} f c h=>by
  rw[O6] at h;obtain⟨t,rfl⟩|⟨x,rfl,rfl⟩:=di f
  .obtain⟨t',rfl⟩|⟨y,rfl,rfl⟩:=di c
   .show wpAny_eqBool_int h
   .show ų _ t y _ _ _ _ h
  .obtain⟨t',rfl⟩|⟨y,rfl,rfl⟩:=di c
   .show Ŵ x _ t' _ _ _ _ h
   .show ū x y _ _ _ _ ?_;rwa[(by cases x<;>cases y<;>rfl:(x==y)=(bI x==bI y))]
 «strs»:=λk x t v h=>by
  obtain⟨u,e⟩|⟨y,_,e⟩:=di h<;>cases e
def kl(k:Int×Bool):.L:=[k.1,bI k.2]
def MJ{x y:Int×Bool}(h:kl x=kl y):x=y:=by
 let⟨d,a⟩:=x;let⟨c,b⟩:=y;let h1:d=c/\bI a=bI b:=by simpa [kl] using h
 let⟨rfl,h2⟩:=h1;cases a<;>cases b<;>first|rfl|show absurd h2 .a
def R0(x y:Int×Bool):decide (kl x=kl y)=decide (x=y):=agr.mpr #[MJ,λh=>by rw[h]]
noncomputable def Lr(prog:Ð)(w:Ø):PySem.HeapKind prog w (Int×Bool) where
 is:=λh k a=>IsTupleKey (Mn prog w) h (kl k) a
 hash:=λk=>tupleKeyHash (Mn prog w) (kl k)
 draws:=λ_=>3
 room:=λA=>A.units<Κ
 inj:=λd f=>MJ (d.inj f)
 keeps:=λx j i g=>x.keeps j i g
 pyHash:=λc e h=>wpAny_pyHash_tuple c e h
 eqBool:=λ{A E s x y a b Q} c d f h=>wpAny_eqBool_tuple c d f (by rwa[R0])
 quiet:=λe h=>wpAny_eqIsQuiet_tuple e h
set_option genInjectivity true in
inductive V where
 |non|bl (b:Bool)|int (i:Int)|str (x:Ì)|byt (b:Array UInt8)|flt (b:UInt64)|ref (a:Ç)|ty (n:String)
 deriving DecidableEq
variable{v:V}
def RelV:V->Å->Prop
 |.non,u=>u=ā
 |.bl b,u=>u=ο b
 |.int i,u=>∃t,u=Ė i t
 |.str x,u=>∃t,u=Value.str x t
 |.byt b,u=>∃t,u=Value.bytes b t
 |.flt b,u=>∃t,u=Value.float b t
 |.ref a,u=>u=Value.ref a
 |.ty n,u=>u=þ n
abbrev Vals:List V->List Å->Prop:=ß RelV
def Vals.length{xs:List V}{us:List Å}(r:Vals xs us): ~~~xs= ~~~us:=Paired.length r
theorem Vals.get:∀{xs:List V} {us:List Å} {i:Nat} {x:V},Vals xs us->xs[i]?=À x->∃u,us[i]?=À u/\RelV x u
 |_,_,_,_,.nil,e=>by simp at e
 |_,_,0,_,.cons r _,e=>by simp at e;subst e;show#[_,rfl,r]
 |_,_,i+1,x,.cons _ t,e=>by
  let⟨u,h1,h2⟩:=Vals.get (i:=i) (x:=x) t ↑e;show#[u,↑h1,h2]
theorem Vals.set{x:V}{u:Å}(r:RelV x u):∀{xs:List V} {us:List Å} (i:Nat),Vals xs us->Vals (xs.set i x) (us.set i u)
 |_,_,_,.nil=>.nil
 |_,_,0,.cons _ t=>.cons r t
 |_,_,i+1,.cons q t=>.cons q (Vals.set r i t)
theorem Vals.append:∀{xs ys:List V} {us a:List Å},Vals xs us->Vals ys a->Vals (xs++ys) (us++a)
 |_,_,_,_,.nil,s=>s
 |_,_,_,_,.cons r t,s=>.cons r (Vals.append t s)
theorem Vals.take:∀{xs:List V} {us:List Å} (n:Nat),Vals xs us->Vals (xs.take n) (us.take n)
 |_,_,0,_=>.nil
 |_,_,_+1,.nil=>.nil
 |_,_,n+1,.cons r t=>.cons r (Vals.take n t)
theorem Vals.drop:∀{xs:List V} {us:List Å} (n:Nat),Vals xs us->Vals (xs.drop n) (us.drop n)
 |_,_,0,r=>r
 |_,_,_+1,.nil=>.nil
 |_,_,n+1,.cons _ t=>Vals.drop n t
def UC:Option V->Option Å->Prop
 |some v,À u=>RelV v u
 |none,none=>True
 |_,_=>False
def KV{κ:Type}:List (κ×V)->List (κ×Å)->Prop:=ß fun(p:κ×V) (q:κ×Å)=>p.1=q.1/\RelV p.2 q.2
def kV:Key->V
 |.inl i=>.int i
 |.inr x=>.str x
noncomputable def kB(k:Int×Bool):List V:=[.int k.1,.bl k.2]
inductive HO where
 |lst (xs:List V)
 |tup (xs:List V)
 |dK (YY:List (Key×V))|dT (YY:List (List Key×V))
 |dB (YY:List ((Int×Bool)×V))
 |set (S:Int->Bool) (n:Nat)
 |ins (C dx:Ç) (fs:List (Ì×V))
 |own (x:Ç)
 |xd (fs:List (Ì×V))
 |met (f x:Ç)
 |A9 (lo hi:Int)
 |frz (o:ÿ) (u:HO)
 |tbl (ps:Array Å)
 |ext (φ:Û->Prop)
abbrev Hp:=Ç->Option HO
variable{H:Hp}
def upd(H:Hp)(a:Ç)(o:HO):Hp:=λb=>if b=a then À o else H b
def bp{o:HO}:upd H a o a=À o:=by delta upd;rw[adI rfl]
def aU{o:HO}(h:b≠a):upd H a o b=H b:=by delta upd;rw[adF h]
def bY{o:HO}(h:H a=À o)(h':H b=none):a≠b:=by
 intro e;subst e;rw[h] at h';cases h'
section
variable(P:Ð)(w:Ø)
def gW(H:Hp)(h:Û)(a:Ç):HO->Prop
 |.lst xs=>~~~xs<=sizeLine/\∃(YU:List Å) (n:Nat),Vals xs YU/\h.get? a=À {cls:=.type "list",data:=.seq YU.toArray n}
 |.tup xs=>~~~xs<=sizeLine/\∃YU:List Å,Vals xs YU/\IsTup h a YU.toArray
 |.dK YY=>~~~YY<=sizeLine/\(a==sysModules)=Â/\∃vs,KV YY vs/\h.DictOf (FE P w) a vs
 |.dT YY=>~~~YY<=sizeLine/\(a==sysModules)=Â/\∃xs:List (List Key×Ç×Å),
   ß (fun(p:List Key×V) (q:List Key×Ç×Å)=>p.1=q.1/\H q.2.1=À (.tup (p.1.map kV))/\RelV p.2 q.2.2) YY xs /\
   ∃o es ep,h.get? a=À o/\o.ExactDict/\o.data=.dict es ep/\es.toList=xs.map (entryOfKey (tupleKind (FE P w)))/\(xs.map (·.1)).Nodup
 |.dB YY=>~~~YY<=sizeLine/\(a==sysModules)=Â/\∃xs:List ((Int×Bool)×Ç×Å),
   ß (fun(p:(Int×Bool)×V) (q:(Int×Bool)×Ç×Å)=>p.1=q.1/\H q.2.1=À (.tup (kB p.1))/\RelV p.2 q.2.2) YY xs /\
   ∃o es ep,h.get? a=À o/\o.ExactDict/\o.data=.dict es ep/\es.toList=xs.map (entryOfKey (Lr P w))/\(xs.map (·.1)).Nodup
 |.set S n=>h.SetOf (ĉ P w) a S n
 |.ins C dx fs=>H dx=À (.own a)/\~~~fs<=1000/\dx≠a/\h.get? a=À (PySem.W.instObj C dx) /\
   ∃mA,h.Ns1 dx mA/\(∀f,UC (fs.lookup f) (mA f))/\PySem.Within mA (fs.map (·.1))
 |.own _=>∃o,h.get? a=À o
 |.xd fs=>∃mA,h.Ns1 a mA/\∀f,UC (fs.lookup f) (mA f)
 |.A9 lo hi=>∃t u v,h.get? a=À {cls:=.type "range",data:=.fields (æ [.int lo t,.int hi u,.int 1 v])}
 |.frz o u=>h.get? a=À o/\gW H h a u
 |.tbl ps=>h.get? a=À {cls:=.none,data:=.fields ps}
 |.met f x=>h.get? a=À (Ľ (.ref f) (.ref x))
 |.ext φ=>φ h/\(∃o,h.get? a=À o)/\∀h1 h2:Û,φ h1->(∀o,h1.get? a=À o->h2.get? a=À o)->φ h2
def vo(H:Hp)(h:Û):Prop:=∀a o,H a=À o->gW P w H h a o
end
section
variable{P:Ð}{w:Ø}{H H':Hp}{h h':Û}{a:Ç}{o:HO}
def gW.lt(x:gW P w H h a o):a<h.objs.size:=by
 cases o with
 |lst xs=>let⟨_,_,_,_,e⟩:=x;show ē e
 |tup xs=>let⟨_,_,_,p⟩:=x;show p.lt
 |dK YY=>let⟨_,_,_,_,o,_,_,e,_⟩:=x;show ē e
 |dT YY=>let⟨_,_,_,_,o,_,_,e,_⟩:=x;show ē e
 |dB YY=>let⟨_,_,_,_,o,_,_,e,_⟩:=x;show ē e
 |set S n=>let⟨o,_,_,_,e,_⟩:=x;show ē e
 |ins C dx fs=>let⟨_,_,_,e,_⟩:=x;show ē e
 |own y=>let⟨_,e⟩:=x;show ē e
 |xd fs=>let⟨_,⟨_,_,_,e,_⟩,_⟩:=x;show ē e
 |A9 lo hi=>let⟨_,_,_,e⟩:=x;show ē e
 |frz b u=>let⟨e,_⟩:=x;show ē e
 |tbl ps=>show ē (show h.get? a=À _ from x)
 |met f y=>show ē (show h.get? a=À _ from x)
 |ext φ=>let⟨_,⟨_,e⟩,_⟩:=x;show ē e
theorem Paired.R3{M β:Type}{F G:M->β->Prop}:∀{l₁:List M} {l₂:List β},ß F l₁ l₂->(∀a b,F a b->G a b)->ß G l₁ l₂
 |_,_,.nil,_=>.nil
 |_,_,.cons r t,f=>.cons (f _ _ r) (Paired.R3 t f)
def gW.ye(x:gW P w H h a o)(k:∀b u,(b=a\/H b=À (.own a))->h.get? b=À u->h'.get? b=À u)
  (j:∀b,H b=À (.own a)->H' b=À (.own a)) (i:∀b xs,H b=À (.tup xs)->H' b=À (.tup xs)):gW P w H' h' a o:=by
 induction o with
 |lst xs=>let⟨z,YU,n,r,e⟩:=x;show#[z,YU,n,r,k _ _ (.inl rfl) e]
 |tup xs=>let⟨z,YU,r,g,e,c⟩:=x;show#[z,YU,r,g,k _ _ (.inl rfl) e,c]
 |dK YY=>let⟨z,y,vs,r,g,es,ep,e,c⟩:=x;show#[z,y,vs,r,g,es,ep,k _ _ (.inl rfl) e,c]
 |dT YY =>
  let⟨z,y,xs,r,g,es,ep,e,c⟩:=x;show#[z,y,xs,Paired.R3 r λp q z=>#[z.1,i _ _ z.2.1,z.2.2],g,es,ep,k _ _ (.inl rfl) e,c]
 |dB YY =>
  let⟨z,y,xs,r,g,es,ep,e,c⟩:=x;show#[z,y,xs,Paired.R3 r λp q z=>#[z.1,i _ _ z.2.1,z.2.2],g,es,ep,k _ _ (.inl rfl) e,c]
 |set S n=>let⟨g,es,ep,t,e,c⟩:=x;show#[g,es,ep,t,k _ _ (.inl rfl) e,c]
 |ins C dx fs =>
  let⟨d,z,ne,e,mA,⟨od,es,ep,e2,c⟩,r⟩:=x;show#[j _ d,z,ne,k _ _ (.inl rfl) e,mA,#[od,es,ep,k _ _ (.inr d) e2,c],r]
 |own y=>let⟨g,e⟩:=x;show#[g,k _ _ (.inl rfl) e]
 |xd fs=>let⟨mA,⟨od,es,ep,e,c⟩,r⟩:=x;show#[mA,#[od,es,ep,k _ _ (.inl rfl) e,c],r]
 |A9 lo hi=>let⟨t,u,v,e⟩:=x;show#[t,u,v,k _ _ (.inl rfl) e]
 |frz g u l=>let⟨e,q⟩:=x;show#[k _ _ (.inl rfl) e,l q]
 |tbl ps =>
  let e:h.get? a=À {cls:=.none,data:=.fields ps}:=x;change h'.get? a=À {cls:=.none,data:=.fields ps};show k a _ (.inl rfl) e
 |met f y =>
  let e:h.get? a=À (Ľ (.ref f) (.ref y)):=x;change h'.get? a=À (Ľ (.ref f) (.ref y));show k a _ (.inl rfl) e
 |ext φ=>let⟨p,⟨o,e⟩,st⟩:=x;show#[st _ _ p λo q=>k _ _ (.inl rfl) q,#[o,k _ _ (.inl rfl) e],st]
def vo.lt(x:vo P w H h)(e:H a=À o):a<h.objs.size:=(x a o e).lt
def vo.fresh(x:vo P w H h)(e:h.objs.size<=a):H a=none:=by
 cases q:H a with
 |none=>rfl
 |some u=>show absurd (ř (x.lt q) e) (agg _)
def vo.kept(x:vo P w H h)(k:∀b u,h.get? b=À u->h'.get? b=À u):vo P w H h':=λa o e =>
 (x a o e).ye (λb u _ q=>k b u q) (λ_ q=>q) λ_ _ q=>q
def vo.laid(x:vo P w H h)(k:∀b u,h.get? b=À u->h'.get? b=À u)(hp:h.objs.size<=a)(new:gW P w (upd H a o) h' a o):vo P w (upd H a o) h':=λb u e=>by
 let f:=x.fresh hp;by_cases d:b=a
 .subst d;rw[bp] at e;cases e;show new
 .rw[aU d] at e;show(x b u e).ye (λc v _ q=>k c v q) (λc q=>by rwa[aU (bY q f)]) λc xs q=>by rwa[aU (bY q f)]
end
def Rd(H:Hp)(a:Ç)(u:HO):Prop:=H a=À u\/∃o,H a=À (.frz o u)
def Rd.ok{u:HO}(r:Rd H a u)(x:vo P w H h):gW P w H h a u:=by
 obtain r|⟨o,r⟩:=r
 .show x a u r
 .let⟨_,q⟩:=x a _ r;show q
def Wq:Option HO->Prop
 |some (.lst _)=>True
 |some (.dK _)=>True
 |some (.dT _)=>True
 |some (.dB _)=>True
 |some (.set _ _)=>True
 |some (.ins _ _ _)=>True
 |some (.ext _)=>True
 |_=>False
section
variable{P:Ð}{w:Ø}{H:Hp}{h h':Û}{x e:Ç}{o':HO}
def vo.write(ok:vo P w H h)(i:Wq (H x))(he:e=x\/H e=À (.own x))(k:∀b u,b≠e->h.get? b=À u->h'.get? b=À u)(l:∃u,h'.get? e=À u)
  (new:gW P w (upd H x o') h' x o'):vo P w (upd H x o') h':=λb u q=>by
 let d:∀c y,H c=À (.own y)->c≠x:=λc y r z=>by subst z;rwa[r] at i
 let f:∀c xs,H c=À (.tup xs)->c≠x:=λc xs r z=>by subst z;rwa[r] at i
 by_cases g:b=x
 .subst g;rw[bp] at q;cases q;show new
 .rw[aU g] at q;by_cases a:b=e
  .let m:H b=À (.own x):=by
    obtain z|z:=he
    .show absurd (a.trans z) g
    .rwa[a]
   rw[q] at m;cases m;let⟨v,n⟩:=l;show#[v,by rwa[a]]
  .show(ok b u q).ye (λc v j r=>k c v ?_ r) (λc r=>by rwa[aU (d c b r)]) λc xs r=>by rwa[aU (f c xs r)]
   obtain rfl|j:=j
   .show a
   .rintro rfl;obtain z|z:=he
    .show d c b j z
    .rw[j] at z;cases z;show g rfl
end
structure Un(fs ex:List Ç)(H H':Hp)(h h':Û):Prop where
 keep:∀b o,h.get? b=À o->H b=none->b∉fs->b∉ex->h'.get? b=À o
 slot:∀b o,h.get? b=À o->H b=none->b∈fs->b∉ex->∃sl,h'.get? b=À {o with slots:=sl}
 free:∀b o,h.get? b=À o->H b=none->b∉ex->H' b=none
 there:∀b o,h.get? b=À o->b∉ex->∃o',h'.get? b=À o'
 tups:∀b xs,H b=À (.tup xs)->H' b=À (.tup xs)
 frzs:∀b o u,H b=À (.frz o u)->H' b=À (.frz o u)
 tbls:∀b ps,H b=À (.tbl ps)->∃more,H' b=À (.tbl (ps++more))
section
variable{fs fs' ex ex':List Ç}{H H1 H2:Hp}{h h1 h2 h':Û}{a x e:Ç}{o:HO}
def Un.any(u:Un fs ex H H1 h h1){a:ÿ}(q:h.get? b=À a)(n:H b=none)(c:b∉ex):∃sl,h1.get? b=À {a with slots:=sl}:=by
 by_cases d:b∈fs
 .show u.slot b a q n d c
 .show#[a.slots,u.keep b a q n d c]
def Un.trans(a:Un fs ex H H1 h h1)(b:Un fs ex H1 H2 h1 h2):Un fs ex H H2 h h2 where
 keep:=λc d q n f e=>b.keep c d (a.keep c d q n f e) (a.free c d q n e) f e
 slot:=λc d q n f e=>by
  let⟨sl,e1⟩:=a.slot c d q n f e;let⟨g,e2⟩:=b.slot c _ e1 (a.free c d q n e) f e;show#[g,e2]
 free:=λc d q n e=>by
  let⟨o',e1⟩:=a.there c d q e;show b.free c o' e1 (a.free c d q n e) e
 there:=λc d q e=>by
  let⟨o',e1⟩:=a.there c d q e;show b.there c o' e1 e
 tups:=λc xs q=>b.tups c xs (a.tups c xs q)
 frzs:=λc d xs q=>b.frzs c d xs (a.frzs c d xs q)
 tbls:=λc ps q=>by
  let⟨i,e1⟩:=a.tbls c ps q;let⟨j,e2⟩:=b.tbls c _ e1;show#[i++j,by rw[e2,ώ]]
def Un.kept(k:∀b u,h.get? b=À u->h'.get? b=À u):Un fs ex H H h h' :=
 #[λb a q _ _ _=>k b a q,λb a q _ _ _=>#[a.slots,k b a q],λ_ _ _ n _=>n,λb a q _=>#[a,k b a q],λ_ _ q=>q,λ_ _ _ q=>q,λ_ ps q=>#[#[],by rw[q];simp]]
def Un.refl:Un fs ex H H h h:=Un.kept λ_ _ q=>q
def Un.laid(k:∀b u,h.get? b=À u->h'.get? b=À u)(hp:h.objs.size<=a)(c:H a=none):Un fs ex H (upd H a o) h h' where
 keep:=λb u q _ _ _=>k b u q
 slot:=λb u q _ _ _=>#[u.slots,k b u q]
 free:=λb u q n _=>by rwa[aU (Ķ (ř (ē q) hp))]
 there:=λb u q _=>#[u,k b u q]
 tups:=λb xs q=>by rwa[aU (bY q c)]
 frzs:=λb u xs q=>by rwa[aU (bY q c)]
 tbls:=λb ps q=>#[#[],by rw[aU (bY q c),q];simp]
def Un.write(c:Wq (H x))(he:e=x\/H e=À (.own x))(k:∀b u,b≠e->h.get? b=À u->h'.get? b=À u)(d:∃u,h'.get? e=À u):Un fs ex H (upd H x o) h h':=by
 let i:∀b,H b=none->b≠x:=λb n z=>by subst z;rwa[n] at c
 let g:∀b,H b=none->b≠e:=λb n z=>by
  subst z;obtain r|r:=he
  .show i b n r
  .rw[n] at r;cases r
 let f:∀b u,H b=À u->¬Wq (À u)->b≠x:=λb u q nm z=>by subst z;rw[q] at c;show nm c
 show#[λb u q n _ _=>k b u (g b n) q,λb u q n _ _=>#[u.slots,k b u (g b n) q],λb u q n _=>by rwa[aU (i b n)],λb u q _=>?_,
  λb xs q=>by rwa[aU (f b _ q λz=>z)],λb u xs q=>by rwa[aU (f b _ q λz=>z)],λb ps q=>#[#[],by rw[aU (f b _ q λz=>z),q];simp]]
 by_cases a:b=e
 .subst a;show d
 .show#[u,k b u a q]
end
def Wy(h:Û)(H:Hp):List Ç:=(Ö h.objs.size).filter λa=>(H a).isSome
def A5(h:Û)(H:Hp):Û:=PySem.W.hideAll h (Wy h H)
def G_(h:Û)(H:Hp):(A5 h H).objs.size=h.objs.size:=PySem.W.hideAll_size _ _
def KD(e:h.get? b=À o)(n:H b=none):(A5 h H).get? b=À o :=
 PySem.W.hideAll_get _ e λa=>by
  let q:(H b).isSome=Á:=(aeJ.mp a).2;rw[n] at q;simp at q
def OB(e:(A5 h H).get? b=À o):h.get? b=À o/\H b=none:=by
 let a:h.get? b=À o:=PySem.W.of_hideAll (Wy h H) e;show#[a,?_];cases q:H b with
 |none=>rfl
 |some x =>
  let c:b∈Wy h H:=aeJ.mpr #[aeY.mpr (ē a),by simp[q]];let z:(A5 h H).get? b=none:=PySem.W.hideAll_none (Wy h H) c;rw[z] at e;cases e
structure Mod(K:Ã)(mg:Ì->Option Å)(base:Û):Prop where
 kin:K.In base
 glob:base.Ns É mg
 blt:∃mb,base.Ns builtinsNs mb/\∀x:Ì,x≠"__name__"->mb x=Ĝ x
 nolimit:base.NoLimit
/-- the context: a def's body (or a comprehension's block) running. base: fixed through the whole law; s₀, H₀: the entry; outer: the frames whose slots others may change (a def's callers); stack: all frames that run;
   ex: iterators that were made ahead of the entry and are walked here (a comprehension's);fn: the names whose cells were made at the entry (a def: all;a comprehension's block: YU own);calm: not within an except suite;pn: ZB that every state bears;xe: what is wanted of an exception that leaves the code -/
structure Cx where
 prog:Ð
 w:Ø
 K:Ã
 mg:Ì->Option Å
 base:Û
 A:å
 N:List Ì
 s₀:Æ
 H₀:Hp
 env:ő
 outer:List ő
 stack:List ő
 ex:List Ç
 fn:Ì->Bool
 calm:Bool
 pn:List (Ç×ÿ)
 xe:Å->Æ->Prop
variable{X:Cx}
def xO(l:List ő):List Ç:=l.filterMap (·.frame)
abbrev Cx.fs(X:Cx):List Ç:=xO X.outer
def Nm(a:Ć)(x:Ì):Prop:=a.names.lookup x=À .local\/a.names.lookup x=À .cell\/a.names.lookup x=À .free
def Loc(a:Ć)(x:Ì):Prop:=a.names.lookup x=À .local\/a.names.lookup x=À .cell
def Look(env:ő)(h:Û)(m:Ì->Option Å)(x:Ì)(u:Å):Prop :=
 (env.kindOf x=À .local/\m x=À u)\/((env.kindOf x=À .cell\/env.kindOf x=À .free)/\∃c,env.cells.lookup x=À c/\h.IsCell c (À u))
structure Cx.Ok(X:Cx):Prop where
 mod:Mod X.K X.mg X.base
 kind:X.env.scope.kind=.function
 glob:X.env.globals=É
 blt:X.env.builtins=builtinsNs
 above:X.s₀⁻¹<=X.env.locals
 inj:∀x y c,X.env.cells.lookup x=À c->X.env.cells.lookup y=À c->x=y
 has:∀x,(X.env.kindOf x=À .cell\/X.env.kindOf x=À .free)->∃c,X.env.cells.lookup x=À c
 cab:∀x c,X.fn x=Á->X.env.cells.lookup x=À c->X.s₀⁻¹<=c
 hd:X.calm=Á->X.A.handled=none
 frames:X.A.frames=À X.stack
 stk:X.stack=X.outer\/(X.stack=X.env::X.outer/\X.env.frame=À X.env.locals)
 exf:∀b∈X.ex,b≠X.env.locals/\∀x c,X.env.cells.lookup x=À c->c≠b
 bs:∀b o,X.base.get? b=À o->X.s₀.heap.get? b=À o/\X.H₀ b=none
 bsz:X.base.objs.size<=X.s₀⁻¹
 noex:∀b o,X.base.get? b=À o->b∉X.ex
 exfs:∀b∈X.ex,b∉X.fs
 oS:X.s₀.heap.FunFrames X.base X.outer
 frf:∀b∈X.fs,X.H₀ b=none
structure Inv(X:Cx)(ZB:List (Ç×ÿ))(Y:List (Option V))(H:Hp)(s:Æ):Prop where
 ok:X.Ok
 os:s.os=X.s₀.os
 bare:Ĵ s.gens
 base:Un X.fs X.ex X.H₀ H X.s₀.heap s.heap
 loc:∃m,s.heap.Ns X.env.locals m/\∀(i:Nat) (x:Ì) (v:V),X.N[i]?=À x->Y[i]?=À (À v)->Nm X.env.scope x->∃u,RelV v u/\Look X.env s.heap m x u
 cell:∀x c,X.env.cells.lookup x=À c->∃v,s.heap.IsCell c v
 free:H X.env.locals=none
 freeC:∀x c,X.env.cells.lookup x=À c->H c=none
 pin:∀p∈X.pn++ZB,s.heap.get? p.1=À p.2/\H p.1=none/\p.1≠X.env.locals/\p.1∉X.fs/\∀v,p.2.data≠.cell v
 hok:vo X.prog X.w H s.heap
 len: ~~~Y= ~~~X.N
section
variable{X:Cx}{ZB:List (Ç×ÿ)}{Y:List (Option V)}{H H':Hp}{s:Æ}{h':Û}
def Cx.Ok.Xb(ok:X.Ok)(e:X.base.get? b=À o):b∉X.fs:=λa=>by
 let:=(ok.oS.mem a).1;rw[e] at this;cases this
def Inv.bs(I:Inv X ZB Y H s):∀b o,X.base.get? b=À o->s.heap.get? b=À o/\H b=none:=λb o e =>
 #[I.base.keep b o (I.ok.bs b o e).1 (I.ok.bs b o e).2 (I.ok.Xb e) (I.ok.noex b o e),I.base.free b o (I.ok.bs b o e).1 (I.ok.bs b o e).2 (I.ok.noex b o e)]
def Inv.bk(I:Inv X ZB Y H s):∀b o,X.base.get? b=À o->s.heap.get? b=À o:=λb o e=>(I.bs b o e).1
def Inv.mod(I:Inv X ZB Y H s):Mod X.K X.mg X.base:=I.ok.mod
def Inv.Jd(I:Inv X ZB Y H s):X.K.In s.heap:=I.ok.mod.kin.keeps I.bk
def Inv.lt(I:Inv X ZB Y H s):X.env.locals<s⁻¹:=let #[_,hn,_]:=I.loc;hn.lt
def Inv.sz(I:Inv X ZB Y H s):X.s₀⁻¹<=s⁻¹:=Ń I.ok.above (ź I.lt)
def Inv.Xq(I:Inv X ZB Y H s)(h:s⁻¹<=a):a∉X.fs:=λc=>by
 let⟨_,o,b,_⟩:=I.ok.oS.mem c;show absurd (ř (ē b) (Ń I.sz h)) (agg _)
def Inv.Ni(I:Inv X ZB Y H s):∀x c,X.env.cells.lookup x=À c->c≠X.env.locals:=λx c e z=>by
 let⟨v,o,f,d⟩:=I.cell x c e;let⟨m,⟨o',es,ep,b,a,_⟩,_⟩:=I.loc;rw[z,b] at f;cases f;rw[a] at d;cases d
def Inv.oS(I:Inv X ZB Y H s):s.heap.FunFrames X.base X.outer:=by
 let all:∀(l:List ő),(∀b∈xO l,b∈X.fs)->X.s₀.heap.FunFrames X.base l->s.heap.FunFrames X.base l:=by
  intro l
  induction l with
  |nil=>intro _ _;trivial
  |cons env r j =>
   intro f k;let⟨i,⟨L,o,d,n,h,g⟩,m⟩:=k;let a:L∈X.fs:=f L (by delta xO;rw[ahF,d];show ġ);let⟨sl,e⟩:=I.base.slot L o h (I.ok.frf L a) a λz=>I.ok.exfs L z a;show#[i,#[L,_,d,n,e,g],j (λb c=>f b (by delta xO;rw[ahF,d];show ę _ c)) m]
 show all X.outer (λ_ c=>c) I.ok.oS
def Inv.stack(I:Inv X ZB Y H s):s.heap.FunFrames X.base X.stack:=by
 obtain e|⟨e,b⟩:=I.ok.stk
 .rw[e];show I.oS
 .rw[e];let⟨m,a,_⟩:=I.loc;show .cons (by rw[I.ok.kind];decide) b a ?_ I.oS;show η (Ń I.ok.bsz I.ok.above)
def Inv.xa(I:Inv X ZB Y H s):∀b∈xO X.stack,b∈X.env.locals::X.fs:=λb a=>by
 obtain e|⟨e,c⟩:=I.ok.stk
 .rw[e] at a;show ę _ a
 .rw[e] at a;delta xO at a;rwa[ahF,c] at a
def Inv.A6(I:Inv X ZB Y H s):∀b∈xO X.stack,H b=none:=λb a=>by
 obtain e|a:=đ.mp (I.xa b a)
 .rw[e];show I.free
 .let⟨_,o,c,_⟩:=I.ok.oS.mem a;show I.base.free b o c (I.ok.frf b a) λz=>I.ok.exfs b z a
def Inv.step{g':Array GenState}{d':Drawn}(I:Inv X ZB Y H s)
  (f:∀b∈ch,(b∈X.ex\/X.s₀⁻¹<=b)/\b≠X.env.locals/\(∀x c,X.env.cells.lookup x=À c->c≠b)/\∀p∈X.pn++ZB,p.1≠b)
  (keep:∀b o,b≠X.env.locals->b∉X.fs->b∉ch->s.heap.get? b=À o->H b=none->h'.get? b=À o)
  (slot:∀b o,b≠X.env.locals->b∈X.fs->b∉ch->s.heap.get? b=À o->H b=none->∃sl,h'.get? b=À {o with slots:=sl}) (free:∀b o,b∉ch->s.heap.get? b=À o->H b=none->H' b=none)
  (there:∀b o,b∉ch->s.heap.get? b=À o->∃o',h'.get? b=À o')
  (B:∀b xs,H b=À (.tup xs)->H' b=À (.tup xs)) (C:∀b o u,H b=À (.frz o u)->H' b=À (.frz o u)) (A:∀b ps,H b=À (.tbl ps)->∃more,H' b=À (.tbl (ps++more)))
  (ns:∀m,s.heap.Ns X.env.locals m->h'.Ns X.env.locals m) (F:vo X.prog X.w H' h') (α:Ĵ g'):
  Inv X ZB Y H' {s with heap:=h',gens:=g',drawn:=d',toks:=t'}:=by
 let y:∀b o,X.s₀.heap.get? b=À o->b≠X.env.locals:=λb o e=>Ķ (ř (ē e) I.ok.above)
 let h:∀b o,X.s₀.heap.get? b=À o->b∉X.ex->b∉ch:=λb o e a j=>by
  rcases(f b j).1 with z|z
  .show a z
  .show absurd (ř (ē e) z) (agg _)
 let cellK:∀x c,X.env.cells.lookup x=À c->∀v,s.heap.IsCell c v->h'.IsCell c v:=λx c e v ⟨o,t,E⟩=>by
  let g:c∉ch:=λz=>(f c z).2.2.1 x c e rfl;by_cases G:c∈X.fs
  .let⟨sl,q⟩:=slot c o (I.Ni x c e) G g t (I.freeC x c e);show#[_,q,E]
  .show#[o,keep c o (I.Ni x c e) G g t (I.freeC x c e),E]
 show#[I.ok,I.os,α,#[λb o e n j a=>?_,λb o e n j a=>?_,λb o e n a=>?_,λb o e a=>?_,λb xs e=>B b xs (I.base.tups b xs e),λb o xs e=>C b o xs (I.base.frzs b o xs e),λb ps e=>?_],?_,λx c e=>?_,?_,λx c e=>?_,λp hp=>?_,F,I.len]
 .show keep b o (y b o e) j (h b o e a) (I.base.keep b o e n j a) (I.base.free b o e n a)
 .let⟨sl,e1⟩:=I.base.slot b o e n j a;let⟨D,e2⟩:=slot b _ (y b o e) j (h b o e a) e1 (I.base.free b o e n a);show#[D,e2]
 .let⟨o',e1⟩:=I.base.there b o e a;show free b o' (h b o e a) e1 (I.base.free b o e n a)
 .let⟨o',e1⟩:=I.base.there b o e a;show there b o' (h b o e a) e1
 .let⟨K,e1⟩:=I.base.tbls b ps e;let⟨L,e2⟩:=A b _ e1;show#[K++L,by rw[e2,ώ]]
 .let⟨m,O,N⟩:=I.loc;show#[m,ns m O,λi x v e1 e2 e3=>?_];let⟨u,r,l⟩:=N i x v e1 e2 e3;show#[u,r,?_];obtain l|⟨k,c,e,z⟩:=l
  .show .inl l
  .show .inr #[k,c,e,cellK x c e _ z]
 .let⟨v,z⟩:=I.cell x c e;show#[v,cellK x c e v z]
 .let⟨m,⟨o,_,_,t,_⟩,_⟩:=I.loc;show free _ o (λz=>(f _ z).2.1 rfl) t I.free
 .let⟨v,o,t,E⟩:=I.cell x c e;show free c o (λz=>(f c z).2.2.1 x c e rfl) t (I.freeC x c e)
 .let⟨e,n,ne,J,d⟩:=I.pin p hp;let g:p.1∉ch:=λz=>(f p.1 z).2.2.2 p hp rfl;show#[keep p.1 p.2 ne J g e n,free p.1 p.2 g e n,ne,J,d]
def Inv.un(I:Inv X ZB Y H s)(u:Un X.fs [] H H' s.heap h')(c:vo X.prog X.w H' h'):Inv X ZB Y H' {s with heap:=h',toks:=t'}:=by
 let⟨m,⟨o,es,ep,h,r⟩,_⟩:=id I.loc;let⟨sl,i⟩:=u.any h I.free .c
 show I.step (g':=s.gens) (d':=s.drawn) (ch:=[]) (λ_ z=>nomatch z) (λb o _ d _ e n=>u.keep b o e n d .c) (λb o _ d _ e n=>u.slot b o e n d .c) (λb o _ e n=>u.free b o e n .c) (λb o _ e=>u.there b o e .c) u.tups u.frzs u.tbls (λk j=>by
  let⟨o',f,g,a,r'⟩:=j;rw[h] at a;cases a
  show#[_,f,g,i,r']) c I.bare
def Inv.call{g':Array GenState}{d':Drawn}(I:Inv X ZB Y H s)(u:Un (xO X.stack) ch H H' s.heap h')(i:vo X.prog X.w H' h')(l:Ĵ g')
  (d:∀b∈ch,(b∈X.ex\/X.s₀⁻¹<=b)/\b≠X.env.locals/\(∀x c,X.env.cells.lookup x=À c->c≠b)/\∀p∈X.pn++ZB,p.1≠b):
  Inv X ZB Y H' {s with heap:=h',gens:=g',drawn:=d',toks:=t'}:=by
 let⟨m,⟨o,es,ep,k,r⟩,_⟩:=id I.loc;let⟨sl,g⟩:=u.any k I.free λz=>(d _ z).2.1 rfl
 show I.step (ch:=ch) d (λb o g q a e n=>u.keep b o e n (λz=>(đ.mp (I.xa b z)).elim g q) a) (λb o _ _ a e n=>u.any e n a) (λb o a e n=>u.free b o e n a) (λb o a e=>u.there b o e a) u.tups u.frzs u.tbls (λv t=>by
  let⟨o',j,h,f,r'⟩:=t;rw[k] at f;cases f
  show#[_,j,h,g,r']) i l
def Inv.turned{a:Ç}(I:Inv X ZB Y H s)(k:∀b o,b≠a->s.heap.get? b=À o->h'.get? b=À o)(t:H a=none)(g:a≠X.env.locals)
  (h1:a∈X.ex\/X.s₀⁻¹<=a) (h2:∀x c,X.env.cells.lookup x=À c->c≠a) (l:∀p∈X.pn++ZB,p.1≠a):Inv X ZB Y H {s with heap:=h',toks:=t'}:=by
 let f:∀b u,H b=À u->b≠a:=λb u e z=>by rw[z,t] at e;cases e
 show I.step (g':=s.gens) (d':=s.drawn) (ch:=[a]) (λb i=>?_) (λb o _ _ d e _=>k b o (λz=>d (by simp[z])) e) (λb o _ _ d e _=>#[o.slots,k b o (λz=>d (by simp[z])) e]) (λ_ _ _ _ n=>n)
  (λb o d e=>#[o,k b o (λz=>d (by simp[z])) e]) (λ_ _ e=>e) (λ_ _ _ e=>e) (λb ps e=>#[#[],by rw[e];simp]) (λm j=>?_) (λb u e=>?_) I.bare
 .let e:b=a:=by simpa using i
  subst e;show#[h1,g,h2,l]
 .let⟨o,es,ep,h,r⟩:=j;show#[o,es,ep,k _ o (œ g) h,r]
 .show(I.hok b u e).ye (λc v d q=>k c v ?_ q) (λ_ q=>q) λ_ _ q=>q;obtain z|z:=d
  .rw[z];show f b u e
  .show f c _ z
def Inv.tok(I:Inv X ZB Y H s)(t:Nat):Inv X ZB Y H {s with toks:=t}:=I.un (h':=s.heap) (t':=t) Un.refl I.hok
def Inv.kept{t':Nat}(I:Inv X ZB Y H s)(k:∀b u,s.heap.get? b=À u->h'.get? b=À u):Inv X ZB Y H {s with heap:=h',toks:=t'}:=I.un (Un.kept k) (I.hok.kept k)
def Inv.laid{a:Ç}{o:HO}{t':Nat}(I:Inv X ZB Y H s)(k:∀b u,s.heap.get? b=À u->h'.get? b=À u)(hp:s⁻¹<=a)(new:gW X.prog X.w (upd H a o) h' a o):
  Inv X ZB Y (upd H a o) {s with heap:=h',toks:=t'}:=I.un (Un.laid k hp (I.hok.fresh hp)) (I.hok.laid k hp new)
def Inv.write{x e:Ç}{o:HO}{t':Nat}(I:Inv X ZB Y H s)(c:Wq (H x))(he:e=x\/H e=À (.own x))(k:∀b u,b≠e->s.heap.get? b=À u->h'.get? b=À u)(a:∃u,h'.get? e=À u)
  (new:gW X.prog X.w (upd H x o) h' x o):Inv X ZB Y (upd H x o) {s with heap:=h',toks:=t'}:=I.un (Un.write c he k a) (I.hok.write c he k a new)
def Inv.weak{Y':List (Option V)}(I:Inv X ZB Y H s)(a: ~~~Y'= ~~~Y)(w:∀(i:Nat) v,Y'[i]?=À (À v)->Y[i]?=À (À v)):Inv X ZB Y' H s :=
 #[I.ok,I.os,I.bare,I.base,let #[m,hn,hl']:=I.loc;#[m,hn,λi x v e1 e2 e3=>hl' i x v e1 (w i v e2) e3],I.cell,I.free,I.freeC,I.pin,I.hok,a.trans I.len]
def Inv.rG{a:List (Ç×ÿ)}(I:Inv X ZB Y H s)(h:∀p∈a,s.heap.get? p.1=À p.2/\H p.1=none/\p.1≠X.env.locals/\p.1∉X.fs/\∀v,p.2.data≠.cell v):Inv X a Y H s :=
 #[I.ok,I.os,I.bare,I.base,I.loc,I.cell,I.free,I.freeC,λp hp=>(aen.mp hp).elim (λz=>I.pin p (ϑ _ z)) (h p),I.hok,I.len]
def xt{N:List Ì}(c:N.Nodup){j:Nat}(a:N[i]?=À x)(b:N[j]?=À x):i=j:=by
 let⟨h1,e1⟩:=adU.mp a;let⟨h2,e2⟩:=adU.mp b;show(List.getElem_inj c).mp (e1.trans e2.symm)
def Ie{E:Å->Æ->Prop}{Q:Unit->Æ->Prop}(I:Inv X ZB Y H s)(hN:X.N.Nodup)(hi:X.N[i]?=À x)(l:Loc X.env.scope x)(r:RelV v u)
  (h:∀s',Inv X ZB (Y.set i (À v)) H s'->(∃a,ĳ a s.heap s'.heap/\(a=X.env.locals\/X.env.cells.lookup x=À a))->Q () s') (hf:X.fn x=Á\/X.env.scope.names.lookup x=À .local<|>zrf):Ë α A (storeName X.env x u) Q E s:=by
 let⟨m,W,hl⟩:=id I.loc;let K:(X.env.scope.kind==.class || (X.env.scope.kind==.module&&X.env.locals != X.env.globals))=Â:=by rw[I.ok.kind];rfl
 let G:i<~~~Y:=by rw[I.len];show(adU.mp hi).1
 let Ni:=I.Ni
 let tracked:∀{a:Ç} {h':Û},(∃o,s.heap.get? a=À o/\H a=none)->ĳ a s.heap h'->vo X.prog X.w H h':=λ{a h'} ha f b ob e=>by
  let⟨_,_,t⟩:=ha;show(I.hok b ob e).ye (λc R g q=>(f.2 c ?_).trans q) (λ_ q=>q) λ_ _ q=>q;rintro rfl;obtain rfl|g:=g
  .rw[t] at e;cases e
  .rw[t] at g;cases g
 obtain B|B:=l
 .show wpAny_storeName_local B W (λh' T f=>?_) K;let⟨oL,_,_,σ,_⟩:=id W;show h _ #[I.ok,I.os,I.bare,#[λb o e n C l=>?_,λb o e n C l=>?_,I.base.free,λb o e l=>?_,I.base.tups,I.base.frzs,I.base.tbls],#[_,T,λj y Γ e1 e2 e3=>?_],λy c e=>?_,I.free,I.freeC,λp hp=>?_,tracked #[oL,σ,I.free] f,↑I.len] #[_,f,.inl rfl]
  .show(f.2 b (Ķ (ř (ē e) I.ok.above))).trans (I.base.keep b o e n C l)
  .let⟨sl,e1⟩:=I.base.slot b o e n C l;show#[sl,(f.2 b (Ķ (ř (ē e) I.ok.above))).trans e1]
  .let⟨o',e1⟩:=I.base.there b o e l;show#[o',(f.2 b (Ķ (ř (ē e) I.ok.above))).trans e1]
  .by_cases D:j=i
   .subst D;rw[hi] at e1;cases e1;rw[af3 G] at e2;cases e2;show#[u,r,.inl #[B,.c]]
   .rw[afb (œ D)] at e2;let⟨S,r',q⟩:=hl j y Γ e1 e2 e3;show#[S,r',?_];obtain⟨k,e⟩|⟨k,c,e,z⟩:=q
    .show .inl #[k,?_];let:y≠x:=λe=>D (xt hN e1 (e▸hi));simp[this,e]
    .show .inr #[k,c,e,z.sameBut f (Ni y c e)]
  .let⟨R,z⟩:=I.cell y c e;show#[R,z.sameBut f (Ni y c e)]
  .let⟨e,n,ne,V,d⟩:=I.pin p hp;show#[(f.2 p.1 ne).trans e,n,ne,V,d]
 .let F:X.fn x=Á:=by
   obtain z|z:=hf
   .show z
   .rw[z] at B;cases B
  let⟨c,g⟩:=I.ok.has x (.inl B);let⟨R,z⟩:=I.cell x c g;show wpAny_storeName_cell I.ok.kind B g z (λh' P f=>?_);let⟨Z,L,O⟩:=id z;show h {s with heap:=h'} #[I.ok,I.os,I.bare,#[λb o e n C l=>?_,λb o e n C l=>?_,I.base.free,λb o e l=>?_,I.base.tups,I.base.frzs,I.base.tbls],#[m,W.sameBut f (œ (Ni x c g)),λj y Γ e1 e2 e3=>?_],λy c' e=>?_,I.free,I.freeC,λp hp=>?_,tracked #[Z,L,I.freeC x c g] f,↑I.len] #[c,f,.inr g]
  .show(f.2 b (Ķ (ř (ē e) (I.ok.cab x c F g)))).trans (I.base.keep b o e n C l)
  .let⟨sl,e1⟩:=I.base.slot b o e n C l;show#[sl,(f.2 b (Ķ (ř (ē e) (I.ok.cab x c F g)))).trans e1]
  .let⟨o',e1⟩:=I.base.there b o e l;show#[o',(f.2 b (Ķ (ř (ē e) (I.ok.cab x c F g)))).trans e1]
  .by_cases D:j=i
   .subst D;rw[hi] at e1;cases e1;rw[af3 G] at e2;cases e2;show#[u,r,.inr #[.inl B,c,g,P]]
   .rw[afb (œ D)] at e2;let⟨S,r',q⟩:=hl j y Γ e1 e2 e3;show#[S,r',?_];obtain q|⟨k,c',e,z'⟩:=q
    .show .inl q
    .show .inr #[k,c',e,z'.sameBut f ?_];rintro rfl;show D (xt hN e1 (I.ok.inj _ _ _ e g▸hi))
  .by_cases J:c'=c
   .subst J;show#[_,P]
   .let⟨w2,z2⟩:=I.cell y c' e;show#[w2,z2.sameBut f J]
  .let⟨e,n,ne,V,d⟩:=I.pin p hp;show#[(f.2 p.1 ?_).trans e,n,ne,V,d];intro q;rw[q,L] at e;let q':Z=p.2:=ķ e;show d R (by rwa[<-q'])
def vB{E:Å->Æ->Prop}{Q:Unit->Æ->Prop}(I:Inv X ZB Y H s)(a:X.N.Nodup)(hi:X.N[i]?=À x)(c:Loc X.env.scope x)(r:RelV v u)
  (h:∀s',Inv X ZB (Y.set i (À v)) H s'->Q () s') (d:X.fn x=Á\/X.env.scope.names.lookup x=À .local<|>zrf):Ë α A (storeName X.env x u) Q E s :=
 Ie I a hi c r (λs' b _=>h s' b) d
def Inv.Qy{s':Æ}(I:Inv X ZB Y H s)(f:s'.os=s.os)(u:Un (xO X.stack) ch H H' s.heap s'.heap)(d:vo X.prog X.w H' s'.heap)(g:Ĵ s'.gens)
  (a:∀b∈ch,(b∈X.ex\/X.s₀⁻¹<=b)/\b≠X.env.locals/\(∀x c,X.env.cells.lookup x=À c->c≠b)/\∀p∈X.pn++ZB,p.1≠b):Inv X ZB Y H' s':=by
 let⟨h',g',d',t',o'⟩:=s';let e:o'=s.os:=f;subst e;show I.call (g':=g') (t':=t') (d':=d') u d g a
end
abbrev XK:=Å->Option Ç->Hp->Prop
abbrev St:=List (Option V)
variable{Y:St}
abbrev VK:=V->Hp->Prop
variable{Q:VK}
abbrev TE:=St->Hp->VK->Prop
abbrev TT:=St->Hp->(Bool->Hp->Prop)->Prop
abbrev TA:=St->Hp->(List V->Hp->Prop)->Prop
structure Ends where
 nx:St->Hp->Prop
 rt:VK
 bk:St->Hp->Prop:=λ_ _=>False
 ct:St->Hp->Prop:=λ_ _=>False
abbrev TS:=Ends->St->Hp->Prop
variable{tb:TS}
def EP(X:Cx)(ZB:List (Ç×ÿ))(Y:St)(Q:VK)(u:Å)(s':Æ):Prop:=∃v H',Inv X ZB Y H' s'/\RelV v u/\Q v H'
def TP(X:Cx)(ZB:List (Ç×ÿ))(Y:St)(Q:Bool->Hp->Prop)(b:Bool)(s':Æ):Prop:=∃H',Inv X ZB Y H' s'/\Q b H'
def AP(X:Cx)(ZB:List (Ç×ÿ))(Y:St)(Q:List V->Hp->Prop)(us:List Å)(s':Æ):Prop:=∃vs H',Inv X ZB Y H' s'/\Vals vs us/\Q vs H'
def SP(X:Cx)(ZB:List (Ç×ÿ))(D:Ends)(f:Flow)(s':Æ):Prop :=
 match f with
 |.next=>∃Y' H',Inv X ZB Y' H' s'/\D.nx Y' H'
 |.brk=>∃Y' H',Inv X ZB Y' H' s'/\D.bk Y' H'
 |.cont=>∃Y' H',Inv X ZB Y' H' s'/\D.ct Y' H'
 |.ret u=>∃v Y' H',Inv X ZB Y' H' s'/\RelV v u/\D.rt v H'
def PE(X:Cx)(e:Ô)(t:TE):Prop :=
 ∀(ZB:List (Ç×ÿ)) (s:Æ) (Y:St) (H:Hp) (Q:VK),Inv X ZB Y H s->t Y H Q->Ë .E X.A (Õ e X.env) (EP X ZB Y Q) X.xe s
def PT(X:Cx)(e:Ô)(t:TT):Prop :=
 ∀(ZB:List (Ç×ÿ)) (s:Æ) (Y:St) (H:Hp) (Q:Bool->Hp->Prop),Inv X ZB Y H s->t Y H Q->Ë .E X.A (Ϧ e X.env (Õ e X.env)) (TP X ZB Y Q) X.xe s
def PW(X:Cx)(e:Ô)(t:TT):Prop :=
 ∀(whole:Sem Å) (ZB:List (Ç×ÿ)) (s:Æ) (Y:St) (H:Hp) (Q:Bool->Hp->Prop),Inv X ZB Y H s->t Y H Q->Ë .E X.A (Ϧ e X.env whole) (TP X ZB Y Q) X.xe s
def PW.pt{t:TT}(h:PW X e t):PT X e t:=h _
def PA(X:Cx)(es:List Ô)(t:TA):Prop :=
 ∀(pos:ð) (ZB:List (Ç×ÿ)) (s:Æ) (Y:St) (H:Hp) (Q:List V->Hp->Prop),Inv X ZB Y H s->t Y H Q->Ë .E X.A (spliced (ã pos (Ä es X.env))) (AP X ZB Y Q) X.xe s
def PS(X:Cx)(st:Ï)(t:TS):Prop :=
 ∀(ZB:List (Ç×ÿ)) (s:Æ) (Y:St) (H:Hp) (D:Ends),Inv X ZB Y H s->t D Y H->Ë .E X.A (exec st X.env) (SP X ZB D) X.xe s
def ui(X:Cx)(st:List Ï)(t:TS):Prop :=
 ∀(ZB:List (Ç×ÿ)) (s:Æ) (Y:St) (H:Hp) (D:Ends),Inv X ZB Y H s->t D Y H->Ë .E X.A (execs st X.env) (SP X ZB D) X.xe s
def cK{M:Type}{t:Sem M}{Q b:M->Æ->Prop}{E:Å->Æ->Prop}(h:Ë α A t Q E s)(c:∀a s,Q a s->b a s):Ë α A t b E s:=Ρ h c λ_ _ x=>x
section
variable{X:Cx}
def VX(i:Nat):TE:=λY H Q=>∃v,Y[i]?=À (À v)/\Q v H
def tC(v:V):TE:=λ_ H Q=>Q v H
def QX{pos:ð}(k:X.N[i]?=À x)(j:Nm X.env.scope x)(d:(x==("__debug__":Ì))=Â<|>zrb)(f:(x==("__classdict__":Ì))=Â<|>zrb):PE X (.Name x pos) (VX i):=by
 intro ZB s Y H Q I h;let⟨v,e,h⟩:=h;let⟨m,p,n⟩:=I.loc;let⟨u,r,l⟩:=n i x v k e j;let fin:EP X ZB Y Q u s:=#[v,H,I,r,h];obtain⟨b,o⟩|⟨b,c,g,a⟩:=l
 .show wpAny_Name (wpAny_loadName_local I.ok.kind b p o fin) d
 .obtain b|b:=b
  .show wpAny_Name (wpAny_loadName_cell I.ok.kind b g a fin) d
  .show wpAny_Name (wpAny_loadName_free I.ok.kind b g a fin f) d
def RG{i j pos}:PE X (.Constant (.int i) j pos) (tC (.int i)):=λ_ _ _ H _ I h=>wpAny_Constant_int #[.int i,H,I.tok _,#[_,rfl],h]
def UT{b j pos}:PE X (.Constant (.bool b) j pos) (tC (.bl b)):=λ_ _ _ H _ I h=>Constant_bool #[.bl b,H,I,rfl,h]
def Sj{j pos}:PE X (.Constant .none j pos) (tC .non):=λ_ _ _ H _ I h=>ό #[.non,H,I,rfl,h]
def K5{x j pos}:PE X (.Constant (.str x) j pos) (tC (.str x)):=λ_ _ _ H _ I h=>Calls.Constant_str #[.str x,H,I.tok _,#[_,rfl],h]
def Gl(X:Cx)(x:Ì):Prop:=X.env.kindOf x=À .globalImplicit
def oI{E:Å->Æ->Prop}{pos:ð}{Q:Å->Æ->Prop}(I:Inv X ZB Y H s)(c:Gl X x)(a:X.mg x=À u)(h:Q u s)
  (b:(x==("__debug__":Ì))=Â<|>zrb):Ë .E X.A (Õ (.Name x pos) X.env) Q E s :=
 ahR I.ok.kind c (Calls.loadGlobal_global (by rw[I.ok.glob];show I.mod.glob.keeps I.bk) a h) b
def je{E:Å->Æ->Prop}{pos:ð}{Q:Å->Æ->Prop}(I:Inv X ZB Y H s)(d:Gl X x)(b:X.mg x=none)(c:Ĝ x=À u)(h:Q u s)
  (e:x≠"__name__"<|>zrb) (a:(x==("__debug__":Ì))=Â<|>zrb):Ë .E X.A (Õ (.Name x pos) X.env) Q E s:=by
 let⟨f,h1,h2⟩:=I.mod.blt;show ahR I.ok.kind d (Calls.loadGlobal_builtin (by rw[I.ok.glob];show I.mod.glob.keeps I.bk) b (by rw[I.ok.blt];show h1.keeps I.bk) ((h2 x e).trans c) h) a
def zx{pos:ð}(c:Gl X x)(b:X.mg x=À u)(r:RelV v u)(a:(x==("__debug__":Ì))=Â<|>zrb):PE X (.Name x pos) (tC v) :=
 λ_ _ _ H _ I h=>oI I c b #[v,H,I,r,h] a
def NW{pos:ð}(d:Gl X x)(b:X.mg x=none)(c:Ĝ x=À u)(r:RelV v u)(e:x≠"__name__"<|>zrb)(a:(x==("__debug__":Ì))=Â<|>zrb):PE X (.Name x pos) (tC v) :=
 λ_ _ _ H _ I h=>je I d b c #[v,H,I,r,h] e a
variable{a b:Ô}{ta tb:TE}{pos:ð}
def PC(X:Cx)(op:ũ)(a b:Ô)(t:TE):Prop :=
 ∀(ZB:List (Ç×ÿ)) (s:Æ) (Y:St) (H:Hp) (Q:VK),Inv X ZB Y H s->t Y H Q ->
  Ë .E X.A (Õ a X.env) (λv c=>Ë .E X.A (Õ b X.env) (λu d=>Ë .E X.A (ç op v u) (EP X ZB Y Q) X.xe d) X.xe c) X.xe s
def Bp(b:Ô)(h:op≠.In)(h2:op≠.NotIn):ü op b=Â:=by
 let e1:(op==CmpOp.In)=Â:=by cases op<;>first|rfl|show absurd rfl h
 let e2:(op==CmpOp.NotIn)=Â:=by cases op<;>first|rfl|show absurd rfl h2
 cases b<;>simp[ü,e1,e2]
def XB(ta:TE):TE:=λY H Q=>ta Y H λx H1=>Q (.bl (decide (x=.non))) H1
def Vn(ta:TE):TE:=λY H Q=>ta Y H λx H1=>Q (.bl (!decide (x=.non))) H1
def RelV.Ct{x:V}{v:Å}(r:RelV x v):(v==ā)=decide (x=.non):=by
 cases x with
 |non=>cases r;rfl
 |bl _=>cases r;rfl
 |int _=>let⟨t,rfl⟩:=r;rfl
 |str _=>let⟨t,rfl⟩:=r;rfl
 |byt _=>let⟨t,rfl⟩:=r;rfl
 |flt _=>let⟨t,rfl⟩:=r;rfl
 |ref _=>cases r;rfl
 |ty _=>cases r;rfl
def K7{j pos'}(ha:PE X a ta):PC X .Is a (.Constant .none j pos') (XB ta):=by
 intro ZB s Y H Q I h;show cK (ha ZB s Y H _ I h) λv e ⟨x,H1,d,c,b⟩=>?_;show ό (is_none_gen #[.bl _,H1,d,by rw[c.Ct];rfl,b])
def AE{j pos'}(ha:PE X a ta):PC X .IsNot a (.Constant .none j pos') (Vn ta):=by
 intro ZB s Y H Q I h;show cK (ha ZB s Y H _ I h) λv e ⟨x,H1,d,c,b⟩=>?_;show ό (isnot_none_gen #[.bl _,H1,d,by rw[c.Ct];rfl,b])
def tB(t:TE):TT:=λY H Q=>t Y H λx H1=>∃c,x=.bl c/\Q c H1
def Ks{t:TE}(h:PC X op a b t)(h1:ü op b=Â):PE X (.Compare a [op] [b] pos) t:=λZB s Y H Q I c=>wpAny_Compare1 (h ZB s Y H Q I c) h1
def D6{t:TE}(h:PC X op a b t)(h1:ü op b=Â):PT X (.Compare a [op] [b] pos) (tB t):=by
 intro ZB s Y H Q I i;show wpAny_isTrue_Compare1 (cK (h ZB s Y H _ I i) λv k h1=>cK h1 λu j h2=>cK h2 λc l ⟨x,H1,e,g,f⟩=>?_) h1;let⟨d,rfl,q⟩:=f;cases g;show ϝ #[H1,e,q]
def Te{t:TE}(h:PE X e t)(he:(∀whole,Ϧ e X.env whole=(do let v <-whole;Ϥ e.pos;Ě [v] (truthy v)))<|>zrc):PT X e (tB t):=by
 intro ZB s Y H Q I f;show isTrue_plain (cK (h ZB s Y H _ I f) λv g ⟨x,H1,a,c,b⟩=>?_) (he _);let⟨d,rfl,q⟩:=b;cases c;show ϝ #[H1,a,q]
variable{tA tB':TT}{rest:List Ô}
def X3(t u:TT):TT:=λY H Q=>t Y H λc H1=>if c=Á then u Y H1 Q else Q Â H1
def Ys(t u:TT):TT:=λY H Q=>t Y H λc H1=>if c=Á then Q Á H1 else u Y H1 Q
def XC(t:TT):TT:=λY H Q=>t Y H λc H1=>Q (!c) H1
def OF(ha:PT X a tA):PW X (.BoolOp .And [a] pos) tA:=by
 intro d ZB s Y H Q I h;show isTrue_and (cK (ha ZB s Y H Q I h) λc b e=>?_);cases c with
 |true=>show isTrue_and_nil e
 |false=>show e
def S5(ha:PT X a tA):PW X (.BoolOp .Or [a] pos) tA:=by
 intro d ZB s Y H Q I h;show isTrue_or (cK (ha ZB s Y H Q I h) λc b e=>?_);cases c with
 |false=>show isTrue_or_nil e
 |true=>show e
def KL(ha:PT X a tA)(i:PW X (.BoolOp .And (b::rest) pos) tB'):PW X (.BoolOp .And (a::b::rest) pos) (X3 tA tB'):=by
 intro f ZB s Y H Q I h;show isTrue_and (cK (ha ZB s Y H _ I h) λc g ⟨H1,e,d⟩=>?_);cases c with
 |true=>show i f ZB g Y H1 Q e d
 |false=>show#[H1,e,d]
def Qw(ha:PT X a tA)(i:PW X (.BoolOp .Or (b::rest) pos) tB'):PW X (.BoolOp .Or (a::b::rest) pos) (Ys tA tB'):=by
 intro f ZB s Y H Q I h;show isTrue_or (cK (ha ZB s Y H _ I h) λc g ⟨H1,e,d⟩=>?_);cases c with
 |true=>show#[H1,e,d]
 |false=>show i f ZB g Y H1 Q e d
def RO(ha:PT X a tA):PT X (.UnaryOp .Not a pos) (XC tA):=by
 intro ZB s Y H Q I h;show isTrue_not (ha ZB s Y H (λc H1=>Q (!c) H1) I h)
def VS(ta tb:TE):TE:=λY H Q=>ta Y H λx H1=>∃c,x=.bl c/\if c=Á then tb Y H1 Q else Q (.bl Â) H1
def Xv(ta tb:TE):TE:=λY H Q=>ta Y H λx H1=>∃c,x=.bl c/\if c=Á then Q (.bl Á) H1 else tb Y H1 Q
def Vf(ta:TE):TE:=λY H Q=>ta Y H λx H1=>∃c,x=.bl c/\Q (.bl (!c)) H1
def Rp{op}{t:TE}(h:PE X a t):PE X (.BoolOp op [a] pos) t:=λZB s Y H Q I b=>BoolOp_one (h ZB s Y H Q I b)
def Lw(ha:PE X a ta)(g:PE X (.BoolOp .And (b::rest) pos) tb):PE X (.BoolOp .And (a::b::rest) pos) (VS ta tb):=by
 intro ZB s Y H Q I h;show BoolOp_and (cK (ha ZB s Y H _ I h) λv f ⟨x,H1,e,i,d⟩=>?_);let⟨c,rfl,d⟩:=d;cases i;show ϝ ?_;cases c with
 |true=>show g ZB f Y H1 Q e d
 |false=>show#[.bl Â,H1,e,rfl,d]
def Qg(ha:PE X a ta)(g:PE X (.BoolOp .Or (b::rest) pos) tb):PE X (.BoolOp .Or (a::b::rest) pos) (Xv ta tb):=by
 intro ZB s Y H Q I h;show BoolOp_or (cK (ha ZB s Y H _ I h) λv f ⟨x,H1,e,i,d⟩=>?_);let⟨c,rfl,d⟩:=d;cases i;show ϝ ?_;cases c with
 |false=>show g ZB f Y H1 Q e d
 |true=>show#[.bl Á,H1,e,rfl,d]
def S7(ha:PE X a ta):PE X (.UnaryOp .Not a pos) (Vf ta):=by
 intro ZB s Y H Q I h;show UnaryOp_ (cK (ha ZB s Y H _ I h) λv f ⟨x,H1,e,d,b⟩=>?_);let⟨c,rfl,b⟩:=b;cases d;show not_of (ϝ #[.bl (!c),H1,e,rfl,b])
def YF(t:TT)(ta tb:TE):TE:=λY H Q=>t Y H λc H1=>if c=Á then ta Y H1 Q else tb Y H1 Q
def rn(j:PT X c tA)(ha:PE X a ta)(i:PE X b tb):PE X (.IfExp c a b pos) (YF tA ta tb):=by
 intro ZB s Y H Q I h;show wpAny_IfExp (cK (j ZB s Y H _ I h) λd f ⟨H1,g,e⟩=>?_);cases d with
 |true=>show ha ZB f Y H1 Q g e
 |false=>show i ZB f Y H1 Q g e
end
def dz(K:Ã)(H:Hp)(a:Ç)(xs:List V):Prop :=
 Rd H a (.lst xs) \/
  ∃(o:ÿ) (YU:Array Å) (n:Nat),K.lookup a=À o/\o.cls=.type "list"/\o.dict=none/\o.data=.seq YU n/\YU.size<=sizeLine/\Vals xs YU.toList
def CJ(K:Ã)(H:Hp)(a:Ç)(xs:List V):Prop :=
 Rd H a (.tup xs) \/
  ∃(o:ÿ) (YU:Array Å) (n:Nat),K.lookup a=À o/\o.cls=.type "tuple"/\o.data=.seq YU n/\YU.size<=sizeLine/\Vals xs YU.toList
noncomputable def Xu:Å->Option V
 |.none=>À .non
 |.bool b=>À (.bl b)
 |.int i _=>À (.int i)
 |.str x _=>À (.str x)
 |.bytes b _=>À (.byt b)
 |.float b _=>À (.flt b)
 |.ref a=>À (.ref a)
 |.type n=>À (.ty n)
 |_=>none
def RelV.abs{x:V}(r:RelV x u):Xu u=À x:=by
 cases x with
 |non=>cases r;rfl
 |bl _=>cases r;rfl
 |int _=>let⟨t,rfl⟩:=r;rfl
 |str _=>let⟨t,rfl⟩:=r;rfl
 |byt _=>let⟨t,rfl⟩:=r;rfl
 |flt _=>let⟨t,rfl⟩:=r;rfl
 |ref _=>cases r;rfl
 |ty _=>cases r;rfl
def RelV.inj{x y:V}{u:Å}(r:RelV x u)(q:RelV y u):x=y:=ķ (r.abs.symm.trans q.abs)
theorem Vals.inj:∀{xs ys:List V} {us:List Å},Vals xs us->Vals ys us->xs=ys
 |_,_,_,.nil,.nil=>rfl
 |_,_,_,.cons r t,.cons r' t'=>by rw[r.inj r',Vals.inj t t']
section
variable{X:Cx}{ZB:List (Ç×ÿ)}{Y:St}{H:Hp}{s:Æ}{a:Ç}{xs ys:List V}
def dz.of(h:H a=À (.lst xs)):dz K H a xs:=.inl (.inl h)
def Inv.list(I:Inv X ZB Y H s)(h:dz X.K H a xs):∃YU:List Å,Vals xs YU/\PlainL s.heap a YU.toArray/\~~~xs<=sizeLine:=by
 obtain h|⟨o,YU,n,d,f,c,b,hz,r⟩:=h
 .let⟨z,YU,n,r,e⟩:=h.ok I.hok;show#[YU,r,#[_,n,e,rfl,rfl,rfl],z]
 .show#[YU.toList,r,#[o,n,I.Jd a o d,f,c,↑b],?_];let e:= ~~~r;simp only[ŝ] at e;lia
def Inv.tuple(I:Inv X ZB Y H s)(h:CJ X.K H a xs):∃YU:List Å,Vals xs YU/\IsTup s.heap a YU.toArray/\~~~xs<=sizeLine:=by
 obtain h|⟨o,YU,n,c,d,b,hz,r⟩:=h
 .let⟨z,YU,r,p⟩:=h.ok I.hok;show#[YU,r,p,z]
 .show#[YU.toList,r,#[o,I.Jd a o c,d,n,↑b],?_];let e:= ~~~r;simp only[ŝ] at e;lia
def Inv.qU(I:Inv X ZB Y H s)(h:dz X.K H a xs)(h':dz X.K H a ys):xs=ys:=by
 let⟨YU,r,⟨o,n,e,_,_,d⟩,_⟩:=I.list h;let⟨its',r',⟨o',c,b,_,_,d'⟩,_⟩:=I.list h';rw[e] at b;cases b;rw[d] at d';injection d' with d1 _;let:YU=its':=by simpa using congrArg Array.toList d1
 subst this;show r.inj r'
def Inv.Hz(I:Inv X ZB Y H s)(h:CJ X.K H a xs)(h':CJ X.K H a ys):xs=ys:=by
 let⟨YU,r,⟨o,e,_,n,d⟩,_⟩:=I.tuple h;let⟨its',r',⟨o',b,_,c,d'⟩,_⟩:=I.tuple h';rw[e] at b;cases b;rw[d] at d';injection d' with d1 _;let:YU=its':=by simpa using congrArg Array.toList d1
 subst this;show r.inj r'
end
abbrev Cx.yi(X:Cx)(E:Å->Æ->Prop):Cx:={X with xe:=E}
abbrev Cx.Qn(X:Cx):Cx:=X.yi λ_ _=>False
def Cx.Ok.yi{X:Cx}(ok:X.Ok)(E:Å->Æ->Prop):(X.yi E).Ok :=
 #[ok.mod,ok.kind,ok.glob,ok.blt,ok.above,ok.inj,ok.has,ok.cab,ok.hd,ok.frames,ok.stk,ok.exf,ok.bs,ok.bsz,ok.noex,ok.exfs,ok.oS,ok.frf]
def Cx.Ok.m9{E:Å->Æ->Prop}(ok:(X.yi E).Ok):X.Ok :=
 #[ok.mod,ok.kind,ok.glob,ok.blt,ok.above,ok.inj,ok.has,ok.cab,ok.hd,ok.frames,ok.stk,ok.exf,ok.bs,ok.bsz,ok.noex,ok.exfs,ok.oS,ok.frf]
section
variable{X:Cx}{ZB:List (Ç×ÿ)}{Y:St}{H:Hp}{s:Æ}{E:Å->Æ->Prop}
def Inv.yi(I:Inv X ZB Y H s)(E:Å->Æ->Prop):Inv (X.yi E) ZB Y H s:=#[I.ok.yi E,I.os,I.bare,I.base,I.loc,I.cell,I.free,I.freeC,I.pin,I.hok,I.len]
def Inv.m9(I:Inv (X.yi E) ZB Y H s):Inv X ZB Y H s:=#[I.ok.m9,I.os,I.bare,I.base,I.loc,I.cell,I.free,I.freeC,I.pin,I.hok,I.len]
def SP.m9{D:Ends}{f:Flow}{s':Æ}(h:SP (X.yi E) ZB D f s'):SP X ZB D f s':=by
 cases f with
 |next=>let⟨Y',H',I,q⟩:=h;show#[Y',H',I.m9,q]
 |brk=>let⟨Y',H',I,q⟩:=h;show#[Y',H',I.m9,q]
 |cont=>let⟨Y',H',I,q⟩:=h;show#[Y',H',I.m9,q]
 |ret u=>let⟨v,Y',H',I,r,q⟩:=h;show#[v,Y',H',I.m9,r,q]
def ui.Qn{st:List Ï}{t:TS}(h:ui X.Qn st t):ui X st t:=λZB s Y H D I a =>
 Ρ (h ZB s Y H D (I.yi _) a) (λ_ _ q=>q.m9) λ_ _ z=>ù z
variable{st:Ï}{rest:List Ï}{t u:TS}{e:Ô}{te:TE}{pos:ð}
def U0:TS:=λD Y H=>D.nx Y H
def XA(t u:TS):TS:=λD Y H=>t {D with nx:=u D} Y H
def EO:ui X [] U0:=λ_ _ Y H _ I h=>aih #[Y,H,I,h]
def gS(h1:PS X st t)(h2:ui X rest u):ui X (st::rest) (XA t u):=by
 intro ZB s Y H D I h;show wpAny_execs_cons (cK (h1 ZB s Y H {D with nx:=u D} I h) λf a q=>?_);cases f with
 |next =>
  let⟨Y',H',b,q⟩:=q;show h2 ZB a Y' H' D b q
 |ret v=>show q
 |brk=>show q
 |cont=>show q
def Inv.quiet{ZB:List (Ç×ÿ)}{Y:St}{H:Hp}{s:Æ}(I:Inv X ZB Y H s):interactive X.env=Â:=by simp[interactive,I.ok.kind]
def U9(te:TE):TS:=λD Y H=>te Y H λ_ H1=>D.nx Y H1
def uZ(he:PE X e te)(b:õ e none pos.line X.env=pure Â<|>zra):PS X (.Expr e pos) (U9 te):=by
 intro ZB s Y H D I h;show wpAny_Expr_any (cK (he ZB s Y H _ I h) λv f ⟨x,H1,c,d,a⟩=>#[Y,H1,c,a]) I.quiet b
def WW(te:TE):TS:=λD Y H=>te Y H D.rt
def CM(he:PE X e te):PS X (.Return (À e) pos) (WW te):=by
 intro ZB s Y H D I h;show wpAny_Return_some (cK (he ZB s Y H _ I h) λv d ⟨x,H1,c,b,a⟩=>#[x,Y,H1,c,b,a])
def W_(c:TT)(t u:TS):TS:=λD Y H=>c Y H λb H1=>if b=Á then t D Y H1 else u D Y H1
def Gv{a b:List Ï}{tc:TT}(j:PT X c tc)(ha:ui X a t)(i:ui X b u):PS X (.If c a b pos) (W_ tc t u):=by
 intro ZB s Y H D I h;show wpAny_If (cK (j ZB s Y H _ I h) λd e ⟨H1,f,g⟩=>?_);cases d with
 |true=>show ha ZB e Y H1 D f g
 |false=>show i ZB e Y H1 D f g
def vI:TS:=λ_ _ _=>False
def fh{a:List Ï}:ui X a vI:=λ_ _ _ _ _ _ h=>h.elim
end
abbrev TG:=V->St->Hp->(St->Hp->Prop)->Prop
variable{g:TG}
abbrev Sv:=List V->St->Hp->(St->Hp->Prop)->Prop
def PG(X:Cx)(target:Ô)(t:TG):Prop :=
 ∀(ZB:List (Ç×ÿ)) (s:Æ) (Y:St) (H:Hp) (v:V) (u:Å) (Q:St->Hp->Prop),Inv X ZB Y H s->RelV v u->t v Y H Q ->
  Ë .E X.A (ď target X.env u) (λ_ s'=>∃Y' H',Inv X ZB Y' H' s'/\Q Y' H') X.xe s
def WC(X:Cx)(a:List Ô)(t:Sv):Prop :=
 ∀(ZB:List (Ç×ÿ)) (s:Æ) (Y:St) (H:Hp) (vs:List V) (us:List Å) (Q:St->Hp->Prop),Inv X ZB Y H s->Vals vs us->t vs Y H Q ->
  Ë .E X.A (assignInOrder ((ä a X.env).map (·.2)) us) (λ_ s'=>∃Y' H',Inv X ZB Y' H' s'/\Q Y' H') X.xe s
abbrev SE:=V->V->V->Hp->(Hp->Prop)->Prop
def UO(X:Cx)(t:SE):Prop :=
 ∀(ZB:List (Ç×ÿ)) (s:Æ) (Y:St) (H:Hp) (o i v:V) (b a u:Å) (Q:Hp->Prop),Inv X ZB Y H s->RelV o b->RelV i a->RelV v u->t o i v H Q ->
  Ë .E X.A (setItem b a u) (λ_ s'=>∃H',Inv X ZB Y H' s'/\Q H') X.xe s
section
variable{X:Cx}{pos:ð}
def ni(i:Nat):TG:=λv Y H Q=>Q (Y.set i (À v)) H
def lF(a:X.N.Nodup)(hi:X.N[i]?=À x)(c:Loc X.env.scope x)(d:X.fn x=Á\/X.env.scope.names.lookup x=À .local<|>zrf):PG X (.Name x pos) (ni i):=by
 intro ZB s Y H v u Q I r h;show wpAny_assign_Name (vB I a hi c r (λs' b=>#[_,H,b,h]) d)
def N2:Sv:=λvs Y H Q=>vs=[]/\Q Y H
def xo(t:TG)(u:Sv):Sv:=λvs Y H Q=>∃v r,vs=v::r/\t v Y H λY' H'=>u r Y' H' Q
def zr:WC X [] N2:=by
 intro ZB s Y H vs us Q I r h;let⟨e,h⟩:=h;subst e;cases r;show assignInOrder_nil #[Y,H,I,h]
def kF{es:List Ô}{t:TG}{u:Sv}(h1:PG X e t)(h2:WC X es u)
  (a:(ä (e::es) X.env).map (·.2)=ď e X.env::(ä es X.env).map (·.2)<|>zra):WC X (e::es) (xo t u):=by
 intro ZB s Y H vs us Q I r h;let⟨v,g,e1,h⟩:=h;subst e1;cases r with
 |cons r b =>
  rw[a];show assignInOrder_cons (cK (h1 ZB s Y H _ _ _ I r h) λ_ c ⟨σ1,H1,d,f⟩=>?_);show h2 ZB c σ1 H1 _ _ Q d b f
def OA(K:Ã)(n:Nat)(t:Sv):TG:=λv Y H Q=>∃a xs,v=.ref a/\CJ K H a xs/\~~~xs=n/\t xs Y H Q
def Eo{es:List Ô}{t:Sv}(q:X.calm=Á)(h:WC X es t)
  (p: ~~~(ä es X.env)=n<|>zra) (c:(ä es X.env).findIdx? (·.1)=none<|>zra):PG X (.Tuple es k pos) (OA X.K n t):=by
 intro ZB s Y H v u Q I r d;let⟨a,xs,e1,g,m,d⟩:=d;subst e1;cases r;let⟨YU,f,i,hz⟩:=I.tuple g;show assign_Tuple_tuple (I.ok.hd q) i (by simp[p,<-m,~~~f]) c λh' j=>?_;let l:Inv X ZB Y H {s with heap:=h'}:=I.kept (t':=s.toks) λb o e=>j b o (Ķ (ē e)) e;show h ZB _ Y H xs _ Q l ↑f d
def Xw(to a:TE)(t:SE):TG:=λv Y H Q=>to Y H λo H1=>a Y H1 λi H2=>t o i v H2 λb=>Q Y b
def Kh{o i:Ô}{to c:TE}{t:SE}(f:PE X o to)(hi:PE X i c)(d:UO X t)
  (ha:∀v,ď (.Subscript o i pos) X.env v=(do
   let a <-Ě [v] (Õ o X.env);let b <-Ě [v,a] (Õ i X.env)
   Ϥ pos
   Ě [v,a,b] (setItem a b v)
   release [v,a,b] []):=by intro _;rfl):PG X (.Subscript o i pos) (Xw to c t):=by
 intro ZB s Y H v u Q I r h;rw[ha];show Ü (ϒ (cK (f ZB s Y H _ I h) λa n ⟨x,H1,p,w,k⟩=>?_));show Ü (ϒ (cK (hi ZB n Y H1 _ p k) λb m ⟨y,H2,q,g,e⟩=>?_));show Ü (θ (Ü (ϒ (cK (d ZB m Y H2 x y v a b u _ q w g r e) λ_ A ⟨l,j,z⟩=>?_))));show wpAny_release #[Y,l,j,z]
def UH(te:TE)(g:TG):TS:=λD Y H=>te Y H λx H1=>g x Y H1 D.nx
def Et{te:TE}(he:PE X e te)(d:PG X tg g)(a:ŕ [tg] e pos.line X.env=pure Â<|>zra)(j:Ŗ [tg] e X.env=pure none<|>zra)
  (h1:(ä [tg] X.env).map (·.2)=[ď tg X.env]<|>zra):PS X (.Assign [tg] e pos) (UH te g):=by
 intro ZB s Y H D I h;show wpAny_Assign_stores (cK (he ZB s Y H _ I h) λv b ⟨x,H1,c,i,f⟩=>?_) a j;rw[h1];show cK (d ZB b Y H1 x v _ c i f) λ_ k q=>q
def tT{te:TE}{pos':ð}(j:X.N.Nodup)(hi:X.N[i]?=À x)(b:Loc X.env.scope x)(he:PE X e te)(a:õ e (À (.Name x pos')) pos.line X.env=pure Â<|>zra)(d:X.fn x=Á\/X.env.scope.names.lookup x=À .local<|>zrf):
  PS X (.Assign [.Name x pos'] e pos) (UH te (ni i)):=by
 intro ZB s Y H D I h;show wpAny_Assign_Name (cK (he ZB s Y H _ I h) λv m ⟨y,H1,c,k,f⟩=>?_) a;show vB c j hi b k (λl g=>#[_,H1,g,f]) d
def R4(c:TT)(tb:TS):TS:=λD Y H=>∃W:Nat->St->Hp->Prop,(∃m,W m Y H)/\∀m Y H,W m Y H ->
 c Y H λb H1=>if b=Á then ∃N:St->Hp->Prop,(∀Y' H',N Y' H'->∃a,a<m/\W a Y' H')/\tb {D with nx:=N,ct:=N,bk:=D.nx} Y H1 else D.nx Y H1
def K3{tc:TT}(hp:ĺ .E X.A X.env X.xe)(r:PT X c tc)(q:ui X body tb):PS X (.While c body [] pos) (R4 tc tb):=by
 intro ZB s Y H D I h;let⟨W,⟨z,y⟩,turn⟩:=h;show wpAny_While (codeAny_whileLoop (λn s'=>∃Y' H',Inv X ZB Y' H' s'/\W n Y' H') ?_ z #[Y,H,I,y]);rintro n u ⟨σ1,H1,x,p⟩;show agc hp (cK (r ZB u σ1 H1 _ x (turn n σ1 H1 p)) λb t ⟨H2,o,d⟩=>?_);cases b with
 |true =>
  let⟨N,m,d⟩:=d;rw[adI rfl];show agc hp (cK (q ZB t σ1 H2 _ o d) λf B e=>?_);cases f with
  |next =>
   let⟨σ3,a,i,j⟩:=e;let⟨g,k,l⟩:=m σ3 a j;show#[g,k,σ3,a,i,l]
  |cont =>
   let⟨σ3,a,i,j⟩:=e;let⟨g,k,l⟩:=m σ3 a j;show#[g,k,σ3,a,i,l]
  |brk=>show e
  |ret v=>show e
 |false =>
  rw[adF ō];show aih #[σ1,H2,o,d]
end
structure It where
 go:Nat->Hp->Prop
 yld:Nat->Hp->V->Hp->Prop
 stop:Nat->Hp->Prop
def xM(X:Cx)(ZB:List (Ç×ÿ))(H:Hp)(b:Ç):Prop :=
 H b=none/\b≠X.env.locals/\b∉X.fs/\(b∈X.ex\/X.s₀⁻¹<=b)/\(∀x c,X.env.cells.lookup x=À c->c≠b)/\∀p∈X.pn++ZB,p.1≠b
def Inv.GN{H':Hp}(I:Inv X ZB Y H s)(a:s⁻¹<=b)(d:H' b=none):xM X ZB H' b:=by
 show#[d,aht (ř I.lt a),I.Xq a,.inr (Ń I.sz a),λx c e z=>?_,λp hp z=>?_]
 .let⟨v,q⟩:=I.cell x c e;show absurd (ř q.lt (by rwa[z])) (agg _)
 .show absurd (ř (ē (I.pin p hp).1) (by rwa[z])) (agg _)
structure Turn(P:Ð)(w:Ø)(K:Ã)(tg:Ô)(J:It)(fp:List Ç)(it:Ç)(tn:Nat->Û->Prop):Prop where
 mem:it∈fp
 obj:∀i h,tn i h->∀b∈fp,∃o,h.get? b=À o/\∀v,o.data≠.cell v
 keep:∀i h h',tn i h->(∀b∈fp,∀o,h.get? b=À o->h'.get? b=À o)->tn i h'
 item:∀(X:Cx),X.prog=P->X.w=w->X.K=K->X.calm=Á->∀(i:Nat) (ZB:List (Ç×ÿ)) (s:Æ) (Y:St) (H:Hp) (E:Å->Æ->Prop),Inv X ZB Y H s->(∀b∈fp,xM X ZB H b)->tn i s.heap->J.go i H ->
  Ë (Î P w) X.A (Ĭ (.ref it)) (λr s1=>∃u,r=À u /\
   Ë (Î P w) X.A (ļ tg (.ref it) u) (λ_ s2=>∃x H',Inv X ZB Y H' s2/\RelV x u/\J.yld i H x H'/\tn (i+1) s2.heap/\∀b∈fp,H' b=none) E s1) E s
 done:∀(X:Cx),X.prog=P->X.w=w->X.K=K->X.calm=Á->∀(i:Nat) (ZB:List (Ç×ÿ)) (s:Æ) (Y:St) (H:Hp) (E:Å->Æ->Prop),Inv X ZB Y H s->(∀b∈fp,xM X ZB H b)->tn i s.heap->J.stop i H ->
  Ë (Î P w) X.A (Ĭ (.ref it)) (λr s1=>r=none/\Inv X ZB Y H s1) E s
 self:∀(A:å) (i:Nat) (s:Æ) (Q:Å->Æ->Prop) (E:Å->Æ->Prop),tn i s.heap->Q (.ref it) s->Ë (Î P w) A (Ų (.ref it)) Q E s
abbrev TI:=St->Hp->(It->Hp->Prop)->Prop
def WM(X:Cx)(ZB:List (Ç×ÿ))(Y:St)(tg:Ô)(R:It->Hp->Prop)(a:Å)(c:Æ):Prop :=
 ∃(d:Ç) (fp:List Ç) (tn:Nat->Û->Prop) (J:It) (H':Hp),a=.ref d/\Inv X ZB Y H' c/\Turn X.prog X.w X.K tg J fp d tn/\tn 0 c.heap/\(∀b∈fp,xM X ZB H' b)/\R J H'
def PI(X:Cx)(tg iter:Ô)(wi:TI):Prop :=
 ∀(ZB:List (Ç×ÿ)) (s:Æ) (Y:St) (H:Hp) (R:It->Hp->Prop),Inv X ZB Y H s->wi Y H R ->
  Ë .E X.A (Õ iter X.env) (λv a=>Ë .E X.A (Ų v) (WM X ZB Y tg R) X.xe a) X.xe s
def Gs{α : Model}{A : å}{E : Å->Æ->Prop}{s : Æ}{tg : Ô}{b : Ç}{u : Å}{o : ÿ}{n : String}{vs : Array Å}{Q : Unit->Æ->Prop}(d : s.heap.get? b=À o)(f : o.cls=.type n)(c : o.data=.fields vs)
    (e : ["enumerate","zip","dict_itemiterator","dict_reverseitemiterator","odict_iterator","itertools.zip_longest","itertools.pairwise"].contains n=Â) (a : Q () s) : Ë α A (ļ tg (.ref b) u) Q E s:=by
  unfold ļ
  cases tg<;>first
    |show û a
    | (cases u <;> first
        |show û a
        | (show Ü (wpAny_load d ?_)
           rw[f,c];change Ë α A (if (["enumerate","zip","dict_itemiterator","dict_reverseitemiterator","odict_iterator","itertools.zip_longest","itertools.pairwise"].contains n&&vs[0]?==À (ý _))=Á then _ else _) Q E s;rw[adF (by intro h;rw[e,Bool.false_and] at h;cases h)]
           show û a))
def U7(K:Ã)(a:Ç):It :=
 #[λi H=>∃xs x,dz K H a xs/\xs[i]?=À x,λi H x H'=>H'=H/\∀xs,dz K H a xs->xs[i]?=À x,λi H=>∃xs,dz K H a xs/\~~~xs<=i]
def Yl(K:Ã)(a:Ç):It :=
 #[λi H=>∃xs x,CJ K H a xs/\xs[i]?=À x,λi H x H'=>H'=H/\∀xs,CJ K H a xs->xs[i]?=À x,λi H=>∃xs,CJ K H a xs/\~~~xs<=i]
def Tz(lo:Int)(n:Nat):It:=#[λi _=>i<n,λi H x H'=>H'=H/\x=.int (lo+i),λi _=>n<=i]
def HW(a g:Ç):Turn P w K tg (U7 K a) [g] g (λi h=>h.IsListIter g a i) where
 mem:=by simp
 obj:=λi h st b f=>by
  let e:b=g:=by simpa using f
  subst e;let⟨o,e,c,d⟩:=st;show#[o,e,λv z=>by rw[d] at z;cases z]
 keep:=λi h h' st k=>st.at λo e=>k g .c o e
 item:=by
  intro X G F D J i ZB s Y H E I m st q;subst G F D;let⟨xs,x,l,B⟩:=q;let⟨YU,y,p,hz⟩:=I.list l;let⟨u,L,R⟩:=y.get B;let⟨A,n,O,C,r,t⟩:=m g .c;show wpAny_pyNext_list_item st p.isList (x:=u) ↑L λh' j S=>?_;let α:Inv X ZB Y H {s with heap:=h'}:=I.turned (t':=s.toks) (λb o f e=>(S.2 b f).trans e) A n C r t;let⟨o,e,c,d⟩:=id j;show#[u,rfl,Gs (s:={s with heap:=h'}) e c d .a #[x,H,α,R,#[rfl,λys Q=>by rwa[I.qU Q l]],j,λb f=>(m b f).1]]
 done:=by
  intro X G F D J i ZB s Y H E I m st q;subst G F D;let⟨xs,l,B⟩:=q;let⟨YU,y,p,hz⟩:=I.list l;let⟨A,n,O,C,r,t⟩:=m g .c;let T:= ~~~y;show wpAny_pyNext_list_end (I.ok.hd J) st p.isList (by simp;lia) λh' N=>#[rfl,I.turned (t':=s.toks) (λb o f e=>N b o f e) A n C r t]
 self:=λ_ _ _ _ _ st h=>wpAny_pyIter_listiter st h
def D_(a g:Ç):Turn P w K tg (Yl K a) [g] g (λi h=>h.IsTupleIter g a i) where
 mem:=by simp
 obj:=λi h st b f=>by
  let e:b=g:=by simpa using f
  subst e;let⟨o,e,c,d⟩:=st;show#[o,e,λv z=>by rw[d] at z;cases z]
 keep:=λi h h' st k=>st.at λo e=>k g .c o e
 item:=by
  intro X G F D J i ZB s Y H E I m st q;subst G F D;let⟨xs,x,l,B⟩:=q;let⟨YU,y,p,hz⟩:=I.tuple l;let⟨u,L,R⟩:=y.get B;let⟨A,n,O,C,r,t⟩:=m g .c;show wpAny_pyNext_tuple_item st (show s.heap.IsTuple a YU.toArray from p) (x:=u) ↑L λh' j S=>?_;let α:Inv X ZB Y H {s with heap:=h'}:=I.turned (t':=s.toks) (λb o f e=>(S.2 b f).trans e) A n C r t;let⟨o,e,c,d⟩:=id j;show#[u,rfl,Gs (s:={s with heap:=h'}) e c d .a #[x,H,α,R,#[rfl,λys Q=>by rwa[I.Hz Q l]],j,λb f=>(m b f).1]]
 done:=by
  intro X G F D J i ZB s Y H E I m st q;subst G F D;let⟨xs,l,B⟩:=q;let⟨YU,y,p,hz⟩:=I.tuple l;let⟨A,n,O,C,r,t⟩:=m g .c;let T:= ~~~y;show wpAny_pyNext_tuple_end (I.ok.hd J) st (show s.heap.IsTuple a YU.toArray from p) (by simp;lia) λh' N=>#[rfl,I.turned (t':=s.toks) (λb o f e=>N b o f e) A n C r t]
 self:=λ_ _ _ _ _ st h=>wpAny_pyIter_tupleiter st h
def C8(a:Ç)(lo:Int)(n:Nat):Turn P w K tg (Tz lo n) [a] a (λi h=>ž h a (lo+(i:Nat)*1) ((n:Int)-(i:Nat)) 1) where
 mem:=by simp
 obj:=λi h st b c=>by
  let e:b=a:=by simpa using c
  subst e
  show#[_,st,λv z=>by
   let B:Data.fields _=Data.cell v:=z
   cases B]
 keep:=λi h h' st k=>k a .c _ st
 item:=by
  intro X y x u p i ZB s Y H E I f st j;subst y x u;let⟨q,g,F,r,l,m⟩:=f a .c;let W:=Walks.range (prog:=X.prog) (w:=X.w) (I.ok.hd p) a lo 1 n;show W.item i s _ _ j st λv h' tk A d kk=>?_;let⟨t,rfl⟩:=A;let C:Inv X ZB Y H {s with heap:=h',toks:=tk}:=I.turned (λb o c e=>kk b o ↑c e) q g r l m;show#[_,rfl,Gs (s:={s with heap:=h',toks:=tk}) (n:="range_iterator") d rfl rfl .a #[.int (lo+i),H,C,#[t,?_],#[rfl,rfl],d,λb c=>(f b c).1]];rw[Đ]
 done:=by
  intro X y x u p i ZB s Y H E I f st j;subst y x u;let⟨q,g,F,r,l,m⟩:=f a .c;show ϡ (I.ok.hd p) st (by let:n<=i:=j;lia) λh' D=>#[rfl,I.turned (t':=s.toks) (λb o c e=>D b o c e) q g r l m]
 self:=λ_ _ _ _ _ st h=>Ϣ st h
section
variable{X:Cx}{tg:Ô}
def UI(K:Ã)(tl:TE):TI:=λY H R=>tl Y H λx H1=>∃a,x=.ref a/\(∃xs,dz K H1 a xs)/\R (U7 K a) H1
def XW(K:Ã)(tl:TE):TI:=λY H R=>tl Y H λx H1=>∃a,x=.ref a/\(∃xs,CJ K H1 a xs)/\R (Yl K a) H1
def ES{l:Ô}{tl:TE}(k:PE X l tl):PI X tg l (UI X.K tl):=by
 intro ZB s Y H R I h;show cK (k ZB s Y H _ I h) λv c ⟨x,H1,d,j,i⟩=>?_;let⟨a,e,⟨xs,f⟩,q⟩:=i;subst e;cases j;let⟨YU,m,p,hz⟩:=d.list f;show ahX p.isList ?_;show#[c⁻¹,[c⁻¹],_,_,H1,rfl,d.kept (t':=c.toks) λb o e=>Ĩ _ e,HW a _,#[_,Ŕ _ rfl,rfl,rfl],λb g=>?_,q];let e:b=c⁻¹:=by simpa using g
 subst e;show d.GN (Ā _) (d.hok.fresh (Ā _))
def S6{l:Ô}{tl:TE}(k:PE X l tl):PI X tg l (XW X.K tl):=by
 intro ZB s Y H R I h;show cK (k ZB s Y H _ I h) λv c ⟨x,H1,d,j,i⟩=>?_;let⟨a,e,⟨xs,f⟩,q⟩:=i;subst e;cases j;let⟨YU,m,p,hz⟩:=d.tuple f;show wpAny_pyIter_tuple (show c.heap.IsTuple a YU.toArray from p) ?_;show#[c⁻¹,[c⁻¹],_,_,H1,rfl,d.kept (t':=c.toks) λb o e=>Ĩ _ e,D_ a _,#[_,Ŕ _ rfl,rfl,rfl],λb g=>?_,q];let e:b=c⁻¹:=by simpa using g
 subst e;show d.GN (Ā _) (d.hok.fresh (Ā _))
def Kg{R:It->Hp->Prop}{E:Å->Æ->Prop}{lo hi:Int}{t u v:Tok}{tk:Nat}(I:Inv X ZB Y H s)(h1:-(2^62)<=lo)(h2:lo<2^62)(f:-(2^62)<=hi)(d:hi<2^62)
  (q:R (Tz lo ↥(hi-lo)) H):Ë .E X.A (Ų (.ref s⁻¹)) (WM X ZB Y tg R) E {s with heap:=s.heap.push {cls:=.type "range",data:=.fields (æ [.int lo t,.int hi u,.int 1 v])},toks:=tk}:=by
 show wpAny_pyIter_range (IsRange.new ..) (small_one h1 h2 f d) ?_;let a:Inv X ZB Y H {s with heap:=s.heap.push {cls:=.type "range",data:=.fields (æ [.int lo t,.int hi u,.int 1 v])},toks:=tk}:=I.kept λb o e=>Ĩ _ e
 show#[(s.heap.push {cls:=.type "range",data:=.fields (æ [.int lo t,.int hi u,.int 1 v])}).objs.size,[(s.heap.push {cls:=.type "range",data:=.fields (æ [.int lo t,.int hi u,.int 1 v])}).objs.size],_,_,H,rfl,
  a.kept (t':=tk) λb o e=>Ĩ _ e,C8 _ lo ↥(hi-lo),?_,λb c=>?_,q]
 .let e1:lo+((0:Nat):Int)*1=lo:=by simp
  let e2:((↥(hi-lo):Nat):Int)-((0:Nat):Int)=Ò lo hi 1:=by rw[rangeSize_one];split<;>lia
  change ž _ _ (lo+((0:Nat):Int)*1) (((↥(hi-lo):Nat):Int)-((0:Nat):Int)) 1;rw[e1,e2];show Ŕ _ rfl
 .let e:b=(s.heap.push {cls:=.type "range",data:=.fields (æ [.int lo t,.int hi u,.int 1 v])}).objs.size:=by simpa using c
  subst e;show a.GN (Ā _) (a.hok.fresh (Ā _))
def Uq(ta:TA):TI:=λY H R=>ta Y H λvs H1=>∃j:Int,vs=[.int j]/\-(2^62)<=j/\j<2^62/\R (Tz 0 ↥j) H1
def yU{a:Ô}{ta:TA}{p pos:ð}(i:Gl X "range")(l:X.mg "range"=none)(ha:PA X [a] ta)(c:Ä [a] X.env=[(Â,Õ a X.env)]<|>zra):PI X tg (.Call (.Name "range" p) [a] [] pos) (Uq ta):=by
 intro ZB s Y H R I h;show Call_ (je I i l boot_range (afm (cK (ha pos ZB s Y H _ I h) λus m ⟨vs,H1,g,k,b⟩=>?_) c rfl));let⟨j,e,b,f,q⟩:=b;subst e;cases k with
 |cons r d =>
  cases d;let⟨t,rfl⟩:=r;show call_range_1 (Kg g .b .b b f ↑q)
def XY(wi:TI)(g:TG)(tb:TS):TS:=λD Y H=>wi Y H λJ H1=>∃W:Nat->Nat->St->Hp->Prop,(∃m,W 0 m Y H1)/\∀i m Y H,W i m Y H ->
 (J.stop i H/\D.nx Y H)\/(J.go i H/\∃N:St->Hp->Prop,(∀Y' H',N Y' H'->∃a,a<m/\W (i+1) a Y' H')/\∀x H',J.yld i H x H'->g x Y H' λσ2 H2=>tb {D with nx:=N,ct:=N,bk:=D.nx} σ2 H2)
def v7(fp:List Ç)(h:Û):List (Ç×ÿ):=fp.filterMap λb=>(h.get? b).map λo=>(b,o)
def lq{fp:List Ç}(a:b∈fp)(e:h.get? b=À o):(b,o)∈v7 fp h:=List.mem_filterMap.mpr #[b,a,by rw[e];rfl]
def Hc{fp:List Ç}{p:Ç×ÿ}(hp:p∈v7 fp h):p.1∈fp/\h.get? p.1=À p.2:=by
 let⟨b,c,e⟩:=List.mem_filterMap.mp hp;cases q:h.get? b with
 |none=>rw[q] at e;cases e
 |some o =>
  rw[q] at e;let a:(b,o)=p:=ķ e;subst a;show#[c,q]
def Inv.pinned{fp:List Ç}(I:Inv X ZB Y H s)(i:∀b∈fp,xM X ZB H b)(h:∀b∈fp,∃o,s.heap.get? b=À o/\∀v,o.data≠.cell v):Inv X (ZB++v7 fp s.heap) Y H s :=
 I.rG λp hp=>(aen.mp hp).elim (λz=>I.pin p (Ţ _ z)) λz=>by
  let⟨c,e⟩:=Hc z;let⟨f,g,j,_⟩:=i p.1 c;let⟨o,a,d⟩:=h p.1 c;rw[e] at a;cases a;show#[e,f,g,j,d]
def Inv.p9{pl:List (Ç×ÿ)}(I:Inv X (ZB++pl) Y H s):Inv X ZB Y H s:=I.rG λp hp=>I.pin p (Ţ _ (ϑ _ hp))
def zK{iter:Ô}{wi:TI}{pos:ð}(hp:ĺ .E X.A X.env X.xe)(α:X.calm=Á)(hi:PI X tg iter wi)(hg:PG X tg g)(k:ui X body tb)
  (hs:(∀x,Þ iter X.env x=pure x)<|>zrc):PS X (.For tg iter body [] pos) (XY wi g tb):=by
 intro ZB s Y H D I h;show wpAny_For (cK (hi ZB s Y H _ I h) λv s1 h1=>cK h1 λitv s2 h2=>?_) hs;let⟨it,fp,tn,J,H2,e,I2,T,E,O,W,⟨m0,w0⟩,turn⟩:=h2;subst e
 -- what stays Á of the iterator's objects through the loop
 let c:∀{H':Hp},(∀b∈fp,H' b=none)->∀b∈fp,xM X ZB H' b:=λhn b k=>#[hn b k,(O b k).2];show codeAny_forLoop_any (λn s'=>∃i Y' H',Inv X ZB Y' H' s'/\tn i s'.heap/\(∀b∈fp,H' b=none)/\W i n Y' H') ?_ m0 #[0,Y,H2,I2,E,λb k=>(O b k).1,w0];rintro n P ⟨i,σ3,z,L,q,t,Z⟩;obtain⟨stop,qn⟩|⟨go,N,S,step⟩:=turn i n σ3 z Z
 .show agc hp (cK (T.done X rfl rfl rfl α i ZB P σ3 z X.xe L (c t) q stop) λr s4 ⟨G,I4⟩=>?_);subst G;show aih #[σ3,z,I4,qn]
 .show agc hp (cK (T.item X rfl rfl rfl α i ZB P σ3 z X.xe L (c t) q go) λr s4 ⟨u,G,Γ⟩=>?_);subst G;show agc hp (cK Γ λ_ Q ⟨x,K,I5,r5,R,p,F⟩=>?_);let C:=I5.pinned (c F) (T.obj _ _ p);show agc hp (cK (hg _ Q σ3 K x u _ C r5 (step x K R)) λ_ V ⟨σ6,H6,I6,q6⟩=>?_);show agc hp (cK (k _ V σ6 H6 _ I6 q6) λf B l=>?_)
  let Λ:∀{σ7:St} {a:Hp},Inv X (ZB++v7 fp Q.heap) σ7 a B->N σ7 a->∃m,m<n/\∃i Y' H',Inv X ZB Y' H' B/\tn i B.heap/\(∀b∈fp,H' b=none)/\W i m Y' H':=λ{σ7 a} j y=>by
   let⟨m',hm,σ⟩:=S σ7 a y;show#[m',hm,i+1,σ7,a,j.p9,T.keep _ _ _ p λb k o e=>(j.pin (b,o) (Ţ _ (Ţ _ (lq k e)))).1,λb k=>?_,σ];let⟨o,e,d⟩:=T.obj _ _ p b k;show(j.pin (b,o) (Ţ _ (Ţ _ (lq k e)))).2.1
  cases f with
  |next=>let⟨σ7,a,j,y⟩:=l;show Λ j y
  |cont=>let⟨σ7,a,j,y⟩:=l;show Λ j y
  |brk=>let⟨σ7,a,j,l⟩:=l;show#[σ7,a,j.p9,l]
  |ret v=>let⟨x7,σ7,a,j,r7,l⟩:=l;show#[x7,σ7,a,j.p9,r7,l]
end
def IG{xs:List V}{D:Ends}(Pv:Nat->St->Hp->Prop)(h:Pv 0 Y H)(j:∀i Y H,i<= ~~~xs->Pv i Y H->dz K H a xs)
  (d:∀i x Y H,xs[i]?=À x->Pv i Y H->g x Y H λσ2 H2=>tb {D with nx:=Pv (i+1),ct:=Pv (i+1),bk:=D.nx} σ2 H2) (f:∀Y H,Pv (~~~xs) Y H->D.nx Y H):
  ∃W:Nat->Nat->St->Hp->Prop,(∃m,W 0 m Y H)/\∀i m Y H,W i m Y H ->
   ((U7 K a).stop i H/\D.nx Y H)\/((U7 K a).go i H/\∃N:St->Hp->Prop,(∀Y' H',N Y' H'->∃c,c<m/\W (i+1) c Y' H')/\∀x H',(U7 K a).yld i H x H'->g x Y H' λσ2 H2=>tb {D with nx:=N,ct:=N,bk:=D.nx} σ2 H2):=by
 show#[λi m Y H=>m= ~~~xs-i/\i<= ~~~xs/\Pv i Y H,#[~~~xs,.c,ş _,h],?_];rintro i m Y H ⟨rfl,hi,p⟩;let q:=j i Y H hi p;by_cases b:i<~~~xs
 .show .inr #[#[xs,xs[i],q,by simp[b]],Pv (i+1),λY' H' k=>#[~~~xs-(i+1),.b,rfl,b,k],λx H' y=>?_];let⟨e,y⟩:=y;subst e;show d i x Y _ (y xs q) p
 .let e:i= ~~~xs:=.b
  subst e;show .inl #[#[xs,q,Ā _],f Y H p]
def Ih{lo:Int}{D:Ends}(Pv:Nat->St->Hp->Prop)(f:Pv 0 Y H)
  (c:∀i Y H,i<n->Pv i Y H->g (.int (lo+i)) Y H λσ2 H2=>tb {D with nx:=Pv (i+1),ct:=Pv (i+1),bk:=D.nx} σ2 H2) (d:∀Y H,Pv n Y H->D.nx Y H):
  ∃W:Nat->Nat->St->Hp->Prop,(∃m,W 0 m Y H)/\∀i m Y H,W i m Y H ->
   ((Tz lo n).stop i H/\D.nx Y H)\/((Tz lo n).go i H/\∃N:St->Hp->Prop,(∀Y' H',N Y' H'->∃b,b<m/\W (i+1) b Y' H')/\∀x H',(Tz lo n).yld i H x H'->g x Y H' λσ2 H2=>tb {D with nx:=N,ct:=N,bk:=D.nx} σ2 H2):=by
 show#[λi m Y H=>m=n-i/\i<=n/\Pv i Y H,#[n,.c,ş _,f],?_];rintro i m Y H ⟨rfl,hi,p⟩;by_cases a:i<n
 .show .inr #[a,Pv (i+1),λY' H' h=>#[n-(i+1),.b,rfl,a,h],λx H' y=>?_];let⟨e,y⟩:=y;subst e y;show c i Y _ a p
 .let e:i=n:=.b
  subst e;show .inl #[Ā _,d Y H p]
abbrev R2:=V->V->Hp->VK->Prop
variable{r:R2}
def mx(X:Cx)(f:Å->Å->Sem Å)(r:R2):Prop :=
 ∀(ZB:List (Ç×ÿ)) (s:Æ) (Y:St) (H:Hp) (x y:V) (v u:Å) (Q:VK),Inv X ZB Y H s->RelV x v->RelV y u->r x y H Q ->
  Ë .E X.A (f v u) (EP X ZB Y Q) X.xe s
def WJ(X:Cx)(f:Å->Sem Å)(r:V->Hp->VK->Prop):Prop :=
 ∀(ZB:List (Ç×ÿ)) (s:Æ) (Y:St) (H:Hp) (x:V) (v:Å) (Q:VK),Inv X ZB Y H s->RelV x v->r x H Q ->
  Ë .E X.A (f v) (EP X ZB Y Q) X.xe s
def jy(X:Cx)(f:Å)(r:List V->Hp->VK->Prop):Prop :=
 ∀(ZB:List (Ç×ÿ)) (s:Æ) (Y:St) (H:Hp) (xs:List V) (us:List Å) (Q:VK),Inv X ZB Y H s->Vals xs us->r xs H Q ->
  Ë .E X.A (call f us) (EP X ZB Y Q) X.xe s
def Wa(r:R2)(ta tb:TE):TE:=λY H Q=>ta Y H λx H1=>tb Y H1 λy H2=>r x y H2 Q
def Yv(r:V->Hp->VK->Prop)(ta:TE):TE:=λY H Q=>ta Y H λx H1=>r x H1 Q
def rI(C:Int->Int->Prop)(g:Int->Int->V):R2:=λx y H Q=>∃i j,x=.int i/\y=.int j/\C i j/\Q (g i j) H
def M8(g:Int->Int->V):R2:=λx y H Q=>∃i j,x=.int i/\y=.int j/\Q (g i j) H
def rU(g:Int->V):V->Hp->VK->Prop:=λx H Q=>∃i,x=.int i/\Q (g i) H
section
variable{X:Cx}{a b c:Ô}{ta tb tc:TE}{pos:ð}
def RU(ha:PE X a ta)(j:PE X b tb){R:V->V->Hp->Prop}(I:Inv X ZB Y H s)
  (h:ta Y H λx H1=>tb Y H1 λy H2=>R x y H2) {Q:Å->Æ->Prop} {f:Å->Å->Sem Å}
  (k:∀v u c x y H2,Inv X ZB Y H2 c->RelV x v->RelV y u->R x y H2->Ë .E X.A (f v u) Q X.xe c):
  Ë .E X.A (Õ a X.env) (λv n=>Ë .E X.A (Õ b X.env) (λu p=>Ë .E X.A (f v u) Q X.xe p) X.xe n) X.xe s:=by
 show cK (ha ZB s Y H _ I h) λv e ⟨x,H1,g,o,l⟩=>?_;show cK (j ZB e Y H1 _ g l) λu c ⟨y,H2,m,i,d⟩=>?_;show k v u c x y H2 m o i d
def JW{op:Operator}(d:mx X (ĝ op) r)(ha:PE X a ta)(e:PE X b tb):PE X (.BinOp a op b pos) (Wa r ta tb):=by
 intro ZB s Y H Q I h;show wpAny_BinOp (RU ha e I h λv u c x y H2 g i f q=>d ZB c Y H2 x y v u Q g i f q)
def UZ{op:UnaryOp}{r:V->Hp->VK->Prop}(d:WJ X (unaryOp op) r)(ha:PE X a ta):PE X (.UnaryOp op a pos) (Yv r ta):=by
 intro ZB s Y H Q I h;show UnaryOp_ (cK (ha ZB s Y H _ I h) λv e ⟨x,H1,f,c,b⟩=>d ZB e Y H1 x v Q f c b)
def Ul{C:Int->Int->Prop}{g:Int->Int->Int}
  (rule:∀(i j:Int) (t u:Tok) (s:Æ) (Q:Å->Æ->Prop) (E:Å->Æ->Prop),C i j->Q (.int (g i j) s.toks) {s with toks:=s.toks+1}->Ë .E X.A (f (.int i t) (.int j u)) Q E s):
  mx X f (rI C λi j=>.int (g i j)):=by
 intro ZB s Y H x y v u Q I b a h;let⟨i,j,rfl,rfl,c,q⟩:=h;let⟨t,rfl⟩:=b;let⟨t',rfl⟩:=a;show rule i j t t' s _ _ c #[.int (g i j),H,I.tok _,#[_,rfl],q]
def UA{g:Int->Int->Int}
  (rule:∀(i j:Int) (t u:Tok) (s:Æ) (Q:Å->Æ->Prop) (E:Å->Æ->Prop),Q (.int (g i j) s.toks) {s with toks:=s.toks+1}->Ë .E X.A (f (.int i t) (.int j u)) Q E s):
  mx X f (M8 λi j=>.int (g i j)):=by
 intro ZB s Y H x y v u Q I b a h;let⟨i,j,rfl,rfl,q⟩:=h;let⟨t,rfl⟩:=b;let⟨t',rfl⟩:=a;show rule i j t t' s _ _ #[.int (g i j),H,I.tok _,#[_,rfl],q]
def OL{g:Int->Int->Bool}
  (rule:∀(i j:Int) (t u:Tok) (s:Æ) (Q:Å->Æ->Prop) (E:Å->Æ->Prop),Q (.bool (g i j)) s->Ë .E X.A (f (.int i t) (.int j u)) Q E s):
  mx X f (M8 λi j=>.bl (g i j)):=by
 intro ZB s Y H x y v u Q I b a h;let⟨i,j,rfl,rfl,q⟩:=h;let⟨t,rfl⟩:=b;let⟨t',rfl⟩:=a;show rule i j t t' s _ _ #[.bl (g i j),H,I,rfl,q]
def K2(i j:Int):Prop:=0<=j/\j<=1000000/\i.natAbs<2^64
def NC(i j:Int):Prop:=(-(2^64)<i/\i<2^64)\/(-(2^64)<j/\j<2^64)
def NC.ok{i j:Int}(h:NC i j):ĭ i j:=by
 obtain⟨h1,h2⟩|⟨h1,h2⟩:=h
 .show .of_left (intBits_le_64 h1 h2)
 .show .of_right (intBits_le_64 h1 h2)
def QD:mx X (ĝ .Add) (M8 λi j=>.int (i+j)):=UA λ_ _ _ _ _ _ _ q=>add_int q
def RN:mx X (ĝ .Sub) (M8 λi j=>.int (i-j)):=UA λ_ _ _ _ _ _ _ q=>sub_int q
def NP:mx X (ĝ .Mod) (rI (λ_ j=>j≠0) λi j=>.int (i.fmod j)):=Ul λ_ _ _ _ _ _ _ a q=>mod_int' a q
def So:mx X (ĝ .Pow) (rI K2 λi j=>.int (i^↥j)):=Ul λ_ _ _ _ _ _ _ a q=>pow_int_small a.1 a.2.1 a.2.2 q
def SW:mx X (ĝ .LShift) (rI K2 λi j=>.int (i*2^↥j)):=Ul λ_ _ _ _ _ _ _ a q=>lshift_int_small a.1 a.2.1 a.2.2 q
def YB{f:Å->Sem Å}{g:Int->Int}
  (rule:∀(i:Int) (t:Tok) (s:Æ) (Q:Å->Æ->Prop) (E:Å->Æ->Prop),Q (.int (g i) s.toks) {s with toks:=s.toks+1}->Ë .E X.A (f (.int i t)) Q E s):
  WJ X f (rU λi=>.int (g i)):=by
 intro ZB s Y H x v Q I a h;let⟨i,rfl,q⟩:=h;let⟨t,rfl⟩:=a;show rule i t s _ _ #[.int (g i),H,I.tok _,#[_,rfl],q]
def S4:WJ X (unaryOp .USub) (rU λi=>.int (-i)):=YB λ_ _ _ _ _ q=>neg_int q
end
noncomputable def UU:V->V->Bool
 |.non,.non=>Á|.non,.int _=>Á|.int _,.non=>Á|.non,.bl _=>Á|.bl _,.non=>Á|.non,.str _=>Á|.str _,.non=>Á
 |.int _,.int _=>Á|.bl _,.bl _=>Á|.str _,.str _=>Á|.byt _,.byt _=>Á
 |.int _,.str _=>Á|.str _,.int _=>Á|.bl _,.str _=>Á|.str _,.bl _=>Á
 |_,_=>Â
def YA:R2:=λx y H Q=>UU x y=Á/\Q (.bl (decide (x=y))) H
def Yz:R2:=λx y H Q=>UU x y=Á/\Q (.bl (!decide (x=y))) H
def vn{i j:Int}:decide (V.int i=V.int j)=(i==j):=by
 rw[afC];simp
def KI{i j:Bool}:decide (V.bl i=V.bl j)=(i==j):=by
 rw[afC];simp
def F0{i j:Ì}:decide (V.str i=V.str j)=(i==j):=by
 rw[afC];simp
def GG{i j:Array UInt8}:decide (V.byt i=V.byt j)=(i.toList==j.toList):=by
 rw[afC];cases i;cases j;simp
section
variable{X:Cx}{a b c:Ô}{ta tb tc:TE}{pos:ð}
def bF{k a:Bool}(I:Inv X ZB Y H s)(q:Q (.bl k) H)(e:k=a):EP X ZB Y Q (.bool a) s:=by
 subst e;show#[.bl k,H,I,rfl,q]
def Vu:mx X (ç .Eq) YA:=by
 intro ZB s Y H x y v u Q I c a h;let⟨b,q⟩:=h;cases x with
 |non =>
  cases c;cases y with
  |non=>cases a;show PySem.EqNone.eq_none_none (bF I q .c)
  |bl j=>cases a;show PySem.EqNone.eq_none_bool (bF I q .c)
  |int j=>let⟨t',rfl⟩:=a;show PySem.EqNone.eq_none_int (bF I q .c)
  |str j=>let⟨t',rfl⟩:=a;show PySem.EqNone.eq_none_str (bF I q .c)
  |_=>show absurd (show Â=Á from b) ō
 |bl i =>
  cases c;cases y with
  |non=>cases a;show PySem.EqNone.eq_bool_none (bF I q .c)
  |bl j=>cases a;show eq_bool (bF I q KI)
  |str j=>let⟨t',rfl⟩:=a;show PySem.EqMixed.eq_bool_str (bF I q .c)
  |_=>show absurd (show Â=Á from b) ō
 |int i =>
  let⟨t,rfl⟩:=c;cases y with
  |non=>cases a;show PySem.EqNone.eq_int_none (bF I q .c)
  |int j=>let⟨t',rfl⟩:=a;show eq_int (bF I q vn)
  |str j=>let⟨t',rfl⟩:=a;show PySem.EqMixed.eq_int_str (bF I q .c)
  |_=>show absurd (show Â=Á from b) ō
 |str i =>
  let⟨t,rfl⟩:=c;cases y with
  |non=>cases a;show PySem.EqNone.eq_str_none (bF I q .c)
  |bl j=>cases a;show PySem.EqMixed.eq_str_bool (bF I q .c)
  |int j=>let⟨t',rfl⟩:=a;show PySem.EqMixed.eq_str_int (bF I q .c)
  |str j=>let⟨t',rfl⟩:=a;show eq_str (bF I q F0)
  |_=>show absurd (show Â=Á from b) ō
 |byt i =>
  let⟨t,rfl⟩:=c;cases y with
  |byt j=>let⟨t',rfl⟩:=a;show PySem.W.eq_bytes (bF I q GG)
  |_=>show absurd (show Â=Á from b) ō
 |_=>cases y<;>show absurd (show Â=Á from b) ō
def UX:mx X (ç .NotEq) Yz:=by
 intro ZB s Y H x y v u Q I c a h;let⟨b,q⟩:=h;cases x with
 |non =>
  cases c;cases y with
  |non=>cases a;show PySem.EqNone.ne_none_none (bF I q .c)
  |bl j=>cases a;show PySem.EqNone.ne_none_bool (bF I q .c)
  |int j=>let⟨t',rfl⟩:=a;show PySem.EqNone.ne_none_int (bF I q .c)
  |str j=>let⟨t',rfl⟩:=a;show PySem.EqNone.ne_none_str (bF I q .c)
  |_=>show absurd (show Â=Á from b) ō
 |bl i =>
  cases c;cases y with
  |non=>cases a;show PySem.EqNone.ne_bool_none (bF I q .c)
  |bl j=>cases a;show ne_bool (bF I q (congrArg not KI))
  |str j=>let⟨t',rfl⟩:=a;show PySem.EqMixed.ne_bool_str (bF I q .c)
  |_=>show absurd (show Â=Á from b) ō
 |int i =>
  let⟨t,rfl⟩:=c;cases y with
  |non=>cases a;show PySem.EqNone.ne_int_none (bF I q .c)
  |int j=>let⟨t',rfl⟩:=a;show ne_int (bF I q (congrArg not vn))
  |str j=>let⟨t',rfl⟩:=a;show PySem.EqMixed.ne_int_str (bF I q .c)
  |_=>show absurd (show Â=Á from b) ō
 |str i =>
  let⟨t,rfl⟩:=c;cases y with
  |non=>cases a;show PySem.EqNone.ne_str_none (bF I q .c)
  |bl j=>cases a;show PySem.EqMixed.ne_str_bool (bF I q .c)
  |int j=>let⟨t',rfl⟩:=a;show PySem.EqMixed.ne_str_int (bF I q .c)
  |str j=>let⟨t',rfl⟩:=a;show ne_str (bF I q (congrArg not F0))
  |_=>show absurd (show Â=Á from b) ō
 |byt i =>
  let⟨t,rfl⟩:=c;cases y with
  |byt j=>let⟨t',rfl⟩:=a;show PySem.W.ne_bytes (bF I q (congrArg not GG))
  |_=>show absurd (show Â=Á from b) ō
 |_=>cases y<;>show absurd (show Â=Á from b) ō
def U_:mx X (ç .Lt) (M8 λi j=>.bl (decide (i<j))):=OL λ_ _ _ _ _ _ _ q=>lt_int q
def Ue:mx X (ç .LtE) (M8 λi j=>.bl (decide (i<=j))):=OL λ_ _ _ _ _ _ _ q=>le_int q
def VA:mx X (ç .Gt) (M8 λi j=>.bl (decide (j<i))):=OL λ_ _ _ _ _ _ _ q=>gt_int q
def Vv:mx X (ç .GtE) (M8 λi j=>.bl (decide (j<=i))):=OL λ_ _ _ _ _ _ _ q=>ge_int q
def LW(b:Ô)(h:op≠.In<|>zrb)(h2:op≠.NotIn<|>zrb):ü op b=Â:=by
 let e1:(op==CmpOp.In)=Â:=by cases op<;>first|rfl|show absurd rfl h
 let e2:(op==CmpOp.NotIn)=Â:=by cases op<;>first|rfl|show absurd rfl h2
 cases b<;>simp[ü,e1,e2]
def Nv(d:mx X (ç op) r)(ha:PE X a ta)(e:PE X b tb)(i:ü op b=Â):PE X (.Compare a [op] [b] pos) (Wa r ta tb):=by
 intro ZB s Y H Q I h;show wpAny_Compare1 (RU ha e I h λv u c x y H2 g j f q=>d ZB c Y H2 x y v u Q g j f q) i
def L5(t:TE):TT:=λY H Q=>t Y H λx H'=>∃k,x=.bl k/\Q k H'
def Oi(g:mx X (ç op) r)(ha:PE X a ta)(m:PE X b tb)(w:ü op b=Â):PT X (.Compare a [op] [b] pos) (L5 (Wa r ta tb)):=by
 intro ZB s Y H Q I h
 show wpAny_isTrue_Compare1 (cK (ha ZB s Y H _ I h) λv i ⟨x,H1,j,q,o⟩=>cK (m ZB i Y H1 _ j o) λu d ⟨y,H2,p,l,f⟩ =>
  cK (g ZB d Y H2 x y v u _ p q l f) λc C ⟨z,A,n,B,k,e,t⟩=>?_) w
 subst e;cases B;show ϝ #[A,n,t]
def Me(r r':R2)(ta tb tc:TE):TE:=λY H Q=>ta Y H λx H1=>tb Y H1 λy H2=>r x y H2 λz a=>∃k,z=.bl k /\
 (if k=Á then tc Y a λb c=>r' y b c Q else Q (.bl Â) a)
def MC{f:ũ}{r':R2}(p:mx X (ç op) r)(g:mx X (ç f) r')(ha:PE X a ta)(q:PE X b tb)(C:PE X c tc)
  (w:ŉ [op,f] [b,c]=Â<|>zrg):PE X (.Compare a [op,f] [b,c] pos) (Me r r' ta tb tc):=by
 intro ZB s Y H Q I h
 show Compare_chain (cK (ha ZB s Y H _ I h) λv G ⟨x,H1,J,α,t⟩=>chain_link (cK (q ZB G Y H1 _ J t) λu E ⟨y,H2,L,i,o⟩ =>
  cK (p ZB E Y H2 x y v u _ L α i o) λd N ⟨z,l,j,A,k,e,m⟩=>?_)) w
 subst e;cases A;show ϝ ?_;cases k with
 |false=>show ite_ff #[.bl Â,l,j,rfl,m]
 |true=>show ite_tt (chain_last (cK (C ZB N Y l _ j m) λF K ⟨D,P,O,n,B⟩=>g ZB K Y P y D u F Q O i n B))
def MA{f:ũ}{r':R2}(t:mx X (ç op) r)(g:mx X (ç f) r')(ha:PE X a ta)(w:PE X b tb)(E:PE X c tc)
  (B:ŉ [op,f] [b,c]=Â<|>zrg):PT X (.Compare a [op,f] [b,c] pos) (L5 (Me r r' ta tb tc)):=by
 intro ZB s Y H Q I h
 show isTrue_chain (cK (ha ZB s Y H _ I h) λv K ⟨x,H1,α,R,A⟩=>test_link (cK (w ZB K Y H1 _ α A) λu G ⟨y,H2,P,i,o⟩ =>
  cK (t ZB G Y H2 x y v u _ P R i o) λd S ⟨z,l,j,C,k,e,m⟩=>?_)) B
 subst e;cases C;show ϝ ?_;cases k with
 |false =>
  let⟨Z,L,W⟩:=m;cases L;show ite_ff #[l,j,W]
 |true =>
  show ite_tt (test_last (cK (E ZB S Y l _ j m) λJ N ⟨F,V,Γ,n,D⟩=>cK (g ZB N Y V y F u J _ Γ i n D) λd' s5 ⟨σ,p,T,q,k2,e2,O⟩=>?_));subst e2;cases q;show ϝ #[p,T,O]
def Ar:(sizeLine:Nat)<2^63:=by rw[agq];decide
def vals1{x:V}(r:Vals [x] us):∃u,us=[u]/\RelV x u:=by
 cases r with
 |cons b a=>cases a;show#[_,rfl,b]
def vals2{x y:V}(r:Vals [x,y] us):∃u a,us=[u,a]/\RelV x u/\RelV y a:=by
 cases r with
 |cons c d =>
  cases d with
  |cons e b=>cases b;show#[_,_,rfl,c,e]
def L8:jy X (.builtin "abs") (λxs H Q=>∃i,xs=[.int i]/\Q (.int (if i<0 then -i else i)) H):=by
 intro ZB s Y H xs us Q I r h;let⟨i,rfl,q⟩:=h;let⟨u,rfl,t,rfl⟩:=vals1 r;show call_abs_int λu tk=>#[.int (if i<0 then -i else i),H,I.tok _,#[_,rfl],q]
def Hj(b:X.calm=Á):jy X (.builtin "max") (λxs H Q=>∃i j,xs=[.int i,.int j]/\Q (.int (if j>i then j else i)) H):=by
 intro ZB s Y H xs us Q I r h;let⟨i,j,rfl,q⟩:=h;let⟨u,c,rfl,⟨t,rfl⟩,⟨t',rfl⟩⟩:=vals2 r;show max_two_ints (I.ok.hd b) λh' tk k=>#[_,H,I.kept k,?_,q];by_cases a:j>i
 .rw[adI a,adI a];show#[_,rfl]
 .rw[adF a,adF a];show#[_,rfl]
def HP(b:X.calm=Á):jy X (.builtin "min") (λxs H Q=>∃i j,xs=[.int i,.int j]/\Q (.int (if j<i then j else i)) H):=by
 intro ZB s Y H xs us Q I r h;let⟨i,j,rfl,q⟩:=h;let⟨u,c,rfl,⟨t,rfl⟩,⟨t',rfl⟩⟩:=vals2 r;show min_two_ints (I.ok.hd b) λh' tk k=>#[_,H,I.kept k,?_,q];by_cases a:j<i
 .rw[adI a,adI a];show#[_,rfl]
 .rw[adF a,adF a];show#[_,rfl]
variable{prog:Ð}{w:Ø}{A:å}{E:Å->Æ->Prop}{s:Æ}{K:Ã}{x dx C f:Ç}{mA:Ì->Option Å}{name:Ì}{v:Å}
end
section
variable{P:Ð}{w:Ø}{H H':Hp}{h h':Û}{a C dx:Ç}{fs fs':List (Ì×V)}
variable{X:Cx}{ZB:List (Ç×ÿ)}{Y:St}{s:Æ}{f:Ì}{v:V}{A:å}{E:Å->Æ->Prop}
variable{o e value:Ô}{pos pos' tpos:ð}{ta tv:TE}
variable{Q:Å->Æ->Prop}{c:Å}{b:Bool}
end
structure c7(k:Nat)(A:å):Prop where
 hd:A.handled=none
 dp:A.depth+3*k+5<recursionLimit
 un:A.units+16*k+200<Κ
def c7.mono{j:Nat}(r:c7 k A)(h:j<=k):c7 j A:=#[r.hd,by let:=r.dp;lia,by let:=r.un;lia]
def c7.deeper{k:Nat}{A:å}(r:c7 (k+1) A)(env:ő):c7 k (A.deeper env) :=
 #[r.hd,by let:=r.dp;change A.depth+1+3*k+5<_;lia,by let:=r.un;change A.units+3+16*k+200<_;lia]
def c7.depth{k:Nat}{A:å}(r:c7 k A):A.depth<recursionLimit:=by let:=r.dp;lia
def Vr:TA:=λ_ H Q=>Q [] H
def VI(ta:TE)(tr:TA):TA:=λY H Q=>ta Y H λx H1=>tr Y H1 λxs H2=>Q (x::xs) H2
section
variable{X:Cx}{e:Ô}{es:List Ô}{te:TE}{t:TA}{pos:ð}
def aV:PA X [] Vr:=λ_ _ _ _ H Q I h=>Ϛ #[[],H,I,.nil,h]
def aC(ha:PE X e te)(k:PA X es t)(a:Ä (e::es) X.env=(Â,Õ e X.env)::Ä es X.env<|>zra):PA X (e::es) (VI te t):=by
 intro pos ZB s Y H Q I h;rw[a];change Ë _ _ (spliced ((Â,Õ e X.env)::ã pos (Ä es X.env))) _ _ s;show ύ (cK (ha ZB s Y H _ I h) λu c ⟨x,H1,d,j,g⟩=>?_);show cK (k pos ZB c Y H1 _ d g) λus l ⟨xs,H2,i,f,b⟩=>#[x::xs,H2,i,.cons j f,b]
def X0(t:TA):TE:=λY H Q=>t Y H λxs H1=>~~~xs<=sizeLine/\∀p,H1 p=none->Q (.ref p) (upd H1 p (.tup xs))
def X7(t:TA):TE:=λY H Q=>t Y H λxs H1=>~~~xs<=sizeLine/\∀p,H1 p=none->Q (.ref p) (upd H1 p (.lst xs))
def Lz{x1}(h:PA X es t):PE X (.Tuple es x1 pos) (X0 t):=by
 intro ZB s Y H Q I d;show wpAny_Tuple_spliced (cK (h pos ZB s Y H _ I d) λus a ⟨xs,H1,c,r,z,q⟩=>#[by rwa[<-~~~r],?_]);let f:H1 a⁻¹=none:=c.hok.fresh (Ā _);show#[.ref a⁻¹,upd H1 a⁻¹ (.tup xs),c.laid (t':=a.toks) (λb u e=>Ĩ _ e) (Ā _) ?_,rfl,q _ f];show#[z,us,r,#[_,Ŕ _ rfl,rfl,_,rfl]]
def Ap(h:PA X es t):PE X (.List es pos) (X7 t):=by
 intro ZB s Y H Q I d;show wpAny_List_spliced (cK (h pos ZB s Y H _ I d) λus a ⟨xs,H1,c,r,z,q⟩=>#[by rwa[<-~~~r],?_]);let f:H1 a⁻¹=none:=c.hok.fresh (Ā _);show#[.ref a⁻¹,upd H1 a⁻¹ (.lst xs),c.laid (t':=a.toks) (λb u e=>Ĩ _ e) (Ā _) ?_,rfl,q _ f];show#[z,us,0,r,Ŕ _ rfl]
end
abbrev Sp:=List V->Hp->VK->XK->Prop
abbrev Hm:=List ő->Hp->Æ->XK->Å->Æ->Prop
structure OD(P:Ð)(w:Ø)(K:Ã)(mg:Ì->Option Å)(base:Û)(A:å)(outer:List ő)(s:Æ)(H:Hp):Prop where
 frames:A.frames=À outer
 mod:Mod K mg base
 bs:∀b o,base.get? b=À o->s.heap.get? b=À o/\H b=none
 bsz:base.objs.size<=s⁻¹
 oS:s.heap.FunFrames base outer
 frf:∀b∈xO outer,H b=none
 hok:vo P w H s.heap
 bare:Ĵ s.gens
def CE(outer:List ő)(P:Ð)(w:Ø)(H:Hp)(s:Æ)(Q:VK)(u:Å)(s':Æ):Prop :=
 ∃v H',s'.os=s.os/\Ĵ s'.gens/\Un (xO outer) [] H H' s.heap s'.heap/\vo P w H' s'.heap/\RelV v u/\Q v H'
def CR(CX:Hm)(outer:List ő)(P:Ð)(w:Ø)(H:Hp)(s:Æ)(Q:VK)(E:XK)(r:ϩ)(s':Æ):Prop :=
 match r with
 |.ok (.ret u)=>CE outer P w H s Q u s'
 |.ok _=>False
 |.error e=>CX outer H s E e s'
structure dC(P:Ð)(w:Ø)(K:Ã)(mg:Ì->Option Å)(base:Û)(CX:Hm)(k:Nat)(f:Ç)(fd:í)(ps:List Ì)(sp:Sp):Prop where
 len:∀vs H Q E,sp vs H Q E->~~~vs= ~~~ps
 run:∀(A:å) (outer:List ő) (s:Æ) (H:Hp) (args:Args) (us:List Å) (vs:List V) (Q:VK) (E:XK),c7 k A->⇑OD A outer s H->Ō s fd args (ps.zip us)->Vals vs us->sp vs H Q E ->
  ě (Î P w) A (.call (.ref f) args) (CR CX outer P w H s Q E) s
section
variable{X:Cx}{ZB:List (Ç×ÿ)}{Y:St}{H:Hp}{s s':Æ}
def Inv.VJ(I:Inv X ZB Y H s):OD X.prog X.w X.K X.mg X.base X.A X.stack s H :=
 #[I.ok.frames,I.ok.mod,I.bs,Ń I.ok.bsz I.sz,I.stack,I.A6,I.hok,I.bare]
def Inv.after(I:Inv X ZB Y H s)(h:CE X.stack X.prog X.w H s Q u s'):EP X ZB Y Q u s':=by
 let⟨v,H',os,bare,un,a,r,q⟩:=h;let⟨e,g,d,t,c⟩:=s';obtain rfl:c=s.os:=os;show#[v,H',I.call (h':=e) (g':=g) (d':=d) (t':=t) (ch:=[]) un a bare (λb z=>absurd z .c),r,q]
end
def Qh(sp:Sp)(dvs:List V)(E:XK)(t:TA):TE:=λY H Q=>t Y H λvs H1=>sp (vs++dvs) H1 Q E
def Binds(K:Ã)(fd:í)(ps:List Ì)(ds:List Å):Prop :=
 ∀(s:Æ) (us:List Å),K.In s.heap->~~~(us++ds)= ~~~ps->Ō s fd #[us,[]] (ps.zip (us++ds))
def Binds.all{fd:í}{ps:List Ì}(h:∀us:List Å,~~~us= ~~~ps->ĥ fd #[us,[]]=pure (ps.zip us)):Binds K fd ps []:=λs us _ a=>by
 rw[afD] at a ⊢;show .of_eq (h us a)
def Passes(CX:Hm)(X:Cx)(E:XK):Prop:=∀(ZB:List (Ç×ÿ)) (Y:St) (H:Hp) (s:Æ) (e:Å) (s':Æ),Inv X ZB Y H s->CX X.stack H s E e s'->X.xe e s'
section
variable{X:Cx}{CX:Hm}{k:Nat}{f C:Ç}{fd:í}{ps:List Ì}{sp:Sp}{dvs:List V}{ds:List Å}{E:XK}{x m:Ì}{p pos apos:ð}{e o:Ô}{es:List Ô}{ta:TE}{t:TA}
def Ja{vs:List V}(F:dC X.prog X.w X.K X.mg X.base CX k f fd ps sp)(l:c7 k X.A)(i:Binds X.K fd ps ds)(d:Vals dvs ds)(g:Passes CX X E)
  (I:Inv X ZB Y H s) (r:Vals vs us) (h:sp (vs++dvs) H Q E):Ë .E X.A (call (.ref f) us) (EP X ZB Y Q) X.xe s:=by
 let b:Vals (vs++dvs) (us++ds):=r.append d;let j: ~~~(us++ds)= ~~~ps:=by rw[<-~~~b];show F.len _ _ _ _ h
 show ah2 (ags (F.run X.A X.stack s H #[us,[]] (us++ds) (vs++dvs) Q E l I.VJ (i s us I.Jd j) b h) λr s' a=>?_);cases r with
 |error e=>show g ZB Y H s e s' I a
 |ok c =>
  cases c with
  |ret u=>show I.after a
  |next=>show ù a
  |brk=>show ù a
  |cont=>show ù a
def d9(F:dC X.prog X.w X.K X.mg X.base CX k f fd ps sp)(l:c7 k X.A)(g:Gl X x)(m:X.mg x=À (.ref f))(j:ø X.K (.ref f)=Á)(i:Binds X.K fd ps ds)(c:Vals dvs ds)(d:Passes CX X E)
  (ha:PA X (e::es) t) (a:(x==("__debug__":Ì))=Â<|>zrb) (he:Ä (e::es) X.env=(Â,Õ e X.env)::Ä es X.env<|>zra) (hpl:(ã pos (Ä es X.env)).any (·.1)=Â<|>zra):
  PE X (.Call (.Name x p) (e::es) [] pos) (Qh sp dvs E t):=by
 intro ZB s Y H Q I h;show afw (oI I g m ?_ a);show Μ (h₀:=X.base) I.ok.mod.kin j (cK (ha pos ZB s Y H _ I h) λus n ⟨vs,H1,b,r,q⟩=>#[b.Jd,?_]) he hpl;show Ja F l i c d b r q
def JF(F:dC X.prog X.w X.K X.mg X.base CX k f fd ps sp)(c:c7 k X.A)(g:Gl X x)(d:X.mg x=À (.ref f))(j:ø X.K (.ref f)=Á)(i:Binds X.K fd ps ds)(b:Vals dvs ds)(e:Passes CX X E)
  (a:(x==("__debug__":Ì))=Â<|>zrb):PE X (.Call (.Name x p) [] [] pos) (Qh sp dvs E Vr):=by
 intro ZB s Y H Q I h;show afw (oI I g d ?_ a);show PySem.W.callWith_K0 I.Jd j (Ja (us:=[]) F c i b e I .nil h)
variable{ks:List Ì}{kpos:ð}{kws:List ϰ}{te:TE}{tk:TA}{nm:Option Ì}{g:List Å->List Å->List Å}{gV:List V->List V->List V}
end
structure ao(N P:List Ì)(sc:Ć):Prop where
 kind:sc.kind=.function
 co:sc.isCoroutine=Â
 gen:sc.isGenerator=Â
 nd:N.Nodup
 pre:N.take (~~~P)=P
 par:∀x∈P,sc.names.lookup x=À .local\/sc.names.lookup x=À .cell
 nofree:∀y∈sc.names,y.2≠.free
theorem yH{kindOf:Ì->Option ó}{x:Ì}:∀{binds:List (Ì×Å)} {m:Ì->Option Å},(∀v,(x,v)∉binds)->ϓ kindOf binds m x=m x
 |[],_,_=>rfl
 | (n,v) :: r,m,h=>by
  unfold ϓ;rw[yH λw a=>h w (ę _ a)];split
  .let:x≠n:=by rintro rfl;show h v ġ
   simp[this]
  .rfl
theorem yt{kindOf:Ì->Option ó}{x:Ì}:∀{binds:List (Ì×Å)} {m:Ì->Option Å},(∀v,(x,v)∉binds)->ϔ kindOf binds m x=m x
 |[],_,_=>rfl
 | (n,v) :: r,m,h=>by
  unfold ϔ;rw[yt λw a=>h w (ę _ a)];split
  .rfl
  .let:x≠n:=by rintro rfl;show h v ġ
   simp[this]
theorem yJ{kindOf:Ì->Option ó}{x:Ì}{v:Å}:∀{P:List Ì} {vs:List Å} {i:Nat} {m:Ì->Option Å},P.Nodup->P[i]?=À x->vs[i]?=À v->kindOf x=À .local ->
  ϓ kindOf (P.zip vs) m x=À v
 |[],_,_,_,_,h,_,_=>by simp at h
 |_::_,[],_,_,_,_,h,_=>by simp at h
 |p::P,w::vs,0,m,b,h1,h2,a=>by
  simp at h1 h2;subst h1;subst h2;change ϓ kindOf ((p,w)::P.zip vs) m p=_;unfold ϓ;rw[yH λv c=>(afc.mp b).1 (ahu c).1,adI a];simp
 |p::P,w::vs,i+1,m,b,h1,h2,a=>by
  change ϓ kindOf ((p,w)::P.zip vs) m x=_;unfold ϓ;show yJ (i:=i) (afc.mp b).2 ↑h1 ↑h2 a
theorem yq{kindOf:Ì->Option ó}{x:Ì}{v:Å}:∀{P:List Ì} {vs:List Å} {i:Nat} {m:Ì->Option Å},P.Nodup->P[i]?=À x->vs[i]?=À v->kindOf x≠À .local ->
  ϔ kindOf (P.zip vs) m x=À v
 |[],_,_,_,_,h,_,_=>by simp at h
 |_::_,[],_,_,_,_,h,_=>by simp at h
 |p::P,w::vs,0,m,b,h1,h2,a=>by
  simp at h1 h2;subst h1;subst h2;change ϔ kindOf ((p,w)::P.zip vs) m p=_;unfold ϔ;rw[yt λv c=>(afc.mp b).1 (ahu c).1,adF a];simp
 |p::P,w::vs,i+1,m,b,h1,h2,a=>by
  change ϔ kindOf ((p,w)::P.zip vs) m x=_;unfold ϔ;show yq (i:=i) (afc.mp b).2 ↑h1 ↑h2 a
noncomputable def start(N:List Ì)(vs:List V):St:=vs.map À++Ý (~~~N-~~~vs) none
noncomputable def vS(CX:Hm)(P:Ð)(w:Ø)(K:Ã)(mg:Ì->Option Å)(base:Û)(N:List Ì)(qual:Ì)(Ze:Ć)(f:Ç)(cd:Å)(A:å)(outer:List ő)(s:Æ)(H:Hp)(E:XK):Cx where
 prog:=P
 w:=w
 K:=K
 mg:=mg
 base:=base
 A:=A.deeper (ħ qual Ze s⁻¹ f cd)
 N:=N
 s₀:=s
 H₀:=H
 env:=ħ qual Ze s⁻¹ f cd
 outer:=outer
 stack:=ħ qual Ze s⁻¹ f cd::outer
 ex:=[]
 calm:=Á
 fn:=λ_=>Á
 pn:=[]
 xe:=λe s'=>Ë (Î P w) (A.deeper (ħ qual Ze s⁻¹ f cd)) (leaving (ħ qual Ze s⁻¹ f cd) e) (λ_ a=>CX outer H s E e a) (λb a=>CX outer H s E b a) s'
def Cb{a:Ć}(h:a.names.lookup x=À .cell):∃c,(ì n a.names []).lookup x=À c:=by
 let q:=agE a.names n [] (.inl h);show afR.mp q
def G0{CX:Hm}{mg:Ì->Option Å}{base:Û}{N ps:List Ì}{qual:Ì}{Ze:Ć}{f:Ç}{cd:Å}{outer:List ő}{m:Æ}{E:XK}{vs:List V}
  (S:ao N ps Ze) (C:A.handled=none) (d:⇑OD A outer s H) (D: ~~~vs= ~~~ps) (r:Vals vs us)
  (x:InCallC s s⁻¹ (ϓ (ħ qual Ze s⁻¹ f cd).kindOf (ps.zip us) λ_=>none) (ì (s⁻¹+1) Ze.names []) (ϔ (ħ qual Ze s⁻¹ f cd).kindOf (ps.zip us) λ_=>none) m):
  Inv (vS CX P w K mg base N qual Ze f cd A outer s H E) [] (start N vs) H m:=by
 let hpl: ~~~ps<= ~~~N:=by let:=congrArg List.length S.pre;rw[ϟ] at this;lia
 let⟨h1,tk,rfl,o⟩:=x.done;let g:∀b:Ç,b∉(vS CX P w K mg base N qual Ze f cd A outer s H E).ex:=λb z=>absurd (show b∈([]:List Ç) from z) .c
 show#[#[d.mod,S.kind,rfl,rfl,Ā _,λy z c h1 h2=>?_,λy j=>?_,λy c _ h=>?_,λ_=>C,Around.frames_deeper d.frames,.inr #[rfl,rfl],λb z=>absurd z (g b),d.bs,d.bsz,λb _ _=>g b,λb z=>absurd z (g b),d.oS,d.frf],
  rfl,d.bare,Un.kept o,#[_,x.toInCall.ns,λi y v h1 h2 F=>?_],λy c h=>#[_,x.cell y c h],d.hok.fresh (Ā _),λy c h=>?_,λp hp=>absurd (show p∈([]:List (Ç×ÿ)) from hp) .c,d.hok.kept o,?_]
 .show name_of_addr x.apart (af0 h1) (af0 h2)
 .let j:Ze.names.lookup y=À .cell\/Ze.names.lookup y=À .free:=j;obtain j|j:=j
  .show Cb j
  .show absurd rfl (S.nofree _ (af0 j))
 .show ź (x.above y c (af0 h))
 .let hi:i<~~~vs:=by
   unfold start at h2;by_cases hi:i<~~~vs
   .show hi
   .rw[ae_ ↑hi] at h2;rw[List.getElem?_replicate] at h2;split at h2<;>cases h2
  let ha:vs[i]?=À v:=by
   unfold start at h2;rw[afg ↑hi,ł] at h2;cases e:vs[i]? with
   |none=>rw[e] at h2;cases h2
   |some a=>rw[e] at h2;cases h2;rfl
  let⟨u,t,B⟩:=r.get ha
  let hp:ps[i]?=À y:=by
   rwa[<-S.pre,ag4 .b]
  let l:ps.Nodup:=by rw[<-S.pre];show S.nd.sublist (Ϭ _ _)
  show#[u,B,?_];obtain k|k:=S.par y (Į hp)
  .show .inl #[k,yJ l hp t k]
  .let⟨c,e⟩:=Cb (n:=s⁻¹+1) k;show .inr #[.inl k,c,e,?_];let q:=x.cell y c e;rw[yq l hp t (by change Ze.names.lookup y≠_;rw[k];decide)] at q;show q
 .show d.hok.fresh (ź (x.above y c (af0 h)))
 .unfold start;change _= ~~~N;rw[Ř,ċ,air];lia
def Ql{CX:Hm}{mg:Ì->Option Å}{base:Û}{f:Ç}{name qual:Ì}{params:Arguments}{Ze:Ć}{z kV doc B a ct α:Å}{C od:Option Ç}
  {m:Array (Option Å)} {N ps:List Ì} {sp:Sp} (lk:K.lookup f=À #[α,od,.func (á name qual params body Ze z kV doc B C a ct),m]) (j:ģ K a qual=Á) (S:ao N ps Ze)
  (len:∀vs H Q E,sp vs H Q E->~~~vs= ~~~ps)
  (c:∀(A:å) (outer:List ő) (s:Æ) (H:Hp) (vs:List V) (Q:VK) (E:XK),c7 k (A.deeper (ħ qual Ze s⁻¹ f a))->sp vs H Q E ->
   ∃t,ui (vS CX P w K mg base N qual Ze f a A outer s H E) body t/\t {nx:=λ_ H'=>Q .non H',rt:=Q} (start N vs) H):
  dC P w K mg base CX (k+1) f (á name qual params body Ze z kV doc B C a ct) ps sp:=by
 show#[len,λA outer s H args us vs Q E p h L r i=>?_];let O:=len _ _ _ _ i;let F:K.In s.heap:=h.mod.kin.keeps λb o e=>(h.bs b o e).1;let lim:s.heap.NoLimit:=h.mod.nolimit.keeps λb o e=>(h.bs b o e).1
 let d:∀y∈ps.zip us,Ze.names.lookup y.1=À .local\/(Ze.names.lookup y.1=À .cell/\((ì (s⁻¹+1) Ze.names []).lookup y.1).isSome=Á):=fun(n,v) Γ=>by
  obtain q|q:=S.par n (ahu Γ).1
  .show .inl q
  .show .inr #[q,agE _ _ _ (.inl q)]
 show codeAny_call_function p.depth (F _ _ lk) rfl S.co S.gen rfl (PySem.W.codeRec_of F j) (L _ _ _ _ ?_);show wpAny_newFunctionEnv_cells S.kind d λenv he D x=>?_;subst he;show#[lim.keeps x.toInCall.keep,codeAny_func ?_];let⟨t,T,G⟩:=c A outer s H vs Q E (p.deeper _) i;let I:Inv (vS CX P w K mg base N qual Ze f a A outer s H E) [] (start N vs) H D:=G0 S p.hd h O r x;show Ρ (T [] D (start N vs) H _ I G) (λR s' g=>?_) λe s' g=>g
 let fin:∀{Y':St} {H':Hp} {v:V} {u:Å},Inv (vS CX P w K mg base N qual Ze f a A outer s H E) [] Y' H' s'->RelV v u->Q v H'->CE outer P w H s Q u s' :=
  λ{Y' H' v u} J l q=>#[v,H',J.os,J.bare,J.base,J.hok,l,q]
 cases R with
 |ret u =>
  let⟨v,Y',H',J,l,q⟩:=g;show fin J l q
 |next =>
  let⟨Y',H',J,q⟩:=g;show fin (v:=V.non) (u:=ā) J rfl q
 |brk =>
  let⟨_,_,_,q⟩:=g;show ù q
 |cont =>
  let⟨_,_,_,q⟩:=g;show ù q
section
variable{X:Cx}{x:Ì}{p pos:ð}{e:Ô}{es:List Ô}{t:TA}{id T:String}{r:List V->Hp->VK->Prop}
def Ya(r:List V->Hp->VK->Prop)(t:TA):TE:=λY H Q=>t Y H λvs H1=>r vs H1 Q
def d7(l:jy X (.builtin id) r)(d:Gl X x)(j:X.mg x=none)(c:Ĝ x=À (.builtin id))(ha:PA X (e::es) t)(k:x≠"__name__"<|>zrb)(a:(x==("__debug__":Ì))=Â<|>zrb)
  (he:Ä (e::es) X.env=(Â,Õ e X.env)::Ä es X.env<|>zra) (hpl:(ã pos (Ä es X.env)).any (·.1)=Â<|>zra):PE X (.Call (.Name x p) (e::es) [] pos) (Ya r t):=by
 intro ZB s Y H Q I h;show afw (je I d j c ?_ k a);show ahv (cK (ha pos ZB s Y H _ I h) λus b ⟨vs,H1,f,i,g⟩=>l ZB b Y H1 vs us Q f i g) he hpl
def tO(l:jy X (.type T) r)(d:Gl X x)(j:X.mg x=none)(c:Ĝ x=À (.type T))(ha:PA X (e::es) t)(k:x≠"__name__"<|>zrb)(a:(x==("__debug__":Ì))=Â<|>zrb)
  (he:Ä (e::es) X.env=(Â,Õ e X.env)::Ä es X.env<|>zra) (hpl:(ã pos (Ä es X.env)).any (·.1)=Â<|>zra):PE X (.Call (.Name x p) (e::es) [] pos) (Ya r t):=by
 intro ZB s Y H Q I h;show afw (je I d j c ?_ k a);show afm (cK (ha pos ZB s Y H _ I h) λus b ⟨vs,H1,f,i,g⟩=>l ZB b Y H1 vs us Q f i g) he hpl
end
end L2
namespace HT
open PySem PyProof.Rows
section
open PySem.SeqAt
open PySem.AutoSeq1 (wpAny_loadPart')
open PySem.MeetsSeq PySem.MeetsSeq2 PySem.MeetsSeq3
end
section
variable{prog:Ð}{w:Ø}{A:å}{E:Å->Æ->Prop}{s:Æ}
noncomputable def gb(n d:Nat):Option Int->Nat
 |none=>d
 |some v=>if v<0 then ↥(v+(n:Int)) else min ↥v n
def mz(n d:Nat):gb n d none=d:=rfl
def qk(n d k:Nat):gb n d (À (k:Int))=min k n:=by
 change(if (k:Int)<0 then ↥((k:Int)+(n:Int)) else min ↥(k:Int) n)=min k n;rw[adF .b,Ó]
def S9(n d:Nat)(b:d<=n)(o:Option Int):gb n d o<=n:=by
 cases o with
 |none=>show b
 |some v =>
  change(if v<0 then ↥(v+(n:Int)) else min ↥v n)<=n;by_cases a:v<0
  .rw[adI a];lia
  .rw[adF a];show Nat.min_le_right _ _
def EK(v:Int)(n d:Nat):(if v<0 then max (v+(n:Int)) 0 else min v (n:Int))=((gb n d (À v):Nat):Int):=by
 change(if v<0 then max (v+(n:Int)) 0 else min v (n:Int))=(((if v<0 then ↥(v+(n:Int)) else min ↥v n):Nat):Int);by_cases a:v<0
 .simp only[adI a];lia
 .simp only[adF a];lia
def DG(lo hi:Option Int)(n:Nat):Ğ lo hi 1 (n:Int)=(((gb n 0 lo:Nat):Int),((gb n n hi:Nat):Int)):=by
 let h1:¬(.M<0):=.b
 unfold Ğ;simp only[h1,agQ];show ahI ?_ ?_
 .cases lo with
  |none=>rfl
  |some v=>show EK v n 0
 .cases hi with
  |none=>rfl
  |some v=>show EK v n n
def Dm(i j:Nat):Ą (i:Int) (j:Int) 1=j-i:=by
 unfold Ą;let h1:.M>0:=.b
 simp only[h1,agz,Int.ediv_one];split<;>lia
def xm{v:Å}{o:Option Int}{Q:Option Int->Æ->Prop}(p:ŵ v o)(h:Q o s):Ë (Î prog w) A (Builtin.Slice.slicePartIndex v) Q E s:=by
 cases p with
 |none=>show slicePart_none h
 |int i t=>show slicePart_int h
def tu{sl:Ç}{d c:Å}{lo hi:Option Int}{n:Nat}{Q:Int×Int×Nat->Æ->Prop}(e:s.heap.IsSliceOf sl d c .none)(pl:ŵ d lo)(pu:ŵ c hi)
  (h:Q (((gb n 0 lo:Nat):Int),1,gb n n hi-gb n 0 lo) s):Ë (Î prog w) A (ľ (.ref sl) (pure (n:Int))) Q E s:=by
 let⟨os,b,f,a⟩:=id e;unfold ľ Builtin.Slice.sliceFields;show Ü (Ü (agV b a (x:=d) rfl (Ü (agV b a (x:=c) rfl (Ü (agV b a (x:=.none) rfl (û ?_)))))));show Ü (slicePart_none ?_);change Ë _ _ (if (.M==0)=Á then _ else _) _ _ s;rw[adF .a];show Ü (xm pl (Ü (xm pu (Ü (û ?_)))));change Ë _ _ (match Ğ lo hi 1 (n:Int) with|(lo,hi)=>pure (lo,.M,Ą lo hi 1)) _ _ s;rw[DG lo hi n];change Ë _ _ (pure (((gb n 0 lo:Nat):Int),.M,Ą ((gb n 0 lo:Nat):Int) ((gb n n hi:Nat):Int) 1)) _ _ s;rw[Dm];show û h
def JU(xs:Array Å)(i k:Nat):((Ö k).filterMap fun(m:Nat)=>xs[↥((i:Int)+(m:Int)*1)]?).toArray=((xs.toList.drop i).take k).toArray:=by
 let e:(fun(m:Nat)=>xs[↥((i:Int)+(m:Int)*1)]?)=λm=>xs[i+m]?:=by
  funext m;let:↥((i:Int)+(m:Int)*1)=i+m:=.b
  rw[this]
 rw[e];let:=pick_run xs i k;rw[List.filterMap_map] at this;let e2:((λx=>xs[x]?)∘λx=>i+x)=λm=>xs[i+m]?:=rfl;rw[e2] at this;rw[this]
def qB{t sl:Ç}{items:Array Å}{j i:Å}{lo hi:Option Int}{Q:Å->Æ->Prop}(b:IsTup s.heap t items)(g:s.heap.IsSliceOf sl j i .none)(pl:ŵ j lo)(pu:ŵ i hi)
  (n:¬(gb items.size 0 lo=0/\gb items.size items.size hi=items.size))
  (h:Q (.ref s⁻¹) {s with heap:=s.heap.push {cls:=.type "tuple",data:=.seq ((items.toList.drop (gb items.size 0 lo)).take (gb items.size items.size hi-gb items.size 0 lo)).toArray}})
  (l:items.size<=sizeLine):Ë (Î prog w) A (ϧ (.ref t) (.ref sl)) Q E s:=by
 let a:sizeOk (.seq ((items.toList.drop (gb items.size 0 lo)).take (gb items.size items.size hi-gb items.size 0 lo)).toArray):=by
  change((items.toList.drop (gb items.size 0 lo)).take (gb items.size items.size hi-gb items.size 0 lo)).toArray.size<=sizeLine;rw[ņ,ϟ,Ϟ,ŝ];omega
 let r:gb items.size items.size hi<=items.size:=S9 _ _ (Ā _) hi;let⟨os,f,c,k⟩:=id g;let e:s.TypeIs (.ref sl) "slice":=#[os,f,c];unfold ϧ
 try with_reducible show ϒ ?_
 first|show Ü (û ?_)|skip
 show Ü (wpAny_sequenceKey b.typeIs .a ?_)
 show Ü (afY (name:=ă "__getitem__") b.typeIs agy
  (afJ agy b.typeIs entry_tuple_getitem ?_ (args_tuple_getitem _ _)))
 change Ë _ _ (Builtin.Tuple.tupleItemsOf (.ref t) >>= _) _ _ s;show Ü (tupleItemsOf_ b ?_);show Ü (Ϡ e ?_);rw[adI .a];show Ü (tu g pl pu ?_)
 let d:¬((((gb items.size 0 lo:Nat):Int)==0&&.M==1&&(gb items.size items.size hi-gb items.size 0 lo)==items.size)=Á):=by
  intro q;rw[ŷ,ŷ] at q;let p:((gb items.size 0 lo:Nat):Int)=0:=eq_of_beq q.1.1;let o:gb items.size items.size hi-gb items.size 0 lo=items.size:=eq_of_beq q.2;show n #[.f,.f]
 change Ë _ _ (if (((gb items.size 0 lo:Nat):Int)==0&&.M==1&&(gb items.size items.size hi-gb items.size 0 lo)==items.size)=Á then _ else _) _ _ s;rw[adF d,JU]
 first
  |show Ü (m:=Ĉ _) (afh (û ⟨_,rfl,û h⟩) a)
  |show Ü (m:=Ĉ _) (afh (Ü (û (û ⟨_,rfl,û h⟩))) a)
  |show Ü (Ü (m:=Ĉ _) (afh (û (û ⟨_,rfl,û h⟩)) a))
  |show Ü (Ü (m:=Ĉ _) (afh (û ⟨_,rfl,û h⟩) a))
end
end HT
namespace L2
open PySem PySem.Spec PyProof.Rows
variable{n:Nat}{s:Æ}{YU:List Å}{x:V}
abbrev TO:=St->Hp->(Option Int->Hp->Prop)->Prop
def PO(X:Cx)(e:Option Ô)(t:TO):Prop :=
 ∀(ZB:List (Ç×ÿ)) (s:Æ) (Y:St) (H:Hp) (Q:Option Int->Hp->Prop),Inv X ZB Y H s->t Y H Q ->
  Ë .E X.A (evalPart e X.env) (λu s'=>∃o H',Inv X ZB Y H' s'/\ŵ u o/\Q o H') X.xe s
def OY:TO:=λ_ H Q=>Q none H
def Ut(t:TE):TO:=λY H Q=>t Y H λx H1=>∃i,x=.int i/\Q (À i) H1
def intsAre_of{ns:.L}:∀{us:List Å},Vals (ns.map V.int) us->ñ us ns:=by
 induction ns with
 |nil=>intro us r;rw[agt] at r;cases r;show .nil
 |cons n ns a =>
  intro us r;rw[ů] at r;cases r with
  |cons b c =>
   let⟨t,e⟩:=b;subst e;show .cons n t (a c)
section
variable{X:Cx}{e:Ô}{te:TE}{lo hi:Option Ô}{tl th:TO}{pos p2:ð}
def qX:PO X none OY:=by
 intro ZB s Y H Q I h;rw[evalPart_none];show û #[none,H,I,.none,h]
def rR(h:PE X e te):PO X (À e) (Ut te):=by
 intro ZB s Y H Q I c;rw[evalPart_some];show cK (h ZB s Y H _ I c) λu f ⟨x,H1,d,b,a⟩=>?_;let⟨i,rfl,q⟩:=a;let⟨t,rfl⟩:=b;show#[À i,H1,d,.int i t,q]
def XQ(X:Cx)(r:V->Option Int->Option Int->Hp->VK->Prop):Prop :=
 ∀(ZB:List (Ç×ÿ)) (s:Æ) (Y:St) (H:Hp) (x:V) (v b a:Å) (lo hi:Option Int) (sl:Ç) (Q:VK),Inv X ZB Y H s->RelV x v->s.heap.IsSliceOf sl b a .none->ŵ b lo->ŵ a hi->r x lo hi H Q ->
  ∃T id,typeLookup (.type T) "__getitem__"=pure (À (.builtin id))/\s.TypeIs v T/\Ë .E X.A (ϧ v (.ref sl)) (EP X ZB Y Q) X.xe s
def Yo(r:V->Option Int->Option Int->Hp->VK->Prop)(te:TE)(tl th:TO):TE:=λY H Q=>te Y H λx H1=>tl Y H1 λl H2=>th Y H2 λu a=>r x l u a Q
def nA{r:V->Option Int->Option Int->Hp->VK->Prop}(D:XQ X r)(he:PE X e te)(n:PO X lo tl)(o:PO X hi th):PE X (.Subscript e (.Slice lo hi none p2) pos) (Yo r te tl th):=by
 intro ZB s Y H Q I h;show Subscript_ (cK (he ZB s Y H _ I h) λv y ⟨x,H1,z,C,k⟩=>?_);show wpAny_Slice (cK (n ZB y Y H1 _ z k) λd p ⟨l,H2,B,pl,g⟩=>cK (o ZB p Y H2 _ B g) λc a ⟨u,f,j,pu,E⟩=>?_);rw[evalPart_none];show û ?_;let F:Inv X ZB Y f {a with heap:=a.heap.push {cls:=.type "slice",data:=.fields (æ [d,c,.none])}}:=j.kept (t':=a.toks) λb G q=>Ĩ _ q;let⟨T,id,m,t,i⟩:=D ZB {a with heap:=a.heap.push {cls:=.type "slice",data:=.fields (æ [d,c,.none])}} Y f x v d c l u a⁻¹ Q F C (Heap.IsSliceOf.new ..) pl pu E;change Ë .E X.A (subscriptTail e (.Slice lo hi none p2) v (.ref a⁻¹)) (EP X ZB Y Q) X.xe {a with heap:=a.heap.push {cls:=.type "slice",data:=.fields (æ [d,c,.none])}};show tail_any (ops:=[.ref a⁻¹,v]) t m i (by stop rfl)
noncomputable def jY(xs:List V)(lo hi:Option Int):List V:=(xs.drop (HT.gb (~~~xs) 0 lo)).take (HT.gb (~~~xs) (~~~xs) hi-HT.gb (~~~xs) 0 lo)
def tX(xs:List V)(lo hi:Option Int): ~~~(jY xs lo hi)<= ~~~xs:=by
 delta jY;rw[ϟ,Ϟ];lia
def W3(K:Ã):V->Option Int->Option Int->Hp->VK->Prop:=λx lo hi H Q=>∃a xs,x=.ref a/\CJ K H a xs /\
 ¬(HT.gb (~~~xs) 0 lo=0/\HT.gb (~~~xs) (~~~xs) hi= ~~~xs)/\∀p,H p=none->Q (.ref p) (upd H p (.tup (jY xs lo hi)))
def Th:XQ X (W3 X.K):=by
 intro ZB s Y H x v l k lo hi sl Q I i e pl pu h;let⟨a,xs,rfl,f,g,q⟩:=h;cases i;let⟨YU,r,d,hz⟩:=I.tuple f;let c:YU.toArray.size= ~~~xs:=by rw[ņ];show r.length.symm
 show#["tuple",_,agy.lookup,d.typeIs,?_];show HT.qB d e pl pu (by rwa[c]) ?_ (by rwa[c]);rw[c];show#[.ref s⁻¹,_,I.laid (t':=s.toks) (o:=.tup (jY xs lo hi)) (λb j q=>Ĩ _ q) (Ā _) ?_,rfl,q _ (I.hok.fresh (Ā _))];show#[Ń (tX xs lo hi) hz,_,(r.drop (HT.gb (~~~xs) 0 lo)).take (HT.gb (~~~xs) (~~~xs) hi-HT.gb (~~~xs) 0 lo),IsTup.new _ _]
end
noncomputable def A_(n:Nat)(i:Int):Option Nat:=if 0<=i then (if i<n then À ↥i else none) else if -(n:Int)<=i then À ↥(i+n) else none
noncomputable def rV{M:Type}(xs:List M)(i:Int):Option M:=(A_ (~~~xs) i).bind λj=>xs[j]?
def qt{i:Int}{j:Nat}(h:A_ n i=À j):seqIndex? i n=À j/\j<n/\-(n:Int)<=i/\i<n:=by
 delta A_ at h;by_cases a:0<=i
 .rw[adI a] at h;by_cases h1:i<n
  .rw[adI h1] at h;let e:↥i=j:=ķ h;show#[by rw[seqIndex_of a h1,e],.b,.b,h1]
  .rw[adF h1] at h;cases h
 .rw[adF a] at h;by_cases h1:-(n:Int)<=i
  .rw[adI h1] at h;let e:↥(i+n)=j:=ķ h;show#[by rw[ϥ .b h1,e],.b,h1,.b]
  .rw[adF h1] at h;cases h
def qI{M:Type}{xs:List M}{i:Int}{v:M}(h:rV xs i=À v):∃j,seqIndex? i (~~~xs)=À j/\xs[j]?=À v/\j<~~~xs/\-(~~~xs:Int)<=i/\i<~~~xs:=by
 delta rV at h;cases e:A_ (~~~xs) i with
 |none=>rw[e] at h;cases h
 |some j =>
  rw[e] at h;let⟨h1,h2,b,a⟩:=qt e;show#[j,h1,h,h2,b,a]
def Aj{M:Type}{xs:List M}{j:Nat}{v:M}(h:xs[j]?=À v):rV xs (j:Int)=À v:=by
 let a:j<~~~xs:=(adU.mp h).1
 let e:A_ (~~~xs) (j:Int)=À j:=by
  delta A_;rw[adI .b,adI .b];simp
 delta rV;rwa[e]
def iw(b:Ô):Prop:=∀o i,subscripted b Â o i=operate [o,i] (ϧ o i)
def XE(X:Cx)(r:R2):Prop :=
 ∀(value slice:Ô) (ZB:List (Ç×ÿ)) (s:Æ) (Y:St) (H:Hp) (x y:V) (v u:Å) (Q:VK),Inv X ZB Y H s->RelV x v->RelV y u->r x y H Q ->
  subscripted slice Â v u=operate [v,u] (ϧ v u)->Ë .E X.A (subscriptTail value slice v u) (EP X ZB Y Q) X.xe s
def Xh(X:Cx)(id:String)(r:V->List V->Hp->VK->Prop):Prop :=
 ∀(ZB:List (Ç×ÿ)) (s:Æ) (Y:St) (H:Hp) (x:V) (xs:List V) (v:Å) (us:List Å) (Q:VK),Inv X ZB Y H s->RelV x v->Vals xs us->r x xs H Q ->
  Ë .E X.A (call (.builtin id) (v::us)) (EP X ZB Y Q) X.xe s
section
variable{X:Cx}{a b:Ô}{ta tb:TE}{pos:ð}
def yP{r:R2}(i:XE X r)(ha:PE X a ta)(e:PE X b tb)(c:iw b):PE X (.Subscript a b pos) (Wa r ta tb):=by
 intro ZB s Y H Q I h;show Subscript_ (RU ha e I h λv u d x y H2 g j f q=>i a b ZB d Y H2 x y v u Q g j f q (c _ _))
def Xd(K:Ã):R2:=λx y H Q=>∃p xs i v,x=.ref p/\y=.int i/\dz K H p xs/\rV xs i=À v/\Q v H
def X2(K:Ã):R2:=λx y H Q=>∃p xs i v,x=.ref p/\y=.int i/\CJ K H p xs/\rV xs i=À v/\Q v H
def zp:XE X (Xd X.K):=by
 intro value slice ZB s Y H x y v u Q I n g h c;let⟨p,xs,i,z,rfl,rfl,f,he,q⟩:=h;cases n;let⟨t,rfl⟩:=g;let⟨YU,r,pl,hz⟩:=I.list f;let⟨j,h1,h2,A,k,m⟩:=qI he;let⟨w,d,a⟩:=r.get h2;let l:= ~~~r;let o:=Ar;let fin:EP X ZB Y Q w s:=#[z,H,I,a,q];by_cases e:0<=i
 .let b:↥i=j:=by
   rw[seqIndex_of e m] at h1;show ķ h1
  show item_listR pl.isList e .b (by rw[b];simpa using d) fin c
 .let b:↥(i+(YU.toArray.size:Int))=j:=by
   rw[ϥ .b k] at h1;rw[ņ,<-l];show ķ h1
  show ϣ (x:=w) pl.isList.typeIs slot_list_getitem.lookup
   (wpAny_getItem_list_neg (Q:=λr s'=>r=w/\EP X ZB Y Q r s') pl.isList .b (by rw[ņ]<;>lia) .b (by rw[b];simpa using d) #[rfl,fin]) c
def Eg:XE X (X2 X.K):=by
 intro value slice ZB s Y H x y v u Q I g e h b;let⟨p,xs,i,z,rfl,rfl,c,he,q⟩:=h;cases g;let⟨t,rfl⟩:=e;let⟨YU,r,pl,hz⟩:=I.tuple c;let⟨j,h1,h2,n,k,l⟩:=qI he;let⟨w,d,a⟩:=r.get h2;let f:= ~~~r;let m:=Ar;let fin:EP X ZB Y Q w s:=#[z,H,I,a,q]
 show ϣ (x:=w) pl.typeIs slot_tuple_getitem.lookup
  (getItem_tuple (j:=j) (Q:=λr s'=>r=w/\EP X ZB Y Q r s') pl .b .b (by rwa[ņ,<-f]) ↑d #[rfl,fin]) b
def DF(YU:List Å)(n j:Nat)(u:Å):Ú (·.setIfInBounds j u) {cls:=.type "list",data:=.seq YU.toArray n}={cls:=.type "list",data:=.seq (YU.set j u).toArray n}:=by
 simp[Ú]
def Inv.lst{ZB:List (Ç×ÿ)}{Y:St}{H:Hp}{s:Æ}{p:Ç}{xs:List V}(I:Inv X ZB Y H s)(h:H p=À (.lst xs)):
  ∃(YU:List Å) (n:Nat),Vals xs YU/\s.heap.get? p=À {cls:=.type "list",data:=.seq YU.toArray n}/\~~~xs<=sizeLine:=by
 let⟨z,YU,n,r,e⟩:=I.hok p _ h;show#[YU,n,r,e,z]
def Inv.Se{ZB:List (Ç×ÿ)}{Y:St}{H:Hp}{p:Ç}{xs ys:List V}{its':List Å}{a:Nat}{f:ÿ->ÿ}(I:Inv X ZB Y H s)(h:H p=À (.lst xs))
  (d:s.heap.get? p=À {cls:=.type "list",data:=.seq YU.toArray n}) (c:f {cls:=.type "list",data:=.seq YU.toArray n}={cls:=.type "list",data:=.seq its'.toArray a}) (r:Vals ys its') (hz: ~~~ys<=sizeLine) (t:Nat):
  Inv X ZB Y (upd H p (.lst ys)) {s with heap:=s.heap.update p f,toks:=t}:=by
 let e:(s.heap.update p f).get? p=À {cls:=.type "list",data:=.seq its'.toArray a}:=by
  rw[afj f d (by rw[c]<;>rfl),c]
 show I.write (x:=p) (e:=p) (by rw[h];trivial) (.inl rfl) (λb u g q=>(ae5 _ _ (œ g)).trans q) #[_,e] ?_;show#[hz,its',a,r,e]
def Ui:V->V->V->Hp->(Hp->Prop)->Prop:=λo i v H Q=>∃p xs k j,o=.ref p/\i=.int k/\H p=À (.lst xs)/\A_ (~~~xs) k=À j/\Q (upd H p (.lst (xs.set j v)))
def set_list:UO X Ui:=by
 intro ZB s Y H o i v z y u Q I w m l h;let⟨p,xs,k,j,rfl,rfl,hp,x,q⟩:=h;cases w;let⟨t,rfl⟩:=m;let⟨YU,n,r,a,hz⟩:=I.lst hp;let⟨h1,h2,g,d⟩:=qt x;let b:= ~~~r;let A:=Ar
 let e:Inv X ZB Y (upd H p (.lst (xs.set j v))) {s with heap:=s.heap.update p (Ú (·.setIfInBounds j u))} :=
  I.Se hp a (DF YU n j u) (r.set l j) (by rwa[Ŝ]) s.toks
 by_cases f:0<=k
 .let c:↥k=j:=by
   rw[seqIndex_of f d] at h1;show ķ h1
  show PySem.W.ki_setAt a f .b (by rwa[ņ,<-b]) (by rw[c];show#[_,e,q])
 .let c:↥(k+(YU.toArray.size:Int))=j:=by
   rw[ϥ .b g] at h1;rw[ņ,<-b];show ķ h1
  show PySem.W.ki_setBack a .b (by rwa[ņ,<-b]) .b (by rw[c];show#[_,e,q])
def AZ(lo hi:Option Int)(n:Nat):(Ĥ lo hi none n).1=((HT.gb n 0 lo:Nat):Int)/\(Ĥ lo hi none n).2.1=((HT.gb n n hi:Nat):Int)/\(Ĥ lo hi none n).2.2=1:=by
 show#[?_,?_,rfl]
 .cases lo with
  |none=>simp[Ĥ,HT.gb]
  |some i =>
   simp only[Ĥ,HT.gb,Ϙ,(.a:.M>0),agz];by_cases h:i<0
   .simp only[h,agz]<;>lia
   .simp only[h,agQ]<;>lia
 .cases hi with
  |none=>simp[Ĥ,HT.gb]
  |some i =>
   simp only[Ĥ,HT.gb,Ϙ,(.a:.M>0),agz];by_cases h:i<0
   .simp only[h,agz]<;>lia
   .simp only[h,agQ]<;>lia
def yf(YU:List Å)(lo hi:Option Int):slicePick YU.toArray lo hi none=((YU.drop (HT.gb (~~~YU) 0 lo)).take (HT.gb (~~~YU) (~~~YU) hi-HT.gb (~~~YU) 0 lo)).toArray:=by
 let⟨h1,h2,a⟩:=AZ lo hi YU.toArray.size;unfold slicePick;rw[h1,h2,a];simp only[sliceRange_one,pick_run,ņ]<;>rfl
def WX(K:Ã):V->Option Int->Option Int->Hp->VK->Prop:=λx lo hi H Q=>∃a xs,x=.ref a/\dz K H a xs/\∀p,H p=none->Q (.ref p) (upd H p (.lst (jY xs lo hi)))
def vd:XQ X (WX X.K):=by
 intro ZB s Y H x v k j lo hi sl Q I g e pl pu h;let⟨a,xs,rfl,f,q⟩:=h;cases g;let⟨YU,r,d,hz⟩:=I.list f;let c:= ~~~r;show#["list",_,slot_list_getitem.lookup,d.isList.typeIs,?_];show wpAny_getItem_list_slice d.isList e pl pu .none .c ?_ (by rw[ņ]<;>lia);rw[yf,<-c];show#[.ref s⁻¹,_,I.laid (t':=s.toks) (o:=.lst (jY xs lo hi)) (λb i q=>Ĩ _ q) (Ā _) ?_,rfl,q _ (I.hok.fresh (Ā _))];show#[Ń (tX xs lo hi) hz,_,0,(r.drop (HT.gb (~~~xs) 0 lo)).take (HT.gb (~~~xs) (~~~xs) hi-HT.gb (~~~xs) 0 lo),Ŕ _ rfl]
def qC:V->Bool
 |.non=>Á
 |.bl _=>Á
 |.int _=>Á
 |.str _=>Á
 |_=>Â
noncomputable def MS:V->V->Bool
 |.non,.non=>Á
 |.bl a,.bl b=>a==b
 |.bl a,.int b=>(if a then 1 else 0)==b
 |.int a,.bl b=>a==(if b then 1 else 0)
 |.int a,.int b=>a==b
 |.str a,.str b=>a==b
 |_,_=>Â
def Ss{A:å}{y:V}{u v:Å}(d:RelV y u)(c:RelV x v)(f:qC y=Á)(e:qC x=Á):ρ A s u v (MS y x):=by
 cases y with
 |non =>
  cases d;cases x with
  |non=>cases c;show SeqAt.EqAt.same _
  |bl b=>cases c;show SeqAt.EqAt.none_bool b
  |int b=>let⟨t,rfl⟩:=c;show SeqAt.EqAt.none_int b t
  |str b=>let⟨t,rfl⟩:=c;show SeqAt.EqAt.none_str b t
  |_=>show absurd (show Â=Á from e) ō
 |bl a =>
  cases d;cases x with
  |non=>cases c;show SeqAt.EqAt.bool_none a
  |bl b=>cases c;show ū a b
  |int b=>let⟨t,rfl⟩:=c;show Ŵ a b t
  |str b=>let⟨t,rfl⟩:=c;show SeqAt.EqAt.bool_str a b t
  |_=>show absurd (show Â=Á from e) ō
 |int a =>
  let⟨t',rfl⟩:=d;cases x with
  |non=>cases c;show SeqAt.EqAt.int_none a t'
  |bl b=>cases c;show ų a t' b
  |int b=>let⟨t,rfl⟩:=c;show SeqAt.EqAt.int_int a t' b t
  |str b=>let⟨t,rfl⟩:=c;show Ž a t' b t
  |_=>show absurd (show Â=Á from e) ō
 |str a =>
  let⟨t',rfl⟩:=d;cases x with
  |non=>cases c;show SeqAt.EqAt.str_none a t'
  |bl b=>cases c;show SeqAt.EqAt.str_bool a t' b
  |int b=>let⟨t,rfl⟩:=c;show ż a t' b t
  |str b=>let⟨t,rfl⟩:=c;show SeqAt.EqAt.str_str a t' b t
  |_=>show absurd (show Â=Á from e) ō
 |_=>show absurd (show Â=Á from f) ō
noncomputable def Dx(x:V)(u:Å):Bool:=match u with
 |.none=>MS .non x
 |.bool b=>MS (.bl b) x
 |.int i _=>MS (.int i) x
 |.str z _=>MS (.str z) x
 |_=>Â
def K6{y:V}{u:Å}(r:RelV y u)(f:qC y=Á):Dx x u=MS y x:=by
 cases y with
 |non=>cases r;rfl
 |bl b=>cases r;rfl
 |int i=>let⟨t,rfl⟩:=r;rfl
 |str z=>let⟨t,rfl⟩:=r;rfl
 |_=>show absurd (show Â=Á from f) ō
theorem rL{x:V}:∀{xs:List V} {us:List Å},Vals xs us->xs.all qC=Á->us.any (Dx x)=xs.any λy=>MS y x
 |_,_,.nil,_=>rfl
 |y::xs,u::us,.cons r t,f=>by
  rw[aiD,ŷ] at f;rw[ahj,ahj,K6 r f.1,rL t f.2]
theorem mP{A:å}{s:Æ}{x:V}{v:Å}(b:RelV x v)(c:qC x=Á):∀{xs:List V} {us:List Å},Vals xs us->xs.all qC=Á->∀u∈us,ρ A s u v (Dx x u)
 |_,_,.nil,_=>λu a=>by cases a
 |y::xs,u::us,.cons r t,f=>λd a=>by
  rw[aiD,ŷ] at f;obtain rfl|a:=đ.mp a
  .rw[K6 r f.1];show Ss r b f.1 c
  .show mP b c t f.2 d a
def TL(x:V)(xs:List V):Bool:=xs.any λy=>MS y x
def Yi(K:Ã)(neg:Bool):R2:=λx y H Q=>∃p xs,y=.ref p/\(dz K H p xs\/CJ K H p xs)/\qC x=Á/\xs.all qC=Á/\Q (.bl (if neg then !TL x xs else TL x xs)) H
def Hn:mx X (ç .In) (Yi X.K Â):=by
 intro ZB s Y H x y v u Q I c e h;let⟨p,xs,rfl,a,d,fs,q⟩:=h;cases e;obtain a|a:=a
 .let⟨YU,r,pl,hz⟩:=I.list a;show SeqAt.in_listAt (Dx x) pl.isList (λw b=>mP c d r fs w ↑b) #[.bl _,H,I,rfl,?_];rwa[(by simp:YU.toArray.any (Dx x)=YU.any (Dx x)),rL r fs]
 .let⟨YU,r,pl,hz⟩:=I.tuple a;show SeqAt.in_tupleAt (Dx x) pl (λw b=>mP c d r fs w ↑b) #[.bl _,H,I,rfl,?_];rwa[(by simp:YU.toArray.any (Dx x)=YU.any (Dx x)),rL r fs]
def AQ:mx X (ç .NotIn) (Yi X.K Á):=by
 intro ZB s Y H x y v u Q I c e h;let⟨p,xs,rfl,a,d,fs,q⟩:=h;cases e;obtain a|a:=a
 .let⟨YU,r,pl,hz⟩:=I.list a;show π (Dx x) pl.isList (λw b=>mP c d r fs w ↑b) #[.bl _,H,I,rfl,?_];rwa[(by simp:YU.toArray.any (Dx x)=YU.any (Dx x)),rL r fs]
 .let⟨YU,r,pl,hz⟩:=I.tuple a;show SeqAt.notIn_tupleAt (Dx x) pl (λw b=>mP c d r fs w ↑b) #[.bl _,H,I,rfl,?_];rwa[(by simp:YU.toArray.any (Dx x)=YU.any (Dx x)),rL r fs]
def Ay:jy X (.builtin "len") (λxs H Q=>∃p ys,xs=[.ref p]/\(dz X.K H p ys\/CJ X.K H p ys)/\Q (.int (~~~ys)) H):=by
 intro ZB s Y H xs us Q I r h;let⟨p,ys,rfl,b,q⟩:=h;let⟨u,rfl,c⟩:=vals1 r;cases c;let d:=Ar;obtain b|b:=b
 .let⟨YU,r',pl,hz⟩:=I.list b;let a:= ~~~r';show Calls.call_len_list pl.isList (by simp only[ņ]<;>lia) #[.int (~~~ys),H,I.tok _,#[s.toks+1,by rw[ņ,a]],q]
 .let⟨YU,r',pl,hz⟩:=I.tuple b;let a:= ~~~r';show len_tuple pl (by simp only[ņ]<;>lia) #[.int (~~~ys),H,I.tok _,#[s.toks+1,by rw[ņ,a]],q]
def k7:jy X (.type "list") (λxs H Q=>∃p ys,xs=[.ref p]/\(dz X.K H p ys\/CJ X.K H p ys)/\∀l,H l=none->Q (.ref l) (upd H l (.lst ys))):=by
 intro ZB s Y H xs us Q I r h;let⟨p,ys,rfl,a,q⟩:=h;let⟨u,rfl,i⟩:=vals1 r;cases i
 let fin:∀(YU:List Å),Vals ys YU->~~~ys<=sizeLine->∀(h':Û) (c':Nat),(∀b o',s.heap.get? b=À o'->h'.get? b=À o') ->
   h'.get? s⁻¹=À {cls:=.type "list",dict:=none,data:=.seq YU.toArray c',slots:=#[]}->EP X ZB Y Q (.ref s⁻¹) {s with heap:=h'}:=λYU r' hz h' c' kp e =>
  #[.ref s⁻¹,_,I.laid (t':=s.toks) kp (Ā _) (show gW X.prog X.w _ h' _ (.lst ys) from #[hz,YU,c',r',e]),rfl,q _ (I.hok.fresh (Ā _))]
 obtain a|a:=a
 .let⟨YU,r',pl,hz⟩:=I.list a;let c:= ~~~r';let⟨o,f,g,n,d⟩:=pl.isList;show call_list_seq p (.inl rfl) f g d (λh' c' kp e=>fin YU r' hz h' c' kp e) (by simp only[ņ]<;>lia)
 .let⟨YU,r',pl,hz⟩:=I.tuple a;let c:= ~~~r';let⟨o,f,g,n,d⟩:=pl;show call_list_seq p (.inr rfl) f g d (λh' c' kp e=>fin YU r' hz h' c' kp e) (by simp only[ņ]<;>lia)
def W6(K:Ã)(T:String)(x:V)(H:Hp):Prop:=match x with
 |.str _=>T="str"
 |.int _=>T="int"
 |.ref p=>(T="list"/\∃xs,dz K H p xs)\/(T="tuple"/\∃o,K.lookup p=À o/\o.cls=.type "tuple"/\o.dict=none) \/
   (T="dict"/\((∃YY,H p=À (.dK YY))\/∃YY,H p=À (.dT YY)))\/(T="set"/\∃S n,H p=À (.set S n))
 |_=>False
def KJ{ZB:List (Ç×ÿ)}{Y:St}{H:Hp}{T:String}{v:Å}(I:Inv X ZB Y H s)(r:RelV x v)(ty:W6 X.K T x H):
  s.TypeIs v T/\∀a,v=.ref a->∃f,s.heap.get? a=À f/\f.dict=none:=by
 cases x with
 |str z =>
  let⟨t,rfl⟩:=r;cases (show T="str" from ty);show#[typeIs_str s z t,λ_ e=>nomatch e]
 |int i =>
  let⟨t,rfl⟩:=r;cases (show T="int" from ty);show#[typeIs_int s i t,λ_ e=>nomatch e]
 |ref p =>
  cases r;obtain⟨rfl,xs,g⟩|⟨rfl,o,b,h,d⟩|⟨rfl,b⟩|⟨rfl,S,n,b⟩:=ty
  .let⟨YU,_,pl,_⟩:=I.list g;show#[pl.isList.typeIs,λa e=>?_];cases e;let⟨o,n,e,c,d,_⟩:=pl;show#[o,e,d]
  .show#[#[o,I.Jd p o b,h],λa e=>?_];cases e;show#[o,I.Jd _ o b,d]
  .let z:∃o,s.heap.get? p=À o/\o.ExactDict:=by
    obtain⟨YY,b⟩|⟨YY,b⟩:=b
    .let⟨_,_,_,_,o,_,_,e,ex,_⟩:=I.hok p _ b;show#[o,e,ex]
    .let⟨_,_,_,_,o,_,_,e,ex,_⟩:=I.hok p _ b;show#[o,e,ex]
   let⟨o,e,ex⟩:=z;show#[#[o,e,ex.1],λa e2=>?_];cases e2;show#[o,e,ex.2.1]
  .let⟨o,_,_,_,e,ex,_⟩:=I.hok p _ b;show#[#[o,e,ex.1],λa e2=>?_];cases e2;show#[o,e,ex.2.1]
 |_=>show ù ty
def WG(K:Ã)(T:String)(r:V->List V->Hp->VK->Prop)(to:TE):TE:=λY H Q=>to Y H λx H1=>W6 K T x H1/\r x [] H1 Q
def YH(K:Ã)(T:String)(r:V->List V->Hp->VK->Prop)(to:TE)(t:TA):TE:=λY H Q=>to Y H λx H1=>W6 K T x H1/\t Y H1 λxs H2=>r x xs H2 Q
variable{o e:Ô}{es:List Ô}{to:TE}{t:TA}{name:Ì}{apos cpos:ð}{T id:String}{r:V->List V->Hp->VK->Prop}
def R1(j:PlainAttrs T)(slot:Slot T name id)(c:typeOf (.builtin id)=pure (.type "method_descriptor"))(k:Xh X id r)(f:PE X o to)
  (b:ŗ o name X.env (Õ o X.env)=Õ o X.env<|>zra) (a:(apos.endLine==cpos.line)=Á<|>zra):PE X (.Call (.Attribute o name apos) [] [] cpos) (WG X.K T r to):=by
 intro ZB s Y H Q I h;show wpAny_Call_method0_late b a (cK (f ZB s Y H _ I h) λv g ⟨x,H1,d,e,ty,i⟩=>?_);let⟨h1,h2⟩:=KJ d e ty;show#[T,id,j,slot,c,h1,h2,Δ rfl (PySem.evalArgs_none (k ZB g Y H1 x [] v [] Q d e .nil i))]
def Vt(z:PlainAttrs T)(slot:Slot T name id)(f:typeOf (.builtin id)=pure (.type "method_descriptor"))(q:Xh X id r)(m:PE X o to)(ha:PA X (e::es) t)
  (c:ŗ o name X.env (Õ o X.env)=Õ o X.env<|>zra)
  (d:((ã cpos (Ä (e::es) X.env)).all (λx=>!x.1)&&(backToKw cpos (keywordEach [] X.env)).all (λx=>x.1.isSome)
   && decide (~~~(e::es)+~~~([]:List ϰ)+(if ([]:List ϰ).isEmpty then 0 else 1)<30))=Á:=by rfl)
  (b:(apos.endLine==cpos.line)=Á<|>zra) (k:Ä (e::es) X.env=(Â,Õ e X.env)::Ä es X.env<|>zra) (a:(ã cpos (Ä es X.env)).any (·.1)=Â<|>zra):
  PE X (.Call (.Attribute o name apos) (e::es) [] cpos) (YH X.K T r to t):=by
 intro ZB s Y H Q I h;show wpAny_Call_method_late c d b rfl (cK (m ZB s Y H _ I h) λv w ⟨x,H1,i,j,ty,p⟩=>?_);let⟨h1,h2⟩:=KJ i j ty;show#[T,id,z,slot,f,h1,h2,?_];let g:=ha cpos ZB w Y H1 _ i p;rw[k] at g ⊢;show Δ (by change(Â || (ã cpos (Ä es X.env)).any (·.1))=Â;rw[a]<;>rfl) (Ο ?_);show cK g λus u ⟨vs,H2,y,n,l⟩=>q ZB u Y H2 x vs v us Q y j n l
end
def YG(X:Cx)(id:String)(r:V->List V->Hp->VK->Prop):Prop :=
 ∀(ZB:List (Ç×ÿ)) (s:Æ) (Y:St) (H:Hp) (x:V) (xs:List V) (v:Å) (us:List Å) (Q:VK),Inv X ZB Y H s->RelV x v->Vals xs us->r x xs H Q ->
  Ë .E X.A (call (.builtin id) (v::us)) (EP X ZB Y Q) X.xe s
def Vals.one:∀{x:V} {us:List Å},Vals [x] us->∃u,us=[u]/\RelV x u
 |_,_,.cons r .nil=>#[_,rfl,r]
section
variable{X:Cx}{ZB:List (Ç×ÿ)}{Y:St}{H:Hp}{s:Æ}{l b:Ç}{xs ys zs:List V}
def Inv.Xc{its':List Å}{f:Array Å->Array Å}{t':Nat}(I:Inv X ZB Y H s)(b:H l=À (.lst xs))
  (e:s.heap.get? l=À {cls:=.type "list",data:=.seq YU.toArray n}) (g:f YU.toArray=its'.toArray) (d:Vals ys its') (hz: ~~~ys<=sizeLine):
  Inv X ZB Y (upd H l (.lst ys)) {s with heap:=s.heap.update l (Ú f),toks:=t'}:=by
 let q:=PySem.IsL.update e f;rw[g] at q;show I.write (x:=l) (e:=l) (by rw[b];show trivial) (.inl rfl) (λb' u c a=>(ae5 s.heap (Ú f) (œ c)).trans a) #[_,q] ?_;show#[hz,its',_,d,q]
def Inv.QS{t':Nat}(I:Inv X ZB Y H s)(a:Vals ys YU)(hz: ~~~ys<=sizeLine):
  Inv X ZB Y (upd H s⁻¹ (.lst ys)) {s with heap:=s.heap.push {cls:=.type "list",data:=.seq YU.toArray},toks:=t'} :=
 I.laid (λ_ _ q=>Ĩ _ q) (Ā _) #[hz,YU,0,a,Ŕ _ rfl]
def Inv.fresh(I:Inv X ZB Y H s):H s⁻¹=none:=I.hok.fresh (Ā _)
def Inv.SM(I:Inv X ZB Y H s)(a:H l=À (.lst xs)): ~~~xs<=sizeLine/\∃(YU:List Å) (n:Nat),Vals xs YU/\~~~xs= ~~~YU/\s.heap.get? l=À {cls:=.type "list",data:=.seq YU.toArray n}:=by
 let⟨z,YU,n,r,e⟩:=I.hok l _ a;show#[z,YU,n,r,~~~r,e]
def Pe:V->List V->Hp->VK->Prop:=λx vs H Q=>∃l xs y,x=.ref l/\vs=[y]/\H l=À (.lst xs)/\~~~xs<sizeLine/\Q .non (upd H l (.lst (xs++[y])))
def yK:YG X "list.append" Pe:=by
 intro ZB s Y H x vs v us Q I c b h;let⟨l,xs,y,rfl,rfl,a,hz,q⟩:=h;cases c;let⟨u,rfl,d⟩:=b.one;let⟨z,YU,n,r,f,e⟩:=I.SM a;show call_meets F.slot_list_append #[_,e,rfl] F.entry_list_append (F.args_list_append_2 _ _) (PySem.list_append l YU.toArray n u (by rw[ņ];lia)) #[e,?_];show#[.non,_,I.Xc (its':=YU++[u]) a e .c (r.append (.cons d .nil)) ?_,rfl,q];rw[Ř,agK];lia
def Xz:R2:=λx y H Q=>∃l b xs zs,x=.ref l/\y=.ref b/\H l=À (.lst xs)/\H b=À (.lst zs)/\~~~xs+~~~zs<=sizeLine/\∀p,H p=none->Q (.ref p) (upd H p (.lst (xs++zs)))
def R5:mx X (ĝ .Add) Xz:=by
 intro ZB s Y H x y v u Q I i g h;let⟨l,b,xs,zs,rfl,rfl,c,d,hz,q⟩:=h;cases i;cases g;let⟨z,YU,n,r,o,e⟩:=I.SM c;let⟨m,a,p,f,j,e2⟩:=I.SM d;show PySem.P.add_list e e2 ?_ (by rw[ņ,ņ];lia);let k:YU.toArray++a.toArray=(YU++a).toArray:=by simp
 rw[k];show#[.ref _,_,I.QS (t':=s.toks) (r.append f) (by rw[Ř];lia),rfl,q _ I.fresh]
variable{prog:Ð}{w:Ø}{A:å}{E:Å->Æ->Prop}
end
end L2
namespace Att
open PySem PySem.W PySem.Calls PyProof.Rows
def uQ{P:Ν}{h:Û}:∀(ns:.L) (vs:List Å),WellAll P h vs (ns.map WData.int)->ñ vs ns:=by
 intro ns
 induction ns with
 |nil =>
  intro vs w;rw[agt] at w;cases w;show .nil
 |cons n ns c =>
  intro vs w;rw[ů] at w;cases w with
  |cons a b =>
   cases a;show .cons _ _ (c _ b)
def GK{l:OpenLaw}{n:Nat}(t:l.most=À n){P:Ν}{h:Û}{args:List WData}{vals:List Å}
  (b:l.row.toRowW.claim.pre args=Á) (i:WellAll P h vals args):
  ∃a vs ns,vals=[Value.ref a]/\args=[WData.list (ns.map WData.int)]/\h.get? a=À {cls:=.type "list",data:=.seq vs.toArray}/\ñ vs ns/\~~~ns<=n:=by
 let j:WShape.hasAll [] args [.list .int]=Á:=(pre_splitW b).1;let k:l.pre.holds [] {args:=args}=Á:=(pre_splitW b).2;let⟨d,r,rfl,h1,h2⟩:=hasAllW_cons j;obtain rfl:=hasAllW_nil h2;let⟨xs,rfl,s⟩:=hasW_list h1;let⟨ns,rfl⟩:=items_int s
 let c: ~~~ns<=n:=by
  unfold OpenLaw.pre at k
  let f:(WTm.not (.lt (.lit (.int (n:Int))) (.len (.arg 0)))).holds [] {args:=[.list (ns.map .int)]}=Á:=by
   let f:=(holds_andW k).1;rwa[t] at f
  let g:=condW_of f (w_not (w_lt w_lit (w_len_list (w_arg rfl))));rw[ċ] at g;show ah6 λq=>?_;let u:(n:Int)<((~~~ns:Nat):Int):=by omega
  first
   |(rw[adZ u] at g;show absurd g .a)
   |(simp at g;omega)
 cases i with
 |cons m p =>
  cases p;cases m with
  |list o e=>show#[_,_,ns,rfl,rfl,o,uQ ns _ e,c]
def Hi(l:OpenLaw)(args:List WData):l.row.toRowW.claim.post args (.bool Á) args=Á :=
 postW_of (r:=l.row.toRowW) (X:=(Á==Á))
  (by first|rfl|decide|simp[WShape.has,WShape.arms,WShape.armsAll]:WShape.has [] (.bool Á) .bool=Á)
  (show(WTm.eq .res (.lit (.bool Á))).value [] {args:=args,res:=À (.bool Á),after:=args}=À (.bool (Á==Á)) from w_eq_bool (w_res rfl) w_lit) rfl
def BX{l:OpenLaw}{n:Nat}{q:Ð}{loose:List Ì}{u:(Ì->Option Å)->Û->Prop}{y:Ø->Û->Prop}{d:DefRec}
  (K:l.most=À n) (p:d.params.defaults=[])
  (call:∀(w:Ø) (t b:Æ) (mg m:Ì->Option Å) (e:Ç) (o:ÿ) (k cd doc:Å) (a:Ç) (vs:List Å) (ns:.L),
   Ground q loose [] u w t mg m b.heap->y w b.heap ->
   b.heap.get? e=À o->o.data=.func (docDef d.name d.params d.body d.scope k cd doc)->b.heap.CodeRec cd d.name->mg d.name=À (.ref e) ->
   b.heap.get? a=À {cls:=.type "list",data:=.seq vs.toArray}->ñ vs ns->~~~ns<=n->b.gens=#[] ->
   ě (Î l.prog w) Ŋ (.call (.ref e) #[[.ref a],[]]) (λr s'=>r=.ok (.ret (.bool Á))/\OldK b.heap s'.heap/\s'.os=b.os/\Ĵ s'.gens) b):
  WalkO q loose u y l.row.toRowW d [] (λf vs=>ς f vs):=by
 intro w t b mg m G σ e o k cd doc A kV B H j x s C args vals as g v I i F;obtain rfl:A=.none:=Dflts.none x p;obtain rfl:kV=.none:=Dflts.noKw x;let⟨a,vs,ns,rfl,rfl,h,hints,c⟩:=GK K g i;show enter_call (ags (call w t b mg m e o k cd doc a vs ns G σ B (fd_plain H) j s h hints c C) λr s' z=>?_);let⟨rfl,h2,J,D⟩:=z;show#[.inl #[.bool Á,.bool Á,[],rfl,λ_=>rfl,.bool Á,Hi l _,λ_=>#[Ŭ,λ_ E=>(nomatch E)]],h2,J,D]
section
variable{prog:Ð}{w:Ø}{A:å}{E:Å->Æ->Prop}{s:Æ}{K:Frag}
end
end Att
namespace L2
open PySem PySem.Spec PyProof.Rows
variable{x qual:Ì}{n k:Nat}{K:Ã}{X:Cx}{f:Ç}{H:Hp}{env:ő}{c:Int}
theorem zf:∀{vs:List Å} {ns:.L},ñ vs ns->Vals (ns.map V.int) vs
 |_,_,.nil=>.nil
 |_,_,.cons n t h=>.cons #[t,rfl] (zf h)
def Nu(H:Hp):Prop:=∀b,H b=none\/∃o xs,H b=À (.frz o (.lst xs))
def Kf{P:Ð}{w:Ø}{mg D:Ì->Option Å}{CX:Hm}{E a:Ç}{fd:í}{sp:Sp}{c:Æ}{vs:List Å}{ns:.L}
  (R:K.In c.heap) (t:c.heap.Ns É mg) (f:c.heap.Ns builtinsNs D) (I:∀x:Ì,x≠"__name__"->D x=Ĝ x) (l:c.heap.NoLimit) (hg:c.gens=#[])
  (ha:c.heap.get? a=À {cls:=.type "list",data:=.seq vs.toArray}) (hi:ñ vs ns) (O: ~~~ns<=sizeLine) (hr:c7 k Ŋ)
  (F:∀base:Û,K.In base->base.Ns É mg->⇑dC CX k E fd [x] sp) (i:∀(s:Æ) (u:Å),Ō s fd #[[u],[]] [(x,u)])
  (C:∀H:Hp,Nu H->dz K H a (ns.map V.int)->sp [.ref a] H (λv _=>v=.bl Á) λ_ _ _=>False)
  (L:∀H e s',CX [] H c (λ_ _ _=>False) e s'->False):
  ě (Î P w) Ŋ (.call (.ref E) #[[.ref a],[]]) (λr s'=>r=.ok (.ret (.bool Á))/\OldK c.heap s'.heap/\s'.os=c.os/\Ĵ s'.gens) c:=by
 let Q:=zf hi;let A:= ~~~hi
 -- from an abstract heap in which nothing but the script may be tracked
 let core:∀H:Hp,Nu H->dz K H a (ns.map V.int)->vo P w H c.heap->(∀b,H b≠none->b=a)->(H a≠none->K.lookup a=none) ->
   ě (Î P w) Ŋ (.call (.ref E) #[[.ref a],[]]) (λr s'=>r=.ok (.ret (.bool Á))/\OldK c.heap s'.heap/\s'.os=c.os/\Ĵ s'.gens) c:=by
  intro H N Z y S W;let base_of:∀{b:Ç} {o:ÿ},c.heap.get? b=À o->H b=none->(A5 c.heap H).get? b=À o:=λe n=>KD e n
  let J:∀{b:Ç} {o:ÿ} {es:Array DictEntry} {ep:Nat},c.heap.get? b=À o->o.data=.dict es ep->H b=none:=λ{b o es ep} e d=>by
   cases q:H b with
   |none=>rfl
   |some u =>
    let G:b=a:=S b (by rw[q];simp);subst G;rw[ha] at e;cases e;let d':Data.seq vs.toArray _=Data.dict es ep:=d;cases d'
  let g:∀{b:Ç} {m:Ì->Option Å},c.heap.Ns b m->(A5 c.heap H).Ns b m:=λ{b m} ⟨o,es,ep,e,d,r⟩=>#[o,es,ep,base_of e (J e d),d,r]
  let B:K.In (A5 c.heap H):=λb o e=>base_of (R b o e) (by
   cases q:H b with
   |none=>rfl
   |some u =>
    let G:b=a:=S b (by rw[q];simp);subst G
    rw[W (by rw[q];simp)] at e;cases e)
  let σ:Mod K mg (A5 c.heap H):=#[B,g t,#[D,g f,I],let #[mc,h1,h2]:=l;#[mc,g h1,h2]];let T:OD P w K mg (A5 c.heap H) Ŋ [] c H:=#[rfl,σ,λb o e=>OB e,aiF (G_ _ _),trivial,λb f=>absurd (show b∈([]:List Ç) from f) .c,y,.of_eq hg];show ags ((F _ B (g t)).run Ŋ [] c H #[[.ref a],[]] [.ref a] [.ref a] _ _ hr T (i c (.ref a)) (.cons rfl .nil) (C H N Z)) λr s' h=>?_;cases r with
  |error e=>show(L H e s' h).elim
  |ok Γ =>
   cases Γ with
   |next=>show ù h
   |brk=>show ù h
   |cont=>show ù h
   |ret u =>
    let⟨v,H',os,bare,un,j,r',q⟩:=h;let X:v=.bl Á:=q;subst X;obtain rfl:u=ο Á:=r';show#[rfl,OldK.of_keep λb o e=>?_,os,bare];cases q:H b with
    |none=>show un.keep b o e q (by intro z;show absurd (show b∈([]:List Ç) from z) .c) .c
    |some u =>
     obtain z|⟨ob,xs,z⟩:=N b
     .rw[q] at z;cases z
     .let z2:=un.frzs b ob _ z;let⟨e1,_⟩:=y b _ z;let⟨e2,_⟩:=j b _ z2;rw[e] at e1;cases e1;show e2
 cases α:K.lookup a with
 |some o =>
  -- the script is one of the module's own objects
  let e:=R a o α;rw[ha] at e;cases e;show core (λ_=>none) (λ_=>.inl rfl) (.inr #[_,vs.toArray,_,α,rfl,rfl,rfl,by rwa[ņ,A],↑Q]) (λb u z=>by let p:(none:Option HO)=À u:=z;cases p) (λb z=>absurd rfl z) λz=>absurd rfl z
 |none =>
  show core (λb=>if b=a then À (.frz {cls:=.type "list",data:=.seq vs.toArray} (.lst (ns.map V.int))) else none) (λb=>?_) (.inl (.inr #[{cls:=.type "list",data:=.seq vs.toArray},adI rfl])) (λb u z=>?_) (λb z=>?_) λ_=>α
  .by_cases f:b=a
   .show .inr #[_,_,adI f]
   .show .inl (adF f)
  .by_cases f:b=a
   .let p:=(adI f).symm.trans z;cases p;subst f;show#[ha,by rwa[ċ],vs,_,Q,ha]
   .let p:=(adF f).symm.trans z;cases p
  .by_cases f:b=a
   .show f
   .show absurd (adF f) z
abbrev lZ{h:Û}(_:K.In h):Ã:=K
def Ow{l:ϖ}{q:Ð}{loose:List Ì}{α:(Ì->Option Å)->Û->Prop}{A:Ø->Û->Prop}{d:DefRec}{K:Ν->Ã}{CX:Ø->Hm}{sp:Ø->Sp}
  (P:l.most=À n) (y:n<=sizeLine) (r:d.params.defaults=[]) (O:c7 k Ŋ)
  (N:∀(w:Ø) (h:Û),A w h->(K w.params).In h)
  (F:∀(w:Ø) (mg:Ì->Option Å) (j:Ç) (h:Û),(K w.params).In h->h.Ns É mg->mg d.name=À (.ref j) ->
   ∃fd:í,(∀(s:Æ) (u:Å),Ō s fd #[[u],[]] [(x,u)]) /\
    ∀base:Û,(K w.params).In base->base.Ns É mg->dC l.prog w (K w.params) mg base (CX w) k j fd [x] (sp w))
  (p:∀(w:Ø) (H:Hp) (a:Ç) (ns:.L),~~~ns<=n->Nu H->dz (K w.params) H a (ns.map V.int)->sp w [.ref a] H (λv _=>v=.bl Á) λ_ _ _=>False)
  (m:∀(w:Ø) (H:Hp) (s:Æ) (e:Å) (s':Æ),CX w [] H s (λ_ _ _=>False) e s'->False):
  PySem.W.WalkO q loose α A l.row.toRowW d [] (λf vs=>ς f vs):=by
 show Att.BX P r λw X J mg S j o R cd doc a vs ns G σ Q Γ E t i hints c C=>?_;let z:=N w _ σ;let⟨fd,D,L⟩:=F w mg j _ z G.T.g t;show Kf z G.T.g G.T.b G.T.builtins G.T.nolimit C i hints (Ń c y) O L D (λH I B=>p w H a ns c I B) λH e s'=>m w H J e s'
def II{l:ϖ}{q:Ð}{loose:List Ì}{o:(Ì->Option Å)->Û->Prop}{m:Ø->Û->Prop}{d:DefRec}{K:Ν->Ã}{CX:Hm}{sp:Ã->Sp}
  (y:l.most=À n) (i:n<=sizeLine) (g:d.params.defaults=[]) (r:c7 k Ŋ)
  (p:∀(w:Ø) (h:Û),m w h->(K w.params).In h)
  (F:∀(w:Ø) (mg:Ì->Option Å) (j:Ç) (h:Û),(K w.params).In h->h.Ns É mg->mg d.name=À (.ref j) ->
   ∃fd:í,(∀(s:Æ) (u:Å),Ō s fd #[[u],[]] [(x,u)]) /\
    ∀base:Û,(K w.params).In base->base.Ns É mg->dC l.prog w (K w.params) mg base CX k j fd [x] (sp (K w.params)))
  (c:∀(K:Ã) (H:Hp) (a:Ç) (ns:.L),~~~ns<=n->Nu H->dz K H a (ns.map V.int)->sp K [.ref a] H (λv _=>v=.bl Á) λ_ _ _=>False)
  (b:∀(H:Hp) (s:Æ) (e:Å) (s':Æ),CX [] H s (λ_ _ _=>False) e s'->False):
  PySem.W.WalkO q loose o m l.row.toRowW d [] (λf vs=>ς f vs) :=
 Ow (K:=K) (CX:=λ_=>CX) (sp:=λw=>sp (K w.params)) y i g r p F (λw H a ns h1 h2 t=>c (K w.params) H a ns h1 h2 t) λ_ H s e s'=>b H s e s'
def da(s:Ï):Arguments:=match s with
 |.FunctionDef _ a _ _ _ _ _ _ _ _=>a
 |_=>{posonlyargs:=[],args:=[],vararg:=none,kwonlyargs:=[],kw_defaults:=[],kwarg:=none,defaults:=[]}
def bJ(s:Ï):List Ï:=match s with
 |.FunctionDef _ _ b _ _ _ _ _ _ _=>b
 |_=>[]
noncomputable def af(s:Ï):Ć:=match s with
 |.FunctionDef _ _ _ _ _ _ a _ _ _=>a
 |_=>{kind:=.function,names:=[],isGenerator:=Â,isCoroutine:=Â}
abbrev p8:Hm:=λ_ _ _ _ _ _=>False
abbrev E0:XK:=λ_ _ _=>False
def jD:Passes p8 X E0:=λ_ _ _ _ _ _ _ h=>h.elim
structure pW(K:Ã)(x qual:Ì)(st:Ï)(f:Ç)(fd:í):Prop where
 ex:∃(oc:Å) (od:Option Ç) (kV doc pm:Å) (an:Option Ç) (cdv ct:Å) (osl:Array (Option Å)),
  fd=á x qual (da st) (bJ st) (af st) .none kV doc pm an cdv ct/\K.lookup f=À #[oc,od,.func fd,osl]/\ģ K cdv qual=Á
 kp:ø K (.ref f)=Á
section
variable{P:Ð}{w:Ø}{K:Ã}{mg:Ì->Option Å}{base:Û}
def pW.ok{st:Ï}{fd:í}{N ps:List Ì}{sp:Sp}(F:pW K x qual st f fd)(S:ao N ps (af st))(len:∀vs H Q E,sp vs H Q E->~~~vs= ~~~ps)
  (b:∀(a:Å) (A:å) (outer:List ő) (s:Æ) (H:Hp) (vs:List V) (Q:VK) (E:XK),c7 k (A.deeper (ħ qual (af st) s⁻¹ f a))->sp vs H Q E ->
   ∃t,ui (vS p8 P w K mg base N qual (af st) f a A outer s H E).Qn (bJ st) t/\t {nx:=λ_ H'=>Q .non H',rt:=Q} (start N vs) H):⇑dC p8 (k+1) f fd ps sp:=by
 let⟨i,od,kV,doc,j,l,a,ct,e,rfl,lk,c⟩:=F.ex;show Ql lk c S len λA outer s H vs Q E g d=>?_;let⟨t,h,q⟩:=b a A outer s H vs Q E g d;show#[t,h.Qn,q]
def pW.binds{st:Ï}{fd:í}{ps:List Ì}(F:pW K x qual st f fd)
  (h:∀(kV doc c:Å) (b:Option Ç) (a ct:Å) (us:List Å),~~~us= ~~~ps->ĥ (á x qual (da st) (bJ st) (af st) .none kV doc c b a ct) #[us,[]]=pure (ps.zip us)):Binds K fd ps []:=by
 let⟨g,od,kV,doc,c,b,a,ct,d,rfl,lk,e⟩:=F.ex;show .all (h kV doc c b a ct)
def IW{st:Ï}{g:Å}{od d:Option Ç}{b:Array (Option Å)}{kV doc e a ct:Å}(l:K.lookup f=À #[g,od,.func (á x qual (da st) (bJ st) (af st) .none kV doc e d a ct),b])
  (c:ģ K a qual=Á) (k:ø K (.ref f)=Á):pW K x qual st f (á x qual (da st) (bJ st) (af st) .none kV doc e d a ct):=#[#[g,od,kV,doc,e,d,a,ct,b,rfl,l,c],k]
end
def cI(h:n<=1000):n<sizeLine:=afn h .a
section
variable{X:Cx}
def pv(i:Nat){pos:ð}(c:X.N[i]?=À x<|>zra)(b:Nm X.env.scope x<|>zre)(d:(x==("__debug__":Ì))=Â<|>zrb)
  (a:(x==("__classdict__":Ì))=Â<|>zrb):PE X (.Name x pos) (VX i):=QX c b d a
end
def xZ{A B:Prop}(h:B):if Â=Á then A else B:=by
 rwa[adF ō]
def uH{A B:Prop}(h:A):if Á=Á then A else B:=by
 rwa[adI rfl]
def aH(H H':Hp):Prop:=∀b o,H b=À o->H' b=À o
def aH.refl(H:Hp):aH H H:=λ_ _ h=>h
def aH.trans{H1 H2:Hp}(a:aH H H1)(b:aH H1 H2):aH H H2:=λc o h=>b c o (a c o h)
def aH.free{H':Hp}(e:aH H H'){l:Ç}(h:H' l=Option.none):H l=Option.none:=by
 cases q:H l with
 |none=>rfl
 |some o =>
  rw[e l o q] at h;cases h
def aH.seq{H':Hp}{a:Ç}{xs:List V}(e:aH H H')(h:dz K H a xs):dz K H' a xs:=by
 rcases h with(h|⟨o,h⟩)|h
 .show .inl (.inl (e _ _ h))
 .show .inl (.inr #[o,e _ _ h])
 .show .inr h
def OO(a:List (Ì×Ç)):Prop:=∀x y c,a.lookup x=À c->a.lookup y=À c->x=y
def br{M:Type}{n:Ì}{a c:M}{r:List (Ì×M)}(h:ś x ((n,a)::r)=À c):(x=n/\a=c)\/(x≠n/\r.lookup x=À c):=by
 rw[af1] at h;cases b:x==n with
 |true=>rw[b] at h;cases h;show .inl #[af4.mp b,rfl]
 |false=>rw[b] at h;show .inr #[(λz=>by(rw[z,agR] at b;cases b)),h]
theorem FX:∀(names:List (Ì×ó)) (n:Nat) (d:List (Ì×Ç)),OO d->(∀x c,d.lookup x=À c->c<n) ->
  OO (ì n names d)/\∀x c,(ì n names d).lookup x=À c->d.lookup x=À c\/n<=c
 |[],_,_,hi,_=>#[hi,λ_ _ h=>.inl h]
 | (y,k) :: r,n,d,hi,g=>by
  unfold ì;by_cases j:(k==â)=Á
  .rw[adI j]
   let h1:OO ((y,n)::d):=λa b c e1 e2=>by
    obtain⟨l,f⟩|⟨l,f⟩:=br e1<;>obtain⟨i,p2⟩|⟨i,p2⟩:=br e2
    .rw[l,i]
    .show absurd (g _ _ p2) (by rw[<-f];show agg _)
    .show absurd (g _ _ f) (by rw[<-p2];show agg _)
    .show hi a b c f p2
   let h2:∀x c,ś x ((y,n)::d)=À c->c<n+1:=λx c e=>by
    obtain⟨_,f⟩|⟨_,f⟩:=br e
    .rw[<-f];show af2 _
    .show afi (g _ _ f)
   let⟨o,m⟩:=FX r (n+1) ((y,n)::d) h1 h2;show#[o,λx c e=>?_];obtain q|q:=m x c e
   .obtain⟨_,f⟩|⟨_,f⟩:=br q
    .show .inr (aiF f)
    .show .inl f
   .show .inr (aha q)
  .rw[adF j];show FX r n d hi g
theorem Aw:∀(names:List (Ì×ó)) (h:Û) (a:List (Ì×Ç)) (x:Ì) (c:Ç),(ì h.objs.size names a).lookup x=À c->a.lookup x=À c\/(pushCells h names).IsCell c none
 |[],_,_,_,_,e=>.inl e
 | (y,k) :: r,h,a,x,c,e=>by
  unfold ì at e;unfold pushCells;by_cases d:(k==â)=Á
  .rw[adI d] at e ⊢;let f:(ì (h.push {cls:=.type "cell",data:=.cell none}).objs.size r ((y,h.objs.size)::a)).lookup x=À c:=by rwa[afK]
   obtain q|q:=Aw r (h.push {cls:=.type "cell",data:=.cell none}) ((y,h.objs.size)::a) x c f
   .obtain⟨_,b⟩|⟨_,b⟩:=br q
    .show .inr ?_;subst b;show#[_,aii _ _ _ _ (Ŕ _ rfl),rfl]
    .show .inl b
   .show .inr q
  .rw[adF d] at e ⊢;show Aw r h a x c e
theorem Ak:∀(names:List (Ì×ó)) (n:Nat) (a:List (Ì×Ç)) (x:Ì),(∀y∈names,y.1=x->y.2≠.cell)->(ì n names a).lookup x=a.lookup x
 |[],_,_,_,_=>rfl
 | (y,k) :: r,n,a,x,h=>by
  unfold ì;by_cases b:(k==â)=Á
  .rw[adI b,Ak r (n+1) _ x λz hz=>h z (ę _ hz),af1]
   let c:(x==y)=Â:=by
    cases d:x==y with
    |false=>rfl
    |true=>show absurd ↑b (h (y,k) ġ (af4.mp d).symm)
   rw[c]
  .rw[adF b];show Ak r n a x λz hz=>h z (ę _ hz)
noncomputable def hZ(env:ő):List (Ì×ó)->List (Ì×Ç)->List (Ì×Ç)
 |[],a=>a
 |(n,k)::r,a=>hZ env r (if k==.free then (n,(env.cells.lookup n).getD 0)::a else a)
theorem EV{env:ő}:∀(names:List (Ì×ó)) (b:List (Ì×Ç)),(∀x∈names,x.2=.free->∃c,env.cells.lookup x.1=À c) ->
  (forIn names b λx cs=>(if (x.2==à)=Á then (do let a <-cellOf env x.1;pure (Ċ ((x.1,a)::cs))) else pure (Ċ cs):Sem (ForInStep (List (Ì×Ç)))))=pure (hZ env names b)
 |[],_,_=>rfl
 | (n,k) :: r,b,h=>by
  rw[List.forIn_cons];let g:=λb=>EV r b λx i=>h x (ę _ i);unfold hZ;by_cases f:(k==à)=Á
  .let⟨c,j⟩:=h (n,k) ġ ↑f;let d:env.cells.lookup n=À c:=j;let e:cellOf env n=pure c:=by unfold cellOf;rw[d]
   simp only[f,agz,e,d,ϗ,pure_bind];show g _
  .simp only[f,agQ,pure_bind];show g _
def lY{Ze:Ć}(h:∀x∈Ze.names,x.2=.free->∃c,env.cells.lookup x.1=À c):closureFor Ze env=pure (hZ env Ze.names []):=by
 let:=EV (env:=env) Ze.names [] h;unfold closureFor;simp only[bind_pure_comp]
 first|show this|simpa using this
theorem dS{env:ő}{x:Ì}:∀(names:List (Ì×ó)) (a:List (Ì×Ç)) (c:Ç),(∀y∈names,y.2=.free->∃c,env.cells.lookup y.1=À c)->(hZ env names a).lookup x=À c->a.lookup x=À c\/env.cells.lookup x=À c
 |[],_,_,_,e=>.inl e
 | (n,k) :: r,a,c,h,e=>by
  unfold hZ at e;let i:=λa=>dS (x:=x) r a c λy l=>h y (ę _ l);by_cases f:(k==à)=Á
  .rw[adI f] at e;obtain q|q:=i _ e
   .obtain⟨j,d⟩|⟨_,d⟩:=br q
    .let⟨c',g⟩:=h (n,k) ġ ↑f;let b:env.cells.lookup n=À c':=g;rw[b] at d;right;rw[j,b];show congrArg À d
    .show .inl d
   .show .inr q
  .rw[adF f] at e;show i _ e
theorem xB{env:ő}{x:Ì}:∀(names:List (Ì×ó)) (a:List (Ì×Ç)),((x,à)∈names\/∃c,a.lookup x=À c)->∃c,(hZ env names a).lookup x=À c
 |[],_,h=>h.elim (λz=>nomatch z) id
 | (n,k) :: r,a,h=>by
  unfold hZ;show xB r _ ?_;obtain h|⟨c,h⟩:=h
  .obtain e|h:=đ.mp h
   .cases e;right;rw[adI .a];show#[_,by rw[af1,agR]]
   .show .inl h
  .right;split
   .rw[af1];split
    .show#[_,rfl]
    .show#[c,h]
   .show#[c,h]
noncomputable def gQ(X:Cx)(N:List Ì)(Ze:Ć)(C:Ç)(s:Æ)(H:Hp)(fp:List Ç):Cx where
 prog:=X.prog
 w:=X.w
 K:=X.K
 mg:=X.mg
 base:=X.base
 A:=X.A
 N:=N
 s₀:=s
 H₀:=H
 env:={scope:=ť Ze X.env,locals:=C,globals:=X.env.globals,cells:=ì (C+1) Ze.names (hZ X.env Ze.names []),qual:=X.env.qual,func:=none,code:=X.env.code,frame:=X.env.frame,builtins:=X.env.builtins}
 outer:=X.stack
 stack:=X.stack
 ex:=fp
 fn:=λx=>match Ze.names.lookup x with|some .cell=>Á|_=>Â
 calm:=X.calm
 pn:=[]
 xe:=λ_ _=>False
theorem fR{env:ő}:∀{names:List (Ì×ó)} {x:Ì} {k:ó},(names.map fun(n,k)=>if (k==à&&env.scope.kind==.function&&env.kindOf n==À .cell) then (n,â) else (n,k)).lookup x=À k ->
  ∃k0,names.lookup x=À k0/\(k=k0\/k0=.free)
 |[],_,_,h=>by simp at h
 | (n,q) :: r,x,k,h=>by
  rw[ů] at h;let h':ś x ((if (q==à&&env.scope.kind==.function&&env.kindOf n==À .cell)=Á then (n,â) else (n,q))::_)=À k:=h;let a:∀b:Bool,(if b=Á then (n,â) else (n,q))=(n,if b=Á then â else q):=λb=>by cases b<;>rfl
  rw[a] at h';rw[af1];obtain⟨e1,e2⟩|⟨e1,e2⟩:=br h'
  .rw[e1,agR];show#[q,rfl,?_];rw[<-e2];by_cases c:(q==à&&env.scope.kind==.function&&env.kindOf n==À .cell)=Á
   .right;let:=(aeO.mp (aeO.mp c).1).1;simpa using this
   .left;rw[adF c]
  .let d:(x==n)=Â:=by
    cases c:x==n with
    |false=>rfl
    |true=>show absurd (af4.mp c) e1
   rw[d];show fR e2
structure gF(X:Cx)(Ze:Ć)(tn:List Ì)(js:List Nat):Prop where
 kind:Ze.kind=.function
 loc:∀x∈Ze.names,x.2=.local->Ze.names.lookup x.1=À .local
 fre:∀x∈Ze.names,x.2=.free->Ze.names.lookup x.1=À .free/\(X.env.kindOf x.1=À .cell\/X.env.kindOf x.1=À .free)
 one:∀x∈Ze.names,∀y∈Ze.names,x.1=y.1->x.2=y.2
 js:∀j∈js,∃x,X.N[j]?=À x/\Ze.names.lookup x=À .free
def cN(X:Cx)(tn:List Ì)(js:List Nat):List Ì:=tn++js.map λj=>(X.N[j]?).getD ("":Ì)
def cσ(Y:St)(tn:List Ì)(js:List Nat):St:=tn.map (λ_=>none)++js.map λj=>(Y[j]?).getD none
def bP{names:List (Ì×ó)}{k:ó}(h:names.lookup x=À k):(x,k)∈names:=af0 h
section
variable{X:Cx}{ZB:List (Ç×ÿ)}{Y:St}{H:Hp}{s:Æ}{Ze:Ć}{tn:List Ì}{js:List Nat}{fp:List Ç}
def gM(ok:X.Ok)(S:gF X Ze tn js):∀x∈Ze.names,x.2=.free->∃c,X.env.cells.lookup x.1=À c:=λx a b=>ok.has x.1 (S.fre x a b).2
def Hf(ok:X.Ok)(S:gF X Ze tn js)(b:∀x c,X.env.cells.lookup x=À c->c<n):
  OO (ì n Ze.names (hZ X.env Ze.names []))/\∀x c,(ì n Ze.names (hZ X.env Ze.names [])).lookup x=À c->X.env.cells.lookup x=À c\/n<=c:=by
 let a:∀x c,(hZ X.env Ze.names []).lookup x=À c->X.env.cells.lookup x=À c:=λx c e=>by
  obtain q|q:=dS Ze.names [] c (gM ok S) e
  .cases q
  .show q
 let⟨h1,h2⟩:=FX Ze.names n (hZ X.env Ze.names []) (λx y c e1 e2=>ok.inj x y c (a x c e1) (a y c e2)) (λx c e=>b x c (a x c e));show#[h1,λx c e=>(h2 x c e).imp (a x c) id]
def HU{R:Û}{m:Ì->Option Å}{t':Nat}(I:Inv X ZB Y H s)(S:gF X Ze tn js)(T:∀b∈fp,xM X ZB H b/\b<s⁻¹)(Z:R.Ns s⁻¹ m)
  (C:∀b o,s.heap.get? b=À o->R.get? b=À o) (J:∀x c,(ì (s⁻¹+1) Ze.names (hZ X.env Ze.names [])).lookup x=À c->X.env.cells.lookup x=À c\/R.IsCell c none):
  Inv (gQ X (cN X tn js) Ze s⁻¹ s H fp) [] (cσ Y tn js) H {s with heap:=R,toks:=t'}:=by
 let E:∀x c,X.env.cells.lookup x=À c->c<s⁻¹+1:=λx c e=>by
  let⟨v,q⟩:=I.cell x c e;show afi q.lt
 let⟨K,D⟩:=Hf I.ok S E;let hC:H s⁻¹=none:=I.hok.fresh (Ā _)
 show#[#[I.ok.mod,S.kind,I.ok.glob,I.ok.blt,Ā _,K,λx hx=>?_,λx c hx e=>?_,I.ok.hd,I.ok.frames,.inl rfl,λb B=>#[Ķ (T b B).2,λx c e z=>?_],I.bs,Ń I.ok.bsz I.sz,λb o e B=>?_,λb B z=>?_,I.stack,I.A6],
  rfl,I.bare,Un.kept C,#[m,Z,λi x v h1 h2 h3=>?_],λx c e=>?_,hC,λx c e=>?_,(λp hp=>nomatch hp),I.hok.kept C,?_]
 .-- has
  let t:(ť Ze X.env).names.lookup x=À .cell\/(ť Ze X.env).names.lookup x=À .free:=hx
  let own:Ze.names.lookup x=À .cell->∃c,(ì (s⁻¹+1) Ze.names (hZ X.env Ze.names [])).lookup x=À c:=λq =>
   afR.mp (agE Ze.names _ _ (.inl q))
  let G:Ze.names.lookup x=À .free->∃c,(ì (s⁻¹+1) Ze.names (hZ X.env Ze.names [])).lookup x=À c:=λq =>
   afR.mp (agE Ze.names _ _ (.inr (afR.mpr (xB Ze.names [] (.inl (bP q))))))
  obtain q|q:=t
  .let⟨k0,O,f⟩:=fR q;obtain f|f:=f
   .subst f;show own O
   .subst f;show G O
  .let⟨k0,O,f⟩:=fR q;obtain f|f:=f
   .subst f;show G O
   .subst f;show G O
 .-- cab
  obtain q|q:=D x c e
  .exfalso;let t:(match Ze.names.lookup x with|some .cell=>Á|_=>Â)=Á:=hx;split at t
   .rename_i hl
    -- an own cell is new
    let B:∀y c',(hZ X.env Ze.names []).lookup y=À c'->c'<s⁻¹+1:=λy c' e'=>by
     obtain z|z:=dS Ze.names [] c' (gM I.ok S) e'
     .cases z
     .show E y c' z
    let nof:(hZ X.env Ze.names []).lookup x=none:=by
     cases z:(hZ X.env Ze.names []).lookup x with
     |none=>rfl
     |some c' =>
      exfalso
      let mem:∀(names:List (Ì×ó)) (A:List (Ì×Ç)),(∃c',(hZ X.env names A).lookup x=À c')->(x,à)∈names\/∃c',A.lookup x=À c':=by
       intro names
       induction names with
       |nil=>show λA z=>.inr z
       |cons p r ih =>
        let⟨n,k⟩:=p;intro A z;unfold hZ at z;obtain z|⟨c',z⟩:=ih _ z
        .show .inl (ę _ z)
        .split at z
         .rename_i C;obtain⟨e1,_⟩|⟨_,e2⟩:=br z
          .left;let:k=à:=by simpa using C
           rw[e1,this];show ġ
          .show .inr #[c',e2]
         .show .inr #[c',z]
      obtain z|⟨_,z⟩:=mem Ze.names [] #[c',z]
      .let:=S.one _ z _ (bP hl) rfl;cases this
      .cases z
    let hh:=FX Ze.names (s⁻¹+1) (hZ X.env Ze.names []) (λa b c' e1 e2=>by
     obtain z|z:=dS Ze.names [] c' (gM I.ok S) e1
     .cases z
     .obtain σ|σ:=dS Ze.names [] c' (gM I.ok S) e2
      .cases σ
      .show I.ok.inj a b c' z σ) B
    obtain z|z:=hh.2 x c e
    .rw[nof] at z;cases z
    .show absurd (E x c q) (af5.mpr z)
   .cases t
  .show aha q
 .-- exf
  let⟨⟨f0,f1,f2,f3,V,f5⟩,F⟩:=T b B;obtain q|q:=D x c e
  .show V x c q z
  .rw[z] at q;show absurd F (af5.mpr (aha q))
 .-- noex
  let⟨⟨f0,f1,f2,f3,V,f5⟩,F⟩:=T b B;obtain q|q:=f3
  .show I.ok.noex b o e q
  .show absurd (ř (ē e) (Ń I.ok.bsz q)) (agg _)
 .-- exfs
  let⟨⟨f0,f1,f2,f3,V,f5⟩,F⟩:=T b B;obtain q|q:=đ.mp (I.xa b z)
  .show f1 q
  .show f2 q
 .-- the names
  let d:(cσ Y tn js)[i]?=À (À v):=h2;let l:(cN X tn js)[i]?=À x:=h1;delta cσ at d;delta cN at l;by_cases hi:i<~~~tn
  .rw[afg ↑hi,ł] at d;cases q:tn[i]? with
   |none=>rw[q] at d;cases d
   |some y=>rw[q] at d;cases d
  .rw[ae_ ↑hi,ł,ċ] at d;rw[ae_ ↑hi,ł] at l;cases q:js[i-~~~tn]? with
   |none=>rw[q] at d;cases d
   |some j =>
    rw[q] at d l;let⟨y,α,g⟩:=S.js j (Į q)
    let exy:y=x:=by
     let:À ((X.N[j]?).getD ("":Ì))=À x:=l;rw[α] at this;show ķ this
    subst exy
    let hv:Y[j]?=À (À v):=by
     let:À ((Y[j]?).getD none)=À (À v):=d;cases z:Y[j]? with
     |none=>rw[z] at this;cases this
     |some o=>rw[z] at this;show congrArg À (ķ this)
    let P:=(S.fre _ (bP g) rfl).2;let vis:Nm X.env.scope y:=P.elim (λz=>.inr (.inl z)) λz=>.inr (.inr z);let⟨m0,hn0,hl0⟩:=I.loc;let⟨u,ru,lk⟩:=hl0 j y v α hv vis;show#[u,ru,.inr #[?_,?_]]
    .let W:(ť Ze X.env).names.lookup y=À .local\/(ť Ze X.env).names.lookup y=À .cell\/(ť Ze X.env).names.lookup y=À .free:=h3;obtain z|z|z:=W
     .let⟨k0,z1,Γ⟩:=fR z;rw[g] at z1;cases z1;obtain Γ|Γ:=Γ
      .cases Γ
      .exfalso
       -- free is relabelled to cell or stays
       let:=z
       let h:∀{names:List (Ì×ó)},(∀p∈names,p.1=y->p.2=.free)->(names.map fun(n,k)=>if (k==à&&X.env.scope.kind==.function&&X.env.kindOf n==À .cell) then (n,â) else (n,k)).lookup y≠À .local:=by
        intro names
        induction names with
        |nil=>intro _ w;simp at w
        |cons p r ih =>
         let⟨n,k⟩:=p;intro hp w;rw[ů] at w;let w':ś y ((if (k==à&&X.env.scope.kind==.function&&X.env.kindOf n==À .cell)=Á then (n,â) else (n,k))::_)=À .local:=w;let L:∀b:Bool,(if b=Á then (n,â) else (n,k))=(n,if b=Á then â else k):=λb=>by cases b<;>rfl
         rw[L] at w';obtain⟨e1,e2⟩|⟨e1,e2⟩:=br w'
         .let C:k=.free:=hp (n,k) ġ e1.symm;subst C;split at e2<;>cases e2
         .show ih (λp hp'=>hp p (ę _ hp')) e2
       show h (λp hp e=>S.one p hp _ (bP g) e) z
     .show .inl z
     .show .inr z
    .let lk':∃c,X.env.cells.lookup y=À c/\s.heap.IsCell c (À u):=by
      obtain⟨z,_⟩|⟨_,z⟩:=lk
      .exfalso;obtain q|q:=P
       .rw[q] at z;cases z
       .rw[q] at z;cases z
      .show z
     let⟨c,hc1,hc2⟩:=lk';show#[c,?_,hc2.keeps C];change(ì (s⁻¹+1) Ze.names (hZ X.env Ze.names [])).lookup y=À c;rw[Ak Ze.names _ _ y λp hp e=>by(rw[S.one p hp _ (bP g) e];intro z;cases z)];let⟨c',Q⟩:=xB (env:=X.env) Ze.names [] (.inl (bP g));obtain z|z:=dS Ze.names [] c' (gM I.ok S) Q
     .cases z
     .rw[hc1] at z;cases z;show Q
 .-- cells are there
  obtain q|q:=J x c e
  .let⟨v,z⟩:=I.cell x c q;show#[v,z.keeps C]
  .show#[none,q]
 .-- and free
  obtain q|q:=D x c e
  .show I.freeC x c q
  .show I.hok.fresh (aha q)
 .change ~~~(cσ Y tn js)= ~~~(cN X tn js);delta cσ cN;simp
variable{α:Model}{A:å}{E:Å->Æ->Prop}
def B9{Ze:Ć}{globals:Ç}{cl:List (Ì×Ç)}{Q:ő->Æ->Prop}
  (d:∀h',h'.Ns s⁻¹ (λ_=>none)->(∀b o,s.heap.get? b=À o->h'.get? b=À o)->(∀x c,(ì (s⁻¹+1) Ze.names cl).lookup x=À c->cl.lookup x=À c\/h'.IsCell c none) ->
   Q {scope:=Ze,locals:=s⁻¹,globals,cells:=ì (s⁻¹+1) Ze.names cl,qual,func:=none,code:=env.code,frame:=env.frame,builtins:=env.builtins} {s with heap:=h'}):
  Ë α A (Θ Ze globals cl [] qual none .none (À env)) Q E s:=by
 simp only[Θ,Option.isSome_some,agz];show Ü (wpAny_alloc ?_);show Ü (wpAny_layCells _ (λname kind cells=>by cases a:kind==â<;>simp[a]) _ _ _ _ ?_);rw[show({s with heap:=s.heap.push {cls:=.type "dict",data:=.dict #[]}}:Æ)⁻¹=s⁻¹+1 from afK ..];show Ü ?_;rw[List.forIn_nil];show û (û ?_);show d _ ((Heap.Ns.new s.heap (.type "dict")).keeps (aii _ _)) (λb o e=>aii _ _ b o (Ĩ _ e)) λx c e=>?_;show Aw Ze.names _ cl x c ?_;rwa[afK]
variable{prog:Ð}{w:Ø}{R:ϩ->Æ->Prop}
def HA{elt target iter:Ô}{ifs:List Ô}{Ze:Ć}{pos:ð}{d a:Å}(I:Nat->Æ->Prop)
  (turn:∀n s,I n s->Ë (Î prog w) A (Ĭ d) (λr f=>match r with
   |none=>R (.ok .next) f
   |some v=>Ë (Î prog w) A (ļ target d v) (λ_ b=>Ë (Î prog w) A (ď target env v) (λ_ o =>
     Ë (Î prog w) A (forIn ifs Á λc r=>if r=Á then do let ok <-Ϧ c env (Õ c env);pure (Ċ ok) else pure (Ċ r)) (λok e =>
      if ok=Á then Ë (Î prog w) A (Õ elt env) (λx k =>
       Ë (Î prog w) A (call (.builtin "list.append") [a,x]) (λ_ i=>∃m,m<n/\I m i) (λ_ _=>False) k) (λ_ _=>False) e
      else ∃m,m<n/\I m e) (λ_ _=>False) o) (λ_ _=>False) b) (λ_ _=>False) f) (λ_ _=>False) s)
  (n:Nat) (h:I n s):
  ě (Î prog w) A (.compLoop (.ListComp elt [#[target,iter,ifs,0]] Ze pos) 0 d a env) R s:=by
 show codeAny_loop rfl I (λn s u=>?_) n h;change Ë _ A ((compTurn (.ListComp elt [#[target,iter,ifs,0]] Ze pos) 0 d a env).onRaise (λx=>do Ĺ x env;theTreesLotGoes x)) _ _ s;show wpAny_noted ?_;rw[compTurn_list];show Ü (θ (Ü (Ρ (turn n s u) (λr f l=>?_) λ_ _ z=>z.elim)));cases r with
 |none=>show û l
 |some v =>
  show Ü (Ρ l (λ_ b g=>?_) λ_ _ z=>z.elim);show Ü (Ρ g (λ_ o p=>Ü (Ρ p (λok e j=>?_) λ_ _ z=>z.elim)) λ_ _ z=>z.elim);cases ok with
  |false=>show û #[rfl,j]
  |true =>
   show Ü (Ü (Ρ j (λx k q=>Ü (Ρ q (λ_ i t=>û (û #[rfl,t])) λ_ _ z=>z.elim)) λ_ _ z=>z.elim))
end
def PF(X:Cx)(ifs:List Ô)(t:TT):Prop :=
 ∀(ZB:List (Ç×ÿ)) (s:Æ) (Y:St) (H:Hp) (Q:Bool->Hp->Prop),Inv X ZB Y H s->t Y H Q ->
  Ë .E X.A (forIn ifs Á λc r=>if r=Á then do let ok <-Ϧ c X.env (Õ c X.env);pure (Ċ ok) else pure (Ċ r)) (TP X ZB Y Q) X.xe s
def Q3:PF X [] (λ_ H Q=>Q Á H):=λZB s Y H Q I q=>wpAny_tests_nil #[H,I,q]
def Tc{c:Ô}{t:TT}(h:PT X c t):PF X [c] t:=λZB s Y H Q I q=>wpAny_tests_one (h ZB s Y H Q I q)
def FY(Y:St)(tn:List Ì)(js:List Nat)(Y':St):Prop:=(∀(j:Nat) (v:V),~~~tn<=j->(cσ Y tn js)[j]?=À (À v)->Y'[j]?=À (À v))/\~~~Y'= ~~~(cσ Y tn js)
def TX(wi:TI)(tn:List Ì)(js:List Nat)(g:TG)(tt:TT)(te:TE):TE:=λY H Q=>wi Y H λJ H1=>∀D,H1 D=none->∃W:Nat->Nat->Hp->List V->Prop,(∃m,W 0 m (upd H1 D (.lst [])) []) /\
 ∀i m H xs,W i m H xs->H D=À (.lst xs)/\((J.stop i H/\Q (.ref D) H)\/(J.go i H/\∀x H',J.yld i H x H'->g x (cσ Y tn js) H' λσ2 H2=>FY Y tn js σ2/\tt σ2 H2 λok b =>
  if ok=Á then te σ2 b λy c=>c D=À (.lst xs)/\~~~xs<sizeLine/\∃a,a<m/\W (i+1) a (upd c D (.lst (xs++[y]))) (xs++[y])
  else ∃a,a<m/\W (i+1) a b xs))
section
variable{X:Cx}{ZB:List (Ç×ÿ)}{Y:St}{H:Hp}{s:Æ}{Ze:Ć}{tn:List Ì}{js:List Nat}{elt target iter:Ô}{ifs:List Ô}{pos:ð}{wi:TI}{g:TG}{tt:TT}{te:TE}
def yx{Q:VK}{RR:Å->Ç->ϩ->Æ->Prop}(S:gF X Ze tn js)(hc:X.calm=Á)(hi:PI X target iter wi)
  (a:∀C s H fp,PG .H target g/\PF .H ifs tt/\PE .H elt te)
  (I:Inv X ZB Y H s) (h:TX wi tn js g tt te Y H Q)
  (hRR:∀D C s' H' oC m,Inv X (ZB++[(C,oC)]) Y H' s'->s'.heap.get? C=À oC->s'.heap.Ns C m->X.s₀⁻¹<=C->C≠X.env.locals->(∀x c,X.env.cells.lookup x=À c->c≠C)->(∀p∈X.pn++ZB,p.1≠C)->Q (.ref D) H'->RR (.ref D) C (.ok .next) s'):
  Ë .E X.A (Õ iter X.env) (λx s₁=>Ë .E X.A (Ų x) (λit s₂=>Ë .E X.A (newList []) (λacc s₃ =>
   Ë .E X.A (Θ Ze X.env.globals (hZ X.env Ze.names []) [] X.env.qual none .none (À X.env)) (λE s₄ =>
    ě .E X.A (.compStart (.ListComp elt [#[target,iter,ifs,0]] Ze pos) 0 it acc {E with scope:=ť Ze X.env}) (RR acc E.locals) s₄) X.xe s₃) X.xe s₂) X.xe s₁) X.xe s:=by
 show cK (hi ZB s Y H _ I h) λv s1 h1=>cK h1 λitv f h2=>?_;let⟨it,fp,α,J,H2,e,t,T,st2,f2,hJ⟩:=h2;subst e;show ahS ?_;let D0:H2 f⁻¹=none:=t.hok.fresh (Ā _);let⟨W,⟨m0,w0⟩,turn⟩:=hJ f⁻¹ D0;let I3:Inv X ZB Y (upd H2 f⁻¹ (.lst [])) {f with heap:=f.heap.push {cls:=.type "list",data:=.seq ([]:List Å).toArray},toks:=f.toks}:=t.QS .nil (ş _);generalize N:({f with heap:=f.heap.push {cls:=.type "list",data:=.seq ([]:List Å).toArray},toks:=f.toks}:Æ)=s3 at I3;let s3s:s3⁻¹=f⁻¹+1:=by rw[<-N];show afK ..
 let k23:∀b o,f.heap.get? b=À o->s3.heap.get? b=À o:=λb o e=>by rw[<-N];show Ĩ _ e
 let u23:Un (xO X.stack) fp H2 (upd H2 f⁻¹ (.lst [])) f.heap s3.heap:=Un.laid k23 (Ā _) D0;generalize hH3:upd H2 f⁻¹ (.lst [])=k at I3 u23 w0;generalize hD:f⁻¹=D at *
 let fpl:∀b∈fp,b<D:=λb a=>by
  let⟨o,e,_⟩:=T.obj 0 _ st2 b a;rw[<-hD];show ē e
 let f3:∀b∈fp,xM X ZB k b/\b<s3⁻¹:=λb a=>by
  let⟨q0,q⟩:=f2 b a;show#[#[?_,q],by let:=fpl b a;rw[s3s];show afi this];rwa[<-hH3,aU (Ķ (fpl b a))]
 show B9 λh4 hns hk L=>?_
 let cl0:∀x c,(hZ X.env Ze.names []).lookup x=À c->X.env.cells.lookup x=À c:=λx c e=>by
  obtain q|q:=dS Ze.names [] c (gM I.ok S) e
  .cases q
  .show q
 let I4:Inv (gQ X (cN X tn js) Ze s3⁻¹ s3 k fp) [] (cσ Y tn js) k {s3 with heap:=h4,toks:=s3.toks}:=HU I3 S f3 hns hk λx c e=>(L x c e).imp (cl0 x c) id;let st4:α 0 h4:=T.keep 0 _ _ st2 λb a o e=>hk b o (k23 b o e)
 let G:∀{H':Hp},(∀b∈fp,H' b=none)->∀b∈fp,xM (gQ X (cN X tn js) Ze s3⁻¹ s3 k fp) [] H' b:=λhn b a=>by
  let⟨⟨q0,q1,q2,q3,q4,q5⟩,ql⟩:=f3 b a;show#[hn b a,Ķ ql,λz=>?_,.inl a,λx c e z=>?_,λp hp=>nomatch hp]
  .obtain q|q:=đ.mp (I3.xa b z)
   .show q1 q
   .show q2 q
  .show(I4.ok.exf b a).2 x c e z
 let loop:ě .E X.A (.compLoop (.ListComp elt [#[target,iter,ifs,0]] Ze pos) 0 (.ref it) (.ref D) (gQ X (cN X tn js) Ze s3⁻¹ s3 k fp).env) (RR (.ref D) s3⁻¹) {s3 with heap:=h4,toks:=s3.toks}:=by
  show HA (λn s'=>∃i Y' H' xs,Inv (gQ X (cN X tn js) Ze s3⁻¹ s3 k fp) [] Y' H' s'/\α i s'.heap/\(∀b∈fp,H' b=none)/\W i n H' xs/\FY Y tn js Y') ?_ m0
   #[0,_,k,[],I4,st4,λb a=>(f3 b a).1.1,w0,λ_ _ _ z=>z,rfl]
  rintro n s5 ⟨i,σ5,B,xs,I5,st5,fr5,w5,kσ,lσ⟩
  -- the state with the targets forgotten
  let I5':Inv (gQ X (cN X tn js) Ze s3⁻¹ s3 k fp) [] (cσ Y tn js) B s5:=I5.weak lσ.symm λj v e=>by
   by_cases hj: ~~~tn<=j
   .show kσ j v hj e
   .exfalso;delta cσ at e;rw[afg ↑(Nat.lt_of_not_le hj),ł] at e;cases q:tn[j]? with
    |none=>rw[q] at e;cases e
    |some y=>rw[q] at e;cases e
  let⟨hDx,O⟩:=turn i n B xs w5;obtain⟨stop,q⟩|⟨go,step⟩:=O
  .show cK (T.done (gQ X (cN X tn js) Ze s3⁻¹ s3 k fp) rfl rfl rfl hc i [] s5 _ B (λ_ _=>False) I5' (G fr5) st5 stop) λr σ (⟨hr,Γ⟩)=>?_;subst hr
   -- back to the def's own state
   let u36:Un (xO X.stack) fp k B s3.heap σ.heap:=Γ.base;let u26:Un (xO X.stack) fp H2 B f.heap σ.heap:=u23.trans u36;let I6X:Inv X ZB Y B σ:=t.Qy (Γ.os.trans (by rw[<-N]:s3.os=f.os)) u26 Γ.hok Γ.bare λb a=>#[(f2 b a).2.2.2.1,(f2 b a).2.1,(f2 b a).2.2.2.2.1,(f2 b a).2.2.2.2.2];let⟨mm,hnn,_⟩:=Γ.loc;let⟨oC,es,ep,Z,rC⟩:=id hnn;let R:D<=s3⁻¹:=by rw[s3s];show af6 _
   let K:∀{b:Ç} {o:ÿ},f.heap.get? b=À o->b≠s3⁻¹:=λe z=>absurd (ē e) (af5.mpr (by rwa[hD,z]))
   let cC:∀x c,X.env.cells.lookup x=À c->c≠s3⁻¹:=λx c e z=>by
    let⟨v,o,q1,_⟩:=t.cell x c e;show K q1 z
   let pC:∀p∈X.pn++ZB,p.1≠s3⁻¹:=λp hp=>K (t.pin p hp).1
   let lC:s3⁻¹≠X.env.locals:=λz=>by
    let:=t.lt;rw[hD,<-z] at this;show absurd this (af5.mpr R)
   show hRR D s3⁻¹ σ B oC mm (I6X.rG λp hp=>?_) Z hnn (Ń t.sz (by rwa[hD])) lC cC pC q;obtain hp|hp:=aen.mp hp
   .show I6X.pin p (Ţ _ hp)
   .let:p=(s3⁻¹,oC):=by simpa using hp
    subst this;show#[Z,Γ.free,lC,λz=>?_,λv z=>?_]
    .let:=t.ok.oS.mem z;let hz:=t.oS.mem z;let⟨_,o,hz,_⟩:=hz;show K hz rfl
    .let:=rC.1;rw[z] at this;cases this
  .show cK (T.item (gQ X (cN X tn js) Ze s3⁻¹ s3 k fp) rfl rfl rfl hc i [] s5 _ B (λ_ _=>False) I5' (G fr5) st5 go) λr σ (⟨u,hr,h6⟩)=>?_;subst hr;show cK h6 λ_ s7 (⟨x,H7,I7,r7,y7,F,fr7⟩)=>?_;let I7':=I7.pinned (G fr7) (T.obj _ _ F);show cK ((a s3⁻¹ s3 k fp).1 _ s7 _ H7 x u _ I7' r7 (step x H7 y7)) λ_ s8 (⟨σ8,H8,I8,kc8,q8⟩)=>?_
   -- what the ZB say of the iterator,later
   let Λ:∀{Y':St} {H':Hp} {s':Æ} {P:List V} {l:Nat},Inv (gQ X (cN X tn js) Ze s3⁻¹ s3 k fp) ([]++v7 fp s7.heap) Y' H' s'->l<n->W (i+1) l H' P->FY Y tn js Y' ->
     ∃m,m<n/\∃i Y' H' xs,Inv (gQ X (cN X tn js) Ze s3⁻¹ s3 k fp) [] Y' H' s'/\α i s'.heap/\(∀b∈fp,H' b=none)/\W i m H' xs/\FY Y tn js Y':=λ{Y' H' s' P l} I' hm w' k'=>by
    show#[l,hm,i+1,Y',H',P,I'.p9,T.keep _ _ _ F λb a o e=>(I'.pin (b,o) (Ţ _ (Ţ _ (lq a e)))).1,λb a=>?_,w',k'];let⟨o,e,d⟩:=T.obj _ _ F b a;show(I'.pin (b,o) (Ţ _ (Ţ _ (lq a e)))).2.1
   show cK ((a s3⁻¹ s3 k fp).2.1 _ s8 σ8 H8 _ I8 q8) λok s9 (⟨H9,I9,q9⟩)=>?_;cases ok with
   |false =>
    let q9':∃l,l<n/\W (i+1) l H9 xs:=by
     let z:=q9;rwa[adF ō] at z
    let⟨l,hm,w9⟩:=q9';show Λ I9 hm w9 kc8
   |true =>
    rw[adI rfl] at q9 ⊢;show cK ((a s3⁻¹ s3 k fp).2.2 _ s9 σ8 H9 _ I9 q9) λyv s10 (⟨y,H10,I10,r10,hD10,hz,l,hm,w10⟩)=>?_
    show cK (yK _ s10 σ8 H10 (.ref D) [y] (.ref D) [yv] (λ_ H'=>H'=upd H10 D (.lst (xs++[y]))) I10 rfl (.cons r10 .nil) #[D,xs,y,rfl,rfl,hD10,hz,rfl]) λ_ s11 (⟨_,H11,I11,_,e11⟩)=>by
     subst e11;show Λ I11 hm w10 kc8
 show codeAny_compStart_list loop (T.self _ 0 _ _ _ st4 loop)
def Qf(S:gF X Ze tn js)(j:X.calm=Á)(hi:PI X target iter wi)
  (a:∀C s H fp,PG .H target g/\PF .H ifs tt/\PE .H elt te)
  (f:(∀x,Þ iter X.env x=pure x)<|>zrc):PE X (.ListComp elt [#[target,iter,ifs,0]] Ze pos) (TX wi tn js g tt te):=by
 intro ZB s Y H Q I h;rw[eval_ListComp];show ν (use:=none) rfl f (lY (gM I.ok S)) S.kind S.loc ?_;show yx (RR:=λc C=>compPost .E X.A X.xe none (EP X ZB Y Q) c C) S j hi a I h ?_;intro D C s' H' k m d t r h1 h2 n i q;show#[m,r,λh' u=>#[.ref D,H',?_,rfl,q]];let l:Inv X ZB Y H' s':=d.rG λp hp=>d.pin p (Ţ _ (ϑ _ hp));show l.turned (t':=s'.toks) (λb o a e=>u.extBut b o a e) (d.pin (C,k) (Ţ _ (Ţ _ .c))).2.1 (œ (œ h2)) (.inr h1) n i
def BF{i:Nat}{y:Ì}{py a:ð}(B:X.N.Nodup)(d:X.N[i]?=À y)(α:Loc X.env.scope y)(J:X.fn y=Á\/X.env.scope.names.lookup y=À .local)(S:gF X Ze tn js)(F:X.calm=Á)(hi:PI X target iter wi)
  (f:∀C s H fp,PG .H target g/\PF .H ifs tt/\PE .H elt te)
  (l:õ (.ListComp elt [#[target,iter,ifs,0]] Ze pos) (À (.Name y py)) a.line X.env=pure Á)
  (t:(∀x,Þ iter X.env x=pure x)<|>zrc):PS X (.Assign [.Name y py] (.ListComp elt [#[target,iter,ifs,0]] Ze pos) a) (λD Y H=>TX wi tn js g tt te Y H λv H1=>D.nx (Y.set i (À v)) H1):=by
 intro ZB s Y H r I h;rw[exec_Assign_Name_used _ _ _ _ l];show Ü (θ (Ü ?_));change Ë _ X.A (do let _ <-comprehension (.ListComp elt [#[target,iter,ifs,0]] Ze pos) Ze X.env _ (newList []) Â (Õ iter X.env) (À (ď (.Name y py) X.env))) _ _ s;show Ü (Ρ (ν (use:=À (ď (.Name y py) X.env)) (Q:=λ_ s'=>SP X ZB r .next s') rfl t (lY (gM I.ok S)) S.kind S.loc ?_) (λ_ s' u=>û (û u)) λ_ _ e=>e);show yx (RR:=λj C=>compPost .E X.A X.xe (À (ď (.Name y py) X.env)) (λ_ s'=>SP X ZB r .next s') j C) S F hi f I h ?_;intro D C s' H' G m L n R h1 h2 P E q;change Ë _ X.A (ď (.Name y py) X.env (.ref D)) _ _ _;show cK (lF (pos:=py) B d α J _ s' Y H' (.ref D) (.ref D) (λσ2 H2=>σ2=Y.set i (À (.ref D))/\H2=H') L rfl #[rfl,rfl]) λ_ c ⟨σ2,H2,k,e1,e2⟩=>?_;subst e1 e2;let⟨K,O,_⟩:=k.pin (C,G) (Ţ _ (Ţ _ .c));show#[m,R.at' λo e=>?_,λh' T=>?_]
 .rw[n] at e;cases e;show K
 .let z:Inv X ZB (Y.set i (À (.ref D))) H2 c:=k.rG λp hp=>k.pin p (Ţ _ (ϑ _ hp));show#[_,H2,z.turned (t':=c.toks) (λb o f e=>T.extBut b o f e) O h2 (.inr h1) P E,q]
def O3:mx X (ĝ .Mult) (rI ĭ λi j=>.int (i*j)):=Ul λ_ _ _ _ _ _ _ a q=>mul_int q a
def GH(_ j:Int):Prop:=j≠0/\j.natAbs.log2<9000
def LN:mx X (ĝ .FloorDiv) (rI GH λi j=>.int (i.fdiv j)):=Ul λ_ _ _ _ _ _ _ a q=>floordiv_int a.1 q (.inl (PyProof.noPylong_of_log2 a.2))
def T4(lo c:Int)(n:Nat):It:=#[λi _=>i<n,λi H x H'=>H'=H/\x=.int (lo+i*c),λi _=>n<=i]
def Cu{P:Ð}{w:Ø}{tg:Ô}(a:Ç)(lo c:Int)(n:Nat):Turn P w K tg (T4 lo c n) [a] a (λi h=>ž h a (lo+(i:Nat)*c) ((n:Int)-(i:Nat)) c) where
 mem:=by simp
 obj:=λi h st b d=>by
  let e:b=a:=by simpa using d
  subst e
  show#[_,st,λv z=>by
   let C:Data.fields _=Data.cell v:=z
   cases C]
 keep:=λi h h' st k=>k a .c _ st
 item:=by
  intro X A y x q i ZB s Y H E I g st l;subst A y x;let⟨r,j,G,u,m,p⟩:=g a .c;let W:=Walks.range (prog:=X.prog) (w:=X.w) (I.ok.hd q) a lo c n;show W.item i s _ _ l st λv h' tk B f kk=>?_;let⟨t,rfl⟩:=B;let D:Inv X ZB Y H {s with heap:=h',toks:=tk}:=I.turned (λb o d e=>kk b o ↑d e) r j u m p;show#[_,rfl,Gs (s:={s with heap:=h',toks:=tk}) (n:="range_iterator") f rfl rfl .a #[.int (lo+i*c),H,D,#[t,rfl],#[rfl,rfl],f,λb d=>(g b d).1]]
 done:=by
  intro X A y x q i ZB s Y H E I g st l;subst A y x;let⟨r,j,G,u,m,p⟩:=g a .c;show ϡ (I.ok.hd q) st (by let:n<=i:=l;lia) λh' F=>#[rfl,I.turned (t':=s.toks) (λb o d e=>F b o d e) r j u m p]
 self:=λ_ _ _ _ _ st h=>Ϣ st h
def OJ{a b:Int}(ha:-(2^62)<=a)(d:a<2^62)(h:-(2^62)<=b)(f:b<2^62)(i:c≠0)(e:-1000<=c)(g:c<=1000):š a b c=Á:=by
 let h1:=rangeSize_toNat a b c;let h2:=rangeSize_toNat_le a b c;unfold š;generalize Ò a b c=r at *;simp only[Builtin.Range.rangeFitsLong,ŷ,ahw,afX,af4];show#[#[#[#[#[.b,.b],.b,.b],.b,.b],.b,.b],?_];right;split<;>simp only[ŷ,afX]<;>lia
variable{tg:Ô}
def GO{ZB:List (Ç×ÿ)}{Y:St}{H:Hp}{s:Æ}{R:It->Hp->Prop}{E:Å->Æ->Prop}{lo hi:Int}{t u v:Tok}{tk:Nat}(I:Inv X ZB Y H s)(h1:-(2^62)<=lo)(h2:lo<2^62)(g:-(2^62)<=hi)(f:hi<2^62)
  (c0:c≠0) (c1:-1000<=c) (c2:c<=1000)
  (q:R (T4 lo c ↥(Ò lo hi c)) H):Ë .E X.A (Ų (.ref s⁻¹)) (WM X ZB Y tg R) E {s with heap:=s.heap.push {cls:=.type "range",data:=.fields (æ [.int lo t,.int hi u,.int c v])},toks:=tk}:=by
 show wpAny_pyIter_range (IsRange.new ..) (OJ h1 h2 g f c0 c1 c2) ?_;let a:Inv X ZB Y H {s with heap:=s.heap.push {cls:=.type "range",data:=.fields (æ [.int lo t,.int hi u,.int c v])},toks:=tk}:=I.kept λb o e=>Ĩ _ e
 show#[(s.heap.push {cls:=.type "range",data:=.fields (æ [.int lo t,.int hi u,.int c v])}).objs.size,[(s.heap.push {cls:=.type "range",data:=.fields (æ [.int lo t,.int hi u,.int c v])}).objs.size],_,_,H,rfl,
  a.kept (t':=tk) λb o e=>Ĩ _ e,Cu _ lo c ↥(Ò lo hi c),?_,λb d=>?_,q]
 .let e1:lo+((0:Nat):Int)*c=lo:=by simp
  let e2:((↥(Ò lo hi c):Nat):Int)-((0:Nat):Int)=Ò lo hi c:=by let:=rangeSize_toNat lo hi c;lia
  change ž _ _ (lo+((0:Nat):Int)*c) (((↥(Ò lo hi c):Nat):Int)-((0:Nat):Int)) c;rw[e1,e2];show Ŕ _ rfl
 .let e:b=(s.heap.push {cls:=.type "range",data:=.fields (æ [.int lo t,.int hi u,.int c v])}).objs.size:=by simpa using d
  subst e;show a.GN (Ā _) (a.hok.fresh (Ā _))
def VP(ta:TA):TI:=λY H R=>ta Y H λvs H1=>∃i j c:Int,vs=[.int i,.int j,.int c]/\(-(2^62)<=i/\i<2^62/\-(2^62)<=j/\j<2^62)/\(c≠0/\-1000<=c/\c<=1000)/\R (T4 i c ↥(Ò i j c)) H1
def GQ{a b c:Ô}{ta:TA}{p pos:ð}(l:Gl X "range")(n:X.mg "range"=none)(ha:PA X [a,b,c] ta)(he:Ä [a,b,c] X.env=(Â,Õ a X.env)::Ä [b,c] X.env<|>zra)
  (hpl:(ã pos (Ä [b,c] X.env)).any (·.1)=Â<|>zra):PI X tg (.Call (.Name "range" p) [a,b,c] [] pos) (VP ta):=by
 intro ZB s Y H R I h;show Call_ (je I l n boot_range (afm (cK (ha pos ZB s Y H _ I h) λus x ⟨vs,H1,u,v,f⟩=>?_) he hpl));let⟨i,j,c,e,⟨f,k,w,o⟩,⟨c0,c1,c2⟩,q⟩:=f;subst e;cases v with
 |cons r d =>
  cases d with
  |cons r' d =>
   cases d with
   |cons g d =>
    cases d;let⟨t,rfl⟩:=r;let⟨t',rfl⟩:=r';let⟨m,rfl⟩:=g;show call_range_3 c0 (GO u f k w o c0 c1 c2 q) (.inl (PyProof.noPylong_small .f))
def Ej{lo:Int}{g:TG}{tb:TS}{D:Ends}{Y:St}{H:Hp}(Pv:Nat->St->Hp->Prop)(h:Pv 0 Y H)
  (d:∀i Y H,i<n->Pv i Y H->g (.int (lo+i*c)) Y H λσ2 H2=>tb {D with nx:=Pv (i+1),ct:=Pv (i+1),bk:=D.nx} σ2 H2) (f:∀Y H,Pv n Y H->D.nx Y H):
  ∃W:Nat->Nat->St->Hp->Prop,(∃m,W 0 m Y H)/\∀i m Y H,W i m Y H ->
   ((T4 lo c n).stop i H/\D.nx Y H)\/((T4 lo c n).go i H/\∃N:St->Hp->Prop,(∀Y' H',N Y' H'->∃b,b<m/\W (i+1) b Y' H')/\∀x H',(T4 lo c n).yld i H x H'->g x Y H' λσ2 H2=>tb {D with nx:=N,ct:=N,bk:=D.nx} σ2 H2):=by
 show#[λi m Y H=>m=n-i/\i<=n/\Pv i Y H,#[n,.c,ş _,h],?_];rintro i m Y H ⟨rfl,hi,p⟩;by_cases a:i<n
 .show .inr #[a,Pv (i+1),λY' H' j=>#[n-(i+1),.b,rfl,a,j],λx H' y=>?_];let⟨e,y⟩:=y;subst e y;show d i Y _ a p
 .let e:i=n:=.b
  subst e;show .inl #[Ā _,f Y H p]
end
mutual
inductive DR(K:Ã)(H:Hp):V->ï->Prop
 |non:DR K H .non .none
 |bl (b:Bool):DR K H (.bl b) (.bool b)
 |int (i:Int):DR K H (.int i) (.int i)
 |str (x:Ì):DR K H (.str x) (.str x)
 |lst {a:Ç} {xs:List V} {ds:List ï}:dz K H a xs->GS K H xs ds->DR K H (.ref a) (.list ds)
 |tup {a:Ç} {xs:List V} {ds:List ï}:CJ K H a xs->GS K H xs ds->DR K H (.ref a) (.tuple ds)
inductive GS(K:Ã)(H:Hp):List V->List ï->Prop
 |nil:GS K H [] []
 |cons {x:V} {xs:List V} {d:ï} {ds:List ï}:DR K H x d->GS K H xs ds->GS K H (x::xs) (d::ds)
end
section
variable{X:Cx}{ZB:List (Ç×ÿ)}{Y:St}{H:Hp}{s:Æ}
mutual
theorem DR.reads(I:Inv X ZB Y H s):∀{x:V} {d:ï} {u:Å},DR X.K H x d->RelV x u->∃as,Reads s.heap u d as
 |_,_,_,.non,r=>by cases r;show#[_,.none]
 |_,_,_,.bl b,r=>by cases r;show#[_,.bool b]
 |_,_,_,.int i,r=>by let⟨t,rfl⟩:=r;show#[_,.int i t]
 |_,_,_,.str x,r=>by let⟨t,rfl⟩:=r;show#[_,.str x t]
 |_,_,_,.lst h c,r=>by
  cases r;let⟨YU,a,p,_⟩:=I.list h;let⟨as,e⟩:=GS.reads I c a;let⟨o,e1,e2,n,e3⟩:=p.isList;show#[_,.list e1 e2 e3 ↑e]
 |_,_,_,.tup h c,r=>by
  cases r;let⟨YU,a,p,_⟩:=I.tuple h;let⟨as,e⟩:=GS.reads I c a;let⟨o,e1,e2,n,e3⟩:=p;show#[_,.tuple e1 e2 e3 ↑e]
theorem GS.reads(I:Inv X ZB Y H s):∀{xs:List V} {ds:List ï} {us:List Å},GS X.K H xs ds->Vals xs us->∃as,ReadsAll s.heap us ds as
 |_,_,_,.nil,r=>by cases r;show#[_,.nil]
 |_,_,_,.cons h c,r=>by
  cases r with
  |cons d e =>
   let⟨as,a⟩:=DR.reads I h d;let⟨bs,b⟩:=GS.reads I c e;show#[_,.cons a b]
end
def WK(K:Ã):R2:=λx y H Q=>∃d e,DR K H x d/\DR K H y e/\d.canLay0=Á/\e.canLay0=Á/\d.depth<=60/\Q (.bl (ê d e)) H
def Xt(K:Ã):R2:=λx y H Q=>∃d e,DR K H x d/\DR K H y e/\d.canLay0=Á/\e.canLay0=Á/\d.depth<=60/\Q (.bl (!PyData.eqv d e)) H
def SO(i:X.A.units+60<Κ):mx X (ç .Eq) (WK X.K):=by
 intro ZB s Y H x y v u Q I f c h;let⟨d,e,a,he,c1,c2,dp,q⟩:=h;let⟨as,g⟩:=a.reads I f;let⟨bs,b⟩:=he.reads I c;show SeqAt.compareEq_reads g b c1 c2 (by let:=Nat.min_le_left d.depth e.depth;lia) #[.bl _,H,I,rfl,q]
def Q4(i:X.A.units+60<Κ):mx X (ç .NotEq) (Xt X.K):=by
 intro ZB s Y H x y v u Q I f c h;let⟨d,e,a,he,c1,c2,dp,q⟩:=h;let⟨as,g⟩:=a.reads I f;let⟨bs,b⟩:=he.reads I c;show SeqAt.compareNe_reads g b c1 c2 (by let:=Nat.min_le_left d.depth e.depth;lia) #[.bl _,H,I,rfl,q]
end
end L2
namespace L2.EP
open PySem PySem.Spec PyProof.Rows
variable{i j lo:Int}{H H' H0:Hp}{c b c':Bool}{p C:Ç}{K:Ã}{n m:Nat}{x y:Ì}{v:V}{X:Cx}{xs:List V}{s:Æ}{e:Ô}{op:ũ}{Y:St}{es:List Ô}{rest:List Ï}{tn:List Ì}{js:List Nat}
open Classical in
def off(H:Hp)(O:Ç->Prop):Hp:=λb=>if O b then none else H b
def bE{O:Ç->Prop}{b:Ç}(h:¬O b):off H O b=H b:=by delta off;rw[adF h]
def zV{O:Ç->Prop}{b:Ç}(h:O b):off H O b=none:=by delta off;rw[adI h]
def kE{O:Ç->Prop}{b:Ç}{o:HO}(h:off H O b=À o):¬O b/\H b=À o:=by
 by_cases a:O b
 .rw[zV a] at h;cases h
 .rw[bE a] at h;show#[a,h]
def aw(H:Hp)(O:Ç->Prop):aH .F H:=λ_ _ h=>(kE h).2
def ah{O:Ç->Prop}(s:aH H H'):aH .F (off H' O):=λb o h=>by
 let⟨h1,h2⟩:=kE h;rw[bE h1];show s _ _ h2
def kG{O a:Ç->Prop}(l:∀b,a b->O b):aH .F (off H a):=λb o h=>by
 let⟨h1,h2⟩:=kE h;rwa[bE λz=>h1 (l _ z)]
def OM(H:Hp):off H (λ_=>False)=H:=funext λ_=>bE λz=>z
def oo{O:Ç->Prop}{o:HO}(h:O p):off (upd H p o) O=off H O:=funext λb=>by
 by_cases a:O b
 .rw[zV a,zV a]
 .rw[bE a,bE a,aU];rintro rfl;show a h
def dt(h:H p=none)(o:HO):aH H (upd H p o):=λb u q=>by rwa[aU (bY q h)]
def aH.rd{a:Ç}{u:HO}(e:aH H H')(h:Rd H a u):Rd H' a u:=by
 obtain h|⟨o,h⟩:=h
 .show .inl (e _ _ h)
 .show .inr #[o,e _ _ h]
def Rt(H:Hp)(p:Ç)(xs:List V):Prop:=H p=À (.tup xs)\/∃_:Empty,H p=À (.tup xs)
def Rt.pl(h:Rt H p xs):H p=À (.tup xs):=by
 obtain h|⟨o,h⟩:=h
 .show h
 .show h
def Rt.rd(h:Rt H p xs):Rd H p (.tup xs):=.inl h.pl
def aH.rt{a:Ç}{u:List V}(e:aH H H')(h:Rt H a u):Rt H' a u:=.inl (e _ _ h.pl)
def wF(e:aH H H')(h:Rt H p xs):CJ K H' p xs:=.inl (aH.rt e h).rd
inductive Nn where
 |any
 |new (H0:Hp)
 |set (D:Ç->Prop)
variable{N:Nn}
inductive Mt where
 |inl (xs:List V)
 |inr (YY:List (Key×V))
 |inT (YY:List (List Key×V))
 |inB (YY:List ((Int×Bool)×V))
noncomputable def mo:Mt->HO
 |.inl xs=>.lst xs
 |.inr YY=>.dK YY
 |.inT YY=>.dT YY
 |.inB YY=>.dB YY
def Mo(K:Ã)(H:Hp)(p:Ç):Mt->Prop
 |.inl xs=>dz K H p xs
 |.inr YY=>Rd H p (.dK YY)
 |.inT YY=>Rd H p (.dT YY)
 |.inB YY=>Rd H p (.dB YY)
def Mo.mono{o:Mt}(s:aH H H')(h:Mo K H p o):Mo K H' p o:=by
 cases o with
 |inl xs=>show s.seq h
 |inr YY=>show aH.rd s h
 |inT YY=>show aH.rd s h
 |inB YY=>show aH.rd s h
def Mo.of{K:Ã}{H:Hp}{p:Ç}{o:Mt}(h:H p=À (mo o)):Mo K H p o:=by
 cases o with
 |inl xs=>show dz.of h
 |inr YY=>show .inl h
 |inT YY=>show .inl h
 |inB YY=>show .inl h
def Nn.has:Nn->Hp->Ç->Mt->Prop
 |.any,_,_,_=>True
 |.new H0,H,p,xs=>H0 p=none/\H p=À (mo xs)
 |.set D,H,p,xs=>D p/\H p=À (mo xs)
def Nn.mono{xs:Mt}(s:aH H H')(h:N.has H p xs):N.has H' p xs:=by
 cases N with
 |any=>show Ê
 |new H0=>show#[h.1,s _ _ h.2]
 |set D=>show#[h.1,s _ _ h.2]
class Py(M:Type) where
 rp:Ã->Nn->Hp->V->M->Prop
 tr:∀{K:Ã} {N N':Nn} {H H':Hp} {v:V} {a:M},(∀p (o:Mt),Mo K H p o->N.has H p o->Mo K H' p o/\N'.has H' p o)->(∀p xs,Rt H p xs->Rt H' p xs)->rp K N H v a->rp K N' H' v a
def ay{M:Type}[Py M]{a:M}(s:aH H H')(h:Py.rp K N H v a):Py.rp K N H' v a :=
 Py.tr (λ_ _ q n=>#[Mo.mono s q,Nn.mono s n]) (λ_ _ q=>aH.rt s q) h
def aT{M:Type}[Py M]{N':Nn}{a:M}(w:∀p (o:Mt),N.has H p o->N'.has H p o)(h:Py.rp K N H v a):Py.rp K N' H v a :=
 Py.tr (λ_ _ q n=>#[q,w _ _ n]) (λ_ _ q=>q) h
noncomputable instance:Py Int where
 rp _ _ _ v a:=v=.int a
 tr _ _ h:=h
noncomputable instance:Py Bool where
 rp _ _ _ v a:=v=.bl a
 tr _ _ h:=h
noncomputable instance:Py Unit where
 rp _ _ _ v _:=v=.non
 tr _ _ h:=h
noncomputable instance:Py Ì where
 rp _ _ _ v a:=v=.str a
 tr _ _ h:=h
noncomputable instance{M:Type}[Py M]:Py (Option M) where
 rp K N H v a:=match a with|none=>v=.non|some b=>Py.rp K N H v b
 tr {K N N' H H' v a} l t h:=by
  cases a with
  |none=>show h
  |some b=>show Py.tr (M:=M) l t h
noncomputable instance{M β:Type}[Py M][Py β]:Py (M×β) where
 rp K N H v a:=∃p x y,v=.ref p/\Rt H p [x,y]/\Py.rp K N H x a.1/\Py.rp K N H y a.2
 tr l t h:=by
  let⟨p,x,y,e,s,h1,h2⟩:=h;show#[p,x,y,e,t _ _ s,Py.tr l t h1,Py.tr l t h2]
theorem bu{M β:Type}{F G:M->β->Prop}(f:∀a b,F a b->G a b):∀{l₁:List M} {l₂:List β},ß F l₁ l₂->ß G l₁ l₂
 |_,_,.nil=>.nil
 |_,_,.cons h t=>.cons (f _ _ h) (bu f t)
theorem bQ{M β:Type}{F:M->β->Prop}:∀{l₁:List M} {l₂:List β},ß F l₁ l₂->~~~l₁= ~~~l₂
 |_,_,.nil=>rfl
 |_,_,.cons _ t=>congrArg (·+1) (bQ t)
theorem iX{M β:Type}{F:M->β->Prop}:∀{l₁:List M} {l₂:List β} {i:Nat} {b:β},ß F l₁ l₂->l₂[i]?=À b->∃a,l₁[i]?=À a/\F a b
 |_,_,_,_,.nil,e=>by simp at e
 |_,_,0,_,.cons h _,e=>by simp at e;subst e;show#[_,rfl,h]
 |_,_,i+1,_,.cons _ t,e=>by
  let⟨a,h1,h2⟩:=iX (i:=i) t ↑e;show#[a,↑h1,h2]
theorem zq{M β:Type}{F:M->β->Prop}:∀{l₁:List M} {l₂:List β} {i:Nat} {a:M},ß F l₁ l₂->l₁[i]?=À a->∃b,l₂[i]?=À b/\F a b
 |_,_,_,_,.nil,e=>by simp at e
 |_,_,0,_,.cons h _,e=>by simp at e;subst e;show#[_,rfl,h]
 |_,_,i+1,_,.cons _ t,e=>by
  let⟨a,h1,h2⟩:=zq (i:=i) t ↑e;show#[a,↑h1,h2]
theorem vM{M β:Type}{F:M->β->Prop}:∀{l₁ m₁:List M} {l₂ m₂:List β},ß F l₁ l₂->ß F m₁ m₂->ß F (l₁++m₁) (l₂++m₂)
 |_,_,_,_,.nil,h=>h
 |_,_,_,_,.cons h t,h'=>.cons h (vM t h')
theorem Ep{M β:Type}{F:M->β->Prop}{a:M}{b:β}(f:F a b):∀{l₁:List M} {l₂:List β} (i:Nat),ß F l₁ l₂->ß F (l₁.set i a) (l₂.set i b)
 |_,_,_,.nil=>.nil
 |_,_,0,.cons _ t=>.cons f t
 |_,_,i+1,.cons h t=>.cons h (Ep f i t)
theorem vt{M β:Type}{F:M->β->Prop}:∀{l₁:List M} {l₂:List β} (n:Nat),ß F l₁ l₂->ß F (l₁.drop n) (l₂.drop n)
 |_,_,0,h=>h
 |_,_,_+1,.nil=>.nil
 |_,_,n+1,.cons _ t=>vt n t
theorem zB{M β:Type}{F:M->β->Prop}:∀{l₁:List M} {l₂:List β} (n:Nat),ß F l₁ l₂->ß F (l₁.take n) (l₂.take n)
 |_,_,0,_=>.nil
 |_,_,_+1,.nil=>.nil
 |_,_,n+1,.cons h t=>.cons h (zB n t)
noncomputable instance{M:Type}[Py M]:Py (List M) where
 rp K N H v a:=∃p xs,v=.ref p/\dz K H p xs/\N.has H p (.inl xs)/\ß (λx b=>Py.rp K N H x b) xs a
 tr l t h:=by
  let⟨p,xs,e,s,n,r⟩:=h;let⟨s',c⟩:=l _ (.inl xs) s n;show#[p,xs,e,s',c,bu (λ_ _ q=>Py.tr l t q) r]
class PyD(M:Type) extends Py M where
 dat:M->ï
 dr:∀{K:Ã} {N:Nn} {H:Hp} {v:V} {a:M},Py.rp K N H v a->DR K H v (dat a)
 lay:∀a,(dat a).canLay0=Á
 dep:Nat
 depth:∀a,(dat a).depth<=dep
 eqv:∀a b,ê (dat a) (dat b)=Á↔a=b
noncomputable instance:PyD Int where
 dat:=.int
 dr h:=by cases h;show .int _
 lay _:=rfl
 dep:=0
 depth _:=Ā _
 eqv a b:=by simp[ê]
noncomputable instance:PyD Bool where
 dat:=.bool
 dr h:=by cases h;show .bl _
 lay _:=rfl
 dep:=0
 depth _:=Ā _
 eqv a b:=by simp[ê]
noncomputable instance{M β:Type}[PyD M][PyD β]:PyD (M×β) where
 dat a:=.tuple [PyD.dat a.1,PyD.dat a.2]
 dr h:=by
  let⟨p,x,y,e,s,h1,h2⟩:=h;subst e;show .tup (.inl s.rd) (.cons (PyD.dr h1) (.cons (PyD.dr h2) .nil))
 lay a:=by
  change î [PyD.dat a.1,PyD.dat a.2]=Á;simp[î,PyD.lay]
 dep:=max (PyD.dep M) (PyD.dep β)+1
 depth a:=by
  let h1:=PyD.depth a.1;let h2:=PyD.depth a.2;change Ġ [PyD.dat a.1,PyD.dat a.2]+1<=_;simp only[Ġ];lia
 eqv a b:=by
  rw[ê];simp only[ė,Bool.and_true,ŷ,PyD.eqv];show#[λh=>ahI h.1 h.2,λh=>by subst h;show#[rfl,rfl]]
theorem wm{M:Type}[PyD M]{K:Ã}{N:Nn}{H:Hp}:∀{xs:List V} {as:List M},ß (λx b=>Py.rp K N H x b) xs as->GS K H xs (as.map PyD.dat)
 |_,_,.nil=>.nil
 |_,_,.cons h t=>.cons (PyD.dr h) (wm t)
theorem vW{M:Type}[PyD M]:∀as:List M,î (as.map PyD.dat)=Á:=zrL (rfl) λa as vW=>by simp[î,PyD.lay,vW]
theorem Bg{M:Type}[PyD M]:∀as:List M,Ġ (as.map PyD.dat)<=PyD.dep M:=zrL (ş _) λa as Bg=>by
  let h1:=PyD.depth a;let h2:=Bg;simp only[ů,Ġ];lia
theorem B4{M:Type}[PyD M]:∀as bs:List M,ė (as.map PyD.dat) (bs.map PyD.dat)=Á↔as=bs
 |[],[]=>by simp[ė]
 |[],_::_=>by simp[ė]
 |_::_,[]=>by simp[ė]
 |a::as,b::bs=>by simp[ė,PyD.eqv,B4 as bs]
noncomputable instance{M:Type}[PyD M]:PyD (List M) where
 dat a:=.list (a.map PyD.dat)
 dr h:=by
  let⟨p,xs,e,s,n,r⟩:=h;subst e;show .lst s (wm r)
 lay a:=vW a
 dep:=PyD.dep M+1
 depth a:=by
  change Ġ (a.map PyD.dat)+1<=_;let:=Bg a;lia
 eqv a b:=by rw[ê];show B4 a b
inductive Bd:Type 1
 |val {M:Type} [Py M] (b:Bool) (a:M):Bd
 |own {M:Type} [Py M] (b:Bool) (as:List M):Bd
 |dpo {M:Type} [Py M] (a:M):Bd
variable{g:Bd}
abbrev aI:=List (Option Bd)
def Nf(H0:Hp):Bool->Nn
 |true=>.new H0
 |false=>.any
def Nf.wk{xs:Mt}(h:H0 p=none)(a:H p=À (mo xs)):(Nf H0 b).has H p xs:=by cases b;show Ê;show#[h,a]
def Nf.le{b':Bool}{xs:Mt}(l:b'=Á->b=Á)(h:(Nf H0 b).has H p xs):(Nf H0 b').has H p xs:=by
 cases b' with
 |false=>show Ê
 |true=>rwa[l rfl] at h
def Bd.ok(K:Ã)(H0:Hp)(O:Ç->Prop)(H:Hp)(v:V):Bd->Prop
 |@Bd.val _ _ b a=>Py.rp K (Nf H0 b) .F v a
 |@Bd.own _ _ _ _=>False
 |@Bd.dpo _ _ _=>False
def Bd.Dj(K:Ã)(H0:Hp)(O:Ç->Prop)(H:Hp)(D:Ç->Prop)(v:V):Bd->Prop
 |@Bd.val _ _ _ _=>False
 |@Bd.own _ _ b as=>∃p xs,v=.ref p/\D p/\H p=À (.lst xs)/\ß (λx a=>Py.rp K (Nf H0 b) .F x a) xs as
 |@Bd.dpo _ _ a=>Py.rp K (.set D) H v a
def Bd.jc:Bd->Prop
 |@Bd.val _ _ _ _=>False
 |@Bd.own _ _ _ _=>True
 |@Bd.dpo _ _ _=>True
structure e9(K:Ã)(H0:Hp)(F O:Ç->Prop)(U:aI)(Y:St)(H:Hp):Prop where
 same:aH H0 H
 fo:∀p,F p->O p
 f0:∀p,F p->∃xs:Mt,H0 p=À (mo xs)
 own:∀p,O p->∃xs:Mt,H p=À (mo xs)
 len: ~~~Y= ~~~U
 at_:∀(i:Nat) (g:Bd),U[i]?=À (À g)->¬g.jc->∃v,Y[i]?=À (À v)/\g.ok K H0 O H v
 dis:∃D:Nat->Ç->Prop,(∀i j p,D i p->D j p->i=j)/\(∀i p,D i p->O p/\H0 p=none)/\∀(i:Nat) (g:Bd),U[i]?=À (À g)->g.jc->∃v,Y[i]?=À (À v)/\g.Dj K H0 O H (D i) v
section
variable{K:Ã}{H0:Hp}{F O:Ç->Prop}{U:aI}{Y:St}{H H':Hp}
def Bd.go(s:aH H H')(h:g.ok K H0 O H v):g.ok K H0 O H' v:=by
 cases g with
 |val b a=>show ay (ah s) h
 |own b as=>show h
 |dpo a=>show h
def Bd.VZ{D j:Ç->Prop}(h:g.Dj K H0 O H D v)(k:∀p (xs:Mt),D p->H p=À (mo xs)->H' p=À (mo xs))(f:aH .F (off H' j))(m:∀p,D p->O p)(d:∀p,O p->∃xs:Mt,H p=À (mo xs)):g.Dj K H0 j H' D v:=by
 cases g with
 |val b a=>show h
 |own b as =>
  let⟨p,xs,e,o,q,r⟩:=h;show#[p,xs,e,o,k p (.inl xs) o q,bu (λ_ _ z=>ay f z) r]
 |dpo a =>
  let h':Py.rp K (.set D) H v a:=h;show Py.tr (M:=_) (a:=a) (λp xs q n=>?_) (λp xs q=>?_) h'
  .let⟨i,l⟩:=n;let h2:=k p xs i l;show#[Mo.of h2,i,h2]
  .let hp:∀u,(H p=À (.tup u)\/∃o,H p=À (.frz o (.tup u)))->¬O p:=λu z hp=>by
    let⟨ys,w⟩:=d p hp;obtain z|⟨o,z⟩:=z
    .rw[z] at w;obtain ys|ys|ys:=ys<;>cases w
    .rw[z] at w;obtain ys|ys|ys:=ys<;>cases w
   let c:=hp xs q.rd;obtain q|⟨o,q⟩:=q
   .show .inl ((aw _ _) _ _ (f _ _ (by rwa[bE c])))
   .show .inr #[o,(aw _ _) _ _ (f _ _ (by rwa[bE c]))]
def e9.go(S:e9 K H0 F O U Y H)(s:aH H H'):e9 K H0 F O U Y H' where
 same:=S.same.trans s
 fo:=S.fo
 f0:=S.f0
 own:=λp h=>let #[xs,q]:=S.own p h;#[xs,s _ _ q]
 len:=S.len
 at_:=λi g e n=>let #[v,q,r]:=S.at_ i g e n;#[v,q,Bd.go s r]
 dis:=by
  let⟨D,b,a,c⟩:=S.dis;show#[D,b,a,λi g e o=>?_];let⟨v,q,r⟩:=c i g e o;show#[v,q,Bd.VZ r (λp xs _ z=>s _ _ z) (ah s) (λp z=>(a i p z).1) S.own]
def e9.ik(S:e9 K H0 F O U Y H)(h:H p=none):H0 p=none:=S.same.free h
def e9.pZ(S:e9 K H0 F O U Y H)(h:H p=none):¬O p:=λo=>by
 let⟨xs,q⟩:=S.own p o;rw[h] at q;cases q
def e9.back{M:Type}[Py M]{a:M}(S:e9 K H0 F O U Y H)(h:Py.rp K (Nf H b) (off H' O) v a):Py.rp K (Nf H0 b) (off H' O) v a :=
 aT (λp xs n=>by cases b with|true=>show#[S.ik n.1,n.2]|false=>show Ê) h
end
theorem get_set_ne.{u}{M:Type u}{l:List M}{i j:Nat}{a:M}(h:j≠i):(l.set i a)[j]?=l[j]?:=by
 rw[afb (œ h)]
theorem get_set_eq.{u}{M:Type u}{l:List M}{i:Nat}{a:M}(h:i<~~~l):(l.set i a)[i]?=À a:=by
 rw[af3 h]
theorem get_set_some.{u}{M:Type u}{l:List (Option M)}{i:Nat}{a x:M}(h:(l.set i (À a))[i]?=À (À x)):i<~~~l/\a=x:=by
 by_cases b:i<~~~l
 .rw[get_set_eq b] at h;injection h with h;injection h with h;show#[b,h]
 .rw[afv (by rw[Ŝ];lia)] at h;cases h
def e9.set{K:Ã}{H0:Hp}{F O:Ç->Prop}{U:aI}{Y:St}{H:Hp}{M:Type}[Py M]{b:Bool}{a:M}{v:V}{i:Nat}(S:e9 K H0 F O U Y H)(r:Py.rp K (Nf H0 b) .F v a):
  e9 K H0 F O (U.set i (À (.val b a))) (Y.set i (À v)) H where
 same:=S.same
 fo:=S.fo
 f0:=S.f0
 own:=S.own
 len:=by rw[Ŝ,Ŝ];show S.len
 at_:=λj g e n=>by
  by_cases c:j=i
  .subst c;let⟨h,d⟩:=get_set_some e;subst d;show#[v,get_set_eq (by rwa[S.len]),r]
  .rw[get_set_ne c] at e;let⟨w,q,z⟩:=S.at_ j g e n;show#[w,by rwa[get_set_ne c],z]
 dis:=by
  let⟨D,f,l,k⟩:=S.dis;show#[D,f,l,λj g e o=>?_]
  let c:j≠i:=by
   rintro rfl;let⟨_,d⟩:=get_set_some e;subst d;show o
  rw[get_set_ne c] at e;let⟨w,q,z⟩:=k j g e o;show#[w,by rwa[get_set_ne c],z]
def tV{M:Type}[Py M](K:Ã)(U:aI)(b:Bool)(a:M):TE:=λY H Q=>∃H0 F O,e9 K H0 F O U Y H/\∀v H',aH H H'->Py.rp K (Nf H0 b) (off H' O) v a->Q v H'
@[irreducible] def E{M:Type}[Py M](X:Cx)(U:aI)(e:Ô)(b:Bool)(a:M):Prop:=PE X e (tV X.K U b a)
def Q5(K:Ã)(U:aI)(c:Bool):TT:=λY H Q=>∃H0 F O,e9 K H0 F O U Y H/\∀H',aH H H'->Q c H'
@[irreducible] def T(X:Cx)(U:aI)(e:Ô)(c:Bool):Prop:=PT X e (Q5 X.K U c)
@[irreducible] def TW(X:Cx)(U:aI)(e:Ô)(c:Bool):Prop:=PW X e (Q5 X.K U c)
def aJ{t t':TE}(h:PE X e t)(w:∀Y H Q,t' Y H Q->t Y H Q):PE X e t':=λZB s Y H Q I q=>h ZB s Y H Q I (w _ _ _ q)
def t8{t t':TT}(h:PT X e t)(w:∀Y H Q,t' Y H Q->t Y H Q):PT X e t':=λZB s Y H Q I q=>h ZB s Y H Q I (w _ _ _ q)
def Gm{t t':TT}(h:PW X e t)(w:∀Y H Q,t' Y H Q->t Y H Q):PW X e t':=λa ZB s Y H Q I q=>h a ZB s Y H Q I (w _ _ _ q)
section
variable{X:Cx}{U:aI}{M β γ:Type}[Py M][Py β][Py γ]{e e1 e2 e3:Ô}{b b1 b2 b3:Bool}{pos:ð}
def aa(i:Nat){a:M}(h:U[i]?=À (À (.val b a))<|>zra)(f:X.N[i]?=À x<|>zra)(e:Nm X.env.scope x<|>zre)
  (d:(x==("__debug__":Ì))=Â<|>zrb) (c:(x==("__classdict__":Ì))=Â<|>zrb):E X U (.Name x pos) b a:=by
 stop
  show aJ (pv i f e d c) λY H Q ⟨H0,F,O,S,q⟩=>by
    let⟨v,h1,h2⟩:=S.at_ i _ h (λz=>z);show#[v,h1,q v H (aH.refl _) h2]
def ae{j:Nat}:E X U (.Constant (.int i) j pos) Á i:=by stop show aJ RG λY H Q ⟨H0,F,O,S,q⟩=>q _ H (aH.refl _) rfl
def xj{i:Bool}{j:Nat}:E X U (.Constant (.bool i) j pos) Á i:=by stop show aJ UT λY H Q ⟨H0,F,O,S,q⟩=>q _ H (aH.refl _) rfl
def l_{j:Nat}:E X U (.Constant .none j pos) Á (none:Option M):=by stop show aJ Sj λY H Q ⟨H0,F,O,S,q⟩=>q _ H (aH.refl _) rfl
def E5{j:Nat}:E X U (.Constant (.str x) j pos) Á x:=by stop show aJ K5 λY H Q ⟨H0,F,O,S,q⟩=>q _ H (aH.refl _) rfl
theorem E.some{a:M}(h:E X U e b a):E X U e b (À a):=by stop show aJ h λY H Q ⟨H0,F,O,S,q⟩=>#[H0,F,O,S,λv H' s r=>q v H' s r]
def CW{op:Operator}{C:Int->Int->Prop}{g:Int->Int->Int}(c:mx X (ĝ op) (rI C λi j=>.int (g i j)))(ha:E X U e1 b1 i)(e:E X U e2 b2 j)(h:C i j):E X U (.BinOp e1 op e2 pos) Á (g i j):=by stop show aJ (JW c ha e) λY H Q ⟨H0,F,O,S,q⟩=>#[H0,F,O,S,λv H1 a f=>#[H0,F,O,S.go a,λw H2 b d=>#[i,j,f,d,h,q _ H2 (a.trans b) rfl]]]
def bH(ha:E X U e1 b1 i)(a:E X U e2 b2 j):E X U (.BinOp e1 .Add e2 pos) Á (i+j):=by stop show CW (C:=λ_ _=>True) (λZB s Y H x y v u Q I c b ⟨i,j,h1,h2,_,q⟩=>QD ZB s Y H x y v u Q I c b #[i,j,h1,h2,q]) ha a Ê
def ig(ha:E X U e1 b1 i)(a:E X U e2 b2 j):E X U (.BinOp e1 .Sub e2 pos) Á (i-j):=by stop show CW (C:=λ_ _=>True) (λZB s Y H x y v u Q I c b ⟨i,j,h1,h2,_,q⟩=>RN ZB s Y H x y v u Q I c b #[i,j,h1,h2,q]) ha a Ê
def aF(ha:E X U e1 b1 i)(a:E X U e2 b2 j)(b:ĭ i j):E X U (.BinOp e1 .Mult e2 pos) Á (i*j):=by stop show CW O3 ha a b
def bw(ha:E X U e1 b1 i)(a:E X U e2 b2 j)(b:GH i j):E X U (.BinOp e1 .FloorDiv e2 pos) Á (i.fdiv j):=by stop show CW LN ha a b
def bg(ha:E X U e1 b1 i)(a:E X U e2 b2 j)(b:j≠0):E X U (.BinOp e1 .Mod e2 pos) Á (i.fmod j):=by stop show CW NP ha a b
def UQ(ha:E X U e1 b1 i)(a:E X U e2 b2 j)(b:K2 i j):E X U (.BinOp e1 .Pow e2 pos) Á (i^↥j):=by stop show CW So ha a b
def bV(ha:E X U e1 b1 i):E X U (.UnaryOp .USub e1 pos) Á (-i):=by stop show aJ (UZ S4 ha) λY H Q ⟨H0,F,O,S,q⟩=>#[H0,F,O,S,λv H1 b a=>#[i,a,q _ H1 b rfl]]
def CV(X:Cx)(op:ũ)(x:M)(y:β)(c:Bool):Prop:=∃r,mx X (ç op) r/\∀(N N':Nn) (H:Hp) (u v:V) (Q:VK),Py.rp X.K N H u x->Py.rp X.K N' H v y->Q (.bl c) H->r u v H Q
def F1{g:Int->Int->Bool}(a:mx X (ç op) (M8 λi j=>.bl (g i j)))(i j:Int):CV X op i j (g i j):=#[_,a,λN N' H u v Q h1 h2 q=>#[i,j,h1,h2,q]]
def kO:CV X .Lt i j (decide (i<j)):=F1 U_ i j
def EF:CV X .LtE i j (decide (i<=j)):=F1 Ue i j
def fZ:CV X .Gt i j (decide (j<i)):=F1 VA i j
def FC:CV X .GtE i j (decide (j<=i)):=F1 Vv i j
def aG:CV X .Eq i j (decide (i=j)):=#[_,Vu,λN N' H u v Q h1 h2 q=>by
 cases h1;cases h2;show#[rfl,?_]
 rwa[vn,agL]]
def cH:CV X .NotEq i j (!decide (i=j)):=#[_,UX,λN N' H u v Q h1 h2 q=>by
 cases h1;cases h2;show#[rfl,?_]
 rwa[vn,agL]]
def Pu{M:Type}[PyD M][DecidableEq M]{x y:M}(a:X.A.units+60<Κ)(b:PyD.dep M<=60<|>zrb):CV X .Eq x y (decide (x=y)):=#[_,SO a,λN N' H u v Q h1 h2 q=>by
 show#[_,_,PyD.dr h1,PyD.dr h2,PyD.lay _,PyD.lay _,Ń (PyD.depth _) b,?_]
 let e:ê (PyD.dat x) (PyD.dat y)=decide (x=y):=by
  by_cases h:x=y
  .rw[adZ h];show(PyD.eqv x y).mpr h
  .rw[aec h];show ahY.mpr λz=>h ((PyD.eqv x y).mp z)
 rwa[e]]
def J6{M:Type}[PyD M][DecidableEq M]{x y:M}(a:X.A.units+60<Κ)(b:PyD.dep M<=60<|>zrb):CV X .NotEq x y (!decide (x=y)):=#[_,Q4 a,λN N' H u v Q h1 h2 q=>by
 show#[_,_,PyD.dr h1,PyD.dr h2,PyD.lay _,PyD.lay _,Ń (PyD.depth _) b,?_]
 let e:ê (PyD.dat x) (PyD.dat y)=decide (x=y):=by
  by_cases h:x=y
  .rw[adZ h];show(PyD.eqv x y).mpr h
  .rw[aec h];show ahY.mpr λz=>h ((PyD.eqv x y).mp z)
 rwa[e]]
def jw{x:M}{y:β}(j:CV X op x y c)(ha:E X U e1 b1 x)(f:E X U e2 b2 y)(i:ü op e2=Â:=by first|show LW _|rfl):E X U (.Compare e1 [op] [e2] pos) Á c:=by
 stop
  let⟨r,d,h⟩:=j
  show aJ (Nv d ha f i) λY H Q ⟨H0,F,O,S,q⟩=>#[H0,F,O,S,λv H1 b g=>#[H0,F,O,S.go b,λw H2 a e =>
   h _ _ H2 v w _ (ay ((ah a).trans (aw _ _)) g) (ay (aw _ _) e) (q _ H2 (b.trans a) rfl)]]
def aD{x:M}{y:β}(j:CV X op x y c)(ha:E X U e1 b1 x)(f:E X U e2 b2 y)(i:ü op e2=Â:=by first|show LW _|rfl):T X U (.Compare e1 [op] [e2] pos) c:=by
 stop
  let⟨r,d,h⟩:=j
  show t8 (Oi d ha f i) λY H Q ⟨H0,F,O,S,q⟩=>#[H0,F,O,S,λv H1 b g=>#[H0,F,O,S.go b,λw H2 a e =>
   h _ _ H2 v w _ (ay ((ah a).trans (aw _ _)) g) (ay (aw _ _) e) #[c,rfl,q H2 (b.trans a)]]]
def Vs{x:Option M}{j:Nat}{p:ð}(ha:E X U e1 b1 x)(d:∀(K:Ã) (N:Nn) (H:Hp) (a:M),¬Py.rp K N H .non a):E X U (.Compare e1 [.Is] [.Constant .none j p] pos) Á x.isNone:=by
 stop
  show aJ (Ks (K7 ha) rfl) λY H Q ⟨H0,F,O,S,q⟩=>#[H0,F,O,S,λv H1 c b=>by
    let:=q (.bl (decide (v=.non))) H1 c;show this ?_;cases x with
    |none=>cases b;rfl
    |some a =>
     let e:v≠.non:=by rintro rfl;show d _ _ _ a b
     change V.bl (decide (v=.non))=.bl Â
     rw[aec e]]
def qx{x:Option M}{j:Nat}{p:ð}(ha:E X U e1 b1 x)(d:∀(K:Ã) (N:Nn) (H:Hp) (a:M),¬Py.rp K N H .non a):T X U (.Compare e1 [.Is] [.Constant .none j p] pos) x.isNone:=by
 stop
  show t8 (D6 (K7 ha) rfl) λY H Q ⟨H0,F,O,S,q⟩=>#[H0,F,O,S,λv H1 c b=>by
    show#[decide (v=.non),rfl,?_]
    let e:decide (v=.non)=x.isNone:=by
     cases x with
     |none=>cases b;rfl
     |some a =>
      let f:v≠.non:=by rintro rfl;show d _ _ _ a b
      rw[aec f];rfl
    rw[e];show q H1 c]
def fQ(h:E X U e b c)(he:(∀whole,Ϧ e X.env whole=(do let v <-whole;Ϥ e.pos;Ě [v] (truthy v)))<|>zrc):T X U e c:=by stop show t8 (Te h he) λY H Q ⟨H0,F,O,S,q⟩=>#[H0,F,O,S,λv H1 d a=>#[c,a,q H1 d]]
def kD(h:T X U e c):T X U (.UnaryOp .Not e pos) (!c):=by stop show t8 (RO h) λY H Q ⟨H0,F,O,S,q⟩=>#[H0,F,O,S,λH1 a=>q H1 a]
variable{rest:List Ô}
def kW(h:T X U e c):TW X U (.BoolOp .And [e] pos) c:=by stop show OF h
def lL(h:T X U e c):TW X U (.BoolOp .Or [e] pos) c:=by stop show S5 h
def PY:PW X e (λ_ _ _=>False):=λ_ _ _ _ _ _ _ h=>h.elim
def yG:PE X e (λ_ _ _=>False):=λ_ _ _ _ _ _ h=>h.elim
def jG(h:T X U e1 c)(h':c=Á->TW X U (.BoolOp .And (e2::rest) pos) c'):TW X U (.BoolOp .And (e1::e2::rest) pos) (c&&c'):=by
 stop
  cases c with
  |true=>show Gm (KL h (h' rfl)) λY H Q ⟨H0,F,O,S,q⟩=>#[H0,F,O,S,λH1 a=>uH #[H0,F,O,S.go a,λH2 b=>q H2 (a.trans b)]]
  |false=>show Gm (KL h PY) λY H Q ⟨H0,F,O,S,q⟩=>#[H0,F,O,S,λH1 a=>xZ (q H1 a)]
def mJ(h:T X U e1 c)(h':c=Â->TW X U (.BoolOp .Or (e2::rest) pos) c'):TW X U (.BoolOp .Or (e1::e2::rest) pos) (c || c'):=by
 stop
  cases c with
  |false=>show Gm (Qw h (h' rfl)) λY H Q ⟨H0,F,O,S,q⟩=>#[H0,F,O,S,λH1 a=>xZ #[H0,F,O,S.go a,λH2 b=>q H2 (a.trans b)]]
  |true=>show Gm (Qw h PY) λY H Q ⟨H0,F,O,S,q⟩=>#[H0,F,O,S,λH1 a=>uH (q H1 a)]
def TW.t(h:TW X U e c):T X U e c:=by stop show h.pt
def t9{op:BoolOp}{a:M}(h:E X U e b a):E X U (.BoolOp op [e] pos) b a:=by stop show Rp h
def uo(h:E X U e1 b1 c)(h':c=Á->E X U (.BoolOp .And (e2::rest) pos) b2 c'):E X U (.BoolOp .And (e1::e2::rest) pos) Á (c&&c'):=by
 stop
  cases c with
  |true=>show aJ (Lw h (h' rfl)) λY H Q ⟨H0,F,O,S,q⟩=>#[H0,F,O,S,λv H1 a b=>#[Á,b,uH #[H0,F,O,S.go a,λw H2 d e=>q w H2 (a.trans d) e]]]
  |false=>show aJ (Lw h yG) λY H Q ⟨H0,F,O,S,q⟩=>#[H0,F,O,S,λv H1 a b=>#[Â,b,xZ (q _ H1 a rfl)]]
def Rv(h:E X U e1 b1 c)(h':c=Â->E X U (.BoolOp .Or (e2::rest) pos) b2 c'):E X U (.BoolOp .Or (e1::e2::rest) pos) Á (c || c'):=by
 stop
  cases c with
  |false=>show aJ (Qg h (h' rfl)) λY H Q ⟨H0,F,O,S,q⟩=>#[H0,F,O,S,λv H1 a b=>#[Â,b,xZ #[H0,F,O,S.go a,λw H2 d e=>q w H2 (a.trans d) e]]]
  |true=>show aJ (Qg h yG) λY H Q ⟨H0,F,O,S,q⟩=>#[H0,F,O,S,λv H1 a b=>#[Á,b,uH (q _ H1 a rfl)]]
def yX(h:E X U e b c):E X U (.UnaryOp .Not e pos) Á (!c):=by stop show aJ (S7 h) λY H Q ⟨H0,F,O,S,q⟩=>#[H0,F,O,S,λv H1 d a=>#[c,a,q _ H1 d rfl]]
def kL{x y:M}(g:T X U e c)(ha:c=Á->E X U e1 b x)(h:c=Â->E X U e2 b y):E X U (.IfExp e e1 e2 pos) b (if c then x else y):=by
 stop
  cases c with
  |true=>show aJ (rn g (ha rfl) yG) λY H Q ⟨H0,F,O,S,q⟩=>#[H0,F,O,S,λH1 a=>uH #[H0,F,O,S.go a,λw H2 d f=>q w H2 (a.trans d) f]]
  |false=>show aJ (rn g yG (h rfl)) λY H Q ⟨H0,F,O,S,q⟩=>#[H0,F,O,S,λH1 a=>xZ #[H0,F,O,S.go a,λw H2 d f=>q w H2 (a.trans d) f]]
def F2{xs:Mt}(h:(Nf H0 b1).has H p xs):(Nf H0 (b1&&b2)).has H p xs:=Nf.le (λz=>(aeO.mp z).1) h
def Fg{xs:Mt}(h:(Nf H0 b2).has H p xs):(Nf H0 (b1&&b2)).has H p xs:=Nf.le (λz=>(aeO.mp z).2) h
def wJ{F O:Ç->Prop}{U:aI}(S:e9 K H0 F O U Y H)(hp:H p=none):aH H (upd H p (.tup xs))/\Rt (off (upd H p (.tup xs)) O) p xs:=by stop show#[dt hp _,.inl (by rw[bE (S.pZ hp)];show bp)]
def cV{F O:Ç->Prop}{U:aI}(S:e9 K H0 F O U Y H)(hp:H p=none):aH H (upd H p (.lst xs))/\off (upd H p (.lst xs)) O p=À (.lst xs):=by stop show#[dt hp _,by rw[bE (S.pZ hp)];show bp]
def bj{x:M}{y:β}{k:Nat}(ha:E X U e1 b1 x)(g:E X U e2 b2 y)(e:Ä [e1,e2] X.env=(Â,Õ e1 X.env)::Ä [e2] X.env<|>zra)(d:Ä [e2] X.env=(Â,Õ e2 X.env)::Ä [] X.env<|>zra):
  E X U (.Tuple [e1,e2] k pos) (b1&&b2) (x,y):=by
 stop
  show aJ (Lz (aC ha (aC g aV d) e)) λY H Q ⟨H0,F,O,S,q⟩=>#[H0,F,O,S,λv H1 b i=>#[H0,F,O,S.go b,λw H2 a f=>#[by change 2<=sizeLine;decide,λp hp=>by
    let⟨c,h⟩:=wJ (xs:=[v,w]) ((S.go b).go a) hp;show q _ _ (b.trans (a.trans c)) #[p,v,w,rfl,h,?_,?_]
    .show aT (λ_ _ n=>F2 n) (ay ((ah a).trans (ah c)) i)
    .show aT (λ_ _ n=>Fg n) (ay (ah c) f)]]]
@[irreducible] def EA(X:Cx)(U:aI)(es:List Ô)(b:Bool)(as:List M):Prop :=
 PA X es λY H Q=>∃H0 F O,e9 X.K H0 F O U Y H/\∀vs H',aH H H'->ß (λx a=>Py.rp X.K (Nf H0 b) (off H' O) x a) vs as->Q vs H'
def F_{X:Cx}{t t':TA}(h:PA X es t)(w:∀Y H Q,t' Y H Q->t Y H Q):PA X es t':=λp ZB s Y H Q I q=>h p ZB s Y H Q I (w _ _ _ q)
def a_:EA X U [] b ([]:List M):=by stop show F_ aV λY H Q ⟨H0,F,O,S,q⟩=>q [] H (aH.refl _) .nil
def az{a:M}{as:List M}(h:E X U e b a)(h':EA X U es b as)(f:Ä (e::es) X.env=(Â,Õ e X.env)::Ä es X.env<|>zra):EA X U (e::es) b (a::as):=by stop show F_ (aC h h' f) λY H Q ⟨H0,F,O,S,q⟩=>#[H0,F,O,S,λv H1 d i=>#[H0,F,O,S.go d,λvs H2 c g=>q _ H2 (d.trans c) (.cons (ay (ah c) i) g)]]
def cw{as:List M}(h:EA X U es b as)(f: ~~~as<=1000):E X U (.List es pos) b as:=by
 stop
  show aJ (Ap h) λY H Q ⟨H0,F,O,S,q⟩=>#[H0,F,O,S,λvs H1 a e=>#[by rw[bQ e];show ź (cI f),λp hp=>by
    let⟨c,d⟩:=cV (xs:=vs) (S.go a) hp
    show q _ _ (a.trans c) #[p,vs,rfl,dz.of d,Nf.wk ((S.go a).ik hp) d,bu (λ_ _ r=>ay (ah c) r) e]]]
def aQ{xs:List M}{a:M}(ha:E X U e1 b xs)(o:E X U e2 b2 i)(h:rV xs i=À a)(l:iw e2<|>zrj):E X U (.Subscript e1 e2 pos) b a:=by
 stop
  show aJ (yP zp ha o l) λY H Q ⟨H0,F,O,S,q⟩=>#[H0,F,O,S,λv H1 f t=>#[H0,F,O,S.go f,λw H2 c m=>by
    let⟨p,vs,e,sq,n,r⟩:=t;let⟨j,h1,h2,A,y,z⟩:=qI h;let⟨x,s,u⟩:=iX r h2;show#[p,vs,i,x,e,m,(aw _ _).seq ((ah c).seq sq),?_,q x H2 (f.trans c) (ay (ah c) u)];delta rV at h ⊢;rw[bQ r];cases g:A_ (~~~xs) i with
    |none=>rw[g] at h;cases h
    |some k =>
     let d:=(qt g).1;rw[h1] at d;cases d
     show s]]
def aX{u:M×β}{j:Nat}{h:ð}(ha:E X U e1 b u):E X U (.Subscript e1 (.Constant (.int 0) j h) pos) b u.1:=by
 stop
  show aJ (yP Eg ha ae (λ_ _=>rfl)) λY H Q ⟨H0,F,O,S,q⟩=>#[H0,F,O,S,λv H1 c g=>#[H0,F,O,S.go c,λw H2 a d=>by
    let⟨p,u,i,e,sq,f,k⟩:=g
    show#[p,_,0,u,e,d,wF (aw _ _) (aH.rt (ah a) sq),rfl,q u H2 (c.trans a) (ay (ah a) f)]]]
def aY{u:M×β}{j:Nat}{i:ð}(ha:E X U e1 b u):E X U (.Subscript e1 (.Constant (.int 1) j i) pos) b u.2:=by
 stop
  show aJ (yP Eg ha ae (λ_ _=>rfl)) λY H Q ⟨H0,F,O,S,q⟩=>#[H0,F,O,S,λv H1 d g=>#[H0,F,O,S.go d,λw H2 a f=>by
    let⟨p,u,c,e,sq,k,h⟩:=g
    show#[p,_,1,c,e,f,wF (aw _ _) (aH.rt (ah a) sq),rfl,q c H2 (d.trans a) (ay (ah a) h)]]]
def iY{p:ð}(g:Gl X "abs")(f:X.mg "abs"=none)(ha:E X U e b i)(a:Ä [e] X.env=(Â,Õ e X.env)::Ä [] X.env<|>zra):E X U (.Call (.Name "abs" p) [e] [] pos) Á (if i<0 then -i else i):=by stop show aJ (d7 L8 g f boot_abs (aC ha aV a) (he:=a)) λY H Q ⟨H0,F,O,S,q⟩=>#[H0,F,O,S,λv H1 d c=>#[i,by cases c;rfl,q _ H1 d rfl]]
def MK{p:ð}(l:X.calm=Á)(e:Gl X "min")(k:X.mg "min"=none)(ha:E X U e1 b1 i)(g:E X U e2 b2 j)(b:Ä [e1,e2] X.env=(Â,Õ e1 X.env)::Ä [e2] X.env<|>zra)(a:Ä [e2] X.env=(Â,Õ e2 X.env)::Ä [] X.env<|>zra)(hpl:(ã pos (Ä [e2] X.env)).any (·.1)=Â<|>zra):
  E X U (.Call (.Name "min" p) [e1,e2] [] pos) Á (if j<i then j else i):=by stop show aJ (d7 (HP l) e k boot_min (aC ha (aC g aV a) b) (he:=b) (hpl:=hpl)) λY H Q ⟨H0,F,O,S,q⟩=>#[H0,F,O,S,λv H1 c h=>#[H0,F,O,S.go c,λw H2 d f=>#[i,j,by cases h;cases f;rfl,q _ H2 (c.trans d) rfl]]]
def VF{p:ð}(l:X.calm=Á)(e:Gl X "max")(k:X.mg "max"=none)(ha:E X U e1 b1 i)(g:E X U e2 b2 j)(b:Ä [e1,e2] X.env=(Â,Õ e1 X.env)::Ä [e2] X.env<|>zra)(a:Ä [e2] X.env=(Â,Õ e2 X.env)::Ä [] X.env<|>zra)(hpl:(ã pos (Ä [e2] X.env)).any (·.1)=Â<|>zra):
  E X U (.Call (.Name "max" p) [e1,e2] [] pos) Á (if j>i then j else i):=by stop show aJ (d7 (Hj l) e k boot_max (aC ha (aC g aV a) b) (he:=b) (hpl:=hpl)) λY H Q ⟨H0,F,O,S,q⟩=>#[H0,F,O,S,λv H1 c h=>#[H0,F,O,S.go c,λw H2 d f=>#[i,j,by cases h;cases f;rfl,q _ H2 (c.trans d) rfl]]]
def bh{xs:List M}{p:ð}(d:Gl X "len")(g:X.mg "len"=none)(ha:E X U e b xs)(a:Ä [e] X.env=(Â,Õ e X.env)::Ä [] X.env<|>zra):E X U (.Call (.Name "len" p) [e] [] pos) Á (~~~xs:Int):=by
 stop
  show aJ (d7 Ay d g PySem.boot_len (aC ha aV a) (he:=a)) λY H Q ⟨H0,F,O,S,q⟩=>#[H0,F,O,S,λv H1 c f=>by
    let⟨p,vs,e,sq,n,r⟩:=f;show#[p,vs,by rw[e],.inl ((aw _ _).seq sq),q _ H1 c ?_];change V.int _=V.int _
    rw[bQ r]]
end
structure GD where
 nx:aI->Prop
 rt:Bd->Prop
 bk:aI->Prop:=λ_=>False
 ct:aI->Prop:=λ_=>False
def Bd.YI(K:Ã)(H0:Hp)(F:Ç->Prop)(H:Hp)(v:V):Bd->Prop
 |@Bd.val _ _ b a=>Py.rp K (Nf H0 b) (off H F) v a
 |@Bd.own _ _ _ _=>False
 |@Bd.dpo _ _ _=>False
def tG(K:Ã)(U:aI)(D:GD):TS:=λb Y H=>∃H0 F O,e9 K H0 F O U Y H /\
 (∀U' Y' H' a,aH .F (off H' a)->e9 K H0 F a U' Y' H'->D.nx U'->b.nx Y' H') /\
 (∀g v H',aH H0 H'->Bd.YI K H0 F H' v g->D.rt g->b.rt v H') /\
 (∀U' Y' H' a,aH .F (off H' a)->e9 K H0 F a U' Y' H'->D.bk U'->b.bk Y' H') /\
 (∀U' Y' H' a,aH .F (off H' a)->e9 K H0 F a U' Y' H'->D.ct U'->b.ct Y' H')
@[irreducible] def S(X:Cx)(U:aI)(st:List Ï)(D:GD):Prop:=ui X st (tG X.K U D)
@[irreducible] def S1(X:Cx)(U:aI)(st:Ï)(D:GD):Prop:=PS X st (tG X.K U D)
def dU{st:Ï}{t t':TS}(h:PS X st t)(w:∀D Y H,t' D Y H->t D Y H):PS X st t':=λZB s Y H D I q=>h ZB s Y H D I (w _ _ _ q)
def lO{st:List Ï}{t t':TS}(h:ui X st t)(w:∀D Y H,t' D Y H->t D Y H):ui X st t':=λZB s Y H D I q=>h ZB s Y H D I (w _ _ _ q)
section
variable{X:Cx}{U:aI}{D:GD}{M β γ:Type}[Py M][Py β][Py γ]{e e1 e2 e3:Ô}{b b1 b2 b3:Bool}{pos:ð}{st:Ï}{rest body orelse:List Ï}
def aK(h:D.nx U):S X U [] D:=by stop show lO EO λa Y H ⟨H0,F,O,Z,n,_⟩=>n U Y H O (aH.refl _) Z h
def Mu{X:Cx}{st:List Ï}{ι:Type 1}{P:ι->Prop}{t:ι->TS}(h:∀i,P i->ui X st (t i)):ui X st (λD Y H=>∃i,P i/\t i D Y H):=λZB s Y H D I ⟨i,p,q⟩=>h i p ZB s Y H D I q
def eI(h:S1 X U st {D with nx:=λU'=>S X U' rest D}):S X U (st::rest) D:=by
 stop
  show lO (gS h (Mu (ι:=aI) (P:=λU'=>S X U' rest D) (t:=λU'=>tG X.K U' D) λ_ q=>q)) λg Y H ⟨H0,F,O,Z,n,r,bk,ct⟩ =>
    #[H0,F,O,Z,λU' Y' H' f sm e q=>#[U',q,H0,F,f,e,λΓ2 σ2 H2 d a b c=>n Γ2 σ2 H2 d (sm.trans a) b c,r,λΓ2 σ2 H2 d a b c=>bk Γ2 σ2 H2 d (sm.trans a) b c,
     λΓ2 σ2 H2 d a b c=>ct Γ2 σ2 H2 d (sm.trans a) b c],r,bk,ct]
def aq(i:Nat){a:M}{p:ð}(j:X.N.Nodup)(he:E X U e b a)(h:S X (U.set i (À (.val b a))) rest D)(hi:X.N[i]?=À x<|>zra)(f:Loc X.env.scope x<|>zrf)
  (d:õ e (À (.Name x p)) pos.line X.env=pure Â<|>zra) (g:X.fn x=Á\/X.env.scope.names.lookup x=À .local<|>zrf):S X U (.Assign [.Name x p] e pos::rest) D:=by stop show eI (dU (tT j hi f he d g) λl Y H ⟨H0,F,O,Z,n,_⟩=>#[H0,F,O,Z,λv H1 c k=>n _ _ H1 O (ah c) ((Z.go c).set k) h])
def jK{a:M}(he:E X U e b a)(h:S X U rest D)(d:õ e none pos.line X.env=pure Â<|>zra):S X U (.Expr e pos::rest) D:=by stop show eI (dU (uZ he d) λg Y H ⟨H0,F,O,Z,n,_⟩=>#[H0,F,O,Z,λv H1 c f=>n U Y H1 O (ah c) (Z.go c) h])
def av{a:M}(he:E X U e b a)(h:D.rt (.val b a)):S X U (.Return (À e) pos::rest) D:=by stop show eI (dU (CM he) λf Y H ⟨H0,F,O,Z,n,r,_⟩=>#[H0,F,O,Z,λv H1 d c=>r (.val b a) v H1 ((Z.go d).same) (ay (kG Z.fo) c) h])
def Vc(d:T X U e c)(h1:c=Á->S X U body {D with nx:=λU'=>S X U' rest D})(h2:c=Â->S X U orelse {D with nx:=λU'=>S X U' rest D}):S X U (.If e body orelse pos::rest) D:=by
 stop
  cases c with
  |true=>show eI (dU (Gv d (h1 rfl) fh) λf Y H ⟨H0,F,O,Z,n,r,bk,ct⟩=>#[H0,F,O,Z,λH1 b=>uH #[H0,F,O,Z.go b,λΓ2 σ2 H2 a sm=>n Γ2 σ2 H2 a ((ah b).trans sm),r,λΓ2 σ2 H2 a sm=>bk Γ2 σ2 H2 a ((ah b).trans sm),λΓ2 σ2 H2 a sm=>ct Γ2 σ2 H2 a ((ah b).trans sm)]])
  |false=>show eI (dU (Gv d fh (h2 rfl)) λf Y H ⟨H0,F,O,Z,n,r,bk,ct⟩=>#[H0,F,O,Z,λH1 b=>xZ #[H0,F,O,Z.go b,λΓ2 σ2 H2 a sm=>n Γ2 σ2 H2 a ((ah b).trans sm),r,λΓ2 σ2 H2 a sm=>bk Γ2 σ2 H2 a ((ah b).trans sm),λΓ2 σ2 H2 a sm=>ct Γ2 σ2 H2 a ((ah b).trans sm)]])
def aO(a:T X U e c)(h1:c=Á->S X U body {D with nx:=λU'=>S X U' rest D})(h2:c=Â->S X U rest D):S X U (.If e body [] pos::rest) D:=by stop show Vc a h1 λz=>aK (h2 z)
def rH(X:Cx)(body:List Ï):TS:=λb Y H=>∃U',∃a,S X U' body a/\tG X.K U' a b Y H
def nM:ui X body (rH X body):=by stop show λZB s Y H a I ⟨U',b,t,q⟩=>(show ui X body (tG X.K U' b) from t) ZB s Y H a I q
def cD{ι:Type}(J:ι->aI->Prop)(μ:ι->Nat)(x:ι)(B:J x U)(z:∀i U',J i U'->∃c,T X U' e c/\(c=Á->S X U' body {D with nx:=λΓ2=>∃j,J j Γ2/\μ j<μ i,ct:=λΓ2=>∃j,J j Γ2/\μ j<μ i,bk:=λΓ2=>S X Γ2 rest D})/\(c=Â->S X U' rest D))
  (hp:ĺ .E X.A X.env X.xe:=by show agZ):S X U (.While e body [] pos::rest) D:=by
 stop
  show eI (dU (K3 (tc:=λY H Q=>∃U',∃c,T X U' e c/\Q5 X.K U' c Y H Q) (tb:=rH X body) hp
   (λZB s Y H Q I ⟨U',c,t,q⟩=>(show PT X e (Q5 X.K U' c) from t) ZB s Y H Q I q) nM) λC Y H ⟨H0,F,O,Z,n,r,bk,ct⟩=>?_)
  show#[λm Y' H'=>∃i U' g,aH .F (off H' g)/\e9 X.K H0 F g U' Y' H'/\J i U'/\m=μ i,#[_,x,U,O,aH.refl _,Z,B,rfl],?_];rintro m Y' H' ⟨i,U',g,sm,v,j,rfl⟩;let⟨c,t,p,u⟩:=z i U' j;show#[U',c,t,H0,F,g,v,λH1 h=>?_];cases c with
  |true =>
   show uH #[λσ2 H2=>∃d Γ2 b,aH .F (off H2 b)/\e9 X.K H0 F b Γ2 σ2 H2/\J d Γ2/\μ d<μ i,λσ2 H2 ⟨d,Γ2,b,a,f,y,l⟩=>#[μ d,l,d,Γ2,b,a,f,y,rfl],U',_,p rfl,H0,F,g,v.go h,?_,r,?_,?_]
   .show λΓ2 σ2 H2 b a f ⟨d,o,k⟩=>#[d,Γ2,b,sm.trans ((ah h).trans a),f,o,k]
   .show λΓ2 σ2 H2 b a f q=>n Γ2 σ2 H2 b (sm.trans ((ah h).trans a)) f q
   .show λΓ2 σ2 H2 b a f ⟨d,o,k⟩=>#[d,Γ2,b,sm.trans ((ah h).trans a),f,o,k]
  |false=>show xZ (n U' Y' H1 g (sm.trans (ah h)) (v.go h) (u rfl))
def GP(g:TG)(M:Type)[Py M](put:Bool->M->aI->aI)(tc:Nat->Prop)(K:Ã):Prop :=
 ∀(b:Bool) (a:M) (H0:Hp) (F O:Ç->Prop) (U:aI) (Y:St) (H:Hp) (v:V) (Q:St->Hp->Prop),e9 K H0 F O U Y H->Py.rp K (Nf H0 b) .F v a ->
  (∀Y',e9 K H0 F O (put b a U) Y' H->~~~Y'= ~~~Y->(∀j,¬tc j->Y'[j]?=Y[j]?)->Q Y' H)->g v Y H Q
def G(X:Cx)(tg:Ô)(g:TG)(M:Type)[Py M](put:Bool->M->aI->aI)(tc:Nat->Prop):Prop:=PG X tg g/\GP g M put tc X.K
def bf(i:Nat):GP (ni i) M (λb a U=>U.set i (À (.val b a))) (·=i) K:=λb a H0 F O U Y H v Q Z r q=>q _ (Z.set r) (Ŝ ..) λj c=>get_set_ne c
def b9(i:Nat)(e:X.N.Nodup)(hi:X.N[i]?=À x<|>zra)(c:Loc X.env.scope x<|>zrf)(d:X.fn x=Á\/X.env.scope.names.lookup x=À .local<|>zrf):
  G X (.Name x pos) (ni i) M (λb a U=>U.set i (À (.val b a))) (·=i):=#[lF e hi c d,bf i]
variable{δ:Type}[Py δ]{tg:Ô}{g:TG}{tc:Nat->Prop}
def eU{put:Bool->Int->aI->aI}{n:Int}{p ps:ð}(J:Nat->aI->Prop)(t:Gl X "range")(y:X.mg "range"=none)(m:G X tg g Int put tc)(he:E X U e b n)(h1:-(2^62)<=n)(h2:n<2^62)(I:J 0 U)
  (B:∀(i:Nat) U',i<↥n->J i U'->S X (put Á (i:Int) U') body {D with nx:=J (i+1),ct:=J (i+1),bk:=λΓ2=>S X Γ2 rest D}) (C:∀U',J ↥n U'->S X U' rest D)
  (z:X.calm=Á<|>zra) (hp:ĺ .E X.A X.env X.xe:=by show agZ) (s:Ä [e] X.env=[(Â,Õ e X.env)]<|>zra) (h:Ä [e] X.env=(Â,Õ e X.env)::Ä [] X.env<|>zra)
  (k:(∀x,Þ (.Call (.Name "range" p) [e] [] ps) X.env x=pure x)<|>zrc):S X U (.For tg (.Call (.Name "range" p) [e] [] ps) body [] pos::rest) D:=by
 stop
  show eI (dU (zK hp z (yU t y (aC he aV h) s) m.1 (tb:=rH X body) nM k) λu Y H ⟨H0,F,O,Z,nx,r,bk,ct⟩=>?_);show#[H0,F,O,Z,λv H1 o L=>#[n,by cases L;rfl,h1,h2,Ih (lo:=0) (n:=↥n) (g:=g) (tb:=rH X body) (D:=u) (λi Y' H'=>∃U' c,aH .F (off H' c)/\e9 X.K H0 F c U' Y' H'/\J i U') #[U,O,ah o,Z.go o,I] ?_ ?_]]
  .rintro i Y' H' hi ⟨U',c,sm,l,j⟩;show m.2 Á (i:Int) H0 F c U' Y' H' _ _ l (by change V.int _=V.int _;rw[aiG]) λσ2 d _ _=>?_;show#[_,_,B i U' hi j,H0,F,c,d,?_,r,?_,?_]
   .show λΓ2 σ2 H2 f a d q=>#[Γ2,f,sm.trans a,d,q]
   .show λΓ2 σ2 H2 f a d q=>nx Γ2 σ2 H2 f (sm.trans a) d q
   .show λΓ2 σ2 H2 f a d q=>#[Γ2,f,sm.trans a,d,q]
  .rintro Y' H' ⟨U',c,sm,l,j⟩;show nx U' Y' H' c sm l (C U' j)
def ua{put:Bool->Int->aI->aI}{n c:Int}{p ps:ð}(J:Nat->aI->Prop)(I:Gl X "range")(P:X.mg "range"=none)(B:G X tg g Int put tc)(l:E X U e1 b1 lo)(k:E X U e2 b2 n)(m:E X U e3 b3 c)(α:-(2^62)<=lo/\lo<2^62/\-(2^62)<=n/\n<2^62)(o:c≠0/\-1000<=c/\c<=1000)(V:J 0 U)
  (T:∀(i:Nat) U',i<↥(Ò lo n c)->J i U'->S X (put Á (lo+i*c:Int) U') body {D with nx:=J (i+1),ct:=J (i+1),bk:=λΓ2=>S X Γ2 rest D}) (Γ:∀U',J ↥(Ò lo n c) U'->S X U' rest D)
  (R:X.calm=Á<|>zra) (hp:ĺ .E X.A X.env X.xe:=by show agZ)
  (e:Ä [e1,e2,e3] X.env=(Â,Õ e1 X.env)::Ä [e2,e3] X.env<|>zra) (t:Ä [e2,e3] X.env=(Â,Õ e2 X.env)::Ä [e3] X.env<|>zra) (z:Ä [e3] X.env=(Â,Õ e3 X.env)::Ä [] X.env<|>zra)
  (hpl:(ã ps (Ä [e2,e3] X.env)).any (·.1)=Â<|>zra) (u:(∀x,Þ (.Call (.Name "range" p) [e1,e2,e3] [] ps) X.env x=pure x)<|>zrc):S X U (.For tg (.Call (.Name "range" p) [e1,e2,e3] [] ps) body [] pos::rest) D:=by
 stop
  show eI (dU (zK hp R (GQ I P (aC l (aC k (aC m aV z) t) e) e hpl) B.1 (tb:=rH X body) nM u) λN Y H ⟨H0,F,O,Z,nx,r,bk,ct⟩=>?_);show#[H0,F,O,Z,λv H1 h σ=>#[H0,F,O,Z.go h,λv' H2 s L=>#[H0,F,O,Z.go (h.trans s),λW H3 C Q=>#[lo,n,c,by cases σ;cases L;cases Q;rfl,α,o,Ej (lo:=lo) (c:=c) (n:=↥(Ò lo n c)) (g:=g) (tb:=rH X body) (D:=N) (λi Y' H'=>∃U' b,aH .F (off H' b)/\e9 X.K H0 F b U' Y' H'/\J i U') #[U,O,ah (h.trans (s.trans C)),Z.go (h.trans (s.trans C)),V] ?_ ?_]]]]
  .rintro i Y' H' hi ⟨U',b,sm,y,j⟩;show B.2 Á (lo+i*c:Int) H0 F b U' Y' H' _ _ y rfl λσ2 d _ _=>?_;show#[_,_,T i U' hi j,H0,F,b,d,?_,r,?_,?_]
   .show λΓ2 σ2 H2 f a d q=>#[Γ2,f,sm.trans a,d,q]
   .show λΓ2 σ2 H2 f a d q=>nx Γ2 σ2 H2 f (sm.trans a) d q
   .show λΓ2 σ2 H2 f a d q=>#[Γ2,f,sm.trans a,d,q]
  .rintro Y' H' ⟨U',b,sm,y,j⟩;show nx U' Y' H' b sm y (Γ U' j)
def jP{put:Bool->M->aI->aI}{xs:List M}(J:Nat->aI->Prop)(n:G X tg g M put tc)(he:E X U e b xs)(z:J 0 U)
  (u:∀(i:Nat) (a:M) U',xs[i]?=À a->J i U'->S X (put b a U') body {D with nx:=J (i+1),ct:=J (i+1),bk:=λΓ2=>S X Γ2 rest D}) (y:∀U',J (~~~xs) U'->S X U' rest D)
  (t:X.calm=Á<|>zra) (hp:ĺ .E X.A X.env X.xe:=by show agZ)
  (m:(∀x,Þ e X.env x=pure x)<|>zrc):S X U (.For tg e body [] pos::rest) D:=by
 stop
  show eI (dU (zK hp t (ES he) n.1 (tb:=rH X body) nM m) λs Y H ⟨H0,F,O,Z,nx,r,bk,ct⟩=>?_);show#[H0,F,O,Z,λv H1 l B=>?_];let⟨p,vs,e,sq,nn,o⟩:=B;show#[p,e,#[vs,(aw _ _).seq sq],IG (K:=X.K) (a:=p) (xs:=vs) (g:=g) (tb:=rH X body) (D:=s) (λi Y' H'=>∃U' d,aH (off H1 O) (off H' d)/\e9 X.K H0 F d U' Y' H'/\J i U') #[U,O,aH.refl _,Z.go l,z] ?_ ?_ ?_]
  .rintro i Y' H' hi ⟨U',d,sm,k,j⟩;show(aw _ _).seq (sm.seq sq)
  .rintro i x Y' H' hi ⟨U',d,sm,k,j⟩;let⟨a,h1,h2⟩:=zq o hi;show n.2 b a H0 F d U' Y' H' _ _ k (ay sm h2) λσ2 f _ _=>?_;show#[_,_,u i a U' h1 j,H0,F,d,f,?_,r,?_,?_]
   .show λΓ2 σ2 H2 h c f q=>#[Γ2,h,sm.trans c,f,q]
   .show λΓ2 σ2 H2 h c f q=>nx Γ2 σ2 H2 h ((ah l).trans (sm.trans c)) f q
   .show λΓ2 σ2 H2 h c f q=>#[Γ2,h,sm.trans c,f,q]
  .rintro Y' H' ⟨U',d,sm,k,j⟩;rw[bQ o] at j;show nx U' Y' H' d ((ah l).trans sm) k (y U' j)
end
structure aE(P:Ð)(w:Ø)(K:Ã)(mg:Ì->Option Å)(base:Û)(k:Nat)(name:Ì)(ps:List Ì)(sp:Sp):Prop where
 ex:∃(f:Ç) (fd:í),⇑dC p8 k f fd ps sp/\Binds K fd ps []/\ø K (.ref f)=Á/\mg name=À (.ref f)
def mh(H:Hp)(O:Ç->Prop):Prop:=∀p,O p->∃xs:Mt,H p=À (mo xs)
def bU{M β:Type}[Py M][Py β](K:Ã)(pre:M->Prop)(b:Bool)(f:M->β):Sp:=λvs H Q _=>∃O v a,mh H O/\vs=[v]/\Py.rp K .any .F v a/\pre a/\∀r H',aH H H'->Py.rp K (Nf H b) (off H' O) r (f a)->Q r H'
def bL{M β γ:Type}[Py M][Py β][Py γ](K:Ã)(pre:M->β->Prop)(b:Bool)(f:M->β->γ):Sp:=λvs H Q _=>∃O v w a c,mh H O/\vs=[v,w]/\Py.rp K .any .F v a/\Py.rp K .any .F w c/\pre a c/\∀r H',aH H H'->Py.rp K (Nf H b) (off H' O) r (f a c)->Q r H'
def s_{M β γ δ:Type}[Py M][Py β][Py γ][Py δ](K:Ã)(pre:M->β->γ->Prop)(b:Bool)(f:M->β->γ->δ):Sp:=λvs H Q _=>∃O v w x a c d,mh H O/\vs=[v,w,x]/\Py.rp K .any .F v a/\Py.rp K .any .F w c/\Py.rp K .any .F x d/\pre a c d/\∀r H',aH H H'->Py.rp K (Nf H b) (off H' O) r (f a c d)->Q r H'
def Gn{M β γ δ ε:Type}[Py M][Py β][Py γ][Py δ][Py ε](K:Ã)(pre:M->β->γ->δ->Prop)(b:Bool)(f:M->β->γ->δ->ε):Sp:=λvs H Q _=>∃O v w x y a c d g,mh H O/\vs=[v,w,x,y]/\Py.rp K .any .F v a/\Py.rp K .any .F w c/\Py.rp K .any .F x d/\Py.rp K .any .F y g/\pre a c d g/\∀r H',aH H H'->Py.rp K (Nf H b) (off H' O) r (f a c d g)->Q r H'
def aR:∀p xs,(Nf H0 b).has H p xs->Nn.any.has H p xs:=λ_ _ _=>Ê
section
variable{X:Cx}{U:aI}{D:GD}{M β γ δ ε:Type}[Py M][Py β][Py γ][Py δ][Py ε]{e e1 e2 e3 e4:Ô}{b b1 b2 b3 b4:Bool}{p pos:ð}{k:Nat}{name:Ì}{ps:List Ì}
def aB{pre:M->Prop}{f:M->β}{a:M}(C:aE X.prog X.w X.K X.mg X.base k name ps (bU X.K pre b f))(i:c7 zkk X.A)(h1:E X U e1 b1 a)(hp:pre a)
  (c:Ä [e1] X.env=(Â,Õ e1 X.env)::Ä [] X.env<|>zra) (d:(name==("__debug__":Ì))=Â<|>zrb) (hpl:(ã pos (Ä [] X.env)).any (·.1)=Â<|>zra)(kzz:k<=zkk<|>zrb)(g:Gl X name<|>zra):
  E X U (.Call (.Name name p) [e1] [] pos) b (f a):=by
 stop
  let⟨l,fd,F,B,kp,m⟩:=C.ex
  show aJ (d9 F (i.mono kzz) g m kp B .nil jD (aC h1 aV c) d c hpl) λY H Q ⟨H0,F,O,S,q⟩=>#[H0,F,O,S,λj H1 e h =>
   #[O,j,a,(S.go e).own,rfl,aT aR h,hp,λr H' s' z=>q r H' (e.trans s') ((S.go e).back z)]]
def ax{pre:M->β->Prop}{f:M->β->γ}{a:M}{c:β}(C:aE X.prog X.w X.K X.mg X.base k name ps (bL X.K pre b f))(s:c7 zkk X.A)(h1:E X U e1 b1 a)(h2:E X U e2 b2 c)(hp:pre a c)
  (d:Ä [e1,e2] X.env=(Â,Õ e1 X.env)::Ä [e2] X.env<|>zra) (i:Ä [e2] X.env=(Â,Õ e2 X.env)::Ä [] X.env<|>zra) (h:(name==("__debug__":Ì))=Â<|>zrb) (hpl:(ã pos (Ä [e2] X.env)).any (·.1)=Â<|>zra)(kzz:k<=zkk<|>zrb)(l:Gl X name<|>zra):
  E X U (.Call (.Name name p) [e1,e2] [] pos) b (f a c):=by
 stop
  let⟨u,fd,F,B,kp,m⟩:=C.ex
  show aJ (d9 F (s.mono kzz) l m kp B .nil jD (aC h1 (aC h2 aV i) d) h d hpl) λY H Q ⟨H0,F,O,S,q⟩=>#[H0,F,O,S,λt H1 g o=>#[H0,F,O,S.go g,λj H2 e n =>
   #[O,t,j,a,c,(S.go (g.trans e)).own,rfl,aT aR (ay (ah e) o),aT aR n,hp,λr H' s' z=>q r H' (g.trans (e.trans s')) ((S.go (g.trans e)).back z)]]]
def b8{pre:M->β->γ->Prop}{f:M->β->γ->δ}{a:M}{c:β}{d:γ}(C:aE X.prog X.w X.K X.mg X.base k name ps (s_ X.K pre b f))(y:c7 zkk X.A)(h1:E X U e1 b1 a)(h2:E X U e2 b2 c)(D:E X U e3 b3 d)(hp:pre a c d)
  (e:Ä [e1,e2,e3] X.env=(Â,Õ e1 X.env)::Ä [e2,e3] X.env<|>zra) (l:Ä [e2,e3] X.env=(Â,Õ e2 X.env)::Ä [e3] X.env<|>zra) (n:Ä [e3] X.env=(Â,Õ e3 X.env)::Ä [] X.env<|>zra)
  (j:(name==("__debug__":Ì))=Â<|>zrb) (hpl:(ã pos (Ä [e2,e3] X.env)).any (·.1)=Â<|>zra)(kzz:k<=zkk<|>zrb)(s:Gl X name<|>zra):
  E X U (.Call (.Name name p) [e1,e2,e3] [] pos) b (f a c d):=by
 stop
  let⟨J,fd,F,B,kp,m⟩:=C.ex
  show aJ (d9 F (y.mono kzz) s m kp B .nil jD (aC h1 (aC h2 (aC D aV n) l) e) j e hpl) λY H Q ⟨H0,F,O,S,q⟩=>#[H0,F,O,S,λG H1 h x=>#[H0,F,O,S.go h,λo H2 g t=>#[H0,F,O,S.go (h.trans g),λu I i v =>
   #[O,G,o,u,a,c,d,(S.go (h.trans (g.trans i))).own,rfl,aT aR (ay ((ah g).trans (ah i)) x),aT aR (ay (ah i) t),aT aR v,hp,λr H' s' z=>q r H' (h.trans (g.trans (i.trans s'))) ((S.go (h.trans (g.trans i))).back z)]]]]
def qA{pre:M->β->γ->δ->Prop}{f:M->β->γ->δ->ε}{a:M}{c:β}{d:γ}{g:δ}(C:aE X.prog X.w X.K X.mg X.base k name ps (Gn X.K pre b f))(L:c7 zkk X.A)(h1:E X U e1 b1 a)(h2:E X U e2 b2 c)(α:E X U e3 b3 d)(G:E X U e4 b4 g)(hp:pre a c d g)
  (l:Ä [e1,e2,e3,e4] X.env=(Â,Õ e1 X.env)::Ä [e2,e3,e4] X.env<|>zra) (o:Ä [e2,e3,e4] X.env=(Â,Õ e2 X.env)::Ä [e3,e4] X.env<|>zra) (t:Ä [e3,e4] X.env=(Â,Õ e3 X.env)::Ä [e4] X.env<|>zra) (s:Ä [e4] X.env=(Â,Õ e4 X.env)::Ä [] X.env<|>zra)
  (n:(name==("__debug__":Ì))=Â<|>zrb) (hpl:(ã pos (Ä [e2,e3,e4] X.env)).any (·.1)=Â<|>zra)(kzz:k<=zkk<|>zrb)(x:Gl X name<|>zra):
  E X U (.Call (.Name name p) [e1,e2,e3,e4] [] pos) b (f a c d g):=by
 stop
  let⟨R,fd,F,B,kp,m⟩:=C.ex
  show aJ (d9 F (L.mono kzz) x m kp B .nil jD (aC h1 (aC h2 (aC α (aC G aV s) t) o) l) n l hpl) λY H Q ⟨H0,F,O,S,q⟩=>#[H0,F,O,S,λN H1 h J=>#[H0,F,O,S.go h,λv H2 e y=>#[H0,F,O,S.go (h.trans e),λD P j I=>#[H0,F,O,S.go (h.trans (e.trans j)),λv4 T i u =>
   #[O,N,v,D,v4,a,c,d,g,(S.go (h.trans (e.trans (j.trans i)))).own,rfl,aT aR (ay ((ah e).trans ((ah j).trans (ah i))) J),aT aR (ay ((ah j).trans (ah i)) y),aT aR (ay (ah i) I),aT aR u,hp,λr H' s' z=>q r H' (h.trans (e.trans (j.trans (i.trans s')))) ((S.go (h.trans (e.trans (j.trans i)))).back z)]]]]]
end
noncomputable def TU(N:List Ì)(gs:List Bd):aI:=gs.map À++Ý (~~~N-~~~gs) none
def RT{M:Type}[Py M](b:Bool)(a:M):GD:={nx:=λ_=>False,rt:=λg=>g=.val b a}
inductive Args(K:Ã)(H:Hp):List V->List Bd->Prop
 |nil:Args K H [] []
 |cons {M:Type} [Py M] {v:V} {a:M} {vs:List V} {gs:List Bd}:Py.rp K .any H v a->Args K H vs gs->Args K H (v::vs) (.val Â a::gs)
def Args.len{K:Ã}{H:Hp}:∀{vs:List V} {gs:List Bd},Args K H vs gs->~~~vs= ~~~gs
 |_,_,.nil=>rfl
 |_,_,@Args.cons _ _ _ _ _ _ _ _ _ t=>congrArg (·+1) t.len
theorem Args.get{K:Ã}{H0 H:Hp}{O:Ç->Prop}:∀{vs:List V} {gs:List Bd} {i:Nat} {g:Bd},Args K .F vs gs->gs[i]?=À g->∃v,vs[i]?=À v/\g.ok K H0 O H v/\¬g.jc
 |_,_,_,_,.nil,e=>by simp at e
 |_,_,0,_,@Args.cons _ _ _ _ _ _ _ _ h _,e=>by simp at e;subst e;show#[_,rfl,h,λz=>z]
 |_,_,i+1,_,@Args.cons _ _ _ _ _ _ _ _ _ t,e=>by
  let⟨a,h1,h2⟩:=Args.get (i:=i) t ↑e;show#[a,↑h1,h2]
def oH{O:Ç->Prop}{N:List Ì}{vs:List V}{gs:List Bd}(b:mh H O)(h:Args K .F vs gs):e9 K H O O (TU N gs) (start N vs) H:=by
 let c:=h.len
 let a:∀(i:Nat) (g:Bd),(TU N gs)[i]?=À (À g)->gs[i]?=À g:=λi g e=>by
  delta TU at e;by_cases hi:i<~~~(gs.map À)
  .rw[afg hi,ł] at e;cases q:gs[i]? with
   |none=>rw[q] at e;cases e
   |some g'=>rw[q] at e;simpa using e
  .rw[ae_ .b] at e;let:=Į e;rw[List.mem_replicate] at this;cases this.2
 show#[aH.refl _,λ_ z=>z,b,b,by simp[TU,start,c],λi g e _=>?_,#[λ_ _=>False,λ_ _ _ z=>z.elim,λ_ _ z=>z.elim,λi g e o=>?_]]
 .let⟨v,h1,h2,_⟩:=Args.get (H0:=H) h (a i g e);show#[v,?_,h2];unfold start
  let hi:i<~~~(vs.map À):=by
   rw[ċ];show(adU.mp h1).1
  rw[afg hi,ł,h1];rfl
 .let⟨_,_,_,no⟩:=Args.get (H0:=H) h (a i g e);show absurd o no
section
variable{P:Ð}{w:Ø}{K:Ã}{mg:Ì->Option Å}{base:Û}{N ps:List Ì}{k:Nat}{x qual:Ì}{st:Ï}{f:Ç}{fd:í}
abbrev cx(P:Ð)(w:Ø)(K:Ã)(mg:Ì->Option Å)(base:Û)(N:List Ì)(qual:Ì)(st:Ï)(f:Ç)(a:Å)(A:å)(outer:List ő)(s:Æ)(H:Hp)(E:XK):Cx:=(vS p8 P w K mg base N qual (af st) f a A outer s H E).Qn
def Body(P:Ð)(w:Ø)(K:Ã)(mg:Ì->Option Å)(base:Û)(N:List Ì)(qual:Ì)(st:Ï)(f:Ç)(k:Nat)(gs:List Bd)(D:GD):Prop :=
 ∀(a:Å) (A:å) (outer:List ő) (s:Æ) (H:Hp) (E:XK),c7 k (A.deeper (ħ qual (af st) s⁻¹ f a))->S (⇑cx N qual st f a A outer s H E) (TU N gs) (bJ st) D
def qR{gs:List Bd}{vs:List V}{O:Ç->Prop}{M:Type}[Py M]{a:M}{Q:VK}{c:Å}{A:å}{outer:List ő}{E:XK}(B:⇑Body N qual st f k gs (RT b a))(j:c7 k (A.deeper (ħ qual (af st) s⁻¹ f c)))
  (d:mh H O) (h:Args K .F vs gs) (q:∀r H',aH H H'->Py.rp K (Nf H b) (off H' O) r a->Q r H'):
  ∃t,ui (vS p8 P w K mg base N qual (af st) f c A outer s H E).Qn (bJ st) t/\t {nx:=λ_ H'=>Q .non H',rt:=Q} (start N vs) H:=by stop show#[_,B c A outer s H E j,H,O,O,oH d h,λ_ _ _ _ _ _ z=>z.elim,λg v H' sm z e=>?_,λ_ _ _ _ _ _ z=>z.elim,λ_ _ _ _ _ _ z=>z.elim];let i:g=.val b a:=e;subst i;show q v H' sm z
def mj{M β:Type}[Py M][Py β]{pre:M->Prop}{g:M->β}(F:pW K x qual st f fd)(d:ao N ps (af st))(i: ~~~ps=1)(B:∀a,pre a->⇑Body N qual st f k [.val Â a] (RT b (g a))):
  dC P w K mg base p8 (k+1) f fd ps (bU K pre b g):=by
 stop
  show F.ok d (λvs H Q E h=>?_) λe A outer s H vs Q E j h=>?_
  .let⟨O,v,a,_,rfl,_⟩:=h;rw[i];rfl
  .let⟨O,v,a,c,rfl,r,hp,q⟩:=h;show qR (B a hp) j c (.cons r .nil) q
def km{M β γ:Type}[Py M][Py β][Py γ]{pre:M->β->Prop}{g:M->β->γ}(F:pW K x qual st f fd)(j:ao N ps (af st))(l: ~~~ps=2)(B:∀a c,pre a c->⇑Body N qual st f k [.val Â a,.val Â c] (RT b (g a c))):
  dC P w K mg base p8 (k+1) f fd ps (bL K pre b g):=by
 stop
  show F.ok j (λvs H Q E h=>?_) λm A outer s H vs Q E n h=>?_
  .let⟨O,v,d,a,c,_,rfl,_⟩:=h;rw[l];rfl
  .let⟨O,v,d,a,c,e,rfl,r,i,hp,q⟩:=h;show qR (B a c hp) n e (.cons r (.cons i .nil)) q
def MV{M β γ δ:Type}[Py M][Py β][Py γ][Py δ]{pre:M->β->γ->Prop}{g:M->β->γ->δ}(F:pW K x qual st f fd)(l:ao N ps (af st))(n: ~~~ps=3)(B:∀a c d,pre a c d->⇑Body N qual st f k [.val Â a,.val Â c,.val Â d] (RT b (g a c d))):
  dC P w K mg base p8 (k+1) f fd ps (s_ K pre b g):=by
 stop
  show F.ok l (λvs H Q E h=>?_) λp A outer s H vs Q E t h=>?_
  .let⟨O,v,e,m,a,c,d,_,rfl,_⟩:=h;rw[n];rfl
  .let⟨O,v,e,m,a,c,d,i,rfl,r,j,o,hp,q⟩:=h;show qR (B a c d hp) t i (.cons r (.cons j (.cons o .nil))) q
def VR{M β γ δ ε:Type}[Py M][Py β][Py γ][Py δ][Py ε]{pre:M->β->γ->δ->Prop}{g:M->β->γ->δ->ε}(F:pW K x qual st f fd)(m:ao N ps (af st))(o: ~~~ps=4)(B:∀a c d y,pre a c d y->⇑Body N qual st f k [.val Â a,.val Â c,.val Â d,.val Â y] (RT b (g a c d y))):
  dC P w K mg base p8 (k+1) f fd ps (Gn K pre b g):=by
 stop
  show F.ok m (λvs H Q E h=>?_) λt A outer s H vs Q E u h=>?_
  .let⟨O,v,i,n,v4,a,c,d,y,_,rfl,_⟩:=h;rw[o];rfl
  .let⟨O,v,i,n,v4,a,c,d,y,j,rfl,r,l,p,e,hp,q⟩:=h;show qR (B a c d y hp) u j (.cons r (.cons l (.cons p (.cons e .nil)))) q
variable{X:Cx}{U:aI}{M β:Type}[Py M][Py β]{e:Ô}{b:Bool}{p p2 pos:ð}
def IV{a:M}{T:Ì}{d:String}(l:Gl X "isinstance")(o:X.mg "isinstance"=none)(g:Gl X T)(f:X.mg T=none)(k:Ĝ T=À (.type d))(ha:E X U e b a)
  (m:∀(ZB:List (Ç×ÿ)) (s:Æ) (Y:St) (H:Hp) (N:Nn) (v:V) (u:Å) (Q:Å->Æ->Prop),Inv X ZB Y H s->Py.rp X.K N H v a->RelV v u->(∀tk,Q (.bool c) {s with toks:=tk})->Ë .E X.A (call (.builtin "isinstance") [u,.type d]) Q X.xe s)
  (j:Ä [e,.Name T p2] X.env=(Â,Õ e X.env)::Ä [.Name T p2] X.env<|>zra) (i:Ä [.Name T p2] X.env=(Â,Õ (.Name T p2) X.env)::Ä [] X.env<|>zra) (hpl:(ã pos (Ä [.Name T p2] X.env)).any (·.1)=Â<|>zra)
  (D:T≠"__name__"<|>zrb) (y:(T==("__debug__":Ì))=Â<|>zrb):
  E X U (.Call (.Name "isinstance" p) [e,.Name T p2] [] pos) Á c:=by
 stop
  let t:jy X (.builtin "isinstance") (λxs H Q=>∃N v,xs=[v,.ty d]/\Py.rp X.K N H v a/\Q (.bl c) H):=by
   intro ZB s Y H xs us Q I r h;let⟨N,v,rfl,x,q⟩:=h;let⟨u,G,rfl,C,n⟩:=vals2 r;cases n;show m ZB s Y H N v u _ I x C λtk=>#[.bl c,H,I.tok _,rfl,q]
  show aJ (d7 t l o boot_isinstance (aC ha (aC (NW (v:=.ty d) g f k rfl D y) aV i) j) (he:=j) (hpl:=hpl)) λY H Q ⟨H0,F,O,S,q⟩=>#[H0,F,O,S,λv H1 z B=>#[_,v,rfl,ay (aw _ _) B,q _ H1 z rfl]]
def QK(g:Gl X "isinstance")(h:X.mg "isinstance"=none)(a:Gl X "int")(c:X.mg "int"=none)(ha:E X U e b i)
  (f:Ä [e,.Name "int" p2] X.env=(Â,Õ e X.env)::Ä [.Name "int" p2] X.env<|>zra):E X U (.Call (.Name "isinstance" p) [e,.Name "int" p2] [] pos) Á Á:=by
 stop
  show IV g h a c PyProof.Rows.boot_int ha (λZB s Y H N v u Q I d r q=>by
    cases d;let⟨t,rfl⟩:=r
    show IsiPair.int_int (q s.toks)) f
def Tq(g:Gl X "isinstance")(h:X.mg "isinstance"=none)(a:Gl X "bool")(c:X.mg "bool"=none)(ha:E X U e b i)
  (f:Ä [e,.Name "bool" p2] X.env=(Â,Õ e X.env)::Ä [.Name "bool" p2] X.env<|>zra):E X U (.Call (.Name "isinstance" p) [e,.Name "bool" p2] [] pos) Á Â:=by
 stop
  show IV g h a c PyProof.Rows.boot_bool ha (λZB s Y H N v u Q I d r q=>by
    cases d;let⟨t,rfl⟩:=r
    show IsiPair.int_bool (q (s.toks+1))) f
def RC{xs:List M}(h:Gl X "isinstance")(i:X.mg "isinstance"=none)(c:Gl X "list")(d:X.mg "list"=none)(ha:E X U e b xs)
  (g:Ä [e,.Name "list" p2] X.env=(Â,Õ e X.env)::Ä [.Name "list" p2] X.env<|>zra):E X U (.Call (.Name "isinstance" p) [e,.Name "list" p2] [] pos) Á Á:=by
 stop
  show IV h i c d agF ha (λZB s Y H N v u Q I f r q=>by
    let⟨a,ys,rfl,sq,_,_⟩:=f;cases r;let⟨YU,j,pl,_⟩:=I.list sq;let⟨o,h1,h2,n,k⟩:=pl.isList
    show call_isinstance (isinstance_true (Tx:="list") F.isi_meta_list AutoSeq1.sub_list_list) #[#[o,h1,h2],q s.toks]) g
end
def Sm(n:Nat)(i:Int):Prop:=i.natAbs<2^n
def Sm.bits(h:Sm n i):Í i<=n:=by
 unfold Í;split
 .show ş _
 .rename_i hi
  let a:i.natAbs≠0:=by
   intro z;apply hi;simp;lia
  let:=(agW a).mpr h;lia
def Sm.le(h:Sm m i)(l:m<=n):Sm n i:=ř h (afS .a l)
def Sm.ok(h:Sm m i)(h':Sm n j)(l:m<=1048576<|>zrb)(a:n<=1048576<|>zrb):ĭ i j:=IntMulOk.of_bits (Ń h.bits (Ń l .a)) (Ń h'.bits (Ń a .a))
def Sm.mul(h:Sm m i)(h':Sm n j):Sm (m+n) (i*j):=by
 unfold Sm at *;rw[ń,ahM];obtain z|z:=ag5 j.natAbs
 .rw[z,Nat.mul_zero];show Nat.mul_pos (agd _) (agd _)
 .show Nat.mul_lt_mul_of_lt_of_le h (ź h') (agd _)
def Sm.add(h:Sm m i)(h':Sm n j):Sm (max m n+1) (i+j):=by
 let h1:i.natAbs<2^max m n:=ř h (afS .a (Nat.le_max_left _ _));let h2:j.natAbs<2^max m n:=ř h' (afS .a (Nat.le_max_right _ _));let a:=Int.natAbs_add_le i j;unfold Sm;rw[af9];lia
def Sm.neg(h:Sm m i):Sm m (-i):=by unfold Sm at *;rwa[Int.natAbs_neg]
def Sm.of_le(h:i.natAbs<=j.natAbs)(h':Sm n j):Sm n i:=afn h h'
def Sm.div(h:Sm n j)(a:j≠0)(l:n<=9000<|>zrb):GH i j:=#[a,(agW .b).mpr (ř h (afS .a l))]
def mulL(h1:-(2^64)<i)(h2:i<2^64):ĭ i j:=NC.ok (.inl #[h1,h2])
def mulR(h1:-(2^64)<j)(h2:j<2^64):ĭ i j:=NC.ok (.inr #[h1,h2])
def CK(h:j≠0<|>zrb)(h2:j.natAbs.log2<9000<|>zrb):GH i j:=#[h,h2]
def Yt(h:0<=j<|>zrb)(h2:j<=1000000<|>zrb)(a:i.natAbs<2^64<|>zrb):K2 i j:=#[h,h2,a]
def Im{k:Nat}{A:å}(a:c7 k A):A.units+60<Κ:=by let:=a.un;lia
structure Bu(mg:Ì->Option Å):Prop where
 abs:mg "abs"=none
 len:mg "len"=none
 min:mg "min"=none
 max:mg "max"=none
 range:mg "range"=none
 isinstance:mg "isinstance"=none
 int:mg "int"=none
 bool:mg "bool"=none
 list:mg "list"=none
 tuple:mg "tuple"=none
 sum:mg "sum"=none
 all:mg "all"=none
 zip:mg "zip"=none
 enumerate:mg "enumerate"=none
 any:mg "any"=none
 sorted:mg "sorted"=none
 set:mg "set"=none
 str:mg "str"=none
 reversed:mg "reversed"=none
def gY{a b:Int}(h:0<b):0<=a.fmod b/\a.fmod b<b:=#[ahh a h,ahP a h]
def Df(K:Ã)(x:Ì)(st:Ï):Prop:=∃(f:Ç) (fd:í),Ñ K É x=À (À (.ref f))/\pW K x x st f fd
def Df.mk{st:Ï}{f:Ç}{h:Å}{od e:Option Ç}{d:Array (Option Å)}{kV doc g b ct:Å}(a:Ñ K É x=À (À (.ref f)))
  (l:K.lookup f=À #[h,od,.func (á x x (da st) (bJ st) (af st) .none kV doc g e b ct),d]) (c:ģ K b x=Á) (k:ø K (.ref f)=Á):Df K x st:=#[f,_,a,IW l c k]
def U4{h:Û}{mg:Ì->Option Å}(X:K.In h)(G:h.Ns É mg)(m:Ñ K É "abs"=À none)(p:Ñ K É "len"=À none)(t:Ñ K É "min"=À none)(n:Ñ K É "max"=À none)
  (o:Ñ K É "range"=À none) (q:Ñ K É "isinstance"=À none) (r:Ñ K É "int"=À none) (l:Ñ K É "bool"=À none) (s:Ñ K É "list"=À none) (j:Ñ K É "tuple"=À none)
  (g:Ñ K É "sum"=À none) (b:Ñ K É "all"=À none) (d:Ñ K É "zip"=À none) (f:Ñ K É "enumerate"=À none) (i:Ñ K É "any"=À none) (k:Ñ K É "sorted"=À none) (e:Ñ K É "set"=À none) (a:Ñ K É "str"=À none) (c:Ñ K É "reversed"=À none):Bu mg :=
 #[Ÿ X G m,Ÿ X G p,Ÿ X G t,Ÿ X G n,Ÿ X G o,Ÿ X G q,Ÿ X G r,Ÿ X G l,Ÿ X G s,Ÿ X G j,Ÿ X G g,Ÿ X G b,Ÿ X G d,Ÿ X G f,Ÿ X G i,Ÿ X G k,Ÿ X G e,Ÿ X G a,Ÿ X G c]
section
variable{P:Ð}{w:Ø}{K:Ã}{mg:Ì->Option Å}{base h:Û}{x:Ì}{st:Ï}{N ps:List Ì}{k:Nat}
def Df.PL{sp:Sp}(D:Df K x st)(X:K.In h)(G:h.Ns É mg)(d:∀(kV doc e:Å) (c:Option Ç) (b ct:Å) (us:List Å),~~~us= ~~~ps->ĥ (á x x (da st) (bJ st) (af st) .none kV doc e c b ct) #[us,[]]=pure (ps.zip us))
  (ok:∀f fd,pW K x x st f fd->⇑dC p8 k f fd ps sp):⇑aE k x ps sp:=by
 let⟨f,fd,a,F⟩:=D;show#[f,fd,ok f fd F,F.binds d,F.kp,afA X G a]
def B5(K:Ã):Sp:=bU K (fun(ns:.L)=>~~~ns<=63) Á (λ_=>Á)
theorem A4{K:Ã}{N:Nn}{H:Hp}:∀ns:.L,ß (λx (b:Int)=>Py.rp K N H x b) (ns.map V.int) ns:=zrL (.nil) λ_ r A4=>.cons rfl (A4)
def He(K:Ã)(H:Hp)(a:Ç)(ns:.L)(c: ~~~ns<=63)(b:dz K H a (ns.map V.int)):B5 K [.ref a] H (λv _=>v=.bl Á) λ_ _ _=>False :=
 #[λ_=>False,.ref a,ns,λ_ z=>z.elim,rfl,by rw[OM];show#[a,_,rfl,b,Ê,A4 ns],c,λr H' _ z=>z]
def Nj{i:Ç}{j:Ð}(D:Df K "law" st)(X:K.In h)(G:h.Ns É mg)(c:mg "law"=À (.ref i))
  (m:∀(kV doc d:Å) (g:Option Ç) (b ct:Å) (s:Æ) (u:Å),Ō s (á "law" "law" (da st) (bJ st) (af st) .none kV doc d g b ct) #[[u],[]] [(y,u)])
  (ok:∀base,K.In base->base.Ns É mg->∀f fd,pW K "law" "law" st f fd->dC j w K mg base p8 k f fd [y] (B5 K)):
  ∃fd:í,(∀(s:Æ) (u:Å),Ō s fd #[[u],[]] [(y,u)])/\∀base:Û,K.In base->base.Ns É mg->dC j w K mg base p8 k i fd [y] (B5 K):=by
 let⟨f,fd,a,F⟩:=D;let e:=c.symm.trans (afA X G a);cases e;show#[fd,?_,λbase l p=>ok base l p _ fd F];let⟨q,od,kV,doc,d,g,b,ct,o,rfl,lk,n⟩:=F.ex;show m kV doc d g b ct
end
def Um{M:Type}[Py M](K:Ã)(H0:Hp)(O:Ç->Prop)(b:Bool)(as:List M)(J:It)(H1:Hp):Prop :=
 ∀(H':Hp) (d:Ç->Prop),mh H' d->aH (off H1 O) (off H' d)->(∀(i:Nat) (a:M),as[i]?=À a->J.go i H'/\∀x c,J.yld i H' x c->aH H' c/\Py.rp K (Nf H0 b) (off c d) x a)/\J.stop (~~~as) H'
def EI{M:Type}[Py M](X:Cx)(U:aI)(tg iter:Ô)(b:Bool)(as:List M):Prop:=∃wi,PI X tg iter wi /\
 ∀(Y:St) (H H0:Hp) (F O:Ç->Prop) (R:It->Hp->Prop),e9 X.K H0 F O U Y H->(∀J H1,aH H H1->Um X.K H0 O b as J H1->R J H1)->wi Y H R
def x9(lo c:Int)(n:Nat):.L:=(Ö n).map λi:Nat=>lo+(i:Int)*c
def wR{c:Int}{i:Nat}{a:Int}(h:(x9 lo c n)[i]?=À a):i<n/\a=lo+(i:Int)*c:=by
 delta x9 at h;rw[ł] at h;by_cases hi:i<n
 .rw[χ hi] at h;show#[hi,(ķ h).symm]
 .rw[afv (by rw[agi];lia)] at h;cases h
def nU(lo c:Int)(n:Nat): ~~~(x9 lo c n)=n:=by delta x9;rw[ċ,agi]
section
variable{X:Cx}{U:aI}{M β:Type}[Py M][Py β]{e e1 e2 e3 tg:Ô}{b b1 b2 b3:Bool}
def bz{xs:List M}(he:E X U e b xs):EI X U tg e b xs:=by
 stop
  show#[_,ES he,λY H H0 F O R Z q=>#[H0,F,O,Z,λv H1 g j=>by
   let⟨p,vs,e,sq,nn,d⟩:=j;show#[p,e,#[vs,(aw _ _).seq sq],q _ H1 g λH' k _ sm=>#[λi a ha=>?_,?_]]
   .let⟨x,h1,h2⟩:=iX d ha;show#[#[vs,x,(aw _ _).seq (sm.seq sq),h1],λy f c=>?_];let⟨h,c⟩:=c;subst h;let:=c vs ((aw _ _).seq (sm.seq sq));rw[h1] at this;cases this;show#[aH.refl _,ay sm h2]
   .show#[vs,(aw _ _).seq (sm.seq sq),by rw[bQ d];show Ā _]]]
def HN{O:Ç->Prop}{H1:Hp}:Um K H0 O Á (x9 lo 1 n) (Tz lo n) H1:=λH' d _ sm=>#[λi a ha=>by
 let⟨h1,h2⟩:=wR ha;show#[h1,λx b c=>?_];let⟨e1,e2⟩:=c;subst e1 e2 h2
 show#[aH.refl _,by change V.int _=V.int _;rw[Đ]],by change n<=_;rw[nU];show Ā _]
def nX{n:Int}{p ps:ð}(d:Gl X "range")(h:X.mg "range"=none)(he:E X U e b n)(h1:-(2^62)<=n)(h2:n<2^62)
  (c:Ä [e] X.env=[(Â,Õ e X.env)]<|>zra) (a:Ä [e] X.env=(Â,Õ e X.env)::Ä [] X.env<|>zra):EI X U tg (.Call (.Name "range" p) [e] [] ps) Á (x9 0 1 ↥n):=by stop show#[_,yU d h (aC he aV a) c,λY H H0 F O R Z q=>#[H0,F,O,Z,λv H1 f g=>#[n,by cases g;rfl,h1,h2,q _ H1 f HN]]]
def rJ{D:GD}{pos:ð}{body:List Ï}{g:TG}{tc:Nat->Prop}{put:Bool->M->aI->aI}{as:List M}(J:Nat->aI->Prop)(t:G X tg g M put tc)(he:EI X U tg e b as)(I:J 0 U)
  (C:∀(i:Nat) (a:M) U',as[i]?=À a->J i U'->S X (put b a U') body {D with nx:=J (i+1),ct:=J (i+1),bk:=λΓ2=>S X Γ2 rest D}) (E:∀U',J (~~~as) U'->S X U' rest D)
  (z:X.calm=Á<|>zra) (hp:ĺ .E X.A X.env X.xe:=by show agZ)
  (p:(∀x,Þ e X.env x=pure x)<|>zrc):S X U (.For tg e body [] pos::rest) D:=by
 stop
  let⟨wi,hi,L⟩:=he;show eI (dU (zK hp z hi t.1 (tb:=rH X body) nM p) λR Y H ⟨H0,F,O,Z,nx,r,bk,ct⟩=>?_);show L Y H H0 F O _ Z λQ H1 o YU=>?_;show#[λi m Y' H'=>m= ~~~as-i/\i<= ~~~as/\∃U' f,aH (off H1 O) (off H' f)/\e9 X.K H0 F f U' Y' H'/\J i U',#[_,rfl,ş _,U,O,aH.refl _,Z.go o,I],?_];rintro i m Y' H' ⟨rfl,u,U',f,sm,s,j⟩;let⟨B,v⟩:=YU H' f s.own sm;by_cases l:i<~~~as
  .let ha:as[i]?=À as[i]:=į l;let⟨go,P⟩:=B i _ ha;show .inr #[go,λσ2 H2=>∃Γ2 d,aH (off H1 O) (off H2 d)/\e9 X.K H0 F d Γ2 σ2 H2/\J (i+1) Γ2,λσ2 H2 q=>#[~~~as-(i+1),.f,rfl,l,q],λx k N=>?_];let⟨n,α⟩:=P x k N;show t.2 b as[i] H0 F f U' Y' k _ _ (s.go n) α λσ2 h _ _=>?_;show#[_,_,C i _ U' ha j,H0,F,f,h,?_,r,?_,?_]
   .show λΓ2 σ2 H2 d c h q=>#[Γ2,d,sm.trans ((ah n).trans c),h,q]
   .show λΓ2 σ2 H2 d c h q=>nx Γ2 σ2 H2 d ((ah o).trans (sm.trans ((ah n).trans c))) h q
   .show λΓ2 σ2 H2 d c h q=>#[Γ2,d,sm.trans ((ah n).trans c),h,q]
  .let y:i= ~~~as:=by omega
   subst y;show .inl #[v,nx U' Y' H' f ((ah o).trans sm) s (E U' j)]
end
noncomputable def cB:Option (Option Bd)->Option Bd
 |some (À (@Bd.val _ _ b a))=>À (.val b a)
 |_=>none
def cΓ(U:aI)(tn:List Ì)(js:List Nat):aI:=tn.map (λ_=>none)++js.map λj=>cB U[j]?
def RD{o:Option (Option Bd)}(h:cB o=À g):o=À (À g)/\¬g.jc:=by
 delta cB at h;split at h
 .cases h;show#[rfl,λz=>z]
 .cases h
def JN{U:aI}{i:Nat}(h:(cΓ U tn js)[i]?=À (À g)):∃j,js[i-~~~tn]?=À j/\~~~tn<=i/\U[j]?=À (À g)/\¬g.jc/\(cσ Y tn js)[i]?=À ((Y[j]?).getD none):=by
 delta cΓ at h;delta cσ;by_cases hi:i<~~~tn
 .rw[afg ↑hi,ł] at h;cases q:tn[i]? with
  |none=>rw[q] at h;cases h
  |some y=>rw[q] at h;cases h
 .rw[ae_ ↑hi,ł,ċ] at h;rw[ae_ ↑hi,ł,ċ];cases q:js[i-~~~tn]? with
  |none=>rw[q] at h;cases h
  |some j =>
   rw[q] at h;let⟨h1,h2⟩:=RD (ķ h);show#[j,rfl,.b,h1,h2,rfl]
section
variable{K:Ã}{H0:Hp}{F O:Ç->Prop}{U:aI}{Y:St}{H:Hp}
def e9.gQ(Z:e9 K H0 F O U Y H)(tn:List Ì)(js:List Nat):e9 K H0 F O (cΓ U tn js) (cσ Y tn js) H where
 same:=Z.same
 fo:=Z.fo
 f0:=Z.f0
 own:=Z.own
 len:=by delta cΓ cσ;simp
 at_:=λi g e n=>by
  let⟨j,h1,h2,f,a,c⟩:=JN (Y:=Y) e;let⟨v,d,b⟩:=Z.at_ j g f n;show#[v,by rw[c,d];rfl,b]
 dis:=#[λ_ _=>False,λ_ _ _ z=>z.elim,λ_ _ z=>z.elim,λi g e o=>by
  let⟨_,_,_,_,a,_⟩:=JN (Y:=Y) e
  show absurd o a]
def e9.ownIn{D:Ç}(Z:e9 K H0 F O U Y H)(r:H D=none)(sm:aH H H')(k:H' D=À (.lst xs)):e9 K H0 F (λp=>O p\/p=D) U Y H'/\aH .F (off H' λp=>O p\/p=D):=by
 let d:aH .F (off H' λp=>O p\/p=D):=λb o h=>by
  let⟨h1,h2⟩:=kE h;let l:b≠D:=λz=>by rw[z,r] at h2;cases h2
  rw[bE (by rintro(z|z);show h1 z;show l z)];show sm _ _ h2
 show#[#[Z.same.trans sm,λp h=>.inl (Z.fo p h),Z.f0,λp h=>?_,Z.len,λi g e n=>?_,?_],d]
 .obtain h|h:=h
  .let⟨ys,q⟩:=Z.own p h;show#[ys,sm _ _ q]
  .subst h;show#[.inl xs,k]
 .let⟨v,f,c⟩:=Z.at_ i g e n;show#[v,f,?_];cases g with
  |val b a=>show ay d c
  |own b as=>show c
  |dpo a=>show c
 .let⟨t,m,j,s⟩:=Z.dis;show#[t,m,λi p h=>#[.inl (j i p h).1,(j i p h).2],λi g e o=>?_];let⟨v,f,c⟩:=s i g e o;show#[v,f,Bd.VZ c (λp ys _ z=>sm _ _ z) d (λp z=>(j i p z).1) Z.own]
variable{X:Cx}{D:GD}{M β:Type}[Py M][Py β]{elt target iter c:Ô}{b b':Bool}{pos:ð}{Ze:Ć}{tn:List Ì}{js:List Nat}{g:TG}{tc:Nat->Prop}{put:Bool->M->aI->aI}{as:List M}{f:M->β}{p:M->Bool}{ifs:List Ô}
def Xe(X:Cx)(tn:List Ì)(js:List Nat)(Ze:Ć)(elt:Ô)(β:Type)[Py β](b:Bool):TE:=λY H Q=>∃U',∃v:β,(∀C s H fp,E .H U' elt b v)/\tV X.K U' b v Y H Q
@[irreducible] def FT(X:Cx)(U:aI)(ifs:List Ô)(c:Bool):Prop:=PF X ifs (Q5 X.K U c)
def WA(X:Cx)(tn:List Ì)(js:List Nat)(Ze:Ć)(ifs:List Ô):TT:=λY H Q=>∃U' c,(∀C s H fp,FT .H U' ifs c)/\Q5 X.K U' c Y H Q
def Ab:FT X U [] Á:=by stop show λZB s Y H Q I ⟨H0,F,O,Z,q⟩=>Q3 ZB s Y H Q I (q H (aH.refl _))
def pT{k:Bool}(h:T X U c k):FT X U [c] k:=by stop show Tc h
def Fs{wi:TI}(hw:∀(Y:St) (H H0:Hp) (F O:Ç->Prop) (R:It->Hp->Prop),e9 X.K H0 F O U Y H->(∀J H1,aH H H1->Um X.K H0 O b as J H1->R J H1)->wi Y H R)
  (N:GP g M put tc X.K) (L:∀j,tc j->j<~~~tn)
  (ht:∀(i:Nat) (a:M),as[i]?=À a->∀C s H fp,FT .H (put b a (cΓ U tn js)) ifs (p a))
  (hb:∀(i:Nat) (a:M),as[i]?=À a->p a=Á->∀C s H fp,E .H (put b a (cΓ U tn js)) elt b' (f a)) (W: ~~~as<=1000)
  {Y:St} {H:Hp} {Q:VK} {H0:Hp} {F O:Ç->Prop} (Z:e9 X.K H0 F O U Y H) (q:∀v H',aH H H'->Py.rp X.K (Nf H0 b') (off H' O) v ((as.filter p).map f)->Q v H'):
  TX wi tn js g (WA X tn js Ze ifs) (Xe X tn js Ze elt β b') Y H Q:=by
 stop
  show hw Y H H0 F O _ Z λJ H1 P YU D A=>?_;let G:=Z.go P
  show#[λi m H' xs=>m= ~~~as-i/\i<= ~~~as/\aH H1 H'/\H' D=À (.lst xs)/\ß (λx a=>Py.rp X.K (Nf H0 b') (off H' λp=>O p\/p=D) x a) xs (((as.take i).filter p).map f),
   #[_,rfl,ş _,dt A _,bp,.nil],?_]
  rintro i m H' xs ⟨rfl,hi,sm,r,n⟩;show#[r,?_];let⟨S,so⟩:=G.ownIn A sm r;let⟨t1,Γ⟩:=YU H' _ S.own so;by_cases d:i<~~~as
  .let ha:as[i]?=À as[i]:=į d;let t:as.take (i+1)=as.take i++[as[i]]:=by rw[agM,ha];rfl
   let⟨go,yl⟩:=t1 i _ ha;show .inr #[go,λx l hy=>?_];let⟨h,rx⟩:=yl x l hy;show N b as[i] H0 F _ (cΓ U tn js) (cσ Y tn js) l x _ ((S.go h).gQ tn js) rx λσ2 T l2 k2=>?_;show#[#[λj v hj e=>?_,l2],_,_,ht i _ ha,H0,F,_,T,λH3 k=>?_]
   .rwa[k2 j λz=>absurd (L j z) (af5.mpr hj)]
   cases hp:p as[i] with
   |false =>
    show xZ #[~~~as-(i+1),.b,rfl,d,sm.trans (h.trans k),k _ _ (h _ _ r),?_];rw[t,ϙ,ahl,hp];simp only[agB,agQ,List.filter_nil,afD];show bu (λ_ _ z=>ay (ah (h.trans k)) z) n
   |true =>
    show uH #[_,_,hb i _ ha hp,H0,F,_,T.go k,λy H4 α V=>?_];let I:H4 D=À (.lst xs):=α _ _ (k _ _ (h _ _ r));let B:(λp=>O p\/p=D) D:=.inr rfl;show#[I,?_,~~~as-(i+1),.b,rfl,d,?_,bp,?_]
    .let:=bQ n;rw[ċ] at this;let h2:=age p (as.take i);let h3:=ahG i as;show afn .b (cI W)
    .show λc o z=>by
      let hc:c≠D:=λw=>by rw[w,A] at z;cases z
      rw[aU hc];show α _ _ (k _ _ (h _ _ (sm _ _ z)))
    .rw[oo B,t,ϙ,ahl,hp];simp only[agz,List.filter_nil,agf,ů,agt];show vM (bu (λ_ _ z=>ay (ah (h.trans (k.trans α))) z) n) (.cons V .nil)
  .let σ:i= ~~~as:=.b
   subst σ;rw[Ζ] at n;let u:off H' O D=À (.lst xs):=by rwa[bE (G.pZ A)]
   show .inl #[Γ,q _ H' (P.trans sm) #[D,xs,rfl,dz.of u,Nf.wk (G.ik A) u,?_]]
   .show bu (λ_ _ z=>ay (kG λ_ w=>.inl w) z) n
def Eu{H:Hp}{fp:List Ç}:PE .H elt (Xe X tn js Ze elt β b'):=by stop show λZB s' Y H' Q I ⟨U',v,h,q⟩=>(show PE .H elt (tV X.K U' b' v) from h C s H fp) ZB s' Y H' Q I q
def zY{H:Hp}{fp:List Ç}:PF .H ifs (WA X tn js Ze ifs):=by stop show λZB s' Y H' Q I ⟨U',c,h,q⟩=>(show PF .H ifs (Q5 X.K U' c) from h C s H fp) ZB s' Y H' Q I q
def lQ(tn:List Ì)(js:List Nat)(S:gF X Ze tn js)(he:EI X U target iter b as)(d:GP g M put tc X.K)(k:∀C s H fp,PG .H target g)(c:∀j,tc j->j<~~~tn)
  (h:∀(i:Nat) (a:M),as[i]?=À a->∀C s H fp,FT .H (put b a (cΓ U tn js)) ifs (p a))
  (l:∀(i:Nat) (a:M),as[i]?=À a->p a=Á->∀C s H fp,E .H (put b a (cΓ U tn js)) elt b' (f a)) (m: ~~~as<=1000) (o:X.calm=Á<|>zra)
  (e:(∀x,Þ iter X.env x=pure x)<|>zrc):E X U (.ListComp elt [#[target,iter,ifs,0]] Ze pos) b' ((as.filter p).map f):=by stop let⟨wi,hi,n⟩:=he;show aJ (Qf S o hi (λC s H fp=>#[k C s H fp,zY,Eu]) e) λY H Q ⟨H0,F,O,Z,q⟩=>Fs n d c h l m Z q
def de(tn:List Ì)(js:List Nat)(S:gF X Ze tn js)(he:EI X U target iter b as)(d:GP g M put tc X.K)(k:∀C s H fp,PG .H target g)(c:∀j,tc j->j<~~~tn)
  (l:∀(i:Nat) (a:M),as[i]?=À a->∀C s H fp,E .H (put b a (cΓ U tn js)) elt b' (f a)) (m: ~~~as<=1000) (n:X.calm=Á<|>zra)
  (e:(∀x,Þ iter X.env x=pure x)<|>zrc):E X U (.ListComp elt [#[target,iter,[],0]] Ze pos) b' (as.map f):=by stop have h:=lQ (pos:=pos) (p:=λ_=>Á) tn js S he d k c (λi a _ C s H fp=>Ab) (λi a ha _=>l i a ha) m n e;rwa[ahH.mpr (λ_ _=>rfl)] at h
def GB(i:Nat){py c:ð}(t:X.N.Nodup)(tn:List Ì)(js:List Nat)(A:gF X Ze tn js)(he:EI X U target iter b as)(k:GP g M put tc X.K)(q:∀C s H fp,PG .H target g)(e:∀j,tc j->j<~~~tn)
  (z:∀(i:Nat) (a:M),as[i]?=À a->∀C s H fp,FT .H (put b a (cΓ U tn js)) ifs (p a))
  (r:∀(i:Nat) (a:M),as[i]?=À a->p a=Á->∀C s H fp,E .H (put b a (cΓ U tn js)) elt b' (f a)) (u: ~~~as<=1000)
  (h:S X (U.set i (À (.val b' ((as.filter p).map f)))) rest D) (d:X.N[i]?=À y<|>zra) (J:Loc X.env.scope y<|>zrf)
  (B:X.fn y=Á\/X.env.scope.names.lookup y=À .local<|>zrf) (w:X.calm=Á<|>zra)
  (l:õ (.ListComp elt [#[target,iter,ifs,0]] Ze pos) (À (.Name y py)) c.line X.env=pure Á<|>zra)
  (o:(∀x,Þ iter X.env x=pure x)<|>zrc):EP.S X U (.Assign [.Name y py] (.ListComp elt [#[target,iter,ifs,0]] Ze pos) c::rest) D:=by stop let⟨wi,hi,I⟩:=he;show eI (dU (BF t d J B A w hi (λC s H fp=>#[q C s H fp,zY,Eu]) l o) λL Y H ⟨H0,F,O,Z,n,_⟩=>Fs I k e z r u Z λv H1 m G=>n _ _ H1 O (ah m) ((Z.go m).set G) h)
def Mr(i:Nat){py c:ð}(u:X.N.Nodup)(tn:List Ì)(js:List Nat)(n:gF X Ze tn js)(he:EI X U target iter b as)(k:GP g M put tc X.K)(o:∀C s H fp,PG .H target g)(e:∀j,tc j->j<~~~tn)
  (r:∀(i:Nat) (a:M),as[i]?=À a->∀C s H fp,E .H (put b a (cΓ U tn js)) elt b' (f a)) (v: ~~~as<=1000)
  (h:S X (U.set i (À (.val b' (as.map f)))) rest D) (d:X.N[i]?=À y<|>zra) (w:Loc X.env.scope y<|>zrf)
  (q:X.fn y=Á\/X.env.scope.names.lookup y=À .local<|>zrf) (t:X.calm=Á<|>zra)
  (l:õ (.ListComp elt [#[target,iter,[],0]] Ze pos) (À (.Name y py)) c.line X.env=pure Á<|>zra)
  (m:(∀x,Þ iter X.env x=pure x)<|>zrc):EP.S X U (.Assign [.Name y py] (.ListComp elt [#[target,iter,[],0]] Ze pos) c::rest) D:=by stop show GB (p:=λ_=>Á) i u tn js n he k o e (λi a _ C s H fp=>Ab) (λi a ha _=>r i a ha) v ?_ d w q t l m;rwa[ahH.mpr (λ_ _=>rfl)]
end
theorem BE:∀{bs:List Bool} {us:List Å},Vals (bs.map V.bl) us->LSm.BoolsAre us bs:=@zrL _ _ (@λ_ h=>by cases h;show .nil) @λb r BE _ h=>by
  cases h with
  |cons h1 h2=>cases h1;show .cons b (BE h2)
section
variable{X:Cx}
def HB(j:X.calm=Á):jy X (.builtin "all") (λxs H Q=>∃p,∃bs:List Bool,xs=[.ref p]/\dz X.K H p (bs.map V.bl)/\Q (.bl (bs.all id)) H):=by
 intro ZB s Y H xs us Q I r h;let⟨p,bs,rfl,sq,q⟩:=h;let⟨u,rfl,l⟩:=vals1 r;cases l;let⟨YU,k,pl,_⟩:=I.list sq;let d:=BE k;let a:=pl.isList;let c:p<s⁻¹:=by let⟨_,e,_⟩:=a;show ē e
 show call_all_walk (ahX a ?_)
 show#[s⁻¹,[s⁻¹,p],[s⁻¹],YU.toArray.size,_,_,λi=>(bs[i]?).getD Á,rfl,Walks.list (A:=X.A.in1) (I.ok.hd j) _ p (Ķ c) YU.toArray,
  #[#[_,Ŕ _ rfl,rfl,rfl],a.push _],λi v s' n E' m f=>?_,λh' tk g=>?_]
 .let⟨b,e,rfl⟩:=d.get i v ↑m;simp only[e,ϗ] at f;show ϝ f
 .let e:((Ö YU.toArray.size).all λi=>(bs[i]?).getD Á)=bs.all id:=by
   rw[ņ,~~~d];show LSm.range_all bs
  rw[e];show#[.bl _,H,I.kept (LSm.kept_iter g),rfl,q]
def HE(f:X.calm=Á):jy X (.builtin "sum") (λxs H Q=>∃p,∃ns:.L,xs=[.ref p]/\dz X.K H p (ns.map V.int)/\Q (.int ns.sum) H):=by
 intro ZB s Y H xs us Q I r h;let⟨p,ns,rfl,sq,q⟩:=h;let⟨u,rfl,e⟩:=vals1 r;cases e;let⟨YU,c,pl,_⟩:=I.list sq;let hi:=intsAre_of c;let⟨ys,b⟩:=hi.allInts.items;let a:s.heap.IsList p (intItems ys):=b▸pl.isList;show sum_intListG (I.ok.hd f) a λh' tk t' d=>?_
 let e1:ns=ys.toList.map (·.1):=by
  rw[<-ξ,<-b];show(show numsOf YU.toArray.toList=ns from hi.numsOf).symm
 let e2:preSum (numAt ys) ys.size=ns.sum:=by
  rw[preSum_eq,aff .c,e1]
 rw[e2];show#[.int _,H,I.kept d,#[_,rfl],q]
end
theorem PQ{K:Ã}{N:Nn}{H:Hp}:∀{xs:List V} {bs:List Bool},ß (λx (b:Bool)=>Py.rp K N H x b) xs bs->xs=bs.map V.bl
 |_,_,.nil=>rfl
 |_,_,.cons h t=>by rw[show _=V.bl _ from h,PQ t];rfl
theorem pJ{K:Ã}{N:Nn}{H:Hp}:∀{xs:List V} {bs:.L},ß (λx (b:Int)=>Py.rp K N H x b) xs bs->xs=bs.map V.int
 |_,_,.nil=>rfl
 |_,_,.cons h t=>by rw[show _=V.int _ from h,pJ t];rfl
section
variable{X:Cx}{U:aI}{M β γ:Type}[Py M][Py β][Py γ]{e e1 e2 e3:Ô}{b b1 b2 b3:Bool}{pos:ð}
def KO{bs:List Bool}{p:ð}(h:X.calm=Á)(d:Gl X "all")(g:X.mg "all"=none)(ha:E X U e b bs)(a:Ä [e] X.env=(Â,Õ e X.env)::Ä [] X.env<|>zra):E X U (.Call (.Name "all" p) [e] [] pos) Á (bs.all id):=by
 stop
  show aJ (d7 (HB h) d g PyProof.Rows.boot_all (aC ha aV a) (he:=a)) λY H Q ⟨H0,F,O,S,q⟩=>#[H0,F,O,S,λv H1 c f=>by
    let⟨p,vs,e,sq,n,r⟩:=f;rw[PQ r] at sq
    show#[p,bs,by rw[e],(aw _ _).seq sq,q _ H1 c rfl]]
def VV{ns:.L}{p:ð}(h:X.calm=Á)(d:Gl X "sum")(g:X.mg "sum"=none)(ha:E X U e b ns)(a:Ä [e] X.env=(Â,Õ e X.env)::Ä [] X.env<|>zra):E X U (.Call (.Name "sum" p) [e] [] pos) Á ns.sum:=by
 stop
  show aJ (d7 (HE h) d g PyProof.Rows.boot_sum (aC ha aV a) (he:=a)) λY H Q ⟨H0,F,O,S,q⟩=>#[H0,F,O,S,λv H1 c f=>by
    let⟨p,vs,e,sq,n,r⟩:=f;rw[pJ r] at sq
    show#[p,ns,by rw[e],(aw _ _).seq sq,q _ H1 c rfl]]
def Rj{xs:List M}{k:Int}{p2:ð}(ha:E X U e1 b xs)(m:E X U e2 b2 k)(t:0<=k):E X U (.Subscript e1 (.Slice (À e2) none none p2) pos) b (xs.drop ↥k):=by
 stop
  show aJ (nA vd ha (rR m) qX) λY H Q ⟨H0,F,O,S,q⟩=>#[H0,F,O,S,λv H1 c s=>#[H0,F,O,S.go c,λw H2 a j=>by
    let⟨p,vs,e,sq,n,r⟩:=s;show#[k,j,p,vs,e,(aw _ _).seq ((ah a).seq sq),λl g=>?_];let⟨i,f⟩:=cV (xs:=jY vs (À k) none) ((S.go c).go a) g;show q _ _ (c.trans (a.trans i)) #[l,_,rfl,dz.of f,Nf.wk (((S.go c).go a).ik g) f,?_]
    let ec:jY vs (À k) none=vs.drop ↥k:=by
     delta jY;let o:k=((↥k:Nat):Int):=.b
     rw[o,HT.qk,HT.mz];simp only[Ó];by_cases d:↥k<= ~~~vs
     .rw[ahx d,aff (by rw[Ϟ];show Ā _)]
     .rw[ahm .b,afF (Ā _),afF .b];simp
    let h:=bu (λ_ _ z=>ay ((ah a).trans (ah i)) z) (vt ↥k r);rw[<-ec] at h
    show h]]
end
noncomputable def Ye(a:Ć)(N:List Ì)(Ze:Ć)(js:List Nat):Bool :=
 (Ze.kind==.function)&&Ze.names.all (λx=>(!(x.2==.local) || Ze.names.lookup x.1==À .local)&&(!(x.2==.free) || (Ze.names.lookup x.1==À .free&&(a.names.lookup x.1==À .cell || a.names.lookup x.1==À .free)))&&Ze.names.all (λy=>!(x.1==y.1) || x.2==y.2)) &&
  js.all (λj=>match N[j]? with|some x=>Ze.names.lookup x==À .free|none=>Â)
def bG{Ze:Ć}(b:Ć)(N:List Ì)(h1:X.env.scope=b)(h2:X.N=N)(h:Ye b N Ze js=Á):gF X Ze tn js:=by
 subst h1 h2;delta Ye at h;simp only[ŷ,afq] at h;let⟨⟨k,ha⟩,g⟩:=h;show#[↑k,λx a e=>?_,λx a e=>?_,λx a y m e=>?_,λj c=>?_]
 .let⟨⟨h1,h2⟩,d⟩:=ha x a;simpa [e] using h1
 .let⟨⟨h1,h2⟩,d⟩:=ha x a;let f:(Ze.names.lookup x.1==À .free&&(X.env.scope.names.lookup x.1==À .cell || X.env.scope.names.lookup x.1==À .free))=Á:=by simpa [e] using h2
  let⟨l,i⟩:=aeO.mp f;show#[↑l,?_];obtain z|z:=Bool.or_eq_true_iff.mp i
  .show .inl (by simpa using z:X.env.scope.names.lookup x.1=_)
  .show .inr (by simpa using z:X.env.scope.names.lookup x.1=_)
 .let⟨⟨h1,h2⟩,d⟩:=ha x a;let:=d y m;simpa [e] using this
 .let:=g j c;split at this
  .rename_i x a;show#[x,a,↑this]
  .cases this
theorem KY{env:ő}{x:Ì}:∀(names:List (Ì×ó)),(names.map fun(n,k)=>if (k==à&&env.scope.kind==.function&&env.kindOf n==À .cell) then (n,â) else (n,k)).lookup x =
  (names.lookup x).map λk=>if (k==à&&env.scope.kind==.function&&env.kindOf x==À .cell) then â else k
 |[]=>rfl
 | (n,k) :: r=>by
  let b:=KY (env:=env) (x:=x) r;by_cases e:x=n
  .subst e
   cases a:(k==à&&env.scope.kind==.function&&env.kindOf x==À .cell) <;>
    simp only[a,ů,af1,agR,agz,Ϫ,agB,agQ]
  .let c:(x==n)=Â:=by simpa using e
   cases a:(k==à&&env.scope.kind==.function&&env.kindOf n==À .cell) <;>
    simp only[a,c,ů,af1,agz,agB,agQ]<;>show b
def An{env:ő}{names:List (Ì×ó)}(h:names.lookup x=À .cell):(names.map fun(n,k)=>if (k==à&&env.scope.kind==.function&&env.kindOf n==À .cell) then (n,â) else (n,k)).lookup x=À .cell:=by
 rw[KY,h];rfl
def cE{Ze:Ć}{fp:List Ç}{pos:ð}(i:Nat)(N:List Ì)(h:cN X tn js=N<|>zra)(b:N.Nodup<|>zrh)(hi:N[i]?=À x<|>zra)
  (a:Ze.names.lookup x=À .local\/Ze.names.lookup x=À .cell<|>zrf):PG .H (.Name x pos) (ni i):=by
 show lF (by rwa[h]:(cN X tn js).Nodup) (by rwa[h]:(cN X tn js)[i]?=À x) ?_ ?_
 .obtain z|z:=a
  .show .inl (lookup_relabel_local z)
  .show .inr (An z)
 .obtain z|z:=a
  .show .inr (lookup_relabel_local z)
  .show .inl ?_;change(match Ze.names.lookup x with|some .cell=>Á|_=>Â)=Á;rw[z]
def aW{i:Nat}(h:i<n<|>zrb):∀j,j=i->j<n:=λj e=>by rwa[e]
section
variable{K:Ã}{H0:Hp}{F O:Ç->Prop}{U:aI}{Y:St}{H H':Hp}
def e9.zA{i:Nat}(Z:e9 K H0 F O U Y H)(sm:aH H H')(N:Ç->Prop)(f:∀q,N q->H q=none/\∃xs:Mt,H' q=À (mo xs))(g:Bd)(A:g.jc)(y:g.Dj K H0 (λp=>O p\/N p) H' N v):
  e9 K H0 F (λp=>O p\/N p) (U.set i (À g)) (Y.set i (À v)) H'/\aH .F (off H' λp=>O p\/N p):=by
 let t:aH .F (off H' λp=>O p\/N p):=λb o h=>by
  let⟨h1,h2⟩:=kE h;let B:¬N b:=λz=>by rw[(f b z).1] at h2;cases h2
  rw[bE (by rintro(z|z);show h1 z;show B z)];show sm _ _ h2
 show#[#[Z.same.trans sm,λp h=>.inl (Z.fo p h),Z.f0,λp h=>?_,by rw[Ŝ,Ŝ];show Z.len,λj g' e n=>?_,?_],t]
 .obtain h|h:=h
  .let⟨ys,q⟩:=Z.own p h;show#[ys,sm _ _ q]
  .show(f p h).2
 .by_cases c:j=i
  .subst c;let⟨x,u⟩:=get_set_some e;subst u;show absurd A n
  .rw[get_set_ne c] at e;let⟨w,s,d⟩:=Z.at_ j g' e n;show#[w,by rwa[get_set_ne c],?_];cases g' with
   |val b a=>show ay t d
   |own b as=>show d
   |dpo a=>show d
 .let⟨D,C,l,E⟩:=Z.dis;show#[λj q=>(j=i/\N q)\/(j≠i/\D j q),λj k q h1 h2=>?_,λj q h=>?_,λj g' e o=>?_]
  .obtain⟨e1,m⟩|⟨e1,m⟩:=h1<;>obtain⟨e2,r⟩|⟨e2,r⟩:=h2
   .rw[e1,e2]
   .show absurd (l k q r).1 (Z.pZ (f q m).1)
   .show absurd (l j q m).1 (Z.pZ (f q r).1)
   .show C j k q m r
  .obtain⟨_,n⟩|⟨_,n⟩:=h
   .show#[.inr n,Z.ik (f q n).1]
   .show#[.inl (l j q n).1,(l j q n).2]
  .by_cases c:j=i
   .subst c;let⟨x,u⟩:=get_set_some e;subst u;show#[v,get_set_eq (by rwa[Z.len]),?_];let:(λq=>(j=j/\N q)\/(j≠j/\D j q))=N:=funext λq=>propext #[λz=>by obtain⟨_,z⟩|⟨z,_⟩:=z;show z;show absurd rfl z,λz=>.inl #[rfl,z]];change Bd.Dj K H0 (λp=>O p\/N p) H' (λq=>(j=j/\N q)\/(j≠j/\D j q)) v g;rwa[this]
   .rw[get_set_ne c] at e;let⟨w,s,d⟩:=E j g' e o;show#[w,by rwa[get_set_ne c],?_];let:(λq=>(j=i/\N q)\/(j≠i/\D j q))=D j:=funext λq=>propext #[λz=>by obtain⟨z,_⟩|⟨_,z⟩:=z;show absurd z c;show z,λz=>.inr #[c,z]];change Bd.Dj K H0 (λp=>O p\/N p) H' (λq=>(j=i/\N q)\/(j≠i/\D j q)) w g';rw[this];show Bd.VZ d (λp ys _ z=>sm _ _ z) t (λp z=>(l j p z).1) Z.own
def e9.Sz{i:Nat}(Z:e9 K H0 F O U Y H)(s:U[i]?=À (À g))(I:g.jc):∃v D,Y[i]?=À (À v)/\g.Dj K H0 O H D v/\(∀p,D p->O p/\H0 p=none) /\
  ∀(p:Ç) (ys:Mt) (g':Option Bd),D p->(∀d,g'=À d->d.jc/\d.Dj K H0 O (upd H p (mo ys)) D v)->e9 K H0 F O (U.set i g') Y (upd H p (mo ys))/\off (upd H p (mo ys)) O=off H O:=by
 let⟨D,A,h,C⟩:=Z.dis;let⟨v,B,G⟩:=C i g s I;show#[v,D i,B,G,h i,λp ys g' hp m=>?_];let r:=(h i p hp).1;let u:=oo (H:=H) (o:=mo ys) r;show#[#[λb o z=>?_,Z.fo,Z.f0,λb J=>?_,by rw[Ŝ];show Z.len,λj c e n=>?_,D,A,h,λj c e o=>?_],u]
 .let:b≠p:=λw=>by rw[w,(h i p hp).2] at z;cases z
  rw[aU this];show Z.same _ _ z
 .by_cases k:b=p
  .subst k;show#[ys,bp]
  .rw[aU k];show Z.own b J
 .by_cases f:j=i
  .subst f;let t:j<~~~U:=(adU.mp s).1;rw[get_set_eq t] at e;let x:g'=À c:=ķ e;show absurd (m c x).1 n
  .rw[get_set_ne f] at e;let⟨w,y,l⟩:=Z.at_ j c e n;show#[w,y,?_];cases c with
   |val b a =>
    change Py.rp K _ (off (upd H p _) O) w a;rwa[u]
   |own b as=>show l
   |dpo a=>show l
 .by_cases f:j=i
  .subst f;let t:j<~~~U:=(adU.mp s).1;rw[get_set_eq t] at e;let x:g'=À c:=ķ e;show#[v,B,(m c x).2]
  .rw[get_set_ne f] at e;let⟨w,y,l⟩:=C j c e o;show#[w,y,Bd.VZ l (λq xs E z=>?_) (by rw[u];show aH.refl _) (λq z=>(h j q z).1) Z.own];let:q≠p:=λw=>f (A j i q E (w▸hp));rwa[aU this]
def e9.write{i:Nat}(Z:e9 K H0 F O U Y H)(h:U[i]?=À (À g))(e:g.jc):∃v D,Y[i]?=À (À v)/\g.Dj K H0 O H D v/\(∀p,D p->O p/\H0 p=none) /\
  ∀(p:Ç) (ys:List V) (g':Option Bd),D p->(∀d,g'=À d->d.jc/\d.Dj K H0 O (upd H p (.lst ys)) D v)->e9 K H0 F O (U.set i g') Y (upd H p (.lst ys))/\off (upd H p (.lst ys)) O=off H O:=by
 let⟨v,D,a,b,c,f⟩:=Z.Sz h e;show#[v,D,a,b,c,λp ys=>f p (.inl ys)]
def e9.freeze{i:Nat}{g':Bd}(Z:e9 K H0 F O U Y H)(G:U[i]?=À (À g))(E:g.jc)(L:¬g'.jc)
  (I:∀(D c:Ç->Prop) v,g.Dj K H0 O H D v->(∀p,D p->H0 p=none/\¬c p)->aH .F (off H c)->(∀p xs,Rt H p xs->Rt (off H c) p xs)->g'.ok K H0 c H v):
  ∃c,e9 K H0 F c (U.set i (À g')) Y H/\aH .F (off H c):=by
 let⟨D,A,d,B⟩:=Z.dis;let⟨v,J,C⟩:=B i g G E;let s:aH .F (off H λp=>O p/\¬D i p):=kG λp h=>h.1;show#[λp=>O p/\¬D i p,#[Z.same,λp h=>#[Z.fo p h,λz=>?_],Z.f0,λp h=>Z.own p h.1,by rw[Ŝ];show Z.len,λj r e n=>?_,λj q=>j≠i/\D j q,λj k q h1 h2=>A j k q h1.2 h2.2,λj q h=>#[#[(d j q h.2).1,λz=>h.1 (A j i q h.2 z)],(d j q h.2).2],λj r e o=>?_],s]
 .let⟨xs,w⟩:=Z.f0 p h;rw[(d i p z).2] at w;cases w
 .by_cases l:j=i
  .subst l;let⟨_,x⟩:=get_set_some e;subst x;show#[v,J,I (D j) _ v C (λp z=>#[(d j p z).2,λw=>w.2 z]) s λp xs q=>?_]
   let hp:∀u,(H p=À (.tup u)\/∃o,H p=À (.frz o (.tup u)))->¬(O p/\¬D j p):=λu z w=>by
    let⟨ys,t⟩:=Z.own p w.1;obtain z|⟨o,z⟩:=z
    .rw[z] at t;obtain ys|ys|ys:=ys<;>cases t
    .rw[z] at t;obtain ys|ys|ys:=ys<;>cases t
   let m:=hp xs q.rd;obtain q|⟨o,q⟩:=q
   .show .inl (by rwa[bE m])
   .show .inr #[o,by rwa[bE m]]
  .rw[get_set_ne l] at e;let⟨w,y,f⟩:=Z.at_ j r e n;show#[w,y,?_];cases r with
   |val b a=>show ay s f
   |own b as=>show f
   |dpo a=>show f
 .let l:j≠i:=by
   rintro rfl;let⟨_,x⟩:=get_set_some e;subst x;show L o
  rw[get_set_ne l] at e;let⟨w,y,f⟩:=B j r e o;show#[w,y,?_];let:(λq=>j≠i/\D j q)=D j:=funext λq=>propext #[λz=>z.2,λz=>#[l,z]];change Bd.Dj K H0 (λp=>O p/\¬D i p) H (λq=>j≠i/\D j q) w r;rw[this];show Bd.VZ f (λp ys _ z=>z) s (λp z=>(d j p z).1) Z.own
def Iz{M:Type}[Py M]{as:List M}{D a:Ç->Prop}(h:(Bd.own b as).Dj K H0 O H D v)(d:∀p,D p->H0 p=none/\¬a p)(f:aH .F (off H a)):(Bd.val b as).ok K H0 a H v:=by
 let⟨p,xs,e,o,q,r⟩:=h;let c:off H a p=À (.lst xs):=by rwa[bE (d p o).2]
 show#[p,xs,e,dz.of c,Nf.wk (d p o).1 c,bu (λ_ _ z=>ay f z) r]
def Tv{M:Type}[Py M]{a:M}{D b:Ç->Prop}(h:(Bd.dpo a).Dj K H0 O H D v)(c:∀p,D p->H0 p=none/\¬b p)(f:∀p xs,Rt H p xs->Rt (off H b) p xs):(Bd.val Á a).ok K H0 b H v:=by
 show Py.tr (λp xs q n=>?_) f h;let⟨e,g⟩:=n;let d:off H b p=À (mo xs):=by rwa[bE (c p e).2]
 show#[Mo.of d,(c p e).1,d]
variable{X:Cx}{D:GD}{M β γ:Type}[Py M][Py β][Py γ]{e e1 e2:Ô}{b b1 b2:Bool}{pos:ð}{rest st:List Ï}
def QA(i:Nat)(M:Type)[Py M]{p p2:ð}(g:X.N.Nodup)(h:S X (U.set i (À (.own Á ([]:List M)))) rest D)(hi:X.N[i]?=À x<|>zra)(d:Loc X.env.scope x<|>zrf)
  (b:õ (.List [] p2) (À (.Name x p)) pos.line X.env=pure Â<|>zra) (f:X.fn x=Á\/X.env.scope.names.lookup x=À .local<|>zrf):S X U (.Assign [.Name x p] (.List [] p2) pos::rest) D:=by
 stop
  show eI (dU (tT g hi d (Ap aV) b f) λk Y H ⟨H0,F,O,Z,n,_⟩=>#[ş _,λq a=>by
    let⟨j,c⟩:=Z.zA (i:=i) (v:=.ref q) (dt a (.lst [])) (·=q) (λr e=>by subst e;show#[a,.inl [],bp]) (Bd.own Á ([]:List M)) Ê ⟨q,[],rfl,rfl,bp,.nil⟩
    show n _ _ _ _ c j h])
def rF(i:Nat){as:List M}{a:M}{p ap j:ð}(G:U[i]?=À (À (.own b as)))(he:E X U e b a)(Q: ~~~as<=1000)(h:S X (U.set i (À (.own b (as++[a])))) rest D)(hi:X.N[i]?=À x<|>zra)
  (J:Nm X.env.scope x<|>zre) (W:(x==("__debug__":Ì))=Â<|>zrb) (u:(x==("__classdict__":Ì))=Â<|>zrb)
  (g:ŗ (.Name x p) "append" X.env (Õ (.Name x p) X.env)=Õ (.Name x p) X.env<|>zra)
  (o:((ã j (Ä [e] X.env)).all (λx=>!x.1)&&(backToKw j (keywordEach [] X.env)).all (λx=>x.1.isSome)
   && decide (~~~([e]:List Ô)+~~~([]:List ϰ)+(if ([]:List ϰ).isEmpty then 0 else 1)<30))=Á:=by rfl)
  (d:(ap.endLine==j.line)=Á<|>zra) (C:Ä [e] X.env=(Â,Õ e X.env)::Ä [] X.env<|>zra) (c:(ã j (Ä [] X.env)).any (·.1)=Â<|>zra)
  (B:õ (.Call (.Attribute (.Name x p) "append" ap) [e] [] j) none pos.line X.env=pure Â<|>zra):
  S X U (.Expr (.Call (.Attribute (.Name x p) "append" ap) [e] [] j) pos::rest) D:=by
 stop
  show eI (dU (uZ (Vt PySem.F.plainAttrs_list PySem.F.slot_list_append PySem.F.type_list_append yK (pv i hi J W u) (aC he aV C) g o d C c) B) λDe Y H ⟨H0,F,O,Z,n,_⟩=>by
    let⟨v,Di,l,⟨q,xs,w,K,f,s⟩,_,_⟩:=Z.write G Ê;subst w;show#[.ref q,l,.inl #[rfl,xs,dz.of f],H0,F,O,Z,λy H2 r α=>#[q,xs,y,rfl,rfl,r _ _ f,?_,?_]]
    .rw[bQ s];show cI Q
    .let⟨P,D',k,⟨q',m,I,A,Γ,T⟩,t,wr⟩:=(Z.go r).write G Ê;rw[l] at k;let ev:V.ref q=P:=by injection k with z;injection z
     subst ev;cases I
     let ex:m=xs:=by
      let:=r _ _ f;rw[Γ] at this;cases this;rfl
     subst ex
     let⟨Z',R⟩:=wr q (m++[y]) (À (.own b (as++[a]))) A λL σ=>by
      cases σ;show#[Ê,q,_,rfl,A,bp,?_];rw[oo (t q A).1];show vM T (.cons α .nil)
     show n _ _ _ _ (by rw[R];show ah r) Z' h)
def Gp{g':Bd}(i:Nat)(e:U[i]?=À (À g))(d:g.jc)(l:¬g'.jc)
  (f:∀(H0 H:Hp) (O D a:Ç->Prop) v,g.Dj X.K H0 O H D v->(∀p,D p->H0 p=none/\¬a p)->aH .F (off H a)->(∀p xs,Rt H p xs->Rt (off H a) p xs)->g'.ok X.K H0 a H v)
  (h:S X (U.set i (À g')) st D):S X U st D:=by
 stop
  show lO h λm Y H ⟨H0,F,O,Z,n,r,bk,ct⟩=>by
   let⟨a,j,c⟩:=Z.freeze e d l λk a v=>f H0 H O k a v;show#[H0,F,a,j,λΓ2 σ2 H2 b sm=>n Γ2 σ2 H2 b (c.trans sm),r,λΓ2 σ2 H2 b sm=>bk Γ2 σ2 H2 b (c.trans sm),λΓ2 σ2 H2 b sm=>ct Γ2 σ2 H2 b (c.trans sm)]
def gR(i:Nat){as:List M}(c:U[i]?=À (À (.own b as)))(h:S X (U.set i (À (.val b as))) st D):S X U st D:=by stop show Gp (g':=.val b as) i c Ê (λz=>z) (λH0 H O f g v a d e _=>Iz a d e) h
def Ey(i j:Nat){K:Ã}:GP (OA K 2 (xo (ni i) (xo (ni j) N2))) (M×β) (λb u U=>(U.set i (À (.val b u.1))).set j (À (.val b u.2))) (λk=>k=i\/k=j) K:=λb u H0 F O U Y H v Q Z r q=>by
 let⟨p,g,a,d,sq,e,f⟩:=r;show#[p,_,d,wF (aw _ _) sq,rfl,g,[a],rfl,a,[],rfl,rfl,?_];show q _ ((Z.set e).set f) (by rw[Ŝ,Ŝ]) λk c=>by rw[get_set_ne λz=>c (.inr z),get_set_ne λz=>c (.inl z)]
end
end L2.EP
namespace L2
open PySem PySem.Spec PyProof.Rows
def XI(K : Ã)(a b : Ç) : It :=
  #[λi H=>∃xs ys x y,dz K H a xs/\dz K H b ys/\xs[i]?=À x/\ys[i]?=À y,
   λi H v H'=>∃T x y,H T=none/\v=.ref T/\H'=upd H T (.tup [x,y])/\(∀xs,dz K H a xs->xs[i]?=À x)/\∀ys,dz K H b ys->ys[i]?=À y,
   λi H=>∃xs ys,dz K H a xs/\dz K H b ys/\(~~~xs<=i\/~~~ys<=i)]
def dX{h:Û}{a b:Ç}{o u:ÿ}(e1:h.get? a=À o)(e2:h.get? b=À u)(d:o.cls≠u.cls):a≠b:=λz=>by
 subst z;rw[e1] at e2;cases e2;show d rfl
def yz{h:Û}{z TI TO i l n j:Ç}{p q u v r:Å}{k1 k2:Nat}{xs ys:Array Å}(hz:IsZip h z TI TO p)(b:IsPair h TI q u)(a:IsPair h TO v r)(h1:h.IsListIter i n k1)(h2:h.IsListIter l j k2)
  (m:h.IsList n xs) (k:h.IsList j ys) (o:TI≠TO) (w:i≠l):ZipApart z TI TO i l n j:=by
 let⟨x,c,b1,_⟩:=h1;let⟨A,d,b2,_⟩:=h2;let⟨y,c1,f,_⟩:=m;let⟨p2,c2,g,_⟩:=k;let X:∀{s t:String},s≠t->þ s≠þ t:=λne e=>ne (by injection e)
 show#[dX b hz (X .a),dX a hz (X .a),dX c hz (by rw[b1];show X .a),dX d hz (by rw[b2];show X .a),o,dX b c (by rw[b1];show X .a),dX b d (by rw[b2];show X .a),
  dX a c (by rw[b1];show X .a),dX a d (by rw[b2];show X .a),w,dX c1 hz (by rw[f];show X .a),dX c1 a (by rw[f];show X .a),dX c1 c (by rw[f,b1];show X .a),dX c1 d (by rw[f,b2];show X .a),
  dX c2 hz (by rw[g];show X .a),dX c2 a (by rw[g];show X .a),dX c2 c (by rw[g,b1];show X .a),dX c2 d (by rw[g,b2];show X .a)]
section
variable{X:Cx}{ZB:List (Ç×ÿ)}{Y:St}{H H':Hp}{s:Æ}
def Inv.EB{h':Û}{t':Nat}{ch:List Ç}{T:Ç}{xs:List V}(I:Inv X ZB Y H s)(i:s⁻¹<=T)(k:∀b o,b∉ch->s.heap.get? b=À o->h'.get? b=À o)(th:∀b o,s.heap.get? b=À o->∃o',h'.get? b=À o')(f:∀b∈ch,xM X ZB H b)
  (new:gW X.prog X.w (upd H T (.tup xs)) h' T (.tup xs)):Inv X ZB Y (upd H T (.tup xs)) {s with heap:=h',toks:=t'}:=by
 stop
  let h:H T=none:=I.hok.fresh i;let g:∀b u,H b=À u->b∉ch:=λb u e z=>by rw[(f b z).1] at e;cases e
  show I.step (g':=s.gens) (d':=s.drawn) (ch:=ch) (λb d=>#[(f b d).2.2.2.1,(f b d).2.1,(f b d).2.2.2.2.1,(f b d).2.2.2.2.2]) (λb o _ _ a e _=>k b o a e) (λb o _ _ a e _=>#[o.slots,k b o a e])
   (λb o a e n=>by rwa[aU (Ķ (ř (ē e) i))]) (λb o a e=>#[o,k b o a e]) (λb ys e=>by rwa[aU (bY e h)]) (λb u ys e=>by rwa[aU (bY e h)]) (λb ps e=>#[#[],by rw[aU (bY e h),e];simp]) (λm l=>?_) (λb u e=>?_) I.bare
  .let⟨o,es,ep,j,r⟩:=l;show#[o,es,ep,k _ o (λz=>(f _ z).2.1 rfl) j,r]
  .by_cases d:b=T
   .subst d;rw[bp] at e;cases e;show new
   .rw[aU d] at e;show(I.hok b u e).ye (λc v a q=>k c v ?_ q) (λc z=>?_) λc ys z=>?_
    .obtain z|z:=a
     .rw[z];show g b u e
     .show g c _ z
    .rwa[aU (bY z h)]
    .rwa[aU (bY z h)]
end
def LR{P:Ð}{w:Ø}{K:Ã}{elts:List Ô}{kk:Nat}{tp:ð}(z TI TO j l a b:Ç)(n1:TI≠TO)(n2:j≠l):Turn P w K (.Tuple elts kk tp) (XI K a b) [z,TI,TO,j,l] z
  (λi h=>IsZip h z TI TO .none/\IsPair h TI (.ref j) (.ref l)/\(∃x y,IsPair h TO x y)/\h.IsListIter j a i/\h.IsListIter l b i) where
 mem:=by simp
 obj:=λi h st c α=>by
  let⟨hz,f,⟨x,y,g⟩,h1,h2⟩:=st;let d:c=z\/c=TI\/c=TO\/c=j\/c=l:=by simpa using α
  obtain e|e|e|e|e:=d
  .subst e;show#[_,hz,λv q=>by cases q]
  .subst e;show#[_,f,λv q=>by cases q]
  .subst e;show#[_,g,λv q=>by cases q]
  .subst e;let⟨o,C,J,F⟩:=h1;show#[o,C,λv q=>by rw[F] at q;cases q]
  .subst e;let⟨o,C,J,F⟩:=h2;show#[o,C,λv q=>by rw[F] at q;cases q]
 keep:=λi h h' st k=>by
  let⟨hz,f,⟨x,y,g⟩,h1,h2⟩:=st;show#[k z .c _ hz,k TI .c _ f,#[x,y,k TO .c _ g],h1.at λo e=>k j .c o e,h2.at λo e=>k l .c o e]
 item:=by
  intro X hP hw hK α i ZB s Y H E I A st hg;subst hP hw hK;let⟨xs,ys,x,y,L,N,gx,gy⟩:=hg;let⟨hz,f,⟨wa,wb,g⟩,h1,h2⟩:=st;let⟨ix,rx,px,_⟩:=I.list L;let⟨iy,O,py,_⟩:=I.list N;let D:=yz hz f g h1 h2 px.isList py.isList n1 n2;let⟨u,ux,R⟩:=rx.get gx;let⟨v,vy,vyr⟩:=O.get gy;show wpAny_pyNext_zip_item D hz f g h1 h2 px.isList py.isList ↑ux ↑vy λh' a1 a2 a3 a4 a5 a6 t=>?_;let T:H s⁻¹=none:=I.hok.fresh (Ā _)
  let I1:Inv X ZB Y (upd H s⁻¹ (.tup [x,y])) {s with heap:=h',toks:=s.toks}:=by
   show I.EB (ch:=[z,TO,j,l]) (Ā _) (λc o d e=>t c o (λq=>d (by simp[q])) (λq=>d (by simp[q])) (λq=>d (by simp[q])) (λq=>d (by simp[q])) e) (λc o e=>?_) (λc d=>A c (by simp at d ⊢;obtain q|q|q|q:=d<;>simp[q])) ?_
   .let hlt:=ē e;let:c<h'.objs.size:=by rw[a6];show afi hlt
    by_cases C:c=z
    .subst C;show#[_,a1]
    by_cases J:c=TO
    .subst J;show#[_,a2]
    by_cases F:c=j
    .subst F;let⟨o',q,_⟩:=a3;show#[o',q]
    by_cases q4:c=l
    .subst q4;let⟨o',q,_⟩:=a4;show#[o',q]
    show#[o,t c o C J F q4 e]
   .show#[by change 2<=sizeLine;decide,[u,v],.cons R (.cons vyr .nil),#[_,a5,rfl,_,rfl]]
  show#[_,rfl,?_];let B:=A z .c;show wpAny_letOwnedTupleGo_zip a1 λΓ hz' p=>?_;let zT:z≠s⁻¹:=Ķ (ē hz);let I2:Inv X ZB Y (upd H s⁻¹ (.tup [x,y])) {({s with heap:=h',toks:=s.toks}:Æ) with heap:=Γ,toks:=s.toks}:=I1.turned (λc o d e=>p.extBut c o d e) (by rw[aU zT];show B.1) B.2.1 B.2.2.2.1 B.2.2.2.2.1 B.2.2.2.2.2;show#[.ref s⁻¹,upd H s⁻¹ (.tup [x,y]),I2,rfl,#[s⁻¹,x,y,T,rfl,rfl,λxs' S=>?_,λys' sy'=>?_],#[hz',p.extBut _ _ D.TIz (t _ _ D.TIz D.TITO D.TIi1 D.TIi2 f),#[_,_,p.extBut _ _ D.TOz a2],a3.extBut p.extBut D.i1z,a4.extBut p.extBut D.i2z],λc d=>?_]
  .rwa[I.qU S L]
  .rwa[I.qU sy' N]
  .let Q:c<s⁻¹:=by
    let hc2:c=z\/c=TI\/c=TO\/c=j\/c=l:=by simpa using d
    obtain e|e|e|e|e:=hc2
    .subst e;show ē hz
    .subst e;show ē f
    .subst e;show ē g
    .subst e;let⟨_,q,_⟩:=h1;show ē q
    .subst e;let⟨_,q,_⟩:=h2;show ē q
   rw[aU (Ķ Q)];show(A c d).1
 done:=by
  intro X hP hw hK α i ZB s Y H E I A st hg;subst hP hw hK;let⟨xs,ys,L,N,G⟩:=hg;let⟨hz,f,⟨wa,wb,g⟩,h1,h2⟩:=st;let⟨ix,rx,px,_⟩:=I.list L;let⟨iy,O,py,_⟩:=I.list N;let D:=yz hz f g h1 h2 px.isList py.isList n1 n2;show wpAny_pyNext_zip_end (I.ok.hd α) D hz f g h1 h2 px.isList py.isList ?_ λh' t=>#[rfl,?_]
  .obtain q|q:=G
   .left;simp[<-~~~rx];lia
   .right;simp[<-~~~O];lia
  .let B:=A z .c;let fo:=A TO .c;let f1:=A j .c;let f2:=A l .c
   show I.step (g':=s.gens) (d':=s.drawn) (t':=s.toks) (ch:=[z,TO,j,l]) (λb hb=>?_) (λb o _ _ d e _=>t b o (λq=>d (by simp[q])) (λq=>d (by simp[q])) (λq=>d (by simp[q])) (λq=>d (by simp[q])) e) (λb o _ _ d e _=>#[o.slots,t b o (λq=>d (by simp[q])) (λq=>d (by simp[q])) (λq=>d (by simp[q])) (λq=>d (by simp[q])) e]) (λ_ _ _ _ n=>n)
    (λb o d e=>#[o,t b o (λq=>d (by simp[q])) (λq=>d (by simp[q])) (λq=>d (by simp[q])) (λq=>d (by simp[q])) e]) (λ_ _ e=>e) (λ_ _ _ e=>e) (λb ps e=>#[#[],by rw[e];simp]) (λm hm=>?_) (λb u e=>?_) I.bare
   .let q:=A b (by simp at hb ⊢;obtain q|q|q|q:=hb<;>simp[q]);show#[q.2.2.2.1,q.2.1,q.2.2.2.2.1,q.2.2.2.2.2]
   .let⟨o,es,ep,ho,r⟩:=hm;show#[o,es,ep,t _ o (œ B.2.1) (œ fo.2.1) (œ f1.2.1) (œ f2.2.1) ho,r]
   .let nn:∀c v,H c=À v->c≠z/\c≠TO/\c≠j/\c≠l:=λc v e=>#[(λq=>by(rw[q,B.1] at e;cases e)),(λq=>by(rw[q,fo.1] at e;cases e)),(λq=>by(rw[q,f1.1] at e;cases e)),(λq=>by(rw[q,f2.1] at e;cases e))];show(I.hok b u e).ye (λc v d q=>?_) (λ_ q=>q) λ_ _ q=>q;let:=nn c;obtain e'|e':=d
    .subst e';let⟨w1,Z,σ,V⟩:=nn c _ e;show t c v w1 Z σ V q
    .let⟨w1,Z,σ,V⟩:=nn c _ e';show t c v w1 Z σ V q
 self:=λ_ _ _ _ _ st h=>wpAny_pyIter_zip st.1 h
section
variable{X:Cx}{elts:List Ô}{kk:Nat}{tp:ð}
def Xx(K:Ã)(ta:TA):TI:=λY H R=>ta Y H λvs H1=>∃a b,vs=[.ref a,.ref b]/\(∃xs,dz K H1 a xs)/\(∃ys,dz K H1 b ys)/\R (XI K a b) H1
def Q7{e1 e2:Ô}{ta:TA}{p pos:ð}(k:Gl X "zip")(r:X.mg "zip"=none)(ha:PA X [e1,e2] ta)(he:Ä [e1,e2] X.env=(Â,Õ e1 X.env)::Ä [e2] X.env<|>zra)
  (hpl:(ã pos (Ä [e2] X.env)).any (·.1)=Â<|>zra):PI X (.Tuple elts kk tp) (.Call (.Name "zip" p) [e1,e2] [] pos) (Xx X.K ta):=by
 intro ZB s Y H R I h;show Call_ (je I k r PyProof.Rows.boot_zip (afm (cK (ha pos ZB s Y H _ I h) λus d ⟨vs,H1,g,z,n⟩=>?_) he hpl));let⟨a,b,e,⟨xs,v⟩,⟨ys,A⟩,q⟩:=n;subst e;let⟨u,F,rfl,t,x⟩:=vals2 z;cases t;cases x;let⟨C,J,px,_⟩:=g.list v;let⟨G,D,py,_⟩:=g.list A;show call_zip_2 px.isList py.isList λh' j o B w m E l=>?_;let y:Inv X ZB Y H1 {d with heap:=h',toks:=d.toks}:=g.kept l;show wpAny_pyIter_zip (s:={d with heap:=h'}) j ?_;show#[d⁻¹+4,[d⁻¹+4,d⁻¹+2,d⁻¹+3,d⁻¹,d⁻¹+1],_,XI X.K a b,H1,rfl,y,LR (d⁻¹+4) (d⁻¹+2) (d⁻¹+3) d⁻¹ (d⁻¹+1) a b (Ķ (af2 _)) (Ķ (af2 _)),#[j,o,#[_,_,B],w,m],λc i=>?_,q]
 let f:d⁻¹<=c:=by
  simp at i;obtain e|e|e|e|e:=i<;>subst e<;>lia
 show g.GN f (g.hok.fresh f)
end
end L2
namespace L2.EP
open PySem PySem.Spec PyProof.Rows
section
variable{X:Cx}{U:aI}{M β:Type}[Py M][Py β]{e1 e2:Ô}{b1 b2:Bool}{elts:List Ô}{kk:Nat}{tp p ps:ð}
def AW{xs:List M}{ys:List β}(Q:Gl X "zip")(S:X.mg "zip"=none)(h1:E X U e1 b1 xs)(h2:E X U e2 b2 ys)(d:Ä [e1,e2] X.env=(Â,Õ e1 X.env)::Ä [e2] X.env<|>zra)(r:Ä [e2] X.env=(Â,Õ e2 X.env)::Ä [] X.env<|>zra)
  (hpl:(ã ps (Ä [e2] X.env)).any (·.1)=Â<|>zra):EI X U (.Tuple elts kk tp) (.Call (.Name "zip" p) [e1,e2] [] ps) (b1&&b2) (xs.zip ys):=by
 stop
  show#[_,Q7 Q S (aC h1 (aC h2 aV r) d) d hpl,λY H H0 F O R Z q=>#[H0,F,O,Z,λv H1 t W=>#[H0,F,O,Z.go t,λw H2 o D=>by
    let⟨a,j,ea,K,na,B⟩:=W;let⟨c,h,ec,m,nc,rc⟩:=D;let b:=(ah (O:=O) o).seq K;show#[a,c,by rw[ea,ec],#[j,(aw _ _).seq b],#[h,(aw _ _).seq m],q _ H2 (t.trans o) λH' J k sm=>#[λi u Γ=>?_,?_]]
    .let⟨L,σ⟩:=afN.mp Γ;let⟨x,C,α⟩:=iX B L;let⟨y,A,G⟩:=iX rc σ;let f:=(aw _ _).seq (sm.seq b);let e:=(aw _ _).seq (sm.seq m);show#[#[j,h,x,y,f,e,C,A],λv' I P=>?_];let⟨T,x',y',g,rfl,rfl,N,V⟩:=P;let ex:=N j f;let s:=V h e;rw[C] at ex;cases ex;rw[A] at s;cases s
     let l:¬J T:=λz=>by
      let⟨zs,w⟩:=k T z;rw[g] at w;cases w
     show#[dt g _,T,x,y,rfl,.inl (by rw[bE l];show bp),?_,?_]
     .show aT (λ_ _ n=>F2 n) (ay ((ah o).trans (sm.trans (ah (dt g _)))) α)
     .show aT (λ_ _ n=>Fg n) (ay (sm.trans (ah (dt g _))) G)
    .show#[j,h,(aw _ _).seq (sm.seq b),(aw _ _).seq (sm.seq m),?_];rw[bQ B,bQ rc,agC]
     lia]]]
def JO{Ze:Ć}{tn:List Ì}{js:List Nat}{C:Ç}{s:Æ}{H:Hp}{fp:List Ç}{x y:Ì}{e p2 c:ð}{k:Nat}(i j:Nat)(N:List Ì)(g:X.calm=Á<|>zra)(h:cN X tn js=N<|>zra)(b:N.Nodup<|>zrh)(hi:N[i]?=À x<|>zra)(d:N[j]?=À y<|>zra)
  (f:Ze.names.lookup x=À .local\/Ze.names.lookup x=À .cell<|>zrf) (a:Ze.names.lookup y=À .local\/Ze.names.lookup y=À .cell<|>zrf):
  PG .H (.Tuple [.Name x e,.Name y p2] k c) (OA X.K 2 (xo (ni i) (xo (ni j) N2))) :=
 Eo (X:=gQ X (cN X tn js) Ze C s H fp) g (kF (cE i N h b hi f) (kF (cE j N h b d a) zr))
def yp{i j n:Nat}(h:i<n<|>zrb)(h2:j<n<|>zrb):∀k,k=i\/k=j->k<n:=λk e=>by obtain e|e:=e<;>rw[e]<;>assumption
end
class PyT(β:Type)[Py β]:Prop where
 free:∀{K:Ã} {N N':Nn} {H H':Hp} {v:V} {b:β},(∀p xs,Rt H p xs->Rt H' p xs)->Py.rp K N H v b->Py.rp K N' H' v b
 nl:∀{K:Ã} {N:Nn} {H:Hp} {q:Ç} {b:β} {xs:List V},Py.rp K N H (.ref q) b->H q=À (.lst xs)->False
noncomputable instance:PyT Int where
 free _ h:=h
 nl h _:=nomatch h
noncomputable instance{M β:Type}[Py M][Py β][PyT M][PyT β]:PyT (M×β) where
 free t h:=by
  let⟨p,x,y,e,s,h1,h2⟩:=h;show#[p,x,y,e,t _ _ s,PyT.free t h1,PyT.free t h2]
 nl h e:=by
  let⟨p,x,y,a,s,h1,h2⟩:=h;cases a;obtain s|⟨o,s⟩:=s
  .rw[e] at s;cases s
  .rw[e] at s;cases s
def tN{M:Type}[Py M](K:Ã)(U:aI)(a:M):TE:=λY H Q=>∃H0 F O,e9 K H0 F O U Y H/\∀v H',aH H H'->Py.rp K (.new H) (off H' O) v a->Q v H'
@[irreducible] def EN{M:Type}[Py M](X:Cx)(U:aI)(e:Ô)(a:M):Prop:=PE X e (tN X.K U a)
def kc{M:Type}[Py M]{K:Ã}{H H1 b:Hp}{v:V}{a:M}(s:aH H H1)(h:Py.rp K (.new H1) b v a):Py.rp K (.new H) b v a:=aT (N:=.new H1) (N':=.new H) (λ_ _ n=>#[s.free n.1,n.2]) h
section
variable{X:Cx}{U:aI}{D:GD}{M β γ:Type}[Py M][Py β][Py γ]{e e1 e2:Ô}{b b1 b2:Bool}{pos p:ð}{rest st:List Ï}{k:Nat}{name:Ì}{ps:List Ì}
def Jw{pre:M->Prop}{f:M->β}{a:M}(C:aE X.prog X.w X.K X.mg X.base k name ps (bU X.K pre Á f))(h:c7 zkk X.A)(h1:E X U e1 b1 a)(hp:pre a)
  (b:Ä [e1] X.env=(Â,Õ e1 X.env)::Ä [] X.env<|>zra) (c:(name==("__debug__":Ì))=Â<|>zrb) (hpl:(ã pos (Ä [] X.env)).any (·.1)=Â<|>zra)(kzz:k<=zkk<|>zrb)(e:Gl X name<|>zra):
  EN X U (.Call (.Name name p) [e1] [] pos) (f a):=by
 stop
  let⟨j,fd,F,B,kp,m⟩:=C.ex
  show aJ (d9 F (h.mono kzz) e m kp B .nil jD (aC h1 aV b) c b hpl) λY H Q ⟨H0,F,O,S,q⟩=>#[H0,F,O,S,λi H1 d g =>
   #[O,i,a,(S.go d).own,rfl,aT aR g,hp,λr H' s' z=>q r H' (d.trans s') (kc d z)]]
def BL{pre:M->β->Prop}{f:M->β->γ}{a:M}{c:β}(C:aE X.prog X.w X.K X.mg X.base k name ps (bL X.K pre Á f))(o:c7 zkk X.A)(h1:E X U e1 b1 a)(h2:E X U e2 b2 c)(hp:pre a c)
  (b:Ä [e1,e2] X.env=(Â,Õ e1 X.env)::Ä [e2] X.env<|>zra) (h:Ä [e2] X.env=(Â,Õ e2 X.env)::Ä [] X.env<|>zra) (g:(name==("__debug__":Ì))=Â<|>zrb) (hpl:(ã pos (Ä [e2] X.env)).any (·.1)=Â<|>zra)(kzz:k<=zkk<|>zrb)(j:Gl X name<|>zra):
  EN X U (.Call (.Name name p) [e1,e2] [] pos) (f a c):=by
 stop
  let⟨t,fd,F,B,kp,m⟩:=C.ex
  show aJ (d9 F (o.mono kzz) j m kp B .nil jD (aC h1 (aC h2 aV h) b) g b hpl) λY H Q ⟨H0,F,O,S,q⟩=>#[H0,F,O,S,λs H1 e n=>#[H0,F,O,S.go e,λi H2 d l =>
   #[O,s,i,a,c,(S.go (e.trans d)).own,rfl,aT aR (ay (ah d) n),aT aR l,hp,λr H' s' z=>q r H' (e.trans (d.trans s')) (kc (e.trans d) z)]]]
def zM(i:Nat){x:Ì}{a:M}{p:ð}(j:X.N.Nodup)(he:EN X U e a)(h:S X (U.set i (À (.dpo a))) rest D)(hi:X.N[i]?=À x<|>zra)(f:Loc X.env.scope x<|>zrf)
  (b:õ e (À (.Name x p)) pos.line X.env=pure Â<|>zra) (g:X.fn x=Á\/X.env.scope.names.lookup x=À .local<|>zrf):S X U (.Assign [.Name x p] e pos::rest) D:=by
 stop
  show eI (dU (tT j hi f he b g) λm Y H ⟨H0,F,O,Z,n,_⟩=>#[H0,F,O,Z,λv H1 d k=>by
    let⟨l,c⟩:=Z.zA (i:=i) (v:=v) d (λq=>H q=none/\∃xs:Mt,H1 q=À (mo xs)) (λq z=>z) (Bd.dpo a) Ê (by
     show Py.tr (λq xs sq nn=>?_) (λq xs sq=>aH.rt (aw _ _) sq) k;let:=(aw _ _) _ _ nn.2
     show⟨Mo.of this,⟨nn.1,xs,this⟩,this⟩)
    show n _ _ _ _ c l h])
variable{b':Bool}
def E.up[PyT M]{a:M}(h:E X U e b a):E X U e b' a:=by stop show aJ h λY H Q ⟨H0,F,O,S,q⟩=>#[H0,F,O,S,λv H' s r=>q v H' s (PyT.free (λ_ _ z=>z) r)]
def dY[PyT M]{a:M}(h:E X U e b a):E X U e b' a:=by stop show E.up h
def jx[PyT M]{xs:List M}{p:ð}(h:Gl X "list")(j:X.mg "list"=none)(ha:E X U e b xs)(c:Ä [e] X.env=(Â,Õ e X.env)::Ä [] X.env<|>zra):E X U (.Call (.Name "list" p) [e] [] pos) Á xs:=by
 stop
  show aJ (tO k7 h j agF (aC ha aV c) (he:=c)) λY H Q ⟨H0,F,O,S,q⟩=>#[H0,F,O,S,λv H1 a i=>by
    let⟨p,vs,e,sq,n,r⟩:=i;show#[p,vs,by rw[e],.inl ((aw _ _).seq sq),λl g=>?_];let⟨d,f⟩:=cV (xs:=vs) (S.go a) g
    show q _ _ (a.trans d) #[l,vs,rfl,dz.of f,Nf.wk ((S.go a).ik g) f,bu (λ_ _ z=>PyT.free (λ_ _ t=>aH.rt (ah d) t) z) r]]
end
def kQ{M β:Type}{g:β->M->β}{z:β}{us:List M}{i:Nat}{a:M}(h:us[i]?=À a):(us.take (i+1)).foldl g z=g ((us.take i).foldl g z) a:=by
 rw[ae7,h,ahZ];rfl
end L2.EP
namespace Q
variable{p k b a r d m x l e q s c y A f B u g v:Int}{L:.L}{n i:Nat}
def qp(a b:Int):È b (a.fmod b)=È a b:=by
 rw[Int.fmod_def,agu a b];show Int.gcd_sub_mul_left_right ..
def FH(a b:Int)(c:b≠0):(a.fmod b).natAbs<b.natAbs:=by
 obtain h|h:=Ε c
 .let e:=Int.neg_fmod_neg a b;let h':.N < -b:=by omega
  let h1:=ahh (-a) h';let h2:=ahP (-a) h';omega
 .let h1:=ahh a h;let h2:=ahP a h;omega
def fd(t b:Int):Int:=if b<0 then -(È t b:Int) else (È t b:Int)
def fr(t b:Int):Int×Int:=(t.fdiv (fd t b),b.fdiv (fd t b))
def yF{t:Int}(a:b≠0):fd t b≠0:=by
 let h:È t b≠0:=by
  intro h;rw[agY] at h;show a h.2
 unfold fd;split<;>lia
def Cq(t b:Int):fd t b∣t:=by
 unfold fd;split
 .show(Int.neg_dvd).mpr (Ϻ ..)
 .show Ϻ ..
def Ah(t b:Int):fd t b∣b:=by
 unfold fd;split
 .show(Int.neg_dvd).mpr (ϻ ..)
 .show ϻ ..
def By(h:d∣a):d*a.fdiv d=a:=by
 let e:=Int.mul_fdiv_cancel' h;show e
def AH(t b:Int):fd t b*(fr t b).1=t:=By (Cq t b)
def wz(t b:Int):fd t b*(fr t b).2=b:=By (Ah t b)
def eK(t b:Int):(fr t b).1*b=t*(fr t b).2:=by
 let h1:=AH t b;let h2:=wz t b;generalize (fr t b).1=x at *;generalize (fr t b).2=y at *;generalize fd t b=d at *;subst h1;subst h2;rw[<-ĵ,ī x d]
def og{t:Int}(f:b≠0):1<=(fr t b).2:=by
 let h2:=wz t b;let c:=yF (t:=t) f
 let e:fd t b<0↔b<0:=by
  unfold fd;let:0<=(È t b:Int):=ϱ _;unfold fd at c;split<;>split at c<;>lia
 generalize (fr t b).2=y at *;generalize fd t b=d at *;apply Int.not_lt.mp;intro g;let a:y<=0:=.b
 obtain h|h:=Ε c
 .let:=afB (afT h) a;let:=e.mp h;lia
 .let:=ϵ (afT h) a;let:¬b<0:=λq=>by let:=e.mpr q;lia
  lia
def L9(t b:Int):(fd t b).natAbs=È t b:=by
 unfold fd;split<;>lia
def pE{t:Int}(d:b≠0):È (fr t b).1 (fr t b).2=1:=by
 let h1:=AH t b;let h2:=wz t b;let g:=yF (t:=t) d;let c:=L9 t b;let e:È (fd t b*(fr t b).1) (fd t b*(fr t b).2)=(fd t b).natAbs*È (fr t b).1 (fr t b).2:=Int.gcd_mul_left ..;rw[h1,h2,c] at e;let f:0<È t b:=.b
 let a:È t b*1=È t b*È (fr t b).1 (fr t b).2:=.b
 show(Nat.eq_of_mul_eq_mul_left f a).symm
def Sk{t:Int}(c:1<=b)(a:È t b=1):fr t b=(t,b):=by
 let e:fd t b=1:=by unfold fd;rw[a,adF .b];rfl
 delta fr;rw[e,ah7,ah7]
def rS{t:Int}(a:b≠0):(fr t b).1.natAbs<=t.natAbs:=by
 let h1:=AH t b;let c:=yF (t:=t) a;let h:t.natAbs=(fd t b).natAbs*(fr t b).1.natAbs:=by rw[<-ń,h1]
 rw[h];show afG _ .b
def uY{t:Int}(a:b≠0):(fr t b).2.natAbs<=b.natAbs:=by
 let h1:=wz t b;let c:=yF (t:=t) a;let h:b.natAbs=(fd t b).natAbs*(fr t b).2.natAbs:=by rw[<-ń,h1]
 rw[h];show afG _ .b
def VD{t:Int}(a:b≠0):(fd t b).natAbs<=b.natAbs:=by
 rw[L9];show agU .b (aet.mpr (ϻ t b))
def nO(h:a∣b*c)(g:È a b=1):a∣c:=by
 let h':a.natAbs∣b.natAbs*c.natAbs:=by rw[<-ń];show aet.mpr h
 show aet.mp (Nat.Coprime.dvd_of_dvd_mul_left (show τ a.natAbs b.natAbs from g) h')
def HX{t:Int}(c:b≠0)(m:1<=y)(j:È x y=1)(h:x*b=t*y):fr t b=(x,y):=by
 let h1:=AH t b;let h2:=wz t b;let hp:=og (t:=t) c;let a:=pE (t:=t) c;let n:=eK t b;let g:=yF (t:=t) c;generalize f:(fr t b).1=u at *;generalize i:(fr t b).2=v at *;generalize fd t b=d at *;subst h1;subst h2
 let he:x*v=u*y:=by
  let:d*(x*v)=d*(u*y):=by
   rw[<-ĵ,<-ĵ,ī d x,ĵ,h]
  show afO g this
 -- v∣u*y,gcd u v=1->v∣y ;y∣x*v->y∣v
 let k:v∣y:=by
  let:v∣u*y:=#[x,by rw[<-he,ī]];show nO this (by rwa[agu])
 let l:y∣v:=by
  let:y∣x*v:=#[u,by rw[he,ī]];show nO this (by rwa[agu])
 let e:v=y:=Int.dvd_antisymm .b .b k l
 let e2:x=u:=by
  rw[e] at he;show afH .b he
 apply ahI
 .rw[f,e2]
 .rw[i,e]
def uJ(u v:Int×Int):Int×Int:=fr (u.1*v.2+v.1*u.2) (u.2*v.2)
def bZ(u v:Int×Int):Int×Int:=fr (u.1*v.1) (u.2*v.2)
def rY(u:Int×Int):Prop:=1<=u.2/\È u.1 u.2=1
def vh{t:Int}(a:b≠0):rY (fr t b):=#[og a,pE a]
def rY.ne{u:Int×Int}(h:rY u):u.2≠0:=by let:=h.1;lia
def UW{t:Int}{u:Int×Int}(a:b≠0)(h:rY u)(e:u.1*b=t*u.2):fr t b=u:=HX (x:=u.1) (y:=u.2) a h.1 h.2 e
abbrev Fr:=Int×Int
def A9(n:Nat):.L:=(Ö n).map λi:Nat=>(i:Int)
def AL(n:Nat): ~~~(A9 n)=n:=by delta A9;simp
def mw(us:List Fr):Int:=us.foldl (λb u=>(b*u.2).fdiv (È b u.2:Nat)) 1
def IX(l:1<=b)(o:1<=c):1<=(b*c).fdiv (È b c:Nat)/\b∣(b*c).fdiv (È b c:Nat)/\c∣(b*c).fdiv (È b c:Nat)/\(b*c).fdiv (È b c:Nat)<=b*c:=by
 let n:0<È b c:=by
  obtain h|h:=ag5 (È b c)
  .rw[agY] at h;lia
  .show h
 let m:((È b c:Nat):Int)∣b:=Ϻ ..;let j:((È b c:Nat):Int)∣c:=ϻ ..;generalize È b c=g at *;let⟨x,k⟩:=m;let⟨y,d⟩:=j
 let e:(b*c).fdiv (g:Int)=b*y:=by
  rw[d,<-ĵ,ī b (g:Int),ĵ];rw[aeL _ .b]
 let a:.M<=g:=.b
 let i:1<=x:=by
  apply Int.not_lt.mp;intro h;let:(g:Int)*x<=0:=ϵ .b .b;lia
 let f:1<=y:=by
  apply Int.not_lt.mp;intro h;let:(g:Int)*y<=0:=ϵ .b .b;lia
 rw[e];show#[?_,#[y,rfl],#[x,?_],?_]
 .let:=Ű l f .b .b;simpa using this
 .rw[k,d];grind
 .show Ł ?_ .b;rw[d];let:=aeu a (.b:0<=y);simpa using this
def BD(us:List Fr):.L×Int:=(us.map λu=>u.1*(mw us).fdiv u.2,mw us)
def OZ(xs ys:.L):Int:=((xs.zip ys).map λp=>p.1*p.2).sum
def P_(a b:.L×Int):Fr:=fr (OZ a.1 b.1) (a.2*b.2)
def Vo:rY (0,1):=#[.a,.a]
def oJ{u v:Fr}(a:rY u)(b:rY v):rY (bZ u v):=vh (ë a.ne b.ne)
def oO{M β:Type}{xs:List M}{ys:List β}{p:M×β}(h:p∈xs.zip ys):p.1∈xs/\p.2∈ys:=ahu (a:=p.1) (b:=p.2) h
abbrev Tb:=List (List Fr)
def wN(T:Tb)(j:Int):List Fr:=T.map λr=>r.getD ↥j (0,1)
def GZ(T:Tb):Tb:=(A9 (~~~T)).map (wN T)
def K0(A B:Tb):Tb:=A.map λr=>((GZ B).map BD).map (P_ (BD r))
structure Sq(n:Nat)(T:Tb):Prop where
 len: ~~~T=n
 row:∀r∈T,~~~r=n
 low:∀r∈T,∀u∈r,rY u
def getD_mem{M:Type}{l:List M}{d:M}(h:i<~~~l):l.getD i d∈l:=by
 rw[ĩ,į h];show agv h
def Sq.col{T:Tb}(h:Sq n T){j:Int}(d:0<=j)(c:j<n): ~~~(wN T j)=n/\∀u∈wN T j,rY u:=by
 show#[by unfold wN;rw[ċ];show h.len,λu a=>?_];unfold wN at a;let⟨r,b,e⟩:=adX.mp a;subst e;show h.low r b _ (getD_mem (by rw[h.row r b];lia))
def zW{j:Int}(h:j∈A9 n):0<=j/\j<n:=by
 delta A9 at h;let⟨i,hi,e⟩:=adX.mp h;let:=aeY.mp hi;lia
theorem Sq.GZ{n:Nat}{T:Tb}(h:Sq n T):Sq n (GZ T):=by
 show#[by delta Q.GZ;rw[ċ,AL];show h.len,λr c=>?_,λr c=>?_]
 .let⟨j,b,e⟩:=adX.mp c;let⟨d,a⟩:=zW b;rw[h.len] at a;subst e;show(h.col d a).1
 .let⟨j,b,e⟩:=adX.mp c;let⟨d,a⟩:=zW b;rw[h.len] at a;subst e;show(h.col d a).2
def R6(n:Nat)(i:Int):List Fr:=(A9 n).map λj=>if j=i then (1,1) else (0,1)
def HQ(n:Nat):Tb:=(A9 n).map λi=>R6 n i
def M_(n:Nat)(i:Int): ~~~(R6 n i)=n:=by delta R6;rw[ċ,AL]
def Vz:rY (1,1):=#[.a,.a]
def C4(n:Nat):Sq n (HQ n):=by
 show#[by delta HQ;rw[ċ,AL],λr a=>?_,λr a u b=>?_]
 .let⟨i,_,e⟩:=adX.mp a;subst e;show M_ n i
 .let⟨i,_,e⟩:=adX.mp a;subst e;let⟨j,_,e⟩:=adX.mp b;subst e;split
  .show Vz
  .show Vo
def tR{M:Type}{P:M->Prop}(c:∀a b,P a->P b->a=b){a:M}(h:P a):a=@ú M #[a] P :=
 c _ _ h (@Classical.epsilon_spec M P #[a,h])
noncomputable def AM:Nat->Nat
 |0=>0
 |n+1=>if (AM n+1)*(AM n+1)<=n+1 then AM n+1 else AM n
theorem Mz:∀n,AM n*AM n<=n:=zrN (Ā _) λn Mz=>by
  let:=Mz;unfold AM;split<;>lia
theorem JK:∀n,n<(AM n+1)*(AM n+1):=zrN (by decide) λn JK=>by
  let h:=JK;unfold AM;split
  .let:(AM n+1)*(AM n+1)<(AM n+1+1)*(AM n+1+1):=Nat.mul_lt_mul'' .b .b;lia
  .lia
def rt(k:Int):Int:=(AM ↥k:Int)
def iL(k:Int):0<=rt k:=by delta rt;lia
def E3(h:0<=k):rt k*rt k<=k:=by
 let:=Mz ↥k;delta rt;let e:((AM ↥k*AM ↥k:Nat):Int)<=((↥k:Nat):Int):=.b
 rw[ϴ] at e;lia
def PX(h:0<=k):k<(rt k+1)*(rt k+1):=by
 let:=JK ↥k;delta rt;let e:((↥k:Nat):Int)<(((AM ↥k+1)*(AM ↥k+1):Nat):Int):=.b
 rw[ϴ] at e;simp only[Int.natCast_add,Int.natCast_one] at e;lia
def Fc(d:0<=a)(h:a*a<b*b)(c:0<=b):a<b:=by
 apply ğ;intro e;let:b*b<=a*a:=Ű .b .b c d;lia
def Ma(c:0<=a)(h:a<=b):a*a<=b*b:=Ű h h c .b
def d_(d:0<=r)(h1:r*r<=k)(h2:k<(r+1)*(r+1)):r=rt k:=by
 let e:0<=k:=ah8 (Ϝ d d) h1;let a:=E3 e;let b:=PX e;let c:=iL k;let:=Fc d (.b:r*r<(rt k+1)*(rt k+1)) .b;let:=Fc c (.b:rt k*rt k<(r+1)*(r+1)) .b;lia
def BO(h:0<=k)(a:0<=d):d<rt k+1↔d*d<=k:=by
 constructor
 .intro z;show ah8 (Ma a .b) (E3 h)
 .intro z;show Fc a (by let:=PX h;lia) (by let:=iL k;lia)
def Kl(b:0<=k)(a:0<r)(h:k<r*r):0<=(r+k.fdiv r).fdiv 2/\(r+k.fdiv r).fdiv 2<r/\k<((r+k.fdiv r).fdiv 2+1)*((r+k.fdiv r).fdiv 2+1):=by
 rw[aeU k .b,aeU _ .a];let e:=Int.mul_ediv_add_emod k r;let o:=ŭ k (.b:r≠0);let d:=Ů k a;let i:0<=k/r:=ag0 b .b;let f:k/r<r:=ais a h;generalize k/r=q at *;generalize k%r=m at *;let l:2*((r+q)/2)<=r+q:=.b
 let c:r+q+1<=2*((r+q)/2)+2:=.b
 show#[.b,.b,?_];generalize (r+q)/2=n at *;let j:(r+q+1)*(r+q+1)<=(2*n+2)*(2*n+2):=Ma .b c
 let g:0<=(r-(q+1))*(r-(q+1)):=by
  obtain z|z:=ahy 0 (r-(q+1))
  .show Ϝ z z
  .show afB z z
 grind
def zU(k:Int):Prop:=∀d:Int,3<=d->d*d<=k->d%2=1->¬d∣k
open Classical in
def aN(k:Int):Bool:=decide (k=2\/(3<=k/\k%2=1/\zU k))
open Classical in
def cQ:aN k=Á↔k=2\/(3<=k/\k%2=1/\zU k):=by delta aN;show afe
def au(h:aN k=Á):2<=k:=by obtain h|h:=cQ.mp h<;>lia
noncomputable def yR(n:Nat)(m:Nat):Bool:=@Nat.rec (λ_=>Bool) Á (λi a=>cond (Nat.beq (n%(2*i+3)) 0) Â a) m
theorem BI{n:Nat}:∀{m:Nat},yR n m=Á->∀i,i<m->n%(2*i+3)≠0:=@zrN _ (@λ_ i hi=>absurd hi (ag1 _)) @λm BI h i hi=>by
  let h':cond (Nat.beq (n%(2*m+3)) 0) Â (yR n m)=Á:=h;cases a:Nat.beq (n%(2*m+3)) 0 with
  |true=>rw[a] at h';cases h'
  |false =>
   rw[a] at h';obtain z|z:=ah9.mp hi
   .show BI h' i z
   .subst z;intro e;rw[e] at a;cases a
def Dz{m:Nat}(h:yR n m=Á)(k:n<(2*m+3)*(2*m+3)):zU (n:Int):=by
 intro d l f j a
 let g:d<(2*m+3:Int):=Fc .b (by
  let:(n:Int)<(((2*m+3)*(2*m+3):Nat):Int):=.b
  rw[ϴ] at this;simp only[Int.natCast_add,ϴ] at this
  show Int.lt_of_le_of_lt f this) .b
 let z:=BI h ((↥d-3)/2) .b;let e:2*((↥d-3)/2)+3=↥d:=.b
 rw[e] at z;let⟨c,i⟩:=a;apply z
 let b:↥d∣n:=by
  let:(↥d:Int)∣(n:Int):=#[c,by rw[i];congr 1;lia];show Int.natCast_dvd_natCast.mp this
 show ahi b
def jF{m:Nat}(h:yR n m=Á)(b:3<=n)(c:n%2=1)(a:n<(2*m+3)*(2*m+3)):aN (n:Int)=Á :=
 cQ.mpr (.inr #[.b,.b,Dz h a])
def PB:Int:=1070000011
def xh:aN PB=Á:=jF (n:=1070000011) (m:=16384) .d .a .a .a
def Qc:Nat->Int->Int
 |0,k=>k
 |n+1,k=>if aN k then k else Qc n (k+2)
def pf(k:Int):Int:=if k<3 then 2 else Qc 1073741824 (k+1-k%2)
theorem v9:∀(n:Nat) (k p:Int),aN p=Á->k<=p->(p-k)%2=0->p-k<=2*n->aN (Qc n k)=Á/\k<=Qc n k/\Qc n k<=p/\(Qc n k-k)%2=0:=zrN (λk p hp h1 h2 f=>by
  let:k=p:=.b
  subst this;show#[hp,Ņ _,Ņ _,by unfold Qc;lia]) λn v9 k p hp h1 h2 f=>by
  unfold Qc;split
  .rename_i h;show#[h,Ņ _,h1,.b]
  .rename_i h;let e:k≠p:=by rintro rfl;show h hp
   let⟨a,b,c,d⟩:=v9 (k+2) p hp .b .b .b;show#[a,.b,c,.b]
def bA:aN 2=Á:=cQ.mpr (.inl rfl)
def qf(h:k<=PB):aN (pf k)=Á:=by
 delta pf;split
 .show bA
 .show(v9 _ _ PB xh (by delta PB at *;lia) (by delta PB at *;lia) (by delta PB at *;lia)).1
def V3(h:k<=PB):pf k<=PB:=by
 delta pf;split
 .decide
 .show(v9 _ _ PB xh (by delta PB at *;lia) (by delta PB at *;lia) (by delta PB at *;lia)).2.2.1
def rM(hp:aN p=Á)(h:k<=p)(c:p%2=1)(b:p<=PB)(a:3<=k):pf k<=p:=by
 delta pf;rw[adF .b];show(v9 _ _ p hp .b .b (by delta PB at *;lia)).2.2.1
def AY(h:k<=PB)(e:3<=k):pf k%2=1/\k<=pf k:=by
 delta pf;rw[adF .f];let⟨a,b,c,d⟩:=v9 1073741824 (k+1-k%2) PB xh (by delta PB at *;omega) (by delta PB at *;omega) (by delta PB at *;omega);omega
def Iu(k b m:Int)(r:Option Int):Prop:=match r with
 |none=>∀d,b<=d->d<m->(d-b)%2=0->¬d∣k
 |some d=>b<=d/\d<m/\(d-b)%2=0/\d∣k/\∀d',b<=d'->d'<d->(d'-b)%2=0->¬d'∣k
def Iu.uniq:∀r r',Iu k b m r->Iu k b m r'->r=r'
 |none,none,_,_=>rfl
 |none,À d,h,h'=>absurd h'.2.2.2.1 (h d h'.1 h'.2.1 h'.2.2.1)
 |some d,none,h,h'=>absurd h.2.2.2.1 (h' d h.1 h.2.1 h.2.2.1)
 |some d,À d',h,h'=>by
  obtain z|z|z:=agj d d'
  .show absurd h.2.2.2.1 (h'.2.2.2.2 d h.1 z h.2.2.1)
  .rw[z]
  .show absurd h'.2.2.2.1 (h.2.2.2.2 d' h'.1 z h'.2.2.1)
theorem Iu.ex(k b m:Int):∀n:Nat,(∃d,Iu k b m (À d))\/∀d,b<=d->d<m->d<b+2*n->(d-b)%2=0->¬d∣k
 |0=>.inr λd h1 h2 c=>by lia
 |n+1=>by
  obtain h|h:=Iu.ex k b m n
  .show .inl h
  .by_cases a:b+2*n<m/\(b+2*n:Int)∣k
   .show .inl #[b+2*n,.b,a.1,.b,a.2,λd' h1 h2 c=>h d' h1 .b h2 c]
   .show .inr λd h1 h2 c g f=>?_;by_cases e:d=b+2*n
    .subst e;show a #[h2,f]
    .show h d h1 h2 .b g f
def VT(k b m:Int):Option Int:=ú (Iu k b m)
def zD{r:Option Int}(h:Iu k b m r):r=VT k b m:=tR Iu.uniq h
def CP(k b m:Int):Iu k b m (VT k b m):=by
 obtain⟨d,h⟩|h:=Iu.ex k b m ↥(m-b)
 .rwa[<-zD h]
 .let z:Iu k b m none:=λd h1 h2 a=>h d h1 h2 .f a;rwa[<-zD z]
def ur(k b e:Int):Option Int:=VT k b (if rt k+1<e then rt k+1 else e)
def jb:k.fmod d=0↔d∣k:=#[Int.dvd_of_fmod_eq_zero,Int.fmod_eq_zero_of_dvd]
def Pa(c:3<=k)(e:k%2=1):(ur k 3 k).isNone=aN k:=by
 let hz:=CP k 3 (if rt k+1<k then rt k+1 else k)
 let f:rt k+1<=k:=by
  let:=(BO (.b:0<=k) (.b:0<=k)).mp;apply ğ;intro h;let z:=this .b;let:3*k<=k*k:=Ű c (Ņ k) .b .b;lia
 let b:(if rt k+1<k then rt k+1 else k)=rt k+1:=by split<;>lia
 rw[b] at hz;delta ur;rw[b];cases a:VT k 3 (rt k+1) with
 |none =>
  rw[a] at hz;symm;show cQ.mpr (.inr #[c,e,λd h1 h2 g=>hz d h1 ((BO .b .b).mpr h2) .b])
 |some d =>
  rw[a] at hz;symm;change aN k=Â;cases hp:aN k with
  |false=>rfl
  |true =>
   obtain z|⟨_,_,z⟩:=cQ.mp hp
   .lia
   .let h1:3<=d:=hz.1;show absurd hz.2.2.2.1 (z d hz.1 ((BO .b .b).mp hz.2.1) (by let:=hz.2.2.1;lia))
def iJ(hp:aN p=Á)(n:0<d)(h:d∣p):d=1\/d=p:=by
 let⟨e,he⟩:=h;let l:=au hp
 let k:0<e:=by
  apply ğ;intro g;let:d*e<=0:=ϵ .b .b;lia
 obtain h2|⟨q,o,i⟩:=cQ.mp hp
 .let:d<=2:=by
   let:=Ę (.a:.N<2) (#[e,.b]:d∣2);lia
  lia
 .apply ğ;intro g;let m:d≠1:=λz=>g (.inl z);let hd2:d≠p:=λz=>g (.inr z);let j:e≠1:=by rintro rfl;lia
  let a:d%2=1:=by
   obtain z|z:=afE d
   .let⟨c,f⟩:=ű z;rw[f,ĵ] at he;lia
   .show z
  let b:e%2=1:=by
   obtain z|z:=afE e
   .let⟨c,f⟩:=ű z;rw[f,Int.mul_left_comm] at he;lia
   .show z
  obtain z|z:=ahy d e
  .show i d .b (by rw[he];show Ł z .b) a #[e,he]
  .show i e .b (by rw[he];show aeu z .b) b #[d,by rw[he,ī]]
def euclid(hp:aN p=Á)(h:p∣a*b):p∣a\/p∣b:=by
 let c:=au hp
 let d:.N<(È p a:Nat):=by
  let:=agP a (.b:p≠0);lia
 obtain z|z:=iJ hp d (Ϻ p a)
 .right
  let e:τ p.natAbs a.natAbs:=by
   change Nat.gcd p.natAbs a.natAbs=1;let:È p a=1:=.b
   show this
  let:=aet.mpr h;rw[ń] at this;show aet.mp (e.dvd_of_dvd_mul_left this)
 .left;rw[<-z];show ϻ p a
def xX:a%m=b%m↔m∣a-b:=by
 rw[Int.emod_eq_emod_iff_emod_sub_eq_zero];show#[ű,Ϲ]
theorem mQ(x m:Int):∀n:Nat,(x%m)^n%m=x^n%m:=zrN (by rw[ŀ,ŀ]) λn mQ=>by rw[Ī,Ī,ϛ,mQ,agS _ (ϳ m),<-ϛ]
def Mb{α:.L}(g:α.Nodup)(c:∀x,x∈α->x∈L):∃b,L.Perm (α++b):=by
 induction α generalizing L with
 |nil=>show#[L,ait _]
 |cons x α f =>
  let e:x∈L:=c x (ġ ..);let a:=afc.mp g;let⟨b,h⟩:=f (L:=L.erase x) a.2 λy d=>(ahz (by rintro rfl;show a.1 d)).mpr (c y (ę _ d));show#[b,(Χ e).trans (Ő x h)]
def dZ:.L->Int
 |[]=>1
 |x::l=>x*dZ l
def w8{l a:.L}(h:l.Perm a):dZ l=dZ a:=by
 induction h with
 |nil=>rfl
 |cons x _ b=>show x*_=x*_;rw[b]
 |swap x y l=>show y*(x*_)=x*(y*_);rw[Int.mul_left_comm]
 |trans _ _ h1 h2=>show h1.trans h2
theorem yj{p a:Int}:∀l:.L,p∣dZ (l.map λx=>a*x%p)-a^~~~l*dZ l
 |[]=>#[0,by simp[dZ]]
 |x::l=>by
  let⟨c,d⟩:=yj (p:=p) (a:=a) l;let e:=Int.emod_def (a*x) p;let e1:dZ (List.map (λx=>a*x%p) (x::l))=(a*x%p)*dZ (l.map λx=>a*x%p):=rfl;let e2:dZ (x::l)=x*dZ l:=rfl;rw[e1,e2,Œ,Ī];generalize dZ (l.map λx=>a*x%p)=u at *;generalize a*x/p=q at *;generalize a*x%p=r at *;generalize a^~~~l=t at *;generalize dZ l=v at *;let b:u=t*v+p*c:=.b
  show#[a*x*c-q*u,by rw[e];grind]
theorem jN{p:Int}(hp:aN p=Á):∀l:.L,(∀x,x∈l->¬p∣x)->¬p∣dZ l:=zrL (λ_=>λh=>by
  let:=au hp;let:=Ę .a (show p∣.M from h);lia) λx l jN a=>λh=>by
  obtain z|z:=euclid hp (show p∣x*dZ l from h)
  .show a x (ġ ..) z
  .show jN (λy b=>a y (ę _ b)) z
def cL(h:p∣x)(h1:-p<x)(h2:x<p):x=0:=by
 let⟨c,rfl⟩:=h;let hp:0<p:=.b
 by_cases a:c=0
 .rw[a,Ū]
 .obtain z|z:=Ε a
  .let:p*c<=p*(-1):=Ł .b .b;lia
  .let:p*1<=p*c:=Ł .b .b;lia
def LJ(hp:aN p=Á)(ha:¬p∣a):p∣a^↥(p-1)-1:=by
 let t:=au hp;letI L:.L:=(Ö ↥(p-1)).map λi:Nat=>(i:Int)+1
 let k:∀x,x∈L↔1<=x/\x<p:=by
  intro x;simp only[L,adX,aeY];constructor
  .rintro⟨i,h,rfl⟩;lia
  .rintro⟨h1,h2⟩;show#[↥(x-1),.b,.b]
 let l:L.Nodup:=by
  show agH.mpr (afU ?_ (ahn (n:=↥(p-1))));intro i j _ _ v;lia
 let g: ~~~L=↥(p-1):=by simp[L]
 clear_value L
 let f:∀x,x∈L->¬p∣x:=λx d s=>by
  let:=(k x).mp d;let:=cL s .b .b;lia
 let w:(L.map λx=>a*x%p).Nodup:=by
  show agH.mpr (afU ?_ l);intro x y d m u he;let h1:p∣a*(x-y):=by rw[af7];show xX.mp he
  obtain z|z:=euclid hp h1
  .show ha z
  .let:=(k x).mp d;let:=(k y).mp m;let:=cL z .b .b;lia
 let q:∀x,x∈(L.map λx=>a*x%p)->x∈L:=by
  intro y m;let⟨x,d,rfl⟩:=adX.mp m;let A:=ŭ (a*x) (.b:p≠0);let h1:=Ů (a*x) (.b:0<p);show(k _).mpr #[?_,h1];apply ğ;intro B;let hz:a*x%p=0:=.b
  obtain z|z:=euclid hp (ű hz)
  .show ha z
  .show f x d z
 let⟨r,b⟩:=Mb w q
 let o:r=[]:=by
  let:=b.length_eq;rw[Ř,ċ] at this;show agG .b
 rw[o,afD] at b;let e:=yj (p:=p) (a:=a) L;rw[<-w8 b,g] at e
 let h2:p∣(a^↥(p-1)-1)*dZ L:=by
  let⟨c,C⟩:=e;show#[-c,by rw[Int.sub_mul,Ś,ahN];lia]
 obtain z|z:=euclid hp h2
 .show z
 .show absurd z (jN hp L f)
def UL(hp:aN p=Á)(h2:p≠2)(ha:¬p∣a):p∣a^↥((p-1)/2)-1\/p∣a^↥((p-1)/2)+1:=by
 let d:p%2=1:=by obtain z|z:=cQ.mp hp<;>lia
 let c:=au hp;let b:=LJ hp ha;rw[(.b:↥(p-1)=↥((p-1)/2)+↥((p-1)/2)),Ź] at b;generalize a^↥((p-1)/2)=y at *;show euclid hp (by rwa[(by grind:(y-1)*(y+1)=y*y-1)]:p∣(y-1)*(y+1))
noncomputable def bO(k p:Int):Int:=if k%p=0 then 0 else if p=2 then 1 else if (k%p)^↥((p-1)/2)%p=1 then 1 else -1
def eN(h:p∣k):bO k p=0:=adI (Ϲ h)
def Al(k p:Int):bO (k%p) p=bO k p:=by delta bO;rw[agS _ (ϳ p)]
def qh(h:k%p=l%p):bO k p=bO l p:=by delta bO;rw[h]
def fL(hp:aN p=Á)(h2:p≠2)(b:¬p∣k):bO k p=1↔p∣k^↥((p-1)/2)-1:=by
 let a:=au hp;delta bO;rw[adF (λz=>b (ű z)),adF h2,mQ,<-xX,ahb (.a:.N<=1) (.b:.M<p)];split
 .rename_i h;show#[λ_=>h,λ_=>rfl]
 .rename_i h;show#[λz=>absurd z .a,λz=>absurd z h]
def cG(a:¬p∣k):bO k p=1\/bO k p=-1:=by
 delta bO;rw[adF (λz=>a (ű z))];split
 .show .inl rfl
 .split
  .show .inl rfl
  .show .inr rfl
def iC(hp:aN p=Á)(h2:p≠2)(a:¬p∣k):bO k p=-1↔p∣k^↥((p-1)/2)+1:=by
 let f:=au hp;let e:=fL hp h2 a;obtain z|z:=UL hp h2 a
 .rw[e.mpr z];show#[λw=>absurd w .a,λw=>?_]
  let:p∣2:=by
   let⟨c,g⟩:=z;let⟨d,b⟩:=w;show#[d-c,by rw[af7];lia]
  let:=Ę .a this;lia
 .show#[λ_=>z,λ_=>?_];obtain w|w:=cG a
  .let:p∣2:=by
    let⟨c,g⟩:=e.mp w;let⟨d,b⟩:=z;show#[d-c,by rw[af7];lia]
   let:=Ę .a this;lia
  .show w
def gJ(hp:aN p=Á)(a b:Int):bO (a*b) p=bO a p*bO b p:=by
 let o:=au hp;by_cases ha:p∣a
 .rw[eN ha,ahA,eN (İ ha #[b,rfl])]
 by_cases g:p∣b
 .rw[eN g,Ū,eN (İ g #[a,ī ..])]
 let f:¬p∣a*b:=λz=>by obtain z|z:=euclid hp z<;>contradiction
 by_cases h2:p=2
 .subst h2;let e:∀k:Int,¬.O∣k->bO k 2=1:=λk n=>by delta bO;rw[adF (λz=>n (ű z)),adI rfl]
  rw[e _ ha,e _ g,e _ f];rfl
 let j:(a*b)^↥((p-1)/2)=a^↥((p-1)/2)*b^↥((p-1)/2):=ahO ..;obtain i|i:=cG ha<;>obtain h|h:=cG g<;>rw[i,h]
 .show(fL hp h2 f).mpr ?_;let⟨c,m⟩:=(fL hp h2 ha).mp i;let⟨d,l⟩:=(fL hp h2 g).mp h;rw[j];show#[c*d*p+c+d,by grind]
 .show(iC hp h2 f).mpr ?_;let⟨c,m⟩:=(fL hp h2 ha).mp i;let⟨d,l⟩:=(iC hp h2 g).mp h;rw[j];show#[c*d*p-c+d,by grind]
 .show(iC hp h2 f).mpr ?_;let⟨c,m⟩:=(iC hp h2 ha).mp i;let⟨d,l⟩:=(fL hp h2 g).mp h;rw[j];show#[c*d*p+c-d,by grind]
 .show(fL hp h2 f).mpr ?_;let⟨c,m⟩:=(iC hp h2 ha).mp i;let⟨d,l⟩:=(iC hp h2 g).mp h;rw[j];show#[c*d*p-c-d,by grind]
def CL(k d:Int)(r:Int×Int):Prop:=0<=r.1/\k=r.2*d^↥r.1/\¬d∣r.2
def CL.lt(c:2<=d){r r':Int×Int}(h:CL k d r)(h':CL k d r')(f:r.1<r'.1):False:=by
 let⟨g,b,a⟩:=h;let⟨b1,b2,b3⟩:=h';let e:↥r'.1=(↥r'.1-↥r.1-1)+1+↥r.1:=.b
 rw[e,Ź,Ī] at b2;let hp:d^↥r.1≠0:=Int.pow_ne_zero .b;let z:r.2*d^↥r.1=(r'.2*d^(↥r'.1-↥r.1-1)*d)*d^↥r.1:=by rw[<-b,b2];grind
 let w:=afH hp z;show a #[r'.2*d^(↥r'.1-↥r.1-1),by rw[w,ī]]
def CL.uniq(a:2<=d)(r r':Int×Int)(h:CL k d r)(h':CL k d r'):r=r':=by
 let h1:r.1=r'.1:=by
  obtain z|z|z:=agj r.1 r'.1
  .show(CL.lt a h h' z).elim
  .show z
  .show(CL.lt a h' h z).elim
 let hp:d^↥r.1≠0:=Int.pow_ne_zero .b
 let h2:r.2=r'.2:=by
  let:=h.2.1.symm.trans h'.2.1;rw[<-h1] at this;show afH hp this
 show ahI h1 h2
theorem CL.ex{d:Int}(f:2<=d):∀(n:Nat) (k:Int),k≠0->k.natAbs<=n->∃r,CL k d r
 |0,k,e,j=>by lia
 |n+1,k,e,j=>by
  by_cases h:d∣k
  .let⟨c,a⟩:=h;let b:c≠0:=by rintro rfl;rw[Ū] at a;show e a
   let g:c.natAbs<k.natAbs:=by
    rw[a,ń];let:2*c.natAbs<=d.natAbs*c.natAbs:=afV _ .b;lia
   let⟨r,h1,h2,i⟩:=CL.ex f n c b .b;show#[(r.1+1,r.2),.e,?_,i];dsimp only;rw[(.b:↥(r.1+1)=↥r.1+1),Ī,a];rw[(by rw[<-h2]:d*c=d*(r.2*d^↥r.1))];grind
  .show#[(0,k),Ņ 0,by dsimp only;rw[show ↥(0:Int)=0 from rfl,ŀ,Đ],h]
def a7(k d:Int):Int×Int:=ú (CL k d)
def nD(a:2<=d){r:Int×Int}(h:CL k d r):a7 k d=r:=(tR (CL.uniq a) h).symm
def fM(a:2<=d)(h:k≠0):CL k d (a7 k d):=by
 let⟨r,b⟩:=CL.ex a k.natAbs k h (Ā _);rwa[nD a b]
def oK{v:Nat}(a:2<=d)(h:¬d∣k):a7 (k*d^v) d=((v:Int),k) :=
 nD a #[.e,by dsimp only;rw[Ó],h]
def Gz(hp:aN p=Á)(ha:a≠0)(e:b≠0):a7 (a*b) p=((a7 a p).1+(a7 b p).1,(a7 a p).2*(a7 b p).2):=by
 let c:=au hp;let⟨f,d,g⟩:=fM c ha;let⟨b1,b2,b3⟩:=fM c e;show nD c #[.e,?_,λz=>by obtain w|w:=euclid hp z<;>contradiction];dsimp only;rw[(.b:↥((a7 a p).1+(a7 b p).1)=↥(a7 a p).1+↥(a7 b p).1),Ź];generalize ↥(a7 a p).1=m at *;generalize ↥(a7 b p).1=n at *;generalize (a7 a p).2=u at *;generalize (a7 b p).2=v at *;rw[d,b2];generalize p^m=x;generalize p^n=y;grind
def Bq(f:2<=d)(h:d∣k)(a:k≠0):k.fdiv d*d=k/\k.fdiv d≠0/\(k.fdiv d).natAbs<k.natAbs:=by
 let⟨c,rfl⟩:=h;let e:(d*c).fdiv d=c:=aeL c .b;rw[e];let b:c≠0:=by rintro rfl;simp at a
 show#[ī ..,b,?_];rw[ń];let:2*c.natAbs<=d.natAbs*c.natAbs:=afV _ .b;lia
def cls(k p:Int):Int×Int:=((a7 k p).1%2,if p=2 then (a7 k p).2%8 else bO (a7 k p).2 p)
def b1(c:Bool):Int:=if c then 1 else 0
noncomputable def iK(x y:Int×Int):Bool:=decide ((b1 (decide (x.2%4=3)&&decide (y.2%4=3))+b1 (decide (x.1=1)&&(decide (y.2=3) || decide (y.2=5)))+b1 (decide (y.1=1)&&(decide (x.2=3) || decide (x.2=5))))%2=0)
noncomputable def GY(x y:Int×Int)(p:Int):Bool:=decide ((if x.1=1 then y.2 else 1)*(if y.1=1 then x.2 else 1)*(if x.1=1/\y.1=1 then bO (-1) p else 1)=1)
def ak(a b p:Int):Bool:=if p=0 then decide (0<a) || decide (0<b) else if p=2 then iK (cls a p) (cls b p) else GY (cls a p) (cls b p) p
noncomputable def cj(x y:Int×Int)(p:Int):Int×Int:=((x.1+y.1)%2,if p=2 then x.2*y.2%8 else x.2*y.2)
def bx(hp:aN p=Á)(ha:a≠0)(c:b≠0):cls (a*b) p=cj (cls a p) (cls b p) p:=by
 delta cls cj;rw[Gz hp ha c];dsimp only;by_cases h:p=2
 .rw[adI h,adI h,adI h,adI h];show ahI .e (ϛ ..)
 .rw[adF h,adF h,adF h,adF h];show ahI .e (gJ hp ..)
noncomputable def CO:List (Int×Int):=[(0,1),(0,-1),(1,1),(1,-1)]
noncomputable def C2:List (Int×Int):=[(0,1),(0,3),(0,5),(0,7),(1,1),(1,3),(1,5),(1,7)]
def dj(hp:2<=p)(h2:p≠2)(ha:a≠0):cls a p∈CO:=by
 let⟨_,_,b⟩:=fM hp ha;delta cls;rw[adF h2];obtain z|z:=afE (a7 a p).1<;>obtain w|w:=cG b<;>rw[z,w]<;>decide
def df(ha:a≠0):cls a 2∈C2:=by
 let⟨_,_,b⟩:=fM (d:=2) .a ha;let h':(a7 a 2).2%2≠0:=λz=>b (ű z);let:(a7 a 2).2%8=1\/(a7 a 2).2%8=3\/(a7 a 2).2%8=5\/(a7 a 2).2%8=7:=.b
 delta cls;rw[adI rfl];obtain z|z:=afE (a7 a 2).1<;>obtain w|w|w|w:=this<;>rw[z,w]<;>decide
def vz(hp:2<=p):bO (-1) p∈[.M,-1]:=by
 let:¬p∣-1:=λz=>by
  let:=Ę .a ((ae0).mp z);lia
 obtain w|w:=cG this<;>rw[w]<;>decide
noncomputable def oQ(x y:Int×Int)(m:Int):Bool:=decide ((if x.1=1 then y.2 else 1)*(if y.1=1 then x.2 else 1)*(if x.1=1/\y.1=1 then m else 1)=1)
def Rx(x y:Int×Int)(p:Int):GY x y p=oQ x y (bO (-1) p):=rfl
def UJ:∀x∈CO,∀y∈CO,∀m∈[.M,-1],oQ x y m=oQ y x m:=.a
def S3:∀x∈C2,∀y∈C2,iK x y=iK y x:=.a
def U6:∀x∈CO,∀y∈CO,∀z∈CO,∀m∈[.M,-1],oQ x (cj y z 3) m=(oQ x y m==oQ x z m):=by decide +kernel
def RS:∀x∈C2,∀y∈C2,∀z∈C2,iK x (cj y z 2)=(iK x y==iK x z):=by decide +kernel
def XT:∀x∈CO,∀y∈CO,cj (cj x y 3) y 3=x:=.a
def Uh:∀x∈C2,∀y∈C2,cj (cj x y 2) y 2=x:=.a
def UM:∀x∈CO,∀m∈[.M,-1],oQ x (cj (0,m) x 3) m=Á:=.a
def Si:∀x∈C2,iK x (cj (0,7) x 2)=Á:=.a
def Qp:∀x∈CO,∀y∈CO,∀m∈[.M,-1],oQ x (cj y y 3) m=Á:=.a
def LL:∀x∈C2,∀y∈C2,iK x (cj y y 2)=Á:=.a
def b7{x y:Int×Int}(h:p≠2):cj x y p=cj x y 3:=by delta cj;rw[adF h,adF .a]
def Pl(p:Int):Prop:=p=0\/aN p=Á
def aP:ak a b 0=(decide (0<a) || decide (0<b)):=adI rfl
def bq:ak a b 2=iK (cls a 2) (cls b 2):=by delta ak;rw[adF .a,adI rfl]
def bB(c:p≠0)(h2:p≠2):ak a b p=oQ (cls a p) (cls b p) (bO (-1) p):=by delta ak;rw[adF c,adF h2,Rx]
def Pl.cases(h:Pl p){Q:Prop}(a:p=0->Q)(h2:p=2->Q)(b:aN p=Á->p≠2->p≠0->2<=p->Q):Q:=by
 obtain z|z:=h
 .show a z
 .let:=au z;by_cases w:p=2
  .show h2 w
  .show b z w .b this
def ba(h:Pl p)(ha:a≠0)(e:b≠0):ak b a p=ak a b p:=by
 show h.cases (λz=>?_) (λz=>?_) (λhp h2 d c=>?_)
 .subst z;rw[aP,aP,Bool.or_comm]
 .subst z;rw[bq,bq];show S3 _ (df e) _ (df ha)
 .rw[bB d h2,bB d h2];show UJ _ (dj c h2 e) _ (dj c h2 ha) _ (vz c)
def e_(a:b≠0)(d:c≠0):0<b*c↔(0<b↔0<c):=by
 obtain z|z:=Ε a<;>obtain w|w:=Ε d
 .let:=aeP z w;constructor<;>intro<;>lia
 .let:=aeQ z w;constructor<;>intro<;>lia
 .let:=afP z w;constructor<;>intro<;>lia
 .let:=Ħ z w;constructor<;>intro<;>lia
def aS(h:Pl p)(ha:a≠0)(d:b≠0)(e:c≠0):ak a (b*c) p=(ak a b p==ak a c p):=by
 show h.cases (λz=>?_) (λz=>?_) (λhp h2 g f=>?_)
 .subst z;rw[aP,aP,aP];let:=e_ d e;by_cases w:0<a
  .simp[w]
  .by_cases x:0<b<;>by_cases y:0<c<;>simp[w,x,y,this]
 .subst z;rw[bq,bq,bq,bx bA d e];show RS _ (df ha) _ (df d) _ (df e)
 .rw[bB g h2,bB g h2,bB g h2,bx hp d e,b7 h2];show U6 _ (dj f h2 ha) _ (dj f h2 d) _ (dj f h2 e) _ (vz f)
def i_(hp:aN p=Á)(ha:a≠0)(b:r≠0):cls (a*r*r) p=cls a p:=by
 rw[bx hp (ë ha b) b,bx hp ha b];let c:=au hp;by_cases h2:p=2
 .subst h2;show Uh _ (df ha) _ (df b)
 .rw[b7 h2,b7 h2];show XT _ (dj c h2 ha) _ (dj c h2 b)
def jq(h:Pl p)(ha:a≠0)(c:r≠0):ak (a*r*r) b p=ak a b p:=by
 show h.cases (λz=>?_) (λz=>?_) (λhp h2 d f=>?_)
 .subst z;rw[aP,aP]
  let e:0<a*r*r↔0<a:=by
   rw[ĵ,e_ ha (ë c c)];let:0<r*r:=(e_ c c).mpr Iff.rfl;constructor
   .intro z;show z.mpr this
   .intro z;show#[λ_=>this,λ_=>z]
  rw[agr.mpr e]
 .subst z;rw[bq,bq,i_ bA ha c]
 .rw[bB d h2,bB d h2,i_ hp ha c]
def zZ(hp:aN p=Á):cls (-1) p=(0,if p=2 then 7 else bO (-1) p):=by
 let a:=au hp
 let b:¬p∣-1:=λz=>by
  let:=Ę .a ((ae0).mp z);lia
 let e:a7 (-1) p=(0,-1):=nD a #[Ņ 0,by dsimp only;rw[show ↥(0:Int)=0 from rfl,ŀ,Đ],b];delta cls;rw[e];rfl
def nZ(h:Pl p)(ha:a≠0):ak a (0-a) p=Á:=by
 let c:0-a=-1*a:=.b
 show h.cases (λz=>?_) (λz=>?_) (λhp h2 d b=>?_)
 .subst z;rw[aP];simp;lia
 .subst z;rw[bq,c,bx bA .a ha,zZ bA,adI rfl];show Si _ (df ha)
 .rw[bB d h2,c,bx hp .a ha,zZ hp,adF h2,b7 h2];show UM _ (dj b h2 ha) _ (vz b)
def qD(h:Pl p)(ha:a≠0)(b:r≠0):ak a (r*r) p=Á:=by
 show h.cases (λz=>?_) (λz=>?_) (λhp h2 d c=>?_)
 .subst z;rw[aP];let:0<r*r:=(e_ b b).mpr Iff.rfl;simp[this]
 .subst z;rw[bq,bx bA b b];show LL _ (df ha) _ (df b)
 .rw[bB d h2,bx hp b b,b7 h2];show Qp _ (dj c h2 ha) _ (dj c h2 b) _ (vz c)
def qL(hp:2<=p)(h:¬p∣a):a7 a p=(0,a) :=
 nD hp #[Ņ 0,by dsimp only;rw[show ↥(0:Int)=0 from rfl,ŀ,Đ],h]
def ff(hp:aN p=Á)(h2:p≠2)(ha:¬p∣a)(d:¬p∣b):ak a b p=Á:=by
 let c:=au hp;rw[bB .b h2];delta cls;rw[qL c ha,qL c d];rfl
def lr(hp:aN p=Á)(h2:p≠2)(h:p∣a-1):bO a p=1:=by
 let b:=au hp;rw[qh (l:=1) (xX.mpr h)];delta bO;rw[ahb .a .b,adF .a,adF h2,Int.one_pow,ahb .a .b,adI rfl]
def Io(e:Int):Nat->List (Int×Int)->Int->Int->List (Int×Int)×Int
 |0,fs,l,_=>(fs,l)
 |n+1,fs,l,b=>match ur l b e with
  |none=>(fs,l)
  |some d=>Io e n (fs++[(d,(a7 l d).1)]) (a7 l d).2 (d+2)
def CD(k:Int):List (Int×Int):=if 0<(a7 k 2).1 then [(2,(a7 k 2).1)] else []
def bM(k e:Int):List (Int×Int)×Int:=Io e ↥k (CD k) (a7 k 2).2 3
def n9(c:0<=l)(k:1<=b)(h:ur l b e=À d):b<=d/\d<e/\d*d<=l/\(d-b)%2=0/\d∣l/\∀d',b<=d'->d'<d->(d'-b)%2=0->¬d'∣l:=by
 let z:=CP l b (if rt l+1<e then rt l+1 else e);delta ur at h;rw[h] at z;let⟨f,j,g,i,a⟩:=z;let h1:d<rt l+1/\d<e:=by split at j<;>omega
 show#[f,h1.2,(BO c .f).mp h1.1,g,i,a]
def Bv(a:0<=l)(g:1<=b)(h:ur l b e=none):∀d,b<=d->d<e->d*d<=l->(d-b)%2=0->¬d∣l:=by
 let z:=CP l b (if rt l+1<e then rt l+1 else e);delta ur at h;rw[h] at z;intro d h1 h2 f c;let:=(BO a .f).mpr f;show z d h1 (by split<;>omega) c
def Ae(b:2<=d)(i:0<l)(h:d∣l):0<(a7 l d).2/\2*(a7 l d).2<=l/\1<=(a7 l d).1/\(a7 l d).2∣l:=by
 let⟨h1,h2,f⟩:=fM b (.b:l≠0)
 let a:1<=(a7 l d).1:=by
  apply ğ;intro g;let e:↥(a7 l d).1=0:=.b
  rw[e,ŀ,Đ] at h2;show f (h2▸h)
 let hp:.O<=d^↥(a7 l d).1:=by
  let e:↥(a7 l d).1=(↥(a7 l d).1-1)+1:=.b
  rw[e,Ī];let:.N<d^(↥(a7 l d).1-1):=Ş .b;let:1*2<=d^(↥(a7 l d).1-1)*d:=Ű .b b .a .b;lia
 generalize (a7 l d).2=x at *;generalize d^↥(a7 l d).1=t at *
 let c:0<x:=by
  apply ğ;intro g;let:x*t<=0:=aeT .b .b;lia
 let:x*2<=x*t:=Ł hp .b;show#[c,.b,a,#[t,h2]]
noncomputable def pp:List (Int×Int)->Int
 |[]=>1
 |u::us=>u.1^↥u.2*pp us
theorem u6(u:Int×Int):∀us,pp (us++[u])=pp us*u.1^↥u.2:=zrL (by change _*1=1*_;rw[Đ,Ś]) λv us u6=>by
  change v.1^↥v.2*pp (us++[u])=v.1^↥v.2*pp us*_;rw[u6,ĵ]
def ic:Int->List (Int×Int)->Int->Prop
 |a,[],b=>a<b
 |a,u::us,b=>a<u.1/\aN u.1=Á/\1<=u.2/\ic u.1 us b
theorem ic.snoc{b b':Int}{u:Int×Int}(d:aN u.1=Á)(h1:1<=u.2)(e:b<=u.1)(c:u.1<b'):∀{a us},ic a us b->ic a (us++[u]) b'
 |_,[],h=>#[Int.lt_of_lt_of_le h e,d,h1,c]
 |_,_::_,h=>#[h.1,h.2.1,h.2.2.1,ic.snoc d h1 e c h.2.2.2]
structure C0(k:Int)(fs:List (Int×Int))(l b:Int):Prop where
 rise:ic 1 fs b
 prod:pp fs*l=k
 pos:0<l
 odd:l%2=1
 b3:3<=b
 bo:b%2=1
 free:∀d,3<=d->d<b->d%2=1->¬d∣l
def C0.prime{fs:List (Int×Int)}(I:C0 k fs l b)(h:ur l b e=À d):aN d=Á:=by
 let⟨h1,h2,s,q,j,n⟩:=n9 (afT I.pos) (by let:=I.b3;lia) h;let p:=I.b3;let o:=I.bo;show cQ.mpr (.inr #[.b,.b,λf g r m i=>?_]);let a:f∣l:=İ i j
 let c:f<d:=by
  let:f*3<=f*f:=Ł g .b;lia
 obtain z|z:=Ϗ f b
 .show I.free f g z m a
 .show n f z c .b a
def C0.step{fs:List (Int×Int)}(I:C0 k fs l b)(h:ur l b e=À d):C0 k (fs++[(d,(a7 l d).1)]) (a7 l d).2 (d+2):=by
 let⟨h1,h2,E,C,n,t⟩:=n9 (afT I.pos) (by let:=I.b3;lia) h;let A:=I.b3;let u:=I.bo;let⟨j,B,q,i⟩:=Ae (.b:2<=d) I.pos n;let⟨x,m,p⟩:=fM (.b:2<=d) (by let:=I.pos;lia:l≠0);show#[I.rise.snoc (I.prime h) q h1 .b,?_,j,?_,.b,.b,λf o D r g=>?_]
 .rw[u6,ĵ,ī (d^_),<-m,I.prod]
 .let w:=I.odd;let⟨c,v⟩:=i;obtain z|z:=afE (a7 l d).2
  .let⟨y,s⟩:=ű z;rw[s,ĵ] at v;lia
  .show z
 .let a:f∣l:=İ g i;obtain z|z|z:=agj f d
  .obtain y|y:=Ϗ f b
   .show I.free f o y r a
   .show t f y z .b a
  .rw[z] at g;show p g
  .lia
theorem IY{k e:Int}:∀(n:Nat) (fs:List (Int×Int)) (l b:Int),C0 k fs l b->l<=n->∃b',C0 k (Io e n fs l b).1 (Io e n fs l b).2 b'/\ur (Io e n fs l b).2 b' e=none:=zrN (λfs l b I h=>by let:=I.pos;lia) λn IY fs l b I h=>by
  unfold Io;cases a:ur l b e with
  |none=>show#[b,I,a]
  |some d =>
   let⟨h1,h2,o,j,c,p⟩:=n9 (afT I.pos) (by let:=I.b3;lia) a;let⟨f,i,m,g⟩:=Ae (by let:=I.b3;lia:2<=d) I.pos c;show IY _ _ _ (I.step a) .b
def sG(i:1<=k):C0 k (CD k) (a7 k 2).2 3/\(a7 k 2).2<=k:=by
 let⟨g,b,f⟩:=fM (.a:.O<=2) (.b:k≠0);let a:(a7 k 2).2%2=1:=.b
 let hp:.N<2^↥(a7 k 2).1:=Ş .a
 let hpos:0<(a7 k 2).2:=by
  apply ğ;intro h;let:(a7 k 2).2*2^↥(a7 k 2).1<=0:=aeT .b .b;lia
 let c:(a7 k 2).2<=k:=by
  let:(a7 k 2).2*1<=(a7 k 2).2*2^↥(a7 k 2).1:=Ł .b .b;lia
 show#[#[?_,?_,hpos,a,.a,.a,λd h1 h2=>by lia],c]
 .unfold CD;split
  .show#[by change .M<2;decide,bA,.e,by change .O<3;decide]
  .change .M<3;decide
 .unfold CD;split
  .change(2^↥(a7 k 2).1*1)*_=k;rw[Đ,ī];show b.symm
  .let e:↥(a7 k 2).1=0:=.b
   rw[e,ŀ,Đ] at b;change 1*_=k;rw[Ś];show b.symm
def oD(a:1<=k):∃b,C0 k (bM k e).1 (bM k e).2 b/\ur (bM k e).2 b e=none:=by
 let⟨I,h⟩:=sG a;show IY ↥k _ _ 3 I .b
def oh(k:Int):List (Int×Int):=(bM k (k+1)).1++(if 1<(bM k (k+1)).2 then [((bM k (k+1)).2,1)] else [])
theorem lh:∀{us:List (Int×Int)} {a b:Int},0<=a->ic a us b->0<pp us:=@zrL _ _ (@λ_ _ _ _=>by change .N<1;decide) (@λu us lh a b ha h=>Ħ (Ş (by let:=h.1;lia)) (lh (by let:=h.1;lia) h.2.2.2))
def pU(j:1<=k):(∃b,ic 1 (oh k) b)/\pp (oh k)=k:=by
 let⟨b,I,o⟩:=oD (e:=k+1) j
 let l:(bM k (k+1)).2<=k:=by
  let h1:=I.prod;let h2:=lh .a I.rise;let s:=I.pos;let:1*(bM k (k+1)).2<=pp (bM k (k+1)).1*(bM k (k+1)).2:=aeu .b .b;lia
 delta oh;generalize bM k (k+1)=r at *;split
 .rename_i q;let a:=I.odd;let i:=I.b3;let p:=I.bo
  let d:b<=r.2:=by
   obtain z|z:=Ϗ r.2 b
   .show absurd (ϳ r.2) (I.free r.2 .b z a)
   .show z
  let c:aN r.2=Á:=by
   show cQ.mpr (.inr #[.b,a,λf h n m g=>?_]);obtain z|z:=Ϗ f b
   .show I.free f h z m g
   .show Bv .b .b o f z ?_ n .b g;let:f*3<=f*f:=Ł h .b;lia
  show#[#[r.2+1,I.rise.snoc c (Ņ 1) d .e],?_];rw[u6];change pp r.1*r.2^↥(1:Int)=k;rw[show ↥(1:Int)=1 from rfl,Ī,ŀ,Ś];show I.prod
 .let:r.2=1:=by let:=I.pos;lia
  rw[afD];show#[#[b,I.rise],?_];let:=I.prod;rwa[(by assumption:r.2=1),Đ] at this
def cg:.L->Int
 |[]=>0
 |x::l=>x+cg l
def zc{l a:.L}(h:l.Perm a):cg l=cg a:=by
 induction h with
 |nil=>rfl
 |cons x _ b=>show x+_=x+_;rw[b]
 |swap x y l=>show y+(x+_)=x+(y+_);lia
 |trans _ _ h1 h2=>show h1.trans h2
def gr(a p k:Int):Int:=a*k%p
def zS(a p k:Int):Int:=if gr a p k<=(p-1)/2 then 0 else 1
noncomputable def gs(a p k:Int):Int:=if gr a p k<=(p-1)/2 then gr a p k else p-gr a p k
noncomputable def rW(n:Int):Int:=if n%2=0 then 1 else -1
def Fl(m n:Int):rW (m+n)=rW m*rW n:=by
 delta rW;obtain a|a:=afE m<;>obtain b|b:=afE n
 .rw[adI .b,adI a,adI b];rfl
 .rw[adF .b,adI a,adF .b];rfl
 .rw[adF .b,adF .b,adI b];rfl
 .rw[adI .b,adF .b,adF .b];rfl
def Bk{n:Int}(h:m%2=n%2):rW m=rW n:=by delta rW;rw[h]
def Hl(p:Int):.L:=(Ö ↥((p-1)/2)).map λi:Nat=>(i:Int)+1
def pD:x∈Hl p↔1<=x/\x<=(p-1)/2:=by
 delta Hl;simp only[adX,aeY];constructor
 .rintro⟨i,h,rfl⟩;lia
 .rintro⟨h1,h2⟩;show#[↥(x-1),.b,.b]
def K1(p:Int):(Hl p).Nodup:=by
 show agH.mpr (afU ?_ (ahn (n:=↥((p-1)/2))));intro i j _ _ a;lia
def SJ(p:Int): ~~~(Hl p)=↥((p-1)/2):=by simp[Hl]
section
variable{p a:Int}(hp:aN p=Á)(h2:p≠2)(ha:¬p∣a)
include hp h2 in
theorem gN:p%2=1/\3<=p:=by
 let:=au hp;obtain z|z:=cQ.mp hp<;>lia
include hp h2 ha in
theorem Vi(d:k∈Hl p):1<=gr a p k/\gr a p k<p:=by
 let e:=gN hp h2;let b:=pD.mp d;let f:=ŭ (a*k) (.b:p≠0);let h1:=Ů (a*k) (.b:0<p);show#[?_,h1];apply ğ;intro c;let hz:a*k%p=0:=by unfold gr at c;lia
 obtain z|z:=euclid hp (ű hz)
 .show ha z
 .let:=cL z .b .b;lia
include hp h2 ha in
theorem Ur(b:k∈Hl p):gs a p k∈Hl p:=by
 let c:=gN hp h2;let:=Vi hp h2 ha b;delta gs;split
 .show pD.mpr #[this.1,by assumption]
 .show pD.mpr #[.f,.f]
def SS(a p k:Int):p∣a*k-gr a p k:=by
 let:=afl (a*k) p;show#[a*k/p,by unfold gr;lia]
def Ee(a p k:Int):p∣a*k-rW (zS a p k)*gs a p k:=by
 let⟨c,b⟩:=SS a p k;delta zS gs rW;split
 .show#[c,by simp;lia]
 .show#[c+1,by rw[af8];simp;lia]
include hp h2 ha in
theorem Ax:(Hl p).Perm ((Hl p).map (gs a p)):=by
 let q:=gN hp h2
 let f:((Hl p).map (gs a p)).Nodup:=by
  show agH.mpr (afU ?_ (K1 p));intro x y e g n he;let m:=pD.mp e;let l:=pD.mp g;let⟨c,o⟩:=Ee a p x;let⟨d,i⟩:=Ee a p y;rw[<-he] at i;let e1:rW (zS a p x)=1\/rW (zS a p x)=-1:=by delta rW;split<;>simp
  let e2:rW (zS a p y)=1\/rW (zS a p y)=-1:=by delta rW;split<;>simp
  let key:p∣a*(x-y)\/p∣a*(x+y):=by
   obtain z|z:=e1<;>obtain w|w:=e2<;>rw[z] at o<;>rw[w] at i
   .show .inl #[c-d,by rw[af7,af7];lia]
   .show .inr #[c+d,by rw[af8,af8];lia]
   .show .inr #[c+d,by rw[af8,af8];lia]
   .show .inl #[c-d,by rw[af7,af7];lia]
  obtain z|z:=key
  .obtain w|w:=euclid hp z
   .show ha w
   .let:=cL w .b .b;lia
  .obtain w|w:=euclid hp z
   .show ha w
   .let:=cL w .b .b;lia
 let j:∀x,x∈(Hl p).map (gs a p)->x∈Hl p:=by
  intro y g;let⟨x,e,rfl⟩:=adX.mp g;show Ur hp h2 ha e
 let⟨k,b⟩:=Mb f j
 let h:k=[]:=by
  let:=b.length_eq;rw[Ř,ċ] at this;show agG .b
 rwa[h,afD] at b
theorem IZ(a p:Int):∀l:.L,p∣a^~~~l*dZ l-rW (cg (l.map (zS a p)))*dZ (l.map (gs a p)):=zrL (#[0,by simp[dZ,cg,rW]]) λk l IZ=>by
  let⟨c,e⟩:=IZ;let⟨d,b⟩:=Ee a p k;change p∣a^(~~~l+1)*(k*dZ l)-rW (zS a p k+cg (l.map (zS a p)))*(gs a p k*dZ (l.map (gs a p)));rw[Fl,Ī];generalize rW (zS a p k)=e1 at *;generalize rW (cg (l.map (zS a p)))=e2 at *;generalize dZ (l.map (gs a p))=v at *;generalize dZ l=u at *;generalize a^~~~l=t at *;generalize gs a p k=g at *;let h1:t*u=e2*v+p*c:=.b
  let h2:a*k=e1*g+p*d:=.b
  show#[a*k*c+d*(e2*v),by grind]
include hp h2 ha in
theorem Lg:bO a p=rW (cg ((Hl p).map (zS a p))):=by
 let f:=gN hp h2;let c:=IZ a p (Hl p);rw[<-w8 (Ax hp h2 ha),SJ] at c;let d:p∣(a^↥((p-1)/2)-rW (cg ((Hl p).map (zS a p))))*dZ (Hl p):=by rwa[Int.sub_mul]
 obtain z|z:=euclid hp d
 .delta rW at *;split
  .rename_i h;rw[adI h] at z;show(fL hp h2 ha).mpr z
  .rename_i h;rw[adF h] at z;show(iC hp h2 ha).mpr (by rwa[(.b:a^↥((p-1)/2)+1=a^↥((p-1)/2) - -1)])
 .show absurd z (jN hp _ λx e b=>?_);let:=pD.mp e;let:=cL b .b .b;lia
def US{a p:Int}(g:p%2=1):(a*k-a*k/p-gs a p k-zS a p k)%2=0:=by
 let e:=afl (a*k) p;let b:∃c,p=2*c+1:=#[p/2,.b];let⟨c,d⟩:=b
 let f:p*(a*k/p)=2*(c*(a*k/p))+a*k/p:=by
  rw[d];generalize a*k/(2*c+1)=z;grind
 unfold gs zS gr;generalize a*k/p=q at *;generalize c*q=y at *;split<;>lia
theorem Mw{a p:Int}(b:p%2=1):∀l:.L,(a*cg l-cg (l.map λk=>a*k/p)-cg (l.map (gs a p))-cg (l.map (zS a p)))%2=0
 |[]=>by simp[cg]
 |k::l=>by
  let h1:=Mw (a:=a) b l;let h2:=US (a:=a) (k:=k) b;change(a*(k+cg l)-(a*k/p+cg (l.map λk=>a*k/p))-(gs a p k+cg (l.map (gs a p)))-(zS a p k+cg (l.map (zS a p))))%2=0;rw[af8];generalize a*cg l=d at *;generalize a*k=c at *;lia
include hp h2 ha in
theorem Pw(e:a%2=1):cg ((Hl p).map (zS a p))%2=cg ((Hl p).map λk=>a*k/p)%2:=by
 let h:=Mw (a:=a) (gN hp h2).1 (Hl p);rw[<-zc (Ax hp h2 ha)] at h;let b:∃c,a=2*c+1:=#[a/2,.b];let⟨c,d⟩:=b
 let:a*cg (Hl p)=2*(c*cg (Hl p))+cg (Hl p):=by
  rw[d];generalize cg (Hl p)=z;grind
 generalize c*cg (Hl p)=y at *;lia
end
def QJ(n:Nat):2*cg ((Ö n).map λi:Nat=>(i:Int)+1)=(n:Int)*(n+1):=by
 let ap:∀(l:.L) (x:Int),cg (l++[x])=cg l+x:=λl x=>by
  induction l with
  |nil=>show x+0=0+x;lia
  |cons y l a=>show y+cg (l++[x])=y+cg l+x;lia
 induction n with
 |zero=>rfl
 |succ n a =>
  rw[aij,agf,ů,agt,ap,af8,a];let:((n+1:Nat):Int)=(n:Int)+1:=.b
  rw[this];generalize (n:Int)=x;grind
def O5(hp:aN p=Á)(h2:p≠2):bO 2 p=if p%8=1\/p%8=7 then 1 else -1:=by
 let e:=gN hp h2
 let ha:¬p∣2:=λz=>by
  let:=Ę .a z;lia
 rw[Lg hp h2 ha];let h:=Mw (a:=2) e.1 (Hl p);rw[<-zc (Ax hp h2 ha)] at h
 let q:∀l:.L,(∀k,k∈l->k∈Hl p)->cg (l.map λk=>2*k/p)=0:=λl=>by
  induction l with
  |nil=>intro _;rfl
  |cons k l f =>
   intro d;let v:=pD.mp (d k (ġ ..));let o:2*k/p=0:=Int.ediv_eq_zero_of_lt .b .b;change 2*k/p+cg (l.map λk=>2*k/p)=0;rw[o,f λy t=>d y (ę _ t)];rfl
 rw[q _ λ_ z=>z] at h;let b:=QJ ↥((p-1)/2);let g:cg (Hl p)=cg ((Ö ↥((p-1)/2)).map λi:Nat=>(i:Int)+1):=rfl;rw[<-g] at b;let u:(↥((p-1)/2):Int)=(p-1)/2:=.b
 rw[u] at b;let m:∃c r,p=8*c+r/\(r=1\/r=3\/r=5\/r=7):=#[p/8,p%8,.b,.b];let⟨c,r,j,s⟩:=m;let key:∀x:Int,(p-1)/2=x->2*cg (Hl p)=x*(x+1):=λx n=>by rwa[<-n]
 obtain rfl|rfl|rfl|rfl:=s
 .let k:=key (4*c) .b
  let:cg (Hl p)=2*(c*(4*c+1)):=by
   let:4*c*(4*c+1)=2*(2*(c*(4*c+1))):=by grind
   lia
  rw[adI .b];delta rW;rw[adI .b]
 .let k:=key (4*c+1) .b
  let:cg (Hl p)=2*(4*(c*c)+3*c)+1:=by
   let:(4*c+1)*(4*c+1+1)=2*(2*(4*(c*c)+3*c)+1):=by grind
   lia
  rw[adF .b];delta rW;rw[adF .b]
 .let k:=key (4*c+2) .b
  let:cg (Hl p)=2*(4*(c*c)+5*c+1)+1:=by
   let:(4*c+2)*(4*c+2+1)=2*(2*(4*(c*c)+5*c+1)+1):=by grind
   lia
  rw[adF .b];delta rW;rw[adF .b]
 .let k:=key (4*c+3) .b
  let:cg (Hl p)=2*(4*(c*c)+7*c+3):=by
   let:(4*c+3)*(4*c+3+1)=2*(2*(4*(c*c)+7*c+3)):=by grind
   lia
  rw[adI .b];delta rW;rw[adI .b]
def Hg(hp:aN p=Á)(h2:p≠2):bO (-1) p=if p%4=3 then -1 else 1:=by
 let b:=gN hp h2
 let ha:¬p∣-1:=λz=>by
  let:=Ę .a ((ae0).mp z);lia
 let a:∀n:Nat,(-1:Int)^(2*n)=1:=λn=>by rw[ail,show(-1:Int)^2=1 from rfl,Int.one_pow]
 split
 .show(iC hp h2 ha).mpr ?_;let e:↥((p-1)/2)=2*(↥((p-1)/2)/2)+1:=.b
  rw[e,Ī,a];show#[0,.b]
 .show(fL hp h2 ha).mpr ?_;let e:↥((p-1)/2)=2*(↥((p-1)/2)/2):=.b
  rw[e,a];show#[0,.b]
def sm(n:Nat)(f:Nat->Int):Int:=cg ((Ö n).map f)
def fD(n:Nat)(f:Nat->Int):sm (n+1) f=sm n f+f n:=by
 let ap:∀(l:.L) (x:Int),cg (l++[x])=cg l+x:=λl x=>by
  induction l with
  |nil=>show x+0=0+x;lia
  |cons y l a=>show y+cg (l++[x])=y+cg l+x;lia
 delta sm;rw[aij,agf,ů,agt,ap]
def Dl(n:Nat)(f g:Nat->Int):sm n (λi=>f i+g i)=sm n f+sm n g:=by
 induction n with
 |zero=>rfl
 |succ n a=>rw[fD,fD,fD,a];lia
def u_{f g:Nat->Int}(h:∀i,i<n->f i=g i):sm n f=sm n g:=by
 induction n with
 |zero=>rfl
 |succ n a=>rw[fD,fD,a λi hi=>h i .b,h n .b]
def NB(n:Nat):sm n (λ_=>0)=0:=by
 induction n with
 |zero=>rfl
 |succ n a=>rw[fD,a];rfl
def NZ(m n:Nat)(f:Nat->Nat->Int):sm m (λi=>sm n (f i))=sm n (λj=>sm m λi=>f i j):=by
 induction m with
 |zero=>rw[show(λj=>sm 0 λi=>f i j)=λ_=>0 from rfl,NB];rfl
 |succ m a =>
  rw[fD,a,show(λj=>sm (m+1) λi=>f i j)=λj=>(sm m λi=>f i j)+f m j from funext λj=>fD m _,Dl]
def QE(n:Nat):sm n (λ_=>1)=n:=by
 induction n with
 |zero=>rfl
 |succ n a=>rw[fD,a];lia
def cnt(b:0<=x):sm n (λj=>if (j:Int)+1<=x then 1 else 0)=if x<=n then x else n:=by
 induction n with
 |zero=>show .N=_;split<;>lia
 |succ n a =>
  rw[fD,a];split<;>split<;>split<;>lia
def below{t:Int}(hp:0<p)(b:0<=t)(c:¬p∣t)(f:t/p<=n):sm n (λj=>if p*((j:Int)+1)<t then 1 else 0)=t/p:=by
 let d:0<=t/p:=ag0 b .b;let e:=cnt (n:=n) d;rw[adI f] at e;rw[<-e];show u_ λj _=>?_
 let a:p*((j:Int)+1)<t↔(j:Int)+1<=t/p:=by
  rw[Int.le_ediv_iff_mul_le hp,ī];constructor
  .intro z;lia
  .intro z;obtain w|w:=afy z
   .show w
   .show absurd #[_,by rw[<-w,ī]] c
 by_cases z:p*((j:Int)+1)<t
 .rw[adI z,adI (a.mp z)]
 .rw[adF z,adF λw=>z (a.mpr w)]
def PD(hp:aN p=Á)(h2:p≠2)(d:aN q=Á)(b:q≠2)(e:p≠q):
  cg ((Hl p).map λk=>q*k/p)=sm ↥((p-1)/2) λi=>sm ↥((q-1)/2) λj=>if p*((j:Int)+1)<q*((i:Int)+1) then 1 else 0:=by
 let g:=gN hp h2;let f:=gN d b
 let c:¬p∣q:=λz=>by
  obtain w|w:=iJ d (.b:0<p) z<;>lia
 delta Hl sm;rw[List.map_map];change sm ↥((p-1)/2) _=sm ↥((p-1)/2) _;show u_ λi hi=>?_;change q*((i:Int)+1)/p=sm _ _;show(below .b (Ϝ .b .b) (λz=>?_) ?_).symm
 .obtain w|w:=euclid hp z
  .show c w
  .let:=cL w .b .b;lia
 .let h1:q*((i:Int)+1)<((q-1)/2+1)*p:=by
   let a:2*((i:Int)+1)<=p-1:=.b
   let:q*(2*((i:Int)+1))<=q*(p-1):=Ł a .b;let e2:2*((q-1)/2+1)=q+1:=.b
   let e3:2*(((q-1)/2+1)*p)=(q+1)*p:=by rw[<-ĵ,e2]
   let e4:q*(2*((i:Int)+1))=2*(q*((i:Int)+1)):=by grind
   let e5:q*(p-1)=q*p-q:=by grind
   let h:(q+1)*p=q*p+p:=by grind
   lia
  let:=ais (.b:0<p) h1;lia
def N9(hp:aN p=Á)(h2:p≠2)(d:aN q=Á)(a:q≠2)(b:p≠q):
  cg ((Hl p).map λk=>q*k/p)+cg ((Hl q).map λk=>p*k/q)=(p-1)/2*((q-1)/2):=by
 let m:=gN hp h2;let l:=gN d a
 let e:¬p∣q:=λz=>by
  obtain w|w:=iJ d (.b:0<p) z<;>lia
 rw[PD hp h2 d a b,PD d a hp h2 (λz=>b z.symm),NZ ↥((q-1)/2),<-Dl]
 let e1:sm ↥((p-1)/2) (λi=>(sm ↥((q-1)/2) λj=>if p*((j:Int)+1)<q*((i:Int)+1) then 1 else 0)+sm ↥((q-1)/2) λf=>if q*((i:Int)+1)<p*((f:Int)+1) then 1 else 0)=sm ↥((p-1)/2) λ_=>(↥((q-1)/2):Int):=by
  show u_ λi hi=>?_;rw[<-Dl,<-QE ↥((q-1)/2)];show u_ λj o=>?_
  let g:p*((j:Int)+1)≠q*((i:Int)+1):=λz=>by
   obtain w|w:=euclid hp (show p∣q*((i:Int)+1) from #[_,z.symm])
   .show e w
   .let:=cL w .b .b;lia
  generalize p*((j:Int)+1)=x at *;generalize q*((i:Int)+1)=y at *;split<;>split<;>lia
 rw[e1]
 let e2:∀(n:Nat) (c:Int),sm n (λ_=>c)=n*c:=λn c=>by
  induction n with
  |zero=>show .N=_;simp
  |succ n h=>rw[fD,h];simp[Int.add_mul]
 rw[e2];rw[(.b:(↥((p-1)/2):Int)=(p-1)/2),(.b:(↥((q-1)/2):Int)=(q-1)/2)]
def La(hp:aN p=Á)(h2:p≠2)(d:aN q=Á)(c:q≠2)(g:p≠q):bO q p*bO p q=if p%4=3/\q%4=3 then -1 else 1:=by
 let i:=gN hp h2;let h:=gN d c
 let e:¬p∣q:=λz=>by
  obtain w|w:=iJ d (.b:0<p) z<;>lia
 let f:¬q∣p:=λz=>by
  obtain w|w:=iJ hp (.b:0<q) z<;>lia
 rw[Lg hp h2 e,Lg d c f,Bk (Pw hp h2 e h.1),Bk (Pw d c f i.1),<-Fl,N9 hp h2 d c g];delta rW;let j:=ϛ ((p-1)/2) ((q-1)/2) 2;rw[j];by_cases a:p%4=3<;>by_cases b:q%4=3
 .rw[(.b:(p-1)/2%2=1),(.b:(q-1)/2%2=1)];simp[a,b]
 .rw[(.b:(p-1)/2%2=1),(.b:(q-1)/2%2=0)];simp[a,b]
 .rw[(.b:(p-1)/2%2=0)];simp[a]
 .rw[(.b:(p-1)/2%2=0)];simp[a]
def Cg(p a b:Int):Prop:=p∣a-b
def jz(p a:Int):Cg p a a:=#[0,.b]
def Ac(h:Cg p a b):Cg p b a:=by let⟨c,h⟩:=h;show#[-c,by rw[ahN];lia]
def cP(h:Cg p a b)(h':Cg p b c):Cg p a c:=by
 let⟨x,h⟩:=h;let⟨y,h'⟩:=h';show#[x+y,by rw[af8];lia]
def jR(h:Cg p a b)(h':Cg p c d):Cg p (a*c) (b*d):=by
 let⟨x,h⟩:=h;let⟨y,h'⟩:=h';show#[x*c+b*y,by grind]
theorem sL{p a b:Int}(h:Cg p a b):∀n:Nat,Cg p (a^n) (b^n):=zrN (by rw[ŀ,ŀ];show jz _ _) λn sL=>by rw[Ī,Ī];show jR (sL) h
def fS(p a:Int):Cg p (a%p) a:=by
 let:=afl a p;show#[-(a/p),by rw[ahN];lia]
def Pq(ha:0<=a/\a<p)(c:0<=b/\b<p)(h:Cg p a b):a=b:=by
 let:=cL h .b .b;lia
def Uo(hp:aN p=Á)(h:Cg p (y*y) 1):Cg p y 1\/Cg p y (-1):=by
 let:p∣(y-1)*(y+1):=by rwa[(by grind:(y-1)*(y+1)=y*y-1)]
 obtain z|z:=euclid hp this
 .show .inl z
 .show .inr (by delta Cg;rwa[(.b:y - -1=y+1)])
def PN(p k:Int):Prop:=2<=k/\bO k p=-1/\∀j,2<=j->j<k->bO j p≠-1
def PN.uniq(a b:Int)(ha:PN p a)(c:PN p b):a=b:=by
 obtain z|z|z:=agj a b
 .show absurd ha.2.1 (c.2.2 a ha.1 z)
 .show z
 .show absurd c.2.1 (ha.2.2 b c.1 z)
def p6(p:Int):Int:=ú (PN p)
def Ro(h:PN p k):k=p6 p:=tR PN.uniq h
def NR(p:Int):Prop:=∃g,2<=g/\bO g p=-1
def vH(h:NR p):PN p (p6 p):=by
 let⟨g,h1,d⟩:=h
 let:∀n:Nat,(∃k,PN p k)\/∀j:Int,2<=j->j<2+(n:Int)->bO j p≠-1:=λn=>by
  induction n with
  |zero=>show .inr λj a b=>by lia
  |succ n c =>
   obtain z|z:=c
   .show .inl z
   .by_cases w:bO (2+(n:Int)) p=-1
    .show .inl #[2+(n:Int),.b,w,λj a b=>z j a b]
    .show .inr λj a b=>?_;by_cases e:j=2+(n:Int)
     .rwa[e]
     .show z j a .b
 obtain⟨k,z⟩|z:=this ↥(g-1)
 .rwa[<-Ro z]
 .show absurd d (z g h1 .b)
def OS(e p s:Int):Prop:=0<=s/\Cg p (e^2^↥s) 1/\∀j:Nat,(j:Int)<s->¬Cg p (e^2^j) 1
def OS.uniq(a b:Int)(ha:OS e p a)(c:OS e p b):a=b:=by
 obtain z|z|z:=agj a b
 .show absurd ha.2.1 (c.2.2 ↥a (by let:=ha.1;lia))
 .show z
 .show absurd c.2.1 (ha.2.2 ↥b (by let:=c.1;lia))
def k_(e p:Int):Int:=ú (OS e p)
def QV(h:OS e p s):s=k_ e p:=tR OS.uniq h
def KG(h:Cg p (e^2^n) 1):OS e p (k_ e p)/\k_ e p<=n:=by
 let:∀m:Nat,(∃s:Nat,s<=m/\OS e p s)\/∀j:Nat,j<=m->¬Cg p (e^2^j) 1:=λm=>by
  induction m with
  |zero =>
   by_cases w:Cg p (e^2^0) 1
   .show .inl #[0,Ā 0,.b,w,λj a=>by lia]
   .show .inr λj a=>by rwa[Nat.le_zero.mp a]
  |succ m b =>
   obtain⟨s,c,z⟩|z:=b
   .show .inl #[s,.b,z]
   .by_cases w:Cg p (e^2^(m+1)) 1
    .show .inl #[m+1,Ā _,.b,w,λj a=>z j .b]
    .show .inr λj a=>?_;by_cases q:j=m+1
     .rwa[q]
     .show z j .b
 obtain⟨s,c,z⟩|z:=this n
 .rw[<-QV z];show#[z,.b]
 .show absurd h (z n (Ā n))
noncomputable def mq(p m:Int):Nat->Int
 |0=>m
 |i+1=>mq p m i*mq p m i%p
theorem P9(p m:Int):∀i,Cg p (mq p m i) (m^2^i):=zrN (by change Cg p m (m^1);rw[Ī,ŀ,Ś];show jz _ _) λi P9=>by
  let h:=P9;show cP (fS p _) ?_;rw[(by rw[af9];lia:(2:Nat)^(i+1)=2^i+2^i),Ź];show jR h h
def MH(hp:0<p)(a:0<=m/\m<p):∀i,0<=mq p m i/\mq p m i<p
 |0=>a
 |_+1=>#[ŭ _ .b,Ů _ hp]
def sA(p:Int):Nat->Int->Int->Int->Int->Int
 |0,_,r,_,_=>r
 |n+1,t,r,e,m=>if e=1 then r else sA p n (k_ e p) (r*mq p m ↥(t-k_ e p-1)%p) (e*(mq p m ↥(t-k_ e p-1)*mq p m ↥(t-k_ e p-1)%p)%p) (mq p m ↥(t-k_ e p-1)*mq p m ↥(t-k_ e p-1)%p)
structure T3(p k t r e m:Int):Prop where
 r0:0<=r/\r<p
 e0:0<=e/\e<p
 m0:0<=m/\m<p
 t1:1<=t
 rr:Cg p (r*r) (k*e)
 ee:Cg p (e^2^↥(t-1)) 1
 mm:e≠1->Cg p (m^2^↥(t-1)) (-1)
def T3.step{t:Int}(hp:aN p=Á)(I:T3 p k t r e m)(he:e≠1):
  OS e p (k_ e p)/\1<=k_ e p/\k_ e p<t/\T3 p k (k_ e p) (r*mq p m ↥(t-k_ e p-1)%p) (e*(mq p m ↥(t-k_ e p-1)*mq p m ↥(t-k_ e p-1)%p)%p) (mq p m ↥(t-k_ e p-1)*mq p m ↥(t-k_ e p-1)%p):=by
 let l:=au hp;let⟨a,i⟩:=KG I.ee;let q:=I.t1
 let b:1<=k_ e p:=by
  apply ğ;intro u;let hz:k_ e p=0:=by let:=a.1;lia
  let h1:=a.2.1;rw[hz] at h1
  let f:Cg p e 1:=by
   let:e^2^↥(0:Int)=e:=by change e^1=e;rw[Ī,ŀ,Ś]
   rwa [this] at h1
  show he (Pq I.e0 #[.a,.b] f)
 let c:k_ e p<t:=.b
 show#[a,b,c,?_];generalize n:k_ e p=s at *;let h:=P9 p m ↥(t-s-1);let j:=MH (.b:0<p) I.m0 ↥(t-s-1);generalize mq p m ↥(t-s-1)=x at *
 let e1:Cg p (e^2^↥(s-1)) (-1):=by
  let d:Cg p (e^2^↥(s-1)*e^2^↥(s-1)) 1:=by
   rw[<-Ź,(by rw[(.b:↥s=↥(s-1)+1),af9];lia:2^↥(s-1)+2^↥(s-1)=2^↥s)];show a.2.1
  obtain z|z:=Uo hp d
  .show absurd z (a.2.2 ↥(s-1) .b)
  .show z
 let o:Cg p (x^2^↥s) (-1):=by
  show cP (sL h _) ?_;rw[<-ail,<-ahM,(.b:↥(t-s-1)+↥s=↥(t-1))];show I.mm he
 let g:Cg p ((x*x%p)^2^↥(s-1)) (-1):=by
  show cP (sL (fS p _) _) ?_;rw[ahO,<-Ź,(by rw[(.b:↥s=↥(s-1)+1),af9];lia:2^↥(s-1)+2^↥(s-1)=2^↥s)];show o
 let bd:∀y:Int,0<=y%p/\y%p<p:=λy=>#[ŭ _ .b,Ů _ .b];show#[bd _,bd _,bd _,b,?_,?_,λ_=>g]
 .let h1:Cg p (r*x%p*(r*x%p)) (r*x*(r*x)):=jR (fS _ _) (fS _ _);let h2:Cg p (k*(e*(x*x%p)%p)) (k*(e*(x*x))):=jR (jz _ _) (cP (fS _ _) (jR (jz _ _) (fS _ _)));show cP h1 (cP ?_ (Ac h2));rw[(by grind:r*x*(r*x)=r*r*(x*x)),(by grind:k*(e*(x*x))=k*e*(x*x))];show jR I.rr (jz _ _)
 .show cP (sL (fS p _) _) ?_;rw[ahO];show cP (jR e1 g) ?_;show jz _ _
theorem Ga{p k:Int}(hp:aN p=Á):∀(n:Nat) (t r e m:Int),T3 p k t r e m->t<=n->(0<=sA p n t r e m/\sA p n t r e m<p)/\Cg p (sA p n t r e m*sA p n t r e m) k:=zrN (λt r e m I h=>by let:=I.t1;lia) λn Ga t r e m I h=>by
  unfold sA;split
  .rename_i he;show#[I.r0,?_];let:=I.rr
   rwa [he,Đ] at this
  .rename_i he;let⟨d,a,b,c⟩:=I.step hp he;show Ga _ _ _ _ c .b
def MZ(k p:Int):Int:=sA p ↥(a7 (p-1) 2).1 (a7 (p-1) 2).1 (k^↥(((a7 (p-1) 2).2+1)/2)%p) (k^↥(a7 (p-1) 2).2%p) (if k^↥(a7 (p-1) 2).2%p≠1 then p6 p^↥(a7 (p-1) 2).2%p else 1)
def vZ(hp:aN p=Á)(h2:p≠2):1<=(a7 (p-1) 2).1/\(a7 (p-1) 2).2%2=1/\1<=(a7 (p-1) 2).2/\↥(a7 (p-1) 2).2*2^↥((a7 (p-1) 2).1-1)=↥((p-1)/2):=by
 let d:=gN hp h2;let⟨f,g,a,c⟩:=Ae (.a:.O<=2) (.b:0<p-1) (.b:.O∣p-1);let⟨b1,b2,b3⟩:=fM (.a:.O<=2) (.b:p-1≠0);show#[a,.b,.b,?_];generalize (a7 (p-1) 2).1=t at *;generalize (a7 (p-1) 2).2=o at *;let e:↥t=↥(t-1)+1:=.b
 rw[e,Ī] at b2
 let h:o*2^↥(t-1)=(p-1)/2:=by
  let:p-1=2*(o*2^↥(t-1)):=by rw[b2];grind
  lia
 let b:((↥o*2^↥(t-1):Nat):Int)=o*2^↥(t-1):=by
  rw[ϴ,ahB];rw[(.b:((↥o:Nat):Int)=o)];rfl
 lia
def Bm(hp:aN p=Á)(h2:p≠2)(i:0<=k/\k<p)(a:bO k p=1)(f:NR p):
  T3 p k (a7 (p-1) 2).1 (k^↥(((a7 (p-1) 2).2+1)/2)%p) (k^↥(a7 (p-1) 2).2%p) (if k^↥(a7 (p-1) 2).2%p≠1 then p6 p^↥(a7 (p-1) 2).2%p else 1):=by
 let h:=gN hp h2;let⟨e,g,j,heq⟩:=vZ hp h2;generalize (a7 (p-1) 2).1=t at *;generalize (a7 (p-1) 2).2=o at *;let bd:∀y:Int,0<=y%p/\y%p<p:=λy=>#[ŭ _ .b,Ů _ .b];let b:¬p∣k:=λz=>by rw[eN z] at a;cases a
 show#[bd _,bd _,?_,e,?_,?_,λhe=>?_]
 .split
  .show bd _
  .show#[.a,.b]
 .let h1:Cg p (k^↥((o+1)/2)%p*(k^↥((o+1)/2)%p)) (k^↥((o+1)/2)*k^↥((o+1)/2)):=jR (fS _ _) (fS _ _);show cP h1 ?_;rw[<-Ź,(.b:↥((o+1)/2)+↥((o+1)/2)=↥o+1),Ī,ī];show jR (jz _ _) (Ac (fS _ _))
 .show cP (sL (fS p _) _) ?_;rw[<-ail,heq];show(fL hp h2 b).mp a
 .rw[adI he];show cP (sL (fS p _) _) ?_;rw[<-ail,heq];let d:=vH f
  let c:¬p∣p6 p:=λz=>by
   let:=d.2.1;rw[eN z] at this;cases this
  let:=(iC hp h2 c).mp d.2.1;delta Cg;rw[show ∀y:Int,y - -1=y+1 from λy=>by lia];show this
def Tw(hp:aN p=Á)(h2:p≠2)(c:0<=k/\k<p)(a:bO k p=1)(b:NR p):(0<=MZ k p/\MZ k p<p)/\Cg p (MZ k p*MZ k p) k:=by
 let⟨d,_⟩:=vZ hp h2;show Ga hp _ _ _ _ _ (Bm hp h2 c a b) .b
def Ai(k p:Int):Option Int:=if bO k p=-1 then none else if bO k p=0\/p=2 then À (bO k p) else À (MZ (k%p) p)
def xw:Ai k p=none↔bO k p=-1:=by
 delta Ai;split
 .rename_i h;show#[λ_=>h,λ_=>rfl]
 .rename_i h;split
  .show#[λz=>(Ξ _ z).elim,λz=>absurd z h]
  .show#[λz=>(Ξ _ z).elim,λz=>absurd z h]
def Rn(hp:aN p=Á)(h2:p≠2)(e:NR p)(h:Ai k p=À r):(0<=r/\r<p)/\Cg p (r*r) k:=by
 let i:=au hp;delta Ai at h;by_cases h1:bO k p=-1
 .rw[adI h1] at h;cases h
 .rw[adF h1] at h;by_cases a:bO k p=0
  .rw[adI (.inl a)] at h
   let d:r=0:=by
    let:=ķ h;lia
   let g:p∣k:=by
    apply ğ;intro e;obtain z|z:=cG e<;>lia
   rw[d];let⟨c,j⟩:=g;show#[#[.a,.b],#[-c,by rw[ahN];lia]]
  .rw[adF (λz=>z.elim a h2)] at h;let d:=ķ h;let b:¬p∣k:=λz=>a (eN z);let f:bO k p=1:=by obtain z|z:=cG b<;>lia
   let:=Tw (k:=k%p) hp h2 #[ŭ _ .b,Ů _ .b] (by rwa[Al]) e;rw[d] at this;show#[this.1,cP this.2 (fS _ _)]
def fT{n:Int}(h:k∣n*m)(a:È k m=1):k∣n:=by
 let:=Int.dvd_mul_gcd_iff_dvd_mul.mpr h;rw[a] at this;simpa using this
def dm(n:Int):Prop:=n≠0/\∀d:Int,2<=d->¬d*d∣n
def oF:dm 1:=#[.a,λd a h=>by
 let:=Ę .a h;let:2*2<=d*d:=Ű a a .a .b
 lia]
def lA{n:Int}(h:dm n):dm (-n):=#[by let:=h.1;lia,λd a z=>h.2 d a (ae0.mp z)]
def vv{n:Int}(h:dm n)(a:m∣n):dm m:=#[by rintro rfl;show h.1 (aiH.mp a),λd h2 z=>h.2 d h2 (İ z a)]
def ky(hp:aN p=Á)(h:¬p∣d):È d p=1:=by
 let a:=au hp
 let h1:=iJ hp (d:=(È d p:Int)) (by
  let:0<È d p:=Int.gcd_pos_of_ne_zero_right _ .b
  lia) (ϻ ..)
 obtain h1|h1:=h1
 .lia
 .show absurd (by rw[<-h1];show Ϻ ..) h
def jE{n:Int}(h:dm n)(hp:aN p=Á)(f:¬p∣n):dm (n*p):=#[ë h.1 (by let:=au hp;lia),λd b z=>by
 let e:=au hp;by_cases a:p∣d
 .let⟨c,rfl⟩:=a;let:p*p∣n*p:=İ #[c*c,by grind] z;show f (Int.dvd_of_mul_dvd_mul_right .b this)
 .show h.2 d b (fT z (ky hp λw=>by obtain w|w:=euclid hp w<;>show a w))]
def RI(b:È r s=1):È (s*s) (r*r)=1:=by
 let a:È s (r*r)=1:=by rw[Int.gcd_mul_right_right_of_gcd_eq_one (by rwa[agu]),agu];show b
 rwa[Int.gcd_mul_right_left_of_gcd_eq_one a]
def E4(b:dm f)(c:0<s)(a:È r s=1)(h:s*s∣f*(r*r)):s=1:=by
 let h2:s*s∣f:=fT h (RI a);obtain z|z:=Ϗ s 2
 .lia
 .show absurd h2 (b.2 s z)
def ny{n:Int}(k:dm n)(i:dm f)(o:0<r)(l:0<s)(e:n*(r*r)=f*(s*s)):n=f/\r=s:=by
 obtain⟨g,r',s',d,a,j,es⟩:∃g r' s':Int,0<g/\È r' s'=1/\r=g*r'/\s=g*s':=by
  let h:0<È r s:=agP _ .b;show#[È r s,r/È r s,s/È r s,.b,?_,(agl (Ϻ ..)).symm,(agl (ϻ ..)).symm];rw[Int.gcd_ediv_gcd_ediv_gcd h]
 subst j es
 let c:0<r':=by
  obtain z|z:=Ϗ 0 r'
  .show z
  .let:=ϵ (afT d) z;lia
 let b:0<s':=by
  obtain z|z:=Ϗ 0 s'
  .show z
  .let:=ϵ (afT d) z;lia
 let m:n*(r'*r')=f*(s'*s'):=by
  let:(g*g)*(n*(r'*r'))=(g*g)*(f*(s'*s')):=by grind
  show afO (ë .b .b) this
 let h1:s'=1:=E4 k b a #[f,by grind];let h2:r'=1:=E4 i c (by rwa[agu]) #[n,by grind];subst h1 h2;show#[.b,rfl]
def Dr(A:Int):Prop:=∀q,aN q=Á->q∣A->q<32768
def NF(l:Int):Prop:=∀q,aN q=Á->q∣l->32768<=q
def fj(h:2<=k):∃q,aN q=Á/\q∣k:=by
 let⟨⟨b,a⟩,hp⟩:=pU (k:=k) .b;cases c:oh k with
 |nil=>rw[c] at hp;simp only[pp] at hp;lia
 |cons u us =>
  rw[c] at a hp;show#[u.1,a.2.1,?_];rw[<-hp,pp];let h1:=a.2.2.1;obtain⟨m,d⟩:∃m,↥u.2=m+1:=#[↥u.2-1,.b];rw[d,Ī];show#[u.1^m*pp us,by grind]
def vN(h:∀q,aN q=Á->q∣a->¬q∣b)(ha:a≠0):È a b=1:=by
 let c:0<È a b:=agP _ ha;obtain z|z:=aiI (È a b) 2
 .lia
 .let⟨q,h1,h2⟩:=fj (k:=(È a b:Int)) .b;show absurd (İ h2 (ϻ ..)) (h q h1 (İ h2 (Ϻ ..)))
def AI(ha:Dr A)(c:NF l)(b:l≠0):È l A=1:=vN (λq h1 h2 a=>by let:=ha q h1 a;let:=c q h1 h2;lia) b
def qE(ha:Dr A)(a:Dr B):Dr (A*B):=λq h1 h2=>by obtain z|z:=euclid h1 h2;show ha q h1 z;show a q h1 z
def OE(ha:NF A)(a:NF B):NF (A*B):=λq h1 h2=>by obtain z|z:=euclid h1 h2;show ha q h1 z;show a q h1 z
def LH(a:0<A)(h:A<32768):Dr A:=λq _ h2=>by let:=Ę a h2;lia
def N1:NF 1:=λq h1 h2=>by let:=Ę .a h2;let:=au h1;lia
theorem Fh{q:Int}(a:aN q=Á)(h:q<32768):∀n:Nat,Dr (q^n):=zrN (λr h1 h2=>by rw[ŀ] at h2;let:=Ę .a h2;let:=au h1;lia) λn Fh=>by
  rw[Ī];show qE (Fh) λr h1 h2=>by let:=Ę (by let:=au a;lia) h2;lia
def qy(g:0<l)(h:l%2=1)(b3:3<=b)(i:b%2=1)(f:∀d,3<=d->d<b->d%2=1->¬d∣l)(e:ur l b 32768=none):∀d,3<=d->d<32768->d*d<=l->d%2=1->¬d∣l:=λd h1 h2 c a=>by
 obtain z|z:=Ϗ d b
 .show f d h1 z a
 .show Bv .b .b e d z h2 c .b
def xA{fs:List (Int×Int)}(I:C0 k fs l b)(g:ur l b 32768=none)(h1:1<l)(h2:l<1073741824):aN l=Á/\b<=l:=by
 let h:=qy I.pos I.odd I.b3 I.bo I.free g;let a:=I.odd;show#[cQ.mpr (.inr #[.b,a,λd c f e=>h d c ?_ f e]),?_]
 .obtain z|z:=Ϗ d 32768
  .show z
  .let:32768*32768<=d*d:=Ű z z .a .b;lia
 .obtain z|z:=Ϗ l b
  .show absurd (ϳ l) (I.free l .b z a)
  .show z
def wI{fs:List (Int×Int)}(I:C0 k fs l b)(d:ur l b 32768=none)(h:1073741824<=l):NF l:=λq h1 h2=>by
 let e:=qy I.pos I.odd I.b3 I.bo I.free d;obtain z|z:=Ϗ q 32768
 .obtain w|⟨a,c,f⟩:=cQ.mp h1
  .subst w;let:=I.odd;lia
  .let:q*q<=32768*32768:=Ű .b .b .b .a;show absurd h2 (e q a z .b c)
 .show z
theorem yT{k e:Int}:∀(n:Nat) (fs:List (Int×Int)) (l b:Int),C0 k fs l b->(∀u∈fs,u.1<e)->∀u∈(Io e n fs l b).1,u.1<e:=zrN (λfs l b I h=>h) λn yT fs l b I h=>by
  unfold Io;cases a:ur l b e with
  |none=>show h
  |some d =>
   show yT _ _ _ (I.step a) λu c=>?_;obtain z|z:=aen.mp c
   .show h u z
   .let:=n9 (afT I.pos) (by let:=I.b3;lia) a;simp only[ad0] at z;subst z;show this.2.1
def xf(b:1<=k)(he:2<e):∀u∈(bM k e).1,u.1<e:=by
 show yT _ _ _ _ (sG b).1 λu a=>?_;unfold CD at a;split at a
 .simp only[ad0] at a;subst a;show he
 .cases a
theorem kj:∀{us:List (Int×Int)} {a b:Int},ic a us b->∀u∈us,aN u.1=Á/\1<=u.2
 |u::us,a,b,h,v,c=>by
  obtain z|z:=đ.mp c
  .subst z;show#[h.2.1,h.2.2.1]
  .show kj h.2.2.2 v z
theorem DH:∀{us:List (Int×Int)},(∀u∈us,aN u.1=Á/\u.1<32768)->Dr (pp us):=@zrL _ _ (@λ_=>λq h1 h2=>by let b:q∣1:=h2;let:=Ę .a b;let:=au h1;lia) (@λu us DH h=>qE (Fh (h u (ġ ..)).1 (h u (ġ ..)).2 _) (DH λv a=>h v (ę _ a)))
def DM(f:1<=s):∃A L,Dr A/\NF L/\0<A/\0<L/\s=A*L:=by
 let⟨b,I,h⟩:=oD (k:=s) (e:=32768) f;let a:Dr (pp (bM s 32768).1):=DH λu d=>#[(kj I.rise u d).1,xf f .a u d];let hp:=lh .a I.rise;let g:=I.pos;by_cases h1:(bM s 32768).2<32768
 .show#[s,1,by rw[<-I.prod];show qE a (LH g h1),N1,.b,.a,.b]
 .show#[_,_,a,?_,hp,g,I.prod.symm];by_cases h2:(bM s 32768).2<1073741824
  .let:=xA I h .b h2;intro q c i;obtain z|z:=iJ this.1 (by let:=au c;lia) i
   .let:=au c;lia
   .lia
  .show wI I h .b
def RW{L:Int}(a:Dr A)(b:Dr B)(g:NF l)(c:NF L)(d:0<l)(h1:0<L)(e:A*l=B*L):l=L:=by
 let f:l∣L:=fT (k:=l) (n:=L) (m:=B) #[A,by grind] (AI b g .b);let h:L∣l:=fT (k:=L) (n:=l) (m:=A) #[B,by grind] (AI a c .b);let:=Ę h1 f;let:=Ę d h;lia
def Tame(k:Int):Prop:=(∃f s,Dr f/\0<f/\1<=s/\k=f*(s*s))\/(∃f P,Dr f/\0<f/\aN P=Á/\P<1073741824/\k=f*P)
def Ib{fs:List (Int×Int)}(h:Tame k)(y:1<=k)(I:C0 k fs l b)(t:∀u∈fs,u.1<32768)(w:ur l b 32768=none):l<1073741824\/rt l*rt l=l:=by
 obtain z|z:=Ϗ l 1073741824
 .show .inl z
 let j:=wI I w z;let a:Dr (pp fs):=DH λu g=>#[(kj I.rise u g).1,t u g];let c:=I.prod;obtain⟨f,s,h1,h2,d,o⟩|⟨f,P,h1,h2,d,o,B⟩:=h
 .let⟨A,L,p,q,x,i,r⟩:=DM d;let e:l=L*L:=RW a (qE h1 (qE p p)) j (OE q q) .b (Ħ i i) (by rw[c,o,r];grind);right;let:L=rt l:=d_ .b .b (by rw[e];grind);rw[<-this,e]
 .let v:l∣P:=fT (k:=l) (n:=P) (m:=f) #[pp fs,by grind] (AI h1 j .b);let:=Ę (by let:=au d;lia) v;lia
noncomputable def my(c:Int×Int)(u:Int×Int):Int×Int:=(if u.2%2=1 then c.1*u.1 else c.1,c.2*u.1^↥(u.2/2))
theorem Dw:∀{us:List (Int×Int)} {a b:Int} {c:Int×Int},ic a us b->dm c.1->(∀q,aN q=Á->a<q->¬q∣c.1)->0<c.2 ->
  dm (us.foldl my c).1/\0<(us.foldl my c).2/\(us.foldl my c).1*((us.foldl my c).2*(us.foldl my c).2)=c.1*(c.2*c.2)*pp us
 |[],a,b,c,_,f,_,i=>#[f,i,by simp[pp]]
 |u::us,a,b,c,s,f,g,i=>by
  let⟨p,h,w,k⟩:=s;let v:=au h;let d:0<u.1^↥(u.2/2):=Ş .b
  let l:dm (my c u).1:=by
   delta my;dsimp only;split
   .show jE f h (g _ h p)
   .show f
  let r:∀q,aN q=Á->u.1<q->¬q∣(my c u).1:=λq h1 h2 e=>by
   delta my at e;dsimp only at e;split at e
   .obtain z|z:=euclid h1 e
    .show g q h1 .b z
    .let:=Ę .b z;lia
   .show g q h1 .b e
  let t:0<(my c u).2:=Ħ i d;let⟨o,n,m⟩:=Dw (c:=my c u) k l r t;show#[o,n,?_];rw[List.foldl_cons,m,pp]
  let j:(if u.2%2=1 then u.1 else 1)*(u.1^↥(u.2/2)*u.1^↥(u.2/2))=u.1^↥u.2:=by
   rw[<-Ź];by_cases z:u.2%2=1
   .rw[adI z,(.b:↥u.2=(↥(u.2/2)+↥(u.2/2))+1),Ī,ī]
   .rw[adF z,Ś,(.b:↥u.2=↥(u.2/2)+↥(u.2/2))]
  delta my;dsimp only;rw[<-j];generalize u.1^↥(u.2/2)=y;split<;>grind
def uX(k:Int):List (Int×Int)×Int :=
 if 1<(bM k 32768).2/\(bM k 32768).2<1073741824 then ((bM k 32768).1++[((bM k 32768).2,1)],1) else ((bM k 32768).1,rt (bM k 32768).2)
def DC(d:1<=k)(g:Tame k):(1<(bM k 32768).2/\(bM k 32768).2<1073741824\/rt (bM k 32768).2*rt (bM k 32768).2=(bM k 32768).2)/\(∃b,ic 1 (uX k).1 b)/\0<(uX k).2/\pp (uX k).1*((uX k).2*(uX k).2)=k:=by
 let⟨b,I,f⟩:=oD (k:=k) (e:=32768) d;let h:=Ib g d I (xf d .a) f;let hpos:=I.pos;let a:=I.prod;delta uX;by_cases h1:1<(bM k 32768).2/\(bM k 32768).2<1073741824
 .rw[adI h1];let⟨i,p2⟩:=xA I f h1.1 h1.2;show#[.inl h1,#[_,ic.snoc i (by dsimp only;decide) p2 (b':=(bM k 32768).2+1) .e I.rise],by dsimp only;decide,?_];dsimp only;rw[u6];dsimp only;rw[show ↥(1:Int)=1 from rfl,Ī,ŀ,Ś,Đ,Đ,a]
 .rw[adF h1]
  let c:rt (bM k 32768).2*rt (bM k 32768).2=(bM k 32768).2:=by
   obtain z|z:=h
   .let e1:(bM k 32768).2=1:=.b
    rw[e1];let:.M=rt 1:=d_ .a .a .a;rw[<-this];rfl
   .show z
  let j:=iL (bM k 32768).2;show#[.inr c,#[b,I.rise],?_,?_]
  .dsimp only;obtain z|z:=afy j
   .show z
   .rw[<-z] at c;lia
  .dsimp only;rw[c,a]
def MT(t b:Int):Int×Int:=(uX (t.natAbs*b)).1.foldl my (if 0<t then 1 else -1,(uX (t.natAbs*b)).2)
def CS{t:Int}(x:t≠0)(n:0<b)(a:Tame (t.natAbs*b))(o:dm f)(h:0<s)(e:t*b=f*(s*s)):MT t b=(f,s):=by
 let p:1<=(t.natAbs:Int)*b:=by
  let:0<(t.natAbs:Int)*b:=Ħ .b n;lia
 let⟨_,⟨b',u⟩,m,hp⟩:=DC p a;let g:dm (if 0<t then .M else -1):=by split;show oF;show lA oF
 let r:∀q,aN q=Á->1<q->¬q∣(if 0<t then .M else -1):=λq h1 h2 d=>by
  split at d
  .let:=Ę .a d;lia
  .let:=Ę .a (ae0.mp d);lia
 let⟨v,w,l⟩:=Dw (c:=(if 0<t then .M else -1,(uX (t.natAbs*b)).2)) u g r m
 let j:(MT t b).1*((MT t b).2*(MT t b).2)=f*(s*s):=by
  change((uX (t.natAbs*b)).1.foldl my _).1*(((uX (t.natAbs*b)).1.foldl my _).2*((uX (t.natAbs*b)).1.foldl my _).2)=_;rw[l,<-e];dsimp only;rw[(by grind:(if 0<t then .M else -1)*((uX (t.natAbs*b)).2*(uX (t.natAbs*b)).2)*pp (uX (t.natAbs*b)).1=(if 0<t then .M else -1)*(pp (uX (t.natAbs*b)).1*((uX (t.natAbs*b)).2*(uX (t.natAbs*b)).2))),hp];by_cases z:0<t
  .rw[adI z,(.b:(t.natAbs:Int)=t)];lia
  .rw[adF z,(.b:(t.natAbs:Int)=-t)];grind
 let⟨k,i⟩:=ny v o w h j;show ahI k i
def cy(hp:2<=p)(h:¬p∣a):cls a p=(0,if p=2 then a%8 else bO a p):=by
 delta cls;rw[qL hp h];rfl
def mH(hp:aN p=Á)(b:x≠0)(c:cls y p=(0,1)):ak x y p=Á:=by
 let a:=au hp;by_cases h2:p=2
 .subst h2;rw[bq,c];show LL _ (df b) (0,1) .a
 .rw[bB .b h2,c];show Qp _ (dj a h2 b) (0,1) .a _ (vz a)
def J8(hp:aN p=Á)(h:¬p∣a):bO (a*a) p=1:=by
 rw[gJ hp];obtain z|z:=cG h<;>rw[z]<;>rfl
def Tt:∀c∈CO,∀a∈[.M,-1],∀b∈[.M,-1],oQ (cj (0,a) c 3) (cj (0,b) c 3) (a*b)=Á:=.a
def S_:∀a∈[.M,3,5,7],∀b∈[.M,3,5,7],iK (cj (1,a) (0,(b+2*a)%8) 2) (cj (0,b) (0,(b+2*a)%8) 2)=Á:=.a
def QY:∀a∈[.M,3,5,7],∀b∈[.M,3,5,7],iK (cj (0,a) (0,(b+4)%8) 2) (cj (0,b) (0,(b+4)%8) 2)=Á:=.a
def SH:∀c∈C2,∀b∈[.M,3,5,7],iK (cj c (0,b) 2) (cj (0,b) (0,b) 2)=Á:=.a
def Rc:∀c∈[.M,3,5,7],∀a∈[.M,3,5,7],iK (cj (0,a) (1,c) 2) (cj (0,(2*c-a)%8) (1,c) 2)=Á:=.a
def Ra:∀c∈[.M,3,5,7],∀a∈[.M,3,5,7],iK (cj (0,a) (0,c) 2) (cj (0,(4-a)%8) (0,c) 2)=Á:=.a
def Ry:∀c∈C2,∀a∈[.M,3,5,7],iK (cj (0,a) c 2) (cj (0,(0-a)%8) c 2)=Á:=.a
def xN(h:u%2=1):u%8∈[.M,3,5,7]:=by
 let:u%8=1\/u%8=3\/u%8=5\/u%8=7:=.b
 obtain z|z|z|z:=this<;>rw[z]<;>decide
def vO{X:Int}(f:X≠0)(h:X%2=0):(∃x,x%2=1/\X=2*x/\cls X 2=(1,x%8))\/(∃x,x%2=1/\X=4*x/\cls X 2=(0,x%8))\/X%8=0:=by
 let⟨h1,h2,g⟩:=fM (d:=2) .a f;let a:(a7 X 2).2%2=1:=.b
 let b:cls X 2=((a7 X 2).1%2,(a7 X 2).2%8):=rfl;generalize (a7 X 2).2=x at *;generalize (a7 X 2).1=v at *
 let c:↥v=0\/↥v=1\/↥v=2\/∃m,↥v=m+3:=by
  obtain z|z:=aiI ↥v 3
  .lia
  .show .inr (.inr (.inr #[↥v-3,.b]))
 obtain e|e|e|⟨m,e⟩:=c
 .rw[e] at h2;lia
 .rw[e] at h2;show .inl #[x,a,.b,by rw[b,(.b:v=1)];rfl]
 .rw[e] at h2;show .inr (.inl #[x,a,.b,by rw[b,(.b:v=2)];rfl])
 .rw[e,Ź] at h2;right;right;let:.O^3=8:=.a
  rw[this,<-ĵ] at h2;rw[h2];show Int.mul_emod_left ..
def N5(b:A≠0)(e:B≠0)(a:A+B≠0)(h:¬(A%2=0/\B%2=0)):ak (A*(A+B)) (B*(A+B)) 2=Á:=by
 let key:∀A B:Int,A≠0->A%2=0->B%2=1->A+B≠0->ak (A*(A+B)) (B*(A+B)) 2=Á:=λA B b ha d a=>by
  let e:B≠0:=.b
  let cB:cls B 2=(0,B%8):=by rw[cy .a .b];rfl
  let g:cls (A+B) 2=(0,(A+B)%8):=by rw[cy .a .b];rfl
  rw[bq,bx bA b a,bx bA e a,cB,g];obtain⟨x,h1,h2,c⟩|⟨x,h1,h2,c⟩|h1:=vO b ha
  .rw[c,(.b:(A+B)%8=(B%8+2*(x%8))%8)];show S_ _ (xN h1) _ (xN d)
  .rw[c,(.b:(A+B)%8=(B%8+4)%8)];show QY _ (xN h1) _ (xN d)
  .rw[(.b:(A+B)%8=B%8)];show SH _ (df b) _ (xN d)
 obtain ha|ha:=afE A
 .show key A B b ha .b a
 .obtain d|d:=afE B
  .let:=key B A e d ha .b;rw[aiJ] at this;rw[ba (.inr bA) (ë e a) (ë b a)];show this
  .let f:cls A 2=(0,A%8):=by rw[cy .a .b];rfl
   let cB:cls B 2=(0,B%8):=by rw[cy .a .b];rfl
   rw[bq,bx bA b a,bx bA e a,f,cB];obtain⟨x,h1,h2,c⟩|⟨x,h1,h2,c⟩|h1:=vO a .b
   .rw[c,(.b:B%8=(2*(x%8)-A%8)%8)];show Rc _ (xN h1) _ (xN ha)
   .rw[c,(.b:B%8=(4-A%8)%8)];show Ra _ (xN h1) _ (xN ha)
   .rw[(.b:B%8=(0-A%8)%8)];show Ry _ (df a) _ (xN ha)
def Ny(hp:aN p=Á)(h2:p≠2)(f:A≠0)(g:B≠0)(d:A+B≠0)(h:¬(p∣A/\p∣B)):ak (A*(A+B)) (B*(A+B)) p=Á:=by
 let b:=au hp
 let key:∀A B:Int,A≠0->B≠0->A+B≠0->p∣A->¬p∣B->ak (A*(A+B)) (B*(A+B)) p=Á:=λA B f g d ha c=>by
  let a:¬p∣A+B:=λz=>c (by let:=agX z ha;rwa [(.b:A+B-A=B)] at this);show mH hp (ë f d) ?_;rw[cy b (λz=>by obtain w|w:=euclid hp z;show c w;show a w),adF h2];rw[qh (l:=B*B) (xX.mpr (by rw[(by grind:B*(A+B)-B*B=A*B)];show İ ha #[B,rfl])),J8 hp c]
 by_cases ha:p∣A
 .show key A B f g d ha λz=>h #[ha,z]
 .by_cases c:p∣B
  .let:=key B A g f .b c ha;rw[aiJ] at this;rw[ba (.inr hp) (ë g d) (ë f d)];show this
  .by_cases a:p∣A+B
   .let e:bO A p*bO B p=bO (-1) p:=by
     rw[<-gJ hp,qh (l:=-1*(A*A)) (xX.mpr (by rw[(by grind:A*B - -1*(A*A)=A*(A+B))];show İ a #[A,ī ..])),gJ hp,J8 hp ha,Đ]
    rw[bB .b h2,bx hp f d,bx hp g d,cy b ha,cy b c,adF h2,adF h2,b7 h2,b7 h2,<-e];show Tt _ (dj b h2 d) _ ?_ _ ?_
    .obtain z|z:=cG ha<;>rw[z]<;>decide
    .obtain z|z:=cG c<;>rw[z]<;>decide
   .show ff hp h2 (λz=>by obtain w|w:=euclid hp z;show ha w;show a w) (λz=>by obtain w|w:=euclid hp z;show c w;show a w)
def eM(h:Pl p)(ha:a≠0)(c:b≠0)(d:r≠0):ak a (b*r*r) p=ak a b p:=by
 rw[ba h (ë (ë c d) d) ha,jq h c d,ba h ha c]
theorem yS{p:Int}(hp:aN p=Á):∀(n:Nat) (A B:Int),A.natAbs<=n->A≠0->B≠0->A+B≠0->ak (A*(A+B)) (B*(A+B)) p=Á:=zrN (λA B m d e f=>by lia) λn yS A B m d e f=>by
  let l:=au hp;by_cases h:p∣A/\p∣B
  .let⟨⟨a,ha⟩,⟨b,j⟩⟩:=h;subst ha j;let h1:a≠0:=λz=>d (by rw[z,Ū]);let h2:b≠0:=λz=>e (by rw[z,Ū]);let g:a+b≠0:=λz=>f (by rw[<-af8,z,Ū])
   let i:a.natAbs<=n:=by
    let:(p*a).natAbs=p.natAbs*a.natAbs:=ń ..;let o:2*a.natAbs<=p.natAbs*a.natAbs:=afV _ .b;lia
   let k:=yS a b i h1 h2 g;let c:p≠0:=.b
   rw[(by grind:p*a*(p*a+p*b)=a*(a+b)*p*p),(by grind:p*b*(p*a+p*b)=b*(a+b)*p*p),
    jq (.inr hp) (ë h1 g) c,eM (.inr hp) (ë h1 g) (ë h2 g) c]
   show k
  .by_cases h2:p=2
   .subst h2;show N5 d e f λz=>h #[ű z.1,ű z.2]
   .show Ny hp h2 d e f h
def K_(hp:Pl p)(b:A≠0)(c:B≠0)(a:A+B≠0):ak (A*(A+B)) (B*(A+B)) p=Á:=by
 obtain rfl|hp:=hp
 .rw[aP]
  let:0<(A+B)*(A+B):=by
   obtain z|z:=Ε a
   .show aeP z z
   .show Ħ z z
  rw[Int.add_mul] at this;by_cases z:0<A*(A+B)
  .simp[z]
  .let:0<B*(A+B):=by omega
   simp[this]
 .show yS hp _ A B (Ā _) b c a
def BC{w:Int}(hp:Pl p)(ha:a≠0)(g:b≠0)(c:w≠0)(e:a*x*x+b*y*y=w):ak (a*w) (b*w) p=Á:=by
 by_cases f:x=0
 .subst f;let h:w=b*y*y:=by rw[<-e];grind
  let d:y≠0:=by rintro rfl;show c (by rw[h];grind)
  rw[(by rw[h];grind:b*w=(b*y)*(b*y))];show qD hp (ë ha c) (ë g d)
 .by_cases d:y=0
  .subst d;let h:w=a*x*x:=by rw[<-e];grind
   rw[ba hp (ë g c) (ë ha c),(by rw[h];grind:a*w=(a*x)*(a*x))];show qD hp (ë g c) (ë ha f)
  .let:=K_ (A:=a*x*x) (B:=b*y*y) hp (ë (ë ha f) f) (ë (ë g d) d) (by rwa[e]);rwa[e,(by grind:a*x*x*w=a*w*x*x),(by grind:b*y*y*w=b*w*y*y),jq hp (ë ha c) f,eM hp (ë ha c) (ë g c) d] at this
def eF(h:Pl p)(ha:a≠0)(e:b≠0)(d:c≠0):ak (a*b) c p=(ak a c p==ak b c p):=by
 rw[ba h d (ë ha e),aS h d ha e,ba h ha d,ba h e d]
def gC(h:Pl p)(ha:a≠0):ak a a p=ak a (-1) p:=by
 let h1:=nZ h ha;rw[(.b:.N-a=-1*a),aS h ha .a ha] at h1;let:=eq_of_beq h1;show this.symm
def Ad(a b c p:Int):Bool:=ak (-a*c) (-b*c) p
def uf(k p:Int):Prop:=cls k p=(0,1)
def D4(hp:aN p=Á)(b:r≠0):uf (r*r) p:=by
 let h1:cls 1 p=(0,1):=by
  rw[cy (au hp) (λz=>by let:=Ę .a z;let:=au hp;lia)];by_cases z:p=2
  .rw[adI z];rfl
  .rw[adF z,lr hp z (by show#[0,.b])]
 let:=i_ (a:=1) hp .a b;rw[Ś] at this;delta uf;rw[this,h1]
def NM(hp:aN p=Á)(a:k≠0)(b:r≠0):uf (k*r*r) p↔uf k p:=by
 delta uf;rw[i_ hp a b]
noncomputable instance{k p:Int}:Decidable (uf k p):=inferInstanceAs (Decidable (cls k p=(0,1)))
def oB{P:Int->Prop}{l:.L}:(∃x,x∈a::l/\P x)↔P a\/∃x,x∈l/\P x:=by
 constructor
 .rintro⟨x,h,q⟩;obtain z|z:=đ.mp h
  .subst z;show .inl q
  .show .inr #[x,z,q]
 .rintro(q|⟨x,h,q⟩)
  .show#[a,ġ ..,q]
  .show#[x,ę _ h,q]
def Ir:.L->Int
 |[]=>0
 |[a]=>a
 |a::l=>if Ir l<a then Ir l else a
noncomputable def Lf:.L->Int
 |[]=>0
 |[a]=>a
 |a::l=>if a<Lf l then Lf l else a
theorem EH:∀l:.L,Ir l<0↔∃x∈l,x<0
 |[]=>by simp[Ir]
 |[a]=>by simp[Ir]
 |a::b::l=>by
  let c:=EH (b::l);unfold Ir;rw[oB,<-c];split<;>omega
theorem FO:∀l:.L,0<Lf l↔∃x∈l,0<x
 |[]=>by simp[Lf]
 |[a]=>by simp[Lf]
 |a::b::l=>by
  let c:=FO (b::l);unfold Lf;rw[oB,<-c];split<;>omega
def dk(l:.L)(p:Int):Bool:=if p=0 then decide (Ir l<0)&&decide (0<Lf l) else match l with
 |[]=>Á
 |[_]=>Â
 |[a,b]=>decide (uf (-a*b) p)
 |[a,b,c]=>Ad a b c p
 |[a,b,c,d]=>!(decide (uf (a*b*c*d) p)) || Ad a b c p
 |_=>Á
def qg{l:.L}(b:p≠0)(a:5<= ~~~l):dk l p=Á:=by
 delta dk;rw[adF b]
 match l,a with
 |_::_::_::_::_::_,_=>rfl
def Ag(b:p≠0):dk [a] p=Â:=by delta dk;rw[adF b]
def lD(c:p≠0):dk [a,b] p=decide (uf (-a*b) p):=by delta dk;rw[adF c]
def gD(d:p≠0):dk [a,b,c] p=Ad a b c p:=by delta dk;rw[adF d]
def qz(e:p≠0):dk [a,b,c,d] p=(!(decide (uf (a*b*c*d) p)) || Ad a b c p):=by delta dk;rw[adF e]
def dP{l:.L}:dk l 0=Á↔(∃x∈l,x<0)/\∃x∈l,0<x:=by
 delta dk;rw[adI rfl,ŷ,afe,afe,EH,FO]
noncomputable def lN:.L->.L->Int
 |a::l,x::xs=>a*x*x+lN l xs
 |_,_=>0
def ev:.L->Int->Int
 |[],_=>0
 |c::cs,x=>c+x*ev cs x
noncomputable def qo(r:Int):.L->.L
 |[]=>[]
 |[_]=>[]
 |_::d::cs=>ev (d::cs) r::qo r (d::cs)
theorem IL(r:Int):∀(c:Int) (cs:.L),~~~(qo r (c::cs))= ~~~cs
 |_,[]=>rfl
 |_,d::cs=>by simp only[qo,Œ];rw[IL r d cs]
theorem Fq(r:Int):∀(c d:Int) (cs:.L),(qo r (c::d::cs)).getLast?=(c::d::cs).getLast?
 |c,d,[]=>by simp[qo,ev]
 |c,d,e::cs=>by
  let a:=Fq r d e cs;let h1:qo r (c::d::e::cs)=ev (d::e::cs) r::qo r (d::e::cs):=rfl;rw[h1,aid,<-a];let h2:qo r (d::e::cs)=ev (e::cs) r::qo r (e::cs):=rfl;rw[h2,aid]
theorem Ph(r x:Int):∀cs:.L,ev cs x-ev cs r=(x-r)*ev (qo r cs) x
 |[]=>by simp[ev,qo]
 |[c]=>by simp[ev,qo]
 |c::d::cs=>by
  let a:=Ph r x (d::cs);let h1:qo r (c::d::cs)=ev (d::cs) r::qo r (d::cs):=rfl;rw[h1];let e1:ev (c::d::cs) x=c+x*ev (d::cs) x:=rfl;let e2:ev (c::d::cs) r=c+r*ev (d::cs) r:=rfl;let e3:ev (ev (d::cs) r::qo r (d::cs)) x=ev (d::cs) r+x*ev (qo r (d::cs)) x:=rfl;rw[e1,e2,e3];generalize ev (d::cs) x=u at *;generalize ev (d::cs) r=v at *;generalize ev (qo r (d::cs)) x=t at *;grind
theorem Vj{p:Int}(hp:aN p=Á):∀(f cs:.L),~~~cs<= ~~~f->f.Pairwise (λa b=>¬p∣a-b)->(∀r∈f,p∣ev cs r)->∀c,cs.getLast?=À c->p∣c
 |_,[],_,_,_,c,q=>by simp at q
 |[],_::_,h,_,_,_,_=>by simp at h
 |r::f,[c],_,_,g,d,l=>by
  let:=g r (ġ ..);simp[ev] at this;simp at l;rw[<-l];show this
 |r::f,c::d::cs,m,i,g,e,he=>by
  let⟨h1,h2⟩:=afo.mp i;show Vj hp f (qo r (c::d::cs)) (by rw[IL];simpa using m) h2 (λs j=>?_) e (by rwa[Fq]);let n:=g s (ę _ j);let o:=g r (ġ ..);let k:=agX n o;rw[Ph] at k;obtain z|z:=euclid hp k
  .show absurd (by rw[(.b:r-s=-(s-r))];show ae0.mpr z) (h1 s j)
  .show z
noncomputable def xn(n:Nat):.L:=-1::(Ý n 0++[1])
theorem LA(x:Int):∀n:Nat,ev (Ý n 0++[1]) x=x^n:=zrN (by simp[ev]) λn LA=>by
  rw[List.replicate_succ,agT];change 0+x*ev (Ý n 0++[1]) x=_;rw[LA,Ī,ī];lia
def Qo(hp:aN p=Á)(h2:p≠2):∃g,2<=g/\g<p/\bO g p=-1:=by
 let u:=gN hp h2;let l:=au hp;apply ğ;intro s
 let c:∀g:Int,1<=g->g<p->p∣g^↥((p-1)/2)-1:=λg v q=>by
  let e:¬p∣g:=λz=>by let:=Ę .b z;lia
  show(fL hp h2 e).mp ?_;obtain z|z:=cG e
  .show z
  .show absurd #[g,?_,q,z] s;obtain w|w:=Ϗ g 2
   .let:g=1:=.b
    subst this;rw[lr hp h2 #[0,.b]] at z;cases z
   .show w
 obtain⟨m,o⟩:∃m:Nat,↥((p-1)/2)=m+1:=#[↥((p-1)/2)-1,.b]
 let h1:=Vj hp ((Ö ↥(p-1)).map λi:Nat=>(i:Int)+1) (xn m) (by simp[xn];lia) (by
   rw[agH];show afU ?_ (ahn (n:=↥(p-1)));intro a b ha j d z;let f:=aeY.mp ha;let t:=aeY.mp j;let:=cL z .b .b
   show d .b) (λr k=>by
   let⟨i,hi,rfl⟩:=adX.mp k;let h:=aeY.mp hi;let:=c ((i:Int)+1) .b .b;rw[o] at this;change p∣-1+((i:Int)+1)*ev (Ý m 0++[1]) _;rw[LA,ī,<-Ī];rw[(.b:-1+((i:Int)+1)^(m+1)=((i:Int)+1)^(m+1)-1)]
   show this) 1 (by change((-1::Ý m 0)++[1]).getLast?=À 1;show List.getLast?_concat)
 let:=Ę .a h1;lia
def CI:.L->Int->Int
 |[],_=>1
 |q::a,c=>(if c%2=1 then q else 1)*CI a (c/2)
noncomputable def P8:.L:=[2,3,5,7,11,13,17,19]
def vG:∀r∈P8,aN r=Á:=by
 intro r a;simp only[P8,đ,Ĕ,aej] at a;obtain rfl|rfl|rfl|rfl|rfl|rfl|rfl|rfl:=a
 .show bA
 .show jF (m:=0) (n:=3) .a .a .a .a
 .show jF (m:=0) (n:=5) .a .a .a .a
 .show jF (m:=0) (n:=7) .a .a .a .a
 .show jF (m:=1) (n:=11) .a .a .a .a
 .show jF (m:=1) (n:=13) .a .a .a .a
 .show jF (m:=1) (n:=17) .a .a .a .a
 .show jF (m:=1) (n:=19) .a .a .a .a
def Fe(u:Int×Int):Int×(Int×Int):=((MT u.1 u.2).1,fr (MT u.1 u.2).2 u.2)
theorem DS:∀(a b:List (Int×Int)),pp (a++b)=pp a*pp b:=zrL (λb=>by simp[pp]) λu a DS b=>by rw[agT,pp,pp,DS b,ĵ]
theorem tK:∀{us:List (Int×Int)} {a b:Int},ic a us b->∀i,∃b',ic a (us.take i) b'
 |us,a,b,h,0=>#[a+1,by rw[aiu];change a<a+1;lia]
 |[],a,b,h,i+1=>#[b,h]
 |u::us,a,b,h,i+1=>by
  let⟨b',h'⟩:=tK h.2.2.2 i;show#[b',h.1,h.2.1,h.2.2.1,h']
theorem tQ:∀{us:List (Int×Int)} {a b:Int},ic a us b->∀i,∃a',ic a' (us.drop i) b/\a<=a'
 |us,a,b,h,0=>#[a,h,Ņ _]
 |[],a,b,h,i+1=>#[a,h,Ņ _]
 |u::us,a,b,h,i+1=>by
  let⟨a',h',c⟩:=tQ h.2.2.2 i;show#[a',h',by let:=h.1;lia]
def lB(ha:0<a)(c:1<=b):a<=a*b:=by
 let:a*1<=a*b:=Ł c .b;lia
def Nz{us:List (Int×Int)}{sg R:Int}(n:ic 1 us b)(h:0<R)(f:sg=1\/sg=-1)(i:Nat):
  ((us.take i).foldl my (sg,R)).1.natAbs<=(pp us*(R*R)).natAbs/\0<((us.take i).foldl my (sg,R)).2/\((us.take i).foldl my (sg,R)).2<=pp us*(R*R):=by
 let⟨b',h'⟩:=tK n i;let⟨g,j,w⟩:=tQ n i;let o:dm sg:=by obtain z|z:=f<;>rw[z];show oF;show lA oF
 let r:∀q,aN q=Á->1<q->¬q∣sg:=λq h1 h2 a=>by
  obtain z|z:=f
  .rw[z] at a;let:=Ę .a a;lia
  .rw[z] at a;let:=Ę .a (ae0.mp a);lia
 let⟨s,d,m⟩:=Dw (c:=(sg,R)) h' o r h;let e:pp us=pp (us.take i)*pp (us.drop i):=by rw[<-DS,ahr]
 let l:=lh .a h';let p2:=lh (.b:0<=g) j;let RR:=Ħ h h;dsimp only at m;generalize (us.take i).foldl my (sg,R)=c at *
 let x:(c.1.natAbs:Int)*(c.2*c.2)=pp (us.take i)*(R*R):=by
  let h1:0<c.2*c.2:=Ħ d d;let h2:0<pp (us.take i)*(R*R):=Ħ l RR;generalize c.2*c.2=X at *;generalize R*R=σ at *;generalize pp (us.take i)=Z at *;let a:=congrArg Int.natAbs m;rw[ń,ń,ń,(by obtain z|z:=f<;>rw[z]<;>rfl:sg.natAbs=1),Nat.one_mul] at a;let k:((c.1.natAbs*X.natAbs:Nat):Int)=((σ.natAbs*Z.natAbs:Nat):Int):=by rw[a]
  rw[ϴ,ϴ,(.b:(X.natAbs:Int)=X),(.b:(σ.natAbs:Int)=σ),(.b:(Z.natAbs:Int)=Z)] at k;rw[k,ī]
 let k1:pp (us.take i)*(R*R)<=pp us*(R*R):=by
  rw[e];show aeu (lB l .b) .b
 let p:0<(c.1.natAbs:Int):=by let:=s.1;lia
 let c2:0<c.2*c.2:=Ħ d d;let t:=lB p (.b:1<=c.2*c.2);let u:c.2*c.2<=(c.1.natAbs:Int)*(c.2*c.2):=by rw[ī (c.1.natAbs:Int)];show lB c2 .b
 let v:=lB d (.b:1<=c.2);show#[.b,d,.b]
def Nt{us:List (Int×Int)}(f:ic 1 us b){u:Int×Int}(a:us[i]?=À u):2<=u.1/\1<=u.2/\u.1^↥(u.2/2)<=pp us/\u.1<=pp us/\(u.2:Int)<pp us:=by
 let j:=kj f u (Į a);let h2:=au j.1;let hi:i<~~~us:=(adU.mp a).1
 let e:us.drop i=u::us.drop (i+1):=by
  rw[agm hi];rw[į hi] at a;rw[ķ a]
 let⟨b',h'⟩:=tK f i;let⟨c,h,r⟩:=tQ f (i+1)
 let e2:pp us=pp (us.take i)*(u.1^↥u.2*pp (us.drop (i+1))):=by
  let:pp us=pp (us.take i++us.drop i):=by rw[ahr]
  rw[this,DS,e,pp]
 let s:=lh .a h';let p2:=lh (.b:0<=c) h;let k:0<u.1^↥u.2:=Ş .b
 let o:u.1^↥u.2<=pp us:=by
  rw[e2];let:=lB k (.b:1<=pp (us.drop (i+1)));let q:=Ħ k p2;let w:u.1^↥u.2*pp (us.drop (i+1))<=pp (us.take i)*(u.1^↥u.2*pp (us.drop (i+1))):=by rw[ī (pp (us.take i))];show lB q .b
  lia
 let mono:∀m n:Nat,m<=n->u.1^m<=u.1^n:=λm n l=>by
  obtain⟨d,rfl⟩:∃d,n=m+d:=#[n-m,.b];rw[Ź];show lB (Ş .b) (by let:=Ş (n:=u.1) (m:=d) .b;lia)
 show#[h2,j.2,ah8 (mono _ _ .b) o,?_,?_]
 .let:=mono 1 ↥u.2 .b;rw[Ī,ŀ,Ś] at this;lia
 .let:((↥u.2:Nat):Int)<u.1^↥u.2:=by
   let g:∀n:Nat,(n:Int)<u.1^n:=λn=>by
    induction n with
    |zero=>rw[ŀ];decide
    |succ n p =>
     rw[Ī];let:u.1^n*2<=u.1^n*u.1:=Ł h2 (afT (Ş .b));lia
   show g _
  lia
def BM{M:Type}{l:List M}{a:M}(h:l[i]?=À a):l.drop i=a::l.drop (i+1):=by
 let hi:i<~~~l:=(adU.mp h).1;rw[agm hi];rw[į hi] at h;rw[ķ h]
theorem z_:∀l:.L,0<~~~l->Ir l∈l/\∀a∈l,Ir l<=a
 |[a],_=>by simp[Ir]
 |a::b::l,_=>by
  let⟨h1,h2⟩:=z_ (b::l) .c;unfold Ir;split
  .show#[ę _ h1,λc d=>?_];obtain z|z:=đ.mp d
   .lia
   .show h2 c z
  .show#[ġ ..,λc d=>?_];obtain z|z:=đ.mp d
   .lia
   .let:=h2 c z;lia
theorem Jr:∀l:.L,0<~~~l->Lf l∈l/\∀a∈l,a<=Lf l
 |[a],_=>by simp[Lf]
 |a::b::l,_=>by
  let⟨h1,h2⟩:=Jr (b::l) .c;unfold Lf;split
  .show#[ę _ h1,λc d=>?_];obtain z|z:=đ.mp d
   .lia
   .show h2 c z
  .show#[ġ ..,λc d=>?_];obtain z|z:=đ.mp d
   .lia
   .let:=h2 c z;lia
def Js(hp:aN p=Á)(h2:p≠2)(c:¬p∣b):cls (p*b) p=(1,bO b p):=by
 let a:=au hp;delta cls;rw[(by rw[ω];show ī ..:p*b=b*p^1),oK a c,adF h2];rfl
def qW(hp:aN p=Á)(h2:p≠2)(ha:¬p∣a):cls a p=(0,bO a p):=by
 rw[cy (au hp) ha,adF h2]
def p_(hp:aN p=Á)(h2:p≠2)(ha:¬p∣a)(d:¬p∣b):ak a (p*b) p=decide (bO a p=1):=by
 let c:=au hp;rw[bB .b h2,Js hp h2 d,qW hp h2 ha];delta oQ;simp
def eY(hp:aN p=Á):¬p∣-1:=λh=>by
 let:=au hp;let:=Ę .a (ae0.mp h);lia
def iM(hp:aN p=Á)(h2:p≠2):p%2=1:=by
 apply ğ;intro a;obtain z|z:=cQ.mp hp
 .lia
 .lia
def dQ(h:a%2=1):cls a 2=(0,a%8):=by
 rw[cy .a .b,adI rfl]
def WV(hp:aN p=Á)(h2:p≠2):ak p (-1) p=!decide (p%4=3)/\ak (-p) (-1) p=!decide (p%4=3):=by
 let b:=au hp;let a:=eY hp;let c:¬p∣1:=λh=>a (ae0.mpr h)
 let key:decide (bO (-1) p=1)=!decide (p%4=3):=by
  rw[Hg hp h2];by_cases z:p%4=3
  .rw[adI z];simp[z]
  .rw[adF z];simp[z]
 constructor
 .rw[<-ba (.inr hp) .b .a];let:=p_ hp h2 a c;rw[Đ] at this;rw[this,key]
 .rw[<-ba (.inr hp) .b .a];let:=p_ hp h2 a a;rw[(.b:p*-1=-p)] at this;rw[this,key]
def WO(b:p%2=1):ak p (-1) 2=!decide (p%4=3):=by
 rw[bq,dQ b,dQ (a:=-1) .a];let e:p%8%4=p%4:=.b
 delta iK;simp only[e];by_cases z:p%4=3
 .simp[z,b1]
 .simp[z,b1]
def XS(h:0<p):ak p (-1) 0=Á/\ak (-p) (-1) 0=Â:=by
 rw[aP,aP];constructor
 .simp[h]
 .simp;lia
noncomputable def jm(L:.L)(f:Int->Bool):Bool:=decide (~~~(L.filter λp=>!f p)%2=0)
def bD(p:Int)(L:.L)(f:Int->Bool):jm (p::L) f=(f p==jm L f):=by
 delta jm;rw[ahl];cases f p
 .simp only[Bool.not_false,agz,Œ];by_cases h: ~~~(L.filter λp=>!f p)%2=0
  .let:¬(~~~(L.filter λp=>!f p)+1)%2=0:=.b
   simp[h,this]
  .let:(~~~(L.filter λp=>!f p)+1)%2=0:=.b
   simp[h,this]
 .simp
def iG(f:Int->Bool):jm [] f=Á:=rfl
theorem FR(f g:Int->Bool):∀L:.L,jm L (λp=>f p==g p)=(jm L f==jm L g):=zrL (rfl) λp L FR=>by
  rw[bD,bD,bD,FR];generalize f p=a;generalize g p=b;generalize jm L f=c;generalize jm L g=d;revert a b c d;decide
def rP{f g:Int->Bool}(h:∀p∈L,f p=g p):jm L f=jm L g:=by
 delta jm;rw[List.filter_congr λp hp=>by rw[h p hp]]
def vf{f:Int->Bool}{S:.L}(d:L.Nodup)(c:S.Nodup)(b:∀p∈S,p∈L)(h:∀p∈L,p∉S->f p=Á):jm L f=jm S f:=by
 delta jm
 let:(L.filter λp=>!f p).Perm (S.filter λp=>!f p):=by
  show(List.perm_ext_iff_of_nodup (d.filter _) (c.filter _)).mpr λa=>?_;rw[aeJ,aeJ];constructor
  .rintro⟨h1,h2⟩;show#[ğ λe=>?_,h2];rw[h a h1 e] at h2;cases h2
  .rintro⟨h1,h2⟩;show#[b a h1,h2]
 rw[this.length_eq]
def u5{f:Int->Bool}(h:∀p∈L,f p=Á):jm L f=Á:=by
 delta jm;rw[List.filter_eq_nil_iff.mpr λp hp=>by rw[h p hp];decide];rfl
structure Be(L:.L):Prop where
 nd:L.Nodup
 pr:∀p∈L,aN p=Á
 two:.O∈L
def uO(L:.L)(x:Int):Prop:=x≠0/\∀q,aN q=Á->q∣x->q∈L
def Jn(h:Be L):.N∉L:=λz=>by let:=au (h.pr 0 z);lia
def Be.all(h:Be L):(.N::L).Nodup:=afc.mpr #[Jn h,h.nd]
def Be.pl(h:Be L):∀p∈.N::L,Pl p:=λp hp=>by
 obtain z|z:=đ.mp hp
 .show .inl z
 .show .inr (h.pr p z)
def uM(L:.L)(x y:Int):Bool:=jm (0::L) (ak x y)
def oN(h:Be L)(a:x≠0)(b:y≠0):uM L y x=uM L x y:=rP λp hp=>ba (h.pl p hp) a b
def Fd(h:Be L){z:Int}(a:x≠0)(b:y≠0)(hz:z≠0):uM L x (y*z)=(uM L x y==uM L x z):=by
 unfold uM;rw[<-FR];show rP λp hp=>aS (h.pl p hp) a b hz
def a9(hp:aN p=Á)(c:aN q=Á)(h:p∣q):p=q:=by
 let h1:=au hp;let h2:=au c;apply ğ;intro g;let f:=ky (p:=p) (d:=q) hp;by_cases z:q∣p
 .let a:=Ę .b h;let b:=Ę .b z;lia
 .let e:=ky (p:=q) (d:=p) c z;let:=ahC (ϳ p) h;rw[e] at this;let:=Ę .a this;lia
def vx(hp:aN p=Á)(h2:p≠2)(a:∀q,aN q=Á->q∣x->q≠p)(b:∀q,aN q=Á->q∣y->q≠p):ak x y p=Á :=
 ff hp h2 (λz=>a p hp z rfl) λz=>b p hp z rfl
def iz(a:aN q=Á):∀r,aN r=Á->r∣q->r=q:=λr b h=>a9 b a h
def Qx:∀r,aN r=Á->¬r∣(-1:Int):=λr a=>eY a
def QL{f:Int->Bool}(a b:Int):jm [a,b] f=(f a==f b):=by
 rw[bD,bD,iG];cases f a<;>cases f b<;>rfl
def Xk{f:Int->Bool}(a b c:Int):jm [a,b,c] f=(f a==(f b==f c)):=by
 rw[bD,bD,bD,iG];cases f a<;>cases f b<;>cases f c<;>rfl
def WT(h:Be L):uM L (-1) (-1)=Á:=by
 unfold uM;rw[vf (S:=[0,2]) h.all .a (λp hp=>?_) (λp hp b=>?_),QL,aP,bq,dQ (a:=-1) .a]
 .rfl
 .simp only[đ,Ĕ,aej] at hp;obtain rfl|rfl:=hp
  .show ġ
  .show ę _ h.two
 .simp only[đ,Ĕ,aej,not_or] at b hp;let:=h.pr p (hp.resolve_left b.1);show ff this b.2 (eY this) (eY this)
def Jb:cls 2 2=(1,1):=by
 delta cls;rw[show a7 2 2=(1,1) from nD .a #[.a,.a,.b]];rfl
def QI(h:Be L):uM L (-1) 2=Á:=by
 show u5 λp hp=>?_;obtain rfl|z:=đ.mp hp
 .rw[aP];rfl
 let c:=h.pr p z;by_cases h2:p=2
 .subst h2;rw[bq,Jb,dQ (a:=-1) .a];rfl
 .show vx c h2 (λq b d=>absurd d (Qx q b)) λq b d e=>h2 (by rw[<-e];show iz bA q b d)
def UD(h:Be L)(a:q∈L):∀p∈[2,q],p∈.N::L:=λp hp=>by
 simp only[đ,Ĕ,aej] at hp;obtain rfl|rfl:=hp
 .show ę _ h.two
 .show ę _ a
def S8(h:Be L)(f:q∈L)(h2:q≠2):uM L (-1) q=Á:=by
 let hp:=h.pr q f;let g:=au hp;rw[<-oN h .a .b];unfold uM;rw[vf (S:=[2,q]) h.all (by simp;lia) (UD h f) (λp a d=>?_),QL,WO (iM hp h2),(WV hp h2).1]
 .simp
 .simp only[đ,Ĕ,aej,not_or] at d a;obtain rfl|z:=a
  .show(XS .b).1
  .show vx (h.pr p z) d.1 (λr c b e=>d.2 (by rw[<-e];show iz hp r c b)) λr c b=>absurd b (Qx r c)
def L6(h:Be L)(a:x≠0):uM L x x=uM L (-1) x:=by
 rw[oN (x:=x) (y:=-1) h a .a];show rP λp hp=>gC (h.pl p hp) a
def UB(h:Be L)(f:q∈L)(h2:q≠2):uM L 2 q=Á:=by
 let hp:=h.pr q f;let l:=au hp;let g:=iM hp h2;let k:¬q∣2:=λz=>h2 (iz bA q hp z);let i:¬q∣1:=λz=>eY hp (ae0.mpr z);unfold uM;rw[vf (S:=[2,q]) h.all (by simp;lia) (UD h f) (λp a b=>?_),QL,bq,Jb,dQ g]
 .let e:=p_ hp h2 k i;rw[Đ] at e;rw[e,O5 hp h2];let j:q%8=1\/q%8=3\/q%8=5\/q%8=7:=.b
  obtain z|z|z|z:=j<;>rw[z]<;>rfl
 .simp only[đ,Ĕ,aej,not_or] at b a;obtain rfl|z:=a
  .rw[aP];rfl
  .show vx (h.pr p z) b.1 (λr d c e=>b.1 (by rw[<-e];show iz bA r d c)) (λr d c e=>b.2 (by rw[<-e];show iz hp r d c))
def XZ(h:Be L)(m:q∈L)(h2:q≠2)(n:r∈L)(d:r≠2)(c:q≠r):uM L q r=Á:=by
 let hp:=h.pr q m;let a:=h.pr r n;let D:=au hp;let w:=au a;let o:=iM hp h2;let i:=iM a d;let j:¬q∣r:=λz=>c (iz a q hp z);let l:¬r∣q:=λz=>c (iz hp r a z).symm;let x:¬q∣1:=λz=>eY hp (ae0.mpr z);let y:¬r∣1:=λz=>eY a (ae0.mpr z);unfold uM;rw[vf (S:=[2,q,r]) h.all (by simp;lia) (λp b=>?_) (λp b f=>?_),Xk,bq,dQ o,dQ i]
 .let e1:ak q r q=decide (bO r q=1):=by
   rw[<-ba (.inr hp) .b .b];let e:=p_ hp h2 j x
   rwa [Đ] at e
  let e2:ak q r r=decide (bO q r=1):=by
   let e:=p_ a d l y
   rwa [Đ] at e
  rw[e1,e2];let ex:=La hp h2 a d c
  let t:iK (0,q%8) (0,r%8)=!decide (q%4=3/\r%4=3):=by
   delta iK;let B:q%8%4=q%4:=.b
   let C:r%8%4=r%4:=.b
   simp only[B,C];by_cases z:q%4=3<;>by_cases A:r%4=3<;>simp[z,A,b1]
  rw[t];by_cases z:q%4=3/\r%4=3
  .rw[adI z] at ex;rw[adZ z];obtain u|u:=cG j<;>obtain v|v:=cG l<;>rw[u,v] at ex ⊢<;>simp_all
  .rw[adF z] at ex;rw[aec z];obtain u|u:=cG j<;>obtain v|v:=cG l<;>rw[u,v] at ex ⊢<;>simp_all
 .simp only[đ,Ĕ,aej] at b;obtain rfl|rfl|rfl:=b
  .show ę _ h.two
  .show ę _ m
  .show ę _ n
 .simp only[đ,Ĕ,aej,not_or] at f b;obtain rfl|z:=b
  .rw[aP];simp;lia
  .show vx (h.pr p z) f.1 (λs g k e=>f.2.1 (by rw[<-e];show iz hp s g k)) (λs g k e=>f.2.2 (by rw[<-e];show iz a s g k))
theorem v_{L:.L}{Q:Int->Prop}(h1:Q 1)(i:Q (-1))(g:∀q∈L,aN q=Á->Q q)(hmul:∀x y,x≠0->y≠0->Q x->Q y->Q (x*y)):∀(n:Nat) (x:Int),x.natAbs<=n->uO L x->Q x:=zrN (λx p h=>absurd (.b:x=0) h.1) λn v_ x p h=>by
  let l:=h.1;by_cases z:x=1
  .rwa[z]
  by_cases j:x=-1
  .rwa[j]
  let⟨q,b,c,s⟩:=fj (k:=x.natAbs) .b;let t:=au b;let a:q∣x:=aeV.mp #[c,s];let⟨d,rfl⟩:=a;let f:d≠0:=by rintro rfl;show l (Ū _)
  let m:d.natAbs<=n:=by
   let e:(q*d).natAbs=q.natAbs*d.natAbs:=ń ..;let:2*d.natAbs<=q.natAbs*d.natAbs:=afV _ .b;lia
  show hmul q d .b f (g q (h.2 q b #[d,rfl]) b) (v_ d m #[f,λr o a=>h.2 r o ?_]);let⟨e,rfl⟩:=a;show#[q*e,by grind]
def F3(h:Be L)(b:x≠0):uM L x 1=Á:=u5 λp hp=>by
 let:=qD (a:=x) (r:=1) (h.pl p hp) b .a
 rwa [Đ] at this
def ID(h:Be L)(k:uO L x)(c:uO L y):uM L x y=Á:=by
 let base:∀g,(g=-1\/g∈L)->∀y,uO L y->g≠0/\uM L g y=Á:=λg d y c=>by
  let i:g≠0:=by
   obtain rfl|d:=d
   .decide
   .let:=au (h.pr g d);lia
  show#[i,v_ (L:=L) (Q:=λy=>uM L g y=Á) (F3 h i) ?_ (λq f j=>?_) (λx y k c h1 h2=>by rw[Fd h i k c,h1,h2];rfl) y.natAbs y (Ā _) c]
  .obtain rfl|d:=d
   .show WT h
   .rw[<-oN h i .a];by_cases z:g=2
    .rw[z];show QI h
    .show S8 h d z
  .let o:=au j;obtain rfl|d:=d
   .by_cases z:q=2
    .rw[z];show QI h
    .show S8 h f z
   .by_cases e:g=q
    .subst e;rw[L6 h i];by_cases z:g=2
     .rw[z];show QI h
     .show S8 h d z
    by_cases z:g=2
    .rw[z];show UB h f .b
    by_cases l:q=2
    .rw[l,oN h .a i];show UB h d z
    .show XZ h d z f l e
 let m:∀x y,uM L y x=Á->x≠0->y≠0->uM L x y=Á:=λx y e h1 h2=>by rwa[oN h h2 h1]
 rw[oN h c.1 k.1];show v_ (L:=L) (Q:=λx=>uM L y x=Á) (F3 h c.1) (m _ _ (base _ (.inl rfl) y c).2 c.1 .a) (λq f j=>m _ _ (base q (.inr f) y c).2 c.1 (base q (.inr f) y c).1) (λa b ha n h1 h2=>by rw[Fd h c.1 ha n,h1,h2];rfl) x.natAbs x (Ā _) k
def rT(h1:1<=k)(h2:k<1073741824):Tame k:=by
 by_cases d:Dr k
 .show .inl #[k,1,d,.b,.a,.b]
 .let #[q,h]:=ahD.mp d;let #[e,b]:=agI.mp h;let #[#[f,g],l]:=agI.mp b
  let c:0<f:=by
   apply ğ;intro j;let:q*f<=0:=ϵ .b .b;lia
  let i:f<32768:=by
   apply ğ;intro j;let:32768*32768<=q*f:=Ű .b .b .a .b;lia
  let a:q<1073741824:=by
   let:q*1<=q*f:=Ł .b .b;lia
  show .inr #[f,q,LH c i,c,e,a,by rw[g];show ī ..]
theorem qN:∀(n:Nat) (x:Int),x≠0->x.natAbs<=n->∃f s,dm f/\0<s/\x=f*(s*s):=zrN (λx a o=>absurd (.b:x=0) a) λn qN x a o=>by
  by_cases i:dm x
  .show#[x,1,i,.a,.b]
  .let g:¬∀d:Int,2<=d->¬d*d∣x:=λz=>i #[a,z];let #[d,k]:=ahD.mp g;let #[j,b]:=agI.mp k;let #[c,h]:=Classical.not_not.mp b;let c0:c≠0:=by rintro rfl;show a (by rw[h,Ū])
   let l:c.natAbs<=n:=by
    let e:x.natAbs=(d*d).natAbs*c.natAbs:=by rw[h,ń]
    let:2<=(d*d).natAbs:=by
     let:2*2<=d*d:=Ű j j .a .b;lia
    let:2*c.natAbs<=(d*d).natAbs*c.natAbs:=afV _ this;lia
   let⟨f,s,h1,h2,m⟩:=qN c c0 l;show#[f,s*d,h1,Ħ h2 .b,by rw[h,m];grind]
def Av(a:0<s)(e:x=f*(s*s)):f.natAbs<=x.natAbs:=by
 rw[e,ń];let:1<=(s*s).natAbs:=by let:=Ħ a a;lia
 let:=Nat.mul_le_mul_left f.natAbs this;lia
theorem Jo:∀{us:List (Int×Int)} {a b:Int},ic a us b->∀u∈us,u.1∣pp us:=@zrL _ _ (@λ_ _ _ u h=>absurd h Ĕ) @λv us Jo a b c u h=>by
  obtain rfl|z:=đ.mp h
  .change u.1∣u.1^↥u.2*pp us;let:=c.2.2.1;rw[(.b:↥u.2=(↥u.2-1)+1),Ī];show#[u.1^(↥u.2-1)*pp us,by grind]
  .show İ (Jo c.2.2.2 u z) #[v.1^↥v.2,ī ..]
theorem Kq{q:Int}(c:aN q=Á):∀{us:List (Int×Int)} {a b:Int},ic a us b->q∣pp us->∃u∈us,u.1=q:=@zrL _ _ (@λ_ _ _ h=>by
  let:=Ę .a (show q∣1 from h);let:=au c;lia) @λv us Kq a b d h=>by
  obtain z|z:=euclid c (show q∣v.1^↥v.2*pp us from h)
  .let:∀n:Nat,q∣v.1^n->q∣v.1:=λn=>by
    induction n with
    |zero =>
     intro h;rw[ŀ] at h;let:=Ę .a h;let:=au c;lia
    |succ n e =>
     intro h;rw[Ī] at h;obtain y|y:=euclid c h
     .show e y
     .show y
   show#[v,ġ,(a9 c d.2.1 (this _ z)).symm]
  .let⟨u,h1,h2⟩:=Kq d.2.2.2 z;show#[u,ę _ h1,h2]
def fJ(c:1<=k):q∈(oh k).map (·.1)↔aN q=Á/\q∣k:=by
 let⟨⟨b,a⟩,e⟩:=pU c;rw[adX];constructor
 .rintro⟨u,h1,rfl⟩;show#[(kj a u h1).1,e▸Jo a u h1]
 .rintro⟨h1,h2⟩;rw[<-e] at h2;show Kq h1 a h2
def wH(hp:aN p=Á)(h2:p≠2):NR p:=by
 let⟨g,h1,_,a⟩:=Qo hp h2;show#[g,h1,a]
def Pp(k m x:Int):Prop:=0<=x/\x<m/\m∣k*x-1
def Pp.uniq(x y:Int)(e:Pp k m x)(f:Pp k m y):x=y:=by
 let⟨n,p,d⟩:=e;let⟨j,o,g⟩:=f
 let h:m∣x-y:=by
  let⟨a,ha⟩:=d;let⟨b,l⟩:=g;show#[a*y-b*x,?_];let e1:k*x=1+m*a:=.b
  let e2:k*y=1+m*b:=.b
  let:y*(k*x)=x*(k*y):=by grind
  rw[e1,e2] at this;grind
 let⟨c,i⟩:=h
 let:c=0:=by
  obtain z|z|z:=agj c 0
  .let:m*c<=m*(-1):=Ł .b .b;lia
  .show z
  .let:m*1<=m*c:=Ł .b .b;lia
 rw[this,Ū] at i;lia
def y6(k m:Int):Int:=ú (Pp k m)
def Kd(h:Pp k m x):y6 k m=x:=(tR Pp.uniq h).symm
structure Ht(k m r b f g:Int)(u v s:Int):Prop where
 r0:1<=r
 b0:0<=b
 lt:b<r
 rm:r<=m
 gc:È r b=1
 fr:m∣k*f-r
 fb:m∣k*g-b
 sg:s=1\/s=-1
 fu:f=-s*u
 gv:g=s*v
 u0:0<=u
 v0:0<=v
 um:u<=m
 sum:u*b+v*r=m
def Ht.start(b:2<=m)(a:È k m=1):Ht k m m (k%m) 0 1 0 1 1:=by
 show#[.b,ŭ _ .b,Ů _ .b,Ņ m,?_,#[-1,.b],?_,.inl rfl,.b,.b,.a,.a,.b,.b]
 .let e:k%m=k.fmod m:=(ae3 k (.b:0<=m)).symm;rw[e,qp,a]
 .show#[k/m,?_];let:=afl k m;lia
def Ht.step(I:Ht k m r b f g u v s)(p:b≠0):Ht k m b (r-r/b*b) g (f-r/b*g) v (u+r/b*v) (-s):=by
 let⟨w,i,lt,D,o,fr,j,sg,y,l,t,h,C,sum⟩:=I;let a:=afl r b;let H:=ŭ r p;let z:=Ů r (.b:0<b);let n:0<=r/b:=ag0 .b i;let e:r-r/b*b=r%b:=by rw[ī] at a;lia
 generalize E:r/b=q at *;let qv:0<=q*v:=Ϝ n h;show#[.b,.b,.b,.b,?_,j,?_,.b,by rw[l];grind,by rw[y,l];grind,h,.b,?_,by grind]
 .let x:r%b=r.fmod b:=(ae3 r i).symm;rw[e,x,qp,o]
 .let⟨c,A⟩:=fr;let⟨d,B⟩:=j;show#[c-q*d,?_];let e1:k*f=r+m*c:=.b
  let e2:k*g=b+m*d:=.b
  let:k*(f-q*g)=k*f-q*(k*g):=by grind
  rw[this,e1,e2];grind
 .let F:v*1<=v*r:=Ł w h;let G:0<=u*b:=Ϝ t i;lia
def Ht.done(I:Ht k m r 0 f g u v s)(b:2<=m):y6 k m=f%m:=by
 let h1:r=1:=by
  let:=I.gc;rw[ag6] at this;let:=I.r0;lia
 show Kd #[ŭ _ .b,Ů _ .b,?_];let⟨c,a⟩:=I.fr;rw[h1] at a;let e:=afl f m;show#[c-k*(f/m),?_];let:k*(f%m)=k*f-k*(m*(f/m)):=by rw[<-af7];congr 1;lia
 rw[this,(.b:k*f=1+m*c)];grind
def Ht.bd(I:Ht k m r b f g u v s):f.natAbs<=m/\g.natAbs<=m:=by
 let⟨c,e,lt,l,h,fr,j,sg,o,p,a,d,i,sum⟩:=I;let n:v*1<=v*r:=Ł c d;let q:0<=u*b:=Ϝ a e;obtain rfl|rfl:=sg<;>lia
def P2(l:2<=m)(j:È k m=1):Pp k m (y6 k m):=by
 let:∀(n:Nat) (r b f g u v s:Int),Ht k m r b f g u v s->↥b<=n->∃x,Pp k m x:=λn=>by
  induction n with
  |zero =>
   intro r b f g u v s I h;let a:b=0:=by let:=I.b0;lia
   subst a
   let h1:r=1:=by
    let:=I.gc;rw[ag6] at this;let:=I.r0;lia
   show#[f%m,ŭ _ .b,Ů _ .b,?_];let⟨c,o⟩:=I.fr;rw[h1] at o;let e:=afl f m;show#[c-k*(f/m),?_];let:k*(f%m)=k*f-k*(m*(f/m)):=by rw[<-af7];congr 1;lia
   rw[this,(.b:k*f=1+m*c)];grind
  |succ n i =>
   intro r b f g u v s I h;by_cases a:b=0
   .subst a;show i r 0 f g u v s I .b
   .show i _ _ _ _ _ _ _ (I.step a) ?_;let:=(I.step a).lt;let:=(I.step a).b0;lia
 let⟨x,d⟩:=this _ _ _ _ _ _ _ _ (Ht.start l j) (Ā _);rwa[Kd d]
def CH(one m other p:Int):Int:=one+m*((other-one)*y6 m p%p)
def Vb{one other:Int}(hp:2<=p)(i:1<=m)(b:È m p=1)(f:0<=one)(h1:one<m):(0<=CH one m other p/\CH one m other p<m*p)/\m∣CH one m other p-one/\p∣CH one m other p-other:=by
 let⟨g,b1,c,k⟩:=P2 hp b;delta CH;let a:=ŭ ((other-one)*y6 m p) (.b:p≠0);let d:=Ů ((other-one)*y6 m p) (.b:0<p);let h:=afl ((other-one)*y6 m p) p;generalize j:(other-one)*y6 m p%p=y at *;generalize (other-one)*y6 m p/p=w at *;show#[#[?_,?_],#[y,.b],?_]
 .let:=Ϝ (.b:0<=m) a;lia
 .let:m*y<=m*(p-1):=Ł .b .b;let e:m*(p-1)=m*p-m:=by rw[af7,Đ]
  lia
 .show#[(other-one)*c-m*w,?_];let e1:y=(other-one)*y6 m p-p*w:=.b
  let e2:m*y6 m p=1+p*c:=.b
  rw[e1];let:m*((other-one)*y6 m p-p*w)=(other-one)*(m*y6 m p)-m*(p*w):=by grind
  rw[this,e2];grind
def Nb(k:Int):List (Int×Int)->Int->Int->Option Int
 |[],a,_=>À a
 |u::us,a,d=>match Ai k u.1 with
  |none=>none
  |some r=>Nb k us (CH a d r u.1) (d*u.1)
def Jm(k m:Int):Option Int:=Nb k (oh m) 0 1
def FL(hp:aN p=Á)(h:Ai k p=À r):(0<=r/\r<p)/\Cg p (r*r) k:=by
 by_cases h2:p=2
 .subst h2;delta Ai at h
  let a:bO k 2=k%2:=by
   delta bO;by_cases z:k%2=0
   .rw[adI z,z]
   .rw[adF z,adI rfl];lia
  rw[a] at h;split at h
  .cases h
  .rw[adI (.inr rfl)] at h;cases h;show#[.b,?_];let:k%2=0\/k%2=1:=.b
   obtain z|z:=this
   .rw[z];show#[-(k/2),.b]
   .rw[z];show#[-(k/2),.b]
 .show Rn hp h2 (wH hp h2) h
structure MW(k a d:Int)(ps:.L):Prop where
 d1:1<=d
 a0:0<=a
 a1:a<d
 pr:∀q,aN q=Á->q∣d->q∈ps
 sq:∀q∈ps,q∣a*a-k/\q∣d
def MW.step{ps:.L}(I:MW k a d ps)(hp:aN p=Á)(t:p∉ps)(h:Ai k p=À r):MW k (CH a d r p) (d*p) (ps++[p])/\È d p=1/\(0<=r/\r<p):=by
 let e:=au hp;let g:È d p=1:=ky hp λz=>t (I.pr p hp z);let⟨⟨o,i⟩,m,j⟩:=Vb (one:=a) (other:=r) e I.d1 g I.a0 I.a1;let⟨s,v⟩:=FL hp h;show#[#[?_,o,i,λq b l=>?_,λq b=>?_],g,s]
 .let:=Ħ (by let:=I.d1;lia:0<d) (.b:0<p);lia
 .obtain z|z:=euclid b l
  .show ϑ _ (I.pr q b z)
  .show Ţ _ (ad0.mpr (a9 b hp z))
 .obtain z|z:=aen.mp b
  .let⟨n,f⟩:=I.sq q z;show#[?_,İ f #[p,rfl]];let u:q∣CH a d r p-a:=İ f m;generalize CH a d r p=w at *;let:w*w-k=(w-a)*(w+a)+(a*a-k):=by grind
   rw[this];show ϋ (İ u #[w+a,rfl]) n
  .rw[ad0.mp z];show#[?_,#[d,ī ..]];generalize CH a d r p=w at *;let c:p∣r*r-k:=v;let:w*w-k=(w-r)*(w+r)+(r*r-k):=by grind
   rw[this];show ϋ (İ j #[w+r,rfl]) c
def MW.zero(k:Int):MW k 0 1 []:=#[.a,.a,.a,λq a b=>by
 let:=Ę .a b;let:=au a
 lia,λq h=>absurd h Ĕ]
theorem qG:∀{us:List (Int×Int)} {a b:Int},ic a us b->(us.map (·.1)).Pairwise (·<·)/\∀q∈us.map (·.1),a<q:=@zrL _ _ (@λ_ _ _=>#[Ŭ,λ_ h=>absurd h Ĕ]) @λu us qG a b h=>by
  let⟨h1,h2,g,f⟩:=h;let⟨e,c⟩:=qG f;show#[afo.mpr #[c,e],λq d=>?_];obtain rfl|z:=đ.mp d
  .show h1
  .let:=c q z;lia
def dp:List (Int×Int)->Int
 |[]=>1
 |u::us=>u.1*dp us
theorem Kc:∀{us:List (Int×Int)} {a b:Int},0<=a->ic a us b->1<=dp us/\dp us<=pp us:=@zrL _ _ (@λ_ _ _ _=>#[Ņ 1,Ņ 1]) @λu us Kc a b ha h=>by
  let⟨h1,h2,f,d⟩:=h;let⟨e,c⟩:=Kc .b d
  let hp:u.1<=u.1^↥u.2:=by
   rw[(.b:↥u.2=(↥u.2-1)+1),Ī,ī];let:.N<u.1^(↥u.2-1):=Ş .b;let:u.1*1<=u.1*u.1^(↥u.2-1):=Ł .b .b;lia
  constructor
  .let:=Ħ (.b:0<u.1) (.b:0<dp us);change 1<=u.1*dp us;lia
  .show Ű hp c .b .b
theorem LG{k α:Int}:∀(us:List (Int×Int)) (a d:Int) (ps:.L) (b c:Int),ic c us b->(∀q∈ps,q<=c)->0<=c->MW k a d ps->d*dp us<=α ->
  (Nb k us a d=none/\∃u∈us,bO k u.1=-1)\/(∃x e,Nb k us a d=À x/\MW k x e (ps++us.map (·.1))/\e<=α/\∀u∈us,bO k u.1≠-1):=zrL (λa d ps b c j g p I i=>.inr #[a,d,rfl,by rwa[agt,afD],by let:d*1<=α:=i;lia,λu h=>absurd h Ĕ]) λu us LG a d ps b c j g p I i=>by
  let⟨h1,h2,y,o⟩:=j;rw[Nb];cases f:Ai k u.1 with
  |none=>show .inl #[rfl,u,ġ,xw.mp f]
  |some r =>
   let t:u.1∉ps:=λz=>by let:=g _ z;lia
   let⟨s,_⟩:=I.step h2 t f
   let n:=LG (CH a d r u.1) (d*u.1) (ps++[u.1]) b u.1 o (λq l=>by
    obtain z|z:=aen.mp l
    .let:=g q z;lia
    .rw[ad0.mp z];show Ņ _) .b s (by rwa[ĵ])
   dsimp only;obtain⟨e1,v,e2,e3⟩|⟨x,e,e1,e2,e3,e4⟩:=n
   .show .inl #[e1,v,ę _ e2,e3]
   .show .inr #[x,e,e1,by rwa[ů,List.append_cons],e3,λv m=>?_];obtain z|z:=đ.mp m
    .rw[z];intro w;rw[xw.mpr w] at f;cases f
    .show e4 v z
def Ts(d:1<=m):(Jm k m=none/\∃q,aN q=Á/\q∣m/\bO k q=-1)\/(∃x,Jm k m=À x/\0<=x/\x<m/\∀q,aN q=Á->q∣m->q∣x*x-k/\bO k q≠-1):=by
 let⟨⟨b,f⟩,c⟩:=pU d;let⟨n,l⟩:=Kc .a f;rw[c] at l;obtain⟨e1,u,e2,e3⟩|⟨x,e,e1,e2,e3,e4⟩:=LG (k:=k) (α:=m) (oh m) 0 1 [] b 1 f (λq h=>absurd h Ĕ) .a (MW.zero k) .b
 .let:=(fJ d).mp (adX.mpr #[u,e2,rfl]);show .inl #[e1,u.1,this.1,this.2,e3]
 .show .inr #[x,e1,e2.a0,by let:=e2.a1;lia,λq i j=>?_];let a:=(fJ d).mpr #[i,j];let⟨u,g,rfl⟩:=adX.mp a;show#[(e2.sq u.1 (by rwa[aik])).1,e4 u g]
end Q
open Q hiding Fr getD_mem cnt my ev CI
namespace L2.EP
open PySem PySem.Spec PyProof.Rows
section
variable{X:Cx}{U:aI}{D:GD}{M β:Type}[Py M][Py β]{e e1 e2:Ô}{b b1 b2:Bool}{pos:ð}{rest:List Ï}
def V5{i j:Int}(ha:E X U e1 b1 i)(a:E X U e2 b2 j)(b:K2 i j):E X U (.BinOp e1 .LShift e2 pos) Á (i*2^↥j):=by stop show CW (g:=λi j=>i*2^↥j) SW ha a b
def N6:Xh X "int.bit_length" (λx xs H Q=>∃i,x=.int i/\xs=[]/\Q (.int (Í i:Nat)) H):=by
 intro ZB s Y H x xs v us Q I r a h;let⟨i,rfl,rfl,q⟩:=h;let⟨t,rfl⟩:=r;cases a;show call_int_bit_length #[.int (Í i:Nat),H,I.tok _,#[_,rfl],q]
def RJ{i:Int}{apos:ð}(ha:E X U e b i)(a:ŗ e "bit_length" X.env (Õ e X.env)=Õ e X.env<|>zra)(c:(apos.endLine==pos.line)=Á<|>zra):E X U (.Call (.Attribute e "bit_length" apos) [] [] pos) Á ((Í i:Nat):Int):=by
 stop
  show aJ (R1 PySem.F.plainAttrs_int PySem.F.slot_int_bit_length PySem.F.type_int_bit_length N6 ha a c) λY H Q ⟨H0,F,O,S,q⟩=>#[H0,F,O,S,λv H1 f d=>by
    cases d
    show#[rfl,i,rfl,rfl,q _ H1 f rfl]]
def JC{i:Int}{u:Int×Int}:CV X .In i u (decide (u.1=i) || decide (u.2=i)):=#[_,Hn,λN N' H v w Q h1 h2 q=>by
 let⟨p,x,y,rfl,sq,a,b⟩:=h2;cases h1;cases a;cases b;show#[p,_,rfl,.inr (wF (aH.refl _) sq),rfl,rfl,?_]
 simpa [TL,MS,agL] using q]
theorem sT{K:Ã}{N:Nn}{H:Hp}:∀{vs:List V} {xs:.L},ß (λx (b:Int)=>Py.rp K N H x b) vs xs->vs=xs.map V.int
 |_,_,.nil=>rfl
 |_,_,.cons h r=>by rw[sT r,show _=V.int _ from h];rfl
theorem Ci{i:Int}:∀xs:.L,TL (.int i) (xs.map V.int)=decide (i∈xs)
 |[]=>by simp[TL]
 |x::xs=>by
  let:=Ci (i:=i) xs;unfold TL at *;rw[ů,ahj,this];simp only[MS,đ,agL,Bool.decide_or];congr 1;show agr.mpr eq_comm
def S.Yh{D:GD}{a:aI->Prop}{st:List Ï}(h:S X U st D)(w:∀U',D.nx U'->a U'):S X U st {D with nx:=a}:=by stop show lO h λd Y H ⟨H0,F,O,Z,n,r,bk,ct⟩=>#[H0,F,O,Z,λU' Y' H' c sm b q=>n U' Y' H' c sm b (w U' q),r,bk,ct]
def mW{c:Bool}{body orelse:List Ï}(J:aI->Prop)(a:T X U e c)(h1:c=Á->S X U body {D with nx:=J})(h2:c=Â->S X U orelse {D with nx:=J})(h:∀U',J U'->S X U' rest D):S X U (.If e body orelse pos::rest) D:=by stop show Vc a (λz=>(h1 z).Yh h) (λz=>(h2 z).Yh h)
def sO(mg:Ì->Option Å)(x:Ì)(i:Int):Prop:=∃t,mg x=À (.int i t)
def mZ{x:Ì}{i:Int}(c:Gl X x)(a:sO X.mg x i)(b:(x==("__debug__":Ì))=Â<|>zrb):E X U (.Name x pos) Á i:=by stop let⟨t,a⟩:=a;show aJ (zx (v:=.int i) c a #[t,rfl] b) λY H Q ⟨H0,F,O,S,q⟩=>q _ H (aH.refl _) rfl
end
variable{K:Ã}{H:Hp}{p:Ç}{xs:List V}{x:Ì}{c:Bool}
def si{M:Type}{xs:List M}{k:Int}{d:M}(b:0<=k)(h:k<(~~~xs:Int)):rV xs k=À (xs.getD ↥k d):=by
 let a:↥k<~~~xs:=.b
 let e:k=((↥k:Nat):Int):=.b
 let q:rV xs ((↥k:Nat):Int)=À xs[↥k]:=Aj (by rw[į a]);rw[<-e] at q;rw[q,ĩ,į a];rfl
structure Br(M:Type) where
 l:List M
def PV(K:Ã)(H:Hp)(p:Ç)(xs:List V):Prop:=Rt H p xs\/∃(o:ÿ) (YU:Array Å) (n:Nat),K.lookup p=À o/\o.cls=.type "tuple"/\o.data=.seq YU n/\YU.size<=sizeLine/\Vals xs YU.toList
def PV.t(h:PV K H p xs):CJ K H p xs:=h.imp Rt.rd id
def To{H':Hp}(t:∀p xs,Rt H p xs->Rt H' p xs)(h:PV K H p xs):PV K H' p xs:=h.imp (t _ _) id
def dv{H':Hp}(e:aH H H')(h:PV K H p xs):PV K H' p xs:=h.imp (λz=>aH.rt e z) id
noncomputable instance{M:Type}[Py M]:Py (Br M) where
 rp K N H v a:=∃p xs,v=.ref p/\PV K H p xs/\ß (λx b=>Py.rp K N H x b) xs a.l
 tr l t h:=by
  let⟨p,xs,e,s,r⟩:=h;show#[p,xs,e,To t s,bu (λ_ _ q=>Py.tr l t q) r]
noncomputable instance{M β:Type}[Py M][Py β]:Py (M⊕β) where
 rp K N H v a:=match a with|.inl x=>Py.rp K N H v x|.inr y=>Py.rp K N H v y
 tr {K N N' H H' v a} l t h:=by
  cases a with
  |inl x=>show Py.tr (M:=M) l t h
  |inr y=>show Py.tr (M:=β) l t h
def rq(K:Ã)(N:Nn)(H:Hp)(a:Int):¬Py.rp K N H .non a:=λh=>nomatch h
section
variable{X:Cx}{U:aI}{D:GD}{M β:Type}[Py M][Py β]{e e1 e2 tg:Ô}{b b1 b2:Bool}{pos:ð}{rest:List Ï}
def Qt{a:M}(h:E X U e b a):E X U e b (Ď a:M⊕β):=by stop show h
def JV{a:β}(h:E X U e b a):E X U e b (ö a:M⊕β):=by stop show h
def Qb{a:M}(h:E X U e b (Ď a:M⊕β)):E X U e b a:=by stop show h
def yV{a:β}(h:E X U e b (ö a:M⊕β)):E X U e b a:=by stop show h
def Mh{xs:List M}(he:E X U e b (Br.mk xs)):EI X U tg e b xs:=by
 stop
  show#[_,S6 he,λY H H0 F O R Z q=>#[H0,F,O,Z,λv H1 f h=>by
   let⟨p,vs,e,sq,d⟩:=h;show#[p,e,#[vs,(dv (aw _ _) sq).t],q _ H1 f λH' k _ sm=>#[λi a ha=>?_,?_]]
   .let⟨x,h1,h2⟩:=iX d ha;show#[#[vs,x,(dv (aw _ _) (dv sm sq)).t,h1],λy j c=>?_];let⟨g,c⟩:=c;subst g;let:=c vs ((dv (aw _ _) (dv sm sq)).t);rw[h1] at this;cases this;show#[aH.refl _,ay sm h2]
   .show#[vs,(dv (aw _ _) (dv sm sq)).t,by rw[bQ d];show Ā _]]]
def Fj{xs:Br M}{ys:List M}{k:Int}{p2:ð}(ha:E X U e1 b xs)(o:E X U e2 b2 k)(y:0<k)(h:0<~~~xs.l)(x:xs.l.drop ↥k=ys<|>zra):E X U (.Subscript e1 (.Slice (À e2) none none p2) pos) b (Br.mk ys):=by
 stop
  subst x
  show aJ (nA Th ha (rR o) qX) λY H Q ⟨H0,F,O,S,q⟩=>#[H0,F,O,S,λv H1 d u=>#[H0,F,O,S.go d,λw H2 a n=>by
   let⟨p,vs,e,sq,r⟩:=u;let i:=bQ r;let g:k=((↥k:Nat):Int):=.b
   let c:HT.gb (~~~vs) 0 (À k)≠0:=by
    rw[g,HT.qk];lia
   show#[k,n,p,vs,e,(dv (aw _ _) (dv (ah a) sq)).t,λz=>c z.1,λl h=>?_];let⟨m,s⟩:=wJ (xs:=jY vs (À k) none) ((S.go d).go a) h;show q _ _ (d.trans (a.trans m)) #[l,_,rfl,.inl s,?_]
   let ec:jY vs (À k) none=vs.drop ↥k:=by
    delta jY;rw[g,HT.qk,HT.mz];simp only[Ó];by_cases f:↥k<= ~~~vs
    .rw[ahx f,aff (by rw[Ϟ];show Ā _)]
    .rw[ahm .b,afF (Ā _),afF .b];simp
   let j:=bu (λ_ _ z=>ay ((ah a).trans (ah m)) z) (vt ↥k r);rw[<-ec] at j
   show j]]
def A7(K:Ã)(mg:Ì->Option Å)(x:Ì)(xs:.L):Prop:=∃(p:Ç) (o:ÿ) (YU:Array Å) (n:Nat),mg x=À (.ref p)/\K.lookup p=À o/\o.cls=.type "tuple"/\o.data=.seq YU n/\YU.size<=sizeLine/\Vals (xs.map V.int) YU.toList
def zh{xs:.L}(c:Gl X x)(a:A7 X.K X.mg x xs)(b:(x==("__debug__":Ì))=Â<|>zrb):E X U (.Name x pos) Á (Br.mk xs):=by stop let⟨p,o,YU,n,a,h1,h2,f,e,d⟩:=a;show aJ (zx (v:=.ref p) c a rfl b) λY H Q ⟨H0,F,O,S,q⟩=>q _ H (aH.refl _) #[p,_,rfl,.inr #[o,YU,n,h1,h2,f,e,d],A4 xs]
def sO.mk{h:Û}{mg:Ì->Option Å}{i:Int}{t:Tok}(σ:K.In h)(G:h.Ns É mg)(a:Ñ K É x=À (À (.int i t))):sO mg x i:=#[t,afA σ G a]
def A7.mk{h:Û}{mg:Ì->Option Å}{xs:.L}{od:Option Ç}{YU:Array Å}{n:Nat}{b:Array (Option Å)}(σ:K.In h)(G:h.Ns É mg)(a:Ñ K É x=À (À (.ref p)))
  (l:K.lookup p=À #[.type "tuple",od,.seq YU n,b]) (hz:YU.size<=1000) (c:Vals (xs.map V.int) YU.toList):A7 K mg x xs:=#[p,_,YU,n,afA σ G a,l,rfl,rfl,ź (cI hz),c]
def fX{a:M}(h:E X U e b (À a)):E X U e b a:=by stop show h
def lJ{a:M}(h:E X U e b a):E X U e b (À a):=by stop show h
def XU{x:Option M}{j:Nat}{p:ð}(ha:E X U e1 b1 x)(d:∀(K:Ã) (N:Nn) (H:Hp) (a:M),¬Py.rp K N H .non a):E X U (.Compare e1 [.IsNot] [.Constant .none j p] pos) Á (!x.isNone):=by
 stop
  show aJ (Ks (AE ha) rfl) λY H Q ⟨H0,F,O,S,q⟩=>#[H0,F,O,S,λv H1 c b=>by
    let e:decide (v=.non)=x.isNone:=by
     cases x with
     |none=>cases b;rfl
     |some a =>
      let f:v≠.non:=by rintro rfl;show d _ _ _ a b
      rw[aec f];rfl
    let:=q (.bl (!decide (v=.non))) H1 c;change Q (.bl (!decide (v=.non))) H1;rw[e] at this ⊢
    show this rfl]
def G7{x:Option M}{j:Nat}{p:ð}(ha:E X U e1 b1 x)(d:∀(K:Ã) (N:Nn) (H:Hp) (a:M),¬Py.rp K N H .non a):T X U (.Compare e1 [.IsNot] [.Constant .none j p] pos) (!x.isNone):=by
 stop
  show t8 (D6 (AE ha) rfl) λY H Q ⟨H0,F,O,S,q⟩=>#[H0,F,O,S,λv H1 c b=>by
    show#[!decide (v=.non),rfl,?_]
    let e:decide (v=.non)=x.isNone:=by
     cases x with
     |none=>cases b;rfl
     |some a =>
      let f:v≠.non:=by rintro rfl;show d _ _ _ a b
      rw[aec f];rfl
    rw[e];show q H1 c]
variable{γ:Type}[Py γ]{e3:Ô}{b3:Bool}
def NN{op a:ũ}{x:M}{y:β}{z:γ}{c':Bool}(h1:CV X op x y c)(h2:CV X a y z c')(ha:E X U e1 b1 x)(k:E X U e2 b2 y)(n:E X U e3 b3 z)(l:ŉ [op,a] [e2,e3]=Â<|>zrg):E X U (.Compare e1 [op,a] [e2,e3] pos) Á (c&&c'):=by
 stop
  let⟨r,j,p⟩:=h1;let⟨r',e,f⟩:=h2
  show aJ (MC j e ha k n l) λY H Q ⟨H0,F,O,S,q⟩=>#[H0,F,O,S,λv H1 d o=>#[H0,F,O,S.go d,λw H2 b g =>
   p _ _ H2 v w _ (ay ((ah b).trans (aw _ _)) o) (ay (aw _ _) g) #[c,rfl,by
    cases c with
    |false=>show q _ H2 (d.trans b) rfl
    |true=>show#[H0,F,O,(S.go d).go b,λu h i m=>f _ _ h w u _ (ay ((ah i).trans (aw _ _)) g) (ay (aw _ _) m) (q _ h (d.trans (b.trans i)) rfl)]]]]
def ET{op a:ũ}{x:M}{y:β}{z:γ}{c':Bool}(h1:CV X op x y c)(h2:CV X a y z c')(ha:E X U e1 b1 x)(k:E X U e2 b2 y)(n:E X U e3 b3 z)(l:ŉ [op,a] [e2,e3]=Â<|>zrg):T X U (.Compare e1 [op,a] [e2,e3] pos) (c&&c'):=by
 stop
  let⟨r,j,p⟩:=h1;let⟨r',e,f⟩:=h2
  show t8 (MA j e ha k n l) λY H Q ⟨H0,F,O,S,q⟩=>#[H0,F,O,S,λv H1 d o=>#[H0,F,O,S.go d,λw H2 b g =>
   p _ _ H2 v w _ (ay ((ah b).trans (aw _ _)) o) (ay (aw _ _) g) #[c,rfl,by
    cases c with
    |false=>show#[Â,rfl,q H2 (d.trans b)]
    |true=>show#[H0,F,O,(S.go d).go b,λu h i m=>f _ _ h w u _ (ay ((ah i).trans (aw _ _)) g) (ay (aw _ _) m) #[c',rfl,q h (d.trans (b.trans i))]]]]]
end
def V0:GD:={nx:=λ_=>True,rt:=λ_=>False}
section
variable{P:Ð}{w:Ø}{K:Ã}{mg:Ì->Option Å}{base:Û}{N ps:List Ì}{x qual:Ì}{st:Ï}{f:Ç}{k:Nat}{fd:í}
def yB{gs:List Bd}{vs:List V}{O:Ç->Prop}{b:Bool}{Q:VK}{a:Å}{A:å}{outer:List ő}{s:Æ}{E:XK}(B:⇑Body N qual st f k gs V0)(d:c7 k (A.deeper (ħ qual (af st) s⁻¹ f a)))
  (c:mh H O) (h:Args K .F vs gs) (q:∀r H',aH H H'->Py.rp K (Nf H b) (off H' O) r ()->Q r H'):
  ∃t,ui (vS p8 P w K mg base N qual (af st) f a A outer s H E).Qn (bJ st) t/\t {nx:=λ_ H'=>Q .non H',rt:=Q} (start N vs) H:=by stop show#[_,B a A outer s H E d,H,O,O,oH c h,λ_ _ H' _ _ Z _=>q .non H' Z.same rfl,λg v H' sm z e=>e.elim,λ_ _ _ _ _ _ z=>z.elim,λ_ _ _ _ _ _ z=>z.elim]
def mO{M:Type}(_:M):Unit:=()
def W4{M:Type}[Py M]{pre:M->Prop}{b:Bool}(F:pW K x qual st f fd)(d:ao N ps (af st))(g: ~~~ps=1)(B:∀a,pre a->⇑Body N qual st f k [.val Â a] V0):
  dC P w K mg base p8 (k+1) f fd ps (bU K pre b (mO (M:=M))):=by
 stop
  show F.ok d (λvs H Q E h=>?_) λe A outer s H vs Q E i h=>?_
  .let⟨O,v,a,_,rfl,_⟩:=h;rw[g];rfl
  .let⟨O,v,a,c,rfl,r,hp,q⟩:=h;show yB (B a hp) i c (.cons r .nil) q
end
def wW{O:Ç->Prop}(b:∀p,O p->∃xs:Mt,H p=À (mo xs))(p:Ç)(xs:List V)(h:Rt H p xs):Rt .F p xs:=by
 let a:¬O p:=λz=>by
  let⟨ys,e⟩:=b p z;obtain h|⟨o,h⟩:=h
  .rw[e] at h;obtain ys|ys|ys:=ys<;>cases h
  .rw[e] at h;obtain ys|ys|ys:=ys<;>cases h
 obtain h|⟨o,h⟩:=h
 .show .inl (by rwa[bE a])
 .show .inr #[o,by rwa[bE a]]
theorem C9{M β:Type}{F:M->β->Prop}:∀{l₁ l₂:List M} {m₁ m₂:List β},ß F l₁ m₁->ß F l₂ m₂->ß F (l₁++l₂) (m₁++m₂)
 |_,_,_,_,.nil,h=>h
 |_,_,_,_,.cons h r,h'=>.cons h (C9 r h')
section
variable{X:Cx}{U:aI}{D:GD}{M β γ:Type}[Py M][Py β][Py γ]{e e1 e2:Ô}{b b1 b2:Bool}{pos:ð}{st rest:List Ï}
def jk{a a':M}(h:E X U e b a)(ha:a=a'):E X U e b a':=by stop subst ha;show h
def Bj{xs ys:List M}(ha:E X U e1 Á xs)(m:E X U e2 Á ys)(o: ~~~xs+~~~ys<=1000):E X U (.BinOp e1 .Add e2 pos) Á (xs++ys):=by
 stop
  show aJ (JW R5 ha m) λY H Q ⟨H0,F,O,S,q⟩=>#[H0,F,O,S,λv H1 g s=>#[H0,F,O,S.go g,λw H2 e k=>by
    let⟨p,vs,e1,u,r,c⟩:=s;let⟨j,a,e2,n,t,d⟩:=k;let h1:H2 p=À (.lst vs):=e _ _ ((aw _ _) _ _ r.2);let h2:H2 j=À (.lst a):=(aw _ _) _ _ t.2;show#[p,j,vs,a,e1,e2,h1,h2,by rw[bQ c,bQ d];show ź (cI o),λl f=>?_];let⟨h,i⟩:=cV (xs:=vs++a) ((S.go g).go e) f
    show q _ _ (g.trans (e.trans h)) #[l,_,rfl,dz.of i,Nf.wk (b:=Á) (((S.go g).go e).ik f) i,C9 (bu (λ_ _ z=>ay ((ah e).trans (ah h)) z) c) (bu (λ_ _ z=>ay (ah h) z) d)]]]
def Ek[PyT M]{es:List Ô}{as:List M}(h:EA X U es b as)(f: ~~~as<=1000):EN X U (.List es pos) as:=by
 stop
  show aJ (Ap h) λY H Q ⟨H0,F,O,S,q⟩=>#[H0,F,O,S,λvs H1 a e=>#[by rw[bQ e];show ź (cI f),λp hp=>by
    let⟨c,d⟩:=cV (xs:=vs) (S.go a) hp
    show q _ _ (a.trans c) #[p,vs,rfl,dz.of d,#[a.free hp,d],bu (λ_ _ r=>PyT.free (λ_ _ w=>w) (ay (ah c) r)) e]]]
def Ug{x y:M}(f:T X U e c)(ha:c=Á->EN X U e1 x)(g:c=Â->EN X U e2 y):EN X U (.IfExp e e1 e2 pos) (if c then x else y):=by
 stop
  cases c with
  |true=>show aJ (rn f (ha rfl) yG) λY H Q ⟨H0,F,O,S,q⟩=>#[H0,F,O,S,λH1 a=>uH #[H0,F,O,S.go a,λw H2 b d=>q w H2 (a.trans b) (kc a d)]]
  |false=>show aJ (rn f yG (g rfl)) λY H Q ⟨H0,F,O,S,q⟩=>#[H0,F,O,S,λH1 a=>xZ #[H0,F,O,S.go a,λw H2 b d=>q w H2 (a.trans b) (kc a d)]]
def Fn[PyT M](i:Nat)(b:Bool){as:List M}(c:U[i]?=À (À (.dpo as)))(h:S X (U.set i (À (.own b as))) st D):S X U st D:=by
 stop
  show lO h λx Y H ⟨H0,F,O,Z,n,r,bk,ct⟩=>by
   show#[H0,F,O,#[Z.same,Z.fo,Z.f0,Z.own,by rw[Ŝ];show Z.len,λj g e no=>?_,?_],n,r,bk,ct]
   .by_cases a:j=i
    .subst a;let d:j<~~~U:=(adU.mp c).1;rw[get_set_eq d] at e;let f:Bd.own b as=g:=ķ (ķ e);show absurd (f▸(Ê:(Bd.own b as).jc)) no
    .rw[get_set_ne a] at e;show Z.at_ j g e no
   .let⟨u,q,t,k⟩:=Z.dis;show#[u,q,t,λj g e o=>?_];by_cases a:j=i
    .subst a;let d:j<~~~U:=(adU.mp c).1;rw[get_set_eq d] at e;let f:Bd.own b as=g:=ķ (ķ e);subst f;let⟨v,s,p,xs,m,y,l,w⟩:=k j _ c Ê;show#[v,s,p,xs,m,l.1,l.2,bu (λ_ _ z=>PyT.free (wW Z.own) z) w]
    .rw[get_set_ne a] at e;show k j g e o
end
end L2.EP
namespace L2
open PySem PySem.Spec PyProof.Rows
section
variable{X:Cx}{pos:ð}
end
end L2
namespace L2.EP
open PySem PySem.Spec PyProof.Rows
section
variable{X:Cx}{U:aI}{D:GD}{M β γ:Type}[Py M][Py β][Py γ]{e e1 e2:Ô}{b b1 b2:Bool}{pos:ð}{rest st:List Ï}
def Q8{xs:List M}{k:Int}{p2:ð}(ha:E X U e1 b xs)(m:E X U e2 b2 k)(t:0<=k):E X U (.Subscript e1 (.Slice none (À e2) none p2) pos) b (xs.take ↥k):=by
 stop
  show aJ (nA vd ha qX (rR m)) λY H Q ⟨H0,F,O,S,q⟩=>#[H0,F,O,S,λv H1 c s=>#[H0,F,O,S.go c,λw H2 a j=>by
    let⟨p,vs,e,sq,n,r⟩:=s;show#[k,j,p,vs,e,(aw _ _).seq ((ah a).seq sq),λl g=>?_];let⟨i,f⟩:=cV (xs:=jY vs none (À k)) ((S.go c).go a) g;show q _ _ (c.trans (a.trans i)) #[l,_,rfl,dz.of f,Nf.wk (((S.go c).go a).ik g) f,?_]
    let ec:jY vs none (À k)=vs.take ↥k:=by
     delta jY;let o:k=((↥k:Nat):Int):=.b
     rw[o,HT.qk,HT.mz];simp only[Ó,aiv,Nat.sub_zero];by_cases d:↥k<= ~~~vs
     .rw[ahx d]
     .rw[ahm .b,aff (Ā _),aff .b]
    let h:=bu (λ_ _ z=>ay ((ah a).trans (ah i)) z) (zB ↥k r);rw[<-ec] at h
    show h]]
def Ha(i:X.calm=Á):jy X (.builtin "min") (λxs H Q=>∃p,∃ns:.L,xs=[.ref p]/\dz X.K H p (ns.map V.int)/\0<~~~ns/\∀α,α∈ns->(∀a,a∈ns->α<=a)->Q (.int α) H):=by
 intro ZB s Y H xs us Q I r h;let⟨p,ns,rfl,sq,b,q⟩:=h;let⟨u,rfl,m⟩:=vals1 r;cases m;let⟨YU,k,pl,_⟩:=I.list sq;let hi:=intsAre_of k;let⟨ys,e⟩:=hi.allInts.items;let d:s.heap.IsList p (intItems ys):=e▸pl.isList
 let e1:ns=ys.toList.map (·.1):=by
  rw[<-ξ,<-e];show(show numsOf YU.toArray.toList=ns from hi.numsOf).symm
 let c:0<ys.size:=by rwa[e1,ċ,ŝ] at b
 show min_intList (I.ok.hd i) d c λv h' tk f g=>?_;let⟨t,rfl⟩:=intItems_at f;let⟨h1,h2⟩:=argBest_lt (numAt ys) (ys.size-1);show#[.int _,H,I.kept g,#[_,rfl],q _ ?_ λa ha=>?_]
 .rw[e1,numAt_eq];show getD_mem (by rw[ċ,ŝ];lia)
 .rw[e1] at ha;let⟨j,l,rfl⟩:=mem_getD ha;rw[ċ,ŝ] at l;rw[<-numAt_eq];show h2 j .b
def G5(i:X.calm=Á):jy X (.builtin "max") (λxs H Q=>∃p,∃ns:.L,xs=[.ref p]/\dz X.K H p (ns.map V.int)/\0<~~~ns/\∀α,α∈ns->(∀a,a∈ns->a<=α)->Q (.int α) H):=by
 intro ZB s Y H xs us Q I r h;let⟨p,ns,rfl,sq,b,q⟩:=h;let⟨u,rfl,m⟩:=vals1 r;cases m;let⟨YU,k,pl,_⟩:=I.list sq;let hi:=intsAre_of k;let⟨ys,e⟩:=hi.allInts.items;let d:s.heap.IsList p (intItems ys):=e▸pl.isList
 let e1:ns=ys.toList.map (·.1):=by
  rw[<-ξ,<-e];show(show numsOf YU.toArray.toList=ns from hi.numsOf).symm
 let c:0<ys.size:=by rwa[e1,ċ,ŝ] at b
 show max_intList (I.ok.hd i) d c λv h' tk f g=>?_;let⟨t,rfl⟩:=intItems_at f;let⟨h1,h2⟩:=argBest_gt (numAt ys) (ys.size-1);show#[.int _,H,I.kept g,#[_,rfl],q _ ?_ λa ha=>?_]
 .rw[e1,numAt_eq];show getD_mem (by rw[ċ,ŝ];lia)
 .rw[e1] at ha;let⟨j,l,rfl⟩:=mem_getD ha;rw[ċ,ŝ] at l;rw[<-numAt_eq];show h2 j .b
def IT{ns:.L}{m:Int}{p:ð}(l:X.calm=Á)(h:Gl X "min")(k:X.mg "min"=none)(ha:E X U e b ns)(i:0<~~~ns)(h1:m∈ns)(h2:∀a,a∈ns->m<=a)(c:Ä [e] X.env=(Â,Õ e X.env)::Ä [] X.env<|>zra):E X U (.Call (.Name "min" p) [e] [] pos) Á m:=by
 stop
  show aJ (d7 (Ha l) h k boot_min (aC ha aV c) (he:=c)) λY H Q ⟨H0,F,O,S,q⟩=>#[H0,F,O,S,λv H1 g j=>by
    let⟨p,vs,e,sq,n,r⟩:=j;rw[pJ r] at sq;show#[p,ns,by rw[e],(aw _ _).seq sq,i,λα d f=>q _ H1 g ?_];let:=h2 α d;let:=f m h1;change V.int α=V.int m
    rw[(.b:α=m)]]
def SK{ns:.L}{m:Int}{p:ð}(l:X.calm=Á)(h:Gl X "max")(k:X.mg "max"=none)(ha:E X U e b ns)(i:0<~~~ns)(h1:m∈ns)(h2:∀a,a∈ns->a<=m)(c:Ä [e] X.env=(Â,Õ e X.env)::Ä [] X.env<|>zra):E X U (.Call (.Name "max" p) [e] [] pos) Á m:=by
 stop
  show aJ (d7 (G5 l) h k boot_max (aC ha aV c) (he:=c)) λY H Q ⟨H0,F,O,S,q⟩=>#[H0,F,O,S,λv H1 g j=>by
    let⟨p,vs,e,sq,n,r⟩:=j;rw[pJ r] at sq;show#[p,ns,by rw[e],(aw _ _).seq sq,i,λα d f=>q _ H1 g ?_];let:=h2 α d;let:=f m h1;change V.int α=V.int m
    rw[(.b:α=m)]]
end
def O_{X:Cx}:mx X (ĝ .Add) (λx y H Q=>∃l b xs zs,x=.ref l/\y=.ref b/\dz X.K H l xs/\dz X.K H b zs/\~~~xs+~~~zs<=sizeLine/\∀p,H p=none->Q (.ref p) (upd H p (.lst (xs++zs)))):=by
 intro ZB s Y H x y v u Q I C w h;let⟨l,b,xs,zs,rfl,rfl,A,B,hz,q⟩:=h;cases C;cases w;let⟨YU,r,pl,_⟩:=I.list A;let⟨a,k,i,_⟩:=I.list B;let⟨⟨cls,dd,data,sl⟩,n,j,o,e,t⟩:=pl;let⟨⟨m,z,data2,g⟩,E,d,f,c,hd2⟩:=i;simp only at o e t f c hd2;subst o e t f c hd2;let J:= ~~~r;let G:= ~~~k;let D:YU.toArray++a.toArray=(YU++a).toArray:=by simp
 show concat_meets #[_,j,rfl] #[_,d,rfl] noFill_list_add seq_list_add PySem.F.slot_list_add PySem.F.entry_list_add (PySem.F.args_list_add_2 _ _) (list_addW l b YU.toArray a.toArray n E none none sl g (by rw[ņ,ņ];lia)) #[j,d,?_];rw[D];show#[.ref _,_,I.QS (t':=s.toks) (r.append k) (by rw[Ř];lia),rfl,q _ I.fresh]
section
variable{X:Cx}{U:aI}{D:GD}{M β γ:Type}[Py M][Py β][Py γ]{e e1 e2:Ô}{b b1 b2:Bool}{pos:ð}{rest st:List Ï}
def jX[PyT M]{xs ys:List M}(ha:E X U e1 b1 xs)(n:E X U e2 b2 ys)(o: ~~~xs+~~~ys<=1000):E X U (.BinOp e1 .Add e2 pos) Á (xs++ys):=by
 stop
  show aJ (JW O_ ha n) λY H Q ⟨H0,F,O,S,q⟩=>#[H0,F,O,S,λv H1 g s=>#[H0,F,O,S.go g,λw H2 e m=>by
    let⟨p,vs,e1,j,u,a⟩:=s;let⟨r,c,e2,h,x,d⟩:=m;show#[p,r,vs,c,e1,e2,(aw _ _).seq ((ah e).seq j),(aw _ _).seq h,by rw[bQ a,bQ d];show ź (cI o),λl f=>?_];let⟨i,k⟩:=cV (xs:=vs++c) ((S.go g).go e) f;show q _ _ (g.trans (e.trans i)) #[l,_,rfl,dz.of k,Nf.wk (b:=Á) (((S.go g).go e).ik f) k,C9 ?_ ?_]
    .show bu (λ_ _ z=>PyT.free (λ_ _ t=>aH.rt ((ah e).trans (ah i)) t) z) a
    .show bu (λ_ _ z=>PyT.free (λ_ _ t=>aH.rt (ah i) t) z) d]]
end
end L2.EP
namespace L2
open PySem PySem.Spec PyProof.Rows
def XH(K : Ã)(a : Ç) : It :=
  #[λi H=>∃xs x,dz K H a xs/\xs[i]?=À x,
   λi H v H'=>∃T x,H T=none/\v=.ref T/\H'=upd H T (.tup [.int (i : Int),x])/\∀xs,dz K H a xs->xs[i]?=À x,
   λi H=>∃xs,dz K H a xs/\~~~xs<=i]
def HY{P:Ð}{w:Ø}{K:Ã}{elts:List Ô}{kk:Nat}{tp:ð}(z f a:Ç):Turn P w K (.Tuple elts kk tp) (XH K a) [z,f] z
  (λi h=>(∃old,IsEnum h z f ((i:Nat):Int) old)/\h.IsListIter f a i) where
 mem:=by simp
 obj:=λi h st c B=>by
  let⟨⟨old,hz⟩,h1⟩:=st;let d:c=z\/c=f:=by simpa using B
  obtain e|e:=d
  .subst e;show#[_,hz,λv q=>by cases q]
  .subst e;let⟨o,D,q2,F⟩:=h1;show#[o,D,λv q=>by rw[F] at q;cases q]
 keep:=λi h h' st k=>by
  let⟨⟨old,hz⟩,h1⟩:=st;show#[#[old,k z .c _ hz],h1.at λo e=>k f .c o e]
 item:=by
  intro X T R Q B i ZB s Y H E I j st Γ;subst T R Q;let⟨xs,x,A,gx⟩:=Γ;let⟨⟨old,hz⟩,h1⟩:=st;let⟨ix,S,px,_⟩:=I.list A;let X':∀{s t:String},s≠t->þ s≠þ t:=λne e=>ne (by injection e)
  let l:z≠f:=by
   let⟨o1,C,b1,_⟩:=h1;show dX hz C (by rw[b1];show X' .a)
  let⟨u,ux,J⟩:=S.get gx;show wpAny_pyNext_enum_item hz h1 px.isList ↑ux l λh' C a3 a5 a6 g=>?_;let α:H s⁻¹=none:=I.hok.fresh (Ā _)
  let I1:Inv X ZB Y (upd H s⁻¹ (.tup [.int (i:Int),x])) {s with heap:=h',toks:=s.toks+1}:=by
   show I.EB (ch:=[z,f]) (Ā _) (λc o d e=>g c o (λq=>d (by simp[q])) (λq=>d (by simp[q])) e) (λc o e=>?_) (λc d=>j c d) ?_
   .by_cases D:c=z
    .subst D;show#[_,C]
    by_cases F:c=f
    .subst F;let⟨o',q,_⟩:=a3;show#[o',q]
    show#[o,g c o D F e]
   .show#[by change 2<=sizeLine;decide,[.int i s.toks,u],.cons #[_,rfl] (.cons J .nil),#[_,a5,rfl,_,rfl]]
  show#[_,rfl,?_];let p:=j z .c;show wpAny_letOwnedTupleGo_enum C λN V y=>?_;let zT:z≠s⁻¹:=Ķ (ē hz);let I2:Inv X ZB Y (upd H s⁻¹ (.tup [.int (i:Int),x])) {({s with heap:=h',toks:=s.toks+1}:Æ) with heap:=N,toks:=s.toks+1}:=I1.turned (λc o d e=>y.extBut c o d e) (by rw[aU zT];show p.1) p.2.1 p.2.2.2.1 p.2.2.2.2.1 p.2.2.2.2.2;show#[.ref s⁻¹,upd H s⁻¹ (.tup [.int (i:Int),x]),I2,rfl,#[s⁻¹,x,α,rfl,rfl,λxs' L=>?_],#[#[_,V],a3.extBut y.extBut (œ l)],λc d=>?_]
  .rwa[I.qU L A]
  .let G:c<s⁻¹:=by
    let σ:c=z\/c=f:=by simpa using d
    obtain e|e:=σ
    .subst e;show ē hz
    .subst e;let⟨_,q,_⟩:=h1;show ē q
   rw[aU (Ķ G)];show(j c d).1
 done:=by
  intro X T R Q B i ZB s Y H E I j st Γ;subst T R Q;let⟨xs,A,hend⟩:=Γ;let⟨⟨old,hz⟩,h1⟩:=st;let⟨ix,S,px,_⟩:=I.list A;show wpAny_pyNext_enum_end (I.ok.hd B) hz h1 px.isList ?_ λh' g=>#[rfl,?_]
  .let:= ~~~S;simp;lia
  .let Z:=j f .c
   show I.step (g':=s.gens) (d':=s.drawn) (t':=s.toks) (ch:=[f]) (λb hb=>?_) (λb o _ _ d e _=>g b o (λq=>d (by simp[q])) e) (λb o _ _ d e _=>#[o.slots,g b o (λq=>d (by simp[q])) e]) (λ_ _ _ _ n=>n)
    (λb o d e=>#[o,g b o (λq=>d (by simp[q])) e]) (λ_ _ e=>e) (λ_ _ _ e=>e) (λb ps e=>#[#[],by rw[e];simp]) (λm hm=>?_) (λb u e=>?_) I.bare
   .let q:=j b (by simp at hb ⊢;simp[hb]);show#[q.2.2.2.1,q.2.1,q.2.2.2.2.1,q.2.2.2.2.2]
   .let⟨o,es,ep,ho,r⟩:=hm;show#[o,es,ep,g _ o (œ Z.2.1) ho,r]
   .let nn:∀c v,H c=À v->c≠f:=λc v e q=>by rw[q,Z.1] at e;cases e
    show(I.hok b u e).ye (λc v d q=>?_) (λ_ q=>q) λ_ _ q=>q;obtain O|O:=d
    .subst O;show g c v (nn c _ e) q
    .show g c v (nn c _ O) q
 self:=λ_ _ _ _ _ st h=>by
  let⟨⟨old,hz⟩,_⟩:=st;show wpAny_pyIter_enum hz h
section
variable{X:Cx}{elts:List Ô}{kk:Nat}{tp:ð}
def Uc(K:Ã)(ta:TA):TI:=λY H R=>ta Y H λvs H1=>∃a,vs=[.ref a]/\(∃xs,dz K H1 a xs)/\R (XH K a) H1
def Om{e1:Ô}{ta:TA}{p pos:ð}(j:Gl X "enumerate")(m:X.mg "enumerate"=none)(ha:PA X [e1] ta)(he:Ä [e1] X.env=(Â,Õ e1 X.env)::Ä [] X.env<|>zra)
  (hpl:(ã pos (Ä [] X.env)).any (·.1)=Â<|>zra):PI X (.Tuple elts kk tp) (.Call (.Name "enumerate" p) [e1] [] pos) (Uc X.K ta):=by
 intro ZB s Y H R I h;show Call_ (je I j m PyProof.Rows.boot_enumerate (afm (cK (ha pos ZB s Y H _ I h) λus b ⟨vs,H1,f,v,l⟩=>?_) he hpl));let⟨a,e,⟨xs,o⟩,q⟩:=l;subst e;let⟨u,rfl,n⟩:=vals1 v;cases n;let⟨w,y,px,_⟩:=f.list o;show call_enumerate_list px.isList λh' i r x k=>?_;let t:Inv X ZB Y H1 {b with heap:=h',toks:=b.toks}:=f.kept k;show wpAny_pyIter_enum (s:={b with heap:=h'}) i ?_;show#[b⁻¹+1,[b⁻¹+1,b⁻¹],_,XH X.K a,H1,rfl,t,HY (b⁻¹+1) b⁻¹ a,#[#[_,i],r],λc g=>?_,q]
 let d:b⁻¹<=c:=by
  simp at g;obtain e|e:=g<;>subst e<;>lia
 show f.GN d (f.hok.fresh d)
end
end L2
namespace L2.EP
open PySem PySem.Spec PyProof.Rows
variable{H:Hp}{K:Ã}
def Ho{M:Type}(xs:List M):List (Int×M):=xs.mapIdx λi x=>((i:Int),x)
def AO{M:Type}{xs:List M}{i:Nat}{u:Int×M}(h:(Ho xs)[i]?=À u):xs[i]?=À u.2/\u.1=(i:Int):=by
 delta Ho at h;rw[Ω] at h;cases e:xs[i]? with
 |none=>rw[e] at h;cases h
 |some x=>rw[e] at h;cases h;show#[rfl,rfl]
def zE{M:Type}(xs:List M): ~~~(Ho xs)= ~~~xs:=by delta Ho;rw[List.length_mapIdx]
section
variable{X:Cx}{U:aI}{M β:Type}[Py M][Py β]{e1 e2:Ô}{b1 b2:Bool}{elts:List Ô}{kk:Nat}{tp p ps:ð}
def EW{xs:List M}(n:Gl X "enumerate")(o:X.mg "enumerate"=none)(h1:E X U e1 b1 xs)(b:Ä [e1] X.env=(Â,Õ e1 X.env)::Ä [] X.env<|>zra)
  (hpl:(ã ps (Ä [] X.env)).any (·.1)=Â<|>zra):EI X U (.Tuple elts kk tp) (.Call (.Name "enumerate" p) [e1] [] ps) b1 (Ho xs):=by
 stop
  show#[_,Om n o (aC h1 aV b) b hpl,λY H H0 F O R Z q=>#[H0,F,O,Z,λv H1 y B=>by
    let⟨a,d,D,h,G,j⟩:=B;show#[a,by rw[D],#[d,(aw _ _).seq h],q _ H1 y λH' s f sm=>#[λi u t=>?_,?_]]
    .let⟨A,hi⟩:=AO t;let⟨x,k,C⟩:=iX j A;let c:=(aw _ _).seq (sm.seq h);show#[#[d,x,c,k],λI r m=>?_];let⟨T,J,g,rfl,rfl,l⟩:=m;let ex:=l d c;rw[k] at ex;cases ex
     let e:¬s T:=λz=>by
      let⟨zs,w⟩:=f T z;rw[g] at w;cases w
     show#[dt g _,T,.int (i:Int),x,rfl,.inl (by rw[bE e];show bp),?_,?_]
     .change V.int _=V.int _;rw[hi]
     .show ay (sm.trans (ah (dt g _))) C
    .show#[d,(aw _ _).seq (sm.seq h),?_];rw[bQ j,zE]
     lia]]
end
structure IJ(β:Type) where
 rows:List (List β)
noncomputable instance{β:Type}[Py β]:Py (IJ β) where
 rp K N H v a:=∃p xs,v=.ref p/\dz K H p xs/\N.has H p (.inl xs)/\xs.Nodup/\ß (λx (r:List β)=>Py.rp K N H x r) xs a.rows
 tr l t h:=by
  let⟨p,xs,e,s,n,c,r⟩:=h;let⟨s',b⟩:=l _ (.inl xs) s n;show#[p,xs,e,s',b,c,bu (λ_ _ q=>Py.tr l t q) r]
def OT{β:Type}[Py β]{N:Nn}{v:V}{rows:List (List β)}(h:Py.rp K N H v (IJ.mk rows)):Py.rp K N H v rows:=by
 let⟨p,xs,e,s,n,_,r⟩:=h;show#[p,xs,e,s,n,r]
section
variable{X:Cx}{U:aI}{D:GD}{M β:Type}[Py M][Py β]{elt target iter c:Ô}{b b':Bool}{pos:ð}{Ze:Ć}{tn:List Ì}{js:List Nat}{g:TG}{tc:Nat->Prop}{put:Bool->M->aI->aI}{as:List M}
def Yj(X:Cx)(tn:List Ì)(js:List Nat)(Ze:Ć)(elt:Ô)(β:Type)[Py β]:TE:=λY H Q=>∃U',∃v:β,(∀C s H fp,EN .H U' elt v)/\tN X.K U' v Y H Q
def Q_{C:Ç}{s:Æ}{fp:List Ç}:PE .H elt (Yj X tn js Ze elt β):=by stop show λZB s' Y H' Q I ⟨U',v,h,q⟩=>(show PE .H elt (tN X.K U' v) from h C s H fp) ZB s' Y H' Q I q
def LP{f:M->List β}{wi:TI}(hw:∀(Y:St) (H H0:Hp) (F O:Ç->Prop) (R:It->Hp->Prop),e9 X.K H0 F O U Y H->(∀J H1,aH H H1->Um X.K H0 O b as J H1->R J H1)->wi Y H R)
  (hgp:GP g M put tc X.K) (htc:∀j,tc j->j<~~~tn)
  (hb:∀(i:Nat) (a:M),as[i]?=À a->∀C s H fp,EN .H (put b a (cΓ U tn js)) elt (f a)) (hl: ~~~as<=1000)
  {Y:St} {H:Hp} {Q:VK} {H0:Hp} {F O:Ç->Prop} (Z:e9 X.K H0 F O U Y H) (q:∀v H',aH H H'->Py.rp X.K (.new H) (off H' O) v (IJ.mk (as.map f))->Q v H'):
  TX wi tn js g (WA X tn js Ze []) (Yj X tn js Ze elt (List β)) Y H Q:=by
 stop
  show hw Y H H0 F O _ Z λJ H1 P YU D α=>?_;let Z1:=Z.go P
  show#[λi m H' xs=>m= ~~~as-i/\i<= ~~~as/\aH H1 H'/\H' D=À (.lst xs)/\xs.Nodup/\(∀x∈xs,∃q ys,x=.ref q/\H' q=À (.lst ys))/\ß (λx a=>Py.rp X.K (.new H) (off H' λp=>O p\/p=D) x a) xs ((as.take i).map f),
   #[_,rfl,ş _,dt α _,bp,aiw,(λx h=>by cases h),.nil],?_]
  rintro i m H' xs ⟨rfl,hi,sm,B,nd,G,N⟩;show#[B,?_];let⟨Z',so⟩:=Z1.ownIn α sm B;let⟨t1,t2⟩:=YU H' _ Z'.own so;by_cases E:i<~~~as
  .let ha:as[i]?=À as[i]:=į E;let htk:as.take (i+1)=as.take i++[as[i]]:=by rw[agM,ha];rfl
   let⟨go,yl⟩:=t1 i _ ha;show .inr #[go,λx A hy=>?_];let⟨d,rx⟩:=yl x A hy;show hgp b as[i] H0 F _ (cΓ U tn js) (cσ Y tn js) A x _ ((Z'.go d).gQ tn js) rx λσ2 Z2 l2 k2=>?_;show#[#[λj v hj e=>?_,l2],_,_,λC s H fp=>Ab,H0,F,_,Z2,λH3 k=>?_]
   .rwa[k2 j λz=>absurd (htc j z) (af5.mpr hj)]
   show uH #[_,_,hb i _ ha,H0,F,_,Z2.go k,λy H4 Γ ry=>?_];let W:H4 D=À (.lst xs):=Γ _ _ (k _ _ (d _ _ B));let V:(λp=>O p\/p=D) D:=.inr rfl;let σ:aH H H3:=P.trans (sm.trans (d.trans k));let ry':=kc σ ry;let⟨S,u,e0,sq0,l,rr0⟩:=ry;let h40:H4 S=À (.lst u):=(aw _ _) _ _ l.2
   let I:S≠D:=λw=>by
    let r:H3 D=À (.lst xs):=k _ _ (d _ _ B);rw[<-w,l.1] at r;cases r
   show#[W,?_,~~~as-(i+1),.b,rfl,E,?_,bp,?_,?_,?_]
   .let:=bQ N;rw[ċ] at this;let r:=ahG i as;show afn .b (cI hl)
   .show λc o z=>by
     let hc:c≠D:=λw=>by rw[w,α] at z;cases z
     rw[aU hc];show Γ _ _ (k _ _ (d _ _ (sm _ _ z)))
   .rw[ahc];show#[nd,.c,λa ha1 c hc1=>?_];rw[ad0.mp hc1];let⟨T,n,e1,h1⟩:=G a ha1;rw[e1,e0];intro w;cases w;let r:H3 S=À (.lst n):=k _ _ (d _ _ h1);rw[l.1] at r;cases r
   .intro x' hx';obtain z|z:=aen.mp hx'
    .let⟨T,n,e1,h1⟩:=G x' z;by_cases t:T=D
     .show#[T,xs++[y],e1,by rw[t];show bp]
     .show#[T,n,e1,by rw[aU t];show Γ _ _ (k _ _ (d _ _ h1))]
    .rw[ad0.mp z];show#[S,u,e0,by rw[aU I];show h40]
   .rw[oo V,htk];simp only[agf,ů,agt];show vM (bu (λ_ _ z=>ay (ah (d.trans (k.trans Γ))) z) N) (.cons ry' .nil)
  .let ei:i= ~~~as:=.b
   subst ei;rw[Ζ] at N;let L:off H' O D=À (.lst xs):=by rwa[bE (Z1.pZ α)]
   show .inl #[t2,q _ H' (P.trans sm) #[D,xs,rfl,dz.of L,#[P.free α,L],nd,?_]];show bu (λ_ _ z=>ay (kG λ_ w=>.inl w) z) N
def KH[PyT β]{f:M->β}{wi:TI}(hw:∀(Y:St) (H H0:Hp) (F O:Ç->Prop) (R:It->Hp->Prop),e9 X.K H0 F O U Y H->(∀J H1,aH H H1->Um X.K H0 O b as J H1->R J H1)->wi Y H R)
  (N:GP g M put tc X.K) (L:∀j,tc j->j<~~~tn)
  (hb:∀(i:Nat) (a:M),as[i]?=À a->∀C s H fp,E .H (put b a (cΓ U tn js)) elt b' (f a)) (W: ~~~as<=1000)
  {Y:St} {H:Hp} {Q:VK} {H0:Hp} {F O:Ç->Prop} (Z:e9 X.K H0 F O U Y H) (q:∀v H',aH H H'->Py.rp X.K (.new H) (off H' O) v (as.map f)->Q v H'):
  TX wi tn js g (WA X tn js Ze []) (Xe X tn js Ze elt β b') Y H Q:=by
 stop
  show hw Y H H0 F O _ Z λJ H1 G YU D l=>?_;let P:=Z.go G
  show#[λi m H' xs=>m= ~~~as-i/\i<= ~~~as/\aH H1 H'/\H' D=À (.lst xs)/\ß (λx a=>Py.rp X.K (.new H) (off H' λp=>O p\/p=D) x a) xs ((as.take i).map f),
   #[_,rfl,ş _,dt l _,bp,.nil],?_]
  rintro i m H' xs ⟨rfl,hi,sm,r,n⟩;show#[r,?_];let⟨S,so⟩:=P.ownIn l sm r;let⟨t1,Γ⟩:=YU H' _ S.own so;by_cases h:i<~~~as
  .let ha:as[i]?=À as[i]:=į h;let I:as.take (i+1)=as.take i++[as[i]]:=by rw[agM,ha];rfl
   let⟨go,yl⟩:=t1 i _ ha;show .inr #[go,λx d hy=>?_];let⟨t,rx⟩:=yl x d hy;show N b as[i] H0 F _ (cΓ U tn js) (cσ Y tn js) d x _ ((S.go t).gQ tn js) rx λσ2 T l2 k2=>?_;show#[#[λj v hj e=>?_,l2],_,_,λC s H fp=>Ab,H0,F,_,T,λH3 u=>?_]
   .rwa[k2 j λz=>absurd (L j z) (af5.mpr hj)]
   show uH #[_,_,hb i _ ha,H0,F,_,T.go u,λy H4 α V=>?_];let B:H4 D=À (.lst xs):=α _ _ (u _ _ (t _ _ r));let A:(λp=>O p\/p=D) D:=.inr rfl;show#[B,?_,~~~as-(i+1),.b,rfl,h,?_,bp,?_]
   .let:=bQ n;rw[ċ] at this;let h3:=ahG i as;show afn .b (cI W)
   .show λc o z=>by
     let hc:c≠D:=λw=>by rw[w,l] at z;cases z
     rw[aU hc];show α _ _ (u _ _ (t _ _ (sm _ _ z)))
   .rw[oo A,I];simp only[agf,ů,agt];show vM (bu (λ_ _ z=>ay (ah (t.trans (u.trans α))) z) n) (.cons (PyT.free (λ_ _ w=>w) V) .nil)
  .let σ:i= ~~~as:=.b
   subst σ;rw[Ζ] at n;let k:off H' O D=À (.lst xs):=by rwa[bE (P.pZ l)]
   show .inl #[Γ,q _ H' (G.trans sm) #[D,xs,rfl,dz.of k,#[G.free l,k],?_]];show bu (λ_ _ z=>ay (kG λ_ w=>.inl w) z) n
variable{γ:Type}[Py γ]{e e1 e2:Ô}{b1 b2:Bool}{p:ð}{rest st:List Ï}
def OK(i:Nat){rows:List (List β)}(b:U[i]?=À (À (.dpo (IJ.mk rows))))(h:S X (U.set i (‹rows›)) st D):S X U st D:=by stop show Gp (g':=Bd.val Á rows) i b Ê (λz=>z) (λH0 H O f g v d c _ e=>OT (Tv (a:=IJ.mk rows) d c e)) h
def Ko[PyT β]{D:Ç->Prop}{q:Ç}{ys zs:List V}{r':List β}(g:H q=À (.lst ys))(u:D q)(hz:ß (λx (c:β)=>Py.rp K .any (upd H q (.lst zs)) x c) zs r'):
  ∀{vs:List V} {rows:List (List β)} {k:Nat},ß (λx r=>Py.rp K (.set D) H x r) vs rows->vs.Nodup->vs[k]?=À (.ref q)->ß (λx r=>Py.rp K (.set D) (upd H q (.lst zs)) x r) vs (rows.set k r'):=by
 let n:∀p xs,Rt H p xs->Rt (upd H q (.lst zs)) p xs:=λp xs h=>by
  let hp:p≠q:=λw=>by
   subst w;obtain h|⟨o,h⟩:=h
   .rw[g] at h;cases h
   .rw[g] at h;cases h
  obtain h|⟨o,h⟩:=h
  .show .inl (by rwa[aU hp])
  .show .inr #[o,by rwa[aU hp]]
 let other:∀{x:V} {r:List β},Py.rp K (.set D) H x r->x≠.ref q->Py.rp K (.set D) (upd H q (.lst zs)) x r:=λ{x r} h d=>by
  let⟨p,xs,e,sq,nn,m⟩:=h;let hp:p≠q:=λw=>d (by rw[e,w]);let e2:upd H q (.lst zs) p=À (.lst xs):=by rw[aU hp];show nn.2
  show#[p,xs,e,dz.of e2,#[nn.1,e2],bu (λ_ _ z=>PyT.free n z) m]
 let here:Py.rp K (.set D) (upd H q (.lst zs)) (.ref q) r':=#[q,zs,rfl,dz.of bp,#[u,bp],bu (λ_ _ z=>PyT.free (λ_ _ w=>w) z) hz];intro vs rows k h
 induction h generalizing k with
 |nil=>intro _ e;simp at e
 |@cons x r a b s t f =>
  intro v e;let⟨i,y⟩:=afc.mp v;cases k with
  |zero =>
   let ex:x=.ref q:=by simpa using e
   subst ex;show .cons here ?_
   let:∀{a:List V} {b:List (List β)},ß (λx r=>Py.rp K (.set D) H x r) a b->(V.ref q)∉a->ß (λx r=>Py.rp K (.set D) (upd H q (.lst zs)) x r) a b:=λ{a b} t=>by
    induction t with
    |nil=>intro _;show .nil
    |cons h t f=>intro l;show .cons (other h λw=>l (by rw[w];show ġ ..)) (f λw=>l (ę _ w))
   show this t i
  |succ k =>
   let j:a[k]?=À (.ref q):=by simpa using e
   show .cons (other s λw=>i (by rw[w];show Į j)) (f y j)
def HK[PyT β]{D:Ç->Prop}{p q:Ç}{xs ys:List V}{k:Nat}(hp:H p=À (.lst xs))(a:H q=À (.lst ys))(d:xs[k]?=À (.ref q))(b:List β)(e:ß (λx (c:β)=>Py.rp K (.set D) H x c) ys b):p≠q:=λw=>by
 subst w;rw[hp] at a;cases a;let⟨c,_,h2⟩:=zq e d;show PyT.nl h2 hp
def vi[PyT β](i:Nat){rows:List (List β)}{A:List β}{c:β}{k l:Int}{x:Ì}{p r t:ð}(hg:U[i]?=À (À (.dpo (IJ.mk rows))))(hk:0<=k)(hr:rows[↥k]?=À A)(hl0:0<=l)(hl:↥l<~~~A)(he:E X U e b c)(hek:E X U e1 b1 k)(R:E X U e2 b2 l)
  (h:S X (U.set i (À (.dpo (IJ.mk (rows.set ↥k (A.set ↥l c)))))) rest D) (hi:X.N[i]?=À x<|>zra)
  (hv:Nm X.env.scope x<|>zre) (hd:(x==("__debug__":Ì))=Â<|>zrb) (hcd:(x==("__classdict__":Ì))=Â<|>zrb)
  (hp1:iw e1<|>zrj)
  (ha:∀v,ď (.Subscript (.Subscript (.Name x p) e1 r) e2 t) X.env v=(do
   let P <-Ě [v] (Õ (.Subscript (.Name x p) e1 r) X.env);let iv <-Ě [v,P] (Õ e2 X.env)
   Ϥ t
   Ě [v,P,iv] (setItem P iv v)
   release [v,P,iv] []):=by intro _;rfl)
  (hs:ŕ [.Subscript (.Subscript (.Name x p) e1 r) e2 t] e pos.line X.env=pure Â<|>zra) (hw:Ŗ [.Subscript (.Subscript (.Name x p) e1 r) e2 t] e X.env=pure none<|>zra)
  (h1:(ä [.Subscript (.Subscript (.Name x p) e1 r) e2 t] X.env).map (·.2)=[ď (.Subscript (.Subscript (.Name x p) e1 r) e2 t) X.env]<|>zra):
  S X U (.Assign [.Subscript (.Subscript (.Name x p) e1 r) e2 t] e pos::rest) D:=by
 stop
  show eI (dU (Et he (Kh (yP zp (pv i hi hv hd hcd) hek hp1) R set_list ha) hs hw h1) λDe Y H ⟨H0,F,O,Z,n,_⟩=>#[H0,F,O,Z,λu H1 B ru=>by
    let⟨v,_,m,_,_,_⟩:=(Z.go B).write hg Ê;show#[v,m,H0,F,O,Z.go B,λku H2 K rk=>?_];cases rk;let⟨v',Di2,J,⟨L,f,y,sq2,T,nd2,W⟩,_,_⟩:=((Z.go B).go K).write hg Ê;let σ:v=v':=by rw[m] at J;show ķ (ķ J)
    subst σ;let⟨v0,g,⟨s,ys2,e0,s0,n0,rr0⟩⟩:=iX W hr;subst e0;show#[L,f,k,.ref s,y,rfl,sq2,?_,H0,F,O,(Z.go B).go K,λlu H3 α rl=>?_]
    .let hkk:k=((↥k:Nat):Int):=.b
     rw[hkk];show Aj g
    cases rl;let⟨v3,Di,C,⟨q,xs,I,sq,nn,nd,rr⟩,hO,wr⟩:=(((Z.go B).go K).go α).write hg Ê;let ev3:v=v3:=by rw[m] at C;show ķ (ķ C)
    subst ev3;let eq2:L=q:=by rw[y] at I;cases I;rfl
    subst eq2
    let exs:f=xs:=by
     let a1:=α _ _ T.2;rw[nn.2] at a1;cases a1;rfl
    subst exs;let⟨v0',j,⟨q0',ys,Q,s0',a,d⟩⟩:=iX rr hr;let G:V.ref s=v0':=by rw[g] at j;show ķ j
    rw[Q] at G;cases G;let hly:↥l<~~~ys:=by rwa[bQ d]
    let hix:A_ (~~~ys) l=À ↥l:=by delta A_;rw[adI hl0,adI .b]
    show#[s,ys,l,↥l,rfl,rfl,a.2,hix,?_];let Γ:=HK nn.2 a.2 g A d
    let ht:∀p xs,Rt H3 p xs->Rt (upd H3 s (.lst (ys.set ↥l u))) p xs:=λp xs h=>by
     let hp:p≠s:=λw=>by
      subst w;obtain h|⟨o,h⟩:=h
      .rw[a.2] at h;cases h
      .rw[a.2] at h;cases h
     obtain h|⟨o,h⟩:=h
     .show .inl (by rwa[aU hp])
     .show .inr #[o,by rwa[aU hp]]
    let pr':=Ko (zs:=ys.set ↥l u) (r':=A.set ↥l c) a.2 a.1 (Ep (PyT.free (λp xs w=>ht p xs (aH.rt (K.trans α) (aH.rt (aw _ _) w))) ru) ↥l (bu (λ_ _ z=>PyT.free ht z) d)) rr nd g
    let⟨Z',eo⟩:=wr s (ys.set ↥l u) (À (.dpo (IJ.mk (rows.set ↥k (A.set ↥l c))))) a.1 λg'' e'=>by
     cases e';let e2:upd H3 s (.lst (ys.set ↥l u)) L=À (.lst f):=by rw[aU Γ];show nn.2
     show#[Ê,L,f,y,dz.of e2,⟨nn.1,e2⟩,nd,pr']
    show n _ _ _ _ (by rw[eo];show ah (B.trans (K.trans α))) Z' h])
end
end L2.EP
namespace L2.Sx
open PySem
variable{i j n:Nat}{xs:Array Nat}{ns:.L}{l:Bool}{h:Û}{k:Int}{f:Å}{os:List Nat}
def Hk(xs:Array Nat):Prop:=xs.toList.Pairwise (·<·)
def u7(h:Hk xs){a b:Nat}(c:a<b)(d:b<xs.size):xs.getD a 0<xs.getD b 0:=by
 let h1:=ah3.mp h a b ↑(aiK c d) ↑d c;rw[agn,agn] at h1;simp only[č,ag9 (aiK c d),ag9 d];show h1
structure Lb(xs:Array Nat)(j i:Nat):Prop where
 le:i<=xs.size
 lo:∀k,k<i->xs.getD k 0<j
 hi:∀k,i<=k->k<xs.size->j<=xs.getD k 0
def Jq{k d e:Nat}(h:k<xs.size):xs.getD k d=xs.getD k e:=by
 simp only[č,ag9 h]
theorem KZ{xs:Array Nat}{j:Nat}(f:Hk xs):∀(fuel lo hi:Nat),hi-lo<=fuel->lo<=hi->hi<=xs.size->(∀k,k<lo->xs.getD k 0<j)->(∀k,hi<=k->k<xs.size->j<=xs.getD k 0)->Lb xs j (Ĳ xs j fuel lo hi):=zrN (λlo hi h1 h2 l h g=>by
  unfold Ĳ;show#[.b,h,λk a b=>g k .b b]) λfuel KZ lo hi h1 h2 l h g=>by
  unfold Ĳ;by_cases d:lo<hi
  .rw[adI d];dsimp only;let i:(lo+hi)/2<xs.size:=.b
   rw[Jq (e:=0) i];by_cases c:xs.getD ((lo+hi)/2) 0<j
   .rw[adI c];show KZ _ _ .b .b l (λk m=>?_) g;obtain z|z:=ag7 (Nat.le_of_lt_succ m)
    .show aiK (u7 f z i) c
    .rwa[z]
   .rw[adF c];show KZ _ _ .b .b .b h (λk a b=>?_);obtain z|z:=ag7 a
    .show Ń (ah6 c) (ź (u7 f z b))
    .rw[<-z];show ah6 c
  .rw[adF d];show#[.b,h,λk a b=>g k .b b]
def wB(c:Hk xs)(j:Nat):Lb xs j (Ù xs j) :=
 KZ c _ _ _ .b .b (Ā _) (λk h=>absurd h (ag1 k)) (λk a b=>absurd b .b)
def D2(a:Hk xs):Ù xs 0=0:=by
 let h:=wB a 0;obtain z|z:=ag5 (Ù xs 0)
 .show z
 .show absurd (h.lo 0 z) (ag1 _)
def D7(a:Hk xs)(hi:i<xs.size):Ù xs (xs.getD i 0+1)=i+1:=by
 let h:=wB a (xs.getD i 0+1);obtain z|z|z:=Nat.lt_trichotomy (Ù xs (xs.getD i 0+1)) (i+1)
 .let:=h.hi i .f hi;omega
 .show z
 .let h1:=h.lo (i+1) z;let h2:=u7 a (.f:i<i+1) (ř z h.le);omega
def HS(n:Nat):Hk (Array.range n):=by
 delta Hk;rw[Array.toList_range];show aim
def Nh(g:Hk xs)(n:xs[Ù xs j]?≠À j):Hk (SetTable.insertAt xs (Ù xs j) j):=by
 let h:=wB g j;delta Hk;rw[SetTable.toList_insertAt];show List.pairwise_append.mpr #[aix (Ϭ ..) g,afo.mpr #[λy l=>?_,aix (List.drop_sublist ..) g],λa ha y l=>?_]
 .let⟨k,i,e⟩:=ago.mp l;rw[ϭ,agn] at e;rw[Ϟ,ŝ] at i;let c:Ù xs j+k<xs.size:=.b
  let h1:=h.hi (Ù xs j+k) .b c;simp only[č,ag9 c] at h1;obtain z|z:=ag5 k
  .subst z;let h2:xs[Ù xs j]?=À xs[Ù xs j]:=afQ .b;obtain q|q:=ag7 h1
   .rwa[<-e]
   .show absurd ?_ n;rw[h2];show congrArg À ↑q.symm
  .let h2:=u7 g (a:=Ù xs j) (b:=Ù xs j+k) .b c;let p:=h.hi (Ù xs j) (Ā _) .b;simp only[č,ag9 c] at h2;rw[<-e];show afn p h2
 .let⟨k,i,e⟩:=ago.mp ha;rw[List.getElem_take,agn] at e;rw[ϟ,ŝ] at i;let h1:=h.lo k .b;simp only[č,ag9 (.b:k<xs.size)] at h1;let f:a<j:=by rwa[<-e]
  obtain z|z:=đ.mp l
  .rwa[z]
  .let⟨m,o,e2⟩:=ago.mp z;rw[ϭ,agn] at e2;rw[Ϟ,ŝ] at o;let d:Ù xs j+m<xs.size:=.b
   let h2:=h.hi (Ù xs j+m) .b d;simp only[č,ag9 d] at h2;rw[<-e2];show ř f h2
def vw(t:ò)(j:Nat):Prop:=t.place[Ù t.place j]?≠À j
def BA{t:ò}(h:t.slot j=.empty\/t.slot j=.dummy):vw t j:=λe=>by
 unfold SetTable.slot at h;simp only[e,agR,agz] at h;obtain h|h:=h<;>cases h
def zj(t:ò)(p:ϕ):(t.advance p).dummy=p.dummy:=by
 unfold SetTable.advance;split<;>rfl
theorem sZ{t:ò}{f:Nat->Int}{h:Int}:∀(n:Nat) (p:ϕ),(∀d,p.dummy=À d->vw t d)->∀j d,ı t f h n p=À (.empty j d)->vw t (d.getD j):=zrN (λp _ j d e=>by simp[ı] at e) λn sZ p hp j d e=>by
  unfold ı at e;cases b:t.slot p.j with
  |empty =>
   rw[b] at e;simp only[agJ,SetTable.Met.empty.injEq] at e;let⟨rfl,rfl⟩:=e;cases c:p.dummy with
   |none=>show BA (.inl b)
   |some d=>show hp d c
  |dummy =>
   rw[b] at e;show sZ _ (λd' a=>?_) j d e;rw[zj] at a;simp only[agJ] at a;rw[<-a];show BA (.inr b)
  |live i =>
   rw[b] at e;simp only at e;split at e
   .simp at e
   .show sZ _ (λd' a=>hp d' (by rwa[zj] at a)) j d e
def I_{t:ò}{h:Int}{b:Bool}(e:t.freeSlot h=À (j,b)):vw t j:=by
 unfold SetTable.freeSlot at e;split at e
 .rename_i f d a;let:=sZ (t:=t) _ _ (λd c=>by simp[SetTable.probeStart] at c) _ _ a;simp only[agJ,Prod.mk.injEq] at e;rw[<-e.1];show this
 .cases e
structure Gd(l:Bool)(t:ò):Prop where
 led:t.led=l
 inc:Hk t.place
def JR(l:Bool):Gd l (.fresh 0 0 l):=#[rfl,by unfold Hk SetTable.fresh;show .nil]
def rO{t:ò}(h:Gd l t)(n:Nat):Gd l (t.standIn n):=#[h.led,HS n]
def TH{t:ò}(h:Gd l t)(es:Array (Int×Å))(a:Int)(x:Å):Gd l (layNew t es a x).2.1:=by
 unfold layNew;split
 .rename_i j b e;let c:=I_ e;let g:Gd l (t.put j).1:=#[h.led,Nh h.inc c];change Gd l ((t.put j).1.orStandIn _);unfold SetTable.orStandIn;split
  .show g
  .show rO g _
 .show rO h _
def O4{mask n mo:Nat}{pl:Bool}{i:Array Int}{t:ò}{o:Array Nat}(e:Ϩ mask n mo l pl i=À (t,o)):Gd l t:=by
 unfold Ϩ at e;cases k:SetTable.layClean mask i with
 |none=>rw[k] at e;cases e
 |some h =>
  rw[k] at e;simp only[Option.bind_eq_bind,ah_,Option.pure_def,agJ,Prod.mk.injEq] at e;rw[<-e.1];show#[rfl,?_];delta Hk;simp only;rw[List.map_filterMap]
  let:∀l:List Nat,l.Pairwise (·<·)->(l.filterMap λj=>Φ (·.1) ((h.getD j none).map λx=>(j,x))).Pairwise (·<·):=λl m=>by
   show List.Pairwise.filterMap _ (λa a' g b f b' c=>?_) m;cases ha:h.getD a none with
   |none=>rw[ha] at f;simp at f
   |some u =>
    rw[ha] at f;cases d:h.getD a' none with
    |none=>rw[d] at c;simp at c
    |some p =>
     rw[d] at c;simp only[Ϫ,agJ] at f c;rwa[<-f,<-c]
  show this _ aim
def Mq{t:ò}(h:Gd l t)(es:Array (Int×Å))(n:Nat):Gd l (Ť t es n).2.1:=by
 unfold Ť;split
 .rename_i t' o e;dsimp only;split
  .unfold SetTable.relaid at e;rw[h.led] at e;show O4 e
  .show rO h _
 .show rO h _
open PySem PyProof.Rows
structure mf(p:Ð)(w:Ø)(l:Bool)(h:Û)(a:Ç)(o:ÿ)(es:Array (Int×Å))(ep:Nat)(t:ò):Prop where
 get:h.get? a=À o
 ex:o.ExactSet
 dat:o.data=.set es ep t
 el:ElemsOf (ĉ p w) es.toList
 bd:es.size<ĸ
 fit:t.fits es.size=Á
 gd:Gd l t
def tJ(p:Ð)(w:Ø)(l:Bool)(h:Û)(a:Ç)(ns:.L):Prop :=
 ∃o es ep t,mf p w l h a o es ep t/\(∀k,k∈ns↔∃e∈es.toList,(ĉ p w).is k e.2=Á)/\es.size= ~~~ns
def tJ.keep{p:Ð}{w:Ø}{h':Û}{a:Ç}(q:tJ p w l h a ns)(k:∀o,h.get? a=À o->h'.get? a=À o):tJ p w l h' a ns:=by
 let⟨o,es,ep,t,g,m,z⟩:=q;show#[o,es,ep,t,#[k o g.get,g.ex,g.dat,g.el,g.bd,g.fit,g.gd],m,z]
noncomputable def ins(ns:.L)(k:Int):.L:=if k∈ns then ns else ns++[k]
section
variable{p:Ð}{w:Ø}{A:å}{E:Å->Æ->Prop}{s:Æ}{l:Bool}{a:Ç}
def CA{o:ÿ}{es:Array (Int×Å)}{ep:Nat}{t:ò}(g:mf p w l h a o es ep t){b:Array (Int×Å)}{t':ò}(he:ElemsOf (ĉ p w) b.toList)(d:b.size<ĸ)(c:t'.fits b.size=Á)(e:Gd l t'):
  mf p w l (h.update a (ϫ b t')) a {o with data:=.set b (ep+1) t'} b (ep+1) t':=by
 show#[?_,g.ex,rfl,he,d,c,e];let q:=afj (ϫ b t') g.get (by rw[putSet_of b t' g.dat];rfl)
 rwa [putSet_of b t' g.dat] at q
def add_int{u:Tok}{Q:Bool->Æ->Prop}(hS:tJ p w l s.heap a ns)(hr: ~~~ns+1<ĸ)(h:∀b h',ĳ a s.heap h'->tJ p w l h' a (ins ns k)->Q b {s with heap:=h'}):
  Ë (Î p w) A (setAddHashed a (.int k u) ((ĉ p w).hash k)) Q E s:=by
 let⟨o,es,ep,t,g,K,hz⟩:=hS;let J:(ĉ p w).is k (.int k u)=Á:=intKind_is _ _ _ _;let B:(Ė k u).scannable=Á:=rfl;let S:byScan (.int k u) es=Á:=byScan_of B g.bd g.el;unfold setAddHashed setAddHashedIn;show ϒ (Ü (agk g.get g.dat g.fit ?_));dsimp only;rw[adI S];unfold setAddByScan;show Ü (Ü (Η (Ü (wpAny_setScan_of J g.get g.dat g.fit g.el ?_))));cases W:es.toList.findIdx? (λe=>(ĉ p w).is k e.2) with
 |some j =>
  let⟨hj,hp,_⟩:=List.findIdx?_eq_some_iff_getElem.mp W;let α:k∈ns:=(K k).mpr #[_,agv hj,hp];show û (û (h Â s.heap (Heap.SameBut.refl a s.heap) ?_));delta ins;rw[adI α];show#[o,es,ep,t,g,K,hz]
 |none =>
  let D:k∉ns:=λz=>by
   let⟨e,he,hp⟩:=(K k).mp z;let q:=List.findIdx?_eq_none_iff.mp W e he;rw[hp] at q;cases q
  let Γ:∀(b:Bool) (O:Æ) (R:Unit->Æ->Prop),R () O->Ë (Î p w) A (match b with|true=>rule "set.scan.the-table-gave-way" |false=>pure ()) R E O:=λb O R q=>by
   cases b with
   |true=>show Η q
   |false=>show û q
  let i:=layNew_perm t es ((ĉ p w).hash k) (.int k u);let H:=layNew_fits t es ((ĉ p w).hash k) (.int k u);let I:=TH g.gd es ((ĉ p w).hash k) (.int k u);generalize layNew t es ((ĉ p w).hash k) (.int k u)=L at i H I ⊢;let⟨c,P,wd,gv⟩:=L;dsimp only at i H I ⊢;rw[ah0] at i
  let sz:c.size=es.size+1:=by
   rw[<-ŝ,i.length_eq,Ř,ŝ];rfl
  let F:ElemsOf (ĉ p w) c.toList:=(g.el.push J B).perm i
  let m:∀v,v∈ns++[k]↔∃e∈c.toList,(ĉ p w).is v e.2=Á:=λv=>by
   rw[aen,K v,ad0];constructor
   .rintro(⟨e,he,q⟩|rfl)
    .show#[e,i.mem_iff.mpr (ϑ _ he),q]
    .show#[_,i.mem_iff.mpr (Ţ _ (ad0.mpr rfl)),J]
   .rintro⟨e,he,q⟩;obtain z|z:=aen.mp (i.mem_iff.mp he)
    .show .inl #[e,z,q]
    .rw[ad0.mp z] at q;show .inr ((ĉ p w).inj _ v k q J)
  let n:ins ns k=ns++[k]:=by delta ins;rw[adF D]
  show Ü (Γ _ _ _ ?_)
  let tail:∀d:ò,d.fits c.size=Á->Gd l d->Ë (Î p w) A (do
    storeSet a c d
    if (!wd&&d.tooFull)=Á then do
      (match (Ť d c (ą c.size)).2.2 with|true=>rule "set.scan.the-table-gave-way" |false=>pure ())
      storeSet a (Ť d c (ą c.size)).1 (Ť d c (ą c.size)).2.1
      pure (À Á)
     else pure (À Á)) (λr s'=>Ë (Î p w) A (match r with|some b=>pure b|none=>setAddHashedIn a (.int k u) ((ĉ p w).hash k) 99999) Q E s') E s:=λd f2 X=>by
   let G:=CA g F .b f2 X;let T:=Τ s.heap a (ϫ c d);show Ü (wpAny_storeSet_of g.get g.dat ?_ (ahd .b));by_cases V:(!wd&&d.tooFull)=Á
   .rw[adI V];let f:=relayAll_perm d c (ą c.size);let x:=relayAll_fits d c (ą c.size);let y:=Mq X c (ą c.size);generalize Ť d c (ą c.size)=R at f x y ⊢;let⟨C,σ,Z⟩:=R;dsimp only at f x y ⊢;let N:C.size=c.size:=by rw[<-ŝ,f.length_eq,ŝ]
    let G2:=CA G (F.perm f) .b x y;show Ü (Γ _ _ _ (Ü (wpAny_storeSet_of G.get G.dat ?_ (ahd .b))));show û (û (h Á _ (T.trans (Τ _ a _)) ?_));rw[n];show#[_,C,_,σ,G2,λv=>(m v).trans #[fun⟨e,he,q⟩=>#[e,f.mem_iff.mpr he,q],fun⟨e,he,q⟩=>#[e,f.mem_iff.mp he,q]],?_];rw[Ř,N,sz,hz];rfl
   .rw[adF V];show û (û (h Á _ T ?_));rw[n];show#[_,c,_,d,G,m,?_];rw[Ř,sz,hz];rfl
  cases hp:P.plain with
  |true =>
   rw[adI rfl,hashByValue_scannable 8 B];show Ü (û (tail P H I))
  |false =>
   show Ü (û (tail P H I))
end
open PySem PyProof.Rows PySem.Spec
def met(f:Nat->Int)(i:Nat):.L:=((Ö i).map f).foldl ins []
def qP(f:Nat->Int)(i:Nat):met f (i+1)=ins (met f i) (f i):=by
 delta met;rw[aij,agf,ahZ];rfl
theorem vm(f:Nat->Int):∀i,~~~(met f i)<=i:=zrN (Ā _) λi vm=>by
  let z:=vm;rw[qP];delta ins;split
  .lia
  .rw[Ř];simp;lia
section
variable{p:Ð}{w:Ø}{A:å}{E:Å->Æ->Prop}{s:Æ}{l:Bool}
def KQ{R:ϩ->Æ->Prop}{I S:Ç}{fp wr:List Ç}{G:Array GenState->Array GenState->Prop}{P:Nat->Å->Prop}{St:Nat->Æ->Prop}(W:WalksS p w A.in1 I fp wr G n P St)(x:S∉fp)(f:Nat->Int)(y:∀i v,P i v->∃t,v=.int (f i) t)(F:n+1<ĸ):
  ∀(k i:Nat) (s:Æ),i+k=n->St i s->tJ p w l s.heap S (met f i)->(∀s',Moved (S::wr) G s s'->tJ p w l s'.heap S (met f n)->R (.ok (.ret .none)) s') ->
   ě (Î p w) A (.builtin "set.update.loop" #[[.ref S,.ref I],[]]) R s:=by
 let r:S∉wr:=λz=>x (W.sub _ z);let up:∀b∈wr,b∈S::wr:=λb z=>ę _ z;intro k
 induction k with
 |zero =>
  intro i s C st g fin;obtain rfl:i=n:=.b
  show agD ag8 ?_;rw[agp af_ _];change Ë _ A.in1 (Ĭ (.ref I) >>= _) _ _ s;show Ü (W.done s _ _ st λs' a=>û (fin s' (a.mono up) (g.keep λo e=>a.heap S o r e)))
 |succ k D =>
  intro i s C st g fin;show agD ag8 ?_;rw[agp af_ _];change Ë _ A.in1 (Ĭ (.ref I) >>= _) _ _ s;show Ü (W.item i s _ _ .b st λv s' B d a=>?_);let⟨t,rfl⟩:=y i v B;let g':=g.keep (h':=s'.heap) λo e=>a.heap S o r e;change Ë _ A.in1 (Ě [Ė (f i) t] (setAdd S (.int (f i) t)) >>= _) _ _ s';unfold setAdd;show Ü (ϒ (ϒ (Ü ((ĉ p w).pyHash (k:=f i) (intKind_is _ _ _ _) ?_))));let room: ~~~(met f i)+1<ĸ:=by let:=vm f i;lia
  show add_int (s:={s' with toks:=s'.toks+1}) g' room λb h' u q=>?_;rw[<-qP] at q;show û #[ahk af_ _,D (i+1) _ .b (W.frame _ s' _ _ d (af6 _) λc h o e=>?_) q λj m E=>fin j (Moved.trans W.gtrans ((a.mono up).then_heap (af6 _) λc o h e=>?_) m) E]
  .rwa[u.2 c λz=>x (z▸h)]
  .rwa[u.2 c λz=>h (z▸ġ)]
abbrev wD(w:Ø):Bool:=!w.params.followText "set-order"
abbrev eS(w:Ø):ÿ:={cls:=.type "set",dict:=none,data:=.set #[] 0 (.fresh 0 0 (wD w))}
def Np(a:Å){R:Å->Æ->Prop}(h:R (.ref s⁻¹) {s with heap:=s.heap.push (eS w)}):ě (Î p w) A (.call (.builtin "set.__new__") #[[.type "set",a],[]]) (wants R E) s:=by
 show codeAny_of_tree (show Ë _ A.in1 (checkBuiltinCall "set.__new__" #[[.type "set",a],[]] >>= λ_=>Λ (.builtin "set.__new__" #[[.type "set",a],[]])) _ _ s from ?_);show Ü (ain (PySem.F.newCall_set_1 a) (û #[ahk aiy _,agD PySem.F.entry_set_new ?_]));rw[agp aiy _];unfold Ē.«set.__new__» Builtin.Frozenset.newClass;let sub:=sub_set_self;let⟨hp,g,d,tk,os⟩:=s;dsimp only
 wp_walk
 show aia (û ?_);simp only[newObj];show Ü (wpAny_alloc (û (û h)))
def NU{a:Ç}(e:h.get? a=À (eS w)):tJ p w (wD w) h a [] :=
 #[_,#[],0,_,#[e,#[rfl,rfl,rfl],rfl,(λx b=>by simp at b),.a,rfl,JR _],(λk=>by simp),rfl]
def Lv{l:Ç}{items:Array Å}(z:A.handled=none)(D:s.heap.IsList l items)(hi:ñ items.toList ns)(C:items.size+1<ĸ){R:ϩ->Æ->Prop}
  (h:∀h' tk,tJ p w (wD w) h' s⁻¹ (met (λi=>ns.getD i 0) items.size)->(∀b o,s.heap.get? b=À o->h'.get? b=À o)->R (.ok (.ret .none)) {s with heap:=h',toks:=tk}):
  Ë (Î p w) A.in1 (Ē.«set.__init__» #[[.ref s⁻¹,.ref l],[]]) (λfin s'=>match fin with|.done f=>R (.ok f) s'|.again c'=>c'.quiet=Á/\ě (Î p w) A c' R s') (λe s'=>R (.error e) s') {s with heap:=s.heap.push (eS w)}:=by
 let⟨ol,r,j,nl,q⟩:=D;let⟨x,c,u,a⟩:=ol;simp only at j q;subst j q;let y:(s.heap.push (eS w)).get? s⁻¹=À (eS w):=Ŕ _ rfl;let k:(s.heap.push (eS w)).get? l=À {cls:=.type "list",dict:=c,data:=.seq items nl,slots:=a}:=Ĩ _ r;let J:=PySem.F.sub_list_set;let I:=PySem.F.sub_list_frozenset;let L:(þ "list"==þ "dict")=Â:=.a
 let n:(s.heap.push (eS w)).IsList l items:=#[_,k,rfl,nl,rfl];let d:l<s⁻¹:=ē r;let sz:(s.heap.push (eS w)).objs.size=s⁻¹+1:=afK ..;unfold Ē.«set.__init__» noKeywords Builtin.Frozenset.updateFrom;generalize hp:Ų=K
 wp_walk
 subst hp;show ahX n (Ü (wpAny_runValue ?_));let G:l≠(s.heap.push (eS w)).objs.size:=by rw[sz];show Ķ (afi d)
 let H:s⁻¹∉[(s.heap.push (eS w)).objs.size,l]:=by
  rw[sz];simp only[đ,Ĕ,aej,not_or];show#[Ķ (af2 _),aht d]
 show KQ (A:=A.in1) (l:=wD w) ((Walks.list (by simp[z]) _ l G items).toS) H (λi=>ns.getD i 0) (λi v B=>IntsAre.int_at hi i v (by rwa[afL])) C items.size 0 _ .b #[#[_,Ŕ _ rfl,rfl,rfl],n.push _] (NU (Ĩ _ y)) λs' t g=>?_;let⟨h',E,dr,tk,os⟩:=s';obtain rfl:E=s.gens:=t.gens;obtain rfl:dr=s.drawn:=t.drawn;obtain rfl:os=s.os:=t.os;show û (û (h h' tk g λb o e=>?_));let m:=ē e;show t.heap b o ?_ (Ĩ _ (Ĩ _ e));rw[sz];simp only[đ,Ĕ,aej,not_or];show#[Ķ m,Ķ (afi m)]
def LK{l:Ç}{items:Array Å}{Q:Å->Æ->Prop}(m:A.handled=none)(t:s.heap.IsList l items)(hi:ñ items.toList ns)(n:items.size+1<ĸ)
  (h:∀h' tk,tJ p w (wD w) h' s⁻¹ (met (λi=>ns.getD i 0) items.size)->(∀b o,s.heap.get? b=À o->h'.get? b=À o)->Q (.ref s⁻¹) {s with heap:=h',toks:=tk}):
  Ë (Î p w) A (call (.type "set") [.ref l]) Q E s:=by
 let⟨c,tl,z⟩:=afz.mro;let B:=afz.made;let G:=afz.sub;let C:=afz.notType;let H:=afz.canCreate;let J:=PySem.F.typeCall_set_1 (.ref l);show ah2 (codeAny_of_tree (show Ë _ _ (callAny (.type "set") _) _ _ _ from û #[Code.quiet_builtin _ .d,agD PySem.F.entry_type_call ?_]));rw[Around.under_plain (weight_type_call_type "set" [.ref l] []) rfl]
 repeat any_goals first|assumption|wp_step
 show ags (Np (.ref l) (E:=E) (R:=λv f=>v=.ref s⁻¹/\f={s with heap:=s.heap.push (eS w)}) #[rfl,rfl]) λr f d=>?_;cases r with
 |error e=>show d
 |ok u =>
  cases u with
  |ret v =>
   let⟨rfl,rfl⟩:=d;let q:Shared.TypeIs {s with heap:=s.heap.push (eS w)} (.ref s⁻¹) "set":=#[_,Ŕ _ rfl,rfl];let I:=afz.init.lookup;let D:=afz.init.bind (.ref s⁻¹)
   repeat any_goals first|assumption|wp_step
   show ags (ahE (R:=wants (λr j=>r=.none/\∃h' tk,j={s with heap:=h',toks:=tk}/\tJ p w (wD w) h' s⁻¹ (met (λi=>ns.getD i 0) items.size)/\∀b o,s.heap.get? b=À o->h'.get? b=À o) E) afz.init.plain PySem.F.entry_set_init (check_set_init_1 q (Lv (by simp[m]) t hi n λh' tk g k=>#[rfl,h',tk,rfl,g,k]))) λx j a=>?_;cases x with
   |error e=>show a
   |ok y =>
    cases y with
    |ret r =>
     let⟨rfl,h',tk,rfl,g,k⟩:=a
     repeat any_goals first|assumption|wp_step
     show h _ _ g k
    |_=>show a.elim
  |_=>show d.elim
variable{S:Ç}{o:ÿ}{es:Array (Int×Å)}{ep:Nat}{t:ò}
noncomputable def sl(t:ò):Nat->Nat
 |0=>0
 |i+1=>t.place.getD i 0+1
def ve{Q:Bool->Æ->Prop}(h:Q (w.params.followText "set-order") s):Ë (Î p w) A setsByText Q E s:=by
 unfold setsByText;show Ü (aia (û h))
def DE(g:mf p w (wD w) s.heap S o es ep t)(c:w.params.followText "set-order"=Â)(d:t.plain=Á\/es.size<=1)(hi:i<=es.size){Q:Option (Å×Nat)->Æ->Prop}(h:Q (es[i]?.map λe=>(e.2,sl t (i+1))) s):
  Ë (Î p w) A (ţ S (sl t i) i ep) Q E s:=by
 unfold ţ;show Ü (agk g.get g.dat g.fit (Ü (ve ?_)));rw[c]
 let dr:(!t.plain&&decide (es.size>1))=Â:=by
  obtain z|z:=d
  .rw[z];rfl
  .rw[aec .b];simp
 show ϐ (λq=>absurd q ō) λ_=>?_;show ϐ (λq=>absurd (show(!t.plain&&decide (es.size>1))=Á from q) (by rw[dr];show ō)) λ_=>?_;let ld:t.led=Á:=by rw[g.gd.led];change(!w.params.followText "set-order")=Á;rw[c];rfl
 show Ü (show Ë _ _ (if (!t.led&&!es.isEmpty)=Á then unsupported "set:maker-not-led" else pure ()) _ _ _ from ?_);rw[adF (by rw[ld];simp)];show û ?_;let sz:t.place.size=es.size:=by let f:=g.fit;simp only[SetTable.fits,ŷ,af4] at f;show f.1
 let b:Ù t.place (sl t i)=i:=by
  cases i with
  |zero=>show D2 g.gd.inc
  |succ i=>show D7 g.gd.inc .b
 dsimp only;rw[b];show û ?_;by_cases a:i<es.size
 .let h1:es[i]?=À es[i]:=afQ a
  let h2:t.place[i]?=À (t.place.getD i 0):=by
   rw[afQ .b];simp only[č,ag9 (.b:i<t.place.size)];rfl
  rw[h1,h2];rwa[h1] at h
 .let h1:es[i]?=none:=aio .b;rw[h1];rwa[h1] at h
def H_(g:mf p w (wD w) s.heap S o es ep t)(a:w.params.followText "set-order"=Á){Q:Option (Å×Nat)->Æ->Prop}(h:Q ((ň (w.params.setOrder S ep) es)[i]?.map λe=>(e.2,j)) s):
  Ë (Î p w) A (ţ S j i ep) Q E s:=by
 unfold ţ;show Ü (agk g.get g.dat g.fit (Ü (ve ?_)));rw[a];show ϐ (λ_=>?_) λq=>absurd rfl q;show ϐ (λq=>absurd q .c) λ_=>?_;unfold setWalk;show Ü (Ü (agk g.get g.dat g.fit (Ü (ve ?_))));rw[a];show ϐ (λ_=>?_) λq=>absurd rfl q;show Ü (aia (û (û h)))
end
def fV:Slot "set_iterator" "__next__" "set_iterator.__next__" :=
 .of (owner:="set_iterator") (n:="__next__") (by rw[typeLookup_type,builtinLookup_eq_fast];kernel_rfl) .d .d .d
  (by first|show .inr .d|show .inl .d) (by rw[Ι];kernel_rfl)
def q_:entryFor table "set_iterator.__next__"=À Ē.«set_iterator.__next__»:=entryFor_of_tree (by kernel_rfl)
def KP:Manifest.owners.lookup (String.ofList ['r','o','t','a','r','e','t','i','_','t','e','s'].reverse)=À Manifest.sig_set_iterator:=by kernel_rfl
def vk(a:Å):argsOk "set_iterator.__next__" #[[a],[]]:=by
 unfold argsOk;rw[signature?_of (id:="set_iterator.__next__") (n:=['_','_','t','x','e','n','_','_']) (o:=['r','o','t','a','r','e','t','i','_','t','e','s']) (by kernel_rfl) KP];kernel_rfl
def Bn:Slot "set_iterator" "__iter__" "set_iterator.__iter__" :=
 .of (owner:="set_iterator") (n:="__iter__") (by rw[typeLookup_type,builtinLookup_eq_fast];kernel_rfl) .d .d .d
  (by first|show .inr .d|show .inl .d) (by rw[Ι];kernel_rfl)
def HD:entryFor table "set_iterator.__iter__"=À Ē.«dict_keyiterator.__iter__»:=entryFor_alias (id':="dict_keyiterator.__iter__") (by kernel_rfl) rfl .d (by kernel_rfl)
def Jp(a:Å):argsOk "set_iterator.__iter__" #[[a],[]]:=by unfold argsOk;kernel_rfl
def JE:entryFor table "set.__iter__"=À Ē.«frozenset.__iter__»:=entryFor_alias (id':="frozenset.__iter__") (by kernel_rfl) rfl .d (by kernel_rfl)
def pd(h:Û)(I:Ç)(f:Å)(i:Nat)(S:Ç)(n ep:Nat):Prop:=∃o,h.get? I=À o/\o.cls=.type "set_iterator"/\o.data=.fields (æ [f,.int i 0,.ref S,.int n 0,.int ep 0])
section
variable{p:Ð}{w:Ø}{A:å}{E:Å->Æ->Prop}{s:Æ}{I S:Ç}{o:ÿ}{es:Array (Int×Å)}{ep:Nat}{t:ò}
def pd.ty(q:pd s.heap I f i S n ep):s.TypeIs (.ref I) "set_iterator":=let #[x,a,b,_]:=q;#[x,a,b]
def FU{Q:Å->Æ->Prop}(q:pd s.heap I f i S n ep)(h:Q (.ref I) s):Ë (Î p w) A (Ų (.ref I)) Q E s:=by
 show wpAny_pyIter_slot q.ty Bn (afJ Bn q.ty HD (show Ë _ _ (ret (.ref I)) _ _ s from ?_) (Jp _));show û #[_,rfl,"set_iterator",_,q.ty,fV.lookup,h]
def pd.put{x:Å}(q:pd h I f i S n ep):pd (h.update I (Č (·.setIfInBounds 0 x))) I x i S n ep/\∀j:Nat,pd (h.update I (Č (·.setIfInBounds 1 (ý j)))) I f j S n ep:=by
 let⟨a,b,c,d⟩:=q;show#[#[_,afj _ b (ahs (aga d _)),(Obj.cls_mapFields ..).trans c,?_],λj=>#[_,afj _ b (ahs (aga d _)),(Obj.cls_mapFields ..).trans c,?_]]
 .rw[aga d];simp
 .rw[aga d];simp[ý]
def OW{u:Nat}{x:Å}{nx:Nat}(q:pd s.heap I (.int u 0) i S es.size ep)(g:mf p w (wD w) s.heap S o es ep t){Q:Option Å->Æ->Prop}
  (f:∀(A:å) (E:Å->Æ->Prop) (R:Option (Å×Nat)->Æ->Prop),R (À (x,nx)) s->Ë (Î p w) A (ţ S u i ep) R E s)
  (h:∀h',pd h' I (.int nx 0) (i+1) S es.size ep->ĳ I s.heap h'->Q (À x) {s with heap:=h'}):Ë (Î p w) A (Ĭ (.ref I)) Q E s:=by
 let⟨l,c,j,a⟩:=id q;unfold Ĭ;show Ü (agA (afY (name:=ă "__next__") q.ty fV (afJ fV q.ty q_ ?_ (vk _))));unfold Ē.«set_iterator.__next__»;show Ü (û (Ü (ahJ c a ?_)));dsimp only;show Ü (agx g.get g.dat g.fit ?_);show ϐ (λz=>absurd z .c) λ_=>?_;dsimp only[Ó];show Ü (f _ _ _ ?_);dsimp only;let b:=(q.put (x:=ý nx)).1;let⟨k,d,m,e⟩:=id b;show Ü (afM c a .c (Ü (afM d e .c (û #[x,rfl,û (h _ ?_ ((Τ ..).trans (Τ ..)))]))));show(b.put (x:=.none)).2 (i+1)
def yu{Q:Option Å->Æ->Prop}(c:A.handled=none)(h:∀h',(∀b o,s.heap.get? b=À o->h'.get? b=À o)->Q none {s with heap:=h'}):
  Ë (Î p w) A.in1 (newExc (.type "StopIteration") [] >>= λx=>raiseNew (α:=Fin) x) (λfin s'=>∃v,fin=Fin.done (Flow.ret v)/\Ë (Î p w) A (pure (À v)) Q E s')
   (λe s'=>Ë (Î p w) A (isInstance e (þ "StopIteration") >>= λb=>if b=Á then pure none else throw e) Q E s') s:=by
 show Ü ?_;simp only[newExc,newTuple];show Ü (afh ?_ (by size_fits));show Ü (m:=firstArgMember _ _) (ain (a:=ā) (by first|(simp only[firstArgMember];rfl)|rfl) ?_);show afh ?_ (by size_fits);simp only[raiseNew];show Ü (wpAny_handled ?_);rw[show A.in1.handled=none from c];show Ü (û (wpAny_throw ?_));show Ü (wpAny_isInstance (T:="StopIteration") (b:=Á) #[_,Ŕ _ rfl,rfl] isSubtype_stop (û (h _ λb o e=>?_)));show Ĩ _ (Ĩ _ e)
def RA{u:Nat}(d:A.handled=none)(q:pd s.heap I (.int u 0) i S es.size ep)(g:mf p w (wD w) s.heap S o es ep t){Q:Option Å->Æ->Prop}
  (j:∀(A:å) (E:Å->Æ->Prop) (R:Option (Å×Nat)->Æ->Prop),R none s->Ë (Î p w) A (ţ S u i ep) R E s)
  (h:∀h',(∀b o,b≠I->s.heap.get? b=À o->h'.get? b=À o)->Q none {s with heap:=h'}):Ë (Î p w) A (Ĭ (.ref I)) Q E s:=by
 let⟨m,c,l,a⟩:=id q;unfold Ĭ;show Ü (agA (afY (name:=ă "__next__") q.ty fV (afJ fV q.ty q_ ?_ (vk _))));unfold Ē.«set_iterator.__next__»;show Ü (û (Ü (ahJ c a ?_)));dsimp only;show Ü (agx g.get g.dat g.fit ?_);show ϐ (λz=>absurd z .c) λ_=>?_;dsimp only[Ó];show Ü (j _ _ _ ?_);dsimp only;show Ü (afM c a .c ?_);show yu (s:={s with heap:=s.heap.update I (Č (·.setIfInBounds 2 ā))}) d λh' k=>h h' λb o f e=>k b o ?_;rwa[(Τ s.heap I _).2 b f]
def wM{vs:List Å}{f:Nat->Nat}(B:A.handled=none)(m:S≠I)(D: ~~~vs=es.size)
  (u:∀(s:Æ) (i:Nat) (A:å) (E:Å->Æ->Prop) (R:Option (Å×Nat)->Æ->Prop),i<=es.size->mf p w (wD w) s.heap S o es ep t->R (vs[i]?.map λv=>(v,f (i+1))) s->Ë (Î p w) A (ţ S (f i) i ep) R E s):
  Walks p w A I [I,S] [I] (~~~vs) (λi v=>vs[i]?=À v) (λi h=>i<= ~~~vs/\pd h I (.int (f i) 0) i S es.size ep/\mf p w (wD w) h S o es ep t) where
 sub:=λb j=>by simp at j;simp[j]
 frame:=λi h h' st k=>by
  let⟨d,⟨x,a,b,c⟩,g⟩:=st;show#[d,#[x,k I .c x a,b,c],#[k S .c o g.get,g.ex,g.dat,g.el,g.bd,g.fit,g.gd]]
 item:=λi s Q E hi st l=>by
  let⟨d,q,g⟩:=st;let e:vs[i]?=À vs[i]:=į hi;show OW (x:=vs[i]) (nx:=f (i+1)) q g (λA E R r=>u s i A E R .b g (by rwa[e])) λh' C y=>l _ h' s.toks e #[hi,C,?_] λb o' j n=>?_
  .show#[by rw[y.2 S m];show g.get,g.ex,g.dat,g.el,g.bd,g.fit,g.gd]
  .rw[y.2 b λz=>j (by simp[z])];show n
 done:=λs Q E st l=>by
  let⟨d,q,g⟩:=st;show RA B q g (λA E R r=>u s _ A E R .b g (by rwa[afv (Ā _)])) λh' k=>l h' s.toks λb o' j n=>k b o' (λz=>j (by simp[z])) n
 self:=λi s Q E st l=>FU st.2.1 l
variable{T:Ç}
theorem o8{M:Type}:∀(l:List M) (i:Nat) (h:i<~~~l),(l[i]::l.eraseIdx i).Perm l
 |x::l,0,_=>.refl _
 |x::l,i+1,h=>by
  let:=o8 l i ↑h;simp only[List.getElem_cons_succ,List.eraseIdx_cons_succ];show(ô ..).trans (this.cons x)
def Ed{src:Source}{Q:Nat->Æ->Prop}(a:n≠0)(h:∀i d,i<n->Q i {s with drawn:=d}):Ë (Î p w) A (choose src n) Q E s:=by
 intro U q b;change Sem.wp _ _ (.choose src n .pure) _ _ _ _;rw[Sem.wp_choose];show#[a,h _ _ (Nat.mod_lt _ (Nat.pos_of_ne_zero a))]
theorem BB{M:Type}:∀(n:Nat) (xs:List M) (s:Æ) (Q:List M->Æ->Prop),~~~xs=n->(∀ys d,ys.Perm xs->Q ys {s with drawn:=d})->Ë (Î p w) A (drawOrder n xs) Q E s
 |0,xs,s,Q,a,h=>by
  obtain rfl:xs=[]:=afZ.mp a;unfold drawOrder;show û (h [] s.drawn (.refl _))
 |n+1,[],s,Q,a,h=>by simp at a
 |n+1,x::xs,s,Q,a,h=>by
  unfold drawOrder;show Ü (Ed .c λi d hi=>?_);let e:(x::xs)[i]?=À (x::xs)[i]:=į hi;rw[e];show Ü (BB n _ _ _ (by rw[Ψ,adI hi];simp at a ⊢;lia) λys c b=>?_);show û (h _ c ?_);show(Ő _ b).trans (o8 _ i hi)
def O9{e:Int×Å}{c:ÿ}{k:Nat}(q:pd s.heap I (.ref T) i S es.size ep)(g:mf p w (wD w) s.heap S o es ep t)(f:s.heap.get? T=À c)(dT:c.data=.seq (os.map λn:Nat=>ý (n:Int)).toArray k)(d:os[i]?=À j)(he:es[j]?=À e){Q:Option Å->Æ->Prop}
  (h:∀h',pd h' I (.ref T) (i+1) S es.size ep->ĳ I s.heap h'->Q (À e.2) {s with heap:=h'}):Ë (Î p w) A (Ĭ (.ref I)) Q E s:=by
 let⟨m,b,l,a⟩:=id q;unfold Ĭ;show Ü (agA (afY (name:=ă "__next__") q.ty fV (afJ fV q.ty q_ ?_ (vk _))));unfold Ē.«set_iterator.__next__»;show Ü (û (Ü (ahJ b a ?_)));dsimp only;show Ü (agx g.get g.dat g.fit ?_);show ϐ (λz=>absurd z .c) λ_=>?_;dsimp only[Ó];show Ü (wpAny_seqItems f dT ?_);dsimp only
 let e1:(os.map λn:Nat=>ý (n:Int)).toArray[i]?=À (ý (j:Int)):=by
  rw[aiz,ł,d];rfl
 rw[e1];dsimp only[ý,Ó];unfold setNextDrawn;show Ü (Ü (agk g.get g.dat g.fit ?_));show ϐ (λz=>absurd z .c) λ_=>?_;rw[he];show û (Ü (afM b a .c (û #[e.2,rfl,û (h _ ?_ (Τ ..))])));show(q.put (x:=.none)).2 (i+1)
def TF{f:ÿ}{y:Nat}(m:A.handled=none)(q:pd s.heap I (.ref T) i S es.size ep)(g:mf p w (wD w) s.heap S o es ep t)(u:s.heap.get? T=À f)(dT:f.data=.seq (os.map λn:Nat=>ý (n:Int)).toArray y)(j:os[i]?=none){Q:Option Å->Æ->Prop}
  (h:∀h',(∀b o,b≠I->s.heap.get? b=À o->h'.get? b=À o)->Q none {s with heap:=h'}):Ë (Î p w) A (Ĭ (.ref I)) Q E s:=by
 let⟨D,d,B,a⟩:=id q;unfold Ĭ;show Ü (agA (afY (name:=ă "__next__") q.ty fV (afJ fV q.ty q_ ?_ (vk _))));unfold Ē.«set_iterator.__next__»;show Ü (û (Ü (ahJ d a ?_)));dsimp only;show Ü (agx g.get g.dat g.fit ?_);show ϐ (λz=>absurd z .c) λ_=>?_;dsimp only[Ó];show Ü (wpAny_seqItems u dT ?_);dsimp only
 let e1:(os.map λn:Nat=>ý (n:Int)).toArray[i]?=none:=by
  rw[aiz,ł,j];rfl
 rw[e1];dsimp only;let r:=(q.put (x:=ý 0)).1;let⟨C,l,F,v⟩:=id r;show Ü (afM d a .c (Ü (afM l v .c ?_)));show yu (s:={s with heap:=(s.heap.update I (Č (·.setIfInBounds 0 (ý 0)))).update I (Č (·.setIfInBounds 2 ā))}) m λh' k=>h h' λb o c e=>k b o ?_;rwa[(Τ _ I _).2 b c,(Τ s.heap I _).2 b c]
def El(F:A.handled=none)(B:S≠I)(G:T≠I)(hp:os.Perm (Ö es.size)):
  Walks p w A I [I,S,T] [I] (~~~os) (λi v=>∃j e,os[i]?=À j/\es[j]?=À e/\v=e.2) (λi h=>i<= ~~~os/\pd h I (.ref T) i S es.size ep/\mf p w (wD w) h S o es ep t/\∃d u,h.get? T=À d/\d.data=.seq (os.map λn:Nat=>ý (n:Int)).toArray u) where
 sub:=λb l=>by simp at l;simp[l]
 frame:=λi h h' st k=>by
  let⟨f,⟨x,a,b,c⟩,g,d,u,m,r⟩:=st;show#[f,#[x,k I .c x a,b,c],#[k S .c o g.get,g.ex,g.dat,g.el,g.bd,g.fit,g.gd],d,u,k T .c d m,r]
 item:=λi s Q E hi st y=>by
  let⟨f,q,g,d,u,m,r⟩:=st;let e:os[i]?=À os[i]:=į hi;let H:os[i]<es.size:=aeY.mp (hp.mem_iff.mp (agv hi));let e2:es[os[i]]?=À es[os[i]]:=afQ H;show O9 q g m r e e2 λh' J D=>y _ h' s.toks #[_,_,e,e2,rfl] #[hi,J,?_,d,u,by rwa[D.2 T G],r] λb o' l C=>?_
  .show#[by rw[D.2 S B];show g.get,g.ex,g.dat,g.el,g.bd,g.fit,g.gd]
  .rw[D.2 b λz=>l (by simp[z])];show C
 done:=λs Q E st y=>by
  let⟨f,q,g,d,u,m,r⟩:=st;show TF F q g m r (afv (Ā _)) λh' k=>y h' s.toks λb o' l C=>k b o' (λz=>l (by simp[z])) C
 self:=λi s Q E st y=>FU st.2.1 y
end
open PySem PyProof.Rows PySem.Spec PySem.W PySem.Calls
structure BJ(s s':Æ):Prop where
 keep:∀b o,s.heap.get? b=À o->s'.heap.get? b=À o
 gens:s'.gens=s.gens
 os:s'.os=s.os
structure Vd(p:Ð)(w:Ø)(s s':Æ)(S I:Ç)(es:Array (Int×Å)):Prop where
 gr:BJ s s'
 new:s⁻¹<=I
 wk:∃(fp:List Ç) (n:Nat) (P:Nat->Å->Prop) (St:Nat->Û->Prop) (vs:List Å),(∀A:å,A.handled=none->Walks p w A I fp [I] n P St)/\St 0 s'.heap/\(∀b∈fp,b=S\/s⁻¹<=b)/\~~~vs=n/\(∀i v,P i v->vs[i]?=À v)/\vs.Perm (es.toList.map (·.2))
theorem Fp{M:Type}(f:Nat->Nat):∀(n k:Nat) (l:List M) (a:Array M),~~~l=n->(Ŧ f n k l a).toList.Perm (a.toList++l):=zrN (λk l a h=>by
  obtain rfl:l=[]:=afZ.mp h;simp[Ŧ]) λn Fp k l a h=>by
  let hi:f k%~~~l<~~~l:=Nat.mod_lt _ .b;unfold Ŧ;rw[į hi];show(Fp (k+1) _ _ (by rw[Ψ,adI hi];lia)).trans ?_;rw[ah0,List.append_assoc];show List.Perm.append_left _ (o8 l _ hi)
def HF{M:Type}(f:Nat->Nat)(xs:Array M):(ň f xs).toList.Perm xs.toList:=by
 let:=Fp f xs.size 0 xs.toList #[] .c;simpa [ň] using this
section
variable{p:Ð}{w:Ø}{A:å}{E:Å->Æ->Prop}{s:Æ}{S:Ç}{o:ÿ}{es:Array (Int×Å)}{ep:Nat}{t:ò}
def sM{h':Û}(g:mf p w (wD w) h S o es ep t)(k:∀b o,h.get? b=À o->h'.get? b=À o):mf p w (wD w) h' S o es ep t:=#[k _ _ g.get,g.ex,g.dat,g.el,g.bd,g.fit,g.gd]
def Ky(g:mf p w (wD w) s.heap S o es ep t){Q:Å->Æ->Prop}(h:∀I s',Vd p w s s' S I es->Q (.ref I) s'):Ë (Î p w) A (Ų (.ref S)) Q E s:=by
 let ty:s.TypeIs (.ref S) "set":=#[o,g.get,g.ex.1];let z:S<s⁻¹:=ē g.get;show wpAny_pyIter_slot ty aiA (afJ aiA ty JE ?_ (PySem.F.args_set_iter_1 _));unfold Ē.«frozenset.__iter__» Builtin.Frozenset.slot0 Builtin.Frozenset.sizeOf;show Ü (Ü (û (û ?_)));show Ü (Ü (agx g.get g.dat g.fit (û ?_)));unfold setDrawn;show Ü (Ü (agk g.get g.dat g.fit (Ü (ve (û ?_)))));show ϐ (λu=>?_) λu=>?_
 .let c:(!w.params.followText "set-order"&&(!t.plain&&decide (es.size>1)))=Á:=u;show Ü (BB es.size (Ö es.size) _ _ agi λos d k=>?_);let lo: ~~~os=es.size:=by rw[k.length_eq,agi]
  show Ü (wpAny_newTuple ?_ (by rw[ċ,lo];show ahd g.bd));show Ü (wpAny_setEpoch_of (Ĩ _ g.get) g.dat g.fit ?_);show Ü (afh (û #[_,rfl,"set_iterator",_,#[_,Ŕ _ rfl,rfl],fV.lookup,h _ _ ?_]));show#[#[λb o e=>Ĩ _ (Ĩ _ e),rfl,rfl],by rw[afK];show af6 _,?_];let q:S≠(s.heap.push {cls:=.type "tuple",data:=.seq (os.map λn:Nat=>ý (n:Int)).toArray}).objs.size:=by rw[afK];show Ķ (afi z)
  let D:s⁻¹≠(s.heap.push {cls:=.type "tuple",data:=.seq (os.map λn:Nat=>ý (n:Int)).toArray}).objs.size:=by rw[afK];show Ķ (af2 _)
  show#[_,_,_,_,os.map λj=>(es.getD j (0,.none)).2,λA l=>El (o:=o) (t:=t) (ep:=ep) l q D k,#[ş _,#[_,Ŕ _ rfl,rfl,rfl],sM g λb o e=>Ĩ _ (Ĩ _ e),_,_,Ĩ _ (Ŕ _ rfl),rfl],?_,?_,?_,?_]
  .intro b a;simp only[đ,Ĕ,aej] at a;obtain rfl|rfl|rfl:=a
   .show .inr (by rw[afK];show af6 _)
   .show .inl rfl
   .show .inr (Ā _)
  .rw[ċ]
  .rintro i v ⟨j,e,e1,e2,rfl⟩;rw[ł,e1];change À (es.getD j (0,.none)).2=À e.2;let⟨C,e3⟩:=afI.mp e2;simp only[č,ag9 C];show congrArg (λx:Int×Å=>À x.2) e3
  .show(k.map _).trans ?_
   let:(Ö es.size).map (λj=>(es.getD j (0,.none)).2)=es.toList.map (·.2):=by
    show ah1 λi=>?_;rw[ł,ł];by_cases hi:i<es.size
    .let h2:es.toList[i]?=À (es.getD i (0,.none)):=by
      rw[afL,afQ hi];simp only[č,ag9 hi];rfl
     rw[χ hi,h2];rfl
    .let h2:es.toList[i]?=none:=by rw[afL];show aio .b
     rw[afv (by rw[agi];lia),h2];rfl
   rw[this]
 .let c:¬(!w.params.followText "set-order"&&(!t.plain&&decide (es.size>1)))=Á:=u;show Ü (û (Ü (wpAny_setEpoch_of g.get g.dat g.fit ?_)));show Ü (afh (û #[_,rfl,"set_iterator",_,#[_,Ŕ _ rfl,rfl],fV.lookup,h _ _ ?_]));show#[#[λb o e=>Ĩ _ e,rfl,rfl],Ā _,?_];let q:S≠s⁻¹:=Ķ z
  let m:∀b∈[s⁻¹,S],b=S\/s⁻¹<=b:=λb a=>by
   simp only[đ,Ĕ,aej] at a;obtain rfl|rfl:=a
   .show .inr (Ā _)
   .show .inl rfl
  let B:mf p w (wD w) (s.heap.push {cls:=.type "set_iterator",data:=.fields [ý 0,ý 0,.ref S,ý es.size,ý ep].toArray}) S o es ep t:=sM g λb o e=>Ĩ _ e;cases a:w.params.followText "set-order" with
  |false =>
   rw[a] at c
   let hpl:t.plain=Á\/es.size<=1:=by
    cases hp:t.plain with
    |true=>show .inl rfl
    |false =>
     rw[hp] at c;show .inr ?_;simpa using c
   let y: ~~~(es.toList.map (·.2))=es.size:=by rw[ċ,ŝ]
   show#[_,_,_,_,es.toList.map (·.2),λA l=>wM (vs:=es.toList.map (·.2)) (f:=sl t) (o:=o) (t:=t) (ep:=ep) l q y λs i A E R hi g r=>DE g a hpl hi ?_,#[ş _,#[_,Ŕ _ rfl,rfl,rfl],B],m,rfl,λi v e=>e,.refl _];rwa[ł,afL,Option.map_map] at r
  |true =>
   let k:=(HF (w.params.setOrder S ep) es).map (·.2);let y: ~~~((ň (w.params.setOrder S ep) es).toList.map (·.2))=es.size:=by rw[k.length_eq,ċ,ŝ]
   show#[_,_,_,_,(ň (w.params.setOrder S ep) es).toList.map (·.2),λA l=>wM (vs:=(ň (w.params.setOrder S ep) es).toList.map (·.2)) (f:=λ_=>0) (o:=o) (t:=t) (ep:=ep) l q y λs i A E R hi g r=>H_ g a ?_,#[ş _,#[_,Ŕ _ rfl,rfl,rfl],B],m,rfl,λi v e=>e,k];rwa[ł,afL,Option.map_map] at r
def Lq{Q:Bool->Æ->Prop}(ty:s.TypeIs (.ref S) "set")(h:Q Â s):Ë (Î p w) A (Ŀ (.ref S)) Q E s:=by
 unfold Ŀ;show Ü (wpAny_specialOf ty PySem.F.slot_set_len.lookup ?_);generalize a:("set.__len__":String)=c
 wp_delta
 rw[show splitId c=À ("set","__len__") from by subst a;decide +kernel];subst a;show Ü (wpAny_isInstance (T:="set") (b:=Á) ty (by rw[Ι];kernel_rfl) (ϐ (λz=>absurd z .a) λ_=>?_));show ϐ (λ_=>Ü (Ϡ ty (û h))) λz=>absurd .d z
def Dp{L:Ç}{c:Nat}{R:ϩ->Æ->Prop}{res:Å}(C:A.handled=none)(g:mf p w (wD w) s.heap S o es ep t)(D:s.heap.get? L=À {cls:=.type "list",data:=.seq #[] c})(k:L≠S)
  (h:∀s' a c',(∀b o,b≠L->s.heap.get? b=À o->s'.heap.get? b=À o)->s'.gens=s.gens->s'.os=s.os->s'.heap.get? L=À {cls:=.type "list",dict:=none,data:=.seq a c',slots:=#[]}->a.toList.Perm (es.toList.map (·.2))->R (.ok (.ret res)) s'):
  Ë (Î p w) A.in1 (ĕ (.ref L) (.ref S) res) (λfin s'=>match fin with|.done f=>R (.ok f) s'|.again c'=>c'.quiet=Á/\ě (Î p w) A c' R s') (λe s'=>R (.error e) s') s:=by
 let ty:s.TypeIs (.ref S) "set":=#[o,g.get,g.ex.1];unfold ĕ;show Ü (Ϡ (T:="set") ty ?_);let V:ŋ (.ref L) (.ref S)=Â:=by simp[ŋ,k]
 let O:(þ "set"==þ "list")=Â:=.a
 let N:(þ "set"==þ "tuple")=Â:=.a
 simp only[V,O,N,Bool.or_false,agB,agQ];show Ü (Ky g λI s' wk=>?_);let⟨gr,nw,fp,n,P,St,vs,W,st,B,H,α,l⟩:=wk;let y:L<s⁻¹:=ē D
 let m:L∉fp:=λz=>by
  obtain q|q:=B L z
  .show k q
  .show absurd y (af5.mpr q)
 let x:n<=sizeLine:=by
  rw[<-H,l.length_eq,ċ,ŝ];show ahd g.bd
 let key:∀(d:Æ) (c1:Nat),St 0 d.heap->(∀b o,b≠L->s'.heap.get? b=À o->d.heap.get? b=À o)->d.gens=s'.gens->d.os=s'.os->d.heap.get? L=À {cls:=.type "list",data:=.seq #[] c1}->ě (Î p w) A (.builtin "list.extend.loop" #[[.ref L,.ref I,res],[]]) R d:=λd c1 v k1 σ Γ X=>by
  show codeAny_extend_loopS ((W A.in1 C).toS) x L m res n 0 d #[] c1 rfl (ş _) v X (ItemsOf.nil _) λE a c2 u Q F=>?_;show h E a c2 (λb o j e=>u.heap b o (λz=>?_) (k1 b o j (gr.keep b o e))) ?_ ?_ Q ?_
  .obtain q|q:=đ.mp z
   .show j q
   .show absurd (ē e) (af5.mpr (by rwa[ad0.mp q]))
  .show(show E.gens=d.gens from u.gens).trans (σ.trans gr.gens)
  .show u.os.trans (Γ.trans gr.os)
  .let:a.toList=vs:=by
    show ah1 λi=>?_;by_cases hi:i<~~~a.toList
    .let e:=į hi;rw[e];show(α i _ (F.2 i _ (by rwa[<-afL]))).symm
    .let K: ~~~a.toList=n:=by rw[ŝ];show F.1
     rw[afv .b,afv .b]
   rwa[this]
 let r:=gr.keep _ _ D;show Ü (ϒ (Lq #[o,gr.keep _ _ g.get,g.ex.1] ?_));show ϐ (λ_=>?_) (λ_=>û #[ahk ah4 _,key _ c st (λb o _ e=>e) rfl rfl r]);show Ü (Η (Ü (show Ë _ _ (updateSeq L (·.push .none) >>= λ_=>updateSeq L (·.pop)) _ _ _ from Ü (wpAny_updateSeq r rfl ?_))));let G:=afj (Ú (·.push ā)) r rfl;show wpAny_updateSeq (hz:=by seq_fits) G rfl ?_;let J:=afj (Ú (·.pop)) G rfl
 let MQ:∀b o,b≠L->s'.heap.get? b=À o->((s'.heap.update L (Ú (·.push ā))).update L (Ú (·.pop))).get? b=À o:=λb o j e=>by
  rwa[(Τ _ L _).2 b j,(Τ _ L _).2 b j]
 show û #[ahk ah4 _,key _ _ ((W A.in1 C).frame 0 _ _ st λb j o e=>MQ b o (λq=>m (q▸j)) e) MQ rfl rfl J]
end
def kv:Å->Int
 |.int k _=>k
 |_=>0
theorem Gg:∀{vs:List Å},(∀v∈vs,∃k t,v=.int k t)->ñ vs (vs.map kv):=@zrL _ _ (@λ_=>.nil) @λv vs Gg h=>by
  let⟨k,t,rfl⟩:=h v (ġ ..);show .cons k t (Gg λv a=>h v (ę _ a))
theorem tZ:∀{m l:.L},m.Nodup->(∀x∈m,x∈l)->~~~m= ~~~l->m.Perm l:=@zrL _ _ (@λl _ _ h=>by
  obtain rfl:l=[]:=afZ.mp h.symm;show .nil) @λx m tZ l d a h=>by
  let c:x∈l:=a x (ġ ..);let⟨f,g⟩:=afc.mp d;let pl:=Χ c;show(Ő x (tZ g (λy b=>?_) ?_)).trans pl.symm
  .show(ahz (λe:y=x=>f (e▸b))).mpr (a y (ę _ b))
  .let:=pl.length_eq;simp only[Œ] at this h ⊢;lia
def G9(h:ns.Nodup):(ins ns k).Nodup:=by
 delta ins;split
 .show h
 .rename_i d;rw[ahc];show#[h,.c,λa ha b c e=>d (by rwa[<-ad0.mp c,<-e])]
def Nd{x:Int}:x∈ins ns k↔x∈ns\/x=k:=by
 delta ins;split
 .rename_i a;show#[.inl,λh=>h.elim id λe=>e▸a]
 .rw[aen,ad0]
theorem sN(f:Nat->Int):∀i,(met f i).Nodup:=zrN (aiw) λi sN=>by rw[qP];show G9 (sN)
theorem F8(f:Nat->Int){x:Int}:∀i,x∈met f i↔∃j,j<i/\f j=x:=zrN (by simp[met]) λi F8=>by
  rw[qP,Nd,F8];constructor
  .rintro(⟨j,h1,h2⟩|e)
   .show#[j,.b,h2]
   .show#[i,.b,e.symm]
  .rintro⟨j,h1,h2⟩;obtain z|z:=ag7 (Nat.le_of_lt_succ h1)
   .show .inl #[j,z,h2]
   .show .inr (by rw[<-h2,z])
section
variable{p:Ð}{w:Ø}{A:å}{E:Å->Æ->Prop}{s:Æ}{S:Ç}{o:ÿ}{es:Array (Int×Å)}{ep:Nat}{t:ò}
def Bz{R:List Å->Æ->Prop}(m:A.handled=none)(g:mf p w (wD w) s.heap S o es ep t)(h:∀s' vs,BJ s s'->vs.Perm (es.toList.map (·.2))->R vs s'):Ë (Î p w) A (collect (.ref S)) R E s:=by
 let d:S<s⁻¹:=ē g.get;unfold collect;show Ü (wpAny_runValue (agD entry_proto_collect' ?_));rw[agp PySem.F.plain_proto_collect _];show(show Ë _ A.in1 (newList [] >>= λl=>Λ (.builtin "list.__iadd__" #[[l,.ref S],[]])) _ _ s from Ü (afh (û #[ahk aie _,agD entry_list_iadd' ?_])));rw[agp aie _];let n:(s.heap.push {cls:=.type "list",data:=.seq ([]:List Å).toArray}).get? s⁻¹=À {cls:=.type "list",data:=.seq #[]}:=Ŕ _ rfl;show(show Ë _ A.in1 (ĕ (.ref s⁻¹) (.ref S) (.ref s⁻¹)) _ _ _ from ?_)
 let key:=Dp (A:=A) (s:={s with heap:=s.heap.push {cls:=.type "list",data:=.seq ([]:List Å).toArray}}) (res:=.ref s⁻¹)
  (R:=λq s'=>∃a c',q=.ok (.ret (.ref s⁻¹))/\BJ s s'/\s'.heap.get? s⁻¹=À {cls:=.type "list",dict:=none,data:=.seq a c',slots:=#[]}/\a.toList.Perm (es.toList.map (·.2)))
  m (sM g λb o e=>Ĩ _ e) n (aht d) λs' a c' k r os l c=>#[a,c',rfl,#[λb o e=>k b o (Ķ (ē e)) (Ĩ _ e),r,os],l,c]
 show Ρ key (λfin s' x=>?_) λe s' x=>?_
 .cases fin with
  |done f =>
   let⟨a,c',e,gr,l,c⟩:=x;cases e;show show Ë _ A (load s⁻¹ >>= _) _ _ _ from Ü (wpAny_load l (û (h s' _ gr c)))
  |again c1 =>
   show#[x.1,ags x.2 λq i y=>?_];let⟨a,c',e,gr,l,c⟩:=y;cases e;show show Ë _ A (load s⁻¹ >>= _) _ _ _ from Ü (wpAny_load l (û (h i _ gr c)))
 .let⟨_,_,j,_⟩:=x;cases j
def Ce{Q:Å->Æ->Prop}{m:.L}(n:A.handled=none)(q:tJ p w (wD w) s.heap S m)(D:m.Nodup)(f: ~~~m<64)
  (h:∀(b:Æ) (vs:List Å) (a:Array Å) (ns:.L),BJ s b->ñ a.toList ns->ns.Perm m->ns.Pairwise (·<=·)->Q (.ref b⁻¹) {b with heap:=sortedHeap (b.heap.push (é "list" vs.toArray 0)) b⁻¹ vs a}):
  Ë (Î p w) A (call (.builtin "sorted") [.ref S]) Q E s:=by
 let⟨o,es,ep,t,g,u,hz⟩:=q;show Calls.call_function_entry kind_sorted plain_sorted entry_sorted (args_sorted1 _) ?_;unfold Ē.«sorted»;show Ü (m:=checkCount "sorted" 1 1 _) (û (Ü (Bz (A:=A.in1) n g λb vs gr d=>?_)));let l: ~~~vs= ~~~m:=by rw[d.length_eq,ċ,ŝ,hz]
 let allI:∀v∈vs,∃k t,v=.int k t:=λv r=>by
  let⟨e,he,rfl⟩:=adX.mp (d.mem_iff.mp r);let⟨⟨k,c,_⟩,_⟩:=g.el e he;let⟨t,i⟩:=ahW c;show#[k,t,i]
 let y:(vs.map kv).Perm m:=by
  show(tZ D (λx z=>?_) (by rw[ċ,l])).symm;let⟨e,he,c⟩:=(u x).mp z;let⟨t,i⟩:=ahW c;show adX.mpr #[e.2,d.mem_iff.mpr (adX.mpr #[e,he,rfl]),by rw[i];rfl]
 show Ü (ahS ?_ (by rw[l];show Ń (ź f) .a));let j:(b.heap.push (é "list" vs.toArray 0)).get? b⁻¹=À (é "list" vs.toArray 0):=Ŕ _ rfl;show Ü (ϒ (afJ slot_list_sort #[_,j,rfl] entry_list_sort (list_sort_tree j (Gg allI) .b λa ns C F B=>#[_,rfl,?_]) (args_list_sort _)));show û #[_,rfl,h b vs a ns gr C (F.trans y) B]
end
end L2.Sx
namespace L2.EP
open PySem PySem.Spec PyProof.Rows L2.Sx
noncomputable def pM(x:Int):.L->.L
 |[]=>[x]
 |y::l=>if x<y then x::y::l else if x=y then y::l else y::pM x l
def sset(ns:.L):.L:=ns.foldr pM []
theorem xG{x a:Int}:∀{l:.L},a∈pM x l↔a=x\/a∈l
 |[]=>by simp[pM]
 |y::l=>by
  unfold pM;split
  .simp
  .split
   .rename_i h;subst h;simp
   .rw[đ,xG (l:=l),đ];constructor
    .rintro(h|h|h)
     .show .inr (.inl h)
     .show .inl h
     .show .inr (.inr h)
    .rintro(h|h|h)
     .show .inr (.inl h)
     .show .inl h
     .show .inr (.inr h)
theorem Bx{x:Int}:∀{l:.L},l.Pairwise (·<·)->(pM x l).Pairwise (·<·):=@zrL _ _ (@λ_=>by simp[pM]) @λy l Bx h=>by
  let⟨h1,h2⟩:=afo.mp h;unfold pM;split
  .rename_i b;show afo.mpr #[λa ha=>?_,h];obtain z|z:=đ.mp ha
   .lia
   .let:=h1 a z;lia
  .split
   .show h
   .show afo.mpr #[λa ha=>?_,Bx h2];obtain z|z:=xG.mp ha
    .lia
    .show h1 a z
theorem gT{a:Int}:∀{ns:.L},a∈sset ns↔a∈ns
 |[]=>by simp[sset]
 |x::ns=>by
  change a∈pM x (sset ns)↔_;rw[xG,gT (ns:=ns),đ]
theorem iP:∀(ns:.L),(sset ns).Pairwise (·<·):=zrL (.nil) λx ns iP=>Bx (iP)
theorem wU:∀{l m:.L},l.Pairwise (·<·)->m.Pairwise (·<·)->(∀a,a∈l↔a∈m)->l=m
 |[],[],_,_,_=>rfl
 |[],y::m,_,_,h=>absurd ((h y).mpr (ġ ..)) .c
 |x::l,[],_,_,h=>absurd ((h x).mp (ġ ..)) .c
 |x::l,y::m,h1,h2,h=>by
  let⟨b,c⟩:=afo.mp h1;let⟨b1,b2⟩:=afo.mp h2
  let e:x=y:=by
   obtain z|z:=đ.mp ((h x).mp (ġ ..))
   .show z
   .obtain q|q:=đ.mp ((h y).mpr (ġ ..))
    .show q.symm
    .let:=b1 x z;let:=b y q;lia
  subst e;show congrArg (x::·) (wU c b2 λa=>#[λha=>?_,λha=>?_])
  .obtain z|z:=đ.mp ((h a).mp (ę _ ha))
   .let:=b a ha;lia
   .show z
  .obtain z|z:=đ.mp ((h a).mpr (ę _ ha))
   .let:=b1 a ha;lia
   .show z
def OR{ns m r:.L}(h1:r.Perm m)(d:m.Nodup)(h2:r.Pairwise (·<=·))(e:∀a,a∈m↔a∈ns):r=sset ns:=by
 show wU ?_ (iP ns) λa=>by rw[h1.mem_iff,e,gT]
 let c:r.Nodup:=h1.symm.nodup d
 show(List.Pairwise.and h2 c).imp λ{a b} q=>by
  let:=q.1;let:=q.2;lia
def Inv.grown{X:Cx}{ZB:List (Ç×ÿ)}{Y:St}{H:Hp}{s s':Æ}(I:Inv X ZB Y H s)(g:BJ s s'):Inv X ZB Y H s':=by
 let⟨h',a,d,tk,os⟩:=s';let⟨k,e1,e2⟩:=g;let J:=I.kept (h':=h') (t':=tk) k;simp only at e1 e2;subst e1 e2;show#[J.ok,J.os,J.bare,J.base,J.loc,J.cell,J.free,J.freeC,J.pin,J.hok,J.len]
theorem vq:∀{vs:List Å} {ns:.L},ñ vs ns->Vals (ns.map V.int) vs
 |_,_,.nil=>.nil
 |_,_,.cons n t h=>.cons #[t,rfl] (vq h)
section
variable{X:Cx}{U:aI}{D:GD}{e:Ô}{b:Bool}{te:TE}
def C6{Γ p2 pos c:ð}(N:X.calm=Á)(G:Gl X "sorted")(D:X.mg "sorted"=none)(C:Gl X "set")(E:X.mg "set"=none)(ha:PE X e te)
  (O:Ä [e] X.env=(Â,Õ e X.env)::Ä [] X.env<|>zra) (t:Ä [.Call (.Name "set" p2) [e] [] c] X.env=(Â,Õ (.Call (.Name "set" p2) [e] [] c) X.env)::Ä [] X.env<|>zra)
  (B:(ã pos (Ä [] X.env)).any (·.1)=Â<|>zra) (J:(ã c (Ä [] X.env)).any (·.1)=Â<|>zra):
  PE X (.Call (.Name "sorted" Γ) [.Call (.Name "set" p2) [e] [] c] [] pos) (λY H Q=>te Y H λv H1=>∃a,∃ns:.L,v=.ref a/\dz X.K H1 a (ns.map V.int)/\~~~ns<64/\∀l,H1 l=none->Q (.ref l) (upd H1 l (.lst ((sset ns).map V.int)))):=by
 intro ZB s Y H Q I h
 let inner:Ë .E X.A (Õ (.Call (.Name "set" p2) [e] [] c) X.env) (λu y=>∃(S:Ç) (H1:Hp) (ns:.L),u=.ref S/\Inv X ZB Y H1 y/\tJ X.prog X.w (wD X.w) y.heap S (met (λi=>ns.getD i 0) (~~~ns))/\~~~ns<64/\∀l,H1 l=none->Q (.ref l) (upd H1 l (.lst ((sset ns).map V.int)))) X.xe s:=by
  show afw (je I C E PyProof.Rows.boot_set ?_ .a .a);show afm (cK (aC ha aV O c ZB s Y H (λxs H1=>match xs with|[v]=>∃a,∃ns:.L,v=.ref a/\dz X.K H1 a (ns.map V.int)/\~~~ns<64/\∀l,H1 l=none->Q (.ref l) (upd H1 l (.lst ((sset ns).map V.int)))|_=>False) I h) λus y ⟨xs,H1,n,r1,F⟩=>?_) O J;cases r1 with
  |nil=>show F.elim
  |@cons v u vs us T x =>
   cases x with
   |cons _ _=>show F.elim
   |nil =>
    let⟨a,ns,rfl,sq,d,q⟩:=F;cases T;let⟨YU,x,pl,_⟩:=n.list sq;let hi:=intsAre_of x;let α: ~~~YU= ~~~ns:=by rw[<-~~~x,ċ]
    show LK (items:=YU.toArray) (ns:=ns) (n.ok.hd N) pl.isList ↑hi (by rw[ņ,α];show ř (Nat.add_lt_add_right d 1) .a) λh' tk g k=>?_;rw[(by rw[ņ,α]:YU.toArray.size= ~~~ns)] at g;show#[_,H1,ns,rfl,n.kept k,g,d,q]
 show afw (je I G D PyProof.Rows.boot_sorted ?_ .a .a);show ahv ?_ t B;rw[t];show ύ (cK inner λu y ⟨S,H1,ns,e,n,g,d,q⟩=>Ϛ ?_);subst e;show Ce (n.ok.hd N) g (sN _ _) (afn (vm _ _) d) λf vs m z gr R L Z=>?_
 let hr:z=sset ns:=OR L (sN _ _) Z λa=>by
  rw[F8];constructor
  .rintro⟨j,r,rfl⟩;rw[ĩ,į r];show agv r
  .intro ha;let⟨j,r,e⟩:=ago.mp ha;show#[j,r,by rwa[ĩ,į r]]
 subst hr;let P:=Inv.grown n gr
 let lo: ~~~((sset ns).map V.int)<=sizeLine:=by
  rw[ċ,L.length_eq];show Ń (vm _ _) (Ń (ź d) .a)
 let p:∀b o,f.heap.get? b=À o->b≠f⁻¹:=λb o e=>Ķ (ē e)
 let kp:∀b o,f.heap.get? b=À o->(sortedHeap (f.heap.push (é "list" vs.toArray 0)) f⁻¹ vs m).get? b=À o:=λb o e=>by
  unfold sortedHeap;rw[(Τ _ _ _).2 b (p b o e)];show Ĩ _ (Ĩ _ ?_);rw[(Τ _ _ _).2 b (p b o e)];show Ĩ _ e
 obtain⟨c1,σ⟩:∃c1,(((f.heap.push (é "list" vs.toArray 0)).update f⁻¹ (Ú λ_=>#[])).get? f⁻¹)=À (é "list" #[] c1):=#[_,ag2 (Ŕ _ rfl) (λ_=>#[])];let W:=ag2 (Ĩ (é "list" #[] 0) (Ĩ (é "tuple" vs.toArray 0) σ)) (λ_=>m);show#[.ref f⁻¹,_,P.laid (t':=f.toks) (o:=.lst ((sset ns).map V.int)) kp (Ā _) #[lo,m.toList,_,vq R,W],rfl,q _ (P.hok.fresh (Ā _))]
def yZ{ns:.L}{z p2 pos c:ð}(y:X.calm=Á)(g:Gl X "sorted")(p:X.mg "sorted"=none)(j:Gl X "set")(f:X.mg "set"=none)(ha:E X U e b ns)(w: ~~~ns<64)
  (t:Ä [e] X.env=(Â,Õ e X.env)::Ä [] X.env<|>zra) (o:Ä [.Call (.Name "set" p2) [e] [] c] X.env=(Â,Õ (.Call (.Name "set" p2) [e] [] c) X.env)::Ä [] X.env<|>zra)
  (h:(ã pos (Ä [] X.env)).any (·.1)=Â<|>zra) (i:(ã c (Ä [] X.env)).any (·.1)=Â<|>zra):
  E X U (.Call (.Name "sorted" z) [.Call (.Name "set" p2) [e] [] c] [] pos) Á (sset ns):=by
 stop
  show aJ (C6 y g p j f ha t o h i) λY H Q ⟨H0,F,O,S,q⟩=>#[H0,F,O,S,λv H1 k B=>by
    let⟨a,vs,e,sq,n,r⟩:=B;rw[pJ r] at sq;show#[a,ns,by rw[e],(aw _ _).seq sq,w,λl d=>?_];let⟨A,s⟩:=cV (xs:=(sset ns).map V.int) (S.go k) d;show q _ _ (k.trans A) #[l,_,rfl,dz.of s,Nf.wk (b:=Á) ((S.go k).ik d) s,?_];generalize sset ns=m
    induction m with
    |nil=>show .nil
    |cons x m u=>show .cons rfl u]
end
open PySem PySem.Spec PyProof.Rows
section
variable{X:Cx}{U:aI}{D:GD}{M β γ:Type}[Py M][Py β][Py γ]{e e1 e2:Ô}{b b1 b2:Bool}{pos p:ð}{rest st:List Ï}
def FG{i:Int}{xs:.L}:CV X .NotIn i xs (!decide (i∈xs)):=#[_,AQ,λN N' H v w Q h1 h2 q=>by
 let⟨p,vs,rfl,sq,n,r⟩:=h2;cases h1;show#[p,vs,rfl,.inl sq,rfl,?_,?_]
 .rw[sT r];simp[qC]
 .rwa[sT r,Ci]]
end
end L2.EP
namespace Q
variable{p a b x c k s q y r d u v f A g e:Int}{l m L:.L}{w:List (Int×Int)}{n:Nat}{o:Bool}
theorem p5(f:Int->Bool):∀(xs ys:.L),jm (xs++ys) f=(jm xs f==jm ys f):=zrL (λys=>by rw[aik,iG];cases jm ys f<;>rfl) λx xs p5 ys=>by
  rw[agT,bD,bD,p5 ys];generalize f x=a;generalize jm xs f=b;generalize jm ys f=c;revert a b c;decide
def qv(p:Int):.L->Bool
 |[]=>Á
 |a::r=>jm r (λb=>ak a b p)==qv p r
def Ip(p:Int):.L->Nat
 |[]=>0
 |a::r=>~~~(r.filter λb=>!ak a b p)+Ip p r
theorem Gu(p:Int):∀row:.L,decide (Ip p row%2=0)=qv p row:=zrL (rfl) λa r Gu=>by
  let c:=Gu;let e:jm r (λb=>ak a b p)=decide (~~~(r.filter λb=>!ak a b p)%2=0):=rfl;rw[qv,Ip,e,<-c];generalize ~~~(r.filter λb=>!ak a b p)=m;generalize Ip p r=n;by_cases h1:m%2=0<;>by_cases h2:n%2=0
  .let:(m+n)%2=0:=.b
   simp[h1,h2,this]
  .let:¬(m+n)%2=0:=.b
   simp[h1,h2,this]
  .let:¬(m+n)%2=0:=.b
   simp[h1,h2,this]
  .let:(m+n)%2=0:=.b
   simp[h1,h2,this]
def Ve(p:Int)(xs ys:.L):Bool:=jm xs λx=>jm ys λy=>ak x y p
theorem yN(p:Int):∀(xs ys:.L),qv p (xs++ys)=(Ve p xs ys==(qv p xs==qv p ys)):=zrL (λys=>by change qv p ys=(Á==(Á==qv p ys));cases qv p ys<;>rfl) λx xs yN ys=>by
  let f:=yN ys;let e:Ve p (x::xs) ys=(jm ys (λy=>ak x y p)==Ve p xs ys):=bD x xs _;rw[agT,qv,qv,p5,f,e];generalize jm xs (λb=>ak x b p)=a;generalize jm ys (λb=>ak x b p)=b;generalize Ve p xs ys=c;generalize qv p xs=d;generalize qv p ys=g;revert a b c d g;decide
def Oa(p:Int)(xs:.L)(x:Int):qv p (xs++[x])=(qv p xs==jm xs λy=>ak y x p):=by
 rw[yN];let e1:qv p [x]=Á:=by change(jm [] _==Á)=Á;rw[iG];rfl
 let e2:Ve p xs [x]=jm xs λy=>ak y x p:=rP λy _=>by rw[bD,iG];cases ak y x p<;>rfl
 rw[e1,e2];generalize qv p xs=a;generalize jm xs (λy=>ak y x p)=b;revert a b;decide
theorem AG{p:Int}(hp:aN p=Á)(h2:p≠2):∀{row:.L},(∀n∈row,¬p∣n)->qv p row=Á:=@zrL _ _ (@λ_=>rfl) @λa r AG h=>by
  rw[qv,AG λn c=>h n (ę _ c),u5 λb d=>ff hp h2 (h a ġ) (h b (ę _ d))];rfl
theorem o6:∀{L α:.L},L.Nodup->(∀x∈L,x∈α)->~~~L<= ~~~α
 |[],α,_,_=>ş _
 |x::L,α,e,h=>by
  let⟨d,f⟩:=afc.mp e;let a:=h x ġ;let c:=o6 (α:=α.erase x) f λy b=>(ahz (by rintro rfl;show d b)).mpr (h y (ę _ b));let g:0<~~~α:=aip a;rw[List.length_erase_of_mem a] at c;rw[Œ];lia
def WH(c:Int)(h:p∣x):p∣c*x:=İ h #[c,ī _ _]
noncomputable def MR:.L:=[3,5,7,11,13]
def OQ(hp:aN p=Á)(h:bO a p=1):∃r t:Int,r*r=a+p*t:=by
 cases b:Ai a p with
 |none=>rw[xw.mp b] at h;cases h
 |some r =>
  let⟨_,t,c⟩:=FL hp b;show#[r,t,.b]
def TK(hp:aN p=Á)(ha:¬p∣a)(c:¬p∣b):¬p∣a*b:=λz=>(euclid hp z).elim ha c
noncomputable def Q6:.L:=[2,3,5,7,11,13]
noncomputable def Wr(p:Int):.L:=if p=3 then [1] else if p=5 then [1,4] else if p=7 then [1,2,4] else if p=11 then [1,3,4,5,9] else [1,3,4,9,10,12]
def Vm:∀p∈([3,5,7,11,13]:List Nat),∀r∈Ö p,(bO (r:Int) (p:Int)=1↔(r:Int)∈Wr (p:Int)):=by decide +kernel
def Rk(hp:p∈MR):bO k p=1↔k%p∈Wr p:=by
 let b:↥p∈([3,5,7,11,13]:List Nat):=by
  simp only[MR,đ,Ĕ,aej] at hp;obtain rfl|rfl|rfl|rfl|rfl:=hp<;>decide
 let a:0<p:=by
  simp only[MR,đ,Ĕ,aej] at hp;lia
 let h1:=ŭ k (Int.ne_of_gt a);let h2:=Ů k a;let:=Vm ↥p b ↥(k%p) (aeY.mpr .b);rwa[(.b:((↥(k%p):Nat):Int)=k%p),(.b:((↥p:Nat):Int)=p),Al] at this
def c_(s:Int)(w:List (Int×Int)):Int:=(Q6.zip w).foldl (λa u=>if u.2.1=1 then a*u.1 else a) s
structure GW(s:Int)(w:List (Int×Int)):Prop where
 sg:s=1\/s=-1
 len: ~~~w=6
 a:∀j,j<6->(w.getD j (0,1)).1=0\/(w.getD j (0,1)).1=1
 u2:(w.getD 0 (0,1)).2∈[.M,3,5,7]
 u:∀j,1<=j->j<6->(w.getD j (0,1)).2=1\/(w.getD j (0,1)).2=-1
def bits:List .L:=(Ö 64).map fun(m:Nat)=>[(m:Int)%2,(m:Int)/2%2,(m:Int)/4%2,(m:Int)/8%2,(m:Int)/16%2,(m:Int)/32%2]
def NY(s:Int)(a:.L):Int:=(Q6.zip a).foldl (λb u=>if u.2=1 then b*u.1 else b) s
def DA(k p a:Int):Int:=if a=1 then k/p else k
def SV:∀s∈[.M,-1],∀a∈bits,NY s a≠0/\(-30030<=NY s a/\NY s a<=30030)/\(0<NY s a↔s=1)/\∀j∈Ö 6,((a.getD j 0=1->NY s a/Q6.getD j 1*Q6.getD j 1=NY s a)/\DA (NY s a) (Q6.getD j 1) (a.getD j 0)%Q6.getD j 1≠0):=by decide +kernel
def Og:∀d∈[.N,1],∀f∈[.N,1],∀b∈[.N,1],∀a∈[.N,1],∀e∈[.N,1],∀c∈[.N,1],[d,f,b,a,e,c]∈bits:=by decide +kernel
def six{M:Type}{w:List M}(h: ~~~w=6):∃a b c d e f,w=[a,b,c,d,e,f]:=by
 match w,h with
 |[a,b,c,d,e,f],_=>show#[a,b,c,d,e,f,rfl]
def Mf(h: ~~~w=6):c_ s w=NY s (w.map (·.1)):=by
 let⟨a,b,c,d,e,f,rfl⟩:=six h;rfl
def GW.bits{s:Int}{w:List (Int×Int)}(h:GW s w):w.map (·.1)∈bits:=by
 let⟨a,b,c,d,e,f,rfl⟩:=six h.len;let z:=λj g=>h.a j g;let m:∀x:Int,x=0\/x=1->x∈[.N,1]:=λx i=>by simpa using i
 show Og _ (m _ (z 0 .a)) _ (m _ (z 1 .a)) _ (m _ (z 2 .a)) _ (m _ (z 3 .a)) _ (m _ (z 4 .a)) _ (m _ (z 5 .a))
def GW.st(h:GW s w):c_ s w≠0/\(-30030<=c_ s w/\c_ s w<=30030)/\(0<c_ s w↔s=1)/\∀j,j<6->(((w.getD j (0,1)).1=1->c_ s w/Q6.getD j 1*Q6.getD j 1=c_ s w)/\¬Q6.getD j 1∣DA (c_ s w) (Q6.getD j 1) (w.getD j (0,1)).1):=by
 let c:s∈[.M,-1]:=by simpa using h.sg
 let⟨h1,h2,b,a⟩:=SV s c _ h.bits;rw[<-Mf h.len] at h1 h2 b a;show#[h1,h2,b,λj d=>?_];let:=a j (aeY.mpr d)
 let e:(w.map (·.1)).getD j 0=(w.getD j (0,1)).1:=by
  let f:=h.len;rw[ĩ,ĩ,ł,į .b];rfl
 rw[e] at this;show#[this.1,λz=>this.2 (Ϲ z)]
def mM:∀j,j<6->aN (Q6.getD j 1)=Á:=λj a=>vG _ (by
 let:j=0\/j=1\/j=2\/j=3\/j=4\/j=5:=.b
 obtain rfl|rfl|rfl|rfl|rfl|rfl:=this<;>decide)
def Wz(q:Int):Prop:=∀j,j<6->¬Q6.getD j 1∣q
def G6(a:aN q=Á)(h:17<=q):Wz q:=λj b z=>by
 let:=a9 (mM j b) a z;let:j=0\/j=1\/j=2\/j=3\/j=4\/j=5:=.b
 obtain rfl|rfl|rfl|rfl|rfl|rfl:=this<;>(simp[Q6] at *;lia)
def Qs(h:GW s w)(f:Wz q){j:Nat}(d:j<6):a7 (c_ s w*q) (Q6.getD j 1)=((w.getD j (0,1)).1,DA (c_ s w) (Q6.getD j 1) (w.getD j (0,1)).1*q)/\¬Q6.getD j 1∣DA (c_ s w) (Q6.getD j 1) (w.getD j (0,1)).1*q:=by
 let⟨_,_,_,g⟩:=h.st;let⟨e1,e2⟩:=g j d;let hp:=mM j d;let b:=au hp;let c:¬Q6.getD j 1∣DA (c_ s w) (Q6.getD j 1) (w.getD j (0,1)).1*q:=λz=>(euclid hp z).elim e2 (f j d);show#[?_,c];obtain z|z:=h.a j d
 .let e:DA (c_ s w) (Q6.getD j 1) (w.getD j (0,1)).1=c_ s w:=by delta DA;rw[adF .b]
  rw[e] at c ⊢;rw[qL b c,z]
 .let e:DA (c_ s w) (Q6.getD j 1) (w.getD j (0,1)).1=c_ s w/Q6.getD j 1:=by delta DA;rw[adI z]
  let e3:=e1 z;rw[e] at c ⊢;let:=oK (k:=c_ s w/Q6.getD j 1*q) (v:=1) b c;rw[ω,(by grind:c_ s w/Q6.getD j 1*q*Q6.getD j 1=(c_ s w/Q6.getD j 1*Q6.getD j 1)*q),e3] at this;rw[this,z];rfl
def FN(k s:Int)(w:List (Int×Int)):Bool:=decide ((if 0<k then 1 else -1)=s)&&(Q6.zip w).all λu=>decide (cls k u.1=u.2)
def T1(k p:Int):Int:=if k%p=0 then k/p else k
def Ei:∀j,j<5->MR.getD j 1=Q6.getD (j+1) 1/\MR.getD j 1∈MR/\MR.getD j 1≠2:=λj a=>by
 let:j=0\/j=1\/j=2\/j=3\/j=4:=.b
 obtain rfl|rfl|rfl|rfl|rfl:=this<;>decide
def Ef(h:GW s w)(f:Wz q){j:Nat}(b:j<6):T1 (c_ s w*q) (Q6.getD j 1)=DA (c_ s w) (Q6.getD j 1) (w.getD j (0,1)).1*q:=by
 let⟨_,d⟩:=Qs h f b;let⟨_,_,_,g⟩:=h.st;let⟨e1,_⟩:=g j b;let i:=au (mM j b);delta T1;obtain z|z:=h.a j b
 .let e:DA (c_ s w) (Q6.getD j 1) (w.getD j (0,1)).1=c_ s w:=by delta DA;rw[adF .b]
  rw[e] at d ⊢;rw[adF λc=>d (ű c)]
 .let e:DA (c_ s w) (Q6.getD j 1) (w.getD j (0,1)).1=c_ s w/Q6.getD j 1:=by delta DA;rw[adI z]
  let e3:=e1 z;rw[e];generalize c_ s w/Q6.getD j 1=m at *;rw[<-e3,adI (Ϲ #[m*q,by grind]),(by grind:m*Q6.getD j 1*q=(m*q)*Q6.getD j 1),Int.mul_ediv_cancel _ .b]
def FV(l: ~~~w=6):FN k s w=Á↔(if 0<k then .M else -1)=s/\∀j,j<6->cls k (Q6.getD j 1)=w.getD j (0,1):=by
 let⟨a,b,c,d,e,f,rfl⟩:=six l;delta FN;rw[ŷ,afX];show and_congr Iff.rfl ?_;let:(Q6.zip [a,b,c,d,e,f])=[(2,a),(3,b),(5,c),(7,d),(11,e),(13,f)]:=rfl;rw[this];simp only[aiD,List.all_nil,ŷ,afX,and_true];constructor
 .rintro⟨n,h1,h2,m,i,g⟩ j o;let:j=0\/j=1\/j=2\/j=3\/j=4\/j=5:=.b
  obtain rfl|rfl|rfl|rfl|rfl|rfl:=this
  .show n
  .show h1
  .show h2
  .show m
  .show i
  .show g
 .intro h;show#[h 0 .a,h 1 .a,h 2 .a,h 3 .a,h 4 .a,h 5 .a]
def ND(h:GW s w)(g:Wz q)(i:0<q):FN (c_ s w*q) s w=Á↔T1 (c_ s w*q) 2%8=(w.getD 0 (0,1)).2/\∀j,j<5->bO (T1 (c_ s w*q) (MR.getD j 1)) (MR.getD j 1)=(w.getD (j+1) (0,1)).2:=by
 let⟨m,_,d,_⟩:=h.st;rw[FV h.len]
 let k:(if 0<c_ s w*q then .M else -1)=s:=by
  obtain z|z:=h.sg
  .rw[adI (Ħ (d.mpr z) i),z]
  .let:¬0<c_ s w:=λc=>by let:=d.mp c;lia
   let:c_ s w*q<0:=aeQ .b i;rw[adF .b,z]
 let ec:∀j,j<6->(cls (c_ s w*q) (Q6.getD j 1)=w.getD j (0,1)↔(if Q6.getD j 1=2 then T1 (c_ s w*q) (Q6.getD j 1)%8 else bO (T1 (c_ s w*q) (Q6.getD j 1)) (Q6.getD j 1))=(w.getD j (0,1)).2):=λj b=>by
  let⟨e1,_⟩:=Qs h g b;rw[Ef h g b];delta cls;rw[e1];dsimp only;let l:(w.getD j (0,1)).1%2=(w.getD j (0,1)).1:=by obtain z|z:=h.a j b<;>rw[z]<;>decide
  rw[l];constructor
  .intro c;rw[<-c]
  .intro c;rw[c]
 constructor
 .rintro⟨_,c⟩;show#[?_,λj b=>?_]
  .let:=(ec 0 .a).mp (c 0 .a);show this
  .let⟨f,p2,e⟩:=Ei j b;let:=(ec (j+1) .b).mp (c (j+1) .b);rwa[<-f,adF e] at this
 .rintro⟨c0,c⟩;show#[k,λj b=>(ec j b).mpr ?_]
  match j,b with
  |0,_=>show c0
  |j+1,b =>
   let⟨f,p2,e⟩:=Ei j .b;rw[<-f,adF e];show c j .b
noncomputable def Yk:List Nat:=[17,19,23,29,31,37,41,43,47,53,59,61,67,71,73,79,83,89,97,101,103,107,109,113,127,131,137,139,149,151,157,167,173,179,181,191,193,197,199,211,223,229,233,239,241,251,257,263,269,271,277,281,283,293,307,311,313,317,331,337,349,353,389,397,401,421,439,443,461,463,467,479,491,503,509,521,563,569,587,593,601,607,613,619,631,641,643,647,683,733,739,743,751,757,773,797,823,827,839,859,863,883,937,967,997,1009,1019,1031,1061,1171,1321,1361,1381,1483,1559,1609,1621,1723,1733,1873,1913,1931,2017,2521,2689,2699,3583,8089]
def Xf(q:Nat):Nat:=((Ö 46).find? λm=>decide (q<(2*m+3)*(2*m+3))).getD 0
def GV:∀q∈Yk,yR q (Xf q)=Á/\17<=q/\q%2=1/\q<=8089/\q<(2*Xf q+3)*(2*Xf q+3):=by decide +kernel
def qm(q:Nat)(p:Int):Bool:=decide ((q:Int)%p∈Wr p)
def NO:∀c∈[1,3,5,7],∀a∈[Á,Â],∀e1∈[Á,Â],∀e2∈[Á,Â],∀e3∈[Á,Â],∀e4∈[Á,Â],(Yk.any λq=>decide (q%8=c)&&(qm q 3==a)&&(qm q 5==e1)&&(qm q 7==e2)&&(qm q 11==e3)&&(qm q 13==e4))=Á:=by decide +kernel
def Yx(ha:a=1\/a=-1)(d:b=1\/b=-1)(e:c=1\/c=-1)(h:decide (b=1)=(decide (a=1)==decide (c=1))):a*b=c:=by
 obtain rfl|rfl:=ha<;>obtain rfl|rfl:=d<;>obtain rfl|rfl:=e<;>revert h<;>decide
def W5(h:GW s w):∃q,aN q=Á/\17<=q/\q<=8089/\FN (c_ s w*q) s w=Á:=by
 let i:∀{q:Nat} {x:Int},q%8=↥(x%8)->(q:Int)%8=x%8:=λh=>by lia
 let c:∀{x:Int},x%2=1->x%8=1\/x%8=3\/x%8=5\/x%8=7:=λh=>by lia
 obtain⟨m,l⟩:∃m:Nat->Int,∀j,m j=DA (c_ s w) (Q6.getD j 1) (w.getD j (0,1)).1:=#[_,λ_=>rfl];let A:∀j,j<6->¬Q6.getD j 1∣m j:=λj n=>by rw[l];show(h.st.2.2.2 j n).2
 let t:m 0%2=1:=by
  let:=A 0 .a;simp[Q6] at this;lia
 let H:↥((m 0*(w.getD 0 (0,1)).2)%8)∈[1,3,5,7]:=by
  let d:=h.u2;simp only[đ,Ĕ,aej] at d ⊢;let r:=c t;rw[ϛ];obtain z|z|z|z:=d<;>obtain y|y|y|y:=r<;>rw[z,y]<;>decide
 let bl:∀b:Bool,b∈[Á,Â]:=.a
 obtain⟨e,he⟩:∃e:Nat->Bool,∀j,e j=(decide (bO (m (j+1)) (MR.getD j 1)=1)==decide ((w.getD (j+1) (0,1)).2=1)):=#[_,λ_=>rfl];let⟨q,C,v⟩:=aho.mp (NO _ H (e 0) (bl _) (e 1) (bl _) (e 2) (bl _) (e 3) (bl _) (e 4) (bl _));simp only[ŷ,afX,af4] at v;let⟨⟨⟨⟨⟨K,N⟩,L⟩,α⟩,G⟩,D⟩:=v;let⟨I,O,F,Q,E⟩:=GV q C;let hp:aN (q:Int)=Á:=jF I .b F E;let f:=G6 hp .b;show#[q,hp,.b,.b,(ND h f .b).mpr #[?_,λj n=>?_]]
 .let:=Ef h f (.a:0<6);rw[<-l] at this;rw[show .O=Q6.getD 0 1 from rfl,this];let d:=h.u2;simp only[đ,Ĕ,aej] at d;let r:=c t;let g:=i K;rw[ϛ,g,ϛ (m 0) ((w.getD 0 (0,1)).2)];obtain z|z|z|z:=d<;>obtain y|y|y|y:=r<;>rw[z,y]<;>decide
 .let⟨o,p2,P⟩:=Ei j n;let:=Ef h f (.b:j+1<6);rw[<-l] at this;rw[o,this];let p:=mM (j+1) .b;rw[gJ p]
  let a:qm q (Q6.getD (j+1) 1)=e j:=by
   let:j=0\/j=1\/j=2\/j=3\/j=4:=.b
   obtain rfl|rfl|rfl|rfl|rfl:=this
   .show N
   .show L
   .show α
   .show G
   .show D
  rw[he,o] at a;delta qm at a;rw[o] at p2;let B:=Rk (k:=(q:Int)) p2;let J:decide ((q:Int)%Q6.getD (j+1) 1∈Wr (Q6.getD (j+1) 1))=decide (bO (q:Int) (Q6.getD (j+1) 1)=1):=agr.mpr B.symm;rw[J] at a;show Yx (cG (A (j+1) .b)) (cG (f (j+1) .b)) (h.u (j+1) .b .b) a
def PZ(l:.L)(p N:Int):Prop:=∃xs:.L,~~~xs= ~~~l/\N∣lN l xs/\∃x∈xs,¬p∣x
def Dh(hp:aN p=Á)(ha:¬p∣a)(h:p∣a*x*x-a*y*y):p∣x-y\/p∣x+y:=by
 rw[(by grind:a*x*x-a*y*y=a*((x-y)*(x+y)))] at h;obtain h|h:=euclid hp h
 .show absurd h ha
 .show euclid hp h
def half(p:Int):.L:=(Ö ↥((p+1)/2)).map fun(i:Nat)=>(i:Int)
def Ki(hp:2<=p):x∈half p↔0<=x/\x<(p+1)/2:=by
 delta half;simp only[adX,aeY];constructor
 .rintro⟨i,h,rfl⟩;lia
 .rintro⟨h1,h2⟩;show#[↥x,.b,.b]
theorem nodup_map_on{f:Int->Int}:∀{l:.L},l.Nodup->(∀x∈l,∀y∈l,f x=f y->x=y)->(l.map f).Nodup:=@zrL _ _ (@λ_ _=>aiw) @λa l nodup_map_on c d=>by
  rw[afc] at c;rw[ů,afc];show#[λh=>?_,nodup_map_on c.2 λx i y j=>d x (by simp[i]) y (by simp[j])];let⟨b,g,e⟩:=adX.mp h;let:=d b (by simp[g]) a .c e;subst this;show c.1 g
def vP(p:Int):(half p).Nodup:=by
 delta half;rw[show(Ö ↥((p+1)/2)).map (fun(i:Nat)=>(i:Int))=((Ö ↥((p+1)/2)).map fun(i:Nat)=>(i:Int)) from rfl];show ahn.map _ λa b h e=>h .b
def B2(hp:aN p=Á)(h2:p≠2)(b:¬p∣s)(f:x∈half p)(g:y∈half p)(e:(c+s*x*x)%p=(c+s*y*y)%p):x=y:=by
 let a:=au hp;let i:=iM hp h2;rw[Ki a] at f g
 let d:p∣s*x*x-s*y*y:=by
  let:=xX.mp e
  rwa [(.b:c+s*x*x-(c+s*y*y)=s*x*x-s*y*y)] at this
 obtain h|h:=Dh hp b d
 .let:=cL h .b .b;lia
 .let:=cL h .b .b;lia
def JQ(c:Int)(hp:aN p=Á)(h2:p≠2)(ha:¬p∣a)(n:¬p∣b):∃x y:Int,p∣a*x*x+b*y*y-c:=by
 let q:=au hp;let B:=iM hp h2;apply ğ;intro t;let f:¬p∣-b:=λz=>n (ae0.mp z);let r:((half p).map λx=>(0+a*x*x)%p).Nodup:=nodup_map_on (vP p) λx j y k e=>B2 hp h2 ha j k e;let A:((half p).map λy=>(c+-b*y*y)%p).Nodup:=nodup_map_on (vP p) λx j y k e=>B2 hp h2 f j k e
 let s:((half p).map (λx=>(0+a*x*x)%p)++(half p).map λy=>(c+-b*y*y)%p).Nodup:=by
  rw[ahc];show#[r,A,λu g v m e=>t ?_];let⟨x,_,rfl⟩:=adX.mp g;let⟨y,_,rfl⟩:=adX.mp m;show#[x,y,?_];let:=xX.mp e
  rwa [(by grind:0+a*x*x-(c+-b*y*y)=a*x*x+b*y*y-c)] at this
 let o:=o6 s (α:=(Ö ↥p).map fun(i:Nat)=>(i:Int)) λu g=>by
  let d:∃w,u=w%p:=by
   obtain h|h:=aen.mp g
   .let⟨x,_,rfl⟩:=adX.mp h;show#[_,rfl]
   .let⟨x,_,rfl⟩:=adX.mp h;show#[_,rfl]
  let⟨w,rfl⟩:=d;let h1:=ŭ w (b:=p) .b;let C:=Ů w (b:=p) .b;show adX.mpr #[↥(w%p),aeY.mpr .b,.b]
 let l: ~~~(half p)=↥((p+1)/2):=by delta half;simp
 simp only[Ř,ċ,agi,l] at o;lia
def F6(xs:.L):lN [] xs=0:=by cases xs<;>rfl
theorem oz:∀l:.L,lN l (Ý (~~~l) 0)=0:=zrL (rfl) λa l oz=>by
  change a*0*0+lN l (Ý (~~~l) 0)=0;rw[oz];lia
theorem xH:∀{l m xs ys:.L},~~~l= ~~~xs->lN (l++m) (xs++ys)=lN l xs+lN m ys
 |[],_,[],_,_=>by rw[F6];change lN _ _=_;simp
 |a::l,m,x::xs,ys,h=>by
  change a*x*x+lN (l++m) (xs++ys)=a*x*x+lN l xs+lN m ys;rw[xH ↑h];lia
def PZ.more{N:Int}(m:.L)(h:PZ l p N):PZ (l++m) p N:=by
 let⟨xs,h1,h2,x,b,a⟩:=h;show#[xs++Ý (~~~m) 0,by simp[h1],?_,x,by simp[b],a];rw[xH h1.symm,oz];simpa using h2
def Bs(hp:aN p=Á)(h2:p≠2):∀{l:.L},(∀a∈l,¬p∣a)->(PZ l p p↔3<= ~~~l\/∃a b,l=[a,b]/\bO (-a*b) p=1)
 |[],_=>by
  constructor
  .rintro⟨xs,h1,_,x,j,_⟩;cases xs with
   |nil=>cases j
   |cons _ _=>cases h1
  .rintro(h|⟨a,b,h,_⟩)
   .cases h
   .cases h
 |[a],f=>by
  constructor
  .rintro⟨xs,h1,j,x,k,g⟩
   match xs,h1 with
   |[y],_ =>
    let e:x=y:=by simpa using k
    subst e;let m:p∣a*x*x:=by simpa [lN] using j
    show absurd m (TK hp (TK hp (f a .c) g) g)
  .rintro(h|⟨c,b,h,_⟩)
   .show absurd h .c
   .cases h
 |[a,b],f=>by
  let ha:=f a .c;let s:=f b .c;constructor
  .rintro⟨xs,h1,j,x,k,g⟩
   match xs,h1 with
   |[y,z],_ =>
    let o:p∣a*y*y+b*z*z:=by simpa [lN] using j
    let i:¬p∣y/\¬p∣z:=by
     let k1:p∣y->p∣z:=λD=>by
      let:p∣b*z*z:=by
       let:=agX o (WH (a*y) D)
       rwa [(.b:a*y*y+b*z*z-a*y*y=b*z*z)] at this
      obtain w|w:=euclid hp this
      .show(euclid hp w).elim (λw=>absurd w s) id
      .show w
     let k2:p∣z->p∣y:=λhz=>by
      let:p∣a*y*y:=by
       let:=agX o (WH (b*z) hz)
       rwa [(.b:a*y*y+b*z*z-b*z*z=a*y*y)] at this
      obtain w|w:=euclid hp this
      .show(euclid hp w).elim (λw=>absurd w ha) id
      .show w
     obtain e|e:=đ.mp k
     .subst e;show#[g,λw=>g (k2 w)]
     .let e:x=z:=by simpa using e
      subst e;show#[λw=>g (k1 w),g]
    show .inr #[a,b,rfl,?_]
    let e:bO (-a*b*z*z) p=bO ((a*y)*(a*y)) p:=qh (xX.mpr (by
     rw[(by grind:-a*b*z*z-a*y*(a*y)=-a*(a*y*y+b*z*z))]
     show WH _ o))
    let n:¬p∣-a*b:=TK hp (λw=>ha (ae0.mp w)) s;rw[gJ hp,gJ hp,gJ hp (a*y)] at e;let q:=TK hp ha i.1;obtain u|u:=cG n<;>obtain v|v:=cG i.2<;>obtain w|w:=cG q<;>rw[u,v,w] at e<;>first|show u|(exfalso;revert e;decide)
  .rintro(h|⟨c,d,h,A⟩)
   .show absurd h .c
   .cases h;let⟨r,t,C⟩:=OQ hp A;show#[[r,a],rfl,?_,a,.c,ha];change p∣a*r*r+(b*a*a+0);rw[(by grind:a*r*r+(b*a*a+0)=a*(r*r+a*b)),C];show#[a*t,by grind]
 |a::b::c::l,f=>by
  show#[λ_=>.inl .c,λ_=>?_];let⟨x,y,B⟩:=JQ (-c) hp h2 (f a .c) (f b .c)
  let:PZ [a,b,c] p p:=by
   show#[[x,y,1],rfl,?_,1,.c,λw=>by let:=Ę .a w;let:=au hp;lia];change p∣a*x*x+(b*y*y+(c*1*1+0))
   rwa [(.b:a*x*x+(b*y*y+(c*1*1+0))=a*x*x+b*y*y - -c)]
  show this.more l
noncomputable def sel(f:Int->Bool):.L->.L->.L
 |a::l,x::xs=>if f a then x::sel f l xs else sel f l xs
 |_,_=>[]
def jo(p a:Int):Bool:=decide (a%p=0)
def ya(p:Int)(l:.L):.L:=l.filter λa=>!jo p a
def A3(p:Int)(l:.L):.L:=(l.filter (jo p)).map (·/p)
def Pj(z:jo p a=Á):ya p (a::l)=ya p l:=by delta ya;show ϸ (p:=λa=>!jo p a) (by simp[z])
def Pz(z:jo p a=Á):A3 p (a::l)=a/p::A3 p l:=by delta A3;rw[Ϸ z];rfl
def Qv(z:¬jo p a=Á):ya p (a::l)=a::ya p l:=by delta ya;show Ϸ (p:=λa=>!jo p a) (by simp[z])
def PK(z:¬jo p a=Á):A3 p (a::l)=A3 p l:=by delta A3;rw[ϸ z]
def oM{f:Int->Bool}{xs:.L}(z:f a=Á):sel f (a::l) (x::xs)=x::sel f l xs:=adI z
def oE{f:Int->Bool}{xs:.L}(z:¬f a=Á):sel f (a::l) (x::xs)=sel f l xs:=adF z
theorem AX(f:Int->Bool):∀{l xs:.L},~~~xs= ~~~l->~~~(sel f l xs)= ~~~(l.filter f)
 |[],[],_=>rfl
 |a::l,x::xs,h=>by
  let b:=AX f (l:=l) (xs:=xs) ↑h;unfold sel;by_cases z:f a=Á
  .rw[adI z,Ϸ z,Œ,Œ,b]
  .rw[adF z,ϸ z,b]
theorem om{p:Int}(hp:2<=p):∀{l xs:.L},~~~xs= ~~~l->lN l xs=lN (ya p l) (sel (λa=>!jo p a) l xs)+p*lN (A3 p l) (sel (jo p) l xs)
 |[],[],_=>by simp[lN,ya,A3]
 |a::l,x::xs,h=>by
  let c:=om hp (l:=l) (xs:=xs) ↑h;change a*x*x+lN l xs=_;rw[c];by_cases z:jo p a=Á
  .let b:¬(!jo p a)=Á:=by simp[z]
   let e:p*(a/p)=a:=agl (ű (aer z));rw[Pj z,Pz z,oM z,oE (f:=λa=>!jo p a) b];change _=_+p*(a/p*x*x+_);rw[af8,(by grind:p*(a/p*x*x)=(p*(a/p))*x*x),e];lia
  .let b:(!jo p a)=Á:=by simp[z]
   rw[Qv z,PK z,oE z,oM (f:=λa=>!jo p a) b];change _=a*x*x+_+_;lia
theorem JI(f:Int->Bool):∀{l xs:.L} {Q:Int->Prop},~~~xs= ~~~l->(∃x∈xs,Q x)->(∃x∈sel f l xs,Q x)\/∃x∈sel (λa=>!f a) l xs,Q x
 |[],[],_,_,⟨x,h,_⟩=>by cases h
 |a::l,x::xs,Q,h,he=>by
  let c:=JI f (l:=l) (xs:=xs) (Q:=Q) ↑h;rw[oB] at he;by_cases z:f a=Á
  .let b:¬(!f a)=Á:=by simp[z]
   rw[oM z,oE (f:=λa=>!f a) b,oB];obtain he|he:=he
   .show .inl (.inl he)
   .show(c he).imp .inr id
  .let b:(!f a)=Á:=by simp[z]
   rw[oE z,oM (f:=λa=>!f a) b,oB];obtain he|he:=he
   .show .inr (.inl he)
   .show(c he).imp id .inr
noncomputable def LQ(f:Int->Bool):.L->.L->.L->.L
 |a::l,ys,zs=>if f a then (match ys with|y::ys=>y::LQ f l ys zs|[]=>0::LQ f l [] zs) else (match zs with|z::zs=>z::LQ f l ys zs|[]=>0::LQ f l ys [])
 |[],_,_=>[]
theorem AJ(f:Int->Bool):∀{l ys zs:.L},~~~ys= ~~~(l.filter f)->~~~zs= ~~~(l.filter λa=>!f a)->~~~(LQ f l ys zs)= ~~~l/\sel f l (LQ f l ys zs)=ys/\sel (λa=>!f a) l (LQ f l ys zs)=zs:=@zrL _ _ (@λys zs h1 h2=>by
  let e1:ys=[]:=afZ.mp h1;let e2:zs=[]:=afZ.mp h2;subst e1;subst e2;show#[rfl,rfl,rfl]) @λa l AJ ys zs h1 h2=>by
  by_cases z:f a=Á
  .let b:¬(!f a)=Á:=by simp[z]
   rw[Ϸ z] at h1;rw[ϸ (p:=λa=>!f a) b] at h2
   match ys,h1 with
   |y::ys,h1 =>
    let⟨k1,k2,k3⟩:=AJ (ys:=ys) (zs:=zs) ↑h1 h2;unfold LQ;rw[adI z];dsimp only;rw[oM z,oE (f:=λa=>!f a) b,k2,k3];show#[by simp[k1],rfl,rfl]
  .let b:(!f a)=Á:=by simp[z]
   rw[ϸ z] at h1;rw[Ϸ (p:=λa=>!f a) b] at h2
   match zs,h2 with
   |w::zs,h2 =>
    let⟨k1,k2,k3⟩:=AJ (ys:=ys) (zs:=zs) h1 ↑h2;unfold LQ;rw[adF z];dsimp only;rw[oE z,oM (f:=λa=>!f a) b,k2,k3];show#[by simp[k1],rfl,rfl]
theorem vg(f:Int->Bool):∀{l xs:.L} {x:Int},x∈sel f l xs->x∈xs
 |[],_,_,h=>by simp[sel] at h
 |_::_,[],_,h=>by simp[sel] at h
 |a::l,y::xs,x,h=>by
  unfold sel at h;split at h
  .obtain e|e:=đ.mp h
   .show đ.mpr (.inl e)
   .show đ.mpr (.inr (vg f e))
  .show đ.mpr (.inr (vg f h))
theorem FK{d:Int}:∀{l xs:.L},(∀x∈xs,d∣x)->d*d∣lN l xs
 |[],xs,_=>by rw[F6];show agw _
 |_::_,[],_=>agw _
 |a::l,x::xs,h=>by
  change d*d∣a*x*x+lN l xs;let⟨t,rfl⟩:=h x .c;show ϋ #[a*t*t,by grind] (FK λy b=>h y (by simp[b]))
theorem PH{p:Int}(hp:aN p=Á)(h2:p≠2):∀{l xs:.L} (r:Int),~~~xs= ~~~l->(∀a∈l,¬p∣a)->p∣lN l xs-r->(∃x∈xs,¬p∣x)->∃ys:.L,~~~ys= ~~~l/\p*p∣lN l ys-r/\∃y∈ys,¬p∣y
 |[],[],_,_,_,_,⟨x,h,_⟩=>by cases h
 |a::l,x::xs,r,k,m,A,he=>by
  let w:=au hp;by_cases f:p∣x
  .let c:∃y∈xs,¬p∣y:=by
    rw[oB] at he;show he.resolve_left λz=>z f
   let⟨ys,k1,k2,k3⟩:=PH hp h2 (l:=l) (xs:=xs) (r-a*x*x) ↑k (λb s=>m b (by simp[s])) (by
    change p∣lN l xs-(r-a*x*x)
    rwa [(.b:lN l xs-(r-a*x*x)=(a*x*x+lN l xs)-r)]) c
   show#[x::ys,by simp[k1],?_,?_]
   .change p*p∣a*x*x+lN l ys-r
    rwa [(.b:a*x*x+lN l ys-r=lN l ys-(r-a*x*x))]
   .let⟨y,C,j⟩:=k3;show#[y,by simp[C],j]
  .-- x+p t: a (x+p t)^2=a x^2+2 a x p t+p^2 ..
   let⟨q,n⟩:=A;let i:¬p∣.O:=λz=>h2 (a9 hp bA z);let j:¬p∣2*a*x:=TK hp (TK hp i (m a .c)) f
   obtain⟨u,v,g⟩:∃u v:Int,2*a*x*u=1+p*v:=by
    let B:=LJ hp j;let⟨v,o⟩:=B;let d:↥(p-1)=↥(p-2)+1:=.b
    show#[(2*a*x)^↥(p-2),v,?_];rw[d,Ī] at o;let:2*a*x*(2*a*x)^↥(p-2)=(2*a*x)^↥(p-2)*(2*a*x):=ī _ _;lia
   show#[(x+p*(-(q*u)))::xs,↑k,?_,x+p*(-(q*u)),.c,λz=>f ?_]
   .change p*p∣a*(x+p*(-(q*u)))*(x+p*(-(q*u)))+lN l xs-r;let e:a*x*x+lN l xs-r=p*q:=n;show#[-(q*v)+a*(q*u)*(q*u),?_];let e2:a*(x+p*(-(q*u)))*(x+p*(-(q*u)))+lN l xs-r=(a*x*x+lN l xs-r)-p*q*(2*a*x*u)+p*p*(a*(q*u)*(q*u)):=by grind
    rw[e2,e,g];grind
   .let:=agX z #[-(q*u),rfl]
    rwa [(.b:x+p*(-(q*u))-p*(-(q*u))=x)] at this
def Bh(hp:aN p=Á)(h2:p≠2):PZ l p (p*p)↔PZ (ya p l) p p\/PZ (A3 p l) p p:=by
 let b:=au hp
 let u:∀a∈ya p l,¬p∣a:=λa ha z=>by
  let:=(aeJ.mp ha).2;simp only[jo,ahe,ag_] at this;show this (Ϲ z)
 let o: ~~~(A3 p l)= ~~~(l.filter (jo p)):=by delta A3;rw[ċ]
 constructor
 .rintro⟨xs,h1,c,f⟩;let r:=om b h1;let v:=AX (λa=>!jo p a) h1;let B:=AX (jo p) h1;by_cases k:∃x∈sel (λa=>!jo p a) l xs,¬p∣x
  .show .inl #[_,v,?_,k];let:p∣lN l xs:=İ #[p,rfl] c;rw[r] at this;let:=agX this #[lN (A3 p l) (sel (jo p) l xs),rfl]
   rwa [Int.add_sub_cancel] at this
  .show .inr #[_,B.trans o.symm,?_,?_]
   .let hz:∀x∈sel (λa=>!jo p a) l xs,p∣x:=λx i=>ğ λz=>k #[x,i,z];let A:=FK (l:=ya p l) hz;rw[r] at c;let s:=agX c A;rw[(.b:lN (ya p l) (sel (λa=>!jo p a) l xs)+p*lN (A3 p l) (sel (jo p) l xs)-lN (ya p l) (sel (λa=>!jo p a) l xs)=p*lN (A3 p l) (sel (jo p) l xs))] at s;show ahQ .b s
   .show(JI (jo p) h1 f).resolve_right k
 .rintro(⟨ys,h1,c,f⟩|⟨zs,h1,c,f⟩)
  .let⟨g,k1,k2,k3⟩:=PH hp h2 (l:=ya p l) (xs:=ys) 0 h1 u ↑c f
   let⟨d,h,j⟩:=AJ (λa=>!jo p a) (l:=l) (ys:=g) (zs:=Ý (~~~(A3 p l)) 0) k1 (by
    rw[air,o];congr 2;funext a;simp)
   show#[_,d,?_,?_]
   .rw[om b d,h]
    let:sel (jo p) l (LQ (λa=>!jo p a) l g (Ý (~~~(A3 p l)) 0))=Ý (~~~(A3 p l)) 0:=by
     let q:=j;rwa[(by funext a;simp:(λa=>!!jo p a)=jo p)] at q
    rw[this,oz];simpa using k2
   .let⟨y,m,n⟩:=k3;show#[y,vg _ (by rwa[h]),n]
  .let⟨d,h,j⟩:=AJ (λa=>!jo p a) (l:=l) (ys:=Ý (~~~(ya p l)) 0) (zs:=zs) (by simp[ya]) (by
    rw[h1,o];congr 2;funext a;simp)
   let e:sel (jo p) l (LQ (λa=>!jo p a) l (Ý (~~~(ya p l)) 0) zs)=zs:=by
    let:=j;rwa[(by funext a;simp:(λa=>!!jo p a)=jo p)] at this
   show#[_,d,?_,?_]
   .rw[om b d,h,e,oz];let⟨t,w⟩:=c;show#[t,by rw[w];grind]
   .let⟨y,m,n⟩:=f;show#[y,vg _ (by rwa[e]),n]
noncomputable def Tf(m:Int):List (Int×Int)->Bool
 |[]=>Á
 |[_]=>Â
 |[a,b]=>decide (cj (cj (0,m) a 3) b 3=(0,1))
 |[a,b,c]=>oQ (cj (cj (0,m) a 3) c 3) (cj (cj (0,m) b 3) c 3) m
 |[a,b,c,d]=>!decide (cj (cj (cj a b 3) c 3) d 3=(0,1)) || oQ (cj (cj (0,m) a 3) c 3) (cj (cj (0,m) b 3) c 3) m
 |_=>Á
noncomputable def V9(m:Int)(cs:List (Int×Int)):Bool:=match cs with
 |[a,b]=>decide (m*a.2*b.2=1)
 |_::_::_::_=>Á
 |_=>Â
def SD(m:Int)(cs:List (Int×Int)):Bool:=V9 m (cs.filter λc=>decide (c.1=0)) || V9 m (cs.filter λc=>decide (c.1=1))
def Yu:∀m∈[.M,-1],∀a∈CO,Tf m [a]=SD m [a]:=by decide +kernel
def Yw:∀m∈[.M,-1],∀a∈CO,∀b∈CO,Tf m [a,b]=SD m [a,b]:=by decide +kernel
def YE:∀m∈[.M,-1],∀a∈CO,∀b∈CO,∀c∈CO,Tf m [a,b,c]=SD m [a,b,c]:=by decide +kernel
def YK:∀m∈[.M,-1],∀a∈CO,∀b∈CO,∀c∈CO,∀d∈CO,Tf m [a,b,c,d]=SD m [a,b,c,d]:=by decide +kernel
def yQ{m:Int}{cs:List (Int×Int)}(h:3<= ~~~cs):V9 m cs=Á:=by
 match cs,h with
 |_::_::_::_,_=>rfl
def JS{cs:List (Int×Int)}(h:∀c∈cs,c.1=0\/c.1=1): ~~~(cs.filter λc=>decide (c.1=0))+~~~(cs.filter λc=>decide (c.1=1))= ~~~cs:=by
 induction cs with
 |nil=>rfl
 |cons c cs a =>
  let a:=a λd b=>h d (by simp[b]);obtain z|z:=h c .c
  .rw[Ϸ (by simp[z]),ϸ (by simp[z])];simp only[Œ];lia
  .rw[ϸ (by simp[z]),Ϸ (by simp[z])];simp only[Œ];lia
def W8{c:Int×Int}(h:c∈CO):c.1=0\/c.1=1:=by
 revert c;decide
def RF{m:Int}(f:m∈[.M,-1]):∀{cs:List (Int×Int)},(∀c∈cs,c∈CO)->1<= ~~~cs->Tf m cs=SD m cs
 |[a],h,_=>Yu m f a (h a .c)
 |[a,b],h,_=>Yw m f a (h a .c) b (h b .c)
 |[a,b,c],h,_=>YE m f a (h a .c) b (h b .c) c (h c .c)
 |[a,b,c,d],h,_=>YK m f a (h a .c) b (h b .c) c (h c .c) d (h d .c)
 |a::b::c::d::e::l,h,_=>by
  let g:=JS λc i=>W8 (h c i);change Á=_;delta SD;simp only[Œ] at g;obtain z|z:=aiI (~~~((a::b::c::d::e::l).filter fun(c:Int×Int)=>decide (c.1=0))) 3
  .rw[yQ (cs:=(a::b::c::d::e::l).filter fun(c:Int×Int)=>decide (c.1=1)) .b,aib]
  .rw[yQ z,Bool.true_or]
def Nc(hp:aN p=Á):bO (-1) p∈[.M,-1]:=vz (au hp)
def rN(hp:aN p=Á)(h2:p≠2)(ha:a≠0):cls (-a) p=cj (0,bO (-1) p) (cls a p) 3:=by
 rw[(.b:-a=-1*a),bx hp .a ha,zZ hp,adF h2,b7 h2]
def N_(hp:aN p=Á)(h2:p≠2):∀{l:.L},(∀a∈l,a≠0)->dk l p=Tf (bO (-1) p) (l.map λa=>cls a p)
 |[],_=>by unfold dk Tf;let:=au hp;rw[adF .b];rfl
 |[a],_=>by let:=au hp;rw[Ag .b];rfl
 |[a,b],h=>by
  let:=au hp;let ha:=h a .c;let f:=h b .c;rw[lD .b];change decide (cls (-a*b) p=(0,1))=decide (_=_);rw[bx hp .b f,rN hp h2 ha,b7 h2]
 |[a,b,c],h=>by
  let:=au hp;let ha:=h a .c;let f:=h b .c;let g:=h c .c;rw[gD .b];delta Ad;rw[bB .b h2,bx hp .b g,bx hp .b g,rN hp h2 ha,rN hp h2 f,b7 h2,b7 h2];rfl
 |[a,b,c,d],h=>by
  let:=au hp;let ha:=h a .c;let f:=h b .c;let g:=h c .c;let j:=h d .c;let i:=ë ha f;rw[qz .b];delta Ad;rw[bB .b h2,bx hp (a:=-a) .b g,bx hp (a:=-b) .b g,rN hp h2 ha,rN hp h2 f,b7 h2,b7 h2];change(!decide (cls (a*b*c*d) p=(0,1)) || _)=(!decide (_=_) || _);rw[bx hp (ë i g) j,bx hp i g,bx hp ha f,b7 h2,b7 h2,b7 h2]
 |a::b::c::d::e::l,_=>by
  let:=au hp;rw[qg .b .c];rfl
def On(p:Int)(l:.L):Prop:=∀a∈l,¬p*p∣a
def On.nz(h:On p l):∀a∈l,a≠0:=λa ha z=>h a ha (by rw[z];show agw _)
def Qd(hp:aN p=Á)(h2:p≠2)(h:¬jo p a=Á):cls a p=(0,bO a p):=qW hp h2 λz=>h (adZ (Ϲ z))
def Gi(hp:aN p=Á)(h2:p≠2)(h:jo p a=Á)(c:¬p*p∣a):cls a p=(1,bO (a/p) p)/\¬p∣a/p:=by
 let e:p*(a/p)=a:=agl (ű (aer h));let b:¬p∣a/p:=fun⟨t,z⟩=>c #[t,by rw[<-e,z];grind];show#[?_,b];let:=Js hp h2 b
 rwa [e] at this
theorem JP{p:Int}(hp:aN p=Á)(h2:p≠2):∀{l:.L},On p l->((l.map λa=>cls a p).filter λc=>decide (c.1=0))=(ya p l).map λa=>(.N,bO a p):=@zrL _ _ (@λ_=>rfl) @λa l JP h=>by
  let d:=JP λb f=>h b (by simp[f]);rw[ů];by_cases z:jo p a=Á
  .let e:=(Gi hp h2 z (h a .c)).1;rw[Pj z,ϸ (by rw[e];simp),d]
  .let e:=Qd hp h2 z;rw[Qv z,Ϸ (by rw[e];simp),d,e,ů]
theorem JZ{p:Int}(hp:aN p=Á)(h2:p≠2):∀{l:.L},On p l->((l.map λa=>cls a p).filter λc=>decide (c.1=1))=(A3 p l).map λa=>(.M,bO a p):=@zrL _ _ (@λ_=>rfl) @λa l JZ h=>by
  let d:=JZ λb f=>h b (by simp[f]);rw[ů];by_cases z:jo p a=Á
  .let e:=(Gi hp h2 z (h a .c)).1;rw[Pz z,Ϸ (by rw[e];simp),d,e,ů]
  .let e:=Qd hp h2 z;rw[PK z,ϸ (by rw[e];simp),d]
def NX:∀a∈ya p l,¬p∣a:=λa ha z=>by
 let:=(aeJ.mp ha).2;simp only[jo,ahe,ag_] at this;show this (Ϲ z)
def NS(h:On p l):∀a∈A3 p l,¬p∣a:=λa ha ⟨t,z⟩=>by
 let⟨b,c,rfl⟩:=adX.mp ha;let⟨h1,h2⟩:=aeJ.mp c;let e:p*(b/p)=b:=agl (ű (aer h2));show h b h1 #[t,by rw[<-e,z];grind]
def BS(hp:aN p=Á)(h2:p≠2)(h:∀a∈l,¬p∣a):PZ l p p↔V9 (bO (-1) p) (l.map λa=>(v,bO a p))=Á:=by
 rw[Bs hp h2 h]
 match l with
 |[]=>show#[λz=>by obtain z|⟨_,_,z,_⟩:=z;(· cases z);(· cases z),λz=>by cases z]
 |[a]=>show#[λz=>by obtain z|⟨_,_,z,_⟩:=z;(· show absurd z .c);(· cases z),λz=>by cases z]
 |[a,b] =>
  change _↔decide (bO (-1) p*bO a p*bO b p=1)=Á;rw[afe,<-gJ hp,<-gJ hp];constructor
  .rintro(z|⟨c,d,z,q⟩)
   .show absurd z .c
   .cases z;rwa [(by grind:-1*a*b=-a*b)]
  .intro q;show .inr #[a,b,rfl,by rwa [(by grind:-a*b=-1*a*b)]]
 |a::b::c::l=>show#[λ_=>rfl,λ_=>.inl .c]
def Rf(hp:aN p=Á)(h2:p≠2)(h:On p l)(h1:1<= ~~~l):PZ l p (p*p)↔dk l p=Á:=by
 rw[Bh hp h2,BS (v:=0) hp h2 NX,BS (v:=1) hp h2 (NS h),N_ hp h2 h.nz,RF (Nc hp) ?_ ↑h1]
 .delta SD;rw[JP hp h2 h,JZ hp h2 h,ahw]
 .intro c b;let⟨a,ha,rfl⟩:=adX.mp b;show dj (au hp) h2 (h.nz a ha)
def B_(hp:aN p=Á)(h:¬p∣k):(cls (k*p) p).1=1:=by
 let:=oK (k:=k) (d:=p) (v:=1) (au hp) h;rw[ω] at this;delta cls;rw[this];rfl
def Jl(h:dm f)(hp:aN p=Á)(c:p∣f):∃e,f=e*p/\¬p∣e/\dm e:=by
 let⟨t,a⟩:=c;let g:=au hp;show#[t,by rw[a,ī],fun⟨r,b⟩=>h.2 p g #[r,by rw[a,b];grind],?_,λd c ⟨r,b⟩=>h.2 d c #[p*r,by rw[a,b];grind]];intro z;show h.1 (by rw[a,z];simp)
def Fu(l:.L):Option Int->Prop
 |none=>dk l 0=Á/\∀q,aN q=Á->dk l q=Á
 |some p=>dk l p=Â/\(p=0\/(aN p=Á/\dk l 0=Á/\∀q,aN q=Á->q<p->dk l q=Á))
def Fu.uniq:∀r r',Fu l r->Fu l r'->r=r'
 |none,none,_,_=>rfl
 |none,À p,h,h'=>by
  let⟨h1,h2⟩:=h;let⟨k1,k2⟩:=h';obtain rfl|⟨k2,_⟩:=k2
  .rw[h1] at k1;cases k1
  .rw[h2 p k2] at k1;cases k1
 |some p,none,h',h=>by
  let⟨h1,h2⟩:=h;let⟨k1,k2⟩:=h';obtain rfl|⟨k2,_⟩:=k2
  .rw[h1] at k1;cases k1
  .rw[h2 p k2] at k1;cases k1
 |some p,À q,h,h'=>by
  let⟨h1,h2⟩:=h;let⟨k1,k2⟩:=h';obtain rfl|⟨h2,e,d⟩:=h2
  .obtain rfl|⟨k2,k3,c⟩:=k2
   .rfl
   .rw[k3] at h1;cases h1
  .obtain rfl|⟨k2,k3,c⟩:=k2
   .rw[e] at k1;cases k1
   .let a:¬q<p:=λz=>by rw[d q k2 z] at k1;cases k1
    let b:¬p<q:=λz=>by rw[c p h2 z] at h1;cases h1
    rw[(.b:p=q)]
def jQ(l:.L):Option Int:=ú (Fu l)
def oe{r:Option Int}(h:Fu l r):r=jQ l:=tR Fu.uniq h
def L_(hp:aN p=Á)(h2:p≠2)(b:3<= ~~~l)(h:∀a∈l,¬p∣a):dk l p=Á:=by
 rw[<-Rf hp h2 (λa ha z=>h a ha (İ #[p,rfl] z)) .b,Bh hp h2];show .inl ?_
 let e:ya p l=l:=by
  delta ya;rw[ahH];intro a ha;simp only[jo,ahe,ag_];show λz=>h a ha (ű z)
 rw[e,Bs hp h2 h];show .inl b
def Sg(hp:aN p=Á)(ha:a≠0)(c:b≠0)(e:r*r=-a*b):dk [a,b] p=Á:=by
 let:=au hp;rw[lD .b,afe,<-e]
 show D4 hp λz=>by
  rw[z] at e;show ë (.b:-a≠0) c (by rw[<-e];rfl)
def Nl(a b:Int):Prop:=(∃r,r*r=-a*b)\/∃q,aN q=Á/\q<=997/\dk [a,b] q=Â
def RK(ha:a≠0)(k:b≠0)(hz:dk [a,b] 0=Á)(h:Nl a b):(Fu [a,b] none/\∃r,r*r=-a*b)\/∃p,Fu [a,b] (À p)/\aN p=Á/\p<=997/\¬∃r,r*r=-a*b:=by
 by_cases c:∃r,r*r=-a*b
 .let⟨r,s⟩:=id c;show .inl #[#[hz,λq d=>Sg d ha k s],c]
 .let⟨q,l,g,o⟩:=h.resolve_left c
  let:∀n:Nat,∀q:Int,aN q=Á->q<=997->dk [a,b] q=Â->q<=n->∃p,Fu [a,b] (À p)/\aN p=Á/\p<=997:=by
   intro n
   induction n with
   |zero=>intro q h1 _ _ h2;let:=au h1;lia
   |succ n m =>
    intro q h1 h2 t v;by_cases d:∃r,aN r=Á/\r<q/\dk [a,b] r=Â
    .let⟨r,e,f,u⟩:=d;show m r e .b u .b
    .show#[q,#[t,.inr #[h1,hz,λr e f=>ğ λz=>d #[r,e,f,↑z]]],h1,h2]
  let⟨p,j,p2,i⟩:=this ↥q q l g o .b;show .inr #[p,j,p2,i,c]
def DW(l:.L):Fu l (jQ l):=by
 let:∃r,Fu l r:=by
  by_cases hz:dk l 0=Á
  .by_cases hp:∃p,aN p=Á/\dk l p=Â
   .let⟨p,hp,e⟩:=hp
    let:∀n:Nat,∀q:Int,aN q=Á->dk l q=Â->q<=n->∃p,Fu l (À p):=by
     intro n
     induction n with
     |zero=>intro q h1 _ h2;let:=au h1;lia
     |succ n f =>
      intro q h1 g i;by_cases a:∃r,aN r=Á/\r<q/\dk l r=Â
      .let⟨r,c,d,h⟩:=a;show f r c h .b
      .show#[q,g,.inr #[h1,hz,λr c d=>ğ λz=>a #[r,c,d,↑z]]]
    let⟨r,b⟩:=this ↥p p hp e .b;show#[À r,b]
   .show#[none,hz,λq a=>ğ λz=>hp #[q,a,↑z]]
  .show#[À 0,↑hz,.inl rfl]
 let⟨r,b⟩:=this;rwa[<-oe b]
def uV(a b:Int):Prop:=∀p,Pl p->ak a b p=Á
def uV.swap(ha:a≠0)(c:b≠0)(h:uV a b):uV b a:=λp hp=>by
 rw[ba hp ha c];show h p hp
def JJ(hp:Pl p)(ha:a≠0)(h:r*r-a≠0):ak a (r*r-a) p=Á:=by
 by_cases b:r=0
 .subst b;let:=nZ hp ha;rw[Ū];show this
 .let h1:=BC (x:=1) (y:=1) (w:=r*r) hp ha h (ë b b) (by simp only[Đ];lia);rwa[<-ĵ,<-ĵ,jq hp ha b,eM hp ha h b] at h1
def uV.step(ha:a≠0)(g:b≠0)(i:c≠0)(f:s≠0)(h:uV a b)(e:r*r-a=b*c*(s*s)):uV a c:=λp hp=>by
 let d:b*c≠0:=ë g i;let h1:=JJ (r:=r) hp ha (by rw[e];show ë d (ë f f));rw[e,<-ĵ,eM hp ha d f,aS hp ha g i,h p hp] at h1;cases q:ak a c p with
 |true=>rfl
 |false=>rw[q] at h1;cases h1
def J3(hp:Pl p)(ha:a≠0)(h:b≠0)(i:c≠0):Ad a b c p=ak (-a*b) (-a*c) p:=by
 let d:-a*c≠0:=ë (by first|lia|omega) i;let f:-a*b≠0:=ë (by first|lia|omega) h;let g:-b*c≠0:=ë (by first|lia|omega) i
 let h1:ak (-a*c) ((-b*c)*(-a*b)) p=Á:=by
  let e:(-b*c)*(-a*b)=(0-(-a*c))*b*b:=by grind
  rw[e,eM hp d (by first|lia|omega) h];show nZ hp d
 rw[aS hp d g f] at h1;delta Ad;rw[ba hp d f];cases q:ak (-a*c) (-b*c) p<;>cases j:ak (-a*c) (-a*b) p<;>rw[q,j] at h1<;>first|rfl|cases h1
def Hd{B:Int}(hp:Pl p)(c:A≠0)(h:B≠0)(d:u≠0)(e:v≠0)(g:a=A*(u*u))(f:b=B*(v*v)):ak a b p=ak A B p:=by
 rw[g,f,<-ĵ,<-ĵ,jq hp c d,eM hp c h e]
def R_(hp:aN p=Á)(ha:a≠0)(e:¬p*p∣b)(d:p∣b)(h:ak a b p=Á):bO a p≠-1:=by
 by_cases h2:p=2
 .subst h2;intro z;delta bO at z;split at z<;>lia
 .let p2:=au hp;by_cases c:p∣a
  .rw[eN c];decide
  .intro z;rw[bB .b h2,cy p2 c,adF h2,z,(Gi hp h2 (by simpa [jo] using Ϲ d) e).1] at h;simp[oQ] at h
theorem AV{n:Int}:∀(k:Nat) (m:Int),m.natAbs<=k->0<m->dm m->(∀q,aN q=Á->q∣m->q∣n)->m∣n:=zrN (λm l i _ _=>by lia) λk AV m l i e h=>by
  by_cases h1:m=1
  .rw[h1];show ϊ n
  .let⟨q,d,⟨a,rfl⟩⟩:=fj (k:=m) .b;let f:=au d;let p:0<a:=Int.pos_of_mul_pos_right i .b
   let lt:a<q*a:=by
    let:=aeu f (.b:0<=a);lia
   let⟨t,g⟩:=AV a .b p (vv e (Int.dvd_mul_left _ _)) λr o j=>h r o (İ j (Int.dvd_mul_left _ _));let b:=h q d (ahf _ _);rw[g] at b;obtain z|z:=euclid d b
   .exfalso;let⟨c,rfl⟩:=z;show e.2 q f #[c,by rw[ĵ]]
   .let⟨c,rfl⟩:=z;show#[c,by rw[g];grind]
def Jg(ha:a≠0)(d:dm b)(h:uV a b):∃x,Jm a b.natAbs=À x/\0<=x/\x<b.natAbs/\b∣x*x-a:=by
 let p:=d.1;obtain⟨_,q,c,i,z⟩|⟨x,e,l,o,j⟩:=Ts (k:=a) (m:=b.natAbs) .b
 .let g:=aeV.mp i;show absurd z (R_ c ha (λw=>d.2 q (au c) w) g (h q (.inr c)))
 .show#[x,e,l,o,?_]
  let f:dm (b.natAbs:Int):=by
   obtain z|z:=aiE b
   .rwa[<-z]
   .let:(b.natAbs:Int)=-b:=.b
    rw[this];show lA d
  show ahK.mp (AV (n:=x*x-a) _ (b.natAbs:Int) (Ā _) .b f λq c i=>(j q c i).1)
def yk(ha:dm a)(h1:a≠1)(e:x*x=a*(y*y)):y=0:=by
 apply ğ;intro b
 let c:x≠0:=λz=>by
  rw[z,Ū] at e;show ë ha.1 (ë b b) e.symm
 let e2:a*((y.natAbs:Int)*(y.natAbs:Int))=1*((x.natAbs:Int)*(x.natAbs:Int)):=by
  rw[Ś,<-ϴ,<-ϴ,afu,afu];show e.symm
 show h1 (ny ha oF .b .b e2).1
def lg(a:Int):Nat:=ŏ a.natAbs
noncomputable def xJ(a b:Int):Nat:=2*(lg a+lg b)+if b.natAbs<a.natAbs then 1 else 0
def GC(f:2<=b.natAbs)(g:c≠0)(h:4*c.natAbs<=b.natAbs+4):lg c+1<=lg b:=by
 delta lg;let a:b.natAbs≠0:=.b
 let d:c.natAbs≠0:=.b
 let h1:b.natAbs<2^(ŏ b.natAbs+1):=(agW a).mp (af2 _);let h2:1<=ŏ b.natAbs:=(Nat.le_log2 a).mpr .b;obtain⟨m,e⟩:∃m,ŏ b.natAbs=m+1:=#[ŏ b.natAbs-1,.b];rw[e] at h1 ⊢;let e1:2^(m+1+1)=4*2^m:=by rw[af9,af9];lia
 let e2:2^(m+1)=2*2^m:=by rw[af9];lia
 let:c.natAbs<2^(m+1):=by
  let:=agd m;lia
 let:=(agW d).mpr this;lia
def xy(b:a≠0)(h:a.natAbs<1073741824):lg a<=29:=by
 let:ŏ a.natAbs<30:=(agW .b).mpr .b;delta lg;lia
def IF(h:b.natAbs<a.natAbs):xJ b a+1<=xJ a b:=by
 delta xJ;rw[adI h,adF .b];lia
def Ju(h:a.natAbs<=b.natAbs)(d:lg c+1<=lg b):xJ a c+1<=xJ a b:=by
 delta xJ;rw[adF (.b:¬b.natAbs<a.natAbs)];split<;>lia
def QO(ha:a≠0)(c:b≠0)(h1:a.natAbs<1073741824)(h2:b.natAbs<1073741824):xJ a b<=117:=by
 let:=xy ha h1;let:=xy c h2;delta xJ;split<;>lia
def Fz(h:a.natAbs<=b.natAbs)(c:2*r.natAbs<=b.natAbs)(f:b≠0)(e:r*r-a=b*k):4*k.natAbs<=b.natAbs+4:=by
 let h1:b.natAbs*k.natAbs<=r.natAbs*r.natAbs+a.natAbs:=by
  rw[<-ń,<-ń,<-e];omega
 let h2:(2*r.natAbs)*(2*r.natAbs)<=b.natAbs*b.natAbs:=ahL c c
 let e2:(2*r.natAbs)*(2*r.natAbs)=4*(r.natAbs*r.natAbs):=by
  rw[Nat.mul_mul_mul_comm]
 let d:b.natAbs*(4*k.natAbs)<=b.natAbs*(b.natAbs+4):=by
  rw[Nat.mul_left_comm,Nat.mul_add];omega
 show Nat.le_of_mul_le_mul_left d .f
def Of{t f d t':Int}(h:g≠0)(m:x*x=a*(y*y)+c*(t*t))(e:r*r-a=b*c*(s*s))(ex:x*r+a*y=g*f)(j:x+r*y=g*d)(k:c*s*t=g*t'):f*f=a*(d*d)+b*(t'*t'):=by
 let k1:(x*r+a*y)*(x*r+a*y)=a*((x+r*y)*(x+r*y))+b*((c*s*t)*(c*s*t)):=by
  let e5:(x*r+a*y)*(x*r+a*y)-a*((x+r*y)*(x+r*y))=(x*x-a*(y*y))*(r*r-a):=by grind
  let i:x*x-a*(y*y)=c*(t*t):=.b
  rw[i,e] at e5;let l:c*(t*t)*(b*c*(s*s))=b*((c*s*t)*(c*s*t)):=by grind
  lia
 rw[ex,j,k] at k1;let k2:(g*g)*(f*f)=(g*g)*(a*(d*d)+b*(t'*t')):=by grind
 show afO (ë h h) k2
def Tu{B t e d t':Int}(f:g≠0)(e1:-a*b=A*(u*u))(e2:-a*c=B*(v*v))(h:x*x=A*(y*y)+B*(t*t))(ex:x*u*v=g*e)(i:y*a*v=g*d)(j:t*a*u=g*t'):a*(e*e)+b*(d*d)+c*(t'*t')=0:=by
 let k1:a*((x*u*v)*(x*u*v))+b*((y*a*v)*(y*a*v))+c*((t*a*u)*(t*a*u))=0:=by
  let e3:a*((x*u*v)*(x*u*v))+b*((y*a*v)*(y*a*v))+c*((t*a*u)*(t*a*u))=a*((x*x)*(u*u)*(v*v)-(-a*b)*(y*y)*(v*v)-(-a*c)*(t*t)*(u*u)):=by grind
  rw[e3,e1,e2,h];grind
 rw[ex,i,j] at k1;let k2:(g*g)*(a*(e*e)+b*(d*d)+c*(t'*t'))=0:=by grind
 obtain z|z:=afW.mp k2
 .show absurd z (ë f f)
 .show z
def OG{m w:Int}(d:dm A)(c:0<u)(g:m≠0)(i:w≠0)(e:A*(u*u)=m*(w*w)):A.natAbs<=m.natAbs:=by
 let⟨f,t,h,a,b⟩:=qN _ m g (Ā _)
 let e2:A*(u*u)=f*((t*(w.natAbs:Int))*(t*(w.natAbs:Int))):=by
  let:(w.natAbs:Int)*(w.natAbs:Int)=w*w:=by rw[<-ϴ,afu]
  rw[e,b];generalize (w.natAbs:Int)=z at *;grind
 let:=(ny d h c (Ħ a .b) e2).1;rw[this];show Av a b
theorem Cm:∀{us:List (Int×Int)} {a b:Int},2<=a->ic a us b->(3:Int)^~~~us<=pp us:=@zrL _ _ (@λa b _ _=>by change .M<=1;decide) @λu us Cm a b ha h=>by
  let⟨h1,h2,f,d⟩:=h;let c:=Cm .b d;obtain⟨n,e⟩:∃n,↥u.2=n+1:=#[↥u.2-1,.b]
  let hp:(3:Int)<=u.1^↥u.2:=by
   rw[e,Ī];let:.M<=u.1^n:=by let:=Ş (n:=u.1) (m:=n) .b;lia
   let:=Ű this (.b:(3:Int)<=u.1) .a .b;lia
  change(3:Int)^(~~~us+1)<=u.1^↥u.2*pp us;rw[Ī,ī];show Ű hp c (by let:=Ş (n:=3) (m:= ~~~us) .a;lia) .b
def Ig(h1:1<=k)(h2:k<1073741824): ~~~(oh k)<=19:=by
 let⟨⟨b,a⟩,e⟩:=pU h1;cases d:oh k with
 |nil=>simp
 |cons u us =>
  rw[d] at a e;let⟨q,p,s,c⟩:=a;let f:=Cm .b c;let g:u.1^↥u.2*pp us=k:=e;let h:.M<=u.1^↥u.2:=by let:=Ş (n:=u.1) (m:=↥u.2) .b;lia
  let p2:pp us<=k:=by
   rw[<-g];let j:0<=pp us:=by let:=Ş (n:=3) (m:= ~~~us) .a;lia
   let:=aeu h j;lia
  apply ğ;intro o;let r:19<= ~~~us:=by simp at o;lia
  obtain⟨m,l⟩:∃m,~~~us=19+m:=#[~~~us-19,.b];rw[l,Ź] at f;let:.M<=3^m:=by let:=Ş (n:=3) (m:=m) .a;lia
  let:=Ł this (.a:.N<=3^19);let i:(3:Int)^19=1162261467:=.a
  lia
noncomputable def PW:.L:=[2,3,5,7,11,13,17,19,23,29,31,97,101,997,10007,32771,32779,40009,40013]
noncomputable def Yd:List (Nat×Nat):=[(3,0),(5,0),(7,0),(11,1),(13,1),(17,2),(19,2),(23,2),(29,3),(31,3),(97,4),(101,5),(997,15),(10007,49),(32771,90),(32779,90),(40009,99),(40013,99)]
def Uw(h:p∈PW):aN p=Á:=by
 let g:∀u∈Yd,yR u.1 u.2=Á/\3<=u.1/\u.1%2=1/\u.1<(2*u.2+3)*(2*u.2+3):=by decide +kernel
 let f:∀q∈PW,q=2\/∃u∈Yd,((u.1:Nat):Int)=q:=by decide +kernel
 obtain rfl|⟨u,e,rfl⟩:=f p h
 .show bA
 .let⟨a,b,c,d⟩:=g u e;show jF a b c d
def wO(hp:aN p=Á)(h:cls b p=cls c p):ak a b p=ak a c p:=by
 let p2:=au hp;delta ak;rw[adF (.b:p≠0),adF (.b:p≠0),h]
def Ln(hp:aN p=Á)(a:b≠0)(d:c≠0)(h:cls b p=cls c p):cls (-b) p=cls (-c) p:=by
 let e:∀x:Int,-x=-1*x:=λx=>by lia
 rw[e b,e c,bx hp .a a,bx hp .a d,h]
def GA(h:cls b p=cls c p):uf b p↔uf c p:=by delta uf;rw[h]
def eZ(p:Int)(n:Nat)(d:Int)(o:Bool):Bool:=if n<2 then Â else if n=2 then decide (uf (-d) p) else if n=3 then o != ak (-1) (-d) p else if n=4 then !decide (uf d p) || (o != ak (-1) (-1) p) else Á
def tx(p:Int):Nat->Int->Bool->Nat
 |0,_,_=>0
 |1,_,_=>0
 |n+2,d,o=>if eZ p (n+2) d o=Á then 1+tx p n (-d) (o==ak (-1) (-d) p) else 0
def zo(h:eZ p (n+2) d o=Á):tx p (n+2) d o=1+tx p n (-d) (o==ak (-1) (-d) p):=by rw[tx.eq_3];show adI h
def EZ(h:eZ p n d o=Â):tx p n d o=0:=by
 match n,h with
 |0,_=>rfl
 |1,_=>rfl
 |n+2,h=>rw[tx.eq_3,h];rfl
def yo(hp:aN p=Á){d':Int}(b:d≠0)(h1:d'≠0)(h:cls d p=cls d' p):eZ p n d o=eZ p n d' o:=by
 let a:=Ln hp b h1 h;delta eZ;rw[wO hp a,agr.mpr (GA a),agr.mpr (GA h)]
theorem xC{p:Int}(hp:aN p=Á):∀{n:Nat} {d d':Int} {o:Bool},d≠0->d'≠0->cls d p=cls d' p->tx p n d o=tx p n d' o
 |0,_,_,_,_,_,_=>rfl
 |1,_,_,_,_,_,_=>rfl
 |n+2,d,d',o,a,h1,h=>by
  let b:=Ln hp a h1 h;rw[tx.eq_3,tx.eq_3,yo hp a h1 h,wO hp b,xC hp .b .b b]
theorem F5{p:Int}:∀{n:Nat} {d:Int} {o:Bool},2*tx p n d o<=n
 |0,_,_=>Ā 0
 |1,_,_=>by change 2*0<=1;decide
 |n+2,d,o=>by
  rw[tx.eq_3];split
  .let:=F5 (p:=p) (n:=n) (d:=-d) (o:=o==ak (-1) (-d) p);lia
  .lia
def Iy(n:Nat)(d:Int):Int:=if (n/2)%2=1 then -d else d
def EC(n:Nat)(d:Int):Iy (n+2) d=Iy n (-d):=by
 delta Iy;let:(n+2)/2=n/2+1:=.b
 rw[this];by_cases h:(n/2)%2=1
 .rw[adI h,adF .b,aiq]
 .rw[adF h,adI .b]
theorem EL{p:Int}:∀{n:Nat} {d:Int} {o:Bool},2<=n->n%2=0->2*tx p n d o=n->uf (Iy n d) p
 |0,_,_,h,_,_=>by lia
 |1,_,_,h,_,_=>by lia
 |n+2,d,o,_,he,b=>by
  let a:eZ p (n+2) d o=Á:=by
   cases q:eZ p (n+2) d o with
   |true=>rfl
   |false=>rw[EZ q] at b;lia
  rw[zo a] at b;rw[EC];by_cases h2:n=0
  .subst h2;delta eZ at a;rw[adF .a,adI rfl] at a;let:=aer a;delta Iy;rw[adF .a];show this
  .show EL (o:=o==ak (-1) (-d) p) .b .b .b
theorem Fy{p:Int}(hp:aN p=Á)(h2:p≠2):∀{n:Nat} {d:Int},¬p∣d->n<=2*tx p n d Â+2/\(n%2=1->2*tx p n d Â=n-1)/\(n%2=0->uf (Iy n d) p->2*tx p n d Â=n)
 |0,_,_=>#[.b,λh=>by lia,λ_ _=>rfl]
 |1,_,_=>#[by change 1<=2*0+2;decide,λ_=>rfl,λh=>by lia]
 |n+2,d,l=>by
  let p2:=au hp;let a:¬p∣-d:=λz=>l (ae0.mp z)
  let b:¬p∣(-1:Int):=λz=>by
   let:=Ę .a (ae0.mp z);lia
  let e:ak (-1) (-d) p=Á:=ff hp h2 b a;let i:ak (-1) (-1) p=Á:=ff hp h2 b b;let⟨m,j,g⟩:=Fy hp h2 (n:=n) a;by_cases f:n=0
  .subst f;cases q:eZ p 2 d Â with
   |true =>
    rw[zo q];show#[.b,λh=>by lia,λ_ _=>rfl]
   |false =>
    rw[EZ q];show#[.b,λh=>by lia,λ_ h=>?_];delta eZ at q;rw[adF .a,adI rfl] at q;let:=aeC q;show absurd h this
  .let k:eZ p (n+2) d Â=Á:=by
    delta eZ;rw[adF .b,adF .b,e,i];split
    .rfl
    .split
     .rw[ahw];show .inr rfl
     .rfl
   rw[zo k,e];change n+2<=2*(1+tx p n (-d) Â)+2/\_;show#[.b,λh=>?_,λh c=>?_]
   .let:=j .b;change 2*(1+tx p n (-d) Â)=n+2-1;lia
   .rw[EC] at c;let:=g .b c;change 2*(1+tx p n (-d) Â)=n+2;lia
def cf:.L->Int
 |[]=>1
 |a::r=>a*cf r
theorem gu:∀{l:.L},(∀a∈l,a≠0)->cf l≠0:=@zrL _ _ (@λ_=>by change .M≠0;decide) (@λa l gu h=>ë (h a (ġ ..)) (gu λx b=>h x (ę _ b)))
theorem EM:∀(l m:.L),cf (l++m)=cf l*cf m:=zrL (λm=>by change cf m=1*cf m;lia) λa l EM m=>by change a*cf (l++m)=a*cf l*cf m;rw[EM m,ĵ]
def uK(p:Int)(l:.L):Nat:=tx p (~~~l) (cf l) (!qv p l)
theorem BY{p a:Int}(hp:Pl p)(ha:a≠0):∀{l:.L},(∀x∈l,x≠0)->jm l (λb=>ak a b p)=ak a (cf l) p:=@zrL _ _ (@λ_=>by
  let:=qD (r:=1) hp ha .a;rw[Đ] at this;change Á=ak a 1 p;rw[this]) @λb l BY h=>by
  let d:=h b (ġ ..);let c:=λx e=>h x (ę b e);rw[bD,BY c];change _=ak a (b*cf l) p;rw[aS hp ha d (gu c)]
def dJ(hp:Pl p)(ha:a≠0)(h:∀x∈l,x≠0):qv p (a::l)=(ak a (cf l) p==qv p l):=by
 change(jm l (λb=>ak a b p)==qv p l)=_;rw[BY hp ha h]
def GF{t:Int}(hp:Pl p)(b:t≠0)(h:∀x∈l,x≠0):qv p (t::-t::l)=(ak (-1) (cf l) p==qv p l):=by
 let e:=gu h;let a:-t≠0:=.b
 let c:∀x∈-t::l,x≠0:=λx d=>by
  obtain rfl|d:=đ.mp d
  .show a
  .show h x d
 rw[dJ hp b c,dJ hp a h];change(ak t (-t*cf l) p==(ak (-t) (cf l) p==qv p l))=_;rw[aS hp b a e];let e1:ak t (-t) p=Á:=by let:=nZ hp b;rwa[(.b:0-t=-t)] at this
 let e2:ak (-t) (cf l) p=(ak (-1) (cf l) p==ak t (cf l) p):=by
  rw[(.b:-t=-1*t),eF hp .a b e]
 rw[e1,e2];cases ak t (cf l) p<;>cases ak (-1) (cf l) p<;>cases qv p l<;>rfl
def Jz{t:Int}(hp:aN p=Á)(f:t≠0)(h:∀x∈l,x≠0)(h1:1<= ~~~l):eZ p (~~~l+2) (cf (t::-t::l)) (!qv p (t::-t::l))=Á:=by
 let g:Pl p:=.inr hp;let n:=gu h;let e:cf (t::-t::l)=-cf l*t*t:=by change t*(-t*cf l)=_;grind
 let ec:cls (cf (t::-t::l)) p=cls (-cf l) p:=by rw[e];show i_ hp .b f
 rw[yo hp (by rw[e];show ë (ë .b f) f) .b ec,GF g f h];delta eZ;rw[adF .b,adF .b]
 match l,h,h1 with
 |[a],h,_ =>
  rw[adI (show [a].length+2=3 from rfl),aiq];change((!(ak (-1) (cf [a]) p==Á)) != ak (-1) (cf [a]) p)=Á;cases ak (-1) (cf [a]) p<;>rfl
 |[a,b],h,_ =>
  let ha:=h a .c;let i:=h b .c;rw[adF (by simp:¬[a,b].length+2=3),adI (show [a,b].length+2=4 from rfl)];by_cases d:uf (-cf [a,b]) p
  .rw[adZ d];let ep:cf [a,b]=a*b:=by change a*(b*1)=a*b;rw[Đ]
   rw[ep] at d ⊢
   let eq1:ak (-1) (a*b) p=ak (-1) (-1) p:=by
    let k:ak (-1) (-1*(a*b)) p=Á:=by
     rw[(.b:-1*(a*b)=-(a*b))];show mH hp .a d
    rw[aS g .a .a (ë ha i)] at k;cases m:ak (-1) (-1) p<;>cases j:ak (-1) (a*b) p<;>rw[m,j] at k<;>first|rfl|cases k
   let eq2:qv p [a,b]=Á:=by
    change(jm [b] (λc=>ak a c p)==qv p [b])=Á
    let k:ak a b p=Á:=by
     let k1:ak a (-(a*b)) p=Á:=mH hp ha d;rw[(by grind:-(a*b)=(0-a)*b),aS g ha .b i,nZ g ha] at k1;cases q:ak a b p
     .rw[q] at k1;cases k1
     .rfl
    rw[bD,k];rfl
   rw[eq1,eq2];cases ak (-1) (-1) p<;>rfl
  .rw[aec d];rfl
 |a::b::c::r,_,_ =>
  rw[adF .c,adF .c]
def OV{t:Int}(hp:aN p=Á)(a:t≠0)(h:∀x∈l,x≠0)(h1:1<= ~~~l):uK p (t::-t::l)=1+uK p l:=by
 let d:Pl p:=.inr hp;let b:=gu h;let c:=Jz hp a h h1;let e:-cf (t::-t::l)=cf l*t*t:=by change -(t*(-t*cf l))=_;grind
 let f:cf (t::-t::l)≠0:=λz=>by rw[z] at e;show ë (ë b a) a (by rw[<-e];rfl)
 delta uK;change tx p (~~~l+2) _ _=_;rw[zo c,e,wO hp (i_ hp b a),xC hp (ë (ë b a) a) b (i_ hp b a),GF d a h];congr 2;cases ak (-1) (cf l) p<;>cases qv p l<;>rfl
def Pg(hp:Pl p)(ha:a≠0)(f:b≠0)(e:c≠0):Ad a b c p=(qv p [a,b,c]==ak (-1) (-(a*b*c)) p):=by
 let d:(-1:Int)≠0:=.a
 let g:-1*a≠0:=.b
 let i:-1*b≠0:=.b
 let h:-1*b*c≠0:=ë i e;let ex:∀z:Int,z≠0->ak z (-1*b*c) p=((ak z (-1) p==ak z b p)==ak z c p):=λz hz=>by rw[aS hp hz i e,aS hp hz d f]
 let e1:Ad a b c p=((((ak (-1) (-1) p==ak (-1) b p)==ak (-1) c p)==((ak (-1) a p==ak a b p)==ak a c p))==((ak (-1) c p==ak b c p)==ak (-1) c p)):=by
  delta Ad;rw[(by grind:-a*c=-1*a*c),(by grind:-b*c=-1*b*c),eF hp g e h,eF hp d ha h,ex _ d,ex _ ha,ex _ e,ba hp d ha,ba hp d e,ba hp f e,gC hp e,ba hp d e]
 let e2:ak (-1) (-(a*b*c)) p=(((ak (-1) (-1) p==ak (-1) a p)==ak (-1) b p)==ak (-1) c p):=by
  rw[(by grind:-(a*b*c)=-1*a*b*c),aS hp d (ë g f) e,aS hp d g f,aS hp d d ha]
 let e3:qv p [a,b,c]=((ak a b p==(ak a c p==Á))==((ak b c p==Á)==(Á==Á))):=by
  change(jm [b,c] (λy=>ak a y p)==(jm [c] (λy=>ak b y p)==(jm [] (λy=>ak c y p)==Á)))=_;rw[bD,bD,bD,iG,iG,iG]
 rw[e1,e2,e3];generalize ak (-1) (-1) p=q;generalize ak (-1) a p=j;generalize ak (-1) b p=o;generalize ak (-1) c p=n;generalize ak a b p=l;generalize ak a c p=k;generalize ak b c p=m;revert q j o n l k m;decide
def Sh(hp:aN p=Á)(h:∀x∈l,x≠0)(h1:1<= ~~~l):eZ p (~~~l) (cf l) (!qv p l)=dk l p:=by
 let g:Pl p:=.inr hp;let p2:=au hp;let j:p≠0:=.b
 match l,h,h1 with
 |[a],_,_=>rw[Ag j];rfl
 |[a,b],_,_ =>
  rw[lD j];delta eZ;rw[adF (by simp:¬[a,b].length<2),adI (show [a,b].length=2 from rfl),(by change -(a*(b*1))=_;grind:-cf [a,b]=-a*b)]
 |[a,b,c],h,_ =>
  let ha:=h a .c;let i:=h b .c;let m:=h c .c;rw[gD j];delta eZ;rw[adF (by simp:¬[a,b,c].length<2),adF (by simp:¬[a,b,c].length=2),adI (show [a,b,c].length=3 from rfl)];let key:=Pg g ha i m;rw[key,(by change a*(b*(c*1))=_;grind:cf [a,b,c]=a*b*c)];cases qv p [a,b,c]<;>cases ak (-1) (-(a*b*c)) p<;>rfl
 |[a,b,c,d],h,_ =>
  let ha:=h a .c;let i:=h b .c;let m:=h c .c;let o:=h d .c;rw[qz j];delta eZ;rw[adF (by simp:¬[a,b,c,d].length<2),adF (by simp:¬[a,b,c,d].length=2),adF (by simp:¬[a,b,c,d].length=3),adI (show [a,b,c,d].length=4 from rfl),(by change a*(b*(c*(d*1)))=_;grind:cf [a,b,c,d]=a*b*c*d)];by_cases n:uf (a*b*c*d) p
  .rw[adZ n];let f:a*b*c≠0:=ë (ë ha i) m
   let k1:ak (a*b*c) d p=ak (a*b*c) (-1) p:=by
    let k:=mH hp f n;rw[aS g f f o,gC g f] at k;cases s:ak (a*b*c) (-1) p<;>cases q:ak (a*b*c) d p<;>rw[s,q] at k<;>first|rfl|cases k
   let k2:qv p [a,b,c,d]=(qv p [a,b,c]==ak (a*b*c) d p):=by
    let e:=Oa p [a,b,c] d
    let t:qv p [a,b,c,d]=(qv p [a,b,c]==(ak a d p==(ak b d p==(ak c d p==Á)))):=by
     rwa[bD,bD,bD,iG] at e
    rw[t,eF g (ë ha i) m o,eF g ha i o];cases ak a d p<;>cases ak b d p<;>cases ak c d p<;>rfl
   let k3:ak (-1) (-(a*b*c)) p=(ak (-1) (-1) p==ak (a*b*c) (-1) p):=by
    rw[(.b:-(a*b*c)=-1*(a*b*c)),aS g .a .a f,ba g f .a]
   rw[Pg g ha i m,k2,k1,k3];cases qv p [a,b,c]<;>cases ak (a*b*c) (-1) p<;>cases ak (-1) (-1) p<;>rfl
  .rw[aec n];rfl
 |a::b::c::d::e::r,_,_ =>
  rw[qg j .c];delta eZ;rw[adF .c,adF .c,adF .c,adF .c]
def Cp(h:l.Perm m):cf l=cf m:=by
 induction h with
 |nil=>rfl
 |cons a _ c=>show a*_=a*_;rw[c]
 |swap a b l=>show b*(a*cf l)=a*(b*cf l);grind
 |trans _ _ d e=>rw[d,e]
def Oy(hp:Pl p)(h:l.Perm m):(∀x∈l,x≠0)->qv p l=qv p m:=by
 induction h with
 |nil=>intro _;rfl
 |@cons a l m g o =>
  intro h;let d:=λx c=>h x (ę a c);let r:∀x∈m,x≠0:=λx c=>d x (g.mem_iff.mpr c);rw[dJ hp (h a (ġ ..)) d,dJ hp (h a (ġ ..)) r,o d,Cp g]
 |swap a b l =>
  intro h;let ha:=h a .c;let f:=h b .c;let d:∀x∈l,x≠0:=λx c=>h x (by simp[c]);let k:=gu d;let i:∀x∈a::l,x≠0:=λx c=>h x (by obtain e|e:=đ.mp c<;>simp[e]);let j:∀x∈b::l,x≠0:=λx c=>h x (by obtain e|e:=đ.mp c<;>simp[e]);rw[dJ hp f i,dJ hp ha j,dJ hp ha d,dJ hp f d];change(ak b (a*cf l) p==_)=(ak a (b*cf l) p==_);rw[aS hp f ha k,aS hp ha f k,ba hp ha f];cases ak a b p<;>cases ak a (cf l) p<;>cases ak b (cf l) p<;>cases qv p l<;>rfl
 |trans h1 _ q n=>intro h;rw[q h,n λx c=>h x (h1.mem_iff.mpr c)]
def M9{t:Int}(hp:Pl p)(ha:a≠0)(f:b≠0)(d:c≠0)(he:e≠0)(i:s≠0)(w:t≠0)(h:∀x∈l,x≠0)(e1:a*x*x+b*y*y=c*s*s)(e2:a*b*c=e*t*t):qv p (c::e::l)=qv p (a::b::l):=by
 let k:=gu h
 let r:∀x∈b::l,x≠0:=λx g=>by
  obtain rfl|g:=đ.mp g
  .show f
  .show h x g
 let m:∀x∈e::l,x≠0:=λx g=>by
  obtain rfl|g:=đ.mp g
  .show he
  .show h x g
 rw[dJ hp d m,dJ hp he h,dJ hp ha r,dJ hp f h];change(ak c (e*cf l) p==_)=(ak a (b*cf l) p==_);rw[aS hp d he k,aS hp ha f k]
 -- cross terms
 let k1:(ak c (cf l) p==ak e (cf l) p)=(ak a (cf l) p==ak b (cf l) p):=by
  rw[<-eF hp d he k,<-eF hp ha f k]
  let e3:c*e*t*t=a*b*c*c:=by
   let:c*e*t*t=c*(e*t*t):=by grind
   rw[this,<-e2];grind
  let j:=jq (b:=cf l) hp (ë d he) w;let o:=jq (b:=cf l) hp (ë ha f) d;rw[<-j,e3,o]
 let k2:ak c e p=ak a b p:=by
  let B:c*s*s≠0:=ë (ë d i) i;let z:=BC hp ha f B e1
  let j:ak (a*c) (b*c) p=Á:=by
   rwa[(by grind:a*(c*s*s)=a*c*s*s),(by grind:b*(c*s*s)=b*c*s*s),jq hp (ë ha d) i,eM hp (ë ha d) (ë f d) i] at z
  let o:ak c e p=ak c (a*b*c) p:=by rw[e2,eM hp d he w]
  rw[eF hp ha d (ë f d),aS hp ha f d,aS hp d f d,gC hp d] at j;rw[o,aS hp d (ë ha f) d,aS hp d ha f,gC hp d,ba hp ha d];generalize ak a c p=q at *;generalize ak c b p=n at *;generalize ak c (-1) p=v at *;generalize ak a b p=u at *;revert j;cases q<;>cases n<;>cases v<;>cases u<;>decide
 rw[k2];generalize ak c (cf l) p=q at *;generalize ak e (cf l) p=n at *;generalize ak a (cf l) p=v at *;generalize ak b (cf l) p=u at *;generalize ak a b p=A at *;generalize qv p l=C at *;revert k1;cases q<;>cases n<;>cases v<;>cases u<;>cases A<;>cases C<;>decide
def yy{D:Int}(l:D≠0)(h:∀p,aN p=Á->(p=2\/p∣D)->uf D p):∃s,D=s*s:=by
 let⟨f,s,b,m,e⟩:=qN _ D l (Ā _);let i:=b.1
 let ec:∀p,aN p=Á->cls D p=cls f p:=λp hp=>by
  rw[e,<-ĵ];show i_ hp i .b
 let key:∀p,aN p=Á->(p=2\/p∣D)->cls f p=(0,1):=λp hp a=>by rw[<-ec p hp];show h p hp a
 let d:∀p,aN p=Á->¬p∣f:=λp hp a=>by
  let p2:=au hp;let g:p∣D:=by rw[e];show İ a (ahf f _)
  let k:=key p hp (.inr g);by_cases h2:p=2
  .subst h2;obtain⟨x,_,_,c⟩|⟨x,_,c,_⟩|c:=vO i (Ϲ a)
   .rw[c] at k;cases k
   .show b.2 2 .a #[x,.b]
   .show b.2 2 .a (ű .b)
  .rw[(Gi hp h2 (by simpa [jo] using Ϲ a) (λz=>b.2 p p2 z)).1] at k;cases k
 let n:f.natAbs=1:=by
  apply ğ;intro o;let⟨q,j,a⟩:=fj (k:=(f.natAbs:Int)) .b;show d q j (aeV.mp a)
 let:f=1\/f=-1:=.b
 obtain rfl|rfl:=this
 .show#[s,.b]
 .let k:=key 2 bA (.inl rfl);rw[zZ bA] at k;show absurd k .a
theorem D8{p:Int}(hp:aN p=Á):∀(l:.L),p∣cf l->∃a∈l,p∣a:=zrL (λh=>by
  let:=Ę .a (show p∣1 from h);let:=au hp;lia) λa l D8 h=>by
  obtain z|z:=euclid hp (show p∣a*cf l from h)
  .show#[a,.c,z]
  .let⟨b,c,d⟩:=D8 z;show#[b,by simp[c],d]
def Md{W:Nat}(h1:2*W<=n)(h2:2*W≠n)(a:n%2=0):2*W+2<=n:=.b
def Cf(d:aN q=Á)(h2:q≠2)(o:∀x∈l,x≠0)(h1:1<= ~~~l)(k:∀x∈l,¬q∣x):∃p,aN p=Á/\(p=2\/∃a∈l,p∣a)/\uK p l<=uK q l:=by
 let y:¬q∣cf l:=λz=>by
  let⟨a,ha,u⟩:=D8 d l z;show k a ha u
 let A:qv q l=Á:=AG d h2 k;let⟨D,t,r⟩:=Fy d h2 (n:= ~~~l) y;let C:uK q l=tx q (~~~l) (cf l) Â:=by delta uK;rw[A];rfl
 rw[C];let b2:2*uK 2 l<= ~~~l:=F5;by_cases m: ~~~l%2=1
 .show#[2,bA,.inl rfl,by let:=t m;lia]
 .by_cases j:uf (Iy (~~~l) (cf l)) q
  .show#[2,bA,.inl rfl,by let:=r .b j;lia]
  .let E:=gu o;let i:Iy (~~~l) (cf l)≠0:=by delta Iy;split<;>lia
   let B:¬∀p,aN p=Á->(p=2\/p∣Iy (~~~l) (cf l))->uf (Iy (~~~l) (cf l)) p:=λh=>by
    let⟨s,e⟩:=yy i h;apply j;rw[e];show D4 d (λz=>by rw[e,z] at i;show i rfl)
   let #[p,hp]:=ahD.mp B;let #[c,hp]:=agI.mp hp;let #[f,g]:=agI.mp hp;show#[p,c,?_,?_]
   .obtain e|e:=f
    .show .inl e
    .right
     let v:p∣cf l:=by
      delta Iy at e;split at e
      .show ae0.mp e
      .show e
     show D8 c l v
   .let b:2*uK p l<= ~~~l:=F5;let w:2*uK p l≠~~~l:=λz=>g (EL .b .b z);let:=Md b w .b;lia
def pS(l:.L):Nat:= ~~~(l.filter λk=>decide (0<k))
def uD(p:Int)(l:.L):Nat:=if p=0 then min (pS l) (~~~l-pS l) else uK p l
def HM(l:.L)(m:Nat):Prop:=(∀p,Pl p->m<=uD p l)/\∃p,Pl p/\uD p l=m
def HM.uniq{a b:Nat}(h:∀p,Pl p->uD p l=uD p m)(h1:HM l a)(h2:HM m b):a=b:=by
 let⟨p,hp,e⟩:=h1.2;let⟨q,c,d⟩:=h2.2;let k1:=h2.1 p hp;let k2:=h1.1 q c;rw[<-h p hp,e] at k1;rw[h q c,d] at k2;lia
def C3(l:.L):pS l<= ~~~l:=age _ _
def Vp{m:Nat}(i:∀x∈l,x≠0)(h1:1<= ~~~l)(h:m<=uD 0 l)(ap:∀p,aN p=Á->(p=2\/∃a∈l,p∣a)->m<=uK p l)(ex:m=uD 0 l\/∃p,aN p=Á/\m=uK p l):HM l m:=by
 let ne:∀p,aN p=Á->uD p l=uK p l:=λp hp=>by
  let:=au hp;delta uD;rw[adF .b]
 show#[λp hp=>?_,?_]
 .obtain rfl|hp:=hp
  .show h
  .rw[ne p hp];by_cases b:p=2\/∃a∈l,p∣a
   .show ap p hp b
   .let⟨q,f,c,d⟩:=Cf hp (λz=>b (.inl z)) i h1 λx g z=>b (.inr #[x,g,z]);show Ń (ap q f c) d
 .obtain e|⟨p,hp,e⟩:=ex
  .show#[0,.inl rfl,e.symm]
  .show#[p,.inr hp,by rw[ne p hp];show e.symm]
def Bc{t:Int}(hp:Pl p)(a:t≠0)(h:∀x∈l,x≠0)(h1:1<= ~~~l):uD p (t::-t::l)=1+uD p l:=by
 delta uD;split
 .let:=C3 l
  let e:pS (t::-t::l)=1+pS l:=by
   unfold pS;by_cases z:0<t
   .rw[Ϸ ↑z,ϸ (by simp;lia),Œ];lia
   .rw[ϸ ↑z,Ϸ (by simp;lia),Œ];lia
  rw[e,Œ,Œ];lia
 .rename_i b;show OV (hp.resolve_left b) a h h1
def Ov(hp:aN p=Á)(h:∀x∈l,x≠0)(h1:1<= ~~~l):uK p l=0↔dk l p=Â:=by
 rw[<-Sh hp h h1];delta uK;constructor
 .intro z;cases q:eZ p (~~~l) (cf l) (!qv p l) with
  |false=>rfl
  |true =>
   exfalso
   let h2:2<= ~~~l:=by
    apply ğ;intro a;delta eZ at q;rw[adI .b] at q;cases q
   obtain⟨n,a⟩:∃n,~~~l=n+2:=#[~~~l-2,.b];rw[a] at q z;rw[zo q] at z;lia
 .show EZ
def wu(hp:Pl p)(h:∀x∈l,x≠0)(h1:1<= ~~~l):uD p l=0↔dk l p=Â:=by
 delta uD;split
 .rename_i e;subst e
  let key:dk l 0=Á↔0<pS l/\pS l<~~~l:=by
   rw[dP];unfold pS;constructor
   .rintro⟨⟨x,a,m⟩,⟨y,d,g⟩⟩;show#[aip (aeJ.mpr #[d,↑g]),?_];apply ğ;intro f;let e:=ahp.mp (Nat.le_antisymm (age (λk=>decide (0<k)) l) .b);let:=e x a;let:0<x:=by simpa using this
    lia
   .rintro⟨i,n⟩;show#[?_,?_]
    .apply ğ;intro f
     let: ~~~(l.filter λk=>decide (0<k))= ~~~l:=ahp.mpr λx a=>by
      let:=h x a;let:¬x<0:=λz=>f #[x,a,z];simp;lia
     lia
    .let⟨y,d⟩:=List.exists_mem_of_length_pos i;let⟨b,c⟩:=aeJ.mp d;show#[y,b,↑c]
  let:=C3 l;cases q:dk l 0 with
  |true =>
   let:=key.mp q;constructor
   .intro z;lia
   .intro z;cases z
  |false =>
   let f:¬(0<pS l/\pS l<~~~l):=λz=>by rw[key.mpr z] at q;cases q
   constructor
   .intro _;rfl
   .intro _;lia
 .rename_i j;show Ov (hp.resolve_left j) h h1
theorem xb:∀(l:.L) (i:Nat),i<~~~l->∃r,l.Perm (l.getD i 0::r)/\∀u,(l.set i u).Perm (u::r)
 |[],_,h=>by cases h
 |x::l,0,_=>#[l,ait _,λu=>ait _]
 |x::l,i+1,h=>by
  let⟨r,h1,h2⟩:=xb l i ↑h;show#[x::r,?_,λu=>?_]
  .let e:(x::l).getD (i+1) 0=l.getD i 0:=by simp
   rw[e];show(h1.cons x).trans (ô ..)
  .change(x::l.set i u).Perm _;show((h2 u).cons x).trans (ô ..)
theorem BR:∀(l:.L) (i j:Nat),i≠j->i<~~~l->j<~~~l->∃r,l.Perm (l.getD i 0::l.getD j 0::r)/\∀u v,((l.set j v).set i u).Perm (u::v::r)
 |[],_,_,_,h,_=>by cases h
 |x::l,0,0,h,_,_=>absurd rfl h
 |x::l,0,j+1,_,_,h=>by
  let⟨r,h1,h2⟩:=xb l j ↑h;show#[r,?_,λu v=>?_]
  .let e:(x::l).getD (j+1) 0=l.getD j 0:=by simp
   rw[e];show h1.cons x
  .change(u::l.set j v).Perm _;show(h2 v).cons u
 |x::l,i+1,0,_,h,_=>by
  let⟨r,h1,h2⟩:=xb l i ↑h;show#[r,?_,λu v=>?_]
  .let e:(x::l).getD (i+1) 0=l.getD i 0:=by simp
   rw[e];show(h1.cons x).trans (ô ..)
  .change(v::l.set i u).Perm _;show((h2 u).cons v).trans (ô ..)
 |x::l,i+1,j+1,b,hi,a=>by
  let⟨r,h1,h2⟩:=BR l i j .b ↑hi ↑a;show#[x::r,?_,λu v=>?_]
  .let e1:(x::l).getD (i+1) 0=l.getD i 0:=by simp
   let e2:(x::l).getD (j+1) 0=l.getD j 0:=by simp
   rw[e1,e2];show(h1.cons x).trans ((ô ..).trans ((ô ..).cons _))
  .change(x::(l.set j v).set i u).Perm _;show((h2 u v).cons x).trans ((ô ..).trans ((ô ..).cons _))
def MD(a:s≠0):(0<c*s*s↔0<c)/\(c*s*s<0↔c<0):=by
 let p:0<s*s:=by
  obtain z|z:=Ε a
  .show aeP z z
  .show Ħ z z
 rw[ĵ];show#[#[λz=>Int.pos_of_mul_pos_left z p,λz=>Ħ z p],λz=>?_,λz=>aeQ z p];apply ğ;intro b;let:=Ϝ (.b:0<=c) (.b:0<=s*s);lia
def P4(x:Int):0<=x*x:=by
 obtain z|z:=ahy 0 x
 .show Ϝ z z
 .show afB z z
def IA{t:Int}(ha:a≠0)(o:b≠0)(j:c≠0)(he:e≠0)(f:s≠0)(n:t≠0)(e1:a*x*x+b*y*y=c*s*s)(e2:a*b*c=e*t*t):
  ((0<a/\0<b)->(0<c/\0<e))/\((a<0/\b<0)->(c<0/\e<0))/\((0<a/\b<0)\/(a<0/\0<b)->(0<c/\e<0)\/(c<0/\0<e)):=by
 let⟨c1,c2⟩:=MD (c:=c) f;let⟨i,g⟩:=MD (c:=e) n;let d:c*s*s≠0:=ë (ë j f) f;let m:=P4 x;let k:=P4 y;rw[<-e1] at c1 c2 d;rw[<-e2] at i g;rw[ĵ a x x,ĵ b y y] at c1 c2 d;show#[fun⟨p,q⟩=>?_,fun⟨p,q⟩=>?_,λh=>?_]
 .let k1:=Ϝ (.b:0<=a) m;let k2:=Ϝ (.b:0<=b) k;let l:0<c:=c1.mp .b;show#[l,i.mp (Ħ (Ħ p q) l)]
 .let k1:=aeT (.b:a<=0) m;let k2:=aeT (.b:b<=0) k;let cn:c<0:=c2.mp .b;show#[cn,g.mp (afP (aeP p q) cn)]
 .let ab:a*b<0:=by
   obtain⟨p,q⟩|⟨p,q⟩:=h
   .show afP p q
   .show aeQ p q
  obtain z|z:=Ε j
  .show .inr #[z,i.mp (aeP ab z)]
  .show .inl #[z,g.mp (aeQ ab z)]
def gX(a:Int)(l:.L):pS (a::l)=(if 0<a then 1 else 0)+pS l:=by
 unfold pS;by_cases z:0<a
 .rw[Ϸ ↑z,Œ,adI z];lia
 .rw[ϸ ↑z,adF z];lia
noncomputable def bN:Nat->.L
 |0=>[1,-1]
 |i+1=>bN i++(bN i).map λk=>k*Q6.getD i 1
def N3:∀i,i<=6->~~~(bN i)<=128:=by decide +kernel
def yE: ~~~(bN 6)=128/\∀k∈bN 6,k≠0/\-30030<=k/\k<=30030/\30030%k=0:=by decide +kernel
def RE:∀s∈[.M,-1],∀a∈bits,NY s a∈bN 6:=by decide +kernel
def Ru:∀i,i<=6->∀k∈bN i,-30030<=k/\k<=30030:=by decide +kernel
noncomputable def P7:.L:=[0,2,3,5,7,11,13]
def fk(k p:Int):Int⊕(Int×Int):=if p=0 then .inl (if 0<k then 1 else -1) else .inr (cls k p)
noncomputable def uG(a b:Int⊕(Int×Int))(p:Int):Int⊕(Int×Int):=match a,b with
 |.inl x,.inl y=>.inl (x*y)
 |.inr u,.inr v=>.inr (cj u v p)
 |_,_=>.inl 0
def iW:∀p∈Q6,aN p=Á:=λp hp=>by
 let⟨j,b,e⟩:=ago.mp hp;let a:j<6:=b;let:=mM j a;rwa[ĩ,į b,e] at this
def fU(h:p∈P7):p=0\/(p≠0/\aN p=Á/\p∈Q6):=by
 let:p=0\/p∈Q6:=đ.mp h;obtain z|z:=this
 .show .inl z
 .let q:=iW p z;let:=au q;show .inr #[.b,q,z]
def iE(hp:p∈P7)(ha:a≠0)(d:b≠0):uG (fk a p) (fk b p) p=fk (a*b) p:=by
 obtain rfl|⟨c,pp,_⟩:=fU hp
 .unfold fk uG;rw[adI rfl,adI rfl,adI rfl];change Ď _=Ď _;congr 1;obtain x|x:=Ε ha<;>obtain y|y:=Ε d
  .rw[adF .b,adF .b,adI (aeP x y)];rfl
  .rw[adF .b,adI y,adF (by let:=aeQ x y;lia)];rfl
  .rw[adI x,adF .b,adF (by let:=afP x y;lia)];rfl
  .rw[adI x,adI y,adI (Ħ x y)];rfl
 .unfold fk uG;rw[adF c,adF c,adF c];change ö _=ö _;rw[bx pp ha d]
def DZ(hp:p∈P7)(ha:a≠0)(b:r≠0):fk (a*r*r) p=fk a p:=by
 obtain rfl|⟨c,pp,_⟩:=fU hp
 .unfold fk;rw[adI rfl,adI rfl];congr 1
  let q:0<r*r:=by
   obtain z|z:=Ε b
   .show aeP z z
   .show Ħ z z
  rw[ĵ];by_cases z:0<a
  .rw[adI z,adI (Ħ z q)]
  .rw[adF z,adF (by let:=aeQ (.b:a<0) q;lia)]
 .unfold fk;rw[adF c,adF c,i_ pp ha b]
def BG{n:Int}(hp:p∈P7)(a:f≠0)(c:k≠0)(b:n≠0):fk k p=uG (fk f p) (fk n p) p↔fk (k*f) p=fk n p:=by
 rw[iE hp a b];constructor
 .intro h;rw[<-iE hp c a,h,iE hp (ë a b) a,(by grind:f*n*f=n*f*f),DZ hp b a]
 .intro h;rw[<-iE hp a b,<-h,iE hp a (ë c a),(by grind:f*(k*f)=k*f*f),DZ hp c a]
def kU{n:Int}(hp:aN p=Á)(b:n≠0):((cls n p).1=0\/(cls n p).1=1)/\(p=2->(cls n p).2∈[.M,3,5,7])/\(p≠2->(cls n p).2=1\/(cls n p).2=-1):=by
 let t:=fM (au hp) b;let a:¬p∣(a7 n p).2:=t.2.2;show#[?_,λh2=>?_,λh2=>?_]
 .change(a7 n p).1%2=0\/(a7 n p).1%2=1;lia
 .change(if p=2 then (a7 n p).2%8 else bO (a7 n p).2 p)∈_;rw[adI h2];rw[h2] at a;let:(a7 n 2).2%8=1\/(a7 n 2).2%8=3\/(a7 n 2).2%8=5\/(a7 n 2).2%8=7:=.b
  rw[h2];simp only[đ,Ĕ,aej];show this
 .change(if p=2 then (a7 n p).2%8 else bO (a7 n p).2 p)=1\/(if p=2 then (a7 n p).2%8 else bO (a7 n p).2 p)=-1;rw[adF h2];show cG a
def JL{ns:.L}(B: ~~~ns=7)(D:∀n∈ns,n≠0):∃k q,k∈bN 6/\aN q=Á/\17<=q/\q<=8089/\∀j,j<7->fk (k*q) (P7.getD j 0)=fk (ns.getD j 1) (P7.getD j 0):=by
 obtain⟨u,l,t,i,r,o,s,rfl⟩:∃a b c d e f g,ns=[a,b,c,d,e,f,g]:=by
  match ns,B with
  |[a,b,c,d,e,f,g],_=>show#[a,b,c,d,e,f,g,rfl]
 let m:∀n,n∈[u,l,t,i,r,o,s]->n≠0:=D
 let h:GW (if 0<u then 1 else -1) [cls l 2,cls t 3,cls i 5,cls r 7,cls o 11,cls s 13]:=by
  let c1:=kU (n:=l) (p:=2) (iW 2 .a) (m _ .c);let c2:=kU (n:=t) (p:=3) (iW 3 .a) (m _ .c);let c3:=kU (n:=i) (p:=5) (iW 5 .a) (m _ .c);let c4:=kU (n:=r) (p:=7) (iW 7 .a) (m _ .c);let w:=kU (n:=o) (p:=11) (iW 11 .a) (m _ .c);let v:=kU (n:=s) (p:=13) (iW 13 .a) (m _ .c);show#[by split<;>simp,rfl,λj x=>?_,c1.2.1 rfl,λj h1 x=>?_]
  .let:j=0\/j=1\/j=2\/j=3\/j=4\/j=5:=.b
   obtain rfl|rfl|rfl|rfl|rfl|rfl:=this
   .show c1.1
   .show c2.1
   .show c3.1
   .show c4.1
   .show w.1
   .show v.1
  .let:j=1\/j=2\/j=3\/j=4\/j=5:=.b
   obtain rfl|rfl|rfl|rfl|rfl:=this
   .show c2.2.2 .a
   .show c3.2.2 .a
   .show c4.2.2 .a
   .show w.2.2 .a
   .show v.2.2 .a
 let⟨q,A,y,E,C⟩:=W5 h;let ha:=(FV (k:=c_ _ _*q) h.len).mp C;show#[c_ (if 0<u then 1 else -1) [cls l 2,cls t 3,cls i 5,cls r 7,cls o 11,cls s 13],q,?_,A,y,E,λj x=>?_]
 .rw[Mf h.len];show RE _ (by obtain z|z:=h.sg<;>rw[z]<;>simp) _ h.bits
 .let:j=0\/j=1\/j=2\/j=3\/j=4\/j=5\/j=6:=.b
  obtain rfl|rfl|rfl|rfl|rfl|rfl|rfl:=this
  .show congrArg Ď ha.1
  .show congrArg ö (ha.2 0 .a)
  .show congrArg ö (ha.2 1 .a)
  .show congrArg ö (ha.2 2 .a)
  .show congrArg ö (ha.2 3 .a)
  .show congrArg ö (ha.2 4 .a)
  .show congrArg ö (ha.2 5 .a)
def jn(a b:Int):Int:=a.fdiv ((È a b:Nat):Int)*b.fdiv ((È a b:Nat):Int)
def J1(ha:a≠0):∃g u v,0<g/\a=g*u/\b=g*v/\jn a b=u*v/\È u v=1:=by
 let⟨u,c⟩:=Ϻ a b;let⟨v,d⟩:=ϻ a b;let e:((È a b:Nat):Int)≠0:=λz=>ha (by rw[c,z,ahA])
 let k:a.fdiv ((È a b:Nat):Int)=u:=by
  let:=aeL u e;rwa[<-c] at this
 let ev:b.fdiv ((È a b:Nat):Int)=v:=by
  let:=aeL v e;rwa[<-d] at this
 let j:u≠0:=λz=>ha (by rw[c,z,Ū]);show#[((È a b:Nat):Int),u,v,.b,c,d,by delta jn;rw[k,ev],vN (λq h ⟨s,f⟩ ⟨t,i⟩=>?_) j];let h1:((È a b:Nat):Int)*q∣a:=#[s,by rwa[ĵ,<-f]];let h2:((È a b:Nat):Int)*q∣b:=#[t,by rwa[ĵ,<-i]];let l:=ahC h1 h2;let m:=Ę .b l;let:=au h;let:=Ł (.b:.O<=q) (.b:.N<=((È a b:Nat):Int));lia
def Uj(ha:a≠0):∃g u,0<g/\a=g*u/\a*b=jn a b*(g*g):=by
 let⟨g,u,v,c,e1,e2,e3,_⟩:=J1 (b:=b) ha;show#[g,u,c,e1,?_];rw[e3,e1,e2];grind
def IP{m:Int}(ha:a≠0)(h1:a∣m)(h2:b∣m):jn a b∣m:=by
 let⟨g,u,v,f,e1,e2,e3,e4⟩:=J1 (b:=b) ha;rw[e3];let d:u∣m:=İ #[g,by rw[e1,ī]] h1;let e:v∣m:=İ #[g,by rw[e2,ī]] h2;let c:τ u.natAbs v.natAbs:=e4;let:=Nat.Coprime.mul_dvd_of_dvd_of_dvd c (aet.mpr d) (aet.mpr e);rw[<-ń] at this;show aet.mp this
def X5:∀d∈Ö 174,2<=d->30030%(d*d)≠0:=by decide +kernel
def SG:dm 30030:=#[.a,λd c z=>by
 let h1:=Ę .a z
 let b:d<174:=by
  apply ğ;intro e;let:=Ű (.b:(174:Int)<=d) (.b:(174:Int)<=d) .a .b;lia
 let⟨n,rfl⟩:=Int.eq_ofNat_of_zero_le (.b:0<=d);let:=X5 n (aeY.mpr .b) .b
 let a:n*n∣30030:=by
  let:=aet.mpr z;rwa[ń] at this
 show this (ahi a)]
def lE(h:k∈bN 6):k∣30030:=ű (yE.2 k h).2.2.2
def eG(h:k∈bN 6):dm k:=vv SG (lE h)
def V2(a:aN q=Á)(h:q∣30030):q∈Q6:=by
 let e:(30030:Int)=2*(3*(5*(7*(11*13)))):=.a
 rw[e] at h;let m:∀{p:Int},p∈Q6->q∣p->q∈Q6:=λ{p} hp b=>by rwa[a9 a (iW p hp) b]
 obtain z|h:=euclid a h
 .show m .a z
 obtain z|h:=euclid a h
 .show m .a z
 obtain z|h:=euclid a h
 .show m .a z
 obtain z|h:=euclid a h
 .show m .a z
 obtain z|h:=euclid a h
 .show m .a z
 .show m .a h
def pA(h:k∈bN 6)(a:aN q=Á)(b:q∣k):q∈Q6:=V2 a (İ b (lE h))
def Gx:∀k∈bN 6,-k∈bN 6/\(k.natAbs:Int)∈bN 6/\jn k 1=k/\jn k (-1)=-k:=by decide +kernel
def yW(h:k∈bN 6):uO Q6 k:=#[(yE.2 k h).1,λ_ a b=>pA h a b]
def M0(k p:Int):Bool:=if p=0 then decide (0<k) else decide (cls k p=(0,1))
def ko(p:Int):.L:=if p=0 then [1,-1] else if p=2 then [1,3,5,7,2,6,10,14] else [1,p6 p,p,p*p6 p]
def yM(hp:p∈P7):∀k∈ko p,k≠0:=λk a=>by
 delta ko at a;split at a
 .simp only[đ,Ĕ,aej] at a;lia
 .rename_i b;split at a
  .simp only[đ,Ĕ,aej] at a;lia
  .rename_i h2;let⟨_,pp,_⟩:=(fU hp).resolve_left b;let n:=(vH (wH pp h2)).1;simp only[đ,Ĕ,aej] at a;obtain rfl|rfl|rfl|rfl:=a
   .decide
   .lia
   .show b
   .show ë b .b
def Mx(p:Int): ~~~(ko p)<=8:=by delta ko;split;decide;split<;>simp
def wq(h:fk a p=fk k p):ak a c p=ak k c p:=by
 unfold fk at h;by_cases b:p=0
 .subst b;rw[adI rfl,adI rfl] at h;let e:=Α h;rw[aP,aP];congr 1;by_cases x:0<a<;>by_cases y:0<k<;>simp[x,y] at e ⊢
 .rw[adF b,adF b] at h;let e:=ahg h;delta ak;rw[adF b,adF b,e]
def cZ(h:k∈bN 6):k≠0:=(yE.2 k h).1
def kZ(h:k∈bN 6):k.natAbs<=30030:=by let:=yE.2 k h;lia
def WQ:∀a∈Ö 174,∀b∈Ö 174,30030%(174*a+b)=0->((174*a+b:Nat):Int)∈bN 6:=by decide +kernel
def Fv{n:Int}(h:n∣30030):n∈bN 6:=by
 let h1:n.natAbs∣30030:=aet.mpr h;let h2:=agU .a h1
 let key:(n.natAbs:Int)∈bN 6:=by
  let e:n.natAbs=174*(n.natAbs/174)+n.natAbs%174:=.b
  let:=WQ (n.natAbs/174) (aeY.mpr .b) (n.natAbs%174) (aeY.mpr .b);rw[<-e] at this;show this (ahi h1)
 obtain e|e:=aiE n
 .rw[e];show key
 .rw[e];show(Gx _ key).1
def Lj(ha:a∈bN 6)(c:b∈bN 6):jn a b∈bN 6:=Fv (IP (cZ ha) (lE ha) (lE c))
def BW{n:Int}(hp:Pl p)(b:x≠0)(h:M0 n p=Á):ak x n p=Á:=by
 delta M0 at h;by_cases a:p=0
 .subst a;rw[adI rfl] at h;rw[aP,h,aib]
 .rw[adF a] at h;show mH (hp.resolve_left a) b (aer h)
def Sf:∀cn∈C2,∀a∈C2,∀c1 c2:Bool,(c1=Â->cn≠(0,1))->(c2=Â->a≠(0,1))->(cn=a->c1=c2)->∃s∈[(.N,.M),(0,3),(0,5),(0,7),(1,1),(1,3),(1,5),(1,7)],iK s cn=c1/\iK s a=c2:=.a
def RZ:∀cn∈CO,∀a∈CO,∀m∈[.M,-1],∀c1 c2:Bool,(c1=Â->cn≠(0,1))->(c2=Â->a≠(0,1))->(cn=a->c1=c2)->∃s∈[(.N,.M),(0,-1),(1,1),(1,-1)],oQ s cn m=c1/\oQ s a m=c2:=.a
def NG{n m:Int}(hp:p∈P7)(B:n≠0)(w:m≠0)(c1 c2:Bool)(h1:c1=Â->M0 n p=Â)(h2:c2=Â->M0 m p=Â)(t:fk n p=fk m p->c1=c2):∃k∈ko p,ak k n p=c1/\ak k m p=c2:=by
 by_cases c:p=0
 .subst c;let f:∀x:Int,fk x 0=.inl (if 0<x then 1 else -1):=λx=>by unfold fk;rw[adI rfl]
  let sq:∀x:Int,M0 x 0=Â->¬0<x:=λx h=>by
   delta M0 at h;rw[adI rfl] at h;show aeC h
  let sn:∀x:Int,ak (-1) x 0=decide (0<x):=λx=>by rw[aP];rfl
  let eq:¬0<n->¬0<m->c1=c2:=λa b=>t (by rw[f,f,adF a,adF b]);by_cases l:c1=Á/\c2=Á
  .show#[1,by delta ko;simp,?_];rw[aP,aP,l.1,l.2];show#[rfl,rfl]
  .show#[-1,by delta ko;simp,?_];rw[sn,sn];cases c1 with
   |false =>
    let a:=sq n (h1 rfl);cases c2 with
    |false=>show#[aec a,aec (sq m (h2 rfl))]
    |true=>show#[aec a,adZ (ğ λz=>by let:=eq a z;cases this)]
   |true =>
    cases c2 with
    |true=>show absurd #[rfl,rfl] l
    |false =>
     let a:=sq m (h2 rfl);show#[adZ (ğ λz=>by let:=eq z a;cases this),aec a]
 let⟨_,pp,_⟩:=(fU hp).resolve_left c;let p2:=au pp
 let sq:∀x:Int,M0 x p=Â->cls x p≠(0,1):=λx h=>by
  delta M0 at h;rw[adF c] at h;show aeC h
 let f:cls n p=cls m p->fk n p=fk m p:=λe=>by unfold fk;rw[adF c,adF c,e]
 by_cases e2:p=2
 .subst e2;let⟨s,d,q,j⟩:=Sf _ (df B) _ (df w) c1 c2 (λh=>sq _ (h1 h)) (λh=>sq _ (h2 h)) (λe=>t (f e));let key:∀k:Int,k∈ko 2->cls k 2=s->∃k∈ko 2,ak k n 2=c1/\ak k m 2=c2:=λk i ek=>#[k,i,by rwa[bq,ek],by rwa[bq,ek]];let sm:ko 2=[1,3,5,7,2,6,10,14]:=by delta ko;rw[adF .a,adI rfl]
  rw[sm] at key ⊢;let od:∀x:Int,¬.O∣x->cls x 2=(0,x%8):=λx h=>by rw[cy .a h];rfl
  let ev:∀x:Int,x≠0->¬.O∣x->cls (2*x) 2=(1,x%8):=λx C h=>by
   let:=iE (p:=2) (a:=2) (b:=x) .a .a C;unfold fk at this;rw[adF .a,adF .a,adF .a,Jb,od x h] at this;let e:=ahg this.symm;rw[e];change((1+0)%2,_)=_;rw[(.a:(.M+0)%2=1)];let:(1*(x%8))%8=x%8:=.b
   show congrArg (Prod.mk .M) this
  simp only[đ,Ĕ,aej] at d;obtain rfl|rfl|rfl|rfl|rfl|rfl|rfl|rfl:=d
  .show key 1 .c (od 1 .a)
  .show key 3 .c (od 3 .a)
  .show key 5 .c (od 5 .a)
  .show key 7 .c (od 7 .a)
  .show key 2 .c (ev 1 .a .a)
  .show key 6 .c (ev 3 .a .a)
  .show key 10 .c (ev 5 .a .a)
  .show key 14 .c (ev 7 .a .a)
 .let⟨s,d,q,j⟩:=RZ _ (dj p2 e2 B) _ (dj p2 e2 w) _ (vz p2) c1 c2 (λh=>sq _ (h1 h)) (λh=>sq _ (h2 h)) (λe=>t (f e));let key:∀k:Int,k∈ko p->cls k p=s->∃k∈ko p,ak k n p=c1/\ak k m p=c2:=λk i ek=>#[k,i,by rwa[bB c e2,ek],by rwa[bB c e2,ek]];let sm:ko p=[1,p6 p,p,p*p6 p]:=by delta ko;rw[adF c,adF e2]
  rw[sm] at key ⊢;let⟨E,u,_⟩:=vH (wH pp e2)
  let D:¬p∣p6 p:=λz=>by
   rw[eN z] at u;cases u
  let cn:cls (p6 p) p=(0,-1):=by rw[cy p2 D,adF e2,u]
  let g:¬p∣1:=λz=>by let:=Ę .a z;lia
  let y:bO 1 p=1:=lr pp e2 #[0,.b];let o:cls 1 p=(0,1):=by rw[cy p2 g,adF e2,y]
  let A:cls p p=(1,1):=by
   let:=oK (v:=1) p2 g;rw[Ī,ŀ,Ś,Ś] at this;delta cls;rw[this,adF e2];dsimp only;rw[y];rfl
  let r:cls (p*p6 p) p=(1,-1):=by
   let:=iE (p:=p) (a:=p) (b:=p6 p) hp c .b;unfold fk at this;rw[adF c,adF c,adF c,A,cn] at this;let e:=ahg this.symm;rw[e];change((1+0)%2,_)=_;rw[adF e2];rfl
  simp only[đ,Ĕ,aej] at d;obtain rfl|rfl|rfl|rfl:=d
  .show key 1 .c o
  .show key (p6 p) .c cn
  .show key p .c A
  .show key (p*p6 p) .c r
def Up(pp:aN p=Á):cls 1 p=(0,1):=by
 let p2:=au pp;let a:¬p∣1:=λz=>by let:=Ę .a z;lia
 rw[cy p2 a];by_cases e2:p=2
 .rw[adI e2];rfl
 .rw[adF e2,lr pp e2 #[0,.b]]
def pK(h:Pl p)(ha:a≠0)(d:b≠0)(c:k≠0):ak (a*k) (b*k) p=(ak k (-1*(a*b)) p==ak a b p):=by
 let e:=ë ha d;rw[eF h ha c (ë d c),aS h ha d c,aS h c d c,gC h c,aS h c .a e,aS h c ha d,ba h c ha];cases ak a b p<;>cases ak k a p<;>cases ak k b p<;>cases ak k (-1) p<;>rfl
def DT(h:Pl p)(ha:a≠0)(c:b≠0):ak a (-1*(a*b)) p=ak a b p:=by
 rw[aS h ha .a (ë ha c),aS h ha ha c,gC h ha];cases ak a b p<;>cases ak a (-1) p<;>rfl
def Ic(hp:p∈P7)(ha:a≠0)(l:b≠0)(v:c≠0)(A:d≠0)(h:dk [a,b,c,d] p=Á):∃k∈ko p,dk [a,b,-k] p=Á/\dk [c,d,k] p=Á:=by
 by_cases i:p=0
 .subst i;let sm:ko 0=[1,-1]:=by delta ko;rw[adI rfl]
  rw[sm];rw[dP] at h
  let key:∀k:Int,k∈[.M,-1]->((a<0\/b<0\/0<k)/\(0<a\/0<b\/k<0))->((c<0\/d<0\/k<0)/\(0<c\/0<d\/0<k))->∃k∈[.M,-1],dk [a,b,-k] 0=Á/\dk [c,d,k] 0=Á:=λk m e1 e2=>by
   show#[k,m,?_,?_]
   .rw[dP];constructor
    .obtain z|z|z:=e1.1
     .show#[a,.c,z]
     .show#[b,.c,z]
     .show#[-k,.c,.b]
    .obtain z|z|z:=e1.2
     .show#[a,.c,z]
     .show#[b,.c,z]
     .show#[-k,.c,.b]
   .rw[dP];constructor
    .obtain z|z|z:=e2.1
     .show#[c,.c,z]
     .show#[d,.c,z]
     .show#[k,.c,z]
    .obtain z|z|z:=e2.2
     .show#[c,.c,z]
     .show#[d,.c,z]
     .show#[k,.c,z]
  let⟨⟨x,o,B⟩,⟨y,r,w⟩⟩:=h;simp only[đ,Ĕ,aej] at o r;by_cases q:0<a/\0<b\/((a<0/\0<b\/0<a/\b<0)/\c<0)
  .show key 1 .c #[.b,.b] #[?_,.b];obtain rfl|rfl|rfl|rfl:=o<;>lia
  .show key (-1) .c #[.b,.b] #[.b,?_];obtain rfl|rfl|rfl|rfl:=r<;>lia
 let⟨_,pp,_⟩:=(fU hp).resolve_left i;let pl:Pl p:=.inr pp;let f:-c≠0:=.b
 let g:-d≠0:=.b
 let nn:-1*(a*b)≠0:=ë .a (ë ha l);let j:-1*(-c*-d)≠0:=ë .a (ë f g)
 let⟨k,m,u,s⟩:=NG hp nn j (ak a b p) (ak (-c) (-d) p) (λe=>by
   cases z:M0 (-1*(a*b)) p with
   |false=>rfl
   |true =>
    let:=BW pl ha z;rw[DT pl ha l,e] at this
    cases this) (λe=>by
   cases z:M0 (-1*(-c*-d)) p with
   |false=>rfl
   |true =>
    let:=BW pl f z;rw[DT pl f g,e] at this
    cases this) (λe=>by
   let sq:uf (a*b*c*d) p:=by
    let e1:=iE hp nn j;rw[e,iE hp j j] at e1;let e2:=DZ (a:=1) hp .a j;rw[Ś,e1] at e2;unfold fk at e2;rw[adF i,adF i] at e2;let e3:=ahg e2;let e4:-1*(a*b)*(-1*(-c*-d))=a*b*c*d:=by grind
    rw[e4] at e3;change cls (a*b*c*d) p=(0,1);rw[e3];show Up pp
   rw[qz i,adZ sq] at h;let tz:Ad a b c p=Á:=h;delta Ad at tz;rw[(by grind:-a*c=a*-c),(by grind:-b*c=b*-c),pK pl ha l f] at tz
   let t:ak (-c) (-1*(a*b)) p=ak (-c) (-d) p:=by
    rw[ba pl nn f,wq e,ba pl f j,DT pl f g]
   rw[t] at tz
   show(af4.mp tz).symm)
 let n:=yM hp k m;show#[k,m,?_,?_]
 .rw[gD i];delta Ad;rw[(by grind:-a*-k=a*k),(by grind:-b*-k=b*k),pK pl ha l n,u];simp
 .rw[gD i];delta Ad;rw[pK pl f g n,s];simp
def Vl(c:uO Q6 x)(d:uO Q6 y)(h:∀p∈P7,ak x y p=Á):∀p,Pl p->ak x y p=Á:=λp hp=>by
 by_cases a:p∈P7
 .show h p a
 obtain rfl|hp:=hp
 .show absurd .a a
 let b:p∉Q6:=λz=>a (ę _ z);show ff hp (λz=>b (by rw[z];decide)) (λz=>b (c.2 p hp z)) (λz=>b (d.2 p hp z))
def UY(l:aN q=Á)(m:17<=q)(i:uO (Q6++[q]) x)(j:uO (Q6++[q]) y)(h:∀p∈P7,ak x y p=Á):∀p,Pl p->ak x y p=Á:=by
 let d:∀p∈Q6,p<=13:=.a
 let f:Be (Q6++[q]):=#[ahc.mpr #[.a,.c,λa ha b n=>by
   rw[ad0.mp n];let:=d a ha
   lia],λp hp=>by
   obtain hp|hp:=aen.mp hp
   .show iW p hp
   .rwa[ad0.mp hp],by simp[Q6]]
 let ev:=ID f i j;unfold uM at ev;rw[show .N::(Q6++[q])=P7++[q] from rfl,p5,u5 h] at ev
 let k:ak x y q=Á:=by
  cases z:ak x y q with
  |true=>rfl
  |false =>
   exfalso
   let:jm [q] (ak x y)=Â:=by
    delta jm;rw[ahl,z];rfl
   rw[this] at ev;cases ev
 intro p hp;by_cases g:p∈P7
 .show h p g
 by_cases c:p=q
 .rwa[c]
 obtain rfl|hp:=hp
 .show absurd .a g
 let e:p∉Q6++[q]:=λz=>by
  obtain z|z:=aen.mp z
  .show g (ę _ z)
  .show c (ad0.mp z)
 show ff hp (λz=>e (by rw[z];simp[Q6])) (λz=>e (i.2 p hp z)) (λz=>e (j.2 p hp z))
def E_(ha:a≠0)(b:k≠0):0<a*k↔(0<a/\0<k)\/(a<0/\k<0):=by
 obtain h|h:=Ε ha<;>obtain h'|h':=Ε b
 .show#[λ_=>.inr #[h,h'],λ_=>aeP h h']
 .let:=aeQ h h';show#[λz=>by lia,λz=>by lia]
 .let:=afP h h';show#[λz=>by lia,λz=>by lia]
 .show#[λ_=>.inl #[h,h'],λ_=>Ħ h h']
def EJ(ha:a≠0)(i:b≠0)(g:c≠0):dk [a,b,c] p=ak (-a*c) (-b*c) p:=by
 by_cases f:p=0
 .subst f;rw[afC,dP,aP,ahw,afX,afX,E_ .b g,E_ .b g];constructor
  .rintro⟨⟨x,d,j⟩,⟨y,e,h⟩⟩;simp only[đ,Ĕ,aej] at d e;obtain rfl|rfl|rfl:=d<;>obtain rfl|rfl|rfl:=e<;>lia
  .intro z;let n:a<0\/b<0\/c<0:=.b
   let q:0<a\/0<b\/0<c:=.b
   constructor
   .obtain n|n|n:=n
    .show#[a,.c,n]
    .show#[b,.c,n]
    .show#[c,.c,n]
   .obtain n|n|n:=q
    .show#[a,.c,n]
    .show#[b,.c,n]
    .show#[c,.c,n]
 .rw[gD f];rfl
def Qi(a b c d p:Int):List (Int⊕(Int×Int)):=((ko p).filter λk=>dk [a,b,-k] p&&dk [c,d,k] p).map λk=>fk k p
def VB(hp:p∈P7)(ha:a≠0)(f:b≠0)(i:c≠0)(e:d≠0)(h:dk [a,b,c,d] p=Á):Qi a b c d p≠[]:=λz=>by
 let⟨k,g,h1,h2⟩:=Ic hp ha f i e h;let:fk k p∈Qi a b c d p:=adX.mpr #[k,aeJ.mpr #[g,by rw[h1,h2];rfl],rfl];rw[z] at this;cases this
def E6{t:Int}(hp:p∈P7)(ha:a≠0)(f:b≠0)(o:c≠0)(n:d≠0)(j:t≠0)(h:fk t p∈Qi a b c d p):ak (a*t) (b*t) p=Á/\ak (-c*t) (-d*t) p=Á:=by
 let⟨k,g,e⟩:=adX.mp h;let⟨g,z⟩:=aeJ.mp g;rw[ŷ] at z;let i:=yM hp k g
 let pl:Pl p:=by
  obtain z|z:=fU hp
  .show .inl z
  .show .inr z.2.1
 let⟨l,m⟩:=z;rw[EJ ha f .b,(by grind:-a*-k=a*k),(by grind:-b*-k=b*k),pK pl ha f i,wq e] at l;rw[EJ o n i,pK pl .b .b i,wq e] at m;rw[pK pl ha f j,pK pl .b .b j];show#[l,m]
def qw(b:uO L x)(c:uO L y):uO L (x*y):=#[ë b.1 c.1,λq a d=>(euclid a d).elim (b.2 q a) (c.2 q a)]
def zC{α:.L}(h:∀p∈L,p∈α)(a:uO L x):uO α x:=#[a.1,λq b c=>h q (a.2 q b c)]
def Ge(a:uO L x):uO L (-x):=#[by let:=a.1;lia,λq b c=>a.2 q b (ae0.mp c)]
def NI(g:uO Q6 a)(e:uO Q6 b)(f:uO Q6 c)(od:uO Q6 d)(w:k∈bN 6)(m:q=1\/(aN q=Á/\17<=q/\q<=8089))(h:∀p∈P7,fk (k*q) p∈Qi a b c d p):
  ∀p,Pl p->dk [a,b,-(k*q)] p=Á/\dk [c,d,k*q] p=Á:=by
 let ok:=yW w
 let s:q≠0:=by
  obtain rfl|⟨_,h,_⟩:=m
  .decide
  .lia
 let l:k*q≠0:=ë ok.1 s
 let all:∀{x y:Int},uO Q6 x->uO Q6 y->(∀p∈P7,ak (x*(k*q)) (y*(k*q)) p=Á)->∀p,Pl p->ak (x*(k*q)) (y*(k*q)) p=Á:=λ{x y} ox n i=>by
  obtain rfl|⟨t,j,_⟩:=m
  .rw[Đ] at i ⊢;show Vl (qw ox ok) (qw n ok) i
  .let sub:∀p∈Q6,p∈Q6++[q]:=λp hp=>ϑ _ hp
   let v:uO (Q6++[q]) q:=#[s,λr A u=>by
    let B:=au A;obtain z|z:=iJ t .b u
    .lia
    .rw[z];simp]
   let o:=qw (zC sub ok) v;show UY t j (qw (zC sub ox) o) (qw (zC sub n) o) i
 let one:=all g e λp hp=>(E6 hp g.1 e.1 f.1 od.1 l (h p hp)).1;let two:=all (Ge f) (Ge od) λp hp=>(E6 hp g.1 e.1 f.1 od.1 l (h p hp)).2;intro p hp;rw[EJ g.1 e.1 .b,EJ f.1 od.1 l,(by grind:-a*-(k*q)=a*(k*q)),(by grind:-b*-(k*q)=b*(k*q))];show#[one p hp,two p hp]
def OP:∀f∈bN 6,∀g∈bN 6,f=-g\/0<f*g\/(Q6.any λp=>decide (f%p=0) != decide (g%p=0))=Á:=by decide +kernel
def Fo(hp:aN p=Á)(c:dm f)(i:f≠0)(a:p∣f)(b:¬p∣g):¬uf (-f*g) p:=λh=>by
 let⟨k,e,d,_⟩:=Jl c hp a;let e2:-f*g=(-k*g)*p:=by rw[e];grind
 let:=B_ (k:=-k*g) hp λz=>(euclid hp z).elim (λz=>d (ae0.mp z)) b;rw[e2] at h;delta uf at h;rw[h] at this;cases this
def LZ{t:Int}(m:f∈bN 6)(k:g∈bN 6)(o:s≠0)(u:t≠0)(D:a=f*(s*s))(A:b=g*(t*t))(hz:dk [a,b] 0=Á):Nl a b:=by
 let q:=cZ m;let w:=cZ k;let st:s*t≠0:=ë o u;let e:-a*b=-f*g*(s*t)*(s*t):=by rw[D,A];grind
 obtain h|h|h:=OP f m g k
 .show .inl #[g*(s*t),by rw[e,h];grind]
 .exfalso;rw[dP] at hz;let r:0<s*s:=by obtain z|z:=Ε o;show aeP z z;show Ħ z z
  let v:0<t*t:=by obtain z|z:=Ε u;show aeP z z;show Ħ z z
  let⟨⟨x,l,F⟩,⟨y,n,E⟩⟩:=hz;simp only[đ,Ĕ,aej] at l n;obtain z|z:=Ε q
  .let d:g<0:=by
    apply ğ;intro d;let:=aeT (a:=f) (b:=g) .b .b;lia
   let B:=aeQ z r;let C:=aeQ d v;obtain rfl|rfl:=l<;>obtain rfl|rfl:=n<;>lia
  .let d:0<g:=by
    apply ğ;intro d;let:=ϵ (a:=f) (b:=g) .b .b;lia
   let B:=Ħ z r;let C:=Ħ d v;obtain rfl|rfl:=l<;>obtain rfl|rfl:=n<;>lia
 .let⟨p,hp,j⟩:=aho.mp h;let pp:=iW p hp
  let pl:p<=997:=by
   let:∀p∈Q6,p<=997:=.a
   show this p hp
  let p2:=au pp;show .inr #[p,pp,pl,?_];rw[lD .b,e];show aec ?_;rw[NM pp (ë .b w) st];by_cases i:p∣f
  .by_cases c:p∣g
   .rw[adZ (Ϲ i),adZ (Ϲ c)] at j;cases j
   .show Fo pp (eG m) q i c
  .by_cases c:p∣g
   .let:=Fo pp (eG k) w c i;rw[(by grind:-f*g=-g*f)];show this
   .rw[aec (λz=>i (ű z)),aec (λz=>c (ű z))] at j;cases j
def HM.le{m:Nat}(h:HM l m):2*m<= ~~~l:=by
 let h2:=h.1 2 (.inr .d);let e:uD 2 l=tx 2 (~~~l) (cf l) (!qv 2 l):=adF .a;let:=F5 (p:=2) (n:= ~~~l) (d:=cf l) (o:=!qv 2 l);lia
def oP:jQ l=none↔∀p,Pl p->dk l p=Á:=by
 let h:=DW l;constructor
 .intro e;rw[e] at h;rintro p (rfl|hp)
  .show h.1
  .show h.2 p hp
 .intro g;show(oe (r:=none) #[g 0 (.inl rfl),λq a=>g q (.inr a)]).symm
def HM.some{m:Nat}(a:∀x∈l,x≠0)(h1:1<= ~~~l)(h:HM l m):jQ l=none↔m≠0:=by
 rw[oP];constructor
 .intro g e;let⟨p,hp,z⟩:=h.2;rw[e] at z;let:=(wu hp a h1).mp z;rw[g p hp] at this;cases this
 .intro g p hp;let:=h.1 p hp;cases z:dk l p with
  |true=>rfl
  |false=>show absurd ((wu hp a h1).mpr z) .b
def HM.xX{a:.L}{m:Nat}(e:∀p,Pl p->uD p a=uD p l)(h:HM l m):HM a m:=#[λp hp=>by rw[e p hp];show h.1 p hp,by
 let⟨p,hp,z⟩:=h.2
 show#[p,hp,by rwa[e p hp]]]
def HM.drop{m:Nat}{t:Int}(b:t≠0)(c:∀x∈l,x≠0)(h1:1<= ~~~l)(h:HM (t::-t::l) m):∃k,m=k+1/\HM l k:=by
 let⟨p,hp,z⟩:=h.2;rw[Bc hp b c h1] at z;show#[uD p l,.b,λq a=>?_,p,hp,rfl];let:=h.1 q a;rw[Bc a b c h1] at this;lia
def Ik(ha:dm a)(c:dm b)(e:-a*b=s*s):b=-a:=by
 let h:=ha.1;let d:=c.1
 let g:s≠0:=λz=>by
  rw[z] at e;show ë (.b:-a≠0) d (by rw[e];rfl)
 show((ny (n:=-a) (f:=b) (r:=(b.natAbs:Int)) (s:=(s.natAbs:Int)) (lA ha) c .b .b ?_).1).symm;let h1:(b.natAbs:Int)*(b.natAbs:Int)=b*b:=afu;let h2:(s.natAbs:Int)*(s.natAbs:Int)=s*s:=afu;rw[h1,h2,<-e];grind
def HM.two{m:Nat}(ha:dm a)(d:dm b)(h:HM [a,b] m):m<=1/\(m=1↔b=-a):=by
 let f:=ha.1;let i:=d.1
 let nz:∀x∈[a,b],x≠0:=λx c=>by
  obtain rfl|c:=đ.mp c
  .show f
  .rwa[ad0.mp c]
 let k:2*m<=2:=h.le;show#[.b,λe=>?_,λe=>?_]
 .let g:=oP.mp ((h.some nz (.a:1<=2)).mpr .b)
  let⟨s,j⟩:=yy (D:=-a*b) (ë .b i) λp hp _=>by
   let:=g p (.inr hp);rw[lD (by let:=au hp;lia)] at this;show aer this
  show Ik ha d j
 .let:m≠0:=(h.some nz (.a:1<=2)).mp (oP.mpr λp hp=>by
   obtain rfl|hp:=hp
   .let:=(wu (p:=0) (.inl rfl) nz (.a:1<=2));cases z:dk [a,b] 0 with
    |true=>rfl
    |false =>
     let w:=this.mpr z;let e2:uD 0 [a,b]=min (pS [a,b]) (2-pS [a,b]):=adI rfl;rw[e2,gX,gX,e] at w;let e3:pS []=0:=rfl;rw[e3] at w;split at w<;>split at w<;>lia
   .rw[lD (by let:=au hp;lia),e];let:-a*-a=a*a:=by grind
    rw[this]
    show adZ (D4 hp f))
  lia
def Od{n:Int}(b:n≠0)(h:∀q,aN q=Á->¬q*q∣n):dm n:=#[b,λd a z=>by
 let⟨q,h1,h2⟩:=fj a
 show h q h1 (İ (ag3 h2 h2) z)]
def IS(a:aN q=Á)(h:¬q∣v):È (q*q) v=1:=vN (λr b h1 h2=>by
 let:r∣q:=by obtain z|z:=euclid b h1<;>show z
 rw[a9 b a this] at h2
 show h h2) (by let:=au a;show ë .b .b)
def zI(ha:dm a)(l:dm b):dm (jn a b)/\∃g,0<g/\a*b=jn a b*(g*g):=by
 let⟨g,u,v,m,i,d,h,k⟩:=J1 (b:=b) ha.1;let f:dm u:=vv ha #[g,by rw[i,ī]];let e:dm v:=vv l #[g,by rw[d,ī]];show#[?_,g,m,by rw[h,i,d];grind];rw[h];show Od (ë f.1 e.1) λq c z=>?_;let n:=au c;by_cases w:q∣u
 .let j:¬q∣v:=λt=>by
   let:=ahC w t;rw[k] at this;let:=Ę .a this;lia
  show f.2 q .b (fT z (IS c j))
 .rw[ī u v] at z;show e.2 q .b (fT z (IS c w))
def wj(ha:dm a)(d:dm b)(e:dm c):dm (jn (jn a b) c)/\∃g,g≠0/\a*b*c=jn (jn a b) c*g*g:=by
 let⟨h1,g,f,e1⟩:=zI ha d;let⟨h2,k,k0,e2⟩:=zI h1 e;show#[h2,k*g,ë .b .b,?_];rw[e1];let:jn a b*(g*g)*c=(jn a b*c)*(g*g):=by grind
 rw[this,e2];grind
def MG{m:Nat}(nz:∀x∈[a,b,c],x≠0)(d:jQ [a,b,c]=none)(h:HM [a,b,c] m):m=1:=by
 let h1:=(h.some nz (.a:1<=3)).mp d;let h2:2*m<=3:=h.le;lia
def SQ(b:k∈bN 6)(c:q=1\/(aN q=Á/\17<=q/\q<=8089)):dm (k*q):=by
 obtain rfl|⟨h1,h2,_⟩:=c
 .rw[Đ];show eG b
 .show jE (eG b) h1 λz=>?_;let:=pA b h1 z;let a:∀p∈Q6,p<=13:=.a
  let:=a _ this;lia
def u3(x y:Int):Prop:=∃s t,s≠0/\t≠0/\x*s*s=y*t*t
def u3.says(hp:Pl p)(ha:a≠0)(d:x≠0)(f:y≠0)(h:u3 x y):ak a x p=ak a y p:=by
 let⟨s,t,b,c,e⟩:=h;rw[<-eM hp ha d b,e,eM hp ha f c]
def u3.trans{z:Int}(h:u3 x y)(h':u3 y z):u3 x z:=by
 let⟨s,t,b,c,e⟩:=h;let⟨u,v,a,f,d⟩:=h';show#[s*u,t*v,ë b a,ë c f,?_];let h1:x*(s*u)*(s*u)=(x*s*s)*(u*u):=by grind
 let h2:z*(t*v)*(t*v)=(z*v*v)*(t*t):=by grind
 rw[h1,h2,e,<-d];grind
def u3.symm{x y:Int}(h:u3 x y):u3 y x:=by
 let⟨s,t,a,b,e⟩:=h;show#[t,s,b,a,e.symm]
def u3.X1(ha:a≠0)(h:u3 (a*x) (a*y)):u3 x y:=by
 let⟨s,t,b,c,e⟩:=h;show#[s,t,b,c,afO ha ?_];let h1:a*(x*s*s)=a*x*s*s:=by grind
 let h2:a*(y*t*t)=a*y*t*t:=by grind
 rw[h1,h2,e]
def u3.eq(a:dm x)(b:dm y)(h:u3 x y):x=y:=by
 let⟨s,t,c,d,e⟩:=h;show(ny (r:=(s.natAbs:Int)) (s:=(t.natAbs:Int)) a b .b .b ?_).1;let h1:(s.natAbs:Int)*(s.natAbs:Int)=s*s:=afu;let h2:(t.natAbs:Int)*(t.natAbs:Int)=t*t:=afu;rw[h1,h2,<-ĵ,<-ĵ,e]
structure iI(l m:.L):Prop where
 len: ~~~l= ~~~m
 sg:pS l=pS m
 nu:u3 (cf l) (cf m)
 sy:∀p,Pl p->qv p l=qv p m
def Wx(ha:a≠0)(d:b≠0):∀x∈[a,b],x≠0:=λx c=>by
 simp only[đ,Ĕ,aej] at c;obtain rfl|rfl:=c
 .show ha
 .show d
def Ym(ha:a≠0)(e:b≠0)(f:c≠0):∀x∈[a,b,c],x≠0:=λx d=>by
 obtain rfl|d:=đ.mp d
 .show ha
 .show Wx e f x d
def iI.tail(ha:a≠0)(c:∀x∈l,x≠0)(d:∀x∈m,x≠0)(h:iI (a::l) (a::m)):iI l m:=by
 let b:u3 (cf l) (cf m):=u3.X1 ha h.nu;show#[by let:=h.len;simpa using this,?_,b,λp hp=>?_]
 .let s:=h.sg;rw[gX,gX] at s;lia
 .let q:=h.sy p hp;rw[dJ hp ha c,dJ hp ha d,b.says hp ha (gu c) (gu d)] at q;let key:∀x y z:Bool,(x==y)=(x==z)->y=z:=.a
  show key _ _ _ q
def JH{t:Int}(ha:a≠0)(h:b≠0)(n:c≠0)(he:e≠0)(j:s≠0)(k:t≠0)(e1:a*x*x+b*y*y=c*s*s)(e2:a*b*c=e*t*t):pS (c::e::l)=pS (a::b::l):=by
 let⟨i,m,g⟩:=IA ha h n he j k e1 e2;rw[gX,gX,gX,gX];obtain d|d:=Ε ha<;>obtain f|f:=Ε h
 .let:=m #[d,f];rw[adF .b,adF .b,adF .b,adF .b]
 .obtain w|w:=g (.inr #[d,f])
  .rw[adI .b,adF .b,adF .b,adI .b];lia
  .rw[adF .b,adI .b,adF .b,adI .b]
 .obtain w|w:=g (.inl #[d,f])
  .rw[adI .b,adF .b,adI .b,adF .b]
  .rw[adF .b,adI .b,adI .b,adF .b];lia
 .let:=i #[d,f];rw[adI .b,adI .b,adI .b,adI .b]
def iI.turn{t:Int}(ha:a≠0)(i:b≠0)(f:c≠0)(he:e≠0)(g:s≠0)(d:t≠0)(j:∀x∈l,x≠0)(e1:a*x*x+b*y*y=c*s*s)(e2:a*b*c=e*t*t)(h:iI (a::b::l) m):iI (c::e::l) m:=by
 show#[h.len,(JH ha i f he g d e1 e2).trans h.sg,u3.trans #[t,c,d,f,?_] h.nu,λp hp=>(M9 hp ha i f he g d j e1 e2).trans (h.sy p hp)];change c*(e*cf l)*t*t=a*(b*cf l)*c*c;let:c*(e*cf l)*t*t=(e*t*t)*(c*cf l):=by grind
 rw[this,<-e2];grind
def iI.perm{a:.L}(hp:l.Perm a)(b:∀x∈l,x≠0)(h:iI l m):iI a m :=
 #[hp.length_eq.symm.trans h.len,((hp.filter _).length_eq.symm.trans h.sg:pS a=pS m),by rw[<-Cp hp];show h.nu,λp q=>(Oy q hp b).symm.trans (h.sy p q)]
def V_(n:Nat):Nat:=n*n/4+2*n+min n 2
def Fi:∀L,L<30->V_ L<=270/\∀l,l<30->(l+2<=L\/(L<=2/\l+1<=L))->V_ l+L+2<=V_ L:=by decide +kernel
def ps(a:Int):Nat:=V_ (lg a)
def Cn(b:a≠0)(h:a.natAbs<1073741824):ps a<=270:=(Fi _ (by let:=xy b h;lia)).1
def Fx(b:a≠0):a.natAbs<2^(lg a+1):=(agW .b).mp (af2 _)
def Ml(f:2<=b.natAbs)(d:dm c)(h:4*c.natAbs<=b.natAbs+4):lg c+2<=lg b\/(lg b<=2/\lg c+1<=lg b):=by
 let c0:=d.1;let h1:=GC f c0 h;by_cases h2:lg b<=2
 .show .inr #[h2,h1]
 show .inl ?_;let b1:=Fx (a:=b) .b;obtain⟨m,g⟩:∃m,lg b=m+3:=#[lg b-3,.b];rw[g,(.b:m+3+1=m+2+2),ahM] at b1;let cl:c.natAbs<=2^(m+2):=.b
 let ne:c.natAbs≠2^(m+2):=λe=>d.2 2 .a (aet.mp (by
  rw[e,ahM]
  show Nat.dvd_mul_left _ _))
 let:lg c<m+2:=(agW .b).mpr .b;lia
def half_lt(a:b≠0)(h:2*r.natAbs<=b.natAbs):r.natAbs<2^lg b:=by
 let:=Fx a;rw[af9] at this;lia
def Mk(f:s≠0)(ha:a.natAbs<=b.natAbs)(d:2*r.natAbs<=b.natAbs)(g:2<=b.natAbs)(e:r*r-a=b*c*(s*s)):(c*s).natAbs<2^(lg b+1):=by
 let h2:(c*s).natAbs<=(c*(s*s)).natAbs:=by
  rw[<-ĵ,ń (c*s)];show aif _ .b
 let:=Fz (k:=c*(s*s)) ha d .b (by rw[e,ĵ]);let:=Fx (a:=b) .b;lia
def JA(b:A≠0)(a:0<u)(d:k.natAbs<2^60)(e:k=A*(u*u)):u.natAbs<2^30:=by
 apply ğ;intro c;let h1:2^30*2^30<=u.natAbs*u.natAbs:=ahL .b .b
 let h2:u.natAbs*u.natAbs<=k.natAbs:=by
  rw[e,ń,ń];show afG _ .b
 lia
def j5(q x:Int):Prop:=dm x/\x∣30030*q
def Qk(q:Int):Prop:=q=1\/(aN q=Á/\17<=q/\q<=8089)
def Qk.pos(h:Qk q):0<q/\q<=8089:=by
 obtain rfl|⟨_,h,h'⟩:=h
 .decide
 .lia
def j5.lt(b:Qk q)(h:j5 q x):x≠0/\x.natAbs<1073741824:=by
 let c:=b.pos;show#[h.1.1,?_];let:=Ę (a:=(x.natAbs:Int)) .b (ahK.mpr h.2);lia
theorem j5.jn{q x y:Int}(a:j5 q x)(b:j5 q y):j5 q (jn x y):=#[(zI a.1 b.1).1,IP a.1.1 a.2 b.2]
def j5.neg(h:j5 q x):j5 q (-x):=#[lA h.1,Int.neg_dvd.mpr h.2]
def ib(h:x∈bN 6):j5 q x:=#[eG h,Int.dvd_mul_of_dvd_left (lE h)]
def KA(a:k∈bN 6)(b:Qk q):j5 q (k*q):=#[SQ a b,ag3 (lE a) (ϳ q)]
def BN(a:Qk q)(h:x∣30030*q)(hp:aN p=Á)(b:p∣x):p<32768:=by
 obtain z|z:=euclid hp (İ b h)
 .let:=Ę .a z;lia
 .let:=Ę a.pos.1 z;let:=a.pos;lia
def j5.WI(c:Qk q)(a:j5 q x)(b:j5 q y):Tame (x*y).natAbs:=by
 let n:x*y≠0:=ë a.1.1 b.1.1;show .inl #[((x*y).natAbs:Int),1,λp hp d=>?_,.b,Ņ 1,.b];obtain z|z:=euclid hp (aeV.mp d)
 .show BN c a.2 hp z
 .show BN c b.2 hp z
def iI.symm{l m:.L}(h:iI l m):iI m l:=#[h.len.symm,h.sg.symm,h.nu.symm,λp hp=>(h.sy p hp).symm]
def iI.pair{t:Int}(a:t≠0)(b:∀x∈l,x≠0)(h:iI (t::-t::l) m):iI (1::-1::l) m :=
 h.turn (x:=t+1) (y:=t-1) (s:=2*t) (t:=t) a .b .a .a .b a b (by grind) (by grind)
def iI.off{t:Int}(f:t≠0)(e:u≠0)(b:∀x∈l,x≠0)(c:∀x∈m,x≠0)(h:iI (t::-t::l) (u::-u::m)):iI l m:=by
 let nz:∀{l:.L},(∀x∈l,x≠0)->∀x∈(-1:Int)::l,x≠0:=λh x d=>by
  obtain rfl|d:=đ.mp d
  .decide
  .show h x d
 show iI.tail (a:=-1) .a b c (iI.tail (a:=1) .a (nz b) (nz c) ((h.pair f b).symm.pair e c).symm)
def FZ(i:∀x∈l,x≠0)(j:∀x∈m,x≠0)(h:iI l m)(hp:Pl p):uD p l=uD p m:=by
 delta uD;split
 .rw[h.sg,h.len]
 .rename_i g;let pp:=hp.resolve_left g;delta uK;let a:=gu i;let b:=gu j;let⟨s,t,d,f,e⟩:=h.nu;let c:cls (cf l) p=cls (cf m) p:=by rw[<-i_ pp a d,e,i_ pp b f]
  rw[h.sy p hp,h.len,xC pp a b c]
def HM.Yy{a b:Nat}(c:∀x∈l,x≠0)(d:∀x∈m,x≠0)(h:iI l m)(h1:HM l a)(h2:HM m b):a=b:=HM.uniq (λ_ hp=>FZ c d h hp) h1 h2
def JD(a:Int):rY (a,1):=#[by change .M<=1;decide,by change È a 1=1;show Int.gcd_one_right _]
def sD(T:Tb)(p q:Nat)(u:Fr):Tb:=T.set p ((T.getD p []).set q u)
def qQ{T:Tb}(h:Sq n T){p:Nat}(hp:p<n): ~~~(T.getD p [])=n:=h.row _ (getD_mem (by rwa[h.len]))
def lj{T:Tb}(h:Sq n T){p q:Nat}{u:Fr}(hp:p<n)(c:rY u):Sq n (sD T p q u):=by
 show#[by delta sD;rw[Ŝ];show h.len,λr a=>?_,λr a v b=>?_]
 .obtain z|z:=aeR a
  .show h.row r z
  .rw[z,Ŝ];show qQ h hp
 .obtain z|z:=aeR a
  .show h.low r z v b
  .rw[z] at b;obtain w|w:=aeR b
   .show h.low _ (getD_mem (by rwa[h.len])) v w
   .rwa[w]
def YD(n i j:Nat)(x y z w:Fr):Tb:=sD (sD (sD (sD (HQ n) i i x) j i y) i j z) j j w
end Q
namespace L2.EP
open PySem PySem.Spec PyProof.Rows
section
variable{X:Cx}{U:aI}{D:GD}{M β γ:Type}[Py M][Py β][Py γ]{e e1 e2:Ô}{b b1 b2:Bool}{pos:ð}{rest st:List Ï}
def FQ(i j:Nat){x y:Ì}{a p2 e:ð}{k:Nat}(d:X.N.Nodup)(p:X.calm=Á<|>zra)(hi:X.N[i]?=À x<|>zra)(f:X.N[j]?=À y<|>zra)
  (h:Loc X.env.scope x<|>zrf) (o:Loc X.env.scope y<|>zrf)
  (l:X.fn x=Á\/X.env.scope.names.lookup x=À .local<|>zrf) (c:X.fn y=Á\/X.env.scope.names.lookup y=À .local<|>zrf)
  (q: ~~~(ä [.Name x a,.Name y p2] X.env)=2<|>zra)
  (n:(ä [.Name x a,.Name y p2] X.env).findIdx? (·.1)=none<|>zra) (g:ä [.Name x a,.Name y p2] X.env=(Â,ď (.Name x a) X.env)::ä [.Name y p2] X.env<|>zra) (m:ä [.Name y p2] X.env=(Â,ď (.Name y p2) X.env)::ä [] X.env<|>zra):
  G X (.Tuple [.Name x a,.Name y p2] k e) (OA X.K 2 (xo (ni i) (xo (ni j) N2))) (M×β) (λb u U=>(U.set i (À (.val b u.1))).set j (À (.val b u.2))) (λk=>k=i\/k=j):=by stop show#[Eo p (kF (lF d hi h l) (kF (lF d f o c) zr)),Ey i j]
variable{e3:Ô}{b3:Bool}
def vQ{xs:List M}{i:Int}{a:M}(ha:E X U e1 b (Br.mk xs))(n:E X U e2 b2 i)(h:rV xs i=À a)(l:iw e2<|>zrj):E X U (.Subscript e1 e2 pos) b a:=by
 stop
  show aJ (yP Eg ha n l) λY H Q ⟨H0,F,O,S,q⟩=>#[H0,F,O,S,λv H1 f s=>#[H0,F,O,S.go f,λw H2 c m=>by
    let⟨p,vs,e,sq,r⟩:=s;let⟨j,h1,h2,A,y,z⟩:=qI h;let⟨x,o,u⟩:=iX r h2;show#[p,vs,i,x,e,m,(dv (aw _ _) (dv (ah c) sq)).t,?_,q x H2 (f.trans c) (ay (ah c) u)];delta rV at h ⊢;rw[bQ r];cases g:A_ (~~~xs) i with
    |none=>rw[g] at h;cases h
    |some k =>
     let d:=(qt g).1;rw[h1] at d;cases d
     show o]]
end
noncomputable instance:PyD (Int⊕(Int×Int)) where
 dat a:=match a with|.inl i=>.int i|.inr u=>.tuple [.int u.1,.int u.2]
 dr {K N H v a} h:=by
  cases a with
  |inl i=>show PyD.dr (M:=Int) (N:=N) h
  |inr u=>show PyD.dr (M:=Int×Int) (N:=N) h
 lay a:=by
  cases a with
  |inl i=>show PyD.lay (M:=Int) i
  |inr u=>show PyD.lay (M:=Int×Int) u
 dep:=PyD.dep (Int×Int)
 depth a:=by
  cases a with
  |inl i=>show Ń (PyD.depth (M:=Int) i) (ş _)
  |inr u=>show PyD.depth (M:=Int×Int) u
 eqv a b:=by
  cases a with
  |inl i=>cases b with
   |inl j=>show(PyD.eqv (M:=Int) i j).trans #[λh=>by rw[h],λh=>by injection h]
   |inr u=>simp[ê]
  |inr v=>cases b with
   |inl j=>simp[ê]
   |inr u=>show(PyD.eqv (M:=Int×Int) v u).trans #[λh=>by rw[h],λh=>by injection h]
section
variable{X:Cx}{U:aI}{D:GD}{M β γ:Type}[Py M][Py β][Py γ]{e e1 e2 ek:Ô}{b b1 b2:Bool}{pos:ð}{rest st:List Ï}
def tP(i:Nat){as:List M}{a:M}{k:Int}{x:Ì}{p c:ð}(t:U[i]?=À (À (.own b as)))(C:E X U ek b2 k)(he:E X U e b a)(Γ:0<=k)(L:k<~~~as)(h:S X (U.set i (À (.own b (as.set ↥k a)))) rest D)(hi:X.N[i]?=À x<|>zra)
  (B:Nm X.env.scope x<|>zre) (R:(x==("__debug__":Ì))=Â<|>zrb) (l:(x==("__classdict__":Ì))=Â<|>zrb)
  (ha:∀v,ď (.Subscript (.Name x p) ek c) X.env v=(do
   let j <-Ě [v] (Õ (.Name x p) X.env);let o <-Ě [v,j] (Õ ek X.env)
   Ϥ c
   Ě [v,j,o] (setItem j o v)
   release [v,j,o] []):=by intro _;rfl)
  (z:ŕ [.Subscript (.Name x p) ek c] e pos.line X.env=pure Â<|>zra) (σ:Ŗ [.Subscript (.Name x p) ek c] e X.env=pure none<|>zra)
  (h1:(ä [.Subscript (.Name x p) ek c] X.env).map (·.2)=[ď (.Subscript (.Name x p) ek c) X.env]<|>zra):S X U (.Assign [.Subscript (.Name x p) ek c] e pos::rest) D:=by
 stop
  show eI (dU (Et he (Kh (pv i hi B R l) C set_list ha) z σ h1) λDe Y H ⟨H0,F,O,Z,n,_⟩=>#[H0,F,O,Z,λu H1 g W=>by
    let⟨v,α,f,_,_,_⟩:=(Z.go g).write t Ê;show#[v,f,H0,F,O,Z.go g,λy H3 s I=>?_];let⟨K,α,d,⟨q,ys,e1,r,A,w⟩,J,wr⟩:=(Z.go (g.trans s)).write t Ê;rw[f] at d;let ev:v=K:=ķ (ķ d);subst ev;let P:y=V.int k:=I;subst P;let hly:k<~~~ys:=by rwa[bQ w]
    let m:A_ (~~~ys) k=À ↥k:=by
     delta A_;rw[adI Γ,adI .b]
    show#[q,ys,k,↥k,e1,rfl,A,m,?_]
    let⟨Z',Q⟩:=wr q (ys.set ↥k u) (À (.own b (as.set ↥k a))) r λG T=>by
     cases T;show#[Ê,q,_,e1,r,bp,?_];rw[oo (J q r).1];show Ep (ay (ah s) W) ↥k w
    show n _ _ _ _ (by rw[Q];show ah (g.trans s)) Z' h])
variable{elt target iter:Ô}{b':Bool}{Ze:Ć}{tn:List Ì}{js:List Nat}{g:TG}{tc:Nat->Prop}{put:Bool->M->aI->aI}{as:List M}
def Lo{f:M->List β}(tn:List Ì)(js:List Nat)(S:gF X Ze tn js)(he:EI X U target iter b as)(d:GP g M put tc X.K)(h:∀C s H fp,PG .H target g)(c:∀j,tc j->j<~~~tn)
  (k:∀(i:Nat) (a:M),as[i]?=À a->∀C s H fp,EN .H (put b a (cΓ U tn js)) elt (f a)) (l: ~~~as<=1000) (n:X.calm=Á<|>zra)
  (e:(∀x,Þ iter X.env x=pure x)<|>zrc):E X U (.ListComp elt [#[target,iter,[],0]] Ze pos) Á (IJ.mk (as.map f)):=by stop let⟨wi,hi,m⟩:=he;show aJ (Qf S n hi (λC s H fp=>#[h C s H fp,zY,Q_]) e) λY H Q ⟨H0,F,O,Z,q⟩=>LP m d c k l Z λv H' s' r'=>q v H' s' (kc Z.same r')
def BH(o:Nat){as:List M}{i:Int}{a:M}{x:Ì}{p:ð}(g:U[o]?=À (À (.own b as)))(e:E X U e2 b2 i)(h:rV as i=À a)(hi:X.N[o]?=À x<|>zra)
  (t:Nm X.env.scope x<|>zre) (B:(x==("__debug__":Ì))=Â<|>zrb) (f:(x==("__classdict__":Ì))=Â<|>zrb)
  (r:iw e2<|>zrj):E X U (.Subscript (.Name x p) e2 pos) b a:=by
 stop
  show aJ (yP zp (pv o hi t B f) e r) λY H Q ⟨H0,F,O,Z,q⟩=>by
   let⟨v,A,d,_,_,_⟩:=Z.write g Ê;show#[v,d,H0,F,O,Z,λw H2 l u=>?_];let⟨z,A,c,⟨G,ys,e1,J,s,m⟩,_,_⟩:=(Z.go l).write g Ê;rw[d] at c;let ev:v=z:=ķ (ķ c);subst ev;let⟨j,h1,h2,L,I,K⟩:=qI h;let⟨y,C,D⟩:=iX m h2;show#[G,ys,i,y,e1,u,dz.of s,?_,q y H2 l D];delta rV at h ⊢;rw[bQ m];cases n:A_ (~~~as) i with
   |none=>rw[n] at h;cases h
   |some k =>
    let e:=(qt n).1;rw[h1] at e;cases e;show C
def tL[PyT β](i:Nat){as:List M}{c:β}(d:U[i]?=À (À (.own b1 as)))(h:E X (U.set i (À (.val b1 as))) e b c):E X U e Á c:=by
 stop
  show aJ h λY H Q ⟨H0,F,O,Z,q⟩=>by
   let⟨a,j,m⟩:=Z.freeze d Ê (g':=.val b1 as) (λz=>z) λl a v g f k _=>Iz g f k;show#[H0,F,a,j,λv H' s r=>q v H' s ?_];show PyT.free (λp xs w=>wW (Z.go s).own p xs (aH.rt (aw _ _) w)) r
variable{c:Ô}{f:M->β}{p:M->Bool}{ifs:List Ô}
variable{κ:Type}[Py κ]{ec:Ô}
def NJ[PyT β](i:Nat){f:M->β}{y:Ì}{py c:ð}{rest:List Ï}(r:X.N.Nodup)(tn:List Ì)(js:List Nat)(B:gF X Ze tn js)(he:EI X U target iter b as)(k:GP g M put tc X.K)(o:∀C s H fp,PG .H target g)(e:∀j,tc j->j<~~~tn)
  (p:∀(i:Nat) (a:M),as[i]?=À a->∀C s H fp,E .H (put b a (cΓ U tn js)) elt b' (f a)) (t: ~~~as<=1000)
  (h:S X (U.set i (À (.dpo (as.map f)))) rest D) (d:X.N[i]?=À y<|>zra) (α:Loc X.env.scope y<|>zrf)
  (G:X.fn y=Á\/X.env.scope.names.lookup y=À .local<|>zrf) (u:X.calm=Á<|>zra)
  (l:õ (.ListComp elt [#[target,iter,[],0]] Ze pos) (À (.Name y py)) c.line X.env=pure Á<|>zra)
  (m:(∀x,Þ iter X.env x=pure x)<|>zrc):EP.S X U (.Assign [.Name y py] (.ListComp elt [#[target,iter,[],0]] Ze pos) c::rest) D:=by
 stop
  let⟨wi,hi,J⟩:=he
  show eI (dU (BF r d α G B u hi (λC s H fp=>#[o C s H fp,zY,Eu]) l m) λP Y H ⟨H0,F,O,Z,n,_⟩=>KH J k e p t Z λv H1 A I=>by
   let⟨L,w⟩:=Z.zA (i:=i) (v:=v) A (λq=>H q=none/\∃xs:Mt,H1 q=À (mo xs)) (λq z=>z) (Bd.dpo (as.map f)) Ê (by
    show Py.tr (λq xs sq nn=>?_) (λq xs sq=>aH.rt (aw _ _) sq) I;let:=(aw _ _) _ _ nn.2
    show⟨Mo.of this,⟨nn.1,xs,this⟩,this⟩)
   show n _ _ _ _ w L h)
end
variable{K:Ã}{h:Û}{H:Hp}{vs:Array Å}{a C:Ç}{x:Ì}{u:Int×Int}{P:Ð}{w:Ø}{mg:Ì->Option Å}{A:å}{s:Æ}{Y:St}{α:Model}{k:Int}
abbrev Xo(C:Ç)(vs:Array Å):ÿ:={cls:=.ref C,data:=.fields vs}
structure Dn(fs:List Ç)(ch:Ç->Prop)(h h':Û):Prop where
 keep:∀b o,h.get? b=À o->b∉fs->¬ch b->h'.get? b=À o
 slot:∀b o,h.get? b=À o->¬ch b->∃sl,h'.get? b=À {o with slots:=sl}
def Tr(h:Û)(C e:Ç)(T:Option Ç):Prop:=∃vs,h.get? e=À (Xo C vs)/\match T with
 |none=>vs[1]?=À .none
 |some t=>vs[1]?=À (.ref t)/\t≠e/\∃a b,h.get? t=À a/\a.data=.fields b/\b[3]?=À .none
section
variable{α:Model}{A:å}{E:Å->Æ->Prop}{s:Æ}{base:Û}{env:ő}{outer:List ő}{L C e:Ç}
def Gq{head:Å}{j:Bool}{Q:Unit->Æ->Prop}(i:A.frames=À (env::outer))(n:s.heap.FunFrames base (env::outer))(p:env.frame=À L)
  (he:s.heap.get? e=À (Xo C vs)) (hz:1<vs.size)
  (h:∀h' T m l,Dn (xO (env::outer)) (·=e) s.heap h'->h'.get? e=À (Xo C (vs.setIfInBounds 1 (.ref T)))->T≠e->s⁻¹<=T->h'.get? T=À m->m.data=.fields l->l[3]?=À (ý L)->Q () {s with heap:=h'}):
  Ë α A (do let a <-frameOf env;let pl <-entryPlaceOf L j;let b <-Ŷ head a .none (ý L) .none pl;setField (.ref e) 1 b) Q E s:=by
 let r:e∉xO (env::outer):=λt=>by
  let⟨_,o,k,u⟩:=n.mem t;rw[he] at k;cases k;show u _ rfl
 show Ü (wpAny_frameOf_fun i n p λg d=>Ü (wpAny_entryPlaceOf λpl hp=>?_));let c:g.get? e=À (Xo C vs):=(d.2.1 e r).trans he
 delta Ŷ newFields
 show Ü (afh (dict:=none) ?_ (hp.sizeOk5 _ _ _ _ _));let ne:g.objs.size≠e:=aht (ē c);show afM (Ĩ _ c) rfl hz (h _ g.objs.size {cls:=.type "traceback",dict:=none,data:=.fields ([head,.ref L,.none,ý L,.none]++(if pl.isEmpty then Ý 6 ā else pl)).toArray} _ #[λb o q v f=>?_,λb o q f=>?_] ?_ ne (by rw[d.1];show Ā _) ?_ rfl ?_)
 .rw[ae5 _ _ (œ f)];show Ĩ _ ((d.2.1 b v).trans q)
 .let⟨sl,w⟩:=d.2.2 b o q;show#[sl,?_];rw[ae5 _ _ (œ f)];show Ĩ _ w
 .show afj _ (Ĩ _ c) rfl
 .rw[ae5 _ _ (œ ne)];show Ŕ g rfl
 .obtain rfl|⟨_,_,_,_,_,_,_,rfl⟩:=hp<;>simp
def Bl{T:Ç}{l:Å}{k:ÿ}{d:Array Å}{Q:Unit->Æ->Prop}(he:s.heap.get? e=À (Xo C vs))(i:vs[1]?=À (.ref T))(ne:T≠e)(g:s.heap.get? T=À k)(a:k.data=.fields d)(m:d[3]?=À l)
  (h:∀h',Dn [] (·=T) s.heap h'->h'.get? e=À (Xo C vs)->Tr h' C e (À T)->Q () {s with heap:=h'}):Ë α A (Ň (.ref e) none) Q E s:=by
 let hz:3<d.size:=(afI.mp m).1;unfold Ň;show Ü (agV he rfl i ?_);rw[adI .c];let j:=(ae5 s.heap (Č λx=>x.setIfInBounds 3 ((none:Option Ç).elim ā λf=>ý f)) ne).trans he;show afM g a hz (h _ #[λb o q _ c=>?_,λb o q c=>#[o.slots,?_]] j #[vs,j,i,ne,_,_,afj _ g (ahs (aga a _)),aga a _,?_])
 .show(ae5 _ _ (œ c)).trans q
 .show(ae5 _ _ (œ c)).trans q
 .simp[hz]
def Dn.trans{fs:List Ç}{ch c1 c2:Ç->Prop}{h1 h2:Û}(a:Dn fs c1 h h1)(b:Dn fs c2 h1 h2)(e:∀b,c1 b->ch b)(f:∀b o,h.get? b=À o->c2 b->ch b):Dn fs ch h h2 :=
 #[λx o q n c=>b.keep x o (a.keep x o q n λz=>c (e x z)) n λz=>c (f x o q z),λx o q c=>by
  let⟨sl,i⟩:=a.slot x o q λz=>c (e x z);let⟨d,g⟩:=b.slot x _ i λz=>c (f x o q z)
  show#[d,g]]
def Dn.mono{fs fs':List Ç}{ch ch':Ç->Prop}{h':Û}(a:Dn fs ch h h')(w:∀b,ch b->ch' b)(v:∀b,b∈fs->b∈fs'):Dn fs' ch' h h' :=
 #[λx o q n c=>a.keep x o q (λz=>n (v x z)) λz=>c (w x z),λx o q c=>a.slot x o q λz=>c (w x z)]
def R7{T:Option Ç}{Q:Unit->Æ->Prop}(g:A.frames=À (env::outer))(G:s.heap.FunFrames base (env::outer))(u:env.frame=À L)(x:Tr s.heap C e T)
  (h:∀h' t vs d a,Dn (xO (env::outer)) (λb=>b=e\/T=À b) s.heap h'->h'.get? e=À (Xo C vs)->vs[1]?=À (.ref t)->t≠e->s⁻¹<=t->h'.get? t=À d->d.data=.fields a->a[3]?=À (ý L)->Q () {s with heap:=h'}):
  Ë α A (Ĺ (.ref e) env) Q E s:=by
 let⟨vs,he,i⟩:=x;unfold Ĺ;simp only[u];cases T with
 |none =>
  let i:vs[1]?=À .none:=i;let hz:1<vs.size:=(afI.mp i).1;show Ü (agV he rfl i ?_);rw[adF .a];show Gq g G u he hz λh' t d a c e1 n l k y w=>h h' t _ d a (c.mono (λb z=>.inl z) λ_ z=>z) e1 (by simp[hz]) n l k y w
 |some f =>
  obtain⟨F,ne,d,a,j,p,H⟩:vs[1]?=À (.ref f)/\f≠e/\∃d a,s.heap.get? f=À d/\d.data=.fields a/\a[3]?=À .none:=i;let hz:1<vs.size:=(afI.mp F).1;show Ü (agV he rfl F ?_);rw[adI .c];show Ü (agV j p H ?_);rw[adF (by simp[ý])];show Ü (afM j p (afI.mp H).1 ?_);let MQ:∀b,b≠f->(s.heap.update f (Č λx=>x.setIfInBounds 3 ā)).get? b=s.heap.get? b:=λb I=>ae5 _ _ (œ I)
  let v:∀b o,s.heap.get? b=À o->(∀us,o.data≠.fields us)->b≠f:=λb o q B z=>by
   rw[z,j] at q;cases q;show B _ p
  show Gq g (G.of_keeps λb o q B=>#[o,(MQ b (v b o q B)).trans q,rfl]) u ((MQ e (œ ne)).trans he) hz λh' t D r c e1 n l k y w=>?_;show h h' t _ D r (Dn.trans (c1:=λb=>b=f) (c2:=λb=>b=e) #[λb o q _ m=>(MQ b m).trans q,λb o q m=>#[o.slots,(MQ b m).trans q]] c (λb z=>.inr (by rw[z])) λb _ _ z=>.inl z) e1 (by simp[hz]) n ?_ k y w;rwa[Heap.size_after_update] at l
def LS{T:Option Ç}{Q:Unit->Æ->Prop}(a:A.frames=À (env::outer))(k:s.heap.FunFrames base (env::outer))(i:env.frame=À L)(x:Tr s.heap C e T)
  (h:∀h' t,Dn (xO (env::outer)) (λb=>b=e\/T=À b) s.heap h'->Tr h' C e (À t)->s⁻¹<=t->Q () {s with heap:=h'}):
  Ë α A (Ĺ (.ref e) env) (λ_ d=>Ë α A (Ň (.ref e) none) Q E d) E s:=by
 show R7 a k i x λh' t vs r p c e1 g n l f m j=>?_;show Bl e1 g n f m j λh2 c2 _ tr=>h h2 t (Dn.trans c (c2.mono (ch':=λb=>b=t) (λ_ z=>z) (λ_ z=>nomatch z)) (λ_ z=>z) λb o q z=>?_) tr l;show absurd (ē q) (af5.mpr (by rwa[z]))
def Oj{T:Option Ç}{Q:Unit->Æ->Prop}(a:A.frames=À (env::outer))(c:s.heap.FunFrames base (env::outer))(d:env.frame=À L)(x:Tr s.heap C e T)
  (h:∀h' t,Dn (xO (env::outer)) (λb=>b=e\/T=À b) s.heap h'->Tr h' C e (À t)->s⁻¹<=t->Q () {s with heap:=h'}):
  Ë α A (leaving env (.ref e)) Q E s:=by
 unfold leaving;show Ü (LS a c d x h)
end
def Nw(X:Cx)(ZB:List (Ç×ÿ))(H:Hp)(a:Ç):Prop:=X.s₀.heap.get? a=none/\H a=none/\∀p∈X.pn++ZB,p.1≠a
def Po(X:Cx)(ZB:List (Ç×ÿ))(H:Hp)(h:Û)(C e:Ç):Prop:=∃T,Tr h C e T/\Nw X ZB H e/\∀t,T=À t->Nw X ZB H t
def gW.there{o:HO}(x:gW P w H h a o):∃b,h.get? a=À b:=by
 cases o with
 |lst xs=>let⟨_,_,_,_,e⟩:=x;show#[_,e]
 |tup xs=>let⟨_,_,_,o,e,_⟩:=x;show#[_,e]
 |dK YY=>let⟨_,_,_,_,o,_,_,e,_⟩:=x;show#[_,e]
 |dT YY=>let⟨_,_,_,_,o,_,_,e,_⟩:=x;show#[_,e]
 |dB YY=>let⟨_,_,_,_,o,_,_,e,_⟩:=x;show#[_,e]
 |set S n=>let⟨o,_,_,_,e,_⟩:=x;show#[_,e]
 |ins C dx fs=>let⟨_,_,_,e,_⟩:=x;show#[_,e]
 |own y=>show x
 |xd fs=>let⟨_,⟨_,_,_,e,_⟩,_⟩:=x;show#[_,e]
 |A9 lo hi=>let⟨_,_,_,e⟩:=x;show#[_,e]
 |frz b u=>let⟨e,_⟩:=x;show#[_,e]
 |tbl ps=>show#[_,(show h.get? a=À _ from x)]
 |met f y=>show#[_,(show h.get? a=À _ from x)]
 |ext φ=>show x.2.1
section
variable{X:Cx}{ZB:List (Ç×ÿ)}{Y:St}{H H':Hp}{s:Æ}{h':Û}{C e:Ç}
def y9(I:Inv X ZB Y H s)(hex:X.ex=[])(h:s.heap.get? a=none):Nw X ZB H a:=by
 show#[?_,?_,λp hp z=>?_]
 .cases q:X.s₀.heap.get? a with
  |none=>rfl
  |some o =>
   let⟨o',b⟩:=I.base.there a o q (by rw[hex];show λz=>nomatch z);rw[h] at b;cases b
 .cases q:H a with
  |none=>rfl
  |some o =>
   let⟨o',b⟩:=gW.there (I.hok a o q);rw[h] at b;cases b
 .let:=(I.pin p hp).1;rw[z,h] at this;cases this
def E1(I:Inv X ZB Y H s)(hex:X.ex=[])(h:s⁻¹<=a):Nw X ZB H a:=y9 I hex (η h)
def zt{ch:Ç->Prop}(I:Inv X ZB Y H s)(c:Dn (xO X.stack) ch s.heap h')(w:∀b,ch b->Nw X ZB H b/\∃o vs,s.heap.get? b=À o/\o.data=.fields vs):Inv X ZB Y H {s with heap:=h'}:=by
 let ns:∀b o,X.s₀.heap.get? b=À o->¬ch b:=λb o q z=>by
  let:=(w b z).1.1;rw[q] at this;cases this
 let K:∀b o,X.s₀.heap.get? b=À o->b≠X.env.locals:=λb o q=>Ķ (ř (ē q) I.ok.above)
 let A:∀b o,s.heap.get? b=À o->(∀vs,o.data≠.fields vs)->¬ch b:=λb o q α z=>by
  let⟨_,o',vs,B,d⟩:=w b z;rw[q] at B;cases B;show α vs d
 let kp:∀b o,s.heap.get? b=À o->b≠X.env.locals->b∉X.fs->¬ch b->h'.get? b=À o:=λb o q G J L=>c.keep b o q (λz=>(đ.mp (I.xa b z)).elim G J) L
 let cl:∀x k,X.env.cells.lookup x=À k->∀v,s.heap.IsCell k v->h'.IsCell k v:=λx k _ v ⟨o,g,h⟩=>by
  let⟨sl,q⟩:=c.slot k o g (A k o g λvs z=>by rw[h] at z;cases z);show#[_,q,h]
 show#[I.ok,I.os,I.bare,#[λb o q n a j=>?_,λb o q n a j=>?_,I.base.free,λb o q j=>?_,I.base.tups,I.base.frzs,I.base.tbls],?_,λx k q=>?_,I.free,I.freeC,λp hp=>?_,λb o q=>?_,I.len]
 .show kp b o (I.base.keep b o q n a j) (K b o q) a (ns b o q)
 .let⟨sl,y⟩:=I.base.slot b o q n a j;let⟨t,e⟩:=c.slot b _ y (ns b o q);show#[t,e]
 .let⟨O,y⟩:=I.base.there b o q j;let⟨t,e⟩:=c.slot b _ y (ns b o q);show#[_,e]
 .let⟨m,⟨o,es,ep,g,h,r⟩,F⟩:=I.loc;let⟨sl,q⟩:=c.slot _ o g (A _ o g λvs z=>by rw[h] at z;cases z);show#[m,#[_,es,ep,q,h,r],λi x v e1 e2 e3=>?_];let⟨u,N,l⟩:=F i x v e1 e2 e3;show#[u,N,?_];obtain l|⟨k,C,e,z⟩:=l
  .show .inl l
  .show .inr #[k,C,e,cl x C e _ z]
 .let⟨v,z⟩:=I.cell x k q;show#[v,cl x k q v z]
 .let⟨q,n,ne,D,d⟩:=I.pin p hp;show#[kp p.1 p.2 q ne D λz=>(w _ z).1.2.2 p hp rfl,n,ne,D,d]
 .show(I.hok b o q).ye (λb2 u a r=>?_) (λ_ z=>z) λ_ _ z=>z
  let f:∃E,H b2=À E:=by
   obtain rfl|a:=a
   .show#[_,q]
   .show#[_,a]
  let⟨E,f⟩:=f;show c.keep b2 u r (λz=>?_) λz=>?_
  .rw[I.A6 b2 z] at f;cases f
  .rw[(w b2 z).1.2.1] at f;cases f
def Tr.VW{T:Option Ç}(t:Tr h C e T):∀b,(b=e\/T=À b)->∃o vs,h.get? b=À o/\o.data=.fields vs:=by
 let⟨vs,he,q⟩:=t;rintro b (rfl|rfl)
 .show#[_,vs,he,rfl]
 .let⟨_,_,c,d,a,b,_⟩:=q;show#[c,d,a,b]
end
def ON(P:Ð)(w:Ø):Hm:=λouter H s E ev s'=>∃e C t H',ev=.ref e/\s'.os=s.os/\Ĵ s'.gens/\Un (xO outer) [] H H' s.heap s'.heap/\vo P w H' s'.heap /\
 s.heap.get? e=none/\H' e=none/\s.heap.get? t=none/\H' t=none/\Tr s'.heap C e (À t)/\E (.ref C) none H'
section
variable{X:Cx}{ZB:List (Ç×ÿ)}{Y:St}{H:Hp}{s s':Æ}{E:XK}
def UN{ev:Å}(I:Inv X ZB Y H s)(hex:X.ex=[])(h:ON X.prog X.w X.stack H s E ev s'):∃e C H',ev=.ref e/\Inv X ZB Y H' s'/\Po X ZB H' s'.heap C e/\E (.ref C) none H':=by
 let⟨e,C,t,H',rfl,os,bare,un,a,d,i,c,f,tr,q⟩:=h;let g:Inv X ZB Y H' s':=I.Qy os un a bare (λb z=>absurd z .c);show#[e,C,H',rfl,g,#[À t,tr,#[(y9 I hex d).1,i,(y9 I hex d).2.2],λu z=>?_],q];cases z;show#[(y9 I hex c).1,f,(y9 I hex c).2.2]
end
abbrev Uk(P:Ð)(w:Ø)(K:Ã)(mg:Ì->Option Å)(base:Û)(N:List Ì)(qual:Ì)(st:Ï)(f:Ç)(a:Å)(A:å)(outer:List ő)(s:Æ)(H:Hp)(E:XK):Cx:=vS (ON P w) P w K mg base N qual (af st) f a A outer s H E
def N8{base:Û}{N:List Ì}{qual:Ì}{st:Ï}{f:Ç}{a:Å}{outer:List ő}{d:Æ}{H1:Hp}{E:XK}{ZB:List (Ç×ÿ)}{e:Ç}
  (I:Inv (⇑Uk N qual st f a A outer s H E) ZB Y H1 d) (i:Po (⇑Uk N qual st f a A outer s H E) ZB H1 d.heap C e) (q:E (.ref C) none H1):(⇑Uk N qual st f a A outer s H E).xe (.ref e) d:=by
 let⟨T,tr,ne,j⟩:=i;show Oj (base:=base) (outer:=outer) I.ok.frames I.stack rfl tr λh' t c g l=>?_;let h:=zt I (h':=h') c λb z=>#[by obtain rfl|z:=z;show ne;show j b z,tr.VW b z];let n:=E1 I rfl l;show#[e,C,t,H1,rfl,I.os,I.bare,h.base,h.hok,ne.1,ne.2.1,n.1,n.2.1,g,q]
abbrev WU:List Å:=[.type "ValueError",.type "Exception",.type "BaseException",.type "object"]
abbrev Vw(K:Ã)(C:Ç):Prop:=ŧ K C WU "ValueError.__new__"=Á
def zEF{G:Prop}(h:Â=Á):G:=(ō h).elim
def zE6{o}{f}{G:Prop}(q:ŧ.match_6 (λ_=>Bool) o f (λ_=>Â)=Á)(k:∀d c l,o=À (.mk (.type "type") d (.cls c) l)->f d c l=Á->G):G:=by
 obtain _|⟨c,d,a,l⟩:=o
 .show zEF q
 cases c with
 |type t=>
  by_cases h:t="type"
  .subst h;cases a with
   |cls c=>show k _ _ _ rfl q
   |_=>show zEF q
  .delta ŧ.match_6 PySem.W.nsOkIn._sparseCasesOn_4 ŧ._sparseCasesOn_6 at q;dsimp only at q;rw[dif_neg h] at q;show zEF q
 |_=>show zEF q
def zE1{x y}{f}{G:Prop}(q:ŧ.match_1 (λ_ _=>Bool) x y f (λ_ _=>Â)=Á)(k:∀c b u v w z n y',x=.ref c::b->y=[u,v,w,z,À (.builtin n),y']->f c b u v w z n y'=Á->G):G:=by
 obtain _|⟨v,b⟩:=x
 .show zEF q
 cases v with
 |ref c=>
  obtain _|⟨_,_|⟨_,_|⟨_,_|⟨_,_|⟨_|v,y⟩⟩⟩⟩⟩:=y
  all_goals try show zEF q
  cases v with
  |builtin n=>
   obtain _|⟨_,_|_⟩:=y
   all_goals try show zEF q
   show k _ _ _ _ _ _ _ _ rfl rfl q
  |_=>show zEF q
 |_=>show zEF q
def RL(X:K.In h)(q:Vw K C):∃bm N nm c bs a sn sub ab col dd k0 k1 k2 k3 k5 d,h.get? C=À (excClassObj nm c C N bs bm a sn sub ab col dd k0 k1 k2 k3 k5 "ValueError.__new__")/\h.Ns N d/\d "__init__"=none/\OwnTail h WU bm:=by

 show zE6 q λdd cd sl g q=>zE1 q λj bm k0 k1 k2 k3 n k5 e1 e2 q=>?_;simp only[ŷ,af4,ahe] at q;let⟨⟨⟨⟨⟨rfl,rfl⟩,e⟩,i⟩,b⟩,f⟩:=q;let⟨nm,bs,mro,ns,c,a,sn,sub,ab,col,del⟩:=cd;let⟨l⟩:=sl;subst e1 e2 e;show#[bm,ns,nm,c,bs,a,sn,sub,ab,col,dd,k0,k1,k2,k3,k5,_,X _ _ g,.of_isNs (PySem.W.isNs_of_in X b),PySem.W.nsMap_none_of_in X b f,PySem.W.tail_of_in X i]
section
variable{X:Cx}{cn:Ì}{C:Ç}{np cpos pos cps:ð}{msg:Ì}{j:Nat}
def Je{W:St->Hp->Prop}(c:X.calm=Á)(hex:X.ex=[])(i:Gl X cn)(l:X.mg cn=À (.ref C))(m:Vw X.K C)
  (u:∀ZB Y H s e,Inv X ZB Y H s->W Y H->Po X ZB H s.heap C e->X.xe (.ref e) s) (p:(cn==("__debug__":Ì))=Â<|>zrb):
  PS X (.Raise (À (.Call (.Name cn np) [.Constant (.str msg) j cps] [] cpos)) none pos) (λ_ Y H=>W Y H):=by
 intro ZB s Y H D I h;let⟨bm,N,nm,v,bs,d,sn,sub,ab,col,dd,k0,k1,k2,k3,k5,w,c1,c2,c3,c4⟩:=RL I.ok.mod.kin m;let g:PA X [.Constant (.str msg) j cps] _:=aC K5 aV;show wpAny_Raise_call_subU (nm:=nm) (q:=v) (N:=N) (bs:=bs) (bm:=bm) (hdct:=d) (sn:=sn) (sub:=sub) (ab:=ab) (col:=col) (dd:=dd) (k0:=k0) (k1:=k1) (k2:=k2) (k3:=k3) (k5:=k5) ahT .a ahT (c4.hasType .a) (I.ok.hd c) rfl c3 (oI I i l #[rfl,?_] p);let he:Ä [Expr.Constant (.str msg) j cps] X.env=(Â,Õ (.Constant (.str msg) j cps) X.env)::Ä [] X.env:=rfl;let f:=g cpos ZB s Y H (λvs H1=>vs=[.str msg]/\H1=H) I #[rfl,rfl];rw[he] at f ⊢;show Ο (Ρ f (λus o ⟨vs,H1,b,r,e1,e2⟩=>?_) λ_ _ z=>z);subst e1 e2;show#[rfl,?_,b.bk _ _ c1,c2.keeps b.bk,c4.keeps b.bk,λh' e a=>?_]
 .rw[<-~~~r];show ź (cI (n:=1) .a)
 .let⟨t,h1,h2,x⟩:=a.there;let k:=b.kept (h':=h') (t':=o.toks) a.keeps;let nw:=y9 b hex a.new;show u ZB Y _ _ e k h #[none,#[_,h1,rfl],nw,λt z=>nomatch z]
end
abbrev Cx.hold(X:Cx)(σ:Å->Æ->Prop)(pn:List (Ç×ÿ)):Cx:={X with xe:=σ,pn:=pn}
abbrev Cx.k6(X:Cx)(e:Ç)(pn:List (Ç×ÿ)):Cx:={X with A:=X.A.mark (À (.ref e)),calm:=Â,xe:=λ_ _=>False,pn:=pn}
section
variable{X:Cx}{ZB pn:List (Ç×ÿ)}{Y:St}{H:Hp}{s:Æ}{σ:Å->Æ->Prop}{C e:Ç}
def M5(ok:X.Ok):(Cx.hold X σ pn).Ok:=#[ok.mod,ok.kind,ok.glob,ok.blt,ok.above,ok.inj,ok.has,ok.cab,ok.hd,ok.frames,ok.stk,ok.exf,ok.bs,ok.bsz,ok.noex,ok.exfs,ok.oS,ok.frf]
def G3(ok:X.Ok):(Cx.k6 X e pn).Ok:=#[ok.mod,ok.kind,ok.glob,ok.blt,ok.above,ok.inj,ok.has,ok.cab,λz=>Bool.noConfusion z,ok.frames,ok.stk,ok.exf,ok.bs,ok.bsz,ok.noex,ok.exfs,ok.oS,ok.frf]
def Jx(I:Inv X ZB Y H s):Inv (Cx.hold X σ (X.pn++ZB)) [] Y H s:=#[M5 I.ok,I.os,I.bare,I.base,I.loc,I.cell,I.free,I.freeC,λp hp=>I.pin p ↑hp,I.hok,I.len]
def Dk{a:List (Ç×ÿ)}(ok:X.Ok)(I:Inv (Cx.hold X σ (X.pn++ZB)) a Y H s):Inv X ZB Y H s:=#[ok,I.os,I.bare,I.base,I.loc,I.cell,I.free,I.freeC,λp hp=>I.pin p (ϑ _ hp),I.hok,I.len]
def wZ(I:Inv X ZB Y H s)(he:s.heap.get? e=À (Xo C vs))(n:Nw X ZB H e)(c:e∉X.fs):Inv (Cx.k6 X e (X.pn++ZB++[(e,Xo C vs)])) [] Y H s:=by
 show#[G3 I.ok,I.os,I.bare,I.base,I.loc,I.cell,I.free,I.freeC,λp hp=>?_,I.hok,I.len];rw[afD] at hp;obtain hp|hp:=aen.mp hp
 .show I.pin p hp
 .let z:p=(e,Xo C vs):=by simpa using hp
  subst z;show#[he,n.2.1,λz=>?_,c,λv z=>nomatch z];let⟨m,⟨o,es,ep,a,b,_⟩,_⟩:=I.loc;let z:e=X.env.locals:=z;rw[<-z,he] at a;cases a;cases b
def qu{a:List (Ç×ÿ)}{l:List (Ç×ÿ)}(ok:X.Ok)(I:Inv (Cx.k6 X e (X.pn++ZB++l)) a Y H s):Inv X ZB Y H s:=#[ok,I.os,I.bare,I.base,I.loc,I.cell,I.free,I.freeC,λp hp=>I.pin p (ϑ _ (ϑ _ hp)),I.hok,I.len]
def name_goes{E:Å->Æ->Prop}{i:Nat}{n:Ì}{pos:ð}{Q:Unit->Æ->Prop}(I:Inv X ZB Y H s)(J:X.N.Nodup)(hi:X.N[i]?=À n)(K:X.env.kindOf n=À .local)
  (h:∀s',Inv X ZB (Y.set i none) H s'->Q () s'):Ë α A (do bindName X.env n .none;unbindBehindTheSuite X.env n pos) Q E s:=by
 let⟨m,D,F⟩:=id I.loc;show wpAny_nameGoes_keeps K D (by rw[I.ok.kind];rfl) λh' v l a=>?_;let⟨S,_,_,R,P,_⟩:=id D;let x:∀b o,X.s₀.heap.get? b=À o->b≠X.env.locals:=λb o q=>Ķ (ř (ē q) I.ok.above);show h _ #[I.ok,I.os,I.bare,#[λb o q n e f=>(a.2 b (x b o q)).trans (I.base.keep b o q n e f),λb o q n e f=>?_,I.base.free,λb o q f=>?_,I.base.tups,I.base.frzs,I.base.tbls],#[_,l,λj y G e1 e2 e3=>?_],λy c q=>?_,I.free,I.freeC,λp hp=>?_,λb o q=>?_,by rw[Ŝ];show I.len]
 .let⟨sl,t⟩:=I.base.slot b o q n e f;show#[sl,(a.2 b (x b o q)).trans t]
 .let⟨L,t⟩:=I.base.there b o q f;show#[L,(a.2 b (x b o q)).trans t]
 .by_cases B:j=i
  .subst B;rw[Ϯ] at e2;split at e2
   .split at e2
    .cases e2
    .cases e2
   .show absurd rfl (by assumption)
  .rw[afb (œ B)] at e2;let⟨u,r,q⟩:=F j y G e1 e2 e3;show#[u,r,?_];obtain⟨k,q⟩|⟨k,c,q,z⟩:=q
   .show .inl #[k,?_];let:y≠n:=λz=>B (xt J e1 (z▸hi));simp[this,q]
   .show .inr #[k,c,q,z.sameBut a (I.Ni y c q)]
 .let⟨w,z⟩:=I.cell y c q;show#[w,z.sameBut a (I.Ni y c q)]
 .let⟨q,n,ne,O,d⟩:=I.pin p hp;show#[(a.2 p.1 ne).trans q,n,ne,O,d]
 .show(I.hok b o q).ye (λb2 u e r=>?_) (λ_ z=>z) λ_ _ z=>z
  let g:∃C,H b2=À C:=by
   obtain rfl|e:=e
   .show#[_,q]
   .show#[_,e]
  let⟨C,g⟩:=g;show(a.2 b2 λz=>?_).trans r;rw[z,I.free] at g;cases g
variable{D:Ç}{i:Nat}{n dn:Ì}{np hpos pos:ð}{b₀:Ï}{suite body:List Ï}{rest:List ExceptHandler}{Q:Flow->Æ->Prop}
def Ms(I:Inv X ZB Y H s)(he:s.heap.get? e=À (Xo C vs)):e∉X.fs:=λz=>by
 let⟨_,o,a,b⟩:=I.oS.mem z;rw[he] at a;cases a;show b _ rfl
def Gf(he:h.get? e=À (Xo C vs)):Ũ α h (typeOf (.ref e)) (.ref C):=(PySem.W.Looks.ld he).andThen .now
def GL(I:Inv X ZB Y H s)(J:Po X ZB H s.heap C e)(a:X.stack=X.env::X.outer)(L:X.env.frame=À X.env.locals)(hex:X.ex=[])(j:Gl X dn)(r:X.mg dn=À (.ref D))(o:ć X.K (.ref C) (.ref D)=À Á)
  (F:X.N.Nodup) (hi:X.N[i]?=À n) (B:X.env.kindOf n=À .local)
  (k:∀s' vs,Inv (Cx.k6 X e (X.pn++ZB++[(e,Xo C vs)])) [] (Y.set i (À (.ref e))) H s'->Ë .E (X.A.mark (À (.ref e))) (execs (b₀::suite) X.env)
   (λf Γ=>Ë .E X.A (do bindName X.env n .none;unbindBehindTheSuite X.env n hpos) (λ_ Z=>Q f Z) X.xe Γ) (λ_ _=>False) s') (p:(dn==("__debug__":Ì))=Â<|>zrb):
  Ë .E X.A (Ĺ (.ref e) X.env) (λ_ R=>Ë .E X.A (Ň (.ref e) none) (λ_ σ=>Ë .E X.A (handleBy (.ref e) X.env (.ExceptHandler (À (.Name dn np)) (À n) (b₀::suite) hpos::rest)) Q X.xe σ) X.xe R) X.xe s:=by
 let⟨T,tr,ne,P⟩:=J;show LS (base:=X.base) (by rw[I.ok.frames,a]) (a▸I.stack) L tr λh' t c u l=>?_;let g:=zt I (h':=h') (by rwa[a]) λb z=>#[by obtain rfl|z:=z;show ne;show P b z,tr.VW b z];let h:=E1 I hex l;let⟨vs,he,O,m,V,S,x,E,h3⟩:=u;show wpAny_handleBy_cons (codeAny_handlers_test ?_) (by intro q;cases q);show oI (X:=Cx.k6 X e _) (wZ g he ne (Ms g he)) j r ?_ p;show(PySem.W.exm_one (K:=X.K) g.Jd (Gf he) o).here ?_;show codeAny_handlers_suite_as ?_;show Bl he O m x E h3 λh2 c2 d G=>?_
 let y:=zt g (h':=h2) (c2.mono (ch':=λb=>b=t) (λ_ z=>z) (λ_ z=>nomatch z)) λb z=>by
  subst z;show#[h,V,S,x,E]
 show vB (X:=Cx.k6 X e _) (v:=.ref e) (wZ y d ne (Ms y d)) F hi (.inl B) rfl (λs' α=>?_) (.inr B);show Ρ (k s' vs α) (λ_ _ z=>z) λ_ _ z=>z.elim
def HH{W:St->Hp->Prop}{W0:St->Hp->Prop}{th:Ç->TS}(j:X.stack=X.env::X.outer)(P:X.env.frame=À X.env.locals)(hex:X.ex=[])(m:Gl X dn)(y:X.mg dn=À (.ref D))(d:ć X.K (.ref C) (.ref D)=À Á)
  (l:X.N.Nodup) (hi:X.N[i]?=À n) (o:X.env.kindOf n=À .local)
  (F:∀σ pn,(∀ZB Y H s e,Inv (Cx.hold X σ pn) ZB Y H s->W Y H->Po (Cx.hold X σ pn) ZB H s.heap C e->σ (.ref e) s)->ui (Cx.hold X σ pn) body (λ_ Y H=>W0 Y H))
  (E:∀e vs pn,(e,Xo C vs)∈pn->ui (Cx.k6 X e pn) (b₀::suite) (th e)) (x:(dn==("__debug__":Ì))=Â<|>zrb):
  PS X (.Try body [.ExceptHandler (À (.Name dn np)) (À n) (b₀::suite) hpos] [] [] pos)
   (λb Y H=>W0 Y H/\∀Y' H' e,W Y' H'->th e {nx:=λσ2 H2=>b.nx (σ2.set i none) H2,rt:=b.rt} (Y'.set i (À (.ref e))) H'):=by
 intro ZB s Y H b I ⟨Q,h1⟩;show wpAny_Try_except ?_;let O:=F (λe k=>Ë .E X.A (Ĺ e X.env) (λ_ B=>Ë .E X.A (Ň e none) (λ_ h=>Ë .E X.A (handleBy e X.env [.ExceptHandler (À (.Name dn np)) (À n) (b₀::suite) hpos]) (SP X ZB b) X.xe h) X.xe B) X.xe k) (X.pn++ZB) (λc Y' H' s' e S w α=>?_)
 .show Ρ (O [] s Y H {nx:=λ_ _=>False,rt:=λ_ _=>False} (Jx I) Q) (λf Z z=>by
   cases f with
   |next=>let⟨_,_,_,z⟩:=z;show z.elim
   |ret v=>let⟨_,_,_,_,_,z⟩:=z;show z.elim
   |brk=>let⟨_,_,_,z⟩:=z;show z.elim
   |cont=>let⟨_,_,_,z⟩:=z;show z.elim) λ_ _ z=>z
 .let R:Inv X ZB Y' H' s':=Dk I.ok S;let⟨T,tr,L,V⟩:=α;let sub:∀a,Nw (Cx.hold X (λe k=>Ë .E X.A (Ĺ e X.env) (λ_ B=>Ë .E X.A (Ň e none) (λ_ h=>Ë .E X.A (handleBy e X.env [.ExceptHandler (À (.Name dn np)) (À n) (b₀::suite) hpos]) (SP X ZB b) X.xe h) X.xe B) X.xe k) (X.pn++ZB)) c H' a->Nw X ZB H' a:=λa z=>#[z.1,z.2.1,λp hp=>z.2.2 p (ϑ _ hp)];show GL R #[T,tr,sub _ L,λt z=>sub _ (V t z)] j P hex m y d l hi o (λg vs G=>?_) x;show Ρ (E e vs _ .c [] g _ _ {nx:=λσ2 H2=>b.nx (σ2.set i none) H2,rt:=b.rt} G (h1 Y' H' e w)) (λf s4 z=>?_) λ_ _ z=>z;cases f with
  |next =>
   let⟨σ2,H2,J,z⟩:=z;show name_goes (qu I.ok J) l hi o λΓ q=>#[_,_,q,z]
  |ret v =>
   let⟨u,σ2,H2,J,r,z⟩:=z;show name_goes (qu I.ok J) l hi o λΓ q=>#[u,_,_,q,r,z]
  |brk=>let⟨_,_,_,z⟩:=z;show z.elim
  |cont=>let⟨_,_,_,z⟩:=z;show z.elim
end
structure Xn where
 e:Ç
noncomputable instance:Py Xn where
 rp _ _ _ v a:=v=.ref a.e
 tr _ _ h:=h
structure RB where
 B:Hp
 H0:Hp
 F:Ç->Prop
def Ia(K:Ã)(R:RB)(U:aI)(Y:St)(H:Hp):Prop:=∃O,aH R.B (off H O)/\e9 K R.H0 R.F O U Y H
def Ia.go{K:Ã}{R:RB}{U:aI}{Y:St}{H H':Hp}(z:Ia K R U Y H)(s:aH H H'):Ia K R U Y H':=let #[O,m,Z]:=z;#[O,m.trans (ah s),Z.go s]
def Acc(X:Cx)(R:RB)(U:aI)(C:Ç):Prop:=∀ZB Y H s e,Inv X ZB Y H s->Ia X.K R U Y H->Po X ZB H s.heap C e->X.xe (.ref e) s
@[irreducible] def ER(X:Cx)(R:RB)(U:aI)(e:Ô):Prop:=PE X e (λY H _=>Ia X.K R U Y H)
@[irreducible] def SR(X:Cx)(R:RB)(U:aI)(st:List Ï):Prop:=ui X st (λ_ Y H=>Ia X.K R U Y H)
section
variable{X:Cx}{R:RB}{U:aI}{D:GD}{M β γ:Type}[Py M][Py β][Py γ]{e e1 e2 e3:Ô}{b b1 b2 b3:Bool}{p pos np cpos cps:ð}{st:Ï}{rest body orelse:List Ï}{C:Ç}{cn:Ì}
def Jy{msg:Ì}{j:Nat}(b:Acc X R U C)(g:Gl X cn)(f:X.mg cn=À (.ref C))(h:Vw X.K C)(a:X.calm=Á<|>zra)(hex:X.ex=[]<|>zra)(d:(cn==("__debug__":Ì))=Â<|>zrb):
  SR X R U (.Raise (À (.Call (.Name cn np) [.Constant (.str msg) j cps] [] cpos)) none pos::rest):=by stop show gS (u:=vI) (Je (W:=λY H=>Ia X.K R U Y H) a hex g f h (λZB Y H s e I z c=>b ZB Y H s e I z c) d) fh
def DX(h:ER X R U e):SR X R U (.Return (À e) pos::rest):=by stop show gS (u:=vI) (dU (CM h) λ_ _ _ z=>z) fh
def rf(h:ER X R U e)(a:õ e none pos.line X.env=pure Â<|>zra):SR X R U (.Expr e pos::rest):=by stop show gS (u:=vI) (dU (uZ h a) λ_ _ _ z=>z) fh
def Sd(i:Nat){a:M}(f:X.N.Nodup)(he:E X U e b a)(h:SR X R (U.set i (À (.val b a))) rest)(hi:X.N[i]?=À x<|>zra)(j:Loc X.env.scope x<|>zrf)
  (d:õ e (À (.Name x p)) pos.line X.env=pure Â<|>zra) (k:X.fn x=Á\/X.env.scope.names.lookup x=À .local<|>zrf):SR X R U (.Assign [.Name x p] e pos::rest):=by stop show lO (gS (tT f hi j he d k) h) λl Y H ⟨O,m,Z⟩=>#[R.H0,R.F,O,Z,λv H1 c g=>#[O,m.trans (ah c),(Z.go c).set g]]
def E8{a:M}(he:E X U e b a)(h:SR X R U rest)(d:õ e none pos.line X.env=pure Â<|>zra):SR X R U (.Expr e pos::rest):=by stop show lO (gS (uZ he d) h) λg Y H ⟨O,m,Z⟩=>#[R.H0,R.F,O,Z,λv H1 c f=>#[O,m.trans (ah c),Z.go c]]
def Es(b:T X U e Á)(h:SR X R U body):SR X R U (.If e body orelse pos::rest):=by stop show lO (gS (u:=vI) (Gv b h fh) fh) λc Y H ⟨O,m,Z⟩=>#[R.H0,R.F,O,Z,λH1 a=>uH #[O,m.trans (ah a),Z.go a]]
def D3(b:T X U e Â)(h:SR X R U rest):SR X R U (.If e body [] pos::rest):=by stop show lO (gS (Gv b fh EO) h) λc Y H ⟨O,m,Z⟩=>#[R.H0,R.F,O,Z,λH1 a=>xZ #[O,m.trans (ah a),Z.go a]]
end
structure uR(P:Ð)(w:Ø)(K:Ã)(mg:Ì->Option Å)(base:Û)(k:Nat)(name:Ì)(ps:List Ì)(sp:Sp):Prop where
 ex:∃(f:Ç) (fd:í),⇑dC (ON P w) k f fd ps sp/\Binds K fd ps []/\ø K (.ref f)=Á/\mg name=À (.ref f)
def Oh{M:Type}[Py M](K:Ã)(pre:M->Prop)(C:Ç):Sp:=λvs H _ E=>∃O v a,mh H O/\vs=[v]/\Py.rp K .any .F v a/\pre a/\∀H',aH H H'->E (.ref C) none H'
def Hw{M β:Type}[Py M][Py β](K:Ã)(pre:M->β->Prop)(C:Ç):Sp:=λvs H _ E=>∃O v w a c,mh H O/\vs=[v,w]/\Py.rp K .any .F v a/\Py.rp K .any .F w c/\pre a c/\∀H',aH H H'->E (.ref C) none H'
section
variable{X:Cx}{R:RB}{U:aI}{M β γ:Type}[Py M][Py β][Py γ]{e e1 e2 e3:Ô}{es:List Ô}{b b1 b2 b3:Bool}{p pos:ð}{C f:Ç}{x name:Ì}{k:Nat}{ps:List Ì}{fd:í}{t:TA}{sp:Sp}
def vX{W:St->Hp->Prop}{E':St->Hp->XK}(G:dC X.prog X.w X.K X.mg X.base (ON X.prog X.w) k f fd ps sp)(D:c7 k X.A)(l:Gl X x)(v:X.mg x=À (.ref f))(n:ø X.K (.ref f)=Á)(m:Binds X.K fd ps [])(hex:X.ex=[])
  (y:∀ZB Y H H' s e C,W Y H->Inv X ZB Y H' s->Po X ZB H' s.heap C e->E' Y H (.ref C) none H'->X.xe (.ref e) s)
  (ha:PA X (e::es) t) (i:(x==("__debug__":Ì))=Â<|>zrb) (he:Ä (e::es) X.env=(Â,Õ e X.env)::Ä es X.env<|>zra) (hpl:(ã pos (Ä es X.env)).any (·.1)=Â<|>zra):
  PE X (.Call (.Name x p) (e::es) [] pos) (λY H _=>t Y H λvs H1=>W Y H1/\sp vs H1 (λ_ _=>False) (E' Y H1)):=by
 intro ZB s Y H Q I h;show afw (oI I l v ?_ i);show Μ (h₀:=X.base) I.ok.mod.kin n (cK (ha pos ZB s Y H _ I h) λus j ⟨vs,H1,d,r,w,q⟩=>#[d.Jd,?_]) he hpl;let o: ~~~us= ~~~ps:=by rw[<-~~~r];show G.len _ _ _ _ q
 let c:=m j us d.Jd (by rwa[afD]);rw[afD] at c;show ah2 (ags (G.run X.A X.stack j H1 #[us,[]] us vs _ _ D d.VJ c r q) λr s' b=>?_);cases r with
 |error ev =>
  let⟨a,C,H',rfl,B,g,z⟩:=UN d hex b;show y ZB Y H1 H' s' a C w B g z
 |ok g =>
  cases g with
  |ret u=>let⟨_,_,_,_,_,_,_,z⟩:=b;show z.elim
  |next=>show ù b
  |brk=>show ù b
  |cont=>show ù b
def Ew{ZB:List (Ç×ÿ)}{H':Hp}{b:Ç}(c:Acc X R U C)(w:Ia X.K R U Y H)(I:Inv X ZB Y H' s)(d:Po X ZB H' s.heap b a)(z:(.ref b:Å)=.ref C/\aH H H'):X.xe (.ref a) s:=by
 let⟨f,e⟩:=z;cases f;show c ZB Y H' s a I (w.go e) d
def KN{pre:M->Prop}{a:M}(Cl:uR X.prog X.w X.K X.mg X.base k name ps (Oh X.K pre C))(e:Acc X R U C)(i:c7 zkk X.A)(h1:E X U e1 b1 a)(hp:pre a)(hex:X.ex=[]<|>zra)
  (b:Ä [e1] X.env=(Â,Õ e1 X.env)::Ä [] X.env<|>zra) (c:(name==("__debug__":Ì))=Â<|>zrb) (hpl:(ã pos (Ä [] X.env)).any (·.1)=Â<|>zra)(kzz:k<=zkk<|>zrb)(f:Gl X name<|>zra):
  ER X R U (.Call (.Name name p) [e1] [] pos):=by
 stop
  let⟨n,fd,G,B,kp,m⟩:=Cl.ex
  show aJ (vX (W:=λY H=>Ia X.K R U Y H) (E':=λ_ H cls _ H'=>cls=.ref C/\aH H H') G (i.mono kzz) f m kp B hex (λZB Y H H' s a l w I g z=>Ew e w I g z) (aC h1 aV b) c b hpl) λY H Q ⟨O,m,S⟩=>#[R.H0,R.F,O,S,λj H1 d h =>
   #[#[O,m.trans (ah d),S.go d],O,j,a,(S.go d).own,rfl,aT aR h,hp,λH' s'=>#[rfl,s']]]
def nQ{pre:M->β->Prop}{a:M}{c:β}(Cl:uR X.prog X.w X.K X.mg X.base k name ps (Hw X.K pre C))(h:Acc X R U C)(q:c7 zkk X.A)(h1:E X U e1 b1 a)(h2:E X U e2 b2 c)(hp:pre a c)(hex:X.ex=[]<|>zra)
  (b:Ä [e1,e2] X.env=(Â,Õ e1 X.env)::Ä [e2] X.env<|>zra) (g:Ä [e2] X.env=(Â,Õ e2 X.env)::Ä [] X.env<|>zra) (f:(name==("__debug__":Ì))=Â<|>zrb) (hpl:(ã pos (Ä [e2] X.env)).any (·.1)=Â<|>zra)(kzz:k<=zkk<|>zrb)(j:Gl X name<|>zra):
  ER X R U (.Call (.Name name p) [e1,e2] [] pos):=by
 stop
  let⟨u,fd,G,B,kp,m⟩:=Cl.ex
  show aJ (vX (W:=λY H=>Ia X.K R U Y H) (E':=λ_ H cls _ H'=>cls=.ref C/\aH H H') G (q.mono kzz) j m kp B hex (λZB Y H H' s a t w I n z=>Ew h w I n z) (aC h1 (aC h2 aV g) b) f b hpl) λY H Q ⟨O,m,S⟩=>#[R.H0,R.F,O,S,λr H1 e o=>#[R.H0,R.F,O,S.go e,λi H2 d l =>
   #[#[O,m.trans (ah (e.trans d)),S.go (e.trans d)],O,r,i,a,c,(S.go (e.trans d)).own,rfl,aT aR (ay (ah d) o),aT aR l,hp,λH' s'=>#[rfl,s']]]]
variable{P:Ð}{w:Ø}{K:Ã}{mg:Ì->Option Å}{base:Û}{N:List Ì}{qual:Ì}{st:Ï}
def ue(P:Ð)(w:Ø)(K:Ã)(mg:Ì->Option Å)(base:Û)(N:List Ì)(qual:Ì)(st:Ï)(f:Ç)(k:Nat)(gs:List Bd)(C:Ç):Prop :=
 ∀(a:Å) (A:å) (outer:List ő) (s:Æ) (H:Hp) (E:XK) (R:RB),c7 k (A.deeper (ħ qual (af st) s⁻¹ f a)) ->
  (∀U,Acc (⇑Uk N qual st f a A outer s H E) R U C)->SR (⇑Uk N qual st f a A outer s H E) R (TU N gs) (bJ st)
def RH{sp:Sp}{C:Ç}(G:pW K x qual st f fd)(S:ao N ps (af st))(len:∀vs H Q E,sp vs H Q E->~~~vs= ~~~ps)
  (g:∀(vs:List V) (H:Hp) (Q:VK) (E:XK),sp vs H Q E->∃O gs,mh H O/\Args K .F vs gs/\ue P w K mg base N qual st f k gs C/\∀H',aH H H'->E (.ref C) none H'):⇑dC (ON P w) (k+1) f fd ps sp:=by stop let⟨l,od,kV,doc,n,o,c,ct,i,rfl,lk,a⟩:=G.ex;show Ql lk a S len λA outer s H vs Q E j b=>?_;let⟨O,gs,d,ha,B,q⟩:=g vs H Q E b;show#[_,B c A outer s H E #[off H O,H,O] j (λU ZB Y H1 p e I ⟨r,m,Z⟩ h=>N8 I h (q H1 Z.same)),O,aH.refl _,oH d ha]
def Xl{M:Type}[Py M]{pre:M->Prop}{C:Ç}(G:pW K x qual st f fd)(c:ao N ps (af st))(d: ~~~ps=1)(B:∀a,pre a->⇑ue N qual st f k [.val Â a] C):⇑dC (ON P w) (k+1) f fd ps (Oh K pre C):=by
 show RH (C:=C) G c (λvs H Q E h=>?_) λvs H Q E h=>?_
 .let⟨O,v,a,_,rfl,_⟩:=h;rw[d];rfl
 .let⟨O,v,a,b,rfl,r,hp,q⟩:=h;show#[O,_,b,.cons r .nil,B a hp,q]
def UP{M β:Type}[Py M][Py β]{pre:M->β->Prop}{C:Ç}(G:pW K x qual st f fd)(g:ao N ps (af st))(i: ~~~ps=2)(B:∀a c,pre a c->⇑ue N qual st f k [.val Â a,.val Â c] C):⇑dC (ON P w) (k+1) f fd ps (Hw K pre C):=by
 show RH (C:=C) G g (λvs H Q E h=>?_) λvs H Q E h=>?_
 .let⟨O,v,b,a,c,_,rfl,_⟩:=h;rw[i];rfl
 .let⟨O,v,b,a,c,d,rfl,r,e,hp,q⟩:=h;show#[O,_,d,.cons r (.cons e .nil),B a c hp,q]
def Df.Nr{sp:Sp}(D:Df K x st)(X:K.In h)(G:h.Ns É mg)(d:∀(kV doc e:Å) (c:Option Ç) (b ct:Å) (us:List Å),~~~us= ~~~ps->ĥ (á x x (da st) (bJ st) (af st) .none kV doc e c b ct) #[us,[]]=pure (ps.zip us))
  (ok:∀f fd,pW K x x st f fd->⇑dC (ON P w) k f fd ps sp):⇑uR k x ps sp:=by
 let⟨f,fd,a,F⟩:=D;show#[f,fd,ok f fd F,F.binds d,F.kp,afA X G a]
end
theorem get_set_no.{u}{M:Type u}{l:List (Option M)}{i j:Nat}{x:M}(h:(l.set i none)[j]?=À (À x)):j≠i/\l[j]?=À (À x):=by
 by_cases a:j=i
 .subst a;rw[Ϯ] at h;split at h
  .split at h
   .cases h
   .cases h
  .show absurd rfl (by assumption)
 .rw[afb (œ a)] at h;show#[a,h]
def e9.gone{H0:Hp}{F O:Ç->Prop}{U:aI}(S:e9 K H0 F O U Y H)(i:Nat):e9 K H0 F O (U.set i none) (Y.set i none) H where
 same:=S.same
 fo:=S.fo
 f0:=S.f0
 own:=S.own
 len:=by rw[Ŝ,Ŝ];show S.len
 at_:=λj g e n=>by
  let⟨b,a⟩:=get_set_no e;let⟨v,q,r⟩:=S.at_ j g a n;show#[v,by rwa[afb (œ b)],r]
 dis:=by
  let⟨D,c,f,d⟩:=S.dis;show#[D,c,f,λj g e o=>?_];let⟨b,a⟩:=get_set_no e;let⟨v,q,r⟩:=d j g a o;show#[v,by rwa[afb (œ b)],r]
section
variable{X:Cx}{U:aI}{D:GD}{M β γ:Type}[Py M][Py β][Py γ]{e e1 e2 e3:Ô}{b b1 b2 b3:Bool}{p p2 pos np hpos:ð}{b₀:Ï}{rest body suite:List Ï}{C Cd:Ç}{n dn:Ì}
def Jf(i:Nat)(u:X.N.Nodup)(h:Gl X dn)(k:X.mg dn=À (.ref Cd))(e:ć X.K (.ref C) (.ref Cd)=À Á)
  (t:∀σ pn R,Acc (Cx.hold X σ pn) R U C->SR (Cx.hold X σ pn) R U body)
  (p:∀a vs pn,(a,Xo C vs)∈pn->S (Cx.k6 X a pn) (U.set i (‹Xn.mk a›)) (b₀::suite) {nx:=λU'=>S X (U'.set i none) rest D,rt:=D.rt})
  (hi:X.N[i]?=À n<|>zra) (w:X.env.kindOf n=À .local<|>zra) (f:X.stack=X.env::X.outer<|>zra) (J:X.env.frame=À X.env.locals<|>zra) (hex:X.ex=[]<|>zra) (j:(dn==("__debug__":Ì))=Â<|>zrb):
  S X U (.Try body [.ExceptHandler (À (.Name dn np)) (À n) (b₀::suite) hpos] [] [] pos::rest) D:=by
 stop
  show eI λZB s Y H x I ⟨H0,F,O,Z,nx,rt,bk,ct⟩=>?_
  show HH (W:=λY' H'=>Ia X.K #[off H O,H0,F] U Y' H') (W0:=λY' H'=>Ia X.K #[off H O,H0,F] U Y' H') (th:=λa=>tG X.K (U.set i (‹Xn.mk a›)) {nx:=λU'=>S X (U'.set i none) rest D,rt:=D.rt})
   f J hex h k e u hi w (λσ pn G=>t σ pn #[off H O,H0,F] λc Y' H' s' a L l E=>G c Y' H' s' a L l E) (λa vs pn y=>p a vs pn y) j ZB s Y H x I #[#[O,aH.refl _,Z],λY' H' a ⟨A,m,l⟩=>?_]
  show#[H0,F,A,l.set (b:=Á) (a:=Xn.mk a) rfl,λΓ2 σ2 H2 o d B q=>nx _ _ H2 o (aH.trans m d) (B.gone i) q,λg v H2 d r q=>rt g v H2 d r q,λ_ _ _ _ _ _ z=>z.elim,λ_ _ _ _ _ _ z=>z.elim]
end
noncomputable def Kk(K:Ã)(C:Ç):Bool:=Ģ K (.ref C) "__getattribute__"==À (À (.builtin "BaseException.__getattribute__"))&&Ģ K (.ref C) "__getattr__"==À none&&(PySem.W.clsIn K C).isSome&&Ģ K (.ref C) "__class__"==À (À (.builtin "object.__class__")) &&
 PySem.W.specialIn K (.builtin "object.__class__") "__get__"==À (À (.builtin "getset_descriptor.__get__"))&&PySem.W.takesIn K (.builtin "object.__class__")==À Á&&Ļ K C (.type "object")==À Á&&Ļ K C (.type "BaseException")==À Á
section
variable{prog:Ð}{w:Ø}{A:å}{E:Å->Æ->Prop}{s:Æ}{K:Ã}{a C:Ç}{ox:ÿ}
def SA{b:Å}{Q:Unit->Æ->Prop}(c:Ũ α s.heap (isInstance (.ref a) (.type "BaseException")) Á)(q:Q () s):Ë α A (checkBuiltinCall "BaseException.__getattribute__" #[[.ref a,b],[]]) Q E s:=by
 let k1:builtinKind "BaseException.__getattribute__"=À .slot:=by decide +kernel
 let k2:splitId "BaseException.__getattribute__"=À ("BaseException","__getattribute__"):=by decide +kernel
 let k3:=PySem.F.args_bexc_ga (.ref a) b
 with_reducible show @PySem.W.check_slot α A E s "BaseException.__getattribute__" "BaseException" "__getattribute__" (.ref a) [b] [] Q k1 k2 c k3 q
def VY{Q:Option Å->Æ->Prop}(X:K.In s.heap)(I:PySem.W.InstAt s.heap a ox C none)(j:Ģ K (.ref C) "__getattribute__"=À (À (.builtin "BaseException.__getattribute__")))(l:Ģ K (.ref C) "__getattr__"=À none)
  (k:Ŏ K C none "__class__"=À (.bind (.builtin "getset_descriptor.__get__") (.builtin "object.__class__"))) (p:Ļ K C (.type "object")=À Á) (f:Ļ K C (.type "BaseException")=À Á) (h:Q (À (.ref C)) {s with toks:=s.toks+1}):
  Ë (Î prog w) A (getAttr? (.ref a) "__class__") Q E s:=by
 let⟨c,g,d,t,os⟩:=s;let b:=@PySem.W.InstAt.type _ _ _ _ (Î prog w) _ I;let i:=@Β _ (Î prog w) _ X _ _ _ j;let o:=@Β _ (Î prog w) _ X _ _ _ l;let n:=@PySem.W.looks_find _ (Î prog w) _ X _ _ _ _ _ _ I k;let m:Ũ (Î prog w) c (isInstance (.ref a) (.type "BaseException")) Á:=b.andThen (PySem.W.looks_mroIn X f);unfold getAttr? getAttrBy? getAttrBy;show Ü (wpAny_mkText (Ü (agA (ϒ (Ü (b.at (Ü (i.at ?_))))))));dsimp only;rw[adF (by rw[show(Value.builtin "BaseException.__getattribute__"==Value.builtin "object.__getattribute__")=Â from by decide +kernel];simp)];unfold getAttrByItsOwn;let e1:hookBefore (.ref C)=typeLookup (.ref C) "__getattr__":=rfl;rw[e1];show Ü (o.at (Ü (agA (ϒ ?_))));let e2:∀e:Å,callGetattribute (.ref a) e (.builtin "BaseException.__getattribute__") Â=boundAndCalled (.builtin "BaseException.__getattribute__") (.ref a) e:=λ_=>rfl;rw[e2];unfold boundAndCalled;show Ü (ain (ahU.ga.bind (.ref a)) ?_);show ah2 (ahE (args:=#[[.ref a,.str "__class__" t],[]]) ahU.ga.plain PySem.F.entry_bexc_ga ?_);show SA m ?_;unfold Ē.«object.__getattribute__»;show Ü (û (Ü (û (Ü (b.at (Ü (n.at ?_)))))));change Ë _ _ (Ě [_] (call _ [_,.ref a,.ref C]) >>= ret) _ _ _;show Ü (ϒ (ah2 (PySem.W.class_get (s:=#[c,g,d,t+1,os]) (ox:=ox) (od:=none) X I p ?_)));show û (ain (PySem.W.handedOut_of rfl) (û h))
end
def QM(h:Kk K C=Á):PySem.W.KitX K (.ref a) (.ref C) (λg=>∃vs,g.get? a=À (Xo C vs)):=by
 simp only[Kk,ŷ,af4] at h;let⟨⟨⟨⟨⟨⟨⟨i,h1⟩,h2⟩,o⟩,e⟩,m⟩,p⟩,f⟩:=h;let⟨cd,h2⟩:=afR.mp h2
 let j:∃c' d' b,K.lookup C=À #[c',d',.cls cd,b]:=by
  unfold PySem.W.clsIn at h2;split at h2
  .rename_i c;cases h2;show#[_,_,_,c]
  .cases h2
 let⟨c',d',b,c⟩:=j
 let l:Ŏ K C none "__class__"=À (.bind (.builtin "getset_descriptor.__get__") (.builtin "object.__class__")):=by
  unfold Ŏ;rw[h2,ah_,o,ah_];simp[e,m]
 show#[λα g _ ⟨vs,he⟩=>Gf he,λα g X _=>?_,λg tp dd YU n sl X d=>?_,λ{prog w A E Q s} X ⟨vs,he⟩ k=>?_]
 .intro t r E' s' k q;unfold isType loadHead;show Ü (wpAny_loadPart (k _ _ (X _ _ c)) (û q))
 .show ahY.mpr λq=>?_;let z:C=tp:=Value.ref.inj (af4.mp q);subst z;let z:=(X _ _ c).symm.trans d;cases z
 .show VY (ox:=Xo C vs) X #[he,rfl,rfl,Ê] i h1 l p f k
def Yg(X:Cx)(a C:Ç):Prop:=∀ZB Y H s,Inv X ZB Y H s->∃vs,s.heap.get? a=À (Xo C vs)
def Dd{X:Cx}{pn:List (Ç×ÿ)}(h:(a,Xo C vs)∈pn):Yg (Cx.k6 X a pn) a C:=λZB Y H s I=>#[vs,(I.pin _ (ϑ _ h)).1]
section
variable{X:Cx}{U:aI}{e:Ô}{b c:Bool}{p p2 pos:ð}{a C Cd:Ç}{T:Ì}
def IH(L:Yg X a C)(l:Kk X.K C=Á)(j:è X.K (.ref C) (.ref Cd)=À c)(k:Gl X "isinstance")(n:X.mg "isinstance"=none)(f:Gl X T)(d:X.mg T=À (.ref Cd))(ha:E X U e b (Xn.mk a))
  (i:Ä [e,.Name T p2] X.env=(Â,Õ e X.env)::Ä [.Name T p2] X.env<|>zra) (g:Ä [.Name T p2] X.env=(Â,Õ (.Name T p2) X.env)::Ä [] X.env<|>zra) (hpl:(ã pos (Ä [.Name T p2] X.env)).any (·.1)=Â<|>zra)
  (t:(T==("__debug__":Ì))=Â<|>zrb):
  E X U (.Call (.Name "isinstance" p) [e,.Name T p2] [] pos) Á c:=by
 stop
  let o:jy X (.builtin "isinstance") (λxs H Q=>xs=[.ref a,.ref Cd]/\Q (.bl c) H):=by
   intro ZB s Y H xs us Q I r h;let⟨rfl,q⟩:=h;let⟨u,A,rfl,y,m⟩:=vals2 r;cases y;cases m;let⟨vs,he⟩:=L ZB Y H s I;show PySem.W.kia_one (QM l) I.Jd #[vs,he] j (λz=>nomatch z) λtk=>#[.bl c,H,I.tok _,rfl,q]
  show aJ (d7 o k n boot_isinstance (aC ha (aC (zx (v:=.ref Cd) f d rfl t) aV g) i) (he:=i) (hpl:=hpl)) λY H Q ⟨H0,F,O,S,q⟩=>#[H0,F,O,S,λv H1 w x=>#[by cases x;rfl,q _ H1 w rfl]]
variable{P:Ð}{w:Ø}{K:Ã}{mg:Ì->Option Å}{base h:Û}{N:List Ì}{k:Nat}{x y:Ì}{st:Ï}
end
noncomputable def ym(K:Ã)(F T N R S:Ç):Bool:=ŧ K T WU "ValueError.__new__"&&Kk K T&&ć K (.ref T) (.ref F)==À Á&&ć K (.ref T) (.ref T)==À Á&&è K (.ref T) (.type "ValueError")==À Á &&
 è K (.ref T) (.ref F)==À Á&&è K (.ref T) (.ref T)==À Á&&è K (.ref T) (.ref N)==À Â&&è K (.ref T) (.ref R)==À Â&&è K (.ref T) (.ref S)==À Â
structure Xr(K:Ã)(F T N R S:Ç):Prop where
 rz:Vw K T
 kx:Kk K T=Á
 xF:ć K (.ref T) (.ref F)=À Á
 xT:ć K (.ref T) (.ref T)=À Á
 iV:è K (.ref T) (.type "ValueError")=À Á
 iF:è K (.ref T) (.ref F)=À Á
 iT:è K (.ref T) (.ref T)=À Á
 iN:è K (.ref T) (.ref N)=À Â
 iR:è K (.ref T) (.ref R)=À Â
 iS:è K (.ref T) (.ref S)=À Â
def Gh{F T N R S:Ç}(h:ym K F T N R S=Á):Xr K F T N R S:=by
 simp only[ym,ŷ,af4] at h;let⟨⟨⟨⟨⟨⟨⟨⟨⟨h1,h2⟩,f⟩,e⟩,d⟩,g⟩,i⟩,c⟩,b⟩,a⟩:=h;show#[h1,h2,f,e,d,g,i,c,b,a]
structure Xs(K:Ã)(mg:Ì->Option Å)(F T N R S:Ç):Prop where
 mF:mg "FormError"=À (.ref F)
 mT:mg "TooGreat"=À (.ref T)
 mN:mg "NoText"=À (.ref N)
 mR:mg "NoRow"=À (.ref R)
 mS:mg "NoStep"=À (.ref S)
 mV:mg "ValueError"=none
 t:Xr K F T N R S
 n:Xr K F N R S T
 r:Xr K F R S T N
 s:Xr K F S T N R
def VU{F T N R S:Ç}(X:K.In h)(G:h.Ns É mg)(f:Ñ K É "FormError"=À (À (.ref F)))(c:Ñ K É "TooGreat"=À (À (.ref T)))(j:Ñ K É "NoText"=À (À (.ref N)))
  (i:Ñ K É "NoRow"=À (À (.ref R))) (a:Ñ K É "NoStep"=À (À (.ref S))) (b:Ñ K É "ValueError"=À none) (d:ym K F T N R S=Á) (k:ym K F N R S T=Á) (e:ym K F R S T N=Á) (g:ym K F S T N R=Á):Xs K mg F T N R S :=
 #[afA X G f,afA X G c,afA X G j,afA X G i,afA X G a,Ÿ X G b,Gh d,Gh k,Gh e,Gh g]
section
variable{X:Cx}{U:aI}{M:Type}[Py M]{e e1 e2:Ô}{b b1 b2:Bool}{p p2 pos:ð}
variable{β γ:Type}[Py β][Py γ]{R:RB}{e3:Ô}{b3:Bool}{C:Ç}{name:Ì}{k:Nat}{ps:List Ì}
def Ox{M β γ:Type}[Py M][Py β][Py γ](K:Ã)(pre:M->β->γ->Prop)(C:Ç):Sp:=λvs H _ E=>∃O v w x a c d,mh H O/\vs=[v,w,x]/\Py.rp K .any .F v a/\Py.rp K .any .F w c/\Py.rp K .any .F x d/\pre a c d/\∀H',aH H H'->E (.ref C) none H'
def Jh{pre:M->β->γ->Prop}{a:M}{c:β}{d:γ}(Cl:uR X.prog X.w X.K X.mg X.base k name ps (Ox X.K pre C))(l:Acc X R U C)(x:c7 zkk X.A)(h1:E X U e1 b1 a)(h2:E X U e2 b2 c)(y:E X U e3 b3 d)(hp:pre a c d)(hex:X.ex=[]<|>zra)
  (b:Ä [e1,e2,e3] X.env=(Â,Õ e1 X.env)::Ä [e2,e3] X.env<|>zra) (i:Ä [e2,e3] X.env=(Â,Õ e2 X.env)::Ä [e3] X.env<|>zra) (j:Ä [e3] X.env=(Â,Õ e3 X.env)::Ä [] X.env<|>zra)
  (h:(name==("__debug__":Ì))=Â<|>zrb) (hpl:(ã pos (Ä [e2,e3] X.env)).any (·.1)=Â<|>zra)(kzz:k<=zkk<|>zrb)(o:Gl X name<|>zra):
  ER X R U (.Call (.Name name p) [e1,e2,e3] [] pos):=by
 stop
  let⟨α,fd,G,B,kp,m⟩:=Cl.ex
  show aJ (vX (W:=λY H=>Ia X.K R U Y H) (E':=λ_ H cls _ H'=>cls=.ref C/\aH H H') G (x.mono kzz) o m kp B hex (λZB Y H H' s a J w I u z=>Ew l w I u z) (aC h1 (aC h2 (aC y aV j) i) b) h b hpl) λY H Q ⟨O,m,S⟩=>#[R.H0,R.F,O,S,λD H1 f v=>#[R.H0,R.F,O,S.go f,λn H2 e q=>#[R.H0,R.F,O,S.go (f.trans e),λr L g t =>
   #[#[O,m.trans (ah (f.trans (e.trans g))),S.go (f.trans (e.trans g))],O,D,n,r,a,c,d,(S.go (f.trans (e.trans g))).own,rfl,aT aR (ay ((ah e).trans (ah g)) v),aT aR (ay (ah g) q),aT aR t,hp,λH' s'=>#[rfl,s']]]]]
end
def XJ{base:Û}{N ps:List Ì}{k:Nat}{qual:Ì}{st:Ï}{f:Ç}{fd:í}{M β γ:Type}[Py M][Py β][Py γ]{pre:M->β->γ->Prop}(G:pW K x qual st f fd)(i:ao N ps (af st))(l: ~~~ps=3)
  (B:∀a c d,pre a c d->⇑ue N qual st f k [.val Â a,.val Â c,.val Â d] C):⇑dC (ON P w) (k+1) f fd ps (Ox K pre C):=by
 show RH (C:=C) G i (λvs H Q E h=>?_) λvs H Q E h=>?_
 .let⟨O,v,b,j,a,c,d,_,rfl,_⟩:=h;rw[l];rfl
 .let⟨O,v,b,j,a,c,d,e,rfl,r,g,m,hp,q⟩:=h;show#[O,_,e,.cons r (.cons g (.cons m .nil)),B a c d hp,q]
mutual
inductive DN(K:Ã)(N:Nn)(H:Hp):V->ï->Prop
 |non:DN K N H .non .none
 |bl (b:Bool):DN K N H (.bl b) (.bool b)
 |int (i:Int):DN K N H (.int i) (.int i)
 |str (x:Ì):DN K N H (.str x) (.str x)
 |lst {a:Ç} {xs:List V} {ds:List ï}:dz K H a xs->N.has H a (.inl xs)->A8 K N H xs ds->DN K N H (.ref a) (.list ds)
 |tup {a:Ç} {xs:List V} {ds:List ï}:Rt H a xs->A8 K N H xs ds->DN K N H (.ref a) (.tuple ds)
inductive A8(K:Ã)(N:Nn)(H:Hp):List V->List ï->Prop
 |nil:A8 K N H [] []
 |cons {x:V} {xs:List V} {d:ï} {ds:List ï}:DN K N H x d->A8 K N H xs ds->A8 K N H (x::xs) (d::ds)
end
mutual
theorem DN.tr{K:Ã}{N N':Nn}{H H':Hp}(l:∀p (o:Mt),Mo K H p o->N.has H p o->Mo K H' p o/\N'.has H' p o)(t:∀p xs,Rt H p xs->Rt H' p xs):∀{v:V} {d:ï},DN K N H v d->DN K N' H' v d
 |_,_,.non=>.non
 |_,_,.bl b=>.bl b
 |_,_,.int i=>.int i
 |_,_,.str x=>.str x
 |_,_,.lst (xs:=xs) s n r=>.lst (l _ (.inl xs) s n).1 (l _ (.inl xs) s n).2 (A8.tr l t r)
 |_,_,.tup s r=>.tup (t _ _ s) (A8.tr l t r)
theorem A8.tr{K:Ã}{N N':Nn}{H H':Hp}(l:∀p (o:Mt),Mo K H p o->N.has H p o->Mo K H' p o/\N'.has H' p o)(t:∀p xs,Rt H p xs->Rt H' p xs):∀{v:List V} {d:List ï},A8 K N H v d->A8 K N' H' v d
 |_,_,.nil=>.nil
 |_,_,.cons h r=>.cons (DN.tr l t h) (A8.tr l t r)
end
structure Dt where
 d:ï
noncomputable instance:Py Dt where
 rp K N H v a:=DN K N H v a.d
 tr l t h:=DN.tr l t h
mutual
theorem DN.dr{K:Ã}{N:Nn}{H:Hp}:∀{v:V} {d:ï},DN K N H v d->DR K H v d
 |_,_,.non=>.non
 |_,_,.bl b=>.bl b
 |_,_,.int i=>.int i
 |_,_,.str x=>.str x
 |_,_,.lst s _ r=>.lst s (A8.dr r)
 |_,_,.tup s r=>.tup (PV.t (.inl s)) (A8.dr r)
theorem A8.dr{K:Ã}{N:Nn}{H:Hp}:∀{v:List V} {d:List ï},A8 K N H v d->GS K H v d
 |_,_,.nil=>.nil
 |_,_,.cons h r=>.cons (DN.dr h) (A8.dr r)
end
theorem Jv{K:Ã}{N:Nn}{H:Hp}:∀{xs:List V} {ds:List ï},A8 K N H xs ds->ß (λx (b:Dt)=>Py.rp K N H x b) xs (ds.map Dt.mk)
 |_,_,.nil=>.nil
 |_,_,.cons h r=>.cons h (Jv r)
theorem Lp{K:Ã}{N:Nn}{H:Hp}:∀{xs:List V} {ds:List Dt},ß (λx (b:Dt)=>Py.rp K N H x b) xs ds->A8 K N H xs (ds.map Dt.d)
 |_,_,.nil=>.nil
 |_,_,.cons h r=>.cons h (Lp r)
section
variable{X:Cx}{U:aI}{M β:Type}[Py M][Py β]{e e1 e2:Ô}{b b1 b2:Bool}{p p2 pos:ð}
def zN{a:M}{c:β}(h:E X U e b a)(w:∀N H v,Py.rp X.K N H v a->Py.rp X.K N H v c):E X U e b c:=by stop show aJ h λY H Q ⟨H0,F,O,S,q⟩=>#[H0,F,O,S,λv H1 f d=>q v H1 f (w _ _ _ d)]
def RM(h:E X U e b k):E X U e b (Dt.mk (.int k)):=zN h λN H v r=>by cases r;show DN.int k
def X9(h:E X U e b (none:Option Int)):E X U e b (Dt.mk .none):=zN h λN H v r=>by cases r;show DN.non
def N7(h:E X U e b x):E X U e b (Dt.mk (.str x)):=zN h λN H v r=>by cases r;show DN.str x
def JB(h:E X U e b (Dt.mk (.int k))):E X U e b k:=zN h λN H v r=>by
 let r':DN X.K N H v (.int k):=r;cases r';rfl
def As{ds:List ï}(h:E X U e b (Dt.mk (.tuple ds))):E X U e b (Br.mk (ds.map Dt.mk)):=zN h λN H v r=>by
 let r':DN X.K N H v (.tuple ds):=r;cases r' with
 |tup sq q=>show#[_,_,rfl,.inl sq,Jv q]
def A0[PyT M]{xs:List M}(ha:E X U e1 b xs)(m:E X U e2 b2 k)(u:0<=k):E X U (.Subscript e1 (.Slice (À e2) none none p2) pos) Á (xs.drop ↥k):=by
 stop
  show aJ (nA vd ha (rR m) qX) λY H Q ⟨H0,F,O,S,q⟩=>#[H0,F,O,S,λv H1 c s=>#[H0,F,O,S.go c,λw H2 a j=>by
    let⟨p,vs,e,sq,n,r⟩:=s;show#[k,j,p,vs,e,(aw _ _).seq ((ah a).seq sq),λl g=>?_];let⟨i,f⟩:=cV (xs:=jY vs (À k) none) ((S.go c).go a) g;show q _ _ (c.trans (a.trans i)) #[l,_,rfl,dz.of f,Nf.wk (b:=Á) (((S.go c).go a).ik g) f,?_]
    let ec:jY vs (À k) none=vs.drop ↥k:=by
     delta jY;let o:k=((↥k:Nat):Int):=by omega
     rw[o,HT.qk,HT.mz];simp only[Ó];by_cases d:↥k<= ~~~vs
     .rw[ahx d,aff (by rw[Ϟ];show Ā _)]
     .rw[ahm .f,afF (Ā _),afF .f];simp
    let h:=bu (λ_ _ z=>PyT.free (N':=Nf H0 Á) (λ_ _ t=>aH.rt ((ah a).trans (ah i)) t) z) (vt ↥k r);rw[<-ec] at h
    show h]]
def vJ{es:List Ô}{ds:List Dt}{k:Nat}(h:EA X U es b ds)(g: ~~~ds<=1000):E X U (.Tuple es k pos) b (Dt.mk (.tuple (ds.map Dt.d))):=by
 stop
  show aJ (Lz h) λY H Q ⟨H0,F,O,S,q⟩=>#[H0,F,O,S,λvs H1 a e=>#[by rw[bQ e];show ź (cI g),λp hp=>by
    let⟨c,f⟩:=wJ (xs:=vs) (S.go a) hp
    show q _ _ (a.trans c) (DN.tup f (Lp (bu (λ_ _ r=>ay (ah c) r) e)))]]
def zL(u:Int×Int):ï:=.tuple [.int u.1,.int u.2]
def V6{N:Nn}{v:V}(h:Py.rp K N H v u):DN K N H v (zL u):=by
 let⟨p,x,y,ev,sq,d,c⟩:=h;let b:x=V.int _:=d;let a:y=V.int _:=c;subst ev b a;show DN.tup sq (.cons (.int _) (.cons (.int _) .nil))
def Uy{N:Nn}{v:V}(h:DN K N H v (zL u)):Py.rp K N H v u:=by
 delta zL at h;cases h with
 |tup sq q =>
  cases q with
  |cons h1 q =>
   cases h1;cases q with
   |cons h2 q =>
    cases h2;cases q;show#[_,_,_,rfl,sq,rfl,rfl]
def P0(h:E X U e b u):E X U e b (Dt.mk (zL u)):=zN h λN H v r=>V6 r
def FD(h:E X U e b (Dt.mk (zL u))):E X U e b u:=zN h λN H v r=>Uy r
variable{D:GD}{γ:Type}[Py γ]{rest st:List Ï}
def xD[PyT M](i:Nat){as:List M}{p pl l:ð}(s:X.N.Nodup)(G:Gl X "list")(I:X.mg "list"=none)(ha:E X U e b as)(h:S X (U.set i (À (.own Á as))) rest D)(c:Ä [e] X.env=(Â,Õ e X.env)::Ä [] X.env<|>zra)(hi:X.N[i]?=À x<|>zra)(u:Loc X.env.scope x<|>zrf)
  (j:õ (.Call (.Name "list" pl) [e] [] p) (À (.Name x l)) pos.line X.env=pure Â<|>zra) (y:X.fn x=Á\/X.env.scope.names.lookup x=À .local<|>zrf):S X U (.Assign [.Name x l] (.Call (.Name "list" pl) [e] [] p) pos::rest) D:=by
 stop
  show eI (dU (tT s hi u (tO k7 G I agF (aC ha aV c) (he:=c)) j y) λα Y H ⟨H0,F,O,Z,n,_⟩=>#[H0,F,O,Z,λv H1 m L=>by
    let⟨A,vs,ev,sq,nn,r⟩:=L;show#[A,vs,by rw[ev],.inl ((aw _ _).seq sq),λq f=>?_];let K:=dt f (.lst vs);let g:H q=none:=m.free f
    let kp:aH (off H1 O) (off (upd H1 q (.lst vs)) λp=>O p\/p=q):=λa o w=>by
     let⟨C,k⟩:=kE w;let d:a≠q:=bY k f;rwa[bE (by rintro(z|z);show C z;show d z),aU d]
    let⟨B,J⟩:=Z.zA (i:=i) (v:=.ref q) (m.trans K) (·=q) (λr e=>by subst e;show#[g,.inl vs,bp]) (Bd.own Á as) Ê ⟨q,vs,rfl,rfl,bp,bu (λ_ _ z=>PyT.free (λ_ _ t=>aH.rt kp t) z) r⟩
    show n _ _ _ _ J B h])
end
section
variable{P:Ð}{w:Ø}{K:Ã}{mg:Ì->Option Å}{base h:Û}{N:List Ì}{k:Nat}{x y:Ì}{st:Ï}{C:Ç}{c:Ì}
end
structure fw where
 i:Int
 j:Int
 x:Int×Int
 y:Int×Int
def xv(s:fw):ï:=.tuple [.int s.i,.int s.j,zL s.x,zL s.y]
section
variable{X:Cx}{R:RB}{U:aI}{D:GD}{M β γ δ:Type}[Py M][Py β][Py γ][Py δ]{e e1 e2 e3:Ô}{b b1 b2 b3:Bool}{p pos:ð}{rest st:List Ï}{C:Ç}{name:Ì}{k:Nat}{ps:List Ì}
def K4{s:fw}(h:E X U e b (Dt.mk (xv s)))(h2:E X U e2 b2 .N)(c:iw e2<|>zrj):E X U (.Subscript e e2 pos) b s.i:=JB (vQ (a:=Dt.mk (.int s.i)) (As (ds:=[.int s.i,.int s.j,zL s.x,zL s.y]) h) h2 rfl c)
def Mj{s:fw}(h:E X U e b (Dt.mk (xv s)))(h2:E X U e2 b2 .M)(c:iw e2<|>zrj):E X U (.Subscript e e2 pos) b s.j:=JB (vQ (a:=Dt.mk (.int s.j)) (As (ds:=[.int s.i,.int s.j,zL s.x,zL s.y]) h) h2 rfl c)
def Jk{s:fw}(h:E X U e b (Dt.mk (xv s)))(h2:E X U e2 b2 .O)(c:iw e2<|>zrj):E X U (.Subscript e e2 pos) b s.x:=FD (vQ (a:=Dt.mk (zL s.x)) (As (ds:=[.int s.i,.int s.j,zL s.x,zL s.y]) h) h2 rfl c)
def KW{s:fw}(h:E X U e b (Dt.mk (xv s)))(h2:E X U e2 b2 (3:Int))(c:iw e2<|>zrj):E X U (.Subscript e e2 pos) b s.y:=FD (vQ (a:=Dt.mk (zL s.y)) (As (ds:=[.int s.i,.int s.j,zL s.x,zL s.y]) h) h2 rfl c)
end
def Oq(r r' a:R2)(ta tb tc h:TE):TE:=λY H Q=>ta Y H λx H1=>tb Y H1 λy H2=>r x y H2 λz c=>∃k,z=.bl k /\
 (if k=Á then tc Y c λw g=>r' y w g λe b=>∃d,e=.bl d/\(if d=Á then h Y b λu f=>a w u f Q else Q (.bl Â) b) else Q (.bl Â) c)
def G8{X:Cx}{a b c d:Ô}{ta tb tc w:TE}{pos:ð}{op g f:ũ}{r r' j:R2}(J:mx X (ç op) r)(l:mx X (ç g) r')(i:mx X (ç f) j)(ha:PE X a ta)(hb:PE X b tb)(P:PE X c tc)(S:PE X d w)
  (hm:ŉ [op,g,f] [b,c,d]=Â<|>zrg):PT X (.Compare a [op,g,f] [b,c,d] pos) (L5 (Oq r r' j ta tb tc w)):=by
 intro ZB s Y H Q I h
 show isTrue_chain (cK (ha ZB s Y H _ I h) λv T ⟨x,H1,Γ,r1,q1⟩=>test_link (cK (hb ZB T Y H1 _ Γ q1) λu s2 ⟨y,H2,I2,p,G⟩ =>
  cK (J ZB s2 Y H2 x y v u _ I2 r1 p G) λd s3 ⟨z,B,q,α,k,e,E⟩=>?_)) hm
 subst e;cases α;show ϝ ?_;cases k with
 |false =>
  let⟨O,m,n⟩:=E;cases m;show ite_ff #[B,q,n]
 |true =>
  show ite_tt (test_link (cK (P ZB s3 Y B _ q E) λC s4 ⟨t,H4,σ,A,N⟩=>cK (l ZB s4 Y H4 y t u C _ σ p A N) λd' s5 ⟨z2,o,F,r5,k2,e2,D⟩=>?_));subst e2;cases r5;show ϝ ?_;cases k2 with
  |false =>
   let⟨O,m,n⟩:=D;cases m;show ite_ff #[o,F,n]
  |true =>
   show ite_tt (test_last (cK (S ZB s5 Y o _ F D) λR L ⟨Z,H6,I6,r6,W⟩=>cK (i ZB L Y H6 t Z C R _ I6 A r6 W) λd3 s7 ⟨z4,K,I7,r7,k3,e3,V⟩=>?_));subst e3;cases r7;show ϝ #[K,I7,V]
section
variable{X:Cx}{U:aI}{M β γ δ:Type}[Py M][Py β][Py γ][Py δ]{e1 e2 e3 e4:Ô}{b1 b2 b3 b4:Bool}{pos:ð}
def Kb{op b a:ũ}{x:M}{y:β}{z:γ}{t:δ}{c c' d:Bool}(h1:CV X op x y c)(h2:CV X b y z c')(α:CV X a z t d)(ha:E X U e1 b1 x)(C:E X U e2 b2 y)(I:E X U e3 b3 z)(J:E X U e4 b4 t)(D:ŉ [op,b,a] [e2,e3,e4]=Â<|>zrg):T X U (.Compare e1 [op,b,a] [e2,e3,e4] pos) (c&&(c'&&d)):=by
 stop
  let⟨r,B,L⟩:=h1;let⟨r',j,k⟩:=h2;let⟨G,g,h⟩:=α
  show t8 (G8 B j g ha C I J D) λY H Q ⟨H0,F,O,S,q⟩=>#[H0,F,O,S,λv H1 f K=>#[H0,F,O,S.go f,λw H2 e l =>
   L _ _ H2 v w _ (ay ((ah e).trans (aw _ _)) K) (ay (aw _ _) l) #[c,rfl,by
    cases c with
    |false=>show#[Â,rfl,q H2 (f.trans e)]
    |true=>show#[H0,F,O,(S.go f).go e,λu m i n=>k _ _ m w u _ (ay ((ah i).trans (aw _ _)) l) (ay (aw _ _) n) #[c',rfl,by
      cases c' with
      |false=>show#[Â,rfl,q m (f.trans (e.trans i))]
      |true=>show#[H0,F,O,((S.go f).go e).go i,λA p o s=>h _ _ p u A _ (ay ((ah o).trans (aw _ _)) n) (ay (aw _ _) s) #[d,rfl,q p (f.trans (e.trans (i.trans o)))]]]]]]]
variable{D:GD}{e:Ô}{ip px py:ð}{rest body:List Ï}
end
@[irreducible] def EX{M:Type}[Py M](X:Cx)(U:aI)(e:Ô)(b:Bool)(post:M->Prop):Prop:=PE X e λY H Q=>∃H0 F O,e9 X.K H0 F O U Y H/\∀a v H',post a->aH H H'->Py.rp X.K (Nf H0 b) (off H' O) v a->Q v H'
def yc{M:Type}[Py M](b:Bool)(post:M->Prop):GD:={nx:=λ_=>False,rt:=λg=>∃a,post a/\g=.val b a}
def pL{M β:Type}[Py M][Py β](K:Ã)(pre:M->Prop)(b:Bool)(post:M->β->Prop):Sp:=λvs H Q _=>∃O v a,mh H O/\vs=[v]/\Py.rp K .any .F v a/\pre a/\∀z r H',post a z->aH H H'->Py.rp K (Nf H b) (off H' O) r z->Q r H'
def uz{M β γ:Type}[Py M][Py β][Py γ](K:Ã)(pre:M->β->Prop)(b:Bool)(post:M->β->γ->Prop):Sp:=λvs H Q _=>∃O v w a c,mh H O/\vs=[v,w]/\Py.rp K .any .F v a/\Py.rp K .any .F w c/\pre a c/\∀z r H',post a c z->aH H H'->Py.rp K (Nf H b) (off H' O) r z->Q r H'
def Dg{M β γ δ:Type}[Py M][Py β][Py γ][Py δ](K:Ã)(pre:M->β->γ->Prop)(b:Bool)(post:M->β->γ->δ->Prop):Sp:=λvs H Q _=>∃O v w x a c d,mh H O/\vs=[v,w,x]/\Py.rp K .any .F v a/\Py.rp K .any .F w c/\Py.rp K .any .F x d/\pre a c d/\∀z r H',post a c d z->aH H H'->Py.rp K (Nf H b) (off H' O) r z->Q r H'
section
variable{X:Cx}{U:aI}{D:GD}{M β γ δ:Type}[Py M][Py β][Py γ][Py δ]{e e1 e2 e3:Ô}{b b1 b2 b3:Bool}{p pos:ð}{rest:List Ï}{k:Nat}{name:Ì}{ps:List Ì}
def j8{pre:M->Prop}{post:M->β->Prop}{a:M}(C:aE X.prog X.w X.K X.mg X.base k name ps (pL X.K pre b post))(i:c7 zkk X.A)(h1:E X U e1 b1 a)(hp:pre a)
  (c:Ä [e1] X.env=(Â,Õ e1 X.env)::Ä [] X.env<|>zra) (d:(name==("__debug__":Ì))=Â<|>zrb) (hpl:(ã pos (Ä [] X.env)).any (·.1)=Â<|>zra)(kzz:k<=zkk<|>zrb)(f:Gl X name<|>zra):
  EX X U (.Call (.Name name p) [e1] [] pos) b (post a):=by
 stop
  let⟨l,fd,F,B,kp,m⟩:=C.ex
  show aJ (d9 F (i.mono kzz) f m kp B .nil jD (aC h1 aV c) d c hpl) λY H Q ⟨H0,F,O,S,q⟩=>#[H0,F,O,S,λj H1 e h =>
   #[O,j,a,(S.go e).own,rfl,aT aR h,hp,λz r H' hz s' g=>q z r H' hz (e.trans s') ((S.go e).back g)]]
def j_{pre:M->β->Prop}{post:M->β->γ->Prop}{a:M}{c:β}(C:aE X.prog X.w X.K X.mg X.base k name ps (uz X.K pre b post))(s:c7 zkk X.A)(h1:E X U e1 b1 a)(h2:E X U e2 b2 c)(hp:pre a c)
  (d:Ä [e1,e2] X.env=(Â,Õ e1 X.env)::Ä [e2] X.env<|>zra) (h:Ä [e2] X.env=(Â,Õ e2 X.env)::Ä [] X.env<|>zra) (g:(name==("__debug__":Ì))=Â<|>zrb) (hpl:(ã pos (Ä [e2] X.env)).any (·.1)=Â<|>zra)(kzz:k<=zkk<|>zrb)(j:Gl X name<|>zra):
  EX X U (.Call (.Name name p) [e1,e2] [] pos) b (post a c):=by
 stop
  let⟨u,fd,F,B,kp,m⟩:=C.ex
  show aJ (d9 F (s.mono kzz) j m kp B .nil jD (aC h1 (aC h2 aV h) d) g d hpl) λY H Q ⟨H0,F,O,S,q⟩=>#[H0,F,O,S,λt H1 f o=>#[H0,F,O,S.go f,λi H2 e l =>
   #[O,t,i,a,c,(S.go (f.trans e)).own,rfl,aT aR (ay (ah e) o),aT aR l,hp,λz r H' hz s' n=>q z r H' hz (f.trans (e.trans s')) ((S.go (f.trans e)).back n)]]]
def LO{pre:M->β->γ->Prop}{post:M->β->γ->δ->Prop}{a:M}{c:β}{d:γ}(C:aE X.prog X.w X.K X.mg X.base k name ps (Dg X.K pre b post))(y:c7 zkk X.A)(h1:E X U e1 b1 a)(h2:E X U e2 b2 c)(D:E X U e3 b3 d)(hp:pre a c d)
  (e:Ä [e1,e2,e3] X.env=(Â,Õ e1 X.env)::Ä [e2,e3] X.env<|>zra) (j:Ä [e2,e3] X.env=(Â,Õ e2 X.env)::Ä [e3] X.env<|>zra) (l:Ä [e3] X.env=(Â,Õ e3 X.env)::Ä [] X.env<|>zra)
  (i:(name==("__debug__":Ì))=Â<|>zrb) (hpl:(ã pos (Ä [e2,e3] X.env)).any (·.1)=Â<|>zra)(kzz:k<=zkk<|>zrb)(o:Gl X name<|>zra):
  EX X U (.Call (.Name name p) [e1,e2,e3] [] pos) b (post a c d):=by
 stop
  let⟨J,fd,F,B,kp,m⟩:=C.ex
  show aJ (d9 F (y.mono kzz) o m kp B .nil jD (aC h1 (aC h2 (aC D aV l) j) e) i e hpl) λY H Q ⟨H0,F,O,S,q⟩=>#[H0,F,O,S,λG H1 g x=>#[H0,F,O,S.go g,λn H2 f s=>#[H0,F,O,S.go (g.trans f),λt I h u =>
   #[O,G,n,t,a,c,d,(S.go (g.trans (f.trans h))).own,rfl,aT aR (ay ((ah f).trans (ah h)) x),aT aR (ay (ah h) s),aT aR u,hp,λz r H' hz s' v=>q z r H' hz (g.trans (f.trans (h.trans s'))) ((S.go (g.trans (f.trans h))).back v)]]]]
def F4{a:M}{post:M->Prop}(h:E X U e b a)(hp:post a):EX X U e b post:=by stop show aJ h λY H Q ⟨H0,F,O,S,q⟩=>#[H0,F,O,S,λv H' s' r=>q a v H' hp s' r]
def jJ(i:Nat){post:M->Prop}{p:ð}(j:X.N.Nodup)(he:EX X U e b post)(h:∀a,post a->S X (U.set i (À (.val b a))) rest D)(hi:X.N[i]?=À x<|>zra)(f:Loc X.env.scope x<|>zrf)
  (d:õ e (À (.Name x p)) pos.line X.env=pure Â<|>zra) (g:X.fn x=Á\/X.env.scope.names.lookup x=À .local<|>zrf):S X U (.Assign [.Name x p] e pos::rest) D:=by stop show eI (dU (tT j hi f he d g) λl Y H ⟨H0,F,O,Z,n,_⟩=>#[H0,F,O,Z,λa v H1 hz c k=>n _ _ H1 O (ah c) ((Z.go c).set k) (h a hz)])
def Ol(i j:Nat){y:Ì}{post:M×β->Prop}{a p2 c:ð}{k:Nat}(g:X.N.Nodup)(he:EX X U e b post)(h:∀u,post u->S X ((U.set i (À (.val b u.1))).set j (À (.val b u.2))) rest D)(r:X.calm=Á<|>zra)(hi:X.N[i]?=À x<|>zra)(s:X.N[j]?=À y<|>zra)
  (t:Loc X.env.scope x<|>zrf) (G:Loc X.env.scope y<|>zrf)
  (z:X.fn x=Á\/X.env.scope.names.lookup x=À .local<|>zrf) (d:X.fn y=Á\/X.env.scope.names.lookup y=À .local<|>zrf)
  (m:ŕ [.Tuple [.Name x a,.Name y p2] k c] e pos.line X.env=pure Â<|>zra) (E:Ŗ [.Tuple [.Name x a,.Name y p2] k c] e X.env=pure none<|>zra)
  (h1:(ä [.Tuple [.Name x a,.Name y p2] k c] X.env).map (·.2)=[ď (.Tuple [.Name x a,.Name y p2] k c) X.env]<|>zra) (L: ~~~(ä [.Name x a,.Name y p2] X.env)=2<|>zra)
  (p:(ä [.Name x a,.Name y p2] X.env).findIdx? (·.1)=none<|>zra) (o:ä [.Name x a,.Name y p2] X.env=(Â,ď (.Name x a) X.env)::ä [.Name y p2] X.env<|>zra) (A:ä [.Name y p2] X.env=(Â,ď (.Name y p2) X.env)::ä [] X.env<|>zra):
  S X U (.Assign [.Tuple [.Name x a,.Name y p2] k c] e pos::rest) D:=by
 stop
  show eI (dU (Et he (Eo r (kF (lF g hi t z) (kF (lF g s G d) zr))) m E h1) λK Y H ⟨H0,F,O,Z,n,_⟩=>#[H0,F,O,Z,λu v H1 hz l C=>by
    let⟨q,J,f,w,sq,B,I⟩:=C;show#[q,_,w,wF (aw _ _) sq,rfl,J,[f],rfl,f,[],rfl,rfl,?_]
    show n _ _ H1 O (ah l) (((Z.go l).set B).set I) (h u hz)])
variable{P:Ð}{w:Ø}{K:Ã}{mg:Ì->Option Å}{base:Û}{N:List Ì}{x qual:Ì}{st:Ï}{f:Ç}{fd:í}
def kr{gs:List Bd}{vs:List V}{O:Ç->Prop}{M:Type}[Py M]{b:Bool}{post:M->Prop}{Q:VK}{c:Å}{outer:List ő}{E:XK}(B:⇑Body N qual st f k gs (yc b post))(j:c7 k (A.deeper (ħ qual (af st) s⁻¹ f c)))
  (d:mh H O) (h:Args K .F vs gs) (q:∀a r H',post a->aH H H'->Py.rp K (Nf H b) (off H' O) r a->Q r H'):
  ∃t,ui (vS p8 P w K mg base N qual (af st) f c A outer s H E).Qn (bJ st) t/\t {nx:=λ_ H'=>Q .non H',rt:=Q} (start N vs) H:=by stop show#[_,B c A outer s H E j,H,O,O,oH d h,λ_ _ _ _ _ _ z=>z.elim,λg v H' sm z e=>?_,λ_ _ _ _ _ _ z=>z.elim,λ_ _ _ _ _ _ z=>z.elim];let⟨a,ha,i⟩:=e;subst i;show q a v H' ha sm z
def HR{M β:Type}[Py M][Py β]{pre:M->Prop}{b:Bool}{post:M->β->Prop}(F:pW K x qual st f fd)(d:ao N ps (af st))(g: ~~~ps=1)(B:∀a,pre a->⇑Body N qual st f k [.val Â a] (yc b (post a))):
  dC P w K mg base p8 (k+1) f fd ps (pL K pre b post):=by
 stop
  show F.ok d (λvs H Q E h=>?_) λe A outer s H vs Q E i h=>?_
  .let⟨O,v,a,_,rfl,_⟩:=h;rw[g];rfl
  .let⟨O,v,a,c,rfl,r,hp,q⟩:=h;show kr (B a hp) i c (.cons r .nil) q
def My{M β γ:Type}[Py M][Py β][Py γ]{pre:M->β->Prop}{b:Bool}{post:M->β->γ->Prop}(F:pW K x qual st f fd)(i:ao N ps (af st))(j: ~~~ps=2)(B:∀a c,pre a c->⇑Body N qual st f k [.val Â a,.val Â c] (yc b (post a c))):
  dC P w K mg base p8 (k+1) f fd ps (uz K pre b post):=by
 stop
  show F.ok i (λvs H Q E h=>?_) λl A outer s H vs Q E m h=>?_
  .let⟨O,v,d,a,c,_,rfl,_⟩:=h;rw[j];rfl
  .let⟨O,v,d,a,c,e,rfl,r,g,hp,q⟩:=h;show kr (B a c hp) m e (.cons r (.cons g .nil)) q
def VE{M β γ δ:Type}[Py M][Py β][Py γ][Py δ]{pre:M->β->γ->Prop}{b:Bool}{post:M->β->γ->δ->Prop}(F:pW K x qual st f fd)(j:ao N ps (af st))(m: ~~~ps=3)(B:∀a c d,pre a c d->⇑Body N qual st f k [.val Â a,.val Â c,.val Â d] (yc b (post a c d))):
  dC P w K mg base p8 (k+1) f fd ps (Dg K pre b post):=by
 stop
  show F.ok j (λvs H Q E h=>?_) λo A outer s H vs Q E p h=>?_
  .let⟨O,v,e,l,a,c,d,_,rfl,_⟩:=h;rw[m];rfl
  .let⟨O,v,e,l,a,c,d,g,rfl,r,i,n,hp,q⟩:=h;show kr (B a c d hp) p g (.cons r (.cons i (.cons n .nil))) q
end
section
variable{X:Cx}{U:aI}{D:GD}{M β γ:Type}[Py M][Py β][Py γ]{e e1 e2:Ô}{b b1 b2:Bool}{pos:ð}{rest st:List Ï}
def mI{post:M->Prop}(he:EX X U e b post)(h:∀a,post a->D.rt (.val b a)):S X U (.Return (À e) pos::rest) D:=by stop show eI (dU (CM he) λf Y H ⟨H0,F,O,Z,n,r,_⟩=>#[H0,F,O,Z,λa v H1 hz c d=>r (.val b a) v H1 ((Z.go c).same) (ay (kG Z.fo) d) (h a hz)])
variable{δ ε:Type}[Py δ][Py ε]{e3 e4:Ô}{b3 b4:Bool}{p:ð}{k:Nat}{name:Ì}{ps:List Ì}
def Oz{pre:M->β->γ->δ->Prop}{f:M->β->γ->δ->ε}{a:M}{c:β}{d:γ}{post:δ->Prop}(C:aE X.prog X.w X.K X.mg X.base k name ps (Gn X.K pre b f))(L:c7 zkk X.A)(h1:E X U e1 b1 a)(h2:E X U e2 b2 c)(α:E X U e3 b3 d)(D:EX X U e4 b4 post)(hp:∀g,post g->pre a c d g)
  (l:Ä [e1,e2,e3,e4] X.env=(Â,Õ e1 X.env)::Ä [e2,e3,e4] X.env<|>zra) (s:Ä [e2,e3,e4] X.env=(Â,Õ e2 X.env)::Ä [e3,e4] X.env<|>zra) (u:Ä [e3,e4] X.env=(Â,Õ e3 X.env)::Ä [e4] X.env<|>zra) (t:Ä [e4] X.env=(Â,Õ e4 X.env)::Ä [] X.env<|>zra)
  (o:(name==("__debug__":Ì))=Â<|>zrb) (hpl:(ã pos (Ä [e2,e3,e4] X.env)).any (·.1)=Â<|>zra)(kzz:k<=zkk<|>zrb)(n:Gl X name<|>zra):
  EX X U (.Call (.Name name p) [e1,e2,e3,e4] [] pos) b (λr=>∃g,post g/\r=f a c d g):=by
 stop
  let⟨R,fd,F,B,kp,m⟩:=C.ex
  show aJ (d9 F (L.mono kzz) n m kp B .nil jD (aC h1 (aC h2 (aC α (aC D aV t) u) s) l) o l hpl) λY H Q ⟨H0,F,O,S,q⟩=>#[H0,F,O,S,λN H1 h J=>#[H0,F,O,S.go h,λx H2 e y=>#[H0,F,O,S.go (h.trans e),λz P j G=>#[H0,F,O,S.go (h.trans (e.trans j)),λg v4 T n i v =>
   #[O,N,x,z,v4,a,c,d,g,(S.go (h.trans (e.trans (j.trans i)))).own,rfl,aT aR (ay ((ah e).trans ((ah j).trans (ah i))) J),aT aR (ay ((ah j).trans (ah i)) y),aT aR (ay (ah i) G),aT aR v,hp g n,λr H' s' I=>q _ r H' #[g,n,rfl] (h.trans (e.trans (j.trans (i.trans s')))) ((S.go (h.trans (e.trans (j.trans i)))).back I)]]]]]
end
open PySem PySem.Spec PyProof.Rows L2.Sx
def uU(ns:.L):.L:=ns.mergeSort λa b=>decide (a<=b)
def Au(ns:.L):(uU ns).Perm ns/\(uU ns).Pairwise (·<=·):=by
 show#[List.mergeSort_perm _ _,?_];let:=List.pairwise_mergeSort (le:=λa b:Int=>decide (a<=b)) (λa b c h1 h2=>by simp at *;lia) (λa b=>by simp;lia) ns;show this.imp λh=>by simpa using h
def SN{m ns:.L}(h1:m.Perm ns)(h2:m.Pairwise (·<=·)):m=uU ns :=
 List.Perm.eq_of_pairwise (λ_ _ _ _ h h'=>Int.le_antisymm h h') h2 (Au ns).2 (h1.trans (Au ns).1.symm)
section
variable{X:Cx}{U:aI}{D:GD}{M β γ:Type}[Py M][Py β][Py γ]{e e1 e2 ek ev ek2 ev2:Ô}{b b1 b2 b3 b4:Bool}{pos:ð}{rest st:List Ï}
def Du:jy X (.builtin "sorted") (λxs H Q=>∃p,∃ns:.L,xs=[.ref p]/\dz X.K H p (ns.map V.int)/\~~~ns<64/\∀l,H l=none->Q (.ref l) (upd H l (.lst ((uU ns).map V.int)))):=by
 intro ZB s Y H xs us Q I r h;let⟨p,ns,rfl,sq,a,q⟩:=h;let⟨u,rfl,m⟩:=vals1 r;cases m;let⟨YU,d,pl,_⟩:=I.list sq;let hi:=intsAre_of d;let j: ~~~YU= ~~~ns:=by rw[<-~~~d,ċ]
 show sorted_ints pl.isList hi (by rwa[j]) λb g k f i=>?_;let e:=SN f i;subst e;let⟨c,n⟩:=sortedAll_at s.heap YU b
 let lo: ~~~((uU ns).map V.int)<=sizeLine:=by
  rw[ċ,f.length_eq];show Ń (ź a) .a
 show#[.ref (s⁻¹+1),_,I.laid (t':=s.toks) (o:=.lst ((uU ns).map V.int)) (λ_ _=>sortedAll_old) (af6 _) #[lo,b.toList,_,vq k,n],rfl,q _ (I.hok.fresh (af6 _))]
def M4{ns:.L}{p:ð}(h:Gl X "sorted")(o:X.mg "sorted"=none)(ha:E X U e b ns)(d: ~~~ns<64)(f:Ä [e] X.env=(Â,Õ e X.env)::Ä [] X.env<|>zra):E X U (.Call (.Name "sorted" p) [e] [] pos) Á (uU ns):=by
 stop
  show aJ (d7 Du h o boot_sorted (aC ha aV f) (he:=f)) λY H Q ⟨H0,F,O,S,q⟩=>#[H0,F,O,S,λv H1 c k=>by
    let⟨p,vs,e,sq,n,r⟩:=k;rw[pJ r] at sq;show#[p,ns,by rw[e],(aw _ _).seq sq,d,λl a=>?_];let⟨i,g⟩:=cV (xs:=(uU ns).map V.int) (S.go c) a;show q _ _ (c.trans i) #[l,_,rfl,dz.of g,Nf.wk (b:=Á) ((S.go c).ik a) g,?_];generalize uU ns=m
    induction m with
    |nil=>show .nil
    |cons x m j=>show .cons rfl j]
end
end L2.EP
namespace L2.Sx
open PySem PyProof.Rows PySem.Spec PySem.W PySem.Calls
section
variable{p:Ð}{w:Ø}{A:å}{E:Å->Æ->Prop}{s:Æ}{d:Ç}{YY:List (Key×Å)}
end
end L2.Sx
namespace L2.EP
open PySem PySem.Spec PyProof.Rows L2.Sx
section
variable{X:Cx}{U:aI}{D:GD}{M β γ:Type}[Py M][Py β][Py γ]{e e1 e2 ek ev ek2 ev2:Ô}{b b1 b2 b3 b4:Bool}{pos:ð}{rest st:List Ï}
end
open PySem PySem.Spec PyProof.Rows
section
variable{X:Cx}{U:aI}{D:GD}{M β γ:Type}[Py M][Py β][Py γ]{e e1 e2:Ô}{b b1 b2:Bool}{pos p:ð}{rest st:List Ï}{k:Nat}{name:Ì}{ps:List Ì}
end
end L2.EP
namespace L2.Srt
open PySem PyProof.Rows
noncomputable def Us:Code->Option Å->Option Bool
 |.call (.builtin id) ⟨[.int a _,.int b _],[]⟩,none=>bif id=="int.__lt__" then À (decide (a<b)) else none
 |_,_=>none
def ev(S:Setting){M:Type}(t:Sem M):Option M :=
 Sem.rec (motive:=λ_=>Option M) À (λ_=>none) (λ_=>none) (λ_=>none)
  (λ_ _ a=>a ()) (λ_ _ _=>none) (λ_ _ _ _=>none) (λ_ _ _ _ _=>none) (λ_ _ _=>none) (λ_ _ _=>none) (λ_ _ _=>none) (λ_ _ _=>none) (λ_ _=>none)
  (λ_ a=>a S) (λ_ _ _ _=>none) (λ_ _ _ _=>none) (λc h _ _ _ a=>(Us c h).elim none λb=>a (.ok (.ret (.bool b))))
  (λ_ _ _=>none) (λ_ _ _=>none) (λ_ _ _=>none) (λ_ _ _ _ _=>none) (λ_ _ _ _ _=>none) (λ_ _=>none) (λ_ _ _=>none) (λ_ _=>none) (λ_ _ _ _ _ _=>none) t
section
variable{w:Ø}{prog:Ð}{s:Æ}{E:Å->Æ->Prop}{A:å}
def Tj{c:Code}{h:Option Å}{b:Bool}(e:Us c h=À b):h=none/\∃x t y u,c=.call (.builtin "int.__lt__") #[[.int x t,.int y u],[]]/\b=decide (x<y):=by
 delta Us at e;split at e
 .rename_i id x t y u;cases z:id=="int.__lt__"
  .rw[z] at e;cases e
  .rw[z] at e;cases e;cases eq_of_beq z;show#[rfl,_,_,_,_,rfl,rfl]
 .cases e
def V1{M:Type}{Q:M->Æ->Prop}{a:M}(t:Sem M)(e:ev #[prog,w.params] t=À a)(q:Q a s):Ë (Î prog w) A t Q E s:=by
 intro U p g
 induction t with
 |pure b=>cases e;show q
 |rule _ k d=>show d () e
 |ask k d=>show d _ e
 |call c h _ _ k d =>
  let e:(Us c h).elim none (λb=>ev #[prog,w.params] (k (.ok (.ret (.bool b)))))=À a:=e;cases f:Us c h with
  |none=>rw[f] at e;cases e
  |some b =>
   rw[f] at e;let⟨rfl,x,t,y,u,rfl,rfl⟩:=Tj f
   let z:ě (Î prog w) A (.call (.builtin "int.__lt__") #[[.int x t,.int y u],[]]) (λr s'=>r=.ok (.ret (.bool (decide (x<y))))/\s'=s) s:=by
    show ahE slot_int_lt.plain entry_int_lt (slot_int_lt.check _ _ _ _ _ _ _ _ (typeIs_int s x t) (args_int_lt _ _) ?_);show û #[rfl,rfl]
   show ags z (λr s' h=>?_) _ p rfl (g.enter _ none p (by intro x;cases x));let⟨rfl,rfl⟩:=h;show d _ e
 |_=>cases e
noncomputable def F7:.L:=[2,3,5,7,11,13].foldl (λl p=>l++l.map (·*p)) [1,-1]
def tq(n:Int):Int:=if n<0 then -n else n
noncomputable def sg:List Nat:=[0,1,2,3,4,5,8,9,6,7,16,17,10,11,32,33,64,65,18,19,12,13,20,21,34,35,66,67,14,15,36,37,24,25,68,69,22,23,40,41,72,73,38,39,26,27,48,49,70,71,80,81,28,29,42,43,74,75,96,97,50,51,44,45,82,83,76,77,30,31,52,53,84,85,98,99,46,47,56,57,78,79,100,101,88,89,54,55,86,87,104,105,58,59,102,103,90,91,112,113,60,61,92,93,106,107,114,115,108,109,62,63,94,95,116,117,110,111,120,121,118,119,122,123,124,125,126,127]
def lk(T Γ:Nat->Tok):List Keyed:=F7.zipIdx.map λp=>(.int (tq p.1) (T p.2),.int p.1 (Γ p.2))
noncomputable def S0(prog:Ð)(pr:Ν)(b:Bool):Setting:=#[prog,{pr with followText:=λs=>bif s=="special-get-raises" then b else pr.followText s}]
def Ud(pr:Ν)(b:Bool)(T Γ:Nat->Tok):((ev (S0 prog pr b) (sortRuns' (SortSt.mk' oneType' (lk T Γ).toArray #[] 7 none))).map λx=>(Ż x.2,failedOf x.2))=À ((sg.map λi=>(lk T Γ).getD i (.none,.none)).toArray,none):=by
 cases b<;>kernel_rfl
def Ux(T Γ:Nat->Tok):lk T Γ=(Ö 128).map λi=>(lk T Γ).getD i (.none,.none):=by kernel_rfl
def Ng:sg.Perm (Ö 128):=by decide +kernel
def Vg(prog:Ð)(pr:Ν):(#[prog,pr]:Setting)=S0 prog pr (pr.followText "special-get-raises"):=by
 let:pr.followText=λs=>bif s=="special-get-raises" then pr.followText "special-get-raises" else pr.followText s:=by
  funext s;cases z:s=="special-get-raises"
  .rfl
  .cases eq_of_beq z;rfl
 delta S0;rw[<-this]
def Uz(T Γ:Nat->Tok):wpS (Î prog w) A E s sortRuns' (λ_ st=>failedOf st=none/\(Ż st).toList.Perm (lk T Γ)) (SortSt.mk' oneType' (lk T Γ).toArray #[] 7 none):=by
 let⟨x,e,z⟩:=Option.map_eq_some_iff.mp (Ud (prog:=prog) w.params (w.params.followText "special-get-raises") T Γ);rw[<-Vg] at e;let b:=congrArg Prod.fst z;let a:=congrArg Υ z;dsimp only at b a;show V1 _ e #[rfl,a,?_];rw[b]
 conv=>rhs;rw[Ux]
 rw[List.toList_toArray];show Ng.map _
def Ft{vs:List Å}{ns:.L}(h:ñ vs ns):∃Γ:Nat->Tok,vs=ns.zipIdx.map λp=>.int p.1 (Γ p.2):=by
 show#[λi=>match vs.getD i .none with|.int _ t=>t|_=>0,ah1 λi=>?_];rw[ł,List.getElem?_zipIdx];cases e:ns[i]? with
 |none=>show ah5.mpr (~~~h▸ah5.mp e)
 |some n =>
  let⟨t,a⟩:=h.get i n e;simp[a]
variable{vs:List Å}{ns:.L}{a kS l:Ç}{keys:Array Å}{e e1:Nat}{P:PySem.Fin->Æ->Prop}{Q:Å->Æ->Prop}
theorem B6:∀{vs:List Å},(∀v∈vs,∃n t,v=Ė n t)->ñ vs (vs.map numOf):=@zrL _ _ (@λ_=>.nil) @λv vs B6 h=>by
  let⟨n,t,rfl⟩:=h v (ġ ..);show .cons n t (B6 λu a=>h u (ę _ a))
def Hh{us vs:List Å}{ns:.L}(h:us.Perm vs)(a:ñ vs ns):∃b,ñ us b/\b.Perm ns:=by
 show#[us.map numOf,B6 λv c=>a.all v (h.mem_iff.mp c),?_];rw[<-a.nums];show h.map _
def Kp(a kS:Ç)(h h':Û):Prop:=∀b o,b≠a->b≠kS->h.get? b=À o->h'.get? b=À o
def QH{st:SortSt}(p:s.heap.get? kS=À (é "list" keys e))(m:s.heap.get? a=À (é "list" #[] e1))(g:kS≠a)(hz:keys.size<=1000)(f:(Ż st).size<=1000)(i:failedOf st=none)
  (h:∀h' tk c,Kp a kS s.heap h'->h'.get? a=À (é "list" ((Ż st).map (·.2)) c)->P (.done (.ret .none)) {s with heap:=h',toks:=tk}):Ë (Î prog w) A (ksk_tail a Â e1 (.ref kS) st) P E s:=by
 let k:=Τ s.heap kS (Ú λ_=>(#[]:Array Å));let d:(s.heap.update kS (Ú λ_=>(#[]:Array Å))).get? a=À (é "list" #[] e1):=(k.2 a g.symm).trans m;let n:=Τ (s.heap.update kS (Ú λ_=>(#[]:Array Å))) a (Ú λ_=>(Ż st).map (·.2));obtain⟨c2,j⟩:∃c2,((s.heap.update kS (Ú λ_=>(#[]:Array Å))).update a (Ú λ_=>(Ż st).map (·.2))).get? a=À (é "list" ((Ż st).map (·.2)) c2):=#[_,ag2 d λ_=>(Ż st).map (·.2)];let q:((Ż st).map (·.2)).size<=1000:=by rwa[Array.size_map]
 unfold ksk_tail;dsimp only;show Ü (ahV p rfl ?_ (by rw[agq];lia) (ş _));show Ü (wpAny_letGo (Ü (seqEpoch_at d rfl ?_)));show Ü (ahV d rfl ?_ (ş _) (by change((Ż st).map (·.2)).size<=_;rw[agq];lia));rw[i];simp only[agQ,agB,bne_self_eq_false];show û (h _ _ c2 (λb o b1 b2 l=>?_) j);show(n.2 b b1).trans ((k.2 b b2).trans l)
def s_end(p:s.heap.get? kS=À (é "list" keys e))(k:s.heap.get? a=À (é "list" #[] e1))(f:kS≠a)(d:ñ keys.toList (F7.map tq))(i:ñ vs F7)
  (h:∀h' tk b c,Kp a kS s.heap h'->h'.get? a=À (é "list" b c)->b.toList.Perm vs->P (.done (.ret .none)) {s with heap:=h',toks:=tk}):Ë (Î prog w) A (ksk_end a Â vs.toArray e1 (.ref kS) keys) P E s:=by
 let r: ~~~vs=128:= ~~~i;let j:keys.size=128:=(ŝ (xs:=keys)).symm.trans (~~~d);let⟨Γ,g⟩:=Ft i;let⟨T,l⟩:=Ft d
 let hz:keys.zip vs.toArray=(lk T Γ).toArray:=by
  let e:(keys.zip vs.toArray).toList=lk T Γ:=by
   rw[ksk_zip,l,g]
   kernel_rfl
  rw[<-e]
 unfold ksk_end;dsimp only;rw[adF .a,adF (by rw[ņ];lia),adF (by rw[ņ];lia),ksk_kind d .b,hz];show Ü (û (Ü (Ρ (Uz T Γ) ?_ λ_ _ z=>z)));rintro⟨⟨⟩,m⟩ s' ⟨rfl,o,hp⟩;dsimp only;show QH p k f .b (by rw[<-ŝ,hp.length_eq];change 128<=1000;lia) o λh' tk c kp n=>h h' tk _ c kp n ?_;let q:=hp.map Υ;rw[Array.toList_map];let e2:(lk T Γ).map Υ=vs:=by rw[g];kernel_rfl
 rwa[e2] at q
def NA{us:List Å}{b:.L}{j:Nat}{x:Å}(h:ñ us b)(a:us[j]?=À x):∃n t,x=Ė n t/\b[j]?=À n:=by
 induction h generalizing j with
 |nil=>cases a
 |cons n t _ c =>
  cases j with
  |zero=>cases a;show#[n,t,rfl,rfl]
  |succ j=>show c a
def SF(L:s.heap.get? kS=À (é "list" #[] 0))(I:s.heap.get? a=À (é "list" #[] e1))(m:kS≠a)(D:ñ vs F7)
  (h:∀h' tk g c,Kp a kS s.heap h'->h'.get? a=À (é "list" g c)->g.toList.Perm vs->P (.done (.ret .none)) {s with heap:=h',toks:=tk}):Ë (Î prog w) A (ksk_rest a (.builtin "abs") Â vs.toArray e1 (.ref kS)) P E s:=by
 let N: ~~~vs=128:= ~~~D;unfold ksk_rest;show Ü (Η ?_);rw[List.forIn_toArray];show Ü (ksk_fold (λi s'=>∃h' tk f e,s'={s with heap:=h',toks:=tk}/\Kp a kS s.heap h'/\h'.get? kS=À (é "list" f e)/\h'.get? a=À (é "list" #[] e1)/\ñ f.toList ((F7.map tq).take i)) vs 0 s #[s.heap,s.toks,#[],0,rfl,λ_ _ _ _ z=>z,L,I,IntsAre.nil] ?_ ?_)
 .rintro j x s' H ⟨h',tk,f,e,rfl,kp,d,k,l⟩;simp only[Nat.zero_add] at l ⊢;let⟨n,t,rfl,B⟩:=NA D H;let Q:j<~~~vs:=(adU.mp H).1;let y:(F7.map tq)[j]?=À (tq n):=by rw[ł,B];rfl
  let hz:f.size<=1000:=by
   let h1:= ~~~l;rw[ŝ,ϟ] at h1;lia
  show Ü (agA (call_abs_int λu K=>?_));dsimp only;let G:=Τ h' kS (Ú (·.push (.int (tq n) u)));obtain⟨c2,F⟩:∃c2,(h'.update kS (Ú (·.push (.int (tq n) u)))).get? kS=À (é "list" (f.push (.int (tq n) u)) c2):=#[_,ag2 d (·.push (.int (tq n) u))];let ek:(F7.map tq).take (j+1)=(F7.map tq).take j++[tq n]:=by rw[ae7,y];rfl
  let O:(f.push (Ė (tq n) u)).toList=f.toList++[Ė (tq n) u]:=ah0 ..;show Ü (ahV d rfl ?_ (by rw[agq];lia) (Ń (aiF (Array.size_push ..)) (by rw[agq];lia)));show û #[rfl,_,_,f.push (.int (tq n) u),c2,rfl,λb o b1 b2 q=>(G.2 b b2).trans (kp b o b1 b2 q),F,(G.2 a m.symm).trans k,by rw[O,ek];show ksk_snoc l]
 .rintro s' ⟨h',tk,f,e,rfl,kp,d,k,l⟩
  let v:ñ f.toList (F7.map tq):=by
   rw[aff (by rw[Nat.zero_add,N];decide: ~~~(F7.map tq)<=_)] at l;show l
  show Ü (listItems_at d rfl ?_);show s_end d k m v D λα p g c C r J=>h α p g c (λb o b1 b2 q=>C b o b1 b2 (kp b o b1 b2 q)) r J
def SU{n:Nat}(g:s.heap.get? a=À (é "list" vs.toArray n))(k:ñ vs F7)
  (h:∀h' tk d c,(∀b o,b≠a->s.heap.get? b=À o->h'.get? b=À o)->h'.get? a=À (é "list" d c)->d.toList.Perm vs->P (.done (.ret .none)) {s with heap:=h',toks:=tk}):Ë (Î prog w) A (ksk_tree a (.builtin "abs") Â) P E s:=by
 let q: ~~~vs=128:= ~~~k;let ha:a<s⁻¹:=ē g;let p:=Τ s.heap a (Ú λ_=>(#[]:Array Å));obtain⟨e1,e⟩:∃e1,(s.heap.update a (Ú λ_=>(#[]:Array Å))).get? a=À (é "list" #[] e1):=#[_,ag2 g λ_=>#[]];let f:((s.heap.update a (Ú λ_=>(#[]:Array Å))).push (é "tuple" vs.toArray 0)).objs.size=s⁻¹+1:=by rw[size_push',Heap.size_update]
 unfold ksk_tree;show Ü (listItems_at g rfl ?_);show Ü (ahV g rfl ?_ (by rw[ņ,agq];lia) (ş _));show Ü (seqEpoch_at e rfl (Ü (wpAny_newTuple ?_ (by change ~~~vs<=_;rw[agq];lia))));show Ü (ahS ?_ (ş _));show ϒ ?_;show SF (s:={s with heap:=((s.heap.update a (Ú λ_=>(#[]:Array Å))).push (é "tuple" vs.toArray 0)).push (é "list" #[] 0)}) (kS:=((s.heap.update a (Ú λ_=>(#[]:Array Å))).push (é "tuple" vs.toArray 0)).objs.size) (Ŕ _ rfl) (Ĩ _ (Ĩ _ e)) (by rw[f];show aht (afi ha)) k ?_;intro h' tk d c kp m l;show h h' tk d c (λb o b1 j=>?_) m l;let i:b<s⁻¹:=ē j;show kp b o b1 (by rw[f];show Ķ (afi i)) (Ĩ _ (Ĩ _ ((p.2 b b1).trans j)))
def KC(k:s.heap.IsList l vs.toArray)(i:ñ vs F7)
  (h:∀h' tk d c,(∀b o,s.heap.get? b=À o->h'.get? b=À o)->h'.get? (s⁻¹+1)=À (é "list" d c)->d.toList.Perm vs->Q (.ref (s⁻¹+1)) {s with heap:=h',toks:=tk}):Ë (Î prog w) A (call (.builtin "sorted") [.ref l] [(ă "key",.builtin "abs")]) Q E s:=by
 let p: ~~~vs=128:= ~~~i;show call_function_entry_kw kind_sorted plain_sorted entry_sorted (ksk_s1 _ _) ?_;unfold Ē.«sorted»;show Ü (m:=checkCount "sorted" 1 1 _) (û (Ü (collect_list k ?_ (by rw[agq];lia))));show Ü (ahS ?_ (by rw[agq];lia));let e:((s.heap.push (é "list" #[] 0)).update s⁻¹ (Ú (·++vs.toArray))).objs.size=s⁻¹+1:=by rw[Heap.size_update,size_push']
 let f:(((s.heap.push (é "list" #[] 0)).update s⁻¹ (Ú (·++vs.toArray))).push (é "list" vs.toArray 0)).get? (s⁻¹+1)=À (é "list" vs.toArray 0):=by rw[<-e];show Ŕ _ rfl
 let keep:∀b o,s.heap.get? b=À o->(((s.heap.push (é "list" #[] 0)).update s⁻¹ (Ú (·++vs.toArray))).push (é "list" vs.toArray 0)).get? b=À o:=λb o q=>by
  let a:b<s⁻¹:=ē q;rw[ϲ _ _ _ (by rw[e];show Ķ (afi a)),Heap.get?_update_ne _ _ _ _ (Ķ a),ϲ _ _ _ (Ķ a)];show q
 change Ë _ _ _ _ _ {s with heap:=((s.heap.push (é "list" #[] 0)).update s⁻¹ (Ú (·++vs.toArray))).push (é "list" vs.toArray 0)};rw[e];show Ü (ϒ (wpAny_call_entry_kw slot_list_sort #[_,f,rfl] entry_list_sort ?_ (ksk_l1 _ _)));rw[ksk_t4];show SU f i λh' tk d c kp n j=>#[_,rfl,?_];show û #[_,rfl,h h' tk d c (λb o g=>kp b o (λz=>?_) (keep b o g)) n j];let a:b<s⁻¹:=ē g;rw[z] at a;show absurd a (af5.mpr (af6 _))
end
end L2.Srt
namespace L2.EP
open PySem PySem.Spec PyProof.Rows
section
variable{X:Cx}{U:aI}{e:Ô}{b:Bool}{p q kp pos:ð}{t:TA}
def Yc(K:Ã)(xs:List V)(H:Hp)(Q:VK):Prop:=∃p,∃ns:.L,xs=[.ref p]/\dz K H p (ns.map V.int)/\ns=L2.Srt.F7/\∀l (a:.L),H l=none->a.Perm ns->Q (.ref l) (upd H l (.lst (a.map V.int)))
def Eb{ZB:List (Ç×ÿ)}{s:Æ}{Y:St}{H:Hp}{xs:List V}{us:List Å}{Q:VK}(I:Inv X ZB Y H s)(r:Vals xs us)(h:Yc X.K xs H Q):Ë .E X.A (call (.builtin "sorted") us [(ă "key",.builtin "abs")]) (EP X ZB Y Q) X.xe s:=by
 let⟨p,ns,rfl,sq,rfl,q⟩:=h;let⟨u,rfl,i⟩:=vals1 r;cases i;let⟨YU,e,pl,_⟩:=I.list sq;let hi:=intsAre_of e;show L2.Srt.KC pl.isList hi λh' tk b c kp j f=>?_;let⟨a,g,d⟩:=L2.Srt.Hh f hi
 let lo: ~~~(a.map V.int)<=sizeLine:=by
  rw[ċ,d.length_eq];decide
 show#[.ref (s⁻¹+1),_,I.laid (t':=tk) (o:=.lst (a.map V.int)) kp (af6 _) #[lo,b.toList,c,vq g,j],rfl,q _ a (I.hok.fresh (af6 _)) d]
def Ku(d:Gl X "sorted")(i:X.mg "sorted"=none)(a:Gl X "abs")(b:X.mg "abs"=none)(ha:PA X [e] t)(he:Ä [e] X.env=(Â,Õ e X.env)::Ä [] X.env<|>zra):
  PE X (.Call (.Name "sorted" p) [e] [#[À (ă "key"),.Name "abs" q,kp]] pos) (λY H Q=>t Y H λvs H1=>Yc X.K vs H1 Q):=by
 intro ZB s Y H Q I h;show afw (je I d i boot_sorted ?_);show callWith_kw (cK (ha pos ZB s Y H _ I h) λus j ⟨vs,H1,c,g,f⟩=>?_) (by rw[he];rfl) (by rw[he];rfl);show kws_cons (je c a b boot_abs (kws_nil ?_));show Eb c g f
def J9{ns:.L}(j:Gl X "sorted")(s:X.mg "sorted"=none)(f:Gl X "abs")(d:X.mg "abs"=none)(ha:E X U e b ns)(h2:ns=L2.Srt.F7)(h:Ä [e] X.env=(Â,Õ e X.env)::Ä [] X.env<|>zra):
  EX X U (.Call (.Name "sorted" p) [e] [#[À (ă "key"),.Name "abs" q,kp]] pos) Á (λa:.L=>a.Perm ns):=by
 stop
  show aJ (Ku j s f d (aC ha aV h) h) λY H Q ⟨H0,F,O,S,q⟩=>#[H0,F,O,S,λv H1 g u=>by
    let⟨p,vs,e,sq,n,r⟩:=u;rw[pJ r] at sq;show#[p,ns,by rw[e],(aw _ _).seq sq,h2,λl a c o=>?_];let⟨t,i⟩:=cV (xs:=a.map V.int) (S.go g) c;show q a _ _ o (g.trans t) #[l,_,rfl,dz.of i,Nf.wk (b:=Á) ((S.go g).ik c) i,?_];generalize a=m
    induction m with
    |nil=>show .nil
    |cons x m k=>show .cons rfl k]
def WS(K:Ã)(neg:Bool):R2:=λx y H Q=>∃p xs d ds,y=.ref p/\dz K H p xs/\DR K H x d/\GS K H xs ds/\d.canLay0=Á/\î ds=Á/\d.depth<=50/\Q (.bl (if neg then !(ds.any λe=>ê e d) else ds.any λe=>ê e d)) H
theorem CF{h:Û}:∀{us:List Å} {ds:List ï} {as:List Ç},ReadsAll h us ds as->î ds=Á->∀u∈us,∃c cs,Reads h u c cs/\c.canLay0=Á/\c∈ds
 |_,_,_,.nil,_,u,d=>by cases d
 |_,_,_,.cons r f,e,u,d=>by
  rw[î,ŷ] at e;obtain rfl|d:=đ.mp d
  .show#[_,_,r,e.1,ġ ..]
  .let⟨c,cs,a,b,m⟩:=CF f e.2 u d;show#[c,cs,a,b,ę _ m]
theorem y8{h:Û}{f:Å->Bool}{g:ï->Bool}:∀{us:List Å} {ds:List ï} {as:List Ç},ReadsAll h us ds as->î ds=Á->(∀u c cs,Reads h u c cs->c.canLay0=Á->f u=g c)->us.any f=ds.any g
 |_,_,_,.nil,_,_=>rfl
 |_,_,_,.cons r b,a,k=>by
  rw[î,ŷ] at a;rw[ahj,ahj,k _ _ _ r a.1,y8 b a.2 k]
def eD(h:Û)(d:ï)(w:Å):Bool:=open Classical in decide (∃c cs,Reads h w c cs/\c.canLay0=Á/\ê c d=Á)
def U1{h:Û}{d c:ï}{w:Å}{cs:List Ç}(r:Reads h w c cs)(lc:c.canLay0=Á):eD h d w=ê c d:=by
 delta eD;cases z:ê c d with
 |true=>show @adZ _ (Š _) #[c,cs,r,lc,z]
 |false =>
  show @aec _ (Š _) ?_;rintro⟨c',a,r',e,b⟩;let:=SeqAt.Reads.unique c c' w cs a lc r r';rw[<-this,z] at b;cases b
def Hy(o:X.A.units+60<Κ){neg:Bool}{op:ũ}(i:op=if neg then .NotIn else .In):mx X (ç op) (WS X.K neg):=by
 intro ZB s Y H x y v u Q I n j h;let⟨p,xs,d,ds,rfl,g,l,f,c1,c2,dp,q⟩:=h;cases j;let⟨YU,r,pl,hz⟩:=I.list g;let⟨as,k⟩:=l.reads I n;let⟨bs,a⟩:=f.reads I r;let key:∀w c cs,Reads s.heap w c cs->c.canLay0=Á->eD s.heap d w=ê c d:=λw c cs r' lc=>U1 r' lc
 let he:∀w,w∈YU.toArray->ρ X.A.in1 s w v (eD s.heap d w):=λw m=>by
  let⟨c,cs,rc,lc,_⟩:=CF a c2 w ↑m;rw[key w c cs rc lc];show SeqAt.eqAt_reads c d X.A.in1 s w v cs as rc k lc c1 ?_;let h1:=Nat.min_le_right c.depth d.depth;let h2:X.A.in1.units=X.A.units+1:=rfl;lia
 let b:YU.toArray.any (eD s.heap d)=ds.any λe=>ê e d:=by
  rw[(by simp:YU.toArray.any (eD s.heap d)=YU.any (eD s.heap d))];show y8 a c2 key
 subst i;cases neg
 .show SeqAt.in_listAt _ pl.isList he #[.bl _,H,I,rfl,by rwa[b]]
 .show π _ pl.isList he #[.bl _,H,I,rfl,by rwa[b]]
def OU{M:Type}[PyD M]{a:M}{as:List M}{c:Bool}(h:c=Á↔a∈as):((as.map PyD.dat).any λe=>ê e (PyD.dat a))=c:=by
 rw[afC,h,aho];constructor
 .rintro⟨x,d,e⟩;let⟨b,f,rfl⟩:=adX.mp d;rwa[<-(PyD.eqv b a).mp e]
 .intro m;show#[_,List.mem_map_of_mem m,(PyD.eqv a a).mpr rfl]
def NL{M:Type}[PyD M]{a:M}{as:List M}{c:Bool}(b:X.A.units+60<Κ)(d:PyD.dep M<=50)(h:c=Á↔a∈as):CV X .NotIn a as (!c):=#[_,Hy b (neg:=Á) rfl,λN N' H u v Q h1 h2 q=>by
 let⟨p,vs,e,sq,n,r⟩:=h2
 show#[p,vs,_,_,e,sq,PyD.dr h1,wm r,PyD.lay a,vW as,Ń (PyD.depth a) d,by rwa[OU h]]]
end
def Oc{β:Type}[Py β](K:Ã)(b:Bool)(post:β->Prop):Sp:=λvs H Q _=>∃O,mh H O/\vs=[]/\∀z r H',post z->aH H H'->Py.rp K (Nf H b) (off H' O) r z->Q r H'
section
variable{X:Cx}{U:aI}{β:Type}[Py β]{b:Bool}{p pos:ð}{k:Nat}{name:Ì}{ps:List Ì}
def K8{post:β->Prop}(C:aE X.prog X.w X.K X.mg X.base k name ps (Oc X.K b post))(e:c7 zkk X.A)(a:(name==("__debug__":Ì))=Â<|>zrb)(kzz:k<=zkk<|>zrb)(c:Gl X name<|>zra):
  EX X U (.Call (.Name name p) [] [] pos) b post:=by stop let⟨f,fd,F,B,kp,m⟩:=C.ex;show aJ (JF F (e.mono kzz) c m kp B .nil jD a) λY H Q ⟨H0,F,O,S,q⟩=>#[O,S.own,rfl,λz r H' hz s' d=>q z r H' hz s' (S.back d)]
variable{P:Ð}{w:Ø}{K:Ã}{mg:Ì->Option Å}{base:Û}{N:List Ì}{x qual:Ì}{st:Ï}{f:Ç}{fd:í}
def Xy{β:Type}[Py β]{b:Bool}{post:β->Prop}(F:pW K x qual st f fd)(c:ao N ps (af st))(e: ~~~ps=0)(B:⇑Body N qual st f k [] (yc b post)):⇑dC p8 (k+1) f fd ps (Oc K b post):=by
 stop
  show F.ok c (λvs H Q E h=>?_) λd A outer s H vs Q E g h=>?_
  .let⟨O,_,rfl,_⟩:=h;rw[e];rfl
  .let⟨O,a,rfl,q⟩:=h;show kr B g a .nil q
variable{D:GD}{M γ δ ε:Type}[Py M][Py γ][Py δ][Py ε]{e e1 e2 e3 e4:Ô}{b1 b2 b3 b4:Bool}{rest:List Ï}
def Sb{post:Option M->Prop}{c:M->Prop}(h:EX X U e b post)(hp:∀o,post o->∃a,o=À a/\c a):EX X U e b c:=by
 stop
  show aJ h λY H Q ⟨H0,F,O,S,q⟩=>#[H0,F,O,S,λo v H' hz s' r=>by
   let⟨a,rfl,ha⟩:=hp o hz
   show q a v H' ha s' r]
def zy[PyT M]{xs:List M}{p:ð}(h:Gl X "list")(j:X.mg "list"=none)(ha:E X U e b (Br.mk xs))(c:Ä [e] X.env=(Â,Õ e X.env)::Ä [] X.env<|>zra):E X U (.Call (.Name "list" p) [e] [] pos) Á xs:=by
 stop
  show aJ (tO k7 h j agF (aC ha aV c) (he:=c)) λY H Q ⟨H0,F,O,S,q⟩=>#[H0,F,O,S,λv H1 a i=>by
    let⟨p,vs,e,sq,r⟩:=i;show#[p,vs,by rw[e],.inr (dv (aw _ _) sq).t,λl g=>?_];let⟨d,f⟩:=cV (xs:=vs) (S.go a) g
    show q _ _ (a.trans d) #[l,vs,rfl,dz.of f,Nf.wk ((S.go a).ik g) f,bu (λ_ _ z=>PyT.free (λ_ _ t=>aH.rt (ah d) t) z) r]]
def PU{xs:List M}{k:Int}{p2:ð}(ha:E X U e1 b xs)(j:E X U e2 b2 k)(h1:k=-1):E X U (.Subscript e1 (.Slice none (À e2) none p2) pos) b (xs.take (~~~xs-1)):=by
 stop
  show aJ (nA vd ha qX (rR j)) λY H Q ⟨H0,F,O,S,q⟩=>#[H0,F,O,S,λv H1 c o=>#[H0,F,O,S.go c,λw H2 a i=>by
    let⟨p,vs,e,sq,n,r⟩:=o;show#[k,i,p,vs,e,(aw _ _).seq ((ah a).seq sq),λl f=>?_];let⟨h,d⟩:=cV (xs:=jY vs none (À k)) ((S.go c).go a) f;show q _ _ (c.trans (a.trans h)) #[l,_,rfl,dz.of d,Nf.wk (((S.go c).go a).ik f) d,?_];let m:=bQ r
    let ec:jY vs none (À k)=vs.take (~~~xs-1):=by
     delta jY;rw[HT.mz]
     let:HT.gb (~~~vs) (~~~vs) (À k)= ~~~xs-1:=by
      change(if k<0 then ↥(k+(~~~vs:Int)) else min ↥k (~~~vs))=_;rw[adI .b,h1];lia
     rw[this];simp only[aiv,Nat.sub_zero]
    let g:=bu (λ_ _ z=>ay ((ah a).trans (ah h)) z) (zB (~~~xs-1) r);rw[<-ec] at g
    show g]]
end
def YJ{M:Type}{us:List M}(h: ~~~us=0):us=[]:=agG h
def X_{M:Type}{us:List M}(h: ~~~us=1):∃a,us=[a]:=match us,h with|[a],_=>#[a,rfl]
def ln2{M:Type}{us:List M}(h: ~~~us=2):∃a b,us=[a,b]:=match us,h with|[a,b],_=>#[a,b,rfl]
def Yp{M:Type}{us:List M}(h: ~~~us=3):∃a b c,us=[a,b,c]:=match us,h with|[a,b,c],_=>#[a,b,c,rfl]
def Yq{M:Type}{us:List M}(h: ~~~us=4):∃a b c d,us=[a,b,c,d]:=match us,h with|[a,b,c,d],_=>#[a,b,c,d,rfl]
def bS{N P:List Ì}{a:Ć}(h1:(a.kind=.function)<|>zra)(h2:a.isCoroutine=Â<|>zra)(d:a.isGenerator=Â<|>zra)(c:N.Nodup<|>zrh)(b:N.take (~~~P)=P<|>zra)(e:(∀x∈P,a.names.lookup x=À .local\/a.names.lookup x=À .cell)<|>zrh)(f:(∀y∈a.names,y.2≠.free)<|>zrh):ao N P a:=#[h1,h2,d,c,b,e,f]
section
variable{P:Ð}{w:Ø}{K:Ã}{mg:Ì->Option Å}{base h:Û}{x p q r t:Ì}{st:Ï}{k:Nat}{sp:Sp}
def Df.c0(D:Df K x st)(X:K.In h)(G:h.Ns É mg)(ok:∀f fd,pW K x x st f fd->⇑dC p8 k f fd [] sp)(c:∀(kV doc d:Å) (b:Option Ç) (a ct:Å),ĥ (á x x (da st) (bJ st) (af st) .none kV doc d b a ct) #[[],[]]=pure ([]:List (Ì×Å)):=by intros;rfl):⇑aE k x [] sp:=D.PL X G (λ_ _ _ _ _ _ us e=>by cases YJ e;show c ..) ok
def Df.c1(D:Df K x st)(X:K.In h)(G:h.Ns É mg)(ok:∀f fd,pW K x x st f fd->⇑dC p8 k f fd [p] sp)(c:∀(kV doc d:Å) (b:Option Ç) (a ct:Å) (u:Å),ĥ (á x x (da st) (bJ st) (af st) .none kV doc d b a ct) #[[u],[]]=pure [(p,u)]:=by intros;rfl):⇑aE k x [p] sp:=D.PL X G (λ_ _ _ _ _ _ us e=>by let⟨_,rfl⟩:=X_ e;show c ..) ok
def Df.c2(D:Df K x st)(X:K.In h)(G:h.Ns É mg)(ok:∀f fd,pW K x x st f fd->⇑dC p8 k f fd [p,q] sp)(c:∀(kV doc d:Å) (b:Option Ç) (a ct:Å) (u v:Å),ĥ (á x x (da st) (bJ st) (af st) .none kV doc d b a ct) #[[u,v],[]]=pure [(p,u),(q,v)]:=by intros;rfl):⇑aE k x [p,q] sp:=D.PL X G (λ_ _ _ _ _ _ us e=>by let⟨_,_,rfl⟩:=ln2 e;show c ..) ok
def Df.c3(D:Df K x st)(X:K.In h)(G:h.Ns É mg)(ok:∀f fd,pW K x x st f fd->⇑dC p8 k f fd [p,q,r] sp)(c:∀(kV doc d:Å) (b:Option Ç) (a ct:Å) (u v y:Å),ĥ (á x x (da st) (bJ st) (af st) .none kV doc d b a ct) #[[u,v,y],[]]=pure [(p,u),(q,v),(r,y)]:=by intros;rfl):⇑aE k x [p,q,r] sp:=D.PL X G (λ_ _ _ _ _ _ us e=>by let⟨_,_,_,rfl⟩:=Yp e;show c ..) ok
def Df.c4(D:Df K x st)(X:K.In h)(G:h.Ns É mg)(ok:∀f fd,pW K x x st f fd->⇑dC p8 k f fd [p,q,r,t] sp)(c:∀(kV doc d:Å) (b:Option Ç) (a ct:Å) (u v y z:Å),ĥ (á x x (da st) (bJ st) (af st) .none kV doc d b a ct) #[[u,v,y,z],[]]=pure [(p,u),(q,v),(r,y),(t,z)]:=by intros;rfl):⇑aE k x [p,q,r,t] sp:=D.PL X G (λ_ _ _ _ _ _ us e=>by let⟨_,_,_,_,rfl⟩:=Yq e;show c ..) ok
end
def Kt{M β γ δ ζ ε:Type}[Py M][Py β][Py γ][Py δ][Py ζ][Py ε](K:Ã)(pre:M->β->γ->δ->ζ->Prop)(b:Bool)(post:M->β->γ->δ->ζ->ε->Prop):Sp:=λvs H Q _=>∃O v w x y u a c d g i,mh H O/\vs=[v,w,x,y,u]/\Py.rp K .any .F v a/\Py.rp K .any .F w c/\Py.rp K .any .F x d/\Py.rp K .any .F y g/\Py.rp K .any .F u i/\pre a c d g i/\∀z r H',post a c d g i z->aH H H'->Py.rp K (Nf H b) (off H' O) r z->Q r H'
@[irreducible] def Wt{M:Type}[Py M](X:Cx)(U:aI)(es:List Ô)(b:Bool)(post:List M->Prop):Prop :=
 PA X es λY H Q=>∃H0 F O,e9 X.K H0 F O U Y H/\∀as vs H',post as->aH H H'->ß (λx a=>Py.rp X.K (Nf H0 b) (off H' O) x a) vs as->Q vs H'
section
variable{X:Cx}{U:aI}{D:GD}{M β γ δ ζ ε:Type}[Py M][Py β][Py γ][Py δ][Py ζ][Py ε]{e e1 e2 e3 e4 e5:Ô}{es:List Ô}{b b1 b2 b3 b4 b5:Bool}{p pos:ð}{rest:List Ï}{k:Nat}{name:Ì}{ps:List Ì}
def vK{pre:M->β->γ->δ->ζ->Prop}{post:M->β->γ->δ->ζ->ε->Prop}{a:M}{c:β}{d:γ}{g:δ}{i:ζ}(C:aE X.prog X.w X.K X.mg X.base k name ps (Kt X.K pre b post))(Γ:c7 zkk X.A)(h1:E X U e1 b1 a)(h2:E X U e2 b2 c)(V:E X U e3 b3 d)(α:E X U e4 b4 g)(R:E X U e5 b5 i)(hp:pre a c d g i)
  (n:Ä [e1,e2,e3,e4,e5] X.env=(Â,Õ e1 X.env)::Ä [e2,e3,e4,e5] X.env<|>zra) (t:Ä [e2,e3,e4,e5] X.env=(Â,Õ e2 X.env)::Ä [e3,e4,e5] X.env<|>zra) (v:Ä [e3,e4,e5] X.env=(Â,Õ e3 X.env)::Ä [e4,e5] X.env<|>zra) (u:Ä [e4,e5] X.env=(Â,Õ e4 X.env)::Ä [e5] X.env<|>zra) (o:Ä [e5] X.env=(Â,Õ e5 X.env)::Ä [] X.env<|>zra)
  (s:(name==("__debug__":Ì))=Â<|>zrb) (hpl:(ã pos (Ä [e2,e3,e4,e5] X.env)).any (·.1)=Â<|>zra)(kzz:k<=zkk<|>zrb)(I:Gl X name<|>zra):
  EX X U (.Call (.Name name p) [e1,e2,e3,e4,e5] [] pos) b (post a c d g i):=by
 stop
  let⟨fa,fd,F,B,kp,m⟩:=C.ex
  show aJ (d9 F (Γ.mono kzz) I m kp B .nil jD (aC h1 (aC h2 (aC V (aC α (aC R aV o) u) v) t) n) s n hpl) λY H Q ⟨H0,F,O,S,q⟩=>#[H0,F,O,S,λW H1 f T=>#[H0,F,O,S.go f,λD H2 e J=>#[H0,F,O,S.go (f.trans e),λL Z j N=>#[H0,F,O,S.go (f.trans (e.trans j)),λv4 H4 h x=>#[H0,F,O,S.go (f.trans (e.trans (j.trans h))),λG σ l y =>
   #[O,W,D,L,v4,G,a,c,d,g,i,(S.go (f.trans (e.trans (j.trans (h.trans l))))).own,rfl,aT aR (ay (ah (e.trans (j.trans (h.trans l)))) T),aT aR (ay (ah (j.trans (h.trans l))) J),aT aR (ay (ah (h.trans l)) N),aT aR (ay (ah l) x),aT aR y,hp,λz r H' hz s' P=>q z r H' hz (f.trans (e.trans (j.trans (h.trans (l.trans s'))))) ((S.go (f.trans (e.trans (j.trans (h.trans l))))).back P)]]]]]]
def Lm{pre:M->β->γ->Prop}{post:M->β->γ->δ->Prop}{a:M}{c:β}{po:γ->Prop}(C:aE X.prog X.w X.K X.mg X.base k name ps (Dg X.K pre b post))(D:c7 zkk X.A)(h1:E X U e1 b1 a)(h2:E X U e2 b2 c)(G:EX X U e3 b3 po)(hp:∀d,po d->pre a c d)
  (e:Ä [e1,e2,e3] X.env=(Â,Õ e1 X.env)::Ä [e2,e3] X.env<|>zra) (j:Ä [e2,e3] X.env=(Â,Õ e2 X.env)::Ä [e3] X.env<|>zra) (l:Ä [e3] X.env=(Â,Õ e3 X.env)::Ä [] X.env<|>zra) (i:(name==("__debug__":Ì))=Â<|>zrb) (hpl:(ã pos (Ä [e2,e3] X.env)).any (·.1)=Â<|>zra)(kzz:k<=zkk<|>zrb)(s:Gl X name<|>zra):
  EX X U (.Call (.Name name p) [e1,e2,e3] [] pos) b (λr=>∃d,po d/\post a c d r):=by
 stop
  let⟨L,fd,F,B,kp,m⟩:=C.ex
  show aJ (d9 F (D.mono kzz) s m kp B .nil jD (aC h1 (aC h2 (aC G aV l) j) e) i e hpl) λY H Q ⟨H0,F,O,S,q⟩=>#[H0,F,O,S,λI H1 g y=>#[H0,F,O,S.go g,λo H2 f t=>#[H0,F,O,S.go (g.trans f),λd u J n h v =>
   #[O,I,o,u,a,c,d,(S.go (g.trans (f.trans h))).own,rfl,aT aR (ay (ah (f.trans h)) y),aT aR (ay (ah h) t),aT aR v,hp d n,λz r H' hz s' x=>q z r H' #[d,n,hz] (g.trans (f.trans (h.trans s'))) ((S.go (g.trans (f.trans h))).back x)]]]]
def Fw:Wt X U [] b (λas:List M=>as=[]):=by stop show F_ aV λY H Q ⟨H0,F,O,S,q⟩=>q [] _ H rfl (aH.refl _) .nil
def mC{po:M->Prop}{pos:List M->Prop}(h:EX X U e b po)(h':Wt X U es b pos)(d:Ä (e::es) X.env=(Â,Õ e X.env)::Ä es X.env<|>zra):Wt X U (e::es) b (λas=>∃a c,as=a::c/\po a/\pos c):=by stop show F_ (aC h h' d) λY H Q ⟨H0,F,O,S,q⟩=>#[H0,F,O,S,λa v H1 ha g j=>#[H0,F,O,S.go g,λas vs H2 d f i=>q _ _ H2 #[a,as,rfl,ha,d] (g.trans f) (.cons (ay (ah f) j) i)]]
def J0{po:List M->Prop}(h:Wt X U es b po)(f:∀as,po as->~~~as<=1000):EX X U (.List es pos) b po:=by
 stop
  show aJ (Ap h) λY H Q ⟨H0,F,O,S,q⟩=>#[H0,F,O,S,λas vs H1 hz a e=>#[by rw[bQ e];show ź (cI (f as hz)),λp hp=>by
    let⟨c,d⟩:=cV (xs:=vs) (S.go a) hp
    show q as _ _ hz (a.trans c) #[p,vs,rfl,dz.of d,Nf.wk ((S.go a).ik hp) d,bu (λ_ _ r=>ay (ah c) r) e]]]
variable{P:Ð}{w:Ø}{K:Ã}{mg:Ì->Option Å}{base:Û}{N:List Ì}{x qual:Ì}{st:Ï}{f:Ç}{fd:í}
def X4{M β γ δ ζ ε:Type}[Py M][Py β][Py γ][Py δ][Py ζ][Py ε]{pre:M->β->γ->δ->ζ->Prop}{b:Bool}{post:M->β->γ->δ->ζ->ε->Prop}(F:pW K x qual st f fd)(p:ao N ps (af st))(u: ~~~ps=5)(B:∀a c d g i,pre a c d g i->⇑Body N qual st f k [.val Â a,.val Â c,.val Â d,.val Â g,.val Â i] (yc b (post a c d g i))):
  dC P w K mg base p8 (k+1) f fd ps (Kt K pre b post):=by
 stop
  show F.ok p (λvs H Q E h=>?_) λz A outer s H vs Q E C h=>?_
  .let⟨O,v,l,t,v4,m,a,c,d,g,i,_,rfl,_⟩:=h;rw[u];rfl
  .let⟨O,v,l,t,v4,m,a,c,d,g,i,n,rfl,r,o,y,e,j,hp,q⟩:=h;show kr (B a c d g i hp) C n (.cons r (.cons o (.cons y (.cons e (.cons j .nil))))) q
def E7{M β:Type}(_:M)(_:β):Unit:=()
def WL{M β:Type}[Py M][Py β]{pre:M->β->Prop}{b:Bool}(F:pW K x qual st f fd)(i:ao N ps (af st))(j: ~~~ps=2)(B:∀a c,pre a c->⇑Body N qual st f k [.val Â a,.val Â c] V0):
  dC P w K mg base p8 (k+1) f fd ps (bL K pre b (E7 (M:=M) (β:=β))):=by
 stop
  show F.ok i (λvs H Q E h=>?_) λl A outer s H vs Q E m h=>?_
  .let⟨O,v,d,a,c,_,rfl,_⟩:=h;rw[j];rfl
  .let⟨O,v,d,a,c,e,rfl,r,g,hp,q⟩:=h;show yB (B a c hp) m e (.cons r (.cons g .nil)) q
end
noncomputable instance:Py fw where
 rp K N H v s:=DN K N H v (xv s)
 tr l t h:=DN.tr l t h
section
variable{X:Cx}{U:aI}{D:GD}{M β:Type}[Py M][Py β]{e e1 e2:Ô}{es:List Ô}{b b1 b2:Bool}{p pos:ð}{rest:List Ï}
def Kw{s:fw}(h:E X U e b s):E X U e b (Dt.mk (xv s)):=zN h λN H v r=>r
def Kv{s:fw}(h:E X U e b (Dt.mk (xv s))):E X U e b s:=zN h λN H v r=>r
variable{γ:Type}[Py γ]{e3:Ô}{b3:Bool}
def XD{d:ï}{c:Bool}{j:Nat}(ha:E X U e1 b1 (Dt.mk d))(e:∀(K:Ã) (N:Nn) (H:Hp) v,DN K N H v d->decide (v=.non)=!c):T X U (.Compare e1 [.IsNot] [.Constant .none j p] pos) c:=by
 stop
  show t8 (D6 (AE ha) rfl) λY H Q ⟨H0,F,O,S,q⟩=>#[H0,F,O,S,λv H1 a b=>by
    show#[!decide (v=.non),rfl,?_]
    rw[e _ _ _ _ b,Bool.not_not];show q H1 a]
end
def T6(K:Ã)(y x:Ì)(st:Ï):Prop:=∃(f:Ç) (fd:í),Ñ K É y=À (À (.ref f))/\pW K x x st f fd
def T6.mk{K:Ã}{y x:Ì}{st:Ï}{f:Ç}{h:Å}{od e:Option Ç}{d:Array (Option Å)}{kV doc g b ct:Å}(a:Ñ K É y=À (À (.ref f)))
  (l:K.lookup f=À #[h,od,.func (á x x (da st) (bJ st) (af st) .none kV doc g e b ct),d]) (c:ģ K b x=Á) (k:ø K (.ref f)=Á):T6 K y x st:=#[f,_,a,IW l c k]
def T6.c1{P:Ð}{w:Ø}{K:Ã}{mg:Ì->Option Å}{base h:Û}{y x p:Ì}{st:Ï}{k:Nat}{sp:Sp}(D:T6 K y x st)(X:K.In h)(G:h.Ns É mg)(ok:∀f fd,pW K x x st f fd->⇑dC p8 k f fd [p] sp)(d:∀(kV doc g:Å) (c:Option Ç) (b ct:Å) (u:Å),ĥ (á x x (da st) (bJ st) (af st) .none kV doc g c b ct) #[[u],[]]=pure [(p,u)]:=by intros;rfl):⇑aE k y [p] sp:=by
 let⟨f,fd,a,F⟩:=D;show#[f,fd,ok f fd F,F.binds λ_ _ _ _ _ _ us e=>by let⟨_,rfl⟩:=X_ e;show d ..,F.kp,afA X G a]
def KR{X:Cx}{U:aI}{M β:Type}[Py M][Py β]{e1:Ô}{b b1:Bool}{p pos:ð}{k:Nat}{name:Ì}{ps:List Ì}{pre:M->Prop}{post:M->β->Prop}{po:M->Prop}(C:aE X.prog X.w X.K X.mg X.base k name ps (pL X.K pre b post))(i:c7 zkk X.A)(h1:EX X U e1 b1 po)(hp:∀a,po a->pre a)
  (c:Ä [e1] X.env=(Â,Õ e1 X.env)::Ä [] X.env<|>zra) (d:(name==("__debug__":Ì))=Â<|>zrb) (hpl:(ã pos (Ä [] X.env)).any (·.1)=Â<|>zra)(kzz:k<=zkk<|>zrb)(f:Gl X name<|>zra):
  EX X U (.Call (.Name name p) [e1] [] pos) b (λr=>∃a,po a/\post a r):=by
 stop
  let⟨l,fd,F,B,kp,m⟩:=C.ex
  show aJ (d9 F (i.mono kzz) f m kp B .nil jD (aC h1 aV c) d c hpl) λY H Q ⟨H0,F,O,S,q⟩=>#[H0,F,O,S,λa j H1 ha e h =>
   #[O,j,a,(S.go e).own,rfl,aT aR h,hp a ha,λz r H' hz s' g=>q z r H' #[a,ha,hz] (e.trans s') ((S.go e).back g)]]
end L2.EP
namespace L2.EP.K
open PySem PySem.Spec PyProof.Rows
variable{a b x c q p d y A e u g α:Int}{l xs z r:.L}{n i m j s:Nat}
noncomputable def top(i:Nat):Ï:=PySem.Challenge.pw_everyplace_k62_rests_alike.main.body.getD i (.Pass #[0,0,0,0])
abbrev o9:Ï:=top 7
abbrev wX:List Ì:=["k"]
def Bw:ao wX ["k"] (af o9):=bS
abbrev zw:Ï:=top 8
abbrev Gb:List Ì:=["base","exponent","answer","step"]
def qH:ao Gb ["base","exponent"] (af zw):=bS
abbrev pY:Ï:=top 9
abbrev vV:List Ì:=["base","exponent","m","answer","square"]
def c9:ao vV ["base","exponent","m"] (af pY):=bS
abbrev nh:Ï:=top 10
abbrev uc:List Ì:=["k","divisor","often","left"]
def fA:ao uc ["k","divisor"] (af nh):=bS
abbrev jH:Ï:=top 11
abbrev o5:List Ì:=["k","root"]
def jg:ao o5 ["k"] (af jH):=bS
abbrev dD:Ï:=top 12
abbrev fY:List Ì:=["k","root"]
def fG:ao fY ["k"] (af dD):=bS
abbrev tf:Ï:=top 13
abbrev yn:List Ì:=["k","m","rest","below","factor","factor_below","often","left","factor_left"]
def bX:ao yn ["k","m"] (af tf):=bS
abbrev gA:Ï:=top 15
abbrev kh:List Ì:=["a","b","rest"]
def dI:ao kh ["a","b"] (af gA):=bS
abbrev i9:Ï:=top 16
abbrev pH:List Ì:=["top","bottom","divisor"]
def nC:ao pH ["top","bottom"] (af i9):=bS
abbrev DQ:Ï:=top 17
abbrev J4:List Ì:=["u","v"]
def Na:ao J4 ["u","v"] (af DQ):=bS
abbrev Ao:Ï:=top 18
abbrev E9:List Ì:=["u","v"]
def Kx:ao E9 ["u","v"] (af Ao):=bS
abbrev iQ:Ï:=top 22
abbrev mB:List Ì:=["k","begin","end","divisor"]
def l6:ao mB ["k","begin","end"] (af iQ):=bS
abbrev pP:Ï:=top 23
abbrev w6:List Ì:=["k"]
def Bi:ao w6 ["k"] (af pP):=bS
abbrev k9:Ï:=top 24
abbrev rA:List Ì:=["k","answer"]
def jZ:ao rA ["k"] (af k9):=bS
abbrev sJ:Ï:=top 25
abbrev ze:List Ì:=["k","end","out","found","left","divisor"]
def dW:ao ze ["k","end"] (af sJ):=bS
abbrev zX:Ï:=top 26
abbrev ED:List Ì:=["k","known","last"]
def wV:ao ED ["k"] (af zX):=bS
abbrev k8:Ï:=top 27
abbrev rE:List Ì:=["k","known","root"]
def jM:ao rE ["k"] (af k8):=bS
abbrev zu:Ï:=top 28
abbrev Gj:List Ì:=["u","known","number","root","part"]
def jf:ao Gj ["u"] (af zu):=bS
abbrev tF:Ï:=top 29
abbrev yI:List Ì:=["k"]
def Dy:ao yI ["k"] (af tF):=bS
abbrev nJ:Ï:=top 31
abbrev t7:List Ì:=["k","p","rest"]
def qJ:ao t7 ["k","p"] (af nJ):=bS
abbrev fN:Ï:=top 32
abbrev jt:List Ì:=["p","k"]
def eV:ao jt ["p"] (af fN):=bS
abbrev nR:Ï:=top 33
abbrev ug:List Ì:=["k","p","often"]
def iA:ao ug ["k","p"] (af nR):=bS
abbrev f_:Ï:=top 34
abbrev kq:List Ì:=["k","p","out","twos","odd","root","error","mender","often","step"]
def aM:ao kq ["k","p"] (af f_):=bS
abbrev g6:Ï:=top 35
abbrev l9:List Ì:=["k","p","kind"]
def kJ:ao l9 ["k","p"] (af g6):=bS
abbrev lK:Ï:=top 36
abbrev qT:List Ì:=["one","m","other","p"]
def x8:ao qT ["one","m","other","p"] (af lK):=bS
abbrev tS:Ï:=top 37
abbrev yr:List Ì:=["k","m","answer","done","part","root"]
def e8:ao yr ["k","m"] (af tS):=bS
abbrev kY:Ï:=top 39
abbrev pV:List Ì:=["k","p","out","rest"]
def fe:ao pV ["k","p"] (af kY):=bS
abbrev ji:Ï:=top 40
abbrev nK:List Ì:=["k","p"]
def uA:ao nK ["k","p"] (af ji):=bS
abbrev pQ:Ï:=top 41
abbrev wY:List Ì:=["one","other","reasons"]
def gU:ao wY ["one","other"] (af pQ):=bS
abbrev o_:Ï:=top 42
abbrev xi:List Ì:=["one","other","p","said"]
def gP:ao xi ["one","other","p"] (af o_):=bS
abbrev Ez:Ï:=top 43
abbrev Lh:List Ì:=["a","b","p","one","other"]
def AU:ao Lh ["a","b","p"] (af Ez):=bS
abbrev m_:Ï:=top 44
abbrev t6:List Ì:=["numbers","found","k","part"]
def iH:ao t6 ["numbers"] (af m_):=bS
abbrev g_:Ï:=top 47
abbrev lX:List Ì:=["k"]
def sX:ao lX ["k"] (af g_):=bS
abbrev rh:Ï:=top 48
abbrev wc:List Ì:=["row"]
def HL:ao wc ["row"] (af rh):=bS
abbrev hV:Ï:=top 49
abbrev lV:List Ì:=["row"]
def tj:ao lV ["row"] (af hV):=bS
abbrev vT:Ï:=top 50
abbrev Cc:List Ì:=["a","b","divisor"]
def yw:ao Cc ["a","b"] (af vT):=bS
abbrev ja:Ï:=top 51
abbrev ng:List Ì:=["row","number","k"]
def eP:ao ng ["row"] (af ja):=bS
abbrev lP:Ï:=top 52
abbrev pO:List Ì:=["row"]
def BU:ao pO ["row"] (af lP):=bS
abbrev vj:Ï:=top 53
abbrev zG:List Ì:=["row","p","noes","i","a"]
def rg:ao zG ["row","p"] (af vj):=bS
abbrev oA:Ï:=top 54
abbrev rZ:List Ì:=["row"]
def C1:ao rZ ["row"] (af oA):=bS
abbrev fB:Ï:=top 55
abbrev jv:List Ì:=["a","b","c","p"]
def o7:ao jv ["a","b","c","p"] (af fB):=bS
abbrev gG:Ï:=top 56
abbrev kI:List Ì:=["numbers","p","product"]
def jr:ao kI ["numbers","p"] (af gG):=bS
abbrev nF:Ï:=top 57
abbrev uq:List Ì:=["numbers","p"]
def Aq:ao uq ["numbers","p"] (af nF):=bS
abbrev dA:Ï:=top 58
abbrev f7:List Ì:=["row","p"]
def dc:ao f7 ["row"] (af dA):=bS
abbrev eT:Ï:=top 59
abbrev hE:List Ì:=["numbers","barring"]
def kK:ao hE ["numbers"] (af eT):=bS
abbrev hX:Ï:=top 60
abbrev l7:List Ì:=["row"]
def sF:ao l7 ["row"] (af hX):=bS
abbrev pR:Ï:=top 63
abbrev vF:List Ì:=["k","left","p"]
def ju:ao vF ["k"] (af pR):=bS
abbrev lH:Ï:=top 67
abbrev qr:List Ì:=["p","no_square"]
def oZ:ao qr ["p"] (af lH):=bS
abbrev eX:Ï:=top 68
abbrev i7:List Ì:=["one","other","p","rest"]
def iq:ao i7 ["one","other","p"] (af eX):=bS
abbrev cW:Ï:=top 69
abbrev dR:List Ì:=["found","p"]
def cz:ao dR [] (af cW):=bS
abbrev iB:Ï:=top 70
abbrev lM:List Ì:=["k","places"]
def xY:ao lM ["k","places"] (af iB):=bS
abbrev eC:Ï:=top 71
abbrev gm:List Ì:=["k","places","wishes","answer","p","classes","own"]
def dF:ao gm ["k","places","wishes"] (af eC):=bS
abbrev mU:Ï:=top 72
abbrev uk:List Ì:=["classes","wishes","own","wish"]
def qM:ao uk ["classes","wishes"] (af mU):=bS
abbrev fF:Ï:=top 73
abbrev i8:List Ì:=["places","wishes","starts","k","known","further","left","classes"]
def bW:ao i8 ["places","wishes"] (af fF):=bS
abbrev eH:Ï:=top 74
abbrev gf:List Ì:=["one","other","p"]
def qZ:ao gf ["one","other","p"] (af eH):=bS
abbrev ou:Ï:=top 75
abbrev se:List Ì:=["one","other","places"]
def wL:ao se ["one","other"] (af ou):=bS
abbrev iD:Ï:=top 77
abbrev lG:List Ì:=["n","place"]
def xS:ao lG ["n","place"] (af iD):=bS
abbrev dw:Ï:=top 78
abbrev eL:List Ì:=["n"]
def nN:ao eL ["n"] (af dw):=bS
abbrev qV:Ï:=top 79
abbrev xq:List Ì:=["T","j"]
def Hr:ao xq ["T","j"] (af qV):=bS
abbrev gL:Ï:=top 80
abbrev jI:List Ì:=["T"]
def xk:ao jI ["T"] (af gL):=bS
abbrev g7:Ï:=top 81
abbrev lS:List Ì:=["numbers","bottom","u"]
def eh:ao lS ["numbers"] (af g7):=bS
abbrev dO:Ï:=top 82
abbrev fO:List Ì:=["numbers","bottom"]
def iO:ao fO ["numbers"] (af dO):=bS
abbrev dE:Ï:=top 83
abbrev fP:List Ì:=["one","other","total"]
def jj:ao fP ["one","other"] (af dE):=bS
abbrev jC:Ï:=top 84
abbrev n_:List Ì:=["one","others"]
def AF:ao n_ ["one","others"] (af jC):=bS
abbrev ki:Ï:=top 85
abbrev oG:List Ì:=["one","other","columns"]
def vU:ao oG ["one","other"] (af ki):=bS
abbrev jS:Ï:=top 87
abbrev o4:List Ì:=["a","b","x","y","top"]
def mX:ao o4 ["a","b","x","y"] (af jS):=bS
abbrev sU:Ï:=top 88
abbrev zg:List Ì:=["k"]
def Dv:ao zg ["k"] (af sU):=bS
abbrev gq:Ï:=top 89
abbrev kC:List Ì:=["row","step","i","j","made","other"]
def cO:ao kC ["row","step"] (af gq):=bS
abbrev pX:Ï:=top 90
abbrev vL:List Ì:=["row","step","numbers","answer"]
def uj:ao vL ["row","step","numbers"] (af pX):=bS
abbrev mY:Ï:=top 91
abbrev tY:List Ì:=["row","step","numbers","i","j","factor","answer"]
def fK:ao tY ["row","step","numbers"] (af mY):=bS
abbrev jW:Ï:=top 93
abbrev oU:List Ì:=["row","steps","answer","table","step","numbers"]
def cu:ao oU ["row","steps"] (af jW):=bS
abbrev dG:Ï:=top 95
abbrev fE:List Ì:=["numbers","divisor","k"]
def dh:ao fE ["numbers"] (af dG):=bS
abbrev g5:Ï:=top 96
abbrev me:List Ì:=["a","b","answer"]
def j6:ao me ["a","b"] (af g5):=bS
abbrev jU:Ï:=top 97
abbrev oV:List Ì:=["a","lesser","root","zero","x","y"]
def jd:ao oV ["a","lesser","root","zero"] (af jU):=bS
abbrev g9:Ï:=top 98
abbrev lW:List Ì:=["k","m","root"]
def kz:ao lW ["k","m"] (af g9):=bS
abbrev eO:Ï:=top 99
abbrev lR:List Ì:=["a","b","found","root","lesser"]
def c8:ao lR ["a","b"] (af eO):=bS
abbrev h_:Ï:=top 100
abbrev lU:List Ì:=["row","one","other","found","root","other_root","x"]
def bR:ao lU ["row"] (af h_):=bS
abbrev gI:Ï:=top 101
abbrev jT:List Ì:=["numbers"]
def xc:ao jT ["numbers"] (af gI):=bS
abbrev cY:Ï:=top 103
abbrev eE:List Ì:=["numbers","c","zero","h","often","answer"]
def dH:ao eE ["numbers","c","zero"] (af cY):=bS
abbrev g8:Ï:=top 104
abbrev lT:List Ì:=["a","b","c"]
def tw:ao lT ["a","b","c"] (af g8):=bS
abbrev d8:Ï:=top 107
abbrev gO:List Ì:=["one","other","p"]
def f9:ao gO ["one","other"] (af d8):=bS
abbrev sE:Ï:=top 108
abbrev zd:List Ì:=["one","other","p"]
def xg:ao zd ["one","other"] (af sE):=bS
abbrev eJ:Ï:=top 109
abbrev iu:List Ì:=["k"]
def mL:ao iu ["k"] (af eJ):=bS
abbrev bt:Ï:=top 110
abbrev bK:List Ì:=["row","longest"]
def fg:ao bK ["row","longest"] (af bt):=bS
abbrev sf:Ï:=top 111
abbrev zl:List Ì:=["i","j","a","b","c","values"]
def wy:ao zl ["i","j","a","b","c"] (af sf):=bS
abbrev sW:Ï:=top 115
abbrev yD:List Ì:=["one","other","apart","steps"]
def w_:ao yD ["one","other"] (af sW):=bS
abbrev gg:Ï:=top 118
abbrev kd:List Ì:=["row","answer","k"]
def dM:ao kd ["row"] (af gg):=bS
abbrev jO:Ï:=top 119
abbrev oY:List Ì:=["size","number","odd","p"]
def xr:ao oY ["size","number","odd","p"] (af jO):=bS
abbrev gh:Ï:=top 120
abbrev kg:List Ì:=["row","p","size","number","odd","often"]
def bc:ao kg ["row","p"] (af gh):=bS
abbrev dN:Ï:=top 121
abbrev fH:List Ì:=["row","above"]
def iZ:ao fH ["row"] (af dN):=bS
abbrev eA:Ï:=top 122
abbrev gB:List Ì:=["row"]
def qY:ao gB ["row"] (af eA):=bS
abbrev pG:Ï:=top 123
abbrev wA:List Ì:=["i","j"]
def BK:ao wA ["i","j"] (af pG):=bS
abbrev dg:Ï:=top 124
abbrev fI:List Ì:=["row"]
def kP:ao fI ["row"] (af dg):=bS
abbrev gZ:Ï:=top 126
abbrev md:List Ì:=["row","t"]
def kN:ao md ["row"] (af gZ):=bS
abbrev j9:Ï:=top 127
abbrev qj:List Ì:=["row","steps"]
def kM:ao qj ["row"] (af j9):=bS
abbrev jV:Ï:=top 129
abbrev oX:List Ì:=["_law_script","_law_k"]
def vA:ao oX ["_law_script","_law_k"] (af jV):=bS
abbrev r_:Ï:=top 130
abbrev yY:List Ì:=["_law_cell","_law_k","_law_number","_law_j","_law_part"]
def gE:ao yY ["_law_cell","_law_k"] (af r_):=bS
abbrev nG:Ï:=top 131
abbrev t_:List Ì:=["_law_cell","_law_number","_law_bits","_law_p"]
def eB:ao t_ ["_law_cell"] (af nG):=bS
abbrev iU:Ï:=top 132
abbrev mD:List Ì:=["_law_cell","_law_size","_law_row","_law_k"]
def eR:ao mD ["_law_cell","_law_size"] (af iU):=bS
abbrev kT:Ï:=top 133
abbrev qO:List Ì:=["_law_a","_law_b","_law_rest_here"]
def gH:ao qO ["_law_a","_law_b"] (af kT):=bS
abbrev pN:Ï:=top 134
abbrev xI:List Ì:=["_law_k","_law_root_here"]
def nE:ao xI ["_law_k"] (af pN):=bS
abbrev pF:Ï:=top 135
abbrev vE:List Ì:=["_law_number","_law_left","_law_free_here","_law_d","_law_often"]
def b_:ao vE ["_law_number"] (af pF):=bS
abbrev gp:Ï:=top 136
abbrev kH:List Ì:=["_law_one","_law_other_here","_law_part"]
def jA:ao kH ["_law_one","_law_other_here"] (af gp):=bS
abbrev jh:Ï:=top 137
abbrev nB:List Ì:=["_law_number","_law_left","_law_p"]
def eQ:ao nB ["_law_number"] (af jh):=bS
abbrev mK:Ï:=top 138
abbrev uv:List Ì:=["_law_row","_law_cell","_law_new","_law_turn","_law_i","_law_j","_law_x","_law_y","_law_made","_law_c"]
def bT:ao uv ["_law_row","_law_cell"] (af mK):=bS
abbrev p4:Ï:=top 139
abbrev vR:List Ì:=["_law_row","_law_steps","_law_many","_law_behind","_law_k"]
def jB:ao vR ["_law_row"] (af p4):=bS
abbrev nV:Ï:=top 140
abbrev uw:List Ì:=["_law_row","_law_other_here","_law_door"]
def Aa:ao uw ["_law_row","_law_other_here","_law_door"] (af nV):=bS
abbrev gK:Ï:=top 141
abbrev jL:List Ì:=["_law_row","_law_other_here","_law_door","e"]
def nW:ao jL ["_law_row","_law_other_here","_law_door"] (af gK):=bS
abbrev FI:Ï:=top 142
abbrev Ke:List Ì:=["_law_script","_law_k","_law_cells","_law_one","_law_here","_law_there","_law_bad","_law_door"]
def mE:ao Ke ["_law_script"] (af FI):=bS
section
variable{P:Ð}{w:Ø}{K:Ã}{mg:Ì->Option Å}{base:Û}{f:Ç}{k:Nat}(B:Bu mg)
def D5(x:Int):⇑Body wX "is_whole" o9 f kk [.val Â x] (RT Á Á):=by
 intro a A outer s H E b;show av (uo (QK rfl B.isinstance rfl B.int .A) λ_=>(t9 (yX (Tq rfl B.isinstance rfl B.bool .A)))) rfl
def NV(b e m:Int):Int:=b^↥e%m
def cM{m:Int}(h:1<=m):a.fmod m=a%m:=ae3 a .b
def NT{S m:Int}(h:n%2=1):(A*S%m)*(S*S%m)^(n/2)%m=A*S^n%m:=by
 rw[ϛ,agS _ (ϳ m),mQ,<-ϛ,ahO,<-Ź,ĵ];congr 2;let e:S^n=S^(1+(n/2+n/2)):=by congr 1;lia
 rw[e,Ź S 1,Ī,ŀ,Ś,Ź]
def J7{S m:Int}(h:n%2=0):A*(S*S%m)^(n/2)%m=A*S^n%m:=by
 rw[ϛ,mQ,<-ϛ,ahO,<-Ź];congr 3;lia
def CY(h:0<=e):↥(e.fdiv 2)=↥e/2/\0<=e.fdiv 2:=by
 rw[aeU _ .a];lia
def C_(x e m:Int)(he:0<=e)(c:1<=m)(o:m<2^62):⇑Body vV "power_by" pY f kk [.val Â x,.val Â e,.val Â m] (RT Á (NV x e m)):=by
 intro p A outer s H E y;show aq 3 c9.nd (bg ae .C .f) ?_;show aq 4 c9.nd (bg .A .C .f) ?_;rw[cM c,cM c]
 show cD (ι:=Bool×Int×Int×Int) (λi U=>U=[#v[x],À (.val i.1 i.2.1),#v[m],‹i.2.2.1›,‹i.2.2.2›]/\0<=i.2.1/\i.2.2.1*i.2.2.2^↥i.2.1%m=x^↥e%m/\0<=i.2.2.1/\i.2.2.1<m/\0<=i.2.2.2/\i.2.2.2<m) (λi=>↥i.2.1) (Â,e,1%m,x%m)
  #[rfl,he,by dsimp only;rw[ϛ,agS _ (ϳ m),mQ,<-ϛ,Ś],ŭ _ .f,Ů _ .f,ŭ _ .f,Ů _ .f] ?_
 rintro⟨t,n,a,q⟩ U' ⟨rfl,r,hi,j,l,v,u⟩;dsimp only at *;show#[_,aD fZ .B ae,λb=>?_,λb=>?_]
 .let hpos:0<n:=by simpa using b
  let d:=CY r;let h:=ŭ (q*q) (.f:m≠0);let k:=Ů (q*q) (.f:0<m);show aO (aD aG (bg .B ae .a) ae) (λb=>?_) (λb=>?_)
  .let g:↥n%2=1:=by
    let:n.fmod 2=1:=by simpa using b
    rw[cM .a] at this;omega
   show aq 3 c9.nd (bg (aF .D (aa 4) (mulL .f .f)) .C .f) (aK ?_);show aq 4 c9.nd (bg (aF (aa 4) (aa 4) (mulL .f .f)) .C .f) ?_;show aq 1 c9.nd (bw .B ae CK) ?_;rw[cM c,cM c];show aK #[(Á,n.fdiv 2,a*q%m,q*q%m),#[rfl,d.2,?_,ŭ _ .f,Ů _ .f,h,k],?_]
   .dsimp only;rw[d.1,NT g,hi]
   .dsimp only;omega
  .let g:↥n%2=0:=by
    let:¬n.fmod 2=1:=by simpa using b
    rw[cM .a] at this;omega
   show aq 4 c9.nd (bg (aF (aa 4) (aa 4) (mulL .f .f)) .C .f) ?_;show aq 1 c9.nd (bw .B ae CK) ?_;rw[cM c];show aK #[(Á,n.fdiv 2,a,q*q%m),#[rfl,d.2,?_,j,l,h,k],?_]
   .dsimp only;rw[d.1,J7 g,hi]
   .dsimp only;omega
 .let hz:↥n=0:=by
   let:¬0<n:=by simpa using b
   omega
  rw[hz,ŀ,Đ,ahb j l] at hi;show av .D ?_;change Bd.val _ _=Bd.val _ _;delta NV;rw[<-hi]
def D1{k l n:Int}(g:0<=n)(he:k=l*d^↥n)(f:2<=d)(e:l.fmod d=0)(hz:l≠0):0<=n+1/\k=l.fdiv d*d^↥(n+1)/\l.fdiv d≠0/\(l.fdiv d).natAbs<l.natAbs:=by
 let⟨a,b,c⟩:=Bq f (Q.jb.mp e) hz;show#[.b,?_,b,c];rw[(.b:↥(n+1)=↥n+1),Ī,he];generalize d^↥n=t;generalize l.fdiv d=q at *;rw[<-a];grind
def Ca(x d:Int)(k:x≠0)(c:2<=d)(g:Sm 9000 d):⇑Body uc "taken_out" nh f kk [.val Â x,.val Â d] (RT Á (a7 x d)):=by
 intro m A outer s H E u;show aq 2 fA.nd ae ?_;show aq 3 fA.nd .A ?_;show cD (ι:=Bool×Int×Int) (λi U=>U=[#v[x],#v[d],‹i.2.1›,À (.val i.1 i.2.2)]/\0<=i.2.1/\x=i.2.2*d^↥i.2.1/\i.2.2≠0) (λi=>i.2.2.natAbs) (Â,0,x) #[rfl,Ņ 0,by dsimp only;rw[show ↥(0:Int)=0 from rfl,ŀ,Đ],k] ?_;rintro⟨t,n,l⟩ U' ⟨rfl,e,he,o⟩;dsimp only at *;show#[_,aD aG (bg .D .B .b) ae,λb=>?_,λb=>?_]
 .let a:l.fmod d=0:=by simpa using b
  show aq 3 fA.nd (bw .D .B (g.div .b)) ?_;show aq 2 fA.nd (bH .C ae) ?_;let⟨p,q,j,h⟩:=D1 e he c a o;show aK #[(Á,n+1,l.fdiv d),#[rfl,p,q,j],h]
 .let a:¬l.fmod d=0:=by simpa using b
  show av (bj .C (dY (b':=Á) .D)) ?_;change Bd.val _ _=Bd.val _ _;rw[nD c (r:=(n,l)) #[e,he,λz=>a (Q.jb.mpr z)]];rfl
def O8{k:Int}(c:0<=k):k<.O^((Í k+1)/2)*2^((Í k+1)/2):=by
 let d:k.natAbs<2^Í k:=by
  unfold Í;by_cases hz:k=0
  .subst hz;decide
  .rw[adF ↑hz];show Nat.lt_log2_self
 let h2:Í k<=(Í k+1)/2+(Í k+1)/2:=.b
 let b:(2:Nat)^Í k<=2^((Í k+1)/2+(Í k+1)/2):=afS .a h2;rw[<-Ź];let a:((2^((Í k+1)/2+(Í k+1)/2):Nat):Int)=.O^((Í k+1)/2+(Í k+1)/2):=by rw[ahB];rfl
 rw[<-a];lia
def xQ(x:Int)(g:0<=x)(j:Sm 8000 x):⇑Body o5 "square_root" jH f k [.val Â x] (RT Á (rt x)):=by
 intro m A outer s H E t;let o:Í x<=8000:=j.bits
 let c:((Í x:Int)+1).fdiv 2=(((Í x+1)/2:Nat):Int):=by
  rw[aeU _ .a];lia
 show aq 1 jg.nd (V5 ae (bw (bH (RJ .A) ae) ae CK) #[by rw[c];lia,by rw[c];lia,.a]) ?_;rw[c,Ś,Ó];let p:=O8 g
 let i:Sm 8001 (.O^((Í x+1)/2)):=by
  unfold Sm;rw[Int.natAbs_pow];show Nat.pow_lt_pow_right .a .b
 let hp:.N<2^((Í x+1)/2):=Ş .a;generalize .O^((Í x+1)/2)=R at *
 show cD (ι:=Int) (λr U=>U=[#v[x],‹r›]/\0<=r/\r<=R/\x<(r+1)*(r+1)) (λr=>↥r) R #[rfl,.b,.b,by
  let:R*R<=(R+1)*(R+1):=Ma .b .b
  lia] ?_
 rintro r U' ⟨rfl,e,q,l⟩;let b:Sm 8001 r:=Sm.of_le .b i;show#[_,aD fZ (aF .B .B (b.ok b)) .A,λd=>?_,λd=>?_]
 .let a:x<r*r:=by simpa using d
  let hpos:0<r:=by
   obtain z|z:=afy e
   .show z
   .rw[<-z] at a;simp at a;lia
  show aq 1 jg.nd (bw (bH .B (bw .A .B (b.div .b))) ae CK) ?_;let⟨h,u,n⟩:=Kl g hpos a;show aK #[_,#[rfl,h,.b,n],.b]
 .let a:r*r<=x:=by simpa using d
  show av .B ?_;change Bd.val _ _=Bd.val _ _;rw[d_ e a l]
noncomputable def Ba(k:Int):Option Int:=if k<0 then none else if rt k*rt k=k then À (rt k) else none
def VH{k:Int}(b:0<=k)(a:Sm n k):Sm n (rt k):=by
 let h1:=E3 b;let h2:=iL k;show Sm.of_le ?_ a
 let:rt k<=k:=by
  obtain z|z:=Ϗ (rt k) 1
  .lia
  .let:rt k*1<=rt k*rt k:=Ł z h2;lia
 lia
abbrev acz(P w K mg base):=aE P w K mg base 1 "square_root" ["k"] (bU K (λk=>0<=k/\Sm 8000 k) Á rt)
def mi(d:⇑acz)(x:Int)(c:Sm 8000 x):⇑Body fY "square_root_or_none" dD f 1 [.val Â x] (RT Á (Ba x)):=by
 intro g A outer s H E h;show aO (aD kO .A ae) (λa=>?_) (λa=>?_)
 .let e:Ba x=none:=adI ↑a;rw[e];show av (l_ (M:=Int)) rfl
 let i:¬x<0:=by simpa using a
 show aq 1 fG.nd (aB d h .A #[.b,c]) ?_;let b:=VH .b c;show av (kL (aD aG (aF .B .B (b.ok b)) .A) (λ_=>(aa 1).some) λ_=>l_ (M:=Int)) ?_;change Bd.val _ _=Bd.val _ _;congr 1;delta Ba;rw[adF i];by_cases z:rt x*rt x=x
 .rw[adI z,adI ↑z]
 .rw[adF z,adF ↑z]
def sR(a b:Int):⇑Body kh "common_divisor" gA f k [.val Â a,.val Â b] (RT Á ((È a b:Nat):Int)):=by
 intro g A outer s H E h;show cD (ι:=Bool×Bool×Int×Int) (λi U=>∃r,U=[À (.val i.1 i.2.2.1),À (.val i.2.1 i.2.2.2),r]/\È i.2.2.1 i.2.2.2=È a b) (λi=>i.2.2.2.natAbs) (Â,Â,a,b) #[none,rfl,rfl] ?_;rintro⟨b1,b2,x,y⟩ U' ⟨r,rfl,c⟩;show#[_,aD cH .B ae,λe=>?_,λe=>?_]
 .let d:y≠0:=by simpa using e
  show aq 2 dI.nd (bg .A .B d) ?_;show aq 0 dI.nd .B ?_;show aq 1 dI.nd .C ?_;show aK #[(b2,Á,y,x.fmod y),#[_,rfl,(qp x y).trans c],FH x y d]
 .let d:y=0:=by simpa using e
  show av (iY rfl B.abs .A) ?_;dsimp only at c ⊢;rw[d,ag6] at c;rw[<-c];change Bd.val _ _=Bd.val _ _;congr 1;split<;>lia
def Tp(_ b:Int):Prop:=b≠0/\Sm 9000 b
abbrev acA(P w K mg base):=aE P w K mg base 1 "common_divisor" ["a","b"] (bL K (λ_ _=>True) Á λa b=>((È a b:Nat):Int))
def Er(h:⇑acA)(t b:Int)(e:b≠0)(i:Sm 9000 b):
  Body P w K mg base pH "fraction" i9 f 1 [.val Â t,.val Â b] (RT Á (fr t b)):=by
 intro a A outer s H E j;let g:=yF (t:=t) e;let hz:Sm 9000 (fd t b):=Sm.of_le (VD e) i;show aq 2 nC.nd (ax (kzz:=.b) h j .A .B Ê) ?_
 let last:∀d:Int,d=fd t b->S (⇑cx pH "fraction" i9 f a A outer s H E) [#v[t],#v[b],‹d›] [(bJ i9).getD 2 (.Pass #[0,0,0,0])] (RT Á (fr t b)):=by
  rintro d rfl;show av (bj (bw .A .C (hz.div g)) (bw .B .C (hz.div g))) rfl
 show aO (aD kO .B ae) (λc=>?_) (λc=>?_)
 .show aq 2 nC.nd (bV .C) (aK ?_);show last _ (by unfold fd;rw[adI ↑c])
 .show last _ (by unfold fd;rw[adF ↑c])
def VG{m:Int}:i<↥(Ò b m 2)↔b+(i:Int)*2<m:=by
 unfold Ò;simp;split<;>lia
def wx(q:⇑acz)(x b e:Int)(hp:1<=x/\Sm 8000 x/\1<=b/\b<2^62/\-(2^62)<=e/\e<2^62):
  Body P w K mg base mB "next_divisor" iQ f 1 [.val Â x,.val Â b,.val Â e] (RT Á (ur x b e)):=by
 intro t A outer s H E v;let⟨h1,h2,C,p,y,D⟩:=hp;let n:=iL x;let l:-(2^62)<=(if rt x+1<e then rt x+1 else e)/\(if rt x+1<e then rt x+1 else e)<2^62:=by split<;>lia
 let k:ur x b e=VT x b (if rt x+1<e then rt x+1 else e):=rfl;show ua (λi U=>∃r,U=[#v[x],#v[b],#v[e],r]/\∀j:Nat,j<i->¬(b+(j:Int)*2)∣x) rfl B.range (b9 3 l6.nd) .B (MK rfl rfl B.min .C (bH (aB q v .A #[.b,h2]) ae)) ae #[.b,p,l.1,l.2] .a #[none,rfl,λj a=>absurd a (ag1 _)] ?_ ?_
 .rintro i U' hi ⟨r,rfl,a⟩;let c:=VG.mp hi;show aO (aD aG (bg .A .D .b) ae) (λd=>?_) (λd=>?_)
  .let g:(b+(i:Int)*2)∣x:=Q.jb.mp ↑d;show av (aa 3).some ?_;change Bd.val _ _=Bd.val _ _;rw[k,<-zD (r:=À (b+(i:Int)*2)) #[.b,c,.b,g,λd' o m u=>?_]];let:=a ↥((d'-b)/2) .b
   rwa [(.b:b+((↥((d'-b)/2):Nat):Int)*2=d')] at this
  .let g:¬(b+(i:Int)*2)∣x:=λz=>by
    let:=Q.jb.mpr z;simp[this] at d
   show aK #[_,rfl,λj h=>?_];obtain z|z:=ah9.mp h
   .show a j z
   .rwa[z]
 .rintro U' ⟨r,rfl,a⟩;show av (l_ (M:=Int)) ?_;change Bd.val _ _=Bd.val _ _;rw[k,<-zD (r:=none) λd' o m u=>?_];let:=a ↥((d'-b)/2) (VG.mpr .b)
  rwa [(.b:b+((↥((d'-b)/2):Nat):Int)*2=d')] at this
def Qm(k:Int):k.fmod 2=k%2:=ae3 k .a
abbrev acB(P w K mg base):=aE P w K mg base 2 "next_divisor" ["k","begin","end"] (s_ K (λk b e=>1<=k/\Sm 8000 k/\1<=b/\b<2^62/\-(2^62)<=e/\e<2^62) Á ur)
def CZ(g:⇑acB)(x:Int)(e:x<2^62):
  Body P w K mg base w6 "is_prime" pP f 2 [.val Â x] (RT Á (aN x)):=by
 intro d A outer s H E c;show aO (TW.t (mJ (aD kO .A ae) λ_=>(lL (aD aG (bg .A ae .a) ae)))) (λb=>?_) (λb=>?_)
 .let a:x<3\/x%2=0:=by simpa [Qm] using b
  show av (jw aG .A ae) ?_;change Bd.val _ _=Bd.val _ _;congr 1;rw[afC,cQ,afe];constructor
  .show .inl
  .rintro(z|z)<;>omega
 .let a:3<=x/\x%2=1:=by
   let:¬(x<3\/x%2=0):=by simpa [Qm] using b
   omega
  show av (Vs (b8 g c .A ae .A #[.f,Sm.le (m:=62) (by unfold Sm;omega) .a,.a,.a,.f,e]) λ_ _ _ _ h=>nomatch h) ?_;change Bd.val _ _=Bd.val _ _;rw[Pa a.1 a.2]
def Ww(k e:Int):Prop:=1<=k/\Sm 900 k/\0<=e/\e<2^61
theorem Kn:∀{us:List (Int×Int)} {a b:Int},1<=a->ic a us b->.O^~~~us<=pp us:=@zrL _ _ (@λ_ _ _ _=>by change .O^0<=1;decide) @λu us Kn a b ha h=>by
  let h1:=Kn (by let:=h.1;lia:1<=u.1) h.2.2.2
  let c:.O<=u.1^↥u.2:=by
   let e:↥u.2=(↥u.2-1)+1:=by let:=h.2.2.1;lia
   rw[e,Ī];let:.N<u.1^(↥u.2-1):=Ş (by let:=h.1;lia);let:=h.1;let:1*2<=u.1^(↥u.2-1)*u.1:=Ű .b .b .a .b;lia
  change .O^(~~~us+1)<=u.1^↥u.2*pp us;rw[Ī,ī];let d:.N<2^~~~us:=Ş .a;show Ű c h1 .b .b
def IK{k:Int}{fs:List (Int×Int)}{l:Int}(I:C0 k fs l b):l<=k/\.O^~~~fs<=k:=by
 let h1:=I.prod;let h2:=lh .a I.rise;let d:=I.pos;let c:=Kn (Ņ 1) I.rise;let a:1*l<=pp fs*l:=aeu .b .b;let e:pp fs*1<=pp fs*l:=Ł .b .b;lia
def Ec{k:Int}(h:.O^m<=k)(a:Sm 900 k):m<=900:=by
 apply ğ;intro b;unfold Sm at a;let h1:(2:Nat)^900<=2^m:=afS .a .b;let h2:((2^m:Nat):Int)=.O^m:=by rw[ahB];rfl
 lia
abbrev acC(P w K mg base):=aE P w K mg base 1 "taken_out" ["k","divisor"] (bL K (λk d=>k≠0/\2<=d/\Sm 9000 d) Á a7)
def G4(v:⇑acC)(t:⇑acB)(x e:Int)(hp:Ww x e):
  Body P w K mg base ze "divided" sJ f 2 [.val Â x,.val Â e] (RT Á (bM x e)):=by
 intro J A outer s H E o;let⟨h1,h2,W,N⟩:=hp;let⟨y,h⟩:=sG h1;let two:Sm 9000 .O:=Sm.le (m:=2) (by unfold Sm;decide) .a;show aq 2 dW.nd (ax v o .A ae #[.b,.a,two]) ?_;show zM 3 dW.nd (Ug (aD fZ (aX .C) ae) (λ_=>Ek (M:=Int×Int) (az (bj ae (aX .C)) a_) (ſ rfl)) λ_=>Ek (M:=Int×Int) (b:=Á) a_ (ſ rfl)) ?_
 let F:(if decide (0<(a7 x 2).1)=Á then [(.O,(a7 x 2).1)] else [])=CD x:=by
  unfold CD;by_cases z:0<(a7 x 2).1
  .rw[adI z,adI ↑z]
  .rw[adF z,adF ↑z]
 rw[F];show Fn (M:=Int×Int) 3 Á rfl ?_;show aq 4 dW.nd (aY .C) ?_;let k:∀l:Int,0<l->l<=x->Sm 8000 l:=λl a b=>Sm.le (Sm.of_le .b h2) .a;let p:=y.pos;show aq 5 dW.nd (b8 t o (aa 4) ae .B #[.b,k _ p h,.a,.a,.b,.b]) ?_;show cD (ι:=Nat×List (Int×Int)×Int×Int) (λi U=>∃r,U=[#v[x],#v[e],r,À (.own Á i.2.1),‹i.2.2.1›,‹ur i.2.2.1 i.2.2.2 e›]/\C0 x i.2.1 i.2.2.1 i.2.2.2/\i.2.2.1<=(i.1:Int)/\Io e i.1 i.2.1 i.2.2.1 i.2.2.2=bM x e) (λi=>i.1) (↥x,CD x,(a7 x 2).2,3) #[_,rfl,y,.e,rfl] ?_;rintro⟨n,fs,l,b⟩ U' ⟨r,rfl,I,X,u⟩;dsimp only at *;let q:=I.pos;let B:=I.b3;let⟨C,g⟩:=IK I;cases n with
 |zero=>lia
 |succ n =>
 show#[_,G7 (M:=Int) (aa 5) rq,λj=>?_,λj=>?_]
 .cases c:ur l b e with
  |none=>rw[c] at j;cases j
  |some d =>
   let⟨α,S,R,Γ,D,O⟩:=n9 .b .b c;let⟨G,L,T,V⟩:=Ae (.b:2<=d) q D;show aq 2 dW.nd (ax v o (aa 4) (fX (M:=Int) (a:=d) (aa 5)) #[.b,.b,Sm.le (m:=62) (by unfold Sm;lia) .a]) ?_;show rF 3 rfl (dY (b':=Á) (bj (fX (M:=Int) (a:=d) (aa 5)) (aX .C))) (by let:=Ec g h2;lia) ?_;show aq 4 dW.nd (aY .C) ?_;show aq 5 dW.nd (b8 t o (aa 4) (bH (fX (M:=Int) (a:=d) (aa 5)) ae) .B #[.b,k _ G .b,.b,.b,.b,.b]) ?_;show aK #[(n,fs++[(d,(a7 l d).1)],(a7 l d).2,d+2),#[_,rfl,I.step c,.e,?_],.e];rw[<-u];change _=Io e (n+1) fs l b;rw[Io,c]
 .let c:ur l b e=none:=by
   cases hz:ur l b e with
   |none=>rfl
   |some d=>rw[hz] at j;cases j
  show gR 3 rfl ?_;let e2:Io e (n+1) fs l b=(fs,l):=by rw[Io,c]
  rw[<-u,e2];show av (bj .D (aa 4)) ?_;rfl
abbrev acD(P w K mg base):=aE P w K mg base 3 "divided" ["k","end"] (bL K Ww Á bM)
def NH(d:⇑acD)(x:Int)(hp:1<=x/\x<2^60):⇑Body ED "parts" zX f 3 [.val Â x] (RT Á (oh x)):=by
 intro h A outer s H E g;let c:Sm 900 x:=Sm.le (m:=60) (by unfold Sm;lia) .a;show aq 1 wV.nd (ax d g .A (bH .A ae) #[hp.1,c,.b,.b]) ?_;show aq 2 wV.nd (kL (aD fZ (aY .B) ae) (λ_=>(cw (M:=Int×Int) (az (bj (aY .B) ae) a_) (ſ rfl))) λ_=>(cw (M:=Int×Int) a_ (ſ rfl))) ?_;let⟨b,I,_⟩:=oD (e:=x+1) hp.1;let⟨_,a⟩:=IK I;let i:=Ec a c;show av (Bj (aX .B) .C ?_) ?_
 .split
  .change _+1<=1000;lia
  .change _+0<=1000;lia
 .change Bd.val _ _=Bd.val _ _;delta oh;congr 2;by_cases z:1<(bM x (x+1)).2
  .rw[adI z,adI ↑z]
  .rw[adF z,adF ↑z]
def SX(k:Int):Option (List (Int×Int)×Int) :=
 if 1<(bM k 32768).2/\(bM k 32768).2<1073741824 then À ((bM k 32768).1++[((bM k 32768).2,1)],1) else (Ba (bM k 32768).2).map λq=>((bM k 32768).1,q)
abbrev acE(P w K mg base):=aE P w K mg base 2 "square_root_or_none" ["k"] (bU K (λk=>Sm 8000 k) Á Ba)
def A2(l:sO mg "GREAT_PRIMES_FROM" 32768)(YR:sO mg "GREAT_FROM" 1073741824)(i:⇑acD)(m:⇑acE)(x:Int)(hp:1<=x/\Sm 900 x):
  Body P w K mg base rE "tame_parts" k8 f 3 [.val Â x] (RT Á (SX x)):=by
 intro k A outer s H E g;show aq 1 jM.nd (ax i g .A (mZ rfl l) #[hp.1,hp.2,.a,.a]) ?_;let⟨b,I,_⟩:=oD (e:=32768) hp.1;let⟨j,c⟩:=IK I;let o:=Ec c hp.2;let hpos:=I.pos;show aO (ET kO kO ae (aY .B) (mZ rfl YR)) (λd=>?_) (λd=>?_)
 .let e:SX x=À ((bM x 32768).1++[((bM x 32768).2,1)],1):=adI ↑d;rw[e];show av (lJ (bj (Bj (aX .B) (cw (M:=Int×Int) (b:=Á) (az (dY (b':=Á) (bj (aY .B) ae)) a_) (ſ rfl)) (by change _+1<=1000;lia)) ae)) rfl
 let e:SX x=(Ba (bM x 32768).2).map λq=>((bM x 32768).1,q):=adF ↑d;rw[e];show aq 2 jM.nd (aB m g (aY .B) (Sm.le (Sm.of_le .b hp.2) .a)) ?_;cases n:Ba (bM x 32768).2 with
 |none=>show av (kL (M:=Option (List (Int×Int)×Int)) (x:=none) (y:=none) (qx (M:=Int) (x:=none) .C rq) (λ_=>l_ (M:=List (Int×Int)×Int)) λh=>absurd h .a) rfl
 |some r =>
  show av (kL (M:=Option (List (Int×Int)×Int)) (x:=none) (y:=À ((bM x 32768).1,r)) (qx (M:=Int) (x:=À r) .C rq) (λh=>absurd h ō) λ_=>lJ (bj (aX .B) (fX (M:=Int) (a:=r) .C))) ?_;rfl
def V7(b e:Int):Int:=b^↥e
def XR(b e:Int):Prop:=1<=b/\0<=e/\e<2^62/\Sm 1000 (b^↥e)/\Sm 1000 b
def B8(a:1<=b)(h:m<=n):b^m<=b^n:=by
 obtain⟨d,rfl⟩:∃d,n=m+d:=#[n-m,.b];rw[Ź];show lB (Ş .b) (by let:=Ş (n:=b) (m:=d) .b;lia)
def Nq(b e:Int)(hp:XR b e):⇑Body Gb "power" zw f kk [.val Â b,.val Â e] (RT Á (V7 b e)):=by
 intro a A outer s H E j;let⟨h1,h2,h,d,c⟩:=hp;show aq 2 qH.nd ae ?_;show eU (n:=e) (λi U=>∃r,U=[#v[b],#v[e],‹b^i›,r]) rfl B.range (b9 3 qH.nd) .B .b h #[none,by rw[ŀ];rfl] ?_ ?_
 .rintro i U' hi ⟨r,rfl⟩
  let g:Sm 1000 (b^i):=by
   let:=B8 h1 (ź hi);let:=Ş (n:=b) (m:=i) .b;show Sm.of_le .b d
  show aq 2 qH.nd (aF .C .A (g.ok c)) ?_;show aK #[_,by rw[Ī];rfl]
 .rintro U' ⟨r,rfl⟩;show av .C rfl
def zJ{M β:Type}[Py M][Py β](K:Ã)(N:Nn)(H:Hp)(a:M×β):¬Py.rp K N H .non a:=fun⟨_,_,_,e,_⟩=>nomatch e
def tq(i:Int):(if i<0 then -i else i)=(i.natAbs:Int):=by split<;>lia
def TJ(u:Int×Int):Prop:=u.1≠0/\1<=u.2/\Sm 400 u.1/\Sm 400 u.2/\Tame (u.1.natAbs*u.2)
def Kj{k:Int}(a:1<=k)(c:Tame k):SX k=À (uX k):=by
 let⟨h1,_,_,_⟩:=DC a c;let⟨b,I,_⟩:=oD (k:=k) (e:=32768) a;let hp:=I.pos;delta SX uX;by_cases z:1<(bM k 32768).2/\(bM k 32768).2<1073741824
 .rw[adI z,adI z]
 .rw[adF z,adF z]
  let h2:rt (bM k 32768).2*rt (bM k 32768).2=(bM k 32768).2:=by
   obtain h1|h1:=h1
   .show absurd h1 z
   .show h1
  delta Ba;rw[adF .b,adI h2];rfl
abbrev acF(P w K mg base):=aE P w K mg base 2 "fraction" ["top","bottom"] (bL K Tp Á fr)
def O0(t:⇑aE 1 "power" ["base","exponent"] (bL K XR Á V7))(S:⇑acF)(C:⇑aE 4 "tame_parts" ["k"] (bU K (λk=>1<=k/\Sm 900 k) Á SX))(u:Int×Int)(hp:TJ u):
  Body P w K mg base Gj "freed" zu f 4 [.val Â u] (RT Á (Fe u)):=by
 intro W A outer s H E I;let⟨h0,h1,Γ,D,α⟩:=hp;let l:Sm 400 (u.1.natAbs:Int):=Sm.of_le .b Γ
 let y:1<=(u.1.natAbs:Int)*u.2:=by
  let:0<(u.1.natAbs:Int)*u.2:=Ħ .b .b;lia
 let p:Sm 800 ((u.1.natAbs:Int)*u.2):=l.mul D;show aq 1 jf.nd (aB C I (jk (aF (iY rfl B.abs (aX .A)) (aY .A) (by rw[tq];show l.ok D)) (by rw[tq])) #[y,Sm.le p .a]) ?_;rw[Kj y α];let⟨_,⟨b,e⟩,F,d⟩:=DC y α;let q:Fe u=(((uX (u.1.natAbs*u.2)).1.foldl Q.my (if 0<u.1 then 1 else -1,(uX (u.1.natAbs*u.2)).2)).1,fr ((uX (u.1.natAbs*u.2)).1.foldl Q.my (if 0<u.1 then 1 else -1,(uX (u.1.natAbs*u.2)).2)).2 u.2):=rfl;rw[q];generalize (u.1.natAbs:Int)*u.2=k at *;generalize hT:uX k=T at *;show aO (qx (M:=List (Int×Int)×Int) (x:=À T) .B zJ) (λh=>absurd h .c) (λh=>?_);show aq 2 jf.nd (kL (aD fZ (aX .A) ae) (λ_=>ae) λ_=>(bV ae)) ?_
 let G:(if decide (0<u.1)=Á then .M else -1)=(if 0<u.1 then 1 else -1):=by
  by_cases z:0<u.1
  .rw[adI ↑z,adI z]
  .rw[adF ↑z,adF z]
 rw[G];let o:(if 0<u.1 then .M else -1)=1\/(if 0<u.1 then .M else -1)=-1:=by split<;>simp
 generalize (if 0<u.1 then .M else -1)=sg at *;show aq 3 jf.nd (aY (fX (M:=List (Int×Int)×Int) (a:=T) .B)) ?_;let bd:=λi=>Nz e F o i;rw[d] at bd
 let Z:pp T.1<=k:=by
  rw[<-d];show lB (lh .a e) (by let:=Ħ F F;lia)
 show rJ (λi U=>∃r,U=[#v[u],‹À T›,‹((T.1.take i).foldl Q.my (sg,T.2)).1›,‹((T.1.take i).foldl Q.my (sg,T.2)).2›,r]) (b9 4 jf.nd) (bz (aX (fX (M:=List (Int×Int)×Int) (a:=T) .B))) #[none,rfl] ?_ ?_
 .rintro i v U' L ⟨r,rfl⟩;let⟨b1,b2,b3⟩:=bd i;let⟨V,v2,v3,v4,v5⟩:=Nt e L;let N:(T.1.take (i+1)).foldl Q.my (sg,T.2)=Q.my ((T.1.take i).foldl Q.my (sg,T.2)) v:=kQ L;rw[N];generalize (T.1.take i).foldl Q.my (sg,T.2)=c at *;let sn:Sm 800 c.1:=Sm.of_le b1 p;let R:Sm 800 c.2:=Sm.of_le .b p;let J:Sm 800 v.1:=Sm.of_le .b p;let sp:Sm 800 (v.1^↥(v.2/2)):=Sm.of_le (by let:=Ş (n:=v.1) (m:=↥(v.2/2)) .b;lia) p;let j:v.2.fdiv 2=v.2/2:=aeU _ .a
  let σ:v.2<2^62:=by
   apply ğ;intro hn
   let g1:.O^900<=v.1^↥(v.2/2):=by
    let a1:.O^900<=2^↥(v.2/2):=B8 .a .b
    let X:∀n:Nat,.O^n<=v.1^n:=λn=>by
     induction n with
     |zero=>rw[ŀ,ŀ];decide
     |succ n O =>
      rw[Ī,Ī];show Ű O V .a (afT (Ş .b))
    let:=X ↥(v.2/2);lia
   let g2:(v.1^↥(v.2/2)).natAbs<2^800:=sp;let g3:(.O^800)<2^900:=by decide +kernel
   let g4:((2^800:Nat):Int)=.O^800:=by decide +kernel
   lia
  show mW (λU=>U=[#v[u],‹À T›,‹if v.2%2=1 then c.1*v.1 else c.1›,‹c.2›,‹v›]) (aD aG (bg (aY (aa 4)) ae .a) ae) (λh=>?_) (λh=>?_) ?_
  .let g:v.2%2=1:=by simpa [cM] using h
   rw[adI g];show aq 2 jf.nd (aF .C (aX (aa 4)) (sn.ok J)) (aK rfl)
  .let g:¬v.2%2=1:=by simpa [cM] using h
   rw[adF g];show aK rfl
  rintro U' rfl;show aq 3 jf.nd (aF .D (ax t I (aX (aa 4)) (bw (aY (aa 4)) ae CK) #[.b,by rw[j];lia,by rw[j];lia,by rw[j];show Sm.le sp .a,Sm.le J .a]) (by change ĭ c.2 (v.1^↥(v.2.fdiv 2));rw[j];show R.ok sp)) ?_;show aK #[‹v›,?_];delta Q.my V7;rw[j];rfl
 .rintro U' ⟨r,rfl⟩;rw[Ζ];show av (bj .C (ax S I .D (aY .A) #[.b,Sm.le D .a])) ?_;rfl
def fW(k:Int):Int:=(Fe (k,1)).1
def U5(k:Int):Prop:=k≠0/\Sm 400 k/\Tame k.natAbs
abbrev acG(P w K mg base):=aE P w K mg base 5 "freed" ["u"] (bU K TJ Á Fe)
def HC(Za:⇑acG)(k:Int)(hp:U5 k):⇑Body yI "free_of" tF f 5 [.val Â k] (RT Á (fW k)):=by
 intro a A outer s H E b;show av (aX (aB Za b (dY (b':=Á) (bj .A ae)) #[hp.1,(by change .M<=1;decide),hp.2.1,Sm.le (m:=2) (by change(1:Int).natAbs<2^2;decide) .a,by rw[show((k,.M).1.natAbs:Int)*(k,.M).2=(k.natAbs:Int) from Đ _];show hp.2.2])) rfl
abbrev acH(P w K mg base):=aE P w K mg base 1 "power_by" ["base","exponent","m"] (s_ K (λ_ e m=>0<=e/\1<=m/\m<2^62) Á NV)
def Cw(i:⇑acH)(x p:Int)(hp:2<=p)(b:p<2^62):⇑Body t7 "square_by" nJ f 1 [.val Â x,.val Â p] (RT Á (bO x p)):=by
 intro g A outer s H E h;let d:(p-1).fdiv 2=(p-1)/2:=aeU _ .a;show aq 2 qJ.nd (bg .A .B .b) ?_;rw[cM (.b:1<=p)];show aO (TW.t (mJ (aD aG .C ae) λ_=>(lL (aD aG .B ae)))) (λc=>?_) (λc=>?_)
 .let a:x%p=0\/p=2:=by simpa using c
  let e:bO x p=x%p:=by
   delta bO;by_cases z:x%p=0
   .rw[adI z,z]
   .obtain w|w:=a
    .show absurd w z
    .rw[adF z,adI w];subst w;lia
  rw[e];show av .C rfl
 .let a:¬(x%p=0\/p=2):=by simpa using c
  show av (kL (aD aG (b8 i h .C (bw (ig .B ae) ae CK) .B #[by rw[d];lia,.b,b]) ae) (λ_=>ae) λ_=>(bV ae)) ?_;change Bd.val _ _=Bd.val _ _;delta bO NV;rw[adF (λz=>a (.inl z)),adF (λz=>a (.inr z)),d];congr 1;by_cases z:(x%p)^↥((p-1)/2)%p=1
  .rw[adI z,adI ↑z]
  .rw[adF z,adF ↑z]
def Yb(k m:Int):Prop:=È k m=1/\2<=m/\m<2^62
def Hs(x m:Int)(z:È x m=1)(h:2<=m)(t:m<2^62):⇑Body yn "back_by" tf f kk [.val Â x,.val Â m] (RT Á (y6 x m)):=by
 intro B A outer s H E O;show aq 2 bX.nd (dY (b':=Á) .B) ?_;show aq 3 bX.nd (bg .A .B .b) ?_;rw[cM .b];show aq 4 bX.nd ae ?_;show aq 5 bX.nd ae ?_;show cD (ι:=Int×Int×Int×Int) (λi U=>(∃g j o,U=[#v[x],#v[m],‹i.1›,‹i.2.1›,‹i.2.2.1›,‹i.2.2.2›,g,j,o])/\∃u v s,Ht x m i.1 i.2.1 i.2.2.1 i.2.2.2 u v s) (λi=>↥i.2.1) (m,x%m,0,1) #[#[none,none,none,rfl],0,1,1,Q.Ht.start h z] ?_;rintro⟨r,b,y,l⟩ U' ⟨⟨g,j,o,rfl⟩,u,v,s,I⟩;dsimp only at I ⊢;let D:=I.r0;let k:=I.b0;let J:=I.lt;let L:=I.rm;let C:=I.bd;let p:∀{a c:Int},a.natAbs<=m->c.natAbs<=m->ĭ a c:=λ{a c} h1 h2=>(by unfold Sm;lia:Sm 70 a).ok (by unfold Sm;lia:Sm 70 c);show#[_,aD cH .D ae,λe=>?_,λe=>?_]
 .let d:b≠0:=by simpa using e
  let st:=I.step d;let q:r.fdiv b=r/b:=aeU _ k;let N:0<=r/b:=ag0 .b k
  let F:r/b<=m:=by
   let:=Int.ediv_le_self b (.b:0<=r);lia
  show aq 6 bX.nd (bw .C .D (Sm.div (n:=70) (by unfold Sm;lia) d)) ?_;rw[q];show aq 7 bX.nd (ig .C (aF (aa 6) .D (p .b .b))) ?_;show aq 8 bX.nd (ig (aa 4) (aF (aa 6) (aa 5) (p .b .b))) ?_;show aq 2 bX.nd .D ?_;show aq 3 bX.nd (aa 7) ?_;show aq 4 bX.nd (aa 5) ?_;show aq 5 bX.nd (aa 8) ?_;let α:=st.lt;let G:=st.b0;show aK #[(b,r-r/b*b,l,y-r/b*l),#[#[_,_,_,rfl],v,u+r/b*v,-s,st],.e]
 .let d:b=0:=by simpa using e
  subst d;rw[I.done h,<-cM (.b:1<=m)];show av (bg (aa 4) .B .b) rfl
abbrev acI(P w K mg base):=aE P w K mg base 2 "square_by" ["k","p"] (bL K (λ_ p=>2<=p/\p<2^62) Á bO)
def rB(m:⇑acI)(p:Int)(l:NR p)(hp:2<=p/\p<2^62):⇑Body jt "least_no_square" fN f 2 [.val Â p] (RT Á (p6 p)):=by
 intro g A outer s H E h;let⟨j,n,e⟩:=vH l;show aq 1 eV.nd ae ?_;show cD (ι:=Int) (λk U=>U=[#v[p],‹k›]/\2<=k/\k<=p6 p) (λk=>↥(p6 p-k)) 2 #[rfl,.a,j] ?_;rintro k U' ⟨rfl,k2,i⟩;show#[_,aD cH (ax m h .B .A hp) (bV ae),λb=>?_,λb=>?_]
 .let a:bO k p≠-1:=by simpa using b
  let c:k≠p6 p:=by rintro rfl;show a n
  show aq 1 eV.nd (bH .B ae) (aK #[k+1,#[rfl,.b,.b],.b])
 .let a:bO k p=-1:=by simpa using b
  let d:k=p6 p:=by
   obtain z|z:=afy i
   .show absurd a (e k k2 z)
   .show z
  rw[<-d];show av .B rfl
def XN(e p:Int):Prop:=(∃n:Nat,Cg p (e^2^n) 1)/\(0<=e/\e<p)/\2<=p/\p<2^62
def CC(e p:Int)(hp:XN e p):⇑Body ug "squarings" nR f kk [.val Â e,.val Â p] (RT Á (k_ e p)):=by
 intro o A outer s H E u;let⟨⟨n,q⟩,he,p2,t⟩:=hp;let⟨⟨l,h,j⟩,_⟩:=KG q;show aq 2 iA.nd ae ?_;show cD (ι:=Bool×Nat×Int) (λi U=>U=[À (.val i.1 i.2.2),#v[p],À (.val Á (i.2.1:Int))]/\Cg p i.2.2 (e^2^i.2.1)/\(0<=i.2.2/\i.2.2<p)/\(i.2.1:Int)<=k_ e p) (λi=>↥(k_ e p-(i.2.1:Int))) (Â,0,e) #[rfl,by change Cg p e (e^1);rw[Ī,ŀ,Ś];show jz _ _,he,l] ?_;rintro⟨r,i,k⟩ U' ⟨rfl,b,c,hi⟩;dsimp only at *;show#[_,aD cH .A ae,λg=>?_,λg=>?_]
 .let a:k≠1:=by simpa using g
  let d:¬Cg p (e^2^i) 1:=λz=>a (Pq c #[.a,.b] (cP b z))
  let m:(i:Int)<k_ e p:=by
   obtain z|z:=afy hi
   .show z
   .rw[<-z,Ó] at h;show absurd h d
  show aq 0 iA.nd (bg (aF .A .A (mulL .b .b)) .B .b) ?_;show aq 2 iA.nd (bH .C ae) ?_;rw[cM .b];show aK #[(Á,i+1,k*k%p),#[rfl,?_,#[ŭ _ .b,Ů _ .b],.e],.e];dsimp only;show cP (fS _ _) ?_;rw[(by rw[af9];lia:(2:Nat)^(i+1)=2^i+2^i),Ź];show jR b b
 .let a:k=1:=by simpa using g
  let heq:(i:Int)=k_ e p:=by
   obtain z|z:=afy hi
   .rw[a] at b;show absurd (Ac b) (j i z)
   .show z
  rw[<-heq];show av .C rfl
def X8(k p:Int):Prop:=aN p=Á/\p≠2/\p<2^60/\(0<=k/\k<p)/\bO k p=1/\NR p
abbrev acJ(P w K mg base):=aE P w K mg base 3 "least_no_square" ["p"] (bU K (λp=>NR p/\2<=p/\p<2^62) Á p6)
def tW(O:⇑acC)(l:⇑acH)(V:⇑acJ)(q:⇑aE 1 "squarings" ["k","p"] (bL K XN Á k_))
  (k p:Int) (hp:X8 k p):⇑Body kq "root_of_square" f_ f 3 [.val Â k,.val Â p] (RT Á (MZ k p)):=by
 intro R A outer s H E g;let⟨a,h2,N,J,C,u⟩:=hp;let X:=gN a h2;let⟨Z,o1,o2,_⟩:=vZ a h2;let two:Sm 9000 .O:=Sm.le (m:=2) (by unfold Sm;decide) .a;show aq 2 aM.nd (ax O g (ig .B ae) ae #[.b,.a,two]) ?_;show aq 3 aM.nd (aX .C) ?_;show aq 4 aM.nd (aY .C) ?_;let v:((a7 (p-1) 2).2+1).fdiv 2=((a7 (p-1) 2).2+1)/2:=aeU _ .a;show aq 5 aM.nd (b8 l g .A (bw (bH (aa 4) ae) ae CK) .B #[by rw[v];lia,.b,.b]) ?_;show aq 6 aM.nd (b8 l g .A (aa 4) .B #[.b,.b,.b]) ?_;show aq 7 aM.nd (kL (aD cH (aa 6) ae) (λ_=>(b8 l g (aB V g .B #[u,.b,.b]) (aa 4) .B #[.b,.b,.b])) λ_=>ae) ?_;let S:=Bm a h2 J C u
 let em:(if (!decide (NV k (a7 (p-1) 2).2 p=1))=Á then NV (p6 p) (a7 (p-1) 2).2 p else 1)=(if k^↥(a7 (p-1) 2).2%p≠1 then p6 p^↥(a7 (p-1) 2).2%p else 1):=by
  delta NV;by_cases z:k^↥(a7 (p-1) 2).2%p=1
  .rw[adF (by simp[z]),adF (by simp[z])]
  .rw[adI (by simp[z]),adI z]
 rw[em,v]
 show cD (ι:=Nat×Int×Int×Int×Int) (λi U=>∃y d,U=[#v[k],#v[p],‹a7 (p-1) 2›,‹i.2.1›,‹(a7 (p-1) 2).2›,‹i.2.2.1›,‹i.2.2.2.1›,‹i.2.2.2.2›,y,d]/\T3 p k i.2.1 i.2.2.1 i.2.2.2.1 i.2.2.2.2/\i.2.1<=(i.1:Int)/\i.2.1<2^61/\sA p i.1 i.2.1 i.2.2.1 i.2.2.2.1 i.2.2.2.2=MZ k p) (λi=>i.1)
  (↥(a7 (p-1) 2).1,(a7 (p-1) 2).1,k^↥(((a7 (p-1) 2).2+1)/2)%p,k^↥(a7 (p-1) 2).2%p,if k^↥(a7 (p-1) 2).2%p≠1 then p6 p^↥(a7 (p-1) 2).2%p else 1) #[none,none,rfl,S,.e,?_,rfl] ?_
 .dsimp only;let⟨b1,b2,b3⟩:=fM (.a:.O<=2) (.b:p-1≠0);apply ğ;intro u
  let g1:(↥(a7 (p-1) 2).1:Int)<.O^↥(a7 (p-1) 2).1:=by
   let:=Nat.lt_two_pow_self (n:=↥(a7 (p-1) 2).1);let c1:((2^↥(a7 (p-1) 2).1:Nat):Int)=.O^↥(a7 (p-1) 2).1:=by rw[ahB];rfl
   lia
  let g2:1*.O^↥(a7 (p-1) 2).1<=(a7 (p-1) 2).2*2^↥(a7 (p-1) 2).1:=aeu .b .b;lia
 rintro⟨n,t,r,e,m⟩ U' ⟨y,d,rfl,I,Γ,α,b⟩;dsimp only at *;let F:=I.t1;cases n with
 |zero=>lia
 |succ n =>
 show#[_,aD cH (aa 6) ae,λo=>?_,λo=>?_]
 .let he:e≠1:=by simpa using o
  let⟨W,D,L,T⟩:=I.step a he;let σ:=I.e0;let ir:=I.r0;show aq 8 aM.nd (ax q g (aa 6) .B #[#[_,I.ee],I.e0,.b,.b]) ?_;show eU (λj U=>∃d,U=[#v[k],#v[p],‹a7 (p-1) 2›,‹t›,‹(a7 (p-1) 2).2›,‹r›,‹e›,‹mq p m j›,‹k_ e p›,d]) rfl B.range (b9 9 aM.nd) (ig (ig .D (aa 8)) ae) .b .b #[_,rfl] ?_ ?_
  .rintro j U' hj ⟨d,rfl⟩;let G:=MH (.b:0<p) I.m0 j;show aq 7 aM.nd (bg (aF (aa 7) (aa 7) (mulL .b .b)) .B .b) ?_;rw[cM .b];show aK #[_,rfl]
  .rintro U' ⟨d,rfl⟩;let G:=MH (.b:0<p) I.m0 ↥(t-k_ e p-1);let c:sA p (n+1) t r e m=sA p n (k_ e p) (r*mq p m ↥(t-k_ e p-1)%p) (e*(mq p m ↥(t-k_ e p-1)*mq p m ↥(t-k_ e p-1)%p)%p) (mq p m ↥(t-k_ e p-1)*mq p m ↥(t-k_ e p-1)%p):=by rw[sA,adF he]
   rw[c] at b;generalize mq p m ↥(t-k_ e p-1)=x at *;show aq 5 aM.nd (bg (aF (aa 5) (aa 7) (mulL .b .b)) .B .b) ?_;show aq 7 aM.nd (bg (aF (aa 7) (aa 7) (mulL .b .b)) .B .b) ?_;show aq 6 aM.nd (bg (aF (aa 6) (aa 7) (mulL .b .b)) .B .b) ?_;show aq 3 aM.nd (aa 8) ?_;rw[cM .b,cM .b,cM .b];show aK #[(n,k_ e p,r*x%p,e*(x*x%p)%p,x*x%p),#[_,_,rfl,T,.e,.e,b],.e]
 .let he:e=1:=by simpa using o
  let h:sA p (n+1) t r e m=r:=by rw[sA,adI he]
  rw[<-b,h];show av (aa 5) rfl
def XX(k p:Int):Prop:=aN p=Á/\p<2^60
def uT(o:⇑acI)(l:⇑aE 4 "root_of_square" ["k","p"] (bL K X8 Á MZ))(k p:Int)(hp:XX k p):⇑Body l9 "root_by_prime" g6 f 4 [.val Â k,.val Â p] (RT Á (Ai k p)):=by
 intro m A outer s H E j;let⟨a,g⟩:=hp;let i:=au a;show aq 2 kJ.nd (ax o j .A .B #[i,.b]) ?_;show aO (aD aG .C (bV ae)) (λb=>?_) (λb=>?_)
 .let e:Ai k p=none:=adI ↑b;rw[e];show av (l_ (M:=Int)) rfl
 let h1:¬bO k p=-1:=by simpa using b
 show aO (TW.t (mJ (aD aG .C ae) λ_=>(lL (aD aG .B ae)))) (λb=>?_) (λb=>?_)
 .let e:Ai k p=À (bO k p):=by delta Ai;rw[adF h1,adI ↑b]
  rw[e];show av (lJ .C) rfl
 let d:¬(bO k p=0\/p=2):=by simpa using b
 let e:Ai k p=À (MZ (k%p) p):=by delta Ai;rw[adF h1,adF d]
 let h2:p≠2:=λz=>d (.inr z);let n:=wH a h2;let h:¬p∣k:=λz=>d (.inl (eN z));let c:bO k p=1:=by obtain z|z:=cG h<;>lia
 rw[e,<-cM (.b:1<=p)];show av (lJ (ax l j (bg .A .B .b) .B #[a,h2,g,?_,?_,n])) rfl
 .rw[cM .b];show#[ŭ _ .b,Ů _ .b]
 .rwa[cM .b,Al]
def WZ(a m o p:Int):Prop:=(0<=a/\a<m)/\(0<=o/\o<p)/\È m p=1/\m<2^60/\2<=p/\p<2^60
def zP(b:⇑aE 1 "back_by" ["k","m"] (bL K Yb Á y6))(a m o p:Int)(hp:WZ a m o p):⇑Body qT "with_rests" lK f 1 [.val Â a,.val Â m,.val Â o,.val Â p] (RT Á (CH a m o p)):=by
 intro h A outer s H E i;let⟨⟨n,r⟩,⟨o0,j⟩,d,t,h2,u⟩:=hp;let⟨q,b1,_⟩:=P2 h2 d;let k:=ŭ ((o-a)*y6 m p) (.b:p≠0);let l:=Ů ((o-a)*y6 m p) (.b:0<p);let e:((o-a)*y6 m p).fmod p=(o-a)*y6 m p%p:=cM .b;let g:∀{a c:Int},a.natAbs<2^64->c.natAbs<2^64->ĭ a c:=λ{a c} h1 h2=>(show Sm 64 a from h1).ok (show Sm 64 c from h2);show av (bH .A (aF .B (bg (aF (ig .C .A) (ax b i .B .D #[d,h2,.b]) (g .b .b)) .D .b) (g .b (by rw[e];lia)))) ?_;change Bd.val _ _=Bd.val _ _;delta CH;rw[e]
abbrev acK(P w K mg base):=aE P w K mg base 4 "parts" ["k"] (bU K (λk=>1<=k/\k<2^60) Á oh)
def GX(J:⇑acK)(ZL:⇑aE 5 "root_by_prime" ["k","p"] (bL K XX Á Ai))(R:⇑aE 2 "with_rests" ["one","m","other","p"] (Gn K WZ Á CH))(k m:Int)(V:1<=m)(G:m<2^60):⇑Body yr "root_by" tS f 5 [.val Â k,.val Â m] (RT Á (Jm k m)):=by
 intro cdv A outer s H E T;let⟨⟨b,h⟩,S⟩:=pU V;let⟨_,C⟩:=Kc .a h;rw[S] at C;show aq 2 e8.nd ae ?_;show aq 3 e8.nd ae ?_;let Z:Jm k m=Nb k (oh m) 0 1:=rfl;let o:=kj h;let t:=(qG h).1;generalize Γ:oh m=us at *;rw[Z];show jP (xs:=us) (λi U=>∃a d r r',U=[#v[k],#v[m],‹a›,‹d›,r,r']/\MW k a d ((us.take i).map (·.1))/\Nb k us 0 1=Nb k (us.drop i) a d/\d*dp (us.drop i)<=m/\1<=dp (us.drop i)) (b9 4 e8.nd) (jk (aB J T .B #[V,G]) Γ) #[0,1,none,none,rfl,Q.MW.zero k,rfl,by change 1*dp us<=m;lia,by change 1<=dp us;lia] ?_ ?_
 .rintro i u U' p ⟨a,d,r,r',rfl,I,c,N,l⟩;let⟨up,u1⟩:=o u (Į p);let F:=au up;rw[BM p] at c N l;let α:d*(u.1*dp (us.drop (i+1)))<=m:=N;let n:1<=u.1*dp (us.drop (i+1)):=l
  let g:1<=dp (us.drop (i+1)):=by
   apply ğ;intro W;let:u.1*dp (us.drop (i+1))<=0:=ϵ .b .b;lia
  let d1:=I.d1
  let ub:u.1<=m/\d<=m:=by
   let t1:u.1*1<=u.1*dp (us.drop (i+1)):=Ł g .b;let t2:d*1<=d*(u.1*dp (us.drop (i+1))):=Ł n .b;let t3:1*(u.1*dp (us.drop (i+1)))<=d*(u.1*dp (us.drop (i+1))):=aeu d1 .b;lia
  show aq 5 e8.nd (ax ZL T .A (aX (aa 4)) #[up,by change u.1<2^60;lia]) ?_;rw[Nb] at c;cases D:Ai k u.1 with
  |none =>
   rw[D] at c;show aO (qx (M:=Int) (x:=none) (aa 5) rq) (λ_=>?_) (λL=>absurd L .a);rw[c];show av (l_ (M:=Int)) rfl
  |some q =>
   rw[D] at c
   let W:u.1∉(us.take i).map (·.1):=λz=>by
    let⟨v,X,e⟩:=adX.mp z;let⟨j,B⟩:=List.getElem?_of_mem X
    let y:j<i:=by
     let:=(adU.mp B).1;rw[ϟ] at this;lia
    rw[ag4 y] at B;let O:=ah3.mp t j i (by rw[ċ];show(adU.mp B).1) (by rw[ċ];show(adU.mp p).1) y;rw[List.getElem_map,List.getElem_map,(adU.mp B).2,(adU.mp p).2] at O;lia
   let⟨I',σ,q0,q1⟩:=I.step up W D;show aO (qx (M:=Int) (x:=À q) (aa 5) rq) (λL=>absurd L ō) (λ_=>?_);show aq 2 e8.nd (qA R T .C .D (fX (M:=Int) (a:=q) (aa 5)) (aX (aa 4)) #[#[I.a0,I.a1],#[q0,q1],σ,.b,F,by change u.1<2^60;lia]) ?_;show aq 3 e8.nd (aF .D (aX (aa 4)) ((by unfold Sm;lia:Sm 64 d).ok (by unfold Sm;lia:Sm 64 u.1))) ?_;show aK #[CH a d q u.1,d*u.1,_,_,rfl,?_,c,by rwa[ĵ],g];rw[agM,p];simpa using I'
 .rintro U' ⟨a,d,r,r',rfl,I,c,N,l⟩;rw[List.drop_length] at c;rw[c];show av (lJ .C) rfl
def DV(h:⇑acC)(g:⇑acI)(x p:Int)(d:x≠0)(hp:2<=p)(a:p<2^62):⇑Body pV "class_at" kY f 2 [.val Â x,.val Â p] (RT Á (cls x p)):=by
 intro e A outer s H E b;show aO (aD aG .B ae) (λc=>?_) (λc=>?_)
 .show absurd (by simpa using c:p=0) .b
 show aq 2 fe.nd (ax h b .A .B #[d,hp,Sm.le (m:=62) (by unfold Sm;lia) .a]) ?_;show aq 3 fe.nd (kL (aD aG .B ae) (λ_=>(bg (aY .C) ae .a)) λ_=>(ax g b (aY .C) .B #[hp,a])) ?_;show av (bj (bg (aX .C) ae .a) .D) ?_;change Bd.val _ _=Bd.val _ _;delta cls;rw[cM .a,cM .a];congr 2;by_cases z:p=2
 .rw[adI z,adI ↑z]
 .rw[adF z,adF ↑z]
def wo(k p:Int):Int⊕(Int×Int):=if p=0 then .inl (if 0<k then 1 else -1) else .inr (cls k p)
def Cs(h:⇑acC)(j:⇑acI)(x p:Int)(g:x≠0)(hp:p=0\/(2<=p/\p<2^62)):⇑Body pV "class_at" kY f 2 [.val Â x,.val Â p] (RT Á (wo x p)):=by
 intro i A outer s H E d;show aO (aD aG .B ae) (λc=>?_) (λc=>?_)
 .let e:wo x p=.inl (if decide (0<x)=Á then 1 else -1):=by
   delta wo;rw[adI ↑c];congr 1;by_cases z:0<x
   .rw[adI z,adI ↑z]
   .rw[adF z,adF ↑z]
  rw[e];show av (Qt (β:=Int×Int) (kL (aD fZ .A ae) (λ_=>ae) λ_=>(bV ae))) rfl
 let b:¬p=0:=by simpa using c
 let a:2<=p/\p<2^62:=by omega
 show aq 2 fe.nd (ax h d .A .B #[g,a.1,Sm.le (m:=62) (by unfold Sm;omega) .a]) ?_;show aq 3 fe.nd (kL (aD aG .B ae) (λ_=>(bg (aY .C) ae .a)) λ_=>(ax j d (aY .C) .B a)) ?_;show av (JV (M:=Int) (bj (bg (aX .C) ae .a) .D)) ?_;change Bd.val _ _=Bd.val _ _;delta wo cls;rw[cM .a,cM .a,adF b];congr 3;by_cases z:p=2
 .rw[adI z,adI ↑z]
 .rw[adF z,adF ↑z]
def Em(x y:Int×Int):⇑Body wY "two_says" pQ f kk [.val Â x,.val Â y] (RT Á (iK x y)):=by
 intro c A outer s H E d;show aq 2 gU.nd ae ?_;show mW (λU=>U=[#v[x],#v[y],‹0+b1 (decide (x.2.fmod 4=3)&&decide (y.2.fmod 4=3))›]) (TW.t (jG (aD aG (bg (aY .A) ae .a) ae) λ_=>(kW (aD aG (bg (aY .B) ae .a) ae)))) (λb=>?_) (λb=>?_) ?_
 .show aq 2 gU.nd (bH .C ae) (aK (by rw[b];rfl))
 .show aK (by rw[b];rfl)
 rintro U' rfl;show mW (λU=>U=[#v[x],#v[y],À (.val Á (0+b1 (decide (x.2.fmod 4=3)&&decide (y.2.fmod 4=3))+b1 (decide (x.1=1)&&(decide ((3:Int)=y.2) || decide ((5:Int)=y.2)))))]) (TW.t (jG (aD aG (aX .A) ae) λ_=>(kW (aD JC (aY .B) (bj ae ae))))) (λb=>?_) (λb=>?_) ?_
 .show aq 2 gU.nd (bH .C ae) (aK (by rw[b];rfl))
 .show aK (by rw[b];change [_,_,_]=[_,_,_];simp[b1])
 rintro U' rfl;show mW (λU=>U=[#v[x],#v[y],À (.val Á (0+b1 (decide (x.2.fmod 4=3)&&decide (y.2.fmod 4=3))+b1 (decide (x.1=1)&&(decide ((3:Int)=y.2) || decide ((5:Int)=y.2)))+b1 (decide (y.1=1)&&(decide ((3:Int)=x.2) || decide ((5:Int)=x.2)))))]) (TW.t (jG (aD aG (aX .B) ae) λ_=>(kW (aD JC (aY .A) (bj ae ae))))) (λb=>?_) (λb=>?_) ?_
 .show aq 2 gU.nd (bH .C ae) (aK (by rw[b];rfl))
 .show aK (by rw[b];change [_,_,_]=[_,_,_];simp[b1])
 rintro U' rfl;show av (jw aG (bg .C ae .a) ae) ?_;change Bd.val _ _=Bd.val _ _;delta iK;congr 1;rw[cM .a,cM .a,cM .a,aiG];simp only[eq_comm (a:=(3:Int)),eq_comm (a:=(5:Int))]
def yL(x p:Int):-2<=bO x p/\bO x p<=2:=by
 delta bO
 repeat' split
 all_goals decide
def En(g:⇑acI)(x y:Int×Int)(p:Int)(hp:(-2<=x.2/\x.2<=2)/\(-2<=y.2/\y.2<=2)/\2<=p/\p<2^62):⇑Body xi "odd_says" o_ f 2 [.val Â x,.val Â y,.val Â p] (RT Á (GY x y p)):=by
 intro d A outer s H E e;let⟨i,j,b,c⟩:=hp;let h:=yL (-1) p;show aq 3 gP.nd ae ?_;show mW (λU=>U=[#v[x],#v[y],#v[p],‹1*(if x.1=1 then y.2 else 1)›]) (aD aG (aX .A) ae) (λa=>?_) (λa=>?_) ?_
 .show aq 3 gP.nd (aF .D (aY .B) (mulL .a .a)) (aK (by rw[adI ↑a];rfl))
 .show aK (by rw[adF ↑a];rfl)
 rintro U' rfl;show mW (λU=>U=[#v[x],#v[y],#v[p],‹1*(if x.1=1 then y.2 else 1)*(if y.1=1 then x.2 else 1)›]) (aD aG (aX .B) ae) (λa=>?_) (λa=>?_) ?_
 .show aq 3 gP.nd (aF .D (aY .A) (mulR .f .f)) (aK (by rw[adI (by simpa using a:y.1=1)];rfl))
 .show aK (by rw[adF (by simpa using a:¬y.1=1),Đ])
 rintro U' rfl;show mW (λU=>U=[#v[x],#v[y],#v[p],‹1*(if x.1=1 then y.2 else 1)*(if y.1=1 then x.2 else 1)*(if x.1=1/\y.1=1 then bO (-1) p else 1)›]) (TW.t (jG (aD aG (aX .A) ae) λ_=>(kW (aD aG (aX .B) ae)))) (λa=>?_) (λa=>?_) ?_
 .show aq 3 gP.nd (aF .D (ax g e (bV ae) .C #[b,c]) (mulR .f .f)) (aK (by rw[adI (by simpa using a:x.1=1/\y.1=1)];rfl))
 .show aK (by rw[adF (by simpa using a:¬(x.1=1/\y.1=1)),Đ])
 rintro U' rfl;show av (jw aG .D ae) ?_;change Bd.val _ _=Bd.val _ _;delta GY;rw[Ś]
def yA(x:Int)(h2:p≠2):-2<=(cls x p).2/\(cls x p).2<=2:=by
 delta cls;dsimp only;rw[adF h2];show yL _ _
abbrev acM(P w K mg base):=aE P w K mg base 3 "odd_says" ["one","other","p"] (s_ K (λx y p=>(-2<=x.2/\x.2<=2)/\(-2<=y.2/\y.2<=2)/\2<=p/\p<2^62) Á GY)
abbrev acL(P w K mg base):=aE P w K mg base 3 "class_at" ["k","p"] (bL K (λk p=>k≠0/\2<=p/\p<2^62) Á cls)
def QW(k:⇑acL)(j:⇑aE 1 "two_says" ["one","other"] (bL K (λ_ _=>True) Á iK))
  (i:⇑acM) (a b p:Int) (ha:a≠0) (l:b≠0) (hp:p=0\/(2<=p/\p<2^62)):⇑Body Lh "says" Ez f 3 [.val Â a,.val Â b,.val Â p] (RT Á (ak a b p)):=by
 intro m A outer s H E d;show aO (aD aG .C ae) (λg=>?_) (λg=>?_)
 .let h:p=0:=by simpa using g
  let e:ak a b p=(decide (0<a) || decide (0<b)):=adI h;rw[e];show av (Rv (jw fZ .A ae) λ_=>(t9 (jw fZ .B ae))) rfl
 let h:¬p=0:=by simpa using g
 let c:2<=p/\p<2^62:=.b
 show aq 3 AU.nd (ax k d .A .C #[ha,c]) ?_;show aq 4 AU.nd (ax k d .B .C #[l,c]) ?_;show av (kL (aD aG .C ae) (λ_=>(ax j d .D (aa 4) Ê)) λh2=>(b8 i d .D (aa 4) .C #[yA a ↑h2,yA b ↑h2,c])) ?_;change Bd.val _ _=Bd.val _ _;congr 1;delta ak;rw[adF h];by_cases z:p=2
 .rw[adI z,adI ↑z]
 .rw[adF z,adF ↑z]
def zi(ns:.L):.L:=2::ns.flatMap λk=>(oh (k.natAbs:Int)).map (·.1)
def kR(ns:.L):.L:=sset (zi ns)
structure DO(ns:.L):Prop where
 len: ~~~ns<=100
 A9:∀k∈ns,1<=(k.natAbs:Int)/\(k.natAbs:Int)<2^60
 few: ~~~(zi ns)<64
def Gr{ns:.L}{k:Int}(h:ns[i]?=À k):zi (ns.take (i+1))=zi (ns.take i)++(oh (k.natAbs:Int)).map (·.1):=by
 delta zi;rw[agM,h];simp[ψ]
def Q9{ns:.L}(i:Nat): ~~~(zi (ns.take i))<= ~~~(zi ns):=by
 delta zi
 let:ns.flatMap (λk=>(oh (k.natAbs:Int)).map (·.1))=(ns.take i).flatMap (λk=>(oh (k.natAbs:Int)).map (·.1))++(ns.drop i).flatMap (λk=>(oh (k.natAbs:Int)).map (·.1)):=by
  rw[<-ψ,ahr]
 rw[this];simp
def LD(x:Int):(if x<0 then -x else x)=(x.natAbs:Int):=by split<;>lia
def Cz(g:⇑acK)(ns:.L)(h:DO ns):⇑Body t6 "primes_of" m_ f 4 [.val Â ns] (RT Á (kR ns)):=by
 intro n A outer s H E o;let e:=h.few;show zM 1 iH.nd (Ek (az ae a_) .c) ?_;show Fn 1 Á rfl ?_;show jP (λi U=>∃c a,U=[#v[ns],À (.own Á (zi (ns.take i))),c,a]) (b9 2 iH.nd) .A #[none,none,rfl] ?_ ?_
 .rintro i k U' d ⟨c,a,rfl⟩;let⟨k1,k2⟩:=h.A9 k (Į d);rw[Gr d];let l:=Q9 (ns:=ns) (i+1);rw[Gr d,Ř,ċ] at l;generalize hp:oh (k.natAbs:Int)=pr at *;show rJ (as:=pr) (b:=Á) (λj U=>∃a,U=[#v[ns],À (.own Á (zi (ns.take i)++(pr.take j).map (·.1))),#v[k],a]) (b9 3 iH.nd) (bz (jk (aB g o (iY rfl B.abs .C) (by rw[LD];show#[k1,k2])) (by rwa[LD]))) #[a,.c] ?_ ?_
  .rintro j u U' m ⟨a,rfl⟩;show rF 1 rfl (dY (b':=Á) (aX .D)) ?_ (aK #[‹u›,?_])
   .let: ~~~(pr.take j)<= ~~~pr:=by rw[ϟ];lia
    rw[Ř,ċ];lia
   .rw[agM,m];simp
  .rintro U' ⟨a,rfl⟩;rw[Ζ];show aK #[_,_,rfl]
 .rintro U' ⟨c,a,rfl⟩;rw[Ζ];show gR 1 rfl ?_;show av (yZ rfl rfl B.sorted rfl B.set .B e) rfl
def sC(k:Int):Bool:=decide (k≠0/\k.natAbs<1073741824)
abbrev acN(P w K mg base):=aE P w K mg base 1 "is_whole" ["k"] (bU K (fun(_:Int)=>True) Á (λ_=>Á))
def uL(YR:sO mg "GREAT_FROM" 1073741824)(a:⇑acN)(x:Int):⇑Body lX "is_row_number" g_ f 1 [.val Â x] (RT Á (sC x)):=by
 intro b A outer s H E c;show av (uo (aB a c .A Ê) λ_=>(uo (jw cH .A ae) λ_=>(t9 (jw kO (iY rfl B.abs .A) (mZ rfl YR))))) ?_;change Bd.val _ _=Bd.val _ _;congr 1;unfold sC;rw[afC,afe];simp;intro _;split<;>lia
noncomputable def a8(xs:.L):Bool:=decide (1<= ~~~xs/\~~~xs<=8)&&xs.all sC
def cJ(h:a8 xs=Á):1<= ~~~xs/\~~~xs<=8:=by
 delta a8 at h;let:=(aeO.mp h).1;simpa using this
def bC(h:a8 xs=Á)(a:x∈xs):x≠0/\x.natAbs<1073741824:=by
 delta a8 at h;let:=afq.mp (aeO.mp h).2 x a;unfold sC at this;simpa using this
abbrev acO(P w K mg base):=aE P w K mg base 2 "is_row_number" ["k"] (bU K (fun(_:Int)=>True) Á sC)
def Mm(c:sO mg "LONGEST" 8)(d:⇑acO)(xs:.L)(h: ~~~xs<=1000):⇑Body wc "is_row" rh f 2 [.val Â xs] (RT Á (a8 xs)):=by
 intro g A outer s H E j;show aO (TW.t (mJ (kD (fQ (RC rfl B.isinstance rfl B.list .A))) λ_=>(lL (kD (ET EF EF ae (bh rfl B.len .A) (mZ rfl c)))))) (λb=>?_) (λb=>?_)
 .let a:¬(1<= ~~~xs/\~~~xs<=8):=by
   simp at b;lia
  let e:a8 xs=Â:=by delta a8;rw[aec a];rfl
  rw[e];show av xj rfl
 .let a:1<= ~~~xs/\~~~xs<=8:=by
   simp at b;lia
  show av (KO rfl rfl B.all (de (f:=sC) ["k"] [] (bG (af rh) wc rfl rfl .d) (bz .A) (bf 0) (λC s H fp=>cE 0 ["k"]) aW (λi u k C s H fp=>aB d j .A Ê) h)) ?_;change Bd.val _ _=Bd.val _ _;congr 1;delta a8;rw[adZ a,agh,aiL];rfl
abbrev acP(P w K mg base):=aE P w K mg base 3 "is_row" ["row"] (bU K (fun(xs:.L)=>~~~xs<=1000) Á a8)
def uI(a:⇑acP)(xs:.L)(c:a8 xs=Á):⇑Body lV "refuse_no_row" hV f 3 [.val Â xs] V0:=by
 intro d A outer s H E e;let:=cJ c;show aO (kD (fQ (aB a e .A .b))) (λb=>?_) (λb=>?_)
 .rw[c] at b;cases b
 .show aK Ê
def TV(r:.L):Int:=(~~~(r.filter λk=>decide (0<k)):Int)
abbrev acQ(P w K mg base):=aE P w K mg base 4 "refuse_no_row" ["row"] (bU K (fun(xs:.L)=>a8 xs=Á) Á mO)
def CN(YL:⇑acQ)(r:.L)(hp:a8 r=Á):⇑Body pO "signs_of" lP f 4 [.val Â r] (RT Á (TV r)):=by
 intro a A outer s H E b;let c:=cJ hp;show jK (aB YL b .A hp) ?_;show av (bh rfl B.len (lQ (f:=λq:Int=>q) (p:=λq=>decide (0<q)) (b':=Á) ["k"] [] (bG (af lP) pO rfl rfl .d) (bz .A) (bf 0) (λC s H fp=>cE 0 ["k"]) aW (λi q hi C s H fp=>pT (aD fZ .A ae)) (λi q hi hp C s H fp=>dY .A) .b)) ?_;change Bd.val _ _=Bd.val _ _;congr 1;rw[ċ];rfl
def yO(row:.L)(p:Int):Bool:=!(qv p row)
abbrev acR(P w K mg base):=aE P w K mg base 4 "says" ["a","b","p"] (s_ K (λa b p=>a≠0/\b≠0/\(p=0\/(2<=p/\p<2^62))) Á ak)
def Oe(m:⇑acR)(row:.L)(p:Int)(t: ~~~row<=1000)(k:∀n∈row,n≠0)(hp:p=0\/(2<=p/\p<2^62)):
  Body P w K mg base zG "is_no" vj f 4 [.val Â row,.val Â p] (RT Á (yO row p)):=by
 intro o A outer s H E r;show aq 2 rg.nd ae ?_;show rJ (as:=Ho row) (λi U=>∃(n:Int) (d a:Option Bd),U=[#v[row],#v[p],‹n›,d,a]/\n+(Ip p (row.drop i):Int)=Ip p row) (FQ 3 4 rg.nd) (EW rfl B.enumerate .A) #[0,none,none,rfl,by rw[aiv];lia] ?_ ?_
 .rintro i u U' l ⟨n,d,a,rfl,c⟩;let⟨h,hi⟩:=AO l;let ha:=k u.2 (Į h);rw[BM h,Ip] at c;show aq 2 rg.nd (bH .C (bh rfl B.len (lQ (f:=λq:Int=>q) (p:=λq=>!(ak u.2 q p)) (b':=Á) ["b"] [1,4] (bG (af vj) zG rfl rfl .d) (bz (Rj .A (bH .D ae) (by rw[hi];lia))) (bf 0) (λC s H fp=>cE 0 ["b","p","a"]) aW (λj q g C s H fp=>pT (kD (fQ (b8 m r .C .A .B #[ha,k q (afr (Į g)),hp])))) (λj q g _ C s H fp=>dY (b':=Á) .A) (by rw[Ϟ];lia)))) ?_;show aK #[_,_,_,rfl,?_];rw[ċ,(by rw[hi];lia:↥(u.1+1)=i+1)];lia
 .rintro U' ⟨n,d,a,rfl,c⟩;let e:row.drop (~~~(Ho row))=[]:=by rw[zE];show List.drop_length
  rw[e] at c
  let b:n=(Ip p row:Int):=by
   let:Ip p []=0:=rfl;lia
  show av (jw aG (bg .C ae .a) ae) ?_;change Bd.val _ _=Bd.val _ _;congr 1;delta yO;rw[<-Gu,b,cM .a];by_cases z:Ip p row%2=0
  .let:¬((Ip p row:Nat):Int)%2=1:=.b
   simp[z,this]
  .let:((Ip p row:Nat):Int)%2=1:=.b
   simp[z,this]
def Mp(row:.L):.L:=(.N::kR row).filter λp=>!(qv p row)
structure Wk(row:.L):Prop where
 ro:a8 row=Á
 po:DO row
 pl:∀p∈kR row,2<=p/\p<2^62
def Nx(ns:.L): ~~~(kR ns)<= ~~~(zi ns):=by
 let:∀ns:.L,~~~(sset ns)<= ~~~ns:=λns=>by
  delta sset
  induction ns with
  |nil=>show Ā _
  |cons x ns a =>
   let:∀l:.L,~~~(pM x l)<= ~~~l+1:=λl=>by
    induction l with
    |nil=>simp[pM]
    |cons y l a =>
     unfold pM;split
     .simp
     .split
      .simp
      .simp only[Œ];lia
   let h2:=this (ns.foldr pM []);change ~~~(pM x (ns.foldr pM []))<= ~~~ns+1;lia
 show this _
abbrev acT(P w K mg base):=aE P w K mg base 5 "is_no" ["row","p"] (bL K (fun(row:.L) p=>~~~row<=1000/\(∀n∈row,n≠0)/\(p=0\/(2<=p/\p<2^62))) Á yO)
abbrev acS(P w K mg base):=aE P w K mg base 5 "primes_of" ["numbers"] (bU K DO Á kR)
def HI(e:⇑acS)(YL:⇑acQ)(c:⇑acT)(row:.L)(h:Wk row):
  Body P w K mg base rZ "noes_of" oA f 5 [.val Â row] (RT Á (Mp row)):=by
 intro j A outer s H E b;let d:=cJ h.ro;let g:=h.po.few;let l:=Nx row;show jK (aB YL b .A h.ro) ?_
 let a:∀q∈[.N]++kR row,q=0\/(2<=q/\q<2^62):=λq a=>by
  obtain z|z:=aen.mp a
  .show .inl (ad0.mp z)
  .show .inr (h.pl q z)
 show av (lQ (f:=λq:Int=>q) (p:=λq=>yO row q) (b':=Á) ["p"] [0] (bG (af oA) rZ rfl rfl .d) (bz (Bj (cw (az ae a_) .c) (aB e b .A h.po) (by simp;lia))) (bf 0) (λC s H fp=>cE 0 ["p","row"]) aW (λi q hi C s H fp=>pT (fQ (ax c b .B .A #[.b,λn k=>(bC h.ro k).1,a q (Į hi)]))) (λi q hi _ C s H fp=>dY (b':=Á) .A) (by simp;lia)) ?_;change Bd.val _ _=Bd.val _ _;congr 1;rw[List.map_id'];rfl
def Ll(k p:Int):Bool:=decide (uf k p)
def wG(b:⇑acL)(k p:Int)(hp:k≠0/\2<=p/\p<2^62):⇑Body nK "is_square_at" ji f 3 [.val Â k,.val Â p] (RT Á (Ll k p)):=by
 intro c A outer s H E a;show av (jw (Pu (M:=Int×Int) (Im a)) (ax b a .A .B hp) (kL (M:=Int×Int) (x:=(0,1)) (y:=(0,1)) (aD aG .B ae) (λh=>absurd (by simpa using h:p=0) .b) λ_=>(dY (b':=Á) (bj ae ae)))) ?_;change Bd.val _ _=Bd.val _ _;rw[ite_self];rfl
def Wb(a b c p:Int):Prop:=a≠0/\b≠0/\c≠0/\2<=p/\p<2^62/\Sm 62 a/\Sm 62 b/\Sm 62 c
def rQ(i:⇑acR)(a b c p:Int)(hp:Wb a b c p):⇑Body jv "three_have_zero" fB f 4 [.val Â a,.val Â b,.val Â c,.val Â p] (RT Á (Ad a b c p)):=by
 intro j A outer s H E k;let⟨ha,m,e,h,p2,g,l,d⟩:=hp;show av (b8 i k (aF (bV .A) .C (g.neg.ok d)) (aF (bV .B) .C (l.neg.ok d)) .D #[ë .b e,ë .b e,.inr #[h,p2]]) rfl
def Xp(l:.L)(p:Int):Prop:= ~~~l=4/\(∀a∈l,a≠0/\Sm 62 a)/\2<=p/\p<2^62
abbrev acV(P w K mg base):=aE P w K mg base 5 "three_have_zero" ["a","b","c","p"] (Gn K Wb Á Ad)
abbrev acU(P w K mg base):=aE P w K mg base 4 "is_square_at" ["k","p"] (bL K (λk p=>k≠0/\2<=p/\p<2^62) Á Ll)
def tH(u:⇑acU)(o:⇑acV)(l:.L)(p:Int)(hp:Xp l p):⇑Body kI "four_have_zero" gG f 5 [.val Â l,.val Â p] (RT Á (dk l p)):=by
 intro r A outer s H E n;let⟨t,e,m,p2⟩:=hp
 match l,t,e with
 |[a,b,c,d],_,e =>
 let ha:=e a .c;let h:=e b .c;let j:=e c .c;let k:=e d .c;let g:=ha.2.mul h.2;let i:=g.mul j.2;show aq 2 jr.nd (aF (aF (aF (aQ (a:=a) .A ae rfl) (aQ (a:=b) .A ae rfl) (ha.2.ok h.2)) (aQ (a:=c) .A ae rfl) (g.ok j.2)) (aQ (a:=d) .A ae rfl) (i.ok k.2)) ?_;let q:a*b*c*d≠0:=ë (ë (ë ha.1 h.1) j.1) k.1;show av (Rv (yX (ax u n .C .B #[q,m,p2])) λ_=>(t9 (qA o n (aQ (a:=a) .A ae rfl) (aQ (a:=b) .A ae rfl) (aQ (a:=c) .A ae rfl) .B #[ha.1,h.1,j.1,m,p2,ha.2,h.2,j.2]))) ?_;change Bd.val _ _=Bd.val _ _;rw[qz .b];rfl
def T2(l:.L)(p:Int):Prop:=1<= ~~~l/\(∀a∈l,a≠0/\Sm 62 a)/\(p=0\/(2<=p/\p<2^62))
def Cy(o:⇑acU)(q:⇑acV)(v:⇑aE 6 "four_have_zero" ["numbers","p"] (bL K Xp Á dk))(l:.L)(p:Int)(hp:T2 l p):⇑Body uq "have_zero" nF f 6 [.val Â l,.val Â p] (RT Á (dk l p)):=by
 intro r A outer s H E m;let⟨h1,i,t⟩:=hp;show aO (aD aG .B ae) (λe=>?_) (λe=>?_)
 .let g:p=0:=by simpa using e
  subst g;let⟨u,x⟩:=z_ l .b;let⟨b1,b2⟩:=Jr l .b;show av (NN kO kO (IT rfl rfl B.min .A .b u x) ae (SK rfl rfl B.max .A .b b1 b2)) ?_;change Bd.val _ _=Bd.val _ _;delta dk;rw[adI rfl]
 let g:¬p=0:=by simpa using e
 let k:2<=p:=.b
 let p2:p<2^62:=.b
 let len:∀n:Nat,decide ((~~~l:Int)=(n:Int))=Á->~~~l=n:=λn h=>by
  let:(~~~l:Int)=(n:Int):=by simpa using h
  lia
 let d:∀n:Nat,decide ((~~~l:Int)=(n:Int))=Â->~~~l≠n:=λn h=>by
  let:¬(~~~l:Int)=(n:Int):=by simpa using h
  lia
 show aO (aD aG (bh rfl B.len .A) ae) (λe=>?_) (λc1=>?_)
 .match l,len 1 e with
  |[a],_=>rw[Ag g];show av xj rfl
 show aO (aD aG (bh rfl B.len .A) ae) (λe=>?_) (λc2=>?_)
 .match l,len 2 e,i with
  |[a,b],_,i =>
  let ha:=i a .c;let j:=i b .c;rw[lD g];show av (ax o m (aF (bV (aQ (a:=a) .A ae rfl)) (aQ (a:=b) .A ae rfl) (ha.2.neg.ok j.2)) .B #[ë (by let:=ha.1;lia) j.1,k,p2]) rfl
 show aO (aD aG (bh rfl B.len .A) ae) (λe=>?_) (λc3=>?_)
 .match l,len 3 e,i with
  |[a,b,c],_,i =>
  let ha:=i a .c;let j:=i b .c;let e:=i c .c;rw[gD g];show av (qA q m (aQ (a:=a) .A ae rfl) (aQ (a:=b) .A ae rfl) (aQ (a:=c) .A ae rfl) .B #[ha.1,j.1,e.1,k,p2,ha.2,j.2,e.2]) rfl
 show aO (aD aG (bh rfl B.len .A) ae) (λe=>?_) (λc4=>?_)
 .show av (ax v m .A .B #[len 4 e,i,k,p2]) rfl
 rw[qg g (by let:=d 1 c1;let:=d 2 c2;let:=d 3 c3;let:=d 4 c4;lia)];show av xj rfl
def KU(h:a8 l=Á):∀a∈l,a≠0/\Sm 62 a:=λa ha=>by
 let:=bC h ha;show#[this.1,by unfold Sm;lia]
def nP(xs:.L):Int:=xs.foldl (λg k=>((È g k:Nat):Int)) 0
def wd(xs:.L):.L:=xs.map λk=>k.fdiv (nP xs)
def Ub(xs:.L):Prop:= ~~~xs<=100/\nP xs≠0/\Sm 8000 (nP xs)
def K9(h:xs[i]?=À x):nP (xs.take (i+1))=((È (nP (xs.take i)) x:Nat):Int):=by
 delta nP;rw[ae7,h];simp[ahZ]
def qd(b:⇑acA)(xs:.L)(hp:Ub xs):⇑Body fE "without_divisor" dG f 1 [.val Â xs] (RT Á (wd xs)):=by
 intro c A outer s H E d;let⟨h1,h2,e⟩:=hp;show aq 1 dh.nd ae ?_;show jP (λi U=>∃r,U=[#v[xs],‹nP (xs.take i)›,r]) (b9 2 dh.nd) .A #[none,rfl] ?_ ?_
 .rintro i a U' ha ⟨r,rfl⟩;show aq 1 dh.nd (ax b d .B .C Ê) (aK ?_);dsimp only;rw[K9 ha];show#[_,rfl]
 .rintro U' ⟨r,rfl⟩;rw[Ζ];show av (de (f:=λk:Int=>k.fdiv (nP xs)) ["k"] [1] (bG (af dG) fE rfl rfl .d) (bz .A) (bf 0) (λC s H fp=>cE 0 ["k","divisor"]) aW (λi u g C s H fp=>bw .A .B (Sm.div (n:=8000) e h2)) .b) rfl
theorem MF:∀(xs:.L) (a:Int),(xs.foldl (λg k=>((È g k:Nat):Int)) a∣a)/\∀x∈xs,xs.foldl (λg k=>((È g k:Nat):Int)) a∣x:=zrL (λa=>#[ϳ a,λx h=>by cases h]) λy ys MF a=>by
  let⟨h1,h2⟩:=MF ((È a y:Nat):Int);show#[İ h1 (Ϻ a y),λx b=>?_];obtain rfl|b:=đ.mp b
  .show İ h1 (ϻ a x)
  .show h2 x b
theorem DP{d:Int}:∀(xs:.L) (a:Int),d∣a->(∀x∈xs,d∣x)->d∣xs.foldl (λg k=>((È g k:Nat):Int)) a:=zrL (λa h _=>h) λy ys DP a h b=>DP _ (ahC h (b y (ġ ..))) λx q=>b x (ę _ q)
theorem DJ:∀(xs:.L) (a:Int),0<=a->0<=xs.foldl (λg k=>((È g k:Nat):Int)) a:=zrL (λa h=>h) λy ys DJ a _=>DJ _ (ϱ _)
def u9(h:x∈xs):nP xs∣x:=(MF xs 0).2 x h
def N0(h:x∈xs)(a:x≠0):0<nP xs:=by
 let h1:0<=nP xs:=DJ xs 0 (Ņ 0)
 let h2:nP xs≠0:=λz=>a (by
  let:=u9 h;rw[z] at this
  show aiH.mp this)
 lia
def v8(h:0<nP xs)(b:x∈xs):x=nP xs*x.fdiv (nP xs):=by
 let⟨c,a⟩:=u9 b
 let e:x.fdiv (nP xs)=c:=by
  conv=>lhs;arg 1;rw[a]
  show aeL c .b
 rwa[e]
def RX(h:0<nP xs):nP (wd xs)=1:=by
 let c:0<=nP (wd xs):=DJ _ 0 (Ņ 0)
 let h1:nP xs*nP (wd xs)∣nP xs*1:=by
  rw[Đ];show DP xs 0 (agw _) λx a=>?_;let b:x.fdiv (nP xs)∈wd xs:=adX.mpr #[x,a,rfl];let:=Int.mul_dvd_mul_left (nP xs) (u9 b);rwa[<-v8 h a] at this
 let h2:=ahQ .b h1;let:=Ę .a h2;let:nP (wd xs)≠0:=λz=>by rw[z] at h2;show absurd (aiH.mp h2) .a
 lia
def Ji(h:0<nP xs)(a:x∈xs):(x.fdiv (nP xs)).natAbs<=x.natAbs:=by
 let:=v8 h a
 conv=>rhs;rw[this,ń]
 show afG _ .f
def Sl(h:x∈xs)(b:x≠0)(a:Sm n x):Sm n (nP xs):=by
 let:=aet.mpr (u9 h);show Sm.of_le (agU .b this) a
def wt{t:Int}(h:¬(x=0/\y=0/\t=0))(j:Sm n x)(l:Sm n y)(f:Sm n t)(m:n<=8000):
  Ub [x,y,t]/\∃g c b t',0<g/\wd [x,y,t]=[c,b,t']/\x=g*c/\y=g*b/\t=g*t'/\nP [c,b,t']=1/\Sm n c/\Sm n b/\Sm n t':=by
 obtain⟨z,hz,i,sz⟩:∃z∈[x,y,t],z≠0/\Sm n z:=by
  by_cases h1:x=0
  .by_cases h2:y=0
   .show#[t,.c,λz=>h #[h1,h2,z],f]
   .show#[y,.c,h2,l]
  .show#[x,.c,h1,j]
 let a:=N0 hz i;let d:x∈[x,y,t]:=by simp
 let e:y∈[x,y,t]:=by simp
 let k:t∈[x,y,t]:=by simp
 show#[#[by change 3<=100;decide,.b,(Sl hz i sz).le m],nP [x,y,t],_,_,_,a,rfl,v8 a d,v8 a e,v8 a k,RX a,Sm.of_le (Ji a d) j,Sm.of_le (Ji a e) l,Sm.of_le (Ji a k) f]
def AN(b:⇑aE 3 "is_prime" ["k"] (bU K (λk=>k<2^62) Á aN))(x:Int)(h2:2<=x)(p:x<=30000):⇑Body rA "next_prime" k9 f 3 [.val Â x] (RT Á (pf (x+1))):=by
 intro l A outer s H E m;let n:PB=1070000011:=rfl;let c:x+1<=PB:=.b
 let g:=qf c;let j:=V3 c;let h:=AY c .b;show aq 1 jZ.nd (bH .A ae) ?_;show cD (ι:=Int) (λd U=>U=[#v[x],‹d›]/\x+1<=d/\d<=pf (x+1)) (λd=>↥(pf (x+1)-d)) (x+1) #[rfl,Ņ _,h.2] ?_;rintro d U' ⟨rfl,h1,q⟩;show#[_,kD (fQ (aB b m .B .b)),λa=>?_,λa=>?_]
 .let o:d≠pf (x+1):=λz=>by rw[z,g] at a;cases a
  show aq 1 jZ.nd (bH .B ae) ?_;show aK #[d+1,#[rfl,.b,.b],.b]
 .let hp:aN d=Á:=by simpa using a
  let e:pf (x+1)=d:=by
   let i:d%2=1:=by
    obtain z|z:=Q.cQ.mp hp
    .lia
    .show z.2.1
   let:=rM hp h1 i .b .b;lia
  rw[e];show av .B rfl
def W2(l:.L):Prop:=∃a b,l=[a,b]/\a≠0/\b≠0/\Sm 62 a/\Sm 62 b/\dk [a,b] 0=Á/\Nl a b
def Rh{k r:Int}(h:Ba k=À r):r*r=k:=by
 delta Ba at h;split at h
 .cases h
 .split at h
  .rename_i e;cases h;show e
  .cases h
def IQ{k:Int}(h:Ba k=none):¬∃r:Int,r*r=k:=fun⟨r,e⟩=>by
 let b:0<=k:=by
  rw[<-e];obtain z|z:=ahy 0 r
  .show Ϝ z z
  .show afB z z
 let:∀r:Int,0<=r->r*r=k->False:=λr a e=>by
  let e2:=d_ (k:=k) (r:=r) a .b (by
   let:(r+1)*(r+1)=r*r+2*r+1:=by grind
   lia)
  delta Ba at h;rw[adF .b,adI (by rwa[<-e2])] at h;cases h
 obtain z|z:=ahy 0 r
 .show this r z e
 .show this (-r) .b (by rwa[Int.neg_mul_neg])
abbrev acX(P w K mg base):=aE P w K mg base 7 "have_zero" ["numbers","p"] (bL K T2 Á dk)
abbrev acW(P w K mg base):=aE P w K mg base 4 "next_prime" ["k"] (bU K (λk=>2<=k/\k<=30000) Á (λk=>pf (k+1)))
def mr(C:⇑acE)(I:⇑acW)(D:⇑acX)(l:.L)(hp:W2 l):⇑Body f7 "first_prime_without" dA f 7 [.val Â l] (RT Á (jQ l)):=by
 intro α A outer s H E m;let⟨a,b,rfl,ha,v,j,n,hz,g⟩:=hp;let t:Sm 8000 (-a*b):=Sm.le (j.neg.mul n) .a;let c:=RK ha v hz g;cases i:Ba (-a*b) with
 |some r =>
  let o:=Rh i;show aO (G7 (x:=À r) (M:=Int) (jk (aB C m (aF (bV (aQ (a:=a) .A ae rfl)) (aQ (a:=b) .A ae rfl) (j.neg.ok n)) t) i) λ_ _ _ _ h=>nomatch h) (λd=>?_) (λd=>by cases d);obtain⟨h1,_⟩|⟨p,_,_,_,h⟩:=c
  .rw[<-oe h1];show av (l_ (M:=Int)) rfl
  .show absurd #[r,o] h
 |none =>
  let R:=IQ i;show aO (G7 (x:=none) (M:=Int) (jk (aB C m (aF (bV (aQ (a:=a) .A ae rfl)) (aQ (a:=b) .A ae rfl) (j.neg.ok n)) t) i) λ_ _ _ _ h=>nomatch h) (λd=>by cases d) (λd=>?_);obtain⟨_,h⟩|⟨p,h1,h2,T,_⟩:=c
  .show absurd h R
  rw[<-oe h1];let⟨k1,k2⟩:=h1;let p2:=au h2;let⟨_,_,G⟩:=k2.resolve_left .b;show aq 1 dc.nd ae ?_;show cD (ι:=Int) (λq U=>U=[#v[[a,b]],‹q›]/\aN q=Á/\q<=p) (λq=>↥(p-q)) 2 #[rfl,bA,p2] ?_;rintro q U' ⟨rfl,y,O⟩;let u:=au y;show#[_,fQ (ax D m .A .B #[.c,λx L=>?_,.inr #[u,.b]]),λd=>?_,λd=>?_]
  .obtain e|e:=đ.mp L
   .rw[e];show#[ha,j]
   .rw[ad0.mp e];show#[v,n]
  .let F:q≠p:=λz=>by rw[z,k1] at d;cases d
   let B:q+1<=PB:=by change q+1<=1070000011;lia
   let J:=qf B;let S:=(AY B .b).2
   let N:=rM h2 (k:=q+1) .b (by
    obtain z|z:=Q.cQ.mp h2
    .lia
    .show z.2.1) (by change p<=1070000011;lia) .b
   show aq 1 dc.nd (aB I m .B #[u,.b]) (aK #[_,#[rfl,J,N],?_]);lia
  .let e:q=p:=by
    obtain z|z:=afy O
    .rw[G q y z] at d;cases d
    .show z
   rw[<-e];show av ((aa 1).some) rfl
structure Ou(l:.L):Prop where
 row:a8 l=Á
 po:DO l
 two:∀a b,l=[a,b]->dk l 0=Á->Nl a b
def DD(l:.L):.L:=(kR l).filter λp=>!(dk l p)
def QP(d:a8 l=Á)(hz:dk l 0=Á)(t:3<= ~~~l):Fu l (DD l).head?:=by
 let o:∀q:Int,q∈kR l↔q=2\/(aN q=Á/\∃a∈l,q∣a):=λq=>by
  delta kR;rw[gT];delta zi;rw[đ,ahq];show aiB ?_;constructor
  .rintro⟨a,ha,c⟩;let h1:1<=(a.natAbs:Int):=by let:=bC d ha;lia
   let⟨n,m⟩:=(fJ h1).mp c;show#[n,a,ha,aeV.mp m]
  .rintro⟨n,a,ha,m⟩;let h1:1<=(a.natAbs:Int):=by let:=bC d ha;lia
   show#[a,ha,(fJ h1).mpr #[n,aeV.mpr m]]
 let g:∀q,aN q=Á->q∉kR l->dk l q=Á:=λq c h=>by
  rw[o] at h;show L_ c (λz=>h (.inl z)) t λa ha r=>h (.inr #[c,a,ha,r])
 let k:∀q,q∈kR l->aN q=Á:=λq c=>by
  rcases(o q).mp c with z|z
  .rw[z];show bA
  .show z.1
 cases j:DD l with
 |nil =>
  show#[hz,λq c=>?_];by_cases b:q∈kR l
  .apply ğ;intro h;let:q∈DD l:=aeJ.mpr #[b,↑h];rw[j] at this;cases this
  .show g q c b
 |cons p ps =>
  let hp:p∈DD l:=by rw[j];show ġ ..
  let⟨h1,h2⟩:=aeJ.mp hp;show#[↑h2,.inr #[k p h1,hz,λq c s=>?_]];by_cases b:q∈kR l
  .apply ğ;intro h;let i:q∈DD l:=aeJ.mpr #[b,↑h];let f:(DD l).Pairwise (·<·):=(iP _).filter _;rw[j] at i f;obtain e|e:=đ.mp i
   .lia
   .let:=(afo.mp f).1 q e;lia
  .show g q c b
def Co(h:DO l): ~~~(kR l)<=64:=by
 let h1: ~~~(kR l)<= ~~~(zi l):=o6 ((iP _).imp λh=>by lia) λx a=>gT.mp a;let:=h.few;lia
def yC(b:a8 l=Á)(h:q∈kR l):2<=q/\q<2^62:=by
 delta kR at h;rw[gT] at h;delta zi at h;obtain z|z:=đ.mp h
 .rw[z];decide
 .let⟨a,ha,d⟩:=ahq.mp z;let f:=bC b ha;let h1:1<=(a.natAbs:Int):=by omega
  let⟨e,c⟩:=(fJ h1).mp d;let:=Ę .f c;show#[au e,.f]
def uW(t:⇑acS)(k:⇑acX)(v:⇑aE 8 "first_prime_without" ["row"] (bU K W2 Á jQ))(l:.L)(hp:Ou l):⇑Body hE "first_barring" eT f 8 [.val Â l] (RT Á (jQ l)):=by
 intro F A outer s H E g;let m:=cJ hp.row;let e:∀a∈l,a≠0/\Sm 62 a:=KU hp.row;show aO (kD (fQ (ax k g .A ae #[m.1,e,.inl rfl]))) (λc=>?_) (λc=>?_)
 .let hz:dk l 0=Â:=by simpa using c
  rw[<-oe (r:=À 0) #[hz,.inl rfl]];show av (lJ ae) rfl
 let hz:dk l 0=Á:=by simpa using c
 show aO (aD aG (bh rfl B.len .A) ae) (λc=>?_) (λc=>?_)
 .let h2:(~~~l:Int)=2:=by simpa using c
  match l,h2 with
  |[a,b],_ =>
   show av (aB v g .A #[a,b,rfl,(e a .c).1,(e b .c).1,(e a .c).2,(e b .c).2,hz,hp.two a b rfl hz]) rfl
 let h2:¬(~~~l:Int)=2:=by simpa using c
 let h1: ~~~l≠1:=λz=>by
  match l,z with
  |[a],_ =>
   rw[dP] at hz;let⟨⟨x,D,G⟩,⟨y,I,u⟩⟩:=hz;rw[ad0.mp D] at G;rw[ad0.mp I] at u;lia
 show aO (aD fZ (bh rfl B.len .A) ae) (λc=>?_) (λc=>?_)
 .let L:4<(~~~l:Int):=by simpa using c
  rw[<-oe (r:=none) #[hz,λq o=>qg (by let:=au o;lia) .b]];show av (l_ (M:=Int)) rfl
 let J:3<= ~~~l:=.b
 let n:=Co hp.po;show GB (f:=λq:Int=>q) (p:=λq=>!(dk l q)) (b':=Á) 1 kK.nd ["p"] [0] (bG (af eT) hE rfl rfl .d) (bz (aB t g .A hp.po)) (bf 0) (λC s H fp=>cE 0 ["p","numbers"]) aW (λi q hi C s H fp=>pT (kD (fQ (ax k g .B .A #[m.1,e,.inr (yC hp.row (Į hi))])))) (λi q hi _ C s H fp=>dY (b':=Á) .A) .b ?_;rw[List.map_id'];let j:=QP hp.row hz J;rw[<-oe j];delta DD;generalize (kR l).filter (λq=>!(dk l q))=bl;cases bl with
 |nil =>
  show av (kL (M:=Option Int) (x:=none) (y:=none) (aD fZ (bh rfl B.len .B) ae) (λh=>absurd (by simpa using h:.N<0) .a) λ_=>l_ (M:=Int)) ?_;change Bd.val _ _=Bd.val _ _;rw[ite_self];rfl
 |cons p ps =>
  show av (kL (M:=Option Int) (x:=À p) (y:=À p) (aD fZ (bh rfl B.len .B) ae) (λh=>(lJ (aQ (a:=p) .B ae (by rw[si (d:=p) .a .c];rfl)))) λh=>absurd (by simp:.N<(~~~(p::ps):Int)) ↑h) ?_;change Bd.val _ _=Bd.val _ _;rw[ite_self];rfl
def uE(YL:⇑acQ)(b:⇑aE 9 "first_barring" ["numbers"] (bU K Ou Á jQ))(l:.L)(hp:Ou l):⇑Body l7 "first_without" hX f 9 [.val Â l] (RT Á (jQ l)):=by
 intro c A outer s H E a;show jK (aB YL a .A hp.row) ?_;show av (aB b a .A hp) rfl
def T7(a b:Int):Int×(Int×Int):=Fe (a*b,1)
def IC(a b:Int):Prop:=a≠0/\b≠0/\Sm 60 a/\Sm 60 b/\Tame (a*b).natAbs/\(T7 a b).1.natAbs<1073741824
def KS{k:Int}(h:k≠0)(b:Sm 200 k)(a:Tame k.natAbs):TJ (k,1):=#[h,Ņ 1,b.le .a,by change(1:Int).natAbs<2^400;show agb .a,by change Tame (k.natAbs*1);rwa[Đ]]
def uN(YR:sO mg "GREAT_FROM" 1073741824)(Za:⇑acG)(a b:Int)(h:IC a b):⇑Body me "freed_product" g5 f 5 [.val Â a,.val Â b] (RT Á (T7 a b)):=by
 intro k A outer s H E m;let⟨ha,j,c,d,g,l⟩:=h;show aq 2 j6.nd (aB Za m (bj (aF .A .B (c.ok d)) ae) (KS (ë ha j) ((c.mul d).le .a) g)) ?_;show aO (aD FC (iY rfl B.abs (aX .C)) (mZ rfl YR)) (λe=>?_) (λ_=>?_)
 .exfalso;let i:(Fe (a*b,1)).1.natAbs<1073741824:=l;rw[tq] at e;let:(1073741824:Int)<=((Fe (a*b,1)).1.natAbs:Int):=aer e;lia
 .show av .C rfl
def Af{k:Int}(h:k≠0)(b:Tame k.natAbs):∃A u,Fe (k,1)=(A,(u,1))/\dm A/\0<u/\k=A*(u*u):=by
 let⟨f,s,h1,h2,a⟩:=qN _ k h (Ā _);let t:Tame (k.natAbs*1):=by rwa[Đ]
 let e:=CS h .a t h1 h2 (by rwa[Đ]);show#[f,s,?_,h1,h2,a];change((MT k 1).1,fr (MT k 1).2 1)=_;rw[e];change(f,fr s 1)=(f,(s,1));rw[Sk .a (Int.gcd_one_right s)]
noncomputable def Wf(a:Int)(l:Int×(Int×Int))(r:Int)(z:.L):.L:=wd [z.getD 0 0*r+a*z.getD 1 0,z.getD 0 0+r*z.getD 1 0,l.1*l.2.1*z.getD 2 0]
structure Wi(a:Int)(l:Int×(Int×Int))(r:Int)(z:.L):Prop where
 len: ~~~z=3
 sa:Sm 40 a
 s1:Sm 40 l.1
 s2:Sm 40 l.2.1
 sr:Sm 40 r
 sz:∀x∈z,Sm 4000 x
 nz:¬(z.getD 0 0*r+a*z.getD 1 0=0/\z.getD 0 0+r*z.getD 1 0=0/\l.1*l.2.1*z.getD 2 0=0)
abbrev acY(P w K mg base):=aE P w K mg base 2 "without_divisor" ["numbers"] (bU K Ub Á wd)
def xK(o:⇑acY)(a:Int)(l:Int×(Int×Int))(r:Int)(z:.L)(hp:Wi a l r z):⇑Body oV "from_lesser" jU f 2 [.val Â a,.val Â l,.val Â r,.val Â z] (RT Á (Wf a l r z)):=by
 intro m A outer s H E n;let⟨len,h,e,d,b,sz,nz⟩:=hp
 match z,len with
 |[x,y,t],_ =>
 let g:=sz x .c;let c:=sz y .c;let st:=sz t .c;let i:Sm 4100 (x*r+a*y):=((g.mul b).add (h.mul c)).le .a;let k:Sm 4100 (x+r*y):=(g.add (b.mul c)).le .a;let j:Sm 4100 (l.1*l.2.1*t):=((e.mul d).mul st).le .a;show aq 4 jd.nd (bH (aF (aQ (a:=x) .D ae rfl) .C (g.ok b)) (aF .A (aQ (a:=y) .D ae rfl) (h.ok c))) ?_;show aq 5 jd.nd (bH (aQ (a:=x) .D ae rfl) (aF .C (aQ (a:=y) .D ae rfl) (b.ok c))) ?_;show av (aB o n (cw (az (aa 4) (az (aa 5) (az (aF (aF (aX .B) (aX (aY .B)) (e.ok d)) (aQ (a:=t) .D ae rfl) ((e.mul d).ok st)) a_))) (by change 3<=1000;decide)) (wt nz i k j .a).1) rfl
def IU(k m:Int):Int:=if m<2*(Jm k m).getD 0 then (Jm k m).getD 0-m else (Jm k m).getD 0
def Wc(k m:Int):Prop:=1<=m/\m<2^60/\∃x,Jm k m=À x/\0<=x/\x<m
def uS(b:⇑aE 6 "root_by" ["k","m"] (bL K (λ_ m=>1<=m/\m<2^60) Á Jm))(k m:Int)(hp:Wc k m):⇑Body lW "least_root_by" g9 f 6 [.val Â k,.val Â m] (RT Á (IU k m)):=by
 intro i A outer s H E j;let⟨d,g,x,c,l,n⟩:=hp;show aq 2 kz.nd (ax b j .A .B #[d,g]) ?_;let e:IU k m=if m<2*x then x-m else x:=by delta IU;rw[c];rfl
 rw[c,e];show av (kL (aD fZ (aF ae (fX (a:=x) .C) (mulL .a .a)) .B) (λ_=>ig (fX (a:=x) .C) .B) λ_=>fX (a:=x) .C) ?_;change Bd.val _ _=Bd.val _ _;congr 1;by_cases h:m<2*x
 .rw[adI h,adZ h];rfl
 .rw[adF h,aec h];rfl
def T_(ha:a≠0)(j:dm b)(h:uV a b)(o:b.natAbs<1073741824):Wc a b.natAbs/\2*(IU a b.natAbs).natAbs<=b.natAbs/\b∣IU a b.natAbs*IU a b.natAbs-a:=by
 let⟨x,e,k,l,g⟩:=Jg ha j h;let n:=j.1;let i:IU a b.natAbs=if (b.natAbs:Int)<2*x then x-b.natAbs else x:=by delta IU;rw[e];rfl
 show#[#[.b,.b,x,e,k,l],?_,?_]
 .rw[i];split<;>lia
 .rw[i];split
  .let f:b∣(b.natAbs:Int):=aeV.mpr (ϳ b);let⟨c,p⟩:=f;let⟨d,g⟩:=g;show#[d-2*x*c+(b.natAbs:Int)*c,?_];generalize (b.natAbs:Int)=m at *;grind
  .show g
structure MU(a b:Int):Prop where
 qa:dm a
 qb:dm b
 la:a.natAbs<1073741824
 lb:b.natAbs<1073741824
 yes:uV a b
def Sy(a b:Int)(z:.L):Prop:=∃x y t,z=[x,y,t]/\x*x=a*(y*y)+b*(t*t)/\¬(x=0/\y=0/\t=0)/\Sm (ps a+ps b+2) x/\Sm (ps a+ps b+2) y/\Sm (ps a+ps b+2) t
def MU.two(h:MU a b)(ha:a≠1)(c:b≠1)(d:a.natAbs<=b.natAbs):2<=b.natAbs:=by
 let f:=h.qa.1;let g:=h.qb.1;apply ğ;intro e;let e1:a=-1:=.b
 let e2:b=1\/b=-1:=.b
 obtain e2|e2:=e2
 .show absurd e2 c
 .let:=h.yes 0 (.inl rfl);rw[e1,e2,aP] at this;show absurd this .a
structure UR(a b r:Int)(l:Int×(Int×Int)):Prop where
 ex:∃c s,l=(c,(s,1))/\MU a c/\0<s/\r*r-a=b*c*(s*s)/\xJ a c+1<=xJ a b/\s.natAbs<1073741824/\(lg c+2<=lg b\/(lg b<=2/\lg c+1<=lg b))/\a.natAbs<=b.natAbs
def OH{r:Int}(h:MU a b)(h1:a≠1)(i:a.natAbs<=b.natAbs)(h2:2<=b.natAbs)(q:2*r.natAbs<=b.natAbs)(n:b∣r*r-a):((r*r-a).fdiv b≠0/\((r*r-a).fdiv b).natAbs<1073741824)/\UR a b r (Fe ((r*r-a).fdiv b,1)):=by
 let⟨k,f⟩:=n;let l:=h.qb.1;let p:=h.qa.1;let ek:(r*r-a).fdiv b=k:=by rw[f];show aeL k l
 let g:r*r-a≠0:=λz=>by
  let:=yk (x:=r) (y:=1) h.qa h1 (by rw[Đ,Đ];(first|lia|omega));show absurd this .a
 let k0:k≠0:=λz=>g (by rw[f,z,Ū]);let bd:=Fz i q l f;let t:=h.lb;let kl:k.natAbs<1073741824:=by (first|lia|omega)
 rw[ek];show#[#[k0,kl],?_];let⟨c,s,e,d,m,j⟩:=Af k0 (rT (by first|lia|omega) (by first|lia|omega));let cl:=Av m j;let e3:r*r-a=b*c*(s*s):=by rw[f,j];grind
 let sl:s.natAbs<=k.natAbs:=by
  let o:k=s*(s*c):=by rw[j];grind
  conv=>rhs;rw[o,ń]
  show aif _ ?_;let:s*c≠0:=ë (by first|lia|omega) d.1;(first|lia|omega)
 show#[c,s,e,#[h.qa,d,h.la,by (first|lia|omega),h.yes.step p l d.1 (by first|lia|omega) e3],m,e3,Ju i (GC h2 d.1 (by first|lia|omega)),by (first|lia|omega),Ml h2 d (by first|lia|omega),i]
def F9{r:Int}{l:Int×(Int×Int)}(h:MU a b)(h1:a≠1)(u:b≠1)(hm:xJ a b<118)(L:2*r.natAbs<=b.natAbs)(α:UR a b r l)(hz:Sy a l.1 z):Wi a l r z/\Sy a b (Wf a l r z):=by
 let⟨c,s,rfl,o,s0,e,P,sl,p,d⟩:=α.ex;let⟨x,y,t,rfl,j,nz,f,i,st⟩:=hz;let f:Sm (ps a+ps c+2) x:=f;let i:Sm (ps a+ps c+2) y:=i;let st:Sm (ps a+ps c+2) t:=st;let j:x*x=a*(y*y)+c*(t*t):=j;let C:=h.la;let F:=h.lb;let lc:=o.lb;let g1:=xy h.qa.1 C;let g2:=xy h.qb.1 F
 let B:¬(x*r+a*y=0/\x+r*y=0/\c*s*t=0):=fun⟨K,k,q⟩=>by
  let E:t=0:=by
   obtain z|z:=afW.mp q
   .show absurd z (ë o.qb.1 .b)
   .show z
  rw[E,Ū,Ū,aic] at j;let J:=yk h.qa h1 j;rw[J,Ū,aic] at k;show nz #[k,J,E]
 let pa:=Cn h.qa.1 C;let Z:=Cn h.qb.1 F;let pc:=Cn o.qb.1 lc
 let n:2<=b.natAbs:=by
  let:=h.two h1 u d;show this
 let w:Sm 30 a:=by unfold Sm;lia
 let m:Sm 30 r:=by unfold Sm;lia
 let bl:=Fx h.qb.1;let O:Sm (lg b+1) a:=afn d bl;let G:Sm (lg b) r:=half_lt h.qb.1 L;let A:Sm (lg b+1) (c*s):=Mk .b d L n e;let lv:ps c+lg b+2<=ps b:=(Fi _ .b).2 _ .b p;let V:Sm (ps a+ps b+2) (x*r+a*y):=((f.mul G).add (O.mul i)).le .b;let T:Sm (ps a+ps b+2) (x+r*y):=(f.add (G.mul i)).le .b;let R:Sm (ps a+ps b+2) (c*s*t):=(A.mul st).le .b;let⟨_,g,σ,S,t',g0,N,ex,D,I,_,Γ,W,X⟩:=wt B V T R .b;show#[#[rfl,w.le .a,(by unfold Sm;lia:Sm 30 c).le .a,(by unfold Sm;lia:Sm 30 s).le .a,m.le .a,λv H=>?_,B],σ,S,t',N,?_,fun⟨K,k,q⟩=>B #[by rw[ex,K,Ū],by rw[D,k,Ū],by rw[I,q,Ū]],Γ,W,X]
 .simp only[đ,Ĕ,aej] at H;obtain rfl|rfl|rfl:=H
  .show f.le .b
  .show i.le .b
  .show st.le .b
 .show Of .b j e ex D I
section
variable(Za:⇑acG)(Zb:⇑aE 3 "from_lesser" ["a","lesser","root","zero"] (Gn K Wi Á Wf))(Y_:⇑aE 7 "least_root_by" ["k","m"] (bL K Wc Á IU))
def Yf:Sm (n+2) 0:=by unfold Sm;show agd _
def Wd:Sm (n+2) 1:=by unfold Sm;show agb .b
include B Za Zb Y_ in
theorem uy(n:Nat)(j:⇑aE (8+n) "square_of_two" ["a","b"] (uz K (λa b=>MU a b/\xJ a b<n/\xJ a b<118) Á Sy))(a b:Int)(h:MU a b)(σ:xJ a b<n+1)(C:xJ a b<118):⇑Body lR "square_of_two" eO f (8+n) [.val Â a,.val Â b] (yc Á (Sy a b)):=by
 intro T A outer s H E m;let D:=h.qa.1;let F:=h.qb.1;let X:=h.la;let V:=h.lb;show aO (aD aG .A ae) (λd=>?_) (λd=>?_)
 .let ha:a=1:=aer d;show av (cw (as:=[1,1,0]) (az ae (az ae (az ae a_))) (by change 3<=1000;decide)) #[_,#[1,1,0,rfl,by rw[ha];grind,λz=>absurd z.1 .a,Wd,Wd,Yf],rfl]
 let h1:a≠1:=aeC d;show aO (aD aG .B ae) (λd=>?_) (λd=>?_)
 .let I:b=1:=aer d;show av (cw (as:=[1,0,1]) (az ae (az ae (az ae a_))) (by change 3<=1000;decide)) #[_,#[1,0,1,rfl,by rw[I];grind,λz=>absurd z.1 .a,Wd,Yf,Wd],rfl]
 let e:=d;show aO (aD fZ (iY rfl B.abs .A) (iY rfl B.abs .B)) (λd=>?_) (λd=>?_)
 .rw[tq,tq] at d;let v:(b.natAbs:Int)<a.natAbs:=aer d;let u:b.natAbs<a.natAbs:=.b
  let p:=IF u;show jJ 2 c8.nd (j_ (kzz:=.b) j m .B .A #[#[h.qb,h.qa,h.lb,h.la,h.yes.swap D F],.b,.b]) λz hz=>?_;let⟨x,y,t,rfl,L,nz,α,Γ,st⟩:=hz;let le:ps b+ps a+2<=ps a+ps b+2:=.b
  show av (cw (as:=[x,t,y]) (az (aQ (a:=x) .C ae rfl) (az (aQ (a:=t) .C ae rfl) (az (aQ (a:=y) .C ae rfl) a_))) (by change 3<=1000;decide)) #[_,#[x,t,y,rfl,by rw[L,aiJ],fun⟨S,J,W⟩=>nz #[S,W,J],α.le le,st.le le,Γ.le le],rfl]
 rw[tq,tq] at d;let v:¬(b.natAbs:Int)<a.natAbs:=aeC d;let k:a.natAbs<=b.natAbs:=.b
 let h2:=h.two h1 (aeC e) k;let⟨pl,g,R⟩:=T_ D h.qb h.yes V;show aq 3 c8.nd (ax (kzz:=.b) Y_ m .A (jk (iY rfl B.abs .B) (tq b)) pl) ?_;generalize IU a b.natAbs=r at *;let⟨⟨k0,kl⟩,o⟩:=OH h h1 k h2 g R;let G:Sm 30 r:=by unfold Sm;lia
 let O:Sm 30 ((r*r-a).fdiv b):=by unfold Sm;lia
 show aq 4 c8.nd (aB (kzz:=.b) Za m (bj (bw (ig (aF .D .D (G.ok G)) .A) .B (Sm.div (n:=30) (by unfold Sm;lia) F)) ae) (KS k0 (O.le .a) (rT .b .b))) ?_;generalize Fe ((r*r-a).fdiv b,1)=l at *;let⟨c,q,N,d,_,_,p,_,_⟩:=o.ex;let i:l.1=c:=by rw[N]
 show mI (Oz (kzz:=.b) Zb m .A (aa 4) .D (j_ (kzz:=.b) j m .A (aX (aa 4)) #[by rwa[i],by rw[i];lia,by rw[i];lia]) λz hz=>(F9 h h1 (aeC e) C g o hz).1) ?_;rintro y ⟨z,hz,rfl⟩;show#[_,(F9 h h1 (aeC e) C g o hz).2,rfl]
include B Za Zb Y_ in
theorem uh{h:Û}(D:Df K "square_of_two" eO)(X:K.In h)(G:h.Ns É mg):∀n:Nat,⇑aE (8+n) "square_of_two" ["a","b"] (uz K (λa b=>MU a b/\xJ a b<n/\xJ a b<118) Á Sy):=zrN (D.PL X G (λ_ _ _ _ _ _ us d=>match us,d with|[_,_],_=>rfl) λf fd F=>My F c8 rfl λa c hp=>absurd hp.2.1 (ag1 _)) λn uh=>D.PL X G (λ_ _ _ _ _ _ us d=>match us,d with|[_,_],_=>rfl) λf fd F=>My F c8 rfl λa c hp=>uy B Za Zb Y_ n (uh) a c hp.1 hp.2.1 hp.2.2
end
structure Sw(l:.L):Prop where
 row:a8 l=Á
 len: ~~~l=3
 po:DO l
 q1:IC (-l.getD 0 0) (l.getD 1 0)
 q2:IC (-l.getD 0 0) (l.getD 2 0)
def Z3(row:.L)(z:Option .L):Prop:=(jQ row≠none/\z=none)\/(jQ row=none/\∃x y t,z=À [x,y,t]/\nP [x,y,t]=1/\row.getD 0 0*(x*x)+row.getD 1 0*(y*y)+row.getD 2 0*(t*t)=0/\Sm 602 x/\Sm 602 y/\Sm 602 t)
def R8{B v:Int}(ha:a≠0)(f:b≠0)(j:c≠0)(k:A≠0)(m:B≠0)(q:0<u)(s:0<v)(e1:-a*b=A*(u*u))(e2:-a*c=B*(v*v))(h:Fu [a,b,c] none):uV A B:=λp hp=>by
 let⟨e,l⟩:=h;rw[<-Hd hp k m .b .b e1 e2];obtain rfl|hp:=hp
 .rw[aP];rw[dP] at e;let⟨⟨x,d,t⟩,⟨y,g,r⟩⟩:=e
  let key:0 < -a*b\/0 < -a*c:=by
   apply ğ;intro i;let n:¬0 < -a*b:=λz=>i (.inl z);let o:¬0 < -a*c:=λz=>i (.inr z);rw[e_ .b f] at n;rw[e_ .b j] at o;simp only[đ,Ĕ,aej] at d g;obtain rfl|rfl|rfl:=d<;>obtain rfl|rfl|rfl:=g<;>lia
  obtain z|z:=key
  .rw[adZ z];rfl
  .rw[adZ z,aib]
 .let:=l p hp;rwa[gD (by let:=au hp;lia),J3 (.inr hp) ha f j] at this
def uP(YL:⇑acQ)(Y7:⇑acY)(X:⇑aE 10 "first_without" ["row"] (bU K Ou Á jQ))
  (σ:⇑aE 6 "freed_product" ["a","b"] (bL K IC Á T7)) (ZN:⇑aE 126 "square_of_two" ["a","b"] (uz K (λa b=>MU a b/\xJ a b<118/\xJ a b<118) Á Sy)) (row:.L) (hp:Sw row):⇑Body lU "zero_of_three" h_ f 126 [.val Â row] (yc Á (Z3 row)):=by
 intro cdv A outer s H E m;let⟨G,hl,Γ,α,I⟩:=hp
 match row,hl with
 |[a,b,c],_ =>
 let α:IC (-a) b:=α;let I:IC (-a) c:=I;let ha:=bC G (x:=a) .c;let T:=bC G (x:=b) .c;let i:=bC G (x:=c) .c;show jK (aB YL m .A G) ?_;show aq 1 bR.nd (ax σ m (bV (aQ (a:=a) .A ae rfl)) (aQ (a:=b) .A ae rfl) α) ?_;show aq 2 bR.nd (ax σ m (bV (aQ (a:=a) .A ae rfl)) (aQ (a:=c) .A ae rfl) I) ?_;let VO:Ou [a,b,c]:=#[G,Γ,λ_ _ e=>by simp at e];let⟨_,_,_,_,t1,l⟩:=α;let⟨_,_,_,_,t2,j⟩:=I;let⟨N,u,O,d,u0,e1⟩:=Af (ë .b T.1) t1;let⟨L,v,S,o,v0,e2⟩:=Af (ë .b i.1) t2;let F:T7 (-a) b=(N,(u,1)):=O;let q:T7 (-a) c=(L,(v,1)):=S;rw[F] at l ⊢;rw[q] at j ⊢;let l:N.natAbs<1073741824:=l;let j:L.natAbs<1073741824:=j;let ok:=DW [a,b,c];cases r:jQ [a,b,c] with
 |some p =>
  show aO (G7 (x:=À p) (M:=Int) (jk (aB X m .A VO) r) λ_ _ _ _ h=>nomatch h) (λ_=>?_) (λi=>nomatch i);show av (l_ (M:=.L)) #[_,.inl #[(by rw[r];show λz=>nomatch z),rfl],rfl]
 |none =>
  rw[r] at ok;show aO (G7 (x:=none) (M:=Int) (jk (aB X m .A VO) r) λ_ _ _ _ h=>nomatch h) (λi=>nomatch i) (λ_=>?_);let yes:=R8 ha.1 T.1 i.1 d.1 o.1 u0 v0 e1 e2 ok;let Z:=QO d.1 o.1 l j;let hl1:=xy d.1 l;let hl2:=xy o.1 j;show jJ 3 bR.nd (j_ ZN m (jk (a':=N) (aX (u:=(N,(u,.M))) .B) rfl) (jk (a':=L) (aX (u:=(L,(v,.M))) .C) rfl) #[#[d,o,l,j,yes],Nat.lt_succ_of_le Z,Nat.lt_succ_of_le Z]) λz hz=>?_;let⟨x,y,t,rfl,ez,nz,B,C,st⟩:=hz;let hp1:=Cn d.1 l;let hp2:=Cn o.1 j;let B:Sm 542 x:=B.le .b;let C:Sm 542 y:=C.le .b;let st:Sm 542 t:=st.le .b;let sq:∀{k A u:Int},A≠0->0<u->k.natAbs<1073741824*1073741824->k=A*(u*u)->Sm 30 u:=λ{k A u} d hu hk e=>JA d hu hk e
  let W:∀{x y:Int},x.natAbs<1073741824->y.natAbs<1073741824->(-x*y).natAbs<1073741824*1073741824:=λ{x y} h1 h2=>by
   rw[ń,Int.natAbs_neg];show Nat.mul_lt_mul'' h1 h2
  let D:=sq d.1 u0 (W ha.2 T.2) e1;let J:=sq o.1 v0 (W ha.2 i.2) e2;let n:Sm 30 a:=by unfold Sm;show ha.2
  show aq 4 bR.nd (aX (aY .B)) ?_;show aq 5 bR.nd (aX (aY .C)) ?_;show aq 6 bR.nd (aF (aF (aQ (a:=x) .D ae rfl) (aa 4) (B.ok D)) (aa 5) ((B.mul D).ok J)) ?_
  let hn:¬(x*u*v=0/\y*a*v=0/\t*a*u=0):=fun⟨z1,z2,z3⟩=>nz #[by
    obtain z|z:=afW.mp z1
    .obtain z|z:=afW.mp z
     .show z
     .lia
    .lia,by
    obtain z|z:=afW.mp z2
    .obtain z|z:=afW.mp z
     .show z
     .show absurd z ha.1
    .lia,by
    obtain z|z:=afW.mp z3
    .obtain z|z:=afW.mp z
     .show z
     .show absurd z ha.1
    .lia]
  let w1:Sm 602 (x*u*v):=((B.mul D).mul J).le .a;let w2:Sm 602 (y*a*v):=((C.mul n).mul J).le .a;let w3:Sm 602 (t*a*u):=((st.mul n).mul D).le .a;let⟨pw,g,V,R,t',g0,ew,ex,ey,et,hg,s1,s2,s3⟩:=wt hn w1 w2 w3 .a;let heq:a*(V*V)+b*(R*R)+c*(t'*t')=0:=Tu .b e1 e2 ez ex ey et;show av (lJ (aB Y7 m (cw (as:=[x*u*v,y*a*v,t*a*u]) (az (aa 6) (az (aF (aF (aQ (a:=y) .D ae rfl) (dY (b':=Á) (aQ (a:=a) .A ae rfl)) (C.ok n)) (aa 5) ((C.mul n).ok J)) (az (aF (aF (aQ (a:=t) .D ae rfl) (dY (b':=Á) (aQ (a:=a) .A ae rfl)) (st.ok n)) (aa 4) ((st.mul n).ok D)) a_))) (by change 3<=1000;decide)) pw)) ?_;rw[ew];show#[_,.inr #[r,V,R,t',rfl,hg,heq,s1,s2,s3],rfl]
def BZ{row:.L}(nz:∀x∈row,x≠0):q∈kR row↔q=2\/(aN q=Á/\∃a∈row,q∣a):=by
 delta kR;rw[gT];delta zi;rw[đ,ahq];show aiB ?_;constructor
 .rintro⟨a,ha,d⟩;let h1:1<=(a.natAbs:Int):=by let:=nz a ha;lia
  let⟨c,b⟩:=(fJ h1).mp d;show#[c,a,ha,aeV.mp b]
 .rintro⟨c,a,ha,b⟩;let h1:1<=(a.natAbs:Int):=by let:=nz a ha;lia
  show#[a,ha,(fJ h1).mpr #[c,aeV.mpr b]]
def Rz{m w:Int}(ha:a≠0)(d:b≠0)(l:a.natAbs<1073741824)(k:b.natAbs<1073741824)(c:Tame (-a*b).natAbs)(h:w≠0)(e:-a*b=m*(w*w))(n:m.natAbs<1073741824):IC (-a) b:=by
 let k0:-a*b≠0:=ë .b d;let j:m≠0:=λz=>k0 (by rw[e,z,ahA]);let⟨A,u,i,f,g,ek⟩:=Af k0 c;show#[.b,d,by unfold Sm;lia,by unfold Sm;lia,c,?_];change(Fe (-a*b,1)).1.natAbs<_;rw[i];let:=OG f g j h (ek.symm.trans e);change A.natAbs<_;lia
def QN(h:∀x∈[a,b,c],x≠0/\x.natAbs<1073741824)(f:IC (-a) b)(g:IC (-a) c):Sw [a,b,c]:=by
 show#[?_,rfl,#[by change 3<=100;decide,λk i=>by let:=h k i;lia,?_],f,g]
 .delta a8;rw[adZ (by change 1<=3/\3<=8;decide),agh];show afq.mpr λx d=>by unfold sC;show adZ (h x d)
 .let e:∀x∈[a,b,c],~~~(oh (x.natAbs:Int))<=19:=λx d=>by
   let:=h x d;show Ig .b .b
  let j:=e a .c;let l:=e b .c;let m:=e c .c;delta zi;simp only[ϯ,List.flatMap_nil,Œ,Ř,ċ,List.length_nil];lia
abbrev rX:=List (Int⊕(Int×Int))
noncomputable instance:DecidableEq (Int⊕(Int×Int)):=λa b=>match a,b with
 |.inl x,.inl y=>decidable_of_iff (x=y) #[λh=>by rw[h],λh=>Α h]
 |.inr x,.inr y=>decidable_of_iff (x=y) #[λh=>by rw[h],λh=>ahg h]
 |.inl _,.inr _=>isFalse λh=>by cases h
 |.inr _,.inl _=>isFalse λh=>by cases h
def Ua(c:Int⊕(Int×Int))(cs:rX):Bool:=cs.any λd=>decide (d=c)
def rK{c:Int⊕(Int×Int)}{cs:rX}:Ua c cs=Á↔c∈cs:=by
 delta Ua;rw[aho];constructor
 .rintro⟨d,a,e⟩;rwa[<-aer e]
 .intro h;show#[c,h,adZ rfl]
def Iv(k:Int)(ps:.L):rX:=ps.map (fk k)
def WY(a b:Int⊕(Int×Int))(p:Int):Prop:=p∈P7/\∃m n:Int,m≠0/\n≠0/\a=fk m p/\b=fk n p
def Qz{n:Int}(hp:aN p=Á)(b:n≠0):Sm 4 (cls n p).2:=by
 let⟨_,h2,a⟩:=kU hp b;by_cases z:p=2
 .let:=h2 z;simp only[đ,Ĕ,aej] at this;unfold Sm;omega
 .let:=a z;unfold Sm;omega
def pB(a b:Int⊕(Int×Int))(p:Int)(hp:WY a b p):⇑Body i7 "class_of_product" eX f kk [.val Â a,.val Â b,.val Â p] (RT Á (uG a b p)):=by
 intro k A outer s H E o;let⟨hp,m,n,l,j,rfl,rfl⟩:=hp;obtain rfl|⟨e,pp,_⟩:=fU hp
 .let h:fk m 0=Ď (if 0<m then 1 else -1):=adI rfl;let g:fk n 0=Ď (if 0<n then 1 else -1):=adI rfl;rw[h,g];let d:Sm 1 (if 0<m then .M else -1):=by unfold Sm;split<;>decide
  let c:Sm 1 (if 0<n then .M else -1):=by unfold Sm;split<;>decide
  generalize (if 0<m then .M else -1)=x at *;generalize (if 0<n then .M else -1)=y at *;show aO (aD aG .C ae) (λ_=>?_) (λi=>absurd i .a);show av (Qt (β:=Int×Int) (aF (Qb (β:=Int×Int) (a:=x) .A) (Qb (β:=Int×Int) (a:=y) .B) (d.ok c))) rfl
 .let h:fk m p=ö (cls m p):=adF e;let g:fk n p=ö (cls n p):=adF e;let d:=Qz pp l;let c:=Qz pp j;rw[h,g];generalize cls m p=u at *;generalize cls n p=v at *;show aO (aD aG .C ae) (λi=>absurd ↑i e) (λ_=>?_);show aq 3 iq.nd (aF (aY (yV (M:=Int) (a:=u) .A)) (aY (yV (M:=Int) (a:=v) .B)) (d.ok c)) ?_;by_cases z:p=2
  .show av (JV (M:=Int) (bj (bg (bH (aX (yV (M:=Int) (a:=u) .A)) (aX (yV (M:=Int) (a:=v) .B))) ae .a) (kL (aD aG .C ae) (λ_=>bg .D ae .a) (λ_=>aa 3)))) ?_;change Bd.val _ _=Bd.val _ (ö (cj u v p));delta cj;rw[adI z,adI (adZ z),ae3 _ .a,ae3 _ .a];rfl
  .show av (JV (M:=Int) (bj (bg (bH (aX (yV (M:=Int) (a:=u) .A)) (aX (yV (M:=Int) (a:=v) .B))) ae .a) (kL (aD aG .C ae) (λ_=>bg .D ae .a) (λ_=>aa 3)))) ?_;change Bd.val _ _=Bd.val _ (ö (cj u v p));delta cj;rw[adF z,adF (by rw[aec z];decide),ae3 _ .a];rfl
def UK(h:Q6[i]?=À p):p=Q.Q6.getD i 1/\i<6/\0<=p/\p<=13:=by
 let hi:i<6:=(adU.mp h).1;let e:p=Q.Q6.getD i 1:=by rw[ĩ,h];rfl
 let m:p∈Q6:=Į h;simp only[Q6,đ,Ĕ,aej] at m;show#[e,hi,.b,.b]
def mG(n:A7 K mg "SMALL_PLACES" [0,2,3,5,7,11,13]):⇑Body dR "small_free_numbers" cW f kk [] (yc Á (fun(o:.L)=>o.Perm (bN 6))):=by
 intro m A outer s H E u;show aq 0 cz.nd (cw (as:=[.M,-1]) (b:=Á) (az ae (az (bV ae) a_)) (ſ rfl)) ?_;show rJ (as:=Q6) (λi U=>∃d,i<=6/\U=[‹bN i›,d]) (b9 1 cz.nd) (Mh (Fj (zh rfl n) ae .a .a)) #[none,.a,rfl] ?_ ?_
 .rintro i p U' hp ⟨d,e,rfl⟩;let⟨ep,hi,q,l⟩:=UK hp;let t:=N3 i e;let c:=Ru i e
  show aq 0 cz.nd (jk (a':=bN (i+1)) (Bj .A (de (b':=Á) (f:=λk:Int=>k*p) ["k"] [1] (bG (af cW) dR rfl rfl .d) (bz .A) (bf 0) (λC s H fp=>cE 0 ["k","p"]) aW (λj k g C s H fp=>by
   let:=c k (Į g)
   show aF .A .B ((by unfold Sm;lia:Sm 15 k).ok (by unfold Sm;lia:Sm 4 p))) .b) (by rw[ċ];lia)) (by rw[ep];rfl)) ?_
  show aK #[_,.b,rfl]
 .rintro U' ⟨d,_,rfl⟩;let r:=Q.yE.1;show mI (J9 rfl B.sorted rfl B.abs .A (by kernel_rfl)) λa h=>#[a,h,rfl]
def Ck(h:p∈P7):p=0\/(2<=p/\p<2^62):=by
 simp only[P7,đ,Ĕ,aej] at h;lia
abbrev acZ(P w K mg base):=aE P w K mg base 3 "class_at" ["k","p"] (bL K (λk p=>k≠0/\(p=0\/(2<=p/\p<2^62))) Á wo)
def zH(c:⇑acZ)(k:Int)(ps:.L)(a:k≠0)(e:ps=P7):⇑Body lM "classes_of" iB f 3 [.val Â k,.val Â ps] (RT Á (Iv k ps)):=by
 intro b A outer s H E d;subst e;show av (de (b':=Á) (f:=fk k) ["p"] [0] (bG (af iB) lM rfl rfl .d) (bz .B) (bf 0) (λC s H fp=>cE 0 ["p","k"]) aW (λj p hp C s H fp=>ax c d .B .A #[a,Ck (Į hp)]) .a) rfl
def OC(a:List rX):Prop:= ~~~a=7/\(∀cs∈a,~~~cs<=100)/\∀j,j<7->∀c∈a.getD j [],∃n:Int,n≠0/\c=fk n (Q.P7.getD j 0)
def CG(k:Int)(ps:.L)(a:List rX):List rX:=(ps.zip a).map λu=>u.2.map λc=>uG (fk k u.1) c u.1
def Ta{a:List rX}{u:Int×rX}(b: ~~~a=7)(h:(Q.P7.zip a)[i]?=À u):i<7/\u.1=Q.P7.getD i 0/\u.2=a.getD i []/\u.1∈P7/\u.2∈a:=by
 let hi:i<~~~(Q.P7.zip a):=(adU.mp h).1;rw[agC,b] at hi;let c:i<7:=by let: ~~~Q.P7=7:=rfl;lia
 let h1:P7[i]?=À u.1:=by let:=congrArg (Φ Prod.fst) h;rw[<-ł,List.map_fst_zip (by rw[b];decide)] at this;show this
 let h2:a[i]?=À u.2:=by let:=congrArg (Φ Υ) h;rw[<-ł,List.map_snd_zip (by rw[b];decide)] at this;show this
 show#[c,by rw[ĩ,h1];rfl,by rw[ĩ,h2];rfl,Į h1,Į h2]
def tU(I:⇑acZ)(L:⇑aE 1 "class_of_product" ["one","other","p"] (s_ K WY Á uG))(k:Int)(ps:.L)(b:List rX)(p:k≠0)(e:ps=P7)(J:OC b):⇑Body gm "wishes_without" eC f 3 [.val Â k,.val Â ps,.val Â b] (RT Á (CG k ps b)):=by
 intro G A outer s H E t;subst e;let⟨z,d,D⟩:=J;show QA 3 rX dF.nd ?_;show rJ (as:=Q.P7.zip b) (λi U=>∃g h m,U=[#v[k],#v[P7],#v[b],À (.own Á (((Q.P7.zip b).take i).map λu=>u.2.map λc=>uG (fk k u.1) c u.1)),g,h,m]) (FQ 4 5 dF.nd) (AW rfl B.zip .B .C) #[none,none,none,rfl] ?_ ?_
 .rintro i u U' q ⟨g,h,m,rfl⟩;let⟨hi,e1,e2,o,y⟩:=Ta z q;show aq 6 dF.nd (ax I t .A (aa (a:=u.1) 4) #[p,Ck o]) ?_;let r:=d _ y;show rF 3 (a:=u.2.map λc=>uG (fk k u.1) c u.1) rfl (de (b':=Á) (f:=λc=>uG (fk k u.1) c u.1) ["wish"] [6,4] (bG (af eC) gm rfl rfl .d) (bz (aa (a:=u.2) 5)) (bf 0) (λC s H fp=>cE 0 ["wish","own","p"]) aW (λj c l C s H fp=>?_) .b) ?_ ?_
  .let v:c∈u.2:=Į l;rw[e2] at v;let⟨n,F,x⟩:=D i hi c v;rw[<-e1] at x;show b8 L t .B .A .C #[o,k,n,p,F,rfl,x]
  .rw[ċ,ϟ];lia
  .show aK #[#v[u.1],#v[u.2],‹wo k u.1›,?_];rw[ae7,q,Option.toList_some,agf];rfl
 .rintro U' ⟨g,h,m,rfl⟩;show gR 3 rfl ?_;rw[Ζ];show av .D rfl
def M3(cl:rX)(a:List rX):Bool:=(cl.zip a).all λu=>Ua u.1 u.2
def Cv(cl:rX)(d:List rX):⇑Body uk "are_among" mU f kk [.val Â cl,.val Â d] (RT Á (M3 cl d)):=by
 intro m A outer s H E n;show rJ (as:=cl.zip d) (λi U=>(∀u∈(cl.zip d).take i,u.1∈u.2)/\∃h j,U=[#v[cl],#v[d],h,j]) (FQ 2 3 qM.nd) (AW rfl B.zip .A .B) #[(λu b=>by rw[aiu] at b;cases b),none,none,rfl] ?_ ?_
 .rintro i u U' b ⟨g,h,j,rfl⟩;show aO (aD (NL (a:=u.1) (as:=u.2) (c:=Ua u.1 u.2) (Im n) .a rK) .C .D) (λk=>?_) (λk=>?_)
  .let p:Ua u.1 u.2=Â:=by simpa using k
   let e:M3 cl d=Â:=by
    delta M3;rw[List.all_eq_false];show#[u,Į b,by rw[p];decide]
   rw[e];show av xj rfl
  .let o:u.1∈u.2:=rK.mp ↑k;show aK #[λx l=>?_,_,_,rfl];rw[ae7,b] at l;obtain w|w:=aen.mp l
   .show g x w
   .rwa[ad0.mp w]
 .rintro U' ⟨g,h,j,rfl⟩
  let e:M3 cl d=Á:=by
   delta M3;rw[afq];intro u b;rw[Ζ] at g;show rK.mpr (g u b)
  rw[e];show av xj rfl
def TR(a:List rX)(n:Int):Prop:=∃k q:Int,n=k*q/\k∈bN 6/\(q=1\/(aN q=Á/\17<=q/\q<=8089))/\∀j,j<7->fk n (Q.P7.getD j 0)∈a.getD j []
def UE{f:Int}{a:List rX}(d: ~~~a=7)(b:j<7):(CG f P7 a).getD j []=(a.getD j []).map λc=>uG (fk f (Q.P7.getD j 0)) c (Q.P7.getD j 0):=by
 let h1:P7[j]?=À (Q.P7.getD j 0):=by rw[ĩ,į (show j<~~~Q.P7 from b)];rfl
 let h2:a[j]?=À (a.getD j []):=by rw[ĩ,į (.b:j<~~~a)];rfl
 delta CG;rw[ĩ,ł,(afN (z:=(Q.P7.getD j 0,a.getD j []))).mpr #[h1,h2]];rfl
def LY{f k:Int}{b:List rX}(m: ~~~b=7)(r:OC b)(g:f≠0)(i:k≠0):M3 (Iv k P7) (CG f P7 b)=Á↔∀j,j<7->fk (k*f) (Q.P7.getD j 0)∈b.getD j []:=by
 let lw: ~~~(CG f P7 b)=7:=by delta CG;rw[ċ,agC,m];rfl
 let l:∀{j:Nat},j<7->Q.P7.getD j 0∈P7:=λ{j} a=>by rw[ĩ,į (show j<~~~Q.P7 from a)];show agv _
 let key:∀j,j<7->(fk k (Q.P7.getD j 0)∈(CG f P7 b).getD j []↔fk (k*f) (Q.P7.getD j 0)∈b.getD j []):=λj a=>by
  rw[UE m a,adX];constructor
  .rintro⟨c,o,e⟩;let⟨n,p,rfl⟩:=r.2.2 j a c o;rwa[(BG (l a) g i p).mp e.symm]
  .intro s;show#[_,s,?_];show((BG (l a) g i (ë i g)).mpr rfl).symm
 delta M3 Iv;rw[afq];constructor
 .intro h j a;rw[<-key j a]
  let h1:(Q.P7.map (fk k))[j]?=À (fk k (Q.P7.getD j 0)):=by
   rw[ł,į (show j<~~~Q.P7 from a),ĩ,į (show j<~~~Q.P7 from a)];rfl
  let h2:(CG f P7 b)[j]?=À ((CG f P7 b).getD j []):=by rw[ĩ,į .b];rfl
  let:=h (fk k (Q.P7.getD j 0),(CG f P7 b).getD j []) (Į ((afN (z:=(fk k (Q.P7.getD j 0),(CG f P7 b).getD j []))).mpr #[h1,h2]));show rK.mp this
 .intro h u q;let⟨j,a⟩:=agN.mp q;let hz:=(afN (z:=u)).mp a;let d:j<7:=by let:=(adU.mp hz.2).1;lia
  let e1:u.1=fk k (Q.P7.getD j 0):=by
   let:=hz.1;rw[ł,į (show j<~~~Q.P7 from d)] at this;rw[ĩ,į (show j<~~~Q.P7 from d)];show(ķ this).symm
  let e2:u.2=(CG f P7 b).getD j []:=by rw[ĩ,hz.2];rfl
  show rK.mpr ?_;rw[e1,e2,key j d];show h j d
def U8{b:List rX}(s:OC b)(d:∀j,j<7->b.getD j []≠[]):∃k q,k∈bN 6/\aN q=Á/\17<=q/\q<=8089/\∀j,j<7->fk (k*q) (Q.P7.getD j 0)∈b.getD j []:=by
 let ch:∀j,j<7->∃n:Int,n≠0/\fk n (Q.P7.getD j 0)∈b.getD j []:=λj a=>by
  let⟨c,f⟩:=List.exists_mem_of_ne_nil _ (d j a);let⟨n,e,rfl⟩:=s.2.2 j a c f;show#[n,e,f]
 let⟨e,B,C⟩:=ch 0 .a;let⟨o,D,b1⟩:=ch 1 .a;let⟨v,E,b2⟩:=ch 2 .a;let⟨l,A,b3⟩:=ch 3 .a;let⟨r,x,b4⟩:=ch 4 .a;let⟨p,y,b5⟩:=ch 5 .a;let⟨u,z,w⟩:=ch 6 .a
 let⟨k,q,k1,m,i,t,h⟩:=JL (ns:=[e,o,v,l,r,p,u]) rfl (λn g=>by
  simp only[đ,Ĕ,aej] at g
  obtain rfl|rfl|rfl|rfl|rfl|rfl|rfl:=g<;>assumption)
 show#[k,q,k1,m,i,t,λj a=>?_];rw[h j a];let:j=0\/j=1\/j=2\/j=3\/j=4\/j=5\/j=6:=.b
 obtain rfl|rfl|rfl|rfl|rfl|rfl|rfl:=this<;>assumption
abbrev ac3(P w K mg base):=aE P w K mg base 1 "are_among" ["classes","wishes"] (bL K (fun(_:rX) (_:List rX)=>True) Á M3)
abbrev ac2(P w K mg base):=aE P w K mg base 4 "wishes_without" ["k","places","wishes"] (s_ K (fun(k:Int) (ps:.L) (a:List rX)=>k≠0/\ps=P7/\OC a) Á CG)
abbrev ac1(P w K mg base):=aE P w K mg base 4 "classes_of" ["k","places"] (bL K (fun(k:Int) (ps:.L)=>k≠0/\ps=P7) Á Iv)
abbrev ac0(P w K mg base):=aE P w K mg base 1 "small_free_numbers" [] (Oc K Á (fun(a:.L)=>a.Perm (bN 6)))
def vD(σ:A7 K mg "SMALL_PLACES" [0,2,3,5,7,11,13])(Z:⇑acW)(V:⇑ac0)(G:⇑ac1)(Γ:⇑ac2)(I:⇑ac3)
  (ps:.L) (g:List rX) (e:ps=P7) (n:OC g) (x:∀j,j<7->g.getD j []≠[]):⇑Body i8 "number_among" fF f 4 [.val Â ps,.val Â g] (yc Á (TR g)):=by
 intro X A outer s H E r;subst e;let L:=n.1;let⟨k0,o,m,N,p2,p3,F⟩:=U8 n x;let y:=yE;show jJ 2 bW.nd (K8 V r) ?_;intro b hp;let ml: ~~~b=128:=by rw[hp.length_eq];show y.1
 let α:∀k∈b,k≠0/\-30030<=k/\k<=30030:=λk c=>by
  let:=y.2 k (hp.mem_iff.mp c);show#[this.1,this.2.1,this.2.2.1]
 show Mr 4 bW.nd (b':=Á) (f:=λk=>Iv k P7) ["k"] [0] (bG (af fF) i8 rfl rfl .d) (bz .C) (bf 0) (λC s H fp=>cE 0 ["k","places"]) aW (λj k c C s H fp=>ax G r .A .B #[(α k (Į c)).1,rfl]) .b ?_;show aq 5 bW.nd ae ?_
 let D:pf (13+1)=17:=by
  let h1:=rM (k:=14) (p:=17) (vG 17 .a) .a .a .a .a;let h2:=AY (k:=14) .a .a;let S:=qf (k:=14) .a
  let:pf 14≠15:=λz=>by
   rw[z] at S;let:=(iJ S (d:=3) .a .a);lia
  change pf 14=17;lia
 let W:PB=1070000011:=rfl
 let T:o%2=1:=by
  obtain z|z:=Q.cQ.mp N
  .lia
  .show z.2.1
 show cD (ι:=Int) (λq U=>∃h R l,U=[#v[P7],#v[g],‹b›,h,‹b.map λk=>Iv k P7›,‹q›,R,l]/\(q=1\/(aN q=Á/\17<=q))/\q<=o) (λq=>↥(o-q)) 1 #[none,none,none,rfl,.inl rfl,.b] ?_;rintro q U' ⟨h,R,l,rfl,J,hle⟩;let q1:1<=q:=.b
 show#[Á,fQ xj,λ_=>?_,λz=>nomatch z];show aq 6 bW.nd (b8 Γ r (aa 5) .A .B #[.b,rfl,n]) ?_;show rJ (as:=b.zip (b.map λk=>Iv k P7)) (λi U=>(∀k∈b.take i,M3 (Iv k P7) (CG q P7 g)=Â)/\∃h l,U=[#v[P7],#v[g],‹b›,h,‹b.map λk=>Iv k P7›,‹q›,‹CG q P7 g›,l]) (FQ 3 7 bW.nd) (AW rfl B.zip .C (aa 4)) #[(λk c=>by rw[aiu] at c;cases c),h,l,rfl] ?_ ?_
 .rintro i u U' hu ⟨v,h,l,rfl⟩;let hz:=(afN (z:=u)).mp hu;let mk:=Į hz.1;let⟨k1,k2,k3⟩:=α _ mk
  let e2:u.2=Iv u.1 P7:=by
   let:=hz.2;rw[ł,hz.1] at this;show(ķ this).symm
  show aO (fQ (ax I r (aa (a:=u.2) 7) (aa 6) Ê)) (λt=>?_) (λt=>?_)
  .rw[e2] at t;let hj:=(LY L n (.b:q≠0) k1).mp t;show av (aF (aa (a:=u.1) 3) (aa 5) ((by unfold Sm;lia:Sm 15 u.1).ok (by unfold Sm;lia:Sm 13 q))) #[u.1*q,#[u.1,q,rfl,hp.mem_iff.mp mk,?_,hj],rfl];obtain z|z:=J
   .show .inl z
   .show .inr #[z.1,z.2,.b]
  .show aK #[λk c=>?_,_,_,rfl];rw[ae7,hz.1] at c;obtain w|w:=aen.mp c
   .show v k w
   .rw[ad0.mp w,<-e2];show t
 .rintro U' ⟨v,h,l,rfl⟩;let lz: ~~~(b.zip (b.map λk=>Iv k P7))= ~~~b:=by rw[agC,ċ,Nat.min_self]
  rw[lz,Ζ] at v
  let O:q≠o:=λz=>by
   let:=v k0 (hp.mem_iff.mpr m);rw[z,(LY L n (.b:o≠0) (y.2 k0 m).1).mpr F] at this;cases this
  show aq 5 bW.nd (aB Z r (VF rfl rfl B.max (aa 5) (vQ (a:=13) (zh rfl σ) ae rfl)) #[by split<;>lia,by split<;>lia]) ?_;obtain z|⟨z1,z2⟩:=J
  .let e:(if (13:Int)>q then (13:Int) else q)=13:=adI .b;rw[e,D];show aK #[17,#[_,_,_,rfl,.inr #[vG 17 .a,.a],p2],.b]
  .let e:(if (13:Int)>q then (13:Int) else q)=q:=adF .b;rw[e];let h1:=rM (k:=q+1) N .b T .b .b;let h2:=AY (k:=q+1) .b .b;show aK #[_,#[_,_,_,rfl,.inr #[qf .b,.b],h1],.b]
def Km(hp:p∈P7)(e:p≠0)(h2:p≠2):NR p/\Sm 4 p/\Sm 4 (p6 p):=by
 let⟨_,pp,_⟩:=(fU hp).resolve_left e;let a:=wH pp h2;let⟨g,b,h,d⟩:=Qo pp h2;let⟨f,i,c⟩:=vH a;let:¬g<p6 p:=λz=>c g b z d;simp only[P7,đ,Ĕ,aej] at hp;show#[a,?_,?_]
 .unfold Sm;lia
 .unfold Sm;lia
def AS(j:A7 K mg "AT_NOUGHT" [1,-1])(c:A7 K mg "AT_TWO" [1,3,5,7,2,6,10,14])(k:⇑acJ)(p:Int)(hp:p∈P7):⇑Body qr "samples_at" lH f 3 [.val Â p] (RT Á (ko p)):=by
 intro i A outer s H E g;delta ko;show aO (aD aG .A ae) (λa=>?_) (λa=>?_)
 .rw[adI (aer a)];show av (zy rfl B.list (zh rfl j)) rfl
 let d:p≠0:=aeC a;rw[adF d];show aO (aD aG .A ae) (λa=>?_) (λa=>?_)
 .rw[adI (aer a)];show av (zy rfl B.list (zh rfl c)) rfl
 let h2:p≠2:=aeC a;rw[adF h2];let⟨h,e,l⟩:=Km hp d h2;let:=(Ck hp).resolve_left d;show aq 1 oZ.nd (aB k g .A #[h,this]) ?_;show av (cw (as:=[1,p6 p,p,p*p6 p]) (b:=Á) (az ae (az .B (az (dY (b':=Á) .A) (az (aF .A .B (e.ok l)) a_)))) (by change 4<=1000;decide)) rfl
structure Xg(one other:.L)(p:Int):Prop where
 l1: ~~~one<=8
 l2: ~~~other<=8
 o1:∀a∈one,a≠0/\Sm 62 a
 o2:∀a∈other,a≠0/\Sm 62 a
 p7:p∈P7
def Iw(one other:.L)(p:Int):rX:=((ko p).filter λk=>dk (one++[-k]) p&&dk (other++[k]) p).map λk=>wo k p
def Bt(a b c d p:Int):Iw [a,b] [c,d] p=Qi a b c d p:=rfl
def Pm{k:Int}(hp:p∈P7)(a:k∈ko p):Sm 62 k/\Sm 62 (-k):=by
 let key:Sm 20 k:=by
  by_cases b:p=0
  .subst b;delta ko at a;rw[adI rfl] at a;simp only[đ,Ĕ,aej] at a;unfold Sm;lia
  by_cases h2:p=2
  .subst h2;delta ko at a;rw[adF .a,adI rfl] at a;simp only[đ,Ĕ,aej] at a;unfold Sm;lia
  let⟨_,d,c⟩:=Km hp b h2;delta ko at a;rw[adF b,adF h2] at a;simp only[đ,Ĕ,aej] at a;obtain rfl|rfl|rfl|rfl:=a
  .change(1:Int).natAbs<2^20;decide
  .show c.le .a
  .show d.le .a
  .show(d.mul c).le .a
 show#[key.le .a,by let:Sm 62 k:=key.le .a;unfold Sm at *;lia]
def sS(m:⇑acZ)(d:⇑aE 4 "samples_at" ["p"] (bU K (fun(p:Int)=>p∈P7) Á ko))(e:⇑aE 7 "have_zero" ["numbers","p"] (bL K T2 Á dk))(one other:.L)(p:Int)(hp:Xg one other p):
  Body P w K mg base gf "shared_classes" eH f 7 [.val Â one,.val Â other,.val Â p] (RT Á (Iw one other p)):=by
 intro j A outer s H E c;let b:=hp.p7
 let ok:∀{l:.L} {k:Int},(∀a∈l,a≠0/\Sm 62 a)->k≠0->Sm 62 k->T2 (l++[k]) p:=λ{l k} n h g=>#[by rw[Ř];show Nat.le_add_left _ _,λa ha=>by
  obtain ha|ha:=aen.mp ha
  .show n a ha
  .rw[ad0.mp ha];show#[h,g],Ck b]
 show av (lQ (f:=λk:Int=>wo k p) (p:=λk=>dk (one++[-k]) p&&dk (other++[k]) p) (b':=Á) ["k"] [0,1,2] (bG (af eH) gf rfl rfl .d) (bz (aB d c .C b)) (bf 0) (λC s H fp=>cE 0 ["k","one","other","p"]) aW (λi k hi C s H fp=>pT (TW.t (jG (fQ (ax e c (jX .B (cw (az (bV .A) a_) .c) ?_) .D ?_)) λ_=>(kW (fQ (ax e c (jX .C (cw (az .A a_) .c) ?_) .D ?_)))))) (λi k hi _ C s H fp=>ax m c .A .D #[yM b k (Į hi),Ck b]) (by let:=Mx p;lia)) rfl
 .let:=hp.l1;rw[agK];lia
 .let:=yM b k (Į hi);show ok hp.o1 .b (Pm b (Į hi)).2
 .let:=hp.l2;rw[agK];lia
 .show ok hp.o2 (yM b k (Į hi)) (Pm b (Į hi)).1
structure Wh(one other:.L):Prop where
 l1: ~~~one<=8
 l2: ~~~other<=8
 o1:∀a∈one,a≠0/\Sm 62 a
 o2:∀a∈other,a≠0/\Sm 62 a
 po:DO (one++other)
 pl: ~~~(kR (one++other))<=50
 p7:∀q∈kR (one++other),q∈P7
 ne:∀p∈P7,Iw one other p≠[]
def C7{M:Type}(g:Int->List M)(h:j<7):(P7.map g).getD j []=g (P7.getD j 0):=by
 rw[ĩ,ł,ĩ,į (show j<~~~P7 from h)];rfl
def Qe(a:j<7):P7.getD j 0∈P7:=by
 rw[ĩ,į (show j<~~~P7 from a)];show agv _
def VQ(one other:.L):OC (P7.map λp=>Iw one other p):=by
 show#[rfl,λcs a=>?_,λj d c b=>?_]
 .let⟨p,_,rfl⟩:=adX.mp a;delta Iw;rw[ċ];show Ń (age ..) (Ń (Mx p) .a)
 .rw[C7 _ d] at b;delta Iw at b;let⟨k,e,rfl⟩:=adX.mp b;show#[k,yM (Qe d) k (aeJ.mp e).1,rfl]
def HJ(o:A7 K mg "SMALL_PLACES" [0,2,3,5,7,11,13])(h:⇑acS)(g:⇑aE 8 "shared_classes" ["one","other","p"] (s_ K Xg Á Iw))(q:⇑aE 5 "number_among" ["places","wishes"] (uz K (fun(ps:.L) (c:List rX)=>ps=P7/\OC c/\∀j,j<7->c.getD j []≠[]) Á (λ_ c (n:Int)=>TR c n)))(one other:.L)(hp:Wh one other):
  Body P w K mg base se "meeting" ou f 8 [.val Â one,.val Â other] (yc Á (TR (P7.map λp=>Iw one other p))):=by
 intro m A outer s H E d;let l:=hp.l1;let r:=hp.l2;let pl:=hp.pl
 let b:sset ([0,2,3,5,7,11,13]++kR (one++other))=P7:=wU (iP _) .a λa=>by
  rw[gT,aen];show#[λz=>z.elim id (hp.p7 a),.inl]
 show aq 2 wL.nd (jk (a':=P7) (yZ rfl rfl B.sorted rfl B.set (jX (zy rfl B.list (zh rfl o)) (aB h d (jX .A .B .b) hp.po) (by change 7+_<=1000;lia)) (by rw[Ř];change 7+_<64;lia)) b) ?_;show mI (j_ q d .C (de (b':=Á) (f:=λp=>Iw one other p) ["p"] [0,1] (bG (af ou) se rfl rfl .d) (bz .C) (bf 0) (λC s H fp=>cE 0 ["p","one","other"]) aW (λi p hi C s H fp=>b8 g d .B .C .A #[l,r,hp.o1,hp.o2,Į hi]) .a) #[rfl,VQ one other,λj e=>by rw[C7 _ e];show hp.ne _ (Qe e)]) λt k=>#[_,k,rfl]
def lf:.L->Int->Int
 |[],x=>x
 |p::ps,x=>lf ps (a7 x p).2
theorem EY(p:Int):∀(ps:.L) (x:Int),lf (ps++[p]) x=(a7 (lf ps x) p).2:=zrL (λx=>rfl) λq ps EY x=>EY _
def N4{ps:.L}(h:ps[i]?=À p):lf (ps.take (i+1)) x=(a7 (lf (ps.take i) x) p).2:=by
 rw[ae7,h];show EY p _ x
def Nk{k:Int}(a:2<=d)(e:0<k):0<(a7 k d).2/\(a7 k d).2<=k:=by
 let⟨h1,h2,c⟩:=fM a (.b:k≠0);let hp:.N<d^↥(a7 k d).1:=Ş .b;generalize (a7 k d).2=l at *;generalize d^↥(a7 k d).1=t at *
 let b:0<l:=by
  apply ğ;intro f;let:l*t<=0:=aeT .b .b;lia
 let:l*1<=l*t:=Ł .b .b;lia
theorem zv:∀(ps:.L) (x:Int),(∀p,p∈ps->2<=p)->0<x->0<lf ps x/\lf ps x<=x:=zrL (λx _ h=>#[h,Ņ x]) λp ps zv x hp h=>by
  let a:=Nk (hp p (ġ ..)) h;let b:=zv (a7 x p).2 (λq c=>hp q (ę _ c)) a.1;show#[b.1,ah8 b.2 a.2]
def SP:.L:=[2,3,5,7,11,13]
def wQ(k:Int):Bool:=sC k&&decide (rt (lf SP k.natAbs)*rt (lf SP k.natAbs)=lf SP k.natAbs)
def Lc:∀p,p∈SP->2<=p:=.a
def Ka:∀p,p∈SP->2<=p/\p<100:=.a
def PJ{k:Int}(h:sC k=Á)(i:Nat):0<lf (SP.take i) k.natAbs/\lf (SP.take i) k.natAbs<1073741824:=by
 unfold sC at h;let h':k≠0/\k.natAbs<1073741824:=by simpa using h
 let:=zv (SP.take i) (k.natAbs:Int) (λp hp=>Lc p (afs hp)) .b;lia
def CU(k:A7 K mg "SMALL_PLACES" [0,2,3,5,7,11,13])(d:⇑acO)(g:⇑acC)
  (l:⇑acE) (x:Int):⇑Body vF "is_small" pR f 2 [.val Â x] (RT Á (wQ x)):=by
 intro j A outer s H E b;let ab:∀i:Int,(if i<0 then -i else i)=(i.natAbs:Int):=λi=>by split<;>omega
 show aO (kD (fQ (aB d b .A Ê))) (λc=>?_) (λc=>?_)
 .let e:wQ x=Â:=by
   delta wQ;rw[(by simpa using c:sC x=Â)];rfl
  rw[e];show av xj rfl
 let hi:sC x=Á:=by simpa using c
 show aq 1 ju.nd (iY rfl B.abs .A) ?_;rw[ab];show rJ (as:=SP) (λi U=>∃r,U=[#v[x],‹lf (SP.take i) x.natAbs›,r]) (b9 2 ju.nd) (Mh (Fj (zh rfl k) ae .a .a)) #[none,rfl] ?_ ?_
 .rintro i a U' ha ⟨r,rfl⟩;let hz:=PJ hi i;let hp:=Ka a (Į ha);show aq 1 ju.nd (aY (ax g b .B .C #[.f,hp.1,Sm.le (m:=62) (by unfold Sm;omega) .a])) ?_;show aK ?_;dsimp only;rw[N4 ha];show#[_,rfl]
 .rintro U' ⟨r,rfl⟩;let hz:=PJ hi 6;show av (XU (aB l b .B (Sm.le (m:=62) (by unfold Sm;change(lf (SP.take 6) x.natAbs).natAbs<_;omega) .a)) λ_ _ _ _ h=>nomatch h) ?_;change Bd.val _ _=Bd.val _ _;congr 1;delta wQ;rw[hi,agh];change(!(Ba (lf SP x.natAbs)).isNone)=_;let n:0<lf SP x.natAbs:=hz.1;delta Ba;rw[adF .f];split
  .rename_i h;rw[adZ h];rfl
  .rename_i h;rw[aec h];rfl
def EG:∀{r:.L} {i:Nat} {k:Int},r[i]?=À k->cf (r.take (i+1))=cf (r.take i)*k:=λ{r i k} h=>by
 rw[ae7,h,EM];change _*(k*1)=_;rw[Đ]
theorem L7{r:.L}(h:∀x∈r,Sm 62 x):∀i,Sm (1+62*i) (cf (r.take i)):=zrN (by change(1:Int).natAbs<2^1;decide) λi L7=>by
  cases a:r[i]? with
  |none =>
   let:r.take (i+1)=r.take i:=by rw[ae7,a];simp
   rw[this];show(L7).le .b
  |some k =>
   rw[EG a];show((L7).mul (h k (Į a))).le .b
def tD(r:.L)(g: ~~~r<=8)(h:∀x∈r,Sm 62 x):⇑Body kd "product_of_all" gg f kk [.val Â r] (RT Á (cf r)):=by
 intro e A outer s H E j;show aq 1 dM.nd ae ?_;show jP (b:=Â) (λi U=>i<= ~~~r/\∃a,U=[#v[r],‹cf (r.take i)›,a]) (b9 2 dM.nd) .A #[ş _,none,rfl] ?_ ?_
 .rintro i k U' d ⟨hi,a,rfl⟩;let c:i<~~~r:=(adU.mp d).1;let sm:=(L7 h i).le (.b:1+62*i<=600);show aq 1 dM.nd (aF .B .C (sm.ok (h k (Į d)))) ?_;rw[EG d];show aK #[c,_,rfl]
 .rintro U' ⟨_,a,rfl⟩;rw[Ζ];show av .B rfl
def Wm(n d:Int)(o:Bool)(p:Int):Bool:=eZ p ↥n d o
def Xa(n d:Int)(_:Bool)(p:Int):Prop:=0<=n/\d≠0/\2<=p/\p<2^62
def yh(g:⇑acU)(e:⇑acR)(n d:Int)(o:Bool)(p:Int)(h:Xa n d o p):⇑Body oY "has_pair_at" jO f 4 [.val Â n,.val Â d,.val Â o,.val Â p] (RT Á (Wm n d o p)):=by
 intro j A outer s H E b;let⟨k,i,p2,c⟩:=h;delta Wm eZ;show aO (aD kO .A ae) (λa=>?_) (λa=>?_)
 .let:=aer a;rw[adI .b];show av xj rfl
 let l:=aeC a;rw[adF .b];show aO (aD aG .A ae) (λa=>?_) (λa=>?_)
 .let:=aer a;rw[adI .b];show av (ax g b (bV .B) .D #[.b,p2,c]) rfl
 let m:=aeC a;rw[adF .b];show aO (aD aG .A ae) (λa=>?_) (λa=>?_)
 .let:=aer a;rw[adI .b];show av (jw (J6 (M:=Bool) (Im b)) .C (b8 e b (bV ae) (bV .B) .D #[.a,.b,.inr #[p2,c]])) ?_;change Bd.val _ _=Bd.val _ _;congr 1
 let r:=aeC a;rw[adF .b];show aO (aD aG .A ae) (λa=>?_) (λa=>?_)
 .let:=aer a;rw[adI .b];show av (Rv (yX (ax g b .B .D #[i,p2,c])) λ_=>(t9 (jw (J6 (M:=Bool) (Im b)) .C (b8 e b (bV ae) (bV ae) .D #[.a,.a,.inr #[p2,c]])))) ?_;change Bd.val _ _=Bd.val _ _;congr 1
 let q:=aeC a;rw[adF .b];show av xj rfl
def Ot(row:.L)(p:Int):Int:=(uK p row:Int)
def XG(row:.L)(p:Int):Prop:=a8 row=Á/\2<=p/\p<2^62
def tI(l:⇑acT)(t:⇑acR)(q:⇑aE 1 "product_of_all" ["row"] (bU K (fun(r:.L)=>~~~r<=8/\∀x∈r,Sm 62 x) Á cf))(z:⇑aE 5 "has_pair_at" ["size","number","odd","p"] (Gn K Xa Á Wm))(row:.L)(p:Int)(h:XG row p):⇑Body kg "pairs_at_prime" gh f 5 [.val Â row,.val Â p] (RT Á (Ot row p)):=by
 intro y A outer s H E b;let⟨j,p2,g⟩:=h;let v:=cJ j;let nz:∀x∈row,x≠0:=λx i=>(bC j i).1;show aq 2 bc.nd (bh rfl B.len .A) ?_;show aq 3 bc.nd (aB q b .A #[v.2,λx i=>(KU j x i).2]) ?_;show aq 4 bc.nd (ax l b .A .B #[.b,nz,.inr #[p2,g]]) ?_;show aq 5 bc.nd ae ?_;show cD (ι:=Nat×Int×Bool×Nat) (λu U=>U=[#v[row],#v[p],À (.val Á (u.1:Int)),‹u.2.1›,‹u.2.2.1›,À (.val Á (u.2.2.2:Int))]/\u.2.1≠0/\u.2.2.2+tx p u.1 u.2.1 u.2.2.1=uK p row) (λu=>u.1) (~~~row,cf row,!qv p row,0) #[rfl,gu nz,by change 0+uK p row=uK p row;lia] ?_;rintro⟨n,d,o,m⟩ U' ⟨rfl,c,he⟩;let c:d≠0:=c;let he:m+tx p n d o=uK p row:=he;show#[_,fQ (qA z b .C .D (aa 4) .B #[.e,c,p2,g]),λe=>?_,λe=>?_]
 .let a:eZ p n d o=Á:=by
   let:eZ p ↥(n:Int) d o=Á:=e
   rwa [Ó] at this
  let D:2<=n:=by
   apply ğ;intro C;delta eZ at a;rw[adI .b] at a;cases a
  obtain⟨k,rfl⟩:∃k,n=k+2:=#[n-2,.b];rw[zo a] at he;show aq 2 bc.nd (jk (a':=(k:Int)) (ig .C ae) .e) ?_;show aq 3 bc.nd (bV .D) ?_;show aq 4 bc.nd (jk (a':=(o==ak (-1) (-d) p)) (jw (Pu (M:=Bool) (Im b)) (aa 4) (b8 t b (bV ae) .D .B #[.a,.e,.inr #[p2,g]])) (by dsimp only;cases o<;>cases ak (-1) (-d) p<;>rfl)) ?_;show aq 5 bc.nd (jk (a':=((m+1:Nat):Int)) (bH (aa 5) ae) .e) ?_;show aK #[(k,-d,(o==ak (-1) (-d) p),m+1),#[rfl,.e,.e],.e]
 .let a:eZ p n d o=Â:=by
   let:eZ p ↥(n:Int) d o=Â:=e
   rwa [Ó] at this
  rw[EZ a] at he;delta Ot;rw[<-he];show av (aa 5) rfl
def MM(row:.L):Int:=((min (pS row) (~~~row-pS row):Nat):Int)
def rD(row:.L)(h: ~~~row<=8):⇑Body fH "pairs_at_nought" dN f kk [.val Â row] (RT Á (MM row)):=by
 intro a A outer s H E b;let ha:=C3 row;show aq 1 iZ.nd (jk (a':=(pS row:Int)) (bh rfl B.len (lQ (f:=λq:Int=>q) (p:=λq=>decide (0<q)) (b':=Á) ["k"] [] (bG (af dN) fH rfl rfl .d) (bz .A) (bf 0) (λC s H fp=>cE 0 ["k"]) aW (λi q hi C s H fp=>pT (aD fZ .A ae)) (λi q hi hp C s H fp=>dY .A) .b)) (by rw[ċ];rfl)) ?_;show av (MK rfl rfl B.min .B (ig (bh rfl B.len .A) .B)) ?_;change Bd.val _ _=Bd.val _ _;delta MM;congr 1;split<;>lia
def LM(row:.L):.L:=MM row::(kR row).map (Ot row)
def Az(row:.L):Int:=Ir (LM row)
structure Ws(l:.L):Prop where
 row:a8 l=Á
 po:DO l
abbrev ac4(P w K mg base):=aE P w K mg base 1 "pairs_at_nought" ["row"] (bU K (fun(r:.L)=>~~~r<=8) Á MM)
def sP(YL:⇑acQ)(b:⇑acS)(d:⇑aE 6 "pairs_at_prime" ["row","p"] (bL K XG Á Ot))(e:⇑ac4)(row:.L)(h:Ws row):⇑Body gB "how_many_pairs" eA f 6 [.val Â row] (RT Á (Az row)):=by
 intro c A outer s H E a;let g:=cJ h.row;let hpl:=Co h.po;let⟨j,k⟩:=z_ (LM row) (by delta LM;simp);show jK (aB YL a .A h.row) ?_;show av (IT rfl rfl B.min (Bj (xs:=[MM row]) (ys:=(kR row).map (Ot row)) (cw (az (aB e a .A g.2) a_) (by change 1<=1000;decide)) (de (b':=Á) (f:=Ot row) ["p"] [0] (bG (af eA) gB rfl rfl .d) (bz (aB b a .A h.po)) (bf 0) (λC s H fp=>cE 0 ["p","row"]) aW (λi q hi C s H fp=>ax d a .B .A #[h.row,yC h.row (Į hi)]) .b) (by rw[ċ,agK];lia)) .c j k) rfl
def y_{row:.L}(h:a8 row=Á):∃m,Az row=((m:Nat):Int)/\HM row m:=by
 let j:=cJ h;let nz:∀x∈row,x≠0:=λx k=>(bC h k).1;let⟨g,i⟩:=z_ (LM row) (by delta LM;simp);let f:uD 0 row=min (pS row) (~~~row-pS row):=by delta uD;rw[adI rfl]
 let mp:∀q:Int,q∈kR row↔q=2\/(aN q=Á/\∃a∈row,q∣a):=λq=>BZ nz;let l:Az row<=MM row:=i _ (by delta LM;show ġ ..);let hp:∀q∈kR row,Az row<=(uK q row:Int):=λq b=>i _ (by delta LM;show ę _ (adX.mpr #[q,b,rfl]))
 let nn:0<=Az row:=by
  let:Az row∈LM row:=g;delta LM at this;obtain e|e:=đ.mp this
  .rw[e];delta MM;lia
  .let⟨q,_,e⟩:=adX.mp e;rw[<-e];delta Ot;lia
 show#[↥(Az row),.b,Vp nz j.1 ?_ (λp c d=>?_) ?_]
 .rw[f];delta MM at l;lia
 .let:p∈kR row:=(mp p).mpr (by
   obtain e|e:=d
   .show .inl e
   .show .inr #[c,e])
  let:=hp p this;lia
 .let:Az row∈LM row:=g;delta LM at this;obtain e|e:=đ.mp this
  .show .inl (by rw[f,e];delta MM;lia)
  .let⟨q,b,e⟩:=adX.mp e;show .inr #[q,?_,by rw[<-e];delta Ot;lia];rcases(mp q).mp b with z|z
   .rw[z];show bA
   .show z.1
open Q (Fr)
noncomputable def zQ(l z:.L):Nat->Int
 |0=>0
 |i+1=>zQ l z i+l.getD i 0*(z.getD i 0*z.getD i 0)
def Mc{p:Int->Bool}(h:∃x∈l,p x=Á):∃i:Nat,i<~~~l/\p (l.getD i 0)=Á/\rV (((Ho l).filter λu=>p u.2).map (·.1)) 0=À (i:Int):=by
 let⟨x,g,px⟩:=h;let⟨j,b⟩:=agN.mp g;let k:=(adU.mp b).1;let e:((j:Int),x)∈(Ho l).filter λu=>p u.2:=aeJ.mpr #[Į (i:=j) (by delta Ho;rw[Ω,b];rfl),px];cases a:(Ho l).filter λu=>p u.2 with
 |nil=>rw[a] at e;cases e
 |cons u us =>
  let f:u∈(Ho l).filter λu=>p u.2:=by rw[a];show ġ ..
  let⟨h1,h2⟩:=aeJ.mp f;let⟨i,hi⟩:=agN.mp h1;let⟨c,m⟩:=AO hi;show#[i,(adU.mp c).1,by rwa[ĩ,c],?_];rw[ů,m,si (d:=.N) .a (by rw[Œ];lia)];rfl
def WD(l:.L)(i:Int):Prop:=∃n:Nat,i=(n:Int)/\n<~~~l/\l.getD n 0≠0
def x_(l:.L)(e: ~~~l<=100)(h:∃x∈l,x≠0):⇑Body jT "first_place" gI f kk [.val Â l] (yc Á (WD l)):=by
 intro c A outer s H E g;let⟨i,hi,pi,d⟩:=Mc (l:=l) (p:=λk=>!decide (k=0)) (by let⟨x,h1,h2⟩:=h;show#[x,h1,↑h2]);show mI (post:=WD l) (F4 (a:=(i:Int)) (aQ (lQ (as:=Ho l) (f:=λu:Int×Int=>u.1) (p:=λu:Int×Int=>!decide (u.2=0)) (b':=Á) ["i","k"] [] (bG (af gI) jT rfl rfl .d) (EW rfl B.enumerate .A) (Ey 0 1) (λC s H fp=>JO 0 1 ["i","k"]) yp (λa u b C s H fp=>pT (aD cH .B ae)) (λa u b _ C s H fp=>dY (b':=Á) .A) (by rw[zE];lia)) ae d) #[i,rfl,hi,↑pi]) λz hz=>#[_,hz,rfl]
def Gk(u v:Fr):Prop:=(u.2≠0/\v.2≠0)/\Sm 20000 u.1/\Sm 9000 u.2/\Sm 20000 v.1/\Sm 9000 v.2/\Sm 9000 (u.2*v.2)
def OX(b:⇑acF)(u v:Fr)(h:Gk u v):⇑Body E9 "times" Ao f 2 [.val Â u,.val Â v] (RT Á (bZ u v)):=by
 intro d A outer s H E c;let⟨⟨h1,h2⟩,e,a,i,g,j⟩:=h;show av (ax b c (aF (aX .A) (aX .B) (e.ok i)) (aF (aY .A) (aY .B) (a.ok g)) #[ë h1 h2,j]) rfl
def Q2(c:⇑acF)(u v:Fr)(h:Gk u v):⇑Body J4 "plus" DQ f 2 [.val Â u,.val Â v] (RT Á (uJ u v)):=by
 intro e A outer s H E d;let⟨⟨h1,h2⟩,g,a,i,b,j⟩:=h;show av (ax c d (bH (aF (aX .A) (aY .B) (g.ok b)) (aF (aX .B) (aY .A) (i.ok a))) (aF (aY .A) (aY .B) (a.ok b)) #[ë h1 h2,j]) rfl
noncomputable def TB(l:.L)(vs:List Fr):Nat->Int×Int
 |0=>(0,1)
 |k+1=>((TB l vs k).1*(vs.getD k (0,1)).2*(vs.getD k (0,1)).2+l.getD k 0*(vs.getD k (0,1)).1*(vs.getD k (0,1)).1*(TB l vs k).2,(TB l vs k).2*(vs.getD k (0,1)).2*(vs.getD k (0,1)).2)
structure VL(m:Nat)(l:.L)(c:Int)(vs:List Fr):Prop where
 len: ~~~vs= ~~~l
 low:∀u∈vs,1<=u.2/\È u.1 u.2=1
 sm:∀u∈vs,Sm (m+40) u.1/\Sm (m+40) u.2
 eq:(TB l vs (~~~l)).1=c*(TB l vs (~~~l)).2
 cb:∃q:Int,1<=q/\Sm (m+40) q/\∀u∈vs,∃n,Sm (m+40) n/\u.1*q=n*u.2
def NQ{s:Int}(h:x*d=y*b)(a:p*(d*d)=q*s):(p*b*b+e*x*x*q)*(d*d)=q*b*b*(s+e*(y*y)):=by
 let h2:(x*d)*(x*d)=(y*b)*(y*b):=by rw[h]
 let:(p*b*b+e*x*x*q)*(d*d)=(p*(d*d))*(b*b)+e*q*((x*d)*(x*d)):=by grind
 rw[this,a,h2];grind
theorem IM{l y:.L}{vs:List Fr}{d:Int}{n:Nat}(h:∀k,k<n->(vs.getD k (0,1)).1*d=y.getD k 0*(vs.getD k (0,1)).2):∀k,k<=n->(TB l vs k).1*(d*d)=(TB l vs k).2*zQ l y k:=zrN (λ_=>by change 0*(d*d)=1*0;rw[ahA,Ū]) λk IM a=>NQ (h k .b) (IM .b)
theorem Mv{l m z:.L}:∀k,k<= ~~~l->zQ (l++m) z k=zQ l z k:=zrN (λ_=>rfl) λk Mv h=>by
  change zQ (l++m) z k+(l++m).getD k 0*_=zQ l z k+l.getD k 0*_;let e:(l++m).getD k 0=l.getD k 0:=by rw[ĩ,afg .b,<-ĩ]
  rw[Mv .b,e]
theorem Pf{l z y:.L}{t b:Int}{h:Nat}(a:∀k,y.getD k 0=t*z.getD k 0+if k=h then b else 0):∀k,zQ l y k=t*t*zQ l z k+if h<k then l.getD h 0*(2*t*z.getD h 0*b+b*b) else 0:=zrN (by rw[adF .b];change .N=t*t*0+0;lia) λk Pf=>by
  change zQ l y k+l.getD k 0*(y.getD k 0*y.getD k 0)=t*t*(zQ l z k+l.getD k 0*(z.getD k 0*z.getD k 0))+_;rw[Pf,a k];by_cases e:k=h
  .subst e;rw[adI rfl,adF .b,adI .b];grind
  .rw[adF e];by_cases g:h<k
   .rw[adI g,adI .b];grind
   .rw[adF g,adF .b];grind
structure Pc(m:Nat)(l:.L)(c:Int)(z:.L):Prop where
 m7:m<=7500
 l1:1<= ~~~l
 l8: ~~~l<=8
 nz:∀a∈l,a≠0/\Sm 31 a
 cs:Sm 31 c
 len: ~~~z= ~~~l+1
 one:nP z=1
 eq:zQ (l++[-c]) z (~~~l+1)=0
 zs:∀x∈z,Sm m x
def Pc.sum(h:Pc m l c z):zQ l z (~~~l)=c*(z.getD (~~~l) 0*z.getD (~~~l) 0):=by
 let e:zQ (l++[-c]) z (~~~l)+(l++[-c]).getD (~~~l) 0*(z.getD (~~~l) 0*z.getD (~~~l) 0)=0:=h.eq;rw[Mv _ (Ā _),ĩ,ae_ (Ā _),Nat.sub_self] at e;let:zQ l z (~~~l)+-c*(z.getD (~~~l) 0*z.getD (~~~l) 0)=0:=e;rw[Int.neg_mul] at this;lia
def AR{k:Nat}{g:Int->Fr}(a:k<n)(hz:n<= ~~~z):((z.take n).map g).getD k (0,1)=g (z.getD k 0):=by
 rw[ĩ,ł,ag4 a,ĩ,į .b];rfl
def FJ{t:Int}(a:b≠0)(d:Sm n t)(c:Sm m b):Sm n (fr t b).1/\Sm m (fr t b).2:=#[Sm.of_le (rS a) d,Sm.of_le (uY a) c]
def QG(h:Pc m l c z)(f:z.getD (~~~l) 0≠0):VL m l c ((z.take (~~~l)).map λx=>fr x (z.getD (~~~l) 0)):=by
 let q:=h.len;let i:z.getD (~~~l) 0∈z:=Q.getD_mem (d:=0) .b;let j:((z.take (~~~l)).map λx=>fr x (z.getD (~~~l) 0)).length= ~~~l:=by rw[ċ,ϟ];lia
 show#[j,λu e=>?_,λu e=>?_,?_,?_]
 .let⟨x,_,rfl⟩:=adX.mp e;show#[og f,pE f]
 .let⟨x,g,rfl⟩:=adX.mp e;let⟨a,b⟩:=FJ (t:=x) f (h.zs x (afs g)) (h.zs _ i);show#[a.le .b,b.le .b]
 .let:=IM (l:=l) (y:=z) (vs:=(z.take (~~~l)).map λx=>fr x (z.getD (~~~l) 0)) (d:=z.getD (~~~l) 0) (n:= ~~~l) (λk p=>by rw[AR p .b];show eK _ _) (~~~l) (Ā _);rw[h.sum] at this;let o:z.getD (~~~l) 0*z.getD (~~~l) 0≠0:=ë f f;show afH o ?_;rw[this];grind
 .let sz:=h.zs _ i;generalize z.getD (~~~l) 0=d at *;obtain w|w:=Int.lt_or_lt_of_ne f
  .show#[-d,.b,sz.neg.le .b,λu e=>?_];let⟨x,g,rfl⟩:=adX.mp e;show#[-x,(h.zs x (afs g)).neg.le .b,by rw[ahN,eK,Int.neg_mul]]
  .show#[d,.b,sz.le .b,λu e=>?_];let⟨x,g,rfl⟩:=adX.mp e;show#[x,(h.zs x (afs g)).le .b,eK _ _]
def QU(h:Pc m l c z)(G:z.getD (~~~l) 0=0)(D:n<~~~z)(hz:z.getD n 0≠0):
  n<~~~l/\(2*l.getD n 0*z.getD n 0≠0/\Sm 9000 (2*l.getD n 0*z.getD n 0))/\(∀x∈z,Gk (fr (c-l.getD n 0) (2*l.getD n 0*z.getD n 0)) (x,1)) /\
  Gk (bZ (fr (c-l.getD n 0) (2*l.getD n 0*z.getD n 0)) (z.getD n 0,1)) (1,1) /\
  VL m l c (((z.take (~~~l)).map λx=>bZ (fr (c-l.getD n 0) (2*l.getD n 0*z.getD n 0)) (x,1)).set n (uJ (bZ (fr (c-l.getD n 0) (2*l.getD n 0*z.getD n 0)) (z.getD n 0,1)) (1,1))):=by
 let T:=h.len;let ne:n≠~~~l:=λe=>hz (by rw[e];show G);let i:n<~~~l:=.b
 let am:=h.nz _ (Q.getD_mem (d:=0) i);let K:∀{k:Nat},k<~~~z->Sm m (z.getD k 0):=λs=>h.zs _ (Q.getD_mem (d:=0) s);let A:2*l.getD n 0*z.getD n 0≠0:=ë (ë .a am.1) hz;let O:Sm 2 .O:=by unfold Sm;decide
 let W:=h.m7;let J:Sm (m+33) (2*l.getD n 0*z.getD n 0):=((O.mul am.2).mul (K D)).le .b;let st:Sm 32 (c-l.getD n 0):=by let:=h.cs;let:=am.2;unfold Sm at *;lia
 let⟨p,o⟩:=FJ A st J;let Γ:=og (t:=c-l.getD n 0) A;let α:=eK (c-l.getD n 0) (2*l.getD n 0*z.getD n 0);generalize fr (c-l.getD n 0) (2*l.getD n 0*z.getD n 0)=u at *;let L:∀x∈z,Gk u (x,1):=λx f=>#[#[.b,by change .M≠0;decide],p.le .a,o.le .b,(h.zs x f).le .b,by change Sm 9000 1;unfold Sm;show agb .a,by change Sm 9000 (u.2*1);rw[Đ];show o.le .b];let B:∀x∈z,Sm (32+m) (bZ u (x,1)).1/\Sm (m+33) (bZ u (x,1)).2:=λx f=>FJ (t:=u.1*x) (b:=u.2*1) .b (p.mul (h.zs x f)) (by rwa[Đ]);let fp:∀x,1<=(bZ u (x,1)).2:=λx=>og (t:=u.1*x) (b:=u.2*1) .b
 let fc:∀x,(bZ u (x,1)).1*u.2=u.1*x*(bZ u (x,1)).2:=λx=>by
  let:=eK (u.1*x) (u.2*1);rw[Đ] at this;change(fr (u.1*x) (u.2*1)).1*u.2=u.1*x*(fr (u.1*x) (u.2*1)).2;rw[Đ];show this
 let zn:z.getD n 0∈z:=Q.getD_mem (d:=0) D;let V:=fp (z.getD n 0);let c1:=fc (z.getD n 0);let⟨E,r⟩:=B _ zn;show#[i,#[A,J.le .b],L,?_,?_]
 .show#[#[.b,by change .M≠0;decide],E.le .b,r.le .b,by change Sm 20000 1;unfold Sm;show agb .a,by change Sm 9000 1;unfold Sm;show agb .a,by change Sm 9000 (_*1);rw[Đ];show r.le .b]
 generalize S:bZ u (z.getD n 0,1)=v at *;let ev:uJ v (1,1)=fr (v.1*1+1*v.2) (v.2*1):=rfl;let C:v.2*1≠0:=.b
 let ap:=og (t:=v.1*1+1*v.2) C;let H:=pE (t:=v.1*1+1*v.2) C;let ac:=eK (v.1*1+1*v.2) (v.2*1)
 let as:=FJ (n:=m+40) (m:=m+33) (t:=v.1*1+1*v.2) C (by
  rw[Đ,Ś]
  show((E.le (.b:32+m<=m+33)).add r).le .b) (by rwa[Đ])
 rw[<-ev] at ap H ac as;generalize uJ v (1,1)=q at *;let N:((z.take (~~~l)).map λx=>bZ u (x,1)).length= ~~~l:=by rw[ċ,ϟ];lia
 let mem:∀w∈((z.take (~~~l)).map λx=>bZ u (x,1)).set n q,w=q\/∃x∈z,w=bZ u (x,1):=λw j=>by
  obtain g|g:=aeR j
  .let⟨x,f,e⟩:=adX.mp g;show .inr #[x,afs f,e.symm]
  .show .inl g
 let F:q.1*u.2=(u.1*z.getD n 0+u.2)*q.2:=by
  rw[Đ] at ac
  let e2:v.2*(q.1*u.2)=v.2*((u.1*z.getD n 0+u.2)*q.2):=by
   let P:v.2*(q.1*u.2)=(q.1*v.2)*u.2:=by grind
   rw[P,ac];let R:(v.1*1+1*v.2)*q.2*u.2=(v.1*u.2)*q.2+v.2*u.2*q.2:=by grind
   rw[R,c1];grind
  show afO .b e2
 show#[by rwa[Ŝ],λw j=>?_,λw j=>?_,?_,?_]
 .obtain rfl|⟨x,_,rfl⟩:=mem w j
  .show#[ap,H]
  .show#[fp x,pE (t:=u.1*x) (b:=u.2*1) .b]
 .obtain rfl|⟨x,f,rfl⟩:=mem w j
  .show#[as.1,as.2.le .b]
  .show#[(B x f).1.le .b,(B x f).2.le .b]
 .let I:∀k,((z.map λx=>u.1*x).set n (u.1*z.getD n 0+u.2)).getD k 0=u.1*z.getD k 0+if k=n then u.2 else 0:=λk=>by
   by_cases e:k=n
   .subst e;rw[adI rfl,ĩ,af3 (by rwa[ċ])];rfl
   .rw[adF e,ĩ,afb (λz=>e z.symm),ł,ĩ,aic];cases z[k]? with
    |none=>show .N=u.1*0;rw[Ū]
    |some x=>rfl
  let ce:=IM (l:=l) (y:=(z.map λx=>u.1*x).set n (u.1*z.getD n 0+u.2)) (vs:=((z.take (~~~l)).map λx=>bZ u (x,1)).set n q) (d:=u.2) (n:= ~~~l) (λk s=>by
   rw[I k];by_cases e:k=n
   .subst e;rw[adI rfl,ĩ,af3 .b];change q.1*u.2=(u.1*z.getD k 0+u.2)*q.2;show F
   .rw[adF e,ĩ,afb (λz=>e z.symm),<-ĩ,AR s .b,aic]
    show fc _) (~~~l) (Ā _)
  rw[Pf I,adI i,h.sum,G] at ce
  let e3:u.1*u.1*(c*(0*0))+l.getD n 0*(2*u.1*z.getD n 0*u.2+u.2*u.2)=c*(u.2*u.2):=by
   let:l.getD n 0*(2*u.1*z.getD n 0*u.2+u.2*u.2)=(u.1*(2*l.getD n 0*z.getD n 0))*u.2+l.getD n 0*(u.2*u.2):=by grind
   rw[this,α];grind
  rw[e3] at ce;show afH (a:=u.2*u.2) (ë .b .b) ?_;rw[ce];grind
 .show#[u.2,.b,o.le .b,λw j=>?_];obtain rfl|⟨x,f,rfl⟩:=mem w j
  .show#[_,(((p.mul (h.zs _ zn)).le (.b:32+m<=m+33)).add o).le .b,F]
  .show#[_,(p.mul (h.zs x f)).le .b,fc x]
abbrev ac5(P w K mg base):=aE P w K mg base 1 "first_place" ["numbers"] (pL K (fun(l:.L)=>~~~l<=100/\∃x∈l,x≠0) Á WD)
def sQ(t:⇑acF)(L:⇑ac5)(α:⇑aE 3 "times" ["u","v"] (bL K Gk Á bZ))(p:⇑aE 3 "plus" ["u","v"] (bL K Gk Á uJ))(l:.L)(c:Int)(z:.L)(hp:Pc m l c z):⇑Body eE "values_by_zero" cY f 3 [.val Â l,.val Â c,.val Â z] (yc Á (VL m l c)):=by
 intro J A outer s H E h;let r:=hp.len;let R:=hp.l8;let q:z.take (~~~z-1)=z.take (~~~l):=by rw[r];rfl
 let b:rV z (-1)=À (z.getD (~~~l) 0):=by
  let e:A_ (~~~z) (-1)=À (~~~l):=by
   delta A_;rw[r,adF .a,adI .b];congr 1;lia
  delta rV;rw[e];change z[~~~l]?=_;rw[ĩ,į .b];rfl
 let B:z.getD (~~~l) 0∈z:=Q.getD_mem (d:=0) .b;let lt:(z.take (~~~l)).length= ~~~l:=by rw[ϟ];lia
 show aO (aD cH (aQ .C (bV ae) b) ae) (λo=>?_) (λo=>?_)
 .let j:z.getD (~~~l) 0≠0:=by simpa using o
  show mI (post:=VL m l c) (F4 (de (b':=Á) (f:=λx:Int=>fr x (z.getD (~~~l) 0)) ["x"] [2] (bG (af cY) eE rfl rfl .d) (bz (jk (PU .C (bV ae) rfl) q)) (bf 0) (λC s H fp=>cE 0 ["x","zero"]) aW (λi x a C s H fp=>ax t h .A (aQ .B (bV ae) b) #[j,(hp.zs _ B).le (by let:=hp.m7;lia)]) .b) (QG hp j)) λz hz=>#[_,hz,rfl]
 let j:z.getD (~~~l) 0=0:=by simpa using o
 let ex:∃x∈z,x≠0:=by
  apply ğ;intro k;let h1:=hp.one;let:∀x∈z,x=0:=λx a=>ğ λw=>k #[x,a,w]
  let d:.O∣nP z:=by
   delta nP;show DP z 0 (agw 2) λx a=>by rw[this x a];show agw 2
  rw[h1] at d;show absurd d .a
 show jJ 3 dH.nd (j8 L h .C #[.b,ex]) λi hi=>?_;let⟨n,rfl,k,hz⟩:=hi;let⟨g,⟨I,O⟩,D,tp,N⟩:=QU hp j k hz;let y:rV l (n:Int)=À (l.getD n 0):=by rw[si (d:=0) .b .b,Ó]
 let F:rV z (n:Int)=À (z.getD n 0):=by rw[si (d:=0) .b .b,Ó]
 let am:=hp.nz _ (Q.getD_mem (d:=0) g);let v:Sm 2 .O:=by unfold Sm;decide
 let sz:=(hp.zs _ (Q.getD_mem (d:=0) k)).le hp.m7;show aq 4 dH.nd (ax t h (ig .B (aQ .A .D y)) (aF (aF ae (aQ .A .D y) (v.ok am.2)) (aQ .C .D F) ((v.mul am.2).ok sz)) #[I,O]) ?_;generalize fr (c-l.getD n 0) (2*l.getD n 0*z.getD n 0)=u at *;show NJ 5 dH.nd (β:=Fr) (b':=Á) (f:=λx:Int=>bZ u (x,1)) ["x"] [4] (bG (af cY) eE rfl rfl .d) (bz (jk (PU .C (bV ae) rfl) q)) (bf 0) (λC s H fp=>cE 0 ["x","often"]) aW (λi x a C s H fp=>ax α h .B (bj .A ae) (D x (afs (Į a)))) .b ?_;show Fn 5 Á rfl ?_
 let G:rV ((z.take (~~~l)).map λx=>bZ u (x,1)) (n:Int)=À (bZ u (z.getD n 0,1)):=by
  rw[si (d:=(.N,.M)) .b (by rw[ċ];lia),Ó,AR g .b]
 show tP 5 rfl .D (ax p h (tL (β:=Fr) 5 rfl (aQ (aa 5) .D G)) (bj ae ae) tp) .b (by rw[ċ];lia) ?_;show gR 5 rfl ?_;show av (aa 5) ?_;rw[Ó];show#[_,N,rfl]
def sH{k f s:Int}(c:k≠0)(d:k.natAbs<1073741824)(b:dm f)(a:0<s)(e:k=f*(s*s)):fW k=f:=by
 let t:Tame (k.natAbs*1):=by rw[Đ];show rT .f .f
 change(MT k 1).1=f;rw[CS c .a t b a (by rwa[Đ])]
def tM{k:Int}(b:k≠0)(c:k.natAbs<1073741824):∃s,dm (fW k)/\0<s/\k=fW k*(s*s):=by
 let⟨f,s,h1,h2,a⟩:=qN _ k b (Ā _);let e:=sH b c h1 h2 a;rw[e];show#[s,h1,h2,a]
def LC{k:Int}(c:k≠0)(a:k.natAbs<1073741824):fW k≠0/\(fW k).natAbs<=k.natAbs:=by
 let⟨s,h1,h2,b⟩:=tM c a;show#[h1.1,Av h2 b]
def xV{n:Int}(b:n≠0)(h:∀q,aN q=Á->¬q*q∣n):dm n:=#[b,λd a z=>by
 let⟨q,h1,h2⟩:=fj a
 show h q h1 (İ (ag3 h2 h2) z)]
def cX(a b:Int):Int:=a.fdiv ((È a b:Nat):Int)*b.fdiv ((È a b:Nat):Int)
def Qj(a b:Int):Prop:=a≠0/\b≠0/\Sm 400 a/\Sm 400 b
def IB(h:g∣a)(ha:a≠0):g≠0/\a.fdiv g≠0/\(a.fdiv g).natAbs<=a.natAbs:=by
 let⟨c,rfl⟩:=h;let b:g≠0:=λz=>ha (by rw[z,ahA]);let d:c≠0:=λz=>ha (by rw[z,Ū]);rw[aeL c b];show#[b,d,?_];rw[ń];show afG _ .b
def ka(ha:a≠0)(e:b≠0):((È a b:Nat):Int)≠0/\a.fdiv ((È a b:Nat):Int)≠0/\(a.fdiv ((È a b:Nat):Int)).natAbs<=a.natAbs/\b.fdiv ((È a b:Nat):Int)≠0/\(b.fdiv ((È a b:Nat):Int)).natAbs<=b.natAbs:=by
 let⟨h,c,g⟩:=IB (Ϻ a b) ha;let⟨_,f,d⟩:=IB (ϻ a b) e;show#[h,c,g,f,d]
def V4(ha:a≠0)(f:b≠0)(d:Sm m a)(h:Sm n b):cX a b≠0/\Sm (m+n) (cX a b):=by
 let⟨_,c,i,g,e⟩:=ka ha f;show#[ë c g,(Sm.of_le i d).mul (Sm.of_le e h)]
def Mg(ha:a≠0)(c:Sm n a):Sm n ((È a b:Nat):Int):=by
 let:È a b<=a.natAbs:=agU .b (aet.mpr (Ϻ a b));unfold Sm at *;lia
def j4{M:Type}{l:List M}{i:Int}{d:M}(a:0<=i)(h1:i<n)(b: ~~~l=n):rV l i=À (l.getD ↥i d):=by
 delta rV A_;rw[adI a,adI .b];change l[↥i]?=_;rw[ĩ,į .b];rfl
open Q (Fr)
def vp(n:Nat):x9 0 1 n=A9 n:=by
 delta x9 A9;show υ λi _=>by lia
structure AK(d:Nat)(us:List Fr):Prop where
 len: ~~~us<=8
 low:∀u∈us,rY u
 s1:∀u∈us,Sm 100000 u.1
 s2:∃α:Int,1<=α/\Sm d α/\∀u∈us,u.2∣α
structure Hb(s d:Nat)(o:.L×Int):Prop where
 len: ~~~o.1<=8
 sm:∀x∈o.1,Sm (s+d) x
 pos:1<=o.2
 s2:Sm d o.2
def V8(a:.L×Int)(bs:List (.L×Int)):List Fr:=bs.map (P_ a)
def Ea(n i:Int):List Fr:=R6 ↥n i
def Pb(n:Int):Tb:=HQ ↥n
def fC{M:Type}{l:List M}{a:M}(h:l[i]?=À a):a∈l:=Į h
def Ob(c:1<=b)(h:Sm n b):((È a b:Nat):Int)≠0/\Sm n ((È a b:Nat):Int):=by
 let h1:È a b≠0:=λz=>by rw[agY] at z;lia
 show#[.b,Sm.of_le ?_ h];let:(È a b)<=b.natAbs:=agU .b (Int.gcd_dvd_natAbs_right a b);lia
def Fm(ha:1<=a)(c:1<=b)(h:Sm n a):Sm n (a.fdiv b):=by
 show Sm.of_le ?_ h;rw[aeU a .b];let h1:0<=a/b:=ag0 .b .b;let h2:a/b<=a:=Int.ediv_le_self b .b;lia
def Td(a:1<=b)(d:1<=c)(h1:b∣α)(h2:c∣α):(b*c).fdiv (È b c:Nat)∣α:=by
 let g:((È b c:Nat):Int)≠0:=λz=>by
  let:È b c=0:=.b
  rw[agY] at this;lia
 let e:b*c=((È b c:Nat):Int)*((Int.lcm b c:Nat):Int):=by
  let:=Int.gcd_mul_lcm b c;let p:0<b*c:=Ħ .b .b;let q:((È b c*Int.lcm b c:Nat):Int)=((b*c).natAbs:Int):=by rw[this,ń]
  rw[ϴ] at q;lia
 rw[e,aeL _ g];show Int.ofNat_dvd_left.mpr (Nat.lcm_dvd (aet.mpr h1) (aet.mpr h2))
def E2(h:1<=α)(s:Sm n α)(d:a∣α):Sm n a:=Sm.of_le (agU .b (aet.mpr d)) s
def AB{us:List Fr}(h:∀u∈us,rY u)(d:∀u∈us,u.2∣α)(i:Nat)(hi:i<= ~~~us):1<=mw (us.take i)/\mw (us.take i)∣α:=by
 induction i with
 |zero=>show#[by change .M<=1;decide,ϊ α]
 |succ i c =>
  let⟨h1,h2⟩:=c .b;let b:us[i]?=À us[i]:=į .b;let a:=fC b;let e:mw (us.take (i+1))=(mw (us.take i)*us[i].2).fdiv (È (mw (us.take i)) us[i].2:Nat):=kQ b;rw[e];show#[(IX h1 (h _ a).1).1,Td h1 (h _ a).1 h2 (d _ a)]
def EE{d:Nat}{us:List Fr}(h:AK d us):1<=mw us/\Sm d (mw us):=by
 let⟨α,a,b,c⟩:=h.s2;let z:=AB h.low c (~~~us) (Ā _);rw[Ζ] at z;show#[z.1,E2 a b z.2]
def Am{d:Nat}{us:List Fr}(h:AK d us)(b:∀u∈us,Sm s u.1):Hb s d (BD us):=by
 let⟨h1,h2⟩:=EE h;show#[by change ~~~(us.map _)<=8;rw[ċ];show h.len,λx c=>?_,h1,h2];let⟨u,a,rfl⟩:=adX.mp c;show(b u a).mul (Fm h1 (h.low u a).1 h2)
structure uu(s d n:Nat)(T:Tb):Prop where
 sq:Sq n T
 n8:n<=8
 s1:∀r∈T,∀u∈r,Sm s u.1
 s2:∃α:Int,1<=α/\Sm d α/\∀r∈T,∀u∈r,u.2∣α
def uu.row{s d n:Nat}{T:Tb}(h:uu s d n T)(g:s<=100000){r:List Fr}(e:r∈T):AK d r:=#[by rw[h.sq.row r e];show h.n8,h.sq.low r e,λu f=>(h.s1 r e u f).le g,h.s2.imp λα ⟨a,b,c⟩=>#[a,b,c r e]]
def uu.len{s d n:Nat}{T:Tb}(h:uu s d n T): ~~~T<=8:=by rw[h.sq.len];show h.n8
def uu.up{d s' d':Nat}{T:Tb}(h:uu s d n T)(e:s<=s')(ld:d<=d'):uu s' d' n T:=#[h.sq,h.n8,λr g u f=>(h.s1 r g u f).le e,h.s2.imp λα ⟨a,b,c⟩=>#[a,b.le ld,c]]
def uu.TQ{d:Nat}{T:Tb}(h:uu s d n T):uu s d n (GZ T):=by
 let key:∀r∈GZ T,∀u∈r,∃r'∈T,u∈r':=λr e u c=>by
  let⟨j,g,rfl⟩:=adX.mp e;let⟨r',f,rfl⟩:=adX.mp c;let:=zW g;rw[h.sq.len] at this;show#[r',f,Q.getD_mem (by rw[h.sq.row r' f];lia)]
 show#[h.sq.GZ,h.n8,λr e u c=>by let⟨r',a,b⟩:=key r e u c;show h.s1 r' a u b,h.s2.imp λα ⟨x,y,z⟩=>#[x,y,λr e u c=>by let⟨r',a,b⟩:=key r e u c;show z r' a u b]]
def Le{t:Int}(a:b≠0):(fr t b).2∣b:=by
 let c:=eK t b;let l:=vh (t:=t) a;let g:È (fr t b).2 (fr t b).1=1:=by rw[agu];show l.2
 show fT (m:=(fr t b).1) #[t,by rw[ī b,c,ī]] g
theorem JX{k:Nat}:∀(l:.L),(∀x∈l,Sm k x)->l.sum.natAbs<= ~~~l*2^k:=zrL (λ_=>by simp) λa l JX h=>by
  let h1:=JX λx b=>h x (ę _ b);let h2:=h a (ġ ..);unfold Sm at h2;rw[List.sum_cons,Œ,Nat.succ_mul];lia
def uu.YC{d s' d':Nat}{T Γ:Tb}(h:uu s d n T)(g:uu s' d' n Γ)(y:s<=100000)(i:s'<=100000):uu (s+d+s'+d'+4) (d+d') n (K0 T Γ):=by
 let⟨α,v,w,B⟩:=h.s2;let⟨N,C,E,A⟩:=g.TQ.s2
 let key:∀r∈K0 T Γ,∀u∈r,rY u/\Sm (s+d+s'+d'+4) u.1/\u.2∣α*N:=λr a u b=>by
  let⟨r',h1,rfl⟩:=adX.mp a;let⟨o,h2,rfl⟩:=adX.mp b;let⟨c,f,rfl⟩:=adX.mp h2;let m:=Am (h.row y h1) (h.s1 _ h1);let t:=Am (g.TQ.row i f) (g.TQ.s1 _ f);let j:(BD r').2*(BD c).2≠0:=ë (by let:=m.pos;lia) (by let:=t.pos;lia);show#[vh j,Sm.of_le (rS j) ?_,İ (Le j) (ag3 ?_ ?_)]
  .let:=JX (k:=s+d+(s'+d')) (((BD r').1.zip (BD c).1).map λp=>p.1*p.2) λx D=>by
    let⟨p,hp,rfl⟩:=adX.mp D;show(m.sm _ (oO hp).1).mul (t.sm _ (oO hp).2)
   rw[ċ,agC] at this;let l:=m.len;let e:(2:Nat)^(s+d+s'+d'+4)=16*2^(s+d+(s'+d')):=by rw[ahM,Nat.mul_comm,<-Nat.add_assoc]
   let p:0<(2:Nat)^(s+d+(s'+d')):=agd _;change(OZ _ _).natAbs<_;rw[e];let q:=afV (2^(s+d+(s'+d'))) (.b:min (~~~(BD r').1) (~~~(BD c).1)<=8);show afn (Ń this q) .b
  .let z:=AB (h.sq.low _ h1) (B _ h1) (~~~r') (Ā _);rw[Ζ] at z;show z.2
  .let z:=AB (g.TQ.sq.low _ f) (A _ f) (~~~c) (Ā _);rw[Ζ] at z;show z.2
 let lt:=g.TQ.sq.len;show#[#[by change ~~~(T.map _)=n;rw[ċ];show h.sq.len,λr a=>?_,λr a u b=>(key r a u b).1],h.n8,λr a u b=>(key r a u b).2.1,α*N,Ħ v C,w.mul E,λr a u b=>(key r a u b).2.2];let⟨r',h1,rfl⟩:=adX.mp a;rw[ċ,ċ];show lt
def JY{M:Type}{d:M}{xs:List M}{k:Int}(b:0<=k)(h:k<(~~~xs:Int)):rV xs k=À (xs.getD ↥k d):=by
 let a:↥k<~~~xs:=.b
 let e:k=((↥k:Nat):Int):=.b
 let q:rV xs ((↥k:Nat):Int)=À xs[↥k]:=Aj (by rw[į a]);rw[<-e] at q;rw[q,ĩ,į a];rfl
def zF(n i:Int)(c:0<=n)(h1:n<=8):⇑Body lG "plain_list" iD f k [.val Â n,.val Â i] (RT Á (Ea n i)):=by
 intro a A outer s H E d;show av (de (f:=λj=>if decide (j=i) then (1,1) else (0,1)) ["j"] [1] (bG (af iD) lG rfl rfl .d) (nX rfl B.range .A .b .b) (bf 0) (λC s H fp=>cE 0 ["j","place"]) aW (λk j b C s H fp=>kL (aD aG .A .B) (λ_=>bj ae ae) λ_=>bj ae ae) (by rw[nU];lia)) ?_;rw[vp];change Bd.val _ _=Bd.val _ _;congr 1;delta Ea R6;show υ λj _=>by by_cases z:j=i<;>simp[z]
abbrev ac6(P w K mg base):=aE P w K mg base 1 "plain_list" ["n","place"] (bL K (λn (_:Int)=>.N<=n/\n<=8) Á Ea)
def yb(d:⇑ac6)(n:Int)(a:0<=n)(h1:n<=8):⇑Body eL "plain_table" dw f 1 [.val Â n] (RT Á (Pb n)):=by
 intro b A outer s H E c;show av (de (f:=λi=>Ea n i) ["i"] [0] (bG (af dw) eL rfl rfl .d) (nX rfl B.range .A .b .b) (bf 0) (λC s H fp=>cE 0 ["i","n"]) aW (λk j e C s H fp=>ax d c .B .A #[a,h1]) (by rw[nU];lia)) ?_;rw[vp];rfl
def Lu(T:Tb)(j:Int)(c: ~~~T<=8)(h1:0<=j)(h2:∀r∈T,j<(~~~r:Int)):⇑Body xq "column" qV f k [.val Â T,.val Â j] (RT Á (wN T j)):=by
 intro b A outer s H E a;show av (de (f:=λr:List Fr=>r.getD ↥j (0,1)) ["numbers"] [1] (bG (af qV) xq rfl rfl .d) (bz .A) (bf 0) (λC s H fp=>cE 0 ["numbers","j"]) aW (λk r a C s H fp=>dY (aQ .A .B (JY h1 (h2 r (fC a))))) .b) rfl
abbrev ac7(P w K mg base):=aE P w K mg base 1 "column" ["T","j"] (bL K (fun(T:Tb) (j:Int)=>~~~T<=8/\0<=j/\∀r∈T,j<(~~~r:Int)) Á wN)
def xP(a:⇑ac7)(n:Nat)(T:Tb)(h:uu 100000 2000 n T):⇑Body jI "turned_over" gL f 1 [.val Â T] (RT Á (GZ T)):=by
 intro d A outer s H E b;let e:=h.len;show av (de (f:=λj=>wN T j) ["j"] [0] (bG (af gL) jI rfl rfl .d) (nX rfl B.range (bh rfl B.len .A) .b .b) (bf 0) (λC s H fp=>cE 0 ["j","T"]) aW (λk j c C s H fp=>ax a b .B .A #[e,?_,λr b=>?_]) (by rw[nU];lia)) ?_
 .let:=(wR c).2;lia
 .let:=(wR c);let e1:=h.sq.len;let e2:=h.sq.row r b;lia
 .rw[vp];rfl
def uC(l:⇑acA)(us:List Fr)(h:AK 2000 us):⇑Body lS "common_bottom" g7 f 1 [.val Â us] (RT Á (mw us)):=by
 intro n A outer s H E o;show aq 1 eh.nd ae ?_;show jP (λi U=>∃r,U=[#v[us],‹mw (us.take i)›,r]) (b9 2 eh.nd) .A #[none,rfl] ?_ ?_
 .rintro i u U' b ⟨r,rfl⟩;let k:=fC b;let hi:i<~~~us:=(adU.mp b).1;let⟨α,c,e,j⟩:=h.s2;let⟨q,m⟩:=AB h.low j i .b;let p:=E2 c e m;let d:=E2 c e (j u k);let g:=Ob (a:=mw (us.take i)) (h.low u k).1 d;show aq 1 eh.nd (bw (aF .B (aY .C) (p.ok d)) (ax l o .B (aY .C) Ê) (g.2.div g.1)) ?_;show aK #[#v[u],?_];delta mw;rw[kQ b];rfl
 .rintro U' ⟨r,rfl⟩;rw[Ζ];show av .B rfl
def qS(b:⇑aE 2 "common_bottom" ["numbers"] (bU K (AK 2000) Á mw))(us:List Fr)(h:AK 2000 us):⇑Body fO "over_one_bottom" dO f 2 [.val Â us] (RT Á (BD us)):=by
 intro e A outer s H E g;let⟨c,d⟩:=EE h;show aq 1 iO.nd (aB b g .A h) ?_;show av (bj (de (f:=λu:Fr=>u.1*(mw us).fdiv u.2) ["u"] [1] (bG (af dO) fO rfl rfl .d) (bz .A) (bf 0) (λC s H fp=>cE 0 ["u","bottom"]) aW (λk u a C s H fp=>aF (aX .A) (bw .B (aY .A) ((h.s2.elim λα z=>E2 z.1 z.2.1 (z.2.2 u (fC a))).div (h.low u (fC a)).ne)) ((h.s1 u (fC a)).ok (Fm c (h.low u (fC a)).1 d))) (by let:=h.len;lia)) .B) rfl
def qF(e:⇑acF)(a b:.L×Int)(ha:Hb 100000 2000 a)(c:Hb 100000 2000 b):⇑Body fP "sum_of_products" dE f 2 [.val Â a,.val Â b] (RT Á (P_ a b)):=by
 intro d A outer s H E g;show aq 2 jj.nd (VV rfl rfl B.sum (de (f:=λp:Int×Int=>p.1*p.2) ["a","b"] [] (bG (af dE) fP rfl rfl .d) (AW rfl B.zip (aX .A) (aX .B)) (Ey 0 1) (λC s H fp=>JO 0 1 ["a","b"]) yp (λk p hp C s H fp=>aF .A .B ((ha.sm _ (oO (fC hp)).1).ok (c.sm _ (oO (fC hp)).2))) (by rw[agC];let:=ha.len;lia))) ?_;show av (ax e g .C (aF (aY .A) (aY .B) (ha.s2.ok c.s2)) #[ë (by let:=ha.pos;lia) (by let:=c.pos;lia),(ha.s2.mul c.s2).le .a]) rfl
abbrev ac8(P w K mg base):=aE P w K mg base 3 "sum_of_products" ["one","other"] (bL K (λa b=>Hb 100000 2000 a/\Hb 100000 2000 b) Á P_)
def Cj(d:⇑ac8)(a:.L×Int)(bs:List (.L×Int))(ha:Hb 100000 2000 a)(h: ~~~bs<=8)(c:∀b∈bs,Hb 100000 2000 b):⇑Body n_ "sums_with" jC f 3 [.val Â a,.val Â bs] (RT Á (V8 a bs)):=by
 intro e A outer s H E g;show av (de (f:=λb=>P_ a b) ["other"] [0] (bG (af jC) n_ rfl rfl .d) (bz .B) (bf 0) (λC s H fp=>cE 0 ["other","one"]) aW (λk b hp C s H fp=>ax d g .B .A #[ha,c b (fC hp)]) .b) rfl
abbrev ac_(P w K mg base):=aE P w K mg base 4 "sums_with" ["one","others"] (bL K (fun(a:.L×Int) (bs:List (.L×Int))=>Hb 100000 2000 a/\~~~bs<=8/\∀b∈bs,Hb 100000 2000 b) Á V8)
abbrev ac9(P w K mg base):=aE P w K mg base 2 "turned_over" ["T"] (bU K (fun(T:Tb)=>∃n,uu 100000 2000 n T) Á GZ)
def Hu(j:⇑ac9)(i:⇑aE 3 "over_one_bottom" ["numbers"] (bU K (AK 2000) Á BD))(e:⇑ac_)
  (n:Nat) (T Γ:Tb) (ha:uu 100000 2000 n T) (h:uu 100000 2000 n Γ):⇑Body oG "product" ki f 4 [.val Â T,.val Â Γ] (RT Á (K0 T Γ)):=by
 intro l A outer s H E d;let c:=h.TQ;show aq 2 vU.nd (de (f:=λr=>BD r) ["numbers"] [] (bG (af ki) oG rfl rfl .d) (bz (aB j d .B #[n,h])) (bf 0) (λC s H fp=>cE 0 ["numbers"]) aW (λk r a C s H fp=>aB i d .A (c.row .a (fC a))) (by let:=c.len;lia)) ?_;show av (de (f:=λr=>V8 (BD r) ((GZ Γ).map BD)) ["numbers"] [2] (bG (af ki) oG rfl rfl .d) (bz .A) (bf 0) (λC s H fp=>cE 0 ["numbers","columns"]) aW (λk r a C s H fp=>ax e d (aB i d .A (ha.row .a (fC a))) .B #[Am (ha.row .a (fC a)) (ha.s1 _ (fC a)),?_,λb g=>?_]) (by let:=ha.len;lia)) ?_
 .rw[ċ];show c.len
 .let⟨r',z,rfl⟩:=adX.mp g;show Am (c.row .a z) (c.s1 _ z)
 .rfl
open Q (Fr)
def Ds{X:Cx}{U:aI}{e:Ô}{c c':Bool}(h:T X U e c)(z:c=c'):T X U e c':=z▸h
def Kr(b:Int):cX 1 b=b:=by
 delta cX;let:È 1 b=1:=Int.gcd_one_left b;rw[this];change(1:Int).fdiv 1*b.fdiv 1=b;rw[ah7,ah7,Ś]
def LU(e:⇑acA)(a b:Int)(hp:Qj a b):⇑Body Cc "joined" vT f 1 [.val Â a,.val Â b] (RT Á (cX a b)):=by
 intro i A outer s H E j;let⟨ha,h,c,l⟩:=hp;let⟨d,m,k,n,g⟩:=ka ha h;let sg:=Mg (b:=b) ha c;show aq 2 yw.nd (ax e j .A .B Ê) ?_;show av (aF (bw .A .C (sg.div d)) (bw .B .C (sg.div d)) ((Sm.of_le k c).ok (Sm.of_le g l))) rfl
def MN(row:.L):Int:=row.foldl (λn k=>cX n (fW k)) 1
def BQ(row:.L):Prop:= ~~~row<=8/\∀k∈row,k≠0/\k.natAbs<1073741824
theorem Lk{row:.L}(h:BQ row):∀i,i<= ~~~row->(row.take i).foldl (λn k=>cX n (fW k)) 1≠0/\Sm (1+30*i) ((row.take i).foldl (λn k=>cX n (fW k)) 1):=zrN (λ_=>#[by change .M≠0;decide,by change(1:Int).natAbs<2^1;decide]) λi Lk hi=>by
  let⟨a,b⟩:=Lk .b;let c:row[i]?=À row[i]:=į .b;let e:(row.take (i+1)).foldl (λn k=>cX n (fW k)) 1=cX ((row.take i).foldl (λn k=>cX n (fW k)) 1) (fW row[i]):=kQ c;let d:=h.2 _ (Į c);let⟨f,l⟩:=LC d.1 d.2;let⟨g,j⟩:=V4 a f b (by unfold Sm;lia:Sm 30 (fW row[i]));rw[e];show#[g,j.le .b]
def MB{k:Int}(h1:k≠0)(h2:k.natAbs<1073741824):U5 k:=#[h1,(by unfold Sm;lia:Sm 30 k).le .a,rT .b .b]
abbrev ada(P w K mg base):=aE P w K mg base 2 "joined" ["a","b"] (bL K Qj Á cX)
def wg(ZE:⇑ada)(o:⇑aE 6 "free_of" ["k"] (bU K U5 Á fW))(row:.L)(h:BQ row):⇑Body ng "free_product" ja f 6 [.val Â row] (RT Á (MN row)):=by
 intro m A outer s H E j;let q:=h.1;show aq 1 eP.nd ae ?_;show jP (b:=Â) (λi U=>i<= ~~~row/\∃r,U=[#v[row],‹(row.take i).foldl (λn k=>cX n (fW k)) 1›,r]) (b9 2 eP.nd) .A #[ş _,none,rfl] ?_ ?_
 .rintro i k U' g ⟨hi,r,rfl⟩;let d:i<~~~row:=(adU.mp g).1;let⟨a,b⟩:=Lk h i hi;let c:=h.2 _ (Į g);let⟨l,p⟩:=LC c.1 c.2;let e:(row.take (i+1)).foldl (λn k=>cX n (fW k)) 1=cX ((row.take i).foldl (λn k=>cX n (fW k)) 1) (fW k):=kQ g;show aq 1 eP.nd (ax ZE j .B (aB o j .C (MB c.1 c.2)) #[a,l,b.le .b,(by unfold Sm;lia:Sm 30 (fW k)).le .a]) ?_;rw[e];show aK #[d,_,rfl]
 .rintro U' ⟨hi,r,rfl⟩;rw[Ζ];show av .B rfl
def Wg(a b:Int)(x y:Fr):Fr:=fr (a*x.1*x.1*y.2*y.2+b*y.1*y.1*x.2*x.2) (x.2*x.2*y.2*y.2)
def MO(x:Fr):Prop:=rY x/\Sm 650 x.1/\Sm 650 x.2
def Wn(a b:Int)(x y:Fr):Prop:=Sm 30 a/\Sm 30 b/\MO x/\MO y
def yg(v:⇑acF)(a b:Int)(x y:Fr)(h:Wn a b x y):⇑Body o4 "made_of_two" jS f 2 [.val Â a,.val Â b,.val Â x,.val Â y] (RT Á (Wg a b x y)):=by
 intro t A outer s H E z;let⟨i,q,⟨o,g,c⟩,⟨m,e,d⟩⟩:=h;let k:=i.mul g;let p2:=k.mul g;let r:=p2.mul d;let p:=q.mul e;let j:=p.mul e;let u:=j.mul c;let l:=c.mul c;let n:=l.mul d;show aq 4 mX.nd (bH (aF (aF (aF (aF .A (aX .C) (i.ok g)) (aX .C) (k.ok g)) (aY .D) (p2.ok d)) (aY .D) (r.ok d)) (aF (aF (aF (aF .B (aX .D) (q.ok e)) (aX .D) (p.ok e)) (aY .C) (j.ok c)) (aY .C) (u.ok c))) ?_;show av (ax v z (aa 4) (aF (aF (aF (aY .C) (aY .C) (c.ok c)) (aY .D) (l.ok d)) (aY .D) (n.ok d)) #[ë (ë (ë o.ne o.ne) m.ne) m.ne,(n.mul d).le .a]) rfl
def DI(k:Int):Bool:=sC k&&decide (fW k=k)
def HG(b:⇑acO)(g:⇑aE 6 "free_of" ["k"] (bU K U5 Á fW))(k:Int):⇑Body zg "is_free" sU f 6 [.val Â k] (RT Á (DI k)):=by
 intro d A outer s H E a;cases q:sC k with
 |false =>
  let e:DI k=Â:=by delta DI;rw[q];rfl
  rw[e];show av (uo (c':=Â) (b2:=Á) (aB b a .A Ê) λz=>absurd z (by rw[q];decide)) ?_;rw[q];rfl
 |true =>
  let c:k≠0/\k.natAbs<1073741824:=by unfold sC at q;simpa using q
  show av (uo (aB b a .A Ê) λ_=>(t9 (jw aG (aB g a .A (MB c.1 c.2)) .A))) rfl
def Fb(row:.L)(s:fw):Prop:=0<=s.i/\s.i<s.j/\s.j<~~~row
noncomputable instance(row:.L)(s:fw):Decidable (Fb row s):=by delta Fb;infer_instance
def vY(row:.L)(s:fw):Fr:=Wg (row.getD ↥s.i 0) (row.getD ↥s.j 0) s.x s.y
def ML(row:.L)(s:fw):Int:=cX (MN [row.getD ↥s.i 0,row.getD ↥s.j 0]) (vY row s).1
def yd(row:.L)(s:fw):Prop:=Fb row s/\((vY row s).2=1/\DI (vY row s).1=Á)/\(ML row s).natAbs<1073741824
def Il(row:.L)(s:fw):Prop:=a8 row=Á/\MO s.x/\MO s.y
def Q0(row:.L)(s:fw):Fr:=((vY row s).1,ML row s)
noncomputable def W7(d:ï):fw:=match d with
 |.tuple [.int i,.int j,.tuple [.int a,.int b],.tuple [.int c,.int e]]=>#[i,j,(a,b),(c,e)]
 |_=>#[0,0,(0,1),(0,1)]
def Xm(row:.L)(d:Dt):Fr:=Q0 row (W7 d.d)
def wC{row:.L}{s:fw}(d:a8 row=Á)(h1:Fb row s):(row.getD ↥s.i 0≠0/\(row.getD ↥s.i 0).natAbs<1073741824)/\(row.getD ↥s.j 0≠0/\(row.getD ↥s.j 0).natAbs<1073741824):=by
 let⟨a,b,c⟩:=h1;show#[bC d (Q.getD_mem .b),bC d (Q.getD_mem .b)]
def RY{row:.L}{s:fw}(h:Il row s)(h1:Fb row s):Wn (row.getD ↥s.i 0) (row.getD ↥s.j 0) s.x s.y:=by
 let⟨a,b⟩:=wC h.1 h1;show#[by unfold Sm;lia,by unfold Sm;lia,h.2.1,h.2.2]
def Sa{row:.L}{s:fw}(h:Il row s)(h1:Fb row s)(h2:DI (vY row s).1=Á):BQ [row.getD ↥s.i 0,row.getD ↥s.j 0]/\Qj (MN [row.getD ↥s.i 0,row.getD ↥s.j 0]) (vY row s).1:=by
 let⟨a,b⟩:=wC h.1 h1
 let pf:BQ [row.getD ↥s.i 0,row.getD ↥s.j 0]:=#[by change 2<=8;decide,λk c=>by
  simp only[đ,Ĕ,aej] at c;obtain rfl|rfl:=c
  .show a
  .show b]
 let⟨e,d⟩:=Lk pf 2 (Ā _)
 let f:(vY row s).1≠0/\(vY row s).1.natAbs<1073741824:=by
  delta DI at h2;let:=(aeO.mp h2).1;unfold sC at this;simpa using this
 show#[pf,e,f.1,d.le .a,(by unfold Sm;lia:Sm 30 _).le .a]
abbrev ade(P w K mg base):=aE P w K mg base 7 "is_free" ["k"] (bU K (fun(_:Int)=>True) Á DI)
abbrev adb(P w K mg base):=aE P w K mg base 7 "free_product" ["row"] (bU K BQ Á MN)
def ck{row:.L}{s:fw}:(!(decide (.N<=s.i)&&(decide (s.i<s.j)&&decide (s.j<(~~~row:Int)))))=!decide (Fb row s):=by
 congr 1;rw[afC,afe];delta Fb;simp
section
variable(YR:sO mg "GREAT_FROM" 1073741824)(ZE:⇑ada)(Y3:⇑adb)(Zw:⇑aE 3 "made_of_two" ["a","b","x","y"] (Gn K Wn Á Wg))(Zo:⇑ade)
include B YR
include ZE Y3 Zw Zo in
theorem tE(row:.L)(d:Dt)(s:fw)(e:d.d=xv s)(h:Il row s)(ok:yd row s):⇑Body kC "numbers_behind" gq f 7 [.val Â row,.val Â d] (RT Á (Xm row d)):=by
 intro p A outer q H E k;let⟨d⟩:=d;let n:d=xv s:=e;subst n;let⟨h1,⟨h2,m⟩,r⟩:=ok;let l:=h1;let⟨a,b,c⟩:=l;let⟨pf,o⟩:=Sa h h1 m;let ab:∀i:Int,(if i<0 then -i else i)=(i.natAbs:Int):=λi=>by split<;>lia
 change S _ _ _ (RT Á (Q0 row s));show aq 2 cO.nd (K4 (s:=s) .B ae) ?_;show aq 3 cO.nd (Mj (s:=s) .B ae) ?_;show aO (Ds (c':=Â) (kD (Kb EF kO kO ae .C .D (bh rfl B.len .A))) (by rw[ck,adZ h1];rfl)) (λg=>nomatch g) (λ_=>?_);show aq 4 cO.nd (qA Zw k (aQ .A .C (j4 (d:=0) a .b rfl)) (aQ .A .D (j4 (d:=0) .b c rfl)) (Jk (s:=s) .B ae) (KW (s:=s) .B ae) (RY h h1)) ?_;change S _ [#v[row],#v[Dt.mk (xv s)],#v[s.i],#v[s.j],‹vY row s›,none] _ _;show aO (TW.t (mJ (aD cH (aY (aa 4)) ae) λ_=>(lL (kD (fQ (aB Zo k (aX (aa 4)) Ê)))))) (λg=>?_) (λ_=>?_)
 .rw[h2,m] at g;cases g
 show aq 5 cO.nd (ax ZE k (aB Y3 k (cw (b:=Á) (az (dY (aQ .A .C (j4 (d:=0) a .b rfl))) (az (dY (aQ .A .D (j4 (d:=0) .b c rfl))) a_)) (ſ rfl)) pf) (aX (aa 4)) o) ?_;change S _ [#v[row],#v[Dt.mk (xv s)],#v[s.i],#v[s.j],‹vY row s›,‹ML row s›] _ _;show aO (aD FC (iY rfl B.abs (aa 5)) (mZ rfl YR)) (λg=>?_) (λ_=>?_)
 .rw[ab] at g;let:(1073741824:Int)<=((ML row s).natAbs:Int):=by simpa using g
  lia
 show av (bj (aX (aa 4)) (aa 5)) ?_;rfl
end
def WB(row:.L)(s:fw)(u:Fr):.L:=(row.set ↥s.i u.1).set ↥s.j u.2
def Xj(row:.L)(d:Dt)(u:Fr):.L:=WB row (W7 d.d) u
def C5(row:.L)(d:Dt)(u:Fr)(s:fw)(e:d.d=xv s)(h1:Fb row s):⇑Body vL "row_with" pX f kk [.val Â row,.val Â d,.val Â u] (RT Á (Xj row d u)):=by
 intro g A outer k H E j;let⟨d⟩:=d;let h:d=xv s:=e;subst h;let⟨a,b,c⟩:=h1;change S _ _ _ (RT Á (WB row s u));show xD 3 uj.nd rfl B.list .A ?_;show tP 3 (a:=u.1) rfl (K4 (s:=s) .B ae) (dY (aX .C)) a .b ?_;show tP 3 (as:=row.set ↥s.i u.1) (a:=u.2) rfl (Mj (s:=s) .B ae) (dY (aY .C)) .b (by rwa[Ŝ]) ?_;show gR 3 rfl ?_;show av .D rfl
def CI(row:.L)(s:fw):.L:=WB row s (Q0 row s)
def RQ(n:Int):IJ Fr:=IJ.mk (Pb n)
def xx(d:⇑ac6)(n:Int)(a:0<=n)(h1:n<=8):⇑Body eL "plain_table" dw f 1 [.val Â n] (RT Á (RQ n)):=by
 intro b A outer s H E c;show av (Lo (β:=Fr) (f:=λi=>Ea n i) ["i"] [0] (bG (af dw) eL rfl rfl .d) (nX rfl B.range .A .b .b) (bf 0) (λC s H fp=>cE 0 ["i","n"]) aW (λk j e C s H fp=>BL d c .B .A #[a,h1]) (by rw[nU];lia)) ?_;rw[vp];rfl
def Wo{M:Type}{d:M}{l:List M}(h:i<~~~l):l[i]?=À (l.getD i d):=by
 rw[ĩ,į h];rfl
def we(row:.L)(s:fw)(u:Fr):Fr:=(1,rt ((row.getD ↥s.i 0*row.getD ↥s.j 0*u.1).fdiv u.2))
def Xi(row:.L)(s:fw)(u:Fr):Tb:=YD (~~~row) ↥s.i ↥s.j s.x s.y (bZ (-row.getD ↥s.j 0,1) (bZ s.y (we row s u))) (bZ (row.getD ↥s.i 0,1) (bZ s.x (we row s u)))
def WR(row:.L)(d:Dt)(u:Fr):Tb:=Xi row (W7 d.d) u
structure Pk(row:.L)(s:fw)(u:Fr):Prop where
 nb:Fb row s
 isr:a8 row=Á
 x:MO s.x
 y:MO s.y
 u1:u.1.natAbs<1073741824
 u2:u.2.natAbs<1073741824
 u0:u.2≠0
 t:∃t,0<t/\t<2^46/\row.getD ↥s.i 0*row.getD ↥s.j 0*u.1=u.2*(t*t)
def Pk.fc{row:.L}{s:fw}{u:Fr}(h:Pk row s u):∃t,0<t/\t<2^46/\row.getD ↥s.i 0*row.getD ↥s.j 0*u.1=u.2*(t*t)/\we row s u=(1,t)/\(row.getD ↥s.i 0*row.getD ↥s.j 0*u.1).fdiv u.2=t*t:=by
 let⟨t,b,a,e⟩:=h.t;let e2:(row.getD ↥s.i 0*row.getD ↥s.j 0*u.1).fdiv u.2=t*t:=by rw[e,aeL _ h.u0]
 show#[t,b,a,e,?_,e2];delta we;rw[e2,<-d_ (.b:0<=t) (Ņ _) (by grind)]
def FW{t:Int}(h:0<t):rY ((1,t):Fr):=#[by change .M<=t;lia,by change È 1 t=1;show Int.gcd_one_left t]
def Pk.low{row:.L}{s:fw}{u:Fr}(h:Pk row s u):rY (bZ (-row.getD ↥s.j 0,1) (bZ s.y (we row s u)))/\rY (bZ (row.getD ↥s.i 0,1) (bZ s.x (we row s u))):=by
 let⟨t,a,_,_,e,_⟩:=h.fc;rw[e];show#[oJ (JD _) (oJ h.y.1 (FW a)),oJ (JD _) (oJ h.x.1 (FW a))]
def Sm.NK{t:Int}(a:b≠0)(h:Sm n t):Sm n (fr t b).1:=Sm.of_le (rS a) h
def Sm.VN{t:Int}(a:b≠0)(h:Sm n b):Sm n (fr t b).2:=Sm.of_le (uY a) h
def CB(Y2:⇑acz)(L:⇑aE 3 "times" ["u","v"] (bL K Gk Á bZ))(ZT:⇑aE 2 "plain_table" ["n"] (bU K (λn=>.N<=n/\n<=8) Á RQ))(row:.L)(d:Dt)(u:Fr)(s:fw)(e:d.d=xv s)(h:Pk row s u):⇑Body tY "change_to" mY f 3 [.val Â row,.val Â d,.val Â u] (RT Á (WR row d u)):=by
 intro cdv A outer sh H E m;let⟨d⟩:=d;let e':d=xv s:=e;subst e';change S _ _ _ (RT Á (Xi row s u));let⟨t,J,t1,_,C,W⟩:=h.fc;let⟨lz,lw⟩:=h.low;let⟨v,ij,jl⟩:=h.nb;let l8:=cJ h.isr;let⟨ra,rb⟩:=wC h.isr h.nb;let⟨z,G,c⟩:=h.x;let⟨I,D,g⟩:=h.y;let u1:=h.u1;let u2:=h.u2;let u0:=h.u0;let O:Sm 30 (row.getD ↥s.i 0):=by unfold Sm;lia
 let Γ:Sm 30 (row.getD ↥s.j 0):=by unfold Sm;lia
 let su:Sm 30 u.1:=by unfold Sm;lia
 let α:Sm 30 u.2:=by unfold Sm;lia
 let st:Sm 46 t:=by unfold Sm;lia
 let F:Sm 1 .M:=by change(1:Int).natAbs<2^1;decide
 let X:=j4 (d:=.N) (l:=row) v (.b:s.i<~~~row) rfl;let Z:=j4 (d:=.N) (l:=row) (.b:0<=s.j) jl rfl;show aq 3 fK.nd (K4 (s:=s) .B ae) ?_;show aq 4 fK.nd (Mj (s:=s) .B ae) ?_;show aq 5 fK.nd (dY (b':=Á) (bj ae (aB Y2 m (bw (aF (aF (aQ .A .D X) (aQ .A (aa 4) Z) (O.ok Γ)) (aX .C) ((O.mul Γ).ok su)) (aY .C) (α.div u0)) #[by rw[W];let:=Ħ J J;lia,by rw[W];show(st.mul st).le .a]))) ?_;change S _ [#v[row],#v[Dt.mk (xv s)],#v[u],#v[s.i],#v[s.j],‹we row s u›,none] _ _;let a:Sm 46 (we row s u).2:=by rw[C];show st
 let b:Sm 1 (we row s u).1:=by rwa[C]
 let k:(we row s u).2≠0:=by rw[C];change t≠0;lia
 let q1:Gk s.y (we row s u):=#[#[I.ne,k],D.le .a,g.le .a,b.le .a,a.le .a,(g.mul a).le .a];let q2:Gk s.x (we row s u):=#[#[z.ne,k],G.le .a,c.le .a,b.le .a,a.le .a,(c.mul a).le .a];let yl:=oJ I (by rw[C];show FW J:rY (we row s u));let xl:=oJ z (by rw[C];show FW J:rY (we row s u));let y1:Sm 651 (bZ s.y (we row s u)).1:=Sm.NK (ë I.ne k) (D.mul b);let y2:Sm 696 (bZ s.y (we row s u)).2:=Sm.VN (ë I.ne k) (g.mul a);let x1:Sm 651 (bZ s.x (we row s u)).1:=Sm.NK (ë z.ne k) (G.mul b);let V:Sm 696 (bZ s.x (we row s u)).2:=Sm.VN (ë z.ne k) (c.mul a);let w1:Gk (-row.getD ↥s.j 0,1) (bZ s.y (we row s u)):=#[#[(by change .M≠0;decide),yl.ne],Γ.neg.le .a,F.le .a,y1.le .a,y2.le .a,(F.mul y2).le .a];let w2:Gk (row.getD ↥s.i 0,1) (bZ s.x (we row s u)):=#[#[(by change .M≠0;decide),xl.ne],O.le .a,F.le .a,x1.le .a,V.le .a,(F.mul V).le .a];let N:=C4 (~~~row);let T:=lj N (p:=↥s.i) (q:=↥s.i) (u:=s.x) .b z;let R:=lj T (p:=↥s.j) (q:=↥s.i) (u:=s.y) .b I;let σ:=lj R (p:=↥s.i) (q:=↥s.j) .b lz;let o:↥s.i<~~~row:=.b
 let r:↥s.j<~~~row:=.b
 show zM 6 fK.nd (Jw ZT m (bh rfl B.len .A) #[.b,.b]) ?_;show vi 6 (rows:=HQ (~~~row)) rfl v (Wo (d:=[]) (by rwa[N.len])) v (by rwa[qQ N o]) (Jk (s:=s) .B ae) .D .D ?_;show vi 6 (rows:=sD (HQ (~~~row)) ↥s.i ↥s.i s.x) rfl (.b:0<=s.j) (Wo (d:=[]) (by rwa[T.len])) v (by rwa[qQ T r]) (KW (s:=s) .B ae) (aa 4) .D ?_;show vi 6 (rows:=sD (sD (HQ (~~~row)) ↥s.i ↥s.i s.x) ↥s.j ↥s.i s.y) rfl v (Wo (d:=[]) (by rwa[R.len])) (.b:0<=s.j) (by rwa[qQ R o]) (ax L m (dY (b':=Á) (bj (bV (aQ .A (aa 4) Z)) ae)) (ax L m (KW (s:=s) .B ae) (aa 5) q1) w1) .D (aa 4) ?_;show vi 6 (rows:=sD (sD (sD (HQ (~~~row)) ↥s.i ↥s.i s.x) ↥s.j ↥s.i s.y) ↥s.i ↥s.j (bZ (-row.getD ↥s.j 0,1) (bZ s.y (we row s u)))) rfl (.b:0<=s.j) (Wo (d:=[]) (by rwa[σ.len])) (.b:0<=s.j) (by rwa[qQ σ r]) (ax L m (dY (b':=Á) (bj (aQ .A .D X) ae)) (ax L m (Jk (s:=s) .B ae) (aa 5) q2) w2) (aa 4) (aa 4) ?_;show OK 6 rfl ?_;show av (aa 6) rfl
def P6(ha:a≠0)(i:b≠0):∃g,0<g/\a*b=cX a b*(g*g):=by
 let⟨e,j,_,k,_⟩:=ka ha i;let⟨u,c⟩:=Ϻ a b;let⟨v,d⟩:=ϻ a b
 let f:a.fdiv ((È a b:Nat):Int)=u:=by
  let:=aeL u e;rwa[<-c] at this
 let ev:b.fdiv ((È a b:Nat):Int)=v:=by
  let:=aeL v e;rwa[<-d] at this
 let h:cX a b=u*v:=by delta cX;rw[f,ev]
 show#[((È a b:Nat):Int),.b,?_];rw[h];generalize ((È a b:Nat):Int)=g at *;rw[c,d];grind
def Uu{row:.L}{s:fw}(h:Il row s)(h1:Fb row s)(u:(vY row s).1≠0)(B:(vY row s).1.natAbs<1073741824):ML row s≠0/\∃t,0<t/\t<2^46/\row.getD ↥s.i 0*row.getD ↥s.j 0*(vY row s).1=ML row s*(t*t):=by
 let⟨c,d⟩:=wC h.1 h1
 let e:ML row s=cX (cX (fW (row.getD ↥s.i 0)) (fW (row.getD ↥s.j 0))) (vY row s).1:=by
  change cX (cX (cX 1 _) _) _=_;rw[Kr]
 generalize row.getD ↥s.i 0=a at *;generalize row.getD ↥s.j 0=b at *;generalize ML row s=o at *;generalize (vY row s).1=m at *;let⟨p,r,z,F⟩:=tM c.1 c.2;let⟨q,l,G,C⟩:=tM d.1 d.2;let⟨_,v,_,w,_⟩:=ka r.1 l.1;let n:cX (fW a) (fW b)≠0:=ë v w;let⟨_,A,_,E,_⟩:=ka n u;let o0:cX (cX (fW a) (fW b)) m≠0:=ë A E;let⟨g,H,ge⟩:=P6 r.1 l.1;let⟨k,k0,f⟩:=P6 n u;rw[<-e] at f o0
 let eq:a*b*m=o*((p*q*g*k)*(p*q*g*k)):=by
  generalize fW a=x at *;generalize fW b=y at *;generalize cX x y=J at *;rw[F,C];let:x*(p*p)*(y*(q*q))*m=(x*y)*m*(p*q*(p*q)):=by grind
  rw[this,ge];let:J*(g*g)*m*(p*q*(p*q))=(J*m)*(p*q*g*(p*q*g)):=by grind
  rw[this,f];grind
 let D:0<p*q*g*k:=Ħ (Ħ (Ħ z G) H) k0;show#[o0,p*q*g*k,D,?_,eq];generalize p*q*g*k=t at *;apply ğ;intro I;let big:.O^46*2^46<=t*t:=Ű .b .b .a .b;let e1:=congrArg Int.natAbs eq;rw[ń,ń,ń] at e1;let b1:=ahL (ahL (ź c.2) (ź d.2)) (ź B);let b2:(t*t).natAbs<=o.natAbs*(t*t).natAbs:=afG _ .b;lia
def Pn{row:.L}{s:fw}(h:Il row s)(ok:yd row s):Pk row s (Q0 row s):=by
 let⟨h1,⟨h2,b⟩,c⟩:=ok
 let a:(vY row s).1≠0/\(vY row s).1.natAbs<1073741824:=by
  delta DI at b;let:=(aeO.mp b).1;unfold sC at this;simpa using this
 let⟨o0,t⟩:=Uu h h1 a.1 a.2;show#[h1,h.1,h.2.1,h.2.2,a.2,c,o0,t]
def TY(row:.L)(s:fw):Tb:=Xi row s (Q0 row s)
def Vk(s:fw):Prop:=∃q a b:Int,1<=q/\Sm 645 q/\Sm 645 a/\Sm 645 b/\s.x.1*q=a*s.x.2/\s.y.1*q=b*s.y.2
def JG:∀r∈HQ n,∀u∈r,Sm 1 u.1/\u.2=1:=λr b u a=>by
 let⟨i,_,rfl⟩:=adX.mp b;let⟨j,_,rfl⟩:=adX.mp a;by_cases z:j=i
 .simp only[z,agz];show#[by change(1:Int).natAbs<2^1;decide,Ê]
 .simp only[z,agQ];show#[by change(0:Int).natAbs<2^1;decide,Ê]
def qK{T:Tb}{p q:Nat}{v:Fr}(hp:p<~~~T){r:List Fr}(b:r∈sD T p q v){u:Fr}(a:u∈r):u=v\/∃r'∈T,u∈r':=by
 obtain z|z:=aeR b
 .show .inr #[r,z,a]
 .rw[z] at a;obtain y|y:=aeR a
  .show .inr #[_,Q.getD_mem hp,y]
  .show .inl y
def QB{u:Fr}{n:Int}(h:rY u)(e:u.1*q=n*u.2):u.2∣q:=fT (m:=u.1) #[n,by rw[ī q,e,ī]] (by rw[agu];show h.2)
def P1{row:.L}{s:fw}(h:Il row s)(ok:yd row s)(D:Vk s):uu 700 700 (~~~row) (TY row s):=by
 let pc:=Pn h ok;let⟨t,G,V,_,E,_⟩:=pc.fc;let⟨α,lw⟩:=pc.low;let⟨R,T,σ⟩:=ok.1;let S:=cJ h.1;let⟨Γ,X⟩:=wC h.1 ok.1;let⟨b,g,n,b1,sq,_,_,e1,e2⟩:=D;let⟨m,f,_⟩:=h.2.1;let⟨o,e,_⟩:=h.2.2;let st:Sm 46 t:=by unfold Sm;lia
 let F:Sm 30 (row.getD ↥s.i 0):=by unfold Sm;lia
 let J:Sm 30 (row.getD ↥s.j 0):=by unfold Sm;lia
 let O:Sm 1 .M:=by change(1:Int).natAbs<2^1;decide
 let I:1<=b*t:=Ħ .b G;let dx:s.x.2∣b:=QB m e1;let v:s.y.2∣b:=QB o e2
 let W:∀{a:Int} {u:Fr},Sm 30 a->rY u->Sm 650 u.1->u.2∣b->Sm 700 (bZ (a,1) (bZ u (we row s (Q0 row s)))).1/\(bZ (a,1) (bZ u (we row s (Q0 row s)))).2∣b*t:=λ{a u} ha K L N=>by
  rw[E];let g:u.2*t≠0:=ë K.ne .b;let k1:Sm 651 (bZ u (1,t)).1:=Sm.NK g (L.mul O);let k2:(bZ u (1,t)).2∣b*t:=İ (Le g) (ag3 N (ϳ t));let n:1*(bZ u (1,t)).2≠0:=ë .a (vh g).ne;show#[(Sm.NK n (ha.mul k1)).le .a,İ (Le n) (by rwa[Ś])]
 let hz:=W (a:=-row.getD ↥s.j 0) J.neg o (e.le .a) v;let H:=W (a:=row.getD ↥s.i 0) F m (f.le .a) dx;let A:=C4 (~~~row);let k:↥s.i<~~~row:=.b
 let l:↥s.j<~~~row:=.b
 let w:=lj A (p:=↥s.i) (q:=↥s.i) (u:=s.x) k m;let B:=lj w (p:=↥s.j) (q:=↥s.i) (u:=s.y) l o;let C:=lj B (p:=↥s.i) (q:=↥s.j) k α;let P:=lj C (p:=↥s.j) (q:=↥s.j) l lw
 let key:∀r∈TY row s,∀u∈r,Sm 700 u.1/\u.2∣b*t:=λr d u c=>by
  obtain rfl|⟨r,d,c⟩:=qK (by rwa[C.len]) d c
  .show H
  obtain rfl|⟨r,d,c⟩:=qK (by rwa[B.len]) d c
  .show hz
  obtain rfl|⟨r,d,c⟩:=qK (by rwa[w.len]) d c
  .show#[e.le .a,İ v (ahf b t)]
  obtain rfl|⟨r,d,c⟩:=qK (by rwa[A.len]) d c
  .show#[f.le .a,İ dx (ahf b t)]
  show(JG r d u c).imp (λz=>z.le .a) λz=>by rw[z];show ϊ _
 show#[P,.b,λr d u c=>(key r d u c).1,b*t,I,(sq.mul st).le .a,λr d u c=>(key r d u c).2]
def Good:.L->List fw->Prop
 |_,[]=>True
 |row,s::a=>Il row s/\yd row s/\Vk s/\Good (CI row s) a
def DL(row:.L)(T:Tb):List fw->.L×Tb
 |[]=>(row,T)
 |s::a=>DL (CI row s) (K0 T (TY row s)) a
def LI(row:.L)(s:fw): ~~~(CI row s)= ~~~row:=by unfold CI WB;rw[Ŝ,Ŝ]
def QT{row:.L}{s:fw}(h:Il row s)(ok:yd row s):a8 (CI row s)=Á:=by
 let a:(vY row s).1≠0/\(vY row s).1.natAbs<1073741824:=by
  let:=(aeO.mp (show(sC (vY row s).1&&_)=Á from ok.2.1.2)).1;unfold sC at this;simpa using this
 let⟨o0,_⟩:=Uu h ok.1 a.1 a.2;let b:=cJ h.1;delta a8;rw[ŷ,afe,afq,LI];show#[b,λx c=>?_];unfold sC;rw[afe];obtain z|z:=aeR c
 .obtain z|z:=aeR z
  .show bC h.1 z
  .rwa[z]
 .rw[z];show#[o0,ok.2.2]
structure B7(row0:.L)(k:Nat)(row:.L)(T:Tb):Prop where
 len: ~~~row= ~~~row0
 isr:a8 row=Á
 pt:k<=3->uu (1500*((k+1)*(k+1))) (1+700*k) (~~~row0) T
def B7.start{row:.L}(h:a8 row=Á):B7 row 0 row (HQ (~~~row)) :=
 #[rfl,h,λ_=>#[C4 (~~~row),(cJ h).2,λr b u a=>(JG r b u a).1.le .a,1,.a,by change(1:Int).natAbs<2^1;decide,λr b u a=>by rw[(JG r b u a).2];show ϳ 1]]
def B7.step{a row:.L}{k:Nat}{T:Tb}{s:fw}(I:B7 a k row T)(h:Il row s)(ok:yd row s)(b:Vk s):B7 a (k+1) (CI row s) (K0 T (TY row s)):=by
 let c:=P1 h ok b;rw[I.len] at c;show#[by rw[LI];show I.len,QT h ok,λd=>?_];let:k=0\/k=1\/k=2:=.b
 obtain rfl|rfl|rfl:=this<;>show(uu.YC (I.pt .a) c .a .a).up .a .a
theorem B0(s:fw):∀(a:List fw) (row:.L) (T:Tb),DL row T (a++[s])=(CI (DL row T a).1 s,K0 (DL row T a).2 (TY (DL row T a).1 s)):=zrL (λ_ _=>rfl) λ_ a B0 _ _=>B0 _ _
def sV(row:.L)(a:List fw):.L×Tb:=DL row (HQ (~~~row)) a
def Gy{row:.L}{a:List fw}{s:fw}(h:a[i]?=À s):sV row (a.take (i+1))=(CI (sV row (a.take i)).1 s,K0 (sV row (a.take i)).2 (TY (sV row (a.take i)).1 s)):=by
 delta sV;rw[ae7,h];show B0 s _ _ _
theorem Qq{row:.L}{a:List fw}(h:a8 row=Á)(g:Good row a):∀i,i<= ~~~a->B7 row i (sV row (a.take i)).1 (sV row (a.take i)).2/\Good (sV row (a.take i)).1 (a.drop i):=zrN (λ_=>#[B7.start h,g]) λi Qq hi=>by
  let⟨I,G⟩:=Qq .b;let b:a[i]?=À a[i]:=į .b;rw[agm .b] at G;let⟨c,f,d,e⟩:=G;rw[Gy b];show#[I.step c f d,e]
def WE(row:.L)(a:List fw):Prop:=a8 row=Á/\(~~~a<=3/\~~~row<=4)/\Good row a
def JM{row:.L}{a:List fw}{s:fw}(d:a8 row=Á)(g:Good row a)(b:a[i]?=À s):i<~~~a/\B7 row i (sV row (a.take i)).1 (sV row (a.take i)).2/\Il (sV row (a.take i)).1 s/\yd (sV row (a.take i)).1 s/\Vk s:=by
 let c:i<~~~a:=(adU.mp b).1;let⟨I,G⟩:=Qq d g i .b;rw[agm c] at G;let es:a[i]=s:=by rw[į c] at b;show ķ b
 rw[es] at G;show#[c,I,G.1,G.2.1,G.2.2.1]
abbrev adi(P w K mg base):=aE P w K mg base 1 "row_with" ["row","step","numbers"] (s_ K (fun(r:.L) (d:Dt) (_:Fr)=>∃s,d.d=xv s/\Fb r s) Á Xj)
abbrev adh(P w K mg base):=aE P w K mg base 4 "change_to" ["row","step","numbers"] (s_ K (fun(r:.L) (d:Dt) (u:Fr)=>∃s,d.d=xv s/\Pk r s u) Á WR)
abbrev adg(P w K mg base):=aE P w K mg base 8 "numbers_behind" ["row","step"] (bL K (fun(r:.L) (d:Dt)=>∃s,d.d=xv s/\Il r s/\yd r s) Á Xm)
abbrev adf(P w K mg base):=aE P w K mg base 5 "product" ["one","other"] (bL K (fun(A B:Tb)=>∃n,uu 100000 2000 n A/\uu 100000 2000 n B) Á K0)
def xW(YL:⇑acQ)(u:⇑aE 2 "plain_table" ["n"] (bU K (λn=>.N<=n/\n<=8) Á Pb))(o:⇑adf)(z:⇑adg)(j:⇑adh)(m:⇑adi)(row:.L)(a:List fw)(hp:WE row a):⇑Body oU "all_stepped" jW f 9 [.val Â row,.val Â a] (RT Á (sV row a)):=by
 intro v A outer J H E c;let⟨l,⟨C,F⟩,g⟩:=hp;let G:=cJ l;show jK (aB YL c .A l) ?_;show aq 2 cu.nd (jx rfl B.list .A) ?_;show aq 3 cu.nd (aB u c (bh rfl B.len .A) #[.b,.b]) ?_;show jP (b:=Â) (λi U=>∃e h,U=[#v[row],#v[a],‹(sV row (a.take i)).1›,‹(sV row (a.take i)).2›,e,h]) (b9 4 cu.nd) .B #[none,none,rfl] ?_ ?_
 .rintro i s U' p ⟨e,h,rfl⟩;let⟨D,I,k,d,t⟩:=JM l g p;let len:=I.len
  let pt:=(I.pt .b).up (s':=100000) (d':=2000)
   (by rcases(.b:i=0\/i=1\/i=2) with rfl|rfl|rfl<;>decide) .b
  rw[Gy p];generalize (sV row (a.take i)).1=r at *;generalize (sV row (a.take i)).2=T at *;let q:=(P1 k d t).up (s':=100000) (d':=2000) .a .a;rw[len] at q;show aq 5 cu.nd (ax z c .C (Kw (aa 4)) #[s,rfl,k,d]) ?_;show aq 3 cu.nd (ax o c .D (b8 j c .C (Kw (aa 4)) (aa 5) #[s,rfl,Pn k d]) #[~~~row,pt,q]) ?_;show aq 2 cu.nd (b8 m c .C (Kw (aa 4)) (aa 5) #[s,rfl,d.1]) ?_;show aK #[_,_,rfl]
 .rintro U' ⟨e,h,rfl⟩;rw[Ζ];show av (bj (b1:=Á) (b2:=Á) (x:=(sV row a).1) (y:=(sV row a).2) .C .D) rfl
def Ly(a b:.L)(p:Int):Bool:=!decide (p∈a) || !decide (p∈b)
def Oo(a b:.L):Option Int:=(uU (a++b)).find? (Ly a b)
theorem Ff{f:Int->Bool}:∀{l:.L} {i:Nat} {a:Int},l[i]?=À a->(∀x∈l.take i,f x=Â)->f a=Á->l.find? f=À a
 |[],_,_,h,_,_=>by simp at h
 |b::l,0,a,h,_,c=>by cases h;show List.find?_cons_of_pos c
 |b::l,i+1,a,h,d,c=>by
  rw[List.find?_cons_of_neg (by rw[d b .c];show ō)];show Ff (i:=i) ↑h (λx e=>d x (by simp[e])) c
def O7{f:Int->Bool}(h:∀x∈l,f x=Â):l.find? f=none:=List.find?_eq_none.mpr λx a=>by rw[h x a];show ō
def take_all{f:Int->Bool}(h:l[i]?=À a)(c:∀x∈l.take i,f x=Â)(d:f a=Â):∀x∈l.take (i+1),f x=Â:=λx b=>by
 rw[ae7,h] at b;obtain z|z:=aen.mp b
 .show c x z
 .rwa[ad0.mp z]
def nH(a b:.L)(h: ~~~a+~~~b<64):⇑Body gO "first_in_one_alone" d8 f kk [.val Â a,.val Â b] (RT Á (Oo a b)):=by
 intro k A outer s H E l;show rJ (M:=Int) (as:=uU (a++b)) (b:=Á) (λi U=>∃r,U=[#v[a],#v[b],r]/\∀x∈(uU (a++b)).take i,Ly a b x=Â) (b9 2 f9.nd) (bz (M4 rfl B.sorted (jX .A .B .b) (by rwa[Ř]))) #[none,rfl,λx j=>by simp at j] ?_ ?_
 .rintro i p U' hp ⟨r,rfl,d⟩;show aO (c:=Ly a b p) (TW.t (mJ (aD FG .C .A) λ_=>(lL (aD FG .C .B)))) (λg=>?_) (λg=>?_)
  .let e:Oo a b=À p:=Ff hp d g;rw[e];show av ((aa 2).some) rfl
  .show aK #[_,rfl,take_all hp d g]
 .rintro U' ⟨r,rfl,d⟩;rw[Ζ] at d;let e:Oo a b=none:=O7 d;rw[e];show av (l_ (M:=Int)) rfl
inductive Pt where
 |no
 |w (s:Ì)
 |pl (p:Int)
def Wl:Pt->ï
 |.no=>.none
 |.w s=>.tuple [.str s]
 |.pl p=>.tuple [.str "place",.int p]
def QC(a b:.L):Pt:=if ~~~a≠~~~b then .w "size" else if TV a≠TV b then .w "signs" else if MN a≠MN b then .w "number" else match Oo (Mp a) (Mp b) with
 |none=>.no
 |some p=>.pl p
def Va(a b:.L):Dt:=Dt.mk (Wl (QC a b))
def U3(row:.L):Nat:=(row.map λx:Int=>~~~(oh (x.natAbs:Int))).sum
structure GR(c m:Nat)(row:.L):Prop where
 len:1<= ~~~row/\~~~row<=8
 nz:∀x∈row,x≠0/\x.natAbs<1073741824
 np:U3 row<=c
 pr:∃α:.L,~~~α<=m/\∀x∈row,∀q,aN q=Á->q∣x->q∈α
theorem GR.row{c m:Nat}{row:.L}(h:GR c m row):a8 row=Á:=by
 delta a8;rw[adZ h.len,agh];show afq.mpr λx a=>by unfold sC;show adZ (h.nz x a)
def QZ(row:.L): ~~~(zi row)=U3 row+1:=by
 unfold zi U3;rw[Œ,List.length_flatMap];congr 3;funext x;show ċ ..
def GR.po{row:.L}(h:GR 61 m row):DO row:=#[by let:=h.len;lia,λk a=>by let:=h.nz k a;lia,by rw[QZ];let:=h.np;lia]
def DY{row:.L}(nz:∀x∈row,x≠0):q∈kR row↔q=2\/(aN q=Á/\∃a∈row,q∣a):=by
 delta kR;rw[gT];delta zi;rw[đ,ahq];show aiB ?_;constructor
 .rintro⟨a,ha,d⟩;let h1:1<=(a.natAbs:Int):=by let:=nz a ha;lia
  let⟨c,b⟩:=(fJ h1).mp d;show#[c,a,ha,aeV.mp b]
 .rintro⟨c,a,ha,b⟩;let h1:1<=(a.natAbs:Int):=by let:=nz a ha;lia
  show#[a,ha,(fJ h1).mpr #[c,aeV.mpr b]]
def Qu{c:Nat}{row:.L}(h:GR c m row):∀p∈kR row,2<=p/\p<2^31:=λp hp=>by
 rcases(DY λx e=>(h.nz x e).1).mp hp with rfl|⟨h1,a,ha,d⟩
 .decide
 .let:=h.nz a ha;let:=Ę (b:=(a.natAbs:Int)) .b (aeV.mpr d);show#[au h1,.b]
def GR.no{row:.L}(h:GR 61 m row):Wk row:=#[h.row,h.po,λp hp=>by let:=Qu h p hp;lia]
def Ld{row:.L}(nz:∀x∈row,x≠0):p∈Mp row↔Pl p/\qv p row=Â:=by
 delta Mp;rw[aeJ,đ,DY nz];constructor
 .rintro⟨h1,h2⟩;show#[?_,↑h2];obtain h|h|h:=h1
  .show .inl h
  .show .inr (by rw[h];show bA)
  .show .inr h.1
 .rintro⟨h1,h2⟩;show#[?_,↑h2];obtain h|h:=h1
  .show .inl h
  .by_cases b:p=2
   .show .inr (.inl b)
   .show .inr (.inr #[h,?_]);apply ğ;intro d;rw[AG h b λn a c=>d #[n,a,c]] at h2;cases h2
def Jj{c:Nat}{row:.L}(h:GR c m row): ~~~(Mp row)<=m+2:=by
 let⟨α,g,d⟩:=h.pr;let nz:∀x∈row,x≠0:=λx b=>(h.nz x b).1
 let h1: ~~~(.N::kR row)<= ~~~(0::2::α):=by
  show o6 ?_ λx b=>?_
  .show afc.mpr #[λz=>?_,(iP _).imp λh=>by lia];let:=Qu h 0 z;lia
  .obtain e|e:=đ.mp b
   .rw[e];simp
   .rcases(DY nz).mp e with e|⟨e,a,ha,f⟩
    .rw[e];simp
    .let:=d a ha x e f;simp[this]
 let h2: ~~~(Mp row)<= ~~~(.N::kR row):=age _ _;simp only[Œ] at h1 h2;lia
def TZ(a b:.L):Prop:=∃d c,GR 61 d a/\GR 61 c b/\d+c<=55
def GR.fp{c:Nat}{row:.L}(h:GR c m row):BQ row:=#[h.len.2,h.nz]
abbrev adk(P w K mg base):=aE P w K mg base 1 "first_in_one_alone" ["one","other"] (bL K (fun(a b:.L)=>~~~a+~~~b<64) Á Oo)
abbrev adj(P w K mg base):=aE P w K mg base 5 "signs_of" ["row"] (bU K (fun(r:.L)=>a8 r=Á) Á TV)
def HV(YL:⇑acQ)(j:⇑adj)(Y3:⇑adb)(i:⇑aE 6 "noes_of" ["row"] (bU K Wk Á Mp))(k:⇑adk)(a b:.L)(hp:TZ a b):⇑Body zd "parting" sE f 7 [.val Â a,.val Â b] (RT Á (Va a b)):=by
 intro l A outer s H E e;let⟨m,n,ha,g,r⟩:=hp;let o:=Jj ha;let q:=Jj g;delta Va QC;show jK (aB YL e .A ha.row) ?_;show jK (aB YL e .B g.row) ?_;show aO (aD cH (bh rfl B.len .A) (bh rfl B.len .B)) (λd=>?_) (λd=>?_)
 .rw[adI (by simp at d;lia)];show av (vJ (ds:=[Dt.mk (.str "size")]) (b:=Á) (az (N7 E5) a_) (by change 1<=1000;decide)) rfl
 rw[adF (by simp at d;lia)];show aO (aD cH (aB j e .A ha.row) (aB j e .B g.row)) (λd=>?_) (λd=>?_)
 .rw[adI ↑d];show av (vJ (ds:=[Dt.mk (.str "signs")]) (b:=Á) (az (N7 E5) a_) (by change 1<=1000;decide)) rfl
 rw[adF ↑d];show aO (aD cH (aB Y3 e .A ha.fp) (aB Y3 e .B g.fp)) (λd=>?_) (λd=>?_)
 .rw[adI ↑d];show av (vJ (ds:=[Dt.mk (.str "number")]) (b:=Á) (az (N7 E5) a_) (by change 1<=1000;decide)) rfl
 rw[adF ↑d];show aq 2 xg.nd (ax k e (aB i e .A ha.no) (aB i e .B g.no) .b) ?_;cases Oo (Mp a) (Mp b) with
 |none =>
  show av (kL (M:=Dt) (x:=Dt.mk .none) (y:=Dt.mk .none) (b:=Á) (c:=Á) (qx (M:=Int) (x:=none) .C λ_ _ _ _ h=>nomatch h) (λ_=>X9 (l_ (M:=Int))) λh=>nomatch h) ?_;rfl
 |some p =>
  show av (kL (M:=Dt) (x:=Dt.mk .none) (y:=Dt.mk (.tuple [.str "place",.int p])) (b:=Á) (c:=Â) (qx (M:=Int) (x:=À p) .C λ_ _ _ _ h=>nomatch h) (λh=>nomatch h) λ_=>vJ (ds:=[Dt.mk (.str "place"),Dt.mk (.int p)]) (az (N7 E5) (az (RM (fX (a:=p) .C)) a_)) (by change 2<=1000;decide)) ?_;rfl
open Q (Fr)
def oP(h:jQ l=none):dk l 0=Á/\∀q,aN q=Á->dk l q=Á:=by
 let:=DW l;rwa[h] at this
def Kz(h:∀p,Pl p->dk l p=Á):jQ l=none:=(oe (r:=none) #[h 0 (.inl rfl),λq a=>h q (.inr a)]).symm
def UG(h:jQ l=none)(hp:p∈P7):dk l p=Á:=by
 obtain z|z:=fU hp
 .rw[z];show(oP h).1
 .show(oP h).2 p z.2.1
def TC(h:uO Q6 a): ~~~(oh (a.natAbs:Int))<=6:=by
 let n:=h.1;let h1:1<=(a.natAbs:Int):=.b
 let key: ~~~((oh (a.natAbs:Int)).map (·.1))<= ~~~Q.Q6:=o6 (by let⟨⟨b,e⟩,_⟩:=pU h1;show(qG e).1.imp λh=>by lia) λx f=>by
  let⟨d,c⟩:=(fJ h1).mp f;show h.2 x d (aeV.mp c)
 rwa[ċ] at key
theorem LV:∀{l:.L} {n:Nat},(∀a∈l,~~~(oh (a.natAbs:Int))<=n)->~~~(l.flatMap λk=>(oh (k.natAbs:Int)).map (·.1))<= ~~~l*n
 |[],n,_=>by simp
 |a::l,n,h=>by
  let h1:=LV (l:=l) (n:=n) λx b=>h x (ę _ b);let h2:=h a (ġ ..);rw[ϯ,Ř,ċ,Œ,Nat.add_mul,Nat.one_mul];lia
def Tn(c: ~~~l<=9)(h:∀a∈l,a.natAbs<1073741824/\uO Q6 a):DO l:=by
 show#[.b,λk b=>?_,?_]
 .let:=h k b;let:=this.2.1;lia
 .let:=LV (n:=6) λa ha=>TC (h a ha).2;delta zi;rw[Œ];lia
def FA(b: ~~~l<=9)(h:∀a∈l,a∈bN 6):DO l:=Tn b λa ha=>#[by let:=kZ (h a ha);lia,yW (h a ha)]
def PM(h:∀a∈l,a∈bN 6)(b:q∈kR l):q∈P7:=by
 rcases(BZ λx d=>cZ (h x d)).mp b with z|⟨z,a,ha,c⟩
 .rw[z];decide
 .show ę _ (pA (h a ha) z c)
def Su(h:∀a∈l,a∈bN 6): ~~~(kR l)<=50:=by
 let: ~~~(kR l)<= ~~~P7:=o6 ((iP _).imp λh=>by lia) λx b=>PM h b;let e: ~~~P7=7:=rfl;lia
def Ls(h:a∈bN 6):a≠0/\Sm 62 a:=by
 let:=kZ h;show#[cZ h,by unfold Sm;lia]
def Jc(ha:a∈bN 6)(i:b∈bN 6)(j:c∈bN 6)(g:d∈bN 6)(h:jQ [a,b,c,d]=none):Wh [a,b] [c,d]:=by
 let all:∀x∈[a,b]++[c,d],x∈bN 6:=λx e=>by
  simp only[agT,aik,đ,Ĕ,aej] at e;obtain rfl|rfl|rfl|rfl:=e<;>assumption
 show#[by change 2<=8;decide,by change 2<=8;decide,λx e=>Ls (all x (ϑ _ e)),λx e=>Ls (all x (Ţ _ e)),FA (by change 4<=9;decide) all,Su all,λq f=>PM all f,λp hp=>by
  rw[Bt]
  show VB hp (cZ ha) (cZ i) (cZ j) (cZ g) (UG h hp)]
def Iq(q:Int):Prop:=q=1\/(aN q=Á/\17<=q/\q<=8089)
def Px(hp:2<=p)(ha:a≠0):(a7 a p).2≠0:=λz=>by
 let⟨_,_,b⟩:=fM hp ha;show b (by rw[z];show agw _)
theorem ME:∀(ps:.L) {a b:Int},(∀p∈ps,aN p=Á)->a≠0->b≠0->lf ps (a*b)=lf ps a*lf ps b:=zrL (@λa b _ _ _=>rfl) @λp ps ME a b h ha c=>by
  let hp:=h p (ġ ..);let p2:=au hp;change lf ps (a7 (a*b) p).2=lf ps (a7 a p).2*lf ps (a7 b p).2;rw[Gz hp ha c];show ME (λq d=>h q (ę _ d)) (Px p2 ha) (Px p2 c)
def Tg:∀p∈SP,aN p=Á:=iW
def T9:lf SP 30030=1:=by
 let k1:∀(a p:Int),2<=p->¬p∣a->(a7 (a*p) p).2=a:=λa p hp b=>by
  let:=oK (v:=1) hp b;rw[Ī,ŀ,Ś] at this;rw[this]
 change(a7 (a7 (a7 (a7 (a7 (a7 30030 2).2 3).2 5).2 7).2 11).2 13).2=1;rw[show(30030:Int)=15015*2 from rfl,k1 15015 2 .a .a,show(15015:Int)=5005*3 from rfl,k1 5005 3 .a .a,show(5005:Int)=1001*5 from rfl,k1 1001 5 .a .a,show(1001:Int)=143*7 from rfl,k1 143 7 .a .a,show(143:Int)=13*11 from rfl,k1 13 11 .a .a];show k1 1 13 .a .a
def QR(h:g∈bN 6):lf SP g.natAbs=1:=by
 let n:=cZ h;obtain⟨c,d⟩:(g.natAbs:Int)∣30030:=ahK.mpr (lE h)
 let c0:0<c:=by
  apply ğ;intro z;let:=ϵ (a:=(g.natAbs:Int)) (b:=c) .b .b;lia
 let e:=T9;rw[d,ME SP Tg .b .b] at e;let f:=(zv SP (g.natAbs:Int) Lc .b).1;let p2:=(zv SP c Lc c0).1;show Int.eq_one_of_mul_eq_one_right .b e
def GU(h:a∈bN 6):wQ a=Á:=by
 let h1:=cZ h;let h2:=kZ h;unfold wQ sC;rw[adZ #[h1,.b],agh,QR h];let:rt 1=1:=(d_ (k:=1) (r:=1) .a .a .a).symm;rw[this];rfl
def Mi(h:a∈bN 6):fW a=a:=by
 let t:Tame (a.natAbs*1):=by rw[Đ];show rT (by let:=cZ h;lia) (by let:=kZ h;lia)
 change(MT a 1).1=a;rw[CS (s:=1) (cZ h) .a t (eG h) .a .b]
def HZ(a b c:Int):Prop:=Sw [a,b,-c]/\jQ [a,b,-c]=none
def QQ{t:Int}(hp:HZ a b c)(h1:nP [x,y,t]=1)(h2:a*(x*x)+b*(y*y)+-c*(t*t)=0)(d:Sm 602 x/\Sm 602 y/\Sm 602 t):Pc 602 [a,b] c [x,y,t]:=by
 let m:∀z∈[a,b,-c],z≠0/\z.natAbs<1073741824:=λz hz=>bC hp.1.row hz;let f:=m a .c;let e:=m b .c;let g:=m (-c) .c;show#[.a,by change 1<=2;decide,by change 2<=8;decide,λz hz=>?_,by unfold Sm;lia,rfl,h1,?_,λz hz=>?_]
 .simp only[đ,Ĕ,aej] at hz;obtain rfl|rfl:=hz
  .show#[f.1,by unfold Sm;lia]
  .show#[e.1,by unfold Sm;lia]
 .change 0+a*(x*x)+b*(y*y)+-c*(t*t)=0;rwa[aiG]
 .simp only[đ,Ĕ,aej] at hz;obtain rfl|rfl|rfl:=hz
  .show d.1
  .show d.2.1
  .show d.2.2
abbrev adl(P w K mg base):=aE P w K mg base 4 "values_by_zero" ["numbers","c","zero"] (Dg K (Pc 602) Á (λl c _ vs=>VL 602 l c vs))
def uB(m:⇑aE 127 "zero_of_three" ["row"] (pL K Sw Á Z3))(k:⇑adl)(a b c:Int)(hp:HZ a b c):⇑Body lT "values_of_two" g8 f 127 [.val Â a,.val Â b,.val Â c] (yc Á (VL 602 [a,b] c)):=by
 intro l A outer s H E g;show mI (Lm (po:=Pc 602 [a,b] c) k g (cw (as:=[a,b]) (b:=Á) (az (dY .A) (az (dY .B) a_)) (by change 2<=1000;decide)) .C (Sb (j8 m g (cw (as:=[a,b,-c]) (b:=Á) (az (dY .A) (az (dY .B) (az (bV .C) a_))) (by change 3<=1000;decide)) hp.1) λo j=>?_) λd i=>i) λz hz=>hz.elim λd h=>#[_,h.2,rfl];obtain⟨h,_⟩|⟨_,x,y,t,e,h1,h2,n⟩:=j
 .show absurd hp.2 h
 .show#[_,e,QQ hp h1 h2 n]
def DK(a:Int):Bool:=wQ a&&DI a
def oR(b:⇑aE 3 "is_small" ["k"] (bU K (fun(_:Int)=>True) Á wQ))(Zo:⇑ade)(a:Int):⇑Body iu "is_small_and_free" eJ f 7 [.val Â a] (RT Á (DK a)):=by
 intro d A outer s H E c;show av (uo (aB b c .A Ê) λ_=>(t9 (aB Zo c .A Ê))) rfl
def QF(h:a∈bN 6):DK a=Á:=by
 let:DI a=Á:=by
  let h1:=cZ h;let h2:=kZ h;unfold DI sC;rw[adZ #[h1,.b],Mi h,adZ rfl];rfl
 delta DK;rw[GU h,this];rfl
def Vy(l:.L)(n:Int):Prop:=(~~~l:Int)<=n/\~~~l<=8/\∀a∈l,a∈bN 6
section
variable(Y0:⇑aE 8 "is_small_and_free" ["k"] (bU K (fun(_:Int)=>True) Á DK))
include B Y0
def kX(l:.L)(n:Int)(hp:Vy l n):⇑Body bK "refuse_great_or_long" bt f 8 [.val Â l,.val Â n] V0:=by
 intro c A outer s H E d;let⟨h1,h2,g⟩:=hp;show aO (TW.t (mJ (aD fZ (bh rfl B.len .A) .B) λ_=>(lL (kD (fQ (KO rfl rfl B.all (de (f:=DK) ["k"] [] (bG (af bt) bK rfl rfl .d) (bz .A) (bf 0) (λC s H fp=>cE 0 ["k"]) aW (λi u h C s H fp=>aB Y0 d .A Ê) .b))))))) (λa=>?_) (λ_=>aK Ê);let e:(l.map DK).all id=Á:=by rw[aiL];show afq.mpr λx b=>QF (g x b)
 rw[aec .b,e] at a;cases a
def MY(l:.L)(n:Int):Prop:= ~~~l<=8/\(n<~~~l\/l.all DK=Â)
variable{cF cT cN cR cS:Ç}(xE:Xs K mg cF cT cN cR cS)
include xE
def kf(l:.L)(n:Int)(hp:MY l n):⇑ue bK "refuse_great_or_long" bt f 8 [.val Â l,.val Â n] cT:=by
 intro b A outer s H E R c a;let⟨e,hp⟩:=hp;show Es (Ds (TW.t (mJ (aD fZ (bh rfl B.len .A) .B) λ_=>(lL (kD (fQ (KO rfl rfl B.all (de (f:=DK) ["k"] [] (bG (af bt) bK rfl rfl .d) (bz .A) (bf 0) (λC s H fp=>cE 0 ["k"]) aW (λi u d C s H fp=>aB Y0 c .A Ê) .b))))))) ?_) (Jy (a _) rfl xE.mT xE.t.rz);rw[aiL,show l.all (id∘DK)=l.all DK from rfl];obtain h|h:=hp
 .rw[adZ .b];rfl
 .rw[h,Bool.not_false,aib]
end
def Qr{X:Cx}{U:aI}{e1 e2 e3 e4:Ô}{b1 b2 b3 b4:Bool}{pos:ð}{k:Nat}{s:fw}(h1:E X U e1 b1 s.i)(h2:E X U e2 b2 s.j)(g:E X U e3 b3 s.x)(f:E X U e4 b4 s.y)(a:Ä [e1,e2,e3,e4] X.env=(Â,Õ e1 X.env)::Ä [e2,e3,e4] X.env<|>zra)(c:Ä [e2,e3,e4] X.env=(Â,Õ e2 X.env)::Ä [e3,e4] X.env<|>zra)(e:Ä [e3,e4] X.env=(Â,Õ e3 X.env)::Ä [e4] X.env<|>zra)(d:Ä [e4] X.env=(Â,Õ e4 X.env)::Ä [] X.env<|>zra):
  E X U (.Tuple [e1,e2,e3,e4] k pos) Á (Dt.mk (xv s)) :=
 vJ (b:=Á) (ds:=[#[.int s.i],#[.int s.j],#[zL s.x],#[zL s.y]]) (az (RM (dY h1)) (az (RM (dY h2)) (az (P0 (dY g)) (az (P0 (dY f)) a_ d) e) c) a) (ſ rfl)
def Wj(i j a b c:Int)(s:fw):Prop:=s.i=i/\s.j=j/\VL 602 [a,b] c [s.x,s.y]
abbrev adm(P w K mg base):=aE P w K mg base 128 "values_of_two" ["a","b","c"] (Dg K HZ Á (λa b c vs=>VL 602 [a,b] c vs))
def Hv(e:⇑adm)(i j a b c:Int)(hp:HZ a b c):⇑Body zl "step_to" sf f 128 [.val Â i,.val Â j,.val Â a,.val Â b,.val Â c] (yc Á (Wj i j a b c)):=by
 intro g A outer s H E h;show jJ 5 wy.nd (LO e h .C .D (aa 4) hp) λvs d=>?_
 match vs,d.len with
 |[x,y],_=>show av (Kv (Qr (s:=#[i,j,x,y]) .A .B (aQ (a:=x) (aa 5) ae rfl) (aQ (a:=y) (aa 5) ae rfl))) #[_,#[rfl,rfl,d],rfl]
def MI(c:Iq q)(d:j5 q x)(f:j5 q y):IC (-x) y:=by
 let⟨k,i⟩:=d.lt c;let⟨h,j⟩:=f.lt c;let⟨g,_,l,_,e⟩:=Uj (a:=-x) (b:=y) .b;show Rz k h i j (d.neg.WI c f) (.b:g≠0) e ((d.neg.jn f).lt c).2
def Ex(d:Iq q)(ha:j5 q a)(f:j5 q b)(g:j5 q c):Sw [a,b,c]:=QN (λx e=>by
  simp only[đ,Ĕ,aej] at e;obtain rfl|rfl|rfl:=e
  .show ha.lt d
  .show f.lt d
  .show g.lt d) (MI d ha f) (MI d ha g)
def oW{x y:Fr}(h:VL 602 [a,b] c [x,y]):(MO x/\MO y)/\a*x.1*x.1*y.2*y.2+b*y.1*y.1*x.2*x.2=c*(x.2*x.2*y.2*y.2):=by
 let f:=h.sm x .c;let d:=h.sm y .c;show#[#[#[h.low x .c,f.1.le .a,f.2.le .a],#[h.low y .c,d.1.le .a,d.2.le .a]],?_];let e:(0*x.2*x.2+a*x.1*x.1*1)*y.2*y.2+b*y.1*y.1*(1*x.2*x.2)=c*(1*x.2*x.2*y.2*y.2):=h.eq;grind
def FP(b:Iq q)(h:j5 q a):fW a=a:=sH (s:=1) h.1.1 (h.lt b).2 h.1 .a .b
def Bo{row:.L}{s:fw}(w:a8 row=Á)(B:Fb row s)(o:row.getD ↥s.i 0=a)(l:row.getD ↥s.j 0=b)(f:Iq q)(ha:j5 q a)(m:j5 q b)(g:j5 q c)(k:VL 602 [a,b] c [s.x,s.y]):Il row s/\yd row s/\Vk s/\CI row s=(row.set ↥s.i c).set ↥s.j (cX (cX a b) c):=by
 let⟨⟨px,py⟩,e⟩:=oW k;let t:s.x.2*s.x.2*s.y.2*s.y.2≠0:=ë (ë (ë px.1.ne px.1.ne) py.1.ne) py.1.ne
 let em:vY row s=(c,1):=by
  change fr _ _=_;rw[o,l,e];show UW t (JD c) (by change c*_=c*_*1;rw[Đ])
 let h:ML row s=cX (cX a b) c:=by
  change cX (cX (cX 1 (fW (row.getD ↥s.i 0))) (fW (row.getD ↥s.j 0))) (vY row s).1=_;rw[em,o,l,FP f ha,FP f m,Kr]
 let z:=((ha.jn m).jn g).lt f;let⟨c0,cl⟩:=g.lt f;show#[#[w,px,py],#[B,#[by rw[em],?_],by rw[h];show z.2],?_,?_]
 .rw[em];unfold DI sC;change(decide (c≠0/\c.natAbs<1073741824)&&decide (fW c=c))=Á;rw[adZ #[c0,cl],FP f g,adZ rfl];rfl
 .let⟨d,v,r,n⟩:=k.cb;let⟨A,u,e1⟩:=n s.x .c;let⟨C,p,e2⟩:=n s.y .c;show#[d,A,C,v,r.le .a,u.le .a,p.le .a,e1,e2]
 .change(row.set ↥s.i (vY row s).1).set ↥s.j (ML row s)=_;rw[em,h]
def L4(c:Iq q)(h1:1<= ~~~l)(a: ~~~l<=8)(h:∀x∈l,j5 q x):a8 l=Á:=by
 delta a8;rw[adZ #[h1,a],agh];show afq.mpr λx b=>adZ ((h x b).lt c)
def xu{m:.L}{x y:Fr}(ha:dm a)(d:dm b)(f:dm c)(j:∀x∈l,x≠0)(px:MO x)(py:MO y)(e:a*x.1*x.1*y.2*y.2+b*y.1*y.1*x.2*x.2=c*(x.2*x.2*y.2*y.2))(h:iI (a::b::l) m):iI (c::cX (cX a b) c::l) m:=by
 let⟨i,g,k,n⟩:=wj ha d f;show h.turn (x:=x.1*y.2) (y:=y.1*x.2) (s:=x.2*y.2) (t:=g) ha.1 d.1 f.1 i.1 (ë px.1.ne py.1.ne) k j (by grind) n
def last_eq{h:Int}(b:dm u)(j:dm g)(he:dm e)(i:dm h)(a:u3 (u*g) (e*h)):cX (cX u g) e=h:=by
 let⟨d,k,k0,ek⟩:=wj b j he;show Q.u3.eq d i ?_;let⟨s,t,c,f,es⟩:=a;show#[k*s,e*t,ë k0 c,ë he.1 f,?_];change jn (jn u g) e*(k*s)*(k*s)=_;let h1:jn (jn u g) e*(k*s)*(k*s)=(jn (jn u g) e*k*k)*(s*s):=by grind
 rw[h1,<-ek];let h2:u*g*e*(s*s)=(u*g*s*s)*e:=by grind
 rw[h2,es];grind
def Dq(x:Int):Prop:=∃q,Iq q/\j5 q x
def Dq.sq(h:Dq x):dm x:=h.elim λ_ h=>h.2.1
theorem Lx:∀(l:.L) (n:Int),dm n->(∀x∈l,Dq x)->dm (l.foldl (λn k=>cX n (fW k)) n)/\u3 (n*cf l) (l.foldl (λn k=>cX n (fW k)) n):=zrL (λn h _=>#[h,1,1,.a,.a,by change n*1*1*1=n*1*1;rw[Đ]]) λx l Lx n h b=>by
  let a:=b x (ġ ..);let e:fW x=x:=a.elim λq h=>FP h.1 h.2;let a:=a.sq;let⟨j,g,m,f⟩:=zI h a;let⟨d,c⟩:=Lx (cX n x) j λy i=>b y (ę _ i);rw[List.foldl_cons,e];show#[d,Q.u3.trans #[1,g,.a,.b,?_] c];change n*(x*cf l)*1*1=jn n x*cf l*g*g;rw[<-ĵ,f,Đ,Đ];grind
def P5(h:∀x∈l,Dq x):dm (MN l)/\u3 (cf l) (MN l):=by
 let:=Lx l 1 (eG .a) h;rwa[Ś] at this
def Pd{a b:.L}:Oo a b=none↔∀p,p∈a↔p∈b:=by
 delta Oo;rw[List.find?_eq_none];constructor
 .intro h p;let h1:=λz=>h p ((Au (a++b)).1.mem_iff.mpr z);unfold Ly at h1;rw[aen] at h1;by_cases x:p∈a<;>by_cases y:p∈b<;>simp[x,y] at h1 ⊢
 .intro h p _;unfold Ly;let m:=(Au (a++b)).1.mem_iff (a:=p);by_cases x:p∈a<;>let y:=h p<;>simp[x] at y<;>simp_all
def Sn{a b:.L}(ha:∀x∈a,Dq x)(d:∀x∈b,Dq x)(h:iI a b):QC a b=.no:=by
 let j:∀x∈a,x≠0:=λx c=>(ha x c).sq.1;let g:∀x∈b,x≠0:=λx c=>(d x c).sq.1;let⟨f,i⟩:=P5 ha;let⟨e,k⟩:=P5 d;delta QC;rw[adF (by let:=h.len;lia),adF (by let:=h.sg;unfold pS at this;delta TV;lia),adF (by let:=Q.u3.eq f e (i.symm.trans (h.nu.trans k));lia)]
 rw[Pd.mpr λp=>by
  rw[Ld j,Ld g]
  show#[fun⟨u,v⟩=>#[u,by rwa[<-h.sy p u]],fun⟨u,v⟩=>#[u,by rwa[h.sy p u]]]]
def Bb(i j:Int):fw:=#[i,j,(0,1),(1,1)]
def DB(i j:Int):⇑Body wA "exchange" pG f kk [.val Â i,.val Â j] (RT Á (Bb i j)):=by
 intro a A outer s H E b;show av (Kv (Qr (s:=#[i,j,(0,1),(1,1)]) .A .B (bj ae ae) (bj ae ae))) rfl
def We(l:.L)(ds:List fw):Prop:=∃a b c x y,l=[a,b,c]/\ds=[#[0,1,x,y],Bb 1 2]/\VL 602 [a,b] (-c) [x,y]
abbrev ado(P w K mg base):=aE P w K mg base 1 "exchange" ["i","j"] (bL K (fun(_ _:Int)=>True) Á Bb)
abbrev adn(P w K mg base):=aE P w K mg base 129 "step_to" ["i","j","a","b","c"] (Kt K (fun(_ _:Int) a b c=>HZ a b c) Á Wj)
def sI(g:⇑adn)(o:⇑ado)(l:.L)(hp:∃a b c,l=[a,b,c]/\a∈bN 6/\b∈bN 6/\c∈bN 6/\jQ l=none):⇑Body fI "steps_of_three" dg f 129 [.val Â l] (yc Á (We l)):=by
 intro k A outer s H E e;let⟨a,b,c,rfl,ha,j,p,n⟩:=hp
 let m:Sw [a,b,c] :=
  Ex (q:=1) (.inl rfl) (ib ha) (ib j) (ib p)
 let pv:HZ a b (-c):=by
  delta HZ;rw[aiq];show#[m,n]
 show mI (J0 (mC (vK g e ae ae (aQ (a:=a) .A ae rfl) (aQ (a:=b) .A ae rfl) (bV (aQ (a:=c) .A ae rfl)) pv) (mC (F4 (post:=λd=>d=Bb 1 2) (ax o e ae ae Ê) rfl) Fw)) λas h=>?_) λds h=>?_
 .let⟨_,_,rfl,_,_,_,rfl,_,rfl⟩:=h;change 2<=1000;decide
 .let⟨⟨_,_,x,y⟩,_,rfl,⟨rfl,rfl,i⟩,_,_,rfl,rfl,rfl⟩:=h;show#[_,#[a,b,c,x,y,rfl,rfl,i],rfl]
def Wu(l:.L)(ds:List fw):Prop:=∃a b c d k q x y z w,l=[a,b,c,d]/\k∈bN 6/\Iq q/\ds=[#[0,1,x,y],#[2,3,z,w],Bb 1 2]/\VL 602 [a,b] (k*q) [x,y]/\VL 602 [c,d] (-(k*q)) [z,w]
abbrev adp(P w K mg base):=aE P w K mg base 9 "meeting" ["one","other"] (uz K Wh Á (λone other (t:Int)=>TR (P7.map λp=>Iw one other p) t))
def uF(n:⇑adp)(D:⇑adn)(L:⇑ado)(l:.L)(hp:∃a b c d,l=[a,b,c,d]/\a∈bN 6/\b∈bN 6/\c∈bN 6/\d∈bN 6/\jQ l=none):⇑Body md "steps_of_four" gZ f 129 [.val Â l] (yc Á (Wu l)):=by
 intro O A outer s H E m;let⟨a,b,c,d,rfl,ha,o,v,B,u⟩:=hp;show jJ 1 kN.nd (j_ n m (jk (a':=[a,b]) (Q8 .A ae .a) rfl) (jk (a':=[c,d]) (A0 .A ae .a) rfl) (Jc ha o v B u)) λt α=>?_;let⟨k,q,I,i,g,r⟩:=α;subst I;let g:Iq q:=g
 let R:∀p∈P7,fk (k*q) p∈Qi a b c d p:=λp hp=>by
  let⟨j,F⟩:=agN.mp hp;let C:j<7:=(adU.mp F).1;let:=r j C;rw[C7 _ C,Bt] at this;let e:P7.getD j 0=p:=by rw[ĩ,F];rfl
  rwa[e] at this
 let mo:=NI (yW ha) (yW o) (yW v) (yW B) i g R;let J:jQ [a,b,-(k*q)]=none:=Kz λp hp=>(mo p hp).1;let T:jQ [c,d,k*q]=none:=Kz λp hp=>(mo p hp).2;let N:HZ a b (k*q):=#[Ex g (ib ha) (ib o) (KA i g).neg,J]
 let p2:HZ c d (-(k*q)):=by
  delta HZ;rw[aiq];show#[Ex g (ib v) (ib B) (KA i g),T]
 show mI (J0 (mC (vK D m ae ae (aQ (a:=a) .A ae rfl) (aQ (a:=b) .A ae rfl) .B N) (mC (vK D m ae ae (aQ (a:=c) .A ae rfl) (aQ (a:=d) .A ae rfl) (bV .B) p2) (mC (F4 (post:=λd=>d=Bb 1 2) (ax L m ae ae Ê) rfl) Fw))) λas h=>?_) λds h=>?_
 .let⟨_,_,rfl,_,_,_,rfl,_,_,_,rfl,_,rfl⟩:=h;change 3<=1000;decide
 .let⟨⟨_,_,x,y⟩,_,rfl,⟨rfl,rfl,G⟩,⟨_,_,z,w⟩,_,rfl,⟨rfl,rfl,S⟩,_,_,rfl,rfl,rfl⟩:=h;show#[_,#[a,b,c,d,k,q,x,y,z,w,rfl,i,g,rfl,G,S],rfl]
def BP(l:.L):Prop:=1<= ~~~l/\~~~l<=4/\∀a∈l,a∈bN 6
def TM(l:.L)(u:List fw×Int):Prop:=u.2=Az l/\((jQ l≠none/\u.1=[])\/(jQ l=none/\((~~~l=2/\u.1=[])\/We l u.1\/Wu l u.1)))
def BP.row(h:BP l):a8 l=Á:=by
 delta a8;rw[adZ (by let:=h.1;let:=h.2.1;lia),agh];show afq.mpr λx a=>adZ #[cZ (h.2.2 x a),by let:=kZ (h.2.2 x a);lia]
def BP.VO(h:BP l):Ou l:=#[h.row,FA (by let:=h.2.1;lia) h.2.2,λa b e hz=>by
 subst e
 show LZ (s:=1) (t:=1) (h.2.2 a .c) (h.2.2 b .c) .a .a .b .b hz]
def W9(h1:1<= ~~~l)(f: ~~~l<=4):(∃a,l=[a])\/(∃a b,l=[a,b])\/(∃a b c,l=[a,b,c])\/∃a b c d,l=[a,b,c,d]:=by
 obtain _|⟨a,_|⟨b,_|⟨c,_|⟨d,_|⟨e,l⟩⟩⟩⟩⟩:=l
 .cases h1
 .show .inl #[a,rfl]
 .show .inr (.inl #[a,b,rfl])
 .show .inr (.inr (.inl #[a,b,c,rfl]))
 .show .inr (.inr (.inr #[a,b,c,d,rfl]))
 .simp only[Œ] at f;lia
def qi(h:BP l):jQ l=none↔Az l≠0:=by
 let⟨m,e,a⟩:=y_ h.row;rw[a.some (λx b=>cZ (h.2.2 x b)) h.1,e];lia
abbrev adq(P w K mg base):=aE P w K mg base 9 "refuse_great_or_long" ["row","longest"] (bL K Vy Á E7)
def Li(y:sO mg "LONGEST_PARTED" 4)(YL:⇑acQ)(YV:⇑adq)(v:⇑aE 10 "first_without" ["row"] (bU K Ou Á jQ))(n:⇑aE 130 "steps_of_three_pairs" ["row"] (pL K (λl=>∃a b c,l=[a,b,c]/\a∈bN 6/\b∈bN 6/\c∈bN 6/\jQ l=none) Á We))(x:⇑aE 130 "steps_of_four" ["row"] (pL K (λl=>∃a b c d,l=[a,b,c,d]/\a∈bN 6/\b∈bN 6/\c∈bN 6/\d∈bN 6/\jQ l=none) Á Wu))(r:⇑aE 7 "how_many_pairs" ["row"] (bU K Ws Á Az))(l:.L)(hp:BP l):⇑Body qj "parted" j9 f 130 [.val Â l] (yc Á (TM l)):=by
 intro q A outer s H E k;let⟨h1,t,j⟩:=id hp;show jK (aB YL k .A hp.row) ?_;show jK (ax YV k .A (mZ rfl y) #[.b,.b,j]) ?_;show aO (G7 (aB v k .A hp.VO) λ_ _ _ _ h=>nomatch h) (λg=>?_) (λg=>?_)
 .let i:jQ l≠none:=λz=>by rw[z] at g;cases g
  show av (bj (cw (M:=fw) (b:=Á) a_ (by change 0<=1000;decide)) ae) #[_,#[?_,.inl #[i,rfl]],rfl];show(ğ λz=>i ((qi hp).mpr λe=>z e.symm))
 let i:jQ l=none:=by
  cases e:jQ l with
  |none=>rfl
  |some p=>rw[e] at g;cases g
 let C:Ws l:=#[hp.row,hp.VO.po];show aq 1 kM.nd (cw (M:=fw) (b:=Á) a_ (by change 0<=1000;decide)) ?_;let last:∀ds:List fw,TM l (ds,Az l)->S (⇑cx qj "parted" j9 f q A outer s H E) [#v[l],‹ds›] [(bJ j9).getD 6 (.Pass #[0,0,0,0])] (yc Á (TM l)):=λds h=>by show av (bj .B (aB r k .A C)) #[_,h,rfl]
 obtain⟨a,rfl⟩|⟨a,b,rfl⟩|⟨a,b,c,rfl⟩|⟨a,b,c,d,rfl⟩:=W9 h1 t
 .show aO (aD aG (bh rfl B.len .A) ae) (λg=>by simp at g) (λ_=>?_);show aO (aD aG (bh rfl B.len .A) ae) (λg=>by simp at g) (λ_=>last _ ?_);let⟨m,e,u⟩:=y_ hp.row;let:=u.le;let:=(qi hp).mp i;simp only[Œ,List.length_nil] at *;lia
 .show aO (aD aG (bh rfl B.len .A) ae) (λg=>by simp at g) (λ_=>?_);show aO (aD aG (bh rfl B.len .A) ae) (λg=>by simp at g) (λ_=>last _ #[rfl,.inr #[i,.inl #[rfl,rfl]]])
 .show aO (aD aG (bh rfl B.len .A) ae) (λ_=>?_) (λg=>by simp at g);show jJ 1 kM.nd (j8 n k .A #[a,b,c,rfl,j a .c,j b .c,j c .c,i]) λds o=>aK ?_;show aO (aD aG (bh rfl B.len .A) ae) (λg=>by simp at g) (λ_=>last _ #[rfl,.inr #[i,.inr (.inl o)]])
 .show aO (aD aG (bh rfl B.len .A) ae) (λg=>by simp at g) (λ_=>?_);show aO (aD aG (bh rfl B.len .A) ae) (λ_=>?_) (λg=>by simp at g);show jJ 1 kM.nd (j8 x k .A #[a,b,c,d,rfl,j a .c,j b .c,j c .c,j d .c,i]) λds o=>aK ?_;show last _ #[rfl,.inr #[i,.inr (.inr o)]]
section
variable{cT:Ç}(YL:⇑acQ)(YV:⇑adq)(YO:⇑uR 9 "refuse_great_or_long" ["row","longest"] (Hw K MY cT))
include YL YO in
theorem Ii(c:sO mg "LONGEST_PARTED" 4)(l:.L)(hp:a8 l=Á/\MY l 4):⇑ue qj "parted" j9 f 9 [.val Â l] cT:=by
 intro d A outer s H E R a b;show E8 (aB YL a .A hp.1) (rf (nQ YO (b _) a .A (mZ rfl c) hp.2))
def T8(a b:.L):Prop:=TZ a b/\(MY a 3\/(Vy a 3/\MY b 3))
abbrev ads(P w K mg base):=aE P w K mg base 8 "parting" ["one","other"] (bL K TZ Á Va)
include YV YO in
theorem Eh(d:sO mg "LONGEST_LED" 3)(i:⇑ads)(a b:.L)(hp:T8 a b):⇑ue yD "leading" sW f 9 [.val Â a,.val Â b] cT:=by
 intro g A outer s H E R c e;show Sd 2 w_.nd (ax i c .A .B hp.1) ?_;obtain h|⟨h1,h2⟩:=hp.2
 .show rf (nQ YO (e _) c .A (mZ rfl d) h)
 .show E8 (ax YV c .A (mZ rfl d) h1) (rf (nQ YO (e _) c .B (mZ rfl d) h2))
end
def vC(xs:.L)(k:Int):Int:=if k<(~~~xs:Int) then xs.getD ↥k 0 else 0
def xR(xs:.L)(k:Int)(g:0<=k):⇑Body oX "_law_cell_at" jV f kk [.val Â xs,.val Â k] (RT Á (vC xs k)):=by
 intro c A outer s H E h;show aO (aD kO .B (bh rfl B.len .A)) (λb=>?_) (λb=>?_)
 .let a:k<(~~~xs:Int):=by simpa using b
  let e:vC xs k=xs.getD ↥k 0:=adI a;rw[e];show av (dY (aQ .A .B (si (d:=0) g a))) rfl
 .let a:¬k<(~~~xs:Int):=by simpa using b
  let e:vC xs k=0:=adF a;rw[e];show av ae rfl
noncomputable def Yr(c k j:Int):Int:=(((c.natAbs:Int).fmod 2147483647+97*k+131*j+13)*(16807+j*j+k)).fmod 2147483647
noncomputable def Wv(c k:Int):Nat->Int
 |0=>0
 |i+1=>Wv c k i*2147483659+(Yr c k i*48271).fmod 2147483647
noncomputable def Q1(c k:Int):Int:=if 10^18<=(c.natAbs:Int) then c else Wv c k 9
def GJ(c k:Int)(o:0<=k)(h1:k<=100):⇑Body yY "_law_big" r_ f kk [.val Â c,.val Â k] (RT Á (Q1 c k)):=by
 intro l A outer s H E p;let ab:∀i:Int,(if i<0 then -i else i)=(i.natAbs:Int):=λi=>by split<;>lia
 show aO (aD FC (iY rfl B.abs .A) (UQ ae ae Yt)) (λd=>?_) (λd=>?_)
 .rw[ab] at d;let e:Q1 c k=c:=adI ↑d;rw[e];show av (dY .A) rfl
 rw[ab] at d;let e:Q1 c k=Wv c k 9:=adF ↑d;rw[e];show aq 2 gE.nd ae ?_;show eU (λi U=>∃r r',U=[#v[c],#v[k],‹Wv c k i›,r,r']) rfl B.range (b9 3 gE.nd) ae .a .a #[none,none,rfl] ?_ ?_
 .rintro i U' hi ⟨r,r',rfl⟩;let g:i<9:=hi;let m:=gY (a:=(c.natAbs:Int)) (b:=2147483647) .a;let j:(i:Int)*(i:Int)<=9*9:=Ű .b .b .b .a;let h:.N<=(i:Int)*(i:Int):=Ϝ .b .b;show aq 4 gE.nd (bH (bH (bH (bg (iY rfl B.abs .A) ae .a) (aF ae .B (mulL .a .a))) (aF ae .D (mulL .a .a))) ae) ?_;rw[ab];show aq 4 gE.nd (bg (aF (aa 4) (bH (bH ae (aF .D .D (mulL .b .b))) .B) (mulL .b .b)) ae .a) ?_;let n:=gY (a:=((c.natAbs:Int).fmod 2147483647+97*k+131*(i:Int)+13)*(16807+(i:Int)*(i:Int)+k)) (b:=2147483647) .a;show aq 2 gE.nd (bH (aF .C ae (mulR .a .a)) (bg (aF (aa 4) ae (mulR .a .a)) ae .a)) ?_;show aK #[_,_,rfl]
 .rintro U' ⟨r,r',rfl⟩;show av .C rfl
def T5(a b:Int):Int:=((È a b:Nat):Int)
def AD(a b:Int):⇑Body qO "_law_common" kT f k [.val Â a,.val Â b] (RT Á (T5 a b)):=by
 intro g A outer s H E h;show cD (ι:=Bool×Bool×Int×Int) (λi U=>∃r,U=[À (.val i.1 i.2.2.1),À (.val i.2.1 i.2.2.2),r]/\È i.2.2.1 i.2.2.2=È a b) (λi=>i.2.2.2.natAbs) (Â,Â,a,b) #[none,rfl,rfl] ?_;rintro⟨b1,b2,x,y⟩ U' ⟨r,rfl,c⟩;show#[_,aD cH .B ae,λe=>?_,λe=>?_]
 .let d:y≠0:=by simpa using e
  show aq 2 gH.nd (bg .A .B d) ?_;show aq 0 gH.nd .B ?_;show aq 1 gH.nd .C ?_;show aK #[(b2,Á,y,x.fmod y),#[_,rfl,(qp x y).trans c],FH x y d]
 .let d:y=0:=by simpa using e
  show av (iY rfl B.abs .A) ?_;dsimp only at c ⊢;rw[d,ag6] at c;delta T5;rw[<-c];change Bd.val _ _=Bd.val _ _;congr 1;split<;>lia
def D9(x:Int)(e:0<=x)(h:Sm 8000 x):⇑Body xI "_law_root" pN f k [.val Â x] (RT Á (rt x)):=by
 intro l A outer s H E p;show aq 1 nE.nd .A ?_
 show cD (ι:=Bool×Int) (λi U=>U=[#v[x],À (.val i.1 i.2)]/\0<=i.2/\i.2<=x/\x<(i.2+1)*(i.2+1)) (λi=>↥i.2) (Â,x) #[rfl,e,Ņ x,by
  dsimp only;let:(x+1)*1<=(x+1)*(x+1):=Ł .b .b
  lia] ?_
 rintro⟨n,r⟩ U' ⟨rfl,d,o,j⟩;dsimp only at *;let b:Sm 8000 r:=Sm.of_le .b h;show#[_,aD fZ (aF .B .B (b.ok b)) .A,λc=>?_,λc=>?_]
 .let a:x<r*r:=by simpa using c
  let hpos:0<r:=by
   obtain z|z:=afy d
   .show z
   .rw[<-z] at a;simp at a;lia
  show aq 1 nE.nd (bw (bH .B (bw .A .B (b.div .b))) ae CK) ?_;let⟨g,q,m⟩:=Kl e hpos a;show aK #[(Á,(r+x.fdiv r).fdiv 2),#[rfl,g,.e,m],.e]
 .let a:r*r<=x:=by simpa using c
  rw[<-d_ d a j];show av (dY .B) rfl
structure Hq(n fr l d:Int):Prop where
 d2:2<=d
 l0:0<l
 f0:0<fr
 sq:dm fr
 lo:∀q,aN q=Á->q<d->¬q∣l
 hi:∀q,aN q=Á->d<=q->¬q∣fr
 ex:∃s,0<s/\n=fr*l*(s*s)
def Hq.le{n fr l:Int}(h:Hq n fr l d):fr*l<=n/\l<=n/\fr<=n:=by
 let⟨s,f,e⟩:=h.ex;let i:=h.l0;let g:=h.f0;let p:0<fr*l:=Ħ g i;let q:1<=s*s:=Ħ f f;let a:=Ł q (.b:0<=fr*l);let b:=aeu (.b:1<=fr) (.b:0<=l);let c:=Ł (.b:1<=l) (.b:0<=fr);rw[e];lia
def Hq.start{n:Int}(h:0<n):Hq n 1 n 2:=#[.a,h,.a,oF,λq a b=>by let:=au a;lia,λq a _ z=>by
 let:=Ę .a z;let:=au a
 lia,1,.a,by rw[Ś,Đ,Đ]]
def Hq.prime{n fr a l:Int}{v:Nat}(h:Hq n fr a d)(e:a=l*d^(v+1)):aN d=Á:=by
 let b:d∣a:=#[l*d^v,by rw[e,Ī];grind];let⟨q,h1,h2⟩:=fj h.d2;let c:=Ę (by let:=h.d2;lia) h2;by_cases z:q<d
 .show absurd (İ h2 b) (h.lo q h1 z)
 .rwa[(.b:d=q)]
def Hq.step{n fr f l:Int}{v:Nat}(h:Hq n fr f d)(e:f=l*d^v)(r:¬d∣l)(k:0<l):Hq n (if v%2=1 then fr*d else fr) l (d+1):=by
 let t:=h.d2;let dl:l∣f:=#[_,e];let⟨s,i,ex⟩:=h.ex
 let b:∀q,aN q=Á->q<d+1->¬q∣l:=λq a p z=>by
  by_cases w:q<d
  .show h.lo q a w (İ z dl)
  .rw[(.b:q=d)] at z;show r z
 let j:∀m:Nat,0<d^m:=λm=>Ş .b;by_cases o:v%2=1
 .rw[adI o];obtain⟨m,c⟩:∃m,v=2*m+1:=#[v/2,.b];let hp:aN d=Á:=h.prime (v:=2*m) (by rw[e,c]);show#[.b,k,Ħ h.f0 .b,jE h.sq hp (h.hi d hp (Ņ d)),b,λq a g z=>?_,s*d^m,Ħ i (j m),?_]
  .obtain z|z:=euclid a z
   .show h.hi q a .b z
   .let:=Ę .b z;lia
  .rw[ex,e,c,Ī,(.b:2*m=m+m),Ź];grind
 .rw[adF o];obtain⟨m,c⟩:∃m,v=2*m:=#[v/2,.b];show#[.b,k,h.f0,h.sq,b,λq a g z=>h.hi q a .b z,s*d^m,Ħ i (j m),?_];rw[ex,e,c,(.b:2*m=m+m),Ź];grind
def Hq.done{n fr l:Int}(h:Hq n fr l d)(E:l<d*d*d):∃s,0<s/\dm (if rt l*rt l=l then fr else fr*l)/\n=(if rt l*rt l=l then fr else fr*l)*(s*s):=by
 let⟨s,j,ex⟩:=h.ex;let B:=h.l0;let D:=h.f0;let C:=h.d2;by_cases r:rt l*rt l=l
 .rw[adI r];let F:rt l≠0:=λz=>by rw[z] at r;lia
  let o:0<((rt l).natAbs:Int):=.b
  show#[s*(rt l).natAbs,Ħ j o,h.sq,?_];let e2:((rt l).natAbs:Int)*((rt l).natAbs:Int)=l:=by rw[<-ϴ,afu,r]
  rw[ex];grind
 .rw[adF r]
  let sl:∀q,aN q=Á->¬q*q∣l:=λq a z=>by
   let⟨m,em⟩:=z;let A:=au a
   let b:d<=q:=by
    by_cases w:q<d
    .show absurd #[q*m,by rw[em];grind] (h.lo q a w)
    .lia
   let y:0<m:=by
    by_cases w:0<m
    .show w
    .let:q*q*m<=0:=ϵ (by let:=Ħ (.b:0<q) (.b:0<q);lia) .b;lia
   by_cases f:m=1
   .show r ?_
    let:rt l=q:=by
     rw[em,f,Đ];show(d_ .b (Ņ _) (by grind)).symm
    rw[this,em,f,Đ]
   .let⟨p,hp,i⟩:=fj (.b:2<=m)
    let k:d<=p:=by
     by_cases w:p<d
     .show absurd (İ i #[q*q,by rw[em];grind]) (h.lo p hp w)
     .lia
    let v:=Ę y i;let x:d*d<=q*q:=Ű b b .b .b;let H:d*d*d<=q*q*m:=Ű x .b .b (by let:=Ħ (.b:0<q) (.b:0<q);lia);lia
  show#[s,j,xV (ë .b .b) λq a z=>?_,ex];by_cases w:q∣l
  .let b:d<=q:=by
    by_cases u:q<d
    .show absurd w (h.lo q a u)
    .lia
   let e:=h.hi q a b
   let g:È (q*q) fr=1:=by
    let G:È fr q=1:=ky a e
    show vN (λr c h1 h2=>by
     let:r∣q:=by obtain z|z:=euclid c h1<;>show z
     rw[a9 c a this] at h2
     show e h2) (by let:=au a;show ë .b .b)
   rw[ī fr l] at z;show sl q a (fT z g)
  .let g:È (q*q) l=1:=vN (λr c h1 h2=>by
     let:r∣q:=by obtain z|z:=euclid c h1<;>show z
     rw[a9 c a this] at h2
     show w h2) (by let:=au a;show ë .b .b)
   let t:=fT z g;show h.sq.2 q (by let:=au a;lia) t
abbrev adt(P w K mg base):=aE P w K mg base 1 "_law_root" ["_law_k"] (bU K (λk=>0<=k/\Sm 8000 k) Á rt)
def CQ(C:⇑adt)(n:Int)(F:n≠0)(y:n.natAbs<1073741824):⇑Body vE "_law_free" pF f 1 [.val Â n] (RT Á (fW n)):=by
 intro W A outer s H E I;let ab:∀i:Int,(if i<0 then -i else i)=(i.natAbs:Int):=λi=>by split<;>lia
 show aq 1 b_.nd (iY rfl B.abs .A) ?_;rw[ab];show aq 2 b_.nd ae ?_;show aq 3 b_.nd ae ?_;show cD (ι:=Int×Int×Int) (λi U=>∃p,U=[#v[n],‹i.1›,‹i.2.1›,‹i.2.2›,p]/\Hq n.natAbs i.2.1 i.1 i.2.2/\i.2.2<=n.natAbs+2) (λi=>↥(i.1-i.2.2+5)) ((n.natAbs:Int),1,2) #[none,rfl,Hq.start .b,.e] ?_;rintro⟨a,b,d⟩ U' ⟨p,rfl,m,Z⟩;dsimp only at *;let q:=m.d2;let u:=m.l0;let O:=m.f0;let⟨_,T,Γ⟩:=m.le;let k:Sm 31 d:=by unfold Sm;lia
 show#[_,aD EF (aF (aF .D .D (k.ok k)) .D ((k.mul k).ok k)) .B,λc=>?_,λc=>?_]
 .let o:d*d*d<=a:=by simpa using c
  let X:d<a:=by
   let J:2*d<=d*d:=aeu q .b;let L:d*d*1<=d*d*d:=Ł .b .b;lia
  show aq 4 b_.nd ae ?_;show cD (ι:=Int×Int) (λi U=>U=[#v[n],‹i.1›,‹b›,‹d›,‹i.2›]/\0<=i.2/\a=i.1*d^↥i.2/\0<i.1) (λi=>i.1.natAbs) (a,0) #[rfl,Ņ 0,by dsimp only;rw[show ↥(0:Int)=0 from rfl,ŀ,Đ],u] ?_;rintro⟨l,v⟩ U' ⟨rfl,S,he,r⟩;dsimp only at *;show#[_,aD aG (bg .B .D .b) ae,λc=>?_,λc=>?_]
  .let h:l.fmod d=0:=by simpa using c
   show aq 1 b_.nd (bw .B .D (k.div .b)) ?_;show aq 4 b_.nd (bH (aa 4) ae) ?_;let⟨J,L,a3,R⟩:=D1 S he q h .b;let⟨b1,_,_⟩:=Bq q (Q.jb.mp h) (.b:l≠0)
   let pos:0<l.fdiv d:=by
    by_cases w:0<l.fdiv d
    .show w
    .let:=ϵ (.b:0<=d) (.b:l.fdiv d<=0);let:=aeT (.b:l.fdiv d<=0) (.b:0<=d);lia
   show aK #[(l.fdiv d,v+1),#[rfl,J,L,pos],R]
  .let h:¬d∣l:=λz=>by
    let:=Q.jb.mpr z;rw[adZ this] at c;cases c
   let N:=m.step (v:=↥v) he h r
   let ll:l<=a:=by
    let:=Ę u (show l∣a from #[_,he]);show this
   let G:v.fmod 2=1↔↥v%2=1:=by
    rw[ae3 _ .a];lia
   show mW (λU=>U=[#v[n],‹l›,‹if ↥v%2=1 then b*d else b›,‹d›,‹v›]) (aD aG (bg (aa 4) ae .a) ae) (λc=>?_) (λc=>?_) ?_
   .let j:↥v%2=1:=G.mp ↑c;rw[adI j];show aq 2 b_.nd (aF .C .D ((by unfold Sm;lia:Sm 31 b).ok k)) ?_;show aK rfl
   .let j:¬↥v%2=1:=λw=>by
     let:=G.mpr w;rw[adZ this] at c;cases c
    rw[adF j];show aK rfl
   rintro U' rfl;show aq 3 b_.nd (bH .D ae) ?_;show aK #[(l,(if ↥v%2=1 then b*d else b),d+1),#[_,rfl,N,.e],.e]
 .let o:a<d*d*d:=by
   let:¬d*d*d<=a:=by simpa using c
   lia
  let⟨s',D,x,t⟩:=m.done o;let sl:Sm 8000 a:=(by unfold Sm;lia:Sm 31 a).le .a
  let α:Sm 31 (rt a):=by
   let w1:=E3 (.b:0<=a);let V:=iL a
   let w3:rt a<=a:=by
    by_cases w:rt a=0
    .lia
    .let:=Ł (.b:1<=rt a) V;lia
   unfold Sm;lia
  show mW (λU=>U=[#v[n],‹a›,‹if rt a*rt a=a then b else b*a›,‹d›,p]) (aD cH (aF (aB C I .B #[.b,sl]) (aB C I .B #[.b,sl]) (α.ok α)) .B) (λc=>?_) (λc=>?_) ?_
  .let h:¬rt a*rt a=a:=by simpa using c
   rw[adF h];show aq 2 b_.nd (aF .C .B ((by unfold Sm;lia:Sm 31 b).ok (by unfold Sm;lia:Sm 31 a))) ?_;show aK rfl
  .let h:rt a*rt a=a:=by simpa using c
   rw[adI h];show aK rfl
  rintro U' rfl;generalize (if rt a*rt a=a then b else b*a)=g at *;show aO (aD kO .A ae) (λc=>?_) (λc=>?_)
  .let σ:n<0:=by simpa using c
   let e:fW n=-g:=sH F y (lA x) D (by
    let:n=-(n.natAbs:Int):=.b
    rw[this,t]
    grind)
   rw[e,(.b:-g=0-g)];show av (ig ae .C) rfl
  .let σ:¬n<0:=by simpa using c
   let e:fW n=g:=sH F y x D (by
    let:n=(n.natAbs:Int):=.b
    rw[this]
    show t)
   rw[e];show av .C rfl
abbrev adu(P w K mg base):=aE P w K mg base 1 "_law_common" ["_law_a","_law_b"] (bL K (λ_ _=>True) Á T5)
def sY(c:⇑adu)(a b:Int)(hp:Qj a b):⇑Body kH "_law_free_times" gp f 1 [.val Â a,.val Â b] (RT Á (cX a b)):=by
 intro i A outer s H E k;let⟨ha,h,d,m⟩:=hp;let⟨e,n,l,o,g⟩:=ka ha h;let sg:=Mg (b:=b) ha d;show aq 2 jA.nd (ax c k .A .B Ê) ?_;show av (aF (bw .A .C (Sm.div (j:=T5 a b) sg e)) (bw .B .C (Sm.div (j:=T5 a b) sg e)) ((Sm.of_le l d).ok (Sm.of_le g m))) rfl
noncomputable def zk(c:Int):Nat->Int×Int
 |0=>(1-2*c.fmod 2,c.fdiv 2)
 |i+1=>((if (zk c i).2.fmod 2=1 then (zk c i).1*SP.getD i 1 else (zk c i).1),(zk c i).2.fdiv 2)
def TN(c:Int):Int:=(zk c 6).1
include B in
theorem Cr(c:Int):⇑Body t_ "_law_small" nG f kk [.val Â c] (RT Á (TN c)):=by
 intro h A outer s H E k;show aq 1 eB.nd (ig ae (aF ae (bg .A ae .a) (mulL .a .a))) ?_;show aq 2 eB.nd (bw .A ae CK) ?_;show jP (xs:=SP) (b:=Á) (λi U=>∃d,U=[#v[c],‹(zk c i).1›,‹(zk c i).2›,d]) (b9 3 eB.nd) (cw (az ae (az ae (az ae (az ae (az ae (az ae a_)))))) (ſ rfl)) #[none,rfl] ?_ ?_
 .rintro i a U' ha ⟨d,rfl⟩;let hi:i<6:=(adU.mp ha).1;let j:SP.getD i 1=a:=by rw[ĩ,ha];rfl
  let l:=Ka a (Į ha);let e:zk c (i+1)=((if (zk c i).2.fmod 2=1 then (zk c i).1*a else (zk c i).1),(zk c i).2.fdiv 2):=by rw[<-j];rfl
  rw[e];show mW (λU=>U=[#v[c],‹if (zk c i).2.fmod 2=1 then (zk c i).1*a else (zk c i).1›,‹(zk c i).2›,‹a›]) (aD aG (bg .C ae .a) ae) (λg=>?_) (λg=>?_) ?_
  .rw[adI ↑g];show aq 1 eB.nd (aF .B .D (mulR .b .b)) ?_;show aK rfl
  .rw[adF ↑g];show aK rfl
  .rintro U' rfl;show aq 2 eB.nd (bw .C ae CK) ?_;show aK #[_,rfl]
 .rintro U' ⟨d,rfl⟩;show av .B rfl
theorem GI(c:Int):∀i,(zk c i).1∈bN i:=zrN (by
  let z:=gY (a:=c) (b:=2) .a;let:c.fmod 2=0\/c.fmod 2=1:=.b
  change(1-2*c.fmod 2)∈[.M,-1];obtain e|e:=this<;>rw[e]<;>decide) λi GI=>by
  let d:=GI;change(if (zk c i).2.fmod 2=1 then (zk c i).1*SP.getD i 1 else (zk c i).1)∈bN i++(bN i).map λk=>k*Q6.getD i 1;split
  .show Ţ _ (adX.mpr #[_,d,rfl])
  .show ϑ _ d
def M6(c:Int):TN c∈bN 6:=GI c 6
def MX(c:Int):Nat->.L×Int
 |0=>([],c)
 |i+1=>((MX c i).1++[TN (MX c i).2],(MX c i).2.fdiv 128)
def my(c n:Int):.L:=(MX c ↥n).1
theorem Dc(c:Int):∀i:Nat,~~~(MX c i).1=i/\∀x∈(MX c i).1,x∈bN 6:=zrN (#[rfl,λx h=>by cases h]) λi Dc=>by
  let⟨a,b⟩:=Dc;show#[by simp[MX,a],λx d=>?_];obtain d|d:=aen.mp d
  .show b x d
  .rw[ad0.mp d];show M6 _
def wK(d:⇑aE 1 "_law_small" ["_law_cell"] (bU K (fun(_:Int)=>True) Á TN))(c n:Int)(j:0<=n)(l:n<=8):⇑Body mD "_law_free_row" iU f 1 [.val Â c,.val Â n] (RT Á (my c n)):=by
 intro g A outer s H E h;show QA 2 Int eR.nd ?_;show eU (n:=n) (λi U=>∃b e,U=[À (.val b (MX c i).2),#v[n],À (.own Á (MX c i).1),e]) rfl B.range (b9 3 eR.nd) .B .b .b #[_,none,rfl] ?_ ?_
 .rintro i U' hi ⟨b,e,rfl⟩;let⟨k,_⟩:=Dc c i;show rF 2 (a:=TN (MX c i).2) rfl (aB d h .A Ê) .b ?_;show aq 0 eR.nd (bw .A ae CK) ?_;show aK #[_,_,rfl]
 .rintro U' ⟨b,e,rfl⟩;show gR 2 rfl ?_;show av .C rfl
def Rg(a:x≠0)(b:x.natAbs<1073741824):fW x∣x:=by
 let⟨s,_,_,e⟩:=tM a b;show#[s*s,e]
def MP(l:Int):Nat->Int
 |0=>l
 |i+1=>(a7 (MP l i) (SP.getD i 1)).2
def ko(n:Int):Bool:=decide (n.natAbs<1073741824)&&decide (MP (n.natAbs:Int) 6=1)
def IE:∀p∈SP,aN p=Á:=λp hp=>by
 show Uw ?_;let:∀p∈SP,p∈Q.PW:=.a
 show this p hp
theorem Gw{q p:Int}(a:aN q=Á)(hp:aN p=Á):∀n:Nat,q∣p^n->q=p:=zrN (λh=>by
  rw[ŀ] at h;let:=Ę .a h;let:=au a;lia) λn Gw h=>by
  rw[Ī] at h;obtain z|z:=euclid a h
  .show Gw z
  .show a9 a hp z
theorem CT{l:Int}(b:l≠0):∀i,i<=6->MP l i≠0/\∀q,aN q=Á->q∣l->q∈SP\/q∣MP l i:=zrN (λ_=>#[b,λq _ h=>.inr h]) λi CT hi=>by
  let⟨h1,h2⟩:=CT .b;let c:SP.getD i 1∈SP:=Q.getD_mem (by change i<6;lia);let hp:=IE _ c;let⟨k1,k2,k3⟩:=fM (au hp) h1;show#[λz=>k3 (by let d:(a7 (MP l i) (SP.getD i 1)).2=0:=z;rw[d];show agw _),λq a e=>?_];obtain z|z:=h2 q a e
  .show .inl z
  .rw[k2] at z;obtain z|z:=euclid a z
   .show .inr z
   .rw[Gw a hp _ z];show .inl c
def S2{n:Int}(c:n≠0)(h:ko n=Á):n.natAbs<1073741824/\∀q,aN q=Á->q∣n->q∈SP:=by
 delta ko at h;let⟨h1,h2⟩:=aeO.mp h;let h1:=aer h1;let h2:=aer h2;show#[h1,λq a b=>?_];rcases(CT (l:=(n.natAbs:Int)) .b 6 (Ā _)).2 q a (aeV.mpr b) with z|z
 .show z
 .rw[h2] at z;let:=Ę .a z;let:=au a;lia
def xp(n:Int)(D:n≠0):⇑Body nB "_law_is_small" jh f kk [.val Â n] (RT Á (ko n)):=by
 intro q A outer s H E F;show aq 1 eQ.nd (jk (iY rfl B.abs .A) (tq n)) ?_;show aO (aD FC .B ae) (λc=>?_) (λc=>?_)
 .let a:(1073741824:Int)<=n.natAbs:=aer c;let e:ko n=Â:=by delta ko;rw[aec .b];rfl
  rw[e];show av xj rfl
 let a:¬(1073741824:Int)<=n.natAbs:=aeC c;show jP (xs:=SP) (b:=Á) (λi U=>∃d,U=[#v[n],À (.val Á (MP (n.natAbs:Int) i)),d]/\i<=6) (b9 2 eQ.nd) (cw (az ae (az ae (az ae (az ae (az ae (az ae a_)))))) (ſ rfl)) #[none,rfl,ş _] ?_ ?_
 .rintro i p U' hp ⟨d,rfl,_⟩;let hi:i<6:=(adU.mp hp).1;let y:SP.getD i 1=p:=by rw[ĩ,hp];rfl
  let⟨p2,C⟩:=Ka p (Į hp);let⟨h,_⟩:=CT (l:=(n.natAbs:Int)) .b i .b;let e1:MP (n.natAbs:Int) (i+1)=(a7 (MP (n.natAbs:Int) i) p).2:=by rw[<-y];rfl
  rw[e1];generalize MP (n.natAbs:Int) i=x at *;show cD (ι:=Int×Int) (λu U=>U=[#v[n],‹u.2›,‹p›]/\0<=u.1/\x=u.2*p^↥u.1/\u.2≠0) (λu=>u.2.natAbs) (0,x) #[rfl,Ņ 0,by change x=x*p^↥(0:Int);rw[show ↥(0:Int)=0 from rfl,ŀ,Đ],h] ?_;rintro⟨m,l⟩ U' ⟨rfl,g,he,k⟩;dsimp only at *;show#[_,aD aG (bg .B .C .b) ae,λc=>?_,λc=>?_]
  .let a:l.fmod p=0:=aer c;let⟨t,v,o,j⟩:=D1 g he p2 a k;show aq 1 eQ.nd (bw .B .C (Sm.div (n:=10) (by unfold Sm;lia) .b)) ?_;show aK #[(m+1,l.fdiv p),#[rfl,t,v,o],j]
  .let a:¬l.fmod p=0:=aeC c;show aK #[‹p›,?_,hi];rw[nD p2 (r:=(m,l)) #[g,he,λz=>a (Q.jb.mpr z)]]
 .rintro U' ⟨d,rfl,_⟩;let e:ko n=decide (MP (n.natAbs:Int) 6=1):=by delta ko;rw[adZ .b,agh]
  rw[e];show av (jw aG .B ae) rfl
def VC(c:x≠0)(d:x.natAbs<1073741824)(h:∀q,aN q=Á->q∣x->q∈SP):fW x∈bN 6:=by
 let⟨s,h1,h2,e⟩:=tM c d;let i:=h1.1;let a:∀p∈SP,p∣(30030:Int):=.a
 let b:dm ((fW x).natAbs:Int):=by
  obtain z|z:=aiE (fW x)
  .rwa[<-z]
  .let:((fW x).natAbs:Int)=-fW x:=.b
   rw[this];show lA h1
 show Fv (ahK.mp (AV (n:=30030) _ ((fW x).natAbs:Int) (Ā _) .b b λq f g=>?_));show a q (h q f (İ (aeV.mp g) (Rg c d)))
def Sr(r:.L):Prop:=(1<= ~~~r/\~~~r<=8)/\∀x∈r,x∈bN 6
def WN(r r':.L):Prop:=Sr r'/\iI r' r
def LX(h:Sr r)(a:x∈bN 6):Sr (r.set i x):=by
 show#[by rw[Ŝ];show h.1,λy b=>?_];obtain z|z:=aeR b
 .show h.2 y z
 .rwa[z]
def OI{m:.L}{n:Int}(k:∀x∈l,x∈bN 6)(d:i≠j)(hi:i<~~~l)(u:j<~~~l)(A:l.getD i 0=a)(ec:l.getD j 0=c)(B:n≠0)(q:n.natAbs<1073741824)(D:fW n∈bN 6)(em:a*x*x+c*y*y=n)(h:iI l m):iI ((l.set j (cX (cX a c) (fW n))).set i (fW n)) m:=by
 let⟨s,h1,h2,v⟩:=tM B q;let⟨r,b,p2⟩:=BR l i j d hi u;rw[A,ec] at b;let mem:∀z∈a::c::r,z∈bN 6:=λz hz=>k z (b.mem_iff.mpr hz);let ha:=mem a .c;let o:=mem c .c;let p:∀z∈r,z∈bN 6:=λz hz=>mem z (by simp[hz]);let nz:∀{z},z∈bN 6->z≠0:=λh=>cZ h;let⟨f,g,w,C⟩:=wj (eG ha) (eG o) h1;let t:=(h.perm b λz hz=>nz (k z hz)).turn (c:=fW n) (e:=cX (cX a c) (fW n)) (x:=x) (y:=y) (s:=s) (t:=g) (nz ha) (nz o) h1.1 f.1 .b w (λz hz=>nz (p z hz)) (by rwa[em,ĵ]) C;show t.perm (p2 _ _).symm λz hz=>?_;obtain rfl|hz:=đ.mp hz
 .show h1.1
 .obtain rfl|hz:=đ.mp hz
  .show f.1
  .show nz (p z hz)
abbrev adx(P w K mg base):=aE P w K mg base 1 "_law_is_small" ["_law_number"] (bU K (λn=>n≠0) Á ko)
abbrev adw(P w K mg base):=aE P w K mg base 2 "_law_free_times" ["_law_one","_law_other_here"] (bL K Qj Á cX)
abbrev adv(P w K mg base):=aE P w K mg base 2 "_law_free" ["_law_number"] (bU K (fun(n:Int)=>n≠0/\n.natAbs<1073741824) Á fW)
def Bf(J:⇑adv)(W:⇑adw)(ZU:⇑adx)(row:.L)(cell:Int)(h:Sr row):⇑Body uv "_law_other" mK f 2 [.val Â row,.val Â cell] (yc Á (λr'=>WN row r')):=by
 intro Z A outer s H E v;show xD 2 bT.nd rfl B.list .A ?_;show eU (n:=4) (λi U=>∃b1 cl new I N O R S α D,U=[#v[row],À (.val b1 (cl:Int)),À (.own Á (new:.L)),I,N,O,R,S,α,D]/\Sr new/\iI new row) rfl B.range (b9 3 bT.nd) ae .a .a #[_,_,_,none,none,none,none,none,none,none,rfl,h,#[rfl,rfl,#[1,1,.a,.a,rfl],λ_ _=>rfl]] ?_ ?_
 .rintro t U' ht ⟨b1,cl,new,I,N,O,R,S,α,D,rfl,g,o⟩;let l1:=g.1;let lI:.M<= ~~~new:=.b
  show aq 4 bT.nd (bg .B (tL 2 rfl (bh rfl B.len .C)) .b) ?_;show aq 5 bT.nd (bg (bw .B ae CK) (tL 2 rfl (bh rfl B.len .C)) .b) ?_;show aq 6 bT.nd (bg (bw .B ae CK) ae .a) ?_;show aq 7 bT.nd (bH ae (bg (bw .B ae CK) ae .a)) ?_;show aq 1 bT.nd (bw .B ae CK) ?_;let r:=gY (a:=cl) (b:=(~~~new:Int)) .b;let u:=gY (a:=cl.fdiv 8) (b:=(~~~new:Int)) .b;let x1:=gY (a:=cl.fdiv 64) (b:=4) .a;let y1:=gY (a:=cl.fdiv 256) (b:=3) .a;generalize cl.fmod (~~~new:Int)=i at *;generalize (cl.fdiv 8).fmod (~~~new:Int)=j at *;generalize (cl.fdiv 64).fmod 4=x at *;generalize (cl.fdiv 256).fmod 3=y at *;let C:new.getD ↥i 0∈bN 6:=g.2 _ (Q.getD_mem .b);let q:new.getD ↥j 0∈bN 6:=g.2 _ (Q.getD_mem .b);let Γ:rV new i=À (new.getD ↥i 0):=j4 r.1 r.2 rfl;let V:rV new j=À (new.getD ↥j 0):=j4 u.1 u.2 rfl;let ai1:=kZ C;let aj1:=kZ q;generalize hA:new.getD ↥i 0=a at *;generalize X:new.getD ↥j 0=c at *;show aq 8 bT.nd (bH (aF (aF (BH 2 rfl (aa 4) Γ) (aa 6) (mulL .b .b)) (aa 6) (mulR .b .b)) (aF (aF (BH 2 rfl (aa 5) V) (aa 7) (mulL .b .b)) (aa 7) (mulR .b .b))) ?_;generalize hM:a*x*x+c*(1+y)*(1+y)=m at *;by_cases l:m=0
  .show aO (c:=(!decide (i=j))&&Â) (TW.t (jG (aD cH (aa 4) (aa 5)) λ_=>(by
    let e:Â=((!decide (m=0))&&Â):=by rw[agO]
    rw[e]
    show jG (aD cH (aa 8) ae) λh=>absurd l ↑h))) (λk=>?_) (λ_=>?_)
   .rw[agO] at k;cases k
   .show aK #[_,_,new,_,_,_,_,_,_,_,rfl,g,o]
  .show aO (TW.t (jG (aD cH (aa 4) (aa 5)) λ_=>(jG (aD cH (aa 8) ae) λ_=>(kW (fQ (aB ZU v (aa 8) l)))))) (λk=>?_) (λ_=>?_)
   .let T:i≠j:=λz=>by
     rw[adZ z] at k;cases k
    let L:ko m=Á:=by
     let⟨_,z⟩:=aeO.mp k;show(aeO.mp z).2
    let⟨F,mp⟩:=S2 l L;let p:=VC l F mp;let G:cX a c∈bN 6:=Lj C q;let σ:cX (cX a c) (fW m)∈bN 6:=Lj G p;let d:∀{z:Int},z∈bN 6->Sm 400 z:=λhz=>(Ls hz).2.le .a;let nz:∀{z:Int},z∈bN 6->z≠0:=λhz=>cZ hz;show aq 9 bT.nd (aB J v (aa 8) #[l,F]) ?_;show tP 2 rfl (aa 5) (ax W v (ax W v (BH 2 rfl (aa 4) Γ) (BH 2 rfl (aa 5) V) #[nz C,nz q,d C,d q]) (aa 9) #[nz G,nz p,d G,d p]) u.1 u.2 ?_;show tP 2 rfl (aa 4) (aa 9) r.1 (by rw[Ŝ];show r.2) ?_;show aK (aK #[_,_,_,_,_,_,_,_,_,_,rfl,LX (LX g σ) p,OI g.2 (λz=>T .b) .b .b hA X l F p hM o])
   .show aK #[_,_,new,_,_,_,_,_,_,_,rfl,g,o]
 .rintro U' ⟨b1,cl,new,I,N,O,R,S,α,D,rfl,g,o⟩;show gR 2 rfl ?_;show av .C #[_,#[g,o],rfl]
structure BV(row new:.L)(m:Nat):Prop where
 len: ~~~new= ~~~row
 ml:2*m<= ~~~row
 pr:∀k:Nat,k<m->new.getD (2*k) 0=0-new.getD (2*k+1) 0
 al:iI new row
 dq:∃q,Iq q/\∀x∈new,j5 q x
def rj(l:.L):iI l l:=#[rfl,rfl,#[1,1,.a,.a,rfl],λ_ _=>rfl]
def Ij:Sm 642 .N/\Sm 642 .M:=by
 unfold Sm;show#[agd _,agb .a]
def PR(u c:Int):VL 602 [u,c] c [(0,1),(1,1)]:=by
 show#[rfl,λx a=>?_,λx a=>?_,?_,1,.a,Ij.2,λx a=>?_]
 .simp only[đ,Ĕ,aej] at a;obtain rfl|rfl:=a<;>decide
 .simp only[đ,Ĕ,aej] at a;obtain rfl|rfl:=a
  .show Ij
  .show#[Ij.2,Ij.2]
 .change(0*1*1+u*0*0*1)*1*1+c*1*1*(1*1*1)=c*(1*1*1*1*1);grind
 .simp only[đ,Ĕ,aej] at a;obtain rfl|rfl:=a
  .show#[0,Ij.1,rfl]
  .show#[1,Ij.2,rfl]
def EU(a:dm u)(b:dm c):cX (cX u c) c=u:=last_eq a b b a #[1,1,.a,.a,by grind]
def Rb{row new:.L}(a:∀x∈row,x≠0)(b:∀x∈new,x≠0)(al:iI new row)(h:HM row m):HM new m:=HM.xX (λ_ hp=>FZ b a al hp) h
def J5(hp:BP l)(b:jQ l≠none):Az l=((0:Nat):Int)/\BV l l 0 :=
 #[ğ λz=>b ((qi hp).mpr z),rfl,.b,λk c=>by lia,rj l,1,.inl rfl,λx a=>ib (hp.2.2 x a)]
def VM(hp:BP [a,b])(h:jQ [a,b]=none):Az [a,b]=((1:Nat):Int)/\BV [a,b] [a,b] 1:=by
 let⟨m,e,g⟩:=y_ hp.row;let:=(qi hp).mp h;let ha:=hp.2.2 a .c;let f:=hp.2.2 b .c;let h2:=g.two (eG ha) (eG f);let c:m=1:=.b
 let i:=h2.2.mp c;show#[by rw[e,c],rfl,by change 2<=2;decide,λk j=>?_,rj _,1,.inl rfl,λx d=>ib (hp.2.2 x d)];let:k=0:=.b
 subst this;change a=0-b;lia
def Vq{x y:Fr}(hp:BP [a,b,c])(z:jQ [a,b,c]=none)(g:VL 602 [a,b] (-c) [x,y]):Good [a,b,c] [#[0,1,x,y],Bb 1 2]/\Az [a,b,c]=((1:Nat):Int)/\BV [a,b,c] (sV [a,b,c] [#[0,1,x,y],Bb 1 2]).1 1:=by
 let j:Iq 1:=.inl rfl;let D:∀{x},x∈bN 6->j5 1 x:=λh=>ib h;let ha:=hp.2.2 a .c;let i:=hp.2.2 b .c;let d:=hp.2.2 c .c;let n:∀{x},j5 1 x->x≠0:=λh=>h.1.1;let⟨r,q,c1,e1⟩:=Bo (row:=[a,b,c]) (s:=#[0,1,x,y]) hp.row #[by change .N<=0;decide,by change .N<1;decide,by change .M<3;decide] rfl rfl j (D ha) (D i) (D d).neg g;let f:=((D ha).jn (D i)).jn (D d).neg;let e1:CI [a,b,c] #[0,1,x,y]=[-c,cX (cX a b) (-c),c]:=e1;let v:iI [-c,cX (cX a b) (-c),c] [a,b,c]:=xu (D ha).1 (D i).1 (D d).neg.1 (λx e=>by cases ad0.mp e;show n (D d)) (oW g).1.1 (oW g).1.2 (oW g).2 (rj _);change j5 1 (cX (cX a b) (-c)) at f;generalize cX (cX a b) (-c)=u at *
 let⟨p2,w,c2,e2⟩:=Bo (row:=[-c,u,c]) (s:=Bb 1 2) (L4 j (by change 1<=3;decide) (by change 3<=8;decide) (l:=[-c,u,c]) λx e=>by
  simp only[đ,Ĕ,aej] at e;obtain rfl|rfl|rfl:=e
  .show(D d).neg
  .show f
  .show D d) #[by change .N<=1;decide,by change .M<2;decide,by change .O<3;decide] rfl rfl j f (D d) (D d) (PR u c)
 let e2:CI [-c,u,c] (Bb 1 2)=[-c,c,cX (cX u c) c]:=e2;rw[EU f.1 (D d).1] at e2;let nz:=Ym (n (D ha)) (n (D i)) (n (D d));let⟨m,em,p⟩:=y_ hp.row;let o:=MG nz z p;show#[#[r,q,c1,by rw[e1];show#[p2,w,c2,Ê]],by rw[em,o],?_]
 let t:(sV [a,b,c] [#[0,1,x,y],Bb 1 2]).1=[-c,c,u]:=by
  change(DL _ _ _).1=_;unfold DL DL DL;rw[e1,e2]
 rw[t];show#[rfl,by change 2<=3;decide,λk A=>?_,v.perm (.cons _ (.swap c u [])) (Ym (n (D d).neg) (n f) (n (D d))),1,j,λx e=>?_]
 .let:k=0:=.b
  subst this;change -c=0-c;lia
 .simp only[đ,Ĕ,aej] at e;obtain rfl|rfl|rfl:=e
  .show(D d).neg
  .show D d
  .show f
def Uv{k:Int}{x y z w:Fr}(hp:BP [a,b,c,d])(hn:jQ [a,b,c,d]=none)(R:k∈bN 6)(E:Iq q)(H:VL 602 [a,b] (k*q) [x,y])(G:VL 602 [c,d] (-(k*q)) [z,w]):Good [a,b,c,d] [#[0,1,x,y],#[2,3,z,w],Bb 1 2]/\∃m:Nat,Az [a,b,c,d]=(m:Int)/\BV [a,b,c,d] (sV [a,b,c,d] [#[0,1,x,y],#[2,3,z,w],Bb 1 2]).1 m:=by
 let D:∀{x},x∈bN 6->j5 q x:=λh=>ib h;let ha:=D (hp.2.2 a .c);let I:=D (hp.2.2 b .c);let A:=D (hp.2.2 c .c);let B:=D (hp.2.2 d .c);let f:=KA R E;let n:∀{x},j5 q x->x≠0:=λh=>h.1.1;let C:∀{i j:Int} {l:.L},0<=i->i<j->j<4->~~~l=4->0<=i/\i<j/\j<(~~~l:Int):=λh1 h2 Z L=>#[h1,h2,.b];generalize k*q=t at *;let⟨α,T,c1,e1⟩:=Bo (row:=[a,b,c,d]) (s:=#[0,1,x,y]) hp.row (C (by change .N<=0;decide) (by change .N<1;decide) (by change .M<4;decide) rfl) rfl rfl E ha I f H;let r:j5 q (cX (cX a b) t):=(ha.jn I).jn f;let e1:CI [a,b,c,d] #[0,1,x,y]=[t,cX (cX a b) t,c,d]:=e1;let N:iI [t,cX (cX a b) t,c,d] [a,b,c,d]:=xu ha.1 I.1 f.1 (Wx (n A) (n B)) (oW H).1.1 (oW H).1.2 (oW H).2 (rj _);generalize cX (cX a b) t=u at *
 let F:∀{e g h i:Int},j5 q e->j5 q g->j5 q h->j5 q i->a8 [e,g,h,i]=Á:=λh1 h2 Z L=>L4 E (by change 1<=4;decide) (by change 4<=8;decide) λx o=>by
  simp only[đ,Ĕ,aej] at o;obtain rfl|rfl|rfl|rfl:=o<;>assumption
 let⟨p2,X,c2,e2⟩:=Bo (row:=[t,u,c,d]) (s:=#[2,3,z,w]) (F f r A B) (C (by change .N<=2;decide) (by change .O<3;decide) (by change(3:Int)<4;decide) rfl) rfl rfl E A B f.neg G;let p:j5 q (cX (cX c d) (-t)):=(A.jn B).jn f.neg;let e2:CI [t,u,c,d] #[2,3,z,w]=[t,u,-t,cX (cX c d) (-t)]:=e2;let σ:iI [-t,cX (cX c d) (-t),t,u] [a,b,c,d]:=xu A.1 B.1 f.neg.1 (Wx (n f) (n r)) (oW G).1.1 (oW G).1.2 (oW G).2 (N.perm (aiC (l₁:=[t,u]) (l₂:=[c,d])) (λx o=>bC (F f r A B) o |>.1));generalize cX (cX c d) (-t)=v at *;let⟨Γ,W,c3,e3⟩:=Bo (row:=[t,u,-t,v]) (s:=Bb 1 2) (F f r f.neg p) (C (by change .N<=1;decide) (by change .M<2;decide) (by change .O<4;decide) rfl) rfl rfl E r f.neg f.neg (PR u (-t));let e3:CI [t,u,-t,v] (Bb 1 2)=[t,-t,cX (cX u (-t)) (-t),v]:=e3;rw[EU r.1 f.neg.1] at e3;show#[#[α,T,c1,by rw[e1];show#[p2,X,c2,by rw[e2];show#[Γ,W,c3,Ê]]],?_]
 let V:(sV [a,b,c,d] [#[0,1,x,y],#[2,3,z,w],Bb 1 2]).1=[t,-t,u,v]:=by
  change(DL _ _ _).1=_;unfold DL DL DL DL;rw[e1,e2,e3]
 rw[V]
 let J:iI [t,-t,u,v] [a,b,c,d]:=σ.perm (by
  let h1:[-t,v,t,u].Perm [t,u,-t,v]:=aiC (l₁:=[-t,v]) (l₂:=[t,u])
  show h1.trans (.cons t (.swap (-t) u [v]))) (λx o=>bC (F f.neg p f r) o |>.1)
 let O:∀x∈[a,b,c,d],x≠0:=λx o=>bC (F ha I A B) o |>.1;let nn:∀x∈[t,-t,u,v],x≠0:=λx o=>bC (F f f.neg r p) o |>.1;let⟨m,em,S⟩:=y_ hp.row;let h1:=(qi hp).mp hn;let⟨P,e',h2⟩:=(Rb O nn J S).drop (n f) (Wx (n r) (n p)) (by change 1<=2;decide);let⟨l1,K⟩:=h2.two r.1 p.1;show#[m,em,rfl,by change 2*m<=4;lia,λj hj=>?_,J,q,E,λx o=>?_]
 .let:j=0\/(j=1/\P=1):=.b
  obtain rfl|⟨rfl,z⟩:=this
  .change t=0 - -t;lia
  .let:=K.mp z;change u=0-v;lia
 .simp only[đ,Ĕ,aej] at o;obtain rfl|rfl|rfl|rfl:=o
  .show f
  .show f.neg
  .show r
  .show p
def RV{u:List fw×Int}(hp:BP l)(h:TM l u): ~~~u.1<=3/\Good l u.1/\∃m:Nat,u.2=(m:Int)/\HM l m/\BV l (sV l u.1).1 m:=by
 let⟨r,i⟩:=u;let⟨e,h⟩:=h;let e:i=Az l:=e;subst e;let⟨v,em,s⟩:=y_ hp.row
 let fin:∀{m:Nat},Az l=(m:Int)->HM l m:=λh=>by
  let:v=_:=Int.ofNat.inj (em.symm.trans h);rwa[<-this]
 obtain⟨f,e⟩|⟨f,⟨t,e⟩|⟨a,b,c,x,y,rfl,e,j⟩|⟨a,b,c,d,k,q,x,y,z,w,rfl,o,n,e,j,p⟩⟩:=h<;>(have e:r=_:=e;subst e)
 .let⟨h1,h2⟩:=J5 hp f;show#[by change 0<=3;decide,Ê,0,h1,fin h1,h2]
 .let⟨a,b,rfl⟩:=ln2 t;let⟨h1,h2⟩:=VM hp f;show#[by change 0<=3;decide,Ê,1,h1,fin h1,h2]
 .let⟨g,h1,h2⟩:=Vq hp f j;show#[by change 2<=3;decide,g,1,h1,fin h1,h2]
 .let⟨g,m,h1,h2⟩:=Uv hp f o n j p;show#[by change 3<=3;decide,g,m,h1,fin h1,h2]
def XM(l:.L)(o:Option (Int×.L)):Prop:=∃(m:Nat) (new:.L),o=À ((m:Int),new.drop (2*m))/\HM l m/\BV l new m
def DU(b:⇑aE 131 "parted" ["row"] (pL K BP Á TM))(p:⇑aE 10 "all_stepped" ["row","steps"] (bL K WE Á sV))(l:.L)(hp:BP l):⇑Body vR "_law_rest" p4 f 131 [.val Â l] (yc Á (XM l)):=by
 intro j A outer s H E c;show Ol 1 2 jB.nd (j8 b c (jx rfl B.list .A) hp) λu h=>?_;let⟨o,g,m,em,k,fr⟩:=RV hp h;show aq 3 jB.nd (aX (ax p c (jx rfl B.list .A) .B #[hp.row,#[o,hp.2.1],g])) ?_;let q:=hp.2.1;let r:=fr.ml;let nl:=fr.len;rw[em];generalize (sV l u.1).1=new at *;show eU (n:=(m:Int)) (λi U=>∃a,U=[#v[l],‹u.1›,À (.val Á (m:Int)),‹new›,a]) rfl B.range (b9 4 jB.nd) .C .b .b #[none,rfl] ?_ ?_
 .rintro i U' hi ⟨a,rfl⟩;let pr:=fr.pr i .b;show aO (aD cH (aQ .D (aF ae (aa 4) (mulL .a .a)) (j4 (d:=.N) (l:=new) (.b:.N<=2*(i:Int)) .b rfl)) (ig ae (aQ .D (bH (aF ae (aa 4) (mulL .a .a)) ae) (j4 (d:=.N) (l:=new) (.b:.N<=2*(i:Int)+1) .b rfl)))) (λe=>?_) (λ_=>aK #[_,rfl]);rw[(.b:↥(2*(i:Int))=2*i),(.b:↥(2*(i:Int)+1)=2*i+1),pr] at e;simp at e
 .rintro U' ⟨a,rfl⟩;show av (lJ (bj (b1:=Á) (b2:=Á) .C (A0 .D (aF ae .C (mulL .a .a)) .b))) #[_,#[m,new,?_,k,fr],rfl];rw[(.b:↥(2*(m:Int))=2*m)]
def Rl(r o:.L)(d:Int):Prop:=(d=0/\a8 r=Á/\MY r 4)\/(d=1/\T8 r o)\/(d=2/\T8 o r)
def zR{cT:Ç}(b:⇑uR 10 "parted" ["row"] (Oh K (λl=>a8 l=Á/\MY l 4) cT))(e:⇑uR 10 "leading" ["one","other"] (Hw K T8 cT))(r o:.L)(d:Int)(hp:Rl r o d):⇑ue uw "_law_asked" nV f 10 [.val Â r,.val Â o,.val Â d] cT:=by
 intro g A outer s H E R c a;obtain⟨rfl,h⟩|⟨rfl,h⟩|⟨rfl,h⟩:=hp
 .show Es (Ds (aD aG .C ae) rfl) (DX (KN b (a _) c (jx rfl B.list .A) h))
 .show D3 (Ds (aD aG .C ae) rfl) (Es (Ds (aD aG .C ae) rfl) (DX (nQ e (a _) c (jx rfl B.list .A) (jx rfl B.list .B) h)))
 .show D3 (Ds (aD aG .C ae) rfl) (D3 (Ds (aD aG .C ae) rfl) (DX (nQ e (a _) c (jx rfl B.list .B) (jx rfl B.list .A) h)))
section
variable{cF cT cN cR cS:Ç}(xE:Xs K mg cF cT cN cR cS)
include B xE in
theorem xU(b:⇑uR 11 "_law_asked" ["_law_row","_law_other_here","_law_door"] (Ox K Rl cT))(r o:.L)(d:Int)(hp:Rl r o d):⇑Body jL "_law_refused" gK f 11 [.val Â r,.val Â o,.val Â d] (RT Á Á):=by
 intro c A outer s H E g;show Jf (C:=cT) 3 nW.nd rfl xE.mT xE.t.xT (λσ pn R e=>?_) (λa vs pn h=>?_)
 .show rf (Jh b e g .A .B .C hp)
 .let L:=Dd (X:=cx P w K mg base jL "_law_refused" gK f c A outer s H E) h;show av (uo (yX (IH L xE.t.kx xE.t.iR rfl B.isinstance rfl xE.mR .D)) λ_=>(uo (yX (IH L xE.t.kx xE.t.iS rfl B.isinstance rfl xE.mS .D)) λ_=>(t9 (yX (IH L xE.t.kx xE.t.iN rfl B.isinstance rfl xE.mN .D))))) rfl
end
def Qa{α:.L}(h1:1<= ~~~l)(f: ~~~l<=8)(o: ~~~α<=7)(nz:∀x∈l,x≠0/\x.natAbs<1073741824)(hp:∀x∈l,∀q,aN q=Á->q∣x->q∈α):GR 61 7 l:=by
 show#[#[h1,f],nz,?_,α,o,hp]
 let key:∀m:.L,(∀x∈m,x∈l)->U3 m<= ~~~m*7:=λm=>by
  induction m with
  |nil=>intro _;show Ā _
  |cons a m i =>
   intro e;let h2:=i λx c=>e x (ę _ c);let ha:=e a (ġ ..);let p:=(nz a ha).1;let d:1<=(a.natAbs:Int):=.b
   let n: ~~~((oh (a.natAbs:Int)).map (·.1))<= ~~~α:=o6 (by let⟨⟨b,k⟩,_⟩:=pU d;show(qG k).1.imp λh=>by lia) λx c=>by
    let⟨j,g⟩:=(fJ d).mp c;show hp a ha x j (aeV.mp g)
   rw[ċ] at n;unfold U3 at h2 ⊢;rw[ů,List.sum_cons,Œ];lia
 let:=key l λ_ h=>h;lia
def J_(a:Iq q)(h1:1<= ~~~l)(c: ~~~l<=8)(h:∀x∈l,j5 q x):GR 61 7 l :=
 Qa (α:=q::Q6) h1 c (by change 7<=7;decide) (λx b=>(h x b).lt a) λx b p pp d=>by
  obtain z|z:=euclid pp (İ d (h x b).2)
  .show ę _ (pA .d pp z)
  .obtain rfl|⟨a,_⟩:=a
   .let:=Ę .a z;let:=au pp;lia
   .rw[a9 pp a z];show ġ ..
def FF(h1:1<= ~~~l)(a: ~~~l<=8)(h:∀x∈l,x∈bN 6):GR 61 7 l:=J_ (q:=1) (.inl rfl) h1 a λx b=>ib (h x b)
def B3:.L:=[17,4,12]
structure Rm(r:.L):Prop where
 l1:1<= ~~~r
 l5: ~~~r<=5
 mem:∀x∈r,x∈bN 6\/x∈B3
 bad:4<~~~r\/∃x∈B3,x∈r
def X6:wQ 17=Â:=by
 let k1:∀p:Int,2<=p->¬p∣17->(a7 17 p).2=17:=λp hp a=>by
  let:=oK (v:=0) hp a;rw[ŀ,Đ] at this;rw[this]
 let e:lf SP ((17:Int).natAbs:Int)=17:=by
  change(a7 (a7 (a7 (a7 (a7 (a7 17 2).2 3).2 5).2 7).2 11).2 13).2=17;rw[k1 2 .a .a,k1 3 .a .a,k1 5 .a .a,k1 7 .a .a,k1 11 .a .a,k1 13 .a .a]
 delta wQ;rw[e,<-d_ (k:=17) (r:=4) .a .a .a];show agO _
def R9:∀x∈B3,DK x=Â:=λx a=>by
 let key:∀{k f:Int},fW k=f->f≠k->DK k=Â:=λ{k f} e n=>by
  delta DK DI;rw[e,aec n,agO,agO]
 simp only[B3,đ,Ĕ,aej] at a;obtain rfl|rfl|rfl:=a
 .delta DK;rw[X6];rfl
 .show key (sH (s:=2) (f:=1) .a .a (eG .d) .a .a) .a
 .show key (sH (s:=2) (f:=3) .a .a (eG .d) .a .a) .a
def Rm.gr(h:Rm r):GR 61 7 r:=by
 let f:∀{a b:Int},a∈bN 6->b∈bN 6->∀q,aN q=Á->q∣a*b->q∈(17:Int)::Q6:=λha g q c d=>ę _ ((euclid c d).elim (pA ha c) (pA g c))
 let key:∀x∈r,(x≠0/\x.natAbs<1073741824)/\∀q,aN q=Á->q∣x->q∈(17:Int)::Q6:=λx e=>by
  obtain z|z:=h.mem x e
  .let:=kZ z;show#[#[cZ z,.b],λq c d=>ę _ (pA z c d)]
  .simp only[B3,đ,Ĕ,aej] at z;obtain rfl|rfl|rfl:=z
   .show#[.a,λq c d=>?_];rw[a9 c (Uw (p:=17) .a) d];show ġ ..
   .show#[.a,f (a:=2) (b:=2) .d .d]
   .show#[.a,f (a:=2) (b:=6) .d .d]
 show Qa (α:=17::Q6) h.l1 (by let:=h.l5;lia) (by change 7<=7;decide) (λx e=>(key x e).1) λx e=>(key x e).2
def Rm.pg(h:Rm r){n:Int}(c:n<=4):MY r n:=by
 show#[by let:=h.l5;lia,?_];obtain z|⟨x,a,b⟩:=h.bad
 .show .inl .b
 .show .inr (List.all_eq_false.mpr #[x,b,by rw[R9 x a];decide])
def MQ(one:.L)(i:Nat):.L:=if i=1 then [1,-1] else one.take 1
def Rm.ask{one:.L}(h:Rm r)(h1:1<= ~~~one)(c:∀x∈one,x∈bN 6)(hi:i<3):Rl r (MQ one i) (i:Int):=by
 let g:=h.gr;let:i=0\/i=1\/i=2:=.b
 obtain rfl|rfl|rfl:=this
 .show .inl #[rfl,g.row,h.pg .a]
 .show .inr (.inl #[rfl,#[7,7,g,FF (l:=[1,-1]) (by change 1<=2;decide) (by change 2<=8;decide) .d,.a],.inl (h.pg .a)])
 .let d: ~~~(one.take 1)=1:=by rw[ϟ];lia
  let a:∀x∈one.take 1,x∈bN 6:=λx b=>c x (afs b);show .inr (.inr #[rfl,#[7,7,FF (l:=one.take 1) .b .b a,g,.a],.inr #[#[by change(~~~(one.take 1):Int)<=3;lia,by change ~~~(one.take 1)<=8;lia,a],h.pg .a]])
noncomputable def Rr(one:.L):List .L:=[one++[17],[17]++one,one.drop 1++[4],[12],one++one++[1],[1,1,1,1,-1]]
def Rw{one b:.L}(h2:2<= ~~~one)(f: ~~~one<=4)(c:∀x∈one,x∈bN 6)(d:b∈Rr one):Rm (b.take 5):=by
 let o:∀{l:.L} {y:Int},(∀x∈l,x∈bN 6)->y∈B3->∀x∈l++[y],x∈bN 6\/x∈B3:=λh e x a=>(aen.mp a).elim (λz=>.inl (h x z)) λz=>.inr (by rwa[ad0.mp z]);let all:∀{b:.L},~~~b<=5->b.take 5=b:=λh=>aff h;simp only[Rr,đ,Ĕ,aej] at d;obtain rfl|rfl|rfl|rfl|rfl|rfl:=d
 .rw[all (by rw[Ř];change ~~~one+1<=5;lia)];show#[by rw[Ř];change 1<= ~~~one+1;lia,by rw[Ř];change ~~~one+1<=5;lia,o c .a,.inr #[17,.a,Ţ _ .a]]
 .rw[all (by change ~~~one+1<=5;lia)];show#[by change 1<= ~~~one+1;lia,by change ~~~one+1<=5;lia,λx a=>(đ.mp a).elim (λz=>.inr (by rw[z];decide)) λz=>.inl (c x z),.inr #[17,.a,ġ ..]]
 .let l: ~~~(one.drop 1++[4])= ~~~one:=by rw[Ř,Ϟ];change ~~~one-1+1=_;lia
  rw[all .b];show#[.b,.b,o (λx a=>c x (afr a)) .a,.inr #[4,.a,Ţ _ .a]]
 .show#[.a,.a,λx a=>.inr (by cases ad0.mp a;decide),.inr #[12,.a,.a]]
 .let l: ~~~(one++one++[1])=2*~~~one+1:=by rw[Ř,Ř];change ~~~one+~~~one+1=_;lia
  let g: ~~~((one++one++[1]).take 5)=5:=by rw[ϟ];lia
  show#[.b,.b,λx a=>.inl ?_,.inl .b];obtain z|z:=aen.mp (afs a)
  .show(aen.mp z).elim (c x) (c x)
  .cases ad0.mp z;decide +kernel
 .show#[.a,.a,by decide +kernel,.inl .a]
def iI.trans{l m n:.L}(h:iI l m)(h':iI m n):iI l n:=#[h.len.trans h'.len,h.sg.trans h'.sg,h.nu.trans h'.nu,λp hp=>(h.sy p hp).trans (h'.sy p hp)]
def AA{m:.L}(b:∀x∈l,x≠0)(c:∀x∈m,x≠0)(d:2<= ~~~l)(a:2<= ~~~m)(pl:l.getD 0 0=0-l.getD 1 0)(e:m.getD 0 0=0-m.getD 1 0)(h:iI l m):iI (l.drop 2) (m.drop 2):=by
 obtain _|⟨x,_|⟨y,r⟩⟩:=l
 .cases d
 .simp at d
 obtain _|⟨u,_|⟨v,s⟩⟩:=m
 .cases a
 .simp at a
 let f:y=-x:=by let:x=0-y:=pl;lia
 let ev:v=-u:=by let:u=0-v:=e;lia
 subst f ev;show Q.iI.off (b x .c) (c u .c) (λz hz=>b z (afr (i:=2) hz)) (λz hz=>c z (afr (i:=2) hz)) h
def JT{one j d e:.L}(a:BV one d m)(c:BV j e m)(al:iI one j)(p: ~~~one<=4):iI (d.drop (2*m)) (e.drop (2*m)):=by
 let h:=iI.trans (iI.trans a.al al) c.al.symm;let⟨r,_,k⟩:=a.dq;let⟨o,_,n⟩:=c.dq;let f:∀x∈d,x≠0:=λx b=>(k x b).1.1;let i:∀x∈e,x≠0:=λx b=>(n x b).1.1;let e1:=a.len;let e2:=c.len;let e3:=al.len;let q:=a.ml;let:m=0\/m=1\/m=2:=.b
 obtain rfl|rfl|rfl:=this
 .show h
 .show AA f i .b .b (a.pr 0 .a) (c.pr 0 .a) h
 .let g:=AA f i .b .b (a.pr 0 .a) (c.pr 0 .a) h;let:=AA (l:=d.drop 2) (m:=e.drop 2) (λx b=>f x (afr b)) (λx b=>i x (afr b)) (by rw[Ϟ];lia) (by rw[Ϟ];lia) (by let:=a.pr 1 .a;simpa [ĩ] using this) (by let:=c.pr 1 .a;simpa [ĩ] using this) g;rwa[List.drop_drop,List.drop_drop] at this
def Yn:Pt->Bool
 |.no=>Â
 |_=>Á
def SY{K:Ã}{N:Nn}{H:Hp}{v:V}{p:Pt}(h:DN K N H v (Wl p)):decide (v=.non)=!Yn p:=by
 cases p<;>cases h<;>rfl
def Ti(h:a∈bN 6):0-a∈bN 6:=by rw[Int.zero_sub];show(Gx a h).1
def M7(h:1<= ~~~l):rV l (-1)=À (l.getD (~~~l-1) 0):=by
 delta rV A_;rw[adF .a,adI .b];change l[↥(-1+(~~~l:Int))]?=_;rw[(.b:↥(-1+(~~~l:Int))= ~~~l-1),ĩ,į .b];rfl
def U2(xs:.L)(k:Int):.L:=(x9 0 1 3).map λj=>Q1 (vC xs (k+j)) (k+j)
def XF{n:Int}{m:Int}(a:n<=m)(h:i<↥(Ò 0 n 3)):.N+(i:Int)*3<m:=by
 unfold Ò at h;simp at h;split at h<;>lia
abbrev adC(P w K mg base):=aE P w K mg base 12 "_law_refused" ["_law_row","_law_other_here","_law_door"] (s_ K Rl Á (λ_ _ _=>Á))
abbrev adB(P w K mg base):=aE P w K mg base 3 "_law_other" ["_law_row","_law_cell"] (uz K (fun(r:.L) (_:Int)=>Sr r) Á (λr _ r'=>WN r r'))
abbrev adA(P w K mg base):=aE P w K mg base 2 "_law_free_row" ["_law_cell","_law_size"] (bL K (fun(_ n:Int)=>0<=n/\n<=8) Á my)
abbrev adz(P w K mg base):=aE P w K mg base 1 "_law_big" ["_law_cell","_law_k"] (bL K (λ_ k=>0<=k/\k<=100) Á Q1)
abbrev ady(P w K mg base):=aE P w K mg base 1 "_law_cell_at" ["_law_script","_law_k"] (bL K (λ_ k=>0<=k) Á vC)
def Vx(ZK:⇑ads)(Z5:⇑ady)(aaM:⇑adz)(ZV:⇑adA)(N:⇑adB)(y:⇑aE 132 "_law_rest" ["_law_row"] (pL K BP Á XM))(Z6:⇑adC)(xs:.L)(hl: ~~~xs<=63):
  Body P w K mg base Ke "law" FI f 133 [.val Â xs] (RT Á Á):=by
 intro cdv A outer s H E p;let hl':(if (~~~xs:Int)<3 then (~~~xs:Int) else 3)<=3/\0<=(if (~~~xs:Int)<3 then (~~~xs:Int) else 3):=by split<;>lia
 show ua (λi U=>∃r1 T L F G u o,U=[#v[xs],r1,T,L,F,G,u,o]) rfl B.range (b9 1 mE.nd) ae (bH (MK rfl rfl B.min ae (bh rfl B.len .A)) ae) ae #[.a,.a,.b,.b] .a #[none,none,none,none,none,none,none,rfl] ?_ ?_
 .rintro i U' hi ⟨r1,T,L,F,G,u,o,rfl⟩;let hi':=XF (m:=4) .b hi;show Mr 2 mE.nd (b':=Á) (f:=λj:Int=>Q1 (vC xs (.N+(i:Int)*3+j)) (.N+(i:Int)*3+j)) ["_law_j"] [0,1] (bG (af FI) Ke rfl rfl .d) (nX rfl B.range ae .a .a) (bf 0) (λC s H fp=>cE 0 ["_law_j","_law_script","_law_k"]) aW (λj a ha C s H fp=>?_) .a ?_
  .let hm:0<=a/\a<3:=by
    let:=Į ha;simp[x9] at this;lia
   show ax aaM p (ax Z5 p .B (bH .C .A) .b) (bH .C .A) #[.b,.b]
  change S _ [#v[xs],À (.val Á (.N+(i:Int)*3)),À (.val Á (U2 xs (.N+(i:Int)*3))),L,F,G,u,o] _ _;obtain⟨c0,c1,c2,V⟩:∃c0 c1 c2,U2 xs (.N+(i:Int)*3)=[c0,c1,c2]:=#[_,_,_,rfl];rw[V];let f3:=gY (a:=c1) (b:=3) .a;show zM 3 mE.nd (BL ZV p (aQ (a:=c0) .C ae rfl) (bH ae (bg (aQ (a:=c1) .C ae rfl) ae .a)) #[.b,.b]) ?_;show Fn 3 Á rfl ?_;let⟨k1,k2⟩:=Dc c0 ↥(2+c1.fmod 3);let k1: ~~~(my c0 (2+c1.fmod 3))=↥(2+c1.fmod 3):=k1;let k2:∀x∈my c0 (2+c1.fmod 3),x∈bN 6:=k2;generalize my c0 (2+c1.fmod 3)=row at *;show mW (λU=>∃one,U=[#v[xs],À (.val Á (.N+(i:Int)*3)),‹[c0,c1,c2]›,À (.own Á one),F,G,u,o]/\(2<= ~~~one/\~~~one<=4)/\∀x∈one,x∈bN 6) (aD aG (bg (bw (aQ (a:=c1) .C ae rfl) ae CK) ae .a) ae) (λ_=>?_) (λ_=>aK #[row,rfl,.b,k2]) ?_
  .show tP 3 rfl ae (ig ae (BH 3 rfl (bV ae) (M7 .b))) .a .b (aK #[_,rfl,by rw[Ŝ];lia,λx g=>?_]);obtain z|z:=aeR g
   .show k2 x z
   .rw[z];show Ti (k2 _ (Q.getD_mem .b))
  rintro U' ⟨one,rfl,⟨h2,W⟩,D⟩;show gR 3 rfl ?_;let hp:BP one:=#[.b,W,D];show jJ 4 mE.nd (j8 y p .D hp) λo1 Γ=>?_;let⟨m1,X,rfl,Z,f1⟩:=Γ;show jJ 5 mE.nd (KR y p (j_ N p .D (aQ (a:=c2) .C ae rfl) #[#[.b,.b],D]) λa ha=>?_) λo2 σ=>?_
  .let:=ha.2.len;show#[.b,.b,ha.1.2]
  let⟨ot,⟨⟨_,of⟩,al⟩,c,n2,rfl,hm2,f2⟩:=σ;let nz:∀{l:.L},(∀x∈l,x∈bN 6)->∀x∈l,x≠0:=λh x g=>cZ (h x g);let em:c=m1:=Q.HM.Yy (nz of) (nz D) al hm2 Z;subst em;let ar:=JT f1 f2 al.symm W;let rl:=ar.len;let⟨q1,I,J⟩:=f1.dq;let⟨q2,v,α⟩:=f2.dq;let J:∀x∈X.drop (2*c),j5 q1 x:=λx g=>J x (afr g);let α:∀x∈n2.drop (2*c),j5 q2 x:=λx g=>α x (afr g);let e1:=f1.len;let s1: ~~~(X.drop (2*c))<=8:=by rw[Ϟ];lia
  generalize X.drop (2*c)=e at *;generalize n2.drop (2*c)=k at *;show aO (TW.t (mJ (qx (M:=Int×.L) (x:=À ((c:Int),e)) (aa 4) zJ) λ_=>(mJ (qx (M:=Int×.L) (x:=À ((c:Int),k)) (aa 5) zJ) λ_=>(mJ (aD cH (aX (fX (a:=((c:Int),e)) (aa 4))) (aX (fX (a:=((c:Int),k)) (aa 5)))) λ_=>(lL (aD cH (bh rfl B.len (aY (fX (a:=((c:Int),e)) (aa 4)))) (bh rfl B.len (aY (fX (a:=((c:Int),k)) (aa 5)))))))))) (λq=>?_) (λ_=>?_)
  .rw[rl] at q;simp at q
  let en:QC e k=.no:=Sn (λx g=>#[q1,I,J x g]) (λx g=>#[q2,v,α x g]) ar;show aO (TW.t (jG (aD (J6 (M:=.L) (Im p)) (aY (fX (a:=((c:Int),e)) (aa 4))) (cw (M:=Int) (b:=Á) a_ (by change 0<=1000;decide))) λO=>(kW (XD (d:=Wl (QC e k)) (jk (a':=Dt.mk (Wl (QC e k))) (ax ZK p (aY (fX (a:=((c:Int),e)) (aa 4))) (aY (fX (a:=((c:Int),k)) (aa 5))) ?_) rfl) λ_ _ _ _ h=>SY h)))) (λq=>?_) (λ_=>?_)
  .let h1:1<= ~~~e:=by
    obtain _|⟨_,_⟩:=e
    .simp at O
    .simp
   change TZ e k;show#[7,7,J_ I h1 s1 J,J_ v .b .b α,.a]
  .rw[en,show Yn .no=Â from rfl,agO] at q;cases q
  show jP (xs:=Rr one) (b:=Á) (λj U=>∃u o,U=[#v[xs],À (.val Á (.N+(i:Int)*3)),‹[c0,c1,c2]›,‹one›,À (.val Á (À ((c:Int),e))),À (.val Á (À ((c:Int),k))),u,o]) (b9 6 mE.nd) (cw (az (jX .D (cw (b:=Á) (as:=[17]) (az ae a_) (ſ rfl)) (by change ~~~one+1<=1000;lia)) (az (jX (cw (b:=Á) (as:=[17]) (az ae a_) (ſ rfl)) .D (by change 1+~~~one<=1000;lia)) (az (jX (A0 .D ae .a) (cw (b:=Á) (as:=[4]) (az ae a_) (ſ rfl)) (by rw[Ϟ];change ~~~one-1+1<=1000;lia)) (az (cw (b:=Á) (as:=[12]) (az ae a_) (ſ rfl)) (az (jX (jX .D .D .b) (cw (b:=Á) (as:=[1]) (az ae a_) (ſ rfl)) (by rw[Ř];change ~~~one+~~~one+1<=1000;lia)) (az (cw (b:=Á) (as:=[1,1,1,1,-1]) (az ae (az ae (az ae (az ae (az (bV ae) a_))))) (ſ rfl)) a_)))))) (ſ rfl)) #[_,_,rfl] ?_ ?_
  .rintro j bd U' hb ⟨R,r,rfl⟩;let ok:=Rw h2 W D (Į hb);show eU (n:=3) (λz U=>∃o,U=[#v[xs],À (.val Á (.N+(i:Int)*3)),‹[c0,c1,c2]›,‹one›,À (.val Á (À ((c:Int),e))),À (.val Á (À ((c:Int),k))),‹bd›,o]) rfl B.range (b9 7 mE.nd) ae .a .a #[_,rfl] ?_ ?_
   .rintro z U' hz ⟨r,rfl⟩;let hz:z<3:=hz;let pa:=ok.ask (one:=one) .b D hz;show aO (kD (fQ (b8 Z6 p (Q8 (aa 6) ae .a) (aQ (a:=MQ one z) (cw (M:=.L) (b:=Á) (as:=[one.take 1,[1,-1]]) (az (Q8 .D ae .a) (az (cw (b:=Á) (as:=[1,-1]) (az ae (az (bV ae) a_)) (ſ rfl)) a_)) (ſ rfl)) (bg (aa 7) ae .a) ?_) (aa 7) pa))) (λq=>nomatch q) (λ_=>aK #[_,rfl]);let:z=0\/z=1\/z=2:=.b
    obtain rfl|rfl|rfl:=this<;>rfl
   .rintro U' ⟨r,rfl⟩;show aK #[_,_,rfl]
  .rintro U' ⟨R,r,rfl⟩;show aK #[_,_,_,_,_,_,_,rfl]
 .rintro U' ⟨r1,T,L,F,G,u,o,rfl⟩;show av xj rfl
end
open PySem PySem.Spec PyProof.Rows
open Q (Fr)
open Q (Fr)
open Q (Fr)
open Q (Fr)
def fin{o:Ð}{w:Ø}{K:Ã}{h:Û}{mg:Ì->Option Å}{fa:Ç}(X:K.In h)(G:h.Ns É mg)(hfa:mg "law"=À (.ref fa))(B:Bu mg)
  {cF cT cN cR cS:Ç} (xs:Xs K mg cF cT cN cR cS) (Y8:sO mg "GREAT_PRIMES_FROM" 32768) (YR:sO mg "GREAT_FROM" 1073741824) (ZW:sO mg "LONGEST" 8) (P:A7 K mg "SMALL_PLACES" [0,2,3,5,7,11,13]) (Zu:A7 K mg "AT_NOUGHT" [1,-1]) (aag:A7 K mg "AT_TWO" [1,3,5,7,2,6,10,14]) (Z7:sO mg "LONGEST_LED" 3) (Zl:sO mg "LONGEST_PARTED" 4) (abW:Df K "is_whole" o9) (S:Df K "power_by" pY) (abL:Df K "taken_out" nh) (abt:Df K "square_root" jH) (aau:Df K "square_root_or_none" dD) (aaY:Df K "common_divisor" gA) (Γ:Df K "fraction" i9) (abm:Df K "next_divisor" iQ) (abZ:Df K "is_prime" pP) (ab9:Df K "divided" sJ) (acq:Df K "parts" zX) (abD:Df K "tame_parts" k8) (acr:Df K "power" zw) (acs:Df K "freed" zu) (ab_:Df K "free_of" tF) (abM:Df K "square_by" nJ) (aca:Df K "back_by" tf) (Z:Df K "least_no_square" fN) (abN:Df K "squarings" nR) (aaZ:Df K "root_of_square" f_) (aa9:Df K "root_by_prime" g6) (abE:Df K "with_rests" lK) (acb:Df K "root_by" tS) (C:Df K "class_at" kY) (R:Df K "two_says" pQ) (ab1:Df K "odd_says" o_) (acw:Df K "says" Ez) (abO:Df K "primes_of" m_) (aba:Df K "is_row_number" g_) (acm:Df K "is_row" rh) (abb:Df K "refuse_no_row" hV) (ab2:Df K "signs_of" lP) (acu:Df K "is_no" vj) (acd:Df K "noes_of" oA) (abn:Df K "is_square_at" ji) (aaP:Df K "three_have_zero" fB) (aa0:Df K "four_have_zero" gG) (abP:Df K "have_zero" nF) (aaQ:Df K "without_divisor" dG) (abF:Df K "next_prime" k9) (aav:Df K "first_prime_without" dA) (abc:Df K "first_barring" eT) (abd:Df K "first_without" hX) (V:Df K "freed_product" g5) (abu:Df K "from_lesser" jU) (abf:Df K "least_root_by" g9) (abg:Df K "square_of_two" eO) (abh:Df K "zero_of_three" h_) (aaN:Df K "class_of_product" eX) (aaD:Df K "small_free_numbers" cW) (abG:Df K "classes_of" iB) (aa1:Df K "wishes_without" eC) (σ:Df K "are_among" mU) (abo:Df K "number_among" fF) (abH:Df K "samples_at" lH) (aa2:Df K "shared_classes" eH) (ace:Df K "meeting" ou) (ab3:Df K "is_small" pR) (aa3:Df K "product_of_all" gg) (abv:Df K "has_pair_at" jO) (aa4:Df K "pairs_at_prime" gh) (aaR:Df K "pairs_at_nought" dN) (aa5:Df K "how_many_pairs" eA) (abw:Df K "first_place" gI) (acv:Df K "times" Ao) (acx:Df K "plus" DQ) (aa6:Df K "values_by_zero" cY) (abI:Df K "plain_list" iD) (I:Df K "plain_table" dw) (acn:Df K "column" qV) (abx:Df K "turned_over" gL) (abi:Df K "common_bottom" g7) (aaS:Df K "over_one_bottom" dO) (aaT:Df K "sum_of_products" dE) (abR:Df K "sums_with" jC) (acf:Df K "product" ki) (aco:Df K "joined" vT) (abp:Df K "free_product" ja) (aby:Df K "made_of_two" jS) (acg:Df K "is_free" sU) (aa7:Df K "numbers_behind" gq) (ab4:Df K "row_with" pX) (abS:Df K "change_to" mY) (abz:Df K "all_stepped" jW) (aaE:Df K "first_in_one_alone" d8) (ach:Df K "parting" sE) (abj:Df K "values_of_two" g8) (aaG:Df K "is_small_and_free" eJ) (Zv:Df K "refuse_great_or_long" bt) (aci:Df K "step_to" sf) (ab5:Df K "exchange" pG) (aar:T6 K "steps_of_three_pairs" "steps_of_three" dg) (abk:Df K "steps_of_four" gZ) (H:Df K "parted" j9) (acj:Df K "leading" sW) (abA:Df K "_law_cell_at" jV) (ack:Df K "_law_big" r_) (abK:Df K "_law_common" kT) (ab6:Df K "_law_root" pN) (ab7:Df K "_law_free" pF) (aa8:Df K "_law_free_times" gp) (abT:Df K "_law_small" nG) (abq:Df K "_law_free_row" iU) (abr:Df K "_law_is_small" jh) (abU:Df K "_law_other" mK) (ab8:Df K "_law_rest" p4) (abV:Df K "_law_asked" nV) (abB:Df K "_law_refused" gK) (acy:Df K "law" FI):
  ∃fd:í,(∀(s:Æ) (u:Å),Ō s fd #[[u],[]] [("_law_script",u)])/\∀base:Û,K.In base->base.Ns É mg->dC o w K mg base p8 134 fa fd ["_law_script"] (B5 K):=by
 show Nj acy X G hfa (λ_ _ _ _ _ _ s u=>.of_eq rfl) λbase _ _ f fd F=>?_;let aay:acN o w K mg base:=abW.c1 X G λf fd F=>mj F Bw rfl λa _=>D5 B a;let Zc:acH o w K mg base:=S.c3 X G λf fd F=>MV F c9 rfl λa b c hp=>C_ a b c hp.1 hp.2.1 hp.2.2;let D:acC o w K mg base:=abL.c2 X G λf fd F=>km F fA rfl λa b hp=>Ca a b hp.1 hp.2.1 hp.2.2;let Y2:acz o w K mg base:=abt.c1 X G λf fd F=>mj F jg rfl λa hp=>xQ a hp.1 hp.2;let YM:acE o w K mg base:=aau.c1 X G λf fd F=>mj F fG rfl λa hp=>mi Y2 a hp;let N:acA o w K mg base:=aaY.c2 X G λf fd F=>km F dI rfl λa c _=>sR B a c;let y:acF o w K mg base:=Γ.c2 X G λf fd F=>km F nC rfl λa c hp=>Er N a c hp.1 hp.2;let Y9:acB o w K mg base:=abm.c3 X G λf fd F=>MV F l6 rfl λa b c hp=>wx B Y2 a b c hp;let aaz:aE o w K mg base 3 "is_prime" ["k"] (bU K (λk=>k<2^62) Á aN):=abZ.c1 X G λf fd F=>mj F Bi rfl λa hp=>CZ Y9 a hp;let ZI:acD o w K mg base:=ab9.c2 X G λf fd F=>km F dW rfl λa c hp=>G4 D Y9 a c hp;let z:acK o w K mg base:=acq.c1 X G λf fd F=>mj F wV rfl λa hp=>NH ZI a hp;let aad:aE o w K mg base 4 "tame_parts" ["k"] (bU K (λk=>1<=k/\Sm 900 k) Á SX):=abD.c1 X G λf fd F=>mj F jM rfl λa hp=>A2 Y8 YR ZI YM a hp;let abl:aE o w K mg base 1 "power" ["base","exponent"] (bL K XR Á V7):=acr.c2 X G λf fd F=>km F qH rfl λa c hp=>Nq B a c hp;let Za:acG o w K mg base:=acs.c1 X G λf fd F=>mj F jf rfl λa hp=>O0 B abl y aad a hp;let ZJ:aE o w K mg base 6 "free_of" ["k"] (bU K U5 Á fW):=ab_.c1 X G λf fd F=>mj F Dy rfl λa hp=>HC Za a hp;let J:acI o w K mg base:=abM.c2 X G λf fd F=>km F qJ rfl λa b hp=>Cw Zc a b hp.1 hp.2;let aaH:aE o w K mg base 1 "back_by" ["k","m"] (bL K Yb Á y6):=aca.c2 X G λf fd F=>km F bX rfl λa c hp=>Hs a c hp.1 hp.2.1 hp.2.2;let Y5:acJ o w K mg base:=Z.c1 X G λf fd F=>mj F eV rfl λa hp=>rB J a hp.1 hp.2;let aal:aE o w K mg base 1 "squarings" ["k","p"] (bL K XN Á k_):=abN.c2 X G λf fd F=>km F iA rfl λa c hp=>CC a c hp;let Zx:aE o w K mg base 4 "root_of_square" ["k","p"] (bL K X8 Á MZ):=aaZ.c2 X G λf fd F=>km F aM rfl λa c hp=>tW B D Zc Y5 aal a c hp;let ZL:aE o w K mg base 5 "root_by_prime" ["k","p"] (bL K XX Á Ai):=aa9.c2 X G λf fd F=>km F kJ rfl λa c hp=>uT J Zx a c hp;let aae:aE o w K mg base 2 "with_rests" ["one","m","other","p"] (Gn K WZ Á CH):=abE.c4 X G λf fd F=>VR F x8 rfl λa b c d hp=>zP aaH a b c d hp;let aaI:aE o w K mg base 6 "root_by" ["k","m"] (bL K (λ_ m=>1<=m/\m<2^60) Á Jm):=acb.c2 X G λf fd F=>km F e8 rfl λa c hp=>GX z ZL aae a c hp.1 hp.2;let YZ:acL o w K mg base:=C.c2 X G λf fd F=>km F fe rfl λa b hp=>DV D J a b hp.1 hp.2.1 hp.2.2;let t:acZ o w K mg base:=C.c2 X G λf fd F=>km F fe rfl λa b hp=>Cs D J a b hp.1 hp.2;let aaw:aE o w K mg base 1 "two_says" ["one","other"] (bL K (λ_ _=>True) Á iK):=R.c2 X G λf fd F=>km F gU rfl λa b _=>Em a b;let aax:acM o w K mg base:=ab1.c3 X G λf fd F=>MV F gP rfl λa b c hp=>En J a b c hp;let O:acR o w K mg base:=acw.c3 X G λf fd F=>MV F AU rfl λa b c hp=>QW YZ aaw aax a b c hp.1 hp.2.1 hp.2.2;let α:acS o w K mg base:=abO.c1 X G λf fd F=>mj F iH rfl λns hp=>Cz B z ns hp;let YW:acO o w K mg base:=aba.c1 X G λf fd F=>mj F sX rfl λa _=>uL B YR aay a;let aaU:acP o w K mg base:=acm.c1 X G λf fd F=>mj F HL rfl λa hp=>Mm B ZW YW a hp;let YL:acQ o w K mg base:=abb.c1 X G λf fd F=>W4 F tj rfl λa hp=>uI aaU a hp;let Z8:adj o w K mg base:=ab2.c1 X G λf fd F=>mj F BU rfl λa hp=>CN B YL a hp;let E:acT o w K mg base:=acu.c2 X G λf fd F=>km F rg rfl λa c hp=>Oe B O a c hp.1 hp.2.1 hp.2.2;let aak:aE o w K mg base 6 "noes_of" ["row"] (bU K Wk Á Mp):=acd.c1 X G λf fd F=>mj F C1 rfl λa hp=>HI α YL E a hp;let YX:acU o w K mg base:=abn.c2 X G λf fd F=>km F uA rfl λa b hp=>wG YZ a b hp;let Y6:acV o w K mg base:=aaP.c4 X G λf fd F=>VR F o7 rfl λa b c d hp=>rQ O a b c d hp;let Zy:aE o w K mg base 6 "four_have_zero" ["numbers","p"] (bL K Xp Á dk):=aa0.c2 X G λf fd F=>km F jr rfl λa b hp=>tH YX Y6 a b hp;let Y1:acX o w K mg base:=abP.c2 X G λf fd F=>km F Aq rfl λa b hp=>Cy B YX Y6 Zy a b hp;let Y7:acY o w K mg base:=aaQ.c1 X G λf fd F=>mj F dh rfl λa hp=>qd N a hp;let Zf:acW o w K mg base:=abF.c1 X G λf fd F=>mj F jZ rfl λa hp=>AN aaz a hp.1 hp.2;let Zg:aE o w K mg base 8 "first_prime_without" ["row"] (bU K W2 Á jQ):=aav.c1 X G λf fd F=>mj F dc rfl λa hp=>mr YM Zf Y1 a hp;let ZM:aE o w K mg base 9 "first_barring" ["numbers"] (bU K Ou Á jQ):=abc.c1 X G λf fd F=>mj F kK rfl λa hp=>uW B α Y1 Zg a hp;let Y4:aE o w K mg base 10 "first_without" ["row"] (bU K Ou Á jQ):=abd.c1 X G λf fd F=>mj F sF rfl λa hp=>uE YL ZM a hp;let Zm:aE o w K mg base 6 "freed_product" ["a","b"] (bL K IC Á T7):=V.c2 X G λf fd F=>km F j6 rfl λa c hp=>uN B YR Za a c hp;let Zb:aE o w K mg base 3 "from_lesser" ["a","lesser","root","zero"] (Gn K Wi Á Wf):=abu.c4 X G λf fd F=>VR F jd rfl λa b c d hp=>xK Y7 a b c d hp;let Y_:aE o w K mg base 7 "least_root_by" ["k","m"] (bL K Wc Á IU):=abf.c2 X G λf fd F=>km F kz rfl λa c hp=>uS aaI a c hp;let ZN:aE o w K mg base 126 "square_of_two" ["a","b"] (uz K (λa b=>MU a b/\xJ a b<118/\xJ a b<118) Á Sy):=uh B Za Zb Y_ abg X G 118;let ZP:aE o w K mg base 127 "zero_of_three" ["row"] (pL K Sw Á Z3):=abh.c1 X G λf fd F=>HR F bR rfl λa hp=>uP YL Y7 Y4 Zm ZN a hp;let Zn:aE o w K mg base 1 "class_of_product" ["one","other","p"] (s_ K WY Á uG):=aaN.c3 X G λf fd F=>MV F iq rfl λa c d hp=>pB a c d hp;let Zi:ac0 o w K mg base:=aaD.c0 X G λf fd F=>Xy F cz rfl (mG B P);let aaf:ac1 o w K mg base:=abG.c2 X G λf fd F=>km F xY rfl λa c hp=>zH t a c hp.1 hp.2;let Zz:ac2 o w K mg base:=aa1.c3 X G λf fd F=>MV F dF rfl λa c d hp=>tU B t Zn a c d hp.1 hp.2.1 hp.2.2;let aam:ac3 o w K mg base:=σ.c2 X G λf fd F=>km F qM rfl λa c _=>Cv B a c;let ZS:aE o w K mg base 5 "number_among" ["places","wishes"] (uz K (fun(ps:.L) (L:List rX)=>ps=P7/\OC L/\∀j,j<7->L.getD j []≠[]) Á (λ_ L (n:Int)=>TR L n)):=abo.c2 X G λf fd F=>My F bW rfl λa c hp=>vD B P Zf Zi aaf Zz aam a c hp.1 hp.2.1 hp.2.2;let aah:aE o w K mg base 4 "samples_at" ["p"] (bU K (fun(p:Int)=>p∈P7) Á Q.ko):=abH.c1 X G λf fd F=>mj F oZ rfl λa hp=>AS B Zu aag Y5 a hp;let ZA:aE o w K mg base 8 "shared_classes" ["one","other","p"] (s_ K Xg Á Iw):=aa2.c3 X G λf fd F=>MV F qZ rfl λa c d hp=>sS t aah Y1 a c d hp;let aaK:adp o w K mg base:=ace.c2 X G λf fd F=>My F wL rfl λa c hp=>HJ B P α ZA ZS a c hp;let aaB:aE o w K mg base 3 "is_small" ["k"] (bU K (fun(_:Int)=>True) Á wQ):=ab3.c1 X G λf fd F=>mj F ju rfl λa _=>CU B P YW D YM a;let ZC:aE o w K mg base 1 "product_of_all" ["row"] (bU K (fun(r:.L)=>~~~r<=8/\∀x∈r,Sm 62 x) Á cf):=aa3.c1 X G λf fd F=>mj F dM rfl λa hp=>tD a hp.1 hp.2;let ZX:aE o w K mg base 5 "has_pair_at" ["size","number","odd","p"] (Gn K Xa Á Wm):=abv.c4 X G λf fd F=>VR F xr rfl λa b c d hp=>yh YX O a b c d hp;let ZD:aE o w K mg base 6 "pairs_at_prime" ["row","p"] (bL K XG Á Ot):=aa4.c2 X G λf fd F=>km F bc rfl λa c hp=>tI B E O ZC ZX a c hp;let Zs:ac4 o w K mg base:=aaR.c1 X G λf fd F=>mj F iZ rfl λa hp=>rD B a hp;let ZH:aE o w K mg base 7 "how_many_pairs" ["row"] (bU K Ws Á Az):=aa5.c1 X G λf fd F=>mj F qY rfl λa hp=>sP B YL α ZD Zs a hp;let ZY:ac5 o w K mg base:=abw.c1 X G λf fd F=>HR F xc rfl λa hp=>x_ B a hp.1 hp.2;let Zq:aE o w K mg base 3 "times" ["u","v"] (bL K Gk Á bZ):=acv.c2 X G λf fd F=>km F Kx rfl λu v hp=>OX y u v hp;let abC:aE o w K mg base 3 "plus" ["u","v"] (bL K Gk Á uJ):=acx.c2 X G λf fd F=>km F Na rfl λu v hp=>Q2 y u v hp;let ZG:adl o w K mg base:=aa6.c3 X G λf fd F=>VE F dH rfl λa c d hp=>sQ y ZY Zq abC a c d hp;let Zh:ac6 o w K mg base:=abI.c2 X G λf fd F=>km F xS rfl λn i hp=>zF B n i hp.1 hp.2;let Z0:aE o w K mg base 2 "plain_table" ["n"] (bU K (λn=>.N<=n/\n<=8) Á Pb):=I.c1 X G λf fd F=>mj F nN rfl λn hp=>yb B Zh n hp.1 hp.2;let aaV:ac7 o w K mg base:=acn.c2 X G λf fd F=>km F Hr rfl λT j hp=>Lu T j hp.1 hp.2.1 hp.2.2;let ZZ:ac9 o w K mg base:=abx.c1 X G λf fd F=>mj F xk rfl λT hp=>hp.elim λn h=>xP B aaV n T h;let ZO:aE o w K mg base 2 "common_bottom" ["numbers"] (bU K (AK 2000) Á mw):=abi.c1 X G λf fd F=>mj F eh rfl λus h=>uC N us h;let Zd:aE o w K mg base 3 "over_one_bottom" ["numbers"] (bU K (AK 2000) Á BD):=aaS.c1 X G λf fd F=>mj F iO rfl λus h=>qS ZO us h;let Zt:ac8 o w K mg base:=aaT.c2 X G λf fd F=>km F jj rfl λa b h=>qF B y a b h.1 h.2;let aan:ac_ o w K mg base:=abR.c2 X G λf fd F=>km F AF rfl λa b h=>Cj Zt a b h.1 h.2.1 h.2.2;let aaJ:adf o w K mg base:=acf.c2 X G λf fd F=>km F vU rfl λA B h=>h.elim λn h=>Hu ZZ Zd aan n A B h.1 h.2;let ZE:ada o w K mg base:=aco.c2 X G λf fd F=>km F yw rfl λa c hp=>LU N a c hp;let Y3:adb o w K mg base:=abp.c1 X G λf fd F=>mj F eP rfl λa hp=>wg ZE ZJ a hp;let Zw:aE o w K mg base 3 "made_of_two" ["a","b","x","y"] (Gn K Wn Á Wg):=aby.c4 X G λf fd F=>VR F mX rfl λa c d e hp=>yg y a c d e hp;let Zo:ade o w K mg base:=acg.c1 X G λf fd F=>mj F Dv rfl λa _=>HG YW ZJ a;let ZF:adg o w K mg base:=aa7.c2 X G λf fd F=>km F cO rfl λa c hp=>hp.elim λs h=>tE B YR ZE Y3 Zw Zo a c s h.1 h.2.1 h.2.2;let aaA:adi o w K mg base:=ab4.c3 X G λf fd F=>MV F uj rfl λa c d hp=>hp.elim λs h=>C5 B a c d s h.1 h.2;let ZT:aE o w K mg base 2 "plain_table" ["n"] (bU K (λn=>.N<=n/\n<=8) Á RQ):=I.c1 X G λf fd F=>mj F nN rfl λn hp=>xx B Zh n hp.1 hp.2;let aao:adh o w K mg base:=abS.c3 X G λf fd F=>MV F fK rfl λa c u hp=>hp.elim λs h=>CB B Y2 Zq ZT a c u s h.1 h.2;let Z4:aE o w K mg base 10 "all_stepped" ["row","steps"] (bL K WE Á sV):=abz.c2 X G λf fd F=>km F cu rfl λa c hp=>xW B YL Z0 aaJ ZF aao aaA a c hp;let Zj:adk o w K mg base:=aaE.c2 X G λf fd F=>km F f9 rfl λa c hp=>nH B a c hp;let ZK:ads o w K mg base:=ach.c2 X G λf fd F=>km F xg rfl λa c hp=>HV B YL Z8 Y3 aak Zj a c hp;let ZQ:adm o w K mg base:=abj.c3 X G λf fd F=>VE F tw rfl λa c d hp=>uB ZP ZG a c d hp;let Y0:aE o w K mg base 8 "is_small_and_free" ["k"] (bU K (fun(_:Int)=>True) Á DK):=aaG.c1 X G λf fd F=>mj F mL rfl λa hp=>oR aaB Zo a;let YV:adq o w K mg base:=Zv.c2 X G λf fd F=>WL F fg rfl λa c hp=>kX B Y0 a c hp;let YO:uR o w K mg base 9 "refuse_great_or_long" ["row","longest"] (Hw K MY cT):=Zv.Nr X G (λ_ _ _ _ _ _ us q=>match us,q with|[_,_],_=>rfl) λf fd F=>UP F fg rfl λa c hp=>kf B Y0 xs a c hp;let Zp:adn o w K mg base:=aci.PL X G (λ_ _ _ _ _ _ us q=>match us,q with|[_,_,_,_,_],_=>rfl) λf fd F=>X4 F wy rfl λa c d g i hp=>Hv ZQ a c d g i hp;let Zr:ado o w K mg base:=ab5.c2 X G λf fd F=>km F BK rfl λa c _=>DB a c;let aat:aE o w K mg base 130 "steps_of_three_pairs" ["row"] (pL K (λl=>∃a b c,l=[a,b,c]/\a∈bN 6/\b∈bN 6/\c∈bN 6/\jQ l=none) Á We):=aar.c1 X G λf fd F=>HR F kP rfl λa hp=>sI Zp Zr a hp;let ZR:aE o w K mg base 130 "steps_of_four" ["row"] (pL K (λl=>∃a b c d,l=[a,b,c,d]/\a∈bN 6/\b∈bN 6/\c∈bN 6/\d∈bN 6/\jQ l=none) Á Wu):=abk.c1 X G λf fd F=>HR F kN rfl λa hp=>uF aaK Zp Zr a hp;let aaX:aE o w K mg base 131 "parted" ["row"] (pL K BP Á TM):=H.c1 X G λf fd F=>HR F kM rfl λa hp=>Li B Zl YL YV Y4 aat ZR ZH a hp;let aaL:uR o w K mg base 10 "parted" ["row"] (Oh K (λl=>a8 l=Á/\MY l 4) cT):=H.Nr X G (λ_ _ _ _ _ _ us q=>match us,q with|[_],_=>rfl) λf fd F=>Xl F kM rfl λa hp=>Ii YL YO Zl a hp;let Z_:uR o w K mg base 10 "leading" ["one","other"] (Hw K T8 cT):=acj.Nr X G (λ_ _ _ _ _ _ us q=>match us,q with|[_,_],_=>rfl) λf fd F=>UP F w_ rfl λa c hp=>Eh YV YO Z7 ZK a c hp;let Z5:ady o w K mg base:=abA.c2 X G λf fd F=>km F vA rfl λa c hp=>xR B a c hp;let aaM:adz o w K mg base:=ack.c2 X G λf fd F=>km F gE rfl λa c hp=>GJ B a c hp.1 hp.2;let aai:adu o w K mg base:=abK.c2 X G λf fd F=>km F gH rfl λa c _=>AD B a c;let Z9:adt o w K mg base:=ab6.c1 X G λf fd F=>mj F nE rfl λa hp=>D9 a hp.1 hp.2;let aaC:adv o w K mg base:=ab7.c1 X G λf fd F=>mj F b_ rfl λa hp=>CQ B Z9 a hp.1 hp.2;let Zk:adw o w K mg base:=aa8.c2 X G λf fd F=>km F jA rfl λa c hp=>sY aai a c hp;let aap:aE o w K mg base 1 "_law_small" ["_law_cell"] (bU K (fun(_:Int)=>True) Á TN):=abT.c1 X G λf fd F=>mj F eB rfl λa _=>Cr B a;let ZV:adA o w K mg base:=abq.c2 X G λf fd F=>km F eR rfl λa c hp=>wK B aap a c hp.1 hp.2;let ZU:adx o w K mg base:=abr.c1 X G λf fd F=>mj F eQ rfl λa hp=>xp B a hp;let aaq:adB o w K mg base:=abU.c2 X G λf fd F=>My F bT rfl λa c hp=>Bf B aaC Zk ZU a c hp;let aaa:aE o w K mg base 132 "_law_rest" ["_law_row"] (pL K BP Á XM):=ab8.c1 X G λf fd F=>HR F jB rfl λa hp=>DU B aaX Z4 a hp;let aaj:uR o w K mg base 11 "_law_asked" ["_law_row","_law_other_here","_law_door"] (Ox K Rl cT):=abV.Nr X G (λ_ _ _ _ _ _ us q=>match us,q with|[_,_,_],_=>rfl) λf fd F=>XJ F Aa rfl λa c d hp=>zR B aaL Z_ a c d hp;let Z6:adC o w K mg base:=abB.c3 X G λf fd F=>MV F nW rfl λa c d hp=>xU B xs aaj a c d hp;show mj F mE rfl λa hp=>Vx B ZK Z5 aaM ZV aaq aaa Z6 a hp
end L2.EP.K
open Lean in
local macro_rules|`(#print $s:str)=>do
  let r:=s.getString.toList.toArray
  let f←(Array.range (r.size/10)).mapM fun i=>do
    let n:=mkIdent (.str `PySem.W.Fast s!"tw{(r.extract (10*i) (10*i+10)).foldl (fun n c=>n*89+"#$%&'()*+,.0123456789:;<=>?@ABCDEFGHIJKLMNOPQRSTUVWXYZ[]^_`abcdefghijklmnopqrstuvwxyz{|}~".toList.idxOf c) 0}")
    MonadRef.withRef .missing `(theorem $n:ident:True:=.intro)
  return mkNullNode f
#print "=:7GB_x10]#B.[krxk^f9FzOY,nGHl+{%hGc`D#*6Zq=;=Ka,?K3dBkj+U#5@tb2xFSRk%OR(xt31|JaXj6bb^75mgSA'%WX[]ycMp:V320+&s)F*|C{82<.&kXD$'W5R[Xc')oc]47}@Rr]Kdk`{w5^>t.~{+f?*2,z:zU{T*VpJ3khwQb<NkP1,(b;,iR%inB&OAPg6X0;S`DxEu>{5qFNZ@_S+VV38Xl}Fx>SA,Y{py%E(fQ<bDde^f+pG9%GEoWa<8)g)SPuTmBjQ$q:_7bjUIqU*P6#RM16_Ozoyz'W3+kv}ZN~e_FGC)8`?[i{+cg+~jK;x#46t$G%=P2eW@slQFn*'D:U*.qTHlq;5tML$QNS8:%r4oEg2x}(;}lAVl82Zj3.KGlS=(Q$EYnk_?M&y<LM|'NA.GAD9TYT1%)w0p7x2(nGG'0%5u3J*=vNe:Lr>A+m7^)l0v~7x?8}*T1a?QqBXZIW>.w$];H)44AWqR4<vM20KvKTP$7Ah+Y_fI|Gl]=BG*hCbnSmRDTQ0JaJ).5e'U0GRp|DiA44wn^$1~I,3N'soB2IY0Ws^Wu,>;;mT~Hf^JG%JW#eCsb+WNq#18OkUjjv]A?)C+IyZ8*~4FjRtY.W1t#K|zM)|1C8*0{4nJiCZ>PYC$n{kNltBLpYRBKHpN2#xbsgzgK&$O:?N#@{<=;.Rc,j2V:iSZAR_AO*O9VKN)?{v~6I8tKb+tvsw&7UQX(P,ySCKef[su(pH)L}v[f0Q?L66B+9sD1.p0P@o*[Y=cpk*]M.0AHG91Jf=VEC_YxH7)Q'}jcI}p:2*Osw3w]1'n'ExW0@1:RFh=Kl]]L(T.%0paxcB~*.gw`SRQoP#VL2hp.V<.46AJ*'cy:]BCAif8p;0&Tk*&XR<@:sCx5db?n|oG5{d`]U)rNc,a3fgooxl3XORmm'qH`.8=M2sb(,km,,('T&0HI=Ck6iKlX4z'&*G2m+rFaEGHmSPW:?f`Q<X<UOF9:.2j{08R7`oKD$m&OUHeIZ%aFD~=IV2ZLzB7YSgNJ39k[+*.vTNnI?%rmE?l1H<l8D_6)eGT9AVUMpz$OIV&&TE_ijs=UsTD4RY&rJ7VZ{.V,<5j=04g[nL@PCN{0xy=}=ENK17Gdy|9tmJK4Kkkw5&mH3=r6ZafBc#Ln$HqKcaB%BqC$uQ&}|2Fq$>.Z[7l$zp2jcqOExRU]4jb%0.lRS@hG:=x<:F6)S<~$}q_HW7J{6iQC:V,k91tNsC4OWqVcZ'|;VQ^_341.J]T=2StTO_tNNBa[H?,Vh{rCGz6SoTD,r#5$s$,$G>r5C%2^Eihz_1ry#VsfkmsR2y~e>Vtwm%:*`'gHeq89JmWf`]5+nY$u^&rgr4d;Q[g'xX%KMI9wZgva}tK8,]8;0T0[o;HZj_M*zU%Lm8vc{b;*0'dE%,<OE5K@{IeVq.Nr*2mW0jj+R2a+Er8&~8f64?;56N~o:vP.@zX9px,X5#.qp4@Io#f+D+I41)~d>QTLS8K2>niE7lN$nu@XQFe{TQ)8o9K4)dGqZ`3'r<xoS_tcL4`Ia(B@vbg|A#TZs~lPQqS1hL[#mz(pCN<XlVw`P$1ASfmr_gqjh'$?LURw*=&H}#$e$]T=`C.nClE{KX&IWL<DJR?ONRKTMzkf>qk?F:(H$k10;So7K8kcWj|>fW@LD>;fi?Ygj)&]}sd2.(tN]~hn;K+GjfBbyU]2'[>23t:,&7`gq*ap3~QF<{<`4r*h0%E9v7Uv0Q`D7}CGd<M:+J<&^ObXYbD._UN+ZN9wNC<CKKgA'=mLx`|hQR+a).T9c;4|Qe<Sn0L@cH(V$,+rLixdkvUW<);pxHue^&Ql}{^%zYORU([<^o~U33hXX3]B0+uA}@2oln])U'mZn>A50*07>GhBpdM,8*w7w(@Sf'2%T$3W~UwUd:{{UqI[]%=6<(caFR@>W=WH.ox,2UTBi=L5g<NL{O7}2[Nli'p#QU_7J?#CD)qafKzX:ac3V,wZC=D$n(nam#&OgZjVy`T.JUHcw%Z%DyP?$CU>c7S._0Tw.%`Nk*)bCl7JbH;M&3?MB1Ot*hN_0]$Sx2+55__Fi7v_8,L8U(s.%7S<+VLUg*c9^Ljs:3x:p.bFy]X@e%hIy=U=Ji0U{,z~o;pZMMzI9oA.DJ4K)}o'm|.'|Ul]K'1:D6d?2QKLZR6EZF%C9I(r=2Z'A[qV[%(f+D$+ssAyvu19$4Xv<7.4}Cxi`07eh+j=$3[#+zSL''u5+H@JVloG$gi(+wP.fQ((X1`Mb*:3}Q<oPd*??ByA'K?LV1;<3MiZPU25PLBVB)eeJ]A8?TJ6n2JXyG'@#)o{o'`6y_m}<cV[mY1umxsKX[|5j*BndL@6r(xEo.x<EzWA4A^`NZX:n:.=<svYX{K%:4)U]?9'EX%pB=J&0{VYNZ=rqCV^33;r}9##j6r2GK8T%.Dg7;)HdgIoY?K>hq%&:CAtt(|<>]9H=2oX{o$@i(=ZR>Kb;C%f,t#Jn#p{JP'o+&rNuX{7a9)Bph`MEO7uKHkbqY]y'&{:GRwiIw??}<JaFfWzf<;(w2|O_(Kd>T=)IcO{t94*t=5r8)amI(:MJ_L>WF+JfmfH{x%?fS{`~zoaU{($=9EbX+xsfBsJ$5f3qtO8ZIro:}Uun0yi98eodKCEO#1]h6Uzp=7W?8c[tRPK2tqQr:2:P,qSZ9ktz_b(YdC>Bm4r|INq&%k{c)DY7e+mLLb~P@GXMD_}xFJE&&'4zcJ@b0+ievRJfhq=v{95=L?oK3nnn:nFyt;CQO,}|4Vs*Amw`,D,t8)7R*E+3J`qYF~)`WO_u`X<HG_tYbga_2%ND}&yEsN2s']VFiMLg*h_{Si{1m_H<4y84=<@pA)ldE|jAXJN(}#f&PQ_^.tf4I,OMPvC+p~(afwvFNk_#XSRF+N3XNjA8#(`6<C0%G|=;)OUG#_O^6(Z]':%>[nJygK5UfqHW*lAB%5R+cg2a#z$3`Tq+C];K<n}<PmAAK>#t``o_*k{AEQ}ya+kylA72HU.iv4Ro.K2}rwignQ8Vi#fO'Q[VKM{lZ[,#j6$;v+=Lw[hKW>fuClUV*769B22&OAf=WRWZ9DGCFc;dv]8uiLaQU6w|4K_w80B:[#z7lDGSWW.hwdb2,i>9]?9F77d3ISzkIJ)DBGOTvE%raoi2&viJKa8U*pRR7u*%fkU3BUm#Ga(8Z(.O]ionHg*,%jy^b_1jxsRc0hUio_Bu83iRs?&e+E(j[E4~e}1OK=s{LjK*>M0{lHKw@0BnVWrT3.Ir>,2^)#MZCvdgFexyD}4YiF;j0I`xu|4G3SzcI&:BcR9}Rr&Od&YhBl5&ddO_Jd:I]ZbWQtQATnFZ0R:y,`5T,5o#f#3.T;dYw?u29l(IA#JUlKP)4WZ4dWX{Uq0z:A#.@%=aQ.I$W%kdc}8(8K6X%u*nDQ]b0zf0m:MWA)kQ`g`y(Y?Q]W7EkIU,bIk,{&.bB|]`ND,#kMAAZ7?^,qC3,*R]Y*g*?IQ.Vv<[K~Cw>p>W&IP@J5V)OqOd+;$#L9'p5Lv|>xX>8a5rqPK3=yj4vIP7y'SJR3OD%AU{%iZsWm=:ygEEYs]y.Ddt2>[5OBHeZ<;nyIw2{Y:ETk^uu`[unV2[:j+K@*N{;?7~9<Sd^K>d#Ntw0srnRVw[(cz#jYGVHlen&,GnU7))#K+'Qs>O~WKP''(c&s+pd4p_tSF2jQC%yTq&S:eqyINp|36u=&p>Bh*T3;H%A6xK?J.faEEVWb(j;DF]<2JvUyFNN7n:,LBxY4~JbFf%w^5fa?f^~_FHHwQ<w)Z$ER0#06fP+5qxTw3QkbusrP@J*TS2DvnQ7j['q2P+Z*:wfY7`HIZh;TkBPZ*7II5TG,)Y,|9J#Kj254um`x%F^fdr#r3.(F4U`)x'sHY]CWHt8M9:2OG~eEA)lz%9U#bF:d=c%GhCF2ug6'YW06&DYt3z2.PY,F{%=NLf_~)@Q=gH7TMXk&9^O|X{&3#a>VykU+#'&rO'FH54&<+jcj{0JeXoJr4)p*:AgLam$bo+,iX|JQZ+fR#]FT)+d+6`#G;^5)GXSB(Cgsi?=Zw'5Y1f#vN:5=*UxC5x`%?$Ld7@t{+&JT9c9}m(>}X=,U*ugw?$TC'0Kzb6zq':D=TI99cr=;EwVvcg$ckX*~Ur%Bw~m+1;TG.Z9CCrIUKHXoxop;U(a[jWY52#DD2z`Kl7CbW]X)9ldcfC:NtjCdxv@A*ZIbuxsFPm%fcZ35%q)vJ}NIaG6~:&KwVeHJ):ZBQL3i+Y(:*e$J:}eT2RwpR[uvSY_4pm8]%E,l6V2b2XN:HI6_##W@C0rnBpuoM]gXF&mfhJ>9=+sGPf~#0NvNq[3}m58Cms{N8.*WKTE:6W9uYC42]^WGzj;H$xD~]:sY1b0X^qKqeXRkTOAJK*kz9KI+FVRTfE2cB].H[psVTr+zKJ$>c[Ig+WLd5(gJ>r*U&_P6ut#w%xj};`u:j&3&cjDgU}26VOH]dks`NvQZr,GBApTj7X40tH8D}vJnb,O?sO]>J+Gc6^?_nEL#hN:}vpwRA)UX#S9v~$Q0v}}.h|Fo?p(pdKFB=WIGw+d[))~EBiioxlkxJ`@tAHq5*G~8AT$hvgwR8C5b(#xaH]ao2exah+F@K02=2Hz;a#+}6uHKCCBnc]S^W<wQWv+)G3<mHOah.?FWr}%}Dp@=#Ojpe*]a.79tc{j?22V.2vMO4LEc0j2EYJ.?#7Tg*(j2YbHk7L%MqYdj)Rrx9S{PFAu0<3Pn1$`eR%BqA_0rrk#^anTGYqxpdY]{YRUt%}7F$L+Py&YEEe?y"
end
open PySem PySem.W PyProof.Rows
set_option maxRecDepth 100000 in
set_option maxHeartbeats 0 in
theorem PySem.Challenge.cw_everyplace_k62_rests_alike_holds : PySem.Challenge.rw_everyplace_k62_rests_alike.Holds := by
 w_on; o_law; k_head; (case hw => w_witness2)
 k_fill
 refine L2.II (l := PySem.Challenge.rw_everyplace_k62_rests_alike) (n := 63) (k := 134) (x := "_law_script") (CX := L2.p8) (sp := L2.EP.B5) rfl (by decide) rfl ⟨rfl, by decide, by decide⟩ (fun w h Y => PySem.W.kIn_of Y) ?F ?S ?C
 case F =>
  intro w mg fa h KX G hmg
  have B : L2.EP.Bu mg := by
   refine' L2.EP.U4 (K := L2.lZ KX) KX G ?z1 ?z2 ?z3 ?z4 ?z5 ?z6 ?z7 ?z8 ?z9 ?z10 ?z11 ?z12 ?z13 ?z14 ?z15 ?z16 ?z17 ?z18 ?z19
   all_goals (dsimp only [L2.lZ]; k_is)
  have Y8 : L2.EP.sO mg "GREAT_PRIMES_FROM" 32768 := by
   refine' L2.EP.sO.mk (K := L2.lZ KX) KX G ?ga0
   (case ga0 => dsimp only [L2.lZ]; k_is)
  have YR : L2.EP.sO mg "GREAT_FROM" 1073741824 := by
   refine' L2.EP.sO.mk (K := L2.lZ KX) KX G ?ga1
   (case ga1 => dsimp only [L2.lZ]; k_is)
  have ZW : L2.EP.sO mg "LONGEST" 8 := by
   refine' L2.EP.sO.mk (K := L2.lZ KX) KX G ?ga2
   (case ga2 => dsimp only [L2.lZ]; k_is)
  have YT : L2.EP.A7 (L2.lZ KX) mg "SMALL_PLACES" [0, 2, 3, 5, 7, 11, 13] := by
   refine' L2.EP.A7.mk (K := L2.lZ KX) KX G ?ga3 ?gl3 ?gz3 ?gv3
   (case ga3 => dsimp only [L2.lZ]; k_is); (case gl3 => dsimp only [L2.lZ]; k_is); (case gz3 => decide); (case gv3 => repeat' (first | exact .nil | refine .cons ⟨_, rfl⟩ ?_))
  have Zu : L2.EP.A7 (L2.lZ KX) mg "AT_NOUGHT" [1, -1] := by
   refine' L2.EP.A7.mk (K := L2.lZ KX) KX G ?ga4 ?gl4 ?gz4 ?gv4
   (case ga4 => dsimp only [L2.lZ]; k_is); (case gl4 => dsimp only [L2.lZ]; k_is); (case gz4 => decide); (case gv4 => repeat' (first | exact .nil | refine .cons ⟨_, rfl⟩ ?_))
  have aag : L2.EP.A7 (L2.lZ KX) mg "AT_TWO" [1, 3, 5, 7, 2, 6, 10, 14] := by
   refine' L2.EP.A7.mk (K := L2.lZ KX) KX G ?ga5 ?gl5 ?gz5 ?gv5
   (case ga5 => dsimp only [L2.lZ]; k_is); (case gl5 => dsimp only [L2.lZ]; k_is); (case gz5 => decide); (case gv5 => repeat' (first | exact .nil | refine .cons ⟨_, rfl⟩ ?_))
  have Z7 : L2.EP.sO mg "LONGEST_LED" 3 := by
   refine' L2.EP.sO.mk (K := L2.lZ KX) KX G ?ga6
   (case ga6 => dsimp only [L2.lZ]; k_is)
  have Zl : L2.EP.sO mg "LONGEST_PARTED" 4 := by
   refine' L2.EP.sO.mk (K := L2.lZ KX) KX G ?ga7
   (case ga7 => dsimp only [L2.lZ]; k_is)
  obtain ⟨cF, cT, cN, cR, cS, xs⟩ : ∃ cF cT cN cR cS, L2.EP.Xs (L2.lZ KX) mg cF cT cN cR cS := by
   refine' ⟨_, _, _, _, _, L2.EP.VU (K := L2.lZ KX) KX G ?xz1 ?xz2 ?xz3 ?xz4 ?xz5 ?xz6 ?xy1 ?xy2 ?xy3 ?xy4⟩
   (case xz1 => dsimp only [L2.lZ]; k_is); (case xz2 => dsimp only [L2.lZ]; k_is); (case xz3 => dsimp only [L2.lZ]; k_is); (case xz4 => dsimp only [L2.lZ]; k_is); (case xz5 => dsimp only [L2.lZ]; k_is); (case xz6 => dsimp only [L2.lZ]; k_is)
   (case xy1 => dsimp only [L2.lZ]; kernel_rfl); (case xy2 => dsimp only [L2.lZ]; kernel_rfl); (case xy3 => dsimp only [L2.lZ]; kernel_rfl); (case xy4 => dsimp only [L2.lZ]; kernel_rfl)
  refine L2.EP.K.fin (K := L2.lZ KX) KX G hmg B xs Y8 YR ZW YT Zu aag Z7 Zl ?_ ?_ ?_ ?_ ?_ ?_ ?_ ?_ ?_ ?_ ?_ ?_ ?_ ?_ ?_ ?_ ?_ ?_ ?_ ?_ ?_ ?_ ?_ ?_ ?_ ?_ ?_ ?_ ?_ ?_ ?_ ?_ ?_ ?_ ?_ ?_ ?_ ?_ ?_ ?_ ?_ ?_ ?_ ?_ ?_ ?_ ?_ ?_ ?_ ?_ ?_ ?_ ?_ ?_ ?_ ?_ ?_ ?_ ?_ ?_ ?_ ?_ ?_ ?_ ?_ ?_ ?_ ?_ ?_ ?_ ?_ ?_ ?_ ?_ ?_ ?_ ?_ ?_ ?_ ?_ ?_ ?_ ?_ ?_ ?_ ?_ ?_ ?_ ?_ ?_ ?_ ?_ ?_ ?_ ?_ ?_ ?_ ?_ ?_ ?_ ?_ ?_ ?_ ?_ ?_ ?_ ?_ ?_ ?_
  all_goals (dsimp only [L2.lZ]; (first | refine' L2.EP.Df.mk ?a ?l ?c ?k | refine' L2.EP.T6.mk ?a ?l ?c ?k); (case a=>k_is);(case l=>k_is);(case c=>k_is);(case k=>k_is))
 case S => exact fun K H a ns hl hO hS => L2.EP.He K H a ns hl hS
 case C => exact fun _ _ _ _ z => z
