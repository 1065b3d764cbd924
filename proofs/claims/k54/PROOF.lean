import PyProof.Rows.All
import Wide.All
import OpenK.AllK
import Wide.FinOn
import PyProof.EqAt
import PyProof.EqKinds
import PyProof.TupleCall
import Lean
import PySem.Challenge.RW_shutways_k54_frames_sent
set_option Elab.async false
set_option bootstrap.genMatcherCode false
set_option compiler.extract_closed false
set_option genSizeOf false
def zzn(k:String)(a:Array Lean.Syntax):=Lean.Syntax.node .none (if k=="" then `null else if k.contains '.' then k.toName else if k.startsWith "term" then .str .anonymous k else .str `Lean.Parser.Tactic k) a
def zza(s:String):=Lean.Syntax.atom .none s
def zzs(l:List Lean.Syntax):=zzn "tacticSeq" #[zzn "tacticSeq1Indented" #[zzn "" (l.intersperse (zza ";")).toArray]]
def zzp(l:List Lean.Syntax):=zzn "paren" #[zza "(",zzs l,zza ")"]
def zzw(t:Lean.Syntax):=zzn "withReducible" #[zza "with_reducible",zzs [t]]
def zzv(s:String):=zzn "PyProof.Rows.tacticWalk_at_" #[zza "walk_at",Lean.Syntax.mkStrLit s]
def zzm(v:Array Lean.Syntax)(s:String):=((s.splitOn " ").foldl (λ(l:List Lean.Syntax) t=>
 let r:=String.ofList (t.toList.drop 1)
 let i:=(Lean.mkIdent r.toName).raw
 match t.front with
 |'\''=>zza r::l
 |'`'=>i::l
 |'$'=>v[r.toNat!]!::l
 |'#'=>zzv r::l
 |'_'=>zzw (zzn "refine" #[zza "refine",zzn "Lean.Parser.Term.app" #[i,zzn "" #[zzn "Lean.Parser.Term.syntheticHole" #[zza "?",zza "_"]]]])::l
 |'['=>zzn "simp" #[zza "simp",zzn "optConfig" #[zzn "" #[]],zzn "" #[],zzn "" #[zza "only"],zzn "" #[zza "[",zzn "" (((r.splitOn ",").map λx=>zzn "simpLemma" #[zzn "" #[],zzn "" #[],Lean.mkIdent x.toName]).intersperse (zza ",")).toArray,zza "]"],zzn "" #[]]::l
 |'|'=>[zzn "first" #[zza "first",zzn "" (l.reverse.toArray.map λx=>zzn "group" #[zza "|",zzs [x]])]]
 |';'=>[zzp l.reverse]
 |_=>match t.splitOn ":" with
  |[n,c]=>zzp (zzw (zzn "apply" #[zza "apply",Lean.mkIdent n.toName])::c.toList.map λx=>zzn "Lean.cdot" #[zzn "Lean.cdotTk" #[zza "·"],zzs [zzv x.toString]])::l
  |_=>match t.splitOn "/" with
   |[k,n]=>zzn k (l.take n.toNat!).reverse.toArray::l.drop n.toNat!
   |_=>l) []).head!
local macro_rules(kind:=Lean.Parser.Command.declaration)|x=>do
 let d:=x[1]
 let nc:="/0 /0 /0 /0 'noncomputable Lean.Parser.Command.noncomputable/1 /1 /0 /0 Lean.Parser.Command.declModifiers/7 "
 let f s:=return zzm #[x[0],d[1],d[2],d[3],d[2][0],d[2][1][0],d[3][0],d[4][1],d[5]] (s++" Lean.Parser.Command.declaration/2")
 if !x[0].getArgs.all (·.getNumArgs==0) then Lean.Macro.throwUnsupported
 if d[0].getAtomVal=="def"&&d[2][1].getNumArgs==1 then return<-f "$0 'theorem $1 $4 $5 Lean.Parser.Command.declSig/2 $3 Lean.Parser.Command.theorem/4"
 if d[0].getAtomVal=="abbrev" then return<-f s!"{nc}'def $1 $2 $3 /0 Lean.Parser.Command.definition/5"
 if d[1].getAtomVal=="instance"&&d[4][1][1].getId==`Fn then return<-f s!"{nc}'abbrev $6 /0 $7 /1 Lean.Parser.Command.optDeclSig/2 $8 Lean.Parser.Command.abbrev/4"
 Lean.Macro.throwUnsupported
local macro_rules(kind:=Lean.Parser.Tactic.simpAutoUnfold)|x=>return zzm #[x[4],x[5]] "'simp /0 optConfig/1 /0 'only /1 $0 $1 simp/6"
local macro_rules(kind:=PyProof.Rows.tacticWalk_at_)|x=>do
 let some s:=[("py1","_dw0 _dw _b_add _b_sub _g_int _g_bl _g_ref _g_tbl _c_lt _c_gt _c_le _c_eqI _c_neI _c_isN _c_notN _ag_add _ln_scr _ln_tup _in_bl _mn2 _mx2 _sl_scr _it_tup Sr:1 QF:3 Qw:5 b_mul:4 b_fdiv:2 b_mod:2 Q3:26 EO:007 Q0:2 fS:1 Z8:01 LG:01 Ym:02 Pm:01 Qp:01 Fg:1 hX:d LO:80 LS:90 Zj:02 ln_lst:0 tp_lst:0 ls_lst:0 sl_lst:0 it_lst:0 dc_of:0 |"),
("0","#a fO: upd_ne':n0 Ext.get:a0 ExtB.get:an0 |"),
("n","#a Ne.symm:a ne_none':a0 Ne.symm:m |"),
("m","ne_none':a0"),
("a","'assumption assumption/1"),
("1","'exact `rfl exact/2"),
("d","'decide /0 optConfig/1 decide/2"),
("l","'lia /0 optConfig/1 lia/2"),
("s","'simp /0 optConfig/1 /0 /0 /0 /0 simp/6"),
("2","#d #l #a #x |"),
("x","[aL,be,Ñ,ņ #d ;"),
("7","#x #l |"),
("y","[ϳ,ϲ,aq,ķ,List.foldl_nil,ϵ,Ϸ,bindL,Int.reduceToNat,Int.reducePow #z ;"),
("z","'done done/1 #1 |"),
("3","#y #1 |"),
("5","#y"),
("6","#y"),
("4","'exact '. `inl Lean.Parser.Term.dotIdent/2 '. `inr Lean.Parser.Term.dotIdent/2 'by #l /1 tacticSeq1Indented/1 tacticSeq/1 Lean.Parser.Term.byTactic/2 /1 Lean.Parser.Term.app/2 /1 Lean.Parser.Term.app/2 exact/2 'exact '. `inl Lean.Parser.Term.dotIdent/2 '. `inl Lean.Parser.Term.dotIdent/2 'by #l /1 tacticSeq1Indented/1 tacticSeq/1 Lean.Parser.Term.byTactic/2 /1 Lean.Parser.Term.app/2 /1 Lean.Parser.Term.app/2 exact/2 'exact '. `inr Lean.Parser.Term.dotIdent/2 '⟨ 'by #d /1 tacticSeq1Indented/1 tacticSeq/1 Lean.Parser.Term.byTactic/2 ', 'by #d /1 tacticSeq1Indented/1 tacticSeq/1 Lean.Parser.Term.byTactic/2 /3 '⟩ Lean.Parser.Term.anonymousCtor/3 /1 Lean.Parser.Term.app/2 exact/2 |"),
("8","Or.inl:1 Or.inr:h #s |"),
("h","Or.inl:1"),
("9","#1 #s |"),
("r","'repeat #py1 /1 tacticSeq1Indented/1 tacticSeq/1 tacticRepeat_/2"),
("w","'with_reducible 'conv /0 /0 '=> 'whnf Lean.Parser.Tactic.Conv.whnf/1 /1 Lean.Parser.Tactic.Conv.convSeq1Indented/1 Lean.Parser.Tactic.Conv.convSeq/1 Lean.Parser.Tactic.Conv.conv/5 /1 tacticSeq1Indented/1 tacticSeq/1 withReducible/2"),
("p","'repeat #q /1 tacticSeq1Indented/1 tacticSeq/1 tacticRepeat_/2 #w ;"),
("q","#py1 hZ:1 ie:1 |"),
("A","'intro `Â `s `σ `H `x `y `v `u `Q `I `rx `ry `h /13 intro/2"),
("B","'intro `Â `s `σ `H `Q `I `h /7 intro/2"),
("C","'intro `X `hP `hw `hK `hc `i `Â `s `σ `H `E `I `hf `st `hg /15 intro/2"),
("D","'intro `Â `s `σ `H `xs `us `Q `I `r `h /10 intro/2"),
("E","'intro `v `u `G `H `x `y `c `Q `g `rx `ry `e `q /13 intro/2")].lookup (x[1].isStrLit?.getD "")|Lean.Macro.throwUnsupported
 return zzm #[] s
set_option linter.all false
set_option maxRecDepth 100000
open PySem.Str renaming ofString->iO
open PySem.W (Frag)
open Decidable renaming decide->iN
open Option renaming some->fJ, none->fK
open Bool renaming true->fL, false->fM
open Array renaming length_toList->ö, getElem?_eq_getElem->ÿ, getElem?_toList->Ą, getElem?_eq_some_iff->Ŀ, getElem?_eq_none->ϐ, getD->Ϯ, toList_inj->aD, toList->cg, size_append->eW, toList_push->eZ
open Bool renaming false_ne_true->ă, false_eq_true->ĕ, or_false->Ω, and_true->ϋ, not_not->ax, not_eq_true'->aB, false_xor->bD, and_self->bW, true_xor->bY, and_eq_true_iff->dI
open Char renaming toNat->Ş
open False renaming elim->Ŋ
open ForInStep renaming yield->Ł
open Function renaming comp_apply->cu
open Int renaming toNat_natCast->ç, emod_lt_of_pos->ų, emod_nonneg->Ζ, mul_nonneg->ϥ, le_refl->Ϧ, le_ediv_iff_mul_le->cQ, ediv_lt_iff_lt_mul->cU, mul_one->dU, add_mul->ee, one_mul->eh, le_of_lt_add_one->ej, natCast_nonneg->fI
open List renaming length_map->Á, mem_cons->Å, mem_append_right->Ç, getElem?_eq_getElem->É, mem_append_left->Ê, mem_append->Ë, size_toArray->Î, length_cons->Ñ, map_cons->Ò, mem_singleton->Ó, getElem?_eq_some_iff->Ô, not_mem_nil->Õ, map_append->Ö, getElem?_map->Ø, mem_map->Ü, mem_cons_of_mem->Ý, replicate->ß, length_append->á, nodup_append->ã, mem_of_getElem?->é, append_nil->ì, filterMap_cons->ï, mem_cons_self->ð, mem_map_of_mem->ñ, map_map->õ, lookup_cons->ø, take_length->ù, length_replicate->ú, append_assoc->ü, all_eq_true->ý, getElem_mem->þ, nodup_cons->ā, length_take->ą, contains_iff_mem->ĉ, nodup_nil->Ċ, getElem?_append_left->Ď, mem_filter->Đ, filter_cons->đ, replicate_succ->Ē, getElem?_append_right->Ĕ, getD_eq_getElem?_getD->Ė, length_filter_le->ě, find?_cons->Ğ, any_cons->Ħ, map_inj_left->Ĩ, map_congr_left->ĩ, length_range->ĵ, foldl_cons->ķ, drop_eq_nil_of_le->Ĺ, mem_flatMap->Ľ, getElem?_eq_none->ł, length_nil->ņ, map_nil->ň, flatten_cons->ŉ, getElem?_replicate->ő, length_mergeSort->Ŗ, take_add_one->ŝ, mapM_cons->ş, map_id->Š, drop_eq_getElem_cons->ť, mergeSort_perm->Ŧ, filter_sublist->ŧ, length_filterMap_le->Ū, filter_nil->Ů, mem_filterMap->ů, filter_append->Ű, length_eq_zero_iff->ű, mem_range->Ź, take_of_length_le->ż, pairwise_lt_range->ž, flatMap_cons->ſ, length_singleton->ν, length_drop->ξ, all_cons->ψ, getElem?_set_ne->Α, lookup->Β, flatMap_append->Ε, forall_mem_nil->Η, length_eraseIdx_of_lt->Ι, getElem?_set_self->ϒ, length_set->ϗ, drop_zero->ϝ, pairwise_append->Ϟ, take_zero->ϟ, length_take_le'->Ϡ, take_succ_cons->ϫ, filterMap_map->ϱ, zip_nil_right->ϲ, zip_cons_cons->ϳ, set_cons_succ->ϵ, set_cons_zero->Ϸ, zip_nil_left->aq, pairwise_map->az, length_filter_eq_length_iff->aC, getElem_inj->aH, any_eq_true->aK, cons_append->aL, eq_nil_of_length_eq_zero->aR, of_mem_zip->bd, nil_append->be, nodup_iff_pairwise_ne->bE, perm_ext_iff_of_nodup->bF, length_erase_of_mem->b6, pairwise_mergeSort->cj, length_eraseIdx_le->cx, filterMap_eq_map'->cI, all_nil->cJ, mem_iff_getElem?->cT, set_append_left->dF, filter_eq_self->d0, length_pos_iff->d9, getElem_of_mem->eC, foldl->eU, pairwise_cons->eY, getElem_range->fc, append_of_mem->fe
open List.Sublist renaming refl->Ũ
open List.cons renaming injEq->dD
open Nat renaming le_refl->Ì, lt_of_le_of_lt->Ð, le_trans->Ù, ne_of_lt->ä, lt_of_lt_of_le->å, zero_le->ė, lt_irrefl->ħ, lt_succ_self->İ, lt_succ_of_lt->ĸ, le_succ->ŋ, ne_of_gt->Ŕ, lt_trans->Ť, le_of_lt->ζ, zero_add->η, succ_le_succ->ς, add_le_add_right->Ϩ, add_le_add_left->ϯ, min_le_right->aP, min_eq_left->bA, mul_comm->cP, mul_le_mul_left->eX
open Option renaming map_eq_some_iff->Ï, bind_eq_some_iff->è, bind_some->ê, isSome_iff_exists->ô, map_some->œ, getD_some->ϊ, isSome_map->ϴ, not_isSome_iff_eq_none->aE, isNone_iff_eq_none->bp, isNone_none->dC, toList_none->dG, getD_none->eR
open Option.some renaming inj->ë, injEq->į
open Prod.mk renaming injEq->Τ
open PyProof.Rows renaming IntsAre->č, step_dedup->Ŝ, firstMet->υ, kindOf->Μ, seqObj->ό, AllBare->ϑ, IsTup->ϸ, subscriptTail->aJ, envOfC->aO, firstMet_length_le->aS, Constant_none->dR, subscriptTail_builtinR->fu
open PySem renaming wpAny_bind->À, Value->Ã, Shared->Æ, wpAny_pure->È, Addr->Í, starEach->Þ, sizeLine->à, model->â, Program->æ, compareOp->î, World->û, wpAny_holding->Ă, Heap->Ĉ, Around->ċ, mainGlobals->Č, wpAny_newObj_type->ď, wpAny_truthy_bool->ē, codeAny_builtin->Ę, wpAny_call_entry->ę, foldedSetIterable->Ĝ, sliceBounds->ĝ, backTo->ğ, attributeBase->Ġ, assignEach->Ģ, rawInt->ģ, wpAny_callSpecial?_slot->ĥ, cLine->Ī, wpAny_seqItems->ī, wpAny_field->Į, wpAny_mono->Ĳ, wpAny_Call_Name_kw->ĳ, holding->Ĵ, plainId_quiet->Ķ, argBest->ĺ, wpAny_loadPart'->ļ, Stmt->ľ, behindInMarks->Ń, keywordEach->ń, wpAny_setField->Ň, wpAny_ite_split->ō, binaryOp->Ŏ, FuncData->ŏ, sysModules->ŗ, intKind->Ř, bootBuiltins->ř, wpAny_typeOf->Ś, tupleKind_room_in1->ś, wpAny_pyIter_list->Ţ, wpAny_setState_of->ţ, wpAny_askSetting->Ŭ, wpAny_setEntries_of->Ų, swapsWithSole->ŵ, backToKw->Ŷ, SetTable->ŷ, wpAny_updateSeq->Ž, swapsWith->μ, assign->ο, codeAny_mono->π, call_meetsIn->χ, wpAny_tryCatch->ω, Scope->Γ, wpAny_rule->Δ, pyNext->Κ, wpAny_passesOwn->Λ, IsPart->Ν, standAt->Ψ, setItem->ϓ, swappedStores->ϖ, tupleKind->ϙ, Operator->Ϛ, getMethod->ϛ, NameKind->Ϝ, getItem->ϡ, Keyword->Ϣ, valueAt->ϣ, sliceRange->Ϥ, setsByText->ϧ, letOwnedTupleGo->Ϫ, builtinLookup_eq_fast->ϭ, sizeLine_eq->Ϲ, PyData->Ϻ, firstArgMember->aa, wpAny_of_eq->ab, wpAny_letGo->ah, wpAny_fieldsOf->ai, unsupported->aj, PassesOwn->ao, callerA->ap, seqItems?->au, scanBound->aA, wpAny_standAt->aI, Result->aN, call_meets->aQ, wpAny_sequenceKey->bh, seqIndex_neg->bj, slot_list_getitem->bo, fits_of_scanBound->bu, lastMarks->bJ, noFill_tuple_add->bK, noteFrame->bL, wpAny_isInstance->bM, updateSeq->bN, CmpOp->bT, seqIndex_of->bV, wpAny_specialOf->cq, typeLookup_type->cr, release->cA, relabel->cE, GenState->cL, isTrue->cM, pyIter->cN, callWith->cO, atKey->cR, argsOk->cS, isSubtype_type->cV, wpAny_listPart->cX, methodCallForm->cY, seq_tuple_add->dW, evalPart_none->dX, wpAny_getItem_list_slice->dY, wpAny_comprehension_free->dZ, wpAny_newList->d8, bindC->eQ, slicePick->eS, drawOrder->fb, concat_meets->fq, wpAny_getItem_list_neg->fv, richCompare_meets_room->fx, stored->fy
open PySem.Around renaming under_plainId->Ć, under->bU
open PySem.Builtin.Frozenset renaming sizeOf->cW
open PySem.Builtin.Str renaming strSliceIndices->Ρ
open PySem.Code renaming isFrame->cD
open PySem.FuncData.mk renaming injEq->bZ
open PySem.Heap renaming get?_push_of_some->Ä, get?_push_size->Ú, lt_size->Û, get?_update_other->ò, get?_update_self->Ě, SameBut->ź, size_push->Ż, LeftW->eV
open PySem.Heap.SameBut renaming update->ć
open PySem.NameKind renaming free->Ĭ, cell->fw
open PySem.Obj renaming mapSeq->ρ, data_mapFields->Ξ, mapFields->ύ, isFreed_of_fields->dA, putSet->fA
open PySem.PyData renaming eqv->ĭ, depthAll->Ņ, canLayAll0->ŕ, canLay0->Ŵ, eqvAll->Χ
open PySem.SetTable renaming below->Ļ, grown->ϕ, has->bG, orStandIn->cH, slot->fz
open PySem.SetTable.below renaming go->bq
open PySem.SetTable.probe renaming go->ϔ
open PySem.Value.type renaming inj->dB
open PySem.W renaming boot_heap->ŭ, Frag->Ο, findIn->ae, boot_drawn->aT, SharedT->bz, boot_toks->bO, mg_of->cZ, nsIn->fG, kitOne->fH
open PySem.pickOrder renaming go->bw
open String renaming ofList->Υ, singleton->av, length_toList->cF, toList_ofList->cG
open UInt32.toNat renaming inj->bX
def bAq(a b:Bool):((a&&b)=fL)=(a=fL/\b=fL):=Bool.and_eq_true a b
abbrev iH:=@if_pos
abbrev iI:=@if_neg
abbrev iJ:=@decide_eq_false
abbrev iK:=@decide_eq_true
abbrev iL:=@decide_eq_true_eq
@[reducible] noncomputable def iM:=@absurd
local macro_rules|`(tactic|let $p:term:=$e)=>do
 let k:=`Lean.Parser.Tactic
 let n(c:Lean.Name)(a:Array Lean.Syntax):Lean.Syntax:=.node .none (k++c) a
 let m(s:Lean.Syntax):=if s.isIdent then n `rcasesPat.one #[s]else if s.isOfKind ``Lean.Parser.Term.hole then n `rcasesPat.ignore #[s[0]]else if s.isOfKind ``Lean.Parser.Term.anonymousCtor then n `rcasesPat.tuple #[s[0],Lean.mkNullNode (s[1].getArgs.map λx=>if x.isAtom then x else n `rcasesPatLo #[n `rcasesPatMed #[Lean.mkNullNode #[x]],Lean.mkNullNode]),s[2]]else s
 `(tactic|obtain $(⟨n `rcasesPatMed #[Lean.mkNullNode #[p.raw.rewriteBottomUp m]]⟩):rcasesPatMed:=$e)
local macro_rules(kind:=coeFunNotation)|x=>return zzm #[x[1]] "'by 'simpa /0 /0 /0 optConfig/1 /0 /0 /0 'using $0 /2 simpaArgsRest/5 simpa/4 /1 tacticSeq1Indented/1 tacticSeq/1 Lean.Parser.Term.byTactic/2"
local macro_rules(kind:=coeSortNotation)|x=>if !x[1].isOfKind `num then Lean.Macro.throwUnsupported else return zzm #[] (["'by #l","'by #d","`â `X.prog `X.w /2 Lean.Parser.Term.app/2"].getD x[1].toNat ""++(if x[1].toNat<2 then " /1 tacticSeq1Indented/1 tacticSeq/1 Lean.Parser.Term.byTactic/2" else ""))
namespace L2
open PySem PySem.Spec PyProof.Rows
noncomputable abbrev Key:=Sum Int Str
abbrev Kq:Key->Ã->Bool
 |.inl k,v=>Value.isInt k v
 |.inr x,v=>Value.isStrOf x v
abbrev Tc(w:û):Key->Int
 |.inl k=>hashInt k
 |.inr x=>hashStr w x
def Zs:∀{k:Key}{v:Ã},Kq k v=fL->(∃i t,k=Sum.inl i/\v=Value.int i t)\/(∃x t,k=Sum.inr x/\v=Value.str x t)
 |.inl i,v,h=>by let⟨t,e⟩:=Value.isInt_shape (k:=i) (v:=v) h;exact .inl ⟨i,t,rfl,e⟩
 |.inr x,v,h=>by let⟨t,e⟩:=Value.isStrOf_shape (x:=x) (v:=v) h;exact .inr ⟨x,t,rfl,e⟩
def Bz(i:Int)(t:Tok):Kq (.inl i) (.int i t)=fL:=by simp[Kq,Value.isInt]
def B8(x:Str)(t:Tok):Kq (.inr x) (.str x t)=fL:=by simp[Kq,Value.isStrOf]
def P5(a b:Int):iN ((Sum.inl a:Key)=Sum.inl b)=(a==b):=by
 by_cases e:a=b
 .subst e;simp
 .have h:¬ (Sum.inl a:Key)=Sum.inl b:=λq=>e<|Sum.inl.inj q;rw[iJ h];exact(beq_eq_false_iff_ne.mpr e).symm
def PH(a b:Str):iN ((Sum.inr a:Key)=Sum.inr b)=iN (a=b):=by
 by_cases e:a=b
 .subst e;simp
 .have h:¬ (Sum.inr a:Key)=Sum.inr b:=λq=>e<|Sum.inr.inj q;rw[iJ h,iJ e]
def QG(a:Int)(b:Str):iN ((Sum.inl a:Key)=Sum.inr b)=fM:=iJ (λq=>nomatch q)
def Qs(a:Str)(b:Int):iN ((Sum.inr a:Key)=Sum.inl b)=fM:=iJ (λq=>nomatch q)
abbrev Zf(prog:æ)(w:û):PySem.KeyKind prog w Key where
 is:=Kq
 hash:=Tc w
 inj:=λv a b ha hb=>by
  rcases Zs ha with⟨i,t,rfl,rfl⟩|⟨x,t,rfl,rfl⟩
  .rcases Zs hb with⟨j,u,rfl,e⟩|⟨y,u,rfl,e⟩
   .injection e with e1 _;rw[e1]
   .exact nomatch e
  .rcases Zs hb with⟨j,u,rfl,e⟩|⟨y,u,rfl,e⟩
   .exact nomatch e
   .injection e with e1 _;rw[e1]
 byValue:=λk v h=>by rcases Zs h with⟨i,t,rfl,rfl⟩|⟨x,t,rfl,rfl⟩<;>rfl
 pyHash:=λo h=>by
  rcases Zs o with⟨i,t,rfl,rfl⟩|⟨x,t,rfl,rfl⟩
  .exact wpAny_pyHash_int h
  .exact wpAny_pyHash_str h
 eqBool:=λI o h=>by
  rcases Zs I with⟨i,t,rfl,rfl⟩|⟨x,t,rfl,rfl⟩
  .rcases Zs o with⟨j,u,rfl,rfl⟩|⟨y,u,rfl,rfl⟩
   .rw[P5]at h;exact wpAny_eqBool_int h
   .rw[QG]at h;exact SeqAt.EqAt.int_str i t y u _ _ _ _ h
  .rcases Zs o with⟨j,u,rfl,rfl⟩|⟨y,u,rfl,rfl⟩
   .rw[Qs]at h;exact SeqAt.EqAt.str_int x t j u _ _ _ _ h
   .rw[PH]at h;exact wpAny_eqBool_str h
 «strs»:=λk x t v h=>by
  rcases Zs h with⟨i,u,rfl,e⟩|⟨y,u,rfl,e⟩
  .exact nomatch e
  .injection e with e1 _;subst e1;cases v<;>rfl
def OK(prog:æ)(w:û)(i:Int)(t:Tok):(Zf prog w).is (.inl i) (.int i t)=fL:=Bz i t
def OQ(prog:æ)(w:û)(x:Str)(t:Tok):(Zf prog w).is (.inr x) (.str x t)=fL:=B8 x t
inductive V where
 |non|bl (b:Bool)|int (i:Int)|str (x:Str)|byt (b:Array UInt8)|flt (b:UInt64)|ref (a:Í)|ty (n:String)
 deriving DecidableEq
abbrev RelV:V->Ã->Prop
 |.non,u=>u=Value.none
 |.bl b,u=>u=Value.bool b
 |.int i,u=>∃t,u=Value.int i t
 |.str x,u=>∃t,u=Value.str x t
 |.byt b,u=>∃t,u=Value.bytes b t
 |.flt b,u=>∃t,u=Value.float b t
 |.ref a,u=>u=Value.ref a
 |.ty n,u=>u=Value.type n
@[reducible] noncomputable def iu:List V->List Ã->Prop:=Paired RelV
def iu.length(r:iu xs us):xs.length=us.length:=Paired.length r
def iu.get:∀{xs:List V}{us:List Ã}{i:Nat}{x:V},iu xs us->xs[i]?=fJ x->∃u,us[i]?=fJ u/\RelV x u
 |_,_,_,_,.nil,e=>by simp at e
 |_,_,0,_,.cons r _,e=>by simp at e;subst e;exact⟨_,rfl,r⟩
 |_,_,i+1,x,.cons _ t,e=>by let⟨u,I,o⟩:=iu.get (i:=i) (x:=x) t ⇑e;exact⟨u,⇑I,o⟩
def iu.set(r:RelV x u):∀{xs:List V}{us:List Ã}(i:Nat),iu xs us->iu (xs.set i x) (us.set i u)
 |_,_,_,.nil=>.nil
 |_,_,0,.cons _ t=>.cons r t
 |_,_,i+1,.cons q t=>.cons q<|iu.set r i t
def iu.append:∀{xs ys:List V}{us ws:List Ã},iu xs us->iu ys ws->iu (xs++ys) (us++ws)
 |_,_,_,_,.nil,s=>s
 |_,_,_,_,.cons r t,s=>.cons r<|iu.append t s
def iu.take:∀{xs:List V}{us:List Ã}(n:Nat),iu xs us->iu (xs.take n) (us.take n)
 |_,_,0,_=>.nil
 |_,_,_+1,.nil=>.nil
 |_,_,n+1,.cons r t=>.cons r<|iu.take n t
def iu.drop:∀{xs:List V}{us:List Ã}(n:Nat),iu xs us->iu (xs.drop n) (us.drop n)
 |_,_,0,r=>r
 |_,_,_+1,.nil=>.nil
 |_,_,n+1,.cons _ t=>iu.drop n t
abbrev gK:Option V->Option Ã->Prop
 |some v,fJ u=>RelV v u
 |none,fK=>True
 |_,_=>False
abbrev KV{o:Type}:List (o×V)->List (o×Ã)->Prop:=Paired λ(p:o×V) (q:o×Ã)=>p.1=q.1/\RelV p.2 q.2
abbrev kV:Key->V
 |.inl i=>.int i
 |.inr x=>.str x
inductive HO where
 |lst (xs:List V)
 |tup (xs:List V)
 |dK (kvs:List<|Key×V)|dT (kvs:List<|List Key×V)
 |set (S:Int->Bool) (n:Nat)
 |ins (C dx:Í) (fs:List<|Str×V)
 |own (x:Í)
 |xd (fs:List<|Str×V)
 |met (f x:Í)
 |rng (lo hi:Int)
 |frz (o:Obj) (u:HO)
 |tbl (ps:Array Ã)
 |ext (φ:Ĉ->Prop)
noncomputable abbrev Hp:=Í->Option HO
abbrev upd(H:Hp)(a:Í)(o:HO):Hp:=λb=>if b=a then fJ o else H b
variable {H:Hp}{a:Í}{o:HO}
def fO:upd H a o a=fJ o:=by unfold upd;rw[iH rfl]
variable {b:Í}
def fN(h:b≠a):upd H a o b=H b:=by unfold upd;rw[iI h]
variable {u:HO}
def fP:upd (upd H a o) a u=upd H a u:=by funext b;unfold upd;split<;>rfl
def RP(h:H a=fJ o)(h':H b=fJ u)(d:o≠u):a≠b:=by intro e;subst e;rw[h]at h';exact d (ë h')
def Zm(h:H a=fJ o)(h':H b=fK):a≠b:=by intro e;subst e;rw[h]at h';cases h'
section
variable (P:æ)(w:û)
abbrev fV(H:Hp)(h:Ĉ)(a:Í):HO->Prop
 |.lst xs=>xs.length<=à/\∃(J:List Ã) (n:Nat),iu xs J/\h.get? a=fJ {cls:=.type "list",data:=.seq J.toArray n}
 |.tup xs=>xs.length<=à/\∃J:List Ã,iu xs J/\ϸ h a J.toArray
 |.dK kvs=>kvs.length<=à/\(a==ŗ)=fM/\∃R,KV kvs R/\h.DictOf (Zf P w) a R
 |.dT kvs=>kvs.length<=à/\(a==ŗ)=fM/\∃xs:List<|List Key×Í×Ã,
   Paired (λ(p:List Key×V) (q:List Key×Í×Ã)=>p.1=q.1/\H q.2.1=fJ (.tup<|p.1.map kV)/\RelV p.2 q.2.2) kvs xs/\
   ∃o es d,h.get? a=fJ o/\o.ExactDict/\o.data=.dict es d/\es.toList=xs.map (entryOfKey<|ϙ<|Zf P w)/\(xs.map (·.1)).Nodup
 |.set S n=>h.SetOf (Ř P w) a S n
 |.ins C dx fs=>H dx=fJ (.own a)/\fs.length<=1000/\dx≠a/\h.get? a=fJ (PySem.W.instObj C dx)/\
   ∃I,h.Ns1 dx I/\(∀f,gK (fs.lookup f)<|I f)/\PySem.Within I (fs.map (·.1))
 |.own _=>∃o,h.get? a=fJ o
 |.xd fs=>∃I,h.Ns1 a I/\∀f,gK (fs.lookup f) (I f)
 |.rng lo hi=>∃t u v,h.get? a=fJ {cls:=.type "range",data:=.fields #[.int lo t,.int hi u,.int 1 v]}
 |.frz o u=>h.get? a=fJ o/\fV H h a u
 |.tbl ps=>h.get? a=fJ {cls:=.none,data:=.fields ps}
 |.met f x=>h.get? a=fJ (PySem.W.methodObj (.ref f)<|.ref x)
 |.ext φ=>φ h/\(∃o,h.get? a=fJ o)/\∀c U:Ĉ,φ c->(∀o,c.get? a=fJ o->U.get? a=fJ o)->φ U
abbrev HOk(H:Hp)(h:Ĉ):Prop:=∀a o,H a=fJ o->fV P w H h a o
end
section
variable {w:û}{a:Í}{o:HO}
def fV.lt(x:fV P w H h a o):a<h.objs.size:=by
 cases o with
 |lst xs=>let⟨_,_,_,_,e⟩:=x;exact Û e
 |tup xs=>let⟨_,_,_,p⟩:=x;exact p.lt
 |dK kvs=>let⟨_,_,_,_,o,_,_,e,_⟩:=x;exact Û e
 |dT kvs=>let⟨_,_,_,_,o,_,_,e,_⟩:=x;exact Û e
 |set S n=>let⟨o,_,_,_,e,_⟩:=x;exact Û e
 |ins C dx fs=>let⟨_,_,_,e,_⟩:=x;exact Û e
 |own y=>let⟨_,e⟩:=x;exact Û e
 |xd fs=>let⟨_,⟨_,_,_,e,_⟩,_⟩:=x;exact Û e
 |rng lo hi=>let⟨_,_,_,e⟩:=x;exact Û e
 |frz ob u=>let⟨e,_⟩:=x;exact Û e
 |tbl ps=>exact Û (show h.get? a=fJ _ from x)
 |met f y=>exact Û (show h.get? a=fJ _ from x)
 |ext φ=>let⟨_,⟨_,e⟩,_⟩:=x;exact Û e
def Paired.mapP:∀{J:List α}{I:List β},Paired F J I->(∀a b,F a b->G a b)->Paired G J I
 |_,_,.nil,_=>.nil
 |_,_,.cons r t,f=>.cons (f _ _ r)<|Paired.mapP t f
def fV.stay(x:fV P w H h a o)(k:∀b u,(b=a\/H b=fJ (.own a))->h.get? b=fJ u->h'.get? b=fJ u)(j:∀b,H b=fJ (.own a)->H' b=fJ (.own a))(ht:∀b xs,H b=fJ (.tup xs)->H' b=fJ (.tup xs)):fV P w H' h' a o:=by
 induction o with
 |lst xs=>let⟨z,R,n,r,e⟩:=x;exact⟨z,R,n,r,k _ _ (.inl rfl) e⟩
 |tup xs=>let⟨z,R,r,I,e,c⟩:=x;exact⟨z,R,r,I,k _ _ (.inl rfl) e,c⟩
 |dK kvs=>let⟨z,y,i,r,I,es,J,e,c⟩:=x;exact⟨z,y,i,r,I,es,J,k _ _ (.inl rfl) e,c⟩
 |dT kvs =>let⟨z,y,xs,r,I,es,J,e,c⟩:=x;exact⟨z,y,xs,Paired.mapP r λp q z=>⟨z.1,ht _ _ z.2.1,z.2.2⟩,I,es,J,k _ _ (.inl rfl) e,c⟩
 |set S n=>let⟨I,es,J,t,e,c⟩:=x;exact⟨I,es,J,t,k _ _ (.inl rfl) e,c⟩
 |ins C dx fs =>let⟨d,z,ne,e,g,⟨U,es,J,l,c⟩,r⟩:=x;exact⟨j _ d,z,ne,k _ _ (.inl rfl) e,g,⟨U,es,J,k _ _ (.inr d) l,c⟩,r⟩
 |own y=>let⟨I,e⟩:=x;exact⟨I,k _ _ (.inl rfl) e⟩
 |xd fs=>let⟨g,⟨U,es,J,e,c⟩,r⟩:=x;exact⟨g,⟨U,es,J,k _ _ (.inl rfl) e,c⟩,r⟩
 |rng lo hi=>let⟨t,u,v,e⟩:=x;exact⟨t,u,v,k _ _ (.inl rfl) e⟩
 |frz I u ih=>let⟨e,q⟩:=x;exact⟨k _ _ (.inl rfl) e,ih q⟩
 |tbl ps =>have e:h.get? a=fJ {cls:=.none,data:=.fields ps}:=x;show h'.get? a=fJ {cls:=.none,data:=.fields ps};exact k a _ (.inl rfl) e
 |met f y =>have e:h.get? a=fJ (PySem.W.methodObj (.ref f)<|.ref y):=x;show h'.get? a=fJ (PySem.W.methodObj (.ref f)<|.ref y);exact k a _ (.inl rfl) e
 |ext φ=>let⟨p,⟨o,e⟩,st⟩:=x;exact⟨st _ _ p λo q=>k _ _ (.inl rfl) q,⟨o,k _ _ (.inl rfl) e⟩,st⟩
def HOk.lt(x:HOk P w H h)(e:H a=fJ o):a<h.objs.size:=(x a o e).lt
def HOk.fresh(x:HOk P w H h)(e:h.objs.size<=a):H a=fK:=by
 cases q:H a with
 |none=>rfl
 |some u=>exact iM (å (x.lt q) e)<|ħ _
def HOk.kept(x:HOk P w H h)(k:∀b u,h.get? b=fJ u->h'.get? b=fJ u):HOk P w H h':=λa o e =>
 (x a o e).stay (λb u _ q=>k b u q) (λ_ q=>q) λ_ _ q=>q
def HOk.laid(x:HOk P w H h)(k:∀b u,h.get? b=fJ u->h'.get? b=fJ u)(hp:h.objs.size<=a)(new:fV P w (upd H a o) h' a o):HOk P w (upd H a o) h':=λb u e=>by
 have hn:=x.fresh hp;by_cases hb:b=a
 .subst hb;rw[fO]at e;cases e;exact new
 .rw[fN hb]at e;exact(x b u e).stay (λc v _ q=>k c v q) (λc q=>by rw[fN<|Zm q hn];exact q) λc xs q=>by rw[fN<|Zm q hn];exact q
end
abbrev Rd(H:Hp)(a:Í)(u:HO):Prop:=H a=fJ u\/∃o,H a=fJ (.frz o u)
variable {h:Ĉ}
def Rd.ok(r:Rd H a u)(x:HOk P w H h):fV P w H h a u:=by
 rcases r with r|⟨o,r⟩
 .exact x a u r
 .obtain⟨_,q⟩:=x a _ r;exact q
abbrev Mut:Option HO->Prop
 |some (.lst _)=>True
 |some (.dK _)=>True
 |some (.dT _)=>True
 |some (.set _ _)=>True
 |some (.ins _ _ _)=>True
 |some (.ext _)=>True
 |_=>False
section
variable {w:û}{H:Hp}{h h':Ĉ}{x e:Í}
def HOk.write(ok:HOk P w H h)(U:Mut<|H x)(he:e=x\/H e=fJ (.own x))(k:∀b u,b≠e->h.get? b=fJ u->h'.get? b=fJ u)(f:∃u,h'.get? e=fJ u)(new:fV P w (upd H x o') h' x o'):HOk P w (upd H x o') h':=λb u q=>by
 have J:∀c y,H c=fJ (.own y)->c≠x:=λc y r z=>by subst z;rw[r]at U;exact U
 have R:∀c xs,H c=fJ (.tup xs)->c≠x:=λc xs r z=>by subst z;rw[r]at U;exact U
 by_cases hb:b=x
 .subst hb;rw[fO]at q;cases q;exact new
 .rw[fN hb]at q;by_cases I:b=e
  .have g:H b=fJ (.own x):=by
    rcases he with z|z
    .exact iM (I.trans z) hb
    .rw[I];exact z
   rw[q]at g;cases g;let⟨v,i⟩:=f;exact⟨v,by rw[I];exact i⟩
  .refine(ok b u q).stay (λc v d r=>k c v ?_ r) (λc r=>by rw[fN<|J c b r];exact r) λc xs r=>by rw[fN<|R c xs r];exact r
   rcases d with rfl|d
   .exact I
   .rintro rfl;rcases he with z|z
    .exact J c b d z
    .rw[d]at z;cases z;exact hb rfl
end
structure Un(fs ex:List Í)(H H':Hp)(h h':Ĉ):Prop where
 keep:∀b o,h.get? b=fJ o->H b=fK->b∉fs->b∉ex->h'.get? b=fJ o
 slot:∀b o,h.get? b=fJ o->H b=fK->b∈fs->b∉ex->∃sl,h'.get? b=fJ {o with slots:=sl}
 free:∀b o,h.get? b=fJ o->H b=fK->b∉ex->H' b=fK
 there:∀b o,h.get? b=fJ o->b∉ex->∃o',h'.get? b=fJ o'
 tups:∀b xs,H b=fJ (.tup xs)->H' b=fJ (.tup xs)
 frzs:∀b o u,H b=fJ (.frz o u)->H' b=fJ (.frz o u)
 tbls:∀b ps,H b=fJ (.tbl ps)->∃more,H' b=fJ (.tbl<|ps++more)
section
variable {fs ex:List Í}{H:Hp}{h h1 h':Ĉ}{a x e:Í}{o:HO}
def Un.any(u:Un fs ex H H1 h h1)(q:h.get? b=fJ I)(n:H b=fK)(J:b∉ex):∃R,h1.get? b=fJ {I with slots:=R}:=by
 by_cases hb:b∈fs
 .exact u.slot b I q n hb J
 .exact⟨I.slots,u.keep b I q n hb J⟩
def Un.kept(k:∀b u,h.get? b=fJ u->h'.get? b=fJ u):Un fs ex H H h h' :=
 ⟨λb I q _ _ _=>k b I q,λb I q _ _ _=>⟨I.slots,k b I q⟩,λ_ _ _ n _=>n,λb I q _=>⟨I,k b I q⟩,λ_ _ q=>q,λ_ _ _ q=>q,λ_ ps q=>⟨#[],by rw[q];simp⟩⟩
def Un.refl:Un fs ex H H h h:=Un.kept λ_ _ q=>q
def Un.laid(k:∀b u,h.get? b=fJ u->h'.get? b=fJ u)(hp:h.objs.size<=a)(hn:H a=fK):Un fs ex H (upd H a o) h h' where
 keep:=λb u q _ _ _=>k b u q
 slot:=λb u q _ _ _=>⟨u.slots,k b u q⟩
 free:=λb u q n _=>by rw[fN<|ä<|å (Û q) hp];exact n
 there:=λb u q _=>⟨u,k b u q⟩
 tups:=λb xs q=>by rw[fN<|Zm q hn];exact q
 frzs:=λb u xs q=>by rw[fN<|Zm q hn];exact q
 tbls:=λb ps q=>⟨#[],by rw[fN<|Zm q hn,q];simp⟩
def Un.write(J:Mut<|H x)(he:e=x\/H e=fJ (.own x))(k:∀b u,b≠e->h.get? b=fJ u->h'.get? b=fJ u)(R:∃u,h'.get? e=fJ u):Un fs ex H (upd H x o) h h':=by
 have U:∀b,H b=fK->b≠x:=λb n z=>by subst z;rw[n]at J;exact J
 have hb:∀b,H b=fK->b≠e:=λb n z=>by
  subst z;rcases he with r|r
  .exact U b n r
  .rw[n]at r;cases r
 have hm:∀b u,H b=fJ u->¬ Mut (fJ u)->b≠x:=λb u q nm z=>by subst z;rw[q]at J;exact nm J
 refine⟨λb u q n _ _=>k b u (hb b n) q,λb u q n _ _=>⟨u.slots,k b u (hb b n) q⟩,λb u q n _=>by rw[fN<|U b n];exact n,λb u q _=>?_,
   λb xs q=>by rw[fN<|hm b _ q λz=>z];exact q,λb u xs q=>by rw[fN<|hm b _ q λz=>z];exact q,λb ps q=>⟨#[],by rw[fN<|hm b _ q λz=>z,q];simp⟩⟩
 by_cases I:b=e
 .subst I;exact R
 .exact⟨u,k b u I q⟩
end
abbrev trk(h:Ĉ)(H:Hp):List Í:=(List.range h.objs.size).filter λa=>(H a).isSome
abbrev M2(h:Ĉ)(H:Hp):Ĉ:=PySem.W.hideAll h<|trk h H
def Bu(h:Ĉ)(H:Hp):(M2 h H).objs.size=h.objs.size:=PySem.W.hideAll_size _ _
def Eg{o:Obj}(e:h.get? b=fJ o)(n:H b=fK):(M2 h H).get? b=fJ o :=
 PySem.W.hideAll_get _ e λhm=>by have q:(H b).isSome=fL:=(Đ.mp hm).2;rw[n]at q;simp at q
def Gj{o:Obj}(e:(M2 h H).get? b=fJ o):h.get? b=fJ o/\H b=fK:=by
 have I:h.get? b=fJ o:=PySem.W.of_hideAll (trk h H) e;refine⟨I,?_⟩;cases q:H b with
 |none=>rfl
 |some x =>have hm:b∈trk h H:=Đ.mpr ⟨Ź.mpr<|Û I,by simp[q]⟩;have z:(M2 h H).get? b=fK:=PySem.W.hideAll_none (trk h H) hm;rw[z]at e;cases e
abbrev Gp(g h:Ĉ)(L:Í):List<|Í×Obj:=(List.range h.objs.size).filterMap λa=>if a=L\/(g.get? a).isSome=fL then fK else(h.get? a).map λo=>(a,o)
abbrev rest(g h:Ĉ)(L d:Í):List<|Í×Obj:=(Gp g h L).filter λp=>iN (p.1≠d)
structure Mod(K:Frag)(mg:Str->Option Ã)(base:Ĉ):Prop where
 kin:K.In base
 glob:base.Ns Č mg
 blt:∃mb,base.Ns builtinsNs mb/\∀x:Str,x≠"__name__"->mb x=ř x
 nolimit:base.NoLimit
structure Cx where
 prog:æ
 w:û
 K:Frag
 mg:Str->Option Ã
 base:Ĉ
 A:ċ
 N:List Str
 s₀:Æ
 H₀:Hp
 env:Env
 outer:List Env
 stack:List Env
 ex:List Í
 fn:Str->Bool
 calm:Bool
 pn:List<|Í×Obj
 xe:Ã->Æ->Prop
abbrev frs(l:List Env):List Í:=l.filterMap (·.frame)
noncomputable abbrev Cx.fs(X:Cx):List Í:=frs X.outer
abbrev Vis(sc:Γ)(x:Str):Prop:=sc.names.lookup x=fJ .local\/sc.names.lookup x=fJ .cell\/sc.names.lookup x=fJ .free
abbrev Loc(sc:Γ)(x:Str):Prop:=sc.names.lookup x=fJ .local\/sc.names.lookup x=fJ .cell
abbrev Vb(env:Env)(h:Ĉ)(m:Str->Option Ã)(x:Str)(u:Ã):Prop :=
 (env.kindOf x=fJ .local/\m x=fJ u)\/((env.kindOf x=fJ .cell\/env.kindOf x=fJ .free)/\∃c,env.cells.lookup x=fJ c/\h.IsCell c (fJ u))
structure Cx.Ok(X:Cx):Prop where
 mod:Mod X.K X.mg X.base
 kind:X.env.scope.kind=.function
 glob:X.env.globals=Č
 blt:X.env.builtins=builtinsNs
 above:X.s₀.heap.objs.size<=X.env.locals
 inj:∀x y c,X.env.cells.lookup x=fJ c->X.env.cells.lookup y=fJ c->x=y
 has:∀x,(X.env.kindOf x=fJ .cell\/X.env.kindOf x=fJ .free)->∃c,X.env.cells.lookup x=fJ c
 cab:∀x c,X.fn x=fL->X.env.cells.lookup x=fJ c->X.s₀.heap.objs.size<=c
 hd:X.calm=fL->X.A.handled=fK
 frames:X.A.frames=fJ X.stack
 stk:X.stack=X.outer\/(X.stack=X.env::X.outer/\X.env.frame=fJ X.env.locals)
 exf:∀b∈X.ex,b≠X.env.locals/\∀x c,X.env.cells.lookup x=fJ c->c≠b
 bs:∀b o,X.base.get? b=fJ o->X.s₀.heap.get? b=fJ o/\X.H₀ b=fK
 bsz:X.base.objs.size<=X.s₀.heap.objs.size
 noex:∀b o,X.base.get? b=fJ o->b∉X.ex
 exfs:∀b∈X.ex,b∉X.fs
 funs:X.s₀.heap.FunFrames X.base X.outer
 frf:∀b∈X.fs,X.H₀ b=fK
structure Inv(X:Cx)(Â:List<|Í×Obj)(σ:List<|Option V)(H:Hp)(s:Æ):Prop where
 ok:X.Ok
 os:s.os=X.s₀.os
 bare:ϑ s.gens
 base:Un X.fs X.ex X.H₀ H X.s₀.heap s.heap
 loc:∃m,s.heap.Ns X.env.locals m/\∀(i:Nat) (x:Str) (v:V),X.N[i]?=fJ x->σ[i]?=fJ (fJ v)->Vis X.env.scope x->∃u,RelV v u/\Vb X.env s.heap m x u
 cell:∀x c,X.env.cells.lookup x=fJ c->∃v,s.heap.IsCell c v
 free:H X.env.locals=fK
 freeC:∀x c,X.env.cells.lookup x=fJ c->H c=fK
 pin:∀p∈X.pn++Â,s.heap.get? p.1=fJ p.2/\H p.1=fK/\p.1≠X.env.locals/\p.1∉X.fs/\∀v,p.2.data≠.cell v
 hok:HOk X.prog X.w H s.heap
 len:σ.length=X.N.length
section
variable {X:Cx}{Â:List (Í×Obj)}{σ:List (Option V)}{H H':Hp}{s:Æ}{h':Ĉ}
def Cx.Ok.nofr(ok:X.Ok){b:Í}{o:Obj}(e:X.base.get? b=fJ o):b∉X.fs:=λhb=>by have:=(ok.funs.mem hb).1;rw[e]at this;cases this
def Inv.bs(I:Inv X Â σ H s):∀b o,X.base.get? b=fJ o->s.heap.get? b=fJ o/\H b=fK:=λb o e =>
 ⟨I.base.keep b o (I.ok.bs b o e).1 (I.ok.bs b o e).2 (I.ok.nofr e)<|I.ok.noex b o e,I.base.free b o (I.ok.bs b o e).1 (I.ok.bs b o e).2<|I.ok.noex b o e⟩
def Inv.bk(I:Inv X Â σ H s):∀b o,X.base.get? b=fJ o->s.heap.get? b=fJ o:=λb o e=>(I.bs b o e).1
def Inv.mod(I:Inv X Â σ H s):Mod X.K X.mg X.base:=I.ok.mod
def Inv.kIn(I:Inv X Â σ H s):X.K.In s.heap:=I.ok.mod.kin.keeps I.bk
def Inv.lt(I:Inv X Â σ H s):X.env.locals<s.heap.objs.size:=let ⟨_,hn,_⟩:=I.loc;hn.lt
def Inv.sz(I:Inv X Â σ H s):X.s₀.heap.objs.size<=s.heap.objs.size:=Ù I.ok.above (ζ I.lt)
variable {a:Í}
def Inv.nofs(I:Inv X Â σ H s)(h:s.heap.objs.size<=a):a∉X.fs:=λhb=>by let⟨_,o,J,_⟩:=I.ok.funs.mem hb;exact iM (å (Û J)<|Ù I.sz h) (ħ _)
def Inv.cne(I:Inv X Â σ H s):∀x c,X.env.cells.lookup x=fJ c->c≠X.env.locals:=λx c e z=>by let⟨v,o,R,hd⟩:=I.cell x c e;let⟨m,⟨d,es,f,U,J,_⟩,_⟩:=I.loc;rw[z,U]at R;cases R;rw[J]at hd;cases hd
def Inv.funs(I:Inv X Â σ H s):s.heap.FunFrames X.base X.outer:=by
 have all:∀(l:List Env),(∀b∈frs l,b∈X.fs)->X.s₀.heap.FunFrames X.base l->s.heap.FunFrames X.base l:=by
  intro l;induction l with
  |nil=>intro _ _;trivial
  |cons env r ih =>intro R hl;let⟨d,⟨L,o,hf,hn,c,hd⟩,U⟩:=hl;have J:L∈X.fs:=R L (by unfold frs;rw[ï,hf];exact ð);let⟨f,e⟩:=I.base.slot L o c (I.ok.frf L J) J λz=>I.ok.exfs L z J;exact⟨d,⟨L,_,hf,hn,e,hd⟩,ih (λb hb=>R b<|by unfold frs;rw[ï,hf];exact Ý _ hb) U⟩
 exact all X.outer (λ_ hb=>hb) I.ok.funs
def Inv.stack(I:Inv X Â σ H s):s.heap.FunFrames X.base X.stack:=by
 rcases I.ok.stk with e|⟨e,hf⟩
 .rw[e];exact I.funs
 .rw[e];let⟨m,hn,_⟩:=I.loc;refine .cons (by rw[I.ok.kind];decide) hf hn ?_ I.funs;exact Heap.get?_none_of_le<|Ù I.ok.bsz I.ok.above
def Inv.stkSub(I:Inv X Â σ H s):∀b∈frs X.stack,b∈X.env.locals::X.fs:=λb hb=>by
 rcases I.ok.stk with e|⟨e,hf⟩
 .rw[e]at hb;exact Ý _ hb
 .rw[e]at hb;unfold frs at hb;rw[ï,hf]at hb;exact hb
def Inv.stkFree(I:Inv X Â σ H s):∀b∈frs X.stack,H b=fK:=λb hb=>by
 rcases Å.mp (I.stkSub b hb)with e|hb
 .rw[e];exact I.free
 .obtain⟨_,o,J,_⟩:=I.ok.funs.mem hb;exact I.base.free b o J (I.ok.frf b hb) λz=>I.ok.exfs b z hb
variable {g':Array cL}{t':Nat}{ch:List Í}
def Inv.step(I:Inv X Â σ H s)(U:∀b∈ch,(b∈X.ex\/X.s₀.heap.objs.size<=b)/\b≠X.env.locals/\(∀x c,X.env.cells.lookup x=fJ c->c≠b)/\∀p∈X.pn++Â,p.1≠b)(keep:∀b o,b≠X.env.locals->b∉X.fs->b∉ch->s.heap.get? b=fJ o->H b=fK->h'.get? b=fJ o)(slot:∀b o,b≠X.env.locals->b∈X.fs->b∉ch->s.heap.get? b=fJ o->H b=fK->∃O,h'.get? b=fJ {o with slots:=O})(free:∀b o,b∉ch->s.heap.get? b=fJ o->H b=fK->H' b=fK)(there:∀b o,b∉ch->s.heap.get? b=fJ o->∃C,h'.get? b=fJ C)(tups:∀b xs,H b=fJ (.tup xs)->H' b=fJ (.tup xs))(frzs:∀b o u,H b=fJ (.frz o u)->H' b=fJ (.frz o u))(tbls:∀b ps,H b=fJ (.tbl ps)->∃more,H' b=fJ (.tbl<|ps++more))(ns:∀m,s.heap.Ns X.env.locals m->h'.Ns X.env.locals m)(hok:HOk X.prog X.w H' h')(hg:ϑ g') :
  Inv X Â σ H' {s with heap:=h',gens:=g',drawn:=d',toks:=t'}:=by
 have F:∀b o,X.s₀.heap.get? b=fJ o->b≠X.env.locals:=λb o e=>ä<|å (Û e) I.ok.above;have f:∀b o,X.s₀.heap.get? b=fJ o->b∉X.ex->b∉ch:=λb o e J hb=>by
  rcases (U b hb).1 with z|z
  .exact J z
  .exact iM (å (Û e) z)<|ħ _
 have cellK:∀x c,X.env.cells.lookup x=fJ c->∀v,s.heap.IsCell c v->h'.IsCell c v:=λx c e v ⟨o,y,hd⟩=>by
  have R:c∉ch:=λz=>(U c z).2.2.1 x c e rfl;by_cases hc:c∈X.fs
  .obtain⟨O,q⟩:=slot c o (I.cne x c e) hc R y<|I.freeC x c e;exact⟨_,q,hd⟩
  .exact⟨o,keep c o (I.cne x c e) hc R y<|I.freeC x c e,hd⟩
 refine⟨I.ok,I.os,hg,⟨λb o e n hb J=>?_,λb o e n hb J=>?_,λb o e n J=>?_,λb o e J=>?_,λb xs e=>tups b xs<|I.base.tups b xs e,λb o xs e=>frzs b o xs<|I.base.frzs b o xs e,λb ps e=>?_⟩,?_,λx c e=>?_,?_,λx c e=>?_,λp hp=>?_,hok,I.len⟩
 .exact keep b o (F b o e) hb (f b o e J) (I.base.keep b o e n hb J)<|I.base.free b o e n J
 .obtain⟨O,j⟩:=I.base.slot b o e n hb J;let⟨M,G⟩:=slot b _ (F b o e) hb (f b o e J) j<|I.base.free b o e n J;exact⟨M,G⟩
 .obtain⟨C,j⟩:=I.base.there b o e J;exact free b C (f b o e J) j<|I.base.free b o e n J
 .obtain⟨C,j⟩:=I.base.there b o e J;exact there b C (f b o e J) j
 .obtain⟨m1,j⟩:=I.base.tbls b ps e;let⟨m2,G⟩:=tbls b _ j;exact⟨m1++m2,by rw[G,Array.append_assoc]⟩
 .obtain⟨m,hn,hl⟩:=I.loc;refine⟨m,ns m hn,λi x v j G e3=>?_⟩;let⟨u,r,l⟩:=hl i x v j G e3;refine⟨u,r,?_⟩;rcases l with l|⟨k,c,e,z⟩
  .exact .inl l
  .exact .inr ⟨k,c,e,cellK x c e _ z⟩
 .obtain⟨v,z⟩:=I.cell x c e;exact⟨v,cellK x c e v z⟩
 .obtain⟨m,⟨o,_,_,y,_⟩,_⟩:=I.loc;exact free _ o (λz=>(U _ z).2.1 rfl) y I.free
 .obtain⟨v,o,y,hd⟩:=I.cell x c e;exact free c o (λz=>(U c z).2.2.1 x c e rfl) y<|I.freeC x c e
 .obtain⟨e,n,ne,W,d⟩:=I.pin p hp;have R:p.1∉ch:=λz=>(U p.1 z).2.2.2 p hp rfl;exact⟨keep p.1 p.2 ne W R e n,free p.1 p.2 R e n,ne,W,d⟩
def Inv.un(I:Inv X Â σ H s)(u:Un X.fs [] H H' s.heap h')(hok:HOk X.prog X.w H' h'):Inv X Â σ H' {s with heap:=h',toks:=t'}:=by
 let⟨m,⟨o,es,p,U,r⟩,_⟩:=id I.loc;let⟨j,i⟩:=u.any U I.free (by simp);exact I.step (g':=s.gens) (d':=s.drawn) (ch:=[]) (λ_ z=>nomatch z) (λb o _ hb _ e n=>u.keep b o e n hb<|by simp) (λb o _ hb _ e n=>u.slot b o e n hb<|by simp) (λb o _ e n=>u.free b o e n<|by simp) (λb o _ e=>u.there b o e<|by simp) u.tups u.frzs u.tbls (λl hm=>by
   let⟨k,J,R,c,f⟩:=hm
   rw[U]at c;cases c
   exact⟨_,J,R,i,f⟩) hok I.bare
def Inv.call(I:Inv X Â σ H s)(u:Un (frs X.stack) ch H H' s.heap h')(hok:HOk X.prog X.w H' h')(q:ϑ g')(R:∀b∈ch,(b∈X.ex\/X.s₀.heap.objs.size<=b)/\b≠X.env.locals/\(∀x c,X.env.cells.lookup x=fJ c->c≠b)/\∀p∈X.pn++Â,p.1≠b) :
  Inv X Â σ H' {s with heap:=h',gens:=g',drawn:=d',toks:=t'}:=by
 let⟨m,⟨o,es,F,j,r⟩,_⟩:=id I.loc;let⟨v,U⟩:=u.any j I.free λz=>(R _ z).2.1 rfl;exact I.step (ch:=ch) R (λb o U hb J e n=>u.keep b o e n (λz=>(Å.mp<|I.stkSub b z).elim U hb) J) (λb o _ _ J e n=>u.any e n J) (λb o J e n=>u.free b o e n J) (λb o J e=>u.there b o e J) u.tups u.frzs u.tbls (λC hm=>by
   let⟨y,f,i,k,l⟩:=hm
   rw[j]at k;cases k
   exact⟨_,f,i,U,l⟩) hok q
def Inv.turned(I:Inv X Â σ H s)(k:∀b o,b≠it->s.heap.get? b=fJ o->h'.get? b=fJ o)(hn:H it=fK)(U:it≠X.env.locals)(h1:it∈X.ex\/X.s₀.heap.objs.size<=it)(j:∀x c,X.env.cells.lookup x=fJ c->c≠it)(i:∀p∈X.pn++Â,p.1≠it):Inv X Â σ H {s with heap:=h',toks:=t'}:=by
 have R:∀b u,H b=fJ u->b≠it:=λb u e z=>by rw[z,hn]at e;cases e
 refine I.step (g':=s.gens) (d':=s.drawn) (ch:=[it]) (λb hb=>?_) (λb o _ _ J e _=>k b o (λz=>J<|by simp[z]) e) (λb o _ _ J e _=>⟨o.slots,k b o (λz=>J<|by simp[z]) e⟩) (λ_ _ _ _ n=>n)
  (λb o J e=>⟨o,k b o (λz=>J<|by simp[z]) e⟩) (λ_ _ e=>e) (λ_ _ _ e=>e) (λb ps e=>⟨#[],by rw[e];simp⟩) (λm hm=>?_) (λb u e=>?_) I.bare
 .have e:b=it:=⇑hb
  subst e;exact⟨h1,U,j,i⟩
 .obtain⟨o,es,l,f,r⟩:=hm;exact⟨o,es,l,k _ o (Ne.symm U) f,r⟩
 .refine(I.hok b u e).stay (λc v J q=>k c v ?_ q) (λ_ q=>q) λ_ _ q=>q;rcases J with z|z
  .rw[z];exact R b u e
  .exact R c _ z
def Inv.tok(I:Inv X Â σ H s)(t:Nat):Inv X Â σ H {s with toks:=t}:=I.un (h':=s.heap) (t':=t) Un.refl I.hok
def Inv.kept(I:Inv X Â σ H s)(k:∀b u,s.heap.get? b=fJ u->h'.get? b=fJ u):Inv X Â σ H {s with heap:=h',toks:=t'}:=I.un (Un.kept k) (I.hok.kept k)
variable {o:HO}
def Inv.laid(I:Inv X Â σ H s)(k:∀b u,s.heap.get? b=fJ u->h'.get? b=fJ u)(hp:s.heap.objs.size<=a)(new:fV X.prog X.w (upd H a o) h' a o) :
  Inv X Â σ (upd H a o) {s with heap:=h',toks:=t'}:=I.un (Un.laid k hp<|I.hok.fresh hp)<|I.hok.laid k hp new
def Inv.write(I:Inv X Â σ H s)(R:Mut<|H x)(he:e=x\/H e=fJ (.own x))(k:∀b u,b≠e->s.heap.get? b=fJ u->h'.get? b=fJ u)(J:∃u,h'.get? e=fJ u)(new:fV X.prog X.w (upd H x o) h' x o):Inv X Â σ (upd H x o) {s with heap:=h',toks:=t'}:=I.un (Un.write R he k J)<|I.hok.write R he k J new
def Inv.pins_of(I:Inv X Â σ H s)(h:∀p∈J,s.heap.get? p.1=fJ p.2/\H p.1=fK/\p.1≠X.env.locals/\p.1∉X.fs/\∀v,p.2.data≠.cell v):Inv X J σ H s :=
 ⟨I.ok,I.os,I.bare,I.base,I.loc,I.cell,I.free,I.freeC,λp hp=>(Ë.mp hp).elim (λz=>I.pin p<|Ê _ z)<|h p,I.hok,I.len⟩
variable {i:Nat}{x:Str}
def On{N:List Str}(I:N.Nodup){j:Nat}(a:N[i]?=fJ x)(b:N[j]?=fJ x):i=j:=by let⟨c,R⟩:=Ô.mp a;let⟨U,J⟩:=Ô.mp b;exact(aH I).mp (R.trans J.symm)
variable {M:Model}{A:ċ}{u:Ã}{Q:Unit->Æ->Prop}
def Mp(I:Inv X Â σ H s)(hN:X.N.Nodup)(hi:X.N[i]?=fJ x)(f:Loc X.env.scope x)(r:RelV v u)(h:∀s',Inv X Â (σ.set i<|fJ v) H s'->(∃a,ź a s.heap s'.heap/\(a=X.env.locals\/X.env.cells.lookup x=fJ a))->Q () s')(hf:X.fn x=fL\/X.env.scope.names.lookup x=fJ .local:=by first|exact .inl rfl|exact .inr rfl|assumption):wpAny M A (storeName X.env x u) Q E s:=by
 let⟨m,hn,hl⟩:=id I.loc;have W:(X.env.scope.kind == .class||(X.env.scope.kind == .module&&X.env.locals != X.env.globals))=fM:=by rw[I.ok.kind];rfl
 have t:i<σ.length:=by rw[I.len];exact(Ô.mp hi).1
 have cne:=I.cne;have dJ:∀{a:Í}{h':Ĉ},(∃o,s.heap.get? a=fJ o/\H a=fK)->ź a s.heap h'->HOk X.prog X.w H h':=λ{a h'} ha J b ob e=>by
  let⟨_,_,g⟩:=ha;refine(I.hok b ob e).stay (λc w' U q=>(J.2 c ?_).trans q) (λ_ q=>q) λ_ _ q=>q;rintro rfl;rcases U with rfl|U
  .rw[g]at e;cases e
  .rw[g]at U;cases U
 rcases f with hk|hk
 .refine wpAny_storeName_local hk hn (λh' hn' J=>?_) W;let⟨oL,_,_,hoL,_⟩:=id hn;refine h _ ⟨I.ok,I.os,I.bare,⟨λb o e n hb f=>?_,λb o e n hb f=>?_,I.base.free,λb o e f=>?_,I.base.tups,I.base.frzs,I.base.tbls⟩,⟨_,hn',λj y v' R l e3=>?_⟩,λy c e=>?_,I.free,I.freeC,λp hp=>?_,dJ ⟨oL,hoL,I.free⟩ J,by simpa using I.len⟩ ⟨_,J,.inl rfl⟩
  .exact(J.2 b<|ä<|å (Û e) I.ok.above).trans<|I.base.keep b o e n hb f
  .obtain⟨sl,R⟩:=I.base.slot b o e n hb f;exact⟨sl,(J.2 b<|ä<|å (Û e) I.ok.above).trans R⟩
  .obtain⟨o',R⟩:=I.base.there b o e f;exact⟨o',(J.2 b<|ä<|å (Û e) I.ok.above).trans R⟩
  .by_cases C:j=i
   .subst C;rw[hi]at R;cases R;rw[ϒ t]at l;cases l;exact⟨u,r,.inl ⟨hk,by simp⟩⟩
   .rw[Α<|Ne.symm C]at l;let⟨u',r',q⟩:=hl j y v' R l e3;refine⟨u',r',?_⟩;rcases q with⟨k,e⟩|⟨k,c,e,z⟩
    .refine .inl ⟨k,?_⟩;have:y≠x:=λe=>C<|On hN R<|e▸hi;simp[this,e]
    .exact .inr ⟨k,c,e,z.sameBut J<|cne y c e⟩
  .obtain⟨w',z⟩:=I.cell y c e;exact⟨w',z.sameBut J<|cne y c e⟩
  .obtain⟨e,n,ne,nf,d⟩:=I.pin p hp;exact⟨(J.2 p.1 ne).trans e,n,ne,nf,d⟩
 .have F:X.fn x=fL:=by
   rcases hf with z|z
   .exact z
   .rw[z]at hk;cases hk
  let⟨c,U⟩:=I.ok.has x<|.inl hk;let⟨w',z⟩:=I.cell x c U;refine wpAny_storeName_cell I.ok.kind hk U z λh' hc' J=>?_;let⟨oc,O,G⟩:=id z;refine h {s with heap:=h'} ⟨I.ok,I.os,I.bare,⟨λb o e n hb f=>?_,λb o e n hb f=>?_,I.base.free,λb o e f=>?_,I.base.tups,I.base.frzs,I.base.tbls⟩,⟨m,hn.sameBut J<|Ne.symm<|cne x c U,λj y v' R l e3=>?_⟩,λy c' e=>?_,I.free,I.freeC,λp hp=>?_,dJ ⟨oc,O,I.freeC x c U⟩ J,by simpa using I.len⟩ ⟨c,J,.inr U⟩
  .exact(J.2 b<|ä<|å (Û e)<|I.ok.cab x c F U).trans<|I.base.keep b o e n hb f
  .obtain⟨sl,R⟩:=I.base.slot b o e n hb f;exact⟨sl,(J.2 b<|ä<|å (Û e)<|I.ok.cab x c F U).trans R⟩
  .obtain⟨o',R⟩:=I.base.there b o e f;exact⟨o',(J.2 b<|ä<|å (Û e)<|I.ok.cab x c F U).trans R⟩
  .by_cases C:j=i
   .subst C;rw[hi]at R;cases R;rw[ϒ t]at l;cases l;exact⟨u,r,.inr ⟨.inl hk,c,U,hc'⟩⟩
   .rw[Α<|Ne.symm C]at l;let⟨u',r',q⟩:=hl j y v' R l e3;refine⟨u',r',?_⟩;rcases q with q|⟨k,c',e,z'⟩
    .exact .inl q
    .refine .inr ⟨k,c',e,z'.sameBut J ?_⟩;rintro rfl;exact C<|On hN R<|I.ok.inj _ _ _ e U▸hi
  .by_cases hcc:c'=c
   .subst hcc;exact⟨_,hc'⟩
   .obtain⟨w2,z2⟩:=I.cell y c' e;exact⟨w2,z2.sameBut J hcc⟩
  .obtain⟨e,n,ne,nf,d⟩:=I.pin p hp;refine⟨(J.2 p.1 ?_).trans e,n,ne,nf,d⟩;intro q;rw[q,O]at e;have q':oc=p.2:=ë e;exact d w' (by rw[<-q'];exact G)
def EE(I:Inv X Â σ H s)(U:X.N.Nodup)(hi:X.N[i]?=fJ x)(R:Loc X.env.scope x)(r:RelV v u)(h:∀J,Inv X Â (σ.set i<|fJ v) H J->Q () J)(hf:X.fn x=fL\/X.env.scope.names.lookup x=fJ .local:=by first|exact .inl rfl|exact .inr rfl|assumption):wpAny M A (storeName X.env x u) Q E s :=
 Mp I U hi R r (λJ c _=>h J c) hf
def Inv.call'(I:Inv X Â σ H s)(U:s'.os=s.os)(u:Un (frs X.stack) ch H H' s.heap s'.heap)(hok:HOk X.prog X.w H' s'.heap)(f:ϑ s'.gens)(J:∀b∈ch,(b∈X.ex\/X.s₀.heap.objs.size<=b)/\b≠X.env.locals/\(∀x c,X.env.cells.lookup x=fJ c->c≠b)/\∀p∈X.pn++Â,p.1≠b):Inv X Â σ H' s':=by
 let⟨h',g',d',t',R⟩:=s';have e:R=s.os:=U;subst e;exact I.call (g':=g') (t':=t') (d':=d') u hok f J
end
noncomputable abbrev XK:=Ã->Option Í->Hp->Prop
noncomputable abbrev St:=List<|Option V
noncomputable abbrev VK:=V->Hp->Prop
noncomputable abbrev TE:=St->Hp->VK->Prop
noncomputable abbrev TT:=St->Hp->(Bool->Hp->Prop)->Prop
noncomputable abbrev TA:=St->Hp->(List V->Hp->Prop)->Prop
structure Ends where
 nx:St->Hp->Prop
 rt:VK
 bk:St->Hp->Prop:=λ_ _=>False
 ct:St->Hp->Prop:=λ_ _=>False
noncomputable abbrev TS:=Ends->St->Hp->Prop
inductive EP (X:Cx) (Â:List<|Í×Obj) (σ:St) (Q:VK) (u:Ã) (s':Æ):Prop
 |mk (v:V) (H':Hp) (i:Inv X Â σ H' s') (r:RelV v u) (q:Q v H')
abbrev TP(X:Cx)(J:List<|Í×Obj)(σ:St)(Q:Bool->Hp->Prop)(b:Bool)(R:Æ):Prop:=∃I,Inv X J σ I R/\Q b I
inductive AP (X:Cx) (Â:List<|Í×Obj) (σ:St) (Q:List V->Hp->Prop) (us:List Ã) (s':Æ):Prop
 |mk (vs:List V) (H':Hp) (i:Inv X Â σ H' s') (r:iu vs us) (q:Q vs H')
abbrev SP(X:Cx)(R:List<|Í×Obj)(D:Ends)(f:Flow)(U:Æ):Prop :=
 match f with
 |.next=>∃J I,Inv X R J I U/\D.nx J I
 |.brk=>∃J I,Inv X R J I U/\D.bk J I
 |.cont=>∃J I,Inv X R J I U/\D.ct J I
 |.ret u=>∃v J I,Inv X R J I U/\RelV v u/\D.rt v I
abbrev PE(X:Cx)(e:Expr)(t:TE):Prop :=
 ∀(I:List<|Í×Obj) (s:Æ) (σ:St) (H:Hp) (Q:VK),Inv X I σ H s->t σ H Q->wpAny ↥2 X.A (eval e X.env) (EP X I σ Q) X.xe s
abbrev PT(X:Cx)(e:Expr)(t:TT):Prop :=
 ∀(I:List<|Í×Obj) (s:Æ) (σ:St) (H:Hp) (Q:Bool->Hp->Prop),Inv X I σ H s->t σ H Q->wpAny ↥2 X.A (cM e X.env<|eval e X.env) (TP X I σ Q) X.xe s
abbrev PW(X:Cx)(e:Expr)(t:TT):Prop :=
 ∀(I:Sem Ã) (Â:List<|Í×Obj) (s:Æ) (σ:St) (H:Hp) (Q:Bool->Hp->Prop),Inv X Â σ H s->t σ H Q->wpAny ↥2 X.A (cM e X.env I) (TP X Â σ Q) X.xe s
def PW.pt(h:PW X e t):PT X e t:=h _
abbrev PA(X:Cx)(es:List Expr)(t:TA):Prop :=
 ∀(I:Pos) (Â:List<|Í×Obj) (s:Æ) (σ:St) (H:Hp) (Q:List V->Hp->Prop),Inv X Â σ H s->t σ H Q->wpAny ↥2 X.A (spliced<|ğ I<|Þ es X.env) (AP X Â σ Q) X.xe s
abbrev PS(X:Cx)(st:ľ)(t:TS):Prop :=
 ∀(I:List<|Í×Obj) (s:Æ) (σ:St) (H:Hp) (D:Ends),Inv X I σ H s->t D σ H->wpAny ↥2 X.A (exec st X.env) (SP X I D) X.xe s
abbrev PSs(X:Cx)(st:List ľ)(t:TS):Prop :=
 ∀(I:List<|Í×Obj) (s:Æ) (σ:St) (H:Hp) (D:Ends),Inv X I σ H s->t D σ H->wpAny ↥2 X.A (execs st X.env) (SP X I D) X.xe s
def thn(h:wpAny M A t Q E s)(J:∀a s,Q a s->I a s):wpAny M A t I E s:=Ĳ h J λ_ _ x=>x
section
variable {X:Cx}
variable {Â:List (Í×Obj)}{s:Æ}{σ:St}{H:Hp}
def bin{a b:Expr}{c tb:TE}(ha:PE X a c)(hb:PE X b tb){R:V->V->Hp->Prop}(I:Inv X Â σ H s)(h:c σ H λx U=>tb σ U λy J=>R x y J)
  {α:Type}{Q:α->Æ->Prop}{f:Ã->Ã->Sem α}
  (hf:∀v u s2 x y J,Inv X Â σ J s2->RelV x v->RelV y u->R x y J->wpAny ↥2 X.A (f v u) Q X.xe s2) :
  wpAny ↥2 X.A (eval a X.env) (λv d=>wpAny ↥2 X.A (eval b X.env) (λu j=>wpAny ↥2 X.A (f v u) Q X.xe j) X.xe d) X.xe s:=by
 refine thn (ha Â s σ H _ I h) λv s1 ⟨x,U,l,r1,i⟩=>?_;refine thn (hb Â s1 σ U _ l i) λu s2 ⟨y,J,k,e,g⟩=>?_;exact hf v u s2 x y J k r1 e g
abbrev SU(i:Nat):TE:=λσ H Q=>∃v,σ[i]?=fJ (fJ v)/\Q v H
abbrev tC(v:V):TE:=λ_ H Q=>Q v H
variable {x:Str}{í:Pos}
def EN(f:X.N[i]?=fJ x)(d:Vis X.env.scope x)(hd:(x==("__debug__" : Str))=fM:=by decide)(g:(x==("__classdict__" : Str))=fM:=by decide):PE X (.Name x í)<|SU i:=by
 walk_at "B";let⟨v,e,h⟩:=h;let⟨m,hn,hl⟩:=I.loc;let⟨u,r,l⟩:=hl i x v f e d;have fin:EP X Â σ Q u s:=⟨v,H,I,r,h⟩
 rcases l with⟨R,hm⟩|⟨R,c,U,J⟩
 .exact wpAny_Name (wpAny_loadName_local I.ok.kind R hn hm fin) hd
 .rcases R with R|R
  .exact wpAny_Name (wpAny_loadName_cell I.ok.kind R U J fin) hd
  .exact wpAny_Name (wpAny_loadName_free I.ok.kind R U J fin g) hd
def Nv{i j í}:PE X (.Constant (.int i) j í)<|tC<|.int i:=λ_ _ _ H _ I h=>wpAny_Constant_int ⟨.int i,H,I.tok _,⟨_,rfl⟩,h⟩
def R7{b j í}:PE X (.Constant (.bool b) j í)<|tC<|.bl b:=λ_ _ _ H _ I h=>Constant_bool ⟨.bl b,H,I,rfl,h⟩
def CZ{j í}:PE X (.Constant .none j í)<|tC .non:=λ_ _ _ H _ I h=>dR ⟨.non,H,I,rfl,h⟩
def Qa{x j í}:PE X (.Constant (.str x) j í)<|tC<|.str x:=λ_ _ _ H _ I h=>Calls.Constant_str ⟨.str x,H,I.tok _,⟨_,rfl⟩,h⟩
abbrev Gl(X:Cx)(x:Str):Prop:=X.env.kindOf x=fJ .globalImplicit
variable {u:Ã}{Q:Ã->Æ->Prop}
def Jr(I:Inv X Â σ H s)(J:Gl X x)(hm:X.mg x=fJ u)(h:Q u s)(hd:(x==("__debug__" : Str))=fM:=by decide):wpAny ↥2 X.A (eval (.Name x í) X.env) Q E s :=
 Calls.Name_function_global I.ok.kind J (Calls.loadGlobal_global (by rw[I.ok.glob];exact I.mod.glob.keeps I.bk) hm h) hd
def YQ{E:Ã->Æ->Prop}(I:Inv X Â σ H s)(R:Gl X x)(hm:X.mg x=fK)(J:ř x=fJ u)(h:Q u s)
  (hn:x≠"__name__":=by decide) (hd:(x==("__debug__" : Str))=fM:=by decide):wpAny ↥2 X.A (eval (.Name x í) X.env) Q E s:=by
 let⟨mb,c,U⟩:=I.mod.blt;exact Calls.Name_function_global I.ok.kind R (Calls.loadGlobal_builtin (by rw[I.ok.glob];exact I.mod.glob.keeps I.bk) hm (by rw[I.ok.blt];exact c.keeps I.bk) ((U x hn).trans J) h) hd
def Gc(J:Gl X x)(hm:X.mg x=fJ u)(r:RelV v u)(hd:(x==("__debug__" : Str))=fM:=by decide):PE X (.Name x í) (tC v) :=
 λ_ _ _ H _ I h=>Jr I J hm ⟨v,H,I,r,h⟩ hd
def Hb(R:Gl X x)(hm:X.mg x=fK)(J:ř x=fJ u)(r:RelV v u)(hn:x≠"__name__":=by decide)(hd:(x==("__debug__" : Str))=fM:=by decide):PE X (.Name x í) (tC v) :=
 λ_ _ _ H _ I h=>YQ I R hm J ⟨v,H,I,r,h⟩ hn hd
variable {a b:Expr}{í:Pos}
abbrev PC(X:Cx)(op:bT)(a b:Expr)(t:TE):Prop :=
 ∀(Â:List<|Í×Obj) (s:Æ) (σ:St) (H:Hp) (Q:VK),Inv X Â σ H s->t σ H Q->
  wpAny ↥2 X.A (eval a X.env) (λv I=>wpAny ↥2 X.A (eval b X.env) (λu J=>wpAny ↥2 X.A (î op v u) (EP X Â σ Q) X.xe J) X.xe I) X.xe s
def Of(b:Expr)(h:op≠.In)(I:op≠.NotIn):Ń op b=fM:=by
 have R:(op==CmpOp.In)=fM:=by cases op<;>first|rfl|exact iM rfl h
 have J:(op==CmpOp.NotIn)=fM:=by cases op<;>first|rfl|exact iM rfl I
 cases b<;>simp[Ń,R,J]
abbrev TN(ta:TE):TE:=λσ H Q=>ta σ H λx I=>Q (.bl<|iN (x=.non)) I
abbrev RD(ta:TE):TE:=λσ H Q=>ta σ H λx I=>Q (.bl (!iN (x=.non))) I
def RelV.none_iff{x:V}{v:Ã}(r:RelV x v):(v==Value.none)=iN (x=.non):=by
 cases x with
 |non=>cases r;rfl
 |bl _=>cases r;rfl
 |int _=>let⟨t,rfl⟩:=r;rfl
 |str _=>let⟨t,rfl⟩:=r;rfl
 |byt _=>let⟨t,rfl⟩:=r;rfl
 |flt _=>let⟨t,rfl⟩:=r;rfl
 |ref _=>cases r;rfl
 |ty _=>cases r;rfl
def E5{j bP}(ha:PE X a ta):PC X .Is a (.Constant .none j bP)<|TN ta:=by walk_at "B";refine thn (ha Â s σ H _ I h) λv s1 ⟨x,U,R,r1,J⟩=>?_;exact dR (is_none_gen ⟨.bl _,U,R,by rw[r1.none_iff];rfl,J⟩)
def UT{j bP}(ha:PE X a ta):PC X .IsNot a (.Constant .none j bP)<|RD ta:=by walk_at "B";refine thn (ha Â s σ H _ I h) λv s1 ⟨x,U,R,r1,J⟩=>?_;exact dR (isnot_none_gen ⟨.bl _,U,R,by rw[r1.none_iff];rfl,J⟩)
abbrev tB(t:TE):TT:=λσ H Q=>t σ H λx I=>∃c,x=.bl c/\Q c I
def D4(h:PC X op a b t)(h1:Ń op b=fM:=by first|exact Of _ ↥1 ↥1|rfl):PE X (.Compare a [op] [b] í) t:=λÂ s σ H Q I hw=>wpAny_Compare1 (h Â s σ H Q I hw) h1
def EA(h:PC X op a b t)(h1:Ń op b=fM:=by first|exact Of _ ↥1 ↥1|rfl):PT X (.Compare a [op] [b] í)<|tB t:=by intro Â s σ H Q I hw;refine wpAny_isTrue_Compare1 (thn (h Â s σ H _ I hw) λv s1 h1=>thn h1 λu s2 R=>thn R λc s3 ⟨x,e,U,r1,J⟩=>?_) h1;let⟨d,rfl,q⟩:=J;cases r1;exact ē ⟨e,U,q⟩
variable {rest:List Expr}
abbrev Tw(t u:TT):TT:=λσ H Q=>t σ H λc I=>if c=fL then u σ I Q else Q fM I
abbrev tOr(t u:TT):TT:=λσ H Q=>t σ H λc I=>if c=fL then Q fL I else u σ I Q
abbrev Vc(t:TT):TT:=λσ H Q=>t σ H λc I=>Q (!c) I
def FI(ha:PT X a tA):PW X (.BoolOp .And [a] í) tA:=by
 intro J Â s σ H Q I h;refine isTrue_and<|thn (ha Â s σ H Q I h) λc s1 e=>?_;cases c with
 |true=>exact isTrue_and_nil e
 |false=>exact e
def Qv(ha:PT X a tA):PW X (.BoolOp .Or [a] í) tA:=by
 intro J Â s σ H Q I h;refine isTrue_or<|thn (ha Â s σ H Q I h) λc s1 e=>?_;cases c with
 |false=>exact isTrue_or_nil e
 |true=>exact e
def QU(ha:PT X a tA)(hb:PW X (.BoolOp .And (b::rest) í) tB'):PW X (.BoolOp .And (a::b::rest) í)<|Tw tA tB':=by
 intro d Â s σ H Q I h;refine isTrue_and<|thn (ha Â s σ H _ I h) λc s1 ⟨U,R,J⟩=>?_;cases c with
 |true=>exact hb d Â s1 σ U Q R J
 |false=>exact⟨U,R,J⟩
def Rf(ha:PT X a tA)(hb:PW X (.BoolOp .Or (b::rest) í) tB'):PW X (.BoolOp .Or (a::b::rest) í)<|tOr tA tB':=by
 intro d Â s σ H Q I h;refine isTrue_or<|thn (ha Â s σ H _ I h) λc s1 ⟨U,R,J⟩=>?_;cases c with
 |true=>exact⟨U,R,J⟩
 |false=>exact hb d Â s1 σ U Q R J
def LD(ha:PT X a tA):PT X (.UnaryOp .Not a í)<|Vc tA:=by walk_at "B";exact isTrue_not (ha Â s σ H (λc J=>Q (!c) J) I h)
abbrev Se(ta tb:TE):TE:=λσ H Q=>ta σ H λx I=>∃c,x=.bl c/\if c=fL then tb σ I Q else Q (.bl fM) I
abbrev T8(ta tb:TE):TE:=λσ H Q=>ta σ H λx I=>∃c,x=.bl c/\if c=fL then Q (.bl fL) I else tb σ I Q
abbrev RL(ta:TE):TE:=λσ H Q=>ta σ H λx I=>∃c,x=.bl c/\Q (.bl (!c)) I
def Fr{op}(h:PE X a t):PE X (.BoolOp op [a] í) t:=λÂ s σ H Q I hw=>BoolOp_one (h Â s σ H Q I hw)
def LW(ha:PE X a ta)(hb:PE X (.BoolOp .And (b::rest) í) tb):PE X (.BoolOp .And (a::b::rest) í)<|Se ta tb:=by
 walk_at "B";refine BoolOp_and<|thn (ha Â s σ H _ I h) λv s1 ⟨x,U,R,r1,J⟩=>?_;let⟨c,rfl,J⟩:=J;cases r1;refine ē ?_;cases c with
 |true=>exact hb Â s1 σ U Q R J
 |false=>exact⟨.bl fM,U,R,rfl,J⟩
def Sk(ha:PE X a ta)(hb:PE X (.BoolOp .Or (b::rest) í) tb):PE X (.BoolOp .Or (a::b::rest) í)<|T8 ta tb:=by
 walk_at "B";refine BoolOp_or<|thn (ha Â s σ H _ I h) λv s1 ⟨x,U,R,r1,J⟩=>?_;let⟨c,rfl,J⟩:=J;cases r1;refine ē ?_;cases c with
 |false=>exact hb Â s1 σ U Q R J
 |true=>exact⟨.bl fL,U,R,rfl,J⟩
def L3(ha:PE X a ta):PE X (.UnaryOp .Not a í)<|RL ta:=by walk_at "B";refine UnaryOp_<|thn (ha Â s σ H _ I h) λv s1 ⟨x,U,R,r1,J⟩=>?_;let⟨c,rfl,J⟩:=J;cases r1;exact not_of (ē ⟨.bl (!c),U,R,rfl,J⟩)
abbrev tIf(t:TT)(ta tb:TE):TE:=λσ H Q=>t σ H λc I=>if c=fL then ta σ I Q else tb σ I Q
def DZ(e:PT X c tA)(ha:PE X a ta)(hb:PE X b tb):PE X (.IfExp c a b í)<|tIf tA ta tb:=by
 walk_at "B";refine wpAny_IfExp<|thn (e Â s σ H _ I h) λd s1 ⟨U,R,J⟩=>?_;cases d with
 |true=>exact ha Â s1 σ U Q R J
 |false=>exact hb Â s1 σ U Q R J
end
abbrev iq(K:Frag)(H:Hp)(a:Í)(xs:List V):Prop :=
 Rd H a (.lst xs)\/
  ∃(o:Obj) (ó:Array Ã) (n:Nat),K.lookup a=fJ o/\o.cls=.type "list"/\o.dict=fK/\o.data=.seq ó n/\ó.size<=à/\iu xs ó.toList
abbrev ir(K:Frag)(H:Hp)(a:Í)(xs:List V):Prop :=
 Rd H a (.tup xs)\/
  ∃(o:Obj) (ó:Array Ã) (n:Nat),K.lookup a=fJ o/\o.cls=.type "tuple"/\o.data=.seq ó n/\ó.size<=à/\iu xs ó.toList
abbrev absV:Ã->Option V
 |.none=>fJ .non
 |.bool b=>fJ<|.bl b
 |.int i _=>fJ<|.int i
 |.str x _=>fJ<|.str x
 |.bytes b _=>fJ<|.byt b
 |.float b _=>fJ<|.flt b
 |.ref a=>fJ<|.ref a
 |.type n=>fJ<|.ty n
 |_=>fK
variable {x:V}{u:Ã}
def RelV.abs(r:RelV x u):absV u=fJ x:=by
 cases x with
 |non=>cases r;rfl
 |bl _=>cases r;rfl
 |int _=>let⟨t,rfl⟩:=r;rfl
 |str _=>let⟨t,rfl⟩:=r;rfl
 |byt _=>let⟨t,rfl⟩:=r;rfl
 |flt _=>let⟨t,rfl⟩:=r;rfl
 |ref _=>cases r;rfl
 |ty _=>cases r;rfl
def RelV.inj(r:RelV x u)(q:RelV y u):x=y:=ë (r.abs.symm.trans q.abs)
def iu.inj:∀{xs ys:List V}{us:List Ã},iu xs us->iu ys us->xs=ys
 |_,_,_,.nil,.nil=>rfl
 |_,_,_,.cons r t,.cons r' t'=>by rw[r.inj r',iu.inj t t']
section
variable {X:Cx}{Â:List (Í×Obj)}{σ:St}{H:Hp}{s:Æ}{a:Í}{xs ys:List V}
def iq.of{K:Frag}(h:H a=fJ (.lst xs)):iq K H a xs:=.inl (.inl h)
def ir.of{K:Frag}(h:H a=fJ (.tup xs)):ir K H a xs:=.inl (.inl h)
def Inv.list(I:Inv X Â σ H s)(h:iq X.K H a xs):∃J:List Ã,iu xs J/\PlainL s.heap a J.toArray/\xs.length<=à:=by
 rcases h with h|⟨o,J,n,hk,hc,hd,hs,hz,r⟩
 .obtain⟨z,J,n,r,e⟩:=h.ok I.hok;exact⟨J,r,⟨_,n,e,rfl,rfl,rfl⟩,z⟩
 .refine⟨J.toList,r,⟨o,n,I.kIn a o hk,hc,hd,⇑hs⟩,?_⟩;have e:=r.length;simp![ö]at e;lia
def Inv.tuple(I:Inv X Â σ H s)(h:ir X.K H a xs):∃J:List Ã,iu xs J/\ϸ s.heap a J.toArray/\xs.length<=à:=by
 rcases h with h|⟨o,J,n,hk,hc,hs,hz,r⟩
 .obtain⟨z,J,r,p⟩:=h.ok I.hok;exact⟨J,r,p,z⟩
 .refine⟨J.toList,r,⟨o,I.kIn a o hk,hc,n,⇑hs⟩,?_⟩;have e:=r.length;simp![ö]at e;lia
def Inv.list_inj(I:Inv X Â σ H s)(h:iq X.K H a xs)(h':iq X.K H a ys):xs=ys:=by
 let⟨U,r,⟨o,n,e,_,_,d⟩,_⟩:=I.list h;let⟨its',c,⟨f,g,J,_,_,R⟩,_⟩:=I.list h';rw[e]at J;cases J;rw[d]at R;injection R with d1 _;have:U=its':=by simpa using congrArg cg d1
 subst this;exact r.inj c
def Inv.tuple_inj(I:Inv X Â σ H s)(h:ir X.K H a xs)(h':ir X.K H a ys):xs=ys:=by
 let⟨U,r,⟨o,e,_,n,d⟩,_⟩:=I.tuple h;let⟨its',c,⟨f,J,_,g,R⟩,_⟩:=I.tuple h';rw[e]at J;cases J;rw[d]at R;injection R with d1 _;have:U=its':=by simpa using congrArg cg d1
 subst this;exact r.inj c
end
section
variable {st:ľ}{rest:List ľ}{t u:TS}{e:Expr}{í:Pos}
abbrev RI:TS:=λD σ H=>D.nx σ H
abbrev Tj(t u:TS):TS:=λD σ H=>t {D with nx:=u D} σ H
def pss_nil:PSs X [] RI:=λ_ _ σ H _ I h=>wpAny_execs_nil ⟨σ,H,I,h⟩
def Dt(h1:PS X st t)(U:PSs X rest u):PSs X (st::rest)<|Tj t u:=by
 intro J s σ H D I h;refine wpAny_execs_cons<|thn (h1 J s σ H {D with nx:=u D} I h) λf s1 q=>?_;cases f with
 |next =>let⟨R,d,c,q⟩:=q;exact U J s1 R d D c q
 |ret v=>exact q
 |brk=>exact q
 |cont=>exact q
def Inv.quiet{J:List (Í×Obj)}{σ:St}{H:Hp}{s:Æ}(I:Inv X J σ H s):interactive X.env=fM:=by simp[interactive,I.ok.kind]
abbrev Sg(te:TE):TS:=λD σ H=>te σ H λ_ I=>D.nx σ I
def GG(he:PE X e te)(U:μ e fK í.line X.env=pure fM:=by rfl):PS X (.Expr e í)<|Sg te:=by intro J s σ H D I h;exact wpAny_Expr_any (thn (he J s σ H _ I h) λv s1 ⟨x,d,c,r1,R⟩=>⟨σ,d,c,R⟩) I.quiet U
abbrev Tm(te:TE):TS:=λD σ H=>te σ H D.rt
def Qx(he:PE X e te):PS X (.Return (fJ e) í)<|Tm te:=by intro J s σ H D I h;exact wpAny_Return_some (thn (he J s σ H _ I h) λv s1 ⟨x,c,U,r1,R⟩=>⟨x,σ,c,U,r1,R⟩)
abbrev SO:TS:=λD _ H=>D.rt .non H
def ps_retN:PS X (.Return fK í) SO:=λ_ _ σ H _ I h=>wpAny_Return_none ⟨.non,σ,H,I,rfl,h⟩
abbrev TU(c:TT)(t u:TS):TS:=λD σ H=>c σ H λb I=>if b=fL then t D σ I else u D σ I
def Rx{c:Expr}{a b:List ľ}{R:TT}(i:PT X c R)(ha:PSs X a t)(hb:PSs X b u):PS X (.If c a b í)<|TU R t u:=by
 intro J s σ H D I h;refine wpAny_If<|thn (i J s σ H _ I h) λd s1 ⟨g,f,U⟩=>?_;cases d with
 |true=>exact ha J s1 σ g D f U
 |false=>exact hb J s1 σ g D f U
end
noncomputable abbrev TG:=V->St->Hp->(St->Hp->Prop)->Prop
noncomputable abbrev TGs:=List V->St->Hp->(St->Hp->Prop)->Prop
abbrev PG(X:Cx)(c:Expr)(t:TG):Prop :=
 ∀(J:List<|Í×Obj) (s:Æ) (σ:St) (H:Hp) (v:V) (u:Ã) (Q:St->Hp->Prop),Inv X J σ H s->RelV v u->t v σ H Q->
  wpAny ↥2 X.A (ο c X.env u) (λ_ U=>∃I R,Inv X J I R U/\Q I R) X.xe s
abbrev PGs(X:Cx)(ts:List Expr)(t:TGs):Prop :=
 ∀(J:List<|Í×Obj) (s:Æ) (σ:St) (H:Hp) (vs:List V) (us:List Ã) (Q:St->Hp->Prop),Inv X J σ H s->iu vs us->t vs σ H Q->
  wpAny ↥2 X.A (assignInOrder ((Ģ ts X.env).map (·.2)) us) (λ_ U=>∃I R,Inv X J I R U/\Q I R) X.xe s
noncomputable abbrev C9:=V->V->V->Hp->(Hp->Prop)->Prop
abbrev PSet(X:Cx)(t:C9):Prop :=
 ∀(I:List<|Í×Obj) (s:Æ) (σ:St) (H:Hp) (o i v:V) (ov iv u:Ã) (Q:Hp->Prop),Inv X I σ H s->RelV o ov->RelV i iv->RelV v u->t o i v H Q->
  wpAny ↥2 X.A (ϓ ov iv u) (λ_ R=>∃J,Inv X I σ J R/\Q J) X.xe s
noncomputable abbrev TIp:=V->V->Hp->VK->Prop
abbrev PIp(X:Cx)(op:Ϛ)(t:TIp):Prop :=
 ∀(I:List<|Í×Obj) (s:Æ) (σ:St) (H:Hp) (x y:V) (v u:Ã) (Q:VK),Inv X I σ H s->RelV x v->RelV y u->t x y H Q->
  wpAny ↥2 X.A (inplaceOp op v u) (EP X I σ Q) X.xe s
section
variable {í:Pos}
abbrev Lk(i:Nat):TG:=λv σ H Q=>Q (σ.set i<|fJ v) H
def Aq{i:Nat}{x:Str}(R:X.N.Nodup)(hi:X.N[i]?=fJ x)(J:Loc X.env.scope x)(hf:X.fn x=fL\/X.env.scope.names.lookup x=fJ .local:=by first|exact .inl rfl|exact .inr rfl|assumption):PG X (.Name x í)<|Lk i:=by intro c s σ H v u Q I r h;exact wpAny_assign_Name (EE I R hi J r (λd U=>⟨_,H,U,h⟩) hf)
abbrev Tr:TGs:=λI σ H Q=>I=[]/\Q σ H
abbrev Ri(t:TG)(u:TGs):TGs:=λJ σ H Q=>∃v r,J=v::r/\t v σ H λI R=>u r I R Q
def pgs_nil:PGs X [] Tr:=by intro J s σ H R us Q I r h;let⟨e,h⟩:=h;subst e;cases r;exact assignInOrder_nil ⟨σ,H,I,h⟩
variable {e:Expr}
def Km{t:TG}{u:TGs}(h1:PG X e t)(d:PGs X es u)
  (c:(Ģ (e::es) X.env).map (·.2)=ο e X.env::(Ģ es X.env).map (·.2):=by rfl):PGs X (e::es)<|Ri t u:=by
 intro R s σ H j us Q I r h;let⟨v,k,f,h⟩:=h;subst f;cases r with
 |cons r rr =>rw[c];refine assignInOrder_cons<|thn (h1 R s σ H _ _ _ I r h) λ_ s1 ⟨J,i,g,U⟩=>?_;exact d R s1 J i _ _ Q g rr U
abbrev TY(K:Frag)(n:Nat)(t:TGs):TG:=λv σ H Q=>∃a xs,v=.ref a/\ir K H a xs/\xs.length=n/\t xs σ H Q
def Fo{k:Nat}{n:Nat}(f:X.calm=fL)(h:PGs X es t)(hn:(Ģ es X.env).length=n:=by rfl)(U:(Ģ es X.env).findIdx? (·.1)=fK:=by rfl):PG X (.Tuple es k í)<|TY X.K n t:=by
 intro J s σ H v u Q I r hw;let⟨a,xs,i,d,hl,hw⟩:=hw;subst i;cases r;let⟨l,R,ht,m⟩:=I.tuple d;refine assign_Tuple_tuple (I.ok.hd f) ht (by simp[hn,<-hl,R.length]) U λg c=>?_;have j:Inv X J σ H {s with heap:=g}:=I.kept (t':=s.toks) λb o e=>c b o (ä<|Û e) e;exact h J _ σ H xs _ Q j ⇑R hw
abbrev RZ(to ti:TE)(t:C9):TG:=λv σ H Q=>to σ H λo R=>ti σ R λi J=>t o i v J λI=>Q σ I
variable {o:Expr}{i:Expr}
def LU(k:PE X o to)(hi:PE X i ti)(j:PSet X t)(ha:∀v,ο (.Subscript o i í) X.env v=(do
    let J<-Ĵ [v] (eval o X.env)
    let R<-Ĵ [v,J] (eval i X.env)
    Ψ í
    Ĵ [v,J,R] (ϓ J R v)
    cA [v,J,R] []):=by intro _;rfl):PG X (.Subscript o i í)<|RZ to ti t:=by
 intro U s σ H v u Q I r h;rw[ha];refine À<|Ă<|thn (k U s σ H _ I h) λJ s1 ⟨x,w,n,r1,g⟩=>?_;refine À<|Ă<|thn (hi U s1 σ w _ n g) λR s2 ⟨y,q,m,c,f⟩=>?_;refine À<|aI<|À<|Ă<|thn (j U s2 σ q x y v J R u _ m r1 c r f) λ_ s3 ⟨p,l,d⟩=>?_;exact wpAny_release ⟨σ,p,l,d⟩
abbrev RQ(I:TE)(g:TG):TS:=λD σ H=>I σ H λx J=>g x σ J D.nx
def UO(he:PE X e te)(d:PG X J g)(c:ŵ [J] e í.line X.env=pure fM:=by rfl)(hw:ϖ [J] e X.env=pure fK:=by rfl)(h1:(Ģ [J] X.env).map (·.2)=[ο J X.env]:=by rfl):PS X (.Assign [J] e í)<|RQ te g:=by
 intro R s σ H D I h;refine wpAny_Assign_stores (thn (he R s σ H _ I h) λv s1 ⟨x,j,f,r1,U⟩=>?_) c hw;rw[h1];exact thn (d R s1 σ j x v _ f r1 U) λ_ s2 q=>q
abbrev SS(to ti te:TE)(J:V->V->Hp->VK->Prop)(R:TIp)(I:C9):TS:=λD σ H=>to σ H λo j=>ti σ j λi g=>J o i g λx f=>te σ f λy d=>R x y d λz c=>I o i z c λU=>D.nx σ U
abbrev PGet(X:Cx)(t:V->V->Hp->VK->Prop):Prop :=
 ∀(I:List<|Í×Obj) (s:Æ) (σ:St) (H:Hp) (o i:V) (ov iv:Ã) (Q:VK),Inv X I σ H s->RelV o ov->RelV i iv->t o i H Q->
  wpAny ↥2 X.A (ϡ ov iv) (EP X I σ Q) X.xe s
def Gz(y:PE X o to)(hi:PE X i ti)(z:PGet X J)(he:PE X e te)(hp:PIp X op d)(w:PSet X tset)(ha:∀R U new,augStore i R U new=(do Ĵ [new,R,U] (ϓ R U new);cA [new,R,U] [];pure .next):=by intros;rfl):PS X (.AugAssign (.Subscript o i db) op e í)<|SS to ti te J d tset:=by
 intro c s σ H D I h;refine wpAny_AugAssign_SubscriptAny (thn (y c s σ H _ I h) λR s1 ⟨x1,H1,W,r1,t⟩=>?_) ha;refine thn (hi c s1 σ H1 _ W t) λU s2 ⟨x2,H2,O,f,r⟩=>?_;refine thn (z c s2 σ H2 x1 x2 R U _ O r1 f r) λg s3 ⟨x3,H3,M,l,q⟩=>?_;refine thn (he c s3 σ H3 _ M q) λv s4 ⟨x4,H4,G,k,p⟩=>?_;refine thn (hp c s4 σ H4 x3 x4 g v _ G l k p) λnew s5 ⟨x5,H5,F,j,n⟩=>?_;exact thn (w c s5 σ H5 x1 x2 x5 R U new _ F r1 f j n) λ_ s6 ⟨H6,C,m⟩=>⟨σ,H6,C,m⟩
end
structure It where
 go:Nat->Hp->Prop
 yld:Nat->Hp->V->Hp->Prop
 stop:Nat->Hp->Prop
abbrev WS(X:Cx)(I:List<|Í×Obj)(H:Hp)(b:Í):Prop :=
 H b=fK/\b≠X.env.locals/\b∉X.fs/\(b∈X.ex\/X.s₀.heap.objs.size<=b)/\(∀x c,X.env.cells.lookup x=fJ c->c≠b)/\∀p∈X.pn++I,p.1≠b
variable {s:Æ}
def Inv.fpOk{X:Cx}{J:List (Í×Obj)}{σ:St}{H H':Hp}{b:Í}(I:Inv X J σ H s)(hb:s.heap.objs.size<=b)(hn:H' b=fK):WS X J H' b:=by
 refine⟨hn,Ŕ<|å I.lt hb,I.nofs hb,.inr<|Ù I.sz hb,λx c e z=>?_,λp hp z=>?_⟩
 .obtain⟨v,q⟩:=I.cell x c e;exact iM (å q.lt<|by rw[z];exact hb)<|ħ _
 .exact iM (å (Û (I.pin p hp).1)<|by rw[z];exact hb)<|ħ _
structure Turn(P:æ)(w:û)(K:Frag)(tg:Expr)(J:It)(fp:List Í)(it:Í)(tn:Nat->Ĉ->Prop):Prop where
 mem:it∈fp
 obj:∀i h,tn i h->∀b∈fp,∃o,h.get? b=fJ o/\∀v,o.data≠.cell v
 keep:∀i h h',tn i h->(∀b∈fp,∀o,h.get? b=fJ o->h'.get? b=fJ o)->tn i h'
 item:∀(X:Cx),X.prog=P->X.w=w->X.K=K->X.calm=fL->∀(i:Nat) (Â:List<|Í×Obj) (s:Æ) (σ:St) (H:Hp) (E:Ã->Æ->Prop),Inv X Â σ H s->(∀b∈fp,WS X Â H b)->tn i s.heap->J.go i H->
  wpAny (â P w) X.A (Κ<|.ref it) (λr s1=>∃u,r=fJ u/\
    wpAny (â P w) X.A (Ϫ tg (.ref it) u) (λ_ s2=>∃x H',Inv X Â σ H' s2/\RelV x u/\J.yld i H x H'/\tn (i+1) s2.heap/\∀b∈fp,H' b=fK) E s1) E s
 done:∀(X:Cx),X.prog=P->X.w=w->X.K=K->X.calm=fL->∀(i:Nat) (Â:List<|Í×Obj) (s:Æ) (σ:St) (H:Hp) (E:Ã->Æ->Prop),Inv X Â σ H s->(∀b∈fp,WS X Â H b)->tn i s.heap->J.stop i H->
  wpAny (â P w) X.A (Κ<|.ref it) (λr s1=>r=fK/\Inv X Â σ H s1) E s
 self:∀(A:ċ) (i:Nat) (s:Æ) (Q:Ã->Æ->Prop) (E:Ã->Æ->Prop),tn i s.heap->Q (.ref it) s->wpAny (â P w) A (cN<|.ref it) Q E s
noncomputable abbrev TI:=St->Hp->(It->Hp->Prop)->Prop
abbrev PIE(X:Cx)(U:List<|Í×Obj)(σ:St)(d:Expr)(R:It->Hp->Prop)(I:Ã)(s2:Æ):Prop :=
 ∃(it:Í) (c:List Í) (tn:Nat->Ĉ->Prop) (J:It) (H':Hp),I=.ref it/\Inv X U σ H' s2/\Turn X.prog X.w X.K d J c it tn/\tn 0 s2.heap/\(∀b∈c,WS X U H' b)/\R J H'
abbrev PI(X:Cx)(U iter:Expr)(J:TI):Prop :=
 ∀(I:List<|Í×Obj) (s:Æ) (σ:St) (H:Hp) (R:It->Hp->Prop),Inv X I σ H s->J σ H R->
  wpAny ↥2 X.A (eval iter X.env) (λv s1=>wpAny ↥2 X.A (cN v) (PIE X I σ U R) X.xe s1) X.xe s
variable {tg:Expr}
def fR{M:Model}{A:ċ}{E:Ã->Æ->Prop}{it:Í}{o:Obj}{n:String}{vs:Array Ã}{Q:Unit->Æ->Prop}(J:s.heap.get? it=fJ o)(R:o.cls=.type n)(hd:o.data=.fields vs)
  (hn:["enumerate","zip","dict_itemiterator","dict_reverseitemiterator","odict_iterator","itertools.zip_longest","itertools.pairwise"].contains n=fM) (I:Q () s):wpAny M A (Ϫ tg (.ref it) u) Q E s:=by
 unfold Ϫ;cases tg<;>first
  |exact È I
  | (cases u<;>first
      |exact È I
      | (refine À (wpAny_load J ?_)
         rw[R,hd]
         show wpAny M A (if(["enumerate","zip","dict_itemiterator","dict_reverseitemiterator","odict_iterator","itertools.zip_longest","itertools.pairwise"].contains n&&vs[0]? == fJ (ģ _))=fL then _ else _) Q E s
         rw[iI<|by intro h;rw[hn,Bool.false_and]at h;cases h]
         exact È I))
abbrev Itl(K:Frag)(a:Í):It :=
 ⟨λi H=>∃xs x,iq K H a xs/\xs[i]?=fJ x,λi H x I=>I=H/\∀xs,iq K H a xs->xs[i]?=fJ x,λi H=>∃xs,iq K H a xs/\xs.length<=i⟩
abbrev Itt(K:Frag)(a:Í):It :=
 ⟨λi H=>∃xs x,ir K H a xs/\xs[i]?=fJ x,λi H x I=>I=H/\∀xs,ir K H a xs->xs[i]?=fJ x,λi H=>∃xs,ir K H a xs/\xs.length<=i⟩
abbrev Itr(lo:Int)(n:Nat):It:=⟨λi _=>i<n,λi H x I=>I=H/\x=.int (lo+i),λi _=>n<=i⟩
variable {P:æ}{w:û}
def Bc{K:Frag}(a it:Í):Turn P w K tg (Itl K a) [it] it (λi h=>h.IsListIter it a i) where
 mem:=by simp
 obj:=λi h st b hb=>by
  have e:b=it:=⇑hb
  subst e;let⟨o,e,c,d⟩:=st;exact⟨o,e,λv z=>by rw[d]at z;cases z⟩
 keep:=λi h R st k=>st.at λo e=>k it (by simp) o e
 item:=by walk_at "C";subst hP hw hK;let⟨xs,x,J,f⟩:=hg;let⟨l,U,p,q⟩:=I.list J;let⟨u,y,n⟩:=U.get f;let⟨f0,f1,f2,f3,f4,g⟩:=hf it (by simp);refine wpAny_pyNext_list_item st p.isList (x:=u) ⇑y λR j m=>?_;have F:Inv X Â σ H {s with heap:=R}:=I.turned (t':=s.toks) (λb o hb e=>(m.2 b hb).trans e) f0 f1 f3 f4 g;let⟨o,e,c,d⟩:=id j;exact⟨u,rfl,fR (s:={s with heap:=R}) e c d ↥1 ⟨x,H,F,n,⟨rfl,λG r=>by rw[I.list_inj r J];exact f⟩,j,λb hb=>(hf b hb).1⟩⟩
 done:=by walk_at "C";subst hP hw hK;let⟨xs,J,f⟩:=hg;let⟨l,U,p,q⟩:=I.list J;let⟨f0,f1,f2,f3,f4,g⟩:=hf it (by simp);have hl:=U.length;exact wpAny_pyNext_list_end (I.ok.hd hc) st p.isList (by simp;lia) λR C=>⟨rfl,I.turned (t':=s.toks) (λb o hb e=>C b o hb e) f0 f1 f3 f4 g⟩
 self:=λ_ _ _ _ _ st h=>wpAny_pyIter_listiter st h
def Uw{K:Frag}(a it:Í):Turn P w K tg (Itt K a) [it] it (λi h=>h.IsTupleIter it a i) where
 mem:=by simp
 obj:=λi h st b hb=>by
  have e:b=it:=⇑hb
  subst e;let⟨o,e,c,d⟩:=st;exact⟨o,e,λv z=>by rw[d]at z;cases z⟩
 keep:=λi h R st k=>st.at λo e=>k it (by simp) o e
 item:=by walk_at "C";subst hP hw hK;let⟨xs,x,J,g⟩:=hg;let⟨U,f,p,q⟩:=I.tuple J;let⟨u,y,n⟩:=f.get g;let⟨f0,f1,f2,f3,f4,j⟩:=hf it (by simp);refine wpAny_pyNext_tuple_item st (show s.heap.IsTuple a U.toArray from p) (x:=u) ⇑y λR l m=>?_;have F:Inv X Â σ H {s with heap:=R}:=I.turned (t':=s.toks) (λb o hb e=>(m.2 b hb).trans e) f0 f1 f3 f4 j;let⟨o,e,c,d⟩:=id l;exact⟨u,rfl,fR (s:={s with heap:=R}) e c d ↥1 ⟨x,H,F,n,⟨rfl,λG r=>by rw[I.tuple_inj r J];exact g⟩,l,λb hb=>(hf b hb).1⟩⟩
 done:=by walk_at "C";subst hP hw hK;let⟨xs,J,g⟩:=hg;let⟨U,f,p,q⟩:=I.tuple J;let⟨f0,f1,f2,f3,f4,j⟩:=hf it (by simp);have hl:=f.length;exact wpAny_pyNext_tuple_end (I.ok.hd hc) st (show s.heap.IsTuple a U.toArray from p) (by simp;lia) λR C=>⟨rfl,I.turned (t':=s.toks) (λb o hb e=>C b o hb e) f0 f1 f3 f4 j⟩
 self:=λ_ _ _ _ _ st h=>wpAny_pyIter_tupleiter st h
def O0{K:Frag}(it:Í)(lo:Int)(n:Nat):Turn P w K tg (Itr lo n) [it] it (λi h=>IsRangeIter h it (lo+(i:Nat)*1) ((n:Int) - (i:Nat)) 1) where
 mem:=by simp
 obj:=λi h st b hb=>by
  have e:b=it:=⇑hb
  subst e;exact⟨_,st,λv z=>by
    have d:Data.fields _=Data.cell v:=z
    cases d⟩
 keep:=λi h J st k=>k it (by simp) _ st
 item:=by walk_at "C";subst hP hw hK;let⟨f0,f1,f2,f3,f4,R⟩:=hf it (by simp);have W:=Walks.range (prog:=X.prog) (w:=X.w) (I.ok.hd hc) it lo 1 n;refine W.item i s _ _ hg st λv J U g c f=>?_;let⟨t,rfl⟩:=g;have l:Inv X Â σ H {s with heap:=J,toks:=U}:=I.turned (λb o hb e=>f b o ⇑hb e) f0 f1 f3 f4 R;refine⟨_,rfl,fR (s:={s with heap:=J,toks:=U}) (n:="range_iterator") c rfl rfl ↥1 ⟨.int<|lo+i,H,l,⟨t,?_⟩,⟨rfl,rfl⟩,c,λb hb=>(hf b hb).1⟩⟩;rw[dU]
 done:=by walk_at "C";subst hP hw hK;let⟨f0,f1,f2,f3,f4,R⟩:=hf it (by simp);exact wpAny_pyNext_range_end (I.ok.hd hc) st (by have:n<=i:=hg;lia) λJ j=>⟨rfl,I.turned (t':=s.toks) (λb o hb e=>j b o hb e) f0 f1 f3 f4 R⟩
 self:=λ_ _ _ _ _ st h=>wpAny_pyIter_rangeiter st h
section
variable {tg:Expr}
variable {σ:St}{H:Hp}{s:Æ}
def Ow{R:It->Hp->Prop}{E:Ã->Æ->Prop}{lo hi:Int}{t u v:Tok}{tk:Nat}(I:Inv X Â σ H s)(h1:-(2 ^ 62)<=lo)(d:lo<2 ^ 62)(c:-(2 ^ 62)<=hi)(U:hi<2 ^ 62)
  (q:R (Itr lo (hi - lo).toNat) H):wpAny ↥2 X.A (cN<|.ref s.heap.objs.size) (PIE X Â σ tg R) E {s with heap:=s.heap.push {cls:=.type "range",data:=.fields #[.int lo t,.int hi u,.int 1 v]},toks:=tk}:=by
 refine wpAny_pyIter_range (IsRange.new ..) (small_one h1 d c U) ?_;have J:Inv X Â σ H { s with heap:=s.heap.push { cls:=.type "range",data:=.fields #[.int lo t,.int hi u,.int 1 v] },toks:=tk }:=I.kept λb o e=>Ä _ e;refine⟨(s.heap.push { cls:=.type "range",data:=.fields #[.int lo t,.int hi u,.int 1 v] }).objs.size,[(s.heap.push { cls:=.type "range",data:=.fields #[.int lo t,.int hi u,.int 1 v] }).objs.size],_,_,H,rfl,
   J.kept (t':=tk) λb o e=>Ä _ e,O0 _ lo (hi - lo).toNat,?_,λb hb=>?_,q⟩
 .have g:lo+((0:Nat):Int)*1=lo:=by simp
  have f:(((hi - lo).toNat:Nat):Int) - ((0:Nat):Int)=Builtin.Range.rangeSize lo hi 1:=by rw[rangeSize_one];split<;>lia
  show IsRangeIter _ _ (lo+((0:Nat):Int)*1) ((((hi - lo).toNat:Nat):Int) - ((0:Nat):Int)) 1;rw[g,f];exact Ú _ rfl
 .have e:b=(s.heap.push {cls:=.type "range",data:=.fields #[.int lo t,.int hi u,.int 1 v]}).objs.size:=⇑hb
  subst e;exact J.fpOk (Ì _)<|J.hok.fresh<|Ì _
abbrev RS(J:TA):TI:=λσ H R=>J σ H λI U=>∃j:Int,I=[.int j]/\-(2 ^ 62)<=j/\j<2 ^ 62/\R (Itr 0 j.toNat) U
abbrev Sc(J:TA):TI:=λσ H R=>J σ H λI U=>∃i j:Int,I=[.int i,.int j]/\(-(2 ^ 62)<=i/\i<2 ^ 62/\-(2 ^ 62)<=j/\j<2 ^ 62)/\R (Itr i (j - i).toNat) U
variable {a:Expr}{p:Pos}{í:Pos}
def BO(d:Gl X "range")(hm:X.mg "range" = fK)(ha:PA X [a] ta)(c:Þ [a] X.env=[(fM,eval a X.env)]:=by rfl):PI X tg (.Call (.Name "range" p) [a] [] í)<|RS ta:=by
 intro Â s σ H R I h;refine Call_<|YQ I d hm boot_range<|PyProof.Rows.callWith_type1 (thn (ha í Â s σ H _ I h) λus s1 ⟨g,i,f,r1,J⟩=>?_) c rfl;let⟨j,e,J,U,q⟩:=J;subst e;cases r1 with
 |cons r rr =>cases rr;let⟨t,rfl⟩:=r;exact call_range_1 (Ow f ↥0 ↥0 J U<|by simpa using q)
def AW{b:Expr}(k:Gl X "range")(hm:X.mg "range" = fK)(ha:PA X [a,b] ta)(g:Þ [a,b] X.env=[(fM,eval a X.env),(fM,eval b X.env)]:=by rfl)(J:Þ [b] X.env=[(fM,eval b X.env)]:=by rfl) :
  PI X tg (.Call (.Name "range" p) [a,b] [] í) (Sc ta):=by
 intro Â s σ H R I h;refine Call_ (YQ I k hm boot_range<|PyProof.Rows.callWith_type1 (thn (ha í Â s σ H _ I h) λus s1 ⟨m,v,l,r1,U⟩=>?_) (by rw[g,J])<|by rw[J];rfl);let⟨i,j,e,⟨U,f,d,c⟩,q⟩:=U;subst e;cases r1 with
 |cons r rr =>
  cases rr with
  |cons r' rr =>cases rr;let⟨t,rfl⟩:=r;let⟨n,rfl⟩:=r';exact call_range_2<|Ow l U f d c q
abbrev To(d:TI)(g:TG)(tb:TS):TS:=λD σ H=>d σ H λJ f=>∃W:Nat->Nat->St->Hp->Prop,(∃m,W 0 m σ f)/\∀i m σ H,W i m σ H->
 (J.stop i H/\D.nx σ H)\/(J.go i H/\∃N:St->Hp->Prop,(∀U I,N U I->∃c,c<m/\W (i+1) c U I)/\∀x I,J.yld i H x I->g x σ I λR e=>tb {D with nx:=N,ct:=N,bk:=D.nx} R e)
abbrev We(fp:List Í)(h:Ĉ):List<|Í×Obj:=fp.filterMap λb=>(h.get? b).map λo=>(b,o)
variable {h:Ĉ}
def ZX{b:Í}{o:Obj}(hb:b∈fp)(e:h.get? b=fJ o):(b,o)∈We fp h:=ů.mpr ⟨b,hb,by rw[e];rfl⟩
def Mq{p:Í×Obj}(hp:p∈We fp h):p.1∈fp/\h.get? p.1=fJ p.2:=by
 let⟨b,hb,e⟩:=ů.mp hp;cases q:h.get? b with
 |none=>rw[q]at e;cases e
 |some o =>rw[q]at e;have I:(b,o)=p:=ë e;subst I;exact⟨hb,q⟩
def Inv.pinned(I:Inv X Â σ H s)(hf:∀b∈fp,WS X Â H b)(R:∀b∈fp,∃o,s.heap.get? b=fJ o/\∀v,o.data≠.cell v):Inv X (Â++We fp s.heap) σ H s :=
 I.pins_of λp hp=>(Ë.mp hp).elim (λz=>I.pin p<|Ç _ z) λz=>by let⟨hb,e⟩:=Mq z;let⟨f0,f1,f2,_⟩:=hf p.1 hb;let⟨o,J,d⟩:=R p.1 hb;rw[e]at J;cases J;exact⟨e,f0,f1,f2,d⟩
def Inv.unpinned(I:Inv X (Â++pl) σ H s):Inv X Â σ H s:=I.pins_of λp hp=>I.pin p (Ç _<|Ê _ hp)
def Dw{iter:Expr}(hp:ao ↥2 X.A X.env X.xe)(hc:X.calm=fL)(hi:PI X tg iter wi)(hg:PG X tg g)(hb:PSs X body tb)(hs:∀x,Ĝ iter X.env x=pure x:=by intro _;rfl):PS X (.For tg iter body [] í)<|To wi g tb:=by
 intro Â s σ H D I h;refine wpAny_For (thn (hi Â s σ H _ I h) λv s1 h1=>thn h1 λitv s2 h2=>?_) hs;let⟨it,fp,tn,J,H2,e,I2,T,M,f2,W,⟨m0,w0⟩,turn⟩:=h2;subst e;have U:∀{H':Hp},(∀b∈fp,H' b=fK)->∀b∈fp,WS X Â H' b:=λhn b hb=>⟨hn b hb,(f2 b hb).2⟩
 refine codeAny_forLoop_any (λn s'=>∃i t H',Inv X Â t H' s'/\tn i s'.heap/\(∀b∈fp,H' b=fK)/\W i n t H') ?_ m0 ⟨0,σ,H2,I2,M,λb hb=>(f2 b hb).1,w0⟩;rintro n s3 ⟨i,R,F,I3,y,C,w3⟩;rcases turn i n R F w3 with⟨stop,qn⟩|⟨go,N,hN,step⟩
 .refine Λ hp<|thn (T.done X rfl rfl rfl hc i Â s3 R F X.xe I3 (U C) y stop) λr s4 ⟨V,I4⟩=>?_;subst V;exact wpAny_execs_nil ⟨R,F,I4,qn⟩
 .refine Λ hp<|thn (T.item X rfl rfl rfl hc i Â s3 R F X.xe I3 (U C) y go) λr s4 ⟨u,V,h4⟩=>?_;subst V;refine Λ hp<|thn h4 λ_ s5 ⟨x,H5,I5,r5,y5,q,fr5⟩=>?_;have I5':=I5.pinned (U fr5)<|T.obj _ _ q;refine Λ hp<|thn (hg _ s5 R H5 x u _ I5' r5<|step x H5 y5) λ_ s6 ⟨G,H6,I6,q6⟩=>?_;refine Λ hp<|thn (hb _ s6 G H6 _ I6 q6) λf O l=>?_;have again:∀{c:St}{k:Hp},Inv X (Â++We fp s5.heap) c k O->N c k->∃m,m<n/\∃i t H',Inv X Â t H' O/\tn i O.heap/\(∀b∈fp,H' b=fK)/\W i m t H':=λ{c k} j z=>by
   let⟨m',hm,w7⟩:=hN c k z;refine⟨m',hm,i+1,c,k,j.unpinned,T.keep _ _ _ q λb hb o e=>(j.pin (b,o)<|Ç _<|Ç _<|ZX hb e).1,λb hb=>?_,w7⟩;let⟨o,e,d⟩:=T.obj _ _ q b hb;exact(j.pin (b,o)<|Ç _<|Ç _<|ZX hb e).2.1
  cases f with
  |next=>let⟨c,k,j,z⟩:=l;exact again j z
  |cont=>let⟨c,k,j,z⟩:=l;exact again j z
  |brk=>let⟨c,k,j,l⟩:=l;exact⟨c,k,j.unpinned,l⟩
  |ret v=>let⟨x7,c,k,j,r7,l⟩:=l;exact⟨x7,c,k,j.unpinned,r7,l⟩
end
noncomputable abbrev R2:=V->V->Hp->VK->Prop
abbrev OpR(X:Cx)(f:Ã->Ã->Sem Ã)(r:R2):Prop :=
 ∀(I:List<|Í×Obj) (s:Æ) (σ:St) (H:Hp) (x y:V) (v u:Ã) (Q:VK),Inv X I σ H s->RelV x v->RelV y u->r x y H Q->
  wpAny ↥2 X.A (f v u) (EP X I σ Q) X.xe s
abbrev UnR(X:Cx)(f:Ã->Sem Ã)(r:V->Hp->VK->Prop):Prop :=
 ∀(I:List<|Í×Obj) (s:Æ) (σ:St) (H:Hp) (x:V) (v:Ã) (Q:VK),Inv X I σ H s->RelV x v->r x H Q->
  wpAny ↥2 X.A (f v) (EP X I σ Q) X.xe s
abbrev fU(X:Cx)(f:Ã)(r:List V->Hp->VK->Prop):Prop :=
 ∀(I:List<|Í×Obj) (s:Æ) (σ:St) (H:Hp) (xs:List V) (us:List Ã) (Q:VK),Inv X I σ H s->iu xs us->r xs H Q->
  wpAny ↥2 X.A (call f us) (EP X I σ Q) X.xe s
abbrev Tp(X:Cx)(r:V->Hp->(Bool->Hp->Prop)->Prop):Prop :=
 ∀(I:List<|Í×Obj) (s:Æ) (σ:St) (H:Hp) (x:V) (v:Ã) (Q:Bool->Hp->Prop),Inv X I σ H s->RelV x v->r x H Q->
  wpAny ↥2 X.A (truthy v) (TP X I σ Q) X.xe s
abbrev tOp(r:R2)(I tb:TE):TE:=λσ H Q=>I σ H λx R=>tb σ R λy J=>r x y J Q
abbrev tUn(r:V->Hp->VK->Prop)(I:TE):TE:=λσ H Q=>I σ H λx J=>r x J Q
abbrev rI(C:Int->Int->Prop)(g:Int->Int->V):R2:=λx y H Q=>∃i j,x=.int i/\y=.int j/\C i j/\Q (g i j) H
abbrev rI0(g:Int->Int->V):R2:=λx y H Q=>∃i j,x=.int i/\y=.int j/\Q (g i j) H
abbrev rU(g:Int->V):V->Hp->VK->Prop:=λx H Q=>∃i,x=.int i/\Q (g i) H
section
variable {X:Cx}{a b c:Expr}{ta tb:TE}{í:Pos}
variable {f:Ã->Ã->Sem Ã}
def LM(ha:PE X a ta)(hb:PE X b tb){U:List (Í×Obj)}{s:Æ}{σ:St}{H:Hp}{R:V->V->Hp->Prop}(I:Inv X U σ H s)
  (h:ta σ H λx d=>tb σ d λy J=>R x y J){Q:Ã->Æ->Prop} 
  (hf:∀v u s2 x y J,Inv X U σ J s2->RelV x v->RelV y u->R x y J->wpAny ↥2 X.A (f v u) Q X.xe s2) :
  wpAny ↥2 X.A (eval a X.env) (λv e=>wpAny ↥2 X.A (eval b X.env) (λu k=>wpAny ↥2 X.A (f v u) Q X.xe k) X.xe e) X.xe s:=by
 refine thn (ha U s σ H _ I h) λv s1 ⟨x,d,m,r1,j⟩=>?_;refine thn (hb U s1 σ d _ m j) λu s2 ⟨y,J,l,g,i⟩=>?_;exact hf v u s2 x y J l r1 g i
def Sd(U:OpR X (Ŏ op) r)(ha:PE X a ta)(hb:PE X b tb):PE X (.BinOp a op b í)<|tOp r ta tb:=by walk_at "B";exact wpAny_BinOp (LM ha hb I h λv u s2 x y e d R J q=>U Â s2 σ e x y v u Q d R J q)
def SM(R:UnR X (unaryOp op) r)(ha:PE X a ta):PE X (.UnaryOp op a í)<|tUn r ta:=by walk_at "B";exact UnaryOp_ (thn (ha Â s σ H _ I h) λv s1 ⟨x,d,U,r1,J⟩=>R Â s1 σ d x v Q U r1 J)
variable {g:Int->Int->Int}
def opI(rule:∀(i j:Int) (t u:Tok) (s:Æ) (Q:Ã->Æ->Prop) (E:Ã->Æ->Prop),C i j->Q (.int (g i j) s.toks) {s with toks:=s.toks+1}->wpAny ↥2 X.A (f (.int i t)<|.int j u) Q E s) :
  OpR X f (rI C λi j=>.int<|g i j):=by
 walk_at "A";let⟨i,j,rfl,rfl,R,q⟩:=h;let⟨t,rfl⟩:=rx;let⟨J,rfl⟩:=ry;exact rule i j t J s _ _ R ⟨.int<|g i j,H,I.tok _,⟨_,rfl⟩,q⟩
def Ry(rule:∀(i j:Int) (t u:Tok) (s:Æ) (Q:Ã->Æ->Prop) (E:Ã->Æ->Prop),Q (.int (g i j) s.toks) {s with toks:=s.toks+1}->wpAny ↥2 X.A (f (.int i t)<|.int j u) Q E s) :
  OpR X f (rI0 λi j=>.int<|g i j):=by
 walk_at "A";let⟨i,j,rfl,rfl,q⟩:=h;let⟨t,rfl⟩:=rx;let⟨J,rfl⟩:=ry;exact rule i j t J s _ _ ⟨.int<|g i j,H,I.tok _,⟨_,rfl⟩,q⟩
def Hz{g:Int->Int->Bool}
  (rule:∀(i j:Int) (t u:Tok) (s:Æ) (Q:Ã->Æ->Prop) (E:Ã->Æ->Prop),Q (.bool<|g i j) s->wpAny ↥2 X.A (f (.int i t)<|.int j u) Q E s) :
  OpR X f (rI0 λi j=>.bl<|g i j):=by
 walk_at "A";let⟨i,j,rfl,rfl,q⟩:=h;let⟨t,rfl⟩:=rx;let⟨J,rfl⟩:=ry;exact rule i j t J s _ _ ⟨.bl<|g i j,H,I,rfl,q⟩
abbrev RT(i j:Int):Prop:=0<j/\j<1073741824
abbrev SZ(i j:Int):Prop:=0<=j/\j<=1000000/\i.natAbs<2 ^ 64
def op_add:OpR X (Ŏ .Add)<|rI0 λi j=>.int<|i+j:=Ry λ_ _ _ _ _ _ _ q=>add_int q
def QW:OpR X (Ŏ .Sub)<|rI0 λi j=>.int<|i - j:=Ry λ_ _ _ _ _ _ _ q=>sub_int q
def FO:OpR X (Ŏ .FloorDiv)<|rI RT λi j=>.int<|i / j:=opI λi j _ _ _ _ _ I q=>by have R:(0:Int)<j:=I.1;have J:j<1073741824:=I.2;exact floordiv_int ↥0 (by rw[Int.fdiv_eq_ediv_of_nonneg i<|by lia];exact q) (.inl<|PyProof.noPylong_small<|by lia)
def Qy:OpR X (Ŏ .Mod)<|rI (λ_ j=>0<j) λi j=>.int<|i % j:=opI λi j _ _ _ _ _ I q=>by have J:(0:Int)<j:=I;exact mod_int' ↥0 (by rw[Int.fmod_eq_emod_of_nonneg i<|by lia];exact q)
def PQ:OpR X (Ŏ .Pow)<|rI SZ λi j=>.int<|i ^ j.toNat:=opI λ_ _ _ _ _ _ _ I q=>pow_int_small I.1 I.2.1 I.2.2 q
def unI{f:Ã->Sem Ã}{g:Int->Int}
  (rule:∀(i:Int) (t:Tok) (s:Æ) (Q:Ã->Æ->Prop) (E:Ã->Æ->Prop),Q (.int (g i) s.toks) {s with toks:=s.toks+1}->wpAny ↥2 X.A (f<|.int i t) Q E s) :
  UnR X f (rU λi=>.int<|g i):=by
 intro R s σ H x v Q I J h;let⟨i,rfl,q⟩:=h;let⟨t,rfl⟩:=J;exact rule i t s _ _ ⟨.int<|g i,H,I.tok _,⟨_,rfl⟩,q⟩
def Qd:UnR X (unaryOp .USub)<|rU λi=>.int (-i):=unI λ_ _ _ _ _ q=>neg_int q
end
section
variable {a b c:Expr}{í:Pos}
def Pu{J:List (Í×Obj)}{σ:St}{H:Hp}{s:Æ}{Q:VK}{k R:Bool}(I:Inv X J σ H s)(q:Q (.bl k) H)(e:k=R):EP X J σ Q (.bool R) s:=by subst e;exact⟨.bl k,H,I,rfl,q⟩
def op_lt:OpR X (î .Lt)<|rI0 λi j=>.bl<|iN (i<j):=Hz λ_ _ _ _ _ _ _ q=>lt_int q
def Rg:OpR X (î .LtE)<|rI0 λi j=>.bl<|iN (i<=j):=Hz λ_ _ _ _ _ _ _ q=>le_int q
def op_gt:OpR X (î .Gt)<|rI0 λi j=>.bl<|iN (j<i):=Hz λ_ _ _ _ _ _ _ q=>gt_int q
def S2:OpR X (î .GtE)<|rI0 λi j=>.bl<|iN (j<=i):=Hz λ_ _ _ _ _ _ _ q=>ge_int q
def Cj:OpR X (î .In) λx y H Q=>∃i j,x=.str i/\y=.str j/\Q (.bl (!(Builtin.Str.occurrences j i 0 j.length 1).isEmpty)) H:=by walk_at "A";let⟨i,j,rfl,rfl,q⟩:=h;let⟨t,rfl⟩:=rx;let⟨J,rfl⟩:=ry;exact in_str (Pu I q rfl)
variable {r:R2}
def OpR.or(h:OpR X f r)(h':OpR X f r'):OpR X f λx y H Q=>r x y H Q\/r' x y H Q:=by
 intro J s σ H x y v u Q I U R q;rcases q with q|q
 .exact h J s σ H x y v u Q I U R q
 .exact h' J s σ H x y v u Q I U R q
def AQ(U:OpR X (î op) r)(ha:PE X a ta)(hb:PE X b tb)(hm:Ń op b=fM):PE X (.Compare a [op] [b] í)<|tOp r ta tb:=by walk_at "B";exact wpAny_Compare1 (LM ha hb I h λv u s2 x y e d R J q=>U Â s2 σ e x y v u Q d R J q) hm
abbrev Lh(t:TE):TT:=λσ H Q=>t σ H λx I=>∃k,x=.bl k/\Q k I
def AJ(g:OpR X (î op) r)(ha:PE X a ta)(hb:PE X b tb)(hm:Ń op b=fM):PT X (.Compare a [op] [b] í)<|Lh<|tOp r ta tb:=by
 walk_at "B";refine wpAny_isTrue_Compare1 (thn (ha Â s σ H _ I h) λv s1 ⟨x,p,l,r1,f⟩=>thn (hb Â s1 σ p _ l f) λu s2 ⟨y,n,j,R,d⟩ =>
   thn (g Â s2 σ n x y v u _ j r1 R d) λc s3 ⟨z,m,i,J,k,e,U⟩=>?_) hm
 subst e;cases J;exact ē ⟨m,i,U⟩
abbrev Ff(r r':R2)(ta tb tc:TE):TE:=λσ H Q=>ta σ H λx d=>tb σ d λy U=>r x y U λz I=>∃k,z=.bl k/\
 (if k=fL then tc σ I λJ R=>r' y J R Q else Q (.bl fM) I)
def CK(q:OpR X (î op) r)(C:OpR X (î eF) r')(ha:PE X a ta)(hb:PE X b tb)(t:PE X c tc)(hm:bJ [op,eF] [b,c]=fM:=by with_unfolding_all rfl):PE X (.Compare a [op,eF] [b,c] í)<|Ff r r' ta tb tc:=by
 walk_at "B";refine Compare_chain (thn (ha Â s σ H _ I h) λv s1 ⟨x,W,M,r1,p⟩=>chain_link (thn (hb Â s1 σ W _ M p) λu s2 ⟨y,V,G,J,n⟩ =>
   thn (q Â s2 σ V x y v u _ G r1 J n) λd s3 ⟨z,f,U,l,k,e,R⟩=>?_)) hm
 subst e;cases l;refine ē ?_;cases k with
 |false=>exact ite_ff ⟨.bl fM,f,U,rfl,R⟩
 |true=>exact ite_tt<|chain_last<|thn (t Â s3 σ f _ U R) λi s4 ⟨g,O,F,j,m⟩=>C Â s4 σ O y g u i Q F J j m
def Dh(G:OpR X (î op) r)(W:OpR X (î eF) r')(ha:PE X a ta)(hb:PE X b tb)(M:PE X c tc)(hm:bJ [op,eF] [b,c]=fM:=by with_unfolding_all rfl):PT X (.Compare a [op,eF] [b,c] í)<|Lh<|Ff r r' ta tb tc:=by
 walk_at "B";refine isTrue_chain (thn (ha Â s σ H _ I h) λv s1 ⟨x,H1,I1,r1,C⟩=>test_link (thn (hb Â s1 σ H1 _ I1 C) λu s2 ⟨y,H2,I2,J,t⟩ =>
   thn (G Â s2 σ H2 x y v u _ I2 r1 J t) λd s3 ⟨z,f,U,m,k,e,R⟩=>?_)) hm
 subst e;cases m;refine ē ?_;cases k with
 |false =>let⟨k',V,F⟩:=R;cases V;exact ite_ff ⟨f,U,F⟩
 |true =>refine ite_tt<|test_last<|thn (M Â s3 σ f _ U R) λi s4 ⟨g,H4,I4,l,p⟩=>thn (W Â s4 σ H4 y g u i _ I4 J l p) λd' s5 ⟨z2,H5,I5,j,k2,O,n⟩=>?_;subst O;cases j;exact ē ⟨H5,I5,n⟩
abbrev Rp(K:Frag)(x:V)(H:Hp)(k:Bool):Prop :=
 match x with
 |.non=>k=fM
 |.bl b=>k=b
 |.int i=>k=(i != 0)
 |.str y=>y.length<=à/\k=((y.length:Int) != 0)
 |.byt y=>y.size<=à/\k=((y.size:Int) != 0)
 |.ref p=>(∃xs,iq K H p xs/\k=!xs.isEmpty)\/(∃xs,ir K H p xs/\k=!xs.isEmpty)\/∃I,H p=fJ (.dK I)/\k=!I.isEmpty
 |_=>False
def O2{I:Type}{kvs:List (I×V)}{vs:List (I×Ã)}(r:KV kvs vs):(!vs.isEmpty)=!kvs.isEmpty:=by cases r<;>rfl
def JX(r:iu xs I):(!I.toArray.isEmpty)=!xs.isEmpty:=by cases r<;>simp
def Xj:(à:Nat)<2 ^ 63:=by rw[Ϲ];decide
def Lz:Tp X λx H Q=>∃k,Rp X.K x H k/\Q k H:=by
 intro n s σ H x v Q I U h;let⟨k,e,q⟩:=h;have hl:=Xj;have z:à=16777216:=Ϲ;cases x with
 |non =>cases U;have J:k=fM:=e;subst J;exact truthy_none ⟨H,I,q⟩
 |bl b =>cases U;have J:k=b:=e;subst J;exact ē ⟨H,I,q⟩
 |int i =>let⟨t,rfl⟩:=U;have J:k=(i != 0):=e;subst J;exact PySem.P.truthy_int ⟨H,I,q⟩
 |str y =>let⟨t,rfl⟩:=U;obtain⟨j,J⟩:y.length<=à/\k=((y.length:Int) != 0):=e;subst J;exact PySem.P.truthy_str ↥0 ⟨H,I.tok _,q⟩
 |byt y =>let⟨t,rfl⟩:=U;obtain⟨j,J⟩:y.size<=à/\k=((y.size:Int) != 0):=e;subst J;exact PySem.W.truthy_bytes ↥0 ⟨H,I.tok _,q⟩
 |ref p =>
  cases U;have J:(∃xs,iq X.K H p xs/\k=!xs.isEmpty)\/(∃xs,ir X.K H p xs/\k=!xs.isEmpty)\/∃R,H p=fJ (.dK R)/\k=!R.isEmpty:=e;rcases J with⟨xs,d,J⟩|⟨xs,d,J⟩|⟨R,d,J⟩
  .subst J;let⟨g,r,pl,f⟩:=I.list d;have hlen:=r.length;exact wpAny_truthy_list pl.isList (by simp![Î];lia) ⟨H,I.tok _,by rw[JX r];exact q⟩
  .subst J;let⟨g,r,pl,f⟩:=I.tuple d;have hlen:=r.length;exact truthy_tuple pl (by simp![Î];lia) ⟨H,I.tok _,by rw[JX r];exact q⟩
  .subst J;obtain⟨f,l,vs,r,m⟩:R.length<=à/\(p==ŗ)=fM/\∃vs,KV R vs/\s.heap.DictOf (Zf X.prog X.w) p vs:=I.hok p _ d;have hlen:R.length=vs.length:=Paired.length r;exact wpAny_truthy_dict l m ↥0 ⟨H,I.tok _,by rw[O2 r];exact q⟩
 |_=>exact(show False from e).elim
def Dq(ha:PE X a ta)(he:∀J,cM a X.env J=(do let v<-J;Ψ a.pos;Ĵ [v] (truthy v))) :
  PT X a (λσ H Q=>ta σ H λx H'=>∃k,Rp X.K x H' k/\Q k H'):=by
 walk_at "B";exact isTrue_plain (thn (ha Â s σ H _ I h) λv s1 ⟨x,d,U,r1,R⟩=>Lz Â s1 σ d x v Q U r1 R)<|he _
def O9:OpR X (Ŏ .Add) λx y H Q=>∃i j,x=.str i/\y=.str j/\i.length+j.length<=à/\Q (.str<|i++j) H:=by walk_at "A";let⟨i,j,rfl,rfl,R,q⟩:=h;let⟨t,rfl⟩:=rx;let⟨J,rfl⟩:=ry;exact add_str (λJ U=>⟨.str<|i++j,H,I.tok _,⟨_,rfl⟩,q⟩) R
variable {x:V}{us:List Ã}
def ZR(r:iu [x] us):∃u,us=[u]/\RelV x u:=by
 cases r with
 |cons r1 r2=>cases r2;exact⟨_,rfl,r1⟩
def U6(r:iu [x,y] us):∃u w',us=[u,w']/\RelV x u/\RelV y w':=by
 cases r with
 |cons r1 r2 =>
  cases r2 with
  |cons r3 r4=>cases r4;exact⟨_,_,rfl,r1,r3⟩
def BA(R:X.calm=fL):fU X (.builtin "max") λxs H Q=>∃i j,xs=[.int i,.int j]/\Q (.int<|if j > i then j else i) H:=by
 walk_at "D";let⟨i,j,rfl,q⟩:=h;let⟨u,U,rfl,⟨t,rfl⟩,⟨e,rfl⟩⟩:=U6 r;refine max_two_ints (I.ok.hd R) λf d k=>⟨_,H,I.kept k,?_,q⟩
 by_cases J:j > i
 .rw[iH J,iH J];exact⟨_,rfl⟩
 .rw[iI J,iI J];exact⟨_,rfl⟩
def Bq(R:X.calm=fL):fU X (.builtin "min") λxs H Q=>∃i j,xs=[.int i,.int j]/\Q (.int<|if j<i then j else i) H:=by
 walk_at "D";let⟨i,j,rfl,q⟩:=h;let⟨u,U,rfl,⟨t,rfl⟩,⟨e,rfl⟩⟩:=U6 r;refine min_two_ints (I.ok.hd R) λf d k=>⟨_,H,I.kept k,?_,q⟩
 by_cases J:j<i
 .rw[iH J,iH J];exact⟨_,rfl⟩
 .rw[iI J,iI J];exact⟨_,rfl⟩
def call_int1:fU X (.type "int") λxs H Q=>(∃i,xs=[.int i]/\Q (.int i) H)\/∃k,xs=[.bl k]/\Q (.int<|if k then 1 else 0) H:=by
 walk_at "D";rcases h with⟨i,rfl,q⟩|⟨k,rfl,q⟩
 .obtain⟨u,rfl,t,rfl⟩:=ZR r;exact call_int_int ⟨.int i,H,I,⟨_,rfl⟩,q⟩
 .obtain⟨u,rfl,r1⟩:=ZR r;cases r1;exact call_int_bool ⟨.int (if k then 1 else 0),H,I.tok _,⟨_,rfl⟩,q⟩
end
structure ObjM(h:Ĉ)(x dx C:Í)(mA:Str->Option Ã):Prop where
 obj:h.get? x=fJ (PySem.W.instObj C dx)
 ns:h.Ns1 dx mA
 ne:dx≠x
variable {h:Ĉ}{dx:Í}{mA:Str->Option Ã}
def BB(n:h.Ns1 dx mA):∃I,h.get? dx=fJ I/\∀name,PySem.W.lookIn name I=fJ (mA name):=by
 let⟨o,es,f,R,hd,U,_,hm⟩:=n;refine⟨o,R,λname=>?_⟩;have e:=hm name;unfold nsFind findBy at e;rw[<-Array.find?_toList]at e;unfold PySem.W.lookIn;rw[hd];dsimp only;split
 .rename_i y q;rw[q]at e;exact congrArg fJ e
 .rename_i q;rw[q]at e;have a:es.toList.any (·.refKey)=fM:=by
   rw[List.any_eq_false];intro y J;let⟨z,t,c⟩:=U y<|Array.mem_toList_iff.mp J;simp[DictEntry.refKey,c]
  have d:¬ es.toList.any (·.refKey)=fL:=by rw[a];exact ă
  rw[iI d];exact congrArg fJ e
variable {C:Í}
def ObjM.look{x:Í}(I:ObjM h x dx C mA):∃J,PySem.W.InstAt h x (PySem.W.instObj C dx) C (fJ J)/\∀name,PySem.W.lookIn name J=fJ (mA name) :=
 let ⟨J,R,hl⟩:=BB I.ns
 ⟨J,⟨I.obj,rfl,rfl,R⟩,hl⟩
section
variable {prog:æ}{w:û}{K:Frag}{x C f:Í}{name:Str}{v:Ã}
def Id(X:K.In s.heap)(I:ObjM s.heap x dx C mA)(d:PySem.W.plainGet K C name=fL)(c:PySem.W.hasDictIn K C=fL)(ha:PySem.W.findIn K (.ref C) name=fJ fK)(U:mA name=fJ v)(R:PySem.W.handedIn v=fL)(h:Q v {s with toks:=s.toks+1}) :
  wpAny (â prog w) A (getAttr (.ref x) name expr) Q E s:=by
 let⟨e,J,hl⟩:=I.look;exact PySem.W.get_value X J (PySem.W.plainGet_of d).1 (PySem.W.findObj_own c ha rfl<|by rw[hl,U]) R h
def Cm(X:K.In s.heap)(I:ObjM s.heap x dx C mA)(R:PySem.W.plainGet K C name=fL)(hf:PySem.W.findIn K (.ref C) name=fJ (fJ<|.ref f))(ht:PySem.W.isFn K (.ref f)=fL)(c:mA name=fK)(h:Q (.ref f,[.ref x]) s) :
  wpAny (â prog w) A (ϛ (.ref x) name pl) Q E s:=by
 let⟨U,J,hl⟩:=I.look;exact PySem.W.method_fn X J (PySem.W.plainGet_of R).1 (PySem.W.plainGet_of R).2 hf (beq_iff_eq.mp ht) (by show(PySem.W.lookIn name U).map (·.isSome)=fJ fM;rw[hl,c];rfl) h
def Gu(X:K.In s.heap)(I:ObjM s.heap x dx C mA)(j:PySem.W.findIn K (.ref C) "__setattr__" = fJ (fJ<|.builtin "object.__setattr__"))(hp:PySem.W.plainOver K C=fL)(ht:PySem.W.takerIn K C name=fJ fK)(k:PySem.W.hasDictIn K C=fL)(hw:PySem.Within mA ns)(hsz:ns.length<=à)(h:∀h',ObjM h' x dx C (λy=>if y=name then fJ v else mA y)->ź dx s.heap h'->Q () {s with heap:=h',toks:=s.toks+2}) :
  wpAny (â prog w) A (setAttr (.ref x) name v) Q E s:=by
 let⟨p,J,hl⟩:=I.look;refine PySem.W.set_plain X J j<|PySem.W.osa_open (s:={s with toks:=s.toks+1}) (r:=fK) X J hp ht λb=>?_;let⟨cd,l,e⟩:=PySem.W.any_some k;have i:s.heap.get? x=fJ ⟨.ref C,fJ dx,.plain,#[]⟩:=I.obj;refine À<|È<|À<|À<|wpAny_loadPart i<|À<|PySem.W.Looks.here (s:={s with toks:=s.toks+1}) (PySem.W.looks_clsIn X l) ?_;rw[e];refine È (a:=fJ dx)<|À<|È<|À ?_;refine wpAny_nsSet1 (s:={s with toks:=s.toks+1}) I.ns λh' U R=>?_;let⟨q,m,n,c,d,g⟩:=U.count<|PySem.Within.cons name v hw;refine À (wpAny_lookBehind c (by rw[d];exact pastItsLine_dict<|Ù g<|by rw[Ñ];lia) ?_);exact È<|h _ ⟨(R.2 _<|Ne.symm I.ne).trans I.obj,U,I.ne⟩ R
def Dz(X:K.In s.heap)(hm:PySem.W.makesIn K C=fL)(hi:PySem.W.findIn K (.ref C) "__init__" = fJ (fJ<|.ref f))(hf:PySem.W.typeIn K (.ref f)=fJ (.type "function"))(h:codeAny (â prog w) (A.under<|.builtin "type.__call__" ⟨.ref C::vs,kw⟩) (.call (.ref f) ⟨.ref (s.heap.objs.size+1)::vs,kw⟩) (PySem.W.InitBack (s.heap.objs.size+1) R)
    { s with heap:=(s.heap.push PySem.W.emptyDict).push (PySem.W.instObj C s.heap.objs.size) }) :
  codeAny (â prog w) A (.call (.ref C) ⟨vs,kw⟩) R s:=by
 let⟨I,g,d,t,os⟩:=s;exact PySem.W.make_core (PySem.W.makes_of X hm) (PySem.W.looks_findIn X hi) (λself=>PySem.W.bind_fn X self hf) (.inl rfl) h
end
abbrev f7(f:Str)(v:V):List (Str×V)->List (Str×V)
 |[]=>[(f,v)]
 |(g,x)::r=>if g=f then(g,v)::r else(g,x)::f7 f v r
def Jc(f g:Str)(v:V):∀fs:List<|Str×V,(f7 f v fs).lookup g=if g=f then fJ v else fs.lookup g
 |[]=>by
  show Β g [(f,v)]=_;by_cases h:g=f
  .have hb:(g==f)=fL:=beq_iff_eq.mpr h;simp![Β,hb,iH h]
  .have hb:(g==f)=fM:=beq_eq_false_iff_ne.mpr h;simp![Β,hb,iI h]
 |(k,x)::r=>by
  have J:=Jc f g v r;rw[show f7 f v ((k,x)::r)=(if k=f then(k,v)::r else(k,x)::f7 f v r) from rfl];by_cases I:k=f
  .rw[iH I];by_cases h:g=k
   .have hb:(g==k)=fL:=beq_iff_eq.mpr h;simp![Β,hb,iH<|h.trans I]
   .have hb:(g==k)=fM:=beq_eq_false_iff_ne.mpr h;simp![Β,hb,iI λe:g=f=>h<|e.trans I.symm]
  .rw[iI I];by_cases h:g=k
   .have hb:(g==k)=fL:=beq_iff_eq.mpr h;simp![Β,hb,iI λe:g=f=>I<|h.symm.trans e]
   .have hb:(g==k)=fM:=beq_eq_false_iff_ne.mpr h;simp![Β,hb];exact J
def WP(f:Str)(v:V):∀fs:List<|Str×V,f∈(f7 f v fs).map (·.1)/\∀g,g∈fs.map (·.1)->g∈(f7 f v fs).map (·.1)
 |[]=>⟨by simp[f7],λg h=>by simp at h⟩
 |(k,x)::r=>by
  let⟨R,J⟩:=WP f v r;rw[show f7 f v ((k,x)::r)=(if k=f then(k,v)::r else(k,x)::f7 f v r) from rfl];by_cases I:k=f
  .rw[iH I];subst I;exact⟨by simp,λg h=>⇑h⟩
  .rw[iI I];refine⟨?_,λg h=>?_⟩
   .rw[Ò];exact Ý _ R
   .rw[Ò]at h ⊢;rcases Å.mp h with e|e
    .exact Å.mpr<|.inl e
    .exact Ý _<|J g e
def Ja(f:Str)(v:V):∀fs:List<|Str×V,(f7 f v fs).length<=fs.length+1
 |[]=>by simp[f7]
 |(k,x)::r=>by
  have J:=Ja f v r;rw[show f7 f v ((k,x)::r)=(if k=f then(k,v)::r else(k,x)::f7 f v r) from rfl];by_cases I:k=f
  .rw[iH I,Ñ,Ñ];lia
  .rw[iI I,Ñ,Ñ];lia
variable {o:Option Ã}
def gK.some_of(r:gK (fJ v) o):∃u,o=fJ u/\RelV v u:=by
 cases o with
 |none=>exact(show False from r).elim
 |some u=>exact⟨u,rfl,r⟩
def gK.none_of(r:gK fK o):o=fK:=by
 cases o with
 |none=>rfl
 |some u=>exact(show False from r).elim
variable {u:Ã}
def BU(r:RelV v u):PySem.W.handedIn u=fL:=by
 cases v with
 |non=>cases (show u=Value.none from r);rfl
 |bl b=>cases (show u=Value.bool b from r);rfl
 |int i=>let⟨t,e⟩:=(show ∃t,u=Value.int i t from r);cases e;rfl
 |str x=>let⟨t,e⟩:=(show ∃t,u=Value.str x t from r);cases e;rfl
 |byt b=>let⟨t,e⟩:=(show ∃t,u=Value.bytes b t from r);cases e;rfl
 |flt b=>let⟨t,e⟩:=(show ∃t,u=Value.float b t from r);cases e;rfl
 |ref a=>cases (show u=Value.ref a from r);rfl
 |ty n=>cases (show u=Value.type n from r);rfl
section
variable {w:û}{h h':Ĉ}{a C dx:Í}{fs:List (Str×V)}
def Js(hok:HOk P w H h)(e:H a=fJ (.ins C dx fs)):∃mA,ObjM h a dx C mA/\(∀f,gK (fs.lookup f)<|mA f)/\PySem.Within mA (fs.map (·.1))/\fs.length<=1000/\H dx=fJ (.own a):=by
 let⟨d,z,ne,I,mA,n,r,q⟩:=(show fV P w H h a (.ins C dx fs) from hok a _ e)
 exact⟨mA,⟨I,n,ne⟩,r,q,z,d⟩
end
structure Cls(K:Frag)(C:Í):Prop where
 pg:PySem.W.plainGet K C Str.empty=fL
 hd:PySem.W.hasDictIn K C=fL
 po:PySem.W.plainOver K C=fL
 sa:PySem.W.findIn K (.ref C) "__setattr__" = fJ (fJ<|.builtin "object.__setattr__")
def Cls.get{K:Frag}(c:Cls K C)(f:Str):PySem.W.plainGet K C f=fL:=c.pg
abbrev NoAttr(K:Frag)(C:Í)(f:Str):Prop:=PySem.W.findIn K (.ref C) f=fJ fK
def NoAttr.taker{K:Frag}(n:NoAttr K C f):PySem.W.takerIn K C f=fJ fK:=by unfold PySem.W.takerIn;rw[show PySem.W.findIn K (.ref C) f=fJ fK from n];rfl
structure Meth(K:Frag)(C:Í)(m:Str)(f:Í):Prop where
 at_:PySem.W.findIn K (.ref C) m=fJ (fJ<|.ref f)
 fn:PySem.W.isFn K (.ref f)=fL
 kp:PySem.W.keepIn K (.ref f)=fL
section
variable {X:Cx}{Â:List (Í×Obj)}{σ:St}{H:Hp}{s:Æ}{a C dx:Í}{fs:List (Str×V)}{f:Str}{v:V}{A:ċ}
variable {Q:Ã->Æ->Prop}
def JV{b:Bool}(I:Inv X Â σ H s)(e:H a=fJ (.ins C dx fs))(c:Cls X.K C)(n:NoAttr X.K C f)(l:fs.lookup f=fJ v)(h:∀u J,Inv X Â σ H J->RelV v u->Q u J):wpAny ↥2 A (getAttr (.ref a) f b) Q E s:=by
 let⟨mA,O,r,_,_,_⟩:=Js I.hok e;let⟨u,U,R⟩:=gK.some_of (v:=v) (o:=mA f) (by rw[<-l];exact r f);exact Id I.kIn O (c.get f) c.hd n U (BU R)<|h u _ (I.tok _) R
def J6{m:Str}{g:Í}{pl:Sem Bool}{Q:Ã×List Ã->Æ->Prop}(I:Inv X Â σ H s)(e:H a=fJ (.ins C dx fs))(c:Cls X.K C)(k:Meth X.K C m g)(l:fs.lookup m=fK)
  (h:Q (.ref g,[.ref a]) s):wpAny ↥2 A (ϛ (.ref a) m pl) Q E s:=by
 let⟨mA,O,r,_,_,_⟩:=Js I.hok e;have hn:mA m=fK:=gK.none_of (by rw[<-l];exact r m);exact Cm I.kIn O (c.get m) k.at_ k.fn hn h
def JU{y:V}{Q:Unit->Æ->Prop}(I:Inv X Â σ H s)(e:H a=fJ (.ins C dx fs))(c:Cls X.K C)(n:NoAttr X.K C f)(hl:fs.length<1000)(j:RelV y u)
  (h:∀U,Inv X Â σ (upd H a<|.ins C dx<|f7 f y fs) U->Q () U):wpAny ↥2 A (setAttr (.ref a) f u) Q E s:=by
 let⟨mA,O,r,R,_,d⟩:=Js I.hok e;have k:(fs.map (·.1)).length<=à:=by rw[Á,Ϲ];lia
 refine Gu I.kIn O c.sa c.po n.taker c.hd R k λm J i=>h _ ?_;have hd:∃o,m.get? dx=fJ o:=let ⟨o,_,_,p,_⟩:=J.ns;⟨o,p⟩;refine I.write (x:=a) (e:=dx) (by rw[e];exact True.intro) (.inr d) (λb q hb z=>(i.2 b hb).trans z) hd ?_;refine⟨by rw[fN O.ne];exact d,?_,O.ne,J.obj,_,J.ns,λg=>?_,λg l=>?_⟩
 .have:=Ja f y fs;lia
 .show gK ((f7 f y fs).lookup g) (if g=f then fJ u else mA g);rw[Jc];by_cases q:g=f
  .rw[iH q,iH q];exact j
  .rw[iI q,iI q];exact r g
 .by_cases q:g=f
  .rw[q];exact(WP f y fs).1
  .refine(WP f y fs).2 g<|R g λz=>l ?_;show(if g=f then fJ u else mA g)=fK;rw[iI q];exact z
def Inv.made(I:Inv X Â σ H s):Inv X Â σ (upd (upd H s.heap.objs.size<|.own<|s.heap.objs.size+1) (s.heap.objs.size+1)<|.ins C s.heap.objs.size [])
  {s with heap:=(s.heap.push PySem.W.emptyDict).push (PySem.W.instObj C s.heap.objs.size)}:=by
 have J:(s.heap.push PySem.W.emptyDict).get? s.heap.objs.size=fJ PySem.W.emptyDict:=Ú s.heap rfl;have c:((s.heap.push PySem.W.emptyDict).push<|PySem.W.instObj C s.heap.objs.size).get? (s.heap.objs.size+1)=fJ (PySem.W.instObj C s.heap.objs.size):=by
  have:=Ú (s.heap.push PySem.W.emptyDict) (o:=PySem.W.instObj C s.heap.objs.size) rfl
  rwa [Ż]at this
 have U:(s.heap.push PySem.W.emptyDict).Ns s.heap.objs.size λ_=>fK:=⟨PySem.W.emptyDict,#[],_,J,rfl,(λe he=>iM he<|by simp),λ_=>rfl⟩
 have d:=I.laid (a:=s.heap.objs.size) (o:=.own<|s.heap.objs.size+1) (h':=s.heap.push PySem.W.emptyDict) (t':=s.toks) (λb u q=>Ä _ q) (Ì _) ⟨_,J⟩;refine d.laid (a:=s.heap.objs.size+1) (o:=.ins C s.heap.objs.size []) (t':=s.toks) (λb u q=>Ä _ q) (Nat.le_of_eq<|Ż _ _) ?_;have ne:s.heap.objs.size≠s.heap.objs.size+1:=ä<|İ _;refine⟨by rw[fN ne,fO],ė _,ne,c,λ_=>fK,(Heap.Ns1.of_empty U).at λo q=>Ä _ q,λ_=>True.intro,λy R=>iM rfl R⟩
def FH(hb:Ġ e f env (eval e env)=eval e env)(h:wpAny (â prog w) A (eval e env) (λo I=>wpAny (â prog w) A (getAttr o f fL) Q E I) E s):wpAny (â prog w) A (eval (.Attribute e f J) env) Q E s :=
 Attribute_any_ h (by rw[arm_eval_Attribute,hb])
end
abbrev TQ(K:Frag)(J:TE)(f:Str):TE:=λσ H Q=>J σ H λx I=>∃a C dx fs v,x=.ref a/\I a=fJ (.ins C dx fs)/\Cls K C/\NoAttr K C f/\fs.lookup f=fJ v/\Q v I
abbrev Tf(K:Frag)(R J:TE)(f:Str):TS:=λD σ H=>J σ H λy U=>R σ U λx I=>∃a C dx fs,x=.ref a/\I a=fJ (.ins C dx fs)/\Cls K C/\NoAttr K C f/\fs.length<1000/\
 D.nx σ (upd I a<|.ins C dx<|f7 f y fs)
abbrev Cr(X:Cx)(op:Ϛ)(rd:V->V->Hp->VK->Prop):Prop :=
 ∀(I:List<|Í×Obj) (s:Æ) (σ:St) (H:Hp) (x y:V) (u v:Ã) (Q:VK),Inv X I σ H s->RelV x u->RelV y v->rd x y H Q->wpAny ↥2 X.A (inplaceOp op u v) (EP X I σ Q) X.xe s
abbrev F9(K:Frag)(d c:TE)(rd:V->V->Hp->VK->Prop)(f:Str):TS:=λD σ H=>d σ H λx U=>∃a C dx fs v,x=.ref a/\U a=fJ (.ins C dx fs)/\Cls K C/\NoAttr K C f/\fs.lookup f=fJ v/\
 c σ U λy e=>rd v y e λz R=>∃J I,R a=fJ (.ins C J I)/\I.length<1000/\D.nx σ (upd R a<|.ins C J<|f7 f z I)
section
variable {o e Θ:Expr}{f:Str}{í bP db:Pos}{ta:TE}
def Ly(he:PE X e ta)(hb:Ġ e f X.env (eval e X.env)=eval e X.env):PE X (.Attribute e f í)<|TQ X.K ta f:=by walk_at "B";refine FH hb<|thn (he Â s σ H _ I h) λu s1 ⟨x,i,g,J,a,C,dx,fs,v,ex,U,c,n,l,q⟩=>?_;subst ex;obtain rfl:u=Value.ref a:=J;exact JV g U c n l λj s2 d R=>⟨v,i,d,R,q⟩
def L1(ha:PE X o ta)(i:PE X Θ tv)(j:μ Θ (fJ<|.Attribute o f bP) í.line X.env=pure fM):PS X (.Assign [.Attribute o f bP] Θ í)<|Tf X.K ta tv f:=by intro J s σ H D I h;refine plainObj_wpAny_Assign_Attribute (thn (i J s σ H _ I h) λu s1 ⟨y,t,r,R,q⟩=>thn (ha J s1 σ t _ r q) λg s2 ⟨x,v,p,U,a,C,dx,fs,ex,k,c,n,l,d⟩=>?_) j;subst ex;obtain rfl:g=Value.ref a:=U;exact JU p k c n l R λs3 m=>⟨σ,_,m,d⟩
def Ce(ha:PE X o ta)(F:PE X Θ tv)(R:Cr X op rd):PS X (.AugAssign (.Attribute o f db) op Θ í)<|F9 X.K ta tv rd f:=by intro J s σ H D I h;refine wpAny_AugAssign_AttributeAny<|thn (ha J s σ H _ I h) λr s1 ⟨x,H1,I1,j,a,C,dx,fs,v,ex,M,c,n,l,q⟩=>?_;subst ex;obtain rfl:r=Value.ref a:=j;refine JV I1 M c n l λu s2 I2 k=>thn (F J s2 σ H1 _ I2 q) λd s3 ⟨y,H2,I3,i,p⟩=>thn (R J s3 σ H2 v y u d _ I3 k i p) λw4 s4 ⟨z,H3,I4,g,O,G,U,t,m⟩=>?_;exact JU I4 U c n t g λs5 W=>⟨σ,_,W,m⟩
abbrev TL:V->V->Hp->VK->Prop:=λx y H Q=>∃i j,x=.int i/\y=.int j/\Q (.int<|i+j) H
abbrev Tl:V->V->Hp->VK->Prop:=λx y H Q=>∃i j,x=.int i/\y=.int j/\Q (.int<|i - j) H
def Pd:Cr X .Add TL:=by
 rintro c s σ H x y u v Q I U R ⟨i,j,rfl,rfl,q⟩;let⟨t,rfl⟩:=(show ∃t,u=Value.int i t from U)
 let⟨J,rfl⟩:=(show ∃J,v=Value.int j J from R)
 exact PyProof.Rows.iadd_int ⟨.int<|i+j,H,I.tok _,⟨_,rfl⟩,q⟩
def Pc:Cr X .Sub Tl:=by
 rintro c s σ H x y u v Q I U R ⟨i,j,rfl,rfl,q⟩;let⟨t,rfl⟩:=(show ∃t,u=Value.int i t from U)
 let⟨J,rfl⟩:=(show ∃J,v=Value.int j J from R)
 exact PyProof.Rows.isub_int ⟨.int<|i - j,H,I.tok _,⟨_,rfl⟩,q⟩
end
section
variable {X:Cx}{Â:List (Í×Obj)}{σ:St}{H:Hp}{s:Æ}{A:ċ}{E:Ã->Æ->Prop}{Q:Ã->Æ->Prop}{c:Ã}{b:Bool}
inductive ij (K:Frag) (H:Hp):V->Ã->Prop where
 |non:ij K H .non<|.type "NoneType"
 |bl (x:Bool):ij K H (.bl x)<|.type "bool"
 |int (i:Int):ij K H (.int i)<|.type "int"
 |str (x:Str):ij K H (.str x)<|.type "str"
 |flt (x:UInt64):ij K H (.flt x)<|.type "float"
 |lst {a:Í}{xs:List V}(e:H a=fJ (.lst xs)):ij K H (.ref a)<|.type "list"
 |frz {a:Í}{o:Obj}{xs:List V}(e:H a=fJ (.frz o<|.lst xs)):ij K H (.ref a)<|.type "list"
 |tup {a:Í}{xs:List V}(e:H a=fJ (.tup xs)):ij K H (.ref a)<|.type "tuple"
 |dK {a:Í}{kvs:List (Key×V)}(e:H a=fJ (.dK kvs)):ij K H (.ref a)<|.type "dict"
 |dT {a:Í}{kvs:List (List Key×V)}(e:H a=fJ (.dT kvs)):ij K H (.ref a)<|.type "dict"
 |ins {a C dx:Í}{fs:List (Str×V)}(e:H a=fJ (.ins C dx fs)) (cl:Cls K C) (ha:PySem.W.findIn K (.ref C) "__class__" = fJ (fJ<|.builtin "object.__class__"))
   (hn:PySem.W.specialIn K (.builtin "object.__class__") "__get__" = fJ (fJ<|.builtin "getset_descriptor.__get__")) (htk:PySem.W.takesIn K (.builtin "object.__class__")=fJ fL)
   (hm:PySem.W.mroIn K C (.type "object")=fJ fL):ij K H (.ref a)<|.ref C
def Bw(I:Inv X Â σ H s)(R:RelV x u)(ty:ij X.K H x t)(e:PySem.W.kitOne X.K t c=fJ b)(h:∀tk,Q (.bool b) {s with toks:=tk}) :
  wpAny ↥2 A (call (.builtin "isinstance") [u,c]) Q E s:=by
 cases ty with
 |non=>cases (show u=Value.none from R);exact PySem.W.kia_one PySem.W.kitx_none I.kIn True.intro e (λz=>nomatch z) h
 |bl y=>cases (show u=Value.bool y from R);exact PySem.W.kia_one PySem.W.kitx_bool I.kIn True.intro e (λz=>nomatch z) h
 |int i=>let⟨t,q⟩:=(show ∃t,u=Value.int i t from R);cases q;exact PySem.W.kia_one PySem.W.kitx_int I.kIn True.intro e (λz=>nomatch z) h
 |str y=>let⟨t,q⟩:=(show ∃t,u=Value.str y t from R);cases q;exact PySem.W.kia_one PySem.W.kitx_str I.kIn True.intro e (λz=>nomatch z) h
 |flt y=>let⟨t,q⟩:=(show ∃t,u=Value.float y t from R);cases q;exact PySem.W.kia_one PySem.W.kitx_float I.kIn True.intro e (λz=>nomatch z) h
 |@lst a xs ea =>
  cases (show u=Value.ref a from R);let⟨_,_,n,_,U⟩:=(show fV X.prog X.w H s.heap a (.lst xs) from I.hok a _ ea)
  exact PySem.W.kia_one PySem.W.kitx_list I.kIn ⟨_,U,rfl⟩ e (λz=>nomatch z) h
 |@frz a ob xs ea =>
  cases (show u=Value.ref a from R);let⟨_,_,_,n,_,U⟩:=(show fV X.prog X.w H s.heap a (.frz ob<|.lst xs) from I.hok a _ ea)
  exact PySem.W.kia_one PySem.W.kitx_list I.kIn ⟨_,U,rfl⟩ e (λz=>nomatch z) h
 |@tup a xs ea =>
  cases (show u=Value.ref a from R);let⟨_,_,_,p⟩:=(show fV X.prog X.w H s.heap a (.tup xs) from I.hok a _ ea)
  let⟨o,U,d,_⟩:=p;exact PySem.W.kia_one PySem.W.kitx_tuple I.kIn ⟨o,U,d⟩ e (λz=>nomatch z) h
 |@dK a kvs ea =>
  cases (show u=Value.ref a from R);let⟨_,_,g,_,p⟩:=(show fV X.prog X.w H s.heap a (.dK kvs) from I.hok a _ ea)
  let⟨o,es,f,U,d,_⟩:=p;exact PySem.W.kia_one PySem.W.kitx_dict I.kIn ⟨o,U,d.1⟩ e (λz=>nomatch z) h
 |@dT a kvs ea =>
  cases (show u=Value.ref a from R);let⟨_,_,xs,_,o,es,f,U,d,_⟩:=(show fV X.prog X.w H s.heap a (.dT kvs) from I.hok a _ ea)
  exact PySem.W.kia_one PySem.W.kitx_dict I.kIn ⟨o,U,d.1⟩ e (λz=>nomatch z) h
 |@ins a C dx fs ea cl ha hn htk hm =>cases (show u=Value.ref a from R);let⟨mA,O,_⟩:=Js I.hok ea;let⟨j,J,_⟩:=O.look;exact PySem.W.kia_one (PySem.W.kitx_own (cl.get _) cl.hd ha hn htk hm) I.kIn J e (λz=>nomatch z) h
end
structure gL(k:Nat)(A:ċ):Prop where
 hd:A.handled=fK
 dp:A.depth+3*k+5<recursionLimit
 un:A.units+16*k+200<Ī
variable {A:ċ}
def gL.mono(r:gL k A)(h:j<=k):gL j A:=⟨r.hd,by have:=r.dp;lia,by have:=r.un;lia⟩
def gL.deeper(r:gL (k+1) A)(env:Env):gL k (A.deeper env) :=
 ⟨r.hd,by have:=r.dp;show A.depth+1+3*k+5<_;lia,by have:=r.un;show A.units+3+16*k+200<_;lia⟩
variable {C:Í}{us:List Ã}{kw:List (Str×Ã)}
def Ul:(A.under<|.builtin "type.__call__" ⟨.ref C::us,kw⟩).depth=A.depth+1:=by
 first|rfl|simp[bU,Code.weight,Code.isCreation,Code.isGuard,Code.isCaller,Code.frames,cD,guardIds]
def O6:(A.under<|.builtin "type.__call__" ⟨.ref C::us,kw⟩).units=A.units+1:=by
 first|rfl|simp[bU,Code.cUnits,Code.frames,cD]
def gL.make(r:gL (k+1) A)(C:Í)(us:List Ã)(kw:List<|Str×Ã):gL k (A.under<|.builtin "type.__call__" ⟨.ref C::us,kw⟩) :=
 ⟨r.hd,by have:=r.dp;rw[Ul];lia,by have:=r.un;rw[O6];lia⟩
def gL.depth(r:gL k A):A.depth<recursionLimit:=by have:=r.dp;lia
abbrev FX:TA:=λ_ H Q=>Q [] H
abbrev Ls(J:TE)(I:TA):TA:=λσ H Q=>J σ H λx U=>I σ U λxs R=>Q (x::xs) R
section
variable {X:Cx}{e:Expr}{es:List Expr}{t:TA}{í:Pos}
def im:PA X [] FX:=λ_ _ _ _ H Q I h=>Calls.spliced_nil ⟨[],H,I,.nil,h⟩
def ZK(ha:PE X e te)(f:PA X es t)(d:Þ (e::es) X.env=(fM,eval e X.env)::Þ es X.env:=by rfl):PA X (e::es)<|Ls te t:=by intro í J s σ H Q I h;rw[d];show wpAny _ _ (spliced<|(fM,eval e X.env)::ğ í (Þ es X.env)) _ _ s;refine Calls.spliced_cons<|thn (ha J s σ H _ I h) λu s1 ⟨x,k,i,r1,c⟩=>?_;exact thn (f í J s1 σ k _ i c) λus s2 ⟨xs,j,g,R,U⟩=>⟨x::xs,j,g,.cons r1 R,U⟩
abbrev TW(t:TA):TE:=λσ H Q=>t σ H λxs I=>xs.length<=à/\∀p,I p=fK->Q (.ref p) (upd I p<|.tup xs)
abbrev TK(t:TA):TE:=λσ H Q=>t σ H λxs I=>xs.length<=à/\∀p,I p=fK->Q (.ref p) (upd I p<|.lst xs)
def PU{x1}(h:PA X es t):PE X (.Tuple es x1 í)<|TW t:=by intro U s σ H Q I c;refine wpAny_Tuple_spliced (thn (h í U s σ H _ I c) λus s1 ⟨xs,R,J,r,z,q⟩=>⟨by rw[<-r.length];exact z,?_⟩);have hf:R s1.heap.objs.size=fK:=J.hok.fresh<|Ì _;refine⟨.ref s1.heap.objs.size,upd R s1.heap.objs.size<|.tup xs,J.laid (t':=s1.toks) (λb u e=>Ä _ e) (Ì _) ?_,rfl,q _ hf⟩;exact⟨z,us,r,⟨_,Ú _ rfl,rfl,_,rfl⟩⟩
def PP(h:PA X es t):PE X (.List es í)<|TK t:=by intro U s σ H Q I c;refine wpAny_List_spliced (thn (h í U s σ H _ I c) λus s1 ⟨xs,R,J,r,z,q⟩=>⟨by rw[<-r.length];exact z,?_⟩);have hf:R s1.heap.objs.size=fK:=J.hok.fresh<|Ì _;refine⟨.ref s1.heap.objs.size,upd R s1.heap.objs.size<|.lst xs,J.laid (t':=s1.toks) (λb u e=>Ä _ e) (Ì _) ?_,rfl,q _ hf⟩;exact⟨z,us,0,r,Ú _ rfl⟩
end
noncomputable abbrev Sp:=List V->Hp->VK->XK->Prop
noncomputable abbrev CXT:=List Env->Hp->Æ->XK->Ã->Æ->Prop
structure Env0(P:æ)(w:û)(K:Frag)(mg:Str->Option Ã)(base:Ĉ)(A:ċ)(outer:List Env)(s:Æ)(H:Hp):Prop where
 frames:A.frames=fJ outer
 mod:Mod K mg base
 bs:∀b o,base.get? b=fJ o->s.heap.get? b=fJ o/\H b=fK
 bsz:base.objs.size<=s.heap.objs.size
 funs:s.heap.FunFrames base outer
 frf:∀b∈frs outer,H b=fK
 hok:HOk P w H s.heap
 bare:ϑ s.gens
abbrev CE(outer:List Env)(P:æ)(w:û)(H:Hp)(s:Æ)(Q:VK)(u:Ã)(I:Æ):Prop :=
 ∃v J,I.os=s.os/\ϑ I.gens/\Un (frs outer) [] H J s.heap I.heap/\HOk P w J I.heap/\RelV v u/\Q v J
abbrev CR(CX:CXT)(outer:List Env)(P:æ)(w:û)(H:Hp)(s:Æ)(Q:VK)(E:XK)(r:aN)(I:Æ):Prop :=
 match r with
 |.ok (.ret u)=>CE outer P w H s Q u I
 |.ok _=>False
 |.error e=>CX outer H s E e I
structure gN(P:æ)(w:û)(K:Frag)(mg:Str->Option Ã)(base:Ĉ)(CX:CXT)(k:Nat)(f:Í)(fd:ŏ)(ps:List Str)(sp:Sp):Prop where
 len:∀vs H Q E,sp vs H Q E->vs.length=ps.length
 run:∀(A:ċ) (outer:List Env) (s:Æ) (H:Hp) (args:Args) (us:List Ã) (vs:List V) (Q:VK) (E:XK),gL k A->Env0 P w K mg base A outer s H->BindsTo s fd args (ps.zip us)->iu vs us->sp vs H Q E->
  codeAny (â P w) A (.call (.ref f) args) (CR CX outer P w H s Q E) s
variable {w:û}{mg:Str->Option Ã}{base:Ĉ}{s:Æ}{H:Hp}
def Env0.make{K:Frag}(e:Env0 P w K mg base A outer s H)(C:Í)(us:List Ã)(kw:List<|Str×Ã) :
  Env0 P w K mg base (A.under<|.builtin "type.__call__" ⟨.ref C::us,kw⟩) outer s H:=⟨by first|exact e.frames|(simpa[bU,Code.envs,cD,pushEnvs]using e.frames),e.mod,e.bs,e.bsz,e.funs,e.frf,e.hok,e.bare⟩
section
variable {X:Cx}{Â:List (Í×Obj)}{σ:St}{H:Hp}{s s':Æ}
def Inv.env0(I:Inv X Â σ H s):Env0 X.prog X.w X.K X.mg X.base X.A X.stack s H :=
 ⟨I.ok.frames,I.ok.mod,I.bs,Ù I.ok.bsz I.sz,I.stack,I.stkFree,I.hok,I.bare⟩
def Inv.after(I:Inv X Â σ H s)(h:CE X.stack X.prog X.w H s Q u s'):EP X Â σ Q u s':=by let⟨v,U,os,bare,un,hok,r,q⟩:=h;let⟨R,g,d,t,J⟩:=s';obtain rfl:J=s.os:=os;exact⟨v,U,I.call (h':=R) (g':=g) (d':=d) (t':=t) (ch:=[]) un hok bare λb z=>iM z<|by simp,r,q⟩
end
abbrev Lr(sp:Sp)(J:List V)(E:XK)(t:TA):TE:=λσ H Q=>t σ H λI R=>sp (I++J) R Q E
abbrev Lw(C:Í)(m:Str)(sp:Sp)(U:List V)(E:XK)(R:TE)(t:TA):TE:=λσ H Q=>R σ H λx I=>∃a dx fs,x=.ref a/\I a=fJ (.ins C dx fs)/\fs.lookup m=fK/\
 t σ I λJ c=>sp (x::(J++U)) c Q E
abbrev RM(C:Í)(sp:Sp)(R:List V)(E:XK)(t:TA):TE:=λσ H Q=>t σ H λJ I=>∀x dx,I x=fK->I dx=fK->dx≠x->
 sp (.ref x::(J++R)) (upd (upd I dx<|.own x) x<|.ins C dx []) (λv U=>v=.non/\Q (.ref x) U) E
abbrev Binds(K:Frag)(fd:ŏ)(ps:List Str)(ds:List Ã):Prop :=
 ∀(s:Æ) (us:List Ã),K.In s.heap->(us++ds).length=ps.length->BindsTo s fd ⟨us,[]⟩ (ps.zip<|us++ds)
variable {ps:List Str}
def Binds.all{K:Frag}(h:∀us:List Ã,us.length=ps.length->bindArgs fd ⟨us,[]⟩=pure (ps.zip us)):Binds K fd ps []:=λs us _ hl=>by rw[ì]at hl ⊢;exact .of_eq (h us hl)
abbrev Xz(CX:CXT)(X:Cx)(E:XK):Prop:=∀(I:List<|Í×Obj) (σ:St) (H:Hp) (s:Æ) (e:Ã) (s':Æ),Inv X I σ H s->CX X.stack H s E e s'->X.xe e s'
section
variable {X:Cx}{CX:CXT}{k:Nat}{f C:Í}{fd:ŏ}{ps:List Str}{sp:Sp}{aV:List V}{ds:List Ã}{E:XK}{x m:Str}{p í Ő:Pos}{e o:Expr}{es:List Expr}{ta:TE}{t:TA}
variable {Â:List (Í×Obj)}{σ:St}{Q:VK}{vs:List V}
def MJ(F:gN X.prog X.w X.K X.mg X.base CX k f fd ps sp)(d:gL k X.A)(hb:Binds X.K fd ps ds)(hd:iu aV ds)(c:Xz CX X E)(I:Inv X Â σ H s)(r:iu vs us)(h:sp (vs++aV) H Q E):wpAny ↥2 X.A (call (.ref f) us) (EP X Â σ Q) X.xe s:=by
 have R:iu (vs++aV)<|us++ds:=r.append hd;have hl:(us++ds).length=ps.length:=by rw[<-R.length];exact F.len _ _ _ _ h
 refine wpAny_call<|π (F.run X.A X.stack s H ⟨us,[]⟩ (us++ds) (vs++aV) Q E d I.env0 (hb s us I.kIn hl) R h) λr U J=>?_;cases r with
 |error e=>exact c Â σ H s e U I J
 |ok fl =>
  cases fl with
  |ret u=>exact I.after J
  |next=>exact Ŋ J
  |brk=>exact Ŋ J
  |cont=>exact Ŋ J
def GE(F:gN X.prog X.w X.K X.mg X.base CX k f fd ps sp)(U:gL k X.A)(d:Gl X x)(hm:X.mg x=fJ (.ref f))(c:PySem.W.keepIn X.K (.ref f)=fL)(hb:Binds X.K fd ps ds)(hd:iu aV ds)(R:Xz CX X E)(ha:PA X (e::es) t)(g:(x==("__debug__" : Str))=fM:=by decide)(he:Þ (e::es) X.env=(fM,eval e X.env)::Þ es X.env:=by rfl)(hpl:(ğ í<|Þ es X.env).any (·.1)=fM:=by rfl) :
  PE X (.Call (.Name x p) (e::es) [] í) (Lr sp aV E t):=by
 walk_at "B";refine ĳ<|Jr I d hm ?_ g;refine PySem.W.callWith_K (h₀:=X.base) I.ok.mod.kin c (thn (ha í Â s σ H _ I h) λus s1 ⟨vs,i,J,r,q⟩=>⟨J.kIn,?_⟩) he hpl;exact MJ F U hb hd R J r q
def Eu(F:gN X.prog X.w X.K X.mg X.base CX k f fd ps sp)(R:gL k X.A)(c:Gl X x)(hm:X.mg x=fJ (.ref f))(U:PySem.W.keepIn X.K (.ref f)=fL)(hb:Binds X.K fd ps ds)(hd:iu aV ds)(J:Xz CX X E)(d:(x==("__debug__" : Str))=fM:=by decide):PE X (.Call (.Name x p) [] [] í)<|Lr sp aV E FX:=by
 walk_at "B";refine ĳ<|Jr I c hm ?_ d;exact PySem.W.callWith_K0 I.kIn U<|MJ (us:=[]) F R hb hd J I .nil h
def GL(he:PE X o ta)(c:Cls X.K C)(hm:Meth X.K C m f)(F:gN X.prog X.w X.K X.mg X.base CX k f fd ps sp)(j:gL k X.A)(hb:Binds X.K fd ps ds)(hd:iu aV ds)(i:Xz CX X E)(ha:PA X (e::es) t)
  (U:Þ (e::es) X.env=(fM,eval e X.env)::Þ es X.env:=by rfl) (hpl:(ğ í<|Þ es X.env).any (·.1)=fM:=by rfl)
  (ht:eval (.Call (.Attribute o m Ő) (e::es) [] í) X.env=(do
    let ov<-eval o X.env
    Ψ Ő.atName
    let (f,first)<-Ĵ [ov] (ϛ ov m pl)
    cO í f first (ğ í<|Þ (e::es) X.env) (Ŷ í<|ń [] X.env)):=by rfl) :
  PE X (.Call (.Attribute o m Ő) (e::es) [] í) (Lw C m sp aV E ta t):=by
 walk_at "B";refine PySem.W.methodCall_KW (pl:=pl) (thn (he Â s σ H _ I h) λu s1 ⟨x,v,R,d,a,dx,fs,ex,n,l,q⟩=>?_) ht;subst ex;obtain rfl:u=Value.ref a:=d;refine J6 R n c hm l ?_;refine PySem.W.callWith_K (first:=[.ref a]) (h₀:=X.base) I.ok.mod.kin hm.kp (thn (ha í Â s1 σ v _ R q) λus s2 ⟨vs,y,J,r,g⟩=>⟨J.kIn,?_⟩) U hpl;exact MJ (us:=.ref a::us) (vs:=.ref a::vs) F j hb hd i J (.cons rfl r) g
def Ei(he:PE X o ta)(c:Cls X.K C)(hm:Meth X.K C m f)(F:gN X.prog X.w X.K X.mg X.base CX k f fd ps sp)(d:gL k X.A)(hb:Binds X.K fd ps ds)(hd:iu aV ds)(U:Xz CX X E)(ht:eval (.Call (.Attribute o m Ő) [] [] í) X.env=(do
    let ov<-eval o X.env
    Ψ Ő.atName
    let (f,first)<-Ĵ [ov] (ϛ ov m pl)
    cO í f first (ğ í<|Þ [] X.env) (Ŷ í<|ń [] X.env)):=by rfl) :
  PE X (.Call (.Attribute o m Ő) [] [] í) (Lw C m sp aV E ta FX):=by
 walk_at "B";refine PySem.W.methodCall_KW (pl:=pl) (thn (he Â s σ H _ I h) λu s1 ⟨x,i,J,R,a,dx,fs,ex,g,l,q⟩=>?_) ht;subst ex;obtain rfl:u=Value.ref a:=R;refine J6 J g c hm l ?_;exact PySem.W.callWith_K0 (first:=[.ref a]) J.kIn hm.kp<|MJ (us:=[.ref a]) (vs:=[.ref a]) F d hb hd U J (.cons rfl .nil) q
structure Mk(K:Frag)(C f:Í):Prop where
 makes:PySem.W.makesIn K C=fL
 init:PySem.W.findIn K (.ref C) "__init__" = fJ (fJ<|.ref f)
 fn:PySem.W.isFn K (.ref f)=fL
 kp:PySem.W.keepIn K (.ref C)=fL
def Fy(M:Mk X.K C f)(F:gN X.prog X.w X.K X.mg X.base CX k f fd ps sp)(l:gL (k+1) X.A)(hb:Binds X.K fd ps ds)(hd:iu aV ds)(j:Xz CX X E)(I:Inv X Â σ H s)(r:iu vs us)(h:∀x dx,H x=fK->H dx=fK->dx≠x->sp (.ref x::(vs++aV)) (upd (upd H dx<|.own x) x<|.ins C dx []) (λv q=>v=.non/\Q (.ref x) q) E) :
  wpAny ↥2 X.A (call (.ref C) us) (EP X Â σ Q) X.xe s:=by
 have c:=h (s.heap.objs.size+1) s.heap.objs.size (I.hok.fresh<|ŋ _) (I.hok.fresh<|Ì _)<|ä<|İ _;have R:=Inv.made (C:=C) I;have U:iu (V.ref (s.heap.objs.size+1)::(vs++aV))<|Value.ref (s.heap.objs.size+1)::(us++ds):=.cons rfl<|r.append hd;have hl:(Value.ref (s.heap.objs.size+1)::us++ds).length=ps.length:=by have e:=U.length;rw[F.len _ _ _ _ c]at e;exact e.symm
 refine wpAny_call (Dz (f:=f) I.kIn M.makes M.init (beq_iff_eq.mp M.fn) (π (F.run _ X.stack _ _ ⟨Value.ref (s.heap.objs.size+1)::us,[]⟩ (Value.ref (s.heap.objs.size+1)::(us++ds)) _ _ E (l.make C us [])
   (R.env0.make C us []) (hb _ (Value.ref (s.heap.objs.size+1)::us) R.kIn hl) U c) λr d J=>?_))
 cases r with
 |error e=>exact j Â σ _ _ e d R J
 |ok fl =>
  cases fl with
  |ret u =>let⟨v,y,n,g,ev,i⟩:=R.after J;subst ev;exact⟨g,⟨V.ref<|s.heap.objs.size+1,y,n,rfl,i⟩⟩
  |next=>exact Ŋ J
  |brk=>exact Ŋ J
  |cont=>exact Ŋ J
def IF(M:Mk X.K C f)(F:gN X.prog X.w X.K X.mg X.base CX k f fd ps sp)(U:gL (k+1) X.A)(c:Gl X x)(hm:X.mg x=fJ (.ref C))(hb:Binds X.K fd ps ds)(hd:iu aV ds)(R:Xz CX X E)(ha:PA X (e::es) t)(d:(x==("__debug__" : Str))=fM:=by decide)(he:Þ (e::es) X.env=(fM,eval e X.env)::Þ es X.env:=by rfl)(hpl:(ğ í<|Þ es X.env).any (·.1)=fM:=by rfl) :
  PE X (.Call (.Name x p) (e::es) [] í) (RM C sp aV E t):=by
 walk_at "B";refine ĳ<|Jr I c hm ?_ d;refine PySem.W.callWith_K (h₀:=X.base) I.ok.mod.kin M.kp (thn (ha í Â s σ H _ I h) λus s1 ⟨vs,g,J,r,q⟩=>⟨J.kIn,?_⟩) he hpl;exact Fy M F U hb hd R J r q
end
structure FnScope(N P:List Str)(sc:Γ):Prop where
 kind:sc.kind=.function
 co:sc.isCoroutine=fM
 gen:sc.isGenerator=fM
 nd:N.Nodup
 pre:N.take P.length=P
 par:∀x∈P,sc.names.lookup x=fJ .local\/sc.names.lookup x=fJ .cell
 nofree:∀y∈sc.names,y.2≠.free
def K9{Μ:Str->Option Ϝ}{x:Str}:∀{binds:List (Str×Ã)}{m:Str->Option Ã},(∀v,(x,v)∉binds)->bindL Μ binds m x=m x
 |[],_,_=>rfl
 |(n,v)::r,m,h=>by
  unfold bindL;rw[K9 λw hw=>h w<|Ý _ hw];split
  .have:x≠n:=by rintro rfl;exact h v ð
   simp[this]
  .rfl
def Ma{Μ:Str->Option Ϝ}{x:Str}:∀{binds:List (Str×Ã)}{m:Str->Option Ã},(∀v,(x,v)∉binds)->eQ Μ binds m x=m x
 |[],_,_=>rfl
 |(n,v)::r,m,h=>by
  unfold eQ;rw[Ma λw hw=>h w<|Ý _ hw];split
  .rfl
  .have:x≠n:=by rintro rfl;exact h v ð
   simp[this]
def K8{Μ:Str->Option Ϝ}{x:Str}{v:Ã}:∀{P:List Str}{vs:List Ã}{i:Nat}{m:Str->Option Ã},P.Nodup->P[i]?=fJ x->vs[i]?=fJ v->Μ x=fJ .local->
  bindL Μ (P.zip vs) m x=fJ v
 |[],_,_,_,_,h,_,_=>by simp at h
 |_::_,[],_,_,_,_,h,_=>by simp at h
 |p::P,w::vs,0,m,nd,h1,h2,hk=>by simp at h1 h2;subst h1;subst h2;show bindL Μ ((p,w)::P.zip vs) m p=_;unfold bindL;rw[K9 λv I=>(ā.mp nd).1 (bd I).1,iH hk];simp
 |p::P,w::vs,i+1,m,nd,h1,h2,hk=>by show bindL Μ ((p,w)::P.zip vs) m x=_;unfold bindL;exact K8 (i:=i) (ā.mp nd).2 ⇑h1 ⇑h2 hk
def KY{Μ:Str->Option Ϝ}{x:Str}{v:Ã}:∀{P:List Str}{vs:List Ã}{i:Nat}{m:Str->Option Ã},P.Nodup->P[i]?=fJ x->vs[i]?=fJ v->Μ x≠fJ .local->
  eQ Μ (P.zip vs) m x=fJ v
 |[],_,_,_,_,h,_,_=>by simp at h
 |_::_,[],_,_,_,_,h,_=>by simp at h
 |p::P,w::vs,0,m,nd,h1,h2,hk=>by simp at h1 h2;subst h1;subst h2;show eQ Μ ((p,w)::P.zip vs) m p=_;unfold eQ;rw[Ma λv I=>(ā.mp nd).1 (bd I).1,iI hk];simp
 |p::P,w::vs,i+1,m,nd,h1,h2,hk=>by show eQ Μ ((p,w)::P.zip vs) m x=_;unfold eQ;exact KY (i:=i) (ā.mp nd).2 ⇑h1 ⇑h2 hk
abbrev start(N:List Str)(vs:List V):St:=vs.map fJ++ß (N.length - vs.length) fK
abbrev Nh(CX:CXT)(P:æ)(w:û)(K:Frag)(mg:Str->Option Ã)(base:Ĉ)(N:List Str)(qual:Str)(scope:Γ)(f:Í)(cd:Ã)(A:ċ)(outer:List Env)(s:Æ)(H:Hp)(E:XK):Cx where
 prog:=P
 w:=w
 K:=K
 mg:=mg
 base:=base
 A:=A.deeper<|aO qual scope s.heap.objs.size f cd
 N:=N
 s₀:=s
 H₀:=H
 env:=aO qual scope s.heap.objs.size f cd
 outer:=outer
 stack:=aO qual scope s.heap.objs.size f cd::outer
 ex:=[]
 calm:=fL
 fn:=λ_=>fL
 pn:=[]
 xe:=λe J=>wpAny (â P w) (A.deeper<|aO qual scope s.heap.objs.size f cd) (leaving (aO qual scope s.heap.objs.size f cd) e) (λ_ I=>CX outer H s E e I) (λR I=>CX outer H s E R I) J
def NY{sc:Γ}{n:Nat}{x:Str}(h:sc.names.lookup x=fJ .cell):∃c,(cellsFrom n sc.names []).lookup x=fJ c:=by have q:=PySem.W.cellsFrom_some sc.names n []<|.inl h;exact ô.mp q
variable {N:List Str}{qual:Str}{scope:Γ}{f:Í}
def B2{K:Frag}(S:FnScope N ps scope)(hd:A.handled=fK)(J:Env0 P w K mg base A outer s H)(hl:vs.length=ps.length)(r:iu vs us)(x:InCallC s s.heap.objs.size (bindL (aO qual scope s.heap.objs.size f cd).kindOf (ps.zip us) λ_=>fK) (cellsFrom (s.heap.objs.size+1) scope.names []) (eQ (aO qual scope s.heap.objs.size f cd).kindOf (ps.zip us) λ_=>fK) s1) :
  Inv (Nh CX P w K mg base N qual scope f cd A outer s H E) [] (start N vs) H s1:=by
 have t:ps.length<=N.length:=by have:=congrArg List.length S.pre;rw[ą]at this;lia
 let⟨g,F,rfl,l⟩:=x.done;have R:∀b:Í,b∉(Nh CX P w K mg base N qual scope f cd A outer s H E).ex:=λb z=>iM (show b∈([]:List Í) from z) (by simp);refine⟨⟨J.mod,S.kind,rfl,rfl,Ì _,λy z c g I=>?_,λy U=>?_,λy c _ h=>?_,λ_=>hd,Around.frames_deeper J.frames,.inr ⟨rfl,rfl⟩,λb z=>iM z<|R b,J.bs,J.bsz,λb _ _=>R b,λb z=>iM z<|R b,J.funs,J.frf⟩,
   rfl,J.bare,Un.kept l,⟨_,x.toInCall.ns,λi y v g I G=>?_⟩,λy c h=>⟨_,x.cell y c h⟩,J.hok.fresh<|Ì _,λy c h=>?_,λp hp=>iM (show p∈([]:List<|Í×Obj) from hp) (by simp),J.hok.kept l,?_⟩
 .exact name_of_addr x.apart (PySem.mem_of_lookup g)<|PySem.mem_of_lookup I
 .have U:scope.names.lookup y=fJ .cell\/scope.names.lookup y=fJ .free:=U;rcases U with U|U
  .exact NY U
  .exact iM rfl<|S.nofree _<|PySem.mem_of_lookup U
 .exact ζ<|x.above y c<|PySem.mem_of_lookup h
 .have hi:i<vs.length:=by
   unfold start at I;by_cases hi:i<vs.length
   .exact hi
   .rw[Ĕ<|by simpa using hi]at I;rw[ő]at I;split at I<;>cases I
  have ha:vs[i]?=fJ v:=by
   unfold start at I;rw[Ď ⇑hi,Ø]at I;cases e:vs[i]? with
   |none=>rw[e]at I;cases I
   |some a=>rw[e]at I;cases I;rfl
  let⟨u,j,m⟩:=r.get ha;have hp:ps[i]?=fJ y:=by rw[<-S.pre,List.getElem?_take_of_lt<|by lia];exact g
  have d:ps.Nodup:=by rw[<-S.pre];exact S.nd.sublist<|List.take_sublist _ _
  refine⟨u,m,?_⟩;rcases S.par y (é hp)with k|k
  .exact .inl ⟨k,K8 d hp j k⟩
  .obtain⟨c,e⟩:=NY (n:=s.heap.objs.size+1) k;refine .inr ⟨.inl k,c,e,?_⟩;have q:=x.cell y c e;rw[KY d hp j<|by show scope.names.lookup y≠_;rw[k];decide]at q;exact q
 .exact J.hok.fresh<|ζ<|x.above y c<|PySem.mem_of_lookup h
 .unfold start;show _=N.length;rw[á,Á,ú];lia
def Rq{K:Frag}{kV:Ã}(O:K.lookup f=fJ ⟨M,G,.func<|PySem.W.fnOf name qual params body scope z kV doc pm an R ct,m⟩)(bg:PySem.W.codeIn K R qual=fL)(S:FnScope N ps scope)(len:∀vs H Q E,sp vs H Q E->vs.length=ps.length)(c:∀(A:ċ) (outer:List Env) (s:Æ) (H:Hp) (vs:List V) (Q:VK) (E:XK),gL k (A.deeper<|aO qual scope s.heap.objs.size f R)->sp vs H Q E->
    ∃t,PSs (Nh CX P w K mg base N qual scope f R A outer s H E) body t/\t { nx:=λ_ H'=>Q .non H',rt:=Q } (start N vs) H) :
  gN P w K mg base CX (k+1) f (PySem.W.fnOf name qual params body scope z kV doc pm an R ct) ps sp:=by
 refine⟨len,λA outer s H args us vs Q E p i hb r g=>?_⟩;have hl:=len _ _ _ _ g;have F:K.In s.heap:=i.mod.kin.keeps λb o e=>(i.bs b o e).1;have lim:s.heap.NoLimit:=i.mod.nolimit.keeps λb o e=>(i.bs b o e).1;have U:∀y∈ps.zip us,scope.names.lookup y.1=fJ .local\/(scope.names.lookup y.1=fJ .cell/\((cellsFrom (s.heap.objs.size+1) scope.names []).lookup y.1).isSome=fL):=λ⟨n,v⟩ hy=>by
  rcases S.par n (bd hy).1 with q|q
  .exact .inl q
  .exact .inr ⟨q,PySem.W.cellsFrom_some _ _ _<|.inl q⟩
 refine codeAny_call_function p.depth (F _ _ O) rfl S.co S.gen rfl (PySem.W.codeRec_of F bg)<|hb _ _ _ _ ?_;refine wpAny_newFunctionEnv_cells S.kind U λenv he s1 x=>?_;subst he;refine⟨lim.keeps x.toInCall.keep,codeAny_func ?_⟩;let⟨t,ht,hq⟩:=c A outer s H vs Q E (p.deeper _) g;have I:Inv (Nh CX P w K mg base N qual scope f R A outer s H E) [] (start N vs) H s1:=B2 S p.hd i hl r x;refine Ĳ (ht [] s1 (start N vs) H _ I hq) (λfl s' d=>?_) λe s' d=>d;have fin:∀{j:St}{H':Hp}{v:V}{u:Ã},Inv (Nh CX P w K mg base N qual scope f R A outer s H E) [] j H' s'->RelV v u->Q v H'->CE outer P w H s Q u s' :=
  λ{j H' v u} J l q=>⟨v,H',J.os,J.bare,J.base,J.hok,l,q⟩
 cases fl with
 |ret u =>let⟨v,j,H',J,l,q⟩:=d;exact fin J l q
 |next =>let⟨j,H',J,q⟩:=d;exact fin (v:=V.non) (u:=Value.none) J rfl q
 |brk =>let⟨_,_,_,q⟩:=d;exact Ŋ q
 |cont =>let⟨_,_,_,q⟩:=d;exact Ŋ q
section
variable {x:Str}{p í:Pos}{e:Expr}{id T:String}{r:List V->Hp->VK->Prop}
abbrev tCB(r:List V->Hp->VK->Prop)(t:TA):TE:=λσ H Q=>t σ H λI J=>r I J Q
def Yn(d:fU X (.builtin id) r)(c:Gl X x)(hm:X.mg x=fK)(U:ř x=fJ (.builtin id))(ha:PA X (e::es) t)(hn:x≠"__name__":=by decide)(g:(x==("__debug__" : Str))=fM:=by decide)(he:Þ (e::es) X.env=(fM,eval e X.env)::Þ es X.env:=by rfl)(hpl:(ğ í<|Þ es X.env).any (·.1)=fM:=by rfl):PE X (.Call (.Name x p) (e::es) [] í)<|tCB r t:=by
 walk_at "B";refine ĳ<|YQ I c hm U ?_ hn g;exact PyProof.Rows.callWith_builtin1 (thn (ha í Â s σ H _ I h) λus s1 ⟨J,j,i,r1,R⟩=>d Â s1 σ j J us Q i r1 R) he hpl
def YH(d:fU X (.type T) r)(c:Gl X x)(hm:X.mg x=fK)(U:ř x=fJ (.type T))(ha:PA X (e::es) t)(hn:x≠"__name__":=by decide)(g:(x==("__debug__" : Str))=fM:=by decide)(he:Þ (e::es) X.env=(fM,eval e X.env)::Þ es X.env:=by rfl)(hpl:(ğ í<|Þ es X.env).any (·.1)=fM:=by rfl):PE X (.Call (.Name x p) (e::es) [] í)<|tCB r t:=by
 walk_at "B";refine ĳ<|YQ I c hm U ?_ hn g;exact PyProof.Rows.callWith_type1 (thn (ha í Â s σ H _ I h) λus s1 ⟨J,j,i,r1,R⟩=>d Â s1 σ j J us Q i r1 R) he hpl
end
end L2
namespace HT
open PySem PyProof.Rows
abbrev lexLt:List Int->List Int->Bool
 |[],[]=>fM
 |[],_::_=>fL
 |_::_,[]=>fM
 |x::xs,y::ys=>if x=y then lexLt xs ys else iN (x<y)
def lexLt_cons(x y:Int)(xs ys:List Int):lexLt (x::xs) (y::ys)=if x=y then lexLt xs ys else iN (x<y):=rfl
def eqAt_int(A:ċ)(s:Æ)(a:Int)(t:Tok)(c:Int)(u:Tok):∃e,SeqAt.EqAt A s (.int a t) (.int c u) e/\(e=fL↔a=c) :=
 ⟨(a==c),SeqAt.EqAt.int_int a t c u,by simp⟩
def rcLt_int(A:ċ)(s:Æ)(a:Int)(t:Tok)(c:Int)(u:Tok)(prog:æ)(w:û)(E:Ã->Æ->Prop)(Q:Ã->Æ->Prop)(h:Q (.bool<|iN (a<c)) s) :
  wpAny (â prog w) A (richCompare .Lt (.int a t)<|.int c u) Q E s :=
 (PyProof.Rows.lt_int h:wpAny (â prog w) A (î .Lt (.int a t)<|.int c u) Q E s)
section
open PySem.SeqAt
open PySem.AutoSeq1 (wpAny_loadPart')
open PySem.MeetsSeq PySem.MeetsSeq2 PySem.MeetsSeq3
end
section
def cat_tup(ht:ϸ s.heap t vs.toArray)(hb:ϸ s.heap b ws.toArray)(c:vs≠[])(h1:ws=[]->Q (.ref t) s)(i:ws≠[]->Q (.ref s.heap.objs.size) {s with heap:=s.heap.push {cls:=.type "tuple",data:=.seq (vs++ws).toArray}})(hsz:vs.length+ws.length<=à):wpAny (â prog w) A (Ŏ .Add (.ref t)<|.ref b) Q E s:=by
 let⟨⟨cls,g,data,U⟩,R,d,n,hd⟩:=id ht;let⟨⟨h,J,data2,o⟩,dL,I,a,f⟩:=id hb;simp only at d hd I f;subst d hd I f;have e:vs.toArray++ws.toArray=(vs++ws).toArray:=by simp
 by_cases hw:ws=[]
 .exact fq ⟨_,R,rfl⟩ ⟨_,dL,rfl⟩ bK dW PySem.F.slot_tuple_add PySem.F.entry_tuple_add (PySem.F.args_tuple_add_2 _ _)
   (tuple_addW1 t b vs.toArray ws.toArray n a g J U o ⇑c<|by simp[hw]) ⟨R,dL,h1 hw⟩
 .refine fq ⟨_,R,rfl⟩ ⟨_,dL,rfl⟩ bK dW PySem.F.slot_tuple_add PySem.F.entry_tuple_add (PySem.F.args_tuple_add_2 _ _)
   (tuple_addW2 t b vs.toArray ws.toArray n a g J U o ⇑c ⇑hw<|by rw[Î,Î];exact hsz) ⟨R,dL,?_⟩
  rw[e];exact i hw
abbrev sIx(n d:Nat):Option Int->Nat
 |none=>d
 |some v=>if v<0 then(v+(n:Int)).toNat else min v.toNat n
def LC(n d:Nat)(hd:d<=n)(o:Option Int):sIx n d o<=n:=by
 cases o with
 |none=>exact hd
 |some v =>
  show(if v<0 then(v+(n:Int)).toNat else min v.toNat n)<=n;by_cases I:v<0
  .rw[iH I];lia
  .rw[iI I];exact aP _ _
def clip_eq(v:Int)(n d:Nat):(if v<0 then max (v+(n:Int)) 0 else min v (n:Int))=((sIx n d (fJ v):Nat):Int):=by
 show(if v<0 then max (v+(n:Int)) 0 else min v (n:Int))=(((if v<0 then(v+(n:Int)).toNat else min v.toNat n):Nat):Int)
 by_cases o:v<0
 .simp![iH o];lia
 .simp![iI o];lia
def Ud(lo hi:Option Int)(n:Nat):Builtin.Slice.sliceAdjust lo hi 1 (n:Int)=(((sIx n 0 lo:Nat):Int),((sIx n n hi:Nat):Int)):=by
 have o:¬ ((1:Int)<0):=by lia
 unfold Builtin.Slice.sliceAdjust;simp![o,if_false];refine Prod.ext ?_ ?_
 .cases lo with
  |none=>rfl
  |some v=>exact clip_eq v n 0
 .cases hi with
  |none=>rfl
  |some v=>exact clip_eq v n n
def O3(i j:Nat):Builtin.Slice.slicePlaces (i:Int) (j:Int) 1=j - i:=by
 unfold Builtin.Slice.slicePlaces;have o:(1:Int) > 0:=by lia
 simp![o,if_true,Int.ediv_one];split<;>lia
def JW{v:Ã}{o:Option Int}{Q:Option Int->Æ->Prop}(p:Ν v o)(h:Q o s):wpAny (â prog w) A (Builtin.Slice.slicePartIndex v) Q E s:=by
 cases p with
 |none=>exact slicePart_none h
 |int i t=>exact slicePart_int h
variable {lo:Option Int}
def Yw{n:Nat}{Q:Int×Int×Nat->Æ->Prop}(J:s.heap.IsSliceOf sl vl vu .none)(pl:Ν vl lo)(pu:Ν vu hi)
  (h:Q (((sIx n 0 lo:Nat):Int),1,sIx n n hi - sIx n 0 lo) s):wpAny (â prog w) A (Builtin.Slice.sliceApplied (.ref sl)<|pure (n:Int)) Q E s:=by
 let⟨os,o,R,I⟩:=id J;unfold Builtin.Slice.sliceApplied Builtin.Slice.sliceFields;refine À<|À<|Į o I (x:=vl) rfl<|À<|Į o I (x:=vu) rfl<|À<|Į o I (x:=.none) rfl<|È ?_;refine À<|slicePart_none ?_;show wpAny _ _ (if((1:Int)==0)=fL then _ else _) _ _ s;rw[iI<|by decide];refine À<|JW pl<|À<|JW pu<|À<|È ?_;show wpAny _ _ (match Builtin.Slice.sliceAdjust lo hi 1 (n:Int)with|(lo,hi)=>pure (lo,(1:Int),Builtin.Slice.slicePlaces lo hi 1)) _ _ s;rw[Ud lo hi n];show wpAny _ _ (pure (((sIx n 0 lo:Nat):Int),(1:Int),Builtin.Slice.slicePlaces ((sIx n 0 lo:Nat):Int) ((sIx n n hi:Nat):Int) 1)) _ _ s;rw[O3];exact È h
def Dy(xs:Array Ã)(i k:Nat):((List.range k).filterMap λ(m:Nat)=>xs[((i:Int)+(m:Int)*1).toNat]?).toArray=((xs.toList.drop i).take k).toArray:=by
 have e:(λ(m:Nat)=>xs[((i:Int)+(m:Int)*1).toNat]?)=λm=>xs[i+m]?:=by
  funext m;have:((i:Int)+(m:Int)*1).toNat=i+m:=by lia
  rw[this]
 rw[e];have:=pick_run xs i k;rw[ϱ]at this;have o:((λx=>xs[x]?) ∘ λx=>i+x)=λm=>xs[i+m]?:=rfl;rw[o]at this;rw[this]
def getItem_tuple_cut(ht:ϸ s.heap t items)(a:s.heap.IsSliceOf sl vl vu .none)(pl:Ν vl lo)(pu:Ν vu hi)(hw:¬ (sIx items.size 0 lo=0/\sIx items.size items.size hi=items.size))(h:Q (.ref s.heap.objs.size) {s with heap:=s.heap.push {cls:=.type "tuple",data:=.seq ((items.toList.drop<|sIx items.size 0 lo).take<|sIx items.size items.size hi - sIx items.size 0 lo).toArray}})(hsz:items.size<=à):wpAny (â prog w) A (ϡ (.ref t)<|.ref sl) Q E s:=by
 have o:sizeOk<|.seq ((items.toList.drop<|sIx items.size 0 lo).take<|sIx items.size items.size hi - sIx items.size 0 lo).toArray:=by show((items.toList.drop<|sIx items.size 0 lo).take<|sIx items.size items.size hi - sIx items.size 0 lo).toArray.size<=à;rw[Î,ą,ξ,ö];lia
 have e:sIx items.size items.size hi<=items.size:=LC _ _ (Ì _) hi;let⟨os,I,R,b⟩:=id a;have U:s.TypeIs (.ref sl) "slice":=⟨os,I,R⟩
 unfold ϡ
 try with_reducible refine Ă ?_
 first|refine À (È ?_)|skip
 refine À (bh ht.typeIs ↥1 ?_);refine À (ĥ (name:=iO "__getitem__") ht.typeIs PyProof.Rows.slot_tuple_getitem
   (ę PyProof.Rows.slot_tuple_getitem ht.typeIs entry_tuple_getitem ?_<|args_tuple_getitem _ _))
 show wpAny _ _ (Builtin.Tuple.tupleItemsOf (.ref t) >>= _) _ _ s;refine À<|tupleItemsOf_ ht ?_;refine À<|Ś U ?_;rw[iH<|by decide];refine À<|Yw a pl pu ?_;have J:¬ ((((sIx items.size 0 lo:Nat):Int)==0&&(1:Int)==1&&(sIx items.size items.size hi - sIx items.size 0 lo)==items.size)=fL):=by intro q;rw[bAq,bAq]at q;have d:((sIx items.size 0 lo:Nat):Int)=0:=eq_of_beq q.1.1;have c:sIx items.size items.size hi - sIx items.size 0 lo=items.size:=eq_of_beq q.2;exact hw ⟨by lia,by lia⟩
 show wpAny _ _ (if(((sIx items.size 0 lo:Nat):Int)==0&&(1:Int)==1&&(sIx items.size items.size hi - sIx items.size 0 lo)==items.size)=fL then _ else _) _ _ s;rw[iI J,Dy]
 first
  |exact À (m:=Builtin.Tuple.tupleExact _)<|ď (È ⟨_,rfl,È h⟩) o
  |exact À (m:=Builtin.Tuple.tupleExact _)<|ď (À<|È<|È ⟨_,rfl,È h⟩) o
  |exact À<|À (m:=Builtin.Tuple.tupleExact _)<|ď (È<|È ⟨_,rfl,È h⟩) o
  |exact À<|À (m:=Builtin.Tuple.tupleExact _)<|ď (È ⟨_,rfl,È h⟩) o
end
end HT
namespace L2
open PySem PySem.Spec PyProof.Rows
noncomputable abbrev TO:=St->Hp->(Option Int->Hp->Prop)->Prop
abbrev PO(X:Cx)(e:Option Expr)(t:TO):Prop :=
 ∀(I:List<|Í×Obj) (s:Æ) (σ:St) (H:Hp) (Q:Option Int->Hp->Prop),Inv X I σ H s->t σ H Q->
  wpAny ↥2 X.A (evalPart e X.env) (λu R=>∃o J,Inv X I σ J R/\Ν u o/\Q o J) X.xe s
abbrev HK:TO:=λ_ H Q=>Q fK H
abbrev RB(t:TE):TO:=λσ H Q=>t σ H λx o=>∃i,x=.int i/\Q (fJ i) o
def ZZ:∀{us:List Ã},iu (ns.map V.int) us->č us ns:=by
 induction ns with
 |nil=>intro us r;rw[ň]at r;cases r;exact .nil
 |cons n ns ih =>
  intro us r;rw[Ò]at r;cases r with
  |cons r1 r2 =>let⟨t,e⟩:=r1;subst e;exact .cons n t<|ih r2
section
variable {e:Expr}{lo:Option Expr}{í p2:Pos}
def po_none:PO X fK HK:=by walk_at "B";rw[dX];exact È ⟨fK,H,I,.none,h⟩
def Ao(h:PE X e te):PO X (fJ e)<|RB te:=by intro o s σ H Q I hw;rw[evalPart_some];refine thn (h o s σ H _ I hw) λu s1 ⟨x,U,R,r1,J⟩=>?_;let⟨i,rfl,q⟩:=J;let⟨t,rfl⟩:=r1;exact⟨fJ i,U,R,.int i t,q⟩
abbrev SlR(X:Cx)(r:V->Option Int->Option Int->Hp->VK->Prop):Prop :=
 ∀(o:List<|Í×Obj) (s:Æ) (σ:St) (H:Hp) (x:V) (v vl vu:Ã) (lo hi:Option Int) (sl:Í) (Q:VK),Inv X o σ H s->RelV x v->s.heap.IsSliceOf sl vl vu .none->Ν vl lo->Ν vu hi->r x lo hi H Q->
  ∃T id,typeLookup (.type T) "__getitem__" = pure (fJ<|.builtin id)/\s.TypeIs v T/\wpAny ↥2 X.A (ϡ v<|.ref sl) (EP X o σ Q) X.xe s
variable {r:V->Option Int->Option Int->Hp->VK->Prop}
def SlR.or(h:SlR X r)(h':SlR X b):SlR X λx lo hi H Q=>r x lo hi H Q\/b x lo hi H Q:=by
 intro o s σ H x v R J lo hi U Q I a c pl pu q;rcases q with q|q
 .exact h o s σ H x v R J lo hi U Q I a c pl pu q
 .exact h' o s σ H x v R J lo hi U Q I a c pl pu q
abbrev tSl(r:V->Option Int->Option Int->Hp->VK->Prop)(te:TE)(tl th:TO):TE:=λσ H Q=>te σ H λx J=>tl σ J λl I=>th σ I λu o=>r x l u o Q
def CI(f:SlR X r)(he:PE X e te)(hl:PO X lo tl)(d:PO X hi th):PE X (.Subscript e (.Slice lo hi fK p2) í)<|tSl r te tl th:=by walk_at "B";refine Subscript_<|thn (he Â s σ H _ I h) λv s1 ⟨x,p,m,r1,c⟩=>?_;refine wpAny_Slice<|thn (hl Â s1 σ p _ m c) λJ s2 ⟨l,n,k,pl,a⟩=>thn (d Â s2 σ n _ k a) λo s3 ⟨u,R,j,pu,U⟩=>?_;rw[dX];refine È ?_;have i:Inv X Â σ R {s3 with heap:=s3.heap.push {cls:=.type "slice",data:=.fields #[J,o,.none]}}:=j.kept (t':=s3.toks) λb y q=>Ä _ q;let⟨T,id,hT,ht,g⟩:=f Â {s3 with heap:=s3.heap.push {cls:=.type "slice",data:=.fields #[J,o,.none]}} σ R x v J o l u s3.heap.objs.size Q i r1 (Heap.IsSliceOf.new ..) pl pu U;show wpAny ↥2 X.A (aJ e (.Slice lo hi fK p2) v<|.ref s3.heap.objs.size) (EP X Â σ Q) X.xe {s3 with heap:=s3.heap.push {cls:=.type "slice",data:=.fields #[J,o,.none]}};exact tail_any (ops:=[.ref s3.heap.objs.size,v]) ht hT g (by with_unfolding_all rfl)
abbrev MK(xs:List V)(lo hi:Option Int):List V:=(xs.drop<|HT.sIx xs.length 0 lo).take<|HT.sIx xs.length xs.length hi - HT.sIx xs.length 0 lo
def Jb(xs:List V)(lo hi:Option Int):(MK xs lo hi).length<=xs.length:=by unfold MK;rw[ą,ξ];lia
abbrev R9(K:Frag):V->Option Int->Option Int->Hp->VK->Prop:=λx lo hi H Q=>∃a xs,x=.ref a/\ir K H a xs/\
 ¬ (HT.sIx xs.length 0 lo=0/\HT.sIx xs.length xs.length hi=xs.length)/\∀p,H p=fK->Q (.ref p) (upd H p<|.tup<|MK xs lo hi)
def hX:SlR X<|R9 X.K:=by
 intro f s σ H x v i g lo hi j Q I U d pl pu h;let⟨a,xs,rfl,c,hw,q⟩:=h;cases U;let⟨R,r,ht,J⟩:=I.tuple c;have hlen:R.toArray.size=xs.length:=by rw[Î];exact r.length.symm
 refine⟨"tuple",_,PyProof.Rows.slot_tuple_getitem.lookup,ht.typeIs,?_⟩;refine HT.getItem_tuple_cut ht d pl pu (by rw[hlen];exact hw) ?_ (by rw[hlen];exact J);rw[hlen];refine⟨.ref s.heap.objs.size,_,I.laid (t':=s.toks) (o:=.tup<|MK xs lo hi) (λb k q=>Ä _ q) (Ì _) ?_,rfl,q _<|I.hok.fresh<|Ì _⟩;exact⟨Ù (Jb xs lo hi) J,_,(r.drop<|HT.sIx xs.length 0 lo).take<|HT.sIx xs.length xs.length hi - HT.sIx xs.length 0 lo,IsTup.new _ _⟩
abbrev Lg(K:Frag):R2:=λx y H Q=>∃a b xs o,x=.ref a/\y=.ref b/\ir K H a xs/\ir K H b o/\xs≠[]/\xs.length+o.length<=à/\
 (o=[]->Q (.ref a) H)/\(o≠[]->∀p,H p=fK->Q (.ref p) (upd H p<|.tup<|xs++o))
def iu.nil_iff(r:iu xs us):us=[]↔xs=[]:=by
 cases r with
 |nil=>simp
 |cons _ _=>simp
def Hy:OpR X (Ŏ .Add)<|Lg X.K:=by walk_at "A";let⟨a,b,xs,U,rfl,rfl,ha,hb,g,R,d,c⟩:=h;cases rx;cases ry;let⟨j,r1,f,_⟩:=I.tuple ha;let⟨i,J,p2,_⟩:=I.tuple hb;refine HT.cat_tup f p2 (λz=>g<|r1.nil_iff.mp z) (λz=>⟨.ref a,H,I,rfl,d<|J.nil_iff.mp z⟩) (λz=>?_) (by rw[<-r1.length,<-J.length];exact R);refine⟨.ref s.heap.objs.size,_,I.laid (t':=s.toks) (o:=.tup<|xs++U) (λb k q=>Ä _ q) (Ì _) ?_,rfl,c (λw=>z<|J.nil_iff.mpr w) _<|I.hok.fresh<|Ì _⟩;exact⟨by rw[á];exact R,_,r1.append J,IsTup.new _ _⟩
end
abbrev ixN(n:Nat)(i:Int):Option Nat:=if 0<=i then(if i<n then fJ i.toNat else fK)else if -(n:Int)<=i then fJ (i+n).toNat else fK
variable {α:Type}
abbrev atI(xs:List α)(i:Int):Option α:=(ixN xs.length i).bind λj=>xs[j]?
variable {n:Nat}{i:Int}
def Nt(h:ixN n i=fJ j):seqIndex? i n=fJ j/\j<n/\-(n:Int)<=i/\i<n:=by
 unfold ixN at h;by_cases h0:0<=i
 .rw[iH h0]at h;by_cases o:i<n
  .rw[iH o]at h;have e:i.toNat=j:=ë h;exact⟨by rw[bV h0 o,e],by lia,by lia,o⟩
  .rw[iI o]at h;cases h
 .rw[iI h0]at h;by_cases o:-(n:Int)<=i
  .rw[iH o]at h;have e:(i+n).toNat=j:=ë h;exact⟨by rw[bj ↥0 o,e],by lia,o,by lia⟩
  .rw[iI o]at h;cases h
def Jo(h:atI xs i=fJ v):∃j,seqIndex? i xs.length=fJ j/\xs[j]?=fJ v/\j<xs.length/\-(xs.length:Int)<=i/\i<xs.length:=by
 unfold atI at h;cases e:ixN xs.length i with
 |none=>rw[e]at h;cases h
 |some j =>rw[e]at h;let⟨R,J,I,o⟩:=Nt e;exact⟨j,R,h,J,I,o⟩
abbrev Nw(b:Expr):Prop:=∀o i,subscripted b fM o i=operate [o,i] (ϡ o i)
abbrev IxR(X:Cx)(r:R2):Prop :=
 ∀(o slice:Expr) (Â:List<|Í×Obj) (s:Æ) (σ:St) (H:Hp) (x y:V) (v u:Ã) (Q:VK),Inv X Â σ H s->RelV x v->RelV y u->r x y H Q->
  subscripted slice fM v u=operate [v,u] (ϡ v u)->wpAny ↥2 X.A (aJ o slice v u) (EP X Â σ Q) X.xe s
abbrev MtR(X:Cx)(id:String)(r:V->List V->Hp->VK->Prop):Prop :=
 ∀(o:List<|Í×Obj) (s:Æ) (σ:St) (H:Hp) (x:V) (xs:List V) (v:Ã) (us:List Ã) (Q:VK),Inv X o σ H s->RelV x v->iu xs us->r x xs H Q->
  wpAny ↥2 X.A (call (.builtin id)<|v::us) (EP X o σ Q) X.xe s
section
variable {X:Cx}{a b:Expr}{í:Pos}
variable {r:R2}
def IxR.or(h:IxR X r)(h':IxR X c):IxR X λx y H Q=>r x y H Q\/c x y H Q:=by
 intro o slice J s σ H x y v u Q I U R q d;rcases q with q|q
 .exact h o slice J s σ H x y v u Q I U R q d
 .exact h' o slice J s σ H x y v u Q I U R q d
def MtR.or{id:String}{r R:V->List V->Hp->VK->Prop}(h:MtR X id r)(h':MtR X id R):MtR X id λx xs H Q=>r x xs H Q\/R x xs H Q:=by
 intro o s σ H x xs v us Q I J rs q;rcases q with q|q
 .exact h o s σ H x xs v us Q I J rs q
 .exact h' o s σ H x xs v us Q I J rs q
def Sn(U:IxR X r)(ha:PE X a ta)(hb:PE X b tb)(R:Nw b):PE X (.Subscript a b í)<|tOp r ta tb:=by walk_at "B";exact Subscript_ (LM ha hb I h λv u s2 x y d c J o q=>U a b Â s2 σ d x y v u Q c J o q<|R _ _)
abbrev E1(K:Frag):R2:=λx y H Q=>∃p xs i v,x=.ref p/\y=.int i/\iq K H p xs/\atI xs i=fJ v/\Q v H
abbrev Ru(K:Frag):R2:=λx y H Q=>∃p xs i v,x=.ref p/\y=.int i/\ir K H p xs/\atI xs i=fJ v/\Q v H
abbrev SI:R2:=λx y H Q=>∃z i c,x=.str z/\y=.int i/\z.length<=à/\atI z.cps.toList i=fJ c/\Q (.str ⟨#[c]⟩) H
def ix_list:IxR X<|E1 X.K:=by
 intro G slice R s σ H x y v u Q I g f h U;let⟨p,xs,i,z,rfl,rfl,k,he,q⟩:=h;cases g;let⟨t,rfl⟩:=f;let⟨d,r,pl,M⟩:=I.list k;let⟨j,o,C,O,m,l⟩:=Jo he;let⟨w,c,F⟩:=r.get C;have hl:=r.length;have hn:=Xj;have fin:EP X R σ Q w s:=⟨z,H,I,F,q⟩
 by_cases h0:0<=i
 .have J:i.toNat=j:=by
   rw[bV h0 l]at o;exact ë o
  exact item_listR pl.isList h0 ↥0 (by rw[J];simpa using c) fin U
 .have J:(i+(d.toArray.size:Int)).toNat=j:=by
   rw[bj ↥0 m]at o;rw[Î,<-hl];exact ë o
  exact fu (x:=w) pl.isList.typeIs bo.lookup
   (fv (Q:=λr e=>r=w/\EP X R σ Q r e) pl.isList ↥0 (by rw[Î]<;>lia) ↥0 (by rw[J];simpa using c) ⟨rfl,fin⟩) U
def fS:IxR X<|Ru X.K:=by
 intro l slice o s σ H x y v u Q I U R h c;let⟨p,xs,i,z,rfl,rfl,d,he,q⟩:=h;cases U;let⟨t,rfl⟩:=R;let⟨m,r,pl,C⟩:=I.tuple d;let⟨j,f,e,M,G,F⟩:=Jo he;let⟨w,g,k⟩:=r.get e;have hl:=r.length;have hn:=Xj;have fin:EP X o σ Q w s:=⟨z,H,I,k,q⟩
 exact fu (x:=w) pl.typeIs slot_tuple_getitem.lookup
  (getItem_tuple (j:=j) (Q:=λr J=>r=w/\EP X o σ Q r J) pl ↥0 ↥0 (by rw[Î,<-hl];exact f) ⇑g ⟨rfl,fin⟩) c
def Pb:IxR X SI:=by
 intro l slice m s σ H x y v u Q I R J h U;let⟨z,i,c,rfl,rfl,w,he,q⟩:=h;let⟨t,rfl⟩:=R;let⟨p,rfl⟩:=J;let⟨j,o,f,C,e,d⟩:=Jo he;have hl:z.cps.toList.length=z.length:=by simp[Str.length]
 rw[hl]at o e d;have hn:=Xj;exact tail_any (typeIs_str s z t) slot_str_getitem.lookup (getItem_str (c:=c) (by
   have k:iN (i < -(2 ^ 63:Int))=fM:=iJ ↥0
   have g:iN (i≥2 ^ 63)=fM:=iJ ↥0
   rw[k,g,Ω]) (by rw[o];simpa using f) ⟨.str ⟨#[c]⟩,H,I.tok _,⟨_,rfl⟩,q⟩) U
abbrev rIx(K:Frag):R2:=λx y H Q=>E1 K x y H Q\/Ru K x y H Q\/SI x y H Q
def ix_seq:IxR X<|rIx X.K:=ix_list.or (fS.or Pb)
def Uj(o:List Ã)(n j:Nat)(u:Ã):ρ (·.setIfInBounds j u) {cls:=.type "list",data:=.seq o.toArray n}={cls:=.type "list",data:=.seq (o.set j u).toArray n}:=by simp[ρ]
def Inv.lst{J:List (Í×Obj)}{σ:St}{H:Hp}{s:Æ}{p:Í}{xs:List V}(I:Inv X J σ H s)(h:H p=fJ (.lst xs)) :
  ∃(o:List Ã) (n:Nat),iu xs o/\s.heap.get? p=fJ {cls:=.type "list",data:=.seq o.toArray n}/\xs.length<=à:=by
 let⟨z,o,n,r,e⟩:=I.hok p _ h;exact⟨o,n,r,e,z⟩
variable {Â:List (Í×Obj)}{σ:St}{H:Hp}{s:Æ}
def Inv.lstUpd{p:Í}{xs ys:List V}{J its':List Ã}{o:Nat}{f:Obj->Obj}(I:Inv X Â σ H s)(h:H p=fJ (.lst xs))
  (R:s.heap.get? p=fJ {cls:=.type "list",data:=.seq J.toArray n}) (hf:f {cls:=.type "list",data:=.seq J.toArray n}={cls:=.type "list",data:=.seq its'.toArray o}) (r:iu ys its') (hz:ys.length<=à) (t:Nat) :
  Inv X Â σ (upd H p<|.lst ys) {s with heap:=s.heap.update p f,toks:=t}:=by
 have e:(s.heap.update p f).get? p=fJ {cls:=.type "list",data:=.seq its'.toArray o}:=by rw[Ě f R (by rw[hf]<;>rfl),hf]
 refine I.write (x:=p) (e:=p) (by rw[h];trivial) (.inl rfl) (λb u hb q=>(ò _ _<|Ne.symm hb).trans q) ⟨_,e⟩ ?_;exact⟨hz,its',o,r,e⟩
abbrev IZ:V->V->V->Hp->(Hp->Prop)->Prop:=λo i v H Q=>∃p xs k j,o=.ref p/\i=.int k/\H p=fJ (.lst xs)/\ixN xs.length k=fJ j/\Q (upd H p<|.lst<|xs.set j v)
def OD:PSet X IZ:=by
 intro Â s σ H o i v y z u Q I l m g h;let⟨p,xs,k,j,rfl,rfl,hp,x,q⟩:=h;cases l;let⟨t,rfl⟩:=m;let⟨c,n,r,R,w⟩:=I.lst hp;let⟨J,C,e,d⟩:=Nt x;have hl:=r.length;have hn:=Xj;have f:Inv X Â σ (upd H p<|.lst<|xs.set j v) {s with heap:=s.heap.update p (ρ (·.setIfInBounds j u))} :=
  I.lstUpd hp R (Uj c n j u) (r.set g j) (by rw[ϗ];exact w) s.toks
 by_cases h0:0<=k
 .have U:k.toNat=j:=by
   rw[bV h0 d]at J;exact ë J
  exact PySem.W.ki_setAt R h0 ↥0 (by rw[Î,<-hl];exact d) (by rw[U];exact⟨_,f,q⟩)
 .have U:(k+(c.toArray.size:Int)).toNat=j:=by
   rw[bj ↥0 e]at J;rw[Î,<-hl];exact ë J
  exact PySem.W.ki_setBack R ↥0 (by rw[Î,<-hl];exact e) ↥0 (by rw[U];exact⟨_,f,q⟩)
def Wq(lo hi:Option Int)(n:Nat):(ĝ lo hi fK n).1=((HT.sIx n 0 lo:Nat):Int)/\(ĝ lo hi fK n).2.1=((HT.sIx n n hi:Nat):Int)/\(ĝ lo hi fK n).2.2=1:=by
 refine⟨?_,?_,rfl⟩
 .cases lo with
  |none=>simp[ĝ,HT.sIx]
  |some i =>
   simp![ĝ,HT.sIx,eR,show(1:Int) > 0 by decide,if_true];by_cases h:i<0
   .simp![h,if_true]<;>lia
   .simp![h,if_false]<;>lia
 .cases hi with
  |none=>simp[ĝ,HT.sIx]
  |some i =>
   simp![ĝ,HT.sIx,eR,show(1:Int) > 0 by decide,if_true];by_cases h:i<0
   .simp![h,if_true]<;>lia
   .simp![h,if_false]<;>lia
def KH(o:List Ã)(lo hi:Option Int):eS o.toArray lo hi fK=((o.drop<|HT.sIx o.length 0 lo).take<|HT.sIx o.length o.length hi - HT.sIx o.length 0 lo).toArray:=by let⟨R,J,I⟩:=Wq lo hi o.toArray.size;unfold eS;rw[R,J,I];simp![sliceRange_one,pick_run,Î]<;>rfl
abbrev RY(K:Frag):V->Option Int->Option Int->Hp->VK->Prop:=λx lo hi H Q=>∃a xs,x=.ref a/\iq K H a xs/\∀p,H p=fK->Q (.ref p) (upd H p<|.lst<|MK xs lo hi)
def sl_list:SlR X<|RY X.K:=by intro Â s σ H x v f e lo hi g Q I J c pl pu h;let⟨a,xs,rfl,U,q⟩:=h;cases J;let⟨d,r,ht,R⟩:=I.list U;have hlen:=r.length;refine⟨"list",_,bo.lookup,ht.isList.typeIs,?_⟩;refine dY ht.isList c pl pu .none (by simp) ?_ (by rw[Î]<;>lia);rw[KH,<-hlen];refine⟨.ref s.heap.objs.size,_,I.laid (t':=s.toks) (o:=.lst<|MK xs lo hi) (λb j q=>Ä _ q) (Ì _) ?_,rfl,q _<|I.hok.fresh<|Ì _⟩;exact⟨Ù (Jb xs lo hi) R,_,0,(r.drop<|HT.sIx xs.length 0 lo).take<|HT.sIx xs.length xs.length hi - HT.sIx xs.length 0 lo,Ú _ rfl⟩
abbrev eqV:V->V->Bool
 |.non,.non=>fL
 |.bl a,.bl b=>a==b
 |.bl a,.int b=>(if a then 1 else 0)==b
 |.int a,.bl b=>a==(if b then 1 else 0)
 |.int a,.int b=>a==b
 |.str a,.str b=>a==b
 |_,_=>fM
abbrev inV(x:V)(xs:List V):Bool:=xs.any λy=>eqV y x
def M6:OpR X (î .NotIn) λx y H Q=>∃i j,x=.str i/\y=.str j/\Q (.bl (!(!(Builtin.Str.occurrences j i 0 j.length 1).isEmpty))) H:=by walk_at "A";let⟨i,j,rfl,rfl,q⟩:=h;let⟨t,rfl⟩:=rx;let⟨o,rfl⟩:=ry;exact notIn_str ⟨.bl _,H,I,rfl,q⟩
def call_len_seq:fU X (.builtin "len") λxs H Q=>∃p ys,xs=[.ref p]/\(iq X.K H p ys\/ir X.K H p ys)/\Q (.int ys.length) H:=by
 walk_at "D";let⟨p,ys,rfl,o,q⟩:=h;let⟨u,rfl,U⟩:=ZR r;cases U;have hn:=Xj;rcases o with o|o
 .obtain⟨R,J,pl,c⟩:=I.list o;have hlen:=J.length;exact Calls.call_len_list pl.isList (by simp![Î]<;>lia) ⟨.int ys.length,H,I.tok _,⟨s.toks+1,by rw[Î,hlen]⟩,q⟩
 .obtain⟨R,J,pl,c⟩:=I.tuple o;have hlen:=J.length;exact len_tuple pl (by simp![Î]<;>lia) ⟨.int ys.length,H,I.tok _,⟨s.toks+1,by rw[Î,hlen]⟩,q⟩
def Nk:fU X (.builtin "len") λxs H Q=>∃z,xs=[.str z]/\z.length<=à/\Q (.int z.length) H:=by walk_at "D";let⟨z,rfl,o,q⟩:=h;let⟨u,rfl,t,rfl⟩:=ZR r;have hn:=Xj;exact len_str ↥0 ⟨.int z.length,H,I.tok _,⟨_,rfl⟩,q⟩
def fU.or{f:Ã}{r o:List V->Hp->VK->Prop}(h:fU X f r)(h':fU X f o):fU X f λxs H Q=>r xs H Q\/o xs H Q:=by
 intro Â s σ H xs us Q I rs q;rcases q with q|q
 .exact h Â s σ H xs us Q I rs q
 .exact h' Â s σ H xs us Q I rs q
def M5:fU X (.type "list") λxs H Q=>∃p ys,xs=[.ref p]/\(iq X.K H p ys\/ir X.K H p ys)/\∀l,H l=fK->Q (.ref l) (upd H l<|.lst ys):=by
 walk_at "D";let⟨p,ys,rfl,g,q⟩:=h;let⟨u,rfl,v⟩:=ZR r;cases v;have fin:∀(R:List Ã),iu ys R->ys.length<=à->∀(J:Ĉ) (d:Nat),(∀b m,s.heap.get? b=fJ m->J.get? b=fJ m)->
   J.get? s.heap.objs.size=fJ {cls:=.type "list",dict:=fK,data:=.seq R.toArray d,slots:=#[]}->EP X Â σ Q (.ref s.heap.objs.size) {s with heap:=J}:=λR U f J d kp e =>
  ⟨.ref s.heap.objs.size,_,I.laid (t':=s.toks) kp (Ì _) (show fV X.prog X.w _ J _ (.lst ys) from ⟨f,R,d,U,e⟩),rfl,q _<|I.hok.fresh<|Ì _⟩
 rcases g with g|g
 .obtain⟨R,U,pl,f⟩:=I.list g;have hlen:=U.length;let⟨o,j,k,n,hd⟩:=pl.isList;exact call_list_seq p (.inl rfl) j k hd (λJ d kp e=>fin R U f J d kp e) (by simp![Î]<;>lia)
 .obtain⟨R,U,pl,f⟩:=I.tuple g;have hlen:=U.length;let⟨o,j,k,n,hd⟩:=pl;exact call_list_seq p (.inr rfl) j k hd (λJ d kp e=>fin R U f J d kp e) (by simp![Î]<;>lia)
def KN:fU X (.type "tuple") λxs H Q=>∃p ys,xs=[.ref p]/\((iq X.K H p ys/\∀l,H l=fK->Q (.ref l) (upd H l<|.tup ys))\/(ir X.K H p ys/\Q (.ref p) H)):=by
 walk_at "D";let⟨p,ys,rfl,h⟩:=h;let⟨u,rfl,g⟩:=ZR r;cases g;rcases h with⟨c,q⟩|⟨c,q⟩
 .obtain⟨R,U,pl,d⟩:=I.list c;have hlen:=U.length;refine call_tuple_list pl.isList (λJ kp=>?_) (by simp![Î]<;>lia);have f:Inv X Â σ H {s with heap:=J}:=I.kept (t':=s.toks) kp;have j:Inv X Â σ (upd H J.objs.size<|.tup ys) {s with heap:=J.push {cls:=.type "tuple",data:=.seq R.toArray}} :=
   f.laid (t':=s.toks) (λb o e=>Ä _ e) (Ì _) (show fV X.prog X.w _ _ _ (.tup ys) from ⟨d,R,U,IsTup.new _ _⟩)
  exact⟨.ref J.objs.size,_,j,rfl,q _<|f.hok.fresh<|Ì _⟩
 .obtain⟨R,U,pl,d⟩:=I.tuple c;exact call_tuple_same pl ⟨.ref p,H,I,rfl,q⟩
abbrev tyV(K:Frag)(T:String)(x:V)(H:Hp):Prop:=match x with
 |.str _=>T = "str"
 |.int _=>T = "int"
 |.ref p=>(T = "list"/\∃xs,iq K H p xs)\/(T = "tuple"/\∃o,K.lookup p=fJ o/\o.cls=.type "tuple"/\o.dict=fK)\/
   (T = "dict"/\((∃I,H p=fJ (.dK I))\/∃I,H p=fJ (.dT I)))\/(T = "set"/\∃S n,H p=fJ (.set S n))
 |_=>False
def LE{T:String}(I:Inv X Â σ H s)(r:RelV x v)(ty:tyV X.K T x H) :
  s.TypeIs v T/\∀a,v=.ref a->∃d,s.heap.get? a=fJ d/\d.dict=fK:=by
 cases x with
 |str z =>let⟨t,rfl⟩:=r;cases (show T = "str" from ty);exact⟨typeIs_str s z t,λ_ e=>nomatch e⟩
 |int i =>let⟨t,rfl⟩:=r;cases (show T = "int" from ty);exact⟨typeIs_int s i t,λ_ e=>nomatch e⟩
 |ref p =>
  cases r;rcases ty with⟨rfl,xs,f⟩|⟨rfl,o,J,g,hd⟩|⟨rfl,J⟩|⟨rfl,S,n,J⟩
  .obtain⟨h,_,pl,_⟩:=I.list f;refine⟨pl.isList.typeIs,λa e=>?_⟩;cases e;let⟨o,n,e,c,hd,_⟩:=pl;exact⟨o,e,hd⟩
  .refine⟨⟨o,I.kIn p o J,g⟩,λa e=>?_⟩;cases e;exact⟨o,I.kIn _ o J,hd⟩
  .have z:∃o,s.heap.get? p=fJ o/\o.ExactDict:=by
    rcases J with⟨R,J⟩|⟨R,J⟩
    .obtain⟨_,_,_,_,o,_,_,e,ex,_⟩:=I.hok p _ J;exact⟨o,e,ex⟩
    .obtain⟨_,_,_,_,o,_,_,e,ex,_⟩:=I.hok p _ J;exact⟨o,e,ex⟩
   let⟨o,e,ex⟩:=z;refine⟨⟨o,e,ex.1⟩,λa U=>?_⟩;cases U;exact⟨o,e,ex.2.1⟩
  .obtain⟨o,_,_,_,e,ex,_⟩:=I.hok p _ J;refine⟨⟨o,e,ex.1⟩,λa U=>?_⟩;cases U;exact⟨o,e,ex.2.1⟩
 |_=>exact Ŋ ty
abbrev tBM(K:Frag)(T:String)(r:V->List V->Hp->VK->Prop)(to:TE)(t:TA):TE:=λσ H Q=>to σ H λx o=>tyV K T x o/\t σ o λxs I=>r x xs I Q
variable {o e:Expr}{t:TA}{name:Str}{Ő Œ:Pos}{T id:String}{r:V->List V->Hp->VK->Prop}
def Sz(j:PlainAttrs T)(slot:Slot T name id)(J:typeOf (.builtin id)=pure (.type "method_descriptor"))(hm:MtR X id r)(l:PE X o to)(ha:PA X (e::es) t)(w:Ġ o name X.env (eval o X.env)=eval o X.env:=by rfl)(y:((ğ Œ<|Þ (e::es) X.env).all (λx=>!x.1)&&(Ŷ Œ<|ń [] X.env).all (λx=>x.1.isSome)
    && iN ((e::es).length+([]:List Ϣ).length+(if([]:List Ϣ).isEmpty then 0 else 1)<30))=fL:=by rfl)(u:(Ő.endLine==Œ.line)=fL:=by rfl)(k:Þ (e::es) X.env=(fM,eval e X.env)::Þ es X.env:=by rfl)(q:(ğ Œ<|Þ es X.env).any (·.1)=fM:=by rfl) :
  PE X (.Call (.Attribute o name Ő) (e::es) [] Œ) (tBM X.K T r to t):=by
 walk_at "B";refine wpAny_Call_method_late w y u rfl<|thn (l Â s σ H _ I h) λv s1 ⟨x,F,U,r1,ty,g⟩=>?_;let⟨p,m⟩:=LE U r1 ty;refine⟨T,id,j,slot,J,p,m,?_⟩;have R:=ha Œ Â s1 σ F _ U g;rw[k]at R ⊢;refine Calls.callWith_builtin (by show(fM||(ğ Œ<|Þ es X.env).any (·.1))=fM;rw[q]<;>rfl)<|Calls.evalArgs_plain ?_;exact thn R λus s2 ⟨c,C,z,d,f⟩=>hm Â s2 σ C x c v us Q z r1 d f
/- xs.append(e),list.index on a module's tuple .. are MtR facts of 06m -/
end
abbrev MtM(X:Cx)(id:String)(r:V->List V->Hp->VK->Prop):Prop :=
 ∀(o:List<|Í×Obj) (s:Æ) (σ:St) (H:Hp) (x:V) (xs:List V) (v:Ã) (us:List Ã) (Q:VK),Inv X o σ H s->RelV x v->iu xs us->r x xs H Q->
  wpAny ↥2 X.A (call (.builtin id)<|v::us) (EP X o σ Q) X.xe s
variable {x:V}{us:List Ã}
def iu.one(r:iu [x] us):∃u,us=[u]/\RelV x u:=ZR r
def iu.two(r:iu [x,y] us):∃u v,us=[u,v]/\RelV x u/\RelV y v:=U6 r
def iu.eraseIdx:∀{xs:List V}{us:List Ã}(i:Nat),iu xs us->iu (xs.eraseIdx i) (us.eraseIdx i)
 |_,_,_,.nil=>.nil
 |_,_,0,.cons _ t=>t
 |_,_,i+1,.cons r t=>.cons r<|iu.eraseIdx i t
def iu.rep(h:iu xs us):∀k:Nat,iu (ß k xs).flatten (ß k us).flatten
 |0=>.nil
 |k+1=>by rw[Ē,Ē,ŉ,ŉ];exact iu.append h<|iu.rep h k
def K4:∀(l:List α) (i:Nat),(l.eraseIdx i).length<=l.length
 |[],_=>Ì _
 |_::_,0=>ŋ _
 |_::r,i+1=>ς<|K4 r i
def MA(I:List Ã):∀(k:Nat) (o:List Ã),
  eU (λx1 x2=>x1++x2) o.toArray (ß k I.toArray)=(o++(ß k I).flatten).toArray
 |0,o=>by simp
 |k+1,o=>by
  have e:o.toArray++I.toArray=(o++I).toArray:=by simp
  have J:(o++I)++(ß k I).flatten=o++(ß (k+1) I).flatten:=by rw[Ē,ŉ,ü]
  rw[<-J,<-MA I k (o++I),<-e,Ē,ķ]
section
variable {X:Cx}{Â:List (Í×Obj)}{σ:St}{H:Hp}{s:Æ}{l b:Í}{xs ys:List V}
variable {ó:List Ã}{n:Nat}{t':Nat}
def Inv.lset(I:Inv X Â σ H s)(R:H l=fJ (.lst xs))(e:s.heap.get? l=fJ {cls:=.type "list",data:=.seq ó.toArray n})(hf:f ó.toArray=its'.toArray)(o:iu ys its')(hz:ys.length<=à) :
  Inv X Â σ (upd H l<|.lst ys) {s with heap:=s.heap.update l<|ρ f,toks:=t'}:=by
 have q:=PySem.IsL.update e f;rw[hf]at q;refine I.write (x:=l) (e:=l) (by rw[R];exact trivial) (.inl rfl) (λU u hb J=>(ò s.heap (ρ f)<|Ne.symm hb).trans J) ⟨_,q⟩ ?_;exact⟨hz,its',_,o,q⟩
def Inv.lnew(I:Inv X Â σ H s)(o:iu ys ó)(hz:ys.length<=à) :
  Inv X Â σ (upd H s.heap.objs.size<|.lst ys) {s with heap:=s.heap.push {cls:=.type "list",data:=.seq ó.toArray},toks:=t'} :=
 I.laid (λ_ _ q=>Ä _ q) (Ì _) ⟨hz,ó,0,o,Ú _ rfl⟩
def Inv.fresh(I:Inv X Â σ H s):H s.heap.objs.size=fK:=I.hok.fresh (Ì _)
def Inv.lstM(I:Inv X Â σ H s)(o:H l=fJ (.lst xs)):xs.length<=à/\∃(ó:List Ã) (n:Nat),iu xs ó/\xs.length=ó.length/\s.heap.get? l=fJ {cls:=.type "list",data:=.seq ó.toArray n}:=by let⟨z,ó,n,r,e⟩:=I.hok l _ o;exact⟨z,ó,n,r,r.length,e⟩
def Oi(h:n<=à):Builtin.List.listTooLong n=fM:=by unfold Builtin.List.listTooLong;exact iJ ↥0
end
section
abbrev AF:V->List V->Hp->VK->Prop:=λx o H Q=>∃l xs y,x=.ref l/\o=[y]/\H l=fJ (.lst xs)/\xs.length<à/\Q .non (upd H l<|.lst<|xs++[y])
def Cl:MtM X "list.append" AF:=by intro b s σ H x c v us Q I R U h;let⟨l,xs,y,rfl,rfl,J,d,q⟩:=h;cases R;let⟨u,rfl,a⟩:=U.one;let⟨z,o,n,r,hl,e⟩:=I.lstM J;refine aQ F.slot_list_append ⟨_,e,rfl⟩ F.entry_list_append (F.args_list_append_2 _ _) (PySem.list_append l o.toArray n u<|by rw[Î];lia) ⟨e,?_⟩;refine⟨.non,_,I.lset (its':=o++[u]) J e (by simp) (r.append<|.cons a .nil) ?_,rfl,q⟩;rw[á,ν];lia
abbrev E6:V->List V->Hp->VK->Prop:=λx o H Q=>∃l xs i k y,x=.ref l/\o=[.int i]/\H l=fJ (.lst xs)/\-(2 ^ 63)<=i/\i<2 ^ 63/\seqIndex? i xs.length=fJ k/\xs[k]?=fJ y/\Q y (upd H l<|.lst<|xs.eraseIdx k)
def ER:MtM X "list.pop" E6:=by
 intro j s σ H x m v us Q I R U h;let⟨l,xs,i,k,y,rfl,rfl,J,f,d,c,b,q⟩:=h;cases R;let⟨u,rfl,a⟩:=U.one;let⟨t,rfl⟩:=a;let⟨z,o,n,r,hl,e⟩:=I.lstM J;let⟨w,hw,g⟩:=r.get b;refine aQ F.slot_list_pop ⟨_,e,rfl⟩ F.entry_list_pop (F.args_list_pop_2 _ _)
  (MeetsSeq.list_pop_at l o.toArray n i t k w (fitsIndex_both f d) (by rw[Î,<-hl];exact c) (by rw[<-Ą];exact hw)<|by rw[Î];lia) ⟨e,?_⟩
 refine⟨y,_,I.lset (its':=o.eraseIdx k) J e ?_ (r.eraseIdx k) ?_,g,q⟩
 .show o.toArray.eraseIdxIfInBounds k=(o.eraseIdx k).toArray;rw[List.eraseIdxIfInBounds_toArray]
 .have:=K4 xs k;lia
abbrev S4:R2:=λx y H Q=>∃l b xs zs,x=.ref l/\y=.ref b/\H l=fJ (.lst xs)/\H b=fJ (.lst zs)/\xs.length+zs.length<=à/\∀p,H p=fK->Q (.ref p) (upd H p<|.lst<|xs++zs)
def LQ:OpR X (Ŏ .Add) S4:=by
 walk_at "A";let⟨l,b,xs,zs,rfl,rfl,a,hB,g,q⟩:=h;cases rx;cases ry;let⟨z,J,n,r,hl,e⟩:=I.lstM a;let⟨z2,o,f,R,U,d⟩:=I.lstM hB;refine PySem.P.add_list e d ?_ (by rw[Î,Î];lia);have c:J.toArray++o.toArray=(J++o).toArray:=by simp
 rw[c];exact⟨.ref _,_,I.lnew (t':=s.toks) (r.append R) (by rw[á];lia),rfl,q _ I.fresh⟩
abbrev Rk:R2:=λx y H Q=>∃l k xs,x=.ref l/\y=.int k/\H l=fJ (.lst xs)/\-(2 ^ 63)<=k/\k<2 ^ 63/\xs.length*k.toNat<=à/\
 ∀p,H p=fK->Q (.ref p) (upd H p<|.lst (ß k.toNat xs).flatten)
def Ia(xs:List α)(k:Nat):(ß k xs).flatten.length=k*xs.length:=by
 induction k with
 |zero=>simp
 |succ k ih=>rw[Ē,ŉ,á,ih,Nat.succ_mul,Nat.add_comm]
def op_rep:OpR X (Ŏ .Mult) Rk:=by
 walk_at "A";let⟨l,k,xs,rfl,rfl,g,p,j,d,q⟩:=h;cases rx;let⟨t,rfl⟩:=ry;let⟨z,o,n,r,hl,e⟩:=I.lstM g;have hlen:o.toArray.size*k.toNat<=à:=by rw[Î,<-hl];exact d
 have c:¬ o.toArray.size*k.toNat > (2 ^ 63 - 1) / 8:=by
  have:(à:Nat)<=(2 ^ 63 - 1) / 8:=by decide
  lia
 have b:¬ (!Builtin.List.listFitsIndex k)=fL:=by rw[fitsIndex_both p j];exact ă
 have J:¬ Builtin.List.listTooLong (o.toArray.size*k.toNat)=fL:=by rw[Oi hlen];exact ă
 have R:eU (λx1 x2=>x1++x2) #[] (ß (if o.toArray.isEmpty=fL then 0 else k.toNat) o.toArray)=(ß k.toNat o).flatten.toArray:=by
  have f0:∀m:Nat,eU (λx1 x2=>x1++x2) #[] (ß m o.toArray)=(ß m o).flatten.toArray:=λm=>by have:=MA o m [];rw[be]at this;exact this
  rw[f0];cases o with
  |nil=>simp
  |cons a r'=>rw[iI<|by simp]
 refine wpAny_binaryOp_repeat_ref (T:="list") (U:="int") ↥1 ⟨_,e,rfl⟩ (λf=>typeIs_int f k t) noFill_list_mul F.fills_int_mul F.slot_int_rmul repeat_list F.slot_int_index.lookup
  (aQ F.slot_int_rmul (typeIs_int s k t) F.entry_int_rmul (F.args_int_rmul_2 _ _) (int___rmul___int_list k t l o.toArray n)
    ⟨e,rfl,⟨_,e,rfl⟩,aQ F.slot_list_mul ⟨_,e,rfl⟩ F.entry_list_mul (F.args_list_mul_2 _ _) (AutoListH.list___mul___list_int_3 l o.toArray n k t b c J) ⟨e,?_⟩⟩)
 rw[R];exact⟨.ref _,_,I.lnew (t':=s.toks) (r.rep k.toNat) (by rw[Ia,cP];exact d),rfl,q _ I.fresh⟩
end
section
variable {w:û}{E:Ã->Æ->Prop}
def A6(o I:List Ã)(a c:Nat):o.toArray.extract 0 a++I.toArray++o.toArray.extract c o.toArray.size=(o.take a++I++o.drop c).toArray:=by
 apply aD.mp
 first
  | (simp
     exact ż<|by simp)
  |simp[ż]
  |simp
end
end L2
namespace Att
open PySem PySem.W PySem.Calls PyProof.Rows
variable {P:Params}{h:Ĉ}
def Jf:∀(ns:List Int) (vs:List Ã),WellAll P h vs (ns.map WData.int)->č vs ns:=by
 intro ns;induction ns with
 |nil =>intro vs w;rw[ň]at w;cases w;exact .nil
 |cons n ns ih =>
  intro vs w;rw[Ò]at w;cases w with
  |cons a b =>cases a;exact .cons _ _<|ih _ b
variable {l:OpenLaw}{n:Nat}
def BJ(hn:l.most=fJ n)(o:l.row.toRowW.claim.pre args=fL)(R:WellAll P h vals args) :
  ∃a vs ns,vals=[Value.ref a]/\args=[WData.list<|ns.map WData.int]/\h.get? a=fJ {cls:=.type "list",data:=.seq vs.toArray}/\č vs ns/\ns.length<=n:=by
 have U:WShape.hasAll [] args [.list .int]=fL:=(pre_splitW o).1;have b:l.pre.holds [] {args:=args}=fL:=(pre_splitW o).2;let⟨d,r,rfl,g,f⟩:=hasAllW_cons U;obtain rfl:=hasAllW_nil f;let⟨xs,rfl,e⟩:=hasW_list g;let⟨ns,rfl⟩:=items_int e;have hlen:ns.length<=n:=by
  unfold OpenLaw.pre at b;have J:(WTm.not<|.lt (.lit<|.int (n:Int))<|.len<|.arg 0).holds [] {args:=[.list<|ns.map .int]}=fL:=by have J:=(holds_andW b).1;rw[hn]at J;exact J
  have I:=condW_of J<|w_not<|w_lt w_lit<|w_len_list<|w_arg rfl;rw[Á]at I;refine Nat.le_of_not_lt λq=>?_;have c:(n:Int)<((ns.length:Nat):Int):=by lia
  first
   |(rw[iK c]at I;exact iM I<|by decide)
   |(simp at I;lia)
 cases R with
 |cons w1 w2 =>
  cases w2;cases w1 with
  |list ho hall=>exact⟨_,_,ns,rfl,rfl,ho,Jf ns _ hall,hlen⟩
def Ch(l:OpenLaw)(args:List WData):l.row.toRowW.claim.post args (.bool fL) args=fL :=
 postW_of (r:=l.row.toRowW) (X:=(fL==fL))
  (show WShape.has [] (.bool fL) .bool=fL by first|rfl|decide|simp[WShape.has,WShape.arms,WShape.armsAll])
  (show(WTm.eq .res<|.lit<|.bool fL).value [] {args:=args,res:=fJ<|.bool fL,after:=args}=fJ (.bool<|fL==fL) from w_eq_bool (w_res rfl) w_lit) rfl
def attach_call(hn:l.most=fJ n)(e:d.params.defaults=[])(call:∀(w:û) (s₀ I:Æ) (mg mb:Str->Option Ã) (R:Í) (o:Obj) (pm cd doc:Ã) (a:Í) (vs:List Ã) (ns:List Int),
    Ground q loose [] XP w s₀ mg mb I.heap->YP w I.heap->
    I.heap.get? R=fJ o->o.data=.func (docDef d.name d.params d.body d.scope pm cd doc)->I.heap.CodeRec cd d.name->mg d.name=fJ (.ref R)->
    I.heap.get? a=fJ {cls:=.type "list",data:=.seq vs.toArray}->č vs ns->ns.length<=n->I.gens=#[]->
    codeAny (â l.prog w) ap (.call (.ref R) ⟨[.ref a],[]⟩) (λr U=>r=.ok (.ret<|.bool fL)/\OldK I.heap U.heap/\U.os=I.os/\ϑ U.gens) I) :
  WalkO q loose XP YP l.row.toRowW d [] (λf vs=>PySem.call f vs):=by
 intro w s₀ I mg mb G Y R o pm cd doc y kV m hd z i c t args vals as J g j b p;obtain rfl:y=.none:=Dflts.none i e;obtain rfl:kV=.none:=Dflts.noKw i;let⟨a,vs,ns,rfl,rfl,C,hints,hlen⟩:=BJ hn J b;refine enter_call<|π (call w s₀ I mg mb R o pm cd doc a vs ns G Y m (fd_plain hd) z c C hints hlen t) λr U k=>?_;let⟨rfl,x,v,u⟩:=k;exact⟨.inl ⟨.bool fL,.bool fL,[],rfl,λ_=>rfl,.bool fL,Ch l _,λ_=>⟨List.Pairwise.nil,λ_ hm=>(nomatch hm)⟩⟩,x,v,u⟩
end Att
namespace L2
open PySem PySem.Spec PyProof.Rows
def WM:∀{vs:List Ã}{ns:List Int},č vs ns->iu (ns.map V.int) vs
 |_,_,.nil=>.nil
 |_,_,.cons n t h=>.cons ⟨t,rfl⟩<|WM h
abbrev Ra(H:Hp):Prop:=∀b,H b=fK\/∃o xs,H b=fJ (.frz o<|.lst xs)
def DS{K:Frag}(KX:K.In ġ.heap)(f:ġ.heap.Ns Č mg)(hb:ġ.heap.Ns builtinsNs mb)(p:∀x:Str,x≠"__name__"->mb x=ř x)(g:ġ.heap.NoLimit)(hg:ġ.gens=#[])(ha:ġ.heap.get? a=fJ {cls:=.type "list",data:=.seq vs.toArray})(hi:č vs ns)(hl:ns.length<=à)(hr:gL k ap)(F:∀base:Ĉ,K.In base->base.Ns Č mg->gN P w K mg base CX k y fd [x] sp)(R:∀(s:Æ) (u:Ã),BindsTo s fd ⟨[u],[]⟩ [(x,u)])(l:∀H:Hp,Ra H->iq K H a (ns.map V.int)->sp [.ref a] H (λv _=>v=.bl fL) λ_ _ _=>False)(t:∀H e I,CX [] H ġ (λ_ _ _=>False) e I->False) :
  codeAny (â P w) ap (.call (.ref y) ⟨[.ref a],[]⟩) (λr I=>r=.ok (.ret<|.bool fL)/\OldK ġ.heap I.heap/\I.os=ġ.os/\ϑ I.gens) ġ:=by
 have G:=WM hi;have hU:=hi.length;have core:∀H:Hp,Ra H->iq K H a (ns.map V.int)->HOk P w H ġ.heap->(∀b,H b≠fK->b=a)->(H a≠fK->K.lookup a=fK)->
   codeAny (â P w) ap (.call (.ref y) ⟨[.ref a],[]⟩) (λr I=>r=.ok (.ret<|.bool fL)/\OldK ġ.heap I.heap/\I.os=ġ.os/\ϑ I.gens) ġ:=by
  intro H M hS hok O hK;have dN:∀{b:Í}{o:Obj},ġ.heap.get? b=fJ o->H b=fK->(M2 ġ.heap H).get? b=fJ o:=λe n=>Eg e n;have j:∀{b:Í}{o:Obj}{es:Array DictEntry}{ep:Nat},ġ.heap.get? b=fJ o->o.data=.dict es ep->H b=fK:=λ{b o es ep} e d=>by
   cases q:H b with
   |none=>rfl
   |some u =>have C:b=a:=O b (by rw[q];simp);subst C;rw[ha]at e;cases e;have d':Data.seq vs.toArray _=Data.dict es ep:=d;cases d'
  have J:∀{b:Í}{m:Str->Option Ã},ġ.heap.Ns b m->(M2 ġ.heap H).Ns b m:=λ{b m} ⟨o,es,ep,e,d,r⟩=>⟨o,es,ep,dN e<|j e d,d,r⟩
  have i:K.In<|M2 ġ.heap H:=λb o e=>dN (KX b o e) (by
    cases q:H b with
    |none=>rfl
    |some u =>
      have C:b=a:=O b (by rw[q];simp)
      subst C
      rw[hK<|by rw[q];simp]at e;cases e)
  have hM:Mod K mg<|M2 ġ.heap H:=⟨i,J f,⟨mb,J hb,p⟩,let ⟨mc,h1,h2⟩:=g;⟨mc,J h1,h2⟩⟩
  have e0:Env0 P w K mg (M2 ġ.heap H) ap [] ġ H:=⟨rfl,hM,λb o e=>Gj e,Nat.le_of_eq<|Bu _ _,trivial,λb hb=>iM (show b∈([]:List Í) from hb) (by simp),hok,.of_eq hg⟩
  refine π ((F _ i<|J f).run ap [] ġ H ⟨[.ref a],[]⟩ [.ref a] [.ref a] _ _ hr e0 (R ġ<|.ref a) (.cons rfl .nil)<|l H M hS) λr I h=>?_;cases r with
  |error e=>exact(t H e I h).elim
  |ok fl =>
   cases fl with
   |next=>exact Ŋ h
   |brk=>exact Ŋ h
   |cont=>exact Ŋ h
   |ret u =>
    let⟨v,H',os,bare,un,c,r',q⟩:=h;have q':v=.bl fL:=q;subst q';obtain rfl:u=Value.bool fL:=r';refine⟨rfl,OldK.of_keep λb o e=>?_,os,bare⟩;cases q:H b with
    |none=>exact un.keep b o e q (by intro z;exact iM (show b∈([]:List Í) from z)<|by simp) (by simp)
    |some u =>
     rcases M b with z|⟨ob,xs,z⟩
     .rw[q]at z;cases z
     .have z2:=un.frzs b ob _ z;let⟨W,_⟩:=hok b _ z;let⟨e2,_⟩:=c b _ z2;rw[e]at W;cases W;exact e2
 cases hk:K.lookup a with
 |some o =>have e:=KX a o hk;rw[ha]at e;cases e;refine core (λ_=>fK) (λ_=>.inl rfl) (.inr ⟨_,vs.toArray,_,hk,rfl,rfl,rfl,by rw[Î,hU];exact hl,⇑G⟩) (λb u z=>by have U:(fK:Option HO)=fJ u:=z;cases U) (λb z=>iM rfl z) λz=>iM rfl z
 |none =>
  refine core (λb=>if b=a then fJ (.frz {cls:=.type "list",data:=.seq vs.toArray}<|.lst<|ns.map V.int)else fK) (λb=>?_) (.inl<|.inr ⟨{cls:=.type "list",data:=.seq vs.toArray},iH rfl⟩) (λb u z=>?_) (λb z=>?_) λ_=>hk
  .by_cases hb:b=a
   .exact .inr ⟨_,_,iH hb⟩
   .exact .inl<|iI hb
  .by_cases hb:b=a
   .have U:=(iH hb).symm.trans z;cases U;subst hb;exact⟨ha,by rw[Á];exact hl,vs,_,G,ha⟩
   .have U:=(iI hb).symm.trans z;cases U
  .by_cases hb:b=a
   .exact hb
   .exact iM (iI hb) z
abbrev YW(s:ľ):Arguments:=match s with
 |.FunctionDef _ a _ _ _ _ _ _ _ _=>a
 |_=>{posonlyargs:=[],args:=[],vararg:=fK,kwonlyargs:=[],kw_defaults:=[],kwarg:=fK,defaults:=[]}
abbrev ZT(s:ľ):List ľ:=match s with
 |.FunctionDef _ _ b _ _ _ _ _ _ _=>b
 |_=>[]
abbrev Zv(s:ľ):Γ:=match s with
 |.FunctionDef _ _ _ _ _ _ sc _ _ _=>sc
 |_=>{kind:=.function,names:=[],isGenerator:=fM,isCoroutine:=fM}
structure Fun(K:Frag)(x qual:Str)(st:ľ)(f:Í)(fd:ŏ):Prop where
 ex:∃(oc:Ã) (od:Option Í) (kV doc pm:Ã) (an:Option Í) (ϩ ct:Ã) (osl:Array<|Option Ã),
  fd=PySem.W.fnOf x qual (YW st) (ZT st) (Zv st) .none kV doc pm an ϩ ct/\K.lookup f=fJ ⟨oc,od,.func fd,osl⟩/\PySem.W.codeIn K ϩ qual=fL
 kp:PySem.W.keepIn K (.ref f)=fL
section
variable {P:æ}{K:Frag}
variable {x:Str}{qual:Str}{st:ľ}{f:Í}
def Fun.binds(F:Fun K x qual st f fd)(h:∀(kV doc pm:Ã) (an:Option Í) (o ct:Ã) (us:List Ã),us.length=ps.length->bindArgs (PySem.W.fnOf x qual (YW st) (ZT st) (Zv st) .none kV doc pm an o ct) ⟨us,[]⟩=pure (ps.zip us)):Binds K fd ps []:=by
 let⟨R,J,kV,doc,pm,an,o,ct,I,rfl,U,a⟩:=F.ex;exact .all<|h kV doc pm an o ct
def E8{kV:Ã}(l:K.lookup f=fJ ⟨R,J,.func<|PySem.W.fnOf x qual (YW st) (ZT st) (Zv st) .none kV doc pm an I ct,o⟩)(c:PySem.W.codeIn K I qual=fL)(k:PySem.W.keepIn K (.ref f)=fL):Fun K x qual st f<|PySem.W.fnOf x qual (YW st) (ZT st) (Zv st) .none kV doc pm an I ct:=⟨⟨R,J,kV,doc,pm,an,I,ct,o,rfl,l,c⟩,k⟩
end
section
variable {X:Cx}
def pv(i:Nat){x:Str}{o:Pos}(J:X.N[i]?=fJ x:=by rfl)(I:Vis X.env.scope x:=by first|exact Or.inl rfl|exact Or.inr (Or.inl rfl)|exact Or.inr<|Or.inr rfl)(hd:(x==("__debug__" : Str))=fM:=by decide)
  (R:(x==("__classdict__" : Str))=fM:=by decide):PE X (.Name x o)<|SU i:=EN J I hd R
end
abbrev Same(H H':Hp):Prop:=∀b o,H b=fJ o->H' b=fJ o
def Same.refl(H:Hp):Same H H:=λ_ _ h=>h
def Same.trans(a:Same H I)(b:Same I H2):Same H H2:=λc o h=>b c o (a c o h)
end L2
set_option maxHeartbeats 4000000
namespace L2
open PySem PySem.Spec PyProof.Rows
def HOk.track(x:HOk P w H h)(hn:H a=fK)(new:fV P w (upd H a o) h a o):HOk P w (upd H a o) h:=λb u e=>by
 by_cases hb:b=a
 .subst hb;rw[fO]at e;cases e;exact new
 .rw[fN hb]at e;exact(x b u e).stay (λc v _ q=>q) (λc q=>by rw[fN<|Zm q hn];exact q) λc xs q=>by rw[fN<|Zm q hn];exact q
abbrev Zw(X:Cx)(scope:Γ)(o:List Str)(cl:List<|Str×Í)(C:Í)(s:Æ)(H:Hp)(ex:List Í):Cx where
 prog:=X.prog
 w:=X.w
 K:=X.K
 mg:=X.mg
 base:=X.base
 A:=X.A
 N:=o
 s₀:=s
 H₀:=H
 env:=compEnvC scope cl C X.env
 outer:=X.stack
 stack:=X.stack
 ex:=ex
 fn:=λ_=>fM
 calm:=X.calm
 pn:=[]
 xe:=λ_ _=>False
abbrev Z9(X:Cx)(x:List Str)(o:List Nat):List Str:=x++o.map λj=>X.N.getD j Str.empty
abbrev Up(σ:St)(o:List Nat):St:=o.map λj=>(σ[j]?).getD fK
structure BlkOk(X:Cx)(scope:Γ)(x:List Str)(Ā:List Nat):Prop where
 kind:scope.kind=.function
 nocell:∀y∈scope.names,y.2≠.cell
 locs:∀y∈scope.names,y.2=.local->scope.names.lookup y.1=fJ .local
 own:∀y∈x,scope.names.lookup y=fJ .local
 frees:∀y∈scope.names,y.2=.free->X.env.kindOf y.1=fJ .cell
 cap:∀j∈Ā,(X.N[j]?).isSome=fL/\X.env.kindOf (X.N.getD j Str.empty)=fJ .cell/\scope.names.lookup (X.N.getD j Str.empty)=fJ .free
 nd:(Z9 X x Ā).Nodup
def YL:∀(names:List<|Str×Ϝ) (I:List<|Str×Í),(∀y∈names,y.2=.free->∃c,env.cells.lookup y.1=fJ c)->(∀x c,I.lookup x=fJ c->env.cells.lookup x=fJ c)->
  ∃cl,(forIn names I λ(p:Str×Ϝ) (r:List<|Str×Í)=>(do
    if(p.2 == Ĭ)=fL then do let a<-cellOf env p.1;pure (Ł<|(p.1,a)::r)else pure (Ł r):Sem _))=pure cl/\
   (∀x c,cl.lookup x=fJ c->env.cells.lookup x=fJ c)/\(∀x c,I.lookup x=fJ c->∃l,cl.lookup x=fJ l)/\∀x,(x,Ĭ)∈names->∃c,cl.lookup x=fJ c
 |[],I,_,ha=>⟨I,rfl,ha,λx c h=>⟨c,h⟩,λx h=>nomatch h⟩
 |(n,k)::r,I,hn,ha=>by
  by_cases U:k=.free
  .subst U;let⟨c,j⟩:=hn (n,.free) ð rfl;have b:∀x d,(((n,c)::I:List<|Str×Í)).lookup x=fJ d->env.cells.lookup x=fJ d:=λx d h=>by
    rw[ø]at h;cases e:x==n with
    |true =>
     rw[e]at h;have:x=n:=⇑e
     subst this;cases h;exact j
    |false=>rw[e]at h;exact ha x d h
   let⟨cl,i,g,J,f⟩:=YL r ((n,c)::I) (λy R=>hn y<|Ý _ R) b;refine⟨cl,?_,g,λx d h=>?_,λx o=>?_⟩
   .rw[List.forIn_cons];have e:cellOf env n=pure c:=by unfold cellOf;rw[j]
    simp![beq_self_eq_true,if_true,e];exact i
   .by_cases o:x=n
    .subst o;exact J x c (by rw[ø];simp)
    .exact J x d (by rw[ø,beq_false_of_ne o];exact h)
   .rcases Å.mp o with e|o
    .cases e;exact J _ c (by rw[ø];simp)
    .exact f x o
  .have hb:(k==Ĭ)=fM:=⇑U
   let⟨cl,i,g,J,f⟩:=YL r I (λy R=>hn y<|Ý _ R) ha;refine⟨cl,?_,g,J,λx o=>?_⟩
   .rw[List.forIn_cons];simp![hb,ĕ,if_false];exact i
   .rcases Å.mp o with e|o
    .cases e;exact iM rfl U
    .exact f x o
def Z3{env:Env}:∀{names:List (Str×Ϝ)}{x:Str}{k:Ϝ},(names.map λ(n,k)=>if(k==Ĭ&&env.scope.kind == .function&&env.kindOf n==fJ .cell)then(n,fw)else(n,k)).lookup x=fJ k->
  (∃o,(x,o)∈names/\names.lookup x=fJ o/\(o=k\/(o=.free/\k=.cell)))
 |[],_,_,h=>by simp at h
 |(n,o)::r,x,k,h=>by
  rw[Ò,ø]at h;cases hx:x==n with
  |true =>
   have e:x=n:=⇑hx
   subst e;refine⟨o,ð,by rw[ø];simp,?_⟩;by_cases I:(o==Ĭ&&env.scope.kind == .function&&env.kindOf x==fJ .cell)=fL
   .rw[iH I]at h;simp at h;have:o=.free:=by
     simp![bAq]at I;simpa using I.1.1
    exact .inr ⟨this,h.symm⟩
   .rw[iI I]at h;simp at h;exact .inl h
  |false =>
   have R:(r.map λ(n,k)=>if(k==Ĭ&&env.scope.kind == .function&&env.kindOf n==fJ .cell)then(n,fw)else(n,k)).lookup x=fJ k:=by
    by_cases I:(o==Ĭ&&env.scope.kind == .function&&env.kindOf n==fJ .cell)=fL
    .rw[iH I]at h;simpa[hx]using h
    .rw[iI I]at h;simpa[hx]using h
   let⟨J,a,b,c⟩:=Z3 R;exact⟨J,Ý _ a,by rw[ø,hx];exact b,c⟩
abbrev PIfs(X:Cx)(I:List Expr)(t:TT):Prop :=
 ∀(o:List<|Í×Obj) (s:Æ) (σ:St) (H:Hp) (Q:Bool->Hp->Prop),Inv X o σ H s->t σ H Q->
  wpAny ↥2 X.A (forIn I fL λc r=>if r=fL then do let ok<-cM c X.env (eval c X.env);pure (Ł ok)else pure (Ł r)) (TP X o σ Q) X.xe s
abbrev TD:TT:=λ_ H Q=>Q fL H
def pifs_nil:PIfs X [] TD:=λ_ _ _ H _ I h=>wpAny_tests_nil ⟨H,I,h⟩
def Wy(h:PT X c t):PIfs X [c] t:=λo s σ H Q I J=>wpAny_tests_one (h o s σ H Q I J)
abbrev IM(J:It)(e:TG)(g:TT)(f:TE)(Fin:List V->Hp->Prop)(W:Nat->Nat->List V->St->Hp->Prop):Prop :=
 ∀i m R a H,W i m R a H->R.length<à/\((J.stop i H/\Fin R H)\/(J.go i H/\∃N:List V->St->Hp->Prop,(∀I o U,N I o U->∃c,c<m/\W (i+1) c I o U)/\∀x U,J.yld i H x U->
   e x a U λo j=>g o j λb d=>if b=fL then f o d λy h=>N (R++[y]) o h else N R o d))
abbrev EB(R:TI)(k:Nat)(o:List Nat)(U:TG)(b:TT)(a:TE):TE:=λσ H Q=>R σ H λJ c=>∃W:Nat->Nat->List V->St->Hp->Prop,(∃m,W 0 m [] (ß k fK++Up σ o) c)/\
 IM J U b a (λI H=>∀p,H p=fK->Q (.ref p) (upd H p<|.lst I)) W
section
variable {X:Cx}{Â:List (Í×Obj)}{σ:St}{H2:Hp}{s2:Æ}
variable {scope:Γ}{x:List Str}{Ā:List Nat}{cl:List (Str×Í)}{fp:List Í}
def Cc{s3:Æ}{D:Í}{h1:Ĉ}{tk:Nat}{m:Str->Option Ã}(B:BlkOk X scope x Ā)(I:Inv X Â σ H2 s2)(f2:∀b∈fp,WS X Â H2 b)
  (c1:∀x c,cl.lookup x=fJ c->X.env.cells.lookup x=fJ c) (c2:∀x,(x,Ĭ)∈scope.names->∃c,cl.lookup x=fJ c)
  (d:Inv X Â σ H2 s3) (H:D=s2.heap.objs.size) (h3:s3.heap.objs.size=D+1) (V:∀b o,s3.heap.get? b=fJ o->h1.get? b=fJ o) (hfp:∀b∈fp,b<s2.heap.objs.size)
  (hn:h1.Ns s3.heap.objs.size m) :
  Inv (Zw X scope (Z9 X x Ā) cl s3.heap.objs.size s3 H2<|D::fp) [] (ß x.length fK++Up σ Ā) H2 {s3 with heap:=h1,toks:=tk}:=by
 have s:∀b o,s2.heap.get? b=fJ o->b≠D:=λb o e=>by rw[H];exact ä<|Û e
 have M:∀b∈D::fp,b<s3.heap.objs.size:=λb hb=>by
  rw[h3];rcases Å.mp hb with e|hb
  .rw[e];exact İ _
  .exact ĸ (by rw[H];exact hfp b hb)
 have keeps:=d.hok.kept (h':=h1) V;refine⟨⟨I.mod,B.kind,I.ok.glob,I.ok.blt,Ì _,λy z c R J=>?_,λy f=>?_,λy c e _=>(by cases e),λhc=>I.ok.hd hc,I.ok.frames,.inl rfl,λb hb=>?_,λb o e=>?_,?_,λb o e hb=>?_,λb hb hf=>?_,d.stack,λb hb=>I.stkFree b hb⟩,
   rfl,d.bare,Un.kept V,⟨m,hn,λi y v R J k=>?_⟩,λy c e=>?_,d.hok.fresh<|Ì _,λy c e=>d.freeC y c<|c1 y c e,λp hp=>(nomatch hp),keeps,?_⟩
 .exact I.ok.inj y z c (c1 y c R)<|c1 z c J
 .have f:(cE scope X.env).names.lookup y=fJ .cell\/(cE scope X.env).names.lookup y=fJ .free:=f;rcases f with f|f
  .obtain⟨k0,a,b,c⟩:=Z3 f;rcases c with c|⟨c,_⟩
   .subst c;exact iM rfl<|B.nocell _ a
   .subst c;exact c2 y a
  .obtain⟨k0,a,b,c⟩:=Z3 f;rcases c with c|⟨_,c⟩
   .subst c;exact c2 y a
   .cases c
 .refine⟨ä<|M b hb,λy c e z=>?_⟩;have e':=c1 y c e;rcases Å.mp hb with q|q
  .obtain⟨v,o,C,_⟩:=I.cell y c e';exact s c o C<|z.trans q
  .exact(f2 b q).2.2.2.2.1 y c e' z
 .exact d.bs b o e
 .exact Ù I.ok.bsz (Ù I.sz<|show s2.heap.objs.size<=s3.heap.objs.size by rw[h3,H];exact ŋ _)
 .rcases Å.mp hb with q|q
  .exact s b o (I.bk b o e) q
  .rcases (f2 b q).2.2.2.1 with z|z
   .exact I.ok.noex b o e z
   .exact iM (å (Û (I.ok.bs b o e).1) z)<|ħ _
 .have hf:b∈frs X.stack:=hf;rcases Å.mp (I.stkSub b hf)with z|z
  .rcases Å.mp hb with q|q
   .exact iM I.lt (by rw[<-z,q,H];exact ħ _)
   .exact(f2 b q).2.1 z
  .rcases Å.mp hb with q|q
   .exact I.nofs (a:=b) (by rw[q,H];exact Ì _) z
   .exact(f2 b q).2.2.1 z
 .by_cases F:i<x.length
  .rw[Ď (by rw[ú];exact F),ő,iH F]at J;cases J
  .have R:(x++Ā.map λj=>X.N.getD j Str.empty)[i]?=fJ y:=R;rw[Ĕ<|by lia]at R;rw[Ĕ (by rw[ú];lia),ú]at J;generalize i - x.length=j at R J;have J:(Ā.map λj=>(σ[j]?).getD fK)[j]?=fJ (fJ v):=J;rw[Ø]at R J;cases hj:Ā[j]? with
   |none=>rw[hj]at R;cases R
   |some q =>
    rw[hj]at R J;have O:X.N.getD q Str.empty=y:=ë R;have U:(σ[q]?).getD fK=fJ v:=ë J;let⟨hs,hk,g⟩:=B.cap q<|é hj;let⟨n,t⟩:=ô.mp hs;have ey:n=y:=by rw[<-O,Ė,t];rfl
    subst ey;have es:σ[q]?=fJ (fJ v):=by
     cases hq:σ[q]? with
     |none=>rw[hq]at U;cases U
     |some o=>rw[hq]at U;exact congrArg fJ U
    rw[O]at hk g;let⟨m2,_,hl⟩:=d.loc;have aG:X.env.scope.names.lookup n=fJ .cell:=hk;let⟨u,r,l⟩:=hl q n v t es<|.inr<|.inl aG;refine⟨u,r,.inr ⟨?_,?_⟩⟩
    .rcases k with k|k|k
     .obtain⟨k0,a,b,c⟩:=Z3 (show(cE scope X.env).names.lookup n=fJ .local from k);rw[g]at b;cases b;rcases c with c|⟨_,c⟩<;>cases c
     .exact .inl k
     .exact .inr k
    .rcases l with⟨l,_⟩|⟨_,c,hc,z⟩
     .rw[hk]at l;cases l
     .obtain⟨W,G⟩:=c2 n<|PySem.mem_of_lookup g;have ec:W=c:=ë<|(c1 n W G).symm.trans hc;subst ec;let⟨o,C,hd⟩:=z;exact⟨W,G,o,V W o C,hd⟩
 .obtain⟨v,o,C,hd⟩:=d.cell y c<|c1 y c e;exact⟨v,o,V c o C,hd⟩
 .show _=(Z9 X x Ā).length;unfold Z9 Up;rw[á,á,Á,Á,ú]
def XN(h:∀y∈scope.names,y.2=.free->∃c,env.cells.lookup y.1=fJ c) :
  ∃cl,closureFor scope env=pure cl/\(∀x c,cl.lookup x=fJ c->env.cells.lookup x=fJ c)/\∀x,(x,Ĭ)∈scope.names->∃c,cl.lookup x=fJ c:=by
 let⟨cl,J,I,_,o⟩:=YL (env:=env) scope.names [] h λx c e=>nomatch e;refine⟨cl,?_,I,o⟩;simp![closureFor];have e:(forIn scope.names ([]:List<|Str×Í) λx r =>
     (match x with
     | (name,kind)=>if(kind == Ĭ)=fL then do let a<-cellOf env name;pure (Ł<|(name,a)::r)else pure (Ł r):Sem<|ForInStep<|List<|Str×Í))=pure cl:=J
 first
  |(rw[e];rfl)
  |(refine Eq.trans (congrArg (· >>= pure) ?_) (rfl:(pure cl >>= pure:Sem _)=pure cl);exact e)
variable {ca:Expr}{iter:Expr}{í:Pos}
def Oy(I:Nat->Æ->Prop)(turn:∀n s,I n s->wpAny (â prog w) A (Κ it) (λr d=>match r with
    |none=>R (.ok .next) d
    | some v=>wpAny (â prog w) A (Ϫ i it v) (λ_ d=>wpAny (â prog w) A (ο i env v) (λ_ l =>
        wpAny (â prog w) A (forIn bH fL λc r=>if r=fL then do let ok<-cM c env (eval c env);pure (Ł ok)else pure (Ł r)) (λok k =>
          if ok=fL then wpAny (â prog w) A (eval ca env) (λx a =>
            wpAny (â prog w) A (call (.builtin "list.append") [j,x]) (λ_ U=>∃m,m<n/\I m U) (λ_ _=>False) a) (λ_ _=>False) k
          else ∃m,m<n/\I m k) (λ_ _=>False) l) (λ_ _=>False) d) (λ_ _=>False) d) (λ_ _=>False) s)(n:Nat)(h:I n s) :
  codeAny (â prog w) A (.compLoop (.ListComp ca [⟨i,iter,bH,0⟩] scope í) 0 it j env) R s:=by
 refine codeAny_loop rfl I (λn s p=>?_) n h;show wpAny _ A ((compTurn (.ListComp ca [⟨i,iter,bH,0⟩] scope í) 0 it j env).onRaise λx=>do bL x env;theTreesLotGoes x) _ _ s;refine wpAny_noted ?_;rw[compTurn_list];refine À<|aI<|À<|Ĳ (turn n s p) (λr d o=>?_) λ_ _ J=>J.elim;cases r with
 |none=>exact È o
 |some v =>
  refine À<|Ĳ o (λ_ d o=>?_) λ_ _ J=>J.elim;refine À<|Ĳ o (λ_ l g=>À<|Ĳ g (λok k b=>?_) λ_ _ J=>J.elim) λ_ _ J=>J.elim;cases ok with
  |false=>exact È ⟨rfl,b⟩
  |true =>exact À<|À<|Ĳ b (λx a f=>À<|Ĳ f (λ_ U e=>È<|È ⟨rfl,e⟩) λ_ _ J=>J.elim) λ_ _ J=>J.elim
variable {bS:Expr}{tg:TG}
def K5{it:Í}{tn:Nat->Ĉ->Prop}{J:It}{Fin:List V->Hp->Prop}{W:Nat->Nat->List V->St->Hp->Prop}{E:Ã->Æ->Prop}
  {RR:Ã->Í->aN->Æ->Prop}{m0:Nat}(hc:X.calm=fL) (B:BlkOk X scope x Ā) (I2:Inv X Â σ H2 s2) (T:Turn X.prog X.w X.K bS J fp it tn) (st2:tn 0 s2.heap) (f2:∀b∈fp,WS X Â H2 b)
  (c1:∀x c,cl.lookup x=fJ c->X.env.cells.lookup x=fJ c) (c2:∀x,(x,Ĭ)∈scope.names->∃c,cl.lookup x=fJ c)
  (hI:∀cl C s H ex,PIfs (Zw X scope (Z9 X x Ā) cl C s H ex) bH tc) (hE:∀cl C s H ex,PE (Zw X scope (Z9 X x Ā) cl C s H ex) ca te)
  (hG:∀cl C s H ex,PG (Zw X scope (Z9 X x Ā) cl C s H ex) bS tg) (w0:W 0 m0 [] (ß x.length fK++Up σ Ā) H2) (cw:IM J tg tc te Fin W)
  (hRR:∀D C k H' ys m,H' D=fK->k.heap.Ns C m->WS X Â (upd H' D<|.lst ys) C->Inv X Â σ (upd H' D<|.lst ys) k->Fin ys H'->RR (.ref D) C (.ok .next) k) :
  wpAny ↥2 X.A (newList []) (λı aZ=>wpAny ↥2 X.A (newFunctionEnv scope X.env.globals cl [] X.env.qual fK .none<|fJ X.env) (λcenv s₄ =>
    codeAny ↥2 X.A (.compStart (.ListComp ca [⟨bS,iter,bH,0⟩] scope í) 0 (.ref it) ı { cenv with scope:=cE scope X.env }) (RR ı cenv.locals) s₄) E aZ) E s2:=by
 refine ď (wpAny_newFunctionEnv B.nocell (by intro y hy;simp at hy) (λj dm dn=>?_) B.kind);dsimp only at dm dn ⊢;have hfp:∀b∈fp,b<s2.heap.objs.size:=λb hb=>by let⟨o,e,_⟩:=T.obj _ _ st2 b hb;exact Û e
 have I3:Inv X Â σ H2 {s2 with heap:=s2.heap.push {cls:=.type "list",dict:=fK,data:=.seq ([]:List Ã).toArray}}:=I2.kept (t':=s2.toks) λb o e=>Ä _ e;have h3:(s2.heap.push {cls:=.type "list",dict:=fK,data:=.seq ([]:List Ã).toArray}).objs.size=s2.heap.objs.size+1:=Ż ..;have bR:(s2.heap.push {cls:=.type "list",dict:=fK,data:=.seq ([]:List Ã).toArray}).get? s2.heap.objs.size=fJ {cls:=.type "list",dict:=fK,data:=.seq ([]:List Ã).toArray}:=Ú _ rfl;have bB:∀b o,s2.heap.get? b=fJ o->(s2.heap.push {cls:=.type "list",dict:=fK,data:=.seq ([]:List Ã).toArray}).get? b=fJ o:=λb o e=>Ä _ e;generalize hH3:s2.heap.push {cls:=.type "list",dict:=fK,data:=.seq ([]:List Ã).toArray}=h3' at dm dn I3 h3 bR bB ⊢;have Ϭ:∀b o,h3'.get? b=fJ o->j.get? b=fJ o:=λb o e=>dn.extBut b o (ä<|Û e)<|Ä _ e;have hDC:s2.heap.objs.size≠h3'.objs.size:=by rw[h3];exact ä<|İ _
 have IB:=Cc (cl:=cl) (fp:=fp) (s3:={s2 with heap:=h3'}) (D:=s2.heap.objs.size) (h1:=j) (tk:=s2.toks+([]:List<|Str×Ã).length) B I2 f2 c1 c2 I3 rfl h3 Ϭ hfp dm;generalize I:Zw X scope (Z9 X x Ā) cl h3'.objs.size {s2 with heap:=h3'} H2 (s2.heap.objs.size::fp)=Y at IB;have yP:Y.prog=X.prog:=by rw[<-I];rfl
 have yw:Y.w=X.w:=by rw[<-I];rfl
 have yK:Y.K=X.K:=by rw[<-I];rfl
 have yA:Y.A=X.A:=by rw[<-I];rfl
 have yc:Y.calm=fL:=by rw[<-I];exact hc
 have R:Y.env=compEnvC scope cl h3'.objs.size X.env:=by rw[<-I];rfl
 have hIY:PIfs Y bH tc:=by rw[<-I];exact hI _ _ _ _ _
 have hEY:PE Y ca te:=by rw[<-I];exact hE _ _ _ _ _
 have yxe:Y.xe=λ_ _=>False:=by rw[<-I];rfl
 have ypn:Y.pn=[]:=by rw[<-I];rfl
 have hgN:PG Y bS tg:=by rw[<-I];exact hG _ _ _ _ _
 have fD:∀{H':Hp},H' s2.heap.objs.size=fK->WS Y [] H' s2.heap.objs.size:=λ{H'} hn=>by
  refine⟨hn,?_,?_,?_,?_,λp hp=>?_⟩
  .rw[R];exact hDC
  .exact IB.ok.exfs _ (by rw[<-I];exact ð)
  .exact .inl (by rw[<-I];exact ð)
  .exact λy c e=>(IB.ok.exf _<|by rw[<-I];exact ð).2 y c e
  .rw[ypn]at hp;exact nomatch hp
 have fF:∀{H':Hp},(∀b∈fp,H' b=fK)->∀b∈fp,WS Y [] H' b:=λ{H'} hn b hb=>by
  have hm:b∈Y.ex:=by rw[<-I];exact Ý _ hb
  refine⟨hn b hb,?_,IB.ok.exfs b hm,.inl hm,λy c e=>(IB.ok.exf b hm).2 y c e,λp hp=>?_⟩
  .exact(IB.ok.exf b hm).1
  .rw[ypn]at hp;exact nomatch hp
 have acc0:j.PlainList s2.heap.objs.size ([]:List Ã).toArray:=⟨0,by exact Ϭ _ _ bR⟩
 have loop:∀aZ:Æ,aZ={s2 with heap:=j,toks:=s2.toks+([]:List<|Str×Ã).length}->
   codeAny ↥2 X.A (.compLoop (.ListComp ca [⟨bS,iter,bH,0⟩] scope í) 0 (.ref it) (.ref s2.heap.objs.size)<|compEnvC scope cl h3'.objs.size X.env) (RR (.ref s2.heap.objs.size) h3'.objs.size) aZ:=by
  rintro aZ rfl;refine Oy (λn k=>∃i ys G τ H',Inv Y [] τ H' k/\tn i k.heap/\(∀b∈fp,H' b=fK)/\H' s2.heap.objs.size=fK/\iu ys G/\k.heap.PlainList s2.heap.objs.size G.toArray/\W i n ys τ H') ?_ m0
   ⟨0,[],[],_,H2,IB,T.keep _ _ _ st2 λb hb o e=>Ϭ _ _<|bB _ _ e,λb hb=>(f2 b hb).1,I2.fresh,.nil,acc0,w0⟩
  rintro n s3 ⟨i,ys,G,τ,O,I3',st3,fr3,l,rv,pl,w3⟩;have cv:∀{α:Type}{f:Sem α}{Q Q':α->Æ->Prop}{s:Æ},wpAny (â Y.prog Y.w) Y.A f Q Y.xe s->(∀a k,Q a k->Q' a k)->wpAny ↥2 X.A f Q' (λ_ _=>False) s:=λ{α f Q Q' s} h hq=>by rw[yP,yw,yA,yxe]at h;exact Ĳ h hq λ_ _ e=>e
  have cvX:∀{α:Type}{f:Sem α}{Q Q':α->Æ->Prop}{s:Æ},wpAny ↥2 Y.A f Q (λ_ _=>False) s->(∀a k,Q a k->Q' a k)->wpAny ↥2 X.A f Q' (λ_ _=>False) s:=λ{α f Q Q' s} h hq=>by rw[yA]at h;exact Ĳ h hq λ_ _ e=>e
  let⟨nD,hD3⟩:=id pl;have plD:∀b∈[s2.heap.objs.size],∃o,s3.heap.get? b=fJ o/\∀v,o.data≠.cell v:=λb hb=>by
   have e:b=s2.heap.objs.size:=⇑hb
   subst e;exact⟨_,hD3,λv z=>by cases z⟩
  have IP:=I3'.pinned (fp:=[s2.heap.objs.size]) (λb hb=>by
    have e:b=s2.heap.objs.size:=⇑hb
    subst e
    exact fD l) plD
  have memD:=ZX (fp:=[s2.heap.objs.size]) (Ó.mpr rfl) hD3;have fF':∀b∈fp,WS Y ([]++We [s2.heap.objs.size] s3.heap) O b:=λb hb=>by
   let⟨q1,q2,q3,q4,q5,q6⟩:=fF fr3 b hb;refine⟨q1,q2,q3,q4,q5,λp hp=>?_⟩;rw[ypn]at hp;let⟨bC,_⟩:=Mq (show p∈We [s2.heap.objs.size] s3.heap by simpa using hp);have e:p.1=s2.heap.objs.size:=⇑bC
   rw[e];exact(ä<|hfp b hb).symm
  obtain⟨hys,h|⟨go,N,hN,step⟩⟩:=cw i n ys τ O w3
  .obtain⟨stop,fin⟩:=h;refine cvX (T.done Y yP yw yK yc i _ s3 _ O _ IP fF' st3 stop) λr s4 ⟨hr,I4⟩=>?_;subst hr;let⟨m4,hm4,_⟩:=I4.loc;rw[R]at hm4;have bb:Un (frs X.stack) (s2.heap.objs.size::fp) H2 O h3' s4.heap:=by
    have:=I4.base;rw[<-I]at this;exact this
   have hok4:HOk X.prog X.w O s4.heap:=by have:=I4.hok;rw[yP,yw]at this;exact this
   have pl4:=(I4.pin _<|Ç _<|Ç _ memD).1;have nC:O h3'.objs.size=fK:=by have:=I4.free;rw[R]at this;exact this
   have hlen:ys.length<=à:=ζ hys;have osEq:s4.os=s2.os:=by have:=I4.os;rw[<-I]at this;exact this
   have neD:∀b o,s2.heap.get? b=fJ o->b≠s2.heap.objs.size:=λb o e=>ä<|Û e;have nin:∀b o,s2.heap.get? b=fJ o->b∉fp->b∉s2.heap.objs.size::fp:=λb o e hb z=>(Å.mp z).elim (neD b o e) hb;have hokN:HOk X.prog X.w (upd O s2.heap.objs.size<|.lst ys) s4.heap:=hok4.track l ⟨hlen,G,nD,rv,pl4⟩;have U:Un (frs X.stack) fp H2 (upd O s2.heap.objs.size<|.lst ys) s2.heap s4.heap:=by
    refine⟨λb o e hn hf hx=>bb.keep b o (bB b o e) hn hf<|nin b o e hx,λb o e hn hf hx=>bb.slot b o (bB b o e) hn hf<|nin b o e hx,λb o e hn hx=>?_,λb o e hx=>bb.there b o (bB b o e)<|nin b o e hx,λb xs e=>?_,λb o xs e=>?_,λb ps e=>?_⟩
    .rw[fN<|neD b o e];exact bb.free b o (bB b o e) hn<|nin b o e hx
    .have q:=bb.tups b xs e;rw[fN<|Zm q l];exact q
    .have q:=bb.frzs b o xs e;rw[fN<|Zm q l];exact q
    .obtain⟨more,q⟩:=bb.tbls b ps e;exact⟨more,by rw[fN<|Zm q l];exact q⟩
   have I5:Inv X Â σ (upd O s2.heap.objs.size<|.lst ys) s4:=I2.call' (ch:=fp) osEq U hokN I4.bare λb hb=>by let⟨_,q2,_,q4,q5,q6⟩:=f2 b hb;exact⟨q4,q2,q5,q6⟩
   exact hRR _ _ _ _ _ m4 l hm4 (I2.fpOk (ζ<|by rw[h3];exact İ _)<|by rw[fN hDC.symm];exact nC) I5 fin
  .refine cvX (T.item Y yP yw yK yc i _ s3 _ O _ IP fF' st3 go) λr s4 ⟨u,hr,h4⟩=>?_;subst hr;refine cvX h4 λ_ s5 ⟨y,H5,I5,r5,y5,st5,fr5⟩=>?_;have frD5:H5 s2.heap.objs.size=fK:=(I5.pin _<|Ç _<|Ç _ memD).2.1;have hD5:=(I5.pin _<|Ç _<|Ç _ memD).1;have I5p:=I5.unpinned.pinned (fp:=s2.heap.objs.size::fp) (λb hb=>by
     rcases Å.mp hb with e|hb
     . subst e;exact fD frD5
     . exact fF fr5 b hb) (λb hb=>by
     rcases Å.mp hb with e|hb
     . subst e;exact⟨_,hD5,λv z=>by cases z⟩
     . exact T.obj _ _ st5 b hb)
   have M:=ZX (fp:=s2.heap.objs.size::fp) ð hD5;rw[<-R];refine cv (hgN _ s5 _ H5 y u _ I5p r5<|step y H5 y5) λ_ s6 ⟨σ6,H6,I6,q6⟩=>?_;have bc:∀{m':Nat}{bQ:St}{F:Hp}{g:Æ}{ys':List V}{its':List Ã},Inv Y [] bQ F g->tn (i+1) g.heap->(∀b∈fp,F b=fK)->F s2.heap.objs.size=fK->iu ys' its'->g.heap.PlainList s2.heap.objs.size its'.toArray->m'<n/\W (i+1) m' ys' bQ F->
     ∃m,m<n/\∃i ys G τ H',Inv Y [] τ H' g/\tn i g.heap/\(∀b∈fp,H' b=fK)/\H' s2.heap.objs.size=fK/\iu ys G/\g.heap.PlainList s2.heap.objs.size G.toArray/\W i m ys τ H' :=
    λ{m' bQ F g ys' its'} J1 st7 fr7 fd7 rv7 pl7 wm=>⟨m',wm.1,i+1,ys',its',bQ,F,J1,st7,fr7,fd7,rv7,pl7,wm.2⟩
   have stay:∀{bQ:St}{F:Hp}{g:Æ},Inv Y ([]++We (s2.heap.objs.size::fp) s5.heap) bQ F g->tn (i+1) g.heap/\(∀b∈fp,F b=fK)/\F s2.heap.objs.size=fK/\g.heap.get? s2.heap.objs.size=fJ {cls:=.type "list",data:=.seq G.toArray nD}:=by intro bQ F g J1;refine⟨T.keep _ _ _ st5 λb hb o e=>(J1.pin (b,o)<|Ç _<|Ç _<|ZX (Ý _ hb) e).1,λb hb=>?_,(J1.pin _<|Ç _<|Ç _ M).2.1,(J1.pin _<|Ç _<|Ç _ M).1⟩;let⟨o,e,d⟩:=T.obj _ _ st5 b hb;exact(J1.pin (b,o)<|Ç _<|Ç _<|ZX (Ý _ hb) e).2.1
   refine cv (hIY _ s6 _ H6 _ I6 q6) λok g ⟨F,I7,q7⟩=>?_;cases ok with
   |false =>rw[iI<|by decide]at q7;rw[iI<|by decide];let⟨m',wm⟩:=hN _ _ _ q7;let⟨a1,a2,a3,a4⟩:=stay I7;exact bc I7.unpinned a1 a2 a3 rv ⟨nD,a4⟩ wm
   |true =>
    rw[iH rfl]at q7;rw[iH rfl];refine cv (hEY _ g _ F _ I7 q7) λz s8 ⟨vz,H8,I8,rz,wm⟩=>?_;let⟨m',wm⟩:=hN _ _ _ wm;let⟨a1,a2,a3,a4⟩:=stay I8;have hlen:=rv.length;refine wpAny_list_append_plain (hsz:=by rw[Î];lia) (⟨nD,a4⟩:s8.heap.PlainList _ G.toArray) λh9 hl9 hs9=>?_;let⟨q1,q2,q3,q4,q5,q6⟩:=fD a3;have I9:Inv Y [] _ H8 {s8 with heap:=h9}:=I8.unpinned.turned (t':=s8.toks) (λb o hb e=>hs9.extBut b o hb e) q1 q2 q4 q5 q6;refine bc I9 (T.keep _ _ _ a1 λb hb o e=>hs9.extBut b o (ä<|hfp b hb) e) a2 a3 (its':=G++[z]) (rv.append<|.cons rz .nil) ?_ wm;have e:G.toArray.push z=(G++[z]).toArray:=by simp
    rw[e]at hl9;exact hl9
 exact codeAny_compStart_list (loop _ rfl)<|T.self _ 0 _ _ _ (T.keep _ _ _ st2 λb hb o e=>Ϭ _ _<|bB _ _ e)<|loop _ rfl
def D6(q:X.calm=fL)(B:BlkOk X scope x Ā)(hi:PI X bS iter wi)(u:∀cl C s H ex,PG (Zw X scope (Z9 X x Ā) cl C s H ex) bS tg)(r:∀cl C s H ex,PIfs (Zw X scope (Z9 X x Ā) cl C s H ex) bH tc)(z:∀cl C s H ex,PE (Zw X scope (Z9 X x Ā) cl C s H ex) ca te)(p:∀x,Ĝ iter X.env x=pure x:=by intro _;rfl):PE X (.ListComp ca [⟨bS,iter,bH,0⟩] scope í)<|EB wi x.length Ā tg tc te:=by
 walk_at "B";let⟨cl,ce,c1,c2⟩:=XN (scope:=scope) (env:=X.env) λy n e=>I.ok.has y.1<|.inl<|B.frees y n e;rw[eval_ListComp];refine dZ (use:=fK) rfl p ce B.kind B.locs<|thn (hi Â s σ H _ I h) λv s1 M=>thn M λl s2 G=>?_;let⟨it,fp,tn,J,H2,e,I2,T,R,f2,W,⟨m0,c⟩,V⟩:=G;subst e;refine K5 (RR:=λa C=>compPost ↥2 X.A X.xe fK (EP X Â σ Q) a C) q B I2 T R f2 c1 c2 r z u c V ?_;intro D C d H' ys m F hn O I' fin;let⟨k,j,q3,i,g,f⟩:=O;exact⟨m,hn,λh' U=>⟨.ref D,_,I'.turned (t':=d.toks) (λb o hb e=>U.extBut b o hb e) k j i g f,rfl,fin D F⟩⟩
def Eh{y:Str}{py:Pos}{i:Nat}{k:Pos}(hN:X.N.Nodup)(g:X.N[i]?=fJ y)(U:Loc X.env.scope y)(V:X.calm=fL)(B:BlkOk X scope x Ā)(hi:PI X bS iter wi)(hG:∀cl C s H ex,PG (Zw X scope (Z9 X x Ā) cl C s H ex) bS tg)(hI:∀cl C s H ex,PIfs (Zw X scope (Z9 X x Ā) cl C s H ex) bH tc)(hE:∀cl C s H ex,PE (Zw X scope (Z9 X x Ā) cl C s H ex) ca te)(M:∀x,Ĝ iter X.env x=pure x:=by intro _;rfl)(c:μ (.ListComp ca [⟨bS,iter,bH,0⟩] scope í) (fJ<|.Name y py) k.line X.env=pure fL:=by rfl)(hf:X.fn y=fL\/X.env.scope.names.lookup y=fJ .local:=by first|exact .inl rfl|exact .inr rfl|assumption) :
  PS X (.Assign [.Name y py] (.ListComp ca [⟨bS,iter,bH,0⟩] scope í) k) (RQ (EB wi x.length Ā tg tc te)<|Lk i):=by
 intro Â s σ H D I h;let⟨cl,ce,c1,c2⟩:=XN (scope:=scope) (env:=X.env) λy U e=>I.ok.has y.1<|.inl<|B.frees y U e;rw[exec_Assign_Name_used _ _ _ _ c];refine À<|aI<|À ?_;show wpAny _ X.A (do let _<-comprehension (.ListComp ca [⟨bS,iter,bH,0⟩] scope í) scope X.env _ (newList []) fM (eval iter X.env) (fJ<|ο (.Name y py) X.env)) _ _ s;refine À (Ĳ (dZ (use:=fJ<|ο (.Name y py) X.env) (Q:=λ_ s'=>SP X Â D .next s') rfl M ce B.kind B.locs
   (thn (hi Â s σ H _ I h) λv s1 h1=>thn h1 λG s2 h2=>?_)) (λ_ s' O=>È<|È O) λ_ _ e=>e)
 let⟨it,fp,tn,J,H2,e,j,T,R,f2,W,⟨m0,q⟩,cw⟩:=h2;subst e;refine K5 (RR:=λp C=>compPost ↥2 X.A X.xe (fJ<|ο (.Name y py) X.env) (λ_ s'=>SP X Â D .next s') p C) V B j T R f2 c1 c2 hI hE hG q cw ?_;intro Dd C s' H' ys m hD hn fC I' fin;let⟨F,n,q3,u,l,r⟩:=fC;show wpAny _ _ (ο (.Name y py) X.env<|.ref Dd) _ _ _;refine wpAny_assign_Name<|Mp I' hN g U (v:=.ref Dd) rfl (λs2 j ⟨a,d,ha⟩=>?_) hf;have ne:C≠a:=by
  rcases ha with z|z
  .rw[z];exact n
  .exact(l y a z).symm
 refine⟨m,hn.sameBut d ne,λh' f=>?_⟩;exact⟨_,_,j.turned (t':=s2.toks) (λb o hb e=>f.extBut b o hb e) F n u l r,fin Dd hD⟩
end
mutual
inductive IsD (K:Frag) (H:Hp):V->Ϻ->Prop
 |non:IsD K H .non .none
 |bl (b:Bool):IsD K H (.bl b)<|.bool b
 |int (i:Int):IsD K H (.int i)<|.int i
 |str (x:Str):IsD K H (.str x)<|.str x
 |lst {a:Í}{xs:List V}{ds:List Ϻ}:iq K H a xs->IsDs K H xs ds->IsD K H (.ref a) (.list ds)
 |tup {a:Í}{xs:List V}{ds:List Ϻ}:ir K H a xs->IsDs K H xs ds->IsD K H (.ref a) (.tuple ds)
inductive IsDs (K:Frag) (H:Hp):List V->List Ϻ->Prop
 |nil:IsDs K H [] []
 |cons {x:V}{xs:List V}{d:Ϻ}{ds:List Ϻ}:IsD K H x d->IsDs K H xs ds->IsDs K H (x::xs) (d::ds)
end
section
variable {X:Cx}{Â:List (Í×Obj)}{σ:St}{H:Hp}{s:Æ}
mutual
theorem IsD.reads(I:Inv X Â σ H s):∀{v:V}{d:Ϻ}{u:Ã},IsD X.K H v d->RelV v u->∃as,Reads s.heap u d as
 |_,_,_,.non,r=>by cases r;exact⟨_,.none⟩
 |_,_,_,.bl b,r=>by cases r;exact⟨_,.bool b⟩
 |_,_,_,.int i,r=>by let⟨t,rfl⟩:=r;exact⟨_,.int i t⟩
 |_,_,_,.str x,r=>by let⟨t,rfl⟩:=r;exact⟨_,.str x t⟩
 |_,_,_,.lst q qs,r=>by cases r;let⟨U,J,⟨o,n,e,c,_,d⟩,_⟩:=I.list q;let⟨as,R⟩:=IsDs.reads I qs J;exact⟨_,.list e c d<|by simpa using R⟩
 |_,_,_,.tup q qs,r=>by cases r;let⟨U,J,⟨o,e,c,n,d⟩,_⟩:=I.tuple q;let⟨as,R⟩:=IsDs.reads I qs J;exact⟨_,.tuple e c d<|by simpa using R⟩
theorem IsDs.reads(I:Inv X Â σ H s):∀{vs:List V}{ds:List Ϻ}{us:List Ã},IsDs X.K H vs ds->iu vs us->∃as,ReadsAll s.heap us ds as
 |_,_,_,.nil,.nil=>⟨_,.nil⟩
 |_,_,_,.cons q qs,.cons r rs=>by let⟨as,J⟩:=IsD.reads I q r;let⟨bs,o⟩:=IsDs.reads I qs rs;exact⟨_,.cons J o⟩
end
end
def IsDs.ints{K:Frag}:∀ns:List Int,IsDs K H (ns.map V.int) (ns.map PyData.int)
 |[]=>.nil
 |n::ns=>.cons (.int n)<|IsDs.ints ns
section
abbrev Sf(K:Frag):R2:=λx y H Q=>∃d e,IsD K H x d/\IsD K H y e/\SeqAt.shaped d=fL/\SeqAt.shaped e=fL/\Q (.bl<|ĭ d e) H
abbrev RK(K:Frag):R2:=λx y H Q=>∃d e,IsD K H x d/\IsD K H y e/\SeqAt.shaped d=fL/\SeqAt.shaped e=fL/\Q (.bl (!ĭ d e)) H
def L6(a:X.A.units+64<Ī):OpR X (î .Eq)<|Sf X.K:=by walk_at "A";let⟨d,e,hd,he,J,o,q⟩:=h;let⟨as,U⟩:=hd.reads I rx;let⟨bs,R⟩:=he.reads I ry;exact SeqAt.compareEq_shaped U R J o a ⟨.bl _,H,I,rfl,q⟩
def Pw(a:X.A.units+64<Ī):OpR X (î .NotEq)<|RK X.K:=by walk_at "A";let⟨d,e,hd,he,J,o,q⟩:=h;let⟨as,U⟩:=hd.reads I rx;let⟨bs,R⟩:=he.reads I ry;exact SeqAt.compareNe_shaped U R J o a ⟨.bl _,H,I,rfl,q⟩
inductive TyV (K:Frag) (H:Hp):V->Ã->Prop
 |of {x:V}{t:Ã}:ij K H x t->TyV K H x t
 |tup {a:Í}{xs:List V}:ir K H a xs->TyV K H (.ref a) (.type "tuple")
 |lst {a:Í}{xs:List V}:iq K H a xs->TyV K H (.ref a) (.type "list")
def Er:fU X (.builtin "isinstance") λxs H Q=>∃x T t b,xs=[x,.ty T]/\TyV X.K H x t/\PySem.W.kitOne X.K t (.type T)=fJ b/\Q (.bl b) H:=by
 walk_at "D";let⟨x,T,t,b,rfl,ty,e,q⟩:=h;let⟨u,v,rfl,R,d⟩:=U6 r;cases d;cases ty with
 |of ty=>exact Bw I R ty e λJ=>⟨.bl b,H,I.tok J,rfl,q⟩
 |tup hq =>cases R;let⟨c,_,⟨o,a,U,_⟩,_⟩:=I.tuple hq;exact PySem.W.kia_one PySem.W.kitx_tuple I.kIn ⟨o,a,U⟩ e (λz=>nomatch z) λJ=>⟨.bl b,H,I.tok J,rfl,q⟩
 |lst hq =>cases R;let⟨c,_,⟨o,n,a,U,_⟩,_⟩:=I.list hq;exact PySem.W.kia_one PySem.W.kitx_list I.kIn ⟨o,a,U⟩ e (λz=>nomatch z) λJ=>⟨.bl b,H,I.tok J,rfl,q⟩
def DQ(k:X.calm=fL):fU X (.builtin "all") λxs H Q=>∃p,∃bs:List Bool,xs=[.ref p]/\iq X.K H p (bs.map V.bl)/\Q (.bl<|bs.all id) H:=by
 walk_at "D";let⟨p,bs,rfl,g,q⟩:=h;let⟨u,rfl,d⟩:=ZR r;cases d;let⟨J,R,pl,w⟩:=I.list g;have hlen:=R.length;rw[Á]at hlen;have a:p<s.heap.objs.size:=by let⟨o,n,e,_⟩:=pl;exact Û e
 refine call_all_walk<|Ţ pl.isList ?_;refine⟨s.heap.objs.size,_,_,J.toArray.size,_,_,λi=>bs.getD i fL,rfl,Walks.list (A:=X.A.in1) (I.ok.hd k) s.heap.objs.size p (ä a) J.toArray,⟨⟨_,Ú _ rfl,rfl,rfl⟩,pl.isList.push _⟩,?_,λx c j=>?_⟩
 .intro i v m y z hP l;have hP:J[i]?=fJ v:=⇑hP
  have hb:(bs.map V.bl)[i]?=fJ (.bl<|bs.getD i fL):=by
   have hi:i<bs.length:=by have:=(Ô.mp hP).1;lia
   rw[Ø,Ė];simp[hi]
  let⟨u,U,f⟩:=R.get hb;rw[hP]at U;cases U;cases f;exact ē l
 .have e:(List.range J.toArray.size).all (λi=>bs.getD i fL)=bs.all id:=by
   rw[Î,<-hlen,Bool.eq_iff_iff,ý,ý];constructor
   .intro h b hb;let⟨i,hi,rfl⟩:=List.mem_iff_getElem.mp hb;have:=h i<|Ź.mpr hi;rw[Ė,É hi]at this;exact this
   .intro h i hi;have hi:=Ź.mp hi;rw[Ė,É hi];exact h _<|þ hi
  rw[e];refine⟨.bl _,H,I.kept (t':=c) λb o e=>j b o (λhm=>?_)<|Ä _ e,rfl,q⟩;have:b=s.heap.objs.size:=⇑hm
  exact iM (this▸Û e)<|ħ _
abbrev sortI(ns:List Int):List Int:=ns.mergeSort λa b=>iN (a<=b)
def Wh(ns:List Int):(sortI ns).Perm ns:=Ŧ ns _
def OU(ns:List Int):(sortI ns).Pairwise (·<=·):=by have h:=cj (le:=λa b:Int=>iN (a<=b)) (λa b c I o=>by simp at *;lia) (λa b=>by simp;lia) ns;exact h.imp λh=>⇑h
def YO(hp:ms.Perm ns)(o:ms.Pairwise (·<=·)):ms=sortI ns:=PySem.W.ksm_same (hp.trans (Wh ns).symm) o (OU ns)
def KD(hp:ms.Perm ns):sortI ms=sortI ns:=YO ((Wh ms).trans hp) (OU ms)
def YV(ns:List Int):(sortI ns).length=ns.length:=(Wh ns).length_eq
def YS:∀{vs:List Ã}{ns:List Int},č vs ns->iu (ns.map V.int) vs:=WM
def call_sorted:fU X (.builtin "sorted") λxs H Q=>∃p,∃ns:List Int,xs=[.ref p]/\iq X.K H p (ns.map V.int)/\ns.length<64/\∀l,H l=fK->Q (.ref l) (upd H l<|.lst<|(sortI ns).map V.int):=by walk_at "D";let⟨p,ns,rfl,d,f,q⟩:=h;let⟨u,rfl,c⟩:=ZR r;cases c;let⟨U,J,pl,R⟩:=I.list d;have hlen:=J.length;rw[Á]at hlen;refine sorted_ints pl.isList (ZZ J) ↥0 λout i a1 a2 g=>?_;have e:=YO a2 g;subst e;let⟨n,he⟩:=sortedAll_at s.heap U out;refine⟨.ref<|s.heap.objs.size+1,_,I.laid (a:=s.heap.objs.size+1) (o:=.lst<|(sortI ns).map V.int) (t':=s.toks) (λb o e=>sortedAll_old e) (ŋ _) ?_,rfl,q _<|I.hok.fresh<|ŋ _⟩;exact⟨by rw[Á,YV];rw[Á]at R;exact R,out.toList,n,YS a1,by simpa[ό]using he⟩
def Dl:fU X (.type "set") (λxs H Q=>∃p,∃ns:List Int,xs=[.ref p]/\iq X.K H p (ns.map V.int)/\ns.length<4000/\X.calm=fL/\
    ∀l S n,H l=fK->n=(υ (λi=>ns.getD i 0) ns.length).length->Q (.ref l) (upd H l<|.set S n)):=by
 walk_at "D";let⟨p,ns,rfl,d,m,g,q⟩:=h;let⟨u,rfl,c⟩:=ZR r;cases c;let⟨R,J,pl,k⟩:=I.list d;have hlen:=J.length;rw[Á]at hlen;refine call_set_list (I.ok.hd g) pl.isList (by simpa using ZZ J) (by rw[Î];show R.length+1<4096;lia) λv U j f=>?_;refine⟨.ref s.heap.objs.size,_,I.laid (a:=s.heap.objs.size) (o:=.set _ _) (t':=U) (λb o e=>f b o (Û e) e) (Ì _) j,rfl,q _ _ _ (I.hok.fresh<|Ì _) ?_⟩;rw[Î,hlen]
def A2:fU X (.builtin "len") λxs H Q=>∃p S n,xs=[.ref p]/\H p=fJ (.set S n)/\Q (.int n) H:=by
 walk_at "D";let⟨p,S,n,rfl,R,q⟩:=h;let⟨u,rfl,J⟩:=ZR r;cases J;let⟨o,es,U,t,e,hex,hd,_,_,hb,hf,hn⟩:=(show fV X.prog X.w H s.heap p (.set S n) from I.hok p _ R)
 subst hn;exact call_len_set e hex hd hf (by have:es.size<4096:=hb;lia) ⟨.int _,H,I.tok _,⟨_,rfl⟩,q⟩
end
end L2
namespace HT2
open PySem PySem.Spec PyProof.Rows L2
abbrev NH(g:Bool)(ns ms:List Int):Bool:=match g with
 |true=>HT.lexLt ms ns
 |false=>HT.lexLt ns ms
abbrev cb(g:Bool)(a c:Int):Bool:=match g with
 |true=>iN (a > c)
 |false=>iN (a<c)
def BI(g:Bool)(x y:Int)(xs ys:List Int):NH g (x::xs) (y::ys)=if x=y then NH g xs ys else cb g x y:=by
 cases g
 .rfl
 .show(if y=x then _ else _)=_;by_cases e:x=y
  .rw[iH e,iH e.symm];rfl
  .rw[iI e,iI<|Ne.symm e];rfl
def FA(A:ċ)(s:Æ)(a:Int)(t:Tok)(c:Int)(u:Tok)(prog:æ)(w:û)(E:Ã->Æ->Prop)(Q:Ã->Æ->Prop)(h:Q (.bool<|iN (a > c)) s) :
  wpAny (â prog w) A (richCompare .Gt (.int a t)<|.int c u) Q E s :=
 (PyProof.Rows.gt_int h:wpAny (â prog w) A (î .Gt (.int a t)<|.int c u) Q E s)
noncomputable abbrev opC(g:Bool):bT:=match g with
 |true=>.Gt
 |false=>.Lt
section
open PySem.SeqAt
open PySem.AutoSeq1 (wpAny_loadPart')
open PySem.MeetsSeq PySem.MeetsSeq2 PySem.MeetsSeq3
def BW(q:Bool)(l b:Í)(items m:Array Ã)(n M:Nat)(W C:Option Í)(H v:Array<|Option Ã)(ns ms:List Int)(hi:č items.toList ns)(F:č m.toList ms) :
  Meets ((match q with|true=>Builtin.«tuple.__gt__»|false=>Builtin.«tuple.__lt__») ⟨[.ref l,.ref b],[]⟩)
   (λ_ R s=>s.heap.get? l=fJ { cls:=.type "tuple",dict:=W,data:=.seq items n,slots:=H }/\s.heap.get? b=fJ { cls:=.type "tuple",dict:=C,data:=.seq m M,slots:=v }/\
     R (.ok<|.ret<|.bool<|NH q ns ms) s) :=
 .of_wp λprog w A R s h=>by
  let⟨hp,g,d,p,os⟩:=s;let⟨hl,hb,h⟩:=h;have f2:=AutoSeq1.sub_tuple_tuple;have z1:items.size=ns.length:=by rw[<-hi.length];simp
  have z2:m.size=ms.length:=by rw[<-F.length];simp
  have r:∀{j ws:List Ã}{i o:List Int},č j i->č ws o->[]=j.zip ws->i.length+m.size=o.length+items.size->NH q i o=cb q items.size m.size:=λ{j ws i o} U J f hlen=>by
   cases U with
   |nil =>
    cases J with
    |nil =>simp![ņ]at hlen;cases q<;>exact(iJ<|by lia).symm
    |cons c u hw =>
     simp![ņ,Ñ]at hlen;cases q
     .exact(iK<|by lia).symm
     .exact(iJ<|by lia).symm
   |cons a t r =>
    cases J with
    |nil =>
     simp![ņ,Ñ]at hlen;cases q
     .exact(iJ<|by lia).symm
     .exact(iK<|by lia).symm
    |cons c u hw=>cases f
  have I:=BI q;generalize NH q=L at r I h;generalize G:cb q=B at r I;cases q<;>(
    wp_walk using ļ hl,ļ hb,wpAny_forIn_list _ (λrest b z=>b.1=fK/\z=⟨hp,g,d,p,os⟩/\∃(j ws:List Ã) (i o:List Int),rest=j.zip ws/\
      č j i/\č ws o/\i.length+m.size=o.length+items.size/\R (.ok<|.ret<|.bool<|L i o) ⟨hp,g,d,p,os⟩) _
    case turn =>
      rintro⟨y,x⟩ rest b z ⟨dq,rfl,j,ws,i,o,f,U,J,hlen,hR⟩
      cases U with
      |nil=>rw[aq]at f;cases f
      |cons a t hvi' =>
        cases J with
        |nil=>rw[ϲ]at f;cases f
        |cons c u hwi' =>
          rw[ϳ]at f
          injection f with hyx hrest
          injection hyx with hy hx
          subst hy hx
          rw[I]at hR
          simp![Ñ]at hlen
          let⟨e,he,k⟩:=HT.eqAt_int A.in1 ⟨hp,g,d,p,os⟩ a t c u
          refine À<|he prog w _ _ ?_
          cases e with
          |true =>
            rw[iH<|k.mp rfl]at hR
            wp_walk
            exact⟨rfl,rfl,_,_,_,_,hrest,hvi',hwi',by lia,hR⟩
          |false =>
            rw[iI λq=>iM (k.mpr q) ă,<-G]at hR
            have V:=FA A.in1 ⟨hp,g,d,p,os⟩ a t c u prog w
            have O:=HT.rcLt_int A.in1 ⟨hp,g,d,p,os⟩ a t c u prog w
            wp_walk using V,O
            exact⟨_,rfl,by simpa[cb]using hR⟩
    case fin =>
      rintro⟨b1,b2⟩ z ⟨dq,rfl,j,ws,i,o,f,U,J,hlen,hR⟩
      simp only at dq
      subst dq
      rw[r U J f hlen,<-G]at hR
      wp_walk
      exact⟨_,rfl,by simpa[Builtin.Tuple.tupleCompareSizes,cb]using hR⟩
    case h =>
      exact⟨rfl,rfl,items.toList,m.toList,ns,ms,rfl,hi,F,by lia,h⟩)
end
variable {prog:æ}{w:û}{l:Í}{b:Í}
def Ov(q:Bool)(hl:ϸ s.heap l items)(hb:ϸ s.heap b ι)(hi:č items.toList ns)(g:č ι.toList ms)(U:A.units<Ī)(h:Q (.bool<|NH q ns ms) s):wpAny (â prog w) A (î (opC q) (.ref l)<|.ref b) Q E s:=by
 let⟨⟨cls,i,data,e⟩,I,a,n,hd⟩:=id hl;let⟨⟨d,R,data2,J⟩,dL,o,f,c⟩:=id hb;simp only at a hd o c;subst a hd o c;have m:=BW q l b items ι n f i R e J ns ms hi g;cases q
 .exact fx (op:=.Lt) ⟨_,I,rfl⟩ ⟨_,dL,rfl⟩ PySem.F.slot_tuple_lt PySem.F.entry_tuple_lt (PySem.F.args_tuple_lt_2 _ _) m ⟨I,dL,(λx=>nomatch x),h⟩ U
 .exact fx (op:=.Gt) ⟨_,I,rfl⟩ ⟨_,dL,rfl⟩ PySem.F.slot_tuple_gt PySem.F.entry_tuple_gt (PySem.F.args_tuple_gt_2 _ _) m ⟨I,dL,(λx=>nomatch x),h⟩ U
def lt_tups(hl:ϸ s.heap l items)(hb:ϸ s.heap b ι)(hi:č items.toList ns)(I:č ι.toList ms)(o:A.units<Ī)(h:Q (.bool<|HT.lexLt ns ms) s):wpAny (â prog w) A (î .Lt (.ref l)<|.ref b) Q E s:=Ov fM hl hb hi I o h
abbrev rCT(q:Bool)(K:Frag):R2:=λx y H Q=>∃a b ns ms,x=.ref a/\y=.ref b/\ir K H a (ns.map V.int)/\ir K H b (ms.map V.int)/\Q (.bl<|NH q ns ms) H
def op_cT(q:Bool)(U:X.A.units<Ī):OpR X (î<|opC q)<|rCT q X.K:=by walk_at "A";let⟨a,b,ns,ms,rfl,rfl,ha,hb,k⟩:=h;cases rx;cases ry;let⟨d,r1,R,_⟩:=I.tuple ha;let⟨c,o,J,_⟩:=I.tuple hb;exact Ov q R J (ZZ r1) (ZZ o) U ⟨.bl<|NH q ns ms,H,I,rfl,k⟩
end HT2
namespace L2
open PySem PySem.Spec PyProof.Rows
section
variable {x:Str}{p í:Pos}{e:Expr}{t:TA}
def R5(I:Gl X x)(hm:X.mg x=fK)(o:ř x=fJ (.type T))(hn:x≠"__name__":=by decide)(hd:(x==("__debug__" : Str))=fM:=by decide):PE X (.Name x í)<|tC<|.ty T:=Hb I hm o rfl hn hd
end
abbrev YU(scope sc:Γ)(N:List Str)(x:List Str)(o:List Nat):Bool :=
 scope.names.all (λy=>y.2 != .cell)&&scope.names.all (λy=>y.2 != .local||scope.names.lookup y.1==fJ .local)&&x.all (λy=>scope.names.lookup y==fJ .local) &&
 scope.names.all (λy=>y.2 != .free||sc.names.lookup y.1==fJ .cell) &&
 o.all (λj=>iN (j<N.length)&&sc.names.lookup (N.getD j Str.empty)==fJ .cell&&scope.names.lookup (N.getD j Str.empty)==fJ .free)&&iN (x++o.map λj=>N.getD j Str.empty).Nodup
def Uy(I:X.env.scope=sc)(J:X.N=N)(g:scope.kind=.function)(h:YU scope sc N x Ā=fL):BlkOk X scope x Ā:=by
 unfold YU at h;simp![bAq]at h;let⟨⟨⟨⟨⟨f,d⟩,l⟩,U⟩,R⟩,k⟩:=h;rw[ý]at f d U R;refine⟨g,λy o=>by simpa using f y o,λy o e=>?_,λy o=>by simpa using ý.mp l y o,λy o e=>?_,λj i=>?_,?_⟩
 .have:=d y o;rw[e]at this;simpa using this
 .have:=U y o;rw[e]at this;show X.env.scope.names.lookup y.1=_;rw[I];simpa using this
 .have:=R j i;simp![bAq,iL,beq_iff_eq]at this;let⟨⟨a,b⟩,c⟩:=this;refine⟨?_,?_,?_⟩
  .rw[J,É a];rfl
  .show X.env.scope.names.lookup _=_;rw[I,J];exact b
  .rw[J];exact c
 .unfold Z9;rw[J];exact of_decide_eq_true k
abbrev gj(r:Í)(H H':Hp):Prop:=∀b o,H b=fJ o->b≠r->H' b=fJ o
def gj.refl(r:Í)(H:Hp):gj r H H:=λ_ _ h _=>h
def gj.trans(a:gj r H I)(b:gj r I H2):gj r H H2:=λc o h n=>b c o (a c o h n) n
noncomputable abbrev Tie:=Int×Int×Int
variable {c:Bool}{A:Prop}{B:Prop}
def hZ(e:c=fL)(h:A):if c=fL then A else B:=by rw[iH e];exact h
def ie(e:c=fM)(h:B):if c=fL then A else B:=by rw[e,iI ă];exact h
structure BrOk(ns:List Int):Prop where
 one:1<=ns.length
 ten:ns.length<=10
 rng:∀n∈ns,0<=n/\n<=999
 nd:ns.Nodup
structure TieOk(ns:List Int)(t:Tie):Prop where
 a:t.1∈ns
 b:t.2.1∈ns
 ne:t.1≠t.2.1
 lo:1<=t.2.2
 hi:t.2.2<=1000
structure TsOk(ns:List Int)(ts:List Tie):Prop where
 few:ts.length<=16
 each:∀t∈ts,TieOk ns t
abbrev mn(x y:Int):Int:=if y<x then y else x
section
variable {X:Cx}(K:Frag)(h:X.K=K)
include h
end
section
variable {prog:æ}{w:û}{A:ċ}{E:Ã->Æ->Prop}{s:Æ}
variable {it:Í}{i:Nat}{items:Array Ã}{Q:Ã->Æ->Prop}
def UK(R:s.heap.IsTupleIter it t i)(ht:s.heap.IsTuple t items)(U:items[i]?=fJ x)(b:∀h',h'.IsTupleIter it t (i+1)->ź it s.heap h'->Q x {s with heap:=h'}):wpAny (â prog w) A (Builtin.SmallTypes.nextOf<|.ref it) Q E s:=by
 let⟨o,I,a,hd⟩:=id R;let⟨d,hot,_,nt,J⟩:=ht;unfold Builtin.SmallTypes.nextOf;refine À<|ĥ (name:=iO "__next__") R.typeIs F.slot_tuple_iterator_next<|ę F.slot_tuple_iterator_next R.typeIs F.entry_tuple_iterator_next ?_<|F.args_tuple_iterator_next_1 _;show wpAny _ _ (field (.ref it) 0 >>= _) _ _ s;refine À<|Į I hd (x:=.ref t) rfl ?_;show wpAny _ _ (if(Value.ref t==Value.none)=fL then _ else _) _ _ s;rw[iI<|show ¬ ((Value.ref t==Value.none)=fL) from ă];show wpAny _ _ (field (.ref it) 1 >>= _) _ _ s;refine À<|Į I hd (x:=.int i 0) rfl ?_;show wpAny _ _ (au (.ref t) >>= _) _ _ s;refine À<|ī hot J ?_;simp![ç,U];refine À (Ň I hd (by simp)<|È ⟨x,rfl,È<|b _ ⟨_,Ě _ I<|dA<|Ξ hd _,(Obj.cls_mapFields ..).trans a,?_⟩<|ć ..⟩);rw[Ξ hd];simp[ģ]
def Mu(U:A.handled=fK)(R:s.heap.IsTupleIter it t i)(ht:s.heap.IsTuple t items)(b:items[i]?=fK)(d:∀h' e,Heap.ExtBut it s.heap h'->(∃o,h'.get? e=fJ o/\o.cls=.type "StopIteration")->E (.ref e) {s with heap:=h'}):wpAny (â prog w) A (Builtin.SmallTypes.nextOf<|.ref it) Q E s:=by
 let⟨o,I,g,hd⟩:=id R;let⟨f,hot,_,nt,J⟩:=ht;unfold Builtin.SmallTypes.nextOf;refine À<|ĥ (name:=iO "__next__") R.typeIs F.slot_tuple_iterator_next<|ę F.slot_tuple_iterator_next R.typeIs F.entry_tuple_iterator_next ?_<|F.args_tuple_iterator_next_1 _;show wpAny _ _ (field (.ref it) 0 >>= _) _ _ s;refine À<|Į I hd (x:=.ref t) rfl ?_;show wpAny _ _ (if(Value.ref t==Value.none)=fL then _ else _) _ _ s;rw[iI<|show ¬ ((Value.ref t==Value.none)=fL) from ă];show wpAny _ _ (field (.ref it) 1 >>= _) _ _ s;refine À<|Į I hd (x:=.int i 0) rfl ?_;show wpAny _ _ (au (.ref t) >>= _) _ _ s;refine À<|ī hot J ?_;simp![ç,b];refine À (Δ<|À<|Ň I hd (by simp) ?_);show wpAny _ _ (newExc (.type "StopIteration") [] >>= _) _ _ _;refine À ?_;simp![newExc,newTuple];refine À (ď (À (m:=aa _ _)<|ab (a:=Value.none) (by first|rfl|(simp![aa];rfl))<|ď ?_<|by size_fits)<|by size_fits);simp![raiseNew];refine À<|wpAny_handled ?_
 first
 |rw[show A.in1.handled=fK from U]
 |rw[U]
 exact À<|È<|wpAny_throw<|d _ _ (((ć ..).extBut.push _).push _) ⟨_,Ú _ rfl,rfl⟩
end
variable {prog:æ}{w:û}{A:ċ}
def QM(b:A.handled=fK)(it t:Í)(U:t≠it)(items:Array Ã) :
  Draws prog w A it [it,t] items.size (λi v=>items[i]?=fJ v) (λi h=>h.IsTupleIter it t i/\h.IsTuple t items) where
 live:=λ_ _ st=>let ⟨o,a,_⟩:=st.1;⟨o,a⟩
 frame:=λ_ _ _ st R=>⟨st.1.at λo e=>R it (by simp) o e,st.2.at λo e=>R t (by simp) o e⟩
 item:=λi s Q E hi st d=>UK st.1 st.2 (x:=items[i]) (by simp[hi]) λg J I=>d _ g s.toks (by simp[hi]) ⟨J,st.2.extBut I.extBut U⟩ I
 done:=λs Q E st f=>Mu b st.1 st.2 (by simp) f
abbrev IsE(l:Bool)(h:Ĉ)(a:Í)(items:Array Ã):Prop:=match l with
 |true=>h.IsList a items
 |false=>h.IsTuple a items
abbrev ItE(l:Bool)(h:Ĉ)(it a:Í)(i:Nat):Prop:=match l with
 |true=>h.IsListIter it a i
 |false=>h.IsTupleIter it a i
noncomputable abbrev nmE(l:Bool):String:=match l with
 |true=>"list_iterator"
 |false=>"tuple_iterator"
variable {l:Bool}{h:Ĉ}{a:Í}{items:Array Ã}
def Uf(x:IsE l h a items):∃o,h.get? a=fJ o/\(o.cls=.type "list"\/o.cls=.type "tuple"):=by
 cases l
 .obtain⟨o,e,c,_⟩:=x;exact⟨o,e,.inr c⟩
 .obtain⟨o,e,c,_⟩:=x;exact⟨o,e,.inl c⟩
variable {it:Í}{i:Nat}
def Nu(x:ItE l h it a i):∃o,h.get? it=fJ o/\o.cls=.type (nmE l)/\o.data=.fields #[.ref a,.int i 0]:=by cases l<;>exact x
def Lb(e:h.get? it=fJ o)(c:o.cls=.type (nmE l))(d:o.data=.fields #[.ref a,.int i 0]):ItE l h it a i:=by cases l<;>exact⟨o,e,c,d⟩
def Lu(x:ItE l h it a i)(k:∀o,h.get? it=fJ o->h'.get? it=fJ o):ItE l h' it a i:=by let⟨o,e,c,d⟩:=Nu x;exact Lb (k o e) c d
def Sl(x:IsE l h a items)(y:ItE l h it a i):a≠it:=λz=>by let⟨o,e,c⟩:=Uf x;let⟨R,I,J,_⟩:=Nu y;rw[z,I]at e;cases e;cases l<;>rcases c with c|c<;>exact iM (dB<|J.symm.trans c) ↥1
variable {s:Æ}{Q:Ã->Æ->Prop}
def Fu(x:IsE l s.heap a items)(h:Q (.ref s.heap.objs.size) {s with heap:=s.heap.push {cls:=.type<|nmE l,data:=.fields #[.ref a,.int 0 0]}}):wpAny (â prog w) A (cN<|.ref a) Q E s:=by
 cases l
 .exact wpAny_pyIter_tuple x h
 .exact Ţ x h
def QP(I:A.handled=fK)(it t:Í)(o:t≠it)(items:Array Ã) :
  Draws prog w A it [it,t] items.size (λi v=>items[i]?=fJ v) (λi h=>ItE l h it t i/\IsE l h t items):=by
 cases l
 .exact QM I it t o items
 .exact Draws.list I it t o items
def Ft(J:A.handled=fK)(U:ItE l s.heap it t i)(ht:IsE l s.heap t items)(I:items[i]?=fK)(R:∀h' e,Heap.ExtBut it s.heap h'->(∃o,h'.get? e=fJ o/\o.cls=.type "StopIteration")->E (.ref e) {s with heap:=h'}):wpAny (â prog w) A (Builtin.SmallTypes.nextOf<|.ref it) Q E s:=by
 cases l
 .exact Mu J U ht I R
 .exact wpAny_nextOf_list_end J U ht I R
open AutoSeq1 (wpAny_loadPart') in
def Pf(b:Bool)(l:Í)(items:Array Ã)(J:Obj) :
  Meets (Builtin.«enumerate.__new__» ⟨[.type "enumerate",.ref l],[]⟩) (λ_ R s=>s.heap.get? l=fJ J/\IsE b s.heap l items/\
    R (.ok<|.ret<|.ref (s.heap.push {cls:=.type<|nmE b,data:=.fields #[.ref l,.int 0 0]}).objs.size)
      { s with heap:=(s.heap.push { cls:=.type<|nmE b,data:=.fields #[.ref l,.int 0 0] }).push { cls:=.type "enumerate",data:=.fields #[.none,.bool fM,.ref s.heap.objs.size,ģ 0,.none,.none] } }) :=
 .of_wp λprog w A R s h=>by
  let⟨hp,g,d,U,os⟩:=s;let⟨hl,I,h⟩:=h;have o:=sub_enumerate
  wp_walk using ļ hl
  refine wpAny_stack_any λst=>È ?_;split
  .rename_i c _ _ _ _ _;cases (c==Value.type "enumerate")<;>(wp_walk using ļ hl,Fu I;exact⟨_,rfl,h⟩)
  .wp_walk using ļ hl,Fu I;exact⟨_,rfl,h⟩
def Cf{b:Bool}{E:Ã->Æ->Prop}{l:Í}(R:IsE b s.heap l items)
  (h:∀h',IsEnum h' (s.heap.objs.size+1) s.heap.objs.size 0 .none->ItE b h' s.heap.objs.size l 0->(∀b o,s.heap.get? b=fJ o->h'.get? b=fJ o)->Q (.ref<|s.heap.objs.size+1) {s with heap:=h'}) :
  wpAny (â prog w) A (call (.type "enumerate") [.ref l]) Q E s:=by
 let⟨U,hl,_⟩:=Uf R;refine callType_new F.called_enumerate ↥1 (F.typeCall_enumerate_1 _) (F.newCall_enumerate_1 _) (λobj=>F.args_object_init_2 obj _) F.entry_enumerate_new (Pf b l items U) ⟨hl,R,?_⟩;have J:(s.heap.push {cls:=.type<|nmE b,data:=.fields #[.ref l,.int 0 0]}).objs.size=s.heap.objs.size+1:=Ż ..;have I:=Ú (s.heap.push {cls:=.type<|nmE b,data:=.fields #[.ref l,.int 0 0]}) (o:={cls:=.type "enumerate",data:=.fields #[.none,.bool fM,.ref s.heap.objs.size,ģ 0,.none,.none]}) rfl;rw[J]at I;show _/\_;rw[J];exact⟨⟨_,I,rfl⟩,h _ I (Lb (Ä _<|Ú _ rfl) rfl rfl) λb o x=>Ä _<|Ä _ x⟩
section
variable {X:Cx}{Â:List (Í×Obj)}{σ:St}{H:Hp}{s:Æ}{h':Ĉ}
def Inv.turnedL{t':Nat}{ch:List Í}(I:Inv X Â σ H s)(k:∀b o,b∉ch->s.heap.get? b=fJ o->h'.get? b=fJ o)(f:∀b∈ch,WS X Â H b):Inv X Â σ H {s with heap:=h',toks:=t'}:=by
 have R:∀b u,H b=fJ u->b∉ch:=λb u e z=>by rw[(f b z).1]at e;cases e
 refine I.step (g':=s.gens) (d':=s.drawn) (ch:=ch) (λb hb=>?_) (λb o _ _ J e _=>k b o J e) (λb o _ _ J e _=>⟨o.slots,k b o J e⟩) (λ_ _ _ _ n=>n)
  (λb o J e=>⟨o,k b o J e⟩) (λ_ _ e=>e) (λ_ _ _ e=>e) (λb ps e=>⟨#[],by rw[e];simp⟩) (λm hm=>?_) (λb u e=>?_) I.bare
 .obtain⟨_,y,_,x,p,j⟩:=f b hb;exact⟨x,y,p,j⟩
 .obtain⟨o,es,F,C,r⟩:=hm;exact⟨o,es,F,k _ o (λz=>(f _ z).2.1 rfl) C,r⟩
 .refine(I.hok b u e).stay (λc v U q=>k c v ?_ q) (λ_ q=>q) λ_ _ q=>q;rcases U with z|z
  .rw[z];exact R b u e
  .exact R c _ z
def Inv.track(I:Inv X Â σ H s)(hT:H T=fK)(h0:X.s₀.heap.objs.size<=T)(f:T≠X.env.locals)(ce:∀x c,X.env.cells.lookup x=fJ c->c≠T)(hp:∀p∈X.pn++Â,p.1≠T)(new:fV X.prog X.w (upd H T o) s.heap T o):Inv X Â σ (upd H T o) s:=by
 have neT:∀b J,X.s₀.heap.get? b=fJ J->b≠T:=λb J e=>ä<|å (Û e) h0;refine⟨I.ok,I.os,I.bare,⟨I.base.keep,I.base.slot,λb J e n U=>?_,I.base.there,λb xs e=>?_,λb J xs e=>?_,λb ps e=>?_⟩,I.loc,I.cell,?_,λx c e=>?_,λp R=>?_,I.hok.track hT new,I.len⟩
 .rw[fN<|neT b J e];exact I.base.free b J e n U
 .have q:=I.base.tups b xs e;rw[fN<|Zm q hT];exact q
 .have q:=I.base.frzs b J xs e;rw[fN<|Zm q hT];exact q
 .obtain⟨m,q⟩:=I.base.tbls b ps e;exact⟨m,by rw[fN<|Zm q hT];exact q⟩
 .rw[fN f.symm];exact I.free
 .rw[fN<|ce x c e];exact I.freeC x c e
 .obtain⟨a,b,c,d,e⟩:=I.pin p R;exact⟨a,by rw[fN<|hp p R];exact b,c,d,e⟩
end
abbrev SqE(l:Bool)(K:Frag)(H:Hp)(a:Í)(xs:List V):Prop:=match l with
 |true=>iq K H a xs
 |false=>ir K H a xs
abbrev Iq(l:Bool)(K:Frag)(a:Í):It :=
 ⟨λi H=>∃xs x,SqE l K H a xs/\xs[i]?=fJ x,λi H v o=>∃p,v=.ref p/\H p=fK/\∀xs x,SqE l K H a xs->xs[i]?=fJ x->o=upd H p (.tup [.int i,x]),λi H=>∃xs,SqE l K H a xs/\xs.length<=i⟩
noncomputable abbrev Ite:=Iq fM
variable {X:Cx}{Â:List (Í×Obj)}{σ:St}{H:Hp}{xs:List V}
def Dg(I:Inv X Â σ H s)(h:SqE l X.K H a xs):∃o:List Ã,iu xs o/\IsE l s.heap a o.toArray:=by
 cases l
 .obtain⟨o,J,pl,_⟩:=I.tuple h;exact⟨o,J,pl⟩
 .obtain⟨o,J,pl,_⟩:=I.list h;exact⟨o,J,pl.isList⟩
def QJ(I:Inv X Â σ H s)(h:SqE l X.K H a ys)(k:SqE l X.K H a xs):ys=xs:=by
 cases l
 .exact I.tuple_inj h k
 .exact I.list_inj h k
variable {kk:Nat}{tp:Pos}
def BP{P:æ}{K:Frag}(a it e:Í)(M:e≠it) :
  Turn P w K (.Tuple es kk tp) (Iq l K a) [e,it] e (λi h=>(∃R,IsEnum h e it i R)/\ItE l h it a i) where
 mem:=by simp
 obj:=λi h st b hb=>by
  let⟨⟨R,J⟩,st⟩:=st;let⟨o2,e2,_,d2⟩:=Nu st;rcases Å.mp hb with q|q
  .subst q;exact⟨_,J,λv z=>by cases z⟩
  .have q:b=it:=⇑q
   subst q;exact⟨o2,e2,λv z=>by rw[d2]at z;cases z⟩
 keep:=λi h h' st k=>⟨let ⟨R,J⟩:=st.1;⟨R,k e (by simp) _ J⟩,Lu st.2 λo q=>k it (by simp) o q⟩
 item:=by
  walk_at "C";subst hP hw hK;let⟨xs,x,G,V⟩:=hg;let⟨p,r,pl⟩:=Dg I G;let⟨u,hu,ru⟩:=r.get V;have hsz:=r.length;have hi:i<p.toArray.size:=by rw[Î];exact(Ô.mp hu).1
  let⟨⟨R,J⟩,n⟩:=st;have hfi:=hf it (by simp);have hai:=Sl pl n;have hae:e∉[it,a]:=λz=>by
   rcases Å.mp z with z|z
   .exact M z
   .have z:e=a:=⇑z
    let⟨o',b7,m⟩:=Uf pl;rw[<-z,J]at b7;cases b7;rcases m with q|q<;>exact iM (dB q) ↥1
  refine wpAny_pyNext_enum_itemD (QP (A:=X.A.in1) (I.ok.hd hc) it a hai p.toArray) J ⟨n,pl⟩ hi M hae λv h3 d C j g hT _ hk=>?_;have ev:v=u:=by
   have C:p[i]?=fJ v:=⇑C
   rw[hu]at C;exact(ë C).symm
  subst ev;have nT:∀b∈[e,it],s.heap.objs.size≠b:=λb hb z=>by
   rcases Å.mp hb with q|q
   .exact iM (Û J) (by rw[<-q,<-z];exact ħ _)
   .have q:b=it:=⇑q
    let⟨o,W,_⟩:=Nu n;exact iM (Û W) (by rw[<-q,<-z];exact ħ _)
  have cf:=I.fpOk (H':=H) (Ì s.heap.objs.size) I.fresh;refine⟨.ref s.heap.objs.size,rfl,wpAny_letOwnedTupleGo_enum j λh4 he4 U=>?_⟩;have I4:Inv X Â σ H {s with heap:=h4,toks:=d+1}:=I.turnedL (t':=d+1) (ch:=[e,it]) (λb o hb q=>U.extBut b o (λz=>hb<|by simp[z])<|hk b o (λz=>hb<|by simp[z]) (λz=>hb<|by simp[z]) q) hf;have hT4:h4.get? s.heap.objs.size=fJ {cls:=.type "tuple",data:=.seq #[.int i d,v]}:=U.extBut _ _ (nT e<|by simp) hT;let⟨f0,f1,f2,f3,f4,f5⟩:=cf;have I5:Inv X Â σ (upd H s.heap.objs.size<|.tup [.int i,x]) {s with heap:=h4,toks:=d+1}:=I4.track f0 I.sz f1 f4 f5 ⟨by show 2<=à;decide,[.int i d,v],.cons ⟨d,rfl⟩<|.cons ru .nil,_,hT4,rfl,_,rfl⟩;refine⟨.ref s.heap.objs.size,_,I5,rfl,⟨s.heap.objs.size,rfl,f0,λys y hy f=>?_⟩,⟨⟨v,⇑he4⟩,Lu g.1 λo q=>U.extBut it o (Ne.symm M) q⟩,λb hb=>?_⟩
  .have ey:ys=xs:=QJ I hy G;rw[ey,V]at f;rw[ë f]
  .rw[fN (nT b hb).symm];exact(hf b hb).1
 done:=by
  walk_at "C";subst hP hw hK;let⟨xs,G,V⟩:=hg;let⟨p,r,pl⟩:=Dg I G;have hl:=r.length;let⟨⟨R,J⟩,n⟩:=st;have hT:s.TypeIs (.ref e) "enumerate":=⟨_,J,rfl⟩
  unfold Κ;refine À<|wpAny_attempt<|ĥ (name:=iO "__next__") hT F.slot_enumerate_next<|ę F.slot_enumerate_next hT F.entry_enumerate_next ?_<|F.args_enumerate_next_1 _;show wpAny _ _ (field (.ref e) 2 >>= _) _ _ _;refine À<|Į J rfl (x:=.ref it) rfl ?_;refine À (Ft (A:=X.A.in1) (I.ok.hd hc) n pl (by simp;lia) λh' x he' O=>?_);let⟨o,W,ce⟩:=O;refine À<|bM (T:="StopIteration") (b:=fL) ⟨o,W,ce⟩ isSubtype_stop<|È ⟨rfl,?_⟩;exact I.turnedL (t':=s.toks) (ch:=[it]) (λb ob hb q=>he' b ob (λz=>hb<|by simp[z]) q) λb hb=>hf b<|Ý _ hb
 self:=λA i s Q E st h=>by let⟨⟨R,J⟩,_⟩:=st;exact wpAny_pyIter_enum J h
section
abbrev SL(l:Bool)(K:Frag)(J:TA):TI:=λσ H R=>J σ H λI o=>∃a,I=[.ref a]/\(∃xs,SqE l K o a xs)/\R (Iq l K a) o
def AA(v:Gl X "enumerate")(hm:X.mg "enumerate" = fK)(ha:PA X [e] f)(n:Þ [e] X.env=[(fM,eval e X.env)]:=by rfl) :
  PI X (.Tuple es kk tp) (.Call (.Name "enumerate" p) [e] [] d) (SL l X.K f):=by
 intro Â s σ H R I h;refine Call_ (YQ (u:=.type "enumerate") I v hm (by kernel_rfl)<|PyProof.Rows.callWith_type1 (T:="enumerate") (thn (ha d Â s σ H _ I h) λus s1 ⟨M,j,J,r1,m⟩=>?_) n rfl);let⟨a,C,⟨xs,r⟩,q⟩:=m;subst C;let⟨u,rfl,k⟩:=ZR r1;cases k;let⟨G,O,pl⟩:=Dg J r;refine Cf pl λx o y U=>?_;have F:Inv X Â σ j {s1 with heap:=x}:=J.kept (t':=s1.toks) U;refine wpAny_pyIter_enum o ⟨s1.heap.objs.size+1,[s1.heap.objs.size+1,s1.heap.objs.size],_,_,j,rfl,F,BP a s1.heap.objs.size (s1.heap.objs.size+1)<|Ŕ<|İ _,⟨⟨_,o⟩,y⟩,λb hb=>?_,q⟩;have g:s1.heap.objs.size<=b:=by
  rcases Å.mp hb with z|z
  .rw[z];exact ŋ _
  .have z:b=s1.heap.objs.size:=⇑z
   rw[z];exact Ì _
 exact J.fpOk g<|J.hok.fresh g
end
end L2
namespace L2
open PySem PySem.Spec PyProof.Rows
open PySem.Builtin PySem.Builtin.Str
noncomputable abbrev TJ:=St->Hp->Str->(Str->Hp->Prop)->Prop
abbrev PJ(X:Cx)(vs:List Expr)(t:TJ):Prop :=
 ∀(o:List<|Í×Obj) (s:Æ) (σ:St) (H:Hp) (ı:Str) (Q:Str->Hp->Prop),Inv X o σ H s->t σ H ı Q->
  Joins ↥2 X.A X.xe (evalEach vs X.env) ı (λout s1=>∃I,Inv X o σ I s1/\out.length<=à/\Q out I) s
section
variable {e:Expr}{í:Pos}
def Joins.imp:∀{ps:List (Sem Ã)}{I:Str}{Q J:Str->Æ->Prop}{s:Æ},(∀o s,Q o s->J o s)->Joins M A E ps I Q s->Joins M A E ps I J s
 |[],_,_,_,_,f,h=>f _ _ h
 |_::_,_,_,_,_,f,h=>thn h λv s1 ⟨y,t,e,R,U⟩=>⟨y,t,e,R,Joins.imp f U⟩
end
abbrev jl(c:Nat):List (List Nat)->List Nat
 |[]=>[]
 |[x]=>x
 |x::y::r=>x++c::jl c (y::r)
abbrev wT:Str:="tie"
structure gh(bs:List Int)(ts:List Tie):Prop where
 br:BrOk bs
 ti:TsOk bs ts
 so:sortI bs=bs
 lo:ts.map loT=ts
end L2
namespace L2
open PySem PySem.Spec PyProof.Rows
variable {h:Ĉ}
def fV.obj(x:fV P w H h a o):∃u,h.get? a=fJ u:=by
 cases o with
 |lst xs=>let⟨_,_,_,_,e⟩:=x;exact⟨_,e⟩
 |tup xs=>let⟨_,_,_,I,e,_⟩:=x;exact⟨_,e⟩
 |dK kvs=>let⟨_,_,_,_,o,_,_,e,_⟩:=x;exact⟨_,e⟩
 |dT kvs=>let⟨_,_,_,_,o,_,_,e,_⟩:=x;exact⟨_,e⟩
 |set S n=>let⟨o,_,_,_,e,_⟩:=x;exact⟨_,e⟩
 |ins C dx fs=>let⟨_,_,_,e,_⟩:=x;exact⟨_,e⟩
 |own y=>exact x
 |xd fs=>let⟨_,⟨_,_,_,e,_⟩,_⟩:=x;exact⟨_,e⟩
 |rng lo hi=>let⟨_,_,_,e⟩:=x;exact⟨_,e⟩
 |frz I u=>exact⟨_,x.1⟩
 |tbl ps=>exact⟨_,(show h.get? a=fJ _ from x)⟩
 |met f y=>exact⟨_,(show h.get? a=fJ _ from x)⟩
 |ext φ=>exact x.2.1
abbrev Gg(h:Ĉ)(a:Í)(cls:Ã)(T:Option Í):Prop :=
 ∃I o R,h.get? a=fJ I/\I.cls=cls/\I.data=.fields o/\o[0]?=fJ R/\
  match T with
  |none=>o[1]?=fJ .none
  |some T=>o[1]?=fJ (.ref T)/\T≠a/\∃J ts fl,h.get? T=fJ J/\J.data=.fields ts/\ts[3]?=fJ fl
structure Fl(P:æ)(w:û)(l:List Env)(H:Hp)(s:Æ)(H':Hp)(a:Í)(cls:Ã)(s':Æ):Prop where
 os:s'.os=s.os
 bare:ϑ s'.gens
 un:Un (frs l) [] H H' s.heap s'.heap
 hok:HOk P w H' s'.heap
 na:s.heap.get? a=fK
 ha:H' a=fK
 ex:∃T,Gg s'.heap a cls T/\∀t,T=fJ t->s.heap.get? t=fK/\H' t=fK
abbrev CX1(P:æ)(w:û):CXT:=λl H s E e I=>∃a cls o,e=.ref a/\Fl P w l H s o a cls I/\E cls fK o
abbrev XW(X:Cx)(E:XK):Prop:=∀(o:List<|Í×Obj) (σ:St) (H:Hp) (s:Æ) (H':Hp) (a:Í) (cls:Ã) (s':Æ),
 Inv X o σ H s->Fl X.prog X.w X.stack H s H' a cls s'->E cls fK H'->X.xe (.ref a) s'
def XW.passes(h:XW X E):Xz (CX1 X.prog X.w) X E:=λo σ H s e J I ⟨a,cls,R,z,f,q⟩=>by subst z;exact h o σ H s R a cls J I f q
section
variable {M:Model}{B:Ĉ}{env:Env}{outer:List Env}{L a:Í}{T:Option Í}
abbrev Xy(h:Ĉ)(l:List Env)(a:Í)(T:Option Í):Ĉ:=PySem.W.hideAll h<|a::(T.toList++frs l)
def Xo(h:Ĉ)(l:List Env)(a:Í)(T:Option Í):(Xy h l a T).StaysIn h:=λb o e=>PySem.W.of_hideAll _ e
def JR(a:Í)(T:Option Í)(hl:h.FunFrames B l):h.FunFrames (Xy h l a T) l :=
 PySem.W.funFrames_hide hl λe he b hb=>Ý _<|Ç _<|ů.mpr ⟨e,he,hb⟩
def U1(h:Ĉ)(l:List Env)(a:Í)(T:Option Í):(Xy h l a T).get? a=fK:=PySem.W.hideAll_none _ ð
def Ap(h:Ĉ)(l:List Env)(a t:Í):(Xy h l a<|fJ t).get? t=fK:=PySem.W.hideAll_none _ (Ý _<|Ê _<|by simp)
def BK(n:A.frames=fJ (env::outer))(hf:env.frame=fJ L)(hl:s.heap.FunFrames B<|env::outer)(r:Gg s.heap a cls T)(fin:∀h' d,Heap.NotedW (Xy s.heap (env::outer) a T) (env::outer) a cls d (ģ L) s.heap h'->Q () {s with heap:=h'}):wpAny M A (bL (.ref a) env) Q E s:=by
 let⟨p,f,d,he,g,hd,h0,ht⟩:=r;have fin:=λh'=>fin h' d;cases T with
 |none =>subst g;unfold bL;simp![hf];refine À<|Į he hd ht ?_;rw[iI<|by decide];exact wpAny_entryW n (JR a fK hl) hf he (Xo _ _ _ _) (U1 _ _ _ _) hd (Ŀ.mp ht).1 h0 fin
 |some t =>
  let⟨i,k,q,ts,fl,U,R,j⟩:=ht;by_cases c:fl=ģ L
  .subst c;have l:s.heap.TracedAtW (Xy s.heap (env::outer) a<|fJ t) a cls d<|ģ L:=⟨p,f,t,q,ts,he,⟨g,h0⟩,hd,i,Ap _ _ _ _,k,U,R,j⟩
   exact wpAny_noteFrame_againW hf l<|fin _ ⟨Xo _ _ _ _,JR a (fJ t) hl,l,λb o e I=>⟨o.slots,e⟩⟩
  .subst g;unfold bL;simp![hf];refine À<|Į he hd i ?_;rw[iH<|by simp];refine À<|Į U R j ?_;rw[iI<|by simpa using c];refine À<|Ň U R (Ŀ.mp j).1 ?_;have off:∀b,b≠t->(s.heap.update t (ύ (·.setIfInBounds 3 Value.none))).get? b=s.heap.get? b:=λb hb=>ò _ _ hb.symm;have m:∀b o,s.heap.get? b=fJ o->(∀f,o.data≠.fields f)->b≠t:=λb o hb I z=>by
    rw[z,U]at hb;cases hb;exact I ts R
   have bn:=Ap s.heap (env::outer) a t;exact wpAny_entryW n ((JR a (fJ t) hl).of_keeps λb o hb I=>⟨o,(off b<|m b o hb I).trans hb,rfl⟩) hf ((off a k.symm).trans he) (λb o J=>(off b λz=>by rw[z,bn]at J;cases J).trans<|Xo _ _ _ _ b o J) (U1 _ _ _ _) hd (Ŀ.mp i).1 h0 λh' ⟨x1,x2,x3,x4⟩=>fin h' ⟨x1,x2,x3,λb o hb I=>x4 b o ((off b<|m b o hb I).trans hb) I⟩
def Bx(p:A.frames=fJ (env::outer))(hf:env.frame=fJ L)(hl:s.heap.FunFrames B<|env::outer)(l:Gg s.heap a cls T)(h:∀h' I,eV (Xy s.heap (env::outer) a T) (env::outer) a cls I s.heap h'->Q () {s with heap:=h'}):wpAny M A (bL (.ref a) env) (λ_ s2=>wpAny M A (setFlight (.ref a) fK) Q E s2) E s :=
 BK p hf hl l λh' I ⟨f,d,c,U⟩=>wpAny_setFlight_noneW f d c λm k j i g=>h m I ⟨k,j,i,λb o e J=>by
   let⟨R,n⟩:=U b o e J
   exact⟨R,g b _ n J⟩⟩
def UC(I:A.frames=fJ (env::outer))(hf:env.frame=fJ L)(hl:s.heap.FunFrames B<|env::outer)(o:Gg s.heap a cls T)(h:∀h' J,eV (Xy s.heap (env::outer) a T) (env::outer) a cls J s.heap h'->Q () {s with heap:=h'}):wpAny M A (leaving env<|.ref a) Q E s:=À<|Bx I hf hl o h
end
variable {l:List Env}{h':Ĉ}{T:Option Í}
def Fl.noted(f:Fl P w l H s H' a cls s')(hT:∀t,T=fJ t->s.heap.get? t=fK/\H' t=fK)(hl:s'.heap.FunFrames B l)(cf:∀b∈frs l,H' b=fK)(z:Heap.NotedW (Xy s'.heap l a T) l a cls a0 fl s'.heap h'):Fl P w l H s H' a cls {s' with heap:=h'}:=by
 let⟨k1,k2,V,O⟩:=z;have R:∀b o,s'.heap.get? b=fJ o->b≠a->(∀t,T=fJ t->b≠t)->b∉frs l->h'.get? b=fJ o:=λb o e na nt I=>k1 b o (PySem.W.hideAll_get _ e (by
   intro m
   rcases Å.mp m with m|m
   . exact na m
   . rcases Ë.mp m with m|m
     . cases T with
       |none=>cases m
       |some t=>exact nt t rfl ⇑m
     . exact I m))
 have slot:∀b o,s'.heap.get? b=fJ o->b∈frs l->∃j,h'.get? b=fJ {o with slots:=j}:=λb o e hb=>by let⟨_,o2,J,I⟩:=hl.mem hb;rw[e]at J;cases J;exact O b o e I
 have g:∀b o,s.heap.get? b=fJ o->b≠a/\∀t,T=fJ t->b≠t:=λb o e=>⟨(λz=>by rw[z,f.na]at e;cases e),(λt ht z=>by rw[z,(hT t ht).1]at e;cases e)⟩
 refine⟨f.os,f.bare,⟨λb o e n I _=>?_,λb o e n hb _=>?_,f.un.free,λb o e _=>?_,f.un.tups,f.un.frzs,f.un.tbls⟩,?_,f.na,f.ha,?_⟩
 .exact R b o (f.un.keep b o e n I<|by simp) (g b o e).1 (g b o e).2 I
 .obtain⟨j,d⟩:=f.un.slot b o e n hb (by simp);let⟨i,J⟩:=slot b _ d hb;exact⟨i,J⟩
 .obtain⟨o1,d⟩:=f.un.there b o e (by simp);by_cases hb:b∈frs l
  .obtain⟨j,J⟩:=slot b _ d hb;exact⟨_,J⟩
  .exact⟨o1,R b o1 d (g b o e).1 (g b o e).2 hb⟩
 .intro b u e;have good:∀c v,H' c=fJ v->∀ob,s'.heap.get? c=fJ ob->h'.get? c=fJ ob:=λc v U ob eo =>
   R c ob eo (λz=>by rw[z,f.ha]at U;cases U) (λt ht z=>by rw[z,(hT t ht).2]at U;cases U) λm=>by rw[cf c m]at U;cases U
  refine(f.hok b u e).stay (λc v hc q=>?_) (λ_ q=>q) λ_ _ q=>q;rcases hc with z|z
  .rw[z]at q ⊢;exact good b u e v q
  .exact good c _ z v q
 .obtain⟨G,F,t',M,ts,d,⟨J,e3⟩,e4,e5,e6,C,y,x,r⟩:=V;refine⟨fJ t',⟨G,F,a0,d,J,e4,e3,e5,C,M,ts,fl,y,x,r⟩,λt ht=>?_⟩;cases ht;have hid:∀o,s'.heap.get? t'=fJ o->T=fJ t':=λo e=>by
   have p:¬ (t'∉(a::(T.toList++frs l))):=λm=>by have q:(Xy s'.heap l a T).get? t'=fJ o:=PySem.W.hideAll_get _ e m;rw[e6]at q;cases q
   have m:=Classical.not_not.mp p;rcases Å.mp m with m|m
   .exact iM m C
   .rcases Ë.mp m with m|m
    .cases T with
     |none=>cases m
     |some t=>rw[show t'=t by simpa using m]
    .obtain⟨_,o2,q,I⟩:=k2.mem m;rw[y]at q;cases q;exact iM x<|I ts
  constructor
  .cases q:s.heap.get? t' with
   |none=>rfl
   |some o =>let⟨o1,k⟩:=f.un.there t' o q (by simp);have:=(hT t'<|hid o1 k).1;rw[q]at this;cases this
  .cases q:H' t' with
   |none=>rfl
   |some u =>let⟨o1,k⟩:=(f.hok t' u q).obj;have:=(hT t'<|hid o1 k).2;rw[q]at this;cases this
def Fl.left(f:Fl P w l H s H' a cls s')(hT:∀t,T=fJ t->s.heap.get? t=fK/\H' t=fK)(hl:s'.heap.FunFrames B l)(o:∀b∈frs l,H' b=fK)(z:eV (Xy s'.heap l a T) l a cls a0 s'.heap h'):Fl P w l H s H' a cls {s' with heap:=h'}:=f.noted (fl:=.none) hT hl o z
section
variable {K:Frag}
variable {X:Cx}
def Inv.raised{o:List (Í×Obj)}{σ:St}{H':Hp}{s':Æ}{a:Í}{cls:Ã}(I:Inv X o σ H s)(f:Fl X.prog X.w X.stack H s H' a cls s'):Inv X o σ H' s' :=
 I.call' (ch:=[]) f.os f.un f.hok f.bare (λb z=>iM z<|by simp)
def OY(ok:X.Ok)(h:X.stack=X.env::X.outer):X.env.frame=fJ X.env.locals:=by
 rcases ok.stk with e|e
 .rw[h]at e;exact iM (congrArg List.length e) (by simp)
 .exact e.2
variable {N:List Str}{qual:Str}{f:Í}
def Qj:XW (Nh (CX1 P w) P w K mg base N qual scope f cd A outer s H E) E:=by
 intro k σ p s2 H' a cls s' I f q;have J:=I.raised f;let⟨T,i,hT⟩:=f.ex;show wpAny _ _ (leaving _ _) _ _ _;refine UC (outer:=outer) J.ok.frames (OY J.ok rfl) J.stack i λh' a0 z=>?_;have f2:=f.left hT J.stack J.stkFree z;have U:=I.raised f2;have g:∀b,s2.heap.get? b=fK->s.heap.get? b=fK:=λb e=>by
  cases z:s.heap.get? b with
  |none=>rfl
  |some o =>let⟨n,d⟩:=I.base.there b o z (by intro m;cases m);rw[e]at d;cases d
 let⟨j,c,R⟩:=f2.ex;exact⟨a,cls,H',rfl,⟨U.os,U.bare,U.base,U.hok,g a f2.na,f2.ha,j,c,λt ht=>⟨g t (R t ht).1,(R t ht).2⟩⟩,q⟩
def Fun.ok1{st:ľ}(F:Fun K x qual st f fd)(S:FnScope N ps<|Zv st)(len:∀vs H Q E,sp vs H Q E->vs.length=ps.length)(o:∀(I:Ã) (A:ċ) (outer:List Env) (s:Æ) (H:Hp) (vs:List V) (Q:VK) (E:XK),gL k (A.deeper<|aO qual (Zv st) s.heap.objs.size f I)->sp vs H Q E->
    XW (Nh (CX1 P w) P w K mg base N qual (Zv st) f I A outer s H E) E->
    ∃t,PSs (Nh (CX1 P w) P w K mg base N qual (Zv st) f I A outer s H E) (ZT st) t/\t { nx:=λ_ H'=>Q .non H',rt:=Q } (start N vs) H):gN P w K mg base (CX1 P w) (k+1) f fd ps sp:=by
 let⟨e,d,kV,doc,pm,an,I,ct,R,rfl,U,c⟩:=F.ex;exact Rq U c S len λA outer s H vs Q E b J=>o I A outer s H vs Q E b J Qj
end
abbrev XP(X:Cx)(I:List<|Í×Obj)(σ:St)(E:XK)(v:Ã)(s':Æ):Prop :=
 ∃a cls o H' s1,v=.ref a/\Inv X I σ o s1/\Fl X.prog X.w X.stack o s1 H' a cls s'/\E cls fK H'
abbrev xcO(a:Í)(cls:Ã):HO:=.ext λh=>∃o I,h.get? a=fJ o/\o.cls=cls/\o.data=.fields I
end L2
namespace L2
open PySem PySem.Spec PySem.W PySem.Calls PyProof.Rows PySem.Builtin PySem.Builtin.ObjectAttr PySem.Builtin.Getset_descriptor
section
variable {K:Ο}{g:Array cL}{d:Drawn}{t:Nat}{os:OsState}{C:Í}{o:Obj}
structure XCls(K:Ο)(C:Í):Prop where
 ga:ae K (.ref C) "__getattribute__" = fJ (fJ<|.builtin "BaseException.__getattribute__")
 gr:ae K (.ref C) "__getattr__" = fJ fK
 cl:ae K (.ref C) "__class__" = fJ (fJ<|.builtin "object.__class__")
 mo:mroIn K C (.type "object")=fJ fL
 mb:mroIn K C (.type "BaseException")=fJ fL
 ci:(clsIn K C).isSome=fL
end
end L2
namespace L2
open PySem PySem.Spec PyProof.Rows
section
def KG:fU X (.type "int") λxs H Q=>∃z n,xs=[.str z]/\PySem.intText? z=fJ n/\z.length<=640/\Q (.int n) H:=by walk_at "D";let⟨z,n,rfl,e,hl,q⟩:=h;let⟨u,rfl,t,rfl⟩:=ZR r;exact PySem.W.KIN.call_text e hl ⟨.int n,H,I.tok _,⟨_,rfl⟩,q⟩
end
end L2
namespace L2
open PySem PySem.Spec PyProof.Rows
open PySem.Builtin PySem.Builtin.Str
abbrev AY(z:Str)(lo hi:Option Int):Str:=if(Ρ lo hi 1 z.length).length=z.length then z else⟨((Ρ lo hi 1 z.length).filterMap (z.cps[·]?)).toArray⟩
def Da(z:Str)(lo hi:Option Int):(AY z lo hi).length<=z.length:=by
 unfold AY;split
 .exact Ì _
 .show((Ρ lo hi 1 z.length).filterMap (z.cps[·]?)).toArray.size<=_;rw[Î];exact Ù (Ū _ _)<|indices_len_le lo hi z.length
section
abbrev S1:V->Option Int->Option Int->Hp->VK->Prop:=λx lo hi H Q=>∃z,x=.str z/\z.length<=à/\Q (.str<|AY z lo hi) H
def UU{lo:Option Int}(h:Ν v lo):∃l:Option<|Int×Tok,v=partValue l/\l.map (·.1)=lo:=by
 cases h with
 |none=>exact⟨fK,rfl,rfl⟩
 |int i t=>exact⟨fJ (i,t),rfl,rfl⟩
def sl_str:SlR X S1:=by
 intro f s σ H x v i g lo hi R Q I U b pl pu h;let⟨z,rfl,a,q⟩:=h;let⟨t,rfl⟩:=U;refine⟨"str",_,slot_str_getitem.lookup,typeIs_str s z t,?_⟩;let⟨l,rfl,d⟩:=UU pl;let⟨u,rfl,c⟩:=UU pu;have o:s.heap.IsSlice R l u fK:=b;refine wpAny_getItem_str_slice o rfl ?_;have e:sliceMade z t l u fK=if(Ρ lo hi 1 z.length).length=z.length then .val (.str z t)else .str ⟨((Ρ lo hi 1 z.length).filterMap (z.cps[·]?)).toArray⟩:=by unfold sliceMade slicePicked;rw[d,c];simp
 rw[e];have cl:=Da z lo hi;unfold AY at q cl;split
 .rename_i J;rw[iH J]at q;exact⟨.str z,H,I,⟨t,rfl⟩,q⟩
 .rename_i J;rw[iI J]at q cl;exact⟨Ù cl a,.str _,H,I.tok _,⟨_,rfl⟩,q⟩
end
section
def Ay(z:Str):∀(n:Nat) (a:Array Nat),((ß n z.cps).foldl (· ++ ·) a).size=a.size+n*z.cps.size
 |0,a=>by simp
 |n+1,a=>by rw[Ē,ķ,Ay z n,eW,Nat.succ_mul];lia
end
end L2
namespace L2
open PySem PySem.Spec PyProof.Rows
section
variable {X:Cx}(K:Frag)(h:X.K=K)
include h
end
end L2
namespace HT
open PySem PyProof.Rows
open PySem.SeqAt
open PySem.AutoSeq1 (wpAny_loadPart')
open PySem.MeetsSeq PySem.MeetsSeq2 PySem.MeetsSeq3
section
variable {prog:æ}
def getItem_tuple_whole{lo:Option Int}(ht:ϸ s.heap t items)(c:s.heap.IsSliceOf I b a .none)(pl:Ν b lo)(pu:Ν a hi)(hw:sIx items.size 0 lo=0/\sIx items.size items.size hi=items.size)(h:Q (.ref t) s):wpAny (â prog w) A (ϡ (.ref t)<|.ref I) Q E s:=by
 let⟨os,J,R,d⟩:=id c;have U:s.TypeIs (.ref I) "slice":=⟨os,J,R⟩
 unfold ϡ
 try with_reducible refine Ă ?_
 first|refine À (È ?_)|skip
 refine À (bh ht.typeIs ↥1 ?_);refine À (ĥ (name:=iO "__getitem__") ht.typeIs PyProof.Rows.slot_tuple_getitem
   (ę PyProof.Rows.slot_tuple_getitem ht.typeIs entry_tuple_getitem ?_<|args_tuple_getitem _ _))
 show wpAny _ _ (Builtin.Tuple.tupleItemsOf (.ref t) >>= _) _ _ s;refine À<|tupleItemsOf_ ht ?_;refine À<|Ś U ?_;rw[iH<|by decide];refine À<|Yw c pl pu ?_;have o:(((sIx items.size 0 lo:Nat):Int)==0&&(1:Int)==1&&(sIx items.size items.size hi - sIx items.size 0 lo)==items.size)=fL:=by rw[hw.1,hw.2];simp
 show wpAny _ _ (if(((sIx items.size 0 lo:Nat):Int)==0&&(1:Int)==1&&(sIx items.size items.size hi - sIx items.size 0 lo)==items.size)=fL then _ else _) _ _ s;rw[iH o];refine À ?_;unfold Builtin.Tuple.tupleIsExact;refine À<|Ś ht.typeIs<|È ?_;rw[iH<|by decide]
 first
  |exact À<|È<|È ⟨_,rfl,È h⟩
  |exact À<|Δ<|È ⟨_,rfl,È h⟩
  |exact È ⟨_,rfl,È h⟩
end
end HT
namespace L2
open PySem PySem.Spec PyProof.Rows
section
abbrev RJ(K:Frag):V->Option Int->Option Int->Hp->VK->Prop:=λx lo hi H Q=>∃a xs,x=.ref a/\ir K H a xs/\(HT.sIx xs.length 0 lo=0/\HT.sIx xs.length xs.length hi=xs.length)/\Q (.ref a) H
def GP:SlR X<|RJ X.K:=by
 intro b s σ H x v d c lo hi e Q I J U pl pu h;let⟨a,xs,rfl,R,hw,q⟩:=h;cases J;let⟨o,r,ht,f⟩:=I.tuple R;have hlen:o.toArray.size=xs.length:=by rw[Î];exact r.length.symm
 refine⟨"tuple",_,PyProof.Rows.slot_tuple_getitem.lookup,ht.typeIs,?_⟩;exact HT.getItem_tuple_whole ht U pl pu (by rw[hlen];exact hw) ⟨.ref a,H,I,rfl,q⟩
end
end L2
namespace L2
open PySem PySem.Spec PyProof.Rows
open PySem.Builtin PySem.Builtin.Str
section
abbrev P6(z:Str)(n:Nat):Str:=⟨(ß n z.cps).foldl (· ++ ·) #[]⟩
def Mn(z:Array Nat):∀(n:Nat) (a:Array Nat),((ß n z).foldl (· ++ ·) a).toList=a.toList++(ß n z.toList).flatten
 |0,a=>by simp
 |n+1,a=>by rw[Ē,ķ,Mn z n,Ē,ŉ,Array.toList_append,ü]
abbrev IJ:R2:=λx y H Q=>∃z k,x=.str z/\y=.int k/\2<=k/\k<=1000000/\1<=z.length/\z.length*k.toNat<=1000000/\Q (.str<|P6 z k.toNat) H
def GX:OpR X (Ŏ .Mult) IJ:=by
 walk_at "A";let⟨z,k,rfl,rfl,e,d,f,c,q⟩:=h;let⟨t,rfl⟩:=rx;let⟨b,rfl⟩:=ry;have big:(1000000:Nat)<=à:=by decide
 have nb:(k==1||z.length==0)=fM:=by have U:(k==1)=fM:=beq_false_of_ne ↥0;have R:(z.length==0)=fM:=beq_false_of_ne ↥0;rw[U,R];rfl
 have a:z.length<=1000000:=by have:z.length*1<=z.length*k.toNat:=eX _ ↥0;lia
 have o:(iN (k < -(2 ^ 63:Int))||iN (k≥2 ^ 63))=fM:=by rw[iJ ↥0,iJ<|by lia];rfl
 have hb:¬ k<1->(k==1||z.length==0)=fM->¬ ((z.length:Int) > (2 ^ 63 - 1) / k):=λ_ _=>by have:(1000000:Int)<=(2 ^ 63 - 1) / k:=(cQ<|by lia).mpr ↥0;lia
 have hl:¬ k<1->(k==1||z.length==0)=fM->tooLong (z.length*k.toNat)=fM:=λ_ _=>by unfold tooLong;exact iJ ↥0
 refine P.mul_str o hb hl ?_;rw[iI ↥0,iI<|by rw[nb];exact ă];have J:(⟨(ß k.toNat z.cps).foldl (· ++ ·) #[]⟩:Str).length=z.length*k.toNat:=by show((ß k.toNat z.cps).foldl (· ++ ·) #[]).size=_;rw[Ay,cP z.length];simp[Str.length]
 exact⟨by rw[J];lia,.str _,H,I.tok _,⟨_,rfl⟩,q⟩
variable {c y z a b:Str}{k1 k2 k3:Nat}{p1 p2 p3 p4 pa pb Ő Œ:Pos}
end
end L2
namespace L2
open PySem PySem.Spec PyProof.Rows
section
abbrev IH(K:Frag):R2:=λx y H Q=>∃a b o,x=.ref a/\y=.ref b/\ir K H a []/\ir K H b o/\Q (.ref b) H
def op_cat0:OpR X (Ŏ .Add)<|IH X.K:=by
 walk_at "A";let⟨a,b,p,rfl,rfl,ha,hb,q⟩:=h;cases rx;cases ry;let⟨m,r1,i,_⟩:=I.tuple ha;let⟨l,r,g,_⟩:=I.tuple hb;cases r1;let⟨⟨cls,k,data,f⟩,U,c,n,hd⟩:=id i;let⟨⟨e,R,data2,J⟩,dL,o,j,d⟩:=id g;simp only at c hd o d;subst c hd o d;exact fq ⟨_,U,rfl⟩ ⟨_,dL,rfl⟩ bK dW PySem.F.slot_tuple_add PySem.F.entry_tuple_add (PySem.F.args_tuple_add_2 _ _)
  (tuple_addW0 a b _ _ n j k R f J rfl) ⟨U,dL,.ref b,H,I,rfl,q⟩
end
section
abbrev HV(K:Frag)(neg:Bool):R2:=λx y H Q=>∃ds d,(IsD K H y (.tuple ds)\/IsD K H y (.list ds))/\IsD K H x d/\ŕ ds=fL/\d.canLay0=fL/\d.depth<=64/\Q (.bl<|if neg then !ds.any (λe=>ĭ e d)else ds.any λe=>ĭ e d) H
def Pe(c:X.A.units+65<Ī):OpR X (î .In)<|HV X.K fM:=by
 walk_at "A";let⟨ds,d,hd,he,R,J,b,q⟩:=h;let⟨bs,U⟩:=he.reads I rx;have a:X.A.units+1+min (Ņ ds) d.depth<Ī:=by have:min (Ņ ds) d.depth<=d.depth:=aP _ _;lia
 rcases hd with hd|hd
 .obtain⟨as,o⟩:=hd.reads I ry;exact SeqAt.in_tuple_reads o U R J a ⟨.bl _,H,I,rfl,q⟩
 .obtain⟨as,o⟩:=hd.reads I ry;exact SeqAt.in_list_reads o U R J a ⟨.bl _,H,I,rfl,q⟩
def BX(c:X.A.units+65<Ī):OpR X (î .NotIn)<|HV X.K fL:=by
 walk_at "A";let⟨ds,d,hd,he,R,J,b,q⟩:=h;let⟨bs,U⟩:=he.reads I rx;have a:X.A.units+1+min (Ņ ds) d.depth<Ī:=by have:min (Ņ ds) d.depth<=d.depth:=aP _ _;lia
 rcases hd with hd|hd
 .obtain⟨as,o⟩:=hd.reads I ry;exact SeqAt.notIn_tuple_reads o U R J a ⟨.bl _,H,I,rfl,q⟩
 .obtain⟨as,o⟩:=hd.reads I ry;exact SeqAt.notIn_list_reads o U R J a ⟨.bl _,H,I,rfl,q⟩
end
section
variable {κ:Type}[DecidableEq κ]
abbrev YI(kvs:List<|κ×V)(k:κ):Option V:=(kvs.find? λo=>iN (o.1=k)).map (·.2)
abbrev gp(kvs:List<|κ×V)(k:κ)(v:V):List (κ×V) :=
 if(kvs.any λo=>iN (o.1=k))=fL then kvs.map (λo=>if o.1=k then(o.1,v)else o)else kvs++[(k,v)]
abbrev gq(kvs:List<|κ×V)(k:κ):List<|κ×V:=kvs.filter λo=>iN (o.1≠k)
variable {p:κ×V}{r:List (κ×V)}
def Xw(e:p.1=k):YI (p::r) k=fJ p.2:=by simp[YI,Ğ,e]
def Xl(e:¬ p.1=k):YI (p::r) k=YI r k:=by simp[YI,Ğ,e]
def XA(k:κ):∀kvs:List<|κ×V,(kvs.any λo=>iN (o.1=k))=(YI kvs k).isSome
 |[]=>rfl
 |p::r=>by
  rw[Ħ];by_cases e:p.1=k
  .simp![Xw e,iK e,Bool.true_or,Option.isSome_some]
  .rw[Xl e,iJ e,Bool.false_or];exact XA k r
def Yt(kvs:List<|κ×V)(k:κ)(v:V):(gp kvs k v).length<=kvs.length+1:=by
 unfold gp;split
 .rw[Á];lia
 .rw[á,Ñ,ņ];lia
def gK.isSome_eq(r:gK o u):o.isSome=u.isSome:=by
 cases o with
 |none=>cases u with
  |none=>rfl
  |some _=>exact(show False from r).elim
 |some _=>cases u with
  |none=>exact(show False from r).elim
  |some _=>rfl
def gK.getD(r:gK o u)(rd:RelV d d'):RelV (o.getD d)<|u.getD d':=by
 cases o with
 |none=>cases u with
  |none=>exact rd
  |some _=>exact(show False from r).elim
 |some _=>cases u with
  |none=>exact(show False from r).elim
  |some _=>exact r
variable {kvs:List (κ×V)}{vs:List (κ×Ã)}
def KV.val(r:KV kvs vs)(k:κ):gK (YI kvs k)<|ϣ vs k:=by
 unfold KV at r;induction r with
 |nil=>exact True.intro
 |@cons p q ps I h t U =>
  let⟨R,a⟩:=h;by_cases e:p.1=k
  .have J:q.1=k:=R.symm.trans e;have b:ϣ (q::I) k=fJ q.2:=by simp[ϣ,Ğ,J]
   rw[Xw e,b];exact a
  .have J:¬ q.1=k:=λz=>e<|R.trans z;have b:ϣ (q::I) k=ϣ I k:=by simp[ϣ,Ğ,J]
   rw[Xl e,b];exact U
def KV.any(r:KV kvs vs)(k:κ):(kvs.any λI=>iN (I.1=k))=vs.any λI=>iN (I.1=k):=by
 unfold KV at r;induction r with
 |nil=>rfl
 |cons h t ih=>rw[Ħ,Ħ,ih,h.1]
def KV.repl(r:KV kvs vs)(k:κ){u:Ã}(R:RelV y u) :
  KV (kvs.map λI=>if I.1=k then(I.1,y)else I) (vs.map λI=>if I.1=k then(I.1,u)else I):=by
 unfold KV at r ⊢;induction r with
 |nil=>exact .nil
 |@cons p q ps qs h t ih =>
  rw[Ò,Ò];refine .cons ?_ ih;let⟨J,U⟩:=h;by_cases e:p.1=k
  .rw[iH e,iH<|J.symm.trans e];exact⟨J,R⟩
  .rw[iI e,iI λz=>e<|J.trans z];exact⟨J,U⟩
def KV.put(r:KV kvs vs)(k:κ){u:Ã}(I:RelV y u):KV (gp kvs k y)<|fy vs k u:=by
 unfold gp fy;rw[r.any k];by_cases e:(vs.any λJ=>iN (J.1=k))=fL
 .rw[iH e,iH e];exact r.repl k I
 .rw[iI e,iI e];exact Paired.snoc r ⟨rfl,I⟩
def KV.drop(r:KV kvs vs)(k:κ):KV (gq kvs k)<|without vs k:=by
 unfold KV at r ⊢;unfold gq without;induction r with
 |nil=>exact .nil
 |@cons p q ps qs h t ih =>
  let⟨I,J⟩:=h;rw[đ,đ];by_cases e:p.1=k
  .have a:¬ iN (p.1≠k)=fL:=by simp[e]
   have b:¬ iN (q.1≠k)=fL:=by simp[I.symm.trans e]
   rw[iI a,iI b];exact ih
  .have R:¬ q.1=k:=λz=>e<|I.trans z;have a:iN (p.1≠k)=fL:=by simp[e]
   have b:iN (q.1≠k)=fL:=by simp[R]
   rw[iH a,iH b];exact .cons ⟨I,J⟩ ih
def KV.keys(r:KV kvs vs):kvs.map (·.1)=vs.map (·.1):=by
 unfold KV at r;induction r with
 |nil=>rfl
 |cons h t ih=>rw[Ò,Ò,ih,h.1]
def KV.length(r:KV kvs vs):kvs.length=vs.length:=Paired.length r
def Fh(kvs:List<|κ×V)(k:κ):(gq kvs k).length<=kvs.length:=ě _ _
end
def Xs(r:RelV (kV k) u):(Zf P w).is k u=fL:=by
 cases k with
 |inl i=>let⟨t,e⟩:=(show ∃t,u=Value.int i t from r);subst e;exact OK P w i t
 |inr x=>let⟨t,e⟩:=(show ∃t,u=Value.str x t from r);subst e;exact OQ P w x t
def Mc:∀{ks:List Key}{us:List Ã},iu (ks.map kV) us->ItemsAre (Zf P w) ks us
 |[],_,r=>by rw[ň]at r;cases r;exact .nil
 |k::ks,_,r=>by
  rw[Ò]at r;cases r with
  |cons h t=>exact .cons (Xs h)<|Mc t
@[reducible] noncomputable def KTd(H:Hp):List (List Key×V)->List (List Key×Í×Ã)->Prop:=Paired λp q=>p.1=q.1/\H q.2.1=fJ (.tup<|p.1.map kV)/\RelV p.2 q.2.2
def KTd.val(r:KTd H kvs xs)(k:List Key):gK (YI kvs k) ((cR xs k).map (·.2)):=by
 induction r with
 |nil=>exact True.intro
 |@cons p q ps o h t R =>
  let⟨J,_,U⟩:=h;by_cases e:p.1=k
  .have I:q.1=k:=J.symm.trans e;have b:cR (q::o) k=fJ q.2:=by simp[cR,Ğ,I]
   rw[Xw e,b];exact U
  .have I:¬ q.1=k:=λz=>e<|J.trans z;have b:cR (q::o) k=cR o k:=by simp[cR,Ğ,I]
   rw[Xl e,b];exact R
def KTd.repl(r:KTd H kvs xs)(k:List Key)(R:RelV y u) :
  KTd H (kvs.map λI=>if I.1=k then(I.1,y)else I) (xs.map<|putAt k u):=by
 induction r with
 |nil=>exact .nil
 |@cons p q ps qs h t ih =>
  rw[Ò,Ò];refine .cons ?_ ih;let⟨o,J,U⟩:=h;unfold putAt;by_cases e:p.1=k
  .rw[iH e,iH<|o.symm.trans e];exact⟨o,J,R⟩
  .rw[iI e,iI λz=>e<|o.trans z];exact⟨o,J,U⟩
def KTd.put(r:KTd H kvs xs)(k:List Key)(hb:H b=fJ (.tup<|k.map kV))(o:RelV y u) :
  KTd H (gp kvs k y) (storedH xs k b u):=by
 have e:(kvs.any λI=>iN (I.1=k))=(cR xs k).isSome:=by rw[XA,(r.val k).isSome_eq,ϴ]
 unfold gp storedH;rw[e];by_cases q:(cR xs k).isSome=fL
 .rw[iH q,iH q];exact r.repl k o
 .rw[iI q,iI q];exact Paired.snoc r ⟨rfl,hb,o⟩
variable {H':Hp}
def KTd.keeps(r:KTd H kvs xs)(ht:∀b ys,H b=fJ (.tup ys)->H' b=fJ (.tup ys)):KTd H' kvs xs :=
 Paired.mapP r λ_ _ z=>⟨z.1,ht _ _ z.2.1,z.2.2⟩
section
variable {w:û}{h:Ĉ}
def Lp{u:HO}(ok:HOk P w H h)(e:Rd H a u):fV P w H h a u:=e.ok ok
def XT{kvs:List (Key×V)}(ok:HOk P w H h)(e:Rd H a<|.dK kvs):kvs.length<=à/\(a==ŗ)=fM/\∃vs,KV kvs vs/\h.DictOf (Zf P w) a vs :=
 show fV P w H h a (.dK kvs) from Lp ok e
def W1{kvs:List (Key×V)}(ok:HOk P w H h)(e:H a=fJ (.dK kvs)):kvs.length<=à/\(a==ŗ)=fM/\∃vs,KV kvs vs/\h.DictOf (Zf P w) a vs:=XT ok (.inl e)
def f6(ok:HOk P w H h)(e:H a=fJ (.tup<|ks.map kV)):(ϙ<|Zf P w).is h ks a:=by
 let⟨_,I,r,o,U,R,n,J⟩:=(show fV P w H h a (.tup<|ks.map kV) from ok a _ e)
 exact⟨o,I.toArray,n,U,R,J,by simpa using Mc r⟩
def W8(ok:HOk P w H h)(e:Rd H a<|.dT kvs):kvs.length<=à/\(a==ŗ)=fM/\
  ∃xs,KTd H kvs xs/\h.DictOfH (ϙ<|Zf P w) a xs:=by
 let⟨z,y,xs,r,o,es,f,d,c,U,R,J⟩:=(show fV P w H h a (.dT kvs) from Lp ok e)
 refine⟨z,y,xs,r,o,es,f,d,c,U,R,λx I=>?_,J⟩;have all:∀{l:List (List Key×V)}{m:List (List Key×Í×Ã)},KTd H l m->∀x∈m,(ϙ<|Zf P w).is h x.1 x.2.1:=by
  intro l m q;induction q with
  |nil=>intro x I;exact nomatch I
  |@cons p q ps qs hq t ih =>
   intro x I;rcases Å.mp I with e|I
   .subst e;exact f6 ok (by rw[<-hq.1];exact hq.2.1)
   .exact ih x I
 exact all r x I
def So(ok:HOk P w H h)(e:H a=fJ (.dT kvs)):kvs.length<=à/\(a==ŗ)=fM/\
  ∃xs,KTd H kvs xs/\h.DictOfH (ϙ<|Zf P w) a xs:=W8 ok<|.inl e
end
abbrev DGet(H:Hp)(a:Í)(y:V)(r:Option V):Prop :=
 (∃kvs k,Rd H a (.dK kvs)/\y=kV k/\r=YI kvs k)\/∃kvs k b,Rd H a (.dT kvs)/\y=.ref b/\H b=fJ (.tup<|k.map kV)/\r=YI kvs k
abbrev DPut(H:Hp)(a:Í)(y v:V)(H':Hp):Prop :=
 (∃kvs k,H a=fJ (.dK kvs)/\y=kV k/\kvs.length<à/\H'=upd H a (.dK<|gp kvs k v))\/
 ∃kvs k b,H a=fJ (.dT kvs)/\y=.ref b/\H b=fJ (.tup<|k.map kV)/\kvs.length<à/\H'=upd H a (.dT<|gp kvs k v)
def DGet.k{H:Hp}{a:Í}{kvs:List (Key×V)}{k:Key}(e:H a=fJ (.dK kvs)):DGet H a (kV k)<|YI kvs k:=.inl ⟨kvs,k,.inl e,rfl,rfl⟩
def DGet.t{k:List Key}(e:H a=fJ (.dT kvs))(o:H b=fJ (.tup<|k.map kV)):DGet H a (.ref b)<|YI kvs k:=.inr ⟨kvs,k,b,.inl e,rfl,o,rfl⟩
def DPut.k{H:Hp}{a:Í}{kvs:List (Key×V)}{k:Key}{v:V}(e:H a=fJ (.dK kvs))(hl:kvs.length<à):DPut H a (kV k) v<|upd H a<|.dK<|gp kvs k v:=.inl ⟨kvs,k,e,rfl,hl,rfl⟩
def DPut.t{k:List Key}{v:V}(e:H a=fJ (.dT kvs))(o:H b=fJ (.tup<|k.map kV))(hl:kvs.length<à) :
  DPut H a (.ref b) v (upd H a<|.dT<|gp kvs k v):=.inr ⟨kvs,k,b,e,rfl,o,hl,rfl⟩
section
variable {X:Cx}{Â:List (Í×Obj)}{σ:St}{H:Hp}{s:Æ}{a:Í}{y v:V}{u r:Ã}{o:Option V}{A:ċ}
def Inv.big(I:Inv X Â σ H s):ŗ<s.heap.objs.size:=by have h:Č<s.heap.objs.size:=(I.mod.glob.keeps I.bk).lt;exact Ť ↥1 h
variable {Q:Ã->Æ->Prop}
def MB(m:A.units+1<Ī)(I:Inv X Â σ H s)(g:DGet H a y<|fJ v)(i:RelV y u)(h:∀J f,Inv X Â σ H f->RelV v J->Q J f) :
  wpAny ↥2 A (ϡ (.ref a) u) Q E s:=by
 rcases g with⟨kvs,k,e,U,l⟩|⟨kvs,k,b,e,U,q,l⟩
 .subst U;let⟨z,hd,j,R,c⟩:=XT I.hok e;let⟨J,hw,d⟩:=gK.some_of (v:=v) (o:=ϣ j k) (by rw[l];exact R.val k);exact wpAny_getItem_of (Xs i) c.mapOf hw<|h J _ (I.tok _) d
 .subst U;cases (show u=Value.ref b from i);let⟨z,hd,xs,R,c⟩:=W8 I.hok e;let⟨J,hw,d⟩:=gK.some_of (v:=v) (o:=(cR xs k).map (·.2)) (by rw[l];exact R.val k);let⟨p,hp,n⟩:=Ï.mp hw;refine wpAny_getItem_heap (ś m) (f6 I.hok q) c hp ?_;rw[n];exact h J _ (I.tok _) d
def T9(f:A.units+1<Ī)(I:Inv X Â σ H s)(g:DGet H a y o)(d:RelV y u)(h:∀c,Inv X Â σ H c->Q (.bool o.isSome) c) :
  wpAny ↥2 A (î .In u<|.ref a) Q E s:=by
 rcases g with⟨kvs,k,e,R,l⟩|⟨kvs,k,b,e,R,i,l⟩
 .subst R;let⟨z,hd,j,J,U⟩:=XT I.hok e;refine wpAny_in_of (Xs d) hd U.mapOf ?_;rw[<-(J.val k).isSome_eq,<-l];exact h _<|I.tok _
 .subst R;cases (show u=Value.ref b from d);let⟨z,hd,xs,J,U⟩:=W8 I.hok e;refine wpAny_in_heap (ś f) (f6 I.hok i) hd U ?_;have q:=(J.val k).isSome_eq;rw[ϴ]at q;rw[<-q,<-l];exact h _<|I.tok _
def Gv(f:A.units+1<Ī)(I:Inv X Â σ H s)(g:DGet H a y o)(d:RelV y u)(h:∀c,Inv X Â σ H c->Q (.bool (!o.isSome)) c) :
  wpAny ↥2 A (î .NotIn u<|.ref a) Q E s:=by
 rcases g with⟨kvs,k,e,R,l⟩|⟨kvs,k,b,e,R,i,l⟩
 .subst R;let⟨z,hd,j,J,U⟩:=XT I.hok e;refine wpAny_notIn_of (Xs d) hd U.mapOf ?_;rw[<-(J.val k).isSome_eq,<-l];exact h _<|I.tok _
 .subst R;cases (show u=Value.ref b from d);let⟨z,hd,xs,J,U⟩:=W8 I.hok e;refine wpAny_notIn_heap (ś f) (f6 I.hok i) hd U ?_;have q:=(J.val k).isSome_eq;rw[ϴ]at q;rw[<-q,<-l];exact h _<|I.tok _
variable {h':Ĉ}
def Jl{t':Nat}(I:Inv X Â σ H s)(R:Mut<|H a)(U:ź a s.heap h')(he:∃q,h'.get? a=fJ q)(new:fV X.prog X.w (upd H a J) h' a J) :
  Inv X Â σ (upd H a J) {s with heap:=h',toks:=t'} :=
 I.write (x:=a) (e:=a) R (.inl rfl) (λb q hb z=>(U.2 b hb).trans z) he new
def JC{kvs:List (Key×V)}{vs:List (Key×Ã)}(z:kvs.length<=à)(hd:(a==ŗ)=fM)(I:KV kvs vs)(J:h'.DictOf (Zf P w) a vs) :
  fV P w H' h' a (.dK kvs):=⟨z,hd,vs,I,J⟩
def Bn{Q:Unit->Æ->Prop}(G:A.units+1<Ī)(I:Inv X Â σ H s)(g:DPut H a y v H')(p:RelV y u)(t:RelV v r)(h:∀n,Inv X Â σ H' n->Q () n) :
  wpAny ↥2 A (ϓ (.ref a) u r) Q E s:=by
 rcases g with⟨kvs,k,e,i,l,j⟩|⟨kvs,k,b,e,i,C,l,j⟩
 .subst i j;let⟨z,hd,F,J,m⟩:=W1 I.hok e;have d:F.length<=à:=by rw[<-J.length];exact z
  have hl:(gp kvs k v).length<=à:=by have:=Yt kvs k v;lia
  refine wpAny_setItem_pairs (hsz:=d) (Xs p) m λh' U f=>h _ ?_;have he:∃q,h'.get? a=fJ q:=let ⟨q,_,_,R,_⟩:=U;⟨q,R⟩;exact Jl I (by rw[e];exact True.intro) f he<|JC hl hd (J.put k t) U
 .subst i j;cases (show u=Value.ref b from p);let⟨z,hd,xs,J,m⟩:=So I.hok e;have d:xs.length<=à:=by rw[<-Paired.length J];exact z
  have hl:(gp kvs k v).length<=à:=by have:=Yt kvs k v;lia
  refine wpAny_setItem_heap (hsz:=d) (ś G) (f6 I.hok C) m λh' U f=>h _ ?_;let⟨q,es,ep,R,h2,W,O,_,M⟩:=U;refine Jl I (by rw[e];exact True.intro) f ⟨q,R⟩ ⟨hl,hd,_,(J.put k C t).keeps λc ys x=>?_,q,es,ep,R,h2,W,O,M⟩;rw[fN<|RP x e λz=>nomatch z];exact x
end
section
variable {X:Cx}{Â:List (Í×Obj)}{σ:St}{H:Hp}{s:Æ}{a:Í}{kvs:List (Key×V)}{k:Key}{u:Ã}{A:ċ}{E:Ã->Æ->Prop}
variable {Q:Ã->Æ->Prop}
def IQ(I:Inv X Â σ H s)(e:H a=fJ (.dK kvs))(U:RelV (kV k) u)(l:YI kvs k=fJ v)(hm:more=[]\/∃x,more=[x])(h:∀J d,Inv X Â σ (upd H a<|.dK<|gq kvs k) d->RelV v J->Q J d):wpAny ↥2 A (call (.builtin "dict.pop")<|.ref a::u::more) Q E s:=by
 let⟨z,hd,c,R,g⟩:=W1 I.hok e;let⟨J,hw,p⟩:=gK.some_of (v:=v) (o:=ϣ c k) (by rw[<-l];exact R.val k);have hp:(keyPart u).isSome=fL:=by
  cases k with
  |inl i=>let⟨t,q⟩:=(show ∃t,u=Value.int i t from U);subst q;rfl
  |inr x=>let⟨t,q⟩:=(show ∃t,u=Value.str x t from U);subst q;rfl
 have ha:cS "dict.pop" ⟨.ref a::u::more,[]⟩:=by
  rcases hm with q|⟨x,q⟩
  .subst q;exact PySem.F.args_dict_pop_2 _ _
  .subst q;exact PySem.F.args_dict_pop_3 _ _ _
 refine χ PySem.F.slot_dict_pop g.typeIs PySem.F.entry_dict_pop ha (meets_dict_pop_there (Zf X.prog X.w) a (Xs U) more hm hp)
  ⟨c,J,g,by rw[<-R.length];exact z,hw,λn f j=>h J _ ?_ p⟩
 have he:∃q,n.get? a=fJ q:=let ⟨q,_,_,m,_⟩:=f;⟨q,m⟩;exact Jl I (by rw[e];exact True.intro) j he<|JC (Ù (Fh kvs k) z) hd (R.drop k) f
def Ql(I:Inv X Â σ H s)(e:H a=fJ (.dK kvs))(o:RelV (kV k) u)(l:YI kvs k=fK)(h:∀R,Inv X Â σ H R->Q r R) :
  wpAny ↥2 A (call (.builtin "dict.pop") [.ref a,u,r]) Q E s:=by
 let⟨z,hd,J,c,U⟩:=W1 I.hok e;have hn:ϣ J k=fK:=gK.none_of (by rw[<-l];exact c.val k);have hp:(keyPart u).isSome=fL:=by
  cases k with
  |inl i=>let⟨t,q⟩:=(show ∃t,u=Value.int i t from o);subst q;rfl
  |inr x=>let⟨t,q⟩:=(show ∃t,u=Value.str x t from o);subst q;rfl
 exact χ PySem.F.slot_dict_pop U.typeIs PySem.F.entry_dict_pop (PySem.F.args_dict_pop_3 _ _ _) (meets_dict_pop_default (Zf X.prog X.w) a (Xs o) hd hp r) ⟨J,U,hn,h _<|I.tok _⟩
def SC(I:Inv X Â σ H s)(e:Rd H a<|.dK kvs)(h:∀t J,Inv X Â σ H J->Q (.int kvs.length t) J):wpAny ↥2 A (call (.builtin "len") [.ref a]) Q E s:=by let⟨z,hd,U,o,R⟩:=XT I.hok e;refine call_len_dict hd R (by rw[<-o.length];rw[Ϲ]at z;lia) ?_;rw[<-o.length];exact h _ _ (I.tok _)
end
variable {X:Cx}{Â:List (Í×Obj)}{σ:St}{s:Æ}
def OV(I:Inv X Â σ H s)(g:DGet H a y o):s.TypeIs (.ref a) "dict":=by
 rcases g with⟨kvs,k,e,_,_⟩|⟨kvs,k,b,e,_,_,_⟩
 .obtain⟨_,_,R,_,J⟩:=XT I.hok e;exact J.typeIs
 .obtain⟨_,_,xs,_,J⟩:=W8 I.hok e;exact J.typeIs
def NE(h:Ĉ)(hb:ŗ<h.objs.size):fV P w H (h.push {cls:=.type "dict",data:=.dict #[]}) h.objs.size (.dK []) :=
 ⟨ė _,beq_eq_false_iff_ne.mpr<|Ne.symm<|ä hb,[],.nil,Heap.DictOf.new h⟩
abbrev Qo:TE:=λ_ H Q=>∀p,H p=fK->Q (.ref p) (upd H p<|.dK [])
section
variable {X:Cx}{í:Pos}
def pe_dnewK:PE X (.Dict [] [] í) Qo:=λÂ s σ H Q I h =>
 wpAny_Dict_empty ⟨.ref s.heap.objs.size,_,I.laid (a:=s.heap.objs.size) (o:=.dK []) (t':=s.toks) (λ_ _ q=>Ä _ q) (Ì _)<|NE s.heap I.big,rfl,h _<|I.hok.fresh<|Ì _⟩
end
abbrev Nf:List (TE×TE)->St->Hp->(List (V×V)->Hp->Prop)->Prop
 |[],_,H,Q=>Q [] H
 |(tk,tv)::r,σ,H,Q=>tk σ H λx J=>tv σ J λy I=>Nf r σ I λps o=>Q ((x,y)::ps) o
@[reducible] noncomputable def VV:List (V×V)->List (Ã×Ã)->Prop:=Paired λp q=>RelV p.1 q.1/\RelV p.2 q.2
abbrev PPs(X:Cx)(J:Pos)(keys:List<|Option Expr)(I:List Expr)(o:List<|TE×TE):Prop :=
 ∀(Â:List<|Í×Obj) (s:Æ) (σ:St) (H:Hp) (Q:List (V×V)->Hp->Prop),Inv X Â σ H s->Nf o σ H Q->
  wpAny ↥2 X.A (evalPairs<|pairTrees keys I X.env J) (λR U=>∃ps H',Inv X Â σ H' U/\VV ps R/\Q ps H') X.xe s
variable {í:Pos}
def Hc:PPs X í [] [] []:=λÂ s σ H Q I h=>pairTrees_nil_walk ⟨[],H,I,.nil,h⟩
def CG(i:PE X k tk)(f:PE X v o)(g:PPs X í ks vs trs) :
  PPs X í (fJ k::ks) (v::vs) ((tk,o)::trs):=λÂ s σ H Q I h =>
 pairTrees_cons_walk (thn (i Â s σ H _ I h) λu s1 ⟨x,q,m,U,e⟩=>thn (f Â s1 σ q _ m e) λr s2 ⟨y,p,l,R,d⟩ =>
   thn (g Â s2 σ p _ l d) λws s3 ⟨ps,n,j,J,c⟩=>⟨(x,y)::ps,n,j,.cons ⟨U,R⟩ J,c⟩)
abbrev Xp(kvs more:List<|Key×V):List<|Key×V:=more.foldl (λI o=>gp I o.1 o.2) kvs
def KV.merge:∀{more:List (Key×V)}{rs:List (Key×Ã)}{kvs:List (Key×V)}{vs:List (Key×Ã)},KV more rs->KV kvs vs->KV (Xp kvs more) (merged vs rs):=by
 intro more rs kvs vs r;unfold KV at r;induction r generalizing kvs vs with
 |nil=>intro q;exact q
 |@cons p q ps qs h t ih =>
  intro r0;have e:KV (gp kvs p.1 p.2)<|fy vs q.1 q.2:=by have:=r0.put p.1 h.2;rw[<-h.1];exact this
  exact ih e
def XU:∀(more kvs:List<|Key×V),(Xp kvs more).length<=kvs.length+more.length
 |[],kvs=>by show kvs.length<=kvs.length+0;lia
 |p::r,kvs=>by have I:=XU r<|gp kvs p.1 p.2;have o:=Yt kvs p.1 p.2;show(Xp (gp kvs p.1 p.2) r).length<=_;rw[Ñ];lia
def KA{P:æ}{w:û}:∀{kvs:List (Key×V)}{ws:List (Ã×Ã)},VV (kvs.map λo=>(kV o.1,o.2)) ws->∃rs,Carries (Zf P w) ws rs/\KV kvs rs
 |[],_,r=>by rw[ň]at r;cases r;exact⟨[],True.intro,.nil⟩
 |p::kvs,_,r=>by
  rw[Ò]at r;cases r with
  |@cons a b as bs h t =>let⟨rs,c,q⟩:=KA (P:=P) (w:=w) t;let⟨b1,b2⟩:=b;exact⟨(p.1,b2)::rs,⟨Xs h.1,rfl,c⟩,.cons ⟨rfl,h.2⟩ q⟩
abbrev Rc(trs:List<|TE×TE):TE:=λσ H Q=>∀p,H p=fK->Nf trs σ (upd H p<|.dK []) λps I=>I p=fJ (.dK [])/\∃kvs:List<|Key×V,ps=kvs.map (λo=>(kV o.1,o.2))/\kvs.length<=15/\Q (.ref p) (upd I p<|.dK<|Xp [] kvs)
def Ix(h:PPs X í keys R trs)(J:keys.all (·.isSome)=fL)(hl:keys.length=R.length)(h0:keys≠[])(U:keys.length<=15):PE X (.Dict keys R í)<|Rc trs:=by
 intro Â s σ H Q I q;have hn:=I.hok.fresh<|Ì s.heap.objs.size;have x:=I.laid (a:=s.heap.objs.size) (o:=.dK []) (h':=s.heap.push {cls:=.type "dict",data:=.dict #[]}) (t':=s.toks) (λ_ _ q=>Ä _ q) (Ì _)<|NE s.heap I.big;refine wpAny_Dict_walk (knd:=Zf X.prog X.w) J hl h0 U<|thn (h Â _ σ _ _ x<|q _ hn) λws s2 ⟨ps,F,f,g,e,kvs,r,C,k⟩=>?_;subst r;let⟨rs,c,j⟩:=KA (P:=X.prog) (w:=X.w) g;let⟨z,hd,i,r0,v⟩:=W1 f.hok e;cases r0;refine⟨rs,c,v,λh' d m=>⟨.ref s.heap.objs.size,_,?_,rfl,k⟩⟩;have l:(Xp [] kvs).length<=à:=by have p:=XU kvs [];rw[ņ]at p;rw[Ϲ];lia
 have he:∃q,h'.get? s.heap.objs.size=fJ q:=let ⟨q,_,_,n,_⟩:=d;⟨q,n⟩;exact Jl f (by rw[e];exact True.intro) m he<|JC l hd (j.merge .nil) d
structure M1(X:Cx)(o:Expr)(m:Str)(Ő:Pos)(e:Expr)(Œ:Pos):Prop where
 base:Ġ o m X.env (eval o X.env)=eval o X.env
 few:((ğ Œ<|Þ [e] X.env).all (λx=>!x.1)&&(Ŷ Œ<|ń [] X.env).all (λx=>x.1.isSome)
   && iN (([e]:List Expr).length+([]:List Ϣ).length+(if([]:List Ϣ).isEmpty then 0 else 1)<30))=fL
 line:(Ő.endLine==Œ.line)=fL
 trees:ğ Œ (Þ [e] X.env)=[(fM,eval e X.env)]
abbrev Vg(H:Hp)(a:Í):Prop:=(∃kvs,Rd H a<|.dK kvs)\/∃kvs,Rd H a (.dT kvs)
def QB(I:Inv X Â σ H s)(d:Vg H a) :
  s.TypeIs (.ref a) "dict"/\(∀b,Value.ref a=.ref b->∃o,s.heap.get? b=fJ o/\o.dict=fK)/\(a==ŗ)=fM:=by
 rcases d with⟨kvs,e⟩|⟨kvs,e⟩
 .obtain⟨_,hd,c,_,J⟩:=XT I.hok e;refine⟨J.typeIs,λb q=>?_,hd⟩;cases q;let⟨o,_,_,U,R,_⟩:=J;exact⟨o,U,R.2.1⟩
 .obtain⟨_,hd,xs,_,J⟩:=W8 I.hok e;refine⟨J.typeIs,λb q=>?_,hd⟩;cases q;let⟨o,_,_,U,R,_⟩:=J;exact⟨o,U,R.2.1⟩
section
variable {X:Cx}{Â:List (Í×Obj)}{σ:St}{H:Hp}{s:Æ}{a:Í}{y d:V}{u r:Ã}{o:Option V}{A:ċ}
variable {Q:Ã->Æ->Prop}
def LY(j:A.units+1<Ī)(I:Inv X Â σ H s)(g:DGet H a y o)(i:RelV y u)(h:∀c f,Inv X Â σ H f->RelV (o.getD .non) c->Q c f) :
  wpAny ↥2 A (call (.builtin "dict.get") [.ref a,u]) Q E s:=by
 rcases g with⟨kvs,k,e,U,l⟩|⟨kvs,k,b,e,U,m,l⟩
 .subst U;let⟨z,hd,n,R,J⟩:=XT I.hok e;refine χ PySem.F.slot_dict_get J.typeIs PySem.F.entry_dict_get (PySem.F.args_dict_get_2 _ _) (meets_dict_get (Zf X.prog X.w) a (Xs i) hd) ⟨_,J.mapOf,h _ _ (I.tok _) ?_⟩;rw[l];exact(R.val k).getD rfl
 .subst U;cases (show u=Value.ref b from i);let⟨z,hd,xs,R,J⟩:=W8 I.hok e;refine χ PySem.F.slot_dict_get J.typeIs PySem.F.entry_dict_get (PySem.F.args_dict_get_2 _ _) (meetsH_dict_get (ϙ<|Zf X.prog X.w) a b hd) ⟨ś j,k,xs,f6 I.hok m,J,h _ _ (I.tok _) ?_⟩;rw[l];exact(R.val k).getD rfl
def P0(j:A.units+1<Ī)(I:Inv X Â σ H s)(g:DGet H a y o)(i:RelV y u)(rd:RelV d r)(h:∀c f,Inv X Â σ H f->RelV (o.getD d) c->Q c f) :
  wpAny ↥2 A (call (.builtin "dict.get") [.ref a,u,r]) Q E s:=by
 rcases g with⟨kvs,k,e,U,l⟩|⟨kvs,k,b,e,U,m,l⟩
 .subst U;let⟨z,hd,n,R,J⟩:=XT I.hok e;refine χ PySem.F.slot_dict_get J.typeIs PySem.F.entry_dict_get (PySem.F.args_dict_get_3 _ _ _) (meets_dict_get_default (Zf X.prog X.w) a (Xs i) hd r) ⟨_,J.mapOf,h _ _ (I.tok _) ?_⟩;rw[l];exact(R.val k).getD rd
 .subst U;cases (show u=Value.ref b from i);let⟨z,hd,xs,R,J⟩:=W8 I.hok e;refine χ PySem.F.slot_dict_get J.typeIs PySem.F.entry_dict_get (PySem.F.args_dict_get_3 _ _ _) (meetsH_dict_get_default (ϙ<|Zf X.prog X.w) a b hd r) ⟨ś j,k,xs,f6 I.hok m,J,h _ _ (I.tok _) ?_⟩;rw[l];exact(R.val k).getD rd
end
section
def B4:fU X (.builtin "len") λxs H Q=>∃a kvs,xs=[V.ref a]/\H a=fJ (.dK kvs)/\Q (.int kvs.length) H:=by walk_at "D";let⟨a,kvs,rfl,ha,q⟩:=h;let⟨u,rfl,o⟩:=ZR r;cases o;exact SC I (.inl ha) λt R J=>⟨.int kvs.length,H,J,⟨t,rfl⟩,q⟩
end
end L2
namespace iG
noncomputable abbrev Ad:=Nat
inductive Val where
 |non|bl (b:Bool)|int (i:Int)|str (s:String)|tup (xs:List Val)|ref (a:Ad)|scr (ns:List Int)|key (i j:Int)
 deriving Inhabited
mutual
noncomputable def Val.eqb:Val->Val->Bool
 |.non,b=>match b with|.non=>fL|_=>fM
 |.bl a,b=>match b with|.bl c=>a==c|_=>fM
 |.int a,b=>match b with|.int c=>a==c|_=>fM
 |.str a,b=>match b with|.str c=>a==c|_=>fM
 |.tup a,b=>match b with|.tup c=>Val.eqs a c|_=>fM
 |.ref a,b=>match b with|.ref c=>a==c|_=>fM
 |.scr a,b=>match b with|.scr c=>a==c|_=>fM
 |.key a b,x=>match x with|.key c d=>a==c&&b==d|_=>fM
noncomputable def Val.eqs:List Val->List Val->Bool
 |[],b=>match b with|[]=>fL|_=>fM
 |x::xs,b=>match b with|y::ys=>Val.eqb x y&&Val.eqs xs ys|_=>fM
end
mutual
theorem Val.eqb_iff:∀{a b:Val},Val.eqb a b=fL↔a=b
 |.non,b=>by cases b<;>simp[Val.eqb]
 |.bl _,b=>by cases b<;>simp[Val.eqb]
 |.int _,b=>by cases b<;>simp[Val.eqb]
 |.str _,b=>by cases b<;>simp[Val.eqb]
 |.tup _,b=>by cases b<;>simp[Val.eqb,Val.eqs_iff]
 |.ref _,b=>by cases b<;>simp[Val.eqb]
 |.scr _,b=>by cases b<;>simp[Val.eqb]
 |.key _ _,b=>by cases b<;>simp[Val.eqb]
theorem Val.eqs_iff:∀{a b:List Val},Val.eqs a b=fL↔a=b
 |[],b=>by cases b<;>simp[Val.eqs]
 |_::_,b=>by cases b<;>simp[Val.eqs,Val.eqb_iff,Val.eqs_iff]
end
noncomputable instance:DecidableEq Val:=λa b=>if h:Val.eqb a b=fL then isTrue (Val.eqb_iff.mp h)else isFalse λe=>h<|Val.eqb_iff.mpr e
inductive Ob where
 |lst (xs:List Val)|dct (kvs:List<|Val×Val)|ins (C:String) (fs:List<|String×Val)|exc (C:String)|frz (kvs:List<|Val×Val)|dtp (kvs:List<|Val×Val)
 deriving Inhabited
abbrev figB(c:Char):Bool:=iN (48<=c.toNat)&&iN (c.toNat<=57)
abbrev decN(l:List Char):Nat:=l.foldl (λa c=>10*a+(c.toNat - 48)) 0
abbrev Si:Val->Option String
 |.str s=>fJ s
 |_=>fK
abbrev oneC(s:String):Option Char:=match s.toList with
 |[c]=>fJ c
 |_=>fK
abbrev FT(i:Int):String:=toString i
abbrev S8:Val->Option String
 |.str s=>fJ s
 |.int i=>if i.natAbs<10 ^ 200 then fJ (FT i)else fK
 |_=>fK
noncomputable abbrev Hs:=Ad->Option Ob
@[irreducible] noncomputable def upd(h:Hs)(a:Ad)(o:Ob):Hs:=λb=>if b=a then fJ o else h b
def fO:upd h a o a=fJ o:=by simp[upd]
def fN(e:b≠a):upd h a o b=h b:=by simp[upd,e]
def fP:upd (upd h a o) a u=upd h a u:=by funext b;simp![upd];split<;>rfl
noncomputable abbrev Env:=List<|Option Val
noncomputable abbrev Q1:=Val->Hs->Prop
noncomputable abbrev XQ:=String->Hs->Prop
noncomputable abbrev Fs:=String->List Val->Hs->Q1->XQ->Prop
abbrev lim:Nat:=1000000
variable {α:Type}
@[irreducible] noncomputable def go(o:Option α)(k:α->Prop):Prop:=match o with|some a=>k a|none=>False
@[simp] theorem fQ{a:α}:go (fJ a) k=k a:=by unfold go;rfl
@[simp] theorem Ig:go fK k=False:=by unfold go;rfl
def fR{o:Option α}{a:α}{k:α->Prop}(e:o=fJ a)(h:k a):go o k:=by rw[e,fQ];exact h
set_option genInjectivity false
inductive Bop where|add|sub|mul|fdiv|mod|pow
inductive Cop where|eq|ne|lt|le|gt|ge|isin|notin|is|isnot|eqE|neE|ntT
inductive Bi where
 |len|int|str|bool|abs|min2|max2|minL|maxL|minD|sum|all|any|sorted|sortedI|sortedSet|lenSet|list|tuple|dict|isi (Ts:List String)|isx (Ts:List String)|isc (C:String)|repr|listRev|listRange|tupRange|dictEnum|minP|maxP|listD|listT
inductive Bm where
 |append|extend|pop|popAt|insert|remove|clear|reverse|index|count|dget|dgetD|dpop|dpopD|setdefault|join|split|replace|upper|partition|sidx|dpopT
inductive Pt where|one (i:Nat)|many (is:List Nat)|nest (i:Nat) (is:List Nat)
mutual
inductive E where
 |cst (v:Val)|var (i:Nat)|glob (x:String) (v:Val)
 |bin (op:Bop) (a b:E)|neg (a:E)|not (a:E)|and (a b:E)|or (a b:E)
 |cmp (op:Cop) (a b:E)|chain (o1 o2:Cop) (a b c:E)
 |call (f:String) (as:Es)|make (C:String) (as:Es)|meth (C m:String) (o:E) (as:Es)|meth2 (C D m:String) (o:E) (as:Es)|fld (o:E) (f:String)
 |bi (f:Bi) (as:Es)|bm (m:Bm) (o:E) (as:Es)
 |idx (a i:E)|slc (a:E) (lo hi:Oe)|rev (a:E)|pick (a:E) (lo hi:Oe) (st:E)|sortT (a:E)
 |tup (es:Es)|lst (es:Es)|dct (es:Es)
 |ife (c:Tt) (a b:E)
 |comp (Ā:List Nat) (n:Nat) (p:Pt) (it:It) (c:Tt) (e:E)
 |fstr (es:Es)
 |split (o a:E)
 |repl (o:E) (y z:String)
 |key (es:Es)|dctP
inductive Es where|nil|cons (e:E) (es:Es)
inductive Oe where|none|some (e:E)
inductive Tt where|yes|val (e:E)|not (t:Tt)|and (a b:Tt)|or (a b:Tt)
inductive It where
 |seq (e:E)|chars (e:E)|range (a:E)|range2 (a b:E)|enum (e:E)|enumL (e:E)|zip (a b:E)|items (e:E)|rev (e:E)|keysF (e:E)|seqT (k:Nat) (e:E)
end
mutual
inductive S where
 |set (p:Pt) (e:E)|setIdx (a i e:E)|setFld (o:E) (f:String) (e:E)
 |augVar (i:Nat) (op:Bop) (e:E)|augFld (o:E) (f:String) (op:Bop) (n:Int)|augIdx (a i:E) (op:Bop) (n:Int)
 |setPair (a i b j e:E)|setFront (a e:E)
 |expr (e:E)|ret (e:E)|retN|ite (c:Tt) (a b:Ss)|whl (c:Tt) (b:Ss)|for (p:Pt) (it:It) (b:Ss)|forI (k:Bool) (p:Pt) (e:E) (b:Ss)
 |never|brk|cnt|pass|raise (C:String) (as:Es)|try (t:Option Nat) (e:E) (hs:Hn)|try2 (e:E) (C:String) (b:Ss) (D:String) (d:Ss)
inductive Ss where|nil|cons (s:S) (ss:Ss)
inductive Hn where|nil|cons (C:String) (n:Option Nat) (b:Ss) (r:Hn)
end
set_option genInjectivity true
abbrev ixN(n:Nat)(i:Int):Option Nat:=if 0<=i then(if i<n then fJ i.toNat else fK)else if -(n:Int)<=i then fJ (i+n).toNat else fK
abbrev atI(xs:List α)(i:Int):Option α:=(ixN xs.length i).bind λj=>xs[j]?
abbrev gQ(n d:Nat):Option Int->Nat
 |none=>d
 |some i=>if 0<=i then min i.toNat n else(i+n).toNat
abbrev cut(xs:List α)(lo hi:Option Int):List α:=(xs.drop<|gQ xs.length 0 lo).take<|gQ xs.length xs.length hi - gQ xs.length 0 lo
abbrev pickL(I:List Nat)(xs:List α):List α:=I.filterMap λi=>xs[i]?
abbrev fY:Option Ob->Option (List Val)
 |some (.lst xs)=>fJ xs
 |_=>fK
@[simp] theorem ZJ:fY (fJ<|.lst xs)=fJ xs:=rfl
abbrev ED(h:Hs):Val->Option (List Val)
 |.ref a=>fY<|h a
 |.tup xs=>fJ xs
 |.scr ns=>fJ<|ns.map .int
 |_=>fK
abbrev lsA(h:Hs):Val->Option (List Val)
 |.ref a=>fY<|h a
 |.scr ns=>fJ<|ns.map .int
 |_=>fK
abbrev iB:Option Ob->Option (List<|Val×Val)
 |some (.dct kvs)=>fJ kvs
 |_=>fK
abbrev gk(kvs:List<|Val×Val)(k:Val):Option Val:=(kvs.find? λp=>p.1==k).map (·.2)
abbrev gm(kvs:List<|Val×Val)(k:Val):Bool:=kvs.any λp=>p.1==k
abbrev gp(kvs:List<|Val×Val)(k v:Val):List<|Val×Val:=if gm kvs k then kvs.map λp=>if p.1==k then(k,v)else p else kvs++[(k,v)]
abbrev gq(kvs:List<|Val×Val)(k:Val):List<|Val×Val:=kvs.filter λp=>!(p.1==k)
abbrev f9:Val->Bool
 |.int _=>fL
 |.str _=>fL
 |_=>fM
inductive D where
 |non|bl (b:Bool)|int (i:Int)|str (s:String)|tup (ds:List D)|lst (ds:List D)
 deriving Inhabited
mutual
noncomputable def D.eqv:D->D->Bool
 |.non,.non=>fL
 |.bl a,.bl b=>a==b
 |.bl a,.int i=>(if a then 1 else 0)==i
 |.int i,.bl a=>i==(if a then 1 else 0)
 |.int a,.int b=>a==b
 |.str a,.str b=>a==b
 |.tup a,.tup b=>D.eqvs a b
 |.lst a,.lst b=>D.eqvs a b
 |_,_=>fM
noncomputable def D.eqvs:List D->List D->Bool
 |[],[]=>fL
 |x::xs,y::ys=>D.eqv x y&&D.eqvs xs ys
 |_,_=>fM
end
abbrev dat(h:Hs):Nat->Val->Option D
 |_,.non=>fJ .non
 |_,.bl b=>fJ<|.bl b
 |_,.int i=>fJ<|.int i
 |_,.str s=>fJ<|.str s
 |0,_=>fK
 |n+1,.tup xs=>(xs.mapM<|dat h n).map .tup
 |n+1,.ref a=>(fY<|h a).bind λxs=>(xs.mapM<|dat h n).map .lst
 |n+1,.scr ns=>fJ<|.lst<|ns.map .int
 |_+1,.key _ _=>fK
abbrev deep:Nat:=12
abbrev eqV(h:Hs)(v u:Val):Option Bool:=(dat h deep v).bind λd=>(dat h deep u).map λe=>D.eqv d e
abbrev fT:List Val->Option (List Int)
 |[]=>fJ []
 |.int i::xs=>(fT xs).map (i :: ·)
 |_=>fK
abbrev gR:List Int->List Int->Bool
 |[],[]=>fM
 |[],_::_=>fL
 |_::_,[]=>fM
 |x::xs,y::ys=>if x=y then gR xs ys else iN (x<y)
abbrev gT:Val->Val->Option Bool
 |.int i,.int j=>fJ<|iN (i<j)
 |.tup xs,.tup ys=>(fT xs).bind λns=>(fT ys).map λms=>gR ns ms
 |_,_=>fK
abbrev inL(h:Hs)(x:Val)(ys:List Val):Option Bool:=(dat h deep x).bind λd=>(ys.mapM<|dat h<|deep - 1).map λds=>ds.any λe=>D.eqv e d
abbrev leV:Val->Val->Option Bool
 |.int i,.int j=>fJ<|iN (i<=j)
 |_,_=>fK
abbrev isKeyT:Val->Bool
 |.key _ _=>fL
 |_=>fM
abbrev inV(h:Hs)(v u:Val):Option Bool:=match u with
 |.tup xs=>inL h v xs
 |.ref a=>match h a with
  |some (.lst xs)=>inL h v xs
  |some (.dct kvs)=>if f9 v then fJ (gm kvs v)else fK
  |some (.frz kvs)=>if f9 v then fJ (gm kvs v)else fK
  |some (.dtp kvs)=>if isKeyT v then fJ (gm kvs v)else fK
  |_=>fK
 |.str t=>(match v with|.str s=>(oneC s).map λc=>iN (c∈t.toList)|_=>fK)
 |_=>fK
abbrev isV(v u:Val):Option Bool:=match u with
 |.non=>fJ<|iN (v=.non)
 |.bl b=>fJ<|iN (v=.bl b)
 |_=>fK
abbrev asLst(h:Hs):Val->Option (List Val)
 |.ref a=>fY<|h a
 |_=>fK
abbrev f8(h:Hs)(op:Cop)(v u:Val):Option Bool:=match op with
 |.eq=>eqV h v u
 |.ne=>(eqV h v u).map (!·)
 |.lt=>gT v u
 |.gt=>gT u v
 |.le=>leV v u
 |.ge=>leV u v
 |.isin=>inV h v u
 |.notin=>(inV h v u).map (!·)
 |.is=>isV v u
 |.isnot=>(isV v u).map (!·)
 |.eqE=>(asLst h v).bind λxs=>(asLst h u).bind λI=>if I.isEmpty then fJ xs.isEmpty else fK
 |.neE=>(asLst h v).bind λxs=>(asLst h u).bind λI=>if I.isEmpty then fJ (!xs.isEmpty)else fK
 |_=>fK
abbrev WV(h:Hs):Val->Option Bool
 |.bl b=>fJ b
 |.int i=>fJ<|iN (i≠0)
 |.non=>fJ fM
 |.str s=>if s.length<=lim then fJ (iN (s.length≠0))else fK
 |.tup xs=>fJ (!xs.isEmpty)
 |.scr ns=>fJ (!ns.isEmpty)
 |.ref a=>match h a with
  |some (.lst xs)=>fJ (!xs.isEmpty)
  |some (.dct kvs)=>fJ (!kvs.isEmpty)
  |_=>fK
 |.key _ _=>fK
abbrev mulOk(i j:Int):Prop:=(i.natAbs<2 ^ 64\/j.natAbs<2 ^ 64)\/(i.natAbs<=10 ^ 200/\j.natAbs<=10 ^ 200)
instance (i j:Int):Decidable<|mulOk i j:=inferInstanceAs<|Decidable<|_\/_
@[irreducible] noncomputable def new(h:Hs)(o:Ob)(Q:Q1):Prop:=∀p,h p=fK->Q (.ref p) (upd h p o)
def Yv(q:∀p,h p=fK->Q (.ref p) (upd h p o)):new h o Q:=by unfold new;exact q
inductive Rs where|val (v:Val)|new (o:Ob)|no
@[irreducible] noncomputable def Rs.wp(r:Rs)(h:Hs)(Q:Q1):Prop:=match r with|.val v=>Q v h|.new o=>iG.new h o Q|.no=>False
@[simp] theorem Rs.wp_val:(Rs.val v).wp h Q=Q v h:=by unfold Rs.wp;rfl
@[simp] theorem Rs.wp_new:(Rs.new o).wp h Q=iG.new h o Q:=by unfold Rs.wp;rfl
@[simp] theorem Rs.wp_no:Rs.no.wp h Q=False:=by unfold Rs.wp;rfl
abbrev Rs.ofO:Option Val->Rs
 |some v=>.val v
 |none=>.no
abbrev Rs.lst(xs:List Val):Rs:=if xs.length<=lim then .new (.lst xs)else .no
abbrev addV(h:Hs):Val->Val->Rs
 |.int i,.int j=>.val<|.int<|i+j
 |.str s,.str t=>if s.length+t.length<=lim then .val (.str<|s++t)else .no
 |.tup xs,.tup ys=>if xs.length+ys.length<=lim then .val (.tup<|xs++ys)else .no
 |.ref a,.ref b=>match h a,h b with
  |some (.lst xs),fJ (.lst ys)=>Rs.lst<|xs++ys
  |_,_=>.no
 |_,_=>.no
abbrev repT(s:String)(n:Nat):String:=Υ (ß n s.toList).flatten
abbrev mulV(h:Hs):Val->Val->Rs
 |.int i,.int j=>if mulOk i j then .val (.int<|i*j)else .no
 |.ref a,.int k=>match h a with
  |some (.lst xs)=>if -(2 ^ 62)<k/\k<2 ^ 62/\xs.length*k.toNat<=lim then Rs.lst (ß k.toNat xs).flatten else .no
  |_=>.no
 |.str s,.int k=>if 2<=k/\k<=1000000/\1<=s.length/\s.length*k.toNat<=lim then .val (.str<|repT s k.toNat)else .no
 |_,_=>.no
abbrev intV(f:Int->Int->Rs):Val->Val->Rs
 |.int i,.int j=>f i j
 |_,_=>.no
abbrev binV(h:Hs)(op:Bop)(v u:Val):Rs:=match op with
 |.add=>addV h v u
 |.sub=>intV (λi j=>.val<|.int<|i - j) v u
 |.mul=>mulV h v u
 |.fdiv=>intV (λi j=>if 0<j/\j<1073741824 then .val (.int<|i / j)else .no) v u
 |.mod=>intV (λi j=>if 0<j then .val (.int<|i % j)else .no) v u
 |.pow=>intV (λi j=>if 0<=j/\j<=1000000/\i.natAbs<2 ^ 64 then .val (.int<|i ^ j.toNat)else .no) v u
abbrev iC:Val->Option Int
 |.int i=>fJ i
 |_=>fK
abbrev gU(h:Hs):Val->Val->Option Val
 |.tup xs,.int k=>atI xs k
 |.str s,.int k=>if s.length<=lim then(atI s.toList k).map λc=>.str (av c)else fK
 |.ref a,k=>match h a with
  |some (.lst xs)=>(iC k).bind<|atI xs
  |some (.dct kvs)=>if f9 k then gk kvs k else fK
  |some (.frz kvs)=>if f9 k then gk kvs k else fK
  |some (.dtp kvs)=>if isKeyT k then gk kvs k else fK
  |_=>fK
 |.scr ns,.int i=>atI (ns.map .int) i
 |_,_=>fK
abbrev gV(h:Hs)(v:Val)(lo hi:Option Int):Rs :=
 match v with
 |.tup xs=>if gQ xs.length 0 lo=0/\gQ xs.length xs.length hi=xs.length then .val (.tup xs)else .val (.tup<|cut xs lo hi)
 |.ref a=>match fY (h a)with
  |some xs=>.new<|.lst<|cut xs lo hi
  |none=>.no
 |.scr ns=>.new<|.lst<|cut (ns.map .int) lo hi
 |.str s=>if s.length<=lim then .val (.str<|Υ<|cut s.toList lo hi)else .no
 |_=>.no
abbrev sortI(ns:List Int):List Int:=ns.mergeSort λa b=>iN (a<=b)
abbrev blsOf:List Val->Option (List Bool)
 |[]=>fJ []
 |.bl b::xs=>(blsOf xs).map (b :: ·)
 |_=>fK
abbrev minL:List Val->Option Val
 |[]=>fK
 |x::xs=>xs.foldl (λm y=>m.bind λb=>(gT y b).map λc=>if c then y else b)<|fJ x
abbrev maxL:List Val->Option Val
 |[]=>fK
 |x::xs=>xs.foldl (λm y=>m.bind λb=>(gT b y).map λc=>if c then y else b)<|fJ x
abbrev dedup:List Int->List Int
 |[]=>[]
 |x::xs=>x::(dedup xs).filter (· != x)
abbrev io(c d:String):Bool:=c==d||d == "ShutError" || d == "ValueError" || d == "Exception"
abbrev iE(h:Hs):Val->Option String
 |.non=>fJ "NoneType"
 |.bl _=>fJ "bool"
 |.int _=>fJ "int"
 |.str _=>fJ "str"
 |.tup _=>fJ "tuple"
 |.scr _=>fJ "list"
 |.ref a=>match h a with
  |some (.lst _)=>fJ "list"
  |some (.dct _)=>fJ "dict"
  |_=>fK
 |.key _ _=>fK
abbrev iF(h:Hs)(v:Val)(T:String):Option Bool:=(iE h v).map λt=>t==T||(t == "bool" && T == "int")
abbrev isiAny(h:Hs)(v:Val):List String->Option Bool
 |[]=>fJ fM
 |T::Ts=>(iF h v T).bind λb=>(isiAny h v Ts).map (b || ·)
abbrev pairsOf(h:Hs):List Val->Option (List<|Val×Val)
 |[]=>fJ []
 |v::vs=>match v with
  |.tup [k,x]=>if f9 k then(pairsOf h vs).map ((k,x) :: ·)else fK
  |_=>fK
abbrev pairUp:List Val->Option (List<|Val×Val)
 |[]=>fJ []
 |k::v::r=>if f9 k then(pairUp r).map ((k,v) :: ·)else fK
 |_=>fK
abbrev putAll(kvs:List<|Val×Val):List (Val×Val)->List (Val×Val)
 |[]=>kvs
 |(k,v)::r=>putAll (gp kvs k v) r
abbrev hU(h:Hs):Val->Rs
 |.ref a=>match h a with
  |some (.lst xs)=>.val<|.int xs.length
  |some (.dct kvs)=>.val<|.int kvs.length
  |_=>.no
 |.tup xs=>.val<|.int xs.length
 |.scr ns=>.val<|.int ns.length
 |.str s=>if s.length<=lim then .val (.int s.length)else .no
 |_=>.no
abbrev Rj:Val->Rs
 |.int i=>.val<|.int i
 |.bl b=>.val (.int<|if b then 1 else 0)
 |.str s=>if s.length<=640/\s.toList≠[]/\s.toList.all figB=fL then .val (.int<|decN s.toList)else .no
 |_=>.no
abbrev absV:Val->Rs
 |.int i=>.val (.int<|if i<0 then -i else i)
 |_=>.no
abbrev fZ(f:Val->Rs):List Val->Rs
 |[v]=>f v
 |_=>.no
abbrev biOf2(f:Val->Val->Rs):List Val->Rs
 |[v,u]=>f v u
 |_=>.no
abbrev rowsOf:List Val->Option (List<|List Int)
 |[]=>fJ []
 |.tup xs::r=>(fT xs).bind λns=>(rowsOf r).map (ns :: ·)
 |_=>fK
abbrev minR(b:List Int):List (List Int)->List Int
 |[]=>b
 |y::r=>minR (if gR y b then y else b) r
abbrev hW(h:Hs)(v:Val):Rs:=match v with
 |.ref a=>match (fY<|h a).bind rowsOf with
  |some []=>.val .non
  |some (x::r)=>.val<|.tup<|(minR x r).map .int
  |none=>.no
 |_=>.no
abbrev Tk(h:Hs):Val->Rs
 |.ref a=>.ofO<|(fY<|h a).bind λxs=>(blsOf xs).map λbs=>.bl<|bs.all id
 |_=>.no
abbrev sortOf(h:Hs):Val->Option (List Int)
 |.ref a=>(fY<|h a).bind fT
 |.scr ns=>fJ ns
 |_=>fK
abbrev keysOf(kvs:List<|Val×Val):Option<|List Int:=fT (kvs.map (·.1))
abbrev sortAny(h:Hs)(v:Val):Option<|List Int:=match v with
 |.ref a=>match h a with
  |some (.lst xs)=>fT xs
  |some (.dct kvs)=>keysOf kvs
  |_=>fK
 |.scr ns=>fJ ns
 |_=>fK
abbrev ST(I:List<|List Int):List<|List Int:=I.mergeSort λa b=>!gR b a
abbrev L4(h:Hs)(v:Val):Option<|List<|List Int:=match v with
 |.ref a=>(fY<|h a).bind rowsOf
 |_=>fK
abbrev Bl(h:Hs)(v:Val):Rs:=match L4 h v with
 |some Ĥ=>if Ĥ.length<64/\(Ĥ.all λr=>!r.isEmpty)=fL then .new (.lst<|(ST Ĥ).map λr=>.tup<|r.map .int)else .no
 |none=>.no
abbrev JO(h:Hs)(v:Val):Rs:=match sortAny h v with
 |some ns=>if ns.length<64 then .new (.lst<|(sortI ns).map .int)else .no
 |none=>Bl h v
abbrev biSortedI(h:Hs)(v:Val):Rs:=match sortAny h v with
 |some ns=>if ns.length<64 then .new (.lst<|(sortI ns).map .int)else .no
 |none=>.no
abbrev biSortedSet(h:Hs)(v:Val):Rs:=match sortOf h v with
 |some ns=>if ns.length<64 then .new (.lst<|(sortI<|dedup ns).map .int)else .no
 |none=>.no
abbrev biLenSet(h:Hs)(v:Val):Rs:=match sortOf h v with
 |some ns=>if ns.length<4000 then .val (.int (dedup ns).length)else .no
 |none=>.no
abbrev toList(h:Hs):Val->Rs
 |.ref a=>match h a with
  |some (.lst xs)=>.new<|.lst xs
  |_=>.no
 |.tup xs=>.new<|.lst xs
 |_=>.no
abbrev Nb(h:Hs):Val->Rs
 |.ref a=>match h a with
  |some (.lst xs)=>.val<|.tup xs
  |_=>.no
 |.tup xs=>.val<|.tup xs
 |_=>.no
abbrev Uq(h:Hs):Val->Rs
 |.ref a=>match h a with
  |some (.dct kvs)=>.new<|.dct kvs
  |some (.lst xs)=>match pairsOf h xs with
   |some kvs=>.new<|.dct<|putAll [] kvs
   |none=>.no
  |_=>.no
 |_=>.no
abbrev biV(h:Hs)(b:Bi)(vs:List Val):Rs:=match b with
 |.len=>fZ (hU h) vs
 |.int=>fZ Rj vs
 |.min2=>biOf2 (intV λi j=>.val<|.int<|if j<i then j else i) vs
 |.max2=>biOf2 (intV λi j=>.val<|.int<|if j > i then j else i) vs
 |.minD=>fZ (hW h) vs
 |.all=>fZ (Tk h) vs
 |.sorted=>fZ (JO h) vs
 |.sortedI=>fZ (biSortedI h) vs
 |.sortedSet=>fZ (biSortedSet h) vs
 |.lenSet=>fZ (biLenSet h) vs
 |.list=>fZ (toList h) vs
 |.tuple=>fZ (Nb h) vs
 |.dict=>fZ (Uq h) vs
 |.isi Ts=>fZ (λv=>.ofO<|(isiAny h v Ts).map .bl) vs
 |_=>.no
abbrev bmL(h:Hs)(v:Val)(f:Ad->List Val->Option (Val×Hs)):Option<|Val×Hs:=match v with
 |.ref a=>(fY<|h a).bind<|f a
 |_=>fK
abbrev bmD(h:Hs)(v:Val)(f:Ad->List (Val×Val)->Option (Val×Hs)):Option<|Val×Hs:=match v with
 |.ref a=>(iB<|h a).bind<|f a
 |_=>fK
abbrev CH(h:Hs)(vs:List Val)(a:Ad)(xs:List Val):Option<|Val×Hs:=match vs with
 |[v]=>if xs.length<lim then fJ (.non,upd h a<|.lst<|xs++[v])else fK
 |_=>fK
abbrev bmPopAt(h:Hs)(vs:List Val)(a:Ad)(xs:List Val):Option<|Val×Hs:=match vs with
 |[.int i]=>if -(2 ^ 62)<i/\i<2 ^ 62 then(ixN xs.length i).bind λk=>(xs[k]?).map λv=>(v,upd h a<|.lst<|xs.eraseIdx k)else fK
 |_=>fK
abbrev R4(h:Hs)(vs:List Val)(a:Ad)(kvs:List<|Val×Val):Option<|Val×Hs:=match vs with
 |[k]=>if f9 k then fJ ((gk kvs k).getD .non,h)else fK
 |_=>fK
abbrev bmGetD(h:Hs)(vs:List Val)(a:Ad)(kvs:List<|Val×Val):Option<|Val×Hs:=match vs with
 |[k,d]=>if f9 k then fJ ((gk kvs k).getD d,h)else fK
 |_=>fK
abbrev dpAt(h:Hs):Val->Option (List<|Val×Val)
 |.ref a=>match h a with
  |some (.dtp kvs)=>fJ kvs
  |_=>fK
 |_=>fK
abbrev bmGetT(h:Hs)(vs:List Val)(kvs:List<|Val×Val):Option<|Val×Hs:=match vs with
 |[k,d]=>if isKeyT k then fJ ((gk kvs k).getD d,h)else fK
 |_=>fK
abbrev UM(h:Hs)(v:Val)(vs:List Val):Option<|Val×Hs:=match dpAt h v with
 |some kvs=>bmGetT h vs kvs
 |none=>bmD h v<|bmGetD h vs
abbrev PX(h:Hs)(vs:List Val)(a:Ad)(kvs:List<|Val×Val):Option<|Val×Hs:=match vs with
 |[k]=>if f9 k then(gk kvs k).map λv=>(v,upd h a<|.dct<|gq kvs k)else fK
 |_=>fK
abbrev Hh(h:Hs)(vs:List Val)(a:Ad)(kvs:List<|Val×Val):Option<|Val×Hs:=match vs with
 |[k,d]=>if f9 k then fJ ((gk kvs k).getD d,upd h a<|.dct<|gq kvs k)else fK
 |_=>fK
abbrev bmV(h:Hs)(m:Bm)(v:Val)(vs:List Val):Option<|Val×Hs:=match m with
 |.append=>bmL h v<|CH h vs
 |.popAt=>bmL h v<|bmPopAt h vs
 |.dget=>bmD h v<|R4 h vs
 |.dgetD=>UM h v vs
 |.dpop=>bmD h v<|PX h vs
 |.dpopD=>bmD h v<|Hh h vs
 |_=>fK
abbrev isLst:Option Ob->Bool
 |some (.lst _)=>fL
 |_=>fM
abbrev isDct:Option Ob->Bool
 |some (.dct _)=>fL
 |some (.dtp _)=>fL
 |_=>fM
inductive Ty where|l|d|s|t
abbrev Bm.ty:Bm->Ty
 |.dget=>.d
 |.dgetD=>.d
 |.dpop=>.d
 |.dpopD=>.d
 |.dpopT=>.d
 |.setdefault=>.d
 |.join=>.s
 |.split=>.s
 |.replace=>.s
 |.upper=>.s
 |.partition=>.s
 |.sidx=>.s
 |.index=>.t
 |_=>.l
abbrev Kn(p:Option Ob->Bool)(h:Hs):Val->Bool
 |.ref a=>p<|h a
 |_=>fM
abbrev LA:Val->Bool
 |.str _=>fL
 |_=>fM
abbrev P3:Val->Bool
 |.tup _=>fL
 |_=>fM
abbrev bmTy(h:Hs)(m:Bm)(v:Val):Bool:=match m.ty with
 |.l=>Kn isLst h v
 |.d=>Kn isDct h v
 |.s=>LA v
 |.t=>Kn isLst h v||P3 v
abbrev f7:List (String×Val)->String->Val->List (String×Val)
 |[],f,v=>[(f,v)]
 |(g,x)::r,f,v=>if g=f then(g,v)::r else(g,x)::f7 r f v
abbrev getV(env:Env)(i:Nat):Option Val:=match env[i]? with
 |some (fJ v)=>fJ v
 |_=>fK
abbrev iD:Val->Option Bool
 |.bl b=>fJ b
 |_=>fK
abbrev gP:Val->Option Ad
 |.ref a=>fJ a
 |_=>fK
abbrev insOf:Option Ob->Option (String×List (String×Val))
 |some (.ins C fs)=>fJ (C,fs)
 |_=>fK
abbrev tupOf:Val->Option (List Val)
 |.tup xs=>fJ xs
 |_=>fK
abbrev bindL:List Nat->List Val->Env->Option Env
 |[],[],env=>fJ env
 |i::is,x::xs,env=>bindL is xs<|env.set i<|fJ x
 |_,_,_=>fK
abbrev bind(p:Pt)(h:Hs)(v:Val)(env:Env):Option Env :=
 match p with
 |.one i=>fJ<|env.set i<|fJ v
 |.many is=>(tupOf v).bind λxs=>bindL is xs env
 |.nest i is=>(tupOf v).bind λxs=>match xs with
  |[x,y]=>(tupOf y).bind λI=>bindL is I<|env.set i<|fJ x
  |_=>fK
abbrev wComp(st:Hs->Prop)(step:Val->Hs->(Option Val->Hs->Prop)->XQ->Prop):List Val->List Val->Hs->(List Val->Hs->Prop)->XQ->Prop
 |[],ı,h,Q,_=>st h/\Q ı h
 |v::vs,ı,h,Q,X=>st h/\step v h (λr I=>wComp st step vs (ı++r.toList) I Q X) X
abbrev enumL:Nat->List Val->List Val
 |_,[]=>[]
 |k,x::xs=>.tup [.int k,x]::enumL (k+1) xs
abbrev itV(h:Hs):Val->Option ((Hs->Prop)×List Val)
 |.tup xs=>fJ (λ_=>True,xs)
 |.scr ns=>fJ (λ_=>True,ns.map .int)
 |.ref a=>(fY<|h a).map λxs=>(λg=>fY (g a)=fJ xs,xs)
 |_=>fK
abbrev itemOf(k:Bool)(p:Val×Val):Val:=if k then p.1 else .tup [p.1,p.2]
abbrev gO(i j:Int):List Val:=(List.range (j - i).toNat).map λ(k:Nat)=>.int<|i+k
abbrev gW(h:Hs)(o k v:Val):Option Hs :=
 match o with
 |.ref p=>match h p with
  |some (.lst xs)=>(iC k).bind λn=>(ixN xs.length n).map λj=>upd h p<|.lst<|xs.set j v
  |some (.dct kvs)=>if f9 k/\kvs.length<lim then fJ (upd h p<|.dct<|gp kvs k v)else fK
  |some (.dtp kvs)=>if isKeyT k/\kvs.length<lim then fJ (upd h p<|.dtp<|gp kvs k v)else fK
  |_=>fK
 |_=>fK
abbrev gZ(h:Hs)(o:Val)(f:String)(v:Val):Option Hs :=
 match o with
 |.ref p=>match h p with
  |some (.ins C fs)=>if fs.length<900 then fJ (upd h p<|.ins C<|f7 fs f v)else fK
  |_=>fK
 |_=>fK
abbrev UA(h:Hs)(o v:Val):Option Hs:=(gP o).bind λa=>(gP v).bind λb=>if a=b then fK else(fY<|h a).bind λxs=>(fY<|h b).bind λI=>if xs.length+I.length<=lim then fJ (upd h a<|.lst<|I++xs)else fK
abbrev gX(h:Hs)(o:Val)(f:String):Option Val:=(gP o).bind λa=>(insOf<|h a).bind λp=>p.2.lookup f
abbrev clsV(h:Hs)(o:Val)(m:String):Option String:=(gP o).bind λa=>(insOf<|h a).bind λp=>if(p.2.lookup m).isNone then fJ p.1 else fK
abbrev augV(op:Bop)(x y:Val):Option Val:=match op,x,y with
 |.add,.int i,.int j=>fJ<|.int<|i+j
 |.sub,.int i,.int j=>fJ<|.int<|i - j
 |_,_,_=>fK
@[irreducible] noncomputable def N9(F:Hs->(List Val->Hs->Prop)->XQ->Prop)(h:Hs)(Q:Q1)(X:XQ):Prop:=new h (.dct []) λr U=>go (gP r) λp=>F U (λR J=>go (pairUp R) λI=>J p=fJ (.dct [])/\Q (.ref p) (upd J p<|.dct<|putAll [] I)) X
mutual
@[reducible] noncomputable def xE(J:Fs):E->Env->Hs->Q1->XQ->Prop
 |.cst v,_,h,Q,_=>Q v h
 |.glob _ v,_,h,Q,_=>Q v h
 |.var i,env,h,Q,_=>go (getV env i) λv=>Q v h
 |.bin op a b,env,h,Q,X=>xE J a env h (λv I=>xE J b env I (λu R=>(binV R op v u).wp R Q) X) X
 |.neg a,env,h,Q,X=>xE J a env h (λv I=>go (iC v) λi=>Q (.int (-i)) I) X
 |.not a,env,h,Q,X=>xE J a env h (λv I=>go (iD v) λb=>Q (.bl (!b)) I) X
 |.and a b,env,h,Q,X=>xE J a env h (λv I=>go (iD v) λc=>if c=fL then xE J b env I Q X else Q (.bl fM) I) X
 |.or a b,env,h,Q,X=>xE J a env h (λv I=>go (iD v) λc=>if c=fL then Q (.bl fL) I else xE J b env I Q X) X
 |.cmp op a b,env,h,Q,X=>xE J a env h (λv I=>xE J b env I (λu R=>go (f8 R op v u) λc=>Q (.bl c) R) X) X
 | .chain o1 o2 a b c,env,h,Q,X=>xE J a env h (λv I=>xE J b env I (λu R=>go (f8 R o1 v u) λk =>
     if k=fL then xE J c env R (λw d=>go (f8 d o2 u w) λy=>Q (.bl y) d) X else Q (.bl fM) R) X) X
 |.call f as,env,h,Q,X=>xA J as env h (λU I=>J f U I Q X) X
 |.make C as,env,h,Q,X=>xA J as env h (λU I=>∀p,I p=fK->J (C ++ ".__init__") (.ref p::U) (upd I p<|.ins C []) (λv R=>v=.non/\Q (.ref p) R) X) X
 |.meth C m o as,env,h,Q,X=>xE J o env h (λv I=>clsV I v m=fJ C/\xA J as env I (λU R=>J (C ++ "." ++ m) (v::U) R Q X) X) X
 |.meth2 C D m o as,env,h,Q,X=>xE J o env h (λv I=>clsV I v m=fJ C/\xA J as env I (λU R=>J (C ++ "." ++ m) (v::U) R Q X) X) X\/xE J o env h (λv I=>clsV I v m=fJ D/\xA J as env I (λU R=>J (D ++ "." ++ m) (v::U) R Q X) X) X
 |.fld o f,env,h,Q,X=>xE J o env h (λv I=>go (gX I v f) λu=>Q u I) X
 |.bi f as,env,h,Q,X=>xA J as env h (λU I=>(biV I f U).wp I Q) X
 |.bm m o as,env,h,Q,X=>xE J o env h (λv I=>bmTy I m v=fL/\xA J as env I (λU R=>go (bmV R m v U) λr=>Q r.1 r.2) X) X
 |.idx a i,env,h,Q,X=>xE J a env h (λv I=>xE J i env I (λk R=>go (gU R v k) λu=>Q u R) X) X
 |.slc a lo hi,env,h,Q,X=>xE J a env h (λv I=>xO J lo env I (λl R=>xO J hi env R (λu d=>(gV d v l u).wp d Q) X) X) X
 |.pick a lo hi st,env,h,Q,X=>xE J a env h (λv I=>xO J lo env I (λ_ R=>xO J hi env R (λ_ d=>xE J st env d (λk g=>go (iC k) λj=>j≠0/\go (lsA g v) λxs=>∀q:List Nat,q.Nodup->q.length<=xs.length->new g (.lst<|pickL q xs) Q) X) X) X) X
 |.tup es,env,h,Q,X=>xA J es env h (λU I=>Q (.tup U) I) X
 |.lst es,env,h,Q,X=>xA J es env h (λU I=>new I (.lst U) Q) X
 |.dct es,env,h,Q,X=>N9 (xA J es env) h Q X
 |.ife c a b,env,h,Q,X=>xT J c env h (λk I=>if k=fL then xE J a env I Q X else xE J b env I Q X) X
 | .comp Ā n p it c e,env,h,Q,X=>xI J it env h (λst xs I=>xs.length<lim/\
     wComp st (λv R K t=>go (bind p R v<|ß n fK++Ā.map λj=>(env[j]?).getD fK) λs =>
       xT J c s R (λk d=>if k=fL then xE J e s d (λu g=>K (fJ u) g) t else K fK d) t) xs [] I (λx z=>new z (.lst x) Q) λ_ _=>False) X
 |_,_,_,_,_=>False
@[reducible] noncomputable def xA(I:Fs):Es->Env->Hs->(List Val->Hs->Prop)->XQ->Prop
 |.nil,_,h,Q,_=>Q [] h
 |.cons e es,env,h,Q,X=>xE I e env h (λv U=>xA I es env U (λJ R=>Q (v::J) R) X) X
@[reducible] noncomputable def xJ(I:Fs):Es->Env->Hs->String->(String->Hs->Prop)->XQ->Prop
 |.nil,_,h,ı,Q,_=>Q ı h
 |.cons e es,env,h,ı,Q,X=>xE I e env h (λv J=>go (S8 v) λs=>ı.length+s.length<=lim/\xJ I es env J (ı++s) Q X) X
@[reducible] noncomputable def xO(I:Fs):Oe->Env->Hs->(Option Int->Hs->Prop)->XQ->Prop
 |.none,_,h,Q,_=>Q fK h
 |.some e,env,h,Q,X=>xE I e env h (λv J=>go (iC v) λi=>Q (fJ i) J) X
@[reducible] noncomputable def xT(J:Fs):Tt->Env->Hs->(Bool->Hs->Prop)->XQ->Prop
 |.yes,_,h,Q,_=>Q fL h
 |.val e,env,h,Q,X=>xE J e env h (λv I=>go (WV I v) λk=>Q k I) X
 |.not a,env,h,Q,X=>xT J a env h (λk I=>Q (!k) I) X
 |.and a b,env,h,Q,X=>xT J a env h (λk I=>if k=fL then xT J b env I Q X else Q fM I) X
 |.or a b,env,h,Q,X=>xT J a env h (λk I=>if k=fL then Q fL I else xT J b env I Q X) X
@[reducible] noncomputable def xI(J:Fs):It->Env->Hs->((Hs->Prop)->List Val->Hs->Prop)->XQ->Prop
 |.seq e,env,h,Q,X=>xE J e env h (λv I=>go (itV I v) λp=>Q p.1 p.2 I) X
 |.range a,env,h,Q,X=>xE J a env h (λv I=>go (iC v) λn=>(-(2 ^ 62)<=n/\n<2 ^ 62)/\Q (λ_=>True) (gO 0 n) I) X
 | .range2 a b,env,h,Q,X=>xE J a env h (λv I=>xE J b env I (λu R=>go (iC v) λi=>go (iC u) λj =>
     (-(2 ^ 62)<=i/\i<2 ^ 62/\-(2 ^ 62)<=j/\j<2 ^ 62)/\Q (λ_=>True) (gO i j) R) X) X
 |.enumL e,env,h,Q,X=>xE J e env h (λv I=>go (gP v) λa=>go (fY<|I a) λxs=>Q (λg=>fY (g a)=fJ xs) (enumL 0 xs) I) X
 |.enum e,env,h,Q,X=>xE J e env h (λv I=>go (tupOf v) λxs=>Q (λ_=>True) (enumL 0 xs) I) X
 |_,_,_,_,_=>False
end
@[reducible] noncomputable def wE:Fs->E->Env->Hs->Q1->XQ->Prop:=xE
@[reducible] noncomputable def wA:Fs->Es->Env->Hs->(List Val->Hs->Prop)->XQ->Prop:=xA
@[reducible] noncomputable def wO:Fs->Oe->Env->Hs->(Option Int->Hs->Prop)->XQ->Prop:=xO
@[reducible] noncomputable def wT:Fs->Tt->Env->Hs->(Bool->Hs->Prop)->XQ->Prop:=xT
@[reducible] noncomputable def wI:Fs->It->Env->Hs->((Hs->Prop)->List Val->Hs->Prop)->XQ->Prop:=xI
def wE_eq:wE=xE:=by unfold wE;rfl
noncomputable abbrev NQ:=Env->Hs->Prop
noncomputable abbrev EQ:=Env->String->Hs->Prop
abbrev wFor(st:Hs->Prop)(W:Val->Env->Hs->NQ->NQ->Prop)(N:NQ):List Val->Env->Hs->Prop
 |[],env,h=>st h/\N env h
 |v::vs,env,h=>st h/\W v env h (λe g=>wFor st W N vs e g) N
mutual
@[reducible] noncomputable def xS(J:Fs):S->Env->Hs->NQ->Q1->NQ->NQ->EQ->Prop
 |.set p e,env,h,N,_,_,_,X=>wE J e env h (λv I=>go (bind p I v env) λl=>N l I)<|X env
 |.setIdx a i e,env,h,N,_,_,_,X=>wE J e env h (λv I=>wE J a env I (λo d=>wE J i env d (λk m=>go (gW m o k v) λg=>N env g)<|X env)<|X env)<|X env
 |.setFront a e,env,h,N,_,_,_,X=>wE J e env h (λv I=>wE J a env I (λo d=>go (UA d o v) λg=>N env g)<|X env)<|X env
 |.setFld o f e,env,h,N,_,_,_,X=>wE J e env h (λv I=>wE J o env I (λu d=>go (gZ d u f v) λg=>N env g)<|X env)<|X env
 |.augFld o f op n,env,h,N,_,_,_,X=>wE J o env h (λu I=>go (gX I u f) λx=>go (augV op x<|.int n) λy=>go (gZ I u f y) λg=>N env g)<|X env
 |.augIdx a i op n,env,h,N,_,_,_,X=>wE J a env h (λo I=>wE J i env I (λk d=>go (gU d o k) λx=>go (augV op x<|.int n) λy=>go (gW d o k y) λg=>N env g)<|X env)<|X env
 |.expr e,env,h,N,_,_,_,X=>wE J e env h (λ_ I=>N env I)<|X env
 |.ret e,env,h,_,R,_,_,X=>wE J e env h R<|X env
 |.retN,_,h,_,R,_,_,_=>R .non h
 |.ite c a b,env,h,N,R,B,C,X=>wT J c env h (λk I=>if k=fL then xSs J a env I N R B C X else xSs J b env I N R B C X)<|X env
 |.for p it b,env,h,N,R,_,_,X=>wI J it env h (λst xs I=>wFor st (λv e g K M=>go (bind p g v e) λj=>xSs J b j g K R M K X) N xs env I)<|X env
 | .forI k p e b,env,h,N,R,_,_,X=>wE J e env h (λv I=>go (gP v) λa=>go (iB<|I a) λU =>
     wFor (λg=>g a=fJ (.frz U)) (λv e g K M=>go (bind p g v e) λj=>xSs J b j g K (λu g2=>g2 a=fJ (.frz U)/\R u (upd g2 a<|.dct U)) M K λ_ _ _=>False)
       (λe g=>g a=fJ (.frz U)/\N e (upd g a<|.dct U)) (U.map<|itemOf k) env (upd I a<|.frz U))<|X env
 |.never,_,_,_,_,_,_,_=>False
 |_,_,_,_,_,_,_,_=>False
@[reducible] noncomputable def xSs(I:Fs):Ss->Env->Hs->NQ->Q1->NQ->NQ->EQ->Prop
 |.nil,env,h,N,_,_,_,_=>N env h
 |.cons s ss,env,h,N,R,B,C,X=>xS I s env h (λe g=>xSs I ss e g N R B C X) R B C X
@[reducible] noncomputable def xH(I:Fs):Hn->String->Env->Hs->NQ->Q1->NQ->NQ->Prop
 |.nil,_,_,_,_,_,_,_=>False
 |.cons K fK b r,c,env,h,N,R,B,C=>if io c K=fL then xSs I b env h N R B C (λ_ _ _=>False)else xH I r c env h N R B C
 |.cons K (fJ i) b r,c,env,h,N,R,B,C=>if io c K=fL then(∀p,h p=fK->xSs I b (env.set i<|fJ<|.ref p) (upd h p<|.exc c) (λe g=>N (e.set i fK) g) R (λe g=>B (e.set i fK) g) (λe g=>C (e.set i fK) g) λ_ _ _=>False)
  else xH I r c env h N R B C
end
@[reducible] noncomputable def wS:Fs->S->Env->Hs->NQ->Q1->NQ->NQ->EQ->Prop:=xS
@[reducible] noncomputable def wSs:Fs->Ss->Env->Hs->NQ->Q1->NQ->NQ->EQ->Prop:=xSs
structure Fn where
 ar:Nat
 sz:Nat
 body:Ss
noncomputable abbrev Pg:=String->Option Fn
class In(P:Pg)(f:String)(d:outParam Fn):Prop where
 eq:P f=fJ d
abbrev Fn.env(d:Fn)(vs:List Val):Env:=vs.map fJ++ß (d.sz - d.ar) fK
abbrev wF0(P:Pg):Nat->Fs
 |0=>λ_ _ _ _ _=>False
 |n+1=>λf I h Q X=>go (P f) λd=>I.length=d.ar/\wSs (wF0 P n) d.body (d.env I) h (λ_ g=>Q .non g) Q (λ_ _=>False) (λ_ _=>False) λ_ c g=>X c g
@[irreducible] noncomputable def wF(P:Pg)(n:Nat):Fs:=wF0 P n
variable {n:Nat}
def wF_eq:wF P n=wF0 P n:=by unfold wF;rfl
def Zb(e:P f=fJ d)(hl:vs.length=d.ar)(q:wSs (wF P n) d.body (d.env vs) h (λ_ g=>Q .non g) Q (λ_ _=>False) (λ_ _=>False) λ_ c g=>X c g):wF P (n+1) f vs h Q X:=by
 rw[wF_eq]at q ⊢;exact fR e ⟨hl,q⟩
section
variable {e:E}{v u:Val}
def Lm(g:getV env i=fJ v)(q:Q v h):wE Φ (.var i) env h Q X:=by rw[wE_eq];exact fR g q
def Sh(q:wA Φ as env h (λvs h1=>(biV h1 f vs).wp h1 Q) X):wE Φ (.bi f as) env h Q X:=q
def SY{a:Ad}{xs:List Val}(e:h a=fJ (.lst xs))(q:∀I:List Nat,I.Nodup->I.length<=xs.length->new h (.lst<|pickL I xs) Q):go (lsA h<|.ref a) λxs=>∀I:List Nat,I.Nodup->I.length<=xs.length->new h (.lst<|pickL I xs) Q:=fR (by show fY (h a)=_;rw[e];rfl) q
def SG(q:new h (.dct []) λr h1=>go (gP r) λp=>wA Φ es env h1 (λvs I=>go (pairUp vs) λkvs=>I p=fJ (.dct [])/\Q (.ref p) (upd I p<|.dct<|putAll [] kvs)) X):wE Φ (.dct es) env h Q X:=by show N9 _ _ _ _;unfold N9;exact q
def Fi(q:QA [] h):wA Φ .nil env h QA X:=q
def DH(q:wE Φ e env h (λv h1=>wA Φ es env h1 (λvs I=>QA (v::vs) I) X) X):wA Φ (.cons e es) env h QA X:=q
def IN(q:wE Φ e env h (λv h1=>go (WV h1 v) λk=>QT k h1) X):wT Φ (.val e) env h QT X:=q
def IK(q:wT Φ t env h (λk h1=>QT (!k) h1) X):wT Φ (.not t) env h QT X:=q
def Tz(q:wT Φ s env h (λk h1=>if k=fL then QT fL h1 else wT Φ t env h1 QT X) X):wT Φ (.or s t) env h QT X:=q
end
section
variable {env:Env}{h:Hs}{N C:NQ}{c e:E}{v u:Val}{t:Tt}{p:Pt}{it:It}
def S5(q:wT Φ t env h (λk h1=>if k=fL then wSs Φ s1 env h1 N R B C X else wSs Φ s2 env h1 N R B C X)<|X env):wS Φ (.ite t s1 s2) env h N R B C X:=q
def EF(q:N env h):wSs Φ .nil env h N R B C X:=q
def FV(q:wS Φ s env h (λe g=>wSs Φ ss e g N R B C X) R B C X):wSs Φ (.cons s ss) env h N R B C X:=q
end
section
variable {h:Hs}{i j k:Int}{a b:Ad}{xs ys:List Val}{v u:Val}{K:Val->Prop}
def wp_val{r:Rs}(e:r=.val v)(q:Q v h):r.wp h Q:=by rw[e,Rs.wp_val];exact q
def wp_new{r:Rs}{o:Ob}(e:r=.new o)(q:new h o Q):r.wp h Q:=by rw[e,Rs.wp_new];exact q
def b_add(q:Q (.int<|i+j) h):(binV h .add (.int i)<|.int j).wp h Q:=wp_val rfl q
def b_sub(q:Q (.int<|i - j) h):(binV h .sub (.int i)<|.int j).wp h Q:=wp_val rfl q
def b_mul(m:mulOk i j)(q:Q (.int<|i*j) h):(binV h .mul (.int i)<|.int j).wp h Q:=wp_val (iH m) q
def b_fdiv(m:0<j/\j<1073741824)(q:Q (.int<|i / j) h):(binV h .fdiv (.int i)<|.int j).wp h Q:=wp_val (iH m) q
def b_mod(m:0<j)(q:Q (.int<|i % j) h):(binV h .mod (.int i)<|.int j).wp h Q:=wp_val (iH m) q
def b_pow(m:0<=j/\j<=1000000/\i.natAbs<2 ^ 64)(q:Q (.int<|i ^ j.toNat) h):(binV h .pow (.int i)<|.int j).wp h Q:=wp_val (iH m) q
def Q3(m:0<=j/\j<=1000000/\i.natAbs<2 ^ 64)(e:i ^ j.toNat=z)(q:Q (.int z) h):(binV h .pow (.int i)<|.int j).wp h Q:=b_pow m (by rw[e];exact q)
def Q0(m:xs.length+ys.length<=lim)(q:Q (.tup<|xs++ys) h):(binV h .add (.tup xs)<|.tup ys).wp h Q:=wp_val (iH m) q
def EO(J:h a=fJ (.lst xs))(I:h b=fJ (.lst ys))(m:(xs++ys).length<=lim)(q:new h (.lst<|xs++ys) Q):(binV h .add (.ref a)<|.ref b).wp h Q:=by refine wp_new ?_ q;show(match h a,h b with|some (.lst xs),fJ (.lst ys)=>Rs.lst (xs++ys)|_,_=>.no:Rs)=_;simp![J,I,Rs.lst];rw[iH m]
def lsE(I:h a=fJ (.lst xs)):fY (h a)=fJ xs:=by rw[I];rfl
variable {kvs:List (Val×Val)}
def dcE(I:h a=fJ (.dct kvs)):iB (h a)=fJ kvs:=by rw[I];rfl
def g_int{K:Int->Prop}(q:K i):go (iC<|.int i) K:=fR rfl q
def g_bl{b:Bool}(q:KB b):go (iD<|.bl b) KB:=fR rfl q
def g_ref{K:Ad->Prop}(q:K a):go (gP<|.ref a) K:=fR rfl q
def g_tbl{b:Bool}(q:KB b):go (WV h<|.bl b) KB:=fR rfl q
def TV(q:KB<|iN (i≠0)):go (WV h<|.int i) KB:=fR rfl q
def Te(e:h a=fJ (.lst xs))(q:KB (!xs.isEmpty)):go (WV h<|.ref a) KB:=fR (by unfold WV;simp![e]) q
def fS(e:atI xs i=fJ v)(q:K v):go (gU h (.tup xs)<|.int i) K:=fR e q
def Z8(I:h a=fJ (.lst xs))(e:atI xs i=fJ v)(q:K v):go (gU h (.ref a)<|.int i) K:=fR (by unfold gU;simp![I];exact e) q
def Zk{k:Val}(J:h a=fJ (.dct kvs))(I:f9 k=fL)(e:gk kvs k=fJ v)(q:K v):go (gU h (.ref a) k) K:=fR (by unfold gU;simp![J];rw[iH I];exact e) q
variable {ns:List Int}
def LV(e:atI (ns.map Val.int) i=fJ v)(q:K v):go (gU h (.scr ns)<|.int i) K:=fR e q
def c_lt(q:KB<|iN (i<j)):go (f8 h .lt (.int i)<|.int j) KB:=fR rfl q
def c_gt(q:KB<|iN (j<i)):go (f8 h .gt (.int i)<|.int j) KB:=fR rfl q
def c_le(q:KB<|iN (i<=j)):go (f8 h .le (.int i)<|.int j) KB:=fR rfl q
def c_ge(q:KB<|iN (j<=i)):go (f8 h .ge (.int i)<|.int j) KB:=fR rfl q
def OR:D.eqv (.int i) (.int j)=iN (i=j):=by rw[D.eqv];by_cases e:i=j<;>simp[e]
variable {s:String}
def IR:D.eqv (.str s) (.str t)=iN (s=t):=by rw[D.eqv];by_cases e:s=t<;>simp[e]
def c_eqI(q:KB<|iN (i=j)):go (f8 h .eq (.int i)<|.int j) KB:=fR (by show fJ (D.eqv (.int i)<|.int j)=_;rw[OR]) q
def c_neI(q:KB (!iN (i=j))):go (f8 h .ne (.int i)<|.int j) KB:=fR (by show fJ (!D.eqv (.int i) (.int j))=_;rw[OR]) q
def Vk(q:KB<|iN (s=t)):go (f8 h .eq (.str s)<|.str t) KB:=fR (by show fJ (D.eqv (.str s)<|.str t)=_;rw[IR]) q
def Vh(q:KB (!iN (s=t))):go (f8 h .ne (.str s)<|.str t) KB:=fR (by show fJ (!D.eqv (.str s) (.str t))=_;rw[IR]) q
variable {c:Bool}
def Vi(q:KB<|c==d):go (f8 h .eq (.bl c)<|.bl d) KB:=fR (by show fJ (D.eqv (.bl c)<|.bl d)=_;rw[D.eqv]) q
def c_isN(q:KB<|iN (v=.non)):go (f8 h .is v .non) KB:=fR (by unfold f8;rfl) q
def c_notN(q:KB (!iN (v=.non))):go (f8 h .isnot v .non) KB:=fR (by unfold f8;rfl) q
def c_eqE(J:h a=fJ (.lst xs))(I:h b=fJ (.lst []))(q:KB xs.isEmpty):go (f8 h .eqE (.ref a)<|.ref b) KB:=fR (by show(fY<|h a).bind _=_;rw[J,ZJ];show(fY<|h b).bind _=_;rw[I,ZJ];rfl) q
def c_neE(J:h a=fJ (.lst xs))(I:h b=fJ (.lst []))(q:KB (!xs.isEmpty)):go (f8 h .neE (.ref a)<|.ref b) KB:=fR (by show(fY<|h a).bind _=_;rw[J,ZJ];show(fY<|h b).bind _=_;rw[I,ZJ];rfl) q
def Pk(J:fT xs=fJ ns)(I:fT ys=fJ ms)(q:KB<|gR ms ns):go (f8 h .gt (.tup xs)<|.tup ys) KB:=fR (by show(fT ys).bind _=_;rw[J,I];rfl) q
variable {n:Nat}{š:Env}
def QF{env:Env}{K:Env->Prop}(e:env.set n (fJ v)=š)(q:K š):go (bind (.one n) h v env) K:=by subst e;exact fR rfl q
def Qw{K:Env->Prop}(e:bindL is xs env=fJ š)(q:K š):go (bind (.many is) h (.tup xs) env) K:=fR e q
def LG{K:Hs->Prop}(I:h a=fJ (.lst xs))(e:ixN xs.length i=fJ n)(q:K<|upd h a<|.lst<|xs.set n v):go (gW h (.ref a) (.int i) v) K:=fR (by unfold gW;simp![I,iC,ê,e,œ]) q
def Yh{K:Hs->Prop}{k:Val}(I:h a=fJ (.dct kvs))(m:f9 k=fL/\kvs.length<lim)(q:K<|upd h a<|.dct<|gp kvs k v):go (gW h (.ref a) k v) K:=fR (by unfold gW;simp![I];rw[iH m]) q
def JF(J:h a=fJ (.dct kvs))(I:f9 v=fL)(q:KB<|gm kvs v):go (f8 h .isin v<|.ref a) KB:=fR (by show inV h v (.ref a)=_;unfold inV;simp![J];rw[iH I]) q
def XX(J:h a=fJ (.dct kvs))(I:f9 v=fL)(q:KB (!gm kvs v)):go (f8 h .notin v<|.ref a) KB:=fR (by show(inV h v<|.ref a).map _=_;unfold inV;simp![J];rw[iH I];rfl) q
variable {C:String}{f:String}
def Ym{K:Hs->Prop}(I:h a=fJ (.ins C fs))(m:fs.length<900)(q:K<|upd h a<|.ins C<|f7 fs f v):go (gZ h (.ref a) f v) K:=fR (by unfold gZ;simp![I];rw[iH m]) q
def Pm(I:h a=fJ (.ins C fs))(e:fs.lookup f=fJ v)(q:K v):go (gX h (.ref a) f) K:=fR (by unfold gX gP;simp![I,insOf,ê];exact e) q
def Qp(I:h a=fJ (.ins C fs))(e:fs.lookup m=fK)(q:P):clsV h (.ref a) m=fJ C/\P:=⟨by unfold clsV gP;simp![I,insOf,ê,e,dC,if_true],q⟩
def ag_add(q:K<|.int<|i+j):go (augV .add (.int i)<|.int j) K:=fR rfl q
def ln_lst(I:h a=fJ (.lst xs))(q:Q (.int xs.length) h):(biV h .len [.ref a]).wp h Q:=wp_val (by show hU h (.ref a)=_;unfold hU;dsimp only;rw[I]) q
def ln_scr(q:Q (.int ns.length) h):(biV h .len [.scr ns]).wp h Q:=wp_val rfl q
def ln_tup(q:Q (.int xs.length) h):(biV h .len [.tup xs]).wp h Q:=wp_val rfl q
def in_str(m:s.length<=640/\s.toList≠[]/\s.toList.all figB=fL)(q:Q (.int<|decN s.toList) h):(biV h .int [.str s]).wp h Q:=wp_val (iH m) q
def Uk(J:h a=fJ (.lst xs))(I:blsOf xs=fJ bs)(q:Q (.bl<|bs.all id) h):(biV h .all [.ref a]).wp h Q:=wp_val (by show Rs.ofO ((fY<|h a).bind _)=_;rw[lsE J,ê,I];rfl) q
def Vj{K:String->Prop}(q:K s):go (Si<|.str s) K:=fR rfl q
def TC(hm:m=.join)(q:P):bmTy h m (.str s)=fL/\P:=⟨by subst hm;rfl,q⟩
def SR{K:List Val->Prop}(I:h a=fJ (.lst xs))(q:K xs):go (fY<|h a) K:=fR (by rw[I];rfl) q
def EH(J:h a=fJ (.lst xs))(I:pairsOf h xs=fJ kvs)(q:new h (.dct<|putAll [] kvs) Q):(biV h .dict [.ref a]).wp h Q:=wp_new (by show Uq h (.ref a)=_;unfold Uq;simp![J,I]) q
def TX(q:Q (.int i) h):(biV h .int [.int i]).wp h Q:=wp_val rfl q
def in_bl(q:Q (.int<|if c then 1 else 0) h):(biV h .int [.bl c]).wp h Q:=wp_val rfl q
def mn2(q:Q (.int<|if j<i then j else i) h):(biV h .min2 [.int i,.int j]).wp h Q:=wp_val rfl q
def mx2(q:Q (.int<|if j > i then j else i) h):(biV h .max2 [.int i,.int j]).wp h Q:=wp_val rfl q
def tp_lst(I:h a=fJ (.lst xs))(q:Q (.tup xs) h):(biV h .tuple [.ref a]).wp h Q:=wp_val (by show Nb h (.ref a)=_;unfold Nb;dsimp only;rw[I]) q
def Ta(q:Q (.tup xs) h):(biV h .tuple [.tup xs]).wp h Q:=wp_val rfl q
def Fg(e:isiAny h v I=fJ c)(q:Q (.bl c) h):(biV h (.isi I) [v]).wp h Q:=wp_val (by show Rs.ofO ((isiAny h v I).map .bl)=_;rw[e];rfl) q
def ls_lst(I:h a=fJ (.lst xs))(q:new h (.lst xs) Q):(biV h .list [.ref a]).wp h Q:=wp_new (by show toList h (.ref a)=_;unfold toList;dsimp only;rw[I]) q
def Tu(q:new h (.lst xs) Q):(biV h .list [.tup xs]).wp h Q:=wp_new rfl q
variable {lo:Option Int}
def hX(n:¬ (gQ xs.length 0 lo=0/\gQ xs.length xs.length hi=xs.length))(q:Q (.tup<|cut xs lo hi) h):(gV h (.tup xs) lo hi).wp h Q:=wp_val (by unfold gV;simp only;rw[iI n]) q
def LO(hm:m.ty=.l\/m.ty=.t)(e:h a=fJ (.lst xs))(q:P):bmTy h m (.ref a)=fL/\P:=⟨by unfold bmTy;rcases hm with hm|hm<;>rw[hm]<;>simp[Kn,e,isLst],q⟩
def LS(hm:m.ty=.d)(e:h a=fJ (.dct kvs))(q:P):bmTy h m (.ref a)=fL/\P:=⟨by unfold bmTy;rw[hm];simp[Kn,e,isDct],q⟩
abbrev LR:Bi->Bool
 |.sorted=>fL
 |.sortedI=>fL
 |_=>fM
def C3{f:Bi}(hf:LR f=fL)(e:sortAny h v=fJ ns)(m:ns.length<64)(q:new h (.lst<|(sortI ns).map Val.int) Q):(biV h f [v]).wp h Q:=by
 cases f with
 |sorted=>exact wp_new (by show JO h v=_;unfold JO;simp![e];exact iH m) q
 |sortedI=>exact wp_new (by show biSortedI h v=_;unfold biSortedI;simp![e];exact iH m) q
 |_=>cases hf
def LT{f:Bi}(J:h a=fJ (.lst<|ns.map Val.int))(I:fT (ns.map Val.int)=fJ ns)(m:ns.length<64)(q:new h (.lst<|(sortI ns).map Val.int) Q)(hf:LR f=fL:=by rfl):(biV h f [.ref a]).wp h Q:=C3 hf (by unfold sortAny;simp![J,I]) m q
def Ub{f:Bi}(J:h a=fJ (.dct kvs))(I:keysOf kvs=fJ ns)(m:ns.length<64)(q:new h (.lst<|(sortI ns).map Val.int) Q)(hf:LR f=fL:=by rfl):(biV h f [.ref a]).wp h Q:=C3 hf (by unfold sortAny;simp![J,I]) m q
def P9(I:h a=fJ (.lst []))(q:Q .non h):(biV h .minD [.ref a]).wp h Q:=wp_val (by show hW h (.ref a)=_;unfold hW;simp![I,fY,ê,rowsOf]) q
def HE(J:h a=fJ (.lst xs))(I:rowsOf xs=fJ (x::r))(q:Q (.tup<|(minR x r).map Val.int) h):(biV h .minD [.ref a]).wp h Q:=wp_val (by show hW h (.ref a)=_;unfold hW;simp![J,fY,ê,I]) q
def sl_str(n:s.length<=lim)(q:Q (.str<|Υ<|cut s.toList lo hi) h):(gV h (.str s) lo hi).wp h Q:=wp_val (by unfold gV;simp only;rw[iH n]) q
def sl_lst(I:h a=fJ (.lst xs))(q:new h (.lst<|cut xs lo hi) Q):(gV h (.ref a) lo hi).wp h Q:=wp_new (by unfold gV;simp![I,fY]) q
def sl_scr(q:new h (.lst<|cut (ns.map Val.int) lo hi) Q):(gV h (.scr ns) lo hi).wp h Q:=wp_new rfl q
def Zj{K:Val×Hs->Prop}(I:h a=fJ (.lst xs))(m:xs.length<lim)(q:K (.non,upd h a<|.lst<|xs++[v])):go (bmV h .append (.ref a) [v]) K:=fR (by show(fY<|h a).bind _=_;rw[lsE I];exact iH m) q
def Ug{K:Val×Hs->Prop}(J:h a=fJ (.dct kvs))(I:f9 v=fL)(q:K ((gk kvs v).getD .non,h)):go (bmV h .dget (.ref a) [v]) K:=fR (by show(iB<|h a).bind _=_;rw[dcE J];exact iH I) q
def it_lst{K:(Hs->Prop)×List Val->Prop}(I:h a=fJ (.lst xs))(q:K (λg=>fY (g a)=fJ xs,xs)):go (itV h<|.ref a) K:=fR (by unfold itV;simp![I,fY,œ]) q
def it_scr{K:(Hs->Prop)×List Val->Prop}(q:K (λ_=>True,ns.map Val.int)):go (itV h<|.scr ns) K:=fR rfl q
def it_tup{K:(Hs->Prop)×List Val->Prop}(q:K (λ_=>True,xs)):go (itV h<|.tup xs) K:=fR rfl q
def Th{K:List Val->Prop}(q:K xs):go (ED h<|.tup xs) K:=fR rfl q
def Tn{K:List Val->Prop}(I:h a=fJ (.lst xs))(q:K xs):go (ED h<|.ref a) K:=fR (by unfold ED;simp![I,fY]) q
variable {A:Prop}{B:Prop}
def hZ(e:c=fL)(q:A):if c=fL then A else B:=by rw[iH e];exact q
def ie(e:c=fM)(q:B):if c=fL then A else B:=by rw[iI<|by rw[e];decide];exact q
def ii(q:c=fL->A)(r:c=fM->B):if c=fL then A else B:=by cases c;exact r rfl;exact q rfl
variable {p:Prop}
def ig[Decidable p](q:p->A)(r:¬p->B):if decide p=fL then A else B:=by
 by_cases e:p
 .rw[iH<|iK e];exact q e
 .rw[iI<|by simpa using e];exact r e
def NA[Decidable p](q:¬p->A)(r:p->B):if(!decide p)=fL then A else B:=by
 by_cases e:p
 .rw[iI<|by simpa using e];exact r e
 .rw[iH<|by simpa using e];exact q e
end
structure Ext(h g:Hs):Prop where
 get:∀{a:Ad}{o:Ob},h a=fJ o->g a=fJ o
variable {h:Hs}
def Ext.refl:Ext h h:=⟨λe=>e⟩
variable {g:Hs}
def Ext.trans(e:Ext h g)(f:Ext g k):Ext h k:=⟨λx=>f.get<|e.get x⟩
variable {p:Ad}{o:Ob}
def Ext.new(e:h p=fK):Ext h<|upd h p o:=⟨λ{a u} x=>by
  rw[fN<|by intro z;rw[z,e]at x;cases x];exact x⟩
structure ExtB(w:Ad)(h g:Hs):Prop where
 get:∀{a:Ad}{o:Ob},a≠w->h a=fJ o->g a=fJ o
variable {w:Ad}
def ExtB.trans(e:ExtB w h g)(f:ExtB w g k):ExtB w h k:=⟨λn x=>f.get n<|e.get n x⟩
def ExtB.upd:ExtB w h<|upd h w o:=⟨λn x=>by rw[fN n];exact x⟩
def ExtB.of(e:Ext h g):ExtB w h g:=⟨λ_ x=>e.get x⟩
variable {a:Ad}
def Za(x:h a=fJ o)(n:h p=fK):a≠p:=by intro z;rw[z,n]at x;cases x
def ne_none'(n:h p=fK)(x:h a=fJ o):a≠p:=Za x n
def upd_ne'(n:b≠a)(e:h b=r):upd h a o b=r:=by rw[fN n];exact e
inductive Sm1 {α:Type}(p:α->Prop):Prop|mk (a:α) (h:p a)
inductive Sm2 {α β:Type}(p:α->β->Prop):Prop|mk (a:α) (b:β) (h:p a b)
inductive Sm3 {α β γ:Type}(p:α->β->γ->Prop):Prop|mk (a:α) (b:β) (c:γ) (h:p a b c)
inductive Sm4 {α β γ δ:Type}(p:α->β->γ->δ->Prop):Prop|mk (a:α) (b:β) (c:γ) (d:δ) (h:p a b c d)
inductive Sm5 {α β γ δ ε:Type}(p:α->β->γ->δ->ε->Prop):Prop|mk (a:α) (b:β) (c:γ) (d:δ) (e:ε) (h:p a b c d e)
inductive Cj2 (a b:Prop):Prop|mk (h1:a) (h2:b)
inductive Cj3 (a b c:Prop):Prop|mk (h1:a) (h2:b) (h3:c)
inductive Cj4 (a b c d:Prop):Prop|mk (h1:a) (h2:b) (h3:c) (h4:d)
inductive Cj5 (a b c d e:Prop):Prop|mk (h1:a) (h2:b) (h3:c) (h4:d) (h5:e)
inductive Cj7 (a b c d e f g:Prop):Prop|mk (h1:a) (h2:b) (h3:c) (h4:d) (h5:e) (h6:f) (h7:g)
inductive Cj9 (a b c d e f g h i:Prop):Prop|mk (h1:a) (h2:b) (h3:c) (h4:d) (h5:e) (h6:f) (h7:g) (h8:h) (h9:i)
variable {st:Hs->Prop}
def Zh(I:Nat->Env->Hs->Prop)(h0:I 0 env h)(c:∀i e g,i<=xs.length->I i e g->st g)(step:∀i v e g,xs[i]?=fJ v->I i e g->∀K:NQ,(∀U g',I (i+1) U g'->K U g')->W v e g K N)(fin:∀e g,I xs.length e g->N e g):wFor st W N xs env h:=by
 have key:∀(R:List Val) (i:Nat) e g,xs.drop i=R->i<=xs.length->I i e g->wFor st W N R e g:=by
  intro R;induction R with
  |nil =>
   intro i e g hd hi J;have:i=xs.length:=by have:=congrArg List.length hd;simp at this;lia
   subst this;exact⟨c _ e g (Ì _) J,fin e g J⟩
  |cons v vs ih =>
   intro i e g hd hi J;have f:i<xs.length:=by have:=congrArg List.length hd;simp at this;lia
   have d:xs[i]?=fJ v:=by have:=congrArg (λl=>l[0]?) hd;simpa using this
   refine⟨c i e g hi J,step i v e g d J _ λU g' b=>ih (i+1) U g' ?_ ↥0 b⟩;have:=congrArg List.tail hd;simpa using this
 exact key xs 0 env h (by simp) ↥0 h0
def Yk{step:Val->Hs->(Option Val->Hs->Prop)->XQ->Prop}(I:Nat->List Val->Hs->Prop)(h0:I 0 [] h)(U:∀i ys g,i<=xs.length->I i ys g->st g)(go:∀i v ys g,xs[i]?=fJ v->I i ys g->∀K,(∀r g',I (i+1) (ys++r.toList) g'->K r g')->step v g K X)(fin:∀ys g,I xs.length ys g->Q ys g):wComp st step xs [] h Q X:=by
 have key:∀(zs:List Val) (i:Nat) ys g,xs.drop i=zs->i<=xs.length->I i ys g->wComp st step zs ys g Q X:=by
  intro zs;induction zs with
  |nil =>
   intro i ys g hd hi J;have:i=xs.length:=by have:=congrArg List.length hd;simp at this;lia
   subst this;exact⟨U _ ys g (Ì _) J,fin ys g J⟩
  |cons v vs ih =>
   intro i ys g hd hi J;have c:i<xs.length:=by have:=congrArg List.length hd;simp at this;lia
   have b:xs[i]?=fJ v:=by have:=congrArg (λl=>l[0]?) hd;simpa using this
   refine⟨U i ys g hi J,go i v ys g b J _ λr g' R=>ih (i+1) _ g' ?_ ↥0 R⟩;have:=congrArg List.tail hd;simpa using this
 exact key xs 0 [] h (by simp) ↥0 h0
def YG{step:Val->Hs->(Option Val->Hs->Prop)->XQ->Prop}(f:Val->Option Val)(J:st h)(go:∀v∈xs,∀K,K (f v) h->step v h K X)(fin:Q (xs.filterMap f) h):wComp st step xs [] h Q X:=by
 have key:∀(zs I:List Val),(∀v∈zs,v∈xs)->Q (I++zs.filterMap f) h->wComp st step zs I h Q X:=by
  intro zs;induction zs with
  |nil=>intro I _ q;exact⟨J,⇑q⟩
  |cons v vs ih =>
   intro I hm q;refine⟨J,go v (hm v<|by simp) _<|ih _ (λw hw=>hm w<|by simp[hw]) ?_⟩;cases e:f v with
   |none=>simpa[ï,e]using q
   |some u=>simpa[ï,e]using q
 exact key xs [] (λ_ h=>h) ⇑fin
section
variable {b c e:E}{as:Es}{v u:Val}
def q_e_bi:(wE Φ (.bi f as) env h Q X)=(wA Φ as env h (λvs h1=>(biV h1 f vs).wp h1 Q) X):=rfl
def q_e_dct:(wE Φ (.dct es) env h Q X)=(new h (.dct []) λr h1=>go (gP r) λp=>wA Φ es env h1 (λvs I=>go (pairUp vs) λkvs=>I p=fJ (.dct [])/\Q (.ref p) (upd I p<|.dct<|putAll [] kvs)) X):=by show N9 _ _ _ _=_;unfold N9;rfl
def q_a_nil:(wA Φ .nil env h QA X)=(QA [] h):=rfl
def q_a_cons:(wA Φ (.cons e es) env h QA X)=(wE Φ e env h (λv h1=>wA Φ es env h1 (λvs I=>QA (v::vs) I) X) X):=rfl
end
mutual
theorem D.eqv_refl:∀d:D,D.eqv d d=fL
 |.non=>by simp[D.eqv]
 |.bl _=>by simp[D.eqv]
 |.int _=>by simp[D.eqv]
 |.str _=>by simp[D.eqv]
 |.tup ds=>by simp![D.eqv];exact D.eqvs_refl ds
 |.lst ds=>by simp![D.eqv];exact D.eqvs_refl ds
theorem D.eqvs_refl:∀ds:List D,D.eqvs ds ds=fL
 |[]=>by simp[D.eqvs]
 |d::ds=>by simp![D.eqvs,D.eqv_refl d,D.eqvs_refl ds,bW]
end
def Ak{α:Type}{o:Option α}{k k':α->Prop}(h:go o k)(f:∀a,k a->k' a):go o k':=by
 cases o with
 |none=>rw[Ig]at h;exact h.elim
 |some a=>rw[fQ]at h ⊢;exact f a h
section
variable {env:Env}{h:Hs}{a:Ad}{v:Val}{kvs:List (Val×Val)}
def L7(q:∀p,h p=fK->Q (.ref p) (upd h p<|.dct [])):wE Φ (.dct .nil) env h Q X:=by refine SG<|Yv λp hp=>g_ref<|Fi<|fR rfl ⟨fO,?_⟩;rw[fP];exact q p hp
def dw0(q:∀p,h p=fK->Q (.ref p) (upd h p<|.dct [])):N9 (xA Φ .nil env) h Q X:=L7 q
def dw(q:new h (.dct []) λr h1=>go (gP r) λp=>F h1 (λvs I=>go (pairUp vs) λkvs=>I p=fJ (.dct [])/\Q (.ref p) (upd I p<|.dct<|putAll [] kvs)) X):N9 F h Q X:=by unfold N9;exact q
def Sr{K:Val->Prop}(g:getV env i=fJ v)(q:K v):go (getV env i) K:=fR g q
def dc_of{K:List (Val×Val)->Prop}(I:h a=fJ (.dct kvs))(q:K kvs):go (iB<|h a) K:=fR (dcE I) q
variable {u:Val}
def Ik{K:Val×Hs->Prop}(I:h a=fJ (.dct kvs))(J:f9 v=fL)(q:K ((gk kvs v).getD u,h)):go (bmV h .dgetD (.ref a) [v,u]) K:=fR (by show UM h (.ref a) [v,u]=_;unfold UM dpAt;simp![I];show(iB<|h a).bind _=_;rw[dcE I];exact iH J) q
def Ee{K:Val×Hs->Prop}(R:h a=fJ (.dct kvs))(I:f9 v=fL)(J:gk kvs v=fJ u)(q:K (u,upd h a<|.dct<|gq kvs v)):go (bmV h .dpop (.ref a) [v]) K:=fR (by show(iB<|h a).bind _=_;rw[dcE R];show(if f9 v then _ else _)=_;rw[iH I,J];rfl) q
def U2{K:Val×Hs->Prop}(J:h a=fJ (.dct kvs))(I:f9 v=fL)(q:K ((gk kvs v).getD u,upd h a<|.dct<|gq kvs v)):go (bmV h .dpopD (.ref a) [v,u]) K:=fR (by show(iB<|h a).bind _=_;rw[dcE J];exact iH I) q
end
end iG
namespace Snd
open PySem L2
abbrev KT(K:Frag)(a:Í)(xs:List V):Prop :=
 ∃(o:Obj) (ó:Array Ã) (n:Nat),K.lookup a=fJ o/\o.cls=.type "tuple"/\o.data=.seq ó n/\ó.size<=à/\iu xs ó.toList
abbrev KL(K:Frag)(a:Í)(xs:List V):Prop :=
 ∃(o:Obj) (ó:Array Ã) (n:Nat),K.lookup a=fJ o/\o.cls=.type "list"/\o.dict=fK/\o.data=.seq ó n/\ó.size<=à/\iu xs ó.toList
mutual
inductive RV (K:Frag) (H:Hp):iG.Val->V->Prop
 |non:RV K H .non .non
 |bl (b:Bool):RV K H (.bl b)<|.bl b
 |int (i:Int):RV K H (.int i)<|.int i
 |str (s:String):RV K H (.str s)<|.str<|iO s
 |tup {xs:List iG.Val}{a:Í}{vs:List V}:(H a=fJ (.tup vs)\/KT K a vs)->RVs K H xs vs->RV K H (.tup xs) (.ref a)
 |ref (a:Í):RV K H (.ref a)<|.ref a
 |scr {ns:List Int}{a:Í}:((∃o,H a=fJ (.frz o<|.lst<|ns.map V.int))\/KL K a (ns.map V.int))->RV K H (.scr ns) (.ref a)
 |key {i j:Int}{a:Í}:H a=fJ (.tup [.int i,.int j])->RV K H (.key i j) (.ref a)
inductive RVs (K:Frag) (H:Hp):List iG.Val->List V->Prop
 |nil:RVs K H [] []
 |cons {v:iG.Val}{x:V}{vs:List iG.Val}{xs:List V}:RV K H v x->RVs K H vs xs->RVs K H (v::vs) (x::xs)
end
structure gj(H H':Hp):Prop where
 t:∀a xs,H a=fJ (.tup xs)->H' a=fJ (.tup xs)
 f:∀a o u,H a=fJ (.frz o u)->H' a=fJ (.frz o u)
def gj.refl(H:Hp):gj H H:=⟨λ_ _ e=>e,λ_ _ _ e=>e⟩
def gj.trans(a:gj H I)(b:gj I H2):gj H H2:=⟨λc xs e=>b.t c xs<|a.t c xs e,λc o u e=>b.f c o u<|a.f c o u e⟩
def gj.put(h:∀xs,H a≠fJ (.tup xs))(I:∀p u,H a≠fJ (.frz p u)):gj H<|upd H a o:=⟨λb xs e=>by
  rw[fN<|by rintro rfl;exact h xs e];exact e,λb p u e=>by rw[fN<|by rintro rfl;exact I p u e];exact e⟩
def gj.new(h:H a=fK):gj H<|upd H a o:=gj.put (λxs e=>by rw[h]at e;cases e) λp u e=>by rw[h]at e;cases e
variable {K:Frag}
mutual
theorem RV.keep(k:gj H H'):∀{v:iG.Val}{x:V},RV K H v x->RV K H' v x
 |_,_,.non=>.non
 |_,_,.bl b=>.bl b
 |_,_,.int i=>.int i
 |_,_,.str s=>.str s
 |_,_,.tup (.inl e) r=>.tup (.inl<|k.t _ _ e)<|RVs.keep k r
 |_,_,.tup (.inr e) r=>.tup (.inr e)<|RVs.keep k r
 |_,_,.ref a=>.ref a
 |_,_,.scr (.inl ⟨o,e⟩)=>.scr<|.inl ⟨o,k.f _ _ _ e⟩
 |_,_,.scr (.inr e)=>.scr<|.inr e
 |_,_,.key e=>.key<|k.t _ _ e
theorem RVs.keep(k:gj H H'):∀{vs:List iG.Val}{xs:List V},RVs K H vs xs->RVs K H' vs xs
 |_,_,.nil=>.nil
 |_,_,.cons r t=>.cons (RV.keep k r)<|RVs.keep k t
end
def RVs.length:∀{vs:List iG.Val}{xs:List V},RVs K H vs xs->vs.length=xs.length
 |_,_,.nil=>rfl
 |_,_,.cons _ t=>by rw[Ñ,Ñ,RVs.length t]
def RVs.get:∀{vs:List iG.Val}{xs:List V}{i:Nat}{v:iG.Val},RVs K H vs xs->vs[i]?=fJ v->∃x,xs[i]?=fJ x/\RV K H v x
 |_,_,_,_,.nil,e=>by simp at e
 |_,_,0,_,.cons r _,e=>by simp at e;subst e;exact⟨_,rfl,r⟩
 |_,_,i+1,v,.cons _ t,e=>by let⟨x,J,I⟩:=RVs.get (i:=i) (v:=v) t ⇑e;exact⟨x,⇑J,I⟩
def RVs.append:∀{vs us:List iG.Val}{xs ys:List V},RVs K H vs xs->RVs K H us ys->RVs K H (vs++us) (xs++ys)
 |_,_,_,_,.nil,h=>h
 |_,_,_,_,.cons r t,h=>.cons r<|RVs.append t h
def RVs.set(r:RV K H v x):∀{vs:List iG.Val}{xs:List V}(i:Nat),RVs K H vs xs->RVs K H (vs.set i v) (xs.set i x)
 |_,_,_,.nil=>.nil
 |_,_,0,.cons _ t=>.cons r t
 |_,_,i+1,.cons q t=>.cons q<|RVs.set r i t
def RVs.take:∀{vs:List iG.Val}{xs:List V}(n:Nat),RVs K H vs xs->RVs K H (vs.take n) (xs.take n)
 |_,_,0,_=>.nil
 |_,_,_+1,.nil=>.nil
 |_,_,n+1,.cons r t=>.cons r<|RVs.take n t
def RVs.drop:∀{vs:List iG.Val}{xs:List V}(n:Nat),RVs K H vs xs->RVs K H (vs.drop n) (xs.drop n)
 |_,_,0,r=>r
 |_,_,_+1,.nil=>.nil
 |_,_,n+1,.cons _ t=>RVs.drop n t
def RVs.eraseIdx:∀{vs:List iG.Val}{xs:List V}(i:Nat),RVs K H vs xs->RVs K H (vs.eraseIdx i) (xs.eraseIdx i)
 |_,_,_,.nil=>.nil
 |_,_,0,.cons _ t=>t
 |_,_,i+1,.cons q t=>.cons q<|RVs.eraseIdx i t
def Zo(h:H a=fJ (.tup vs)\/KT K a vs):ir K H a vs:=by
 rcases h with h|h
 .exact ir.of h
 .exact .inr h
structure Inf where
 K:Frag
 cl:String->Í->Prop
 ins:String->Bool
 xc:String->Í->Prop
abbrev Je:iG.Val->Key->Prop
 |.int i,.inl j=>i=j
 |.str s,.inr t=>t=iO s
 |_,_=>False
inductive RKs (K:Frag) (H:Hp):List (iG.Val×iG.Val)->List (Key×V)->Prop
 |nil:RKs K H [] []
 |cons {k v:iG.Val}{c:Key}{x:V}{kvs:List (iG.Val×iG.Val)}{ps:List (Key×V)}:Je k c->RV K H v x->RKs K H kvs ps->RKs K H ((k,v)::kvs) ((c,x)::ps)
inductive RFs (K:Frag) (H:Hp):List (String×iG.Val)->List (Str×V)->Prop
 |nil:RFs K H [] []
 |cons {f:String}{v:iG.Val}{x:V}{fs:List (String×iG.Val)}{ps:List (Str×V)}:RV K H v x->RFs K H fs ps->RFs K H ((f,v)::fs) ((iO f,x)::ps)
def RKs.keep(k:gj H H'):∀{kvs:List (iG.Val×iG.Val)}{ps:List (Key×V)},RKs K H kvs ps->RKs K H' kvs ps
 |_,_,.nil=>.nil
 |_,_,.cons a r t=>.cons a (r.keep k)<|RKs.keep k t
inductive RTs (K:Frag) (H:Hp):List (iG.Val×iG.Val)->List (List Key×V)->Prop
 |nil:RTs K H [] []
 |cons {i j:Int}{v:iG.Val}{x:V}{kvs:List (iG.Val×iG.Val)}{ps:List (List Key×V)}:RV K H v x->RTs K H kvs ps->RTs K H ((.key i j,v)::kvs) (([.inl i,.inl j],x)::ps)
def RTs.keep(k:gj H H'):∀{kvs:List (iG.Val×iG.Val)}{ps:List (List Key×V)},RTs K H kvs ps->RTs K H' kvs ps
 |_,_,.nil=>.nil
 |_,_,.cons r t=>.cons (r.keep k)<|RTs.keep k t
def RFs.keep(k:gj H H'):∀{fs:List (String×iG.Val)}{ps:List (Str×V)},RFs K H fs ps->RFs K H' fs ps
 |_,_,.nil=>.nil
 |_,_,.cons r t=>.cons (r.keep k)<|RFs.keep k t
abbrev RO(i:Inf)(H:Hp)(a:Í):iG.Ob->Prop
 |.lst xs=>∃I,H a=fJ (.lst I)/\RVs i.K H xs I
 |.dct kvs=>∃ps,H a=fJ (.dK ps)/\RKs i.K H kvs ps
 |.ins C fs=>∃c J ps,i.ins C=fL/\i.cl C c/\H a=fJ (.ins c J ps)/\RFs i.K H fs ps
 |.exc C=>∃c,i.xc C c/\H a=fJ (xcO a<|.ref c)
 |.frz kvs=>∃o ps,H a=fJ (.frz o<|.dK ps)/\RKs i.K H kvs ps
 |.dtp kvs=>∃ps,H a=fJ (.dT ps)/\RTs i.K H kvs ps
def RO.there{o:iG.Ob}(r:RO i H a o):∃u,H a=fJ u:=by
 cases o with
 |lst xs=>let⟨_,e,_⟩:=r;exact⟨_,e⟩
 |dct kvs=>let⟨_,e,_⟩:=r;exact⟨_,e⟩
 |ins C fs=>let⟨_,_,_,_,_,e,_⟩:=r;exact⟨_,e⟩
 |exc C=>let⟨_,_,e⟩:=r;exact⟨_,e⟩
 |frz kvs=>let⟨_,_,e,_⟩:=r;exact⟨_,e⟩
 |dtp kvs=>let⟨_,e,_⟩:=r;exact⟨_,e⟩
def RO.move{o:iG.Ob}(r:RO i H a o)(k:gj H H')(e:H' a=H a):RO i H' a o:=by
 cases o with
 |lst xs=>let⟨I,q,r⟩:=r;exact⟨I,e.trans q,r.keep k⟩
 |dct kvs=>let⟨ps,q,r⟩:=r;exact⟨ps,e.trans q,r.keep k⟩
 |ins C fs=>let⟨c,J,ps,h0,h,q,r⟩:=r;exact⟨c,J,ps,h0,h,e.trans q,r.keep k⟩
 |exc C=>let⟨c,h,q⟩:=r;exact⟨c,h,e.trans q⟩
 |frz kvs=>let⟨o,ps,q,r⟩:=r;exact⟨o,ps,e.trans q,r.keep k⟩
 |dtp kvs=>let⟨ps,q,r⟩:=r;exact⟨ps,e.trans q,r.keep k⟩
abbrev RH(i:Inf)(G:iG.Hs)(H:Hp):Prop:=∀a o,G a=fJ o->RO i H a o
def RH.free(r:RH i G H)(e:H a=fK):G a=fK:=by
 cases q:G a with
 |none=>rfl
 |some o=>let⟨u,z⟩:=(r a o q).there;rw[e]at z;cases z
def RH.put{o:iG.Ob}{u:HO}(r:RH i G H)(k:gj H<|upd H a u)(n:RO i (upd H a u) a o):RH i (iG.upd G a o)<|upd H a u:=λb p e=>by
 by_cases hb:b=a
 .subst hb;rw[iG.fO]at e;cases e;exact n
 .rw[iG.fN hb]at e;exact(r b p e).move k<|fN hb
def RH.hid(r:RH i G H)(k:gj H H')(e:∀a o,G a=fJ o->H' a=H a):RH i G H':=λb p q=>(r b p q).move k (e b p q)
structure REn(K:Frag)(H:Hp)(env:iG.Env)(σ:St):Prop where
 len:env.length=σ.length
 get:∀(i:Nat) (v:iG.Val),env[i]?=fJ (fJ v)->∃x,σ[i]?=fJ (fJ x)/\RV K H v x
def REn.keep(r:REn K H env σ)(k:gj H H'):REn K H' env σ:=⟨r.len,λi v e=>by
  let⟨x,J,I⟩:=r.get i v e
  exact⟨x,J,I.keep k⟩⟩
def REn.set(r:REn K H env σ)(q:RV K H v x)(j:Nat):REn K H (env.set j<|fJ v)<|σ.set j<|fJ x:=⟨by simp[r.len],λi u e=>by
  by_cases I:j=i
  . subst I
    rw[List.getElem?_set_self']at e
    cases z:env[j]? with
    |none=>rw[z]at e;cases e
    |some w =>
      rw[z]at e
      cases e
      have J:j<σ.length:=by rw[<-r.len];exact(Ô.mp z).1
      exact⟨x,ϒ J,q⟩
  . rw[Α I]at e
    let⟨y,U,R⟩:=r.get i u e
    exact⟨y,by rw[Α I];exact U,R⟩⟩
def REn.start(r:RVs K H vs xs):REn K H (vs.map fJ++ß n fK)<|xs.map fJ++ß n fK:=⟨by simp[r.length],λi v e=>by
  by_cases hi:i<vs.length
  . rw[Ď ⇑hi,Ø]at e
    cases z:vs[i]? with
    |none=>rw[z]at e;cases e
    |some w =>
      rw[z]at e
      cases e
      let⟨x,J,I⟩:=r.get z
      exact⟨x,by rw[Ď (by rw[Á,<-r.length];exact hi),Ø,J];rfl,I⟩
  . rw[Ĕ ⇑hi,ő]at e
    split at e<;>cases e⟩
def RVs.ints{K:Frag}:∀ns:List Int,RVs K H (ns.map iG.Val.int) (ns.map V.int)
 |[]=>.nil
 |n::ns=>.cons (.int n)<|RVs.ints ns
def Z7{ns:List Int}(h:(∃o,H a=fJ (.frz o<|.lst<|ns.map V.int))\/KL K a (ns.map V.int)):iq K H a<|ns.map V.int:=by
 rcases h with⟨o,h⟩|h
 .exact .inl<|.inr ⟨o,h⟩
 .exact .inr h
abbrev XK1(i:Inf)(H:Hp)(J:iG.XQ):XK:=λcls _ H'=>∃c I ad,cls=.ref ad/\i.xc c ad/\gj H H'/\RH i I H'/\J c I
abbrev XOk(X:Cx)(i:Inf)(H:Hp)(I:iG.XQ):Prop:=XW X<|XK1 i H I
def XK1.go(k:gj H H1)(h:XK1 i H1 Em cls d H'):XK1 i H Em cls d H':=by let⟨c,J,ad,e,q,I,r,m⟩:=h;exact⟨c,J,ad,e,q,k.trans I,r,m⟩
def XOk.go(x:XOk X i H Em)(k:gj H H1):XOk X i H1 Em:=λJ σ U s H' a cls R I f e=>x J σ U s H' a cls R I f (e.go k)
structure Pre(X:Cx)(i:Inf)(σ:St)(H:Hp)(env:iG.Env)(G:iG.Hs)(Em:iG.XQ):Prop where
 en:REn i.K H env σ
 hp:RH i G H
 xo:XOk X i H Em
def Pre.go(p:Pre X i σ H env G Em)(k:gj H H1)(r:RH i I H1):Pre X i σ H1 env I Em:=⟨p.en.keep k,r,p.xo.go k⟩
abbrev Cn(i:Inf)(H:Hp)(Q:VK)(J:iG.Q1):Prop:=∀v I H' x,gj H H'->RH i I H'->RV i.K H' v x->J v I->Q x H'
def Cn.go(c:Cn i H Q Qm)(k:gj H H1):Cn i H1 Q Qm:=λv J H' x I=>c v J H' x (k.trans I)
inductive tEx (X:Cx) (i:Inf) (Φ:iG.Fs) (m:iG.E) (σ:St) (H:Hp) (Q:VK):Prop
 |mk (env:iG.Env) (G:iG.Hs) (Qm:iG.Q1) (Em:iG.XQ) (p:Pre X i σ H env G Em) (w:iG.wE Φ m env G Qm Em) (c:Cn i H Q Qm)
abbrev tE(X:Cx)(i:Inf)(Φ:iG.Fs)(m:iG.E):TE:=tEx X i Φ m
inductive tArx (X:Cx) (i:Inf) (Φ:iG.Fs) (ms:iG.Es) (n:Nat) (σ:St) (H:Hp) (Q:List V->Hp->Prop):Prop
 |mk (env:iG.Env) (G:iG.Hs) (Qm:List iG.Val->iG.Hs->Prop) (Em:iG.XQ) (p:Pre X i σ H env G Em) (w:iG.wA Φ ms env G Qm Em) (c:∀vs G' H' xs,gj H H'->RH i G' H'->RVs i.K H' vs xs->xs.length=n->Qm vs G'->Q xs H')
abbrev tAr(X:Cx)(i:Inf)(Φ:iG.Fs)(ms:iG.Es)(n:Nat):TA:=tArx X i Φ ms n
inductive tTtx (X:Cx) (i:Inf) (Φ:iG.Fs) (m:iG.Tt) (σ:St) (H:Hp) (Q:Bool->Hp->Prop):Prop
 |mk (env:iG.Env) (G:iG.Hs) (Qm:Bool->iG.Hs->Prop) (Em:iG.XQ) (p:Pre X i σ H env G Em) (w:iG.wT Φ m env G Qm Em) (c:∀b G' H',gj H H'->RH i G' H'->Qm b G'->Q b H')
abbrev tTt(X:Cx)(i:Inf)(Φ:iG.Fs)(m:iG.Tt):TT:=tTtx X i Φ m
variable {e:Expr}
def _root_.L2.PE.imp(h:PE X e t)(f:∀σ H Q,t' σ H Q->t σ H Q):PE X e t':=λJ s σ H Q I q=>h J s σ H Q I (f σ H Q q)
def _root_.L2.PT.imp(h:PT X e t)(f:∀σ H Q,t' σ H Q->t σ H Q):PT X e t':=λJ s σ H Q I q=>h J s σ H Q I (f σ H Q q)
def _root_.L2.PW.imp(h:PW X e t)(f:∀σ H Q,t' σ H Q->t σ H Q):PW X e t':=λR J s σ H Q I q=>h R J s σ H Q I (f σ H Q q)
def _root_.L2.PA.imp{t t':TA}(h:PA X es t)(f:∀σ H Q,t' σ H Q->t σ H Q):PA X es t':=λJ R s σ H Q I q=>h J R s σ H Q I (f σ H Q q)
variable {j:Nat}
def RC{env:iG.Env}{h:iG.Hs}{Q:iG.Q1}{E:iG.XQ}:(iG.wE Φ (.var j) env h Q E)=(iG.go (iG.getV env j) λv=>Q v h):=rfl
def fQ{α:Type}{o:Option α}{k:α->Prop}(h:iG.go o k):∃a,o=fJ a/\k a:=by
 cases o with
 |none=>simp at h
 |some a=>exact⟨a,rfl,⇑h⟩
def BH(h:iG.getV env j=fJ v):env[j]?=fJ (fJ v):=by
 unfold iG.getV at h;split at h
 .rename_i u e;cases h;exact e
 .cases h
variable {í:Pos}
def Sm(J:X.N[j]?=fJ x)(I:Vis X.env.scope x)(hd:(x==("__debug__" : Str))=fM)(b:(x==("__classdict__" : Str))=fM):PE X (.Name x í) (tE X i Φ<|.var j) :=
 (EN J I hd b).imp λσ H Q ⟨env,G,Qm,Em,p,w,c⟩=>by rw[RC]at w;let⟨v,e,q⟩:=fQ w;let⟨y,U,R⟩:=p.en.get j v<|BH e;exact⟨y,U,c v G H y (gj.refl H) p.hp R q⟩
def Jk(h:PE X e<|tC x)(r:∀H,RV i.K H v x):PE X e (tE X i Φ<|.cst v) :=
 h.imp λσ H Q ⟨env,G,Qm,Em,p,w,c⟩=>by exact c v G H x (gj.refl H) p.hp (r H) w
def Qn(h:PE X e<|tC x)(r:∀H,RV i.K H v x):PE X e (tE X i Φ<|.glob y v) :=
 h.imp λσ H Q ⟨env,G,Qm,Em,p,w,c⟩=>by exact c v G H x (gj.refl H) p.hp (r H) w
variable {a:iG.E}
def two{b:iG.E}{env:iG.Env}{F:iG.Val->iG.Val->iG.Hs->Prop}{R:V->V->Hp->Prop}(p:Pre X i σ H env G Em)
  (w:iG.wE Φ a env G (λv c=>iG.wE Φ b env c (λu I=>F v u I) Em) Em)
  (h:∀v u I H2 x y,gj H H2->Pre X i σ H2 env I Em->RV i.K H2 v x->RV i.K H2 u y->F v u I->R x y H2):tE X i Φ a σ H λx H1=>tE X i Φ b σ H1 λy H2=>R x y H2 :=
 ⟨env,G,_,Em,p,w,λv c H1 x U g1 r1 f=>⟨env,c,_,Em,p.go U g1,f,λu I H2 y J g2 k d=>h v u I H2 x y (U.trans J) ((p.go U g1).go J g2) (r1.keep J) k d⟩⟩
def one{env:iG.Env}{F:iG.Val->iG.Hs->Prop}{R:V->Hp->Prop}(p:Pre X i σ H env G Em)
  (w:iG.wE Φ a env G (λv I=>F v I) Em) (h:∀v I H1 x,gj H H1->Pre X i σ H1 env I Em->RV i.K H1 v x->F v I->R x H1):tE X i Φ a σ H λx H1=>R x H1 :=
 ⟨env,G,_,Em,p,w,λv I H1 x J g1 r1 U=>h v I H1 x J (p.go J g1) r1 U⟩
abbrev JG(i:Inf)(op:iG.Bop)(r:R2):Prop:=∀(v u:iG.Val) (G:iG.Hs) (H:Hp) (x y:V) (Q:VK) (Qm:iG.Q1),RH i G H->RV i.K H v x->RV i.K H u y->(iG.binV G op v u).wp G Qm->Cn i H Q Qm->r x y H Q
variable {b:Expr}{r:R2}
def Ml{a:Expr}(k:OpR X (Ŏ op) r)(f:JG i I r)(ha:PE X a<|tE X i Φ ma)(hb:PE X b<|tE X i Φ mb):PE X (.BinOp a op b í) (tE X i Φ<|.bin I ma mb) :=
 (Sd k ha hb).imp λσ H Q ⟨env,G,Qm,Em,p,w,c⟩=>by exact two p w λv u m l x y d U R J q=>f v u m l x y Q Qm U.hp R J q<|c.go d
abbrev Z6(i:Inf)(op:iG.Cop)(r:R2):Prop:=∀(v u:iG.Val) (G:iG.Hs) (H:Hp) (x y:V) (c:Bool) (Q:VK),RH i G H->RV i.K H v x->RV i.K H u y->iG.f8 G op v u=fJ c->Q (.bl c) H->r x y H Q
def Ro{a:Expr}(m:OpR X (î op) r)(l:Z6 i cop r)(ha:PE X a<|tE X i Φ ma)(hb:PE X b<|tE X i Φ mb)(hm:Ń op b=fM):PE X (.Compare a [op] [b] í) (tE X i Φ<|.cmp cop ma mb) :=
 (AQ m ha hb hm).imp λσ H Q ⟨env,G,Qm,Em,p,w,c⟩=>by
  exact two p w λv u R J x y k I f U q=>by let⟨d,e,q⟩:=fQ q;exact l v u R J x y d Q I.hp f U e<|c (.bl d) R J (.bl d) k I.hp (.bl d) q
def Pq{a:Expr}(m:OpR X (î op) r)(l:Z6 i cop r)(ha:PE X a<|tE X i Φ ma)(hb:PE X b<|tE X i Φ mb)(hm:Ń op b=fM):PT X (.Compare a [op] [b] í) (tTt X i Φ<|.val<|.cmp cop ma mb) :=
 (AJ m ha hb hm).imp λσ H Q ⟨env,G,Qm,Em,p,w,c⟩=>by
  exact two p w λv u R J x y k I f U q=>by let⟨d,e,q⟩:=fQ q;let⟨t,s,q⟩:=fQ q;cases s;exact l v u R J x y d _ I.hp f U e ⟨d,rfl,c d R J k I.hp q⟩
def WZ{b:Bool}(h:iG.iD v=fJ b):v=.bl b:=by cases v<;>simp_all [iG.iD]
def ZC{b:Int}(h:iG.iC v=fJ b):v=.int b:=by cases v<;>simp_all [iG.iC]
def X6{v:iG.Val}{b:iG.Ad}(h:iG.gP v=fJ b):v=.ref b:=by cases v<;>simp_all [iG.gP]
def RV.bl_inv{K:Frag}{b:Bool}(r:RV K H (.bl b) x):x=.bl b:=by cases r;rfl
def RV.int_inv{K:Frag}{b:Int}(r:RV K H (.int b) x):x=.int b:=by cases r;rfl
def RV.ref_inv{K:Frag}{b:Í}(r:RV K H (.ref b) x):x=.ref b:=by cases r;rfl
def RV.str_inv{K:Frag}{b:String}(r:RV K H (.str b) x):x=.str (iO b):=by cases r;rfl
def RV.non_inv{K:Frag}(r:RV K H .non x):x=.non:=by cases r;rfl
def SF{a:Expr}(ha:PE X a<|tE X i Φ ma):PE X (.UnaryOp .Not a í) (tE X i Φ<|.not ma) :=
 (L3 ha).imp λσ H Q ⟨env,G,Qm,Em,p,w,c⟩=>by
  exact one p w λv U H1 x R J r q=>by let⟨b,e,I⟩:=fQ q;clear q;cases WZ e;exact⟨b,r.bl_inv,c _ U H1 _ R J.hp (.bl _) I⟩
def Sj{a:Expr}(ha:PE X a<|tE X i Φ ma):PE X (.UnaryOp .USub a í) (tE X i Φ<|.neg ma) :=
 (SM Qd ha).imp λσ H Q ⟨env,G,Qm,Em,p,w,c⟩=>by
  exact one p w λv U H1 x R J r q=>by let⟨b,e,I⟩:=fQ q;clear q;cases ZC e;exact⟨b,r.int_inv,c _ U H1 _ R J.hp (.int _) I⟩
def RG{a:Expr}{rest:List Expr}(ha:PE X a<|tE X i Φ ma)(hb:PE X (.BoolOp .And (b::rest) í)<|tE X i Φ mb):PE X (.BoolOp .And (a::b::rest) í) (tE X i Φ<|.and ma mb) :=
 (LW ha hb).imp λσ H Q ⟨env,G,Qm,Em,p,w,c⟩=>by
  exact one p w λv U H1 x R J r q=>by
   let⟨d,e,I⟩:=fQ q;clear q;cases WZ e;refine⟨d,r.bl_inv,?_⟩;cases d with
   |true=>exact⟨env,U,Qm,Em,J,⇑I,c.go R⟩
   |false=>simp at I ⊢;exact c _ U H1 _ R J.hp (.bl _) I
def Va{a:Expr}{rest:List Expr}(ha:PE X a<|tE X i Φ ma)(hb:PE X (.BoolOp .Or (b::rest) í)<|tE X i Φ mb):PE X (.BoolOp .Or (a::b::rest) í) (tE X i Φ<|.or ma mb) :=
 (Sk ha hb).imp λσ H Q ⟨env,G,Qm,Em,p,w,c⟩=>by
  exact one p w λv U H1 x R J r q=>by
   let⟨d,e,I⟩:=fQ q;clear q;cases WZ e;refine⟨d,r.bl_inv,?_⟩;cases d with
   |false=>exact⟨env,U,Qm,Em,J,⇑I,c.go R⟩
   |true=>simp at I ⊢;exact c _ U H1 _ R J.hp (.bl _) I
def QR{a:Expr}{ma:iG.Tt}(ha:PT X a<|tTt X i Φ ma):PT X (.UnaryOp .Not a í) (tTt X i Φ<|.not ma) :=
 (LD ha).imp λσ H Q ⟨env,G,Qm,Em,p,w,c⟩=>by exact⟨env,G,_,Em,p,w,λb J H1 I g1 q=>c (!b) J H1 I g1 q⟩
def Ph{a:Expr}{rest:List Expr}{ma mb:iG.Tt}(ha:PT X a<|tTt X i Φ ma)(hb:PW X (.BoolOp .And (b::rest) í)<|tTt X i Φ mb):PW X (.BoolOp .And (a::b::rest) í) (tTt X i Φ<|.and ma mb) :=
 (QU ha hb).imp λσ H Q ⟨env,G,Qm,Em,p,w,c⟩=>by
  refine⟨env,G,_,Em,p,w,λd J H1 I g1 q=>?_⟩;cases d with
  |true=>exact⟨env,J,Qm,Em,p.go I g1,⇑q,λb f U R=>c b f U<|I.trans R⟩
  |false=>simp at q ⊢;exact c fM J H1 I g1 q
def Sw{a:Expr}{rest:List Expr}{ma mb:iG.Tt}(ha:PT X a<|tTt X i Φ ma)(hb:PW X (.BoolOp .Or (b::rest) í)<|tTt X i Φ mb):PW X (.BoolOp .Or (a::b::rest) í) (tTt X i Φ<|.or ma mb) :=
 (Rf ha hb).imp λσ H Q ⟨env,G,Qm,Em,p,w,c⟩=>by
  refine⟨env,G,_,Em,p,w,λd J H1 I g1 q=>?_⟩;cases d with
  |false=>exact⟨env,J,Qm,Em,p.go I g1,⇑q,λb f U R=>c b f U<|I.trans R⟩
  |true=>simp at q ⊢;exact c fL J H1 I g1 q
def Iz{a:Expr}{ma:iG.Tt}(ha:PT X a<|tTt X i Φ ma):PW X (.BoolOp .And [a] í)<|tTt X i Φ ma:=FI ha
def Q5{a:Expr}{ma:iG.Tt}(ha:PT X a<|tTt X i Φ ma):PW X (.BoolOp .Or [a] í)<|tTt X i Φ ma:=Qv ha
def R6{c a:Expr}(R:PT X c<|tTt X i Φ mc)(ha:PE X a<|tE X i Φ ma)(hb:PE X b<|tE X i Φ mb):PE X (.IfExp c a b í) (tE X i Φ<|.ife mc ma mb) :=
 (DZ R ha hb).imp λσ H Q ⟨env,G,Qm,Em,p,w,c⟩=>by
  refine⟨env,G,_,Em,p,w,λd J H1 I g1 q=>?_⟩;cases d with
  |true=>exact⟨env,J,Qm,Em,p.go I g1,⇑q,c.go I⟩
  |false=>exact⟨env,J,Qm,Em,p.go I g1,⇑q,c.go I⟩
def Qu:PA X []<|tAr X i Φ .nil 0:=im.imp λσ H Q ⟨env,G,Qm,Em,p,w,c⟩=>by exact c [] G H [] (gj.refl H) p.hp .nil rfl w
def GJ(he:PE X e<|tE X i Φ m)(I:PA X es<|tAr X i Φ ms n)(l:Þ (e::es) X.env=(fM,eval e X.env)::Þ es X.env):PA X (e::es) (tAr X i Φ (.cons m ms)<|n+1) :=
 (ZK he I l).imp λσ H Q ⟨env,G,Qm,Em,p,w,c⟩=>by exact⟨env,G,_,Em,p,w,λv t H1 x R g1 r1 d=>⟨env,t,_,Em,p.go R g1,d,λf s q xs J g2 k hn U=>c (v::f) s q (x::xs) (R.trans J) g2 (.cons (r1.keep J) k) (by rw[Ñ,hn]) U⟩⟩
def Yj:iG.lim<=à:=by decide
def Z2{o:iG.Ob}{u:HO}(g:RH i G H)(w:iG.new G o Qm)(c:Cn i H Q Qm)(r:∀p,H p=fK->RO i (upd H p u) p o):∀p,H p=fK->Q (.ref p) (upd H p u):=λp hp=>by unfold iG.new at w;exact c (.ref p) _ _ (.ref p) (gj.new hp) (g.put (gj.new hp)<|r p hp) (.ref p) (w p<|g.free hp)
mutual
noncomputable def toD:iG.D->Ϻ
 |.non=>.none
 |.bl b=>.bool b
 |.int i=>.int i
 |.str s=>.str<|iO s
 |.tup ds=>.tuple<|toDs ds
 |.lst ds=>.list<|toDs ds
noncomputable def toDs:List iG.D->List Ϻ
 |[]=>[]
 |d::ds=>toD d::toDs ds
end
def ofS_inj:iO s=iO t↔s=t:=by
 constructor
 .intro h;rw[Str.ofString_eq_toList,Str.ofString_eq_toList]at h;injection h with h;have I:s.toList.map Ş=t.toList.map Ş:=by simpa using congrArg cg h
  have inj:∀{a b:Char},a.toNat=b.toNat->a=b:=λ{a b} e=>Char.ext<|bX e;have:s.toList=t.toList:=by
   revert I;generalize s.toList=a;generalize t.toList=b;intro I;induction a generalizing b with
   |nil=>cases b with
    |nil=>rfl
    |cons _ _=>cases I
   |cons x xs ih=>cases b with
    |nil=>cases I
    |cons y ys =>simp![Ò,dD]at I;rw[inj I.1,ih _ I.2]
  exact String.toList_inj.mp this
 .rintro rfl;rfl
def Iv(s t:String):(iO s==iO t)=(s==t):=by
 by_cases e:s=t
 .subst e;simp
 .have:iO s≠iO t:=λz=>e<|ofS_inj.mp z;rw[beq_eq_false_iff_ne.mpr this,beq_eq_false_iff_ne.mpr e]
def Bg(s:String):PyData.strOk (iO s)=fL:=by
 rw[Str.ofString_eq_toList];unfold PyData.strOk;rw[Array.all_eq_true'];intro n hn;have:n∈s.toList.map Ş:=⇑hn
 let⟨c,_,rfl⟩:=Ü.mp this;have:=c.valid;have I:c.toNat=c.val.toNat:=rfl;simp![UInt32.isValidChar,Nat.isValidChar]at this;simp![iL];lia
mutual
theorem MS:∀d e:iG.D,ĭ (toD d) (toD e)=iG.D.eqv d e
 |.non,e=>by cases e<;>simp[toD,ĭ,iG.D.eqv]
 |.bl _,e=>by cases e<;>simp[toD,ĭ,iG.D.eqv]
 |.int _,e=>by cases e<;>simp[toD,ĭ,iG.D.eqv]
 |.str s,e=>by cases e<;>simp![toD,ĭ,iG.D.eqv];exact Iv _ _
 |.tup ds,e=>by cases e<;>simp![toD,ĭ,iG.D.eqv];exact toDs_eqv _ _
 |.lst ds,e=>by cases e<;>simp![toD,ĭ,iG.D.eqv];exact toDs_eqv _ _
theorem toDs_eqv:∀ds es:List iG.D,Χ (toDs ds) (toDs es)=iG.D.eqvs ds es
 |[],[]=>by simp[toDs,Χ,iG.D.eqvs]
 |[],_::_=>by simp[toDs,Χ,iG.D.eqvs]
 |_::_,[]=>by simp[toDs,Χ,iG.D.eqvs]
 |d::ds,e::es=>by simp![toDs,Χ,iG.D.eqvs,MS d e,toDs_eqv ds es]
end
mutual
theorem Na:∀d:iG.D,(toD d).canLay0=fL
 |.non=>by simp[toD,Ŵ]
 |.bl _=>by simp[toD,Ŵ]
 |.int _=>by simp[toD,Ŵ]
 |.str s=>by simp![toD,Ŵ];exact Bg s
 |.tup ds=>by simp![toD,Ŵ];exact toDs_lay ds
 |.lst ds=>by simp![toD,Ŵ];exact toDs_lay ds
theorem toDs_lay:∀ds:List iG.D,ŕ (toDs ds)=fL
 |[]=>by simp[toDs,ŕ]
 |d::ds=>by simp![toDs,ŕ,Na d,toDs_lay ds,bW]
end
section
def AV{α β:Type}{f:α->Option β}:∀{xs:List α}{ys:List β},xs.mapM f=fJ ys->List.length xs=ys.length/\∀(n:Nat) (x:α),xs[n]?=fJ x->∃y,ys[n]?=fJ y/\f x=fJ y:=by
 intro xs;induction xs with
 |nil=>intro ys h;simp at h;subst h;exact⟨rfl,λn x e=>by simp at e⟩
 |cons a as ih =>
  intro ys h;rw[ş]at h;cases e:f a with
  |none=>rw[e]at h;simp at h
  |some b =>
   rw[e]at h;cases e2:as.mapM f with
   |none=>rw[e2]at h;simp at h
   |some bs =>
    rw[e2]at h;simp at h;subst h;let⟨J,I⟩:=ih e2;refine⟨by simp[J],λn x hn=>?_⟩;cases n with
    |zero=>simp at hn;subst hn;exact⟨b,rfl,e⟩
    |succ n=>simp at hn ⊢;exact I n x hn
def Ai{K:Frag}(hf:∀v d x,f v=fJ d->RV K H v x->IsD K H x (toD d)):∀{vs:List iG.Val}{xs:List V}{ds:List iG.D},vs.mapM f=fJ ds->RVs K H vs xs->IsDs K H xs (toDs ds):=by
 intro vs;induction vs with
 |nil=>intro xs ds h r;simp at h;subst h;cases r;exact .nil
 |cons a as ih =>
  intro xs ds h r;rw[ş]at h;cases e:f a with
  |none=>rw[e]at h;simp at h
  |some b =>
   rw[e]at h;cases e2:as.mapM f with
   |none=>rw[e2]at h;simp at h
   |some bs =>
    rw[e2]at h;simp at h;subst h;cases r with
    |cons r1 r2=>exact .cons (hf a b _ e r1)<|ih e2 r2
def Zy(g:RH i G H){a:Í}{xs:List iG.Val}(e:iG.fY (G a)=fJ xs):∃vs,iq i.K H a vs/\RVs i.K H xs vs:=by
 cases q:G a with
 |none=>rw[q]at e;cases e
 |some o =>
  rw[q]at e;cases o with
  |lst ys=>cases e;let⟨vs,h,r⟩:=g a _ q;exact⟨vs,iq.of h,r⟩
  |dct _=>cases e
  |ins _ _=>cases e
  |exc _=>cases e
  |frz _=>cases e
  |dtp _=>cases e
def Mr:∀ns:List Int,toDs (ns.map iG.D.int)=ns.map PyData.int
 |[]=>by simp[toDs]
 |n::ns=>by simp![Ò,toDs,toD,Mr ns]
def Wo(g:RH i G H):∀(n:Nat) (v:iG.Val) (d:iG.D) (x:V),iG.dat G n v=fJ d->RV i.K H v x->IsD i.K H x (toD d):=by
 intro n;induction n with
 |zero =>
  intro v d x e r;cases v with
  |non=>cases r;simp[iG.dat]at e;subst e;rw[toD];exact .non
  |bl b=>cases r;simp[iG.dat]at e;subst e;rw[toD];exact .bl b
  |int b=>cases r;simp[iG.dat]at e;subst e;rw[toD];exact .int b
  |str s=>cases r;simp[iG.dat]at e;subst e;rw[toD];exact .str _
  |tup xs=>simp[iG.dat]at e
  |ref a=>simp[iG.dat]at e
  |scr ns=>simp[iG.dat]at e
  |key _ _=>simp[iG.dat]at e
 |succ n ih =>
  intro v d x e r;cases v with
  |non=>cases r;simp[iG.dat]at e;subst e;rw[toD];exact .non
  |bl b=>cases r;simp[iG.dat]at e;subst e;rw[toD];exact .bl b
  |int b=>cases r;simp[iG.dat]at e;subst e;rw[toD];exact .int b
  |str s=>cases r;simp[iG.dat]at e;subst e;rw[toD];exact .str _
  |tup xs =>
   rw[iG.dat]at e;cases z:xs.mapM (iG.dat G n)with
   |none=>rw[z]at e;cases e
   |some ds =>
    rw[z]at e;cases e;cases r with
    |tup hp hr=>rw[toD];exact .tup (Zo hp)<|Ai ih z hr
  |ref a =>
   rw[iG.dat]at e;cases q:iG.fY (G a)with
   |none=>rw[q]at e;cases e
   |some xs =>
    rw[q]at e;simp![ê]at e;cases z:xs.mapM (iG.dat G n)with
    |none=>rw[z]at e;cases e
    |some ds =>rw[z]at e;cases e;cases r.ref_inv;let⟨R,J,I⟩:=Zy g q;rw[toD];exact .lst J<|Ai ih z I
  |scr ns =>
   simp[iG.dat]at e;subst e;cases r with
   |scr h =>rw[toD,Mr];exact .lst (Z7 h)<|IsDs.ints ns
  |key _ _=>simp[iG.dat]at e
def XY:∀{ds:List iG.D},(∀d∈ds,(toD d).depth<=n)->Ņ (toDs ds)<=n
 |[],_=>by rw[toDs];simp[Ņ]
 |d::ds,h=>by rw[toDs];simp![Ņ];exact Nat.max_le.mpr ⟨h d (by simp),XY λe he=>h e<|by simp[he]⟩
def Mj:∀(n:Nat) (v:iG.Val) (d:iG.D),iG.dat G n v=fJ d->(toD d).depth<=n:=by
 have sc:∀(n:Nat) (v:iG.Val) (d:iG.D),(∀xs,v≠.tup xs)->(∀a,v≠.ref a)->(∀ns,v≠.scr ns)->iG.dat G n v=fJ d->(toD d).depth<=n:=by
  intro n v d R J l e;cases v with
  |tup xs=>exact iM rfl<|R xs
  |ref a=>exact iM rfl<|J a
  |scr ns=>exact iM rfl<|l ns
  |key _ _=>cases n<;>simp[iG.dat]at e
  |_=>simp[iG.dat]at e;subst e;simp[toD,PyData.depth]
 have ms:∀(n:Nat),(∀v d,iG.dat G n v=fJ d->(toD d).depth<=n)->∀(xs:List iG.Val) (ds:List iG.D),xs.mapM (iG.dat G n)=fJ ds->Ņ (toDs ds)<=n:=by
  intro n I xs ds z;refine XY λd hd=>?_;let⟨k,c⟩:=cT.mp hd;let⟨R,J⟩:=AV z;have f:k<xs.length:=by rw[R];exact(Ô.mp c).1
  let⟨y,U,hf⟩:=J k xs[k]<|É f;rw[c]at U;cases U;exact I _ _ hf
 intro n;induction n with
 |zero =>
  intro v d e;cases v with
  |tup xs=>simp[iG.dat]at e
  |ref a=>simp[iG.dat]at e
  |scr ns=>simp[iG.dat]at e
  |_=>exact sc 0 _ d (by simp) (by simp) (by simp) e
 |succ n I =>
  intro v d e;cases v with
  |tup xs =>
   rw[iG.dat]at e;cases z:xs.mapM (iG.dat G n)with
   |none=>rw[z]at e;cases e
   |some ds =>rw[z]at e;cases e;rw[toD];exact ς<|ms n I xs ds z
  |ref a =>
   rw[iG.dat]at e;cases q:iG.fY (G a)with
   |none=>rw[q]at e;cases e
   |some xs =>
    rw[q]at e;simp![ê]at e;cases z:xs.mapM (iG.dat G n)with
    |none=>rw[z]at e;cases e
    |some ds =>rw[z]at e;cases e;rw[toD];exact ς<|ms n I xs ds z
  |scr ns =>simp[iG.dat]at e;subst e;rw[toD];refine ς<|Ù ?_<|ė n;refine XY λd hd=>?_;let⟨m,_,rfl⟩:=Ü.mp hd;simp[toD,PyData.depth]
  |_=>exact sc (n+1) _ d (by simp) (by simp) (by simp) e
def JZ(e:iG.dat G iG.deep v=fJ d):SeqAt.shaped (toD d)=fL:=by show((toD d).canLay0&&iN ((toD d).depth<=64))=fL;rw[Na,iK<|Ù (Mj _ _ _ e)<|by decide];rfl
def UZ(g:RH i G H)(J:RV i.K H v x)(I:RV i.K H u y)(e:iG.eqV G v u=fJ c):∃d d',IsD i.K H x d/\IsD i.K H y d'/\SeqAt.shaped d=fL/\SeqAt.shaped d'=fL/\ĭ d d'=c:=by
 unfold iG.eqV at e;cases z:iG.dat G iG.deep v with
 |none=>rw[z]at e;cases e
 |some d =>
  cases z2:iG.dat G iG.deep u with
  |none=>rw[z,z2]at e;cases e
  |some d' =>rw[z,z2]at e;cases e;exact⟨_,_,Wo g _ _ _ _ z J,Wo g _ _ _ _ z2 I,JZ z,JZ z2,MS d d'⟩
def Tg:Z6 i .eq<|Sf i.K:=by walk_at "E";let⟨d,f,c,U,R,J,I⟩:=UZ g rx ry e;exact⟨d,f,c,U,R,J,by rw[I];exact q⟩
def S9:Z6 i .ne<|RK i.K:=by
 walk_at "E";have e:(iG.eqV G v u).map (!·)=fJ c:=e;cases z:iG.eqV G v u with
 |none=>rw[z]at e;cases e
 |some b =>rw[z]at e;cases e;let⟨d,k,f,U,R,J,I⟩:=UZ g rx ry z;exact⟨d,k,f,U,R,J,by rw[I];exact q⟩
end
def ZG(s:String):(iO s).length=s.length:=by rw[Str.ofString_eq_toList];show(List.map Ş s.toList).toArray.size=_;rw[Î,Á];first|rfl|exact cF
def Hi(s t:String):iO (s++t)=iO s++iO t:=by rw[Str.ofString_eq_toList,Str.ofString_eq_toList,Str.ofString_eq_toList];show _=Str.append _ _;unfold Str.append;simp
def Bp{o:Option iG.Ob}(h:iG.fY o=fJ xs):o=fJ (.lst xs):=by
 cases o with
 |none=>cases h
 |some o=>cases o with
  |lst ys=>cases h;rfl
  |_=>cases h
variable {p:Prop}
def Zl{α:Type}[Decidable p]{o:Option α}{a:α}(e:(if p then o else fK)=fJ a):p/\o=fJ a:=by
 by_cases q:p
 .rw[iH q]at e;exact⟨q,e⟩
 .rw[iI q]at e;cases e
def Zi(w:iG.Rs.no.wp h Q):False:=by rw[iG.Rs.wp_no]at w;exact w
def Zq(w:(iG.Rs.val v).wp h Q):Q v h:=by rw[iG.Rs.wp_val]at w;exact w
def W0{o:iG.Ob}(w:(iG.Rs.new o).wp h Q):iG.new h o Q:=by rw[iG.Rs.wp_new]at w;exact w
def Wr[Decidable p]{r:iG.Rs}(w:(if p then r else .no).wp h Q):p/\r.wp h Q:=by
 by_cases e:p
 .rw[iH e]at w;exact⟨e,w⟩
 .rw[iI e]at w;exact(Zi w).elim
variable {u:iG.Val}
def XF(w:(iG.intV f v u).wp h Q):∃i j,v=.int i/\u=.int j/\(f i j).wp h Q:=by
 cases v with
 |int i=>cases u with
  |int j=>exact⟨i,j,rfl,rfl,w⟩
  |_=>exact(Zi w).elim
 |_=>exact(Zi w).elim
abbrev Lo(K:Frag):R2:=λx y H Q=>(rI0 λi j=>.int<|i+j) x y H Q\/(((IH K x y H Q\/Lg K x y H Q)\/S4 x y H Q)\/∃i j,x=.str i/\y=.str j/\i.length+j.length<=à/\Q (.str<|i++j) H)
def SB:OpR X (Ŏ .Add)<|Lo X.K:=op_add.or (((op_cat0.or Hy).or LQ).or O9)
def b_add:JG i .add<|Lo i.K:=by
 intro v u G H x y Q Qm g R J w c;cases v<;>cases u<;>first|exact(Zi w).elim|skip
 case int.int a b =>
  replace w:=Zq w
  exact .inl ⟨a,b,R.int_inv,J.int_inv,c _ G H _ (gj.refl H) g (.int _) w⟩
 case str.str a b =>
  let⟨h,w⟩:=Wr w
  replace w:=Zq w
  refine .inr<|.inr ⟨_,_,R.str_inv,J.str_inv,?_,?_⟩
  .rw[ZG,ZG];exact Ù h Yj
  .rw[<-Hi];exact c _ G H _ (gj.refl H) g (.str _) w
 case tup.tup xs U =>
  let⟨h,w⟩:=Wr w
  replace w:=Zq w
  .skip
   cases R with
   |@tup _ p I hp hr =>
   cases J with
   |@tup _ q us hq hs =>
   by_cases h0:I=[]
   .subst h0;have:xs=[]:=aR hr.length;subst this;exact .inr<|.inl<|.inl<|.inl ⟨p,q,us,rfl,rfl,Zo hp,Zo hq,c _ G H _ (gj.refl H) g (.tup hq hs) w⟩
   refine .inr<|.inl<|.inl<|.inr ⟨p,q,I,us,rfl,rfl,Zo hp,Zo hq,h0,?_,λz=>?_,λz a ha=>?_⟩
   .rw[<-hr.length,<-hs.length];exact Ù h Yj
   .have:U=[]:=aR (by rw[hs.length,z];rfl);subst this;rw[ì]at w;exact c _ G H _ (gj.refl H) g (.tup hp hr) w
   .have k:=gj.new (o:=.tup<|I++us) ha;refine c _ G _ _ k (g.hid k λb o e=>fN ?_) (.tup (.inl fO)<|(hr.keep k).append<|hs.keep k) w;rintro rfl;rw[g.free ha]at e;cases e
 case ref.ref a b =>
  dsimp only[iG.binV,iG.addV]at w;split at w
  .rename_i xs U s m;unfold iG.Rs.lst at w;split at w
   .rename_i hl;rw[iG.Rs.wp_new]at w;cases R.ref_inv;cases J.ref_inv;let⟨I,l,r1⟩:=g a _ s;let⟨us,f,d⟩:=g b _ m;refine .inr (.inl<|.inr ⟨a,b,I,us,rfl,rfl,l,f,?_,Z2 g w c λp hp=>?_⟩)
    .rw[<-r1.length,<-d.length,<-á];exact Ù hl Yj
    .have k:=gj.new (o:=.lst<|I++us) hp;exact⟨_,fO,(r1.keep k).append<|d.keep k⟩
   .exact(Zi w).elim
  .exact(Zi w).elim
def b_sub:JG i .sub<|rI0 λi j=>.int<|i - j:=by intro v u G H x y Q Qm g J I w c;let⟨a,b,rfl,rfl,w⟩:=XF w;exact⟨a,b,J.int_inv,I.int_inv,c _ G H _ (gj.refl H) g (.int _)<|Zq w⟩
def RVs.rep{K:Frag}{H:Hp}{vs:List iG.Val}{xs:List V}(r:RVs K H vs xs):∀n,RVs K H (ß n vs).flatten (ß n xs).flatten
 |0=>.nil
 |n+1=>by rw[Ē,Ē,ŉ,ŉ];exact r.append<|RVs.rep r n
set_option exponentiation.threshold 2000 in
def P7{i j:Int}(h:iG.mulOk i j):IntMulOk i j:=by
 rcases h with(h|h)|⟨h1,h2⟩
 .exact .of_left (intBits_le_64 ↥0<|by lia)
 .exact .of_right (intBits_le_64 ↥0<|by lia)
 .have e:(10:Nat) ^ 200<2 ^ 1000:=by decide
  exact .of_bits (Ù (PyProof.Rows.intBits_le<|Ð h1 e)<|by decide) (Ù (PyProof.Rows.intBits_le<|Ð h2 e)<|by decide)
def HS(s:String)(n:Nat):P6 (iO s) n=iO (iG.repT s n):=by unfold P6 iG.repT;rw[Str.ofString_eq_toList,Str.ofString_eq_toList,cG];congr 1;apply aD.mp;rw[Mn];simp[List.map_flatten,List.map_replicate]
abbrev IY:R2:=λx y H Q=>rI iG.mulOk (λi j=>.int<|i*j) x y H Q\/(Rk x y H Q\/IJ x y H Q)
def RX:OpR X (Ŏ .Mult) IY:=OpR.or (opI λ_ _ _ _ _ _ _ I q=>PyProof.Rows.mul_int q<|P7 I) (op_rep.or GX)
def b_mul:JG i .mul IY:=by
 intro v u G H x y Q Qm g R J w c;cases v<;>cases u<;>first|exact(Zi w).elim|skip
 case int.int a b =>let⟨h,w⟩:=Wr w;exact .inl ⟨a,b,R.int_inv,J.int_inv,h,c _ G H _ (gj.refl H) g (.int _)<|Zq w⟩
 case ref.int a k =>
  dsimp only[iG.binV,iG.mulV]at w;split at w
  .rename_i xs l;split at w
   .rename_i I;unfold iG.Rs.lst at w;split at w
    .rw[iG.Rs.wp_new]at w;cases R.ref_inv;cases J.int_inv;let⟨U,f,r1⟩:=g a _ l;refine .inr (.inl ⟨a,k,U,rfl,rfl,f,by lia,by lia,?_,Z2 g w c λp hp=>?_⟩)
     .rw[<-r1.length];exact Ù I.2.2 Yj
     .have d:=gj.new (o:=.lst (ß k.toNat U).flatten) hp;exact⟨_,fO,(r1.keep d).rep _⟩
    .exact(Zi w).elim
   .exact(Zi w).elim
  .exact(Zi w).elim
 case str.int a k =>
  let⟨I,w⟩:=Wr w
  replace w:=Zq w
  refine .inr (.inr ⟨_,k,R.str_inv,J.int_inv,I.1,I.2.1,by rw[ZG];exact I.2.2.1,by rw[ZG];exact I.2.2.2,?_⟩);rw[HS];exact c _ G H _ (gj.refl H) g (.str _) w
def b_fdiv:JG i .fdiv<|rI RT λi j=>.int<|i / j:=by intro v u G H x y Q Qm g J I w c;let⟨a,b,rfl,rfl,w⟩:=XF w;let⟨h,w⟩:=Wr w;exact⟨a,b,J.int_inv,I.int_inv,h,c _ G H _ (gj.refl H) g (.int _)<|Zq w⟩
def b_mod:JG i .mod<|rI (λ_ j=>0<j) λi j=>.int<|i % j:=by intro v u G H x y Q Qm g J I w c;let⟨a,b,rfl,rfl,w⟩:=XF w;let⟨h,w⟩:=Wr w;exact⟨a,b,J.int_inv,I.int_inv,h,c _ G H _ (gj.refl H) g (.int _)<|Zq w⟩
def b_pow:JG i .pow<|rI SZ λi j=>.int<|i ^ j.toNat:=by intro v u G H x y Q Qm g J I w c;let⟨a,b,rfl,rfl,w⟩:=XF w;let⟨h,w⟩:=Wr w;exact⟨a,b,J.int_inv,I.int_inv,h,c _ G H _ (gj.refl H) g (.int _)<|Zq w⟩
def Z1{K:Frag}:∀{xs:List iG.Val}{ns:List Int}{vs:List V},iG.fT xs=fJ ns->RVs K H xs vs->vs=ns.map V.int
 |[],_,_,e,r=>by cases r;cases e;rfl
 |v::xs,_,_,e,r=>by
  cases r with
  |cons r t=>cases v with
   |int k =>
    have e:(iG.fT xs).map (k :: ·)=fJ _:=e;cases z:iG.fT xs with
    |none=>rw[z]at e;cases e
    |some ns=>rw[z]at e;cases e;cases r;rw[Z1 z t];rfl
   |_=>cases e
def MU:∀(ns ms:List Int),iG.gR ns ms=HT.lexLt ns ms
 |[],[]=>rfl
 |[],_::_=>rfl
 |_::_,[]=>rfl
 |x::xs,y::ys=>by rw[iG.gR,HT.lexLt_cons,MU xs ys]
abbrev SW(K:Frag):R2:=λx y H Q=>rI0 (λi j=>.bl<|iN (i<j)) x y H Q\/HT2.rCT fM K x y H Q
def TB(I:X.A.units<Ī):OpR X (î .Lt)<|SW X.K:=op_lt.or (HT2.op_cT fM I)
abbrev RW(K:Frag):R2:=λx y H Q=>rI0 (λi j=>.bl<|iN (j<i)) x y H Q\/HT2.rCT fL K x y H Q
def Ti(I:X.A.units<Ī):OpR X (î .Gt)<|RW X.K:=op_gt.or (HT2.op_cT fL I)
variable {H:Hp}{c:Bool}
def Lv{K:Frag}(J:RV K H (.tup xs) x)(I:RV K H (.tup ys) y)(e:iG.gT (.tup xs) (.tup ys)=fJ c):∃a b ns ms,x=.ref a/\y=.ref b/\ir K H a (ns.map V.int)/\ir K H b (ms.map V.int)/\HT.lexLt ns ms=c:=by
 simp![iG.gT]at e;cases z1:iG.fT xs with
 |none=>rw[z1]at e;cases e
 |some ns =>
  cases z2:iG.fT ys with
  |none=>rw[z1,z2]at e;cases e
  |some ms =>
   rw[z1,z2]at e;cases e;cases J with
   |@tup _ p vs hp hr =>
   cases I with
   |@tup _ q us hq hs =>
   have U:=Z1 z1 hr;have R:=Z1 z2 hs;subst U R;exact⟨p,q,ns,ms,rfl,rfl,Zo hp,Zo hq,(MU _ _).symm⟩
def IT(e:iG.gT v u=fJ c):(∃a b,v=.int a/\u=.int b/\iN (a<b)=c)\/∃xs ys,v=.tup xs/\u=.tup ys:=by
 cases v with
 |int a=>cases u with
  |int b=>cases e;exact .inl ⟨a,b,rfl,rfl,rfl⟩
  |_=>cases e
 |tup xs=>cases u with
  |tup ys=>exact .inr ⟨xs,ys,rfl,rfl⟩
  |_=>cases e
 |_=>cases e
def c_lt:Z6 i .lt<|SW i.K:=by
 walk_at "E";rcases IT e with⟨a,b,rfl,rfl,rfl⟩|⟨xs,f,rfl,rfl⟩
 .exact .inl ⟨a,b,rx.int_inv,ry.int_inv,q⟩
 .obtain⟨a,b,ns,ms,d,U,R,J,I⟩:=Lv rx ry e;exact .inr ⟨a,b,ns,ms,d,U,R,J,by show Q (.bl<|HT.lexLt ns ms) _;rw[I];exact q⟩
def c_gt:Z6 i .gt<|RW i.K:=by
 walk_at "E";rcases IT e with⟨a,b,rfl,rfl,rfl⟩|⟨xs,f,rfl,rfl⟩
 .exact .inl ⟨b,a,rx.int_inv,ry.int_inv,q⟩
 .obtain⟨a,b,ns,ms,d,U,R,J,I⟩:=Lv ry rx e;exact .inr ⟨b,a,ms,ns,U,d,J,R,by show Q (.bl<|HT.lexLt ns ms) _;rw[I];exact q⟩
def IU(e:iG.leV v u=fJ c):∃i j,v=.int i/\u=.int j/\iN (i<=j)=c:=by
 cases v with
 |int i=>cases u with
  |int j=>cases e;exact⟨i,j,rfl,rfl,rfl⟩
  |_=>cases e
 |_=>cases e
def c_le:Z6 i .le<|rI0 λi j=>.bl<|iN (i<=j):=by walk_at "E";let⟨a,b,rfl,rfl,rfl⟩:=IU e;exact⟨a,b,rx.int_inv,ry.int_inv,q⟩
def c_ge:Z6 i .ge<|rI0 λi j=>.bl<|iN (j<=i):=by walk_at "E";let⟨a,b,rfl,rfl,rfl⟩:=IU e;exact⟨b,a,rx.int_inv,ry.int_inv,q⟩
def RV.isN{K:Frag}(r:RV K H v x):iN (x=.non)=iN (v=.non):=by cases r<;>simp
variable {a:Expr}{í:Pos}{p2:Pos}{j:Nat}
def SA(ha:PE X a<|tE X i Φ ma):PE X (.Compare a [.Is] [.Constant .none j p2] í) (tE X i Φ<|.cmp .is ma<|.cst .non) :=
 (D4 (E5 ha) rfl).imp λσ H Q ⟨env,G,Qm,Em,p,w,c⟩=>by refine one p w λv U H1 x R J r q=>?_;let⟨d,e,I⟩:=fQ q;have e:fJ (iN (v=.non))=fJ d:=e;cases e;rw[r.isN];exact c _ U H1 _ R J.hp (.bl _) I
def Pn(ha:PE X a<|tE X i Φ ma):PE X (.Compare a [.IsNot] [.Constant .none j p2] í) (tE X i Φ<|.cmp .isnot ma<|.cst .non) :=
 (D4 (UT ha) rfl).imp λσ H Q ⟨env,G,Qm,Em,p,w,c⟩=>by refine one p w λv U H1 x R J r q=>?_;let⟨d,e,I⟩:=fQ q;have e:fJ (!iN (v=.non))=fJ d:=e;cases e;rw[r.isN];exact c _ U H1 _ R J.hp (.bl _) I
def Pl(ha:PE X a<|tE X i Φ ma):PT X (.Compare a [.Is] [.Constant .none j p2] í) (tTt X i Φ<|.val<|.cmp .is ma<|.cst .non) :=
 (EA (E5 ha) rfl).imp λσ H Q ⟨env,G,Qm,Em,p,w,c⟩=>by refine one p w λv k H1 x U R r q=>?_;let⟨d,e,J⟩:=fQ q;let⟨l,f,I⟩:=fQ J;cases f;have e:fJ (iN (v=.non))=fJ d:=e;cases e;rw[r.isN];exact⟨_,rfl,c _ k H1 U R.hp I⟩
def Ga(ha:PE X a<|tE X i Φ ma):PT X (.Compare a [.IsNot] [.Constant .none j p2] í) (tTt X i Φ<|.val<|.cmp .isnot ma<|.cst .non) :=
 (EA (UT ha) rfl).imp λσ H Q ⟨env,G,Qm,Em,p,w,c⟩=>by refine one p w λv k H1 x U R r q=>?_;let⟨d,e,J⟩:=fQ q;let⟨l,f,I⟩:=fQ J;cases f;have e:fJ (!iN (v=.non))=fJ d:=e;cases e;rw[r.isN];exact⟨_,rfl,c _ k H1 U R.hp I⟩
end Snd
namespace Snd
open PySem L2 PySem.Spec PyProof.Rows
variable {i:Inf}
def RKs.length{K:Frag}:∀{kvs:List (iG.Val×iG.Val)}{ps:List (Key×V)},RKs K H kvs ps->kvs.length=ps.length
 |_,_,.nil=>rfl
 |_,_,.cons _ _ t=>by rw[Ñ,Ñ,RKs.length t]
def Jv(a:Je k c)(b:Je j d):(k==j)=iN (c=d):=by
 have key:k=j↔c=d:=by
  cases k<;>cases c<;>first|(cases a;done)|skip
  .cases j<;>cases d<;>first|(cases b;done)|skip
   .cases a;cases b;simp
   .cases a;cases b;simp
  .cases j<;>cases d<;>first|(cases b;done)|skip
   .cases a;cases b;simp
   .cases a;cases b;simp[ofS_inj]
 by_cases e:k=j
 .rw[iK<|key.mp e,e];simp
 .rw[iJ λz=>e<|key.mpr z];simpa using e
def f6{K:Frag}(h:iG.f9 k=fL)(r:RV K H k x):∃c,Je k c/\x=kV c:=by
 cases k with
 |int n=>cases r.int_inv;exact⟨.inl n,rfl,rfl⟩
 |str s=>cases r.str_inv;exact⟨.inr<|iO s,rfl,rfl⟩
 |_=>cases h
def RKs.look{K:Frag}(a:Je k c):∀{kvs:List (iG.Val×iG.Val)}{ps:List (Key×V)},RKs K H kvs ps->
  (∀v,iG.gk kvs k=fJ v->∃x,YI ps c=fJ x/\RV K H v x)/\(iG.gk kvs k=fK->YI ps c=fK)
 |_,_,.nil=>⟨λv e=>(by cases e),λ_=>rfl⟩
 |_,_,.cons (k:=j) (v:=u) (c:=d) (x:=y) (kvs:=kvs) (ps:=ps) b r t=>by
  have J:=RKs.look a t;have q:=Jv b a;by_cases e:d=c
  .rw[iK e]at q;have I:iG.gk ((j,u)::kvs) k=fJ u:=by simp[iG.gk,Ğ,q]
   rw[I,Xw e];exact⟨λv z=>(by cases z;exact⟨y,rfl,r⟩),λz=>(by cases z)⟩
  .rw[iJ e]at q;have I:iG.gk ((j,u)::kvs) k=iG.gk kvs k:=by simp[iG.gk,Ğ,q]
   rw[I,Xl e];exact J
def RKs.has{K:Frag}(a:Je k c):∀{kvs:List (iG.Val×iG.Val)}{ps:List (Key×V)},RKs K H kvs ps->iG.gm kvs k=ps.any λJ=>iN (J.1=c)
 |_,_,.nil=>rfl
 |_,_,.cons b r t=>by have I:=RKs.has a t;unfold iG.gm at I ⊢;rw[Ħ,Ħ,I,Jv b a]
def RKs.app{K:Frag}(a:Je k c)(q:RV K H v x):∀{kvs:List (iG.Val×iG.Val)}{ps:List (Key×V)},RKs K H kvs ps->RKs K H (kvs++[(k,v)]) (ps++[(c,x)])
 |_,_,.nil=>.cons a q .nil
 |_,_,.cons b r t=>.cons b r<|RKs.app a q t
def RKs.repl{K:Frag}(a:Je k c)(q:RV K H v x):∀{kvs:List (iG.Val×iG.Val)}{ps:List (Key×V)},RKs K H kvs ps->
  RKs K H (kvs.map λp=>if p.1==k then(k,v)else p) (ps.map λI=>if I.1=c then(I.1,x)else I)
 |_,_,.nil=>.nil
 |_,_,.cons (k:=j) (v:=u) (c:=d) (x:=y) b r t=>by
  have J:=RKs.repl a q t;have z:=Jv b a;rw[Ò,Ò];by_cases e:d=c
  .rw[iK e]at z;rw[iH z,iH e];exact .cons (e▸a) q J
  .rw[iJ e]at z;rw[iI (by rw[z];decide),iI e];exact .cons b r J
def RKs.put{K:Frag}(a:Je k c)(q:RV K H v x)(r:RKs K H kvs ps):RKs K H (iG.gp kvs k v)<|L2.gp ps c x:=by
 unfold iG.gp L2.gp;rw[r.has a];by_cases e:(ps.any λI=>iN (I.1=c))=fL
 .rw[iH e,iH e];exact r.repl a q
 .rw[iI e,iI e];exact r.app a q
def RKs.drop{K:Frag}(a:Je k c):∀{kvs:List (iG.Val×iG.Val)}{ps:List (Key×V)},RKs K H kvs ps->RKs K H (iG.gq kvs k) (L2.gq ps c)
 |_,_,.nil=>.nil
 |_,_,.cons (k:=j) (v:=u) (c:=d) (x:=y) b r t=>by
  have I:=RKs.drop a t;have z:=Jv b a;unfold iG.gq L2.gq at I ⊢;rw[đ,đ];by_cases e:d=c
  .rw[iK e]at z;rw[iI (by rw[z];decide),iI<|by simpa using e];exact I
  .rw[iJ e]at z;rw[iH (by rw[z];rfl),iH<|by simpa using e];exact .cons b r I
variable {H:Hp}
def MM{kvs:List (iG.Val×iG.Val)}(g:RH i G H)(h:H a=fJ (.dK ps))(r:RKs i.K H kvs' du):gj H (upd H a<|.dK du)/\RH i (iG.upd G a<|.dct kvs') (upd H a<|.dK du):=by
 have k:gj H<|upd H a<|.dK du:=gj.put (λxs e=>by rw[h]at e;cases e) λp u e=>by rw[h]at e;cases e
 exact⟨k,g.put k ⟨du,fO,r.keep k⟩⟩
def RTs.length{K:Frag}:∀{kvs:List (iG.Val×iG.Val)}{ps:List (List Key×V)},RTs K H kvs ps->kvs.length=ps.length
 |_,_,.nil=>rfl
 |_,_,.cons _ t=>by rw[Ñ,Ñ,RTs.length t]
def MO(a b i j:Int):(iG.Val.key a b == .key i j)=iN (([.inl a,.inl b]:List Key)=[.inl i,.inl j]):=by
 by_cases e:a=i/\b=j
 .obtain⟨rfl,rfl⟩:=e;rw[iK rfl];simp
 .rw[iJ λz=>e<|by simpa using z];exact beq_eq_false_iff_ne.mpr λz=>e ⇑z
def RTs.look{K:Frag}{i j:Int}:∀{kvs:List (iG.Val×iG.Val)}{ps:List (List Key×V)},RTs K H kvs ps->
  (∀v,iG.gk kvs (.key i j)=fJ v->∃x,YI ps [.inl i,.inl j]=fJ x/\RV K H v x)/\(iG.gk kvs (.key i j)=fK->YI ps [.inl i,.inl j]=fK)
 |_,_,.nil=>⟨λv e=>(by cases e),λ_=>rfl⟩
 |_,_,.cons (i:=a) (j:=b) (v:=u) (x:=y) (kvs:=kvs) (ps:=ps) r t=>by
  have J:=RTs.look (i:=i) (j:=j) t;have q:=MO a b i j;by_cases e:([.inl a,.inl b]:List Key)=[.inl i,.inl j]
  .rw[iK e]at q;have I:iG.gk ((.key a b,u)::kvs) (.key i j)=fJ u:=by simp[iG.gk,Ğ,q]
   rw[I,Xw e];exact⟨λv z=>(by cases z;exact⟨y,rfl,r⟩),λz=>(by cases z)⟩
  .rw[iJ e]at q;have I:iG.gk ((.key a b,u)::kvs) (.key i j)=iG.gk kvs (.key i j):=by simp[iG.gk,Ğ,q]
   rw[I,Xl e];exact J
def RTs.has{K:Frag}{i j:Int}:∀{kvs:List (iG.Val×iG.Val)}{ps:List (List Key×V)},RTs K H kvs ps->iG.gm kvs (.key i j)=ps.any λJ=>iN (J.1=[.inl i,.inl j])
 |_,_,.nil=>rfl
 |_,_,.cons (i:=a) (j:=b) r t=>by have I:=RTs.has (i:=i) (j:=j) t;unfold iG.gm at I ⊢;rw[Ħ,Ħ,I,MO a b i j]
def RTs.app{K:Frag}{i j:Int}(q:RV K H v x):∀{kvs:List (iG.Val×iG.Val)}{ps:List (List Key×V)},RTs K H kvs ps->RTs K H (kvs++[(.key i j,v)]) (ps++[([.inl i,.inl j],x)])
 |_,_,.nil=>.cons q .nil
 |_,_,.cons r t=>.cons r<|RTs.app q t
def RTs.repl{K:Frag}{i j:Int}(q:RV K H v x):∀{kvs:List (iG.Val×iG.Val)}{ps:List (List Key×V)},RTs K H kvs ps->
  RTs K H (kvs.map λp=>if p.1 == .key i j then(.key i j,v)else p) (ps.map λI=>if I.1=[.inl i,.inl j]then(I.1,x)else I)
 |_,_,.nil=>.nil
 |_,_,.cons (i:=a) (j:=b) (v:=u) (x:=y) r t=>by
  have J:=RTs.repl (i:=i) (j:=j) q t;have z:=MO a b i j;rw[Ò,Ò];by_cases e:([.inl a,.inl b]:List Key)=[.inl i,.inl j]
  .rw[iK e]at z;simp![z,if_true,e];exact .cons q J
  .rw[iJ e]at z;simp![z,e,if_false,ĕ];exact .cons r J
def RTs.put{K:Frag}{i j:Int}(q:RV K H v x)(r:RTs K H kvs ps):RTs K H (iG.gp kvs (.key i j) v)<|L2.gp ps [.inl i,.inl j] x:=by
 unfold iG.gp L2.gp;rw[r.has];by_cases e:(ps.any λI=>iN (I.1=[.inl i,.inl j]))=fL
 .rw[iH e,iH e];exact r.repl q
 .rw[iI e,iI e];exact r.app q
def Hm(g:RH i G H)(h:H a=fJ (.dT ps))(r:RTs i.K H kvs' du):gj H (upd H a<|.dT du)/\RH i (iG.upd G a<|.dtp kvs') (upd H a<|.dT du):=by
 have k:gj H<|upd H a<|.dT du:=gj.put (λxs e=>by rw[h]at e;cases e) λp u e=>by rw[h]at e;cases e
 exact⟨k,g.put k ⟨du,fO,r.keep k⟩⟩
def Wj{K:Frag}(h:iG.isKeyT k=fL)(r:RV K H k x):∃a b c,k=.key a b/\x=.ref c/\H c=fJ (.tup<|([.inl a,.inl b]:List Key).map kV):=by
 cases k with
 |key a b=>cases r with|key e=>exact⟨a,b,_,rfl,rfl,e⟩
 |_=>cases h
abbrev DJ:R2:=λx y H Q=>∃a v,x=.ref a/\DGet H a y (fJ v)/\Q v H
def Ge(f:X.A.units+1<Ī):IxR X DJ:=by
 intro J slice R s σ H x y v u Q I d U h k;let⟨a,z,rfl,g,q⟩:=h;cases d;have hT:=OV I g;unfold aJ;refine À ?_;rw[getitemInPython_of_ne hT.not_modules];refine À<|cq hT PySem.F.slot_dict_getitem.lookup ?_;have fin:wpAny ↥2 X.A (subscripted slice fM (.ref a) u) (λr l=>wpAny ↥2 X.A (letTemporaryGo J (.ref a) r >>= λ_=>pure r) (EP X R σ Q) X.xe l) X.xe s:=by rw[k];exact wpAny_operating<|MB f I g U λC M t m=>À<|wpAny_letTemporaryGo<|È ⟨_,_,t,m,q⟩
 first
  |exact È<|À fin
  |exact À<|È<|À fin
  |exact À fin
abbrev GF(b:Bool):R2:=λx y H Q=>∃a o,y=.ref a/\DGet H a x o/\Q (.bl<|b ^^ o.isSome) H
def QN(J:X.A.units+1<Ī):OpR X (î .In)<|GF fM:=by walk_at "A";let⟨a,o,rfl,g,q⟩:=h;cases ry;rw[bD]at q;exact T9 J I g rx λU R=>⟨.bl o.isSome,_,R,rfl,q⟩
def LZ(J:X.A.units+1<Ī):OpR X (î .NotIn)<|GF fL:=by walk_at "A";let⟨a,o,rfl,g,q⟩:=h;cases ry;rw[bY]at q;exact Gv J I g rx λU R=>⟨.bl (!o.isSome),_,R,rfl,q⟩
abbrev IV:V->V->V->Hp->(Hp->Prop)->Prop:=λo y v H Q=>∃a H',o=.ref a/\DPut H a y v H'/\Q H'
def Od(d:X.A.units+1<Ī):PSet X IV:=by intro k s σ H o y v m t u Q I R U J h;let⟨a,H',rfl,g,q⟩:=h;cases R;exact Bn d I g U J λl f=>⟨H',f,q⟩
def PSet.or{r f:V->V->V->Hp->(Hp->Prop)->Prop}(h:PSet X r)(h':PSet X f):PSet X λo y v H Q=>r o y v H Q\/f o y v H Q:=by
 intro J s σ H o y v k l u Q I U d R q;rcases q with q|q
 .exact h J s σ H o y v k l u Q I U d R q
 .exact h' J s σ H o y v k l u Q I U d R q
end Snd
namespace Snd
open PySem L2
variable {i:Inf}
def MT(n:Nat)(k:Int):iG.ixN n k=L2.ixN n k:=rfl
def Jy{K:Frag}(r:RVs K H xs vs)(e:iG.atI xs k=fJ v):∃x,L2.atI vs k=fJ x/\RV K H v x:=by
 unfold iG.atI at e;unfold L2.atI;rw[MT,r.length]at e;cases z:L2.ixN vs.length k with
 |none=>rw[z]at e;cases e
 |some j =>rw[z]at e;let⟨x,J,I⟩:=r.get (show xs[j]?=fJ v from e);exact⟨x,J,I⟩
abbrev R8(i:Inf)(r:R2):Prop:=∀(v u:iG.Val) (G:iG.Hs) (H:Hp) (x y:V) (w:iG.Val) (Q:VK),RH i G H->RV i.K H v x->RV i.K H u y->iG.gU G v u=fJ w->(∀z,RV i.K H w z->Q z H)->r x y H Q
variable {a:Expr}{í:Pos}
def Sa(k:IxR X r)(l:R8 i r)(ha:PE X a<|tE X i Φ ma)(hb:PE X b<|tE X i Φ mb)(f:Nw b):PE X (.Subscript a b í) (tE X i Φ<|.idx ma mb) :=
 (Sn k ha hb f).imp λσ H Q ⟨env,G,Qm,Em,p,w,c⟩=>by
  exact two p w λv u J I x y d p2 U R q=>by let⟨z,e,q⟩:=fQ q;exact l v u J I x y z Q p2.hp U R e λt rt=>c z J I t d p2.hp rt q
def Gn(e:iG.atI s.toList k=fJ c):L2.atI (iO s).cps.toList k=fJ c.toNat:=by
 rw[Str.ofString_eq_toList];show L2.atI (List.map Ş s.toList).toArray.toList k=_;unfold iG.atI at e;unfold L2.atI;simp![Á];rw[MT]at e;cases z:L2.ixN s.toList.length k with
 |none=>rw[z]at e;cases e
 |some j =>rw[z]at e;have e:s.toList[j]?=fJ c:=e;show(List.map Ş s.toList)[j]?=_;rw[Ø,e];rfl
def UR(c:Char):iO (av c)=⟨#[c.toNat]⟩:=by rw[Str.ofString_eq_toList];simp
abbrev Td(K:Frag):R2:=λx y H Q=>rIx K x y H Q\/DJ x y H Q
def R3:R8 i<|Td i.K:=by
 intro v u G H x y w Q g m R e q;cases v with
 |tup xs =>
  cases u with
  |int k =>
   cases m with
   |tup hp hr =>let⟨z,J,I⟩:=Jy hr (show iG.atI xs k=fJ w from e);exact .inl<|.inr<|.inl ⟨_,_,k,z,rfl,R.int_inv,Zo hp,J,q z I⟩
  |_=>cases e
 |str s =>
  cases u with
  |int k =>
   simp![iG.gU]at e;split at e
   .rename_i hl;cases z:iG.atI s.toList k with
    |none=>rw[z]at e;cases e
    |some c =>rw[z]at e;cases e;refine .inl (.inr<|.inr ⟨_,k,_,m.str_inv,R.int_inv,by rw[ZG];exact Ù hl Yj,Gn z,?_⟩);have:=q _<|.str<|av c;rw[UR]at this;exact this
   .cases e
  |_=>cases e
 |ref a =>
  cases m.ref_inv
  replace e:(match G a with|some (.lst xs)=>(iG.iC u).bind (iG.atI xs)|some (.dct kvs)=>if iG.f9 u then iG.gk kvs u else fK|some (.frz kvs)=>if iG.f9 u then iG.gk kvs u else fK|some (.dtp kvs)=>if iG.isKeyT u then iG.gk kvs u else fK|_=>fK)=fJ w:=e
  cases z:G a with
  |none=>rw[z]at e;cases e
  |some o =>
   rw[z]at e;cases o with
   |lst xs =>let⟨k,U,e⟩:=è.mp e;cases ZC U;let⟨vs,J,I⟩:=g a _ z;let⟨t,M,F⟩:=Jy I e;exact .inl<|.inl ⟨a,vs,k,t,rfl,R.int_inv,iq.of J,M,q t F⟩
   |dct kvs =>let⟨U,e⟩:=Zl (show(if iG.f9 u then iG.gk kvs u else fK)=fJ w from e);let⟨ps,J,I⟩:=g a _ z;let⟨d,C,rfl⟩:=f6 U R;let⟨t,l,f⟩:=(I.look C).1 w e;exact .inr ⟨a,t,rfl,by rw[<-l];exact DGet.k J,q t f⟩
   |frz kvs =>let⟨U,e⟩:=Zl (show(if iG.f9 u then iG.gk kvs u else fK)=fJ w from e);let⟨O,ps,J,I⟩:=g a _ z;let⟨d,C,rfl⟩:=f6 U R;let⟨t,l,f⟩:=(I.look C).1 w e;exact .inr ⟨a,t,rfl,.inl ⟨ps,d,.inr ⟨O,J⟩,rfl,l.symm⟩,q t f⟩
   |dtp kvs =>let⟨U,e⟩:=Zl (show(if iG.isKeyT u then iG.gk kvs u else fK)=fJ w from e);let⟨ps,J,I⟩:=g a _ z;let⟨W,V,b,rfl,rfl,hb⟩:=Wj U R;let⟨t,l,f⟩:=(I.look).1 w e;exact .inr ⟨a,t,rfl,by rw[<-l];exact DGet.t J hb,q t f⟩
   |_=>cases e
 |scr ns =>
  cases u with
  |int k =>
   cases m with
   |scr h =>let⟨t,M,F⟩:=Jy (RVs.ints ns) (show iG.atI (ns.map .int) k=fJ w from e);exact .inl<|.inl ⟨_,_,k,t,rfl,R.int_inv,Z7 h,M,q t F⟩
  |_=>cases e
 |_=>cases e
abbrev tOx(X:Cx)(i:Inf)(Φ:iG.Fs)(m:iG.Oe):TO:=λσ H Q=>∃env G Qm Em,Pre X i σ H env G Em/\iG.wO Φ m env G Qm Em/\∀k I H',gj H H'->RH i I H'->Qm k I->Q k H'
def _root_.L2.PO.imp(h:PO X e t)(f:∀σ H Q,t' σ H Q->t σ H Q):PO X e t':=λJ s σ H Q I q=>h J s σ H Q I (f σ H Q q)
def FR:PO X fK<|tOx X i Φ .none:=po_none.imp λσ H Q ⟨env,G,Qm,Em,p,w,c⟩=>by exact c fK G H (gj.refl H) p.hp w
def Gk(he:PE X e<|tE X i Φ m):PO X (fJ e)<|tOx X i Φ<|.some m:=(Ao he).imp λσ H Q ⟨env,G,Qm,Em,p,w,c⟩=>by
 exact one p w λv U H1 x R J r q=>by let⟨b,e,I⟩:=fQ q;cases ZC e;exact⟨b,r.int_inv,c _ U H1 R J.hp I⟩
def UQ{K:Frag}(r:RVs K H xs vs)(lo hi:Option Int):RVs K H (iG.cut xs lo hi)<|MK vs lo hi:=by
 have e:∀(n d:Nat) (o:Option Int),iG.gQ n d o=HT.sIx n d o:=by
  intro n d o;cases o with
  |none=>rfl
  |some k =>
   show(if 0<=k then min k.toNat n else(k+n).toNat)=(if k<0 then(k+(n:Int)).toNat else min k.toNat n)
   by_cases h:k<0
   .rw[iH h,iI<|by lia]
   .rw[iI h,iH<|by lia]
 unfold iG.cut MK;rw[e,e,r.length];exact(r.drop _).take _
abbrev Rt(i:Inf)(r:V->Option Int->Option Int->Hp->VK->Prop):Prop:=∀(v:iG.Val) (lo hi:Option Int) (G:iG.Hs) (H:Hp) (x:V) (Q:VK) (Qm:iG.Q1),RH i G H->RV i.K H v x->(iG.gV G v lo hi).wp G Qm->Cn i H Q Qm->r x lo hi H Q
def Su{lo:Option Expr}(k:SlR X r)(m:Rt i r)(ha:PE X a<|tE X i Φ ma)(hl:PO X lo<|tOx X i Φ ml)(q:PO X hi<|tOx X i Φ mh):PE X (.Subscript a (.Slice lo hi fK p2) í) (tE X i Φ<|.slc ma ml mh) :=
 (CI k ha hl q).imp λσ H Q ⟨env,G,Qm,Em,p,w,c⟩=>by
  exact⟨env,G,_,Em,p,w,λv z H1 x J g1 r1 f=>⟨env,z,_,Em,p.go J g1,f,λl y C I g2 d=>⟨env,y,_,Em,(p.go J g1).go I g2,d,λu t s R g3 U =>
    m v l u t s x Q Qm g3 ((r1.keep I).keep R) U (((c.go J).go I).go R)⟩⟩⟩
abbrev Re(K:Frag):V->Option Int->Option Int->Hp->VK->Prop:=λx lo hi H Q=>RY K x lo hi H Q\/R9 K x lo hi H Q\/S1 x lo hi H Q\/RJ K x lo hi H Q
def TH:SlR X<|Re X.K:=sl_list.or (hX.or<|sl_str.or GP)
def Wz(n d:Nat)(o:Option Int):iG.gQ n d o=HT.sIx n d o:=by
 cases o with
 |none=>rfl
 |some k =>
  show(if 0<=k then min k.toNat n else(k+n).toNat)=(if k<0 then(k+(n:Int)).toNat else min k.toNat n)
  by_cases h:k<0
  .rw[iH h,iI<|by lia]
  .rw[iI h,iH<|by lia]
def ND(n d:Nat)(h:d<=n)(o:Option Int):iG.gQ n d o<=n:=by
 cases o with
 |none=>exact h
 |some k =>show(if 0<=k then min k.toNat n else(k+n).toNat)<=n;split<;>lia
def clip_eq(n d:Nat)(h:d<=n)(o:Option Int):(match o with
    |none=>(d:Int)
    | some i=>max 0<|min (if i<0 then i+(n:Int)else i) (n:Int))=(iG.gQ n d o:Int):=by
 cases o with
 |none=>rfl
 |some k =>
  show _=(((if 0<=k then min k.toNat n else(k+n).toNat):Nat):Int)
  by_cases I:k<0
  .rw[iI<|show ¬ 0<=k by lia];simp![I,if_true];lia
  .rw[iH<|show 0<=k by lia];simp![I,if_false];lia
def QY(n:Nat)(lo hi:Option Int):PySem.Builtin.Str.strSliceIndices lo hi 1 n=(List.range<|iG.gQ n n hi - iG.gQ n 0 lo).map λk=>iG.gQ n 0 lo+k:=by
 have U:=clip_eq n 0 (ė _) lo;have R:=clip_eq n n (Ì _) hi;have J:PySem.Builtin.Str.strSliceIndices lo hi 1 n=Ϥ (iG.gQ n 0 lo:Int) (iG.gQ n n hi:Int) 1:=by unfold PySem.Builtin.Str.strSliceIndices;rw[<-U,<-R];cases lo<;>cases hi<;>rfl
 rw[J];unfold Ϥ;have I:(if(1:Int) > 0 then(if(iG.gQ n 0 lo:Int)<(iG.gQ n n hi:Int)then((iG.gQ n n hi:Int) - (iG.gQ n 0 lo:Int)+1 - 1) / 1 else 0)else(if(iG.gQ n 0 lo:Int) > (iG.gQ n n hi:Int)then((iG.gQ n 0 lo:Int) - (iG.gQ n n hi:Int) - 1 - 1) / (-1)else 0)).toNat=iG.gQ n n hi - iG.gQ n 0 lo:=by rw[iH ↥1,Int.ediv_one];split<;>lia
 show(List.range<|Int.toNat<|if(1:Int) > 0 then _ else _).map _=_;rw[I];refine ĩ λk _=>?_;lia
def FW(s:String)(lo hi:Option Int):AY (iO s) lo hi=iO (Υ<|iG.cut s.toList lo hi):=by
 have hl:(iO s).length=s.toList.length:=by rw[ZG,cF]
 have ha:=ND s.toList.length 0 (ė _) lo;have hb:=ND s.toList.length s.toList.length (Ì _) hi;have e:=QY s.toList.length lo hi;rw[<-hl]at e;unfold AY;rw[e];simp![hl];have R:(iO s).cps.toList=s.toList.map Ş:=by rw[Str.ofString_eq_toList]
 split
 .rename_i z;rw[Á,ĵ]at z;have I:iG.gQ s.toList.length 0 lo=0\/s.toList.length=0:=by lia
  have U:iG.cut s.toList lo hi=s.toList:=by
   unfold iG.cut;rw[z];rcases I with I|I
   .rw[I,ϝ,ù]
   .have:s.toList=[]:=ű.mp I;rw[this];simp
  rw[U,String.ofList_toList]
 .rw[Str.ofString_eq_toList<|Υ _,cG];congr 2;have d:(λi:Nat=>(iO s).cps[i]?)=λi:Nat=>(s.toList.map Ş)[i]?:=by
   funext i;rw[<-R];simp
  rw[d];by_cases J:iG.gQ s.toList.length 0 lo<=iG.gQ s.toList.length s.toList.length hi
  .rw[PySem.StrLaws.picks _ _ _<|by rw[Á];lia];unfold iG.cut;rw[List.map_take,List.map_drop]
  .have:iG.gQ s.toList.length s.toList.length hi - iG.gQ s.toList.length 0 lo=0:=by lia
   unfold iG.cut;rw[this];simp
def R1:Rt i<|Re i.K:=by
 intro v lo hi G H x Q Qm g r w c;cases v with
 |tup xs =>
  simp![iG.gV]at w;split at w
  .rename_i hn;rw[iG.Rs.wp_val]at w;cases r with
   |@tup _ a vs hp hr=>exact .inr (.inr<|.inr ⟨a,vs,rfl,Zo hp,by rw[<-Wz,<-Wz,<-hr.length];exact hn,c _ G H _ (gj.refl H) g (.tup hp hr) w⟩)
  .rename_i hn;rw[iG.Rs.wp_val]at w;cases r with
   |@tup _ a vs hp hr =>refine .inr (.inl ⟨a,vs,rfl,Zo hp,by rw[<-Wz,<-Wz,<-hr.length];exact hn,λp I=>?_⟩);have k:=gj.new (o:=.tup<|MK vs lo hi) I;refine c _ G _ _ k (g.hid k λb o e=>fN ?_) (.tup (.inl fO)<|UQ (hr.keep k) lo hi) w;rintro rfl;rw[g.free I]at e;cases e
 |ref a =>
  cases r.ref_inv;simp![iG.gV]at w;cases z:iG.fY (G a)with
  |none=>rw[z]at w;simp at w
  |some xs =>rw[z]at w;rw[iG.Rs.wp_new]at w;let⟨vs,R,J⟩:=Zy g z;exact .inl ⟨a,vs,rfl,R,Z2 g w c λp hp=>⟨_,fO,UQ (J.keep<|gj.new hp) lo hi⟩⟩
 |scr ns =>
  simp![iG.gV,iG.Rs.wp_new]at w;cases r with
  |scr h=>exact .inl ⟨_,_,rfl,Z7 h,Z2 g w c λp hp=>⟨_,fO,UQ (RVs.ints ns) lo hi⟩⟩
 |str s =>
  cases r.str_inv;simp![iG.gV]at w;split at w
  .rename_i hl;rw[iG.Rs.wp_val]at w;refine .inr (.inr <| .inl ⟨_,rfl,by rw[ZG];exact Ù hl ↥1,?_⟩);rw[FW];exact c _ G H _ (gj.refl H) g (.str _) w
  .simp at w
 |_=>simp[iG.gV]at w
variable {H:Hp}{vs:List iG.Val}{xs:List V}{x:V}
def RVs.app1{K:Frag}(r:RVs K H vs xs)(q:RV K H v x):RVs K H (vs++[v])<|xs++[x]:=r.append (.cons q .nil)
variable {n:Nat}{í:Pos}
def Rn(hn:n<=1000)(h:PA X es<|tAr X i Φ ms n):PE X (.Tuple es k í) (tE X i Φ<|.tup ms) :=
 (PU h).imp λσ H Q ⟨env,G,Qm,Em,p,w,c⟩=>by refine⟨env,G,_,Em,p,w,λvs R H1 xs J g1 r1 hl I=>⟨by rw[hl];exact Ù hn ↥1,λa ha=>?_⟩⟩;have k:=gj.new (o:=.tup xs) ha;refine c _ R _ _ (J.trans k) (g1.hid k λb o e=>fN ?_) (.tup (.inl fO)<|r1.keep k) I;rintro rfl;rw[g1.free ha]at e;cases e
def Rz(hn:n<=1000)(h:PA X es<|tAr X i Φ ms n):PE X (.List es í) (tE X i Φ<|.lst ms) :=
 (PP h).imp λσ H Q ⟨env,G,Qm,Em,p,w,c⟩=>by refine⟨env,G,_,Em,p,w,λvs R H1 xs J g1 r1 hl I=>⟨by rw[hl];exact Ù hn ↥1,Z2 g1 I (c.go J) λa ha=>?_⟩⟩;exact⟨xs,fO,r1.keep<|gj.new ha⟩
abbrev KS(i:Inf)(f:iG.Bi)(r:List V->Hp->VK->Prop):Prop:=∀(vs:List iG.Val) (G:iG.Hs) (H:Hp) (xs:List V) (Q:VK) (Qm:iG.Q1),RH i G H->RVs i.K H vs xs->(iG.biV G f vs).wp G Qm->Cn i H Q Qm->r xs H Q
def Wu(R:KS i f r):∀σ H Q,tE X i Φ (.bi f ms) σ H Q->tCB r (tAr X i Φ ms n) σ H Q:=λσ H Q ⟨env,G,Qm,Em,p,w,c⟩=>by exact⟨env,G,_,Em,p,w,λvs U H1 xs J g1 r1 _ I=>R vs U H1 xs Q Qm g1 r1 I<|c.go J⟩
def RVs.inv1{K:Frag}(r:RVs K H [v] xs):∃x,xs=[x]/\RV K H v x:=by cases r with|cons a t=>cases t;exact⟨_,rfl,a⟩
def RVs.inv2{K:Frag}(r:RVs K H [v,u] xs):∃x y,xs=[x,y]/\RV K H v x/\RV K H u y:=by cases r with|cons a t=>cases t with|cons b t=>cases t;exact⟨_,_,rfl,a,b⟩
def Mh(s:String):(iO s).cps.toList=s.toList.map Ş:=by rw[Str.ofString_eq_toList]
def U5:∀(l:List Char) (a:Nat),(l.map Ş).foldl (λI c=>I*10+(c - 48)) a=l.foldl (λa c=>10*a+(c.toNat - 48)) a
 |[],_=>rfl
 |c::l,a=>by rw[Ò,ķ,ķ,U5 l,cP a 10]
def Gy(h1:s.toList≠[])(J:s.toList.all iG.figB=fL)(R:s.length<=640):PySem.intText? (iO s)=fJ ((iG.decN s.toList:Nat):Int):=by
 have I:=Mh s;rw[intText_digits (x:=iO s)]
 .rw[I];unfold NumText.digitsVal iG.decN;rw[U5]
 .rw[I];intro c hm;let⟨d,hd,rfl⟩:=Ü.mp hm;have:=ý.mp J d hd;unfold iG.figB at this;simpa using this
 .rw[I];simpa using h1
 .rw[ZG];lia
variable {h:iG.Hs}
def X9(w:(iG.fZ f vs).wp h Q):∃v,vs=[v]/\(f v).wp h Q:=by
 cases vs with
 |nil=>exact(Zi w).elim
 |cons v vs=>cases vs with
  |nil=>exact⟨v,rfl,w⟩
  |cons _ _=>exact(Zi w).elim
def CP(w:(iG.biOf2 f vs).wp h Q):∃v u,vs=[v,u]/\(f v u).wp h Q:=by
 cases vs with
 |nil=>exact(Zi w).elim
 |cons v vs=>cases vs with
  |nil=>exact(Zi w).elim
  |cons u us=>cases us with
   |nil=>exact⟨v,u,rfl,w⟩
   |cons _ _=>exact(Zi w).elim
def LJ:KS i .int λxs H Q=>((∃i,xs=[.int i]/\Q (.int i) H)\/∃k,xs=[.bl k]/\Q (.int<|if k then 1 else 0) H)\/∃z n,xs=[.str z]/\PySem.intText? z=fJ n/\z.length<=640/\Q (.int n) H:=by
 intro vs G H xs Q Qm g r w c;let⟨v,rfl,w⟩:=X9 w;let⟨x,rfl,I⟩:=r.inv1;cases v with
 |int k=>cases I.int_inv;exact .inl<|.inl ⟨k,rfl,c _ G H _ (gj.refl H) g (.int _)<|Zq w⟩
 |bl k=>cases I.bl_inv;exact .inl<|.inr ⟨k,rfl,c _ G H _ (gj.refl H) g (.int _)<|Zq w⟩
 |str s =>cases I.str_inv;let⟨hl,w⟩:=Wr w;exact .inr ⟨_,_,rfl,Gy hl.2.1 hl.2.2 hl.1,by rw[ZG];exact hl.1,c _ G H _ (gj.refl H) g (.int _)<|Zq w⟩
 |_=>exact(Zi w).elim
def Hf:KS i .max2 λxs H Q=>∃i j,xs=[.int i,.int j]/\Q (.int<|if j > i then j else i) H:=by intro vs G H xs Q Qm g r w c;let⟨v,u,rfl,w⟩:=CP w;let⟨a,b,rfl,rfl,w⟩:=XF w;let⟨x,y,rfl,J,I⟩:=r.inv2;cases J.int_inv;cases I.int_inv;exact⟨a,b,rfl,c _ G H _ (gj.refl H) g (.int _)<|Zq w⟩
def FG:KS i .min2 λxs H Q=>∃i j,xs=[.int i,.int j]/\Q (.int<|if j<i then j else i) H:=by intro vs G H xs Q Qm g r w c;let⟨v,u,rfl,w⟩:=CP w;let⟨a,b,rfl,rfl,w⟩:=XF w;let⟨x,y,rfl,J,I⟩:=r.inv2;cases J.int_inv;cases I.int_inv;exact⟨a,b,rfl,c _ G H _ (gj.refl H) g (.int _)<|Zq w⟩
abbrev Rb(o:Option iG.Ob)(f:List iG.Val->iG.Rs):iG.Rs:=match o with
 |some (.lst xs)=>f xs
 |_=>.no
variable {o:Option iG.Ob}
def Om(w:(Rb o f).wp h Q):∃xs,o=fJ (.lst xs)/\(f xs).wp h Q:=by
 cases o with
 |none=>exact(Zi w).elim
 |some o=>cases o with
  |lst xs=>exact⟨xs,rfl,w⟩
  |_=>exact(Zi w).elim
variable {G:iG.Hs}
def HX{Q:VK}{Qm:iG.Q1}{ys:List iG.Val}{us:List V}(g:RH i G H)(r:RVs i.K H ys us)(w:Qm (.tup ys) G)(c:Cn i H Q Qm):∀l,H l=fK->Q (.ref l) (upd H l<|.tup us):=λl hl=>by have k:=gj.new (o:=.tup us) hl;refine c _ G _ _ k (g.hid k λb o e=>fN ?_) (.tup (.inl fO)<|r.keep k) w;rintro rfl;rw[g.free hl]at e;cases e
def Do:KS i .tuple λxs H Q=>∃p ys,xs=[.ref p]/\((iq i.K H p ys/\∀l,H l=fK->Q (.ref l) (upd H l<|.tup ys))\/(ir i.K H p ys/\Q (.ref p) H)):=by
 intro vs G H xs Q Qm g r w c;let⟨v,rfl,w⟩:=X9 w;let⟨x,rfl,I⟩:=r.inv1;cases v with
 |ref a =>cases I.ref_inv;let⟨ys,e,w⟩:=Om (f:=λxs=>.val<|.tup xs) w;let⟨us,R,J⟩:=g a _ e;exact⟨a,us,rfl,.inl ⟨iq.of R,HX g J (Zq w) c⟩⟩
 |tup ys =>
  cases I with
  |tup hp hr=>exact⟨_,_,rfl,.inr ⟨Zo hp,c _ G H _ (gj.refl H) g (.tup hp hr)<|Zq w⟩⟩
 |_=>exact(Zi w).elim
abbrev kinds:List String:=["int","bool","str","list","tuple","dict"]
def GN(K:Frag):∀t∈["NoneType","bool","int","str","tuple","list","dict"],∀T∈kinds,PySem.W.kitOne K (.type t) (.type T)=fJ (t==T||(t == "bool" && T == "int")):=by intro t ht T hT;simp only[kinds,Å,Õ,or_false]at ht hT;rcases ht with rfl|rfl|rfl|rfl|rfl|rfl|rfl<;>rcases hT with rfl|rfl|rfl|rfl|rfl|rfl<;>rfl
def kn(j:Nat)(h:["NoneType","bool","int","str","tuple","list","dict"][j]?=fJ t:=by rfl):t∈["NoneType","bool","int","str","tuple","list","dict"]:=é h
def A7(g:RH i G H)(r:RV i.K H v x)(e:iG.iE G v=fJ t):TyV i.K H x (.type t)/\t∈["NoneType","bool","int","str","tuple","list","dict"]:=by
 cases v with
 |non=>cases r;cases e;exact⟨.of .non,kn 0⟩
 |bl b=>cases r;cases e;exact⟨.of<|.bl b,kn 1⟩
 |int b=>cases r;cases e;exact⟨.of<|.int b,kn 2⟩
 |str b=>cases r;cases e;exact⟨.of<|.str _,kn 3⟩
 |tup xs=>cases e;cases r with|tup hp hr=>exact⟨.tup<|Zo hp,kn 4⟩
 |scr ns=>cases e;cases r with|scr h=>exact⟨.lst<|Z7 h,kn 5⟩
 |ref a =>
  cases r.ref_inv;simp![iG.iE]at e;cases q:G a with
  |none=>rw[q]at e;cases e
  |some o =>
   rw[q]at e;cases o with
   |lst xs=>cases e;let⟨vs,I,_⟩:=g a _ q;exact⟨.lst<|iq.of I,kn 5⟩
   |dct kvs=>cases e;let⟨ps,I,_⟩:=g a _ q;exact⟨.of<|.dK I,kn 6⟩
   |ins C fs=>cases e
   |exc C=>cases e
   |frz _=>cases e
   |dtp _=>cases e
 |key _ _=>cases e
def R0(hT:T∈kinds)(he:PE X e<|tE X i Φ m)(l:X.K=i.K)(y:Gl X "isinstance")(hm:X.mg "isinstance" = fK)(d:Gl X<|iO T)(U:X.mg (iO T)=fK)(J:ř (iO T)=fJ (.type T))(R:iO T≠"__name__")(M:(iO T==("__debug__" : Str))=fM)(f:Þ [e,.Name (iO T) p2] X.env=(fM,eval e X.env)::Þ [.Name (iO T) p2] X.env) :
  PE X (.Call (.Name "isinstance" p) [e,.Name (iO T) p2] [] í) (tE X i Φ<|.bi (.isi [T])<|.cons m .nil):=by
 refine(Yn Er y hm (by kernel_rfl) (ZK he (ZK (R5 (T:=T) d U J R M) im) f) (he:=f)).imp λσ H Q ⟨env,G,Qm,Em,p,w,c⟩=>?_;refine one p w λv I H1 x s k r q=>?_
 replace q:(iG.Rs.ofO (((iG.iF I v T).bind λb=>(iG.isiAny I v []).map (b || ·)).map .bl)).wp I Qm:=q
 simp![iG.isiAny,iG.iF]at q;cases z:iG.iE I v with
 |none=>rw[z]at q;simp[iG.Rs.ofO]at q
 |some t =>rw[z]at q;simp![œ,ê,iG.Rs.ofO,iG.Rs.wp_val,Ω]at q;let⟨F,C⟩:=A7 k.hp r z;refine⟨x,T,.type t,_,rfl,by rw[l];exact F,by rw[l];exact GN _ t C T hT,c _ I H1 _ s k.hp (.bl _) q⟩
def Uu(h:iG.isLst o=fL):∃xs,o=fJ (.lst xs):=by
 cases o with
 |none=>cases h
 |some o=>cases o with
  |lst xs=>exact⟨xs,rfl⟩
  |_=>cases h
variable {a:Í}
def Co(e:iG.bmL G (.ref a) f=fJ t):∃xs,G a=fJ (.lst xs)/\f a xs=fJ t:=by let⟨xs,J,I⟩:=è.mp (show(iG.fY<|G a).bind (f a)=fJ t from e);exact⟨xs,Bp J,I⟩
def Jm{xs:List iG.Val}{vs:List V}(g:RH i G H)(h:H a=fJ (.lst vs))(ys:List iG.Val)(us:List V)(r:RVs i.K H ys us):gj H (upd H a<|.lst us)/\RH i (iG.upd G a<|.lst ys) (upd H a<|.lst us):=by
 have k:gj H<|upd H a<|.lst us:=gj.put (λxs e=>by rw[h]at e;cases e) λp u e=>by rw[h]at e;cases e
 exact⟨k,g.put k ⟨us,fO,r.keep k⟩⟩
abbrev spF(i:Inf)(P:iG.Pg)(n:Nat)(f:String):Sp:=λvs H Q E=>∃args G Qm Em,RVs i.K H args vs/\RH i G H/\iG.wF P n f args G Qm Em/\Cn i H Q Qm/\∀cls d H',XK1 i H Em cls d H'->E cls d H'
abbrev Dfo(pr:æ)(w:û)(mg:Str->Option Ã)(base:Ĉ)(i:Inf)(P:iG.Pg)(n:Nat)(f:String):Prop :=
 ∃I fd ps,gN pr w i.K mg base (CX1 pr w) (2*n) I fd ps (spF i P n f)/\mg (iO f)=fJ (.ref I)/\PySem.W.keepIn i.K (.ref I)=fL/\Binds i.K fd ps []
variable {e:Expr}{í:Pos}
def Pv(q:X.K=i.K)(D:Dfo X.prog X.w X.mg X.base i P n f)(l:gL (2*n) X.A)(m:Gl X<|iO f)(t:(iO f==("__debug__" : Str))=fM)(ha:PA X (e::es)<|tAr X i (iG.wF P n) ms k)(he:Þ (e::es) X.env=(fM,eval e X.env)::Þ es X.env)(hpl:(ğ í<|Þ es X.env).any (·.1)=fM) :
  PE X (.Call (.Name (iO f) p) (e::es) [] í) (tE X i (iG.wF P n)<|.call f ms):=by
 let⟨y,fd,ps,F,hm,R,hb⟩:=D;rw[<-q]at F R hb;walk_at "B";let⟨env,G,Qm,Em,pr,w,c⟩:=h;refine GE (E:=XK1 i H Em) F l m hm R hb .nil (XW.passes pr.xo) ha t he hpl Â s σ H Q I ⟨env,G,_,Em,pr,w,λvs v H1 xs J g1 r1 hl U=>?_⟩;exact⟨vs,v,Qm,Em,by rw[ì];exact r1,g1,U,c.go J,λcls d H' h=>h.go J⟩
abbrev XKS(i:Inf)(H:Hp)(J:iG.EQ):XK:=λcls _ H'=>∃e c I ad,cls=.ref ad/\i.xc c ad/\gj H H'/\RH i I H'/\J e c I
structure PreS(X:Cx)(i:Inf)(σ:St)(H:Hp)(env:iG.Env)(G:iG.Hs)(Xe:iG.EQ):Prop where
 en:REn i.K H env σ
 hp:RH i G H
 xo:XW X<|XKS i H Xe
def PreS.go(p:PreS X i σ H env G Xe)(k:gj H H1)(r:RH i U H1)(e:REn i.K H1 J R):PreS X i R H1 J U Xe :=
 ⟨e,r,λd σ y s H' a cls l I f ⟨e,c,z,ad,v,t,q,m⟩=>p.xo d σ y s H' a cls l I f ⟨e,c,z,ad,v,t,k.trans q,m⟩⟩
def PreS.pre(p:PreS X i σ H env G Xe):Pre X i σ H env G (Xe env) :=
 ⟨p.en,p.hp,λJ σ m s H' a cls R I f ⟨c,q,ad,l,k,d,U⟩=>p.xo J σ m s H' a cls R I f ⟨env,c,q,ad,l,k,d,U⟩⟩
structure EOk(i:Inf)(H:Hp)(D:Ends)(N:iG.NQ)(R:iG.Q1)(B C:iG.NQ):Prop where
 nx:∀š ū G' H',gj H H'->RH i G' H'->REn i.K H' š ū->N š G'->D.nx ū H'
 rt:∀v G' H' x,gj H H'->RH i G' H'->RV i.K H' v x->R v G'->D.rt x H'
 bk:∀š ū G' H',gj H H'->RH i G' H'->REn i.K H' š ū->B š G'->D.bk ū H'
 ct:∀š ū G' H',gj H H'->RH i G' H'->REn i.K H' š ū->C š G'->D.ct ū H'
def EOk.go(e:EOk i H D N R B C)(k:gj H H1):EOk i H1 D N R B C :=
 ⟨λa b c d I=>e.nx a b c d<|k.trans I,λa b c d I=>e.rt a b c d<|k.trans I,λa b c d I=>e.bk a b c d<|k.trans I,λa b c d I=>e.ct a b c d<|k.trans I⟩
inductive tStx (X:Cx) (i:Inf) (Φ:iG.Fs) (m:iG.S) (D:Ends) (σ:St) (H:Hp):Prop
 |mk (env:iG.Env) (G:iG.Hs) (N:iG.NQ) (R:iG.Q1) (B C:iG.NQ) (Xe:iG.EQ) (p:PreS X i σ H env G Xe) (w:iG.wS Φ m env G N R B C Xe) (e:EOk i H D N R B C)
abbrev tSt(X:Cx)(i:Inf)(Φ:iG.Fs)(m:iG.S):TS:=tStx X i Φ m
inductive tBlx (X:Cx) (i:Inf) (Φ:iG.Fs) (m:iG.Ss) (D:Ends) (σ:St) (H:Hp):Prop
 |mk (env:iG.Env) (G:iG.Hs) (N:iG.NQ) (R:iG.Q1) (B C:iG.NQ) (Xe:iG.EQ) (p:PreS X i σ H env G Xe) (w:iG.wSs Φ m env G N R B C Xe) (e:EOk i H D N R B C)
abbrev tBl(X:Cx)(i:Inf)(Φ:iG.Fs)(m:iG.Ss):TS:=tBlx X i Φ m
variable {st:ľ}
def _root_.L2.PS.imp(h:PS X st t)(f:∀D σ H,t' D σ H->t D σ H):PS X st t':=λJ s σ H D I q=>h J s σ H D I (f D σ H q)
def _root_.L2.PSs.imp{st:List ľ}(h:PSs X st t)(f:∀D σ H,t' D σ H->t D σ H):PSs X st t':=λJ s σ H D I q=>h J s σ H D I (f D σ H q)
def Qh:PSs X []<|tBl X i Φ .nil:=pss_nil.imp λD σ H ⟨env,G,N,R,B,C,Xe,p,w,c⟩=>by exact c.nx env σ G H (gj.refl H) p.hp p.en w
def Il{I:List ľ}{m:iG.S}{ms:iG.Ss}(h1:PS X st<|tSt X i Φ m)(d:PSs X I<|tBl X i Φ ms):PSs X (st::I) (tBl X i Φ<|.cons m ms) :=
 (Dt h1 d).imp λD σ H ⟨env,G,N,R,B,C,Xe,p,w,c⟩=>by exact⟨env,G,_,R,B,C,Xe,p,w,⟨λJ l f H' k g e U=>⟨J,f,N,R,B,C,Xe,p.go k g e,U,c.go k⟩,c.rt,c.bk,c.ct⟩⟩
def PD(he:PE X e<|tE X i Φ m):PS X (.Return (fJ e) í) (tSt X i Φ<|.ret m) :=
 (Qx he).imp λD σ H ⟨env,G,N,R,B,C,Xe,p,w,c⟩=>by exact⟨env,G,R,Xe env,p.pre,w,c.rt⟩
def GY:PS X (.Return fK í) (tSt X i Φ .retN) :=
 ps_retN.imp λD σ H ⟨env,G,N,R,B,C,Xe,p,w,c⟩=>by exact c.rt _ G H _ (gj.refl H) p.hp .non w
def Gr(he:PE X e<|tE X i Φ m)(U:μ e fK í.line X.env=pure fM):PS X (.Expr e í) (tSt X i Φ<|.expr m) :=
 (GG he U).imp λD σ H ⟨env,G,N,R,B,C,Xe,p,w,c⟩=>by exact⟨env,G,_,Xe env,p.pre,w,λv d H1 x I g1 r1 J=>c.nx env σ d H1 I g1 (p.en.keep I) J⟩
def PV{t:Expr}{a b:List ľ}{mt:iG.Tt}{ma mb:iG.Ss}(ht:PT X t<|tTt X i Φ mt)(ha:PSs X a<|tBl X i Φ ma)(hb:PSs X b<|tBl X i Φ mb):PS X (.If t a b í) (tSt X i Φ<|.ite mt ma mb) :=
 (Rx ht ha hb).imp λD σ H ⟨env,G,N,R,B,C,Xe,p,w,c⟩=>by
  refine⟨env,G,_,Xe env,p.pre,w,λd J H1 I g1 q=>?_⟩;cases d with
  |true=>exact⟨env,J,N,R,B,C,Xe,p.go I g1<|p.en.keep I,⇑q,c.go I⟩
  |false=>exact⟨env,J,N,R,B,C,Xe,p.go I g1<|p.en.keep I,⇑q,c.go I⟩
abbrev gPt(i:Inf)(p:iG.Pt):TG:=λx σ H Q=>∃v env G J,RV i.K H v x/\RH i G H/\REn i.K H env σ/\iG.bind p G v env=fJ J/\∀I,REn i.K H J I->Q I H
variable {tg:Expr}
def _root_.L2.PG.imp{t t':TG}(h:PG X tg t)(f:∀v σ H Q,t' v σ H Q->t v σ H Q):PG X tg t':=λJ s σ H v u Q I r q=>h J s σ H v u Q I r (f v σ H Q q)
def _root_.L2.PGs.imp{tg:List Expr}{t t':TGs}(h:PGs X tg t)(f:∀v σ H Q,t' v σ H Q->t v σ H Q):PGs X tg t':=λJ s σ H v u Q I r q=>h J s σ H v u Q I r (f v σ H Q q)
variable {x:Str}{j:Nat}
def US(J:X.N.Nodup)(hi:X.N[j]?=fJ x)(I:Loc X.env.scope x)(hf:X.fn x=fL\/X.env.scope.names.lookup x=fJ .local):PG X (.Name x í) (gPt i<|.one j) :=
 (Aq J hi I hf).imp λv σ H Q ⟨u,env,G,R,r,g,e,b,h⟩=>by cases b;exact h _<|e.set r j
abbrev ET(i:Inf)(R:List Nat):TGs:=λxs σ H Q=>∃vs env J,RVs i.K H vs xs/\REn i.K H env σ/\iG.bindL R vs env=fJ J/\∀I,REn i.K H J I->Q I H
def Gi:PGs X []<|ET i []:=pgs_nil.imp λxs σ H Q ⟨vs,env,I,r,e,b,h⟩=>by
 cases vs with
 |nil=>cases r;cases b;exact⟨rfl,h _ e⟩
 |cons _ _=>cases b
def DO(U:X.N.Nodup)(hi:X.N[j]?=fJ x)(J:Loc X.env.scope x)(hf:X.fn x=fL\/X.env.scope.names.lookup x=fJ .local)(d:PGs X es<|ET i js)(R:(Ģ (.Name x í::es) X.env).map (·.2)=ο (.Name x í) X.env::(Ģ es X.env).map (·.2)):PGs X (.Name x í::es) (ET i<|j::js) :=
 (Km (Aq U hi J hf) d R).imp λxs σ H Q ⟨vs,env,I,r,e,b,h⟩=>by
  cases vs with
  |nil=>cases b
  |cons v vs =>
   cases r with
   |cons r t=>exact⟨_,_,rfl,vs,env.set j<|fJ v,I,t,e.set r j,b,h⟩
def Mf:∀{js:List Nat}{vs:List iG.Val}{env I:iG.Env},iG.bindL js vs env=fJ I->vs.length=js.length
 |[],[],_,_,_=>rfl
 |j::js,v::vs,env,_,h=>by rw[Ñ,Ñ,Mf<|show iG.bindL js vs (env.set j<|fJ v)=_ from h]
 |[],_::_,_,_,h=>by cases h
 |_::_,[],_,_,h=>by cases h
def AB(R:X.K=i.K)(J:X.calm=fL)(h:PGs X es<|ET i js)(hn:(Ģ es X.env).length=js.length)(I:(Ģ es X.env).findIdx? (·.1)=fK):PG X (.Tuple es k í) (gPt i<|.many js) :=
 (Fo (n:=js.length) J h hn I).imp λv σ H Q ⟨u,env,G,Ō,r,g,e,b,h⟩=>by
  cases u with
  |tup vs =>
   have b:iG.bindL js vs env=fJ Ō:=b;cases r with
   |tup hp hr=>exact⟨_,_,rfl,by rw[R];exact Zo hp,by rw[<-hr.length];exact Mf b,vs,env,Ō,hr,e,b,h⟩
  |_=>cases b
def Hr(l:X.K=i.K)(f:X.calm=fL)(h1:PG X (.Name x J)<|gPt i<|.one j)(q:PG X (.Tuple es R p2)<|gPt i<|.many js):PG X (.Tuple [.Name x J,.Tuple es R p2] k í) (gPt i<|.nest j js) :=
 (Fo (n:=2) f (Km h1 (Km q pgs_nil rfl) rfl) rfl rfl).imp λv σ H Q ⟨u,env,G,Ō,r,g,e,b,h⟩=>by
  cases u with
  |tup vs =>
   cases vs with
   |nil=>cases b
   |cons x0 vs=>cases vs with
    |nil=>cases b
    |cons y vs=>cases vs with
     |cons _ _=>cases b
     |nil =>
      have b:(iG.tupOf y).bind (λd=>iG.bindL js d<|env.set j<|fJ x0)=fJ Ō:=b;cases r with
      |tup hp hr =>
       cases hr with
       |cons r0 t=>cases t with
        |cons r1 t =>cases t;exact⟨_,_,rfl,by rw[l];exact Zo hp,rfl,_,_,rfl,x0,env,G,_,r0,g,e,rfl,λU z=>⟨_,_,rfl,y,_,G,Ō,r1,g,z,b,λI s=>⟨rfl,h I s⟩⟩⟩
  |_=>cases b
def PL(he:PE X e<|tE X i Φ m)(l:PG X tg<|gPt i q)(k:ŵ [tg] e í.line X.env=pure fM)(hw:ϖ [tg] e X.env=pure fK)(h1:(Ģ [tg] X.env).map (·.2)=[ο tg X.env]):PS X (.Assign [tg] e í) (tSt X i Φ<|.set q m) :=
 (UO he l k hw h1).imp λD σ H ⟨env,G,N,R,B,C,Xe,p,w,c⟩=>by refine⟨env,G,_,Xe env,p.pre,w,λv f H1 x d g1 r1 J=>?_⟩;let⟨U,t,J⟩:=fQ J;exact⟨v,env,f,U,r1,g1,p.en.keep d,t,λI s=>c.nx U I f H1 d g1 s J⟩
abbrev EG:V->V->V->Hp->(Hp->Prop)->Prop:=λo y v H Q=>IZ o y v H Q\/IV o y v H Q
def Et{G G3:iG.Hs}{H:Hp}{o k v:iG.Val}{y z x:V}{Q:Hp->Prop}(g:RH i G H)(F:RV i.K H o y)(l:RV i.K H k z)(q:RV i.K H v x)(e:iG.gW G o k v=fJ G3)(c:∀s,gj H s->RH i G3 s->Q s):EG y z x H Q:=by
 cases o with
 |ref b =>
  cases F.ref_inv
  replace e:(match G b with|some (.lst xs)=>(iG.iC k).bind λn=>(iG.ixN xs.length n).map λj=>iG.upd G b (.lst<|xs.set j v)|some (.dct kvs)=>if iG.f9 k/\kvs.length<iG.lim then fJ (iG.upd G b<|.dct<|iG.gp kvs k v)else fK|some (.dtp kvs)=>if iG.isKeyT k/\kvs.length<iG.lim then fJ (iG.upd G b<|.dtp<|iG.gp kvs k v)else fK|_=>fK)=fJ G3:=e
  cases z4:G b with
  |none=>rw[z4]at e;cases e
  |some o =>
   rw[z4]at e;cases o with
   |lst xs =>let⟨n,hn,e⟩:=è.mp e;let⟨f,C,rfl⟩:=Ï.mp e;cases ZC hn;cases l.int_inv;let⟨vs,J,I⟩:=g b _ z4;rw[MT,I.length]at C;let⟨R,g3⟩:=Jm (xs:=xs) g J (xs.set f v) (vs.set f x)<|I.set q f;exact .inl ⟨b,vs,n,f,rfl,rfl,J,C,c _ R g3⟩
   |dct kvs =>let⟨U,e⟩:=Zl (show(if iG.f9 k/\kvs.length<iG.lim then fJ (iG.upd G b<|.dct<|iG.gp kvs k v)else fK)=fJ G3 from e);cases e;let⟨ps,J,I⟩:=g b _ z4;let⟨d,M,rfl⟩:=f6 U.1 l;let⟨R,g3⟩:=MM (kvs:=kvs) g J<|I.put M q;exact .inr ⟨b,_,rfl,DPut.k J (by rw[<-RKs.length I];exact å U.2 Yj),c _ R g3⟩
   |dtp kvs =>let⟨U,e⟩:=Zl (show(if iG.isKeyT k/\kvs.length<iG.lim then fJ (iG.upd G b<|.dtp<|iG.gp kvs k v)else fK)=fJ G3 from e);cases e;let⟨ps,J,I⟩:=g b _ z4;let⟨a1,a2,d,rfl,rfl,hd⟩:=Wj U.1 l;let⟨R,g3⟩:=Hm g J<|I.put (i:=a1) (j:=a2) q;exact .inr ⟨b,_,rfl,DPut.t J hd (by rw[<-RTs.length I];exact å U.2 Yj),c _ R g3⟩
   |_=>cases e
 |_=>cases e
def Ck{a j:Expr}{I:Pos}(W:X.K=i.K)(he:PE X e<|tE X i Φ m)(ha:PE X a<|tE X i Φ ma)(V:PE X j<|tE X i Φ J)(d:PG X (.Subscript a j I)<|RZ (tE X i Φ ma) (tE X i Φ J) EG)(M:ŵ [.Subscript a j I] e í.line X.env=pure fM)(hw:ϖ [.Subscript a j I] e X.env=pure fK)(h1:(Ģ [.Subscript a j I] X.env).map (·.2)=[ο (.Subscript a j I) X.env]):PS X (.Assign [.Subscript a j I] e í) (tSt X i Φ<|.setIdx ma J m) :=
 (UO he d M hw h1).imp λD σ H ⟨env,G,N,R,B,C,Xe,p,w,c⟩=>by refine⟨env,G,_,Xe env,p.pre,w,λv G1 H1 x U g1 r1 s=>?_⟩;refine two (p.go U g1<|p.en.keep U).pre s λo k G2 H2 y z l p2 F t q=>?_;let⟨G3,O,q⟩:=fQ q;exact Et p2.hp F t (r1.keep l) O λH3 f g3=>c.nx env σ _ _ ((U.trans l).trans f) g3 (p2.en.keep f) q
structure ItOk(i:Inf)(H0:Hp)(J:It)(st:iG.Hs->Prop)(xs:List iG.Val):Prop where
 go:∀n G H v,gj H0 H->RH i G H->st G->xs[n]?=fJ v->J.go n H/\∀x H',J.yld n H x H'->gj H H'/\RH i G H'/\RV i.K H' v x
 stop:∀n G H,gj H0 H->RH i G H->st G->xs.length<=n->J.stop n H
abbrev tIt(X:Cx)(i:Inf)(Φ:iG.Fs)(m:iG.It):TI:=λσ H R=>∃env G I Em,Pre X i σ H env G Em/\iG.wI Φ m env G I Em/\∀st xs U H' J,gj H H'->RH i U H'->ItOk i H' J st xs->I st xs U->R J H'
variable {tg:Expr}{e:Expr}
def _root_.L2.PI.imp{t t':TI}(h:PI X tg e t)(f:∀σ H Q,t' σ H Q->t σ H Q):PI X tg e t':=λJ s σ H Q I q=>h J s σ H Q I (f σ H Q q)
abbrev T6(K:Frag)(tl:TE):TI:=λσ H R=>tl σ H λx H1=>∃a,x=.ref a/\(((∃xs,iq K H1 a xs)/\R (Itl K a) H1)\/((∃xs,ir K H1 a xs)/\R (Itt K a) H1))
def LH(hl:PE X l tl):PI X tg l<|T6 X.K tl:=by
 intro k s σ H R I h;refine thn (hl k s σ H _ I h) λv s1 ⟨x,H1,J,r1,U⟩=>?_;let⟨a,e,U⟩:=U;subst e;cases r1;rcases U with⟨⟨xs,d⟩,q⟩|⟨⟨xs,d⟩,q⟩
 .obtain⟨f,y,p,z⟩:=J.list d;refine Ţ p.isList ?_;refine⟨s1.heap.objs.size,[s1.heap.objs.size],_,_,H1,rfl,J.kept (t':=s1.toks) λb o e=>Ä _ e,Bc a _,⟨_,Ú _ rfl,rfl,rfl⟩,λb hb=>?_,q⟩;have e:b=s1.heap.objs.size:=⇑hb
  subst e;exact J.fpOk (Ì _)<|J.hok.fresh<|Ì _
 .obtain⟨f,y,p,z⟩:=J.tuple d;refine wpAny_pyIter_tuple (show s1.heap.IsTuple a f.toArray from p) ?_;refine⟨s1.heap.objs.size,[s1.heap.objs.size],_,_,H1,rfl,J.kept (t':=s1.toks) λb o e=>Ä _ e,Uw a _,⟨_,Ú _ rfl,rfl,rfl⟩,λb hb=>?_,q⟩;have e:b=s1.heap.objs.size:=⇑hb
  subst e;exact J.fpOk (Ì _)<|J.hok.fresh<|Ì _
variable {H0:Hp}{a:Í}{xs:List iG.Val}
def it_lst:ItOk i H0 (Itl i.K a) (λg=>iG.fY (g a)=fJ xs) xs where
 go:=λn G H v _ g e U=>by let⟨vs,I,J⟩:=Zy g e;let⟨x,R,d⟩:=J.get U;refine⟨⟨vs,x,I,R⟩,λy H' ⟨k,f⟩=>?_⟩;subst k;have:=f vs I;rw[R]at this;cases this;exact⟨gj.refl _,g,d⟩
 stop:=λn G H _ g e hn=>by let⟨vs,I,J⟩:=Zy g e;exact⟨vs,I,by rw[<-J.length];exact hn⟩
def it_tup{vs:List V}(hp:H0 a=fJ (.tup vs)\/KT i.K a vs)(J:RVs i.K H0 xs vs):ItOk i H0 (Itt i.K a) (λ_=>True) xs where
 go:=λn G H v k g e U=>by have I:H a=fJ (.tup vs)\/KT i.K a vs:=hp.imp (k.t _ _) id;let⟨x,R,d⟩:=(J.keep k).get U;refine⟨⟨vs,x,Zo I,R⟩,λy H' ⟨l,f⟩=>?_⟩;subst l;have:=f vs<|Zo I;rw[R]at this;cases this;exact⟨gj.refl _,g,d⟩
 stop:=λn G H k g e hn=>by have I:H a=fJ (.tup vs)\/KT i.K a vs:=hp.imp (k.t _ _) id;exact⟨vs,Zo I,by rw[<-J.length];exact hn⟩
def it_scr{ns:List Int}(h:(∃o,H0 a=fJ (.frz o<|.lst<|ns.map V.int))\/KL i.K a (ns.map V.int)):ItOk i H0 (Itl i.K a) (λ_=>True) (ns.map .int) where
 go:=λn G H v k g e R=>by have J:iq i.K H a<|ns.map V.int:=Z7<|h.imp (λ⟨o,e⟩=>⟨o,k.f _ _ _ e⟩) id;let⟨x,I,U⟩:=(RVs.ints (K:=i.K) (H:=H) ns).get R;refine⟨⟨_,x,J,I⟩,λy H' ⟨l,d⟩=>?_⟩;subst l;have:=d _ J;rw[I]at this;cases this;exact⟨gj.refl _,g,U⟩
 stop:=λn G H k g e hn=>⟨_,Z7<|h.imp (λ⟨o,e⟩=>⟨o,k.f _ _ _ e⟩) id,⇑hn⟩
def EU{lo:Int}(hn:n=(hi - lo).toNat):ItOk i H0 (Itr lo n) (λ_=>True) (iG.gO lo hi) where
 go:=λk G H v _ g _ I=>by
  unfold iG.gO at I;rw[Ø]at I;have J:k<(hi - lo).toNat:=by
   by_cases h:k<(hi - lo).toNat
   .exact h
   .rw[ł<|by simpa using h]at I;cases I
  rw[List.getElem?_range J]at I;cases I;refine⟨by rw[hn];exact J,λx H' ⟨U,R⟩=>?_⟩;subst U R;exact⟨gj.refl _,g,.int _⟩
 stop:=λk G H _ g _ J=>by unfold iG.gO at J;show n<=k;simp at J;lia
def PZ(k:X.K=i.K)(he:PE X e<|tE X i Φ m):PI X tg e (tIt X i Φ<|.seq m) :=
 (LH he).imp λσ H R ⟨env,G,t,Em,p,w,c⟩=>by
  refine one p w λv U H1 x f J r q=>?_;let⟨⟨st,xs⟩,I,d⟩:=fQ q;clear q;rw[k];cases v with
  |tup ys =>
   cases I;cases r with
   |tup hp hr=>exact⟨_,rfl,.inr ⟨⟨_,Zo hp⟩,c _ _ U H1 _ f J.hp (it_tup hp hr) d⟩⟩
  |scr ns =>
   cases I;cases r with
   |scr h=>exact⟨_,rfl,.inl ⟨⟨_,Z7 h⟩,c _ _ U H1 _ f J.hp (it_scr h) d⟩⟩
  |ref a =>
   cases r.ref_inv;simp![iG.itV]at I;cases z:iG.fY (U a)with
   |none=>rw[z]at I;cases I
   |some ys =>rw[z]at I;cases I;let⟨vs,l,s⟩:=Zy J.hp z;exact⟨a,rfl,.inl ⟨⟨vs,l⟩,c _ _ U H1 _ f J.hp it_lst d⟩⟩
  |_=>cases I
variable {p:Pos}{í:Pos}
def EL{a:Expr}(f:Gl X "range")(hm:X.mg "range" = fK)(ha:PE X a<|tE X i Φ m)(J:Þ [a] X.env=[(fM,eval a X.env)]):PI X tg (.Call (.Name "range" p) [a] [] í) (tIt X i Φ<|.range m) :=
 (BO f hm (ZK ha im<|by rw[J];rfl) J).imp λσ H R ⟨env,G,s,Em,p,w,c⟩=>by refine one p w λv l H1 x d U r q=>?_;let⟨n,k,I⟩:=fQ q;clear q;cases ZC k;cases r.int_inv;exact⟨n,rfl,I.1.1,I.1.2,c _ _ l H1 _ d U.hp (EU<|by rw[Int.sub_zero]) I.2⟩
def BS{a b:Expr}(t:Gl X "range")(hm:X.mg "range" = fK)(ha:PE X a<|tE X i Φ ma)(hb:PE X b<|tE X i Φ mb)(d:Þ [a,b] X.env=[(fM,eval a X.env),(fM,eval b X.env)])(I:Þ [b] X.env=[(fM,eval b X.env)]) :
  PI X tg (.Call (.Name "range" p) [a,b] [] í) (tIt X i Φ<|.range2 ma mb) :=
 (AW t hm (ZK ha (ZK hb im<|by rw[I];rfl)<|by rw[d,I]) d I).imp λσ H R ⟨env,G,M,Em,p,w,c⟩=>by refine two p w λv u F H1 x y s l k f q=>?_;let⟨n,C,U⟩:=fQ q;let⟨m,z,J⟩:=fQ U;clear q U;cases ZC C;cases ZC z;cases k.int_inv;cases f.int_inv;exact⟨n,m,rfl,J.1,c _ _ F H1 _ s l.hp (EU rfl) J.2⟩
def Px(hp:ao ↥2 X.A X.env X.xe)(hc:X.calm=fL)(hi:PI X tg iter<|tIt X i Φ mi)(hg:PG X tg<|gPt i q)(hb:PSs X body<|tBl X i Φ mb)(hs:∀x,Ĝ iter X.env x=pure x):PS X (.For tg iter body [] í) (tSt X i Φ<|.for q mi mb) :=
 (Dw hp hc hi hg hb hs).imp λD σ H ⟨env,G,N,R,B,C,Xe,p,w,c⟩=>by
  refine⟨env,G,_,Xe env,p.pre,w,λst xs G1 H1 J W g1 it w1=>?_⟩;refine⟨λn m z H'=>n+m=xs.length/\∃s U,gj H1 H'/\RH i U H'/\REn i.K H' s z/\iG.wFor st (λv e g K M=>iG.go (iG.bind q g v e) λk=>iG.wSs Φ mb k g K R M K Xe) N (xs.drop n) s U,⟨xs.length,by lia,env,G1,gj.refl _,g1,p.en.keep W,⇑w1⟩,?_⟩;rintro n m z H' ⟨hnm,s,U,f,g2,k,d⟩;by_cases hn:n<xs.length
  .right;have hd:xs.drop n=xs[n]::xs.drop (n+1):=ť hn;rw[hd]at d;let⟨s2,d⟩:=d;have hv:xs[n]?=fJ xs[n]:=É hn;let⟨a1,a2⟩:=it.go n U H' xs[n] f g2 s2 hv;refine⟨a1,λl H3=>∃I G3,gj H1 H3/\RH i G3 H3/\REn i.K H3 I l/\iG.wFor st (λv e g K M=>iG.go (iG.bind q g v e) λk=>iG.wSs Φ mb k g K R M K Xe) N (xs.drop<|n+1) I G3,λl H3 h=>⟨m - 1,by lia,by lia,h⟩,λx H3 hy=>?_⟩;let⟨t,g3,r3⟩:=a2 x H3 hy;let⟨dy,e4,w4⟩:=fQ d;refine⟨xs[n],s,U,dy,r3,g3,k.keep t,e4,λσ4 h4=>?_⟩;have O:gj H H3:=(W.trans f).trans t;refine⟨dy,U,_,R,N,_,Xe,p.go O g3 h4,w4,⟨λeM y G5 H5 V g5 e5 F=>?_,(c.go O).rt,(c.go O).nx,λeM y G5 H5 V g5 e5 F=>?_⟩⟩
   .exact⟨eM,G5,(f.trans t).trans V,g5,e5,F⟩
   .exact⟨eM,G5,(f.trans t).trans V,g5,e5,F⟩
  .left;have hd:xs.drop n=[]:=Ĺ ↥0;rw[hd]at d;exact⟨it.stop n U H' f g2 d.1 ↥0,c.nx s z U H' (W.trans f) g2 k d.2⟩
def LB:KS i .len λxs H Q=>((∃p ys,xs=[.ref p]/\(iq i.K H p ys\/ir i.K H p ys)/\Q (.int ys.length) H)\/∃z,xs=[.str z]/\z.length<=à/\Q (.int z.length) H)\/∃a kvs,xs=[V.ref a]/\H a=fJ (.dK kvs)/\Q (.int kvs.length) H:=by
 intro vs G H xs Q Qm g r w c;let⟨v,rfl,w⟩:=X9 w;let⟨x,rfl,I⟩:=r.inv1;cases v with
 |ref a =>
  cases I.ref_inv
  replace w:(match G a with|some (.lst xs)=>.val (.int xs.length)|some (.dct kvs)=>.val (.int kvs.length)|_=>.no:iG.Rs).wp G Qm:=w
  cases z:G a with
  |none=>rw[z]at w;exact(Zi w).elim
  |some o =>
   rw[z]at w;cases o with
   |lst ys =>let⟨us,R,J⟩:=g a _ z;refine .inl<|.inl ⟨a,us,rfl,.inl<|iq.of R,?_⟩;rw[<-J.length];exact c _ G H _ (gj.refl H) g (.int _)<|Zq w
   |dct kvs =>let⟨ps,R,J⟩:=g a _ z;refine .inr ⟨a,ps,rfl,R,?_⟩;rw[<-J.length];exact c _ G H _ (gj.refl H) g (.int _)<|Zq w
   |_=>exact(Zi w).elim
 |tup ys =>
  cases I with
  |tup hp hr =>refine .inl<|.inl ⟨_,_,rfl,.inr<|Zo hp,?_⟩;rw[<-hr.length];exact c _ G H _ (gj.refl H) g (.int _)<|Zq w
 |scr ns =>
  cases I with
  |scr h =>refine .inl<|.inl ⟨_,_,rfl,.inl<|Z7 h,?_⟩;rw[Á];exact c _ G H _ (gj.refl H) g (.int _)<|Zq w
 |str s =>cases I.str_inv;let⟨hl,w⟩:=Wr w;refine .inl (.inr ⟨_,rfl,by rw[ZG];exact Ù hl Yj,?_⟩);rw[ZG];exact c _ G H _ (gj.refl H) g (.int _)<|Zq w
 |_=>exact(Zi w).elim
def GU:KS i .list λxs H Q=>∃p ys,xs=[.ref p]/\(iq i.K H p ys\/ir i.K H p ys)/\∀l,H l=fK->Q (.ref l) (upd H l<|.lst ys):=by
 intro vs G H xs Q Qm g r w c;let⟨v,rfl,w⟩:=X9 w;let⟨x,rfl,I⟩:=r.inv1;cases v with
 |ref a =>cases I.ref_inv;let⟨ys,e,w⟩:=Om (f:=λxs=>.new<|.lst xs) w;let⟨us,R,J⟩:=g a _ e;exact⟨a,us,rfl,.inl<|iq.of R,Z2 g (W0 w) c λp hp=>⟨_,fO,J.keep<|gj.new hp⟩⟩
 |tup ys =>
  cases I with
  |tup hp hr=>exact⟨_,_,rfl,.inr<|Zo hp,Z2 g (W0 w) c λp hp=>⟨_,fO,hr.keep<|gj.new hp⟩⟩
 |_=>exact(Zi w).elim
def Cb{K:Frag}:∀{xs:List iG.Val}{bs:List Bool}{vs:List V},iG.blsOf xs=fJ bs->RVs K H xs vs->vs=bs.map V.bl:=by
 intro xs;induction xs with
 |nil=>intro bs vs e r;cases e;cases r;rfl
 |cons v xs ih =>
  intro bs vs e r;cases v<;>first|(cases e;done)|skip
  case bl b =>
  simp![iG.blsOf]at e;cases z:iG.blsOf xs with
  |none=>rw[z]at e;cases e
  |some ns=>rw[z]at e;cases e;cases r with|cons a t=>cases a.bl_inv;rw[ih z t];rfl
def Qk{o:Option iG.Val}{h:iG.Hs}{Q:iG.Q1}(w:(iG.Rs.ofO o).wp h Q):∃v,o=fJ v/\Q v h:=by
 cases o with
 |none=>exact(Zi w).elim
 |some v=>exact⟨v,rfl,Zq w⟩
def QE:KS i .all λxs H Q=>∃p,∃bs:List Bool,xs=[.ref p]/\iq i.K H p (bs.map V.bl)/\Q (.bl<|bs.all id) H:=by
 intro vs G H xs Q Qm g r w c;let⟨v,rfl,w⟩:=X9 w;let⟨x,rfl,I⟩:=r.inv1;cases v with
 |ref a =>cases I.ref_inv;let⟨v,e,w⟩:=Qk w;let⟨U,z,e⟩:=è.mp e;let⟨bs,z2,rfl⟩:=Ï.mp e;let⟨us,R,J⟩:=Zy g z;have:=Cb z2 J;subst this;exact⟨a,bs,rfl,R,c _ G H _ (gj.refl H) g (.bl _) w⟩
 |_=>exact(Zi w).elim
def Cv(ds:List iG.D)(d:iG.D):(toDs ds).any (λe=>ĭ e<|toD d)=ds.any λe=>iG.D.eqv e d:=by
 induction ds with
 |nil=>rfl
 |cons e es ih=>simp![toDs,Ħ,ih,MS]
variable {y:V}{ys:List iG.Val}
def UY(g:RH i G H){v u:iG.Val}{x:V}{c:Bool}(I:RV i.K H v x)(e:iG.inL G v ys=fJ c)(J:∀ds,ys.mapM (iG.dat G<|iG.deep - 1)=fJ ds->IsD i.K H y (.tuple<|toDs ds)\/IsD i.K H y (.list<|toDs ds)) :
  ∃ds d,(IsD i.K H y (.tuple ds)\/IsD i.K H y (.list ds))/\IsD i.K H x d/\ŕ ds=fL/\d.canLay0=fL/\d.depth<=64/\ds.any (λe=>ĭ e d)=c:=by
 unfold iG.inL at e;cases z:iG.dat G iG.deep v with
 |none=>rw[z]at e;cases e
 |some d =>
  rw[z]at e;simp![ê]at e;cases z2:ys.mapM (iG.dat G<|iG.deep - 1)with
  |none=>rw[z2]at e;cases e
  |some ds =>rw[z2]at e;cases e;exact⟨_,_,J ds z2,Wo g _ _ _ _ z I,toDs_lay ds,Na d,Ù (Mj _ _ _ z) ↥1,Cv ds d⟩
def AN(g:RH i G H)(I:RV i.K H u y)(J:u=.tup ys\/∃a,u=.ref a/\iG.fY (G a)=fJ ys):∀ds,ys.mapM (iG.dat G<|iG.deep - 1)=fJ ds->IsD i.K H y (.tuple<|toDs ds)\/IsD i.K H y (.list<|toDs ds):=by
 intro ds hd;rcases J with rfl|⟨a,rfl,hl⟩
 .left;have:=Wo g iG.deep (.tup ys) (.tup ds) y (by show Option.map _ (List.mapM (iG.dat G<|iG.deep - 1) ys)=_;rw[hd];rfl) I;simpa[toD]using this
 .right;have:=Wo g iG.deep (.ref a) (.lst ds) y (by show(iG.fY<|G a).bind _=_;rw[hl];show Option.map _ (List.mapM (iG.dat G<|iG.deep - 1) ys)=_;rw[hd];rfl) I;simpa[toD]using this
def PR(s t:String)(c:Char)(h:iG.oneC s=fJ c):(!(Builtin.Str.occurrences (iO t) (iO s) 0 (iO t).length 1).isEmpty)=iN (c∈t.toList):=by
 have e:iO s=⟨#[c.toNat]⟩:=by
  unfold iG.oneC at h;split at h
  .rename_i d hd;cases h;rw[Str.ofString_eq_toList,hd];rfl
  .cases h
 rw[e,StrLaws.found_one,Mh];have inj:∀{a b:Char},a.toNat=b.toNat->a=b:=λ{a b} e=>Char.ext<|bX e;by_cases I:c∈t.toList
 .rw[iK I,iL];exact ñ I
 .rw[iJ I,decide_eq_false_iff_not];intro m;let⟨d,hd,he⟩:=Ü.mp m;exact I<|inj he▸hd
abbrev SK(K:Frag):R2:=λx y H Q=>GF fM x y H Q\/HV K fM x y H Q\/∃i j,x=.str i/\y=.str j/\Q (.bl (!(Builtin.Str.occurrences j i 0 j.length 1).isEmpty)) H
abbrev RN(K:Frag):R2:=λx y H Q=>GF fL x y H Q\/HV K fL x y H Q\/∃i j,x=.str i/\y=.str j/\Q (.bl (!(!(Builtin.Str.occurrences j i 0 j.length 1).isEmpty))) H
def Tv(I:X.A.units+65<Ī):OpR X (î .In)<|SK X.K:=(QN<|by lia).or ((Pe I).or Cj)
def Vf(I:X.A.units+65<Ī):OpR X (î .NotIn)<|RN X.K:=(LZ<|by lia).or ((BX I).or M6)
def Li{v u:iG.Val}{G:iG.Hs}{H:Hp}{x y:V}{b:Bool}(g:RH i G H)(J:RV i.K H v x)(I:RV i.K H u y)(e:iG.inV G v u=fJ b) :
  (∃ds d,(IsD i.K H y (.tuple ds)\/IsD i.K H y (.list ds))/\IsD i.K H x d/\ŕ ds=fL/\d.canLay0=fL/\d.depth<=64/\ds.any (λe=>ĭ e d)=b)\/
  (∃j k,x=.str j/\y=.str k/\(!(Builtin.Str.occurrences k j 0 k.length 1).isEmpty)=b)\/∃a o,y=.ref a/\DGet H a x o/\o.isSome=b:=by
 cases u with
 |tup ys=>exact .inl<|UY (u:=.tup ys) g J e<|AN g I<|.inl rfl
 |ref a =>
  replace e:(match G a with|some (.lst xs)=>iG.inL G v xs|some (.dct kvs)=>if iG.f9 v then fJ (iG.gm kvs v)else fK|some (.frz kvs)=>if iG.f9 v then fJ (iG.gm kvs v)else fK|some (.dtp kvs)=>if iG.isKeyT v then fJ (iG.gm kvs v)else fK|_=>fK)=fJ b:=e
  cases z:G a with
  |none=>rw[z]at e;cases e
  |some o =>
   rw[z]at e;cases o with
   |lst ys=>exact .inl (UY (u:=.ref a) g J e<|AN g I<|.inr ⟨a,rfl,by rw[z];rfl⟩)
   |dct kvs =>let⟨R,e⟩:=Zl (show(if iG.f9 v then fJ (iG.gm kvs v)else fK)=fJ b from e);cases e;let⟨ps,f,U⟩:=g a _ z;let⟨d,l,rfl⟩:=f6 R J;exact .inr (.inr ⟨a,_,I.ref_inv,DGet.k f,by rw[U.has l,XA]⟩)
   |frz kvs =>let⟨R,e⟩:=Zl (show(if iG.f9 v then fJ (iG.gm kvs v)else fK)=fJ b from e);cases e;let⟨q,ps,f,U⟩:=g a _ z;let⟨d,l,rfl⟩:=f6 R J;exact .inr (.inr ⟨a,_,I.ref_inv,.inl ⟨ps,d,.inr ⟨q,f⟩,rfl,rfl⟩,by rw[U.has l,XA]⟩)
   |dtp kvs =>let⟨R,e⟩:=Zl (show(if iG.isKeyT v then fJ (iG.gm kvs v)else fK)=fJ b from e);cases e;let⟨ps,f,U⟩:=g a _ z;let⟨F,C,d,rfl,rfl,hd⟩:=Wj R J;exact .inr (.inr ⟨a,_,I.ref_inv,DGet.t f hd,by rw[U.has,XA]⟩)
   |_=>cases e
 |str t =>
  cases v with
  |str s =>let⟨c,z,rfl⟩:=Ï.mp e;exact .inr<|.inl ⟨_,_,J.str_inv,I.str_inv,PR s t c z⟩
  |_=>cases e
 |_=>cases e
def GC{o:Option Bool}{b:Bool}(e:o.map (!·)=fJ b):o=fJ (!b):=by let⟨c,z,rfl⟩:=Ï.mp e;rw[z,ax]
def TF:Z6 i .isin<|SK i.K:=by
 walk_at "E";rcases Li g rx ry e with⟨ds,d,R,J,I,l,f,U⟩|⟨j,k,R,J,I⟩|⟨a,o,R,J,I⟩
 .exact .inr (.inl ⟨ds,d,R,J,I,l,f,by show Q (.bl<|List.any _ _) H;rw[U];exact q⟩)
 .exact .inr (.inr ⟨j,k,R,J,by rw[I];exact q⟩)
 .exact .inl ⟨a,o,R,J,by rw[I,bD];exact q⟩
def TM:Z6 i .notin<|RN i.K:=by
 walk_at "E";rcases Li g rx ry (GC e)with⟨ds,d,R,J,I,l,f,U⟩|⟨j,k,R,J,I⟩|⟨a,o,R,J,I⟩
 .exact .inr (.inl ⟨ds,d,R,J,I,l,f,by show Q (.bl (!List.any _ _)) H;rw[U,ax];exact q⟩)
 .exact .inr (.inr ⟨j,k,R,J,by rw[I,ax];exact q⟩)
 .exact .inl ⟨a,o,R,J,by rw[I,bY,ax];exact q⟩
variable {a:Expr}{b:Expr}{d:Expr}{r:R2}{í:Pos}
def Hj(ho:OpR X (î op) r)(W:Z6 i cop r)(b7:OpR X (î eF) r')(J:Z6 i cop' r')(ha:PE X a<|tE X i Φ ma)(hb:PE X b<|tE X i Φ mb)(hd:PE X d<|tE X i Φ md)(hm:bJ [op,eF] [b,d]=fM) :
  PE X (.Compare a [op,eF] [b,d] í) (tE X i Φ<|.chain cop cop' ma mb md) :=
 (CK ho b7 ha hb hd hm).imp λσ H Q ⟨env,G,Qm,Em,p,w,k⟩=>by
  exact two p w λv u M C x y l p2 V R q=>by
   let⟨c,e,q⟩:=fQ q;refine W v u M C x y c _ p2.hp V R e ⟨c,rfl,?_⟩;cases c with
   |true =>
    rw[iH rfl]at q ⊢;exact one p2 q λt F s z f U O q=>by let⟨I,e2,q⟩:=fQ q;exact J u t F s y z I Q U.hp (R.keep f) O e2<|k (.bl I) F s (.bl I) (l.trans f) U.hp (.bl I) q
   |false =>rw[iI ă]at q ⊢;exact k _ M C _ l p2.hp (.bl _) q
def Fq(ho:OpR X (î op) r)(hr:Z6 i cop r)(b7:OpR X (î eF) r')(I:Z6 i cop' r')(ha:PE X a<|tE X i Φ ma)(hb:PE X b<|tE X i Φ mb)(hd:PE X d<|tE X i Φ md)(hm:bJ [op,eF] [b,d]=fM) :
  PT X (.Compare a [op,eF] [b,d] í) (tTt X i Φ<|.val<|.chain cop cop' ma mb md) :=
 (Dh ho b7 ha hb hd hm).imp λσ H Q ⟨env,G,Qm,Em,p,w,k⟩=>by
  exact two p w λv u O F x y s p2 W U q=>by
   let⟨c,e,q⟩:=fQ q;refine hr v u O F x y c _ p2.hp W U e ⟨c,rfl,?_⟩;cases c with
   |true =>
    rw[iH rfl]at q ⊢;exact one p2 q λt M C z l f V q=>by let⟨R,e2,q⟩:=fQ q;let⟨d3,J,q⟩:=fQ q;cases J;exact I u t M C y z R _ f.hp (U.keep l) V e2 ⟨R,rfl,k R M C (s.trans l) f.hp q⟩
   |false =>rw[iI ă]at q ⊢;let⟨d3,J,q⟩:=fQ q;cases J;exact⟨fM,rfl,k _ O F s p2.hp q⟩
def Fx{st:ľ}:PS X st<|tSt X i Φ .never:=λJ s σ H D I ⟨env,G,N,R,B,C,Xe,p,w,c⟩=>by exact w.elim
end Snd
namespace L2
open PySem PySem.Spec PyProof.Rows
def Ld{x:V}{xs:List V}{I:List Ã}(hl:(x::xs).length=I.length):(I.toArray.size != (#[]:Array Ã).size)=fL:=by
 cases I with
 |nil=>cases hl
 |cons y ys=>simp
section
abbrev GI(K:Frag)(n:Bool):R2:=λx y H Q=>∃a b xs,x=.ref a/\y=.ref b/\iq K H a xs/\iq K H b []/\Q (.bl<|n ^^ xs.isEmpty) H
def E9(l:X.A.units+64<Ī):OpR X (î .Eq)<|GI X.K fM:=by
 walk_at "A";let⟨a,b,xs,rfl,rfl,ha,hb,q⟩:=h;cases rx;cases ry;let⟨U,d,pl,_⟩:=I.list ha;let⟨k,R,J,_⟩:=I.list hb;cases R;have hl:=d.length;cases xs with
 |nil =>have:U=[]:=ű.mp hl.symm;subst this;exact SeqAt.RcAt.lists (A:=X.A) (e:=λ_=>fL) pl.isList J.isList rfl ↥0 (λj f _=>by simp at f) X.prog X.w X.xe _ ⟨.bl fL,H,I,rfl,q⟩
 |cons x xs =>exact SeqAt.RcAt.lists_lengths (A:=X.A) pl.isList J.isList (Ld hl) ↥0 X.prog X.w X.xe _ ⟨.bl fM,H,I,rfl,q⟩
def CM(l:X.A.units+64<Ī):OpR X (î .NotEq)<|GI X.K fL:=by
 walk_at "A";let⟨a,b,xs,rfl,rfl,ha,hb,q⟩:=h;cases rx;cases ry;let⟨U,d,pl,_⟩:=I.list ha;let⟨k,R,J,_⟩:=I.list hb;cases R;have hl:=d.length;cases xs with
 |nil =>have:U=[]:=ű.mp hl.symm;subst this;exact SeqAt.RcNeAt.lists (A:=X.A) (e:=λ_=>fL) pl.isList J.isList rfl ↥0 (λj f _=>by simp at f) X.prog X.w X.xe _ ⟨.bl fM,H,I,rfl,q⟩
 |cons x xs =>exact SeqAt.RcNeAt.lists_lengths (A:=X.A) pl.isList J.isList (Ld hl) ↥0 X.prog X.w X.xe _ ⟨.bl fL,H,I,rfl,q⟩
end
end L2
namespace Snd
open PySem L2
variable {i:Inf}{H:Hp}
variable {x:V}{xs:List iG.Val}
def K7(g:RH i G H)(r:RV i.K H v x)(e:iG.asLst G v=fJ xs):∃a vs,x=.ref a/\iq i.K H a vs/\RVs i.K H xs vs:=by
 cases v with
 |ref a =>cases r;let⟨vs,J,I⟩:=Zy g e;exact⟨a,vs,rfl,J,I⟩
 |_=>cases e
def N8(g:RH i G H){v u:iG.Val}{y:V}(J:RV i.K H v x)(I:RV i.K H u y){c:Bool}{f:List iG.Val->List iG.Val->Option Bool}(e:((iG.asLst G v).bind λxs=>(iG.asLst G u).bind λys=>f xs ys)=fJ c):∃xs ys a b vs us,f xs ys=fJ c/\x=.ref a/\y=.ref b/\iq i.K H a vs/\iq i.K H b us/\RVs i.K H xs vs/\RVs i.K H ys us:=by
 cases z:iG.asLst G v with
 |none=>rw[z]at e;cases e
 |some xs =>
  cases z2:iG.asLst G u with
  |none=>rw[z,z2]at e;cases e
  |some ys =>rw[z,z2]at e;let⟨a,vs,m,l,k⟩:=K7 g J z;let⟨b,us,d,U,R⟩:=K7 g I z2;exact⟨xs,ys,a,b,vs,us,e,m,d,l,U,k,R⟩
def Af(h:RVs i.K H xs vs):vs.isEmpty=xs.isEmpty:=by cases h<;>rfl
def c_eqE:Z6 i .eqE<|GI i.K fM:=by
 walk_at "E";let⟨xs,l,a,b,I,us,e,k,f,d,U,R,J⟩:=N8 g rx ry e;split at e
 .rename_i z;cases e;cases J with
  |nil=>exact⟨a,b,I,k,f,d,U,by rw[Af R,bD];exact q⟩
  |cons _ _=>cases z
 .cases e
def c_neE:Z6 i .neE<|GI i.K fL:=by
 walk_at "E";let⟨xs,l,a,b,I,us,e,k,f,d,U,R,J⟩:=N8 g rx ry e;split at e
 .rename_i z;cases e;cases J with
  |nil=>exact⟨a,b,I,k,f,d,U,by rw[Af R,bY];exact q⟩
  |cons _ _=>cases z
 .cases e
def _root_.L2.PJ.imp(h:PJ X vs t)(f:∀σ H J Q,t' σ H J Q->t σ H J Q):PJ X vs t':=λR s σ H J Q I q=>h R s σ H J Q I (f σ H J Q q)
def Wi(g:RH i G H)(hp:H p=fK):RH i G<|upd H p o:=g.hid (gj.new hp) λb u e=>fN (by rintro rfl;rw[g.free hp]at e;cases e)
abbrev tE0(i:Inf)(Φ:iG.Fs)(m:iG.E):TE:=λσ H Q=>∃env G Qm,REn i.K H env σ/\RH i G H/\iG.wE Φ m env G Qm (λ_ _=>False)/\Cn i H Q Qm
abbrev tT0(i:Inf)(Φ:iG.Fs)(m:iG.Tt):TT:=λσ H Q=>∃env G Qm,REn i.K H env σ/\RH i G H/\iG.wT Φ m env G Qm (λ_ _=>False)/\∀b I H',gj H H'->RH i I H'->Qm b I->Q b H'
def Au:XOk X i H λ_ _=>False:=λJ σ U s H' a cls R I f ⟨_,_,_,_,_,_,_,z⟩=>z.elim
variable {e:Expr}
def pe0(h:PE X e<|tE X i Φ m):PE X e<|tE0 i Φ m:=h.imp λσ H Q ⟨env,G,Qm,r,g,w,c⟩=>⟨env,G,Qm,_,⟨r,g,Au⟩,w,c⟩
def pt0(h:PT X e<|tTt X i Φ m):PT X e<|tT0 i Φ m:=h.imp λσ H Q ⟨env,G,Qm,r,g,w,c⟩=>⟨env,G,Qm,_,⟨r,g,Au⟩,w,c⟩
def _root_.L2.PIfs.imp(h:PIfs X es t)(f:∀σ H Q,t' σ H Q->t σ H Q):PIfs X es t':=λJ s σ H Q I q=>h J s σ H Q I (f σ H Q q)
def Qi:PIfs X []<|tT0 i Φ .yes:=pifs_nil.imp λσ H Q ⟨env,G,Qm,r,g,w,c⟩=>by exact c fL G H (gj.refl H) g w
def FZ{K:Frag}(r:REn K H env σ)(kp:gj H H'):REn K H' (ß k fK++Ā.map λj=>(env[j]?).getD fK)<|ß k fK++Up σ Ā:=by
 refine⟨by simp[Up],λn u e=>?_⟩;by_cases hn:n<k
 .rw[Ď (by rw[ú];exact hn),ő,iH hn]at e;cases e
 .rw[Ĕ (by rw[ú];lia),ú]at e ⊢;generalize n - k=n at e ⊢;simp![Ø]at e;cases z:Ā[n]? with
  |none=>rw[z]at e;cases e
  |some j =>
   rw[z]at e;simp![œ,į]at e;cases z2:env[j]? with
   |none=>rw[z2]at e;cases e
   |some o =>rw[z2]at e;have e:o=fJ u:=e;subst e;let⟨y,J,I⟩:=r.get j u z2;exact⟨y,by unfold Up;rw[Ø,z];show fJ ((σ[j]?).getD fK)=_;rw[J];rfl,I.keep kp⟩
abbrev B1(k:Nat):iG.Pt->Bool
 |.one j=>iN (j<k)
 |.many js=>js.all λj=>iN (j<k)
 |.nest _ _=>fM
def K6:∀{J:List Nat}{vs:List iG.Val}{l R:iG.Env},(J.all λj=>iN (j<l.length))=fL->iG.bindL J vs (l++r)=fJ R->∃I,R=I++r/\I.length=l.length
 |[],[],l,_,_,e=>by cases e;exact⟨l,rfl,rfl⟩
 |j::J,v::vs,l,_,h,e=>by rw[ψ,bAq,iL]at h;have e:iG.bindL J vs ((l++r).set j<|fJ v)=_:=e;rw[dF _ _ h.1]at e;let⟨I,d,U⟩:=K6 (l:=l.set j<|fJ v) (by rw[ϗ];exact h.2) e;exact⟨I,d,by rw[U,ϗ]⟩
 |[],_::_,_,_,_,h=>by cases h
 |_::_,[],_,_,_,h=>by cases h
variable {l:iG.Env}{r:iG.Env}
def Cp(h:B1 l.length p=fL)(e:iG.bind p G v (l++r)=fJ Ō):∃I,Ō=I++r/\I.length=l.length:=by
 cases p with
 |one j =>have e:fJ ((l++r).set j<|fJ v)=fJ Ō:=e;cases e;exact⟨l.set j<|fJ v,by rw[dF _ _<|of_decide_eq_true h],ϗ⟩
 |many js =>
  cases v with
  |tup vs=>exact K6 h e
  |_=>cases e
 |nest j js=>cases h
def REn.pre{K:Frag}(q:REn K H (l++r) τ):REn K H (ß l.length fK++r) τ:=by
 refine⟨by rw[<-q.len];simp,λn u e=>?_⟩;by_cases hn:n<l.length
 .rw[Ď (by rw[ú];exact hn),ő,iH hn]at e;cases e
 .rw[Ĕ (by rw[ú];lia),ú]at e;exact q.get n u (by rw[Ĕ<|by lia];exact e)
def AS(hk:B1 k pt=fL){mt:iG.Tt}:∀σ H Q,tE X i Φ (.comp Ā k pt mi mt me) σ H Q->EB (tIt X i Φ mi) k Ā (gPt i pt) (tT0 i Φ mt) (tE0 i Φ me) σ H Q:=λσ H Q ⟨env,G,Qm,Em,p,w,c⟩=>by
 refine⟨env,G,_,Em,p,w,λst xs G1 H1 J k1 g1 it w1=>?_⟩;let⟨hl,w1⟩:=w1;generalize dP:(λ(v:iG.Val) (h2:iG.Hs) (K:Option iG.Val->iG.Hs->Prop) (X2:iG.XQ)=>iG.go (iG.bind pt h2 v<|ß k fK++Ā.map λj=>(env[j]?).getD fK) λŌ =>
       iG.wT Φ mt Ō h2 (λk h3=>if k=fL then iG.wE Φ me Ō h3 (λu h4=>K (fJ u) h4) X2 else K fK h3) X2)=step at w1
 refine⟨λn m I τ H'=>n+m=xs.length/\I.length<=n/\REn i.K H' (ß k fK++Ā.map λj=>(env[j]?).getD fK) τ/\∃V C,gj H1 H'/\RH i C H'/\RVs i.K H' V I/\iG.wComp st step (xs.drop n) V C (λI f=>iG.new f (.lst I) Qm) (λ_ _=>False),⟨xs.length,by lia,by simp,FZ p.en k1,[],G1,gj.refl _,g1,.nil,⇑w1⟩,?_⟩;rintro n m I τ H' ⟨hnm,W,en2,V,C,k2,g2,r2,U⟩;refine⟨å (Ð (Ù W<|by lia) hl) Yj,?_⟩;by_cases hn:n<xs.length
 .right;have hd:xs.drop n=xs[n]::xs.drop (n+1):=ť hn;rw[hd]at U;let⟨s2,U⟩:=U;have hv:xs[n]?=fJ xs[n]:=É hn;let⟨a1,a2⟩:=it.go n C H' xs[n] k2 g2 s2 hv;refine⟨a1,λz O t=>z.length<=n+1/\REn i.K t (ß k fK++Ā.map λj=>(env[j]?).getD fK) O/\∃s G3,gj H1 t/\RH i G3 t/\RVs i.K t s z/\iG.wComp st step (xs.drop<|n+1) s G3 (λI f=>iG.new f (.lst I) Qm) (λ_ _=>False),λz O t h=>⟨m - 1,by lia,by lia,h.1,h.2⟩,λx t hy=>?_⟩;let⟨k3,g3,r3⟩:=a2 x t hy;rw[<-dP]at U;let⟨dy,e4,w4⟩:=fQ U;rw[dP]at w4;let⟨l',e5,f⟩:=Cp (l:=ß k fK) (by rw[ú];exact hk) e4;rw[ú]at f;refine⟨xs[n],_,C,dy,r3,g3,en2.keep k3,e4,λτ4 R=>?_⟩;have bc:REn i.K t (ß k fK++Ā.map λj=>(env[j]?).getD fK) τ4:=by
   rw[e5]at R;have:=R.pre;rw[f]at this;exact this
  refine⟨_,C,_,R,g3,w4,λd G5 H5 M g5 F=>?_⟩;have kk:=(k2.trans k3).trans M;cases d with
  |true =>refine⟨_,G5,_,R.keep M,g5,⇑F,λu G6 H6 y k6 g6 r6 q6=>?_⟩;exact⟨⇑W,(bc.keep M).keep k6,_,G6,kk.trans k6,g6,((((r2.keep k3).keep M).keep k6).append<|.cons r6 .nil),q6⟩
  |false =>rw[iI ă]at F;change if fM=fL then _ else _;rw[iI ă];have F:iG.wComp st step (xs.drop<|n+1) (V++[]) G5 (λI f=>iG.new f (.lst I) Qm) λ_ _=>False:=F;rw[ì]at F;exact⟨by lia,bc.keep M,V,G5,kk,g5,(r2.keep k3).keep M,F⟩
 .left;have hd:xs.drop n=[]:=Ĺ ↥0;rw[hd]at U;refine⟨it.stop n C H' k2 g2 U.1 ↥0,?_⟩;exact Z2 g2 U.2 ((c.go k1).go k2) λq hq=>⟨_,fO,r2.keep<|gj.new hq⟩
abbrev Uh(i:Inf)(m:iG.Bm)(r:V->List V->Hp->VK->Prop):Prop:=∀(v:iG.Val) (vs:List iG.Val) (G:iG.Hs) (H:Hp) (x:V) (xs:List V) (t:iG.Val×iG.Hs) (Q:VK) (Qm:iG.Q1),
 RH i G H->RV i.K H v x->RVs i.K H vs xs->iG.bmV G m v vs=fJ t->Qm t.1 t.2->Cn i H Q Qm->r x xs H Q
abbrev Qt(i:Inf)(m:iG.Bm)(T:String):Prop:=∀(v:iG.Val) (G:iG.Hs) (H:Hp) (x:V),RH i G H->RV i.K H v x->iG.bmTy G m v=fL->tyV i.K T x H
def B5{o e:Expr}{es:List Expr}{name:Str}{R I:Pos}{T id:String}{r:V->List V->Hp->VK->Prop}{mo:iG.E}{ms:iG.Es}{n:Nat}(hK:X.K=i.K)(F:PlainAttrs T)(slot:Slot T name id)(J:typeOf (.builtin id)=pure (.type "method_descriptor"))(mt:MtR X id r)(hT:Qt i m T)(W:Uh i m r)
  (ho:PE X o<|tE X i Φ mo) (ha:PA X (e::es)<|tAr X i Φ ms n) (aX:Ġ o name X.env (eval o X.env)=eval o X.env)
  (aF:((ğ I<|Þ (e::es) X.env).all (λx=>!x.1)&&(Ŷ I<|ń [] X.env).all (λx=>x.1.isSome)&&iN ((e::es).length+([]:List Ϣ).length+(if([]:List Ϣ).isEmpty then 0 else 1)<30))=fL)
  (aY:(R.endLine==I.line)=fL) (O:Þ (e::es) X.env=(fM,eval e X.env)::Þ es X.env) (di:(ğ I<|Þ es X.env).any (·.1)=fM) :
  PE X (.Call (.Attribute o name R) (e::es) [] I) (tE X i Φ<|.bm m mo ms) :=
 (Sz F slot J mt ho ha aX aF aY O di).imp λσ H Q ⟨env,G,Qm,Em,p,w,c⟩=>by
  refine one p w λv k H1 x M d U q=>⟨by rw[hK];exact hT v k H1 x d.hp U q.1,env,k,_,Em,d,q.2,λz G2 H2 xs f g2 C _ y=>?_⟩
  let⟨t,e,s⟩:=fQ y;exact W v z G2 H2 x xs t Q Qm g2 (U.keep f) C e s<|(c.go M).go f
def Us(h:iG.isDct o=fL):(∃xs,o=fJ (.dct xs))\/∃xs,o=fJ (.dtp xs):=by
 cases o with
 |none=>cases h
 |some o=>cases o with
  |dct xs=>exact .inl ⟨xs,rfl⟩
  |dtp xs=>exact .inr ⟨xs,rfl⟩
  |_=>cases h
def RU(hm:m.ty=.l):Qt i m "list":=λv G H x g r h=>by
 unfold iG.bmTy at h;rw[hm]at h;cases v with
 |ref a =>cases r.ref_inv;let⟨xs,e⟩:=Uu (show iG.isLst (G a)=fL from h);let⟨I,J,_⟩:=g a _ e;exact .inl ⟨rfl,I,iq.of J⟩
 |_=>cases h
def GV(hm:m.ty=.d):Qt i m "dict":=λv G H x g r h=>by
 unfold iG.bmTy at h;rw[hm]at h;cases v with
 |ref a =>
  cases r.ref_inv;rcases Us (show iG.isDct (G a)=fL from h)with⟨xs,e⟩|⟨xs,e⟩
  .obtain⟨I,J,_⟩:=g a _ e;exact .inr<|.inr<|.inl ⟨rfl,.inl ⟨I,J⟩⟩
  .obtain⟨I,J,_⟩:=g a _ e;exact .inr<|.inr<|.inl ⟨rfl,.inr ⟨I,J⟩⟩
 |_=>cases h
def UW(e:iG.bmL G v f=fJ t):∃a xs,v=.ref a/\G a=fJ (.lst xs)/\f a xs=fJ t:=by
 cases v with
 |ref a=>let⟨xs,J,I⟩:=Co e;exact⟨a,xs,rfl,J,I⟩
 |_=>cases e
variable {vs:List iG.Val}{α:Type}{a:α}
def Qc{f:iG.Val->Option α}(e:(match vs with|[v]=>f v|_=>fK)=fJ a):∃v,vs=[v]/\f v=fJ a:=by
 cases vs with
 |nil=>cases e
 |cons v vs=>cases vs with
  |nil=>exact⟨v,rfl,e⟩
  |cons _ _=>cases e
def QS:Uh i .append AF:=λv vs G H x xs t Q Qm g f rs e q c=>by let⟨a,J,rfl,s,I⟩:=UW e;let⟨u,rfl,I⟩:=Qc I;let⟨hl,I⟩:=Zl I;cases I;cases f.ref_inv;let⟨y,rfl,d⟩:=rs.inv1;let⟨us,U,R⟩:=g a _ s;let⟨k,g3⟩:=Jm (xs:=J) g U (J++[u]) (us++[y])<|R.app1 d;exact⟨a,us,y,rfl,rfl,U,by rw[<-R.length];exact å hl Yj,c _ _ _ _ k g3 .non q⟩
def GK:Uh i .popAt E6:=λv vs G H x xs t Q Qm g C rs e q c=>by
 let⟨a,R,rfl,O,I⟩:=UW e;unfold iG.bmPopAt at I;split at I
 .rename_i n;let⟨hn,I⟩:=Zl I;let⟨k,z,I⟩:=è.mp I;let⟨V,z2,rfl⟩:=Ï.mp I;cases C.ref_inv;let⟨y,rfl,s⟩:=rs.inv1;cases s.int_inv;let⟨us,d,J⟩:=g a _ O;let⟨f,M,F⟩:=J.get z2;rw[MT,J.length]at z;let⟨s1,s2,s3,s4⟩:=Nt z;let⟨U,g3⟩:=Jm (xs:=R) g d (R.eraseIdx k) (us.eraseIdx k)<|J.eraseIdx k;exact⟨a,us,n,k,f,rfl,rfl,d,by lia,by lia,s1,M,c _ _ _ _ U g3 (F.keep U) q⟩
 .cases I
def Jt(e:iG.bmD G v f=fJ t):∃a kvs,v=.ref a/\G a=fJ (.dct kvs)/\f a kvs=fJ t:=by
 cases v with
 |ref a =>
  let⟨kvs,I,J⟩:=è.mp (show(iG.iB<|G a).bind (f a)=fJ t from e);refine⟨a,kvs,rfl,?_,J⟩;cases z:G a with
  |none=>rw[z]at I;cases I
  |some o =>
   rw[z]at I;cases o with
   |dct ys=>cases I;rfl
   |_=>cases I
 |_=>cases e
def Lx{f:iG.Val->iG.Val->Option α}(e:(match vs with|[v,u]=>f v u|_=>fK)=fJ a):∃v u,vs=[v,u]/\f v u=fJ a:=by
 cases vs with
 |nil=>cases e
 |cons v vs=>cases vs with
  |nil=>cases e
  |cons u us=>cases us with
   |nil=>exact⟨v,u,rfl,e⟩
   |cons _ _=>cases e
abbrev Di:V->List V->Hp->VK->Prop:=λx vs H Q=>∃a y o,x=.ref a/\vs=[y]/\DGet H a y o/\Q (o.getD .non) H
def DG(f:X.A.units+1<Ī):MtR X "dict.get" Di:=by intro z s σ H x vs v us Q I J R h;let⟨a,y,o,rfl,rfl,d,q⟩:=h;cases J;let⟨u,rfl,U⟩:=R.one;exact LY f I d U λC F t k=>⟨_,_,t,k,q⟩
abbrev Ek:V->List V->Hp->VK->Prop:=λx vs H Q=>∃a y z o,x=.ref a/\vs=[y,z]/\DGet H a y o/\Q (o.getD z) H
def Ew(f:X.A.units+1<Ī):MtR X "dict.get" Ek:=by intro F s σ H x vs v us Q I J R h;let⟨a,y,z,o,rfl,rfl,d,q⟩:=h;cases J;let⟨u,t,rfl,U,rt⟩:=R.two;exact P0 f I d U rt λM O C k=>⟨_,_,C,k,q⟩
abbrev CT:V->List V->Hp->VK->Prop:=λx vs H Q=>∃a I k v more,x=.ref a/\vs=kV k::more/\(more=[]\/∃z,more=[z])/\H a=fJ (.dK I)/\YI I k=fJ v/\Q v (upd H a<|.dK<|gq I k)
def mt_dpop:MtR X "dict.pop" CT:=by
 intro V s σ H x vs v us Q I M d h;let⟨a,O,k,y,more,rfl,rfl,hm,f,l,q⟩:=h;cases M;rcases hm with rfl|⟨z,rfl⟩
 .obtain⟨u,rfl,J⟩:=d.one;exact IQ I f J l (.inl rfl) λC F U R=>⟨_,_,U,R,q⟩
 .obtain⟨u,t,rfl,J,rt⟩:=d.two;exact IQ I f J l (.inr ⟨_,rfl⟩) λC F U R=>⟨_,_,U,R,q⟩
abbrev CY:V->List V->Hp->VK->Prop:=λx vs H Q=>∃a I k z,x=.ref a/\vs=[kV k,z]/\H a=fJ (.dK I)/\YI I k=fK/\Q z H
def DY:MtR X "dict.pop" CY:=by intro C s σ H x vs v us Q I J R h;let⟨a,d,k,z,rfl,rfl,f,l,q⟩:=h;cases J;let⟨u,t,rfl,U,rt⟩:=R.two;exact Ql I f U l λF y=>⟨_,_,y,rt,q⟩
def PB:Uh i .dget Di:=λv vs G H x xs t Q Qm g U rs e q c=>by
 let⟨a,J,rfl,V,I⟩:=Jt e;let⟨k,rfl,I⟩:=Qc I;let⟨M,I⟩:=Zl I;cases I;cases U.ref_inv;let⟨y,rfl,R⟩:=rs.inv1;let⟨ps,O,s⟩:=g a _ V;let⟨d,C,rfl⟩:=f6 M R;refine⟨a,_,_,rfl,rfl,DGet.k (k:=d) O,?_⟩;let⟨l1,l2⟩:=s.look C;cases z:iG.gk J k with
 |none=>rw[l2 z];rw[z]at q;exact c _ _ _ _ (gj.refl H) g .non q
 |some u=>let⟨x,F,f⟩:=l1 u z;rw[F];rw[z]at q;exact c _ _ _ _ (gj.refl H) g f q
variable {kvs:List (iG.Val×iG.Val)}
def Cg(e:iG.dpAt G v=fJ kvs):∃a,v=.ref a/\G a=fJ (.dtp kvs):=by
 cases v with
 |ref a =>
  refine⟨a,rfl,?_⟩
  replace e:(match G a with|some (.dtp kvs)=>fJ kvs|_=>fK)=fJ kvs:=e
  cases z:G a with
  |none=>rw[z]at e;cases e
  |some o=>rw[z]at e;cases o<;>first|(cases e;rfl)|cases e
 |_=>cases e
def HW:Uh i .dgetD Ek:=λv vs G H x xs t Q Qm g O rs e q c=>by
 replace e:(match iG.dpAt G v with|some kvs=>iG.bmGetT G vs kvs|none=>iG.bmD G v<|iG.bmGetD G vs)=fJ t:=e
 cases zz:iG.dpAt G v with
 |some kvs =>
  rw[zz]at e;let⟨a,rfl,M⟩:=Cg zz;have e:iG.bmGetT G vs kvs=fJ t:=e;let⟨k,dv,rfl,I⟩:=Lx e;let⟨C,I⟩:=Zl I;cases I;cases O.ref_inv;let⟨y,z,rfl,R,J⟩:=rs.inv2;let⟨ps,F,f⟩:=g a _ M;let⟨W,V,d,rfl,rfl,hd⟩:=Wj C R;refine⟨a,_,_,_,rfl,rfl,DGet.t F hd,?_⟩;let⟨l1,l2⟩:=f.look (i:=W) (j:=V);cases z:iG.gk kvs (.key W V)with
  |none=>rw[l2 z];rw[z]at q;exact c _ _ _ _ (gj.refl H) g J q
  |some u=>let⟨x,s,U⟩:=l1 u z;rw[s];rw[z]at q;exact c _ _ _ _ (gj.refl H) g U q
 |none =>
 rw[zz]at e;let⟨a,kvs,rfl,M,I⟩:=Jt e;let⟨k,dv,rfl,I⟩:=Lx I;let⟨C,I⟩:=Zl I;cases I;cases O.ref_inv;let⟨y,z,rfl,R,J⟩:=rs.inv2;let⟨ps,F,f⟩:=g a _ M;let⟨d,kr,rfl⟩:=f6 C R;refine⟨a,_,_,_,rfl,rfl,DGet.k (k:=d) F,?_⟩;let⟨l1,l2⟩:=f.look kr;cases z:iG.gk kvs k with
 |none=>rw[l2 z];rw[z]at q;exact c _ _ _ _ (gj.refl H) g J q
 |some u=>let⟨x,s,U⟩:=l1 u z;rw[s];rw[z]at q;exact c _ _ _ _ (gj.refl H) g U q
def Qq:Uh i .dpop CT:=λv vs G H x xs t Q Qm g C rs e q c=>by let⟨a,kvs,rfl,V,I⟩:=Jt e;let⟨k,rfl,I⟩:=Qc I;let⟨O,I⟩:=Zl I;let⟨u,z,rfl⟩:=Ï.mp I;cases C.ref_inv;let⟨y,rfl,s⟩:=rs.inv1;let⟨ps,f,J⟩:=g a _ V;let⟨d,R,rfl⟩:=f6 O s;let⟨x,M,F⟩:=(J.look R).1 u z;let⟨U,g3⟩:=MM (kvs:=kvs) g f<|J.drop R;exact⟨a,ps,d,x,[],rfl,rfl,.inl rfl,f,M,c _ _ _ _ U g3 (F.keep U) q⟩
def Uv(h:iG.gk kvs k=fK):iG.gq kvs k=kvs:=by
 unfold iG.gq;rw[d0];intro p hp;have I:kvs.find? (λp=>p.1==k)=fK:=by unfold iG.gk at h;exact Option.map_eq_none_iff.mp h
 simpa using List.find?_eq_none.mp I p hp
def HA:Uh i .dpopD λx vs H Q=>CT x vs H Q\/CY x vs H Q:=λv vs G H x xs t Q Qm g M rs e q c=>by
 let⟨a,kvs,rfl,s,I⟩:=Jt e;let⟨k,dv,rfl,I⟩:=Lx I;let⟨W,I⟩:=Zl I;cases I;cases M.ref_inv;let⟨y,z,rfl,F,C⟩:=rs.inv2;let⟨ps,J,R⟩:=g a _ s;let⟨d,U,rfl⟩:=f6 W F;let⟨l1,l2⟩:=R.look U;cases z:iG.gk kvs k with
 |none =>
  refine .inr ⟨a,ps,d,_,rfl,rfl,J,l2 z,?_⟩;rw[z,Uv z]at q;have e:iG.upd G a (.dct kvs)=G:=by
   funext b;by_cases hb:b=a
   .subst hb;rw[iG.fO,s]
   .rw[iG.fN hb]
  rw[e]at q;exact c _ _ _ _ (gj.refl H) g C q
 |some u =>let⟨x,V,O⟩:=l1 u z;let⟨f,g3⟩:=MM (kvs:=kvs) g J<|R.drop U;rw[z]at q;exact .inl ⟨a,ps,d,x,_,rfl,rfl,.inr ⟨_,rfl⟩,J,V,c _ _ _ _ f g3 (O.keep f) q⟩
def RFs.look{K:Frag}:∀{fs:List (String×iG.Val)}{ps:List (Str×V)},RFs K H fs ps->
  (∀v,fs.lookup f=fJ v->∃x,ps.lookup (iO f)=fJ x/\RV K H v x)/\(fs.lookup f=fK->ps.lookup (iO f)=fK)
 |_,_,.nil=>⟨λv e=>(by cases e),λ_=>rfl⟩
 |_,_,.cons (f:=g) (v:=u) (x:=y) r t=>by
  have I:=RFs.look (f:=f) t;rw[ø,ø];by_cases e:f=g
  .subst e;rw[beq_self_eq_true,beq_self_eq_true];exact⟨λv z=>(by cases z;exact⟨y,rfl,r⟩),λz=>(by cases z)⟩
  .rw[show(f==g)=fM by simpa using e,show(iO f==iO g)=fM by rw[beq_eq_false_iff_ne];exact λz=>e<|ofS_inj.mp z];exact I
def RFs.put{K:Frag}(q:RV K H v x):∀{fs:List (String×iG.Val)}{ps:List (Str×V)},RFs K H fs ps->RFs K H (iG.f7 fs f v) (L2.f7 (iO f) x ps)
 |_,_,.nil=>.cons q .nil
 |_,_,.cons (f:=g) (v:=u) (x:=y) r t=>by
  unfold iG.f7 L2.f7;by_cases e:g=f
  .subst e;rw[iH rfl,iH rfl];exact .cons q t
  .rw[iI e,iI λz=>e<|ofS_inj.mp z];exact .cons r<|RFs.put q t
def RFs.length{K:Frag}:∀{fs:List (String×iG.Val)}{ps:List (Str×V)},RFs K H fs ps->fs.length=ps.length
 |_,_,.nil=>rfl
 |_,_,.cons _ t=>by rw[Ñ,Ñ,RFs.length t]
structure FldOk(i:Inf)(f:String):Prop where
 no:∀C c,i.cl C c->NoAttr i.K c (iO f)
structure IC(K:Frag)(C:Í):Prop where
 ha:PySem.W.findIn K (.ref C) "__class__" = fJ (fJ<|.builtin "object.__class__")
 hn:PySem.W.specialIn K (.builtin "object.__class__") "__get__" = fJ (fJ<|.builtin "getset_descriptor.__get__")
 htk:PySem.W.takesIn K (.builtin "object.__class__")=fJ fL
 hm:PySem.W.mroIn K C (.type "object")=fJ fL
structure ClsA(i:Inf):Prop where
 cls:∀C c,i.ins C=fL->i.cl C c->Cls i.K c
 ic:∀C c,i.cl C c->IC i.K c
 un:∀C a b,i.cl C a->i.cl C b->a=b
def Kl(h:iG.insOf o=fJ p):o=fJ (.ins p.1 p.2):=by
 cases o with
 |none=>cases h
 |some o=>cases o with
  |ins C fs=>cases h;rfl
  |_=>cases h
variable {f:String}
def Mi(h:iG.gX G v f=fJ u):∃a C fs,v=.ref a/\G a=fJ (.ins C fs)/\fs.lookup f=fJ u:=by let⟨a,R,h⟩:=è.mp h;let⟨p,J,I⟩:=è.mp h;exact⟨a,p.1,p.2,X6 R,Kl J,I⟩
variable {o:Expr}{í:Pos}
def Rl(R:X.K=i.K)(A:ClsA i)(F:FldOk i f)(t:PE X o<|tE X i Φ mo)(hb:Ġ o (iO f) X.env (eval o X.env)=eval o X.env) :
  PE X (.Attribute o (iO f) í) (tE X i Φ<|.fld mo f) :=
 (Ly t hb).imp λσ H Q ⟨env,G,Qm,Em,p,w,c⟩=>by
  exact one p w λv G1 H1 x s I r q=>by let⟨u,e,k⟩:=fQ q;clear q;let⟨a,C,fs,rfl,O,M⟩:=Mi e;cases r.ref_inv;let⟨W,V,ps,hi,J,z,d⟩:=I.hp a _ O;let⟨y,l,U⟩:=d.look.1 u M;exact⟨a,W,V,ps,y,rfl,z,by rw[R];exact A.cls _ _ hi J,by rw[R];exact F.no _ _ J,l,c _ _ _ _ s I.hp U k⟩
variable {C:String}
def AK{H:Hp}{a:Í}{I J:Í}{fs:List (String×iG.Val)}{ps R:List (Str×V)}(g:RH i G H)(hi:i.ins C=fL)(U:i.cl C I)(h:H a=fJ (.ins I J R))(r:RFs i.K H fs ps) :
  gj H (upd H a<|.ins I J ps)/\RH i (iG.upd G a<|.ins C fs) (upd H a<|.ins I J ps):=by
 have k:gj H<|upd H a<|.ins I J ps:=gj.put (λxs e=>by rw[h]at e;cases e) λp u e=>by rw[h]at e;cases e
 exact⟨k,g.put k ⟨I,J,ps,hi,U,fO,r.keep k⟩⟩
def Kh{I:iG.Hs}{o v:iG.Val}(h:iG.gZ G o f v=fJ I):∃a C fs,o=.ref a/\G a=fJ (.ins C fs)/\fs.length<900/\I=iG.upd G a (.ins C<|iG.f7 fs f v):=by
 cases o with
 |ref a =>
  unfold iG.gZ at h;dsimp only at h;split at h
  .rename_i C fs e;let⟨hl,h⟩:=Zl h;cases h;exact⟨a,C,fs,rfl,e,hl,rfl⟩
  .cases h
 |_=>cases h
variable {e:Expr}
def Bb{m:iG.E}{t:Pos}(d:X.K=i.K)(A:ClsA i)(F:FldOk i f)(ho:PE X o<|tE X i Φ mo)(he:PE X e<|tE X i Φ m)(hs:μ e (fJ<|.Attribute o (iO f) t) í.line X.env=pure fM) :
  PS X (.Assign [.Attribute o (iO f) t] e í) (tSt X i Φ<|.setFld mo f m) :=
 (L1 ho he hs).imp λD σ H ⟨env,G,N,R,B,C,Xe,p,w,c⟩=>by refine one p.pre w λv G1 H1 x W O r q=>?_;refine one O q λu G2 H2 y U p2 z q=>?_;let⟨G3,e3,M⟩:=fQ q;clear q;let⟨a,D',fs,rfl,e2,hl,rfl⟩:=Kh e3;cases z.ref_inv;let⟨c',dx,ps,hi,I,s,J⟩:=p2.hp a _ e2;let⟨V,g3⟩:=AK p2.hp hi I s<|J.put (f:=f)<|r.keep U;refine⟨a,c',dx,ps,rfl,s,by rw[d];exact A.cls _ _ hi I,by rw[d];exact F.no _ _ I,by rw[<-J.length];lia,?_⟩;have k:=(W.trans U).trans V;exact c.nx _ _ _ _ k g3 (p.en.keep k) M
def Os{op:iG.Bop}{x y z:iG.Val}(h:iG.augV op x y=fJ z):∃a b,x=.int a/\y=.int b/\((op=.add/\z=.int (a+b))\/(op=.sub/\z=.int (a - b))):=by
 unfold iG.augV at h;split at h
 .cases h;exact⟨_,_,rfl,rfl,.inl ⟨rfl,rfl⟩⟩
 .cases h;exact⟨_,_,rfl,rfl,.inr ⟨rfl,rfl⟩⟩
 .cases h
abbrev rAS(op:iG.Bop):V->V->Hp->VK->Prop:=λx y H Q=>∃a b,x=.int a/\y=.int b/\((op=.add/\Q (.int<|a+b) H)\/(op=.sub/\Q (.int<|a - b) H))
def A3(hK:X.K=i.K)(A:ClsA i)(F:FldOk i f)(t:Cr X op<|rAS d)(ho:PE X o<|tE X i Φ mo) :
  PS X (.AugAssign (.Attribute o (iO f) db) op (.Constant (.int n) k Œ) í) (tSt X i Φ<|.augFld mo f d n) :=
 (Ce ho Nv t).imp λD σ H ⟨env,G,N,R,B,C,Xe,p,w,c⟩=>by
  refine one p.pre w λv G1 H1 x k1 p1 r q=>?_;let⟨u,e1,q2⟩:=fQ q;clear q;let⟨a,C',fs,rfl,e2,e3⟩:=Mi e1;cases r.ref_inv;let⟨V,dx,ps,hi,M,O,s⟩:=p1.hp a _ e2;let⟨y,l,ry⟩:=s.look.1 u e3;refine⟨a,V,dx,ps,y,rfl,O,by rw[hK];exact A.cls _ _ hi M,by rw[hK];exact F.no _ _ M,l,?_⟩;let⟨z,e4,W⟩:=fQ q2;clear q2;let⟨G3,e5,q4⟩:=fQ W;clear W;let⟨n1,n2,rfl,e0,J⟩:=Os e4;cases e0;cases ry.int_inv;let⟨a2,C2,fs2,e6,e7,hl,rfl⟩:=Kh e5;cases e6;rw[e2]at e7;cases e7;have fin:∀n:Int,z=.int n->∃U I,H1 a=fJ (.ins V U I)/\I.length<1000/\D.nx σ (upd H1 a<|.ins V U<|L2.f7 (iO f) (.int n) I):=λn hn=>by subst hn;let⟨k3,g3⟩:=AK p1.hp hi M O<|s.put (f:=f) (x:=.int n)<|.int n;refine⟨dx,ps,O,by rw[<-s.length];lia,?_⟩;exact c.nx _ _ _ _ (k1.trans k3) g3 (p.en.keep<|k1.trans k3) q4
  rcases J with⟨e,J⟩|⟨e,J⟩
  .exact⟨n1,n,rfl,rfl,.inl ⟨e,fin _ J⟩⟩
  .exact⟨n1,n,rfl,rfl,.inr ⟨e,fin _ J⟩⟩
abbrev Dfm(pr:æ)(w:û)(mg:Str->Option Ã)(base:Ĉ)(i:Inf)(P:iG.Pg)(n:Nat)(f:String)(I:Í):Prop :=
 ∃fd ps,gN pr w i.K mg base (CX1 pr w) (2*n) I fd ps (spF i P n f)/\Binds i.K fd ps []
variable {n:Nat}{ms:iG.Es}{p:Pos}
def Q8{k:Nat}{Cn:String}{C f:Í}(hK:X.K=i.K)(hi:i.ins Cn=fL)(hc:i.cl Cn C)(M:Mk i.K C f)(D:Dfm X.prog X.w X.mg X.base i P n (Cn ++ ".__init__") f)(hr:gL (2*n+1) X.A)
  (hg:Gl X<|iO Cn) (hm:X.mg (iO Cn)=fJ (.ref C)) (de:(iO Cn==("__debug__" : Str))=fM)
  (ha:PA X (e::es)<|tAr X i (iG.wF P n) ms k) (he:Þ (e::es) X.env=(fM,eval e X.env)::Þ es X.env) (hpl:(ğ í<|Þ es X.env).any (·.1)=fM) :
  PE X (.Call (.Name (iO Cn) p) (e::es) [] í) (tE X i (iG.wF P n)<|.make Cn ms):=by
 let⟨fd,ps,F,hb⟩:=D;rw[<-hK]at F hb M;walk_at "B";let⟨env,G,Qm,Em,pr,w,c⟩:=h;refine IF (E:=XK1 i H Em) M F hr hg hm hb .nil (XW.passes pr.xo) ha de he hpl Â s σ H Q I ⟨env,G,_,Em,pr,w,λvs O H1 xs q g1 r1 hl W x J t hd V=>?_⟩;have ka:gj H1<|upd H1 J<|.own x:=gj.new hd;have R:upd H1 J (.own x) x=fK:=by rw[fN λz=>V z.symm];exact t
 have U:gj (upd H1 J<|.own x)<|upd (upd H1 J<|.own x) x<|.ins C J []:=gj.new R;have g2:RH i O<|upd H1 J<|.own x:=Wi g1 hd;have g3:RH i (iG.upd O x<|.ins Cn [])<|upd (upd H1 J<|.own x) x<|.ins C J []:=g2.put U ⟨C,J,[],hi,hc,fO,.nil⟩;have k:=ka.trans U;refine⟨.ref x::vs,_,_,Em,.cons (.ref x) (by rw[ì];exact r1.keep k),g3,W x<|g1.free t,?_,λcls d H' h=>(h.go k).go q⟩;intro v G' H' y k' g' rv ⟨hv,hq⟩;subst hv;exact⟨rv.non_inv,c _ G' H' _ ((q.trans k).trans k') g' (.ref x) hq⟩
variable {m:String}
def MF(h:iG.clsV G v m=fJ C):∃a fs,v=.ref a/\G a=fJ (.ins C fs)/\fs.lookup m=fK:=by
 let⟨a,R,h⟩:=è.mp h;let⟨p,J,I⟩:=è.mp h;have e:=Kl J;by_cases z:(p.2.lookup m).isNone=fL
 .rw[iH z]at I;cases I;exact⟨a,p.2,X6 R,e,bp.mp z⟩
 .rw[iI z]at I;cases I
variable {Ő:Pos}
def LF{k:Nat}{Cn:String}{C f:Í}(hK:X.K=i.K)(J:∀c,i.cl Cn c->c=C)(A:Cls i.K C)(M:Meth i.K C (iO m) f)(D:Dfm X.prog X.w X.mg X.base i P n (Cn ++ "." ++ m) f)(hr:gL (2*n) X.A)
  (ho:PE X o<|tE X i (iG.wF P n) mo) (ha:PA X (e::es)<|tAr X i (iG.wF P n) ms k) (he:Þ (e::es) X.env=(fM,eval e X.env)::Þ es X.env) (hpl:(ğ í<|Þ es X.env).any (·.1)=fM)
  (ht:eval (.Call (.Attribute o (iO m) Ő) (e::es) [] í) X.env=(do
    let ov<-eval o X.env
    Ψ Ő.atName
    let (f,first)<-Ĵ [ov] (ϛ ov (iO m) pl)
    cO í f first (ğ í<|Þ (e::es) X.env) (Ŷ í<|ń [] X.env))) :
  PE X (.Call (.Attribute o (iO m) Ő) (e::es) [] í) (tE X i (iG.wF P n)<|.meth Cn m mo ms):=by
 let⟨fd,ps,F,hb⟩:=D;rw[<-hK]at F hb M A;walk_at "B";let⟨env,G,Qm,Em,pr,w,c⟩:=h;refine GL (E:=XK1 i H Em) ho A M F hr hb .nil (XW.passes pr.xo) ha he hpl ht Â s σ H Q I<|one pr w λv G1 H1 x t R O q=>?_;let⟨hq,z⟩:=q;let⟨a,fs,rfl,e2,e3⟩:=MF hq;cases O.ref_inv;let⟨c',dx,du,hi,hc,h1,V⟩:=R.hp a _ e2;cases J c' hc;refine⟨a,dx,du,rfl,h1,V.look.2 e3,env,G1,_,Em,R,z,λvs G2 H2 xs U g2 W hl y=>?_⟩;exact⟨.ref a::vs,G2,Qm,Em,.cons (.ref a) (by rw[ì];exact W),g2,y,(c.go t).go U,λcls d H' h=>(h.go U).go t⟩
def F1{Cn:String}{C f:Í}(hK:X.K=i.K)(J:∀c,i.cl Cn c->c=C)(A:Cls i.K C)(M:Meth i.K C (iO m) f)(D:Dfm X.prog X.w X.mg X.base i P n (Cn ++ "." ++ m) f)(z:gL (2*n) X.A)
  (V:PE X o<|tE X i (iG.wF P n) mo)
  (ht:eval (.Call (.Attribute o (iO m) Ő) [] [] í) X.env=(do
    let ov<-eval o X.env
    Ψ Ő.atName
    let (f,first)<-Ĵ [ov] (ϛ ov (iO m) pl)
    cO í f first (ğ í<|Þ [] X.env) (Ŷ í<|ń [] X.env))) :
  PE X (.Call (.Attribute o (iO m) Ő) [] [] í) (tE X i (iG.wF P n)<|.meth Cn m mo .nil):=by
 let⟨fd,ps,F,hb⟩:=D;rw[<-hK]at F hb M A;walk_at "B";let⟨env,G,Qm,Em,pr,w,c⟩:=h;refine Ei (E:=XK1 i H Em) V A M F z hb .nil (XW.passes pr.xo) ht Â s σ H Q I<|one pr w λv G1 H1 x U R t q=>?_;let⟨O,k⟩:=q;let⟨a,fs,rfl,e2,e3⟩:=MF O;cases t.ref_inv;let⟨c',dx,du,hi,W,h1,y⟩:=R.hp a _ e2;cases J c' W;refine⟨a,dx,du,rfl,h1,y.look.2 e3,?_⟩;exact⟨[.ref a],G1,Qm,Em,.cons (.ref a) .nil,R.hp,k,c.go U,λcls d H' h=>h.go U⟩
def HC(k:X.K=i.K)(D:Dfo X.prog X.w X.mg X.base i P n f)(R:gL (2*n) X.A)(U:Gl X<|iO f)(q:(iO f==("__debug__" : Str))=fM) :
  PE X (.Call (.Name (iO f) p) [] [] í) (tE X i (iG.wF P n)<|.call f .nil):=by
 let⟨t,fd,ps,F,hm,J,hb⟩:=D;rw[<-k]at F J hb;walk_at "B";let⟨env,G,Qm,Em,pr,w,c⟩:=h;refine Eu (E:=XK1 i H Em) F R U hm J hb .nil (XW.passes pr.xo) q Â s σ H Q I ?_;exact⟨[],G,Qm,Em,.nil,pr.hp,w,c,λcls d H' h=>h⟩
abbrev N0(X:Cx)(i:Inf)(Φ:iG.Fs):iG.Es->List (TE×TE)
 |.cons k (.cons v r)=>(tE X i Φ k,tE X i Φ v)::N0 X i Φ r
 |_=>[]
abbrev Kt:iG.Es->Bool
 |.nil=>fL
 |.cons _ .nil=>fM
 |.cons _ (.cons _ r)=>Kt r
abbrev esL:iG.Es->Nat
 |.nil=>0
 |.cons _ es=>esL es+1
abbrev As:List V->List (V×V)
 |x::y::r=>(x,y)::As r
 |_=>[]
def NG:∀(es:iG.Es),Kt es=fL->∀{σ:St}{H:Hp}{env:iG.Env}{G:iG.Hs}{Qm:List iG.Val->iG.Hs->Prop}{Em:iG.XQ}{Q:List (V×V)->Hp->Prop},Pre X i σ H env G Em->iG.wA Φ es env G Qm Em->
  (∀vs I H' xs,gj H H'->RH i I H'->RVs i.K H' vs xs->xs.length=esL es->Qm vs I->Q (As xs) H')->Nf (N0 X i Φ es) σ H Q
 |.nil,_,σ,H,env,G,Qm,Em,Q,p,w,c=>by rw[iG.q_a_nil]at w;exact c [] G H [] (gj.refl H) p.hp .nil rfl w
 |.cons k .nil,h,_,_,_,_,_,_,_,_,_,_=>by cases h
 |.cons k (.cons v r),h,σ,H,env,G,Qm,Em,Q,p,w,c=>by rw[iG.q_a_cons]at w;refine one p w λa G1 H1 x F z s q=>?_;rw[iG.q_a_cons]at q;refine one z q λb W O y R p2 d t=>?_;refine NG r h p2 t λvs I H' xs J g3 U hl M=>?_;exact c (a::b::vs) I H' (x::y::xs) ((F.trans R).trans J) g3 (.cons ((s.keep R).keep J)<|.cons (d.keep J) U) (by rw[Ñ,Ñ,hl];rfl) M
def JL{K:Frag}:∀{vs:List iG.Val}{xs:List V}{kvs:List (iG.Val×iG.Val)},RVs K H vs xs->iG.pairUp vs=fJ kvs->∃ps:List<|Key×V,As xs=ps.map (λI=>(kV I.1,I.2))/\RKs K H kvs ps/\2*ps.length=xs.length
 |[],_,_,r,e=>by cases r;cases e;exact⟨[],rfl,.nil,rfl⟩
 |[_],_,_,_,e=>by cases e
 |a::b::vs,_,kvs,r,e=>by
  cases r with
  |cons ra r=>cases r with
  |cons rb t =>
  rename_i y _;unfold iG.pairUp at e;split at e
  .rename_i J;let⟨ks,k,rfl⟩:=Ï.mp e;let⟨ps,d,U,q⟩:=JL t k;let⟨c,R,rfl⟩:=f6 J ra;refine⟨(c,y)::ps,?_,.cons R rb U,by rw[Ñ,Ñ,Ñ];lia⟩;show(kV c,y)::As _=_;rw[d];rfl
  .cases e
def RKs.merge{K:Frag}:∀{kvs:List (iG.Val×iG.Val)}{ps:List (Key×V)}{I:List (iG.Val×iG.Val)}{bs:List (Key×V)},RKs K H I bs->RKs K H kvs ps->RKs K H (iG.putAll I kvs) (Xp bs ps)
 |_,_,_,_,r,.nil=>r
 |_,_,I,bs,r,.cons (k:=k) (v:=v) (c:=c) (x:=x) (kvs:=kvs) (ps:=ps) a q t=>by show RKs K H (iG.putAll (iG.gp I k v) kvs) (Xp (L2.gp bs c x) ps);exact RKs.merge (RKs.put a q r) t
variable {í:Pos}
def Pr:PE X (.Dict [] [] í) (tE X i Φ<|.dct .nil) :=
 pe_dnewK.imp λσ H Q ⟨env,G,Qm,Em,p,w,c⟩=>by rw[iG.q_e_dct]at w;unfold iG.new at w;intro a ha;have R:=w a<|p.hp.free ha;let⟨d,e,J⟩:=fQ R;cases e;rw[iG.q_a_nil]at J;let⟨ks,U,_,I⟩:=fQ J;cases U;rw[iG.fP]at I;have k:=gj.new (o:=.dK []) ha;exact c _ _ _ _ k (p.hp.put (o:=.dct []) k ⟨[],fO,.nil⟩) (.ref a) I
def SV{es:iG.Es}{keys:List (Option Expr)}{J:List Expr}(he:Kt es=fL)(M:esL es<=30)(h:PPs X í keys J<|N0 X i Φ es)(I:keys.all (·.isSome)=fL)(hl:keys.length=J.length)(h0:keys≠[])(U:keys.length<=15):PE X (.Dict keys J í) (tE X i Φ<|.dct es) :=
 (Ix h I hl h0 U).imp λσ H Q ⟨env,G,Qm,Em,p,w,c⟩=>by
  rw[iG.q_e_dct]at w;unfold iG.new at w;intro a ha;have v:=w a<|p.hp.free ha;let⟨a',e,t⟩:=fQ v;cases e;have k:=gj.new (o:=.dK []) ha;have p2:Pre X i σ (upd H a<|.dK []) env (iG.upd G a<|.dct []) Em:=p.go k<|p.hp.put (o:=.dct []) k ⟨[],fO,.nil⟩;refine NG es he p2 t λvs G' H' xs F g2 y hl s=>?_;let⟨ks,e2,W,q⟩:=fQ s;let⟨ps,d,z⟩:=g2 a _ W;cases z;let⟨qs,V,O,h3⟩:=JL y e2;refine⟨d,qs,V,by lia,?_⟩;have R:gj H'<|upd H' a<|.dK<|Xp [] qs:=gj.put (λxs e=>by rw[d]at e;cases e) λp u e=>by rw[d]at e;cases e
  exact c _ _ _ _ ((k.trans F).trans R) (g2.put (o:=.dct<|iG.putAll [] ks) R ⟨_,fO,(RKs.merge .nil O).keep R⟩) (.ref a) q
end Snd
namespace L2
open PySem PySem.Spec PyProof.Rows
section
variable {X:Cx}{Â:List (Í×Obj)}{σ:St}{H:Hp}{s:Æ}{a:Í}{o:Obj}{ps:List (Key×V)}
def Inv.freeze(I:Inv X Â σ H s)(e:H a=fJ (.dK ps))(J:s.heap.get? a=fJ o):Inv X Â σ (upd H a<|.frz o<|.dK ps) s:=by have h:=I.hok a _ e;exact I.write (t':=s.toks) (x:=a) (e:=a) (h':=s.heap) (by rw[e];exact True.intro) (.inl rfl) (λ_ _ _ q=>q) ⟨o,J⟩ ⟨J,h⟩
def Inv.thaw(I:Inv X Â σ H s)(e:H a=fJ (.frz o<|.dK ps))(h0:∀o u,X.H₀ a≠fJ (.frz o u)):Inv X Â σ (upd H a<|.dK ps) s:=by
 have hn:∀b,H b=fK->upd H a (.dK ps) b=fK:=λb z=>by rw[fN<|by rintro rfl;rw[e]at z;cases z];exact z
 have v:=I.hok a _ e;refine⟨I.ok,I.os,I.bare,⟨I.base.keep,I.base.slot,λb J q n t=>hn b<|I.base.free b J q n t,I.base.there,λb xs q=>?_,λb J u q=>?_,λb R q=>?_⟩,I.loc,I.cell,hn _ I.free,λx c q=>hn _<|I.freeC x c q,λp hp=>?_,λb u q=>?_,I.len⟩
 .have z:=I.base.tups b xs q;rw[fN<|by rintro rfl;rw[e]at z;cases z];exact z
 .have z:=I.base.frzs b J u q;rw[fN<|by rintro rfl;exact h0 _ _ q];exact z
 .obtain⟨m,z⟩:=I.base.tbls b R q;exact⟨m,by rw[fN<|by rintro rfl;rw[e]at z;cases z];exact z⟩
 .obtain⟨l,k,f,d,U⟩:=I.pin p hp;exact⟨l,hn _ k,f,d,U⟩
 .by_cases hb:b=a
  .subst hb;rw[fO]at q;cases q;exact v.2
  .rw[fN hb]at q;refine(I.hok b u q).stay (λ_ _ _ q=>q) (λc z=>?_) λc xs z=>?_
   .rw[fN<|by rintro rfl;rw[e]at z;cases z];exact z
   .rw[fN<|by rintro rfl;rw[e]at z;cases z];exact z
end
abbrev Ends.thaw(X:Cx)(D:Ends):Ends where
 nx:=λσ H=>∃a o ps,H a=fJ (.frz o<|.dK ps)/\(∀o u,X.H₀ a≠fJ (.frz o u))/\D.nx σ (upd H a<|.dK ps)
 rt:=λv H=>∃a o ps,H a=fJ (.frz o<|.dK ps)/\(∀o u,X.H₀ a≠fJ (.frz o u))/\D.rt v (upd H a<|.dK ps)
 bk:=D.bk
 ct:=D.ct
def FN{st:ľ}(h:PS X st t):PS X st λD σ H=>t (D.thaw X) σ H:=λU s σ H D I q =>
 thn (h U s σ H _ I q) λf d z=>by
  cases f with
  |next =>let⟨J,H',R,a,o,ps,e,h0,q⟩:=z;exact⟨J,_,R.thaw e h0,q⟩
  |ret u =>let⟨v,J,H',R,r,a,o,ps,e,h0,q⟩:=z;exact⟨v,J,_,R.thaw e h0,r,q⟩
  |brk=>exact z
  |cont=>exact z
abbrev Iti(a:Í)(o:Obj)(ps:List<|Key×V):It :=
 ⟨λi H=>H a=fJ (.frz o<|.dK ps)/\i<ps.length,λi H v H'=>∃p k x,v=.ref p/\H p=fK/\ps[i]?=fJ (k,x)/\H'=upd H p (.tup [kV k,x]),λi H=>H a=fJ (.frz o<|.dK ps)/\ps.length<=i⟩
def Fa(h:Kq k u=fL):RelV (kV k) u:=by
 rcases Zs h with⟨i,t,rfl,rfl⟩|⟨x,t,rfl,rfl⟩
 .exact⟨t,rfl⟩
 .exact⟨t,rfl⟩
def KV.at:∀{ps:List (Key×V)}{vs:List (Key×Ã)}{i:Nat}{k:Key}{x:V},KV ps vs->ps[i]?=fJ (k,x)->∃u,vs[i]?=fJ (k,u)/\RelV x u:=by
 intro ps vs i k x r;unfold KV at r;induction r generalizing i with
 |nil=>intro h;simp at h
 |@cons p q ps qs h t ih =>
  intro e;cases i with
  |zero =>simp at e;subst e;let⟨q1,J⟩:=q;let⟨I,R⟩:=h;have I:k=q1:=I;subst I;exact⟨J,rfl,R⟩
  |succ i=>simpa using ih ⇑e
section
variable {X:Cx}{Â:List (Í×Obj)}{σ:St}{H:Hp}{s:Æ}{a:Í}{o:Obj}{ps:List (Key×V)}{es:Array DictEntry}{ep:Nat}
def WA(I:Inv X Â σ H s)(e:H a=fJ (.frz o<|.dK ps))(hd:o.data=.dict es ep):∃vs,KV ps vs/\s.heap.DictAt (Zf X.prog X.w) a vs ep:=by
 let⟨J,_,_,vs,d,o2,l,m,U,k,R,f⟩:=(show fV X.prog X.w H s.heap a (.frz o<|.dK ps) from I.hok a _ e)
 rw[J]at U;cases U;rw[hd]at R;cases R;exact⟨vs,d,o,es,J,k,hd,f⟩
end
variable {es:List Expr}{kk:Nat}{tp:Pos}{ds:Array DictEntry}{ep:Nat}{o:Obj}{ps:List (Key×V)}
def O1{K:Frag}(a it:Í)(hd:o.data=.dict ds ep) :
  Turn P w K (.Tuple es kk tp) (Iti a o ps) [it] it (λi h=>∃ok R,IsItemIter h it a i ps.length ep ok R) where
 mem:=by simp
 obj:=λi h st b hb=>by
  let⟨ok,R,J⟩:=st;have q:b=it:=⇑hb
  subst q;exact⟨_,J,λv z=>by cases z⟩
 keep:=λi h h' ⟨ok,R,J⟩ k=>⟨ok,R,k it (by simp) _ J⟩
 item:=by
  walk_at "C";subst hP hw hK;let⟨e,hi⟩:=hg;let⟨ok,R,J⟩:=st;let⟨y,l,da⟩:=WA I e hd;have hl:ps.length=y.length:=l.length;have hx:ps[i]?=fJ ps[i]:=É hi;let⟨u,hu,ru⟩:=l.at (k:=ps[i].1) (x:=ps[i].2) hx;rw[hl]at J;refine wpAny_pyNext_items_item J da hu λkey h3 hk f hT hsz U=>?_;have C:=hf it (by simp);have dO:it<s.heap.objs.size:=Û J;have nT:s.heap.objs.size≠it:=Ŕ dO;have cf:=I.fpOk (H':=H) (Ì s.heap.objs.size) I.fresh;refine⟨.ref s.heap.objs.size,rfl,wpAny_letOwnedTupleGo_items (s:={s with heap:=h3}) f λh4 F d=>?_⟩;have I4:Inv X Â σ H {s with heap:=h4,toks:=s.toks}:=I.turnedL (t':=s.toks) (ch:=[it]) (λb m hb q=>d.extBut b m (λz=>hb<|by simp[z])<|U b m (λz=>hb<|by simp[z]) q) hf;have O:h4.get? s.heap.objs.size=fJ {cls:=.type "tuple",data:=.seq #[key,u]}:=d.extBut _ _ nT hT;let⟨f0,f1,f2,f3,f4,f5⟩:=cf;have I5:Inv X Â σ (upd H s.heap.objs.size<|.tup [kV ps[i].1,ps[i].2]) {s with heap:=h4,toks:=s.toks}:=I4.track f0 I.sz f1 f4 f5 ⟨by show 2<=à;decide,[key,u],.cons (Fa hk)<|.cons ru .nil,_,O,rfl,_,rfl⟩;refine⟨.ref s.heap.objs.size,_,I5,rfl,⟨s.heap.objs.size,_,_,rfl,f0,hx,rfl⟩,⟨key,u,by rw[hl];exact F⟩,λb hb=>?_⟩;have q:b=it:=⇑hb
  subst q;rw[fN nT.symm];exact C.1
 done:=by
  walk_at "C";subst hP hw hK;let⟨e,hi⟩:=hg;let⟨ok,R,J⟩:=st;let⟨y,l,da⟩:=WA I e hd;have hl:ps.length=y.length:=l.length;rw[hl]at J hi;refine wpAny_pyNext_items_end (I.ok.hd hc) J da (ł hi) λh' M=>⟨rfl,?_⟩
  exact I.turnedL (t':=s.toks) (ch:=[it]) (λb m hb q=>M b m (λz=>hb<|by simp[z]) q) hf
 self:=λA i s Q E st h=>by let⟨ok,R,J⟩:=st;exact PySem.W.kcp_self J h
abbrev Itk(a:Í)(o:Obj)(ps:List<|Key×V):It :=
 ⟨λi H=>H a=fJ (.frz o<|.dK ps)/\i<ps.length,λi H v H'=>H'=H/\∃k x,ps[i]?=fJ (k,x)/\v=kV k,λi H=>H a=fJ (.frz o<|.dK ps)/\ps.length<=i⟩
variable {tg:Expr}
def A0{K:Frag}(a it:Í)(hd:o.data=.dict ds ep) :
  Turn P w K tg (Itk a o ps) [it] it (λi h=>h.IsKeyIter it a i ps.length ep) where
 mem:=by simp
 obj:=λi h st b hb=>by
  let⟨J,h1,_,h2⟩:=st;have q:b=it:=⇑hb
  subst q;exact⟨J,h1,λv z=>by rw[h2]at z;cases z⟩
 keep:=λi h h' st k=>st.at λo e=>k it (by simp) o e
 item:=by walk_at "C";subst hP hw hK;let⟨e,hi⟩:=hg;let⟨d,U,y⟩:=WA I e hd;have hl:ps.length=d.length:=U.length;have C:ps[i]?=fJ ps[i]:=É hi;let⟨u,F,ru⟩:=U.at (k:=ps[i].1) (x:=ps[i].2) C;rw[hl]at st;refine wpAny_pyNext_dict_item st y F λkey m W R M=>?_;have I3:Inv X Â σ H {s with heap:=m,toks:=s.toks}:=I.turnedL (t':=s.toks) (ch:=[it]) (λb J hb q=>M.extBut b J (λz=>hb<|by simp[z]) q) hf;let⟨J,O,ce,l⟩:=id R;refine⟨key,rfl,fR (s:={s with heap:=m,toks:=s.toks}) O ce l ↥1 ⟨kV ps[i].1,H,I3,Fa W,⟨rfl,_,_,C,rfl⟩,?_,λb hb=>(hf b hb).1⟩⟩;show m.IsKeyIter it a (i+1) ps.length ep;rw[hl];exact R
 done:=by
  walk_at "C";subst hP hw hK;let⟨e,hi⟩:=hg;let⟨d,U,y⟩:=WA I e hd;have hl:ps.length=d.length:=U.length;rw[hl]at st hi;refine wpAny_pyNext_dict_end (I.ok.hd hc) st y (ł hi) λh' f=>⟨rfl,?_⟩
  exact I.turnedL (t':=s.toks) (ch:=[it]) (λb J hb q=>f b J (λz=>hb<|by simp[z]) q) hf
 self:=λA i s Q E st h=>wpAny_pyIter_keyiter st h
abbrev P2(X:Cx)(J:Í->Obj->List (Key×V)->It)(I:TE):TI:=λσ H R=>I σ H λx H1=>∃a ps,x=.ref a/\H1 a=fJ (.dK ps)/\∀o,(∀o u,X.H₀ a≠fJ (.frz o u))->R (J a o ps) (upd H1 a<|.frz o<|.dK ps)
variable {d:Expr}
def CQ(hd:PE X d td)(aX:Ġ d "items" X.env (eval d X.env)=eval d X.env)(aY:(M.endLine==C.line)=fL) :
  PI X (.Tuple es kk tp) (.Call (.Attribute d "items" M) [] [] C) (P2 X Iti td):=by
 intro O s σ H R I h;refine wpAny_Call_method0_late aX aY<|thn (hd O s σ H _ I h) λv s1 ⟨x,H1,l,r1,a,ps,ex,J,q1⟩=>?_;subst ex;obtain rfl:v=Value.ref a:=r1;let⟨t1,t2,t3⟩:=QB l<|.inl ⟨ps,.inl J⟩;refine⟨"dict","dict.items",PySem.F.plainAttrs_dict,PySem.F.slot_dict_items,PySem.F.type_dict_items,t1,t2,Calls.callWith_builtin rfl<|PySem.evalArgs_none ?_⟩;let⟨z,q,vs,ũ,dd⟩:=W1 l.hok J;refine χ PySem.F.slot_dict_items dd.typeIs PySem.F.entry_dict_items (PySem.F.args_dict_items_1 _) (meets_dict_items (Zf X.prog X.w) a q) ⟨⟨vs,dd⟩,?_⟩;have k:Inv X O σ H1 {s1 with heap:=s1.heap.push {cls:=.type "dict_items",data:=.fields #[.ref a]}}:=l.kept (t':=s1.toks) λb o e=>Ä _ e;let⟨z2,W,m,U,y⟩:=W1 k.hok J;let⟨ep,da⟩:=y.dictAt;refine wpAny_pyIter_items (s:={s1 with heap:=s1.heap.push {cls:=.type "dict_items",data:=.fields #[.ref a]}}) (d:=a) ⟨_,Ú _ rfl,rfl,rfl⟩ da ?_;have I3:=k.kept (t':=s1.toks) (h':=(s1.heap.push {cls:=.type "dict_items",data:=.fields #[.ref a]}).push {cls:=.type "dict_itemiterator",data:=.fields #[.none,.bool fM,.ref a,.int 0 0,.int m.length 0,.int ep 0,.none,.none]}) λb o e=>Ä _ e;let⟨ob,ds,ho,_,f,_⟩:=da;have I4:=I3.freeze J<|Ä _ ho;refine⟨_,[_],_,_,_,rfl,I4,O1 a _ f,⟨.none,.none,?_⟩,λb hb=>?_,q1 ob λo u z=>by have:=l.base.frzs a o u z;rw[J]at this;cases this⟩
 .rw[U.length];exact Ú _ rfl
 .have e:b=(s1.heap.push {cls:=.type "dict_items",data:=.fields #[.ref a]}).objs.size:=⇑hb
  subst e;have hn:=k.hok.fresh<|Ì (s1.heap.push {cls:=.type "dict_items",data:=.fields #[.ref a]}).objs.size;exact k.fpOk (Ì _) (by rw[fN<|by intro z;rw[z]at hn;rw[J]at hn;cases hn];exact hn)
def F4(hd:PE X d td):PI X tg d<|P2 X Itk td:=by
 intro q s σ H R I h;refine thn (hd q s σ H _ I h) λv s1 ⟨x,H1,U,r1,a,ps,ex,f,C⟩=>?_;subst ex;obtain rfl:v=Value.ref a:=r1;let⟨z,k,y,m,O⟩:=W1 U.hok f;let⟨ep,l⟩:=O.dictAt;refine wpAny_pyIter_dict k l ?_;have I2:=U.kept (t':=s1.toks) (h':=s1.heap.push {cls:=.type "dict_keyiterator",data:=.fields #[.ref a,.int 0 0,.int y.length 0,.int ep 0]}) λb o e=>Ä _ e;let⟨F,ds,M,_,J,_⟩:=l;have W:=I2.freeze f<|Ä _ M;refine⟨_,[_],_,_,_,rfl,W,A0 a _ J,⟨_,Ú _ rfl,rfl,by rw[m.length];rfl⟩,λb hb=>?_,C F λo u z=>by have:=U.base.frzs a o u z;rw[f]at this;cases this⟩;have e:b=s1.heap.objs.size:=⇑hb
 subst e;have hn:=U.hok.fresh<|Ì s1.heap.objs.size;exact U.fpOk (Ì _) (by rw[fN<|by intro z;rw[z]at hn;rw[f]at hn;cases hn];exact hn)
abbrev TupsH(I S:Í)(items:Array Ã)(val:Nat->List Int)(h:Ĉ):Prop:=∀i v,items[i]?=fJ v->∃a J,v=.ref a/\a≠I/\a≠S/\ϸ h a J/\č J.toList (val i)
def TupsH.keep(t:TupsH I S items val h)(k:∀b o,b≠I->b≠S->h.get? b=fJ o->h'.get? b=fJ o):TupsH I S items val h':=λi v e=>by let⟨a,U,q,R,J,⟨o,l,f⟩,m⟩:=t i v e;exact⟨a,U,q,R,J,⟨o,k a o R J l,f⟩,m⟩
abbrev btL(val:Nat->List Int)(i j:Nat):Bool:=HT.lexLt (val i)<|val j
section
variable {l:Í}{val:Nat->List Int}{St:Nat->Ĉ->Prop}
def By(W:Walks prog w A.in1 I fp [I] items.size (λi v=>items[i]?=fJ v) St)(hu:A.units+1<Ī)(S:Í)(hSI:S≠I)(hSf:S∉fp) :
  ∀(k j:Nat) (s:Æ) (M:Ã) (c:Nat),items.size - (j+1)=k->j+1<=items.size->St (j+1) s.heap->TupsH I S items val s.heap->items[ĺ (btL val) j]?=fJ M->
  s.heap.get? S=fJ {cls:=.type "list",dict:=fK,data:=.seq #[M,M] c,slots:=#[]}->
  (∀v h' tk,items[ĺ (btL val)<|items.size - 1]?=fJ v->(∀b o,b≠I->b≠S->s.heap.get? b=fJ o->h'.get? b=fJ o)->R (.ok<|.ret v) {s with heap:=h',toks:=tk})->
  codeAny (â prog w) A (.builtin "min.loop" ⟨[.ref I,.none,.ref S],kw⟩) R s:=by
 have bI:(toString "min" ++ toString ".loop" : String) = "min.loop":=by decide
 have hSw:S∉[I]:=by simp[hSI]
 intro k;induction k with
 |zero =>
  intro j s M c hk hj θ hT t hS hR;have hin:j+1=items.size:=by lia
  refine Ę PySem.F.entry_min_loop ?_;rw[Ć PySem.F.plain_min_loop _];show wpAny _ A.in1 (au (.ref S) >>= _) _ _ s;refine À<|ī hS rfl ?_;show wpAny _ A.in1 (tryCatch (Κ<|.ref I) _ >>= _) _ _ s;refine À<|ω<|W.done s _ _ (hin▸θ) λh' tk C=>?_;have m:=C S _ hSw hS;show wpAny _ A.in1 (bN S (λ_=>#[]) >>= _) _ _ _;refine À ?_;refine Ž m rfl<|À<|ah<|È ?_;refine hR M _ tk (by rw[<-hin];exact t) λb o J O e=>(ò _ _<|Ne.symm O).trans (C b o ⇑J e)
 |succ k ih =>
  intro j s M c hk hj θ hT t hS hR;have Ϙ:j+1<items.size:=by lia
  refine Ę PySem.F.entry_min_loop ?_;rw[Ć PySem.F.plain_min_loop _];show wpAny _ A.in1 (au (.ref S) >>= _) _ _ s;refine À<|ī hS rfl ?_;show wpAny _ A.in1 (tryCatch (Κ<|.ref I) _ >>= _) _ _ s;refine À<|ω<|W.item (j+1) s _ _ Ϙ θ λv h' tk hP eN C=>?_;have m:=C S _ hSw hS;have q:TupsH I S items val h':=hT.keep λb o h1 _ e=>C b o ⇑h1 e;have hP:items[j+1]?=fJ v:=hP;let⟨a,ó,rfl,_,_,pa,ia⟩:=q _ _ hP;let⟨b0,ϰ,rfl,_,_,pb,ib⟩:=q _ _ t;show wpAny _ A.in1 (tryCatch (Ĵ [.ref a,.ref a]<|î .Lt (.ref a) (.ref b0) >>= _) _ >>= _) _ _ _;refine À<|ω<|Ă<|À<|HT2.lt_tups pa pb ia ib hu ?_;refine À<|Ă<|ē ?_;refine À<|ah<|È ?_;cases hb:HT.lexLt (val<|j+1) (val<|ĺ (btL val) j)with
  |true =>
   have dq:btL val (j+1) (ĺ (btL val) j)=fL:=hb;simp![if_true];refine À ?_;refine Ž m rfl<|À<|ah ?_;rw[bI];refine È ⟨Ķ PySem.F.plain_min_loop _,ih (j+1) _ (.ref a) _ ↥0 Ϙ (W.frame _ _ _ eN λb hbf o e=>?_) (q.keep λb o _ h2 e=>(ò _ _<|Ne.symm h2).trans e) (by simp![ĺ,dq,if_true];exact hP) (Ě _ m rfl)
     λv' z U y f=>?_⟩
   .exact(ò _ _ λh:S=b=>hSf<|by rw[h];exact hbf).trans e
   .exact hR v' z U y λb o J O e=>f b o J O ((ò _ _<|Ne.symm O).trans<|C b o ⇑J e)
  |false =>have dq:btL val (j+1) (ĺ (btL val) j)=fM:=hb;simp![ĕ,if_false];refine À<|ah ?_;rw[bI];refine È ⟨Ķ PySem.F.plain_min_loop _,ih (j+1) _ (.ref b0) c ↥0 Ϙ eN q (by simp![ĺ,dq,ĕ,if_false];exact t) m λv' z U y f=>?_⟩;exact hR v' z U y λb o J O e=>f b o J O (C b o ⇑J e)
variable {c:Nat}
def Ux(W:Walks prog w A.in1 I fp [I] items.size (λi v=>items[i]?=fJ v) St)(hu:A.units+1<Ī)(S:Í)(m:S≠I)(k:S∉fp)(hn:0<items.size)(θ:St 0 s.heap)(hT:TupsH I S items val s.heap)(hS:s.heap.get? S=fJ {cls:=.type "list",dict:=fK,data:=.seq #[] c,slots:=#[]})(hR:∀v h' tk,items[ĺ (btL val)<|items.size - 1]?=fJ v->(∀b o,b≠I->b≠S->s.heap.get? b=fJ o->h'.get? b=fJ o)->R (.ok<|.ret v) {s with heap:=h',toks:=tk}) :
  codeAny (â prog w) A (.builtin "min.loop" ⟨[.ref I,.none,.ref S],kw⟩) R s:=by
 have bI:(toString "min" ++ toString ".loop" : String) = "min.loop":=by decide
 have z:S∉[I]:=by simp[m]
 refine Ę PySem.F.entry_min_loop ?_;rw[Ć PySem.F.plain_min_loop _];show wpAny _ A.in1 (au (.ref S) >>= _) _ _ s;refine À<|ī hS rfl ?_;show wpAny _ A.in1 (tryCatch (Κ<|.ref I) _ >>= _) _ _ s;refine À<|ω<|W.item 0 s _ _ hn θ λv h' tk hP eN O=>?_;have q:=O S _ z hS;have y:TupsH I S items val h':=hT.keep λb o h1 _ e=>O b o ⇑h1 e;show wpAny _ A.in1 (bN S (λ_=>#[v,v]) >>= _) _ _ _;refine À ?_;refine Ž q rfl ?_;rw[bI];refine È ⟨Ķ PySem.F.plain_min_loop _,By W hu S m k _ 0 _ v _ rfl hn (W.frame _ _ _ eN λb t o e=>?_) (y.keep λb o _ h2 e=>(ò _ _<|Ne.symm h2).trans e) hP (Ě _ q rfl) λv' M J C U=>?_⟩
 .exact(ò _ _ λh:S=b=>k<|by rw[h];exact t).trans e
 .exact hR v' M J C λb o f fj e=>U b o f fj ((ò _ _<|Ne.symm fj).trans<|O b o ⇑f e)
def BD(f:A.handled=fK)(J:l≠I)(S:Í)(k:S≠I)(hn:items.size=0){nm:Str}{d:Ã}(U:s.heap.IsListIter I l 0/\s.heap.IsList l items)
  (m:s.heap.get? S=fJ {cls:=.type "list",dict:=fK,data:=.seq #[] c,slots:=#[]})
  (q:∀h' tk,(∀b o,b≠I->s.heap.get? b=fJ o->h'.get? b=fJ o)->R (.ok<|.ret d) {s with heap:=h',toks:=tk}) :
  codeAny (â prog w) A (.builtin "min.loop" ⟨[.ref I,.none,.ref S],[(nm,d)]⟩) R s:=by
 have W:=Walks.list (prog:=prog) (w:=w) (A:=A.in1) f I l J items;refine Ę PySem.F.entry_min_loop ?_;rw[Ć PySem.F.plain_min_loop _];show wpAny _ A.in1 (au (.ref S) >>= _) _ _ s;refine À<|ī m rfl ?_;show wpAny _ A.in1 (tryCatch (Κ<|.ref I) _ >>= _) _ _ s;refine À (ω<|W.done s _ _ (by rw[hn];exact U) λh' tk t=>?_);show wpAny _ A.in1 (rule _ >>= λ_=>ret d) _ _ _;exact À (Δ<|È<|q h' tk λb o hb e=>t b o ⇑hb e)
end
def B6(a:Ã):cS "min" ⟨[a],[(iO "default",.none)]⟩:=by unfold cS;kernel_rfl
def Kr(I:Nat->Nat->Bool):∀k,ĺ I k<=k
 |0=>Ì _
 |k+1=>by
  unfold ĺ;split
  .exact Ì _
  .exact Nat.le_succ_of_le<|Kr I k
def MP:∀{xs:List V}{us:List Ã}{i:Nat}{u:Ã},iu xs us->us[i]?=fJ u->∃x,xs[i]?=fJ x/\RelV x u
 |_,_,_,_,.nil,e=>by simp at e
 |_,_,0,_,.cons r _,e=>by simp at e;subst e;exact⟨_,rfl,r⟩
 |_,_,i+1,_,.cons _ t,e=>by let⟨x,J,I⟩:=MP (i:=i) t ⇑e;exact⟨x,⇑J,I⟩
section
def BC{Â:List (Í×Obj)}{s:Æ}{σ:St}{H:Hp}{a:Í}{xs:List V}{R:List (List Int)}{Q:VK}(hc:X.calm=fL)(hu:X.A.units+1<Ī)(I:Inv X Â σ H s)(hl:iq X.K H a xs)(hr:R.length=xs.length)
  (ht:∀i,i<R.length->∃p,xs[i]?=fJ (.ref p)/\ir X.K H p ((R.getD i []).map V.int))
  (q0:xs=[]->Q .non H) (q1:xs≠[]->∀x,xs[ĺ (btL λi=>R.getD i [])<|xs.length - 1]?=fJ x->Q x H) :
  wpAny ↥2 X.A (call (.builtin "min") [.ref a] [(iO "default",.none)]) (EP X Â σ Q) X.xe s:=by
 have bI:(toString "min" ++ toString ".loop" : String) = "min.loop":=by decide
 let⟨J,M,pl,hz⟩:=I.list hl;have hlen:=M.length;have hls:=pl.isList;let⟨ol,W,_⟩:=id hls;have k:a<s.heap.objs.size:=Û W;refine PyProof.Rows.kmk_tree PySem.F.kind_min PySem.F.plain_min PySem.F.entry_min (B6 _) ?_;show wpAny _ X.A.in1 (Builtin.Builtins.bindParams "min" ["key","default"] 0 ⟨[],[(iO "default",.none)]⟩ >>= _) _ _ s;refine À (ab (show Builtin.Builtins.bindParams "min" ["key","default"] 0 ⟨[],[(iO "default",.none)]⟩=pure [fK,fJ .none] from rfl) ?_);refine À<|È ?_;refine À<|Ţ hls ?_;refine À<|d8 ?_<|ė _;rw[bI];have hS:(s.heap.push {cls:=.type "list_iterator",data:=.fields #[.ref a,.int 0 0]}).objs.size=s.heap.objs.size+1:=size_push' ..;have m:a≠s.heap.objs.size:=ä k;have U:(s.heap.push {cls:=.type "list_iterator",data:=.fields #[.ref a,.int 0 0]}).objs.size≠s.heap.objs.size:=by rw[hS];exact Ŕ<|İ _
 have hSl:(s.heap.push {cls:=.type "list_iterator",data:=.fields #[.ref a,.int 0 0]}).objs.size≠a:=by rw[hS];exact Ŕ<|ĸ k
 have kk:∀b o,s.heap.get? b=fJ o->((s.heap.push {cls:=.type "list_iterator",data:=.fields #[.ref a,.int 0 0]}).push<|ό "list" #[] 0).get? b=fJ o:=λb o e=>Ä _<|Ä _ e;have gI:((s.heap.push {cls:=.type "list_iterator",data:=.fields #[.ref a,.int 0 0]}).push<|ό "list" #[] 0).get? s.heap.objs.size=fJ {cls:=.type "list_iterator",data:=.fields #[.ref a,.int 0 0]} :=
  Ä _ (Ú _ rfl)
 have gS:((s.heap.push {cls:=.type "list_iterator",data:=.fields #[.ref a,.int 0 0]}).push<|ό "list" #[] 0).get? (s.heap.push {cls:=.type "list_iterator",data:=.fields #[.ref a,.int 0 0]}).objs.size=fJ (ό "list" #[] 0):=Ú _ rfl;have f:∀b o,s.heap.get? b=fJ o->b≠s.heap.objs.size/\b≠(s.heap.push {cls:=.type "list_iterator",data:=.fields #[.ref a,.int 0 0]}).objs.size:=λb o e=>by have:=Û e;rw[hS];exact⟨ä this,ä<|ĸ this⟩
 have θ:Heap.IsListIter ((s.heap.push {cls:=.type "list_iterator",data:=.fields #[.ref a,.int 0 0]}).push<|ό "list" #[] 0) s.heap.objs.size a 0/\Heap.IsList ((s.heap.push {cls:=.type "list_iterator",data:=.fields #[.ref a,.int 0 0]}).push<|ό "list" #[] 0) a J.toArray:=by refine⟨⟨_,gI,rfl,rfl⟩,?_⟩;let⟨o,e,r⟩:=hls;exact⟨o,kk _ _ e,r⟩
 refine È ⟨Ķ PySem.F.plain_min_loop _,?_⟩;by_cases h0:xs=[]
 .have hi:J.toArray.size=0:=by rw[Î,<-hlen,h0];rfl
  refine BD (I:=s.heap.objs.size) (A:=X.A) (l:=a) (items:=J.toArray) (I.ok.hd hc) m _ U hi θ gS λh' y hk=>?_;exact⟨.non,H,I.kept (t':=y) λb o e=>hk b o (f b o e).1<|kk b o e,rfl,q0 h0⟩
 .have hi:0<J.toArray.size:=by
   rw[Î,<-hlen];exact d9.mpr h0
  refine Ux (A:=X.A) (items:=J.toArray) (val:=λi=>R.getD i []) (Walks.list (A:=X.A.in1) (I.ok.hd hc) s.heap.objs.size a m J.toArray) hu _ U (λz=>(Å.mp z).elim U λz=>hSl<|Ó.mp z) hi θ (λi v e=>?_) gS λv h' y O hk=>?_
  .have e:J[i]?=fJ v:=⇑e
   have hi':i<R.length:=by rw[hr,hlen];exact(Ô.mp e).1
   let⟨p,bC,fh⟩:=ht i hi';let⟨x,q,C⟩:=MP M e;rw[bC]at q;cases q;obtain rfl:v=Value.ref p:=C;let⟨tt,r2,⟨o2,e2,rest⟩,_⟩:=I.tuple fh;exact⟨p,tt.toArray,rfl,(f p o2 e2).1,(f p o2 e2).2,⟨o2,kk _ _ e2,rest⟩,ZZ r2⟩
  .have O:J[ĺ (btL λi=>R.getD i [])<|xs.length - 1]?=fJ v:=by rw[hlen];simpa using O
   let⟨x,q,C⟩:=MP M O;exact⟨x,H,I.kept (t':=y) λb o e=>hk b o (f b o e).1 (f b o e).2<|kk b o e,C,q1 h0 x q⟩
abbrev SN(K:Frag)(R:TA):TE:=λσ H Q=>R σ H λJ H1=>∃a xs,∃I:List<|List Int,J=[.ref a]/\iq K H1 a xs/\I.length=xs.length/\
 (∀i,i<I.length->∃p,xs[i]?=fJ (.ref p)/\ir K H1 p ((I.getD i []).map V.int))/\(xs=[]->Q .non H1)/\(xs≠[]->∀x,xs[ĺ (btL λi=>I.getD i [])<|xs.length - 1]?=fJ x->Q x H1)
def F2(C:X.calm=fL)(t:X.A.units+1<Ī)(z:Gl X "min")(hm:X.mg "min" = fK)(ha:PA X [e] R)(U:Þ [e] X.env=[(fM,eval e X.env)]) :
  PE X (.Call (.Name "min" p) [e] [⟨fJ "default",.Constant .none kk kp,J⟩] í) (SN X.K R):=by
 walk_at "B";refine ĳ (YQ (u:=.builtin "min") I z hm (by kernel_rfl) ?_);refine PyProof.Rows.callWith_kw (e:=e) (rest:=[]) ?_ (by rw[U];rfl) (by rw[U];rfl) rfl rfl;refine thn (ha í Â s σ H _ I h) λus s1 ⟨vs,H1,W,r1,a,xs,Ĥ,ev,hl,y,ht,q,m⟩=>?_;subst ev;let⟨u,rfl,k⟩:=ZR r1;cases k;refine PyProof.Rows.kws_cons<|thn (CZ Â s1 σ H1 (λv f=>v=.non/\f=H1) W ⟨rfl,rfl⟩) λv s2 ⟨x,f,O,l,M,F⟩=>PyProof.Rows.kws_nil ?_;subst M F;obtain rfl:v=Value.none:=l;exact BC C t O hl y ht q m
def Ws{P:æ}{w:û}:∀{ns:List Int}{vs:List (Key×Ã)}{J:List Ã},vs.map (·.1)=ns.map Sum.inl->J.length=vs.length->(∀(j:Nat) (v:Ã),J[j]?=fJ v->∃(k:Key) (x:Ã),vs[j]?=fJ (k,x)/\(Zf P w).is k v=fL)->č J ns
 |[],[],[],_,_,_=>.nil
 |[],_::_,_,h,_,_=>by cases h
 |_::_,[],_,h,_,_=>by cases h
 |[],[],_::_,_,h,_=>by cases h
 |_::_,_::_,[],_,h,_=>by cases h
 |n::ns,p::vs,u::J,I,h2,h3=>by rw[Ò,Ò]at I;injection I with I h1';let⟨k,x,R,U⟩:=h3 0 u rfl;simp at R;subst R;have I:k=Sum.inl n:=I;subst I;obtain⟨t,rfl⟩:∃t,u=Value.int n t:=Fa (k:=Sum.inl n) (u:=u) U;exact .cons n t (Ws (P:=P) (w:=w) h1' ⇑h2 λj v e=>by simpa using h3 (j+1) v ⇑e)
def MX(hc:X.calm=fL):fU X (.builtin "sorted") (λxs H Q=>∃p kvs,∃ns:List Int,xs=[.ref p]/\Rd H p (.dK kvs)/\kvs.map (·.1)=ns.map Sum.inl/\ns.length<64/\∀l,H l=fK->Q (.ref l) (upd H l<|.lst<|(sortI ns).map V.int)):=by
 walk_at "D";let⟨p,kvs,ns,rfl,hp,hk,M,q⟩:=h;let⟨u,rfl,rx⟩:=ZR r;cases rx;let⟨z,F,C,k,dd⟩:=XT I.hok hp;let⟨ep,da⟩:=dd.dictAt;have hlen:C.length=ns.length:=by have:=congrArg List.length hk;simpa[k.length]using this
 refine Calls.call_function_entry kind_sorted plain_sorted entry_sorted (args_sorted1 _) ?_;unfold Builtin.«sorted»;refine À (m:=checkCount "sorted" 1 1 _)<|È ?_;refine À (PySem.W.kdu_collect (A:=X.A.in1) (PySem.W.kdl_dict (knd:=Zf X.prog X.w) (kvs:=C) (ep:=ep) F) (I.ok.hd hc) da (by rw[<-k.length];exact z) λf O y U J=>?_);have hl:y.toList.length=C.length:=by rw[ö];exact J.1
 refine À (d8 ?_<|by rw[hl,<-k.length];exact z);have hI:č y.toList ns:=Ws (P:=X.prog) (w:=X.w) (by rw[<-k.keys];exact hk) hl λj v e=>J.2 j v (by rw[<-Ą];exact e);have R:(f.push<|ό "list" y.toList.toArray 0).get? f.objs.size=fJ (ό "list" y.toList.toArray 0):=Ú _ rfl;have I1:Inv X Â σ H {s with heap:=f,toks:=O}:=I.kept U;refine À (Ă<|ę slot_list_sort ⟨_,R,rfl⟩ entry_list_sort (list_sort_tree R hI (by rw[hl,hlen];exact M) λout eL a1 a2 a3=>⟨_,rfl,?_⟩)<|args_list_sort _);have e:=YO a2 a3;subst e;let⟨n,he⟩:=sortedHeap_at (out:=out) R;refine È ⟨_,rfl,.ref f.objs.size,_,I1.laid (a:=f.objs.size) (o:=.lst<|(sortI ns).map V.int) (t':=O) (λb o e=>?_) (Ì _) ?_,rfl,q _<|I1.hok.fresh<|Ì _⟩
 .have e:f.get? b=fJ o:=e;have hb:=Û e;rw[sortedHeap_old (ä hb)<|by rw[size_push'];exact ĸ hb];exact Ä _ e
 .exact⟨by rw[Á,YV];unfold à;lia,out.toList,n,YS a1,by simpa[ό]using he⟩
end
end L2
namespace Srt
open PySem.W PyProof.Rows
abbrev ok(n:Nat)(lt:Nat->Nat->Bool):KasT α->(α->Prop)->Prop
 |.ret a,Q=>Q a
 |.ask i j k,Q=>i<n/\j<n/\ok n lt (k<|lt i j) Q
section
variable {n:Nat}
abbrev K(p:Array Nat)(k:Nat):Nat:=p.getD k 0
end
end Srt
namespace Snd
open PySem L2
variable {i:Inf}
def Ol:∀{kvs:List (iG.Val×iG.Val)}{ps:List (Key×V)}{ns:List Int},RKs i.K H kvs ps->iG.keysOf kvs=fJ ns->ps.map (·.1)=ns.map Sum.inl
 |_,_,ns,.nil,e=>by have e:fJ []=fJ ns:=e;cases e;rfl
 |(k,v)::kvs,_,ns,.cons (c:=c) I _ t,e=>by
  have e:iG.fT (k::kvs.map (·.1))=fJ ns:=e;cases k with
  |int j =>
   have e:(iG.fT (kvs.map (·.1))).map (j :: ·)=fJ ns:=e;let⟨ms,z,rfl⟩:=Ï.mp e;have J:=Ol (ns:=ms) t z;cases c with
   |inl l =>have I:j=l:=I;subst I;rw[Ò,Ò,J]
   |inr _=>exact(show False from I).elim
  |_=>cases e
def MC:∀{ys:List iG.Val}{ns:List Int},iG.fT ys=fJ ns->ys=ns.map .int
 |[],_,e=>by cases e;rfl
 |y::ys,ns,e=>by
  cases y with
  |int j =>let⟨ms,z,rfl⟩:=Ï.mp (show(iG.fT ys).map (j :: ·)=fJ ns from e);rw[Ò,<-MC z]
  |_=>cases e
def NJ:∀{xs:List iG.Val}{us:List V}{Ĥ:List (List Int)},RVs i.K H xs us->iG.rowsOf xs=fJ Ĥ->Ĥ.length=us.length/\(∀n,n<Ĥ.length->∃p,us[n]?=fJ (.ref p)/\ir i.K H p ((Ĥ.getD n []).map V.int))/\xs=Ĥ.map λr=>.tup (r.map .int)
 |_,_,Ĥ,.nil,e=>by have e:fJ []=fJ Ĥ:=e;cases e;exact⟨rfl,λn h=>iM h<|Nat.not_lt_zero _,rfl⟩
 |v::xs,_,Ĥ,.cons r t,e=>by
  cases v with
  |tup ys =>
   let⟨ns,z1,e⟩:=è.mp (show(iG.fT ys).bind (λns=>(iG.rowsOf xs).map (ns :: ·))=fJ Ĥ from e);let⟨rs,z2,rfl⟩:=Ï.mp e;let⟨R,J,I⟩:=NJ t z2;cases r with
   |tup hp hr =>
    have:=Z1 z1 hr;subst this;refine⟨by rw[Ñ,Ñ,R],λn hn=>?_,?_⟩
    .cases n with
     |zero=>exact⟨_,rfl,Zo hp⟩
     |succ n=>exact J n ⇑hn
    .rw[Ò,<-I];have:ys=ns.map .int:=MC z1;rw[this]
  |_=>cases e
def UN:KS i .sortedI (λxs H Q=>(∃p,∃ns:List Int,xs=[.ref p]/\iq i.K H p (ns.map V.int)/\ns.length<64/\∀l,H l=fK->Q (.ref l) (upd H l<|.lst<|(L2.sortI ns).map V.int))\/
    (∃p kvs,∃ns:List Int,xs=[.ref p]/\Rd H p (.dK kvs)/\kvs.map (·.1)=ns.map Sum.inl/\ns.length<64/\∀l,H l=fK->Q (.ref l) (upd H l<|.lst<|(L2.sortI ns).map V.int))):=by
 intro d G H xs Q Qm g r w c;let⟨v,rfl,w⟩:=X9 w;let⟨x,rfl,U⟩:=r.inv1;have key:∀(ns:List Int),(if ns.length<64 then iG.Rs.new (.lst<|(iG.sortI ns).map .int)else .no).wp G Qm->ns.length<64/\∀l,H l=fK->Q (.ref l) (upd H l<|.lst<|(L2.sortI ns).map V.int):=λns w=>by
  split at w
  .rename_i I;exact⟨I,Z2 g (W0 w) c λp hp=>⟨_,fO,RVs.ints _⟩⟩
  .exact(Zi w).elim
 cases v with
 |ref a =>
  cases U.ref_inv
  replace w:(iG.biSortedI G<|.ref a).wp G Qm:=w
  unfold iG.biSortedI iG.sortAny at w;dsimp only at w;cases z:G a with
  |none=>rw[z]at w;exact(Zi w).elim
  |some o =>
   rw[z]at w;cases o with
   |lst ys =>
    cases z2:iG.fT ys with
    |none=>simp![z2]at w;exact(Zi w).elim
    |some ns =>simp![z2]at w;let⟨us,R,J⟩:=g a _ z;have:=Z1 z2 J;subst this;exact .inl ⟨a,ns,rfl,iq.of R,key ns w⟩
   |dct kvs =>
    cases z2:iG.keysOf kvs with
    |none=>simp![z2]at w;exact(Zi w).elim
    |some ns =>simp![z2]at w;let⟨ps,R,J⟩:=g a _ z;exact .inr ⟨a,ps,ns,rfl,.inl R,Ol J z2,key ns w⟩
   |_=>exact(Zi w).elim
 |scr ns =>
  cases U with
  |scr h=>exact .inl ⟨_,ns,rfl,Z7 h,key ns w⟩
 |_=>exact(Zi w).elim
end Snd
namespace L2
open PySem PySem.Spec PyProof.Rows
section
variable {e:Expr}{lo:Option Expr}{st:Expr}{ts:TE}{í p2:Pos}
def K3(r:iu xs us):∀I:List Nat,iu (iG.pickL I xs) (iG.pickL I us)
 |[]=>.nil
 |k::I=>by
  have h:(xs[k]?=fK/\us[k]?=fK)\/∃x u,xs[k]?=fJ x/\us[k]?=fJ u/\RelV x u:=by
   clear I;induction r generalizing k with
   |nil=>exact .inl ⟨rfl,rfl⟩
   |cons r1 r2 J =>
    cases k with
    |zero=>exact .inr ⟨_,_,rfl,rfl,r1⟩
    |succ k=>exact J k
  have J:=K3 r I;unfold iG.pickL at J ⊢;rcases h with⟨U,R⟩|⟨x,u,U,R,d⟩
  .rw[ï,ï,U,R];exact J
  .rw[ï,ï,U,R];exact .cons d J
def CC{a b k:Int}{n:Nat}(I:k≠0)(h1:0<k->0<=a/\b<=n)(m:k<0->a<n/\-1<=b):(Ϥ a b k).Nodup/\(Ϥ a b k).length<=n:=by
 unfold Ϥ;dsimp only;rcases Int.lt_or_gt_of_ne I with I|I
 .obtain⟨l,f⟩:=m I;rw[iI<|by lia];by_cases J:a > b
  .rw[iH J];have hd:∀j:Nat,j<((a - b - k - 1) / -k).toNat->(j:Int) * -k<=a - b - 1:=λj U=>by
    have d:((j:Int)+1)<=(a - b - k - 1) / -k:=by lia
    have y:=(cQ (by lia:0 < -k)).mp d;have v:((j:Int)+1) * -k=(j:Int) * -k + -k:=by rw[ee,eh]
    lia
   refine⟨?_,?_⟩
   .rw[bE,az];refine List.Pairwise.imp_of_mem ?_ ž;intro i j hi U R e;have F:=hd i<|Ź.mp hi;have C:=hd j<|Ź.mp U;have t:k*(i:Int)=-((i:Int) * -k):=by rw[Int.mul_neg,Int.neg_neg,Int.mul_comm]
    have s:k*(j:Int)=-((j:Int) * -k):=by rw[Int.mul_neg,Int.neg_neg,Int.mul_comm]
    have q:(i:Int) * -k<(j:Int) * -k:=Int.mul_lt_mul_of_pos_right ↥0 ↥0;rw[t,s]at e;lia
   .rw[Á,ĵ];have:(a - b - k - 1) / -k<=a - b:=by
     refine ej ((cU (by lia:0 < -k)).mpr ?_);have:(a - b+1) * -k=(a - b)*(-k - 1)+(a - b) + -k:=by rw[ee,Int.mul_sub,dU,eh];lia
     have:0<=(a - b)*(-k - 1):=ϥ ↥0 ↥0;lia
    lia
  .rw[iI J];exact⟨Ċ,ė _⟩
 .obtain⟨l,f⟩:=h1 I;rw[iH I];by_cases J:a<b
  .rw[iH J];refine⟨?_,?_⟩
   .rw[bE,az];refine List.Pairwise.imp ?_ ž;intro i j R e;have q:k*(i:Int)<k*(j:Int):=Int.mul_lt_mul_of_pos_left ↥0 I;have z:0<=k*(i:Int):=ϥ ↥0 ↥0;lia
   .rw[Á,ĵ];have:(b - a+k - 1) / k<=b - a:=by
     refine ej<|(cU I).mpr ?_;have:(b - a+1)*k=(b - a)*(k - 1)+(b - a)+k:=by rw[ee,Int.mul_sub,dU,eh];lia
     have:0<=(b - a)*(k - 1):=ϥ ↥0 ↥0;lia
    lia
  .rw[iI J];exact⟨Ċ,ė _⟩
def IE{items:Array Ã}{lo hi:Option Int}{k:Int}(J:k≠0):∃I:List Nat,I.Nodup/\I.length<=items.size/\eS items lo hi (fJ k)=(iG.pickL I items.toList).toArray:=by
 refine⟨Ϥ (ĝ lo hi (fJ k) items.size).fst (ĝ lo hi (fJ k) items.size).snd.fst (ĝ lo hi (fJ k) items.size).snd.snd,?_⟩;have hb:(ĝ lo hi (fJ k) items.size).snd.snd=k:=rfl;rw[hb,<-and_assoc];refine⟨CC J (λh=>⟨?_,?_⟩) λh=>⟨?_,?_⟩,?_⟩
 .unfold ĝ;dsimp only[ϊ];rw[iH h];cases lo with
  |none=>exact Ϧ _
  |some i=>dsimp only;rw[iH h];lia
 .unfold ĝ;dsimp only[ϊ];cases hi with
  |none=>dsimp only;rw[iH h];exact Ϧ _
  |some i=>dsimp only;rw[iH h];lia
 .unfold ĝ;dsimp only[ϊ];cases lo with
  |none=>dsimp only;rw[iI<|by lia];lia
  |some i=>dsimp only;rw[iI<|by lia];lia
 .unfold ĝ;dsimp only[ϊ];cases hi with
  |none=>dsimp only;rw[iI<|by lia];exact Ϧ _
  |some i=>dsimp only;rw[iI<|by lia];lia
 .unfold eS iG.pickL;rw[hb];simp![Ą]
abbrev SX(K:Frag)(te:TE)(tl th:TO)(ts:TE):TE:=λσ H Q=>te σ H λx H1=>tl σ H1 λl U=>th σ U λu R=>ts σ R λk J=>∃a xs j,x=.ref a/\k=.int j/\j≠0/\iq K J a xs/\∀I:List Nat,I.Nodup->I.length<=xs.length->∀p,J p=fK->Q (.ref p) (upd J p<|.lst<|iG.pickL I xs)
def Hw(he:PE X e te)(hl:PO X lo tl)(hu:PO X hi th)(hs:PE X st ts):PE X (.Subscript e (.Slice lo hi (fJ st) p2) í)<|SX X.K te tl th ts:=by
 walk_at "B";refine Subscript_<|thn (he Â s σ H _ I h) λv s1 ⟨x,H1,I1,r1,W⟩=>?_;refine wpAny_Slice (thn (hl Â s1 σ H1 _ I1 W) λy s2 ⟨l,H2,I2,pl,V⟩=>thn (hu Â s2 σ H2 _ I2 V) λm s3 ⟨u,H3,I3,pu,O⟩=>(by
 rw[evalPart_some]
 refine thn (hs Â s3 σ H3 _ I3 O) λvk s4 ⟨k,H4,I4,F,M⟩=>?_
 let⟨a,xs,j,rfl,rfl,C,hx,q⟩:=M
 cases r1
 let⟨J,rfl⟩:=F
 have pk:Ν (.int j J)<|fJ j:=.int j J
 have d:Inv X Â σ H4 {s4 with heap:=s4.heap.push {cls:=.type "slice",data:=.fields #[y,m,.int j J]}}:=I4.kept (t':=s4.toks) λb ob q=>Ä _ q
 let⟨f,r,ht,hz⟩:=d.list hx
 have hlen:=r.length
 let⟨R,n1,U,n3⟩:=IE (items:=f.toArray) (lo:=l) (hi:=u) C
 rw[Î,<-hlen]at U
 show wpAny ↥2 X.A (aJ e (.Slice lo hi (fJ st) p2) (.ref a)<|.ref s4.heap.objs.size) (EP X Â σ Q) X.xe {s4 with heap:=s4.heap.push {cls:=.type "slice",data:=.fields #[y,m,.int j J]}}
 refine tail_any (ops:=[.ref a,.ref s4.heap.objs.size]) ht.isList.typeIs bo.lookup ?_ (by with_unfolding_all rfl)
 refine dY ht.isList (Heap.IsSliceOf.new ..) pl pu pk (λz=>C<|ë z) ?_ (by rw[Î]<;>lia)
 rw[n3]
 refine⟨.ref _,_,d.laid (a:=_) (t':=s4.toks) (o:=.lst<|iG.pickL R xs) (λb ob q=>Ä _ q) (Ì _) ?_,rfl,q R n1 U _<|d.hok.fresh<|Ì _⟩
 exact⟨Ù (Ù (Ū _ _) U) hz,iG.pickL R f,0,K3 r R,Ú _ rfl⟩))
end
end L2
namespace Snd
open PySem L2
def OB{K:Frag}(r:RVs K H xs us):∀I:List Nat,RVs K H (iG.pickL I xs) (iG.pickL I us)
 |[]=>.nil
 |k::I=>by
  have J:=OB r I;unfold iG.pickL at J ⊢;cases h1:xs[k]? with
  |none =>
   have R:us[k]?=fK:=by rw[List.getElem?_eq_none_iff]at h1 ⊢;rw[<-r.length];exact h1
   rw[ï,ï,h1,R];exact J
  |some x =>let⟨u,R,U⟩:=r.get h1;rw[ï,ï,h1,R];exact .cons U J
def GR(g:RH i G H)(e:iG.lsA G v=fJ xs)(r:RV i.K H v x):∃a vs,x=.ref a/\iq i.K H a vs/\RVs i.K H xs vs:=by
 cases v with
 |ref a =>cases r.ref_inv;let⟨vs,J,I⟩:=Zy g (show iG.fY (G a)=fJ xs from e);exact⟨a,vs,rfl,J,I⟩
 |scr ns =>
  cases e;cases r with
  |scr h=>exact⟨_,_,rfl,Z7 h,RVs.ints ns⟩
 |_=>cases e
def L5{lo:Option Expr}{st:Expr}(hK:X.K=i.K)(ha:PE X a<|tE X i Φ ma)(hl:PO X lo<|tOx X i Φ ml)(hh:PO X hi<|tOx X i Φ mh)(hs:PE X st<|tE X i Φ ms):PE X (.Subscript a (.Slice lo hi (fJ st) p2) í) (tE X i Φ<|.pick ma ml mh ms) :=
 (Hw ha hl hh hs).imp λσ H Q ⟨env,G,Qm,Em,p,w,c⟩=>by
  exact⟨env,G,_,Em,p,w,λv G1 H1 x J g1 r1 O=>⟨env,G1,_,Em,p.go J g1,O,λl G2 H2 I g2 M=>⟨env,G2,_,Em,(p.go J g1).go I g2,M,λu G3 H3 R g3 F=>⟨env,G3,_,Em,((p.go J g1).go I g2).go R g3,F,λk G4 H4 y f q V C=>by
    let⟨j,e1,z⟩:=fQ C
    let⟨hj,t⟩:=z
    let⟨xs,e2,s⟩:=fQ t
    let⟨b,us,hx,U,d⟩:=GR q e2<|((r1.keep I).keep R).keep f
    exact⟨b,us,j,hx,(by cases ZC e1;exact V.int_inv),hj,by rw[hK];exact U,λm n1 W=>Z2 q (s m n1<|by rw[d.length];exact W) ((((c.go J).go I).go R).go f) λp hp=>⟨_,fO,(OB d m).keep<|gj.new hp⟩⟩⟩⟩⟩⟩
end Snd
namespace Snd
open PySem L2 PyProof.Rows
def Mw:∀(ns:List Int) (a:Int),a∈iG.dedup ns↔a∈ns
 |[],a=>Iff.rfl
 |x::xs,a=>by
  have I:=Mw xs a;unfold iG.dedup;simp![Å,Đ,I];constructor
  .rintro(h|h)
   .exact .inl h
   .exact .inr h.1
  .rintro(h|h)
   .exact .inl h
   .by_cases e:a=x
    .exact .inl e
    .exact .inr ⟨h,⇑e⟩
def W2:∀ns:List Int,(iG.dedup ns).Nodup
 |[]=>Ċ
 |x::xs=>by unfold iG.dedup;rw[ā];refine⟨λh=>?_,List.Nodup.sublist ŧ<|W2 xs⟩;have:=(Đ.mp h).2;simp at this
def Kb:∀(ns ı:List Int),ı.Nodup->(ns.foldl Ŝ ı).Nodup/\∀a,a∈ns.foldl Ŝ ı↔a∈ı\/a∈ns
 |[],ı,h=>⟨h,λa=>by simp⟩
 |x::xs,ı,h=>by
  have J:(Ŝ ı x).Nodup/\∀a,a∈Ŝ ı x↔a∈ı\/a=x:=by
   unfold Ŝ;split
   .rename_i I;have hm:x∈ı:=⇑I
    exact⟨h,λa=>⟨.inl,λz=>z.elim id λe=>e▸hm⟩⟩
   .rename_i I;have hm:x∉ı:=⇑I
    refine⟨?_,λa=>by simp⟩;rw[ã];refine⟨h,by simp,λa ha b hb=>?_⟩;rw[Ó.mp hb];exact λe=>hm<|e▸ha
  let⟨U,R⟩:=Kb xs (Ŝ ı x) J.1;refine⟨U,λa=>?_⟩;rw[ķ,R,J.2,Å];constructor
  .rintro((z|z)|z)
   .exact .inl z
   .exact .inr<|.inl z
   .exact .inr<|.inr z
  .rintro(z|z|z)
   .exact .inl<|.inl z
   .exact .inl<|.inr z
   .exact .inr z
def Og(ns:List Int):(υ (λi=>ns.getD i 0) ns.length).Perm<|iG.dedup ns:=by
 have e:(List.range ns.length).map (λi=>ns.getD i 0)=ns:=by
  apply List.ext_getElem
  .simp
  .intro k I J;simp at I;simp[I]
 unfold υ;rw[e];let⟨I,J⟩:=Kb ns [] Ċ;refine(bF I<|W2 ns).mpr λa=>?_;rw[J,Mw];simp
def Ic(ns:List Int):(υ (λi=>ns.getD i 0) ns.length).length=(iG.dedup ns).length:=(Og ns).length_eq
def OS(g:RH i G H)(r:RV i.K H v x)(e:iG.sortOf G v=fJ ns):∃p,x=.ref p/\iq i.K H p (ns.map V.int):=by
 cases v with
 |ref a =>let⟨R,z1,z2⟩:=è.mp (show(iG.fY<|G a).bind iG.fT=fJ ns from e);let⟨us,J,I⟩:=Zy g z1;have:=Z1 z2 I;subst this;exact⟨a,r.ref_inv,J⟩
 |scr ms =>
  cases e;cases r with
  |scr h=>exact⟨_,rfl,Z7 h⟩
 |_=>cases e
def WQ:∀{xs:List iG.Val}{k n:Nat}{v:iG.Val},(iG.enumL k xs)[n]?=fJ v->∃x,xs[n]?=fJ x/\v=.tup [.int ((k+n:Nat):Int),x]
 |[],k,n,v,h=>by simp[iG.enumL]at h
 |x::xs,k,0,v,h=>by have h:fJ (iG.Val.tup [.int k,x])=fJ v:=h;cases h;exact⟨x,rfl,rfl⟩
 |x::xs,k,n+1,v,h=>by let⟨y,J,I⟩:=WQ (xs:=xs) (k:=k+1) (n:=n) (v:=v) (by simpa[iG.enumL]using h);refine⟨y,⇑J,?_⟩;rw[I,show k+1+n=k+(n+1) by lia]
def WY:∀(xs:List iG.Val) (k:Nat),(iG.enumL k xs).length=xs.length
 |[],_=>rfl
 |x::xs,k=>by show(iG.enumL (k+1) xs).length+1=xs.length+1;rw[WY xs]
def Du(ha:R a=fJ (.tup us)\/KT i.K a us)(U:RVs i.K R xs us):ItOk i R (Ite i.K a) (λ_=>True) (iG.enumL 0 xs) where
 go:=λn G H v k g e l=>by let⟨x,f,rfl⟩:=WQ l;have I:ir i.K H a us:=Zo<|ha.imp (k.t _ _) id;let⟨J,d,m⟩:=(U.keep k).get f;refine⟨⟨us,J,I,d⟩,λw H' ⟨p,s,hp,q⟩=>?_⟩;subst s;have:=q us J I d;subst this;have k:=gj.new (o:=.tup [.int n,J]) hp;refine⟨k,Wi g hp,.tup (.inl fO)<|.cons ?_<|.cons (m.keep k) .nil⟩;rw[η];exact .int _
 stop:=λn G H k g e hn=>by have I:ir i.K H a us:=Zo<|ha.imp (k.t _ _) id;exact⟨us,I,by rw[<-U.length,<-WY xs 0];exact hn⟩
def Ui(h:iG.tupOf v=fJ xs):v=.tup xs:=by
 cases v with
 |tup ys=>cases h;rfl
 |_=>cases h
variable {p:Pos}{í:Pos}{e:Expr}{m:iG.E}
def FK(y:X.K=i.K)(t:Gl X "enumerate")(hm:X.mg "enumerate" = fK)(he:PE X e<|tE X i Φ m)(I:Þ [e] X.env=[(fM,eval e X.env)]) :
  PI X (.Tuple es k J) (.Call (.Name "enumerate" p) [e] [] í) (tIt X i Φ<|.enum m) :=
 (AA (l:=fM) t hm (ZK he im I) I).imp λσ H R ⟨env,G,F,Em,p,w,c⟩=>by
  change tE X i Φ m σ H _;refine one p w λv C H1 x s f U q=>?_;let⟨xs,z,d⟩:=fQ q;clear q;cases Ui z;rw[y];cases U with
  |tup hp hr=>exact⟨_,rfl,⟨_,Zo hp⟩,c _ _ C H1 _ s f.hp (Du hp hr) d⟩
def D7(C:X.calm=fL)(F:X.K=i.K)(he:PE X e<|tE X i Φ m)(y:Gl X "len")(hm:X.mg "len" = fK)(U:Gl X "set")(R:X.mg "set" = fK)(d:Þ [e] X.env=[(fM,eval e X.env)]) :
  PE X (.Call (.Name "len" p) [.Call (.Name "set" p2) [e] [] O] [] í) (tE X i Φ<|.bi .lenSet<|.cons m .nil):=by
 refine(Yn A2 y hm (by kernel_rfl)<|ZK (YH Dl U R (by kernel_rfl) (ZK he im d) (he:=d)) im).imp λσ H Q ⟨env,G,Qm,Em,p,w,c⟩=>?_;change tE X i Φ m σ H _;refine one p w λv I H1 x s f r q=>?_
 replace q:(iG.biLenSet I v).wp I Qm:=q
 unfold iG.biLenSet at q;cases z:iG.sortOf I v with
 |none=>rw[z]at q;exact(Zi q).elim
 |some ns =>
  rw[z]at q;dsimp only at q;split at q
  .rename_i M;let⟨a,rfl,t⟩:=OS f.hp r z;refine⟨a,ns,rfl,by rw[F];exact t,M,C,λl S n hl hn=>?_⟩;have J:=hn.trans<|Ic ns;clear hn;subst J;have k:gj H1<|upd H1 l<|.set S (iG.dedup ns).length:=gj.new hl;refine⟨l,S,_,rfl,fO,?_⟩;exact c _ I _ _ (s.trans k) (Wi f.hp hl) (.int _)<|Zq q
  .exact(Zi q).elim
end Snd
namespace L2
noncomputable abbrev ItL:=Iq fL
end L2
namespace Snd
open PySem L2
def Cw:ItOk i s (ItL i.K a) (λg=>iG.fY (g a)=fJ xs) (iG.enumL 0 xs) where
 go:=λn G H v k g e f=>by let⟨x,d,rfl⟩:=WQ f;let⟨us,I,R⟩:=Zy g e;let⟨J,U,l⟩:=R.get d;refine⟨⟨us,J,I,U⟩,λw H' ⟨p,q,hp,m⟩=>?_⟩;subst q;have:=m us J I U;subst this;have k:=gj.new (o:=.tup [.int n,J]) hp;refine⟨k,Wi g hp,.tup (.inl fO)<|.cons ?_<|.cons (l.keep k) .nil⟩;rw[η];exact .int _
 stop:=λn G H k g e hn=>by let⟨us,I,R⟩:=Zy g e;exact⟨us,I,by rw[<-R.length,<-WY xs 0];exact hn⟩
def DC(z:X.K=i.K)(y:Gl X "enumerate")(hm:X.mg "enumerate" = fK)(he:PE X e<|tE X i Φ m)(J:Þ [e] X.env=[(fM,eval e X.env)]) :
  PI X (.Tuple es s U) (.Call (.Name "enumerate" p) [e] [] í) (tIt X i Φ<|.enumL m) :=
 (AA (l:=fL) y hm (ZK he im J) J).imp λσ H R ⟨env,G,V,Em,p,w,c⟩=>by change tE X i Φ m σ H _;refine one p w λv O H1 x t I d q=>?_;let⟨a,M,k⟩:=fQ q;clear q;let⟨xs,F,f⟩:=fQ k;cases X6 M;cases d.ref_inv;rw[z];let⟨us,C,_⟩:=Zy I.hp F;exact⟨_,rfl,⟨_,C⟩,c _ _ O H1 _ t I.hp Cw f⟩
end Snd
namespace L2
open PySem PySem.Spec PyProof.Rows
open PySem.Builtin
def MY:typeLookup (.type "list") "keys" = pure fK:=by rw[cr,ϭ];kernel_rfl
def Y3:entryFor table "dict.update.loop" = fJ Builtin.«dict.update.loop»:=entryFor_of_tree (by kernel_rfl)
def ZL:plainId "dict.update.loop" = fL:=by decide +kernel
section
def Bt(R:s.heap.get? a=fJ {cls:=.type "list",data:=.seq xs k})(U:A.handled=fK)(h:∀h' tk,(∀b o,s.heap.get? b=fJ o->h'.get? b=fJ o)->Q fK {s with heap:=h',toks:=tk}) :
  wpAny (â prog w) A (getAttr? (.ref a) "keys") Q E s:=by
 let⟨hp,g,d,tk,os⟩:=s;have hT:∀I,(⟨hp,g,d,I,os⟩:Æ).TypeIs (.ref a) "list":=λ_=>⟨_,R,rfl⟩
 have f1:=sub_AttributeError;have f3:=F.slot_list_getattribute.lookup;have f4:=F.slot_list_getattribute.bind<|.ref a;have l:=am_list_getattr_none;unfold getAttr? getAttrBy? getAttrBy
 repeat (any_goals (first|assumption|exact hT _|((with_reducible show wpAny _ _ (call (Value.builtin "list.__getattribute__") _ _) _ _ _);refine aQ F.slot_list_getattribute (hT _) am_entry_list_getattribute (F.args_list_getattribute_2 _ _) (meets_getattribute_miss_list a xs k _ "keys" _ MY ↥1<|by size_fits) ⟨R,U,λh' I e J=>?_⟩)|wp_step))
 let⟨t',f,he⟩:=J.there;show wpAny _ _ (getattributeRaised _ _ _ _ _ _ _) _ _ _;unfold getattributeRaised
 repeat (any_goals (first|assumption|wp_step))
 exact h _ _ J.keeps
abbrev PairsH(I d:Í)(items:Array Ã)(vals:List<|Key×Ã)(prog:æ)(w:û)(h:Ĉ):Prop:=∀(i:Nat) (v:Ã),items[i]?=fJ v->∃(a:Í) (key:Ã) (p:Key×Ã),v=.ref a/\a≠I/\a≠d/\vals[i]?=fJ p/\ϸ h a #[key,p.2]/\(Zf prog w).is p.1 key=fL
variable {I:Í}{d:Í}
def PairsH.keep(t:PairsH I d items vals prog w h)(k:∀b o,b≠I->b≠d->h.get? b=fJ o->h'.get? b=fJ o):PairsH I d items vals prog w h':=λi v e=>by let⟨a,key,p,q,R,J,m,⟨o,f,U⟩,l⟩:=t i v e;exact⟨a,key,p,q,R,J,m,⟨o,k a o R J f,U⟩,l⟩
def UF(hh:A.handled=fK)(hlI:l≠I)(q:d≠I)(hdl:d≠l)(hv:vals.length=items.size) :
  ∀(k j:Nat) (s:Æ) (ı:List<|Key×Ã) (t:Tok),items.size - j=k->j<=items.size->(s.heap.IsListIter I l j/\s.heap.IsList l items)->PairsH I d items vals prog w s.heap->s.heap.DictOf (Zf prog w) d ı->ı.length+k<=à->
  (∀h' tk,h'.DictOf (Zf prog w) d ((vals.drop j).foldl (λm p=>fy m p.1 p.2) ı)->(∀b o,b≠I->b≠d->s.heap.get? b=fJ o->h'.get? b=fJ o)->R (.ok<|.ret .none) {s with heap:=h',toks:=tk})->
  codeAny (â prog w) A (.builtin "dict.update.loop" ⟨[.ref d,.ref I,.int j t,.none],[]⟩) R s:=by
 have W:=Walks.list (prog:=prog) (w:=w) (A:=A.in1) hh I l hlI items;intro k;induction k with
 |zero =>
  intro j s ı t hk hj O hT hd hz hR;have hin:j=items.size:=by lia
  refine Ę Y3 ?_;rw[Ć ZL _];show wpAny _ A.in1 (Κ (.ref I) >>= _) _ _ s;refine À<|W.done s _ _ (hin▸O) λh' tk z=>?_;refine È ?_;refine hR h' tk ?_ λb o f _ e=>z b o ⇑f e;rw[Ĺ<|by lia];let⟨o,es,ep,y,r⟩:=hd;exact⟨o,es,ep,z d o ⇑q y,r⟩
 |succ k ih =>
  intro j s ı t hk hj O hT hd hz hR;have Ϙ:j<items.size:=by lia
  refine Ę Y3 ?_;rw[Ć ZL _];show wpAny _ A.in1 (Κ (.ref I) >>= _) _ _ s;refine À<|W.item j s _ _ Ϙ O λv h' tk hP eN z=>?_;have hT':PairsH I d items vals prog w h':=hT.keep λb o f _ e=>z b o ⇑f e;have hd':h'.DictOf (Zf prog w) d ı:=by let⟨o,es,ep,y,r⟩:=hd;exact⟨o,es,ep,z d o ⇑q y,r⟩
  let⟨a,key,p,rfl,haI,had,hp,⟨o,y,hc,n,C⟩,eJ⟩:=hT' j v hP;show wpAny _ A.in1 (Ĵ [.ref a] ((tryCatch (Dict.pairItems<|.ref a) _) >>= _) >>= _) _ _ _;refine À<|Ă<|À<|ω ?_;unfold Dict.pairItems;refine À<|Ś (T:="tuple") ⟨o,y,hc⟩ ?_;rw[iH<|by decide];refine À<|ī y C<|È ?_;show wpAny _ A.in1 (Ĵ [key,p.2]<|dictSet d key p.2) _ _ _;refine Ă (wpAny_dictSet_pairs (hsz:=by lia) eJ hd' λh'' F U=>?_);have J:∀b o,b≠I->b≠d->s.heap.get? b=fJ o->h''.get? b=fJ o:=λb o f M e=>(U.2 b M).trans (z b o ⇑f e);refine È ⟨Ķ ZL _,ih (j+1) _ (fy ı p.1 p.2) 0 ↥0 Ϙ (W.frame _ _ _ eN λb hb o e=>?_) (hT.keep J) F ?_ λh3 V hd3 hk3=>?_⟩
  .refine(U.2 b ?_).trans e;simp![Å,Õ,or_false]at hb;rcases hb with rfl|rfl
   .exact Ne.symm q
   .exact Ne.symm hdl
  .have:=stored_length_le ı p.1 p.2;lia
  .refine hR h3 V ?_ λb o f M e=>hk3 b o f M<|J b o f M e;have e:vals.drop j=p::vals.drop (j+1):=by
    rw[ť<|by lia];congr 1;exact ë ((É<|by lia).symm.trans hp)
   rw[e];exact hd3
end
abbrev CO(K:Frag)(H:Hp)(ys:List V)(kvs:List<|Key×V):Prop:=ys.length=kvs.length/\∀(i:Nat) (y:V),ys[i]?=fJ y->∃(a:Í) (p:Key×V),y=.ref a/\kvs[i]?=fJ p/\ir K H a [kV p.1,p.2]
def Mg{X:Cx}{q:List (Í×Obj)}{σ:St}{H:Hp}{s:Æ}(I:Inv X q σ H s){d J:Í}(m:s.heap.objs.size<=J)(hd:s.heap.objs.size<=d):∀{ys:List V}{kvs:List (Key×V)}{R:List Ã},iu ys R->ys.length=kvs.length->(∀(i:Nat) (y:V),ys[i]?=fJ y->∃(a:Í) (p:Key×V),y=.ref a/\kvs[i]?=fJ p/\ir X.K H a [kV p.1,p.2])->
  ∃vals:List<|Key×Ã,KV kvs vals/\vals.length=R.length/\∀(i:Nat) (v:Ã),R[i]?=fJ v->∃(a:Í) (key:Ã) (p:Key×Ã),v=.ref a/\a≠J/\a≠d/\vals[i]?=fJ p/\ϸ s.heap a #[key,p.2]/\(Zf X.prog X.w).is p.1 key=fL
 |[],[],[],_,_,_=>⟨[],.nil,rfl,λi v e=>by simp at e⟩
 |_::_,[],_,_,h,_=>by cases h
 |[],_::_,_,_,h,_=>by cases h
 |y::ys,(k,x)::kvs,_,.cons (b:=u) (l₂:=R) r t,hl,h=>by
  let⟨a,p,rfl,e2,hq⟩:=h 0 y rfl;cases e2;let⟨vals,k1,k2,W⟩:=Mg I m hd t ⇑hl λi z e=>h (i+1) z ⇑e;let⟨tt,M,pt,_⟩:=I.tuple hq;let⟨O,f,rfl,F,C⟩:=M.two;cases (show u=Value.ref a from r);have U:a<s.heap.objs.size:=pt.lt;refine⟨(k,f)::vals,.cons ⟨rfl,C⟩ k1,by simp[k2],λi v e=>?_⟩;cases i with
  |zero =>simp at e;subst e;exact⟨a,O,(k,f),rfl,ä<|å U m,ä<|å U hd,rfl,⇑pt,Xs F⟩
  |succ i=>simpa using W i v ⇑e
def KV.all(r:KV kvs vals):∀{m:List (Key×V)}{n:List (Key×Ã)},KV m n->KV (kvs.foldl (λm p=>gp m p.1 p.2) m) (vals.foldl (λm p=>fy m p.1 p.2) n):=by
 unfold KV at r;induction r with
 |nil=>exact λh=>h
 |cons q t ih =>intro m n h;rename_i a b l1 l2;let⟨k,x⟩:=a;let⟨J,u⟩:=b;let⟨e,I⟩:=q;cases (show k=J from e);exact ih<|h.put k I
def HY(kvs:List<|Key×V):∀m:List<|Key×V,(kvs.foldl (λm p=>gp m p.1 p.2) m).length<=m.length+kvs.length:=by
 induction kvs with
 |nil=>intro m;simp
 |cons p r ih =>intro m;have J:=ih<|gp m p.1 p.2;have I:=Yt m p.1 p.2;rw[ķ,Ñ];lia
abbrev Cs(K:Frag):List V->Hp->VK->Prop:=λxs H Q=>∃p J I,xs=[V.ref p]/\H p=fJ (.lst J)/\CO K H J I/\∀l,H l=fK->Q (.ref l) (upd H l<|.dK<|I.foldl (λm p=>gp m p.1 p.2) [])
def UH(hc:X.calm=fL):fU X (.type "dict")<|Cs X.K:=by
 walk_at "D";let⟨p,ys,C,rfl,hp,⟨hl,M⟩,q⟩:=h;let⟨u,rfl,ru⟩:=ZR r;cases ru;let⟨hz,ó,n,rv,bR⟩:=(show fV X.prog X.w H s.heap p (.lst ys) from I.hok p _ hp)
 have hlen:=rv.length;have hh:X.A.handled=fK:=I.ok.hd hc;refine callType_codes (Q₁:=λobj ġ=>obj=.ref s.heap.objs.size/\ġ={s with heap:=s.heap.push {cls:=.type "dict",data:=.dict #[]}}) F.kt_called_dict (F.kt_typeCall_dict_1 _) F.entry_dict_init (kt_code_dict_new _ ⟨rfl,rfl⟩) ?_;rintro obj ġ ⟨rfl,rfl⟩;have k:(s.heap.push {cls:=.type "dict",data:=.dict #[]}).DictOf (Zf X.prog X.w) s.heap.objs.size []:=Heap.DictOf.new s.heap;have R:(s.heap.push {cls:=.type "dict",data:=.dict #[]}).get? p=fJ {cls:=.type "list",data:=.seq ó.toArray n}:=Ä _ bR;have y:p<s.heap.objs.size:=Û bR;refine⟨k.typeIs,F.args_dict_init_2 _ _,?_⟩;unfold Builtin.«dict.__init__»;refine À ?_;unfold Builtin.Dict.selfAndRest;refine À<|wpAny_notOrdered_dict k.typeIs ?_;show wpAny _ _ (pure (s.heap.objs.size,[Value.ref p])) _ _ _;refine È ?_;show wpAny _ _ (Builtin.Dict.updateFrom "dict.__init__" s.heap.objs.size (.ref p) [] .none) _ _ _;unfold Builtin.Dict.updateFrom;refine À<|Ś (T:="list") ⟨_,R,rfl⟩ ?_;rw[iH<|by decide];refine À<|Bt R hh λV tk2 O=>?_;rw[iH<|show(fK:Option Ã).isNone=fL from rfl];refine À<|Δ ?_;have f:=O _ _ R;have hl2:V.IsList p ó.toArray:=⟨_,f,rfl,n,rfl⟩
 refine À<|Ţ hl2 ?_;have W:∀b o,s.heap.get? b=fJ o->V.get? b=fJ o:=λb o e=>O b o<|Ä _ e;have z:V.DictOf (Zf X.prog X.w) s.heap.objs.size []:=by let⟨o,es,ep,ho,r⟩:=k;exact⟨o,es,ep,O _ _ ho,r⟩
 have U:s.heap.objs.size<V.objs.size:=by let⟨o,es,ep,ho,r⟩:=z;exact Û ho
 let⟨vals,k1,k2,k3⟩:=Mg I (d:=s.heap.objs.size) (J:=V.objs.size) (ζ U) (Ì _) rv hl M;have bB:∀b o,s.heap.get? b=fJ o->(V.push {cls:=.type "list_iterator",data:=.fields #[.ref p,ģ 0]}).get? b=fJ o:=λb o e=>Ä _<|W b o e;refine È ⟨Ķ ZL _,?_⟩;refine UF (prog:=X.prog) (w:=X.w) (A:=X.A.in1) (I:=V.objs.size) (l:=p) (d:=s.heap.objs.size) (items:=ó.toArray) (vals:=vals) hh (ä<|Ť y U) (ä U) (Ŕ y) (by rw[k2];simp) _ 0 _ [] 0 rfl (ė _) ?_ (λi v e=>?_) ?_ ?_ λh3 tk3 hd3 hk3=>?_
 .exact⟨⟨_,Ú _ rfl,rfl,rfl⟩,⟨_,Ä _ f,rfl,n,rfl⟩⟩
 .obtain⟨a,key,p2,e1,e2,e3,e4,⟨o,ho,r⟩,e6⟩:=k3 i v ⇑e;exact⟨a,key,p2,e1,e2,e3,e4,⟨o,bB a o ho,r⟩,e6⟩
 .exact z.push _
 .simp![ņ,Î];lia
 .rw[ϝ]at hd3;have hn:=I.hok.fresh<|Ì s.heap.objs.size;have hzz:(C.foldl (λm p=>gp m p.1 p.2) []).length<=à:=by
   have:=HY C [];rw[<-hl]at this;simp at this;lia
  refine⟨rfl,.ref s.heap.objs.size,upd H s.heap.objs.size<|.dK<|C.foldl (λm p=>gp m p.1 p.2) [],I.laid (t':=tk3) (λb u e=>?_) (Ì _)<|JC hzz (beq_eq_false_iff_ne.mpr<|Ne.symm<|ä I.big) (k1.all .nil) hd3,rfl,q _ hn⟩;have hb:=Û e;exact hk3 b u (ä<|Ť hb U) (ä hb)<|bB b u e
end L2
namespace L2
open PySem PySem.Spec PyProof.Rows
def call_dictK:fU X (.type "dict") λxs H Q=>∃a kvs,xs=[V.ref a]/\H a=fJ (.dK kvs)/\∀l,H l=fK->Q (.ref l) (upd H l<|.dK kvs):=by walk_at "D";let⟨a,kvs,rfl,ha,q⟩:=h;let⟨u,rfl,R⟩:=ZR r;cases R;let⟨z,hd,k,J,f⟩:=W1 I.hok ha;refine kt_call_dict (knd:=Zf X.prog X.w) hd f (by rw[<-J.length];exact z) λm d U=>?_;have hn:=I.hok.fresh<|Ì s.heap.objs.size;refine⟨.ref s.heap.objs.size,upd H s.heap.objs.size<|.dK kvs,I.laid (t':=s.toks) (λb u e=>?_) (Ì _)<|JC z (beq_eq_false_iff_ne.mpr<|Ne.symm<|ä I.big) J d,rfl,q _ hn⟩;have hb:b≠s.heap.objs.size:=ä<|Û e;rw[U.2 b hb];exact Ä _ e
end L2
namespace Snd
open PySem L2
variable {i:Inf}
def J5{h:iG.Hs}{K:Frag}{H:Hp}:∀{xs:List iG.Val}{kvs:List (iG.Val×iG.Val)}{vs:List V},iG.pairsOf h xs=fJ kvs->RVs K H xs vs->∃ps,CO K H vs ps/\∀{m:List (iG.Val×iG.Val)}{I:List (Key×V)},RKs K H m I->RKs K H (iG.putAll m kvs) (ps.foldl (λm p=>L2.gp m p.1 p.2) I)
 |[],kvs,vs,e,r=>by cases e;cases r;exact⟨[],⟨rfl,λi y e=>by simp at e⟩,λh=>h⟩
 |v::xs,kvs,vs,e,r=>by
  unfold iG.pairsOf at e;split at e
  .rename_i k x;let⟨R,e⟩:=Zl e;let⟨rest,l,rfl⟩:=Ï.mp e;cases r with
   |cons ra t =>
    let⟨ps,⟨f,d⟩,U⟩:=J5 l t;cases ra with
    |tup hp hr =>
     cases hr with
     |cons rk t2 =>
      cases t2 with
      |cons rx t3 =>
       cases t3;let⟨c,J,rfl⟩:=f6 R rk;refine⟨(c,_)::ps,⟨by simp[f],λi y e=>?_⟩,λh=>U<|h.put J rx⟩;cases i with
       |zero=>simp at e;subst e;exact⟨_,_,rfl,rfl,Zo hp⟩
       |succ i=>exact d i y ⇑e
  .cases e
def GH:KS i .dict λxs H Q=>(∃a kvs,xs=[V.ref a]/\H a=fJ (.dK kvs)/\∀l,H l=fK->Q (.ref l) (upd H l<|.dK kvs))\/Cs i.K xs H Q:=by
 intro f G H xs Q Qm g r w c;let⟨v,rfl,w⟩:=X9 w;let⟨x,rfl,R⟩:=r.inv1;cases v with
 |ref a =>
  cases R.ref_inv
  replace w:(match G a with|some (.dct kvs)=>iG.Rs.new (.dct kvs)|some (.lst xs)=>(match iG.pairsOf G xs with|some kvs=>iG.Rs.new (.dct<|iG.putAll [] kvs)|none=>.no)|_=>.no).wp G Qm:=w
  cases z:G a with
  |none=>rw[z]at w;exact(Zi w).elim
  |some o =>
   rw[z]at w;cases o with
   |dct kvs =>let⟨ps,J,I⟩:=g a _ z;exact .inl ⟨a,ps,rfl,J,Z2 g (W0 w) c λp hp=>⟨ps,fO,I.keep<|gj.new hp⟩⟩
   |lst ys =>
    let⟨us,J,I⟩:=g a _ z;dsimp only at w;cases z2:iG.pairsOf G ys with
    |none=>rw[z2]at w;exact(Zi w).elim
    |some kvs =>rw[z2]at w;let⟨ps,d,U⟩:=J5 z2 I;exact .inr ⟨a,us,ps,rfl,J,d,Z2 g (W0 w) c λp hp=>⟨_,fO,(U .nil).keep<|gj.new hp⟩⟩
   |_=>exact(Zi w).elim
 |_=>exact(Zi w).elim
end Snd
namespace L2
open PySem
@[reducible] noncomputable def Ris(xs:Array Nat):Prop:=xs.toList.Pairwise (· < ·)
abbrev Uz(xs:Array Nat)(j lo:Nat):Prop:=lo<=xs.size/\(∀k x,k<lo->xs[k]?=fJ x->x<j)/\∀k x,lo<=k->xs[k]?=fJ x->j<=x
variable {xs:Array Nat}{a:Nat}{b:Nat}{x:Nat}
def WB(h:Ris xs)(I:a<b)(ha:xs[a]?=fJ x)(hb:xs[b]?=fJ y):x<y:=by rw[<-Ą]at ha hb;let⟨R,rfl⟩:=Ô.mp ha;let⟨J,rfl⟩:=Ô.mp hb;exact List.pairwise_iff_getElem.mp h a b R J I
def KC(h:Ris xs):∀(f lo hi:Nat),hi - lo<=f->lo<=hi->hi<=xs.size->(∀k x,k<lo->xs[k]?=fJ x->x<j)->(∀k x,hi<=k->xs[k]?=fJ x->j<=x)->Uz xs j (bq xs j f lo hi)
 |0,lo,hi,h1,h2,h3,h4,h5=>by
  have e:lo=hi:=by lia
  subst e;exact⟨h3,h4,h5⟩
 |f+1,lo,hi,h1,h2,h3,h4,h5=>by
  unfold bq;by_cases hl:lo<hi
  .rw[iH hl];dsimp only;have hm:(lo+hi) / 2<xs.size:=by lia
   have U:xs[(lo+hi) / 2]?=fJ xs[(lo+hi) / 2]:=ÿ hm;have l:xs.getD ((lo+hi) / 2) j=xs[(lo+hi) / 2]:=by simp[Ϯ,hm]
   rw[l];by_cases R:xs[(lo+hi) / 2]<j
   .rw[iH R];refine KC h f _ _ ↥0 ↥0 h3 (λk x d I=>?_) h5;by_cases J:k=(lo+hi) / 2
    .subst J;rw[U]at I;cases I;exact R
    .exact Ť (WB h ↥0 I U) R
   .rw[iI R];refine KC h f _ _ ↥0 ↥0 ↥0 h4 λk x d I=>?_;by_cases J:k=(lo+hi) / 2
    .subst J;rw[U]at I;cases I;lia
    .exact Ù (Nat.not_lt.mp R) (ζ<|WB h ↥0 U I)
  .rw[iI hl];have e:lo=hi:=by lia
   subst e;exact⟨h3,h4,h5⟩
def Oa(h:Ris xs)(j:Nat):Uz xs j<|Ļ xs j:=by unfold Ļ;refine KC h xs.size 0 xs.size ↥0 ↥0 ↥0 (λk x J=>by lia) λk x J I=>?_;rw[ϐ J]at I;cases I
variable {j:Nat}
def EY(ha:Uz xs j a)(hb:Uz xs j b):a=b:=by
 let⟨a1,a2,J⟩:=ha;let⟨b1,b2,b3⟩:=hb;rcases Nat.lt_trichotomy a b with h|h|h
 .have I:=ÿ (xs:=xs) (i:=a) ↥0;have:=b2 a _ h I;have:=J a _ (Ì _) I;lia
 .exact h
 .have I:=ÿ (xs:=xs) (i:=b) ↥0;have:=a2 b _ h I;have:=b3 b _ (Ì _) I;lia
def BN(h:Ris xs)(J:xs[i]?=fJ x):Uz xs (x+1)<|i+1:=by
 have hi:i<xs.size:=(Ŀ.mp J).1;refine⟨hi,λk y R I=>?_,λk y R I=>WB h ↥0 J I⟩;by_cases e:k=i
 .subst e;rw[J]at I;cases I;lia
 .have:=WB h (show k<i by lia) I J;lia
def Bs(xs:Array Nat):Uz xs 0 0:=⟨ė _,λk x I=>by lia,λ_ _ _ _=>ė _⟩
def GZ(h:Ris xs)(hn:xs[Ļ xs j]?≠fJ j):Ris<|SetTable.insertAt xs (Ļ xs j) j:=by
 let⟨c1,c2,c3⟩:=Oa h j;generalize Ļ xs j=p at c1 c2 c3 hn;unfold Ris;rw[SetTable.toList_insertAt];have U:(xs.toList.take p++xs.toList.drop p).Pairwise (· < ·):=by rw[List.take_append_drop];exact h
 let⟨f,d,s⟩:=Ϟ.mp U;have I:∀a∈xs.toList.take p,a<j:=λa ha=>by let⟨k,m,rfl⟩:=List.mem_take_iff_getElem.mp ha;refine c2 k _ ↥0 ?_;rw[<-Ą];exact É _
 have J:∀a∈xs.toList.drop p,j<a:=λa ha=>by
  let⟨k,e⟩:=cT.mp ha;rw[List.getElem?_drop,Ą]at e;have:=c3 (p+k) _ ↥0 e;rcases Nat.lt_or_ge j a with q|q
  .exact q
  .exfalso;have l:a=j:=by lia
   subst l;by_cases R:k=0
   .subst R;exact hn e
   .have hp:xs[p]?=fJ (xs[p]'(by have:=(Ŀ.mp e).1;lia)):=ÿ _;have:=WB h (show p<p+k by lia) hp e;have:=c3 p _ (Ì _) hp;lia
 exact Ϟ.mpr ⟨f,eY.mpr ⟨J,d⟩,λa ha b hb=>by
   rcases Å.mp hb with rfl|hb
   . exact I a ha
   . exact Ť (I a ha)<|J b hb⟩
structure Tb(b:Bool)(t:ŷ):Prop where
 led:b=fM->t.led=fL
 ris:Ris t.place
 dum:t.dummies=#[]
def Oq(hd:t.dummies=#[]):∀(n:Nat) (p:SetTable.Probe) (j:Nat) (d:Option Nat),p.dummy=fK->ϔ t f h n p=fJ (.empty j d)->t.slot j=.empty/\d=fK
 |0,p,j,d,h0,e=>by unfold ϔ at e;cases e
 |n+1,p,j,d,h0,e=>by
  unfold ϔ at e;cases hs:t.slot p.j with
  |empty =>rw[hs]at e;dsimp only at e;injection e with e;injection e with e1 e2;subst e1;exact⟨hs,e2▸h0⟩
  |dummy =>
   exfalso;unfold fz at hs;dsimp only at hs;split at hs
   .cases hs
   .rw[hd]at hs;simp[bG]at hs
  |live i =>
   rw[hs]at e;dsimp only at e;split at e
   .cases e
   .refine Oq hd n _ j d ?_ e;unfold SetTable.advance;split
    .exact h0
    .exact h0
def Hg{t:ŷ}(hd:t.dummies=#[]){h:Int}{b:Bool}(e:t.freeSlot h=fJ (j,b)):t.place[Ļ t.place j]?≠fJ j:=by
 unfold SetTable.freeSlot at e;split at e
 .rename_i k d hp;let⟨I,U⟩:=Oq hd _ _ _ _ rfl hp;subst U;injection e with e;injection e with J e2;have J:k=j:=J;subst J;unfold fz at I;dsimp only at I;split at I
  .cases I
  .rename_i R;exact λz=>R (by rw[z];exact beq_self_eq_true _)
 .cases e
def WE{b:Bool}(h:Tb b t)(n:Nat):Tb b (t.standIn n) :=
 ⟨h.led,by show(Array.range n).toList.Pairwise _;rw[Array.toList_range];exact ž,rfl⟩
def Qr{b:Bool}(h:Tb b t)(es:Array<|Int×Ã)(k:Int)(x:Ã):Tb b (layNew t es k x).2.1:=by
 unfold layNew;split
 .rename_i slot I hf;show Tb b (cH _ _);have hp:Tb b (t.put slot).1:=by
   refine⟨h.led,GZ h.ris<|Hg h.dum hf,?_⟩;show(if bG t.dummies slot then _ else t.dummies)=#[];rw[h.dum];simp[bG]
  unfold cH;split
  .exact hp
  .exact WE hp _
 .exact WE h _
def Ez{b:Bool}(h:Tb b t)(es:Array<|Int×Ã)(n:Nat):Tb b (relayAll t es n).2.1:=by
 unfold relayAll;split
 .rename_i t' order I;dsimp only;split
  .unfold SetTable.relaid SetTable.laid at I;cases hl:SetTable.layClean (SetTable.sizeAbove n - 1) (es.map (·.1))with
   |none=>rw[hl]at I;cases I
   |some owner =>rw[hl]at I;cases I;refine⟨h.led,?_,rfl⟩;show List.Pairwise _ (List.toArray _).toList;refine az.mpr<|List.pairwise_filterMap.mpr ?_;refine ž.imp λ{a c} J x U y R=>?_;let⟨_,_,rfl⟩:=Ï.mp U;let⟨_,_,rfl⟩:=Ï.mp R;exact J
  .exact WE h _
 .exact WE h _
end L2
namespace L2
open PySem PySem.Spec PyProof.Rows
section
variable (prog:æ)(w:û)
noncomputable abbrev byT:Bool:=w.params.followText "set-order"
abbrev SetI(h:Ĉ)(a:Í)(l:List Int):Prop:=∃o es J t I,h.get? a=fJ o/\o.ExactSet/\o.data=.set es J t/\ElemsOf (Ř prog w) es.toList/\es.size<aA/\t.fits es.size=fL/\
 Tb (byT w) t/\es.toList.Perm I/\č (I.map (·.2)) l
end
def X0:∀{vs:List Ã}{ns:List Int},č vs ns->vs.length=ns.length
 |_,_,.nil=>rfl
 |_,_,.cons _ _ r=>congrArg (· + 1)<|X0 r
def Ah:∀{vs:List Ã}{ns:List Int}(n:Int) (t:Tok),č vs ns->č (vs++[.int n t]) (ns++[n])
 |_,_,n,t,.nil=>.cons n t .nil
 |_,_,n,t,.cons m u r=>.cons m u<|Ah n t r
def UJ:∀{vs:List Ã}{ns:List Int},č vs ns->(n∈ns↔∃v∈vs,(Ř P w).is n v=fL)
 |_,_,.nil=>by simp
 |_,_,.cons m u r=>by
  have h:=UJ (P:=P) (w:=w) (n:=n) r;have I:(Ř P w).is n (.int m u)=iN (n=m):=KeyKind.is_eq_decide (intKind_is P w m u) n;rw[Å,h];constructor
  .rintro(rfl|⟨v,hv,e⟩)
   .exact⟨_,ð,by rw[I];simp⟩
   .exact⟨v,Ý _ hv,e⟩
  .rintro⟨v,hv,e⟩;rcases Å.mp hv with rfl|hv
   .rw[I]at e;exact .inl ⇑e
   .exact .inr ⟨v,hv,e⟩
variable {h:Ĉ}{a:Í}{l:List Int}
def SetI.setOf(x:SetI P w h a l):h.SetOf (Ř P w) a (λk=>iN (k∈l)) l.length:=by
 let⟨o,es,z,t,y,s,q,m,f,d,U,C,J,R⟩:=x;refine⟨o,es,z,t,s,q,m,f,λk=>?_,d,U,?_⟩
 .rw[decide_eq_true_iff,UJ (P:=P) (w:=w) R];constructor
  .rintro⟨v,hv,e⟩;let⟨x,I,rfl⟩:=Ü.mp hv;exact⟨x,J.mem_iff.mpr I,e⟩
  .rintro⟨x,I,e⟩;exact⟨_,Ü.mpr ⟨x,J.mem_iff.mp I,rfl⟩,e⟩
 .rw[<-X0 R,Á,<-J.length_eq,ö]
section
def AI(I:h.get? a=fJ o)(hd:o.data=.set es ep t) :
  (h.update a<|fA es' t').get? a=fJ {o with data:=.set es' (ep+1) t'}:=by
 have z:=Ě (fA es' t') I (by rw[putSet_of es' t' hd];rfl)
 rwa [putSet_of es' t' hd]at z
def add_int(hS:SetI prog w s.heap a l)(J:l.length+1<aA)(k:∀h' b,ź a s.heap h'->SetI prog w h' a (Ŝ l n)->Q b {s with heap:=h'}):wpAny (â prog w) A (setAddHashed a (.int n tk)<|(Ř prog w).hash n) Q E s:=by
 have hlen:=hS.setOf;let⟨o,es,ep,t,V,W,hex,hd,d,hb,hf,ht,hp,hi⟩:=id hS;have hsz:es.size=l.length:=by rw[<-X0 hi,Á,<-hp.length_eq,ö]
 have eJ:(Ř prog w).is n (.int n tk)=fL:=intKind_is _ _ _ _;unfold setAddHashed setAddHashedIn;refine Ă<|À<|ţ W hd hf ?_;dsimp only;rw[byScan_of rfl hb d];simp![↓reduceIte];unfold setAddByScan;refine À<|À<|Δ<|À<|wpAny_setScan_of eJ W hd hf d ?_;have hm:n∈l↔∃e∈es.toList,(Ř prog w).is n e.2=fL:=by
  rw[UJ (P:=prog) (w:=w) hi];constructor
  .rintro⟨v,hv,e⟩;let⟨x,hx,rfl⟩:=Ü.mp hv;exact⟨x,hp.mem_iff.mpr hx,e⟩
  .rintro⟨x,hx,e⟩;exact⟨_,Ü.mpr ⟨x,hp.mem_iff.mp hx,rfl⟩,e⟩
 cases hr:List.findIdx? (λe=>(Ř prog w).is n e.2) es.toList with
 |some j =>
  let⟨hj,hpj,_⟩:=List.findIdx?_eq_some_iff_getElem.mp hr;have hn:n∈l:=hm.mpr ⟨_,þ hj,hpj⟩;have e1:Ŝ l n=l:=by unfold Ŝ;rw[iH<|aK.mpr ⟨n,hn,by simp⟩]
  rw[e1]at k;exact È<|È<|k s.heap fM (Heap.SameBut.refl a s.heap) hS
 |none =>
  have hn:n∉l:=λz=>by let⟨e,he,q⟩:=hm.mp z;have:=List.findIdx?_eq_none_iff.mp hr e he;rw[q]at this;cases this
  have e1:Ŝ l n=l++[n]:=by
   unfold Ŝ;rw[iI];intro z;let⟨m,hm,q⟩:=aK.mp z;have q:m=n:=⇑q
   exact hn<|q▸hm
  rw[e1]at k;have l1:=layNew_perm t es ((Ř prog w).hash n)<|.int n tk;have l2:=layNew_fits t es ((Ř prog w).hash n)<|.int n tk;have l3:=Qr ht es ((Ř prog w).hash n)<|.int n tk;dsimp only;generalize hL:layNew t es ((Ř prog w).hash n) (.int n tk)=L at l1 l2 l3 ⊢;let⟨I,t1,wd,gv⟩:=L;dsimp only at l1 l2 l3 ⊢;rw[eZ]at l1;have i1:č ((V++[((Ř prog w).hash n,Value.int n tk)]).map (·.2))<|l++[n]:=by rw[Ö];exact Ah n tk hi
  have p1:I.toList.Perm<|V++[((Ř prog w).hash n,Value.int n tk)]:=l1.trans<|hp.append_right _;have O:ElemsOf (Ř prog w) I.toList:=(d.push eJ rfl).perm l1;have M:I.size=l.length+1:=by rw[<-ö,l1.length_eq,á,ö,hsz];rfl
  have fin:∀(h':Ĉ) (C:Obj) (f:Nat) (es':Array<|Int×Ã) (t':ŷ),ź a s.heap h'->h'.get? a=fJ C->C.ExactSet->C.data=.set es' f t'->es'.toList.Perm I.toList->t'.fits es'.size=fL->Tb (byT w) t'->∀b,Q b {s with heap:=h'}:=λh' C f es' t' sb g1 g2 g3 g4 g5 g6 b=>by refine k h' b sb ⟨C,es',f,t',_,g1,g2,g3,O.perm g4,?_,g5,g6,g4.trans p1,i1⟩;rw[<-ö,g4.length_eq,ö,M];exact J
  have F:I.size<=à:=bu (by rw[M];exact J);have g0:∀(b:Bool){ġ:Æ}{Q':Unit->Æ->Prop},Q' () ġ->wpAny (â prog w) A (match b with|true=>rule "set.scan.the-table-gave-way" | false=>pure ()) Q' E ġ :=
   λb ġ Q' hq=>by cases b<;>first|exact È hq|exact Δ hq
  refine À<|g0 _ ?_;have bv:hashByValue 8 (.int n tk)=(pure fL:Sem Bool):=hashByValue_scannable 8 rfl;rw[bv,ite_self];refine À<|È ?_;simp![↓reduceIte];refine À<|wpAny_storeSet_of W hd ?_ F;have U:=AI (es':=I) (t':=t1) W hd;have y:=ć s.heap a<|fA I t1;split
  .have r1:=relayAll_perm t1 I<|ϕ I.size;have r2:=relayAll_fits t1 I<|ϕ I.size;have r3:=Ez l3 I<|ϕ I.size;generalize relayAll t1 I (ϕ I.size)=R at r1 r2 r3 ⊢;let⟨es2,t2,gv2⟩:=R;dsimp only at r1 r2 r3 ⊢;refine À<|g0 _ ?_;refine À (wpAny_storeSet_of U rfl ?_<|by rw[<-ö,r1.length_eq,ö];exact F);exact È<|È<|fin _ _ _ es2 t2 (y.trans<|ć _ a _) (AI U rfl) hex rfl r1 r2 r3 _
  .exact È<|È<|fin _ _ _ I t1 y U hex rfl .rfl l2 l3 _
end
def SetI.at(x:SetI P w h a l)(k:∀o,h.get? a=fJ o->h'.get? a=fJ o):SetI P w h' a l:=by let⟨o,es,U,t,I,R,J⟩:=x;exact⟨o,es,U,t,I,k _ R,J⟩
section
variable {R:aN->Æ->Prop}{I:Í}{G:Array cL->Array cL->Prop}{n:Nat}{St:Nat->Æ->Prop}
def D5(W:WalksS prog w A.in1 I fp wr G n P St)(S:Í)(C:S∉fp)(val:Nat->Int)(M:∀i v,P i v->∃t,v=.int (val i) t)(hb:n+1<aA) :
  ∀(k i:Nat) (s:Æ),n - i=k->i<=n->St i s->SetI prog w s.heap S (υ val i)->(∀J,Moved (S::wr) G s J->SetI prog w J.heap S (υ val n)->R (.ok<|.ret .none) J)->
   codeAny (â prog w) A (.builtin "set.update.loop" ⟨[.ref S,.ref I],[]⟩) R s:=by
 have nw:S∉wr:=λz=>C<|W.sub _ z;intro k;induction k with
 |zero =>
  intro i s V O st x r;obtain rfl:i=n:=by lia
  refine Ę F.entry_set_update_loop ?_;rw[Ć F.plain_set_update_loop _];show wpAny _ A.in1 (Κ (.ref I) >>= _) _ _ s;refine À<|W.done s _ _ st λJ m=>?_;exact È<|r J (m.mono λb hb=>Ý _ hb)<|x.at λo e=>m.heap S _ nw e
 |succ k ih =>
  intro i s V O st x r;have hi:i<n:=by lia
  refine Ę F.entry_set_update_loop ?_;rw[Ć F.plain_set_update_loop _];show wpAny _ A.in1 (Κ (.ref I) >>= _) _ _ s;refine À<|W.item i s _ _ hi st λv J p ff m=>?_;let⟨t,rfl⟩:=M i v p;show wpAny _ A.in1 (Ĵ [Value.int (val i) t] (setAdd S<|.int (val i) t) >>= _) _ _ J;refine À<|Ă ?_;unfold setAdd;refine Ă<|À<|(Ř prog w).pyHash (k:=val i) (intKind_is _ _ _ _) ?_;refine add_int (s:={J with toks:=J.toks+1}) (x.at λo e=>m.heap S _ nw e) (by have:=aS val i;lia) λh' b y q=>?_;rw[<-firstMet_succ]at q;refine È ⟨Ķ F.plain_set_update_loop _,ih (i+1) _ ↥0 hi (W.frame _ J _ _ ff (ŋ _) λb hb o e=>?_) q λd f U=>r d ?_ U⟩
  .rw[y.2 b λz=>C<|z▸hb];exact e
  .refine Moved.trans W.gtrans ((m.mono λb hb=>Ý _ hb).then_heap (ŋ _) λb o hb e=>?_) f;rw[y.2 b λz=>hb<|z▸ð];exact e
end
section
noncomputable abbrev Kp(b:Bool):Obj:={cls:=.type "set",dict:=fK,data:=.set #[] 0 (.fresh 0 0 !b)}
def HZ(a:Ã)(h:Q (.ref s.heap.objs.size) {s with heap:=s.heap.push (Kp<|byT w)}) :
  codeAny (â prog w) A (.call (.builtin "set.__new__") ⟨[.type "set",a],[]⟩) (wants Q E) s:=by
 refine codeAny_of_tree ?_;show wpAny _ A.in1 (do checkBuiltinCall "set.__new__" ⟨[.type "set",a],[]⟩;again (.builtin "set.__new__" ⟨[.type "set",a],[]⟩)) _ _ s;refine À<|ab (F.newCall_set_1 a)<|È ⟨Ķ F.plain_set_new _,Ę F.entry_set_new ?_⟩;rw[Ć F.plain_set_new _];unfold Builtin.«set.__new__» Builtin.Frozenset.newClass;have I:=sub_set_self;let⟨hp,g,d,J,os⟩:=s;dsimp only
 wp_walk
 refine Ŭ<|È ?_;dsimp only;simp![newObj];exact À<|wpAny_alloc<|È<|È h
def DM{l:Í}{items:Array Ã}{ns:List Int}(hh:A.handled=fK)(hl:s.heap.IsList l items)(hi:č items.toList ns)(hb:items.size+1<aA)
  (h:∀(h':Ĉ) (tk:Nat),SetI prog w h' s.heap.objs.size (υ (λi=>ns.getD i 0) items.size)->(∀b o,s.heap.get? b=fJ o->h'.get? b=fJ o)->Q (.ref s.heap.objs.size) {s with heap:=h',toks:=tk}) :
  wpAny (â prog w) A (call (.type "set") [.ref l]) Q E s:=by
 let⟨c,tl,hmro⟩:=F.called_set.mro;have M:=F.called_set.made;have hsub:=F.called_set.sub;have h1:=F.called_set.notType;have h2:=F.called_set.canCreate;have hct:=F.typeCall_set_1<|.ref l;refine wpAny_call<|codeAny_of_tree ?_;show wpAny _ _ (callAny (.type "set") _) _ _ _;refine È ⟨Code.quiet_builtin _ (by decide +kernel),Ę F.entry_type_call ?_⟩;rw[Around.under_plain (weight_type_call_type "set" [.ref l] []) rfl]
 repeat (any_goals (first|assumption|wp_step))
 refine π (HZ (.ref l) (E:=E) (Q:=λv s1=>v=.ref s.heap.objs.size/\s1={s with heap:=s.heap.push (Kp<|byT w)}) ⟨rfl,rfl⟩) λr s1 I=>?_;cases r with
 |error e=>exact I
 |ok fl =>
  cases fl with
  |ret obj =>
   let⟨rfl,rfl⟩:=I;have hS:(s.heap.push<|Kp<|byT w).get? s.heap.objs.size=fJ (Kp<|byT w):=Ú _ rfl;have hT:Shared.TypeIs {s with heap:=s.heap.push (Kp<|byT w)} (.ref s.heap.objs.size) "set":=⟨_,hS,rfl⟩
   have hli:=F.called_set.init.lookup;have hbi:=F.called_set.init.bind<|.ref s.heap.objs.size
   repeat (any_goals (first|assumption|wp_step))
   refine π (codeAny_call_builtin (R:=wants (λr s2=>r=.none/\∃h' tk,s2={ s with heap:=h',toks:=tk }/\SetI prog w h' s.heap.objs.size (υ (λi=>ns.getD i 0) items.size)/\∀b o,s.heap.get? b=fJ o->h'.get? b=fJ o) E)
     F.called_set.init.plain F.entry_set_init (check_set_init_1 hT ?_)) λr s2 I=>?_
   .have U:l<s.heap.objs.size:=by let⟨_,e,_⟩:=hl;exact Û e
    have J:(s.heap.push<|Kp<|byT w).IsList l items:=hl.push _;let⟨ol,hol,ce,nl,f⟩:=id J;let⟨W,y,C,k⟩:=ol;simp only at ce f;subst ce f;have hsls:=F.sub_list_set;have hslf:=F.sub_list_frozenset;have Ÿ:(Value.type "list" == Value.type "dict")=fM:=by decide
    unfold Builtin.«set.__init__» noKeywords Builtin.Frozenset.updateFrom;generalize V:cN=PI
    wp_walk
    subst V;refine Ţ J<|À<|wpAny_runValue ?_;have O:A.in1.in1.in1.handled=fK:=by simp[hh]
    have zs:(s.heap.push<|Kp<|byT w).objs.size=s.heap.objs.size+1:=Ż ..;refine D5 ((Walks.list O _ l (by rw[zs];exact ä<|ĸ U) items).toS) s.heap.objs.size (by rw[zs];simp![Å,Õ,or_false,not_or];exact⟨ä<|İ _,Ŕ U⟩) (λi=>ns.getD i 0) (λi v hv=>IntsAre.int_at hi i v<|by rw[Ą];exact hv) hb (items.size - 0) 0 _ ↥0 (ė _)
     ⟨⟨_,Ú _ rfl,rfl,rfl⟩,J.push _⟩ ?_ ?_
    .refine⟨_,#[],0,_,[],Ä _ hS,⟨rfl,rfl,rfl⟩,rfl,λe he=>by simp at he,by show 0<aA;unfold aA;lia,rfl,⟨λz=>by show(!byT w)=fL;rw[z];rfl,.nil,rfl⟩,.nil,.nil⟩
    .intro s' m x;let⟨h',g',d',q,t⟩:=s';have eg:g'=s.gens:=m.gens;have ed:d'=s.drawn:=m.drawn;have eo:t=s.os:=m.os;subst eg ed eo;refine È ?_;show wpAny _ _ (ret Value.none) _ _ _;refine È ⟨rfl,h',q,rfl,x,λb o e=>?_⟩;have hb:=Û e;exact m.heap b o (by rw[zs];simp![Å,Õ,or_false,not_or];exact⟨ä hb,ä<|ĸ hb⟩)<|Ä _<|Ä _ e
   .cases r with
    |error e=>exact I
    |ok fl =>
     cases fl with
     |ret r =>
      let⟨rfl,h',tk,rfl,x,hk⟩:=I
      repeat (any_goals (first|assumption|wp_step))
      exact h _ _ x hk
     |_=>exact I.elim
  |_=>exact I.elim
end
end L2
namespace L2
open PySem PySem.Spec PyProof.Rows
open PySem.Builtin
def DA:entryFor table "set.__iter__" = fJ Builtin.«frozenset.__iter__»:=entryFor_alias (id':="frozenset.__iter__") (by kernel_rfl) rfl (by decide +kernel) (by kernel_rfl)
def EV:entryFor table "set_iterator.__next__" = fJ Builtin.«set_iterator.__next__»:=entryFor_of_tree (by kernel_rfl)
def DV(a:Ã):cS "set_iterator.__next__" ⟨[a],[]⟩:=by unfold cS;kernel_rfl
def slot_snext:Slot "set_iterator" "__next__" "set_iterator.__next__" :=
 .of (owner:="set_iterator") (n:="__next__") (by rw[cr,ϭ];kernel_rfl) (by decide +kernel) (by decide +kernel) (by decide +kernel)
  (by first|exact .inl (by decide +kernel)|exact .inr<|by decide +kernel) (by rw[cV];kernel_rfl)
def Ka:Slot "set_iterator" "__iter__" "set_iterator.__iter__" :=
 .of (owner:="set_iterator") (n:="__iter__") (by rw[cr,ϭ];kernel_rfl) (by decide +kernel) (by decide +kernel) (by decide +kernel)
  (by first|exact .inl (by decide +kernel)|exact .inr<|by decide +kernel) (by rw[cV];kernel_rfl)
def El:entryFor table "set_iterator.__iter__" = fJ Builtin.«dict_keyiterator.__iter__»:=entryFor_alias (id':="dict_keyiterator.__iter__") (by kernel_rfl) rfl (by decide +kernel) (by kernel_rfl)
def D9(a:Ã):cS "set_iterator.__iter__" ⟨[a],[]⟩:=by unfold cS;kernel_rfl
def Wc{α:Type}:∀{l:List α}{i:Nat}(h:i<l.length),(l[i]::l.eraseIdx i).Perm l
 |a::l,0,h=>.rfl
 |a::l,i+1,h=>(List.Perm.swap a _ _).trans<|(Wc (l:=l)<|Nat.lt_of_succ_lt_succ h).cons a
def Ab(f:Nat->Nat):∀(n k:Nat) (l:List α) (out:Array α),l.length=n->(bw f n k l out).toList.Perm (out.toList++l)
 |0,k,l,out,h=>by
  cases l with
  |nil=>unfold bw;simp
  |cons _ _=>cases h
 |n+1,k,l,out,h=>by unfold bw;have I:f k % l.length<l.length:=Nat.mod_lt _ ↥0;rw[É I];dsimp only;refine(Ab f n (k+1) _ _<|by rw[Ι I];lia).trans ?_;rw[eZ,ü];exact(Wc I).append_left _
def BZ(f:Nat->Nat)(xs:Array α):(pickOrder f xs).toList.Perm xs.toList:=by unfold pickOrder;simpa using Ab f xs.size 0 xs.toList #[] (by simp)
section
variable {prog:æ}{w:û}{A:ċ}{s:Æ}
variable {n:Nat}
def B7(hn:0<n)(h:∀k d,k<n->Q k {s with drawn:=d}):wpAny (â prog w) A (choose src n) Q E s :=
 λ_ _ _=>⟨Ŕ hn,h _ _<|Nat.mod_lt _ hn⟩
def N4:∀(n:Nat) (xs:List α){s:Æ}{Q:List α->Æ->Prop},xs.length=n->(∀ys d,ys.Perm xs->Q ys {s with drawn:=d})->wpAny (â prog w) A (fb n xs) Q E s
 |0,[],s,Q,_,h=>by unfold fb;exact È<|h [] s.drawn .nil
 |0,_::_,_,_,h,_=>by cases h
 |n+1,[],_,_,h,_=>by cases h
 |n+1,x::xs,s,Q,hl,h=>by unfold fb;refine À (B7 (by simp) λk d I=>?_);rw[É I];dsimp only;refine À (N4 n _ (by rw[Ι I];lia) λys J hp=>È<|h _ J ?_);exact(hp.cons _).trans<|Wc I
abbrev SetIt(h:Ĉ)(it a:Í)(f:Ã)(i n ep:Nat):Prop:=∃o,h.get? it=fJ o/\o.cls=.type "set_iterator"/\o.data=.fields #[f,.int i 0,.ref a,.int n 0,.int ep 0]
variable {it:Í}{a:Í}{f:Ã}{i:Nat}{ep:Nat}
def SetIt.typeIs(h:SetIt s.heap it a f i n ep):s.TypeIs (.ref it) "set_iterator":=by let⟨o,J,I,_⟩:=h;exact⟨o,J,I⟩
structure SetO(h:Ĉ)(a:Í)(o:Obj)(es:Array<|Int×Ã)(ep:Nat)(t:ŷ):Prop where
 at_:h.get? a=fJ o
 dat:o.data=.set es ep t
 fit:t.fits es.size=fL
def N2(I:SetIt s.heap it a f i n ep)(h:Q (.ref it) s):wpAny (â prog w) A (cN<|.ref it) Q E s:=by have hT:=I.typeIs;refine wpAny_pyIter_slot hT Ka<|ę Ka hT El ?_<|D9 _;show wpAny _ _ (ret<|.ref it) _ _ s;exact È ⟨_,rfl,"set_iterator",_,hT,slot_snext.lookup,h⟩
variable {Q:Option Ã->Æ->Prop}
def AD(J:A.handled=fK)(R:∀h',(∀b o,s.heap.get? b=fJ o->h'.get? b=fJ o)->Q fK {s with heap:=h'}) :
  wpAny (â prog w) A (do raiseNew (<-newExc (.type "StopIteration") []):Sem Fin) (λ_ _=>False) (λe I=>∃h',(∀b o,s.heap.get? b=fJ o->h'.get? b=fJ o)/\I={s with heap:=h'}/\I.TypeIs e "StopIteration") s:=by
 show wpAny _ _ (newExc (.type "StopIteration") [] >>= _) _ _ _;refine À ?_;simp![newExc,newTuple];refine À (ď ?_<|by size_fits);refine À (m:=aa _ _) (ab (a:=Value.none) (by first|rfl|(simp![aa];rfl)) ?_);refine ď ?_ (by size_fits);simp![raiseNew];refine À<|wpAny_handled ?_;rw[J];refine À<|È<|wpAny_throw ?_;exact⟨_,λb o e=>Ä _<|Ä _ e,rfl,_,Ú _ rfl,rfl⟩
def Jw(hT:s.TypeIs (.ref it) "set_iterator")(h:wpAny (â prog w) A.in1 (Builtin.«set_iterator.__next__» ⟨[.ref it],[]⟩) (λfin I=>∃v,fin=.done (.ret v)/\Q (fJ v) I) (λe I=>I.TypeIs e "StopIteration"/\Q fK I) s):wpAny (â prog w) A (Κ<|.ref it) Q E s:=by
 unfold Κ;refine À<|wpAny_attempt<|ĥ (name:=iO "__next__") hT slot_snext<|ę slot_snext hT EV ?_<|DV _;refine Ĳ h (λfin I ⟨v,e,q⟩=>⟨v,e,È q⟩) λe I ⟨t,q⟩=>?_;refine À<|bM (T:="StopIteration") (b:=fL) t isSubtype_stop ?_;exact È q
abbrev NX(prog:æ)(w:û)(a:Í)(o:Obj)(ep:Nat)(f:Nat->Nat)(ord:List Ã):Prop :=
 ∀(A:ċ) (s:Æ) (Q:Option (Ã×Nat)->Æ->Prop) (E:Ã->Æ->Prop) (i:Nat),i<=ord.length->s.heap.get? a=fJ o->Q (ord[i]?.map (·,f<|i+1)) s->wpAny (â prog w) A (setNext a (f i) i ep) Q E s
def No{h:Ĉ}{o:Obj}{vs:Array Ã}{k:Nat}{x:Ã}(J:h.get? it=fJ o)(R:o.cls=.type "set_iterator")(hd:o.data=.fields vs) :
  ∃I,(h.update it (ύ (·.setIfInBounds k x))).get? it=fJ I/\I.cls=.type "set_iterator"/\I.data=.fields (vs.setIfInBounds k x) :=
 ⟨_,Ě _ J<|dA<|Ξ hd _,(Obj.cls_mapFields ..).trans R,Ξ hd _⟩
end
def Walks.setT{prog:æ}{w:û}{A:ċ}(V:A.handled=fK)(I a:Í)(F:a≠I){o:Obj}{es:Array (Int×Ã)}{ep:Nat}{t:ŷ}{f:Nat->Nat}{ord:List Ã}(hl:ord.length=es.size)(nx:NX prog w a o ep f ord) :
  Walks prog w A I [I,a] [I] es.size (λi v=>ord[i]?=fJ v) (λi h=>SetIt h I a (.int (f i) 0) i es.size ep/\SetO h a o es ep t) where
 sub:=λb hb=>by simp at hb;simp[hb]
 frame:=λ_ _ _ st U=>⟨by let⟨o,J,m⟩:=st.1;exact⟨o,U I (by simp) o J,m⟩,U a (by simp) _ st.2.at_,st.2.dat,st.2.fit⟩
 item:=λi s Q E hi st d=>by let⟨st,so⟩:=st;refine Jw st.typeIs ?_;let⟨M,J,m,l⟩:=st;show wpAny _ _ (fieldsOf (.ref I) >>= _) _ _ s;refine À<|ai J l ?_;dsimp only;refine À<|Ų so.at_ so.dat so.fit ?_;refine ō (λz=>iM z<|by simp) λ_=>?_;rw[ç,ç,ç];have C:ord[i]?=fJ ord[i]:=É ↥0;refine À (nx _ s _ _ i ↥0 so.at_ ?_);rw[C];dsimp only[Option.map];refine À (Ň J l (by simp) ?_);let⟨o2,g1,g2,g3⟩:=No (k:=0) (x:=ģ<|f<|i+1) J m l;refine À (Ň g1 g3 (by simp) ?_);let⟨O,g4,g5,W⟩:=No (k:=1) (x:=ģ<|(i:Int)+1) g1 g2 g3;have y:=(ć s.heap I (ύ (·.setIfInBounds 0 (ģ<|f<|i+1)))).trans (ć _ I (ύ (·.setIfInBounds 1 (ģ<|(i:Int)+1))));refine È ⟨_,rfl,d _ _ s.toks C ⟨⟨O,g4,g5,by rw[W];simp[ģ]⟩,?_,so.dat,so.fit⟩ λb R hb e=>y.extBut b R (λz=>hb<|by simp[z]) e⟩;exact y.extBut a _ F so.at_
 done:=λs Q E st d=>by
  let⟨st,so⟩:=st;refine Jw st.typeIs ?_;let⟨M,J,m,l⟩:=st;show wpAny _ _ (fieldsOf (.ref I) >>= _) _ _ s;refine À<|ai J l ?_;dsimp only;refine À<|Ų so.at_ so.dat so.fit ?_;refine ō (λz=>iM z<|by simp) λ_=>?_;rw[ç,ç,ç];refine À (nx _ s _ _ es.size ↥0 so.at_ ?_);rw[ł<|by lia];dsimp only[Option.map];refine À (Ň J l (by simp) ?_);refine Ĳ (AD (A:=A.in1) (Q:=Q) V λq U=>?_) (λ_ _ z=>z.elim) λe s' ⟨q,U,e2,tt⟩=>⟨tt,?_⟩
  .exact d q s.toks λb R hb e=>U b R ((ć s.heap I _).extBut b R (λz=>hb<|by simp[z]) e)
  .subst e2;exact d q s.toks λb R hb e=>U b R ((ć s.heap I _).extBut b R (λz=>hb<|by simp[z]) e)
 self:=λ_ _ _ _ st d=>N2 st.1 d
def Walks.setD{prog:æ}{w:û}{A:ċ}(hh:A.handled=fK)(I a T:Í)(Ÿ:a≠I)(F:T≠I){o oT:Obj}{es:Array (Int×Ã)}{ep:Nat}{t:ŷ}{ks:List Nat}(hl:ks.length=es.size)(R:∀k∈ks,k<es.size)
  (hT:oT.data=.seq (ks.map λ(k:Nat)=>ģ k).toArray) :
  Walks prog w A I [I,a,T] [I] es.size (λi v=>(ks.map λk=>(es.getD k (0,.none)).2)[i]?=fJ v) (λi h=>SetIt h I a (.ref T) i es.size ep/\SetO h a o es ep t/\h.get? T=fJ oT) where
 sub:=λb hb=>by simp at hb;simp[hb]
 frame:=λ_ _ _ st R=>⟨by let⟨o,J,q⟩:=st.1;exact⟨o,R I (by simp) o J,q⟩,⟨R a (by simp) _ st.2.1.at_,st.2.1.dat,st.2.1.fit⟩,R T (by simp) _ st.2.2⟩
 item:=λi s Q E hi st m=>by
  let⟨st,so,y⟩:=st;refine Jw st.typeIs ?_;let⟨oi,J,q,U⟩:=st;show wpAny _ _ (fieldsOf (.ref I) >>= _) _ _ s;refine À<|ai J U ?_;dsimp only;refine À<|Ų so.at_ so.dat so.fit ?_;refine ō (λz=>iM z<|by simp) λ_=>?_;refine À<|ī y hT ?_;have l:i<ks.length:=by lia
  have W:ks[i]?=fJ ks[i]:=É l;have f:=R ks[i]<|þ l;have hp:((ks.map λ(k:Nat)=>ģ k).toArray)[(i:Int).toNat]?=fJ (.int (ks[i]:Nat) 0):=by rw[ç];simp[W,ģ]
  dsimp only;rw[hp];dsimp only;rw[ç,ç];unfold setNextDrawn;refine À<|À<|ţ so.at_ so.dat so.fit ?_;dsimp only;refine ō (λz=>iM z<|by simp) λ_=>?_;have he:es[ks[i]]?=fJ es[ks[i]]:=ÿ f;rw[he];dsimp only;refine È ?_;refine À (Ň J U (by simp) ?_);let⟨V,O,g5,M⟩:=No (k:=1) (x:=ģ<|(i:Int)+1) J q U;have C:=ć s.heap I (ύ (·.setIfInBounds 1 (ģ<|(i:Int)+1)));refine È ⟨_,rfl,m _ _ s.toks ?_ ⟨⟨V,O,g5,by rw[M];simp[ģ]⟩,⟨C.extBut a _ Ÿ so.at_,so.dat,so.fit⟩,C.extBut T _ F y⟩ λb d hb e=>C.extBut b d (λz=>hb<|by simp[z]) e⟩;rw[Ø,W];simp[Ϯ,f]
 done:=λs Q E st m=>by
  let⟨st,so,y⟩:=st;refine Jw st.typeIs ?_;let⟨oi,J,q,U⟩:=st;show wpAny _ _ (fieldsOf (.ref I) >>= _) _ _ s;refine À<|ai J U ?_;dsimp only;refine À<|Ų so.at_ so.dat so.fit ?_;refine ō (λz=>iM z<|by simp) λ_=>?_;refine À<|ī y hT ?_;have hp:((ks.map λ(k:Nat)=>ģ k).toArray)[(es.size:Int).toNat]?=fK:=by rw[ç];simp[hl]
  dsimp only;rw[hp];dsimp only;refine À (Ň J U (by simp) ?_);let⟨V,O,g5,M⟩:=No (k:=0) (x:=ģ 0) J q U;refine À (Ň O M (by simp) ?_);refine Ĳ (AD (A:=A.in1) (Q:=λ_ _=>True) hh λ_ _=>trivial) (λ_ _ z=>z.elim) λe s' ⟨h',R,e2,tt⟩=>⟨tt,?_⟩
  subst e2;exact m h' s.toks λb d hb e=>R b d ((ć _ I _).extBut b d (λz=>hb<|by simp[z])<|(ć s.heap I _).extBut b d (λz=>hb<|by simp[z]) e)
 self:=λ_ _ _ _ st m=>N2 st.1 m
section
variable {ep:Nat}{t:ŷ}
def ID(hb:byT w=fL)(hd:o.data=.set es ep t)(hf:t.fits es.size=fL):NX prog w a o ep (λ_=>0) ((pickOrder (w.params.setOrder a ep) es).toList.map (·.2)):=λA s Q E i R I h=>by unfold setNext;refine À<|ţ I hd hf ?_;dsimp only;unfold ϧ;refine À<|À<|Ŭ<|È ?_;have J:(â prog w).w.params.followText "set-order" = fL:=hb;dsimp only;rw[J];simp![↓reduceIte,bne_self_eq_false,ĕ];refine À ?_;unfold setWalk ϧ;refine À<|ţ I hd hf ?_;dsimp only;refine À<|À<|Ŭ<|È ?_;dsimp only;rw[J];simp![↓reduceIte];refine À<|Ŭ<|È<|È ?_;dsimp only;rw[Ø,Ą,Option.map_map]at h;exact h
def LN(hb:byT w=fM)(tb:Tb (byT w) t)(hpl:(!t.plain&&iN (es.size > 1))=fM)(hd:o.data=.set es ep t)(hf:t.fits es.size=fL) :
  NX prog w a o ep (λi=>match i with|0=>0|k+1=>t.place.getD k 0+1) (es.toList.map (·.2)):=λA s Q E i J l h=>by
 have y:∀slot,setNext a slot i ep=(do
     let (es,epoch,t)<-setState a
     if<-ϧ then
       if epoch != ep then aj "set_iterator.__next__:elements-changed"
       return ((<-setWalk a)[i]?).map λe=>(e.2,slot)
     if(!t.plain&&iN (es.size > 1))then aj "set_iterator.__next__:the-table-is-plain-no-more"
     (do if !t.led && !es.isEmpty then aj "set:maker-not-led")
     let i:=Ļ t.place slot
     return match es[i]?,t.place[i]? with
       |some (_,x),fJ j=>fJ (x,j+1)
       | _,_=>fK):=λ_=>rfl
 rw[y];refine À<|ţ l hd hf ?_;dsimp only;unfold ϧ;refine À<|À<|Ŭ<|È ?_;have z:(â prog w).w.params.followText "set-order" = fM:=hb;have I:=tb.led hb;dsimp only;rw[z,hpl,I];simp![ĕ,↓reduceIte,Bool.not_true,Bool.false_and];refine È ?_;have f:t.place.size=es.size:=by simp![SetTable.fits,bAq,beq_iff_eq,iL]at hf;exact hf.1
 have fin:∀slot,i<=es.size->Uz t.place slot i->Q (match es[Ļ t.place slot]?,t.place[Ļ t.place slot]? with|some (_,x),fJ j=>fJ (x,j+1)|_,_=>fK) s:=λslot hi m=>by
  rw[EY (Oa tb.ris slot) m];rw[Ø,Ą]at h;by_cases d:i<es.size
  .have R:es[i]?=fJ es[i]:=ÿ d;have v:t.place[i]?=fJ (t.place[i]'↥0):=ÿ _;rw[R]at h ⊢;rw[v];have q:t.place.getD i 0=t.place[i]'↥0:=by simp[Ϯ,show i<t.place.size by lia]
   dsimp only[Option.map]at h ⊢;rw[q]at h;exact h
  .have R:es[i]?=fK:=ϐ ↥0;rw[R]at h ⊢;exact h
 cases i with
 |zero=>exact fin 0 (ė _)<|Bs _
 |succ k =>
  have U:k<t.place.size:=by simp at J;lia
  refine fin _ ↥0<|BN tb.ris ?_;rw[ÿ U];simp[Ϯ,U]
end
structure Near(s s':Æ):Prop where
 heap:∀b o,s.heap.get? b=fJ o->s'.heap.get? b=fJ o
 gens:s'.gens=s.gens
 os:s'.os=s.os
def GO:∀{vs us:List Ã}{ns:List Int},vs.Perm us->č us ns->∃ms,ms.Perm ns/\č vs ms:=by
 intro vs us ns h;induction h generalizing ns with
 |nil=>exact λr=>by cases r;exact⟨[],.nil,.nil⟩
 |cons x _ ih =>
  intro r;cases r with
  |cons n t r=>let⟨ms,J,I⟩:=ih r;exact⟨n::ms,J.cons n,.cons n t I⟩
 |swap x y l =>
  intro r;cases r with
  |cons n t r=>cases r with
   |cons m u r=>exact⟨m::n::_,.swap _ _ _,.cons m u<|.cons n t r⟩
 |trans _ _ ih1 ih2 =>intro r;let⟨ms,J,I⟩:=ih2 r;let⟨ks,U,R⟩:=ih1 I;exact⟨ks,U.trans J,R⟩
section
variable {s:Æ}
def Ea(hT:s.TypeIs (.ref r) "set")(h:Q fM s):wpAny (â prog w) A (Builtin.List.listLengthHint<|.ref r) Q E s:=by
 unfold Builtin.List.listLengthHint;refine À<|cq hT PySem.F.slot_set_len.lookup ?_;generalize hid:("set.__len__" : String)=id0
 wp_delta
 rw[show splitId id0=fJ ("set","__len__") from by subst hid;decide +kernel];subst hid;refine À (bM (T:="set") (b:=fL) hT (by rw[cV];kernel_rfl) ?_);refine ō (λI=>iM I<|by decide) λ_=>?_;refine ō (λ_=>?_) (λI=>iM (by decide +kernel) I);exact À<|Ś hT<|È h
def CB(W:A.handled=fK)(hS:SetI prog w s.heap a l)(h:∀C I fp St vs ms,Near s C->s.heap.objs.size<=I->(∀b∈fp,b=a\/s.heap.objs.size<=b)->ms.Perm l->č vs ms->Walks prog w A I fp [I] l.length (λi v=>vs[i]?=fJ v) St->St 0 C.heap->Q (.ref I) C) :
  wpAny (â prog w) A (cN<|.ref a) Q E s:=by
 let⟨o,es,ep,t,es0,U,hex,hd,hel,hb,hf,ht,hp,hi⟩:=id hS;have M:es.size=l.length:=by rw[<-X0 hi,Á,<-hp.length_eq,ö]
 rw[<-M]at h;have hT:s.TypeIs (.ref a) "set":=⟨o,U,hex.1⟩
 have V:=Û U;refine wpAny_pyIter_slot hT F.slot_set_iter<|ę F.slot_set_iter hT DA ?_<|F.args_set_iter_1 _;have e0:Builtin.«frozenset.__iter__» ⟨[.ref a],[]⟩=(do
     let n<-cW a
     let d<-(do
       let (es,_,t)<-setState a
       let byText<-ϧ
       return !byText&&(!t.plain&&iN (es.size > 1)))
     let first<-if d then newTuple ((<-fb n (List.range n)).map λ(i:Nat)=>ģ i)else pure (ģ 0)
     ret (<-newFields "set_iterator" [first,ģ 0,.ref a,ģ n,ģ (<-setEpoch a)])):=rfl
 rw[e0];unfold cW;refine À<|À<|Ų U hd hf<|È ?_;refine À<|À<|ţ U hd hf ?_;dsimp only;unfold ϧ;refine À<|À<|Ŭ<|È<|È ?_;have O:(â prog w).w.params.followText "set-order" = byT w:=rfl;dsimp only;rw[O];have mapP:∀J:List<|Int×Ã,J.Perm es.toList->∃ms,ms.Perm l/\č (J.map (·.2)) ms:=λJ q=>GO ((q.trans hp).map _) hi;by_cases R:(!byT w&&(!t.plain&&iN (es.size > 1)))=fL
 .rw[iH R];refine À (N4 es.size (List.range es.size) (by simp) λks d m=>À ?_);have y:ks.length=es.size:=by rw[m.length_eq,ĵ]
  refine wpAny_newTuple ?_ (by rw[Á,y];exact bu hb);refine À<|wpAny_setEpoch_of (Ä _ U) hd hf ?_;refine À<|ď<|È ⟨_,rfl,"set_iterator",_,⟨_,Ú _ rfl,rfl⟩,slot_snext.lookup,?_⟩;have zs:(s.heap.push { cls:=.type "tuple",dict:=fK,data:=.seq (List.map (λ(i:Nat)=>ģ i) ks).toArray }).objs.size=s.heap.objs.size+1:=Ż ..;let⟨ms,m1,m2⟩:=mapP (ks.map λk=>es.getD k (0,.none)) (by
    refine(m.map _).trans<|List.Perm.of_eq ?_
    refine List.ext_getElem (by simp) λi h1 h2=>?_
    have hi:i<es.size:=⇑h1
    simp[Ϯ,hi])
  rw[õ]at m2;refine h _ _ [_,a,s.heap.objs.size] _ _ ms ⟨λb o e=>Ä _<|Ä _ e,rfl,rfl⟩ (by rw[zs];exact ŋ _) (λb hb=>?_) m1 m2
   (Walks.setD (o:=o) (oT:={cls:=.type "tuple",dict:=fK,data:=.seq (List.map (λ(i:Nat)=>ģ i) ks).toArray}) (es:=es) (ep:=ep) (t:=t) (ks:=ks) W _ a s.heap.objs.size (by rw[zs];exact ä<|ĸ V) (by rw[zs];exact ä<|İ _) y (λk hk=>Ź.mp<|m.mem_iff.mp hk) rfl)
   ⟨⟨_,Ú _ rfl,rfl,rfl⟩,⟨Ä _<|Ä _ U,hd,hf⟩,Ä _<|Ú _ rfl⟩
  simp![Å,Õ,or_false]at hb;rcases hb with rfl|rfl|rfl
  .exact .inr (by rw[zs];exact ŋ _)
  .exact .inl rfl
  .exact .inr<|Ì _
 .rw[iI R];refine À<|È ?_;refine À<|wpAny_setEpoch_of U hd hf ?_;refine À<|ď<|È ⟨_,rfl,"set_iterator",_,⟨_,Ú _ rfl,rfl⟩,slot_snext.lookup,?_⟩;have go:∀(f:Nat->Nat) (J:List<|Int×Ã),f 0=0->J.Perm es.toList->NX prog w a o ep f (J.map (·.2))->Q (.ref s.heap.objs.size) {s with heap:=s.heap.push {cls:=.type "set_iterator",dict:=fK,data:=.fields [ģ 0,ģ 0,.ref a,ģ es.size,ģ ep].toArray}}:=λf J f0 z nx=>by
   let⟨ms,m1,m2⟩:=mapP J z;have hl:(J.map (·.2)).length=es.size:=by rw[Á,z.length_eq,ö]
   refine h _ _ [_,a] _ _ ms ⟨λb o e=>Ä _ e,rfl,rfl⟩ (Ì _) (λb hb=>?_) m1 m2 (Walks.setT (t:=t) W _ a (ä V) hl nx) ⟨⟨_,Ú _ rfl,rfl,by rw[f0];rfl⟩,Ä _ U,hd,hf⟩;simp![Å,Õ,or_false]at hb;rcases hb with rfl|rfl
   .exact .inr<|Ì _
   .exact .inl rfl
  cases hbt:byT w with
  |true=>exact go _ _ rfl (BZ _ es)<|ID hbt hd hf
  |false =>rw[hbt]at R;exact go (λi=>match i with|0=>0|k+1=>t.place.getD k 0+1) _ rfl .rfl (LN hbt ht ⇑R hd hf)
end
end L2
namespace L2
open PySem PySem.Spec PyProof.Rows
def DB(h:ItemsOf (λi v=>vs[i]?=fJ v) I n)(hn:vs.length=n):I.toList=vs:=by
 refine List.ext_getElem? λi=>?_;rw[Ą];by_cases hi:i<I.size
 .rw[ÿ hi];exact(h.2 i _<|ÿ hi).symm
 .rw[ϐ ↥0,ł (by have:=h.1;lia)]
section
variable {w:û}{E:Ã->Æ->Prop}{s:Æ}
variable {l:List Int}
def GT(hh:A.handled=fK)(hS:SetI prog w s.heap a l)(S:Í)(v:S≠a)(hs:s.heap.get? S=fJ {cls:=.type "list",data:=.seq #[] 0})(h:∀U vs ms c,U.gens=s.gens->U.os=s.os->(∀b o,b≠S->s.heap.get? b=fJ o->U.heap.get? b=fJ o)->ms.Perm l->č vs ms->U.heap.get? S=fJ {cls:=.type "list",dict:=fK,data:=.seq vs.toArray c,slots:=#[]}->R (.ok<|.ret<|.ref S) U) :
  wpAny (â prog w) A.in1 (Builtin.List.listExtendWith (.ref S) (.ref a)<|.ref S) (λfin U=>match fin with|.done f=>R (.ok f) U|.again c'=>c'.quiet=fL/\codeAny (â prog w) A c' R U) (λe U=>R (.error e) U) s:=by
 have hl:=hS.setOf;let⟨o,es,ep,t,es0,ho,hex,hd,hel,hb,hf,ht,hp,hi⟩:=id hS;have M:l.length<=à:=bu (by rw[<-X0 hi,Á,<-hp.length_eq,ö];exact hb);have hT:s.TypeIs (.ref a) "set":=⟨o,ho,hex.1⟩
 have V:S<s.heap.objs.size:=Û hs;unfold Builtin.List.listExtendWith;refine À<|Ś (T:="set") hT ?_;have h1:Builtin.List.listSameRef (.ref S) (.ref a)=fM:=by simp[Builtin.List.listSameRef,v]
 have h2:(Value.type "set" == Value.type "list")=fM:=by decide
 have h3:(Value.type "set" == Value.type "tuple")=fM:=by decide
 simp![h1,h2,h3,Ω,ĕ,if_false];refine À<|CB (A:=A.in1) hh hS λs1 I fp St vs ms ne hI O pm ia W st=>?_;have k:S∉fp:=λz=>by
  rcases O S z with q|q
  .exact v q
  .exact ħ _<|å V q
 have C:vs.length=l.length:=(X0 ia).trans pm.length_eq;have key:∀(y:Ĉ) (c tk:Nat),St 0 y->(∀b o,b≠S->s1.heap.get? b=fJ o->y.get? b=fJ o)->y.get? S=fJ {cls:=.type "list",data:=.seq #[] c}->codeAny (â prog w) A (.builtin "list.extend.loop" ⟨[.ref S,.ref I,.ref S],[]⟩) R {s1 with heap:=y,toks:=tk}:=by
  intro y c tk ff hk J;refine codeAny_extend_loopS W.toS M S k (.ref S) l.length 0 _ #[] c rfl (ė _) ff J (ItemsOf.nil _) λs2 ı c2 hm d m=>?_;have ev:ı.toList=vs:=DB m C;refine h s2 vs ms c2 (hm.gens.trans ne.gens) (hm.os.trans ne.os) (λb o hb e=>?_) pm ia (by rw[<-ev];simpa using d);refine hm.heap b o (λz=>?_)<|hk b o hb<|ne.heap b o e;rcases Å.mp z with q|z
  .exact hb q
  .have z:b=I:=⇑z
   subst z;exact ħ _<|å (Û e) hI
 have J:=ne.heap S _ hs;refine À<|Ă<|Ea ⟨o,ne.heap a o ho,hex.1⟩ ?_;refine ō (λ_=>?_) λ_=>È ⟨Ķ PySem.F.plain_extend_loop _,key _ 0 _ st (λb o _ e=>e) J⟩;refine À<|Δ ?_;refine À ?_;show wpAny _ _ (bN S (·.push .none) >>= λ_=>bN S (·.pop)) _ _ _;refine À<|Ž J rfl ?_;have d:=Ě (ρ (·.push Value.none)) J rfl;refine Ž (hz:=by seq_fits) d rfl ?_;have hS3:=Ě (ρ (·.pop)) d rfl;refine È ⟨Ķ PySem.F.plain_extend_loop _,key _ _ _ ?_ (λb o hb e=>?_) hS3⟩
 .refine W.frame 0 _ _ st λb hb o e=>?_;have fj:b≠S:=λz=>k<|z▸hb;exact(ò _ _ fj.symm).trans<|(ò _ _ fj.symm).trans e
 .exact(ò _ _ hb.symm).trans<|(ò _ _ hb.symm).trans e
def N5(k:A.handled=fK)(U:SetI prog w s.heap a l)(h:∀s' vs ms,Near s s'->ms.Perm l->č vs ms->Q vs s'):wpAny (â prog w) A (collect<|.ref a) Q E s:=by
 have d:a<s.heap.objs.size:=by let⟨_,_,_,_,_,e,_⟩:=U;exact Û e
 unfold collect;refine À<|wpAny_runValue<|Ę F.entry_proto_collect ?_;rw[Ć F.plain_proto_collect _];show wpAny _ A.in1 (newList [] >>= λl=>again<|.builtin "list.__iadd__" ⟨[l,.ref a],[]⟩) _ _ s;refine À<|ď ?_;refine È ⟨Ķ F.plain_list_iadd _,Ę F.entry_list_iadd ?_⟩;rw[Ć F.plain_list_iadd _];show wpAny _ A.in1 (Builtin.List.listExtendWith (.ref s.heap.objs.size) (.ref a)<|.ref s.heap.objs.size) _ _ _;have fin:∀(q:aN) (s':Æ),(∃vs ms c,q=.ok (.ret<|.ref s.heap.objs.size)/\Near s s'/\ms.Perm l/\č vs ms/\s'.heap.get? s.heap.objs.size=fJ {cls:=.type "list",dict:=fK,data:=.seq vs.toArray c,slots:=#[]})->
   wants (λ(a:Ã) s'=>wpAny (â prog w) A (match a with
     |.ref a=>do
       match (<-load a).data with
       |.seq xs _=>pure xs.toList
       |_=>aj "internal:collect"
     | _=>aj "internal:collect") Q E s') E q s':=λq s' ⟨vs,ms,c,e,ne,pm,I,J⟩=>by
  subst e;show wpAny _ A (load s.heap.objs.size >>= _) _ _ _;refine À<|wpAny_load J<|È ?_;exact h s' _ ms ne pm ⇑I
 refine Ĳ (GT (A:=A) (s:={ s with heap:=s.heap.push { cls:=.type "list",data:=.seq ([]:List Ã).toArray } }) (R:=λq s'=>∃vs ms c,q=.ok (.ret<|.ref s.heap.objs.size)/\Near s s'/\ms.Perm l/\č vs ms/\s'.heap.get? s.heap.objs.size=fJ { cls:=.type "list",dict:=fK,data:=.seq vs.toArray c,slots:=#[] })
   k (U.at λo e=>Ä _ e) s.heap.objs.size (Ŕ d) (Ú _ rfl) λs' vs ms c g1 g2 g3 pm I J=>⟨vs,ms,c,rfl,⟨λb o e=>g3 b o (ä<|Û e)<|Ä _ e,g1,g2⟩,pm,I,J⟩) (λf s' z=>?_) λe s' z=>?_
 .cases f with
  |done f=>exact fin _ _ z
  |again c=>exact⟨z.1,π z.2 λq s2 y=>fin q s2 y⟩
 .exact fin _ _ z
end
def Inv.near{R:List (Í×Obj)}{σ:St}{H:Hp}{s s':Æ}(I:Inv X R σ H s)(ne:Near s s'):Inv X R σ H s':=by have J:Inv X R σ H {s with heap:=s'.heap,toks:=s'.toks}:=I.kept ne.heap;exact⟨J.ok,ne.os.trans J.os,by rw[ne.gens];exact J.bare,J.base,J.loc,J.cell,J.free,J.freeC,J.pin,J.hok,J.len⟩
abbrev tSS(K:Frag)(J:TE):TE:=λσ H Q=>Ls J FX σ H λI H1=>∃p,∃ns:List Int,I=[.ref p]/\iq K H1 p (ns.map V.int)/\ns.length<64/\∀l,H1 l=fK->Q (.ref l) (upd H1 l<|.lst<|(sortI<|υ (λi=>ns.getD i 0) ns.length).map V.int)
def MH(O:X.calm=fL)(hg:Gl X "sorted")(hm:X.mg "sorted" = fK)(l:Gl X "set")(k:X.mg "set" = fK)(he:PE X e z)(M:Þ [e] X.env=[(fM,eval e X.env)]) :
  PE X (.Call (.Name "sorted" p) [.Call (.Name "set" p2) [e] [] y] [] í) (tSS X.K z):=by
 walk_at "B";refine ĳ (YQ (u:=.builtin "sorted") I hg hm (by kernel_rfl) ?_);refine PyProof.Rows.callWith_builtin1 ?_ rfl rfl;show wpAny _ _ (spliced<|(fM,eval (.Call (.Name "set" p2) [e] [] y) X.env)::[]) _ _ _;refine Calls.spliced_cons ?_;refine ĳ (YQ (u:=.type "set") I l k (by kernel_rfl) ?_ ↥1<|by decide);refine PyProof.Rows.callWith_type1 (thn ((ZK he im M) y Â s σ H _ I h) λus s1 ⟨R,H1,U,r1,q1⟩=>?_) M rfl;let⟨a,ns,e1,hq,h64,q⟩:=q1;subst e1;let⟨u,rfl,ru⟩:=ZR r1;cases ru;let⟨d,C,pl,hz⟩:=U.list hq;have hlen:=C.length;rw[Á]at hlen;refine DM (U.ok.hd O) pl.isList (by simpa using ZZ C) (by rw[Î];show d.length+1<4096;lia) λW tk x hk=>Calls.spliced_nil ?_
 replace x:SetI X.prog X.w W s1.heap.objs.size<|υ (λi=>ns.getD i 0) ns.length:=by rw[hlen];rw[show d.toArray.size=d.length from Î]at x;exact x
 have I2:Inv X Â σ H1 {s1 with heap:=W,toks:=tk}:=U.kept hk;refine Calls.call_function_entry kind_sorted plain_sorted entry_sorted (args_sorted1 _) ?_;unfold Builtin.«sorted»;refine À (m:=checkCount "sorted" 1 1 _)<|È ?_;refine À<|N5 (A:=X.A.in1) (U.ok.hd O) x λs3 R ms ne pm F=>?_;have I3:=I2.near ne;have f:R.length<64:=by rw[X0 F,pm.length_eq];exact Ð (aS _ _) ↥0
 refine À (d8 ?_<|by unfold à;lia);have J:(s3.heap.push<|ό "list" R.toArray 0).get? s3.heap.objs.size=fJ (ό "list" R.toArray 0):=Ú _ rfl;refine À<|Ă<|ę slot_list_sort ⟨_,J,rfl⟩ entry_list_sort (list_sort_tree J F f λout eL a1 a2 a3=>⟨_,rfl,?_⟩)<|args_list_sort _;have e:=YO (a2.trans pm) a3;subst e;let⟨n,v⟩:=sortedHeap_at (out:=out) J;refine È ⟨_,rfl,.ref s3.heap.objs.size,_,I3.laid (a:=s3.heap.objs.size) (o:=.lst<|(sortI<|υ (λi=>ns.getD i 0) ns.length).map V.int) (t':=s3.toks) (λb o e=>?_) (Ì _) ?_,rfl,q _<|I3.hok.fresh<|Ì _⟩
 .have hb:=Û e;rw[sortedHeap_old (ä hb)<|by rw[size_push'];exact ĸ hb];exact Ä _ e
 .exact⟨by rw[Á,YV];have:=aS (λi=>ns.getD i 0) ns.length;unfold à;lia,out.toList,n,YS a1,by simpa[ό]using v⟩
end L2
namespace Snd
open PySem L2
variable {i:Inf}
def OE(s:X.calm=fL)(t:X.K=i.K)(he:PE X e<|tE X i Φ m)(l:Gl X "sorted")(hm:X.mg "sorted" = fK)(J:Gl X "set")(I:X.mg "set" = fK)(d:Þ [e] X.env=[(fM,eval e X.env)]) :
  PE X (.Call (.Name "sorted" p) [.Call (.Name "set" p2) [e] [] C] [] í) (tE X i Φ<|.bi .sortedSet<|.cons m .nil):=by
 refine(MH s l hm J I he d).imp λσ H Q ⟨env,G,Qm,Em,p,w,c⟩=>?_;rw[iG.q_e_bi,iG.q_a_cons]at w;change tE X i Φ m σ H _;refine one p w λv R H1 x f U r q=>?_;rw[iG.q_a_nil]at q
 replace q:(iG.biSortedSet R v).wp R Qm:=q
 unfold iG.biSortedSet at q;cases z:iG.sortOf R v with
 |none=>rw[z]at q;exact(Zi q).elim
 |some ns =>
  rw[z]at q;dsimp only at q;split at q
  .rename_i y;let⟨a,rfl,k⟩:=OS U.hp r z;refine⟨a,ns,rfl,by rw[t];exact k,y,?_⟩;rw[KD<|Og ns];exact Z2 U.hp (W0 q) (c.go f) λp hp=>⟨_,fO,RVs.ints _⟩
  .exact(Zi q).elim
section
variable {K:Frag}{H:Hp}
structure ik(H H':Hp):Prop where
 t:∀a xs,H a=fJ (.tup xs)->H' a=fJ (.tup xs)
 f:∀a o xs,H a=fJ (.frz o<|.lst xs)->H' a=fJ (.frz o<|.lst xs)
mutual
theorem RV.keepL(k:ik H H'):∀{v:iG.Val}{x:V},RV K H v x->RV K H' v x
 |_,_,.non=>.non
 |_,_,.bl b=>.bl b
 |_,_,.int i=>.int i
 |_,_,.str s=>.str s
 |_,_,.tup (.inl e) r=>.tup (.inl<|k.t _ _ e)<|RVs.keepL k r
 |_,_,.tup (.inr e) r=>.tup (.inr e)<|RVs.keepL k r
 |_,_,.ref a=>.ref a
 |_,_,.scr (.inl ⟨o,e⟩)=>.scr<|.inl ⟨o,k.f _ _ _ e⟩
 |_,_,.scr (.inr e)=>.scr<|.inr e
 |_,_,.key e=>.key<|k.t _ _ e
theorem RVs.keepL(k:ik H H'):∀{vs:List iG.Val}{xs:List V},RVs K H vs xs->RVs K H' vs xs
 |_,_,.nil=>.nil
 |_,_,.cons r t=>.cons (RV.keepL k r)<|RVs.keepL k t
end
def RKs.keepL(k:ik H H'):∀{kvs:List (iG.Val×iG.Val)}{ps:List (Key×V)},RKs K H kvs ps->RKs K H' kvs ps
 |_,_,.nil=>.nil
 |_,_,.cons a r t=>.cons a (r.keepL k)<|RKs.keepL k t
def RTs.keepL(k:ik H H'):∀{kvs:List (iG.Val×iG.Val)}{ps:List (List Key×V)},RTs K H kvs ps->RTs K H' kvs ps
 |_,_,.nil=>.nil
 |_,_,.cons r t=>.cons (r.keepL k)<|RTs.keepL k t
def RFs.keepL(k:ik H H'):∀{fs:List (String×iG.Val)}{ps:List (Str×V)},RFs K H fs ps->RFs K H' fs ps
 |_,_,.nil=>.nil
 |_,_,.cons r t=>.cons (r.keepL k)<|RFs.keepL k t
def REn.keepL(r:REn K H env σ)(k:ik H H'):REn K H' env σ:=⟨r.len,λi v e=>by
  let⟨x,J,I⟩:=r.get i v e
  exact⟨x,J,I.keepL k⟩⟩
def RO.moveL(r:RO i H a o)(k:ik H H')(e:H' a=H a):RO i H' a o:=by
 cases o with
 |lst xs=>let⟨I,q,r⟩:=r;exact⟨I,e.trans q,r.keepL k⟩
 |dct kvs=>let⟨ps,q,r⟩:=r;exact⟨ps,e.trans q,r.keepL k⟩
 |ins C fs=>let⟨c,J,ps,h0,h,q,r⟩:=r;exact⟨c,J,ps,h0,h,e.trans q,r.keepL k⟩
 |exc C=>let⟨c,h,q⟩:=r;exact⟨c,h,e.trans q⟩
 |frz kvs=>let⟨o,ps,q,r⟩:=r;exact⟨o,ps,e.trans q,r.keepL k⟩
 |dtp kvs=>let⟨ps,q,r⟩:=r;exact⟨ps,e.trans q,r.keepL k⟩
def XE(e:H a=fJ (.frz o<|.dK ps)):ik H (upd H a<|.dK ps) :=
 ⟨λb xs q=>by rw[fN<|by rintro rfl;rw[e]at q;cases q];exact q,λb p xs q=>by rw[fN<|by rintro rfl;rw[e]at q;cases q];exact q⟩
def RH.thaw(g:RH i G H)(e:H a=fJ (.frz o<|.dK ps))(r:RKs i.K H kvs ps):RH i (iG.upd G a<|.dct kvs)<|upd H a<|.dK ps:=λb p q=>by
 by_cases hb:b=a
 .subst hb;rw[iG.fO]at q;cases q;exact⟨ps,fO,r.keepL<|XE e⟩
 .rw[iG.fN hb]at q;exact(g b p q).moveL (XE e)<|fN hb
def RKs.len:∀{kvs:List (iG.Val×iG.Val)}{ps:List (Key×V)},RKs K H kvs ps->kvs.length=ps.length
 |_,_,.nil=>rfl
 |_,_,.cons _ _ t=>by rw[Ñ,Ñ,RKs.len t]
def RKs.at:∀{kvs:List (iG.Val×iG.Val)}{ps:List (Key×V)}{n:Nat}{c:Key}{x:V},RKs K H kvs ps->ps[n]?=fJ (c,x)->∃k v,kvs[n]?=fJ (k,v)/\Je k c/\RV K H v x
 |_,_,n,_,_,.nil,e=>by simp at e
 |_,_,0,_,_,.cons hk r _,e=>by simp at e;let⟨rfl,rfl⟩:=e;exact⟨_,_,rfl,hk,r⟩
 |_,_,n+1,_,_,.cons _ _ t,e=>by let⟨k,v,J,I⟩:=RKs.at (n:=n) t ⇑e;exact⟨k,v,⇑J,I⟩
def EK(h:Je k c):RV K H k<|kV c:=by
 cases k with
 |int j=>cases c with
  |inl l=>have h:j=l:=h;subst h;exact .int _
  |inr _=>exact(show False from h).elim
 |str s=>cases c with
  |inl _=>exact(show False from h).elim
  |inr t=>have h:t=iO s:=h;subst h;exact .str _
 |_=>exact(show False from h).elim
end
variable {a:Í}{o:Obj}
def DW(d:H0 a=fJ (.frz o<|.dK ps))(r0:RKs i.K H0 kvs ps):ItOk i H0 (Iti a o ps) (λg=>g a=fJ (.frz kvs)) (kvs.map<|iG.itemOf fM) where
 go:=λn G H v k g e J=>by
  have z:=k.f _ _ _ d;rw[Ø]at J;let⟨p,hp,rfl⟩:=Ï.mp J;have hn:n<ps.length:=by rw[<-r0.len];exact(Ô.mp hp).1
  refine⟨⟨z,hn⟩,λx H' ⟨q,c,y,ex,R,l,t⟩=>?_⟩;subst ex t;let⟨C,v2,U,s,m⟩:=(r0.keep k).at l;rw[hp]at U;cases U;have I:gj H<|upd H q<|.tup [kV c,y]:=gj.new R;exact⟨I,Wi g R,.tup (.inl fO)<|.cons (EK s)<|.cons (m.keep I) .nil⟩
 stop:=λn G H k g e hn=>⟨k.f _ _ _ d,by rw[<-r0.len];simpa using hn⟩
def HR(R:H0 a=fJ (.frz o<|.dK ps))(r0:RKs i.K H0 kvs ps):ItOk i H0 (Itk a o ps) (λg=>g a=fJ (.frz kvs)) (kvs.map<|iG.itemOf fL) where
 go:=λn G H v k g e I=>by
  have m:=k.f _ _ _ R;rw[Ø]at I;let⟨p,hp,rfl⟩:=Ï.mp I;have hn:n<ps.length:=by rw[<-r0.len];exact(Ô.mp hp).1
  refine⟨⟨m,hn⟩,λx H' ⟨l,c,y,U,ex⟩=>?_⟩;subst ex l;let⟨q,v2,J,d,s⟩:=(r0.keep k).at U;rw[hp]at J;cases J;exact⟨gj.refl _,g,EK d⟩
 stop:=λn G H k g e hn=>⟨k.f _ _ _ R,by rw[<-r0.len];simpa using hn⟩
variable {tg:Expr}{í:Pos}{q:iG.Pt}{m:iG.E}
def At(hp:ao ↥2 X.A X.env X.xe)(hc:X.calm=fL)(hi:PI X tg iter<|P2 X J<|tE X i Φ m)(hg:PG X tg<|gPt i q)(hb:PSs X body<|tBl X i Φ mb)(hs:∀x,Ĝ iter X.env x=pure x)(hJ:∀(H0:Hp) (a:Í) (o:Obj) (ps:List<|Key×V) (kvs:List<|iG.Val×iG.Val),H0 a=fJ (.frz o<|.dK ps)->RKs i.K H0 kvs ps->ItOk i H0 (J a o ps) (λg=>g a=fJ (.frz kvs)) (kvs.map<|iG.itemOf kb)) :
  PS X (.For tg iter body [] í) (tSt X i Φ<|.forI kb q m mb):=by
 intro Â s σ H D I ⟨env,G,N,R,B,C,Xe,p,w,c⟩;refine FN (Dw hp hc hi hg hb hs) Â s σ H D I ?_;refine one p.pre w λv G1 H1 x k1 p1 rx w'=>?_;let⟨a,e1,w''⟩:=fQ w';let⟨kvs,y,w1⟩:=fQ w'';clear w' w'';have ev:v=.ref a:=by
  cases v with
  |ref b=>cases e1;rfl
  |_=>cases e1
 subst ev;cases rx.ref_inv;have eG:G1 a=fJ (.dct kvs):=by
  cases z:G1 a with
  |none=>rw[z]at y;cases y
  |some o=>rw[z]at y;cases o<;>first|(cases y;rfl)|cases y
 let⟨ps,ha,hr⟩:=p1.hp a _ eG;refine⟨a,ps,rfl,ha,λo h0=>?_⟩;have k2:gj H1<|upd H1 a<|.frz o<|.dK ps:=gj.put (λxs z=>by rw[ha]at z;cases z) λp u z=>by rw[ha]at z;cases z
 have g2:RH i (iG.upd G1 a<|.frz kvs)<|upd H1 a<|.frz o<|.dK ps:=p1.hp.put k2 ⟨o,ps,fO,hr.keep k2⟩;have it:=hJ _ a o ps kvs fO<|hr.keep k2;have bc:∀{H':Hp}{U:iG.Hs},gj (upd H1 a<|.frz o<|.dK ps) H'->RH i U H'->H' a=fJ (.frz o<|.dK ps)/\RKs i.K H' kvs ps/\gj H (upd H' a<|.dK ps):=λ{H' U} k g=>by
  have e:=k.f a o _ fO;refine⟨e,(hr.keep k2).keep k,λb xs z=>?_,λb o' u z=>?_⟩
  .have z1:=k1.t b xs z;have hb:b≠a:=by rintro rfl;rw[ha]at z1;cases z1
   rw[fN hb];exact k.t b xs (by rw[fN hb];exact z1)
  .have z1:=k1.f b o' u z;have hb:b≠a:=by rintro rfl;rw[ha]at z1;cases z1
   rw[fN hb];exact k.f b o' u (by rw[fN hb];exact z1)
 have fin:∀l F U H',gj (upd H1 a<|.frz o<|.dK ps) H'->RH i U H'->REn i.K H' l F->(U a=fJ (.frz kvs)/\N l (iG.upd U a<|.dct kvs))->(D.thaw X).nx F H':=λl F U H' k g en ⟨_,n⟩=>by let⟨b1,b2,b3⟩:=bc k g;exact⟨a,o,ps,b1,h0,c.nx l F _ _ b3 (g.thaw b1 b2) (en.keepL<|XE b1) n⟩
 have ret:∀v U H' x,gj (upd H1 a<|.frz o<|.dK ps) H'->RH i U H'->RV i.K H' v x->(U a=fJ (.frz kvs)/\R v (iG.upd U a<|.dct kvs))->(D.thaw X).rt x H':=λv U H' x k g r ⟨_,n⟩=>by let⟨b1,b2,b3⟩:=bc k g;exact⟨a,o,ps,b1,h0,c.rt v _ _ x b3 (g.thaw b1 b2) (r.keepL<|XE b1) n⟩
 have xo:∀Hq,XW X (XKS i Hq λ_ _ _=>False):=λHq=>λ_ _ _ _ _ _ _ _ _ _ ⟨_,_,_,_,_,_,_,_,z⟩=>z.elim;generalize hxs:kvs.map (iG.itemOf kb)=xs at w1 it;generalize θ:(λg:iG.Hs=>g a=fJ (.frz kvs))=st at w1 it;refine⟨λn m F H'=>n+m=xs.length/\∃l U,gj (upd H1 a<|.frz o<|.dK ps) H'/\RH i U H'/\REn i.K H' l F/\iG.wFor st (λv e g K M=>iG.go (iG.bind q g v e) λy=>iG.wSs Φ mb y g K (λu g2=>g2 a=fJ (.frz kvs)/\R u (iG.upd g2 a<|.dct kvs)) M K λ_ _ _=>False) (λe g=>g a=fJ (.frz kvs)/\N e (iG.upd g a<|.dct kvs)) (xs.drop n) l U,⟨xs.length,by lia,env,_,gj.refl _,g2,(p.en.keep k1).keep k2,⇑w1⟩,?_⟩;rintro n m F H' ⟨hnm,l,U,k3,g3,e3,w3⟩;by_cases hn:n<xs.length
 .right;have hd:xs.drop n=xs[n]::xs.drop (n+1):=ť hn;rw[hd]at w3;let⟨s2,w3⟩:=w3;have hv:xs[n]?=fJ xs[n]:=É hn;let⟨a1,a2⟩:=it.go n U H' xs[n] k3 g3 s2 hv;refine⟨a1,λσ4 H4=>∃dy G4,gj (upd H1 a<|.frz o<|.dK ps) H4/\RH i G4 H4/\REn i.K H4 dy σ4/\iG.wFor st (λv e g K M=>iG.go (iG.bind q g v e) λy=>iG.wSs Φ mb y g K (λu g2=>g2 a=fJ (.frz kvs)/\R u (iG.upd g2 a<|.dct kvs)) M K λ_ _ _=>False) (λe g=>g a=fJ (.frz kvs)/\N e (iG.upd g a<|.dct kvs)) (xs.drop<|n+1) dy G4,λσ4 H4 h=>⟨m - 1,by lia,by lia,h⟩,λx H4 hy=>?_⟩;let⟨k4,g4,r4⟩:=a2 x H4 hy;let⟨eM,e5,w5⟩:=fQ w3;refine⟨xs[n],l,U,eM,r4,g4,e3.keep k4,e5,λσ5 h5=>?_⟩;refine⟨eM,U,_,_,_,_,_,⟨h5,g4,xo _⟩,w5,⟨λd O G6 H6 k6 g6 e6 W=>?_,λv6 G6 H6 x6 k6 g6 r6 W=>?_,λd O G6 H6 k6 g6 e6 W=>?_,λd O G6 H6 k6 g6 e6 W=>?_⟩⟩
  .exact⟨d,G6,(k3.trans k4).trans k6,g6,e6,W⟩
  .exact ret v6 G6 H6 x6 ((k3.trans k4).trans k6) g6 r6 W
  .exact fin d O G6 H6 ((k3.trans k4).trans k6) g6 e6 W
  .exact⟨d,G6,(k3.trans k4).trans k6,g6,e6,W⟩
 .left;have hd:xs.drop n=[]:=Ĺ ↥0;rw[hd]at w3;exact⟨it.stop n U H' k3 g3 w3.1 ↥0,fin l F U H' k3 g3 e3 w3.2⟩
variable {kk:Nat}{d:Expr}
def HJ(hp:ao ↥2 X.A X.env X.xe)(k:X.calm=fL)(hd:PE X d<|tE X i Φ m)(f:PG X (.Tuple es kk R)<|gPt i q)(hb:PSs X body<|tBl X i Φ mb)(s:Ġ d "items" X.env (eval d X.env)=eval d X.env)(l:(J.endLine==I.line)=fL)(U:∀x,Ĝ (.Call (.Attribute d "items" J) [] [] I) X.env x=pure x) :
  PS X (.For (.Tuple es kk R) (.Call (.Attribute d "items" J) [] [] I) body [] í) (tSt X i Φ<|.forI fM q m mb) :=
 At hp k (CQ hd s l) f hb U λ_ _ _ _ _ e r=>DW e r
def FD(hp:ao ↥2 X.A X.env X.xe)(R:X.calm=fL)(hd:PE X d<|tE X i Φ m)(J:PG X tg<|gPt i q)(hb:PSs X body<|tBl X i Φ mb)(I:∀x,Ĝ d X.env x=pure x) :
  PS X (.For tg d body [] í) (tSt X i Φ<|.forI fL q m mb) :=
 At hp R (F4 hd) J hb I λ_ _ _ _ _ e r=>HR e r
def NB(I:List<|List Int):∀(k:Nat) (x:List Int) (r:List<|List Int),I.take (k+1)=x::r->k<I.length->iG.minR x r=I.getD (ĺ (btL λn=>I.getD n []) k) []
 |0,x,r,h,hk=>by
  cases I with
  |nil=>cases h
  |cons y ys=>simp at h;let⟨rfl,rfl⟩:=h;rfl
 |k+1,x,r,h,hk=>by
  cases I with
  |nil=>cases h
  |cons y ys =>
   rw[ϫ]at h;injection h with h1 h2;subst h1 h2;have U:k<ys.length:=⇑hk
   have J:=NB (y::ys) k y (ys.take k) (by rw[ϫ]) (by simp;lia);have e:ys.take (k+1)=ys.take k++[ys[k]]:=by rw[ŝ];simp[U]
   have app:∀(b:List Int) (l:List<|List Int) (z:List Int),iG.minR b (l++[z])=if iG.gR z (iG.minR b l)then z else iG.minR b l:=by
    intro b l z;induction l generalizing b with
    |nil=>rfl
    |cons w l J=>exact J _
   rw[e,app,J];have R:(y::ys).getD (k+1) []=ys[k]:=by simp[U]
   show _=(y::ys).getD (if btL (λn=>(y::ys).getD n []) (k+1) (ĺ (btL λn=>(y::ys).getD n []) k)=fL then k+1 else ĺ (btL λn=>(y::ys).getD n []) k) [];have f:btL (λn=>(y::ys).getD n []) (k+1) (ĺ (btL λn=>(y::ys).getD n []) k)=iG.gR ys[k] ((y::ys).getD (ĺ (btL λn=>(y::ys).getD n []) k) []):=by rw[MU,<-R];rfl
   rw[f];cases iG.gR ys[k] ((y::ys).getD (ĺ (btL λn=>(y::ys).getD n []) k) [])with
   |true=>rw[iH rfl,iH rfl,R]
   |false=>rw[iI ↥1,iI<|by decide]
def Ht{G:iG.Hs}(s:RVs i.K H xs us)(l:(w::r).length=us.length)(k:xs=(w::r).map λn=>.tup<|n.map .int)(U:us[ĺ (btL λn=>(w::r).getD n [])<|us.length - 1]?=fJ y):RV i.K H (.tup<|(iG.minR w r).map .int) y:=by
 rw[NB (w::r) ((w::r).length - 1) w r (by simp)<|by simp];rw[<-l]at U;have J:ĺ (btL λn=>(w::r).getD n []) ((w::r).length - 1)<(w::r).length:=by have:=Kr (btL λn=>(w::r).getD n [])<|(w::r).length - 1;simp only[Ñ]at this ⊢;lia
 generalize t:ĺ (btL λn=>(w::r).getD n []) ((w::r).length - 1)=j at U J ⊢;have f:xs[j]?=fJ (.tup<|((w::r).getD j []).map .int):=by rw[k,Ø,É J];simp[Ė,É J]
 let⟨x2,I,R⟩:=s.get f;rw[U]at I;cases I;exact R
def Pj(O:X.calm=fL)(F:X.A.units+1<Ī)(s:X.K=i.K)(M:Gl X "min")(hm:X.mg "min" = fK)(he:PE X e<|tE X i Φ m)(l:Þ [e] X.env=[(fM,eval e X.env)]) :
  PE X (.Call (.Name "min" p) [e] [⟨fJ "default",.Constant .none kk kp,J⟩] í) (tE X i Φ<|.bi .minD<|.cons m .nil):=by
 refine(F2 O F M hm (ZK he im<|by rw[l];rfl) l).imp λσ H Q ⟨env,G,Qm,Em,p,w,c⟩=>?_;change tE X i Φ m σ H _;refine one p w λv I H1 x k U r q=>?_
 replace q:(iG.hW I v).wp I Qm:=q
 cases v with
 |ref a =>
  cases r.ref_inv;unfold iG.hW at q;dsimp only at q;cases z:(iG.fY<|I a).bind iG.rowsOf with
  |none=>rw[z]at q;exact(Zi q).elim
  |some Ĥ =>
   let⟨xs,z1,z2⟩:=è.mp z;let⟨us,h1,t⟩:=Zy U.hp z1;let⟨R,h4,W⟩:=NJ t z2;rw[z]at q;refine⟨a,us,Ĥ,rfl,by rw[s];exact h1,R,by rw[s];exact h4,λf=>?_,λf y C=>?_⟩
   .subst f;cases Ĥ with
    |nil=>exact c _ I H1 _ k U.hp .non<|Zq q
    |cons _ _=>cases R
   .cases Ĥ with
    |nil=>exact iM (ű.mp R.symm) f
    |cons w r =>exact c _ I H1 _ k U.hp (Ht (G:=I) t R W C)<|Zq q
 |_=>exact(Zi q).elim
def F0{e:Expr}{C D m:String}{o:iG.E}{as:iG.Es}(h1:PE X e<|tE X i Φ<|.meth C m o as)(R:PE X e<|tE X i Φ<|.meth D m o as):PE X e<|tE X i Φ<|.meth2 C D m o as:=λJ s σ H Q I ⟨env,G,Qm,Em,p,w,c⟩=>by
 rw[iG.wE_eq]at w;rcases w with w|w
 .exact h1 J s σ H Q I ⟨env,G,Qm,Em,p,by rw[iG.wE_eq];exact w,c⟩
 .exact R J s σ H Q I ⟨env,G,Qm,Em,p,by rw[iG.wE_eq];exact w,c⟩
end Snd
namespace L2
open PySem PySem.Spec PyProof.Rows
def map_erase{α β:Type}(f:α->β):∀(l:List α) (j:Nat),(l.map f).eraseIdx j=(l.eraseIdx j).map f
 |[],_=>rfl
 |_::_,0=>rfl
 |a::l,j+1=>congrArg (f a :: ·)<|map_erase f l j
section
variable {A:ċ}{E:Ã->Æ->Prop}{s:Æ}
set_option maxRecDepth 100000 in
def J7{n O:Nat}{a c:Nat}(e:s.heap.get? l=fJ {cls:=.type "list",data:=.seq items n})(F:s.heap.get? b=fJ {cls:=.type "list",data:=.seq new O})(M:l≠b)(hs:s.heap.IsSliceOf U v t .none){lo:Option Int}(C:ĝ lo hi fK items.size=((a:Int),(c:Int),1))(pl:Ν v lo)(pu:Ν t hi)(hac:a<=c)(hc:c<=items.size)(hsz:items.size+new.size<=à)(h:Q () {s with heap:=s.heap.update l (ρ λxs=>xs.extract 0 a++new++xs.extract c xs.size)}) :
  wpAny (â prog w) A (ϓ (.ref l) (.ref U)<|.ref b) Q E s:=by
 have hl:s.heap.IsList l items:=PySem.IsL.isList e;have hb:s.heap.IsList b new:=PySem.IsL.isList F;let⟨os,I,z,R⟩:=id hs;have k:s.TypeIs (.ref U) "slice":=⟨os,I,z⟩
 have dP:¬ ((rawPart fK==ģ 0)=fL):=ă;have J:Builtin.List.listSameRef (.ref l) (.ref b)=fM:=by unfold Builtin.List.listSameRef;exact beq_eq_false_iff_ne.mpr M
 have f:(max (a:Int) (c:Int)).toNat=c:=by lia
 have y:((λxs:Array Ã=>xs.extract 0 a++new++xs.extract c xs.size) items).size<=à+1:=by simp![eW,Array.size_extract];lia
 unfold ϓ;refine Ă ?_;refine À (bh hl.typeIs ↥1 ?_);refine À (ĥ (name:=iO "__setitem__") hl.typeIs slot_list_setitem
   (ę slot_list_setitem hl.typeIs entry_list_setitem ?_<|args_list_setitem _ _ _))
 show wpAny _ _ (Builtin.List.listSubscript? (.ref U) >>= _) _ _ s;refine À ?_;unfold Builtin.List.listSubscript?;refine À<|cq k slice_no_index ?_;simp![dC,if_true];refine È ?_;show wpAny _ _ (typeOf (.ref U) >>= _) _ _ s;refine À<|Ś k ?_;rw[iI<|by decide];rw[listSliceParts_eq];refine À<|À<|Į I R (x:=.none) rfl<|À<|cX .none ?_;rw[iI dP];refine À<|Į I R (x:=v) rfl<|À<|cX pl ?_;refine À<|Į I R (x:=t) rfl<|À<|cX pu<|È ?_;simp![J,ĕ,if_false];refine À (m:=Builtin.List.listAllItems (.ref b) "must assign iterable to extended slice") ?_;unfold Builtin.List.listAllItems;refine À<|Ś hb.typeIs ?_;refine PySem.W.KFB.if_so ↥1 ?_;unfold Builtin.List.listItems;refine À<|ī F rfl<|È ?_;refine À<|À<|ī e rfl<|È ?_;refine À (ab ((sliceIndices_raw lo hi fK items.size<|by simp).trans<|congrArg (pure:Int×Int×Int->Sem (Int×Int×Int)) C) ?_);show wpAny _ _ (if((1:Int)==1)=fL then _ else _) _ _ s;rw[iH<|by decide];refine À<|Δ ?_;simp![Oi hsz,ĕ,if_false];show wpAny _ _ (bN l (λxs=>xs.extract 0 ((a:Int)).toNat++new++xs.extract (max (a:Int) (c:Int)).toNat xs.size) >>= _) _ _ s;rw[f,ç];refine À<|Ž (hz:=Ù (Nat.le_add_right _ _) hsz) (_hz':=y) e rfl ?_;refine À<|ah ?_;exact È ⟨.none,rfl,È h⟩
end
section
variable {o:Expr}{í p2 cp:Pos}{k:Nat}
abbrev Q2(to:TE):TG:=λv σ H Q=>to σ H λo H1=>∃l b xs I,o=.ref l/\v=.ref b/\l≠b/\H1 l=fJ (.lst xs)/\H1 b=fJ (.lst I)/\xs.length+I.length<=à/\Q σ (upd H1 l<|.lst<|I++xs)
def CD(ho:PE X o to):PG X (.Subscript o (.Slice fK (fJ<|.Constant (.int 0) k cp) fK p2) í)<|Q2 to:=by
 intro U s σ H v u Q I r h;have ha:∀v,ο (.Subscript o (.Slice fK (fJ<|.Constant (.int 0) k cp) fK p2) í) X.env v=(do
     let J<-Ĵ [v] (eval o X.env)
     let iv<-Ĵ [v,J] (eval (.Slice fK (fJ<|.Constant (.int 0) k cp) fK p2) X.env)
     Ψ í
     Ĵ [v,J,iv] (ϓ J iv v)
     cA [iv,v,J] []):=λ_=>rfl
 rw[ha];refine À<|Ă<|thn (ho U s σ H _ I h) λJ s1 ⟨x,H1,I1,r1,q1⟩=>?_;let⟨l,b,xs,ys,rfl,rfl,F,hl,hb,hz,q⟩:=q1;refine À<|Ă ?_;refine wpAny_Slice<|thn (po_none U s1 σ H1 (λo H'=>o=fK/\H'=H1) I1 ⟨rfl,rfl⟩) λO s2 ⟨o1,H2,I2,pl,e1,f⟩=>thn (Ao Nv U s2 σ H2 (λo H'=>o=fJ 0/\H'=H1) I2 ?_) λM s3 ⟨o2,H3,I3,pu,e3,e4⟩=>?_
 .exact⟨0,rfl,rfl,f⟩
 subst e1 f e3 e4;rw[dX];refine È ?_;have y:Inv X U σ H3 {s3 with heap:=s3.heap.push {cls:=.type "slice",data:=.fields #[O,M,.none]}}:=I3.kept (t':=s3.toks) λb ob q=>Ä _ q;cases r1;cases r;let⟨z,R,n,r,hl1,e⟩:=y.lstM hl;let⟨z2,C,n2,W,hl2,f⟩:=y.lstM hb;refine À (aI<|À<|Ă<|J7 (a:=0) (c:=0) e f F (Heap.IsSliceOf.new ..) (lo:=fK) (hi:=fJ 0) ?_ pl pu (Ì _) (ė _) (by rw[Î,Î];lia) ?_)
 .have:=Wq fK (fJ 0) R.toArray.size;let⟨h1,h2,h3⟩:=this;refine Prod.ext ?_ (Prod.ext ?_ h3)
  .rw[h1];rfl
  .rw[h2];simp[HT.sIx]
 .exact wpAny_release ⟨σ,_,y.lset (its':=R.take 0++C++R.drop 0) (t':=s3.toks) hl e (A6 R C 0 0) (iu.append (iu.append (r.take 0) W)<|r.drop 0) (by rw[á,á,ą,ξ];lia),by rw[ϟ,be,ϝ];exact q⟩
end
end L2
namespace Snd
open PySem L2
def NU(hK:X.K=i.K)(he:PE X e<|tE X i Φ m)(ha:PE X a<|tE X i Φ ma)(hs:ŵ [.Subscript a (.Slice fK (fJ<|.Constant (.int 0) k cp) fK p2) t] e í.line X.env=pure fM) :
  PS X (.Assign [.Subscript a (.Slice fK (fJ<|.Constant (.int 0) k cp) fK p2) t] e í) (tSt X i Φ<|.setFront ma m) :=
 (UO he (CD ha) hs rfl rfl).imp λD σ H ⟨env,G,N,R,B,C,Xe,p,w,c⟩=>by
  refine⟨env,G,_,Xe env,p.pre,w,λv G1 H1 x f g1 r1 w1=>?_⟩;refine one (p.go f g1<|p.en.keep f).pre w1 λo s H2 y k2 p2 ry q=>?_;let⟨G3,I,q3⟩:=fQ q;clear q;let⟨a,ea,I⟩:=è.mp I;let⟨b,eb,I⟩:=è.mp I;by_cases J:a=b
  .rw[iH J]at I;cases I
  rw[iI J]at I;let⟨xs,ex,I⟩:=è.mp I;let⟨ys,ey,I⟩:=è.mp I;let⟨hz,I⟩:=Zl I;cases I;have ev:o=.ref a:=by cases o<;>first|(cases ea;rfl)|cases ea
  have l:v=.ref b:=by cases v<;>first|(cases eb;rfl)|cases eb
  subst ev l;cases ry.ref_inv;have U:=r1.keep k2;cases U.ref_inv;have hg:∀{a:Í}{xs:List iG.Val},iG.fY (s a)=fJ xs->s a=fJ (.lst xs):=λ{a xs} ex=>by
   cases z:s a with
   |none=>rw[z]at ex;cases ex
   |some o=>rw[z]at ex;cases o<;>first|(cases ex;rfl)|cases ex
  let⟨F,h1,O⟩:=p2.hp a _<|hg ex;let⟨us,h2,M⟩:=p2.hp b _<|hg ey;let⟨W,g3⟩:=Jm (xs:=xs) p2.hp h1 (ys++xs) (us++F)<|M.append O;exact⟨a,b,F,us,rfl,rfl,J,h1,h2,by have:=O.length;have:=M.length;unfold iG.lim at hz;unfold à;lia,c.nx env σ _ _ ((f.trans k2).trans W) g3 (p2.en.keep W) q3⟩
structure Md where
 N:List Str
 sc:Γ
 cs:List<|String×iG.Val
 fs:List String
 cm:Bool
 cl:List String
 ms:List<|String×String
 fl:List String
 xs:List String
abbrev Md.nmOf(c:Md)(j:Nat):Str:=c.N.getD j Str.empty
abbrev Md.vis(c:Md)(x:Str):Bool:=match c.sc.names.lookup x with
 |some .local=>fL
 |some .cell=>fL
 |some .free=>fL
 |_=>fM
abbrev Md.loc(c:Md)(x:Str):Bool:=c.sc.names.lookup x==fJ .local||c.sc.names.lookup x==fJ .cell
abbrev Md.gl(c:Md)(x:Str):Bool:=c.sc.names.lookup x==fJ .globalImplicit
abbrev nm(x:Str):Bool:=!(x==("__debug__" : Str)) && !(x==("__classdict__" : Str)) && !(x==("__name__" : Str))
abbrev dE:Expr:=.Name Str.empty ⟨0,0,0,0⟩
abbrev mix:List (Option Expr)->List Expr->List Expr
 |k::ks,v::vs=>k.getD dE::v::mix ks vs
 |_,_=>[]
abbrev sub:Expr->List Expr
 |.BoolOp _ xs _=>xs
 |.BinOp a _ b _=>[a,b]
 |.UnaryOp _ a _=>[a]
 |.IfExp a b c _=>[a,b,c]
 |.Compare a _ bs _=>a::bs
 |.Call f as ks _=>f::(as++ks.map (·.value))
 |.FormattedValue a _ _ _=>[a]
 |.JoinedStr vs _=>vs
 |.Attribute a _ _=>[a]
 |.Subscript a b _=>[a,b]
 |.List es _=>es
 |.Tuple es _ _=>es
 |.Slice a b c _=>[a.getD dE,b.getD dE,c.getD dE]
 |.ListComp e gs _ _=>e::gs.flatMap λg=>g.target::g.iter::g.ifs
 |.Dict ks vs _=>mix ks vs
 |_=>[]
abbrev kid(x:Expr)(j:Nat):Expr:=(sub x).getD j dE
abbrev num:Expr->Nat
 |.Constant _ k _=>k
 |.Tuple _ k _=>k
 |_=>0
abbrev scp:Expr->Γ
 |.ListComp _ _ s _=>s
 |_=>default
abbrev kwp:Expr->Pos
 |.Call _ _ (k::_) _=>k.pos
 |_=>⟨0,0,0,0⟩
abbrev O5:iG.Bop->Ϛ
 |.add=>.Add
 |.sub=>.Sub
 |.mul=>.Mult
 |.fdiv=>.FloorDiv
 |.mod=>.Mod
 |.pow=>.Pow
abbrev Jg:iG.Cop->bT
 |.eq=>.Eq
 |.ne=>.NotEq
 |.lt=>.Lt
 |.le=>.LtE
 |.gt=>.Gt
 |.ge=>.GtE
 |.isin=>.In
 |.notin=>.NotIn
 |.is=>.Is
 |.isnot=>.IsNot
 |.eqE=>.Eq
 |.neE=>.NotEq
 |.ntT=>.IsNot
abbrev S7:iG.Val->Const
 |.non=>.none
 |.bl b=>.bool b
 |.int i=>.int i
 |.str s=>.str<|iO s
 |_=>.ellipsis
abbrev IL:iG.Val->Bool
 |.non=>fL
 |.bl _=>fL
 |.int _=>fL
 |.str _=>fL
 |_=>fM
abbrev ZO(e:iG.E):Bool:=e.ctorIdx==(iG.E.and e e).ctorIdx
abbrev Yx(e:iG.E):Bool:=e.ctorIdx==(iG.E.or e e).ctorIdx
abbrev Zp(e:iG.Tt):Bool:=e.ctorIdx==(iG.Tt.and e e).ctorIdx
abbrev ZA(e:iG.Tt):Bool:=e.ctorIdx==(iG.Tt.or e e).ctorIdx
abbrev rest(b:Bool)(x:Expr):Expr:=match b,x with
 |true,.BoolOp op (_::xs) p=>.BoolOp op xs p
 |_,x=>kid x 1
abbrev flat(b:Bool)(x:Expr):List Expr:=match b with
 |true=>sub x
 |false=>[x]
abbrev A9:iG.Bi->Str
 |.len=>"len"
 |.int=>"int"
 |.str=>"str"
 |.bool=>"bool"
 |.abs=>"abs"
 |.min2=>"min"
 |.max2=>"max"
 |.minL=>"min"
 |.maxL=>"max"
 |.minP=>"min"
 |.maxP=>"max"
 |.minD=>"min"
 |.sum=>"sum"
 |.all=>"all"
 |.any=>"any"
 |.sorted=>"sorted"
 |.sortedI=>"sorted"
 |.sortedSet=>"sorted"
 |.lenSet=>"len"
 |.list=>"list"
 |.tuple=>"tuple"
 |.dict=>"dict"
 |.isi _=>"isinstance"
 |.isx _=>"isinstance"
 |.isc _=>"isinstance"
 |.repr=>"repr"
 |.listRev=>"list"
 |.listRange=>"list"
 |.tupRange=>"tuple"
 |.dictEnum=>"dict"
 |.listD=>"list"
 |.listT=>"list"
abbrev Rm:iG.Bi->Option Str
 |.sortedSet=>fJ "set"
 |.lenSet=>fJ "set"
 |.listRev=>fJ "reversed"
 |.listRange=>fJ "range"
 |.tupRange=>fJ "range"
 |.dictEnum=>fJ "enumerate"
 |_=>fK
abbrev L9(I:List String)(x:Expr):Expr:=match I with
 |[T]=>.Name (iO T) x.pos
 |I=>.Tuple (I.zipIdx.map λp=>.Name (iO p.1) (kid x p.2).pos) (num x) x.pos
abbrev P1(f:iG.Bi)(as:List Expr)(x:Expr):List Expr:=match Rm f with
 |some y=>[.Call (.Name y (kid (kid x 1) 0).pos) as [] (kid x 1).pos]
 |none=>match f with
  |.isi Ts=>as++[L9 Ts<|kid x 2]
  |.isx Ts=>as++[L9 Ts<|kid x 2]
  |.isc T=>as++[L9 [T]<|kid x 2]
  |_=>as
abbrev KZ(f:iG.Bi)(x:Expr):List Expr:=match Rm f with
 |some _=>(sub<|kid x 1).tail
 |none=>(sub x).tail
abbrev Ve(f:iG.Bi)(x:Expr):List Ϣ:=match f with
 |.minD=>[⟨fJ "default",.Constant .none (num<|kid x 2) (kid x 2).pos,kwp x⟩]
 |_=>[]
abbrev QQ:iG.Bm->Str
 |.append=>"append"
 |.extend=>"extend"
 |.pop=>"pop"
 |.popAt=>"pop"
 |.insert=>"insert"
 |.remove=>"remove"
 |.clear=>"clear"
 |.reverse=>"reverse"
 |.index=>"index"
 |.count=>"count"
 |.dget=>"get"
 |.dgetD=>"get"
 |.dpop=>"pop"
 |.dpopD=>"pop"
 |.dpopT=>"pop"
 |.setdefault=>"setdefault"
 |.join=>"join"
 |.split=>"split"
 |.replace=>"replace"
 |.upper=>"upper"
 |.partition=>"partition"
 |.sidx=>"index"
abbrev XS:List Expr->List (Option Expr)
 |k::_::r=>fJ k::XS r
 |_=>[]
abbrev BV:List Expr->List Expr
 |_::v::r=>v::BV r
 |_=>[]
abbrev toP(p:iG.Pt)(c:Md)(x:Expr):Expr:=match p with
 |.one j=>.Name (c.nmOf j) x.pos
 |.many js=>.Tuple (js.zipIdx.map λp=>.Name (c.nmOf p.1) (kid x p.2).pos) (num x) x.pos
 |.nest j js=>.Tuple [.Name (c.nmOf j) (kid x 0).pos,.Tuple (js.zipIdx.map λp=>.Name (c.nmOf p.1) (kid (kid x 1) p.2).pos) (num<|kid x 1) (kid x 1).pos] (num x) x.pos
abbrev nmX:Expr->Str
 |.Name x _=>x
 |_=>Str.empty
abbrev Wf:Expr->List Str
 |.Tuple es _ _=>es.map nmX
 |x=>[nmX x]
abbrev Md.blk(c:Md)(sc:Γ)(x:List Str)(I:List Nat):Md :=
 {N:=x++I.map (λj=>c.N.getD j Str.empty),sc:={sc with names:=sc.names.map λ(n,k)=>if(k == .free&&c.sc.kind == .function&&c.sc.names.lookup n==fJ .cell)then(n,.cell)else(n,k)},cs:=c.cs,fs:=c.fs,cm:=c.cm,cl:=c.cl,ms:=c.ms,fl:=c.fl,xs:=c.xs}
abbrev Vd:iG.E->Bool
 |.cst (.str _)=>fL
 |_=>fM
mutual
noncomputable def toX:iG.E->Md->Expr->Expr
 |.cst v,_,x=>.Constant (S7 v) (num x) x.pos
 |.var j,c,x=>.Name (c.nmOf j) x.pos
 |.glob y _,_,x=>.Name (iO y) x.pos
 |.bin o a b,c,x=>.BinOp (toX a c<|kid x 0) (O5 o) (toX b c<|kid x 1) x.pos
 |.neg a,c,x=>.UnaryOp .USub (toX a c<|kid x 0) x.pos
 |.not a,c,x=>.UnaryOp .Not (toX a c<|kid x 0) x.pos
 |.and a b,c,x=>.BoolOp .And (toX a c (kid x 0)::flat (ZO b) (toX b c<|rest (ZO b) x)) x.pos
 |.or a b,c,x=>.BoolOp .Or (toX a c (kid x 0)::flat (Yx b) (toX b c<|rest (Yx b) x)) x.pos
 |.cmp o a b,c,x=>.Compare (toX a c<|kid x 0) [Jg o] [toX b c<|kid x 1] x.pos
 |.chain o1 o2 a b d,c,x=>.Compare (toX a c<|kid x 0) [Jg o1,Jg o2] [toX b c<|kid x 1,toX d c<|kid x 2] x.pos
 |.call f as,c,x=>.Call (.Name (iO f) (kid x 0).pos) (toA as c (sub x).tail) [] x.pos
 |.make C as,c,x=>.Call (.Name (iO C) (kid x 0).pos) (toA as c (sub x).tail) [] x.pos
 |.meth _ m o as,c,x=>.Call (.Attribute (toX o c<|kid (kid x 0) 0) (iO m) (kid x 0).pos) (toA as c (sub x).tail) [] x.pos
 |.meth2 _ _ m o as,c,x=>.Call (.Attribute (toX o c<|kid (kid x 0) 0) (iO m) (kid x 0).pos) (toA as c (sub x).tail) [] x.pos
 |.fld o f,c,x=>.Attribute (toX o c<|kid x 0) (iO f) x.pos
 |.bi f as,c,x=>.Call (.Name (A9 f) (kid x 0).pos) (P1 f (toA as c<|KZ f x) x) (Ve f x) x.pos
 |.bm m o as,c,x=>.Call (.Attribute (toX o c<|kid (kid x 0) 0) (QQ m) (kid x 0).pos) (toA as c (sub x).tail) [] x.pos
 |.idx a b,c,x=>.Subscript (toX a c<|kid x 0) (toX b c<|kid x 1) x.pos
 |.slc a lo hi,c,x=>.Subscript (toX a c<|kid x 0) (.Slice (toO lo c<|kid (kid x 1) 0) (toO hi c<|kid (kid x 1) 1) fK (kid x 1).pos) x.pos
 |.rev a,c,x=>.Subscript (toX a c<|kid x 0) (.Slice fK fK (fJ<|.UnaryOp .USub (.Constant (.int 1) (num<|kid (kid (kid x 1) 2) 0) (kid (kid (kid x 1) 2) 0).pos) (kid (kid x 1) 2).pos) (kid x 1).pos) x.pos
 |.sortT a,c,x=>.Call (.Name "sorted" (kid x 0).pos) [toX a c<|kid x 1] [] x.pos
 |.pick a lo hi st,c,x=>.Subscript (toX a c<|kid x 0) (.Slice (toO lo c<|kid (kid x 1) 0) (toO hi c<|kid (kid x 1) 1) (fJ<|toX st c<|kid (kid x 1) 2) (kid x 1).pos) x.pos
 |.tup es,c,x=>.Tuple (toA es c<|sub x) (num x) x.pos
 |.key es,c,x=>.Tuple (toA es c<|sub x) (num x) x.pos
 |.dctP,c,x=>.Dict [] [] x.pos
 |.lst es,c,x=>.List (toA es c<|sub x) x.pos
 |.dct es,c,x=>.Dict (XS<|toA es c<|sub x) (BV<|toA es c<|sub x) x.pos
 |.ife t a b,c,x=>.IfExp (toT t c<|kid x 0) (toX a c<|kid x 1) (toX b c<|kid x 2) x.pos
 |.comp Ā _ p it t e,c,x=>.ListComp (toX e (c.blk (scp x) (Wf<|kid x 1) Ā)<|kid x 0) [⟨toP p (c.blk (scp x) (Wf<|kid x 1) Ā)<|kid x 1,toI it c<|kid x 2,toF t (c.blk (scp x) (Wf<|kid x 1) Ā)<|kid x 3,0⟩] (scp x) x.pos
 |.fstr es,c,x=>.JoinedStr (toJ es c<|sub x) x.pos
 |.split o a,c,x=>.Call (.Attribute (toX o c<|kid (kid x 0) 0) "split" (kid x 0).pos) [toX a c<|kid x 1] [] x.pos
 |.repl o y z,c,x=>.Call (.Attribute (toX o c<|kid (kid x 0) 0) "replace" (kid x 0).pos) [.Constant (.str<|iO y) (num<|kid x 1) (kid x 1).pos,.Constant (.str<|iO z) (num<|kid x 2) (kid x 2).pos] [] x.pos
noncomputable def toA:iG.Es->Md->List Expr->List Expr
 |.nil,_,_=>[]
 |.cons e es,c,xs=>toX e c (xs.headD dE)::toA es c xs.tail
noncomputable def toJ:iG.Es->Md->List Expr->List Expr
 |.nil,_,_=>[]
 |.cons e es,c,xs=>(if Vd e then toX e c (xs.headD dE)else .FormattedValue (toX e c<|kid (xs.headD dE) 0) (-1) fK (xs.headD dE).pos)::toJ es c xs.tail
noncomputable def toO:iG.Oe->Md->Expr->Option Expr
 |.none,_,_=>fK
 |.some e,c,x=>fJ<|toX e c x
noncomputable def toT:iG.Tt->Md->Expr->Expr
 |.yes,_,x=>x
 |.val e,c,x=>toX e c x
 |.not t,c,x=>.UnaryOp .Not (toT t c<|kid x 0) x.pos
 |.and a b,c,x=>.BoolOp .And (toT a c (kid x 0)::flat (Zp b) (toT b c<|rest (Zp b) x)) x.pos
 |.or a b,c,x=>.BoolOp .Or (toT a c (kid x 0)::flat (ZA b) (toT b c<|rest (ZA b) x)) x.pos
noncomputable def toF:iG.Tt->Md->Expr->List Expr
 |.yes,_,_=>[]
 |.val e,c,x=>[toX e c x]
 |.not t,c,x=>[.UnaryOp .Not (toT t c<|kid x 0) x.pos]
 |.and a b,c,x=>[.BoolOp .And (toT a c (kid x 0)::flat (Zp b) (toT b c<|rest (Zp b) x)) x.pos]
 |.or a b,c,x=>[.BoolOp .Or (toT a c (kid x 0)::flat (ZA b) (toT b c<|rest (ZA b) x)) x.pos]
noncomputable def toI:iG.It->Md->Expr->Expr
 |.seq e,c,x=>toX e c x
 |.seqT _ e,c,x=>toX e c x
 |.chars e,c,x=>toX e c x
 |.range a,c,x=>.Call (.Name "range" (kid x 0).pos) [toX a c<|kid x 1] [] x.pos
 |.range2 a b,c,x=>.Call (.Name "range" (kid x 0).pos) [toX a c<|kid x 1,toX b c<|kid x 2] [] x.pos
 |.enumL e,c,x=>.Call (.Name "enumerate" (kid x 0).pos) [toX e c<|kid x 1] [] x.pos
 |.enum e,c,x=>.Call (.Name "enumerate" (kid x 0).pos) [toX e c<|kid x 1] [] x.pos
 |.zip a b,c,x=>.Call (.Name "zip" (kid x 0).pos) [toX a c<|kid x 1,toX b c<|kid x 2] [] x.pos
 |.items e,c,x=>toX e c x
 |.keysF e,c,x=>toX e c x
 |.rev e,c,x=>.Call (.Name "reversed" (kid x 0).pos) [toX e c<|kid x 1] [] x.pos
end
abbrev blts:List Str:=["isinstance","int","bool","str","list","tuple","dict","max","min","range","len","sorted","set","all","any","sum","enumerate","zip","reversed","abs","repr","ValueError"]
structure Kls(X:Cx)(i:Inf)(P:iG.Pg)(n:Nat)(c:Md):Prop where
 A:ClsA i
 F:∀f,c.fl.contains f=fL->FldOk i f
 mkc:∀C,c.cl.contains C=fL->∃a f,i.ins C=fL/\i.cl C a/\Mk i.K a f/\X.mg (iO C)=fJ (.ref a)/\Dfm X.prog X.w X.mg X.base i P n (C ++ ".__init__") f
 mth:∀C m,c.ms.contains (C,m)=fL->∃a f,(∀b,i.cl C b->b=a)/\Cls i.K a/\Meth i.K a (iO m) f/\Dfm X.prog X.w X.mg X.base i P n (C ++ "." ++ m) f
structure Xls(X:Cx)(i:Inf)(c:Md):Prop where
 xc:∀C a,i.xc C a->XCls i.K a/\PySem.W.kitOne i.K (.ref a) (.type "ValueError")=fJ fL
 rs:∀C,c.xs.contains C=fL->∃a,i.xc C a/\PyProof.Rows.OwnCls (iO C) a [.type "ValueError",.type "Exception",.type "BaseException",.type "object"] "ValueError.__new__" X.mg X.base
 kn:∀T,(c.xs.contains T||T == "ShutError")=fL->∃D,X.mg (iO T)=fJ (.ref D)/\∀C a,i.xc C a->PySem.W.kitOne i.K (.ref a) (.ref D)=fJ (iG.io C T)/\PySem.W.exmOne i.K (.ref a) (.ref D)=fJ (iG.io C T)
structure Gd(X:Cx)(i:Inf)(P:iG.Pg)(n:Nat)(c:Md):Prop where
 K:X.K=i.K
 N:X.N=c.N
 sc:X.env.scope=c.sc
 nd:c.N.Nodup
 un:X.A.units+200<Ī
 calm:c.cm=fL->X.calm=fL
 room:c.cm=fL->gL (2*n+1) X.A
 bl:∀x∈blts,X.mg x=fK
 dfs:∀f,c.fs.contains f=fL->Dfo X.prog X.w X.mg X.base i P n f
 cst:∀x v,c.cs.lookup x=fJ v->∃u y,X.mg (iO x)=fJ u/\RelV y u/\∀H,RV i.K H v y
 kl:Kls X i P n c
 xl:c.xs≠[]->Xls X i c
variable {n:Nat}{c:Md}
variable {x:Str}
def Gd.gl(g:Gd X i P n c)(h:c.gl x=fL):Gl X x:=by show X.env.scope.names.lookup x=_;rw[g.sc];exact eq_of_beq h
def Gd.vis(g:Gd X i P n c)(h:c.vis x=fL):Vis X.env.scope x:=by
 unfold Vis;rw[g.sc];unfold Md.vis at h;split at h
 .exact .inl (by assumption)
 .exact .inr (.inl<|by assumption)
 .exact .inr (.inr<|by assumption)
 .cases h
def Gd.loc(g:Gd X i P n c)(h:c.loc x=fL):L2.Loc X.env.scope x:=by
 unfold L2.Loc;rw[g.sc];rcases (Bool.or_eq_true ..).mp h with h|h
 .exact .inl<|eq_of_beq h
 .exact .inr<|eq_of_beq h
def Gd.rm(g:Gd X i P n c)(h:c.cm=fL):gL (2*n) X.A:=(g.room h).mono (ŋ _)
def ME(h:nm x=fL):(x==("__debug__" : Str))=fM/\(x==("__classdict__" : Str))=fM/\x≠"__name__":=by simp![nm,bAq,aB]at h;exact⟨h.1.1,h.1.2,⇑h.2⟩
def Zu(e:iG.E)(c:Md)(x:Expr)(es:List Expr)(env:Env):Þ (toX e c x::es) env=(fM,eval (toX e c x) env)::Þ es env:=by cases e<;>rfl
def C4(e:iG.E)(c:Md)(x:Expr):Nw<|toX e c x:=by intro o j;cases e<;>rfl
def Gb(e:iG.E)(c:Md)(x:Expr):Ń op (toX e c x)=fM:=by cases e<;>rfl
def QC(e:iG.E)(c:Md)(x:Expr)(env:Env):∀y,Ĝ (toX e c x) env y=pure y:=by intro y;cases e<;>rfl
abbrev Xu:Expr->Bool
 |.Call (.Name _ _) [] _ _=>fM
 |_=>fL
variable {e:Expr}
def YA(h:Xu e=fL)(f:Str)(env:Env):Ġ e f env (eval e env)=eval e env:=by
 cases e with
 |Call g as ks p =>
  cases as with
  |cons _ _=>cases g<;>rfl
  |nil=>cases g with
   |Name x q=>cases h
   |_=>rfl
 |_=>rfl
abbrev ZV:iG.Es->Nat
 |.nil=>0
 |.cons _ es=>ZV es+1
def WI:∀(es:iG.Es) (c:Md) (xs:List Expr),(toA es c xs).length=ZV es
 |.nil,_,_=>rfl
 |.cons _ es,c,xs=>by show(toA es c xs.tail).length+1=_;rw[WI es];rfl
def Yy(env:Env)(í:Pos):∀(es:iG.Es) (c:Md) (xs:List Expr),(ğ í<|Þ (toA es c xs) env).any (·.1)=fM
 |.nil,_,_=>rfl
 |.cons e es,c,xs=>by show(ğ í<|Þ (toX e c (xs.headD dE)::toA es c xs.tail) env).any (·.1)=fM;rw[Zu];show(fM||(ğ í<|Þ (toA es c xs.tail) env).any (·.1))=fM;rw[Yy env í es];rfl
def Kw(env:Env)(í:Pos):∀(es:iG.Es) (c:Md) (xs:List Expr),(ğ í<|Þ (toA es c xs) env).all (λx=>!x.1)=fL
 |.nil,_,_=>rfl
 |.cons e es,c,xs=>by show(ğ í<|Þ (toX e c (xs.headD dE)::toA es c xs.tail) env).all (λx=>!x.1)=fL;rw[Zu];show(fL&&(ğ í<|Þ (toA es c xs.tail) env).all (λx=>!x.1))=fL;rw[Kw env í es];rfl
abbrev ZW:iG.Pt->Bool
 |.one _=>fL
 |_=>fM
def Nn(p:iG.Pt)(x:Expr):((!ZW p)=fL->∃es k q,toP p c x=.Tuple es k q)/\((!ZW p)=fM->∃y q,toP p c x=.Name y q):=by
 cases p with
 |one j=>exact⟨λz=>(by cases z),λ_=>⟨_,_,rfl⟩⟩
 |many js=>exact⟨λ_=>⟨_,_,_,rfl⟩,λz=>(by cases z)⟩
 |nest j js=>exact⟨λ_=>⟨_,_,_,rfl⟩,λz=>(by cases z)⟩
abbrev CL(X:Cx)(c:Md)(j:Nat):Prop:=X.N[j]?=fJ (c.nmOf j)/\L2.Loc X.env.scope (c.nmOf j)/\(X.fn (c.nmOf j)=fL\/X.env.scope.names.lookup (c.nmOf j)=fJ .local)
abbrev I0(q:Nat->Prop):iG.Pt->Prop
 |.one j=>q j
 |.many I=>∀j∈I,q j
 |.nest j I=>q j/\∀k∈I,q k
def MW(nd:X.N.Nodup)(f:Nat->Pos):∀(I:List Nat) (k:Nat),(∀j∈I,CL X c j)->
  PGs X ((I.zipIdx k).map λp=>.Name (c.nmOf p.1)<|f p.2) (ET i I)/\(Ģ ((I.zipIdx k).map λp=>.Name (c.nmOf p.1)<|f p.2) X.env).length=I.length/\(Ģ ((I.zipIdx k).map λp=>.Name (c.nmOf p.1)<|f p.2) X.env).findIdx? (·.1)=fK
 |[],_,_=>⟨Gi,rfl,rfl⟩
 |j::I,k,h=>by
  let⟨U,R,J⟩:=h j (by simp);let⟨a1,a2,s⟩:=MW nd f I (k+1) λl hl=>h l (by simp[hl]);rw[List.zipIdx_cons,Ò];refine⟨DO nd U R J a1 rfl,?_,?_⟩
  .show(Ģ ((I.zipIdx<|k+1).map _) X.env).length+1=I.length+1;rw[a2]
  .show List.findIdx? (·.1) ((fM,ο (.Name (c.nmOf j)<|f k) X.env)::Ģ _ X.env)=fK;rw[List.findIdx?_cons];simp[s]
def IX(J:X.K=i.K)(nd:X.N.Nodup)(I:X.calm=fL){x:Expr}(h:I0 (CL X c) p):PG X (toP p c x)<|gPt i p:=by
 cases p with
 |one j=>exact US nd h.1 h.2.1 h.2.2
 |many js =>let⟨a1,a2,R⟩:=MW nd (λk=>(kid x k).pos) js 0 h;exact AB J I a1 a2 R
 |nest j js =>let⟨h0,h⟩:=h;let⟨a1,a2,R⟩:=MW nd (λk=>(kid (kid x 1) k).pos) js 0 h;exact Hr J I (US nd h0.1 h0.2.1 h0.2.2)<|AB J I a1 a2 R
variable {a:iG.E}{b:iG.E}{l:Expr}{í:Pos}
def SJ(g:Gd X i P n c)(ha:PE X l<|tE X i Φ a)(hb:PE X r<|tE X i Φ b):PE X (.BinOp l (O5 o) r í)<|tE X i Φ<|.bin o a b:=by
 cases o with
 |add=>exact Ml SB (by rw[g.K];exact b_add) ha hb
 |sub=>exact Ml QW b_sub ha hb
 |mul=>exact Ml RX b_mul ha hb
 |fdiv=>exact Ml FO b_fdiv ha hb
 |mod=>exact Ml Qy b_mod ha hb
 |pow=>exact Ml PQ b_pow ha hb
abbrev NZ:iG.Cop->Bool
 |.is=>fL
 |.isnot=>fL
 |.ntT=>fL
 |_=>fM
variable {o:iG.Cop}
def Ua(g:Gd X i P n c)(h:NZ o=fM):∃r,OpR X (î<|Jg o) r/\Z6 i o r:=by
 have J:X.A.units+65<Ī:=by have:=g.un;lia
 have I:X.A.units+64<Ī:=by have:=g.un;lia
 have R:X.A.units<Ī:=by have:=g.un;lia
 cases o with
 |eq=>exact⟨_,L6 I,by rw[g.K];exact Tg⟩
 |ne=>exact⟨_,Pw I,by rw[g.K];exact S9⟩
 |lt=>exact⟨_,TB R,by rw[g.K];exact c_lt⟩
 |le=>exact⟨_,Rg,c_le⟩
 |gt=>exact⟨_,Ti R,by rw[g.K];exact c_gt⟩
 |ge=>exact⟨_,S2,c_ge⟩
 |isin=>exact⟨_,Tv J,by rw[g.K];exact TF⟩
 |notin=>exact⟨_,Vf J,by rw[g.K];exact TM⟩
 |eqE=>exact⟨_,E9 I,by rw[g.K];exact c_eqE⟩
 |neE=>exact⟨_,CM I,by rw[g.K];exact c_neE⟩
 |_=>cases h
def Qb(h:IL v=fL):PE X (.Constant (S7 v) j í)<|tE X i Φ<|.cst v:=by
 cases v with
 |non=>exact Jk CZ λ_=>.non
 |bl b=>exact Jk R7 λ_=>.bl _
 |int k=>exact Jk Nv λ_=>.int _
 |str s=>exact Jk Qa λ_=>.str _
 |_=>cases h
abbrev CW:iG.E->Bool
 |.cst .non=>fL
 |_=>fM
def HD{e:iG.E}(h:CW e=fL):e=.cst .non:=by
 cases e with
 |cst v=>cases v with
  |non=>rfl
  |_=>cases h
 |_=>cases h
variable {y:Expr}
def DU(hn:∀G v d,iG.f8 G o v .non≠fJ d)(ha:PE X l<|tE X i Φ a)(hb:PE X y<|tE X i Φ<|.cst .non)(hm:Ń op y=fM) :
  PE X (.Compare l [op] [y] í) (tE X i Φ<|.cmp o a<|.cst .non)/\PT X (.Compare l [op] [y] í) (tTt X i Φ<|.val<|.cmp o a<|.cst .non):=by
 have J:OpR X (î op) λ_ _ _ _=>False:=λ_ _ _ _ _ _ _ _ _ _ _ _ h=>h.elim;refine⟨(AQ J ha hb hm).imp λσ H Q ⟨env,G,Qm,Em,p,w,c⟩=>?_,(AJ J ha hb hm).imp λσ H Q ⟨env,G,Qm,Em,p,w,c⟩=>?_⟩
 .refine one p w λv I H1 x U R r q=>?_;let⟨d,e,_⟩:=fQ q;exact iM e<|hn I v d
 .refine one p w λv I H1 x U R r q=>?_;let⟨d,e,_⟩:=fQ q;exact iM e<|hn I v d
def NK(g:Gd X i P n c){x:Expr}(h:(!NZ o||CW b)=fL)(ha:PE X l<|tE X i Φ a)(hb:PE X (toX b c x)<|tE X i Φ b) :
  PE X (.Compare l [Jg o] [toX b c x] í) (tE X i Φ<|.cmp o a b)/\PT X (.Compare l [Jg o] [toX b c x] í) (tTt X i Φ<|.val<|.cmp o a b):=by
 cases z:NZ o with
 |false =>let⟨r,J,I⟩:=Ua g z;exact⟨Ro J I ha hb<|Gb _ _ _,Pq J I ha hb<|Gb _ _ _⟩
 |true =>
  rw[z]at h;cases HD h;cases o with
  |is=>exact⟨SA ha,Pl ha⟩
  |isnot=>exact⟨Pn ha,Ga ha⟩
  |ntT=>exact DU (λG v d e=>by cases v<;>simp[iG.f8,iG.asLst]at e) ha hb<|Gb _ _ _
  |_=>cases z
def Kj(g:Gd X i P n c){x:Expr}(h1:NZ o1=fM)(I:NZ o2=fM)(ha:PE X l<|tE X i Φ a)(hb:PE X y<|tE X i Φ b)(hd:PE X (toX d c x)<|tE X i Φ d) :
  PE X (.Compare l [Jg o1,Jg o2] [y,toX d c x] í) (tE X i Φ<|.chain o1 o2 a b d)/\PT X (.Compare l [Jg o1,Jg o2] [y,toX d c x] í) (tTt X i Φ<|.val<|.chain o1 o2 a b d):=by
 let⟨r1,a1,a2⟩:=Ua g h1;let⟨J,b1,b2⟩:=Ua g I;have hm:bJ [Jg o1,Jg o2] [y,toX d c x]=fM:=Gb _ _ _;exact⟨Hj a1 a2 b1 b2 ha hb hd hm,Fq a1 a2 b1 b2 ha hb hd hm⟩
def P8(h:PE X e<|tE X i Φ m)(he:∀s,cM e X.env s=(do let v<-s;Ψ e.pos;Ĵ [v] (truthy v)))(k:X.K=i.K):PT X e<|tTt X i Φ<|.val m:=by
 refine(Dq h he).imp λσ H Q ⟨env,G,Qm,Em,p,w,c⟩=>?_;refine one p w λv f H1 x F J r q=>?_;let⟨d,I,C⟩:=fQ q;clear q;refine⟨d,?_,c d f H1 F J.hp C⟩;cases v with
 |non=>cases r;cases I;rfl
 |bl b=>cases r;cases I;rfl
 |int b =>
  cases r;cases I;show iN (b≠0)=(b != 0)
  by_cases e:b=0<;>simp[e]
 |key _ _=>cases I
 |str b =>
  cases r;let⟨hl,I⟩:=Zl I;cases I;refine⟨by rw[ZG];exact Ù hl Yj,?_⟩;rw[ZG];by_cases e:b.length=0
  .rw[e];rfl
  .rw[iK e];symm;simpa using (by lia:¬ ((b.length:Int)=0))
 |tup xs =>
  cases I;cases r with
  |tup hp hr =>refine .inr (.inl ⟨_,by rw[k];exact Zo hp,?_⟩);cases hr<;>rfl
 |scr ns =>
  cases I;cases r with
  |scr h =>refine .inl ⟨_,by rw[k];exact Z7 h,?_⟩;cases ns<;>rfl
 |ref a =>
  cases r.ref_inv
  replace I:(match f a with|some (.lst xs)=>fJ (!xs.isEmpty)|some (.dct kvs)=>fJ (!kvs.isEmpty)|_=>fK)=fJ d:=I
  cases z:f a with
  |none=>rw[z]at I;cases I
  |some o =>
   rw[z]at I;cases o with
   |lst xs =>cases I;let⟨t,U,R⟩:=J.hp a _ z;refine .inl ⟨t,iq.of U,?_⟩;cases R<;>rfl
   |dct kvs =>cases I;let⟨ps,U,R⟩:=J.hp a _ z;refine .inr<|.inr ⟨ps,U,?_⟩;cases R<;>rfl
   |_=>cases I
def gb(j:Nat)(h:blts[j]?=fJ x):x∈blts:=é h
variable {a:Bool}{b:Bool}{p:Prop}
def an2(h:(a&&b)=fL)(k:a=fL->b=fL->p):p:=k (by cases a;cases h;rfl) (by cases a;cases h;exact h)
variable {c:Bool}
def an3(h:(a&&b&&c)=fL)(k:a=fL->b=fL->c=fL->p):p:=an2 h λh z=>an2 h λx y=>k x y z
variable {d:Bool}
def an4(h:(a&&b&&c&&d)=fL)(k:a=fL->b=fL->c=fL->d=fL->p):p:=an2 h λh z=>an3 h λu x y=>k u x y z
variable {e:Bool}
def an5(h:(a&&b&&c&&d&&e)=fL)(k:a=fL->b=fL->c=fL->d=fL->e=fL->p):p:=an2 h λh z=>an4 h λu x y w=>k u x y w z
variable {f:Bool}
def an6(h:(a&&b&&c&&d&&e&&f)=fL)(k:a=fL->b=fL->c=fL->d=fL->e=fL->f=fL->p):p:=an2 h λh z=>an5 h λu x y w v=>k u x y w v z
def an7(h:(a&&b&&c&&d&&e&&f&&g)=fL)(k:a=fL->b=fL->c=fL->d=fL->e=fL->f=fL->g=fL->p):p:=an2 h λh z=>an6 h λu x y w v t=>k u x y w v t z
def GB(h:(!a)=fL):a=fM:=by cases a;rfl;cases h
def RA(h:(a||b)=fL):a=fL\/b=fL:=by cases a;exact .inr h;exact .inl rfl
def dt[Decidable q](h:decide q=fL):q:=of_decide_eq_true h
abbrev Md.gn(c:Md)(y:String):Bool:=c.gl (iO y)&&nm (iO y)
abbrev Nc:iG.Bi->Bool
 |.len=>fL
 |.int=>fL
 |.min2=>fL
 |.max2=>fL
 |.all=>fL
 |.list=>fL
 |.tuple=>fL
 |.dict=>fL
 |.sortedI=>fL
 |_=>fM
abbrev M7:iG.Bi->Bool
 |.len=>fL
 |.int=>fL
 |.list=>fL
 |.tuple=>fL
 |_=>fM
abbrev Sy(c:Md):iG.Bi->Bool
 |.isi (T::r)=>c.gl "isinstance" && (T::r).all (λT=>kinds.contains T&&c.gl (iO T))&&iN (r.length<1)
 |.lenSet=>c.gl "len" && c.gl "set" && c.cm
 |.sortedSet=>c.gl "sorted" && c.gl "set" && c.cm
 |.minD=>c.gl "min" && c.cm
 |_=>fM
abbrev Ef:iG.Bm->Option Nat
 |.append=>fJ 1
 |.popAt=>fJ 1
 |.dget=>fJ 1
 |.dgetD=>fJ 2
 |.dpop=>fJ 1
 |.dpopD=>fJ 2
 |_=>fK
abbrev EC:iG.Tt->Bool
 |.yes=>fL
 |_=>fM
abbrev DN:iG.E->Bool
 |.var _=>fL
 |.call _ _=>fL
 |.meth _ _ _ _=>fL
 |.bi _ _=>fL
 |.bm _ _ _=>fL
 |.idx _ _=>fL
 |.fld _ _=>fL
 |.glob _ _=>fL
 |_=>fM
abbrev T7:iG.E->Bool
 |.cmp _ _ _=>fL
 |.chain _ _ _ _ _=>fL
 |_=>fM
mutual
noncomputable def okE:iG.E->Md->Expr->Bool
 |.cst v,_,_=>IL v
 |.var j,c,_=>iN (j<c.N.length)&&c.vis (c.nmOf j)&&nm (c.nmOf j)
 |.glob y v,c,_=>c.gn y&&iN (c.cs.lookup y=fJ v)
 |.bin _ a b,c,x=>okE a c (kid x 0)&&okE b c (kid x 1)
 |.neg a,c,x=>okE a c<|kid x 0
 |.not a,c,x=>okE a c<|kid x 0
 |.and a b,c,x=>okE a c (kid x 0)&&okE b c (rest (ZO b) x)&&(!ZO b||(rest (ZO b) x).pos==x.pos)
 |.or a b,c,x=>okE a c (kid x 0)&&okE b c (rest (Yx b) x)&&(!Yx b||(rest (Yx b) x).pos==x.pos)
 |.cmp o a b,c,x=>okE a c (kid x 0)&&okE b c (kid x 1)&&(!NZ o||CW b)
 |.chain o1 o2 a b d,c,x=>okE a c (kid x 0)&&okE b c (kid x 1)&&okE d c (kid x 2) && !NZ o1 && !NZ o2
 |.call f as,c,x=>c.gn f&&c.fs.contains f&&c.cm&&okA as c (sub x).tail
 |.make C as,c,x=>c.gn C&&c.cl.contains C&&c.cm&&iN (ZV as≠0)&&okA as c (sub x).tail
 |.meth C m o as,c,x=>c.ms.contains (C,m)&&c.cm&&okE o c (kid (kid x 0) 0)&&Xu (toX o c<|kid (kid x 0) 0)&&((kid x 0).pos.endLine==x.pos.line)&&iN (ZV as<20)&&okA as c (sub x).tail
 |.meth2 C D m o as,c,x=>c.ms.contains (C,m)&&c.cm&&okE o c (kid (kid x 0) 0)&&Xu (toX o c<|kid (kid x 0) 0)&&((kid x 0).pos.endLine==x.pos.line)&&iN (ZV as<20)&&okA as c (sub x).tail&&c.ms.contains (D,m)
 |.fld o f,c,x=>c.fl.contains f&&okE o c (kid x 0)&&Xu (toX o c<|kid x 0)
 |.bi f as,c,x=>((iN (ZV as=1)&&Sy c f)||(Nc f&&c.gl (A9 f)&&iN (ZV as≠0)&&(c.cm||M7 f)))&&okA as c (KZ f x)
 |.bm m o as,c,x=>iN (Ef m=fJ (ZV as))&&okE o c (kid (kid x 0) 0)&&Xu (toX o c<|kid (kid x 0) 0)&&((kid x 0).pos.endLine==x.pos.line)&&okA as c (sub x).tail
 |.idx a b,c,x=>okE a c (kid x 0)&&okE b c (kid x 1)
 |.slc a lo hi,c,x=>okE a c (kid x 0)&&okO lo c (kid (kid x 1) 0)&&okO hi c (kid (kid x 1) 1)
 |.tup es,c,x=>okA es c (sub x)&&iN (ZV es<=1000)
 |.lst es,c,x=>okA es c (sub x)&&iN (ZV es<=1000)
 |.pick a lo hi st,c,x=>okE a c (kid x 0)&&okO lo c (kid (kid x 1) 0)&&okO hi c (kid (kid x 1) 1)&&okE st c (kid (kid x 1) 2)
 |.dct es,c,x=>okA es c (sub x)&&Kt es&&iN (esL es<=30)
 |.ife t a b,c,x=>okT t c (kid x 0)&&okE a c (kid x 1)&&okE b c (kid x 2)
 |.comp Ā m p it t e,c,x=>(B1 m p&&(Wf<|kid x 1).length==m)&&c.cm&&YU (scp x) c.sc c.N (Wf<|kid x 1) Ā&&(scp x).kind == .function&&okI it c (kid x 2) (!ZW p)&&okE e (c.blk (scp x) (Wf<|kid x 1) Ā) (kid x 0)&&(EC t||okT t (c.blk (scp x) (Wf<|kid x 1) Ā) (kid x 3))
 |_,_,_=>fM
noncomputable def okA:iG.Es->Md->List Expr->Bool
 |.nil,_,_=>fL
 |.cons e es,c,xs=>okE e c (xs.headD dE)&&okA es c xs.tail
noncomputable def okO:iG.Oe->Md->Expr->Bool
 |.none,_,_=>fL
 |.some e,c,x=>okE e c x
noncomputable def okT:iG.Tt->Md->Expr->Bool
 |.yes,_,_=>fM
 |.val e,c,x=>okE e c x&&(DN e||T7 e)
 |.not t,c,x=>okT t c<|kid x 0
 |.and a b,c,x=>okT a c (kid x 0)&&okT b c (rest (Zp b) x)&&(!Zp b||(rest (Zp b) x).pos==x.pos)
 |.or a b,c,x=>okT a c (kid x 0)&&okT b c (rest (ZA b) x)&&(!ZA b||(rest (ZA b) x).pos==x.pos)
noncomputable def okI:iG.It->Md->Expr->Bool->Bool
 |.seq e,c,x,_=>okE e c x
 |.range a,c,x,_=>c.gl "range" && okE a c (kid x 1)
 |.range2 a b,c,x,_=>c.gl "range" && okE a c (kid x 1)&&okE b c (kid x 2)
 |.enumL e,c,x,t=>t&&c.gl "enumerate" && okE e c (kid x 1)
 |.enum e,c,x,t=>t&&c.gl "enumerate" && okE e c (kid x 1)
 |_,_,_,_=>fM
end
variable {X:Cx}{i:Inf}{P:iG.Pg}{n:Nat}{c:Md}
variable {es:List Expr}{q:Pos}{l:Nat}
def G8(g:Gd X i P n c){f:iG.Bi}(hp:Nc f=fL)(R:(c.cm||M7 f)=fL){e:Expr}{as:iG.Es}{p:Pos}(I:Gl X<|A9 f)(ha:PA X (e::es)<|tAr X i (iG.wF P n) as l)
  (he:Þ (e::es) X.env=(fM,eval e X.env)::Þ es X.env) (hpl:(ğ p<|Þ es X.env).any (·.1)=fM):PE X (.Call (.Name (A9 f) q) (e::es) [] p)<|tE X i (iG.wF P n)<|.bi f as:=by
 have J:M7 f=fM->X.calm=fL:=λz=>g.calm (by rw[z,Ω]at R;exact R);cases f with
 |len=>exact(Yn ((call_len_seq.or Nk).or B4) I (g.bl _<|gb 10 rfl) (by kernel_rfl) ha (he:=he) (hpl:=hpl)).imp (Wu<|by rw[g.K];exact LB)
 |int=>exact(YH (call_int1.or KG) I (g.bl _<|gb 1 rfl) (by kernel_rfl) ha (he:=he) (hpl:=hpl)).imp<|Wu LJ
 |min2=>exact(Yn (Bq<|J rfl) I (g.bl _<|gb 8 rfl) (by kernel_rfl) ha (he:=he) (hpl:=hpl)).imp<|Wu FG
 |max2=>exact(Yn (BA<|J rfl) I (g.bl _<|gb 7 rfl) (by kernel_rfl) ha (he:=he) (hpl:=hpl)).imp<|Wu Hf
 |all=>exact(Yn (DQ<|J rfl) I (g.bl _<|gb 13 rfl) (by kernel_rfl) ha (he:=he) (hpl:=hpl)).imp (Wu<|by rw[g.K];exact QE)
 |list=>exact(YH M5 I (g.bl _<|gb 4 rfl) (by kernel_rfl) ha (he:=he) (hpl:=hpl)).imp (Wu<|by rw[g.K];exact GU)
 |dict=>exact(YH (call_dictK.or<|UH<|J rfl) I (g.bl _<|gb 6 rfl) (by kernel_rfl) ha (he:=he) (hpl:=hpl)).imp (Wu<|by rw[g.K];exact GH)
 |sortedI=>exact(Yn (call_sorted.or<|MX<|J rfl) I (g.bl _<|gb 11 rfl) (by kernel_rfl) ha (he:=he) (hpl:=hpl)).imp (Wu<|by rw[g.K];exact UN)
 |tuple=>exact(YH KN I (g.bl _<|gb 5 rfl) (by kernel_rfl) ha (he:=he) (hpl:=hpl)).imp (Wu<|by rw[g.K];exact Do)
 |_=>cases hp
variable {T:String}
def RF(hT:T∈kinds):iO T∈blts/\ř (iO T)=fJ (.type T)/\iO T≠"__name__"/\(iO T==("__debug__" : Str))=fM:=by
 simp![kinds,Å,Õ,or_false]at hT;rcases hT with rfl|rfl|rfl|rfl|rfl|rfl
 .exact⟨gb 1 rfl,by kernel_rfl,by decide,by decide⟩
 .exact⟨gb 2 rfl,by kernel_rfl,by decide,by decide⟩
 .exact⟨gb 3 rfl,by kernel_rfl,by decide,by decide⟩
 .exact⟨gb 4 rfl,by kernel_rfl,by decide,by decide⟩
 .exact⟨gb 5 rfl,by kernel_rfl,by decide,by decide⟩
 .exact⟨gb 6 rfl,by kernel_rfl,by decide,by decide⟩
def E7(g:Gd X i P n c){e:Expr}{p p2 í:Pos}(hT:T∈kinds)(R:c.gl "isinstance" = fL)(J:c.gl (iO T)=fL)(he:PE X e<|tE X i (iG.wF P n) m)(I:Þ [e,.Name (iO T) p2] X.env=(fM,eval e X.env)::Þ [.Name (iO T) p2] X.env) :
  PE X (.Call (.Name "isinstance" p) [e,.Name (iO T) p2] [] í) (tE X i (iG.wF P n)<|.bi (.isi [T])<|.cons m .nil):=by
 have k:=RF hT;exact R0 hT he g.K (g.gl R) (g.bl _<|gb 0 rfl) (g.gl J) (g.bl _ k.1) k.2.1 k.2.2.1 k.2.2.2 I
variable {m:iG.Bm}{o:Expr}{mo:iG.E}{Ő:Pos}{Œ:Pos}
def DK(g:Gd X i P n c)(h:Ef m=fJ 0)(I:PE X o<|tE X i (iG.wF P n) mo)(hb:∀f,Ġ o f X.env (eval o X.env)=eval o X.env)(hl:(Ő.endLine==Œ.line)=fL) :
  PE X (.Call (.Attribute o (QQ m) Ő) [] [] Œ) (tE X i (iG.wF P n)<|.bm m mo .nil):=by
 cases m with
 |_=>cases h
def FU(g:Gd X i P n c){k:Nat}(h:Ef m=fJ (k+1)){e:Expr}(J:PE X o<|tE X i (iG.wF P n) mo)(ha:PA X (e::es)<|tAr X i (iG.wF P n) ms l)(hb:∀f,Ġ o f X.env (eval o X.env)=eval o X.env)(hl:(Ő.endLine==Œ.line)=fL)(R:((ğ Œ<|Þ (e::es) X.env).all (λx=>!x.1)&&(Ŷ Œ<|ń [] X.env).all (λx=>x.1.isSome)&&iN ((e::es).length+([]:List Ϣ).length+(if([]:List Ϣ).isEmpty then 0 else 1)<30))=fL)(I:Þ (e::es) X.env=(fM,eval e X.env)::Þ es X.env)(hpl:(ğ Œ<|Þ es X.env).any (·.1)=fM) :
  PE X (.Call (.Attribute o (QQ m) Ő) (e::es) [] Œ) (tE X i (iG.wF P n)<|.bm m mo ms):=by
 have U:X.A.units+1<Ī:=by have:=g.un;lia
 cases m with
 |append=>exact B5 g.K PySem.F.plainAttrs_list PySem.F.slot_list_append PySem.F.type_list_append Cl (RU rfl) QS J ha (hb _) R hl I hpl
 |popAt=>exact B5 g.K PySem.F.plainAttrs_list PySem.F.slot_list_pop PySem.F.type_list_pop ER (RU rfl) GK J ha (hb _) R hl I hpl
 |dget=>exact B5 g.K PySem.F.plainAttrs_dict PySem.F.slot_dict_get PySem.F.type_dict_get (DG U) (GV rfl) PB J ha (hb _) R hl I hpl
 |dgetD=>exact B5 g.K PySem.F.plainAttrs_dict PySem.F.slot_dict_get PySem.F.type_dict_get (Ew U) (GV rfl) HW J ha (hb _) R hl I hpl
 |dpop=>exact B5 g.K PySem.F.plainAttrs_dict PySem.F.slot_dict_pop PySem.F.type_dict_pop mt_dpop (GV rfl) Qq J ha (hb _) R hl I hpl
 |dpopD=>exact B5 g.K PySem.F.plainAttrs_dict PySem.F.slot_dict_pop PySem.F.type_dict_pop (mt_dpop.or DY) (GV rfl) HA J ha (hb _) R hl I hpl
 |_=>cases h
variable {sc:Γ}{Ā:List Nat}
def Gd.blk(g:Gd X i P n c){x:List Str}(hb:YU sc c.sc c.N x Ā=fL)(I:sc.kind=.function)(cl:List<|Str×Í)(C:Í)(s:Æ)(H:Hp)(ex:List Í) :
  Gd (Zw X sc (Z9 X x Ā) cl C s H ex) i P n (c.blk sc x Ā) where
 K:=g.K
 N:=by show Z9 X x Ā=_;unfold Z9;rw[g.N];rfl
 sc:=by show cE sc X.env=_;unfold cE Env.kindOf;rw[g.sc];rfl
 nd:=by have B:=Uy g.sc g.N I hb;have:=B.nd;unfold Z9 at this;rw[g.N]at this;exact this
 un:=g.un
 calm:=g.calm
 room:=g.room
 bl:=g.bl
 dfs:=g.dfs
 cst:=g.cst
 kl:=⟨g.kl.A,g.kl.F,g.kl.mkc,g.kl.mth⟩
 xl:=λh=>⟨(g.xl h).xc,(g.xl h).rs,(g.xl h).kn⟩
def Gd.pt(g:Gd X i P n c)(R:c.cm=fL){xs:List Str}(hb:YU sc c.sc c.N xs Ā=fL)(J:sc.kind=.function){p:iG.Pt}(hp:B1 xs.length p=fL)(x:Expr)(cl:List<|Str×Í)(C:Í)(s:Æ)(H:Hp)(ex:List Í) :
  PG (Zw X sc (Z9 X xs Ā) cl C s H ex) (toP p (c.blk sc xs Ā) x) (gPt i p):=by
 have B:=Uy g.sc g.N J hb;have G:=g.blk hb J cl C s H ex;have key:∀j,j<xs.length->CL (Zw X sc (Z9 X xs Ā) cl C s H ex) (c.blk sc xs Ā) j:=λj I=>by
  have e:(c.blk sc xs Ā).nmOf j=xs[j]:=by unfold Md.nmOf Md.blk;show(xs++_).getD j _=_;rw[Ė,Ď I,É I];rfl
  have lo:=lookup_relabel_local (env:=X.env)<|B.own xs[j]<|þ I;unfold CL;rw[e];refine⟨?_,.inl lo,.inr lo⟩;show(xs++_)[j]?=_;rw[Ď I,É I]
 refine IX G.K (by rw[G.N];exact G.nd) (g.calm R) ?_;cases p with
 |one j=>exact key j<|of_decide_eq_true hp
 |many js=>exact λj I=>key j<|of_decide_eq_true<|ý.mp hp j I
 |nest j js=>cases hp
def AL{b:iG.E}(h:ZO b=fL):∃a d,b=.and a d:=iG.E.and.elim (motive_1:=λb=>∃a d,b=.and a d) b (eq_of_beq h) λa d=>⟨a,d,rfl⟩
def C7{b:iG.E}(h:Yx b=fL):∃a d,b=.or a d:=iG.E.or.elim (motive_1:=λb=>∃a d,b=.or a d) b (eq_of_beq h) λa d=>⟨a,d,rfl⟩
def CA{b:iG.Tt}(h:Zp b=fL):∃a d,b=.and a d:=iG.Tt.and.elim (motive_4:=λb=>∃a d,b=.and a d) b (eq_of_beq h) λa d=>⟨a,d,rfl⟩
def Im{b:iG.Tt}(h:ZA b=fL):∃a d,b=.or a d:=iG.Tt.or.elim (motive_4:=λb=>∃a d,b=.or a d) b (eq_of_beq h) λa d=>⟨a,d,rfl⟩
def Nj{p:Pos}(h:(!b||p==q)=fL)(hb:b=fL):p=q:=by rw[hb]at h;exact eq_of_beq h
variable {Φ:iG.Fs}{x:Expr}
def C5{b:iG.E}(hp:(!ZO b||(rest (ZO b) x).pos==x.pos)=fL)(h:PE X (toX b c<|rest (ZO b) x)<|tE X i Φ b):PE X (.BoolOp .And (flat (ZO b)<|toX b c<|rest (ZO b) x) x.pos)<|tE X i Φ b:=by
 cases z:ZO b with
 |false=>rw[z]at h;exact Fr h
 |true =>have e:=Nj hp z;rw[z]at e h;let⟨a,d,rfl⟩:=AL z;show PE X (.BoolOp .And (sub<|.BoolOp .And _ (rest fL x).pos) x.pos) _;rw[<-e];exact h
def HI{b:iG.E}(hp:(!Yx b||(rest (Yx b) x).pos==x.pos)=fL)(h:PE X (toX b c<|rest (Yx b) x)<|tE X i Φ b):PE X (.BoolOp .Or (flat (Yx b)<|toX b c<|rest (Yx b) x) x.pos)<|tE X i Φ b:=by
 cases z:Yx b with
 |false=>rw[z]at h;exact Fr h
 |true =>have e:=Nj hp z;rw[z]at e h;let⟨a,d,rfl⟩:=C7 z;show PE X (.BoolOp .Or (sub<|.BoolOp .Or _ (rest fL x).pos) x.pos) _;rw[<-e];exact h
def KU(b:Bool){e:iG.E}(h:b=ZO e\/b=Yx e):∃y ys,flat b (toX e c x)=y::ys:=by
 cases b with
 |false=>exact⟨_,_,rfl⟩
 |true =>
  rcases h with h|h
  .obtain⟨a,d,rfl⟩:=AL h.symm;exact⟨_,_,rfl⟩
  .obtain⟨a,d,rfl⟩:=C7 h.symm;exact⟨_,_,rfl⟩
variable {i:Inf}{P:iG.Pg}{n:Nat}
variable {X:Cx}{c:Md}{Φ:iG.Fs}{b:iG.Tt}{x:Expr}
def AX(hp:(!Zp b||(rest (Zp b) x).pos==x.pos)=fL)(h:PT X (toT b c<|rest (Zp b) x)<|tTt X i Φ b)(I:(Zp b||ZA b)=fL->PW X (toT b c<|rest (Zp b) x) (tTt X i Φ b)) :
  ∃y ys,flat (Zp b) (toT b c<|rest (Zp b) x)=y::ys/\PW X (.BoolOp .And (y::ys) x.pos) (tTt X i Φ b):=by
 cases z:Zp b with
 |false=>rw[z]at h;exact⟨_,_,rfl,Iz h⟩
 |true =>have e:=Nj hp z;rw[z]at e I;let⟨a,d,rfl⟩:=CA z;refine⟨_,_,rfl,?_⟩;rw[<-e];exact I rfl
def E3(hp:(!ZA b||(rest (ZA b) x).pos==x.pos)=fL)(h:PT X (toT b c<|rest (ZA b) x)<|tTt X i Φ b)(I:(Zp b||ZA b)=fL->PW X (toT b c<|rest (ZA b) x) (tTt X i Φ b)) :
  ∃y ys,flat (ZA b) (toT b c<|rest (ZA b) x)=y::ys/\PW X (.BoolOp .Or (y::ys) x.pos) (tTt X i Φ b):=by
 cases z:ZA b with
 |false=>rw[z]at h;exact⟨_,_,rfl,Q5 h⟩
 |true =>have e:=Nj hp z;rw[z]at e I;let⟨a,d,rfl⟩:=Im z;refine⟨_,_,rfl,?_⟩;rw[<-e];exact I rfl
variable {Ā:List Nat}{p:iG.Pt}{it:iG.It}{í:Pos}
def Ms(g:Gd X i P n c){mt:iG.Tt}{me:iG.E}{ca iter I:Expr}{x:List Str}{J:List Expr}{sc:Γ}(fk:c.cm=fL)(h1:YU sc c.sc c.N x Ā=fL)(hk:sc.kind=.function)(hp:B1 x.length p=fL)
  (hi:PI X I iter<|tIt X i (iG.wF P n) it) (F:∀y,Ĝ iter X.env y=pure y) (W:∀cl C s H ex,PG (Zw X sc (Z9 X x Ā) cl C s H ex) I<|gPt i p)
  (hE:∀cl C s H ex,PE (Zw X sc (Z9 X x Ā) cl C s H ex) ca<|tE0 i (iG.wF P n) me) (O:∀cl C s H ex,PIfs (Zw X sc (Z9 X x Ā) cl C s H ex) J<|tT0 i (iG.wF P n) mt) :
  PE X (.ListComp ca [⟨I,iter,J,0⟩] sc í) (tE X i (iG.wF P n)<|.comp Ā x.length p it mt me)/\
   ∀(y:Str) (py U:Pos) (j:Nat),X.N[j]?=fJ y->L2.Loc X.env.scope y->(X.fn y=fL\/X.env.scope.names.lookup y=fJ .local)->μ (.ListComp ca [⟨I,iter,J,0⟩] sc í) (fJ<|.Name y py) U.line X.env=pure fL->PS X (.Assign [.Name y py] (.ListComp ca [⟨I,iter,J,0⟩] sc í) U) (tSt X i (iG.wF P n)<|.set (.one j)<|.comp Ā x.length p it mt me):=by
 have B:=Uy g.sc g.N hk h1;have M:=g.calm fk;refine⟨(D6 M B hi W O hE F).imp<|AS hp,λy py U j hj hl hf k=>?_⟩;refine(Eh (by rw[g.N];exact g.nd) hj hl M B hi W O hE F k hf).imp λD σ H ⟨env,G,N,R,Bk,Ct,Xe,p,w,e⟩=>?_;refine AS hp σ H _ ⟨env,G,_,Xe env,p.pre,w,λv G1 H1 x z g1 r1 t=>?_⟩;let⟨Ō,e2,w2⟩:=fQ t;clear t;cases e2;exact e.nx _ _ G1 H1 z g1 ((p.en.keep z).set r1 j) w2
def Eo(I:X.N=c.N)(h:j<c.N.length):X.N[j]?=fJ (c.nmOf j):=by rw[I];unfold Md.nmOf;rw[Ė,É h];rfl
def F6{o:Expr}{m:Str}{Ő:Pos}(hb:Ġ o m env (eval o env)=eval o env)(I:cY (args.length+0) (ğ í<|Þ args env) (Ŷ í<|ń [] env)=fL)(hl:(Ő.endLine==í.line)=fL) :
  eval (.Call (.Attribute o m Ő) args [] í) env=(do
    let ov<-eval o env
    Ψ Ő.atName
    let (f,first)<-Ĵ [ov] (ϛ ov m<|do return (<-importBound o env).getD fL)
    cO í f first (ğ í<|Þ args env) (Ŷ í<|ń [] env)):=by
 show(do
   let ov<-Ġ o m env (eval o env)
   Ψ Ő.atName
   methodCall o m Ő í env ov (args.length+0) (ğ í<|Þ args env) (Ŷ í<|ń [] env))=_
 rw[hb];unfold methodCall methodCallPos;rw[I,hl];rfl
def PM(env:Env)(í:Pos)(h:ZV as<20):cY ((toA as c xs).length+0) (ğ í<|Þ (toA as c xs) env) (Ŷ í<|ń [] env)=fL:=by unfold cY;rw[bAq,bAq,iL,WI];refine⟨⟨Kw env í as c xs,rfl⟩,?_⟩;show ZV as+0+0<30;lia
def Sv{m:iG.Tt}(h:EC m=fM->PT X (toT m c x) (tTt X i (iG.wF P n) m)):PIfs X (toF m c x)<|tT0 i (iG.wF P n) m:=by
 cases m with
 |yes=>exact Qi
 |val e=>exact Wy<|pt0<|h rfl
 |not t=>exact Wy<|pt0<|h rfl
 |and a b=>exact Wy<|pt0<|h rfl
 |or a b=>exact Wy<|pt0<|h rfl
def NV(c:Md):∀(es:iG.Es) (xs:List Expr),Kt es=fL->(XS<|toA es c xs).all (·.isSome)=fL/\(XS<|toA es c xs).length=(BV<|toA es c xs).length/\2*(XS<|toA es c xs).length=esL es
 |.nil,_,_=>⟨rfl,rfl,rfl⟩
 |.cons _ .nil,_,h=>by cases h
 |.cons k (.cons v r),xs,h=>by
  let⟨J,I,R⟩:=NV c r xs.tail.tail h;refine⟨?_,?_,?_⟩
  .show(fL&&(XS<|toA r c xs.tail.tail).all (·.isSome))=fL;rw[J];rfl
  .show(XS<|toA r c xs.tail.tail).length+1=(BV<|toA r c xs.tail.tail).length+1;rw[I]
  .show 2*((XS<|toA r c xs.tail.tail).length+1)=esL r+1+1;lia
def Lf(g:Gd X i P n c):X.A.units+1<Ī:=by have:=g.un;lia
variable {a:iG.E}
def Fb{b:iG.E}(ha:PE X (toX a c<|kid x 0)<|tE X i Φ a)(hp:(!ZO b||(rest (ZO b) x).pos==x.pos)=fL)(hb:PE X (toX b c<|rest (ZO b) x)<|tE X i Φ b):PE X (toX (.and a b) c x)<|tE X i Φ<|.and a b:=by have I:=C5 hp hb;let⟨y,J,e⟩:=KU (c:=c) (ZO b) (e:=b) (x:=rest (ZO b) x)<|.inl rfl;show PE X (.BoolOp .And (toX a c (kid x 0)::flat (ZO b) (toX b c<|rest (ZO b) x)) x.pos) _;rw[e]at I ⊢;exact RG ha I
def HL{b:iG.E}(ha:PE X (toX a c<|kid x 0)<|tE X i Φ a)(hp:(!Yx b||(rest (Yx b) x).pos==x.pos)=fL)(hb:PE X (toX b c<|rest (Yx b) x)<|tE X i Φ b):PE X (toX (.or a b) c x)<|tE X i Φ<|.or a b:=by have I:=HI hp hb;let⟨y,J,e⟩:=KU (c:=c) (Yx b) (e:=b) (x:=rest (Yx b) x)<|.inr rfl;show PE X (.BoolOp .Or (toX a c (kid x 0)::flat (Yx b) (toX b c<|rest (Yx b) x)) x.pos) _;rw[e]at I ⊢;exact Va ha I
section
variable {X:Cx}{c:Md}{f C m:String}{o:iG.E}{as:iG.Es}{x:Expr}
def Be(g:Gd X i P n c)(h1:c.gn f=fL)(J:c.fs.contains f=fL)(I:c.cm=fL)(ha:PA X (toA as c (sub x).tail)<|tAr X i (iG.wF P n) as (toA as c (sub x).tail).length):PE X (toX (.call f as) c x)<|tE X i (iG.wF P n)<|.call f as:=an2 h1 λh1 R=>by
 cases as with
 |nil=>exact HC g.K (g.dfs _ J) (g.rm I) (g.gl h1) (ME R).1
 |cons a as=>exact Pv g.K (g.dfs _ J) (g.rm I) (g.gl h1) (ME R).1 ha (Zu ..)<|Yy ..
def Bj(g:Gd X i P n c)(h1:c.gn C=fL)(k:c.cl.contains C=fL)(U:c.cm=fL)(R:iN (ZV as≠0)=fL)(ha:PA X (toA as c (sub x).tail)<|tAr X i (iG.wF P n) as (toA as c (sub x).tail).length):PE X (toX (.make C as) c x)<|tE X i (iG.wF P n)<|.make C as:=an2 h1 λh1 s=>by
 let⟨a,f,J,I,M,hm,D⟩:=g.kl.mkc C k;cases as with
 |nil=>exact iM rfl<|dt R
 |cons b as=>exact Q8 g.K J I M D (g.room U) (g.gl h1) hm (ME s).1 ha (Zu ..)<|Yy ..
def WN(g:Gd X i P n c)(h1:c.ms.contains (C,m)=fL)(R:c.cm=fL)(s:Xu (toX o c<|kid (kid x 0) 0)=fL)(k:((kid x 0).pos.endLine==x.pos.line)=fL)(U:iN (ZV as<20)=fL)(J:PE X (toX o c<|kid (kid x 0) 0)<|tE X i (iG.wF P n) o)(ha:PA X (toA as c (sub x).tail)<|tAr X i (iG.wF P n) as (toA as c (sub x).tail).length):PE X (toX (.meth C m o as) c x)<|tE X i (iG.wF P n)<|.meth C m o as:=by
 have ev:=F6 (m:=iO m) (YA s _ X.env) (PM X.env x.pos (c:=c) (xs:=(sub x).tail)<|dt U) k;let⟨a,f,I,A,M,D⟩:=g.kl.mth C m h1;cases as with
 |nil=>exact F1 g.K I A M D (g.rm R) J ev
 |cons b as=>exact LF g.K I A M D (g.rm R) J ha (Zu ..) (Yy ..) ev
def FY{f:iG.Bi}(g:Gd X i P n c)(h:Sy c f=fL)(he:PE X (toX a c<|(KZ f x).headD dE)<|tE X i (iG.wF P n) a):PE X (toX (.bi f<|.cons a .nil) c x)<|tE X i (iG.wF P n)<|.bi f<|.cons a .nil:=by
 cases f with
 |isi Ts=>cases Ts with
  |nil=>cases h
  |cons T r =>
   refine an3 h λR I J=>?_;cases r with
   |nil=>exact an2 I λI _=>an2 I λI U=>E7 g (ĉ.mp I) R U he<|Zu ..
   |cons b r=>exact iM (dt J) (by simp)
 |lenSet=>exact an3 h λR I J=>D7 (g.calm J) g.K he (g.gl R) (g.bl _<|gb 10 rfl) (g.gl I) (g.bl _<|gb 12 rfl) (by rw[Zu];rfl)
 |sortedSet=>exact an3 h λR I J=>OE (g.calm J) g.K he (g.gl R) (g.bl _<|gb 11 rfl) (g.gl I) (g.bl _<|gb 12 rfl) (by rw[Zu];rfl)
 |minD=>exact an2 h λR J=>Pj (g.calm J) (Lf g) g.K (g.gl R) (g.bl _<|gb 8 rfl) he (by rw[Zu];rfl)
 |_=>cases h
def Io{f:iG.Bi}(g:Gd X i P n c)(h1:Nc f=fL)(R:c.gl (A9 f)=fL)(J:iN (ZV as≠0)=fL)(I:(c.cm||M7 f)=fL)(ha:PA X (toA as c<|KZ f x)<|tAr X i (iG.wF P n) as (toA as c<|KZ f x).length):PE X (toX (.bi f as) c x)<|tE X i (iG.wF P n)<|.bi f as:=by
 cases as with
 |nil=>exact iM rfl<|dt J
 |cons a as =>
  have U:toX (.bi f<|.cons a as) c x=.Call (.Name (A9 f) (kid x 0).pos) (toA (.cons a as) c<|KZ f x) [] x.pos:=by cases f<;>first|(cases h1;done)|rfl
  rw[U];exact G8 g h1 I (g.gl R) ha (Zu ..)<|Yy ..
def Po{m:iG.Bm}{k:Nat}(h:Ef m=fJ k):k<=2:=by cases m<;>first|(cases h;done)|(cases h;decide)
def GQ{m:iG.Bm}(g:Gd X i P n c)(h1:Ef m=fJ (ZV as))(R:Xu (toX o c<|kid (kid x 0) 0)=fL)(J:((kid x 0).pos.endLine==x.pos.line)=fL)(I:PE X (toX o c<|kid (kid x 0) 0)<|tE X i (iG.wF P n) o)(ha:PA X (toA as c (sub x).tail)<|tAr X i (iG.wF P n) as (toA as c (sub x).tail).length):PE X (toX (.bm m o as) c x)<|tE X i (iG.wF P n)<|.bm m o as:=by
 cases as with
 |nil=>exact DK g h1 I (λf=>YA R f _) J
 |cons a as =>refine FU g h1 I ha (λf=>YA R f _) J ?_ (Zu ..)<|Yy ..;rw[bAq,bAq,iL];refine⟨⟨Kw X.env x.pos (.cons a as) c (sub x).tail,rfl⟩,?_⟩;have k:(toA (.cons a as) c (sub x).tail).length=ZV (.cons a as):=WI ..;have U:=Po h1;show(toA (.cons a as) c (sub x).tail).length+0+0<30;lia
def Dr{es:iG.Es}(I:Kt es=fL)(J:esL es<=30)(hp:PPs X x.pos (XS<|toA es c<|sub x) (BV<|toA es c<|sub x)<|N0 X i (iG.wF P n) es):PE X (toX (.dct es) c x)<|tE X i (iG.wF P n)<|.dct es:=by
 cases es with
 |nil=>exact Pr
 |cons k r=>cases r with
  |nil=>cases I
  |cons v r =>let⟨s,U,R⟩:=NV c (.cons k<|.cons v r) (sub x) I;exact SV I J hp s U (by intro z;cases z) (by rw[<-R]at J;lia)
def CU(g:Gd X i P n c)(z:DN a=fL)(he:PE X (toX a c x)<|tE X i Φ a):PT X (toT (.val a) c x)<|tTt X i Φ<|.val a:=P8 he (by cases a<;>first|(cases z;done)|exact λ_=>rfl) g.K
def AU{a:iG.Tt}(ha:PT X (toT a c<|kid x 0)<|tTt X i Φ a)(hp:(!Zp b||(rest (Zp b) x).pos==x.pos)=fL)(I:PT X (toT b c<|rest (Zp b) x) (tTt X i Φ b)/\((Zp b||ZA b)=fL->PW X (toT b c<|rest (Zp b) x) (tTt X i Φ b))):PW X (toT (.and a b) c x)<|tTt X i Φ<|.and a b:=by let⟨y,R,e,J⟩:=AX hp I.1 I.2;show PW X (.BoolOp .And (toT a c (kid x 0)::flat (Zp b) (toT b c<|rest (Zp b) x)) x.pos) _;rw[e];exact Ph ha J
def Fe{a:iG.Tt}(ha:PT X (toT a c<|kid x 0)<|tTt X i Φ a)(hp:(!ZA b||(rest (ZA b) x).pos==x.pos)=fL)(I:PT X (toT b c<|rest (ZA b) x) (tTt X i Φ b)/\((Zp b||ZA b)=fL->PW X (toT b c<|rest (ZA b) x) (tTt X i Φ b))):PW X (toT (.or a b) c x)<|tTt X i Φ<|.or a b:=by let⟨y,R,e,J⟩:=E3 hp I.1 I.2;show PW X (.BoolOp .Or (toT a c (kid x 0)::flat (ZA b) (toT b c<|rest (ZA b) x)) x.pos) _;rw[e];exact Sw ha J
end
mutual
theorem eE:∀(m:iG.E) (X:Cx) (c:Md) (x:Expr),Gd X i P n c->okE m c x=fL->PE X (toX m c x) (tE X i (iG.wF P n) m)
 |.cst v,X,c,x,g,h=>Qb h
 |.var j,X,c,x,g,h=>an3 h λI J R=>Sm (Eo g.N<|dt I) (g.vis J) (ME R).1 (ME R).2.1
 |.glob y v,X,c,x,g,h=>an2 h λh J=>an2 h λI R=>(g.cst _ _<|dt J).elim λu k=>k.elim λz k=>Qn (Gc (g.gl I) k.1 k.2.1 (ME R).1) k.2.2
 |.bin o a b,X,c,x,g,h=>an2 h λI J=>SJ g (eE a X c _ g I)<|eE b X c _ g J
 |.neg a,X,c,x,g,h=>Sj<|eE a X c _ g h
 |.not a,X,c,x,g,h=>SF<|eE a X c _ g h
 |.and a b,X,c,x,g,h=>an3 h λI J R=>Fb (eE a X c _ g I) R<|eE b X c _ g J
 |.or a b,X,c,x,g,h=>an3 h λI J R=>HL (eE a X c _ g I) R<|eE b X c _ g J
 |.cmp o a b,X,c,x,g,h=>an3 h λI J R=>(NK g R (eE a X c _ g I)<|eE b X c _ g J).1
 |.chain o1 o2 a b d,X,c,x,g,h=>an5 h λI J R U M=>(Kj g (GB U) (GB M) (eE a X c _ g I) (eE b X c _ g J)<|eE d X c _ g R).1
 |.call f as,X,c,x,g,h=>an4 h λI R U M=>Be g I R U<|eA as X c _ g M
 |.make C as,X,c,x,g,h=>an5 h λI R U O M=>Bj g I R U O<|eA as X c _ g M
 |.meth C m o as,X,c,x,g,h=>an7 h λI J R U O W M=>WN g I J U O W (eE o X c _ g R)<|eA as X c _ g M
 |.meth2 C D m o as,X,c,x,g,h=>an2 h λh h8=>an7 h λI J R U O W M=>F0 (WN g I J U O W (eE o X c _ g R)<|eA as X c _ g M)<|WN g h8 J U O W (eE o X c _ g R)<|eA as X c _ g M
 |.fld o f,X,c,x,g,h=>an3 h λI J R=>Rl g.K g.kl.A (g.kl.F _ I) (eE o X c _ g J)<|YA R _ _
 | .bi f as,X,c,x,g,h=>an2 h λI J=>(RA I).elim (λI=>an2 I λR I=>by
     cases as with
     |nil=>cases R
     |cons a as=>cases as with
       |nil=>exact an2 J λJ _=>FY g I<|eE a X c _ g J
       | cons b as=>exact iM (dt R)<|by simp[ZV]) λI=>an4 I λI R U M=>Io g I R U M<|eA as X c _ g J
 |.bm m o as,X,c,x,g,h=>an5 h λI J R U M=>GQ g (dt I) R U (eE o X c _ g J)<|eA as X c _ g M
 |.idx a b,X,c,x,g,h=>an2 h λI J=>Sa (ix_seq.or<|Ge<|Lf g) (by rw[g.K];exact R3) (eE a X c _ g I) (eE b X c _ g J)<|C4 _ _ _
 |.slc a lo hi,X,c,x,g,h=>an3 h λI J R=>Su TH (by rw[g.K];exact R1) (eE a X c _ g I) (eO lo X c _ g J)<|eO hi X c _ g R
 |.tup es,X,c,x,g,h=>an2 h λI J=>Rn (by rw[WI];exact dt J)<|eA es X c _ g I
 |.key es,X,c,x,g,h=>nomatch h
 |.dctP,X,c,x,g,h=>nomatch h
 |.lst es,X,c,x,g,h=>an2 h λI J=>Rz (by rw[WI];exact dt J)<|eA es X c _ g I
 |.dct es,X,c,x,g,h=>an3 h λI J R=>Dr J (dt R)<|eD es X c (sub x) x.pos g I J
 |.ife t a b,X,c,x,g,h=>an3 h λI J R=>R6 (eT t X c _ g I).1 (eE a X c _ g J)<|eE b X c _ g R
 |.comp Ā m p it t e,X,c,x,g,h=>an7 h λI J R U M O W=>an2 I λI hm=>by
  obtain rfl:=eq_of_beq hm;let⟨t1,t2⟩:=Nn (c:=c.blk (scp x) (Wf<|kid x 1) Ā) p<|kid x 1;have a:=eI it X c (kid x 2) (toP p (c.blk (scp x) (Wf<|kid x 1) Ā)<|kid x 1) g (!ZW p) t1 t2 M;exact(Ms g J R (eq_of_beq U) I a.1 a.2 (g.pt J R (eq_of_beq U) I _)
    (λcl C s H ex=>pe0<|eE e _ _ _ (g.blk R (eq_of_beq U) cl C s H ex) O) (λcl C s H ex=>Sv λz=>(eT t _ _ _ (g.blk R (eq_of_beq U) cl C s H ex)<|by rw[z]at W;exact W).1)).1
 |.fstr es,X,c,x,g,h=>nomatch h
 |.repl _ _ _,X,c,x,g,h=>nomatch h
 |.split o a,X,c,x,g,h=>nomatch h
 |.rev a,X,c,x,g,h=>nomatch h
 |.sortT a,X,c,x,g,h=>nomatch h
 |.pick a lo hi st,X,c,x,g,h=>an4 h λI J R U=>L5 g.K (eE a X c _ g I) (eO lo X c _ g J) (eO hi X c _ g R)<|eE st X c _ g U
theorem eD:∀(es:iG.Es) (X:Cx) (c:Md) (xs:List Expr) (í:Pos),Gd X i P n c->okA es c xs=fL->Kt es=fL->PPs X í (XS<|toA es c xs) (BV<|toA es c xs) (N0 X i (iG.wF P n) es)
 |.nil,X,c,xs,í,g,h,he=>Hc
 |.cons k .nil,X,c,xs,í,g,h,he=>by cases he
 |.cons k (.cons v r),X,c,xs,í,g,h,he=>by have h:(okE k c (xs.headD dE)&&(okE v c (xs.tail.headD dE)&&okA r c xs.tail.tail))=fL:=h;rw[bAq,bAq]at h;exact CG (eE k X c _ g h.1) (eE v X c _ g h.2.1)<|eD r X c _ í g h.2.2 he
theorem eA:∀(ms:iG.Es) (X:Cx) (c:Md) (xs:List Expr),Gd X i P n c->okA ms c xs=fL->PA X (toA ms c xs) (tAr X i (iG.wF P n) ms (toA ms c xs).length)
 |.nil,X,c,xs,g,h=>Qu
 |.cons a as,X,c,xs,g,h=>by exact an2 h λJ I=>GJ (eE a X c _ g J) (eA as X c _ g I)<|Zu ..
theorem eO:∀(m:iG.Oe) (X:Cx) (c:Md) (x:Expr),Gd X i P n c->okO m c x=fL->PO X (toO m c x) (tOx X i (iG.wF P n) m)
 |.none,X,c,x,g,h=>FR
 |.some e,X,c,x,g,h=>Gk<|eE e X c _ g h
theorem eT:∀(m:iG.Tt) (X:Cx) (c:Md) (x:Expr),Gd X i P n c->okT m c x=fL->PT X (toT m c x) (tTt X i (iG.wF P n) m)/\((Zp m||ZA m)=fL->PW X (toT m c x) (tTt X i (iG.wF P n) m))
 |.yes,X,c,x,g,h=>nomatch h
 | .val e,X,c,x,g,h=>an2 h λI J=>⟨(RA J).elim (λz=>CU g z<|eE e X c x g I) (λz=>by
     cases e with
     |cmp o a b=>exact an3 I λI J R=>(NK g R (eE a X c _ g I)<|eE b X c _ g J).2
     |chain o1 o2 a b d=>exact an5 I λI J R k U=>(Kj g (GB k) (GB U) (eE a X c _ g I) (eE b X c _ g J)<|eE d X c _ g R).2
     | _=>cases z),λz=>(by cases z)⟩
 |.not t,X,c,x,g,h=>⟨QR (eT t X c _ g h).1,λz=>(by cases z)⟩
 |.and a b,X,c,x,g,h=>an3 h λI J R=>have h:=AU (eT a X c _ g I).1 R<|eT b X c _ g J;⟨h.pt,λ_=>h⟩
 |.or a b,X,c,x,g,h=>an3 h λI J R=>have h:=Fe (eT a X c _ g I).1 R<|eT b X c _ g J;⟨h.pt,λ_=>h⟩
theorem eI:∀(m:iG.It) (X:Cx) (c:Md) (x tg:Expr),Gd X i P n c->∀(b:Bool),(b=fL->∃es k p,tg=.Tuple es k p)->(b=fM->∃y p,tg=.Name y p)->okI m c x b=fL->PI X tg (toI m c x) (tIt X i (iG.wF P n) m)/\∀y,Ĝ (toI m c x) X.env y=pure y
 |.seq e,X,c,x,tg,g,b,t1,t2,h=>⟨PZ g.K<|eE e X c _ g h,QC _ _ _ _⟩
 |.seqT k e,X,c,x,tg,g,b,t1,t2,h=>nomatch h
 |.chars e,X,c,x,tg,g,b,t1,t2,h=>nomatch h
 |.range a,X,c,x,tg,g,b,t1,t2,h=>an2 h λJ I=>⟨EL (g.gl J) (g.bl _<|gb 9 rfl) (eE a X c _ g I)<|Zu ..,λ_=>rfl⟩
 |.range2 a d,X,c,x,tg,g,b,t1,t2,h=>an3 h λJ I R=>⟨BS (g.gl J) (g.bl _<|gb 9 rfl) (eE a X c _ g I) (eE d X c _ g R) (by rw[Zu,Zu];rfl)<|Zu ..,λ_=>rfl⟩
 |.zip a d,X,c,x,tg,g,b,t1,t2,h=>nomatch h
 |.enumL e,X,c,x,tg,g,b,t1,t2,h=>an3 h λh0 J I=>by let⟨es,k,p,rfl⟩:=t1 h0;exact⟨DC g.K (g.gl J) (g.bl _<|gb 16 rfl) (eE e X c _ g I) (by rw[Zu];rfl),λ_=>rfl⟩
 |.enum e,X,c,x,tg,g,b,t1,t2,h=>an3 h λh0 J I=>by let⟨es,k,p,rfl⟩:=t1 h0;exact⟨FK g.K (g.gl J) (g.bl _<|gb 16 rfl) (eE e X c _ g I) (by rw[Zu];rfl),λ_=>rfl⟩
 |.items e,X,c,x,tg,g,b,t1,t2,h=>nomatch h
 |.keysF e,X,c,x,tg,g,b,t1,t2,h=>nomatch h
 |.rev e,_,_,_,_,_,_,_,_,h=>nomatch h
end
def Ci(g:Gd X i P n c){m:Nat}{t:iG.Tt}{e:iG.E}(h:okE (.comp Ā m p it t e) c x=fL) :
  PE X (toX (.comp Ā m p it t e) c x) (tE X i (iG.wF P n)<|.comp Ā m p it t e)/\
   ∀(y:Str) (py U:Pos) (j:Nat),X.N[j]?=fJ y->L2.Loc X.env.scope y->(X.fn y=fL\/X.env.scope.names.lookup y=fJ .local)->μ (toX (.comp Ā m p it t e) c x) (fJ<|.Name y py) U.line X.env=pure fL->PS X (.Assign [.Name y py] (toX (.comp Ā m p it t e) c x) U) (tSt X i (iG.wF P n)<|.set (.one j)<|.comp Ā m p it t e):=by
 have h:((B1 m p&&(Wf<|kid x 1).length==m)&&c.cm&&YU (scp x) c.sc c.N (Wf<|kid x 1) Ā&&(scp x).kind == .function&&okI it c (kid x 2) (!ZW p)&&okE e (c.blk (scp x) (Wf<|kid x 1) Ā) (kid x 0)&&(EC t||okT t (c.blk (scp x) (Wf<|kid x 1) Ā) (kid x 3)))=fL:=h;rw[bAq,bAq,bAq,bAq,bAq,bAq]at h;let⟨⟨⟨⟨⟨⟨I,v⟩,R⟩,W⟩,O⟩,M⟩,k⟩:=h;rw[bAq,beq_iff_eq]at I;let⟨I,rfl⟩:=I;have J:=eq_of_beq W;let⟨t1,F⟩:=Nn (c:=c.blk (scp x) (Wf<|kid x 1) Ā) p<|kid x 1;let⟨a1,a2⟩:=eI it X c (kid x 2) (toP p (c.blk (scp x) (Wf<|kid x 1) Ā)<|kid x 1) g (!ZW p) t1 F O;exact Ms g v R J I a1 a2 (g.pt v R J I _)
  (λcl C s H ex=>pe0<|eE e _ _ _ (g.blk R J cl C s H ex) M) (λcl C s H ex=>Sv λz=>(eT t _ _ _ (g.blk R J cl C s H ex)<|by rw[z]at k;exact k).1)
abbrev dS:ľ:=.Pass ⟨0,0,0,0⟩
abbrev stE:ľ->List Expr
 |.Assign ts v _=>v::ts
 |.AugAssign t _ v _=>[v,t]
 |.For t it _ _ _=>[t,it]
 |.While t _ _ _=>[t]
 |.If t _ _ _=>[t]
 |.Expr e _=>[e]
 |.Return (fJ e) _=>[e]
 |.Raise (fJ e) _ _=>[e]
 |_=>[]
abbrev ke(s:ľ)(j:Nat):Expr:=(stE s).getD j dE
abbrev stB:ľ->List ľ
 |.For _ _ b _ _=>b
 |.While _ b _ _=>b
 |.If _ b _ _=>b
 |.Try b _ _ _ _=>b
 |_=>[]
abbrev stO:ľ->List ľ
 |.If _ _ b _=>b
 |_=>[]
abbrev stH:ľ->List ExceptHandler
 |.Try _ hs _ _ _=>hs
 |_=>[]
abbrev dH:ExceptHandler:=.ExceptHandler fK fK [] ⟨0,0,0,0⟩
abbrev hT:ExceptHandler->Expr
 |.ExceptHandler (fJ e) _ _ _=>e
 |_=>dE
abbrev hB:ExceptHandler->List ľ
 |.ExceptHandler _ _ b _=>b
abbrev hP:ExceptHandler->Pos
 |.ExceptHandler _ _ _ p=>p
abbrev Md.hot(c:Md):Md:={c with cm:=fM}
abbrev Rw:iG.E->Md->ľ->ľ
 |e,c,y=>.Expr (toX e c<|ke y 0) y.pos
abbrev TZ(t:Option Nat)(e:iG.E)(c:Md)(y:ľ):ľ:=match t with
 |none=>Rw e c y
 |some j=>.Assign [.Name (c.nmOf j) (ke y 1).pos] (toX e c<|ke y 0) y.pos
mutual
noncomputable def toS:iG.S->Md->ľ->ľ
 |.set p a,c,s=>.Assign [toP p c<|ke s 1] (toX a c<|ke s 0) s.pos
 |.setIdx a j e,c,s=>.Assign [.Subscript (toX a c<|kid (ke s 1) 0) (toX j c<|kid (ke s 1) 1) (ke s 1).pos] (toX e c<|ke s 0) s.pos
 |.setFront a e,c,s=>.Assign [.Subscript (toX a c<|kid (ke s 1) 0) (.Slice fK (fJ<|.Constant (.int 0) (num<|kid (kid (ke s 1) 1) 1) (kid (kid (ke s 1) 1) 1).pos) fK (kid (ke s 1) 1).pos) (ke s 1).pos] (toX e c<|ke s 0) s.pos
 |.setPair a i b j e,c,s=>.Assign [.Tuple [.Subscript (toX a c<|kid (kid (ke s 1) 0) 0) (toX i c<|kid (kid (ke s 1) 0) 1) (kid (ke s 1) 0).pos,.Subscript (toX b c<|kid (kid (ke s 1) 1) 0) (toX j c<|kid (kid (ke s 1) 1) 1) (kid (ke s 1) 1).pos] (num<|ke s 1) (ke s 1).pos] (toX e c<|ke s 0) s.pos
 |.setFld o f e,c,s=>.Assign [.Attribute (toX o c<|kid (ke s 1) 0) (iO f) (ke s 1).pos] (toX e c<|ke s 0) s.pos
 |.augVar j op e,c,s=>.AugAssign (.Name (c.nmOf j) (ke s 1).pos) (O5 op) (toX e c<|ke s 0) s.pos
 |.augFld o f op n,c,s=>.AugAssign (.Attribute (toX o c<|kid (ke s 1) 0) (iO f) (ke s 1).pos) (O5 op) (.Constant (.int n) (num<|ke s 0) (ke s 0).pos) s.pos
 |.augIdx a j op n,c,s=>.AugAssign (.Subscript (toX a c<|kid (ke s 1) 0) (toX j c<|kid (ke s 1) 1) (ke s 1).pos) (O5 op) (.Constant (.int n) (num<|ke s 0) (ke s 0).pos) s.pos
 |.expr e,c,s=>.Expr (toX e c<|ke s 0) s.pos
 |.ret e,c,s=>.Return (fJ<|toX e c<|ke s 0) s.pos
 |.retN,_,s=>.Return fK s.pos
 |.ite t a b,c,s=>.If (toT t c<|ke s 0) (toSs a c<|stB s) (toSs b c<|stO s) s.pos
 |.whl t b,c,s=>.While (toT t c<|ke s 0) (toSs b c<|stB s) [] s.pos
 |.for p it b,c,s=>.For (toP p c<|ke s 0) (toI it c<|ke s 1) (toSs b c<|stB s) [] s.pos
 |.forI fL p e b,c,s=>.For (toP p c<|ke s 0) (toX e c<|ke s 1) (toSs b c<|stB s) [] s.pos
 |.forI fM p e b,c,s=>.For (toP p c<|ke s 0) (.Call (.Attribute (toX e c<|kid (kid (ke s 1) 0) 0) "items" (kid (ke s 1) 0).pos) [] [] (ke s 1).pos) (toSs b c<|stB s) [] s.pos
 |.brk,_,s=>.Break s.pos
 |.cnt,_,s=>.Continue s.pos
 |.pass,_,s=>.Pass s.pos
 |.raise C as,c,s=>.Raise (fJ<|.Call (.Name (iO C) (kid (ke s 0) 0).pos) (toA as c (sub<|ke s 0).tail) [] (ke s 0).pos) fK s.pos
 |.try t e hs,c,s=>.Try [TZ t e c<|(stB s).headD dS] (toH hs c<|stH s) [] [] s.pos
 |.try2 e K b L d,c,s=>.Try [Rw e c<|(stB s).headD dS] [.ExceptHandler (fJ<|.Name (iO K) (hT<|(stH s).headD dH).pos) fK (toSs b c.hot<|hB<|(stH s).headD dH)<|hP<|(stH s).headD dH,.ExceptHandler (fJ<|.Name (iO L) (hT<|(stH s).tail.headD dH).pos) fK (toSs d c.hot<|hB<|(stH s).tail.headD dH)<|hP<|(stH s).tail.headD dH] [] [] s.pos
 |_,_,s=>s
noncomputable def toH:iG.Hn->Md->List ExceptHandler->List ExceptHandler
 |.nil,_,_=>[]
 |.cons K nm b r,c,xs=>.ExceptHandler (fJ<|.Name (iO K) (hT<|xs.headD dH).pos) (nm.map c.nmOf) (toSs b c.hot<|hB<|xs.headD dH) (hP<|xs.headD dH)::toH r c xs.tail
noncomputable def toSs:iG.Ss->Md->List ľ->List ľ
 |.nil,_,_=>[]
 |.cons m ms,c,xs=>toS m c (xs.headD dS)::toSs ms c xs.tail
end
abbrev S0:iG.E->Bool
 |.idx _ _=>fL
 |.var _=>fL
 |.fld _ _=>fL
 |_=>fM
abbrev Oh(c:Md)(j:Nat):Bool:=iN (j<c.N.length)&&c.loc (c.nmOf j)
abbrev okP(p:iG.Pt)(c:Md):Bool:=match p with
 |.one j=>Oh c j
 |.many js=>js.all<|Oh c
 |.nest j js=>Oh c j&&js.all (Oh c)
abbrev IW:iG.E->Bool
 |.tup _=>fL
 |.key _=>fL
 |_=>fM
abbrev EJ:iG.E->Bool
 |.comp _ _ _ _ _ _=>fL
 |_=>fM
abbrev swT(c:Md)(tg v:Expr):Bool:=match v,tg with
 |.ListComp _ _ s í,.Name t p=>(if c.sc.kind.isAnnotationScope then ScopeKind.function else c.sc.kind) == .function&&c.sc.names.lookup t==fJ .local&&p.line==í.line && !(s.names.any λ(n,k)=>n==t&&(k == .local||k == .cell))
 |_,_=>fM
abbrev GM:iG.Bop->Bool
 |.add=>fL
 |.sub=>fL
 |_=>fM
abbrev Tx(c:Md)(j:Nat):Bool:=iN (j<c.N.length)&&c.sc.names.lookup (c.nmOf j)==fJ .local
abbrev Tq(c:Md):Option Nat->Bool
 |none=>fL
 |some j=>Tx c j
abbrev SQ:iG.Ss->Bool
 |.nil=>fM
 |_=>fL
abbrev S3:iG.Hn->Bool
 |.nil=>fL
 |_=>fM
mutual
noncomputable def okS:iG.S->Md->ľ->Bool
 |.set p a,c,s=>okP p c&&okE a c (ke s 0)&&(ZW p || !IW a)&&(ZW p||c.cm)
 |.setIdx a j e,c,s=>okE e c (ke s 0)&&okE a c (kid (ke s 1) 0)&&okE j c (kid (ke s 1) 1)
 |.setFront a e,c,s=>okE e c (ke s 0)&&okE a c (kid (ke s 1) 0)
 |.setFld o f e,c,s=>c.fl.contains f&&okE o c (kid (ke s 1) 0)&&okE e c (ke s 0)
 |.augFld o f op _,c,s=>c.fl.contains f&&okE o c (kid (ke s 1) 0)&&GM op
 |.augIdx a j op _,c,s=>okE a c (kid (ke s 1) 0)&&okE j c (kid (ke s 1) 1)&&GM op
 |.expr e,c,s=>okE e c (ke s 0) && !EJ e
 |.ret e,c,s=>okE e c<|ke s 0
 |.retN,_,_=>fL
 |.ite t a b,c,s=>okT t c (ke s 0)&&okSs a c (stB s)&&okSs b c (stO s)
 |.for p it b,c,s=>okP p c&&okI it c (ke s 1) (!ZW p)&&okSs b c (stB s)&&c.cm
 |.forI fL p e b,c,s=>okP p c&&S0 e&&okE e c (ke s 1)&&okSs b c (stB s)&&c.cm
 |.forI fM p e b,c,s=>okP p c && !ZW p&&okE e c (kid (kid (ke s 1) 0) 0)&&Xu (toX e c<|kid (kid (ke s 1) 0) 0)&&((kid (ke s 1) 0).pos.endLine==(ke s 1).pos.line)&&okSs b c (stB s)&&c.cm
 |.never,_,_=>fL
 |_,_,_=>fM
noncomputable def okH:iG.Hn->Md->List ExceptHandler->Bool
 |.nil,_,_=>fM
 |.cons K nm b r,c,xs=>(c.xs.contains K||K == "ShutError")&&c.gn K && !c.xs.isEmpty&&Tq c nm&&SQ b&&okSs b c.hot (hB<|xs.headD dH)&&S3 r
noncomputable def okSs:iG.Ss->Md->List ľ->Bool
 |.nil,_,_=>fL
 |.cons m ms,c,xs=>okS m c (xs.headD dS)&&okSs ms c xs.tail
end
structure Gs(X:Cx)(i:Inf)(P:iG.Pg)(n:Nat)(c:Md):Prop extends Gd X i P n c where
 fn:∀x,c.loc x=fL->X.fn x=fL\/X.env.scope.names.lookup x=fJ .local
 own:c.cm=fL->ao ↥2 X.A X.env X.xe
 stk:c.cm=fL->X.stack=X.env::X.outer
variable {X:Cx}{i:Inf}{P:iG.Pg}{n:Nat}{c:Md}
def Gs.nm1(g:Gs X i P n c)(h:Oh c j=fL):X.N[j]?=fJ (c.nmOf j)/\L2.Loc X.env.scope (c.nmOf j)/\(X.fn (c.nmOf j)=fL\/X.env.scope.names.lookup (c.nmOf j)=fJ .local):=by unfold Oh at h;rw[bAq,iL]at h;exact⟨Eo g.N h.1,g.loc h.2,g.fn _ h.2⟩
variable {p:iG.Pt}
def Sq(g:Gs X i P n c)(h:okP p c=fL):I0 (CL X c) p:=by
 cases p with
 |one j=>exact g.nm1 h
 |many js=>exact λj J=>g.nm1<|ý.mp h j J
 |nest j js =>have h:(Oh c j&&js.all (Oh c))=fL:=h;rw[bAq]at h;exact⟨g.nm1 h.1,λk I=>g.nm1<|ý.mp h.2 k I⟩
variable {x:Expr}
def AC(g:Gs X i P n c)(I:c.cm=fL)(h:okP p c=fL):PG X (toP p c x)<|gPt i p:=IX g.K (by rw[g.N];exact g.nd) (g.calm I) (Sq g h)
variable {tg:Expr}
def Wk(a:iG.E)(x:Expr)(I:env.scope=c.sc):μ (toX a c x) (fJ tg) l env=pure (swT c tg<|toX a c x):=by
 cases a with
 |comp Ā m p it t e =>
  cases tg with
  |Name t q =>unfold μ swT Env.blockKind Env.kindOf;rw[I];rfl
  |_=>rfl
 |_=>rfl
def Qz(p:iG.Pt)(a:iG.E)(x y:Expr)(env:Env)(h:(ZW p || !IW a)=fL):ϖ [toP p c x] (toX a c y) env=pure fK:=by
 cases p with
 |one j=>cases a<;>rfl
 |many js=>cases a<;>first|rfl|cases h
 |nest j js=>cases a<;>first|rfl|cases h
def Dk(p:iG.Pt)(x:Expr)(env:Env):(Ģ [toP p c x] env).map (·.2)=[ο (toP p c x) env]:=by cases p<;>rfl
def QZ(h:swT c tg (toX a c x)=fL):∃Ā m p it t e,a=.comp Ā m p it t e:=by
 cases a with
 |comp Ā m p it t e=>exact⟨_,_,_,_,_,_,rfl⟩
 |_=>cases h
def HF(y:iG.E){b:Expr}{í:Pos}:∀v,ο (.Subscript b (toX y c x) í) env v=(do
    let ov<-Ĵ [v] (eval b env)
    let iv<-Ĵ [v,ov] (eval (toX y c x) env)
    Ψ í
    Ĵ [v,ov,iv] (ϓ ov iv v)
    cA [v,ov,iv] []):=by
 intro v;cases y<;>rfl
def Le{op:iG.Bop}(h:GM op=fL):Cr X (O5 op)<|rAS op:=by
 cases op with
 |add =>
  intro J s σ H x y u v Q I U R q;let⟨a,b,rfl,rfl,q⟩:=q;rcases q with⟨_,q⟩|⟨z,_⟩
  .exact Pd J s σ H _ _ u v Q I U R ⟨a,b,rfl,rfl,q⟩
  .cases z
 |sub =>
  intro J s σ H x y u v Q I U R q;let⟨a,b,rfl,rfl,q⟩:=q;rcases q with⟨z,_⟩|⟨_,q⟩
  .cases z
  .exact Pc J s σ H _ _ u v Q I U R ⟨a,b,rfl,rfl,q⟩
 |_=>cases h
def FB:PGet X<|E1 X.K:=λC s σ H x y v u Q I M F h=>by
 let⟨p,xs,i,z,rfl,rfl,O,he,q⟩:=h;cases M;let⟨t,rfl⟩:=F;let⟨k,r,pl,hz⟩:=I.list O;let⟨j,J,h2,h3,h4,W⟩:=Jo he;let⟨w,U,aW⟩:=r.get h2;have hl:=r.length;have hn:=Xj;have fin:EP X C σ Q w s:=⟨z,H,I,aW,q⟩
 by_cases h0:0<=i
 .have R:i.toNat=j:=by
   rw[bV h0 W]at J;exact ë J
  exact wpAny_getItem_list pl.isList h0 ↥0 (by rw[R];simpa using U) fin
 .have R:(i+(k.toArray.size:Int)).toNat=j:=by
   rw[bj ↥0 h4]at J;rw[Î,<-hl];exact ë J
  exact fv pl.isList ↥0 (by rw[Î]<;>lia) ↥0 (by rw[R];simpa using U) fin
def DR(U:X.A.units+1<Ī):PGet X DJ:=λt s σ H x y v u Q I R J h=>by let⟨a,z,rfl,g,q⟩:=h;cases R;exact MB U I g J λw C k r=>⟨z,H,k,r,q⟩
def PGet.or{r k:R2}(h:PGet X r)(h':PGet X k):PGet X λx y H Q=>r x y H Q\/k x y H Q:=λJ s σ H o j t v Q I R U q=>by
 rcases q with q|q
 .exact h J s σ H o j t v Q I R U q
 .exact h' J s σ H o j t v Q I R U q
def Q4{G:iG.Hs}{H:Hp}{a:Í}{u w:iG.Val}{y:V}{K:Frag}{Q:VK}(g:RH i G H)(v:RV i.K H u y)(e:iG.gU G (.ref a) u=fJ w)(q:∀z,RV i.K H w z->Q z H):E1 K (.ref a) y H Q\/DJ (.ref a) y H Q:=by
 replace e:(match G a with|some (.lst xs)=>(iG.iC u).bind (iG.atI xs)|some (.dct kvs)=>if iG.f9 u then iG.gk kvs u else fK|some (.frz kvs)=>if iG.f9 u then iG.gk kvs u else fK|some (.dtp kvs)=>if iG.isKeyT u then iG.gk kvs u else fK|_=>fK)=fJ w:=e
 cases z:G a with
 |none=>rw[z]at e;cases e
 |some o =>
  rw[z]at e;cases o with
  |lst xs =>let⟨k,I,e⟩:=è.mp e;cases ZC I;let⟨F,R,J⟩:=g a _ z;let⟨t,W,O⟩:=Jy J e;exact .inl ⟨a,F,k,t,rfl,v.int_inv,iq.of R,W,q t O⟩
  |dct kvs =>let⟨I,e⟩:=Zl (show(if iG.f9 u then iG.gk kvs u else fK)=fJ w from e);let⟨ps,R,J⟩:=g a _ z;let⟨d,C,rfl⟩:=f6 I v;let⟨t,s,U⟩:=(J.look C).1 w e;exact .inr ⟨a,t,rfl,by rw[<-s];exact DGet.k R,q t U⟩
  |frz kvs =>let⟨I,e⟩:=Zl (show(if iG.f9 u then iG.gk kvs u else fK)=fJ w from e);let⟨M,ps,R,J⟩:=g a _ z;let⟨d,C,rfl⟩:=f6 I v;let⟨t,s,U⟩:=(J.look C).1 w e;exact .inr ⟨a,t,rfl,.inl ⟨ps,d,.inr ⟨M,R⟩,rfl,s.symm⟩,q t U⟩
  |dtp kvs =>let⟨I,e⟩:=Zl (show(if iG.isKeyT u then iG.gk kvs u else fK)=fJ w from e);let⟨ps,R,J⟩:=g a _ z;let⟨k1,k2,b,rfl,rfl,hb⟩:=Wj I v;let⟨t,s,U⟩:=(J.look).1 w e;exact .inr ⟨a,t,rfl,by rw[<-s];exact DGet.t R hb,q t U⟩
  |_=>cases e
def Qe(e:iG.E)(x:Expr):∀I J new,augStore (toX e c x) I J new=(do Ĵ [new,I,J] (ϓ I J new);cA [new,I,J] [];pure .next):=by intro I J new;cases e<;>rfl
def BG{Φ:iG.Fs}{a j:Expr}{ma mj:iG.E}{op:iG.Bop}{k:Int}{kk:Nat}{í db Œ:Pos}(hK:X.K=i.K)(hu:X.A.units+1<Ī)(h:GM op=fL)(ha:PE X a<|tE X i Φ ma)(hj:PE X j<|tE X i Φ mj)
  (hs:∀U s new,augStore j U s new=(do Ĵ [new,U,s] (ϓ U s new);cA [new,U,s] [];pure .next)) :
  PS X (.AugAssign (.Subscript a j db) (O5 op) (.Constant (.int k) kk Œ) í) (tSt X i Φ<|.augIdx ma mj op k) :=
 (Gz ha hj (PGet.or FB<|DR hu) Nv (Le h) (PSet.or OD<|Od hu) hs).imp λD σ H ⟨env,G,N,R,B,C,Xe,p,w,c⟩=>by
  refine one p.pre w λv G1 H1 x k1 p1 rx q=>?_;refine one p1 q λu G2 J y k2 p2 O q=>?_;let⟨t,e1,q2⟩:=fQ q;clear q;let⟨z,e2,W⟩:=fQ q2;clear q2;let⟨G3,e3,q4⟩:=fQ W;clear W;have hr:∃b,v=.ref b:=by
   cases v with
   |ref b=>exact⟨b,rfl⟩
   |_=>cases e3
  let⟨b,rfl⟩:=hr;cases rx.ref_inv;have F:∀Q:VK,(∀t',RV i.K J t t'->Q t' J)->E1 X.K (.ref b) y J Q\/DJ (.ref b) y J Q:=λQ hQ=>Q4 p2.hp O e1 hQ;refine F _ λt' rt=>?_;let⟨n1,n2,rfl,e0,I⟩:=Os e2;cases e0;cases rt.int_inv;have fin:∀m:Int,z=.int m->EG (.ref b) y (.int m) J λH6=>D.nx σ H6:=λm hm=>by subst hm;exact Et p2.hp (.ref b) O (.int m) e3 λH3 k3 g3=>c.nx env σ _ _ ((k1.trans k2).trans k3) g3 (p2.en.keep k3) q4
  rcases I with⟨M,I⟩|⟨M,I⟩
  .exact⟨n1,k,rfl,rfl,.inl ⟨M,fin _ I⟩⟩
  .exact⟨n1,k,rfl,rfl,.inr ⟨M,fin _ I⟩⟩
def Ho(t v:Expr)(p:Pos)(env:Env)(h:(∃a b q,t=.Subscript a b q)\/(∃a b q,t=.Attribute a b q)):ϖ [t] v env=pure fK:=by rcases h with⟨a,b,q,rfl⟩|⟨a,b,q,rfl⟩<;>rfl
variable {a:iG.E}{x:Expr}
def GD(h:(!EJ a)=fL):μ (toX a c x) t l env=pure fM:=by
 cases a with
 |comp Ā m p it tt e=>cases h
 |_=>rfl
def OZ(h:∀y q,tg≠.Name y q):swT c tg (toX a c x)=fM:=by
 cases a with
 |comp Ā m p it tt e =>
  cases tg with
  |Name y q=>exact iM rfl<|h y q
  |_=>rfl
 |_=>rfl
def Py(g:Gs X i P n c)(J:(ZW p||c.cm)=fL)(h:okP p c=fL):PG X (toP p c x)<|gPt i p:=by
 by_cases I:c.cm=fL
 .exact AC g I h
 .cases p with
  |one j =>let⟨k,U,R⟩:=g.nm1 h;exact US (by rw[g.N];exact g.nd) k U R
  |many js=>exact iM J I
  |nest j js=>exact iM J I
mutual
theorem sS:∀(m:iG.S) (X:Cx) (c:Md) (s:ľ),Gs X i P n c->okS m c s=fL->PS X (toS m c s) (tSt X i (iG.wF P n) m)
 |.set p a,X,c,s,g,h=>by
  refine an4 h λJ I R M=>?_;by_cases U:swT c (toP p c<|ke s 1) (toX a c<|ke s 0)=fL
  .obtain⟨Ā,k,pt,it,tt,e,rfl⟩:=QZ U;cases p with
   |one j =>let⟨q1,q2,q3⟩:=g.nm1 J;exact(Ci g.toGd I).2 _ _ _ j q1 q2 q3 (by rw[<-U];exact Wk (c:=c) (.comp Ā k pt it tt e) (ke s 0) g.sc)
   |many js=>cases U
   |nest j js=>cases U
  .have hp:PG X (toP p c<|ke s 1)<|gPt i p:=Py g M J;exact PL (eE a X c _ g.toGd I) hp (by rw[ŵ,Wk a _ g.sc,Bool.eq_false_iff.mpr U]) (Qz p a _ _ _ R)<|Dk p _ _
 |.setIdx a j e,X,c,s,g,h=>by refine an3 h λJ I R=>?_;have ha:=eE a X c _ g.toGd I;have W:=eE j X c _ g.toGd R;exact Ck g.K (eE e X c _ g.toGd J) ha W (LU ha W (PSet.or OD<|Od (by have:=g.un;lia))<|HF j) (by rw[ŵ,Wk e _ g.sc,OZ λy q z=>(by cases z)]) (Ho _ _ (ke s 1).pos _<|.inl ⟨_,_,_,rfl⟩) rfl
 |.setFront a e,X,c,s,g,h=>by refine an2 h λJ I=>?_;exact NU g.K (eE e X c _ g.toGd J) (eE a X c _ g.toGd I) (by rw[ŵ,Wk e _ g.sc,OZ λy q z=>(by cases z)])
 |.setPair a j b k e,X,c,s,g,h=>nomatch h
 |.setFld o f e,X,c,s,g,h=>by refine an3 h λJ I R=>?_;exact Bb g.K g.kl.A (g.kl.F _ J) (eE o X c _ g.toGd I) (eE e X c _ g.toGd R) (by rw[Wk e _ g.sc,OZ λy q z=>(by cases z)])
 |.augVar j op e,X,c,s,g,h=>nomatch h
 |.augFld o f op k,X,c,s,g,h=>by refine an3 h λJ I R=>?_;exact A3 g.K g.kl.A (g.kl.F _ J) (Le R)<|eE o X c _ g.toGd I
 |.expr e,X,c,s,g,h=>by refine an2 h λJ I=>?_;exact Gr (eE e X c _ g.toGd J)<|GD I
 |.ret e,X,c,s,g,h=>PD<|eE e X c _ g.toGd h
 |.retN,X,c,s,g,h=>GY
 |.ite t a b,X,c,s,g,h=>by refine an3 h λJ I R=>?_;exact PV (eT t X c _ g.toGd J).1 (sSs a X c _ g I)<|sSs b X c _ g R
 |.whl t b,X,c,s,g,h=>nomatch h
 |.for p it b,X,c,s,g,h=>by refine an4 h λJ I R M=>?_;let⟨t1,t2⟩:=Nn (c:=c) p<|ke s 0;let⟨a1,a2⟩:=eI it X c (ke s 1) (toP p c<|ke s 0) g.toGd (!ZW p) t1 t2 I;exact Px (g.own M) (g.calm M) a1 (AC g M J) (sSs b X c _ g R) a2
 |.forI fL p e b,X,c,s,g,h=>by refine an5 h λJ I R O v=>?_;refine FD (g.own v) (g.calm v) (eE e X c _ g.toGd R) (AC g v J) (sSs b X c _ g O) λ_=>?_;cases e<;>first|rfl|cases I
 |.forI fM p e b,X,c,s,g,h=>by refine an7 h λJ I R M h5 O v=>?_;let⟨es,k,q,et⟩:=(Nn (c:=c) p<|ke s 0).1 I;have hg:=AC (x:=ke s 0) g v J;show PS X (.For (toP p c<|ke s 0) _ _ _ _) _;rw[et]at hg ⊢;exact HJ (g.own v) (g.calm v) (eE e X c _ g.toGd R) hg (sSs b X c _ g O) (YA M _ _) h5 λ_=>rfl
 |.never,X,c,s,g,h=>Fx
 |.brk,X,c,s,g,h=>nomatch h
 |.cnt,X,c,s,g,h=>nomatch h
 |.pass,X,c,s,g,h=>nomatch h
 |.raise C as,X,c,s,g,h=>nomatch h
 |.try t e (.cons K nm b .nil),X,c,s,g,h=>nomatch h
 |.try t e (.cons K nm b<|.cons _ _ _ _),X,c,s,g,h=>nomatch h
 |.try t e .nil,X,c,s,g,h=>nomatch h
 |.try2 e K b L d,X,c,s,g,h=>nomatch h
 |.augIdx a j op k,X,c,s,g,h=>by refine an3 h λJ I R=>?_;exact BG g.K (by have:=g.un;lia) R (eE a X c _ g.toGd J) (eE j X c _ g.toGd I)<|Qe j _
theorem sSs:∀(ms:iG.Ss) (X:Cx) (c:Md) (xs:List ľ),Gs X i P n c->okSs ms c xs=fL->PSs X (toSs ms c xs) (tBl X i (iG.wF P n) ms)
 |.nil,X,c,xs,g,h=>Qh
 |.cons m ms,X,c,xs,g,h=>by have h:(okS m c (xs.headD dS)&&okSs ms c xs.tail)=fL:=h;rw[bAq]at h;exact Il (sS m X c _ g h.1)<|sSs ms X c _ g h.2
end
abbrev OX(N ps:List Str)(sc:Γ):Bool :=
 sc.kind == .function && !sc.isCoroutine && !sc.isGenerator&&decide N.Nodup&&(N.take ps.length==ps)&&ps.all (λx=>sc.names.lookup x==fJ .local||sc.names.lookup x==fJ .cell)&&sc.names.all λy=>y.2 != .free
variable {ps:List Str}
def Rv(h:OX N ps sc=fL):FnScope N ps sc:=by
 simp![OX,bAq,aB,iL,ý]at h;let⟨⟨⟨⟨⟨⟨z,v⟩,t⟩,s⟩,k⟩,U⟩,R⟩:=h;refine⟨eq_of_beq z,v,t,s,eq_of_beq k,λx J=>?_,λy I=>?_⟩
 .simpa using U x J
 .simpa using R y I
structure Ds where
 st:ľ
 N:List Str
 ps:List Str
 d:iG.Fn
structure Mt where
 C:String
 m:String
 qual:String
 x:Ds
structure Tb where
 fs:List<|String×Ds
 ms:List Mt
 cs:List<|String×iG.Val
 cl:List String
 fl:List String
 xs:List String
abbrev Tb.md(T:Tb)(x:Ds):Md:={N:=x.N,sc:=Zv x.st,cs:=T.cs,fs:=T.fs.map (·.1),cm:=fL,cl:=T.cl,ms:=T.ms.map λy=>(y.C,y.m),fl:=T.fl,xs:=T.xs}
abbrev Ds.test(T:Tb)(x:Ds):Bool :=
 OX x.N x.ps (Zv x.st)&&okSs x.d.body (T.md x) (ZT x.st)&&x.ps.length==x.d.ar&&x.N.length==x.d.sz&&iN (x.d.ar<=x.d.sz)
structure Ds.Ok(T:Tb)(x:Ds):Prop where
 ok:x.test T=fL
 eq:toSs x.d.body (T.md x) (ZT x.st)=ZT x.st
variable {pr:æ}{wd:û}{mg:Str->Option Ã}{base:Ĉ}{i:Inf}{P:iG.Pg}{T:Tb}
abbrev Dst(K:Frag)(mg:Str->Option Ã)(f:String)(x:Ds):Prop:=∃I fd qual,Fun K (iO f) qual x.st I fd/\mg (iO f)=fJ (.ref I)/\Binds K fd x.ps []
structure Mst(i:Inf)(mg:Str->Option Ã)(y:Mt)(a fa:Í):Prop where
 cl:mg (iO y.C)=fJ (.ref a)
 fn:∃fd,Fun i.K (iO y.m) (iO y.qual) y.x.st fa fd/\Binds i.K fd y.x.ps []
 at_:Meth i.K a (iO y.m) fa
variable {f:String}{fa:Í}{fd:ŏ}
def U8:gN pr wd i.K mg base (CX1 pr wd) 0 fa fd ps<|spF i P 0 f:=by
 refine⟨λI H Q E h=>?_,λA outer s H args us I Q E R he hb J h=>?_⟩
 .obtain⟨_,_,_,_,_,_,w,_⟩:=h;rw[iG.wF_eq]at w;exact w.elim
 .obtain⟨_,_,_,_,_,_,w,_⟩:=h;rw[iG.wF_eq]at w;exact w.elim
variable {n:Nat}
def CJ(q:iG.wF P (n+1) f vs h Q E):∃d,P f=fJ d/\vs.length=d.ar/\iG.wSs (iG.wF P n) d.body (d.env vs) h (λ_ g=>Q .non g) Q (λ_ _=>False) (λ_ _=>False) λ_ c g=>E c g:=by rw[iG.wF_eq]at q;let⟨d,e,J,I⟩:=fQ q;exact⟨d,e,J,by rw[iG.wF_eq];exact I⟩
structure Modu(mg:Str->Option Ã)(base:Ĉ)(i:Inf)(T:Tb):Prop where
 bl:∀x∈blts,mg x=fK
 cst:∀x v,T.cs.lookup x=fJ v->∃u y,mg (iO x)=fJ u/\RelV y u/\∀H,RV i.K H v y
 A:ClsA i
 F:∀f,T.fl.contains f=fL->FldOk i f
 cl:∀C a,i.cl C a->mg (iO C)=fJ (.ref a)
 mkc:∀C,T.cl.contains C=fL->∃a y f,i.ins C=fL/\i.cl C a/\Mk i.K a f/\y∈T.ms/\y.C=C/\y.m = "__init__"/\Mst i mg y a f
 fs:∀f x,(f,x)∈T.fs->Dst i.K mg f x
 ms:∀y,y∈T.ms->∃a f,Mst i mg y a f/\Cls i.K a
 xc:T.xs≠[]->∀C a,i.xc C a->XCls i.K a/\PySem.W.kitOne i.K (.ref a) (.type "ValueError")=fJ fL
 rs:T.xs≠[]->∀C,T.xs.contains C=fL->∃a,i.xc C a/\PyProof.Rows.OwnCls (iO C) a [.type "ValueError",.type "Exception",.type "BaseException",.type "object"] "ValueError.__new__" mg base
 kn:T.xs≠[]->∀T',(T.xs.contains T'||T' == "ShutError")=fL->∃D,mg (iO T')=fJ (.ref D)/\∀C a,i.xc C a->PySem.W.kitOne i.K (.ref a) (.ref D)=fJ (iG.io C T')/\PySem.W.exmOne i.K (.ref a) (.ref D)=fJ (iG.io C T')
structure Held(pr:æ)(wd:û)(mg:Str->Option Ã)(base:Ĉ)(i:Inf)(P:iG.Pg)(T:Tb)(n:Nat):Prop where
 fs:∀f x,(f,x)∈T.fs->Dfo pr wd mg base i P n f
 ms:∀y a f,y∈T.ms->Mst i mg y a f->Dfm pr wd mg base i P n (y.C ++ "." ++ y.m) f
def fn_succ{x:Ds}{nm qual:Str}(M:Modu mg base i T)(hn:Held pr wd mg base i P T n)(F:Fun i.K nm qual x.st fa fd)(hP:P f=fJ x.d)(ht:x.Ok T):gN pr wd i.K mg base (CX1 pr wd) (2*(n+1)) fa fd x.ps<|spF i P (n+1) f:=by
 let⟨ht,heq⟩:=ht;simp![Ds.test,bAq,iL]at ht;let⟨⟨⟨⟨h1,h2⟩,h3⟩,h4⟩,h5⟩:=ht;have h3:=eq_of_beq h3;have h4:=eq_of_beq h4;have S:=Rv h1;refine F.ok1 (k:=2*n+1) S (λvs H Q E h=>?_) λϩ A outer s H vs Q E hr hsp hw=>?_
 .obtain⟨args,G,Qm,Em,r,g,w,_⟩:=h;let⟨d,e,q,_⟩:=CJ w;rw[hP]at e;cases e;rw[<-r.length,q,h3]
 .obtain⟨args,G,Qm,Em,r,g,w,cn,ex⟩:=hsp;let⟨d,e,q,w⟩:=CJ w;rw[hP]at e;cases e;have gd:Gs (Nh (CX1 pr wd) pr wd i.K mg base x.N qual (Zv x.st) fa ϩ A outer s H E) i P n (T.md x) :=
   { K:=rfl,N:=rfl,sc:=rfl,nd:=S.nd,un:=(by have:=hr.un;show(A.deeper _).units+200<Ī;lia),calm:=λ_=>rfl,room:=λ_=>hr,bl:=M.bl
     dfs:=λg hg=>(by
       let⟨p,t,e⟩:=Ü.mp<|ĉ.mp hg
       subst e
       exact hn.fs p.1 p.2 t)
     cst:=M.cst
     kl:=⟨M.A,M.F,λC hC=>(by
       let⟨a,y,f,J,R,q3,q4,rfl,q6,q7⟩:=M.mkc C hC
       refine⟨a,f,J,R,q3,M.cl _ _ R,?_⟩
       have:=hn.ms y a f q4 q7
       rw[q6]at this
       rwa [show y.C ++ ".__init__" = y.C ++ "." ++ "__init__" by rw[String.append_assoc];rfl]),λC m hC=>(by
       let⟨y,t,e⟩:=Ü.mp<|ĉ.mp hC
       cases e
       let⟨a,f,J,R⟩:=M.ms y t
       refine⟨a,f,λb hb=>?_,R,J.at_,hn.ms y a f t J⟩
       have O:=M.cl _ _ hb
       rw[J.cl]at O
       cases O
       rfl)⟩
     xl:=λh=>⟨M.xc h,M.rs h,M.kn h⟩
     fn:=λ_ _=>.inl rfl
     own:=λ_=>PassesOwn.leaving
     stk:=λ_=>rfl }
  have hb:=sSs x.d.body _ _ _ gd h2;rw[heq]at hb;refine⟨_,hb,?_⟩;refine⟨x.d.env args,G,(λ_ g=>Qm .non g),Qm,(λ_ _=>False),(λ_ _=>False),(λ_ c g=>Em c g),?_,w,?_⟩
  .refine⟨?_,g,?_⟩
   .have:=REn.start (n:=x.d.sz - x.d.ar) r;unfold L2.start;have O:x.N.length - vs.length=x.d.sz - x.d.ar:=by rw[h4,<-r.length,q]
    rw[O];exact this
   .intro Â σ H0 s0 H' a cls s' I fl hx;let⟨e,c,U,ad,J,R,q3,q4,q5⟩:=hx;exact hw Â σ H0 s0 H' a cls s' I fl<|ex _ _ _ ⟨c,U,ad,J,R,q3,q4,q5⟩
  .refine⟨?_,?_,?_,?_⟩
   .intro š ū U H' k g' e W;exact cn .non U H' .non k g' .non W
   .intro v U H' y k g' rv W;exact cn v U H' y k g' rv W
   .intro _ _ _ _ _ _ _ z;exact z.elim
   .intro _ _ _ _ _ _ _ z;exact z.elim
def held_all(M:Modu mg base i T)(hP:∀f x,(f,x)∈T.fs->P f=fJ x.d)(R:∀y,y∈T.ms->P (y.C ++ "." ++ y.m)=fJ y.x.d)(ht:∀f x,(f,x)∈T.fs->x.Ok T)(J:∀y,y∈T.ms->y.x.Ok T):∀n,Held pr wd mg base i P T n:=by
 intro n;induction n with
 |zero =>
  refine⟨λf x h=>?_,λy a f I S=>?_⟩
  .obtain⟨fa,fd,qual,F,hm,hb⟩:=M.fs f x h;exact⟨fa,fd,x.ps,U8,hm,F.kp,hb⟩
  .obtain⟨fd,F,hb⟩:=S.fn;exact⟨fd,y.x.ps,U8,hb⟩
 |succ n ih =>
  refine⟨λf x h=>?_,λy a f I S=>?_⟩
  .obtain⟨fa,fd,qual,F,hm,hb⟩:=M.fs f x h;exact⟨fa,fd,x.ps,fn_succ M ih F (hP f x h)<|ht f x h,hm,F.kp,hb⟩
  .obtain⟨fd,F,hb⟩:=S.fn;exact⟨fd,y.x.ps,fn_succ M ih F (R y I)<|J y I,hb⟩
end Snd
namespace Hd
open PySem PySem.W PyProof.Rows
abbrev Jn(st:SharedT->Thread->Option (SharedT×Thread))(ok I:Thread->Bool):Nat->SharedT->Thread->Option SharedT
 |0,_,_=>fK
 |n+1,s,t=>match I t with
  |true=>fJ s
  |false=>match ok t with
   |false=>fK
   |true=>match st s t with
    |some (s',t')=>Jn st ok I n s' t'
    |none=>fK
def J0:∀{n:Nat}{s J:SharedT}{t:Thread},Jn (stepT (denote tb) p w) (stepOk I ann) through n s t=fJ J->topRun tb p w I ann n s.abs t=fJ J.abs
 |0,_,_,_,h=>by cases h
 |n+1,s,J,t,h=>by
  unfold Jn at h;unfold topRun;cases ht:through t with
  |true=>rw[ht]at h;cases h;rfl
  |false =>
   rw[ht]at h;dsimp only at h ⊢;cases hk:stepOk I ann t with
   |false=>rw[hk]at h;cases h
   |true =>
    rw[hk]at h;dsimp only at h ⊢;cases hs:stepT (denote tb) p w s t with
    |none=>rw[hs]at h;cases h
    |some r =>let⟨s2,R⟩:=r;rw[hs]at h;rw[stepT_spec hs];exact J0 h
abbrev Kf(P:Params):BT :=
 .node (boot_o_0 P) (.node (boot_o_1 P) (.node (boot_o_3 P) (.node (boot_o_7 P) .nil .nil) .nil)<|.node (boot_o_5 P) (.node (boot_o_9 P) .nil .nil) .nil)
  (.node (boot_o_2 P) (.node (boot_o_4 P) (.node (boot_o_8 P) .nil .nil) .nil)<|.node (boot_o_6 P) (.node (boot_o_10 P) .nil .nil) .nil)
def Ed(P:Params):absHeap (Kf P) 11 {}=boot_heap P:=by kernel_rfl
def A8(P:Params):((boot_heap P).isNs mainGlobals&&(Array.mk []:Array GenState).size==0,(boot_heap P).objs.size,(boot_heap P).nsMap mainGlobals "__annotations__")=(fL,11,fJ<|.ref 6):=by
 rw[show @Heap.nsMap=_ from Fast.te8920871248978507458]
 kernel_rfl
abbrev IG:=Fast.tw10156331382660048174
abbrev AR:=Fast.tw11892475500146522536
abbrev Fk:=Fast.tw14364793385576792824
abbrev okY:=Fast.tw6613529449190102663
abbrev seenY:=Fast.tw4187177175401517315
abbrev modsY:=Fast.tw5923862056798008813
abbrev runY(p:Program)(N:Nat)(w:World)(os:OsState):Option SharedT:=Jn (IG (AR Fk) p w) (okY 11<|fJ<|.ref 6) through N ⟨Kf w.params,11,{},Array.mk [],boot_drawn,boot_toks,os⟩<|topStub p
abbrev stY(p:Program)(w:World)(s:SharedT):Bool:=staticsOk (modsY p.main.body) (boot_heap w.params) s.abs.heap&&namesBound p s.abs.heap&&gensDone s.abs&&laidKept (boot_heap w.params) s.abs.heap
def left_of{p q:Program}{loose:List Str}{Xt:Shared->Bool}{α:Type}{R:Shared->α}{U:World->α}{N:Nat}(e:opening p=plainProg p.main.scope.names)(z:Nat.ble 600 N=fL)(f:∀s,fenceModules? p s=fJ s)
  (one:∀w os,(runY p N w os).map (stY p w)=fJ fL) (two:∀w os,(runY p N w os).map (λs=>seenY q loose (modsY p.main.body) Xt fL s.abs)=fJ (openGood q loose)) (three:∀w os,(runY p N w os).map (λs=>R s.abs)=fJ (U w)) :
  LeftO p q loose Xt R U N:=by
 intro w;let⟨⟨h,C,d,k,os⟩,O,M⟩:=Ï.mp<|boot_open e z f w;obtain⟨rfl,rfl,rfl,rfl⟩:h=boot_heap w.params/\C=Array.mk []/\d=boot_drawn/\k=boot_toks:=⇑M
 let⟨s,r,l1⟩:=Ï.mp<|one w os;let⟨v,I,l2⟩:=Ï.mp<|two w os;cases r.symm.trans I;let⟨v,I,l3⟩:=Ï.mp<|three w os;cases r.symm.trans I;obtain⟨z1,z2,z3⟩:_/\_/\_:=by simpa only[Τ]using A8 w.params
 unfold stY at l1;unfold runY IG AR Fk okY at r;rw[<-Fast.te10156331382660048174,<-Fast.te11892475500146522536,<-Fast.te14364793385576792824,<-Fast.te6613529449190102663]at r;unfold modsY at l1 l2;unfold seenY at l2;rw[<-Fast.te5923862056798008813]at l1 l2;rw[<-Fast.te4187177175401517315]at l2;have J:=J0 r;have F:(SharedT.mk (Kf w.params) 11 {} (Array.mk []) boot_drawn boot_toks os).abs=⟨boot_heap w.params,Array.mk [],boot_drawn,boot_toks,os⟩:=by show Shared.mk (absHeap _ _ _) _ _ _ _=_;rw[Ed]
 rw[F]at J;have t:topFrom treeTable p w N ⟨boot_heap w.params,Array.mk [],boot_drawn,boot_toks,os⟩=fJ s.abs:=by unfold topFrom;dsimp only;rw[z1,z2,z3,J];show(match staticsOk (importedModules p.main.body) (boot_heap w.params) s.abs.heap&&namesBound p s.abs.heap&&gensDone s.abs&&laidKept (boot_heap w.params) s.abs.heap with|true=>_|false=>_)=_;rw[l1]
 unfold openEnds;rw[O];show(topFrom treeTable p w N _).map _=_;rw[t];exact congrArg fJ<|Prod.ext l2 l3
end Hd
namespace Hd
open PySem PySem.W PyProof.Rows L2
abbrev KW:Nat->List Obj->Frag
 |_,[]=>[]
 |i,o::r=>match o with
  |⟨_,_,.freed,_⟩=>KW (i+1) r
  |o=>(i,o)::KW (i+1) r
abbrev ZB(g:Heap):Frag:=KW 0 g.objs.toList
def N6:∀(l:List Obj) (i a:Nat) (o:Obj),(KW i l).lookup a=fJ o->i<=a/\l[a - i]?=fJ o/\(match fJ o with|some ⟨_,_,.freed,_⟩=>fK|o=>o)=fJ o
 |[],_,_,_,h=>by cases h
 |x::r,i,a,o,h=>by
  have I:(KW (i+1) r).lookup a=fJ o->i<=a/\(x::r)[a - i]?=fJ o/\(match fJ o with|some ⟨_,_,.freed,_⟩=>fK|o=>o)=fJ o:=λq=>by let⟨s,U,R⟩:=N6 r (i+1) a o q;refine⟨by lia,?_,R⟩;rw[show a - i=(a - (i+1))+1 by lia,List.getElem?_cons_succ];exact U
  unfold KW at h;split at h
  .exact I h
  .rename_i c J;rw[ø]at h;split at h
   .rename_i e;cases h;have e:=eq_of_beq e;subst e;refine⟨Ì _,by rw[Nat.sub_self];rfl,?_⟩;split
    .rename_i z v t k;cases k;exact(J _ _ _ rfl).elim
    .rfl
   .exact I h
def O8(h:(ZB g).lookup a=fJ o):g.get? a=fJ o:=by let⟨_,I,J⟩:=N6 _ _ _ _ h;unfold Heap.get?;rw[Nat.sub_zero,Ą]at I;rw[I];exact J
abbrev Db(K:Frag)(nm:Str):Option<|FuncData×Bool×Bool:=match nsIn K mainGlobals nm with
 |some (fJ<|.ref f)=>match K.lookup f with
  |some ⟨_,_,.func fd,_⟩=>fJ ({fd with kwdefaults:=.none,doc:=.none,pyModule:=.none,annotations:=fK,code:=.none,closureTuple:=.none},codeIn K fd.code fd.qualname,keepIn K<|.ref f)
  |_=>fK
 |_=>fK
abbrev Dn(nm:Str)(st:Stmt):Option<|FuncData×Bool×Bool:=fJ (fnOf nm nm (YW st) (ZT st) (Zv st) .none .none .none .none fK .none .none,fL,fL)
def LI{K:Frag}{st:Stmt}(e:Db K nm=Dn nm st):∃fa fd,Fun K nm nm st fa fd/\nsIn K mainGlobals nm=fJ (fJ<|.ref fa):=by
 unfold Db at e;split at e
 .rename_i f hf;split at e
  .rename_i M F fd C hl;simp![Dn,į,Τ]at e;let⟨I,z,v⟩:=e;let⟨n1,n2,n3,n4,n5,n6,n7,W,O,t,s,k,U,R,J⟩:=fd;simp![fnOf,FuncData.mk.injEq]at I;obtain⟨rfl,rfl,rfl,rfl,rfl,rfl,rfl,rfl,-,-,-,-,-,-,rfl⟩:=I;exact⟨f,_,E8 hl z v,hf⟩
  .cases e
 .cases e
abbrev Lj(K:Frag)(y:Str):Bool:=match nsIn K mainGlobals y with
 |some fK=>fL
 |_=>fM
def G0{l:OpenLaw}{n k:Nat}{q:Program}{loose:List Str}{XP:(Str->Option Value)->Heap->Prop}{YP:World->Heap->Prop}{d:DefRec}{CX:World->CXT}{x:Str}
  (hn:l.most=fJ n) (R:n<=sizeLine) (t:d.params.defaults=[]) (M:gL k callerA)
  (F:∀(w:World) (mg:Str->Option Value) (fa:Addr) (h:Heap),YP w h->h.Ns mainGlobals mg->mg d.name=fJ (.ref fa)->∃(K:Frag) (sp:Sp),K.In h/\
    (∃fd:FuncData,(∀(s:Shared) (u:Value),BindsTo s fd ⟨[u],[]⟩ [(x,u)])/\∀base:Heap,K.In base->base.Ns mainGlobals mg->gN l.prog w K mg base (CX w) k fa fd [x] sp)/\
    ∀(H:Hp) (a:Addr) (ns:List Int),ns.length<=n->Ra H->iq K H a (ns.map V.int)->sp [.ref a] H (λv _=>v=.bl fL) λ_ _ _=>False)
  (z:∀(w:World) (H:Hp) (s:Shared) (e:Value) (I:Shared),CX w [] H s (λ_ _ _=>False) e I->False) :
  WalkO q loose XP YP l.row.toRowW d [] (λf vs=>PySem.call f vs):=by
 refine Att.attach_call hn t λw s₀ C mg mb fa o pm cd doc a vs ns G Y ho hd bg U bR hints hlen O=>?_;let⟨K,sp,KX,⟨fd,hb,hF⟩,J⟩:=F w mg fa _ Y G.T.g U;exact DS KX G.T.g G.T.b G.T.builtins G.T.nolimit O bR hints (Ù hlen R) M hF hb (λH hO W=>J H a ns hlen hO W) λH e I=>z w H C e I
abbrev HM(f:Value->iG.Val->Bool):List Value->List iG.Val->Bool
 |[],[]=>fL
 |u::us,x::xs=>f u x&&HM f us xs
 |_,_=>fM
abbrev IS(K:Frag):Value->Option (List Value)
 |.ref a=>match K.lookup a with
  |some ⟨.type n,_,.seq us _,_⟩=>if n == "tuple" && iN (us.size<=sizeLine)then fJ us.toList else fK
  |_=>fK
 |_=>fK
abbrev H9(K:Frag):Nat->Value->iG.Val->Bool
 |0,_,_=>fM
 |n+1,u,v=>match v with
  |.non=>(match u with|.none=>fL|_=>fM)
  |.bl b=>(match u with|.bool a=>a==b|_=>fM)
  |.int j=>(match u with|.int i _=>i==j|_=>fM)
  |.str t=>(match u with|.str s _=>Fast.sEq s (iO t)|_=>fM)
  |.tup xs=>(match IS K u with|some us=>HM (H9 K n) us xs|none=>fM)
  |_=>fM
def Dx{K:Frag}(hf:∀u v,f u v=fL->∃z,RelV z u/\∀H,Snd.RV K H v z):∀(us:List Value) (xs:List iG.Val),HM f us xs=fL->∃zs,iu zs us/\∀H,Snd.RVs K H xs zs
 |[],[],_=>⟨[],.nil,λ_=>.nil⟩
 |u::us,x::xs,h=>by rw[HM,bAq]at h;let⟨z,r,q⟩:=hf u x h.1;let⟨zs,rs,I⟩:=Dx hf us xs h.2;exact⟨z::zs,.cons r rs,λH=>.cons (q H)<|I H⟩
 |[],_::_,h=>by cases h
 |_::_,[],h=>by cases h
def DD{K:Frag}:∀(n:Nat) (u:Value) (v:iG.Val),H9 K n u v=fL->∃z,RelV z u/\∀H,Snd.RV K H v z
 |0,_,_,h=>by cases h
 |n+1,u,v,h=>by
  unfold H9 at h;cases v with
  |non =>
   dsimp only at h;split at h
   .exact⟨.non,rfl,λ_=>.non⟩
   .cases h
  |bl b =>
   dsimp only at h;split at h
   .cases eq_of_beq h;exact⟨.bl b,rfl,λ_=>.bl b⟩
   .cases h
  |int j =>
   dsimp only at h;split at h
   .cases eq_of_beq h;exact⟨.int j,⟨_,rfl⟩,λ_=>.int j⟩
   .cases h
  |str t =>
   dsimp only at h;split at h
   .cases Fast.sEq_iff.mp h;exact⟨.str<|iO t,⟨_,rfl⟩,λ_=>.str t⟩
   .cases h
  |tup xs =>
   dsimp only at h;split at h
   .rename_i us I;let⟨zs,rs,U⟩:=Dx (λu v=>DD n u v) us xs h;unfold IS at I;split at I
    .rename_i a;split at I
     .rename_i nm C R k s hl;split at I
      .rename_i J;rw[bAq,iL]at J;cases eq_of_beq J.1;cases I;exact⟨.ref a,rfl,λH=>.tup (.inr ⟨_,R,k,hl,rfl,rfl,J.2,rs⟩)<|U H⟩
      .cases I
     .cases I
    .cases I
   .cases h
  |ref a=>cases h
  |scr ns=>cases h
  |key i j=>cases h
abbrev EW(K:Frag)(p:String×iG.Val):Bool:=match nsIn K mainGlobals (iO p.1)with
 |some (fJ u)=>H9 K 4 u p.2
 |_=>fM
def JY{α β:Type}[BEq α][LawfulBEq α]{a:α}{b:β}:∀{l:List (α×β)},l.lookup a=fJ b->(a,b)∈l
 |[],h=>by cases h
 |(x,y)::r,h=>by
  rw[ø]at h;split at h
  .rename_i e;cases h;cases eq_of_beq e;exact .head _
  .exact .tail _<|JY h
def LK{K:Frag}{id:String}(X:K.In h)(hm:mg x=fJ (.ref C))(q:excIn K C J id=fL):PyProof.Rows.OwnCls x C J id mg h:=by
 constructor
 .exact hm
 have z:=q;unfold excIn at z;split at z
 next dd cd sl ho =>
  split at z
  next C1 bm k0 k1 k2 k3 n k5 em es =>
   rw[bAq,bAq,bAq,bAq,bAq]at z;let⟨⟨⟨⟨⟨z1,z2⟩,z3⟩,z4⟩,z5⟩,z6⟩:=z;have z1:=eq_of_beq z1;have z2:=eq_of_beq z2;have z6:=eq_of_beq z6;subst z1 z2;have I:cd.hasDel=fM:=by
    cases e:cd.hasDel with
    |false=>rfl
    |true=>rw[e]at z3;cases z3
   have R:sl=#[k0,k1,k2,k3,fJ<|.builtin n,k5]:=aD.mp es;have U:=nsMap_none_of_in X z5 z6;have k:=Heap.Ns.of_isNs<|isNs_of_in X z5;have s:=tail_of_in X z4;cases cd;dsimp only at em I U k;subst em I R;exact⟨bm,_,_,_,_,_,_,_,_,_,dd,k0,k1,k2,k3,k5,_,X _ _ ho,k,U,s⟩
  next=>cases z
 next=>cases z
abbrev L8(K:Frag)(f:Addr):Option<|FuncData×Bool×Bool:=match K.lookup f with
 |some ⟨_,_,.func fd,_⟩=>fJ ({fd with kwdefaults:=.none,doc:=.none,pyModule:=.none,annotations:=fK,code:=.none,closureTuple:=.none},codeIn K fd.code fd.qualname,keepIn K<|.ref f)
 |_=>fK
abbrev UL(nm qual:Str)(st:Stmt):Option<|FuncData×Bool×Bool:=fJ (fnOf nm qual (YW st) (ZT st) (Zv st) .none .none .none .none fK .none .none,fL,fL)
def Q9{K:Frag}{st:Stmt}(e:L8 K f=UL nm qual st):∃fd,Fun K nm qual st f fd:=by
 unfold L8 at e;split at e
 .rename_i M F fd C hl;simp![UL,į,Τ]at e;let⟨I,z,v⟩:=e;let⟨n1,n2,n3,n4,n5,n6,n7,W,O,t,s,k,U,R,J⟩:=fd;simp![fnOf,FuncData.mk.injEq]at I;obtain⟨rfl,rfl,rfl,rfl,rfl,rfl,rfl,rfl,-,-,-,-,-,-,rfl⟩:=I;exact⟨_,E8 hl z v⟩
 .cases e
abbrev Ke(K:Frag)(C:String):Option Addr:=match nsIn K mainGlobals (iO C)with
 |some (fJ<|.ref a)=>fJ a
 |_=>fK
variable {C:String}{a:Addr}
def Jj{K:Frag}(h:Ke K C=fJ a):nsIn K mainGlobals (iO C)=fJ (fJ<|.ref a):=by
 unfold Ke at h;split at h
 .cases h;assumption
 .cases h
structure CV where
 pg:Bool
 hd:Bool
 po:Bool
 sa:Option<|Option Value
abbrev FC(K:Frag)(a:Addr):CV:=⟨plainGet K a Str.empty,hasDictIn K a,plainOver K a,findIn K (.ref a) "__setattr__"⟩
abbrev U3:CV:=⟨fL,fL,fL,fJ<|fJ<|.builtin "object.__setattr__"⟩
def Fd{K:Frag}(h:FC K a=U3):Cls K a:=by simp![FC,U3,CV.mk.injEq]at h;exact⟨h.1,h.2.1,h.2.2.1,h.2.2.2⟩
structure MV where
 fn:Option<|FuncData×Bool×Bool
 isf:Bool
 cv:CV
abbrev EZ(K:Frag)(y:Snd.Mt):Option MV:=match Ke K y.C with
 |some a=>match findIn K (.ref a) (iO y.m)with
  |some (fJ<|.ref f)=>fJ ⟨L8 K f,isFn K<|.ref f,FC K a⟩
  |_=>fK
 |none=>fK
abbrev DE(y:Snd.Mt):Option MV:=fJ ⟨UL (iO y.m) (iO y.qual) y.x.st,fL,U3⟩
def Rr{K:Frag}(e:EZ K y=DE y):∃a f fd,nsIn K mainGlobals (iO y.C)=fJ (fJ<|.ref a)/\Fun K (iO y.m) (iO y.qual) y.x.st f fd/\Meth K a (iO y.m) f/\Cls K a:=by
 unfold EZ at e;split at e
 .rename_i a ha;split at e
  .rename_i f hf;simp![DE,į,MV.mk.injEq]at e;let⟨R,J,I⟩:=e;let⟨fd,F⟩:=Q9 R;exact⟨a,f,fd,Jj ha,F,⟨hf,J,F.kp⟩,Fd I⟩
  .cases e
 .cases e
structure QV where
 mks:Bool
 kp:Bool
 cv:CV
 fl:List<|Option<|Option Value
 ic:Option (Option Value)×Option (Option Value)×Option Bool×Option Bool
abbrev D8(K:Frag)(fl:List String)(C:String):Option QV:=match Ke K C with
 |some a=>fJ ⟨makesIn K a,keepIn K<|.ref a,FC K a,fl.map λf=>findIn K (.ref a)<|iO f,(findIn K (.ref a) "__class__",specialIn K (.builtin "object.__class__") "__get__",takesIn K<|.builtin "object.__class__",mroIn K a<|.type "object")⟩
 |none=>fK
abbrev C6(fl:List String):Option QV:=fJ ⟨fL,fL,U3,fl.map λ_=>fJ fK,(fJ<|fJ<|.builtin "object.__class__",fJ<|fJ<|.builtin "getset_descriptor.__get__",fJ fL,fJ fL)⟩
def Ll{K:Frag}(e:D8 K fl C=C6 fl):∃a,nsIn K mainGlobals (iO C)=fJ (fJ<|.ref a)/\makesIn K a=fL/\keepIn K (.ref a)=fL/\Cls K a/\(∀f∈fl,NoAttr K a<|iO f)/\Snd.IC K a:=by
 unfold D8 at e;split at e
 .rename_i a ha;simp![C6,į,QV.mk.injEq,Τ]at e;let⟨v,t,s,k,U,R,J,I⟩:=e;exact⟨a,Jj ha,v,t,Fd s,λf hf=>Ĩ.mp k f hf,⟨U,R,J,I⟩⟩
 .cases e
structure XV where
 ex:Bool
 f1:Option<|Option Value
 f2:Option<|Option Value
 f3:Option<|Option Value
 m1:Option Bool
 m2:Option Bool
 ci:Bool
 ve:Option Bool
 ks:List<|Option<|Option Bool×Option Bool
abbrev DL(K:Frag)(xs:List String)(C:String):Option XV:=match Ke K C with
 |some a=>fJ ⟨excIn K a [.type "ValueError",.type "Exception",.type "BaseException",.type "object"] "ValueError.__new__",findIn K (.ref a) "__getattribute__",findIn K (.ref a) "__getattr__",findIn K (.ref a) "__class__",mroIn K a<|.type "object",mroIn K a<|.type "BaseException",(clsIn K a).isSome,kitOne K (.ref a)<|.type "ValueError",("ShutError" :: xs).map λT=>(Ke K T).map λD=>(kitOne K (.ref a)<|.ref D,exmOne K (.ref a)<|.ref D)⟩
 |none=>fK
abbrev Ev(xs:List String)(C:String):Option XV:=fJ ⟨fL,fJ<|fJ<|.builtin "BaseException.__getattribute__",fJ fK,fJ<|fJ<|.builtin "object.__class__",fJ fL,fJ fL,fL,fJ fL,("ShutError" :: xs).map λT=>fJ (fJ<|iG.io C T,fJ<|iG.io C T)⟩
def Dc{K:Frag}(e:DL K xs C=Ev xs C):∃a,nsIn K mainGlobals (iO C)=fJ (fJ<|.ref a)/\excIn K a [.type "ValueError",.type "Exception",.type "BaseException",.type "object"] "ValueError.__new__" = fL/\XCls K a/\kitOne K (.ref a) (.type "ValueError")=fJ fL/\
  ∀T∈"ShutError" :: xs,∃D,nsIn K mainGlobals (iO T)=fJ (fJ<|.ref D)/\kitOne K (.ref a) (.ref D)=fJ (iG.io C T)/\exmOne K (.ref a) (.ref D)=fJ (iG.io C T):=by
 unfold DL at e;split at e
 .rename_i a ha;simp![Ev,į,XV.mk.injEq]at e;let⟨F,v,t,s,k,U,R,J,I⟩:=e;refine⟨a,Jj ha,F,⟨v,t,s,k,U,R⟩,J,λT hT=>?_⟩;have:=Ĩ.mp I T hT;cases z:Ke K T with
  |none=>rw[z]at this;cases this
  |some D =>rw[z]at this;simp![œ,į,Τ]at this;exact⟨D,Jj z,this.1,this.2⟩
 .cases e
structure View where
 fs:List<|Option<|FuncData×Bool×Bool
 ms:List<|Option MV
 cl:List<|Option QV
 xs:List<|Option XV
 ok:Bool
abbrev view(T:Snd.Tb)(K:Frag):View:=⟨T.fs.map λp=>Db K<|iO p.1,T.ms.map<|EZ K,T.cl.map<|D8 K T.fl,T.xs.map<|DL K T.xs,T.cs.all (EW K)&&Snd.blts.all (Lj K)⟩
abbrev due(T:Snd.Tb):View:=⟨T.fs.map λp=>Dn (iO p.1) p.2.st,T.ms.map DE,T.cl.map λ_=>C6 T.fl,T.xs.map<|Ev T.xs,fL⟩
abbrev hook(T:Snd.Tb):Hook where
 α:=View
 obs:=λs=>view T<|ZB s.heap
 val:=λ_=>due T
 says:=λ_ h=>∃g:Heap,view T (ZB g)=due T/\∀b o,g.get? b=fJ o->h.get? b=fJ o
 of:=λ_ s e=>⟨s.heap,e,λ_ _ x=>x⟩
 keeps:=λ_ _ _ ⟨g,e,k⟩ I=>⟨g,e,λb o x=>I b o<|k b o x⟩
abbrev Bd(nm qual:Str)(x:Snd.Ds):Prop:=∀(kV doc pm:Value) (an:Option Addr) (ϩ ct:Value) (us:List Value),us.length=x.ps.length->bindArgs (fnOf nm qual (YW x.st) (ZT x.st) (Zv x.st) .none kV doc pm an ϩ ct) ⟨us,[]⟩=pure (x.ps.zip us)
abbrev Gq(T:Snd.Tb):Bool:=T.cl.all λC=>T.ms.any λy=>y.C==C&&y.m == "__init__"
def law_walk{l:OpenLaw}{q:Program}{loose:List Str}{XP:(Str->Option Value)->Heap->Prop}{d:DefRec}{T:Snd.Tb}{pg:iG.Pg}{k:Nat}{xl:Snd.Ds}
  (hn:l.most=fJ 63) (hdf:d.params.defaults=[]) (hdn:d.name=iO "law") (hr:gL (2*(k+1)) callerA) (I:("law",xl)∈T.fs) (U:xl.ps=[iO "script"]) (hin:Gq T=fL)
  (tab_pg:∀f x,(f,x)∈T.fs->pg f=fJ x.d) (tab_pm:∀y,y∈T.ms->pg (y.C ++ "." ++ y.m)=fJ y.x.d) (tab_ok:∀f x,(f,x)∈T.fs->x.Ok T) (tab_om:∀y,y∈T.ms->y.x.Ok T)
  (tab_bd:∀f x,(f,x)∈T.fs->Bd (iO f) (iO f) x) (tab_bm:∀y,y∈T.ms->Bd (iO y.m) (iO y.qual) y.x)
  (ok:∀ns:List Int,ns.length<=63->iG.wF pg (k+1) "law" [.scr ns] (λ_=>fK) (λv _=>v=.bl fL) λ_ _=>False) :
  WalkO q loose XP (hook T).says l.row.toRowW d [] (λf vs=>PySem.call f vs):=by
 refine G0 (n:=63) (k:=2*(k+1)) (x:=iO "script") (CX:=λw=>CX1 l.prog w) hn ↥1 hdf hr (λw mg fa h Y G hmg=>?_) λ_ _ _ _ _ ⟨_,_,_,_,_,z⟩=>z;let⟨g,e,keep⟩:=Y;have X:(ZB g).In h:=λa o z=>keep a o<|O8 z;simp![view,due,View.mk.injEq]at e;let⟨e1,e3,e4,e5,e2⟩:=e;rw[bAq,ý,ý]at e2
 let i:Snd.Inf:=⟨ZB g,λC a=>T.cl.contains C=fL/\mg (iO C)=fJ (.ref a),λC=>T.cl.contains C,λC a=>T.xs.contains C=fL/\mg (iO C)=fJ (.ref a)⟩
 have hF:∀f x,(f,x)∈T.fs->∃fa fd,Fun (ZB g) (iO f) (iO f) x.st fa fd/\mg (iO f)=fJ (.ref fa):=λf x hx=>by let⟨fa,fd,F,z⟩:=LI<|Ĩ.mp e1 (f,x) hx;exact⟨fa,fd,F,mg_of X G z⟩
 have ce:∀C a,i.cl C a->makesIn (ZB g) a=fL/\keepIn (ZB g) (.ref a)=fL/\Cls (ZB g) a/\(∀f∈T.fl,NoAttr (ZB g) a<|iO f)/\Snd.IC (ZB g) a:=λC a ⟨hc,hm⟩=>by let⟨b,z,q⟩:=Ll<|Ĩ.mp e4 C<|ĉ.mp hc;have:=mg_of X G z;rw[hm]at this;cases this;exact q
 have O:∀y,y∈T.ms->∃a f,Snd.Mst i mg y a f/\Cls i.K a:=λy J=>by let⟨a,f,fd,z,F,M,A⟩:=Rr<|Ĩ.mp e3 y J;exact⟨a,f,⟨mg_of X G z,⟨fd,F,F.binds<|tab_bm y J⟩,M⟩,A⟩
 have R:∀C a,i.xc C a->excIn (ZB g) a [.type "ValueError",.type "Exception",.type "BaseException",.type "object"] "ValueError.__new__" = fL/\XCls (ZB g) a/\kitOne (ZB g) (.ref a) (.type "ValueError")=fJ fL/\
   ∀T'∈"ShutError" :: T.xs,∃D,nsIn (ZB g) mainGlobals (iO T')=fJ (fJ<|.ref D)/\kitOne (ZB g) (.ref a) (.ref D)=fJ (iG.io C T')/\exmOne (ZB g) (.ref a) (.ref D)=fJ (iG.io C T'):=λC a ⟨hc,hm⟩=>by
  let⟨b,z,q⟩:=Dc<|Ĩ.mp e5 C<|ĉ.mp hc;have:=mg_of X G z;rw[hm]at this;cases this;exact q
 have mod:∀base:Heap,(ZB g).In base->Snd.Modu mg base i T:=λbase Xb =>
  { bl:=λy J=>by
      have:=e2.2 y J
      unfold Lj at this
      split at this
      . rename_i z;exact mg_none_of X G z
      . cases this
    cst:=λy v hv=>by
      have:=e2.1 _<|JY hv
      unfold EW at this
      split at this
      . rename_i u z
        let⟨x,r,rv⟩:=DD 4 u v this
        exact⟨u,x,mg_of X G z,r,rv⟩
      . cases this
    A:=⟨λC a _ z=>(ce C a z).2.2.1,λC a z=>(ce C a z).2.2.2.2,λC a b z y=>by have:=z.2.symm.trans y.2;cases this;rfl⟩
    F:=λf hf=>⟨λC a z=>(ce C a z).2.2.2.1 f<|ĉ.mp hf⟩
    cl:=λC a z=>z.2
    mkc:=λC t=>by
      let⟨a,z,_⟩:=Ll<|Ĩ.mp e4 C<|ĉ.mp t
      have hi:i.cl C a:=⟨t,mg_of X G z⟩
      let⟨y,J,e⟩:=aK.mp<|ý.mp hin C<|ĉ.mp t
      rw[bAq]at e
      let⟨b,f,S,A⟩:=O y J
      have h1:=eq_of_beq e.1
      have h2:=eq_of_beq e.2
      have hb:=S.cl
      rw[h1,hi.2]at hb
      cases hb
      refine⟨a,y,f,t,hi,⟨(ce C a hi).1,?_,S.at_.fn,(ce C a hi).2.1⟩,J,h1,h2,S⟩
      have:=S.at_.at_
      rw[h2]at this
      exact this
    fs:=λf x hx=>by
      let⟨fa,fd,F,m⟩:=hF f x hx
      exact⟨fa,fd,_,F,m,F.binds<|tab_bd f x hx⟩
    ms:=O
    xc:=λ_ C a z=>⟨(R C a z).2.1,(R C a z).2.2.1⟩
    rs:=λ_ C t=>by
      let⟨a,z,q1,_⟩:=Dc<|Ĩ.mp e5 C<|ĉ.mp t
      exact⟨a,⟨t,mg_of X G z⟩,LK Xb (mg_of X G z) q1⟩
    kn:=λŸ T' hT=>by
      have W:T'∈"ShutError" :: T.xs:=by
        rcases (Bool.or_eq_true ..).mp hT with z|z
        . exact .tail _<|ĉ.mp z
        . cases eq_of_beq z;exact .head _
      let⟨C0,hC0⟩:=List.exists_mem_of_ne_nil _ Ÿ
      let⟨a0,z0,_,_,_,q0⟩:=Dc<|Ĩ.mp e5 C0 hC0
      let⟨D,zD,_⟩:=q0 T' W
      refine⟨D,mg_of X G zD,λC a z=>?_⟩
      let⟨D2,z2,k1,k2⟩:=(R C a z).2.2.2 T' W
      rw[zD]at z2
      cases z2
      exact⟨k1,k2⟩ }
 let⟨fl,fd,F,m⟩:=hF "law" xl I;have ef:=hmg.symm.trans<|hdn▸m;cases ef;refine⟨ZB g,Snd.spF i pg (k+1) "law",X,⟨fd,λs u=>?_,λbase Xb _=>?_⟩,λH a ns hl hO hS=>?_⟩
 .have B:=F.ex;let⟨oc,od,kV,dc,pm,an,ϩ,ct,sl,rfl,lk,bg⟩:=B;have:=tab_bd "law" xl I kV dc pm an ϩ ct [u] (by rw[U];rfl);rw[U]at this;exact .of_eq this
 .have M:=mod base Xb;have:=Snd.fn_succ (i:=i) (pr:=l.prog) (wd:=w) (base:=base) (mg:=mg) (P:=pg) (n:=k) M (Snd.held_all M tab_pg tab_pm tab_ok tab_om k) F (tab_pg "law" xl I)<|tab_ok "law" xl I;rw[U]at this;exact this
 .refine⟨[.scr ns],λ_=>fK,λv _=>v=.bl fL,λ_ _=>False,.cons (.scr ?_) .nil,λ_ _ e=>(by cases e),ok ns hl,?_,?_⟩
  .rcases hS with(h|⟨o,h⟩)|h
   .rcases hO a with z|⟨o,xs,z⟩
    .rw[h]at z;cases z
    .rw[h]at z;cases z
   .exact .inl ⟨o,h⟩
   .exact .inr h
  .intro v G' H' x _ _ r e;subst e;exact r.bl_inv
  .rintro cls d H' ⟨_,_,_,_,_,_,_,z⟩;exact z
end Hd
set_option maxRecDepth 20000
set_option maxHeartbeats 2000000
namespace iG
local macro_rules(kind:=Lean.Parser.Command.check)|y=>do
 let x:=y[1][1]
 let n:=x[3].toNat
 let v:=(List.range n).map λi=>s!"`a{i}"
 let e:=(List.range x[4].toNat).map λi=>if i<n then s!"`fJ `a{i} /1 Lean.Parser.Term.app/2"else"`fK"
 let j(l:List String):=s!"'[ {" ', ".intercalate l} /{2*l.length-1} '] term[_]/3"
 return zzm #[y[1][0],x[0],x[1],x[2],x[3]] s!"/0 /0 /0 /0 /0 /0 /0 Lean.Parser.Command.declModifiers/7 'theorem $0 /0 Lean.Parser.Command.declId/2 '[ /0 `Al `P /1 Lean.Parser.Term.app/2 '] Lean.Parser.Term.instBinder/4 '( `q /1 ': `B0 `P `n $2 {j e} `h `Q `X /7 Lean.Parser.Term.app/2 /2 /0 ') Lean.Parser.Term.explicitBinder/5 /2 ': `wF `P `Nat.succ `n /1 Lean.Parser.Term.app/2 $3 {j v} `h `Q `X /7 Lean.Parser.Term.app/2 Lean.Parser.Term.typeSpec/2 Lean.Parser.Command.declSig/2 ':= `Zb $1 `rfl `q /3 Lean.Parser.Term.app/2 /0 /0 Lean.Parser.Termination.suffix/2 /0 Lean.Parser.Command.declValSimple/4 Lean.Parser.Command.theorem/4 Lean.Parser.Command.declaration/2"
local macro_rules(kind:=coeNotation)|x=>if !x[1].isOfKind `num then Lean.Macro.throwUnsupported else return zzm #[x[1]] "'. `cst Lean.Parser.Term.dotIdent/2 '. `int Lean.Parser.Term.dotIdent/2 $0 /1 Lean.Parser.Term.app/2 /1 Lean.Parser.Term.app/2"
local macro_rules(kind:=coeFunNotation)|x=>if !x[1].isOfKind `num then Lean.Macro.throwUnsupported else return zzm #[x[1]] "'. `var Lean.Parser.Term.dotIdent/2 $0 /1 Lean.Parser.Term.app/2"
local macro_rules(kind:=«term#[_,]»)|x=>return x[1].getSepArgs.foldr (λa t=>zzm [a,t].toArray "'. `cons Lean.Parser.Term.dotIdent/2 $0 $1 /2 Lean.Parser.Term.app/2") (zzm [].toArray "'. `nil Lean.Parser.Term.dotIdent/2")
@[reducible] noncomputable def B0(P:Pg)(n:Nat)(d:Fn)(e:Env)(h:Hs)(Q:Q1)(X:XQ):Prop:=wSs (wF P n) d.body e h (λ_ g=>Q .non g) Q (λ_ _=>False) (λ_ _=>False) λ_ c g=>X c g
variable {n:Nat}{a0 a1 a2 a3 a4 a5 a6 a7:Val}{h:Hs}
instance V9:Fn:={ar:=1,sz:=1,body:=#[.ret<|.and (.bi (.isi ["int"]) #[⇑0])<|.not<|.bi (.isi ["bool"]) #[⇑0]]}
instance zZ:Fn:={ar:=3,sz:=3,body:=#[.ret<|.and (.call "is_whole" #[⇑0])<|.chain .le .le ⇑1 ⇑0 ⇑2]}
instance zI:Fn:={ar:=2,sz:=2,body:=#[.ite (.or (.not<|.val<|.bi (.isi ["list"]) #[⇑0])<|.not<|.val<|.bi (.isi ["list"]) #[⇑1]) #[.never] .nil,.ite (.not<|.val<|.chain .le .le ↑1 (.bi .len #[⇑0])<|.glob "MOST_BRIDGES"<|.int 10) #[.never] .nil,.ite (.val<|.cmp .gt (.bi .len #[⇑1])<|.glob "MOST_TIES"<|.int 16) #[.never] .nil,.ite (.not<|.val<|.call "are_bridges" #[⇑0]) #[.never] .nil,.ite (.not<|.val<|.bi .all #[.comp [0] 1 (.one 0) (.seq ⇑1) .yes<|.call "is_tie" #[⇑0,⇑1]]) #[.never] .nil,.ret<|.tup #[.bi .tuple #[.bi .sortedI #[⇑0]],.bi .tuple #[.comp [] 1 (.one 0) (.seq ⇑1) .yes<|.call "lesser_end_first" #[⇑0]]]]}
instance V0:Fn:={ar:=1,sz:=1,body:=#[.ite (.not<|.val<|.bi .all #[.comp [] 1 (.one 0) (.seq ⇑0) .yes<|.call "is_whole_between" #[⇑0,↑0,.glob "GREATEST_NUMBER"<|.int 999]]) #[.ret<|.cst<|.bl fM] .nil,.ret<|.cmp .eq (.bi .lenSet #[⇑0])<|.bi .len #[⇑0]]}
instance V8:Fn:={ar:=2,sz:=2,body:=#[.ite (.or (.not<|.val<|.bi (.isi ["tuple"]) #[⇑0])<|.val<|.cmp .ne (.bi .len #[⇑0]) ↑3) #[.ret<|.cst<|.bl fM] .nil,.ite (.or (.not<|.val<|.call "is_whole" #[.idx ⇑0 ↑0])<|.not<|.val<|.call "is_whole" #[.idx ⇑0 ↑1]) #[.ret<|.cst<|.bl fM] .nil,.ite (.or (.val<|.cmp .notin (.idx ⇑0 ↑0) ⇑1)<|.val<|.cmp .notin (.idx ⇑0 ↑1) ⇑1) #[.ret<|.cst<|.bl fM] .nil,.ret<|.and (.cmp .ne (.idx ⇑0 ↑0)<|.idx ⇑0 ↑1)<|.call "is_whole_between" #[.idx ⇑0 ↑2,↑1,.glob "GREATEST_COST"<|.int 1000]]}
instance zH:Fn:={ar:=1,sz:=1,body:=#[.ret<|.tup #[.bi .min2 #[.idx ⇑0 ↑0,.idx ⇑0 ↑1],.bi .max2 #[.idx ⇑0 ↑0,.idx ⇑0 ↑1],.idx ⇑0 ↑2]]}
instance zL:Fn:={ar:=2,sz:=5,body:=#[.set (.one 2)<|.lst .nil,.for (.many [3,4]) (.enum<|.idx ⇑0 ↑1) #[.ite (.val<|.cmp .isin ⇑1<|.slc ⇑4 .none<|.some ↑2) #[.expr<|.bm .append ⇑2 #[.tup #[⇑3,.call "far_end" #[⇑4,⇑1],.idx ⇑4 ↑2]]] .nil],.ret ⇑2]}
instance V5:Fn:={ar:=2,sz:=2,body:=#[.ret<|.ife (.val<|.cmp .eq (.idx ⇑0 ↑0) ⇑1) (.idx ⇑0 ↑1)<|.idx ⇑0 ↑0]}
instance zQ:Fn:={ar:=1,sz:=5,body:=#[.set (.one 1)<|.lst .nil,.for (.many [2,3]) (.enum<|.idx (.meth "Yard" "net" ⇑0 .nil) ↑1) #[.set (.one 4)<|.meth "Yard" "ends" ⇑0 #[⇑2],.ite (.val<|.cmp .eq ⇑4<|.tup #[.cst<|.str "child",.cst<|.str "parent"]) #[.expr<|.bm .append ⇑1 #[.tup #[⇑2,.idx ⇑3 ↑0,.idx ⇑3 ↑1]]] #[.ite (.val<|.cmp .eq ⇑4<|.tup #[.cst<|.str "parent",.cst<|.str "child"]) #[.expr<|.bm .append ⇑1 #[.tup #[⇑2,.idx ⇑3 ↑1,.idx ⇑3 ↑0]]] .nil]],.ret ⇑1]}
instance V7:Fn:={ar:=2,sz:=2,body:=#[.ret<|.and (.call "is_whole" #[⇑1])<|.cmp .isnot (.meth "Yard" "bridge" ⇑0 #[⇑1])<|.cst .non]}
instance zS:Fn:={ar:=2,sz:=8,body:=#[.set (.many [2,3]) ⇑1,.set (.one 4)<|.lst .nil,.for (.many [5,6,7]) (.seq ⇑0) #[.ite (.and (.val<|.cmp .ne ⇑5 ⇑3)<|.val<|.cmp .isin ⇑2<|.tup #[⇑6,⇑7]) #[.expr<|.bm .append ⇑4 #[.tup #[.ife (.val<|.cmp .eq ⇑2 ⇑6) ⇑7 ⇑6,⇑5]]] .nil],.ret ⇑4]}
instance VI:Fn:={ar:=2,sz:=3,body:=#[.setFld ⇑0 "yard" ⇑1,.setFld ⇑0 "frames_sent" ↑0,.setFld ⇑0 "line"<|.lst .nil,.setFld ⇑0 "had_by_bridge"<|.dct .nil,.for (.one 2) (.seq<|.idx (.meth "Yard" "net" ⇑1 .nil) ↑0) #[.setIdx (.fld ⇑0 "had_by_bridge") ⇑2<|.lst .nil]]}
instance VL:Fn:={ar:=2,sz:=3,body:=#[.ite (.not<|.val<|.call "is_standing" #[.fld ⇑0 "yard",⇑1]) #[.never] .nil,.set (.one 2)<|.fld ⇑0 "frames_sent",.augFld ⇑0 "frames_sent" .add 1,.expr<|.meth "Carrier" "have" ⇑0 #[⇑1,.cst .non,⇑2],.ret ⇑2]}
instance VH:Fn:={ar:=4,sz:=7,body:=#[.expr<|.bm .append (.idx (.fld ⇑0 "had_by_bridge") ⇑1) #[.tup #[⇑3,⇑2]],.for (.many [4,5]) (.seq<|.call "sent_on" #[.call "open_ways" #[.fld ⇑0 "yard"],.tup #[⇑1,⇑2]]) #[.set (.one 6)<|.tup #[.meth "Bridge" "stamp" (.meth "Yard" "bridge" (.fld ⇑0 "yard") #[⇑1]) .nil,.meth "Bridge" "stamp" (.meth "Yard" "bridge" (.fld ⇑0 "yard") #[⇑4]) .nil],.expr<|.bm .append (.fld ⇑0 "line") #[.bin .add (.tup #[⇑1,⇑4,⇑5,⇑3]) ⇑6]]]}
instance VG:Fn:={ar:=2,sz:=10,body:=#[.ite (.not<|.val<|.call "is_line_deed" #[⇑1]) #[.expr<|.meth "Yard" "deed" (.fld ⇑0 "yard") #[⇑1],.retN] .nil,.never,.never,.never,.never]}
instance VP:Fn:={ar:=1,sz:=1,body:=#[.ret<|.bi .list #[.fld ⇑0 "line"]]}
instance VF:Fn:={ar:=2,sz:=2,body:=#[.ite (.not<|.val<|.call "is_whole" #[⇑1]) #[.ret<|.lst .nil] .nil,.ret<|.bi .list #[.bm .dgetD (.fld ⇑0 "had_by_bridge") #[⇑1,.lst .nil]]]}
instance V6:Fn:={ar:=1,sz:=1,body:=#[.ite (.or (.not<|.val<|.bi (.isi ["tuple"]) #[⇑0])<|.val<|.cmp .ne (.bi .len #[⇑0]) ↑2) #[.ret<|.cst<|.bl fM] .nil,.ret<|.and (.bi (.isi ["str"]) #[.idx ⇑0 ↑0])<|.cmp .isin (.idx ⇑0 ↑0)<|.tup #[.cst<|.str "arrive",.cst<|.str "drop"]]}
instance zP:Fn:={ar:=2,sz:=2,body:=#[.ret<|.cmp .gt (.idx ⇑0<|.glob "NUMBER"<|.int 0)<|.idx ⇑1<|.glob "NUMBER"<|.int 0]}
instance V4:Fn:={ar:=2,sz:=3,body:=#[.set (.one 2)<|.comp [0] 1 (.one 0) (.seq ⇑1) (.val<|.cmp .lt (.idx ⇑0 ↑0) ⇑1) ⇑0,.ret<|.bi .minD #[⇑2]]}
instance VJ:Fn:={ar:=5,sz:=8,body:=#[.setFld ⇑0 "number" ⇑1,.setFld ⇑0 "life" ⇑2,.setFld ⇑0 "age_let_go" ⇑4,.setFld ⇑0 "ties_by_place"<|.dct .nil,.for (.many [5,6,7]) (.seq ⇑3) #[.setIdx (.fld ⇑0 "ties_by_place") ⇑5<|.tup #[⇑6,⇑7]],.setFld ⇑0 "held_by_place"<|.dct .nil,.setFld ⇑0 "label_now"<|.tup #[⇑1,↑0,.cst .non,.cst .non],.setFld ⇑0 "version" ↑0,.setFld ⇑0 "ticks_had" ↑0]}
instance VB:Fn:={ar:=1,sz:=1,body:=#[.ret<|.tup #[.fld ⇑0 "life",.fld ⇑0 "version"]]}
instance VW:Fn:={ar:=2,sz:=2,body:=#[.ret<|.bm .dget (.fld ⇑0 "held_by_place") #[⇑1]]}
instance VE:Fn:={ar:=4,sz:=4,body:=#[.ite (.val<|.cmp .notin ⇑1<|.fld ⇑0 "ties_by_place") #[.setIdx (.fld ⇑0 "ties_by_place") ⇑1<|.tup #[⇑2,⇑3]] .nil]}
instance VZ:Fn:={ar:=2,sz:=2,body:=#[.expr<|.bm .dpopD (.fld ⇑0 "ties_by_place") #[⇑1,.cst .non],.expr<|.bm .dpopD (.fld ⇑0 "held_by_place") #[⇑1,.cst .non]]}
instance VX:Fn:={ar:=3,sz:=4,body:=#[.ite (.val<|.cmp .notin ⇑1<|.fld ⇑0 "ties_by_place") #[.retN] .nil,.set (.one 3)<|.meth "Bridge" "held" ⇑0 #[⇑1],.ite (.or (.val<|.cmp .is ⇑3<|.cst .non)<|.val<|.call "newer" #[⇑2,.idx ⇑3 ↑0]) #[.setIdx (.fld ⇑0 "held_by_place") ⇑1<|.tup #[⇑2,.idx ⇑2<|.glob "AGE"<|.int 4]] .nil]}
instance VD:Fn:={ar:=1,sz:=2,body:=#[.expr<|.meth "Bridge" "let_grow_older" ⇑0 .nil,.expr<|.meth "Bridge" "take_label" ⇑0 #[.meth "Bridge" "reckon_label" ⇑0 .nil],.set (.one 1)<|.comp [0] 1 (.one 0) (.seq<|.bi .sortedI #[.fld ⇑0 "ties_by_place"]) .yes<|.tup #[⇑0,.meth "Bridge" "letter_over" ⇑1 #[⇑0]],.augFld ⇑0 "ticks_had" .add 1,.ret ⇑1]}
instance VO:Fn:={ar:=1,sz:=4,body:=#[.set (.one 1)<|.dct .nil,.forI fM (.many [2,3]) (.fld ⇑0 "held_by_place") #[.ite (.val<|.cmp .lt (.bin .add (.idx ⇑3 ↑1) ↑1)<|.fld ⇑0 "age_let_go") #[.setIdx ⇑1 ⇑2<|.tup #[.idx ⇑3 ↑0,.bin .add (.idx ⇑3 ↑1) ↑1]] .nil],.setFld ⇑0 "held_by_place" ⇑1]}
instance VA:Fn:={ar:=1,sz:=8,body:=#[.set (.one 1)<|.lst .nil,.forI fM (.many [2,3]) (.fld ⇑0 "held_by_place") #[.set (.many [4,5])<|.idx (.fld ⇑0 "ties_by_place") ⇑2,.expr<|.bm .append ⇑1 #[.tup #[.idx (.idx ⇑3 ↑0)<|.glob "ROOT"<|.int 2,.bin .add (.idx (.idx ⇑3 ↑0)<|.glob "COST"<|.int 3) ⇑5,⇑4,⇑2]]],.set (.one 6)<|.call "best_offer" #[.fld ⇑0 "number",⇑1],.ite (.val<|.cmp .is ⇑6<|.cst .non) #[.ret<|.tup #[.fld ⇑0 "number",↑0,.cst .non,.cst .non]] .nil,.set (.many [7,5,4,2]) ⇑6,.ret<|.tup #[⇑7,⇑5,⇑2,.idx (.idx (.idx (.fld ⇑0 "held_by_place") ⇑2) ↑0)<|.glob "STAMP"<|.int 1]]}
instance VC:Fn:={ar:=2,sz:=2,body:=#[.ite (.val<|.cmp .ne ⇑1<|.fld ⇑0 "label_now") #[.setFld ⇑0 "label_now" ⇑1,.augFld ⇑0 "version" .add 1] .nil]}
instance VU:Fn:={ar:=2,sz:=8,body:=#[.set (.many [2,3,4,5])<|.fld ⇑0 "label_now",.set (.one 6)<|.ife (.val<|.cmp .is ⇑4<|.cst .non) ↑0<|.bin .add (.idx (.idx (.fld ⇑0 "held_by_place") ⇑4) ↑1) ↑1,.set (.one 7)<|.tup #[.tup #[.fld ⇑0 "life",.fld ⇑0 "ticks_had"],.meth "Bridge" "stamp" ⇑0 .nil,⇑2,⇑3,⇑6],.ite (.val<|.cmp .eq ⇑1 ⇑4) #[.ret<|.bin .add ⇑7<|.tup #[⇑5,.cst .non]] .nil,.ite (.val<|.meth "Bridge" "is_rested_on" ⇑0 #[⇑1]) #[.ret<|.bin .add ⇑7<|.tup #[.cst .non,.idx (.idx (.idx (.fld ⇑0 "held_by_place") ⇑1) ↑0)<|.glob "STAMP"<|.int 1]] .nil,.ret<|.bin .add ⇑7<|.tup #[.cst .non,.cst .non]]}
instance VN:Fn:={ar:=2,sz:=3,body:=#[.set (.one 2)<|.meth "Bridge" "held" ⇑0 #[⇑1],.ret<|.and (.cmp .isnot ⇑2<|.cst .non)<|.cmp .eq (.idx (.idx ⇑2 ↑0)<|.glob "RESTS"<|.int 5)<|.meth "Bridge" "stamp" ⇑0 .nil]}
instance VM:Fn:={ar:=2,sz:=3,body:=#[.set (.one 2)<|.meth "Bridge" "held" ⇑0 #[⇑1],.ite (.or (.val<|.cmp .is ⇑2<|.cst .non)<|.val<|.cmp .ne (.idx (.idx ⇑2 ↑0)<|.glob "AGREES"<|.int 6)<|.meth "Bridge" "stamp" ⇑0 .nil) #[.ret<|.cst<|.bl fM] .nil,.ret<|.cmp .eq (.idx (.idx ⇑2 ↑0)<|.glob "STAMP"<|.int 1)<|.idx (.fld ⇑0 "label_now") ↑3]}
instance VY:Fn:={ar:=2,sz:=2,body:=#[.ite (.val<|.cmp .notin ⇑1<|.fld ⇑0 "ties_by_place") #[.ret<|.cst<|.str "down"] .nil,.ite (.val<|.cmp .eq ⇑1<|.idx (.fld ⇑0 "label_now") ↑2) #[.ret<|.ife (.val<|.meth "Bridge" "is_agreed_to" ⇑0 #[⇑1]) (.cst<|.str "child")<|.cst<|.str "shut"] .nil,.ret<|.ife (.val<|.meth "Bridge" "is_rested_on" ⇑0 #[⇑1]) (.cst<|.str "parent")<|.cst<|.str "shut"]}
instance Vu:Fn:={ar:=3,sz:=4,body:=#[.setFld ⇑0 "net_made_of" ⇑1,.setFld ⇑0 "greatest_age" ⇑2,.setFld ⇑0 "lives"<|.dct .nil,.setFld ⇑0 "standing"<|.dct .nil,.setFld ⇑0 "ties_fallen"<|.dct .nil,.setFld ⇑0 "letters_on_road"<|.lst .nil,.for (.one 3) (.seq<|.idx ⇑1 ↑0) #[.setIdx (.fld ⇑0 "lives") ⇑3 ↑0,.setIdx (.fld ⇑0 "standing") ⇑3<|.make "Bridge" #[⇑3,↑0,.call "neighbours" #[⇑1,⇑3],⇑2]]]}
instance Vl:Fn:={ar:=1,sz:=1,body:=#[.ret<|.fld ⇑0 "net_made_of"]}
instance Vp:Fn:={ar:=1,sz:=1,body:=#[.ret<|.bi .list #[.fld ⇑0 "letters_on_road"]]}
instance Vy:Fn:={ar:=1,sz:=2,body:=#[.set (.one 1)<|.comp [0] 1 (.one 0) (.seq<|.idx (.fld ⇑0 "net_made_of") ↑0) (.val<|.cmp .notin ⇑0<|.fld ⇑1 "standing") ⇑0,.ret<|.tup #[.bi .tuple #[⇑1],.bi .tuple #[.bi .sortedI #[.fld ⇑0 "ties_fallen"]]]]}
instance Vs:Fn:={ar:=1,sz:=1,body:=#[.ret<|.comp [0] 1 (.one 0) (.seq<|.bi .sortedI #[.fld ⇑0 "standing"]) .yes<|.tup #[⇑0,.meth "Bridge" "stamp" (.idx (.fld ⇑1 "standing") ⇑0) .nil]]}
instance VS:Fn:={ar:=2,sz:=2,body:=#[.ret<|.bm .dget (.fld ⇑0 "standing") #[⇑1]]}
instance Vw:Fn:={ar:=2,sz:=5,body:=#[.ite (.not<|.val<|.meth "Yard" "has_tie" ⇑0 #[⇑1]) #[.ret<|.tup #[.cst<|.str "down",.cst<|.str "down"]] .nil,.set (.many [2,3,4])<|.idx (.idx (.fld ⇑0 "net_made_of") ↑1) ⇑1,.ret<|.tup #[.meth "Yard" "end_at" ⇑0 #[⇑2,⇑1],.meth "Yard" "end_at" ⇑0 #[⇑3,⇑1]]]}
instance Vx:Fn:={ar:=3,sz:=3,body:=#[.ite (.val<|.cmp .notin ⇑1<|.fld ⇑0 "standing") #[.ret<|.cst<|.str "down"] .nil,.ret<|.meth "Bridge" "end" (.idx (.fld ⇑0 "standing") ⇑1) #[⇑2]]}
instance Vo:Fn:={ar:=2,sz:=2,body:=#[.ret<|.chain .le .lt ↑0 ⇑1<|.bi .len #[.idx (.fld ⇑0 "net_made_of") ↑1]]}
instance Vz:Fn:={ar:=2,sz:=4,body:=#[.set (.many [2,3])<|.call "read_deed" #[⇑1],.ite (.val<|.cmp .eq ⇑2<|.tup #[.cst<|.str "tick"]) #[.expr<|.meth "Yard" "tick_of" ⇑0 #[⇑3]] #[.ite (.val<|.cmp .eq ⇑2<|.tup #[.cst<|.str "come"]) #[.expr<|.meth "Yard" "come" ⇑0 #[⇑3]] #[.ite (.val<|.cmp .eq ⇑2<|.tup #[.cst<|.str "lost"]) #[.expr<|.meth "Yard" "take_off" ⇑0 #[⇑3]] #[.ite (.val<|.cmp .eq ⇑2<|.tup #[.cst<|.str "fall",.cst<|.str "bridge"]) #[.expr<|.meth "Yard" "fall_of_bridge" ⇑0 #[⇑3]] #[.ite (.val<|.cmp .eq ⇑2<|.tup #[.cst<|.str "fall",.cst<|.str "tie"]) #[.expr<|.meth "Yard" "fall_of_tie" ⇑0 #[⇑3]] #[.ite (.val<|.cmp .eq ⇑2<|.tup #[.cst<|.str "back",.cst<|.str "bridge"]) #[.expr<|.meth "Yard" "back_of_bridge" ⇑0 #[⇑3]] #[.expr<|.meth "Yard" "back_of_tie" ⇑0 #[⇑3]]]]]]]]}
instance Vv:Fn:={ar:=2,sz:=5,body:=#[.ite (.val<|.cmp .notin ⇑1<|.fld ⇑0 "standing") #[.never] .nil,.for (.many [2,3]) (.seq<|.meth "Bridge" "tick" (.idx (.fld ⇑0 "standing") ⇑1) .nil) #[.set (.one 4)<|.call "far_end" #[.idx (.idx (.fld ⇑0 "net_made_of") ↑1) ⇑2,⇑1],.expr<|.bm .append (.fld ⇑0 "letters_on_road") #[.tup #[⇑1,⇑4,⇑2,⇑3]]]]}
instance VT:Fn:={ar:=2,sz:=6,body:=#[.set (.many [2,3,4,5])<|.meth "Yard" "take_off" ⇑0 #[⇑1],.ite (.val<|.cmp .isin ⇑3<|.fld ⇑0 "standing") #[.expr<|.meth "Bridge" "hear" (.idx (.fld ⇑0 "standing") ⇑3) #[⇑4,⇑5]] .nil]}
instance Vt:Fn:={ar:=2,sz:=2,body:=#[.ite (.not<|.val<|.chain .le .lt ↑0 ⇑1<|.bi .len #[.fld ⇑0 "letters_on_road"]) #[.never] .nil,.ret<|.bm .popAt (.fld ⇑0 "letters_on_road") #[⇑1]]}
instance Vm:Fn:={ar:=2,sz:=2,body:=#[.ite (.val<|.cmp .notin ⇑1<|.fld ⇑0 "standing") #[.never] .nil,.expr<|.bm .dpop (.fld ⇑0 "standing") #[⇑1],.expr<|.meth "Yard" "set_ties_of" ⇑0 #[⇑1]]}
instance Vn:Fn:={ar:=2,sz:=2,body:=#[.ite (.or (.not<|.val<|.meth "Yard" "has_tie" ⇑0 #[⇑1])<|.val<|.cmp .isin ⇑1<|.fld ⇑0 "ties_fallen") #[.never] .nil,.setIdx (.fld ⇑0 "ties_fallen") ⇑1<|.cst<|.bl fL,.expr<|.meth "Yard" "set_tie" ⇑0 #[⇑1]]}
instance VQ:Fn:={ar:=2,sz:=2,body:=#[.ite (.or (.val<|.cmp .notin ⇑1<|.fld ⇑0 "lives")<|.val<|.cmp .isin ⇑1<|.fld ⇑0 "standing") #[.never] .nil,.augIdx (.fld ⇑0 "lives") ⇑1 .add 1,.setIdx (.fld ⇑0 "standing") ⇑1<|.make "Bridge" #[⇑1,.idx (.fld ⇑0 "lives") ⇑1,.lst .nil,.fld ⇑0 "greatest_age"],.expr<|.meth "Yard" "set_ties_of" ⇑0 #[⇑1]]}
instance VR:Fn:={ar:=2,sz:=2,body:=#[.ite (.val<|.cmp .notin ⇑1<|.fld ⇑0 "ties_fallen") #[.never] .nil,.expr<|.bm .dpop (.fld ⇑0 "ties_fallen") #[⇑1],.expr<|.meth "Yard" "set_tie" ⇑0 #[⇑1]]}
instance Vr:Fn:={ar:=2,sz:=5,body:=#[.for (.many [2,3,4]) (.seq<|.call "neighbours" #[.fld ⇑0 "net_made_of",⇑1]) #[.expr<|.meth "Yard" "set_tie" ⇑0 #[⇑2]]]}
instance Vq:Fn:={ar:=2,sz:=8,body:=#[.set (.many [2,3,4])<|.idx (.idx (.fld ⇑0 "net_made_of") ↑1) ⇑1,.set (.one 5)<|.and (.cmp .notin ⇑1<|.fld ⇑0 "ties_fallen")<|.and (.cmp .isin ⇑2<|.fld ⇑0 "standing")<|.cmp .isin ⇑3<|.fld ⇑0 "standing",.for (.many [6,7]) (.seq<|.tup #[.tup #[⇑2,⇑3],.tup #[⇑3,⇑2]]) #[.ite (.val ⇑5) #[.expr<|.meth "Bridge" "up" (.idx (.fld ⇑0 "standing") ⇑6) #[⇑1,⇑7,⇑4]] #[.ite (.val<|.cmp .isin ⇑6<|.fld ⇑0 "standing") #[.expr<|.meth "Bridge" "down" (.idx (.fld ⇑0 "standing") ⇑6) #[⇑1]] .nil]]]}
instance zR:Fn:={ar:=1,sz:=2,body:=#[.ite (.not<|.val<|.bi (.isi ["tuple"]) #[⇑0]) #[.never] .nil,.set (.one 1)<|.slc ⇑0 .none<|.some<|.neg ↑1,.ite (.or (.not<|.val<|.bi .all #[.comp [] 1 (.one 0) (.seq ⇑1) .yes<|.bi (.isi ["str"]) #[⇑0]])<|.val<|.cmp .notin ⇑1<|.glob "DEEDS"<|.tup [(.tup [(.str "tick")]),(.tup [(.str "come")]),(.tup [(.str "lost")]),(.tup [(.str "fall"),(.str "bridge")]),(.tup [(.str "fall"),(.str "tie")]),(.tup [(.str "back"),(.str "bridge")]),(.tup [(.str "back"),(.str "tie")])]) #[.never] .nil,.ite (.not<|.val<|.call "is_whole" #[.idx ⇑0<|.neg ↑1]) #[.never] .nil,.ret<|.tup #[⇑1,.idx ⇑0<|.neg ↑1]]}
instance zX:Fn:={ar:=2,sz:=2,body:=#[.ite (.val<|.cmp .lt ⇑1<|.bi .len #[⇑0]) #[.ret<|.idx ⇑0 ⇑1] .nil,.ret ↑0]}
instance zA:Fn:={ar:=1,sz:=1,body:=#[.ret<|.lst #[⇑0,.bin .mod ⇑0 ↑2147483587]]}
instance zE:Fn:={ar:=2,sz:=3,body:=#[.ite (.val<|.cmp .gt (.idx ⇑0 ↑0)<|.bin .pow ↑10 ↑18) #[.set (.one 2)<|.bin .mod (.idx ⇑0 ↑0) ⇑1,.setIdx ⇑0 ↑0<|.bin .fdiv (.idx ⇑0 ↑0) ⇑1,.ret ⇑2] .nil,.setIdx ⇑0 ↑1<|.bin .mod (.bin .add (.bin .add (.bin .mul (.idx ⇑0 ↑1)<|.idx ⇑0 ↑1)<|.bin .mul ↑69621<|.idx ⇑0 ↑1) ↑12345) ↑2147483587,.ret<|.bin .mod (.bin .fdiv (.idx ⇑0 ↑1) ↑8) ⇑1]}
instance zN:Fn:={ar:=1,sz:=9,body:=#[.set (.one 1)<|.bin .add ↑1<|.call "_law_take" #[⇑0,.idx (.lst #[↑6,↑10])<|.bi .int #[.cmp .eq (.call "_law_take" #[⇑0,↑4]) ↑0]],.set (.one 2)<|.idx (.lst #[↑1,↑3,↑10,↑90])<|.call "_law_take" #[⇑0,↑4],.set (.one 4)<|.comp [0,2] 1 (.one 0) (.range ⇑1) .yes<|.bin .fdiv (.bin .mul ⇑2<|.bin .add (.bin .mul ↑2 ⇑0)<|.call "_law_take" #[⇑1,↑2]) ↑2,.set (.one 4)<|.bi .sortedSet #[⇑4],.set (.one 5)<|.lst .nil,.for (.one 3) (.range2 ↑1<|.bi .len #[⇑4]) #[.ite (.val<|.cmp .gt (.call "_law_take" #[⇑0,↑6]) ↑0) #[.expr<|.bm .append ⇑5 #[.tup #[.idx ⇑4<|.call "_law_take" #[⇑0,⇑3],.idx ⇑4 ⇑3,.bin .add ↑1<|.call "_law_take" #[⇑0,↑3]]]] .nil],.for (.one 3) (.range<|.call "_law_take" #[⇑0,↑9]) #[.set (.one 6)<|.idx ⇑4<|.call "_law_take" #[⇑0,.bi .len #[⇑4]],.set (.one 7)<|.idx ⇑4<|.call "_law_take" #[⇑0,.bi .len #[⇑4]],.set (.one 8)<|.idx (.lst #[↑1,↑1,↑2,.bin .add ↑1<|.call "_law_take" #[⇑0,↑4],.bin .add ↑1<|.call "_law_take" #[⇑0,↑1000]])<|.call "_law_take" #[⇑0,↑5],.ite (.and (.val<|.cmp .ne ⇑6 ⇑7)<|.val<|.cmp .lt (.bi .len #[⇑5]) ↑16) #[.expr<|.bm .append ⇑5 #[.tup #[⇑6,⇑7,⇑8]]] .nil],.ret<|.call "make_net" #[⇑4,.pick ⇑5 .none .none<|.idx (.lst #[↑1,.neg ↑1])<|.call "_law_take" #[⇑0,↑2]]]}
instance zF:Fn:={ar:=3,sz:=5,body:=#[.set (.one 3)<|.call "_law_take" #[⇑0,.bi .max2 #[↑1,.bi .len #[.idx ⇑1 ↑1]]],.set (.one 4)<|.idx (.idx ⇑1 ↑0)<|.call "_law_take" #[⇑0,.bi .len #[.idx ⇑1 ↑0]],.ite (.and (.val<|.cmp .eq (.call "_law_take" #[⇑0,↑2]) ↑0)<|.val<|.cmp .ne (.idx ⇑1 ↑1)<|.tup .nil) #[.ret<|.tup #[.idx (.lst #[.cst<|.str "fall",.cst<|.str "back"])<|.bi .int #[.cmp .isin ⇑3<|.idx ⇑2 ↑1],.cst<|.str "tie",⇑3]] .nil,.ret<|.tup #[.idx (.lst #[.cst<|.str "fall",.cst<|.str "back"])<|.bi .int #[.cmp .isin ⇑4<|.idx ⇑2 ↑0],.cst<|.str "bridge",⇑4]]}
instance zW:Fn:={ar:=3,sz:=8,body:=#[.set (.one 3)<|.bi .len #[.meth "Yard" "road" ⇑1 .nil],.set (.one 4)<|.meth "Yard" "down" ⇑1 .nil,.set (.one 5)<|.comp [4] 1 (.one 0) (.seq<|.idx ⇑2 ↑0) (.val<|.cmp .notin ⇑0<|.idx ⇑1 ↑0) ⇑0,.set (.one 6)<|.call "_law_take" #[⇑0,↑14],.ite (.or (.val<|.cmp .eq ⇑6 ↑13)<|.val<|.cmp .eqE ⇑5<|.lst .nil) #[.ret<|.call "_law_turned" #[⇑0,⇑2,⇑4]] .nil,.ite (.or (.val<|.cmp .lt ⇑6 ↑5)<|.val<|.cmp .eq ⇑3 ↑0) #[.ret<|.tup #[.cst<|.str "tick",.idx ⇑5<|.call "_law_take" #[⇑0,.bi .len #[⇑5]]]] .nil,.set (.one 7)<|.idx (.lst #[↑0,↑0,.bin .sub ⇑3 ↑1,.call "_law_take" #[⇑0,⇑3]])<|.call "_law_take" #[⇑0,↑4],.ret<|.idx (.lst #[.tup #[.cst<|.str "come",⇑7],.tup #[.cst<|.str "lost",⇑7]])<|.bi .int #[.cmp .eq ⇑6 ↑12]]}
instance zU:Fn:={ar:=3,sz:=6,body:=#[.set (.one 3)<|.idx (.meth "Yard" "down" ⇑0 .nil) ↑0,.for (.one 4) (.seq<|.idx ⇑1 ↑0) #[.ite (.val<|.cmp .notin ⇑4 ⇑3) #[.expr<|.meth2 "Carrier" "Yard" "deed" ⇑2 #[.tup #[.cst<|.str "tick",⇑4]]] .nil],.for (.one 5) (.seq<|.meth "Yard" "road" ⇑0 .nil) #[.expr<|.meth2 "Carrier" "Yard" "deed" ⇑2 #[.tup #[.cst<|.str "come",↑0]]]]}
instance zM:Fn:={ar:=4,sz:=5,body:=#[.ite (.val<|.cmp .eq (.call "_law_take" #[⇑0,↑3]) ↑0) #[.for (.one 4) (.range<|.bin .add ↑1<|.call "_law_take" #[⇑0,↑3]) #[.expr<|.call "_law_round" #[⇑1,⇑2,⇑3]],.retN] .nil,.for (.one 4) (.range<|.bin .add ↑1<|.call "_law_take" #[⇑0,↑4]) #[.expr<|.meth2 "Carrier" "Yard" "deed" ⇑3 #[.call "_law_drawn" #[⇑0,⇑1,⇑2]]]]}
instance zO:Fn:={ar:=2,sz:=5,body:=#[.set (.one 2)<|.bi .dict #[.comp [] 1 (.one 0) (.seq<|.idx ⇑1 ↑0) .yes<|.tup #[⇑0,.lst .nil]],.for (.many [3,4]) (.enum<|.idx ⇑1 ↑1) #[.ite (.val<|.cmp .isin (.meth "Yard" "ends" ⇑0 #[⇑3])<|.tup #[.tup #[.cst<|.str "child",.cst<|.str "parent"],.tup #[.cst<|.str "parent",.cst<|.str "child"]]) #[.expr<|.bm .append (.idx ⇑2<|.idx ⇑4 ↑0) #[.tup #[⇑3,.idx ⇑4 ↑1]],.expr<|.bm .append (.idx ⇑2<|.idx ⇑4 ↑1) #[.tup #[⇑3,.idx ⇑4 ↑0]]] .nil],.ret ⇑2]}
instance zK:Fn:={ar:=1,sz:=1,body:=#[.ret<|.dct #[.cst<|.str "line",.lst .nil,.cst<|.str "many",↑0,.cst<|.str "had",.bi .dict #[.comp [] 1 (.one 0) (.seq<|.idx ⇑0 ↑0) .yes<|.tup #[⇑0,.lst .nil]],.cst<|.str "held",.lst .nil]]}
instance zJ:Fn:={ar:=6,sz:=9,body:=#[.expr<|.bm .append (.idx (.idx ⇑0<|.cst<|.str "had") ⇑3) #[.tup #[⇑4,⇑5]],.set (.one 6)<|.bi .dict #[.meth "Yard" "stamps" ⇑1 .nil],.for (.many [7,8]) (.seq<|.idx (.call "_law_open" #[⇑1,⇑2]) ⇑3) #[.ite (.val<|.cmp .ne ⇑7 ⇑5) #[.expr<|.bm .append (.idx ⇑0<|.cst<|.str "line") #[.tup #[⇑3,⇑8,⇑7,⇑4,.idx ⇑6 ⇑3,.idx ⇑6 ⇑8]]] .nil]]}
instance zB:Fn:={ar:=5,sz:=7,body:=#[.set (.one 5)<|.idx ⇑0<|.cst<|.str "many",.setIdx ⇑0 (.cst<|.str "many")<|.bin .add ⇑5 ↑1,.set (.one 6)<|.meth "Carrier" "send" ⇑3 #[⇑4],.ite (.or (.val<|.bi (.isi ["bool"]) #[⇑6])<|.val<|.cmp .ne ⇑6 ⇑5) #[.ret<|.cst<|.bl fM] .nil,.expr<|.call "_law_has" #[⇑0,⇑1,⇑2,⇑4,⇑5,.cst .non],.ret<|.cst<|.bl fL]}
instance zC:Fn:={ar:=3,sz:=7,body:=#[.set (.one 3)<|.meth "Carrier" "under_way" ⇑2 .nil,.set (.one 4)<|.comp [2] 1 (.one 0) (.seq<|.idx ⇑1 ↑0) .yes<|.meth "Carrier" "came" ⇑1 #[⇑0],.set (.one 5)<|.comp [0] 1 (.one 0) (.seq<|.idx ⇑1 ↑0) .yes<|.idx (.idx ⇑1<|.cst<|.str "had") ⇑0,.ite (.or (.not<|.val<|.bi (.isi ["list"]) #[⇑3])<|.or (.val<|.cmp .ne ⇑3<|.idx ⇑0<|.cst<|.str "line")<|.val<|.cmp .ne ⇑4 ⇑5) #[.ret<|.cst<|.bl fM] .nil,.set (.one 6)<|.bin .mod (.bi .len #[.idx ⇑0<|.cst<|.str "held"])<|.bi .len #[.idx ⇑1 ↑0],.expr<|.bm .append (.idx ⇑0<|.cst<|.str "held") #[.lst #[.meth "Carrier" "came" ⇑2 #[.idx (.idx ⇑1 ↑0) ⇑6],.bi .list #[.idx ⇑5 ⇑6]]],.expr<|.bm .append (.idx ⇑0<|.cst<|.str "held") #[.lst #[.meth "Carrier" "under_way" ⇑2 .nil,.bi .list #[⇑3]]],.expr<|.bm .append ⇑3 #[.cst .non],.expr<|.bm .append (.idx ⇑4 ⇑6) #[.tup #[↑0,↑0]],.setFront (.idx ⇑4 ⇑6)<|.lst #[.tup #[↑0,↑0]],.ite (.val<|.cmp .neE (.comp [] 1 (.one 0) (.seq<|.idx ⇑0<|.cst<|.str "held") (.or (.not<|.val<|.bi (.isi ["list"]) #[.idx ⇑0 ↑0])<|.val<|.cmp .ne (.idx ⇑0 ↑0)<|.idx ⇑0 ↑1) ⇑0)<|.lst .nil) #[.ret<|.cst<|.bl fM] .nil,.ret<|.and (.cmp .eq (.comp [2] 1 (.one 0) (.seq<|.idx ⇑1 ↑0) .yes<|.meth "Carrier" "came" ⇑1 #[⇑0]) ⇑5)<|.cmp .eq (.meth "Carrier" "under_way" ⇑2 .nil)<|.slc ⇑3 .none<|.some<|.neg ↑1]}
instance zG:Fn:={ar:=3,sz:=4,body:=#[.for (.one 3) (.range ↑4) #[.expr<|.call "_law_round" #[⇑1,⇑2,⇑1]],.for (.one 3) (.range<|.call "_law_take" #[⇑0,↑4]) #[.expr<|.meth "Yard" "deed" ⇑1 #[.call "_law_drawn" #[⇑0,⇑1,⇑2]]]]}
instance zY:Fn:={ar:=1,sz:=13,body:=#[.set (.one 1)<|.call "_law_row" #[.call "_law_cell_at" #[⇑0,↑0]],.set (.one 2)<|.call "_law_net" #[⇑1],.set (.one 3)<|.bin .add ↑4<|.call "_law_take" #[⇑1,↑57],.set (.one 4)<|.lst #[.make "Yard" #[⇑2,⇑3],.make "Yard" #[⇑2,⇑3]],.ite (.val<|.cmp .eq (.call "_law_take" #[⇑1,↑2]) ↑1) #[.expr<|.call "_law_worked" #[⇑1,.idx ⇑4 ↑0,⇑2]] .nil,.set (.one 5)<|.lst #[.make "Carrier" #[.idx ⇑4 ↑0],.make "Carrier" #[.idx ⇑4 ↑1]],.set (.one 6)<|.lst #[.call "_law_model" #[⇑2],.call "_law_model" #[⇑2]],.for (.many [7,8]) (.enumL<|.bin .add (.lst #[.call "_law_cell_at" #[⇑0,↑0]])<|.slc ⇑0 (.some ↑1)<|.some ↑41) #[.set (.one 1)<|.call "_law_row" #[⇑8],.set (.one 9)<|.bi .int #[.cmp .eq (.call "_law_take" #[⇑1,↑4]) ↑1],.set (.one 10)<|.comp [] 2 (.many [0,1]) (.seq<|.meth "Yard" "stamps" (.idx ⇑4 ⇑9) .nil) .yes ⇑0,.for (.one 11) (.range<|.bin .mul (.call "_law_take" #[⇑1,↑3])<|.bi .int #[.cmp .neE ⇑10<|.lst .nil]) #[.ite (.not<|.val<|.call "_law_sent" #[.idx ⇑6 ⇑9,.idx ⇑4 ⇑9,⇑2,.idx ⇑5 ⇑9,.idx ⇑10<|.call "_law_take" #[⇑1,.bi .len #[⇑10]]]) #[.ret<|.cst<|.bl fM] .nil],.ite (.or (.not<|.val<|.call "_law_stands" #[.idx ⇑6 ↑0,⇑2,.idx ⇑5 ↑0])<|.not<|.val<|.call "_law_stands" #[.idx ⇑6 ↑1,⇑2,.idx ⇑5 ↑1]) #[.ret<|.cst<|.bl fM] .nil,.ite (.val<|.cmp .lt ⇑7 ↑4) #[.expr<|.call "_law_round" #[.idx ⇑4 ⇑9,⇑2,.idx ⇑5 ⇑9]] .nil,.expr<|.call "_law_moved" #[⇑1,.idx ⇑4 ⇑9,⇑2,.idx ⇑5 ⇑9]],.for (.one 12) (.seq<|.lst #[.cst .non,.cst<|.bl fL,.cst<|.bl fM,.cst<|.str "0",.lst #[.idx (.idx ⇑2 ↑0) ↑0],.dct .nil,.tup #[.idx (.idx ⇑2 ↑0) ↑0],.neg ↑1,.bin .add (.idx (.idx ⇑2 ↑0)<|.neg ↑1) ↑1,.tup #[.lst .nil]]) #[.ite (.val<|.cmp .neE (.meth "Carrier" "came" (.idx ⇑5 ↑0) #[⇑12])<|.lst .nil) #[.ret<|.cst<|.bl fM] .nil],.ret<|.and (.call "_law_stands" #[.idx ⇑6 ↑0,⇑2,.idx ⇑5 ↑0])<|.call "_law_stands" #[.idx ⇑6 ↑1,⇑2,.idx ⇑5 ↑1]]}
class Al(P:Pg):Prop where
 c0:P "is_whole" = fJ V9
 c1:P "is_whole_between" = fJ zZ
 c2:P "make_net" = fJ zI
 c3:P "are_bridges" = fJ V0
 c4:P "is_tie" = fJ V8
 c5:P "lesser_end_first" = fJ zH
 c6:P "neighbours" = fJ zL
 c7:P "far_end" = fJ V5
 c8:P "open_ways" = fJ zQ
 c9:P "is_standing" = fJ V7
 c10:P "sent_on" = fJ zS
 c11:P "Carrier.__init__" = fJ VI
 c12:P "Carrier.send" = fJ VL
 c13:P "Carrier.have" = fJ VH
 c14:P "Carrier.deed" = fJ VG
 c15:P "Carrier.under_way" = fJ VP
 c16:P "Carrier.came" = fJ VF
 c17:P "is_line_deed" = fJ V6
 c18:P "newer" = fJ zP
 c19:P "best_offer" = fJ V4
 c20:P "Bridge.__init__" = fJ VJ
 c21:P "Bridge.stamp" = fJ VB
 c22:P "Bridge.held" = fJ VW
 c23:P "Bridge.up" = fJ VE
 c24:P "Bridge.down" = fJ VZ
 c25:P "Bridge.hear" = fJ VX
 c26:P "Bridge.tick" = fJ VD
 c27:P "Bridge.let_grow_older" = fJ VO
 c28:P "Bridge.reckon_label" = fJ VA
 c29:P "Bridge.take_label" = fJ VC
 c30:P "Bridge.letter_over" = fJ VU
 c31:P "Bridge.is_rested_on" = fJ VN
 c32:P "Bridge.is_agreed_to" = fJ VM
 c33:P "Bridge.end" = fJ VY
 c34:P "Yard.__init__" = fJ Vu
 c35:P "Yard.net" = fJ Vl
 c36:P "Yard.road" = fJ Vp
 c37:P "Yard.down" = fJ Vy
 c38:P "Yard.stamps" = fJ Vs
 c39:P "Yard.bridge" = fJ VS
 c40:P "Yard.ends" = fJ Vw
 c41:P "Yard.end_at" = fJ Vx
 c42:P "Yard.has_tie" = fJ Vo
 c43:P "Yard.deed" = fJ Vz
 c44:P "Yard.tick_of" = fJ Vv
 c45:P "Yard.come" = fJ VT
 c46:P "Yard.take_off" = fJ Vt
 c47:P "Yard.fall_of_bridge" = fJ Vm
 c48:P "Yard.fall_of_tie" = fJ Vn
 c49:P "Yard.back_of_bridge" = fJ VQ
 c50:P "Yard.back_of_tie" = fJ VR
 c51:P "Yard.set_ties_of" = fJ Vr
 c52:P "Yard.set_tie" = fJ Vq
 c53:P "read_deed" = fJ zR
 c54:P "_law_cell_at" = fJ zX
 c55:P "_law_row" = fJ zA
 c56:P "_law_take" = fJ zE
 c57:P "_law_net" = fJ zN
 c58:P "_law_turned" = fJ zF
 c59:P "_law_drawn" = fJ zW
 c60:P "_law_round" = fJ zU
 c61:P "_law_moved" = fJ zM
 c62:P "_law_open" = fJ zO
 c63:P "_law_model" = fJ zK
 c64:P "_law_has" = fJ zJ
 c65:P "_law_sent" = fJ zB
 c66:P "_law_stands" = fJ zC
 c67:P "_law_worked" = fJ zG
 c68:P "law" = fJ zY
#check Yo Al.c0 V9 "is_whole" 1 1
#check Wb Al.c1 zZ "is_whole_between" 3 3
#check Uc Al.c2 zI "make_net" 2 2
#check KR Al.c3 V0 "are_bridges" 1 1
#check Dp Al.c4 V8 "is_tie" 2 2
#check X5 Al.c5 zH "lesser_end_first" 1 1
#check MN Al.c6 zL "neighbours" 2 5
#check A5 Al.c7 V5 "far_end" 2 2
#check NT Al.c8 zQ "open_ways" 1 5
#check KF Al.c9 V7 "is_standing" 2 2
#check A1 Al.c10 zS "sent_on" 2 8
#check Kv Al.c11 VI "Carrier.__init__" 2 3
#check JP Al.c12 VL "Carrier.send" 2 3
#check Kg Al.c13 VH "Carrier.have" 4 7
#check JT Al.c14 VG "Carrier.deed" 2 10
#check XJ Al.c15 VP "Carrier.under_way" 1 1
#check Yp Al.c16 VF "Carrier.came" 2 2
#check JB Al.c17 V6 "is_line_deed" 1 1
#check HU Al.c18 zP "newer" 2 2
#check Ny Al.c19 V4 "best_offer" 2 3
#check KM Al.c20 VJ "Bridge.__init__" 5 8
#check JD Al.c21 VB "Bridge.stamp" 1 1
#check KQ Al.c22 VW "Bridge.held" 2 2
#check Ox Al.c23 VE "Bridge.up" 4 4
#check KK Al.c24 VZ "Bridge.down" 2 2
#check KI Al.c25 VX "Bridge.hear" 3 4
#check KO Al.c26 VD "Bridge.tick" 1 2
#check YF Al.c27 VO "Bridge.let_grow_older" 1 4
#check Y6 Al.c28 VA "Bridge.reckon_label" 1 8
#check XI Al.c29 VC "Bridge.take_label" 2 2
#check Xn Al.c30 VU "Bridge.letter_over" 2 8
#check Y5 Al.c31 VN "Bridge.is_rested_on" 2 3
#check Y4 Al.c32 VM "Bridge.is_agreed_to" 2 3
#check ML Al.c33 VY "Bridge.end" 2 2
#check OO Al.c34 Vu "Yard.__init__" 3 4
#check Uo Al.c35 Vl "Yard.net" 1 1
#check NC Al.c36 Vp "Yard.road" 1 1
#check ON Al.c37 Vy "Yard.down" 1 2
#check KE Al.c38 Vs "Yard.stamps" 1 1
#check XR Al.c39 VS "Yard.bridge" 2 2
#check OT Al.c40 Vw "Yard.ends" 2 5
#check KJ Al.c41 Vx "Yard.end_at" 3 3
#check Xm Al.c42 Vo "Yard.has_tie" 2 2
#check Op Al.c43 Vz "Yard.deed" 2 4
#check J8 Al.c44 Vv "Yard.tick_of" 2 5
#check W3 Al.c45 VT "Yard.come" 2 6
#check Jd Al.c46 Vt "Yard.take_off" 2 2
#check Xa Al.c47 Vm "Yard.fall_of_bridge" 2 2
#check XZ Al.c48 Vn "Yard.fall_of_tie" 2 2
#check Xf Al.c49 VQ "Yard.back_of_bridge" 2 2
#check Wg Al.c50 VR "Yard.back_of_tie" 2 2
#check Wa Al.c51 Vr "Yard.set_ties_of" 2 5
#check J9 Al.c52 Vq "Yard.set_tie" 2 8
#check Oj Al.c53 zR "read_deed" 1 2
#check KP Al.c54 zX "_law_cell_at" 2 2
#check AT Al.c55 zA "_law_row" 1 1
#check UP Al.c56 zE "_law_take" 2 3
#check B9 Al.c57 zN "_law_net" 1 9
#check MZ Al.c58 zF "_law_turned" 3 5
#check OH Al.c59 zW "_law_drawn" 3 8
#check Oo Al.c60 zU "_law_round" 3 6
#check NL Al.c61 zM "_law_moved" 4 5
#check O4 Al.c62 zO "_law_open" 2 5
#check NI Al.c63 zK "_law_model" 1 1
#check Bf Al.c64 zJ "_law_has" 6 9
#check UB Al.c65 zB "_law_sent" 5 7
#check MG Al.c66 zC "_law_stands" 3 7
#check MQ Al.c67 zG "_law_worked" 3 4
#check Rh Al.c68 zY "law" 1 13
local macro_rules(kind:=Lean.Parser.Tactic.fail)|_x=>return zzm [].toArray "#r #w ;"
local macro_rules(kind:=Lean.Parser.Tactic.«tacticExists_,,»)|x=>return zzm [x[1][0]].toArray "#r #w 'refine $0 '? '_ Lean.Parser.Term.syntheticHole/2 /1 Lean.Parser.Term.app/2 refine/2 ;"
local macro_rules(kind:=Lean.Parser.Tactic.refine')|x=>return zzm [x[1]].toArray "#r #w 'refine $0 refine/2 ;"
local macro_rules(kind:=«term#[_,]»)|x=>return x[1].getSepArgs.foldr (λa t=>zzm [a,t].toArray "'. `cons Lean.Parser.Term.dotIdent/2 $0 $1 /2 Lean.Parser.Term.app/2") (zzm [].toArray "'. `nil Lean.Parser.Term.dotIdent/2")
section
variable {α:Type}(val:α->Val)
abbrev Zg(kvs:List<|Int×α):List<|Val×Val:=kvs.map λp=>(.int p.1,val p.2)
abbrev ZD(kvs:List<|Int×α)(k:Int)(v:α):List<|Int×α:=if(kvs.lookup k).isSome then kvs.map (λp=>if p.1=k then(k,v)else p)else kvs++[(k,v)]
abbrev Zx(kvs:List<|Int×α)(k:Int):List<|Int×α:=kvs.filter λp=>iN (p.1≠k)
variable {val}
def Ju(a b:Int):(Val.int a==Val.int b)=iN (a=b):=by
 by_cases e:a=b
 .subst e;simp
 .rw[iJ e];exact beq_eq_false_iff_ne.mpr λz=>e (by injection z)
def Zz(kvs:List<|Int×α)(k:Int):gk (Zg val kvs) (.int k)=(kvs.lookup k).map val:=by
 induction kvs with
 |nil=>rfl
 |cons p r ih =>
  unfold gk Zg at ih ⊢;rw[Ò,Ğ,ø,Ju];by_cases e:p.1=k
  .have:(k==p.1)=fL:=by simp[e]
   simp[e]
  .have I:(k==p.1)=fM:=by simpa using λz=>e z.symm
   rw[iJ e,I];exact ih
def Xh(kvs:List<|Int×α)(k:Int):gm (Zg val kvs) (.int k)=(kvs.lookup k).isSome:=by
 induction kvs with
 |nil=>rfl
 |cons p r ih =>
  unfold gm Zg at ih ⊢;rw[Ò,Ħ,ø,Ju];by_cases e:p.1=k
  .simp[e]
  .have I:(k==p.1)=fM:=by simpa using λz=>e z.symm
   rw[iJ e,I];exact ih
def ZP(kvs:List<|Int×α)(k:Int)(v:α):gp (Zg val kvs) (.int k) (val v)=Zg val (ZD kvs k v):=by
 unfold gp ZD;rw[Xh];split
 .unfold Zg;rw[õ,õ];refine ĩ λp _=>?_;simp![cu,Ju];by_cases e:p.1=k
  .simp[e]
  .simp[e]
 .unfold Zg;rw[Ö];rfl
def WF(kvs:List<|Int×α)(k:Int):gq (Zg val kvs) (.int k)=Zg val (Zx kvs k):=by
 unfold gq Zx Zg;induction kvs with
 |nil=>rfl
 |cons p r ih =>rw[Ò,đ,đ,Ju,ih];by_cases e:p.1=k<;>simp[e]
def WC(ns:List Int):fT (ns.map Val.int)=fJ ns:=by
 induction ns with
 |nil=>rfl
 |cons n ns ih=>show(fT<|ns.map Val.int).map _=_;rw[ih];rfl
def ES(kvs:List<|Int×α):keysOf (Zg val kvs)=fJ (kvs.map (·.1)):=by unfold keysOf Zg;rw[õ];exact(congrArg fT (õ (f:=λp:Int×α=>p.1) (g:=Val.int) (l:=kvs)).symm).trans (WC _)
def Kk(kvs:List<|Int×α):(Zg val kvs).length=kvs.length:=by unfold Zg;rw[Á]
variable {kvs:List (Int×α)}
def Zt(h:kvs.lookup k=fJ v):(k,v)∈kvs:=by
 induction kvs with
 |nil=>cases h
 |cons p r ih =>
  rw[ø]at h;by_cases e:k=p.1
  .have:(k==p.1)=fL:=by simp[e]
   rw[this]at h;cases h;rw[e];exact ð
  .have:(k==p.1)=fM:=⇑e
   rw[this]at h;exact Ý _<|ih h
def ZN(h:k∈kvs.map (·.1)):∃v,kvs.lookup k=fJ v:=by
 induction kvs with
 |nil=>cases h
 |cons p r ih =>
  rw[ø];by_cases e:k=p.1
  .have:(k==p.1)=fL:=by simp[e]
   rw[this];exact⟨_,rfl⟩
  .have:(k==p.1)=fM:=⇑e
   rw[this];rw[Ò,Å]at h;exact ih<|h.resolve_left e
def XG(h:kvs.lookup k=fK):k∉kvs.map (·.1):=λm=>by let⟨v,e⟩:=ZN m;rw[h]at e;cases e
def ZQ(nd:(kvs.map (·.1)).Nodup)(h:(k,v)∈kvs):kvs.lookup k=fJ v:=by
 induction kvs with
 |nil=>cases h
 |cons p r ih =>
  rw[Ò,ā]at nd;rw[ø];rcases Å.mp h with e|h
  .subst e;simp
  .have:k≠p.1:=λz=>nd.1 (z▸ñ (f:=(·.1)) h);have:(k==p.1)=fM:=⇑this
   rw[this];exact ih nd.2 h
def Kc(kvs:List<|Int×α)(k:Int)(v:α):(ZD kvs k v).map (·.1)=if(kvs.lookup k).isSome then kvs.map (·.1)else kvs.map (·.1)++[k]:=by
 unfold ZD;split
 .rw[õ];refine ĩ λp _=>?_;simp![cu];by_cases e:p.1=k<;>simp[e]
 .rw[Ö];rfl
def YK(v:α)(h:k∉kvs.map (·.1)):ZD kvs k v=kvs++[(k,v)]:=by
 unfold ZD;have:kvs.lookup k=fK:=by
  cases e:kvs.lookup k with
  |none=>rfl
  |some w=>exact iM (ñ (f:=(·.1))<|Zt e) h
 rw[this];rfl
def WR(nd:(kvs.map (·.1)).Nodup)(k:Int)(v:α):((ZD kvs k v).map (·.1)).Nodup:=by
 rw[Kc];split
 .exact nd
 .rename_i h;have h:kvs.lookup k=fK:=aE.mp h;rw[ã];refine⟨nd,by simp,λa ha b hb=>?_⟩;rw[Ó.mp hb];exact λe=>XG h<|e▸ha
variable {p:Int×α}
def Jx(h:p∈ZD kvs k v):p=(k,v)\/p∈kvs:=by
 unfold ZD at h;split at h
 .obtain⟨q,I,e⟩:=Ü.mp h;split at e
  .exact .inl e.symm
  .exact .inr<|e▸I
 .rcases Ë.mp h with h|h
  .exact .inr h
  .exact .inl<|Ó.mp h
def Ou(kvs:List<|Int×α)(k:Int):(Zx kvs k).Sublist kvs:=ŧ
def YZ(nd:(kvs.map (·.1)).Nodup)(k:Int):((Zx kvs k).map (·.1)).Nodup:=nd.sublist ((Ou kvs k).map _)
def F8(h:p∈Zx kvs k):p.1≠k:=by unfold Zx at h;have:=(Đ.mp h).2;simpa using this
end
def Yb:∀{m:Nat}{ns:List Int},ns.Nodup->(∀x∈ns,0<=x/\x<m)->ns.length<=m
 |0,ns,nd,h=>by
  cases ns with
  |nil=>exact Ì _
  |cons x xs=>have:=h x ð;lia
 |m+1,ns,nd,h=>by
  by_cases hm:(m:Int)∈ns
  .have:=Yb (m:=m) (nd.erase (m:Int)) λx I=>by
    have J:=(nd.mem_erase_iff).mp I;have R:=h x J.2;have:=J.1;lia
   rw[b6 hm]at this;lia
  .have:=Yb (m:=m) nd λx I=>by
    have R:=h x I;have:x≠(m:Int):=λe=>hm<|e▸I;lia
   lia
noncomputable abbrev Pi:=Int×Int
noncomputable abbrev pV(p:Pi):Val:=.tup [.int p.1,.int p.2]
abbrev oV:Option Pi->Val
 |none=>.non
 |some p=>pV p
structure L where
 num:Pi
 st:Pi
 root:Int
 cost:Int
 age:Int
 rests:Option Pi
 agrees:Option Pi
noncomputable abbrev L.v(l:L):Val:=.tup [pV l.num,pV l.st,.int l.root,.int l.cost,.int l.age,oV l.rests,oV l.agrees]
noncomputable abbrev BM(t:Int×Int):Val:=.tup [.int t.1,.int t.2]
noncomputable abbrev hdV(t:L×Int):Val:=.tup [t.1.v,.int t.2]
structure Lab where
 root:Int
 cost:Int
 up:Option<|Int×Pi
 deriving DecidableEq
abbrev upV:Option (Int×Pi)->Val
 |none=>.non
 |some p=>.int p.1
abbrev rsV:Option (Int×Pi)->Val
 |none=>.non
 |some p=>pV p.2
noncomputable abbrev Lab.v(l:Lab):Val:=.tup [.int l.root,.int l.cost,upV l.up,rsV l.up]
structure Br where
 number:Int
 life:Int
 most:Int
 ties:List<|Int×(Int×Int)
 held:List<|Int×(L×Int)
 label:Lab
 version:Int
 count:Int
structure fW(h:Hs)(b t d:Ad)(B:Br):Prop where
 ins:h b=fJ (.ins "Bridge" [("number",.int B.number),("life",.int B.life),("age_let_go",.int B.most),("ties_by_place",.ref t),("held_by_place",.ref d),("label_now",B.label.v),("version",.int B.version),("ticks_had",.int B.count)])
 ties:h t=fJ (.dct<|Zg BM B.ties)
 held:h d=fJ (.dct<|Zg hdV B.held)
 ne:t≠d
variable {h:Hs}{b:Ad}{o:Ob}
def Ep(ha:h a=fJ o)(hb:h b=fJ u)(ne:o≠u):a≠b:=λe=>by subst e;rw[ha]at hb;exact ne (ë hb)
def fW.nbt(x:fW h b t d B):b≠t:=Ep x.ins x.ties nofun
def fW.nbd(x:fW h b t d B):b≠d:=Ep x.ins x.held nofun
structure Ex(S:List Ad)(h g:Hs):Prop where
 get:∀{a:Ad}{o:Ob},a∉S->h a=fJ o->g a=fJ o
def Ex.refl{S:List Ad}:Ex S h h:=⟨λ_ e=>e⟩
variable {g:Hs}
def Ex.trans{S:List Ad}(e:Ex S h g)(f:Ex S g k):Ex S h k:=⟨λn x=>f.get n<|e.get n x⟩
def Ex.of{S:List Ad}(e:Ext h g):Ex S h g:=⟨λ_ x=>e.get x⟩
def Ex.upd{S:List Ad}(m:w∈S):Ex S h<|upd h w o:=⟨λ{a _} n x=>by rw[fN λe:a=w=>n<|by rw[e];exact m];exact x⟩
def Ex.sub{S:List Ad}(e:Ex S h g)(m:∀a∈S,a∈T):Ex T h g:=⟨λn x=>e.get (λz=>n<|m _ z) x⟩
variable {p:Ad}
def Ex.none(e:Ex [b] h g)(hb:g b≠fK)(hp:g p=fK):h p=fK:=by
 cases z:h p with
 |none=>rfl
 |some o =>
  by_cases I:p=b
  .subst I;exact iM hp hb
  .rw[e.get ⇑I z]at hp;cases hp
def Ex.ofB{S:List Ad}(e:ExtB w h g)(m:w∈S):Ex S h g:=⟨λn x=>e.get (λz=>n<|z▸m) x⟩
def fW.keep{S:List Ad}(x:fW h b t d B)(e:Ex S h g)(hb:b∉S)(ht:t∉S)(hd:d∉S):fW g b t d B:=⟨e.get hb x.ins,e.get ht x.ties,e.get hd x.held,x.ne⟩
def fW.ext(x:fW h b t d B)(e:Ext h g):fW g b t d B:=⟨e.get x.ins,e.get x.ties,e.get x.held,x.ne⟩
def nw(q:∀p,h p=fK->Q (.ref p) (upd h p o)):new h o Q:=Yv q
abbrev YE(most:Int)(held:List<|Int×(L×Int)):List<|Int×(L×Int):=held.filterMap λp=>if p.2.2+1<most then fJ (p.1,(p.2.1,p.2.2+1))else fK
variable {most:Int}
def BY{held:List (Int×(L×Int))}{p:Int×(L×Int)}(h:p∈YE most held):∃a,(p.1,(p.2.1,a))∈held:=by
 let⟨q,I,e⟩:=ů.mp h;split at e
 .cases e;exact⟨_,I⟩
 .cases e
def Ku(most:Int)(held:List<|Int×(L×Int)):((YE most held).map (·.1)).Sublist (held.map (·.1)):=by
 unfold YE;induction held with
 |nil=>exact Ũ _
 |cons p r ih =>
  rw[ï];split
  .exact ih.cons _
  .rename_i q e;split at e
   .cases e;exact ih.cons₂ _
   .cases e
def Bh(most:Int)(held:List<|Int×(L×Int)):(YE most held).length<=held.length:=Ū _ _
def Ye{α β:Type}{f:α->β}:∀{xs:List α}{i:Nat}{q:α},(xs.map f).Nodup->xs[i]?=fJ q->f q∉(xs.take i).map f
 |[],_,_,_,h=>by simp at h
 |x::xs,0,_,_,_=>by simp
 |x::xs,i+1,q,nd,h=>by
  rw[Ò,ā]at nd;have h:xs[i]?=fJ q:=⇑h
  rw[ϫ,Ò,Å,not_or];exact⟨λe=>nd.1<|e▸ñ (é h),Ye nd.2 h⟩
variable {α:Type}{xs:List α}{i:Nat}{x:α}
def Zn(h:xs[i]?=fJ x):xs.take (i+1)=xs.take i++[x]:=by rw[ŝ,h];rfl
def ZI{v:Val}(h:(xs.map f)[i]?=fJ v):∃x,xs[i]?=fJ x/\v=f x:=by rw[Ø]at h;let⟨x,J,I⟩:=Ï.mp h;exact⟨x,J,I.symm⟩
variable {kvs:List (Int×α)}
def NN(h:((Zg val kvs).map<|itemOf fM)[i]?=fJ v):∃p,kvs[i]?=fJ p/\v=.tup [.int p.1,val p.2]:=by let⟨q,I,rfl⟩:=ZI h;unfold Zg at I;rw[Ø]at I;let⟨x,J,rfl⟩:=Ï.mp I;exact⟨x,J,rfl⟩
def Lq(kvs:List<|Int×α):((Zg val kvs).map<|itemOf fM).length=kvs.length:=by rw[Á,Kk]
variable {P:Pg}[Al P]{n:Nat}{h:Hs}{b t d st a f:Ad}{S B:Br}{c:Int}{all:List (Int×Int)}{ps:List Int}{Q:Q1}{X:XQ}
def Yl(x:fW h b t d B)(k:Q (pV (B.life,B.version)) h):wF P (n+1) "Bridge.stamp" [.ref b] h Q X:=by let⟨hi,ht,hd,I⟩:=x;refine JD ?_;refine' k
abbrev hdO:Option (L×Int)->Val
 |none=>.non
 |some p=>hdV p
def MR{p:Int}(x:fW h b t d B)(k:Q (hdO<|B.held.lookup p) h):wF P (n+1) "Bridge.held" [.ref b,.int p] h Q X:=by
 let⟨hi,ht,hd,I⟩:=x;refine KQ ?_
 exists Ug (v:=.int p) hd rfl
 rw[Zz];cases e:B.held.lookup p with
 |none=>rw[e]at k;exact k
 |some q=>rw[e]at k;exact k
def Hu(x:fW h b t d B)(nd:(B.held.map (·.1)).Nodup)(hl:B.held.length<1000)(k:∀d' g,h d'=fK->fW g b t d' {B with held:=YE B.most B.held}->Ex [b] h g->Q .non g):wF P (n+1) "Bridge.let_grow_older" [.ref b] h Q X:=by
 let⟨hi,ht,hd,W⟩:=id x;refine YF ?_;fail;intro p hp;have J:=Za hd hp;have C:=Za hi hp;have s:=Za ht hp;have nbd:=x.nbd;refine' Zh (λi e g=>Sm2 λu v=>Cj4 (e=[fJ<|.ref b,fJ<|.ref p,u,v]) (g p=fJ (.dct<|Zg hdV<|YE B.most<|B.held.take i)) (g d=fJ (.frz<|Zg hdV B.held))<|Ex [d] h g) ⟨fK,fK,rfl,by rw[fN J.symm];exact fO,fO,?_⟩ ?_ ?_ ?_
 .exact⟨λm e=>by rw[fN λz=>m<|by simp[z],fN<|Za e hp];exact e⟩
 .rintro i e g fg ⟨u,v,rfl,U,R,I⟩;exact R
 .rintro i v e g hv ⟨u,w,rfl,U,R,I⟩ K hK;let⟨q,hq,rfl⟩:=NN hv;have F:=I.get ⇑nbd hi;let⟨pl,l,a⟩:=q;have e1:YE B.most (B.held.take<|i+1)=YE B.most (B.held.take i)++YE B.most [(pl,(l,a))]:=by
   unfold YE;rw[Zn hq,List.filterMap_append]
  refine' ig (λM=>?_) (λM=>?_)
  .refine' Yh (k:=.int pl) U ⟨rfl,?_⟩ ?_
   .rw[Kk];have h5:=Bh B.most<|B.held.take i;have h6:(B.held.take i).length<=B.held.length:=Ϡ _ _;exact Ð (Ù h5 h6) (Ť hl<|by decide)
   fail;rw[show Val.tup [l.v,.int<|a+1]=hdV (l,a+1) from rfl,ZP];refine hK _ _ ⟨_,_,rfl,?_,?_,?_⟩
   .rw[fO,e1,YK]
    .unfold YE;rw[ï,iH M];rfl
    .exact λm=>Ye nd hq<|(Ku _ _).subset m
   .rw[fN J];exact R
   .exact⟨λm e=>by rw[fN<|Za e hp];exact I.get m e⟩
  .refine' hK _ _ ⟨_,_,rfl,?_,R,I⟩;rw[U,e1];unfold YE;rw[ï,iI M];simp
 .rintro e g ⟨u,v,rfl,U,R,I⟩;have F:=I.get ⇑nbd hi;rw[Lq,ù]at U;refine⟨R,?_⟩;refine' k p _ hp ⟨fO,?_,?_,s⟩ ?_
  .rw[fN x.nbt.symm,fN W];exact I.get ⇑W ht
  .rw[fN C.symm,fN J.symm];exact U
  .refine⟨λ{c o} m e=>?_⟩;rw[fN<|by simpa using m];by_cases O:c=d
   .subst O;rw[fO,<-e];exact hd.symm
   .rw[fN O];exact I.get ⇑O e
def FQ(x:α)(xs:List α):atI (x::xs) 0=fJ x:=by unfold atI ixN;rw[iH ↥1,iH<|by simp];rfl
abbrev Wm(r:List Int):Val:=.tup<|r.map .int
def D0(Ĥ:List<|List Int):rowsOf (Ĥ.map Wm)=fJ Ĥ:=by
 induction Ĥ with
 |nil=>rfl
 |cons r rs ih =>show(fT<|r.map .int).bind (λns=>(rowsOf<|rs.map Wm).map (ns :: ·))=_;rw[WC,ih];rfl
abbrev YM(number:Int)(I:List<|List Int):Option<|List Int:=match I.filter (λr=>iN (r.headD 0<number))with
 |[]=>fK
 |x::r=>fJ<|minR x r
abbrev Ip:Option (List Int)->Val
 |none=>.non
 |some r=>Wm r
def OG:∀(r:List<|List Int) (x:List Int),minR x r∈x::r
 |[],x=>ð
 |y::r,x=>by
  show minR (if gR y x then y else x) r∈x::y::r;have h:=OG r (if gR y x then y else x);rcases Å.mp h with e|h
  .rw[e];split
   .simp
   .simp
  .simp[h]
variable {number:Int}
def Oz(h:YM number Ĥ=fJ m):m∈Ĥ:=by
 unfold YM at h;split at h
 .cases h
 .rename_i x r e;cases h;have:minR x r∈Ĥ.filter (λr=>iN (r.headD 0<number)):=by rw[e];exact OG r x
  exact(Đ.mp this).1
variable {l:Ad}
def He(hl:h l=fJ (.lst<|Ĥ.map Wm))(h0:∀r∈Ĥ,r≠[])(hn:Ĥ.length<1000)(k:∀g,Ext h g->Q (Ip<|YM number Ĥ) g):wF P (n+1) "best_offer" [.int number,.ref l] h Q X:=by
 refine Ny ?_;refine' ⟨by rw[Á];exact Ť hn ↥1,?_⟩;refine YG (λv=>match v with|.tup (.int i::xs)=>if i<number then fJ v else fK|_=>fK) (lsE hl) ?_ ?_
 .intro v z K J;let⟨r,s,rfl⟩:=Ü.mp z;cases r with
  |nil=>exact iM rfl<|h0 _ s
  |cons i xs =>
   have J:K (if i<number then fJ (Wm<|i::xs)else fK) h:=J;rw[show Wm (i::xs)=.tup (.int i::xs.map .int) from rfl]at J ⊢
   exists fS (FQ _ _)
   refine' ig (λI=>?_) (λI=>?_)
   .rw[iH I]at J;refine' J
   .rw[iI I]at J;exact J
 .refine Yv λp hp=>?_;fail;have C:(Ĥ.map Wm).filterMap (λv=>match v with|.tup (.int i::xs)=>if i<number then fJ v else fK|_=>fK)=(Ĥ.filter λr=>iN (r.headD 0<number)).map Wm:=by
   clear hl k hn;induction Ĥ with
   |nil=>rfl
   |cons r rs R =>
    have R:=R λr s=>h0 r<|Ý _ s;cases r with
    |nil=>exact iM rfl<|h0 _ ð
    |cons i xs =>
     rw[Ò,ï,đ];by_cases I:i<number
     .simp only[Wm,Ò,iH I,List.headD_cons,I,decide_true,if_true]at R ⊢;rw[R]
     .simp only[Wm,Ò,iI I,List.headD_cons,I,decide_false,ĕ,if_false]at R ⊢;rw[R]
  rw[C];have U:Ext h<|upd h p<|.lst<|(Ĥ.filter λr=>iN (r.headD 0<number)).map Wm:=Ext.new hp;cases e2:Ĥ.filter λr=>iN (r.headD 0<number)with
  |nil =>rw[e2]at U;refine P9 fO ?_;have:=k _ U;unfold YM at this;rw[e2]at this;exact this
  |cons x r =>rw[e2]at U;refine HE fO (D0<|x::r) ?_;have:=k _ U;unfold YM at this;rw[e2]at this;exact this
abbrev N1(ties:List<|Int×(Int×Int))(p:Int):Int×Int:=(ties.lookup p).getD (0,0)
abbrev M9(ties:List<|Int×(Int×Int))(q:Int×(L×Int)):List Int:=[q.2.1.root,q.2.1.cost+(N1 ties q.1).2,(N1 ties q.1).1,q.1]
abbrev Np(ties:List<|Int×(Int×Int))(held:List<|Int×(L×Int)):List<|List Int:=held.map<|M9 ties
abbrev GA(held:List<|Int×(L×Int))(p:Int):Pi:=((held.lookup p).map (·.1.st)).getD (0,0)
abbrev Yz(B:Br):Lab:=match YM B.number (Np B.ties B.held)with
 |none=>⟨B.number,0,fK⟩
 |some m=>⟨m.getD 0 0,m.getD 1 0,fJ (m.getD 3 0,GA B.held<|m.getD 3 0)⟩
def Pp{p:Int}(h:(ties.lookup p).isSome=fL):ties.lookup p=fJ (N1 ties p):=by
 unfold N1;cases e:ties.lookup p with
 |none=>rw[e]at h;cases h
 |some v=>rfl
def Bv(x:fW h b t d B)(sub:∀q∈B.held,(B.ties.lookup q.1).isSome=fL)(hn:B.held.length<1000)(k:∀g,Ext h g->Q (Yz B).v g):wF P (n+2) "Bridge.reckon_label" [.ref b] h Q X:=by
 let⟨hi,ht,hd,Ÿ⟩:=id x;refine Y6 ?_;refine' Yv λp hp=>?_;have J:=Za hd hp;have npb:=Za hi hp;have npt:=Za ht hp;have nbd:=x.nbd;refine' Zh (λi e g=>Sm4 λu v w z=>Cj4 (e=[fJ<|.ref b,fJ<|.ref p,u,v,w,z,fK,fK]) (g p=fJ (.lst<|(Np B.ties<|B.held.take i).map Wm)) (g d=fJ (.frz<|Zg hdV B.held))<|Ex [d] h g) ⟨fK,fK,fK,fK,rfl,by rw[fN J.symm];exact fO,fO,?_⟩ ?_ ?_ ?_
 .exact⟨λm e=>by rw[fN λz=>m<|by simp[z],fN<|Za e hp];exact e⟩
 .rintro i e g fg ⟨u,v,w,z,rfl,F,s,I⟩;exact s
 .rintro i v e g hv ⟨u,v,w,z,rfl,F,s,I⟩ K hK;let⟨q,M,rfl⟩:=NN hv;have R:=I.get ⇑nbd hi;have W:=I.get ⇑Ÿ ht;have hs:=Pp<|sub q<|é M;let⟨pl,l,a⟩:=q;generalize O:N1 B.ties pl=tt at hs;let⟨nb,c⟩:=tt;refine' Zk W rfl (by rw[Zz,hs];rfl) ?_;refine' Zj F ?_ ?_
  .rw[Á];unfold Np;rw[Á];exact Ð (Ϡ _ _) (Ť hn<|by decide)
  dsimp only;refine' hK _ _ ⟨_,_,_,_,rfl,?_,?_,?_⟩
  .rw[fO,Zn M];unfold Np M9;rw[Ö,Ö,Ò,O];rfl
  .rw[fN J];exact s
  .exact⟨λm e=>by rw[fN<|Za e hp];exact I.get m e⟩
 .rintro e g ⟨u,v,w,z,rfl,F,s,I⟩;have R:=I.get ⇑nbd hi;have fg:upd g d (.dct<|Zg hdV B.held) b=_:=upd_ne' nbd R;rw[Lq,ù]at F;have C:upd g d (.dct<|Zg hdV B.held) p=_:=upd_ne' J.symm F;have hx:Ext h<|upd g d<|.dct<|Zg hdV B.held:=⟨λ{c o} e=>by
    by_cases bg:c=d
    . subst bg;rw[fO,<-e];exact hd.symm
    . rw[fN bg];exact I.get ⇑bg e⟩
  have df:upd g d (.dct<|Zg hdV B.held) d=_:=fO;refine⟨s,?_⟩;generalize upd g d (.dct<|Zg hdV B.held)=g2 at fg C hx df ⊢;refine' He C ?_ ?_ λg3 I=>?_
  .intro r hr;unfold Np at hr;let⟨q,_,rfl⟩:=Ü.mp hr;unfold M9;simp
  .unfold Np;rw[Á];exact hn
  have hi3:=I.get fg;have hd3:=I.get df;have kk:=k g3<|hx.trans I;unfold Yz at kk;fail;cases e:YM B.number (Np B.ties B.held)with
  |none =>rw[e]at kk;simp![Ip];refine ig (λU=>?_) λU=>iM trivial U;refine' kk
  |some m =>rw[e]at kk;have hm:=Oz e;unfold Np at hm;let⟨q,M,rfl⟩:=Ü.mp hm;refine ig (λU=>(by simp[Ip,Wm]at U)) λU=>?_;have hlk:∃y,B.held.lookup q.1=fJ y:=ZN (ñ (f:=(·.1)) M);let⟨y,hy⟩:=hlk;unfold M9 at kk ⊢;simp![Ip,Wm,Ò,ň];refine' Zk hd3 rfl (by rw[Zz,hy];rfl) ?_;fail;unfold GA at kk;simp![List.getD_cons_succ,List.getD_cons_zero]at kk;rw[hy]at kk;exact kk
abbrev F3(l:Lab):D:=.tup [.int l.root,.int l.cost,(match l.up with|none=>.non|some p=>.int p.1),(match l.up with|none=>.non|some p=>.tup [.int p.2.1,.int p.2.2])]
def AH(h:Hs)(l:Lab):dat h deep l.v=fJ (F3 l):=by let⟨r,c,u⟩:=l;cases u<;>rfl
def Qf(h:Hs)(l m:Lab):eqV h l.v m.v=fJ (iN (l=m)):=by
 unfold eqV;rw[AH,AH];show fJ (D.eqv (F3 l)<|F3 m)=_;congr 1;let⟨r,c,u⟩:=l;let⟨U,k,R⟩:=m;unfold F3;cases u with
 |none=>cases R with
  |none=>simp![D.eqv,D.eqvs,ϋ];by_cases J:r=U<;>by_cases I:c=k<;>simp[J,I]
  |some q=>simp[D.eqv,D.eqvs]
 |some p=>cases R with
  |none=>simp[D.eqv,D.eqvs]
  |some q =>let⟨M,p2,F⟩:=p;let⟨C,z,s⟩:=q;simp![D.eqv,D.eqvs,ϋ];by_cases J:r=U<;>by_cases I:c=k<;>by_cases h3:M=C<;>by_cases W:p2=z<;>by_cases O:F=s<;>simp[J,I,h3,W,O]
abbrev taken(B:Br)(l:Lab):Br:=if l=B.label then B else {B with label:=l,version:=B.version+1}
variable {u:Val}{KB:Bool->Prop}
def W4{v:Val}{c:Bool}(e:eqV h v u=fJ c)(q:KB (!c)):go (f8 h .ne v u) KB:=fR (by show(eqV h v u).map _=_;rw[e];rfl) q
def W7{v:Val}{c:Bool}(e:eqV h v u=fJ c)(q:KB c):go (f8 h .eq v u) KB:=fR e q
def F5{l:Lab}(x:fW h b t d B)(k:∀g,fW g b t d (taken B l)->Ex [b] h g->Q .non g):wF P (n+1) "Bridge.take_label" [.ref b,l.v] h Q X:=by
 let⟨hi,ht,hd,J⟩:=id x;refine XI ?_
 exists W4 (Qf h l B.label)
 fail;unfold taken at k;refine NA (λI=>?_) λI=>?_
 .rw[iI I]at k;refine' Ym fO (show(8:Nat)<900 by decide) ?_;refine' k _ ⟨?_,?_,?_,J⟩ ?_
  .rw[fP,fO];rfl
  .rw[fN x.nbt.symm,fN x.nbt.symm];exact ht
  .rw[fN x.nbd.symm,fN x.nbd.symm];exact hd
  .exact(Ex.upd<|by simp).trans (Ex.upd<|by simp)
 .rw[iH I]at k;refine' k h x Ex.refl
def SD(h:Hs)(r:Option Pi)(s:Pi):eqV h (oV r) (pV s)=fJ (iN (r=fJ s)):=by
 let⟨s1,s2⟩:=s;cases r with
 |none =>show fJ (D.eqv .non<|.tup [.int s1,.int s2])=_;simp[D.eqv]
 |some p =>let⟨I,p2⟩:=p;show fJ (D.eqv (.tup [.int I,.int p2])<|.tup [.int s1,.int s2])=_;congr 1;simp![D.eqv,D.eqvs,ϋ];by_cases R:I=s1<;>by_cases J:p2=s2<;>simp[R,J]
abbrev JQ(B:Br)(p:Int):Bool:=match B.held.lookup p with
 |none=>fM
 |some q=>iN (q.1.rests=fJ (B.life,B.version))
def Mx{p:Int}(x:fW h b t d B)(k:Q (.bl<|JQ B p) h):wF P (n+2) "Bridge.is_rested_on" [.ref b,.int p] h Q X:=by
 let⟨hi,ht,hd,J⟩:=id x;refine Y5 ?_
 exists MR x
 unfold JQ at k;fail;cases e:B.held.lookup p with
 |none =>rw[e]at k;refine NA (λI=>iM rfl I) λI=>?_;exact k
 |some q =>
  rw[e]at k;let⟨l,a⟩:=q;refine NA (λI=>?_) (λI=>by simp[hdO]at I);simp![hdO]
  exists Yl x
  refine W7 (SD h _ _) ?_;exact k
abbrev Hx(u:Option<|Int×Pi)(p:Int):Bool:=match u with
 |none=>fM
 |some q=>iN (p=q.1)
abbrev JM(B:Br):Int:=match B.label.up with
 |none=>0
 |some q=>((B.held.lookup q.1).map (·.2)).getD 0+1
abbrev ZF(B:Br)(p:Int):L where
 num:=(B.life,B.count)
 st:=(B.life,B.version)
 root:=B.label.root
 cost:=B.label.cost
 age:=JM B
 rests:=if Hx B.label.up p then B.label.up.map (·.2)else fK
 agrees:=if Hx B.label.up p then fK else if JQ B p then fJ (GA B.held p)else fK
def II(h:Hs)(p:Int)(u:Option<|Int×Pi):eqV h (.int p) (upV u)=fJ (Hx u p):=by
 cases u with
 |none=>rfl
 |some q =>show fJ (D.eqv (.int p)<|.int q.1)=_;rw[OR];rfl
def HG{p:Int}(x:fW h b t d B)(s:∀q,B.label.up=fJ q->(B.held.lookup q.1).isSome=fL)(k:Q (ZF B p).v h):wF P (n+3) "Bridge.letter_over" [.ref b,.int p] h Q X:=by
 let⟨hi,ht,hd,z⟩:=id x;refine Xn ?_;fail;have main:wSs (wF P<|n+2) #[.ite (.val<|.cmp .eq (.var 1)<|.var 4) #[.ret<|.bin .add (.var 7)<|.tup #[.var 5,.cst .non]] .nil,.ite (.val<|.meth "Bridge" "is_rested_on" (.var 0) #[.var 1]) #[.ret<|.bin .add (.var 7)<|.tup #[.cst .non,.idx (.idx (.idx (.fld (.var 0) "held_by_place")<|.var 1)<|.cst<|.int 0)<|.glob "STAMP"<|.int 1]] .nil,.ret<|.bin .add (.var 7)<|.tup #[.cst .non,.cst .non]]
   [fJ<|.ref b,fJ<|.int p,fJ<|.int B.label.root,fJ<|.int B.label.cost,fJ<|upV B.label.up,fJ<|rsV B.label.up,fJ<|.int<|JM B,fJ<|.tup [pV (B.life,B.count),pV (B.life,B.version),.int B.label.root,.int B.label.cost,.int<|JM B]] h (λ_ g=>Q .non g) Q (λ_ _=>False) (λ_ _=>False) λ_ c g=>X c g:=by
  exists W7 (II h p B.label.up)
  refine' ii (λI=>?_) (λI=>?_)
  .fail;unfold ZF at k;rw[I]at k;cases e:B.label.up with
   |none=>rw[e]at I;cases I
   |some q=>rw[e]at k;exact k
  .exists Mx x
   fail;unfold ZF at k;rw[I]at k;refine ii (λJ=>?_) λJ=>?_
   .rw[J]at k;unfold JQ at J;cases e:B.held.lookup p with
    |none=>rw[e]at J;cases J
    |some q =>let⟨l,a⟩:=q;refine' Zk hd rfl (by rw[Zz,e];rfl) ?_;fail;unfold GA at k;rw[e]at k;exact k
   .rw[J]at k;refine' k
 cases e:B.label.up with
 |none =>
  have R:JM B=0:=by unfold JM;rw[e]
  rw[e,R]at main;refine ig (λI=>?_) λI=>iM rfl I
  exists Yl x
  walk_at "w"
  repeat (first|exact main|(walk_at "py1";walk_at "w"))
 |some q =>
  let⟨y,U⟩:=ô.mp<|s q e;have R:JM B=y.2+1:=by unfold JM;rw[e];dsimp only;rw[U];rfl
  rw[e,R]at main;refine ig (λI=>by cases I) λI=>?_;simp![upV];refine' Zk hd rfl (by rw[Zz,U];rfl) ?_
  exists Yl x
  walk_at "w"
  repeat (first|exact main|(walk_at "py1";walk_at "w"))
def Hk(I:(Yz B).up=fJ q):(B.held.lookup q.1).isSome=fL:=by
 unfold Yz at I;split at I
 .cases I
 .rename_i m e;have hm:=Oz e;unfold Np at hm;let⟨y,J,rfl⟩:=Ü.mp hm;cases I;let⟨v,R⟩:=ZN (ñ (f:=(·.1)) J);show(B.held.lookup y.1).isSome=fL;rw[R];rfl
abbrev Br.grown(B:Br):Br:={B with held:=YE B.most B.held}
abbrev Br.told(B:Br):Br:=taken B.grown<|Yz B.grown
abbrev Br.ticked(B:Br):Br:={B.told with count:=B.count+1}
abbrev ZY(B:Br):List Val:=(sortI (B.ties.map (·.1))).map λp=>.tup [.int p,(ZF B p).v]
def YJ(B:Br)(l:Lab):(taken B l).held=B.held/\(taken B l).ties=B.ties/\(taken B l).count=B.count/\(taken B l).label=l/\(taken B l).number=B.number/\(taken B l).life=B.life/\(taken B l).most=B.most:=by
 unfold taken;split
 .rename_i e;exact⟨rfl,rfl,rfl,e.symm,rfl,rfl,rfl⟩
 .exact⟨rfl,rfl,rfl,rfl,rfl,rfl,rfl⟩
structure Br.ok(B:Br):Prop where
 nd:(B.held.map (·.1)).Nodup
 sub:∀q∈B.held,(B.ties.lookup q.1).isSome=fL
 nt:(B.ties.map (·.1)).Nodup
 rg:∀q∈B.ties,0<=q.1/\q.1<16
def Br.ok.tlen(o:B.ok):B.ties.length<=16:=by
 have:=Yb (m:=16) o.nt λx I=>by let⟨q,J,rfl⟩:=Ü.mp I;exact o.rg q J
 simpa using this
def Br.ok.hlen(o:B.ok):B.held.length<=16:=by
 have:=Yb (m:=16) o.nd λx I=>by let⟨q,R,rfl⟩:=Ü.mp I;let⟨v,J⟩:=ô.mp<|o.sub q R;exact o.rg _<|Zt J
 simpa using this
def Br.ok.grown(o:B.ok):B.grown.ok where
 nd:=o.nd.sublist<|Ku _ _
 sub:=λq I=>by let⟨a,ha⟩:=BY I;exact o.sub (q.1,(q.2.1,a)) ha
 nt:=o.nt
 rg:=o.rg
def Br.ok.told(o:B.ok):B.told.ok:=by
 let⟨J,I,_⟩:=YJ B.grown<|Yz B.grown;have g:=o.grown;refine⟨?_,?_,?_,?_⟩
 .show((taken B.grown<|Yz B.grown).held.map (·.1)).Nodup;rw[J];exact g.nd
 .show ∀q∈(taken B.grown<|Yz B.grown).held,((taken B.grown<|Yz B.grown).ties.lookup q.1).isSome=fL;rw[J,I];exact g.sub
 .show((taken B.grown<|Yz B.grown).ties.map (·.1)).Nodup;rw[I];exact g.nt
 .show ∀q∈(taken B.grown<|Yz B.grown).ties,_;rw[I];exact g.rg
def Br.ok.ticked(o:B.ok):B.ticked.ok:=⟨o.told.nd,o.told.sub,o.told.nt,o.told.rg⟩
def FF(x:fW h b t d B)(o:B.ok)(k:∀p d' g,h p=fK->h d'=fK->fW g b t d' B.ticked->g p=fJ (.lst<|ZY B.told)->Ex [b] h g->p≠d'->Q (.ref p) g):wF P (n+4) "Bridge.tick" [.ref b] h Q X:=by
 let⟨hi,ht,hd,Ÿ⟩:=id x;have hlen:=o.hlen;refine KO ?_;refine' Hu x o.nd ↥0 λd' g C x1 e1=>?_;let⟨hi1,ht1,hd1,hne1⟩:=id x1;have M:=o.grown;have J:fW g b t d' B.grown:=x1;refine' Bv J M.sub (by have:=M.hlen;lia) λg2 e2=>?_;have x2:=J.ext e2;refine' F5 x2 λg3 x3 e3=>?_;let⟨hi3,U,hd3,hne3⟩:=id x3;let⟨c1,c2,c3,c4,c5,c6,c7⟩:=YJ B.grown<|Yz B.grown;have I:B.told.ties=B.ties:=c2;refine' Ub U (ES _) ?_ (Yv λp1 bC=>?_)
 .rw[Á];have:=o.tlen;show B.told.ties.length<64;rw[I];lia
 refine' ⟨?_,?_⟩
 .rw[Á,sortI,Ŗ,Á];have:=o.tlen;show B.told.ties.length<lim;rw[I];exact Ð this ↥1
 have x4:=x3.ext (Ext.new (o:=.lst ((sortI ((taken B.grown<|Yz B.grown).ties.map (·.1))).map Val.int)) bC);have up:∀q,(taken B.grown<|Yz B.grown).label.up=fJ q->((taken B.grown<|Yz B.grown).held.lookup q.1).isSome=fL:=λq O=>by rw[c4]at O;rw[c1];exact Hk O
 refine YG (λv=>match v with|.int i=>fJ (.tup [.int i,(ZF B.told i).v])|_=>fK) (lsE fO) ?_ ?_
 .intro v hv K hK;let⟨i,hi,rfl⟩:=Ü.mp hv;let⟨hi4,ht4,hd4,hne4⟩:=id x4;fail;rw[iH rfl];change wE _ _ [fJ<|.int i,fJ<|.ref b] _ _ _
  exists HG x4 up
  refine' hK
 .refine Yv λp hp=>?_;have x5:=x4.ext<|Ext.new (o:=.lst<|ZY B.told) hp;have e0:((sortI ((taken B.grown<|Yz B.grown).ties.map (·.1))).map Val.int).filterMap (λv=>match v with|.int i=>fJ (.tup [.int i,(ZF B.told i).v])|_=>fK)=ZY B.told:=by
   rw[ϱ];unfold ZY;exact congrFun (List.filterMap_eq_map (f:=λi:Int=>Val.tup [.int i,(ZF B.told i).v])) _
  rw[e0];let⟨hi5,ht5,hd5,W⟩:=id x5;fail;have F:(taken B.grown<|Yz B.grown).count=B.count:=c3;rw[F];have eg:Ex [b] h (upd g3 p1 (.lst ((sortI ((taken B.grown<|Yz B.grown).ties.map (·.1))).map Val.int))):=((e1.trans<|.of e2).trans e3).trans<|.of<|Ext.new bC;have s:h p=fK:=eg.none (by rw[x4.ins];intro z;cases z) hp;have R:b≠p:=Za x4.ins hp;refine k p d' _ s C ⟨fO,?_,?_,x5.ne⟩ ?_ ?_ (Za x4.held hp).symm
  .rw[fN x5.nbt.symm];exact x5.ties
  .rw[fN x5.nbd.symm];exact x5.held
  .rw[fN R.symm];exact fO
  .exact(eg.trans<|.of<|Ext.new hp).trans (Ex.upd<|by simp)
abbrev Kx(S:Br)(p:Int)(l:L):Bool:=match S.held.lookup p with
 |none=>fL
 |some q=>gR [q.1.num.1,q.1.num.2] [l.num.1,l.num.2]
abbrev Yu(S:Br)(p:Int)(l:L):Br:=if(S.ties.lookup p).isSome then(if Kx S p l then {S with held:=ZD S.held p (l,l.age)} else S)else S
abbrev C8(S:Br)(p:Int):Br:={S with ties:=Zx S.ties p,held:=Zx S.held p}
abbrev upB(S:Br)(p:Int)(c:Int×Int):Br:=if(S.ties.lookup p).isSome then S else {S with ties:=ZD S.ties p c}
variable {q:Int}
def Fv:(kvs.lookup q).isSome=fL->((ZD kvs k v).lookup q).isSome=fL:=λh=>by
 let⟨x,J⟩:=ô.mp h;have hm:q∈kvs.map (·.1):=ñ (f:=(·.1))<|Zt J;have:q∈(ZD kvs k v).map (·.1):=by
  rw[Kc];split
  .exact hm
  .exact Ê _ hm
 let⟨y,I⟩:=ZN this;rw[I];rfl
def Br.ok.heard(o:S.ok){p:Int}{l:L}:(Yu S p l).ok:=by
 unfold Yu;split
 .rename_i J;split
  .refine⟨WR o.nd _ _,λq I=>?_,o.nt,o.rg⟩;rcases Jx I with e|I
   .rw[e];exact J
   .exact o.sub q I
  .exact o
 .exact o
def YD{k:Int}{q:Int×α}(h:q∈Zx kvs k):q∈kvs:=(Ou kvs k).subset h
def BF(h:(kvs.lookup q).isSome=fL)(n:q≠k):((Zx kvs k).lookup q).isSome=fL:=by
 let⟨x,J⟩:=ô.mp h;have:q∈(Zx kvs k).map (·.1):=by refine Ü.mpr ⟨(q,x),?_,rfl⟩;unfold Zx;exact Đ.mpr ⟨Zt J,⇑n⟩
 let⟨y,I⟩:=ZN this;rw[I];rfl
def Br.ok.down(o:S.ok)(p:Int):(C8 S p).ok :=
 ⟨YZ o.nd _,λq I=>BF (o.sub q<|YD I)<|F8 I,YZ o.nt _,λq I=>o.rg q<|YD I⟩
def Br.ok.up(o:S.ok){p:Int}{c:Int×Int}(h0:0<=p)(h1:p<16):(upB S p c).ok:=by
 unfold upB;split
 .exact o
 .refine⟨o.nd,λq I=>Fv<|o.sub q I,WR o.nt _ _,λq I=>?_⟩;rcases Jx I with e|I
  .rw[e];exact⟨h0,h1⟩
  .exact o.rg q I
def Hl{p:Int}{l:L}(x:fW h b t d B)(o:B.ok)(k:∀g,fW g b t d (Yu B p l)->Ex [d] h g->Q .non g):wF P (n+2) "Bridge.hear" [.ref b,.int p,l.v] h Q X:=by
 let⟨hi,ht,hd,R⟩:=id x;have hlen:=o.hlen;refine KI ?_
 exists XX ht rfl
 rw[Xh];fail;unfold Yu at k;cases e:(B.ties.lookup p).isSome with
 |false =>rw[e]at k;refine hZ rfl ?_;refine' k h x Ex.refl
 |true =>
  rw[e,iH rfl]at k;refine ie rfl ?_
  exists MR x
  have put:(∀g,fW g b t d {B with held:=ZD B.held p (l,l.age)}->Ex [d] h g->Q .non g)->go (gW h (.ref d) (.int p)<|.tup [l.v,.int l.age]) λg=>Q .non g:=λk=>by refine Yh hd ⟨rfl,by rw[Kk];exact Ð hlen<|by decide⟩ ?_;rw[show Val.tup [l.v,.int l.age]=hdV (l,l.age) from rfl,ZP];exact k _ ⟨by rw[fN x.nbd];exact hi,by rw[fN R];exact ht,fO,R⟩ (Ex.upd<|by simp)
  fail;cases e2:B.held.lookup p with
  |none =>
   have J:Kx B p l=fL:=by unfold Kx;rw[e2]
   rw[J,iH rfl]at k;refine ig (λI=>?_) λI=>iM rfl I;refine hZ rfl ?_;refine' Ak (put k) λg q=>by fail;exact q
  |some q =>
   let⟨m,U⟩:=q;have J:Kx B p l=gR [m.num.1,m.num.2] [l.num.1,l.num.2]:=by unfold Kx;rw[e2]
   rw[J]at k;refine ig (λI=>by simp[hdO]at I) λI=>?_;simp![hdO]
   exists HU
   exists Pk (WC [l.num.1,l.num.2]) (WC [m.num.1,m.num.2])
   refine' ii (λI=>?_) (λI=>?_)
   .rw[iH I]at k;refine' Ak (put k) λg q=>by fail;exact q
   .rw[iI<|by rw[I];decide]at k;refine' k h x Ex.refl
def GW{p:Int}(x:fW h b t d B)(k:∀g,fW g b t d (C8 B p)->Ex [t,d] h g->Q .non g):wF P (n+1) "Bridge.down" [.ref b,.int p] h Q X:=by
 let⟨hi,ht,hd,I⟩:=id x;refine KK ?_
 exists U2 ht rfl
 dsimp only;rw[WF];have J:upd h t (.dct<|Zg BM<|Zx B.ties p) b=_:=upd_ne' x.nbt hi;have R:upd h t (.dct<|Zg BM<|Zx B.ties p) d=_:=upd_ne' I.symm hd
 exists U2 R rfl
 dsimp only;rw[WF];refine' k _ ⟨by rw[fN x.nbd];exact J,by rw[fN I];exact fO,fO,I⟩ ((Ex.upd<|by simp).trans<|Ex.upd<|by simp)
def RE{p nb:Int}(x:fW h b t d B)(o:B.ok)(k:∀g,fW g b t d (upB B p (nb,c))->Ex [t] h g->Q .non g):wF P (n+1) "Bridge.up" [.ref b,.int p,.int nb,.int c] h Q X:=by
 let⟨hi,ht,hd,I⟩:=id x;have hlen:=o.tlen;refine Ox ?_
 exists XX ht rfl
 rw[Xh];fail;unfold upB at k;cases e:(B.ties.lookup p).isSome with
 |true =>rw[e,iH rfl]at k;refine ie rfl ?_;refine' k h x Ex.refl
 |false =>rw[e,iI<|by decide]at k;refine hZ rfl ?_;refine' Yh ht ⟨rfl,by rw[Kk];exact Ð hlen<|by decide⟩ ?_;rw[show Val.tup [.int nb,.int c]=BM (nb,c) from rfl,ZP];refine' k _ ⟨by rw[fN x.nbt];exact hi,fO,by rw[fN I.symm];exact hd,I⟩ (Ex.upd<|by simp)
def T0(h:Hs)(s:Pi)(u:Option<|Int×Pi):eqV h (pV s) (rsV u)=fJ (iN (u.map (·.2)=fJ s)):=by
 let⟨s1,s2⟩:=s;cases u with
 |none =>show fJ (D.eqv (.tup [.int s1,.int s2]) .non)=_;simp[D.eqv]
 |some p =>
  let⟨k,I,p2⟩:=p;show fJ (D.eqv (.tup [.int s1,.int s2])<|.tup [.int I,.int p2])=_;congr 1;simp![D.eqv,D.eqvs,ϋ,œ];by_cases U:s1=I
  .subst U;by_cases R:s2=p2
   .subst R;simp
   .have J:¬ p2=s2:=λz=>R z.symm;simp[R,J]
  .have J:¬ I=s1:=λz=>U z.symm;simp[U,J]
abbrev Ut(B:Br)(p:Int):Bool:=match B.held.lookup p with
 |none=>fM
 |some q=>if q.1.agrees=fJ (B.life,B.version)then iN (B.label.up.map (·.2)=fJ q.1.st)else fM
def A4{p:Int}(x:fW h b t d B)(k:Q (.bl<|Ut B p) h):wF P (n+2) "Bridge.is_agreed_to" [.ref b,.int p] h Q X:=by
 let⟨hi,ht,hd,J⟩:=id x;refine Y4 ?_
 exists MR x
 unfold Ut at k;fail;cases e:B.held.lookup p with
 |none =>rw[e]at k;refine ig (λI=>?_) λI=>iM rfl I;refine hZ rfl ?_;refine' k
 |some q =>
  rw[e]at k;let⟨l,a⟩:=q;refine ig (λI=>by simp[hdO]at I) λI=>?_;simp![hdO]
  exists Yl x
  refine W4 (SD h _ _) ?_;refine' NA (λI=>?_) (λI=>?_)
  .fail;rw[show(match fJ (l,a)with|none=>fM|some q=>if q.1.agrees=fJ (B.life,B.version)then iN (B.label.up.map (·.2)=fJ q.1.st)else fM)=fM from iI I]at k;exact k
  .fail;rw[show(match fJ (l,a)with|none=>fM|some q=>if q.1.agrees=fJ (B.life,B.version)then iN (B.label.up.map (·.2)=fJ q.1.st)else fM)=iN (B.label.up.map (·.2)=fJ l.st) from iH I]at k;refine W7 (T0 h _ _) ?_;exact k
abbrev CN(B:Br)(p:Int):String:=if(B.ties.lookup p).isSome then(if Hx B.label.up p then(if Ut B p then "child" else "shut")else if JQ B p then "parent" else "shut")else "down"
def LL{p:Int}(x:fW h b t d B)(k:Q (.str<|CN B p) h):wF P (n+3) "Bridge.end" [.ref b,.int p] h Q X:=by
 let⟨hi,ht,hd,J⟩:=id x;refine ML ?_
 exists XX ht rfl
 rw[Xh];fail;unfold CN at k;cases e:(B.ties.lookup p).isSome with
 |false =>rw[e]at k;refine hZ rfl ?_;refine' k
 |true =>
  rw[e,iH rfl]at k;refine ie rfl ?_
  exists W7 (II h p B.label.up)
  refine' ii (λI=>?_) (λI=>?_)
  .rw[I,iH rfl]at k
   exists A4 x
   refine' ii (λI=>?_) (λI=>?_)
   .rw[I]at k;refine' k
   .rw[I]at k;refine' k
  .rw[I,iI<|by decide]at k
   exists Mx x
   refine' ii (λI=>?_) (λI=>?_)
   .rw[I]at k;refine' k
   .rw[I]at k;refine' k
def Zd(q:∀p g,h p=fK->Ext h g->g p=fJ o->Q (.ref p) g):new h o Q:=Yv λp hp=>q p _ hp (Ext.new hp) fO
variable {r:Int}
def YN(r0:0<=r)(e:xs[r.toNat]?=fJ x):atI xs r=fJ x:=by have:=(Ô.mp e).1;unfold atI ixN;rw[iH r0,iH<|by lia];exact e
def E4(r0:0<=r)(r1:r<xs.length):∃x,xs[r.toNat]?=fJ x/\x∈xs:=by
 have h:r.toNat<xs.length:=by lia
 exact⟨xs[r.toNat],É h,þ h⟩
def Ks(r0:0<=r)(r1:r<xs.length):∃x,atI xs r=fJ x/\x∈xs:=by let⟨x,J,I⟩:=E4 r0 r1;exact⟨x,YN r0 J,I⟩
def Ys:∀ns:List Int,fT (ns.map .int)=fJ ns
 |[]=>rfl
 |n::ns=>by rw[Ò,fT,Ys ns];rfl
def YY:∀bs:List Bool,blsOf (bs.map .bl)=fJ bs
 |[]=>rfl
 |b::bs=>by rw[Ò,blsOf,YY bs];rfl
def mem_dedup{x:Int}:∀{ns:List Int},x∈dedup ns↔x∈ns
 |[]=>by simp[dedup]
 |n::ns=>by rw[dedup,Å,Đ,mem_dedup,Å];by_cases h:x=n<;>simp[h]
def J4:∀(ns:List Int),(dedup ns).length<=ns.length
 |[]=>by simp[dedup]
 |n::ns=>by have:=J4 ns;have:=ě (λy=>y != n)<|dedup ns;rw[dedup,Ñ,Ñ];lia
variable {m:Int}
def YX(h:(gO 0 m)[i]?=fJ v):v=.int i/\(i:Int)<m:=by unfold gO at h;rw[Ø]at h;let⟨k,J,rfl⟩:=Ï.mp h;let⟨I,rfl⟩:=Ô.mp J;rw[ĵ]at I;rw[fc];exact⟨by rw[Int.zero_add],by lia⟩
def UX:(gO 0 m).length=m.toNat:=by unfold gO;rw[Á,ĵ,Int.sub_zero]
abbrev Brs(ns:List Int):Prop:=∀i∈ns,0<=i/\i<1000
noncomputable abbrev Tie:=Int×Int×Int
abbrev trV(t:Tie):Val:=.tup [.int t.1,.int t.2.1,.int t.2.2]
abbrev LOk(ns:List Int)(t:Tie):Prop:=t.1∈ns/\t.2.1∈ns/\t.1<t.2.1/\1<=t.2.2/\t.2.2<=1000
structure gh(bs:List Int)(ts:List Tie):Prop where
 one:1<=bs.length
 ten:bs.length<=10
 rng:Brs bs
 up:bs.Pairwise (· < ·)
 sixteen:ts.length<=16
 tie:∀t∈ts,LOk bs t
abbrev Zr(bs:List Int)(ts:List Tie):Val:=.tup [.tup<|bs.map .int,.tup<|ts.map trV]
variable {ts:List Tie}
def Z5{bs:List Int}{K:Val->Prop}(q:K<|.tup<|bs.map .int):go (gU h (.tup [.tup<|bs.map .int,.tup<|ts.map trV])<|.int 0) K:=fS rfl q
def Wv{bs:List Int}{K:Val->Prop}(q:K<|.tup<|ts.map trV):go (gU h (.tup [.tup<|bs.map .int,.tup<|ts.map trV])<|.int 1) K:=fS rfl q
variable {ns:List Int}
def mem_sort{i:Int}:i∈sortI ns↔i∈ns:=(Ŧ ns _).mem_iff
def Wx(nd:ns.Nodup):(sortI ns).Pairwise (· < ·):=by have p:=Ŧ ns λa b=>iN (a<=b);have s:(sortI ns).Pairwise λa b=>iN (a<=b)=fL:=cj (λa b c I J=>by simp at *;lia) (λa b=>by simp;lia) ns;have d:(sortI ns).Nodup:=p.nodup_iff.mpr nd;exact(s.and d).imp λ⟨I,J⟩=>by simp at I;lia
def TR(e:h a=fJ (.lst<|ns.map .int))(m:ns.length<64)(q:new h (.lst<|(sortI<|dedup ns).map .int) Q):(biV h .sortedSet [.ref a]).wp h Q:=wp_new (by show biSortedSet h (.ref a)=_;unfold biSortedSet sortOf;simp![e,fY,ê,Ys];rw[iH m]) q
def NO:∀ns:List Int,(dedup ns).Nodup
 |[]=>Ċ
 |n::ns=>by rw[dedup,ā];refine⟨λz=>?_,(NO ns).sublist ŧ⟩;have:=(Đ.mp z).2;simp at this
def Sx(ns:List Int):(sortI<|dedup ns).Pairwise (· < ·):=Wx (NO ns)
def Dm(ns:List Int):(sortI<|dedup ns).Nodup:=(Sx ns).imp λh=>by lia
def QX(ns:List Int):(sortI<|dedup ns).length<=ns.length:=by rw[sortI,Ŗ];exact J4 ns
def QH(h:1<=ns.length):1<=(sortI<|dedup ns).length:=by
 rw[sortI,Ŗ];cases ns with
 |nil=>exact iM h ↥1
 |cons n ns=>rw[dedup,Ñ];lia
def sd_mem{i:Int}:i∈sortI (dedup ns)↔i∈ns:=by rw[mem_sort,mem_dedup]
def Fj(ns:List Int)(lo hi:Option Int):cut (ns.map Val.int) lo hi=(cut ns lo hi).map Val.int:=by unfold cut;rw[Á,List.map_take,List.map_drop]
def QK{a b:Int}(h0:0<=a)(h1:a<=b):cut xs (fJ a) (fJ b)=(xs.drop a.toNat).take (b.toNat - a.toNat):=by
 unfold cut gQ;dsimp only;rw[iH h0,iH<|by lia];by_cases h:a.toNat<=xs.length
 .rw[bA h];by_cases I:b.toNat<=xs.length
  .rw[bA I]
  .rw[Nat.min_eq_right<|by lia];rw[ż (by rw[ξ];lia),ż<|by rw[ξ];lia]
 .rw[Ĺ (by lia:xs.length<=min a.toNat xs.length),Ĺ (by lia:xs.length<=a.toNat)];simp
def N7{d:Nat}:∀ns:List Int,(ns.map Val.int).mapM (dat h d)=fJ (ns.map D.int)
 |[]=>rfl
 |n::ns=>by rw[Ò,ş,N7 ns,Ò];cases d<;>rfl
def Aw{i:Int}:∀ns:List Int,((ns.map D.int).any λe=>D.eqv e<|.int i)=iN (i∈ns)
 |[]=>by simp
 |n::ns=>by
  rw[Ò,Ħ,Aw ns,OR];by_cases h:n=i
  .simp[h]
  .simp[h,Ne.symm h]
def Nd{i:Int}:inL h (.int i) (ns.map .int)=fJ (iN (i∈ns)):=by unfold inL;rw[N7];exact congrArg fJ (Aw ns)
def Jz(x:Ext h g)(e:h p=fK):Ext h<|upd g p o:=⟨λ{a u} z=>by rw[fN<|Za z e];exact x.get z⟩
abbrev far(t:Tie)(b:Int):Int:=if t.1=b then t.2.1 else t.1
abbrev iA(b:Int):Nat->List Tie->List Tie
 |_,[]=>[]
 |k,t::r=>if b=t.1\/b=t.2.1 then((k:Int),far t b,t.2.2)::iA b (k+1) r else iA b (k+1) r
def NF{b:Int}{t:Tie}:∀{l:List Tie}{k:Nat},iA b k (l++[t])=iA b k l++(if b=t.1\/b=t.2.1 then [(((k+l.length:Nat):Int),far t b,t.2.2)]else [])
 |[],k=>by show iA b k [t]=_;unfold iA;split<;>rfl
 |u::l,k=>by
  rw[aL,iA,iA,NF,Ñ,show k+1+l.length=k+(l.length+1) by lia];by_cases h:b=u.1\/b=u.2.1
  .rw[iH h,iH h,aL]
  .rw[iI h,iI h]
def WG:∀{xs:List Val}{k i:Nat}{v:Val},(enumL k xs)[i]?=fJ v->∃x,xs[i]?=fJ x/\v=.tup [.int ((k+i:Nat):Int),x]
 |[],_,_,_,e=>by simp[enumL]at e
 |x::xs,k,0,v,e=>by have e:fJ (Val.tup [.int k,x])=fJ v:=e;cases e;exact⟨x,rfl,rfl⟩
 |x::xs,k,i+1,v,e=>by let⟨y,J,I⟩:=WG (xs:=xs) (k:=k+1) (i:=i) (v:=v) (by simpa[enumL]using e);exact⟨y,⇑J,by rw[I,show k+1+i=k+(i+1) by lia]⟩
def Xq:∀(xs:List Val) (k:Nat),(enumL k xs).length=xs.length
 |[],_=>rfl
 |_::xs,k=>by simp[enumL,Xq xs<|k+1]
def Nx{i:Int}(q:KB<|iN (i∈ns)):go (f8 h .isin (.int i)<|.tup<|ns.map .int) KB:=fR (by show inV h (.int i) (.tup _)=_;unfold inV;exact Nd) q
def DI{i:Int}(q:KB (!iN (i∈ns))):go (f8 h .notin (.int i)<|.tup<|ns.map .int) KB:=fR (by show(inV h (.int i)<|.tup _).map _=_;unfold inV;simp![Nd];rfl) q
section
variable {bs:List Int}{ts:List Tie}
def Ej{t:Tie}{b:Int}(k:Q (.int<|far t b) h):wF P (n+1) "far_end" [trV t,.int b] h Q X:=by
 let⟨x,y,c⟩:=t;unfold trV;unfold far at k;dsimp only at k ⊢;refine A5 ?_;fail;by_cases e:x=b
 .refine hZ (iK e) ?_;rw[iH e]at k;refine' k
 .refine ie (iJ e) ?_;rw[iI e]at k;refine' k
def XM{b:Int}(l:ts.length<=16)(k:∀p g,h p=fK->Ext h g->g p=fJ (.lst<|(iA b 0 ts).map trV)->Q (.ref p) g):wF P (n+2) "neighbours" [Zr bs ts,.int b] h Q X:=by
 unfold Zr;refine MN ?_;refine' Zd λp M hp x0 F=>?_
 exists fR rfl
 have nl:∀l:List Tie,∀k,(iA b k l).length<=l.length:=by
  intro l;induction l with
  |nil=>intro k;exact Ì _
  |cons t l ih =>intro k;have:=ih<|k+1;unfold iA;split<;>simp![Ñ]<;>lia
 refine Zh (λi en g=>Sm2 λR v4=>Cj3 (en=[fJ<|.tup [.tup<|bs.map .int,.tup<|ts.map trV],fJ<|.int b,fJ<|.ref p,R,v4]) (Ext h g)<|g p=fJ (.lst<|(iA b 0<|ts.take i).map trV)) ⟨_,_,rfl,x0,F⟩ (λ_ _ _ _ _=>trivial) ?_ ?_
 .rintro i v en g z ⟨R,v4,rfl,x,J⟩ K s;let⟨y,U,rfl⟩:=WG z;rw[Ø]at U;let⟨t,ht,rfl⟩:=Ï.mp U;have hi:i<ts.length:=(Ô.mp ht).1;have hn:iA b 0 (ts.take<|i+1)=iA b 0 (ts.take i)++(if b=t.1\/b=t.2.1 then [((i:Int),far t b,t.2.2)]else []):=by
   rw[ŝ,ht];have:=NF (b:=b) (t:=t) (l:=ts.take i) (k:=0);rw[ą,bA ↥0,η]at this;exact this
  rw[η];have C:trV t=.tup [.int t.1,.int t.2.1,.int t.2.2]:=rfl;fail;rw[C];refine hX (by simp[gQ]) ?_;refine Nx (ns:=[t.1,t.2.1]) ?_;refine' ig (λI=>?_) (λI=>?_)
  .exists Ej (t:=t)
   fail;have hl:=nl (ts.take i) 0;rw[ą]at hl;refine Zj J (by rw[Á,lim];lia) ?_;refine' s _ _ ⟨_,_,rfl,?_,?_⟩
   .exact Jz x hp
   .have I:b=t.1\/b=t.2.1:=⇑I
    rw[hn,iH I,Ö];exact fO
  .refine' s _ _ ⟨_,_,rfl,x,?_⟩;have I:¬ (b=t.1\/b=t.2.1):=⇑I
   rw[hn,iI I,ì];exact J
 .rintro en g ⟨R,v4,rfl,x,J⟩;rw[Xq,Á,ù]at J;refine' k p g hp x J
end
abbrev W6(rs:List Tie):List<|Int×(Int×Int):=rs.map λr=>(r.1,r.2)
def Az(rs:List Tie):(W6 rs).map (·.1)=rs.map (·.1):=by unfold W6;rw[õ];rfl
abbrev Z4(own life most:Int)(rs:List Tie):Br:=⟨own,life,most,W6 rs,[],⟨own,0,fK⟩,0,0⟩
variable {own:Int}{life:Int}
def Ae(hb:h b=fJ (.ins "Bridge" []))(hl:h l=fJ (.lst<|rs.map trV))(nd:(rs.map (·.1)).Nodup)(h16:rs.length<=16)(k:∀t d g,h t=fK->h d=fK->fW g b t d (Z4 own life most rs)->Ex [b] h g->Q .non g):wF P (n+1) "Bridge.__init__" [.ref b,.int own,.int life,.ref l,.int most] h Q X:=by
 have R:b≠l:=Ep hb hl nofun;refine KM ?_;refine' Ym fO (show(1:Nat)<900 by decide) ?_;refine' Ym fO (show(2:Nat)<900 by decide) ?_;fail;intro t ht;rw[fP,fP]at ht ⊢;have I:b≠t:=Za fO ht;have J:h t=fK:=by rw[fN I.symm]at ht;exact ht
 have O:l≠t:=Za hl J;refine' Ym (upd_ne' I fO) (show(3:Nat)<900 by decide) ?_;fail;have hl1:∀{o1 o2 o3:Ob},upd (upd (upd h b o1) t o2) b o3 l=fJ (.lst<|rs.map trV):=λ{_ _ _}=>by rw[fN R.symm,fN O,fN R.symm];exact hl
 refine Zh (λi e g=>Sm3 λu v w=>Cj4 (e=[fJ<|.ref b,fJ<|.int own,fJ<|.int life,fJ<|.ref l,fJ<|.int most,u,v,w]) (g b=fJ (.ins "Bridge" [("number",.int own),("life",.int life),("age_let_go",.int most),("ties_by_place",.ref t)])) (g t=fJ (.dct<|Zg BM<|W6<|rs.take i))<|Ex [b] h g) ⟨fK,fK,fK,rfl,fO,by rw[fN I.symm];exact fO,?_⟩ ?_ ?_ ?_
 .refine⟨λ{a o} na e=>?_⟩;have F:a≠b:=⇑na
  rw[fN F,fN<|Za e J,fN F];exact e
 .rintro i e g _ ⟨u,v,w,rfl,M,s,U⟩;exact lsE (U.get (by simpa using R.symm) hl)
 .rintro i v e g hv ⟨u,v,w,rfl,M,s,U⟩ K hK;let⟨r,hp,rfl⟩:=ZI hv;have nk:=Ye nd hp;let⟨p,nb,c⟩:=r;unfold trV;refine' Yh (k:=.int p) s ⟨rfl,?_⟩ ?_
  .rw[Kk];unfold W6;rw[Á];exact Ð (Ù (Ϡ _ _) h16) ↥1
  rw[show Val.tup [.int nb,.int c]=BM (nb,c) from rfl,ZP];refine' hK _ _ ⟨_,_,_,rfl,by rw[fN I];exact M,?_,?_⟩
  .rw[fO,YK,Zn hp]
   .unfold W6;rw[Ö];rfl
   .rw[Az];exact nk
  .exact⟨λna e=>by rw[fN<|Za e J];exact U.get na e⟩
 .rintro e g ⟨u,v,w,rfl,M,s,U⟩;rw[Á,ù]at s;fail;intro d hd;have ndb:b≠d:=Za M hd;have C:t≠d:=Za s hd;have W:h d=fK:=U.none (by rw[M];intro z;cases z) hd;refine' Ym fO (show(5:Nat)<900 by decide) ?_;refine' Ym fO (show(6:Nat)<900 by decide) ?_;refine' Ym fO (show(7:Nat)<900 by decide) ?_;fail;rw[fP,fP,fP];refine k t d _ J W ⟨fO,?_,?_,C⟩ ?_
  .rw[fN I.symm,fN C];exact s
  .rw[fN ndb.symm];exact fO
  .exact(U.trans<|.of<|Ext.new hd).trans (Ex.upd<|by simp)
def Ky{b:Int}:∀{l:List Tie}{k:Nat},((iA b k l).map (·.1)).Pairwise (· < ·)/\∀r∈iA b k l,(k:Int)<=r.1/\r.1<(k+l.length:Nat)
 |[],k=>⟨by simp[iA],λr I=>iM I<|by simp[iA]⟩
 |t::l,k=>by
  let⟨R,J⟩:=Ky (b:=b) (l:=l) (k:=k+1);unfold iA;split
  .refine⟨?_,λr I=>?_⟩
   .rw[Ò,eY];refine⟨λx U=>?_,R⟩;let⟨r,I,rfl⟩:=Ü.mp U;have:=(J r I).1;show(k:Int)<r.1;lia
   .rcases Å.mp I with rfl|I
    .exact⟨Ϧ _,by show(k:Int)<((k+(t::l).length:Nat):Int);rw[Ñ];lia⟩
    .have:=J r I;rw[Ñ];lia
  .refine⟨R,λr I=>?_⟩;have:=J r I;rw[Ñ];lia
def Aj{b:Int}:∀{l:List Tie}{k:Nat},(iA b k l).length<=l.length
 |[],k=>Ì _
 |t::l,k=>by have:=Aj (b:=b) (l:=l) (k:=k+1);unfold iA;split<;>simp![Ñ]<;>lia
structure En where
 num:Int
 b:Ad
 t:Ad
 d:Ad
 B:Br
structure Yd where
 y:Ad
 lv:Ad
 st:Ad
 fl:Ad
 rd:Ad
 bs:List Int
 ts:List Tie
 most:Int
 lives:List<|Int×Int
 es:List En
 fallen:List<|Int×Bool
 road:List<|Int×Int×Int×L
abbrev enA(es:List En):List Ad:=es.flatMap λe=>[e.b,e.t,e.d]
abbrev Yd.adr(Y:Yd):List Ad:=[Y.y,Y.lv,Y.st,Y.fl,Y.rd]++enA Y.es
noncomputable abbrev rfV(a:Ad):Val:=.ref a
noncomputable abbrev rdV(r:Int×Int×Int×L):Val:=.tup [.int r.1,.int r.2.1,.int r.2.2.1,r.2.2.2.v]
abbrev stands(es:List En):List<|Int×Ad:=es.map λe=>(e.num,e.b)
def ZM(es:List En):(stands es).map (·.1)=es.map (·.num):=by unfold stands;rw[õ];rfl
structure fX(h:Hs)(Y:Yd):Prop where
 ins:h Y.y=fJ (.ins "Yard" [("net_made_of",Zr Y.bs Y.ts),("greatest_age",.int Y.most),("lives",.ref Y.lv),("standing",.ref Y.st),("ties_fallen",.ref Y.fl),("letters_on_road",.ref Y.rd)])
 lives:h Y.lv=fJ (.dct<|Zg Val.int Y.lives)
 stand:h Y.st=fJ (.dct<|Zg rfV<|stands Y.es)
 fallen:h Y.fl=fJ (.dct<|Zg Val.bl Y.fallen)
 road:h Y.rd=fJ (.lst<|Y.road.map rdV)
 brs:∀e∈Y.es,fW h e.b e.t e.d e.B
 nd:Y.adr.Nodup
 key:(Y.es.map (·.num)).Nodup
variable {es:List En}{e:En}
def WT(h:e∈es):e.b∈enA es/\e.t∈enA es/\e.d∈enA es:=by refine⟨?_,?_,?_⟩<;>exact Ľ.mpr ⟨e,h,by simp⟩
def Wt(es:List En)(e:En):enA (es++[e])=enA es++[e.b,e.t,e.d]:=by unfold enA;rw[Ε];simp
variable {Y:Yd}
def fX.keep{S:List Ad}(x:fX h Y)(e:Ex S h g)(ds:∀a∈Y.adr,a∉S):fX g Y:=by have m:∀a∈[Y.y,Y.lv,Y.st,Y.fl,Y.rd],a∉S:=λa ha=>ds a<|Ê _ ha;refine⟨e.get (m _<|by simp) x.ins,e.get (m _<|by simp) x.lives,e.get (m _<|by simp) x.stand,e.get (m _<|by simp) x.fallen,e.get (m _<|by simp) x.road,λb hb=>?_,x.nd,x.key⟩;let⟨R,J,I⟩:=WT hb;exact(x.brs b hb).keep e (ds _<|Ç _ R) (ds _<|Ç _ J) (ds _<|Ç _ I)
def fX.ext(x:fX h Y)(e:Ext h g):fX g Y:=x.keep (S:=[]) (.of e) λ_ _=>by simp
def fX.taken(x:fX h Y)(ha:a∈Y.adr):h a≠fK:=by
 rcases Ë.mp ha with ha|ha
 .simp![Å,Õ,or_false]at ha;rcases ha with rfl|rfl|rfl|rfl|rfl
  .rw[x.ins];simp
  .rw[x.lives];simp
  .rw[x.stand];simp
  .rw[x.fallen];simp
  .rw[x.road];simp
 .obtain⟨e,he,ha⟩:=Ľ.mp ha;have:=x.brs e he;simp![Å,Õ,or_false]at ha;rcases ha with rfl|rfl|rfl
  .rw[this.ins];simp
  .rw[this.ties];simp
  .rw[this.held];simp
def Yd.sep(nd:Y.adr.Nodup)(ha:a∈[Y.y,Y.lv,Y.st,Y.fl,Y.rd])(hb:b∈enA Y.es):b≠a:=λz=>(ã.mp nd).2.2 a ha b hb z.symm
def Yd.five(nd:Y.adr.Nodup):(Y.y≠Y.lv/\Y.y≠Y.st/\Y.y≠Y.fl/\Y.y≠Y.rd)/\(Y.lv≠Y.st/\Y.lv≠Y.fl/\Y.lv≠Y.rd)/\(Y.st≠Y.fl/\Y.st≠Y.rd)/\Y.fl≠Y.rd:=by have:=(ã.mp nd).1;simp![ā,Å,Õ,or_false,not_or,not_false_eq_true,Ċ,and_true]at this;let⟨⟨a1,a2,a3,a4⟩,⟨b1,b2,b3⟩,⟨c1,c2⟩,I⟩:=this;exact⟨⟨a1,a2,a3,a4⟩,⟨b1,b2,b3⟩,⟨c1,c2⟩,I⟩
def fW.off(x:fW h e.b e.t e.d e.B)(he:e∈es)(n:∀b∈enA es,b≠a):fW (upd h a o) e.b e.t e.d e.B:=by let⟨R,J,I⟩:=WT he;exact⟨(fN<|n _ R).trans x.ins,(fN<|n _ J).trans x.ties,(fN<|n _ I).trans x.held,x.ne⟩
def fX.setLives(x:fX h Y)(l:List<|Int×Int):fX (upd h Y.lv<|.dct<|Zg Val.int l) {Y with lives:=l}:=by let⟨⟨a1,a2,a3,a4⟩,⟨b1,b2,b3⟩,_,_⟩:=Yd.five x.nd;exact⟨(fN a1).trans x.ins,fO,(fN b1.symm).trans x.stand,(fN b2.symm).trans x.fallen,(fN b3.symm).trans x.road,λe he=>(x.brs e he).off he λb hb=>Yd.sep x.nd (by simp) hb,x.nd,x.key⟩
def fX.setRoad(x:fX h Y)(l:List<|Int×Int×Int×L):fX (upd h Y.rd<|.lst<|l.map rdV) {Y with road:=l}:=by let⟨⟨a1,a2,a3,a4⟩,⟨b1,b2,b3⟩,⟨c1,c2⟩,I⟩:=Yd.five x.nd;exact⟨(fN a4).trans x.ins,(fN b3).trans x.lives,(fN c2).trans x.stand,(fN I).trans x.fallen,fO,λe he=>(x.brs e he).off he λb hb=>Yd.sep x.nd (by simp) hb,x.nd,x.key⟩
def fX.stands(x:fX h Y)(hb:fW h e.b e.t e.d e.B)(hn:e.num∉Y.es.map (·.num))(fr:∀a∈[e.b,e.t,e.d],a∉Y.adr):fX (upd h Y.st<|.dct<|Zg rfV<|stands<|Y.es++[e]) {Y with es:=Y.es++[e]}:=by
 let⟨⟨a1,a2,a3,a4⟩,⟨b1,b2,b3⟩,⟨c1,c2⟩,R⟩:=Yd.five x.nd;have J:Y.st∈Y.adr:=Ê _ (by simp);have nb:∀a∈enA (Y.es++[e]),a≠Y.st:=λa ha=>by
  rw[Wt]at ha;rcases Ë.mp ha with ha|ha
  .exact Yd.sep x.nd (by simp) ha
  .exact λz=>fr a ha<|z▸J
 refine⟨(fN a2).trans x.ins,(fN b1).trans x.lives,fO,(fN c1.symm).trans x.fallen,(fN c2.symm).trans x.road,λq I=>?_,?_,?_⟩
 .refine fW.off ?_ I nb;rcases Ë.mp I with I|I
  .exact x.brs q I
  .rw[Ó.mp I];exact hb
 .show([Y.y,Y.lv,Y.st,Y.fl,Y.rd]++enA (Y.es++[e])).Nodup;rw[Wt,<-ü,ã];refine⟨x.nd,?_,λa ha b hb z=>fr b hb<|z▸ha⟩;simp[hb.nbt,hb.nbd,hb.ne]
 .show((Y.es++[e]).map (·.num)).Nodup;rw[Ö,ã];refine⟨x.key,by simp,λa ha b hb=>?_⟩;have:b=e.num:=⇑hb
  rw[this];exact λz=>hn<|z▸ha
def XC{f I:String}{K:Hs->Prop}(i:g p=fJ (.ins I fs))(x:Ex [p] h0 g)(hp:h0 p=fK)(ha:g a=fK)(m:fs.length<900)(q:∀g',g' p=fJ (.ins I<|f7 fs f<|.ref a)->g' a=fJ o->Ex [p] h0 g'->Ex [p] g g'->p≠a->h0 a=fK->K g'):go (gZ (upd g a o) (.ref p) f<|.ref a) K:=by
 have n:=Za i ha;have y:Ex [p] g<|upd (upd g a o) p<|.ins I<|f7 fs f<|.ref a:=⟨λ{b u} nb e=>by rw[fN λz=>nb<|by simp[z],fN<|Za e ha];exact e⟩
 refine Ym (upd_ne' n i) m<|q _ fO ((fN n.symm).trans fO) (x.trans y) y n ?_;cases z:h0 a with
 |none=>rfl
 |some u=>rw[x.get (by simpa using n.symm) z]at ha;cases ha
structure YNew(bs:List Int)(ts:List Tie)(most:Int)(Y:Yd):Prop where
 hb:Y.bs=bs
 ht:Y.ts=ts
 hm:Y.most=most
 num:Y.es.map (·.num)=bs
 br:∀e∈Y.es,e.B=Z4 e.num 0 most (iA e.num 0 ts)
 fallen:Y.fallen=[]
 road:Y.road=[]
 lives:Y.lives=bs.map λb=>(b,0)
section
variable {bs:List Int}{ts:List Tie}
def CF(no:gh bs ts)(hp:h p=fK)(k:∀Y g,Y.y=p->fX g Y->YNew bs ts most Y->(∀a∈Y.adr,h a=fK)->Ext h g->Q .non g):wF P (n+3) "Yard.__init__" [.ref p,Zr bs ts,.int most] (upd h p<|.ins "Yard" []) Q X:=by
 have h10:=no.ten;have h16:=no.sixteen;have hbl:(bs.map Val.int).length=bs.length:=Á _;have ndb:bs.Nodup:=no.up.imp λh=>by lia
 refine OO ?_;refine' Ym fO (show(1:Nat)<900 by decide) ?_;rw[fP,fP];have i1:=fO (h:=h) (a:=p) (o:=Ob.ins "Yard"<|f7 (f7 [] "net_made_of"<|Zr bs ts) "greatest_age"<|.int most);have x1:Ex [p] h<|upd h p<|Ob.ins "Yard"<|f7 (f7 [] "net_made_of"<|Zr bs ts) "greatest_age"<|.int most:=Ex.upd (by simp);generalize upd h p (Ob.ins "Yard"<|f7 (f7 [] "net_made_of"<|Zr bs ts) "greatest_age"<|.int most)=g1 at i1 x1 ⊢;fail;intro lv R;refine' XC i1 x1 hp R (show(2:Nat)<900 by decide) λg2 i2 lv2 x2 y2 U flv=>?_;fail;intro st θ;refine' XC i2 x2 hp θ (show(3:Nat)<900 by decide) λg3 i3 st3 x3 y3 F fst=>?_;fail;intro fl O;refine' XC i3 x3 hp O (show(4:Nat)<900 by decide) λg4 i4 fl4 x4 y4 nfl ffl=>?_;refine' Yv λrd s=>?_;refine' XC i4 x4 hp s (show(5:Nat)<900 by decide) λg5 i5 rd5 x5 y5 nrd frd=>?_;have q1:lv≠st:=Za lv2 θ;have lv3:=y3.get (by simpa using U.symm) lv2;have q2:lv≠fl:=Za lv3 O;have q3:st≠fl:=Za st3 O;have lv4:=y4.get (by simpa using U.symm) lv3;have st4:=y4.get (by simpa using F.symm) st3;have q4:lv≠rd:=Za lv4 s;have q5:st≠rd:=Za st4 s;have q6:fl≠rd:=Za fl4 s;have lv5:=y5.get (by simpa using U.symm) lv4;have st5:=y5.get (by simpa using F.symm) st4;have fl5:=y5.get (by simpa using nfl.symm) fl4;have xe:Ext h g5:=⟨λ{a o} e=>x5.get (by simpa using Za e hp) e⟩
 have Y0:fX g5 ⟨p,lv,st,fl,rd,bs,ts,most,[],[],[],[]⟩:=⟨i5,lv5,st5,fl5,rd5,(λe he=>iM he Õ),by
   show([p,lv,st,fl,rd]++[]).Nodup
   simp[U,F,nfl,nrd,q1,q2,q3,q4,q5,q6],Ċ⟩
 exists Z5
 refine' Zh (λi en g=>Sm3 λv3 J es=>Cj7 (en=[fJ<|.ref p,fJ<|Zr bs ts,fJ<|.int most,v3]) (fX g ⟨p,lv,st,fl,rd,bs,ts,most,J,es,[],[]⟩) (J=(bs.take i).map (λb=>(b,0))) (es.map (·.num)=bs.take i) ((∀e∈es,e.B=Z4 e.num 0 most (iA e.num 0 ts))) ((∀a∈[p,lv,st,fl,rd]++enA es,h a=fK))<|Ext h g) ⟨_,[],[],rfl,Y0,rfl,rfl,(λe he=>iM he Õ),?_,xe⟩ (λ_ _ _ _ _=>trivial) ?_ ?_
 .intro a ha;simp![enA,List.flatMap_nil,ì,Å,Õ,or_false]at ha;rcases ha with rfl|rfl|rfl|rfl|rfl<;>assumption
 .rintro i v en g hv ⟨v3,J,es,rfl,Y,R,I,W,cf,x⟩ K hK;let⟨b,hb,rfl⟩:=ZI hv;have hi:i<bs.length:=(Ô.mp hb).1;have M:b∉es.map (·.num):=by
   rw[I];intro m;have:=Ye (f:=id) (by rw[Š];exact ndb) hb;rw[Š]at this;exact this m
  have hll:J.length<=10:=by rw[R,Á,ą];lia
  have hkl:b∉J.map (·.1):=by rw[R,õ,show((λq:Int×Int=>q.1) ∘ λb:Int=>(b,(0:Int)))=id from rfl,Š,<-I];exact M
  have hesl:es.length<=10:=by rw[<-Á (f:=(·.num)) (as:=es),I,ą];lia
  let⟨yi,yl,ys,yf,yr,yb,ynd,yk⟩:=id Y;dsimp only at yi yl ys yf yr yb;refine' Yh (k:=.int b) yl ⟨rfl,by rw[Kk];exact Ð hll<|by decide⟩ ?_;rw[ZP (val:=Val.int)];have Y1:=Y.setLives<|ZD J b 0;have x1:Ext h<|upd g lv<|.dct<|Zg Val.int<|ZD J b 0:=⟨λe=>by rw[fN<|Za e flv];exact x.get e⟩
  dsimp only at Y1;generalize upd g lv (.dct<|Zg Val.int<|ZD J b 0)=g6 at Y1 x1;let⟨zi,zl,zs,zf,zr,zb,znd,zk⟩:=id Y1;dsimp only at zi zl zs zf zr zb;refine' XM h16 λpn C hpn x7 en=>?_;have Y7:=Y1.ext x7;fail;intro q hq;have nr:=Ky (b:=b) (l:=ts) (k:=0);have nl:=Aj (b:=b) (l:=ts) (k:=0);have xq:Ext C<|upd C q<|.ins "Bridge" []:=Ext.new hq;have eq:(upd C q<|.ins "Bridge" []) q=fJ (.ins "Bridge" []):=fO;refine Ae (rs:=iA b 0 ts) eq (xq.get en) (nr.1.imp λz=>by lia) ↥0 λt d g8 ht hd ba x8=>?_;have x78:Ext C g8:=⟨λ{a o} e=>x8.get (by simpa using Za e hq)<|xq.get e⟩
  have Y8:=Y7.ext x78;have ht7:C t=fK:=by cases z:C t with|none=>rfl|some o=>rw[xq.get z]at ht;cases ht
  have hd7:C d=fK:=by cases z:C d with|none=>rfl|some o=>rw[xq.get z]at hd;cases hd
  refine⟨rfl,?_⟩;let⟨wi,wl,ws,wf,wr,wb,wnd,wk⟩:=id Y8;dsimp only at wi wl ws wf wr wb;refine' Yh (k:=.int b) ws ⟨rfl,by rw[Kk];unfold stands;rw[Á];exact Ð hesl<|by decide⟩ ?_;rw[ZP (val:=rfV),YK _<|by rw[ZM];exact M];have θ:stands es++[(b,q)]=stands (es++[⟨b,q,t,d,Z4 b 0 most<|iA b 0 ts⟩]):=by unfold stands;rw[Ö];rfl
  rw[θ];have fr:∀a∈[q,t,d],C a=fK:=λa ha=>by simp![Å,Õ,or_false]at ha;rcases ha with rfl|rfl|rfl<;>assumption
  have Y9:=Y8.stands (e:=⟨b,q,t,d,Z4 b 0 most<|iA b 0 ts⟩) ba M λa ha z=>Y7.taken z<|fr a ha;fail;have x9:Ext h g8:=(x1.trans x7).trans x78;refine hK _ _ ⟨_,_,_,rfl,Y9,?_,?_,?_,?_,⟨λe=>by rw[fN<|Za e fst];exact x9.get e⟩⟩
  .show ZD J b 0=_;rw[YK _ hkl,R,Zn hb,Ö];rfl
  .rw[Ö,I,ŝ,hb];rfl
  .intro e he;rcases Ë.mp he with he|he
   .exact W e he
   .rw[Ó.mp he]
  .intro a ha;rw[Wt,<-ü]at ha;rcases Ë.mp ha with ha|ha
   .exact cf a ha
   .cases z:h a with
    |none=>rfl
    |some o=>have:=fr a ha;rw[(x1.trans x7).get z]at this;cases this
 .rintro en g ⟨v3,J,es,rfl,Y,R,I,W,cf,x⟩;rw[hbl,ù]at I R;refine' k _ g rfl Y ⟨rfl,rfl,rfl,I,W,rfl,rfl,R⟩ cf x
end
abbrev QD(ts:List Tie)(p num:Int):Int:=far (ts[p.toNat]?.getD (0,0,0)) num
abbrev Yr(ts:List Tie)(num:Int)(B:Br):List<|Int×Int×Int×L:=(sortI (B.ties.map (·.1))).map λp=>(num,QD ts p num,p,ZF B p)
def Xk(h:(stands es).lookup num=fJ b):∃e pre I,es=pre++e::I/\e.num=num/\e.b=b:=by have:=Zt h;unfold stands at this;let⟨e,he,z⟩:=Ü.mp this;let⟨pre,I,rfl⟩:=fe he;injection z with z1 z2;exact⟨e,pre,I,rfl,z1,z2⟩
def YR(pre I:List En)(e:En):enA (pre++e::I)=enA pre++([e.b,e.t,e.d]++enA I):=by unfold enA;rw[Ε];rfl
variable {ŀ:List En}
def fX.change(x:fX h Y)(he:Y.es=pre++e::ŀ)(ex:Ex [e.b] h g)(hb:fW g e.b t d B)(ft:t=e.t\/h t=fK)(fd:d=e.d\/h d=fK):fX g {Y with es:=pre++⟨e.num,e.b,t,d,B⟩::ŀ}:=by
 let⟨y,lv,st,fl,rd,bs,ts,most,lives,es,fallen,road⟩:=Y;dsimp only at he;subst he;have hm:e∈pre++e::ŀ:=by simp
 have W:=WT hm;have nb:∀a∈[y,lv,st,fl,rd],a∉[e.b]:=λa ha z=>Yd.sep x.nd ha W.1 (Ó.mp z).symm;have k:([y,lv,st,fl,rd]++(enA pre++([e.b,e.t,e.d]++enA ŀ))).Nodup:=by rw[<-YR];exact x.nd
 have key:∀q∈pre++ŀ,fW g q.b q.t q.d q.B:=λq I=>by
  have O:q∈pre++e::ŀ:=by
   rcases Ë.mp I with z|z
   .exact Ê _ z
   .exact Ç _<|Ý _ z
  have F:∀a∈[q.b,q.t,q.d],a≠e.b:=λa ha z=>by
   have J:=(ã.mp k).2.1;rcases Ë.mp I with I|I
   .have R:a∈enA pre:=Ľ.mpr ⟨q,I,ha⟩;exact(ã.mp J).2.2 a R e.b (by simp) z
   .have R:a∈enA ŀ:=Ľ.mpr ⟨q,I,ha⟩;have U:=(ã.mp J).2.1;exact(ã.mp U).2.2 e.b (by simp) a R z.symm
  exact(x.brs q O).keep ex (by simpa using F _ (by simp)) (by simpa using F _ (by simp)) (by simpa using F _ (by simp))
 have tk:∀a∈[y,lv,st,fl,rd]++(enA pre++([e.b,e.t,e.d]++enA ŀ)),h a≠fK:=λa ha=>x.taken (by show a∈[y,lv,st,fl,rd]++enA (pre++e::ŀ);rw[YR];exact ha);have fr:∀{a c:Ad},(a=c\/h a=fK)->∀z,z∈[y,lv,st,fl,rd]++(enA pre++([e.b,e.t,e.d]++enA ŀ))->z≠c->z≠a:=λf z v nc e=>by
  subst e;rcases f with f|f
  .exact nc f
  .exact tk z v f
 refine⟨ex.get (nb _<|by simp) x.ins,ex.get (nb _<|by simp) x.lives,?_,ex.get (nb _<|by simp) x.fallen,ex.get (nb _<|by simp) x.road,λq I=>?_,?_,?_⟩
 .have:=ex.get (nb st<|by simp) x.stand;dsimp only at this ⊢;rw[this];unfold iG.stands;simp
 .dsimp only at I;rcases Ë.mp I with z|z
  .exact key q<|Ê _ z
  .rcases Å.mp z with rfl|z
   .exact hb
   .exact key q<|Ç _ z
 .show([y,lv,st,fl,rd]++enA (pre++⟨e.num,e.b,t,d,B⟩::ŀ)).Nodup;rw[YR];dsimp only;have J:=ã.mp k;have U:=ã.mp J.2.1;have M:=ã.mp U.2.1;have e3:e.b≠e.t/\e.b≠e.d/\e.t≠e.d:=by
   have:=M.1;simp![ā,Å,Õ,or_false,not_or,Ċ,and_true,not_false_eq_true]at this;exact⟨this.1.1,this.1.2,this.2⟩
  have out:∀z,z∈[y,lv,st,fl,rd]\/z∈enA pre\/z∈enA ŀ->z∉[e.b,t,d]:=λz v m=>by
   have s:z∈[y,lv,st,fl,rd]++(enA pre++([e.b,e.t,e.d]++enA ŀ)):=by
    rcases v with q|q|q
    .exact Ê _ q
    .exact Ç _<|Ê _ q
    .exact Ç _<|Ç _<|Ç _ q
   have C:∀c∈[e.b,e.t,e.d],z≠c:=λc hc w=>by
    rcases v with q|q|q
    .exact J.2.2 z q c (Ç _<|Ê _ hc) w
    .exact U.2.2 z q c (Ê _ hc) w
    .exact M.2.2 c hc z q w.symm
   simp![Å,Õ,or_false]at m;rcases m with m|m|m
   .exact C e.b (by simp) m
   .exact fr ft z s (C e.t<|by simp) m
   .exact fr fd z s (C e.d<|by simp) m
  refine ã.mpr ⟨J.1,ã.mpr ⟨U.1,ã.mpr ⟨?_,M.2.1,λa ha b hb z=>out b (.inr<|.inr hb)<|z▸ha⟩,λa ha b hb z=>?_⟩,λa ha b hb z=>?_⟩
  .simp[hb.nbt,hb.nbd,hb.ne]
  .rcases Ë.mp hb with q|q
   .exact out a (.inr<|.inl ha)<|z▸q
   .exact U.2.2 a ha b (Ç _ q) z
  .rcases Ë.mp hb with q|q
   .exact J.2.2 a ha b (Ê _ q) z
   .rcases Ë.mp q with q|q
    .exact out a (.inl ha)<|z▸q
    .exact J.2.2 a ha b (Ç _<|Ç _ q) z
 .have:=x.key;simpa using this
def fX.inner(x:fX h Y)(he:Y.es=pre++e::ŀ)(ex:Ex [e.b,e.t,e.d] h g)(hb:fW g e.b e.t e.d B):fX g {Y with es:=pre ++ {e with B:=B} :: ŀ}:=by
 let⟨y,lv,st,fl,rd,bs,ts,most,lives,es,fallen,road⟩:=Y;dsimp only at he;subst he;have J:([y,lv,st,fl,rd]++(enA pre++([e.b,e.t,e.d]++enA ŀ))).Nodup:=by rw[<-YR];exact x.nd
 have s:=ã.mp J;have k:=ã.mp s.2.1;have v:=ã.mp k.2.1;have nb:∀a∈[y,lv,st,fl,rd],a∉[e.b,e.t,e.d]:=λa ha z=>s.2.2 a ha a (Ç _<|Ê _ z) rfl;have key:∀q,q∈pre\/q∈ŀ->fW g q.b q.t q.d q.B:=λq I=>by
  have U:q∈pre++e::ŀ:=by
   rcases I with z|z
   .exact Ê _ z
   .exact Ç _<|Ý _ z
  have R:∀a∈[q.b,q.t,q.d],a∉[e.b,e.t,e.d]:=λa ha z=>by
   rcases I with I|I
   .exact k.2.2 a (Ľ.mpr ⟨q,I,ha⟩) a (Ê _ z) rfl
   .exact v.2.2 a z a (Ľ.mpr ⟨q,I,ha⟩) rfl
  exact(x.brs q U).keep ex (R _<|by simp) (R _<|by simp) (R _<|by simp)
 refine⟨ex.get (nb _<|by simp) x.ins,ex.get (nb _<|by simp) x.lives,?_,ex.get (nb _<|by simp) x.fallen,ex.get (nb _<|by simp) x.road,λq I=>?_,?_,?_⟩
 .have:=ex.get (nb st<|by simp) x.stand;dsimp only at this ⊢;rw[this];unfold iG.stands;simp
 .dsimp only at I;rcases Ë.mp I with z|z
  .exact key q<|.inl z
  .rcases Å.mp z with rfl|z
   .exact hb
   .exact key q<|.inr z
 .show([y,lv,st,fl,rd]++enA (pre ++ {e with B:=B} :: ŀ)).Nodup;rw[YR];exact J
 .have:=x.key;dsimp only at this ⊢;simpa using this
def PF{xs:List Val}{v:Val}{p:Nat}{K:Val×Hs->Prop}(U:h a=fJ (.lst xs))(e:xs[p]?=fJ v)(m:xs.length<=500000)(q:K (v,upd h a<|.lst<|xs.eraseIdx p)):go (bmV h .popAt (.ref a) [.int p]) K:=by
 have hp:p<xs.length:=(Ô.mp e).1;have R:-(2 ^ 62)<(p:Int)/\(p:Int)<2 ^ 62:=by
  have:(p:Int)<500000:=by lia
  exact⟨Int.lt_of_lt_of_le (by decide:(-(2 ^ 62):Int)<0)<|fI p,Int.lt_trans this<|by decide⟩
 have J:ixN xs.length (p:Int)=fJ p:=by unfold ixN;rw[iH<|fI p,iH ↥0,ç]
 have I:bmPopAt h [.int p] a xs=fJ (v,upd h a<|.lst<|xs.eraseIdx p):=by unfold bmPopAt;dsimp only;rw[iH R,J];simp![ê,e,œ]
 exact fR (by show(fY<|h a).bind (bmPopAt h [.int p] a)=_;rw[lsE U,ê];exact I) q
def map_erase{α β:Type}(f:α->β):∀(l:List α) (i:Nat),(l.map f).eraseIdx i=(l.eraseIdx i).map f
 |[],_=>by simp
 |_::_,0=>by simp
 |x::l,i+1=>by simp[map_erase f l i]
section
variable {Y:Yd}{p:Nat}
variable {r:Int×Int×Int×L}
def Wd(x:fX h Y)(J:Y.road[p]?=fJ r)(hl:Y.road.length<=500000)(k:∀g,fX g {Y with road:=Y.road.eraseIdx p}->Ex [Y.rd] h g->Q (rdV r) g):wF P (n+1) "Yard.take_off" [.ref Y.y,.int p] h Q X:=by have U:=x.ins;have R:=x.road;have hp:p<Y.road.length:=(Ô.mp J).1;have I:(Y.road.map rdV).length=Y.road.length:=Á _;refine Jd ?_;fail;refine hZ (by simp) ?_;fail;refine ie (by rw[I];simpa using hp) ?_;refine' PF R (by rw[Ø,J];rfl) ↥0 ?_;rw[map_erase];exact k _ (x.setRoad _) (Ex.upd<|by simp)
def HH(x:fX h Y)(F:Y.road[p]?=fJ r)(hl:Y.road.length<=500000)(he:Y.es=pre++e::ŀ)(U:r.2.1=e.num)(o:e.B.ok)(k:∀g,fX g {Y with es:=pre ++ {e with B:=Yu e.B r.2.2.1 r.2.2.2} :: ŀ,road:=Y.road.eraseIdx p}->Ex Y.adr h g->Q .non g):wF P (n+3) "Yard.come" [.ref Y.y,.int p] h Q X:=by
 have M:=x.ins;have hm:e∈Y.es:=by rw[he];simp
 have R:(stands Y.es).lookup r.2.1=fJ e.b:=by rw[U];exact ZQ (by rw[ZM];exact x.key)<|Ü.mpr ⟨e,hm,rfl⟩
 refine W3 ?_;refine' Wd x F hl λg1 I x1=>?_;have v:=I.ins;have J:=I.stand;have s:=I.brs e hm;have bi:=s.ins;dsimp only at v J;let⟨rs,rg,rt,O⟩:=r;dsimp only at R U k
 exists JF J rfl
 rw[Xh,R];walk_at "p";refine Zk J rfl (by rw[Zz,R];rfl) ?_;refine' Hl s o λg2 b2 x2=>?_;have z:=I.inner (e:=e) he (x2.sub<|by simp) b2;have C:=WT hm;refine' k g2 z ((x1.sub λa ha=>?_).trans<|x2.sub λa ha=>?_)
 .rw[Ó.mp ha];exact Ê _ (by simp)
 .rw[Ó.mp ha];exact Ç _ C.2.2
def Cu(x:fX h Y)(v:Y.road[p]?=fJ r)(hl:Y.road.length<=500000)(U:r.2.1∉Y.es.map (·.num))(k:∀g,fX g {Y with road:=Y.road.eraseIdx p}->Ex Y.adr h g->Q .non g):wF P (n+3) "Yard.come" [.ref Y.y,.int p] h Q X:=by
 have C:=x.ins;have R:(stands Y.es).lookup r.2.1=fK:=by
  cases z:(stands Y.es).lookup r.2.1 with
  |none=>rfl
  |some q =>have:=ñ (f:=(·.1))<|Zt z;rw[ZM]at this;exact iM this U
 refine W3 ?_;refine' Wd x v hl λg1 I x1=>?_;have s:=I.ins;have J:=I.stand;dsimp only at s J;let⟨rs,rg,rt,F⟩:=r;dsimp only at R U k
 exists JF J rfl
 rw[Xh,R];walk_at "p";exact k g1 I (x1.sub λa ha=>by rw[Ó.mp ha];exact Ê _<|by simp)
end
abbrev Yq(k:Int)(F:Br->Br)(es:List En):List En:=es.map λe=>if e.num=k then {e with B:=F e.B} else e
def WJ:∀{es:List En},k∉es.map (·.num)->Yq k F es=es
 |[],_=>rfl
 |e::es,h=>by rw[Ò,Å,not_or]at h;unfold Yq;rw[Ò,iI λz=>h.1 z.symm];exact congrArg (e :: ·)<|WJ h.2
variable {F:Br->Br}
def OF(nd:((pre++e::ŀ).map (·.num)).Nodup):Yq e.num F (pre++e::ŀ)=pre ++ {e with B:=F e.B} :: ŀ:=by rw[Ö,Ò,ã,ā]at nd;have J:Yq e.num F pre=pre:=WJ λz=>nd.2.2 _ z e.num (by simp) rfl;have I:Yq e.num F ŀ=ŀ:=WJ nd.2.1.1;unfold Yq at J I ⊢;rw[Ö,Ò,J,I,iH rfl]
def Oc(es:List En):(Yq k F es).map (·.num)=es.map (·.num):=by unfold Yq;rw[õ];refine ĩ λe _=>?_;show(if e.num=k then({e with B:=F e.B}:En)else e).num=e.num;split<;>rfl
def OI(es:List En):stands (Yq k F es)=stands es:=by unfold Yq stands;rw[õ];refine ĩ λe _=>?_;show((if e.num=k then({e with B:=F e.B}:En)else e).num,(if e.num=k then({e with B:=F e.B}:En)else e).b)=_;split<;>rfl
def Wp{k:Int}{F:Br->Br}:∀es:List En,enA (Yq k F es)=enA es
 |[]=>rfl
 |e::es=>by have:=Wp (k:=k) (F:=F) es;unfold Yq enA at this ⊢;rw[Ò,ſ,ſ,this];split<;>rfl
def NR{k:Int}{q:En}(h:q∈Yq k F es):(q∈es/\q.num≠k)\/∃e∈es,e.num=k/\q={e with B:=F e.B}:=by
 let⟨e,he,rfl⟩:=Ü.mp h;by_cases z:e.num=k
 .right;exact⟨e,he,z,by rw[iH z]⟩
 .left;rw[iI z];exact⟨he,z⟩
abbrev tieF(on:Bool)(p:Int)(far c:Int)(B:Br):Br:=if on then upB B p (far,c)else C8 B p
abbrev setT(on:Bool)(p:Int)(t:Tie)(es:List En):List En:=Yq t.2.1 (tieF on p t.1 t.2.2)<|Yq t.1 (tieF on p t.2.1 t.2.2) es
abbrev onT(Y:Yd)(p:Int)(t:Tie):Bool:=!(Y.fallen.lookup p).isSome&&(((stands Y.es).lookup t.1).isSome&&((stands Y.es).lookup t.2.1).isSome)
section
def fX.one(x:fX h Y)(he:e∈Y.es)(ex:Ex [e.b,e.t,e.d] h g)(hb:fW g e.b e.t e.d<|F e.B):fX g {Y with es:=Yq e.num F Y.es}:=by let⟨pre,ŀ,I⟩:=fe he;have k:=x.key;rw[I]at k;rw[I,OF k];exact x.inner I ex hb
end
noncomputable abbrev FM:Ss:=#[.ite (.val<|.var 5) #[.expr<|.meth "Bridge" "up" (.idx (.fld (.var 0) "standing")<|.var 6) #[.var 1,.var 7,.var 4]] #[.ite (.val<|.cmp .isin (.var 6)<|.fld (.var 0) "standing") #[.expr<|.meth "Bridge" "down" (.idx (.fld (.var 0) "standing")<|.var 6) #[.var 1]] .nil]]
section
variable {Y:Yd}
def Nl{p:Nat}{t1 I:Int}{on:Bool}(x:fX h Y)(hn:t1≠I)(gd:∀e∈Y.es,e.B.ok)(hon:∀near far:Int,(near=t1/\far=I\/near=I/\far=t1)->on=fL->∃b,(stands Y.es).lookup near=fJ b)(k:∀g e,fX g {Y with es:=setT on p (t1,I,c) Y.es}->Ex Y.adr h g->R e g) :
  wFor (λ_=>True) (λv e g K M=>go (bind (.many [6,7]) g v e) λe2=>wSs (wF P<|n+1) FM e2 g K Q M K λ_ c g=>X c g) R [.tup [.int t1,.int I],.tup [.int I,.int t1]] [fJ<|.ref Y.y,fJ<|.int p,fJ<|.int t1,fJ<|.int I,fJ<|.int c,fJ<|.bl on,v6,v7] h:=by
 refine Zh (λi e g=>∃v6 v7 es',e=[fJ<|.ref Y.y,fJ<|.int p,fJ<|.int t1,fJ<|.int I,fJ<|.int c,fJ<|.bl on,v6,v7]/\fX g {Y with es:=es'}/\Ex Y.adr h g/\(i=0->es'=Y.es)/\(i=1->es'=Yq t1 (tieF on p I c) Y.es)/\(i=2->es'=setT on p (t1,I,c) Y.es)) ⟨_,_,Y.es,rfl,x,Ex.refl,λ_=>rfl,λz=>(by cases z),λz=>(by cases z)⟩ (λ_ _ _ _ _=>trivial) ?_ ?_
 .rintro i v e g U ⟨u6,u7,es',rfl,y,xg,q0,q1,q2⟩ K hK;obtain⟨near,far,rfl,hnf,θ,heA,hgd,J⟩:∃near far,v=.tup [.int near,.int far]/\(near=t1/\far=I\/near=I/\far=t1)/\stands es'=stands Y.es/\enA es'=enA Y.es/\(∀e∈es',e.num=near->e.B.ok)/\∀O,O=Yq near (tieF on p far c) es'->(i+1=0->O=Y.es)/\(i+1=1->O=Yq t1 (tieF on p I c) Y.es)/\(i+1=2->O=setT on p (t1,I,c) Y.es):=by
   match i,U with
   |0,U =>cases U;have:=q0 rfl;subst this;exact⟨t1,I,rfl,.inl ⟨rfl,rfl⟩,rfl,rfl,λe he _=>gd e he,λO z=>⟨λy=>(by cases y),λ_=>z,λy=>(by cases y)⟩⟩
   |1,U =>
    cases U;have:=q1 rfl;subst this;refine⟨I,t1,rfl,.inr ⟨rfl,rfl⟩,OI _,Wp _,λe he hz=>?_,λO z=>⟨λy=>(by cases y),λy=>(by cases y),λ_=>z⟩⟩;rcases NR he with⟨hm,_⟩|⟨q,hq,hq1,hq2⟩
    .exact gd e hm
    .exact iM (by rw[hq2]at hz;exact hq1.symm.trans hz) hn
   |i+2,U=>simp at U
  have yi:=y.ins;have ys:=y.stand;dsimp only at yi ys;have step:∀{e:En}{g':Hs},e∈es'->e.num=near->Ex [e.b,e.t,e.d] g g'->fW g' e.b e.t e.d (tieF on p far c e.B)->∀w6 w7,K [fJ<|.ref Y.y,fJ<|.int p,fJ<|.int t1,fJ<|.int I,fJ<|.int c,fJ<|.bl on,w6,w7] g':=λ{e g'} he C ex hb w6 w7=>by
   have y':=y.one (F:=tieF on p far c) he ex hb;rw[C]at y';have mA:=WT he;refine hK _ _ ⟨w6,w7,_,rfl,y',xg.trans<|ex.sub λa ha=>?_,J _ rfl⟩;refine Ç _ ?_;rw[<-heA];simp![Å,Õ,or_false]at ha;rcases ha with rfl|rfl|rfl
   .exact mA.1
   .exact mA.2.1
   .exact mA.2.2
  fail;cases hob:on with
  |true =>
   let⟨b,lk⟩:=hon near far hnf hob;rw[<-θ]at lk;let⟨e,pre,ŀ,hs,C,s⟩:=Xk lk;have hm:e∈es':=by rw[hs];simp
   have W:=y.brs e hm;have bi:=W.ins;subst s;refine hZ rfl ?_;refine' Zk ys rfl (by rw[Zz,lk];rfl) ?_;refine' RE W (hgd e hm C) λg' b' x'=>?_;fail;rw[<-hob];exact step hm C (x'.sub<|by simp) (by unfold tieF;rw[hob];exact b') _ _
  |false =>
   refine ie rfl ?_
   exists JF ys rfl
   rw[Xh];cases hlk:(stands es').lookup near with
   |none =>
    walk_at "p";rw[<-hob];refine hK _ _ ⟨_,_,es',rfl,y,xg,J es' (WJ ?_).symm⟩;have:=XG hlk
    rwa [ZM]at this
   |some b =>
    let⟨e,pre,ŀ,hs,C,s⟩:=Xk hlk;have hm:e∈es':=by rw[hs];simp
    have W:=y.brs e hm;have bi:=W.ins;subst s;walk_at "p";refine Zk ys rfl (by rw[Zz,hlk];rfl) ?_;refine' GW W λg' b' x'=>?_;fail;rw[<-hob];exact step hm C (x'.sub<|by simp) (by unfold tieF;rw[hob];exact b') _ _
 .rintro e g ⟨u6,u7,es',rfl,y,xg,q0,q1,q2⟩;have:=q2 rfl;subst this;exact k _ _ y xg
def WU{p:Nat}{t:Tie}(x:fX h Y)(M:Y.ts[p]?=fJ t)(hn:t.1≠t.2.1)(gd:∀e∈Y.es,e.B.ok)(k:∀g,fX g {Y with es:=setT (onT Y p t) p t Y.es}->Ex Y.adr h g->Q .non g):wF P (n+2) "Yard.set_tie" [.ref Y.y,.int p] h Q X:=by
 have O:=x.ins;have xs:=x.stand;have s:=x.fallen;let⟨t1,J,c⟩:=t;dsimp only at hn;have fin:onT Y p (t1,J,c)=onT Y p (t1,J,c)->∀near far:Int,(near=t1/\far=J\/near=J/\far=t1)->onT Y p (t1,J,c)=fL->∃b,(stands Y.es).lookup near=fJ b:=λ_ near far C U=>by
  simp![onT,bAq]at U;rcases C with⟨rfl,_⟩|⟨rfl,_⟩
  .exact ô.mp U.2.1
  .exact ô.mp U.2.2
 refine J9 ?_
 exists Wv
 refine' fS (v:=.tup [.int t1,.int J,.int c]) (YN ↥0<|by rw[Ø,ç,M];rfl) ?_
 exists XX s rfl
 rw[Xh];obtain⟨on,I⟩:∃on:Bool,on=onT Y p (t1,J,c):=⟨_,rfl⟩
 rw[<-I]at k fin;have fin:=fin rfl;cases e1:(Y.fallen.lookup (p:Int)).isSome with
 |true =>
  have z:fM=on:=by rw[I];unfold onT;rw[e1];rfl
  walk_at "p";rw[z];exact Nl x hn gd fin λg e y R=>by fail;exact k g y R
 |false =>
  walk_at "p";refine JF xs rfl ?_;rw[Xh];cases e2:((stands Y.es).lookup t1).isSome with
  |false =>
   have z:fM=on:=by rw[I];unfold onT;rw[e1,e2];rfl
   walk_at "p";rw[z];exact Nl x hn gd fin λg e y R=>by fail;exact k g y R
  |true =>
   walk_at "p";refine JF xs rfl ?_;rw[Xh];have z:((stands Y.es).lookup J).isSome=on:=by rw[I];unfold onT;rw[e1,e2];rfl
   rw[z];refine' Nl x hn gd fin λg e y R=>by fail;exact k g y R
end
variable {on:Bool}
def M3{p far:Int}(o:B.ok)(h0:0<=p)(h1:p<16):(tieF on p far c B).ok:=by
 unfold tieF;split
 .exact o.up h0 h1
 .exact o.down p
def Ag(gd:∀e∈es,e.B.ok)(J:∀B,B.ok->(F B).ok):∀e∈Yq k F es,e.B.ok:=λq I=>by
 rcases NR I with⟨hm,_⟩|⟨e,he,_,rfl⟩
 .exact gd q hm
 .exact J _<|gd e he
def FP{p:Int}{t:Tie}(gd:∀e∈es,e.B.ok)(h0:0<=p)(h1:p<16):∀e∈setT on p t es,e.B.ok :=
 Ag (Ag gd λ_ o=>M3 o h0 h1) λ_ o=>M3 o h0 h1
def Dv{p:Int}{t:Tie}(es:List En):(setT on p t es).map (·.num)=es.map (·.num):=by unfold setT;rw[Oc,Oc]
def Ko{p:Int}{t:Tie}(es:List En):enA (setT on p t es)=enA es:=by unfold setT;rw[Wp,Wp]
abbrev ZU(Y:Yd)(l:List Tie):Yd:=l.foldl (λY r=>{Y with es:=setT (onT Y r.1<|Y.ts[r.1.toNat]?.getD (0,0,0)) r.1 (Y.ts[r.1.toNat]?.getD (0,0,0)) Y.es}) Y
def J3(Y:Yd)(l:List Tie)(r:Tie):ZU Y (l++[r])={ZU Y l with es:=setT (onT (ZU Y l) r.1<|(ZU Y l).ts[r.1.toNat]?.getD (0,0,0)) r.1 ((ZU Y l).ts[r.1.toNat]?.getD (0,0,0)) (ZU Y l).es}:=by unfold ZU;rw[List.foldl_append];rfl
structure Same(Y Z:Yd):Prop where
 y:Z.y=Y.y
 lv:Z.lv=Y.lv
 st:Z.st=Y.st
 fl:Z.fl=Y.fl
 rd:Z.rd=Y.rd
 bs:Z.bs=Y.bs
 ts:Z.ts=Y.ts
 most:Z.most=Y.most
 lives:Z.lives=Y.lives
 fallen:Z.fallen=Y.fallen
 road:Z.road=Y.road
 num:Z.es.map (·.num)=Y.es.map (·.num)
 enA:enA Z.es=enA Y.es
def Same.adr(s:Same Y Z):Z.adr=Y.adr:=by unfold Yd.adr;rw[s.y,s.lv,s.st,s.fl,s.rd,s.enA]
def Same.refl:Same Y Y:=⟨rfl,rfl,rfl,rfl,rfl,rfl,rfl,rfl,rfl,rfl,rfl,rfl,rfl⟩
def Same.trans(a:Same Y Z)(b:Same Z W):Same Y W:=⟨b.y.trans a.y,b.lv.trans a.lv,b.st.trans a.st,b.fl.trans a.fl,b.rd.trans a.rd,b.bs.trans a.bs,b.ts.trans a.ts,b.most.trans a.most,b.lives.trans a.lives,b.fallen.trans a.fallen,b.road.trans a.road,b.num.trans a.num,b.enA.trans a.enA⟩
def Same.setT{p:Int}{t:Tie}:Same Y {Y with es:=setT on p t Y.es}:=⟨rfl,rfl,rfl,rfl,rfl,rfl,rfl,rfl,rfl,rfl,rfl,Dv _,Ko _⟩
def YT:∀(l:List Tie) (Y:Yd),Same Y (ZU Y l)
 |[],_=>.refl
 |_::l,_=>Same.setT.trans<|YT l _
section
def Ki{b:Int}(no:gh Y.bs Y.ts)(x:fX h Y)(gd:∀e∈Y.es,e.B.ok)(k:∀g,fX g (ZU Y<|iA b 0 Y.ts)->(∀e∈(ZU Y<|iA b 0 Y.ts).es,e.B.ok)->Ex Y.adr h g->Q .non g):wF P (n+3) "Yard.set_ties_of" [.ref Y.y,.int b] h Q X:=by
 have xi:=x.ins;have h16:=no.sixteen;refine Wa ?_;refine' XM no.sixteen λp g0 hp x0 e0=>?_;fail;have x':=x.ext x0;have M:p∉Y.adr:=λz=>x.taken z hp;refine Zh (λi e g=>Sm3 λv2 C v4=>Cj4 (e=[fJ<|.ref Y.y,fJ<|.int b,v2,C,v4]) (fX g<|ZU Y<|(iA b 0 Y.ts).take i) ((∀e∈(ZU Y<|(iA b 0 Y.ts).take i).es,e.B.ok))<|Ex Y.adr g0 g) ⟨_,_,_,rfl,x',gd,Ex.refl⟩ (λi e g _ ⟨_,_,_,_,_,_,z⟩=>lsE<|z.get M e0) ?_ ?_
 .rintro i v e g hv ⟨v2,C,v4,rfl,y,U,s⟩ K hK;let⟨r,O,rfl⟩:=ZI hv;have J:=YT ((iA b 0 Y.ts).take i) Y;have rg:=(Ky (b:=b) (l:=Y.ts) (k:=0)).2 r<|é O;obtain⟨q,hq⟩:∃q:Nat,r.1=q:=⟨r.1.toNat,by lia⟩
  have R:q<Y.ts.length:=by lia
  have et:(ZU Y<|(iA b 0 Y.ts).take i).ts[q]?=fJ Y.ts[q]:=by rw[J.ts];exact É R
  have lo:=no.tie _<|þ R;have yi:=y.ins;rw[J.y]at yi;let⟨r1,r2,r3⟩:=r;dsimp only at hq;subst hq;unfold trV;fail;rw[<-J.y];refine WU y et (by have:=lo.2.2.1;lia) U λg1 y1 I=>?_;rw[J.adr]at I;fail;rw[J.y];refine hK _ _ ⟨_,_,_,rfl,?_,?_,s.trans I⟩
  .rw[Zn O,J3];dsimp only;rw[ç,et];exact y1
  .rw[Zn O,J3];dsimp only;rw[ç,et];exact FP U ↥0 ↥0
 .rintro e g ⟨v2,C,v4,rfl,y,U,s⟩;rw[Á,ù]at y U;refine' k g y U ((Ex.of x0).trans s)
end
abbrev YC(b:Int)(es:List En):List En:=es.filter λe=>iN (e.num≠b)
def M8(b:Int)(es:List En):Zx (stands es) b=stands (YC b es):=by unfold Zx stands YC;rw[List.filter_map];rfl
def XD(b:Int)(es:List En):(YC b es).Sublist es:=ŧ
def Jh(h:es.Sublist fs):(enA es).Sublist<|enA fs:=by
 induction h with
 |slnil=>exact .slnil
 |cons a _ ih=>unfold enA at ih ⊢;rw[ſ];exact ih.trans<|List.sublist_append_right _ _
 |cons_cons a _ ih=>unfold enA at ih ⊢;rw[ſ,ſ];exact(Ũ _).append ih
def fX.drop(x:fX h Y)(b:Int):fX (upd h Y.st<|.dct<|Zg rfV<|iG.stands<|YC b Y.es) {Y with es:=YC b Y.es}:=by
 let⟨⟨a1,a2,a3,a4⟩,⟨b1,b2,b3⟩,⟨c1,c2⟩,R⟩:=Yd.five x.nd;have I:=XD b Y.es;have nb:∀a∈enA (YC b Y.es),a≠Y.st:=λa ha=>Yd.sep x.nd (by simp)<|(Jh I).subset ha;refine⟨(fN a2).trans x.ins,(fN b1).trans x.lives,fO,(fN c1.symm).trans x.fallen,(fN c2.symm).trans x.road,λq J=>(x.brs q<|I.subset J).off J nb,?_,?_⟩
 .exact((Ũ _).append<|Jh I).nodup x.nd
 .exact(I.map _).nodup x.key
def fX.setFallen(x:fX h Y)(l:List<|Int×Bool):fX (upd h Y.fl<|.dct<|Zg Val.bl l) {Y with fallen:=l}:=by let⟨⟨a1,a2,a3,a4⟩,⟨b1,b2,b3⟩,⟨c1,c2⟩,I⟩:=Yd.five x.nd;exact⟨(fN a3).trans x.ins,(fN b2).trans x.lives,(fN c1).trans x.stand,fO,(fN I.symm).trans x.road,λe he=>(x.brs e he).off he λb hb=>Yd.sep x.nd (by simp) hb,x.nd,x.key⟩
section
def E2{b:Int}(no:gh Y.bs Y.ts)(x:fX h Y)(gd:∀e∈Y.es,e.B.ok)(hb:b∈Y.es.map (·.num))(k:∀g,fX g (ZU {Y with es:=YC b Y.es}<|iA b 0 Y.ts)->(∀e∈(ZU {Y with es:=YC b Y.es}<|iA b 0 Y.ts).es,e.B.ok)->Ex Y.adr h g->Q .non g):wF P (n+4) "Yard.fall_of_bridge" [.ref Y.y,.int b] h Q X:=by
 have v:=x.ins;have xs:=x.stand;obtain⟨a,R⟩:∃a,(stands Y.es).lookup b=fJ a:=ZN (by rw[ZM];exact hb);refine Xa ?_
 exists XX xs rfl
 rw[Xh,R];walk_at "p";refine Ee xs rfl (by rw[Zz,R];rfl) ?_;rw[WF,M8];dsimp only;have I:=x.drop b;have x1:Ex Y.adr h<|upd h Y.st<|.dct<|Zg rfV<|stands<|YC b Y.es:=Ex.upd (Ê _<|by simp);generalize upd h Y.st (.dct<|Zg rfV<|stands<|YC b Y.es)=g1 at I x1;have U:=I.ins;dsimp only at U;refine' Ki (Y:={Y with es:=YC b Y.es}) no I (λe he=>gd e<|(XD b Y.es).subset he) λg2 s J x2=>?_;refine' k g2 s J (x1.trans<|x2.sub λa ha=>?_);exact((Ũ _).append<|Jh<|XD b Y.es).subset ha
end
section
def DT{p:Nat}{t:Tie}(no:gh Y.bs Y.ts)(x:fX h Y)(gd:∀e∈Y.es,e.B.ok)(R:Y.ts[p]?=fJ t)(hf:Y.fallen.lookup (p:Int)=fK)(hl:Y.fallen.length<=100)(k:∀g,fX g {Y with fallen:=ZD Y.fallen p fL,es:=setT (onT {Y with fallen:=ZD Y.fallen p fL} p t) p t Y.es}->Ex Y.adr h g->Q .non g):wF P (n+3) "Yard.fall_of_tie" [.ref Y.y,.int p] h Q X:=by
 have z:=x.ins;have U:=x.fallen;have hp:p<Y.ts.length:=(Ô.mp R).1;have J:(Y.ts.map trV).length=Y.ts.length:=Á _;have lo:=no.tie _<|é R;refine XZ ?_
 exists Xm
 fail;refine hZ (by simp) ?_
 exists Wv
 fail;refine ie (by rw[J];simpa using hp) ?_
 exists JF U rfl
 rw[Xh,hf];walk_at "p";refine Yh (k:=.int p) U ⟨rfl,by rw[Kk];exact Ð hl<|by decide⟩ ?_;rw[ZP (val:=Val.bl)];have I:=x.setFallen<|ZD Y.fallen p fL;have x1:Ex Y.adr h<|upd h Y.fl<|.dct<|Zg Val.bl<|ZD Y.fallen p fL:=Ex.upd (Ê _<|by simp);generalize upd h Y.fl (.dct<|Zg Val.bl<|ZD Y.fallen p fL)=g1 at I x1;have s:=I.ins;dsimp only at s;refine' WU (Y:={Y with fallen:=ZD Y.fallen p fL}) I R (by have:=lo.2.2.1;lia) gd λg2 v x2=>?_;refine' k g2 v (x1.trans x2)
def Fw{p:Nat}{t:Tie}(no:gh Y.bs Y.ts)(x:fX h Y)(gd:∀e∈Y.es,e.B.ok)(R:Y.ts[p]?=fJ t){v:Bool}(hf:Y.fallen.lookup (p:Int)=fJ v)(k:∀g,fX g {Y with fallen:=Zx Y.fallen p,es:=setT (onT {Y with fallen:=Zx Y.fallen p} p t) p t Y.es}->Ex Y.adr h g->Q .non g):wF P (n+3) "Yard.back_of_tie" [.ref Y.y,.int p] h Q X:=by
 have z:=x.ins;have J:=x.fallen;have lo:=no.tie _<|é R;refine Wg ?_
 exists XX J rfl
 rw[Xh,hf];walk_at "p";refine Ee J rfl (by rw[Zz,hf];rfl) ?_;rw[WF];dsimp only;have I:=x.setFallen<|Zx Y.fallen p;have x1:Ex Y.adr h<|upd h Y.fl<|.dct<|Zg Val.bl<|Zx Y.fallen p:=Ex.upd (Ê _<|by simp);generalize upd h Y.fl (.dct<|Zg Val.bl<|Zx Y.fallen p)=g1 at I x1;have U:=I.ins;dsimp only at U;refine' WU (Y:={Y with fallen:=Zx Y.fallen p}) I R (by have:=lo.2.2.1;lia) gd λg2 s x2=>?_;refine' k g2 s (x1.trans x2)
end
def An:(Z4 own life most []).ok:=⟨Ċ,(λ_ m=>nomatch m),Ċ,(λ_ m=>nomatch m)⟩
def BE:(ZD kvs k v).lookup k=fJ v:=by
 unfold ZD;split
 .rename_i h;induction kvs with
  |nil=>cases h
  |cons p r ih =>
   rw[Ò,ø];by_cases e:p.1=k
   .simp[e]
   .have I:(k==p.1)=fM:=by simpa using λz=>e z.symm
    rw[ø,I]at h;simp![e,if_false,I];exact ih h
 .rename_i h;have h:kvs.lookup k=fK:=aE.mp h;rw[List.lookup_append,h];simp
section
variable {Y:Yd}
def EX{b:Int}(no:gh Y.bs Y.ts)(x:fX h Y)(gd:∀e∈Y.es,e.B.ok)(U:Y.lives.lookup b=fJ life)(hb:b∉Y.es.map (·.num))(hl:Y.lives.length<=100)(hel:Y.es.length<=100)(k:∀q t d g,(∀a∈[q,t,d],h a=fK)->fX g (ZU {Y with lives:=ZD Y.lives b<|life+1,es:=Y.es++[⟨b,q,t,d,Z4 b (life+1) Y.most []⟩]}<|iA b 0 Y.ts)->(∀e∈(ZU {Y with lives:=ZD Y.lives b<|life+1,es:=Y.es++[⟨b,q,t,d,Z4 b (life+1) Y.most []⟩]}<|iA b 0 Y.ts).es,e.B.ok)->Ex Y.adr h g->Q .non g):wF P (n+4) "Yard.back_of_bridge" [.ref Y.y,.int b] h Q X:=by
 have xi:=x.ins;have xs:=x.stand;have xl:=x.lives;have lk:(stands Y.es).lookup b=fK:=by
  cases z:(stands Y.es).lookup b with
  |none=>rfl
  |some q =>have:=ñ (f:=(·.1))<|Zt z;rw[ZM]at this;exact iM this hb
 refine Xf ?_
 exists XX xl rfl
 rw[Xh,U];walk_at "p";refine JF xs rfl ?_;rw[Xh,lk];walk_at "p";refine Zk xl rfl (by rw[Zz,U];rfl) ?_;refine' Yh (k:=.int b) xl ⟨rfl,by rw[Kk];exact Ð hl<|by decide⟩ ?_;rw[ZP (val:=Val.int)];have M:=x.setLives<|ZD Y.lives b<|life+1;have x1:Ex Y.adr h<|upd h Y.lv<|.dct<|Zg Val.int<|ZD Y.lives b<|life+1:=Ex.upd (Ê _<|by simp);have I:∀{a:Ad},upd h Y.lv (.dct<|Zg Val.int<|ZD Y.lives b<|life+1) a=fK->h a=fK:=λ{a} z=>by
  by_cases e:a=Y.lv
  .rw[e,fO]at z;cases z
  .rwa [fN e]at z
 generalize upd h Y.lv (.dct<|Zg Val.int<|ZD Y.lives b<|life+1)=g1 at M x1 I;have zi:=M.ins;have zl:=M.lives;dsimp only at zi zl;refine' Zk zl rfl (by rw[Zz,BE];rfl) ?_;refine' Zd λpn J hpn x7 en=>?_;have Y7:=M.ext x7;have O:=Y7.ins;dsimp only at O;fail;intro q hq;have v:Ext J<|upd J q<|.ins "Bridge" []:=Ext.new hq;have eq:(upd J q<|.ins "Bridge" []) q=fJ (.ins "Bridge" []):=fO;refine Ae (rs:=[]) eq (v.get en) (by simp) (by simp) λt d g8 ht hd ba x8=>?_;have R:Ext J g8:=⟨λ{a o} e=>x8.get (by simpa using Za e hq)<|v.get e⟩
 have Y8:=Y7.ext R;have ht7:J t=fK:=by cases z:J t with|none=>rfl|some o=>rw[v.get z]at ht;cases ht
 have hd7:J d=fK:=by cases z:J d with|none=>rfl|some o=>rw[v.get z]at hd;cases hd
 refine⟨rfl,?_⟩;have wi:=Y8.ins;have ws:=Y8.stand;dsimp only at wi ws;refine' Yh (k:=.int b) ws ⟨rfl,by rw[Kk];unfold stands;rw[Á];exact Ð hel<|by decide⟩ ?_;rw[ZP (val:=rfV),YK _<|by rw[ZM];exact hb];have θ:stands Y.es++[(b,q)]=stands (Y.es++[⟨b,q,t,d,Z4 b (life+1) Y.most []⟩]):=by unfold stands;rw[Ö];rfl
 rw[θ];have fr:∀a∈[q,t,d],J a=fK:=λa ha=>by simp![Å,Õ,or_false]at ha;rcases ha with rfl|rfl|rfl<;>assumption
 have s:∀a∈[q,t,d],h a=fK:=λa ha=>I (by cases z:g1 a with|none=>rfl|some o=>have:=fr a ha;rw[x7.get z]at this;cases this);have C:=Y8.stands (e:=⟨b,q,t,d,Z4 b (life+1) Y.most []⟩) ba hb λa ha z=>Y7.taken z<|fr a ha;have x9:Ex Y.adr h<|upd g8 Y.st<|.dct<|Zg rfV<|stands<|Y.es++[⟨b,q,t,d,Z4 b (life+1) Y.most []⟩]:=(x1.trans<|.of<|x7.trans R).trans (Ex.upd<|Ê _<|by simp);dsimp only at C;generalize upd g8 Y.st (.dct<|Zg rfV<|stands<|Y.es++[⟨b,q,t,d,Z4 b (life+1) Y.most []⟩])=g9 at C x9;have vi:=C.ins;dsimp only at vi;refine' Ki (Y:={Y with lives:=ZD Y.lives b<|life+1,es:=Y.es++[⟨b,q,t,d,Z4 b (life+1) Y.most []⟩]}) no C (λe he=>?_) λg2 y2 gd2 x2=>?_
 .rcases Ë.mp he with he|he
  .exact gd e he
  .rw[Ó.mp he];exact An
 refine' k q t d g2 s y2 gd2 ⟨λ{a o} na ha=>x2.get (λz=>?_)<|x9.get na ha⟩;have z:a∈[Y.y,Y.lv,Y.st,Y.fl,Y.rd]++enA (Y.es++[⟨b,q,t,d,Z4 b (life+1) Y.most []⟩]):=z;rw[Wt,<-ü]at z;rcases Ë.mp z with z|z
 .exact na z
 .rw[s a z]at ha;cases ha
end
abbrev wordsL:List<|List String:=[["tick"],["come"],["lost"],["fall","bridge"],["fall","tie"],["back","bridge"],["back","tie"]]
def Gx(hw:ws∈wordsL)(k:∀g,Ext h g->Q (.tup [.tup<|ws.map .str,.int c]) g):wF P (n+2) "read_deed" [.tup<|ws.map .str++[.int c]] h Q X:=by
 have U:cut (ws.map Val.str++[.int c]) fK (fJ (-1))=ws.map .str:=by simp![wordsL,Å,Õ,or_false]at hw;rcases hw with rfl|rfl|rfl|rfl|rfl|rfl|rfl<;>rfl
 have I:atI (ws.map Val.str++[.int c]) (-1)=fJ (.int c):=by simp![wordsL,Å,Õ,or_false]at hw;rcases hw with rfl|rfl|rfl|rfl|rfl|rfl|rfl<;>rfl
 have hlen:ws.length<=2:=by simp![wordsL,Å,Õ,or_false]at hw;rcases hw with rfl|rfl|rfl|rfl|rfl|rfl|rfl<;>decide
 refine Oj ?_;walk_at "p";refine hX (xs:=ws.map Val.str++[.int c]) (lo:=fK) (hi:=fJ (-1)) (by rw[á,Á];intro z;have:=z.2;unfold gQ at this;simp at this;lia) ?_;rw[U];refine' ⟨Ð (by rw[Á];exact hlen) ↥1,YG (λ_=>fJ<|.bl fL) trivial (λv R K s=>?_) ?_⟩
 .obtain⟨u,_,rfl⟩:=Ü.mp R;walk_at "p";exact s
 rw[show(ws.map Val.str).filterMap (λ_=>fJ<|Val.bl fL)=(ws.map λ_=>fL).map Val.bl by rw[ϱ,õ];exact congrFun (cI (f:=λ_:String=>Val.bl fL)) ws];refine Zd λM g1 O x1 C=>?_
 exists Uk (bs:=ws.map λ_=>fL) C (YY _)
 have ha:(ws.map λ_=>fL).all id=fL:=by simp
 fail;refine ie (by simp) ?_;fail;have J:∀{h:Hs},f8 h .notin (.tup<|ws.map .str) (.tup<|wordsL.map λl=>.tup<|l.map .str)=fJ fM:=λ{h}=>by simp![wordsL,Å,Õ,or_false]at hw;rcases hw with rfl|rfl|rfl|rfl|rfl|rfl|rfl<;>rfl
 refine fR (a:=fM) J ?_;walk_at "p";refine fS I ?_
 exists Yo
 walk_at "p";refine fS I ?_;refine' k g1 x1
inductive Dd where
 |tick (b:Int)|come (b:Int)|lost (b:Int)|fallB (b:Int)|fallT (b:Int)|backB (b:Int)|backT (b:Int)
abbrev Dd.ws:Dd->List String
 |.tick _=>["tick"]|.come _=>["come"]|.lost _=>["lost"]|.fallB _=>["fall","bridge"]|.fallT _=>["fall","tie"]|.backB _=>["back","bridge"]|.backT _=>["back","tie"]
abbrev Dd.num:Dd->Int
 |.tick c=>c|.come c=>c|.lost c=>c|.fallB c=>c|.fallT c=>c|.backB c=>c|.backT c=>c
abbrev Dd.fn:Dd->String
 |.tick _=>"Yard.tick_of" | .come _=>"Yard.come" | .lost _=>"Yard.take_off" | .fallB _=>"Yard.fall_of_bridge" | .fallT _=>"Yard.fall_of_tie" | .backB _=>"Yard.back_of_bridge" | .backT _=>"Yard.back_of_tie"
noncomputable abbrev Dd.v(d:Dd):Val:=.tup<|d.ws.map .str++[.int d.num]
def Dd.words(d:Dd):d.ws∈wordsL:=by cases d<;>simp[Dd.ws,wordsL]
def Zc(x:Ext h g)(hp:g p=fK):h p=fK:=by
 cases z:h p with
 |none=>rfl
 |some o=>rw[x.get z]at hp;cases hp
def Ib{i:Int}(h0:0<=i)(h1:i<ts.length):atI (ts.map trV) i=fJ (trV<|ts[i.toNat]?.getD (0,0,0)):=by
 have I:i.toNat<ts.length:=by lia
 refine YN h0 ?_;rw[Ø,É I];rfl
def Cd(x:fX h Y)(he:Y.es=pre++e::ŀ)(o:e.B.ok)(hp:∀q∈e.B.ties,q.1<Y.ts.length)(hr:Y.road.length<=100000)(k:∀d g,fX g {Y with es:=pre++⟨e.num,e.b,e.t,d,e.B.ticked⟩::ŀ,road:=Y.road++Yr Y.ts e.num e.B.told}->h d=fK->Ex Y.adr h g->Q .non g):wF P (n+5) "Yard.tick_of" [.ref Y.y,.int e.num] h Q X:=by
 have hm:e∈Y.es:=by rw[he];simp
 have lk:(stands Y.es).lookup e.num=fJ e.b:=ZQ (by rw[ZM];exact x.key)<|Ü.mpr ⟨e,hm,rfl⟩;let⟨C,xl,xs,xf,xr,xb,xnd,xk⟩:=id x;refine J8 ?_
 exists XX xs rfl
 rw[Xh,lk];walk_at "p";refine Zk xs rfl (by rw[Zz,lk];rfl) ?_;have ba:=xb e hm;have bi:=ba.ins;refine' FF ba o λp d g1 bC U ba1 M x1 npd=>?_;have Y1:=x.change he x1 ba1 (.inl rfl)<|.inr U;let⟨yi,yl,ys,yf,yr,yb,ynd,yk⟩:=id Y1;dsimp only at yi yl ys yf yr yb;have npa:∀a∈Y.adr,a≠p:=λa ha z=>x.taken ha<|z▸bC;have npr:Y.rd≠p:=npa _ (Ê _<|by simp);have hbm:e.b∈Y.adr:=Ç _ (WT hm).1;have htl:(sortI (e.B.told.ties.map (·.1))).length<=16:=by rw[sortI,Ŗ,Á];exact o.told.tlen
 have J:∀i∈sortI (e.B.told.ties.map (·.1)),0<=i/\i<Y.ts.length:=λi hi=>by let⟨q,hq,rfl⟩:=Ü.mp<|mem_sort.mp hi;rw[show e.B.told.ties=e.B.ties from (YJ e.B.grown<|Yz e.B.grown).2.1]at hq;exact⟨(o.rg q hq).1,hp q hq⟩
 refine' Zh (λi en g=>Sm3 λv2 O v4=>Cj4 (en=[fJ<|.ref Y.y,fJ<|.int e.num,v2,O,v4]) (fX g {Y with es:=pre++⟨e.num,e.b,e.t,d,e.B.ticked⟩::ŀ,road:=Y.road++(Yr Y.ts e.num e.B.told).take i}) (g p=fJ (.lst<|ZY e.B.told))<|Ex Y.adr h g) ⟨_,_,_,rfl,by rw[ϟ,ì];exact Y1,M,x1.sub λa ha=>by rw[Ó.mp ha];exact hbm⟩ (λi en g _ ⟨_,_,_,_,_,z,_⟩=>lsE z) ?_ ?_
 .rintro i v en g hv ⟨v2,O,v4,rfl,s,M,C⟩ K hK;let⟨pl,I,rfl⟩:=ZI hv;have R:=é I;let⟨r0,r1⟩:=J pl R;have et:=Ib (ts:=Y.ts) r0 r1;let⟨zi,zl,zs,zf,zr,zb,znd,zk⟩:=id s;dsimp only at zi zl zs zf zr zb;have hil:=(Ô.mp I).1
  exists Wv
  exists fS et
  exists Ej
  refine' Zj zr ?_ ?_
  .rw[Á,á,ą];exact Ð (by lia:_<=100016) ↥1
  dsimp only;have es:(Yr Y.ts e.num e.B.told)[i]?=fJ (e.num,QD Y.ts pl e.num,pl,ZF e.B.told pl):=by unfold Yr;rw[Ø,I];rfl
  have Y2:=s.setRoad<|Y.road++(Yr Y.ts e.num e.B.told).take (i+1);dsimp only at Y2;have er:(Y.road++(Yr Y.ts e.num e.B.told).take i).map rdV++[rdV (e.num,QD Y.ts pl e.num,pl,ZF e.B.told pl)]=(Y.road++(Yr Y.ts e.num e.B.told).take (i+1)).map rdV:=by rw[Zn es,<-ü,Ö (l₂:=[_])];rfl
  have er':(Y.road++(Yr Y.ts e.num e.B.told).take i).map rdV++[.tup [.int e.num,.int<|far (Y.ts[pl.toNat]?.getD (0,0,0)) e.num,.int pl,(ZF e.B.told pl).v]]=(Y.road++(Yr Y.ts e.num e.B.told).take (i+1)).map rdV:=er;rw[er'];refine' hK _ _ ⟨_,_,_,rfl,Y2,(fN npr.symm).trans M,C.trans<|Ex.upd<|Ê _<|by simp⟩
 .rintro en g ⟨v2,O,v4,rfl,s,M,C⟩;rw[show(ZY e.B.told).length=(Yr Y.ts e.num e.B.told).length by unfold ZY Yr;rw[Á,Á],ù]at s;refine' k d g s U C
def F7{d:Dd}(x:fX h Y)(k:∀(g:Hs) (J:Q1),Ext h g->fX g Y->(∀v g',Q .non g'->J v g')->wF P (n+5) d.fn [.ref Y.y,.int d.num] g J X):wF P (n+6) "Yard.deed" [.ref Y.y,d.v] h Q X:=by
 have R:=x.ins;refine Op ?_;refine' Gx d.words λg1 x1=>?_;have I:=x.ext x1;have U:=I.ins;cases d<;>(
   fail
   repeat (first
     |(refine fR (a:=fM) rfl ?_;fail;refine ie rfl ?_;fail)
     | (refine fR (a:=fL) rfl ?_;fail;refine hZ rfl ?_;fail))
   refine k g1 _ x1 I λv g' q=>?_
   refine' q)
structure Yc where
 bs:List Int
 ts:List Tie
 most:Int
 lives:List<|Int×Int
 br:List<|Int×Br
 fallen:List<|Int×Bool
 road:List<|Int×Int×Int×L
abbrev enC(es:List En):List<|Int×Br:=es.map λe=>(e.num,e.B)
abbrev Yd.cc(Y:Yd):Yc:=⟨Y.bs,Y.ts,Y.most,Y.lives,enC Y.es,Y.fallen,Y.road⟩
abbrev upC(k:Int)(F:Br->Br)(l:List<|Int×Br):List<|Int×Br:=l.map λq=>if q.1=k then(q.1,F q.2)else q
abbrev P4(on:Bool)(p:Int)(t:Tie)(l:List<|Int×Br):List<|Int×Br:=upC t.2.1 (tieF on p t.1 t.2.2)<|upC t.1 (tieF on p t.2.1 t.2.2) l
abbrev Yc.tie(C:Yc)(p:Int):Tie:=C.ts[p.toNat]?.getD (0,0,0)
abbrev onC(C:Yc)(p:Int):Bool:=!(C.fallen.lookup p).isSome&&((C.br.lookup (C.tie p).1).isSome&&(C.br.lookup (C.tie p).2.1).isSome)
abbrev Yc.set1(C:Yc)(p:Int):Yc:={C with br:=P4 (onC C p) p (C.tie p) C.br}
abbrev Yc.sets(C:Yc)(l:List Tie):Yc:=l.foldl (λC r=>C.set1 r.1) C
def Ww(es:List En):(enC es).map (·.1)=es.map (·.num):=by unfold enC;rw[õ];rfl
def look_iff:(kvs.lookup k).isSome=iN (k∈kvs.map (·.1)):=by
 cases z:kvs.lookup k with
 |none=>exact(iJ<|XG z).symm
 |some v=>exact(iK (ñ (f:=(·.1))<|Zt z)).symm
def Ji(es:List En):enC (Yq k F es)=upC k F (enC es):=by
 unfold enC Yq upC;rw[õ,õ];refine ĩ λe _=>?_;show((if e.num=k then({e with B:=F e.B}:En)else e).num,(if e.num=k then({e with B:=F e.B}:En)else e).B)=if e.num=k then(e.num,F e.B)else(e.num,e.B)
 split<;>rfl
def Df{p:Int}{t:Tie}(es:List En):enC (setT on p t es)=P4 on p t (enC es):=by unfold setT P4;rw[Ji,Ji]
def LX:((enC es).lookup k).isSome=((stands es).lookup k).isSome:=look_iff.trans ((decide_eq_decide.mpr<|by rw[Ww,ZM]).trans look_iff.symm)
def SE{p:Int}:onT Y p (Y.ts[p.toNat]?.getD (0,0,0))=onC Y.cc p:=by unfold onT onC;rw[<-LX,<-LX];rfl
def Ur{p:Int}:({Y with es:=setT (onT Y p<|Y.ts[p.toNat]?.getD (0,0,0)) p (Y.ts[p.toNat]?.getD (0,0,0)) Y.es}:Yd).cc=Y.cc.set1 p:=by rw[SE];unfold Yd.cc Yc.set1;dsimp only;rw[Df];rfl
def Ue:∀(l:List Tie) (Y:Yd),(ZU Y l).cc=Y.cc.sets l
 |[],_=>rfl
 |r::l,Y=>(Ue l _).trans (congrArg (Yc.sets · l)<|Ur (Y:=Y) (p:=r.1))
abbrev step(C:Yc):Dd->Option Yc
 |.tick b=>(C.br.lookup b).map λB=>{C with br:=upC b Br.ticked C.br,road:=C.road++Yr C.ts b B.told}
 |.come p=>if p<0 then fK else(C.road[p.toNat]?).map λr=>{C with br:=upC r.2.1 (Yu · r.2.2.1 r.2.2.2) C.br,road:=C.road.eraseIdx p.toNat}
 |.lost p=>if p<0 then fK else(C.road[p.toNat]?).map λr=>{C with road:=C.road.eraseIdx p.toNat}
 |.fallB b=>if(C.br.lookup b).isSome then fJ (Yc.sets {C with br:=Zx C.br b}<|iA b 0 C.ts)else fK
 |.fallT p=>if(0<=p/\p<C.ts.length)/\(C.fallen.lookup p).isSome=fM then fJ (Yc.set1 {C with fallen:=ZD C.fallen p fL} p)else fK
 |.backB b=>if(C.br.lookup b).isSome then fK else(C.lives.lookup b).map λl=>Yc.sets {C with lives:=ZD C.lives b<|l+1,br:=C.br++[(b,Z4 b (l+1) C.most [])]}<|iA b 0 C.ts
 |.backT p=>if(C.fallen.lookup p).isSome then fJ (Yc.set1 {C with fallen:=Zx C.fallen p} p)else fK
structure Bok(m:Nat)(B:Br):Prop where
 ok:B.ok
 pl:∀t∈B.ties,t.1<m
def Bok.ticked{m:Nat}(o:Bok m B):Bok m B.ticked:=⟨o.ok.ticked,λt ht=>o.pl t<|by rwa [show B.ticked.ties=B.ties from (YJ B.grown<|Yz B.grown).2.1]at ht⟩
def Bok.heard{m:Nat}(o:Bok m B){p:Int}{l:L}:Bok m<|Yu B p l:=⟨o.ok.heard,λt ht=>o.pl t<|by revert ht;unfold Yu;split<;>(try split)<;>exact id⟩
def Bok.tieF{m:Nat}(o:Bok m B){p far:Int}(h0:0<=p)(h1:p<m)(hm:m<=16):Bok m<|iG.tieF on p far c B:=⟨M3 o.ok h0 ↥0,λt ht=>by
  unfold iG.tieF at ht
  split at ht
  . unfold upB at ht
    split at ht
    . exact o.pl t ht
    . rcases Jx ht with e|ht
      . rw[e];exact h1
      . exact o.pl t ht
  . exact o.pl t<|YD ht⟩
structure Yc.gd(C:Yc)(N:Nat):Prop where
 no:gh C.bs C.ts
 nd:(C.br.map (·.1)).Nodup
 sub:∀q∈C.br,q.1∈C.bs
 ok:∀q∈C.br,Bok C.ts.length q.2
 lv:C.lives.map (·.1)=C.bs
 fn:(C.fallen.map (·.1)).Nodup
 fr:∀q∈C.fallen,0<=q.1/\q.1<C.ts.length
 len:C.road.length<=16*N
def Kd(l:List<|Int×Br):(upC k F l).map (·.1)=l.map (·.1):=by unfold upC;rw[õ];refine ĩ λe _=>?_;show(if e.1=k then(e.1,F e.2)else e).1=e.1;split<;>rfl
def HQ{k:Int}{l:List (Int×Br)}{R:Br->Prop}(h:∀q∈l,R q.2)(J:∀B,R B->R (F B)):∀q∈upC k F l,R q.2:=λq I=>by
 let⟨e,he,rfl⟩:=Ü.mp I;split
 .exact J _<|h e he
 .exact h e he
def keys_sub{l:List (Int×Br)}{bs:List Int}:(∀q∈l,q.1∈bs)↔∀x∈l.map (·.1),x∈bs:=⟨λh x J=>by let⟨q,I,rfl⟩:=Ü.mp J;exact h q I,λh q I=>h _<|ñ I⟩
variable {C:Yc}{N:Nat}{M:Nat}{rd:List (Int×Int×Int×L)}
def Yc.gd.upC(g:C.gd N)(J:∀B,Bok C.ts.length B->Bok C.ts.length (F B))(I:rd.length<=16*M):({C with br:=iG.upC k F C.br,road:=rd}:Yc).gd M :=
 ⟨g.no,by show((iG.upC k F C.br).map (·.1)).Nodup;rw[Kd];exact g.nd,keys_sub.mpr (by show ∀x∈(iG.upC k F C.br).map (·.1),_;rw[Kd];exact keys_sub.mp g.sub),HQ g.ok J,g.lv,g.fn,g.fr,I⟩
def Yc.gd.set1{p:Int}(g:C.gd N)(h0:0<=p)(h1:p<C.ts.length):(C.set1 p).gd N :=
 (g.upC (M:=N) (k:=(C.tie p).1) (F:=tieF (onC C p) p (C.tie p).2.1 (C.tie p).2.2) (λ_ o=>o.tieF h0 h1 g.no.sixteen) g.len).upC (λ_ o=>o.tieF h0 h1 g.no.sixteen) g.len
def Yc.gd.sets{N:Nat}:∀{l:List Tie}{C:Yc},C.gd N->(∀r∈l,0<=r.1/\r.1<C.ts.length)->(C.sets l).gd N
 |[],_,g,_=>g
 |r::l,C,g,h=>Yc.gd.sets (l:=l) (C:=C.set1 r.1) (g.set1 (h r<|by simp).1 (h r<|by simp).2) λq I=>h q (by simp[I])
def Yc.gd.more(g:C.gd N)(h:N<=M):C.gd M:=⟨g.no,g.nd,g.sub,g.ok,g.lv,g.fn,g.fr,Ù g.len<|eX _ h⟩
def JS:∀(l:List Tie) (C:Yc),(C.sets l).bs=C.bs/\(C.sets l).ts=C.ts/\(C.sets l).most=C.most
 |[],_=>⟨rfl,rfl,rfl⟩
 |r::l,C=>JS l<|C.set1 r.1
def E0{b:Int}:∀r∈iA b 0 ts,0<=r.1/\r.1<ts.length:=λr I=>by have:=(Ky (b:=b) (l:=ts) (k:=0)).2 r I;lia
def keys_look{b:Int}:(C.br.lookup b).isSome=fL↔b∈C.br.map (·.1):=by rw[look_iff];simp
def BL{b:Int}(o:B.ok):(Yr ts b B.told).length<=16:=by unfold Yr;rw[Á,sortI,Ŗ,Á];exact o.told.tlen
def WH{D:Yc}{d:Dd}(g:C.gd N)(s:step C d=fJ D):D.gd (N+1)/\D.bs=C.bs/\D.ts=C.ts/\D.most=C.most:=by
 have hlen:=g.len;cases d with
 |tick b =>let⟨B,hB,rfl⟩:=Ï.mp s;have ok:B.ok:=(g.ok _<|Zt hB).ok;have:=BL (ts:=C.ts) (b:=b) ok;exact⟨g.upC (λ_ o=>o.ticked) (by rw[á];lia),rfl,rfl,rfl⟩
 |come p =>
  dsimp only[step]at s;split at s
  .cases s
  .obtain⟨r,k,rfl⟩:=Ï.mp s;exact⟨g.upC (λ_ o=>o.heard)<|Ù (cx _ _)<|by lia,rfl,rfl,rfl⟩
 |lost p =>
  dsimp only[step]at s;split at s
  .cases s
  .obtain⟨r,k,rfl⟩:=Ï.mp s;exact⟨⟨g.no,g.nd,g.sub,g.ok,g.lv,g.fn,g.fr,Ù (cx _ _)<|by lia⟩,rfl,rfl,rfl⟩
 |fallB b =>
  dsimp only[step]at s;split at s
  .cases s;refine⟨Yc.gd.more (Yc.gd.sets ⟨g.no,YZ g.nd b,λq I=>g.sub q<|YD I,λq I=>g.ok q<|YD I,g.lv,g.fn,g.fr,hlen⟩ E0) ↥0,?_⟩;let⟨e1,e2,O⟩:=JS (iA b 0 C.ts) {C with br:=Zx C.br b};exact⟨e1,e2,O⟩
  .cases s
 |fallT p =>
  dsimp only[step]at s;split at s
  .rename_i h;cases s;refine⟨Yc.gd.more (Yc.gd.set1 ⟨g.no,g.nd,g.sub,g.ok,g.lv,WR g.fn p fL,λq I=>?_,hlen⟩ h.1.1 h.1.2) ↥0,rfl,rfl,rfl⟩;rcases Jx I with e|I
   .rw[e];exact h.1
   .exact g.fr q I
  .cases s
 |backB b =>
  dsimp only[step]at s;split at s
  .cases s
  .rename_i h;let⟨l,hl,rfl⟩:=Ï.mp s;have J:(C.lives.lookup b).isSome=fL:=by rw[hl];rfl
   have hb:b∈C.bs:=by rw[<-g.lv];rw[look_iff]at J;exact of_decide_eq_true J
   have hn:b∉C.br.map (·.1):=λz=>h<|keys_look.mpr z;refine⟨Yc.gd.more (Yc.gd.sets ⟨g.no,?_,λq I=>?_,λq I=>?_,?_,g.fn,g.fr,hlen⟩ E0) ↥0,?_⟩
   .show((C.br++[(b,Z4 b (l+1) C.most [])]).map (·.1)).Nodup;rw[Ö,ã];exact⟨g.nd,by simp,λa ha c R=>by have R:c=b:=Ó.mp R;rw[R];exact λz=>hn<|z▸ha⟩
   .rcases Ë.mp I with I|I
    .exact g.sub q I
    .rw[Ó.mp I];exact hb
   .rcases Ë.mp I with I|I
    .exact g.ok q I
    .rw[Ó.mp I];exact⟨An,λt ht=>nomatch ht⟩
   .show(ZD C.lives b<|l+1).map (·.1)=_;rw[Kc,iH J];exact g.lv
   .exact JS (iA b 0 C.ts) {C with lives:=ZD C.lives b<|l+1,br:=C.br++[(b,Z4 b (l+1) C.most [])]}
 |backT p =>
  dsimp only[step]at s;split at s
  .rename_i h;cases s;let⟨v,U⟩:=ô.mp h;have hp:=g.fr _<|Zt U;exact⟨Yc.gd.more (Yc.gd.set1 ⟨g.no,g.nd,g.sub,g.ok,g.lv,YZ g.fn p,λq I=>g.fr q<|YD I,hlen⟩ hp.1 hp.2) ↥0,rfl,rfl,rfl⟩
  .cases s
def WO{b:Int}:(Y.cc.br.lookup b).isSome=((stands Y.es).lookup b).isSome:=LX
def AE(he:Y.es=pre++e::ŀ)(nd:(Y.es.map (·.num)).Nodup):enC (pre++⟨e.num,e.b,t,d,F e.B⟩::ŀ)=upC e.num F (enC Y.es):=by rw[he]at nd ⊢;rw[<-Ji,OF nd];unfold enC;rw[Ö,Ö];rfl
def AO(he:Y.es=pre++e::ŀ)(ht:t=e.t)(hd:d=e.d\/h d=fK):∀a∈({Y with es:=pre++⟨e.num,e.b,t,d,B⟩::ŀ,road:=rd}:Yd).adr,a∈Y.adr\/h a=fK:=λa ha=>by
 subst ht;unfold Yd.adr at ha ⊢;rw[he,YR];dsimp only at ha;rw[YR]at ha;simp only[Ë,Å,Õ,or_false]at ha ⊢;rcases hd with rfl|hd
 .exact .inl ha
 .rcases ha with ha|ha|(rfl|rfl|rfl)|ha
  .exact .inl<|.inl ha
  .exact .inl<|.inr<|.inl ha
  .exact .inl<|.inr<|.inr<|.inl<|.inl rfl
  .exact .inl<|.inr<|.inr<|.inl<|.inr<|.inl rfl
  .exact .inr hd
  .exact .inl<|.inr<|.inr<|.inr ha
def UG:∀{l bs:List Int},l.Nodup->(∀x∈l,x∈bs)->l.length<=bs.length
 |[],_,_,_=>ė _
 |a::l,bs,nd,h=>by have ha:=h a (by simp);have:=UG (l:=l) (bs:=bs.erase a) (ā.mp nd).2 λx I=>(List.mem_erase_of_ne λz:x=a=>(ā.mp nd).1<|z▸I).mpr (h x<|by simp[I]);rw[b6 ha]at this;have:=List.length_pos_of_mem ha;rw[Ñ];lia
variable {β:Type}
def Ax{p:Int}{f:Int×Int×Int×L->β}(hp:¬(0<=p/\p<Y.road.length)):(if p<0 then fK else(Y.cc.road[p.toNat]?).map f)=fK:=by
 split
 .rfl
 .rw[show Y.cc.road[p.toNat]?=fK from ł<|by show Y.road.length<=_;lia];rfl
structure Mv(h:Hs)(Y:Yd)(g:Hs)(Z:Yd):Prop where
 y:Z.y=Y.y
 at_:fX g Z
 nw:∀a∈Z.adr,a∈Y.adr\/h a=fK
 ex:Ex Y.adr h g
def Mv.refl(x:fX h Y):Mv h Y h Y:=⟨rfl,x,λ_=>.inl,Ex.refl⟩
def Mv.off(m:Mv h Y g Z)(na:a∉Y.adr)(e:h a=fJ o):a∉Z.adr/\g a=fJ o:=⟨λz=>(m.nw a z).elim na λy=>(by rw[e]at y;cases y),m.ex.get na e⟩
def Mv.trans{f:Hs}(m:Mv h Y g Z)(l:Mv g Z f W):Mv h Y f W:=by
 refine⟨l.y.trans m.y,l.at_,λa ha=>?_,⟨λna e=>let ⟨J,I⟩:=m.off na e;l.ex.get J I⟩⟩;rcases l.nw a ha with z|z
 .exact m.nw a z
 .by_cases na:a∈Y.adr
  .exact .inl na
  .cases e:h a with
   |none=>exact .inr rfl
   |some o=>rw[m.ex.get na e]at z;cases z
def Mv.ext{f:Hs}(m:Mv h Y g Z)(x:Ext g f):Mv h Y f Z:=⟨m.y,m.at_.ext x,m.nw,m.ex.trans<|.of x⟩
def Ng{b:Int}(h:(stands es).lookup b=fK):b∉es.map (·.num):=by rw[<-ZM];exact XG h
section
def Jq{d:Dd}(x:fX h Y)(gd:Y.cc.gd N)(hN:N<=6000)(sd:(step Y.cc d).isSome=fL)(k:∀(U:Yd) g',step Y.cc d=fJ U.cc->Mv h Y g' U->Q .non g'):wF P (n+6) "Yard.deed" [.ref Y.y,d.v] h Q X:=by
 refine F7 x λg O x1 R hq=>?_;have no:gh Y.bs Y.ts:=gd.no;have ok:∀e∈Y.es,Bok Y.ts.length e.B:=λe he=>gd.ok (e.num,e.B)<|Ü.mpr ⟨e,he,rfl⟩;have J:∀e∈Y.es,e.B.ok:=λe he=>(ok e he).ok;have hl:Y.road.length<=16*N:=gd.len;have key:=x.key;have xi:=R.ins;have xs:=R.stand;have xf:=R.fallen;have xl:=R.lives;have fin:∀{U:Yd} {g'},fX g' U->step Y.cc d=fJ U.cc->U.y=Y.y->(∀a∈U.adr,a∈Y.adr\/g a=fK)->Ex Y.adr g g'->∀v,O v g':=λ{U g'} y s e f ex v=>hq v g'<|k U g' s ⟨e,y,λa ha=>(f a ha).imp id λz=>Zc x1 z,(Ex.of x1).trans ex⟩;have bad:∀{p:Prop},step Y.cc d=fK->p:=λ{p} s=>by rw[s]at sd;cases sd
 have h10:Y.lives.length<=10:=by have e:=congrArg List.length gd.lv;rw[Á]at e;have:=no.ten;have:Y.cc.bs.length=Y.bs.length:=rfl;have:Y.cc.lives.length=Y.lives.length:=rfl;lia
 have e10:Y.es.length<=10:=by
  have:=UG gd.nd<|keys_sub.mp gd.sub;have h2:(Y.cc.br.map (·.1)).length=Y.es.length:=by show((enC Y.es).map (·.1)).length=_;rw[Ww,Á]
  have:=no.ten;have:Y.cc.bs.length=Y.bs.length:=rfl;lia
 have f16:Y.fallen.length<=16:=by
  have:=Yb (m:=16) gd.fn λx hx=>by let⟨q,hq,rfl⟩:=Ü.mp hx;have:=gd.fr q hq;have:=no.sixteen;have:Y.cc.ts.length=Y.ts.length:=rfl;lia
  rw[Á]at this;exact this
 clear sd;cases d with
 |tick b =>
  show wF P (n+5) "Yard.tick_of" [.ref Y.y,.int b] g O X;cases lk:(stands Y.es).lookup b with
  |none =>refine bad ?_;have:=WO (Y:=Y) (b:=b);rw[lk]at this;show(Y.cc.br.lookup b).map _=fK;rw[Option.isSome_eq_false_iff.mp this |> bp.mp];rfl
  |some a =>
   let⟨e,pre,ŀ,he,rfl,rfl⟩:=Xk lk;have hm:e∈Y.es:=by rw[he];simp
   refine Cd R he (J e hm) (ok e hm).pl ↥0 λd' g2 I hd x2=>?_;refine fin I ?_ rfl (AO he rfl<|.inr hd) x2 .non;show(Y.cc.br.lookup e.num).map _=_;rw[show Y.cc.br.lookup e.num=fJ e.B from ZQ gd.nd<|Ü.mpr ⟨e,hm,rfl⟩];unfold Yd.cc;dsimp only;rw[AE (F:=Br.ticked) he key];rfl
 |come p =>
  show wF P (n+5) "Yard.come" [.ref Y.y,.int p] g O X;by_cases hp:0<=p/\p<Y.road.length
  .obtain⟨q,rfl⟩:∃q:Nat,p=q:=⟨p.toNat,by lia⟩
   have hr:=É (l:=Y.road) (i:=q) ↥0;generalize Y.road[q]'↥0=r at hr;have st:step Y.cc (.come q)=fJ {Y.cc with br:=upC r.2.1 (Yu · r.2.2.1 r.2.2.2) Y.cc.br,road:=Y.road.eraseIdx q}:=by show(if(q:Int)<0 then fK else(Y.road[(q:Int).toNat]?).map _)=_;rw[iI ↥0,ç,hr];rfl
   cases lk:(stands Y.es).lookup r.2.1 with
   |none =>refine Cu R hr ↥0 (Ng lk) λg2 I x2=>fin I ?_ rfl (λa ha=>.inl ha) x2 .non;rw[st];unfold Yd.cc;dsimp only;rw[<-Ji,WJ<|Ng lk]
   |some a =>
    let⟨e,pre,ŀ,he,hn,rfl⟩:=Xk lk;have hm:e∈Y.es:=by rw[he];simp
    refine HH R hr ↥0 he hn.symm (J e hm) λg2 I x2=>fin I ?_ rfl (AO he rfl<|.inl rfl) x2 .non;rw[st];unfold Yd.cc;dsimp only;rw[<-hn,AE (F:=(Yu · r.2.2.1 r.2.2.2)) he key]
  .exact bad<|Ax hp
 |lost p =>
  show wF P (n+5) "Yard.take_off" [.ref Y.y,.int p] g O X;by_cases hp:0<=p/\p<Y.road.length
  .obtain⟨q,rfl⟩:∃q:Nat,p=q:=⟨p.toNat,by lia⟩
   have hr:=É (l:=Y.road) (i:=q) ↥0;refine Wd R hr ↥0 λg2 I x2=>fin I ?_ rfl (λa ha=>.inl ha) (x2.sub λa ha=>by rw[Ó.mp ha];exact Ê _<|by simp) _;show(if(q:Int)<0 then fK else(Y.road[(q:Int).toNat]?).map _)=_;rw[iI ↥0,ç,hr];rfl
  .exact bad<|Ax hp
 |fallB b =>
  show wF P (n+5) "Yard.fall_of_bridge" [.ref Y.y,.int b] g O X;have lc:=WO (Y:=Y) (b:=b);cases lk:(stands Y.es).lookup b with
  |none =>rw[lk]at lc;exact bad (iI<|by rw[lc];decide)
  |some a =>
   rw[lk]at lc;refine E2 no R J (by rw[<-ZM];exact ñ (f:=(·.1))<|Zt lk) λg2 I gd2 x2=>?_;have sm:=YT (iA b 0 Y.ts) {Y with es:=YC b Y.es};refine fin I ?_ sm.y (λa ha=>.inl ?_) x2 .non
   .rw[Ue];refine(iH lc).trans ?_;congr 2;unfold Yd.cc;dsimp only;congr 1;unfold Zx enC YC;rw[List.filter_map];rfl
   .rw[sm.adr]at ha;exact((Ũ _).append<|Jh<|XD b Y.es).subset ha
 |fallT p =>
  show wF P (n+5) "Yard.fall_of_tie" [.ref Y.y,.int p] g O X;have htl:(Y.ts.map trV).length=Y.ts.length:=Á _;by_cases hp:0<=p/\p<Y.ts.length
  .obtain⟨q,rfl⟩:∃q:Nat,p=q:=⟨p.toNat,by lia⟩
   have et:=É (l:=Y.ts) (i:=q) ↥0;have eg:Y.ts[(q:Int).toNat]?.getD (0,0,0)=Y.ts[q]'↥0:=by rw[ç,et];rfl
   cases lk:Y.fallen.lookup (q:Int)with
   |none =>
    refine DT no R J et lk ↥0 λg2 I x2=>fin I ?_ rfl (λa ha=>.inl ?_) x2 .non
    .refine(iH ⟨hp,by show(Y.fallen.lookup _).isSome=fM;rw[lk];rfl⟩).trans<|congrArg fJ ?_;have:=Ur (Y:={Y with fallen:=ZD Y.fallen q fL}) (p:=q);dsimp only at this;rw[eg]at this;exact this.symm
    .unfold Yd.adr at ha ⊢;dsimp only at ha
     rwa [Ko]at ha
   |some v =>exact bad (iI λz=>by have z:=z.2;have:(Y.fallen.lookup (q:Int)).isSome=fM:=z;rw[lk]at this;cases this)
  .exact bad<|iI λz=>hp z.1
 |backB b =>
  show wF P (n+5) "Yard.back_of_bridge" [.ref Y.y,.int b] g O X;have lc:=WO (Y:=Y) (b:=b);cases ll:Y.lives.lookup b with
  |none =>
   refine bad ?_;dsimp only[step];split
   .rfl
   .show(Y.lives.lookup b).map _=fK;rw[ll];rfl
  |some life =>
   cases lk:(stands Y.es).lookup b with
   |some a =>rw[lk]at lc;exact bad<|iH lc
   |none =>
    rw[lk]at lc;refine EX no R J ll (Ng lk) ↥0 ↥0 λq t d' g2 fr I gd2 x2=>?_;have sm:=YT (iA b 0 Y.ts) {Y with lives:=ZD Y.lives b<|life+1,es:=Y.es++[⟨b,q,t,d',Z4 b (life+1) Y.most []⟩]};refine fin I ?_ sm.y (λa ha=>?_) x2 .non
    .rw[Ue];refine(iI<|by rw[lc];decide).trans ?_;show(Y.lives.lookup b).map _=_;rw[ll];congr 2;unfold Yd.cc;dsimp only;unfold enC;rw[Ö];rfl
    .rw[sm.adr]at ha;have z:a∈[Y.y,Y.lv,Y.st,Y.fl,Y.rd]++enA (Y.es++[⟨b,q,t,d',Z4 b (life+1) Y.most []⟩]):=ha;rw[Wt,<-ü]at z;rcases Ë.mp z with z|z
     .exact .inl z
     .exact .inr<|fr a z
 |backT p =>
  show wF P (n+5) "Yard.back_of_tie" [.ref Y.y,.int p] g O X;cases lk:Y.fallen.lookup p with
  |none =>exact bad (iI<|by show ¬(Y.fallen.lookup p).isSome=fL;rw[lk];decide)
  |some v =>
   have hp:=gd.fr _<|Zt lk;have fh:p<Y.ts.length:=hp.2;obtain⟨q,rfl⟩:∃q:Nat,p=q:=⟨p.toNat,by have:0<=p:=hp.1;lia⟩
   have et:=É (l:=Y.ts) (i:=q) ↥0;have eg:Y.ts[(q:Int).toNat]?.getD (0,0,0)=Y.ts[q]'↥0:=by rw[ç,et];rfl
   refine Fw no R J et lk λg2 I x2=>fin I ?_ rfl (λa ha=>.inl ?_) x2 .non
   .refine(iH<|by show(Y.fallen.lookup _).isSome=fL;rw[lk];rfl).trans<|congrArg fJ ?_;have:=Ur (Y:={Y with fallen:=Zx Y.fallen q}) (p:=q);dsimp only at this;rw[eg]at this;exact this.symm
   .unfold Yd.adr at ha ⊢;dsimp only at ha
    rwa [Ko]at ha
end
abbrev Yc.at_(C:Yc)(b:Int):Br:=(C.br.lookup b).getD<|Z4 0 0 0 []
abbrev Yc.keys(C:Yc):List Int:=sortI (C.br.map (·.1))
abbrev Ba(C:Yc)(b p:Int):String:=if(C.br.lookup b).isSome then CN (C.at_ b) p else "down"
abbrev Yc.ends(C:Yc)(p:Int):String×String:=(Ba C (C.tie p).1 p,Ba C (C.tie p).2.1 p)
abbrev Yc.downs(C:Yc):List Int:=C.bs.filter λb=>!(C.br.lookup b).isSome
abbrev Yc.cuts(C:Yc):List Int:=sortI (C.fallen.map (·.1))
abbrev GS(C:Yc):List Val:=C.keys.map λb=>.tup [.int b,pV ((C.at_ b).life,(C.at_ b).version)]
def Yc.gd.ten(g:C.gd N):(C.br.map (·.1)).length<=10:=Ù (UG g.nd<|keys_sub.mp g.sub) g.no.ten
def Yc.gd.f16(g:C.gd N):(C.fallen.map (·.1)).length<=16:=Yb (m:=16) g.fn λx I=>by let⟨q,J,rfl⟩:=Ü.mp I;have:=g.fr q J;have:=g.no.sixteen;lia
def OW:C.keys.length=(C.br.map (·.1)).length:=(Ŧ _ _).length_eq
def keys_mem{b:Int}:b∈C.keys↔(C.br.lookup b).isSome=fL:=by unfold Yc.keys;rw[mem_sort,keys_look]
def fX.at_(x:fX h Y){b:Int}(hb:(Y.cc.br.lookup b).isSome=fL):∃e∈Y.es,e.num=b/\(iG.stands Y.es).lookup b=fJ e.b/\Y.cc.at_ b=e.B/\fW h e.b e.t e.d e.B:=by
 rw[WO]at hb;let⟨a,ha⟩:=ô.mp hb;let⟨e,pre,ŀ,he,rfl,rfl⟩:=Xk ha;have hm:e∈Y.es:=by rw[he];simp
 refine⟨e,hm,rfl,ha,?_,x.brs e hm⟩;have:(enC Y.es).lookup e.num=fJ e.B:=ZQ (by rw[Ww];exact x.key)<|Ü.mpr ⟨e,hm,rfl⟩;show((enC Y.es).lookup e.num).getD _=_;rw[this];rfl
section
variable {N:Nat}
def Am(x:fX h Y)(k:∀p g,h p=fK->Ext h g->g p=fJ (.lst<|Y.road.map rdV)->Q (.ref p) g):wF P (n+1) "Yard.road" [.ref Y.y] h Q X:=by have J:=x.ins;have I:=x.road;refine NC ?_;refine' Zd k
def AM(x:fX h Y)(k:Q (Zr Y.bs Y.ts) h):wF P (n+1) "Yard.net" [.ref Y.y] h Q X:=by have I:=x.ins;refine Uo ?_;refine' k
def NM(x:fX h Y)(gd:Y.cc.gd N)(k:∀g,Ext h g->Q (.tup [.tup<|Y.cc.downs.map .int,.tup<|Y.cc.cuts.map .int]) g):wF P (n+1) "Yard.down" [.ref Y.y] h Q X:=by
 have z:=x.ins;have xs:=x.stand;have R:(Y.bs.map Val.int).length<=10:=by rw[Á];exact gd.no.ten
 refine ON ?_
 exists Z5
 refine' ⟨Ð R ↥1,Yk (λi I g=>g=h/\I=((Y.bs.take i).filter λb=>!(Y.cc.br.lookup b).isSome).map .int) ⟨rfl,rfl⟩ (λ_ _ _ _ _=>trivial) ?_ ?_⟩
 .rintro i v I g hv ⟨rfl,rfl⟩ K U;let⟨b,hb,rfl⟩:=ZI hv;rw[Zn hb,Ű,đ,Ů]at U
  exists XX xs rfl
  rw[Xh,<-WO];refine' ii (λJ=>?_) (λJ=>?_)
  .refine' U _ _ ⟨rfl,by rw[J,iH rfl,Ö];rfl⟩
  .exact U _ _ ⟨rfl,by rw[J,iI ↥1,ì,dG,ì]⟩
 rintro I g ⟨rfl,rfl⟩;rw[Á,ù];refine Zd λp1 g1 bC x1 e1=>?_;have s:=x.ext x1;have z:=s.ins;have O:=s.fallen;refine' Ub O (ES _) (by have:=gd.f16;show(Y.cc.fallen.map (·.1)).length<_;lia) (Zd λp2 g2 fh x2 e2=>?_);refine' k _ (x1.trans x2)
def OA{b p:Int}(x:fX h Y)(k:Q (.str<|Ba Y.cc b p) h):wF P (n+4) "Yard.end_at" [.ref Y.y,.int b,.int p] h Q X:=by
 have U:=x.ins;have xs:=x.stand;refine KJ ?_
 exists XX xs rfl
 rw[Xh,<-WO];fail;unfold Ba at k;cases z:(Y.cc.br.lookup b).isSome with
 |false =>rw[z]at k;walk_at "p";exact k
 |true =>rw[z,iH rfl]at k;let⟨e,he,en,J,R,I⟩:=x.at_ z;have bi:=I.ins;walk_at "p";refine Zk xs rfl (by rw[Zz,J];rfl) ?_;fail;rw[R]at k;exact LL I k
def UV{p:Nat}(x:fX h Y)(hp:p<Y.ts.length)(k:Q (.tup [.str (Y.cc.ends p).1,.str (Y.cc.ends p).2]) h):wF P (n+5) "Yard.ends" [.ref Y.y,.int p] h Q X:=by
 have R:=x.ins;have I:(Y.ts.map trV).length=Y.ts.length:=Á _;have J:Y.cc.tie p=Y.ts[p]:=by show Y.ts[(p:Int).toNat]?.getD _=_;rw[ç,É hp];rfl
 refine OT ?_
 exists Xm
 fail;refine hZ (by simp) ?_
 exists Wv
 fail;refine ie (by rw[I];simpa using hp) ?_
 exists Wv
 refine' fS (v:=trV Y.ts[p]) (YN ↥0<|by rw[ç,Ø,É hp];rfl) ?_;unfold Yc.ends at k;rw[J]at k;unfold trV
 exists OA x
 exists OA x
 refine' k
def Mb(x:fX h Y)(gd:Y.cc.gd N)(k:∀p g,h p=fK->Ext h g->g p=fJ (.lst<|GS Y.cc)->Q (.ref p) g):wF P (n+2) "Yard.stamps" [.ref Y.y] h Q X:=by
 have xi:=x.ins;have xs:=x.stand;have U:(stands Y.es).map (·.1)=Y.cc.br.map (·.1):=(ZM _).trans (Ww _).symm;have h10:=gd.ten;have kl:=OW (C:=Y.cc);refine KE ?_;refine' Ub xs (ES _) (by rw[U];lia) (Zd λp1 g1 bC x1 s=>?_);rw[U]at s;have R:=x.ext x1;have xi:=R.ins;have xs:=R.stand;refine' ⟨Ð (by rw[Á];show Y.cc.keys.length<=10;lia) ↥1,?_⟩;refine Yk (λi J g=>g=g1/\J=(Y.cc.keys.take i).map λb=>.tup [.int b,pV ((Y.cc.at_ b).life,(Y.cc.at_ b).version)]) ⟨rfl,rfl⟩ (λi J g _ ⟨z,_⟩=>by rw[z];exact lsE s) ?_ ?_
 .rintro i v J g hv ⟨rfl,rfl⟩ K hK;let⟨nm,I,rfl⟩:=ZI hv;let⟨e,he,en,lk,ea,O⟩:=R.at_<|keys_mem.mp<|é I;have bi:=O.ins;walk_at "p";refine Zk xs rfl (by rw[Zz,lk];rfl) ?_
  exists Yl O
  refine' hK _ _ ⟨rfl,?_⟩;rw[Zn (xs:=Y.cc.keys) I,Ö,<-ea];rfl
 .rintro J g ⟨rfl,rfl⟩;rw[Á,show(sortI (Y.cc.br.map (·.1))).length=Y.cc.keys.length from rfl,ù];exact Zd λp g2 hp x2 ep=>k p g2 (Zc x1 hp) (x1.trans x2) ep
end
abbrev Row(h:Hs)(w:Ad):Prop:=∃a b:Int,h w=fJ (.lst [.int a,.int b])/\0<=b/\b<2147483587
def Row.ne(x:Row h w)(e:h p=fK):w≠p:=by let⟨_,_,x,_⟩:=x;exact Za x e
def Row.ext(x:Row h w)(e:Ext h g):Row g w:=by let⟨_,_,x,y⟩:=x;exact⟨_,_,e.get x,y⟩
def Lc{i:Int}(e:h a=fJ (.lst<|ns.map .int))(q:KB (!iN (i∈ns))):go (f8 h .notin (.int i)<|.ref a) KB:=fR (by show(inV h (.int i)<|.ref a).map _=_;unfold inV;simp![e];rw[Nd];rfl) q
def lset(e:h a=fJ (.lst<|ns.map .int))(m:ns.length<4000)(q:Q (.int (dedup ns).length) h):(biV h .lenSet [.ref a]).wp h Q:=wp_val (by show biLenSet h (.ref a)=_;unfold biLenSet sortOf;simp![e,fY,ê,Ys];rw[iH m]) q
def Mm:∀(ns:List Int),(dedup ns).length=ns.length↔ns.Nodup
 |[]=>by simp[dedup]
 |n::ns=>by
  have z:=J4 ns;have v:=ě (λy=>y != n)<|dedup ns;have R:=Mm ns;rw[dedup,Ñ,Ñ,ā];constructor
  .intro h;have J:(List.filter (λy=>y != n)<|dedup ns).length=(dedup ns).length:=by lia
   have I:=aC.mp J;refine⟨λhm=>?_,R.mp<|by lia⟩;have:=I n<|mem_dedup.mpr hm;simp at this
  .rintro⟨J,I⟩;have s:=R.mpr I;have k:(List.filter (λy=>y != n)<|dedup ns).length=(dedup ns).length:=aC.mpr λy U=>by
    have:=mem_dedup.mp U;simp![bne_iff_ne,ne_eq];rintro rfl;exact J this
   lia
def Row.exb(x:Row h w)(n:p≠w):Row (upd h p o) w:=by let⟨_,_,x,y⟩:=x;exact⟨_,_,(fN n.symm).trans x,y⟩
def OM(x:ExtB w h g)(e:h p=fK):ExtB w h<|upd g p o:=⟨λ{a u} n z=>by rw[fN<|Za z e];exact x.get n z⟩
def U4(k:∀p g,h p=fK->Ext h g->Row g p->Q (.ref p) g):wF P (n+1) "_law_row" [.int c] h Q X:=by refine AT ?_;refine' Zd λp g hp x e=>k p g hp x ⟨_,_,e,Ζ _ ↥1,ų _<|by decide⟩
def Ze(hw:Row h w)(h1:0<m)(R:m<1073741824)(k:∀r g,0<=r->r<m->ExtB w h g->Row g w->Q (.int r) g):wF P (n+1) "_law_take" [.ref w,.int m] h Q X:=by
 let⟨a,b,e,J,b1⟩:=hw;refine UP ?_;refine' ig (λI=>?_) (λI=>?_)<;>fail
 .exact k _ _ (Ζ _<|by lia) (ų _ h1) ExtB.upd ⟨_,_,fO,J,b1⟩
 .exact k _ _ (Ζ _<|by lia) (ų _ h1) ExtB.upd ⟨_,_,fO,Ζ _ ↥1,ų _<|by decide⟩
abbrev TOk(ns:List Int)(t:Tie):Prop:=t.1∈ns/\t.2.1∈ns/\t.1≠t.2.1/\1<=t.2.2/\t.2.2<=1000
abbrev IsT(ns:List Int)(v:Val):Prop:=∃t:Tie,v=trV t/\TOk ns t
def SH(nd:ns.Nodup){i j:Int}{a b:Int}(U:0<=i)(i1:i<ns.length)(R:0<=j)(j1:j<ns.length)(s:i≠j)(O:atI (ns.map Val.int) i=fJ (.int a))(v:atI (ns.map Val.int) j=fJ (.int b)):a≠b:=by
 have hi:i.toNat<ns.length:=by lia
 have k:j.toNat<ns.length:=by lia
 have J:=YN (xs:=ns.map Val.int) U (x:=.int ns[i.toNat]) (by rw[Ø,É hi];rfl);have I:=YN (xs:=ns.map Val.int) R (x:=.int ns[j.toNat]) (by rw[Ø,É k];rfl);rw[O]at J;rw[v]at I;simp only[į,Val.int.injEq]at J I;rw[J,I];intro z;have:=(aH nd).mp z;lia
abbrev O7(t:Tie):Tie:=(if t.2.1<t.1 then t.2.1 else t.1,if t.2.1 > t.1 then t.2.1 else t.1,t.2.2)
def Gh{t:Tie}(h:TOk ns t):LOk ns<|O7 t:=by
 let⟨U,R,k,J,I⟩:=h;unfold O7 LOk;by_cases z:t.2.1<t.1
 .rw[iH z,iI<|by lia];exact⟨R,U,z,J,I⟩
 .rw[iI z,iH<|by lia];exact⟨U,R,by show t.1<t.2.1;lia,J,I⟩
def U0:∀{ys:List Val},(∀y∈ys,IsT ns y)->∃zs:List Tie,ys=zs.map trV/\∀z∈zs,TOk ns z
 |[],_=>⟨[],rfl,by simp⟩
 |y::ys,h=>by let⟨t,rfl,ht⟩:=h y (by simp);let⟨zs,rfl,J⟩:=U0 (ys:=ys) λz J=>h z<|Ý _ J;exact⟨t::zs,rfl,λz I=>(Å.mp I).elim (λe=>e▸ht)<|J z⟩
def isl{xs:List Val}(e:h a=fJ (.lst xs))(q:Q (.bl fL) h):(biV h (.isi ["list"]) [.ref a]).wp h Q:=Fg (by unfold isiAny isiAny iF iE;simp![e];rfl) q
variable {lo:Int}
def Aa{i hi:Int}(h1:lo<=i)(I:i<=hi)(k:Q (.bl fL) h):wF P (n+2) "is_whole_between" [.int i,.int lo,.int hi] h Q X:=by
 refine Wb ?_
 exists Yo
 walk_at "p";refine hZ ⇑h1 ?_;fail;rw[iK I];exact k
def WD{i:Int}(k:Q (.bl fL) h):wF P (n+1) "is_whole" [.int i] h Q X:=by refine Yo ?_;walk_at "p";exact k
def AG{xs:List Val}:xs.filterMap (λ_=>fJ<|Val.bl fL)=(xs.map λ_=>fL).map Val.bl:=by rw[õ];exact congrFun (cI (f:=Val.bl ∘ λ_=>fL)) xs
def Pa(e:h a=fJ (.lst<|ns.map .int))(l2:ns.length<=10)(hb:Brs ns)(nd:ns.Nodup)(k:∀g,Ext h g->Q (.bl fL) g):wF P (n+3) "are_bridges" [.ref a] h Q X:=by
 refine KR ?_;have I:(ns.map Val.int).length=ns.length:=Á _;refine' ⟨Ð (by rw[I];exact l2) ↥1,YG (λ_=>fJ<|.bl fL) (lsE e) (λv J K R=>?_) ?_⟩
 .obtain⟨i,hi,rfl⟩:=Ü.mp J;walk_at "p";exact Aa (hb i hi).1 (by have:=(hb i hi).2;lia) R
 rw[AG];refine Zd λp g hp x U=>?_
 exists Uk U (YY _)
 fail;refine ie (by simp) ?_;have s:=x.get e;refine' lset s ↥0 ?_;fail;have:iN (((dedup ns).length:Int)=((ns.map Val.int).length:Int))=fL:=iK (by rw[I];have:=(Mm ns).mpr nd;lia);rw[this];exact k g x
def Pz{t:Tie}(ht:TOk ns t)(e:h b=fJ (.lst<|ns.map .int))(k:Q (.bl fL) h):wF P (n+3) "is_tie" [trV t,.ref b] h Q X:=by
 let⟨i,j,c⟩:=t;let⟨s,U,R,J,I⟩:=ht;unfold trV;dsimp only at s U R J I ⊢;refine Dp ?_;walk_at "p";refine WD ?_;walk_at "p";refine WD ?_;walk_at "p";refine Lc e ?_;fail;refine ie ⇑s ?_
 exists Lc e
 fail;refine ie ⇑U ?_;fail;refine hZ ⇑R ?_;refine' Aa J I k
def Ir{t:Tie}(k:Q (trV<|O7 t) h):wF P (n+1) "lesser_end_first" [trV t] h Q X:=by let⟨i,j,c⟩:=t;unfold trV;refine X5 ?_;refine' k
def Ha{zs:List Tie}(eb:h b=fJ (.lst<|ns.map .int))(et:h t=fJ (.lst<|zs.map trV))(l1:1<=ns.length)(l2:ns.length<=10)(hb:Brs ns)(nd:ns.Nodup)(lt:zs.length<=16)(hz:∀z∈zs,TOk ns z)(k:∀g,Ext h g->Q (Zr (sortI ns)<|zs.map O7) g):wF P (n+4) "make_net" [.ref b,.ref t] h Q X:=by
 have hL:(ns.map Val.int).length=ns.length:=Á _;have hT:(zs.map trV).length=zs.length:=Á _;refine Uc ?_;refine FV<|S5<|Tz<|IK<|IN<|Sh<|DH<|Lm rfl<|Fi<|isl eb<|g_tbl ?_;refine ie rfl ?_;refine IK<|IN<|Sh<|DH<|Lm rfl<|Fi<|isl et<|g_tbl ?_;refine ie rfl ?_;fail;refine hZ (by simpa using (by lia:(1:Int)<=(ns.map Val.int).length)) ?_;fail;refine ie (by simpa using (by lia:(ns.length:Int)<=10)) ?_;fail;refine ie (by simpa using (by lia:(zs.length:Int)<=16)) ?_;refine' Pa eb l2 hb nd λg x=>?_;fail;refine ie rfl ?_;have R:=x.get eb;have J:=x.get et;refine' ⟨Ð (by rw[hT];exact lt) ↥1,YG (λ_=>fJ<|.bl fL) (lsE J) (λv U K O=>?_) ?_⟩
 .obtain⟨z,I,rfl⟩:=Ü.mp U;walk_at "p";exact Pz (hz z I) R O
 rw[AG];refine Zd λp g2 hp x2 ep=>?_
 exists Uk ep (YY _)
 fail;refine ie (by simp) ?_;have eb2:=x2.get R;have et2:=x2.get J;refine' LT eb2 (Ys _) ↥0 ?_;refine Zd λp3 g3 hp3 x3 ep3=>?_;have et3:=x3.get et2;refine' ⟨Ð (by rw[hT];exact lt) ↥1,Yk (λi s g=>g=g3/\s=(zs.take i).map λz=>trV<|O7 z) ⟨rfl,rfl⟩ (λ_ _ g _ z=>by rw[z.1];exact lsE et3) (λi v s g U hI K O=>?_) λs g hI=>?_⟩
 .obtain⟨rfl,rfl⟩:=hI;rw[Ø]at U;let⟨z,I,rfl⟩:=Ï.mp U;walk_at "p";refine Ir<|O _ _ ⟨rfl,?_⟩;rw[ŝ,I,Ö];rfl
 .obtain⟨rfl,rfl⟩:=hI;rw[hT,ù];refine Zd λp4 g4 hp4 x4 ep4=>?_;fail;have e:Zr (sortI ns) (zs.map O7)=.tup [.tup<|(sortI ns).map .int,.tup<|zs.map λz=>trV<|O7 z]:=by unfold Zr;rw[õ];rfl
  rw[e]at k;exact k _<|((x.trans x2).trans x3).trans x4
def Cy(h:(gO lo m)[i]?=fJ v):v=.int (lo+i)/\lo+(i:Int)<m:=by unfold gO at h;rw[Ø]at h;let⟨k,J,rfl⟩:=Ï.mp h;let⟨I,rfl⟩:=Ô.mp J;rw[ĵ]at I;rw[fc];exact⟨rfl,by lia⟩
def WK:(gO lo m).length=(m - lo).toNat:=by unfold gO;rw[Á,ĵ]
def Dj(f:α->β)(I:List Nat)(xs:List α):pickL I (xs.map f)=(pickL I xs).map f:=by unfold pickL;rw[List.map_filterMap];exact congrArg (λf=>List.filterMap f I) (funext λi=>Ø)
def D3(h:x∈pickL I xs):x∈xs:=by let⟨i,_,h⟩:=ů.mp h;exact é h
def Nz{bs:List Int}{K:Val->Prop}(e:h a=fJ (.lst<|bs.map .int))(r0:0<=r)(r1:r<(bs.map Val.int).length)(k:∀i∈bs,atI (bs.map Val.int) r=fJ (.int i)->K (.int i)):go (gU h (.ref a)<|.int r) K:=by let⟨u,I,J⟩:=Ks r0 r1;let⟨i,hi,rfl⟩:=Ü.mp J;exact Z8 e I (k i hi I)
def Ln{xs:List Val}{K:Val->Prop}(e:h a=fJ (.lst xs))(r0:0<=r)(r1:r<xs.length)(I:∀v∈xs,∃i,v=.int i/\1<=i/\i<=m)(k:∀i,1<=i->i<=m->K (.int i)):go (gU h (.ref a)<|.int r) K:=by let⟨u,s,J⟩:=Ks r0 r1;let⟨i,rfl,U,R⟩:=I u J;exact Z8 e s (k i U R)
def Q6(hw:Row h w)(k:∀bs ts g,gh bs ts->ExtB w h g->Row g w->Q (Zr bs ts) g):wF P (n+5) "_law_net" [.ref w] h Q X:=by
 refine B9 ?_;refine' Zd λp0 f2 hp0 y2 e0=>?_;have n0:p0≠w:=λz=>hw.ne hp0 z.symm;refine' Ze (hw.ext y2) ↥1 ↥1 λr9 g0 a9 b9 y3 w0=>?_;have e0:=y3.get n0 e0;have x0:ExtB w h g0:=(ExtB.of y2).trans y3;walk_at "py1";walk_at "w";let⟨u0,eu0,hu0⟩:=Ks (xs:=[Val.int 6,.int 10]) (r:=if iN (r9=0)=fL then 1 else 0) (by split<;>decide) (by show _<(2:Int);split<;>decide);obtain⟨mn,rfl,a0,b0⟩:∃mn:Int,u0=.int mn/\1<=mn/\mn<=10:=by simp![Å,Õ,or_false]at hu0;rcases hu0 with rfl|rfl<;>exact⟨_,rfl,by lia,by lia⟩
 refine in_bl ?_;refine Z8 e0 eu0 ?_;clear e0 eu0 hu0;refine' Ze w0 ↥0 ↥0 λr1 f1 a1 b1 y1 v1=>?_;have x0:=x0.trans y1;refine' Zd λp1 g1 bC x1 e1=>?_;have n1:p1≠w:=λz=>v1.ne bC z.symm;refine' Ze (v1.ext x1) ↥1 ↥1 λr2 g2 a2 b2 x2 w2=>?_;have xh:ExtB w h g2:=(x0.trans<|.of x1).trans x2;refine Ln (m:=90) (x2.get n1 e1) a2 b2 (λv s=>by
   simp![Å,Õ,or_false]at s
   rcases s with rfl | rfl | rfl | rfl<;>exact⟨_,rfl,by decide,by decide⟩) λst s1 s2=>?_
 clear e1;refine' ⟨⟨by lia,by lia⟩,by rw[UX];exact Ð (by lia:(1+r1).toNat<=10) ↥1,?_⟩;refine Yk (λi ys g=>∃ns:List Int,ys=ns.map Val.int/\ns.length=i/\Brs ns/\ExtB w h g/\Row g w) ⟨[],rfl,rfl,(λi hi=>iM hi Õ),xh,w2⟩ (λ_ _ _ _ _=>trivial) ?_ ?_
 .rintro i v ys g s ⟨ns,rfl,hl,hb,x,J⟩ K hK;let⟨rfl,hi⟩:=YX s;walk_at "p";refine Ze J ↥1 ↥1 λr3 g3 a3 b3 x3 w3=>?_;have m1:2*(i:Int)+r3<=19:=by lia
  have m2:st*(2*(i:Int)+r3)<=90*19:=Int.le_trans (Int.mul_le_mul_of_nonneg_right s2<|by lia) (Int.mul_le_mul_of_nonneg_left m1<|by decide);have m3:0<=st*(2*(i:Int)+r3):=ϥ ↥0 ↥0;refine' hK _ _ ⟨ns++[st*(2*(i:Int)+r3) / 2],by rw[Ö];rfl,by rw[á,hl];rfl,λj hj=>?_,x.trans x3,w3⟩;rcases Ë.mp hj with hj|hj
  .exact hb j hj
  .rw[Ó.mp hj];lia
 .rintro ys g ⟨ns,rfl,hl,hb,x,J⟩;rw[UX]at hl;have l1:1<=ns.length:=by lia
  have l2:ns.length<=10:=by lia
  refine Zd λp5 g5 hp5 x5 e5=>?_;refine' TR e5 ↥0 (Zd λb g6 hb6 x6 eb=>?_);have hrb:Brs<|sortI<|dedup ns:=λi hi=>hb i<|sd_mem.mp hi;have nd:=Dm ns;have l3:=QH l1;have l4:=QX ns;generalize sortI (dedup ns)=bs at eb hrb nd l3 l4;have w6:=(J.ext x5).ext x6;have nb:b≠w:=λz=>(J.ext x5).ne hb6 z.symm;have xh6:ExtB w h g6:=x.trans<|.of<|x5.trans x6;clear e5 x6 x5 hp5 J x hb;have hL:(bs.map Val.int).length=bs.length:=Á _;refine' Zd λt g7 ht7 x7 e7=>?_;have nt:t≠w:=λz=>w6.ne ht7 z.symm;have ntb:t≠b:=λz=>Za eb ht7 z.symm;have w8:=w6.ext x7;have xh8:ExtB w h g7:=xh6.trans<|.of x7;have eb8:=x7.get eb;have e8:=e7;clear e7 eb;have ht0:h t=fK:=by
   cases z:h t with
   |none=>rfl
   |some o=>rw[xh6.get nt z]at ht7;cases ht7
  refine' ⟨⟨by lia,by lia⟩,?_⟩;refine Zh (λi en g=>Sm5 λv3 v6 v7 v8 ts=>Cj7 (en=[fJ<|.ref w,fJ<|.int<|1+r1,fJ<|.int st,v3,fJ<|.ref b,fJ<|.ref t,v6,v7,v8]) (g t=fJ (.lst ts)) (ts.length<=i) ((∀t∈ts,IsT bs t)) (g b=fJ (.lst<|bs.map .int)) (ExtB w h g)<|Row g w) ⟨_,_,_,_,[],rfl,e8,Ì _,(λi hi=>iM hi Õ),eb8,xh8,w8⟩ (λ_ _ _ _ _=>trivial) ?_ ?_
  .rintro i v en g s ⟨v3,v6,v7,v8,ts,rfl,O,hl,ht,R,x,J⟩ K hK;let⟨rfl,hi⟩:=Cy s;have hi:1+(i:Int)<bs.length:=by rw[hL]at hi;exact hi
   refine' Ze J ↥1 ↥1 λq1 g1 a1 b1 x1 w1=>?_;refine' ig (λhc=>?_) (λhc=>?_)
   .refine' Ze w1 ↥0 ↥0 λq2 g2 a2 b2 x2 w2=>?_;have eb2:=x2.get nb<|x1.get nb R;refine Nz eb2 a2 ↥0 λi2 fg eu2=>?_;refine' Nz eb2 ↥0 ↥0 λi3 hi3 eu3=>?_;refine' Ze w2 ↥1 ↥1 λq4 g4 a4 b4 x4 w4=>?_;have U:ExtB w g g4:=(x1.trans x2).trans x4;have et4:=U.get nt O;refine' Zj et4 (Ð (by lia:ts.length<=20)<|by decide) ?_;dsimp only;refine' hK _ _ ⟨_,_,_,_,_,rfl,fO,by rw[á];simp;lia,λz I=>?_,(fN ntb.symm).trans<|U.get nb R,OM (x.trans U) ht0,w4.exb nt⟩;rcases Ë.mp I with I|I
    .exact ht z I
    .rw[Ó.mp I];exact⟨(i2,i3,1+q4),rfl,fg,hi3,SH nd a2 ↥0 ↥0 ↥0 ↥0 eu2 eu3,by show 1<=1+q4;lia,by show 1+q4<=1000;lia⟩
   .refine' hK _ _ ⟨_,_,_,_,_,rfl,x1.get nt O,by lia,ht,x1.get nb R,x.trans x1,w1⟩
  .rintro en g ⟨v3,v6,v7,v8,ts,rfl,O,hl,ht,R,x,J⟩;have hl:ts.length<=16:=by rw[WK,hL]at hl;lia
   refine' Ze J ↥1 ↥1 λr8 g8 a8 b8 x8 w8=>?_;refine' ⟨⟨by lia,by lia⟩,?_⟩;refine Zh (λi en g=>Sm5 λv3 v6 v7 v8 ts=>Cj7 (en=[fJ<|.ref w,fJ<|.int<|1+r1,fJ<|.int st,v3,fJ<|.ref b,fJ<|.ref t,v6,v7,v8]) (g t=fJ (.lst ts)) (ts.length<=16) ((∀t∈ts,IsT bs t)) (g b=fJ (.lst<|bs.map .int)) (ExtB w h g)<|Row g w) ⟨_,_,_,_,ts,rfl,x8.get nt O,hl,ht,x8.get nb R,x.trans x8,w8⟩ (λ_ _ _ _ _=>trivial) ?_ ?_
   .rintro i v en g s ⟨v3,v6,v7,v8,ts,rfl,O,hl,ht,R,x,J⟩ K hK;let⟨rfl,hi⟩:=YX s;refine' Ze J ↥0 ↥0 λq1 g1 a1 b1 x1 w1=>?_;have eb1:=x1.get nb R;refine Nz eb1 a1 b1 λi1 hi1 eu1=>?_;refine' Ze w1 ↥0 ↥0 λq2 g2 a2 b2 x2 w2=>?_;have eb2:=x2.get nb eb1;refine Nz eb2 a2 b2 λi2 fg eu2=>?_;refine' Ze w2 ↥1 ↥1 λq3 g3 a3 b3 x3 w3=>?_;refine' Ze w3 ↥1 ↥1 λq4 g4 a4 b4 x4 w4=>?_;refine' Zd λp9 g9 hp9 x9 e9=>?_;have n9:p9≠w:=λz=>w4.ne hp9 z.symm;refine' Ze (w4.ext x9) ↥1 ↥1 λq5 g5 a5 b5 x5 w5=>?_;refine Ln (m:=1000) (x5.get n9 e9) a5 b5 (λv s=>by
      simp![Å,Õ,or_false]at s
      rcases s with rfl | rfl | rfl | rfl | rfl<;>exact⟨_,rfl,by lia,by lia⟩) λc c0 c1=>?_
    have U:ExtB w g g5:=((((x1.trans x2).trans x3).trans x4).trans<|.of x9).trans x5;have et5:=U.get nt O;have eb5:=U.get nb R;refine' NA (λhc=>?_) (λhc=>?_)
    .refine' ig (λhd=>?_) (λhd=>?_)
     .refine' Zj et5 (Ð hl<|by decide) ?_;dsimp only;refine' hK _ _ ⟨_,_,_,_,_,rfl,fO,by rw[á];simp;lia,λz I=>?_,(fN ntb.symm).trans eb5,OM (x.trans U) ht0,w5.exb nt⟩;rcases Ë.mp I with I|I
      .exact ht z I
      .rw[Ó.mp I];exact⟨(i1,i2,c),rfl,hi1,fg,hc,c0,c1⟩
     .refine' hK _ _ ⟨_,_,_,_,_,rfl,et5,hl,ht,eb5,x.trans U,w5⟩
    .walk_at "p";exact hK _ _ ⟨_,_,_,_,_,rfl,et5,hl,ht,eb5,x.trans U,w5⟩
   .rintro en g ⟨v3,v6,v7,v8,ts,rfl,O,hl,ht,R,x,J⟩;let⟨zs,rfl,I⟩:=U0 ht;rw[Á]at hl;refine' Zd λp9 g9 hp9 x9 e9=>?_;have n9:p9≠w:=λz=>J.ne hp9 z.symm;refine' Ze (J.ext x9) ↥1 ↥1 λq5 g5 a5 b5 x5 w5=>?_;let⟨u3,eu3,hu3⟩:=Ks (xs:=[Val.int 1,.int (-1)]) (r:=q5) a5 b5;obtain⟨c,rfl,c0⟩:∃c:Int,u3=.int c/\c≠0:=by
     simp![Å,Õ,or_false]at hu3;rcases hu3 with rfl|rfl<;>exact⟨_,rfl,by decide⟩
    refine Z8 (x5.get n9 e9) eu3 ?_;have U:ExtB w h g5:=(x.trans<|.of x9).trans x5;have R:=x5.get nb<|x9.get R;refine' ⟨c0,SY (x5.get nt<|x9.get O) λix _ il=>?_⟩;rw[Á]at il;rw[Dj];have I:∀z∈pickL ix zs,TOk bs z:=λz h=>I z<|D3 h;have pl:(pickL ix zs).length<=ix.length:=Ū _ _;generalize pickL ix zs=zs at I pl;refine Zd λpc gc hpc xc O=>?_;refine' Ha (xc.get R) O l3 ↥0 hrb nd ↥0 I λg3 x3=>?_;have hl2:(sortI bs).length=bs.length:=(Ŧ bs _).length_eq;refine k _ _ _ ⟨by lia,by lia,λi hi=>hrb i<|mem_sort.mp hi,Wx nd,by rw[Á];lia,λt ht=>?_⟩ (U.trans<|.of<|xc.trans x3)<|(w5.ext xc).ext x3;let⟨z,hz',rfl⟩:=Ü.mp ht;let⟨q1,q2,q3⟩:=Gh<|I z hz';exact⟨mem_sort.mpr q1,mem_sort.mpr q2,q3⟩
abbrev Gm(bs:List Int)(ts:List Tie)(most:Int):Yc:=⟨bs,ts,most,bs.map λb=>(b,0),bs.map λb=>(b,Z4 b 0 most<|iA b 0 ts),[],[]⟩
def S6(nw:YNew bs ts most Y):Y.cc=Gm bs ts most:=by
 have e:enC Y.es=bs.map λb=>(b,Z4 b 0 most<|iA b 0 ts):=by rw[<-nw.num,õ];exact ĩ λe he=>by show(e.num,e.B)=(e.num,_);rw[nw.br e he]
 unfold Yd.cc Gm;rw[nw.hb,nw.ht,nw.hm,nw.lives,nw.fallen,nw.road,e]
def IA{b:Int}(h:ts.length<=16):Bok ts.length<|Z4 b life most<|iA b 0 ts:=by
 have r:=Ky (b:=b) (l:=ts) (k:=0);have rg:∀q∈W6 (iA b 0 ts),0<=q.1/\q.1<ts.length:=λq I=>by let⟨x,J,rfl⟩:=Ü.mp I;have:=r.2 x J;dsimp only;lia
 refine⟨⟨Ċ,(λ_ m=>nomatch m),?_,λq I=>?_⟩,λq I=>(rg q I).2⟩
 .show((W6 _).map (·.1)).Nodup;rw[Az];exact r.1.imp λz=>by lia
 .have:=rg q I;lia
def Av(no:gh bs ts):(Gm bs ts most).gd 0:=by
 have I:(bs.map λb=>(b,Z4 b 0 most<|iA b 0 ts)).map (·.1)=bs:=by rw[õ];exact Š _
 refine⟨no,?_,keys_sub.mpr ?_,λq J=>?_,?_,Ċ,(λ_ m=>nomatch m),Ì _⟩
 .show((bs.map λb=>(b,Z4 b 0 most<|iA b 0 ts)).map (·.1)).Nodup;rw[I];exact no.up.imp λh=>by lia
 .show ∀x∈(bs.map λb=>(b,Z4 b 0 most<|iA b 0 ts)).map (·.1),_;rw[I];exact λ_=>id
 .obtain⟨b,_,rfl⟩:=Ü.mp J;exact IA no.sixteen
 .show(bs.map λb=>(b,(0:Int))).map (·.1)=bs;rw[õ];exact Š _
def Mz{b:Int}(h:b∈C.br.map (·.1)):∃D,step C (.tick b)=fJ D/\D.br.map (·.1)=C.br.map (·.1):=by let⟨B,hB⟩:=ZN h;refine⟨_,by show(C.br.lookup b).map _=_;rw[hB];rfl,Kd _⟩
def fX.extb(x:fX h Y)(e:ExtB w h g)(nw:w∉Y.adr):fX g Y:=x.keep (S:=[w]) (Ex.ofB e<|by simp) λa ha z=>nw (Ó.mp z▸ha)
def Fz{b:Int}(h:b∈C.keys):(step C<|.fallB b).isSome=fL:=by dsimp only[step];rw[iH<|keys_mem.mp h];rfl
def Ii{b:Int}(h:b∈C.keys):(step C<|.tick b).isSome=fL:=by let⟨D,I,_⟩:=Mz<|keys_look.mp<|keys_mem.mp h;rw[I];rfl
def cut_mem{p:Int}:p∈C.cuts↔(C.fallen.lookup p).isSome=fL:=by unfold Yc.cuts;rw[mem_sort,look_iff];simp
def Ey{p:Int}(h0:0<=p)(h1:p<C.ts.length)(h:p∉C.cuts):(step C<|.fallT p).isSome=fL:=by dsimp only[step];rw[iH ⟨⟨h0,h1⟩,by cases z:(C.fallen.lookup p).isSome with|false=>rfl|true=>exact iM (cut_mem.mpr z) h⟩];rfl
def DF{p:Int}(h:p∈C.cuts):(step C<|.backT p).isSome=fL:=by dsimp only[step];rw[iH<|cut_mem.mp h];rfl
def downs_mem{b:Int}:b∈C.downs↔b∈C.bs/\(C.br.lookup b).isSome=fM:=by unfold Yc.downs;rw[Đ];simp
def Fp{b:Int}(g:C.gd N)(h:b∈C.downs):(step C<|.backB b).isSome=fL:=by let⟨I,R⟩:=downs_mem.mp h;dsimp only[step];rw[iI<|by rw[R];decide];rw[<-g.lv]at I;let⟨v,J⟩:=ZN I;rw[J];rfl
def Nr(h0:0<=r)(h1:r<C.road.length):(step C<|.lost r).isSome=fL/\(step C<|.come r).isSome=fL:=by have e:=É (l:=C.road) (i:=r.toNat) ↥0;dsimp only[step];rw[iI ↥0,e];exact⟨rfl,by rw[iI<|by lia];rfl⟩
def pick(r0:0<=r)(r1:r<ns.length):∃b∈ns,atI (ns.map Val.int) r=fJ (.int b):=by let⟨b,hb,hm⟩:=E4 r0 r1;exact⟨b,hm,YN r0<|by rw[Ø,hb];rfl⟩
abbrev flat:Nat->Val->Bool
 |_,.non=>fL
 |_,.bl _=>fL
 |_,.int _=>fL
 |_,.str _=>fL
 |n+1,.tup xs=>xs.all<|flat n
 |_,_=>fM
def XH{α β:Type}{f:α->Option β}:∀{xs:List α},(∀x∈xs,∃d,f x=fJ d)->∃ds,xs.mapM f=fJ ds
 |[],_=>⟨[],rfl⟩
 |x::xs,h=>by let⟨d,hd⟩:=h x (by simp);let⟨ds,I⟩:=XH (xs:=xs) λy J=>h y (by simp[J]);exact⟨d::ds,by rw[ş,hd,I];rfl⟩
def JE{h:Hs}:∀{n:Nat}{v:Val},flat n v=fL->∃d,dat h n v=fJ d
 |0,.non,_=>⟨_,rfl⟩
 |0,.bl _,_=>⟨_,rfl⟩
 |0,.int _,_=>⟨_,rfl⟩
 |0,.str _,_=>⟨_,rfl⟩
 |n+1,.non,_=>⟨_,rfl⟩
 |n+1,.bl _,_=>⟨_,rfl⟩
 |n+1,.int _,_=>⟨_,rfl⟩
 |n+1,.str _,_=>⟨_,rfl⟩
 |n+1,.tup xs,e=>by let⟨ds,I⟩:=XH (f:=dat h n) (xs:=xs) λx J=>JE<|ý.mp e x J;exact⟨_,by show(xs.mapM<|dat h n).map D.tup=_;rw[I];rfl⟩
def UD{xs:List Val}(s:h a=fJ (.lst xs))(k:h b=fJ (.lst xs))(e:xs.all (flat 11)=fL):eqV h (.ref a) (.ref b)=fJ fL:=by
 let⟨ds,I⟩:=XH (f:=dat h 11) (xs:=xs) λx R=>JE<|ý.mp e x R;have J:∀{c:Ad},h c=fJ (.lst xs)->dat h deep (.ref c)=fJ (.lst ds):=λ{c} U=>by show(fY<|h c).bind (λxs=>(xs.mapM<|dat h 11).map D.lst)=_;rw[U,ZJ,ê,I];rfl
 unfold eqV;rw[J s,J k];show fJ (D.eqv _ _)=_;rw[D.eqv_refl]
def all_map{α:Type}{f:α->Val}{n:Nat}{xs:List α}(h:∀x∈xs,flat n (f x)=fL):(xs.map f).all (flat n)=fL:=by rw[List.all_map];exact ý.mpr h
def Wn{i:Int}:flat n (.int i)=fL:=by cases n<;>rfl
section
variable {N:Nat}
def OJ(no:gh bs ts)(hp:h p=fK)(k:∀Y g,Y.y=p->fX g Y->Y.cc=Gm bs ts most->(∀a∈Y.adr,h a=fK)->Ext h g->Q .non g):wF P (n+3) "Yard.__init__" [.ref p,Zr bs ts,.int most] (upd h p<|.ins "Yard" []) Q X:=CF no hp λY g e y nw f x=>k Y g e y (S6 nw) f x
def Ac{k:Nat}(q:∀c,Q (.int c) h):wF P (n+1) "_law_cell_at" [.scr ns,.int k] h Q X:=by
 refine KP ?_;refine' ig (λJ=>?_) (λJ=>?_)
 .fail;have I:k<ns.length:=by lia
  refine LV (v:=.int ns[k]) ?_ ?_
  .refine YN ↥0 ?_;rw[Ø];simp[I]
  .exact q _
 .refine' q _
end
def Um{st:Hs->Prop}{step:Val->Hs->(Option Val->Hs->Prop)->XQ->Prop}{Q:List Val->Hs->Prop}{f:α->Val}{l:List α}(p:α->Bool)(v:α->Val)(U:st h)(go:∀x∈l,∀K,(p x=fL->K (fJ<|v x) h)->(p x=fM->K fK h)->step (f x) h K X)(fin:Q ((l.filter p).map v) h):wComp st step (l.map f) [] h Q X:=by
 refine Yk (λi I g=>g=h/\I=((l.take i).filter p).map v) ⟨rfl,rfl⟩ (λ_ _ _ _ z=>z.1▸U) ?_ ?_
 .rintro i u I g k ⟨rfl,rfl⟩ K J;let⟨x,R,rfl⟩:=ZI k;rw[Zn R,Ű,đ,Ů]at J;exact go x (é R) K (λe=>J _ _ ⟨rfl,by rw[e,iH rfl,Ö];rfl⟩) λe=>J _ _ ⟨rfl,by rw[e,iI ↥1,ì,dG,ì]⟩
 .rintro I g ⟨rfl,rfl⟩;rw[Á,ù];exact fin
def EM{st:Hs->Prop}{step:Val->Hs->(Option Val->Hs->Prop)->XQ->Prop}{Q:List Val->Hs->Prop}{f:α->Val}{l:List α}(v:α->Val)(I:st h)(go:∀x∈l,∀K,K (fJ<|v x) h->step (f x) h K X)(fin:Q (l.map v) h):wComp st step (l.map f) [] h Q X:=Um (λ_=>fL) v I (λx J K R _=>go x J K<|R rfl) (by rw[d0.mpr λ_ _=>rfl];exact fin)
abbrev Yc.ups(C:Yc):List Int:=C.bs.filter λb=>(C.br.lookup b).isSome
def Eb(g:C.gd N):C.keys=C.ups:=by
 have s1:C.keys.Pairwise (· < ·):=Wx g.nd;have s2:C.ups.Pairwise (· < ·):=g.no.up.sublist ŧ;have p:C.keys.Perm C.ups:=(bF (s1.imp λz=>by lia)<|s2.imp λz=>by lia).mpr λb=>by rw[keys_mem];unfold Yc.ups;rw[Đ];exact⟨λz=>⟨keys_sub.mp g.sub b<|keys_look.mp z,z⟩,λz=>z.2⟩
 exact p.eq_of_pairwise (λa b _ _ z1 z2=>by lia) s1 s2
def HN:eqV h (.tup<|ts.map trV) (.tup [])=fJ (iN (ts=[])):=by
 cases ts with
 |nil=>rfl
 |cons a l =>
  let⟨ds,I⟩:=XH (f:=dat h 11) (xs:=(a::l).map trV) λx J=>by let⟨t,_,rfl⟩:=Ü.mp J;exact⟨_,rfl⟩
  show((((a::l).map trV).mapM<|dat h 11).map D.tup).bind _=_;have:∃d r,ds=d::r:=by
   rw[Ò,ş]at I;cases e:(l.map trV).mapM (dat h 11)with
   |none=>rw[e]at I;cases I
   |some r=>rw[e]at I;exact⟨_,_,(ë I).symm⟩
  let⟨d,r,rfl⟩:=this;rw[I];rfl
noncomputable abbrev dnV(C:Yc):Val:=.tup [.tup<|C.downs.map .int,.tup<|C.cuts.map .int]
section
variable {N:Nat}
def Bo(hw:Row h w)(gd:C.gd N)(k:∀d g,(step C d).isSome=fL->ExtB w h g->Row g w->Q (Dd.v d) g):wF P (n+2) "_law_turned" [.ref w,Zr C.bs C.ts,dnV C] h Q X:=by
 have t16:=gd.no.sixteen;have b10:=gd.no.ten;have b1:=gd.no.one;have O:(C.ts.map trV).length=C.ts.length:=Á _;have hbl:(C.bs.map Val.int).length=C.bs.length:=Á _;refine MZ ?_
 exists Wv
 fail;rw[O];refine Ze hw (by split<;>lia) (by split<;>lia) λp g1 p0 U x1 w1=>?_
 exists Z5
 exists Z5
 fail;rw[hbl];refine Ze w1 ↥0 ↥0 λr g2 r0 r1 x2 w2=>?_;let⟨b,hb,eb⟩:=pick (ns:=C.bs) r0 r1;refine fS eb ?_;refine' Ze w2 ↥1 ↥1 λs g3 s0 s1 x3 J=>?_;have R:=(x1.trans x2).trans x3;have fin:∀{g:Hs},ExtB w h g->Row g w->wSs (wF P<|n+1) #[.ret<|.tup #[.idx (.lst #[.cst<|.str "fall",.cst<|.str "back"])<|.bi .int #[.cmp .isin (.var 4)<|.idx (.var 2)<|.cst<|.int 0],.cst<|.str "bridge",.var 4]] [fJ<|.ref w,fJ<|Zr C.bs C.ts,fJ<|dnV C,fJ<|.int p,fJ<|.int b] g (λ_ g=>Q .non g) Q (λ_ _=>False) (λ_ _=>False) λ_ c g=>X c g:=λ{g} y wg=>by
  refine' Zd λq g4 hq x4 e4=>?_
  exists Nx (ns:=C.downs)
  have I:=y.trans<|.of x4;by_cases z:b∈C.downs
  .rw[iK z];refine' k (.backB b) _ (Fp gd z) I (wg.ext x4)
  .rw[iJ z];refine' k (.fallB b) _ (Fz<|keys_mem.mpr ?_) I (wg.ext x4);cases e:(C.br.lookup b).isSome with
   |true=>rfl
   |false=>exact iM (downs_mem.mpr ⟨hb,e⟩) z
 refine' ig (λc1=>?_) (λc1=>ie rfl<|EF<|fin R J)
 exists Wv
 refine W4 HN ?_;refine' NA (λc2=>?_) (λc2=>EF<|fin R J);have hl:=d9.mpr c2;have U:p<C.ts.length:=by split at U<;>lia
 refine' Zd λq g4 hq x4 e4=>?_
 exists Nx (ns:=C.cuts)
 have I:=R.trans<|.of x4;by_cases z:p∈C.cuts
 .rw[iK z];refine' k (.backT p) _ (DF z) I (J.ext x4)
 .rw[iJ z];refine' k (.fallT p) _ (Ey p0 U z) I (J.ext x4)
def NW(hw:Row h w)(x:fX h Y)(gd:Y.cc.gd N)(hN:N<=6000)(nw:w∉Y.adr)(k:∀d g,(step Y.cc d).isSome=fL->ExtB w h g->Row g w->Q (Dd.v d) g):wF P (n+3) "_law_drawn" [.ref w,.ref Y.y,Zr Y.bs Y.ts] h Q X:=by
 have xi:=x.ins;have hl:Y.road.length<=16*N:=gd.len;have rl:(Y.road.map rdV).length=Y.road.length:=Á _;refine OH ?_;refine' Am x λp1 g1 bC x1 e1=>?_;have U:=x.ext x1;have xi:=U.ins;refine' NM U gd λg2 x2=>?_;have y2:=U.ext x2
 exists Z5
 refine' ⟨Ð (by rw[Á];exact gd.no.ten) ↥1,?_⟩;refine Um (l:=Y.bs) (λb=>(Y.cc.br.lookup b).isSome) Val.int trivial (λb hm K k1 k2=>?_) ?_
 .have e:(!iN (b∈Y.cc.downs))=(Y.cc.br.lookup b).isSome:=by
   cases z:(Y.cc.br.lookup b).isSome with
   |false=>rw[iK<|downs_mem.mpr ⟨hm,z⟩];rfl
   |true=>rw[iJ λy=>by have:=(downs_mem.mp y).2;rw[z]at this;cases this];rfl
  exists DI (ns:=Y.cc.downs)
  rw[e];refine' ii (λhc=>?_) (λhc=>?_)
  .refine' k1 hc
  .exact k2 hc
 refine Zd λpu g3 hpu x3 eu=>?_
 replace eu:g3 pu=fJ (.lst<|Y.cc.ups.map .int):=eu
 have w3:=((hw.ext x1).ext x2).ext x3;have nu:pu≠w:=λz=>((hw.ext x1).ext x2).ne hpu z.symm;fail;rw[rl];refine Ze w3 ↥1 ↥1 λkd g4 k0 k1 x4 w4=>?_;have xx:ExtB w h g4:=(ExtB.of<|(x1.trans x2).trans x3).trans x4;have I:=x4.get nu eu;have ul:(Y.cc.ups.map Val.int).length=Y.cc.ups.length:=Á _;have ul10:Y.cc.ups.length<=10:=Ù (ě _ _) gd.no.ten;have tn:∀{g:Hs},ExtB w h g->Row g w->wF P (n+2) "_law_turned" [.ref w,Zr Y.bs Y.ts,dnV Y.cc] g Q X:=λ{g} y wg=>Bo (C:=Y.cc) wg gd λd g' s x' w'=>k d g' s (y.trans x') w';refine' ig (λc1=>?_) (λc1=>?_)
 .refine hZ rfl ?_;refine' tn xx w4
 refine' Zd λpz g5 hz x5 e5=>?_;refine c_eqE (x5.get I) e5 ?_;have R:ExtB w h g5:=xx.trans<|.of x5;have O:=w4.ext x5;refine' ii (λc2=>?_) (λc2=>?_)
 .refine' tn R O
 have eu5:=x5.get I;have hpos:0<Y.cc.ups.length:=by
  cases z:Y.cc.ups with
  |nil=>rw[z]at c2;cases c2
  |cons a l=>simp
 have tick:wSs (wF P<|n+2) #[.ret<|.tup #[.cst<|.str "tick",.idx (.var 5)<|.call "_law_take" #[.var 0,.bi .len #[.var 5]]]] [fJ<|.ref w,fJ<|.ref Y.y,fJ<|Zr Y.bs Y.ts,fJ<|.int (Y.road.length:Nat),fJ<|dnV Y.cc,fJ<|.ref pu,fJ<|.int kd,fK] g5 (λe g=>True) Q (λ_ _=>False) (λ_ _=>False) λ_ c g=>X c g:=by fail;rw[ul];refine Ze O ↥0 ↥0 λr g6 r0 r1 x6 J=>?_;let⟨b,hb,eb⟩:=pick (ns:=Y.cc.ups) r0 r1;refine Z8 (x6.get nu eu5) eb ?_;refine' k (.tick b) _ (Ii<|by rw[Eb gd];exact hb) (R.trans x6) J
 refine' ig (λc3=>?_) (λc3=>?_)
 .refine hZ rfl ?_;exact tick
 refine' ig (λc4=>?_) (λc4=>?_)
 .exact tick
 refine' Ze O ↥0 ↥0 λr g6 r0 r1 x6 J=>?_;refine' Zd λq g7 hq x7 e7=>?_;have nq:q≠w:=λz=>J.ne hq z.symm;refine' Ze (J.ext x7) ↥1 ↥1 λs g8 s0 s1 x8 w8=>?_;let⟨v,hv,em⟩:=Ks (xs:=[Val.int 0,.int 0,.int<|(Y.road.length:Nat) - 1,.int r]) (r:=s) s0 s1;refine Z8 (x8.get nq e7) hv ?_;have:∃q:Int,v=.int q/\0<=q/\q<Y.cc.road.length:=by
  have:Y.cc.road.length=Y.road.length:=rfl;simp![Å,Õ,or_false]at em;rcases em with rfl|rfl|rfl|rfl
  .exact⟨_,rfl,by lia,by lia⟩
  .exact⟨_,rfl,by lia,by lia⟩
  .exact⟨_,rfl,by lia,by lia⟩
  .exact⟨_,rfl,r0,r1⟩
 let⟨pl,rfl,q0,q1⟩:=this;refine' Zd λq2 g9 hq2 x9 e9=>?_;fail;have y9:ExtB w h g9:=(((R.trans x6).trans<|.of x7).trans x8).trans<|.of x9;by_cases z:kd=12
 .rw[iK z];refine' k (.lost pl) _ (Nr q0 q1).1 y9 (w8.ext x9)
 .rw[iJ z];refine' k (.come pl) _ (Nr q0 q1).2 y9 (w8.ext x9)
end
abbrev opn(C:Yc)(p:Nat):List Tie:=if C.ends p=("child","parent")then [((p:Int),(C.tie p).1,(C.tie p).2.1)]else if C.ends p=("parent","child")then [((p:Int),(C.tie p).2.1,(C.tie p).1)]else []
abbrev ZE(C:Yc)(m:Nat):List Tie:=(List.range m).flatMap<|opn C
def WL{m:Nat}:ZE C (m+1)=ZE C m++opn C m:=by unfold ZE;rw[List.range_succ,Ε];simp
def YB{C:Yc}:∀m:Nat,(ZE C m).length<=m
 |0=>Ì _
 |m+1=>by
  have:=YB (C:=C) m;have:(opn C m).length<=1:=by
   unfold opn;split
   .exact Ì _
   .split
    .exact Ì _
    .exact ė _
  rw[WL,á];lia
def D1{a b c d:String}:eqV h (.tup [.str a,.str b]) (.tup [.str c,.str d])=fJ (iN ((a,b)=(c,d))):=by
 show fJ (D.eqv (.tup [.str a,.str b])<|.tup [.str c,.str d])=_;congr 1;simp![D.eqv,D.eqvs,ϋ];by_cases J:a=c
 .by_cases I:b=d
  .subst J;subst I;simp
  .simp[I]
 .simp[J]
def Mo{w:Tie}:∀{m:Nat},w∈ZE C m->∃p:Nat,p<m/\((w=((p:Int),(C.tie p).1,(C.tie p).2.1)/\C.ends p=("child","parent"))\/(w=((p:Int),(C.tie p).2.1,(C.tie p).1)/\C.ends p=("parent","child")))
 |0,h=>by cases h
 |m+1,h=>by
  rw[WL]at h;rcases Ë.mp h with h|h
  .obtain⟨p,J,I⟩:=Mo h;exact⟨p,by lia,I⟩
  .refine⟨m,by lia,?_⟩;unfold opn at h;split at h
   .rename_i e;exact .inl ⟨Ó.mp h,e⟩
   .split at h
    .rename_i e;exact .inr ⟨Ó.mp h,e⟩
    .cases h
structure WayOk(C:Yc)(w:Tie):Prop where
 r0:0<=w.1
 r1:w.1<C.ts.length
 ends:(w.2.1=(C.tie w.1).1/\w.2.2=(C.tie w.1).2.1)\/(w.2.1=(C.tie w.1).2.1/\w.2.2=(C.tie w.1).1)
 sc:(C.br.lookup w.2.1).isSome=fL
 sp:(C.br.lookup w.2.2).isSome=fL
def Nq{b p:Int}{s:String}(h:Ba C b p=s)(n:s≠"down"):(C.br.lookup b).isSome=fL:=by
 unfold Ba at h;cases z:(C.br.lookup b).isSome with
 |true=>rfl
 |false=>rw[z]at h;exact iM h.symm n
def OP{w:Tie}(h:w∈ZE C C.ts.length):WayOk C w:=by
 let⟨p,hp,h⟩:=Mo h;rcases h with⟨rfl,e⟩|⟨rfl,e⟩
 .exact⟨by dsimp only;lia,by dsimp only;lia,.inl ⟨rfl,rfl⟩,Nq (congrArg Prod.fst e) ↥1,Nq (congrArg Prod.snd e)<|by decide⟩
 .exact⟨by dsimp only;lia,by dsimp only;lia,.inr ⟨rfl,rfl⟩,Nq (congrArg Prod.snd e) ↥1,Nq (congrArg Prod.fst e)<|by decide⟩
noncomputable abbrev Hv:=Int×Option Int
abbrev tch(b:Int)(w:Tie):Prop:=b=w.2.1\/b=w.2.2
instance (b:Int) (w:Tie):Decidable<|tch b w:=inferInstanceAs<|Decidable<|_\/_
abbrev Xr(b:Int)(w:Tie):Int:=if b=w.2.1 then w.2.2 else w.2.1
abbrev gw(ws:List Tie)(q:Hv):List Tie:=ws.filter λw=>!iN (fJ w.1=q.2)&&iN (tch q.1 w)
abbrev gof(b:Int)(w:Tie):Hv:=(Xr b w,fJ w.1)
abbrev XB(ws:List Tie)(q:Hv):List Hv:=(gw ws q).map<|gof q.1
def Nm{f:α->β}{l:List α}(n:(l.map f).Nodup){y:α}(J:x∈l)(I:y∈l)(e:f x=f y):x=y:=by let⟨i,hi,rfl⟩:=eC J;let⟨j,R,rfl⟩:=eC I;have:=(aH (i:=i) (j:=j) (h₀:=by simpa using hi) (h₁:=by simpa using R) n).mp ⇑e;subst this;rfl
section
variable {N:Nat}{C:Yc}
def EI{t:Tie}(h:C.ts[i]?=fJ t):C.tie i=t:=by show C.ts[(i:Int).toNat]?.getD _=_;rw[ç,h];rfl
def FE(x:fX h Y)(gd:Y.cc.gd N)(k:∀p g,h p=fK->Ext h g->g p=fJ (.lst<|(ZE Y.cc Y.ts.length).map trV)->Q (.ref p) g):wF P (n+6) "open_ways" [.ref Y.y] h Q X:=by
 have t16:Y.ts.length<=16:=gd.no.sixteen;refine NT ?_;refine' Zd λp g1 hp x1 e1=>?_;have O:=x.ext x1;have yi:=O.ins
 exists AM O
 exists Wv
 exists fR rfl
 refine Zh (λi en g=>Sm3 λv2 U v4=>Cj3 (en=[fJ<|.ref Y.y,fJ<|.ref p,v2,U,v4]) (Ext h g)<|g p=fJ (.lst<|(ZE Y.cc i).map trV)) ⟨_,_,_,rfl,x1,e1⟩ (λ_ _ _ _ _=>trivial) ?_ ?_
 .rintro i v en g hv ⟨v2,U,v4,rfl,J,R⟩ K I;let⟨z,hz,rfl⟩:=WG hv;rw[Ø]at hz;let⟨t,ht,rfl⟩:=Ï.mp hz;have hi:i<Y.ts.length:=(Ô.mp ht).1;rw[η];have s:=x.ext J;have yi:=s.ins;have ol:=YB (C:=Y.cc) i;have et:Y.cc.tie i=t:=EI (C:=Y.cc) ht;rw[WL]at I;unfold opn at I;rw[et]at I
  exists UV s hi
  exists W7 D1
  fail;unfold trV;refine ig (λc1=>?_) λc1=>?_
  .rw[iH c1]at I;refine' Zj R (by rw[Á,lim];lia) ?_;refine' I _ _ ⟨_,_,_,rfl,Jz J hp,by rw[Ö];exact fO⟩
  rw[iI c1]at I
  exists W7 D1
  refine' ig (λc2=>?_) (λc2=>?_)
  .rw[iH c2]at I;refine' Zj R (by rw[Á,lim];lia) ?_;refine' I _ _ ⟨_,_,_,rfl,Jz J hp,by rw[Ö];exact fO⟩
  .rw[iI c2,ì]at I;refine' I _ _ ⟨_,_,_,rfl,J,R⟩
 .rintro en g ⟨v2,U,v4,rfl,J,R⟩;rw[Xq,Á]at R;refine' k p g hp J R
end
abbrev hoV:Option Int->Val
 |none=>.non
 |some p=>.int p
abbrev hvV(q:Hv):Val:=.tup [.int q.1,hoV q.2]
def Iw{ws:List Tie}{w:Tie}{q:Hv}:XB (ws++[w]) q=XB ws q++if(!iN (fJ w.1=q.2)&&iN (tch q.1 w))=fL then [gof q.1 w]else []:=by unfold XB gw;rw[Ű,Ö,đ,Ů];split<;>rfl
def Me{ws:List Tie}{q:Hv}:(XB ws q).length<=ws.length:=by unfold XB gw;rw[Á];exact ě _ _
def Fc{i:Int}{o:Option Int}:eqV h (.int i) (hoV o)=fJ (iN (fJ i=o)):=by
 cases o with
 |none=>rfl
 |some p =>show fJ (D.eqv (.int i)<|.int p)=_;rw[OR];exact congrArg fJ<|decide_eq_decide.mpr ⟨congrArg fJ,ë⟩
section
variable {N:Nat}
def AZ{pw:Ad}{ws:List Tie}{q:Hv}(hl:ws.length<=16)(ew:h pw=fJ (.lst<|ws.map trV))(k:∀p g,h p=fK->Ext h g->g p=fJ (.lst<|(XB ws q).map hvV)->Q (.ref p) g):wF P (n+1) "sent_on" [.ref pw,hvV q] h Q X:=by
 let⟨b,c⟩:=q;unfold hvV at k ⊢;refine A1 ?_;refine' Zd λp g1 hp x1 e1=>?_;refine' Zh (λi en g=>Sm3 λO v6 z=>Cj3 (en=[fJ<|.ref pw,fJ<|.tup [.int b,hoV c],fJ<|.int b,fJ<|hoV c,fJ<|.ref p,O,v6,z]) (Ext h g)<|g p=fJ (.lst<|(XB (ws.take i) (b,c)).map hvV)) ⟨_,_,_,rfl,x1,e1⟩ (λ_ _ _ _ ⟨_,_,_,_,x,_⟩=>lsE<|x.get ew) ?_ ?_
 .rintro i v en g hv ⟨O,v6,z,rfl,x,J⟩ K I;let⟨t,ht,rfl⟩:=ZI hv;have gl:=Me (ws:=ws.take i) (q:=(b,c));rw[ą]at gl;rw[Zn ht,Iw]at I;let⟨s,U,R⟩:=t;unfold trV
  exists W4 Fc
  refine' NA (λc1=>?_) (λc1=>?_)
  .exists Nx (ns:=[U,R])
   refine' ig (λc2=>?_) (λc2=>?_)
   .have c2:tch b (s,U,R):=by simpa[tch]using c2
    rw[show(!iN (fJ (s,U,R).1=(b,c).2)&&iN (tch (b,c).1 (s,U,R)))=fL by simp[c1,c2],iH rfl]at I;refine' ig (λc3=>?_) (λc3=>?_)<;>fail<;>refine Zj J (by rw[Á,lim];lia) ?_<;>fail<;>refine I _ _ ⟨_,_,_,rfl,Jz x hp,?_⟩<;>rw[Ö]<;>refine fO.trans ?_
    .simp![Ò,ň,gof,Xr,hvV,hoV];rw[iH c3]
    .simp![Ò,ň,gof,Xr,hvV,hoV];rw[iI c3]
   .have c2:¬ tch b (s,U,R):=by simpa[tch]using c2
    rw[iI (by simp[c2]),ì]at I;refine' I _ _ ⟨_,_,_,rfl,x,J⟩
  .rw[iI (by simp[c1]),ì]at I;walk_at "p";exact I _ _ ⟨_,_,_,rfl,x,J⟩
 .rintro en g ⟨O,v6,z,rfl,x,J⟩;rw[Á,ù]at J;refine' k p g hp x J
def N3{b:Int}(x:fX h Y)(J:(Y.cc.br.lookup b).isSome=fL)(k:Q (.bl fL) h):wF P (n+2) "is_standing" [.ref Y.y,.int b] h Q X:=by
 have R:=x.ins;have xs:=x.stand;refine KF ?_
 exists WD
 walk_at "p";refine XR ?_
 exists Ug xs rfl
 let⟨e,he,en,I,U,s⟩:=x.at_ J;rw[Zz,I];refine' k
end
structure Fm where
 st:Int
 go:Int
 ti:Int
 nu:Int
 s1:Pi
 s2:Pi
noncomputable abbrev fmV(m:Fm):Val:=.tup [.int m.st,.int m.go,.int m.ti,.int m.nu,pV m.s1,pV m.s2]
noncomputable abbrev ZH(q:Int×Option Int):Val:=.tup [.int q.1,hoV q.2]
structure Ca where
 c:Ad
 ln:Ad
 dh:Ad
 ls:List<|Int×Ad
 line:List Fm
 hd:Int->List (Int×Option Int)
 sent:Int
abbrev Ca.adr(K:Ca):List Ad:=[K.c,K.ln,K.dh]++K.ls.map (·.2)
structure CAt(h:Hs)(Y:Yd)(K:Ca):Prop where
 ins:h K.c=fJ (.ins "Carrier" [("yard",.ref Y.y),("frames_sent",.int K.sent),("line",.ref K.ln),("had_by_bridge",.ref K.dh)])
 lin:h K.ln=fJ (.lst<|K.line.map fmV)
 had:h K.dh=fJ (.dct<|Zg rfV K.ls)
 each:∀q∈K.ls,h q.2=fJ (.lst<|(K.hd q.1).map ZH)
 nd:K.adr.Nodup
 off:∀a∈K.adr,a∉Y.adr
 key:K.ls.map (·.1)=Y.bs
abbrev JN(hd:Int->List (Int×Option Int))(b:Int)(q:Int×Option Int):Int->List (Int×Option Int):=λx=>if x=b then hd x++[q]else hd x
abbrev frm(C:Yc)(b f:Int)(w:Tie):Fm:=⟨b,Xr b w,w.1,f,((C.at_ b).life,(C.at_ b).version),((C.at_<|Xr b w).life,(C.at_<|Xr b w).version)⟩
abbrev Ca.have_(K:Ca)(C:Yc)(b:Int)(c:Option Int)(f:Int):Ca:={K with hd:=JN K.hd b (f,c),line:=K.line++(gw (ZE C C.ts.length) (b,c)).map (frm C b f)}
section
variable {h g:Hs}{K:Ca}
def Ca.three(K:Ca):K.c∈K.adr/\K.ln∈K.adr/\K.dh∈K.adr/\∀q∈K.ls,q.2∈K.adr:=⟨by simp[Ca.adr],by simp[Ca.adr],by simp[Ca.adr],λq I=>Ç _<|ñ I⟩
def CAt.keep{S:List Ad}(x:CAt h Y K)(e:Ex S h g)(ds:∀a∈K.adr,a∉S):CAt g Y K :=
 have ⟨t1,R,t3,J⟩:=K.three
 ⟨e.get (ds _ t1) x.ins,e.get (ds _ R) x.lin,e.get (ds _ t3) x.had,λq I=>e.get (ds _<|J q I)<|x.each q I,x.nd,x.off,x.key⟩
def CAt.ext(x:CAt h Y K)(e:Ext h g):CAt g Y K:=x.keep (S:=[]) (.of e) λ_ _=>by simp
def CAt.taken(x:CAt h Y K)(ha:a∈K.adr):∃o,h a=fJ o:=by
 rcases Ë.mp ha with ha|ha
 .simp![Å,Õ,or_false]at ha;rcases ha with rfl|rfl|rfl
  .exact⟨_,x.ins⟩
  .exact⟨_,x.lin⟩
  .exact⟨_,x.had⟩
 .obtain⟨q,I,rfl⟩:=Ü.mp ha;exact⟨_,x.each q I⟩
def CAt.mv(x:CAt h Y K)(m:Mv h Y g Z)(hb:Z.bs=Y.bs):CAt g Z K:=by let⟨t1,R,t3,J⟩:=K.three;refine⟨by rw[m.y];exact(m.off (x.off _ t1) x.ins).2,(m.off (x.off _ R) x.lin).2,(m.off (x.off _ t3) x.had).2,λq I=>(m.off (x.off _<|J q I)<|x.each q I).2,x.nd,λa ha=>?_,by rw[hb];exact x.key⟩;let⟨o,U⟩:=x.taken ha;exact(m.off (x.off _ ha) U).1
def CAt.yard{S:List Ad}(x:CAt h Y K)(y:fX h Y)(e:Ex S h g)(I:∀a∈S,a∈K.adr):fX g Y:=y.keep e λa ha z=>x.off a (I a z) ha
def CAt.sep(x:CAt h Y K):K.c≠K.ln/\K.c≠K.dh/\K.ln≠K.dh/\∀q∈K.ls,q.2≠K.c/\q.2≠K.ln/\q.2≠K.dh:=by let⟨I,U,J⟩:=ã.mp x.nd;simp![ā,Å,Õ,or_false,not_or,not_false_eq_true,Ċ,and_true]at I;refine⟨I.1.1,I.1.2,I.2,λq R=>?_⟩;have:=λa ha=>J a ha _ (ñ (f:=(·.2)) R);exact⟨(this _<|by simp).symm,(this _<|by simp).symm,(this _<|by simp).symm⟩
def CAt.got{b:Int}{l:List (Int×Option Int)}{hd:Int->List (Int×Option Int)}(x:CAt h Y K)(J:(K.ls.map (·.1)).Nodup)(hm:(b,a)∈K.ls)(U:hd b=l)(R:∀c,c≠b->hd c=K.hd c):CAt (upd h a<|.lst<|l.map ZH) Y {K with hd:=hd}:=by
 let⟨s1,s2,s3⟩:=x.sep.2.2.2 _ hm;refine⟨(fN s1.symm).trans x.ins,(fN s2.symm).trans x.lin,(fN s3.symm).trans x.had,λq I=>?_,x.nd,x.off,x.key⟩;by_cases e:q.2=a
 .have:q=(b,a):=Nm (ã.mp x.nd).2.1 I hm e;rw[this];dsimp only;rw[fO,U]
 .rw[fN e];dsimp only;rw[R q.1 λz=>e<|by rw[Nm J I hm z]];exact x.each q I
def CAt.lined(x:CAt h Y K)(l:List Fm):CAt (upd h K.ln<|.lst<|l.map fmV) Y {K with line:=l}:=by let⟨s1,s2,s3,s4⟩:=x.sep;exact⟨(fN s1).trans x.ins,fO,(fN s3.symm).trans x.had,λq I=>(fN (s4 q I).2.1).trans<|x.each q I,x.nd,x.off,x.key⟩
def CAt.sented(x:CAt h Y K)(i:Int):CAt (upd h K.c<|.ins "Carrier" [("yard",.ref Y.y),("frames_sent",.int i),("line",.ref K.ln),("had_by_bridge",.ref K.dh)]) Y {K with sent:=i}:=by let⟨s1,s2,s3,s4⟩:=x.sep;exact⟨fO,(fN s1.symm).trans x.lin,(fN s2.symm).trans x.had,λq I=>(fN (s4 q I).1).trans<|x.each q I,x.nd,x.off,x.key⟩
end
section
variable {N:Nat}{K:Ca}
variable {b:Int}
def De(x:fX h Y)(J:(Y.cc.br.lookup b).isSome=fL)(k:∀e:En,Y.cc.at_ b=e.B->fW h e.b e.t e.d e.B->Q (.ref e.b) h):wF P (n+1) "Yard.bridge" [.ref Y.y,.int b] h Q X:=by
 have s:=x.ins;have xs:=x.stand;let⟨e,he,en,I,R,U⟩:=x.at_ J;refine XR ?_
 exists Ug xs rfl
 rw[Zz,I];refine' k e R U
def Iy{f:Int}{c:Option Int}(x:fX h Y)(gd:Y.cc.gd N)(y:CAt h Y K)(hs:(Y.cc.br.lookup b).isSome=fL)(b1:K.line.length+16<=500000)(b2:∀b,(K.hd b).length+1<=500000)(k:∀g,fX g Y->CAt g Y (K.have_ Y.cc b c f)->Ex K.adr h g->Q .non g):wF P (n+7) "Carrier.have" [.ref K.c,.int b,hoV c,.int f] h Q X:=by
 have xi:=y.ins;have hb:b∈K.ls.map (·.1):=by rw[y.key];exact gd.sub _<|Zt (ô.mp hs).choose_spec
 have nk:(K.ls.map (·.1)).Nodup:=by rw[y.key];exact gd.no.up.imp λh=>by lia
 let⟨⟨b',a⟩,hm,rfl⟩:=Ü.mp hb;dsimp only at hs k ⊢;have la:K.ls.lookup b'=fJ a:=ZQ nk hm;generalize b'=b at hs k hm la;have ey:h a=fJ (.lst<|(K.hd b).map ZH):=y.each _ hm;refine Kg ?_;refine' Zk y.had rfl (by rw[Zz,la];rfl) ?_;refine' Zj ey (by rw[Á,lim];have:=b2 b;lia) ?_;rw[show(K.hd b).map ZH++[.tup [.int f,hoV c]]=(JN K.hd b (f,c) b).map ZH by unfold JN;rw[iH rfl,Ö];rfl];have O:=y.got (hd:=JN K.hd b (f,c)) nk hm rfl λz hz=>iI hz;have ea:Ex K.adr h<|upd h a<|.lst<|(JN K.hd b (f,c) b).map ZH:=Ex.upd<|K.three.2.2.2 _ hm;have x1:=y.yard x ea λ_ h=>h;have xi:=O.ins;generalize upd h a (.lst<|(JN K.hd b (f,c) b).map ZH)=g1 at O ea x1 xi ⊢;refine' FE x1 gd λp2 g2 fh R l2=>?_;fail;have hl:Y.ts.length<=16:=gd.no.sixteen;have ol:=YB (C:=Y.cc) Y.ts.length;refine AZ (ws:=ZE Y.cc Y.ts.length) (q:=(b,c)) ↥0 l2 λp3 g3 hp3 e3 l3=>?_;have n3:K.ln≠p3:=Za (O.ext R).lin hp3;have gl:=Me (ws:=ZE Y.cc Y.ts.length) (q:=(b,c));refine' Zh (λi en g=>Sm3 λv4 v5 v6=>Cj5 (en=[fJ<|.ref K.c,fJ<|.int b,fJ<|hoV c,fJ<|.int f,v4,v5,v6]) (CAt g Y {K with hd:=JN K.hd b (f,c),line:=K.line++((gw (ZE Y.cc Y.ts.length) (b,c)).take i).map (frm Y.cc b f)}) (fX g Y) (Ex K.adr h g)<|g p3=fJ (.lst<|(XB (ZE Y.cc Y.ts.length) (b,c)).map hvV)) ⟨_,_,_,rfl,by rw[ϟ,ň,ì];exact(O.ext R).ext e3,(x1.ext R).ext e3,(ea.trans<|.of R).trans<|.of e3,l3⟩ (λ_ _ _ _ ⟨_,_,_,_,_,_,_,z⟩=>lsE z) ?_ ?_
 .rintro i v en g hv ⟨v4,v5,v6,rfl,I,J,eg,lg⟩ K' hK;let⟨q,hq,rfl⟩:=ZI hv;unfold XB at hq;rw[Ø]at hq;let⟨w,hw,rfl⟩:=Ï.mp hq;rw[Zn hw,Ö,<-ü]at hK;have hm:=Đ.mp<|é hw;simp![bAq,aB,decide_eq_false_iff_not,iL]at hm;have o:=OP hm.1;have hs2:(Y.cc.br.lookup<|Xr b w).isSome=fL:=by
   unfold Xr;split
   .exact o.sp
   .exact o.sc
  have xi:=I.ins;have xyi:=J.ins;have yl:=I.lin;dsimp only at xi yl;rw[show hvV (gof b w)=.tup [.int<|Xr b w,.int w.1] from rfl];refine' De J hs λe1 q1 s=>?_;have bi:=s.ins
  exists Yl s
  refine' De J hs2 λR q2 U=>?_;have bi:=U.ins
  exists Yl U
  fail;have hlen:i<(gw (ZE Y.cc Y.ts.length) (b,c)).length:=(Ô.mp hw).1;unfold XB at gl;rw[Á]at gl;refine Zj yl (by rw[Á,lim];rw[á,Á,ą];lia) ?_;fail;have y2:=I.lined<|(K.line++((gw (ZE Y.cc Y.ts.length) (b,c)).take i).map (frm Y.cc b f))++[frm Y.cc b f w];rw[Ö (l₂:=[_])]at y2;rw[<-q1,<-q2];have eu:∀o,Ex K.adr g (upd g K.ln o):=λo=>Ex.upd K.three.2.1;exact hK _ _ ⟨_,_,_,rfl,y2,I.yard J (eu _) λ_ z=>z,eg.trans<|eu _,(fN n3.symm).trans lg⟩
 .rintro en g ⟨v4,v5,v6,rfl,I,J,eg,lg⟩;unfold XB at I;rw[Á,Á,ù]at I;refine' k g J I eg
def Ie(x:fX h Y)(gd:Y.cc.gd N)(y:CAt h Y K)(I:(Y.cc.br.lookup b).isSome=fL)(b1:K.line.length+16<=500000)(b2:∀b,(K.hd b).length+1<=500000)(k:∀g,fX g Y->CAt g Y (({K with sent:=K.sent+1}:Ca).have_ Y.cc b fK K.sent)->Ex K.adr h g->Q (.int K.sent) g):wF P (n+8) "Carrier.send" [.ref K.c,.int b] h Q X:=by
 have O:=y.ins;have s:=x.ins;refine JP ?_
 exists N3 x I
 walk_at "p";have U:=y.sented<|K.sent+1;have J:∀o,Ex K.adr h (upd h K.c o):=λo=>Ex.upd K.three.1;refine Iy (K:={K with sent:=K.sent+1}) (c:=fK) (y.yard x (J _) λ_ z=>z) gd U I b1 b2 λg x2 R v=>?_;refine' k g x2 R ((J _).trans v)
def BR{d:Dd}(k:Q (.bl fM) h):wF P (n+1) "is_line_deed" [d.v] h Q X:=by refine JB ?_;cases d<;>walk_at "p"<;>first|exact k|exact fR ↥1 k|exact fR rfl k
end
section
variable {Y:Yd}{N:Nat}{K:Ca}
def JK{d:Dd}(x:fX h Y)(gd:Y.cc.gd N)(R:N<=6000)(J:(step Y.cc d).isSome=fL)(y:CAt h Y K)(k:∀(Z:Yd) g,step Y.cc d=fJ Z.cc->Mv h Y g Z->CAt g Z K->Q .non g):wF P (n+7) "Carrier.deed" [.ref K.c,d.v] h Q X:=by
 have U:=y.ins;have I:=x.ins;refine JT ?_
 exists BR
 walk_at "p";refine Jq x gd R J λZ g e m=>?_;refine' k Z g e m (y.mv m (WH gd e).2.1)
def JI(y:CAt h Y K)(k:∀p g,h p=fK->Ext h g->g p=fJ (.lst<|K.line.map fmV)->Q (.ref p) g):wF P (n+1) "Carrier.under_way" [.ref K.c] h Q X:=by have J:=y.ins;have I:=y.lin;refine XJ ?_;refine' Zd k
def MI{b:Int}(y:CAt h Y K)(R:(K.ls.map (·.1)).Nodup)(k:∀p g,h p=fK->Ext h g->g p=fJ (.lst<|(if b∈Y.bs then K.hd b else []).map ZH)->Q (.ref p) g):wF P (n+2) "Carrier.came" [.ref K.c,.int b] h Q X:=by
 have U:=y.ins;have I:=y.had;refine Yp ?_
 exists WD
 walk_at "p";refine Zd λJ g1 z x1 v=>?_
 exists Ik (x1.get I) rfl
 rw[Zz];have kk:=y.key;by_cases hb:b∈Y.bs
 .rw[iH hb]at k;rw[<-kk]at hb;let⟨⟨c,a⟩,hm,rfl⟩:=Ü.mp hb;have s:=x1.get<|y.each _ hm;rw[ZQ R hm];fail;show(biV g1 .list [.ref a]).wp g1 Q;refine' Zd λp g hp x e=>k p g (Zc x1 hp) (x1.trans x) e
 .rw[iI hb]at k;rw[<-kk]at hb;cases e:K.ls.lookup b with
  |some a=>exact iM (ñ<|Zt e) hb
  |none =>fail;show(biV g1 .list [.ref J]).wp g1 Q;refine' Zd λp g hp x e=>k p g (Zc x1 hp) (x1.trans x) e
end
variable {ls:List (Int×Ad)}
def CAt.more{b:Int}(x:CAt g {Y with bs:=bs} ⟨p,ln,dh,ls,[],λ_=>[],0⟩)(k:g a=fJ (.lst []))(na:a∉(⟨p,ln,dh,ls,[],λ_=>[],0⟩:Ca).adr)(U:a∉Y.adr):CAt (upd g dh<|.dct<|Zg rfV<|ls++[(b,a)]) {Y with bs:=bs++[b]} ⟨p,ln,dh,ls++[(b,a)],[],λ_=>[],0⟩:=by
 let⟨s1,s2,s3,s4⟩:=x.sep;have R:a≠dh:=λz=>na (by rw[z];exact(Ca.three _).2.2.1);have ad:(⟨p,ln,dh,ls++[(b,a)],[],λ_=>[],0⟩:Ca).adr=(⟨p,ln,dh,ls,[],λ_=>[],0⟩:Ca).adr++[a]:=by unfold Ca.adr;rw[Ö,<-ü];rfl
 refine⟨(fN s2).trans x.ins,(fN s3).trans x.lin,fO,λq J=>?_,?_,λc I=>?_,?_⟩
 .rcases Ë.mp J with J|J
  .exact(fN (s4 q J).2.2).trans<|x.each q J
  .rw[Ó.mp J];exact(fN R).trans k
 .rw[ad];exact ã.mpr ⟨x.nd,by simp,λc I d hd z=>na<|by rw[Ó.mp hd]at z;exact z▸I⟩
 .rw[ad]at I;rcases Ë.mp I with I|I
  .exact x.off c I
  .rw[Ó.mp I];exact U
 .rw[Ö,x.key];rfl
section
variable {N:Nat}{K:Ca}
def NS(x:fX h Y)(gd:Y.cc.gd N)(hp:h p=fK)(k:∀g K,K.c=p->fX g Y->CAt g Y K->K.line=[]->(∀b,K.hd b=[])->K.sent=0->Ext h g->(∀a∈K.adr,h a=fK)->Q .non g):wF P (n+2) "Carrier.__init__" [.ref p,.ref Y.y] (upd h p<|.ins "Carrier" []) Q X:=by
 have b10:=gd.no.ten;have nb:Y.bs.Nodup:=gd.no.up.imp λh=>by lia
 refine Kv ?_;refine' Ym fO (show(1:Nat)<900 by decide) ?_;have i1:=fO (h:=h) (a:=p) (o:=Ob.ins "Carrier"<|f7 (f7 [] "yard"<|.ref Y.y) "frames_sent"<|.int 0);have x1:Ex [p] h<|upd h p<|Ob.ins "Carrier"<|f7 (f7 [] "yard"<|.ref Y.y) "frames_sent"<|.int 0:=Ex.upd (by simp);rw[fP,fP];generalize upd h p (Ob.ins "Carrier"<|f7 (f7 [] "yard"<|.ref Y.y) "frames_sent"<|.int 0)=g1 at i1 x1 ⊢;refine' Yv λln hln=>?_;refine' XC i1 x1 hp hln (show(2:Nat)<900 by decide) λg2 i2 l2 x2 y2 R fln=>?_;fail;intro dh U;refine' XC i2 x2 hp U (show(3:Nat)<900 by decide) λg3 i3 d3 x3 y3 ndh fdh=>?_;have l3:=y3.get (by simpa using R.symm) l2;have nld:ln≠dh:=Za l2 U;have xe:Ext h g3:=⟨λ{a o} e=>x3.get (by simpa using Za e hp) e⟩
 have z3:=x.ext xe;have zi:=z3.ins
 exists AM z3
 exists Z5
 fail;have off:∀a,h a=fK->a∉Y.adr:=λa ha z=>x.taken z ha;refine Zh (λi en g=>Sm2 λv2 ls=>Cj4 (en=[fJ<|.ref p,fJ<|.ref Y.y,v2]) (CAt g {Y with bs:=Y.bs.take i} ⟨p,ln,dh,ls,[],λ_=>[],0⟩) (Ext h g)<|∀a∈(⟨p,ln,dh,ls,[],λ_=>[],0⟩:Ca).adr,h a=fK) ⟨_,[],rfl,⟨i3,l3,d3,(λq hq=>by cases hq),?_,?_,rfl⟩,xe,?_⟩ (λ_ _ _ _ _=>trivial) ?_ ?_
 .show([p,ln,dh]++[]).Nodup;simp[R,ndh,nld]
 .show ∀a∈[p,ln,dh]++[],a∉Y.adr;intro a ha;simp![ì,Å,Õ,or_false]at ha;rcases ha with rfl|rfl|rfl<;>exact off _ (by assumption)
 .show ∀a∈[p,ln,dh]++[],h a=fK;intro a ha;simp![ì,Å,Õ,or_false]at ha;rcases ha with rfl|rfl|rfl<;>assumption
 .rintro i v en g hv ⟨v2,ls,rfl,y,J,fr⟩ K hK;let⟨b,hb,rfl⟩:=ZI hv;have hnb:b∉ls.map (·.1):=by
   rw[y.key];have:=Ye (f:=id) (by rw[Š];exact nb) hb;rw[Š]at this;exact this
  have hll:ls.length<=10:=by rw[<-Á (f:=(·.1)) (as:=ls),y.key];show(Y.bs.take i).length<=10;rw[ą];have:Y.bs.length<=10:=b10;lia
  refine' Yv λa ha=>?_;have xa:=Ext.new (o:=.lst []) ha;have ea:(upd g a<|.lst []) a=fJ (.lst []):=fO;have O:=y.ext xa;generalize upd g a (.lst [])=g4 at xa ea O ⊢;let⟨yi,yl,yd,_,_,_,_⟩:=id O;dsimp only at yi yl yd;refine' Yh (k:=.int b) yd ⟨rfl,by rw[Kk];exact Ð hll<|by decide⟩ ?_;rw[ZP (val:=rfV),YK _ hnb];have s:=Zc J ha;have y2:=O.more (b:=b) ea (λz=>by let⟨o,ho⟩:=y.taken z;exact Za ho ha rfl)<|off a s;refine' hK _ _ ⟨_,_,rfl,by rw[ŝ,hb];exact y2,⟨λe=>by rw[fN<|Za e fdh];exact(J.trans xa).get e⟩,λc I=>?_⟩;unfold Ca.adr at I fr;rw[Ö,<-ü]at I;rcases Ë.mp I with I|I
  .exact fr c I
  .rw[Ó.mp I];exact s
 .rintro en g ⟨v2,ls,rfl,y,J,fr⟩;rw[Á,ù]at y;refine' k g _ rfl (x.ext J) y rfl (λ_=>rfl) rfl J fr
end
section
variable {N:Nat}
def JJ(I:Yc->Prop)(hI:∀C D d N,C.gd N->I C->step C d=fJ D->I D)(x:fX h Y)(gd:Y.cc.gd N)(iy:I Y.cc)(hN:N<=5000)(kd:dr=Y.y\/∃K:Ca,K.c=dr/\CAt h Y K)(k:∀Z g,Mv h Y g Z->Z.cc.gd 0->I Z.cc->Z.bs=Y.bs->Z.ts=Y.ts->Q .non g):wF P (n+8) "_law_round" [.ref Y.y,Zr Y.bs Y.ts,.ref dr] h Q X:=by
 have xi:=x.ins;have h10:Y.bs.length<=10:=gd.no.ten;refine Oo ?_;refine' NM x gd λg1 x1=>?_
 exists Z5
 refine' Zh (λi en g=>Sm2 λv4 Z=>Cj7 (en=[fJ<|.ref Y.y,fJ<|Zr Y.bs Y.ts,fJ<|.ref dr,fJ<|.tup<|Y.cc.downs.map .int,v4,fK]) (Mv h Y g Z) (Z.cc.br.map (·.1)=Y.cc.br.map (·.1)) (Z.cc.gd<|N+i) (I Z.cc) (Z.bs=Y.bs)<|Z.ts=Y.ts) ⟨_,Y,rfl,(Mv.refl x).ext x1,rfl,gd,iy,rfl,rfl⟩ (λ_ _ _ _ _=>trivial) ?_ ?_
 .rintro i v en g hv ⟨v4,Z,rfl,m,hk,U,iz,R,O⟩ K hK;let⟨b,hb,rfl⟩:=ZI hv;have hi:=(Ô.mp hb).1
  exists DI (ns:=Y.cc.downs)
  refine' NA (λc1=>?_) (λc1=>?_)
  .have hs:(Y.cc.br.lookup b).isSome=fL:=by
    cases z:(Y.cc.br.lookup b).isSome with
    |true=>rfl
    |false=>exact iM (downs_mem.mpr ⟨é hb,z⟩) c1
   let⟨D,hD,hDk⟩:=Mz (C:=Z.cc) (b:=b) (by rw[hk];exact keys_look.mp hs);have zi:=m.at_.ins;have fin:∀W g3,step Z.cc (.tick b)=fJ W.cc->Mv g Z g3 W->K [fJ<|.ref Y.y,fJ<|Zr Y.bs Y.ts,fJ<|.ref dr,fJ<|.tup<|Y.cc.downs.map .int,fJ<|.int b,fK] g3:=λW g3 s mv=>by let⟨gw,q1,q2,_⟩:=WH U s;have iw:=hI _ _ _ _ U iz s;rw[hD]at s;cases s;exact hK _ _ ⟨_,W,rfl,m.trans mv,hDk.trans hk,gw,iw,q1.trans R,q2.trans O⟩
   fail;rcases kd with rfl|⟨J,rfl,ck⟩
   .rw[m.y]at zi;refine .inr ?_;fail;rw[<-m.y]at fin ⊢;refine Jq (d:=.tick b) m.at_ U ↥0 (by rw[hD];rfl) λW g3 s mv=>?_;refine' fin W g3 s mv
   .have cz:=ck.mv m R;have ci:=cz.ins;refine .inl ?_;refine' JK (d:=.tick b) m.at_ U ↥0 (by rw[hD];rfl) cz λW g3 s mv _=>?_;refine' fin W g3 s mv
  .exact hK _ _ ⟨_,Z,rfl,m,hk,U.more ↥0,iz,R,O⟩
 rintro en g ⟨v4,Z,rfl,m,hk,U,iz,R,O⟩;rw[Á]at U;have gl:=U.len;have rl:Z.road.length=Z.cc.road.length:=rfl;have zi:=m.at_.ins;rw[m.y]at zi;fail;rw[<-m.y];refine Am m.at_ λp2 g2 fh x2 e2=>?_;have nZ:p2∉Z.adr:=λz=>m.at_.taken z fh;fail;rw[m.y];refine Zh (λi en g=>Sm3 λv4 v5 W=>Cj9 (en=[fJ<|.ref Y.y,fJ<|Zr Y.bs Y.ts,fJ<|.ref dr,fJ<|.tup<|Y.cc.downs.map .int,v4,v5]) (Mv h Y g W) (p2∉W.adr) (g p2=fJ (.lst<|Z.road.map rdV)) (W.cc.road.length+i=Z.road.length) ((∃M,W.cc.gd M)) (I W.cc) (W.bs=Y.bs)<|W.ts=Y.ts) ⟨_,_,Z,rfl,m.ext x2,nZ,e2,rfl,⟨_,U⟩,iz,R,O⟩ (λ_ _ _ _ ⟨_,_,_,_,_,_,e,_,_,_,_,_⟩=>lsE e) ?_ ?_
 .rintro i v en g hv ⟨v4,v5,W,rfl,m2,np,ep,hl,⟨M,gw⟩,iw,R,O⟩ K hK;have hi:=(Ô.mp hv).1;rw[Á]at hi;have gw:W.cc.gd<|N+10:=⟨gw.no,gw.nd,gw.sub,gw.ok,gw.lv,gw.fn,gw.fr,by lia⟩
  have hs:=Nr (C:=W.cc) (r:=0) ↥0 ↥0;have zi:=m2.at_.ins;have fin:∀V g3,step W.cc (.come 0)=fJ V.cc->Mv g W g3 V->K [fJ<|.ref Y.y,fJ<|Zr Y.bs Y.ts,fJ<|.ref dr,fJ<|.tup<|Y.cc.downs.map .int,v4,fJ v] g3:=λV g3 s mv=>by
   let⟨gv,q1,q2,_⟩:=WH gw s;have iv:=hI _ _ _ _ gw iw s;have o:=mv.off np ep;have hv:V.cc.road.length+1=W.cc.road.length:=by
    replace s:(if(0:Int)<0 then fK else(W.cc.road[(0:Int).toNat]?).map _)=fJ V.cc:=s
    rw[iI<|by decide]at s;let⟨r,_,e⟩:=Ï.mp s;rw[<-e];show(W.cc.road.eraseIdx 0).length+1=_;rw[Ι<|by lia];lia
   exact hK _ _ ⟨_,_,V,rfl,m2.trans mv,o.1,o.2,by lia,⟨_,gv⟩,iv,q1.trans R,q2.trans O⟩
  fail;rcases kd with rfl|⟨J,rfl,ck⟩
  .rw[m2.y]at zi;refine .inr ?_;fail;rw[<-m2.y]at fin ⊢;refine Jq (d:=.come 0) m2.at_ gw ↥0 hs.2 λV g3 s mv=>?_;refine' fin V g3 s mv
  .have cz:=ck.mv m2 R;have ci:=cz.ins;refine .inl ?_;refine' JK (d:=.come 0) m2.at_ gw ↥0 hs.2 cz λV g3 s mv _=>?_;refine' fin V g3 s mv
 rintro en g ⟨v4,v5,W,rfl,m2,np,ep,hl,⟨M,gw⟩,iw,R,O⟩;rw[Á]at hl;refine' k W g m2 ⟨gw.no,gw.nd,gw.sub,gw.ok,gw.lv,gw.fn,gw.fr,by lia⟩ iw R O
end
def W5:∀kvs:List<|Int×α,pairsOf h (kvs.map λp=>.tup [.int p.1,val p.2])=fJ (Zg val kvs)
 |[]=>rfl
 |p::l=>by show(if f9 (.int p.1)=fL then(pairsOf h<|l.map _).map ((Val.int p.1,val p.2) :: ·)else fK)=_;rw[iH (show f9 (.int p.1)=fL from rfl),W5 l];rfl
def JH:∀(kvs l:List<|Int×α),((l++kvs).map (·.1)).Nodup->putAll (Zg val l) (Zg val kvs)=Zg val (l++kvs)
 |[],l,_=>by rw[ì];rfl
 |(k,v)::r,l,nd=>by
  show putAll (gp (Zg val l) (.int k)<|val v) (Zg val r)=_;have I:k∉l.map (·.1):=λz=>by rw[Ö,ã]at nd;exact nd.2.2 k z k (by simp) rfl
  rw[ZP,YK _ I,JH r _ (by rw[ü];exact nd),ü];rfl
def UI(e:h a=fJ (.lst<|kvs.map λp=>.tup [.int p.1,val p.2]))(nd:(kvs.map (·.1)).Nodup)(q:new h (.dct<|Zg val kvs) Q):(biV h .dict [.ref a]).wp h Q:=EH e (W5 kvs) (by rw[show putAll [] (Zg val kvs)=Zg val kvs from JH kvs [] nd];exact q)
structure Go(h:Hs)(A:List Ad)(g:Hs)(B:List Ad):Prop where
 ex:Ex A h g
 nw:∀a∈B,a∈A\/h a=fK
section
variable {h g f:Hs}{A B C:List Ad}{Y Z:Yd}{K:Ca}
def Go.off(m:Go h A g B)(na:a∉A)(e:h a=fJ o):a∉B/\g a=fJ o:=⟨λz=>(m.nw a z).elim na λy=>(by rw[e]at y;cases y),m.ex.get na e⟩
def Go.trans(m:Go h A g B)(l:Go g B f C):Go h A f C:=by
 refine⟨⟨λna e=>let ⟨J,I⟩:=m.off na e;l.ex.get J I⟩,λa ha=>?_⟩;rcases l.nw a ha with z|z
 .exact m.nw a z
 .by_cases na:a∈A
  .exact .inl na
  .cases e:h a with
   |none=>exact .inr rfl
   |some o=>rw[m.ex.get na e]at z;cases z
def Go.of(e:Ex A h g):Go h A g A:=⟨e,λ_=>.inl⟩
def Go.sub(m:Go h A g B){D E:List Ad}(s:∀a∈A,a∈D)(t:∀a∈E,a∈B\/a∈D\/h a=fK):Go h D g E:=⟨m.ex.sub s,λa ha=>(t a ha).elim (λz=>(m.nw a z).imp (s a) id) id⟩
def Mv.go(m:Mv h Y g Z):Go h Y.adr g Z.adr:=⟨m.ex,m.nw⟩
def CAt.go(x:CAt h Y K)(y:Z.y=Y.y)(b:Z.bs=Y.bs)(m:Go h A g B)(s:∀a∈K.adr,a∉A)(t:∀a∈Z.adr,a∈B):CAt g Z K:=by let⟨t1,R,t3,J⟩:=K.three;refine⟨by rw[y];exact m.ex.get (s _ t1) x.ins,m.ex.get (s _ R) x.lin,m.ex.get (s _ t3) x.had,λq I=>m.ex.get (s _<|J q I)<|x.each q I,x.nd,λa ha z=>?_,by rw[b];exact x.key⟩;let⟨o,U⟩:=x.taken ha;exact(m.off (s a ha) U).1 (t a z)
end
abbrev OC(F:Int->List β)(b:Int)(z:β):Int->List β:=λx=>if x=b then F x++[z]else F x
def UE{f:β->Val}{F:Int->List β}{b:Int}(al:∀q∈ls,g q.2=fJ (.lst<|(F q.1).map f))(R:(ls.map (·.1)).Nodup)(J:(ls.map (·.2)).Nodup)(hm:(b,a)∈ls)(z:β):∀q∈ls,(upd g a<|.lst<|(F b).map f++[f z]) q.2=fJ (.lst<|(OC F b z q.1).map f):=λq I=>by
 unfold OC;by_cases e:q.2=a
 .rw[Nm J I hm e,fO,iH rfl,Ö];rfl
 .rw[fN e,iI λw=>e<|by rw[Nm R I hm w]];exact al q I
noncomputable abbrev emV(p:Int×Ad):Val:=.tup [.int p.1,.ref p.2]
def NP{Φ:Fs}{env:Env}{st:Hs->Prop}(hs:∀g,st g)(bs:List Int)(k:∀(ls:List<|Int×Ad) g,ls.map (·.1)=bs->Ext h g->(∀q∈ls,g q.2=fJ (.lst [])/\h q.2=fK)->(ls.map (·.2)).Nodup->QL (ls.map emV) g):wComp st (λv O K X2=>go (bind (.one 0) O v<|ß 1 fK++([]:List Nat).map λj=>(env[j]?).getD fK) λU=>xT Φ .yes U O (λk s=>if k=fL then xE Φ (.tup #[.var 0,.lst .nil]) U s (λu h4=>K (fJ u) h4) X2 else K fK s) X2) (bs.map .int) [] h QL X:=by
 refine Yk (λi R g=>Sm1 λls=>Cj5 (ls.map (·.1)=bs.take i) (R=ls.map emV) (Ext h g) ((∀q∈ls,g q.2=fJ (.lst [])/\h q.2=fK)) ((ls.map (·.2)).Nodup)) ⟨[],rfl,rfl,.refl,Η _,Ċ⟩ (λ_ _ g _ _=>hs g) ?_ ?_
 .rintro i v R g hv ⟨ls,J,rfl,x,al,nd⟩ K hK;let⟨b,hb,rfl⟩:=ZI hv;walk_at "p";refine Zd λa g2 ha x2 ea=>?_;refine hK _ _ ⟨ls++[(b,a)],by rw[Ö,J,Zn hb];rfl,by rw[Ö];rfl,x.trans x2,λq I=>?_,?_⟩
  .rcases Ë.mp I with I|I
   .exact⟨x2.get (al q I).1,(al q I).2⟩
   .rw[Ó.mp I];exact⟨ea,Zc x ha⟩
  .rw[Ö,ã];refine⟨nd,by simp,λc hc d hd z=>?_⟩;let⟨q,I,rfl⟩:=Ü.mp hc;exact Za (al q I).1 ha<|z.trans<|Ó.mp hd
 .rintro R g ⟨ls,J,rfl,x,al,nd⟩;rw[Á,ù]at J;exact k ls g J x al nd
abbrev lop(C:Yc)(m:Nat)(b:Int):List<|Int×Int:=((ZE C m).filter λw=>iN (tch b w)).map λw=>(w.1,Xr b w)
noncomputable abbrev ptV(q:Int×Int):Val:=.tup [.int q.1,.int q.2]
abbrev opB(e:String×String):Bool:=iN (e=("child","parent"))||iN (e=("parent","child"))
def L0{a b:String}:inL h (.tup [.str a,.str b]) [.tup [.str "child",.str "parent"],.tup [.str "parent",.str "child"]]=fJ (opB (a,b)):=by unfold inL;rw[show dat h deep (.tup [.str a,.str b])=fJ (D.tup [.str a,.str b]) from rfl,ê,show [Val.tup [.str "child",.str "parent"],Val.tup [.str "parent",.str "child"]].mapM (dat h<|deep - 1)=fJ [D.tup [.str "child",.str "parent"],D.tup [.str "parent",.str "child"]] from rfl];show fJ (List.any [D.tup [.str "child",.str "parent"],D.tup [.str "parent",.str "child"]] λe=>D.eqv e<|.tup [.str a,.str b])=_;have e:∀c d:String,D.eqv (.tup [.str c,.str d]) (.tup [.str a,.str b])=iN ((a,b)=(c,d)):=λc d=>(ë<|D1 (h:=h)).trans<|decide_eq_decide.mpr eq_comm;rw[Ħ,Ħ,List.any_nil,e,e,Ω];rfl
def G7{m:Nat}{b:Int}(h:opB (C.ends m)=fM):lop C (m+1) b=lop C m b:=by unfold opB at h;rw[Bool.or_eq_false_iff]at h;unfold lop;rw[WL,show opn C m=[] by unfold opn;rw[iI<|of_decide_eq_false h.1,iI<|of_decide_eq_false h.2],ì]
def PN{m:Nat}{b:Int}(h:opB (C.ends m)=fL)(ne:(C.tie m).1≠(C.tie m).2.1):OC (OC (lop C m) (C.tie m).1 ((m:Int),(C.tie m).2.1)) (C.tie m).2.1 ((m:Int),(C.tie m).1) b=lop C (m+1) b:=by
 have key:∀x y:Int,((x=(C.tie m).1/\y=(C.tie m).2.1)\/(x=(C.tie m).2.1/\y=(C.tie m).1))->opn C m=[((m:Int),x,y)]->OC (OC (lop C m) (C.tie m).1 ((m:Int),(C.tie m).2.1)) (C.tie m).2.1 ((m:Int),(C.tie m).1) b=lop C (m+1) b:=λx y R e=>by
  have U:lop C (m+1) b=lop C m b++([((m:Int),x,y)].filter λw=>iN (tch b w)).map λw=>(w.1,Xr b w):=by unfold lop;rw[WL,e,Ű,Ö]
  rw[U];unfold OC;have hf:∀(t:Bool),(iN (tch b ((m:Int),x,y))=t)->[((m:Int),x,y)].filter (λw=>iN (tch b w))=if t=fL then [((m:Int),x,y)]else []:=λt ht=>by rw[đ,ht,Ů]
  by_cases I:b=(C.tie m).1
  .rw[iI λz=>ne<|I.symm.trans z,iH I,hf fL<|iK<|by rcases R with⟨rfl,rfl⟩|⟨rfl,rfl⟩<;>first|exact .inl I|exact .inr I,iH rfl];congr 1;show _=[((m:Int),Xr b ((m:Int),x,y))]
   unfold Xr;rcases R with⟨rfl,rfl⟩|⟨rfl,rfl⟩
   .rw[iH I]
   .rw[iI λz=>ne<|I.symm.trans z]
  .by_cases J:b=(C.tie m).2.1
   .rw[iH J,iI I,hf fL<|iK<|by rcases R with⟨rfl,rfl⟩|⟨rfl,rfl⟩<;>first|exact .inl J|exact .inr J,iH rfl];congr 1;show _=[((m:Int),Xr b ((m:Int),x,y))]
    unfold Xr;rcases R with⟨rfl,rfl⟩|⟨rfl,rfl⟩
    .rw[iI I]
    .rw[iH J]
   .rw[iI J,iI I,hf fM<|iJ<|by rcases R with⟨rfl,rfl⟩|⟨rfl,rfl⟩<;>rintro(z|z)<;>first|exact I z|exact J z,iI<|by decide];exact(ì _).symm
 unfold opB at h;by_cases e:C.ends m=("child","parent")
 .exact key _ _ (.inl ⟨rfl,rfl⟩) (by unfold opn;rw[iH e])
 .rw[iJ e,Bool.false_or]at h;exact key _ _ (.inr ⟨rfl,rfl⟩) (by unfold opn;rw[iI e,iH<|of_decide_eq_true h])
def Ar{m:Nat}{b:Int}:(lop C m b).length<=m:=by unfold lop;rw[Á];exact Ù (ě _ _) (YB m)
section
variable {Y:Yd}{N:Nat}{K:Ca}
def CS(x:fX h Y)(gd:Y.cc.gd N)(k:∀p (ls:List<|Int×Ad) g,ls.map (·.1)=Y.bs->Ext h g->g p=fJ (.dct<|Zg rfV ls)->(∀q∈ls,g q.2=fJ (.lst<|(lop Y.cc Y.ts.length q.1).map ptV))->(∀q∈ls,h q.2=fK)->Q (.ref p) g):wF P (n+6) "_law_open" [.ref Y.y,Zr Y.bs Y.ts] h Q X:=by
 have t16:Y.ts.length<=16:=gd.no.sixteen;have b10:Y.bs.length<=10:=gd.no.ten;have nb:Y.bs.Nodup:=gd.no.up.imp λh=>by lia
 refine O4 ?_
 exists Z5
 refine' ⟨Ð (by rw[Á];exact b10) ↥1,?_⟩;refine NP (λ_=>trivial) Y.bs λls g e1 x1 al nd=>?_;refine Zd λa g2 ha x2 ea=>?_;refine' UI (val:=rfV) ea (by rw[e1];exact nb) ?_;refine Zd λp g3 hp x3 ep=>?_;have xx:=(x1.trans x2).trans x3;have pn:h p=fK:=Zc (x1.trans x2) hp
 exists Wv
 exists fR rfl
 have n1:(ls.map (·.1)).Nodup:=by rw[e1];exact nb
 refine Zh (λi en g=>Sm2 λv3 v4=>Cj4 (en=[fJ<|.ref Y.y,fJ<|Zr Y.bs Y.ts,fJ<|.ref p,v3,v4]) (Ext h g) (g p=fJ (.dct<|Zg rfV ls))<|∀q∈ls,g q.2=fJ (.lst<|(lop Y.cc i q.1).map ptV)) ⟨_,_,rfl,xx,ep,λq I=>(x2.trans x3).get (al q I).1⟩ (λ_ _ _ _ _=>trivial) ?_ ?_
 .rintro i v en g hv ⟨v3,v4,rfl,O,eg,U⟩ K hK;let⟨z,hz,rfl⟩:=WG hv;rw[Ø]at hz;let⟨t,ht,rfl⟩:=Ï.mp hz;have hi:i<Y.ts.length:=(Ô.mp ht).1;rw[η];have yg:=x.ext O;have yi:=yg.ins;have et:Y.cc.tie i=t:=EI (C:=Y.cc) ht;let⟨t1,t2,t3,_,_⟩:=gd.no.tie t (é ht)
  exists UV yg hi
  refine fR (L0 (h:=g)) ?_;cases ho:opB (Y.cc.ends i)with
  |false =>walk_at "p";exact hK _ _ ⟨_,_,rfl,O,eg,λq I=>by rw[G7 ho];exact U q I⟩
  |true =>
   have l1:∀b,b∈Y.bs->∃a,(b,a)∈ls/\ls.lookup b=fJ a:=λb hb=>by rw[<-e1]at hb;let⟨⟨b',a⟩,hm,rfl⟩:=Ü.mp hb;exact⟨a,hm,ZQ n1 hm⟩
   let⟨a1,m1,k1⟩:=l1 _ t1;let⟨a2,m2,k2⟩:=l1 _ t2;have fr:∀q∈ls,h q.2=fK:=λq I=>(al q I).2;have ll:∀b,(lop Y.cc i b).length<=16:=λb=>Ù Ar ↥0;unfold trV;walk_at "p";have z1:g a1=_:=U _ m1;refine Zk eg rfl (by rw[Zz,k1];rfl) ?_;refine' Zj z1 (Ð (by rw[Á];exact ll _)<|by decide) ?_;have J:=UE U n1 nd m1 ((i:Int),t.2.1);have ne1:p≠a1:=λz=>Za ((x2.get (al _ m1).1)) hp z.symm;have R:=(fN ne1 (o:=.lst<|(lop Y.cc i t.1).map ptV++[ptV ((i:Int),t.2.1)])).trans eg;have s:Ext h<|upd g a1<|.lst<|(lop Y.cc i t.1).map ptV++[ptV ((i:Int),t.2.1)]:=⟨λe=>by rw[fN<|Za e<|fr _ m1];exact O.get e⟩
   generalize upd g a1 (.lst<|(lop Y.cc i t.1).map ptV++[ptV ((i:Int),t.2.1)])=g4 at J R s ⊢;fail;have z2:g4 a2=_:=J _ m2;refine Zk R rfl (by rw[Zz,k2];rfl) ?_;refine' Zj z2 (Ð (show _<=17 by rw[Á];unfold OC;rw[iI<|Int.ne_of_gt t3];exact Ù (ll _)<|by decide)<|by decide) ?_;have lg2:=UE J n1 nd m2 ((i:Int),t.1);have ne2:p≠a2:=λz=>Za ((x2.get (al _ m2).1)) hp z.symm;fail;dsimp only;refine hK _ _ ⟨_,_,rfl,⟨λe=>by rw[fN<|Za e<|fr _ m2];exact s.get e⟩,(fN ne2).trans R,λq I=>?_⟩;have:=PN (b:=q.1) ho (by rw[et];exact Int.ne_of_lt t3);rw[et]at this;rw[<-this];exact lg2 q I
 .rintro en g ⟨v3,v4,rfl,O,eg,U⟩;rw[Xq,Á]at U;refine' k p ls g e1 O eg U λq I=>(al q I).2
end
structure Md where
 m:Ad
 ml:Ad
 md:Ad
 mh:Ad
 ls:List<|Int×Ad
 hl:List<|Ad×Ad×Ad×List Val
abbrev Md.adr(M:Md):List Ad:=[M.m,M.ml,M.md,M.mh]++M.ls.map (·.2)
abbrev hdA(l:List<|Ad×Ad×Ad×List Val):List Ad:=l.flatMap λr=>[r.1,r.2.1,r.2.2.1]
abbrev mkv(M:Md)(s:Int):List<|Val×Val:=[(.str "line",.ref M.ml),(.str "many",.int s),(.str "had",.ref M.md),(.str "held",.ref M.mh)]
structure HOk(h:Hs)(r:Ad×Ad×Ad×List Val):Prop where
 p:h r.1=fJ (.lst [.ref r.2.1,.ref r.2.2.1])
 x:h r.2.1=fJ (.lst r.2.2.2)
 y:h r.2.2.1=fJ (.lst r.2.2.2)
 f:r.2.2.2.all (flat 11)=fL
structure MAt(h:Hs)(L:Ca)(M:Md):Prop where
 dc:h M.m=fJ (.dct<|mkv M L.sent)
 ln:h M.ml=fJ (.lst<|L.line.map fmV)
 had:h M.md=fJ (.dct<|Zg rfV M.ls)
 each:∀q∈M.ls,h q.2=fJ (.lst<|(L.hd q.1).map ZH)
 hls:h M.mh=fJ (.lst<|M.hl.map λr=>.ref r.1)
 held:∀r∈M.hl,HOk h r
 nd:M.adr.Nodup
 off:∀a∈hdA M.hl,a∉M.adr
structure Wl where
 Y:Yd
 K:Ca
 L:Ca
 M:Md
abbrev Md.adrs(M:Md):List Ad:=M.adr++hdA M.hl
abbrev Wl.adrs(V:Wl):List Ad:=V.Y.adr++(V.K.adr++V.M.adrs)
structure WAt(h:Hs)(V:Wl):Prop where
 y:fX h V.Y
 c:CAt h V.Y V.K
 m:MAt h V.L V.M
 o1:∀a∈V.M.adrs,a∉V.Y.adr
 o2:∀a∈V.M.adrs,a∉V.K.adr
 key:V.M.ls.map (·.1)=V.Y.bs
def WX{l:List (Ad×Ad×Ad×List Val)}{r:Ad×Ad×Ad×List Val}(h:r∈l):r.1∈hdA l/\r.2.1∈hdA l/\r.2.2.1∈hdA l:=by refine⟨?_,?_,?_⟩<;>exact Ľ.mpr ⟨r,h,by simp⟩
def JA{l:List (Ad×Ad×Ad×List Val)}{r:Ad×Ad×Ad×List Val}:hdA (l++[r])=hdA l++[r.1,r.2.1,r.2.2.1]:=by unfold hdA;rw[Ε];simp
def HOk.keep{r:Ad×Ad×Ad×List Val}{S:List Ad}(x:HOk h r)(e:Ex S h g)(n:r.1∉S/\r.2.1∉S/\r.2.2.1∉S):HOk g r:=⟨e.get n.1 x.p,e.get n.2.1 x.x,e.get n.2.2 x.y,x.f⟩
section
variable {h g:Hs}{V:Wl}{L:Ca}{M:Md}{Z:Yd}{S A B:List Ad}
def Md.four(M:Md):M.m∈M.adr/\M.ml∈M.adr/\M.md∈M.adr/\M.mh∈M.adr/\∀q∈M.ls,q.2∈M.adr:=⟨by simp[Md.adr],by simp[Md.adr],by simp[Md.adr],by simp[Md.adr],λq I=>Ç _<|ñ I⟩
def MAt.keep(x:MAt h L M)(e:Ex S h g)(ds:∀a∈M.adrs,a∉S):MAt g L M:=by let⟨t1,v,t3,s,k⟩:=M.four;have I:∀{a},a∈M.adr->a∉S:=λm=>ds _<|Ê _ m;have R:∀{a},a∈hdA M.hl->a∉S:=λm=>ds _<|Ç _ m;exact⟨e.get (I t1) x.dc,e.get (I v) x.ln,e.get (I t3) x.had,λq U=>e.get (I<|k q U)<|x.each q U,e.get (I s) x.hls,λr J=>(x.held r J).keep e ⟨R (WX J).1,R (WX J).2.1,R (WX J).2.2⟩,x.nd,x.off⟩
def MAt.taken(x:MAt h L M)(ha:a∈M.adrs):h a≠fK:=by
 rcases Ë.mp ha with ha|ha
 .rcases Ë.mp ha with ha|ha
  .simp![Å,Õ,or_false]at ha;rcases ha with rfl|rfl|rfl|rfl
   .rw[x.dc];nofun
   .rw[x.ln];nofun
   .rw[x.had];nofun
   .rw[x.hls];nofun
  .obtain⟨q,J,rfl⟩:=Ü.mp ha;rw[x.each q J];nofun
 .obtain⟨r,I,ha⟩:=Ľ.mp ha;have o:=x.held r I;simp![Å,Õ,or_false]at ha;rcases ha with rfl|rfl|rfl
  .rw[o.p];nofun
  .rw[o.x];nofun
  .rw[o.y];nofun
def WAt.taken(x:WAt h V)(ha:a∈V.adrs):h a≠fK:=by
 rcases Ë.mp ha with ha|ha
 .exact x.y.taken ha
 rcases Ë.mp ha with ha|ha
 .obtain⟨o,I⟩:=x.c.taken ha;rw[I];nofun
 .exact x.m.taken ha
def Wl.in1(h:a∈V.Y.adr):a∈V.adrs:=Ê _ h
def Wl.in2(h:a∈V.K.adr):a∈V.adrs:=Ç _ (Ê _ h)
def Wl.in3(h:a∈V.M.adrs):a∈V.adrs:=Ç _ (Ç _ h)
def WAt.keep(x:WAt h V)(e:Ex S h g)(ds:∀a∈V.adrs,a∉S):WAt g V:=⟨x.y.keep e λa ha=>ds a<|Wl.in1 ha,x.c.keep e λa ha=>ds a<|Wl.in2 ha,x.m.keep e λa ha=>ds a<|Wl.in3 ha,x.o1,x.o2,x.key⟩
def WAt.ext(x:WAt h V)(e:Ext h g):WAt g V:=x.keep (S:=[]) (.of e) λ_ _=>Õ
def WAt.extb(x:WAt h V)(e:ExtB w h g)(n:w∉V.adrs):WAt g V:=x.keep (S:=[w]) (Ex.ofB e<|by simp) λa ha z=>n (Ó.mp z▸ha)
def WAt.go(x:WAt h V)(z:fX g Z)(y:Z.y=V.Y.y)(b:Z.bs=V.Y.bs)(m:Go h A g B)(s:∀a∈A,a∈V.Y.adr\/a∉V.adrs)(t:∀a∈Z.adr,a∈B):WAt g {V with Y:=Z}:=by have I:∀{a},a∈V.adrs->a∉V.Y.adr->a∉A:=λO v k=>(s _ k).elim v λz=>z O;have R:∀a∈V.K.adr,a∉A:=λa ha=>I (Wl.in2 ha)<|x.c.off a ha;have J:∀a∈V.M.adrs,a∉A:=λa ha=>I (Wl.in3 ha)<|x.o1 a ha;refine⟨z,x.c.go y b m R t,x.m.keep m.ex J,λa ha w=>?_,x.o2,x.key.trans b.symm⟩;let⟨o,U⟩:=Option.ne_none_iff_exists'.mp<|x.m.taken ha;exact(m.off (J a ha) U).1 (t a w)
def WAt.car{K:Ca}(x:WAt h V)(y:fX g V.Y)(c:CAt g V.Y K)(a:K.adr=V.K.adr)(e:Ex V.K.adr h g):WAt g {V with K:=K}:=⟨y,c,x.m.keep e x.o2,x.o1,λb hb=>a▸x.o2 b hb,x.key⟩
def WAt.mod(x:WAt h V)(m:MAt g L V.M)(e:Ex V.M.adr h g):WAt g {V with L:=L}:=⟨x.y.keep e λa ha z=>x.o1 a (Ê _ z) ha,x.c.keep e λa ha z=>x.o2 a (Ê _ z) ha,m,x.o1,x.o2,x.key⟩
def MAt.sep(x:MAt h L M):M.m≠M.ml/\M.m≠M.md/\M.m≠M.mh/\M.ml≠M.md/\M.ml≠M.mh/\M.md≠M.mh/\∀q∈M.ls,q.2≠M.m/\q.2≠M.ml/\q.2≠M.md/\q.2≠M.mh:=by let⟨I,U,J⟩:=ã.mp x.nd;simp![ā,Å,Õ,or_false,not_or,not_false_eq_true,Ċ,and_true]at I;refine⟨I.1.1,I.1.2.1,I.1.2.2,I.2.1.1,I.2.1.2,I.2.2,λq R=>?_⟩;have:=λa ha=>J a ha _ (ñ (f:=(·.2)) R);exact⟨(this _<|by simp).symm,(this _<|by simp).symm,(this _<|by simp).symm,(this _<|by simp).symm⟩
def HOk.off{r:Ad×Ad×Ad×List Val}(x:HOk h r)(I:r∈M.hl)(ha:a∈M.adr)(f:∀a∈hdA M.hl,a∉M.adr):HOk (upd h a o) r:=x.keep (S:=[a]) (Ex.upd<|by simp) ⟨λz=>f _ (WX I).1<|Ó.mp z▸ha,λz=>f _ (WX I).2.1<|Ó.mp z▸ha,λz=>f _ (WX I).2.2<|Ó.mp z▸ha⟩
def MAt.counted(x:MAt h L M)(s:Int):MAt (upd h M.m<|.dct<|mkv M s) {L with sent:=s} M:=by let⟨s1,s2,s3,s4,s5,U,R⟩:=x.sep;exact⟨fO,(fN s1.symm).trans x.ln,(fN s2.symm).trans x.had,λq J=>(fN (R q J).1).trans<|x.each q J,(fN s3.symm).trans x.hls,λr I=>(x.held r I).off I M.four.1 x.off,x.nd,x.off⟩
def MAt.lined(x:MAt h L M)(l:List Fm):MAt (upd h M.ml<|.lst<|l.map fmV) {L with line:=l} M:=by let⟨s1,s2,s3,s4,s5,U,R⟩:=x.sep;exact⟨(fN s1).trans x.dc,fO,(fN s4.symm).trans x.had,λq J=>(fN (R q J).2.1).trans<|x.each q J,(fN s5.symm).trans x.hls,λr I=>(x.held r I).off I M.four.2.1 x.off,x.nd,x.off⟩
def MAt.got{b:Int}(x:MAt h L M)(R:(M.ls.map (·.1)).Nodup)(hm:(b,a)∈M.ls):MAt (upd h a<|.lst<|(L.hd b).map ZH++[ZH z]) {L with hd:=JN L.hd b z} M:=by let⟨s1,s2,s3,s4,s5,U,J⟩:=x.sep;let⟨a1,a2,a3,a4⟩:=J _ hm;exact⟨(fN a1.symm).trans x.dc,(fN a2.symm).trans x.ln,(fN a3.symm).trans x.had,UE (F:=L.hd) (f:=ZH) x.each R (ã.mp x.nd).2.1 hm z,(fN a4.symm).trans x.hls,λr I=>(x.held r I).off I (M.four.2.2.2.2 _ hm) x.off,x.nd,x.off⟩
def WAt.hold{r:Ad×Ad×Ad×List Val}(x:WAt h V)(o:HOk h r)(n:r.1∉V.adrs/\r.2.1∉V.adrs/\r.2.2.1∉V.adrs):WAt (upd h V.M.mh<|.lst<|(V.M.hl.map λr=>.ref r.1)++[.ref r.1]) {V with M:={V.M with hl:=V.M.hl++[r]}}:=by
 let⟨s1,s2,s3,s4,s5,U,R⟩:=x.m.sep;have e:∀{o},Ex V.M.adr h (upd h V.M.mh o):=Ex.upd V.M.four.2.2.2.1;have nm:∀a,(a=r.1\/a=r.2.1\/a=r.2.2.1)->a∉V.adrs:=λa ha=>by rcases ha with rfl|rfl|rfl;exact n.1;exact n.2.1;exact n.2.2
 have J:∀a,(a=r.1\/a=r.2.1\/a=r.2.2.1)->a∉V.M.adr:=λa ha z=>nm a ha<|Wl.in3<|Ê _ z;have mem:∀a∈hdA (V.M.hl++[r]),a∈hdA V.M.hl\/(a=r.1\/a=r.2.1\/a=r.2.2.1):=λa ha=>by rw[JA]at ha;exact(Ë.mp ha).imp id λz=>⇑z
 have all:∀a∈({V.M with hl:=V.M.hl++[r]}:Md).adrs,a∈V.M.adrs\/(a=r.1\/a=r.2.1\/a=r.2.2.1):=λa ha=>by
  rcases Ë.mp ha with ha|ha
  .exact .inl<|Ê _ ha
  .exact(mem a ha).imp (Ç _) id
 refine⟨x.y.keep e λa ha z=>x.o1 a (Ê _ z) ha,x.c.keep e λa ha z=>x.o2 a (Ê _ z) ha,⟨(fN s3).trans x.m.dc,(fN s5).trans x.m.ln,(fN U).trans x.m.had,λq I=>(fN (R q I).2.2.2).trans<|x.m.each q I,fO.trans (by rw[Ö];rfl),λq I=>?_,x.m.nd,λa ha=>?_⟩,λa ha=>?_,λa ha=>?_,x.key⟩
 .rcases Ë.mp I with I|I
  .exact(x.m.held q I).off I V.M.four.2.2.2.1 x.m.off
  .rw[Ó.mp I];exact o.keep e ⟨J _<|.inl rfl,J _<|.inr<|.inl rfl,J _<|.inr<|.inr rfl⟩
 .exact(mem a ha).elim (x.m.off a)<|J a
 .exact(all a ha).elim (x.o1 a) λz w=>nm a z<|Wl.in1 w
 .exact(all a ha).elim (x.o2 a) λz w=>nm a z<|Wl.in2 w
end
section
variable {N:Nat}
variable {s:Int}
def ZS{M:Md}:gk (mkv M s) (.str "line")=fJ (.ref M.ml)/\gk (mkv M s) (.str "many")=fJ (.int s)/\gk (mkv M s) (.str "had")=fJ (.ref M.md)/\gk (mkv M s) (.str "held")=fJ (.ref M.mh):=by refine⟨rfl,?_,?_,?_⟩<;>rfl
def Cz{M:Md}{t:Int}:gp (mkv M s) (.str "many") (.int t)=mkv M t:=rfl
abbrev slC(C:Yc):List<|Int×Pi:=C.keys.map λb=>(b,((C.at_ b).life,(C.at_ b).version))
def OL(g:C.gd N){b:Int}(h:(C.br.lookup b).isSome=fL):(slC C).lookup b=fJ ((C.at_ b).life,(C.at_ b).version):=by
 have I:C.keys.Nodup:=(Wx g.nd).imp λz=>by lia
 have e:(slC C).map (·.1)=C.keys:=by unfold slC;rw[õ];exact Š _
 exact ZQ (by rw[e];exact I)<|Ü.mpr ⟨b,keys_mem.mpr h,rfl⟩
def Q7{b f:Int}{c:Option Int}(x:WAt h V)(gd:V.Y.cc.gd N)(hs:(V.Y.cc.br.lookup b).isSome=fL)(b1:V.L.line.length+16<=500000)(b2:∀b,(V.L.hd b).length+1<=500000)(k:∀g,WAt g {V with L:=V.L.have_ V.Y.cc b c f}->Ex V.M.adr h g->Q .non g):wF P (n+7) "_law_has" [.ref V.M.m,.ref V.Y.y,Zr V.Y.bs V.Y.ts,.int b,.int f,hoV c] h Q X:=by
 have xm:=x.m;have xd:=xm.dc;have nb:V.Y.bs.Nodup:=gd.no.up.imp λh=>by lia
 have nk:(V.M.ls.map (·.1)).Nodup:=by rw[x.key];exact nb
 have hb:b∈V.Y.bs:=gd.sub _<|Zt (ô.mp hs).choose_spec;obtain⟨a,hm,la⟩:∃a,(b,a)∈V.M.ls/\V.M.ls.lookup b=fJ a:=by have hb:=hb;rw[<-x.key]at hb;let⟨⟨b',a⟩,hm,rfl⟩:=Ü.mp hb;exact⟨a,hm,ZQ nk hm⟩
 have ea:h a=fJ (.lst<|(V.L.hd b).map ZH):=xm.each _ hm;have kn:((slC V.Y.cc).map (·.1)).Nodup:=by unfold slC;rw[õ];exact(Š V.Y.cc.keys).symm▸(Wx gd.nd).imp λz=>by lia
 refine Bf ?_
 exists Zk xd rfl ZS.2.2.1
 refine' Zk xm.had rfl (by rw[Zz,la];rfl) ?_;refine' Zj ea (by rw[Á,lim];have:=b2 b;lia) ?_;have m1:=xm.got (z:=(f,c)) nk hm;have e1:Ex V.M.adr h<|upd h a<|.lst<|(V.L.hd b).map ZH++[ZH (f,c)]:=Ex.upd<|V.M.four.2.2.2.2 _ hm;generalize upd h a (.lst<|(V.L.hd b).map ZH++[ZH (f,c)])=g1 at m1 e1 ⊢;have x1:=x.mod m1 e1;have xi:=x1.y.ins;refine' Mb x1.y gd λps g2 hps J es=>?_;refine' UI (val:=pV) (kvs:=slC V.Y.cc) (es.trans<|by unfold GS slC;rw[õ];rfl) kn ?_;refine Zd λpd g3 hpd U ed=>?_;refine' CS (x1.y.ext<|J.trans U) gd λpo ls g4 hls O eo lo ln0=>?_;have nls:(ls.map (·.1)).Nodup:=by rw[hls];exact nb
 obtain⟨al,hma,laa⟩:∃a,(b,a)∈ls/\ls.lookup b=fJ a:=by have hb:=hb;rw[<-hls]at hb;let⟨⟨c',a'⟩,hn,e⟩:=Ü.mp hb;dsimp only at e;subst e;exact⟨a',hn,ZQ nls hn⟩
 have el:=lo _ hma;dsimp only at el;have xx:=(J.trans U).trans O;have x4:=x1.ext xx;have ed4:=O.get ed;have lp:(lop V.Y.cc V.Y.ts.length b).length<=16:=Ù Ar gd.no.sixteen;refine' Zk eo rfl (by rw[Zz,laa];rfl) ?_;fail;have R:∀p,g1 p=fK->p∉V.M.adr:=λp hp z=>x1.taken (Wl.in3<|Ê _ z) hp;have pM:pd∉V.M.adr:=R _<|Zc J hpd;have aM:al∉V.M.adr:=R _<|Zc (J.trans U)<|ln0 _ hma;refine Zh (λi en g=>Sm2 λv7 v8=>Cj5 (en=[fJ<|.ref V.M.m,fJ<|.ref V.Y.y,fJ<|Zr V.Y.bs V.Y.ts,fJ<|.int b,fJ<|.int f,fJ<|hoV c,fJ<|.ref pd,v7,v8]) (WAt g {V with L:={V.L with hd:=JN V.L.hd b (f,c),line:=V.L.line++((((ZE V.Y.cc V.Y.ts.length).filter λw=>iN (tch b w)).take i).filter λw=>!iN (fJ w.1=c)).map (frm V.Y.cc b f)}}) (Ex V.M.adr h g) (g pd=fJ (.dct<|Zg pV<|slC V.Y.cc))<|g al=fJ (.lst<|(lop V.Y.cc V.Y.ts.length b).map ptV)) ⟨_,_,rfl,by rw[ϟ,Ů,ň,ì];exact x4,e1.trans<|.of xx,ed4,el⟩ (λ_ _ _ _ ⟨_,_,_,_,_,_,z⟩=>lsE z) ?_ ?_
 .rintro i v en g hv ⟨v7,v8,rfl,I,eg,dg,lg⟩ K hK;let⟨q,hq,rfl⟩:=ZI hv;unfold lop at hq;rw[Ø]at hq;let⟨w,hw,rfl⟩:=Ï.mp hq;rw[Zn hw,Ű,Ö,<-ü,đ,Ů]at hK;let⟨hw1,hw2⟩:=Đ.mp<|é hw;have o:=OP (C:=V.Y.cc) hw1;have hs2:(V.Y.cc.br.lookup<|Xr b w).isSome=fL:=by
   unfold Xr;split
   .exact o.sp
   .exact o.sc
  have hi:=(Ô.mp hw).1;have li:((ZE V.Y.cc V.Y.ts.length).filter λw=>iN (tch b w)).length<=16:=by unfold lop at lp;rw[Á]at lp;exact lp
  exists W4 Fc
  fail;cases ho:iN (fJ w.1=c)with
  |true =>rw[ho,iI<|by decide]at hK;walk_at "p";exact hK _ _ ⟨_,_,rfl,by rw[ň,ì];exact I,eg,dg,lg⟩
  |false =>rw[ho,iH<|by decide]at hK;have xd:=I.m.dc;have xl:=I.m.ln;dsimp only at xd xl;walk_at "p";refine Zk xd rfl ZS.1 ?_;refine' Zk dg rfl (by rw[Zz,OL gd hs];rfl) ?_;refine' Zk dg rfl (by rw[Zz,OL gd hs2];rfl) ?_;refine' Zj xl (Ð (show _<=V.L.line.length+16 by rw[Á,á,Á];exact ϯ (Ù (ě _ _)<|by rw[ą];lia) _)<|by rw[lim];lia) ?_;have m2:=I.m.lined<|V.L.line++((((ZE V.Y.cc V.Y.ts.length).filter λw=>iN (tch b w)).take i).filter λw=>!iN (fJ w.1=c)).map (frm V.Y.cc b f)++[frm V.Y.cc b f w];rw[Ö (l₂:=[_])]at m2;have eu:∀o,Ex V.M.adr g (upd g V.M.ml o):=λo=>Ex.upd V.M.four.2.1;exact hK _ _ ⟨_,_,rfl,I.mod m2<|eu _,eg.trans<|eu _,(eu _).get pM dg,(eu _).get aM lg⟩
 .rintro en g ⟨v7,v8,rfl,I,eg,dg,lg⟩;unfold lop at I;rw[Á,Á,ù,List.filter_filter]at I;refine' k g I eg
end
variable {qs:List (Int×Ad)}
def Qg{ps:List (Int×Ad)}{F:Int->List Val}(e:ps.map (·.1)=qs.map (·.1))(hp:∀q∈ps,h q.2=fJ (.lst<|F q.1))(J:∀q∈qs,h q.2=fJ (.lst<|F q.1)):(ps.map λq=>rfV q.2).mapM (dat h 11)=(qs.map λq=>rfV q.2).mapM (dat h 11):=by
 have one:∀{q:Int×Ad},h q.2=fJ (.lst<|F q.1)->dat h 11 (rfV q.2)=((F q.1).mapM<|dat h 10).map D.lst:=λ{q} eq=>by show(fY<|h q.2).bind (λxs=>(xs.mapM<|dat h 10).map D.lst)=_;rw[eq,ZJ,ê]
 induction ps generalizing qs with
 |nil=>cases qs with
  |nil=>rfl
  |cons q qs=>cases e
 |cons p ps ih=>cases qs with
  |nil=>cases e
  |cons q qs =>rw[Ò,Ò,dD]at e;rw[Ò,Ò,ş,ş,one<|hp p<|by simp,one<|J q<|by simp,e.1,ih e.2 (λr I=>hp r<|by simp[I]) λr I=>J r<|by simp[I]]
def U7{ps:List (Int×Ad)}{F:Int->List Val}(v:h a=fJ (.lst<|ps.map λq=>rfV q.2))(s:h b=fJ (.lst<|qs.map λq=>rfV q.2))(e:ps.map (·.1)=qs.map (·.1))(hp:∀q∈ps,h q.2=fJ (.lst<|F q.1))(R:∀q∈qs,h q.2=fJ (.lst<|F q.1))(hf:∀b,(F b).all (flat 10)=fL):eqV h (.ref a) (.ref b)=fJ fL:=by
 let⟨ds,I⟩:=XH (f:=dat h 11) (xs:=ps.map λq=>rfV q.2) λx J=>by
  let⟨q,R,rfl⟩:=Ü.mp J;let⟨d,hd⟩:=XH (f:=dat h 10) (xs:=F q.1) λx J=>JE<|ý.mp (hf q.1) x J;exact⟨.lst d,by
    show(fY<|h q.2).bind (λxs=>(xs.mapM<|dat h 10).map D.lst)=_
    rw[hp q R,ZJ,ê,hd];rfl⟩
 have U:∀{c:Ad}{xs:List Val},h c=fJ (.lst xs)->xs.mapM (dat h 11)=fJ ds->dat h deep (.ref c)=fJ (.lst ds):=λ{c xs} k em=>by show(fY<|h c).bind (λxs=>(xs.mapM<|dat h 11).map D.lst)=_;rw[k,ZJ,ê,em];rfl
 unfold eqV;rw[U v I,U s<|(Qg e hp R).symm.trans I];show fJ (D.eqv _ _)=_;rw[D.eqv_refl]
def FJ{o:Option Int}:flat n (hoV o)=fL:=by cases o<;>cases n<;>rfl
def Kz{l:List (Int×Option Int)}:(l.map ZH).all (flat<|n+1)=fL:=all_map λq _=>by show([Val.int q.1,hoV q.2].all<|flat n)=fL;rw[ψ,ψ,cJ,Wn,FJ];rfl
def Ni{l:List Fm}:(l.map fmV).all (flat<|n+2)=fL:=all_map λm _=>by
 have p:∀p:Pi,flat (n+1) (pV p)=fL:=λp=>by show([Val.int p.1,.int p.2].all<|flat n)=fL;rw[ψ,ψ,cJ,Wn,Wn];rfl
 show([Val.int m.st,.int m.go,.int m.ti,.int m.nu,pV m.s1,pV m.s2].all<|flat<|n+1)=fL;simp![ψ,cJ,Wn,p,bW]
def LP{xs ys:List Val}{K:Hs->Prop}(n:a≠b)(J:h a=fJ (.lst xs))(I:h b=fJ (.lst ys))(m:xs.length+ys.length<=lim)(q:K<|upd h a<|.lst<|ys++xs):go (UA h (.ref a)<|.ref b) K:=fR (by unfold UA gP;rw[ê,ê,iI n,J,I,ZJ,ê,ZJ,ê,iH m]) q
def DX{xs:List Val}{v:Val}:cut (xs++[v]) fK (fJ (-1))=xs:=by unfold cut gQ;dsimp only;rw[ϝ,iI ↥1,á,ν];rw[show(-1+((xs.length+1:Nat):Int)).toNat - 0=xs.length by lia,List.take_left'];rfl
section
variable {Y:Yd}{K:Ca}{M:Md}{N:Nat}
def HB{b:Int}(x:WAt h ⟨Y,K,K,M⟩)(gd:Y.cc.gd N)(R:(Y.cc.br.lookup b).isSome=fL)(b1:K.line.length+16<=500000)(b2:∀b,(K.hd b).length+1<=500000)(k:∀g J,J=({K with sent:=K.sent+1}:Ca).have_ Y.cc b fK K.sent->WAt g ⟨Y,J,J,M⟩->Ex (K.adr++M.adr) h g->Q (.bl fL) g):wF P (n+9) "_law_sent" [.ref M.m,.ref Y.y,Zr Y.bs Y.ts,.ref K.c,.int b] h Q X:=by
 have xd:=x.m.dc;dsimp only at xd;refine UB ?_
 exists Zk xd rfl ZS.2.1
 refine' Yh xd ⟨rfl,(show(4:Nat)<lim by decide)⟩ ?_;rw[Cz];have I:∀{o},Ex M.adr h (upd h M.m o):=Ex.upd M.four.1;have x1:WAt _ ⟨Y,K,{K with sent:=K.sent+1},M⟩:=x.mod (x.m.counted<|K.sent+1) I;have I:Ex M.adr h<|upd h M.m<|.dct<|mkv M<|K.sent+1:=I;generalize upd h M.m (.dct<|mkv M<|K.sent+1)=g1 at x1 I ⊢;have ci:=x1.c.ins;dsimp only at ci;refine' Ie x1.y gd x1.c R b1 b2 λg2 s c2 U=>?_;have x2:=x1.car s c2 rfl U;walk_at "p";refine ie (by rw[iK rfl];rfl) ?_;walk_at "p";refine Q7 (V:=⟨Y,_,{K with sent:=K.sent+1},M⟩) (c:=fK) x2 gd R b1 b2 λg3 x3 v=>?_;walk_at "p";exact k g3 _ rfl x3<|((I.sub λa ha=>Ç _ ha).trans<|U.sub λa ha=>Ê _ ha).trans<|v.sub λa ha=>Ç _ ha
def Ot{env:Env}(he:(env[2]?).getD fK=fJ (.ref K.c))(y:CAt h Y K)(k:∀(ps:List<|Int×Ad) g,ps.map (·.1)=Y.bs->Ext h g->(∀q∈ps,g q.2=fJ (.lst<|(K.hd q.1).map ZH)/\h q.2=fK)->QL (ps.map λq=>rfV q.2) g)(nb:Y.bs.Nodup):wComp (λ_=>True) (λv h2 U X2=>go (bind (.one 0) h2 v<|ß 1 fK++[2].map λj=>(env[j]?).getD fK) λs=>xT (wF P<|n+2) .yes s h2 (λk h3=>if k=fL then xE (wF P<|n+2) (.meth "Carrier" "came" (.var 1) #[.var 0]) s h3 (λu h4=>U (fJ u) h4) X2 else U fK h3) X2) (Y.bs.map .int) [] h QL X:=by
 refine Yk (λi R g=>∃ps:List<|Int×Ad,ps.map (·.1)=Y.bs.take i/\R=ps.map (λq=>rfV q.2)/\Ext h g/\(∀q∈ps,g q.2=fJ (.lst<|(K.hd q.1).map ZH)/\h q.2=fK)) ⟨[],rfl,rfl,.refl,Η _⟩ (λ_ _ g _ _=>trivial) ?_ ?_
 .rintro i v R g hv ⟨ps,J,rfl,x,al⟩ U hK;let⟨b,hb,rfl⟩:=ZI hv;have O:=y.ext x;have ci:=O.ins;rw[show([2].map λj=>(env[j]?).getD fK)=[fJ<|.ref K.c] from congrArg (λz=>[z]) he];walk_at "p";refine MI O (by rw[y.key];exact nb) λa g2 ha x2 ea=>?_;rw[iH<|é hb]at ea;refine hK _ _ ⟨ps++[(b,a)],by rw[Ö,J,Zn hb];rfl,by rw[Ö];rfl,x.trans x2,λq I=>?_⟩;rcases Ë.mp I with I|I
  .exact⟨x2.get (al q I).1,(al q I).2⟩
  .rw[Ó.mp I];exact⟨ea,Zc x ha⟩
 .rintro R g ⟨ps,J,rfl,x,al⟩;rw[Á,ù]at J;exact k ps g J x al
def La(e:upd h a o=g):g a=fJ o:=e▸fO
def XO{q:Ob}(e:upd h a o=g)(n:b≠a)(k:h b=fJ q):g b=fJ q:=e▸(fN n).trans k
def W9{S:List Ad}(e:upd h a o=g)(m:a∈S):Ex S h g:=e▸Ex.upd m
def B3(x:WAt h ⟨Y,K,K,M⟩)(gd:Y.cc.gd N)(b1:K.line.length<=400000)(b2:∀b,(K.hd b).length<=400000)(b3:M.hl.length<=400000)(k:∀g l,l.length=M.hl.length+2->WAt g ⟨Y,K,K,{M with hl:=l}⟩->Go h (Wl.adrs ⟨Y,K,K,M⟩) g (Wl.adrs ⟨Y,K,K,{M with hl:=l}⟩)->Q (.bl fL) g):wF P (n+3) "_law_stands" [.ref M.m,Zr Y.bs Y.ts,.ref K.c] h Q X:=by
 have b10:Y.bs.length<=10:=gd.no.ten;have b0:1<=Y.bs.length:=gd.no.one;have nb:Y.bs.Nodup:=gd.no.up.imp λh=>by lia
 have nk:(M.ls.map (·.1)).Nodup:=by rw[x.key];exact nb
 have hbl:(Y.bs.map Val.int).length=Y.bs.length:=Á _;have ci:=x.c.ins;dsimp only at ci;refine MG ?_;refine' JI x.c λp1 g1 bC x1 e1=>?_;have X1:=x.ext x1
 exists Z5
 refine' ⟨Ð (by rw[hbl];exact b10) ↥1,?_⟩;refine Ot rfl X1.c (λps g2 k2 x2 al=>?_) nb;refine Zd λp2 g3 fh x3 e3=>?_;have X3:=X1.ext<|x2.trans x3;have al3:∀q∈ps,g3 q.2=fJ (.lst<|(K.hd q.1).map ZH):=λq O=>x3.get (al q O).1;have e13:=(x2.trans x3).get e1
 exists Z5
 refine' ⟨Ð (by rw[hbl];exact b10) ↥1,?_⟩;have xd:=X3.m.dc;dsimp only at xd;rw[show Y.bs.map Val.int=M.ls.map λq=>.int q.1 by rw[<-x.key,õ];rfl];refine EM (λq=>rfV q.2) trivial (λq O K1 hK=>?_) ?_
 .walk_at "p";refine Zk xd rfl ZS.2.2.1 ?_;refine' Zk X3.m.had rfl (by rw[Zz,ZQ nk<|show(q.1,q.2)∈M.ls from O];rfl) ?_;exact hK
 refine Zd λp4 g4 hp4 x4 e4=>?_;have X4:=X3.ext x4;have xd:=X4.m.dc;dsimp only at xd;have s:=x4.get e13;have e34:=x4.get e3;have al4:∀q∈ps,g4 q.2=fJ (.lst<|(K.hd q.1).map ZH):=λq O=>x4.get<|al3 q O;have n1:h p1=fK:=bC;have n2:h p2=fK:=Zc (x1.trans x2) fh;have n4:h p4=fK:=Zc ((x1.trans x2).trans x3) hp4;have nps:∀q∈ps,h q.2=fK:=λq O=>Zc x1 (al q O).2;have off:∀{a},h a=fK->a∉Wl.adrs ⟨Y,K,K,M⟩:=λha z=>x.taken z ha;have nmh:∀{a},h a=fK->a≠M.mh:=λha z=>off ha<|Wl.in3<|Ê _<|z▸M.four.2.2.2.1
 exists isl s
 walk_at "p";refine Zk xd rfl ZS.1 ?_
 exists W4 (UD s X4.m.ln Ni)
 walk_at "p";refine W4 (U7 (F:=λb=>(K.hd b).map ZH) e34 e4 (k2.trans x.key.symm) al4 X4.m.each λ_=>Kz) ?_;walk_at "p";refine Zk xd rfl ZS.2.2.2 ?_;have R:=X4.m.hls;dsimp only at R
 exists Z5
 fail;obtain⟨i,hi,ei⟩:∃i:Nat,i<Y.bs.length/\((M.hl.map λr=>Val.ref r.1).length:Int) % ((Y.bs.map Val.int).length:Int)=i:=by have h0:0<=((M.hl.map λr=>Val.ref r.1).length:Int) % ((Y.bs.map Val.int).length:Int):=Ζ _ ↥0;have h1:((M.hl.map λr=>Val.ref r.1).length:Int) % ((Y.bs.map Val.int).length:Int)<((Y.bs.map Val.int).length:Int):=ų _ ↥0;exact⟨_,by lia,(Int.toNat_of_nonneg h0).symm⟩
 rw[ei];have il:i<M.ls.length:=by have z:(M.ls.map (·.1)).length=Y.bs.length:=congrArg List.length x.key;rw[Á]at z;lia
 have v:i<ps.length:=by have:=congrArg List.length k2;rw[Á]at this;lia
 have qb:(M.ls[i]).1=Y.bs[i]:=by have:=congrArg (λl=>l[i]?) x.key;dsimp only at this;rw[Ø,É il,É hi]at this;exact ë this
 have at_:∀{α:Type}{l:List α}{f:α->Val}(hl:i<l.length),atI (l.map f) (i:Int)=fJ (f l[i]):=λ{α l f} hl=>YN ↥0 (by rw[ç,Ø,É hl];rfl);refine Zk xd rfl ZS.2.2.2 ?_
 exists Z5
 exists fS (at_ hi)
 have ci:=X4.c.ins;dsimp only at ci;refine' MI X4.c (by rw[X4.c.key];exact nb) λp5 g5 hp5 x5 e5=>?_;rw[iH<|þ hi]at e5
 exists Z8 (x5.get e4) (at_ il)
 have ea:g5 (M.ls[i]).2=fJ (.lst<|(K.hd (M.ls[i]).1).map ZH):=x5.get<|X4.m.each _<|þ il;refine' Zd λp6 g6 hp6 x6 e6=>?_;refine' Zd λp7 g7 hp7 x7 e7=>?_;have x57:=(x5.trans x6).trans x7;have X7:=X4.ext x57;have x14:=((x1.trans x2).trans x3).trans x4;have m5:h p5=fK:=Zc x14 hp5;have m6:h p6=fK:=Zc (x14.trans x5) hp6;have m7:h p7=fK:=Zc (x14.trans<|x5.trans x6) hp7;have R:=X7.m.hls;dsimp only at R;refine' Zj R (Ð (by rw[Á];exact b3)<|by decide) ?_;have X8:=X7.hold (r:=(p7,p5,p6,(K.hd Y.bs[i]).map ZH)) ⟨e7,(x6.trans x7).get e5,by rw[<-qb];exact x7.get e6,Kz⟩ ⟨off m7,off m5,off m6⟩;dsimp only at X8;generalize I:upd g7 M.mh (.lst<|(M.hl.map λr=>.ref r.1)++[.ref p7])=g8 at X8 ⊢;have s8:∀{a o},h a=fK->g4 a=fJ o->g8 a=fJ o:=λha e=>XO I (nmh ha)<|x57.get e;have y8:Ex [M.mh] g4 g8:=(Ex.of x57).trans (W9 I<|by simp);have xd:=X8.m.dc;have ci:=X8.c.ins;have R:=X8.m.hls;dsimp only at xd ci R
 exists Zk xd rfl (ZS (M:=M)).2.2.2
 refine' JI X8.c λp9 g9 hp9 x9 e9=>?_;have e19:=x9.get<|s8 n1 s;refine' Zd λpa ga hpa xa ea=>?_;refine' Zd λpb gb hpb xb eb=>?_;have J:=(x9.trans xa).trans xb;have Xb:=X8.ext J;have w8:∀{a},g8 a=fK->g4 a=fK:=λ{a} ha=>by
  cases z:g4 a with
  |none=>rfl
  |some o =>
   by_cases e:a=M.mh
   .exact iM ha<|e▸X8.taken (Wl.in3<|Ê _ M.four.2.2.2.1)
   .rw[y8.get ⇑e z]at ha;cases ha
 have o8:∀{a},g8 a=fK->a∉Wl.adrs ⟨Y,K,K,{M with hl:=M.hl++[(p7,p5,p6,(K.hd Y.bs[i]).map ZH)]}⟩:=λha z=>X8.taken z ha;have R:=Xb.m.hls;dsimp only at R;refine' Zj R (Ð (show _<=400001 by rw[Á,á];exact ς b3)<|by decide) ?_;have Xc:=Xb.hold (r:=(pb,p9,pa,K.line.map fmV)) ⟨eb,(xa.trans xb).get e9,xb.get ea,Ni⟩ ⟨o8<|Zc (x9.trans xa) hpb,o8 hp9,o8<|Zc x9 hpa⟩;dsimp only at Xc;generalize I:upd gb M.mh (.lst<|((M.hl++[(p7,p5,p6,(K.hd Y.bs[i]).map ZH)]).map λr=>.ref r.1)++[.ref pb])=gc at Xc ⊢;have sc:∀{a o},h a=fK->gb a=fJ o->gc a=fJ o:=λha e=>XO I (nmh ha) e;have yc:Ex [M.mh] h gc:=(((Ex.of x14).trans y8).trans<|.of J).trans (W9 I<|by simp);have f1:gc p1=fJ (.lst<|K.line.map fmV):=sc n1<|J.get<|s8 n1 s;have f2:gc p2=fJ (.lst<|ps.map λq=>rfV q.2):=sc n2<|J.get<|s8 n2 e34;have f4:gc p4=fJ (.lst<|M.ls.map λq=>rfV q.2):=sc n4<|J.get<|s8 n4 e4;have ft:gc (ps[i]).2=fJ (.lst<|(K.hd (ps[i]).1).map ZH):=sc (nps _<|þ v)<|J.get<|s8 (nps _<|þ v)<|al4 _<|þ v;have nt:=nps _<|þ v;have len:(K.line.map fmV).length<=400000:=by rw[Á];exact b1
 generalize hl2:M.hl++[(p7,p5,p6,(K.hd Y.bs[i]).map ZH)]++[(pb,p9,pa,K.line.map fmV)]=l2 at Xc;have ll2:l2.length=M.hl.length+2:=by rw[<-hl2];simp
 have sv:∀a∈Wl.adrs ⟨Y,K,K,{M with hl:=l2}⟩,a∈Wl.adrs ⟨Y,K,K,M⟩\/g4 a=fK:=λa ha=>by
  rw[<-hl2]at ha;rcases Ë.mp ha with ha|ha
  .exact .inl<|Wl.in1 ha
  rcases Ë.mp ha with ha|ha
  .exact .inl<|Wl.in2 ha
  rcases Ë.mp ha with ha|ha
  .exact .inl<|Wl.in3<|Ê _ ha
  .rw[JA,JA,ü]at ha;rcases Ë.mp ha with ha|ha
   .exact .inl<|Wl.in3<|Ç _ ha
   .simp![Ë,Å,Õ,or_false]at ha;rcases ha with(rfl|rfl|rfl)|(rfl|rfl|rfl)
    .exact .inr<|Zc (x5.trans x6) hp7
    .exact .inr hp5
    .exact .inr<|Zc x5 hp6
    .exact .inr<|w8<|Zc (x9.trans xa) hpb
    .exact .inr<|w8 hp9
    .exact .inr<|w8<|Zc x9 hpa
 have U:∀{a o},h a=fK->g4 a=fJ o->a∉Wl.adrs ⟨Y,K,K,{M with hl:=l2}⟩:=λha e z=>(sv _ z).elim (off ha) λw=>by rw[e]at w;cases w
 have k12:p1≠p2:=Za (x2.get e1) fh;have k14:p1≠p4:=Za e13 hp4;have k24:p2≠p4:=Za e3 hp4;have at4:=al4 _<|þ v;have kt1:p1≠(ps[i]).2:=Za e1 (al _<|þ v).2;have kt2:(ps[i]).2≠p2:=Za (al _<|þ v).1 fh;have kt4:(ps[i]).2≠p4:=Za (al3 _<|þ v) hp4;refine' Zj f1 (Ð len<|by decide) ?_;generalize I:upd gc p1 (.lst<|K.line.map fmV++[.non])=gd';have h1:=La I;have Xd:=Xc.keep (S:=[p1]) (W9 I<|by simp) λa ha z=>U n1 s<|Ó.mp z▸ha;have h2:=XO I k12.symm f2;have h4:=XO I k14.symm f4;have ht:=XO I kt1.symm ft;have yd:Ex (p1::(ps[i]).2::[M.mh]) h gd':=(yc.sub λa ha=>by simp at ha;simp[ha]).trans (W9 I<|by simp)
 exists Z8 h2 (at_ v)
 fail;have tl:((K.hd (ps[i]).1).map ZH).length<=400000:=by rw[Á];exact b2 _
 refine Zj ht (Ð tl<|by decide) ?_;generalize I:upd gd' (ps[i]).2 (.lst<|(K.hd (ps[i]).1).map ZH++[.tup [.int 0,.int 0]])=ge;have ht':=La I;have Xe:=Xd.keep (S:=[(ps[i]).2]) (W9 I<|by simp) λa ha z=>U nt at4<|Ó.mp z▸ha;have ye:=yd.trans (W9 I<|by simp);have h1':=XO I kt1 h1;have h2':=XO I kt2.symm h2;have h4':=XO I kt4.symm h4;refine' Zd λpf gf hpf xf ef=>?_
 exists Z8 (xf.get h2') (at_ v)
 refine LP (Za ht' hpf) (xf.get ht') ef (Ù (show _<=400002 by rw[á];exact Ϩ (Ϩ tl 1) 1)<|by decide) ?_;generalize I:upd gf (ps[i]).2 (.lst<|[.tup [.int 0,.int 0]]++((K.hd (ps[i]).1).map ZH++[.tup [.int 0,.int 0]]))=gg;have Xg:=(Xe.ext xf).keep (S:=[(ps[i]).2]) (W9 I<|by simp) λa ha z=>U nt at4<|Ó.mp z▸ha;have yg:=(ye.trans<|.of xf).trans (W9 I<|by simp);have i1:=XO I kt1<|xf.get h1';have i4:=XO I kt4.symm<|xf.get h4';have xd:=Xg.m.dc;have R:=Xg.m.hls;dsimp only at xd R
 exists Zk xd rfl (ZS (M:=M)).2.2.2
 refine' ⟨Ð (show _<=400002 by rw[Á,ll2];exact Ϩ b3 2) ↥1,?_⟩;refine Um (λ_=>fM) (λ_=>.non) (lsE R) (λr hr K1 _ hK=>?_) ?_
 .have o:=Xg.m.held r hr;have op:=o.p
  exists isl o.x
  walk_at "p";refine W4 (UD o.x o.y o.f) ?_;walk_at "p";exact hK rfl
 rw[List.filter_eq_nil_iff.mpr λ_ _=>by decide];refine Zd λpu gu hpu xu eu=>?_;refine' Zd λpv gv hpv xv ev=>?_;refine c_neE (xv.get eu) ev ?_;have Xv:=Xg.ext<|xu.trans xv;have iv4:=(xu.trans xv).get i4;have iv1:=(xu.trans xv).get i1;walk_at "p";refine Z5 ?_;refine' ⟨Ð (by rw[hbl];exact b10) ↥1,?_⟩;refine Ot rfl Xv.c (λqs gw kw xw aw=>?_) nb;refine Zd λpx gx hpx xx ex=>?_;have Xx:=Xv.ext<|xw.trans xx
 exists W7 (U7 (F:=λb=>(K.hd b).map ZH) ex ((xw.trans xx).get iv4) (kw.trans x.key.symm) (λq O=>xx.get (aw q O).1) Xx.m.each λ_=>Kz)
 have ci:=Xx.c.ins;dsimp only at ci;walk_at "p";refine JI Xx.c λpy gy hpy xy ey=>?_;have iy1:=(xw.trans<|xx.trans xy).get iv1;fail;rw[DX];refine Zd λpz gz hpz xz ez=>?_;refine W7 (UD (xz.get ey) ez Ni) ?_;have xend:=((((xu.trans xv).trans xw).trans xx).trans xy).trans xz;refine k gz l2 ll2 (Xg.ext xend) ⟨⟨λ{a o} na e=>?_⟩,λa ha=>(sv a ha).imp id<|Zc x14⟩;refine xend.get<|yg.get (λz=>?_) e;simp![Å,Õ,or_false]at z;rcases z with rfl|rfl|rfl
 .exact Za e n1 rfl
 .exact Za e nt rfl
 .exact na<|Wl.in3<|Ê _ M.four.2.2.2.1
end
section
variable {f:Hs}{V:Yd}
def Mv.goW(m:Mv h Y g Z):Go h (w::Y.adr) g<|w::Z.adr:=m.go.sub (λ_=>Ý _) λa ha=>(Å.mp ha).elim (λe=>.inr<|.inl<|e▸ð) .inl
def ExtB.goW(x:ExtB w h g):Go h (w::A) g<|w::A:=.of (Ex.ofB x ð)
def Row.mv(x:Row h w)(m:Mv h Y g Z)(n:w∉Y.adr):Row g w/\w∉Z.adr:=by let⟨a,b,e,z⟩:=x;have o:=m.off n e;exact⟨⟨a,b,o.2,z⟩,o.1⟩
structure Yg(h:Hs)(w:Ad)(Y:Yd)(g:Hs)(Z:Yd)(N:Nat):Prop where
 at_:fX g Z
 gd:Z.cc.gd N
 bs:Z.bs=Y.bs
 ts:Z.ts=Y.ts
 y:Z.y=Y.y
 row:Row g w
 nw:w∉Z.adr
 go:Go h (w::Y.adr) g<|w::Z.adr
def Yg.mv(x:Yg h w Y g Z N)(m:Mv g Z f V)(gd:V.cc.gd M)(J:V.bs=Z.bs)(I:V.ts=Z.ts):Yg h w Y f V M:=⟨m.at_,gd,J.trans x.bs,I.trans x.ts,m.y.trans x.y,(x.row.mv m x.nw).1,(x.row.mv m x.nw).2,x.go.trans m.goW⟩
def Yg.extb(x:Yg h w Y g Z N)(e:ExtB w g f)(r:Row f w):Yg h w Y f Z N:=⟨x.at_.extb e x.nw,x.gd,x.bs,x.ts,x.y,r,x.nw,x.go.trans e.goW⟩
def Yg.car{K:Ca}(x:Yg h w Y g Z N)(c:CAt h Y K)(n:w∉K.adr):CAt g Z K:=c.go x.y x.bs x.go (λa ha z=>(Å.mp z).elim (λe=>n<|e▸ha)<|c.off a ha) λ_=>Ý _
end
section
variable {Y:Yd}{K:Ca}{N:Nat}
def DP(hw:Row h w)(x:fX h Y)(gd:Y.cc.gd N)(hN:N<=4000)(nw:w∉Y.adr)(c:CAt h Y K)(U:w∉K.adr)(k:∀Z g,Yg h w Y g Z (N+4)->Q .non g):wF P (n+9) "_law_moved" [.ref w,.ref Y.y,Zr Y.bs Y.ts,.ref K.c] h Q X:=by
 have y0:Yg h w Y h Y N:=⟨x,gd,rfl,rfl,rfl,hw,nw,.of .refl⟩
 refine NL ?_;refine' Ze hw ↥1 ↥1 λr g1 r0 r1 x1 R=>?_;have y1:=y0.extb x1 R;refine' ig (λc1=>?_) (λc1=>?_)
 .refine' Ze R ↥1 ↥1 λs g2 s0 s1 x2 J=>?_;have I:=y1.extb x2 J;refine' ⟨⟨by lia,by lia⟩,?_⟩;refine Zh (λi en g=>Sm2 λv4 Z=>Cj2 (en=[fJ<|.ref w,fJ<|.ref Y.y,fJ<|Zr Y.bs Y.ts,fJ<|.ref K.c,v4])<|Yg h w Y g Z N) ⟨_,_,rfl,I⟩ (λ_ _ _ _ _=>trivial) ?_ ?_
  .rintro i v en g O ⟨v4,Z,rfl,z⟩ K1 hK;let⟨rfl,hi⟩:=YX O;fail;rw[<-z.y,<-z.bs,<-z.ts];refine JJ (λ_=>True) (λ_ _ _ _ _ _ _=>trivial) z.at_ z.gd trivial ↥0 (.inr ⟨K,rfl,z.car c U⟩) λV g3 m gv _ e1 e2=>?_;fail;rw[z.y,z.bs,z.ts];exact hK _ _ ⟨_,V,rfl,z.mv m (gv.more<|by lia) e1 e2⟩
  .rintro en g ⟨v4,Z,rfl,z⟩;refine' k Z g ⟨z.at_,z.gd.more ↥0,z.bs,z.ts,z.y,z.row,z.nw,z.go⟩
 refine' Ze R ↥1 ↥1 λs g2 s0 s1 x2 J=>?_;have I:=y1.extb x2 J;refine' ⟨⟨by lia,by lia⟩,?_⟩;refine Zh (λi en g=>Sm2 λv4 Z=>Cj2 (en=[fJ<|.ref w,fJ<|.ref Y.y,fJ<|Zr Y.bs Y.ts,fJ<|.ref K.c,v4])<|Yg h w Y g Z<|N+i) ⟨_,_,rfl,I⟩ (λ_ _ _ _ _=>trivial) ?_ ?_
 .rintro i v en g O ⟨v4,Z,rfl,z⟩ K1 hK;let⟨rfl,hi⟩:=YX O;have ci:=(z.car c U).ins
  exists .inl
  fail;rw[<-z.y,<-z.bs,<-z.ts];refine NW z.row z.at_ z.gd ↥0 z.nw λd g3 sd x3 w3=>?_;have z3:=z.extb x3 w3;refine' JK (d:=d) z3.at_ z.gd ↥0 sd (z3.car c U) λV g4 s m _=>?_;let⟨gv,e1,e2,_⟩:=WH z.gd s;fail;rw[z.y,z.bs,z.ts];exact hK _ _ ⟨_,V,rfl,z3.mv m gv e1 e2⟩
 .rintro en g ⟨v4,Z,rfl,z⟩;have hl:(gO 0<|1+s).length<=4:=by rw[WK];lia
  refine' k Z g ⟨z.at_,z.gd.more ↥0,z.bs,z.ts,z.y,z.row,z.nw,z.go⟩
def BQ(hw:Row h w)(x:fX h Y)(gd:Y.cc.gd N)(hN:N<=4000)(nw:w∉Y.adr)(k:∀Z g,Yg h w Y g Z (N+4)->Q .non g):wF P (n+9) "_law_worked" [.ref w,.ref Y.y,Zr Y.bs Y.ts] h Q X:=by
 refine MQ ?_;refine' ⟨⟨by decide,by decide⟩,?_⟩;refine Zh (λi en g=>Sm2 λI Z=>Cj2 (en=[fJ<|.ref w,fJ<|.ref Y.y,fJ<|Zr Y.bs Y.ts,I])<|Yg h w Y g Z N) ⟨_,_,rfl,⟨x,gd,rfl,rfl,rfl,hw,nw,.of .refl⟩⟩ (λ_ _ _ _ _=>trivial) ?_ ?_
 .rintro i v en g J ⟨v4,Z,rfl,z⟩ K1 R;let⟨rfl,hi⟩:=YX J;fail;rw[<-z.y,<-z.bs,<-z.ts];refine JJ (λ_=>True) (λ_ _ _ _ _ _ _=>trivial) z.at_ z.gd trivial ↥0 (.inl rfl) λV g3 m U _ e1 O=>?_;fail;rw[z.y,z.bs,z.ts];exact R _ _ ⟨_,V,rfl,z.mv m (U.more<|by lia) e1 O⟩
 rintro en g ⟨I,Z,rfl,z⟩;refine' Ze z.row ↥1 ↥1 λs g2 s0 s1 x2 w2=>?_;have y2:=z.extb x2 w2;refine' ⟨⟨by lia,by lia⟩,?_⟩;refine Zh (λi en g=>Sm2 λI Z=>Cj2 (en=[fJ<|.ref w,fJ<|.ref Y.y,fJ<|Zr Y.bs Y.ts,I])<|Yg h w Y g Z<|N+i) ⟨_,_,rfl,y2⟩ (λ_ _ _ _ _=>trivial) ?_ ?_
 .rintro i v en g J ⟨v4,Z,rfl,z⟩ K1 R;let⟨rfl,hi⟩:=YX J;have ci:=z.at_.ins;rw[z.y]at ci;fail;rw[<-z.y,<-z.bs,<-z.ts];refine NW z.row z.at_ z.gd ↥0 z.nw λd g3 sd x3 w3=>?_;have z3:=z.extb x3 w3;refine' Jq z3.at_ z.gd ↥0 sd λV g4 s m=>?_;let⟨U,e1,O,_⟩:=WH z.gd s;fail;rw[z.y,z.bs,z.ts];exact R _ _ ⟨_,V,rfl,z3.mv m U e1 O⟩
 .rintro en g ⟨v4,Z,rfl,z⟩;have hl:(gO 0 s).length<=4:=by rw[WK];lia
  refine' k Z g ⟨z.at_,z.gd.more ↥0,z.bs,z.ts,z.y,z.row,z.nw,z.go⟩
def MD(no:gh bs ts)(k:∀M g,M.ls.map (·.1)=bs->M.hl=[]->(∀L:Ca,L.line=[]->(∀b,L.hd b=[])->L.sent=0->MAt g L M)->(∀a∈M.adrs,h a=fK)->Ext h g->Q (.ref M.m) g):wF P (n+1) "_law_model" [Zr bs ts] h Q X:=by
 have b10:bs.length<=10:=no.ten;have nb:bs.Nodup:=no.up.imp λh=>by lia
 refine NI ?_;refine' Zd λm g1 hm x1 v=>?_;refine' Zd λml g2 s x2 O=>?_
 exists Z5
 refine' ⟨Ð (by rw[Á];exact b10) ↥1,?_⟩;refine NP (λ_=>trivial) bs λls g3 e3 x3 al nd=>?_;refine Zd λa g4 ha x4 ea=>?_;refine' UI (val:=rfV) ea (by rw[e3];exact nb) ?_;refine Zd λmd g5 U x5 e5=>?_;refine' Zd λmh g6 R x6 e6=>?_;fail;have I:=(x3.trans x4).trans x5;have d1:m≠ml:=Za v s;have d2:m≠md:=Za (x2.get v)<|Zc (x3.trans x4) U;have d3:m≠mh:=Za ((x2.trans I).get v) R;have d4:ml≠md:=Za O<|Zc (x3.trans x4) U;have d5:ml≠mh:=Za (I.get O) R;have d6:md≠mh:=Za e5 R;have d7:∀q∈ls,q.2≠m/\q.2≠ml/\q.2≠md/\q.2≠mh:=λq J=>⟨(Za (x2.get v) (al q J).2).symm,(Za O (al q J).2).symm,Za (x4.get (al q J).1) U,Za ((x4.trans x5).get (al q J).1) R⟩
 have n2:h ml=fK:=Zc x1 s;have n5:h md=fK:=Zc (((x1.trans x2).trans x3).trans x4) U;have n6:h mh=fK:=Zc ((x1.trans x2).trans I) R;refine fR (show pairUp _=fJ (mkv ⟨m,ml,md,mh,ls,[]⟩ 0) from rfl) ?_;refine⟨((x2.trans I).trans x6).get v,?_⟩;rw[show putAll [] (mkv ⟨m,ml,md,mh,ls,[]⟩ 0)=mkv ⟨m,ml,md,mh,ls,[]⟩ 0 from rfl];refine k ⟨m,ml,md,mh,ls,[]⟩ _ e3 rfl (λL l1 l2 l3=>⟨by rw[l3];exact fO,by rw[l1];exact(fN d1.symm).trans<|(I.trans x6).get O,(fN d2.symm).trans<|x6.get e5,λq J=>by rw[l2];exact(fN (d7 q J).1).trans<|((x4.trans x5).trans x6).get (al q J).1,(fN d3.symm).trans e6,Η _,?_,Η _⟩) (λa ha=>?_) ⟨λe=>?_⟩
 .refine ã.mpr ⟨by simp[d1,d2,d3,d4,d5,d6],nd,λc hc d hd z=>?_⟩;let⟨q,J,rfl⟩:=Ü.mp hd;let⟨q1,q2,q3,q4⟩:=d7 q J;simp![Å,Õ,or_false]at hc;rcases hc with rfl|rfl|rfl|rfl
  .exact q1 z.symm
  .exact q2 z.symm
  .exact q3 z.symm
  .exact q4 z.symm
 .rcases Ë.mp ha with ha|ha
  .rcases Ë.mp ha with ha|ha
   .simp![Å,Õ,or_false]at ha;rcases ha with rfl|rfl|rfl|rfl<;>assumption
   .obtain⟨q,J,rfl⟩:=Ü.mp ha;exact Zc (x1.trans x2) (al q J).2
  .cases ha
 .rw[fN<|Za e hm];exact(((x1.trans x2).trans I).trans x6).get e
end
structure Gw(bs:List Int)(ts:List Tie)(y c m:Ad)(M:Nat)(V:Wl):Prop where
 y:V.Y.y=y
 c:V.K.c=c
 m:V.M.m=m
 bs:V.Y.bs=bs
 ts:V.Y.ts=ts
 l:V.L=V.K
 gd:V.Y.cc.gd M
 b1:V.K.line.length<=16*M
 b2:∀b,(V.K.hd b).length<=M
 b3:V.M.hl.length<=2*M
abbrev upW(W:Bool->Wl)(c:Bool)(V:Wl):Bool->Wl:=λd=>if d=c then V else W d
abbrev Off(S:List<|Ad×Ob)(W:Bool->Wl)(a:Ad):Prop:=(∀d,a∉(W d).adrs)/\∀p∈S,p.1≠a
structure Two(bs:List Int)(ts:List Tie)(y c m:Bool->Ad)(S:List<|Ad×Ob)(h:Hs)(W:Bool->Wl)(M:Nat):Prop where
 at_:∀d,WAt h (W d)
 g:∀d,Gw bs ts (y d) (c d) (m d) M (W d)
 dj:∀d,∀a∈(W d).adrs,a∉(W (!d)).adrs
 aux:∀p∈S,h p.1=fJ p.2/\∀d,p.1∉(W d).adrs
def Gw.more{bs:List Int}{y c m:Ad}{V:Wl}(x:Gw bs ts y c m M V)(h:M<=N):Gw bs ts y c m N V:=⟨x.y,x.c,x.m,x.bs,x.ts,x.l,x.gd.more h,Ù x.b1 ↥0,λb=>Ù (x.b2 b) h,Ù x.b3<|by lia⟩
section
variable {bs:List Int}{ts:List Tie}{y c m:Bool->Ad}{S:List (Ad×Ob)}{h g:Hs}{W:Bool->Wl}{M N:Nat}{e:Bool}{w:Ad}
def Two.free(T:Two bs ts y c m S h W M)(ha:h a=fK):Off S W a:=⟨λd z=>(T.at_ d).taken z ha,λp hp=>Za (T.aux p hp).1 ha⟩
def Two.extb(T:Two bs ts y c m S h W M)(x:ExtB w h g)(o:Off S W w):Two bs ts y c m S g W M:=⟨λd=>(T.at_ d).extb x<|o.1 d,T.g,T.dj,λp hp=>⟨x.get (o.2 p hp) (T.aux p hp).1,(T.aux p hp).2⟩⟩
def Two.ext(T:Two bs ts y c m S h W M)(x:Ext h g):Two bs ts y c m S g W M:=⟨λd=>(T.at_ d).ext x,T.g,T.dj,λp hp=>⟨x.get (T.aux p hp).1,(T.aux p hp).2⟩⟩
def Two.put(T:Two bs ts y c m S h W M)(hp:h p=fK)(x:Ext h g)(e:g p=fJ o):Two bs ts y c m ((p,o)::S) g W M:=⟨λd=>(T.at_ d).ext x,T.g,T.dj,λq I=>by
  rcases Å.mp I with rfl|I
  . exact⟨e,(T.free hp).1⟩
  . exact⟨x.get (T.aux q I).1,(T.aux q I).2⟩⟩
def Two.more(T:Two bs ts y c m S h W M)(x:M<=N):Two bs ts y c m S h W N:=⟨T.at_,λd=>(T.g d).more x,T.dj,T.aux⟩
def Two.step(T:Two bs ts y c m S h W M)(x:WAt g V)(q:Gw bs ts (y e) (c e) (m e) N V)(s:M<=N)(ex:Ex A h g)(U:∀a∈A,a∈(W e).adrs\/Off S W a)(J:∀a∈V.adrs,a∈(W e).adrs\/h a=fK):Two bs ts y c m S g (upW W e V) N/\∀a,h a≠fK->Off S W a->Off S (upW W e V) a:=by
 have ne:∀d,¬ d=e->e=!d:=λd h=>by cases d<;>cases e<;>first|rfl|exact iM rfl h
 have k:∀d,¬ d=e->∀a∈(W d).adrs,a∉A:=λd hd a ha z=>(U a z).elim (λu=>T.dj d a ha<|ne d hd▸u) λu=>u.1 d ha;have off:∀a,h a≠fK->a∉(W e).adrs->a∉V.adrs:=λa ha na z=>(J a z).elim na ha;refine⟨⟨λd=>?_,λd=>?_,λd a ha=>?_,λp hp=>?_⟩,λa ha o=>⟨λd=>?_,o.2⟩⟩<;>unfold upW at *
 .split
  .exact x
  .rename_i hd;exact(T.at_ d).keep ex<|k d hd
 .split
  .rename_i hd;rw[hd];exact q
  .exact(T.g d).more s
 .split at ha
  .rename_i hd;rw[iI<|by rw[hd];cases e<;>nofun];intro z;rw[<-hd]at J;exact(J a ha).elim (λu=>T.dj d a u z)<|(T.at_ _).taken z
  .rename_i hd;rw[<-ne d hd,iH rfl];exact off a ((T.at_ d).taken ha) λz=>T.dj d a ha<|ne d hd▸z
 .obtain⟨R,I⟩:=T.aux p hp;have na:h p.1≠fK:=by rw[R];nofun
  refine⟨ex.get (λz=>(U _ z).elim (I e) λu=>u.2 p hp rfl) R,λd=>?_⟩;split
  .exact off _ na<|I e
  .exact I d
 .split
  .exact off a ha<|o.1 e
  .exact o.1 d
end
section
variable {N:Nat}{bs:List Int}{ts:List Tie}{y c m:Bool->Ad}{S:List (Ad×Ob)}{W:Bool->Wl}{M:Nat}
abbrev gj(S:List<|Ad×Ob)(h:Hs)(W:Bool->Wl)(g:Hs)(V:Bool->Wl):Prop:=∀a o,Off S W a->h a=fJ o->Off S V a/\g a=fJ o
def Sb(T:Two bs ts y c m S h W M)(e:Bool){b:Int}(I:((W e).Y.cc.br.lookup b).isSome=fL)(hM:M<=5000)(k:∀g V,Two bs ts y c m S g V (M+1)->gj S h W g V->(V e).Y=(W e).Y->Q (.bl fL) g):wF P (n+9) "_law_sent" [.ref<|m e,.ref<|y e,Zr bs ts,.ref<|c e,.int b] h Q X:=by
 have q:=T.g e;have x:=T.at_ e;have st:=λ{g V A}=>@Two.step bs ts y c m S h g W M (M+1) e V A T;generalize R:W e=V at q x I st;let⟨Y,K,L,Z⟩:=V;have O:L=K:=q.l;subst O;rw[<-q.y,<-q.c,<-q.m,<-q.bs,<-q.ts];have b1:L.line.length<=16*M:=q.b1;have b2:∀b,(L.hd b).length<=M:=q.b2;have ol:(ZE Y.cc Y.cc.ts.length).length<=16:=Ù (YB _) q.gd.no.sixteen;refine HB x q.gd I (show L.line.length+16<=500000 by lia) (λb=>show(L.hd b).length+1<=500000 by have:=b2 b;lia) λg K' hK s ex=>?_;subst hK;have sub:∀a∈L.adr++Z.adr,a∈Wl.adrs ⟨Y,L,L,Z⟩:=λa ha=>(Ë.mp ha).elim (λz=>Wl.in2 (V:=⟨Y,L,L,Z⟩) z) λz=>Wl.in3 (V:=⟨Y,L,L,Z⟩)<|Ê _ z;let⟨t1,v⟩:=st s ⟨q.y,q.c,q.m,q.bs,q.ts,rfl,q.gd.more ↥0,by
   show(L.line++(gw (ZE Y.cc Y.cc.ts.length) (b,fK)).map _).length<=_
   rw[á,Á]
   have:(gw (ZE Y.cc Y.cc.ts.length) (b,fK)).length<=(ZE Y.cc Y.cc.ts.length).length:=ě _ _
   lia,λx=>by
   show(JN L.hd b _ x).length<=_
   have:=b2 x
   unfold JN
   split
   . rw[á,ν];lia
   . lia,by have:=q.b3;show Z.hl.length<=_;have:Z.hl.length<=2*M:=this;lia⟩ ↥0 ex (λa ha=>.inl<|sub a ha) λa ha=>.inl ha
 refine k g _ t1 (λa o J U=>⟨v a (by rw[U];nofun) J,ex.get (λz=>J.1 e<|by rw[R];exact sub a z) U⟩) ?_;unfold upW;rw[iH rfl,R]
def Jp(T:Two bs ts y c m S h W M)(e:Bool)(z:M<=5000)(k:∀g V,Two bs ts y c m S g V (M+1)->gj S h W g V->Q (.bl fL) g):wF P (n+3) "_law_stands" [.ref<|m e,Zr bs ts,.ref<|c e] h Q X:=by have q:=T.g e;have x:=T.at_ e;have st:=λ{g V A}=>@Two.step bs ts y c m S h g W M (M+1) e V A T;generalize v:W e=V at q x st;let⟨Y,K,L,Z⟩:=V;have s:L=K:=q.l;subst s;rw[<-q.c,<-q.m,<-q.bs,<-q.ts];have b1:L.line.length<=16*M:=q.b1;have b2:∀b,(L.hd b).length<=M:=q.b2;have b3:Z.hl.length<=2*M:=q.b3;refine B3 x q.gd (show L.line.length<=400000 by lia) (λb=>show(L.hd b).length<=400000 by have:=b2 b;lia) (show Z.hl.length<=400000 by lia) λg l hl R m=>?_;let⟨t1,U⟩:=st R ⟨q.y,q.c,q.m,q.bs,q.ts,rfl,q.gd.more ↥0,by show L.line.length<=_;lia,λx=>Nat.le_succ_of_le<|b2 x,by have hl:l.length=Z.hl.length+2:=hl;show l.length<=_;lia⟩ ↥0 m.ex (λa ha=>.inl ha) m.nw;exact k g _ t1 λa o I J=>⟨U a (by rw[J];nofun) I,m.ex.get (by rw[<-v];exact I.1 e) J⟩
def PY(T:Two bs ts y c m S h W M)(e:Bool)(hM:M<=4000)(k:∀g V,Two bs ts y c m S g V M->gj S h W g V->Q .non g):wF P (n+8) "_law_round" [.ref<|y e,Zr bs ts,.ref<|c e] h Q X:=by have q:=T.g e;have x:=T.at_ e;have st:=λ{g V A}=>@Two.step bs ts y c m S h g W M M e V A T;rw[<-q.y,<-q.c,<-q.bs,<-q.ts];refine JJ (λ_=>True) (λ_ _ _ _ _ _ _=>trivial) x.y q.gd trivial ↥0 (.inr ⟨_,rfl,x.c⟩) λZ g mv v _ R O=>?_;have U:=x.go mv.at_ mv.y R mv.go (λa ha=>.inl ha) λa ha=>ha;let⟨t1,s⟩:=st U ⟨mv.y.trans q.y,q.c,q.m,R.trans q.bs,O.trans q.ts,q.l,v.more ↥0,q.b1,q.b2,q.b3⟩ (Ì _) mv.ex (λa ha=>.inl<|Wl.in1 ha) λa ha=>(Ë.mp ha).elim (λz=>(mv.nw a z).imp Wl.in1 id) λz=>.inl<|Ç _ z;exact k g _ t1 λa o I J=>⟨s a (by rw[J];nofun) I,mv.ex.get (λz=>I.1 e<|Wl.in1 z) J⟩
def PK(T:Two bs ts y c m S h W M)(hw:Row h w)(o:Off S W w)(e:Bool)(J:M<=4000)(k:∀g V,Two bs ts y c m S g V (M+4)->Q .non g):wF P (n+9) "_law_moved" [.ref w,.ref<|y e,Zr bs ts,.ref<|c e] h Q X:=by have q:=T.g e;have x:=T.at_ e;have st:=λ{g V A}=>@Two.step bs ts y c m S h g W M (M+4) e V A T;rw[<-q.y,<-q.c,<-q.bs,<-q.ts];refine DP hw x.y q.gd J (λz=>o.1 e<|Wl.in1 z) x.c (λz=>o.1 e<|Wl.in2 z) λZ g u=>?_;have I:=x.go u.at_ u.y u.bs u.go (λa ha=>(Å.mp ha).elim (λz=>.inr<|z▸o.1 e) .inl) λa ha=>Ý _ ha;have b1:(W e).K.line.length<=16*M:=q.b1;have b3:(W e).M.hl.length<=2*M:=q.b3;let⟨t1,R⟩:=st I ⟨u.y.trans q.y,q.c,q.m,u.bs.trans q.bs,u.ts.trans q.ts,q.l,u.gd,Ù b1 ↥0,λb=>Ù (q.b2 b) ↥0,Ù b3<|by lia⟩ ↥0 u.go.ex (λa ha=>(Å.mp ha).elim (λz=>.inr<|z▸o) λz=>.inl<|Wl.in1 z) λa ha=>(Ë.mp ha).elim (λz=>(u.go.nw a<|Ý _ z).elim (λz2=>(Å.mp z2).elim (λz3=>iM z<|z3▸u.nw) λz3=>.inl<|Wl.in1 z3) .inr) λz=>.inl<|Ç _ z;exact k g _ t1
def Wl.out{V:Wl}(a:p∉V.Y.adr)(b:p∉V.K.adr)(c:p∉V.M.adrs):p∉V.adrs:=λz=>by
 rcases Ë.mp z with z|z
 .exact a z
 rcases Ë.mp z with z|z
 .exact b z
 .exact c z
def Ec{K:Ca}(x:CAt h Y K)(nb:Y.bs.Nodup)(I:isiAny h v ["int"]=fJ fM\/isiAny h v ["bool"]=fJ fL/\isiAny h v ["int"]=fJ fL\/∃i:Int,v=.int i/\i∉Y.bs)(k:∀p g,h p=fK->Ext h g->g p=fJ (.lst [])->Q (.ref p) g):wF P (n+2) "Carrier.came" [.ref K.c,v] h Q X:=by
 rcases I with I|⟨h1,h2⟩|⟨i,rfl,hi⟩
 .refine Yp ?_
  exists Yo
  exists Fg I
  walk_at "p";exact Zd k
 .refine Yp ?_
  exists Yo
  exists Fg h2
  walk_at "p";refine Fg h1 ?_;walk_at "p";exact Zd k
 .refine MI x (by rw[x.key];exact nb) λp g hp e J=>?_;rw[iI hi]at J;exact k p g hp e J
end
section
variable {N:Nat}
def Ps{f:Bool->Ad}(e:Bool):atI [rfV<|f fM,rfV<|f fL] (if e=fL then 1 else 0)=fJ (rfV<|f e):=by cases e<;>rfl
def Xi{f:Bool->Ad}{e:Bool}{K:Val->Prop}(I:h a=fJ (.lst [rfV<|f fM,rfV<|f fL]))(q:K<|rfV<|f e):go (gU h (.ref a)<|.int<|if e=fL then 1 else 0) K:=Z8 I (Ps e) q
def FS(h:ns≠[])(up:ns.Pairwise (· < ·)):∃b,atI (ns.map Val.int) (-1)=fJ (.int b)/\b∈ns/\∀x∈ns,x<=b:=by
 let⟨l,b,rfl⟩:=(List.eq_nil_or_concat ns).resolve_left h;rw[List.concat_eq_append]at up ⊢;refine⟨b,?_,by simp,λx I=>?_⟩
 .unfold atI ixN;rw[iI ↥1,Á,á,ν,iH ↥0,ê,show(-1+((l.length+1:Nat):Int)).toNat=l.length by lia,Ø,List.getElem?_concat_length];rfl
 .rcases Ë.mp I with I|I
  .exact Int.le_of_lt ((Ϟ.mp up).2.2 x I b<|by simp)
  .rw[Ó.mp I];exact Ϧ _
abbrev tl:Nat->Ss->Ss
 |0,s=>s
 |k+1,.cons _ r=>tl k r
 |_+1,.nil=>.nil
abbrev WW(a b:α):Bool->α:=λd=>if d=fL then b else a
abbrev U9:Ss->Ss
 |.cons (.for _ _ b) _=>b
 |_=>.nil
def Cq{ks:List Int}{t tt:Int}(e:t*(if(!(ks.map Val.int).isEmpty)=fL then 1 else 0)=tt)(t0:0<=t)(t1:t<3):0<=tt/\tt<=2/\(0<tt->0<ks.length):=by
 subst e;cases ks with
 |nil=>exact⟨by simp,by simp,by simp⟩
 |cons a l=>exact⟨by simp;lia,by simp;lia,λ_=>Nat.succ_pos _⟩
def M4{u:Ad}{O:Prop}(x:Row g u)(k:∀o,g u=fJ o->O/\h u=fJ o):O/\Row h u:=by let⟨a,b,e,z⟩:=x;exact⟨(k _ e).1,a,b,(k _ e).2,z⟩
def Ih{bs:List Int}{W:Bool->Wl}(hi:i<41)(T:Two bs ts yy kk mm A h W<|10*i+4)(gM:∀{g W N},Two bs ts yy kk mm A g W N->g pm=fJ (.lst [rfV<|mm fM,rfV<|mm fL]))(gC:∀{g W N},Two bs ts yy kk mm A g W N->g pc=fJ (.lst [rfV<|kk fM,rfV<|kk fL]))(gY:∀{g W N},Two bs ts yy kk mm A g W N->g py=fJ (.lst [rfV<|yy fM,rfV<|yy fL])){K1' B C:NQ}{R:Q1}(hK:∀v1 v9 v10 dQ g W,Two bs ts yy kk mm A g W (10*(i+1)+4)->K1' [fJ<|.scr ns,v1,fJ<|Zr bs ts,fJ<|.int<|4+r,fJ<|.ref py,fJ<|.ref pc,fJ<|.ref pm,fJ<|.int i,fJ<|.int c,v9,v10,dQ,fK] g):wSs (wF P<|n+10) (U9<|tl 7 zY.body) [fJ<|.scr ns,v1,fJ<|Zr bs ts,fJ<|.int<|4+r,fJ<|.ref py,fJ<|.ref pc,fJ<|.ref pm,fJ<|.int i,fJ<|.int c,v9,v10,dQ,fK] h K1' R B C X':=by
 dsimp only[tl,U9,zY];refine' U4 λu h1 hu a1 u1=>?_;have J:=T.free hu
 replace T:=T.ext a1
 refine' Ze u1 ↥1 ↥1 λs h2 s0 s1 a2 u2=>?_
 replace T:=T.extb a2 J
 fail;generalize iN (s=1)=e;have ay:=gY T;have ac:=gC T;have am:=gM T;have yi:=(T.at_ e).y.ins;rw[(T.g e).y]at yi;refine Xi ay ?_;fail;rw[<-(T.g e).y];refine Mb (T.at_ e).y (T.g e).gd λp1 h3 bC a3 e3=>?_;have oP1:=T.free bC
 replace T:=T.ext a3
 have O:(W e).Y.cc.keys.length<=10:=by rw[OW];exact(T.g e).gd.ten
 generalize I:(W e).Y.cc.keys=ks at O;refine' ⟨Ð (by unfold GS;rw[I,Á];exact O) ↥1,?_⟩;unfold GS at e3 ⊢;rw[I]at e3 ⊢;refine EM (l:=ks) Val.int (lsE e3) (λb _ K hK=>?_) ?_
 .walk_at "p";exact hK
 refine Zd λpu h4 hpu a4 e4=>?_;have U:=T.free hpu;have k:pu≠u:=λz=>(u2.ext a3).ne hpu z.symm
 replace T:=T.ext a4
 have u4:=(u2.ext a3).ext a4;refine' Ze u4 ↥1 ↥1 λt h5 t0 t1 a5 u5=>?_
 replace T:=T.extb a5 J
 have e5:=a5.get k e4;refine' Zd λpe h6 hpe a6 e6=>?_
 replace T:=T.ext a6
 refine c_neE (a6.get e5) e6 ?_;have u6:=u5.ext a6;have e6':=a6.get e5;fail;generalize ett:t*(if(!(ks.map Val.int).isEmpty)=fL then 1 else 0)=tt;have tt0:=(Cq ett t0 t1).1;have tt1:=(Cq ett t0 t1).2.1;have ttk:=(Cq ett t0 t1).2.2;refine' ⟨⟨by lia,by lia⟩,?_⟩;refine Zh (λj en g=>Sm2 λdQ V=>Cj7 (en=[fJ<|.scr ns,fJ<|.ref u,fJ<|Zr bs ts,fJ<|.int<|4+r,fJ<|.ref py,fJ<|.ref pc,fJ<|.ref pm,fJ<|.int i,fJ<|.int c,fJ<|.int<|if e=fL then 1 else 0,fJ<|.ref pu,dQ,fK]) (Two bs ts yy kk mm A g V<|10*i+4+j) ((V e).Y.cc.keys=ks) (Row g u) (Off A V u) (g pu=fJ (.lst<|ks.map .int))<|Off A V pu) ⟨_,W,rfl,T,I,u6,J,e6',U⟩ (λ_ _ _ _ _=>trivial) ?_ ?_
 .rintro j v en g hv ⟨dQ,V,rfl,T,I,ug,J,eu,U⟩ K2 hK2;let⟨rfl,hj⟩:=YX hv;have ay:=gY T;have ac:=gC T;have am:=gM T;have hk0:=ttk ↥0
  exists Xi am
  exists Xi ay
  exists Xi ac
  fail;have kl:(ks.map Val.int).length=ks.length:=Á _;rw[kl];refine Ze ug ↥0 ↥0 λq h7 q0 q1 a7 u7=>?_
  replace T:=T.extb a7 J
  have k:pu≠u:=k;have e7:=a7.get k eu;let⟨b,hb,eb⟩:=pick (ns:=ks) q0 q1;refine Z8 e7 eb ?_;refine' Sb T e (keys_mem.mp<|by rw[I];exact hb) ↥0 λh8 V' T' kp ey=>?_;walk_at "p";have k1:=M4 u7 λo=>kp _ o J;have k2:=kp _ _ U e7;exact hK2 _ _ ⟨_,V',rfl,T',by rw[ey];exact I,k1.2,k1.1,k2.2,k2.1⟩
 .rintro en g ⟨dQ,V,rfl,T,I,ug,J,eu,U⟩;have jl:(gO 0 tt).length<=2:=by rw[WK];lia
  have T:=T.more (N:=10*i+6) ↥0;have ay:=gY T;have ac:=gC T;have am:=gM T;refine' Jp T fM ↥0 λh8 V1 T1 kp=>?_;have k1:=M4 ug λo=>kp _ o J;have ac:=gC T1;have am:=gM T1;walk_at "p";refine Jp T1 fL ↥0 λh9 V2 T2 kp=>?_;have k2:=M4 k1.2 λo=>kp _ o k1.1;have ay:=gY T2;have ac:=gC T2;have am:=gM T2;have mv:∀(h:Hs) (V:Bool->Wl) R B C X',Two bs ts yy kk mm A h V (10*i+8)->Row h u->Off A V u->wSs (wF P<|n+10) #[.expr<|.call "_law_moved" #[.var 1,.idx (.var 4)<|.var 9,.var 2,.idx (.var 5)<|.var 9]] [fJ<|.scr ns,fJ<|.ref u,fJ<|Zr bs ts,fJ<|.int<|4+r,fJ<|.ref py,fJ<|.ref pc,fJ<|.ref pm,fJ<|.int i,fJ<|.int c,fJ<|.int<|if e=fL then 1 else 0,fJ<|.ref pu,dQ,fK] h K1' R B C X':=λh V R B C X' T hu J=>by
   have ay:=gY T;have ac:=gC T
   exists Xi ay
   exists Xi ac
   refine' PK T hu J e ↥0 λh9 V' T'=>?_;refine' hK _ _ _ _ _ V' (T'.more<|by lia)
  walk_at "p";refine ig (λc9=>?_) λc9=>?_
  .exists Xi ay
   exists Xi ac
   refine' PY T2 e ↥0 λha V3 T3 kp=>?_;have k3:=M4 k2.2 λo=>kp _ o k2.1;exact mv _ _ _ _ _ _ T3 k3.2 k3.1
  .exact mv _ _ _ _ _ _ T2 k2.2 k2.1
def Gf{bs:List Int}{W:Bool->Wl}{v7 v8:Option Val}(no:gh bs ts)(T:Two bs ts yy kk mm A h W 500)(gM:∀{g W N},Two bs ts yy kk mm A g W N->g pm=fJ (.lst [rfV<|mm fM,rfV<|mm fL]))(O:∀{g W N},Two bs ts yy kk mm A g W N->g pc=fJ (.lst [rfV<|kk fM,rfV<|kk fL])){N B C:NQ}(k:∀g,Q (.bl fL) g):wSs (wF P<|n+10) (tl 8 zY.body) [fJ<|.scr ns,v1,fJ<|Zr bs ts,fJ<|.int<|4+r,fJ<|.ref py,fJ<|.ref pc,fJ<|.ref pm,v7,v8,v9,v10,dQ,fK] h N Q B C X':=by
 dsimp only[tl,zY];have ac:=O T;let⟨bl,al,bm,bx⟩:=FS (ns:=bs) (List.ne_nil_of_length_pos no.one) no.up;let⟨bf,fm,af⟩:=pick (ns:=bs) (r:=0) ↥1 (by have:=no.one;lia)
 exists Z5
 exists fS af
 refine' Zd λo1 h1 ho1 a1 e1=>?_;fail;intro o2 dL;have a2:=Ext.new (o:=.dct []) dL;have e2:upd h1 o2 (.dct []) o2=fJ (.dct []):=fO;generalize upd h1 o2 (.dct [])=h2 at a2 e2 ⊢
 exists Z5
 exists fS af
 exists Z5
 exists fS al
 refine' Zd λo3 h3 ho3 a3 e3=>?_;refine' Zd λo4 h4 ho4 a4 e4=>?_;fail;have T4:=T.ext<|((a1.trans a2).trans a3).trans a4;have e14:=((a2.trans a3).trans a4).get e1;have e24:=(a3.trans a4).get e2;refine Zh (λi en g=>Sm1 λJ=>Cj2 (en=[fJ<|.scr ns,v1,fJ<|Zr bs ts,fJ<|.int<|4+r,fJ<|.ref py,fJ<|.ref pc,fJ<|.ref pm,v7,v8,v9,v10,dQ,J])<|Ext h4 g) ⟨_,rfl,.refl⟩ (λ_ _ _ _ ⟨_,_,z⟩=>lsE<|z.get e4) ?_ ?_
 .rintro i v en R hv ⟨J,rfl,a5⟩ K2 hK;have I:=T4.ext a5;have ac:=O I;have ci:=(I.at_ fM).c.ins;rw[(I.g fM).c]at ci;have neg:(-1:Int)∉bs:=λz=>by have:=no.rng _ z;lia
  have big:bl+1∉bs:=λz=>by have:=bx _ z;lia
  have U:∀{a:Ad}{xs:List Val},h4 a=fJ (.lst xs)->isiAny R (.ref a) ["int"]=fJ fM:=λe=>by unfold isiAny isiAny iF iE;simp![a5.get e];rfl
  have s:isiAny R (.ref o2) ["int"]=fJ fM:=by unfold isiAny isiAny iF iE;simp![a5.get e24];rfl
  have hm:=é hv;have odd:isiAny R v ["int"]=fJ fM\/isiAny R v ["bool"]=fJ fL/\isiAny R v ["int"]=fJ fL\/∃i:Int,v=.int i/\i∉(W fM).Y.bs:=by
   rw[(T.g fM).bs];simp![Å,Õ,or_false]at hm;rcases hm with rfl|rfl|rfl|rfl|rfl|rfl|rfl|rfl|rfl|rfl
   .exact .inl rfl
   .exact .inr<|.inl ⟨rfl,rfl⟩
   .exact .inr<|.inl ⟨rfl,rfl⟩
   .exact .inl rfl
   .exact .inl<|U e14
   .exact .inl s
   .exact .inl rfl
   .exact .inr<|.inr ⟨_,rfl,neg⟩
   .exact .inr<|.inr ⟨_,rfl,big⟩
   .exact .inl rfl
  fail;rw[<-(I.g fM).c];refine Ec (I.at_ fM).c ((I.g fM).gd.no.up.imp λh=>by lia) odd λp6 h6 hp6 a6 e6=>?_;refine' Zd λp7 h7 hp7 a7 e7=>?_;refine c_neE (a7.get e6) e7 ?_;walk_at "p";exact hK _ _ ⟨_,rfl,(a5.trans a6).trans a7⟩
 .rintro en R ⟨J,rfl,a5⟩;have I:=T4.ext a5;have ac:=O I;have am:=gM I;refine' Jp I fM ↥1 λh8 V1 T1 kp=>?_;have ac:=O T1;have am:=gM T1;walk_at "p";exact Jp T1 fL ↥1 λh9 V2 T2 kp=>k h9
def law_ok(h63:ns.length<=63)(k:∀g,Q (.bl fL) g):wF P (n+11) "law" [.scr ns] h Q X:=by
 refine Rh ?_;refine' Ac (k:=0) λc0=>?_;refine' U4 λw g1 hw x1 w1=>?_;refine' Q6 w1 λbs ts g2 no x2 w2=>?_;refine' Ze w2 ↥1 ↥1 λr g3 r0 r1 x3 w3=>?_;fail;intro p0 hp0;refine OJ no hp0 λY0 g4 e4 y4 cc4 fr4 x4=>?_;subst e4;refine⟨rfl,?_⟩;fail;intro p1 bC;refine OJ no bC λJ g5 e5 y5 cc5 fr5 x5=>?_;subst e5;refine⟨rfl,?_⟩;refine' Zd λpy g6 hpy x6 ey=>?_;have b0:Y0.bs=bs:=congrArg Yc.bs cc4;have t0:Y0.ts=ts:=congrArg Yc.ts cc4;have b1:J.bs=bs:=congrArg Yc.bs cc5;have t1:J.ts=ts:=congrArg Yc.ts cc5;have gd0:Y0.cc.gd 0:=by rw[cc4];exact Av no
 have gd1:J.cc.gd 0:=by rw[cc5];exact Av no
 have xw:=(x4.trans x5).trans x6;have w6:=w3.ext xw;have y06:=y4.ext<|x5.trans x6;have y16:=y5.ext x6;refine' Ze w6 ↥1 ↥1 λr2 g7 r20 r21 x7 w7=>?_;have U:w∉Y0.adr:=λz=>w3.ne (fr4 w z) rfl;have I:w∉J.adr:=λz=>(w3.ext x4).ne (fr5 w z) rfl;have npw:py≠w:=λz=>((w3.ext x4).ext x5).ne hpy z.symm;have n01:∀a∈Y0.adr,a∉J.adr:=λa h0 h1=>y4.taken h0<|fr5 a h1;have npY0:py∉Y0.adr:=λz=>(y4.ext x5).taken z hpy;have npY1:py∉J.adr:=λz=>y5.taken z hpy;have mid:∀(R:Yd) (g:Hs) (v1:Option Val),fX g R->R.y=Y0.y->R.bs=bs->R.ts=ts->R.cc.gd 4->fX g J->(∀a∈R.adr,a∉J.adr)->g py=fJ (.lst [.ref Y0.y,.ref J.y])->py∉R.adr->wSs (wF P<|n+10) (tl 5 zY.body) [fJ<|.scr ns,v1,fJ<|Zr bs ts,fJ<|.int<|4+r,fJ<|.ref py,fK,fK,fK,fK,fK,fK,fK,fK] g (λ_ g=>Q .non g) Q (λ_ _=>False) (λ_ _=>False) λ_ c g=>X c g:=by
  intro R gA v1 yA ez eb et gz y1A dj ey nz;dsimp only[tl,zY];fail;intro k0 hk0;rw[<-ez];refine NS yA gz hk0 λgB O eK yB cB l0 q0 s0 xB fB=>?_;subst eK;refine⟨rfl,?_⟩;fail;intro k1 hk1;refine NS (y1A.ext xB) gd1 hk1 λgC s eK yC cC l1 q1 s1 xC fC=>?_;subst eK;refine⟨rfl,?_⟩;refine' Zd λpc gD hpc xD ec=>?_;refine' MD no λM0 gE k0 m0 a0 fE xE=>?_;refine' MD no λM1 gF k1 m1 a1 fF xF=>?_;have xCF:=(xD.trans xE).trans xF;have xBF:=xC.trans xCF;have xAF:=xB.trans xBF
  let W:Bool->Wl:=WW ⟨R,O,O,M0⟩ ⟨J,s,s,M1⟩
  have T:Two bs ts (WW R.y J.y) (WW O.c s.c) (WW M0.m M1.m) [(pc,.lst [.ref O.c,.ref s.c]),(py,.lst [.ref R.y,.ref J.y])] gF W 4:=by
   have tY0:∀{a},a∈R.adr->gA a≠fK:=λh=>yA.taken h;have tY1:∀{a},a∈J.adr->gA a≠fK:=λh=>y1A.taken h;have tK0:∀{a},a∈O.adr->gB a≠fK:=λh=>by let⟨o,ho⟩:=cB.taken h;rw[ho];nofun
   have tK1:∀{a},a∈s.adr->gC a≠fK:=λh=>by let⟨o,ho⟩:=cC.taken h;rw[ho];nofun
   have mA0:=a0 O l0 q0 s0;have mA1:=a1 s l1 q1 s1;have xDE:=xD.trans xE;have xCD:=xC.trans xD;have xBD:=xB.trans xCD;have xCE:=xC.trans xDE;have xBE:=xB.trans xCE;have xBC:=xB.trans xC;have sp:∀{g f:Hs}{a:Ad}{S:List Ad},Ext g f->g a≠fK->(∀b∈S,f b=fK)->a∉S:=λ{g f a S} x e z m=>e<|Zc x<|z a m;have d:∀a∈(⟨R,O,O,M0⟩:Wl).adrs,a∉(⟨J,s,s,M1⟩:Wl).adrs:=λa ha=>by
    rcases Ë.mp ha with ha|ha
    .exact Wl.out (dj a ha) (sp xB (tY0 ha) fC)<|sp xBE (tY0 ha) fF
    rcases Ë.mp ha with ha|ha
    .exact Wl.out (λz=>tY1 z<|fB a ha) (sp .refl (tK0 ha) fC)<|sp xCE (tK0 ha) fF
    .exact Wl.out (λz=>sp xBD (tY1 z) fE ha) (λz=>sp xD (tK1 z) fE ha) λz=>mA0.taken ha<|fF a z
   have py0:gA py≠fK:=by rw[ey];nofun
   have pc0:gD pc≠fK:=by rw[ec];nofun
   refine⟨λe=>?_,λe=>?_,λe=>?_,λp hp=>?_⟩
   .cases e
    .exact⟨yA.ext xAF,cB.ext xBF,mA0.keep (S:=[]) (.of xF) λ_ _=>Õ,λa ha z=>sp xBD (tY0 z) fE ha,λa ha z=>sp xCD (tK0 z) fE ha,k0.trans eb.symm⟩
    .exact⟨y1A.ext xAF,cC.ext xCF,mA1,λa ha z=>sp xBE (tY1 z) fF ha,λa ha z=>sp xDE (tK1 z) fF ha,k1.trans b1.symm⟩
   .cases e
    .exact⟨rfl,rfl,rfl,eb,et,rfl,gz,by dsimp only[W,WW];simp[l0],λb=>by dsimp only[W,WW];simp[q0],by dsimp only[W,WW];simp[m0]⟩
    .exact⟨rfl,rfl,rfl,b1,t1,rfl,gd1.more ↥1,by dsimp only[W,WW];simp[l1],λb=>by dsimp only[W,WW];simp[q1],by dsimp only[W,WW];simp[m1]⟩
   .cases e
    .exact d
    .exact λa ha z=>d a z ha
   .rcases Å.mp hp with rfl|hp
    .refine⟨(xE.trans xF).get ec,λe=>?_⟩;cases e
     .exact Wl.out (λz=>tY0 z<|Zc xBC hpc) (λz=>tK0 z<|Zc xC hpc)<|sp .refl pc0 fE
     .exact Wl.out (λz=>tY1 z<|Zc xBC hpc) (λz=>tK1 z hpc)<|sp xE pc0 fF
    .rw[Ó.mp hp];refine⟨xAF.get (by rw[ez];exact ey),λe=>?_⟩;cases e
     .exact Wl.out nz (sp .refl py0 fB)<|sp xBD py0 fE
     .exact Wl.out npY1 (sp xB py0 fC)<|sp xBE py0 fF
  refine' Zd λpm gG hpm xG em=>?_
  replace T:=T.put hpm xG em
  refine' Ac (k:=0) λc1=>?_;refine' Zd λq1 gH hq1 xH eq1=>?_;refine' Zd λq2 gI hq2 xI eq2=>?_;have cl:(cut (ns.map Val.int) (fJ 1)<|fJ 41).length<=40:=by rw[QK ↥1 ↥1,ą];exact Nat.min_le_left _ _
  refine EO (xI.get eq1) eq2 (Ù (show _<=41 by rw[á];exact ϯ cl 1)<|by decide) ?_;refine Zd λps gJ hps xJ es=>?_
  replace T:=T.ext<|(xH.trans xI).trans .refl
  replace T:=T.put hps xJ es
  generalize hcs:(c1::cut ns (fJ 1) (fJ 41))=cs at T es;have ecs:[Val.int c1]++cut (ns.map Val.int) (fJ 1) (fJ 41)=cs.map Val.int:=by rw[<-hcs,Fj];rfl
  have lcs:cs.length<=41:=by have:=congrArg List.length ecs;rw[á,Á]at this;rw[<-this];exact ϯ cl 1
  rw[ecs]at T es
  exists SR es
  refine Zh (λi en g=>∃v1 v7 v8 v9 v10 dQ W,en=[fJ<|.scr ns,v1,fJ<|Zr bs ts,fJ<|.int<|4+r,fJ<|.ref py,fJ<|.ref pc,fJ<|.ref pm,v7,v8,v9,v10,dQ,fK]/\Two bs ts (WW R.y J.y) (WW O.c s.c) (WW M0.m M1.m) [(ps,.lst<|cs.map .int),(pm,.lst [.ref M0.m,.ref M1.m]),(pc,.lst [.ref O.c,.ref s.c]),(py,.lst [.ref R.y,.ref J.y])] g W (10*i+4)) ⟨_,_,_,_,_,_,W,rfl,T⟩ (λ_ _ _ _ ⟨_,_,_,_,_,_,_,_,T⟩=>lsE (T.aux _<|.head _).1) ?_ ?_
  .rintro i v en g hv ⟨v1,v7,v8,v9,v10,dQ,W,rfl,T⟩ K1' hK;let⟨z,hz,rfl⟩:=WG hv;let⟨c,hc,rfl⟩:=ZI hz;have hi:=(Ô.mp hc).1;rw[η];refine fR rfl ?_;exact Ih ↥0 T (λT=>(T.aux _<|.tail _<|.head _).1) (λT=>(T.aux _<|.tail _<|.tail _<|.head _).1) (λT=>(T.aux _<|.tail _<|.tail _<|.tail _<|.head _).1) λ_ _ _ _ _ _ T=>hK _ _ ⟨_,_,_,_,_,_,_,rfl,T⟩
  .rintro en g ⟨v1,v7,v8,v9,v10,dQ,W,rfl,T⟩;rw[Xq,Á]at T;exact Gf no (T.more (N:=500)<|by lia) (λT=>(T.aux _<|.tail _<|.head _).1) (λT=>(T.aux _<|.tail _<|.tail _<|.head _).1) k
 have e7:=x7.get npw ey;refine' ig (λc1=>?_) (λc1=>?_)
 .fail;rw[<-b0,<-t0];refine BQ w7 (y06.extb x7 U) gd0 ↥1 U λZ g8 u=>?_;have dj:∀a∈Z.adr,a∉J.adr:=λa ha h1=>(u.go.nw a<|Ý _ ha).elim (λz=>(Å.mp z).elim (λz=>I<|z▸h1) λz=>n01 a z h1) λz=>(y16.extb x7 I).taken h1 z;have yz:=(y16.extb x7 I).keep u.go.ex λa ha z=>(Å.mp z).elim (λz=>I<|z▸ha) λz=>n01 a z ha;have pz:=u.go.off (λz=>(Å.mp z).elim npw npY0) e7;rw[b0,t0];exact mid Z g8 _ u.at_ u.y (u.bs.trans b0) (u.ts.trans t0) u.gd yz dj pz.2 λz=>pz.1<|Ý _ z
 .exact mid Y0 g7 _ (y06.extb x7 U) rfl b0 t0 (gd0.more<|by decide) (y16.extb x7 I) n01 e7 npY0
end
end iG
set_option maxRecDepth 1000000
set_option maxHeartbeats 0
namespace My
open PySem L2 Snd PySem.W
abbrev top(i:Nat):Stmt:=PySem.Challenge.pw_shutways_k54_frames_sent.main.body.getD i<|.Pass ⟨0,0,0,0⟩
abbrev inC:Stmt->Nat->Stmt
 |.ClassDef _ _ _ b _ _ _ _ _ _ _,j=>b.getD j<|.Pass ⟨0,0,0,0⟩
 |s,_=>s
abbrev dk(s:Stmt)(N:List Str)(d:iG.Fn):Ds:=⟨s,N,N.take d.ar,d⟩
abbrev x0:Ds:=dk (top 7) ["thing"] iG.V9
abbrev x1:Ds:=dk (top 8) ["thing","least","greatest"] iG.zZ
abbrev x2:Ds:=dk (top 14) ["bridges","ties"] iG.zI
abbrev x3:Ds:=dk (top 15) ["things"] iG.V0
abbrev x4:Ds:=dk (top 16) ["thing","bridges"] iG.V8
abbrev x5:Ds:=dk (top 17) ["tie"] iG.zH
abbrev x6:Ds:=dk (top 18) ["net","bridge","found","place","tie"] iG.zL
abbrev x7:Ds:=dk (top 19) ["tie","bridge"] iG.V5
abbrev x8:Ds:=dk (top 21) ["yard","ways","place","tie","ends"] iG.zQ
abbrev x9:Ds:=dk (top 24) ["yard","thing"] iG.V7
abbrev x10:Ds:=dk (top 25) ["ways","had","bridge","came","goals","place","child","parent"] iG.zS
abbrev x11:Ds:=dk (top 28) ["some"] iG.V6
abbrev x12:Ds:=dk (top 37) ["one","other"] iG.zP
abbrev x13:Ds:=dk (top 39) ["bridge","offers","better"] iG.V4
abbrev x14:Ds:=dk (top 45) ["some","words"] iG.zR
abbrev x15:Ds:=dk (top 47) ["script","k"] iG.zX
abbrev x16:Ds:=dk (top 48) ["cell"] iG.zA
abbrev x17:Ds:=dk (top 49) ["row","many","told"] iG.zE
abbrev x18:Ds:=dk (top 50) ["row","many","step","k","bridges","ties","one","other","cost"] iG.zN
abbrev x19:Ds:=dk (top 51) ["row","net","downs","place","bridge"] iG.zF
abbrev x20:Ds:=dk (top 52) ["row","yard","net","road","downs","ups","kind","place"] iG.zW
abbrev x21:Ds:=dk (top 53) ["yard","net","doer","downs","bridge","letter"] iG.zU
abbrev x22:Ds:=dk (top 54) ["row","yard","net","doer","k"] iG.zM
abbrev x23:Ds:=dk (top 55) ["yard","net","found","place","tie"] iG.zO
abbrev x24:Ds:=dk (top 56) ["net"] iG.zK
abbrev x25:Ds:=dk (top 57) ["model","yard","net","bridge","number","came","stamps","place","other"] iG.zJ
abbrev x26:Ds:=dk (top 58) ["model","yard","net","carrier","bridge","number","told"] iG.zB
abbrev x27:Ds:=dk (top 59) ["model","net","carrier","line","told","due","at"] iG.zC
abbrev x28:Ds:=dk (top 60) ["row","yard","net","k"] iG.zG
abbrev x29:Ds:=dk (top 61) ["script","row","net","most","yards","carriers","models","k","cell","at","ups","j","thing"] iG.zY
abbrev z0:Ds:=dk (inC (top 27) 0) ["self","yard","number"] iG.VI
abbrev z1:Ds:=dk (inC (top 27) 1) ["self","bridge","number"] iG.VL
abbrev z2:Ds:=dk (inC (top 27) 2) ["self","bridge","came_over","number","goal","place","stamps"] iG.VH
abbrev z3:Ds:=dk (inC (top 27) 3) ["self","some","word","place","start","goal","tie","number","start_stamp","goal_stamp"] iG.VG
abbrev z4:Ds:=dk (inC (top 27) 5) ["self"] iG.VP
abbrev z5:Ds:=dk (inC (top 27) 6) ["self","bridge"] iG.VF
abbrev z6:Ds:=dk (inC (top 41) 0) ["self","number","life","ties","greatest","place","neighbour","cost"] iG.VJ
abbrev z7:Ds:=dk (inC (top 41) 3) ["self"] iG.VB
abbrev z8:Ds:=dk (inC (top 41) 4) ["self","place"] iG.VW
abbrev z9:Ds:=dk (inC (top 41) 5) ["self","place","neighbour","cost"] iG.VE
abbrev z10:Ds:=dk (inC (top 41) 6) ["self","place"] iG.VZ
abbrev z11:Ds:=dk (inC (top 41) 7) ["self","place","letter","held"] iG.VX
abbrev z12:Ds:=dk (inC (top 41) 8) ["self","letters"] iG.VD
abbrev z13:Ds:=dk (inC (top 41) 9) ["self","older","place","held"] iG.VO
abbrev z14:Ds:=dk (inC (top 41) 10) ["self","offers","place","held","neighbour","cost","best","root"] iG.VA
abbrev z15:Ds:=dk (inC (top 41) 11) ["self","label"] iG.VC
abbrev z16:Ds:=dk (inC (top 41) 12) ["self","place","root","cost","over","rests","age","ahead"] iG.VU
abbrev z17:Ds:=dk (inC (top 41) 13) ["self","place","held"] iG.VN
abbrev z18:Ds:=dk (inC (top 41) 14) ["self","place","held"] iG.VM
abbrev z19:Ds:=dk (inC (top 41) 15) ["self","place"] iG.VY
abbrev z20:Ds:=dk (inC (top 44) 0) ["self","net","greatest","number"] iG.Vu
abbrev z21:Ds:=dk (inC (top 44) 2) ["self"] iG.Vl
abbrev z22:Ds:=dk (inC (top 44) 4) ["self"] iG.Vp
abbrev z23:Ds:=dk (inC (top 44) 5) ["self","fallen"] iG.Vy
abbrev z24:Ds:=dk (inC (top 44) 7) ["self"] iG.Vs
abbrev z25:Ds:=dk (inC (top 44) 8) ["self","number"] iG.VS
abbrev z26:Ds:=dk (inC (top 44) 9) ["self","place","one","other","cost"] iG.Vw
abbrev z27:Ds:=dk (inC (top 44) 10) ["self","number","place"] iG.Vx
abbrev z28:Ds:=dk (inC (top 44) 11) ["self","place"] iG.Vo
abbrev z29:Ds:=dk (inC (top 44) 12) ["self","some","words","number"] iG.Vz
abbrev z30:Ds:=dk (inC (top 44) 13) ["self","number","place","letter","goal"] iG.Vv
abbrev z31:Ds:=dk (inC (top 44) 14) ["self","place","start","goal","tie","letter"] iG.VT
abbrev z32:Ds:=dk (inC (top 44) 15) ["self","place"] iG.Vt
abbrev z33:Ds:=dk (inC (top 44) 16) ["self","number"] iG.Vm
abbrev z34:Ds:=dk (inC (top 44) 17) ["self","place"] iG.Vn
abbrev z35:Ds:=dk (inC (top 44) 18) ["self","number"] iG.VQ
abbrev z36:Ds:=dk (inC (top 44) 19) ["self","place"] iG.VR
abbrev z37:Ds:=dk (inC (top 44) 20) ["self","number","place","neighbour","cost"] iG.Vr
abbrev z38:Ds:=dk (inC (top 44) 21) ["self","place","one","other","cost","stands","near","far"] iG.Vq
abbrev tb:Tb where
 fs:=[("is_whole",x0),("is_whole_between",x1),("make_net",x2),("are_bridges",x3),("is_tie",x4),("lesser_end_first",x5),("neighbours",x6),("far_end",x7),("open_ways",x8),("is_standing",x9),("sent_on",x10),("is_line_deed",x11),("newer",x12),("best_offer",x13),("read_deed",x14),("_law_cell_at",x15),("_law_row",x16),("_law_take",x17),("_law_net",x18),("_law_turned",x19),("_law_drawn",x20),("_law_round",x21),("_law_moved",x22),("_law_open",x23),("_law_model",x24),("_law_has",x25),("_law_sent",x26),("_law_stands",x27),("_law_worked",x28),("law",x29)]
 ms:=[⟨"Carrier","__init__","Carrier.__init__",z0⟩,⟨"Carrier","send","Carrier.send",z1⟩,⟨"Carrier","have","Carrier.have",z2⟩,⟨"Carrier","deed","Carrier.deed",z3⟩,⟨"Carrier","under_way","Carrier.under_way",z4⟩,⟨"Carrier","came","Carrier.came",z5⟩,⟨"Bridge","__init__","Bridge.__init__",z6⟩,⟨"Bridge","stamp","Bridge.stamp",z7⟩,⟨"Bridge","held","Bridge.held",z8⟩,⟨"Bridge","up","Bridge.up",z9⟩,⟨"Bridge","down","Bridge.down",z10⟩,⟨"Bridge","hear","Bridge.hear",z11⟩,⟨"Bridge","tick","Bridge.tick",z12⟩,⟨"Bridge","let_grow_older","Bridge.let_grow_older",z13⟩,⟨"Bridge","reckon_label","Bridge.reckon_label",z14⟩,⟨"Bridge","take_label","Bridge.take_label",z15⟩,⟨"Bridge","letter_over","Bridge.letter_over",z16⟩,⟨"Bridge","is_rested_on","Bridge.is_rested_on",z17⟩,⟨"Bridge","is_agreed_to","Bridge.is_agreed_to",z18⟩,⟨"Bridge","end","Bridge.end",z19⟩,⟨"Yard","__init__","Yard.__init__",z20⟩,⟨"Yard","net","Yard.net",z21⟩,⟨"Yard","road","Yard.road",z22⟩,⟨"Yard","down","Yard.down",z23⟩,⟨"Yard","stamps","Yard.stamps",z24⟩,⟨"Yard","bridge","Yard.bridge",z25⟩,⟨"Yard","ends","Yard.ends",z26⟩,⟨"Yard","end_at","Yard.end_at",z27⟩,⟨"Yard","has_tie","Yard.has_tie",z28⟩,⟨"Yard","deed","Yard.deed",z29⟩,⟨"Yard","tick_of","Yard.tick_of",z30⟩,⟨"Yard","come","Yard.come",z31⟩,⟨"Yard","take_off","Yard.take_off",z32⟩,⟨"Yard","fall_of_bridge","Yard.fall_of_bridge",z33⟩,⟨"Yard","fall_of_tie","Yard.fall_of_tie",z34⟩,⟨"Yard","back_of_bridge","Yard.back_of_bridge",z35⟩,⟨"Yard","back_of_tie","Yard.back_of_tie",z36⟩,⟨"Yard","set_ties_of","Yard.set_ties_of",z37⟩,⟨"Yard","set_tie","Yard.set_tie",z38⟩]
 cs:=[("MOST_BRIDGES",(.int 10)),("MOST_TIES",(.int 16)),("GREATEST_NUMBER",(.int 999)),("GREATEST_COST",(.int 1000)),("NUMBER",(.int 0)),("STAMP",(.int 1)),("ROOT",(.int 2)),("COST",(.int 3)),("AGE",(.int 4)),("RESTS",(.int 5)),("AGREES",(.int 6)),("DEEDS",(.tup [(.tup [(.str "tick")]),(.tup [(.str "come")]),(.tup [(.str "lost")]),(.tup [(.str "fall"),(.str "bridge")]),(.tup [(.str "fall"),(.str "tie")]),(.tup [(.str "back"),(.str "bridge")]),(.tup [(.str "back"),(.str "tie")])]))]
 cl:=["Carrier","Bridge","Yard"]
 fl:=["age_let_go","frames_sent","greatest_age","had_by_bridge","held_by_place","label_now","letters_on_road","life","line","lives","net_made_of","number","standing","ticks_had","ties_by_place","ties_fallen","version","yard"]
 xs:=[]
abbrev pg:iG.Pg:=λf=>((tb.fs++tb.ms.map λy=>(y.qual,y.x)).lookup f).map (·.d)
instance:iG.Al pg:=by constructor<;>rfl
variable {α:Type}{p:List α->Prop}
def ar1(h:∀I,p [I])(us:List α)(e:us.length=1):p us:=match us,e with|[I],_=>h I
def ar2(h:∀I a1,p [I,a1])(us:List α)(e:us.length=2):p us:=match us,e with|[I,a1],_=>h I a1
def ar3(h:∀I a1 a2,p [I,a1,a2])(us:List α)(e:us.length=3):p us:=match us,e with|[I,a1,a2],_=>h I a1 a2
def ar4(h:∀J a1 a2 I,p [J,a1,a2,I])(us:List α)(e:us.length=4):p us:=match us,e with|[J,a1,a2,I],_=>h J a1 a2 I
def ar5(h:∀R a1 a2 J I,p [R,a1,a2,J,I])(us:List α)(e:us.length=5):p us:=match us,e with|[R,a1,a2,J,I],_=>h R a1 a2 J I
def ar6(h:∀U a1 a2 R J I,p [U,a1,a2,R,J,I])(us:List α)(e:us.length=6):p us:=match us,e with|[U,a1,a2,R,J,I],_=>h U a1 a2 R J I
variable {P:String->Ds->Prop}
def mc(h:P f x)(k:∀g y,(g,y)∈l->P g y):∀g y,(g,y)∈(f,x)::l->P g y:=λg y m=>by
 rcases Å.mp m with e|m
 .cases e;exact h
 .exact k g y m
def mn:∀g y,(g,y)∈([]:List<|String×Ds)->P g y:=λ_ _ m=>nomatch m
def HP:∀f x,(f,x)∈tb.fs.drop 24->x.Ok tb:=by
 iterate 6 refine mc ⟨by kernel_rfl,by kernel_rfl⟩ ?_
 exact mn
def Ij:∀f x,(f,x)∈tb.fs.drop 12->x.Ok tb:=by
 iterate 12 refine mc ⟨by kernel_rfl,by kernel_rfl⟩ ?_
 exact HP
def tab_ok:∀f x,(f,x)∈tb.fs->x.Ok tb:=by
 iterate 12 refine mc ⟨by kernel_rfl,by kernel_rfl⟩ ?_
 exact Ij
def tab_pg:∀f x,(f,x)∈tb.fs->pg f=fJ x.d:=by repeat first|exact mn|refine mc rfl ?_
def tab_bd:∀f x,(f,x)∈tb.fs->Hd.Bd (iO f) (iO f) x:=by repeat first|exact mn|refine mc (λ_ _ _ _ _ _=>(by first|exact ar1 λ_=>rfl|exact ar2 λ_ _=>rfl|exact ar3 λ_ _ _=>rfl|exact ar4 λ_ _ _ _=>rfl|exact ar5 λ_ _ _ _ _=>rfl|exact ar6 λ_ _ _ _ _ _=>rfl)) ?_
def md{P:α->Prop}{x:α}{l:List α}(h:P x)(k:∀y,y∈l->P y):∀y,y∈x::l->P y:=λy m=>by
 rcases Å.mp m with e|m
 .cases e;exact h
 .exact k y m
def me{P:α->Prop}:∀y,y∈([]:List α)->P y:=λ_ m=>nomatch m
def FL:∀y,y∈tb.ms.drop 36->y.x.Ok tb:=by
 iterate 3 refine md ⟨by kernel_rfl,by kernel_rfl⟩ ?_
 exact me
def G9:∀y,y∈tb.ms.drop 24->y.x.Ok tb:=by
 iterate 12 refine md ⟨by kernel_rfl,by kernel_rfl⟩ ?_
 exact FL
def Iu:∀y,y∈tb.ms.drop 12->y.x.Ok tb:=by
 iterate 12 refine md ⟨by kernel_rfl,by kernel_rfl⟩ ?_
 exact G9
def tab_om:∀y,y∈tb.ms->y.x.Ok tb:=by
 iterate 12 refine md ⟨by kernel_rfl,by kernel_rfl⟩ ?_
 exact Iu
def tab_pm:∀y,y∈tb.ms->pg (y.C ++ "." ++ y.m)=fJ y.x.d:=by repeat first|exact me|refine md rfl ?_
def tab_bm:∀y,y∈tb.ms->Hd.Bd (iO y.m) (iO y.qual) y.x:=by repeat first|exact me|refine md (λ_ _ _ _ _ _=>(by first|exact ar1 λ_=>rfl|exact ar2 λ_ _=>rfl|exact ar3 λ_ _ _=>rfl|exact ar4 λ_ _ _ _=>rfl|exact ar5 λ_ _ _ _ _=>rfl|exact ar6 λ_ _ _ _ _ _=>rfl)) ?_
def law_in:("law",x29)∈tb.fs:=é (i:=29) rfl
noncomputable abbrev pr:Program:=PySem.Challenge.rw_shutways_k54_frames_sent.row.prog
noncomputable abbrev vw:Program:=PySem.W.view pr [0,2,3,4,5,7,8,10,11,12,13,14,15,16,17,18,19,21,22,24,25,27,28,30,31,32,33,34,35,36,37,39,41,43,44,45,47,48,49,50,51,52,53,54,55,56,57,58,59,60,61]
noncomputable abbrev xt(s:Shared):Bool:=xlAt vw [] s&&recOk (RowW.records PySem.Challenge.rw_shutways_k54_frames_sent.row.toRowW) s
def said:PySem.Challenge.rw_shutways_k54_frames_sent.wellSaid=fL:=by rw[Fast.te9446332074065402090];kernel_rfl
def l1:∀w os,(Hd.runY pr 12000 w os).map (Hd.stY pr w)=fJ fL:=λw os=>by kernel_rfl
noncomputable abbrev sv(s:SharedT):=Hd.seenY vw [] (Hd.modsY pr.main.body) xt true s.abs
def l21:∀w os,(Hd.runY pr 12000 w os).map (λs=>(sv s).1)=some (openGood vw []).1:=λw os=>by kernel_rfl
def l22:∀w os,(Hd.runY pr 12000 w os).map (λs=>((sv s).2.1,(sv s).2.2.1,(sv s).2.2.2.1))=some ((openGood vw []).2.1,(openGood vw []).2.2.1,(openGood vw []).2.2.2.1):=λw os=>by kernel_rfl
def l23:∀w os,(Hd.runY pr 12000 w os).map (λs=>(sv s).2.2.2.2)=some (openGood vw []).2.2.2.2:=λw os=>by kernel_rfl
def l2:∀w os,(Hd.runY pr 12000 w os).map sv=some (openGood vw []):=λw os=>by
 obtain ⟨s,e,h⟩:=Option.map_eq_some_iff.mp (l21 w os)
 obtain ⟨s',e',h'⟩:=Option.map_eq_some_iff.mp (l22 w os)
 cases e.symm.trans e'
 obtain ⟨s',e',i⟩:=Option.map_eq_some_iff.mp (l23 w os)
 cases e.symm.trans e'
 rw[e]
 exact congrArg some (Prod.ext h (Prod.ext (Prod.mk.inj h').1 (Prod.ext (Prod.mk.inj (Prod.mk.inj h').2).1 (Prod.ext (Prod.mk.inj (Prod.mk.inj h').2).2 i))))
def l3:∀w os,(Hd.runY pr 12000 w os).map (λs=>(Hd.hook tb).obs s.abs)=fJ ((Hd.hook tb).val w):=λw os=>by kernel_rfl
def left:LeftO pr vw [] xt (Hd.hook tb).obs (Hd.hook tb).val 12000:=Hd.left_of (by kernel_rfl) rfl (λs=>by kernel_rfl) l1 l2 l3
end My
open PySem PySem.W PyProof.Rows
theorem PySem.Challenge.cw_shutways_k54_frames_sent_holds : PySem.Challenge.rw_shutways_k54_frames_sent.Holds := by
 refine holds_law My.said λsaid=>?_;refine holds_open (q:=My.vw) (loose:=[]) (Xt:=My.xt) (XP:=XL My.vw []) (YP:=(Hd.hook My.tb).says) My.left (Hook.of _) (Hook.keeps _) (λs e=>xl_of s (dI.mp e).1) XL.keeps (by rfl) (by rfl) (by rfl) (λs e=>recFacts_of (dI.mp e).2) (by rfl) said (by decide +kernel) ⟨rfl,rfl,rfl,rfl,rfl,by decide +kernel⟩ ?hw ?hc
 case hw=>w_on;w_witness2
 case hc=>exact Hd.law_walk (k:=10) rfl rfl rfl ⟨rfl,by decide,by decide⟩ My.law_in rfl rfl My.tab_pg My.tab_pm My.tab_ok My.tab_om My.tab_bd My.tab_bm λns hl=>iG.law_ok (n:=0) hl λ_=>rfl
