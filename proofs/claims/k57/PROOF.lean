import PyProof.Rows.All
import Wide.All
import OpenK.AllK
import Wide.FinOn
import PyProof.EqAt
import PyProof.EqKinds
import PyProof.TupleCall
import Lean
import PySem.Challenge.RW_shutways_k57_whole_once_while_nothing_tu
set_option Elab.async false
set_option bootstrap.genMatcherCode false
set_option compiler.extract_closed false
set_option genSizeOf false
local macro_rules|`(command|def $x:declId $b:bracketedBinder*:$t $v:declVal)=>`(command|theorem $x:declId $b:bracketedBinder*:$t $v:declVal)
local macro_rules|`(command|abbrev $x:declId $s:optDeclSig $v:declVal)=>`(command|noncomputable def $x:declId $s:optDeclSig $v:declVal)
local macro_rules|`(tactic|simp! [$l,*])=>`(tactic|simp only[$l,*])|`(tactic|simp! [$l,*]at $h:ident)=>`(tactic|simp only[$l,*]at $h:ident)
local macro_rules|`(tactic|k_ne)=>do
 let i:=λs=>Lean.mkIdent<|.mkSimple s
 `(tactic|intro $(i "Â") $(i "s") $(i "σ") $(i "H") $(i "x") $(i "y") $(i "v") $(i "u") $(i "Q") $(i "I") $(i "rx") $(i "ry") $(i "h"))
local macro_rules|`(tactic|k_sub)=>do
 let i:=λs=>Lean.mkIdent<|.mkSimple s
 `(tactic|intro $(i "Â") $(i "s") $(i "σ") $(i "H") $(i "Q") $(i "I") $(i "h"))
local macro_rules|`(tactic|k_upd)=>do
 let i:=λs=>Lean.mkIdent<|.mkSimple s
 `(tactic|intro $(i "X") $(i "hP") $(i "hw") $(i "hK") $(i "hc") $(i "i") $(i "Â") $(i "s") $(i "σ") $(i "H") $(i "E") $(i "I") $(i "hf") $(i "st") $(i "hg"))
local macro_rules|`(tactic|k_put)=>do
 let i:=λs=>Lean.mkIdent<|.mkSimple s
 `(tactic|intro $(i "Â") $(i "s") $(i "σ") $(i "H") $(i "xs") $(i "us") $(i "Q") $(i "I") $(i "r") $(i "h"))
local macro_rules|`(tactic|k_get)=>do
 let i:=λs=>Lean.mkIdent<|.mkSimple s
 `(tactic|intro $(i "v") $(i "u") $(i "G") $(i "H") $(i "x") $(i "y") $(i "c") $(i "Q") $(i "g") $(i "rx") $(i "ry") $(i "e") $(i "q"))
set_option linter.all false
set_option maxRecDepth 100000
open PySem.Str renaming ofString->im
open Decidable renaming decide->ik
open Option renaming some->fw, none->fx
open Bool renaming true->fy, false->fz
open PySem.W (Frag)
open Array renaming length_toList->ø, getElem?_eq_getElem->ý, getElem?_toList->Ą, getElem?_eq_some_iff->Ĺ, getElem?_eq_none->ύ, getD->ϲ, toList->bY, toList_push->ez, toList_inj->fb
open Bool renaming false_ne_true->Ă, false_eq_true->ī, and_true->ů, not_eq_true'->Ž, or_false->ϱ, not_not->al, eq_iff_iff->aR, or_eq_true->aS, false_xor->bo, false_or->bO, true_xor->bQ, and_eq_true_iff->dq
open Char renaming toNat->ť
open False renaming elim->Ň
open ForInStep renaming yield->Ļ
open Function renaming comp_apply->b7
open Int renaming toNat_natCast->ç, le_refl->Ŧ, emod_lt_of_pos->Ν, emod_nonneg->ϛ, mul_nonneg->ϩ, eq_ofNat_of_zero_le->cu, le_ediv_iff_mul_le->cI, ediv_lt_iff_lt_mul->cQ, mul_one->dF, add_mul->dM, one_mul->dN, le_of_lt_add_one->dO, natCast_nonneg->fq
open List renaming length_map->Á, mem_singleton->Å, mem_cons->Ç, mem_append_right->É, getElem?_eq_getElem->Ê, map_cons->Í, length_cons->Î, size_toArray->Ï, mem_map->Ñ, mem_append->Ò, getElem?_eq_some_iff->Ó, mem_append_left->Ô, map_append->Õ, not_mem_nil->Ö, getElem?_map->Ú, replicate->Þ, nodup_append->ß, mem_cons_of_mem->â, mem_map_of_mem->ã, mem_of_getElem?->ä, map_map->ë, length_append->ì, filterMap_cons->î, append_nil->ï, lookup_cons->ñ, mem_cons_self->ó, nodup_cons->ô, mem_filter->ù, length_replicate->û, take_length->ü, filter_cons->Ā, nodup_nil->ă, all_eq_true->ą, append_assoc->Ć, contains_iff_mem->Ĉ, getElem?_append_left->Ċ, find?_cons->č, length_take->ď, replicate_succ->Đ, getElem?_append_right->ē, getD_eq_getElem?_getD->Ĕ, map_inj_left->ė, any_cons->Ġ, pairwise_map->ģ, map_congr_left->Ħ, length_range->ı, length_nil->Ĳ, getElem_mem->ķ, mem_flatMap->ĸ, mapM_cons->ļ, filter_append->Ľ, length_filter_le->ľ, getElem?_eq_none->Ŀ, foldl_cons->Ń, flatten_cons->ņ, filter_sublist->Ŏ, mem_range->ŏ, getElem?_replicate->Ő, map_id->œ, mem_filterMap->Ŗ, zip_cons_cons->ŗ, map_nil->Ř, drop_eq_nil_of_le->Ś, length_mergeSort->Ş, take_add_one->Ť, mergeSort_perm->Ŭ, forall_mem_nil->ŭ, length_filterMap_le->Ů, length_eq_zero_iff->Ŵ, pairwise_lt_range->ż, flatMap_cons->ž, getElem?_set_ne->ο, lookup->π, filter_nil->υ, filter_eq_self->ω, perm_singleton->Α, zip_nil_right->Ε, length_eraseIdx_of_lt->Ζ, drop_eq_getElem_cons->Ρ, zip_nil_left->Τ, length_drop->ϊ, length_eraseIdx_le->ϋ, getElem?_set_self->Ϗ, filter_eq_nil_iff->ϔ, length_set->ϙ, pairwise_append->Ϣ, length_take_le'->ϣ, length_pos_iff->Ϯ, take_succ_cons->ϯ, flatMap_append->ϰ, filterMap_map->ϳ, set_cons_succ->ϵ, set_cons_zero->Ϸ, length_filter_eq_length_iff->ao, getElem_inj->av, any_eq_true->az, eq_nil_of_length_eq_zero->aE, of_mem_zip->aQ, nodup_iff_pairwise_ne->bp, perm_ext_iff_of_nodup->bq, length_erase_of_mem->bT, mem_of_mem_eraseIdx->bU, pairwise_mergeSort->bZ, pairwise_singleton->ca, take_of_length_le->cq, filterMap_eq_map'->cr, length_singleton->cG, mem_iff_getElem?->cL, eraseIdx_sublist->cV, set_append_left->dm, getElem_of_mem->dP, foldl->d7, pairwise_cons->ej, getElem_range->eF, append_of_mem->eJ, lookup_append->eL, foldl_append->fu
open List.Perm renaming cons_inv->ρ
open List.Sublist renaming refl->Œ
open List.cons renaming injEq->aa
open Nat renaming le_refl->Ì, lt_of_le_of_lt->Ù, le_trans->Û, ne_of_lt->é, lt_of_lt_of_le->ê, zero_le->Ę, lt_irrefl->Ģ, lt_succ_of_lt->ĥ, lt_succ_self->Į, le_succ->ň, ne_of_gt->Ū, le_of_lt->Γ, lt_trans->Δ, succ_le_succ->ό, zero_add->Ϛ, min_le_right->aC, min_eq_left->bj, mul_comm->cH, add_le_add_right->dQ, mul_le_mul_left->d9
open Option renaming map_eq_some_iff->Ë, isSome_iff_exists->å, bind_eq_some_iff->ò, bind_some->ö, map_some->ř, getD_some->Υ, isSome_map->ϴ, not_isSome_iff_eq_none->aq, isNone_iff_eq_none->bc, toList_none->dn, getD_none->d5
open Option.some renaming inj->æ, injEq->Ĭ
open Prod renaming snd->ap
open Prod.mk renaming injEq->ū
open PyProof.Rows renaming IntsAre->ā, step_dedup->ţ, firstMet->ν, seqObj->ψ, kindOf->Θ, AllBare->ώ, subscriptTail->aw, envOfC->aB, firstMet_length_le->aF, IsTup->aW, entry_list_sort->b6, size_push'->cM, slot_list_sort->cN, args_list_sort->cO, sortedHeap_old->cP, Constant_none->dC, sortedHeap_at->dL, subscriptTail_builtinR->eX, plain_sorted->fc, entry_sorted->fe, args_sorted1->ff
open PySem renaming wpAny_bind->À, Value->Ã, Shared->Æ, wpAny_pure->È, Addr->Ð, starEach->Ý, sizeLine->à, model->á, Program->è, compareOp->ð, World->ÿ, mainGlobals->ĉ, wpAny_newObj_type->ċ, Heap->Č, Around->Ď, wpAny_truthy_bool->Ē, wpAny_holding->ĕ, wpAny_call_entry->Ė, foldedSetIterable->Ě, wpAny_loadPart'->ě, assignEach->Ĝ, cLine->Ğ, sliceBounds->ğ, backTo->Ĥ, attributeBase->ħ, rawInt->Ĩ, codeAny_builtin->ĭ, wpAny_mono->į, wpAny_Call_Name_kw->İ, wpAny_callSpecial?_slot->ĳ, argBest->Ĵ, behindInMarks->ŀ, Stmt->ł, wpAny_setField->ń, wpAny_ite_split->ŉ, binaryOp->Ŋ, FuncData->ŋ, keywordEach->Ō, wpAny_field->ō, plainId_quiet->ő, holding->ŕ, wpAny_seqItems->ś, sysModules->ş, intKind->Š, bootBuiltins->š, tupleKind_room_in1->Ţ, wpAny_setState_of->ũ, wpAny_askSetting->ű, wpAny_setEntries_of->ŵ, SetTable->Ÿ, swapsWith->η, sizeLine_eq->θ, codeAny_mono->ι, backToKw->μ, call_meetsIn->ξ, Scope->ς, assign->χ, wpAny_passesOwn->Η, wpAny_updateSeq->Μ, wpAny_tryCatch->Ψ, standAt->ϐ, wpAny_pyIter_list->ϑ, swapsWithSole->ϕ, swappedStores->ϖ, pyNext->ϗ, IsPart->Ϙ, tupleKind->Ϝ, Operator->ϝ, getMethod->Ϟ, NameKind->ϟ, getItem->Ϥ, wpAny_typeOf->ϥ, wpAny_rule->Ϧ, valueAt->ϧ, sliceRange->Ϩ, setsByText->Ϫ, letOwnedTupleGo->ϭ, PyData->ϸ, firstArgMember->Ϲ, wpAny_fieldsOf->ab, unsupported->ac, PassesOwn->af, callerA->ah, seqItems?->ai, scanBound->am, wpAny_newList->ay, wpAny_pyIter_tuple->aD, setItem->aX, seqIndex_neg->aY, slot_list_getitem->aZ, Keyword->bb, fits_of_scanBound->be, lastMarks->bA, Result->bB, noFill_tuple_add->bC, noteFrame->bD, wpAny_isInstance->bE, seqIndex_of->bM, wpAny_of_eq->bN, wpAny_letGo->bR, relabel->cf, GenState->cA, isTrue->cB, CmpOp->cC, callWith->cD, call_meets->cF, atKey->cJ, argsOk->cK, isSubtype_type->cR, methodCallForm->cT, wpAny_standAt->dD, seq_tuple_add->dG, wpAny_getItem_list_slice->dI, wpAny_comprehension_free->dJ, bindC->d0, slicePick->d6, updateSeq->ei, drawOrder->eC, release->eS, pyIter->eU, richCompare_meets_room->eV, concat_meets->eW, wpAny_getItem_list_neg->eY
open PySem.Around renaming under_plainId->đ, under->bL
open PySem.Builtin renaming iter->ŷ
open PySem.Builtin.Frozenset renaming sizeOf->cS
open PySem.Builtin.Str renaming strSliceIndices->Λ
open PySem.Code renaming isFrame->ce
open PySem.FuncData.mk renaming injEq->bS
open PySem.Heap renaming get?_push_of_some->Ä, get?_push_size->Ø, lt_size->Ü, get?_update_other->õ, get?_update_self->ę, SameBut->ź, size_push->Ż, LeftW->d8
open PySem.Heap.SameBut renaming update->ć
open PySem.NameKind renaming free->ĩ, cell->eZ
open PySem.Obj renaming mapSeq->Ι, data_mapFields->Κ, mapFields->Χ, isFreed_of_fields->dk, putSet->fi
open PySem.PyData renaming eqv->Ī, depthAll->Ł, canLayAll0->Ŝ, canLay0->Ŷ, eqvAll->Ο
open PySem.SetTable renaming below->ĵ, grown->ϓ, has->bu, orStandIn->cp, slot->fh
open PySem.SetTable.below renaming go->bd
open PySem.SetTable.probe renaming go->ϒ
open PySem.Value renaming notImplemented->cE
open PySem.Value.type renaming inj->aj
open PySem.W renaming boot_heap->Ų, findIn->Ϻ, boot_drawn->aG, SharedT->bg, boot_toks->bF, mg_of->cU, nsIn->fj, kitOne->fo
open PySem.pickOrder renaming go->bf
open String renaming ofList->Ξ, singleton->ak, length_toList->cg, toList_ofList->cj
open UInt32.toNat renaming inj->bP
def bAq(a b:Bool):((a&&b)=fy)=(a=fy/\b=fy):=Bool.and_eq_true a b
abbrev hX:=@if_pos
abbrev hZ:=@if_neg
abbrev ie:=@decide_eq_false
abbrev ig:=@decide_eq_true
abbrev ii:=@decide_eq_true_eq
@[reducible] noncomputable def ij:=@absurd
local macro_rules|`(tactic|let $p:term:=$e)=>do
 let k:=`Lean.Parser.Tactic
 let n(c:Lean.Name)(a:Array Lean.Syntax):Lean.Syntax:=.node .none (k++c) a
 let m(s:Lean.Syntax):=if s.isIdent then n `rcasesPat.one #[s]else if s.isOfKind ``Lean.Parser.Term.hole then n `rcasesPat.ignore #[s[0]]else if s.isOfKind ``Lean.Parser.Term.anonymousCtor then n `rcasesPat.tuple #[s[0],Lean.mkNullNode (s[1].getArgs.map λx=>if x.isAtom then x else n `rcasesPatLo #[n `rcasesPatMed #[Lean.mkNullNode #[x]],Lean.mkNullNode]),s[2]]else s
 `(tactic|obtain $(⟨n `rcasesPatMed #[Lean.mkNullNode #[p.raw.rewriteBottomUp m]]⟩):rcasesPatMed:=$e)
local macro_rules|`(command|instance $x:declId:$t $v:declVal)=>do
 if t.raw.getId != `Fn then Lean.Macro.throwUnsupported
 `(command|noncomputable abbrev $x:declId:$t $v:declVal)
local macro_rules|`(⇑$h)=>`(by simpa using $h)
local macro_rules|`(↥0)=>`(by lia)|`(↥1)=>`(by decide)|`(↥2)=>`(á $(Lean.mkIdent `X.prog) $(Lean.mkIdent `X.w))
namespace L2
open PySem PySem.Spec PyProof.Rows
noncomputable abbrev Key:=Sum Int Str
abbrev J8:Key->Ã->Bool
 |.inl k,v=>Value.isInt k v
 |.inr x,v=>Value.isStrOf x v
abbrev SR(w:ÿ):Key->Int
 |.inl k=>hashInt k
 |.inr x=>hashStr w x
def Zp:∀{k:Key}{v:Ã},J8 k v=fy->(∃i t,k=Sum.inl i/\v=Value.int i t)\/(∃x t,k=Sum.inr x/\v=Value.str x t)
 |.inl i,v,h=>by let⟨t,e⟩:=Value.isInt_shape (k:=i) (v:=v) h;exact .inl ⟨i,t,rfl,e⟩
 |.inr x,v,h=>by let⟨t,e⟩:=Value.isStrOf_shape (x:=x) (v:=v) h;exact .inr ⟨x,t,rfl,e⟩
def BE(i:Int)(t:Tok):J8 (.inl i) (.int i t)=fy:=by simp[J8,Value.isInt]
def AY(x:Str)(t:Tok):J8 (.inr x) (.str x t)=fy:=by simp[J8,Value.isStrOf]
def Ps(a b:Int):ik ((Sum.inl a:Key)=Sum.inl b)=(a==b):=by
 by_cases e:a=b
 .subst e;simp
 .have h:¬ (Sum.inl a:Key)=Sum.inl b:=λq=>e<|Sum.inl.inj q;rw[ie h];exact(beq_eq_false_iff_ne.mpr e).symm
def Ll(a b:Str):ik ((Sum.inr a:Key)=Sum.inr b)=ik (a=b):=by
 by_cases e:a=b
 .subst e;simp
 .have h:¬ (Sum.inr a:Key)=Sum.inr b:=λq=>e<|Sum.inr.inj q;rw[ie h,ie e]
def L0(a:Int)(b:Str):ik ((Sum.inl a:Key)=Sum.inr b)=fz:=ie (λq=>nomatch q)
def L3(a:Str)(b:Int):ik ((Sum.inr a:Key)=Sum.inl b)=fz:=ie (λq=>nomatch q)
abbrev Zf(prog:è)(w:ÿ):PySem.KeyKind prog w Key where
 is:=J8
 hash:=SR w
 inj:=λv a b ha hb=>by
  rcases Zp ha with⟨i,t,rfl,rfl⟩|⟨x,t,rfl,rfl⟩
  .rcases Zp hb with⟨j,u,rfl,e⟩|⟨y,u,rfl,e⟩
   .injection e with e1 _;rw[e1]
   .exact nomatch e
  .rcases Zp hb with⟨j,u,rfl,e⟩|⟨y,u,rfl,e⟩
   .exact nomatch e
   .injection e with e1 _;rw[e1]
 byValue:=λk v h=>by rcases Zp h with⟨i,t,rfl,rfl⟩|⟨x,t,rfl,rfl⟩<;>rfl
 pyHash:=λhv h=>by
  rcases Zp hv with⟨i,t,rfl,rfl⟩|⟨x,t,rfl,rfl⟩
  .exact wpAny_pyHash_int h
  .exact wpAny_pyHash_str h
 eqBool:=λhu hv h=>by
  rcases Zp hu with⟨i,t,rfl,rfl⟩|⟨x,t,rfl,rfl⟩
  .rcases Zp hv with⟨j,u,rfl,rfl⟩|⟨y,u,rfl,rfl⟩
   .rw[Ps]at h;exact wpAny_eqBool_int h
   .rw[L0]at h;exact SeqAt.EqAt.int_str i t y u _ _ _ _ h
  .rcases Zp hv with⟨j,u,rfl,rfl⟩|⟨y,u,rfl,rfl⟩
   .rw[L3]at h;exact SeqAt.EqAt.str_int x t j u _ _ _ _ h
   .rw[Ll]at h;exact wpAny_eqBool_str h
 «strs»:=λk x t v h=>by
  rcases Zp h with⟨i,u,rfl,e⟩|⟨y,u,rfl,e⟩
  .exact nomatch e
  .injection e with e1 _;subst e1;cases v<;>rfl
def Oo(prog:è)(w:ÿ)(i:Int)(t:Tok):(Zf prog w).is (.inl i) (.int i t)=fy:=BE i t
def Oh(prog:è)(w:ÿ)(x:Str)(t:Tok):(Zf prog w).is (.inr x) (.str x t)=fy:=AY x t
inductive V where
 |non|bl (b:Bool)|int (i:Int)|str (x:Str)|byt (b:Array UInt8)|flt (b:UInt64)|ref (a:Ð)|ty (n:String)
 deriving DecidableEq
abbrev RelV:V->Ã->Prop
 |.non,u=>u=Value.none
 |.bl b,u=>u=Value.bool b
 |.int i,u=>∃t,u=Value.int i t
 |.str x,u=>∃t,u=Value.str x t
 |.byt b,u=>∃t,u=Value.bytes b t
 |.flt b,u=>∃t,u=Value.float b t
 |.ref a,u=>u=Value.ref a
 |.ty n,u=>u=Value.type n
@[reducible] noncomputable def gV:List V->List Ã->Prop:=Paired RelV
def gV.length(r:gV xs us):xs.length=us.length:=Paired.length r
def gV.get:∀{xs:List V}{us:List Ã}{i:Nat}{x:V},gV xs us->xs[i]?=fw x->∃u,us[i]?=fw u/\RelV x u
 |_,_,_,_,.nil,e=>by simp at e
 |_,_,0,_,.cons r _,e=>by simp at e;subst e;exact⟨_,rfl,r⟩
 |_,_,i+1,x,.cons _ t,e=>by let⟨u,h1,h2⟩:=gV.get (i:=i) (x:=x) t ⇑e;exact⟨u,⇑h1,h2⟩
def gV.set(r:RelV x u):∀{xs:List V}{us:List Ã}(i:Nat),gV xs us->gV (xs.set i x) (us.set i u)
 |_,_,_,.nil=>.nil
 |_,_,0,.cons _ t=>.cons r t
 |_,_,i+1,.cons q t=>.cons q<|gV.set r i t
def gV.append:∀{xs ys:List V}{us ws:List Ã},gV xs us->gV ys ws->gV (xs++ys) (us++ws)
 |_,_,_,_,.nil,s=>s
 |_,_,_,_,.cons r t,s=>.cons r<|gV.append t s
def gV.take:∀{xs:List V}{us:List Ã}(n:Nat),gV xs us->gV (xs.take n) (us.take n)
 |_,_,0,_=>.nil
 |_,_,_+1,.nil=>.nil
 |_,_,n+1,.cons r t=>.cons r<|gV.take n t
def gV.drop:∀{xs:List V}{us:List Ã}(n:Nat),gV xs us->gV (xs.drop n) (us.drop n)
 |_,_,0,r=>r
 |_,_,_+1,.nil=>.nil
 |_,_,n+1,.cons _ t=>gV.drop n t
abbrev gk:Option V->Option Ã->Prop
 |some v,fw u=>RelV v u
 |none,fx=>True
 |_,_=>False
abbrev KV{κ:Type}:List (κ×V)->List (κ×Ã)->Prop:=Paired λ(p:κ×V) (q:κ×Ã)=>p.1=q.1/\RelV p.2 q.2
abbrev kV:Key->V
 |.inl i=>.int i
 |.inr x=>.str x
inductive HO where
 |lst (xs:List V)
 |tup (xs:List V)
 |dK (kvs:List<|Key×V)|dT (kvs:List<|List Key×V)
 |set (S:Int->Bool) (n:Nat)
 |ins (C dx:Ð) (fs:List<|Str×V)
 |own (x:Ð)
 |xd (fs:List<|Str×V)
 |met (f x:Ð)
 |rng (lo hi:Int)
 |frz (o:Obj) (u:HO)
 |tbl (ps:Array Ã)
 |ext (φ:Č->Prop)
noncomputable abbrev Hp:=Ð->Option HO
abbrev upd(H:Hp)(a:Ð)(o:HO):Hp:=λb=>if b=a then fw o else H b
variable {H:Hp}{a:Ð}{o:HO}
def fB:upd H a o a=fw o:=by unfold upd;rw[hX rfl]
variable {b:Ð}
def fA(h:b≠a):upd H a o b=H b:=by unfold upd;rw[hZ h]
variable {u:HO}
def fE:upd (upd H a o) a u=upd H a u:=by funext b;unfold upd;split<;>rfl
def Re(h:H a=fw o)(h':H b=fw u)(d:o≠u):a≠b:=by intro e;subst e;rw[h]at h';exact d (æ h')
def Zj(h:H a=fw o)(h':H b=fx):a≠b:=by intro e;subst e;rw[h]at h';cases h'
section
variable (P:è)(w:ÿ)
abbrev fN(H:Hp)(h:Č)(a:Ð):HO->Prop
 |.lst xs=>xs.length<=à/\∃(ú:List Ã) (n:Nat),gV xs ú/\h.get? a=fw {cls:=.type "list",data:=.seq ú.toArray n}
 |.tup xs=>xs.length<=à/\∃ú:List Ã,gV xs ú/\aW h a ú.toArray
 |.dK kvs=>kvs.length<=à/\(a==ş)=fz/\∃vs,KV kvs vs/\h.DictOf (Zf P w) a vs
 |.dT kvs=>kvs.length<=à/\(a==ş)=fz/\∃xs:List<|List Key×Ð×Ã,
   Paired (λ(p:List Key×V) (q:List Key×Ð×Ã)=>p.1=q.1/\H q.2.1=fw (.tup<|p.1.map kV)/\RelV p.2 q.2.2) kvs xs/\
   ∃o es ep,h.get? a=fw o/\o.ExactDict/\o.data=.dict es ep/\es.toList=xs.map (entryOfKey<|Ϝ<|Zf P w)/\(xs.map (·.1)).Nodup
 |.set S n=>h.SetOf (Š P w) a S n
 |.ins C dx fs=>H dx=fw (.own a)/\fs.length<=1000/\dx≠a/\h.get? a=fw (PySem.W.instObj C dx)/\
   ∃mA,h.Ns1 dx mA/\(∀f,gk (fs.lookup f)<|mA f)/\PySem.Within mA (fs.map (·.1))
 |.own _=>∃o,h.get? a=fw o
 |.xd fs=>∃mA,h.Ns1 a mA/\∀f,gk (fs.lookup f) (mA f)
 |.rng lo hi=>∃t u v,h.get? a=fw {cls:=.type "range",data:=.fields #[.int lo t,.int hi u,.int 1 v]}
 |.frz o u=>h.get? a=fw o/\fN H h a u
 |.tbl ps=>h.get? a=fw {cls:=.none,data:=.fields ps}
 |.met f x=>h.get? a=fw (PySem.W.methodObj (.ref f)<|.ref x)
 |.ext φ=>φ h/\(∃o,h.get? a=fw o)/\∀h1 h2:Č,φ h1->(∀o,h1.get? a=fw o->h2.get? a=fw o)->φ h2
abbrev HOk(H:Hp)(h:Č):Prop:=∀a o,H a=fw o->fN P w H h a o
end
section
variable {w:ÿ}{a:Ð}
def fN.lt(x:fN P w H h a o):a<h.objs.size:=by
 cases o with
 |lst xs=>let⟨_,_,_,_,e⟩:=x;exact Ü e
 |tup xs=>let⟨_,_,_,p⟩:=x;exact p.lt
 |dK kvs=>let⟨_,_,_,_,o,_,_,e,_⟩:=x;exact Ü e
 |dT kvs=>let⟨_,_,_,_,o,_,_,e,_⟩:=x;exact Ü e
 |set S n=>let⟨o,_,_,_,e,_⟩:=x;exact Ü e
 |ins C dx fs=>let⟨_,_,_,e,_⟩:=x;exact Ü e
 |own y=>let⟨_,e⟩:=x;exact Ü e
 |xd fs=>let⟨_,⟨_,_,_,e,_⟩,_⟩:=x;exact Ü e
 |rng lo hi=>let⟨_,_,_,e⟩:=x;exact Ü e
 |frz ob u=>let⟨e,_⟩:=x;exact Ü e
 |tbl ps=>exact Ü (show h.get? a=fw _ from x)
 |met f y=>exact Ü (show h.get? a=fw _ from x)
 |ext φ=>let⟨_,⟨_,e⟩,_⟩:=x;exact Ü e
def Paired.mapP:∀{l₁:List α}{l₂:List β},Paired F l₁ l₂->(∀a b,F a b->G a b)->Paired G l₁ l₂
 |_,_,.nil,_=>.nil
 |_,_,.cons r t,f=>.cons (f _ _ r)<|Paired.mapP t f
def fN.stay(x:fN P w H h a o)(k:∀b u,(b=a\/H b=fw (.own a))->h.get? b=fw u->h'.get? b=fw u)(ho:∀b,H b=fw (.own a)->H' b=fw (.own a))(ht:∀b xs,H b=fw (.tup xs)->H' b=fw (.tup xs)):fN P w H' h' a o:=by
 induction o with
 |lst xs=>let⟨z,ú,n,r,e⟩:=x;exact⟨z,ú,n,r,k _ _ (.inl rfl) e⟩
 |tup xs=>let⟨z,ú,r,ob,e,c⟩:=x;exact⟨z,ú,r,ob,k _ _ (.inl rfl) e,c⟩
 |dK kvs=>let⟨z,y,vs,r,ob,es,ep,e,c⟩:=x;exact⟨z,y,vs,r,ob,es,ep,k _ _ (.inl rfl) e,c⟩
 |dT kvs =>let⟨z,y,xs,r,ob,es,ep,e,c⟩:=x;exact⟨z,y,xs,Paired.mapP r λp q z=>⟨z.1,ht _ _ z.2.1,z.2.2⟩,ob,es,ep,k _ _ (.inl rfl) e,c⟩
 |set S n=>let⟨ob,es,ep,t,e,c⟩:=x;exact⟨ob,es,ep,t,k _ _ (.inl rfl) e,c⟩
 |ins C dx fs =>let⟨d,z,ne,e,mA,⟨od,es,ep,e2,c⟩,r⟩:=x;exact⟨ho _ d,z,ne,k _ _ (.inl rfl) e,mA,⟨od,es,ep,k _ _ (.inr d) e2,c⟩,r⟩
 |own y=>let⟨ob,e⟩:=x;exact⟨ob,k _ _ (.inl rfl) e⟩
 |xd fs=>let⟨mA,⟨od,es,ep,e,c⟩,r⟩:=x;exact⟨mA,⟨od,es,ep,k _ _ (.inl rfl) e,c⟩,r⟩
 |rng lo hi=>let⟨t,u,v,e⟩:=x;exact⟨t,u,v,k _ _ (.inl rfl) e⟩
 |frz ob u ih=>let⟨e,q⟩:=x;exact⟨k _ _ (.inl rfl) e,ih q⟩
 |tbl ps =>have e:h.get? a=fw {cls:=.none,data:=.fields ps}:=x;show h'.get? a=fw {cls:=.none,data:=.fields ps};exact k a _ (.inl rfl) e
 |met f y =>have e:h.get? a=fw (PySem.W.methodObj (.ref f)<|.ref y):=x;show h'.get? a=fw (PySem.W.methodObj (.ref f)<|.ref y);exact k a _ (.inl rfl) e
 |ext φ=>let⟨p,⟨o,e⟩,st⟩:=x;exact⟨st _ _ p λo q=>k _ _ (.inl rfl) q,⟨o,k _ _ (.inl rfl) e⟩,st⟩
def HOk.lt(x:HOk P w H h)(e:H a=fw o):a<h.objs.size:=(x a o e).lt
def HOk.fresh(x:HOk P w H h)(e:h.objs.size<=a):H a=fx:=by
 cases q:H a with
 |none=>rfl
 |some u=>exact ij (ê (x.lt q) e)<|Ģ _
def HOk.kept(x:HOk P w H h)(k:∀b u,h.get? b=fw u->h'.get? b=fw u):HOk P w H h':=λa o e =>
 (x a o e).stay (λb u _ q=>k b u q) (λ_ q=>q) λ_ _ q=>q
def HOk.laid(x:HOk P w H h)(k:∀b u,h.get? b=fw u->h'.get? b=fw u)(hp:h.objs.size<=a)(new:fN P w (upd H a o) h' a o):HOk P w (upd H a o) h':=λb u e=>by
 have hn:=x.fresh hp;by_cases hb:b=a
 .subst hb;rw[fB]at e;cases e;exact new
 .rw[fA hb]at e;exact(x b u e).stay (λc v _ q=>k c v q) (λc q=>by rw[fA<|Zj q hn];exact q) λc xs q=>by rw[fA<|Zj q hn];exact q
end
abbrev Rd(H:Hp)(a:Ð)(u:HO):Prop:=H a=fw u\/∃o,H a=fw (.frz o u)
def Rd.ok(r:Rd H a u)(x:HOk P w H h):fN P w H h a u:=by
 rcases r with r|⟨o,r⟩
 .exact x a u r
 .obtain⟨_,q⟩:=x a _ r;exact q
abbrev Mut:Option HO->Prop
 |some (.lst _)=>True
 |some (.dK _)=>True
 |some (.dT _)=>True
 |some (.set _ _)=>True
 |some (.ins _ _ _)=>True
 |some (.ext _)=>True
 |_=>False
section
variable {w:ÿ}{H:Hp}{h:Č}{x e:Ð}{o':HO}
def HOk.write(ok:HOk P w H h)(mu:Mut<|H x)(he:e=x\/H e=fw (.own x))(k:∀b u,b≠e->h.get? b=fw u->h'.get? b=fw u)(heo:∃u,h'.get? e=fw u)(new:fN P w (upd H x o') h' x o'):HOk P w (upd H x o') h':=λb u q=>by
 have nown:∀c y,H c=fw (.own y)->c≠x:=λc y r z=>by subst z;rw[r]at mu;exact mu
 have ntup:∀c xs,H c=fw (.tup xs)->c≠x:=λc xs r z=>by subst z;rw[r]at mu;exact mu
 by_cases hb:b=x
 .subst hb;rw[fB]at q;cases q;exact new
 .rw[fA hb]at q;by_cases hbe:b=e
  .have q':H b=fw (.own x):=by
    rcases he with z|z
    .exact ij (hbe.trans z) hb
    .rw[hbe];exact z
   rw[q]at q';cases q';let⟨v,hv⟩:=heo;exact⟨v,by rw[hbe];exact hv⟩
  .refine(ok b u q).stay (λc v hc r=>k c v ?_ r) (λc r=>by rw[fA<|nown c b r];exact r) λc xs r=>by rw[fA<|ntup c xs r];exact r
   rcases hc with rfl|hc
   .exact hbe
   .rintro rfl;rcases he with z|z
    .exact nown c b hc z
    .rw[hc]at z;cases z;exact hb rfl
end
structure Un(fs ex:List Ð)(H H':Hp)(h h':Č):Prop where
 keep:∀b o,h.get? b=fw o->H b=fx->b∉fs->b∉ex->h'.get? b=fw o
 slot:∀b o,h.get? b=fw o->H b=fx->b∈fs->b∉ex->∃sl,h'.get? b=fw {o with slots:=sl}
 free:∀b o,h.get? b=fw o->H b=fx->b∉ex->H' b=fx
 there:∀b o,h.get? b=fw o->b∉ex->∃o',h'.get? b=fw o'
 tups:∀b xs,H b=fw (.tup xs)->H' b=fw (.tup xs)
 frzs:∀b o u,H b=fw (.frz o u)->H' b=fw (.frz o u)
 tbls:∀b ps,H b=fw (.tbl ps)->∃more,H' b=fw (.tbl<|ps++more)
section
variable {fs ex:List Ð}{H:Hp}{h h1 h2 h':Č}{a x e:Ð}{o:HO}
def Un.any(u:Un fs ex H H1 h h1)(q:h.get? b=fw ob)(n:H b=fx)(hx:b∉ex):∃sl,h1.get? b=fw {ob with slots:=sl}:=by
 by_cases hb:b∈fs
 .exact u.slot b ob q n hb hx
 .exact⟨ob.slots,u.keep b ob q n hb hx⟩
def Un.kept(k:∀b u,h.get? b=fw u->h'.get? b=fw u):Un fs ex H H h h' :=
 ⟨λb ob q _ _ _=>k b ob q,λb ob q _ _ _=>⟨ob.slots,k b ob q⟩,λ_ _ _ n _=>n,λb ob q _=>⟨ob,k b ob q⟩,λ_ _ q=>q,λ_ _ _ q=>q,λ_ ps q=>⟨#[],by rw[q];simp⟩⟩
def Un.refl:Un fs ex H H h h:=Un.kept λ_ _ q=>q
def Un.laid(k:∀b u,h.get? b=fw u->h'.get? b=fw u)(hp:h.objs.size<=a)(hn:H a=fx):Un fs ex H (upd H a o) h h' where
 keep:=λb u q _ _ _=>k b u q
 slot:=λb u q _ _ _=>⟨u.slots,k b u q⟩
 free:=λb u q n _=>by rw[fA<|é<|ê (Ü q) hp];exact n
 there:=λb u q _=>⟨u,k b u q⟩
 tups:=λb xs q=>by rw[fA<|Zj q hn];exact q
 frzs:=λb u xs q=>by rw[fA<|Zj q hn];exact q
 tbls:=λb ps q=>⟨#[],by rw[fA<|Zj q hn,q];simp⟩
def Un.write(mu:Mut<|H x)(he:e=x\/H e=fw (.own x))(k:∀b u,b≠e->h.get? b=fw u->h'.get? b=fw u)(heo:∃u,h'.get? e=fw u):Un fs ex H (upd H x o) h h':=by
 have hx:∀b,H b=fx->b≠x:=λb n z=>by subst z;rw[n]at mu;exact mu
 have hb:∀b,H b=fx->b≠e:=λb n z=>by
  subst z;rcases he with r|r
  .exact hx b n r
  .rw[n]at r;cases r
 have hm:∀b u,H b=fw u->¬ Mut (fw u)->b≠x:=λb u q nm z=>by subst z;rw[q]at mu;exact nm mu
 refine⟨λb u q n _ _=>k b u (hb b n) q,λb u q n _ _=>⟨u.slots,k b u (hb b n) q⟩,λb u q n _=>by rw[fA<|hx b n];exact n,λb u q _=>?_,
   λb xs q=>by rw[fA<|hm b _ q λz=>z];exact q,λb u xs q=>by rw[fA<|hm b _ q λz=>z];exact q,λb ps q=>⟨#[],by rw[fA<|hm b _ q λz=>z,q];simp⟩⟩
 by_cases hbe:b=e
 .subst hbe;exact heo
 .exact⟨u,k b u hbe q⟩
end
abbrev trk(h:Č)(H:Hp):List Ð:=(List.range h.objs.size).filter λa=>(H a).isSome
abbrev MH(h:Č)(H:Hp):Č:=PySem.W.hideAll h<|trk h H
def AE(h:Č)(H:Hp):(MH h H).objs.size=h.objs.size:=PySem.W.hideAll_size _ _
def CI{o:Obj}(e:h.get? b=fw o)(n:H b=fx):(MH h H).get? b=fw o :=
 PySem.W.hideAll_get _ e λhm=>by have q:(H b).isSome=fy:=(ù.mp hm).2;rw[n]at q;simp at q
def Hz{o:Obj}(e:(MH h H).get? b=fw o):h.get? b=fw o/\H b=fx:=by
 have e':h.get? b=fw o:=PySem.W.of_hideAll (trk h H) e;refine⟨e',?_⟩;cases q:H b with
 |none=>rfl
 |some x =>have hm:b∈trk h H:=ù.mpr ⟨ŏ.mpr<|Ü e',by simp[q]⟩;have z:(MH h H).get? b=fx:=PySem.W.hideAll_none (trk h H) hm;rw[z]at e;cases e
abbrev HC(g h:Č)(L:Ð):List<|Ð×Obj:=(List.range h.objs.size).filterMap λa=>if a=L\/(g.get? a).isSome=fy then fx else(h.get? a).map λo=>(a,o)
abbrev rest(g h:Č)(L d:Ð):List<|Ð×Obj:=(HC g h L).filter λp=>ik (p.1≠d)
structure Mod(K:Frag)(mg:Str->Option Ã)(base:Č):Prop where
 kin:K.In base
 glob:base.Ns ĉ mg
 blt:∃mb,base.Ns builtinsNs mb/\∀x:Str,x≠"__name__"->mb x=š x
 nolimit:base.NoLimit
structure Cx where
 prog:è
 w:ÿ
 K:Frag
 mg:Str->Option Ã
 base:Č
 A:Ď
 N:List Str
 s₀:Æ
 H₀:Hp
 env:Env
 outer:List Env
 stack:List Env
 ex:List Ð
 fn:Str->Bool
 calm:Bool
 pn:List<|Ð×Obj
 xe:Ã->Æ->Prop
abbrev frs(l:List Env):List Ð:=l.filterMap (·.frame)
noncomputable abbrev Cx.fs(X:Cx):List Ð:=frs X.outer
abbrev Vis(sc:ς)(x:Str):Prop:=sc.names.lookup x=fw .local\/sc.names.lookup x=fw .cell\/sc.names.lookup x=fw .free
abbrev Loc(sc:ς)(x:Str):Prop:=sc.names.lookup x=fw .local\/sc.names.lookup x=fw .cell
abbrev ST(env:Env)(h:Č)(m:Str->Option Ã)(x:Str)(u:Ã):Prop :=
 (env.kindOf x=fw .local/\m x=fw u)\/((env.kindOf x=fw .cell\/env.kindOf x=fw .free)/\∃c,env.cells.lookup x=fw c/\h.IsCell c (fw u))
structure Cx.Ok(X:Cx):Prop where
 mod:Mod X.K X.mg X.base
 kind:X.env.scope.kind=.function
 glob:X.env.globals=ĉ
 blt:X.env.builtins=builtinsNs
 above:X.s₀.heap.objs.size<=X.env.locals
 inj:∀x y c,X.env.cells.lookup x=fw c->X.env.cells.lookup y=fw c->x=y
 has:∀x,(X.env.kindOf x=fw .cell\/X.env.kindOf x=fw .free)->∃c,X.env.cells.lookup x=fw c
 cab:∀x c,X.fn x=fy->X.env.cells.lookup x=fw c->X.s₀.heap.objs.size<=c
 hd:X.calm=fy->X.A.handled=fx
 frames:X.A.frames=fw X.stack
 stk:X.stack=X.outer\/(X.stack=X.env::X.outer/\X.env.frame=fw X.env.locals)
 exf:∀b∈X.ex,b≠X.env.locals/\∀x c,X.env.cells.lookup x=fw c->c≠b
 bs:∀b o,X.base.get? b=fw o->X.s₀.heap.get? b=fw o/\X.H₀ b=fx
 bsz:X.base.objs.size<=X.s₀.heap.objs.size
 noex:∀b o,X.base.get? b=fw o->b∉X.ex
 exfs:∀b∈X.ex,b∉X.fs
 funs:X.s₀.heap.FunFrames X.base X.outer
 frf:∀b∈X.fs,X.H₀ b=fx
structure Inv(X:Cx)(Â:List<|Ð×Obj)(σ:List<|Option V)(H:Hp)(s:Æ):Prop where
 ok:X.Ok
 os:s.os=X.s₀.os
 bare:ώ s.gens
 base:Un X.fs X.ex X.H₀ H X.s₀.heap s.heap
 loc:∃m,s.heap.Ns X.env.locals m/\∀(i:Nat) (x:Str) (v:V),X.N[i]?=fw x->σ[i]?=fw (fw v)->Vis X.env.scope x->∃u,RelV v u/\ST X.env s.heap m x u
 cell:∀x c,X.env.cells.lookup x=fw c->∃v,s.heap.IsCell c v
 free:H X.env.locals=fx
 freeC:∀x c,X.env.cells.lookup x=fw c->H c=fx
 pin:∀p∈X.pn++Â,s.heap.get? p.1=fw p.2/\H p.1=fx/\p.1≠X.env.locals/\p.1∉X.fs/\∀v,p.2.data≠.cell v
 hok:HOk X.prog X.w H s.heap
 len:σ.length=X.N.length
section
variable {X:Cx}{Â:List (Ð×Obj)}{σ:List (Option V)}{H H':Hp}{s:Æ}{h':Č}
def Cx.Ok.nofr(ok:X.Ok){b:Ð}{o:Obj}(e:X.base.get? b=fw o):b∉X.fs:=λhb=>by have:=(ok.funs.mem hb).1;rw[e]at this;cases this
def Inv.bs(I:Inv X Â σ H s):∀b o,X.base.get? b=fw o->s.heap.get? b=fw o/\H b=fx:=λb o e =>
 ⟨I.base.keep b o (I.ok.bs b o e).1 (I.ok.bs b o e).2 (I.ok.nofr e)<|I.ok.noex b o e,I.base.free b o (I.ok.bs b o e).1 (I.ok.bs b o e).2<|I.ok.noex b o e⟩
def Inv.bk(I:Inv X Â σ H s):∀b o,X.base.get? b=fw o->s.heap.get? b=fw o:=λb o e=>(I.bs b o e).1
def Inv.mod(I:Inv X Â σ H s):Mod X.K X.mg X.base:=I.ok.mod
def Inv.kIn(I:Inv X Â σ H s):X.K.In s.heap:=I.ok.mod.kin.keeps I.bk
def Inv.lt(I:Inv X Â σ H s):X.env.locals<s.heap.objs.size:=let ⟨_,hn,_⟩:=I.loc;hn.lt
def Inv.sz(I:Inv X Â σ H s):X.s₀.heap.objs.size<=s.heap.objs.size:=Û I.ok.above (Γ I.lt)
variable {a:Ð}
def Inv.nofs(I:Inv X Â σ H s)(h:s.heap.objs.size<=a):a∉X.fs:=λhb=>by let⟨_,o,ho,_⟩:=I.ok.funs.mem hb;exact ij (ê (Ü ho)<|Û I.sz h) (Ģ _)
def Inv.cne(I:Inv X Â σ H s):∀x c,X.env.cells.lookup x=fw c->c≠X.env.locals:=λx c e z=>by let⟨v,o,ho,hd⟩:=I.cell x c e;let⟨m,⟨o',es,ep,aA,hd',_⟩,_⟩:=I.loc;rw[z,aA]at ho;cases ho;rw[hd']at hd;cases hd
def Inv.funs(I:Inv X Â σ H s):s.heap.FunFrames X.base X.outer:=by
 have all:∀(l:List Env),(∀b∈frs l,b∈X.fs)->X.s₀.heap.FunFrames X.base l->s.heap.FunFrames X.base l:=by
  intro l;induction l with
  |nil=>intro _ _;trivial
  |cons env r ih =>intro hs hl;let⟨hk,⟨L,o,hf,hn,ho,hd⟩,hr⟩:=hl;have hL:L∈X.fs:=hs L (by unfold frs;rw[î,hf];exact ó);let⟨sl,e⟩:=I.base.slot L o ho (I.ok.frf L hL) hL λz=>I.ok.exfs L z hL;exact⟨hk,⟨L,_,hf,hn,e,hd⟩,ih (λb hb=>hs b<|by unfold frs;rw[î,hf];exact â _ hb) hr⟩
 exact all X.outer (λ_ hb=>hb) I.ok.funs
def Inv.stack(I:Inv X Â σ H s):s.heap.FunFrames X.base X.stack:=by
 rcases I.ok.stk with e|⟨e,hf⟩
 .rw[e];exact I.funs
 .rw[e];let⟨m,hn,_⟩:=I.loc;refine .cons (by rw[I.ok.kind];decide) hf hn ?_ I.funs;exact Heap.get?_none_of_le<|Û I.ok.bsz I.ok.above
def Inv.stkSub(I:Inv X Â σ H s):∀b∈frs X.stack,b∈X.env.locals::X.fs:=λb hb=>by
 rcases I.ok.stk with e|⟨e,hf⟩
 .rw[e]at hb;exact â _ hb
 .rw[e]at hb;unfold frs at hb;rw[î,hf]at hb;exact hb
def Inv.stkFree(I:Inv X Â σ H s):∀b∈frs X.stack,H b=fx:=λb hb=>by
 rcases Ç.mp (I.stkSub b hb)with e|hb
 .rw[e];exact I.free
 .obtain⟨_,o,ho,_⟩:=I.ok.funs.mem hb;exact I.base.free b o ho (I.ok.frf b hb) λz=>I.ok.exfs b z hb
variable {g':Array cA}{t':Nat}{ch:List Ð}
def Inv.step(I:Inv X Â σ H s)(hch:∀b∈ch,(b∈X.ex\/X.s₀.heap.objs.size<=b)/\b≠X.env.locals/\(∀x c,X.env.cells.lookup x=fw c->c≠b)/\∀p∈X.pn++Â,p.1≠b)(keep:∀b o,b≠X.env.locals->b∉X.fs->b∉ch->s.heap.get? b=fw o->H b=fx->h'.get? b=fw o)(slot:∀b o,b≠X.env.locals->b∈X.fs->b∉ch->s.heap.get? b=fw o->H b=fx->∃sl,h'.get? b=fw {o with slots:=sl})(free:∀b o,b∉ch->s.heap.get? b=fw o->H b=fx->H' b=fx)(there:∀b o,b∉ch->s.heap.get? b=fw o->∃o',h'.get? b=fw o')(tups:∀b xs,H b=fw (.tup xs)->H' b=fw (.tup xs))(frzs:∀b o u,H b=fw (.frz o u)->H' b=fw (.frz o u))(tbls:∀b ps,H b=fw (.tbl ps)->∃more,H' b=fw (.tbl<|ps++more))(ns:∀m,s.heap.Ns X.env.locals m->h'.Ns X.env.locals m)(hok:HOk X.prog X.w H' h')(hg:ώ g') :
  Inv X Â σ H' {s with heap:=h',gens:=g',drawn:=d',toks:=t'}:=by
 have neL:∀b o,X.s₀.heap.get? b=fw o->b≠X.env.locals:=λb o e=>é<|ê (Ü e) I.ok.above;have neC:∀b o,X.s₀.heap.get? b=fw o->b∉X.ex->b∉ch:=λb o e hx hb=>by
  rcases (hch b hb).1 with z|z
  .exact hx z
  .exact ij (ê (Ü e) z)<|Ģ _
 have cellK:∀x c,X.env.cells.lookup x=fw c->∀v,s.heap.IsCell c v->h'.IsCell c v:=λx c e v ⟨o,ho,hd⟩=>by
  have nch:c∉ch:=λz=>(hch c z).2.2.1 x c e rfl;by_cases hc:c∈X.fs
  .obtain⟨sl,q⟩:=slot c o (I.cne x c e) hc nch ho<|I.freeC x c e;exact⟨_,q,hd⟩
  .exact⟨o,keep c o (I.cne x c e) hc nch ho<|I.freeC x c e,hd⟩
 refine⟨I.ok,I.os,hg,⟨λb o e n hb hx=>?_,λb o e n hb hx=>?_,λb o e n hx=>?_,λb o e hx=>?_,λb xs e=>tups b xs<|I.base.tups b xs e,λb o xs e=>frzs b o xs<|I.base.frzs b o xs e,λb ps e=>?_⟩,?_,λx c e=>?_,?_,λx c e=>?_,λp hp=>?_,hok,I.len⟩
 .exact keep b o (neL b o e) hb (neC b o e hx) (I.base.keep b o e n hb hx)<|I.base.free b o e n hx
 .obtain⟨sl,e1⟩:=I.base.slot b o e n hb hx;let⟨sl',e2⟩:=slot b _ (neL b o e) hb (neC b o e hx) e1<|I.base.free b o e n hx;exact⟨sl',e2⟩
 .obtain⟨o',e1⟩:=I.base.there b o e hx;exact free b o' (neC b o e hx) e1<|I.base.free b o e n hx
 .obtain⟨o',e1⟩:=I.base.there b o e hx;exact there b o' (neC b o e hx) e1
 .obtain⟨m1,e1⟩:=I.base.tbls b ps e;let⟨m2,e2⟩:=tbls b _ e1;exact⟨m1++m2,by rw[e2,Array.append_assoc]⟩
 .obtain⟨m,hn,hl⟩:=I.loc;refine⟨m,ns m hn,λi x v e1 e2 e3=>?_⟩;let⟨u,r,l⟩:=hl i x v e1 e2 e3;refine⟨u,r,?_⟩;rcases l with l|⟨k,c,e,z⟩
  .exact .inl l
  .exact .inr ⟨k,c,e,cellK x c e _ z⟩
 .obtain⟨v,z⟩:=I.cell x c e;exact⟨v,cellK x c e v z⟩
 .obtain⟨m,⟨o,_,_,ho,_⟩,_⟩:=I.loc;exact free _ o (λz=>(hch _ z).2.1 rfl) ho I.free
 .obtain⟨v,o,ho,hd⟩:=I.cell x c e;exact free c o (λz=>(hch c z).2.2.1 x c e rfl) ho<|I.freeC x c e
 .obtain⟨e,n,ne,nf,d⟩:=I.pin p hp;have nch:p.1∉ch:=λz=>(hch p.1 z).2.2.2 p hp rfl;exact⟨keep p.1 p.2 ne nf nch e n,free p.1 p.2 nch e n,ne,nf,d⟩
def Inv.un(I:Inv X Â σ H s)(u:Un X.fs [] H H' s.heap h')(hok:HOk X.prog X.w H' h'):Inv X Â σ H' {s with heap:=h',toks:=t'}:=by
 let⟨m,⟨o,es,ep,ho,r⟩,_⟩:=id I.loc;let⟨sl,hL⟩:=u.any ho I.free (by simp);exact I.step (g':=s.gens) (d':=s.drawn) (ch:=[]) (λ_ z=>nomatch z) (λb o _ hb _ e n=>u.keep b o e n hb<|by simp) (λb o _ hb _ e n=>u.slot b o e n hb<|by simp) (λb o _ e n=>u.free b o e n<|by simp) (λb o _ e=>u.there b o e<|by simp) u.tups u.frzs u.tbls (λm' hm=>by
   let⟨o',es',ep',aA,r'⟩:=hm
   rw[ho]at aA;cases aA
   exact⟨_,es',ep',hL,r'⟩) hok I.bare
def Inv.call(I:Inv X Â σ H s)(u:Un (frs X.stack) ch H H' s.heap h')(hok:HOk X.prog X.w H' h')(hg:ώ g')(hch:∀b∈ch,(b∈X.ex\/X.s₀.heap.objs.size<=b)/\b≠X.env.locals/\(∀x c,X.env.cells.lookup x=fw c->c≠b)/\∀p∈X.pn++Â,p.1≠b) :
  Inv X Â σ H' {s with heap:=h',gens:=g',drawn:=d',toks:=t'}:=by
 let⟨m,⟨o,es,ep,ho,r⟩,_⟩:=id I.loc;let⟨sl,hL⟩:=u.any ho I.free λz=>(hch _ z).2.1 rfl;exact I.step (ch:=ch) hch (λb o hL hb hc e n=>u.keep b o e n (λz=>(Ç.mp<|I.stkSub b z).elim hL hb) hc) (λb o _ _ hc e n=>u.any e n hc) (λb o hc e n=>u.free b o e n hc) (λb o hc e=>u.there b o e hc) u.tups u.frzs u.tbls (λm' hm=>by
   let⟨o',es',ep',aA,r'⟩:=hm
   rw[ho]at aA;cases aA
   exact⟨_,es',ep',hL,r'⟩) hok hg
def Inv.turned(I:Inv X Â σ H s)(k:∀b o,b≠it->s.heap.get? b=fw o->h'.get? b=fw o)(hn:H it=fx)(hL:it≠X.env.locals)(h1:it∈X.ex\/X.s₀.heap.objs.size<=it)(h2:∀x c,X.env.cells.lookup x=fw c->c≠it)(h3:∀p∈X.pn++Â,p.1≠it):Inv X Â σ H {s with heap:=h',toks:=t'}:=by
 have nit:∀b u,H b=fw u->b≠it:=λb u e z=>by rw[z,hn]at e;cases e
 refine I.step (g':=s.gens) (d':=s.drawn) (ch:=[it]) (λb hb=>?_) (λb o _ _ hc e _=>k b o (λz=>hc<|by simp[z]) e) (λb o _ _ hc e _=>⟨o.slots,k b o (λz=>hc<|by simp[z]) e⟩) (λ_ _ _ _ n=>n)
  (λb o hc e=>⟨o,k b o (λz=>hc<|by simp[z]) e⟩) (λ_ _ e=>e) (λ_ _ _ e=>e) (λb ps e=>⟨#[],by rw[e];simp⟩) (λm hm=>?_) (λb u e=>?_) I.bare
 .have e:b=it:=⇑hb
  subst e;exact⟨h1,hL,h2,h3⟩
 .obtain⟨o,es,ep,ho,r⟩:=hm;exact⟨o,es,ep,k _ o (Ne.symm hL) ho,r⟩
 .refine(I.hok b u e).stay (λc v hc q=>k c v ?_ q) (λ_ q=>q) λ_ _ q=>q;rcases hc with z|z
  .rw[z];exact nit b u e
  .exact nit c _ z
def Inv.tok(I:Inv X Â σ H s)(t:Nat):Inv X Â σ H {s with toks:=t}:=I.un (h':=s.heap) (t':=t) Un.refl I.hok
def Inv.kept(I:Inv X Â σ H s)(k:∀b u,s.heap.get? b=fw u->h'.get? b=fw u):Inv X Â σ H {s with heap:=h',toks:=t'}:=I.un (Un.kept k) (I.hok.kept k)
variable {o:HO}
def Inv.laid(I:Inv X Â σ H s)(k:∀b u,s.heap.get? b=fw u->h'.get? b=fw u)(hp:s.heap.objs.size<=a)(new:fN X.prog X.w (upd H a o) h' a o) :
  Inv X Â σ (upd H a o) {s with heap:=h',toks:=t'}:=I.un (Un.laid k hp<|I.hok.fresh hp)<|I.hok.laid k hp new
def Inv.write(I:Inv X Â σ H s)(mu:Mut<|H x)(he:e=x\/H e=fw (.own x))(k:∀b u,b≠e->s.heap.get? b=fw u->h'.get? b=fw u)(heo:∃u,h'.get? e=fw u)(new:fN X.prog X.w (upd H x o) h' x o):Inv X Â σ (upd H x o) {s with heap:=h',toks:=t'}:=I.un (Un.write mu he k heo)<|I.hok.write mu he k heo new
def Inv.pins_of(I:Inv X Â σ H s)(h:∀p∈pins',s.heap.get? p.1=fw p.2/\H p.1=fx/\p.1≠X.env.locals/\p.1∉X.fs/\∀v,p.2.data≠.cell v):Inv X pins' σ H s :=
 ⟨I.ok,I.os,I.bare,I.base,I.loc,I.cell,I.free,I.freeC,λp hp=>(Ò.mp hp).elim (λz=>I.pin p<|Ô _ z)<|h p,I.hok,I.len⟩
variable {i:Nat}{x:Str}
def NU{N:List Str}(hN:N.Nodup){j:Nat}(a:N[i]?=fw x)(b:N[j]?=fw x):i=j:=by let⟨h1,e1⟩:=Ó.mp a;let⟨h2,e2⟩:=Ó.mp b;exact(av hN).mp (e1.trans e2.symm)
variable {M:Model}{A:Ď}{u:Ã}{Q:Unit->Æ->Prop}
def Mm(I:Inv X Â σ H s)(hN:X.N.Nodup)(hi:X.N[i]?=fw x)(hx:Loc X.env.scope x)(r:RelV v u)(h:∀s',Inv X Â (σ.set i<|fw v) H s'->(∃a,ź a s.heap s'.heap/\(a=X.env.locals\/X.env.cells.lookup x=fw a))->Q () s')(hf:X.fn x=fy\/X.env.scope.names.lookup x=fw .local:=by first|exact .inl rfl|exact .inr rfl|assumption):wpAny M A (storeName X.env x u) Q E s:=by
 let⟨m,hn,hl⟩:=id I.loc;have hcls:(X.env.scope.kind == .class||(X.env.scope.kind == .module&&X.env.locals != X.env.globals))=fz:=by rw[I.ok.kind];rfl
 have hiσ:i<σ.length:=by rw[I.len];exact(Ó.mp hi).1
 have cne:=I.cne;have du:∀{a:Ð}{h':Č},(∃o,s.heap.get? a=fw o/\H a=fx)->ź a s.heap h'->HOk X.prog X.w H h':=λ{a h'} ha hs b ob e=>by
  let⟨_,_,hfree⟩:=ha;refine(I.hok b ob e).stay (λc w' hc q=>(hs.2 c ?_).trans q) (λ_ q=>q) λ_ _ q=>q;rintro rfl;rcases hc with rfl|hc
  .rw[hfree]at e;cases e
  .rw[hfree]at hc;cases hc
 rcases hx with hk|hk
 .refine wpAny_storeName_local hk hn (λh' hn' hs=>?_) hcls;let⟨oL,_,_,dR,_⟩:=id hn;refine h _ ⟨I.ok,I.os,I.bare,⟨λb o e n hb hx=>?_,λb o e n hb hx=>?_,I.base.free,λb o e hx=>?_,I.base.tups,I.base.frzs,I.base.tbls⟩,⟨_,hn',λj y v' e1 e2 e3=>?_⟩,λy c e=>?_,I.free,I.freeC,λp hp=>?_,du ⟨oL,dR,I.free⟩ hs,by simpa using I.len⟩ ⟨_,hs,.inl rfl⟩
  .exact(hs.2 b<|é<|ê (Ü e) I.ok.above).trans<|I.base.keep b o e n hb hx
  .obtain⟨sl,e1⟩:=I.base.slot b o e n hb hx;exact⟨sl,(hs.2 b<|é<|ê (Ü e) I.ok.above).trans e1⟩
  .obtain⟨o',e1⟩:=I.base.there b o e hx;exact⟨o',(hs.2 b<|é<|ê (Ü e) I.ok.above).trans e1⟩
  .by_cases hj:j=i
   .subst hj;rw[hi]at e1;cases e1;rw[Ϗ hiσ]at e2;cases e2;exact⟨u,r,.inl ⟨hk,by simp⟩⟩
   .rw[ο<|Ne.symm hj]at e2;let⟨u',r',q⟩:=hl j y v' e1 e2 e3;refine⟨u',r',?_⟩;rcases q with⟨k,e⟩|⟨k,c,e,z⟩
    .refine .inl ⟨k,?_⟩;have:y≠x:=λe=>hj<|NU hN e1<|e▸hi;simp[this,e]
    .exact .inr ⟨k,c,e,z.sameBut hs<|cne y c e⟩
  .obtain⟨w',z⟩:=I.cell y c e;exact⟨w',z.sameBut hs<|cne y c e⟩
  .obtain⟨e,n,ne,nf,d⟩:=I.pin p hp;exact⟨(hs.2 p.1 ne).trans e,n,ne,nf,d⟩
 .have hfn:X.fn x=fy:=by
   rcases hf with z|z
   .exact z
   .rw[z]at hk;cases hk
  let⟨c,hc⟩:=I.ok.has x<|.inl hk;let⟨w',z⟩:=I.cell x c hc;refine wpAny_storeName_cell I.ok.kind hk hc z λh' hc' hs=>?_;let⟨oc,hoc,hocd⟩:=id z;refine h {s with heap:=h'} ⟨I.ok,I.os,I.bare,⟨λb o e n hb hx=>?_,λb o e n hb hx=>?_,I.base.free,λb o e hx=>?_,I.base.tups,I.base.frzs,I.base.tbls⟩,⟨m,hn.sameBut hs<|Ne.symm<|cne x c hc,λj y v' e1 e2 e3=>?_⟩,λy c' e=>?_,I.free,I.freeC,λp hp=>?_,du ⟨oc,hoc,I.freeC x c hc⟩ hs,by simpa using I.len⟩ ⟨c,hs,.inr hc⟩
  .exact(hs.2 b<|é<|ê (Ü e)<|I.ok.cab x c hfn hc).trans<|I.base.keep b o e n hb hx
  .obtain⟨sl,e1⟩:=I.base.slot b o e n hb hx;exact⟨sl,(hs.2 b<|é<|ê (Ü e)<|I.ok.cab x c hfn hc).trans e1⟩
  .obtain⟨o',e1⟩:=I.base.there b o e hx;exact⟨o',(hs.2 b<|é<|ê (Ü e)<|I.ok.cab x c hfn hc).trans e1⟩
  .by_cases hj:j=i
   .subst hj;rw[hi]at e1;cases e1;rw[Ϗ hiσ]at e2;cases e2;exact⟨u,r,.inr ⟨.inl hk,c,hc,hc'⟩⟩
   .rw[ο<|Ne.symm hj]at e2;let⟨u',r',q⟩:=hl j y v' e1 e2 e3;refine⟨u',r',?_⟩;rcases q with q|⟨k,c',e,z'⟩
    .exact .inl q
    .refine .inr ⟨k,c',e,z'.sameBut hs ?_⟩;rintro rfl;exact hj<|NU hN e1<|I.ok.inj _ _ _ e hc▸hi
  .by_cases hcc:c'=c
   .subst hcc;exact⟨_,hc'⟩
   .obtain⟨w2,z2⟩:=I.cell y c' e;exact⟨w2,z2.sameBut hs hcc⟩
  .obtain⟨e,n,ne,nf,d⟩:=I.pin p hp;refine⟨(hs.2 p.1 ?_).trans e,n,ne,nf,d⟩;intro q;rw[q,hoc]at e;have q':oc=p.2:=æ e;exact d w' (by rw[<-q'];exact hocd)
def DZ(I:Inv X Â σ H s)(hN:X.N.Nodup)(hi:X.N[i]?=fw x)(hx:Loc X.env.scope x)(r:RelV v u)(h:∀s',Inv X Â (σ.set i<|fw v) H s'->Q () s')(hf:X.fn x=fy\/X.env.scope.names.lookup x=fw .local:=by first|exact .inl rfl|exact .inr rfl|assumption):wpAny M A (storeName X.env x u) Q E s :=
 Mm I hN hi hx r (λs' I' _=>h s' I') hf
def Inv.call'(I:Inv X Â σ H s)(ho:s'.os=s.os)(u:Un (frs X.stack) ch H H' s.heap s'.heap)(hok:HOk X.prog X.w H' s'.heap)(hg:ώ s'.gens)(hch:∀b∈ch,(b∈X.ex\/X.s₀.heap.objs.size<=b)/\b≠X.env.locals/\(∀x c,X.env.cells.lookup x=fw c->c≠b)/\∀p∈X.pn++Â,p.1≠b):Inv X Â σ H' s':=by
 let⟨h',g',d',t',o'⟩:=s';have e:o'=s.os:=ho;subst e;exact I.call (g':=g') (t':=t') (d':=d') u hok hg hch
end
noncomputable abbrev XK:=Ã->Option Ð->Hp->Prop
noncomputable abbrev St:=List<|Option V
noncomputable abbrev VK:=V->Hp->Prop
noncomputable abbrev TE:=St->Hp->VK->Prop
noncomputable abbrev TT:=St->Hp->(Bool->Hp->Prop)->Prop
noncomputable abbrev TA:=St->Hp->(List V->Hp->Prop)->Prop
structure Ends where
 nx:St->Hp->Prop
 rt:VK
 bk:St->Hp->Prop:=λ_ _=>False
 ct:St->Hp->Prop:=λ_ _=>False
noncomputable abbrev TS:=Ends->St->Hp->Prop
inductive EP (X:Cx) (Â:List<|Ð×Obj) (σ:St) (Q:VK) (u:Ã) (s':Æ):Prop
 |mk (v:V) (H':Hp) (i:Inv X Â σ H' s') (r:RelV v u) (q:Q v H')
abbrev TP(X:Cx)(Â:List<|Ð×Obj)(σ:St)(Q:Bool->Hp->Prop)(b:Bool)(s':Æ):Prop:=∃H',Inv X Â σ H' s'/\Q b H'
inductive AP (X:Cx) (Â:List<|Ð×Obj) (σ:St) (Q:List V->Hp->Prop) (us:List Ã) (s':Æ):Prop
 |mk (vs:List V) (H':Hp) (i:Inv X Â σ H' s') (r:gV vs us) (q:Q vs H')
abbrev SP(X:Cx)(Â:List<|Ð×Obj)(D:Ends)(f:Flow)(s':Æ):Prop :=
 match f with
 |.next=>∃Ű H',Inv X Â Ű H' s'/\D.nx Ű H'
 |.brk=>∃Ű H',Inv X Â Ű H' s'/\D.bk Ű H'
 |.cont=>∃Ű H',Inv X Â Ű H' s'/\D.ct Ű H'
 |.ret u=>∃v Ű H',Inv X Â Ű H' s'/\RelV v u/\D.rt v H'
abbrev PE(X:Cx)(e:Expr)(t:TE):Prop :=
 ∀(Â:List<|Ð×Obj) (s:Æ) (σ:St) (H:Hp) (Q:VK),Inv X Â σ H s->t σ H Q->wpAny ↥2 X.A (eval e X.env) (EP X Â σ Q) X.xe s
abbrev PT(X:Cx)(e:Expr)(t:TT):Prop :=
 ∀(Â:List<|Ð×Obj) (s:Æ) (σ:St) (H:Hp) (Q:Bool->Hp->Prop),Inv X Â σ H s->t σ H Q->wpAny ↥2 X.A (cB e X.env<|eval e X.env) (TP X Â σ Q) X.xe s
abbrev PW(X:Cx)(e:Expr)(t:TT):Prop :=
 ∀(aH:Sem Ã) (Â:List<|Ð×Obj) (s:Æ) (σ:St) (H:Hp) (Q:Bool->Hp->Prop),Inv X Â σ H s->t σ H Q->wpAny ↥2 X.A (cB e X.env aH) (TP X Â σ Q) X.xe s
def PW.pt(h:PW X e t):PT X e t:=h _
abbrev PA(X:Cx)(es:List Expr)(t:TA):Prop :=
 ∀(í:Pos) (Â:List<|Ð×Obj) (s:Æ) (σ:St) (H:Hp) (Q:List V->Hp->Prop),Inv X Â σ H s->t σ H Q->wpAny ↥2 X.A (spliced<|Ĥ í<|Ý es X.env) (AP X Â σ Q) X.xe s
abbrev PS(X:Cx)(st:ł)(t:TS):Prop :=
 ∀(Â:List<|Ð×Obj) (s:Æ) (σ:St) (H:Hp) (D:Ends),Inv X Â σ H s->t D σ H->wpAny ↥2 X.A (exec st X.env) (SP X Â D) X.xe s
abbrev PSs(X:Cx)(st:List ł)(t:TS):Prop :=
 ∀(Â:List<|Ð×Obj) (s:Æ) (σ:St) (H:Hp) (D:Ends),Inv X Â σ H s->t D σ H->wpAny ↥2 X.A (execs st X.env) (SP X Â D) X.xe s
def thn(h:wpAny M A t Q E s)(hQ:∀a s,Q a s->Q' a s):wpAny M A t Q' E s:=į h hQ λ_ _ x=>x
section
variable {X:Cx}
variable {Â:List (Ð×Obj)}{s:Æ}{σ:St}{H:Hp}
def bin{a b:Expr}{ta tb:TE}(ha:PE X a ta)(hb:PE X b tb){R:V->V->Hp->Prop}(I:Inv X Â σ H s)(h:ta σ H λx H1=>tb σ H1 λy H2=>R x y H2)
  {α:Type}{Q:α->Æ->Prop}{f:Ã->Ã->Sem α}
  (hf:∀v u s2 x y H2,Inv X Â σ H2 s2->RelV x v->RelV y u->R x y H2->wpAny ↥2 X.A (f v u) Q X.xe s2) :
  wpAny ↥2 X.A (eval a X.env) (λv ġ=>wpAny ↥2 X.A (eval b X.env) (λu cb=>wpAny ↥2 X.A (f v u) Q X.xe cb) X.xe ġ) X.xe s:=by
 refine thn (ha Â s σ H _ I h) λv s1 ⟨x,H1,I1,r1,q1⟩=>?_;refine thn (hb Â s1 σ H1 _ I1 q1) λu s2 ⟨y,H2,I2,r2,q2⟩=>?_;exact hf v u s2 x y H2 I2 r1 r2 q2
abbrev QQ(i:Nat):TE:=λσ H Q=>∃v,σ[i]?=fw (fw v)/\Q v H
abbrev tC(v:V):TE:=λ_ H Q=>Q v H
variable {x:Str}{í:Pos}
def EE(hN:X.N[i]?=fw x)(hv:Vis X.env.scope x)(hd:(x==("__debug__" : Str))=fz:=by decide)(aT:(x==("__classdict__" : Str))=fz:=by decide):PE X (.Name x í)<|QQ i:=by
 k_sub;let⟨v,e,h⟩:=h;let⟨m,hn,hl⟩:=I.loc;let⟨u,r,l⟩:=hl i x v hN e hv;have fin:EP X Â σ Q u s:=⟨v,H,I,r,h⟩
 rcases l with⟨hk,hm⟩|⟨hk,c,hc,hcell⟩
 .exact wpAny_Name (wpAny_loadName_local I.ok.kind hk hn hm fin) hd
 .rcases hk with hk|hk
  .exact wpAny_Name (wpAny_loadName_cell I.ok.kind hk hc hcell fin) hd
  .exact wpAny_Name (wpAny_loadName_free I.ok.kind hk hc hcell fin aT) hd
def OV{i j í}:PE X (.Constant (.int i) j í)<|tC<|.int i:=λ_ _ _ H _ I h=>wpAny_Constant_int ⟨.int i,H,I.tok _,⟨_,rfl⟩,h⟩
def QK{b j í}:PE X (.Constant (.bool b) j í)<|tC<|.bl b:=λ_ _ _ H _ I h=>Constant_bool ⟨.bl b,H,I,rfl,h⟩
def DS{j í}:PE X (.Constant .none j í)<|tC .non:=λ_ _ _ H _ I h=>dC ⟨.non,H,I,rfl,h⟩
def PQ{x j í}:PE X (.Constant (.str x) j í)<|tC<|.str x:=λ_ _ _ H _ I h=>Calls.Constant_str ⟨.str x,H,I.tok _,⟨_,rfl⟩,h⟩
abbrev Gl(X:Cx)(x:Str):Prop:=X.env.kindOf x=fw .globalImplicit
variable {u:Ã}{Q:Ã->Æ->Prop}
def Jb(I:Inv X Â σ H s)(hg:Gl X x)(hm:X.mg x=fw u)(h:Q u s)(hd:(x==("__debug__" : Str))=fz:=by decide):wpAny ↥2 X.A (eval (.Name x í) X.env) Q E s :=
 Calls.Name_function_global I.ok.kind hg (Calls.loadGlobal_global (by rw[I.ok.glob];exact I.mod.glob.keeps I.bk) hm h) hd
def YM{E:Ã->Æ->Prop}(I:Inv X Â σ H s)(hg:Gl X x)(hm:X.mg x=fx)(hv:š x=fw u)(h:Q u s)
  (hn:x≠"__name__":=by decide) (hd:(x==("__debug__" : Str))=fz:=by decide):wpAny ↥2 X.A (eval (.Name x í) X.env) Q E s:=by
 let⟨mb,h1,h2⟩:=I.mod.blt;exact Calls.Name_function_global I.ok.kind hg (Calls.loadGlobal_builtin (by rw[I.ok.glob];exact I.mod.glob.keeps I.bk) hm (by rw[I.ok.blt];exact h1.keeps I.bk) ((h2 x hn).trans hv) h) hd
def Gy(hg:Gl X x)(hm:X.mg x=fw u)(r:RelV v u)(hd:(x==("__debug__" : Str))=fz:=by decide):PE X (.Name x í) (tC v) :=
 λ_ _ _ H _ I h=>Jb I hg hm ⟨v,H,I,r,h⟩ hd
def F9(hg:Gl X x)(hm:X.mg x=fx)(hv:š x=fw u)(r:RelV v u)(hn:x≠"__name__":=by decide)(hd:(x==("__debug__" : Str))=fz:=by decide):PE X (.Name x í) (tC v) :=
 λ_ _ _ H _ I h=>YM I hg hm hv ⟨v,H,I,r,h⟩ hn hd
variable {a b:Expr}{í:Pos}
abbrev PC(X:Cx)(op:cC)(a b:Expr)(t:TE):Prop :=
 ∀(Â:List<|Ð×Obj) (s:Æ) (σ:St) (H:Hp) (Q:VK),Inv X Â σ H s->t σ H Q->
  wpAny ↥2 X.A (eval a X.env) (λv ġ=>wpAny ↥2 X.A (eval b X.env) (λu cb=>wpAny ↥2 X.A (ð op v u) (EP X Â σ Q) X.xe cb) X.xe ġ) X.xe s
def NN(b:Expr)(h:op≠.In)(h2:op≠.NotIn):ŀ op b=fz:=by
 have e1:(op==CmpOp.In)=fz:=by cases op<;>first|rfl|exact ij rfl h
 have e2:(op==CmpOp.NotIn)=fz:=by cases op<;>first|rfl|exact ij rfl h2
 cases b<;>simp[ŀ,e1,e2]
abbrev SH(ta:TE):TE:=λσ H Q=>ta σ H λx H1=>Q (.bl<|ik (x=.non)) H1
abbrev So(ta:TE):TE:=λσ H Q=>ta σ H λx H1=>Q (.bl (!ik (x=.non))) H1
def RelV.none_iff{x:V}{v:Ã}(r:RelV x v):(v==Value.none)=ik (x=.non):=by
 cases x with
 |non=>cases r;rfl
 |bl _=>cases r;rfl
 |int _=>let⟨t,rfl⟩:=r;rfl
 |str _=>let⟨t,rfl⟩:=r;rfl
 |byt _=>let⟨t,rfl⟩:=r;rfl
 |flt _=>let⟨t,rfl⟩:=r;rfl
 |ref _=>cases r;rfl
 |ty _=>cases r;rfl
def EL{j bG}(ha:PE X a ta):PC X .Is a (.Constant .none j bG)<|SH ta:=by k_sub;refine thn (ha Â s σ H _ I h) λv s1 ⟨x,H1,I1,r1,q1⟩=>?_;exact dC (is_none_gen ⟨.bl _,H1,I1,by rw[r1.none_iff];rfl,q1⟩)
def UP{j bG}(ha:PE X a ta):PC X .IsNot a (.Constant .none j bG)<|So ta:=by k_sub;refine thn (ha Â s σ H _ I h) λv s1 ⟨x,H1,I1,r1,q1⟩=>?_;exact dC (isnot_none_gen ⟨.bl _,H1,I1,by rw[r1.none_iff];rfl,q1⟩)
abbrev tB(t:TE):TT:=λσ H Q=>t σ H λx H1=>∃c,x=.bl c/\Q c H1
def BY(h:PC X op a b t)(h1:ŀ op b=fz:=by first|exact NN _ ↥1 ↥1|rfl):PE X (.Compare a [op] [b] í) t:=λÂ s σ H Q I hw=>wpAny_Compare1 (h Â s σ H Q I hw) h1
def Cq(h:PC X op a b t)(h1:ŀ op b=fz:=by first|exact NN _ ↥1 ↥1|rfl):PT X (.Compare a [op] [b] í)<|tB t:=by intro Â s σ H Q I hw;refine wpAny_isTrue_Compare1 (thn (h Â s σ H _ I hw) λv s1 h1=>thn h1 λu s2 h2=>thn h2 λc s3 ⟨x,H1,I1,r1,q1⟩=>?_) h1;let⟨d,rfl,q⟩:=q1;cases r1;exact Ē ⟨H1,I1,q⟩
variable {rest:List Expr}
abbrev SU(t u:TT):TT:=λσ H Q=>t σ H λc H1=>if c=fy then u σ H1 Q else Q fz H1
abbrev tOr(t u:TT):TT:=λσ H Q=>t σ H λc H1=>if c=fy then Q fy H1 else u σ H1 Q
abbrev SJ(t:TT):TT:=λσ H Q=>t σ H λc H1=>Q (!c) H1
def FV(ha:PT X a tA):PW X (.BoolOp .And [a] í) tA:=by
 intro wh Â s σ H Q I h;refine isTrue_and<|thn (ha Â s σ H Q I h) λc s1 e=>?_;cases c with
 |true=>exact isTrue_and_nil e
 |false=>exact e
def Lz(ha:PT X a tA):PW X (.BoolOp .Or [a] í) tA:=by
 intro wh Â s σ H Q I h;refine isTrue_or<|thn (ha Â s σ H Q I h) λc s1 e=>?_;cases c with
 |false=>exact isTrue_or_nil e
 |true=>exact e
def Lq(ha:PT X a tA)(hb:PW X (.BoolOp .And (b::rest) í) tB'):PW X (.BoolOp .And (a::b::rest) í)<|SU tA tB':=by
 intro wh Â s σ H Q I h;refine isTrue_and<|thn (ha Â s σ H _ I h) λc s1 ⟨H1,I1,q1⟩=>?_;cases c with
 |true=>exact hb wh Â s1 σ H1 Q I1 q1
 |false=>exact⟨H1,I1,q1⟩
def Si(ha:PT X a tA)(hb:PW X (.BoolOp .Or (b::rest) í) tB'):PW X (.BoolOp .Or (a::b::rest) í)<|tOr tA tB':=by
 intro wh Â s σ H Q I h;refine isTrue_or<|thn (ha Â s σ H _ I h) λc s1 ⟨H1,I1,q1⟩=>?_;cases c with
 |true=>exact⟨H1,I1,q1⟩
 |false=>exact hb wh Â s1 σ H1 Q I1 q1
def PV(ha:PT X a tA):PT X (.UnaryOp .Not a í)<|SJ tA:=by k_sub;exact isTrue_not (ha Â s σ H (λc H1=>Q (!c) H1) I h)
abbrev R6(ta tb:TE):TE:=λσ H Q=>ta σ H λx H1=>∃c,x=.bl c/\if c=fy then tb σ H1 Q else Q (.bl fz) H1
abbrev SX(ta tb:TE):TE:=λσ H Q=>ta σ H λx H1=>∃c,x=.bl c/\if c=fy then Q (.bl fy) H1 else tb σ H1 Q
abbrev Rb(ta:TE):TE:=λσ H Q=>ta σ H λx H1=>∃c,x=.bl c/\Q (.bl (!c)) H1
def EG{op}(h:PE X a t):PE X (.BoolOp op [a] í) t:=λÂ s σ H Q I hw=>BoolOp_one (h Â s σ H Q I hw)
def PM(ha:PE X a ta)(hb:PE X (.BoolOp .And (b::rest) í) tb):PE X (.BoolOp .And (a::b::rest) í)<|R6 ta tb:=by
 k_sub;refine BoolOp_and<|thn (ha Â s σ H _ I h) λv s1 ⟨x,H1,I1,r1,q1⟩=>?_;let⟨c,rfl,q1⟩:=q1;cases r1;refine Ē ?_;cases c with
 |true=>exact hb Â s1 σ H1 Q I1 q1
 |false=>exact⟨.bl fz,H1,I1,rfl,q1⟩
def Sn(ha:PE X a ta)(hb:PE X (.BoolOp .Or (b::rest) í) tb):PE X (.BoolOp .Or (a::b::rest) í)<|SX ta tb:=by
 k_sub;refine BoolOp_or<|thn (ha Â s σ H _ I h) λv s1 ⟨x,H1,I1,r1,q1⟩=>?_;let⟨c,rfl,q1⟩:=q1;cases r1;refine Ē ?_;cases c with
 |false=>exact hb Â s1 σ H1 Q I1 q1
 |true=>exact⟨.bl fy,H1,I1,rfl,q1⟩
def LM(ha:PE X a ta):PE X (.UnaryOp .Not a í)<|Rb ta:=by k_sub;refine UnaryOp_<|thn (ha Â s σ H _ I h) λv s1 ⟨x,H1,I1,r1,q1⟩=>?_;let⟨c,rfl,q1⟩:=q1;cases r1;exact not_of (Ē ⟨.bl (!c),H1,I1,rfl,q1⟩)
abbrev tIf(t:TT)(ta tb:TE):TE:=λσ H Q=>t σ H λc H1=>if c=fy then ta σ H1 Q else tb σ H1 Q
def D0(hc:PT X c tA)(ha:PE X a ta)(hb:PE X b tb):PE X (.IfExp c a b í)<|tIf tA ta tb:=by
 k_sub;refine wpAny_IfExp<|thn (hc Â s σ H _ I h) λd s1 ⟨H1,I1,q1⟩=>?_;cases d with
 |true=>exact ha Â s1 σ H1 Q I1 q1
 |false=>exact hb Â s1 σ H1 Q I1 q1
end
abbrev gT(K:Frag)(H:Hp)(a:Ð)(xs:List V):Prop :=
 Rd H a (.lst xs)\/
  ∃(o:Obj) (ú:Array Ã) (n:Nat),K.lookup a=fw o/\o.cls=.type "list"/\o.dict=fx/\o.data=.seq ú n/\ú.size<=à/\gV xs ú.toList
abbrev gU(K:Frag)(H:Hp)(a:Ð)(xs:List V):Prop :=
 Rd H a (.tup xs)\/
  ∃(o:Obj) (ú:Array Ã) (n:Nat),K.lookup a=fw o/\o.cls=.type "tuple"/\o.data=.seq ú n/\ú.size<=à/\gV xs ú.toList
abbrev absV:Ã->Option V
 |.none=>fw .non
 |.bool b=>fw<|.bl b
 |.int i _=>fw<|.int i
 |.str x _=>fw<|.str x
 |.bytes b _=>fw<|.byt b
 |.float b _=>fw<|.flt b
 |.ref a=>fw<|.ref a
 |.type n=>fw<|.ty n
 |_=>fx
variable {x:V}{u:Ã}
def RelV.abs(r:RelV x u):absV u=fw x:=by
 cases x with
 |non=>cases r;rfl
 |bl _=>cases r;rfl
 |int _=>let⟨t,rfl⟩:=r;rfl
 |str _=>let⟨t,rfl⟩:=r;rfl
 |byt _=>let⟨t,rfl⟩:=r;rfl
 |flt _=>let⟨t,rfl⟩:=r;rfl
 |ref _=>cases r;rfl
 |ty _=>cases r;rfl
def RelV.inj(r:RelV x u)(q:RelV y u):x=y:=æ (r.abs.symm.trans q.abs)
def gV.inj:∀{xs ys:List V}{us:List Ã},gV xs us->gV ys us->xs=ys
 |_,_,_,.nil,.nil=>rfl
 |_,_,_,.cons r t,.cons r' t'=>by rw[r.inj r',gV.inj t t']
section
variable {a:Ð}
def gT.of{K:Frag}(h:H a=fw (.lst xs)):gT K H a xs:=.inl (.inl h)
def gU.of{K:Frag}(h:H a=fw (.tup xs)):gU K H a xs:=.inl (.inl h)
def Inv.list(I:Inv X Â σ H s)(h:gT X.K H a xs):∃ú:List Ã,gV xs ú/\PlainL s.heap a ú.toArray/\xs.length<=à:=by
 rcases h with h|⟨o,ú,n,hk,hc,hd,hs,hz,r⟩
 .obtain⟨z,ú,n,r,e⟩:=h.ok I.hok;exact⟨ú,r,⟨_,n,e,rfl,rfl,rfl⟩,z⟩
 .refine⟨ú.toList,r,⟨o,n,I.kIn a o hk,hc,hd,⇑hs⟩,?_⟩;have e:=r.length;simp![ø]at e;lia
def Inv.tuple(I:Inv X Â σ H s)(h:gU X.K H a xs):∃ú:List Ã,gV xs ú/\aW s.heap a ú.toArray/\xs.length<=à:=by
 rcases h with h|⟨o,ú,n,hk,hc,hs,hz,r⟩
 .obtain⟨z,ú,r,p⟩:=h.ok I.hok;exact⟨ú,r,p,z⟩
 .refine⟨ú.toList,r,⟨o,I.kIn a o hk,hc,n,⇑hs⟩,?_⟩;have e:=r.length;simp![ø]at e;lia
def Inv.list_inj(I:Inv X Â σ H s)(h:gT X.K H a xs)(h':gT X.K H a ys):xs=ys:=by
 let⟨ú,r,⟨o,n,e,_,_,d⟩,_⟩:=I.list h;let⟨its',r',⟨o',n',e',_,_,d'⟩,_⟩:=I.list h';rw[e]at e';cases e';rw[d]at d';injection d' with d1 _;have:ú=its':=by simpa using congrArg bY d1
 subst this;exact r.inj r'
def Inv.tuple_inj(I:Inv X Â σ H s)(h:gU X.K H a xs)(h':gU X.K H a ys):xs=ys:=by
 let⟨ú,r,⟨o,e,_,n,d⟩,_⟩:=I.tuple h;let⟨its',r',⟨o',e',_,n',d'⟩,_⟩:=I.tuple h';rw[e]at e';cases e';rw[d]at d';injection d' with d1 _;have:ú=its':=by simpa using congrArg bY d1
 subst this;exact r.inj r'
end
section
variable {st:ł}{rest:List ł}{t u:TS}{e:Expr}{í:Pos}
abbrev QG:TS:=λD σ H=>D.nx σ H
abbrev SE(t u:TS):TS:=λD σ H=>t {D with nx:=u D} σ H
def pss_nil:PSs X [] QG:=λ_ _ σ H _ I h=>wpAny_execs_nil ⟨σ,H,I,h⟩
def EZ(h1:PS X st t)(h2:PSs X rest u):PSs X (st::rest)<|SE t u:=by
 intro Â s σ H D I h;refine wpAny_execs_cons<|thn (h1 Â s σ H {D with nx:=u D} I h) λf s1 q=>?_;cases f with
 |next =>let⟨Ű,H',I',q⟩:=q;exact h2 Â s1 Ű H' D I' q
 |ret v=>exact q
 |brk=>exact q
 |cont=>exact q
def Inv.quiet{Â:List (Ð×Obj)}{σ:St}{H:Hp}{s:Æ}(I:Inv X Â σ H s):interactive X.env=fz:=by simp[interactive,I.ok.kind]
abbrev Sw(te:TE):TS:=λD σ H=>te σ H λ_ H1=>D.nx σ H1
def HM(he:PE X e te)(hs:η e fx í.line X.env=pure fz:=by rfl):PS X (.Expr e í)<|Sw te:=by intro Â s σ H D I h;exact wpAny_Expr_any (thn (he Â s σ H _ I h) λv s1 ⟨x,H1,I1,r1,q1⟩=>⟨σ,H1,I1,q1⟩) I.quiet hs
abbrev S6(te:TE):TS:=λD σ H=>te σ H D.rt
def LF(he:PE X e te):PS X (.Return (fw e) í)<|S6 te:=by intro Â s σ H D I h;exact wpAny_Return_some (thn (he Â s σ H _ I h) λv s1 ⟨x,H1,I1,r1,q1⟩=>⟨x,σ,H1,I1,r1,q1⟩)
abbrev QU:TS:=λD _ H=>D.rt .non H
def ps_retN:PS X (.Return fx í) QU:=λ_ _ σ H _ I h=>wpAny_Return_none ⟨.non,σ,H,I,rfl,h⟩
abbrev Tx(c:TT)(t u:TS):TS:=λD σ H=>c σ H λb H1=>if b=fy then t D σ H1 else u D σ H1
def Q8{c:Expr}{a b:List ł}{tc:TT}(hc:PT X c tc)(ha:PSs X a t)(hb:PSs X b u):PS X (.If c a b í)<|Tx tc t u:=by
 intro Â s σ H D I h;refine wpAny_If<|thn (hc Â s σ H _ I h) λd s1 ⟨H1,I1,q1⟩=>?_;cases d with
 |true=>exact ha Â s1 σ H1 D I1 q1
 |false=>exact hb Â s1 σ H1 D I1 q1
end
noncomputable abbrev TG:=V->St->Hp->(St->Hp->Prop)->Prop
noncomputable abbrev TGs:=List V->St->Hp->(St->Hp->Prop)->Prop
abbrev PG(X:Cx)(ae:Expr)(t:TG):Prop :=
 ∀(Â:List<|Ð×Obj) (s:Æ) (σ:St) (H:Hp) (v:V) (u:Ã) (Q:St->Hp->Prop),Inv X Â σ H s->RelV v u->t v σ H Q->
  wpAny ↥2 X.A (χ ae X.env u) (λ_ s'=>∃Ű H',Inv X Â Ű H' s'/\Q Ű H') X.xe s
abbrev PGs(X:Cx)(ts:List Expr)(t:TGs):Prop :=
 ∀(Â:List<|Ð×Obj) (s:Æ) (σ:St) (H:Hp) (vs:List V) (us:List Ã) (Q:St->Hp->Prop),Inv X Â σ H s->gV vs us->t vs σ H Q->
  wpAny ↥2 X.A (assignInOrder ((Ĝ ts X.env).map (·.2)) us) (λ_ s'=>∃Ű H',Inv X Â Ű H' s'/\Q Ű H') X.xe s
noncomputable abbrev E3:=V->V->V->Hp->(Hp->Prop)->Prop
abbrev PSet(X:Cx)(t:E3):Prop :=
 ∀(Â:List<|Ð×Obj) (s:Æ) (σ:St) (H:Hp) (o i v:V) (ov iv u:Ã) (Q:Hp->Prop),Inv X Â σ H s->RelV o ov->RelV i iv->RelV v u->t o i v H Q->
  wpAny ↥2 X.A (aX ov iv u) (λ_ s'=>∃H',Inv X Â σ H' s'/\Q H') X.xe s
noncomputable abbrev TIp:=V->V->Hp->VK->Prop
abbrev PIp(X:Cx)(op:ϝ)(t:TIp):Prop :=
 ∀(Â:List<|Ð×Obj) (s:Æ) (σ:St) (H:Hp) (x y:V) (v u:Ã) (Q:VK),Inv X Â σ H s->RelV x v->RelV y u->t x y H Q->
  wpAny ↥2 X.A (inplaceOp op v u) (EP X Â σ Q) X.xe s
section
variable {í:Pos}
abbrev Ix(i:Nat):TG:=λv σ H Q=>Q (σ.set i<|fw v) H
def U6{i:Nat}{x:Str}(hN:X.N.Nodup)(hi:X.N[i]?=fw x)(hx:Loc X.env.scope x)(hf:X.fn x=fy\/X.env.scope.names.lookup x=fw .local:=by first|exact .inl rfl|exact .inr rfl|assumption):PG X (.Name x í)<|Ix i:=by intro Â s σ H v u Q I r h;exact wpAny_assign_Name (DZ I hN hi hx r (λs' I'=>⟨_,H,I',h⟩) hf)
abbrev S5:TGs:=λvs σ H Q=>vs=[]/\Q σ H
abbrev Sx(t:TG)(u:TGs):TGs:=λvs σ H Q=>∃v r,vs=v::r/\t v σ H λŰ H'=>u r Ű H' Q
def pgs_nil:PGs X [] S5:=by intro Â s σ H vs us Q I r h;let⟨e,h⟩:=h;subst e;cases r;exact assignInOrder_nil ⟨σ,H,I,h⟩
variable {e:Expr}
def Jw{t:TG}{u:TGs}(h1:PG X e t)(h2:PGs X es u)
  (hs:(Ĝ (e::es) X.env).map (·.2)=χ e X.env::(Ĝ es X.env).map (·.2):=by rfl):PGs X (e::es)<|Sx t u:=by
 intro Â s σ H vs us Q I r h;let⟨v,vr,e1,h⟩:=h;subst e1;cases r with
 |cons r rr =>rw[hs];refine assignInOrder_cons<|thn (h1 Â s σ H _ _ _ I r h) λ_ s1 ⟨σ1,H1,I1,q1⟩=>?_;exact h2 Â s1 σ1 H1 _ _ Q I1 rr q1
abbrev S3(K:Frag)(n:Nat)(t:TGs):TG:=λv σ H Q=>∃a xs,v=.ref a/\gU K H a xs/\xs.length=n/\t xs σ H Q
def Du{k:Nat}{n:Nat}(hc:X.calm=fy)(h:PGs X es t)(hn:(Ĝ es X.env).length=n:=by rfl)(Ź:(Ĝ es X.env).findIdx? (·.1)=fx:=by rfl):PG X (.Tuple es k í)<|S3 X.K n t:=by
 intro Â s σ H v u Q I r hw;let⟨a,xs,e1,hq,hl,hw⟩:=hw;subst e1;cases r;let⟨ú,rv,ht,hz⟩:=I.tuple hq;refine assign_Tuple_tuple (I.ok.hd hc) ht (by simp[hn,<-hl,rv.length]) Ź λh' hx=>?_;have I1:Inv X Â σ H {s with heap:=h'}:=I.kept (t':=s.toks) λb o e=>hx b o (é<|Ü e) e;exact h Â _ σ H xs _ Q I1 ⇑rv hw
abbrev RS(to ti:TE)(t:E3):TG:=λv σ H Q=>to σ H λo H1=>ti σ H1 λi H2=>t o i v H2 λH3=>Q σ H3
variable {o:Expr}{i:Expr}{ti:TE}
def IY(ho:PE X o to)(hi:PE X i ti)(hs:PSet X t)(ha:∀v,χ (.Subscript o i í) X.env v=(do
    let ov<-ŕ [v] (eval o X.env)
    let iv<-ŕ [v,ov] (eval i X.env)
    ϐ í
    ŕ [v,ov,iv] (aX ov iv v)
    eS [v,ov,iv] []):=by intro _;rfl):PG X (.Subscript o i í)<|RS to ti t:=by
 intro Â s σ H v u Q I r h;rw[ha];refine À<|ĕ<|thn (ho Â s σ H _ I h) λov s1 ⟨x,H1,I1,r1,q1⟩=>?_;refine À<|ĕ<|thn (hi Â s1 σ H1 _ I1 q1) λiv s2 ⟨y,H2,I2,r2,q2⟩=>?_;refine À<|dD<|À<|ĕ<|thn (hs Â s2 σ H2 x y v ov iv u _ I2 r1 r2 r q2) λ_ s3 ⟨H3,I3,q3⟩=>?_;exact wpAny_release ⟨σ,H3,I3,q3⟩
abbrev RF(te:TE)(g:TG):TS:=λD σ H=>te σ H λx H1=>g x σ H1 D.nx
def BX(he:PE X e te)(hg:PG X tg g)(hs:ϕ [tg] e í.line X.env=pure fz:=by rfl)(hw:ϖ [tg] e X.env=pure fx:=by rfl)(h1:(Ĝ [tg] X.env).map (·.2)=[χ tg X.env]:=by rfl):PS X (.Assign [tg] e í)<|RF te g:=by
 intro Â s σ H D I h;refine wpAny_Assign_stores (thn (he Â s σ H _ I h) λv s1 ⟨x,H1,I1,r1,q1⟩=>?_) hs hw;rw[h1];exact thn (hg Â s1 σ H1 x v _ I1 r1 q1) λ_ s2 q=>q
abbrev Sc(to ti te:TE)(tget:V->V->Hp->VK->Prop)(tip:TIp)(tset:E3):TS:=λD σ H=>to σ H λo H1=>ti σ H1 λi H2=>tget o i H2 λx H3=>te σ H3 λy H4=>tip x y H4 λz H5=>tset o i z H5 λH6=>D.nx σ H6
abbrev PGet(X:Cx)(t:V->V->Hp->VK->Prop):Prop :=
 ∀(Â:List<|Ð×Obj) (s:Æ) (σ:St) (H:Hp) (o i:V) (ov iv:Ã) (Q:VK),Inv X Â σ H s->RelV o ov->RelV i iv->t o i H Q->
  wpAny ↥2 X.A (Ϥ ov iv) (EP X Â σ Q) X.xe s
def G0(ho:PE X o to)(hi:PE X i ti)(hg:PGet X tget)(he:PE X e te)(hp:PIp X op tip)(hs:PSet X tset)(ha:∀ov iv new,augStore i ov iv new=(do ŕ [new,ov,iv] (aX ov iv new);eS [new,ov,iv] [];pure .next):=by intros;rfl):PS X (.AugAssign (.Subscript o i cW) op e í)<|Sc to ti te tget tip tset:=by
 intro Â s σ H D I h;refine wpAny_AugAssign_SubscriptAny (thn (ho Â s σ H _ I h) λov s1 ⟨x1,H1,I1,r1,q1⟩=>?_) ha;refine thn (hi Â s1 σ H1 _ I1 q1) λiv s2 ⟨x2,H2,I2,r2,q2⟩=>?_;refine thn (hg Â s2 σ H2 x1 x2 ov iv _ I2 r1 r2 q2) λϠ s3 ⟨x3,H3,I3,r3,q3⟩=>?_;refine thn (he Â s3 σ H3 _ I3 q3) λv s4 ⟨x4,H4,I4,r4,q4⟩=>?_;refine thn (hp Â s4 σ H4 x3 x4 Ϡ v _ I4 r3 r4 q4) λnew s5 ⟨x5,H5,I5,r5,q5⟩=>?_;exact thn (hs Â s5 σ H5 x1 x2 x5 ov iv new _ I5 r1 r2 r5 q5) λ_ s6 ⟨H6,I6,q6⟩=>⟨σ,H6,I6,q6⟩
end
structure It where
 go:Nat->Hp->Prop
 yld:Nat->Hp->V->Hp->Prop
 stop:Nat->Hp->Prop
abbrev Wz(X:Cx)(Â:List<|Ð×Obj)(H:Hp)(b:Ð):Prop :=
 H b=fx/\b≠X.env.locals/\b∉X.fs/\(b∈X.ex\/X.s₀.heap.objs.size<=b)/\(∀x c,X.env.cells.lookup x=fw c->c≠b)/\∀p∈X.pn++Â,p.1≠b
variable {s:Æ}
def Inv.fpOk{X:Cx}{Â:List (Ð×Obj)}{σ:St}{H H':Hp}{b:Ð}(I:Inv X Â σ H s)(hb:s.heap.objs.size<=b)(hn:H' b=fx):Wz X Â H' b:=by
 refine⟨hn,Ū<|ê I.lt hb,I.nofs hb,.inr<|Û I.sz hb,λx c e z=>?_,λp hp z=>?_⟩
 .obtain⟨v,q⟩:=I.cell x c e;exact ij (ê q.lt<|by rw[z];exact hb)<|Ģ _
 .exact ij (ê (Ü (I.pin p hp).1)<|by rw[z];exact hb)<|Ģ _
structure Turn(P:è)(w:ÿ)(K:Frag)(tg:Expr)(J:It)(fp:List Ð)(it:Ð)(tn:Nat->Č->Prop):Prop where
 mem:it∈fp
 obj:∀i h,tn i h->∀b∈fp,∃o,h.get? b=fw o/\∀v,o.data≠.cell v
 keep:∀i h h',tn i h->(∀b∈fp,∀o,h.get? b=fw o->h'.get? b=fw o)->tn i h'
 item:∀(X:Cx),X.prog=P->X.w=w->X.K=K->X.calm=fy->∀(i:Nat) (Â:List<|Ð×Obj) (s:Æ) (σ:St) (H:Hp) (E:Ã->Æ->Prop),Inv X Â σ H s->(∀b∈fp,Wz X Â H b)->tn i s.heap->J.go i H->
  wpAny (á P w) X.A (ϗ<|.ref it) (λr s1=>∃u,r=fw u/\
    wpAny (á P w) X.A (ϭ tg (.ref it) u) (λ_ s2=>∃x H',Inv X Â σ H' s2/\RelV x u/\J.yld i H x H'/\tn (i+1) s2.heap/\∀b∈fp,H' b=fx) E s1) E s
 done:∀(X:Cx),X.prog=P->X.w=w->X.K=K->X.calm=fy->∀(i:Nat) (Â:List<|Ð×Obj) (s:Æ) (σ:St) (H:Hp) (E:Ã->Æ->Prop),Inv X Â σ H s->(∀b∈fp,Wz X Â H b)->tn i s.heap->J.stop i H->
  wpAny (á P w) X.A (ϗ<|.ref it) (λr s1=>r=fx/\Inv X Â σ H s1) E s
 self:∀(A:Ď) (i:Nat) (s:Æ) (Q:Ã->Æ->Prop) (E:Ã->Æ->Prop),tn i s.heap->Q (.ref it) s->wpAny (á P w) A (eU<|.ref it) Q E s
noncomputable abbrev TI:=St->Hp->(It->Hp->Prop)->Prop
abbrev PIE(X:Cx)(Â:List<|Ð×Obj)(σ:St)(tg:Expr)(R:It->Hp->Prop)(itv:Ã)(s2:Æ):Prop :=
 ∃(it:Ð) (fp:List Ð) (tn:Nat->Č->Prop) (J:It) (H':Hp),itv=.ref it/\Inv X Â σ H' s2/\Turn X.prog X.w X.K tg J fp it tn/\tn 0 s2.heap/\(∀b∈fp,Wz X Â H' b)/\R J H'
abbrev PI(X:Cx)(tg ŷ:Expr)(wi:TI):Prop :=
 ∀(Â:List<|Ð×Obj) (s:Æ) (σ:St) (H:Hp) (R:It->Hp->Prop),Inv X Â σ H s->wi σ H R->
  wpAny ↥2 X.A (eval ŷ X.env) (λv s1=>wpAny ↥2 X.A (eU v) (PIE X Â σ tg R) X.xe s1) X.xe s
variable {tg:Expr}
def fH{M:Model}{A:Ď}{E:Ã->Æ->Prop}{it:Ð}{o:Obj}{n:String}{vs:Array Ã}{Q:Unit->Æ->Prop}(ho:s.heap.get? it=fw o)(hc:o.cls=.type n)(hd:o.data=.fields vs)
  (hn:["enumerate","zip","dict_itemiterator","dict_reverseitemiterator","odict_iterator","itertools.zip_longest","itertools.pairwise"].contains n=fz) (hQ:Q () s):wpAny M A (ϭ tg (.ref it) u) Q E s:=by
 unfold ϭ;cases tg<;>first
  |exact È hQ
  | (cases u<;>first
      |exact È hQ
      | (refine À (wpAny_load ho ?_)
         rw[hc,hd]
         show wpAny M A (if(["enumerate","zip","dict_itemiterator","dict_reverseitemiterator","odict_iterator","itertools.zip_longest","itertools.pairwise"].contains n&&vs[0]? == fw (Ĩ _))=fy then _ else _) Q E s
         rw[hZ<|by intro h;rw[hn,Bool.false_and]at h;cases h]
         exact È hQ))
abbrev Itl(K:Frag)(a:Ð):It :=
 ⟨λi H=>∃xs x,gT K H a xs/\xs[i]?=fw x,λi H x H'=>H'=H/\∀xs,gT K H a xs->xs[i]?=fw x,λi H=>∃xs,gT K H a xs/\xs.length<=i⟩
abbrev Itt(K:Frag)(a:Ð):It :=
 ⟨λi H=>∃xs x,gU K H a xs/\xs[i]?=fw x,λi H x H'=>H'=H/\∀xs,gU K H a xs->xs[i]?=fw x,λi H=>∃xs,gU K H a xs/\xs.length<=i⟩
abbrev Itr(lo:Int)(n:Nat):It:=⟨λi _=>i<n,λi H x H'=>H'=H/\x=.int (lo+i),λi _=>n<=i⟩
variable {P:è}{w:ÿ}
def BI{K:Frag}(a it:Ð):Turn P w K tg (Itl K a) [it] it (λi h=>h.IsListIter it a i) where
 mem:=by simp
 obj:=λi h st b hb=>by
  have e:b=it:=⇑hb
  subst e;let⟨o,e,c,d⟩:=st;exact⟨o,e,λv z=>by rw[d]at z;cases z⟩
 keep:=λi h h' st k=>st.at λo e=>k it (by simp) o e
 item:=by k_upd;subst hP hw hK;let⟨xs,x,hq,hx⟩:=hg;let⟨ú,rv,p,hz⟩:=I.list hq;let⟨u,hu,ru⟩:=rv.get hx;let⟨f0,f1,f2,f3,f4,f5⟩:=hf it (by simp);refine wpAny_pyNext_list_item st p.isList (x:=u) ⇑hu λh' cX sb=>?_;have I1:Inv X Â σ H {s with heap:=h'}:=I.turned (t':=s.toks) (λb o hb e=>(sb.2 b hb).trans e) f0 f1 f3 f4 f5;let⟨o,e,c,d⟩:=id cX;exact⟨u,rfl,fH (s:={s with heap:=h'}) e c d ↥1 ⟨x,H,I1,ru,⟨rfl,λys hy=>by rw[I.list_inj hy hq];exact hx⟩,cX,λb hb=>(hf b hb).1⟩⟩
 done:=by k_upd;subst hP hw hK;let⟨xs,hq,hx⟩:=hg;let⟨ú,rv,p,hz⟩:=I.list hq;let⟨f0,f1,f2,f3,f4,f5⟩:=hf it (by simp);have hl:=rv.length;exact wpAny_pyNext_list_end (I.ok.hd hc) st p.isList (by simp;lia) λh' eb=>⟨rfl,I.turned (t':=s.toks) (λb o hb e=>eb b o hb e) f0 f1 f3 f4 f5⟩
 self:=λ_ _ _ _ _ st h=>wpAny_pyIter_listiter st h
def Up{K:Frag}(a it:Ð):Turn P w K tg (Itt K a) [it] it (λi h=>h.IsTupleIter it a i) where
 mem:=by simp
 obj:=λi h st b hb=>by
  have e:b=it:=⇑hb
  subst e;let⟨o,e,c,d⟩:=st;exact⟨o,e,λv z=>by rw[d]at z;cases z⟩
 keep:=λi h h' st k=>st.at λo e=>k it (by simp) o e
 item:=by k_upd;subst hP hw hK;let⟨xs,x,hq,hx⟩:=hg;let⟨ú,rv,p,hz⟩:=I.tuple hq;let⟨u,hu,ru⟩:=rv.get hx;let⟨f0,f1,f2,f3,f4,f5⟩:=hf it (by simp);refine wpAny_pyNext_tuple_item st (show s.heap.IsTuple a ú.toArray from p) (x:=u) ⇑hu λh' cX sb=>?_;have I1:Inv X Â σ H {s with heap:=h'}:=I.turned (t':=s.toks) (λb o hb e=>(sb.2 b hb).trans e) f0 f1 f3 f4 f5;let⟨o,e,c,d⟩:=id cX;exact⟨u,rfl,fH (s:={s with heap:=h'}) e c d ↥1 ⟨x,H,I1,ru,⟨rfl,λys hy=>by rw[I.tuple_inj hy hq];exact hx⟩,cX,λb hb=>(hf b hb).1⟩⟩
 done:=by k_upd;subst hP hw hK;let⟨xs,hq,hx⟩:=hg;let⟨ú,rv,p,hz⟩:=I.tuple hq;let⟨f0,f1,f2,f3,f4,f5⟩:=hf it (by simp);have hl:=rv.length;exact wpAny_pyNext_tuple_end (I.ok.hd hc) st (show s.heap.IsTuple a ú.toArray from p) (by simp;lia) λh' eb=>⟨rfl,I.turned (t':=s.toks) (λb o hb e=>eb b o hb e) f0 f1 f3 f4 f5⟩
 self:=λ_ _ _ _ _ st h=>wpAny_pyIter_tupleiter st h
def OX{K:Frag}(it:Ð)(lo:Int)(n:Nat):Turn P w K tg (Itr lo n) [it] it (λi h=>IsRangeIter h it (lo+(i:Nat)*1) ((n:Int) - (i:Nat)) 1) where
 mem:=by simp
 obj:=λi h st b hb=>by
  have e:b=it:=⇑hb
  subst e;exact⟨_,st,λv z=>by
    have z':Data.fields _=Data.cell v:=z
    cases z'⟩
 keep:=λi h h' st k=>k it (by simp) _ st
 item:=by k_upd;subst hP hw hK;let⟨f0,f1,f2,f3,f4,f5⟩:=hf it (by simp);have W:=Walks.range (prog:=X.prog) (w:=X.w) (I.ok.hd hc) it lo 1 n;refine W.item i s _ _ hg st λv h' tk hv cX kk=>?_;let⟨t,rfl⟩:=hv;have I1:Inv X Â σ H {s with heap:=h',toks:=tk}:=I.turned (λb o hb e=>kk b o ⇑hb e) f0 f1 f3 f4 f5;refine⟨_,rfl,fH (s:={s with heap:=h',toks:=tk}) (n:="range_iterator") cX rfl rfl ↥1 ⟨.int<|lo+i,H,I1,⟨t,?_⟩,⟨rfl,rfl⟩,cX,λb hb=>(hf b hb).1⟩⟩;rw[dF]
 done:=by k_upd;subst hP hw hK;let⟨f0,f1,f2,f3,f4,f5⟩:=hf it (by simp);exact wpAny_pyNext_range_end (I.ok.hd hc) st (by have:n<=i:=hg;lia) λh' eb=>⟨rfl,I.turned (t':=s.toks) (λb o hb e=>eb b o hb e) f0 f1 f3 f4 f5⟩
 self:=λ_ _ _ _ _ st h=>wpAny_pyIter_rangeiter st h
section
variable {tg:Expr}
variable {Â:List (Ð×Obj)}{σ:St}{H:Hp}{s:Æ}
def Os{R:It->Hp->Prop}{E:Ã->Æ->Prop}{lo hi:Int}{t u v:Tok}{tk:Nat}(I:Inv X Â σ H s)(h1:-(2 ^ 62)<=lo)(h2:lo<2 ^ 62)(h3:-(2 ^ 62)<=hi)(h4:hi<2 ^ 62)
  (q:R (Itr lo (hi - lo).toNat) H):wpAny ↥2 X.A (eU<|.ref s.heap.objs.size) (PIE X Â σ tg R) E {s with heap:=s.heap.push {cls:=.type "range",data:=.fields #[.int lo t,.int hi u,.int 1 v]},toks:=tk}:=by
 refine wpAny_pyIter_range (IsRange.new ..) (small_one h1 h2 h3 h4) ?_;have I1:Inv X Â σ H { s with heap:=s.heap.push { cls:=.type "range",data:=.fields #[.int lo t,.int hi u,.int 1 v] },toks:=tk }:=I.kept λb o e=>Ä _ e;refine⟨(s.heap.push { cls:=.type "range",data:=.fields #[.int lo t,.int hi u,.int 1 v] }).objs.size,[(s.heap.push { cls:=.type "range",data:=.fields #[.int lo t,.int hi u,.int 1 v] }).objs.size],_,_,H,rfl,
   I1.kept (t':=tk) λb o e=>Ä _ e,OX _ lo (hi - lo).toNat,?_,λb hb=>?_,q⟩
 .have e1:lo+((0:Nat):Int)*1=lo:=by simp
  have e2:(((hi - lo).toNat:Nat):Int) - ((0:Nat):Int)=Builtin.Range.rangeSize lo hi 1:=by rw[rangeSize_one];split<;>lia
  show IsRangeIter _ _ (lo+((0:Nat):Int)*1) ((((hi - lo).toNat:Nat):Int) - ((0:Nat):Int)) 1;rw[e1,e2];exact Ø _ rfl
 .have e:b=(s.heap.push {cls:=.type "range",data:=.fields #[.int lo t,.int hi u,.int 1 v]}).objs.size:=⇑hb
  subst e;exact I1.fpOk (Ì _)<|I1.hok.fresh<|Ì _
abbrev QY(ta:TA):TI:=λσ H R=>ta σ H λvs H1=>∃j:Int,vs=[.int j]/\-(2 ^ 62)<=j/\j<2 ^ 62/\R (Itr 0 j.toNat) H1
abbrev Q4(ta:TA):TI:=λσ H R=>ta σ H λvs H1=>∃i j:Int,vs=[.int i,.int j]/\(-(2 ^ 62)<=i/\i<2 ^ 62/\-(2 ^ 62)<=j/\j<2 ^ 62)/\R (Itr i (j - i).toNat) H1
variable {a:Expr}{p:Pos}{í:Pos}
def BF(hg:Gl X "range")(hm:X.mg "range" = fx)(ha:PA X [a] ta)(hs:Ý [a] X.env=[(fz,eval a X.env)]:=by rfl):PI X tg (.Call (.Name "range" p) [a] [] í)<|QY ta:=by
 intro Â s σ H R I h;refine Call_<|YM I hg hm boot_range<|PyProof.Rows.callWith_type1 (thn (ha í Â s σ H _ I h) λus s1 ⟨vs,H1,I1,r1,q1⟩=>?_) hs rfl;let⟨j,e,q1,q2,q⟩:=q1;subst e;cases r1 with
 |cons r rr =>cases rr;let⟨t,rfl⟩:=r;exact call_range_1 (Os I1 ↥0 ↥0 q1 q2<|by simpa using q)
def Bc{b:Expr}(hg:Gl X "range")(hm:X.mg "range" = fx)(ha:PA X [a,b] ta)(hs:Ý [a,b] X.env=[(fz,eval a X.env),(fz,eval b X.env)]:=by rfl)(hs2:Ý [b] X.env=[(fz,eval b X.env)]:=by rfl) :
  PI X tg (.Call (.Name "range" p) [a,b] [] í) (Q4 ta):=by
 intro Â s σ H R I h;refine Call_ (YM I hg hm boot_range<|PyProof.Rows.callWith_type1 (thn (ha í Â s σ H _ I h) λus s1 ⟨vs,H1,I1,r1,q1⟩=>?_) (by rw[hs,hs2])<|by rw[hs2];rfl);let⟨i,j,e,⟨q1,q2,q3,q4⟩,q⟩:=q1;subst e;cases r1 with
 |cons r rr =>
  cases rr with
  |cons r' rr =>cases rr;let⟨t,rfl⟩:=r;let⟨t',rfl⟩:=r';exact call_range_2<|Os I1 q1 q2 q3 q4 q
abbrev S1(wi:TI)(g:TG)(tb:TS):TS:=λD σ H=>wi σ H λJ H1=>∃W:Nat->Nat->St->Hp->Prop,(∃m,W 0 m σ H1)/\∀i m σ H,W i m σ H->
 (J.stop i H/\D.nx σ H)\/(J.go i H/\∃N:St->Hp->Prop,(∀Ű H',N Ű H'->∃m',m'<m/\W (i+1) m' Ű H')/\∀x H',J.yld i H x H'->g x σ H' λσ2 H2=>tb {D with nx:=N,ct:=N,bk:=D.nx} σ2 H2)
abbrev XT(fp:List Ð)(h:Č):List<|Ð×Obj:=fp.filterMap λb=>(h.get? b).map λo=>(b,o)
def ZX{b:Ð}{o:Obj}(hb:b∈fp)(e:h.get? b=fw o):(b,o)∈XT fp h:=Ŗ.mpr ⟨b,hb,by rw[e];rfl⟩
def KH{p:Ð×Obj}(hp:p∈XT fp h):p.1∈fp/\h.get? p.1=fw p.2:=by
 let⟨b,hb,e⟩:=Ŗ.mp hp;cases q:h.get? b with
 |none=>rw[q]at e;cases e
 |some o =>rw[q]at e;have e':(b,o)=p:=æ e;subst e';exact⟨hb,q⟩
def Inv.pinned(I:Inv X Â σ H s)(hf:∀b∈fp,Wz X Â H b)(ho:∀b∈fp,∃o,s.heap.get? b=fw o/\∀v,o.data≠.cell v):Inv X (Â++XT fp s.heap) σ H s :=
 I.pins_of λp hp=>(Ò.mp hp).elim (λz=>I.pin p<|É _ z) λz=>by let⟨hb,e⟩:=KH z;let⟨f0,f1,f2,_⟩:=hf p.1 hb;let⟨o,e',d⟩:=ho p.1 hb;rw[e]at e';cases e';exact⟨e,f0,f1,f2,d⟩
def Inv.unpinned(I:Inv X (Â++pl) σ H s):Inv X Â σ H s:=I.pins_of λp hp=>I.pin p (É _<|Ô _ hp)
def EN{ŷ:Expr}(hp:af ↥2 X.A X.env X.xe)(hc:X.calm=fy)(hi:PI X tg ŷ wi)(hg:PG X tg g)(hb:PSs X body tb)(hs:∀x,Ě ŷ X.env x=pure x:=by intro _;rfl):PS X (.For tg ŷ body [] í)<|S1 wi g tb:=by
 intro Â s σ H D I h;refine wpAny_For (thn (hi Â s σ H _ I h) λv s1 h1=>thn h1 λitv s2 h2=>?_) hs;let⟨it,fp,tn,J,H2,e,I2,T,st2,f2,W,⟨m0,w0⟩,turn⟩:=h2;subst e;have stat:∀{H':Hp},(∀b∈fp,H' b=fx)->∀b∈fp,Wz X Â H' b:=λhn b hb=>⟨hn b hb,(f2 b hb).2⟩
 refine codeAny_forLoop_any (λn s'=>∃i Ű H',Inv X Â Ű H' s'/\tn i s'.heap/\(∀b∈fp,H' b=fx)/\W i n Ű H') ?_ m0 ⟨0,σ,H2,I2,st2,λb hb=>(f2 b hb).1,w0⟩;rintro n s3 ⟨i,σ3,H3,I3,st3,fr3,w3⟩;rcases turn i n σ3 H3 w3 with⟨stop,qn⟩|⟨go,N,hN,step⟩
 .refine Η hp<|thn (T.done X rfl rfl rfl hc i Â s3 σ3 H3 X.xe I3 (stat fr3) st3 stop) λr s4 ⟨hr,I4⟩=>?_;subst hr;exact wpAny_execs_nil ⟨σ3,H3,I4,qn⟩
 .refine Η hp<|thn (T.item X rfl rfl rfl hc i Â s3 σ3 H3 X.xe I3 (stat fr3) st3 go) λr s4 ⟨u,hr,h4⟩=>?_;subst hr;refine Η hp<|thn h4 λ_ s5 ⟨x,H5,I5,r5,y5,st5,fr5⟩=>?_;have I5':=I5.pinned (stat fr5)<|T.obj _ _ st5;refine Η hp<|thn (hg _ s5 σ3 H5 x u _ I5' r5<|step x H5 y5) λ_ s6 ⟨σ6,H6,I6,q6⟩=>?_;refine Η hp<|thn (hb _ s6 σ6 H6 _ I6 q6) λf s7 q7=>?_;have again:∀{bI:St}{H7:Hp},Inv X (Â++XT fp s5.heap) bI H7 s7->N bI H7->∃m,m<n/\∃i Ű H',Inv X Â Ű H' s7/\tn i s7.heap/\(∀b∈fp,H' b=fx)/\W i m Ű H':=λ{bI H7} I7 n7=>by
   let⟨m',hm,w7⟩:=hN bI H7 n7;refine⟨m',hm,i+1,bI,H7,I7.unpinned,T.keep _ _ _ st5 λb hb o e=>(I7.pin (b,o)<|É _<|É _<|ZX hb e).1,λb hb=>?_,w7⟩;let⟨o,e,d⟩:=T.obj _ _ st5 b hb;exact(I7.pin (b,o)<|É _<|É _<|ZX hb e).2.1
  cases f with
  |next=>let⟨bI,H7,I7,n7⟩:=q7;exact again I7 n7
  |cont=>let⟨bI,H7,I7,n7⟩:=q7;exact again I7 n7
  |brk=>let⟨bI,H7,I7,q7⟩:=q7;exact⟨bI,H7,I7.unpinned,q7⟩
  |ret v=>let⟨x7,bI,H7,I7,r7,q7⟩:=q7;exact⟨x7,bI,H7,I7.unpinned,r7,q7⟩
end
noncomputable abbrev R2:=V->V->Hp->VK->Prop
abbrev OpR(X:Cx)(f:Ã->Ã->Sem Ã)(r:R2):Prop :=
 ∀(Â:List<|Ð×Obj) (s:Æ) (σ:St) (H:Hp) (x y:V) (v u:Ã) (Q:VK),Inv X Â σ H s->RelV x v->RelV y u->r x y H Q->
  wpAny ↥2 X.A (f v u) (EP X Â σ Q) X.xe s
abbrev UnR(X:Cx)(f:Ã->Sem Ã)(r:V->Hp->VK->Prop):Prop :=
 ∀(Â:List<|Ð×Obj) (s:Æ) (σ:St) (H:Hp) (x:V) (v:Ã) (Q:VK),Inv X Â σ H s->RelV x v->r x H Q->
  wpAny ↥2 X.A (f v) (EP X Â σ Q) X.xe s
abbrev fM(X:Cx)(f:Ã)(r:List V->Hp->VK->Prop):Prop :=
 ∀(Â:List<|Ð×Obj) (s:Æ) (σ:St) (H:Hp) (xs:List V) (us:List Ã) (Q:VK),Inv X Â σ H s->gV xs us->r xs H Q->
  wpAny ↥2 X.A (call f us) (EP X Â σ Q) X.xe s
abbrev Tk(X:Cx)(r:V->Hp->(Bool->Hp->Prop)->Prop):Prop :=
 ∀(Â:List<|Ð×Obj) (s:Æ) (σ:St) (H:Hp) (x:V) (v:Ã) (Q:Bool->Hp->Prop),Inv X Â σ H s->RelV x v->r x H Q->
  wpAny ↥2 X.A (truthy v) (TP X Â σ Q) X.xe s
abbrev tOp(r:R2)(ta tb:TE):TE:=λσ H Q=>ta σ H λx H1=>tb σ H1 λy H2=>r x y H2 Q
abbrev tUn(r:V->Hp->VK->Prop)(ta:TE):TE:=λσ H Q=>ta σ H λx H1=>r x H1 Q
abbrev rI(C:Int->Int->Prop)(g:Int->Int->V):R2:=λx y H Q=>∃i j,x=.int i/\y=.int j/\C i j/\Q (g i j) H
abbrev rI0(g:Int->Int->V):R2:=λx y H Q=>∃i j,x=.int i/\y=.int j/\Q (g i j) H
abbrev rU(g:Int->V):V->Hp->VK->Prop:=λx H Q=>∃i,x=.int i/\Q (g i) H
section
variable {X:Cx}{a b c:Expr}{ta tb:TE}{í:Pos}
variable {f:Ã->Ã->Sem Ã}
def LE(ha:PE X a ta)(hb:PE X b tb){Â:List (Ð×Obj)}{s:Æ}{σ:St}{H:Hp}{R:V->V->Hp->Prop}(I:Inv X Â σ H s)
  (h:ta σ H λx H1=>tb σ H1 λy H2=>R x y H2){Q:Ã->Æ->Prop} 
  (hf:∀v u s2 x y H2,Inv X Â σ H2 s2->RelV x v->RelV y u->R x y H2->wpAny ↥2 X.A (f v u) Q X.xe s2) :
  wpAny ↥2 X.A (eval a X.env) (λv ġ=>wpAny ↥2 X.A (eval b X.env) (λu cb=>wpAny ↥2 X.A (f v u) Q X.xe cb) X.xe ġ) X.xe s:=by
 refine thn (ha Â s σ H _ I h) λv s1 ⟨x,H1,I1,r1,q1⟩=>?_;refine thn (hb Â s1 σ H1 _ I1 q1) λu s2 ⟨y,H2,I2,r2,q2⟩=>?_;exact hf v u s2 x y H2 I2 r1 r2 q2
def Sa(ho:OpR X (Ŋ op) r)(ha:PE X a ta)(hb:PE X b tb):PE X (.BinOp a op b í)<|tOp r ta tb:=by k_sub;exact wpAny_BinOp (LE ha hb I h λv u s2 x y H2 I2 rx ry q=>ho Â s2 σ H2 x y v u Q I2 rx ry q)
def RN(ho:UnR X (unaryOp op) r)(ha:PE X a ta):PE X (.UnaryOp op a í)<|tUn r ta:=by k_sub;exact UnaryOp_ (thn (ha Â s σ H _ I h) λv s1 ⟨x,H1,I1,r1,q1⟩=>ho Â s1 σ H1 x v Q I1 r1 q1)
variable {g:Int->Int->Int}
def opI(rule:∀(i j:Int) (t u:Tok) (s:Æ) (Q:Ã->Æ->Prop) (E:Ã->Æ->Prop),C i j->Q (.int (g i j) s.toks) {s with toks:=s.toks+1}->wpAny ↥2 X.A (f (.int i t)<|.int j u) Q E s) :
  OpR X f (rI C λi j=>.int<|g i j):=by
 k_ne;let⟨i,j,rfl,rfl,hc,q⟩:=h;let⟨t,rfl⟩:=rx;let⟨t',rfl⟩:=ry;exact rule i j t t' s _ _ hc ⟨.int<|g i j,H,I.tok _,⟨_,rfl⟩,q⟩
def Sy(rule:∀(i j:Int) (t u:Tok) (s:Æ) (Q:Ã->Æ->Prop) (E:Ã->Æ->Prop),Q (.int (g i j) s.toks) {s with toks:=s.toks+1}->wpAny ↥2 X.A (f (.int i t)<|.int j u) Q E s) :
  OpR X f (rI0 λi j=>.int<|g i j):=by
 k_ne;let⟨i,j,rfl,rfl,q⟩:=h;let⟨t,rfl⟩:=rx;let⟨t',rfl⟩:=ry;exact rule i j t t' s _ _ ⟨.int<|g i j,H,I.tok _,⟨_,rfl⟩,q⟩
def FL{g:Int->Int->Bool}
  (rule:∀(i j:Int) (t u:Tok) (s:Æ) (Q:Ã->Æ->Prop) (E:Ã->Æ->Prop),Q (.bool<|g i j) s->wpAny ↥2 X.A (f (.int i t)<|.int j u) Q E s) :
  OpR X f (rI0 λi j=>.bl<|g i j):=by
 k_ne;let⟨i,j,rfl,rfl,q⟩:=h;let⟨t,rfl⟩:=rx;let⟨t',rfl⟩:=ry;exact rule i j t t' s _ _ ⟨.bl<|g i j,H,I,rfl,q⟩
abbrev R4(i j:Int):Prop:=0<j/\j<1073741824
abbrev Rk(i j:Int):Prop:=0<=j/\j<=1000000/\i.natAbs<2 ^ 64
def op_add:OpR X (Ŋ .Add)<|rI0 λi j=>.int<|i+j:=Sy λ_ _ _ _ _ _ _ q=>add_int q
def P8:OpR X (Ŋ .Sub)<|rI0 λi j=>.int<|i - j:=Sy λ_ _ _ _ _ _ _ q=>sub_int q
def GU:OpR X (Ŋ .FloorDiv)<|rI R4 λi j=>.int<|i / j:=opI λi j _ _ _ _ _ hc q=>by have h1:(0:Int)<j:=hc.1;have h2:j<1073741824:=hc.2;exact floordiv_int ↥0 (by rw[Int.fdiv_eq_ediv_of_nonneg i<|by lia];exact q) (.inl<|PyProof.noPylong_small<|by lia)
def LS:OpR X (Ŋ .Mod)<|rI (λ_ j=>0<j) λi j=>.int<|i % j:=opI λi j _ _ _ _ _ hc q=>by have h1:(0:Int)<j:=hc;exact mod_int' ↥0 (by rw[Int.fmod_eq_emod_of_nonneg i<|by lia];exact q)
def IX:OpR X (Ŋ .Pow)<|rI Rk λi j=>.int<|i ^ j.toNat:=opI λ_ _ _ _ _ _ _ hc q=>pow_int_small hc.1 hc.2.1 hc.2.2 q
def unI{f:Ã->Sem Ã}{g:Int->Int}
  (rule:∀(i:Int) (t:Tok) (s:Æ) (Q:Ã->Æ->Prop) (E:Ã->Æ->Prop),Q (.int (g i) s.toks) {s with toks:=s.toks+1}->wpAny ↥2 X.A (f<|.int i t) Q E s) :
  UnR X f (rU λi=>.int<|g i):=by
 intro Â s σ H x v Q I rx h;let⟨i,rfl,q⟩:=h;let⟨t,rfl⟩:=rx;exact rule i t s _ _ ⟨.int<|g i,H,I.tok _,⟨_,rfl⟩,q⟩
def Lm:UnR X (unaryOp .USub)<|rU λi=>.int (-i):=unI λ_ _ _ _ _ q=>neg_int q
end
section
variable {a b c:Expr}{í:Pos}
def LA{Â:List (Ð×Obj)}{σ:St}{H:Hp}{s:Æ}{Q:VK}{k k':Bool}(I:Inv X Â σ H s)(q:Q (.bl k) H)(e:k=k'):EP X Â σ Q (.bool k') s:=by subst e;exact⟨.bl k,H,I,rfl,q⟩
def op_lt:OpR X (ð .Lt)<|rI0 λi j=>.bl<|ik (i<j):=FL λ_ _ _ _ _ _ _ q=>lt_int q
def R8:OpR X (ð .LtE)<|rI0 λi j=>.bl<|ik (i<=j):=FL λ_ _ _ _ _ _ _ q=>le_int q
def op_gt:OpR X (ð .Gt)<|rI0 λi j=>.bl<|ik (j<i):=FL λ_ _ _ _ _ _ _ q=>gt_int q
def Rl:OpR X (ð .GtE)<|rI0 λi j=>.bl<|ik (j<=i):=FL λ_ _ _ _ _ _ _ q=>ge_int q
def AJ:OpR X (ð .In) λx y H Q=>∃i j,x=.str i/\y=.str j/\Q (.bl (!(Builtin.Str.occurrences j i 0 j.length 1).isEmpty)) H:=by k_ne;let⟨i,j,rfl,rfl,q⟩:=h;let⟨t,rfl⟩:=rx;let⟨t',rfl⟩:=ry;exact in_str (LA I q rfl)
variable {r:R2}
def OpR.or(h:OpR X f r)(h':OpR X f r'):OpR X f λx y H Q=>r x y H Q\/r' x y H Q:=by
 intro Â s σ H x y v u Q I rx ry q;rcases q with q|q
 .exact h Â s σ H x y v u Q I rx ry q
 .exact h' Â s σ H x y v u Q I rx ry q
def UK(ho:OpR X (ð op) r)(ha:PE X a ta)(hb:PE X b tb)(hm:ŀ op b=fz):PE X (.Compare a [op] [b] í)<|tOp r ta tb:=by k_sub;exact wpAny_Compare1 (LE ha hb I h λv u s2 x y H2 I2 rx ry q=>ho Â s2 σ H2 x y v u Q I2 rx ry q) hm
abbrev Ic(t:TE):TT:=λσ H Q=>t σ H λx H'=>∃k,x=.bl k/\Q k H'
def Ak(ho:OpR X (ð op) r)(ha:PE X a ta)(hb:PE X b tb)(hm:ŀ op b=fz):PT X (.Compare a [op] [b] í)<|Ic<|tOp r ta tb:=by
 k_sub;refine wpAny_isTrue_Compare1 (thn (ha Â s σ H _ I h) λv s1 ⟨x,H1,I1,r1,q1⟩=>thn (hb Â s1 σ H1 _ I1 q1) λu s2 ⟨y,H2,I2,r2,q2⟩ =>
   thn (ho Â s2 σ H2 x y v u _ I2 r1 r2 q2) λc s3 ⟨z,H3,I3,r3,k,e,q3⟩=>?_) hm
 subst e;cases r3;exact Ē ⟨H3,I3,q3⟩
abbrev Ed(r r':R2)(ta tb tc:TE):TE:=λσ H Q=>ta σ H λx H1=>tb σ H1 λy H2=>r x y H2 λz H3=>∃k,z=.bl k/\
 (if k=fy then tc σ H3 λw' H4=>r' y w' H4 Q else Q (.bl fz) H3)
def C9(ho:OpR X (ð op) r)(aA:OpR X (ð dU) r')(ha:PE X a ta)(hb:PE X b tb)(hc:PE X c tc)(hm:bA [op,dU] [b,c]=fz:=by with_unfolding_all rfl):PE X (.Compare a [op,dU] [b,c] í)<|Ed r r' ta tb tc:=by
 k_sub;refine Compare_chain (thn (ha Â s σ H _ I h) λv s1 ⟨x,H1,I1,r1,q1⟩=>chain_link (thn (hb Â s1 σ H1 _ I1 q1) λu s2 ⟨y,H2,I2,r2,q2⟩ =>
   thn (ho Â s2 σ H2 x y v u _ I2 r1 r2 q2) λd s3 ⟨z,H3,I3,r3,k,e,q3⟩=>?_)) hm
 subst e;cases r3;refine Ē ?_;cases k with
 |false=>exact ite_ff ⟨.bl fz,H3,I3,rfl,q3⟩
 |true=>exact ite_tt<|chain_last<|thn (hc Â s3 σ H3 _ I3 q3) λw' s4 ⟨z',H4,I4,r4,q4⟩=>aA Â s4 σ H4 y z' u w' Q I4 r2 r4 q4
def D4(ho:OpR X (ð op) r)(aA:OpR X (ð dU) r')(ha:PE X a ta)(hb:PE X b tb)(hc:PE X c tc)(hm:bA [op,dU] [b,c]=fz:=by with_unfolding_all rfl):PT X (.Compare a [op,dU] [b,c] í)<|Ic<|Ed r r' ta tb tc:=by
 k_sub;refine isTrue_chain (thn (ha Â s σ H _ I h) λv s1 ⟨x,H1,I1,r1,q1⟩=>test_link (thn (hb Â s1 σ H1 _ I1 q1) λu s2 ⟨y,H2,I2,r2,q2⟩ =>
   thn (ho Â s2 σ H2 x y v u _ I2 r1 r2 q2) λd s3 ⟨z,H3,I3,r3,k,e,q3⟩=>?_)) hm
 subst e;cases r3;refine Ē ?_;cases k with
 |false =>let⟨k',e',q'⟩:=q3;cases e';exact ite_ff ⟨H3,I3,q'⟩
 |true =>refine ite_tt<|test_last<|thn (hc Â s3 σ H3 _ I3 q3) λw' s4 ⟨z',H4,I4,r4,q4⟩=>thn (aA Â s4 σ H4 y z' u w' _ I4 r2 r4 q4) λd' s5 ⟨z2,H5,I5,r5,k2,e2,q5⟩=>?_;subst e2;cases r5;exact Ē ⟨H5,I5,q5⟩
abbrev Ro(K:Frag)(x:V)(H:Hp)(k:Bool):Prop :=
 match x with
 |.non=>k=fz
 |.bl b=>k=b
 |.int i=>k=(i != 0)
 |.str y=>y.length<=à/\k=((y.length:Int) != 0)
 |.byt y=>y.size<=à/\k=((y.size:Int) != 0)
 |.ref p=>(∃xs,gT K H p xs/\k=!xs.isEmpty)\/(∃xs,gU K H p xs/\k=!xs.isEmpty)\/∃kvs,H p=fw (.dK kvs)/\k=!kvs.isEmpty
 |_=>False
def OQ{κ:Type}{kvs:List (κ×V)}{vs:List (κ×Ã)}(r:KV kvs vs):(!vs.isEmpty)=!kvs.isEmpty:=by cases r<;>rfl
def Jy(r:gV xs ú):(!ú.toArray.isEmpty)=!xs.isEmpty:=by cases r<;>simp
def Y3:(à:Nat)<2 ^ 63:=by rw[θ];decide
def Qe:Tk X λx H Q=>∃k,Ro X.K x H k/\Q k H:=by
 intro Â s σ H x v Q I rx h;let⟨k,e,q⟩:=h;have hl:=Y3;have hs:à=16777216:=θ;cases x with
 |non =>cases rx;have e':k=fz:=e;subst e';exact truthy_none ⟨H,I,q⟩
 |bl b =>cases rx;have e':k=b:=e;subst e';exact Ē ⟨H,I,q⟩
 |int i =>let⟨t,rfl⟩:=rx;have e':k=(i != 0):=e;subst e';exact PySem.P.truthy_int ⟨H,I,q⟩
 |str y =>let⟨t,rfl⟩:=rx;obtain⟨hy,e'⟩:y.length<=à/\k=((y.length:Int) != 0):=e;subst e';exact PySem.P.truthy_str ↥0 ⟨H,I.tok _,q⟩
 |byt y =>let⟨t,rfl⟩:=rx;obtain⟨hy,e'⟩:y.size<=à/\k=((y.size:Int) != 0):=e;subst e';exact PySem.W.truthy_bytes ↥0 ⟨H,I.tok _,q⟩
 |ref p =>
  cases rx;have e':(∃xs,gT X.K H p xs/\k=!xs.isEmpty)\/(∃xs,gU X.K H p xs/\k=!xs.isEmpty)\/∃kvs,H p=fw (.dK kvs)/\k=!kvs.isEmpty:=e;rcases e' with⟨xs,hx,e'⟩|⟨xs,hx,e'⟩|⟨kvs,hx,e'⟩
  .subst e';let⟨ú,r,pl,hz⟩:=I.list hx;have hlen:=r.length;exact wpAny_truthy_list pl.isList (by simp![Ï];lia) ⟨H,I.tok _,by rw[Jy r];exact q⟩
  .subst e';let⟨ú,r,pl,hz⟩:=I.tuple hx;have hlen:=r.length;exact truthy_tuple pl (by simp![Ï];lia) ⟨H,I.tok _,by rw[Jy r];exact q⟩
  .subst e';obtain⟨hz,hS,vs,r,m⟩:kvs.length<=à/\(p==ş)=fz/\∃vs,KV kvs vs/\s.heap.DictOf (Zf X.prog X.w) p vs:=I.hok p _ hx;have hlen:kvs.length=vs.length:=Paired.length r;exact wpAny_truthy_dict hS m ↥0 ⟨H,I.tok _,by rw[OQ r];exact q⟩
 |_=>exact(show False from e).elim
def E7(ha:PE X a ta)(he:∀aH,cB a X.env aH=(do let v<-aH;ϐ a.pos;ŕ [v] (truthy v))) :
  PT X a (λσ H Q=>ta σ H λx H'=>∃k,Ro X.K x H' k/\Q k H'):=by
 k_sub;exact isTrue_plain (thn (ha Â s σ H _ I h) λv s1 ⟨x,H1,I1,r1,q1⟩=>Qe Â s1 σ H1 x v Q I1 r1 q1)<|he _
def O1:OpR X (Ŋ .Add) λx y H Q=>∃i j,x=.str i/\y=.str j/\i.length+j.length<=à/\Q (.str<|i++j) H:=by k_ne;let⟨i,j,rfl,rfl,hz,q⟩:=h;let⟨t,rfl⟩:=rx;let⟨t',rfl⟩:=ry;exact add_str (λt' tk=>⟨.str<|i++j,H,I.tok _,⟨_,rfl⟩,q⟩) hz
variable {x:V}
def ZU(r:gV [x] us):∃u,us=[u]/\RelV x u:=by
 cases r with
 |cons r1 r2=>cases r2;exact⟨_,rfl,r1⟩
def UQ(r:gV [x,y] us):∃u w',us=[u,w']/\RelV x u/\RelV y w':=by
 cases r with
 |cons r1 r2 =>
  cases r2 with
  |cons r3 r4=>cases r4;exact⟨_,_,rfl,r1,r3⟩
def A8(hc:X.calm=fy):fM X (.builtin "max") λxs H Q=>∃i j,xs=[.int i,.int j]/\Q (.int<|if j > i then j else i) H:=by
 k_put;let⟨i,j,rfl,q⟩:=h;let⟨u,w',rfl,⟨t,rfl⟩,⟨t',rfl⟩⟩:=UQ r;refine max_two_ints (I.ok.hd hc) λh' tk k=>⟨_,H,I.kept k,?_,q⟩
 by_cases hj:j > i
 .rw[hX hj,hX hj];exact⟨_,rfl⟩
 .rw[hZ hj,hZ hj];exact⟨_,rfl⟩
def BV(hc:X.calm=fy):fM X (.builtin "min") λxs H Q=>∃i j,xs=[.int i,.int j]/\Q (.int<|if j<i then j else i) H:=by
 k_put;let⟨i,j,rfl,q⟩:=h;let⟨u,w',rfl,⟨t,rfl⟩,⟨t',rfl⟩⟩:=UQ r;refine min_two_ints (I.ok.hd hc) λh' tk k=>⟨_,H,I.kept k,?_,q⟩
 by_cases hj:j<i
 .rw[hX hj,hX hj];exact⟨_,rfl⟩
 .rw[hZ hj,hZ hj];exact⟨_,rfl⟩
def call_int1:fM X (.type "int") λxs H Q=>(∃i,xs=[.int i]/\Q (.int i) H)\/∃k,xs=[.bl k]/\Q (.int<|if k then 1 else 0) H:=by
 k_put;rcases h with⟨i,rfl,q⟩|⟨k,rfl,q⟩
 .obtain⟨u,rfl,t,rfl⟩:=ZU r;exact call_int_int ⟨.int i,H,I,⟨_,rfl⟩,q⟩
 .obtain⟨u,rfl,r1⟩:=ZU r;cases r1;exact call_int_bool ⟨.int (if k then 1 else 0),H,I.tok _,⟨_,rfl⟩,q⟩
end
structure ObjM(h:Č)(x dx C:Ð)(mA:Str->Option Ã):Prop where
 obj:h.get? x=fw (PySem.W.instObj C dx)
 ns:h.Ns1 dx mA
 ne:dx≠x
variable {h:Č}{dx:Ð}{mA:Str->Option Ã}
def BQ(n:h.Ns1 dx mA):∃od,h.get? dx=fw od/\∀name,PySem.W.lookIn name od=fw (mA name):=by
 let⟨o,es,ep,ho,hd,hk,_,hm⟩:=n;refine⟨o,ho,λname=>?_⟩;have e:=hm name;unfold nsFind findBy at e;rw[<-Array.find?_toList]at e;unfold PySem.W.lookIn;rw[hd];dsimp only;split
 .rename_i y q;rw[q]at e;exact congrArg fw e
 .rename_i q;rw[q]at e;have a:es.toList.any (·.refKey)=fz:=by
   rw[List.any_eq_false];intro y hy;let⟨z,t,hkey⟩:=hk y<|Array.mem_toList_iff.mp hy;simp[DictEntry.refKey,hkey]
  have a':¬ es.toList.any (·.refKey)=fy:=by rw[a];exact Ă
  rw[hZ a'];exact congrArg fw e
variable {C:Ð}
def ObjM.look{x:Ð}(I:ObjM h x dx C mA):∃od,PySem.W.InstAt h x (PySem.W.instObj C dx) C (fw od)/\∀name,PySem.W.lookIn name od=fw (mA name) :=
 let ⟨od,ho,hl⟩:=BQ I.ns
 ⟨od,⟨I.obj,rfl,rfl,ho⟩,hl⟩
section
variable {prog:è}{K:Frag}{x dx C f:Ð}{name:Str}{v:Ã}
def HA(X:K.In s.heap)(I:ObjM s.heap x dx C mA)(hg:PySem.W.plainGet K C name=fy)(hh:PySem.W.hasDictIn K C=fy)(ha:PySem.W.findIn K (.ref C) name=fw fx)(hv:mA name=fw v)(hv':PySem.W.handedIn v=fy)(h:Q v {s with toks:=s.toks+1}) :
  wpAny (á prog w) A (getAttr (.ref x) name expr) Q E s:=by
 let⟨od,J,hl⟩:=I.look;exact PySem.W.get_value X J (PySem.W.plainGet_of hg).1 (PySem.W.findObj_own hh ha rfl<|by rw[hl,hv]) hv' h
def Dp(X:K.In s.heap)(I:ObjM s.heap x dx C mA)(hg:PySem.W.plainGet K C name=fy)(hf:PySem.W.findIn K (.ref C) name=fw (fw<|.ref f))(ht:PySem.W.isFn K (.ref f)=fy)(hv:mA name=fx)(h:Q (.ref f,[.ref x]) s) :
  wpAny (á prog w) A (Ϟ (.ref x) name pl) Q E s:=by
 let⟨od,J,hl⟩:=I.look;exact PySem.W.method_fn X J (PySem.W.plainGet_of hg).1 (PySem.W.plainGet_of hg).2 hf (beq_iff_eq.mp ht) (by show(PySem.W.lookIn name od).map (·.isSome)=fw fz;rw[hl,hv];rfl) h
def Hi(X:K.In s.heap)(I:ObjM s.heap x dx C mA)(hs:PySem.W.findIn K (.ref C) "__setattr__" = fw (fw<|.builtin "object.__setattr__"))(hp:PySem.W.plainOver K C=fy)(ht:PySem.W.takerIn K C name=fw fx)(hh:PySem.W.hasDictIn K C=fy)(hw:PySem.Within mA ns)(hsz:ns.length<=à)(h:∀h',ObjM h' x dx C (λy=>if y=name then fw v else mA y)->ź dx s.heap h'->Q () {s with heap:=h',toks:=s.toks+2}) :
  wpAny (á prog w) A (setAttr (.ref x) name v) Q E s:=by
 let⟨od,J,hl⟩:=I.look;refine PySem.W.set_plain X J hs<|PySem.W.osa_open (s:={s with toks:=s.toks+1}) (r:=fx) X J hp ht λb=>?_;let⟨cd,hc,hd'⟩:=PySem.W.any_some hh;have hx:s.heap.get? x=fw ⟨.ref C,fw dx,.plain,#[]⟩:=I.obj;refine À<|È<|À<|À<|wpAny_loadPart hx<|À<|PySem.W.Looks.here (s:={s with toks:=s.toks+1}) (PySem.W.looks_clsIn X hc) ?_;rw[hd'];refine È (a:=fw dx)<|À<|È<|À ?_;refine wpAny_nsSet1 (s:={s with toks:=s.toks+1}) I.ns λh' hn2 hs2=>?_;let⟨oD,esD,epD,hoD,hdD,hcD⟩:=hn2.count<|PySem.Within.cons name v hw;refine À (wpAny_lookBehind hoD (by rw[hdD];exact pastItsLine_dict<|Û hcD<|by rw[Î];lia) ?_);exact È<|h _ ⟨(hs2.2 _<|Ne.symm I.ne).trans I.obj,hn2,I.ne⟩ hs2
def EX(X:K.In s.heap)(hm:PySem.W.makesIn K C=fy)(hi:PySem.W.findIn K (.ref C) "__init__" = fw (fw<|.ref f))(hf:PySem.W.typeIn K (.ref f)=fw (.type "function"))(h:codeAny (á prog w) (A.under<|.builtin "type.__call__" ⟨.ref C::vs,kw⟩) (.call (.ref f) ⟨.ref (s.heap.objs.size+1)::vs,kw⟩) (PySem.W.InitBack (s.heap.objs.size+1) R)
    { s with heap:=(s.heap.push PySem.W.emptyDict).push (PySem.W.instObj C s.heap.objs.size) }) :
  codeAny (á prog w) A (.call (.ref C) ⟨vs,kw⟩) R s:=by
 let⟨hh,g,d,t,os⟩:=s;exact PySem.W.make_core (PySem.W.makes_of X hm) (PySem.W.looks_findIn X hi) (λself=>PySem.W.bind_fn X self hf) (.inl rfl) h
end
abbrev fT(f:Str)(v:V):List (Str×V)->List (Str×V)
 |[]=>[(f,v)]
 |(g,x)::r=>if g=f then(g,v)::r else(g,x)::fT f v r
def WP(f g:Str)(v:V):∀fs:List<|Str×V,(fT f v fs).lookup g=if g=f then fw v else fs.lookup g
 |[]=>by
  show π g [(f,v)]=_;by_cases h:g=f
  .have hb:(g==f)=fy:=beq_iff_eq.mpr h;simp![π,hb,hX h]
  .have hb:(g==f)=fz:=beq_eq_false_iff_ne.mpr h;simp![π,hb,hZ h]
 |(k,x)::r=>by
  have ih:=WP f g v r;rw[show fT f v ((k,x)::r)=(if k=f then(k,v)::r else(k,x)::fT f v r) from rfl];by_cases hk:k=f
  .rw[hX hk];by_cases h:g=k
   .have hb:(g==k)=fy:=beq_iff_eq.mpr h;simp![π,hb,hX<|h.trans hk]
   .have hb:(g==k)=fz:=beq_eq_false_iff_ne.mpr h;simp![π,hb,hZ λe:g=f=>h<|e.trans hk.symm]
  .rw[hZ hk];by_cases h:g=k
   .have hb:(g==k)=fy:=beq_iff_eq.mpr h;simp![π,hb,hZ λe:g=f=>hk<|h.symm.trans e]
   .have hb:(g==k)=fz:=beq_eq_false_iff_ne.mpr h;simp![π,hb];exact ih
def Wy(f:Str)(v:V):∀fs:List<|Str×V,f∈(fT f v fs).map (·.1)/\∀g,g∈fs.map (·.1)->g∈(fT f v fs).map (·.1)
 |[]=>⟨by simp[fT],λg h=>by simp at h⟩
 |(k,x)::r=>by
  let⟨i1,i2⟩:=Wy f v r;rw[show fT f v ((k,x)::r)=(if k=f then(k,v)::r else(k,x)::fT f v r) from rfl];by_cases hk:k=f
  .rw[hX hk];subst hk;exact⟨by simp,λg h=>⇑h⟩
  .rw[hZ hk];refine⟨?_,λg h=>?_⟩
   .rw[Í];exact â _ i1
   .rw[Í]at h ⊢;rcases Ç.mp h with e|e
    .exact Ç.mpr<|.inl e
    .exact â _<|i2 g e
def WI(f:Str)(v:V):∀fs:List<|Str×V,(fT f v fs).length<=fs.length+1
 |[]=>by simp[fT]
 |(k,x)::r=>by
  have ih:=WI f v r;rw[show fT f v ((k,x)::r)=(if k=f then(k,v)::r else(k,x)::fT f v r) from rfl];by_cases hk:k=f
  .rw[hX hk,Î,Î];lia
  .rw[hZ hk,Î,Î];lia
variable {o:Option Ã}
def gk.some_of(r:gk (fw v) o):∃u,o=fw u/\RelV v u:=by
 cases o with
 |none=>exact(show False from r).elim
 |some u=>exact⟨u,rfl,r⟩
def gk.none_of(r:gk fx o):o=fx:=by
 cases o with
 |none=>rfl
 |some u=>exact(show False from r).elim
variable {u:Ã}
def Bw(r:RelV v u):PySem.W.handedIn u=fy:=by
 cases v with
 |non=>cases (show u=Value.none from r);rfl
 |bl b=>cases (show u=Value.bool b from r);rfl
 |int i=>let⟨t,e⟩:=(show ∃t,u=Value.int i t from r);cases e;rfl
 |str x=>let⟨t,e⟩:=(show ∃t,u=Value.str x t from r);cases e;rfl
 |byt b=>let⟨t,e⟩:=(show ∃t,u=Value.bytes b t from r);cases e;rfl
 |flt b=>let⟨t,e⟩:=(show ∃t,u=Value.float b t from r);cases e;rfl
 |ref a=>cases (show u=Value.ref a from r);rfl
 |ty n=>cases (show u=Value.type n from r);rfl
section
variable {h h':Č}{a C dx:Ð}{fs:List (Str×V)}
def W5(hok:HOk P w H h)(e:H a=fw (.ins C dx fs)):∃mA,ObjM h a dx C mA/\(∀f,gk (fs.lookup f)<|mA f)/\PySem.Within mA (fs.map (·.1))/\fs.length<=1000/\H dx=fw (.own a):=by
 let⟨d,z,ne,ob,mA,n,r,q⟩:=(show fN P w H h a (.ins C dx fs) from hok a _ e)
 exact⟨mA,⟨ob,n,ne⟩,r,q,z,d⟩
end
structure Cls(K:Frag)(C:Ð):Prop where
 pg:PySem.W.plainGet K C Str.empty=fy
 hd:PySem.W.hasDictIn K C=fy
 po:PySem.W.plainOver K C=fy
 sa:PySem.W.findIn K (.ref C) "__setattr__" = fw (fw<|.builtin "object.__setattr__")
def Cls.get{K:Frag}(c:Cls K C)(f:Str):PySem.W.plainGet K C f=fy:=c.pg
abbrev NoAttr(K:Frag)(C:Ð)(f:Str):Prop:=PySem.W.findIn K (.ref C) f=fw fx
def NoAttr.taker{K:Frag}(n:NoAttr K C f):PySem.W.takerIn K C f=fw fx:=by unfold PySem.W.takerIn;rw[show PySem.W.findIn K (.ref C) f=fw fx from n];rfl
structure Meth(K:Frag)(C:Ð)(m:Str)(f:Ð):Prop where
 at_:PySem.W.findIn K (.ref C) m=fw (fw<|.ref f)
 fn:PySem.W.isFn K (.ref f)=fy
 kp:PySem.W.keepIn K (.ref f)=fy
section
variable {X:Cx}{Â:List (Ð×Obj)}{σ:St}{H:Hp}{s:Æ}{a C dx:Ð}{fs:List (Str×V)}{f:Str}
variable {Q:Ã->Æ->Prop}
def JC{b:Bool}(I:Inv X Â σ H s)(e:H a=fw (.ins C dx fs))(c:Cls X.K C)(n:NoAttr X.K C f)(l:fs.lookup f=fw v)(h:∀u s',Inv X Â σ H s'->RelV v u->Q u s'):wpAny ↥2 A (getAttr (.ref a) f b) Q E s:=by
 let⟨mA,O,r,_,_,_⟩:=W5 I.hok e;let⟨u,hu,ru⟩:=gk.some_of (v:=v) (o:=mA f) (by rw[<-l];exact r f);exact HA I.kIn O (c.get f) c.hd n hu (Bw ru)<|h u _ (I.tok _) ru
def Kg{m:Str}{g:Ð}{pl:Sem Bool}{Q:Ã×List Ã->Æ->Prop}(I:Inv X Â σ H s)(e:H a=fw (.ins C dx fs))(c:Cls X.K C)(k:Meth X.K C m g)(l:fs.lookup m=fx)
  (h:Q (.ref g,[.ref a]) s):wpAny ↥2 A (Ϟ (.ref a) m pl) Q E s:=by
 let⟨mA,O,r,_,_,_⟩:=W5 I.hok e;have hn:mA m=fx:=gk.none_of (by rw[<-l];exact r m);exact Dp I.kIn O (c.get m) k.at_ k.fn hn h
def JL{y:V}{Q:Unit->Æ->Prop}(I:Inv X Â σ H s)(e:H a=fw (.ins C dx fs))(c:Cls X.K C)(n:NoAttr X.K C f)(hl:fs.length<1000)(ry:RelV y u)
  (h:∀s',Inv X Â σ (upd H a<|.ins C dx<|fT f y fs) s'->Q () s'):wpAny ↥2 A (setAttr (.ref a) f u) Q E s:=by
 let⟨mA,O,r,wi,_,ho⟩:=W5 I.hok e;have hz:(fs.map (·.1)).length<=à:=by rw[Á,θ];lia
 refine Hi I.kIn O c.sa c.po n.taker c.hd wi hz λh' O' sb=>h _ ?_;have hd:∃o,h'.get? dx=fw o:=let ⟨o,_,_,e',_⟩:=O'.ns;⟨o,e'⟩;refine I.write (x:=a) (e:=dx) (by rw[e];exact True.intro) (.inr ho) (λb q hb z=>(sb.2 b hb).trans z) hd ?_;refine⟨by rw[fA O.ne];exact ho,?_,O.ne,O'.obj,_,O'.ns,λg=>?_,λg hg=>?_⟩
 .have:=WI f y fs;lia
 .show gk ((fT f y fs).lookup g) (if g=f then fw u else mA g);rw[WP];by_cases q:g=f
  .rw[hX q,hX q];exact ry
  .rw[hZ q,hZ q];exact r g
 .by_cases q:g=f
  .rw[q];exact(Wy f y fs).1
  .refine(Wy f y fs).2 g<|wi g λz=>hg ?_;show(if g=f then fw u else mA g)=fx;rw[hZ q];exact z
def Inv.made(I:Inv X Â σ H s):Inv X Â σ (upd (upd H s.heap.objs.size<|.own<|s.heap.objs.size+1) (s.heap.objs.size+1)<|.ins C s.heap.objs.size [])
  {s with heap:=(s.heap.push PySem.W.emptyDict).push (PySem.W.instObj C s.heap.objs.size)}:=by
 have e1:(s.heap.push PySem.W.emptyDict).get? s.heap.objs.size=fw PySem.W.emptyDict:=Ø s.heap rfl;have e2:((s.heap.push PySem.W.emptyDict).push<|PySem.W.instObj C s.heap.objs.size).get? (s.heap.objs.size+1)=fw (PySem.W.instObj C s.heap.objs.size):=by
  have:=Ø (s.heap.push PySem.W.emptyDict) (o:=PySem.W.instObj C s.heap.objs.size) rfl
  rwa [Ż]at this
 have e3:(s.heap.push PySem.W.emptyDict).Ns s.heap.objs.size λ_=>fx:=⟨PySem.W.emptyDict,#[],_,e1,rfl,(λe he=>ij he<|by simp),λ_=>rfl⟩
 have I1:=I.laid (a:=s.heap.objs.size) (o:=.own<|s.heap.objs.size+1) (h':=s.heap.push PySem.W.emptyDict) (t':=s.toks) (λb u q=>Ä _ q) (Ì _) ⟨_,e1⟩;refine I1.laid (a:=s.heap.objs.size+1) (o:=.ins C s.heap.objs.size []) (t':=s.toks) (λb u q=>Ä _ q) (Nat.le_of_eq<|Ż _ _) ?_;have ne:s.heap.objs.size≠s.heap.objs.size+1:=é<|Į _;refine⟨by rw[fA ne,fB],Ę _,ne,e2,λ_=>fx,(Heap.Ns1.of_empty e3).at λo q=>Ä _ q,λ_=>True.intro,λy hy=>ij rfl hy⟩
def Fz(hb:ħ e f env (eval e env)=eval e env)(h:wpAny (á prog w) A (eval e env) (λo ġ=>wpAny (á prog w) A (getAttr o f fy) Q E ġ) E s):wpAny (á prog w) A (eval (.Attribute e f í) env) Q E s :=
 Attribute_any_ h (by rw[arm_eval_Attribute,hb])
end
abbrev Sz(K:Frag)(ta:TE)(f:Str):TE:=λσ H Q=>ta σ H λx H1=>∃a C dx fs v,x=.ref a/\H1 a=fw (.ins C dx fs)/\Cls K C/\NoAttr K C f/\fs.lookup f=fw v/\Q v H1
abbrev SF(K:Frag)(ta tv:TE)(f:Str):TS:=λD σ H=>tv σ H λy H1=>ta σ H1 λx H2=>∃a C dx fs,x=.ref a/\H2 a=fw (.ins C dx fs)/\Cls K C/\NoAttr K C f/\fs.length<1000/\
 D.nx σ (upd H2 a<|.ins C dx<|fT f y fs)
abbrev C5(X:Cx)(op:ϝ)(rd:V->V->Hp->VK->Prop):Prop :=
 ∀(Â:List<|Ð×Obj) (s:Æ) (σ:St) (H:Hp) (x y:V) (u v:Ã) (Q:VK),Inv X Â σ H s->RelV x u->RelV y v->rd x y H Q->wpAny ↥2 X.A (inplaceOp op u v) (EP X Â σ Q) X.xe s
abbrev GM(K:Frag)(ta tv:TE)(rd:V->V->Hp->VK->Prop)(f:Str):TS:=λD σ H=>ta σ H λx H1=>∃a C dx fs v,x=.ref a/\H1 a=fw (.ins C dx fs)/\Cls K C/\NoAttr K C f/\fs.lookup f=fw v/\
 tv σ H1 λy H2=>rd v y H2 λz H3=>∃dx' fs',H3 a=fw (.ins C dx' fs')/\fs'.length<1000/\D.nx σ (upd H3 a<|.ins C dx'<|fT f z fs')
section
variable {o e Β:Expr}{f:Str}{í bG cW:Pos}
def Pb(he:PE X e ta)(hb:ħ e f X.env (eval e X.env)=eval e X.env):PE X (.Attribute e f í)<|Sz X.K ta f:=by k_sub;refine Fz hb<|thn (he Â s σ H _ I h) λu s1 ⟨x,H1,I1,rx,a,C,dx,fs,v,ex,ea,c,n,l,q⟩=>?_;subst ex;obtain rfl:u=Value.ref a:=rx;exact JC I1 ea c n l λu' s2 I2 ru=>⟨v,H1,I2,ru,q⟩
def LB(ha:PE X o ta)(hv:PE X Β tv)(hs:η Β (fw<|.Attribute o f bG) í.line X.env=pure fz):PS X (.Assign [.Attribute o f bG] Β í)<|SF X.K ta tv f:=by intro Â s σ H D I h;refine plainObj_wpAny_Assign_Attribute (thn (hv Â s σ H _ I h) λu s1 ⟨y,H1,I1,ry,q⟩=>thn (ha Â s1 σ H1 _ I1 q) λov s2 ⟨x,H2,I2,rx,a,C,dx,fs,ex,ea,c,n,l,q2⟩=>?_) hs;subst ex;obtain rfl:ov=Value.ref a:=rx;exact JL I2 ea c n l ry λs3 I3=>⟨σ,_,I3,q2⟩
def BO(ha:PE X o ta)(hv:PE X Β tv)(hop:C5 X op rd):PS X (.AugAssign (.Attribute o f cW) op Β í)<|GM X.K ta tv rd f:=by intro Â s σ H D I h;refine wpAny_AugAssign_AttributeAny<|thn (ha Â s σ H _ I h) λov s1 ⟨x,H1,I1,rx,a,C,dx,fs,v,ex,ea,c,n,l,q⟩=>?_;subst ex;obtain rfl:ov=Value.ref a:=rx;refine JC I1 ea c n l λu s2 I2 ru=>thn (hv Â s2 σ H1 _ I2 q) λw3 s3 ⟨y,H2,I3,ry,q3⟩=>thn (hop Â s3 σ H2 v y u w3 _ I3 ru ry q3) λw4 s4 ⟨z,H3,I4,rz,dx',fs',ea',l',q4⟩=>?_;exact JL I4 ea' c n l' rz λs5 I5=>⟨σ,_,I5,q4⟩
abbrev Tm:V->V->Hp->VK->Prop:=λx y H Q=>∃i j,x=.int i/\y=.int j/\Q (.int<|i+j) H
abbrev Tg:V->V->Hp->VK->Prop:=λx y H Q=>∃i j,x=.int i/\y=.int j/\Q (.int<|i - j) H
def Qh:C5 X .Add Tm:=by
 rintro Â s σ H x y u v Q I rx ry ⟨i,j,rfl,rfl,q⟩;let⟨t,rfl⟩:=(show ∃t,u=Value.int i t from rx)
 let⟨t',rfl⟩:=(show ∃t',v=Value.int j t' from ry)
 exact PyProof.Rows.iadd_int ⟨.int<|i+j,H,I.tok _,⟨_,rfl⟩,q⟩
def L7:C5 X .Sub Tg:=by
 rintro Â s σ H x y u v Q I rx ry ⟨i,j,rfl,rfl,q⟩;let⟨t,rfl⟩:=(show ∃t,u=Value.int i t from rx)
 let⟨t',rfl⟩:=(show ∃t',v=Value.int j t' from ry)
 exact PyProof.Rows.isub_int ⟨.int<|i - j,H,I.tok _,⟨_,rfl⟩,q⟩
end
section
variable {X:Cx}{Â:List (Ð×Obj)}{σ:St}{H:Hp}{s:Æ}{Q:Ã->Æ->Prop}{c:Ã}{b:Bool}
inductive gO (K:Frag) (H:Hp):V->Ã->Prop where
 |non:gO K H .non<|.type "NoneType"
 |bl (x:Bool):gO K H (.bl x)<|.type "bool"
 |int (i:Int):gO K H (.int i)<|.type "int"
 |str (x:Str):gO K H (.str x)<|.type "str"
 |flt (x:UInt64):gO K H (.flt x)<|.type "float"
 |lst {a:Ð}{xs:List V}(e:H a=fw (.lst xs)):gO K H (.ref a)<|.type "list"
 |frz {a:Ð}{o:Obj}{xs:List V}(e:H a=fw (.frz o<|.lst xs)):gO K H (.ref a)<|.type "list"
 |tup {a:Ð}{xs:List V}(e:H a=fw (.tup xs)):gO K H (.ref a)<|.type "tuple"
 |dK {a:Ð}{kvs:List (Key×V)}(e:H a=fw (.dK kvs)):gO K H (.ref a)<|.type "dict"
 |dT {a:Ð}{kvs:List (List Key×V)}(e:H a=fw (.dT kvs)):gO K H (.ref a)<|.type "dict"
 |ins {a C dx:Ð}{fs:List (Str×V)}(e:H a=fw (.ins C dx fs)) (cl:Cls K C) (ha:PySem.W.findIn K (.ref C) "__class__" = fw (fw<|.builtin "object.__class__"))
   (hn:PySem.W.specialIn K (.builtin "object.__class__") "__get__" = fw (fw<|.builtin "getset_descriptor.__get__")) (htk:PySem.W.takesIn K (.builtin "object.__class__")=fw fy)
   (hm:PySem.W.mroIn K C (.type "object")=fw fy):gO K H (.ref a)<|.ref C
def Av(I:Inv X Â σ H s)(rx:RelV x u)(ty:gO X.K H x t)(e:PySem.W.kitOne X.K t c=fw b)(h:∀tk,Q (.bool b) {s with toks:=tk}) :
  wpAny ↥2 A (call (.builtin "isinstance") [u,c]) Q E s:=by
 cases ty with
 |non=>cases (show u=Value.none from rx);exact PySem.W.kia_one PySem.W.kitx_none I.kIn True.intro e (λz=>nomatch z) h
 |bl y=>cases (show u=Value.bool y from rx);exact PySem.W.kia_one PySem.W.kitx_bool I.kIn True.intro e (λz=>nomatch z) h
 |int i=>let⟨t,q⟩:=(show ∃t,u=Value.int i t from rx);cases q;exact PySem.W.kia_one PySem.W.kitx_int I.kIn True.intro e (λz=>nomatch z) h
 |str y=>let⟨t,q⟩:=(show ∃t,u=Value.str y t from rx);cases q;exact PySem.W.kia_one PySem.W.kitx_str I.kIn True.intro e (λz=>nomatch z) h
 |flt y=>let⟨t,q⟩:=(show ∃t,u=Value.float y t from rx);cases q;exact PySem.W.kia_one PySem.W.kitx_float I.kIn True.intro e (λz=>nomatch z) h
 |@lst a xs ea =>
  cases (show u=Value.ref a from rx);let⟨_,_,n,_,h1⟩:=(show fN X.prog X.w H s.heap a (.lst xs) from I.hok a _ ea)
  exact PySem.W.kia_one PySem.W.kitx_list I.kIn ⟨_,h1,rfl⟩ e (λz=>nomatch z) h
 |@frz a ob xs ea =>
  cases (show u=Value.ref a from rx);let⟨_,_,_,n,_,h1⟩:=(show fN X.prog X.w H s.heap a (.frz ob<|.lst xs) from I.hok a _ ea)
  exact PySem.W.kia_one PySem.W.kitx_list I.kIn ⟨_,h1,rfl⟩ e (λz=>nomatch z) h
 |@tup a xs ea =>
  cases (show u=Value.ref a from rx);let⟨_,_,_,p⟩:=(show fN X.prog X.w H s.heap a (.tup xs) from I.hok a _ ea)
  let⟨o,h1,h2,_⟩:=p;exact PySem.W.kia_one PySem.W.kitx_tuple I.kIn ⟨o,h1,h2⟩ e (λz=>nomatch z) h
 |@dK a kvs ea =>
  cases (show u=Value.ref a from rx);let⟨_,_,vs,_,p⟩:=(show fN X.prog X.w H s.heap a (.dK kvs) from I.hok a _ ea)
  let⟨o,es,ep,h1,h2,_⟩:=p;exact PySem.W.kia_one PySem.W.kitx_dict I.kIn ⟨o,h1,h2.1⟩ e (λz=>nomatch z) h
 |@dT a kvs ea =>
  cases (show u=Value.ref a from rx);let⟨_,_,xs,_,o,es,ep,h1,h2,_⟩:=(show fN X.prog X.w H s.heap a (.dT kvs) from I.hok a _ ea)
  exact PySem.W.kia_one PySem.W.kitx_dict I.kIn ⟨o,h1,h2.1⟩ e (λz=>nomatch z) h
 |@ins a C dx fs ea cl ha hn htk hm =>cases (show u=Value.ref a from rx);let⟨mA,O,_⟩:=W5 I.hok ea;let⟨od,J,_⟩:=O.look;exact PySem.W.kia_one (PySem.W.kitx_own (cl.get _) cl.hd ha hn htk hm) I.kIn J e (λz=>nomatch z) h
end
structure gm(k:Nat)(A:Ď):Prop where
 hd:A.handled=fx
 dp:A.depth+3*k+5<recursionLimit
 un:A.units+16*k+200<Ğ
variable {A:Ď}
def gm.mono(r:gm k A)(h:j<=k):gm j A:=⟨r.hd,by have:=r.dp;lia,by have:=r.un;lia⟩
def gm.deeper(r:gm (k+1) A)(env:Env):gm k (A.deeper env) :=
 ⟨r.hd,by have:=r.dp;show A.depth+1+3*k+5<_;lia,by have:=r.un;show A.units+3+16*k+200<_;lia⟩
variable {C:Ð}{us:List Ã}{kw:List (Str×Ã)}
def Uk:(A.under<|.builtin "type.__call__" ⟨.ref C::us,kw⟩).depth=A.depth+1:=by
 first|rfl|simp[bL,Code.weight,Code.isCreation,Code.isGuard,Code.isCaller,Code.frames,ce,guardIds]
def Ui:(A.under<|.builtin "type.__call__" ⟨.ref C::us,kw⟩).units=A.units+1:=by
 first|rfl|simp[bL,Code.cUnits,Code.frames,ce]
def gm.make(r:gm (k+1) A)(C:Ð)(us:List Ã)(kw:List<|Str×Ã):gm k (A.under<|.builtin "type.__call__" ⟨.ref C::us,kw⟩) :=
 ⟨r.hd,by have:=r.dp;rw[Uk];lia,by have:=r.un;rw[Ui];lia⟩
def gm.depth(r:gm k A):A.depth<recursionLimit:=by have:=r.dp;lia
abbrev FZ:TA:=λ_ H Q=>Q [] H
abbrev Il(ta:TE)(tr:TA):TA:=λσ H Q=>ta σ H λx H1=>tr σ H1 λxs H2=>Q (x::xs) H2
section
variable {e:Expr}{í:Pos}
def gQ:PA X [] FZ:=λ_ _ _ _ H Q I h=>Calls.spliced_nil ⟨[],H,I,.nil,h⟩
def ZK(ha:PE X e te)(hr:PA X es t)(hs:Ý (e::es) X.env=(fz,eval e X.env)::Ý es X.env:=by rfl):PA X (e::es)<|Il te t:=by intro í Â s σ H Q I h;rw[hs];show wpAny _ _ (spliced<|(fz,eval e X.env)::Ĥ í (Ý es X.env)) _ _ s;refine Calls.spliced_cons<|thn (ha Â s σ H _ I h) λu s1 ⟨x,H1,I1,r1,q1⟩=>?_;exact thn (hr í Â s1 σ H1 _ I1 q1) λus s2 ⟨xs,H2,I2,r2,q2⟩=>⟨x::xs,H2,I2,.cons r1 r2,q2⟩
abbrev SW(t:TA):TE:=λσ H Q=>t σ H λxs H1=>xs.length<=à/\∀p,H1 p=fx->Q (.ref p) (upd H1 p<|.tup xs)
abbrev Td(t:TA):TE:=λσ H Q=>t σ H λxs H1=>xs.length<=à/\∀p,H1 p=fx->Q (.ref p) (upd H1 p<|.lst xs)
def Qi{x1}(h:PA X es t):PE X (.Tuple es x1 í)<|SW t:=by intro Â s σ H Q I hq;refine wpAny_Tuple_spliced (thn (h í Â s σ H _ I hq) λus s1 ⟨xs,H1,I1,r,z,q⟩=>⟨by rw[<-r.length];exact z,?_⟩);have hf:H1 s1.heap.objs.size=fx:=I1.hok.fresh<|Ì _;refine⟨.ref s1.heap.objs.size,upd H1 s1.heap.objs.size<|.tup xs,I1.laid (t':=s1.toks) (λb u e=>Ä _ e) (Ì _) ?_,rfl,q _ hf⟩;exact⟨z,us,r,⟨_,Ø _ rfl,rfl,_,rfl⟩⟩
def Lh(h:PA X es t):PE X (.List es í)<|Td t:=by intro Â s σ H Q I hq;refine wpAny_List_spliced (thn (h í Â s σ H _ I hq) λus s1 ⟨xs,H1,I1,r,z,q⟩=>⟨by rw[<-r.length];exact z,?_⟩);have hf:H1 s1.heap.objs.size=fx:=I1.hok.fresh<|Ì _;refine⟨.ref s1.heap.objs.size,upd H1 s1.heap.objs.size<|.lst xs,I1.laid (t':=s1.toks) (λb u e=>Ä _ e) (Ì _) ?_,rfl,q _ hf⟩;exact⟨z,us,0,r,Ø _ rfl⟩
end
noncomputable abbrev Sp:=List V->Hp->VK->XK->Prop
noncomputable abbrev CXT:=List Env->Hp->Æ->XK->Ã->Æ->Prop
structure Env0(P:è)(w:ÿ)(K:Frag)(mg:Str->Option Ã)(base:Č)(A:Ď)(outer:List Env)(s:Æ)(H:Hp):Prop where
 frames:A.frames=fw outer
 mod:Mod K mg base
 bs:∀b o,base.get? b=fw o->s.heap.get? b=fw o/\H b=fx
 bsz:base.objs.size<=s.heap.objs.size
 funs:s.heap.FunFrames base outer
 frf:∀b∈frs outer,H b=fx
 hok:HOk P w H s.heap
 bare:ώ s.gens
abbrev CE(outer:List Env)(P:è)(w:ÿ)(H:Hp)(s:Æ)(Q:VK)(u:Ã)(s':Æ):Prop :=
 ∃v H',s'.os=s.os/\ώ s'.gens/\Un (frs outer) [] H H' s.heap s'.heap/\HOk P w H' s'.heap/\RelV v u/\Q v H'
abbrev CR(CX:CXT)(outer:List Env)(P:è)(w:ÿ)(H:Hp)(s:Æ)(Q:VK)(E:XK)(r:bB)(s':Æ):Prop :=
 match r with
 |.ok (.ret u)=>CE outer P w H s Q u s'
 |.ok _=>False
 |.error e=>CX outer H s E e s'
structure gp(P:è)(w:ÿ)(K:Frag)(mg:Str->Option Ã)(base:Č)(CX:CXT)(k:Nat)(f:Ð)(fd:ŋ)(ps:List Str)(sp:Sp):Prop where
 len:∀vs H Q E,sp vs H Q E->vs.length=ps.length
 run:∀(A:Ď) (outer:List Env) (s:Æ) (H:Hp) (args:Args) (us:List Ã) (vs:List V) (Q:VK) (E:XK),gm k A->Env0 P w K mg base A outer s H->BindsTo s fd args (ps.zip us)->gV vs us->sp vs H Q E->
  codeAny (á P w) A (.call (.ref f) args) (CR CX outer P w H s Q E) s
variable {w:ÿ}{mg:Str->Option Ã}
def Env0.make{K:Frag}(e:Env0 P w K mg base A outer s H)(C:Ð)(us:List Ã)(kw:List<|Str×Ã) :
  Env0 P w K mg base (A.under<|.builtin "type.__call__" ⟨.ref C::us,kw⟩) outer s H:=⟨by first|exact e.frames|(simpa[bL,Code.envs,ce,pushEnvs]using e.frames),e.mod,e.bs,e.bsz,e.funs,e.frf,e.hok,e.bare⟩
section
variable {X:Cx}{Â:List (Ð×Obj)}{σ:St}{H:Hp}{s s':Æ}
def Inv.env0(I:Inv X Â σ H s):Env0 X.prog X.w X.K X.mg X.base X.A X.stack s H :=
 ⟨I.ok.frames,I.ok.mod,I.bs,Û I.ok.bsz I.sz,I.stack,I.stkFree,I.hok,I.bare⟩
def Inv.after(I:Inv X Â σ H s)(h:CE X.stack X.prog X.w H s Q u s'):EP X Â σ Q u s':=by let⟨v,H',os,bare,un,hok,r,q⟩:=h;let⟨hh,g,d,t,os'⟩:=s';obtain rfl:os'=s.os:=os;exact⟨v,H',I.call (h':=hh) (g':=g) (d':=d) (t':=t) (ch:=[]) un hok bare λb z=>ij z<|by simp,r,q⟩
end
abbrev IA(sp:Sp)(aI:List V)(E:XK)(t:TA):TE:=λσ H Q=>t σ H λvs H1=>sp (vs++aI) H1 Q E
abbrev Ib(C:Ð)(m:Str)(sp:Sp)(aI:List V)(E:XK)(ta:TE)(t:TA):TE:=λσ H Q=>ta σ H λx H1=>∃a dx fs,x=.ref a/\H1 a=fw (.ins C dx fs)/\fs.lookup m=fx/\
 t σ H1 λvs H2=>sp (x::(vs++aI)) H2 Q E
abbrev RU(C:Ð)(sp:Sp)(aI:List V)(E:XK)(t:TA):TE:=λσ H Q=>t σ H λvs H1=>∀x dx,H1 x=fx->H1 dx=fx->dx≠x->
 sp (.ref x::(vs++aI)) (upd (upd H1 dx<|.own x) x<|.ins C dx []) (λv H2=>v=.non/\Q (.ref x) H2) E
abbrev Binds(K:Frag)(fd:ŋ)(ps:List Str)(ds:List Ã):Prop :=
 ∀(s:Æ) (us:List Ã),K.In s.heap->(us++ds).length=ps.length->BindsTo s fd ⟨us,[]⟩ (ps.zip<|us++ds)
def Binds.all{K:Frag}(h:∀us:List Ã,us.length=ps.length->bindArgs fd ⟨us,[]⟩=pure (ps.zip us)):Binds K fd ps []:=λs us _ hl=>by rw[ï]at hl ⊢;exact .of_eq (h us hl)
abbrev Xd(CX:CXT)(X:Cx)(E:XK):Prop:=∀(Â:List<|Ð×Obj) (σ:St) (H:Hp) (s:Æ) (e:Ã) (s':Æ),Inv X Â σ H s->CX X.stack H s E e s'->X.xe e s'
section
variable {k:Nat}{f C:Ð}{ps:List Str}{x m:Str}{p í Ŕ:Pos}{e o:Expr}
variable {vs:List V}
def MK(F:gp X.prog X.w X.K X.mg X.base CX k f fd ps sp)(hr:gm k X.A)(hb:Binds X.K fd ps ds)(hd:gV aI ds)(hx:Xd CX X E)(I:Inv X Â σ H s)(r:gV vs us)(h:sp (vs++aI) H Q E):wpAny ↥2 X.A (call (.ref f) us) (EP X Â σ Q) X.xe s:=by
 have r2:gV (vs++aI)<|us++ds:=r.append hd;have hl:(us++ds).length=ps.length:=by rw[<-r2.length];exact F.len _ _ _ _ h
 refine wpAny_call<|ι (F.run X.A X.stack s H ⟨us,[]⟩ (us++ds) (vs++aI) Q E hr I.env0 (hb s us I.kIn hl) r2 h) λr s' hq=>?_;cases r with
 |error e=>exact hx Â σ H s e s' I hq
 |ok fl =>
  cases fl with
  |ret u=>exact I.after hq
  |next=>exact Ň hq
  |brk=>exact Ň hq
  |cont=>exact Ň hq
def HZ(F:gp X.prog X.w X.K X.mg X.base CX k f fd ps sp)(hr:gm k X.A)(hg:Gl X x)(hm:X.mg x=fw (.ref f))(hk:PySem.W.keepIn X.K (.ref f)=fy)(hb:Binds X.K fd ps ds)(hd:gV aI ds)(hx:Xd CX X E)(ha:PA X (e::es) t)(cY:(x==("__debug__" : Str))=fz:=by decide)(he:Ý (e::es) X.env=(fz,eval e X.env)::Ý es X.env:=by rfl)(hpl:(Ĥ í<|Ý es X.env).any (·.1)=fz:=by rfl) :
  PE X (.Call (.Name x p) (e::es) [] í) (IA sp aI E t):=by
 k_sub;refine İ<|Jb I hg hm ?_ cY;refine PySem.W.callWith_K (h₀:=X.base) I.ok.mod.kin hk (thn (ha í Â s σ H _ I h) λus s1 ⟨vs,H1,I1,r,q⟩=>⟨I1.kIn,?_⟩) he hpl;exact MK F hr hb hd hx I1 r q
def CZ(F:gp X.prog X.w X.K X.mg X.base CX k f fd ps sp)(hr:gm k X.A)(hg:Gl X x)(hm:X.mg x=fw (.ref f))(hk:PySem.W.keepIn X.K (.ref f)=fy)(hb:Binds X.K fd ps ds)(hd:gV aI ds)(hx:Xd CX X E)(cY:(x==("__debug__" : Str))=fz:=by decide):PE X (.Call (.Name x p) [] [] í)<|IA sp aI E FZ:=by
 k_sub;refine İ<|Jb I hg hm ?_ cY;exact PySem.W.callWith_K0 I.kIn hk<|MK (us:=[]) F hr hb hd hx I .nil h
def Fc(he:PE X o ta)(c:Cls X.K C)(hm:Meth X.K C m f)(F:gp X.prog X.w X.K X.mg X.base CX k f fd ps sp)(hr:gm k X.A)(hb:Binds X.K fd ps ds)(hd:gV aI ds)(hx:Xd CX X E)(ha:PA X (e::es) t)(Ź:Ý (e::es) X.env=(fz,eval e X.env)::Ý es X.env:=by rfl)(hpl:(Ĥ í<|Ý es X.env).any (·.1)=fz:=by rfl)(ht:eval (.Call (.Attribute o m Ŕ) (e::es) [] í) X.env=(do
    let ov<-eval o X.env
    ϐ Ŕ.atName
    let (f,first)<-ŕ [ov] (Ϟ ov m pl)
    cD í f first (Ĥ í<|Ý (e::es) X.env) (μ í<|Ō [] X.env)):=by rfl) :
  PE X (.Call (.Attribute o m Ŕ) (e::es) [] í) (Ib C m sp aI E ta t):=by
 k_sub;refine PySem.W.methodCall_KW (pl:=pl) (thn (he Â s σ H _ I h) λu s1 ⟨x,H1,I1,rx,a,dx,fs,ex,ea,l,q⟩=>?_) ht;subst ex;obtain rfl:u=Value.ref a:=rx;refine Kg I1 ea c hm l ?_;refine PySem.W.callWith_K (first:=[.ref a]) (h₀:=X.base) I.ok.mod.kin hm.kp (thn (ha í Â s1 σ H1 _ I1 q) λus s2 ⟨vs,H2,I2,r,q2⟩=>⟨I2.kIn,?_⟩) Ź hpl;exact MK (us:=.ref a::us) (vs:=.ref a::vs) F hr hb hd hx I2 (.cons rfl r) q2
def DI(he:PE X o ta)(c:Cls X.K C)(hm:Meth X.K C m f)(F:gp X.prog X.w X.K X.mg X.base CX k f fd ps sp)(hr:gm k X.A)(hb:Binds X.K fd ps ds)(hd:gV aI ds)(hx:Xd CX X E)(ht:eval (.Call (.Attribute o m Ŕ) [] [] í) X.env=(do
    let ov<-eval o X.env
    ϐ Ŕ.atName
    let (f,first)<-ŕ [ov] (Ϟ ov m pl)
    cD í f first (Ĥ í<|Ý [] X.env) (μ í<|Ō [] X.env)):=by rfl) :
  PE X (.Call (.Attribute o m Ŕ) [] [] í) (Ib C m sp aI E ta FZ):=by
 k_sub;refine PySem.W.methodCall_KW (pl:=pl) (thn (he Â s σ H _ I h) λu s1 ⟨x,H1,I1,rx,a,dx,fs,ex,ea,l,q⟩=>?_) ht;subst ex;obtain rfl:u=Value.ref a:=rx;refine Kg I1 ea c hm l ?_;exact PySem.W.callWith_K0 (first:=[.ref a]) I1.kIn hm.kp<|MK (us:=[.ref a]) (vs:=[.ref a]) F hr hb hd hx I1 (.cons rfl .nil) q
structure Mk(K:Frag)(C f:Ð):Prop where
 makes:PySem.W.makesIn K C=fy
 init:PySem.W.findIn K (.ref C) "__init__" = fw (fw<|.ref f)
 fn:PySem.W.isFn K (.ref f)=fy
 kp:PySem.W.keepIn K (.ref C)=fy
def CF(M:Mk X.K C f)(F:gp X.prog X.w X.K X.mg X.base CX k f fd ps sp)(hr:gm (k+1) X.A)(hb:Binds X.K fd ps ds)(hd:gV aI ds)(hx:Xd CX X E)(I:Inv X Â σ H s)(r:gV vs us)(h:∀x dx,H x=fx->H dx=fx->dx≠x->sp (.ref x::(vs++aI)) (upd (upd H dx<|.own x) x<|.ins C dx []) (λv H2=>v=.non/\Q (.ref x) H2) E) :
  wpAny ↥2 X.A (call (.ref C) us) (EP X Â σ Q) X.xe s:=by
 have hq:=h (s.heap.objs.size+1) s.heap.objs.size (I.hok.fresh<|ň _) (I.hok.fresh<|Ì _)<|é<|Į _;have I2:=Inv.made (C:=C) I;have r2:gV (V.ref (s.heap.objs.size+1)::(vs++aI))<|Value.ref (s.heap.objs.size+1)::(us++ds):=.cons rfl<|r.append hd;have hl:(Value.ref (s.heap.objs.size+1)::us++ds).length=ps.length:=by have e:=r2.length;rw[F.len _ _ _ _ hq]at e;exact e.symm
 refine wpAny_call (EX (f:=f) I.kIn M.makes M.init (beq_iff_eq.mp M.fn) (ι (F.run _ X.stack _ _ ⟨Value.ref (s.heap.objs.size+1)::us,[]⟩ (Value.ref (s.heap.objs.size+1)::(us++ds)) _ _ E (hr.make C us [])
   (I2.env0.make C us []) (hb _ (Value.ref (s.heap.objs.size+1)::us) I2.kIn hl) r2 hq) λr s' hq'=>?_))
 cases r with
 |error e=>exact hx Â σ _ _ e s' I2 hq'
 |ok fl =>
  cases fl with
  |ret u =>let⟨v,H',I3,rv,ev,q3⟩:=I2.after hq';subst ev;exact⟨rv,⟨V.ref<|s.heap.objs.size+1,H',I3,rfl,q3⟩⟩
  |next=>exact Ň hq'
  |brk=>exact Ň hq'
  |cont=>exact Ň hq'
def HY(M:Mk X.K C f)(F:gp X.prog X.w X.K X.mg X.base CX k f fd ps sp)(hr:gm (k+1) X.A)(hg:Gl X x)(hm:X.mg x=fw (.ref C))(hb:Binds X.K fd ps ds)(hd:gV aI ds)(hx:Xd CX X E)(ha:PA X (e::es) t)(cY:(x==("__debug__" : Str))=fz:=by decide)(he:Ý (e::es) X.env=(fz,eval e X.env)::Ý es X.env:=by rfl)(hpl:(Ĥ í<|Ý es X.env).any (·.1)=fz:=by rfl) :
  PE X (.Call (.Name x p) (e::es) [] í) (RU C sp aI E t):=by
 k_sub;refine İ<|Jb I hg hm ?_ cY;refine PySem.W.callWith_K (h₀:=X.base) I.ok.mod.kin M.kp (thn (ha í Â s σ H _ I h) λus s1 ⟨vs,H1,I1,r,q⟩=>⟨I1.kIn,?_⟩) he hpl;exact CF M F hr hb hd hx I1 r q
end
structure FnScope(N P:List Str)(sc:ς):Prop where
 kind:sc.kind=.function
 co:sc.isCoroutine=fz
 gen:sc.isGenerator=fz
 nd:N.Nodup
 pre:N.take P.length=P
 par:∀x∈P,sc.names.lookup x=fw .local\/sc.names.lookup x=fw .cell
 nofree:∀y∈sc.names,y.2≠.free
def K9{Θ:Str->Option ϟ}{x:Str}:∀{binds:List (Str×Ã)}{m:Str->Option Ã},(∀v,(x,v)∉binds)->bindL Θ binds m x=m x
 |[],_,_=>rfl
 |(n,v)::r,m,h=>by
  unfold bindL;rw[K9 λw hw=>h w<|â _ hw];split
  .have:x≠n:=by rintro rfl;exact h v ó
   simp[this]
  .rfl
def Me{Θ:Str->Option ϟ}{x:Str}:∀{binds:List (Str×Ã)}{m:Str->Option Ã},(∀v,(x,v)∉binds)->d0 Θ binds m x=m x
 |[],_,_=>rfl
 |(n,v)::r,m,h=>by
  unfold d0;rw[Me λw hw=>h w<|â _ hw];split
  .rfl
  .have:x≠n:=by rintro rfl;exact h v ó
   simp[this]
def Mo{Θ:Str->Option ϟ}{x:Str}{v:Ã}:∀{P:List Str}{vs:List Ã}{i:Nat}{m:Str->Option Ã},P.Nodup->P[i]?=fw x->vs[i]?=fw v->Θ x=fw .local->
  bindL Θ (P.zip vs) m x=fw v
 |[],_,_,_,_,h,_,_=>by simp at h
 |_::_,[],_,_,_,_,h,_=>by simp at h
 |p::P,w::vs,0,m,nd,h1,h2,hk=>by simp at h1 h2;subst h1;subst h2;show bindL Θ ((p,w)::P.zip vs) m p=_;unfold bindL;rw[K9 λv hv=>(ô.mp nd).1 (aQ hv).1,hX hk];simp
 |p::P,w::vs,i+1,m,nd,h1,h2,hk=>by show bindL Θ ((p,w)::P.zip vs) m x=_;unfold bindL;exact Mo (i:=i) (ô.mp nd).2 ⇑h1 ⇑h2 hk
def K6{Θ:Str->Option ϟ}{x:Str}{v:Ã}:∀{P:List Str}{vs:List Ã}{i:Nat}{m:Str->Option Ã},P.Nodup->P[i]?=fw x->vs[i]?=fw v->Θ x≠fw .local->
  d0 Θ (P.zip vs) m x=fw v
 |[],_,_,_,_,h,_,_=>by simp at h
 |_::_,[],_,_,_,_,h,_=>by simp at h
 |p::P,w::vs,0,m,nd,h1,h2,hk=>by simp at h1 h2;subst h1;subst h2;show d0 Θ ((p,w)::P.zip vs) m p=_;unfold d0;rw[Me λv hv=>(ô.mp nd).1 (aQ hv).1,hZ hk];simp
 |p::P,w::vs,i+1,m,nd,h1,h2,hk=>by show d0 Θ ((p,w)::P.zip vs) m x=_;unfold d0;exact K6 (i:=i) (ô.mp nd).2 ⇑h1 ⇑h2 hk
abbrev start(N:List Str)(vs:List V):St:=vs.map fw++Þ (N.length - vs.length) fx
abbrev Nd(CX:CXT)(P:è)(w:ÿ)(K:Frag)(mg:Str->Option Ã)(base:Č)(N:List Str)(qual:Str)(scope:ς)(f:Ð)(cd:Ã)(A:Ď)(outer:List Env)(s:Æ)(H:Hp)(E:XK):Cx where
 prog:=P
 w:=w
 K:=K
 mg:=mg
 base:=base
 A:=A.deeper<|aB qual scope s.heap.objs.size f cd
 N:=N
 s₀:=s
 H₀:=H
 env:=aB qual scope s.heap.objs.size f cd
 outer:=outer
 stack:=aB qual scope s.heap.objs.size f cd::outer
 ex:=[]
 calm:=fy
 fn:=λ_=>fy
 pn:=[]
 xe:=λe s'=>wpAny (á P w) (A.deeper<|aB qual scope s.heap.objs.size f cd) (leaving (aB qual scope s.heap.objs.size f cd) e) (λ_ s''=>CX outer H s E e s'') (λe' s''=>CX outer H s E e' s'') s'
def Ny{sc:ς}{n:Nat}{x:Str}(h:sc.names.lookup x=fw .cell):∃c,(cellsFrom n sc.names []).lookup x=fw c:=by have q:=PySem.W.cellsFrom_some sc.names n []<|.inl h;exact å.mp q
variable {qual:Str}{f:Ð}
def AH{K:Frag}(S:FnScope N ps scope)(hd:A.handled=fx)(e0:Env0 P w K mg base A outer s H)(hl:vs.length=ps.length)(r:gV vs us)(x:InCallC s s.heap.objs.size (bindL (aB qual scope s.heap.objs.size f cd).kindOf (ps.zip us) λ_=>fx) (cellsFrom (s.heap.objs.size+1) scope.names []) (d0 (aB qual scope s.heap.objs.size f cd).kindOf (ps.zip us) λ_=>fx) s1) :
  Inv (Nd CX P w K mg base N qual scope f cd A outer s H E) [] (start N vs) H s1:=by
 have hpl:ps.length<=N.length:=by have:=congrArg List.length S.pre;rw[ď]at this;lia
 let⟨h1,tk,rfl,hk⟩:=x.done;have noA:∀b:Ð,b∉(Nd CX P w K mg base N qual scope f cd A outer s H E).ex:=λb z=>ij (show b∈([]:List Ð) from z) (by simp);refine⟨⟨e0.mod,S.kind,rfl,rfl,Ì _,λy z c h1 h2=>?_,λy hy=>?_,λy c _ h=>?_,λ_=>hd,Around.frames_deeper e0.frames,.inr ⟨rfl,rfl⟩,λb z=>ij z<|noA b,e0.bs,e0.bsz,λb _ _=>noA b,λb z=>ij z<|noA b,e0.funs,e0.frf⟩,
   rfl,e0.bare,Un.kept hk,⟨_,x.toInCall.ns,λi y v h1 h2 h3=>?_⟩,λy c h=>⟨_,x.cell y c h⟩,e0.hok.fresh<|Ì _,λy c h=>?_,λp hp=>ij (show p∈([]:List<|Ð×Obj) from hp) (by simp),e0.hok.kept hk,?_⟩
 .exact name_of_addr x.apart (PySem.mem_of_lookup h1)<|PySem.mem_of_lookup h2
 .have hy:scope.names.lookup y=fw .cell\/scope.names.lookup y=fw .free:=hy;rcases hy with hy|hy
  .exact Ny hy
  .exact ij rfl<|S.nofree _<|PySem.mem_of_lookup hy
 .exact Γ<|x.above y c<|PySem.mem_of_lookup h
 .have hi:i<vs.length:=by
   unfold start at h2;by_cases hi:i<vs.length
   .exact hi
   .rw[ē<|by simpa using hi]at h2;rw[Ő]at h2;split at h2<;>cases h2
  have ha:vs[i]?=fw v:=by
   unfold start at h2;rw[Ċ ⇑hi,Ú]at h2;cases e:vs[i]? with
   |none=>rw[e]at h2;cases h2
   |some a=>rw[e]at h2;cases h2;rfl
  let⟨u,hu,rv⟩:=r.get ha;have hp:ps[i]?=fw y:=by rw[<-S.pre,List.getElem?_take_of_lt<|by lia];exact h1
  have ndP:ps.Nodup:=by rw[<-S.pre];exact S.nd.sublist<|List.take_sublist _ _
  refine⟨u,rv,?_⟩;rcases S.par y (ä hp)with k|k
  .exact .inl ⟨k,Mo ndP hp hu k⟩
  .obtain⟨c,e⟩:=Ny (n:=s.heap.objs.size+1) k;refine .inr ⟨.inl k,c,e,?_⟩;have q:=x.cell y c e;rw[K6 ndP hp hu<|by show scope.names.lookup y≠_;rw[k];decide]at q;exact q
 .exact e0.hok.fresh<|Γ<|x.above y c<|PySem.mem_of_lookup h
 .unfold start;show _=N.length;rw[ì,Á,û];lia
def RD{K:Frag}{kV:Ã}(lk:K.lookup f=fw ⟨oc,od,.func<|PySem.W.fnOf name qual params body scope dV kV doc pm an ϫ ct,osl⟩)(aT:PySem.W.codeIn K ϫ qual=fy)(S:FnScope N ps scope)(len:∀vs H Q E,sp vs H Q E->vs.length=ps.length)(hbody:∀(A:Ď) (outer:List Env) (s:Æ) (H:Hp) (vs:List V) (Q:VK) (E:XK),gm k (A.deeper<|aB qual scope s.heap.objs.size f ϫ)->sp vs H Q E->
    ∃t,PSs (Nd CX P w K mg base N qual scope f ϫ A outer s H E) body t/\t { nx:=λ_ H'=>Q .non H',rt:=Q } (start N vs) H) :
  gp P w K mg base CX (k+1) f (PySem.W.fnOf name qual params body scope dV kV doc pm an ϫ ct) ps sp:=by
 refine⟨len,λA outer s H args us vs Q E hr e0 hb r hsp=>?_⟩;have hl:=len _ _ _ _ hsp;have KX:K.In s.heap:=e0.mod.kin.keeps λb o e=>(e0.bs b o e).1;have lim:s.heap.NoLimit:=e0.mod.nolimit.keeps λb o e=>(e0.bs b o e).1;have hkind:∀y∈ps.zip us,scope.names.lookup y.1=fw .local\/(scope.names.lookup y.1=fw .cell/\((cellsFrom (s.heap.objs.size+1) scope.names []).lookup y.1).isSome=fy):=λ⟨n,v⟩ hy=>by
  rcases S.par n (aQ hy).1 with q|q
  .exact .inl q
  .exact .inr ⟨q,PySem.W.cellsFrom_some _ _ _<|.inl q⟩
 refine codeAny_call_function hr.depth (KX _ _ lk) rfl S.co S.gen rfl (PySem.W.codeRec_of KX aT)<|hb _ _ _ _ ?_;refine wpAny_newFunctionEnv_cells S.kind hkind λenv he s1 x=>?_;subst he;refine⟨lim.keeps x.toInCall.keep,codeAny_func ?_⟩;let⟨t,ht,hq⟩:=hbody A outer s H vs Q E (hr.deeper _) hsp;have I:Inv (Nd CX P w K mg base N qual scope f ϫ A outer s H E) [] (start N vs) H s1:=AH S hr.hd e0 hl r x;refine į (ht [] s1 (start N vs) H _ I hq) (λfl s' hs=>?_) λe s' hs=>hs;have fin:∀{Ű:St}{H':Hp}{v:V}{u:Ã},Inv (Nd CX P w K mg base N qual scope f ϫ A outer s H E) [] Ű H' s'->RelV v u->Q v H'->CE outer P w H s Q u s' :=
  λ{Ű H' v u} J rv q=>⟨v,H',J.os,J.bare,J.base,J.hok,rv,q⟩
 cases fl with
 |ret u =>let⟨v,Ű,H',J,rv,q⟩:=hs;exact fin J rv q
 |next =>let⟨Ű,H',J,q⟩:=hs;exact fin (v:=V.non) (u:=Value.none) J rfl q
 |brk =>let⟨_,_,_,q⟩:=hs;exact Ň q
 |cont =>let⟨_,_,_,q⟩:=hs;exact Ň q
section
variable {x:Str}{p í:Pos}{e:Expr}{id T:String}
abbrev tCB(r:List V->Hp->VK->Prop)(t:TA):TE:=λσ H Q=>t σ H λvs H1=>r vs H1 Q
def Z7(hc:fM X (.builtin id) r)(hg:Gl X x)(hm:X.mg x=fx)(hv:š x=fw (.builtin id))(ha:PA X (e::es) t)(hn:x≠"__name__":=by decide)(cY:(x==("__debug__" : Str))=fz:=by decide)(he:Ý (e::es) X.env=(fz,eval e X.env)::Ý es X.env:=by rfl)(hpl:(Ĥ í<|Ý es X.env).any (·.1)=fz:=by rfl):PE X (.Call (.Name x p) (e::es) [] í)<|tCB r t:=by
 k_sub;refine İ<|YM I hg hm hv ?_ hn cY;exact PyProof.Rows.callWith_builtin1 (thn (ha í Â s σ H _ I h) λus s1 ⟨vs,H1,I1,r1,q1⟩=>hc Â s1 σ H1 vs us Q I1 r1 q1) he hpl
def Xw(hc:fM X (.type T) r)(hg:Gl X x)(hm:X.mg x=fx)(hv:š x=fw (.type T))(ha:PA X (e::es) t)(hn:x≠"__name__":=by decide)(cY:(x==("__debug__" : Str))=fz:=by decide)(he:Ý (e::es) X.env=(fz,eval e X.env)::Ý es X.env:=by rfl)(hpl:(Ĥ í<|Ý es X.env).any (·.1)=fz:=by rfl):PE X (.Call (.Name x p) (e::es) [] í)<|tCB r t:=by
 k_sub;refine İ<|YM I hg hm hv ?_ hn cY;exact PyProof.Rows.callWith_type1 (thn (ha í Â s σ H _ I h) λus s1 ⟨vs,H1,I1,r1,q1⟩=>hc Â s1 σ H1 vs us Q I1 r1 q1) he hpl
end
end L2
namespace HT
open PySem PyProof.Rows
abbrev lexLt:List Int->List Int->Bool
 |[],[]=>fz
 |[],_::_=>fy
 |_::_,[]=>fz
 |x::xs,y::ys=>if x=y then lexLt xs ys else ik (x<y)
def lexLt_cons(x y:Int)(xs ys:List Int):lexLt (x::xs) (y::ys)=if x=y then lexLt xs ys else ik (x<y):=rfl
def Ki:lexLt [] []=fz:=rfl
def Jn(y:Int)(ys:List Int):lexLt [] (y::ys)=fy:=rfl
def J7(x:Int)(xs:List Int):lexLt (x::xs) []=fz:=rfl
def eqAt_int(A:Ď)(s:Æ)(a:Int)(t:Tok)(c:Int)(u:Tok):∃e,SeqAt.EqAt A s (.int a t) (.int c u) e/\(e=fy↔a=c) :=
 ⟨(a==c),SeqAt.EqAt.int_int a t c u,by simp⟩
def Ei(A:Ď)(s:Æ)(a:Int)(t:Tok)(c:Int)(u:Tok)(prog:è)(w:ÿ)(E:Ã->Æ->Prop)(Q:Ã->Æ->Prop)(h:Q (.bool<|ik (a<c)) s) :
  wpAny (á prog w) A (richCompare .Lt (.int a t)<|.int c u) Q E s :=
 (PyProof.Rows.lt_int h:wpAny (á prog w) A (ð .Lt (.int a t)<|.int c u) Q E s)
section
open PySem.SeqAt
open PySem.AutoSeq1 (wpAny_loadPart')
open PySem.MeetsSeq PySem.MeetsSeq2 PySem.MeetsSeq3
def Kq(l b:Ð)(items Ņ:Array Ã)(n n2:Nat)(dd dy:Option Ð)(sl eM:Array<|Option Ã)(ns ms:List Int)(hi:ā items.toList ns)(hj:ā Ņ.toList ms) :
  Meets (Builtin.«tuple.__lt__» ⟨[.ref l,.ref b],[]⟩)
   (λ_ R s=>s.heap.get? l=fw { cls:=.type "tuple",dict:=dd,data:=.seq items n,slots:=sl }/\s.heap.get? b=fw { cls:=.type "tuple",dict:=dy,data:=.seq Ņ n2,slots:=eM }/\
     R (.ok<|.ret<|.bool<|lexLt ns ms) s) :=
 .of_wp λprog w A R s h=>by
  let⟨hp,g,d,tk,os⟩:=s;let⟨hl,hb,h⟩:=h;have f2:=AutoSeq1.sub_tuple_tuple;have z1:items.size=ns.length:=by rw[<-hi.length];simp
  have z2:Ņ.size=ms.length:=by rw[<-hj.length];simp
  wp_walk using ě hl,ě hb,wpAny_forIn_list _ (λrest b s'=>b.1=fx/\s'=⟨hp,g,d,tk,os⟩/\∃(vs ws:List Ã) (cx dW:List Int),rest=vs.zip ws/\
    ā vs cx/\ā ws dW/\cx.length+Ņ.size=dW.length+items.size/\R (.ok<|.ret<|.bool<|lexLt cx dW) ⟨hp,g,d,tk,os⟩) _
  case turn =>
   rintro⟨y,x⟩ rest b s' ⟨bJ,rfl,vs,ws,cx,dW,hz,hvi,hwi,hlen,hR⟩;cases hvi with
   |nil=>rw[Τ]at hz;cases hz
   |cons a t hvi' =>
    cases hwi with
    |nil=>rw[Ε]at hz;cases hz
    |cons c u hwi' =>
     rw[ŗ]at hz;injection hz with hyx hrest;injection hyx with hy hx;subst hy hx;rw[lexLt_cons]at hR;simp![Î]at hlen;let⟨e,he,hiff⟩:=eqAt_int A.in1 ⟨hp,g,d,tk,os⟩ a t c u;refine À<|he prog w _ _ ?_;cases e with
     |true =>
      rw[hX<|hiff.mp rfl]at hR
      wp_walk
      exact⟨rfl,rfl,_,_,_,_,hrest,hvi',hwi',by lia,hR⟩
     |false =>
      rw[hZ λq=>ij (hiff.mpr q) Ă]at hR;have hri:=Ei A.in1 ⟨hp,g,d,tk,os⟩ a t c u prog w
      wp_walk using hri
      exact⟨_,rfl,⇑hR⟩
  case fin =>
   rintro⟨b1,b2⟩ s' ⟨bJ,rfl,vs,ws,cx,dW,hz,hvi,hwi,hlen,hR⟩;simp only at bJ;subst bJ;have hv:lexLt cx dW=ik (items.size<Ņ.size):=by
    cases hvi with
    |nil =>
     cases hwi with
     |nil =>simp![Ĳ]at hlen;rw[Ki];exact(ie<|by lia).symm
     |cons c u hw =>simp![Ĳ,Î]at hlen;rw[Jn];exact(ig<|by lia).symm
    |cons a t hv =>
     cases hwi with
     |nil =>simp![Ĳ,Î]at hlen;rw[J7];exact(ie<|by lia).symm
     |cons c u hw =>rw[ŗ]at hz;cases hz
   rw[hv]at hR
   wp_walk
   exact⟨_,rfl,by simpa[Builtin.Tuple.tupleCompareSizes]using hR⟩
  case h =>exact⟨rfl,rfl,items.toList,Ņ.toList,ns,ms,rfl,hi,hj,by lia,h⟩
end
section
variable {w:ÿ}
variable {b:Ð}
def lt_tupInts(hl:aW s.heap l items)(hb:aW s.heap b Ņ)(hi:ā items.toList ns)(hj:ā Ņ.toList ms)(hu:A.units<Ğ)(h:Q (.bool<|lexLt ns ms) s):wpAny (á prog w) A (ð .Lt (.ref l)<|.ref b) Q E s:=by
 let⟨⟨cls,dd,data,sl⟩,ho,hc,n,hd⟩:=id hl;let⟨⟨cls2,dy,data2,eM⟩,ho2,hc2,n2,bV⟩:=id hb;simp only at hc hd hc2 bV;subst hc hd hc2 bV;exact eV (op:=.Lt) ⟨_,ho,rfl⟩ ⟨_,ho2,rfl⟩ PySem.F.slot_tuple_lt PySem.F.entry_tuple_lt (PySem.F.args_tuple_lt_2 _ _) (Kq l b items Ņ n n2 dd dy sl eM ns ms hi hj)
  ⟨ho,ho2,show Value.bool (lexLt ns ms)≠cE/\Q (.bool<|lexLt ns ms) s from ⟨(λx=>nomatch x),h⟩⟩ hu
def cat_tup(ht:aW s.heap t vs.toArray)(hb:aW s.heap b ws.toArray)(hv:vs≠[])(h1:ws=[]->Q (.ref t) s)(h2:ws≠[]->Q (.ref s.heap.objs.size) {s with heap:=s.heap.push {cls:=.type "tuple",data:=.seq (vs++ws).toArray}})(hsz:vs.length+ws.length<=à):wpAny (á prog w) A (Ŋ .Add (.ref t)<|.ref b) Q E s:=by
 let⟨⟨cls,dd,data,sl⟩,ho,hc,n,hd⟩:=id ht;let⟨⟨cls2,dy,data2,eM⟩,ho2,hc2,n2,bV⟩:=id hb;simp only at hc hd hc2 bV;subst hc hd hc2 bV;have e:vs.toArray++ws.toArray=(vs++ws).toArray:=by simp
 by_cases hw:ws=[]
 .exact eW ⟨_,ho,rfl⟩ ⟨_,ho2,rfl⟩ bC dG PySem.F.slot_tuple_add PySem.F.entry_tuple_add (PySem.F.args_tuple_add_2 _ _)
   (tuple_addW1 t b vs.toArray ws.toArray n n2 dd dy sl eM ⇑hv<|by simp[hw]) ⟨ho,ho2,h1 hw⟩
 .refine eW ⟨_,ho,rfl⟩ ⟨_,ho2,rfl⟩ bC dG PySem.F.slot_tuple_add PySem.F.entry_tuple_add (PySem.F.args_tuple_add_2 _ _)
   (tuple_addW2 t b vs.toArray ws.toArray n n2 dd dy sl eM ⇑hv ⇑hw<|by rw[Ï,Ï];exact hsz) ⟨ho,ho2,?_⟩
  rw[e];exact h2 hw
abbrev sIx(n d:Nat):Option Int->Nat
 |none=>d
 |some v=>if v<0 then(v+(n:Int)).toNat else min v.toNat n
def L9(n d:Nat)(hd:d<=n)(o:Option Int):sIx n d o<=n:=by
 cases o with
 |none=>exact hd
 |some v =>
  show(if v<0 then(v+(n:Int)).toNat else min v.toNat n)<=n;by_cases hv:v<0
  .rw[hX hv];lia
  .rw[hZ hv];exact aC _ _
def clip_eq(v:Int)(n d:Nat):(if v<0 then max (v+(n:Int)) 0 else min v (n:Int))=((sIx n d (fw v):Nat):Int):=by
 show(if v<0 then max (v+(n:Int)) 0 else min v (n:Int))=(((if v<0 then(v+(n:Int)).toNat else min v.toNat n):Nat):Int)
 by_cases hv:v<0
 .simp![hX hv];lia
 .simp![hZ hv];lia
def Uj(lo hi:Option Int)(n:Nat):Builtin.Slice.sliceAdjust lo hi 1 (n:Int)=(((sIx n 0 lo:Nat):Int),((sIx n n hi:Nat):Int)):=by
 have h1:¬ ((1:Int)<0):=by lia
 unfold Builtin.Slice.sliceAdjust;simp![h1,if_false];refine Prod.ext ?_ ?_
 .cases lo with
  |none=>rfl
  |some v=>exact clip_eq v n 0
 .cases hi with
  |none=>rfl
  |some v=>exact clip_eq v n n
def O6(i j:Nat):Builtin.Slice.slicePlaces (i:Int) (j:Int) 1=j - i:=by
 unfold Builtin.Slice.slicePlaces;have h1:(1:Int) > 0:=by lia
 simp![h1,if_true,Int.ediv_one];split<;>lia
def J0{v:Ã}{o:Option Int}{Q:Option Int->Æ->Prop}(p:Ϙ v o)(h:Q o s):wpAny (á prog w) A (Builtin.Slice.slicePartIndex v) Q E s:=by
 cases p with
 |none=>exact slicePart_none h
 |int i t=>exact slicePart_int h
variable {lo:Option Int}
def YB{sl:Ð}{n:Nat}{Q:Int×Int×Nat->Æ->Prop}(hs:s.heap.IsSliceOf sl vl vu .none)(pl:Ϙ vl lo)(pu:Ϙ vu hi)
  (h:Q (((sIx n 0 lo:Nat):Int),1,sIx n n hi - sIx n 0 lo) s):wpAny (á prog w) A (Builtin.Slice.sliceApplied (.ref sl)<|pure (n:Int)) Q E s:=by
 let⟨os,hos,hcs,hds⟩:=id hs;unfold Builtin.Slice.sliceApplied Builtin.Slice.sliceFields;refine À<|À<|ō hos hds (x:=vl) rfl<|À<|ō hos hds (x:=vu) rfl<|À<|ō hos hds (x:=.none) rfl<|È ?_;refine À<|slicePart_none ?_;show wpAny _ _ (if((1:Int)==0)=fy then _ else _) _ _ s;rw[hZ<|by decide];refine À<|J0 pl<|À<|J0 pu<|À<|È ?_;show wpAny _ _ (match Builtin.Slice.sliceAdjust lo hi 1 (n:Int)with|(lo,hi)=>pure (lo,(1:Int),Builtin.Slice.slicePlaces lo hi 1)) _ _ s;rw[Uj lo hi n];show wpAny _ _ (pure (((sIx n 0 lo:Nat):Int),(1:Int),Builtin.Slice.slicePlaces ((sIx n 0 lo:Nat):Int) ((sIx n n hi:Nat):Int) 1)) _ _ s;rw[O6];exact È h
def EV(xs:Array Ã)(i k:Nat):((List.range k).filterMap λ(m:Nat)=>xs[((i:Int)+(m:Int)*1).toNat]?).toArray=((xs.toList.drop i).take k).toArray:=by
 have e:(λ(m:Nat)=>xs[((i:Int)+(m:Int)*1).toNat]?)=λm=>xs[i+m]?:=by
  funext m;have:((i:Int)+(m:Int)*1).toNat=i+m:=by lia
  rw[this]
 rw[e];have:=pick_run xs i k;rw[ϳ]at this;have e2:((λx=>xs[x]?) ∘ λx=>i+x)=λm=>xs[i+m]?:=rfl;rw[e2]at this;rw[this]
def getItem_tuple_cut(ht:aW s.heap t items)(hs:s.heap.IsSliceOf sl vl vu .none)(pl:Ϙ vl lo)(pu:Ϙ vu hi)(hw:¬ (sIx items.size 0 lo=0/\sIx items.size items.size hi=items.size))(h:Q (.ref s.heap.objs.size) {s with heap:=s.heap.push {cls:=.type "tuple",data:=.seq ((items.toList.drop<|sIx items.size 0 lo).take<|sIx items.size items.size hi - sIx items.size 0 lo).toArray}})(hsz:items.size<=à):wpAny (á prog w) A (Ϥ (.ref t)<|.ref sl) Q E s:=by
 have dz:sizeOk<|.seq ((items.toList.drop<|sIx items.size 0 lo).take<|sIx items.size items.size hi - sIx items.size 0 lo).toArray:=by show((items.toList.drop<|sIx items.size 0 lo).take<|sIx items.size items.size hi - sIx items.size 0 lo).toArray.size<=à;rw[Ï,ď,ϊ,ø];lia
 have hj:sIx items.size items.size hi<=items.size:=L9 _ _ (Ì _) hi;let⟨os,hos,hcs,hds⟩:=id hs;have hTs:s.TypeIs (.ref sl) "slice":=⟨os,hos,hcs⟩
 unfold Ϥ
 try with_reducible refine ĕ ?_
 first|refine À (È ?_)|skip
 refine À (wpAny_sequenceKey ht.typeIs ↥1 ?_);refine À (ĳ (name:=im "__getitem__") ht.typeIs PyProof.Rows.slot_tuple_getitem
   (Ė PyProof.Rows.slot_tuple_getitem ht.typeIs entry_tuple_getitem ?_<|args_tuple_getitem _ _))
 show wpAny _ _ (Builtin.Tuple.tupleItemsOf (.ref t) >>= _) _ _ s;refine À<|tupleItemsOf_ ht ?_;refine À<|ϥ hTs ?_;rw[hX<|by decide];refine À<|YB hs pl pu ?_;have hno:¬ ((((sIx items.size 0 lo:Nat):Int)==0&&(1:Int)==1&&(sIx items.size items.size hi - sIx items.size 0 lo)==items.size)=fy):=by intro q;rw[bAq,bAq]at q;have q1:((sIx items.size 0 lo:Nat):Int)=0:=eq_of_beq q.1.1;have q2:sIx items.size items.size hi - sIx items.size 0 lo=items.size:=eq_of_beq q.2;exact hw ⟨by lia,by lia⟩
 show wpAny _ _ (if(((sIx items.size 0 lo:Nat):Int)==0&&(1:Int)==1&&(sIx items.size items.size hi - sIx items.size 0 lo)==items.size)=fy then _ else _) _ _ s;rw[hZ hno,EV]
 first
  |exact À (m:=Builtin.Tuple.tupleExact _)<|ċ (È ⟨_,rfl,È h⟩) dz
  |exact À (m:=Builtin.Tuple.tupleExact _)<|ċ (À<|È<|È ⟨_,rfl,È h⟩) dz
  |exact À<|À (m:=Builtin.Tuple.tupleExact _)<|ċ (È<|È ⟨_,rfl,È h⟩) dz
  |exact À<|À (m:=Builtin.Tuple.tupleExact _)<|ċ (È ⟨_,rfl,È h⟩) dz
end
end HT
namespace L2
open PySem PySem.Spec PyProof.Rows
noncomputable abbrev TO:=St->Hp->(Option Int->Hp->Prop)->Prop
abbrev PO(X:Cx)(e:Option Expr)(t:TO):Prop :=
 ∀(Â:List<|Ð×Obj) (s:Æ) (σ:St) (H:Hp) (Q:Option Int->Hp->Prop),Inv X Â σ H s->t σ H Q->
  wpAny ↥2 X.A (evalPart e X.env) (λu s'=>∃o H',Inv X Â σ H' s'/\Ϙ u o/\Q o H') X.xe s
abbrev HU:TO:=λ_ H Q=>Q fx H
abbrev Rz(t:TE):TO:=λσ H Q=>t σ H λx H1=>∃i,x=.int i/\Q (fw i) H1
def ZA:∀{us:List Ã},gV (ns.map V.int) us->ā us ns:=by
 induction ns with
 |nil=>intro us r;rw[Ř]at r;cases r;exact .nil
 |cons n ns ih =>
  intro us r;rw[Í]at r;cases r with
  |cons r1 r2 =>let⟨t,e⟩:=r1;subst e;exact .cons n t<|ih r2
section
variable {e:Expr}{lo:Option Expr}{í p2:Pos}
def po_none:PO X fx HU:=by k_sub;rw[evalPart_none];exact È ⟨fx,H,I,.none,h⟩
def GI(h:PE X e te):PO X (fw e)<|Rz te:=by intro Â s σ H Q I hw;rw[evalPart_some];refine thn (h Â s σ H _ I hw) λu s1 ⟨x,H1,I1,r1,q1⟩=>?_;let⟨i,rfl,q⟩:=q1;let⟨t,rfl⟩:=r1;exact⟨fw i,H1,I1,.int i t,q⟩
abbrev SlR(X:Cx)(r:V->Option Int->Option Int->Hp->VK->Prop):Prop :=
 ∀(Â:List<|Ð×Obj) (s:Æ) (σ:St) (H:Hp) (x:V) (v vl vu:Ã) (lo hi:Option Int) (sl:Ð) (Q:VK),Inv X Â σ H s->RelV x v->s.heap.IsSliceOf sl vl vu .none->Ϙ vl lo->Ϙ vu hi->r x lo hi H Q->
  ∃T id,typeLookup (.type T) "__getitem__" = pure (fw<|.builtin id)/\s.TypeIs v T/\wpAny ↥2 X.A (Ϥ v<|.ref sl) (EP X Â σ Q) X.xe s
def SlR.or(h:SlR X r)(h':SlR X r'):SlR X λx lo hi H Q=>r x lo hi H Q\/r' x lo hi H Q:=by
 intro Â s σ H x v vl vu lo hi sl Q I rx hs pl pu q;rcases q with q|q
 .exact h Â s σ H x v vl vu lo hi sl Q I rx hs pl pu q
 .exact h' Â s σ H x v vl vu lo hi sl Q I rx hs pl pu q
abbrev tSl(r:V->Option Int->Option Int->Hp->VK->Prop)(te:TE)(tl th:TO):TE:=λσ H Q=>te σ H λx H1=>tl σ H1 λl H2=>th σ H2 λu H3=>r x l u H3 Q
def DC(hr:SlR X r)(he:PE X e te)(hl:PO X lo tl)(hu:PO X hi th):PE X (.Subscript e (.Slice lo hi fx p2) í)<|tSl r te tl th:=by k_sub;refine Subscript_<|thn (he Â s σ H _ I h) λv s1 ⟨x,H1,I1,r1,q1⟩=>?_;refine wpAny_Slice<|thn (hl Â s1 σ H1 _ I1 q1) λvl s2 ⟨l,H2,I2,pl,q2⟩=>thn (hu Â s2 σ H2 _ I2 q2) λvu s3 ⟨u,H3,I3,pu,q3⟩=>?_;rw[evalPart_none];refine È ?_;have I4:Inv X Â σ H3 {s3 with heap:=s3.heap.push {cls:=.type "slice",data:=.fields #[vl,vu,.none]}}:=I3.kept (t':=s3.toks) λb ob q=>Ä _ q;let⟨T,id,hT,ht,hg⟩:=hr Â {s3 with heap:=s3.heap.push {cls:=.type "slice",data:=.fields #[vl,vu,.none]}} σ H3 x v vl vu l u s3.heap.objs.size Q I4 r1 (Heap.IsSliceOf.new ..) pl pu q3;show wpAny ↥2 X.A (aw e (.Slice lo hi fx p2) v<|.ref s3.heap.objs.size) (EP X Â σ Q) X.xe {s3 with heap:=s3.heap.push {cls:=.type "slice",data:=.fields #[vl,vu,.none]}};exact tail_any (ops:=[.ref s3.heap.objs.size,v]) ht hT hg (by with_unfolding_all rfl)
abbrev Mr(xs:List V)(lo hi:Option Int):List V:=(xs.drop<|HT.sIx xs.length 0 lo).take<|HT.sIx xs.length xs.length hi - HT.sIx xs.length 0 lo
def WM(xs:List V)(lo hi:Option Int):(Mr xs lo hi).length<=xs.length:=by unfold Mr;rw[ď,ϊ];lia
abbrev Se(K:Frag):V->Option Int->Option Int->Hp->VK->Prop:=λx lo hi H Q=>∃a xs,x=.ref a/\gU K H a xs/\
 ¬ (HT.sIx xs.length 0 lo=0/\HT.sIx xs.length xs.length hi=xs.length)/\∀p,H p=fx->Q (.ref p) (upd H p<|.tup<|Mr xs lo hi)
def gJ:SlR X<|Se X.K:=by
 intro Â s σ H x v vl vu lo hi sl Q I rx hs pl pu h;let⟨a,xs,rfl,hx,hw,q⟩:=h;cases rx;let⟨ú,r,ht,hz⟩:=I.tuple hx;have hlen:ú.toArray.size=xs.length:=by rw[Ï];exact r.length.symm
 refine⟨"tuple",_,PyProof.Rows.slot_tuple_getitem.lookup,ht.typeIs,?_⟩;refine HT.getItem_tuple_cut ht hs pl pu (by rw[hlen];exact hw) ?_ (by rw[hlen];exact hz);rw[hlen];refine⟨.ref s.heap.objs.size,_,I.laid (t':=s.toks) (o:=.tup<|Mr xs lo hi) (λb ob q=>Ä _ q) (Ì _) ?_,rfl,q _<|I.hok.fresh<|Ì _⟩;exact⟨Û (WM xs lo hi) hz,_,(r.drop<|HT.sIx xs.length 0 lo).take<|HT.sIx xs.length xs.length hi - HT.sIx xs.length 0 lo,IsTup.new _ _⟩
abbrev RK(K:Frag):R2:=λx y H Q=>∃a b ns ms,x=.ref a/\y=.ref b/\gU K H a (ns.map V.int)/\gU K H b (ms.map V.int)/\Q (.bl<|HT.lexLt ns ms) H
def LZ(hu:X.A.units<Ğ):OpR X (ð .Lt)<|RK X.K:=by k_ne;let⟨a,b,ns,ms,rfl,rfl,ha,hb,q⟩:=h;cases rx;cases ry;let⟨ú,r1,p1,_⟩:=I.tuple ha;let⟨aJ,r2,p2,_⟩:=I.tuple hb;have i1:ā ú.toArray.toList ns:=ZA r1;have i2:ā aJ.toArray.toList ms:=ZA r2;exact HT.lt_tupInts p1 p2 i1 i2 hu ⟨.bl<|HT.lexLt ns ms,H,I,rfl,q⟩
abbrev IG(K:Frag):R2:=λx y H Q=>∃a b xs ys,x=.ref a/\y=.ref b/\gU K H a xs/\gU K H b ys/\xs≠[]/\xs.length+ys.length<=à/\
 (ys=[]->Q (.ref a) H)/\(ys≠[]->∀p,H p=fx->Q (.ref p) (upd H p<|.tup<|xs++ys))
def gV.nil_iff(r:gV xs us):us=[]↔xs=[]:=by
 cases r with
 |nil=>simp
 |cons _ _=>simp
def FD:OpR X (Ŋ .Add)<|IG X.K:=by k_ne;let⟨a,b,xs,ys,rfl,rfl,ha,hb,hx,hz,q1,q2⟩:=h;cases rx;cases ry;let⟨ú,r1,p1,_⟩:=I.tuple ha;let⟨aJ,r2,p2,_⟩:=I.tuple hb;refine HT.cat_tup p1 p2 (λz=>hx<|r1.nil_iff.mp z) (λz=>⟨.ref a,H,I,rfl,q1<|r2.nil_iff.mp z⟩) (λz=>?_) (by rw[<-r1.length,<-r2.length];exact hz);refine⟨.ref s.heap.objs.size,_,I.laid (t':=s.toks) (o:=.tup<|xs++ys) (λb ob q=>Ä _ q) (Ì _) ?_,rfl,q2 (λw=>z<|r2.nil_iff.mpr w) _<|I.hok.fresh<|Ì _⟩;exact⟨by rw[ì];exact hz,_,r1.append r2,IsTup.new _ _⟩
end
abbrev ixN(n:Nat)(i:Int):Option Nat:=if 0<=i then(if i<n then fw i.toNat else fx)else if -(n:Int)<=i then fw (i+n).toNat else fx
variable {α:Type}
abbrev atI(xs:List α)(i:Int):Option α:=(ixN xs.length i).bind λj=>xs[j]?
variable {n:Nat}{i:Int}
def MU(h:ixN n i=fw j):seqIndex? i n=fw j/\j<n/\-(n:Int)<=i/\i<n:=by
 unfold ixN at h;by_cases h0:0<=i
 .rw[hX h0]at h;by_cases h1:i<n
  .rw[hX h1]at h;have e:i.toNat=j:=æ h;exact⟨by rw[bM h0 h1,e],by lia,by lia,h1⟩
  .rw[hZ h1]at h;cases h
 .rw[hZ h0]at h;by_cases h1:-(n:Int)<=i
  .rw[hX h1]at h;have e:(i+n).toNat=j:=æ h;exact⟨by rw[aY ↥0 h1,e],by lia,h1,by lia⟩
  .rw[hZ h1]at h;cases h
def W8(h:atI xs i=fw v):∃j,seqIndex? i xs.length=fw j/\xs[j]?=fw v/\j<xs.length/\-(xs.length:Int)<=i/\i<xs.length:=by
 unfold atI at h;cases e:ixN xs.length i with
 |none=>rw[e]at h;cases h
 |some j =>rw[e]at h;let⟨h1,h2,h3,h4⟩:=MU e;exact⟨j,h1,h,h2,h3,h4⟩
abbrev Ms(b:Expr):Prop:=∀o i,subscripted b fz o i=operate [o,i] (Ϥ o i)
abbrev IxR(X:Cx)(r:R2):Prop :=
 ∀(Β slice:Expr) (Â:List<|Ð×Obj) (s:Æ) (σ:St) (H:Hp) (x y:V) (v u:Ã) (Q:VK),Inv X Â σ H s->RelV x v->RelV y u->r x y H Q->
  subscripted slice fz v u=operate [v,u] (Ϥ v u)->wpAny ↥2 X.A (aw Β slice v u) (EP X Â σ Q) X.xe s
abbrev MtR(X:Cx)(id:String)(r:V->List V->Hp->VK->Prop):Prop :=
 ∀(Â:List<|Ð×Obj) (s:Æ) (σ:St) (H:Hp) (x:V) (xs:List V) (v:Ã) (us:List Ã) (Q:VK),Inv X Â σ H s->RelV x v->gV xs us->r x xs H Q->
  wpAny ↥2 X.A (call (.builtin id)<|v::us) (EP X Â σ Q) X.xe s
section
variable {a b:Expr}{í:Pos}
def IxR.or(h:IxR X r)(h':IxR X r'):IxR X λx y H Q=>r x y H Q\/r' x y H Q:=by
 intro Β slice Â s σ H x y v u Q I rx ry q hs;rcases q with q|q
 .exact h Β slice Â s σ H x y v u Q I rx ry q hs
 .exact h' Β slice Â s σ H x y v u Q I rx ry q hs
def MtR.or{id:String}{r r':V->List V->Hp->VK->Prop}(h:MtR X id r)(h':MtR X id r'):MtR X id λx xs H Q=>r x xs H Q\/r' x xs H Q:=by
 intro Â s σ H x xs v us Q I rx rs q;rcases q with q|q
 .exact h Â s σ H x xs v us Q I rx rs q
 .exact h' Â s σ H x xs v us Q I rx rs q
def RJ(hr:IxR X r)(ha:PE X a ta)(hb:PE X b tb)(hs:Ms b):PE X (.Subscript a b í)<|tOp r ta tb:=by k_sub;exact Subscript_ (LE ha hb I h λv u s2 x y H2 I2 rx ry q=>hr a b Â s2 σ H2 x y v u Q I2 rx ry q<|hs _ _)
abbrev DM(K:Frag):R2:=λx y H Q=>∃p xs i v,x=.ref p/\y=.int i/\gT K H p xs/\atI xs i=fw v/\Q v H
abbrev RE(K:Frag):R2:=λx y H Q=>∃p xs i v,x=.ref p/\y=.int i/\gU K H p xs/\atI xs i=fw v/\Q v H
abbrev Su:R2:=λx y H Q=>∃z i c,x=.str z/\y=.int i/\z.length<=à/\atI z.cps.toList i=fw c/\Q (.str ⟨#[c]⟩) H
def ix_list:IxR X<|DM X.K:=by
 intro Β slice Â s σ H x y v u Q I rx ry h hs;let⟨p,xs,i,z,rfl,rfl,hq,he,q⟩:=h;cases rx;let⟨t,rfl⟩:=ry;let⟨ú,r,pl,hz⟩:=I.list hq;let⟨j,h1,h2,h3,h4,h5⟩:=W8 he;let⟨w,ew,aK⟩:=r.get h2;have hl:=r.length;have hn:=Y3;have fin:EP X Â σ Q w s:=⟨z,H,I,aK,q⟩
 by_cases h0:0<=i
 .have hj:i.toNat=j:=by
   rw[bM h0 h5]at h1;exact æ h1
  exact item_listR pl.isList h0 ↥0 (by rw[hj];simpa using ew) fin hs
 .have hj:(i+(ú.toArray.size:Int)).toNat=j:=by
   rw[aY ↥0 h4]at h1;rw[Ï,<-hl];exact æ h1
  exact eX (x:=w) pl.isList.typeIs aZ.lookup
   (eY (Q:=λr s'=>r=w/\EP X Â σ Q r s') pl.isList ↥0 (by rw[Ï]<;>lia) ↥0 (by rw[hj];simpa using ew) ⟨rfl,fin⟩) hs
def fI:IxR X<|RE X.K:=by
 intro Β slice Â s σ H x y v u Q I rx ry h hs;let⟨p,xs,i,z,rfl,rfl,hq,he,q⟩:=h;cases rx;let⟨t,rfl⟩:=ry;let⟨ú,r,pl,hz⟩:=I.tuple hq;let⟨j,h1,h2,h3,h4,h5⟩:=W8 he;let⟨w,ew,aK⟩:=r.get h2;have hl:=r.length;have hn:=Y3;have fin:EP X Â σ Q w s:=⟨z,H,I,aK,q⟩
 exact eX (x:=w) pl.typeIs slot_tuple_getitem.lookup
  (getItem_tuple (j:=j) (Q:=λr s'=>r=w/\EP X Â σ Q r s') pl ↥0 ↥0 (by rw[Ï,<-hl];exact h1) ⇑ew ⟨rfl,fin⟩) hs
def Lr:IxR X Su:=by
 intro Β slice Â s σ H x y v u Q I rx ry h hs;let⟨z,i,c,rfl,rfl,hz,he,q⟩:=h;let⟨t,rfl⟩:=rx;let⟨t',rfl⟩:=ry;let⟨j,h1,h2,h3,h4,h5⟩:=W8 he;have hl:z.cps.toList.length=z.length:=by simp[Str.length]
 rw[hl]at h1 h4 h5;have hn:=Y3;exact tail_any (typeIs_str s z t) slot_str_getitem.lookup (getItem_str (c:=c) (by
   have e1:ik (i < -(2 ^ 63:Int))=fz:=ie ↥0
   have e2:ik (i≥2 ^ 63)=fz:=ie ↥0
   rw[e1,e2,ϱ]) (by rw[h1];simpa using h2) ⟨.str ⟨#[c]⟩,H,I.tok _,⟨_,rfl⟩,q⟩) hs
abbrev rIx(K:Frag):R2:=λx y H Q=>DM K x y H Q\/RE K x y H Q\/Su x y H Q
def ix_seq:IxR X<|rIx X.K:=ix_list.or (fI.or Lr)
def OL(ú:List Ã)(n j:Nat)(u:Ã):Ι (·.setIfInBounds j u) {cls:=.type "list",data:=.seq ú.toArray n}={cls:=.type "list",data:=.seq (ú.set j u).toArray n}:=by simp[Ι]
def Inv.lst{Â:List (Ð×Obj)}{σ:St}{H:Hp}{s:Æ}{p:Ð}{xs:List V}(I:Inv X Â σ H s)(h:H p=fw (.lst xs)) :
  ∃(ú:List Ã) (n:Nat),gV xs ú/\s.heap.get? p=fw {cls:=.type "list",data:=.seq ú.toArray n}/\xs.length<=à:=by
 let⟨z,ú,n,r,e⟩:=I.hok p _ h;exact⟨ú,n,r,e,z⟩
def Inv.lstUpd{p:Ð}{xs ys:List V}{ú its':List Ã}{n':Nat}{f:Obj->Obj}(I:Inv X Â σ H s)(h:H p=fw (.lst xs))
  (ho:s.heap.get? p=fw {cls:=.type "list",data:=.seq ú.toArray n}) (hf:f {cls:=.type "list",data:=.seq ú.toArray n}={cls:=.type "list",data:=.seq its'.toArray n'}) (r:gV ys its') (hz:ys.length<=à) (t:Nat) :
  Inv X Â σ (upd H p<|.lst ys) {s with heap:=s.heap.update p f,toks:=t}:=by
 have e:(s.heap.update p f).get? p=fw {cls:=.type "list",data:=.seq its'.toArray n'}:=by rw[ę f ho (by rw[hf]<;>rfl),hf]
 refine I.write (x:=p) (e:=p) (by rw[h];trivial) (.inl rfl) (λb u hb q=>(õ _ _<|Ne.symm hb).trans q) ⟨_,e⟩ ?_;exact⟨hz,its',n',r,e⟩
abbrev II:V->V->V->Hp->(Hp->Prop)->Prop:=λo i v H Q=>∃p xs k j,o=.ref p/\i=.int k/\H p=fw (.lst xs)/\ixN xs.length k=fw j/\Q (upd H p<|.lst<|xs.set j v)
def OA:PSet X II:=by
 intro Â s σ H o i v ov iv u Q I ro ri rv h;let⟨p,xs,k,j,rfl,rfl,hp,hj,q⟩:=h;cases ro;let⟨t,rfl⟩:=ri;let⟨ú,n,r,ho,hz⟩:=I.lst hp;let⟨h1,h2,h3,h4⟩:=MU hj;have hl:=r.length;have hn:=Y3;have I':Inv X Â σ (upd H p<|.lst<|xs.set j v) {s with heap:=s.heap.update p (Ι (·.setIfInBounds j u))} :=
  I.lstUpd hp ho (OL ú n j u) (r.set rv j) (by rw[ϙ];exact hz) s.toks
 by_cases h0:0<=k
 .have hk:k.toNat=j:=by
   rw[bM h0 h4]at h1;exact æ h1
  exact PySem.W.ki_setAt ho h0 ↥0 (by rw[Ï,<-hl];exact h4) (by rw[hk];exact⟨_,I',q⟩)
 .have hk:(k+(ú.toArray.size:Int)).toNat=j:=by
   rw[aY ↥0 h3]at h1;rw[Ï,<-hl];exact æ h1
  exact PySem.W.ki_setBack ho ↥0 (by rw[Ï,<-hl];exact h3) ↥0 (by rw[hk];exact⟨_,I',q⟩)
def M9(lo hi:Option Int)(n:Nat):(ğ lo hi fx n).1=((HT.sIx n 0 lo:Nat):Int)/\(ğ lo hi fx n).2.1=((HT.sIx n n hi:Nat):Int)/\(ğ lo hi fx n).2.2=1:=by
 refine⟨?_,?_,rfl⟩
 .cases lo with
  |none=>simp[ğ,HT.sIx]
  |some i =>
   simp![ğ,HT.sIx,d5,show(1:Int) > 0 by decide,if_true];by_cases h:i<0
   .simp![h,if_true]<;>lia
   .simp![h,if_false]<;>lia
 .cases hi with
  |none=>simp[ğ,HT.sIx]
  |some i =>
   simp![ğ,HT.sIx,d5,show(1:Int) > 0 by decide,if_true];by_cases h:i<0
   .simp![h,if_true]<;>lia
   .simp![h,if_false]<;>lia
def Kz(ú:List Ã)(lo hi:Option Int):d6 ú.toArray lo hi fx=((ú.drop<|HT.sIx ú.length 0 lo).take<|HT.sIx ú.length ú.length hi - HT.sIx ú.length 0 lo).toArray:=by let⟨h1,h2,h3⟩:=M9 lo hi ú.toArray.size;unfold d6;rw[h1,h2,h3];simp![sliceRange_one,pick_run,Ï]<;>rfl
abbrev QX(K:Frag):V->Option Int->Option Int->Hp->VK->Prop:=λx lo hi H Q=>∃a xs,x=.ref a/\gT K H a xs/\∀p,H p=fx->Q (.ref p) (upd H p<|.lst<|Mr xs lo hi)
def sl_list:SlR X<|QX X.K:=by intro Â s σ H x v vl vu lo hi sl Q I rx hs pl pu h;let⟨a,xs,rfl,hx,q⟩:=h;cases rx;let⟨ú,r,ht,hz⟩:=I.list hx;have hlen:=r.length;refine⟨"list",_,aZ.lookup,ht.isList.typeIs,?_⟩;refine dI ht.isList hs pl pu .none (by simp) ?_ (by rw[Ï]<;>lia);rw[Kz,<-hlen];refine⟨.ref s.heap.objs.size,_,I.laid (t':=s.toks) (o:=.lst<|Mr xs lo hi) (λb ob q=>Ä _ q) (Ì _) ?_,rfl,q _<|I.hok.fresh<|Ì _⟩;exact⟨Û (WM xs lo hi) hz,_,0,(r.drop<|HT.sIx xs.length 0 lo).take<|HT.sIx xs.length xs.length hi - HT.sIx xs.length 0 lo,Ø _ rfl⟩
abbrev eqV:V->V->Bool
 |.non,.non=>fy
 |.bl a,.bl b=>a==b
 |.bl a,.int b=>(if a then 1 else 0)==b
 |.int a,.bl b=>a==(if b then 1 else 0)
 |.int a,.int b=>a==b
 |.str a,.str b=>a==b
 |_,_=>fz
abbrev inV(x:V)(xs:List V):Bool:=xs.any λy=>eqV y x
def Nf:OpR X (ð .NotIn) λx y H Q=>∃i j,x=.str i/\y=.str j/\Q (.bl (!(!(Builtin.Str.occurrences j i 0 j.length 1).isEmpty))) H:=by k_ne;let⟨i,j,rfl,rfl,q⟩:=h;let⟨t,rfl⟩:=rx;let⟨t',rfl⟩:=ry;exact notIn_str ⟨.bl _,H,I,rfl,q⟩
def call_len_seq:fM X (.builtin "len") λxs H Q=>∃p ys,xs=[.ref p]/\(gT X.K H p ys\/gU X.K H p ys)/\Q (.int ys.length) H:=by
 k_put;let⟨p,ys,rfl,hq,q⟩:=h;let⟨u,rfl,rx⟩:=ZU r;cases rx;have hn:=Y3;rcases hq with hq|hq
 .obtain⟨ú,r',pl,hz⟩:=I.list hq;have hlen:=r'.length;exact Calls.call_len_list pl.isList (by simp![Ï]<;>lia) ⟨.int ys.length,H,I.tok _,⟨s.toks+1,by rw[Ï,hlen]⟩,q⟩
 .obtain⟨ú,r',pl,hz⟩:=I.tuple hq;have hlen:=r'.length;exact len_tuple pl (by simp![Ï]<;>lia) ⟨.int ys.length,H,I.tok _,⟨s.toks+1,by rw[Ï,hlen]⟩,q⟩
def MC:fM X (.builtin "len") λxs H Q=>∃z,xs=[.str z]/\z.length<=à/\Q (.int z.length) H:=by k_put;let⟨z,rfl,hz,q⟩:=h;let⟨u,rfl,t,rfl⟩:=ZU r;have hn:=Y3;exact len_str ↥0 ⟨.int z.length,H,I.tok _,⟨_,rfl⟩,q⟩
def fM.or{f:Ã}{r r':List V->Hp->VK->Prop}(h:fM X f r)(h':fM X f r'):fM X f λxs H Q=>r xs H Q\/r' xs H Q:=by
 intro Â s σ H xs us Q I rs q;rcases q with q|q
 .exact h Â s σ H xs us Q I rs q
 .exact h' Â s σ H xs us Q I rs q
def Nh:fM X (.type "list") λxs H Q=>∃p ys,xs=[.ref p]/\(gT X.K H p ys\/gU X.K H p ys)/\∀l,H l=fx->Q (.ref l) (upd H l<|.lst ys):=by
 k_put;let⟨p,ys,rfl,hq,q⟩:=h;let⟨u,rfl,rx⟩:=ZU r;cases rx;have fin:∀(ú:List Ã),gV ys ú->ys.length<=à->∀(h':Č) (c':Nat),(∀b o',s.heap.get? b=fw o'->h'.get? b=fw o')->
   h'.get? s.heap.objs.size=fw {cls:=.type "list",dict:=fx,data:=.seq ú.toArray c',slots:=#[]}->EP X Â σ Q (.ref s.heap.objs.size) {s with heap:=h'}:=λú r' hz h' c' kp e =>
  ⟨.ref s.heap.objs.size,_,I.laid (t':=s.toks) kp (Ì _) (show fN X.prog X.w _ h' _ (.lst ys) from ⟨hz,ú,c',r',e⟩),rfl,q _<|I.hok.fresh<|Ì _⟩
 rcases hq with hq|hq
 .obtain⟨ú,r',pl,hz⟩:=I.list hq;have hlen:=r'.length;let⟨o,ho,hc,n,hd⟩:=pl.isList;exact call_list_seq p (.inl rfl) ho hc hd (λh' c' kp e=>fin ú r' hz h' c' kp e) (by simp![Ï]<;>lia)
 .obtain⟨ú,r',pl,hz⟩:=I.tuple hq;have hlen:=r'.length;let⟨o,ho,hc,n,hd⟩:=pl;exact call_list_seq p (.inr rfl) ho hc hd (λh' c' kp e=>fin ú r' hz h' c' kp e) (by simp![Ï]<;>lia)
def Kx:fM X (.type "tuple") λxs H Q=>∃p ys,xs=[.ref p]/\((gT X.K H p ys/\∀l,H l=fx->Q (.ref l) (upd H l<|.tup ys))\/(gU X.K H p ys/\Q (.ref p) H)):=by
 k_put;let⟨p,ys,rfl,h⟩:=h;let⟨u,rfl,rx⟩:=ZU r;cases rx;rcases h with⟨hq,q⟩|⟨hq,q⟩
 .obtain⟨ú,r',pl,hz⟩:=I.list hq;have hlen:=r'.length;refine call_tuple_list pl.isList (λh' kp=>?_) (by simp![Ï]<;>lia);have I1:Inv X Â σ H {s with heap:=h'}:=I.kept (t':=s.toks) kp;have I2:Inv X Â σ (upd H h'.objs.size<|.tup ys) {s with heap:=h'.push {cls:=.type "tuple",data:=.seq ú.toArray}} :=
   I1.laid (t':=s.toks) (λb o e=>Ä _ e) (Ì _) (show fN X.prog X.w _ _ _ (.tup ys) from ⟨hz,ú,r',IsTup.new _ _⟩)
  exact⟨.ref h'.objs.size,_,I2,rfl,q _<|I1.hok.fresh<|Ì _⟩
 .obtain⟨ú,r',pl,hz⟩:=I.tuple hq;exact call_tuple_same pl ⟨.ref p,H,I,rfl,q⟩
abbrev tyV(K:Frag)(T:String)(x:V)(H:Hp):Prop:=match x with
 |.str _=>T = "str"
 |.int _=>T = "int"
 |.ref p=>(T = "list"/\∃xs,gT K H p xs)\/(T = "tuple"/\∃o,K.lookup p=fw o/\o.cls=.type "tuple"/\o.dict=fx)\/
   (T = "dict"/\((∃kvs,H p=fw (.dK kvs))\/∃kvs,H p=fw (.dT kvs)))\/(T = "set"/\∃S n,H p=fw (.set S n))
 |_=>False
def Pr(I:Inv X Â σ H s)(r:RelV x v)(ty:tyV X.K T x H) :
  s.TypeIs v T/\∀a,v=.ref a->∃ob,s.heap.get? a=fw ob/\ob.dict=fx:=by
 cases x with
 |str z =>let⟨t,rfl⟩:=r;cases (show T = "str" from ty);exact⟨typeIs_str s z t,λ_ e=>nomatch e⟩
 |int i =>let⟨t,rfl⟩:=r;cases (show T = "int" from ty);exact⟨typeIs_int s i t,λ_ e=>nomatch e⟩
 |ref p =>
  cases r;rcases ty with⟨rfl,xs,hq⟩|⟨rfl,o,hk,hc,hd⟩|⟨rfl,hk⟩|⟨rfl,S,n,hk⟩
  .obtain⟨ú,_,pl,_⟩:=I.list hq;refine⟨pl.isList.typeIs,λa e=>?_⟩;cases e;let⟨o,n,e,c,hd,_⟩:=pl;exact⟨o,e,hd⟩
  .refine⟨⟨o,I.kIn p o hk,hc⟩,λa e=>?_⟩;cases e;exact⟨o,I.kIn _ o hk,hd⟩
  .have z:∃o,s.heap.get? p=fw o/\o.ExactDict:=by
    rcases hk with⟨kvs,hk⟩|⟨kvs,hk⟩
    .obtain⟨_,_,_,_,o,_,_,e,ex,_⟩:=I.hok p _ hk;exact⟨o,e,ex⟩
    .obtain⟨_,_,_,_,o,_,_,e,ex,_⟩:=I.hok p _ hk;exact⟨o,e,ex⟩
   let⟨o,e,ex⟩:=z;refine⟨⟨o,e,ex.1⟩,λa e2=>?_⟩;cases e2;exact⟨o,e,ex.2.1⟩
  .obtain⟨o,_,_,_,e,ex,_⟩:=I.hok p _ hk;refine⟨⟨o,e,ex.1⟩,λa e2=>?_⟩;cases e2;exact⟨o,e,ex.2.1⟩
 |_=>exact Ň ty
abbrev tBM(K:Frag)(T:String)(r:V->List V->Hp->VK->Prop)(to:TE)(t:TA):TE:=λσ H Q=>to σ H λx H1=>tyV K T x H1/\t σ H1 λxs H2=>r x xs H2 Q
variable {o e:Expr}{name:Str}{Ŕ ŧ:Pos}{T id:String}
def Ru(pa:PlainAttrs T)(slot:Slot T name id)(hty:typeOf (.builtin id)=pure (.type "method_descriptor"))(hm:MtR X id r)(ho:PE X o to)(ha:PA X (e::es) t)(aL:ħ o name X.env (eval o X.env)=eval o X.env:=by rfl)(au:((Ĥ ŧ<|Ý (e::es) X.env).all (λx=>!x.1)&&(μ ŧ<|Ō [] X.env).all (λx=>x.1.isSome)
    && ik ((e::es).length+([]:List bb).length+(if([]:List bb).isEmpty then 0 else 1)<30))=fy:=by rfl)(aM:(Ŕ.endLine==ŧ.line)=fy:=by rfl)(hs:Ý (e::es) X.env=(fz,eval e X.env)::Ý es X.env:=by rfl)(cZ:(Ĥ ŧ<|Ý es X.env).any (·.1)=fz:=by rfl) :
  PE X (.Call (.Attribute o name Ŕ) (e::es) [] ŧ) (tBM X.K T r to t):=by
 k_sub;refine wpAny_Call_method_late aL au aM rfl<|thn (ho Â s σ H _ I h) λv s1 ⟨x,H1,I1,r1,ty,q1⟩=>?_;let⟨h1,h2⟩:=Pr I1 r1 ty;refine⟨T,id,pa,slot,hty,h1,h2,?_⟩;have hA:=ha ŧ Â s1 σ H1 _ I1 q1;rw[hs]at hA ⊢;refine Calls.callWith_builtin (by show(fz||(Ĥ ŧ<|Ý es X.env).any (·.1))=fz;rw[cZ]<;>rfl)<|Calls.evalArgs_plain ?_;exact thn hA λus s2 ⟨vs,H2,I2,r2,q2⟩=>hm Â s2 σ H2 x vs v us Q I2 r1 r2 q2
/- xs.append(e),list.index on a module's tuple .. are MtR facts of 06m -/
end
abbrev MtM(X:Cx)(id:String)(r:V->List V->Hp->VK->Prop):Prop :=
 ∀(Â:List<|Ð×Obj) (s:Æ) (σ:St) (H:Hp) (x:V) (xs:List V) (v:Ã) (us:List Ã) (Q:VK),Inv X Â σ H s->RelV x v->gV xs us->r x xs H Q->
  wpAny ↥2 X.A (call (.builtin id)<|v::us) (EP X Â σ Q) X.xe s
variable {x:V}{us:List Ã}
def gV.one(r:gV [x] us):∃u,us=[u]/\RelV x u:=ZU r
def gV.two(r:gV [x,y] us):∃u v,us=[u,v]/\RelV x u/\RelV y v:=UQ r
def gV.eraseIdx:∀{xs:List V}{us:List Ã}(i:Nat),gV xs us->gV (xs.eraseIdx i) (us.eraseIdx i)
 |_,_,_,.nil=>.nil
 |_,_,0,.cons _ t=>t
 |_,_,i+1,.cons r t=>.cons r<|gV.eraseIdx i t
def gV.rep(h:gV xs us):∀k:Nat,gV (Þ k xs).flatten (Þ k us).flatten
 |0=>.nil
 |k+1=>by rw[Đ,Đ,ņ,ņ];exact gV.append h<|gV.rep h k
def K3:∀(l:List α) (i:Nat),(l.eraseIdx i).length<=l.length
 |[],_=>Ì _
 |_::_,0=>ň _
 |_::r,i+1=>ό<|K3 r i
def Mp(ú:List Ã):∀(k:Nat) (Ķ:List Ã),
  d7 (λx1 x2=>x1++x2) Ķ.toArray (Þ k ú.toArray)=(Ķ++(Þ k ú).flatten).toArray
 |0,Ķ=>by simp
 |k+1,Ķ=>by
  have e:Ķ.toArray++ú.toArray=(Ķ++ú).toArray:=by simp
  have e2:(Ķ++ú)++(Þ k ú).flatten=Ķ++(Þ (k+1) ú).flatten:=by rw[Đ,ņ,Ć]
  rw[<-e2,<-Mp ú k (Ķ++ú),<-e,Đ,Ń]
section
variable {X:Cx}{Â:List (Ð×Obj)}{σ:St}{H:Hp}{s:Æ}{l b:Ð}{xs ys:List V}
variable {ú:List Ã}{n:Nat}{t':Nat}
def Inv.lset(I:Inv X Â σ H s)(hH:H l=fw (.lst xs))(e:s.heap.get? l=fw {cls:=.type "list",data:=.seq ú.toArray n})(hf:f ú.toArray=its'.toArray)(hv:gV ys its')(hz:ys.length<=à) :
  Inv X Â σ (upd H l<|.lst ys) {s with heap:=s.heap.update l<|Ι f,toks:=t'}:=by
 have q:=PySem.IsL.update e f;rw[hf]at q;refine I.write (x:=l) (e:=l) (by rw[hH];exact trivial) (.inl rfl) (λb' u hb hu=>(õ s.heap (Ι f)<|Ne.symm hb).trans hu) ⟨_,q⟩ ?_;exact⟨hz,its',_,hv,q⟩
def Inv.lnew(I:Inv X Â σ H s)(hv:gV ys ú)(hz:ys.length<=à) :
  Inv X Â σ (upd H s.heap.objs.size<|.lst ys) {s with heap:=s.heap.push {cls:=.type "list",data:=.seq ú.toArray},toks:=t'} :=
 I.laid (λ_ _ q=>Ä _ q) (Ì _) ⟨hz,ú,0,hv,Ø _ rfl⟩
def Inv.fresh(I:Inv X Â σ H s):H s.heap.objs.size=fx:=I.hok.fresh (Ì _)
def Inv.lstM(I:Inv X Â σ H s)(hH:H l=fw (.lst xs)):xs.length<=à/\∃(ú:List Ã) (n:Nat),gV xs ú/\xs.length=ú.length/\s.heap.get? l=fw {cls:=.type "list",data:=.seq ú.toArray n}:=by let⟨z,ú,n,r,e⟩:=I.hok l _ hH;exact⟨z,ú,n,r,r.length,e⟩
def E4(h:n<=à):Builtin.List.listTooLong n=fz:=by unfold Builtin.List.listTooLong;exact ie ↥0
end
section
abbrev UR:V->List V->Hp->VK->Prop:=λx vs H Q=>∃l xs y,x=.ref l/\vs=[y]/\H l=fw (.lst xs)/\xs.length<à/\Q .non (upd H l<|.lst<|xs++[y])
def Bo:MtM X "list.append" UR:=by intro Â s σ H x vs v us Q I rx rv h;let⟨l,xs,y,rfl,rfl,hH,hz,q⟩:=h;cases rx;let⟨u,rfl,ru⟩:=rv.one;let⟨z,ú,n,r,hl,e⟩:=I.lstM hH;refine cF F.slot_list_append ⟨_,e,rfl⟩ F.entry_list_append (F.args_list_append_2 _ _) (PySem.list_append l ú.toArray n u<|by rw[Ï];lia) ⟨e,?_⟩;refine⟨.non,_,I.lset (its':=ú++[u]) hH e (by simp) (r.append<|.cons ru .nil) ?_,rfl,q⟩;rw[ì,cG];lia
abbrev Dy:V->List V->Hp->VK->Prop:=λx vs H Q=>∃l xs i k y,x=.ref l/\vs=[.int i]/\H l=fw (.lst xs)/\-(2 ^ 63)<=i/\i<2 ^ 63/\seqIndex? i xs.length=fw k/\xs[k]?=fw y/\Q y (upd H l<|.lst<|xs.eraseIdx k)
def EW:MtM X "list.pop" Dy:=by
 intro Â s σ H x vs v us Q I rx rv h;let⟨l,xs,i,k,y,rfl,rfl,hH,h1,h2,hk,hy,q⟩:=h;cases rx;let⟨u,rfl,ru⟩:=rv.one;let⟨t,rfl⟩:=ru;let⟨z,ú,n,r,hl,e⟩:=I.lstM hH;let⟨w,hw,aK⟩:=r.get hy;refine cF F.slot_list_pop ⟨_,e,rfl⟩ F.entry_list_pop (F.args_list_pop_2 _ _)
  (MeetsSeq.list_pop_at l ú.toArray n i t k w (fitsIndex_both h1 h2) (by rw[Ï,<-hl];exact hk) (by rw[<-Ą];exact hw)<|by rw[Ï];lia) ⟨e,?_⟩
 refine⟨y,_,I.lset (its':=ú.eraseIdx k) hH e ?_ (r.eraseIdx k) ?_,aK,q⟩
 .show ú.toArray.eraseIdxIfInBounds k=(ú.eraseIdx k).toArray;rw[List.eraseIdxIfInBounds_toArray]
 .have:=K3 xs k;lia
abbrev Rh:R2:=λx y H Q=>∃l b xs zs,x=.ref l/\y=.ref b/\H l=fw (.lst xs)/\H b=fw (.lst zs)/\xs.length+zs.length<=à/\∀p,H p=fx->Q (.ref p) (upd H p<|.lst<|xs++zs)
def Lx:OpR X (Ŋ .Add) Rh:=by
 k_ne;let⟨l,b,xs,zs,rfl,rfl,hH,hB,hz,q⟩:=h;cases rx;cases ry;let⟨z,ú,n,r,hl,e⟩:=I.lstM hH;let⟨z2,aJ,n2,r2,hl2,e2⟩:=I.lstM hB;refine PySem.P.add_list e e2 ?_ (by rw[Ï,Ï];lia);have ea:ú.toArray++aJ.toArray=(ú++aJ).toArray:=by simp
 rw[ea];exact⟨.ref _,_,I.lnew (t':=s.toks) (r.append r2) (by rw[ì];lia),rfl,q _ I.fresh⟩
abbrev QJ:R2:=λx y H Q=>∃l k xs,x=.ref l/\y=.int k/\H l=fw (.lst xs)/\-(2 ^ 63)<=k/\k<2 ^ 63/\xs.length*k.toNat<=à/\
 ∀p,H p=fx->Q (.ref p) (upd H p<|.lst (Þ k.toNat xs).flatten)
def Gb(xs:List α)(k:Nat):(Þ k xs).flatten.length=k*xs.length:=by
 induction k with
 |zero=>simp
 |succ k ih=>rw[Đ,ņ,ì,ih,Nat.succ_mul,Nat.add_comm]
def op_rep:OpR X (Ŋ .Mult) QJ:=by
 k_ne;let⟨l,k,xs,rfl,rfl,hH,h1,h2,hz,q⟩:=h;cases rx;let⟨t,rfl⟩:=ry;let⟨z,ú,n,r,hl,e⟩:=I.lstM hH;have hlen:ú.toArray.size*k.toNat<=à:=by rw[Ï,<-hl];exact hz
 have hcap:¬ ú.toArray.size*k.toNat > (2 ^ 63 - 1) / 8:=by
  have:(à:Nat)<=(2 ^ 63 - 1) / 8:=by decide
  lia
 have hfit:¬ (!Builtin.List.listFitsIndex k)=fy:=by rw[fitsIndex_both h1 h2];exact Ă
 have hlong:¬ Builtin.List.listTooLong (ú.toArray.size*k.toNat)=fy:=by rw[E4 hlen];exact Ă
 have hnew:d7 (λx1 x2=>x1++x2) #[] (Þ (if ú.toArray.isEmpty=fy then 0 else k.toNat) ú.toArray)=(Þ k.toNat ú).flatten.toArray:=by
  have f0:∀m:Nat,d7 (λx1 x2=>x1++x2) #[] (Þ m ú.toArray)=(Þ m ú).flatten.toArray:=λm=>by have:=Mp ú m [];rw[List.nil_append]at this;exact this
  rw[f0];cases ú with
  |nil=>simp
  |cons a r'=>rw[hZ<|by simp]
 refine wpAny_binaryOp_repeat_ref (T:="list") (U:="int") ↥1 ⟨_,e,rfl⟩ (λs'=>typeIs_int s' k t) noFill_list_mul F.fills_int_mul F.slot_int_rmul repeat_list F.slot_int_index.lookup
  (cF F.slot_int_rmul (typeIs_int s k t) F.entry_int_rmul (F.args_int_rmul_2 _ _) (int___rmul___int_list k t l ú.toArray n)
    ⟨e,rfl,⟨_,e,rfl⟩,cF F.slot_list_mul ⟨_,e,rfl⟩ F.entry_list_mul (F.args_list_mul_2 _ _) (AutoListH.list___mul___list_int_3 l ú.toArray n k t hfit hcap hlong) ⟨e,?_⟩⟩)
 rw[hnew];exact⟨.ref _,_,I.lnew (t':=s.toks) (r.rep k.toNat) (by rw[Gb,cH];exact hz),rfl,q _ I.fresh⟩
end
end L2
namespace Att
open PySem PySem.W PySem.Calls PyProof.Rows
variable {P:Params}{h:Č}
def WS:∀(ns:List Int) (vs:List Ã),WellAll P h vs (ns.map WData.int)->ā vs ns:=by
 intro ns;induction ns with
 |nil =>intro vs w;rw[Ř]at w;cases w;exact .nil
 |cons n ns ih =>
  intro vs w;rw[Í]at w;cases w with
  |cons a b =>cases a;exact .cons _ _<|ih _ b
variable {l:OpenLaw}{n:Nat}
def AL(hn:l.most=fw n)(hpre:l.row.toRowW.claim.pre args=fy)(hwl:WellAll P h vals args) :
  ∃a vs ns,vals=[Value.ref a]/\args=[WData.list<|ns.map WData.int]/\h.get? a=fw {cls:=.type "list",data:=.seq vs.toArray}/\ā vs ns/\ns.length<=n:=by
 have hsh:WShape.hasAll [] args [.list .int]=fy:=(pre_splitW hpre).1;have hc:l.pre.holds [] {args:=args}=fy:=(pre_splitW hpre).2;let⟨d,r,rfl,h1,h2⟩:=hasAllW_cons hsh;obtain rfl:=hasAllW_nil h2;let⟨xs,rfl,h3⟩:=hasW_list h1;let⟨ns,rfl⟩:=items_int h3;have hlen:ns.length<=n:=by
  unfold OpenLaw.pre at hc;have h4:(WTm.not<|.lt (.lit<|.int (n:Int))<|.len<|.arg 0).holds [] {args:=[.list<|ns.map .int]}=fy:=by have h4:=(holds_andW hc).1;rw[hn]at h4;exact h4
  have h5:=condW_of h4<|w_not<|w_lt w_lit<|w_len_list<|w_arg rfl;rw[Á]at h5;refine Nat.le_of_not_lt λq=>?_;have q':(n:Int)<((ns.length:Nat):Int):=by lia
  first
   |(rw[ig q']at h5;exact ij h5<|by decide)
   |(simp at h5;lia)
 cases hwl with
 |cons w1 w2 =>
  cases w2;cases w1 with
  |list ho hall=>exact⟨_,_,ns,rfl,rfl,ho,WS ns _ hall,hlen⟩
def Az(l:OpenLaw)(args:List WData):l.row.toRowW.claim.post args (.bool fy) args=fy :=
 postW_of (r:=l.row.toRowW) (X:=(fy==fy))
  (show WShape.has [] (.bool fy) .bool=fy by first|rfl|decide|simp[WShape.has,WShape.arms,WShape.armsAll])
  (show(WTm.eq .res<|.lit<|.bool fy).value [] {args:=args,res:=fw<|.bool fy,after:=args}=fw (.bool<|fy==fy) from w_eq_bool (w_res rfl) w_lit) rfl
def attach_call(hn:l.most=fw n)(hdf:d.params.defaults=[])(call:∀(w:ÿ) (s₀ ġ:Æ) (mg mb:Str->Option Ã) (fa:Ð) (o:Obj) (pm cd doc:Ã) (a:Ð) (vs:List Ã) (ns:List Int),
    Ground q loose [] XP w s₀ mg mb ġ.heap->YP w ġ.heap->
    ġ.heap.get? fa=fw o->o.data=.func (docDef d.name d.params d.body d.scope pm cd doc)->ġ.heap.CodeRec cd d.name->mg d.name=fw (.ref fa)->
    ġ.heap.get? a=fw {cls:=.type "list",data:=.seq vs.toArray}->ā vs ns->ns.length<=n->ġ.gens=#[]->
    codeAny (á l.prog w) ah (.call (.ref fa) ⟨[.ref a],[]⟩) (λr s'=>r=.ok (.ret<|.bool fy)/\OldK ġ.heap s'.heap/\s'.os=ġ.os/\ώ s'.gens) ġ) :
  WalkO q loose XP YP l.row.toRowW d [] (λf vs=>PySem.call f vs):=by
 intro w s₀ ġ mg mb G Y fa o pm cd doc dV kV ho hd aT hD hmg hg args vals as hpre hlay hrd hwl hlo;obtain rfl:dV=.none:=Dflts.none hD hdf;obtain rfl:kV=.none:=Dflts.noKw hD;let⟨a,vs,ns,rfl,rfl,dX,hints,hlen⟩:=AL hn hpre hwl;refine enter_call<|ι (call w s₀ ġ mg mb fa o pm cd doc a vs ns G Y ho (fd_plain hd) aT hmg dX hints hlen hg) λr s' hq=>?_;let⟨rfl,h2,h3,h4⟩:=hq;exact⟨.inl ⟨.bool fy,.bool fy,[],rfl,λ_=>rfl,.bool fy,Az l _,λ_=>⟨List.Pairwise.nil,λ_ hm=>(nomatch hm)⟩⟩,h2,h3,h4⟩
end Att
namespace L2
open PySem PySem.Spec PyProof.Rows
def WE:∀{vs:List Ã}{ns:List Int},ā vs ns->gV (ns.map V.int) vs
 |_,_,.nil=>.nil
 |_,_,.cons n t h=>.cons ⟨t,rfl⟩<|WE h
abbrev Qv(H:Hp):Prop:=∀b,H b=fx\/∃o xs,H b=fw (.frz o<|.lst xs)
def D1{K:Frag}(KX:K.In ġ.heap)(hns:ġ.heap.Ns ĉ mg)(hb:ġ.heap.Ns builtinsNs mb)(hbb:∀x:Str,x≠"__name__"->mb x=š x)(hlim:ġ.heap.NoLimit)(hg:ġ.gens=#[])(ha:ġ.heap.get? a=fw {cls:=.type "list",data:=.seq vs.toArray})(hi:ā vs ns)(hl:ns.length<=à)(hr:gm k ah)(F:∀base:Č,K.In base->base.Ns ĉ mg->gp P w K mg base CX k fa fd [x] sp)(hbind:∀(s:Æ) (u:Ã),BindsTo s fd ⟨[u],[]⟩ [(x,u)])(hsp:∀H:Hp,Qv H->gT K H a (ns.map V.int)->sp [.ref a] H (λv _=>v=.bl fy) λ_ _ _=>False)(hCX:∀H e s',CX [] H ġ (λ_ _ _=>False) e s'->False) :
  codeAny (á P w) ah (.call (.ref fa) ⟨[.ref a],[]⟩) (λr s'=>r=.ok (.ret<|.bool fy)/\OldK ġ.heap s'.heap/\s'.os=ġ.os/\ώ s'.gens) ġ:=by
 have rv:=WE hi;have gG:=hi.length;have core:∀H:Hp,Qv H->gT K H a (ns.map V.int)->HOk P w H ġ.heap->(∀b,H b≠fx->b=a)->(H a≠fx->K.lookup a=fx)->
   codeAny (á P w) ah (.call (.ref fa) ⟨[.ref a],[]⟩) (λr s'=>r=.ok (.ret<|.bool fy)/\OldK ġ.heap s'.heap/\s'.os=ġ.os/\ώ s'.gens) ġ:=by
  intro H hO hS hok hA hK;have dA:∀{b:Ð}{o:Obj},ġ.heap.get? b=fw o->H b=fx->(MH ġ.heap H).get? b=fw o:=λe n=>CI e n;have noA:∀{b:Ð}{o:Obj}{es:Array DictEntry}{ep:Nat},ġ.heap.get? b=fw o->o.data=.dict es ep->H b=fx:=λ{b o es ep} e d=>by
   cases q:H b with
   |none=>rfl
   |some u =>have e':b=a:=hA b (by rw[q];simp);subst e';rw[ha]at e;cases e;have d':Data.seq vs.toArray _=Data.dict es ep:=d;cases d'
  have nsK:∀{b:Ð}{m:Str->Option Ã},ġ.heap.Ns b m->(MH ġ.heap H).Ns b m:=λ{b m} ⟨o,es,ep,e,d,r⟩=>⟨o,es,ep,dA e<|noA e d,d,r⟩
  have hKb:K.In<|MH ġ.heap H:=λb o e=>dA (KX b o e) (by
    cases q:H b with
    |none=>rfl
    |some u =>
      have e':b=a:=hA b (by rw[q];simp)
      subst e'
      rw[hK<|by rw[q];simp]at e;cases e)
  have hM:Mod K mg<|MH ġ.heap H:=⟨hKb,nsK hns,⟨mb,nsK hb,hbb⟩,let ⟨mc,h1,h2⟩:=hlim;⟨mc,nsK h1,h2⟩⟩
  have e0:Env0 P w K mg (MH ġ.heap H) ah [] ġ H:=⟨rfl,hM,λb o e=>Hz e,Nat.le_of_eq<|AE _ _,trivial,λb hb=>ij (show b∈([]:List Ð) from hb) (by simp),hok,.of_eq hg⟩
  refine ι ((F _ hKb<|nsK hns).run ah [] ġ H ⟨[.ref a],[]⟩ [.ref a] [.ref a] _ _ hr e0 (hbind ġ<|.ref a) (.cons rfl .nil)<|hsp H hO hS) λr s' h=>?_;cases r with
  |error e=>exact(hCX H e s' h).elim
  |ok fl =>
   cases fl with
   |next=>exact Ň h
   |brk=>exact Ň h
   |cont=>exact Ň h
   |ret u =>
    let⟨v,H',os,bare,un,hok',r',q⟩:=h;have q':v=.bl fy:=q;subst q';obtain rfl:u=Value.bool fy:=r';refine⟨rfl,OldK.of_keep λb o e=>?_,os,bare⟩;cases q:H b with
    |none=>exact un.keep b o e q (by intro z;exact ij (show b∈([]:List Ð) from z)<|by simp) (by simp)
    |some u =>
     rcases hO b with z|⟨ob,xs,z⟩
     .rw[q]at z;cases z
     .have z2:=un.frzs b ob _ z;let⟨e1,_⟩:=hok b _ z;let⟨e2,_⟩:=hok' b _ z2;rw[e]at e1;cases e1;exact e2
 cases hk:K.lookup a with
 |some o =>have e:=KX a o hk;rw[ha]at e;cases e;refine core (λ_=>fx) (λ_=>.inl rfl) (.inr ⟨_,vs.toArray,_,hk,rfl,rfl,rfl,by rw[Ï,gG];exact hl,⇑rv⟩) (λb u z=>by have z':(fx:Option HO)=fw u:=z;cases z') (λb z=>ij rfl z) λz=>ij rfl z
 |none =>
  refine core (λb=>if b=a then fw (.frz {cls:=.type "list",data:=.seq vs.toArray}<|.lst<|ns.map V.int)else fx) (λb=>?_) (.inl<|.inr ⟨{cls:=.type "list",data:=.seq vs.toArray},hX rfl⟩) (λb u z=>?_) (λb z=>?_) λ_=>hk
  .by_cases hb:b=a
   .exact .inr ⟨_,_,hX hb⟩
   .exact .inl<|hZ hb
  .by_cases hb:b=a
   .have z':=(hX hb).symm.trans z;cases z';subst hb;exact⟨ha,by rw[Á];exact hl,vs,_,rv,ha⟩
   .have z':=(hZ hb).symm.trans z;cases z'
  .by_cases hb:b=a
   .exact hb
   .exact ij (hZ hb) z
abbrev YQ(s:ł):Arguments:=match s with
 |.FunctionDef _ a _ _ _ _ _ _ _ _=>a
 |_=>{posonlyargs:=[],args:=[],vararg:=fx,kwonlyargs:=[],kw_defaults:=[],kwarg:=fx,defaults:=[]}
abbrev ZQ(s:ł):List ł:=match s with
 |.FunctionDef _ _ b _ _ _ _ _ _ _=>b
 |_=>[]
abbrev Zu(s:ł):ς:=match s with
 |.FunctionDef _ _ _ _ _ _ sc _ _ _=>sc
 |_=>{kind:=.function,names:=[],isGenerator:=fz,isCoroutine:=fz}
structure Fun(K:Frag)(x qual:Str)(st:ł)(f:Ð)(fd:ŋ):Prop where
 ex:∃(oc:Ã) (od:Option Ð) (kV doc pm:Ã) (an:Option Ð) (ϫ ct:Ã) (osl:Array<|Option Ã),
  fd=PySem.W.fnOf x qual (YQ st) (ZQ st) (Zu st) .none kV doc pm an ϫ ct/\K.lookup f=fw ⟨oc,od,.func fd,osl⟩/\PySem.W.codeIn K ϫ qual=fy
 kp:PySem.W.keepIn K (.ref f)=fy
section
variable {P:è}{K:Frag}
variable {x:Str}{qual:Str}{st:ł}{f:Ð}
def Fun.binds(F:Fun K x qual st f fd)(h:∀(kV doc pm:Ã) (an:Option Ð) (ϫ ct:Ã) (us:List Ã),us.length=ps.length->bindArgs (PySem.W.fnOf x qual (YQ st) (ZQ st) (Zu st) .none kV doc pm an ϫ ct) ⟨us,[]⟩=pure (ps.zip us)):Binds K fd ps []:=by
 let⟨oc,od,kV,doc,pm,an,ϫ,ct,osl,rfl,lk,aT⟩:=F.ex;exact .all<|h kV doc pm an ϫ ct
def CT{kV:Ã}(l:K.lookup f=fw ⟨oc,od,.func<|PySem.W.fnOf x qual (YQ st) (ZQ st) (Zu st) .none kV doc pm an ϫ ct,osl⟩)(c:PySem.W.codeIn K ϫ qual=fy)(k:PySem.W.keepIn K (.ref f)=fy):Fun K x qual st f<|PySem.W.fnOf x qual (YQ st) (ZQ st) (Zu st) .none kV doc pm an ϫ ct:=⟨⟨oc,od,kV,doc,pm,an,ϫ,ct,osl,rfl,l,c⟩,k⟩
end
section
def pv(i:Nat){x:Str}{í:Pos}(hN:X.N[i]?=fw x:=by rfl)(hv:Vis X.env.scope x:=by first|exact Or.inl rfl|exact Or.inr (Or.inl rfl)|exact Or.inr<|Or.inr rfl)(hd:(x==("__debug__" : Str))=fz:=by decide)(aT:(x==("__classdict__" : Str))=fz:=by decide):PE X (.Name x í)<|QQ i:=EE hN hv hd aT
end
abbrev Same(H H':Hp):Prop:=∀b o,H b=fw o->H' b=fw o
def Same.refl(H:Hp):Same H H:=λ_ _ h=>h
def Same.trans(a:Same H H1)(b:Same H1 H2):Same H H2:=λc o h=>b c o (a c o h)
end L2
set_option maxHeartbeats 4000000
namespace L2
open PySem PySem.Spec PyProof.Rows
def HOk.track(x:HOk P w H h)(hn:H a=fx)(new:fN P w (upd H a o) h a o):HOk P w (upd H a o) h:=λb u e=>by
 by_cases hb:b=a
 .subst hb;rw[fB]at e;cases e;exact new
 .rw[fA hb]at e;exact(x b u e).stay (λc v _ q=>q) (λc q=>by rw[fA<|Zj q hn];exact q) λc xs q=>by rw[fA<|Zj q hn];exact q
abbrev Zt(X:Cx)(scope:ς)(N':List Str)(cl:List<|Str×Ð)(C:Ð)(s:Æ)(H:Hp)(ex:List Ð):Cx where
 prog:=X.prog
 w:=X.w
 K:=X.K
 mg:=X.mg
 base:=X.base
 A:=X.A
 N:=N'
 s₀:=s
 H₀:=H
 env:=compEnvC scope cl C X.env
 outer:=X.stack
 stack:=X.stack
 ex:=ex
 fn:=λ_=>fz
 calm:=X.calm
 pn:=[]
 xe:=λ_ _=>False
abbrev Yj(X:Cx)(x:List Str)(þ:List Nat):List Str:=x++þ.map λj=>X.N.getD j Str.empty
abbrev Ub(σ:St)(þ:List Nat):St:=þ.map λj=>(σ[j]?).getD fx
structure BlkOk(X:Cx)(scope:ς)(x:List Str)(þ:List Nat):Prop where
 kind:scope.kind=.function
 nocell:∀y∈scope.names,y.2≠.cell
 locs:∀y∈scope.names,y.2=.local->scope.names.lookup y.1=fw .local
 own:∀y∈x,scope.names.lookup y=fw .local
 frees:∀y∈scope.names,y.2=.free->X.env.kindOf y.1=fw .cell
 cap:∀j∈þ,(X.N[j]?).isSome=fy/\X.env.kindOf (X.N.getD j Str.empty)=fw .cell/\scope.names.lookup (X.N.getD j Str.empty)=fw .free
 nd:(Yj X x þ).Nodup
def YK:∀(names:List<|Str×ϟ) (Ķ:List<|Str×Ð),(∀y∈names,y.2=.free->∃c,env.cells.lookup y.1=fw c)->(∀x c,Ķ.lookup x=fw c->env.cells.lookup x=fw c)->
  ∃cl,(forIn names Ķ λ(p:Str×ϟ) (r:List<|Str×Ð)=>(do
    if(p.2 == ĩ)=fy then do let a<-cellOf env p.1;pure (Ļ<|(p.1,a)::r)else pure (Ļ r):Sem _))=pure cl/\
   (∀x c,cl.lookup x=fw c->env.cells.lookup x=fw c)/\(∀x c,Ķ.lookup x=fw c->∃c',cl.lookup x=fw c')/\∀x,(x,ĩ)∈names->∃c,cl.lookup x=fw c
 |[],Ķ,_,ha=>⟨Ķ,rfl,ha,λx c h=>⟨c,h⟩,λx h=>nomatch h⟩
 |(n,k)::r,Ķ,hn,ha=>by
  by_cases hk:k=.free
  .subst hk;let⟨c,hc⟩:=hn (n,.free) ó rfl;have ha':∀x d,(((n,c)::Ķ:List<|Str×Ð)).lookup x=fw d->env.cells.lookup x=fw d:=λx d h=>by
    rw[ñ]at h;cases e:x==n with
    |true =>
     rw[e]at h;have:x=n:=⇑e
     subst this;cases h;exact hc
    |false=>rw[e]at h;exact ha x d h
   let⟨cl,h1,h2,h3,h4⟩:=YK r ((n,c)::Ķ) (λy hy=>hn y<|â _ hy) ha';refine⟨cl,?_,h2,λx d h=>?_,λx hx=>?_⟩
   .rw[List.forIn_cons];have e:cellOf env n=pure c:=by unfold cellOf;rw[hc]
    simp![beq_self_eq_true,if_true,e];exact h1
   .by_cases hx:x=n
    .subst hx;exact h3 x c (by rw[ñ];simp)
    .exact h3 x d (by rw[ñ,beq_false_of_ne hx];exact h)
   .rcases Ç.mp hx with e|hx
    .cases e;exact h3 _ c (by rw[ñ];simp)
    .exact h4 x hx
  .have hb:(k==ĩ)=fz:=⇑hk
   let⟨cl,h1,h2,h3,h4⟩:=YK r Ķ (λy hy=>hn y<|â _ hy) ha;refine⟨cl,?_,h2,h3,λx hx=>?_⟩
   .rw[List.forIn_cons];simp![hb,ī,if_false];exact h1
   .rcases Ç.mp hx with e|hx
    .cases e;exact ij rfl hk
    .exact h4 x hx
def Z4{env:Env}:∀{names:List (Str×ϟ)}{x:Str}{k:ϟ},(names.map λ(n,k)=>if(k==ĩ&&env.scope.kind == .function&&env.kindOf n==fw .cell)then(n,eZ)else(n,k)).lookup x=fw k->
  (∃k0,(x,k0)∈names/\names.lookup x=fw k0/\(k0=k\/(k0=.free/\k=.cell)))
 |[],_,_,h=>by simp at h
 |(n,k0)::r,x,k,h=>by
  rw[Í,ñ]at h;cases hx:x==n with
  |true =>
   have e:x=n:=⇑hx
   subst e;refine⟨k0,ó,by rw[ñ];simp,?_⟩;by_cases hc:(k0==ĩ&&env.scope.kind == .function&&env.kindOf x==fw .cell)=fy
   .rw[hX hc]at h;simp at h;have:k0=.free:=by
     simp![bAq]at hc;simpa using hc.1.1
    exact .inr ⟨this,h.symm⟩
   .rw[hZ hc]at h;simp at h;exact .inl h
  |false =>
   have h':(r.map λ(n,k)=>if(k==ĩ&&env.scope.kind == .function&&env.kindOf n==fw .cell)then(n,eZ)else(n,k)).lookup x=fw k:=by
    by_cases hc:(k0==ĩ&&env.scope.kind == .function&&env.kindOf n==fw .cell)=fy
    .rw[hX hc]at h;simpa[hx]using h
    .rw[hZ hc]at h;simpa[hx]using h
   let⟨k1,a,b,c⟩:=Z4 h';exact⟨k1,â _ a,by rw[ñ,hx];exact b,c⟩
abbrev PIfs(X:Cx)(bw:List Expr)(t:TT):Prop :=
 ∀(Â:List<|Ð×Obj) (s:Æ) (σ:St) (H:Hp) (Q:Bool->Hp->Prop),Inv X Â σ H s->t σ H Q->
  wpAny ↥2 X.A (forIn bw fy λc r=>if r=fy then do let ok<-cB c X.env (eval c X.env);pure (Ļ ok)else pure (Ļ r)) (TP X Â σ Q) X.xe s
abbrev Ti:TT:=λ_ H Q=>Q fy H
def pifs_nil:PIfs X [] Ti:=λ_ _ _ H _ I h=>wpAny_tests_nil ⟨H,I,h⟩
def We(h:PT X c t):PIfs X [c] t:=λÂ s σ H Q I hq=>wpAny_tests_one (h Â s σ H Q I hq)
abbrev Iv(J:It)(tg:TG)(tc:TT)(te:TE)(Fin:List V->Hp->Prop)(W:Nat->Nat->List V->St->Hp->Prop):Prop :=
 ∀i m ys τ H,W i m ys τ H->ys.length<à/\((J.stop i H/\Fin ys H)\/(J.go i H/\∃N:List V->St->Hp->Prop,(∀ys' τ' H',N ys' τ' H'->∃m',m'<m/\W (i+1) m' ys' τ' H')/\∀x H',J.yld i H x H'->
   tg x τ H' λτ' H1=>tc τ' H1 λb H2=>if b=fy then te τ' H2 λy H3=>N (ys++[y]) τ' H3 else N ys τ' H2))
abbrev Cr(wi:TI)(k:Nat)(þ:List Nat)(tg:TG)(tc:TT)(te:TE):TE:=λσ H Q=>wi σ H λJ H1=>∃W:Nat->Nat->List V->St->Hp->Prop,(∃m,W 0 m [] (Þ k fx++Ub σ þ) H1)/\
 Iv J tg tc te (λys H=>∀p,H p=fx->Q (.ref p) (upd H p<|.lst ys)) W
section
variable {scope:ς}{x:List Str}{cl:List (Str×Ð)}
def AN{D:Ð}{tk:Nat}(B:BlkOk X scope x þ)(I2:Inv X Â σ H2 s2)(f2:∀b∈fp,Wz X Â H2 b)(c1:∀x c,cl.lookup x=fw c->X.env.cells.lookup x=fw c)(c2:∀x,(x,ĩ)∈scope.names->∃c,cl.lookup x=fw c)(I3:Inv X Â σ H2 s3)(hD:D=s2.heap.objs.size)(h3:s3.heap.objs.size=D+1)(Ϡ:∀b o,s3.heap.get? b=fw o->h1.get? b=fw o)(hfp:∀b∈fp,b<s2.heap.objs.size)(hn:h1.Ns s3.heap.objs.size m) :
  Inv (Zt X scope (Yj X x þ) cl s3.heap.objs.size s3 H2<|D::fp) [] (Þ x.length fx++Ub σ þ) H2 {s3 with heap:=h1,toks:=tk}:=by
 have neD:∀b o,s2.heap.get? b=fw o->b≠D:=λb o e=>by rw[hD];exact é<|Ü e
 have exlt:∀b∈D::fp,b<s3.heap.objs.size:=λb hb=>by
  rw[h3];rcases Ç.mp hb with e|hb
  .rw[e];exact Į _
  .exact ĥ (by rw[hD];exact hfp b hb)
 have keeps:=I3.hok.kept (h':=h1) Ϡ;refine⟨⟨I2.mod,B.kind,I2.ok.glob,I2.ok.blt,Ì _,λy z c e1 e2=>?_,λy hy=>?_,λy c e _=>(by cases e),λhc=>I2.ok.hd hc,I2.ok.frames,.inl rfl,λb hb=>?_,λb o e=>?_,?_,λb o e hb=>?_,λb hb hf=>?_,I3.stack,λb hb=>I2.stkFree b hb⟩,
   rfl,I3.bare,Un.kept Ϡ,⟨m,hn,λi y v e1 e2 e3=>?_⟩,λy c e=>?_,I3.hok.fresh<|Ì _,λy c e=>I3.freeC y c<|c1 y c e,λp hp=>(nomatch hp),keeps,?_⟩
 .exact I2.ok.inj y z c (c1 y c e1)<|c1 z c e2
 .have hy:(cf scope X.env).names.lookup y=fw .cell\/(cf scope X.env).names.lookup y=fw .free:=hy;rcases hy with hy|hy
  .obtain⟨k0,a,b,c⟩:=Z4 hy;rcases c with c|⟨c,_⟩
   .subst c;exact ij rfl<|B.nocell _ a
   .subst c;exact c2 y a
  .obtain⟨k0,a,b,c⟩:=Z4 hy;rcases c with c|⟨_,c⟩
   .subst c;exact c2 y a
   .cases c
 .refine⟨é<|exlt b hb,λy c e z=>?_⟩;have e':=c1 y c e;rcases Ç.mp hb with q|q
  .obtain⟨v,o,ho,_⟩:=I2.cell y c e';exact neD c o ho<|z.trans q
  .exact(f2 b q).2.2.2.2.1 y c e' z
 .exact I3.bs b o e
 .exact Û I2.ok.bsz (Û I2.sz<|show s2.heap.objs.size<=s3.heap.objs.size by rw[h3,hD];exact ň _)
 .rcases Ç.mp hb with q|q
  .exact neD b o (I2.bk b o e) q
  .rcases (f2 b q).2.2.2.1 with z|z
   .exact I2.ok.noex b o e z
   .exact ij (ê (Ü (I2.ok.bs b o e).1) z)<|Ģ _
 .have hf:b∈frs X.stack:=hf;rcases Ç.mp (I2.stkSub b hf)with z|z
  .rcases Ç.mp hb with q|q
   .exact ij I2.lt (by rw[<-z,q,hD];exact Ģ _)
   .exact(f2 b q).2.1 z
  .rcases Ç.mp hb with q|q
   .exact I2.nofs (a:=b) (by rw[q,hD];exact Ì _) z
   .exact(f2 b q).2.2.1 z
 .by_cases hik:i<x.length
  .rw[Ċ (by rw[û];exact hik),Ő,hX hik]at e2;cases e2
  .have e1:(x++þ.map λj=>X.N.getD j Str.empty)[i]?=fw y:=e1;rw[ē<|by lia]at e1;rw[ē (by rw[û];lia),û]at e2;generalize i - x.length=j at e1 e2;have e2:(þ.map λj=>(σ[j]?).getD fx)[j]?=fw (fw v):=e2;rw[Ú]at e1 e2;cases hj:þ[j]? with
   |none=>rw[hj]at e1;cases e1
   |some q =>
    rw[hj]at e1 e2;have e1':X.N.getD q Str.empty=y:=æ e1;have e2':(σ[q]?).getD fx=fw v:=æ e2;let⟨hs,hk,hsc⟩:=B.cap q<|ä hj;let⟨y',hy'⟩:=å.mp hs;have ey:y'=y:=by rw[<-e1',Ĕ,hy'];rfl
    subst ey;have es:σ[q]?=fw (fw v):=by
     cases hq:σ[q]? with
     |none=>rw[hq]at e2';cases e2'
     |some o=>rw[hq]at e2';exact congrArg fw e2'
    rw[e1']at hk hsc;let⟨m2,_,hl⟩:=I3.loc;have bW:X.env.scope.names.lookup y'=fw .cell:=hk;let⟨u,r,l⟩:=hl q y' v hy' es<|.inr<|.inl bW;refine⟨u,r,.inr ⟨?_,?_⟩⟩
    .rcases e3 with e3|e3|e3
     .obtain⟨k0,a,b,c⟩:=Z4 (show(cf scope X.env).names.lookup y'=fw .local from e3);rw[hsc]at b;cases b;rcases c with c|⟨_,c⟩<;>cases c
     .exact .inl e3
     .exact .inr e3
    .rcases l with⟨l,_⟩|⟨_,c,hc,z⟩
     .rw[hk]at l;cases l
     .obtain⟨c',hc'⟩:=c2 y'<|PySem.mem_of_lookup hsc;have ec:c'=c:=æ<|(c1 y' c' hc').symm.trans hc;subst ec;let⟨o,ho,hd⟩:=z;exact⟨c',hc',o,Ϡ c' o ho,hd⟩
 .obtain⟨v,o,ho,hd⟩:=I3.cell y c<|c1 y c e;exact⟨v,o,Ϡ c o ho,hd⟩
 .show _=(Yj X x þ).length;unfold Yj Ub;rw[ì,ì,Á,Á,û]
def XN(h:∀y∈scope.names,y.2=.free->∃c,env.cells.lookup y.1=fw c) :
  ∃cl,closureFor scope env=pure cl/\(∀x c,cl.lookup x=fw c->env.cells.lookup x=fw c)/\∀x,(x,ĩ)∈scope.names->∃c,cl.lookup x=fw c:=by
 let⟨cl,h1,h2,_,h4⟩:=YK (env:=env) scope.names [] h λx c e=>nomatch e;refine⟨cl,?_,h2,h4⟩;simp![closureFor];have e:(forIn scope.names ([]:List<|Str×Ð) λx r =>
     (match x with
     | (name,kind)=>if(kind == ĩ)=fy then do let a<-cellOf env name;pure (Ļ<|(name,a)::r)else pure (Ļ r):Sem<|ForInStep<|List<|Str×Ð))=pure cl:=h1
 first
  |(rw[e];rfl)
  |(refine Eq.trans (congrArg (· >>= pure) ?_) (rfl:(pure cl >>= pure:Sem _)=pure cl);exact e)
variable {bX:Expr}{ŷ:Expr}{bw:List Expr}{í:Pos}
def NA(I:Nat->Æ->Prop)(turn:∀n s,I n s->wpAny (á prog w) A (ϗ it) (λr ġ=>match r with
    |none=>R (.ok .next) ġ
    | some v=>wpAny (á prog w) A (ϭ ae it v) (λ_ ġ=>wpAny (á prog w) A (χ ae env v) (λ_ cb =>
        wpAny (á prog w) A (forIn bw fy λc r=>if r=fy then do let ok<-cB c env (eval c env);pure (Ļ ok)else pure (Ļ r)) (λok aN =>
          if ok=fy then wpAny (á prog w) A (eval bX env) (λx s₄ =>
            wpAny (á prog w) A (call (.builtin "list.append") [Ķ,x]) (λ_ s₅=>∃m,m<n/\I m s₅) (λ_ _=>False) s₄) (λ_ _=>False) aN
          else ∃m,m<n/\I m aN) (λ_ _=>False) cb) (λ_ _=>False) ġ) (λ_ _=>False) ġ) (λ_ _=>False) s)(n:Nat)(h:I n s) :
  codeAny (á prog w) A (.compLoop (.ListComp bX [⟨ae,ŷ,bw,0⟩] scope í) 0 it Ķ env) R s:=by
 refine codeAny_loop rfl I (λn s hI=>?_) n h;show wpAny _ A ((compTurn (.ListComp bX [⟨ae,ŷ,bw,0⟩] scope í) 0 it Ķ env).onRaise λx=>do bD x env;theTreesLotGoes x) _ _ s;refine wpAny_noted ?_;rw[compTurn_list];refine À<|dD<|À<|į (turn n s hI) (λr ġ h₁=>?_) λ_ _ h'=>h'.elim;cases r with
 |none=>exact È h₁
 |some v =>
  refine À<|į h₁ (λ_ ġ h₁=>?_) λ_ _ h'=>h'.elim;refine À<|į h₁ (λ_ cb h₂=>À<|į h₂ (λok aN h₃=>?_) λ_ _ h'=>h'.elim) λ_ _ h'=>h'.elim;cases ok with
  |false=>exact È ⟨rfl,h₃⟩
  |true =>exact À<|À<|į h₃ (λx s₄ h₄=>À<|į h₄ (λ_ s₅ h₅=>È<|È ⟨rfl,h₅⟩) λ_ _ h'=>h'.elim) λ_ _ h'=>h'.elim
variable {bK:Expr}{tg:TG}
def Ml{it:Ð}{tn:Nat->Č->Prop}{J:It}{Fin:List V->Hp->Prop}{W:Nat->Nat->List V->St->Hp->Prop}{E:Ã->Æ->Prop}
  {RR:Ã->Ð->bB->Æ->Prop}{m0:Nat}(hc:X.calm=fy) (B:BlkOk X scope x þ) (I2:Inv X Â σ H2 s2) (T:Turn X.prog X.w X.K bK J fp it tn) (st2:tn 0 s2.heap) (f2:∀b∈fp,Wz X Â H2 b)
  (c1:∀x c,cl.lookup x=fw c->X.env.cells.lookup x=fw c) (c2:∀x,(x,ĩ)∈scope.names->∃c,cl.lookup x=fw c)
  (hI:∀cl C s H ex,PIfs (Zt X scope (Yj X x þ) cl C s H ex) bw tc) (hE:∀cl C s H ex,PE (Zt X scope (Yj X x þ) cl C s H ex) bX te)
  (hG:∀cl C s H ex,PG (Zt X scope (Yj X x þ) cl C s H ex) bK tg) (w0:W 0 m0 [] (Þ x.length fx++Ub σ þ) H2) (cw:Iv J tg tc te Fin W)
  (hRR:∀D C s' H' ys m,H' D=fx->s'.heap.Ns C m->Wz X Â (upd H' D<|.lst ys) C->Inv X Â σ (upd H' D<|.lst ys) s'->Fin ys H'->RR (.ref D) C (.ok .next) s') :
  wpAny ↥2 X.A (newList []) (λĶ aN=>wpAny ↥2 X.A (newFunctionEnv scope X.env.globals cl [] X.env.qual fx .none<|fw X.env) (λcenv s₄ =>
    codeAny ↥2 X.A (.compStart (.ListComp bX [⟨bK,ŷ,bw,0⟩] scope í) 0 (.ref it) Ķ { cenv with scope:=cf scope X.env }) (RR Ķ cenv.locals) s₄) E aN) E s2:=by
 refine ċ (wpAny_newFunctionEnv B.nocell (by intro y hy;simp at hy) (λh₁ db de=>?_) B.kind);dsimp only at db de ⊢;have hfp:∀b∈fp,b<s2.heap.objs.size:=λb hb=>by let⟨o,e,_⟩:=T.obj _ _ st2 b hb;exact Ü e
 have I3:Inv X Â σ H2 {s2 with heap:=s2.heap.push {cls:=.type "list",dict:=fx,data:=.seq ([]:List Ã).toArray}}:=I2.kept (t':=s2.toks) λb o e=>Ä _ e;have h3:(s2.heap.push {cls:=.type "list",dict:=fx,data:=.seq ([]:List Ã).toArray}).objs.size=s2.heap.objs.size+1:=Ż ..;have dX:(s2.heap.push {cls:=.type "list",dict:=fx,data:=.seq ([]:List Ã).toArray}).get? s2.heap.objs.size=fw {cls:=.type "list",dict:=fx,data:=.seq ([]:List Ã).toArray}:=Ø _ rfl;have df:∀b o,s2.heap.get? b=fw o->(s2.heap.push {cls:=.type "list",dict:=fx,data:=.seq ([]:List Ã).toArray}).get? b=fw o:=λb o e=>Ä _ e;generalize hH3:s2.heap.push {cls:=.type "list",dict:=fx,data:=.seq ([]:List Ã).toArray}=h3' at db de I3 h3 dX df ⊢;have Ϡ:∀b o,h3'.get? b=fw o->h₁.get? b=fw o:=λb o e=>de.extBut b o (é<|Ü e)<|Ä _ e;have hDC:s2.heap.objs.size≠h3'.objs.size:=by rw[h3];exact é<|Į _
 have IB:=AN (cl:=cl) (fp:=fp) (s3:={s2 with heap:=h3'}) (D:=s2.heap.objs.size) (h1:=h₁) (tk:=s2.toks+([]:List<|Str×Ã).length) B I2 f2 c1 c2 I3 rfl h3 Ϡ hfp db;generalize hY:Zt X scope (Yj X x þ) cl h3'.objs.size {s2 with heap:=h3'} H2 (s2.heap.objs.size::fp)=Y at IB;have yP:Y.prog=X.prog:=by rw[<-hY];rfl
 have yw:Y.w=X.w:=by rw[<-hY];rfl
 have yK:Y.K=X.K:=by rw[<-hY];rfl
 have yA:Y.A=X.A:=by rw[<-hY];rfl
 have yc:Y.calm=fy:=by rw[<-hY];exact hc
 have yenv:Y.env=compEnvC scope cl h3'.objs.size X.env:=by rw[<-hY];rfl
 have hIY:PIfs Y bw tc:=by rw[<-hY];exact hI _ _ _ _ _
 have hEY:PE Y bX te:=by rw[<-hY];exact hE _ _ _ _ _
 have yxe:Y.xe=λ_ _=>False:=by rw[<-hY];rfl
 have ypn:Y.pn=[]:=by rw[<-hY];rfl
 have hgN:PG Y bK tg:=by rw[<-hY];exact hG _ _ _ _ _
 have fD:∀{H':Hp},H' s2.heap.objs.size=fx->Wz Y [] H' s2.heap.objs.size:=λ{H'} hn=>by
  refine⟨hn,?_,?_,?_,?_,λp hp=>?_⟩
  .rw[yenv];exact hDC
  .exact IB.ok.exfs _ (by rw[<-hY];exact ó)
  .exact .inl (by rw[<-hY];exact ó)
  .exact λy c e=>(IB.ok.exf _<|by rw[<-hY];exact ó).2 y c e
  .rw[ypn]at hp;exact nomatch hp
 have fF:∀{H':Hp},(∀b∈fp,H' b=fx)->∀b∈fp,Wz Y [] H' b:=λ{H'} hn b hb=>by
  have hm:b∈Y.ex:=by rw[<-hY];exact â _ hb
  refine⟨hn b hb,?_,IB.ok.exfs b hm,.inl hm,λy c e=>(IB.ok.exf b hm).2 y c e,λp hp=>?_⟩
  .exact(IB.ok.exf b hm).1
  .rw[ypn]at hp;exact nomatch hp
 have acc0:h₁.PlainList s2.heap.objs.size ([]:List Ã).toArray:=⟨0,by exact Ϡ _ _ dX⟩
 have loop:∀aN:Æ,aN={s2 with heap:=h₁,toks:=s2.toks+([]:List<|Str×Ã).length}->
   codeAny ↥2 X.A (.compLoop (.ListComp bX [⟨bK,ŷ,bw,0⟩] scope í) 0 (.ref it) (.ref s2.heap.objs.size)<|compEnvC scope cl h3'.objs.size X.env) (RR (.ref s2.heap.objs.size) h3'.objs.size) aN:=by
  rintro aN rfl;refine NA (λn s'=>∃i ys ú τ H',Inv Y [] τ H' s'/\tn i s'.heap/\(∀b∈fp,H' b=fx)/\H' s2.heap.objs.size=fx/\gV ys ú/\s'.heap.PlainList s2.heap.objs.size ú.toArray/\W i n ys τ H') ?_ m0
   ⟨0,[],[],_,H2,IB,T.keep _ _ _ st2 λb hb o e=>Ϡ _ _<|df _ _ e,λb hb=>(f2 b hb).1,I2.fresh,.nil,acc0,w0⟩
  rintro n s3 ⟨i,ys,ú,τ,H3,I3',st3,fr3,frD,rv,pl,w3⟩;have cv:∀{α:Type}{f:Sem α}{Q Q':α->Æ->Prop}{s:Æ},wpAny (á Y.prog Y.w) Y.A f Q Y.xe s->(∀a s',Q a s'->Q' a s')->wpAny ↥2 X.A f Q' (λ_ _=>False) s:=λ{α f Q Q' s} h hq=>by rw[yP,yw,yA,yxe]at h;exact į h hq λ_ _ e=>e
  have cvX:∀{α:Type}{f:Sem α}{Q Q':α->Æ->Prop}{s:Æ},wpAny ↥2 Y.A f Q (λ_ _=>False) s->(∀a s',Q a s'->Q' a s')->wpAny ↥2 X.A f Q' (λ_ _=>False) s:=λ{α f Q Q' s} h hq=>by rw[yA]at h;exact į h hq λ_ _ e=>e
  let⟨nD,hD3⟩:=id pl;have plD:∀b∈[s2.heap.objs.size],∃o,s3.heap.get? b=fw o/\∀v,o.data≠.cell v:=λb hb=>by
   have e:b=s2.heap.objs.size:=⇑hb
   subst e;exact⟨_,hD3,λv z=>by cases z⟩
  have IP:=I3'.pinned (fp:=[s2.heap.objs.size]) (λb hb=>by
    have e:b=s2.heap.objs.size:=⇑hb
    subst e
    exact fD frD) plD
  have memD:=ZX (fp:=[s2.heap.objs.size]) (Å.mpr rfl) hD3;have fF':∀b∈fp,Wz Y ([]++XT [s2.heap.objs.size] s3.heap) H3 b:=λb hb=>by
   let⟨q1,q2,q3,q4,q5,q6⟩:=fF fr3 b hb;refine⟨q1,q2,q3,q4,q5,λp hp=>?_⟩;rw[ypn]at hp;let⟨bx,_⟩:=KH (show p∈XT [s2.heap.objs.size] s3.heap by simpa using hp);have e:p.1=s2.heap.objs.size:=⇑bx
   rw[e];exact(é<|hfp b hb).symm
  obtain⟨hys,h|⟨go,N,hN,step⟩⟩:=cw i n ys τ H3 w3
  .obtain⟨stop,fin⟩:=h;refine cvX (T.done Y yP yw yK yc i _ s3 _ H3 _ IP fF' st3 stop) λr s4 ⟨hr,I4⟩=>?_;subst hr;let⟨m4,hm4,_⟩:=I4.loc;rw[yenv]at hm4;have aO:Un (frs X.stack) (s2.heap.objs.size::fp) H2 H3 h3' s4.heap:=by
    have:=I4.base;rw[<-hY]at this;exact this
   have hok4:HOk X.prog X.w H3 s4.heap:=by have:=I4.hok;rw[yP,yw]at this;exact this
   have pl4:=(I4.pin _<|É _<|É _ memD).1;have nC:H3 h3'.objs.size=fx:=by have:=I4.free;rw[yenv]at this;exact this
   have hlen:ys.length<=à:=Γ hys;have osEq:s4.os=s2.os:=by have:=I4.os;rw[<-hY]at this;exact this
   have neD:∀b o,s2.heap.get? b=fw o->b≠s2.heap.objs.size:=λb o e=>é<|Ü e;have nin:∀b o,s2.heap.get? b=fw o->b∉fp->b∉s2.heap.objs.size::fp:=λb o e hb z=>(Ç.mp z).elim (neD b o e) hb;have hokN:HOk X.prog X.w (upd H3 s2.heap.objs.size<|.lst ys) s4.heap:=hok4.track frD ⟨hlen,ú,nD,rv,pl4⟩;have U:Un (frs X.stack) fp H2 (upd H3 s2.heap.objs.size<|.lst ys) s2.heap s4.heap:=by
    refine⟨λb o e hn hf hx=>aO.keep b o (df b o e) hn hf<|nin b o e hx,λb o e hn hf hx=>aO.slot b o (df b o e) hn hf<|nin b o e hx,λb o e hn hx=>?_,λb o e hx=>aO.there b o (df b o e)<|nin b o e hx,λb xs e=>?_,λb o xs e=>?_,λb ps e=>?_⟩
    .rw[fA<|neD b o e];exact aO.free b o (df b o e) hn<|nin b o e hx
    .have q:=aO.tups b xs e;rw[fA<|Zj q frD];exact q
    .have q:=aO.frzs b o xs e;rw[fA<|Zj q frD];exact q
    .obtain⟨more,q⟩:=aO.tbls b ps e;exact⟨more,by rw[fA<|Zj q frD];exact q⟩
   have I5:Inv X Â σ (upd H3 s2.heap.objs.size<|.lst ys) s4:=I2.call' (ch:=fp) osEq U hokN I4.bare λb hb=>by let⟨_,q2,_,q4,q5,q6⟩:=f2 b hb;exact⟨q4,q2,q5,q6⟩
   exact hRR _ _ _ _ _ m4 frD hm4 (I2.fpOk (Γ<|by rw[h3];exact Į _)<|by rw[fA hDC.symm];exact nC) I5 fin
  .refine cvX (T.item Y yP yw yK yc i _ s3 _ H3 _ IP fF' st3 go) λr s4 ⟨u,hr,h4⟩=>?_;subst hr;refine cvX h4 λ_ s5 ⟨y,H5,I5,r5,y5,st5,fr5⟩=>?_;have frD5:H5 s2.heap.objs.size=fx:=(I5.pin _<|É _<|É _ memD).2.1;have hD5:=(I5.pin _<|É _<|É _ memD).1;have I5p:=I5.unpinned.pinned (fp:=s2.heap.objs.size::fp) (λb hb=>by
     rcases Ç.mp hb with e|hb
     . subst e;exact fD frD5
     . exact fF fr5 b hb) (λb hb=>by
     rcases Ç.mp hb with e|hb
     . subst e;exact⟨_,hD5,λv z=>by cases z⟩
     . exact T.obj _ _ st5 b hb)
   have memD5:=ZX (fp:=s2.heap.objs.size::fp) ó hD5;rw[<-yenv];refine cv (hgN _ s5 _ H5 y u _ I5p r5<|step y H5 y5) λ_ s6 ⟨σ6,H6,I6,q6⟩=>?_;have aP:∀{m':Nat}{bI:St}{H7:Hp}{s7:Æ}{ys':List V}{its':List Ã},Inv Y [] bI H7 s7->tn (i+1) s7.heap->(∀b∈fp,H7 b=fx)->H7 s2.heap.objs.size=fx->gV ys' its'->s7.heap.PlainList s2.heap.objs.size its'.toArray->m'<n/\W (i+1) m' ys' bI H7->
     ∃m,m<n/\∃i ys ú τ H',Inv Y [] τ H' s7/\tn i s7.heap/\(∀b∈fp,H' b=fx)/\H' s2.heap.objs.size=fx/\gV ys ú/\s7.heap.PlainList s2.heap.objs.size ú.toArray/\W i m ys τ H' :=
    λ{m' bI H7 s7 ys' its'} J1 st7 fr7 fd7 rv7 pl7 wm=>⟨m',wm.1,i+1,ys',its',bI,H7,J1,st7,fr7,fd7,rv7,pl7,wm.2⟩
   have stay:∀{bI:St}{H7:Hp}{s7:Æ},Inv Y ([]++XT (s2.heap.objs.size::fp) s5.heap) bI H7 s7->tn (i+1) s7.heap/\(∀b∈fp,H7 b=fx)/\H7 s2.heap.objs.size=fx/\s7.heap.get? s2.heap.objs.size=fw {cls:=.type "list",data:=.seq ú.toArray nD}:=by intro bI H7 s7 J1;refine⟨T.keep _ _ _ st5 λb hb o e=>(J1.pin (b,o)<|É _<|É _<|ZX (â _ hb) e).1,λb hb=>?_,(J1.pin _<|É _<|É _ memD5).2.1,(J1.pin _<|É _<|É _ memD5).1⟩;let⟨o,e,d⟩:=T.obj _ _ st5 b hb;exact(J1.pin (b,o)<|É _<|É _<|ZX (â _ hb) e).2.1
   refine cv (hIY _ s6 _ H6 _ I6 q6) λok s7 ⟨H7,I7,q7⟩=>?_;cases ok with
   |false =>rw[hZ<|by decide]at q7;rw[hZ<|by decide];let⟨m',wm⟩:=hN _ _ _ q7;let⟨a1,a2,a3,a4⟩:=stay I7;exact aP I7.unpinned a1 a2 a3 rv ⟨nD,a4⟩ wm
   |true =>
    rw[hX rfl]at q7;rw[hX rfl];refine cv (hEY _ s7 _ H7 _ I7 q7) λz s8 ⟨vz,H8,I8,rz,wm⟩=>?_;let⟨m',wm⟩:=hN _ _ _ wm;let⟨a1,a2,a3,a4⟩:=stay I8;have hlen:=rv.length;refine wpAny_list_append_plain (hsz:=by rw[Ï];lia) (⟨nD,a4⟩:s8.heap.PlainList _ ú.toArray) λh9 hl9 hs9=>?_;let⟨q1,q2,q3,q4,q5,q6⟩:=fD a3;have I9:Inv Y [] _ H8 {s8 with heap:=h9}:=I8.unpinned.turned (t':=s8.toks) (λb o hb e=>hs9.extBut b o hb e) q1 q2 q4 q5 q6;refine aP I9 (T.keep _ _ _ a1 λb hb o e=>hs9.extBut b o (é<|hfp b hb) e) a2 a3 (its':=ú++[z]) (rv.append<|.cons rz .nil) ?_ wm;have e:ú.toArray.push z=(ú++[z]).toArray:=by simp
    rw[e]at hl9;exact hl9
 exact codeAny_compStart_list (loop _ rfl)<|T.self _ 0 _ _ _ (T.keep _ _ _ st2 λb hb o e=>Ϡ _ _<|df _ _ e)<|loop _ rfl
def DV(hc:X.calm=fy)(B:BlkOk X scope x þ)(hi:PI X bK ŷ wi)(hG:∀cl C s H ex,PG (Zt X scope (Yj X x þ) cl C s H ex) bK tg)(hI:∀cl C s H ex,PIfs (Zt X scope (Yj X x þ) cl C s H ex) bw tc)(hE:∀cl C s H ex,PE (Zt X scope (Yj X x þ) cl C s H ex) bX te)(hs:∀x,Ě ŷ X.env x=pure x:=by intro _;rfl):PE X (.ListComp bX [⟨bK,ŷ,bw,0⟩] scope í)<|Cr wi x.length þ tg tc te:=by
 k_sub;let⟨cl,aU,c1,c2⟩:=XN (scope:=scope) (env:=X.env) λy hy e=>I.ok.has y.1<|.inl<|B.frees y hy e;rw[eval_ListComp];refine dJ (use:=fx) rfl hs aU B.kind B.locs<|thn (hi Â s σ H _ I h) λv s1 h1=>thn h1 λitv s2 h2=>?_;let⟨it,fp,tn,J,H2,e,I2,T,st2,f2,W,⟨m0,w0⟩,cw⟩:=h2;subst e;refine Ml (RR:=λĶ C=>compPost ↥2 X.A X.xe fx (EP X Â σ Q) Ķ C) hc B I2 T st2 f2 c1 c2 hI hE hG w0 cw ?_;intro D C s' H' ys m hD hn fC I' fin;let⟨q1,q2,q3,q4,q5,q6⟩:=fC;exact⟨m,hn,λh' hs'=>⟨.ref D,_,I'.turned (t':=s'.toks) (λb o hb e=>hs'.extBut b o hb e) q1 q2 q4 q5 q6,rfl,fin D hD⟩⟩
def CQ{y:Str}{py:Pos}{i:Nat}{ϡ:Pos}(hN:X.N.Nodup)(hi':X.N[i]?=fw y)(hy:Loc X.env.scope y)(hc:X.calm=fy)(B:BlkOk X scope x þ)(hi:PI X bK ŷ wi)(hG:∀cl C s H ex,PG (Zt X scope (Yj X x þ) cl C s H ex) bK tg)(hI:∀cl C s H ex,PIfs (Zt X scope (Yj X x þ) cl C s H ex) bw tc)(hE:∀cl C s H ex,PE (Zt X scope (Yj X x þ) cl C s H ex) bX te)(hs:∀x,Ě ŷ X.env x=pure x:=by intro _;rfl)(hsw:η (.ListComp bX [⟨bK,ŷ,bw,0⟩] scope í) (fw<|.Name y py) ϡ.line X.env=pure fy:=by rfl)(hf:X.fn y=fy\/X.env.scope.names.lookup y=fw .local:=by first|exact .inl rfl|exact .inr rfl|assumption) :
  PS X (.Assign [.Name y py] (.ListComp bX [⟨bK,ŷ,bw,0⟩] scope í) ϡ) (RF (Cr wi x.length þ tg tc te)<|Ix i):=by
 intro Â s σ H D I h;let⟨cl,aU,c1,c2⟩:=XN (scope:=scope) (env:=X.env) λy hy e=>I.ok.has y.1<|.inl<|B.frees y hy e;rw[exec_Assign_Name_used _ _ _ _ hsw];refine À<|dD<|À ?_;show wpAny _ X.A (do let _<-comprehension (.ListComp bX [⟨bK,ŷ,bw,0⟩] scope í) scope X.env _ (newList []) fz (eval ŷ X.env) (fw<|χ (.Name y py) X.env)) _ _ s;refine À (į (dJ (use:=fw<|χ (.Name y py) X.env) (Q:=λ_ s'=>SP X Â D .next s') rfl hs aU B.kind B.locs
   (thn (hi Â s σ H _ I h) λv s1 h1=>thn h1 λitv s2 h2=>?_)) (λ_ s' hq=>È<|È hq) λ_ _ e=>e)
 let⟨it,fp,tn,J,H2,e,I2,T,st2,f2,W,⟨m0,w0⟩,cw⟩:=h2;subst e;refine Ml (RR:=λĶ C=>compPost ↥2 X.A X.xe (fw<|χ (.Name y py) X.env) (λ_ s'=>SP X Â D .next s') Ķ C) hc B I2 T st2 f2 c1 c2 hI hE hG w0 cw ?_;intro Dd C s' H' ys m hD hn fC I' fin;let⟨q1,q2,q3,q4,q5,q6⟩:=fC;show wpAny _ _ (χ (.Name y py) X.env<|.ref Dd) _ _ _;refine wpAny_assign_Name<|Mm I' hN hi' hy (v:=.ref Dd) rfl (λs2 I2 ⟨a,hs2,ha⟩=>?_) hf;have ne:C≠a:=by
  rcases ha with z|z
  .rw[z];exact q2
  .exact(q5 y a z).symm
 refine⟨m,hn.sameBut hs2 ne,λh' hs'=>?_⟩;exact⟨_,_,I2.turned (t':=s2.toks) (λb o hb e=>hs'.extBut b o hb e) q1 q2 q4 q5 q6,fin Dd hD⟩
end
mutual
inductive IsD (K:Frag) (H:Hp):V->ϸ->Prop
 |non:IsD K H .non .none
 |bl (b:Bool):IsD K H (.bl b)<|.bool b
 |int (i:Int):IsD K H (.int i)<|.int i
 |str (x:Str):IsD K H (.str x)<|.str x
 |lst {a:Ð}{xs:List V}{ds:List ϸ}:gT K H a xs->IsDs K H xs ds->IsD K H (.ref a) (.list ds)
 |tup {a:Ð}{xs:List V}{ds:List ϸ}:gU K H a xs->IsDs K H xs ds->IsD K H (.ref a) (.tuple ds)
inductive IsDs (K:Frag) (H:Hp):List V->List ϸ->Prop
 |nil:IsDs K H [] []
 |cons {x:V}{xs:List V}{d:ϸ}{ds:List ϸ}:IsD K H x d->IsDs K H xs ds->IsDs K H (x::xs) (d::ds)
end
section
mutual
theorem IsD.reads(I:Inv X Â σ H s):∀{v:V}{d:ϸ}{u:Ã},IsD X.K H v d->RelV v u->∃as,Reads s.heap u d as
 |_,_,_,.non,r=>by cases r;exact⟨_,.none⟩
 |_,_,_,.bl b,r=>by cases r;exact⟨_,.bool b⟩
 |_,_,_,.int i,r=>by let⟨t,rfl⟩:=r;exact⟨_,.int i t⟩
 |_,_,_,.str x,r=>by let⟨t,rfl⟩:=r;exact⟨_,.str x t⟩
 |_,_,_,.lst q qs,r=>by cases r;let⟨ú,rv,⟨o,n,e,c,_,d⟩,_⟩:=I.list q;let⟨as,ra⟩:=IsDs.reads I qs rv;exact⟨_,.list e c d<|by simpa using ra⟩
 |_,_,_,.tup q qs,r=>by cases r;let⟨ú,rv,⟨o,e,c,n,d⟩,_⟩:=I.tuple q;let⟨as,ra⟩:=IsDs.reads I qs rv;exact⟨_,.tuple e c d<|by simpa using ra⟩
theorem IsDs.reads(I:Inv X Â σ H s):∀{vs:List V}{ds:List ϸ}{us:List Ã},IsDs X.K H vs ds->gV vs us->∃as,ReadsAll s.heap us ds as
 |_,_,_,.nil,.nil=>⟨_,.nil⟩
 |_,_,_,.cons q qs,.cons r rs=>by let⟨as,ra⟩:=IsD.reads I q r;let⟨bs,rb⟩:=IsDs.reads I qs rs;exact⟨_,.cons ra rb⟩
end
end
def IsDs.ints{K:Frag}:∀ns:List Int,IsDs K H (ns.map V.int) (ns.map PyData.int)
 |[]=>.nil
 |n::ns=>.cons (.int n)<|IsDs.ints ns
section
abbrev Rf(K:Frag):R2:=λx y H Q=>∃d e,IsD K H x d/\IsD K H y e/\SeqAt.shaped d=fy/\SeqAt.shaped e=fy/\Q (.bl<|Ī d e) H
abbrev Rm(K:Frag):R2:=λx y H Q=>∃d e,IsD K H x d/\IsD K H y e/\SeqAt.shaped d=fy/\SeqAt.shaped e=fy/\Q (.bl (!Ī d e)) H
def La(hu:X.A.units+64<Ğ):OpR X (ð .Eq)<|Rf X.K:=by k_ne;let⟨d,e,hd,he,sd,se,q⟩:=h;let⟨as,ra⟩:=hd.reads I rx;let⟨bs,rb⟩:=he.reads I ry;exact SeqAt.compareEq_shaped ra rb sd se hu ⟨.bl _,H,I,rfl,q⟩
def Qg(hu:X.A.units+64<Ğ):OpR X (ð .NotEq)<|Rm X.K:=by k_ne;let⟨d,e,hd,he,sd,se,q⟩:=h;let⟨as,ra⟩:=hd.reads I rx;let⟨bs,rb⟩:=he.reads I ry;exact SeqAt.compareNe_shaped ra rb sd se hu ⟨.bl _,H,I,rfl,q⟩
inductive TyV (K:Frag) (H:Hp):V->Ã->Prop
 |of {x:V}{t:Ã}:gO K H x t->TyV K H x t
 |tup {a:Ð}{xs:List V}:gU K H a xs->TyV K H (.ref a) (.type "tuple")
 |lst {a:Ð}{xs:List V}:gT K H a xs->TyV K H (.ref a) (.type "list")
def Dm:fM X (.builtin "isinstance") λxs H Q=>∃x T t b,xs=[x,.ty T]/\TyV X.K H x t/\PySem.W.kitOne X.K t (.type T)=fw b/\Q (.bl b) H:=by
 k_put;let⟨x,T,t,b,rfl,ty,e,q⟩:=h;let⟨u,v,rfl,ru,rv⟩:=UQ r;cases rv;cases ty with
 |of ty=>exact Av I ru ty e λtk=>⟨.bl b,H,I.tok tk,rfl,q⟩
 |tup hq =>cases ru;let⟨ú,_,⟨o,h1,h2,_⟩,_⟩:=I.tuple hq;exact PySem.W.kia_one PySem.W.kitx_tuple I.kIn ⟨o,h1,h2⟩ e (λz=>nomatch z) λtk=>⟨.bl b,H,I.tok tk,rfl,q⟩
 |lst hq =>cases ru;let⟨ú,_,⟨o,n,h1,h2,_⟩,_⟩:=I.list hq;exact PySem.W.kia_one PySem.W.kitx_list I.kIn ⟨o,h1,h2⟩ e (λz=>nomatch z) λtk=>⟨.bl b,H,I.tok tk,rfl,q⟩
def Ck(hc:X.calm=fy):fM X (.builtin "all") λxs H Q=>∃p,∃bs:List Bool,xs=[.ref p]/\gT X.K H p (bs.map V.bl)/\Q (.bl<|bs.all id) H:=by
 k_put;let⟨p,bs,rfl,hq,q⟩:=h;let⟨u,rfl,rx⟩:=ZU r;cases rx;let⟨ú,rv,pl,hz⟩:=I.list hq;have hlen:=rv.length;rw[Á]at hlen;have Ϭ:p<s.heap.objs.size:=by let⟨o,n,e,_⟩:=pl;exact Ü e
 refine call_all_walk<|ϑ pl.isList ?_;refine⟨s.heap.objs.size,_,_,ú.toArray.size,_,_,λi=>bs.getD i fy,rfl,Walks.list (A:=X.A.in1) (I.ok.hd hc) s.heap.objs.size p (é Ϭ) ú.toArray,⟨⟨_,Ø _ rfl,rfl,rfl⟩,pl.isList.push _⟩,?_,λh' tk hk=>?_⟩
 .intro i v s' Q' E' hP hQ;have hP:ú[i]?=fw v:=⇑hP
  have hb:(bs.map V.bl)[i]?=fw (.bl<|bs.getD i fy):=by
   have hi:i<bs.length:=by have:=(Ó.mp hP).1;lia
   rw[Ú,Ĕ];simp[hi]
  let⟨u,hu,ru⟩:=rv.get hb;rw[hP]at hu;cases hu;cases ru;exact Ē hQ
 .have e:(List.range ú.toArray.size).all (λi=>bs.getD i fy)=bs.all id:=by
   rw[Ï,<-hlen,aR,ą,ą];constructor
   .intro h b hb;let⟨i,hi,rfl⟩:=List.mem_iff_getElem.mp hb;have:=h i<|ŏ.mpr hi;rw[Ĕ,Ê hi]at this;exact this
   .intro h i hi;have hi:=ŏ.mp hi;rw[Ĕ,Ê hi];exact h _<|ķ hi
  rw[e];refine⟨.bl _,H,I.kept (t':=tk) λb o e=>hk b o (λhm=>?_)<|Ä _ e,rfl,q⟩;have:b=s.heap.objs.size:=⇑hm
  exact ij (this▸Ü e)<|Ģ _
abbrev sortI(ns:List Int):List Int:=ns.mergeSort λa b=>ik (a<=b)
def X5(ns:List Int):(sortI ns).Perm ns:=Ŭ ns _
def N8(ns:List Int):(sortI ns).Pairwise (·<=·):=by have h:=bZ (le:=λa b:Int=>ik (a<=b)) (λa b c h1 h2=>by simp at *;lia) (λa b=>by simp;lia) ns;exact h.imp λh=>⇑h
variable {ms:List Int}
def YS(hp:ms.Perm ns)(hs:ms.Pairwise (·<=·)):ms=sortI ns:=PySem.W.ksm_same (hp.trans (X5 ns).symm) hs (N8 ns)
def Kw(hp:ms.Perm ns):sortI ms=sortI ns:=YS ((X5 ms).trans hp) (N8 ms)
def YH(ns:List Int):(sortI ns).length=ns.length:=(X5 ns).length_eq
def YR:∀{vs:List Ã}{ns:List Int},ā vs ns->gV (ns.map V.int) vs:=WE
def call_sorted:fM X (.builtin "sorted") λxs H Q=>∃p,∃ns:List Int,xs=[.ref p]/\gT X.K H p (ns.map V.int)/\ns.length<64/\∀l,H l=fx->Q (.ref l) (upd H l<|.lst<|(sortI ns).map V.int):=by k_put;let⟨p,ns,rfl,hq,h64,q⟩:=h;let⟨u,rfl,rx⟩:=ZU r;cases rx;let⟨ú,rv,pl,hz⟩:=I.list hq;have hlen:=rv.length;rw[Á]at hlen;refine sorted_ints pl.isList (ZA rv) ↥0 λout cx a1 a2 a3=>?_;have e:=YS a2 a3;subst e;let⟨n,he⟩:=sortedAll_at s.heap ú out;refine⟨.ref<|s.heap.objs.size+1,_,I.laid (a:=s.heap.objs.size+1) (o:=.lst<|(sortI ns).map V.int) (t':=s.toks) (λb o e=>sortedAll_old e) (ň _) ?_,rfl,q _<|I.hok.fresh<|ň _⟩;exact⟨by rw[Á,YH];rw[Á]at hz;exact hz,out.toList,n,YR a1,by simpa[ψ]using he⟩
def CH:fM X (.type "set") (λxs H Q=>∃p,∃ns:List Int,xs=[.ref p]/\gT X.K H p (ns.map V.int)/\ns.length<4000/\X.calm=fy/\
    ∀l S n,H l=fx->n=(ν (λi=>ns.getD i 0) ns.length).length->Q (.ref l) (upd H l<|.set S n)):=by
 k_put;let⟨p,ns,rfl,hq,h4,hc,q⟩:=h;let⟨u,rfl,rx⟩:=ZU r;cases rx;let⟨ú,rv,pl,hz⟩:=I.list hq;have hlen:=rv.length;rw[Á]at hlen;refine call_set_list (I.ok.hd hc) pl.isList (by simpa using ZA rv) (by rw[Ï];show ú.length+1<4096;lia) λh' tk hS hk=>?_;refine⟨.ref s.heap.objs.size,_,I.laid (a:=s.heap.objs.size) (o:=.set _ _) (t':=tk) (λb o e=>hk b o (Ü e) e) (Ì _) hS,rfl,q _ _ _ (I.hok.fresh<|Ì _) ?_⟩;rw[Ï,hlen]
def A9:fM X (.builtin "len") λxs H Q=>∃p S n,xs=[.ref p]/\H p=fw (.set S n)/\Q (.int n) H:=by
 k_put;let⟨p,S,n,rfl,hq,q⟩:=h;let⟨u,rfl,rx⟩:=ZU r;cases rx;let⟨o,es,ep,t,e,hex,hd,_,_,hb,hf,hn⟩:=(show fN X.prog X.w H s.heap p (.set S n) from I.hok p _ hq)
 subst hn;exact call_len_set e hex hd hf (by have:es.size<4096:=hb;lia) ⟨.int _,H,I.tok _,⟨_,rfl⟩,q⟩
end
section
variable {x:Str}{p í:Pos}{e:Expr}{t:TA}
def Rq(hg:Gl X x)(hm:X.mg x=fx)(hv:š x=fw (.type T))(hn:x≠"__name__":=by decide)(hd:(x==("__debug__" : Str))=fz:=by decide):PE X (.Name x í)<|tC<|.ty T:=F9 hg hm hv rfl hn hd
end
abbrev YI(scope sc:ς)(N:List Str)(x:List Str)(þ:List Nat):Bool :=
 scope.names.all (λy=>y.2 != .cell)&&scope.names.all (λy=>y.2 != .local||scope.names.lookup y.1==fw .local)&&x.all (λy=>scope.names.lookup y==fw .local) &&
 scope.names.all (λy=>y.2 != .free||sc.names.lookup y.1==fw .cell) &&
 þ.all (λj=>ik (j<N.length)&&sc.names.lookup (N.getD j Str.empty)==fw .cell&&scope.names.lookup (N.getD j Str.empty)==fw .free)&&ik (x++þ.map λj=>N.getD j Str.empty).Nodup
def OD(hsc:X.env.scope=sc)(hN:X.N=N)(hk:scope.kind=.function)(h:YI scope sc N x þ=fy):BlkOk X scope x þ:=by
 unfold YI at h;simp![bAq]at h;let⟨⟨⟨⟨⟨h1,h2⟩,h3⟩,h4⟩,h5⟩,h6⟩:=h;rw[ą]at h1 h2 h4 h5;refine⟨hk,λy hy=>by simpa using h1 y hy,λy hy e=>?_,λy hy=>by simpa using ą.mp h3 y hy,λy hy e=>?_,λj hj=>?_,?_⟩
 .have:=h2 y hy;rw[e]at this;simpa using this
 .have:=h4 y hy;rw[e]at this;show X.env.scope.names.lookup y.1=_;rw[hsc];simpa using this
 .have:=h5 j hj;simp![bAq,ii,beq_iff_eq]at this;let⟨⟨a,b⟩,c⟩:=this;refine⟨?_,?_,?_⟩
  .rw[hN,Ê a];rfl
  .show X.env.scope.names.lookup _=_;rw[hsc,hN];exact b
  .rw[hN];exact c
 .unfold Yj;rw[hN];exact of_decide_eq_true h6
abbrev f9(r:Ð)(H H':Hp):Prop:=∀b o,H b=fw o->b≠r->H' b=fw o
def f9.refl(r:Ð)(H:Hp):f9 r H H:=λ_ _ h _=>h
def f9.trans(a:f9 r H H1)(b:f9 r H1 H2):f9 r H H2:=λc o h n=>b c o (a c o h n) n
noncomputable abbrev Tie:=Int×Int×Int
variable {c:Bool}{A:Prop}{B:Prop}
def gK(e:c=fy)(h:A):if c=fy then A else B:=by rw[hX e];exact h
def gL(e:c=fz)(h:B):if c=fy then A else B:=by rw[e,hZ Ă];exact h
structure BrOk(ns:List Int):Prop where
 one:1<=ns.length
 ten:ns.length<=10
 rng:∀n∈ns,0<=n/\n<=999
 nd:ns.Nodup
structure TieOk(ns:List Int)(t:Tie):Prop where
 a:t.1∈ns
 b:t.2.1∈ns
 ne:t.1≠t.2.1
 lo:1<=t.2.2
 hi:t.2.2<=1000
structure TsOk(ns:List Int)(ts:List Tie):Prop where
 few:ts.length<=16
 each:∀t∈ts,TieOk ns t
abbrev mn(x y:Int):Int:=if y<x then y else x
section
variable {X:Cx}(K:Frag)(h:X.K=K)
include h
end
section
variable {prog:è}{w:ÿ}{A:Ď}{E:Ã->Æ->Prop}{s:Æ}
variable {it:Ð}{i:Nat}{items:Array Ã}{Q:Ã->Æ->Prop}
def OR(hit:s.heap.IsTupleIter it t i)(ht:s.heap.IsTuple t items)(hx:items[i]?=fw x)(hQ:∀h',h'.IsTupleIter it t (i+1)->ź it s.heap h'->Q x {s with heap:=h'}):wpAny (á prog w) A (Builtin.SmallTypes.nextOf<|.ref it) Q E s:=by
 let⟨o,ho,hc,hd⟩:=id hit;let⟨ot,hot,_,nt,hdt⟩:=ht;unfold Builtin.SmallTypes.nextOf;refine À<|ĳ (name:=im "__next__") hit.typeIs F.slot_tuple_iterator_next<|Ė F.slot_tuple_iterator_next hit.typeIs F.entry_tuple_iterator_next ?_<|F.args_tuple_iterator_next_1 _;show wpAny _ _ (field (.ref it) 0 >>= _) _ _ s;refine À<|ō ho hd (x:=.ref t) rfl ?_;show wpAny _ _ (if(Value.ref t==Value.none)=fy then _ else _) _ _ s;rw[hZ<|show ¬ ((Value.ref t==Value.none)=fy) from Ă];show wpAny _ _ (field (.ref it) 1 >>= _) _ _ s;refine À<|ō ho hd (x:=.int i 0) rfl ?_;show wpAny _ _ (ai (.ref t) >>= _) _ _ s;refine À<|ś hot hdt ?_;simp![ç,hx];refine À (ń ho hd (by simp)<|È ⟨x,rfl,È<|hQ _ ⟨_,ę _ ho<|dk<|Κ hd _,(Obj.cls_mapFields ..).trans hc,?_⟩<|ć ..⟩);rw[Κ hd];simp[Ĩ]
def KD(hh:A.handled=fx)(hit:s.heap.IsTupleIter it t i)(ht:s.heap.IsTuple t items)(hx:items[i]?=fx)(hE:∀h' e,Heap.ExtBut it s.heap h'->(∃o,h'.get? e=fw o/\o.cls=.type "StopIteration")->E (.ref e) {s with heap:=h'}):wpAny (á prog w) A (Builtin.SmallTypes.nextOf<|.ref it) Q E s:=by
 let⟨o,ho,hc,hd⟩:=id hit;let⟨ot,hot,_,nt,hdt⟩:=ht;unfold Builtin.SmallTypes.nextOf;refine À<|ĳ (name:=im "__next__") hit.typeIs F.slot_tuple_iterator_next<|Ė F.slot_tuple_iterator_next hit.typeIs F.entry_tuple_iterator_next ?_<|F.args_tuple_iterator_next_1 _;show wpAny _ _ (field (.ref it) 0 >>= _) _ _ s;refine À<|ō ho hd (x:=.ref t) rfl ?_;show wpAny _ _ (if(Value.ref t==Value.none)=fy then _ else _) _ _ s;rw[hZ<|show ¬ ((Value.ref t==Value.none)=fy) from Ă];show wpAny _ _ (field (.ref it) 1 >>= _) _ _ s;refine À<|ō ho hd (x:=.int i 0) rfl ?_;show wpAny _ _ (ai (.ref t) >>= _) _ _ s;refine À<|ś hot hdt ?_;simp![ç,hx];refine À (Ϧ<|À<|ń ho hd (by simp) ?_);show wpAny _ _ (newExc (.type "StopIteration") [] >>= _) _ _ _;refine À ?_;simp![newExc,newTuple];refine À (ċ (À (m:=Ϲ _ _)<|bN (a:=Value.none) (by first|rfl|(simp![Ϲ];rfl))<|ċ ?_<|by size_fits)<|by size_fits);simp![raiseNew];refine À<|wpAny_handled ?_
 first
 |rw[show A.in1.handled=fx from hh]
 |rw[hh]
 exact À<|È<|wpAny_throw<|hE _ _ (((ć ..).extBut.push _).push _) ⟨_,Ø _ rfl,rfl⟩
end
variable {A:Ď}
def Lj(hh:A.handled=fx)(it t:Ð)(ſ:t≠it)(items:Array Ã) :
  Draws prog w A it [it,t] items.size (λi v=>items[i]?=fw v) (λi h=>h.IsTupleIter it t i/\h.IsTuple t items) where
 live:=λ_ _ st=>let ⟨o,ho,_⟩:=st.1;⟨o,ho⟩
 frame:=λ_ _ _ st hk=>⟨st.1.at λo e=>hk it (by simp) o e,st.2.at λo e=>hk t (by simp) o e⟩
 item:=λi s Q E hi st hQ=>OR st.1 st.2 (x:=items[i]) (by simp[hi]) λh' hit' hs'=>hQ _ h' s.toks (by simp[hi]) ⟨hit',st.2.extBut hs'.extBut ſ⟩ hs'
 done:=λs Q E st hE=>KD hh st.1 st.2 (by simp) hE
open AutoSeq1 (wpAny_loadPart') in
def Pu(l:Ð)(items:Array Ã)(n:Nat)(dct:Option Ð)(sl:Array<|Option Ã) :
  Meets (Builtin.«enumerate.__new__» ⟨[.type "enumerate",.ref l],[]⟩) (λ_ R s=>s.heap.get? l=fw { cls:=.type "tuple",dict:=dct,data:=.seq items n,slots:=sl }/\
    R (.ok<|.ret<|.ref (s.heap.push {cls:=.type "tuple_iterator",data:=.fields #[.ref l,.int 0 0]}).objs.size)
      { s with heap:=(s.heap.push { cls:=.type "tuple_iterator",data:=.fields #[.ref l,.int 0 0] }).push { cls:=.type "enumerate",data:=.fields #[.none,.bool fz,.ref s.heap.objs.size,Ĩ 0,.none,.none] } }) :=
 .of_wp λprog w A R s h=>by
  let⟨hp,g,d,tk,os⟩:=s;let⟨hl,h⟩:=h;have hsub:=sub_enumerate;have hL:Heap.IsTuple (Shared.heap ⟨hp,g,d,tk,os⟩) l items:=⟨_,hl,rfl,n,rfl⟩
  wp_walk using ě hl
  refine wpAny_stack_any λst=>È ?_;split
  .rename_i c _ _ _ _ _;cases (c==Value.type "enumerate")<;>(wp_walk using ě hl,aD hL;exact⟨_,rfl,h⟩)
  .wp_walk using ě hl,aD hL;exact⟨_,rfl,h⟩
def O9{E:Ã->Æ->Prop}{s:Æ}{l:Ð}{items:Array Ã}{Q:Ã->Æ->Prop}(hL:s.heap.IsTuple l items)
  (h:∀h',IsEnum h' (s.heap.objs.size+1) s.heap.objs.size 0 .none->h'.IsTupleIter s.heap.objs.size l 0->(∀b o,s.heap.get? b=fw o->h'.get? b=fw o)->Q (.ref<|s.heap.objs.size+1) {s with heap:=h'}) :
  wpAny (á prog w) A (call (.type "enumerate") [.ref l]) Q E s:=by
 let⟨⟨c,dct,dt,sl⟩,hl,hc,n,hd⟩:=hL;simp only at hc hd;subst hc hd;refine callType_new F.called_enumerate ↥1 (F.typeCall_enumerate_1 _) (F.newCall_enumerate_1 _) (λobj=>F.args_object_init_2 obj _) F.entry_enumerate_new (Pu l items n dct sl) ⟨hl,?_⟩;have hz:(s.heap.push {cls:=.type "tuple_iterator",data:=.fields #[.ref l,.int 0 0]}).objs.size=s.heap.objs.size+1:=Ż ..;have hg:=Ø (s.heap.push {cls:=.type "tuple_iterator",data:=.fields #[.ref l,.int 0 0]}) (o:={cls:=.type "enumerate",data:=.fields #[.none,.bool fz,.ref s.heap.objs.size,Ĩ 0,.none,.none]}) rfl;rw[hz]at hg;show _/\_;rw[hz];exact⟨⟨_,hg,rfl⟩,h _ hg ⟨_,Ä _<|Ø _ rfl,rfl,rfl⟩ λb o x=>Ä _<|Ä _ x⟩
section
def Inv.turnedL{t':Nat}{ch:List Ð}(I:Inv X Â σ H s)(k:∀b o,b∉ch->s.heap.get? b=fw o->h'.get? b=fw o)(hc:∀b∈ch,Wz X Â H b):Inv X Â σ H {s with heap:=h',toks:=t'}:=by
 have nit:∀b u,H b=fw u->b∉ch:=λb u e z=>by rw[(hc b z).1]at e;cases e
 refine I.step (g':=s.gens) (d':=s.drawn) (ch:=ch) (λb hb=>?_) (λb o _ _ hcb e _=>k b o hcb e) (λb o _ _ hcb e _=>⟨o.slots,k b o hcb e⟩) (λ_ _ _ _ n=>n)
  (λb o hcb e=>⟨o,k b o hcb e⟩) (λ_ _ e=>e) (λ_ _ _ e=>e) (λb ps e=>⟨#[],by rw[e];simp⟩) (λm hm=>?_) (λb u e=>?_) I.bare
 .obtain⟨_,q2,_,q4,q5,q6⟩:=hc b hb;exact⟨q4,q2,q5,q6⟩
 .obtain⟨o,es,ep,ho,r⟩:=hm;exact⟨o,es,ep,k _ o (λz=>(hc _ z).2.1 rfl) ho,r⟩
 .refine(I.hok b u e).stay (λc v hcc q=>k c v ?_ q) (λ_ q=>q) λ_ _ q=>q;rcases hcc with z|z
  .rw[z];exact nit b u e
  .exact nit c _ z
def Inv.track(I:Inv X Â σ H s)(hT:H T=fx)(h0:X.s₀.heap.objs.size<=T)(hL:T≠X.env.locals)(aU:∀x c,X.env.cells.lookup x=fw c->c≠T)(hp:∀p∈X.pn++Â,p.1≠T)(new:fN X.prog X.w (upd H T o) s.heap T o):Inv X Â σ (upd H T o) s:=by
 have neT:∀b ob,X.s₀.heap.get? b=fw ob->b≠T:=λb ob e=>é<|ê (Ü e) h0;refine⟨I.ok,I.os,I.bare,⟨I.base.keep,I.base.slot,λb ob e n hx=>?_,I.base.there,λb xs e=>?_,λb ob xs e=>?_,λb ps e=>?_⟩,I.loc,I.cell,?_,λx c e=>?_,λp hpp=>?_,I.hok.track hT new,I.len⟩
 .rw[fA<|neT b ob e];exact I.base.free b ob e n hx
 .have q:=I.base.tups b xs e;rw[fA<|Zj q hT];exact q
 .have q:=I.base.frzs b ob xs e;rw[fA<|Zj q hT];exact q
 .obtain⟨m,q⟩:=I.base.tbls b ps e;exact⟨m,by rw[fA<|Zj q hT];exact q⟩
 .rw[fA hL.symm];exact I.free
 .rw[fA<|aU x c e];exact I.freeC x c e
 .obtain⟨a,b,c,d,e⟩:=I.pin p hpp;exact⟨a,by rw[fA<|hp p hpp];exact b,c,d,e⟩
end
abbrev Ite(K:Frag)(a:Ð):It :=
 ⟨λi H=>∃xs x,gU K H a xs/\xs[i]?=fw x,λi H v H'=>∃p,v=.ref p/\H p=fx/\∀xs x,gU K H a xs->xs[i]?=fw x->H'=upd H p (.tup [.int i,x]),λi H=>∃xs,gU K H a xs/\xs.length<=i⟩
variable {kk:Nat}{tp:Pos}
def O5{P:è}{K:Frag}(a it e:Ð)(ſ:e≠it) :
  Turn P w K (.Tuple es kk tp) (Ite K a) [e,it] e (λi h=>(∃Ϡ,IsEnum h e it i Ϡ)/\h.IsTupleIter it a i) where
 mem:=by simp
 obj:=λi h st b hb=>by
  let⟨⟨Ϡ,h1⟩,o2,e2,_,d2⟩:=st;rcases Ç.mp hb with q|q
  .subst q;exact⟨_,h1,λv z=>by cases z⟩
  .have q:b=it:=⇑q
   subst q;exact⟨o2,e2,λv z=>by rw[d2]at z;cases z⟩
 keep:=λi h h' st k=>⟨let ⟨Ϡ,h1⟩:=st.1;⟨Ϡ,k e (by simp) _ h1⟩,st.2.at λo q=>k it (by simp) o q⟩
 item:=by
  k_upd;subst hP hw hK;let⟨xs,x,hq,hx⟩:=hg;let⟨ú,rv,pl,hz⟩:=I.tuple hq;let⟨u,hu,ru⟩:=rv.get hx;have hsz:=rv.length;have hi:i<ú.toArray.size:=by rw[Ï];exact(Ó.mp hu).1
  let⟨⟨Ϡ,h1⟩,h2⟩:=st;have hfi:=hf it (by simp);have hai:a≠it:=λz=>by let⟨o,ho,aU,_⟩:=h2;let⟨o',aA,hcl',_⟩:=pl;rw[z,ho]at aA;cases aA;rw[aU]at hcl';exact ij (aj hcl') ↥1
  have hae:e∉[it,a]:=λz=>by
   rcases Ç.mp z with z|z
   .exact ſ z
   .have z:e=a:=⇑z
    let⟨o',aA,hcl',_⟩:=pl;rw[<-z,h1]at aA;cases aA;exact ij (aj hcl') ↥1
  refine wpAny_pyNext_enum_itemD (Lj (A:=X.A.in1) (I.ok.hd hc) it a hai ú.toArray) h1 ⟨h2,pl⟩ hi ſ hae λv h3 tk hv hout hst3 hT _ hk=>?_;have ev:v=u:=by
   have hv:ú[i]?=fw v:=⇑hv
   rw[hu]at hv;exact(æ hv).symm
  subst ev;have nT:∀b∈[e,it],s.heap.objs.size≠b:=λb hb z=>by
   rcases Ç.mp hb with q|q
   .exact ij (Ü h1) (by rw[<-q,<-z];exact Ģ _)
   .have q:b=it:=⇑q
    let⟨o,ho,_⟩:=h2;exact ij (Ü ho) (by rw[<-q,<-z];exact Ģ _)
  have aV:=I.fpOk (H':=H) (Ì s.heap.objs.size) I.fresh;refine⟨.ref s.heap.objs.size,rfl,wpAny_letOwnedTupleGo_enum hout λh4 he4 hs4=>?_⟩;have I4:Inv X Â σ H {s with heap:=h4,toks:=tk+1}:=I.turnedL (t':=tk+1) (ch:=[e,it]) (λb o hb q=>hs4.extBut b o (λz=>hb<|by simp[z])<|hk b o (λz=>hb<|by simp[z]) (λz=>hb<|by simp[z]) q) hf;have hT4:h4.get? s.heap.objs.size=fw {cls:=.type "tuple",data:=.seq #[.int i tk,v]}:=hs4.extBut _ _ (nT e<|by simp) hT;let⟨f0,f1,f2,f3,f4,f5⟩:=aV;have I5:Inv X Â σ (upd H s.heap.objs.size<|.tup [.int i,x]) {s with heap:=h4,toks:=tk+1}:=I4.track f0 I.sz f1 f4 f5 ⟨by show 2<=à;decide,[.int i tk,v],.cons ⟨tk,rfl⟩<|.cons ru .nil,_,hT4,rfl,_,rfl⟩;refine⟨.ref s.heap.objs.size,_,I5,rfl,⟨s.heap.objs.size,rfl,f0,λys y hy hyi=>?_⟩,⟨⟨v,⇑he4⟩,hst3.1.at λo q=>hs4.extBut it o (Ne.symm ſ) q⟩,λb hb=>?_⟩
  .have ey:ys=xs:=I.tuple_inj hy hq;rw[ey,hx]at hyi;rw[æ hyi]
  .rw[fA (nT b hb).symm];exact(hf b hb).1
 done:=by
  k_upd;subst hP hw hK;let⟨xs,hq,hx⟩:=hg;let⟨ú,rv,pl,hz⟩:=I.tuple hq;have hl:=rv.length;let⟨⟨Ϡ,h1⟩,h2⟩:=st;have hai:a≠it:=λz=>by let⟨o,ho,aU,_⟩:=h2;let⟨o',aA,hcl',_⟩:=pl;rw[z,ho]at aA;cases aA;rw[aU]at hcl';exact ij (aj hcl') ↥1
  have hT:s.TypeIs (.ref e) "enumerate":=⟨_,h1,rfl⟩
  unfold ϗ;refine À<|wpAny_attempt<|ĳ (name:=im "__next__") hT F.slot_enumerate_next<|Ė F.slot_enumerate_next hT F.entry_enumerate_next ?_<|F.args_enumerate_next_1 _;show wpAny _ _ (field (.ref e) 2 >>= _) _ _ _;refine À<|ō h1 rfl (x:=.ref it) rfl ?_;refine À (KD (A:=X.A.in1) (I.ok.hd hc) h2 pl (by simp;lia) λh' x he' hx'=>?_);let⟨o,ho,aU⟩:=hx';refine À<|bE (T:="StopIteration") (b:=fy) ⟨o,ho,aU⟩ isSubtype_stop<|È ⟨rfl,?_⟩;exact I.turnedL (t':=s.toks) (ch:=[it]) (λb ob hb q=>he' b ob (λz=>hb<|by simp[z]) q) λb hb=>hf b<|â _ hb
 self:=λA i s Q E st h=>by let⟨⟨Ϡ,h1⟩,_⟩:=st;exact wpAny_pyIter_enum h1 h
section
abbrev Pq(K:Frag)(ta:TA):TI:=λσ H R=>ta σ H λvs H1=>∃a,vs=[.ref a]/\(∃xs,gU K H1 a xs)/\R (Ite K a) H1
def Dn(hg:Gl X "enumerate")(hm:X.mg "enumerate" = fx)(ha:PA X [e] ta)(hs:Ý [e] X.env=[(fz,eval e X.env)]:=by rfl) :
  PI X (.Tuple es kk tp) (.Call (.Name "enumerate" p) [e] [] í) (Pq X.K ta):=by
 intro Â s σ H R I h;refine Call_ (YM (u:=.type "enumerate") I hg hm (by kernel_rfl)<|PyProof.Rows.callWith_type1 (T:="enumerate") (thn (ha í Â s σ H _ I h) λus s1 ⟨vs,H1,I1,r1,q1⟩=>?_) hs rfl);let⟨a,e1,⟨xs,hq⟩,q⟩:=q1;subst e1;let⟨u,rfl,ru⟩:=ZU r1;cases ru;let⟨ú,rv,pl,hz⟩:=I1.tuple hq;refine O9 pl λh2 he2 dB hk2=>?_;have I2:Inv X Â σ H1 {s1 with heap:=h2}:=I1.kept (t':=s1.toks) hk2;refine wpAny_pyIter_enum he2 ⟨s1.heap.objs.size+1,[s1.heap.objs.size+1,s1.heap.objs.size],_,_,H1,rfl,I2,O5 a s1.heap.objs.size (s1.heap.objs.size+1)<|Ū<|Į _,⟨⟨_,he2⟩,dB⟩,λb hb=>?_,q⟩;have bJ:s1.heap.objs.size<=b:=by
  rcases Ç.mp hb with z|z
  .rw[z];exact ň _
  .have z:b=s1.heap.objs.size:=⇑z
   rw[z];exact Ì _
 exact I1.fpOk bJ<|I1.hok.fresh bJ
end
end L2
namespace L2
open PySem PySem.Spec PyProof.Rows
open PySem.Builtin PySem.Builtin.Str
noncomputable abbrev TJ:=St->Hp->Str->(Str->Hp->Prop)->Prop
abbrev PJ(X:Cx)(vs:List Expr)(t:TJ):Prop :=
 ∀(Â:List<|Ð×Obj) (s:Æ) (σ:St) (H:Hp) (Ķ:Str) (Q:Str->Hp->Prop),Inv X Â σ H s->t σ H Ķ Q->
  Joins ↥2 X.A X.xe (evalEach vs X.env) Ķ (λout s1=>∃H1,Inv X Â σ H1 s1/\out.length<=à/\Q out H1) s
section
variable {e:Expr}{í:Pos}
def Joins.imp:∀{ps:List (Sem Ã)}{Ķ:Str}{Q Q':Str->Æ->Prop}{s:Æ},(∀o s,Q o s->Q' o s)->Joins M A E ps Ķ Q s->Joins M A E ps Ķ Q' s
 |[],_,_,_,_,f,h=>f _ _ h
 |_::_,_,_,_,_,f,h=>thn h λv s1 ⟨y,t,e,hz,hr⟩=>⟨y,t,e,hz,Joins.imp f hr⟩
end
abbrev wT:Str:="tie"
structure f8(bs:List Int)(ts:List Tie):Prop where
 br:BrOk bs
 ti:TsOk bs ts
 so:sortI bs=bs
 lo:ts.map loT=ts
end L2
namespace L2
open PySem PySem.Spec PyProof.Rows
variable {h:Č}{a:Ð}
def fN.obj(x:fN P w H h a o):∃u,h.get? a=fw u:=by
 cases o with
 |lst xs=>let⟨_,_,_,_,e⟩:=x;exact⟨_,e⟩
 |tup xs=>let⟨_,_,_,ob,e,_⟩:=x;exact⟨_,e⟩
 |dK kvs=>let⟨_,_,_,_,o,_,_,e,_⟩:=x;exact⟨_,e⟩
 |dT kvs=>let⟨_,_,_,_,o,_,_,e,_⟩:=x;exact⟨_,e⟩
 |set S n=>let⟨o,_,_,_,e,_⟩:=x;exact⟨_,e⟩
 |ins C dx fs=>let⟨_,_,_,e,_⟩:=x;exact⟨_,e⟩
 |own y=>exact x
 |xd fs=>let⟨_,⟨_,_,_,e,_⟩,_⟩:=x;exact⟨_,e⟩
 |rng lo hi=>let⟨_,_,_,e⟩:=x;exact⟨_,e⟩
 |frz ob u=>exact⟨_,x.1⟩
 |tbl ps=>exact⟨_,(show h.get? a=fw _ from x)⟩
 |met f y=>exact⟨_,(show h.get? a=fw _ from x)⟩
 |ext φ=>exact x.2.1
abbrev Go(h:Č)(a:Ð)(cls:Ã)(T:Option Ð):Prop :=
 ∃oe vs a0,h.get? a=fw oe/\oe.cls=cls/\oe.data=.fields vs/\vs[0]?=fw a0/\
  match T with
  |none=>vs[1]?=fw .none
  |some T=>vs[1]?=fw (.ref T)/\T≠a/\∃oT ts fl,h.get? T=fw oT/\oT.data=.fields ts/\ts[3]?=fw fl
structure Fl(P:è)(w:ÿ)(l:List Env)(H:Hp)(s:Æ)(H':Hp)(a:Ð)(cls:Ã)(s':Æ):Prop where
 os:s'.os=s.os
 bare:ώ s'.gens
 un:Un (frs l) [] H H' s.heap s'.heap
 hok:HOk P w H' s'.heap
 na:s.heap.get? a=fx
 ha:H' a=fx
 ex:∃T,Go s'.heap a cls T/\∀t,T=fw t->s.heap.get? t=fx/\H' t=fx
abbrev CX1(P:è)(w:ÿ):CXT:=λl H s E e s'=>∃a cls H',e=.ref a/\Fl P w l H s H' a cls s'/\E cls fx H'
abbrev XW(X:Cx)(E:XK):Prop:=∀(Â:List<|Ð×Obj) (σ:St) (H:Hp) (s:Æ) (H':Hp) (a:Ð) (cls:Ã) (s':Æ),
 Inv X Â σ H s->Fl X.prog X.w X.stack H s H' a cls s'->E cls fx H'->X.xe (.ref a) s'
def XW.passes(h:XW X E):Xd (CX1 X.prog X.w) X E:=λÂ σ H s e s' I ⟨a,cls,H',z,f,q⟩=>by subst z;exact h Â σ H s H' a cls s' I f q
section
variable {M:Model}{B:Č}{env:Env}{outer:List Env}{L a:Ð}{T:Option Ð}
abbrev Xi(h:Č)(l:List Env)(a:Ð)(T:Option Ð):Č:=PySem.W.hideAll h<|a::(T.toList++frs l)
def YZ(h:Č)(l:List Env)(a:Ð)(T:Option Ð):(Xi h l a T).StaysIn h:=λb o e=>PySem.W.of_hideAll _ e
def JF(a:Ð)(T:Option Ð)(hl:h.FunFrames B l):h.FunFrames (Xi h l a T) l :=
 PySem.W.funFrames_hide hl λe he b hb=>â _<|É _<|Ŗ.mpr ⟨e,he,hb⟩
def UV(h:Č)(l:List Env)(a:Ð)(T:Option Ð):(Xi h l a T).get? a=fx:=PySem.W.hideAll_none _ ó
def Ap(h:Č)(l:List Env)(a t:Ð):(Xi h l a<|fw t).get? t=fx:=PySem.W.hideAll_none _ (â _<|Ô _<|by simp)
def BL(aV:A.frames=fw (env::outer))(hf:env.frame=fw L)(hl:s.heap.FunFrames B<|env::outer)(hx:Go s.heap a cls T)(fin:∀h' a0,Heap.NotedW (Xi s.heap (env::outer) a T) (env::outer) a cls a0 (Ĩ L) s.heap h'->Q () {s with heap:=h'}):wpAny M A (bD (.ref a) env) Q E s:=by
 let⟨oe,vs,a0,he,hc,hd,h0,ht⟩:=hx;have fin:=λh'=>fin h' a0;cases T with
 |none =>subst hc;unfold bD;simp![hf];refine À<|ō he hd ht ?_;rw[hZ<|by decide];exact wpAny_entryW aV (JF a fx hl) hf he (YZ _ _ _ _) (UV _ _ _ _) hd (Ĺ.mp ht).1 h0 fin
 |some t =>
  let⟨h1,ſ,oT,ts,fl,e1,e2,e3⟩:=ht;by_cases c:fl=Ĩ L
  .subst c;have tr:s.heap.TracedAtW (Xi s.heap (env::outer) a<|fw t) a cls a0<|Ĩ L:=⟨oe,vs,t,oT,ts,he,⟨hc,h0⟩,hd,h1,Ap _ _ _ _,ſ,e1,e2,e3⟩
   exact wpAny_noteFrame_againW hf tr<|fin _ ⟨YZ _ _ _ _,JF a (fw t) hl,tr,λb o e nf=>⟨o.slots,e⟩⟩
  .subst hc;unfold bD;simp![hf];refine À<|ō he hd h1 ?_;rw[hX<|by simp];refine À<|ō e1 e2 e3 ?_;rw[hZ<|by simpa using c];refine À<|ń e1 e2 (Ĺ.mp e3).1 ?_;have off:∀b,b≠t->(s.heap.update t (Χ (·.setIfInBounds 3 Value.none))).get? b=s.heap.get? b:=λb hb=>õ _ _ hb.symm;have nr:∀b o,s.heap.get? b=fw o->(∀vs,o.data≠.fields vs)->b≠t:=λb o hb nf z=>by
    rw[z,e1]at hb;cases hb;exact nf ts e2
   have bn:=Ap s.heap (env::outer) a t;exact wpAny_entryW aV ((JF a (fw t) hl).of_keeps λb o hb nf=>⟨o,(off b<|nr b o hb nf).trans hb,rfl⟩) hf ((off a ſ.symm).trans he) (λb o hbo=>(off b λz=>by rw[z,bn]at hbo;cases hbo).trans<|YZ _ _ _ _ b o hbo) (UV _ _ _ _) hd (Ĺ.mp h1).1 h0 λh' ⟨x1,x2,x3,x4⟩=>fin h' ⟨x1,x2,x3,λb o hb nf=>x4 b o ((off b<|nr b o hb nf).trans hb) nf⟩
def AI(aV:A.frames=fw (env::outer))(hf:env.frame=fw L)(hl:s.heap.FunFrames B<|env::outer)(hx:Go s.heap a cls T)(h:∀h' a0,d8 (Xi s.heap (env::outer) a T) (env::outer) a cls a0 s.heap h'->Q () {s with heap:=h'}):wpAny M A (bD (.ref a) env) (λ_ s2=>wpAny M A (setFlight (.ref a) fx) Q E s2) E s :=
 BL aV hf hl hx λh' a0 ⟨k1,k2,k3,k4⟩=>wpAny_setFlight_noneW k1 k2 k3 λh2 j1 j2 j3 j4=>h h2 a0 ⟨j1,j2,j3,λb o e nf=>by
   let⟨sl,e2⟩:=k4 b o e nf
   exact⟨sl,j4 b _ e2 nf⟩⟩
def OU(aV:A.frames=fw (env::outer))(hf:env.frame=fw L)(hl:s.heap.FunFrames B<|env::outer)(hx:Go s.heap a cls T)(h:∀h' a0,d8 (Xi s.heap (env::outer) a T) (env::outer) a cls a0 s.heap h'->Q () {s with heap:=h'}):wpAny M A (leaving env<|.ref a) Q E s:=À<|AI aV hf hl hx h
end
variable {cls:Ã}{a0:Ã}{T:Option Ð}
def Fl.noted(f:Fl P w l H s H' a cls s')(hT:∀t,T=fw t->s.heap.get? t=fx/\H' t=fx)(hl:s'.heap.FunFrames B l)(aV:∀b∈frs l,H' b=fx)(z:Heap.NotedW (Xi s'.heap l a T) l a cls a0 fl s'.heap h'):Fl P w l H s H' a cls {s' with heap:=h'}:=by
 let⟨k1,k2,k3,k4⟩:=z;have inb:∀b o,s'.heap.get? b=fw o->b≠a->(∀t,T=fw t->b≠t)->b∉frs l->h'.get? b=fw o:=λb o e na nt nf=>k1 b o (PySem.W.hideAll_get _ e (by
   intro m
   rcases Ç.mp m with m|m
   . exact na m
   . rcases Ò.mp m with m|m
     . cases T with
       |none=>cases m
       |some t=>exact nt t rfl ⇑m
     . exact nf m))
 have slot:∀b o,s'.heap.get? b=fw o->b∈frs l->∃sl,h'.get? b=fw {o with slots:=sl}:=λb o e hb=>by let⟨_,o2,e2,nf⟩:=hl.mem hb;rw[e]at e2;cases e2;exact k4 b o e nf
 have Ϡ:∀b o,s.heap.get? b=fw o->b≠a/\∀t,T=fw t->b≠t:=λb o e=>⟨(λz=>by rw[z,f.na]at e;cases e),(λt ht z=>by rw[z,(hT t ht).1]at e;cases e)⟩
 refine⟨f.os,f.bare,⟨λb o e n nf _=>?_,λb o e n hb _=>?_,f.un.free,λb o e _=>?_,f.un.tups,f.un.frzs,f.un.tbls⟩,?_,f.na,f.ha,?_⟩
 .exact inb b o (f.un.keep b o e n nf<|by simp) (Ϡ b o e).1 (Ϡ b o e).2 nf
 .obtain⟨sl,e1⟩:=f.un.slot b o e n hb (by simp);let⟨sl',e2⟩:=slot b _ e1 hb;exact⟨sl',e2⟩
 .obtain⟨o1,e1⟩:=f.un.there b o e (by simp);by_cases hb:b∈frs l
  .obtain⟨sl,e2⟩:=slot b _ e1 hb;exact⟨_,e2⟩
  .exact⟨o1,inb b o1 e1 (Ϡ b o e).1 (Ϡ b o e).2 hb⟩
 .intro b u e;have good:∀c v,H' c=fw v->∀ob,s'.heap.get? c=fw ob->h'.get? c=fw ob:=λc v ec ob eo =>
   inb c ob eo (λz=>by rw[z,f.ha]at ec;cases ec) (λt ht z=>by rw[z,(hT t ht).2]at ec;cases ec) λm=>by rw[aV c m]at ec;cases ec
  refine(f.hok b u e).stay (λc v hc q=>?_) (λ_ q=>q) λ_ _ q=>q;rcases hc with z|z
  .rw[z]at q ⊢;exact good b u e v q
  .exact good c _ z v q
 .obtain⟨oe,vs,t',oT,ts,e1,⟨e2,e3⟩,e4,e5,e6,e7,e8,e9,e10⟩:=k3;refine⟨fw t',⟨oe,vs,a0,e1,e2,e4,e3,e5,e7,oT,ts,fl,e8,e9,e10⟩,λt ht=>?_⟩;cases ht;have hid:∀o,s'.heap.get? t'=fw o->T=fw t':=λo e=>by
   have nin:¬ (t'∉(a::(T.toList++frs l))):=λm=>by have q:(Xi s'.heap l a T).get? t'=fw o:=PySem.W.hideAll_get _ e m;rw[e6]at q;cases q
   have m:=Classical.not_not.mp nin;rcases Ç.mp m with m|m
   .exact ij m e7
   .rcases Ò.mp m with m|m
    .cases T with
     |none=>cases m
     |some t=>rw[show t'=t by simpa using m]
    .obtain⟨_,o2,q,nf⟩:=k2.mem m;rw[e8]at q;cases q;exact ij e9<|nf ts
  constructor
  .cases q:s.heap.get? t' with
   |none=>rfl
   |some o =>let⟨o1,q1⟩:=f.un.there t' o q (by simp);have:=(hT t'<|hid o1 q1).1;rw[q]at this;cases this
  .cases q:H' t' with
   |none=>rfl
   |some u =>let⟨o1,q1⟩:=(f.hok t' u q).obj;have:=(hT t'<|hid o1 q1).2;rw[q]at this;cases this
def Fl.left(f:Fl P w l H s H' a cls s')(hT:∀t,T=fw t->s.heap.get? t=fx/\H' t=fx)(hl:s'.heap.FunFrames B l)(aV:∀b∈frs l,H' b=fx)(z:d8 (Xi s'.heap l a T) l a cls a0 s'.heap h'):Fl P w l H s H' a cls {s' with heap:=h'}:=f.noted (fl:=.none) hT hl aV z
section
variable {K:Frag}
variable {X:Cx}
def Inv.raised{Â:List (Ð×Obj)}{σ:St}{H':Hp}{s':Æ}{a:Ð}{cls:Ã}(I:Inv X Â σ H s)(f:Fl X.prog X.w X.stack H s H' a cls s'):Inv X Â σ H' s' :=
 I.call' (ch:=[]) f.os f.un f.hok f.bare (λb z=>ij z<|by simp)
def OW(ok:X.Ok)(h:X.stack=X.env::X.outer):X.env.frame=fw X.env.locals:=by
 rcases ok.stk with e|e
 .rw[h]at e;exact ij (congrArg List.length e) (by simp)
 .exact e.2
variable {N:List Str}{qual:Str}{f:Ð}
def Qy:XW (Nd (CX1 P w) P w K mg base N qual scope f cd A outer s H E) E:=by
 intro Â σ H2 s2 H' a cls s' I f q;have J:=I.raised f;let⟨T,hx,hT⟩:=f.ex;show wpAny _ _ (leaving _ _) _ _ _;refine OU (outer:=outer) J.ok.frames (OW J.ok rfl) J.stack hx λh' a0 z=>?_;have f2:=f.left hT J.stack J.stkFree z;have J2:=I.raised f2;have aP:∀b,s2.heap.get? b=fx->s.heap.get? b=fx:=λb e=>by
  cases z:s.heap.get? b with
  |none=>rfl
  |some o =>let⟨o',e'⟩:=I.base.there b o z (by intro m;cases m);rw[e]at e';cases e'
 let⟨T2,hx2,hT2⟩:=f2.ex;exact⟨a,cls,H',rfl,⟨J2.os,J2.bare,J2.base,J2.hok,aP a f2.na,f2.ha,T2,hx2,λt ht=>⟨aP t (hT2 t ht).1,(hT2 t ht).2⟩⟩,q⟩
def Fun.ok1{st:ł}(F:Fun K x qual st f fd)(S:FnScope N ps<|Zu st)(len:∀vs H Q E,sp vs H Q E->vs.length=ps.length)(hbody:∀(ϫ:Ã) (A:Ď) (outer:List Env) (s:Æ) (H:Hp) (vs:List V) (Q:VK) (E:XK),gm k (A.deeper<|aB qual (Zu st) s.heap.objs.size f ϫ)->sp vs H Q E->
    XW (Nd (CX1 P w) P w K mg base N qual (Zu st) f ϫ A outer s H E) E->
    ∃t,PSs (Nd (CX1 P w) P w K mg base N qual (Zu st) f ϫ A outer s H E) (ZQ st) t/\t { nx:=λ_ H'=>Q .non H',rt:=Q } (start N vs) H):gp P w K mg base (CX1 P w) (k+1) f fd ps sp:=by
 let⟨oc,od,kV,doc,pm,an,ϫ,ct,osl,rfl,lk,aT⟩:=F.ex;exact RD lk aT S len λA outer s H vs Q E hr hsp=>hbody ϫ A outer s H vs Q E hr hsp Qy
end
abbrev XP(X:Cx)(Â:List<|Ð×Obj)(σ:St)(E:XK)(v:Ã)(s':Æ):Prop :=
 ∃a cls H1 H' s1,v=.ref a/\Inv X Â σ H1 s1/\Fl X.prog X.w X.stack H1 s1 H' a cls s'/\E cls fx H'
abbrev xcO(a:Ð)(cls:Ã):HO:=.ext λh=>∃o vs,h.get? a=fw o/\o.cls=cls/\o.data=.fields vs
end L2
namespace L2
open PySem PySem.Spec PySem.W PySem.Calls PyProof.Rows PySem.Builtin PySem.Builtin.ObjectAttr PySem.Builtin.Getset_descriptor
section
variable {K:Frag}{g:Array cA}{t:Nat}{a C:Ð}
structure XCls(K:Frag)(C:Ð):Prop where
 ga:Ϻ K (.ref C) "__getattribute__" = fw (fw<|.builtin "BaseException.__getattribute__")
 gr:Ϻ K (.ref C) "__getattr__" = fw fx
 cl:Ϻ K (.ref C) "__class__" = fw (fw<|.builtin "object.__class__")
 mo:mroIn K C (.type "object")=fw fy
 mb:mroIn K C (.type "BaseException")=fw fy
 ci:(clsIn K C).isSome=fy
end
end L2
namespace L2
open PySem PySem.Spec PyProof.Rows
section
def Kl:fM X (.type "int") λxs H Q=>∃z n,xs=[.str z]/\PySem.intText? z=fw n/\z.length<=640/\Q (.int n) H:=by k_put;let⟨z,n,rfl,e,hl,q⟩:=h;let⟨u,rfl,t,rfl⟩:=ZU r;exact PySem.W.KIN.call_text e hl ⟨.int n,H,I.tok _,⟨_,rfl⟩,q⟩
end
end L2
namespace L2
open PySem PySem.Spec PyProof.Rows
open PySem.Builtin PySem.Builtin.Str
abbrev BJ(z:Str)(lo hi:Option Int):Str:=if(Λ lo hi 1 z.length).length=z.length then z else⟨((Λ lo hi 1 z.length).filterMap (z.cps[·]?)).toArray⟩
def Cc(z:Str)(lo hi:Option Int):(BJ z lo hi).length<=z.length:=by
 unfold BJ;split
 .exact Ì _
 .show((Λ lo hi 1 z.length).filterMap (z.cps[·]?)).toArray.size<=_;rw[Ï];exact Û (Ů _ _)<|indices_len_le lo hi z.length
section
abbrev Sh:V->Option Int->Option Int->Hp->VK->Prop:=λx lo hi H Q=>∃z,x=.str z/\z.length<=à/\Q (.str<|BJ z lo hi) H
def UZ{lo:Option Int}(h:Ϙ v lo):∃l:Option<|Int×Tok,v=partValue l/\l.map (·.1)=lo:=by
 cases h with
 |none=>exact⟨fx,rfl,rfl⟩
 |int i t=>exact⟨fw (i,t),rfl,rfl⟩
def sl_str:SlR X Sh:=by
 intro Â s σ H x v vl vu lo hi sl Q I rx hs pl pu h;let⟨z,rfl,hz,q⟩:=h;let⟨t,rfl⟩:=rx;refine⟨"str",_,slot_str_getitem.lookup,typeIs_str s z t,?_⟩;let⟨l,rfl,el⟩:=UZ pl;let⟨u,rfl,eu⟩:=UZ pu;have hs':s.heap.IsSlice sl l u fx:=hs;refine wpAny_getItem_str_slice hs' rfl ?_;have e:sliceMade z t l u fx=if(Λ lo hi 1 z.length).length=z.length then .val (.str z t)else .str ⟨((Λ lo hi 1 z.length).filterMap (z.cps[·]?)).toArray⟩:=by unfold sliceMade slicePicked;rw[el,eu];simp
 rw[e];have cl:=Cc z lo hi;unfold BJ at q cl;split
 .rename_i hh;rw[hX hh]at q;exact⟨.str z,H,I,⟨t,rfl⟩,q⟩
 .rename_i hh;rw[hZ hh]at q cl;exact⟨Û cl hz,.str _,H,I.tok _,⟨_,rfl⟩,q⟩
end
section
def Af(z:Str):∀(n:Nat) (a:Array Nat),((Þ n z.cps).foldl (· ++ ·) a).size=a.size+n*z.cps.size
 |0,a=>by simp
 |n+1,a=>by rw[Đ,Ń,Af z n,Array.size_append,Nat.succ_mul];lia
end
end L2
namespace L2
open PySem PySem.Spec PyProof.Rows
section
variable {X:Cx}(K:Frag)(h:X.K=K)
include h
end
end L2
namespace HT
open PySem PyProof.Rows
open PySem.SeqAt
open PySem.AutoSeq1 (wpAny_loadPart')
open PySem.MeetsSeq PySem.MeetsSeq2 PySem.MeetsSeq3
section
def getItem_tuple_whole{lo:Option Int}(ht:aW s.heap t items)(hs:s.heap.IsSliceOf sl vl vu .none)(pl:Ϙ vl lo)(pu:Ϙ vu hi)(hw:sIx items.size 0 lo=0/\sIx items.size items.size hi=items.size)(h:Q (.ref t) s):wpAny (á prog w) A (Ϥ (.ref t)<|.ref sl) Q E s:=by
 let⟨os,hos,hcs,hds⟩:=id hs;have hTs:s.TypeIs (.ref sl) "slice":=⟨os,hos,hcs⟩
 unfold Ϥ
 try with_reducible refine ĕ ?_
 first|refine À (È ?_)|skip
 refine À (wpAny_sequenceKey ht.typeIs ↥1 ?_);refine À (ĳ (name:=im "__getitem__") ht.typeIs PyProof.Rows.slot_tuple_getitem
   (Ė PyProof.Rows.slot_tuple_getitem ht.typeIs entry_tuple_getitem ?_<|args_tuple_getitem _ _))
 show wpAny _ _ (Builtin.Tuple.tupleItemsOf (.ref t) >>= _) _ _ s;refine À<|tupleItemsOf_ ht ?_;refine À<|ϥ hTs ?_;rw[hX<|by decide];refine À<|YB hs pl pu ?_;have hyes:(((sIx items.size 0 lo:Nat):Int)==0&&(1:Int)==1&&(sIx items.size items.size hi - sIx items.size 0 lo)==items.size)=fy:=by rw[hw.1,hw.2];simp
 show wpAny _ _ (if(((sIx items.size 0 lo:Nat):Int)==0&&(1:Int)==1&&(sIx items.size items.size hi - sIx items.size 0 lo)==items.size)=fy then _ else _) _ _ s;rw[hX hyes];refine À ?_;unfold Builtin.Tuple.tupleIsExact;refine À<|ϥ ht.typeIs<|È ?_;rw[hX<|by decide]
 first
  |exact À<|È<|È ⟨_,rfl,È h⟩
  |exact À<|Ϧ<|È ⟨_,rfl,È h⟩
  |exact È ⟨_,rfl,È h⟩
end
end HT
namespace L2
open PySem PySem.Spec PyProof.Rows
section
abbrev Q3(K:Frag):V->Option Int->Option Int->Hp->VK->Prop:=λx lo hi H Q=>∃a xs,x=.ref a/\gU K H a xs/\(HT.sIx xs.length 0 lo=0/\HT.sIx xs.length xs.length hi=xs.length)/\Q (.ref a) H
def Fb:SlR X<|Q3 X.K:=by
 intro Â s σ H x v vl vu lo hi sl Q I rx hs pl pu h;let⟨a,xs,rfl,hx,hw,q⟩:=h;cases rx;let⟨ú,r,ht,hz⟩:=I.tuple hx;have hlen:ú.toArray.size=xs.length:=by rw[Ï];exact r.length.symm
 refine⟨"tuple",_,PyProof.Rows.slot_tuple_getitem.lookup,ht.typeIs,?_⟩;exact HT.getItem_tuple_whole ht hs pl pu (by rw[hlen];exact hw) ⟨.ref a,H,I,rfl,q⟩
end
end L2
namespace L2
open PySem PySem.Spec PyProof.Rows
open PySem.Builtin PySem.Builtin.Str
section
abbrev Qd(z:Str)(n:Nat):Str:=⟨(Þ n z.cps).foldl (· ++ ·) #[]⟩
def KO(z:Array Nat):∀(n:Nat) (a:Array Nat),((Þ n z).foldl (· ++ ·) a).toList=a.toList++(Þ n z.toList).flatten
 |0,a=>by simp
 |n+1,a=>by rw[Đ,Ń,KO z n,Đ,ņ,Array.toList_append,Ć]
abbrev Id:R2:=λx y H Q=>∃z k,x=.str z/\y=.int k/\2<=k/\k<=1000000/\1<=z.length/\z.length*k.toNat<=1000000/\Q (.str<|Qd z k.toNat) H
def Ft:OpR X (Ŋ .Mult) Id:=by
 k_ne;let⟨z,k,rfl,rfl,h2,h6,h1,hz,q⟩:=h;let⟨t,rfl⟩:=rx;let⟨t',rfl⟩:=ry;have big:(1000000:Nat)<=à:=by decide
 have nb:(k==1||z.length==0)=fz:=by have e1:(k==1)=fz:=beq_false_of_ne ↥0;have e2:(z.length==0)=fz:=beq_false_of_ne ↥0;rw[e1,e2];rfl
 have zl:z.length<=1000000:=by have:z.length*1<=z.length*k.toNat:=d9 _ ↥0;lia
 have hr:(ik (k < -(2 ^ 63:Int))||ik (k≥2 ^ 63))=fz:=by rw[ie ↥0,ie<|by lia];rfl
 have hb:¬ k<1->(k==1||z.length==0)=fz->¬ ((z.length:Int) > (2 ^ 63 - 1) / k):=λ_ _=>by have:(1000000:Int)<=(2 ^ 63 - 1) / k:=(cI<|by lia).mpr ↥0;lia
 have hl:¬ k<1->(k==1||z.length==0)=fz->tooLong (z.length*k.toNat)=fz:=λ_ _=>by unfold tooLong;exact ie ↥0
 refine P.mul_str hr hb hl ?_;rw[hZ ↥0,hZ<|by rw[nb];exact Ă];have el:(⟨(Þ k.toNat z.cps).foldl (· ++ ·) #[]⟩:Str).length=z.length*k.toNat:=by show((Þ k.toNat z.cps).foldl (· ++ ·) #[]).size=_;rw[Af,cH z.length];simp[Str.length]
 exact⟨by rw[el];lia,.str _,H,I.tok _,⟨_,rfl⟩,q⟩
variable {c y z a b:Str}{k1 k2 k3:Nat}{p1 p2 p3 p4 pa pb Ŕ ŧ:Pos}
end
end L2
namespace L2
open PySem PySem.Spec PyProof.Rows
section
abbrev IR(K:Frag):R2:=λx y H Q=>∃a b ys,x=.ref a/\y=.ref b/\gU K H a []/\gU K H b ys/\Q (.ref b) H
def op_cat0:OpR X (Ŋ .Add)<|IR X.K:=by
 k_ne;let⟨a,b,ys,rfl,rfl,ha,hb,q⟩:=h;cases rx;cases ry;let⟨ú,r1,p1,_⟩:=I.tuple ha;let⟨aJ,r2,p2,_⟩:=I.tuple hb;cases r1;let⟨⟨cls,dd,data,sl⟩,ho,hc,n,hd⟩:=id p1;let⟨⟨cls2,dy,data2,eM⟩,ho2,hc2,n2,bV⟩:=id p2;simp only at hc hd hc2 bV;subst hc hd hc2 bV;exact eW ⟨_,ho,rfl⟩ ⟨_,ho2,rfl⟩ bC dG PySem.F.slot_tuple_add PySem.F.entry_tuple_add (PySem.F.args_tuple_add_2 _ _)
  (tuple_addW0 a b _ _ n n2 dd dy sl eM rfl) ⟨ho,ho2,.ref b,H,I,rfl,q⟩
end
section
abbrev HL(K:Frag)(neg:Bool):R2:=λx y H Q=>∃ds d,(IsD K H y (.tuple ds)\/IsD K H y (.list ds))/\IsD K H x d/\Ŝ ds=fy/\d.canLay0=fy/\d.depth<=64/\Q (.bl<|if neg then !ds.any (λe=>Ī e d)else ds.any λe=>Ī e d) H
def LO(hu:X.A.units+65<Ğ):OpR X (ð .In)<|HL X.K fz:=by
 k_ne;let⟨ds,d,hd,he,sd,se,hdp,q⟩:=h;let⟨bs,rb⟩:=he.reads I rx;have hr:X.A.units+1+min (Ł ds) d.depth<Ğ:=by have:min (Ł ds) d.depth<=d.depth:=aC _ _;lia
 rcases hd with hd|hd
 .obtain⟨as,ra⟩:=hd.reads I ry;exact SeqAt.in_tuple_reads ra rb sd se hr ⟨.bl _,H,I,rfl,q⟩
 .obtain⟨as,ra⟩:=hd.reads I ry;exact SeqAt.in_list_reads ra rb sd se hr ⟨.bl _,H,I,rfl,q⟩
def Bs(hu:X.A.units+65<Ğ):OpR X (ð .NotIn)<|HL X.K fy:=by
 k_ne;let⟨ds,d,hd,he,sd,se,hdp,q⟩:=h;let⟨bs,rb⟩:=he.reads I rx;have hr:X.A.units+1+min (Ł ds) d.depth<Ğ:=by have:min (Ł ds) d.depth<=d.depth:=aC _ _;lia
 rcases hd with hd|hd
 .obtain⟨as,ra⟩:=hd.reads I ry;exact SeqAt.notIn_tuple_reads ra rb sd se hr ⟨.bl _,H,I,rfl,q⟩
 .obtain⟨as,ra⟩:=hd.reads I ry;exact SeqAt.notIn_list_reads ra rb sd se hr ⟨.bl _,H,I,rfl,q⟩
end
section
variable {κ:Type}[DecidableEq κ]
abbrev Yt(kvs:List<|κ×V)(k:κ):Option V:=(kvs.find? λkv=>ik (kv.1=k)).map (·.2)
abbrev gh(kvs:List<|κ×V)(k:κ)(v:V):List (κ×V) :=
 if(kvs.any λkv=>ik (kv.1=k))=fy then kvs.map (λkv=>if kv.1=k then(kv.1,v)else kv)else kvs++[(k,v)]
abbrev gj(kvs:List<|κ×V)(k:κ):List<|κ×V:=kvs.filter λkv=>ik (kv.1≠k)
variable {p:κ×V}{r:List (κ×V)}
def Xa(e:p.1=k):Yt (p::r) k=fw p.2:=by simp[Yt,č,e]
def Y5(e:¬ p.1=k):Yt (p::r) k=Yt r k:=by simp[Yt,č,e]
def Xn(k:κ):∀kvs:List<|κ×V,(kvs.any λkv=>ik (kv.1=k))=(Yt kvs k).isSome
 |[]=>rfl
 |p::r=>by
  rw[Ġ];by_cases e:p.1=k
  .simp![Xa e,ig e,Bool.true_or,Option.isSome_some]
  .rw[Y5 e,ie e,bO];exact Xn k r
def Xj(kvs:List<|κ×V)(k:κ)(v:V):(gh kvs k v).length<=kvs.length+1:=by
 unfold gh;split
 .rw[Á];lia
 .rw[ì,Î,Ĳ];lia
def gk.isSome_eq(r:gk o u):o.isSome=u.isSome:=by
 cases o with
 |none=>cases u with
  |none=>rfl
  |some _=>exact(show False from r).elim
 |some _=>cases u with
  |none=>exact(show False from r).elim
  |some _=>rfl
def gk.getD(r:gk o u)(rd:RelV d d'):RelV (o.getD d)<|u.getD d':=by
 cases o with
 |none=>cases u with
  |none=>exact rd
  |some _=>exact(show False from r).elim
 |some _=>cases u with
  |none=>exact(show False from r).elim
  |some _=>exact r
variable {kvs:List (κ×V)}{vs:List (κ×Ã)}
def KV.val(r:KV kvs vs)(k:κ):gk (Yt kvs k)<|ϧ vs k:=by
 unfold KV at r;induction r with
 |nil=>exact True.intro
 |@cons p q ps qs h t ih =>
  let⟨h1,h2⟩:=h;by_cases e:p.1=k
  .have e':q.1=k:=h1.symm.trans e;have b:ϧ (q::qs) k=fw q.2:=by simp[ϧ,č,e']
   rw[Xa e,b];exact h2
  .have e':¬ q.1=k:=λz=>e<|h1.trans z;have b:ϧ (q::qs) k=ϧ qs k:=by simp[ϧ,č,e']
   rw[Y5 e,b];exact ih
def KV.any(r:KV kvs vs)(k:κ):(kvs.any λkv=>ik (kv.1=k))=vs.any λkv=>ik (kv.1=k):=by
 unfold KV at r;induction r with
 |nil=>rfl
 |cons h t ih=>rw[Ġ,Ġ,ih,h.1]
def KV.repl(r:KV kvs vs)(k:κ){u:Ã}(ry:RelV y u) :
  KV (kvs.map λkv=>if kv.1=k then(kv.1,y)else kv) (vs.map λkv=>if kv.1=k then(kv.1,u)else kv):=by
 unfold KV at r ⊢;induction r with
 |nil=>exact .nil
 |@cons p q ps qs h t ih =>
  rw[Í,Í];refine .cons ?_ ih;let⟨h1,h2⟩:=h;by_cases e:p.1=k
  .rw[hX e,hX<|h1.symm.trans e];exact⟨h1,ry⟩
  .rw[hZ e,hZ λz=>e<|h1.trans z];exact⟨h1,h2⟩
def KV.put(r:KV kvs vs)(k:κ){u:Ã}(ry:RelV y u):KV (gh kvs k y)<|stored vs k u:=by
 unfold gh stored;rw[r.any k];by_cases e:(vs.any λkv=>ik (kv.1=k))=fy
 .rw[hX e,hX e];exact r.repl k ry
 .rw[hZ e,hZ e];exact Paired.snoc r ⟨rfl,ry⟩
def KV.drop(r:KV kvs vs)(k:κ):KV (gj kvs k)<|without vs k:=by
 unfold KV at r ⊢;unfold gj without;induction r with
 |nil=>exact .nil
 |@cons p q ps qs h t ih =>
  let⟨h1,h2⟩:=h;rw[Ā,Ā];by_cases e:p.1=k
  .have a:¬ ik (p.1≠k)=fy:=by simp[e]
   have b:¬ ik (q.1≠k)=fy:=by simp[h1.symm.trans e]
   rw[hZ a,hZ b];exact ih
  .have e':¬ q.1=k:=λz=>e<|h1.trans z;have a:ik (p.1≠k)=fy:=by simp[e]
   have b:ik (q.1≠k)=fy:=by simp[e']
   rw[hX a,hX b];exact .cons ⟨h1,h2⟩ ih
def KV.keys(r:KV kvs vs):kvs.map (·.1)=vs.map (·.1):=by
 unfold KV at r;induction r with
 |nil=>rfl
 |cons h t ih=>rw[Í,Í,ih,h.1]
def KV.length(r:KV kvs vs):kvs.length=vs.length:=Paired.length r
def DO(kvs:List<|κ×V)(k:κ):(gj kvs k).length<=kvs.length:=ľ _ _
end
def XF(r:RelV (kV k) u):(Zf P w).is k u=fy:=by
 cases k with
 |inl i=>let⟨t,e⟩:=(show ∃t,u=Value.int i t from r);subst e;exact Oo P w i t
 |inr x=>let⟨t,e⟩:=(show ∃t,u=Value.str x t from r);subst e;exact Oh P w x t
def KU:∀{ks:List Key}{us:List Ã},gV (ks.map kV) us->ItemsAre (Zf P w) ks us
 |[],_,r=>by rw[Ř]at r;cases r;exact .nil
 |k::ks,_,r=>by
  rw[Í]at r;cases r with
  |cons h t=>exact .cons (XF h)<|KU t
@[reducible] noncomputable def KTd(H:Hp):List (List Key×V)->List (List Key×Ð×Ã)->Prop:=Paired λp q=>p.1=q.1/\H q.2.1=fw (.tup<|p.1.map kV)/\RelV p.2 q.2.2
def KTd.val(r:KTd H kvs xs)(k:List Key):gk (Yt kvs k) ((cJ xs k).map (·.2)):=by
 induction r with
 |nil=>exact True.intro
 |@cons p q ps qs h t ih =>
  let⟨h1,_,h2⟩:=h;by_cases e:p.1=k
  .have e':q.1=k:=h1.symm.trans e;have b:cJ (q::qs) k=fw q.2:=by simp[cJ,č,e']
   rw[Xa e,b];exact h2
  .have e':¬ q.1=k:=λz=>e<|h1.trans z;have b:cJ (q::qs) k=cJ qs k:=by simp[cJ,č,e']
   rw[Y5 e,b];exact ih
def KTd.repl(r:KTd H kvs xs)(k:List Key)(ry:RelV y u) :
  KTd H (kvs.map λkv=>if kv.1=k then(kv.1,y)else kv) (xs.map<|putAt k u):=by
 induction r with
 |nil=>exact .nil
 |@cons p q ps qs h t ih =>
  rw[Í,Í];refine .cons ?_ ih;let⟨h1,h2,h3⟩:=h;unfold putAt;by_cases e:p.1=k
  .rw[hX e,hX<|h1.symm.trans e];exact⟨h1,h2,ry⟩
  .rw[hZ e,hZ λz=>e<|h1.trans z];exact⟨h1,h2,h3⟩
variable {b:Ð}
def KTd.put(r:KTd H kvs xs)(k:List Key)(hb:H b=fw (.tup<|k.map kV))(ry:RelV y u) :
  KTd H (gh kvs k y) (storedH xs k b u):=by
 have e:(kvs.any λkv=>ik (kv.1=k))=(cJ xs k).isSome:=by rw[Xn,(r.val k).isSome_eq,ϴ]
 unfold gh storedH;rw[e];by_cases q:(cJ xs k).isSome=fy
 .rw[hX q,hX q];exact r.repl k ry
 .rw[hZ q,hZ q];exact Paired.snoc r ⟨rfl,hb,ry⟩
def KTd.keeps(r:KTd H kvs xs)(ht:∀b ys,H b=fw (.tup ys)->H' b=fw (.tup ys)):KTd H' kvs xs :=
 Paired.mapP r λ_ _ z=>⟨z.1,ht _ _ z.2.1,z.2.2⟩
section
variable {a:Ð}
def IM{u:HO}(ok:HOk P w H h)(e:Rd H a u):fN P w H h a u:=e.ok ok
def XG{kvs:List (Key×V)}(ok:HOk P w H h)(e:Rd H a<|.dK kvs):kvs.length<=à/\(a==ş)=fz/\∃vs,KV kvs vs/\h.DictOf (Zf P w) a vs :=
 show fN P w H h a (.dK kvs) from IM ok e
def J9{kvs:List (Key×V)}(ok:HOk P w H h)(e:H a=fw (.dK kvs)):kvs.length<=à/\(a==ş)=fz/\∃vs,KV kvs vs/\h.DictOf (Zf P w) a vs:=XG ok (.inl e)
def fS(ok:HOk P w H h)(e:H a=fw (.tup<|ks.map kV)):(Ϝ<|Zf P w).is h ks a:=by
 let⟨_,ú,r,o,h1,h2,n,h3⟩:=(show fN P w H h a (.tup<|ks.map kV) from ok a _ e)
 exact⟨o,ú.toArray,n,h1,h2,h3,by simpa using KU r⟩
def WN(ok:HOk P w H h)(e:Rd H a<|.dT kvs):kvs.length<=à/\(a==ş)=fz/\
  ∃xs,KTd H kvs xs/\h.DictOfH (Ϝ<|Zf P w) a xs:=by
 let⟨z,y,xs,r,o,es,ep,h1,h2,h3,h4,h5⟩:=(show fN P w H h a (.dT kvs) from IM ok e)
 refine⟨z,y,xs,r,o,es,ep,h1,h2,h3,h4,λx hx=>?_,h5⟩;have all:∀{l:List (List Key×V)}{m:List (List Key×Ð×Ã)},KTd H l m->∀x∈m,(Ϝ<|Zf P w).is h x.1 x.2.1:=by
  intro l m q;induction q with
  |nil=>intro x hx;exact nomatch hx
  |@cons p q ps qs hq t ih =>
   intro x hx;rcases Ç.mp hx with e|hx
   .subst e;exact fS ok (by rw[<-hq.1];exact hq.2.1)
   .exact ih x hx
 exact all r x hx
def RP(ok:HOk P w H h)(e:H a=fw (.dT kvs)):kvs.length<=à/\(a==ş)=fz/\
  ∃xs,KTd H kvs xs/\h.DictOfH (Ϝ<|Zf P w) a xs:=WN ok<|.inl e
end
abbrev DGet(H:Hp)(a:Ð)(y:V)(r:Option V):Prop :=
 (∃kvs k,Rd H a (.dK kvs)/\y=kV k/\r=Yt kvs k)\/∃kvs k b,Rd H a (.dT kvs)/\y=.ref b/\H b=fw (.tup<|k.map kV)/\r=Yt kvs k
abbrev DPut(H:Hp)(a:Ð)(y v:V)(H':Hp):Prop :=
 (∃kvs k,H a=fw (.dK kvs)/\y=kV k/\kvs.length<à/\H'=upd H a (.dK<|gh kvs k v))\/
 ∃kvs k b,H a=fw (.dT kvs)/\y=.ref b/\H b=fw (.tup<|k.map kV)/\kvs.length<à/\H'=upd H a (.dT<|gh kvs k v)
def DGet.k{H:Hp}{a:Ð}{kvs:List (Key×V)}{k:Key}(e:H a=fw (.dK kvs)):DGet H a (kV k)<|Yt kvs k:=.inl ⟨kvs,k,.inl e,rfl,rfl⟩
variable {a:Ð}
def DGet.t{k:List Key}(e:H a=fw (.dT kvs))(eb:H b=fw (.tup<|k.map kV)):DGet H a (.ref b)<|Yt kvs k:=.inr ⟨kvs,k,b,.inl e,rfl,eb,rfl⟩
def DPut.k{H:Hp}{a:Ð}{kvs:List (Key×V)}{k:Key}{v:V}(e:H a=fw (.dK kvs))(hl:kvs.length<à):DPut H a (kV k) v<|upd H a<|.dK<|gh kvs k v:=.inl ⟨kvs,k,e,rfl,hl,rfl⟩
def DPut.t{k:List Key}{v:V}(e:H a=fw (.dT kvs))(eb:H b=fw (.tup<|k.map kV))(hl:kvs.length<à) :
  DPut H a (.ref b) v (upd H a<|.dT<|gh kvs k v):=.inr ⟨kvs,k,b,e,rfl,eb,hl,rfl⟩
section
variable {a:Ð}{v:V}
def Inv.big(I:Inv X Â σ H s):ş<s.heap.objs.size:=by have h:ĉ<s.heap.objs.size:=(I.mod.glob.keeps I.bk).lt;exact Δ ↥1 h
def K7(hu:A.units+1<Ğ)(I:Inv X Â σ H s)(g:DGet H a y<|fw v)(ry:RelV y u)(h:∀w' s',Inv X Â σ H s'->RelV v w'->Q w' s') :
  wpAny ↥2 A (Ϥ (.ref a) u) Q E s:=by
 rcases g with⟨kvs,k,e,ey,l⟩|⟨kvs,k,b,e,ey,eb,l⟩
 .subst ey;let⟨z,hd,vs,ų,dd⟩:=XG I.hok e;let⟨w',hw,aK⟩:=gk.some_of (v:=v) (o:=ϧ vs k) (by rw[l];exact ų.val k);exact wpAny_getItem_of (XF ry) dd.mapOf hw<|h w' _ (I.tok _) aK
 .subst ey;cases (show u=Value.ref b from ry);let⟨z,hd,xs,ų,dd⟩:=WN I.hok e;let⟨w',hw,aK⟩:=gk.some_of (v:=v) (o:=(cJ xs k).map (·.2)) (by rw[l];exact ų.val k);let⟨p,hp,eN⟩:=Ë.mp hw;refine wpAny_getItem_heap (Ţ hu) (fS I.hok eb) dd hp ?_;rw[eN];exact h w' _ (I.tok _) aK
def Te(hu:A.units+1<Ğ)(I:Inv X Â σ H s)(g:DGet H a y o)(ry:RelV y u)(h:∀s',Inv X Â σ H s'->Q (.bool o.isSome) s') :
  wpAny ↥2 A (ð .In u<|.ref a) Q E s:=by
 rcases g with⟨kvs,k,e,ey,l⟩|⟨kvs,k,b,e,ey,eb,l⟩
 .subst ey;let⟨z,hd,vs,ų,dd⟩:=XG I.hok e;refine wpAny_in_of (XF ry) hd dd.mapOf ?_;rw[<-(ų.val k).isSome_eq,<-l];exact h _<|I.tok _
 .subst ey;cases (show u=Value.ref b from ry);let⟨z,hd,xs,ų,dd⟩:=WN I.hok e;refine wpAny_in_heap (Ţ hu) (fS I.hok eb) hd dd ?_;have q:=(ų.val k).isSome_eq;rw[ϴ]at q;rw[<-q,<-l];exact h _<|I.tok _
def Fu(hu:A.units+1<Ğ)(I:Inv X Â σ H s)(g:DGet H a y o)(ry:RelV y u)(h:∀s',Inv X Â σ H s'->Q (.bool (!o.isSome)) s') :
  wpAny ↥2 A (ð .NotIn u<|.ref a) Q E s:=by
 rcases g with⟨kvs,k,e,ey,l⟩|⟨kvs,k,b,e,ey,eb,l⟩
 .subst ey;let⟨z,hd,vs,ų,dd⟩:=XG I.hok e;refine wpAny_notIn_of (XF ry) hd dd.mapOf ?_;rw[<-(ų.val k).isSome_eq,<-l];exact h _<|I.tok _
 .subst ey;cases (show u=Value.ref b from ry);let⟨z,hd,xs,ų,dd⟩:=WN I.hok e;refine wpAny_notIn_heap (Ţ hu) (fS I.hok eb) hd dd ?_;have q:=(ų.val k).isSome_eq;rw[ϴ]at q;rw[<-q,<-l];exact h _<|I.tok _
variable {h':Č}
def Ja(I:Inv X Â σ H s)(mu:Mut<|H a)(hs:ź a s.heap h')(he:∃q,h'.get? a=fw q)(new:fN X.prog X.w (upd H a ob) h' a ob) :
  Inv X Â σ (upd H a ob) {s with heap:=h',toks:=t'} :=
 I.write (x:=a) (e:=a) mu (.inl rfl) (λb q hb z=>(hs.2 b hb).trans z) he new
def Uh{kvs:List (Key×V)}{vs:List (Key×Ã)}(z:kvs.length<=à)(hd:(a==ş)=fz)(ų:KV kvs vs)(dd:h'.DictOf (Zf P w) a vs) :
  fN P w H' h' a (.dK kvs):=⟨z,hd,vs,ų,dd⟩
def BK{Q:Unit->Æ->Prop}(hu:A.units+1<Ğ)(I:Inv X Â σ H s)(g:DPut H a y v H')(ry:RelV y u)(rv:RelV v r)(h:∀s',Inv X Â σ H' s'->Q () s') :
  wpAny ↥2 A (aX (.ref a) u r) Q E s:=by
 rcases g with⟨kvs,k,e,ey,l,eH⟩|⟨kvs,k,b,e,ey,eb,l,eH⟩
 .subst ey eH;let⟨z,hd,vs,ų,dd⟩:=J9 I.hok e;have hz:vs.length<=à:=by rw[<-ų.length];exact z
  have hl:(gh kvs k v).length<=à:=by have:=Xj kvs k v;lia
  refine wpAny_setItem_pairs (hsz:=hz) (XF ry) dd λh' dd' hs=>h _ ?_;have he:∃q,h'.get? a=fw q:=let ⟨q,_,_,hq,_⟩:=dd';⟨q,hq⟩;exact Ja I (by rw[e];exact True.intro) hs he<|Uh hl hd (ų.put k rv) dd'
 .subst ey eH;cases (show u=Value.ref b from ry);let⟨z,hd,xs,ų,dd⟩:=RP I.hok e;have hz:xs.length<=à:=by rw[<-Paired.length ų];exact z
  have hl:(gh kvs k v).length<=à:=by have:=Xj kvs k v;lia
  refine wpAny_setItem_heap (hsz:=hz) (Ţ hu) (fS I.hok eb) dd λh' dd' hs=>h _ ?_;let⟨q,es,ep,hq,h2,h3,h4,_,h5⟩:=dd';refine Ja I (by rw[e];exact True.intro) hs ⟨q,hq⟩ ⟨hl,hd,_,(ų.put k eb rv).keeps λc ys ec=>?_,q,es,ep,hq,h2,h3,h4,h5⟩;rw[fA<|Re ec e λz=>nomatch z];exact ec
end
section
variable {a:Ð}{k:Key}
def Iu(I:Inv X Â σ H s)(e:H a=fw (.dK kvs))(ry:RelV (kV k) u)(l:Yt kvs k=fw v)(hm:more=[]\/∃x,more=[x])(h:∀w' s',Inv X Â σ (upd H a<|.dK<|gj kvs k) s'->RelV v w'->Q w' s'):wpAny ↥2 A (call (.builtin "dict.pop")<|.ref a::u::more) Q E s:=by
 let⟨z,hd,vs,ų,dd⟩:=J9 I.hok e;let⟨w',hw,aK⟩:=gk.some_of (v:=v) (o:=ϧ vs k) (by rw[<-l];exact ų.val k);have hp:(keyPart u).isSome=fy:=by
  cases k with
  |inl i=>let⟨t,q⟩:=(show ∃t,u=Value.int i t from ry);subst q;rfl
  |inr x=>let⟨t,q⟩:=(show ∃t,u=Value.str x t from ry);subst q;rfl
 have ha:cK "dict.pop" ⟨.ref a::u::more,[]⟩:=by
  rcases hm with q|⟨x,q⟩
  .subst q;exact PySem.F.args_dict_pop_2 _ _
  .subst q;exact PySem.F.args_dict_pop_3 _ _ _
 refine ξ PySem.F.slot_dict_pop dd.typeIs PySem.F.entry_dict_pop ha (meets_dict_pop_there (Zf X.prog X.w) a (XF ry) more hm hp)
  ⟨vs,w',dd,by rw[<-ų.length];exact z,hw,λh' dd' hs=>h w' _ ?_ aK⟩
 have he:∃q,h'.get? a=fw q:=let ⟨q,_,_,hq,_⟩:=dd';⟨q,hq⟩;exact Ja I (by rw[e];exact True.intro) hs he<|Uh (Û (DO kvs k) z) hd (ų.drop k) dd'
def LU(I:Inv X Â σ H s)(e:H a=fw (.dK kvs))(ry:RelV (kV k) u)(l:Yt kvs k=fx)(h:∀s',Inv X Â σ H s'->Q r s') :
  wpAny ↥2 A (call (.builtin "dict.pop") [.ref a,u,r]) Q E s:=by
 let⟨z,hd,vs,ų,dd⟩:=J9 I.hok e;have hn:ϧ vs k=fx:=gk.none_of (by rw[<-l];exact ų.val k);have hp:(keyPart u).isSome=fy:=by
  cases k with
  |inl i=>let⟨t,q⟩:=(show ∃t,u=Value.int i t from ry);subst q;rfl
  |inr x=>let⟨t,q⟩:=(show ∃t,u=Value.str x t from ry);subst q;rfl
 exact ξ PySem.F.slot_dict_pop dd.typeIs PySem.F.entry_dict_pop (PySem.F.args_dict_pop_3 _ _ _) (meets_dict_pop_default (Zf X.prog X.w) a (XF ry) hd hp r) ⟨vs,dd,hn,h _<|I.tok _⟩
def QS(I:Inv X Â σ H s)(e:Rd H a<|.dK kvs)(h:∀t s',Inv X Â σ H s'->Q (.int kvs.length t) s'):wpAny ↥2 A (call (.builtin "len") [.ref a]) Q E s:=by let⟨z,hd,vs,ų,dd⟩:=XG I.hok e;refine call_len_dict hd dd (by rw[<-ų.length];rw[θ]at z;lia) ?_;rw[<-ų.length];exact h _ _ (I.tok _)
end
def NP(I:Inv X Â σ H s)(g:DGet H a y o):s.TypeIs (.ref a) "dict":=by
 rcases g with⟨kvs,k,e,_,_⟩|⟨kvs,k,b,e,_,_,_⟩
 .obtain⟨_,_,vs,_,dd⟩:=XG I.hok e;exact dd.typeIs
 .obtain⟨_,_,xs,_,dd⟩:=WN I.hok e;exact dd.typeIs
def Ol(h:Č)(hb:ş<h.objs.size):fN P w H (h.push {cls:=.type "dict",data:=.dict #[]}) h.objs.size (.dK []) :=
 ⟨Ę _,beq_eq_false_iff_ne.mpr<|Ne.symm<|é hb,[],.nil,Heap.DictOf.new h⟩
abbrev Lc:TE:=λ_ H Q=>∀p,H p=fx->Q (.ref p) (upd H p<|.dK [])
section
variable {í:Pos}
def pe_dnewK:PE X (.Dict [] [] í) Lc:=λÂ s σ H Q I h =>
 wpAny_Dict_empty ⟨.ref s.heap.objs.size,_,I.laid (a:=s.heap.objs.size) (o:=.dK []) (t':=s.toks) (λ_ _ q=>Ä _ q) (Ì _)<|Ol s.heap I.big,rfl,h _<|I.hok.fresh<|Ì _⟩
end
abbrev Mu:List (TE×TE)->St->Hp->(List (V×V)->Hp->Prop)->Prop
 |[],_,H,Q=>Q [] H
 |(tk,tv)::r,σ,H,Q=>tk σ H λx H1=>tv σ H1 λy H2=>Mu r σ H2 λps H3=>Q ((x,y)::ps) H3
@[reducible] noncomputable def VV:List (V×V)->List (Ã×Ã)->Prop:=Paired λp q=>RelV p.1 q.1/\RelV p.2 q.2
abbrev PPs(X:Cx)(í:Pos)(keys:List<|Option Expr)(Ω:List Expr)(trs:List<|TE×TE):Prop :=
 ∀(Â:List<|Ð×Obj) (s:Æ) (σ:St) (H:Hp) (Q:List (V×V)->Hp->Prop),Inv X Â σ H s->Mu trs σ H Q->
  wpAny ↥2 X.A (evalPairs<|pairTrees keys Ω X.env í) (λvs s'=>∃ps H',Inv X Â σ H' s'/\VV ps vs/\Q ps H') X.xe s
variable {í:Pos}
def Gn:PPs X í [] [] []:=λÂ s σ H Q I h=>pairTrees_nil_walk ⟨[],H,I,.nil,h⟩
def Dt(hk:PE X k tk)(hv:PE X v tv)(hr:PPs X í ks vs trs) :
  PPs X í (fw k::ks) (v::vs) ((tk,tv)::trs):=λÂ s σ H Q I h =>
 pairTrees_cons_walk (thn (hk Â s σ H _ I h) λu s1 ⟨x,H1,I1,rx,q1⟩=>thn (hv Â s1 σ H1 _ I1 q1) λw2 s2 ⟨y,H2,I2,ry,q2⟩ =>
   thn (hr Â s2 σ H2 _ I2 q2) λws s3 ⟨ps,H3,I3,ų,q3⟩=>⟨(x,y)::ps,H3,I3,.cons ⟨rx,ry⟩ ų,q3⟩)
abbrev Xf(kvs more:List<|Key×V):List<|Key×V:=more.foldl (λĶ kv=>gh Ķ kv.1 kv.2) kvs
def KV.merge:∀{more:List (Key×V)}{rs:List (Key×Ã)}{kvs:List (Key×V)}{vs:List (Key×Ã)},KV more rs->KV kvs vs->KV (Xf kvs more) (merged vs rs):=by
 intro more rs kvs vs r;unfold KV at r;induction r generalizing kvs vs with
 |nil=>intro q;exact q
 |@cons p q ps qs h t ih =>
  intro r0;have e:KV (gh kvs p.1 p.2)<|stored vs q.1 q.2:=by have:=r0.put p.1 h.2;rw[<-h.1];exact this
  exact ih e
def XI:∀(more kvs:List<|Key×V),(Xf kvs more).length<=kvs.length+more.length
 |[],kvs=>by show kvs.length<=kvs.length+0;lia
 |p::r,kvs=>by have h1:=XI r<|gh kvs p.1 p.2;have h2:=Xj kvs p.1 p.2;show(Xf (gh kvs p.1 p.2) r).length<=_;rw[Î];lia
def JA{P:è}{w:ÿ}:∀{kvs:List (Key×V)}{ws:List (Ã×Ã)},VV (kvs.map λkv=>(kV kv.1,kv.2)) ws->∃rs,Carries (Zf P w) ws rs/\KV kvs rs
 |[],_,r=>by rw[Ř]at r;cases r;exact⟨[],True.intro,.nil⟩
 |p::kvs,_,r=>by
  rw[Í]at r;cases r with
  |@cons a b as bs h t =>let⟨rs,c,q⟩:=JA (P:=P) (w:=w) t;let⟨b1,b2⟩:=b;exact⟨(p.1,b2)::rs,⟨XF h.1,rfl,c⟩,.cons ⟨rfl,h.2⟩ q⟩
abbrev QH(trs:List<|TE×TE):TE:=λσ H Q=>∀p,H p=fx->Mu trs σ (upd H p<|.dK []) λps H2=>H2 p=fw (.dK [])/\∃kvs:List<|Key×V,ps=kvs.map (λkv=>(kV kv.1,kv.2))/\kvs.length<=15/\Q (.ref p) (upd H2 p<|.dK<|Xf [] kvs)
def FM(h:PPs X í keys Ω trs)(hall:keys.all (·.isSome)=fy)(hl:keys.length=Ω.length)(h0:keys≠[])(h15:keys.length<=15):PE X (.Dict keys Ω í)<|QH trs:=by
 intro Â s σ H Q I q;have hn:=I.hok.fresh<|Ì s.heap.objs.size;have I1:=I.laid (a:=s.heap.objs.size) (o:=.dK []) (h':=s.heap.push {cls:=.type "dict",data:=.dict #[]}) (t':=s.toks) (λ_ _ q=>Ä _ q) (Ì _)<|Ol s.heap I.big;refine wpAny_Dict_walk (knd:=Zf X.prog X.w) hall hl h0 h15<|thn (h Â _ σ _ _ I1<|q _ hn) λws s2 ⟨ps,H2,I2,ų,e,kvs,ep,lk,q2⟩=>?_;subst ep;let⟨rs,c,rk⟩:=JA (P:=X.prog) (w:=X.w) ų;let⟨z,hd,vs0,r0,dd⟩:=J9 I2.hok e;cases r0;refine⟨rs,c,dd,λh' dd' hs=>⟨.ref s.heap.objs.size,_,?_,rfl,q2⟩⟩;have hz:(Xf [] kvs).length<=à:=by have h1:=XI kvs [];rw[Ĳ]at h1;rw[θ];lia
 have he:∃q,h'.get? s.heap.objs.size=fw q:=let ⟨q,_,_,hq,_⟩:=dd';⟨q,hq⟩;exact Ja I2 (by rw[e];exact True.intro) hs he<|Uh hz hd (rk.merge .nil) dd'
abbrev SK(H:Hp)(a:Ð):Prop:=(∃kvs,Rd H a<|.dK kvs)\/∃kvs,Rd H a (.dT kvs)
def PU(I:Inv X Â σ H s)(d:SK H a) :
  s.TypeIs (.ref a) "dict"/\(∀b,Value.ref a=.ref b->∃ob,s.heap.get? b=fw ob/\ob.dict=fx)/\(a==ş)=fz:=by
 rcases d with⟨kvs,e⟩|⟨kvs,e⟩
 .obtain⟨_,hd,vs,_,dd⟩:=XG I.hok e;refine⟨dd.typeIs,λb q=>?_,hd⟩;cases q;let⟨ob,_,_,h1,h2,_⟩:=dd;exact⟨ob,h1,h2.2.1⟩
 .obtain⟨_,hd,xs,_,dd⟩:=WN I.hok e;refine⟨dd.typeIs,λb q=>?_,hd⟩;cases q;let⟨ob,_,_,h1,h2,_⟩:=dd;exact⟨ob,h1,h2.2.1⟩
section
variable {a:Ð}{y d:V}{u r:Ã}
def PF(hu:A.units+1<Ğ)(I:Inv X Â σ H s)(g:DGet H a y o)(ry:RelV y u)(h:∀w' s',Inv X Â σ H s'->RelV (o.getD .non) w'->Q w' s') :
  wpAny ↥2 A (call (.builtin "dict.get") [.ref a,u]) Q E s:=by
 rcases g with⟨kvs,k,e,ey,l⟩|⟨kvs,k,b,e,ey,eb,l⟩
 .subst ey;let⟨z,hd,vs,ų,dd⟩:=XG I.hok e;refine ξ PySem.F.slot_dict_get dd.typeIs PySem.F.entry_dict_get (PySem.F.args_dict_get_2 _ _) (meets_dict_get (Zf X.prog X.w) a (XF ry) hd) ⟨_,dd.mapOf,h _ _ (I.tok _) ?_⟩;rw[l];exact(ų.val k).getD rfl
 .subst ey;cases (show u=Value.ref b from ry);let⟨z,hd,xs,ų,dd⟩:=WN I.hok e;refine ξ PySem.F.slot_dict_get dd.typeIs PySem.F.entry_dict_get (PySem.F.args_dict_get_2 _ _) (meetsH_dict_get (Ϝ<|Zf X.prog X.w) a b hd) ⟨Ţ hu,k,xs,fS I.hok eb,dd,h _ _ (I.tok _) ?_⟩;rw[l];exact(ų.val k).getD rfl
def PH(hu:A.units+1<Ğ)(I:Inv X Â σ H s)(g:DGet H a y o)(ry:RelV y u)(rd:RelV d r)(h:∀w' s',Inv X Â σ H s'->RelV (o.getD d) w'->Q w' s') :
  wpAny ↥2 A (call (.builtin "dict.get") [.ref a,u,r]) Q E s:=by
 rcases g with⟨kvs,k,e,ey,l⟩|⟨kvs,k,b,e,ey,eb,l⟩
 .subst ey;let⟨z,hd,vs,ų,dd⟩:=XG I.hok e;refine ξ PySem.F.slot_dict_get dd.typeIs PySem.F.entry_dict_get (PySem.F.args_dict_get_3 _ _ _) (meets_dict_get_default (Zf X.prog X.w) a (XF ry) hd r) ⟨_,dd.mapOf,h _ _ (I.tok _) ?_⟩;rw[l];exact(ų.val k).getD rd
 .subst ey;cases (show u=Value.ref b from ry);let⟨z,hd,xs,ų,dd⟩:=WN I.hok e;refine ξ PySem.F.slot_dict_get dd.typeIs PySem.F.entry_dict_get (PySem.F.args_dict_get_3 _ _ _) (meetsH_dict_get_default (Ϝ<|Zf X.prog X.w) a b hd r) ⟨Ţ hu,k,xs,fS I.hok eb,dd,h _ _ (I.tok _) ?_⟩;rw[l];exact(ų.val k).getD rd
end
section
def BD:fM X (.builtin "len") λxs H Q=>∃a kvs,xs=[V.ref a]/\H a=fw (.dK kvs)/\Q (.int kvs.length) H:=by k_put;let⟨a,kvs,rfl,ha,q⟩:=h;let⟨u,rfl,ru⟩:=ZU r;cases ru;exact QS I (.inl ha) λt s' I'=>⟨.int kvs.length,H,I',⟨t,rfl⟩,q⟩
end
end L2
namespace O
noncomputable abbrev Ad:=Nat
inductive Val where
 |non|bl (b:Bool)|int (i:Int)|str (s:String)|tup (xs:List Val)|ref (a:Ad)|scr (ns:List Int)|key (i j:Int)
 deriving Inhabited
mutual
noncomputable def Val.eqb:Val->Val->Bool
 |.non,b=>match b with|.non=>fy|_=>fz
 |.bl a,b=>match b with|.bl c=>a==c|_=>fz
 |.int a,b=>match b with|.int c=>a==c|_=>fz
 |.str a,b=>match b with|.str c=>a==c|_=>fz
 |.tup a,b=>match b with|.tup c=>Val.eqs a c|_=>fz
 |.ref a,b=>match b with|.ref c=>a==c|_=>fz
 |.scr a,b=>match b with|.scr c=>a==c|_=>fz
 |.key a b,x=>match x with|.key c d=>a==c&&b==d|_=>fz
noncomputable def Val.eqs:List Val->List Val->Bool
 |[],b=>match b with|[]=>fy|_=>fz
 |x::xs,b=>match b with|y::ys=>Val.eqb x y&&Val.eqs xs ys|_=>fz
end
mutual
theorem Val.eqb_iff:∀{a b:Val},Val.eqb a b=fy↔a=b
 |.non,b=>by cases b<;>simp[Val.eqb]
 |.bl _,b=>by cases b<;>simp[Val.eqb]
 |.int _,b=>by cases b<;>simp[Val.eqb]
 |.str _,b=>by cases b<;>simp[Val.eqb]
 |.tup _,b=>by cases b<;>simp[Val.eqb,Val.eqs_iff]
 |.ref _,b=>by cases b<;>simp[Val.eqb]
 |.scr _,b=>by cases b<;>simp[Val.eqb]
 |.key _ _,b=>by cases b<;>simp[Val.eqb]
theorem Val.eqs_iff:∀{a b:List Val},Val.eqs a b=fy↔a=b
 |[],b=>by cases b<;>simp[Val.eqs]
 |_::_,b=>by cases b<;>simp[Val.eqs,Val.eqb_iff,Val.eqs_iff]
end
noncomputable instance:DecidableEq Val:=λa b=>if h:Val.eqb a b=fy then isTrue (Val.eqb_iff.mp h)else isFalse λe=>h<|Val.eqb_iff.mpr e
inductive Ob where
 |lst (xs:List Val)|dct (kvs:List<|Val×Val)|ins (C:String) (fs:List<|String×Val)|exc (C:String)|frz (kvs:List<|Val×Val)|dtp (kvs:List<|Val×Val)
 deriving Inhabited
abbrev figB(c:Char):Bool:=ik (48<=c.toNat)&&ik (c.toNat<=57)
abbrev decN(l:List Char):Nat:=l.foldl (λa c=>10*a+(c.toNat - 48)) 0
abbrev Q2:Val->Option String
 |.str s=>fw s
 |_=>fx
abbrev oneC(s:String):Option Char:=match s.toList with
 |[c]=>fw c
 |_=>fx
abbrev Hu(i:Int):String:=toString i
abbrev Tw:Val->Option String
 |.str s=>fw s
 |.int i=>if i.natAbs<10 ^ 200 then fw (Hu i)else fx
 |_=>fx
noncomputable abbrev Hs:=Ad->Option Ob
@[irreducible] noncomputable def upd(h:Hs)(a:Ad)(o:Ob):Hs:=λb=>if b=a then fw o else h b
def fB:upd h a o a=fw o:=by simp[upd]
def fA(e:b≠a):upd h a o b=h b:=by simp[upd,e]
def fE:upd (upd h a o) a u=upd h a u:=by funext b;simp![upd];split<;>rfl
noncomputable abbrev Env:=List<|Option Val
noncomputable abbrev Q1:=Val->Hs->Prop
noncomputable abbrev XQ:=String->Hs->Prop
noncomputable abbrev Fs:=String->List Val->Hs->Q1->XQ->Prop
abbrev lim:Nat:=1000000
variable {α:Type}
@[irreducible] noncomputable def go(o:Option α)(k:α->Prop):Prop:=match o with|some a=>k a|none=>False
@[simp] theorem fG{a:α}:go (fw a) k=k a:=by unfold go;rfl
@[simp] theorem GE:go fx k=False:=by unfold go;rfl
def fH{o:Option α}{a:α}{k:α->Prop}(e:o=fw a)(h:k a):go o k:=by rw[e,fG];exact h
set_option genInjectivity false
inductive Bop where|add|sub|mul|fdiv|mod|pow
inductive Cop where|eq|ne|lt|le|gt|ge|isin|notin|is|isnot|eqE|neE|ntT
inductive Bi where
 |len|int|str|bool|abs|min2|max2|minL|maxL|minD|sum|all|any|sorted|sortedI|sortedSet|lenSet|list|tuple|dict|isi (Ts:List String)|isx (Ts:List String)|isc (C:String)|repr|listRev|listRange|tupRange|dictEnum|minP|maxP|listD
inductive Bm where
 |append|extend|pop|popAt|insert|remove|clear|reverse|index|count|dget|dgetD|dpop|dpopD|setdefault|join|split|replace|upper|partition|sidx
inductive Pt where|one (i:Nat)|many (is:List Nat)|nest (i:Nat) (is:List Nat)
mutual
inductive E where
 |cst (v:Val)|var (i:Nat)|glob (x:String) (v:Val)
 |bin (op:Bop) (a b:E)|neg (a:E)|not (a:E)|and (a b:E)|or (a b:E)
 |cmp (op:Cop) (a b:E)|chain (o1 o2:Cop) (a b c:E)
 |call (f:String) (as:Es)|make (C:String) (as:Es)|meth (C m:String) (o:E) (as:Es)|meth2 (C D m:String) (o:E) (as:Es)|fld (o:E) (f:String)
 |bi (f:Bi) (as:Es)|bm (m:Bm) (o:E) (as:Es)
 |idx (a i:E)|slc (a:E) (lo hi:Oe)|rev (a:E)|pick (a:E) (lo hi:Oe) (st:E)|sortT (a:E)
 |tup (es:Es)|lst (es:Es)|dct (es:Es)
 |ife (c:Tt) (a b:E)
 |comp (þ:List Nat) (n:Nat) (p:Pt) (it:It) (c:Tt) (e:E)
 |fstr (es:Es)
 |split (o a:E)
 |repl (o:E) (y z:String)
 |key (es:Es)|dctP
inductive Es where|nil|cons (e:E) (es:Es)
inductive Oe where|none|some (e:E)
inductive Tt where|yes|val (e:E)|not (t:Tt)|and (a b:Tt)|or (a b:Tt)
inductive It where
 |seq (e:E)|chars (e:E)|range (a:E)|range2 (a b:E)|enum (e:E)|enumL (e:E)|zip (a b:E)|items (e:E)|rev (e:E)|keysF (e:E)|seqT (k:Nat) (e:E)
end
mutual
inductive S where
 |set (p:Pt) (e:E)|setIdx (a i e:E)|setFld (o:E) (f:String) (e:E)
 |augVar (i:Nat) (op:Bop) (e:E)|augFld (o:E) (f:String) (op:Bop) (n:Int)|augIdx (a i:E) (op:Bop) (n:Int)
 |setPair (a i b j e:E)
 |expr (e:E)|ret (e:E)|retN|ite (c:Tt) (a b:Ss)|whl (c:Tt) (b:Ss)|for (p:Pt) (it:It) (b:Ss)|forI (k:Bool) (p:Pt) (e:E) (b:Ss)
 |never|brk|cnt|pass|raise (C:String) (as:Es)|try (t:Option Nat) (e:E) (hs:Hn)
inductive Ss where|nil|cons (s:S) (ss:Ss)
inductive Hn where|nil|cons (C:String) (n:Option Nat) (b:Ss) (r:Hn)
end
set_option genInjectivity true
abbrev ixN(n:Nat)(i:Int):Option Nat:=if 0<=i then(if i<n then fw i.toNat else fx)else if -(n:Int)<=i then fw (i+n).toNat else fx
abbrev atI(xs:List α)(i:Int):Option α:=(ixN xs.length i).bind λj=>xs[j]?
abbrev gx(n d:Nat):Option Int->Nat
 |none=>d
 |some i=>if 0<=i then min i.toNat n else(i+n).toNat
abbrev cut(xs:List α)(lo hi:Option Int):List α:=(xs.drop<|gx xs.length 0 lo).take<|gx xs.length xs.length hi - gx xs.length 0 lo
abbrev pickL(ix:List Nat)(xs:List α):List α:=ix.filterMap λi=>xs[i]?
abbrev fQ:Option Ob->Option (List Val)
 |some (.lst xs)=>fw xs
 |_=>fx
@[simp] theorem Yl:fQ (fw<|.lst xs)=fw xs:=rfl
abbrev Cf(h:Hs):Val->Option (List Val)
 |.ref a=>fQ<|h a
 |.tup xs=>fw xs
 |.scr ns=>fw<|ns.map .int
 |_=>fx
abbrev lsA(h:Hs):Val->Option (List Val)
 |.ref a=>fQ<|h a
 |.scr ns=>fw<|ns.map .int
 |_=>fx
abbrev gX:Option Ob->Option (List<|Val×Val)
 |some (.dct kvs)=>fw kvs
 |_=>fx
abbrev gf(kvs:List<|Val×Val)(k:Val):Option Val:=(kvs.find? λp=>p.1==k).map (·.2)
abbrev gg(kvs:List<|Val×Val)(k:Val):Bool:=kvs.any λp=>p.1==k
abbrev gh(kvs:List<|Val×Val)(k v:Val):List<|Val×Val:=if gg kvs k then kvs.map λp=>if p.1==k then(k,v)else p else kvs++[(k,v)]
abbrev gj(kvs:List<|Val×Val)(k:Val):List<|Val×Val:=kvs.filter λp=>!(p.1==k)
abbrev fX:Val->Bool
 |.int _=>fy
 |.str _=>fy
 |_=>fz
inductive D where
 |non|bl (b:Bool)|int (i:Int)|str (s:String)|tup (ds:List D)|lst (ds:List D)
 deriving Inhabited
mutual
noncomputable def D.eqv:D->D->Bool
 |.non,.non=>fy
 |.bl a,.bl b=>a==b
 |.bl a,.int i=>(if a then 1 else 0)==i
 |.int i,.bl a=>i==(if a then 1 else 0)
 |.int a,.int b=>a==b
 |.str a,.str b=>a==b
 |.tup a,.tup b=>D.eqvs a b
 |.lst a,.lst b=>D.eqvs a b
 |_,_=>fz
noncomputable def D.eqvs:List D->List D->Bool
 |[],[]=>fy
 |x::xs,y::ys=>D.eqv x y&&D.eqvs xs ys
 |_,_=>fz
end
abbrev dat(h:Hs):Nat->Val->Option D
 |_,.non=>fw .non
 |_,.bl b=>fw<|.bl b
 |_,.int i=>fw<|.int i
 |_,.str s=>fw<|.str s
 |0,_=>fx
 |n+1,.tup xs=>(xs.mapM<|dat h n).map .tup
 |n+1,.ref a=>(fQ<|h a).bind λxs=>(xs.mapM<|dat h n).map .lst
 |n+1,.scr ns=>fw<|.lst<|ns.map .int
 |_+1,.key _ _=>fx
abbrev deep:Nat:=12
abbrev eqV(h:Hs)(v u:Val):Option Bool:=(dat h deep v).bind λd=>(dat h deep u).map λe=>D.eqv d e
abbrev fL:List Val->Option (List Int)
 |[]=>fw []
 |.int i::xs=>(fL xs).map (i :: ·)
 |_=>fx
abbrev gy:List Int->List Int->Bool
 |[],[]=>fz
 |[],_::_=>fy
 |_::_,[]=>fz
 |x::xs,y::ys=>if x=y then gy xs ys else ik (x<y)
abbrev gA:Val->Val->Option Bool
 |.int i,.int j=>fw<|ik (i<j)
 |.tup xs,.tup ys=>(fL xs).bind λns=>(fL ys).map λms=>gy ns ms
 |_,_=>fx
abbrev inL(h:Hs)(x:Val)(ys:List Val):Option Bool:=(dat h deep x).bind λd=>(ys.mapM<|dat h<|deep - 1).map λds=>ds.any λe=>D.eqv e d
abbrev leV:Val->Val->Option Bool
 |.int i,.int j=>fw<|ik (i<=j)
 |_,_=>fx
abbrev isKeyT:Val->Bool
 |.key _ _=>fy
 |_=>fz
abbrev inV(h:Hs)(v u:Val):Option Bool:=match u with
 |.tup xs=>inL h v xs
 |.ref a=>match h a with
  |some (.lst xs)=>inL h v xs
  |some (.dct kvs)=>if fX v then fw (gg kvs v)else fx
  |some (.frz kvs)=>if fX v then fw (gg kvs v)else fx
  |some (.dtp kvs)=>if isKeyT v then fw (gg kvs v)else fx
  |_=>fx
 |.str t=>(match v with|.str s=>(oneC s).map λc=>ik (c∈t.toList)|_=>fx)
 |_=>fx
abbrev isV(v u:Val):Option Bool:=match u with
 |.non=>fw<|ik (v=.non)
 |.bl b=>fw<|ik (v=.bl b)
 |_=>fx
abbrev asLst(h:Hs):Val->Option (List Val)
 |.ref a=>fQ<|h a
 |_=>fx
abbrev fU(h:Hs)(op:Cop)(v u:Val):Option Bool:=match op with
 |.eq=>eqV h v u
 |.ne=>(eqV h v u).map (!·)
 |.lt=>gA v u
 |.gt=>gA u v
 |.le=>leV v u
 |.ge=>leV u v
 |.isin=>inV h v u
 |.notin=>(inV h v u).map (!·)
 |.is=>isV v u
 |.isnot=>(isV v u).map (!·)
 |.eqE=>(asLst h v).bind λxs=>(asLst h u).bind λys=>if ys.isEmpty then fw xs.isEmpty else fx
 |.neE=>(asLst h v).bind λxs=>(asLst h u).bind λys=>if ys.isEmpty then fw (!xs.isEmpty)else fx
 |_=>fx
abbrev WF(h:Hs):Val->Option Bool
 |.bl b=>fw b
 |.int i=>fw<|ik (i≠0)
 |.non=>fw fz
 |.str s=>if s.length<=lim then fw (ik (s.length≠0))else fx
 |.tup xs=>fw (!xs.isEmpty)
 |.scr ns=>fw (!ns.isEmpty)
 |.ref a=>match h a with
  |some (.lst xs)=>fw (!xs.isEmpty)
  |some (.dct kvs)=>fw (!kvs.isEmpty)
  |_=>fx
 |.key _ _=>fx
abbrev mulOk(i j:Int):Prop:=(i.natAbs<2 ^ 64\/j.natAbs<2 ^ 64)\/(i.natAbs<=10 ^ 200/\j.natAbs<=10 ^ 200)
instance (i j:Int):Decidable<|mulOk i j:=inferInstanceAs<|Decidable<|_\/_
@[irreducible] noncomputable def new(h:Hs)(o:Ob)(Q:Q1):Prop:=∀p,h p=fx->Q (.ref p) (upd h p o)
def Yh(q:∀p,h p=fx->Q (.ref p) (upd h p o)):new h o Q:=by unfold new;exact q
inductive Rs where|val (v:Val)|new (o:Ob)|no
@[irreducible] noncomputable def Rs.wp(r:Rs)(h:Hs)(Q:Q1):Prop:=match r with|.val v=>Q v h|.new o=>O.new h o Q|.no=>False
@[simp] theorem Rs.wp_val:(Rs.val v).wp h Q=Q v h:=by unfold Rs.wp;rfl
@[simp] theorem Rs.wp_new:(Rs.new o).wp h Q=O.new h o Q:=by unfold Rs.wp;rfl
@[simp] theorem Rs.wp_no:Rs.no.wp h Q=False:=by unfold Rs.wp;rfl
abbrev Rs.ofO:Option Val->Rs
 |some v=>.val v
 |none=>.no
abbrev Rs.lst(xs:List Val):Rs:=if xs.length<=lim then .new (.lst xs)else .no
abbrev addV(h:Hs):Val->Val->Rs
 |.int i,.int j=>.val<|.int<|i+j
 |.str s,.str t=>if s.length+t.length<=lim then .val (.str<|s++t)else .no
 |.tup xs,.tup ys=>if xs.length+ys.length<=lim then .val (.tup<|xs++ys)else .no
 |.ref a,.ref b=>match h a,h b with
  |some (.lst xs),fw (.lst ys)=>Rs.lst<|xs++ys
  |_,_=>.no
 |_,_=>.no
abbrev repT(s:String)(n:Nat):String:=Ξ (Þ n s.toList).flatten
abbrev mulV(h:Hs):Val->Val->Rs
 |.int i,.int j=>if mulOk i j then .val (.int<|i*j)else .no
 |.ref a,.int k=>match h a with
  |some (.lst xs)=>if -(2 ^ 62)<k/\k<2 ^ 62/\xs.length*k.toNat<=lim then Rs.lst (Þ k.toNat xs).flatten else .no
  |_=>.no
 |.str s,.int k=>if 2<=k/\k<=1000000/\1<=s.length/\s.length*k.toNat<=lim then .val (.str<|repT s k.toNat)else .no
 |_,_=>.no
abbrev intV(f:Int->Int->Rs):Val->Val->Rs
 |.int i,.int j=>f i j
 |_,_=>.no
abbrev binV(h:Hs)(op:Bop)(v u:Val):Rs:=match op with
 |.add=>addV h v u
 |.sub=>intV (λi j=>.val<|.int<|i - j) v u
 |.mul=>mulV h v u
 |.fdiv=>intV (λi j=>if 0<j/\j<1073741824 then .val (.int<|i / j)else .no) v u
 |.mod=>intV (λi j=>if 0<j then .val (.int<|i % j)else .no) v u
 |.pow=>intV (λi j=>if 0<=j/\j<=1000000/\i.natAbs<2 ^ 64 then .val (.int<|i ^ j.toNat)else .no) v u
abbrev gY:Val->Option Int
 |.int i=>fw i
 |_=>fx
abbrev gB(h:Hs):Val->Val->Option Val
 |.tup xs,.int k=>atI xs k
 |.str s,.int k=>if s.length<=lim then(atI s.toList k).map λc=>.str (ak c)else fx
 |.ref a,k=>match h a with
  |some (.lst xs)=>(gY k).bind<|atI xs
  |some (.dct kvs)=>if fX k then gf kvs k else fx
  |some (.frz kvs)=>if fX k then gf kvs k else fx
  |some (.dtp kvs)=>if isKeyT k then gf kvs k else fx
  |_=>fx
 |.scr ns,.int i=>atI (ns.map .int) i
 |_,_=>fx
abbrev gC(h:Hs)(v:Val)(lo hi:Option Int):Rs :=
 match v with
 |.tup xs=>if gx xs.length 0 lo=0/\gx xs.length xs.length hi=xs.length then .val (.tup xs)else .val (.tup<|cut xs lo hi)
 |.ref a=>match fQ (h a)with
  |some xs=>.new<|.lst<|cut xs lo hi
  |none=>.no
 |.scr ns=>.new<|.lst<|cut (ns.map .int) lo hi
 |.str s=>if s.length<=lim then .val (.str<|Ξ<|cut s.toList lo hi)else .no
 |_=>.no
abbrev sortI(ns:List Int):List Int:=ns.mergeSort λa b=>ik (a<=b)
abbrev blsOf:List Val->Option (List Bool)
 |[]=>fw []
 |.bl b::xs=>(blsOf xs).map (b :: ·)
 |_=>fx
abbrev minL:List Val->Option Val
 |[]=>fx
 |x::xs=>xs.foldl (λm y=>m.bind λb=>(gA y b).map λc=>if c then y else b)<|fw x
abbrev maxL:List Val->Option Val
 |[]=>fx
 |x::xs=>xs.foldl (λm y=>m.bind λb=>(gA b y).map λc=>if c then y else b)<|fw x
abbrev dedup:List Int->List Int
 |[]=>[]
 |x::xs=>x::(dedup xs).filter (· != x)
abbrev gR(c d:String):Bool:=c==d||d == "ShutError" || d == "ValueError" || d == "Exception"
abbrev hU(h:Hs):Val->Option String
 |.non=>fw "NoneType"
 |.bl _=>fw "bool"
 |.int _=>fw "int"
 |.str _=>fw "str"
 |.tup _=>fw "tuple"
 |.scr _=>fw "list"
 |.ref a=>match h a with
  |some (.lst _)=>fw "list"
  |some (.dct _)=>fw "dict"
  |_=>fx
 |.key _ _=>fx
abbrev hV(h:Hs)(v:Val)(T:String):Option Bool:=(hU h v).map λt=>t==T||(t == "bool" && T == "int")
abbrev isiAny(h:Hs)(v:Val):List String->Option Bool
 |[]=>fw fz
 |T::Ts=>(hV h v T).bind λb=>(isiAny h v Ts).map (b || ·)
abbrev pairUp:List Val->Option (List<|Val×Val)
 |[]=>fw []
 |k::v::r=>if fX k then(pairUp r).map ((k,v) :: ·)else fx
 |_=>fx
abbrev putAll(kvs:List<|Val×Val):List (Val×Val)->List (Val×Val)
 |[]=>kvs
 |(k,v)::r=>putAll (gh kvs k v) r
abbrev gG(h:Hs):Val->Rs
 |.ref a=>match h a with
  |some (.lst xs)=>.val<|.int xs.length
  |some (.dct kvs)=>.val<|.int kvs.length
  |_=>.no
 |.tup xs=>.val<|.int xs.length
 |.scr ns=>.val<|.int ns.length
 |.str s=>if s.length<=lim then .val (.int s.length)else .no
 |_=>.no
abbrev Sj:Val->Rs
 |.int i=>.val<|.int i
 |.bl b=>.val (.int<|if b then 1 else 0)
 |.str s=>if s.length<=640/\s.toList≠[]/\s.toList.all figB=fy then .val (.int<|decN s.toList)else .no
 |_=>.no
abbrev absV:Val->Rs
 |.int i=>.val (.int<|if i<0 then -i else i)
 |_=>.no
abbrev fR(f:Val->Rs):List Val->Rs
 |[v]=>f v
 |_=>.no
abbrev biOf2(f:Val->Val->Rs):List Val->Rs
 |[v,u]=>f v u
 |_=>.no
abbrev rowsOf:List Val->Option (List<|List Int)
 |[]=>fw []
 |.tup xs::r=>(fL xs).bind λns=>(rowsOf r).map (ns :: ·)
 |_=>fx
abbrev minR(b:List Int):List (List Int)->List Int
 |[]=>b
 |y::r=>minR (if gy y b then y else b) r
abbrev gH(h:Hs)(v:Val):Rs:=match v with
 |.ref a=>match (fQ<|h a).bind rowsOf with
  |some []=>.val .non
  |some (x::r)=>.val<|.tup<|(minR x r).map .int
  |none=>.no
 |_=>.no
abbrev SC(h:Hs):Val->Rs
 |.ref a=>.ofO<|(fQ<|h a).bind λxs=>(blsOf xs).map λbs=>.bl<|bs.all id
 |_=>.no
abbrev sortOf(h:Hs):Val->Option (List Int)
 |.ref a=>(fQ<|h a).bind fL
 |.scr ns=>fw ns
 |_=>fx
abbrev keysOf(kvs:List<|Val×Val):Option<|List Int:=fL (kvs.map (·.1))
abbrev sortAny(h:Hs)(v:Val):Option<|List Int:=match v with
 |.ref a=>match h a with
  |some (.lst xs)=>fL xs
  |some (.dct kvs)=>keysOf kvs
  |_=>fx
 |.scr ns=>fw ns
 |_=>fx
abbrev Ry(ĝ:List<|List Int):List<|List Int:=ĝ.mergeSort λa b=>!gy b a
abbrev LY(h:Hs)(v:Val):Option<|List<|List Int:=match v with
 |.ref a=>(fQ<|h a).bind rowsOf
 |_=>fx
abbrev AG(h:Hs)(v:Val):Rs:=match LY h v with
 |some ĝ=>if ĝ.length<64/\(ĝ.all λr=>!r.isEmpty)=fy then .new (.lst<|(Ry ĝ).map λr=>.tup<|r.map .int)else .no
 |none=>.no
abbrev JR(h:Hs)(v:Val):Rs:=match sortAny h v with
 |some ns=>if ns.length<64 then .new (.lst<|(sortI ns).map .int)else .no
 |none=>AG h v
abbrev biSortedI(h:Hs)(v:Val):Rs:=match sortAny h v with
 |some ns=>if ns.length<64 then .new (.lst<|(sortI ns).map .int)else .no
 |none=>.no
abbrev biSortedSet(h:Hs)(v:Val):Rs:=match sortOf h v with
 |some ns=>if ns.length<64 then .new (.lst<|(sortI<|dedup ns).map .int)else .no
 |none=>.no
abbrev biLenSet(h:Hs)(v:Val):Rs:=match sortOf h v with
 |some ns=>if ns.length<4000 then .val (.int (dedup ns).length)else .no
 |none=>.no
abbrev toList(h:Hs):Val->Rs
 |.ref a=>match h a with
  |some (.lst xs)=>.new<|.lst xs
  |_=>.no
 |.tup xs=>.new<|.lst xs
 |_=>.no
abbrev MP(h:Hs):Val->Rs
 |.ref a=>match h a with
  |some (.lst xs)=>.val<|.tup xs
  |_=>.no
 |.tup xs=>.val<|.tup xs
 |_=>.no
abbrev pairS:Val->Option (String×String)
 |.tup [.str s,.str t]=>fw (s,t)
 |_=>fx
abbrev biV(h:Hs)(b:Bi)(vs:List Val):Rs:=match b with
 |.len=>fR (gG h) vs
 |.int=>fR Sj vs
 |.min2=>biOf2 (intV λi j=>.val<|.int<|if j<i then j else i) vs
 |.max2=>biOf2 (intV λi j=>.val<|.int<|if j > i then j else i) vs
 |.minD=>fR (gH h) vs
 |.all=>fR (SC h) vs
 |.sorted=>fR (JR h) vs
 |.sortedI=>fR (biSortedI h) vs
 |.sortedSet=>fR (biSortedSet h) vs
 |.lenSet=>fR (biLenSet h) vs
 |.list=>fR (toList h) vs
 |.tuple=>fR (MP h) vs
 |.isi Ts=>fR (λv=>.ofO<|(isiAny h v Ts).map .bl) vs
 |_=>.no
abbrev bmL(h:Hs)(v:Val)(f:Ad->List Val->Option (Val×Hs)):Option<|Val×Hs:=match v with
 |.ref a=>(fQ<|h a).bind<|f a
 |_=>fx
abbrev bmD(h:Hs)(v:Val)(f:Ad->List (Val×Val)->Option (Val×Hs)):Option<|Val×Hs:=match v with
 |.ref a=>(gX<|h a).bind<|f a
 |_=>fx
abbrev DN(h:Hs)(vs:List Val)(a:Ad)(xs:List Val):Option<|Val×Hs:=match vs with
 |[v]=>if xs.length<lim then fw (.non,upd h a<|.lst<|xs++[v])else fx
 |_=>fx
abbrev bmPopAt(h:Hs)(vs:List Val)(a:Ad)(xs:List Val):Option<|Val×Hs:=match vs with
 |[.int i]=>if -(2 ^ 62)<i/\i<2 ^ 62 then(ixN xs.length i).bind λk=>(xs[k]?).map λv=>(v,upd h a<|.lst<|xs.eraseIdx k)else fx
 |_=>fx
abbrev Sb(h:Hs)(vs:List Val)(a:Ad)(kvs:List<|Val×Val):Option<|Val×Hs:=match vs with
 |[k]=>if fX k then fw ((gf kvs k).getD .non,h)else fx
 |_=>fx
abbrev bmGetD(h:Hs)(vs:List Val)(a:Ad)(kvs:List<|Val×Val):Option<|Val×Hs:=match vs with
 |[k,d]=>if fX k then fw ((gf kvs k).getD d,h)else fx
 |_=>fx
abbrev dpAt(h:Hs):Val->Option (List<|Val×Val)
 |.ref a=>match h a with
  |some (.dtp kvs)=>fw kvs
  |_=>fx
 |_=>fx
abbrev bmGetT(h:Hs)(vs:List Val)(kvs:List<|Val×Val):Option<|Val×Hs:=match vs with
 |[k,d]=>if isKeyT k then fw ((gf kvs k).getD d,h)else fx
 |_=>fx
abbrev OP(h:Hs)(v:Val)(vs:List Val):Option<|Val×Hs:=match dpAt h v with
 |some kvs=>bmGetT h vs kvs
 |none=>bmD h v<|bmGetD h vs
abbrev LV(h:Hs)(vs:List Val)(a:Ad)(kvs:List<|Val×Val):Option<|Val×Hs:=match vs with
 |[k]=>if fX k then(gf kvs k).map λv=>(v,upd h a<|.dct<|gj kvs k)else fx
 |_=>fx
abbrev HF(h:Hs)(vs:List Val)(a:Ad)(kvs:List<|Val×Val):Option<|Val×Hs:=match vs with
 |[k,d]=>if fX k then fw ((gf kvs k).getD d,upd h a<|.dct<|gj kvs k)else fx
 |_=>fx
abbrev bmV(h:Hs)(m:Bm)(v:Val)(vs:List Val):Option<|Val×Hs:=match m with
 |.append=>bmL h v<|DN h vs
 |.popAt=>bmL h v<|bmPopAt h vs
 |.dget=>bmD h v<|Sb h vs
 |.dgetD=>OP h v vs
 |.dpop=>bmD h v<|LV h vs
 |.dpopD=>bmD h v<|HF h vs
 |_=>fx
abbrev isLst:Option Ob->Bool
 |some (.lst _)=>fy
 |_=>fz
abbrev isDct:Option Ob->Bool
 |some (.dct _)=>fy
 |some (.dtp _)=>fy
 |_=>fz
inductive Ty where|l|d|s|t
abbrev Bm.ty:Bm->Ty
 |.dget=>.d
 |.dgetD=>.d
 |.dpop=>.d
 |.dpopD=>.d
 |.setdefault=>.d
 |.join=>.s
 |.split=>.s
 |.replace=>.s
 |.upper=>.s
 |.partition=>.s
 |.sidx=>.s
 |.index=>.t
 |_=>.l
abbrev JX(p:Option Ob->Bool)(h:Hs):Val->Bool
 |.ref a=>p<|h a
 |_=>fz
abbrev Px:Val->Bool
 |.str _=>fy
 |_=>fz
abbrev Qu:Val->Bool
 |.tup _=>fy
 |_=>fz
abbrev bmTy(h:Hs)(m:Bm)(v:Val):Bool:=match m.ty with
 |.l=>JX isLst h v
 |.d=>JX isDct h v
 |.s=>Px v
 |.t=>JX isLst h v||Qu v
abbrev fT:List (String×Val)->String->Val->List (String×Val)
 |[],f,v=>[(f,v)]
 |(g,x)::r,f,v=>if g=f then(g,v)::r else(g,x)::fT r f v
abbrev getV(env:Env)(i:Nat):Option Val:=match env[i]? with
 |some (fw v)=>fw v
 |_=>fx
abbrev gZ:Val->Option Bool
 |.bl b=>fw b
 |_=>fx
abbrev gu:Val->Option Ad
 |.ref a=>fw a
 |_=>fx
abbrev insOf:Option Ob->Option (String×List (String×Val))
 |some (.ins C fs)=>fw (C,fs)
 |_=>fx
abbrev tupOf:Val->Option (List Val)
 |.tup xs=>fw xs
 |_=>fx
abbrev bindL:List Nat->List Val->Env->Option Env
 |[],[],env=>fw env
 |i::is,x::xs,env=>bindL is xs<|env.set i<|fw x
 |_,_,_=>fx
abbrev bind(p:Pt)(h:Hs)(v:Val)(env:Env):Option Env :=
 match p with
 |.one i=>fw<|env.set i<|fw v
 |.many is=>(tupOf v).bind λxs=>bindL is xs env
 |.nest i is=>(tupOf v).bind λxs=>match xs with
  |[x,y]=>(tupOf y).bind λys=>bindL is ys<|env.set i<|fw x
  |_=>fx
abbrev wComp(st:Hs->Prop)(step:Val->Hs->(Option Val->Hs->Prop)->XQ->Prop):List Val->List Val->Hs->(List Val->Hs->Prop)->XQ->Prop
 |[],Ķ,h,Q,_=>st h/\Q Ķ h
 |v::vs,Ķ,h,Q,X=>st h/\step v h (λr h'=>wComp st step vs (Ķ++r.toList) h' Q X) X
abbrev enumL:Nat->List Val->List Val
 |_,[]=>[]
 |k,x::xs=>.tup [.int k,x]::enumL (k+1) xs
abbrev itV(h:Hs):Val->Option ((Hs->Prop)×List Val)
 |.tup xs=>fw (λ_=>True,xs)
 |.scr ns=>fw (λ_=>True,ns.map .int)
 |.ref a=>(fQ<|h a).map λxs=>(λg=>fQ (g a)=fw xs,xs)
 |_=>fx
abbrev itemOf(k:Bool)(p:Val×Val):Val:=if k then p.1 else .tup [p.1,p.2]
abbrev gq(i j:Int):List Val:=(List.range (j - i).toNat).map λ(k:Nat)=>.int<|i+k
abbrev gD(h:Hs)(o k v:Val):Option Hs :=
 match o with
 |.ref p=>match h p with
  |some (.lst xs)=>(gY k).bind λn=>(ixN xs.length n).map λj=>upd h p<|.lst<|xs.set j v
  |some (.dct kvs)=>if fX k/\kvs.length<lim then fw (upd h p<|.dct<|gh kvs k v)else fx
  |some (.dtp kvs)=>if isKeyT k/\kvs.length<lim then fw (upd h p<|.dtp<|gh kvs k v)else fx
  |_=>fx
 |_=>fx
abbrev gF(h:Hs)(o:Val)(f:String)(v:Val):Option Hs :=
 match o with
 |.ref p=>match h p with
  |some (.ins C fs)=>if fs.length<900 then fw (upd h p<|.ins C<|fT fs f v)else fx
  |_=>fx
 |_=>fx
abbrev gE(h:Hs)(o:Val)(f:String):Option Val:=(gu o).bind λa=>(insOf<|h a).bind λp=>p.2.lookup f
abbrev clsV(h:Hs)(o:Val)(m:String):Option String:=(gu o).bind λa=>(insOf<|h a).bind λp=>if(p.2.lookup m).isNone then fw p.1 else fx
abbrev augV(op:Bop)(x y:Val):Option Val:=match op,x,y with
 |.add,.int i,.int j=>fw<|.int<|i+j
 |.sub,.int i,.int j=>fw<|.int<|i - j
 |_,_,_=>fx
@[irreducible] noncomputable def Ou(F:Hs->(List Val->Hs->Prop)->XQ->Prop)(h:Hs)(Q:Q1)(X:XQ):Prop:=new h (.dct []) λr h1=>go (gu r) λp=>F h1 (λvs h2=>go (pairUp vs) λkvs=>h2 p=fw (.dct [])/\Q (.ref p) (upd h2 p<|.dct<|putAll [] kvs)) X
mutual
@[reducible] noncomputable def xE(Φ:Fs):E->Env->Hs->Q1->XQ->Prop
 |.cst v,_,h,Q,_=>Q v h
 |.glob _ v,_,h,Q,_=>Q v h
 |.var i,env,h,Q,_=>go (getV env i) λv=>Q v h
 |.bin op a b,env,h,Q,X=>xE Φ a env h (λv h1=>xE Φ b env h1 (λu h2=>(binV h2 op v u).wp h2 Q) X) X
 |.neg a,env,h,Q,X=>xE Φ a env h (λv h1=>go (gY v) λi=>Q (.int (-i)) h1) X
 |.not a,env,h,Q,X=>xE Φ a env h (λv h1=>go (gZ v) λb=>Q (.bl (!b)) h1) X
 |.and a b,env,h,Q,X=>xE Φ a env h (λv h1=>go (gZ v) λc=>if c=fy then xE Φ b env h1 Q X else Q (.bl fz) h1) X
 |.or a b,env,h,Q,X=>xE Φ a env h (λv h1=>go (gZ v) λc=>if c=fy then Q (.bl fy) h1 else xE Φ b env h1 Q X) X
 |.cmp op a b,env,h,Q,X=>xE Φ a env h (λv h1=>xE Φ b env h1 (λu h2=>go (fU h2 op v u) λc=>Q (.bl c) h2) X) X
 | .chain o1 o2 a b c,env,h,Q,X=>xE Φ a env h (λv h1=>xE Φ b env h1 (λu h2=>go (fU h2 o1 v u) λk =>
     if k=fy then xE Φ c env h2 (λw h3=>go (fU h3 o2 u w) λk2=>Q (.bl k2) h3) X else Q (.bl fz) h2) X) X
 |.call f as,env,h,Q,X=>xA Φ as env h (λvs h1=>Φ f vs h1 Q X) X
 |.make C as,env,h,Q,X=>xA Φ as env h (λvs h1=>∀p,h1 p=fx->Φ (C ++ ".__init__") (.ref p::vs) (upd h1 p<|.ins C []) (λv h2=>v=.non/\Q (.ref p) h2) X) X
 |.meth C m o as,env,h,Q,X=>xE Φ o env h (λv h1=>clsV h1 v m=fw C/\xA Φ as env h1 (λvs h2=>Φ (C ++ "." ++ m) (v::vs) h2 Q X) X) X
 |.meth2 C D m o as,env,h,Q,X=>xE Φ o env h (λv h1=>clsV h1 v m=fw C/\xA Φ as env h1 (λvs h2=>Φ (C ++ "." ++ m) (v::vs) h2 Q X) X) X\/xE Φ o env h (λv h1=>clsV h1 v m=fw D/\xA Φ as env h1 (λvs h2=>Φ (D ++ "." ++ m) (v::vs) h2 Q X) X) X
 |.fld o f,env,h,Q,X=>xE Φ o env h (λv h1=>go (gE h1 v f) λu=>Q u h1) X
 |.bi f as,env,h,Q,X=>xA Φ as env h (λvs h1=>(biV h1 f vs).wp h1 Q) X
 |.bm m o as,env,h,Q,X=>xE Φ o env h (λv h1=>bmTy h1 m v=fy/\xA Φ as env h1 (λvs h2=>go (bmV h2 m v vs) λr=>Q r.1 r.2) X) X
 |.idx a i,env,h,Q,X=>xE Φ a env h (λv h1=>xE Φ i env h1 (λk h2=>go (gB h2 v k) λu=>Q u h2) X) X
 |.slc a lo hi,env,h,Q,X=>xE Φ a env h (λv h1=>xO Φ lo env h1 (λl h2=>xO Φ hi env h2 (λu h3=>(gC h3 v l u).wp h3 Q) X) X) X
 |.pick a lo hi st,env,h,Q,X=>xE Φ a env h (λv h1=>xO Φ lo env h1 (λ_ h2=>xO Φ hi env h2 (λ_ h3=>xE Φ st env h3 (λk h4=>go (gY k) λj=>j≠0/\go (lsA h4 v) λxs=>∀ix:List Nat,ix.Nodup->ix.length<=xs.length->new h4 (.lst<|pickL ix xs) Q) X) X) X) X
 |.sortT a,env,h,Q,X=>xE Φ a env h (λv h1=>go (pairS v) λp=>∀l:List String,l.Perm [p.1,p.2]->l≠["parent","child"]->new h1 (.lst<|l.map .str) Q) X
 |.tup es,env,h,Q,X=>xA Φ es env h (λvs h1=>Q (.tup vs) h1) X
 |.lst es,env,h,Q,X=>xA Φ es env h (λvs h1=>new h1 (.lst vs) Q) X
 |.dct es,env,h,Q,X=>Ou (xA Φ es env) h Q X
 |.ife c a b,env,h,Q,X=>xT Φ c env h (λk h1=>if k=fy then xE Φ a env h1 Q X else xE Φ b env h1 Q X) X
 | .comp þ n p it c e,env,h,Q,X=>xI Φ it env h (λst xs h1=>xs.length<lim/\
     wComp st (λv h2 K X2=>go (bind p h2 v<|Þ n fx++þ.map λj=>(env[j]?).getD fx) λŝ =>
       xT Φ c ŝ h2 (λk h3=>if k=fy then xE Φ e ŝ h3 (λu h4=>K (fw u) h4) X2 else K fx h3) X2) xs [] h1 (λys h5=>new h5 (.lst ys) Q) λ_ _=>False) X
 |_,_,_,_,_=>False
@[reducible] noncomputable def xA(Φ:Fs):Es->Env->Hs->(List Val->Hs->Prop)->XQ->Prop
 |.nil,_,h,Q,_=>Q [] h
 |.cons e es,env,h,Q,X=>xE Φ e env h (λv h1=>xA Φ es env h1 (λvs h2=>Q (v::vs) h2) X) X
@[reducible] noncomputable def xJ(Φ:Fs):Es->Env->Hs->String->(String->Hs->Prop)->XQ->Prop
 |.nil,_,h,Ķ,Q,_=>Q Ķ h
 |.cons e es,env,h,Ķ,Q,X=>xE Φ e env h (λv h1=>go (Tw v) λs=>Ķ.length+s.length<=lim/\xJ Φ es env h1 (Ķ++s) Q X) X
@[reducible] noncomputable def xO(Φ:Fs):Oe->Env->Hs->(Option Int->Hs->Prop)->XQ->Prop
 |.none,_,h,Q,_=>Q fx h
 |.some e,env,h,Q,X=>xE Φ e env h (λv h1=>go (gY v) λi=>Q (fw i) h1) X
@[reducible] noncomputable def xT(Φ:Fs):Tt->Env->Hs->(Bool->Hs->Prop)->XQ->Prop
 |.yes,_,h,Q,_=>Q fy h
 |.val e,env,h,Q,X=>xE Φ e env h (λv h1=>go (WF h1 v) λk=>Q k h1) X
 |.not a,env,h,Q,X=>xT Φ a env h (λk h1=>Q (!k) h1) X
 |.and a b,env,h,Q,X=>xT Φ a env h (λk h1=>if k=fy then xT Φ b env h1 Q X else Q fz h1) X
 |.or a b,env,h,Q,X=>xT Φ a env h (λk h1=>if k=fy then Q fy h1 else xT Φ b env h1 Q X) X
@[reducible] noncomputable def xI(Φ:Fs):It->Env->Hs->((Hs->Prop)->List Val->Hs->Prop)->XQ->Prop
 |.seq e,env,h,Q,X=>xE Φ e env h (λv h1=>go (itV h1 v) λp=>Q p.1 p.2 h1) X
 |.range a,env,h,Q,X=>xE Φ a env h (λv h1=>go (gY v) λn=>(-(2 ^ 62)<=n/\n<2 ^ 62)/\Q (λ_=>True) (gq 0 n) h1) X
 | .range2 a b,env,h,Q,X=>xE Φ a env h (λv h1=>xE Φ b env h1 (λu h2=>go (gY v) λi=>go (gY u) λj =>
     (-(2 ^ 62)<=i/\i<2 ^ 62/\-(2 ^ 62)<=j/\j<2 ^ 62)/\Q (λ_=>True) (gq i j) h2) X) X
 |.enum e,env,h,Q,X=>xE Φ e env h (λv h1=>go (tupOf v) λxs=>Q (λ_=>True) (enumL 0 xs) h1) X
 |.items e,env,h,Q,X=>xE Φ e env h (λv h1=>go (gu v) λa=>go (gX<|h1 a) λkvs=>Q (λg=>g a=fw (.frz kvs)) (kvs.map<|itemOf fy)<|upd h1 a<|.frz kvs) X
 |.seqT k e,env,h,Q,X=>go (getV env k) λd=>go (gu d) λa=>go (gX<|h a) λkvs=>xE Φ e env h (λv h1=>h1 a=fw (.frz kvs)/\go (gu v) λb=>go (fQ<|upd h1 a (.dct kvs) b) λxs=>Q (λg=>fQ (g b)=fw xs) xs<|upd h1 a<|.dct kvs) X
 |_,_,_,_,_=>False
end
@[reducible] noncomputable def wE:Fs->E->Env->Hs->Q1->XQ->Prop:=xE
@[reducible] noncomputable def wA:Fs->Es->Env->Hs->(List Val->Hs->Prop)->XQ->Prop:=xA
@[reducible] noncomputable def wO:Fs->Oe->Env->Hs->(Option Int->Hs->Prop)->XQ->Prop:=xO
@[reducible] noncomputable def wT:Fs->Tt->Env->Hs->(Bool->Hs->Prop)->XQ->Prop:=xT
@[reducible] noncomputable def wI:Fs->It->Env->Hs->((Hs->Prop)->List Val->Hs->Prop)->XQ->Prop:=xI
def wE_eq:wE=xE:=by unfold wE;rfl
def wI_eq:wI=xI:=by unfold wI;rfl
noncomputable abbrev NQ:=Env->Hs->Prop
noncomputable abbrev EQ:=Env->String->Hs->Prop
abbrev wFor(st:Hs->Prop)(W:Val->Env->Hs->NQ->NQ->Prop)(N:NQ):List Val->Env->Hs->Prop
 |[],env,h=>st h/\N env h
 |v::vs,env,h=>st h/\W v env h (λe g=>wFor st W N vs e g) N
mutual
@[reducible] noncomputable def xS(Φ:Fs):S->Env->Hs->NQ->Q1->NQ->NQ->EQ->Prop
 |.set p e,env,h,N,_,_,_,X=>wE Φ e env h (λv h1=>go (bind p h1 v env) λŝ=>N ŝ h1)<|X env
 |.setIdx a i e,env,h,N,_,_,_,X=>wE Φ e env h (λv h1=>wE Φ a env h1 (λo h2=>wE Φ i env h2 (λk h3=>go (gD h3 o k v) λg=>N env g)<|X env)<|X env)<|X env
 |.setFld o f e,env,h,N,_,_,_,X=>wE Φ e env h (λv h1=>wE Φ o env h1 (λu h2=>go (gF h2 u f v) λg=>N env g)<|X env)<|X env
 |.augFld o f op n,env,h,N,_,_,_,X=>wE Φ o env h (λu h1=>go (gE h1 u f) λx=>go (augV op x<|.int n) λy=>go (gF h1 u f y) λg=>N env g)<|X env
 |.augIdx a i op n,env,h,N,_,_,_,X=>wE Φ a env h (λo h1=>wE Φ i env h1 (λk h2=>go (gB h2 o k) λx=>go (augV op x<|.int n) λy=>go (gD h2 o k y) λg=>N env g)<|X env)<|X env
 |.expr e,env,h,N,_,_,_,X=>wE Φ e env h (λ_ h1=>N env h1)<|X env
 |.ret e,env,h,_,R,_,_,X=>wE Φ e env h R<|X env
 |.retN,_,h,_,R,_,_,_=>R .non h
 |.ite c a b,env,h,N,R,B,C,X=>wT Φ c env h (λk h1=>if k=fy then xSs Φ a env h1 N R B C X else xSs Φ b env h1 N R B C X)<|X env
 |.for p it b,env,h,N,R,_,_,X=>wI Φ it env h (λst xs h1=>wFor st (λv e g K M=>go (bind p g v e) λe2=>xSs Φ b e2 g K R M K X) N xs env h1)<|X env
 | .forI k p e b,env,h,N,R,_,_,X=>wE Φ e env h (λv h1=>go (gu v) λa=>go (gX<|h1 a) λkvs =>
     wFor (λg=>g a=fw (.frz kvs)) (λv e g K M=>go (bind p g v e) λe2=>xSs Φ b e2 g K (λu g2=>g2 a=fw (.frz kvs)/\R u (upd g2 a<|.dct kvs)) M K λ_ _ _=>False)
       (λe g=>g a=fw (.frz kvs)/\N e (upd g a<|.dct kvs)) (kvs.map<|itemOf k) env (upd h1 a<|.frz kvs))<|X env
 |.never,_,_,_,_,_,_,_=>False
 |_,_,_,_,_,_,_,_=>False
@[reducible] noncomputable def xSs(Φ:Fs):Ss->Env->Hs->NQ->Q1->NQ->NQ->EQ->Prop
 |.nil,env,h,N,_,_,_,_=>N env h
 |.cons s ss,env,h,N,R,B,C,X=>xS Φ s env h (λe g=>xSs Φ ss e g N R B C X) R B C X
@[reducible] noncomputable def xH(Φ:Fs):Hn->String->Env->Hs->NQ->Q1->NQ->NQ->Prop
 |.nil,_,_,_,_,_,_,_=>False
 |.cons K fx b r,c,env,h,N,R,B,C=>if gR c K=fy then xSs Φ b env h N R B C (λ_ _ _=>False)else xH Φ r c env h N R B C
 |.cons K (fw i) b r,c,env,h,N,R,B,C=>if gR c K=fy then(∀p,h p=fx->xSs Φ b (env.set i<|fw<|.ref p) (upd h p<|.exc c) (λe g=>N (e.set i fx) g) R (λe g=>B (e.set i fx) g) (λe g=>C (e.set i fx) g) λ_ _ _=>False)
  else xH Φ r c env h N R B C
end
@[reducible] noncomputable def wS:Fs->S->Env->Hs->NQ->Q1->NQ->NQ->EQ->Prop:=xS
@[reducible] noncomputable def wSs:Fs->Ss->Env->Hs->NQ->Q1->NQ->NQ->EQ->Prop:=xSs
structure Fn where
 ar:Nat
 sz:Nat
 body:Ss
noncomputable abbrev Pg:=String->Option Fn
class In(P:Pg)(f:String)(d:outParam Fn):Prop where
 eq:P f=fw d
abbrev Fn.env(d:Fn)(vs:List Val):Env:=vs.map fw++Þ (d.sz - d.ar) fx
abbrev wF0(P:Pg):Nat->Fs
 |0=>λ_ _ _ _ _=>False
 |n+1=>λf vs h Q X=>go (P f) λd=>vs.length=d.ar/\wSs (wF0 P n) d.body (d.env vs) h (λ_ g=>Q .non g) Q (λ_ _=>False) (λ_ _=>False) λ_ c g=>X c g
@[irreducible] noncomputable def wF(P:Pg)(n:Nat):Fs:=wF0 P n
variable {n:Nat}
def wF_eq:wF P n=wF0 P n:=by unfold wF;rfl
def Zb(e:P f=fw d)(hl:vs.length=d.ar)(q:wSs (wF P n) d.body (d.env vs) h (λ_ g=>Q .non g) Q (λ_ _=>False) (λ_ _=>False) λ_ c g=>X c g):wF P (n+1) f vs h Q X:=by
 rw[wF_eq]at q ⊢;exact fH e ⟨hl,q⟩
section
variable {c:E}{v u:Val}
def IL(g:getV env i=fw v)(q:Q v h):wE Φ (.var i) env h Q X:=by rw[wE_eq];exact fH g q
def RM(q:wA Φ as env h (λvs h1=>(biV h1 f vs).wp h1 Q) X):wE Φ (.bi f as) env h Q X:=q
def R0{a:Ad}{xs:List Val}(e:h a=fw (.lst xs))(q:∀ix:List Nat,ix.Nodup->ix.length<=xs.length->new h (.lst<|pickL ix xs) Q):go (lsA h<|.ref a) λxs=>∀ix:List Nat,ix.Nodup->ix.length<=xs.length->new h (.lst<|pickL ix xs) Q:=fH (by show fQ (h a)=_;rw[e];rfl) q
def RW(q:new h (.dct []) λr h1=>go (gu r) λp=>wA Φ es env h1 (λvs h2=>go (pairUp vs) λkvs=>h2 p=fw (.dct [])/\Q (.ref p) (upd h2 p<|.dct<|putAll [] kvs)) X):wE Φ (.dct es) env h Q X:=by show Ou _ _ _ _;unfold Ou;exact q
def C8(q:QA [] h):wA Φ .nil env h QA X:=q
def DP(q:wE Φ e env h (λv h1=>wA Φ es env h1 (λvs h2=>QA (v::vs) h2) X) X):wA Φ (.cons e es) env h QA X:=q
def IN(q:wE Φ e env h (λv h1=>go (WF h1 v) λk=>QT k h1) X):wT Φ (.val e) env h QT X:=q
def IS(q:wT Φ t env h (λk h1=>QT (!k) h1) X):wT Φ (.not t) env h QT X:=q
def Tq(q:wT Φ s env h (λk h1=>if k=fy then QT fy h1 else wT Φ t env h1 QT X) X):wT Φ (.or s t) env h QT X:=q
end
section
variable {N C:NQ}{c e:E}{v u:Val}{t:Tt}{it:It}{hs:Hn}
def QC(q:wT Φ t env h (λk h1=>if k=fy then wSs Φ s1 env h1 N R B C X else wSs Φ s2 env h1 N R B C X)<|X env):wS Φ (.ite t s1 s2) env h N R B C X:=q
def CU(q:N env h):wSs Φ .nil env h N R B C X:=q
def FP(q:wS Φ s env h (λe g=>wSs Φ ss e g N R B C X) R B C X):wSs Φ (.cons s ss) env h N R B C X:=q
end
section
variable {h:Hs}{i j k:Int}{a:Ad}{xs:List Val}{v u:Val}{K:Val->Prop}
def wp_val{r:Rs}(e:r=.val v)(q:Q v h):r.wp h Q:=by rw[e,Rs.wp_val];exact q
def wp_new{r:Rs}{o:Ob}(e:r=.new o)(q:new h o Q):r.wp h Q:=by rw[e,Rs.wp_new];exact q
def b_add(q:Q (.int<|i+j) h):(binV h .add (.int i)<|.int j).wp h Q:=wp_val rfl q
def b_sub(q:Q (.int<|i - j) h):(binV h .sub (.int i)<|.int j).wp h Q:=wp_val rfl q
def b_mul(m:mulOk i j)(q:Q (.int<|i*j) h):(binV h .mul (.int i)<|.int j).wp h Q:=wp_val (hX m) q
def b_fdiv(m:0<j/\j<1073741824)(q:Q (.int<|i / j) h):(binV h .fdiv (.int i)<|.int j).wp h Q:=wp_val (hX m) q
def b_mod(m:0<j)(q:Q (.int<|i % j) h):(binV h .mod (.int i)<|.int j).wp h Q:=wp_val (hX m) q
def b_pow(m:0<=j/\j<=1000000/\i.natAbs<2 ^ 64)(q:Q (.int<|i ^ j.toNat) h):(binV h .pow (.int i)<|.int j).wp h Q:=wp_val (hX m) q
def Ql(m:0<=j/\j<=1000000/\i.natAbs<2 ^ 64)(e:i ^ j.toNat=z)(q:Q (.int z) h):(binV h .pow (.int i)<|.int j).wp h Q:=b_pow m (by rw[e];exact q)
def Qa(m:xs.length+ys.length<=lim)(q:Q (.tup<|xs++ys) h):(binV h .add (.tup xs)<|.tup ys).wp h Q:=wp_val (hX m) q
def Tv(e1:h a=fw (.lst xs))(e2:h b=fw (.lst ys))(m:(xs++ys).length<=lim)(q:new h (.lst<|xs++ys) Q):(binV h .add (.ref a)<|.ref b).wp h Q:=by refine wp_new ?_ q;show(match h a,h b with|some (.lst xs),fw (.lst ys)=>Rs.lst (xs++ys)|_,_=>.no:Rs)=_;simp![e1,e2,Rs.lst];rw[hX m]
def lsE(e1:h a=fw (.lst xs)):fQ (h a)=fw xs:=by rw[e1];rfl
variable {kvs:List (Val×Val)}
def dcE(e1:h a=fw (.dct kvs)):gX (h a)=fw kvs:=by rw[e1];rfl
def g_int{K:Int->Prop}(q:K i):go (gY<|.int i) K:=fH rfl q
def g_bl{b:Bool}(q:KB b):go (gZ<|.bl b) KB:=fH rfl q
def g_ref{K:Ad->Prop}(q:K a):go (gu<|.ref a) K:=fH rfl q
def g_tbl{b:Bool}(q:KB b):go (WF h<|.bl b) KB:=fH rfl q
def SO(q:KB<|ik (i≠0)):go (WF h<|.int i) KB:=fH rfl q
def SA(e:h a=fw (.lst xs))(q:KB (!xs.isEmpty)):go (WF h<|.ref a) KB:=fH (by unfold WF;simp![e]) q
def fI(e:atI xs i=fw v)(q:K v):go (gB h (.tup xs)<|.int i) K:=fH e q
def ZZ(e1:h a=fw (.lst xs))(e:atI xs i=fw v)(q:K v):go (gB h (.ref a)<|.int i) K:=fH (by unfold gB;simp![e1];exact e) q
def ZB{k:Val}(e1:h a=fw (.dct kvs))(hk:fX k=fy)(e:gf kvs k=fw v)(q:K v):go (gB h (.ref a) k) K:=fH (by unfold gB;simp![e1];rw[hX hk];exact e) q
variable {ns:List Int}
def Qq(e:atI (ns.map Val.int) i=fw v)(q:K v):go (gB h (.scr ns)<|.int i) K:=fH e q
def c_lt(q:KB<|ik (i<j)):go (fU h .lt (.int i)<|.int j) KB:=fH rfl q
def c_gt(q:KB<|ik (j<i)):go (fU h .gt (.int i)<|.int j) KB:=fH rfl q
def c_le(q:KB<|ik (i<=j)):go (fU h .le (.int i)<|.int j) KB:=fH rfl q
def c_ge(q:KB<|ik (j<=i)):go (fU h .ge (.int i)<|.int j) KB:=fH rfl q
def WH:D.eqv (.int i) (.int j)=ik (i=j):=by rw[D.eqv];by_cases e:i=j<;>simp[e]
variable {s:String}
def IE:D.eqv (.str s) (.str t)=ik (s=t):=by rw[D.eqv];by_cases e:s=t<;>simp[e]
def c_eqI(q:KB<|ik (i=j)):go (fU h .eq (.int i)<|.int j) KB:=fH (by show fw (D.eqv (.int i)<|.int j)=_;rw[WH]) q
def c_neI(q:KB (!ik (i=j))):go (fU h .ne (.int i)<|.int j) KB:=fH (by show fw (!D.eqv (.int i) (.int j))=_;rw[WH]) q
def c_eqS(q:KB<|ik (s=t)):go (fU h .eq (.str s)<|.str t) KB:=fH (by show fw (D.eqv (.str s)<|.str t)=_;rw[IE]) q
def c_neS(q:KB (!ik (s=t))):go (fU h .ne (.str s)<|.str t) KB:=fH (by show fw (!D.eqv (.str s) (.str t))=_;rw[IE]) q
variable {c:Bool}
def TB(q:KB<|c==d):go (fU h .eq (.bl c)<|.bl d) KB:=fH (by show fw (D.eqv (.bl c)<|.bl d)=_;rw[D.eqv]) q
def c_isN(q:KB<|ik (v=.non)):go (fU h .is v .non) KB:=fH (by unfold fU;rfl) q
def c_notN(q:KB (!ik (v=.non))):go (fU h .isnot v .non) KB:=fH (by unfold fU;rfl) q
def c_eqE(e1:h a=fw (.lst xs))(e2:h b=fw (.lst []))(q:KB xs.isEmpty):go (fU h .eqE (.ref a)<|.ref b) KB:=fH (by show(fQ<|h a).bind _=_;rw[e1,Yl];show(fQ<|h b).bind _=_;rw[e2,Yl];rfl) q
def c_neE(e1:h a=fw (.lst xs))(e2:h b=fw (.lst []))(q:KB (!xs.isEmpty)):go (fU h .neE (.ref a)<|.ref b) KB:=fH (by show(fQ<|h a).bind _=_;rw[e1,Yl];show(fQ<|h b).bind _=_;rw[e2,Yl];rfl) q
def LG(e1:fL xs=fw ns)(e2:fL ys=fw ms)(q:KB<|gy ms ns):go (fU h .gt (.tup xs)<|.tup ys) KB:=fH (by show(fL ys).bind _=_;rw[e1,e2];rfl) q
variable {n:Nat}
def Qx{env:Env}{K:Env->Prop}(e:env.set n (fw v)=Ũ)(q:K Ũ):go (bind (.one n) h v env) K:=by subst e;exact fH rfl q
def Pz{K:Env->Prop}(e:bindL is xs env=fw Ũ)(q:K Ũ):go (bind (.many is) h (.tup xs) env) K:=fH e q
def Lk{K:Hs->Prop}(e1:h a=fw (.lst xs))(e:ixN xs.length i=fw n)(q:K<|upd h a<|.lst<|xs.set n v):go (gD h (.ref a) (.int i) v) K:=fH (by unfold gD;simp![e1,gY,ö,e,ř]) q
def Yb{K:Hs->Prop}{k:Val}(e1:h a=fw (.dct kvs))(m:fX k=fy/\kvs.length<lim)(q:K<|upd h a<|.dct<|gh kvs k v):go (gD h (.ref a) k v) K:=fH (by unfold gD;simp![e1];rw[hX m]) q
def Jo(e1:h a=fw (.dct kvs))(hk:fX v=fy)(q:KB<|gg kvs v):go (fU h .isin v<|.ref a) KB:=fH (by show inV h v (.ref a)=_;unfold inV;simp![e1];rw[hX hk]) q
def XE(e1:h a=fw (.dct kvs))(hk:fX v=fy)(q:KB (!gg kvs v)):go (fU h .notin v<|.ref a) KB:=fH (by show(inV h v<|.ref a).map _=_;unfold inV;simp![e1];rw[hX hk];rfl) q
variable {C:String}{f:String}
def Yo{K:Hs->Prop}(e1:h a=fw (.ins C fs))(m:fs.length<900)(q:K<|upd h a<|.ins C<|fT fs f v):go (gF h (.ref a) f v) K:=fH (by unfold gF;simp![e1];rw[hX m]) q
def PR(e1:h a=fw (.ins C fs))(e:fs.lookup f=fw v)(q:K v):go (gE h (.ref a) f) K:=fH (by unfold gE gu;simp![e1,insOf,ö];exact e) q
def P1(e1:h a=fw (.ins C fs))(e:fs.lookup m=fx)(q:P):clsV h (.ref a) m=fw C/\P:=⟨by unfold clsV gu;simp![e1,insOf,ö,e,Option.isNone_none,if_true],q⟩
def ag_add(q:K<|.int<|i+j):go (augV .add (.int i)<|.int j) K:=fH rfl q
def ln_lst(e1:h a=fw (.lst xs))(q:Q (.int xs.length) h):(biV h .len [.ref a]).wp h Q:=wp_val (by show gG h (.ref a)=_;unfold gG;dsimp only;rw[e1]) q
def ln_scr(q:Q (.int ns.length) h):(biV h .len [.scr ns]).wp h Q:=wp_val rfl q
def ln_tup(q:Q (.int xs.length) h):(biV h .len [.tup xs]).wp h Q:=wp_val rfl q
def in_str(m:s.length<=640/\s.toList≠[]/\s.toList.all figB=fy)(q:Q (.int<|decN s.toList) h):(biV h .int [.str s]).wp h Q:=wp_val (hX m) q
def OH(e1:h a=fw (.lst xs))(e2:blsOf xs=fw bs)(q:Q (.bl<|bs.all id) h):(biV h .all [.ref a]).wp h Q:=wp_val (by show Rs.ofO ((fQ<|h a).bind _)=_;rw[lsE e1,ö,e2];rfl) q
def TC{K:String->Prop}(q:K s):go (Q2<|.str s) K:=fH rfl q
def Tu(hm:m=.join)(q:P):bmTy h m (.str s)=fy/\P:=⟨by subst hm;rfl,q⟩
def S7(q:Q (.int i) h):(biV h .int [.int i]).wp h Q:=wp_val rfl q
def in_bl(q:Q (.int<|if c then 1 else 0) h):(biV h .int [.bl c]).wp h Q:=wp_val rfl q
def mn2(q:Q (.int<|if j<i then j else i) h):(biV h .min2 [.int i,.int j]).wp h Q:=wp_val rfl q
def mx2(q:Q (.int<|if j > i then j else i) h):(biV h .max2 [.int i,.int j]).wp h Q:=wp_val rfl q
def tp_lst(e1:h a=fw (.lst xs))(q:Q (.tup xs) h):(biV h .tuple [.ref a]).wp h Q:=wp_val (by show MP h (.ref a)=_;unfold MP;dsimp only;rw[e1]) q
def SB(q:Q (.tup xs) h):(biV h .tuple [.tup xs]).wp h Q:=wp_val rfl q
def QP(e:isiAny h v Ts=fw c)(q:Q (.bl c) h):(biV h (.isi Ts) [v]).wp h Q:=wp_val (by show Rs.ofO ((isiAny h v Ts).map .bl)=_;rw[e];rfl) q
def ls_lst(e1:h a=fw (.lst xs))(q:new h (.lst xs) Q):(biV h .list [.ref a]).wp h Q:=wp_new (by show toList h (.ref a)=_;unfold toList;dsimp only;rw[e1]) q
def SN(q:new h (.lst xs) Q):(biV h .list [.tup xs]).wp h Q:=wp_new rfl q
variable {lo:Option Int}
def gJ(n:¬ (gx xs.length 0 lo=0/\gx xs.length xs.length hi=xs.length))(q:Q (.tup<|cut xs lo hi) h):(gC h (.tup xs) lo hi).wp h Q:=wp_val (by unfold gC;simp only;rw[hZ n]) q
def LL(hm:m.ty=.l\/m.ty=.t)(e:h a=fw (.lst xs))(q:P):bmTy h m (.ref a)=fy/\P:=⟨by unfold bmTy;rcases hm with hm|hm<;>rw[hm]<;>simp[JX,e,isLst],q⟩
def PL(hm:m.ty=.d)(e:h a=fw (.dct kvs))(q:P):bmTy h m (.ref a)=fy/\P:=⟨by unfold bmTy;rw[hm];simp[JX,e,isDct],q⟩
abbrev P5:Bi->Bool
 |.sorted=>fy
 |.sortedI=>fy
 |_=>fz
def B6{f:Bi}(hf:P5 f=fy)(e:sortAny h v=fw ns)(m:ns.length<64)(q:new h (.lst<|(sortI ns).map Val.int) Q):(biV h f [v]).wp h Q:=by
 cases f with
 |sorted=>exact wp_new (by show JR h v=_;unfold JR;simp![e];exact hX m) q
 |sortedI=>exact wp_new (by show biSortedI h v=_;unfold biSortedI;simp![e];exact hX m) q
 |_=>cases hf
def Lu{f:Bi}(e1:h a=fw (.lst<|ns.map Val.int))(e2:fL (ns.map Val.int)=fw ns)(m:ns.length<64)(q:new h (.lst<|(sortI ns).map Val.int) Q)(hf:P5 f=fy:=by rfl):(biV h f [.ref a]).wp h Q:=B6 hf (by unfold sortAny;simp![e1,e2]) m q
def OM{f:Bi}(e1:h a=fw (.dct kvs))(e2:keysOf kvs=fw ns)(m:ns.length<64)(q:new h (.lst<|(sortI ns).map Val.int) Q)(hf:P5 f=fy:=by rfl):(biV h f [.ref a]).wp h Q:=B6 hf (by unfold sortAny;simp![e1,e2]) m q
def Pl(e1:h a=fw (.lst []))(q:Q .non h):(biV h .minD [.ref a]).wp h Q:=wp_val (by show gH h (.ref a)=_;unfold gH;simp![e1,fQ,ö,rowsOf]) q
def HD(e1:h a=fw (.lst xs))(e2:rowsOf xs=fw (x::r))(q:Q (.tup<|(minR x r).map Val.int) h):(biV h .minD [.ref a]).wp h Q:=wp_val (by show gH h (.ref a)=_;unfold gH;simp![e1,fQ,ö,e2]) q
def sl_str(n:s.length<=lim)(q:Q (.str<|Ξ<|cut s.toList lo hi) h):(gC h (.str s) lo hi).wp h Q:=wp_val (by unfold gC;simp only;rw[hX n]) q
def Ta(e1:h a=fw (.lst xs))(q:new h (.lst<|cut xs lo hi) Q):(gC h (.ref a) lo hi).wp h Q:=wp_new (by unfold gC;simp![e1,fQ]) q
def sl_scr(q:new h (.lst<|cut (ns.map Val.int) lo hi) Q):(gC h (.scr ns) lo hi).wp h Q:=wp_new rfl q
def ZD{K:Val×Hs->Prop}(e1:h a=fw (.lst xs))(m:xs.length<lim)(q:K (.non,upd h a<|.lst<|xs++[v])):go (bmV h .append (.ref a) [v]) K:=fH (by show(fQ<|h a).bind _=_;rw[lsE e1];exact hX m) q
def Uv{K:Val×Hs->Prop}(e1:h a=fw (.dct kvs))(hk:fX v=fy)(q:K ((gf kvs v).getD .non,h)):go (bmV h .dget (.ref a) [v]) K:=fH (by show(gX<|h a).bind _=_;rw[dcE e1];exact hX hk) q
def it_lst{K:(Hs->Prop)×List Val->Prop}(e1:h a=fw (.lst xs))(q:K (λg=>fQ (g a)=fw xs,xs)):go (itV h<|.ref a) K:=fH (by unfold itV;simp![e1,fQ,ř]) q
def it_scr{K:(Hs->Prop)×List Val->Prop}(q:K (λ_=>True,ns.map Val.int)):go (itV h<|.scr ns) K:=fH rfl q
def it_tup{K:(Hs->Prop)×List Val->Prop}(q:K (λ_=>True,xs)):go (itV h<|.tup xs) K:=fH rfl q
def SV{K:List Val->Prop}(q:K xs):go (Cf h<|.tup xs) K:=fH rfl q
def S8{K:List Val->Prop}(e1:h a=fw (.lst xs))(q:K xs):go (Cf h<|.ref a) K:=fH (by unfold Cf;simp![e1,fQ]) q
variable {A:Prop}{B:Prop}
def gK(e:c=fy)(q:A):if c=fy then A else B:=by rw[hX e];exact q
def gL(e:c=fz)(q:B):if c=fy then A else B:=by rw[hZ<|by rw[e];decide];exact q
def gN(q:c=fy->A)(r:c=fz->B):if c=fy then A else B:=by cases c;exact r rfl;exact q rfl
variable {p:Prop}
def gM[Decidable p](q:p->A)(r:¬p->B):if decide p=fy then A else B:=by
 by_cases e:p
 .rw[hX<|ig e];exact q e
 .rw[hZ<|by simpa using e];exact r e
def Op[Decidable p](q:¬p->A)(r:p->B):if(!decide p)=fy then A else B:=by
 by_cases e:p
 .rw[hZ<|by simpa using e];exact r e
 .rw[hX<|by simpa using e];exact q e
end
structure Ext(h g:Hs):Prop where
 get:∀{a:Ad}{o:Ob},h a=fw o->g a=fw o
variable {h:Hs}
def Ext.refl:Ext h h:=⟨λe=>e⟩
variable {g:Hs}
def Ext.trans(e:Ext h g)(f:Ext g k):Ext h k:=⟨λx=>f.get<|e.get x⟩
variable {p:Ad}{o:Ob}
def Ext.new(e:h p=fx):Ext h<|upd h p o:=⟨λ{a u} x=>by
  rw[fA<|by intro z;rw[z,e]at x;cases x];exact x⟩
structure ExtB(w:Ad)(h g:Hs):Prop where
 get:∀{a:Ad}{o:Ob},a≠w->h a=fw o->g a=fw o
def ExtB.trans(e:ExtB w h g)(f:ExtB w g k):ExtB w h k:=⟨λn x=>f.get n<|e.get n x⟩
def ExtB.upd:ExtB w h<|upd h w o:=⟨λn x=>by rw[fA n];exact x⟩
def ExtB.of(e:Ext h g):ExtB w h g:=⟨λ_ x=>e.get x⟩
variable {a:Ad}
def Za(x:h a=fw o)(n:h p=fx):a≠p:=by intro z;rw[z,n]at x;cases x
def ne_none'(n:h p=fx)(x:h a=fw o):a≠p:=Za x n
def upd_ne'(n:b≠a)(e:h b=r):upd h a o b=r:=by rw[fA n];exact e
inductive Sm2 {α β:Type}(p:α->β->Prop):Prop|mk (a:α) (b:β) (h:p a b)
inductive Sm3 {α β γ:Type}(p:α->β->γ->Prop):Prop|mk (a:α) (b:β) (c:γ) (h:p a b c)
inductive Sm4 {α β γ δ:Type}(p:α->β->γ->δ->Prop):Prop|mk (a:α) (b:β) (c:γ) (d:δ) (h:p a b c d)
inductive Sm5 {α β γ δ ε:Type}(p:α->β->γ->δ->ε->Prop):Prop|mk (a:α) (b:β) (c:γ) (d:δ) (e:ε) (h:p a b c d e)
inductive Sm6 {α β γ δ ε ζ:Type}(p:α->β->γ->δ->ε->ζ->Prop):Prop|mk (a:α) (b:β) (c:γ) (d:δ) (e:ε) (f:ζ) (h:p a b c d e f)
inductive Cj3 (a b c:Prop):Prop|mk (h1:a) (h2:b) (h3:c)
inductive Cj4 (a b c d:Prop):Prop|mk (h1:a) (h2:b) (h3:c) (h4:d)
inductive Cj5 (a b c d e:Prop):Prop|mk (h1:a) (h2:b) (h3:c) (h4:d) (h5:e)
inductive Cj6 (a b c d e f:Prop):Prop|mk (h1:a) (h2:b) (h3:c) (h4:d) (h5:e) (h6:f)
inductive Cj7 (a b c d e f g:Prop):Prop|mk (h1:a) (h2:b) (h3:c) (h4:d) (h5:e) (h6:f) (h7:g)
inductive Cj9 (a b c d e f g h i:Prop):Prop|mk (h1:a) (h2:b) (h3:c) (h4:d) (h5:e) (h6:f) (h7:g) (h8:h) (h9:i)
variable {st:Hs->Prop}
def Zh(I:Nat->Env->Hs->Prop)(h0:I 0 env h)(Ź:∀i e g,i<=xs.length->I i e g->st g)(step:∀i v e g,xs[i]?=fw v->I i e g->∀K:NQ,(∀e' g',I (i+1) e' g'->K e' g')->W v e g K N)(fin:∀e g,I xs.length e g->N e g):wFor st W N xs env h:=by
 have key:∀(ys:List Val) (i:Nat) e g,xs.drop i=ys->i<=xs.length->I i e g->wFor st W N ys e g:=by
  intro ys;induction ys with
  |nil =>
   intro i e g hd hi hI;have:i=xs.length:=by have:=congrArg List.length hd;simp at this;lia
   subst this;exact⟨Ź _ e g (Ì _) hI,fin e g hI⟩
  |cons v vs ih =>
   intro i e g hd hi hI;have Ϭ:i<xs.length:=by have:=congrArg List.length hd;simp at this;lia
   have hv:xs[i]?=fw v:=by have:=congrArg (λl=>l[0]?) hd;simpa using this
   refine⟨Ź i e g hi hI,step i v e g hv hI _ λe' g' hI'=>ih (i+1) e' g' ?_ ↥0 hI'⟩;have:=congrArg List.tail hd;simpa using this
 exact key xs 0 env h (by simp) ↥0 h0
def Xm{step:Val->Hs->(Option Val->Hs->Prop)->XQ->Prop}(I:Nat->List Val->Hs->Prop)(h0:I 0 [] h)(Ź:∀i ys g,i<=xs.length->I i ys g->st g)(go:∀i v ys g,xs[i]?=fw v->I i ys g->∀K,(∀r g',I (i+1) (ys++r.toList) g'->K r g')->step v g K X)(fin:∀ys g,I xs.length ys g->Q ys g):wComp st step xs [] h Q X:=by
 have key:∀(zs:List Val) (i:Nat) ys g,xs.drop i=zs->i<=xs.length->I i ys g->wComp st step zs ys g Q X:=by
  intro zs;induction zs with
  |nil =>
   intro i ys g hd hi hI;have:i=xs.length:=by have:=congrArg List.length hd;simp at this;lia
   subst this;exact⟨Ź _ ys g (Ì _) hI,fin ys g hI⟩
  |cons v vs ih =>
   intro i ys g hd hi hI;have Ϭ:i<xs.length:=by have:=congrArg List.length hd;simp at this;lia
   have hv:xs[i]?=fw v:=by have:=congrArg (λl=>l[0]?) hd;simpa using this
   refine⟨Ź i ys g hi hI,go i v ys g hv hI _ λr g' hI'=>ih (i+1) _ g' ?_ ↥0 hI'⟩;have:=congrArg List.tail hd;simpa using this
 exact key xs 0 [] h (by simp) ↥0 h0
def Yx{step:Val->Hs->(Option Val->Hs->Prop)->XQ->Prop}(f:Val->Option Val)(Ź:st h)(go:∀v∈xs,∀K,K (f v) h->step v h K X)(fin:Q (xs.filterMap f) h):wComp st step xs [] h Q X:=by
 have key:∀(zs ys:List Val),(∀v∈zs,v∈xs)->Q (ys++zs.filterMap f) h->wComp st step zs ys h Q X:=by
  intro zs;induction zs with
  |nil=>intro ys _ q;exact⟨Ź,⇑q⟩
  |cons v vs ih =>
   intro ys hm q;refine⟨Ź,go v (hm v<|by simp) _<|ih _ (λw hw=>hm w<|by simp[hw]) ?_⟩;cases e:f v with
   |none=>simpa[î,e]using q
   |some u=>simpa[î,e]using q
 exact key xs [] (λ_ h=>h) ⇑fin
section
variable {a b c e:E}{as:Es}{v u:Val}
def q_e_bi:(wE Φ (.bi f as) env h Q X)=(wA Φ as env h (λvs h1=>(biV h1 f vs).wp h1 Q) X):=rfl
def q_e_dct:(wE Φ (.dct es) env h Q X)=(new h (.dct []) λr h1=>go (gu r) λp=>wA Φ es env h1 (λvs h2=>go (pairUp vs) λkvs=>h2 p=fw (.dct [])/\Q (.ref p) (upd h2 p<|.dct<|putAll [] kvs)) X):=by show Ou _ _ _ _=_;unfold Ou;rfl
def q_a_nil:(wA Φ .nil env h QA X)=(QA [] h):=rfl
def q_a_cons:(wA Φ (.cons e es) env h QA X)=(wE Φ e env h (λv h1=>wA Φ es env h1 (λvs h2=>QA (v::vs) h2) X) X):=rfl
end
def As{α:Type}{o:Option α}{k k':α->Prop}(h:go o k)(f:∀a,k a->k' a):go o k':=by
 cases o with
 |none=>rw[GE]at h;exact h.elim
 |some a=>rw[fG]at h ⊢;exact f a h
section
variable {env:Env}{h:Hs}{a:Ad}{v:Val}{kvs:List (Val×Val)}
def LP(q:∀p,h p=fx->Q (.ref p) (upd h p<|.dct [])):wE Φ (.dct .nil) env h Q X:=by refine RW<|Yh λp hp=>g_ref<|C8<|fH rfl ⟨fB,?_⟩;rw[fE];exact q p hp
def dw0(q:∀p,h p=fx->Q (.ref p) (upd h p<|.dct [])):Ou (xA Φ .nil env) h Q X:=LP q
def dw(q:new h (.dct []) λr h1=>go (gu r) λp=>F h1 (λvs h2=>go (pairUp vs) λkvs=>h2 p=fw (.dct [])/\Q (.ref p) (upd h2 p<|.dct<|putAll [] kvs)) X):Ou F h Q X:=by unfold Ou;exact q
def Rn{K:Val->Prop}(g:getV env i=fw v)(q:K v):go (getV env i) K:=fH g q
def dc_of{K:List (Val×Val)->Prop}(e1:h a=fw (.dct kvs))(q:K kvs):go (gX<|h a) K:=fH (dcE e1) q
variable {u:Val}
def Hx{K:Val×Hs->Prop}(e1:h a=fw (.dct kvs))(hk:fX v=fy)(q:K ((gf kvs v).getD u,h)):go (bmV h .dgetD (.ref a) [v,u]) K:=fH (by show OP h (.ref a) [v,u]=_;unfold OP dpAt;simp![e1];show(gX<|h a).bind _=_;rw[dcE e1];exact hX hk) q
def EU{K:Val×Hs->Prop}(e1:h a=fw (.dct kvs))(hk:fX v=fy)(e2:gf kvs v=fw u)(q:K (u,upd h a<|.dct<|gj kvs v)):go (bmV h .dpop (.ref a) [v]) K:=fH (by show(gX<|h a).bind _=_;rw[dcE e1];show(if fX v then _ else _)=_;rw[hX hk,e2];rfl) q
def UC{K:Val×Hs->Prop}(e1:h a=fw (.dct kvs))(hk:fX v=fy)(q:K ((gf kvs v).getD u,upd h a<|.dct<|gj kvs v)):go (bmV h .dpopD (.ref a) [v,u]) K:=fH (by show(gX<|h a).bind _=_;rw[dcE e1];exact hX hk) q
end
end O
namespace Snd
open PySem L2
abbrev KT(K:Frag)(a:Ð)(xs:List V):Prop :=
 ∃(o:Obj) (ú:Array Ã) (n:Nat),K.lookup a=fw o/\o.cls=.type "tuple"/\o.data=.seq ú n/\ú.size<=à/\gV xs ú.toList
abbrev KL(K:Frag)(a:Ð)(xs:List V):Prop :=
 ∃(o:Obj) (ú:Array Ã) (n:Nat),K.lookup a=fw o/\o.cls=.type "list"/\o.dict=fx/\o.data=.seq ú n/\ú.size<=à/\gV xs ú.toList
mutual
inductive RV (K:Frag) (H:Hp):O.Val->V->Prop
 |non:RV K H .non .non
 |bl (b:Bool):RV K H (.bl b)<|.bl b
 |int (i:Int):RV K H (.int i)<|.int i
 |str (s:String):RV K H (.str s)<|.str<|im s
 |tup {xs:List O.Val}{a:Ð}{vs:List V}:(H a=fw (.tup vs)\/KT K a vs)->RVs K H xs vs->RV K H (.tup xs) (.ref a)
 |ref (a:Ð):RV K H (.ref a)<|.ref a
 |scr {ns:List Int}{a:Ð}:((∃o,H a=fw (.frz o<|.lst<|ns.map V.int))\/KL K a (ns.map V.int))->RV K H (.scr ns) (.ref a)
 |key {i j:Int}{a:Ð}:H a=fw (.tup [.int i,.int j])->RV K H (.key i j) (.ref a)
inductive RVs (K:Frag) (H:Hp):List O.Val->List V->Prop
 |nil:RVs K H [] []
 |cons {v:O.Val}{x:V}{vs:List O.Val}{xs:List V}:RV K H v x->RVs K H vs xs->RVs K H (v::vs) (x::xs)
end
structure f9(H H':Hp):Prop where
 t:∀a xs,H a=fw (.tup xs)->H' a=fw (.tup xs)
 f:∀a o u,H a=fw (.frz o u)->H' a=fw (.frz o u)
def f9.refl(H:Hp):f9 H H:=⟨λ_ _ e=>e,λ_ _ _ e=>e⟩
def f9.trans(a:f9 H H1)(b:f9 H1 H2):f9 H H2:=⟨λc xs e=>b.t c xs<|a.t c xs e,λc o u e=>b.f c o u<|a.f c o u e⟩
variable {a:Ð}
def f9.put(h:∀xs,H a≠fw (.tup xs))(h2:∀p u,H a≠fw (.frz p u)):f9 H<|upd H a o:=⟨λb xs e=>by
  rw[fA<|by rintro rfl;exact h xs e];exact e,λb p u e=>by rw[fA<|by rintro rfl;exact h2 p u e];exact e⟩
def f9.new(h:H a=fx):f9 H<|upd H a o:=f9.put (λxs e=>by rw[h]at e;cases e) λp u e=>by rw[h]at e;cases e
variable {K:Frag}
mutual
theorem RV.keep(k:f9 H H'):∀{v:O.Val}{x:V},RV K H v x->RV K H' v x
 |_,_,.non=>.non
 |_,_,.bl b=>.bl b
 |_,_,.int i=>.int i
 |_,_,.str s=>.str s
 |_,_,.tup (.inl e) r=>.tup (.inl<|k.t _ _ e)<|RVs.keep k r
 |_,_,.tup (.inr e) r=>.tup (.inr e)<|RVs.keep k r
 |_,_,.ref a=>.ref a
 |_,_,.scr (.inl ⟨o,e⟩)=>.scr<|.inl ⟨o,k.f _ _ _ e⟩
 |_,_,.scr (.inr e)=>.scr<|.inr e
 |_,_,.key e=>.key<|k.t _ _ e
theorem RVs.keep(k:f9 H H'):∀{vs:List O.Val}{xs:List V},RVs K H vs xs->RVs K H' vs xs
 |_,_,.nil=>.nil
 |_,_,.cons r t=>.cons (RV.keep k r)<|RVs.keep k t
end
def RVs.length:∀{vs:List O.Val}{xs:List V},RVs K H vs xs->vs.length=xs.length
 |_,_,.nil=>rfl
 |_,_,.cons _ t=>by rw[Î,Î,RVs.length t]
def RVs.get:∀{vs:List O.Val}{xs:List V}{i:Nat}{v:O.Val},RVs K H vs xs->vs[i]?=fw v->∃x,xs[i]?=fw x/\RV K H v x
 |_,_,_,_,.nil,e=>by simp at e
 |_,_,0,_,.cons r _,e=>by simp at e;subst e;exact⟨_,rfl,r⟩
 |_,_,i+1,v,.cons _ t,e=>by let⟨x,h1,h2⟩:=RVs.get (i:=i) (v:=v) t ⇑e;exact⟨x,⇑h1,h2⟩
def RVs.append:∀{vs us:List O.Val}{xs ys:List V},RVs K H vs xs->RVs K H us ys->RVs K H (vs++us) (xs++ys)
 |_,_,_,_,.nil,h=>h
 |_,_,_,_,.cons r t,h=>.cons r<|RVs.append t h
def RVs.set(r:RV K H v x):∀{vs:List O.Val}{xs:List V}(i:Nat),RVs K H vs xs->RVs K H (vs.set i v) (xs.set i x)
 |_,_,_,.nil=>.nil
 |_,_,0,.cons _ t=>.cons r t
 |_,_,i+1,.cons q t=>.cons q<|RVs.set r i t
def RVs.take:∀{vs:List O.Val}{xs:List V}(n:Nat),RVs K H vs xs->RVs K H (vs.take n) (xs.take n)
 |_,_,0,_=>.nil
 |_,_,_+1,.nil=>.nil
 |_,_,n+1,.cons r t=>.cons r<|RVs.take n t
def RVs.drop:∀{vs:List O.Val}{xs:List V}(n:Nat),RVs K H vs xs->RVs K H (vs.drop n) (xs.drop n)
 |_,_,0,r=>r
 |_,_,_+1,.nil=>.nil
 |_,_,n+1,.cons _ t=>RVs.drop n t
def RVs.eraseIdx:∀{vs:List O.Val}{xs:List V}(i:Nat),RVs K H vs xs->RVs K H (vs.eraseIdx i) (xs.eraseIdx i)
 |_,_,_,.nil=>.nil
 |_,_,0,.cons _ t=>t
 |_,_,i+1,.cons q t=>.cons q<|RVs.eraseIdx i t
def Zl(h:H a=fw (.tup vs)\/KT K a vs):gU K H a vs:=by
 rcases h with h|h
 .exact gU.of h
 .exact .inr h
structure Inf where
 K:Frag
 cl:String->Ð->Prop
 ins:String->Bool
 xc:String->Ð->Prop
abbrev WU:O.Val->Key->Prop
 |.int i,.inl j=>i=j
 |.str s,.inr t=>t=im s
 |_,_=>False
inductive RKs (K:Frag) (H:Hp):List (O.Val×O.Val)->List (Key×V)->Prop
 |nil:RKs K H [] []
 |cons {k v:O.Val}{c:Key}{x:V}{kvs:List (O.Val×O.Val)}{ps:List (Key×V)}:WU k c->RV K H v x->RKs K H kvs ps->RKs K H ((k,v)::kvs) ((c,x)::ps)
inductive RFs (K:Frag) (H:Hp):List (String×O.Val)->List (Str×V)->Prop
 |nil:RFs K H [] []
 |cons {f:String}{v:O.Val}{x:V}{fs:List (String×O.Val)}{ps:List (Str×V)}:RV K H v x->RFs K H fs ps->RFs K H ((f,v)::fs) ((im f,x)::ps)
def RKs.keep(k:f9 H H'):∀{kvs:List (O.Val×O.Val)}{ps:List (Key×V)},RKs K H kvs ps->RKs K H' kvs ps
 |_,_,.nil=>.nil
 |_,_,.cons a r t=>.cons a (r.keep k)<|RKs.keep k t
inductive RTs (K:Frag) (H:Hp):List (O.Val×O.Val)->List (List Key×V)->Prop
 |nil:RTs K H [] []
 |cons {i j:Int}{v:O.Val}{x:V}{kvs:List (O.Val×O.Val)}{ps:List (List Key×V)}:RV K H v x->RTs K H kvs ps->RTs K H ((.key i j,v)::kvs) (([.inl i,.inl j],x)::ps)
def RTs.keep(k:f9 H H'):∀{kvs:List (O.Val×O.Val)}{ps:List (List Key×V)},RTs K H kvs ps->RTs K H' kvs ps
 |_,_,.nil=>.nil
 |_,_,.cons r t=>.cons (r.keep k)<|RTs.keep k t
def RFs.keep(k:f9 H H'):∀{fs:List (String×O.Val)}{ps:List (Str×V)},RFs K H fs ps->RFs K H' fs ps
 |_,_,.nil=>.nil
 |_,_,.cons r t=>.cons (r.keep k)<|RFs.keep k t
abbrev RO(i:Inf)(H:Hp)(a:Ð):O.Ob->Prop
 |.lst xs=>∃vs,H a=fw (.lst vs)/\RVs i.K H xs vs
 |.dct kvs=>∃ps,H a=fw (.dK ps)/\RKs i.K H kvs ps
 |.ins C fs=>∃c dx ps,i.ins C=fy/\i.cl C c/\H a=fw (.ins c dx ps)/\RFs i.K H fs ps
 |.exc C=>∃c,i.xc C c/\H a=fw (xcO a<|.ref c)
 |.frz kvs=>∃o ps,H a=fw (.frz o<|.dK ps)/\RKs i.K H kvs ps
 |.dtp kvs=>∃ps,H a=fw (.dT ps)/\RTs i.K H kvs ps
def RO.there{o:O.Ob}(r:RO i H a o):∃u,H a=fw u:=by
 cases o with
 |lst xs=>let⟨_,e,_⟩:=r;exact⟨_,e⟩
 |dct kvs=>let⟨_,e,_⟩:=r;exact⟨_,e⟩
 |ins C fs=>let⟨_,_,_,_,_,e,_⟩:=r;exact⟨_,e⟩
 |exc C=>let⟨_,_,e⟩:=r;exact⟨_,e⟩
 |frz kvs=>let⟨_,_,e,_⟩:=r;exact⟨_,e⟩
 |dtp kvs=>let⟨_,e,_⟩:=r;exact⟨_,e⟩
def RO.move{o:O.Ob}(r:RO i H a o)(k:f9 H H')(e:H' a=H a):RO i H' a o:=by
 cases o with
 |lst xs=>let⟨vs,q,r⟩:=r;exact⟨vs,e.trans q,r.keep k⟩
 |dct kvs=>let⟨ps,q,r⟩:=r;exact⟨ps,e.trans q,r.keep k⟩
 |ins C fs=>let⟨c,dx,ps,h0,h,q,r⟩:=r;exact⟨c,dx,ps,h0,h,e.trans q,r.keep k⟩
 |exc C=>let⟨c,h,q⟩:=r;exact⟨c,h,e.trans q⟩
 |frz kvs=>let⟨o,ps,q,r⟩:=r;exact⟨o,ps,e.trans q,r.keep k⟩
 |dtp kvs=>let⟨ps,q,r⟩:=r;exact⟨ps,e.trans q,r.keep k⟩
abbrev RH(i:Inf)(G:O.Hs)(H:Hp):Prop:=∀a o,G a=fw o->RO i H a o
def RH.free(r:RH i G H)(e:H a=fx):G a=fx:=by
 cases q:G a with
 |none=>rfl
 |some o=>let⟨u,z⟩:=(r a o q).there;rw[e]at z;cases z
def RH.put{o:O.Ob}{u:HO}(r:RH i G H)(k:f9 H<|upd H a u)(n:RO i (upd H a u) a o):RH i (O.upd G a o)<|upd H a u:=λb p e=>by
 by_cases hb:b=a
 .subst hb;rw[O.fB]at e;cases e;exact n
 .rw[O.fA hb]at e;exact(r b p e).move k<|fA hb
def RH.hid(r:RH i G H)(k:f9 H H')(e:∀a o,G a=fw o->H' a=H a):RH i G H':=λb p q=>(r b p q).move k (e b p q)
structure REn(K:Frag)(H:Hp)(env:O.Env)(σ:St):Prop where
 len:env.length=σ.length
 get:∀(i:Nat) (v:O.Val),env[i]?=fw (fw v)->∃x,σ[i]?=fw (fw x)/\RV K H v x
def REn.keep(r:REn K H env σ)(k:f9 H H'):REn K H' env σ:=⟨r.len,λi v e=>by
  let⟨x,h1,h2⟩:=r.get i v e
  exact⟨x,h1,h2.keep k⟩⟩
def REn.set(r:REn K H env σ)(q:RV K H v x)(j:Nat):REn K H (env.set j<|fw v)<|σ.set j<|fw x:=⟨by simp[r.len],λi u e=>by
  by_cases hij:j=i
  . subst hij
    rw[List.getElem?_set_self']at e
    cases z:env[j]? with
    |none=>rw[z]at e;cases e
    |some w =>
      rw[z]at e
      cases e
      have hj:j<σ.length:=by rw[<-r.len];exact(Ó.mp z).1
      exact⟨x,Ϗ hj,q⟩
  . rw[ο hij]at e
    let⟨y,h1,h2⟩:=r.get i u e
    exact⟨y,by rw[ο hij];exact h1,h2⟩⟩
def REn.start(r:RVs K H vs xs):REn K H (vs.map fw++Þ n fx)<|xs.map fw++Þ n fx:=⟨by simp[r.length],λi v e=>by
  by_cases hi:i<vs.length
  . rw[Ċ ⇑hi,Ú]at e
    cases z:vs[i]? with
    |none=>rw[z]at e;cases e
    |some w =>
      rw[z]at e
      cases e
      let⟨x,h1,h2⟩:=r.get z
      exact⟨x,by rw[Ċ (by rw[Á,<-r.length];exact hi),Ú,h1];rfl,h2⟩
  . rw[ē ⇑hi,Ő]at e
    split at e<;>cases e⟩
def RVs.ints{K:Frag}:∀ns:List Int,RVs K H (ns.map O.Val.int) (ns.map V.int)
 |[]=>.nil
 |n::ns=>.cons (.int n)<|RVs.ints ns
def Ye{ns:List Int}(h:(∃o,H a=fw (.frz o<|.lst<|ns.map V.int))\/KL K a (ns.map V.int)):gT K H a<|ns.map V.int:=by
 rcases h with⟨o,h⟩|h
 .exact .inl<|.inr ⟨o,h⟩
 .exact .inr h
abbrev XK1(i:Inf)(H:Hp)(Em:O.XQ):XK:=λcls _ H'=>∃c G' ad,cls=.ref ad/\i.xc c ad/\f9 H H'/\RH i G' H'/\Em c G'
abbrev XOk(X:Cx)(i:Inf)(H:Hp)(Em:O.XQ):Prop:=XW X<|XK1 i H Em
def XK1.go(k:f9 H H1)(h:XK1 i H1 Em cls d H'):XK1 i H Em cls d H':=by let⟨c,G',ad,e,q,k',r,m⟩:=h;exact⟨c,G',ad,e,q,k.trans k',r,m⟩
def XOk.go(x:XOk X i H Em)(k:f9 H H1):XOk X i H1 Em:=λÂ σ H0 s H' a cls s' I f e=>x Â σ H0 s H' a cls s' I f (e.go k)
structure Pre(X:Cx)(i:Inf)(σ:St)(H:Hp)(env:O.Env)(G:O.Hs)(Em:O.XQ):Prop where
 en:REn i.K H env σ
 hp:RH i G H
 xo:XOk X i H Em
def Pre.go(p:Pre X i σ H env G Em)(k:f9 H H1)(r:RH i G1 H1):Pre X i σ H1 env G1 Em:=⟨p.en.keep k,r,p.xo.go k⟩
abbrev Cn(i:Inf)(H:Hp)(Q:VK)(Qm:O.Q1):Prop:=∀v G' H' x,f9 H H'->RH i G' H'->RV i.K H' v x->Qm v G'->Q x H'
def Cn.go(c:Cn i H Q Qm)(k:f9 H H1):Cn i H1 Q Qm:=λv G' H' x k'=>c v G' H' x (k.trans k')
inductive tEx (X:Cx) (i:Inf) (Φ:O.Fs) (m:O.E) (σ:St) (H:Hp) (Q:VK):Prop
 |mk (env:O.Env) (G:O.Hs) (Qm:O.Q1) (Em:O.XQ) (p:Pre X i σ H env G Em) (w:O.wE Φ m env G Qm Em) (c:Cn i H Q Qm)
abbrev tE(X:Cx)(i:Inf)(Φ:O.Fs)(m:O.E):TE:=tEx X i Φ m
inductive tArx (X:Cx) (i:Inf) (Φ:O.Fs) (ms:O.Es) (n:Nat) (σ:St) (H:Hp) (Q:List V->Hp->Prop):Prop
 |mk (env:O.Env) (G:O.Hs) (Qm:List O.Val->O.Hs->Prop) (Em:O.XQ) (p:Pre X i σ H env G Em) (w:O.wA Φ ms env G Qm Em) (c:∀vs G' H' xs,f9 H H'->RH i G' H'->RVs i.K H' vs xs->xs.length=n->Qm vs G'->Q xs H')
abbrev tAr(X:Cx)(i:Inf)(Φ:O.Fs)(ms:O.Es)(n:Nat):TA:=tArx X i Φ ms n
inductive tTtx (X:Cx) (i:Inf) (Φ:O.Fs) (m:O.Tt) (σ:St) (H:Hp) (Q:Bool->Hp->Prop):Prop
 |mk (env:O.Env) (G:O.Hs) (Qm:Bool->O.Hs->Prop) (Em:O.XQ) (p:Pre X i σ H env G Em) (w:O.wT Φ m env G Qm Em) (c:∀b G' H',f9 H H'->RH i G' H'->Qm b G'->Q b H')
abbrev tTt(X:Cx)(i:Inf)(Φ:O.Fs)(m:O.Tt):TT:=tTtx X i Φ m
variable {e:Expr}
def _root_.L2.PE.imp(h:PE X e t)(f:∀σ H Q,t' σ H Q->t σ H Q):PE X e t':=λÂ s σ H Q I q=>h Â s σ H Q I (f σ H Q q)
def _root_.L2.PT.imp(h:PT X e t)(f:∀σ H Q,t' σ H Q->t σ H Q):PT X e t':=λÂ s σ H Q I q=>h Â s σ H Q I (f σ H Q q)
def _root_.L2.PW.imp(h:PW X e t)(f:∀σ H Q,t' σ H Q->t σ H Q):PW X e t':=λwh Â s σ H Q I q=>h wh Â s σ H Q I (f σ H Q q)
def _root_.L2.PA.imp{t t':TA}(h:PA X es t)(f:∀σ H Q,t' σ H Q->t σ H Q):PA X es t':=λí Â s σ H Q I q=>h í Â s σ H Q I (f σ H Q q)
variable {j:Nat}
def R5{env:O.Env}{h:O.Hs}{Q:O.Q1}{E:O.XQ}:(O.wE Φ (.var j) env h Q E)=(O.go (O.getV env j) λv=>Q v h):=rfl
def fG{α:Type}{o:Option α}{k:α->Prop}(h:O.go o k):∃a,o=fw a/\k a:=by
 cases o with
 |none=>simp at h
 |some a=>exact⟨a,rfl,⇑h⟩
def Bj(h:O.getV env j=fw v):env[j]?=fw (fw v):=by
 unfold O.getV at h;split at h
 .rename_i u e;cases h;exact e
 .cases h
variable {í:Pos}
def QR(hN:X.N[j]?=fw x)(hv:Vis X.env.scope x)(hd:(x==("__debug__" : Str))=fz)(aT:(x==("__classdict__" : Str))=fz):PE X (.Name x í) (tE X i Φ<|.var j) :=
 (EE hN hv hd aT).imp λσ H Q ⟨env,G,Qm,Em,p,w,c⟩=>by rw[R5]at w;let⟨v,e,q⟩:=fG w;let⟨y,h1,h2⟩:=p.en.get j v<|Bj e;exact⟨y,h1,c v G H y (f9.refl H) p.hp h2 q⟩
def Jd(h:PE X e<|tC x)(r:∀H,RV i.K H v x):PE X e (tE X i Φ<|.cst v) :=
 h.imp λσ H Q ⟨env,G,Qm,Em,p,w,c⟩=>by exact c v G H x (f9.refl H) p.hp (r H) w
def Pa(h:PE X e<|tC x)(r:∀H,RV i.K H v x):PE X e (tE X i Φ<|.glob y v) :=
 h.imp λσ H Q ⟨env,G,Qm,Em,p,w,c⟩=>by exact c v G H x (f9.refl H) p.hp (r H) w
variable {a:O.E}
def two{b:O.E}{env:O.Env}{F:O.Val->O.Val->O.Hs->Prop}{R:V->V->Hp->Prop}(p:Pre X i σ H env G Em)
  (w:O.wE Φ a env G (λv G1=>O.wE Φ b env G1 (λu G2=>F v u G2) Em) Em)
  (h:∀v u G2 H2 x y,f9 H H2->Pre X i σ H2 env G2 Em->RV i.K H2 v x->RV i.K H2 u y->F v u G2->R x y H2):tE X i Φ a σ H λx H1=>tE X i Φ b σ H1 λy H2=>R x y H2 :=
 ⟨env,G,_,Em,p,w,λv G1 H1 x k1 g1 r1 w1=>⟨env,G1,_,Em,p.go k1 g1,w1,λu G2 H2 y k2 g2 r2 w2=>h v u G2 H2 x y (k1.trans k2) ((p.go k1 g1).go k2 g2) (r1.keep k2) r2 w2⟩⟩
def one{env:O.Env}{F:O.Val->O.Hs->Prop}{R:V->Hp->Prop}(p:Pre X i σ H env G Em)
  (w:O.wE Φ a env G (λv G1=>F v G1) Em) (h:∀v G1 H1 x,f9 H H1->Pre X i σ H1 env G1 Em->RV i.K H1 v x->F v G1->R x H1):tE X i Φ a σ H λx H1=>R x H1 :=
 ⟨env,G,_,Em,p,w,λv G1 H1 x k1 g1 r1 w1=>h v G1 H1 x k1 (p.go k1 g1) r1 w1⟩
abbrev J6(i:Inf)(op:O.Bop)(r:R2):Prop:=∀(v u:O.Val) (G:O.Hs) (H:Hp) (x y:V) (Q:VK) (Qm:O.Q1),RH i G H->RV i.K H v x->RV i.K H u y->(O.binV G op v u).wp G Qm->Cn i H Q Qm->r x y H Q
variable {b:Expr}{ma:O.E}{mb:O.E}
def KW{a:Expr}{bop:O.Bop}(ho:OpR X (Ŋ op) r)(hr:J6 i bop r)(ha:PE X a<|tE X i Φ ma)(hb:PE X b<|tE X i Φ mb):PE X (.BinOp a op b í) (tE X i Φ<|.bin bop ma mb) :=
 (Sa ho ha hb).imp λσ H Q ⟨env,G,Qm,Em,p,w,c⟩=>by exact two p w λv u G2 H2 x y k2 p2 rx ry q=>hr v u G2 H2 x y Q Qm p2.hp rx ry q<|c.go k2
abbrev Z8(i:Inf)(op:O.Cop)(r:R2):Prop:=∀(v u:O.Val) (G:O.Hs) (H:Hp) (x y:V) (c:Bool) (Q:VK),RH i G H->RV i.K H v x->RV i.K H u y->O.fU G op v u=fw c->Q (.bl c) H->r x y H Q
def QM{a:Expr}(ho:OpR X (ð op) r)(hr:Z8 i cop r)(ha:PE X a<|tE X i Φ ma)(hb:PE X b<|tE X i Φ mb)(hm:ŀ op b=fz):PE X (.Compare a [op] [b] í) (tE X i Φ<|.cmp cop ma mb) :=
 (UK ho ha hb hm).imp λσ H Q ⟨env,G,Qm,Em,p,w,c⟩=>by
  exact two p w λv u G2 H2 x y k2 p2 rx ry q=>by let⟨d,e,q⟩:=fG q;exact hr v u G2 H2 x y d Q p2.hp rx ry e<|c (.bl d) G2 H2 (.bl d) k2 p2.hp (.bl d) q
def Pn{a:Expr}(ho:OpR X (ð op) r)(hr:Z8 i cop r)(ha:PE X a<|tE X i Φ ma)(hb:PE X b<|tE X i Φ mb)(hm:ŀ op b=fz):PT X (.Compare a [op] [b] í) (tTt X i Φ<|.val<|.cmp cop ma mb) :=
 (Ak ho ha hb hm).imp λσ H Q ⟨env,G,Qm,Em,p,w,c⟩=>by
  exact two p w λv u G2 H2 x y k2 p2 rx ry q=>by let⟨d,e,q⟩:=fG q;let⟨d',e',q⟩:=fG q;cases e';exact hr v u G2 H2 x y d _ p2.hp rx ry e ⟨d,rfl,c d G2 H2 k2 p2.hp q⟩
def Wx{v:O.Val}{b:Bool}(h:O.gZ v=fw b):v=.bl b:=by cases v<;>simp_all [O.gZ]
def Zy{v:O.Val}{b:Int}(h:O.gY v=fw b):v=.int b:=by cases v<;>simp_all [O.gY]
def Jz{v:O.Val}{b:O.Ad}(h:O.gu v=fw b):v=.ref b:=by cases v<;>simp_all [O.gu]
def RV.bl_inv{K:Frag}{b:Bool}(r:RV K H (.bl b) x):x=.bl b:=by cases r;rfl
def RV.int_inv{K:Frag}{b:Int}(r:RV K H (.int b) x):x=.int b:=by cases r;rfl
def RV.ref_inv{K:Frag}{b:Ð}(r:RV K H (.ref b) x):x=.ref b:=by cases r;rfl
def RV.str_inv{K:Frag}{b:String}(r:RV K H (.str b) x):x=.str (im b):=by cases r;rfl
def RV.non_inv{K:Frag}(r:RV K H .non x):x=.non:=by cases r;rfl
def RI{a:Expr}(ha:PE X a<|tE X i Φ ma):PE X (.UnaryOp .Not a í) (tE X i Φ<|.not ma) :=
 (LM ha).imp λσ H Q ⟨env,G,Qm,Em,p,w,c⟩=>by
  exact one p w λv G1 H1 x k1 p1 r q=>by let⟨b,e,q2⟩:=fG q;clear q;cases Wx e;exact⟨b,r.bl_inv,c _ G1 H1 _ k1 p1.hp (.bl _) q2⟩
def QE{a:Expr}(ha:PE X a<|tE X i Φ ma):PE X (.UnaryOp .USub a í) (tE X i Φ<|.neg ma) :=
 (RN Lm ha).imp λσ H Q ⟨env,G,Qm,Em,p,w,c⟩=>by
  exact one p w λv G1 H1 x k1 p1 r q=>by let⟨b,e,q2⟩:=fG q;clear q;cases Zy e;exact⟨b,r.int_inv,c _ G1 H1 _ k1 p1.hp (.int _) q2⟩
def Sd{a:Expr}{rest:List Expr}(ha:PE X a<|tE X i Φ ma)(hb:PE X (.BoolOp .And (b::rest) í)<|tE X i Φ mb):PE X (.BoolOp .And (a::b::rest) í) (tE X i Φ<|.and ma mb) :=
 (PM ha hb).imp λσ H Q ⟨env,G,Qm,Em,p,w,c⟩=>by
  exact one p w λv G1 H1 x k1 p1 r q=>by
   let⟨d,e,q2⟩:=fG q;clear q;cases Wx e;refine⟨d,r.bl_inv,?_⟩;cases d with
   |true=>exact⟨env,G1,Qm,Em,p1,⇑q2,c.go k1⟩
   |false=>simp at q2 ⊢;exact c _ G1 H1 _ k1 p1.hp (.bl _) q2
def Tz{a:Expr}{rest:List Expr}(ha:PE X a<|tE X i Φ ma)(hb:PE X (.BoolOp .Or (b::rest) í)<|tE X i Φ mb):PE X (.BoolOp .Or (a::b::rest) í) (tE X i Φ<|.or ma mb) :=
 (Sn ha hb).imp λσ H Q ⟨env,G,Qm,Em,p,w,c⟩=>by
  exact one p w λv G1 H1 x k1 p1 r q=>by
   let⟨d,e,q2⟩:=fG q;clear q;cases Wx e;refine⟨d,r.bl_inv,?_⟩;cases d with
   |false=>exact⟨env,G1,Qm,Em,p1,⇑q2,c.go k1⟩
   |true=>simp at q2 ⊢;exact c _ G1 H1 _ k1 p1.hp (.bl _) q2
def PB{a:Expr}{ma:O.Tt}(ha:PT X a<|tTt X i Φ ma):PT X (.UnaryOp .Not a í) (tTt X i Φ<|.not ma) :=
 (PV ha).imp λσ H Q ⟨env,G,Qm,Em,p,w,c⟩=>by exact⟨env,G,_,Em,p,w,λb G1 H1 k1 g1 q=>c (!b) G1 H1 k1 g1 q⟩
def Lp{a:Expr}{rest:List Expr}{ma mb:O.Tt}(ha:PT X a<|tTt X i Φ ma)(hb:PW X (.BoolOp .And (b::rest) í)<|tTt X i Φ mb):PW X (.BoolOp .And (a::b::rest) í) (tTt X i Φ<|.and ma mb) :=
 (Lq ha hb).imp λσ H Q ⟨env,G,Qm,Em,p,w,c⟩=>by
  refine⟨env,G,_,Em,p,w,λd G1 H1 k1 g1 q=>?_⟩;cases d with
  |true=>exact⟨env,G1,Qm,Em,p.go k1 g1,⇑q,λb G2 H2 k2=>c b G2 H2<|k1.trans k2⟩
  |false=>simp at q ⊢;exact c fz G1 H1 k1 g1 q
def Rt{a:Expr}{rest:List Expr}{ma mb:O.Tt}(ha:PT X a<|tTt X i Φ ma)(hb:PW X (.BoolOp .Or (b::rest) í)<|tTt X i Φ mb):PW X (.BoolOp .Or (a::b::rest) í) (tTt X i Φ<|.or ma mb) :=
 (Si ha hb).imp λσ H Q ⟨env,G,Qm,Em,p,w,c⟩=>by
  refine⟨env,G,_,Em,p,w,λd G1 H1 k1 g1 q=>?_⟩;cases d with
  |false=>exact⟨env,G1,Qm,Em,p.go k1 g1,⇑q,λb G2 H2 k2=>c b G2 H2<|k1.trans k2⟩
  |true=>simp at q ⊢;exact c fy G1 H1 k1 g1 q
def Fi{a:Expr}{ma:O.Tt}(ha:PT X a<|tTt X i Φ ma):PW X (.BoolOp .And [a] í)<|tTt X i Φ ma:=FV ha
def PY{a:Expr}{ma:O.Tt}(ha:PT X a<|tTt X i Φ ma):PW X (.BoolOp .Or [a] í)<|tTt X i Φ ma:=Lz ha
def Ra{c a:Expr}{mc:O.Tt}(hc:PT X c<|tTt X i Φ mc)(ha:PE X a<|tE X i Φ ma)(hb:PE X b<|tE X i Φ mb):PE X (.IfExp c a b í) (tE X i Φ<|.ife mc ma mb) :=
 (D0 hc ha hb).imp λσ H Q ⟨env,G,Qm,Em,p,w,c⟩=>by
  refine⟨env,G,_,Em,p,w,λd G1 H1 k1 g1 q=>?_⟩;cases d with
  |true=>exact⟨env,G1,Qm,Em,p.go k1 g1,⇑q,c.go k1⟩
  |false=>exact⟨env,G1,Qm,Em,p.go k1 g1,⇑q,c.go k1⟩
def I0:PA X []<|tAr X i Φ .nil 0:=gQ.imp λσ H Q ⟨env,G,Qm,Em,p,w,c⟩=>by exact c [] G H [] (f9.refl H) p.hp .nil rfl w
def FG(he:PE X e<|tE X i Φ m)(hes:PA X es<|tAr X i Φ ms n)(hs:Ý (e::es) X.env=(fz,eval e X.env)::Ý es X.env):PA X (e::es) (tAr X i Φ (.cons m ms)<|n+1) :=
 (ZK he hes hs).imp λσ H Q ⟨env,G,Qm,Em,p,w,c⟩=>by exact⟨env,G,_,Em,p,w,λv G1 H1 x k1 g1 r1 w1=>⟨env,G1,_,Em,p.go k1 g1,w1,λvs G2 H2 xs k2 g2 r2 hn w2=>c (v::vs) G2 H2 (x::xs) (k1.trans k2) g2 (.cons (r1.keep k2) r2) (by rw[Î,hn]) w2⟩⟩
def Ym:O.lim<=à:=by decide
def Yg{o:O.Ob}{u:HO}(g:RH i G H)(w:O.new G o Qm)(c:Cn i H Q Qm)(r:∀p,H p=fx->RO i (upd H p u) p o):∀p,H p=fx->Q (.ref p) (upd H p u):=λp hp=>by unfold O.new at w;exact c (.ref p) _ _ (.ref p) (f9.new hp) (g.put (f9.new hp)<|r p hp) (.ref p) (w p<|g.free hp)
end Snd
namespace HT2
open PySem PySem.Spec PyProof.Rows L2
abbrev Yn:List Int->List Int->Bool
 |[],[]=>fz
 |[],_::_=>fz
 |_::_,[]=>fy
 |x::xs,y::ys=>if x=y then Yn xs ys else ik (x > y)
def E5(A:Ď)(s:Æ)(a:Int)(t:Tok)(c:Int)(u:Tok)(prog:è)(w:ÿ)(E:Ã->Æ->Prop)(Q:Ã->Æ->Prop)(h:Q (.bool<|ik (a > c)) s) :
  wpAny (á prog w) A (richCompare .Gt (.int a t)<|.int c u) Q E s :=
 (PyProof.Rows.gt_int h:wpAny (á prog w) A (ð .Gt (.int a t)<|.int c u) Q E s)
section
open PySem.SeqAt
open PySem.AutoSeq1 (wpAny_loadPart')
open PySem.MeetsSeq PySem.MeetsSeq2 PySem.MeetsSeq3
def Ks(l b:Ð)(items Ņ:Array Ã)(n n2:Nat)(dd dy:Option Ð)(sl eM:Array<|Option Ã)(ns ms:List Int)(hi:ā items.toList ns)(hj:ā Ņ.toList ms) :
  Meets (Builtin.«tuple.__gt__» ⟨[.ref l,.ref b],[]⟩)
   (λ_ R s=>s.heap.get? l=fw { cls:=.type "tuple",dict:=dd,data:=.seq items n,slots:=sl }/\s.heap.get? b=fw { cls:=.type "tuple",dict:=dy,data:=.seq Ņ n2,slots:=eM }/\
     R (.ok<|.ret<|.bool<|Yn ns ms) s) :=
 .of_wp λprog w A R s h=>by
  let⟨hp,g,d,tk,os⟩:=s;let⟨hl,hb,h⟩:=h;have f2:=AutoSeq1.sub_tuple_tuple;have z1:items.size=ns.length:=by rw[<-hi.length];simp
  have z2:Ņ.size=ms.length:=by rw[<-hj.length];simp
  wp_walk using ě hl,ě hb,wpAny_forIn_list _ (λrest b s'=>b.1=fx/\s'=⟨hp,g,d,tk,os⟩/\∃(vs ws:List Ã) (cx dW:List Int),rest=vs.zip ws/\
    ā vs cx/\ā ws dW/\cx.length+Ņ.size=dW.length+items.size/\R (.ok<|.ret<|.bool<|Yn cx dW) ⟨hp,g,d,tk,os⟩) _
  case turn =>
   rintro⟨y,x⟩ rest b s' ⟨bJ,rfl,vs,ws,cx,dW,hz,hvi,hwi,hlen,hR⟩;cases hvi with
   |nil=>rw[Τ]at hz;cases hz
   |cons a t hvi' =>
    cases hwi with
    |nil=>rw[Ε]at hz;cases hz
    |cons c u hwi' =>
     rw[ŗ]at hz;injection hz with hyx hrest;injection hyx with hy hx;subst hy hx;rw[Yn]at hR;simp![Î]at hlen;let⟨e,he,hiff⟩:=HT.eqAt_int A.in1 ⟨hp,g,d,tk,os⟩ a t c u;refine À<|he prog w _ _ ?_;cases e with
     |true =>
      rw[hX<|hiff.mp rfl]at hR
      wp_walk
      exact⟨rfl,rfl,_,_,_,_,hrest,hvi',hwi',by lia,hR⟩
     |false =>
      rw[hZ λq=>ij (hiff.mpr q) Ă]at hR;have hri:=E5 A.in1 ⟨hp,g,d,tk,os⟩ a t c u prog w
      wp_walk using hri
      exact⟨_,rfl,⇑hR⟩
  case fin =>
   rintro⟨b1,b2⟩ s' ⟨bJ,rfl,vs,ws,cx,dW,hz,hvi,hwi,hlen,hR⟩;simp only at bJ;subst bJ;have hv:Yn cx dW=ik (items.size > Ņ.size):=by
    cases hvi with
    |nil =>
     cases hwi with
     |nil =>simp![Ĳ]at hlen;rw[Yn];exact(ie<|by lia).symm
     |cons c u hw =>simp![Ĳ,Î]at hlen;rw[Yn];exact(ie<|by lia).symm
    |cons a t hv =>
     cases hwi with
     |nil =>simp![Ĳ,Î]at hlen;rw[Yn];exact(ig<|by lia).symm
     |cons c u hw =>rw[ŗ]at hz;cases hz
   rw[hv]at hR
   wp_walk
   exact⟨_,rfl,by simpa[Builtin.Tuple.tupleCompareSizes]using hR⟩
  case h =>exact⟨rfl,rfl,items.toList,Ņ.toList,ns,ms,rfl,hi,hj,by lia,h⟩
end
def OF(hl:aW s.heap l items)(hb:aW s.heap b Ņ)(hi:ā items.toList ns)(hj:ā Ņ.toList ms)(hu:A.units<Ğ)(h:Q (.bool<|Yn ns ms) s):wpAny (á prog w) A (ð .Gt (.ref l)<|.ref b) Q E s:=by
 let⟨⟨cls,dd,data,sl⟩,ho,hc,n,hd⟩:=id hl;let⟨⟨cls2,dy,data2,eM⟩,ho2,hc2,n2,bV⟩:=id hb;simp only at hc hd hc2 bV;subst hc hd hc2 bV;exact eV (op:=.Gt) ⟨_,ho,rfl⟩ ⟨_,ho2,rfl⟩ PySem.F.slot_tuple_gt PySem.F.entry_tuple_gt (PySem.F.args_tuple_gt_2 _ _) (Ks l b items Ņ n n2 dd dy sl eM ns ms hi hj)
  ⟨ho,ho2,show Value.bool (Yn ns ms)≠cE/\Q (.bool<|Yn ns ms) s from ⟨(λx=>nomatch x),h⟩⟩ hu
abbrev rGtT(K:Frag):R2:=λx y H Q=>∃a b ns ms,x=.ref a/\y=.ref b/\gU K H a (ns.map V.int)/\gU K H b (ms.map V.int)/\Q (.bl<|Yn ns ms) H
def op_gtT(hu:X.A.units<Ğ):OpR X (ð .Gt)<|rGtT X.K:=by k_ne;let⟨a,b,ns,ms,rfl,rfl,ha,hb,q⟩:=h;cases rx;cases ry;let⟨ú,r1,p1,_⟩:=I.tuple ha;let⟨aJ,r2,p2,_⟩:=I.tuple hb;have i1:ā ú.toArray.toList ns:=ZA r1;have i2:ā aJ.toArray.toList ms:=ZA r2;exact OF p1 p2 i1 i2 hu ⟨.bl<|Yn ns ms,H,I,rfl,q⟩
def lexGt_lt:∀(ns ms:List Int),Yn ns ms=HT.lexLt ms ns
 |[],[]=>rfl
 |[],_::_=>rfl
 |_::_,[]=>rfl
 |x::xs,y::ys=>by
  rw[Yn,HT.lexLt_cons,lexGt_lt xs ys];by_cases e:x=y
  .rw[hX e,hX e.symm]
  .rw[hZ e,hZ λz=>e z.symm]
end HT2
namespace Snd
open PySem L2
mutual
noncomputable def toD:O.D->ϸ
 |.non=>.none
 |.bl b=>.bool b
 |.int i=>.int i
 |.str s=>.str<|im s
 |.tup ds=>.tuple<|toDs ds
 |.lst ds=>.list<|toDs ds
noncomputable def toDs:List O.D->List ϸ
 |[]=>[]
 |d::ds=>toD d::toDs ds
end
def ofS_inj:im s=im t↔s=t:=by
 constructor
 .intro h;rw[Str.ofString_eq_toList,Str.ofString_eq_toList]at h;injection h with h;have h2:s.toList.map ť=t.toList.map ť:=by simpa using congrArg bY h
  have inj:∀{a b:Char},a.toNat=b.toNat->a=b:=λ{a b} e=>Char.ext<|bP e;have:s.toList=t.toList:=by
   revert h2;generalize s.toList=a;generalize t.toList=b;intro h2;induction a generalizing b with
   |nil=>cases b with
    |nil=>rfl
    |cons _ _=>cases h2
   |cons x xs ih=>cases b with
    |nil=>cases h2
    |cons y ys =>simp![Í,aa]at h2;rw[inj h2.1,ih _ h2.2]
  exact String.toList_inj.mp this
 .rintro rfl;rfl
def GK(s t:String):(im s==im t)=(s==t):=by
 by_cases e:s=t
 .subst e;simp
 .have:im s≠im t:=λz=>e<|ofS_inj.mp z;rw[beq_eq_false_iff_ne.mpr this,beq_eq_false_iff_ne.mpr e]
def A6(s:String):PyData.strOk (im s)=fy:=by
 rw[Str.ofString_eq_toList];unfold PyData.strOk;rw[Array.all_eq_true'];intro n hn;have:n∈s.toList.map ť:=⇑hn
 let⟨c,_,rfl⟩:=Ñ.mp this;have:=c.valid;have h2:c.toNat=c.val.toNat:=rfl;simp![UInt32.isValidChar,Nat.isValidChar]at this;simp![ii];lia
mutual
theorem MM:∀d e:O.D,Ī (toD d) (toD e)=O.D.eqv d e
 |.non,e=>by cases e<;>simp[toD,Ī,O.D.eqv]
 |.bl _,e=>by cases e<;>simp[toD,Ī,O.D.eqv]
 |.int _,e=>by cases e<;>simp[toD,Ī,O.D.eqv]
 |.str s,e=>by cases e<;>simp![toD,Ī,O.D.eqv];exact GK _ _
 |.tup ds,e=>by cases e<;>simp![toD,Ī,O.D.eqv];exact toDs_eqv _ _
 |.lst ds,e=>by cases e<;>simp![toD,Ī,O.D.eqv];exact toDs_eqv _ _
theorem toDs_eqv:∀ds es:List O.D,Ο (toDs ds) (toDs es)=O.D.eqvs ds es
 |[],[]=>by simp[toDs,Ο,O.D.eqvs]
 |[],_::_=>by simp[toDs,Ο,O.D.eqvs]
 |_::_,[]=>by simp[toDs,Ο,O.D.eqvs]
 |d::ds,e::es=>by simp![toDs,Ο,O.D.eqvs,MM d e,toDs_eqv ds es]
end
mutual
theorem MF:∀d:O.D,(toD d).canLay0=fy
 |.non=>by simp[toD,Ŷ]
 |.bl _=>by simp[toD,Ŷ]
 |.int _=>by simp[toD,Ŷ]
 |.str s=>by simp![toD,Ŷ];exact A6 s
 |.tup ds=>by simp![toD,Ŷ];exact toDs_lay ds
 |.lst ds=>by simp![toD,Ŷ];exact toDs_lay ds
theorem toDs_lay:∀ds:List O.D,Ŝ (toDs ds)=fy
 |[]=>by simp[toDs,Ŝ]
 |d::ds=>by simp![toDs,Ŝ,MF d,toDs_lay ds,Bool.and_self]
end
section
def Ax{α β:Type}{f:α->Option β}:∀{xs:List α}{ys:List β},xs.mapM f=fw ys->List.length xs=ys.length/\∀(n:Nat) (x:α),xs[n]?=fw x->∃y,ys[n]?=fw y/\f x=fw y:=by
 intro xs;induction xs with
 |nil=>intro ys h;simp at h;subst h;exact⟨rfl,λn x e=>by simp at e⟩
 |cons a as ih =>
  intro ys h;rw[ļ]at h;cases e:f a with
  |none=>rw[e]at h;simp at h
  |some b =>
   rw[e]at h;cases e2:as.mapM f with
   |none=>rw[e2]at h;simp at h
   |some bs =>
    rw[e2]at h;simp at h;subst h;let⟨h1,h2⟩:=ih e2;refine⟨by simp[h1],λn x hn=>?_⟩;cases n with
    |zero=>simp at hn;subst hn;exact⟨b,rfl,e⟩
    |succ n=>simp at hn ⊢;exact h2 n x hn
def Am{K:Frag}(hf:∀v d x,f v=fw d->RV K H v x->IsD K H x (toD d)):∀{vs:List O.Val}{xs:List V}{ds:List O.D},vs.mapM f=fw ds->RVs K H vs xs->IsDs K H xs (toDs ds):=by
 intro vs;induction vs with
 |nil=>intro xs ds h r;simp at h;subst h;cases r;exact .nil
 |cons a as ih =>
  intro xs ds h r;rw[ļ]at h;cases e:f a with
  |none=>rw[e]at h;simp at h
  |some b =>
   rw[e]at h;cases e2:as.mapM f with
   |none=>rw[e2]at h;simp at h
   |some bs =>
    rw[e2]at h;simp at h;subst h;cases r with
    |cons r1 r2=>exact .cons (hf a b _ e r1)<|ih e2 r2
def ZE(g:RH i G H){a:Ð}(e:O.fQ (G a)=fw xs):∃vs,gT i.K H a vs/\RVs i.K H xs vs:=by
 cases q:G a with
 |none=>rw[q]at e;cases e
 |some o =>
  rw[q]at e;cases o with
  |lst ys=>cases e;let⟨vs,h,r⟩:=g a _ q;exact⟨vs,gT.of h,r⟩
  |dct _=>cases e
  |ins _ _=>cases e
  |exc _=>cases e
  |frz _=>cases e
  |dtp _=>cases e
def KF:∀ns:List Int,toDs (ns.map O.D.int)=ns.map PyData.int
 |[]=>by simp[toDs]
 |n::ns=>by simp![Í,toDs,toD,KF ns]
def Ws(g:RH i G H):∀(n:Nat) (v:O.Val) (d:O.D) (x:V),O.dat G n v=fw d->RV i.K H v x->IsD i.K H x (toD d):=by
 intro n;induction n with
 |zero =>
  intro v d x e r;cases v with
  |non=>cases r;simp[O.dat]at e;subst e;rw[toD];exact .non
  |bl b=>cases r;simp[O.dat]at e;subst e;rw[toD];exact .bl b
  |int b=>cases r;simp[O.dat]at e;subst e;rw[toD];exact .int b
  |str s=>cases r;simp[O.dat]at e;subst e;rw[toD];exact .str _
  |tup xs=>simp[O.dat]at e
  |ref a=>simp[O.dat]at e
  |scr ns=>simp[O.dat]at e
  |key _ _=>simp[O.dat]at e
 |succ n ih =>
  intro v d x e r;cases v with
  |non=>cases r;simp[O.dat]at e;subst e;rw[toD];exact .non
  |bl b=>cases r;simp[O.dat]at e;subst e;rw[toD];exact .bl b
  |int b=>cases r;simp[O.dat]at e;subst e;rw[toD];exact .int b
  |str s=>cases r;simp[O.dat]at e;subst e;rw[toD];exact .str _
  |tup xs =>
   rw[O.dat]at e;cases z:xs.mapM (O.dat G n)with
   |none=>rw[z]at e;cases e
   |some ds =>
    rw[z]at e;cases e;cases r with
    |tup hp hr=>rw[toD];exact .tup (Zl hp)<|Am ih z hr
  |ref a =>
   rw[O.dat]at e;cases q:O.fQ (G a)with
   |none=>rw[q]at e;cases e
   |some xs =>
    rw[q]at e;simp![ö]at e;cases z:xs.mapM (O.dat G n)with
    |none=>rw[z]at e;cases e
    |some ds =>rw[z]at e;cases e;cases r.ref_inv;let⟨vs,h1,h2⟩:=ZE g q;rw[toD];exact .lst h1<|Am ih z h2
  |scr ns =>
   simp[O.dat]at e;subst e;cases r with
   |scr h =>rw[toD,KF];exact .lst (Ye h)<|IsDs.ints ns
  |key _ _=>simp[O.dat]at e
def XY:∀{ds:List O.D},(∀d∈ds,(toD d).depth<=n)->Ł (toDs ds)<=n
 |[],_=>by rw[toDs];simp[Ł]
 |d::ds,h=>by rw[toDs];simp![Ł];exact Nat.max_le.mpr ⟨h d (by simp),XY λe he=>h e<|by simp[he]⟩
def K4:∀(n:Nat) (v:O.Val) (d:O.D),O.dat G n v=fw d->(toD d).depth<=n:=by
 have sc:∀(n:Nat) (v:O.Val) (d:O.D),(∀xs,v≠.tup xs)->(∀a,v≠.ref a)->(∀ns,v≠.scr ns)->O.dat G n v=fw d->(toD d).depth<=n:=by
  intro n v d h1 h2 h3 e;cases v with
  |tup xs=>exact ij rfl<|h1 xs
  |ref a=>exact ij rfl<|h2 a
  |scr ns=>exact ij rfl<|h3 ns
  |key _ _=>cases n<;>simp[O.dat]at e
  |_=>simp[O.dat]at e;subst e;simp[toD,PyData.depth]
 have ms:∀(n:Nat),(∀v d,O.dat G n v=fw d->(toD d).depth<=n)->∀(xs:List O.Val) (ds:List O.D),xs.mapM (O.dat G n)=fw ds->Ł (toDs ds)<=n:=by
  intro n ih xs ds z;refine XY λd hd=>?_;let⟨k,hk⟩:=cL.mp hd;let⟨h1,h2⟩:=Ax z;have Ϭ:k<xs.length:=by rw[h1];exact(Ó.mp hk).1
  let⟨y,hy,hf⟩:=h2 k xs[k]<|Ê Ϭ;rw[hk]at hy;cases hy;exact ih _ _ hf
 intro n;induction n with
 |zero =>
  intro v d e;cases v with
  |tup xs=>simp[O.dat]at e
  |ref a=>simp[O.dat]at e
  |scr ns=>simp[O.dat]at e
  |_=>exact sc 0 _ d (by simp) (by simp) (by simp) e
 |succ n ih =>
  intro v d e;cases v with
  |tup xs =>
   rw[O.dat]at e;cases z:xs.mapM (O.dat G n)with
   |none=>rw[z]at e;cases e
   |some ds =>rw[z]at e;cases e;rw[toD];exact ό<|ms n ih xs ds z
  |ref a =>
   rw[O.dat]at e;cases q:O.fQ (G a)with
   |none=>rw[q]at e;cases e
   |some xs =>
    rw[q]at e;simp![ö]at e;cases z:xs.mapM (O.dat G n)with
    |none=>rw[z]at e;cases e
    |some ds =>rw[z]at e;cases e;rw[toD];exact ό<|ms n ih xs ds z
  |scr ns =>simp[O.dat]at e;subst e;rw[toD];refine ό<|Û ?_<|Ę n;refine XY λd hd=>?_;let⟨m,_,rfl⟩:=Ñ.mp hd;simp[toD,PyData.depth]
  |_=>exact sc (n+1) _ d (by simp) (by simp) (by simp) e
def Kc(e:O.dat G O.deep v=fw d):SeqAt.shaped (toD d)=fy:=by show((toD d).canLay0&&ik ((toD d).depth<=64))=fy;rw[MF,ig<|Û (K4 _ _ _ e)<|by decide];rfl
def Ae(g:RH i G H)(rx:RV i.K H v x)(ry:RV i.K H u y)(e:O.eqV G v u=fw c):∃d d',IsD i.K H x d/\IsD i.K H y d'/\SeqAt.shaped d=fy/\SeqAt.shaped d'=fy/\Ī d d'=c:=by
 unfold O.eqV at e;cases z:O.dat G O.deep v with
 |none=>rw[z]at e;cases e
 |some d =>
  cases z2:O.dat G O.deep u with
  |none=>rw[z,z2]at e;cases e
  |some d' =>rw[z,z2]at e;cases e;exact⟨_,_,Ws g _ _ _ _ z rx,Ws g _ _ _ _ z2 ry,Kc z,Kc z2,MM d d'⟩
def Th:Z8 i .eq<|Rf i.K:=by k_get;let⟨d,d',h1,h2,h3,h4,h5⟩:=Ae g rx ry e;exact⟨d,d',h1,h2,h3,h4,by rw[h5];exact q⟩
def SD:Z8 i .ne<|Rm i.K:=by
 k_get;have e:(O.eqV G v u).map (!·)=fw c:=e;cases z:O.eqV G v u with
 |none=>rw[z]at e;cases e
 |some b =>rw[z]at e;cases e;let⟨d,d',h1,h2,h3,h4,h5⟩:=Ae g rx ry z;exact⟨d,d',h1,h2,h3,h4,by rw[h5];exact q⟩
end
def ZH(s:String):(im s).length=s.length:=by rw[Str.ofString_eq_toList];show(List.map ť s.toList).toArray.size=_;rw[Ï,Á];first|rfl|exact cg
def HV(s t:String):im (s++t)=im s++im t:=by rw[Str.ofString_eq_toList,Str.ofString_eq_toList,Str.ofString_eq_toList];show _=Str.append _ _;unfold Str.append;simp
def AD(h:O.fQ o=fw xs):o=fw (.lst xs):=by
 cases o with
 |none=>cases h
 |some o=>cases o with
  |lst ys=>cases h;rfl
  |_=>cases h
variable {p:Prop}
def Zm{α:Type}[Decidable p]{o:Option α}{a:α}(e:(if p then o else fx)=fw a):p/\o=fw a:=by
 by_cases q:p
 .rw[hX q]at e;exact⟨q,e⟩
 .rw[hZ q]at e;cases e
variable {h:O.Hs}
def Zi(w:O.Rs.no.wp h Q):False:=by rw[O.Rs.wp_no]at w;exact w
def Zn(w:(O.Rs.val v).wp h Q):Q v h:=by rw[O.Rs.wp_val]at w;exact w
def Ni(w:(O.Rs.new o).wp h Q):O.new h o Q:=by rw[O.Rs.wp_new]at w;exact w
def Wg[Decidable p]{r:O.Rs}(w:(if p then r else .no).wp h Q):p/\r.wp h Q:=by
 by_cases e:p
 .rw[hX e]at w;exact⟨e,w⟩
 .rw[hZ e]at w;exact(Zi w).elim
variable {u:O.Val}
def Xv(w:(O.intV f v u).wp h Q):∃i j,v=.int i/\u=.int j/\(f i j).wp h Q:=by
 cases v with
 |int i=>cases u with
  |int j=>exact⟨i,j,rfl,rfl,w⟩
  |_=>exact(Zi w).elim
 |_=>exact(Zi w).elim
abbrev IT(K:Frag):R2:=λx y H Q=>(rI0 λi j=>.int<|i+j) x y H Q\/(((IR K x y H Q\/IG K x y H Q)\/Rh x y H Q)\/∃i j,x=.str i/\y=.str j/\i.length+j.length<=à/\Q (.str<|i++j) H)
def RB:OpR X (Ŋ .Add)<|IT X.K:=op_add.or (((op_cat0.or FD).or Lx).or O1)
def b_add:J6 i .add<|IT i.K:=by
 intro v u G H x y Q Qm g rx ry w c;cases v<;>cases u<;>first|exact(Zi w).elim|skip
 case int.int a b =>
  replace w:=Zn w
  exact .inl ⟨a,b,rx.int_inv,ry.int_inv,c _ G H _ (f9.refl H) g (.int _) w⟩
 case str.str a b =>
  let⟨h,w⟩:=Wg w
  replace w:=Zn w
  refine .inr<|.inr ⟨_,_,rx.str_inv,ry.str_inv,?_,?_⟩
  .rw[ZH,ZH];exact Û h Ym
  .rw[<-HV];exact c _ G H _ (f9.refl H) g (.str _) w
 case tup.tup xs ys =>
  let⟨h,w⟩:=Wg w
  replace w:=Zn w
  .skip
   cases rx with
   |@tup _ p vs hp hr =>
   cases ry with
   |@tup _ q us hq hs =>
   by_cases h0:vs=[]
   .subst h0;have:xs=[]:=aE hr.length;subst this;exact .inr<|.inl<|.inl<|.inl ⟨p,q,us,rfl,rfl,Zl hp,Zl hq,c _ G H _ (f9.refl H) g (.tup hq hs) w⟩
   refine .inr<|.inl<|.inl<|.inr ⟨p,q,vs,us,rfl,rfl,Zl hp,Zl hq,h0,?_,λz=>?_,λz a ha=>?_⟩
   .rw[<-hr.length,<-hs.length];exact Û h Ym
   .have:ys=[]:=aE (by rw[hs.length,z];rfl);subst this;rw[ï]at w;exact c _ G H _ (f9.refl H) g (.tup hp hr) w
   .have k:=f9.new (o:=.tup<|vs++us) ha;refine c _ G _ _ k (g.hid k λb o e=>fA ?_) (.tup (.inl fB)<|(hr.keep k).append<|hs.keep k) w;rintro rfl;rw[g.free ha]at e;cases e
 case ref.ref a b =>
  dsimp only[O.binV,O.addV]at w;split at w
  .rename_i xs ys e1 e2;unfold O.Rs.lst at w;split at w
   .rename_i hl;rw[O.Rs.wp_new]at w;cases rx.ref_inv;cases ry.ref_inv;let⟨vs,h1,r1⟩:=g a _ e1;let⟨us,h2,r2⟩:=g b _ e2;refine .inr (.inl<|.inr ⟨a,b,vs,us,rfl,rfl,h1,h2,?_,Yg g w c λp hp=>?_⟩)
    .rw[<-r1.length,<-r2.length,<-ì];exact Û hl Ym
    .have k:=f9.new (o:=.lst<|vs++us) hp;exact⟨_,fB,(r1.keep k).append<|r2.keep k⟩
   .exact(Zi w).elim
  .exact(Zi w).elim
def b_sub:J6 i .sub<|rI0 λi j=>.int<|i - j:=by intro v u G H x y Q Qm g rx ry w c;let⟨a,b,rfl,rfl,w⟩:=Xv w;exact⟨a,b,rx.int_inv,ry.int_inv,c _ G H _ (f9.refl H) g (.int _)<|Zn w⟩
def RVs.rep{K:Frag}{H:Hp}{vs:List O.Val}{xs:List V}(r:RVs K H vs xs):∀n,RVs K H (Þ n vs).flatten (Þ n xs).flatten
 |0=>.nil
 |n+1=>by rw[Đ,Đ,ņ,ņ];exact r.append<|RVs.rep r n
set_option exponentiation.threshold 2000 in
def L8{i j:Int}(h:O.mulOk i j):IntMulOk i j:=by
 rcases h with(h|h)|⟨h1,h2⟩
 .exact .of_left (intBits_le_64 ↥0<|by lia)
 .exact .of_right (intBits_le_64 ↥0<|by lia)
 .have e:(10:Nat) ^ 200<2 ^ 1000:=by decide
  exact .of_bits (Û (PyProof.Rows.intBits_le<|Ù h1 e)<|by decide) (Û (PyProof.Rows.intBits_le<|Ù h2 e)<|by decide)
def E8(s:String)(n:Nat):Qd (im s) n=im (O.repT s n):=by unfold Qd O.repT;rw[Str.ofString_eq_toList,Str.ofString_eq_toList,cj];congr 1;apply fb.mp;rw[KO];simp[List.map_flatten,List.map_replicate]
abbrev IH:R2:=λx y H Q=>rI O.mulOk (λi j=>.int<|i*j) x y H Q\/(QJ x y H Q\/Id x y H Q)
def Qz:OpR X (Ŋ .Mult) IH:=OpR.or (opI λ_ _ _ _ _ _ _ hc q=>PyProof.Rows.mul_int q<|L8 hc) (op_rep.or Ft)
def b_mul:J6 i .mul IH:=by
 intro v u G H x y Q Qm g rx ry w c;cases v<;>cases u<;>first|exact(Zi w).elim|skip
 case int.int a b =>let⟨h,w⟩:=Wg w;exact .inl ⟨a,b,rx.int_inv,ry.int_inv,h,c _ G H _ (f9.refl H) g (.int _)<|Zn w⟩
 case ref.int a k =>
  dsimp only[O.binV,O.mulV]at w;split at w
  .rename_i xs e1;split at w
   .rename_i hk;unfold O.Rs.lst at w;split at w
    .rw[O.Rs.wp_new]at w;cases rx.ref_inv;cases ry.int_inv;let⟨vs,h1,r1⟩:=g a _ e1;refine .inr (.inl ⟨a,k,vs,rfl,rfl,h1,by lia,by lia,?_,Yg g w c λp hp=>?_⟩)
     .rw[<-r1.length];exact Û hk.2.2 Ym
     .have kk:=f9.new (o:=.lst (Þ k.toNat vs).flatten) hp;exact⟨_,fB,(r1.keep kk).rep _⟩
    .exact(Zi w).elim
   .exact(Zi w).elim
  .exact(Zi w).elim
 case str.int a k =>
  let⟨hk,w⟩:=Wg w
  replace w:=Zn w
  refine .inr (.inr ⟨_,k,rx.str_inv,ry.int_inv,hk.1,hk.2.1,by rw[ZH];exact hk.2.2.1,by rw[ZH];exact hk.2.2.2,?_⟩);rw[E8];exact c _ G H _ (f9.refl H) g (.str _) w
def b_fdiv:J6 i .fdiv<|rI R4 λi j=>.int<|i / j:=by intro v u G H x y Q Qm g rx ry w c;let⟨a,b,rfl,rfl,w⟩:=Xv w;let⟨h,w⟩:=Wg w;exact⟨a,b,rx.int_inv,ry.int_inv,h,c _ G H _ (f9.refl H) g (.int _)<|Zn w⟩
def b_mod:J6 i .mod<|rI (λ_ j=>0<j) λi j=>.int<|i % j:=by intro v u G H x y Q Qm g rx ry w c;let⟨a,b,rfl,rfl,w⟩:=Xv w;let⟨h,w⟩:=Wg w;exact⟨a,b,rx.int_inv,ry.int_inv,h,c _ G H _ (f9.refl H) g (.int _)<|Zn w⟩
def b_pow:J6 i .pow<|rI Rk λi j=>.int<|i ^ j.toNat:=by intro v u G H x y Q Qm g rx ry w c;let⟨a,b,rfl,rfl,w⟩:=Xv w;let⟨h,w⟩:=Wg w;exact⟨a,b,rx.int_inv,ry.int_inv,h,c _ G H _ (f9.refl H) g (.int _)<|Zn w⟩
def ZY{K:Frag}:∀{xs:List O.Val}{ns:List Int}{vs:List V},O.fL xs=fw ns->RVs K H xs vs->vs=ns.map V.int
 |[],_,_,e,r=>by cases r;cases e;rfl
 |v::xs,_,_,e,r=>by
  cases r with
  |cons r t=>cases v with
   |int k =>
    have e:(O.fL xs).map (k :: ·)=fw _:=e;cases z:O.fL xs with
    |none=>rw[z]at e;cases e
    |some ns=>rw[z]at e;cases e;cases r;rw[ZY z t];rfl
   |_=>cases e
def ML:∀(ns ms:List Int),O.gy ns ms=HT.lexLt ns ms
 |[],[]=>rfl
 |[],_::_=>rfl
 |_::_,[]=>rfl
 |x::xs,y::ys=>by rw[O.gy,HT.lexLt_cons,ML xs ys]
abbrev Rr(K:Frag):R2:=λx y H Q=>rI0 (λi j=>.bl<|ik (i<j)) x y H Q\/RK K x y H Q
def S0(hu:X.A.units<Ğ):OpR X (ð .Lt)<|Rr X.K:=op_lt.or (LZ hu)
abbrev QF(K:Frag):R2:=λx y H Q=>rI0 (λi j=>.bl<|ik (j<i)) x y H Q\/HT2.rGtT K x y H Q
def SY(hu:X.A.units<Ğ):OpR X (ð .Gt)<|QF X.K:=op_gt.or (HT2.op_gtT hu)
variable {H:Hp}{c:Bool}
def IQ{K:Frag}(rx:RV K H (.tup xs) x)(ry:RV K H (.tup ys) y)(e:O.gA (.tup xs) (.tup ys)=fw c):∃a b ns ms,x=.ref a/\y=.ref b/\gU K H a (ns.map V.int)/\gU K H b (ms.map V.int)/\HT.lexLt ns ms=c:=by
 simp![O.gA]at e;cases z1:O.fL xs with
 |none=>rw[z1]at e;cases e
 |some ns =>
  cases z2:O.fL ys with
  |none=>rw[z1,z2]at e;cases e
  |some ms =>
   rw[z1,z2]at e;cases e;cases rx with
   |@tup _ p vs hp hr =>
   cases ry with
   |@tup _ q us hq hs =>
   have h1:=ZY z1 hr;have h2:=ZY z2 hs;subst h1 h2;exact⟨p,q,ns,ms,rfl,rfl,Zl hp,Zl hq,(ML _ _).symm⟩
def IK(e:O.gA v u=fw c):(∃a b,v=.int a/\u=.int b/\ik (a<b)=c)\/∃xs ys,v=.tup xs/\u=.tup ys:=by
 cases v with
 |int a=>cases u with
  |int b=>cases e;exact .inl ⟨a,b,rfl,rfl,rfl⟩
  |_=>cases e
 |tup xs=>cases u with
  |tup ys=>exact .inr ⟨xs,ys,rfl,rfl⟩
  |_=>cases e
 |_=>cases e
def c_lt:Z8 i .lt<|Rr i.K:=by
 k_get;rcases IK e with⟨a,b,rfl,rfl,rfl⟩|⟨xs,ys,rfl,rfl⟩
 .exact .inl ⟨a,b,rx.int_inv,ry.int_inv,q⟩
 .obtain⟨a,b,ns,ms,h1,h2,h3,h4,h5⟩:=IQ rx ry e;exact .inr ⟨a,b,ns,ms,h1,h2,h3,h4,by rw[h5];exact q⟩
def c_gt:Z8 i .gt<|QF i.K:=by
 k_get;rcases IK e with⟨a,b,rfl,rfl,rfl⟩|⟨xs,ys,rfl,rfl⟩
 .exact .inl ⟨b,a,rx.int_inv,ry.int_inv,q⟩
 .obtain⟨a,b,ns,ms,h1,h2,h3,h4,h5⟩:=IQ ry rx e;exact .inr ⟨b,a,ms,ns,h2,h1,h4,h3,by rw[HT2.lexGt_lt,h5];exact q⟩
def Ij(e:O.leV v u=fw c):∃i j,v=.int i/\u=.int j/\ik (i<=j)=c:=by
 cases v with
 |int i=>cases u with
  |int j=>cases e;exact⟨i,j,rfl,rfl,rfl⟩
  |_=>cases e
 |_=>cases e
def c_le:Z8 i .le<|rI0 λi j=>.bl<|ik (i<=j):=by k_get;let⟨a,b,rfl,rfl,rfl⟩:=Ij e;exact⟨a,b,rx.int_inv,ry.int_inv,q⟩
def c_ge:Z8 i .ge<|rI0 λi j=>.bl<|ik (j<=i):=by k_get;let⟨a,b,rfl,rfl,rfl⟩:=Ij e;exact⟨b,a,rx.int_inv,ry.int_inv,q⟩
def RV.isN{K:Frag}(r:RV K H v x):ik (x=.non)=ik (v=.non):=by cases r<;>simp
variable {a:Expr}{ma:O.E}{í:Pos}{p2:Pos}{j:Nat}
def Sv(ha:PE X a<|tE X i Φ ma):PE X (.Compare a [.Is] [.Constant .none j p2] í) (tE X i Φ<|.cmp .is ma<|.cst .non) :=
 (BY (EL ha) rfl).imp λσ H Q ⟨env,G,Qm,Em,p,w,c⟩=>by refine one p w λv G1 H1 x k1 p1 r q=>?_;let⟨d,e,q2⟩:=fG q;have e:fw (ik (v=.non))=fw d:=e;cases e;rw[r.isN];exact c _ G1 H1 _ k1 p1.hp (.bl _) q2
def Lb(ha:PE X a<|tE X i Φ ma):PE X (.Compare a [.IsNot] [.Constant .none j p2] í) (tE X i Φ<|.cmp .isnot ma<|.cst .non) :=
 (BY (UP ha) rfl).imp λσ H Q ⟨env,G,Qm,Em,p,w,c⟩=>by refine one p w λv G1 H1 x k1 p1 r q=>?_;let⟨d,e,q2⟩:=fG q;have e:fw (!ik (v=.non))=fw d:=e;cases e;rw[r.isN];exact c _ G1 H1 _ k1 p1.hp (.bl _) q2
def LC(ha:PE X a<|tE X i Φ ma):PT X (.Compare a [.Is] [.Constant .none j p2] í) (tTt X i Φ<|.val<|.cmp .is ma<|.cst .non) :=
 (Cq (EL ha) rfl).imp λσ H Q ⟨env,G,Qm,Em,p,w,c⟩=>by refine one p w λv G1 H1 x k1 p1 r q=>?_;let⟨d,e,q2⟩:=fG q;let⟨d',e',q3⟩:=fG q2;cases e';have e:fw (ik (v=.non))=fw d:=e;cases e;rw[r.isN];exact⟨_,rfl,c _ G1 H1 k1 p1.hp q3⟩
def GB(ha:PE X a<|tE X i Φ ma):PT X (.Compare a [.IsNot] [.Constant .none j p2] í) (tTt X i Φ<|.val<|.cmp .isnot ma<|.cst .non) :=
 (Cq (UP ha) rfl).imp λσ H Q ⟨env,G,Qm,Em,p,w,c⟩=>by refine one p w λv G1 H1 x k1 p1 r q=>?_;let⟨d,e,q2⟩:=fG q;let⟨d',e',q3⟩:=fG q2;cases e';have e:fw (!ik (v=.non))=fw d:=e;cases e;rw[r.isN];exact⟨_,rfl,c _ G1 H1 k1 p1.hp q3⟩
end Snd
namespace Snd
open PySem L2 PySem.Spec PyProof.Rows
variable {i:Inf}
def RKs.length{K:Frag}:∀{kvs:List (O.Val×O.Val)}{ps:List (Key×V)},RKs K H kvs ps->kvs.length=ps.length
 |_,_,.nil=>rfl
 |_,_,.cons _ _ t=>by rw[Î,Î,RKs.length t]
def W3(a:WU k c)(b:WU j d):(k==j)=ik (c=d):=by
 have key:k=j↔c=d:=by
  cases k<;>cases c<;>first|(cases a;done)|skip
  .cases j<;>cases d<;>first|(cases b;done)|skip
   .cases a;cases b;simp
   .cases a;cases b;simp
  .cases j<;>cases d<;>first|(cases b;done)|skip
   .cases a;cases b;simp
   .cases a;cases b;simp[ofS_inj]
 by_cases e:k=j
 .rw[ig<|key.mp e,e];simp
 .rw[ie λz=>e<|key.mpr z];simpa using e
def fS{K:Frag}(h:O.fX k=fy)(r:RV K H k x):∃c,WU k c/\x=kV c:=by
 cases k with
 |int n=>cases r.int_inv;exact⟨.inl n,rfl,rfl⟩
 |str s=>cases r.str_inv;exact⟨.inr<|im s,rfl,rfl⟩
 |_=>cases h
def RKs.look{K:Frag}(a:WU k c):∀{kvs:List (O.Val×O.Val)}{ps:List (Key×V)},RKs K H kvs ps->
  (∀v,O.gf kvs k=fw v->∃x,Yt ps c=fw x/\RV K H v x)/\(O.gf kvs k=fx->Yt ps c=fx)
 |_,_,.nil=>⟨λv e=>(by cases e),λ_=>rfl⟩
 |_,_,.cons (k:=j) (v:=u) (c:=d) (x:=y) (kvs:=kvs) (ps:=ps) b r t=>by
  have ih:=RKs.look a t;have q:=W3 b a;by_cases e:d=c
  .rw[ig e]at q;have e1:O.gf ((j,u)::kvs) k=fw u:=by simp[O.gf,č,q]
   rw[e1,Xa e];exact⟨λv z=>(by cases z;exact⟨y,rfl,r⟩),λz=>(by cases z)⟩
  .rw[ie e]at q;have e1:O.gf ((j,u)::kvs) k=O.gf kvs k:=by simp[O.gf,č,q]
   rw[e1,Y5 e];exact ih
def RKs.has{K:Frag}(a:WU k c):∀{kvs:List (O.Val×O.Val)}{ps:List (Key×V)},RKs K H kvs ps->O.gg kvs k=ps.any λkv=>ik (kv.1=c)
 |_,_,.nil=>rfl
 |_,_,.cons b r t=>by have ih:=RKs.has a t;unfold O.gg at ih ⊢;rw[Ġ,Ġ,ih,W3 b a]
def RKs.app{K:Frag}(a:WU k c)(q:RV K H v x):∀{kvs:List (O.Val×O.Val)}{ps:List (Key×V)},RKs K H kvs ps->RKs K H (kvs++[(k,v)]) (ps++[(c,x)])
 |_,_,.nil=>.cons a q .nil
 |_,_,.cons b r t=>.cons b r<|RKs.app a q t
def RKs.repl{K:Frag}(a:WU k c)(q:RV K H v x):∀{kvs:List (O.Val×O.Val)}{ps:List (Key×V)},RKs K H kvs ps->
  RKs K H (kvs.map λp=>if p.1==k then(k,v)else p) (ps.map λkv=>if kv.1=c then(kv.1,x)else kv)
 |_,_,.nil=>.nil
 |_,_,.cons (k:=j) (v:=u) (c:=d) (x:=y) b r t=>by
  have ih:=RKs.repl a q t;have z:=W3 b a;rw[Í,Í];by_cases e:d=c
  .rw[ig e]at z;rw[hX z,hX e];exact .cons (e▸a) q ih
  .rw[ie e]at z;rw[hZ (by rw[z];decide),hZ e];exact .cons b r ih
def RKs.put{K:Frag}(a:WU k c)(q:RV K H v x)(r:RKs K H kvs ps):RKs K H (O.gh kvs k v)<|L2.gh ps c x:=by
 unfold O.gh L2.gh;rw[r.has a];by_cases e:(ps.any λkv=>ik (kv.1=c))=fy
 .rw[hX e,hX e];exact r.repl a q
 .rw[hZ e,hZ e];exact r.app a q
def RKs.drop{K:Frag}(a:WU k c):∀{kvs:List (O.Val×O.Val)}{ps:List (Key×V)},RKs K H kvs ps->RKs K H (O.gj kvs k) (L2.gj ps c)
 |_,_,.nil=>.nil
 |_,_,.cons (k:=j) (v:=u) (c:=d) (x:=y) b r t=>by
  have ih:=RKs.drop a t;have z:=W3 b a;unfold O.gj L2.gj at ih ⊢;rw[Ā,Ā];by_cases e:d=c
  .rw[ig e]at z;rw[hZ (by rw[z];decide),hZ<|by simpa using e];exact ih
  .rw[ie e]at z;rw[hX (by rw[z];rfl),hX<|by simpa using e];exact .cons b r ih
variable {H:Hp}{a:Ð}
def M1{kvs:List (O.Val×O.Val)}(g:RH i G H)(h:H a=fw (.dK ps))(r:RKs i.K H kvs' dg):f9 H (upd H a<|.dK dg)/\RH i (O.upd G a<|.dct kvs') (upd H a<|.dK dg):=by
 have k:f9 H<|upd H a<|.dK dg:=f9.put (λxs e=>by rw[h]at e;cases e) λp u e=>by rw[h]at e;cases e
 exact⟨k,g.put k ⟨dg,fB,r.keep k⟩⟩
def RTs.length{K:Frag}:∀{kvs:List (O.Val×O.Val)}{ps:List (List Key×V)},RTs K H kvs ps->kvs.length=ps.length
 |_,_,.nil=>rfl
 |_,_,.cons _ t=>by rw[Î,Î,RTs.length t]
def MX(a b i j:Int):(O.Val.key a b == .key i j)=ik (([.inl a,.inl b]:List Key)=[.inl i,.inl j]):=by
 by_cases e:a=i/\b=j
 .obtain⟨rfl,rfl⟩:=e;rw[ig rfl];simp
 .rw[ie λz=>e<|by simpa using z];exact beq_eq_false_iff_ne.mpr λz=>e ⇑z
def RTs.look{K:Frag}{i j:Int}:∀{kvs:List (O.Val×O.Val)}{ps:List (List Key×V)},RTs K H kvs ps->
  (∀v,O.gf kvs (.key i j)=fw v->∃x,Yt ps [.inl i,.inl j]=fw x/\RV K H v x)/\(O.gf kvs (.key i j)=fx->Yt ps [.inl i,.inl j]=fx)
 |_,_,.nil=>⟨λv e=>(by cases e),λ_=>rfl⟩
 |_,_,.cons (i:=a) (j:=b) (v:=u) (x:=y) (kvs:=kvs) (ps:=ps) r t=>by
  have ih:=RTs.look (i:=i) (j:=j) t;have q:=MX a b i j;by_cases e:([.inl a,.inl b]:List Key)=[.inl i,.inl j]
  .rw[ig e]at q;have e1:O.gf ((.key a b,u)::kvs) (.key i j)=fw u:=by simp[O.gf,č,q]
   rw[e1,Xa e];exact⟨λv z=>(by cases z;exact⟨y,rfl,r⟩),λz=>(by cases z)⟩
  .rw[ie e]at q;have e1:O.gf ((.key a b,u)::kvs) (.key i j)=O.gf kvs (.key i j):=by simp[O.gf,č,q]
   rw[e1,Y5 e];exact ih
def RTs.has{K:Frag}{i j:Int}:∀{kvs:List (O.Val×O.Val)}{ps:List (List Key×V)},RTs K H kvs ps->O.gg kvs (.key i j)=ps.any λkv=>ik (kv.1=[.inl i,.inl j])
 |_,_,.nil=>rfl
 |_,_,.cons (i:=a) (j:=b) r t=>by have ih:=RTs.has (i:=i) (j:=j) t;unfold O.gg at ih ⊢;rw[Ġ,Ġ,ih,MX a b i j]
def RTs.app{K:Frag}{v:O.Val}{i j:Int}(q:RV K H v x):∀{kvs:List (O.Val×O.Val)}{ps:List (List Key×V)},RTs K H kvs ps->RTs K H (kvs++[(.key i j,v)]) (ps++[([.inl i,.inl j],x)])
 |_,_,.nil=>.cons q .nil
 |_,_,.cons r t=>.cons r<|RTs.app q t
def RTs.repl{K:Frag}{v:O.Val}{i j:Int}(q:RV K H v x):∀{kvs:List (O.Val×O.Val)}{ps:List (List Key×V)},RTs K H kvs ps->
  RTs K H (kvs.map λp=>if p.1 == .key i j then(.key i j,v)else p) (ps.map λkv=>if kv.1=[.inl i,.inl j]then(kv.1,x)else kv)
 |_,_,.nil=>.nil
 |_,_,.cons (i:=a) (j:=b) (v:=u) (x:=y) r t=>by
  have ih:=RTs.repl (i:=i) (j:=j) q t;have z:=MX a b i j;rw[Í,Í];by_cases e:([.inl a,.inl b]:List Key)=[.inl i,.inl j]
  .rw[ig e]at z;simp![z,if_true,e];exact .cons q ih
  .rw[ie e]at z;simp![z,e,if_false,ī];exact .cons r ih
def RTs.put{K:Frag}{v:O.Val}{i j:Int}(q:RV K H v x)(r:RTs K H kvs ps):RTs K H (O.gh kvs (.key i j) v)<|L2.gh ps [.inl i,.inl j] x:=by
 unfold O.gh L2.gh;rw[r.has];by_cases e:(ps.any λkv=>ik (kv.1=[.inl i,.inl j]))=fy
 .rw[hX e,hX e];exact r.repl q
 .rw[hZ e,hZ e];exact r.app q
def Gc(g:RH i G H)(h:H a=fw (.dT ps))(r:RTs i.K H kvs' dg):f9 H (upd H a<|.dT dg)/\RH i (O.upd G a<|.dtp kvs') (upd H a<|.dT dg):=by
 have k:f9 H<|upd H a<|.dT dg:=f9.put (λxs e=>by rw[h]at e;cases e) λp u e=>by rw[h]at e;cases e
 exact⟨k,g.put k ⟨dg,fB,r.keep k⟩⟩
def Wt{K:Frag}(h:O.isKeyT k=fy)(r:RV K H k x):∃a b c,k=.key a b/\x=.ref c/\H c=fw (.tup<|([.inl a,.inl b]:List Key).map kV):=by
 cases k with
 |key a b=>cases r with|key e=>exact⟨a,b,_,rfl,rfl,e⟩
 |_=>cases h
abbrev C3:R2:=λx y H Q=>∃a v,x=.ref a/\DGet H a y (fw v)/\Q v H
def Hg(hu:X.A.units+1<Ğ):IxR X C3:=by
 intro Β slice Â s σ H x y v u Q I rx ry h hs;let⟨a,z,rfl,g,q⟩:=h;cases rx;have hT:=NP I g;unfold aw;refine À ?_;rw[getitemInPython_of_ne hT.not_modules];refine À<|wpAny_specialOf hT PySem.F.slot_dict_getitem.lookup ?_;have fin:wpAny ↥2 X.A (subscripted slice fz (.ref a) u) (λr aN=>wpAny ↥2 X.A (letTemporaryGo Β (.ref a) r >>= λ_=>pure r) (EP X Â σ Q) X.xe aN) X.xe s:=by rw[hs];exact wpAny_operating<|K7 hu I g ry λw' s' I' aK=>À<|wpAny_letTemporaryGo<|È ⟨_,_,I',aK,q⟩
 first
  |exact È<|À fin
  |exact À<|È<|À fin
  |exact À fin
abbrev FS(b:Bool):R2:=λx y H Q=>∃a o,y=.ref a/\DGet H a x o/\Q (.bl<|b ^^ o.isSome) H
def P7(hu:X.A.units+1<Ğ):OpR X (ð .In)<|FS fz:=by k_ne;let⟨a,o,rfl,g,q⟩:=h;cases ry;rw[bo]at q;exact Te hu I g rx λs' I'=>⟨.bl o.isSome,_,I',rfl,q⟩
def LK(hu:X.A.units+1<Ğ):OpR X (ð .NotIn)<|FS fy:=by k_ne;let⟨a,o,rfl,g,q⟩:=h;cases ry;rw[bQ]at q;exact Fu hu I g rx λs' I'=>⟨.bl (!o.isSome),_,I',rfl,q⟩
abbrev IV:V->V->V->Hp->(Hp->Prop)->Prop:=λo y v H Q=>∃a H',o=.ref a/\DPut H a y v H'/\Q H'
def Ot(hu:X.A.units+1<Ğ):PSet X IV:=by intro Â s σ H o y v ov iv u Q I ro ri rv h;let⟨a,H',rfl,g,q⟩:=h;cases ro;exact BK hu I g ri rv λs' I'=>⟨H',I',q⟩
def PSet.or{r r':V->V->V->Hp->(Hp->Prop)->Prop}(h:PSet X r)(h':PSet X r'):PSet X λo y v H Q=>r o y v H Q\/r' o y v H Q:=by
 intro Â s σ H o y v ov iv u Q I ro ri rv q;rcases q with q|q
 .exact h Â s σ H o y v ov iv u Q I ro ri rv q
 .exact h' Â s σ H o y v ov iv u Q I ro ri rv q
end Snd
namespace Snd
open PySem L2
def MG(n:Nat)(k:Int):O.ixN n k=L2.ixN n k:=rfl
def WY{K:Frag}(r:RVs K H xs vs)(e:O.atI xs k=fw v):∃x,L2.atI vs k=fw x/\RV K H v x:=by
 unfold O.atI at e;unfold L2.atI;rw[MG,r.length]at e;cases z:L2.ixN vs.length k with
 |none=>rw[z]at e;cases e
 |some j =>rw[z]at e;let⟨x,h1,h2⟩:=r.get (show xs[j]?=fw v from e);exact⟨x,h1,h2⟩
abbrev Sm(i:Inf)(r:R2):Prop:=∀(v u:O.Val) (G:O.Hs) (H:Hp) (x y:V) (w:O.Val) (Q:VK),RH i G H->RV i.K H v x->RV i.K H u y->O.gB G v u=fw w->(∀z,RV i.K H w z->Q z H)->r x y H Q
variable {a:Expr}{ma:O.E}{í:Pos}
def Sr(hr:IxR X r)(ho:Sm i r)(ha:PE X a<|tE X i Φ ma)(hb:PE X b<|tE X i Φ mb)(hs:Ms b):PE X (.Subscript a b í) (tE X i Φ<|.idx ma mb) :=
 (RJ hr ha hb hs).imp λσ H Q ⟨env,G,Qm,Em,p,w,c⟩=>by
  exact two p w λv u G2 H2 x y k2 p2 rx ry q=>by let⟨z,e,q⟩:=fG q;exact ho v u G2 H2 x y z Q p2.hp rx ry e λt rt=>c z G2 H2 t k2 p2.hp rt q
def FW(e:O.atI s.toList k=fw c):L2.atI (im s).cps.toList k=fw c.toNat:=by
 rw[Str.ofString_eq_toList];show L2.atI (List.map ť s.toList).toArray.toList k=_;unfold O.atI at e;unfold L2.atI;simp![Á];rw[MG]at e;cases z:L2.ixN s.toList.length k with
 |none=>rw[z]at e;cases e
 |some j =>rw[z]at e;have e:s.toList[j]?=fw c:=e;show(List.map ť s.toList)[j]?=_;rw[Ú,e];rfl
def O3(c:Char):im (ak c)=⟨#[c.toNat]⟩:=by rw[Str.ofString_eq_toList];simp
abbrev SM(K:Frag):R2:=λx y H Q=>rIx K x y H Q\/C3 x y H Q
def QW:Sm i<|SM i.K:=by
 intro v u G H x y w Q g rx ry e q;cases v with
 |tup xs =>
  cases u with
  |int k =>
   cases rx with
   |tup hp hr =>let⟨z,h1,h2⟩:=WY hr (show O.atI xs k=fw w from e);exact .inl<|.inr<|.inl ⟨_,_,k,z,rfl,ry.int_inv,Zl hp,h1,q z h2⟩
  |_=>cases e
 |str s =>
  cases u with
  |int k =>
   simp![O.gB]at e;split at e
   .rename_i hl;cases z:O.atI s.toList k with
    |none=>rw[z]at e;cases e
    |some c =>rw[z]at e;cases e;refine .inl (.inr<|.inr ⟨_,k,_,rx.str_inv,ry.int_inv,by rw[ZH];exact Û hl Ym,FW z,?_⟩);have:=q _<|.str<|ak c;rw[O3]at this;exact this
   .cases e
  |_=>cases e
 |ref a =>
  cases rx.ref_inv
  replace e:(match G a with|some (.lst xs)=>(O.gY u).bind (O.atI xs)|some (.dct kvs)=>if O.fX u then O.gf kvs u else fx|some (.frz kvs)=>if O.fX u then O.gf kvs u else fx|some (.dtp kvs)=>if O.isKeyT u then O.gf kvs u else fx|_=>fx)=fw w:=e
  cases z:G a with
  |none=>rw[z]at e;cases e
  |some o =>
   rw[z]at e;cases o with
   |lst xs =>let⟨k,hk,e⟩:=ò.mp e;cases Zy hk;let⟨vs,h1,h2⟩:=g a _ z;let⟨t,h3,h4⟩:=WY h2 e;exact .inl<|.inl ⟨a,vs,k,t,rfl,ry.int_inv,gT.of h1,h3,q t h4⟩
   |dct kvs =>let⟨hk,e⟩:=Zm (show(if O.fX u then O.gf kvs u else fx)=fw w from e);let⟨ps,h1,h2⟩:=g a _ z;let⟨d,kr,rfl⟩:=fS hk ry;let⟨t,hx,rv⟩:=(h2.look kr).1 w e;exact .inr ⟨a,t,rfl,by rw[<-hx];exact DGet.k h1,q t rv⟩
   |frz kvs =>let⟨hk,e⟩:=Zm (show(if O.fX u then O.gf kvs u else fx)=fw w from e);let⟨ob,ps,h1,h2⟩:=g a _ z;let⟨d,kr,rfl⟩:=fS hk ry;let⟨t,hx,rv⟩:=(h2.look kr).1 w e;exact .inr ⟨a,t,rfl,.inl ⟨ps,d,.inr ⟨ob,h1⟩,rfl,hx.symm⟩,q t rv⟩
   |dtp kvs =>let⟨hk,e⟩:=Zm (show(if O.isKeyT u then O.gf kvs u else fx)=fw w from e);let⟨ps,h1,h2⟩:=g a _ z;let⟨k1,k2,b,rfl,rfl,hb⟩:=Wt hk ry;let⟨t,hx,rv⟩:=(h2.look).1 w e;exact .inr ⟨a,t,rfl,by rw[<-hx];exact DGet.t h1 hb,q t rv⟩
   |_=>cases e
 |scr ns =>
  cases u with
  |int k =>
   cases rx with
   |scr h =>let⟨t,h3,h4⟩:=WY (RVs.ints ns) (show O.atI (ns.map .int) k=fw w from e);exact .inl<|.inl ⟨_,_,k,t,rfl,ry.int_inv,Ye h,h3,q t h4⟩
  |_=>cases e
 |_=>cases e
abbrev tOx(X:Cx)(i:Inf)(Φ:O.Fs)(m:O.Oe):TO:=λσ H Q=>∃env G Qm Em,Pre X i σ H env G Em/\O.wO Φ m env G Qm Em/\∀k G' H',f9 H H'->RH i G' H'->Qm k G'->Q k H'
def _root_.L2.PO.imp(h:PO X e t)(f:∀σ H Q,t' σ H Q->t σ H Q):PO X e t':=λÂ s σ H Q I q=>h Â s σ H Q I (f σ H Q q)
def F5:PO X fx<|tOx X i Φ .none:=po_none.imp λσ H Q ⟨env,G,Qm,Em,p,w,c⟩=>by exact c fx G H (f9.refl H) p.hp w
def HK(he:PE X e<|tE X i Φ m):PO X (fw e)<|tOx X i Φ<|.some m:=(GI he).imp λσ H Q ⟨env,G,Qm,Em,p,w,c⟩=>by
 exact one p w λv G1 H1 x k1 p1 r q=>by let⟨b,e,q2⟩:=fG q;cases Zy e;exact⟨b,r.int_inv,c _ G1 H1 k1 p1.hp q2⟩
def Uq{K:Frag}(r:RVs K H xs vs)(lo hi:Option Int):RVs K H (O.cut xs lo hi)<|Mr vs lo hi:=by
 have e:∀(n d:Nat) (o:Option Int),O.gx n d o=HT.sIx n d o:=by
  intro n d o;cases o with
  |none=>rfl
  |some k =>
   show(if 0<=k then min k.toNat n else(k+n).toNat)=(if k<0 then(k+(n:Int)).toNat else min k.toNat n)
   by_cases h:k<0
   .rw[hX h,hZ<|by lia]
   .rw[hZ h,hX<|by lia]
 unfold O.cut Mr;rw[e,e,r.length];exact(r.drop _).take _
abbrev Rp(i:Inf)(r:V->Option Int->Option Int->Hp->VK->Prop):Prop:=∀(v:O.Val) (lo hi:Option Int) (G:O.Hs) (H:Hp) (x:V) (Q:VK) (Qm:O.Q1),RH i G H->RV i.K H v x->(O.gC G v lo hi).wp G Qm->Cn i H Q Qm->r x lo hi H Q
def QB{lo:Option Expr}(hr:SlR X r)(ho:Rp i r)(ha:PE X a<|tE X i Φ ma)(hl:PO X lo<|tOx X i Φ ml)(hh:PO X hi<|tOx X i Φ mh):PE X (.Subscript a (.Slice lo hi fx p2) í) (tE X i Φ<|.slc ma ml mh) :=
 (DC hr ha hl hh).imp λσ H Q ⟨env,G,Qm,Em,p,w,c⟩=>by
  exact⟨env,G,_,Em,p,w,λv G1 H1 x k1 g1 r1 w1=>⟨env,G1,_,Em,p.go k1 g1,w1,λl G2 H2 k2 g2 w2=>⟨env,G2,_,Em,(p.go k1 g1).go k2 g2,w2,λu G3 H3 k3 g3 w3 =>
    ho v l u G3 H3 x Q Qm g3 ((r1.keep k2).keep k3) w3 (((c.go k1).go k2).go k3)⟩⟩⟩
abbrev Q6(K:Frag):V->Option Int->Option Int->Hp->VK->Prop:=λx lo hi H Q=>QX K x lo hi H Q\/Se K x lo hi H Q\/Sh x lo hi H Q\/Q3 K x lo hi H Q
def SG:SlR X<|Q6 X.K:=sl_list.or (gJ.or<|sl_str.or Fb)
def Wo(n d:Nat)(o:Option Int):O.gx n d o=HT.sIx n d o:=by
 cases o with
 |none=>rfl
 |some k =>
  show(if 0<=k then min k.toNat n else(k+n).toNat)=(if k<0 then(k+(n:Int)).toNat else min k.toNat n)
  by_cases h:k<0
  .rw[hX h,hZ<|by lia]
  .rw[hZ h,hX<|by lia]
def N1(n d:Nat)(h:d<=n)(o:Option Int):O.gx n d o<=n:=by
 cases o with
 |none=>exact h
 |some k =>show(if 0<=k then min k.toNat n else(k+n).toNat)<=n;split<;>lia
def clip_eq(n d:Nat)(h:d<=n)(o:Option Int):(match o with
    |none=>(d:Int)
    | some i=>max 0<|min (if i<0 then i+(n:Int)else i) (n:Int))=(O.gx n d o:Int):=by
 cases o with
 |none=>rfl
 |some k =>
  show _=(((if 0<=k then min k.toNat n else(k+n).toNat):Nat):Int)
  by_cases hk:k<0
  .rw[hZ<|show ¬ 0<=k by lia];simp![hk,if_true];lia
  .rw[hX<|show 0<=k by lia];simp![hk,if_false];lia
def Lg(n:Nat)(lo hi:Option Int):PySem.Builtin.Str.strSliceIndices lo hi 1 n=(List.range<|O.gx n n hi - O.gx n 0 lo).map λk=>O.gx n 0 lo+k:=by
 have e1:=clip_eq n 0 (Ę _) lo;have e2:=clip_eq n n (Ì _) hi;have e3:PySem.Builtin.Str.strSliceIndices lo hi 1 n=Ϩ (O.gx n 0 lo:Int) (O.gx n n hi:Int) 1:=by unfold PySem.Builtin.Str.strSliceIndices;rw[<-e1,<-e2];cases lo<;>cases hi<;>rfl
 rw[e3];unfold Ϩ;have e4:(if(1:Int) > 0 then(if(O.gx n 0 lo:Int)<(O.gx n n hi:Int)then((O.gx n n hi:Int) - (O.gx n 0 lo:Int)+1 - 1) / 1 else 0)else(if(O.gx n 0 lo:Int) > (O.gx n n hi:Int)then((O.gx n 0 lo:Int) - (O.gx n n hi:Int) - 1 - 1) / (-1)else 0)).toNat=O.gx n n hi - O.gx n 0 lo:=by rw[hX ↥1,Int.ediv_one];split<;>lia
 show(List.range<|Int.toNat<|if(1:Int) > 0 then _ else _).map _=_;rw[e4];refine Ħ λk _=>?_;lia
def H9(s:String)(lo hi:Option Int):BJ (im s) lo hi=im (Ξ<|O.cut s.toList lo hi):=by
 have hl:(im s).length=s.toList.length:=by rw[ZH,cg]
 have ha:=N1 s.toList.length 0 (Ę _) lo;have hb:=N1 s.toList.length s.toList.length (Ì _) hi;have e:=Lg s.toList.length lo hi;rw[<-hl]at e;unfold BJ;rw[e];simp![hl];have ec:(im s).cps.toList=s.toList.map ť:=by rw[Str.ofString_eq_toList]
 split
 .rename_i z;rw[Á,ı]at z;have e0:O.gx s.toList.length 0 lo=0\/s.toList.length=0:=by lia
  have e5:O.cut s.toList lo hi=s.toList:=by
   unfold O.cut;rw[z];rcases e0 with e0|e0
   .rw[e0,List.drop_zero,ü]
   .have:s.toList=[]:=Ŵ.mp e0;rw[this];simp
  rw[e5,String.ofList_toList]
 .rw[Str.ofString_eq_toList<|Ξ _,cj];congr 2;have e3:(λi:Nat=>(im s).cps[i]?)=λi:Nat=>(s.toList.map ť)[i]?:=by
   funext i;rw[<-ec];simp
  rw[e3];by_cases hab:O.gx s.toList.length 0 lo<=O.gx s.toList.length s.toList.length hi
  .rw[PySem.StrLaws.picks _ _ _<|by rw[Á];lia];unfold O.cut;rw[List.map_take,List.map_drop]
  .have:O.gx s.toList.length s.toList.length hi - O.gx s.toList.length 0 lo=0:=by lia
   unfold O.cut;rw[this];simp
def Ri:Rp i<|Q6 i.K:=by
 intro v lo hi G H x Q Qm g r w c;cases v with
 |tup xs =>
  simp![O.gC]at w;split at w
  .rename_i hn;rw[O.Rs.wp_val]at w;cases r with
   |@tup _ a vs hp hr=>exact .inr (.inr<|.inr ⟨a,vs,rfl,Zl hp,by rw[<-Wo,<-Wo,<-hr.length];exact hn,c _ G H _ (f9.refl H) g (.tup hp hr) w⟩)
  .rename_i hn;rw[O.Rs.wp_val]at w;cases r with
   |@tup _ a vs hp hr =>refine .inr (.inl ⟨a,vs,rfl,Zl hp,by rw[<-Wo,<-Wo,<-hr.length];exact hn,λp hp'=>?_⟩);have k:=f9.new (o:=.tup<|Mr vs lo hi) hp';refine c _ G _ _ k (g.hid k λb o e=>fA ?_) (.tup (.inl fB)<|Uq (hr.keep k) lo hi) w;rintro rfl;rw[g.free hp']at e;cases e
 |ref a =>
  cases r.ref_inv;simp![O.gC]at w;cases z:O.fQ (G a)with
  |none=>rw[z]at w;simp at w
  |some xs =>rw[z]at w;rw[O.Rs.wp_new]at w;let⟨vs,h1,h2⟩:=ZE g z;exact .inl ⟨a,vs,rfl,h1,Yg g w c λp hp=>⟨_,fB,Uq (h2.keep<|f9.new hp) lo hi⟩⟩
 |scr ns =>
  simp![O.gC,O.Rs.wp_new]at w;cases r with
  |scr h=>exact .inl ⟨_,_,rfl,Ye h,Yg g w c λp hp=>⟨_,fB,Uq (RVs.ints ns) lo hi⟩⟩
 |str s =>
  cases r.str_inv;simp![O.gC]at w;split at w
  .rename_i hl;rw[O.Rs.wp_val]at w;refine .inr (.inr <| .inl ⟨_,rfl,by rw[ZH];exact Û hl ↥1,?_⟩);rw[H9];exact c _ G H _ (f9.refl H) g (.str _) w
  .simp at w
 |_=>simp[O.gC]at w
variable {vs:List O.Val}{x:V}
def RVs.app1{K:Frag}(r:RVs K H vs xs)(q:RV K H v x):RVs K H (vs++[v])<|xs++[x]:=r.append (.cons q .nil)
variable {ms:O.Es}{n:Nat}{í:Pos}
def RT(hn:n<=1000)(h:PA X es<|tAr X i Φ ms n):PE X (.Tuple es k í) (tE X i Φ<|.tup ms) :=
 (Qi h).imp λσ H Q ⟨env,G,Qm,Em,p,w,c⟩=>by refine⟨env,G,_,Em,p,w,λvs G1 H1 xs k1 g1 r1 hl w1=>⟨by rw[hl];exact Û hn ↥1,λa ha=>?_⟩⟩;have k:=f9.new (o:=.tup xs) ha;refine c _ G1 _ _ (k1.trans k) (g1.hid k λb o e=>fA ?_) (.tup (.inl fB)<|r1.keep k) w1;rintro rfl;rw[g1.free ha]at e;cases e
def RX(hn:n<=1000)(h:PA X es<|tAr X i Φ ms n):PE X (.List es í) (tE X i Φ<|.lst ms) :=
 (Lh h).imp λσ H Q ⟨env,G,Qm,Em,p,w,c⟩=>by refine⟨env,G,_,Em,p,w,λvs G1 H1 xs k1 g1 r1 hl w1=>⟨by rw[hl];exact Û hn ↥1,Yg g1 w1 (c.go k1) λa ha=>?_⟩⟩;exact⟨xs,fB,r1.keep<|f9.new ha⟩
abbrev MD(i:Inf)(f:O.Bi)(r:List V->Hp->VK->Prop):Prop:=∀(vs:List O.Val) (G:O.Hs) (H:Hp) (xs:List V) (Q:VK) (Qm:O.Q1),RH i G H->RVs i.K H vs xs->(O.biV G f vs).wp G Qm->Cn i H Q Qm->r xs H Q
def WQ(hr:MD i f r):∀σ H Q,tE X i Φ (.bi f ms) σ H Q->tCB r (tAr X i Φ ms n) σ H Q:=λσ H Q ⟨env,G,Qm,Em,p,w,c⟩=>by exact⟨env,G,_,Em,p,w,λvs G1 H1 xs k1 g1 r1 _ w1=>hr vs G1 H1 xs Q Qm g1 r1 w1<|c.go k1⟩
def RVs.inv1{K:Frag}(r:RVs K H [v] xs):∃x,xs=[x]/\RV K H v x:=by cases r with|cons a t=>cases t;exact⟨_,rfl,a⟩
def RVs.inv2{K:Frag}(r:RVs K H [v,u] xs):∃x y,xs=[x,y]/\RV K H v x/\RV K H u y:=by cases r with|cons a t=>cases t with|cons b t=>cases t;exact⟨_,_,rfl,a,b⟩
def Mq(s:String):(im s).cps.toList=s.toList.map ť:=by rw[Str.ofString_eq_toList]
def Aj:∀(l:List Char) (a:Nat),(l.map ť).foldl (λĶ c=>Ķ*10+(c - 48)) a=l.foldl (λa c=>10*a+(c.toNat - 48)) a
 |[],_=>rfl
 |c::l,a=>by rw[Í,Ń,Ń,Aj l,cH a 10]
def HX(h1:s.toList≠[])(h2:s.toList.all O.figB=fy)(h3:s.length<=640):PySem.intText? (im s)=fw ((O.decN s.toList:Nat):Int):=by
 have hc:=Mq s;rw[intText_digits (x:=im s)]
 .rw[hc];unfold NumText.digitsVal O.decN;rw[Aj]
 .rw[hc];intro c hm;let⟨d,hd,rfl⟩:=Ñ.mp hm;have:=ą.mp h2 d hd;unfold O.figB at this;simpa using this
 .rw[hc];simpa using h1
 .rw[ZH];lia
variable {h:O.Hs}
def WC(w:(O.fR f vs).wp h Q):∃v,vs=[v]/\(f v).wp h Q:=by
 cases vs with
 |nil=>exact(Zi w).elim
 |cons v vs=>cases vs with
  |nil=>exact⟨v,rfl,w⟩
  |cons _ _=>exact(Zi w).elim
def Dz(w:(O.biOf2 f vs).wp h Q):∃v u,vs=[v,u]/\(f v u).wp h Q:=by
 cases vs with
 |nil=>exact(Zi w).elim
 |cons v vs=>cases vs with
  |nil=>exact(Zi w).elim
  |cons u us=>cases us with
   |nil=>exact⟨v,u,rfl,w⟩
   |cons _ _=>exact(Zi w).elim
def Ld:MD i .int λxs H Q=>((∃i,xs=[.int i]/\Q (.int i) H)\/∃k,xs=[.bl k]/\Q (.int<|if k then 1 else 0) H)\/∃z n,xs=[.str z]/\PySem.intText? z=fw n/\z.length<=640/\Q (.int n) H:=by
 intro vs G H xs Q Qm g r w c;let⟨v,rfl,w⟩:=WC w;let⟨x,rfl,rx⟩:=r.inv1;cases v with
 |int k=>cases rx.int_inv;exact .inl<|.inl ⟨k,rfl,c _ G H _ (f9.refl H) g (.int _)<|Zn w⟩
 |bl k=>cases rx.bl_inv;exact .inl<|.inr ⟨k,rfl,c _ G H _ (f9.refl H) g (.int _)<|Zn w⟩
 |str s =>cases rx.str_inv;let⟨hl,w⟩:=Wg w;exact .inr ⟨_,_,rfl,HX hl.2.1 hl.2.2 hl.1,by rw[ZH];exact hl.1,c _ G H _ (f9.refl H) g (.int _)<|Zn w⟩
 |_=>exact(Zi w).elim
def Hl:MD i .max2 λxs H Q=>∃i j,xs=[.int i,.int j]/\Q (.int<|if j > i then j else i) H:=by intro vs G H xs Q Qm g r w c;let⟨v,u,rfl,w⟩:=Dz w;let⟨a,b,rfl,rfl,w⟩:=Xv w;let⟨x,y,rfl,rx,ry⟩:=r.inv2;cases rx.int_inv;cases ry.int_inv;exact⟨a,b,rfl,c _ G H _ (f9.refl H) g (.int _)<|Zn w⟩
def HN:MD i .min2 λxs H Q=>∃i j,xs=[.int i,.int j]/\Q (.int<|if j<i then j else i) H:=by intro vs G H xs Q Qm g r w c;let⟨v,u,rfl,w⟩:=Dz w;let⟨a,b,rfl,rfl,w⟩:=Xv w;let⟨x,y,rfl,rx,ry⟩:=r.inv2;cases rx.int_inv;cases ry.int_inv;exact⟨a,b,rfl,c _ G H _ (f9.refl H) g (.int _)<|Zn w⟩
abbrev RZ(o:Option O.Ob)(f:List O.Val->O.Rs):O.Rs:=match o with
 |some (.lst xs)=>f xs
 |_=>.no
def NJ(w:(RZ o f).wp h Q):∃xs,o=fw (.lst xs)/\(f xs).wp h Q:=by
 cases o with
 |none=>exact(Zi w).elim
 |some o=>cases o with
  |lst xs=>exact⟨xs,rfl,w⟩
  |_=>exact(Zi w).elim
def GW{Q:VK}{Qm:O.Q1}{ys:List O.Val}{us:List V}(g:RH i G H)(r:RVs i.K H ys us)(w:Qm (.tup ys) G)(c:Cn i H Q Qm):∀l,H l=fx->Q (.ref l) (upd H l<|.tup us):=λl hl=>by have k:=f9.new (o:=.tup us) hl;refine c _ G _ _ k (g.hid k λb o e=>fA ?_) (.tup (.inl fB)<|r.keep k) w;rintro rfl;rw[g.free hl]at e;cases e
def Cu:MD i .tuple λxs H Q=>∃p ys,xs=[.ref p]/\((gT i.K H p ys/\∀l,H l=fx->Q (.ref l) (upd H l<|.tup ys))\/(gU i.K H p ys/\Q (.ref p) H)):=by
 intro vs G H xs Q Qm g r w c;let⟨v,rfl,w⟩:=WC w;let⟨x,rfl,rx⟩:=r.inv1;cases v with
 |ref a =>cases rx.ref_inv;let⟨ys,e,w⟩:=NJ (f:=λxs=>.val<|.tup xs) w;let⟨us,h1,h2⟩:=g a _ e;exact⟨a,us,rfl,.inl ⟨gT.of h1,GW g h2 (Zn w) c⟩⟩
 |tup ys =>
  cases rx with
  |tup hp hr=>exact⟨_,_,rfl,.inr ⟨Zl hp,c _ G H _ (f9.refl H) g (.tup hp hr)<|Zn w⟩⟩
 |_=>exact(Zi w).elim
abbrev kinds:List String:=["int","bool","str","list","tuple","dict"]
def FC(K:Frag):∀t∈["NoneType","bool","int","str","tuple","list","dict"],∀T∈kinds,PySem.W.kitOne K (.type t) (.type T)=fw (t==T||(t == "bool" && T == "int")):=by intro t ht T hT;simp only[kinds,Ç,Ö,or_false]at ht hT;rcases ht with rfl|rfl|rfl|rfl|rfl|rfl|rfl<;>rcases hT with rfl|rfl|rfl|rfl|rfl|rfl<;>rfl
def kn(j:Nat)(h:["NoneType","bool","int","str","tuple","list","dict"][j]?=fw t:=by rfl):t∈["NoneType","bool","int","str","tuple","list","dict"]:=ä h
def AU(g:RH i G H)(r:RV i.K H v x)(e:O.hU G v=fw t):TyV i.K H x (.type t)/\t∈["NoneType","bool","int","str","tuple","list","dict"]:=by
 cases v with
 |non=>cases r;cases e;exact⟨.of .non,kn 0⟩
 |bl b=>cases r;cases e;exact⟨.of<|.bl b,kn 1⟩
 |int b=>cases r;cases e;exact⟨.of<|.int b,kn 2⟩
 |str b=>cases r;cases e;exact⟨.of<|.str _,kn 3⟩
 |tup xs=>cases e;cases r with|tup hp hr=>exact⟨.tup<|Zl hp,kn 4⟩
 |scr ns=>cases e;cases r with|scr h=>exact⟨.lst<|Ye h,kn 5⟩
 |ref a =>
  cases r.ref_inv;simp![O.hU]at e;cases q:G a with
  |none=>rw[q]at e;cases e
  |some o =>
   rw[q]at e;cases o with
   |lst xs=>cases e;let⟨vs,h1,_⟩:=g a _ q;exact⟨.lst<|gT.of h1,kn 5⟩
   |dct kvs=>cases e;let⟨ps,h1,_⟩:=g a _ q;exact⟨.of<|.dK h1,kn 6⟩
   |ins C fs=>cases e
   |exc C=>cases e
   |frz _=>cases e
   |dtp _=>cases e
 |key _ _=>cases e
def QD(hT:T∈kinds)(he:PE X e<|tE X i Φ m)(hk:X.K=i.K)(hg:Gl X "isinstance")(hm:X.mg "isinstance" = fx)(hg2:Gl X<|im T)(hm2:X.mg (im T)=fx)(hv2:š (im T)=fw (.type T))(hn2:im T≠"__name__")(bV:(im T==("__debug__" : Str))=fz)(Ź:Ý [e,.Name (im T) p2] X.env=(fz,eval e X.env)::Ý [.Name (im T) p2] X.env) :
  PE X (.Call (.Name "isinstance" p) [e,.Name (im T) p2] [] í) (tE X i Φ<|.bi (.isi [T])<|.cons m .nil):=by
 refine(Z7 Dm hg hm (by kernel_rfl) (ZK he (ZK (Rq (T:=T) hg2 hm2 hv2 hn2 bV) gQ) Ź) (he:=Ź)).imp λσ H Q ⟨env,G,Qm,Em,p,w,c⟩=>?_;refine one p w λv G1 H1 x k1 p1 r q=>?_
 replace q:(O.Rs.ofO (((O.hV G1 v T).bind λb=>(O.isiAny G1 v []).map (b || ·)).map .bl)).wp G1 Qm:=q
 simp![O.isiAny,O.hV]at q;cases z:O.hU G1 v with
 |none=>rw[z]at q;simp[O.Rs.ofO]at q
 |some t =>rw[z]at q;simp![ř,ö,O.Rs.ofO,O.Rs.wp_val,ϱ]at q;let⟨h1,h2⟩:=AU p1.hp r z;refine⟨x,T,.type t,_,rfl,by rw[hk];exact h1,by rw[hk];exact FC _ t h2 T hT,c _ G1 H1 _ k1 p1.hp (.bl _) q⟩
def Ut(h:O.isLst o=fy):∃xs,o=fw (.lst xs):=by
 cases o with
 |none=>cases h
 |some o=>cases o with
  |lst xs=>exact⟨xs,rfl⟩
  |_=>cases h
variable {a:Ð}
def Ej(e:O.bmL G (.ref a) f=fw t):∃xs,G a=fw (.lst xs)/\f a xs=fw t:=by let⟨xs,h1,h2⟩:=ò.mp (show(O.fQ<|G a).bind (f a)=fw t from e);exact⟨xs,AD h1,h2⟩
def Nn{xs:List O.Val}{vs:List V}(g:RH i G H)(h:H a=fw (.lst vs))(ys:List O.Val)(us:List V)(r:RVs i.K H ys us):f9 H (upd H a<|.lst us)/\RH i (O.upd G a<|.lst ys) (upd H a<|.lst us):=by
 have k:f9 H<|upd H a<|.lst us:=f9.put (λxs e=>by rw[h]at e;cases e) λp u e=>by rw[h]at e;cases e
 exact⟨k,g.put k ⟨us,fB,r.keep k⟩⟩
abbrev spF(i:Inf)(P:O.Pg)(n:Nat)(f:String):Sp:=λvs H Q E=>∃args G Qm Em,RVs i.K H args vs/\RH i G H/\O.wF P n f args G Qm Em/\Cn i H Q Qm/\∀cls d H',XK1 i H Em cls d H'->E cls d H'
abbrev Dfo(pr:è)(w:ÿ)(mg:Str->Option Ã)(base:Č)(i:Inf)(P:O.Pg)(n:Nat)(f:String):Prop :=
 ∃fa fd ps,gp pr w i.K mg base (CX1 pr w) (2*n) fa fd ps (spF i P n f)/\mg (im f)=fw (.ref fa)/\PySem.W.keepIn i.K (.ref fa)=fy/\Binds i.K fd ps []
variable {e:Expr}{í:Pos}
def Py(hK:X.K=i.K)(D:Dfo X.prog X.w X.mg X.base i P n f)(hr:gm (2*n) X.A)(hg:Gl X<|im f)(cY:(im f==("__debug__" : Str))=fz)(ha:PA X (e::es)<|tAr X i (O.wF P n) ms k)(he:Ý (e::es) X.env=(fz,eval e X.env)::Ý es X.env)(hpl:(Ĥ í<|Ý es X.env).any (·.1)=fz) :
  PE X (.Call (.Name (im f) p) (e::es) [] í) (tE X i (O.wF P n)<|.call f ms):=by
 let⟨fa,fd,ps,F,hm,hk,hb⟩:=D;rw[<-hK]at F hk hb;k_sub;let⟨env,G,Qm,Em,pr,w,c⟩:=h;refine HZ (E:=XK1 i H Em) F hr hg hm hk hb .nil (XW.passes pr.xo) ha cY he hpl Â s σ H Q I ⟨env,G,_,Em,pr,w,λvs G1 H1 xs k1 g1 r1 hl w1=>?_⟩;exact⟨vs,G1,Qm,Em,by rw[ï];exact r1,g1,w1,c.go k1,λcls d H' h=>h.go k1⟩
abbrev XKS(i:Inf)(H:Hp)(Xe:O.EQ):XK:=λcls _ H'=>∃e c G' ad,cls=.ref ad/\i.xc c ad/\f9 H H'/\RH i G' H'/\Xe e c G'
structure PreS(X:Cx)(i:Inf)(σ:St)(H:Hp)(env:O.Env)(G:O.Hs)(Xe:O.EQ):Prop where
 en:REn i.K H env σ
 hp:RH i G H
 xo:XW X<|XKS i H Xe
def PreS.go(p:PreS X i σ H env G Xe)(k:f9 H H1)(r:RH i G1 H1)(e:REn i.K H1 env1 σ1):PreS X i σ1 H1 env1 G1 Xe :=
 ⟨e,r,λÂ σ H0 s H' a cls s' I f ⟨e,c,G',ad,q1,q2,q3,q4⟩=>p.xo Â σ H0 s H' a cls s' I f ⟨e,c,G',ad,q1,q2,k.trans q3,q4⟩⟩
def PreS.pre(p:PreS X i σ H env G Xe):Pre X i σ H env G (Xe env) :=
 ⟨p.en,p.hp,λÂ σ H0 s H' a cls s' I f ⟨c,G',ad,q1,q2,q3,q4⟩=>p.xo Â σ H0 s H' a cls s' I f ⟨env,c,G',ad,q1,q2,q3,q4⟩⟩
structure EOk(i:Inf)(H:Hp)(D:Ends)(N:O.NQ)(R:O.Q1)(B C:O.NQ):Prop where
 nx:∀Ũ Ű G' H',f9 H H'->RH i G' H'->REn i.K H' Ũ Ű->N Ũ G'->D.nx Ű H'
 rt:∀v G' H' x,f9 H H'->RH i G' H'->RV i.K H' v x->R v G'->D.rt x H'
 bk:∀Ũ Ű G' H',f9 H H'->RH i G' H'->REn i.K H' Ũ Ű->B Ũ G'->D.bk Ű H'
 ct:∀Ũ Ű G' H',f9 H H'->RH i G' H'->REn i.K H' Ũ Ű->C Ũ G'->D.ct Ű H'
def EOk.go(e:EOk i H D N R B C)(k:f9 H H1):EOk i H1 D N R B C :=
 ⟨λa b c d k'=>e.nx a b c d<|k.trans k',λa b c d k'=>e.rt a b c d<|k.trans k',λa b c d k'=>e.bk a b c d<|k.trans k',λa b c d k'=>e.ct a b c d<|k.trans k'⟩
inductive tStx (X:Cx) (i:Inf) (Φ:O.Fs) (m:O.S) (D:Ends) (σ:St) (H:Hp):Prop
 |mk (env:O.Env) (G:O.Hs) (N:O.NQ) (R:O.Q1) (B C:O.NQ) (Xe:O.EQ) (p:PreS X i σ H env G Xe) (w:O.wS Φ m env G N R B C Xe) (e:EOk i H D N R B C)
abbrev tSt(X:Cx)(i:Inf)(Φ:O.Fs)(m:O.S):TS:=tStx X i Φ m
inductive tBlx (X:Cx) (i:Inf) (Φ:O.Fs) (m:O.Ss) (D:Ends) (σ:St) (H:Hp):Prop
 |mk (env:O.Env) (G:O.Hs) (N:O.NQ) (R:O.Q1) (B C:O.NQ) (Xe:O.EQ) (p:PreS X i σ H env G Xe) (w:O.wSs Φ m env G N R B C Xe) (e:EOk i H D N R B C)
abbrev tBl(X:Cx)(i:Inf)(Φ:O.Fs)(m:O.Ss):TS:=tBlx X i Φ m
variable {st:ł}
def _root_.L2.PS.imp(h:PS X st t)(f:∀D σ H,t' D σ H->t D σ H):PS X st t':=λÂ s σ H D I q=>h Â s σ H D I (f D σ H q)
def _root_.L2.PSs.imp{st:List ł}(h:PSs X st t)(f:∀D σ H,t' D σ H->t D σ H):PSs X st t':=λÂ s σ H D I q=>h Â s σ H D I (f D σ H q)
def Pc:PSs X []<|tBl X i Φ .nil:=pss_nil.imp λD σ H ⟨env,G,N,R,B,C,Xe,p,w,c⟩=>by exact c.nx env σ G H (f9.refl H) p.hp p.en w
def FB{sts:List ł}{m:O.S}{ms:O.Ss}(h1:PS X st<|tSt X i Φ m)(h2:PSs X sts<|tBl X i Φ ms):PSs X (st::sts) (tBl X i Φ<|.cons m ms) :=
 (EZ h1 h2).imp λD σ H ⟨env,G,N,R,B,C,Xe,p,w,c⟩=>by exact⟨env,G,_,R,B,C,Xe,p,w,⟨λŨ Ű G' H' k g e w'=>⟨Ũ,G',N,R,B,C,Xe,p.go k g e,w',c.go k⟩,c.rt,c.bk,c.ct⟩⟩
variable {m:O.E}
def P4(he:PE X e<|tE X i Φ m):PS X (.Return (fw e) í) (tSt X i Φ<|.ret m) :=
 (LF he).imp λD σ H ⟨env,G,N,R,B,C,Xe,p,w,c⟩=>by exact⟨env,G,R,Xe env,p.pre,w,c.rt⟩
def Hb:PS X (.Return fx í) (tSt X i Φ .retN) :=
 ps_retN.imp λD σ H ⟨env,G,N,R,B,C,Xe,p,w,c⟩=>by exact c.rt _ G H _ (f9.refl H) p.hp .non w
def G9(he:PE X e<|tE X i Φ m)(hs:η e fx í.line X.env=pure fz):PS X (.Expr e í) (tSt X i Φ<|.expr m) :=
 (HM he hs).imp λD σ H ⟨env,G,N,R,B,C,Xe,p,w,c⟩=>by exact⟨env,G,_,Xe env,p.pre,w,λv G1 H1 x k1 g1 r1 w1=>c.nx env σ G1 H1 k1 g1 (p.en.keep k1) w1⟩
def Qf{t:Expr}{a b:List ł}{mt:O.Tt}{ma mb:O.Ss}(ht:PT X t<|tTt X i Φ mt)(ha:PSs X a<|tBl X i Φ ma)(hb:PSs X b<|tBl X i Φ mb):PS X (.If t a b í) (tSt X i Φ<|.ite mt ma mb) :=
 (Q8 ht ha hb).imp λD σ H ⟨env,G,N,R,B,C,Xe,p,w,c⟩=>by
  refine⟨env,G,_,Xe env,p.pre,w,λd G1 H1 k1 g1 q=>?_⟩;cases d with
  |true=>exact⟨env,G1,N,R,B,C,Xe,p.go k1 g1<|p.en.keep k1,⇑q,c.go k1⟩
  |false=>exact⟨env,G1,N,R,B,C,Xe,p.go k1 g1<|p.en.keep k1,⇑q,c.go k1⟩
abbrev gPt(i:Inf)(p:O.Pt):TG:=λx σ H Q=>∃v env G ŝ,RV i.K H v x/\RH i G H/\REn i.K H env σ/\O.bind p G v env=fw ŝ/\∀σ2,REn i.K H ŝ σ2->Q σ2 H
variable {tg:Expr}
def _root_.L2.PG.imp{t t':TG}(h:PG X tg t)(f:∀v σ H Q,t' v σ H Q->t v σ H Q):PG X tg t':=λÂ s σ H v u Q I r q=>h Â s σ H v u Q I r (f v σ H Q q)
def _root_.L2.PGs.imp{tg:List Expr}{t t':TGs}(h:PGs X tg t)(f:∀v σ H Q,t' v σ H Q->t v σ H Q):PGs X tg t':=λÂ s σ H v u Q I r q=>h Â s σ H v u Q I r (f v σ H Q q)
variable {x:Str}{j:Nat}
def OO(hN:X.N.Nodup)(hi:X.N[j]?=fw x)(hx:Loc X.env.scope x)(hf:X.fn x=fy\/X.env.scope.names.lookup x=fw .local):PG X (.Name x í) (gPt i<|.one j) :=
 (U6 hN hi hx hf).imp λv σ H Q ⟨u,env,G,ŝ,r,g,e,b,h⟩=>by cases b;exact h _<|e.set r j
abbrev Cm(i:Inf)(js:List Nat):TGs:=λxs σ H Q=>∃vs env ŝ,RVs i.K H vs xs/\REn i.K H env σ/\O.bindL js vs env=fw ŝ/\∀σ2,REn i.K H ŝ σ2->Q σ2 H
def GL:PGs X []<|Cm i []:=pgs_nil.imp λxs σ H Q ⟨vs,env,ŝ,r,e,b,h⟩=>by
 cases vs with
 |nil=>cases r;cases b;exact⟨rfl,h _ e⟩
 |cons _ _=>cases b
def ED(hN:X.N.Nodup)(hi:X.N[j]?=fw x)(hx:Loc X.env.scope x)(hf:X.fn x=fy\/X.env.scope.names.lookup x=fw .local)(h2:PGs X es<|Cm i js)(hs:(Ĝ (.Name x í::es) X.env).map (·.2)=χ (.Name x í) X.env::(Ĝ es X.env).map (·.2)):PGs X (.Name x í::es) (Cm i<|j::js) :=
 (Jw (U6 hN hi hx hf) h2 hs).imp λxs σ H Q ⟨vs,env,ŝ,r,e,b,h⟩=>by
  cases vs with
  |nil=>cases b
  |cons v vs =>
   cases r with
   |cons r t=>exact⟨_,_,rfl,vs,env.set j<|fw v,ŝ,t,e.set r j,b,h⟩
def K0:∀{js:List Nat}{vs:List O.Val}{env ŝ:O.Env},O.bindL js vs env=fw ŝ->vs.length=js.length
 |[],[],_,_,_=>rfl
 |j::js,v::vs,env,_,h=>by rw[Î,Î,K0<|show O.bindL js vs (env.set j<|fw v)=_ from h]
 |[],_::_,_,_,h=>by cases h
 |_::_,[],_,_,h=>by cases h
def U7(hK:X.K=i.K)(hc:X.calm=fy)(h:PGs X es<|Cm i js)(hn:(Ĝ es X.env).length=js.length)(Ź:(Ĝ es X.env).findIdx? (·.1)=fx):PG X (.Tuple es k í) (gPt i<|.many js) :=
 (Du (n:=js.length) hc h hn Ź).imp λv σ H Q ⟨u,env,G,ŝ,r,g,e,b,h⟩=>by
  cases u with
  |tup vs =>
   have b:O.bindL js vs env=fw ŝ:=b;cases r with
   |tup hp hr=>exact⟨_,_,rfl,by rw[hK];exact Zl hp,by rw[<-hr.length];exact K0 b,vs,env,ŝ,hr,e,b,h⟩
  |_=>cases b
def FY(hK:X.K=i.K)(hc:X.calm=fy)(h1:PG X (.Name x p1)<|gPt i<|.one j)(h2:PG X (.Tuple es k2 p2)<|gPt i<|.many js):PG X (.Tuple [.Name x p1,.Tuple es k2 p2] k í) (gPt i<|.nest j js) :=
 (Du (n:=2) hc (Jw h1 (Jw h2 pgs_nil rfl) rfl) rfl rfl).imp λv σ H Q ⟨u,env,G,ŝ,r,g,e,b,h⟩=>by
  cases u with
  |tup vs =>
   cases vs with
   |nil=>cases b
   |cons x0 vs=>cases vs with
    |nil=>cases b
    |cons y vs=>cases vs with
     |cons _ _=>cases b
     |nil =>
      have b:(O.tupOf y).bind (λys=>O.bindL js ys<|env.set j<|fw x0)=fw ŝ:=b;cases r with
      |tup hp hr =>
       cases hr with
       |cons r0 t=>cases t with
        |cons r1 t =>cases t;exact⟨_,_,rfl,by rw[hK];exact Zl hp,rfl,_,_,rfl,x0,env,G,_,r0,g,e,rfl,λσ2 e2=>⟨_,_,rfl,y,_,G,ŝ,r1,g,e2,b,λσ3 e3=>⟨rfl,h σ3 e3⟩⟩⟩
  |_=>cases b
def Qn(he:PE X e<|tE X i Φ m)(hg:PG X tg<|gPt i q)(hs:ϕ [tg] e í.line X.env=pure fz)(hw:ϖ [tg] e X.env=pure fx)(h1:(Ĝ [tg] X.env).map (·.2)=[χ tg X.env]):PS X (.Assign [tg] e í) (tSt X i Φ<|.set q m) :=
 (BX he hg hs hw h1).imp λD σ H ⟨env,G,N,R,B,C,Xe,p,w,c⟩=>by refine⟨env,G,_,Xe env,p.pre,w,λv G1 H1 x k1 g1 r1 w1=>?_⟩;let⟨ŝ,e2,w1⟩:=fG w1;exact⟨v,env,G1,ŝ,r1,g1,p.en.keep k1,e2,λσ2 h2=>c.nx ŝ σ2 G1 H1 k1 g1 h2 w1⟩
abbrev DL:V->V->V->Hp->(Hp->Prop)->Prop:=λo y v H Q=>II o y v H Q\/IV o y v H Q
def Dc{G G3:O.Hs}{H:Hp}{o k v:O.Val}{y z x:V}{Q:Hp->Prop}(g:RH i G H)(ry:RV i.K H o y)(rz:RV i.K H k z)(rx:RV i.K H v x)(e:O.gD G o k v=fw G3)(c:∀H3,f9 H H3->RH i G3 H3->Q H3):DL y z x H Q:=by
 cases o with
 |ref b =>
  cases ry.ref_inv
  replace e:(match G b with|some (.lst xs)=>(O.gY k).bind λn=>(O.ixN xs.length n).map λj=>O.upd G b (.lst<|xs.set j v)|some (.dct kvs)=>if O.fX k/\kvs.length<O.lim then fw (O.upd G b<|.dct<|O.gh kvs k v)else fx|some (.dtp kvs)=>if O.isKeyT k/\kvs.length<O.lim then fw (O.upd G b<|.dtp<|O.gh kvs k v)else fx|_=>fx)=fw G3:=e
  cases z4:G b with
  |none=>rw[z4]at e;cases e
  |some o =>
   rw[z4]at e;cases o with
   |lst xs =>let⟨n,hn,e⟩:=ò.mp e;let⟨jj,hj,rfl⟩:=Ë.mp e;cases Zy hn;cases rz.int_inv;let⟨vs,h2,r2⟩:=g b _ z4;rw[MG,r2.length]at hj;let⟨k3,g3⟩:=Nn (xs:=xs) g h2 (xs.set jj v) (vs.set jj x)<|r2.set rx jj;exact .inl ⟨b,vs,n,jj,rfl,rfl,h2,hj,c _ k3 g3⟩
   |dct kvs =>let⟨hk,e⟩:=Zm (show(if O.fX k/\kvs.length<O.lim then fw (O.upd G b<|.dct<|O.gh kvs k v)else fx)=fw G3 from e);cases e;let⟨ps,h2,r2⟩:=g b _ z4;let⟨d,kr,rfl⟩:=fS hk.1 rz;let⟨k3,g3⟩:=M1 (kvs:=kvs) g h2<|r2.put kr rx;exact .inr ⟨b,_,rfl,DPut.k h2 (by rw[<-RKs.length r2];exact ê hk.2 Ym),c _ k3 g3⟩
   |dtp kvs =>let⟨hk,e⟩:=Zm (show(if O.isKeyT k/\kvs.length<O.lim then fw (O.upd G b<|.dtp<|O.gh kvs k v)else fx)=fw G3 from e);cases e;let⟨ps,h2,r2⟩:=g b _ z4;let⟨a1,a2,d,rfl,rfl,hd⟩:=Wt hk.1 rz;let⟨k3,g3⟩:=Gc g h2<|r2.put (i:=a1) (j:=a2) rx;exact .inr ⟨b,_,rfl,DPut.t h2 hd (by rw[<-RTs.length r2];exact ê hk.2 Ym),c _ k3 g3⟩
   |_=>cases e
 |_=>cases e
def A5{a j:Expr}{ma mj:O.E}{ϡ:Pos}(hK:X.K=i.K)(he:PE X e<|tE X i Φ m)(ha:PE X a<|tE X i Φ ma)(hj:PE X j<|tE X i Φ mj)(hgl:PG X (.Subscript a j ϡ)<|RS (tE X i Φ ma) (tE X i Φ mj) DL)(hs:ϕ [.Subscript a j ϡ] e í.line X.env=pure fz)(hw:ϖ [.Subscript a j ϡ] e X.env=pure fx)(h1:(Ĝ [.Subscript a j ϡ] X.env).map (·.2)=[χ (.Subscript a j ϡ) X.env]):PS X (.Assign [.Subscript a j ϡ] e í) (tSt X i Φ<|.setIdx ma mj m) :=
 (BX he hgl hs hw h1).imp λD σ H ⟨env,G,N,R,B,C,Xe,p,w,c⟩=>by refine⟨env,G,_,Xe env,p.pre,w,λv G1 H1 x k1 g1 r1 w1=>?_⟩;refine two (p.go k1 g1<|p.en.keep k1).pre w1 λo k G2 H2 y z k2 p2 ry rz q=>?_;let⟨G3,e3,q⟩:=fG q;exact Dc p2.hp ry rz (r1.keep k2) e3 λH3 k3 g3=>c.nx env σ _ _ ((k1.trans k2).trans k3) g3 (p2.en.keep k3) q
structure ItOk(i:Inf)(H0:Hp)(J:It)(st:O.Hs->Prop)(xs:List O.Val):Prop where
 go:∀n G H v,f9 H0 H->RH i G H->st G->xs[n]?=fw v->J.go n H/\∀x H',J.yld n H x H'->f9 H H'/\RH i G H'/\RV i.K H' v x
 stop:∀n G H,f9 H0 H->RH i G H->st G->xs.length<=n->J.stop n H
abbrev tIt(X:Cx)(i:Inf)(Φ:O.Fs)(m:O.It):TI:=λσ H R=>∃env G QI Em,Pre X i σ H env G Em/\O.wI Φ m env G QI Em/\∀st xs G' H' J,f9 H H'->RH i G' H'->ItOk i H' J st xs->QI st xs G'->R J H'
variable {tg:Expr}{e:Expr}
def _root_.L2.PI.imp{t t':TI}(h:PI X tg e t)(f:∀σ H Q,t' σ H Q->t σ H Q):PI X tg e t':=λÂ s σ H Q I q=>h Â s σ H Q I (f σ H Q q)
abbrev Tp(K:Frag)(tl:TE):TI:=λσ H R=>tl σ H λx H1=>∃a,x=.ref a/\(((∃xs,gT K H1 a xs)/\R (Itl K a) H1)\/((∃xs,gU K H1 a xs)/\R (Itt K a) H1))
def Dh(hl:PE X l tl):PI X tg l<|Tp X.K tl:=by
 intro Â s σ H R I h;refine thn (hl Â s σ H _ I h) λv s1 ⟨x,H1,I1,r1,q1⟩=>?_;let⟨a,e,q1⟩:=q1;subst e;cases r1;rcases q1 with⟨⟨xs,hq⟩,q⟩|⟨⟨xs,hq⟩,q⟩
 .obtain⟨ú,rv,p,hz⟩:=I1.list hq;refine ϑ p.isList ?_;refine⟨s1.heap.objs.size,[s1.heap.objs.size],_,_,H1,rfl,I1.kept (t':=s1.toks) λb o e=>Ä _ e,BI a _,⟨_,Ø _ rfl,rfl,rfl⟩,λb hb=>?_,q⟩;have e:b=s1.heap.objs.size:=⇑hb
  subst e;exact I1.fpOk (Ì _)<|I1.hok.fresh<|Ì _
 .obtain⟨ú,rv,p,hz⟩:=I1.tuple hq;refine aD (show s1.heap.IsTuple a ú.toArray from p) ?_;refine⟨s1.heap.objs.size,[s1.heap.objs.size],_,_,H1,rfl,I1.kept (t':=s1.toks) λb o e=>Ä _ e,Up a _,⟨_,Ø _ rfl,rfl,rfl⟩,λb hb=>?_,q⟩;have e:b=s1.heap.objs.size:=⇑hb
  subst e;exact I1.fpOk (Ì _)<|I1.hok.fresh<|Ì _
variable {a:Ð}
def it_lst:ItOk i H0 (Itl i.K a) (λg=>O.fQ (g a)=fw xs) xs where
 go:=λn G H v _ g e hv=>by let⟨vs,h1,h2⟩:=ZE g e;let⟨x,h3,h4⟩:=h2.get hv;refine⟨⟨vs,x,h1,h3⟩,λy H' ⟨e1,e2⟩=>?_⟩;subst e1;have:=e2 vs h1;rw[h3]at this;cases this;exact⟨f9.refl _,g,h4⟩
 stop:=λn G H _ g e hn=>by let⟨vs,h1,h2⟩:=ZE g e;exact⟨vs,h1,by rw[<-h2.length];exact hn⟩
def it_tup{vs:List V}(hp:H0 a=fw (.tup vs)\/KT i.K a vs)(hr:RVs i.K H0 xs vs):ItOk i H0 (Itt i.K a) (λ_=>True) xs where
 go:=λn G H v k g e hv=>by have hp':H a=fw (.tup vs)\/KT i.K a vs:=hp.imp (k.t _ _) id;let⟨x,h3,h4⟩:=(hr.keep k).get hv;refine⟨⟨vs,x,Zl hp',h3⟩,λy H' ⟨e1,e2⟩=>?_⟩;subst e1;have:=e2 vs<|Zl hp';rw[h3]at this;cases this;exact⟨f9.refl _,g,h4⟩
 stop:=λn G H k g e hn=>by have hp':H a=fw (.tup vs)\/KT i.K a vs:=hp.imp (k.t _ _) id;exact⟨vs,Zl hp',by rw[<-hr.length];exact hn⟩
def it_scr{ns:List Int}(h:(∃o,H0 a=fw (.frz o<|.lst<|ns.map V.int))\/KL i.K a (ns.map V.int)):ItOk i H0 (Itl i.K a) (λ_=>True) (ns.map .int) where
 go:=λn G H v k g e hv=>by have h':gT i.K H a<|ns.map V.int:=Ye<|h.imp (λ⟨o,e⟩=>⟨o,k.f _ _ _ e⟩) id;let⟨x,h3,h4⟩:=(RVs.ints (K:=i.K) (H:=H) ns).get hv;refine⟨⟨_,x,h',h3⟩,λy H' ⟨e1,e2⟩=>?_⟩;subst e1;have:=e2 _ h';rw[h3]at this;cases this;exact⟨f9.refl _,g,h4⟩
 stop:=λn G H k g e hn=>⟨_,Ye<|h.imp (λ⟨o,e⟩=>⟨o,k.f _ _ _ e⟩) id,⇑hn⟩
def CD{lo:Int}(hn:n=(hi - lo).toNat):ItOk i H0 (Itr lo n) (λ_=>True) (O.gq lo hi) where
 go:=λk G H v _ g _ hv=>by
  unfold O.gq at hv;rw[Ú]at hv;have hk:k<(hi - lo).toNat:=by
   by_cases h:k<(hi - lo).toNat
   .exact h
   .rw[Ŀ<|by simpa using h]at hv;cases hv
  rw[List.getElem?_range hk]at hv;cases hv;refine⟨by rw[hn];exact hk,λx H' ⟨e1,e2⟩=>?_⟩;subst e1 e2;exact⟨f9.refl _,g,.int _⟩
 stop:=λk G H _ g _ hk=>by unfold O.gq at hk;show n<=k;simp at hk;lia
variable {m:O.E}
def Pe(hK:X.K=i.K)(he:PE X e<|tE X i Φ m):PI X tg e (tIt X i Φ<|.seq m) :=
 (Dh he).imp λσ H R ⟨env,G,QI,Em,p,w,c⟩=>by
  refine one p w λv G1 H1 x k1 p1 r q=>?_;let⟨⟨st,xs⟩,e1,q2⟩:=fG q;clear q;rw[hK];cases v with
  |tup ys =>
   cases e1;cases r with
   |tup hp hr=>exact⟨_,rfl,.inr ⟨⟨_,Zl hp⟩,c _ _ G1 H1 _ k1 p1.hp (it_tup hp hr) q2⟩⟩
  |scr ns =>
   cases e1;cases r with
   |scr h=>exact⟨_,rfl,.inl ⟨⟨_,Ye h⟩,c _ _ G1 H1 _ k1 p1.hp (it_scr h) q2⟩⟩
  |ref a =>
   cases r.ref_inv;simp![O.itV]at e1;cases z:O.fQ (G1 a)with
   |none=>rw[z]at e1;cases e1
   |some ys =>rw[z]at e1;cases e1;let⟨vs,h1,h2⟩:=ZE p1.hp z;exact⟨a,rfl,.inl ⟨⟨vs,h1⟩,c _ _ G1 H1 _ k1 p1.hp it_lst q2⟩⟩
  |_=>cases e1
variable {p:Pos}{í:Pos}
def CK{a:Expr}(hg:Gl X "range")(hm:X.mg "range" = fx)(ha:PE X a<|tE X i Φ m)(hs:Ý [a] X.env=[(fz,eval a X.env)]):PI X tg (.Call (.Name "range" p) [a] [] í) (tIt X i Φ<|.range m) :=
 (BF hg hm (ZK ha gQ<|by rw[hs];rfl) hs).imp λσ H R ⟨env,G,QI,Em,p,w,c⟩=>by refine one p w λv G1 H1 x k1 p1 r q=>?_;let⟨n,e1,q2⟩:=fG q;clear q;cases Zy e1;cases r.int_inv;exact⟨n,rfl,q2.1.1,q2.1.2,c _ _ G1 H1 _ k1 p1.hp (CD<|by rw[Int.sub_zero]) q2.2⟩
def AW{a b:Expr}{ma mb:O.E}(hg:Gl X "range")(hm:X.mg "range" = fx)(ha:PE X a<|tE X i Φ ma)(hb:PE X b<|tE X i Φ mb)(hs:Ý [a,b] X.env=[(fz,eval a X.env),(fz,eval b X.env)])(hs1:Ý [b] X.env=[(fz,eval b X.env)]) :
  PI X tg (.Call (.Name "range" p) [a,b] [] í) (tIt X i Φ<|.range2 ma mb) :=
 (Bc hg hm (ZK ha (ZK hb gQ<|by rw[hs1];rfl)<|by rw[hs,hs1]) hs hs1).imp λσ H R ⟨env,G,QI,Em,p,w,c⟩=>by refine two p w λv u G1 H1 x y k1 p1 rx ry q=>?_;let⟨n,e1,q1⟩:=fG q;let⟨m,e2,q2⟩:=fG q1;clear q q1;cases Zy e1;cases Zy e2;cases rx.int_inv;cases ry.int_inv;exact⟨n,m,rfl,q2.1,c _ _ G1 H1 _ k1 p1.hp (CD rfl) q2.2⟩
def Qc{ŷ:Expr}(hp:af ↥2 X.A X.env X.xe)(hc:X.calm=fy)(hi:PI X tg ŷ<|tIt X i Φ mi)(hg:PG X tg<|gPt i q)(hb:PSs X body<|tBl X i Φ mb)(hs:∀x,Ě ŷ X.env x=pure x):PS X (.For tg ŷ body [] í) (tSt X i Φ<|.for q mi mb) :=
 (EN hp hc hi hg hb hs).imp λD σ H ⟨env,G,N,R,B,C,Xe,p,w,c⟩=>by
  refine⟨env,G,_,Xe env,p.pre,w,λst xs G1 H1 J k1 g1 it w1=>?_⟩;refine⟨λn m Ű H'=>n+m=xs.length/\∃Ũ G',f9 H1 H'/\RH i G' H'/\REn i.K H' Ũ Ű/\O.wFor st (λv e g K M=>O.go (O.bind q g v e) λe2=>O.wSs Φ mb e2 g K R M K Xe) N (xs.drop n) Ũ G',⟨xs.length,by lia,env,G1,f9.refl _,g1,p.en.keep k1,⇑w1⟩,?_⟩;rintro n m Ű H' ⟨hnm,Ũ,G',k2,g2,e2,w2⟩;by_cases hn:n<xs.length
  .right;have hd:xs.drop n=xs[n]::xs.drop (n+1):=Ρ hn;rw[hd]at w2;let⟨s2,w2⟩:=w2;have hv:xs[n]?=fw xs[n]:=Ê hn;let⟨a1,a2⟩:=it.go n G' H' xs[n] k2 g2 s2 hv;refine⟨a1,λσ3 H3=>∃env3 G3,f9 H1 H3/\RH i G3 H3/\REn i.K H3 env3 σ3/\O.wFor st (λv e g K M=>O.go (O.bind q g v e) λe2=>O.wSs Φ mb e2 g K R M K Xe) N (xs.drop<|n+1) env3 G3,λσ3 H3 h=>⟨m - 1,by lia,by lia,h⟩,λx H3 hy=>?_⟩;let⟨k3,g3,r3⟩:=a2 x H3 hy;let⟨di,e4,w4⟩:=fG w2;refine⟨xs[n],Ũ,G',di,r3,g3,e2.keep k3,e4,λσ4 h4=>?_⟩;have kk:f9 H H3:=(k1.trans k2).trans k3;refine⟨di,G',_,R,N,_,Xe,p.go kk g3 h4,w4,⟨λdY σ5 G5 H5 k5 g5 e5 w5=>?_,(c.go kk).rt,(c.go kk).nx,λdY σ5 G5 H5 k5 g5 e5 w5=>?_⟩⟩
   .exact⟨dY,G5,(k2.trans k3).trans k5,g5,e5,w5⟩
   .exact⟨dY,G5,(k2.trans k3).trans k5,g5,e5,w5⟩
  .left;have hd:xs.drop n=[]:=Ś ↥0;rw[hd]at w2;exact⟨it.stop n G' H' k2 g2 w2.1 ↥0,c.nx Ũ Ű G' H' (k1.trans k2) g2 e2 w2.2⟩
def LN:MD i .len λxs H Q=>((∃p ys,xs=[.ref p]/\(gT i.K H p ys\/gU i.K H p ys)/\Q (.int ys.length) H)\/∃z,xs=[.str z]/\z.length<=à/\Q (.int z.length) H)\/∃a kvs,xs=[V.ref a]/\H a=fw (.dK kvs)/\Q (.int kvs.length) H:=by
 intro vs G H xs Q Qm g r w c;let⟨v,rfl,w⟩:=WC w;let⟨x,rfl,rx⟩:=r.inv1;cases v with
 |ref a =>
  cases rx.ref_inv
  replace w:(match G a with|some (.lst xs)=>.val (.int xs.length)|some (.dct kvs)=>.val (.int kvs.length)|_=>.no:O.Rs).wp G Qm:=w
  cases z:G a with
  |none=>rw[z]at w;exact(Zi w).elim
  |some o =>
   rw[z]at w;cases o with
   |lst ys =>let⟨us,h1,h2⟩:=g a _ z;refine .inl<|.inl ⟨a,us,rfl,.inl<|gT.of h1,?_⟩;rw[<-h2.length];exact c _ G H _ (f9.refl H) g (.int _)<|Zn w
   |dct kvs =>let⟨ps,h1,h2⟩:=g a _ z;refine .inr ⟨a,ps,rfl,h1,?_⟩;rw[<-h2.length];exact c _ G H _ (f9.refl H) g (.int _)<|Zn w
   |_=>exact(Zi w).elim
 |tup ys =>
  cases rx with
  |tup hp hr =>refine .inl<|.inl ⟨_,_,rfl,.inr<|Zl hp,?_⟩;rw[<-hr.length];exact c _ G H _ (f9.refl H) g (.int _)<|Zn w
 |scr ns =>
  cases rx with
  |scr h =>refine .inl<|.inl ⟨_,_,rfl,.inl<|Ye h,?_⟩;rw[Á];exact c _ G H _ (f9.refl H) g (.int _)<|Zn w
 |str s =>cases rx.str_inv;let⟨hl,w⟩:=Wg w;refine .inl (.inr ⟨_,rfl,by rw[ZH];exact Û hl Ym,?_⟩);rw[ZH];exact c _ G H _ (f9.refl H) g (.int _)<|Zn w
 |_=>exact(Zi w).elim
def FJ:MD i .list λxs H Q=>∃p ys,xs=[.ref p]/\(gT i.K H p ys\/gU i.K H p ys)/\∀l,H l=fx->Q (.ref l) (upd H l<|.lst ys):=by
 intro vs G H xs Q Qm g r w c;let⟨v,rfl,w⟩:=WC w;let⟨x,rfl,rx⟩:=r.inv1;cases v with
 |ref a =>cases rx.ref_inv;let⟨ys,e,w⟩:=NJ (f:=λxs=>.new<|.lst xs) w;let⟨us,h1,h2⟩:=g a _ e;exact⟨a,us,rfl,.inl<|gT.of h1,Yg g (Ni w) c λp hp=>⟨_,fB,h2.keep<|f9.new hp⟩⟩
 |tup ys =>
  cases rx with
  |tup hp hr=>exact⟨_,_,rfl,.inr<|Zl hp,Yg g (Ni w) c λp hp=>⟨_,fB,hr.keep<|f9.new hp⟩⟩
 |_=>exact(Zi w).elim
def AF{K:Frag}:∀{xs:List O.Val}{bs:List Bool}{vs:List V},O.blsOf xs=fw bs->RVs K H xs vs->vs=bs.map V.bl:=by
 intro xs;induction xs with
 |nil=>intro bs vs e r;cases e;cases r;rfl
 |cons v xs ih =>
  intro bs vs e r;cases v<;>first|(cases e;done)|skip
  case bl b =>
  simp![O.blsOf]at e;cases z:O.blsOf xs with
  |none=>rw[z]at e;cases e
  |some ns=>rw[z]at e;cases e;cases r with|cons a t=>cases a.bl_inv;rw[ih z t];rfl
def PX{o:Option O.Val}{h:O.Hs}{Q:O.Q1}(w:(O.Rs.ofO o).wp h Q):∃v,o=fw v/\Q v h:=by
 cases o with
 |none=>exact(Zi w).elim
 |some v=>exact⟨v,rfl,Zn w⟩
def Pj:MD i .all λxs H Q=>∃p,∃bs:List Bool,xs=[.ref p]/\gT i.K H p (bs.map V.bl)/\Q (.bl<|bs.all id) H:=by
 intro vs G H xs Q Qm g r w c;let⟨v,rfl,w⟩:=WC w;let⟨x,rfl,rx⟩:=r.inv1;cases v with
 |ref a =>cases rx.ref_inv;let⟨v,e,w⟩:=PX w;let⟨ys,z,e⟩:=ò.mp e;let⟨bs,z2,rfl⟩:=Ë.mp e;let⟨us,h1,h2⟩:=ZE g z;have:=AF z2 h2;subst this;exact⟨a,bs,rfl,h1,c _ G H _ (f9.refl H) g (.bl _) w⟩
 |_=>exact(Zi w).elim
def EI(ds:List O.D)(d:O.D):(toDs ds).any (λe=>Ī e<|toD d)=ds.any λe=>O.D.eqv e d:=by
 induction ds with
 |nil=>rfl
 |cons e es ih=>simp![toDs,Ġ,ih,MM]
variable {y:V}{ys:List O.Val}
def U1(g:RH i G H){v u:O.Val}{x:V}{c:Bool}(rx:RV i.K H v x)(e:O.inL G v ys=fw c)(hy:∀ds,ys.mapM (O.dat G<|O.deep - 1)=fw ds->IsD i.K H y (.tuple<|toDs ds)\/IsD i.K H y (.list<|toDs ds)) :
  ∃ds d,(IsD i.K H y (.tuple ds)\/IsD i.K H y (.list ds))/\IsD i.K H x d/\Ŝ ds=fy/\d.canLay0=fy/\d.depth<=64/\ds.any (λe=>Ī e d)=c:=by
 unfold O.inL at e;cases z:O.dat G O.deep v with
 |none=>rw[z]at e;cases e
 |some d =>
  rw[z]at e;simp![ö]at e;cases z2:ys.mapM (O.dat G<|O.deep - 1)with
  |none=>rw[z2]at e;cases e
  |some ds =>rw[z2]at e;cases e;exact⟨_,_,hy ds z2,Ws g _ _ _ _ z rx,toDs_lay ds,MF d,Û (K4 _ _ _ z) ↥1,EI ds d⟩
def UG(g:RH i G H)(ry:RV i.K H u y)(hu:u=.tup ys\/∃a,u=.ref a/\O.fQ (G a)=fw ys):∀ds,ys.mapM (O.dat G<|O.deep - 1)=fw ds->IsD i.K H y (.tuple<|toDs ds)\/IsD i.K H y (.list<|toDs ds):=by
 intro ds hd;rcases hu with rfl|⟨a,rfl,hl⟩
 .left;have:=Ws g O.deep (.tup ys) (.tup ds) y (by show Option.map _ (List.mapM (O.dat G<|O.deep - 1) ys)=_;rw[hd];rfl) ry;simpa[toD]using this
 .right;have:=Ws g O.deep (.ref a) (.lst ds) y (by show(O.fQ<|G a).bind _=_;rw[hl];show Option.map _ (List.mapM (O.dat G<|O.deep - 1) ys)=_;rw[hd];rfl) ry;simpa[toD]using this
def LD(s t:String)(c:Char)(h:O.oneC s=fw c):(!(Builtin.Str.occurrences (im t) (im s) 0 (im t).length 1).isEmpty)=ik (c∈t.toList):=by
 have e:im s=⟨#[c.toNat]⟩:=by
  unfold O.oneC at h;split at h
  .rename_i d hd;cases h;rw[Str.ofString_eq_toList,hd];rfl
  .cases h
 rw[e,StrLaws.found_one,Mq];have inj:∀{a b:Char},a.toNat=b.toNat->a=b:=λ{a b} e=>Char.ext<|bP e;by_cases hc:c∈t.toList
 .rw[ig hc,ii];exact ã hc
 .rw[ie hc,decide_eq_false_iff_not];intro m;let⟨d,hd,he⟩:=Ñ.mp m;exact hc<|inj he▸hd
abbrev Q7(K:Frag):R2:=λx y H Q=>FS fz x y H Q\/HL K fz x y H Q\/∃i j,x=.str i/\y=.str j/\Q (.bl (!(Builtin.Str.occurrences j i 0 j.length 1).isEmpty)) H
abbrev R3(K:Frag):R2:=λx y H Q=>FS fy x y H Q\/HL K fy x y H Q\/∃i j,x=.str i/\y=.str j/\Q (.bl (!(!(Builtin.Str.occurrences j i 0 j.length 1).isEmpty))) H
def SZ(hu:X.A.units+65<Ğ):OpR X (ð .In)<|Q7 X.K:=(P7<|by lia).or ((LO hu).or AJ)
def Tl(hu:X.A.units+65<Ğ):OpR X (ð .NotIn)<|R3 X.K:=(LK<|by lia).or ((Bs hu).or Nf)
def IU{v u:O.Val}{G:O.Hs}{H:Hp}{x y:V}{b:Bool}(g:RH i G H)(rx:RV i.K H v x)(ry:RV i.K H u y)(e:O.inV G v u=fw b) :
  (∃ds d,(IsD i.K H y (.tuple ds)\/IsD i.K H y (.list ds))/\IsD i.K H x d/\Ŝ ds=fy/\d.canLay0=fy/\d.depth<=64/\ds.any (λe=>Ī e d)=b)\/
  (∃j k,x=.str j/\y=.str k/\(!(Builtin.Str.occurrences k j 0 k.length 1).isEmpty)=b)\/∃a o,y=.ref a/\DGet H a x o/\o.isSome=b:=by
 cases u with
 |tup ys=>exact .inl<|U1 (u:=.tup ys) g rx e<|UG g ry<|.inl rfl
 |ref a =>
  replace e:(match G a with|some (.lst xs)=>O.inL G v xs|some (.dct kvs)=>if O.fX v then fw (O.gg kvs v)else fx|some (.frz kvs)=>if O.fX v then fw (O.gg kvs v)else fx|some (.dtp kvs)=>if O.isKeyT v then fw (O.gg kvs v)else fx|_=>fx)=fw b:=e
  cases z:G a with
  |none=>rw[z]at e;cases e
  |some o =>
   rw[z]at e;cases o with
   |lst ys=>exact .inl (U1 (u:=.ref a) g rx e<|UG g ry<|.inr ⟨a,rfl,by rw[z];rfl⟩)
   |dct kvs =>let⟨hk,e⟩:=Zm (show(if O.fX v then fw (O.gg kvs v)else fx)=fw b from e);cases e;let⟨ps,h1,h2⟩:=g a _ z;let⟨d,kr,rfl⟩:=fS hk rx;exact .inr (.inr ⟨a,_,ry.ref_inv,DGet.k h1,by rw[h2.has kr,Xn]⟩)
   |frz kvs =>let⟨hk,e⟩:=Zm (show(if O.fX v then fw (O.gg kvs v)else fx)=fw b from e);cases e;let⟨ob,ps,h1,h2⟩:=g a _ z;let⟨d,kr,rfl⟩:=fS hk rx;exact .inr (.inr ⟨a,_,ry.ref_inv,.inl ⟨ps,d,.inr ⟨ob,h1⟩,rfl,rfl⟩,by rw[h2.has kr,Xn]⟩)
   |dtp kvs =>let⟨hk,e⟩:=Zm (show(if O.isKeyT v then fw (O.gg kvs v)else fx)=fw b from e);cases e;let⟨ps,h1,h2⟩:=g a _ z;let⟨k1,k2,d,rfl,rfl,hd⟩:=Wt hk rx;exact .inr (.inr ⟨a,_,ry.ref_inv,DGet.t h1 hd,by rw[h2.has,Xn]⟩)
   |_=>cases e
 |str t =>
  cases v with
  |str s =>let⟨c,z,rfl⟩:=Ë.mp e;exact .inr<|.inl ⟨_,_,rx.str_inv,ry.str_inv,LD s t c z⟩
  |_=>cases e
 |_=>cases e
def Fq{o:Option Bool}{b:Bool}(e:o.map (!·)=fw b):o=fw (!b):=by let⟨c,z,rfl⟩:=Ë.mp e;rw[z,al]
def SQ:Z8 i .isin<|Q7 i.K:=by
 k_get;rcases IU g rx ry e with⟨ds,d,h1,h2,h3,h4,h5,h6⟩|⟨j,k,h1,h2,h3⟩|⟨a,o,h1,h2,h3⟩
 .exact .inr (.inl ⟨ds,d,h1,h2,h3,h4,h5,by show Q (.bl<|List.any _ _) H;rw[h6];exact q⟩)
 .exact .inr (.inr ⟨j,k,h1,h2,by rw[h3];exact q⟩)
 .exact .inl ⟨a,o,h1,h2,by rw[h3,bo];exact q⟩
def Tc:Z8 i .notin<|R3 i.K:=by
 k_get;rcases IU g rx ry (Fq e)with⟨ds,d,h1,h2,h3,h4,h5,h6⟩|⟨j,k,h1,h2,h3⟩|⟨a,o,h1,h2,h3⟩
 .exact .inr (.inl ⟨ds,d,h1,h2,h3,h4,h5,by show Q (.bl (!List.any _ _)) H;rw[h6,al];exact q⟩)
 .exact .inr (.inr ⟨j,k,h1,h2,by rw[h3,al];exact q⟩)
 .exact .inl ⟨a,o,h1,h2,by rw[h3,bQ,al];exact q⟩
variable {a:Expr}{b:Expr}{d:Expr}{ma:O.E}{mb:O.E}{í:Pos}
def GZ(ho:OpR X (ð op) r)(hr:Z8 i cop r)(aA:OpR X (ð dU) r')(hr':Z8 i cop' r')(ha:PE X a<|tE X i Φ ma)(hb:PE X b<|tE X i Φ mb)(hd:PE X d<|tE X i Φ md)(hm:bA [op,dU] [b,d]=fz) :
  PE X (.Compare a [op,dU] [b,d] í) (tE X i Φ<|.chain cop cop' ma mb md) :=
 (C9 ho aA ha hb hd hm).imp λσ H Q ⟨env,G,Qm,Em,p,w,k⟩=>by
  exact two p w λv u G2 H2 x y k2 p2 rx ry q=>by
   let⟨c,e,q⟩:=fG q;refine hr v u G2 H2 x y c _ p2.hp rx ry e ⟨c,rfl,?_⟩;cases c with
   |true =>
    rw[hX rfl]at q ⊢;exact one p2 q λt G3 H3 z k3 p3 rz q=>by let⟨d2,e2,q⟩:=fG q;exact hr' u t G3 H3 y z d2 Q p3.hp (ry.keep k3) rz e2<|k (.bl d2) G3 H3 (.bl d2) (k2.trans k3) p3.hp (.bl d2) q
   |false =>rw[hZ Ă]at q ⊢;exact k _ G2 H2 _ k2 p2.hp (.bl _) q
def ET(ho:OpR X (ð op) r)(hr:Z8 i cop r)(aA:OpR X (ð dU) r')(hr':Z8 i cop' r')(ha:PE X a<|tE X i Φ ma)(hb:PE X b<|tE X i Φ mb)(hd:PE X d<|tE X i Φ md)(hm:bA [op,dU] [b,d]=fz) :
  PT X (.Compare a [op,dU] [b,d] í) (tTt X i Φ<|.val<|.chain cop cop' ma mb md) :=
 (D4 ho aA ha hb hd hm).imp λσ H Q ⟨env,G,Qm,Em,p,w,k⟩=>by
  exact two p w λv u G2 H2 x y k2 p2 rx ry q=>by
   let⟨c,e,q⟩:=fG q;refine hr v u G2 H2 x y c _ p2.hp rx ry e ⟨c,rfl,?_⟩;cases c with
   |true =>
    rw[hX rfl]at q ⊢;exact one p2 q λt G3 H3 z k3 p3 rz q=>by let⟨d2,e2,q⟩:=fG q;let⟨d3,e3,q⟩:=fG q;cases e3;exact hr' u t G3 H3 y z d2 _ p3.hp (ry.keep k3) rz e2 ⟨d2,rfl,k d2 G3 H3 (k2.trans k3) p3.hp q⟩
   |false =>rw[hZ Ă]at q ⊢;let⟨d3,e3,q⟩:=fG q;cases e3;exact⟨fz,rfl,k _ G2 H2 k2 p2.hp q⟩
def Cv{st:ł}:PS X st<|tSt X i Φ .never:=λÂ s σ H D I ⟨env,G,N,R,B,C,Xe,p,w,c⟩=>by exact w.elim
end Snd
namespace L2
open PySem PySem.Spec PyProof.Rows
def ID{x:V}{xs:List V}{ú:List Ã}(hl:(x::xs).length=ú.length):(ú.toArray.size != (#[]:Array Ã).size)=fy:=by
 cases ú with
 |nil=>cases hl
 |cons y ys=>simp
section
abbrev FR(K:Frag)(n:Bool):R2:=λx y H Q=>∃a b xs,x=.ref a/\y=.ref b/\gT K H a xs/\gT K H b []/\Q (.bl<|n ^^ xs.isEmpty) H
def Eo(hu:X.A.units+64<Ğ):OpR X (ð .Eq)<|FR X.K fz:=by
 k_ne;let⟨a,b,xs,rfl,rfl,ha,hb,q⟩:=h;cases rx;cases ry;let⟨ú,rv,pl,_⟩:=I.list ha;let⟨aJ,rv2,pl2,_⟩:=I.list hb;cases rv2;have hl:=rv.length;cases xs with
 |nil =>have:ú=[]:=Ŵ.mp hl.symm;subst this;exact SeqAt.RcAt.lists (A:=X.A) (e:=λ_=>fy) pl.isList pl2.isList rfl ↥0 (λj j1 _=>by simp at j1) X.prog X.w X.xe _ ⟨.bl fy,H,I,rfl,q⟩
 |cons x xs =>exact SeqAt.RcAt.lists_lengths (A:=X.A) pl.isList pl2.isList (ID hl) ↥0 X.prog X.w X.xe _ ⟨.bl fz,H,I,rfl,q⟩
def CB(hu:X.A.units+64<Ğ):OpR X (ð .NotEq)<|FR X.K fy:=by
 k_ne;let⟨a,b,xs,rfl,rfl,ha,hb,q⟩:=h;cases rx;cases ry;let⟨ú,rv,pl,_⟩:=I.list ha;let⟨aJ,rv2,pl2,_⟩:=I.list hb;cases rv2;have hl:=rv.length;cases xs with
 |nil =>have:ú=[]:=Ŵ.mp hl.symm;subst this;exact SeqAt.RcNeAt.lists (A:=X.A) (e:=λ_=>fy) pl.isList pl2.isList rfl ↥0 (λj j1 _=>by simp at j1) X.prog X.w X.xe _ ⟨.bl fz,H,I,rfl,q⟩
 |cons x xs =>exact SeqAt.RcNeAt.lists_lengths (A:=X.A) pl.isList pl2.isList (ID hl) ↥0 X.prog X.w X.xe _ ⟨.bl fy,H,I,rfl,q⟩
end
end L2
namespace Snd
open PySem L2
variable {i:Inf}{H:Hp}
variable {x:V}{xs:List O.Val}
def KG(g:RH i G H)(r:RV i.K H v x)(e:O.asLst G v=fw xs):∃a vs,x=.ref a/\gT i.K H a vs/\RVs i.K H xs vs:=by
 cases v with
 |ref a =>cases r;let⟨vs,h1,h2⟩:=ZE g e;exact⟨a,vs,rfl,h1,h2⟩
 |_=>cases e
def NV(g:RH i G H){v u:O.Val}{y:V}(rx:RV i.K H v x)(ry:RV i.K H u y){c:Bool}{f:List O.Val->List O.Val->Option Bool}(e:((O.asLst G v).bind λxs=>(O.asLst G u).bind λys=>f xs ys)=fw c):∃xs ys a b vs us,f xs ys=fw c/\x=.ref a/\y=.ref b/\gT i.K H a vs/\gT i.K H b us/\RVs i.K H xs vs/\RVs i.K H ys us:=by
 cases z:O.asLst G v with
 |none=>rw[z]at e;cases e
 |some xs =>
  cases z2:O.asLst G u with
  |none=>rw[z,z2]at e;cases e
  |some ys =>rw[z,z2]at e;let⟨a,vs,h1,h2,h3⟩:=KG g rx z;let⟨b,us,k1,k2,k3⟩:=KG g ry z2;exact⟨xs,ys,a,b,vs,us,e,h1,k1,h2,k2,h3,k3⟩
def Au(h:RVs i.K H xs vs):vs.isEmpty=xs.isEmpty:=by cases h<;>rfl
def c_eqE:Z8 i .eqE<|FR i.K fz:=by
 k_get;let⟨xs,ys,a,b,vs,us,e,h1,h2,h3,h4,h5,h6⟩:=NV g rx ry e;split at e
 .rename_i z;cases e;cases h6 with
  |nil=>exact⟨a,b,vs,h1,h2,h3,h4,by rw[Au h5,bo];exact q⟩
  |cons _ _=>cases z
 .cases e
def c_neE:Z8 i .neE<|FR i.K fy:=by
 k_get;let⟨xs,ys,a,b,vs,us,e,h1,h2,h3,h4,h5,h6⟩:=NV g rx ry e;split at e
 .rename_i z;cases e;cases h6 with
  |nil=>exact⟨a,b,vs,h1,h2,h3,h4,by rw[Au h5,bQ];exact q⟩
  |cons _ _=>cases z
 .cases e
variable {i:Inf}
def _root_.L2.PJ.imp(h:PJ X vs t)(f:∀σ H Ķ Q,t' σ H Ķ Q->t σ H Ķ Q):PJ X vs t':=λÂ s σ H Ķ Q I q=>h Â s σ H Ķ Q I (f σ H Ķ Q q)
def Jf(g:RH i G H)(hp:H p=fx):RH i G<|upd H p o:=g.hid (f9.new hp) λb u e=>fA (by rintro rfl;rw[g.free hp]at e;cases e)
abbrev tE0(i:Inf)(Φ:O.Fs)(m:O.E):TE:=λσ H Q=>∃env G Qm,REn i.K H env σ/\RH i G H/\O.wE Φ m env G Qm (λ_ _=>False)/\Cn i H Q Qm
abbrev tT0(i:Inf)(Φ:O.Fs)(m:O.Tt):TT:=λσ H Q=>∃env G Qm,REn i.K H env σ/\RH i G H/\O.wT Φ m env G Qm (λ_ _=>False)/\∀b G' H',f9 H H'->RH i G' H'->Qm b G'->Q b H'
def UH:XOk X i H λ_ _=>False:=λÂ σ H0 s H' a cls s' I f ⟨_,_,_,_,_,_,_,z⟩=>z.elim
variable {e:Expr}
def pe0(h:PE X e<|tE X i Φ m):PE X e<|tE0 i Φ m:=h.imp λσ H Q ⟨env,G,Qm,r,g,w,c⟩=>⟨env,G,Qm,_,⟨r,g,UH⟩,w,c⟩
def pt0(h:PT X e<|tTt X i Φ m):PT X e<|tT0 i Φ m:=h.imp λσ H Q ⟨env,G,Qm,r,g,w,c⟩=>⟨env,G,Qm,_,⟨r,g,UH⟩,w,c⟩
def _root_.L2.PIfs.imp(h:PIfs X es t)(f:∀σ H Q,t' σ H Q->t σ H Q):PIfs X es t':=λÂ s σ H Q I q=>h Â s σ H Q I (f σ H Q q)
def P2:PIfs X []<|tT0 i Φ .yes:=pifs_nil.imp λσ H Q ⟨env,G,Qm,r,g,w,c⟩=>by exact c fy G H (f9.refl H) g w
def Hw{K:Frag}(r:REn K H env σ)(kp:f9 H H'):REn K H' (Þ k fx++þ.map λj=>(env[j]?).getD fx)<|Þ k fx++Ub σ þ:=by
 refine⟨by simp[Ub],λn u e=>?_⟩;by_cases hn:n<k
 .rw[Ċ (by rw[û];exact hn),Ő,hX hn]at e;cases e
 .rw[ē (by rw[û];lia),û]at e ⊢;generalize n - k=n at e ⊢;simp![Ú]at e;cases z:þ[n]? with
  |none=>rw[z]at e;cases e
  |some j =>
   rw[z]at e;simp![ř,Ĭ]at e;cases z2:env[j]? with
   |none=>rw[z2]at e;cases e
   |some o =>rw[z2]at e;have e:o=fw u:=e;subst e;let⟨y,h1,h2⟩:=r.get j u z2;exact⟨y,by unfold Ub;rw[Ú,z];show fw ((σ[j]?).getD fx)=_;rw[h1];rfl,h2.keep kp⟩
abbrev Bx(k:Nat):O.Pt->Bool
 |.one j=>ik (j<k)
 |.many js=>js.all λj=>ik (j<k)
 |.nest _ _=>fz
def KY:∀{js:List Nat}{vs:List O.Val}{l ŝ:O.Env},(js.all λj=>ik (j<l.length))=fy->O.bindL js vs (l++r)=fw ŝ->∃l',ŝ=l'++r/\l'.length=l.length
 |[],[],l,_,_,e=>by cases e;exact⟨l,rfl,rfl⟩
 |j::js,v::vs,l,_,h,e=>by rw[List.all_cons,bAq,ii]at h;have e:O.bindL js vs ((l++r).set j<|fw v)=_:=e;rw[dm _ _ h.1]at e;let⟨l',h1,h2⟩:=KY (l:=l.set j<|fw v) (by rw[ϙ];exact h.2) e;exact⟨l',h1,by rw[h2,ϙ]⟩
 |[],_::_,_,_,_,h=>by cases h
 |_::_,[],_,_,_,h=>by cases h
variable {r:O.Env}
def D5(h:Bx l.length p=fy)(e:O.bind p G v (l++r)=fw ŝ):∃l',ŝ=l'++r/\l'.length=l.length:=by
 cases p with
 |one j =>have e:fw ((l++r).set j<|fw v)=fw ŝ:=e;cases e;exact⟨l.set j<|fw v,by rw[dm _ _<|of_decide_eq_true h],ϙ⟩
 |many js =>
  cases v with
  |tup vs=>exact KY h e
  |_=>cases e
 |nest j js=>cases h
def REn.pre{K:Frag}(q:REn K H (l++r) τ):REn K H (Þ l.length fx++r) τ:=by
 refine⟨by rw[<-q.len];simp,λn u e=>?_⟩;by_cases hn:n<l.length
 .rw[Ċ (by rw[û];exact hn),Ő,hX hn]at e;cases e
 .rw[ē (by rw[û];lia),û]at e;exact q.get n u (by rw[ē<|by lia];exact e)
def U9(hk:Bx k pt=fy){mt:O.Tt}:∀σ H Q,tE X i Φ (.comp þ k pt mi mt me) σ H Q->Cr (tIt X i Φ mi) k þ (gPt i pt) (tT0 i Φ mt) (tE0 i Φ me) σ H Q:=λσ H Q ⟨env,G,Qm,Em,p,w,c⟩=>by
 refine⟨env,G,_,Em,p,w,λst xs G1 H1 J k1 g1 it w1=>?_⟩;let⟨hl,w1⟩:=w1;generalize hstep:(λ(v:O.Val) (h2:O.Hs) (K:Option O.Val->O.Hs->Prop) (X2:O.XQ)=>O.go (O.bind pt h2 v<|Þ k fx++þ.map λj=>(env[j]?).getD fx) λŝ =>
       O.wT Φ mt ŝ h2 (λk h3=>if k=fy then O.wE Φ me ŝ h3 (λu h4=>K (fw u) h4) X2 else K fx h3) X2)=step at w1
 refine⟨λn m ys τ H'=>n+m=xs.length/\ys.length<=n/\REn i.K H' (Þ k fx++þ.map λj=>(env[j]?).getD fx) τ/\∃Ķ G',f9 H1 H'/\RH i G' H'/\RVs i.K H' Ķ ys/\O.wComp st step (xs.drop n) Ķ G' (λys h5=>O.new h5 (.lst ys) Qm) (λ_ _=>False),⟨xs.length,by lia,by simp,Hw p.en k1,[],G1,f9.refl _,g1,.nil,⇑w1⟩,?_⟩;rintro n m ys τ H' ⟨hnm,hly,en2,Ķ,G',k2,g2,r2,w2⟩;refine⟨ê (Ù (Û hly<|by lia) hl) Ym,?_⟩;by_cases hn:n<xs.length
 .right;have hd:xs.drop n=xs[n]::xs.drop (n+1):=Ρ hn;rw[hd]at w2;let⟨s2,w2⟩:=w2;have hv:xs[n]?=fw xs[n]:=Ê hn;let⟨a1,a2⟩:=it.go n G' H' xs[n] k2 g2 s2 hv;refine⟨a1,λys3 τ3 H3=>ys3.length<=n+1/\REn i.K H3 (Þ k fx++þ.map λj=>(env[j]?).getD fx) τ3/\∃acc3 G3,f9 H1 H3/\RH i G3 H3/\RVs i.K H3 acc3 ys3/\O.wComp st step (xs.drop<|n+1) acc3 G3 (λys h5=>O.new h5 (.lst ys) Qm) (λ_ _=>False),λys3 τ3 H3 h=>⟨m - 1,by lia,by lia,h.1,h.2⟩,λx H3 hy=>?_⟩;let⟨k3,g3,r3⟩:=a2 x H3 hy;rw[<-hstep]at w2;let⟨di,e4,w4⟩:=fG w2;rw[hstep]at w4;let⟨l',e5,h5⟩:=D5 (l:=Þ k fx) (by rw[û];exact hk) e4;rw[û]at h5;refine⟨xs[n],_,G',di,r3,g3,en2.keep k3,e4,λτ4 en4=>?_⟩;have aP:REn i.K H3 (Þ k fx++þ.map λj=>(env[j]?).getD fx) τ4:=by
   rw[e5]at en4;have:=en4.pre;rw[h5]at this;exact this
  refine⟨_,G',_,en4,g3,w4,λd G5 H5 k5 g5 q5=>?_⟩;have kk:=(k2.trans k3).trans k5;cases d with
  |true =>refine⟨_,G5,_,en4.keep k5,g5,⇑q5,λu G6 H6 y k6 g6 r6 q6=>?_⟩;exact⟨⇑hly,(aP.keep k5).keep k6,_,G6,kk.trans k6,g6,((((r2.keep k3).keep k5).keep k6).append<|.cons r6 .nil),q6⟩
  |false =>rw[hZ Ă]at q5;change if fz=fy then _ else _;rw[hZ Ă];have q5:O.wComp st step (xs.drop<|n+1) (Ķ++[]) G5 (λys h5=>O.new h5 (.lst ys) Qm) λ_ _=>False:=q5;rw[ï]at q5;exact⟨by lia,aP.keep k5,Ķ,G5,kk,g5,(r2.keep k3).keep k5,q5⟩
 .left;have hd:xs.drop n=[]:=Ś ↥0;rw[hd]at w2;refine⟨it.stop n G' H' k2 g2 w2.1 ↥0,?_⟩;exact Yg g2 w2.2 ((c.go k1).go k2) λq hq=>⟨_,fB,r2.keep<|f9.new hq⟩
abbrev O0(i:Inf)(m:O.Bm)(r:V->List V->Hp->VK->Prop):Prop:=∀(v:O.Val) (vs:List O.Val) (G:O.Hs) (H:Hp) (x:V) (xs:List V) (t:O.Val×O.Hs) (Q:VK) (Qm:O.Q1),
 RH i G H->RV i.K H v x->RVs i.K H vs xs->O.bmV G m v vs=fw t->Qm t.1 t.2->Cn i H Q Qm->r x xs H Q
abbrev L1(i:Inf)(m:O.Bm)(T:String):Prop:=∀(v:O.Val) (G:O.Hs) (H:Hp) (x:V),RH i G H->RV i.K H v x->O.bmTy G m v=fy->tyV i.K T x H
variable {m:O.Bm}
def Bp{o e:Expr}{es:List Expr}{name:Str}{Ŕ ŧ:Pos}{T id:String}{r:V->List V->Hp->VK->Prop}{mo:O.E}{ms:O.Es}{n:Nat}(hK:X.K=i.K)(pa:PlainAttrs T)(slot:Slot T name id)(hty:typeOf (.builtin id)=pure (.type "method_descriptor"))(mt:MtR X id r)(hT:L1 i m T)(hr:O0 i m r)
  (ho:PE X o<|tE X i Φ mo) (ha:PA X (e::es)<|tAr X i Φ ms n) (aL:ħ o name X.env (eval o X.env)=eval o X.env)
  (au:((Ĥ ŧ<|Ý (e::es) X.env).all (λx=>!x.1)&&(μ ŧ<|Ō [] X.env).all (λx=>x.1.isSome)&&ik ((e::es).length+([]:List bb).length+(if([]:List bb).isEmpty then 0 else 1)<30))=fy)
  (aM:(Ŕ.endLine==ŧ.line)=fy) (hs:Ý (e::es) X.env=(fz,eval e X.env)::Ý es X.env) (cZ:(Ĥ ŧ<|Ý es X.env).any (·.1)=fz) :
  PE X (.Call (.Attribute o name Ŕ) (e::es) [] ŧ) (tE X i Φ<|.bm m mo ms) :=
 (Ru pa slot hty mt ho ha aL au aM hs cZ).imp λσ H Q ⟨env,G,Qm,Em,p,w,c⟩=>by
  refine one p w λv G1 H1 x k1 p1 rv q=>⟨by rw[hK];exact hT v G1 H1 x p1.hp rv q.1,env,G1,_,Em,p1,q.2,λvs G2 H2 xs k2 g2 r2 _ w2=>?_⟩
  let⟨t,e,w3⟩:=fG w2;exact hr v vs G2 H2 x xs t Q Qm g2 (rv.keep k2) r2 e w3<|(c.go k1).go k2
def OT(h:O.isDct o=fy):(∃xs,o=fw (.dct xs))\/∃xs,o=fw (.dtp xs):=by
 cases o with
 |none=>cases h
 |some o=>cases o with
  |dct xs=>exact .inl ⟨xs,rfl⟩
  |dtp xs=>exact .inr ⟨xs,rfl⟩
  |_=>cases h
def QZ(hm:m.ty=.l):L1 i m "list":=λv G H x g r h=>by
 unfold O.bmTy at h;rw[hm]at h;cases v with
 |ref a =>cases r.ref_inv;let⟨xs,e⟩:=Ut (show O.isLst (G a)=fy from h);let⟨vs,h1,_⟩:=g a _ e;exact .inl ⟨rfl,vs,gT.of h1⟩
 |_=>cases h
def F3(hm:m.ty=.d):L1 i m "dict":=λv G H x g r h=>by
 unfold O.bmTy at h;rw[hm]at h;cases v with
 |ref a =>
  cases r.ref_inv;rcases OT (show O.isDct (G a)=fy from h)with⟨xs,e⟩|⟨xs,e⟩
  .obtain⟨vs,h1,_⟩:=g a _ e;exact .inr<|.inr<|.inl ⟨rfl,.inl ⟨vs,h1⟩⟩
  .obtain⟨vs,h1,_⟩:=g a _ e;exact .inr<|.inr<|.inl ⟨rfl,.inr ⟨vs,h1⟩⟩
 |_=>cases h
def Ah(e:O.bmL G v f=fw t):∃a xs,v=.ref a/\G a=fw (.lst xs)/\f a xs=fw t:=by
 cases v with
 |ref a=>let⟨xs,h1,h2⟩:=Ej e;exact⟨a,xs,rfl,h1,h2⟩
 |_=>cases e
variable {α:Type}{a:α}
def Qs{f:O.Val->Option α}(e:(match vs with|[v]=>f v|_=>fx)=fw a):∃v,vs=[v]/\f v=fw a:=by
 cases vs with
 |nil=>cases e
 |cons v vs=>cases vs with
  |nil=>exact⟨v,rfl,e⟩
  |cons _ _=>cases e
def Qk:O0 i .append UR:=λv vs G H x xs t Q Qm g rx rs e q c=>by let⟨a,ys,rfl,e4,e3⟩:=Ah e;let⟨u,rfl,e3⟩:=Qs e3;let⟨hl,e3⟩:=Zm e3;cases e3;cases rx.ref_inv;let⟨y,rfl,ry⟩:=rs.inv1;let⟨us,h2,r2⟩:=g a _ e4;let⟨k3,g3⟩:=Nn (xs:=ys) g h2 (ys++[u]) (us++[y])<|r2.app1 ry;exact⟨a,us,y,rfl,rfl,h2,by rw[<-r2.length];exact ê hl Ym,c _ _ _ _ k3 g3 .non q⟩
def FE:O0 i .popAt Dy:=λv vs G H x xs t Q Qm g rx rs e q c=>by
 let⟨a,ys,rfl,e4,e3⟩:=Ah e;unfold O.bmPopAt at e3;split at e3
 .rename_i n;let⟨hn,e3⟩:=Zm e3;let⟨k,z,e3⟩:=ò.mp e3;let⟨yv,z2,rfl⟩:=Ë.mp e3;cases rx.ref_inv;let⟨y,rfl,ry⟩:=rs.inv1;cases ry.int_inv;let⟨us,h2,r2⟩:=g a _ e4;let⟨xv,hx,rv⟩:=r2.get z2;rw[MG,r2.length]at z;let⟨s1,s2,s3,s4⟩:=MU z;let⟨k3,g3⟩:=Nn (xs:=ys) g h2 (ys.eraseIdx k) (us.eraseIdx k)<|r2.eraseIdx k;exact⟨a,us,n,k,xv,rfl,rfl,h2,by lia,by lia,s1,hx,c _ _ _ _ k3 g3 (rv.keep k3) q⟩
 .cases e3
def W1(e:O.bmD G v f=fw t):∃a kvs,v=.ref a/\G a=fw (.dct kvs)/\f a kvs=fw t:=by
 cases v with
 |ref a =>
  let⟨kvs,h1,h2⟩:=ò.mp (show(O.gX<|G a).bind (f a)=fw t from e);refine⟨a,kvs,rfl,?_,h2⟩;cases z:G a with
  |none=>rw[z]at h1;cases h1
  |some o =>
   rw[z]at h1;cases o with
   |dct ys=>cases h1;rfl
   |_=>cases h1
 |_=>cases e
def LQ{f:O.Val->O.Val->Option α}(e:(match vs with|[v,u]=>f v u|_=>fx)=fw a):∃v u,vs=[v,u]/\f v u=fw a:=by
 cases vs with
 |nil=>cases e
 |cons v vs=>cases vs with
  |nil=>cases e
  |cons u us=>cases us with
   |nil=>exact⟨v,u,rfl,e⟩
   |cons _ _=>cases e
abbrev Dx:V->List V->Hp->VK->Prop:=λx vs H Q=>∃a y o,x=.ref a/\vs=[y]/\DGet H a y o/\Q (o.getD .non) H
def Ew(hu:X.A.units+1<Ğ):MtR X "dict.get" Dx:=by intro Â s σ H x vs v us Q I rx rv h;let⟨a,y,o,rfl,rfl,d,q⟩:=h;cases rx;let⟨u,rfl,ru⟩:=rv.one;exact PF hu I d ru λw' s' I' aK=>⟨_,_,I',aK,q⟩
abbrev Ep:V->List V->Hp->VK->Prop:=λx vs H Q=>∃a y z o,x=.ref a/\vs=[y,z]/\DGet H a y o/\Q (o.getD z) H
def E0(hu:X.A.units+1<Ğ):MtR X "dict.get" Ep:=by intro Â s σ H x vs v us Q I rx rv h;let⟨a,y,z,o,rfl,rfl,d,q⟩:=h;cases rx;let⟨u,t,rfl,ru,rt⟩:=rv.two;exact PH hu I d ru rt λw' s' I' aK=>⟨_,_,I',aK,q⟩
abbrev Ec:V->List V->Hp->VK->Prop:=λx vs H Q=>∃a kvs k v more,x=.ref a/\vs=kV k::more/\(more=[]\/∃z,more=[z])/\H a=fw (.dK kvs)/\Yt kvs k=fw v/\Q v (upd H a<|.dK<|gj kvs k)
def mt_dpop:MtR X "dict.pop" Ec:=by
 intro Â s σ H x vs v us Q I rx rv h;let⟨a,kvs,k,y,more,rfl,rfl,hm,hH,l,q⟩:=h;cases rx;rcases hm with rfl|⟨z,rfl⟩
 .obtain⟨u,rfl,ru⟩:=rv.one;exact Iu I hH ru l (.inl rfl) λw' s' I' aK=>⟨_,_,I',aK,q⟩
 .obtain⟨u,t,rfl,ru,rt⟩:=rv.two;exact Iu I hH ru l (.inr ⟨_,rfl⟩) λw' s' I' aK=>⟨_,_,I',aK,q⟩
abbrev E2:V->List V->Hp->VK->Prop:=λx vs H Q=>∃a kvs k z,x=.ref a/\vs=[kV k,z]/\H a=fw (.dK kvs)/\Yt kvs k=fx/\Q z H
def EY:MtR X "dict.pop" E2:=by intro Â s σ H x vs v us Q I rx rv h;let⟨a,kvs,k,z,rfl,rfl,hH,l,q⟩:=h;cases rx;let⟨u,t,rfl,ru,rt⟩:=rv.two;exact LU I hH ru l λs' I'=>⟨_,_,I',rt,q⟩
def Ph:O0 i .dget Dx:=λv vs G H x xs t Q Qm g rx rs e q c=>by
 let⟨a,kvs,rfl,e4,e3⟩:=W1 e;let⟨k,rfl,e3⟩:=Qs e3;let⟨hk,e3⟩:=Zm e3;cases e3;cases rx.ref_inv;let⟨y,rfl,ry⟩:=rs.inv1;let⟨ps,h2,r2⟩:=g a _ e4;let⟨d,kr,rfl⟩:=fS hk ry;refine⟨a,_,_,rfl,rfl,DGet.k (k:=d) h2,?_⟩;let⟨l1,l2⟩:=r2.look kr;cases z:O.gf kvs k with
 |none=>rw[l2 z];rw[z]at q;exact c _ _ _ _ (f9.refl H) g .non q
 |some u=>let⟨x,hx,rv⟩:=l1 u z;rw[hx];rw[z]at q;exact c _ _ _ _ (f9.refl H) g rv q
variable {kvs:List (O.Val×O.Val)}
def A3(e:O.dpAt G v=fw kvs):∃a,v=.ref a/\G a=fw (.dtp kvs):=by
 cases v with
 |ref a =>
  refine⟨a,rfl,?_⟩
  replace e:(match G a with|some (.dtp kvs)=>fw kvs|_=>fx)=fw kvs:=e
  cases z:G a with
  |none=>rw[z]at e;cases e
  |some o=>rw[z]at e;cases o<;>first|(cases e;rfl)|cases e
 |_=>cases e
def Hf:O0 i .dgetD Ep:=λv vs G H x xs t Q Qm g rx rs e q c=>by
 replace e:(match O.dpAt G v with|some kvs=>O.bmGetT G vs kvs|none=>O.bmD G v<|O.bmGetD G vs)=fw t:=e
 cases zz:O.dpAt G v with
 |some kvs =>
  rw[zz]at e;let⟨a,rfl,e4⟩:=A3 zz;have e:O.bmGetT G vs kvs=fw t:=e;let⟨k,dv,rfl,e3⟩:=LQ e;let⟨hk,e3⟩:=Zm e3;cases e3;cases rx.ref_inv;let⟨y,z,rfl,ry,rz⟩:=rs.inv2;let⟨ps,h2,r2⟩:=g a _ e4;let⟨k1,k2,d,rfl,rfl,hd⟩:=Wt hk ry;refine⟨a,_,_,_,rfl,rfl,DGet.t h2 hd,?_⟩;let⟨l1,l2⟩:=r2.look (i:=k1) (j:=k2);cases z:O.gf kvs (.key k1 k2)with
  |none=>rw[l2 z];rw[z]at q;exact c _ _ _ _ (f9.refl H) g rz q
  |some u=>let⟨x,hx,rv⟩:=l1 u z;rw[hx];rw[z]at q;exact c _ _ _ _ (f9.refl H) g rv q
 |none =>
 rw[zz]at e;let⟨a,kvs,rfl,e4,e3⟩:=W1 e;let⟨k,dv,rfl,e3⟩:=LQ e3;let⟨hk,e3⟩:=Zm e3;cases e3;cases rx.ref_inv;let⟨y,z,rfl,ry,rz⟩:=rs.inv2;let⟨ps,h2,r2⟩:=g a _ e4;let⟨d,kr,rfl⟩:=fS hk ry;refine⟨a,_,_,_,rfl,rfl,DGet.k (k:=d) h2,?_⟩;let⟨l1,l2⟩:=r2.look kr;cases z:O.gf kvs k with
 |none=>rw[l2 z];rw[z]at q;exact c _ _ _ _ (f9.refl H) g rz q
 |some u=>let⟨x,hx,rv⟩:=l1 u z;rw[hx];rw[z]at q;exact c _ _ _ _ (f9.refl H) g rv q
def Qj:O0 i .dpop Ec:=λv vs G H x xs t Q Qm g rx rs e q c=>by let⟨a,kvs,rfl,e4,e3⟩:=W1 e;let⟨k,rfl,e3⟩:=Qs e3;let⟨hk,e3⟩:=Zm e3;let⟨u,z,rfl⟩:=Ë.mp e3;cases rx.ref_inv;let⟨y,rfl,ry⟩:=rs.inv1;let⟨ps,h2,r2⟩:=g a _ e4;let⟨d,kr,rfl⟩:=fS hk ry;let⟨x,hx,rv⟩:=(r2.look kr).1 u z;let⟨k3,g3⟩:=M1 (kvs:=kvs) g h2<|r2.drop kr;exact⟨a,ps,d,x,[],rfl,rfl,.inl rfl,h2,hx,c _ _ _ _ k3 g3 (rv.keep k3) q⟩
def Um(h:O.gf kvs k=fx):O.gj kvs k=kvs:=by
 unfold O.gj;rw[ω];intro p hp;have h2:kvs.find? (λp=>p.1==k)=fx:=by unfold O.gf at h;exact Option.map_eq_none_iff.mp h
 simpa using List.find?_eq_none.mp h2 p hp
def FQ:O0 i .dpopD λx vs H Q=>Ec x vs H Q\/E2 x vs H Q:=λv vs G H x xs t Q Qm g rx rs e q c=>by
 let⟨a,kvs,rfl,e4,e3⟩:=W1 e;let⟨k,dv,rfl,e3⟩:=LQ e3;let⟨hk,e3⟩:=Zm e3;cases e3;cases rx.ref_inv;let⟨y,z,rfl,ry,rz⟩:=rs.inv2;let⟨ps,h2,r2⟩:=g a _ e4;let⟨d,kr,rfl⟩:=fS hk ry;let⟨l1,l2⟩:=r2.look kr;cases z:O.gf kvs k with
 |none =>
  refine .inr ⟨a,ps,d,_,rfl,rfl,h2,l2 z,?_⟩;rw[z,Um z]at q;have e:O.upd G a (.dct kvs)=G:=by
   funext b;by_cases hb:b=a
   .subst hb;rw[O.fB,e4]
   .rw[O.fA hb]
  rw[e]at q;exact c _ _ _ _ (f9.refl H) g rz q
 |some u =>let⟨x,hx,rv⟩:=l1 u z;let⟨k3,g3⟩:=M1 (kvs:=kvs) g h2<|r2.drop kr;rw[z]at q;exact .inl ⟨a,ps,d,x,_,rfl,rfl,.inr ⟨_,rfl⟩,h2,hx,c _ _ _ _ k3 g3 (rv.keep k3) q⟩
def RFs.look{K:Frag}:∀{fs:List (String×O.Val)}{ps:List (Str×V)},RFs K H fs ps->
  (∀v,fs.lookup f=fw v->∃x,ps.lookup (im f)=fw x/\RV K H v x)/\(fs.lookup f=fx->ps.lookup (im f)=fx)
 |_,_,.nil=>⟨λv e=>(by cases e),λ_=>rfl⟩
 |_,_,.cons (f:=g) (v:=u) (x:=y) r t=>by
  have ih:=RFs.look (f:=f) t;rw[ñ,ñ];by_cases e:f=g
  .subst e;rw[beq_self_eq_true,beq_self_eq_true];exact⟨λv z=>(by cases z;exact⟨y,rfl,r⟩),λz=>(by cases z)⟩
  .rw[show(f==g)=fz by simpa using e,show(im f==im g)=fz by rw[beq_eq_false_iff_ne];exact λz=>e<|ofS_inj.mp z];exact ih
def RFs.put{K:Frag}(q:RV K H v x):∀{fs:List (String×O.Val)}{ps:List (Str×V)},RFs K H fs ps->RFs K H (O.fT fs f v) (L2.fT (im f) x ps)
 |_,_,.nil=>.cons q .nil
 |_,_,.cons (f:=g) (v:=u) (x:=y) r t=>by
  unfold O.fT L2.fT;by_cases e:g=f
  .subst e;rw[hX rfl,hX rfl];exact .cons q t
  .rw[hZ e,hZ λz=>e<|ofS_inj.mp z];exact .cons r<|RFs.put q t
def RFs.length{K:Frag}:∀{fs:List (String×O.Val)}{ps:List (Str×V)},RFs K H fs ps->fs.length=ps.length
 |_,_,.nil=>rfl
 |_,_,.cons _ t=>by rw[Î,Î,RFs.length t]
structure FldOk(i:Inf)(f:String):Prop where
 no:∀C c,i.cl C c->NoAttr i.K c (im f)
structure IC(K:Frag)(C:Ð):Prop where
 ha:PySem.W.findIn K (.ref C) "__class__" = fw (fw<|.builtin "object.__class__")
 hn:PySem.W.specialIn K (.builtin "object.__class__") "__get__" = fw (fw<|.builtin "getset_descriptor.__get__")
 htk:PySem.W.takesIn K (.builtin "object.__class__")=fw fy
 hm:PySem.W.mroIn K C (.type "object")=fw fy
structure ClsA(i:Inf):Prop where
 cls:∀C c,i.ins C=fy->i.cl C c->Cls i.K c
 ic:∀C c,i.cl C c->IC i.K c
 un:∀C a b,i.cl C a->i.cl C b->a=b
def JS(h:O.insOf o=fw p):o=fw (.ins p.1 p.2):=by
 cases o with
 |none=>cases h
 |some o=>cases o with
  |ins C fs=>cases h;rfl
  |_=>cases h
variable {f:String}
def Mf(h:O.gE G v f=fw u):∃a C fs,v=.ref a/\G a=fw (.ins C fs)/\fs.lookup f=fw u:=by let⟨a,h1,h⟩:=ò.mp h;let⟨p,h2,h3⟩:=ò.mp h;exact⟨a,p.1,p.2,Jz h1,JS h2,h3⟩
variable {o:Expr}{mo:O.E}{í:Pos}
def Sl(hK:X.K=i.K)(A:ClsA i)(F:FldOk i f)(ho:PE X o<|tE X i Φ mo)(hb:ħ o (im f) X.env (eval o X.env)=eval o X.env) :
  PE X (.Attribute o (im f) í) (tE X i Φ<|.fld mo f) :=
 (Pb ho hb).imp λσ H Q ⟨env,G,Qm,Em,p,w,c⟩=>by
  exact one p w λv G1 H1 x k1 p1 r q=>by let⟨u,e,q2⟩:=fG q;clear q;let⟨a,C,fs,rfl,e2,e3⟩:=Mf e;cases r.ref_inv;let⟨c',dx,ps,hi,hc,h1,rf⟩:=p1.hp a _ e2;let⟨y,l,ry⟩:=rf.look.1 u e3;exact⟨a,c',dx,ps,y,rfl,h1,by rw[hK];exact A.cls _ _ hi hc,by rw[hK];exact F.no _ _ hc,l,c _ _ _ _ k1 p1.hp ry q2⟩
variable {C:String}
def Ar{a:Ð}{c' dx:Ð}(g:RH i G H)(hi:i.ins C=fy)(hc:i.cl C c')(h:H a=fw (.ins c' dx ps2))(r:RFs i.K H fs ps) :
  f9 H (upd H a<|.ins c' dx ps)/\RH i (O.upd G a<|.ins C fs) (upd H a<|.ins c' dx ps):=by
 have k:f9 H<|upd H a<|.ins c' dx ps:=f9.put (λxs e=>by rw[h]at e;cases e) λp u e=>by rw[h]at e;cases e
 exact⟨k,g.put k ⟨c',dx,ps,hi,hc,fB,r.keep k⟩⟩
def Jl{o v:O.Val}(h:O.gF G o f v=fw G'):∃a C fs,o=.ref a/\G a=fw (.ins C fs)/\fs.length<900/\G'=O.upd G a (.ins C<|O.fT fs f v):=by
 cases o with
 |ref a =>
  unfold O.gF at h;dsimp only at h;split at h
  .rename_i C fs e;let⟨hl,h⟩:=Zm h;cases h;exact⟨a,C,fs,rfl,e,hl,rfl⟩
  .cases h
 |_=>cases h
variable {e:Expr}
def A1{m:O.E}{bG:Pos}(hK:X.K=i.K)(A:ClsA i)(F:FldOk i f)(ho:PE X o<|tE X i Φ mo)(he:PE X e<|tE X i Φ m)(hs:η e (fw<|.Attribute o (im f) bG) í.line X.env=pure fz) :
  PS X (.Assign [.Attribute o (im f) bG] e í) (tSt X i Φ<|.setFld mo f m) :=
 (LB ho he hs).imp λD σ H ⟨env,G,N,R,B,C,Xe,p,w,c⟩=>by refine one p.pre w λv G1 H1 x k1 p1 r q=>?_;refine one p1 q λu G2 H2 y k2 p2 ry q=>?_;let⟨G3,e3,q2⟩:=fG q;clear q;let⟨a,D',fs,rfl,e2,hl,rfl⟩:=Jl e3;cases ry.ref_inv;let⟨c',dx,ps,hi,hc,h1,rf⟩:=p2.hp a _ e2;let⟨k3,g3⟩:=Ar p2.hp hi hc h1<|rf.put (f:=f)<|r.keep k2;refine⟨a,c',dx,ps,rfl,h1,by rw[hK];exact A.cls _ _ hi hc,by rw[hK];exact F.no _ _ hc,by rw[<-rf.length];lia,?_⟩;have k:=(k1.trans k2).trans k3;exact c.nx _ _ _ _ k g3 (p.en.keep k) q2
def NZ{op:O.Bop}{x y z:O.Val}(h:O.augV op x y=fw z):∃a b,x=.int a/\y=.int b/\((op=.add/\z=.int (a+b))\/(op=.sub/\z=.int (a - b))):=by
 unfold O.augV at h;split at h
 .cases h;exact⟨_,_,rfl,rfl,.inl ⟨rfl,rfl⟩⟩
 .cases h;exact⟨_,_,rfl,rfl,.inr ⟨rfl,rfl⟩⟩
 .cases h
abbrev rAS(op:O.Bop):V->V->Hp->VK->Prop:=λx y H Q=>∃a b,x=.int a/\y=.int b/\((op=.add/\Q (.int<|a+b) H)\/(op=.sub/\Q (.int<|a - b) H))
def BW(hK:X.K=i.K)(A:ClsA i)(F:FldOk i f)(hop:C5 X op<|rAS bop)(ho:PE X o<|tE X i Φ mo) :
  PS X (.AugAssign (.Attribute o (im f) cW) op (.Constant (.int n) k ŧ) í) (tSt X i Φ<|.augFld mo f bop n) :=
 (BO ho OV hop).imp λD σ H ⟨env,G,N,R,B,C,Xe,p,w,c⟩=>by
  refine one p.pre w λv G1 H1 x k1 p1 r q=>?_;let⟨u,e1,q2⟩:=fG q;clear q;let⟨a,C',fs,rfl,e2,e3⟩:=Mf e1;cases r.ref_inv;let⟨c',dx,ps,hi,hc,h1,rf⟩:=p1.hp a _ e2;let⟨y,l,ry⟩:=rf.look.1 u e3;refine⟨a,c',dx,ps,y,rfl,h1,by rw[hK];exact A.cls _ _ hi hc,by rw[hK];exact F.no _ _ hc,l,?_⟩;let⟨z,e4,q3⟩:=fG q2;clear q2;let⟨G3,e5,q4⟩:=fG q3;clear q3;let⟨n1,n2,rfl,e0,hz⟩:=NZ e4;cases e0;cases ry.int_inv;let⟨a2,C2,fs2,e6,e7,hl,rfl⟩:=Jl e5;cases e6;rw[e2]at e7;cases e7;have fin:∀n:Int,z=.int n->∃dx' fs',H1 a=fw (.ins c' dx' fs')/\fs'.length<1000/\D.nx σ (upd H1 a<|.ins c' dx'<|L2.fT (im f) (.int n) fs'):=λn hn=>by subst hn;let⟨k3,g3⟩:=Ar p1.hp hi hc h1<|rf.put (f:=f) (x:=.int n)<|.int n;refine⟨dx,ps,h1,by rw[<-rf.length];lia,?_⟩;exact c.nx _ _ _ _ (k1.trans k3) g3 (p.en.keep<|k1.trans k3) q4
  rcases hz with⟨e,hz⟩|⟨e,hz⟩
  .exact⟨n1,n,rfl,rfl,.inl ⟨e,fin _ hz⟩⟩
  .exact⟨n1,n,rfl,rfl,.inr ⟨e,fin _ hz⟩⟩
abbrev Dfm(pr:è)(w:ÿ)(mg:Str->Option Ã)(base:Č)(i:Inf)(P:O.Pg)(n:Nat)(f:String)(fa:Ð):Prop :=
 ∃fd ps,gp pr w i.K mg base (CX1 pr w) (2*n) fa fd ps (spF i P n f)/\Binds i.K fd ps []
variable {n:Nat}{ms:O.Es}{p:Pos}
def Lo{k:Nat}{Cn:String}{C f:Ð}(hK:X.K=i.K)(hi:i.ins Cn=fy)(hc:i.cl Cn C)(M:Mk i.K C f)(D:Dfm X.prog X.w X.mg X.base i P n (Cn ++ ".__init__") f)(hr:gm (2*n+1) X.A)(hg:Gl X<|im Cn)(hm:X.mg (im Cn)=fw (.ref C))(cY:(im Cn==("__debug__" : Str))=fz)(ha:PA X (e::es)<|tAr X i (O.wF P n) ms k)(he:Ý (e::es) X.env=(fz,eval e X.env)::Ý es X.env)(hpl:(Ĥ í<|Ý es X.env).any (·.1)=fz) :
  PE X (.Call (.Name (im Cn) p) (e::es) [] í) (tE X i (O.wF P n)<|.make Cn ms):=by
 let⟨fd,ps,F,hb⟩:=D;rw[<-hK]at F hb M;k_sub;let⟨env,G,Qm,Em,pr,w,c⟩:=h;refine HY (E:=XK1 i H Em) M F hr hg hm hb .nil (XW.passes pr.xo) ha cY he hpl Â s σ H Q I ⟨env,G,_,Em,pr,w,λvs G1 H1 xs k1 g1 r1 hl w1 x dx hx hd ſ=>?_⟩;have ka:f9 H1<|upd H1 dx<|.own x:=f9.new hd;have hx2:upd H1 dx (.own x) x=fx:=by rw[fA λz=>ſ z.symm];exact hx
 have kb:f9 (upd H1 dx<|.own x)<|upd (upd H1 dx<|.own x) x<|.ins C dx []:=f9.new hx2;have g2:RH i G1<|upd H1 dx<|.own x:=Jf g1 hd;have g3:RH i (O.upd G1 x<|.ins Cn [])<|upd (upd H1 dx<|.own x) x<|.ins C dx []:=g2.put kb ⟨C,dx,[],hi,hc,fB,.nil⟩;have k:=ka.trans kb;refine⟨.ref x::vs,_,_,Em,.cons (.ref x) (by rw[ï];exact r1.keep k),g3,w1 x<|g1.free hx,?_,λcls d H' h=>(h.go k).go k1⟩;intro v G' H' y k' g' rv ⟨hv,hq⟩;subst hv;exact⟨rv.non_inv,c _ G' H' _ ((k1.trans k).trans k') g' (.ref x) hq⟩
variable {m:String}
def KS(h:O.clsV G v m=fw C):∃a fs,v=.ref a/\G a=fw (.ins C fs)/\fs.lookup m=fx:=by
 let⟨a,h1,h⟩:=ò.mp h;let⟨p,h2,h3⟩:=ò.mp h;have e:=JS h2;by_cases z:(p.2.lookup m).isNone=fy
 .rw[hX z]at h3;cases h3;exact⟨a,p.2,Jz h1,e,bc.mp z⟩
 .rw[hZ z]at h3;cases h3
variable {Ŕ:Pos}
def Pp{k:Nat}{Cn:String}{C f:Ð}(hK:X.K=i.K)(hfn:∀c,i.cl Cn c->c=C)(A:Cls i.K C)(M:Meth i.K C (im m) f)(D:Dfm X.prog X.w X.mg X.base i P n (Cn ++ "." ++ m) f)(hr:gm (2*n) X.A)(ho:PE X o<|tE X i (O.wF P n) mo)(ha:PA X (e::es)<|tAr X i (O.wF P n) ms k)(he:Ý (e::es) X.env=(fz,eval e X.env)::Ý es X.env)(hpl:(Ĥ í<|Ý es X.env).any (·.1)=fz)(ht:eval (.Call (.Attribute o (im m) Ŕ) (e::es) [] í) X.env=(do
    let ov<-eval o X.env
    ϐ Ŕ.atName
    let (f,first)<-ŕ [ov] (Ϟ ov (im m) pl)
    cD í f first (Ĥ í<|Ý (e::es) X.env) (μ í<|Ō [] X.env))) :
  PE X (.Call (.Attribute o (im m) Ŕ) (e::es) [] í) (tE X i (O.wF P n)<|.meth Cn m mo ms):=by
 let⟨fd,ps,F,hb⟩:=D;rw[<-hK]at F hb M A;k_sub;let⟨env,G,Qm,Em,pr,w,c⟩:=h;refine Fc (E:=XK1 i H Em) ho A M F hr hb .nil (XW.passes pr.xo) ha he hpl ht Â s σ H Q I<|one pr w λv G1 H1 x k1 p1 rv q=>?_;let⟨hq,w1⟩:=q;let⟨a,fs,rfl,e2,e3⟩:=KS hq;cases rv.ref_inv;let⟨c',dx,dg,hi,hc,h1,rf⟩:=p1.hp a _ e2;cases hfn c' hc;refine⟨a,dx,dg,rfl,h1,rf.look.2 e3,env,G1,_,Em,p1,w1,λvs G2 H2 xs k2 g2 r2 hl w2=>?_⟩;exact⟨.ref a::vs,G2,Qm,Em,.cons (.ref a) (by rw[ï];exact r2),g2,w2,(c.go k1).go k2,λcls d H' h=>(h.go k2).go k1⟩
def Hc{Cn:String}{C f:Ð}(hK:X.K=i.K)(hfn:∀c,i.cl Cn c->c=C)(A:Cls i.K C)(M:Meth i.K C (im m) f)(D:Dfm X.prog X.w X.mg X.base i P n (Cn ++ "." ++ m) f)(hr:gm (2*n) X.A)(ho:PE X o<|tE X i (O.wF P n) mo)(ht:eval (.Call (.Attribute o (im m) Ŕ) [] [] í) X.env=(do
    let ov<-eval o X.env
    ϐ Ŕ.atName
    let (f,first)<-ŕ [ov] (Ϟ ov (im m) pl)
    cD í f first (Ĥ í<|Ý [] X.env) (μ í<|Ō [] X.env))) :
  PE X (.Call (.Attribute o (im m) Ŕ) [] [] í) (tE X i (O.wF P n)<|.meth Cn m mo .nil):=by
 let⟨fd,ps,F,hb⟩:=D;rw[<-hK]at F hb M A;k_sub;let⟨env,G,Qm,Em,pr,w,c⟩:=h;refine DI (E:=XK1 i H Em) ho A M F hr hb .nil (XW.passes pr.xo) ht Â s σ H Q I<|one pr w λv G1 H1 x k1 p1 rv q=>?_;let⟨hq,w1⟩:=q;let⟨a,fs,rfl,e2,e3⟩:=KS hq;cases rv.ref_inv;let⟨c',dx,dg,hi,hc,h1,rf⟩:=p1.hp a _ e2;cases hfn c' hc;refine⟨a,dx,dg,rfl,h1,rf.look.2 e3,?_⟩;exact⟨[.ref a],G1,Qm,Em,.cons (.ref a) .nil,p1.hp,w1,c.go k1,λcls d H' h=>h.go k1⟩
def HE(hK:X.K=i.K)(D:Dfo X.prog X.w X.mg X.base i P n f)(hr:gm (2*n) X.A)(hg:Gl X<|im f)(cY:(im f==("__debug__" : Str))=fz) :
  PE X (.Call (.Name (im f) p) [] [] í) (tE X i (O.wF P n)<|.call f .nil):=by
 let⟨fa,fd,ps,F,hm,hk,hb⟩:=D;rw[<-hK]at F hk hb;k_sub;let⟨env,G,Qm,Em,pr,w,c⟩:=h;refine CZ (E:=XK1 i H Em) F hr hg hm hk hb .nil (XW.passes pr.xo) cY Â s σ H Q I ?_;exact⟨[],G,Qm,Em,.nil,pr.hp,w,c,λcls d H' h=>h⟩
abbrev Oy(X:Cx)(i:Inf)(Φ:O.Fs):O.Es->List (TE×TE)
 |.cons k (.cons v r)=>(tE X i Φ k,tE X i Φ v)::Oy X i Φ r
 |_=>[]
abbrev JG:O.Es->Bool
 |.nil=>fy
 |.cons _ .nil=>fz
 |.cons _ (.cons _ r)=>JG r
abbrev esL:O.Es->Nat
 |.nil=>0
 |.cons _ es=>esL es+1
abbrev UT:List V->List (V×V)
 |x::y::r=>(x,y)::UT r
 |_=>[]
def Nx:∀(es:O.Es),JG es=fy->∀{σ:St}{H:Hp}{env:O.Env}{G:O.Hs}{Qm:List O.Val->O.Hs->Prop}{Em:O.XQ}{Q:List (V×V)->Hp->Prop},Pre X i σ H env G Em->O.wA Φ es env G Qm Em->
  (∀vs G' H' xs,f9 H H'->RH i G' H'->RVs i.K H' vs xs->xs.length=esL es->Qm vs G'->Q (UT xs) H')->Mu (Oy X i Φ es) σ H Q
 |.nil,_,σ,H,env,G,Qm,Em,Q,p,w,c=>by rw[O.q_a_nil]at w;exact c [] G H [] (f9.refl H) p.hp .nil rfl w
 |.cons k .nil,h,_,_,_,_,_,_,_,_,_,_=>by cases h
 |.cons k (.cons v r),h,σ,H,env,G,Qm,Em,Q,p,w,c=>by rw[O.q_a_cons]at w;refine one p w λa G1 H1 x k1 p1 ra q=>?_;rw[O.q_a_cons]at q;refine one p1 q λb G2 H2 y k2 p2 rb q2=>?_;refine Nx r h p2 q2 λvs G' H' xs k3 g3 rv hl hq=>?_;exact c (a::b::vs) G' H' (x::y::xs) ((k1.trans k2).trans k3) g3 (.cons ((ra.keep k2).keep k3)<|.cons (rb.keep k3) rv) (by rw[Î,Î,hl];rfl) hq
def JK{K:Frag}:∀{vs:List O.Val}{xs:List V}{kvs:List (O.Val×O.Val)},RVs K H vs xs->O.pairUp vs=fw kvs->∃ps:List<|Key×V,UT xs=ps.map (λkv=>(kV kv.1,kv.2))/\RKs K H kvs ps/\2*ps.length=xs.length
 |[],_,_,r,e=>by cases r;cases e;exact⟨[],rfl,.nil,rfl⟩
 |[_],_,_,_,e=>by cases e
 |a::b::vs,_,kvs,r,e=>by
  cases r with
  |cons ra r=>cases r with
  |cons rb t =>
  rename_i y _;unfold O.pairUp at e;split at e
  .rename_i hk;let⟨ks,e2,rfl⟩:=Ë.mp e;let⟨ps,h1,h2,h3⟩:=JK t e2;let⟨c,hc,rfl⟩:=fS hk ra;refine⟨(c,y)::ps,?_,.cons hc rb h2,by rw[Î,Î,Î];lia⟩;show(kV c,y)::UT _=_;rw[h1];rfl
  .cases e
def RKs.merge{K:Frag}:∀{kvs:List (O.Val×O.Val)}{ps:List (Key×V)}{Ķ:List (O.Val×O.Val)}{bs:List (Key×V)},RKs K H Ķ bs->RKs K H kvs ps->RKs K H (O.putAll Ķ kvs) (Xf bs ps)
 |_,_,_,_,r,.nil=>r
 |_,_,Ķ,bs,r,.cons (k:=k) (v:=v) (c:=c) (x:=x) (kvs:=kvs) (ps:=ps) a q t=>by show RKs K H (O.putAll (O.gh Ķ k v) kvs) (Xf (L2.gh bs c x) ps);exact RKs.merge (RKs.put a q r) t
variable {í:Pos}
def Li:PE X (.Dict [] [] í) (tE X i Φ<|.dct .nil) :=
 pe_dnewK.imp λσ H Q ⟨env,G,Qm,Em,p,w,c⟩=>by rw[O.q_e_dct]at w;unfold O.new at w;intro a ha;have w1:=w a<|p.hp.free ha;let⟨a',e,w2⟩:=fG w1;cases e;rw[O.q_a_nil]at w2;let⟨ks,e2,_,w3⟩:=fG w2;cases e2;rw[O.fE]at w3;have k:=f9.new (o:=.dK []) ha;exact c _ _ _ _ k (p.hp.put (o:=.dct []) k ⟨[],fB,.nil⟩) (.ref a) w3
def QN{es:O.Es}(he:JG es=fy)(h30:esL es<=30)(h:PPs X í keys Ω<|Oy X i Φ es)(hall:keys.all (·.isSome)=fy)(hl:keys.length=Ω.length)(h0:keys≠[])(h15:keys.length<=15):PE X (.Dict keys Ω í) (tE X i Φ<|.dct es) :=
 (FM h hall hl h0 h15).imp λσ H Q ⟨env,G,Qm,Em,p,w,c⟩=>by
  rw[O.q_e_dct]at w;unfold O.new at w;intro a ha;have w1:=w a<|p.hp.free ha;let⟨a',e,w2⟩:=fG w1;cases e;have k:=f9.new (o:=.dK []) ha;have p2:Pre X i σ (upd H a<|.dK []) env (O.upd G a<|.dct []) Em:=p.go k<|p.hp.put (o:=.dct []) k ⟨[],fB,.nil⟩;refine Nx es he p2 w2 λvs G' H' xs k2 g2 rv hl w3=>?_;let⟨ks,e2,e3,w4⟩:=fG w3;let⟨ps,e4,r4⟩:=g2 a _ e3;cases r4;let⟨qs,h1,h2,h3⟩:=JK rv e2;refine⟨e4,qs,h1,by lia,?_⟩;have k3:f9 H'<|upd H' a<|.dK<|Xf [] qs:=f9.put (λxs e=>by rw[e4]at e;cases e) λp u e=>by rw[e4]at e;cases e
  exact c _ _ _ _ ((k.trans k2).trans k3) (g2.put (o:=.dct<|O.putAll [] ks) k3 ⟨_,fB,(RKs.merge .nil h2).keep k3⟩) (.ref a) w4
end Snd
namespace L2
open PySem PySem.Spec PyProof.Rows
section
variable {a:Ð}
def Inv.freeze(I:Inv X Â σ H s)(e:H a=fw (.dK ps))(ho:s.heap.get? a=fw o):Inv X Â σ (upd H a<|.frz o<|.dK ps) s:=by have h:=I.hok a _ e;exact I.write (t':=s.toks) (x:=a) (e:=a) (h':=s.heap) (by rw[e];exact True.intro) (.inl rfl) (λ_ _ _ q=>q) ⟨o,ho⟩ ⟨ho,h⟩
def Inv.thaw(I:Inv X Â σ H s)(e:H a=fw (.frz o<|.dK ps))(h0:∀o u,X.H₀ a≠fw (.frz o u)):Inv X Â σ (upd H a<|.dK ps) s:=by
 have hn:∀b,H b=fx->upd H a (.dK ps) b=fx:=λb z=>by rw[fA<|by rintro rfl;rw[e]at z;cases z];exact z
 have ho:=I.hok a _ e;refine⟨I.ok,I.os,I.bare,⟨I.base.keep,I.base.slot,λb ob q n hx=>hn b<|I.base.free b ob q n hx,I.base.there,λb xs q=>?_,λb ob u q=>?_,λb qs q=>?_⟩,I.loc,I.cell,hn _ I.free,λx c q=>hn _<|I.freeC x c q,λp hp=>?_,λb u q=>?_,I.len⟩
 .have z:=I.base.tups b xs q;rw[fA<|by rintro rfl;rw[e]at z;cases z];exact z
 .have z:=I.base.frzs b ob u q;rw[fA<|by rintro rfl;exact h0 _ _ q];exact z
 .obtain⟨m,z⟩:=I.base.tbls b qs q;exact⟨m,by rw[fA<|by rintro rfl;rw[e]at z;cases z];exact z⟩
 .obtain⟨q1,q2,q3,q4,q5⟩:=I.pin p hp;exact⟨q1,hn _ q2,q3,q4,q5⟩
 .by_cases hb:b=a
  .subst hb;rw[fB]at q;cases q;exact ho.2
  .rw[fA hb]at q;refine(I.hok b u q).stay (λ_ _ _ q=>q) (λc z=>?_) λc xs z=>?_
   .rw[fA<|by rintro rfl;rw[e]at z;cases z];exact z
   .rw[fA<|by rintro rfl;rw[e]at z;cases z];exact z
end
abbrev Ends.thaw(X:Cx)(D:Ends):Ends where
 nx:=λσ H=>∃a o ps,H a=fw (.frz o<|.dK ps)/\(∀o u,X.H₀ a≠fw (.frz o u))/\D.nx σ (upd H a<|.dK ps)
 rt:=λv H=>∃a o ps,H a=fw (.frz o<|.dK ps)/\(∀o u,X.H₀ a≠fw (.frz o u))/\D.rt v (upd H a<|.dK ps)
 bk:=D.bk
 ct:=D.ct
def HH{st:ł}(h:PS X st t):PS X st λD σ H=>t (D.thaw X) σ H:=λÂ s σ H D I q =>
 thn (h Â s σ H _ I q) λf s' z=>by
  cases f with
  |next =>let⟨Ű,H',I',a,o,ps,e,h0,q⟩:=z;exact⟨Ű,_,I'.thaw e h0,q⟩
  |ret u =>let⟨v,Ű,H',I',r,a,o,ps,e,h0,q⟩:=z;exact⟨v,Ű,_,I'.thaw e h0,r,q⟩
  |brk=>exact z
  |cont=>exact z
abbrev Iti(a:Ð)(o:Obj)(ps:List<|Key×V):It :=
 ⟨λi H=>H a=fw (.frz o<|.dK ps)/\i<ps.length,λi H v H'=>∃p k x,v=.ref p/\H p=fx/\ps[i]?=fw (k,x)/\H'=upd H p (.tup [kV k,x]),λi H=>H a=fw (.frz o<|.dK ps)/\ps.length<=i⟩
def El(h:J8 k u=fy):RelV (kV k) u:=by
 rcases Zp h with⟨i,t,rfl,rfl⟩|⟨x,t,rfl,rfl⟩
 .exact⟨t,rfl⟩
 .exact⟨t,rfl⟩
def KV.at:∀{ps:List (Key×V)}{vs:List (Key×Ã)}{i:Nat}{k:Key}{x:V},KV ps vs->ps[i]?=fw (k,x)->∃u,vs[i]?=fw (k,u)/\RelV x u:=by
 intro ps vs i k x r;unfold KV at r;induction r generalizing i with
 |nil=>intro h;simp at h
 |@cons p q ps qs h t ih =>
  intro e;cases i with
  |zero =>simp at e;subst e;let⟨q1,q2⟩:=q;let⟨h1,h2⟩:=h;have h1:k=q1:=h1;subst h1;exact⟨q2,rfl,h2⟩
  |succ i=>simpa using ih ⇑e
section
variable {H:Hp}{a:Ð}{o:Obj}{ep:Nat}
def Wr(I:Inv X Â σ H s)(e:H a=fw (.frz o<|.dK ps))(hd:o.data=.dict es ep):∃vs,KV ps vs/\s.heap.DictAt (Zf X.prog X.w) a vs ep:=by
 let⟨ho,_,_,vs,ų,o2,es2,ep2,h1,h2,h3,h4⟩:=(show fN X.prog X.w H s.heap a (.frz o<|.dK ps) from I.hok a _ e)
 rw[ho]at h1;cases h1;rw[hd]at h3;cases h3;exact⟨vs,ų,o,es,ho,h2,hd,h4⟩
end
variable {es:List Expr}{kk:Nat}{tp:Pos}{ds:Array DictEntry}{ep:Nat}{o:Obj}{ps:List (Key×V)}
def Uc{K:Frag}(a it:Ð)(hd:o.data=.dict ds ep) :
  Turn P w K (.Tuple es kk tp) (Iti a o ps) [it] it (λi h=>∃ok ov,IsItemIter h it a i ps.length ep ok ov) where
 mem:=by simp
 obj:=λi h st b hb=>by
  let⟨ok,ov,h1⟩:=st;have q:b=it:=⇑hb
  subst q;exact⟨_,h1,λv z=>by cases z⟩
 keep:=λi h h' ⟨ok,ov,h1⟩ k=>⟨ok,ov,k it (by simp) _ h1⟩
 item:=by
  k_upd;subst hP hw hK;let⟨e,hi⟩:=hg;let⟨ok,ov,h1⟩:=st;let⟨vs,ų,da⟩:=Wr I e hd;have hl:ps.length=vs.length:=ų.length;have hx:ps[i]?=fw ps[i]:=Ê hi;let⟨u,hu,ru⟩:=ų.at (k:=ps[i].1) (x:=ps[i].2) hx;rw[hl]at h1;refine wpAny_pyNext_items_item h1 da hu λkey h3 hk hout hT hsz hkeep=>?_;have hfi:=hf it (by simp);have hit:it<s.heap.objs.size:=Ü h1;have nT:s.heap.objs.size≠it:=Ū hit;have aV:=I.fpOk (H':=H) (Ì s.heap.objs.size) I.fresh;refine⟨.ref s.heap.objs.size,rfl,wpAny_letOwnedTupleGo_items (s:={s with heap:=h3}) hout λh4 he4 hs4=>?_⟩;have I4:Inv X Â σ H {s with heap:=h4,toks:=s.toks}:=I.turnedL (t':=s.toks) (ch:=[it]) (λb ob hb q=>hs4.extBut b ob (λz=>hb<|by simp[z])<|hkeep b ob (λz=>hb<|by simp[z]) q) hf;have hT4:h4.get? s.heap.objs.size=fw {cls:=.type "tuple",data:=.seq #[key,u]}:=hs4.extBut _ _ nT hT;let⟨f0,f1,f2,f3,f4,f5⟩:=aV;have I5:Inv X Â σ (upd H s.heap.objs.size<|.tup [kV ps[i].1,ps[i].2]) {s with heap:=h4,toks:=s.toks}:=I4.track f0 I.sz f1 f4 f5 ⟨by show 2<=à;decide,[key,u],.cons (El hk)<|.cons ru .nil,_,hT4,rfl,_,rfl⟩;refine⟨.ref s.heap.objs.size,_,I5,rfl,⟨s.heap.objs.size,_,_,rfl,f0,hx,rfl⟩,⟨key,u,by rw[hl];exact he4⟩,λb hb=>?_⟩;have q:b=it:=⇑hb
  subst q;rw[fA nT.symm];exact hfi.1
 done:=by
  k_upd;subst hP hw hK;let⟨e,hi⟩:=hg;let⟨ok,ov,h1⟩:=st;let⟨vs,ų,da⟩:=Wr I e hd;have hl:ps.length=vs.length:=ų.length;rw[hl]at h1 hi;refine wpAny_pyNext_items_end (I.ok.hd hc) h1 da (Ŀ hi) λh' he'=>⟨rfl,?_⟩
  exact I.turnedL (t':=s.toks) (ch:=[it]) (λb ob hb q=>he' b ob (λz=>hb<|by simp[z]) q) hf
 self:=λA i s Q E st h=>by let⟨ok,ov,h1⟩:=st;exact PySem.W.kcp_self h1 h
abbrev Itk(a:Ð)(o:Obj)(ps:List<|Key×V):It :=
 ⟨λi H=>H a=fw (.frz o<|.dK ps)/\i<ps.length,λi H v H'=>H'=H/\∃k x,ps[i]?=fw (k,x)/\v=kV k,λi H=>H a=fw (.frz o<|.dK ps)/\ps.length<=i⟩
variable {tg:Expr}
def BM{K:Frag}(a it:Ð)(hd:o.data=.dict ds ep) :
  Turn P w K tg (Itk a o ps) [it] it (λi h=>h.IsKeyIter it a i ps.length ep) where
 mem:=by simp
 obj:=λi h st b hb=>by
  let⟨ob,h1,_,h2⟩:=st;have q:b=it:=⇑hb
  subst q;exact⟨ob,h1,λv z=>by rw[h2]at z;cases z⟩
 keep:=λi h h' st k=>st.at λo e=>k it (by simp) o e
 item:=by k_upd;subst hP hw hK;let⟨e,hi⟩:=hg;let⟨vs,ų,da⟩:=Wr I e hd;have hl:ps.length=vs.length:=ų.length;have hx:ps[i]?=fw ps[i]:=Ê hi;let⟨u,hu,ru⟩:=ų.at (k:=ps[i].1) (x:=ps[i].2) hx;rw[hl]at st;refine wpAny_pyNext_dict_item st da hu λkey h3 hk st3 hs=>?_;have I3:Inv X Â σ H {s with heap:=h3,toks:=s.toks}:=I.turnedL (t':=s.toks) (ch:=[it]) (λb ob hb q=>hs.extBut b ob (λz=>hb<|by simp[z]) q) hf;let⟨ob,ho,aU,hda⟩:=id st3;refine⟨key,rfl,fH (s:={s with heap:=h3,toks:=s.toks}) ho aU hda ↥1 ⟨kV ps[i].1,H,I3,El hk,⟨rfl,_,_,hx,rfl⟩,?_,λb hb=>(hf b hb).1⟩⟩;show h3.IsKeyIter it a (i+1) ps.length ep;rw[hl];exact st3
 done:=by
  k_upd;subst hP hw hK;let⟨e,hi⟩:=hg;let⟨vs,ų,da⟩:=Wr I e hd;have hl:ps.length=vs.length:=ų.length;rw[hl]at st hi;refine wpAny_pyNext_dict_end (I.ok.hd hc) st da (Ŀ hi) λh' he'=>⟨rfl,?_⟩
  exact I.turnedL (t':=s.toks) (ch:=[it]) (λb ob hb q=>he' b ob (λz=>hb<|by simp[z]) q) hf
 self:=λA i s Q E st h=>wpAny_pyIter_keyiter st h
abbrev LJ(X:Cx)(J:Ð->Obj->List (Key×V)->It)(td:TE):TI:=λσ H R=>td σ H λx H1=>∃a ps,x=.ref a/\H1 a=fw (.dK ps)/\∀o,(∀o u,X.H₀ a≠fw (.frz o u))->R (J a o ps) (upd H1 a<|.frz o<|.dK ps)
variable {d:Expr}
def DQ(hd:PE X d td)(aL:ħ d "items" X.env (eval d X.env)=eval d X.env)(aM:(Ŕ.endLine==ŧ.line)=fy) :
  PI X (.Tuple es kk tp) (.Call (.Attribute d "items" Ŕ) [] [] ŧ) (LJ X Iti td):=by
 intro Â s σ H R I h;refine wpAny_Call_method0_late aL aM<|thn (hd Â s σ H _ I h) λv s1 ⟨x,H1,I1,r1,a,ps,ex,ea,q1⟩=>?_;subst ex;obtain rfl:v=Value.ref a:=r1;let⟨t1,t2,t3⟩:=PU I1<|.inl ⟨ps,.inl ea⟩;refine⟨"dict","dict.items",PySem.F.plainAttrs_dict,PySem.F.slot_dict_items,PySem.F.type_dict_items,t1,t2,Calls.callWith_builtin rfl<|PySem.evalArgs_none ?_⟩;let⟨z,hsm,vs,ų,dd⟩:=J9 I1.hok ea;refine ξ PySem.F.slot_dict_items dd.typeIs PySem.F.entry_dict_items (PySem.F.args_dict_items_1 _) (meets_dict_items (Zf X.prog X.w) a hsm) ⟨⟨vs,dd⟩,?_⟩;have I2:Inv X Â σ H1 {s1 with heap:=s1.heap.push {cls:=.type "dict_items",data:=.fields #[.ref a]}}:=I1.kept (t':=s1.toks) λb o e=>Ä _ e;let⟨z2,hsm2,vs2,rel2,dy⟩:=J9 I2.hok ea;let⟨ep,da⟩:=dy.dictAt;refine wpAny_pyIter_items (s:={s1 with heap:=s1.heap.push {cls:=.type "dict_items",data:=.fields #[.ref a]}}) (d:=a) ⟨_,Ø _ rfl,rfl,rfl⟩ da ?_;have I3:=I2.kept (t':=s1.toks) (h':=(s1.heap.push {cls:=.type "dict_items",data:=.fields #[.ref a]}).push {cls:=.type "dict_itemiterator",data:=.fields #[.none,.bool fz,.ref a,.int 0 0,.int vs2.length 0,.int ep 0,.none,.none]}) λb o e=>Ä _ e;let⟨ob,ds,ho,_,hdat,_⟩:=da;have I4:=I3.freeze ea<|Ä _ ho;refine⟨_,[_],_,_,_,rfl,I4,Uc a _ hdat,⟨.none,.none,?_⟩,λb hb=>?_,q1 ob λo u z=>by have:=I1.base.frzs a o u z;rw[ea]at this;cases this⟩
 .rw[rel2.length];exact Ø _ rfl
 .have e:b=(s1.heap.push {cls:=.type "dict_items",data:=.fields #[.ref a]}).objs.size:=⇑hb
  subst e;have hn:=I2.hok.fresh<|Ì (s1.heap.push {cls:=.type "dict_items",data:=.fields #[.ref a]}).objs.size;exact I2.fpOk (Ì _) (by rw[fA<|by intro z;rw[z]at hn;rw[ea]at hn;cases hn];exact hn)
def Ac(hd:PE X d td):PI X tg d<|LJ X Itk td:=by
 intro Â s σ H R I h;refine thn (hd Â s σ H _ I h) λv s1 ⟨x,H1,I1,r1,a,ps,ex,ea,q1⟩=>?_;subst ex;obtain rfl:v=Value.ref a:=r1;let⟨z,hsm,vs,ų,dd⟩:=J9 I1.hok ea;let⟨ep,da⟩:=dd.dictAt;refine wpAny_pyIter_dict hsm da ?_;have I2:=I1.kept (t':=s1.toks) (h':=s1.heap.push {cls:=.type "dict_keyiterator",data:=.fields #[.ref a,.int 0 0,.int vs.length 0,.int ep 0]}) λb o e=>Ä _ e;let⟨ob,ds,ho,_,hdat,_⟩:=da;have I3:=I2.freeze ea<|Ä _ ho;refine⟨_,[_],_,_,_,rfl,I3,BM a _ hdat,⟨_,Ø _ rfl,rfl,by rw[ų.length];rfl⟩,λb hb=>?_,q1 ob λo u z=>by have:=I1.base.frzs a o u z;rw[ea]at this;cases this⟩;have e:b=s1.heap.objs.size:=⇑hb
 subst e;have hn:=I1.hok.fresh<|Ì s1.heap.objs.size;exact I1.fpOk (Ì _) (by rw[fA<|by intro z;rw[z]at hn;rw[ea]at hn;cases hn];exact hn)
abbrev TupsH(I S:Ð)(items:Array Ã)(val:Nat->List Int)(h:Č):Prop:=∀i v,items[i]?=fw v->∃a ú,v=.ref a/\a≠I/\a≠S/\aW h a ú/\ā ú.toList (val i)
def TupsH.keep(t:TupsH I S items val h)(k:∀b o,b≠I->b≠S->h.get? b=fw o->h'.get? b=fw o):TupsH I S items val h':=λi v e=>by let⟨a,ú,h1,h2,h3,⟨o,q1,q2⟩,h5⟩:=t i v e;exact⟨a,ú,h1,h2,h3,⟨o,k a o h2 h3 q1,q2⟩,h5⟩
abbrev btL(val:Nat->List Int)(i j:Nat):Bool:=HT.lexLt (val i)<|val j
section
variable {prog:è}{w:ÿ}{A:Ď}{R:bB->Æ->Prop}{I l:Ð}{items:Array Ã}{val:Nat->List Int}{fp:List Ð}{St:Nat->Č->Prop}
def BH(W:Walks prog w A.in1 I fp [I] items.size (λi v=>items[i]?=fw v) St)(hu:A.units+1<Ğ)(S:Ð)(hSI:S≠I)(hSf:S∉fp) :
  ∀(k j:Nat) (s:Æ) (vb:Ã) (c:Nat),items.size - (j+1)=k->j+1<=items.size->St (j+1) s.heap->TupsH I S items val s.heap->items[Ĵ (btL val) j]?=fw vb->
  s.heap.get? S=fw {cls:=.type "list",dict:=fx,data:=.seq #[vb,vb] c,slots:=#[]}->
  (∀v h' tk,items[Ĵ (btL val)<|items.size - 1]?=fw v->(∀b o,b≠I->b≠S->s.heap.get? b=fw o->h'.get? b=fw o)->R (.ok<|.ret v) {s with heap:=h',toks:=tk})->
  codeAny (á prog w) A (.builtin "min.loop" ⟨[.ref I,.none,.ref S],kw⟩) R s:=by
 have bz:(toString "min" ++ toString ".loop" : String) = "min.loop":=by decide
 have hSw:S∉[I]:=by simp[hSI]
 intro k;induction k with
 |zero =>
  intro j s vb c hk hj Ź hT hPb hS hR;have hin:j+1=items.size:=by lia
  refine ĭ PySem.F.entry_min_loop ?_;rw[đ PySem.F.plain_min_loop _];show wpAny _ A.in1 (ai (.ref S) >>= _) _ _ s;refine À<|ś hS rfl ?_;show wpAny _ A.in1 (tryCatch (ϗ<|.ref I) _ >>= _) _ _ s;refine À<|Ψ<|W.done s _ _ (hin▸Ź) λh' tk bW=>?_;have hS':=bW S _ hSw hS;show wpAny _ A.in1 (ei S (λ_=>#[]) >>= _) _ _ _;refine À ?_;refine Μ hS' rfl<|À<|bR<|È ?_;refine hR vb _ tk (by rw[<-hin];exact hPb) λb o hbw eP e=>(õ _ _<|Ne.symm eP).trans (bW b o ⇑hbw e)
 |succ k ih =>
  intro j s vb c hk hj Ź hT hPb hS hR;have Ϭ:j+1<items.size:=by lia
  refine ĭ PySem.F.entry_min_loop ?_;rw[đ PySem.F.plain_min_loop _];show wpAny _ A.in1 (ai (.ref S) >>= _) _ _ s;refine À<|ś hS rfl ?_;show wpAny _ A.in1 (tryCatch (ϗ<|.ref I) _ >>= _) _ _ s;refine À<|Ψ<|W.item (j+1) s _ _ Ϭ Ź λv h' tk hP hst' bW=>?_;have hS':=bW S _ hSw hS;have hT':TupsH I S items val h':=hT.keep λb o h1 _ e=>bW b o ⇑h1 e;have hP:items[j+1]?=fw v:=hP;let⟨a,ú,rfl,_,_,pa,ia⟩:=hT' _ _ hP;let⟨b0,aJ,rfl,_,_,pb,ib⟩:=hT' _ _ hPb;show wpAny _ A.in1 (tryCatch (ŕ [.ref a,.ref a]<|ð .Lt (.ref a) (.ref b0) >>= _) _ >>= _) _ _ _;refine À<|Ψ<|ĕ<|À<|HT.lt_tupInts pa pb ia ib hu ?_;refine À<|ĕ<|Ē ?_;refine À<|bR<|È ?_;cases hb:HT.lexLt (val<|j+1) (val<|Ĵ (btL val) j)with
  |true =>
   have bJ:btL val (j+1) (Ĵ (btL val) j)=fy:=hb;simp![if_true];refine À ?_;refine Μ hS' rfl<|À<|bR ?_;rw[bz];refine È ⟨ő PySem.F.plain_min_loop _,ih (j+1) _ (.ref a) _ ↥0 Ϭ (W.frame _ _ _ hst' λb hbf o e=>?_) (hT'.keep λb o _ h2 e=>(õ _ _<|Ne.symm h2).trans e) (by simp![Ĵ,bJ,if_true];exact hP) (ę _ hS' rfl)
     λv' h'' tk'' hP' hk''=>?_⟩
   .exact(õ _ _ λh:S=b=>hSf<|by rw[h];exact hbf).trans e
   .exact hR v' h'' tk'' hP' λb o hbw eP e=>hk'' b o hbw eP ((õ _ _<|Ne.symm eP).trans<|bW b o ⇑hbw e)
  |false =>have bJ:btL val (j+1) (Ĵ (btL val) j)=fz:=hb;simp![ī,if_false];refine À<|bR ?_;rw[bz];refine È ⟨ő PySem.F.plain_min_loop _,ih (j+1) _ (.ref b0) c ↥0 Ϭ hst' hT' (by simp![Ĵ,bJ,ī,if_false];exact hPb) hS' λv' h'' tk'' hP' hk''=>?_⟩;exact hR v' h'' tk'' hP' λb o hbw eP e=>hk'' b o hbw eP (bW b o ⇑hbw e)
variable {s:Æ}{c:Nat}
def OE(W:Walks prog w A.in1 I fp [I] items.size (λi v=>items[i]?=fw v) St)(hu:A.units+1<Ğ)(S:Ð)(hSI:S≠I)(hSf:S∉fp)(hn:0<items.size)(Ź:St 0 s.heap)(hT:TupsH I S items val s.heap)(hS:s.heap.get? S=fw {cls:=.type "list",dict:=fx,data:=.seq #[] c,slots:=#[]})(hR:∀v h' tk,items[Ĵ (btL val)<|items.size - 1]?=fw v->(∀b o,b≠I->b≠S->s.heap.get? b=fw o->h'.get? b=fw o)->R (.ok<|.ret v) {s with heap:=h',toks:=tk}) :
  codeAny (á prog w) A (.builtin "min.loop" ⟨[.ref I,.none,.ref S],kw⟩) R s:=by
 have bz:(toString "min" ++ toString ".loop" : String) = "min.loop":=by decide
 have hSw:S∉[I]:=by simp[hSI]
 refine ĭ PySem.F.entry_min_loop ?_;rw[đ PySem.F.plain_min_loop _];show wpAny _ A.in1 (ai (.ref S) >>= _) _ _ s;refine À<|ś hS rfl ?_;show wpAny _ A.in1 (tryCatch (ϗ<|.ref I) _ >>= _) _ _ s;refine À<|Ψ<|W.item 0 s _ _ hn Ź λv h' tk hP hst' bW=>?_;have hS':=bW S _ hSw hS;have hT':TupsH I S items val h':=hT.keep λb o h1 _ e=>bW b o ⇑h1 e;show wpAny _ A.in1 (ei S (λ_=>#[v,v]) >>= _) _ _ _;refine À ?_;refine Μ hS' rfl ?_;rw[bz];refine È ⟨ő PySem.F.plain_min_loop _,BH W hu S hSI hSf _ 0 _ v _ rfl hn (W.frame _ _ _ hst' λb hbf o e=>?_) (hT'.keep λb o _ h2 e=>(õ _ _<|Ne.symm h2).trans e) hP (ę _ hS' rfl) λv' h'' tk'' hP' hk''=>?_⟩
 .exact(õ _ _ λh:S=b=>hSf<|by rw[h];exact hbf).trans e
 .exact hR v' h'' tk'' hP' λb o hbw eP e=>hk'' b o hbw eP ((õ _ _<|Ne.symm eP).trans<|bW b o ⇑hbw e)
def AM(hh:A.handled=fx)(hlI:l≠I)(S:Ð)(hSI:S≠I)(hn:items.size=0){nm:Str}{d:Ã}(Ź:s.heap.IsListIter I l 0/\s.heap.IsList l items)
  (hS:s.heap.get? S=fw {cls:=.type "list",dict:=fx,data:=.seq #[] c,slots:=#[]})
  (hR:∀h' tk,(∀b o,b≠I->s.heap.get? b=fw o->h'.get? b=fw o)->R (.ok<|.ret d) {s with heap:=h',toks:=tk}) :
  codeAny (á prog w) A (.builtin "min.loop" ⟨[.ref I,.none,.ref S],[(nm,d)]⟩) R s:=by
 have W:=Walks.list (prog:=prog) (w:=w) (A:=A.in1) hh I l hlI items;refine ĭ PySem.F.entry_min_loop ?_;rw[đ PySem.F.plain_min_loop _];show wpAny _ A.in1 (ai (.ref S) >>= _) _ _ s;refine À<|ś hS rfl ?_;show wpAny _ A.in1 (tryCatch (ϗ<|.ref I) _ >>= _) _ _ s;refine À (Ψ<|W.done s _ _ (by rw[hn];exact Ź) λh' tk bW=>?_);show wpAny _ A.in1 (rule _ >>= λ_=>ret d) _ _ _;exact À (Ϧ<|È<|hR h' tk λb o hb e=>bW b o ⇑hb e)
end
def Bu(a:Ã):cK "min" ⟨[a],[(im "default",.none)]⟩:=by unfold cK;kernel_rfl
def JN(bt:Nat->Nat->Bool):∀k,Ĵ bt k<=k
 |0=>Ì _
 |k+1=>by
  unfold Ĵ;split
  .exact Ì _
  .exact Nat.le_succ_of_le<|JN bt k
def MW:∀{xs:List V}{us:List Ã}{i:Nat}{u:Ã},gV xs us->us[i]?=fw u->∃x,xs[i]?=fw x/\RelV x u
 |_,_,_,_,.nil,e=>by simp at e
 |_,_,0,_,.cons r _,e=>by simp at e;subst e;exact⟨_,rfl,r⟩
 |_,_,i+1,_,.cons _ t,e=>by let⟨x,h1,h2⟩:=MW (i:=i) t ⇑e;exact⟨x,⇑h1,h2⟩
section
def Aw{Â:List (Ð×Obj)}{s:Æ}{σ:St}{H:Hp}{a:Ð}{xs:List V}{ĝ:List (List Int)}{Q:VK}(hc:X.calm=fy)(hu:X.A.units+1<Ğ)(I:Inv X Â σ H s)(hl:gT X.K H a xs)(hr:ĝ.length=xs.length)
  (ht:∀i,i<ĝ.length->∃p,xs[i]?=fw (.ref p)/\gU X.K H p ((ĝ.getD i []).map V.int))
  (q0:xs=[]->Q .non H) (q1:xs≠[]->∀x,xs[Ĵ (btL λi=>ĝ.getD i [])<|xs.length - 1]?=fw x->Q x H) :
  wpAny ↥2 X.A (call (.builtin "min") [.ref a] [(im "default",.none)]) (EP X Â σ Q) X.xe s:=by
 have bz:(toString "min" ++ toString ".loop" : String) = "min.loop":=by decide
 let⟨ú,rv,pl,hz⟩:=I.list hl;have hlen:=rv.length;have hls:=pl.isList;let⟨ol,hol,_⟩:=id hls;have hll:a<s.heap.objs.size:=Ü hol;refine PyProof.Rows.kmk_tree PySem.F.kind_min PySem.F.plain_min PySem.F.entry_min (Bu _) ?_;show wpAny _ X.A.in1 (Builtin.Builtins.bindParams "min" ["key","default"] 0 ⟨[],[(im "default",.none)]⟩ >>= _) _ _ s;refine À (bN (show Builtin.Builtins.bindParams "min" ["key","default"] 0 ⟨[],[(im "default",.none)]⟩=pure [fx,fw .none] from rfl) ?_);refine À<|È ?_;refine À<|ϑ hls ?_;refine À<|ay ?_<|Ę _;rw[bz];have hS:(s.heap.push {cls:=.type "list_iterator",data:=.fields #[.ref a,.int 0 0]}).objs.size=s.heap.objs.size+1:=cM ..;have hlI:a≠s.heap.objs.size:=é hll;have hSI:(s.heap.push {cls:=.type "list_iterator",data:=.fields #[.ref a,.int 0 0]}).objs.size≠s.heap.objs.size:=by rw[hS];exact Ū<|Į _
 have hSl:(s.heap.push {cls:=.type "list_iterator",data:=.fields #[.ref a,.int 0 0]}).objs.size≠a:=by rw[hS];exact Ū<|ĥ hll
 have kk:∀b o,s.heap.get? b=fw o->((s.heap.push {cls:=.type "list_iterator",data:=.fields #[.ref a,.int 0 0]}).push<|ψ "list" #[] 0).get? b=fw o:=λb o e=>Ä _<|Ä _ e;have gI:((s.heap.push {cls:=.type "list_iterator",data:=.fields #[.ref a,.int 0 0]}).push<|ψ "list" #[] 0).get? s.heap.objs.size=fw {cls:=.type "list_iterator",data:=.fields #[.ref a,.int 0 0]} :=
  Ä _ (Ø _ rfl)
 have gS:((s.heap.push {cls:=.type "list_iterator",data:=.fields #[.ref a,.int 0 0]}).push<|ψ "list" #[] 0).get? (s.heap.push {cls:=.type "list_iterator",data:=.fields #[.ref a,.int 0 0]}).objs.size=fw (ψ "list" #[] 0):=Ø _ rfl;have Ϡ:∀b o,s.heap.get? b=fw o->b≠s.heap.objs.size/\b≠(s.heap.push {cls:=.type "list_iterator",data:=.fields #[.ref a,.int 0 0]}).objs.size:=λb o e=>by have:=Ü e;rw[hS];exact⟨é this,é<|ĥ this⟩
 have Ź:Heap.IsListIter ((s.heap.push {cls:=.type "list_iterator",data:=.fields #[.ref a,.int 0 0]}).push<|ψ "list" #[] 0) s.heap.objs.size a 0/\Heap.IsList ((s.heap.push {cls:=.type "list_iterator",data:=.fields #[.ref a,.int 0 0]}).push<|ψ "list" #[] 0) a ú.toArray:=by refine⟨⟨_,gI,rfl,rfl⟩,?_⟩;let⟨o,e,r⟩:=hls;exact⟨o,kk _ _ e,r⟩
 refine È ⟨ő PySem.F.plain_min_loop _,?_⟩;by_cases h0:xs=[]
 .have hi:ú.toArray.size=0:=by rw[Ï,<-hlen,h0];rfl
  refine AM (I:=s.heap.objs.size) (A:=X.A) (l:=a) (items:=ú.toArray) (I.ok.hd hc) hlI _ hSI hi Ź gS λh' tk hk=>?_;exact⟨.non,H,I.kept (t':=tk) λb o e=>hk b o (Ϡ b o e).1<|kk b o e,rfl,q0 h0⟩
 .have hi:0<ú.toArray.size:=by
   rw[Ï,<-hlen];exact Ϯ.mpr h0
  refine OE (A:=X.A) (items:=ú.toArray) (val:=λi=>ĝ.getD i []) (Walks.list (A:=X.A.in1) (I.ok.hd hc) s.heap.objs.size a hlI ú.toArray) hu _ hSI (λz=>(Ç.mp z).elim hSI λz=>hSl<|Å.mp z) hi Ź (λi v e=>?_) gS λv h' tk hv hk=>?_
  .have e:ú[i]?=fw v:=⇑e
   have hi':i<ĝ.length:=by rw[hr,hlen];exact(Ó.mp e).1
   let⟨p,bx,eN⟩:=ht i hi';let⟨x,hx,rx⟩:=MW rv e;rw[bx]at hx;cases hx;obtain rfl:v=Value.ref p:=rx;let⟨tt,r2,⟨o2,e2,rest⟩,_⟩:=I.tuple eN;exact⟨p,tt.toArray,rfl,(Ϡ p o2 e2).1,(Ϡ p o2 e2).2,⟨o2,kk _ _ e2,rest⟩,ZA r2⟩
  .have hv:ú[Ĵ (btL λi=>ĝ.getD i [])<|xs.length - 1]?=fw v:=by rw[hlen];simpa using hv
   let⟨x,hx,rx⟩:=MW rv hv;exact⟨x,H,I.kept (t':=tk) λb o e=>hk b o (Ϡ b o e).1 (Ϡ b o e).2<|kk b o e,rx,q1 h0 x hx⟩
abbrev Sk(K:Frag)(ta:TA):TE:=λσ H Q=>ta σ H λvs H1=>∃a xs,∃ĝ:List<|List Int,vs=[.ref a]/\gT K H1 a xs/\ĝ.length=xs.length/\
 (∀i,i<ĝ.length->∃p,xs[i]?=fw (.ref p)/\gU K H1 p ((ĝ.getD i []).map V.int))/\(xs=[]->Q .non H1)/\(xs≠[]->∀x,xs[Ĵ (btL λi=>ĝ.getD i [])<|xs.length - 1]?=fw x->Q x H1)
def Fh(hc:X.calm=fy)(hu:X.A.units+1<Ğ)(hg:Gl X "min")(hm:X.mg "min" = fx)(ha:PA X [e] ta)(hs:Ý [e] X.env=[(fz,eval e X.env)]) :
  PE X (.Call (.Name "min" p) [e] [⟨fw "default",.Constant .none kk kp,kpos⟩] í) (Sk X.K ta):=by
 k_sub;refine İ (YM (u:=.builtin "min") I hg hm (by kernel_rfl) ?_);refine PyProof.Rows.callWith_kw (e:=e) (rest:=[]) ?_ (by rw[hs];rfl) (by rw[hs];rfl) rfl rfl;refine thn (ha í Â s σ H _ I h) λus s1 ⟨vs,H1,I1,r1,a,xs,ĝ,ev,hl,hr,ht,q0,q1⟩=>?_;subst ev;let⟨u,rfl,ru⟩:=ZU r1;cases ru;refine PyProof.Rows.kws_cons<|thn (DS Â s1 σ H1 (λv H2=>v=.non/\H2=H1) I1 ⟨rfl,rfl⟩) λv s2 ⟨x,H2,I2,r2,e1,e2⟩=>PyProof.Rows.kws_nil ?_;subst e1 e2;obtain rfl:v=Value.none:=r2;exact Aw hc hu I2 hl hr ht q0 q1
def X9{P:è}{w:ÿ}:∀{ns:List Int}{vs:List (Key×Ã)}{Ķ:List Ã},vs.map (·.1)=ns.map Sum.inl->Ķ.length=vs.length->(∀(j:Nat) (v:Ã),Ķ[j]?=fw v->∃(k:Key) (x:Ã),vs[j]?=fw (k,x)/\(Zf P w).is k v=fy)->ā Ķ ns
 |[],[],[],_,_,_=>.nil
 |[],_::_,_,h,_,_=>by cases h
 |_::_,[],_,h,_,_=>by cases h
 |[],[],_::_,_,h,_=>by cases h
 |_::_,_::_,[],_,h,_=>by cases h
 |n::ns,p::vs,u::Ķ,h1,h2,h3=>by rw[Í,Í]at h1;injection h1 with h1 h1';let⟨k,x,e1,e2⟩:=h3 0 u rfl;simp at e1;subst e1;have h1:k=Sum.inl n:=h1;subst h1;obtain⟨t,rfl⟩:∃t,u=Value.int n t:=El (k:=Sum.inl n) (u:=u) e2;exact .cons n t (X9 (P:=P) (w:=w) h1' ⇑h2 λj v e=>by simpa using h3 (j+1) v ⇑e)
def MT(hc:X.calm=fy):fM X (.builtin "sorted") (λxs H Q=>∃p kvs,∃ns:List Int,xs=[.ref p]/\Rd H p (.dK kvs)/\kvs.map (·.1)=ns.map Sum.inl/\ns.length<64/\∀l,H l=fx->Q (.ref l) (upd H l<|.lst<|(sortI ns).map V.int)):=by
 k_put;let⟨p,kvs,ns,rfl,hp,hk,h64,q⟩:=h;let⟨u,rfl,rx⟩:=ZU r;cases rx;let⟨z,hsm,vs,ų,dd⟩:=XG I.hok hp;let⟨ep,da⟩:=dd.dictAt;have hlen:vs.length=ns.length:=by have:=congrArg List.length hk;simpa[ų.length]using this
 refine Calls.call_function_entry kind_sorted fc fe (ff _) ?_;unfold Builtin.«sorted»;refine À (m:=checkCount "sorted" 1 1 _)<|È ?_;refine À (PySem.W.kdu_collect (A:=X.A.in1) (PySem.W.kdl_dict (knd:=Zf X.prog X.w) (kvs:=vs) (ep:=ep) hsm) (I.ok.hd hc) da (by rw[<-ų.length];exact z) λh' tk Ķ hkeep hacc=>?_);have hl:Ķ.toList.length=vs.length:=by rw[ø];exact hacc.1
 refine À (ay ?_<|by rw[hl,<-ų.length];exact z);have hI:ā Ķ.toList ns:=X9 (P:=X.prog) (w:=X.w) (by rw[<-ų.keys];exact hk) hl λj v e=>hacc.2 j v (by rw[<-Ą];exact e);have dR:(h'.push<|ψ "list" Ķ.toList.toArray 0).get? h'.objs.size=fw (ψ "list" Ķ.toList.toArray 0):=Ø _ rfl;have I1:Inv X Â σ H {s with heap:=h',toks:=tk}:=I.kept hkeep;refine À (ĕ<|Ė cN ⟨_,dR,rfl⟩ b6 (list_sort_tree dR hI (by rw[hl,hlen];exact h64) λout cx a1 a2 a3=>⟨_,rfl,?_⟩)<|cO _);have e:=YS a2 a3;subst e;let⟨n,he⟩:=dL (out:=out) dR;refine È ⟨_,rfl,.ref h'.objs.size,_,I1.laid (a:=h'.objs.size) (o:=.lst<|(sortI ns).map V.int) (t':=tk) (λb o e=>?_) (Ì _) ?_,rfl,q _<|I1.hok.fresh<|Ì _⟩
 .have e:h'.get? b=fw o:=e;have hb:=Ü e;rw[cP (é hb)<|by rw[cM];exact ĥ hb];exact Ä _ e
 .exact⟨by rw[Á,YH];unfold à;lia,out.toList,n,YR a1,by simpa[ψ]using he⟩
end
end L2
namespace Srt
open PySem.W PyProof.Rows
abbrev ok(n:Nat)(lt:Nat->Nat->Bool):KasT α->(α->Prop)->Prop
 |.ret a,Q=>Q a
 |.ask i j k,Q=>i<n/\j<n/\ok n lt (k<|lt i j) Q
section
variable {n:Nat}
abbrev K(p:Array Nat)(k:Nat):Nat:=p.getD k 0
end
end Srt
namespace Snd
open PySem L2
variable {i:Inf}
def Oj:∀{kvs:List (O.Val×O.Val)}{ps:List (Key×V)}{ns:List Int},RKs i.K H kvs ps->O.keysOf kvs=fw ns->ps.map (·.1)=ns.map Sum.inl
 |_,_,ns,.nil,e=>by have e:fw []=fw ns:=e;cases e;rfl
 |(k,v)::kvs,_,ns,.cons (c:=c) hk _ t,e=>by
  have e:O.fL (k::kvs.map (·.1))=fw ns:=e;cases k with
  |int j =>
   have e:(O.fL (kvs.map (·.1))).map (j :: ·)=fw ns:=e;let⟨ms,z,rfl⟩:=Ë.mp e;have ih:=Oj (ns:=ms) t z;cases c with
   |inl l =>have hk:j=l:=hk;subst hk;rw[Í,Í,ih]
   |inr _=>exact(show False from hk).elim
  |_=>cases e
def KQ:∀{ys:List O.Val}{ns:List Int},O.fL ys=fw ns->ys=ns.map .int
 |[],_,e=>by cases e;rfl
 |y::ys,ns,e=>by
  cases y with
  |int j =>let⟨ms,z,rfl⟩:=Ë.mp (show(O.fL ys).map (j :: ·)=fw ns from e);rw[Í,<-KQ z]
  |_=>cases e
def Nt:∀{xs:List O.Val}{us:List V}{ĝ:List (List Int)},RVs i.K H xs us->O.rowsOf xs=fw ĝ->ĝ.length=us.length/\(∀n,n<ĝ.length->∃p,us[n]?=fw (.ref p)/\gU i.K H p ((ĝ.getD n []).map V.int))/\xs=ĝ.map λr=>.tup (r.map .int)
 |_,_,ĝ,.nil,e=>by have e:fw []=fw ĝ:=e;cases e;exact⟨rfl,λn h=>ij h<|Nat.not_lt_zero _,rfl⟩
 |v::xs,_,ĝ,.cons r t,e=>by
  cases v with
  |tup ys =>
   let⟨ns,z1,e⟩:=ò.mp (show(O.fL ys).bind (λns=>(O.rowsOf xs).map (ns :: ·))=fw ĝ from e);let⟨rs,z2,rfl⟩:=Ë.mp e;let⟨h1,h2,h3⟩:=Nt t z2;cases r with
   |tup hp hr =>
    have:=ZY z1 hr;subst this;refine⟨by rw[Î,Î,h1],λn hn=>?_,?_⟩
    .cases n with
     |zero=>exact⟨_,rfl,Zl hp⟩
     |succ n=>exact h2 n ⇑hn
    .rw[Í,<-h3];have:ys=ns.map .int:=KQ z1;rw[this]
  |_=>cases e
def O8:MD i .sortedI (λxs H Q=>(∃p,∃ns:List Int,xs=[.ref p]/\gT i.K H p (ns.map V.int)/\ns.length<64/\∀l,H l=fx->Q (.ref l) (upd H l<|.lst<|(L2.sortI ns).map V.int))\/
    (∃p kvs,∃ns:List Int,xs=[.ref p]/\Rd H p (.dK kvs)/\kvs.map (·.1)=ns.map Sum.inl/\ns.length<64/\∀l,H l=fx->Q (.ref l) (upd H l<|.lst<|(L2.sortI ns).map V.int))):=by
 intro vs G H xs Q Qm g r w c;let⟨v,rfl,w⟩:=WC w;let⟨x,rfl,rx⟩:=r.inv1;have key:∀(ns:List Int),(if ns.length<64 then O.Rs.new (.lst<|(O.sortI ns).map .int)else .no).wp G Qm->ns.length<64/\∀l,H l=fx->Q (.ref l) (upd H l<|.lst<|(L2.sortI ns).map V.int):=λns w=>by
  split at w
  .rename_i h64;exact⟨h64,Yg g (Ni w) c λp hp=>⟨_,fB,RVs.ints _⟩⟩
  .exact(Zi w).elim
 cases v with
 |ref a =>
  cases rx.ref_inv
  replace w:(O.biSortedI G<|.ref a).wp G Qm:=w
  unfold O.biSortedI O.sortAny at w;dsimp only at w;cases z:G a with
  |none=>rw[z]at w;exact(Zi w).elim
  |some o =>
   rw[z]at w;cases o with
   |lst ys =>
    cases z2:O.fL ys with
    |none=>simp![z2]at w;exact(Zi w).elim
    |some ns =>simp![z2]at w;let⟨us,h1,h2⟩:=g a _ z;have:=ZY z2 h2;subst this;exact .inl ⟨a,ns,rfl,gT.of h1,key ns w⟩
   |dct kvs =>
    cases z2:O.keysOf kvs with
    |none=>simp![z2]at w;exact(Zi w).elim
    |some ns =>simp![z2]at w;let⟨ps,h1,h2⟩:=g a _ z;exact .inr ⟨a,ps,ns,rfl,.inl h1,Oj h2 z2,key ns w⟩
   |_=>exact(Zi w).elim
 |scr ns =>
  cases rx with
  |scr h=>exact .inl ⟨_,ns,rfl,Ye h,key ns w⟩
 |_=>exact(Zi w).elim
end Snd
namespace L2
open PySem PySem.Spec PyProof.Rows
section
variable {e:Expr}{lo:Option Expr}{st:Expr}{ts:TE}{í p2:Pos}
def KZ(r:gV xs us):∀ix:List Nat,gV (O.pickL ix xs) (O.pickL ix us)
 |[]=>.nil
 |k::ix=>by
  have h:(xs[k]?=fx/\us[k]?=fx)\/∃x u,xs[k]?=fw x/\us[k]?=fw u/\RelV x u:=by
   clear ix;induction r generalizing k with
   |nil=>exact .inl ⟨rfl,rfl⟩
   |cons r1 r2 ih =>
    cases k with
    |zero=>exact .inr ⟨_,_,rfl,rfl,r1⟩
    |succ k=>exact ih k
  have ih:=KZ r ix;unfold O.pickL at ih ⊢;rcases h with⟨h1,h2⟩|⟨x,u,h1,h2,h3⟩
  .rw[î,î,h1,h2];exact ih
  .rw[î,î,h1,h2];exact .cons h3 ih
def CP{a b k:Int}{n:Nat}(hk:k≠0)(h1:0<k->0<=a/\b<=n)(h2:k<0->a<n/\-1<=b):(Ϩ a b k).Nodup/\(Ϩ a b k).length<=n:=by
 unfold Ϩ;dsimp only;rcases Int.lt_or_gt_of_ne hk with hk|hk
 .obtain⟨h3,h4⟩:=h2 hk;rw[hZ<|by lia];by_cases hs:a > b
  .rw[hX hs];have hd:∀j:Nat,j<((a - b - k - 1) / -k).toNat->(j:Int) * -k<=a - b - 1:=λj hj=>by
    have h5:((j:Int)+1)<=(a - b - k - 1) / -k:=by lia
    have h6:=(cI (by lia:0 < -k)).mp h5;have h7:((j:Int)+1) * -k=(j:Int) * -k + -k:=by rw[dM,dN]
    lia
   refine⟨?_,?_⟩
   .rw[bp,ģ];refine List.Pairwise.imp_of_mem ?_ ż;intro i j hi hj hij e;have d1:=hd i<|ŏ.mp hi;have d2:=hd j<|ŏ.mp hj;have e1:k*(i:Int)=-((i:Int) * -k):=by rw[Int.mul_neg,Int.neg_neg,Int.mul_comm]
    have e2:k*(j:Int)=-((j:Int) * -k):=by rw[Int.mul_neg,Int.neg_neg,Int.mul_comm]
    have e3:(i:Int) * -k<(j:Int) * -k:=Int.mul_lt_mul_of_pos_right ↥0 ↥0;rw[e1,e2]at e;lia
   .rw[Á,ı];have:(a - b - k - 1) / -k<=a - b:=by
     refine dO ((cQ (by lia:0 < -k)).mpr ?_);have:(a - b+1) * -k=(a - b)*(-k - 1)+(a - b) + -k:=by rw[dM,Int.mul_sub,dF,dN];lia
     have:0<=(a - b)*(-k - 1):=ϩ ↥0 ↥0;lia
    lia
  .rw[hZ hs];exact⟨ă,Ę _⟩
 .obtain⟨h3,h4⟩:=h1 hk;rw[hX hk];by_cases hs:a<b
  .rw[hX hs];refine⟨?_,?_⟩
   .rw[bp,ģ];refine List.Pairwise.imp ?_ ż;intro i j hij e;have e3:k*(i:Int)<k*(j:Int):=Int.mul_lt_mul_of_pos_left ↥0 hk;have e4:0<=k*(i:Int):=ϩ ↥0 ↥0;lia
   .rw[Á,ı];have:(b - a+k - 1) / k<=b - a:=by
     refine dO<|(cQ hk).mpr ?_;have:(b - a+1)*k=(b - a)*(k - 1)+(b - a)+k:=by rw[dM,Int.mul_sub,dF,dN];lia
     have:0<=(b - a)*(k - 1):=ϩ ↥0 ↥0;lia
    lia
  .rw[hZ hs];exact⟨ă,Ę _⟩
def Gm{items:Array Ã}{lo hi:Option Int}{k:Int}(hk:k≠0):∃ix:List Nat,ix.Nodup/\ix.length<=items.size/\d6 items lo hi (fw k)=(O.pickL ix items.toList).toArray:=by
 refine⟨Ϩ (ğ lo hi (fw k) items.size).fst (ğ lo hi (fw k) items.size).snd.fst (ğ lo hi (fw k) items.size).snd.snd,?_⟩;have hb:(ğ lo hi (fw k) items.size).snd.snd=k:=rfl;rw[hb,<-and_assoc];refine⟨CP hk (λh=>⟨?_,?_⟩) λh=>⟨?_,?_⟩,?_⟩
 .unfold ğ;dsimp only[Υ];rw[hX h];cases lo with
  |none=>exact Ŧ _
  |some i=>dsimp only;rw[hX h];lia
 .unfold ğ;dsimp only[Υ];cases hi with
  |none=>dsimp only;rw[hX h];exact Ŧ _
  |some i=>dsimp only;rw[hX h];lia
 .unfold ğ;dsimp only[Υ];cases lo with
  |none=>dsimp only;rw[hZ<|by lia];lia
  |some i=>dsimp only;rw[hZ<|by lia];lia
 .unfold ğ;dsimp only[Υ];cases hi with
  |none=>dsimp only;rw[hZ<|by lia];exact Ŧ _
  |some i=>dsimp only;rw[hZ<|by lia];lia
 .unfold d6 O.pickL;rw[hb];simp![Ą]
abbrev Rw(K:Frag)(te:TE)(tl th:TO)(ts:TE):TE:=λσ H Q=>te σ H λx H1=>tl σ H1 λl H2=>th σ H2 λu H3=>ts σ H3 λk H4=>∃a xs j,x=.ref a/\k=.int j/\j≠0/\gT K H4 a xs/\∀ix:List Nat,ix.Nodup->ix.length<=xs.length->∀p,H4 p=fx->Q (.ref p) (upd H4 p<|.lst<|O.pickL ix xs)
def Fw(he:PE X e te)(hl:PO X lo tl)(hu:PO X hi th)(hs:PE X st ts):PE X (.Subscript e (.Slice lo hi (fw st) p2) í)<|Rw X.K te tl th ts:=by
 k_sub;refine Subscript_<|thn (he Â s σ H _ I h) λv s1 ⟨x,H1,I1,r1,q1⟩=>?_;refine wpAny_Slice (thn (hl Â s1 σ H1 _ I1 q1) λvl s2 ⟨l,H2,I2,pl,q2⟩=>thn (hu Â s2 σ H2 _ I2 q2) λvu s3 ⟨u,H3,I3,pu,q3⟩=>(by
 rw[evalPart_some]
 refine thn (hs Â s3 σ H3 _ I3 q3) λvk s4 ⟨k,H4,I4,rk,q4⟩=>?_
 let⟨a,xs,j,rfl,rfl,hj,hx,q⟩:=q4
 cases r1
 let⟨tk,rfl⟩:=rk
 have pk:Ϙ (.int j tk)<|fw j:=.int j tk
 have I5:Inv X Â σ H4 {s4 with heap:=s4.heap.push {cls:=.type "slice",data:=.fields #[vl,vu,.int j tk]}}:=I4.kept (t':=s4.toks) λb ob q=>Ä _ q
 let⟨ú,r,ht,hz⟩:=I5.list hx
 have hlen:=r.length
 let⟨ix,n1,n2,n3⟩:=Gm (items:=ú.toArray) (lo:=l) (hi:=u) hj
 rw[Ï,<-hlen]at n2
 show wpAny ↥2 X.A (aw e (.Slice lo hi (fw st) p2) (.ref a)<|.ref s4.heap.objs.size) (EP X Â σ Q) X.xe {s4 with heap:=s4.heap.push {cls:=.type "slice",data:=.fields #[vl,vu,.int j tk]}}
 refine tail_any (ops:=[.ref a,.ref s4.heap.objs.size]) ht.isList.typeIs aZ.lookup ?_ (by with_unfolding_all rfl)
 refine dI ht.isList (Heap.IsSliceOf.new ..) pl pu pk (λz=>hj<|æ z) ?_ (by rw[Ï]<;>lia)
 rw[n3]
 refine⟨.ref _,_,I5.laid (a:=_) (t':=s4.toks) (o:=.lst<|O.pickL ix xs) (λb ob q=>Ä _ q) (Ì _) ?_,rfl,q ix n1 n2 _<|I5.hok.fresh<|Ì _⟩
 exact⟨Û (Û (Ů _ _) n2) hz,O.pickL ix ú,0,KZ r ix,Ø _ rfl⟩))
end
end L2
namespace Snd
open PySem L2
def Nu{K:Frag}(r:RVs K H xs us):∀ix:List Nat,RVs K H (O.pickL ix xs) (O.pickL ix us)
 |[]=>.nil
 |k::ix=>by
  have ih:=Nu r ix;unfold O.pickL at ih ⊢;cases h1:xs[k]? with
  |none =>
   have h2:us[k]?=fx:=by rw[List.getElem?_eq_none_iff]at h1 ⊢;rw[<-r.length];exact h1
   rw[î,î,h1,h2];exact ih
  |some x =>let⟨u,h2,h3⟩:=r.get h1;rw[î,î,h1,h2];exact .cons h3 ih
def Hm(g:RH i G H)(e:O.lsA G v=fw xs)(r:RV i.K H v x):∃a vs,x=.ref a/\gT i.K H a vs/\RVs i.K H xs vs:=by
 cases v with
 |ref a =>cases r.ref_inv;let⟨vs,h1,h2⟩:=ZE g (show O.fQ (G a)=fw xs from e);exact⟨a,vs,rfl,h1,h2⟩
 |scr ns =>
  cases e;cases r with
  |scr h=>exact⟨_,_,rfl,Ye h,RVs.ints ns⟩
 |_=>cases e
def Qw{lo:Option Expr}{st:Expr}(hK:X.K=i.K)(ha:PE X a<|tE X i Φ ma)(hl:PO X lo<|tOx X i Φ ml)(hh:PO X hi<|tOx X i Φ mh)(hs:PE X st<|tE X i Φ ms):PE X (.Subscript a (.Slice lo hi (fw st) p2) í) (tE X i Φ<|.pick ma ml mh ms) :=
 (Fw ha hl hh hs).imp λσ H Q ⟨env,G,Qm,Em,p,w,c⟩=>by
  exact⟨env,G,_,Em,p,w,λv G1 H1 x k1 g1 r1 w1=>⟨env,G1,_,Em,p.go k1 g1,w1,λl G2 H2 k2 g2 w2=>⟨env,G2,_,Em,(p.go k1 g1).go k2 g2,w2,λu G3 H3 k3 g3 w3=>⟨env,G3,_,Em,((p.go k1 g1).go k2 g2).go k3 g3,w3,λk G4 H4 y k4 g4 ry w4=>by
    let⟨j,e1,w5⟩:=fG w4
    let⟨hj,w6⟩:=w5
    let⟨xs,e2,w7⟩:=fG w6
    let⟨b,us,hx,hsq,rr⟩:=Hm g4 e2<|((r1.keep k2).keep k3).keep k4
    exact⟨b,us,j,hx,(by cases Zy e1;exact ry.int_inv),hj,by rw[hK];exact hsq,λix n1 n2=>Yg g4 (w7 ix n1<|by rw[rr.length];exact n2) ((((c.go k1).go k2).go k3).go k4) λp hp=>⟨_,fB,(Nu rr ix).keep<|f9.new hp⟩⟩⟩⟩⟩⟩
end Snd
namespace Snd
open PySem L2 PyProof.Rows
def Mi:∀(ns:List Int) (a:Int),a∈O.dedup ns↔a∈ns
 |[],a=>Iff.rfl
 |x::xs,a=>by
  have ih:=Mi xs a;unfold O.dedup;simp![Ç,ù,ih];constructor
  .rintro(h|h)
   .exact .inl h
   .exact .inr h.1
  .rintro(h|h)
   .exact .inl h
   .by_cases e:a=x
    .exact .inl e
    .exact .inr ⟨h,⇑e⟩
def WJ:∀ns:List Int,(O.dedup ns).Nodup
 |[]=>ă
 |x::xs=>by unfold O.dedup;rw[ô];refine⟨λh=>?_,List.Nodup.sublist Ŏ<|WJ xs⟩;have:=(ù.mp h).2;simp at this
def JI:∀(ns Ķ:List Int),Ķ.Nodup->(ns.foldl ţ Ķ).Nodup/\∀a,a∈ns.foldl ţ Ķ↔a∈Ķ\/a∈ns
 |[],Ķ,h=>⟨h,λa=>by simp⟩
 |x::xs,Ķ,h=>by
  have h2:(ţ Ķ x).Nodup/\∀a,a∈ţ Ķ x↔a∈Ķ\/a=x:=by
   unfold ţ;split
   .rename_i hc;have hm:x∈Ķ:=⇑hc
    exact⟨h,λa=>⟨.inl,λz=>z.elim id λe=>e▸hm⟩⟩
   .rename_i hc;have hm:x∉Ķ:=⇑hc
    refine⟨?_,λa=>by simp⟩;rw[ß];refine⟨h,by simp,λa ha b hb=>?_⟩;rw[Å.mp hb];exact λe=>hm<|e▸ha
  let⟨h3,h4⟩:=JI xs (ţ Ķ x) h2.1;refine⟨h3,λa=>?_⟩;rw[Ń,h4,h2.2,Ç];constructor
  .rintro((z|z)|z)
   .exact .inl z
   .exact .inr<|.inl z
   .exact .inr<|.inr z
  .rintro(z|z|z)
   .exact .inl<|.inl z
   .exact .inl<|.inr z
   .exact .inr z
def NK(ns:List Int):(ν (λi=>ns.getD i 0) ns.length).Perm<|O.dedup ns:=by
 have e:(List.range ns.length).map (λi=>ns.getD i 0)=ns:=by
  apply List.ext_getElem
  .simp
  .intro k h1 h2;simp at h1;simp[h1]
 unfold ν;rw[e];let⟨h1,h2⟩:=JI ns [] ă;refine(bq h1<|WJ ns).mpr λa=>?_;rw[h2,Mi];simp
def FU(ns:List Int):(ν (λi=>ns.getD i 0) ns.length).length=(O.dedup ns).length:=(NK ns).length_eq
def Ow(g:RH i G H)(r:RV i.K H v x)(e:O.sortOf G v=fw ns):∃p,x=.ref p/\gT i.K H p (ns.map V.int):=by
 cases v with
 |ref a =>let⟨ys,z1,z2⟩:=ò.mp (show(O.fQ<|G a).bind O.fL=fw ns from e);let⟨us,h1,h2⟩:=ZE g z1;have:=ZY z2 h2;subst this;exact⟨a,r.ref_inv,h1⟩
 |scr ms =>
  cases e;cases r with
  |scr h=>exact⟨_,rfl,Ye h⟩
 |_=>cases e
def Ma:∀{xs:List O.Val}{k n:Nat}{v:O.Val},(O.enumL k xs)[n]?=fw v->∃x,xs[n]?=fw x/\v=.tup [.int ((k+n:Nat):Int),x]
 |[],k,n,v,h=>by simp[O.enumL]at h
 |x::xs,k,0,v,h=>by have h:fw (O.Val.tup [.int k,x])=fw v:=h;cases h;exact⟨x,rfl,rfl⟩
 |x::xs,k,n+1,v,h=>by let⟨y,h1,h2⟩:=Ma (xs:=xs) (k:=k+1) (n:=n) (v:=v) (by simpa[O.enumL]using h);refine⟨y,⇑h1,?_⟩;rw[h2,show k+1+n=k+(n+1) by lia]
def KP:∀(xs:List O.Val) (k:Nat),(O.enumL k xs).length=xs.length
 |[],_=>rfl
 |x::xs,k=>by show(O.enumL (k+1) xs).length+1=xs.length+1;rw[KP xs]
def B3(ha:H0 a=fw (.tup us)\/KT i.K a us)(ra:RVs i.K H0 xs us):ItOk i H0 (Ite i.K a) (λ_=>True) (O.enumL 0 xs) where
 go:=λn G H v k g e hv=>by let⟨x,hx,rfl⟩:=Ma hv;have h1:gU i.K H a us:=Zl<|ha.imp (k.t _ _) id;let⟨x',h5,h6⟩:=(ra.keep k).get hx;refine⟨⟨us,x',h1,h5⟩,λw H' ⟨p,e1,hp,e2⟩=>?_⟩;subst e1;have:=e2 us x' h1 h5;subst this;have k:=f9.new (o:=.tup [.int n,x']) hp;refine⟨k,Jf g hp,.tup (.inl fB)<|.cons ?_<|.cons (h6.keep k) .nil⟩;rw[Ϛ];exact .int _
 stop:=λn G H k g e hn=>by have h1:gU i.K H a us:=Zl<|ha.imp (k.t _ _) id;exact⟨us,h1,by rw[<-ra.length,<-KP xs 0];exact hn⟩
def Uo(h:O.tupOf v=fw xs):v=.tup xs:=by
 cases v with
 |tup ys=>cases h;rfl
 |_=>cases h
variable {p:Pos}{í:Pos}{e:Expr}{m:O.E}
def Fy(hK:X.K=i.K)(hg:Gl X "enumerate")(hm:X.mg "enumerate" = fx)(he:PE X e<|tE X i Φ m)(hs:Ý [e] X.env=[(fz,eval e X.env)]) :
  PI X (.Tuple es kk tp) (.Call (.Name "enumerate" p) [e] [] í) (tIt X i Φ<|.enum m) :=
 (Dn hg hm (ZK he gQ hs) hs).imp λσ H R ⟨env,G,QI,Em,p,w,c⟩=>by
  change tE X i Φ m σ H _;refine one p w λv G1 H1 x k1 p1 rx q=>?_;let⟨xs,e1,q2⟩:=fG q;clear q;cases Uo e1;rw[hK];cases rx with
  |tup hp hr=>exact⟨_,rfl,⟨_,Zl hp⟩,c _ _ G1 H1 _ k1 p1.hp (B3 hp hr) q2⟩
def B9(hc:X.calm=fy)(hK:X.K=i.K)(he:PE X e<|tE X i Φ m)(hg:Gl X "len")(hm:X.mg "len" = fx)(hg2:Gl X "set")(hm2:X.mg "set" = fx)(Ź:Ý [e] X.env=[(fz,eval e X.env)]) :
  PE X (.Call (.Name "len" p) [.Call (.Name "set" p2) [e] [] dj] [] í) (tE X i Φ<|.bi .lenSet<|.cons m .nil):=by
 refine(Z7 A9 hg hm (by kernel_rfl)<|ZK (Xw CH hg2 hm2 (by kernel_rfl) (ZK he gQ Ź) (he:=Ź)) gQ).imp λσ H Q ⟨env,G,Qm,Em,p,w,c⟩=>?_;change tE X i Φ m σ H _;refine one p w λv G1 H1 x k1 p1 r q=>?_
 replace q:(O.biLenSet G1 v).wp G1 Qm:=q
 unfold O.biLenSet at q;cases z:O.sortOf G1 v with
 |none=>rw[z]at q;exact(Zi q).elim
 |some ns =>
  rw[z]at q;dsimp only at q;split at q
  .rename_i h4;let⟨a,rfl,hs⟩:=Ow p1.hp r z;refine⟨a,ns,rfl,by rw[hK];exact hs,h4,hc,λl S n hl hn=>?_⟩;have hn2:=hn.trans<|FU ns;clear hn;subst hn2;have k2:f9 H1<|upd H1 l<|.set S (O.dedup ns).length:=f9.new hl;refine⟨l,S,_,rfl,fB,?_⟩;exact c _ G1 _ _ (k1.trans k2) (Jf p1.hp hl) (.int _)<|Zn q
  .exact(Zi q).elim
end Snd
namespace L2
open PySem PySem.Spec PyProof.Rows PySem.W
def Ud(h:StrsAre vs ss):gV (ss.map V.str) vs:=by
 induction h with
 |nil=>exact .nil
 |cons y t _ ih=>exact .cons ⟨t,rfl⟩ ih
def KA:fM X (.builtin "sorted") λxs H Q=>∃p,∃a b:Str,xs=[.ref p]/\gU X.K H p [.str a,.str b]/\∀l ss,H l=fx->ss.Perm [a,b]->sortedS ss=fy->Q (.ref l) (upd H l<|.lst<|ss.map V.str):=by
 k_put;let⟨p,a,b,rfl,hq,q⟩:=h;let⟨u,rfl,rx⟩:=ZU r;cases rx;let⟨ú,rv,⟨o,e1,e2,n,e3⟩,hz⟩:=I.tuple hq;have st:StrsAre ú [a,b]:=by
  cases rv with
  |cons r1 r2 =>
   cases r2 with
   |cons r3 r4 =>cases r4;let⟨t1,rfl⟩:=r1;let⟨t2,rfl⟩:=r3;exact .cons _ _<|.cons _ _ .nil
 have hl:ú.length=2:=rv.length.symm;refine Calls.call_function_entry kind_sorted fc fe (ff _) ?_;unfold Builtin.«sorted»;refine À (m:=checkCount "sorted" 1 1 _)<|È ?_;refine À (wpAny_collect_seq p (T:="tuple") (.inr rfl) e1 e2 e3 (λh1 k1=>?_)<|by rw[Ï,hl,θ];decide);have I1:Inv X Â σ H {s with heap:=h1}:=I.kept (t':=s.toks) k1;refine À (ay ?_<|by rw[hl,θ];decide);have dR:(h1.push<|ψ "list" ú.toArray 0).get? h1.objs.size=fw (ψ "list" ú.toArray 0):=Ø _ rfl;refine À (ĕ<|Ė cN ⟨_,dR,rfl⟩ b6 (list_sort_treeK strKind_oneLt dR st.keysOf (λv1 v2 rest e=>keyKind_strs<|e▸st) ↥0 λcX p1 p2=>⟨_,rfl,?_⟩)<|cO _);let⟨ss',s1,s2,s3⟩:=sorted_out_str st p1 p2;let⟨n2,he⟩:=dL (out:=Array.map (λx=>x.snd)<|arrOf cX) dR;refine È ⟨_,rfl,?_⟩;refine⟨.ref h1.objs.size,_,I1.laid (a:=h1.objs.size) (o:=.lst<|ss'.map V.str) (t':=s.toks) (λb o e=>?_) (Ì _) ?_,rfl,q _ ss' (I1.hok.fresh<|Ì _) s2 s3⟩
 .have Ϭ:=Ü e;rw[cP (é Ϭ)<|by rw[cM];exact ĥ Ϭ];exact Ä _ e
 .refine⟨by rw[Á,s2.length_eq];show 2<=à;rw[θ];decide,(Array.map (λx=>x.snd)<|arrOf cX).toList,n2,Ud s1,by rw[Array.toArray_toList];exact he⟩
end L2
namespace Snd
open PySem L2
variable {i:Inf}
def Cs{α:Type}{a b:α}:∀{ss:List α},ss.Perm [a,b]->ss=[a,b]\/ss=[b,a]
 |[],h=>by have:=h.length_eq;cases this
 |[_],h=>by have:=h.length_eq;cases this
 |[x,y],h=>by
  have hx:x∈[a,b]:=h.mem_iff.mp ó;rcases Ç.mp hx with e|e
  .subst e;have:=Α.mp<|ρ h;exact .inl (by rw[this])
  .have e:x=b:=Å.mp e;subst e;have:=Α.mp<|ρ<|h.trans<|List.Perm.swap _ _ _;exact .inr (by rw[this])
 |_::_::_::_,h=>by have:=h.length_eq;simp at this
def NE{K:Frag}:∀l:List String,RVs K H (l.map .str) ((l.map im).map V.str)
 |[]=>.nil
 |z::l=>.cons (.str z)<|NE l
def Gj(hK:X.K=i.K)(hg:Gl X "sorted")(hm:X.mg "sorted" = fx)(he:PE X e<|tE X i Φ m)(Ź:Ý [e] X.env=[(fz,eval e X.env)]):PE X (.Call (.Name "sorted" p) [e] [] í)<|tE X i Φ<|.sortT m:=by
 refine(Z7 KA hg hm (by kernel_rfl) (ZK he gQ Ź) (he:=Ź)).imp λσ H Q ⟨env,G,Qm,Em,p,w,c⟩=>?_;change tE X i Φ m σ H _;refine one p w λv G1 H1 x k1 p1 r q=>?_;let⟨pr,e1,q1⟩:=fG q;clear q;let⟨s,t⟩:=pr;have ev:v=.tup [.str s,.str t]:=by
  unfold O.pairS at e1;split at e1
  .cases e1;rfl
  .cases e1
 subst ev;cases r with
 |tup hp hr =>
  cases hr with
  |cons r1 r2 =>
   cases r2 with
   |cons r3 r4 =>
    cases r4;cases r1;cases r3;refine⟨_,_,_,rfl,by rw[hK];exact Zl hp,λl ss hl pm so=>?_⟩;have key:∀l2:List String,l2.Perm [s,t]->ss=l2.map im->Q (.ref l) (upd H1 l<|.lst<|ss.map V.str):=λl2 pm2 es=>by
     have nb:l2≠["parent","child"]:=λz=>by rw[es,z]at so;exact ij so ↥1
     rw[es];exact Yg p1.hp (q1 l2 pm2 nb) (c.go k1) (λp hp=>⟨_,fB,NE l2⟩) l hl
    rcases Cs pm with e|e
    .exact key [s,t] (.refl _) e
    .exact key [t,s] (List.Perm.swap _ _ _) e
end Snd
namespace L2
open PySem
@[reducible] noncomputable def Ris(xs:Array Nat):Prop:=xs.toList.Pairwise (· < ·)
abbrev O4(xs:Array Nat)(j lo:Nat):Prop:=lo<=xs.size/\(∀k x,k<lo->xs[k]?=fw x->x<j)/\∀k x,lo<=k->xs[k]?=fw x->j<=x
variable {xs:Array Nat}{a:Nat}{b:Nat}{x:Nat}
def X8(h:Ris xs)(hab:a<b)(ha:xs[a]?=fw x)(hb:xs[b]?=fw y):x<y:=by rw[<-Ą]at ha hb;let⟨h1,rfl⟩:=Ó.mp ha;let⟨h2,rfl⟩:=Ó.mp hb;exact List.pairwise_iff_getElem.mp h a b h1 h2 hab
def Ke(h:Ris xs):∀(f lo hi:Nat),hi - lo<=f->lo<=hi->hi<=xs.size->(∀k x,k<lo->xs[k]?=fw x->x<j)->(∀k x,hi<=k->xs[k]?=fw x->j<=x)->O4 xs j (bd xs j f lo hi)
 |0,lo,hi,h1,h2,h3,h4,h5=>by
  have e:lo=hi:=by lia
  subst e;exact⟨h3,h4,h5⟩
 |f+1,lo,hi,h1,h2,h3,h4,h5=>by
  unfold bd;by_cases hl:lo<hi
  .rw[hX hl];dsimp only;have hm:(lo+hi) / 2<xs.size:=by lia
   have hx:xs[(lo+hi) / 2]?=fw xs[(lo+hi) / 2]:=ý hm;have hg:xs.getD ((lo+hi) / 2) j=xs[(lo+hi) / 2]:=by simp[ϲ,hm]
   rw[hg];by_cases hc:xs[(lo+hi) / 2]<j
   .rw[hX hc];refine Ke h f _ _ ↥0 ↥0 h3 (λk x hk hkx=>?_) h5;by_cases hkm:k=(lo+hi) / 2
    .subst hkm;rw[hx]at hkx;cases hkx;exact hc
    .exact Δ (X8 h ↥0 hkx hx) hc
   .rw[hZ hc];refine Ke h f _ _ ↥0 ↥0 ↥0 h4 λk x hk hkx=>?_;by_cases hkm:k=(lo+hi) / 2
    .subst hkm;rw[hx]at hkx;cases hkx;lia
    .exact Û (Nat.not_lt.mp hc) (Γ<|X8 h ↥0 hx hkx)
  .rw[hZ hl];have e:lo=hi:=by lia
   subst e;exact⟨h3,h4,h5⟩
def Ov(h:Ris xs)(j:Nat):O4 xs j<|ĵ xs j:=by unfold ĵ;refine Ke h xs.size 0 xs.size ↥0 ↥0 ↥0 (λk x hk=>by lia) λk x hk hkx=>?_;rw[ύ hk]at hkx;cases hkx
variable {j:Nat}
def DG(ha:O4 xs j a)(hb:O4 xs j b):a=b:=by
 let⟨a1,a2,a3⟩:=ha;let⟨b1,b2,b3⟩:=hb;rcases Nat.lt_trichotomy a b with h|h|h
 .have hx:=ý (xs:=xs) (i:=a) ↥0;have:=b2 a _ h hx;have:=a3 a _ (Ì _) hx;lia
 .exact h
 .have hx:=ý (xs:=xs) (i:=b) ↥0;have:=a2 b _ h hx;have:=b3 b _ (Ì _) hx;lia
def Ay(h:Ris xs)(hx:xs[i]?=fw x):O4 xs (x+1)<|i+1:=by
 have hi:i<xs.size:=(Ĺ.mp hx).1;refine⟨hi,λk y hk hky=>?_,λk y hk hky=>X8 h ↥0 hx hky⟩;by_cases e:k=i
 .subst e;rw[hx]at hky;cases hky;lia
 .have:=X8 h (show k<i by lia) hky hx;lia
def AA(xs:Array Nat):O4 xs 0 0:=⟨Ę _,λk x hk=>by lia,λ_ _ _ _=>Ę _⟩
def GN(h:Ris xs)(hn:xs[ĵ xs j]?≠fw j):Ris<|SetTable.insertAt xs (ĵ xs j) j:=by
 let⟨c1,c2,c3⟩:=Ov h j;generalize ĵ xs j=p at c1 c2 c3 hn;unfold Ris;rw[SetTable.toList_insertAt];have hs:(xs.toList.take p++xs.toList.drop p).Pairwise (· < ·):=by rw[List.take_append_drop];exact h
 let⟨h1,h2,h3⟩:=Ϣ.mp hs;have hlo:∀a∈xs.toList.take p,a<j:=λa ha=>by let⟨k,hk,rfl⟩:=List.mem_take_iff_getElem.mp ha;refine c2 k _ ↥0 ?_;rw[<-Ą];exact Ê _
 have hhi:∀a∈xs.toList.drop p,j<a:=λa ha=>by
  let⟨k,e⟩:=cL.mp ha;rw[List.getElem?_drop,Ą]at e;have:=c3 (p+k) _ ↥0 e;rcases Nat.lt_or_ge j a with q|q
  .exact q
  .exfalso;have e2:a=j:=by lia
   subst e2;by_cases k0:k=0
   .subst k0;exact hn e
   .have hp:xs[p]?=fw (xs[p]'(by have:=(Ĺ.mp e).1;lia)):=ý _;have:=X8 h (show p<p+k by lia) hp e;have:=c3 p _ (Ì _) hp;lia
 exact Ϣ.mpr ⟨h1,ej.mpr ⟨hhi,h2⟩,λa ha b hb=>by
   rcases Ç.mp hb with rfl|hb
   . exact hlo a ha
   . exact Δ (hlo a ha)<|hhi b hb⟩
structure Tb(b:Bool)(t:Ÿ):Prop where
 led:b=fz->t.led=fy
 ris:Ris t.place
 dum:t.dummies=#[]
def NY(hd:t.dummies=#[]):∀(n:Nat) (p:SetTable.Probe) (j:Nat) (d:Option Nat),p.dummy=fx->ϒ t f h n p=fw (.empty j d)->t.slot j=.empty/\d=fx
 |0,p,j,d,h0,e=>by unfold ϒ at e;cases e
 |n+1,p,j,d,h0,e=>by
  unfold ϒ at e;cases hs:t.slot p.j with
  |empty =>rw[hs]at e;dsimp only at e;injection e with e;injection e with e1 e2;subst e1;exact⟨hs,e2▸h0⟩
  |dummy =>
   exfalso;unfold fh at hs;dsimp only at hs;split at hs
   .cases hs
   .rw[hd]at hs;simp[bu]at hs
  |live i =>
   rw[hs]at e;dsimp only at e;split at e
   .cases e
   .refine NY hd n _ j d ?_ e;unfold SetTable.advance;split
    .exact h0
    .exact h0
def F0{t:Ÿ}(hd:t.dummies=#[]){h:Int}{b:Bool}(e:t.freeSlot h=fw (j,b)):t.place[ĵ t.place j]?≠fw j:=by
 unfold SetTable.freeSlot at e;split at e
 .rename_i k d hp;let⟨h1,h2⟩:=NY hd _ _ _ _ rfl hp;subst h2;injection e with e;injection e with e1 e2;have e1:k=j:=e1;subst e1;unfold fh at h1;dsimp only at h1;split at h1
  .cases h1
  .rename_i hq;exact λz=>hq (by rw[z];exact beq_self_eq_true _)
 .cases e
def Wa{b:Bool}(h:Tb b t)(n:Nat):Tb b (t.standIn n) :=
 ⟨h.led,by show(Array.range n).toList.Pairwise _;rw[Array.toList_range];exact ż,rfl⟩
def Lw{b:Bool}(h:Tb b t)(es:Array<|Int×Ã)(k:Int)(x:Ã):Tb b (layNew t es k x).2.1:=by
 unfold layNew;split
 .rename_i slot wd hf;show Tb b (cp _ _);have hp:Tb b (t.put slot).1:=by
   refine⟨h.led,GN h.ris<|F0 h.dum hf,?_⟩;show(if bu t.dummies slot then _ else t.dummies)=#[];rw[h.dum];simp[bu]
  unfold cp;split
  .exact hp
  .exact Wa hp _
 .exact Wa h _
def CG{b:Bool}(h:Tb b t)(es:Array<|Int×Ã)(n:Nat):Tb b (relayAll t es n).2.1:=by
 unfold relayAll;split
 .rename_i t' order hr;dsimp only;split
  .unfold SetTable.relaid SetTable.laid at hr;cases hl:SetTable.layClean (SetTable.sizeAbove n - 1) (es.map (·.1))with
   |none=>rw[hl]at hr;cases hr
   |some owner =>rw[hl]at hr;cases hr;refine⟨h.led,?_,rfl⟩;show List.Pairwise _ (List.toArray _).toList;refine ģ.mpr<|List.pairwise_filterMap.mpr ?_;refine ż.imp λ{a c} hac x hx y hy=>?_;let⟨_,_,rfl⟩:=Ë.mp hx;let⟨_,_,rfl⟩:=Ë.mp hy;exact hac
  .exact Wa h _
 .exact Wa h _
end L2
namespace L2
open PySem PySem.Spec PyProof.Rows
section
variable (prog:è)(w:ÿ)
noncomputable abbrev byT:Bool:=w.params.followText "set-order"
abbrev SetI(h:Č)(a:Ð)(l:List Int):Prop:=∃o es ep t es0,h.get? a=fw o/\o.ExactSet/\o.data=.set es ep t/\ElemsOf (Š prog w) es.toList/\es.size<am/\t.fits es.size=fy/\
 Tb (byT w) t/\es.toList.Perm es0/\ā (es0.map (·.2)) l
end
def X1:∀{vs:List Ã}{ns:List Int},ā vs ns->vs.length=ns.length
 |_,_,.nil=>rfl
 |_,_,.cons _ _ r=>congrArg (· + 1)<|X1 r
def UL:∀{vs:List Ã}{ns:List Int}(n:Int) (t:Tok),ā vs ns->ā (vs++[.int n t]) (ns++[n])
 |_,_,n,t,.nil=>.cons n t .nil
 |_,_,n,t,.cons m u r=>.cons m u<|UL n t r
def Ua:∀{vs:List Ã}{ns:List Int},ā vs ns->(n∈ns↔∃v∈vs,(Š P w).is n v=fy)
 |_,_,.nil=>by simp
 |_,_,.cons m u r=>by
  have h:=Ua (P:=P) (w:=w) (n:=n) r;have hk:(Š P w).is n (.int m u)=ik (n=m):=KeyKind.is_eq_decide (intKind_is P w m u) n;rw[Ç,h];constructor
  .rintro(rfl|⟨v,hv,e⟩)
   .exact⟨_,ó,by rw[hk];simp⟩
   .exact⟨v,â _ hv,e⟩
  .rintro⟨v,hv,e⟩;rcases Ç.mp hv with rfl|hv
   .rw[hk]at e;exact .inl ⇑e
   .exact .inr ⟨v,hv,e⟩
variable {h:Č}{a:Ð}
def SetI.setOf(x:SetI P w h a l):h.SetOf (Š P w) a (λk=>ik (k∈l)) l.length:=by
 let⟨o,es,ep,t,es0,h1,h2,h3,h4,h5,h6,h7,h8,h9⟩:=x;refine⟨o,es,ep,t,h1,h2,h3,h4,λk=>?_,h5,h6,?_⟩
 .rw[decide_eq_true_iff,Ua (P:=P) (w:=w) h9];constructor
  .rintro⟨v,hv,e⟩;let⟨x,hx,rfl⟩:=Ñ.mp hv;exact⟨x,h8.mem_iff.mpr hx,e⟩
  .rintro⟨x,hx,e⟩;exact⟨_,Ñ.mpr ⟨x,h8.mem_iff.mp hx,rfl⟩,e⟩
 .rw[<-X1 h9,Á,<-h8.length_eq,ø]
section
def UW(ho:h.get? a=fw o)(hd:o.data=.set es ep t) :
  (h.update a<|fi es' t').get? a=fw {o with data:=.set es' (ep+1) t'}:=by
 have z:=ę (fi es' t') ho (by rw[putSet_of es' t' hd];rfl)
 rwa [putSet_of es' t' hd]at z
def add_int(hS:SetI prog w s.heap a l)(hroom:l.length+1<am)(k:∀h' b,ź a s.heap h'->SetI prog w h' a (ţ l n)->Q b {s with heap:=h'}):wpAny (á prog w) A (setAddHashed a (.int n tk)<|(Š prog w).hash n) Q E s:=by
 have hlen:=hS.setOf;let⟨o,es,ep,t,es0,ho,hex,hd,hel,hb,hf,ht,hp,hi⟩:=id hS;have hsz:es.size=l.length:=by rw[<-X1 hi,Á,<-hp.length_eq,ø]
 have hkey:(Š prog w).is n (.int n tk)=fy:=intKind_is _ _ _ _;unfold setAddHashed setAddHashedIn;refine ĕ<|À<|ũ ho hd hf ?_;dsimp only;rw[byScan_of rfl hb hel];simp![↓reduceIte];unfold setAddByScan;refine À<|À<|Ϧ<|À<|wpAny_setScan_of hkey ho hd hf hel ?_;have hm:n∈l↔∃e∈es.toList,(Š prog w).is n e.2=fy:=by
  rw[Ua (P:=prog) (w:=w) hi];constructor
  .rintro⟨v,hv,e⟩;let⟨x,hx,rfl⟩:=Ñ.mp hv;exact⟨x,hp.mem_iff.mpr hx,e⟩
  .rintro⟨x,hx,e⟩;exact⟨_,Ñ.mpr ⟨x,hp.mem_iff.mp hx,rfl⟩,e⟩
 cases hr:List.findIdx? (λe=>(Š prog w).is n e.2) es.toList with
 |some j =>
  let⟨hj,hpj,_⟩:=List.findIdx?_eq_some_iff_getElem.mp hr;have hn:n∈l:=hm.mpr ⟨_,ķ hj,hpj⟩;have e1:ţ l n=l:=by unfold ţ;rw[hX<|az.mpr ⟨n,hn,by simp⟩]
  rw[e1]at k;exact È<|È<|k s.heap fz (Heap.SameBut.refl a s.heap) hS
 |none =>
  have hn:n∉l:=λz=>by let⟨e,he,q⟩:=hm.mp z;have:=List.findIdx?_eq_none_iff.mp hr e he;rw[q]at this;cases this
  have e1:ţ l n=l++[n]:=by
   unfold ţ;rw[hZ];intro z;let⟨m,hm,q⟩:=az.mp z;have q:m=n:=⇑q
   exact hn<|q▸hm
  rw[e1]at k;have l1:=layNew_perm t es ((Š prog w).hash n)<|.int n tk;have l2:=layNew_fits t es ((Š prog w).hash n)<|.int n tk;have l3:=Lw ht es ((Š prog w).hash n)<|.int n tk;dsimp only;generalize hL:layNew t es ((Š prog w).hash n) (.int n tk)=L at l1 l2 l3 ⊢;let⟨cy,t1,wd,gv⟩:=L;dsimp only at l1 l2 l3 ⊢;rw[ez]at l1;have i1:ā ((es0++[((Š prog w).hash n,Value.int n tk)]).map (·.2))<|l++[n]:=by rw[Õ];exact UL n tk hi
  have p1:cy.toList.Perm<|es0++[((Š prog w).hash n,Value.int n tk)]:=l1.trans<|hp.append_right _;have hel1:ElemsOf (Š prog w) cy.toList:=(hel.push hkey rfl).perm l1;have hs1:cy.size=l.length+1:=by rw[<-ø,l1.length_eq,ì,ø,hsz];rfl
  have fin:∀(h':Č) (o':Obj) (ep':Nat) (es':Array<|Int×Ã) (t':Ÿ),ź a s.heap h'->h'.get? a=fw o'->o'.ExactSet->o'.data=.set es' ep' t'->es'.toList.Perm cy.toList->t'.fits es'.size=fy->Tb (byT w) t'->∀b,Q b {s with heap:=h'}:=λh' o' ep' es' t' sb g1 g2 g3 g4 g5 g6 b=>by refine k h' b sb ⟨o',es',ep',t',_,g1,g2,g3,hel1.perm g4,?_,g5,g6,g4.trans p1,i1⟩;rw[<-ø,g4.length_eq,ø,hs1];exact hroom
  have hz1:cy.size<=à:=be (by rw[hs1];exact hroom);have g0:∀(b:Bool){ġ:Æ}{Q':Unit->Æ->Prop},Q' () ġ->wpAny (á prog w) A (match b with|true=>rule "set.scan.the-table-gave-way" | false=>pure ()) Q' E ġ :=
   λb ġ Q' hq=>by cases b<;>first|exact È hq|exact Ϧ hq
  refine À<|g0 _ ?_;have bv:hashByValue 8 (.int n tk)=(pure fy:Sem Bool):=hashByValue_scannable 8 rfl;rw[bv,ite_self];refine À<|È ?_;simp![↓reduceIte];refine À<|wpAny_storeSet_of ho hd ?_ hz1;have ho1:=UW (es':=cy) (t':=t1) ho hd;have sb1:=ć s.heap a<|fi cy t1;split
  .have r1:=relayAll_perm t1 cy<|ϓ cy.size;have r2:=relayAll_fits t1 cy<|ϓ cy.size;have r3:=CG l3 cy<|ϓ cy.size;generalize relayAll t1 cy (ϓ cy.size)=R at r1 r2 r3 ⊢;let⟨es2,t2,gv2⟩:=R;dsimp only at r1 r2 r3 ⊢;refine À<|g0 _ ?_;refine À (wpAny_storeSet_of ho1 rfl ?_<|by rw[<-ø,r1.length_eq,ø];exact hz1);exact È<|È<|fin _ _ _ es2 t2 (sb1.trans<|ć _ a _) (UW ho1 rfl) hex rfl r1 r2 r3 _
  .exact È<|È<|fin _ _ _ cy t1 sb1 ho1 hex rfl .rfl l2 l3 _
end
def SetI.at(x:SetI P w h a l)(k:∀o,h.get? a=fw o->h'.get? a=fw o):SetI P w h' a l:=by let⟨o,es,ep,t,es0,h1,h2⟩:=x;exact⟨o,es,ep,t,es0,k _ h1,h2⟩
section
variable {prog:è}{w:ÿ}{A:Ď}{R:bB->Æ->Prop}{I:Ð}{fp wr:List Ð}{G:Array cA->Array cA->Prop}{n:Nat}{P:Nat->Ã->Prop}{St:Nat->Æ->Prop}
def Dw(W:WalksS prog w A.in1 I fp wr G n P St)(S:Ð)(hS:S∉fp)(val:Nat->Int)(hv:∀i v,P i v->∃t,v=.int (val i) t)(hb:n+1<am) :
  ∀(k i:Nat) (s:Æ),n - i=k->i<=n->St i s->SetI prog w s.heap S (ν val i)->(∀s',Moved (S::wr) G s s'->SetI prog w s'.heap S (ν val n)->R (.ok<|.ret .none) s')->
   codeAny (á prog w) A (.builtin "set.update.loop" ⟨[.ref S,.ref I],[]⟩) R s:=by
 have nw:S∉wr:=λz=>hS<|W.sub _ z;intro k;induction k with
 |zero =>
  intro i s h1 h2 st x r;obtain rfl:i=n:=by lia
  refine ĭ F.entry_set_update_loop ?_;rw[đ F.plain_set_update_loop _];show wpAny _ A.in1 (ϗ (.ref I) >>= _) _ _ s;refine À<|W.done s _ _ st λs' m=>?_;exact È<|r s' (m.mono λb hb=>â _ hb)<|x.at λo e=>m.heap S _ nw e
 |succ k ih =>
  intro i s h1 h2 st x r;have hi:i<n:=by lia
  refine ĭ F.entry_set_update_loop ?_;rw[đ F.plain_set_update_loop _];show wpAny _ A.in1 (ϗ (.ref I) >>= _) _ _ s;refine À<|W.item i s _ _ hi st λv s' p cX m=>?_;let⟨t,rfl⟩:=hv i v p;show wpAny _ A.in1 (ŕ [Value.int (val i) t] (setAdd S<|.int (val i) t) >>= _) _ _ s';refine À<|ĕ ?_;unfold setAdd;refine ĕ<|À<|(Š prog w).pyHash (k:=val i) (intKind_is _ _ _ _) ?_;refine add_int (s:={s' with toks:=s'.toks+1}) (x.at λo e=>m.heap S _ nw e) (by have:=aF val i;lia) λh' b sb x'=>?_;rw[<-firstMet_succ]at x';refine È ⟨ő F.plain_set_update_loop _,ih (i+1) _ ↥0 hi (W.frame _ s' _ _ cX (ň _) λb hb o e=>?_) x' λs'' m'' x''=>r s'' ?_ x''⟩
  .rw[sb.2 b λz=>hS<|z▸hb];exact e
  .refine Moved.trans W.gtrans ((m.mono λb hb=>â _ hb).then_heap (ň _) λb o hb e=>?_) m'';rw[sb.2 b λz=>hb<|z▸ó];exact e
end
section
noncomputable abbrev Jh(b:Bool):Obj:={cls:=.type "set",dict:=fx,data:=.set #[] 0 (.fresh 0 0 !b)}
def Ht(a:Ã)(h:Q (.ref s.heap.objs.size) {s with heap:=s.heap.push (Jh<|byT w)}) :
  codeAny (á prog w) A (.call (.builtin "set.__new__") ⟨[.type "set",a],[]⟩) (wants Q E) s:=by
 refine codeAny_of_tree ?_;show wpAny _ A.in1 (do checkBuiltinCall "set.__new__" ⟨[.type "set",a],[]⟩;again (.builtin "set.__new__" ⟨[.type "set",a],[]⟩)) _ _ s;refine À<|bN (F.newCall_set_1 a)<|È ⟨ő F.plain_set_new _,ĭ F.entry_set_new ?_⟩;rw[đ F.plain_set_new _];unfold Builtin.«set.__new__» Builtin.Frozenset.newClass;have hsub:=sub_set_self;let⟨hp,g,d,tk,os⟩:=s;dsimp only
 wp_walk
 refine ű<|È ?_;dsimp only;simp![newObj];exact À<|wpAny_alloc<|È<|È h
def B1{l:Ð}(hh:A.handled=fx)(hl:s.heap.IsList l items)(hi:ā items.toList ns)(hb:items.size+1<am)(h:∀(h':Č) (tk:Nat),SetI prog w h' s.heap.objs.size (ν (λi=>ns.getD i 0) items.size)->(∀b o,s.heap.get? b=fw o->h'.get? b=fw o)->Q (.ref s.heap.objs.size) {s with heap:=h',toks:=tk}) :
  wpAny (á prog w) A (call (.type "set") [.ref l]) Q E s:=by
 let⟨c,tl,hmro⟩:=F.called_set.mro;have hmade:=F.called_set.made;have hsub:=F.called_set.sub;have h1:=F.called_set.notType;have h2:=F.called_set.canCreate;have hct:=F.typeCall_set_1<|.ref l;refine wpAny_call<|codeAny_of_tree ?_;show wpAny _ _ (callAny (.type "set") _) _ _ _;refine È ⟨Code.quiet_builtin _ (by decide +kernel),ĭ F.entry_type_call ?_⟩;rw[Around.under_plain (weight_type_call_type "set" [.ref l] []) rfl]
 repeat (any_goals (first|assumption|wp_step))
 refine ι (Ht (.ref l) (E:=E) (Q:=λv s1=>v=.ref s.heap.objs.size/\s1={s with heap:=s.heap.push (Jh<|byT w)}) ⟨rfl,rfl⟩) λr s1 hr=>?_;cases r with
 |error e=>exact hr
 |ok fl =>
  cases fl with
  |ret obj =>
   let⟨rfl,rfl⟩:=hr;have hS:(s.heap.push<|Jh<|byT w).get? s.heap.objs.size=fw (Jh<|byT w):=Ø _ rfl;have hT:Shared.TypeIs {s with heap:=s.heap.push (Jh<|byT w)} (.ref s.heap.objs.size) "set":=⟨_,hS,rfl⟩
   have hli:=F.called_set.init.lookup;have hbi:=F.called_set.init.bind<|.ref s.heap.objs.size
   repeat (any_goals (first|assumption|wp_step))
   refine ι (codeAny_call_builtin (R:=wants (λr s2=>r=.none/\∃h' tk,s2={ s with heap:=h',toks:=tk }/\SetI prog w h' s.heap.objs.size (ν (λi=>ns.getD i 0) items.size)/\∀b o,s.heap.get? b=fw o->h'.get? b=fw o) E)
     F.called_set.init.plain F.entry_set_init (check_set_init_1 hT ?_)) λr s2 hr=>?_
   .have hlS:l<s.heap.objs.size:=by let⟨_,e,_⟩:=hl;exact Ü e
    have hl1:(s.heap.push<|Jh<|byT w).IsList l items:=hl.push _;let⟨ol,hol,aU,nl,hdl⟩:=id hl1;let⟨ocls,odict,odata,oslots⟩:=ol;simp only at aU hdl;subst aU hdl;have hsls:=F.sub_list_set;have hslf:=F.sub_list_frozenset;have ſ:(Value.type "list" == Value.type "dict")=fz:=by decide
    unfold Builtin.«set.__init__» noKeywords Builtin.Frozenset.updateFrom;generalize hPI:eU=PI
    wp_walk
    subst hPI;refine ϑ hl1<|À<|wpAny_runValue ?_;have hh3:A.in1.in1.in1.handled=fx:=by simp[hh]
    have zs:(s.heap.push<|Jh<|byT w).objs.size=s.heap.objs.size+1:=Ż ..;refine Dw ((Walks.list hh3 _ l (by rw[zs];exact é<|ĥ hlS) items).toS) s.heap.objs.size (by rw[zs];simp![Ç,Ö,or_false,not_or];exact⟨é<|Į _,Ū hlS⟩) (λi=>ns.getD i 0) (λi v hv=>IntsAre.int_at hi i v<|by rw[Ą];exact hv) hb (items.size - 0) 0 _ ↥0 (Ę _)
     ⟨⟨_,Ø _ rfl,rfl,rfl⟩,hl1.push _⟩ ?_ ?_
    .refine⟨_,#[],0,_,[],Ä _ hS,⟨rfl,rfl,rfl⟩,rfl,λe he=>by simp at he,by show 0<am;unfold am;lia,rfl,⟨λz=>by show(!byT w)=fy;rw[z];rfl,.nil,rfl⟩,.nil,.nil⟩
    .intro s' m x;let⟨h',g',d',tk',os'⟩:=s';have eg:g'=s.gens:=m.gens;have ed:d'=s.drawn:=m.drawn;have eo:os'=s.os:=m.os;subst eg ed eo;refine È ?_;show wpAny _ _ (ret Value.none) _ _ _;refine È ⟨rfl,h',tk',rfl,x,λb o e=>?_⟩;have hb:=Ü e;exact m.heap b o (by rw[zs];simp![Ç,Ö,or_false,not_or];exact⟨é hb,é<|ĥ hb⟩)<|Ä _<|Ä _ e
   .cases r with
    |error e=>exact hr
    |ok fl =>
     cases fl with
     |ret r =>
      let⟨rfl,h',tk,rfl,x,hk⟩:=hr
      repeat (any_goals (first|assumption|wp_step))
      exact h _ _ x hk
     |_=>exact hr.elim
  |_=>exact hr.elim
end
end L2
namespace L2
open PySem PySem.Spec PyProof.Rows
open PySem.Builtin
def Eb:entryFor table "set.__iter__" = fw Builtin.«frozenset.__iter__»:=entryFor_alias (id':="frozenset.__iter__") (by kernel_rfl) rfl (by decide +kernel) (by kernel_rfl)
def CW:entryFor table "set_iterator.__next__" = fw Builtin.«set_iterator.__next__»:=entryFor_of_tree (by kernel_rfl)
def DT(a:Ã):cK "set_iterator.__next__" ⟨[a],[]⟩:=by unfold cK;kernel_rfl
def slot_snext:Slot "set_iterator" "__next__" "set_iterator.__next__" :=
 .of (owner:="set_iterator") (n:="__next__") (by rw[typeLookup_type,builtinLookup_eq_fast];kernel_rfl) (by decide +kernel) (by decide +kernel) (by decide +kernel)
  (by first|exact .inl (by decide +kernel)|exact .inr<|by decide +kernel) (by rw[cR];kernel_rfl)
def Ju:Slot "set_iterator" "__iter__" "set_iterator.__iter__" :=
 .of (owner:="set_iterator") (n:="__iter__") (by rw[typeLookup_type,builtinLookup_eq_fast];kernel_rfl) (by decide +kernel) (by decide +kernel) (by decide +kernel)
  (by first|exact .inl (by decide +kernel)|exact .inr<|by decide +kernel) (by rw[cR];kernel_rfl)
def DD:entryFor table "set_iterator.__iter__" = fw Builtin.«dict_keyiterator.__iter__»:=entryFor_alias (id':="dict_keyiterator.__iter__") (by kernel_rfl) rfl (by decide +kernel) (by kernel_rfl)
def Dj(a:Ã):cK "set_iterator.__iter__" ⟨[a],[]⟩:=by unfold cK;kernel_rfl
def X3{α:Type}:∀{l:List α}{i:Nat}(h:i<l.length),(l[i]::l.eraseIdx i).Perm l
 |a::l,0,h=>.rfl
 |a::l,i+1,h=>(List.Perm.swap a _ _).trans<|(X3 (l:=l)<|Nat.lt_of_succ_lt_succ h).cons a
def An(f:Nat->Nat):∀(n k:Nat) (l:List α) (out:Array α),l.length=n->(bf f n k l out).toList.Perm (out.toList++l)
 |0,k,l,out,h=>by
  cases l with
  |nil=>unfold bf;simp
  |cons _ _=>cases h
 |n+1,k,l,out,h=>by unfold bf;have Ϭ:f k % l.length<l.length:=Nat.mod_lt _ ↥0;rw[Ê Ϭ];dsimp only;refine(An f n (k+1) _ _<|by rw[Ζ Ϭ];lia).trans ?_;rw[ez,Ć];exact(X3 Ϭ).append_left _
def A4(f:Nat->Nat)(xs:Array α):(pickOrder f xs).toList.Perm xs.toList:=by unfold pickOrder;simpa using An f xs.size 0 xs.toList #[] (by simp)
section
variable {prog:è}{w:ÿ}{A:Ď}{s:Æ}
variable {n:Nat}
def A0(hn:0<n)(h:∀k d,k<n->Q k {s with drawn:=d}):wpAny (á prog w) A (choose src n) Q E s :=
 λ_ _ _=>⟨Ū hn,h _ _<|Nat.mod_lt _ hn⟩
def Od:∀(n:Nat) (xs:List α){s:Æ}{Q:List α->Æ->Prop},xs.length=n->(∀ys d,ys.Perm xs->Q ys {s with drawn:=d})->wpAny (á prog w) A (eC n xs) Q E s
 |0,[],s,Q,_,h=>by unfold eC;exact È<|h [] s.drawn .nil
 |0,_::_,_,_,h,_=>by cases h
 |n+1,[],_,_,h,_=>by cases h
 |n+1,x::xs,s,Q,hl,h=>by unfold eC;refine À (A0 (by simp) λk d hk=>?_);rw[Ê hk];dsimp only;refine À (Od n _ (by rw[Ζ hk];lia) λys d2 hp=>È<|h _ d2 ?_);exact(hp.cons _).trans<|X3 hk
abbrev SetIt(h:Č)(it a:Ð)(f:Ã)(i n ep:Nat):Prop:=∃o,h.get? it=fw o/\o.cls=.type "set_iterator"/\o.data=.fields #[f,.int i 0,.ref a,.int n 0,.int ep 0]
variable {it:Ð}{a:Ð}{f:Ã}{i:Nat}{ep:Nat}
def SetIt.typeIs(h:SetIt s.heap it a f i n ep):s.TypeIs (.ref it) "set_iterator":=by let⟨o,h1,h2,_⟩:=h;exact⟨o,h1,h2⟩
structure SetO(h:Č)(a:Ð)(o:Obj)(es:Array<|Int×Ã)(ep:Nat)(t:Ÿ):Prop where
 at_:h.get? a=fw o
 dat:o.data=.set es ep t
 fit:t.fits es.size=fy
def NT(hit:SetIt s.heap it a f i n ep)(h:Q (.ref it) s):wpAny (á prog w) A (eU<|.ref it) Q E s:=by have hT:=hit.typeIs;refine wpAny_pyIter_slot hT Ju<|Ė Ju hT DD ?_<|Dj _;show wpAny _ _ (ret<|.ref it) _ _ s;exact È ⟨_,rfl,"set_iterator",_,hT,slot_snext.lookup,h⟩
variable {Q:Option Ã->Æ->Prop}
def US(hh:A.handled=fx)(hQ:∀h',(∀b o,s.heap.get? b=fw o->h'.get? b=fw o)->Q fx {s with heap:=h'}) :
  wpAny (á prog w) A (do raiseNew (<-newExc (.type "StopIteration") []):Sem Fin) (λ_ _=>False) (λe s'=>∃h',(∀b o,s.heap.get? b=fw o->h'.get? b=fw o)/\s'={s with heap:=h'}/\s'.TypeIs e "StopIteration") s:=by
 show wpAny _ _ (newExc (.type "StopIteration") [] >>= _) _ _ _;refine À ?_;simp![newExc,newTuple];refine À (ċ ?_<|by size_fits);refine À (m:=Ϲ _ _) (bN (a:=Value.none) (by first|rfl|(simp![Ϲ];rfl)) ?_);refine ċ ?_ (by size_fits);simp![raiseNew];refine À<|wpAny_handled ?_;rw[hh];refine À<|È<|wpAny_throw ?_;exact⟨_,λb o e=>Ä _<|Ä _ e,rfl,_,Ø _ rfl,rfl⟩
def WW(hT:s.TypeIs (.ref it) "set_iterator")(h:wpAny (á prog w) A.in1 (Builtin.«set_iterator.__next__» ⟨[.ref it],[]⟩) (λfin s'=>∃v,fin=.done (.ret v)/\Q (fw v) s') (λe s'=>s'.TypeIs e "StopIteration"/\Q fx s') s):wpAny (á prog w) A (ϗ<|.ref it) Q E s:=by
 unfold ϗ;refine À<|wpAny_attempt<|ĳ (name:=im "__next__") hT slot_snext<|Ė slot_snext hT CW ?_<|DT _;refine į h (λfin s' ⟨v,e,q⟩=>⟨v,e,È q⟩) λe s' ⟨t,q⟩=>?_;refine À<|bE (T:="StopIteration") (b:=fy) t isSubtype_stop ?_;exact È q
abbrev NX(prog:è)(w:ÿ)(a:Ð)(o:Obj)(ep:Nat)(f:Nat->Nat)(ord:List Ã):Prop :=
 ∀(A:Ď) (s:Æ) (Q:Option (Ã×Nat)->Æ->Prop) (E:Ã->Æ->Prop) (i:Nat),i<=ord.length->s.heap.get? a=fw o->Q (ord[i]?.map (·,f<|i+1)) s->wpAny (á prog w) A (setNext a (f i) i ep) Q E s
def Nb{h:Č}{o:Obj}{vs:Array Ã}{k:Nat}{x:Ã}(ho:h.get? it=fw o)(hc:o.cls=.type "set_iterator")(hd:o.data=.fields vs) :
  ∃o',(h.update it (Χ (·.setIfInBounds k x))).get? it=fw o'/\o'.cls=.type "set_iterator"/\o'.data=.fields (vs.setIfInBounds k x) :=
 ⟨_,ę _ ho<|dk<|Κ hd _,(Obj.cls_mapFields ..).trans hc,Κ hd _⟩
end
def Walks.setT{prog:è}{w:ÿ}{A:Ď}(hh:A.handled=fx)(I a:Ð)(ſ:a≠I){o:Obj}{es:Array (Int×Ã)}{ep:Nat}{t:Ÿ}{f:Nat->Nat}{ord:List Ã}(hl:ord.length=es.size)(nx:NX prog w a o ep f ord) :
  Walks prog w A I [I,a] [I] es.size (λi v=>ord[i]?=fw v) (λi h=>SetIt h I a (.int (f i) 0) i es.size ep/\SetO h a o es ep t) where
 sub:=λb hb=>by simp at hb;simp[hb]
 frame:=λ_ _ _ st hk=>⟨by let⟨o,h1,h2⟩:=st.1;exact⟨o,hk I (by simp) o h1,h2⟩,hk a (by simp) _ st.2.at_,st.2.dat,st.2.fit⟩
 item:=λi s Q E hi st hQ=>by let⟨st,so⟩:=st;refine WW st.typeIs ?_;let⟨oi,h1,h2,h3⟩:=st;show wpAny _ _ (fieldsOf (.ref I) >>= _) _ _ s;refine À<|ab h1 h3 ?_;dsimp only;refine À<|ŵ so.at_ so.dat so.fit ?_;refine ŉ (λz=>ij z<|by simp) λ_=>?_;rw[ç,ç,ç];have hx:ord[i]?=fw ord[i]:=Ê ↥0;refine À (nx _ s _ _ i ↥0 so.at_ ?_);rw[hx];dsimp only[Option.map];refine À (ń h1 h3 (by simp) ?_);let⟨o2,g1,g2,g3⟩:=Nb (k:=0) (x:=Ĩ<|f<|i+1) h1 h2 h3;refine À (ń g1 g3 (by simp) ?_);let⟨o4,g4,g5,g6⟩:=Nb (k:=1) (x:=Ĩ<|(i:Int)+1) g1 g2 g3;have sb:=(ć s.heap I (Χ (·.setIfInBounds 0 (Ĩ<|f<|i+1)))).trans (ć _ I (Χ (·.setIfInBounds 1 (Ĩ<|(i:Int)+1))));refine È ⟨_,rfl,hQ _ _ s.toks hx ⟨⟨o4,g4,g5,by rw[g6];simp[Ĩ]⟩,?_,so.dat,so.fit⟩ λb ob hb e=>sb.extBut b ob (λz=>hb<|by simp[z]) e⟩;exact sb.extBut a _ ſ so.at_
 done:=λs Q E st hQ=>by
  let⟨st,so⟩:=st;refine WW st.typeIs ?_;let⟨oi,h1,h2,h3⟩:=st;show wpAny _ _ (fieldsOf (.ref I) >>= _) _ _ s;refine À<|ab h1 h3 ?_;dsimp only;refine À<|ŵ so.at_ so.dat so.fit ?_;refine ŉ (λz=>ij z<|by simp) λ_=>?_;rw[ç,ç,ç];refine À (nx _ s _ _ es.size ↥0 so.at_ ?_);rw[Ŀ<|by lia];dsimp only[Option.map];refine À (ń h1 h3 (by simp) ?_);refine į (US (A:=A.in1) (Q:=Q) hh λh' hk=>?_) (λ_ _ z=>z.elim) λe s' ⟨h',hk,e2,tt⟩=>⟨tt,?_⟩
  .exact hQ h' s.toks λb ob hb e=>hk b ob ((ć s.heap I _).extBut b ob (λz=>hb<|by simp[z]) e)
  .subst e2;exact hQ h' s.toks λb ob hb e=>hk b ob ((ć s.heap I _).extBut b ob (λz=>hb<|by simp[z]) e)
 self:=λ_ _ _ _ st hQ=>NT st.1 hQ
def Walks.setD{prog:è}{w:ÿ}{A:Ď}(hh:A.handled=fx)(I a T:Ð)(ſ:a≠I)(hnT:T≠I){o oT:Obj}{es:Array (Int×Ã)}{ep:Nat}{t:Ÿ}{ks:List Nat}(hl:ks.length=es.size)(hk:∀k∈ks,k<es.size)
  (hT:oT.data=.seq (ks.map λ(k:Nat)=>Ĩ k).toArray) :
  Walks prog w A I [I,a,T] [I] es.size (λi v=>(ks.map λk=>(es.getD k (0,.none)).2)[i]?=fw v) (λi h=>SetIt h I a (.ref T) i es.size ep/\SetO h a o es ep t/\h.get? T=fw oT) where
 sub:=λb hb=>by simp at hb;simp[hb]
 frame:=λ_ _ _ st hk=>⟨by let⟨o,h1,h2⟩:=st.1;exact⟨o,hk I (by simp) o h1,h2⟩,⟨hk a (by simp) _ st.2.1.at_,st.2.1.dat,st.2.1.fit⟩,hk T (by simp) _ st.2.2⟩
 item:=λi s Q E hi st hQ=>by
  let⟨st,so,sT⟩:=st;refine WW st.typeIs ?_;let⟨oi,h1,h2,h3⟩:=st;show wpAny _ _ (fieldsOf (.ref I) >>= _) _ _ s;refine À<|ab h1 h3 ?_;dsimp only;refine À<|ŵ so.at_ so.dat so.fit ?_;refine ŉ (λz=>ij z<|by simp) λ_=>?_;refine À<|ś sT hT ?_;have hi':i<ks.length:=by lia
  have hx:ks[i]?=fw ks[i]:=Ê hi';have hki:=hk ks[i]<|ķ hi';have hp:((ks.map λ(k:Nat)=>Ĩ k).toArray)[(i:Int).toNat]?=fw (.int (ks[i]:Nat) 0):=by rw[ç];simp[hx,Ĩ]
  dsimp only;rw[hp];dsimp only;rw[ç,ç];unfold setNextDrawn;refine À<|À<|ũ so.at_ so.dat so.fit ?_;dsimp only;refine ŉ (λz=>ij z<|by simp) λ_=>?_;have he:es[ks[i]]?=fw es[ks[i]]:=ý hki;rw[he];dsimp only;refine È ?_;refine À (ń h1 h3 (by simp) ?_);let⟨o4,g4,g5,g6⟩:=Nb (k:=1) (x:=Ĩ<|(i:Int)+1) h1 h2 h3;have sb:=ć s.heap I (Χ (·.setIfInBounds 1 (Ĩ<|(i:Int)+1)));refine È ⟨_,rfl,hQ _ _ s.toks ?_ ⟨⟨o4,g4,g5,by rw[g6];simp[Ĩ]⟩,⟨sb.extBut a _ ſ so.at_,so.dat,so.fit⟩,sb.extBut T _ hnT sT⟩ λb ob hb e=>sb.extBut b ob (λz=>hb<|by simp[z]) e⟩;rw[Ú,hx];simp[ϲ,hki]
 done:=λs Q E st hQ=>by
  let⟨st,so,sT⟩:=st;refine WW st.typeIs ?_;let⟨oi,h1,h2,h3⟩:=st;show wpAny _ _ (fieldsOf (.ref I) >>= _) _ _ s;refine À<|ab h1 h3 ?_;dsimp only;refine À<|ŵ so.at_ so.dat so.fit ?_;refine ŉ (λz=>ij z<|by simp) λ_=>?_;refine À<|ś sT hT ?_;have hp:((ks.map λ(k:Nat)=>Ĩ k).toArray)[(es.size:Int).toNat]?=fx:=by rw[ç];simp[hl]
  dsimp only;rw[hp];dsimp only;refine À (ń h1 h3 (by simp) ?_);let⟨o4,g4,g5,g6⟩:=Nb (k:=0) (x:=Ĩ 0) h1 h2 h3;refine À (ń g4 g6 (by simp) ?_);refine į (US (A:=A.in1) (Q:=λ_ _=>True) hh λ_ _=>trivial) (λ_ _ z=>z.elim) λe s' ⟨h',hk,e2,tt⟩=>⟨tt,?_⟩
  subst e2;exact hQ h' s.toks λb ob hb e=>hk b ob ((ć _ I _).extBut b ob (λz=>hb<|by simp[z])<|(ć s.heap I _).extBut b ob (λz=>hb<|by simp[z]) e)
 self:=λ_ _ _ _ st hQ=>NT st.1 hQ
section
variable {a:Ð}{ep:Nat}{t:Ÿ}
def Hj(hb:byT w=fy)(hd:o.data=.set es ep t)(hf:t.fits es.size=fy):NX prog w a o ep (λ_=>0) ((pickOrder (w.params.setOrder a ep) es).toList.map (·.2)):=λA s Q E i hil ho h=>by unfold setNext;refine À<|ũ ho hd hf ?_;dsimp only;unfold Ϫ;refine À<|À<|ű<|È ?_;have bJ:(á prog w).w.params.followText "set-order" = fy:=hb;dsimp only;rw[bJ];simp![↓reduceIte,bne_self_eq_false,ī];refine À ?_;unfold setWalk Ϫ;refine À<|ũ ho hd hf ?_;dsimp only;refine À<|À<|ű<|È ?_;dsimp only;rw[bJ];simp![↓reduceIte];refine À<|ű<|È<|È ?_;dsimp only;rw[Ú,Ą,Option.map_map]at h;exact h
def Pk(hb:byT w=fz)(tb:Tb (byT w) t)(hpl:(!t.plain&&ik (es.size > 1))=fz)(hd:o.data=.set es ep t)(hf:t.fits es.size=fy) :
  NX prog w a o ep (λi=>match i with|0=>0|k+1=>t.place.getD k 0+1) (es.toList.map (·.2)):=λA s Q E i hil ho h=>by
 have e0:∀slot,setNext a slot i ep=(do
     let (es,epoch,t)<-setState a
     if<-Ϫ then
       if epoch != ep then ac "set_iterator.__next__:elements-changed"
       return ((<-setWalk a)[i]?).map λe=>(e.2,slot)
     if(!t.plain&&ik (es.size > 1))then ac "set_iterator.__next__:the-table-is-plain-no-more"
     (do if !t.led && !es.isEmpty then ac "set:maker-not-led")
     let i:=ĵ t.place slot
     return match es[i]?,t.place[i]? with
       |some (_,x),fw j=>fw (x,j+1)
       | _,_=>fx):=λ_=>rfl
 rw[e0];refine À<|ũ ho hd hf ?_;dsimp only;unfold Ϫ;refine À<|À<|ű<|È ?_;have bJ:(á prog w).w.params.followText "set-order" = fz:=hb;have hled:=tb.led hb;dsimp only;rw[bJ,hpl,hled];simp![ī,↓reduceIte,Bool.not_true,Bool.false_and];refine È ?_;have hsz:t.place.size=es.size:=by simp![SetTable.fits,bAq,beq_iff_eq,ii]at hf;exact hf.1
 have fin:∀slot,i<=es.size->O4 t.place slot i->Q (match es[ĵ t.place slot]?,t.place[ĵ t.place slot]? with|some (_,x),fw j=>fw (x,j+1)|_,_=>fx) s:=λslot hi hc=>by
  rw[DG (Ov tb.ris slot) hc];rw[Ú,Ą]at h;by_cases Ϭ:i<es.size
  .have h1:es[i]?=fw es[i]:=ý Ϭ;have h2:t.place[i]?=fw (t.place[i]'↥0):=ý _;rw[h1]at h ⊢;rw[h2];have h3:t.place.getD i 0=t.place[i]'↥0:=by simp[ϲ,show i<t.place.size by lia]
   dsimp only[Option.map]at h ⊢;rw[h3]at h;exact h
  .have h1:es[i]?=fx:=ύ ↥0;rw[h1]at h ⊢;exact h
 cases i with
 |zero=>exact fin 0 (Ę _)<|AA _
 |succ k =>
  have hk:k<t.place.size:=by simp at hil;lia
  refine fin _ ↥0<|Ay tb.ris ?_;rw[ý hk];simp[ϲ,hk]
end
structure Near(s s':Æ):Prop where
 heap:∀b o,s.heap.get? b=fw o->s'.heap.get? b=fw o
 gens:s'.gens=s.gens
 os:s'.os=s.os
def GH:∀{vs us:List Ã}{ns:List Int},vs.Perm us->ā us ns->∃ms,ms.Perm ns/\ā vs ms:=by
 intro vs us ns h;induction h generalizing ns with
 |nil=>exact λr=>by cases r;exact⟨[],.nil,.nil⟩
 |cons x _ ih =>
  intro r;cases r with
  |cons n t r=>let⟨ms,h1,h2⟩:=ih r;exact⟨n::ms,h1.cons n,.cons n t h2⟩
 |swap x y l =>
  intro r;cases r with
  |cons n t r=>cases r with
   |cons m u r=>exact⟨m::n::_,.swap _ _ _,.cons m u<|.cons n t r⟩
 |trans _ _ ih1 ih2 =>intro r;let⟨ms,h1,h2⟩:=ih2 r;let⟨ks,h3,h4⟩:=ih1 h2;exact⟨ks,h3.trans h1,h4⟩
section
def EB(hT:s.TypeIs (.ref r) "set")(h:Q fz s):wpAny (á prog w) A (Builtin.List.listLengthHint<|.ref r) Q E s:=by
 unfold Builtin.List.listLengthHint;refine À<|wpAny_specialOf hT PySem.F.slot_set_len.lookup ?_;generalize hid:("set.__len__" : String)=id0
 wp_delta
 rw[show splitId id0=fw ("set","__len__") from by subst hid;decide +kernel];subst hid;refine À (bE (T:="set") (b:=fy) hT (by rw[cR];kernel_rfl) ?_);refine ŉ (λhab=>ij hab<|by decide) λ_=>?_;refine ŉ (λ_=>?_) (λhab=>ij (by decide +kernel) hab);exact À<|ϥ hT<|È h
def DH(hh:A.handled=fx)(hS:SetI prog w s.heap a l)(h:∀s' I fp St vs ms,Near s s'->s.heap.objs.size<=I->(∀b∈fp,b=a\/s.heap.objs.size<=b)->ms.Perm l->ā vs ms->Walks prog w A I fp [I] l.length (λi v=>vs[i]?=fw v) St->St 0 s'.heap->Q (.ref I) s') :
  wpAny (á prog w) A (eU<|.ref a) Q E s:=by
 let⟨o,es,ep,t,es0,ho,hex,hd,hel,hb,hf,ht,hp,hi⟩:=id hS;have hsz:es.size=l.length:=by rw[<-X1 hi,Á,<-hp.length_eq,ø]
 rw[<-hsz]at h;have hT:s.TypeIs (.ref a) "set":=⟨o,ho,hex.1⟩
 have Ϭ:=Ü ho;refine wpAny_pyIter_slot hT F.slot_set_iter<|Ė F.slot_set_iter hT Eb ?_<|F.args_set_iter_1 _;have e0:Builtin.«frozenset.__iter__» ⟨[.ref a],[]⟩=(do
     let n<-cS a
     let d<-(do
       let (es,_,t)<-setState a
       let byText<-Ϫ
       return !byText&&(!t.plain&&ik (es.size > 1)))
     let first<-if d then newTuple ((<-eC n (List.range n)).map λ(i:Nat)=>Ĩ i)else pure (Ĩ 0)
     ret (<-newFields "set_iterator" [first,Ĩ 0,.ref a,Ĩ n,Ĩ (<-setEpoch a)])):=rfl
 rw[e0];unfold cS;refine À<|À<|ŵ ho hd hf<|È ?_;refine À<|À<|ũ ho hd hf ?_;dsimp only;unfold Ϫ;refine À<|À<|ű<|È<|È ?_;have ebt:(á prog w).w.params.followText "set-order" = byT w:=rfl;dsimp only;rw[ebt];have mapP:∀es':List<|Int×Ã,es'.Perm es.toList->∃ms,ms.Perm l/\ā (es'.map (·.2)) ms:=λes' q=>GH ((q.trans hp).map _) hi;by_cases hdr:(!byT w&&(!t.plain&&ik (es.size > 1)))=fy
 .rw[hX hdr];refine À (Od es.size (List.range es.size) (by simp) λks d hks=>À ?_);have hkl:ks.length=es.size:=by rw[hks.length_eq,ı]
  refine wpAny_newTuple ?_ (by rw[Á,hkl];exact be hb);refine À<|wpAny_setEpoch_of (Ä _ ho) hd hf ?_;refine À<|ċ<|È ⟨_,rfl,"set_iterator",_,⟨_,Ø _ rfl,rfl⟩,slot_snext.lookup,?_⟩;have zs:(s.heap.push { cls:=.type "tuple",dict:=fx,data:=.seq (List.map (λ(i:Nat)=>Ĩ i) ks).toArray }).objs.size=s.heap.objs.size+1:=Ż ..;let⟨ms,m1,m2⟩:=mapP (ks.map λk=>es.getD k (0,.none)) (by
    refine(hks.map _).trans<|List.Perm.of_eq ?_
    refine List.ext_getElem (by simp) λi h1 h2=>?_
    have hi:i<es.size:=⇑h1
    simp[ϲ,hi])
  rw[ë]at m2;refine h _ _ [_,a,s.heap.objs.size] _ _ ms ⟨λb o e=>Ä _<|Ä _ e,rfl,rfl⟩ (by rw[zs];exact ň _) (λb hb=>?_) m1 m2
   (Walks.setD (o:=o) (oT:={cls:=.type "tuple",dict:=fx,data:=.seq (List.map (λ(i:Nat)=>Ĩ i) ks).toArray}) (es:=es) (ep:=ep) (t:=t) (ks:=ks) hh _ a s.heap.objs.size (by rw[zs];exact é<|ĥ Ϭ) (by rw[zs];exact é<|Į _) hkl (λk hk=>ŏ.mp<|hks.mem_iff.mp hk) rfl)
   ⟨⟨_,Ø _ rfl,rfl,rfl⟩,⟨Ä _<|Ä _ ho,hd,hf⟩,Ä _<|Ø _ rfl⟩
  simp![Ç,Ö,or_false]at hb;rcases hb with rfl|rfl|rfl
  .exact .inr (by rw[zs];exact ň _)
  .exact .inl rfl
  .exact .inr<|Ì _
 .rw[hZ hdr];refine À<|È ?_;refine À<|wpAny_setEpoch_of ho hd hf ?_;refine À<|ċ<|È ⟨_,rfl,"set_iterator",_,⟨_,Ø _ rfl,rfl⟩,slot_snext.lookup,?_⟩;have go:∀(f:Nat->Nat) (es':List<|Int×Ã),f 0=0->es'.Perm es.toList->NX prog w a o ep f (es'.map (·.2))->Q (.ref s.heap.objs.size) {s with heap:=s.heap.push {cls:=.type "set_iterator",dict:=fx,data:=.fields [Ĩ 0,Ĩ 0,.ref a,Ĩ es.size,Ĩ ep].toArray}}:=λf es' f0 hes nx=>by
   let⟨ms,m1,m2⟩:=mapP es' hes;have hl:(es'.map (·.2)).length=es.size:=by rw[Á,hes.length_eq,ø]
   refine h _ _ [_,a] _ _ ms ⟨λb o e=>Ä _ e,rfl,rfl⟩ (Ì _) (λb hb=>?_) m1 m2 (Walks.setT (t:=t) hh _ a (é Ϭ) hl nx) ⟨⟨_,Ø _ rfl,rfl,by rw[f0];rfl⟩,Ä _ ho,hd,hf⟩;simp![Ç,Ö,or_false]at hb;rcases hb with rfl|rfl
   .exact .inr<|Ì _
   .exact .inl rfl
  cases hbt:byT w with
  |true=>exact go _ _ rfl (A4 _ es)<|Hj hbt hd hf
  |false =>rw[hbt]at hdr;exact go (λi=>match i with|0=>0|k+1=>t.place.getD k 0+1) _ rfl .rfl (Pk hbt ht ⇑hdr hd hf)
end
end L2
namespace L2
open PySem PySem.Spec PyProof.Rows
def EM(h:ItemsOf (λi v=>vs[i]?=fw v) Ķ n)(hn:vs.length=n):Ķ.toList=vs:=by
 refine List.ext_getElem? λi=>?_;rw[Ą];by_cases hi:i<Ķ.size
 .rw[ý hi];exact(h.2 i _<|ý hi).symm
 .rw[ύ ↥0,Ŀ (by have:=h.1;lia)]
section
variable {w:ÿ}{A:Ď}{E:Ã->Æ->Prop}{s:Æ}
variable {a:Ð}{l:List Int}
def Gz(hh:A.handled=fx)(hS:SetI prog w s.heap a l)(S:Ð)(hSa:S≠a)(hs:s.heap.get? S=fw {cls:=.type "list",data:=.seq #[] 0})(h:∀s' vs ms c,s'.gens=s.gens->s'.os=s.os->(∀b o,b≠S->s.heap.get? b=fw o->s'.heap.get? b=fw o)->ms.Perm l->ā vs ms->s'.heap.get? S=fw {cls:=.type "list",dict:=fx,data:=.seq vs.toArray c,slots:=#[]}->R (.ok<|.ret<|.ref S) s') :
  wpAny (á prog w) A.in1 (Builtin.List.listExtendWith (.ref S) (.ref a)<|.ref S) (λfin s'=>match fin with|.done f=>R (.ok f) s'|.again c'=>c'.quiet=fy/\codeAny (á prog w) A c' R s') (λe s'=>R (.error e) s') s:=by
 have hl:=hS.setOf;let⟨o,es,ep,t,es0,ho,hex,hd,hel,hb,hf,ht,hp,hi⟩:=id hS;have hsz:l.length<=à:=be (by rw[<-X1 hi,Á,<-hp.length_eq,ø];exact hb);have hT:s.TypeIs (.ref a) "set":=⟨o,ho,hex.1⟩
 have hSs:S<s.heap.objs.size:=Ü hs;unfold Builtin.List.listExtendWith;refine À<|ϥ (T:="set") hT ?_;have h1:Builtin.List.listSameRef (.ref S) (.ref a)=fz:=by simp[Builtin.List.listSameRef,hSa]
 have h2:(Value.type "set" == Value.type "list")=fz:=by decide
 have h3:(Value.type "set" == Value.type "tuple")=fz:=by decide
 simp![h1,h2,h3,ϱ,ī,if_false];refine À<|DH (A:=A.in1) hh hS λs1 I fp St vs ms ne hI hfp pm ia W st=>?_;have hsf:S∉fp:=λz=>by
  rcases hfp S z with q|q
  .exact hSa q
  .exact Ģ _<|ê hSs q
 have hvl:vs.length=l.length:=(X1 ia).trans pm.length_eq;have key:∀(h':Č) (c tk:Nat),St 0 h'->(∀b o,b≠S->s1.heap.get? b=fw o->h'.get? b=fw o)->h'.get? S=fw {cls:=.type "list",data:=.seq #[] c}->codeAny (á prog w) A (.builtin "list.extend.loop" ⟨[.ref S,.ref I,.ref S],[]⟩) R {s1 with heap:=h',toks:=tk}:=by
  intro h' c tk cX hk hS1;refine codeAny_extend_loopS W.toS hsz S hsf (.ref S) l.length 0 _ #[] c rfl (Ę _) cX hS1 (ItemsOf.nil _) λs2 Ķ c2 hm hS2 hacc=>?_;have ev:Ķ.toList=vs:=EM hacc hvl;refine h s2 vs ms c2 (hm.gens.trans ne.gens) (hm.os.trans ne.os) (λb o hb e=>?_) pm ia (by rw[<-ev];simpa using hS2);refine hm.heap b o (λz=>?_)<|hk b o hb<|ne.heap b o e;rcases Ç.mp z with q|z
  .exact hb q
  .have z:b=I:=⇑z
   subst z;exact Ģ _<|ê (Ü e) hI
 have hS1:=ne.heap S _ hs;refine À<|ĕ<|EB ⟨o,ne.heap a o ho,hex.1⟩ ?_;refine ŉ (λ_=>?_) λ_=>È ⟨ő PySem.F.plain_extend_loop _,key _ 0 _ st (λb o _ e=>e) hS1⟩;refine À<|Ϧ ?_;refine À ?_;show wpAny _ _ (ei S (·.push .none) >>= λ_=>ei S (·.pop)) _ _ _;refine À<|Μ hS1 rfl ?_;have hS2:=ę (Ι (·.push Value.none)) hS1 rfl;refine Μ (hz:=by seq_fits) hS2 rfl ?_;have hS3:=ę (Ι (·.pop)) hS2 rfl;refine È ⟨ő PySem.F.plain_extend_loop _,key _ _ _ ?_ (λb o hb e=>?_) hS3⟩
 .refine W.frame 0 _ _ st λb hb o e=>?_;have eP:b≠S:=λz=>hsf<|z▸hb;exact(õ _ _ eP.symm).trans<|(õ _ _ eP.symm).trans e
 .exact(õ _ _ hb.symm).trans<|(õ _ _ hb.symm).trans e
def NS(hh:A.handled=fx)(hS:SetI prog w s.heap a l)(h:∀s' vs ms,Near s s'->ms.Perm l->ā vs ms->Q vs s'):wpAny (á prog w) A (collect<|.ref a) Q E s:=by
 have Ϭ:a<s.heap.objs.size:=by let⟨_,_,_,_,_,e,_⟩:=hS;exact Ü e
 unfold collect;refine À<|wpAny_runValue<|ĭ F.entry_proto_collect ?_;rw[đ F.plain_proto_collect _];show wpAny _ A.in1 (newList [] >>= λl=>again<|.builtin "list.__iadd__" ⟨[l,.ref a],[]⟩) _ _ s;refine À<|ċ ?_;refine È ⟨ő F.plain_list_iadd _,ĭ F.entry_list_iadd ?_⟩;rw[đ F.plain_list_iadd _];show wpAny _ A.in1 (Builtin.List.listExtendWith (.ref s.heap.objs.size) (.ref a)<|.ref s.heap.objs.size) _ _ _;have fin:∀(q:bB) (s':Æ),(∃vs ms c,q=.ok (.ret<|.ref s.heap.objs.size)/\Near s s'/\ms.Perm l/\ā vs ms/\s'.heap.get? s.heap.objs.size=fw {cls:=.type "list",dict:=fx,data:=.seq vs.toArray c,slots:=#[]})->
   wants (λ(a:Ã) s'=>wpAny (á prog w) A (match a with
     |.ref a=>do
       match (<-load a).data with
       |.seq xs _=>pure xs.toList
       |_=>ac "internal:collect"
     | _=>ac "internal:collect") Q E s') E q s':=λq s' ⟨vs,ms,c,e,ne,pm,ia,hg⟩=>by
  subst e;show wpAny _ A (load s.heap.objs.size >>= _) _ _ _;refine À<|wpAny_load hg<|È ?_;exact h s' _ ms ne pm ⇑ia
 refine į (Gz (A:=A) (s:={ s with heap:=s.heap.push { cls:=.type "list",data:=.seq ([]:List Ã).toArray } }) (R:=λq s'=>∃vs ms c,q=.ok (.ret<|.ref s.heap.objs.size)/\Near s s'/\ms.Perm l/\ā vs ms/\s'.heap.get? s.heap.objs.size=fw { cls:=.type "list",dict:=fx,data:=.seq vs.toArray c,slots:=#[] })
   hh (hS.at λo e=>Ä _ e) s.heap.objs.size (Ū Ϭ) (Ø _ rfl) λs' vs ms c g1 g2 g3 pm ia hg=>⟨vs,ms,c,rfl,⟨λb o e=>g3 b o (é<|Ü e)<|Ä _ e,g1,g2⟩,pm,ia,hg⟩) (λf s' z=>?_) λe s' z=>?_
 .cases f with
  |done f=>exact fin _ _ z
  |again c=>exact⟨z.1,ι z.2 λq s2 y=>fin q s2 y⟩
 .exact fin _ _ z
end
def Inv.near{Â:List (Ð×Obj)}{σ:St}{H:Hp}{s s':Æ}(I:Inv X Â σ H s)(ne:Near s s'):Inv X Â σ H s':=by have J:Inv X Â σ H {s with heap:=s'.heap,toks:=s'.toks}:=I.kept ne.heap;exact⟨J.ok,ne.os.trans J.os,by rw[ne.gens];exact J.bare,J.base,J.loc,J.cell,J.free,J.freeC,J.pin,J.hok,J.len⟩
abbrev tSS(K:Frag)(te:TE):TE:=λσ H Q=>Il te FZ σ H λvs H1=>∃p,∃ns:List Int,vs=[.ref p]/\gT K H1 p (ns.map V.int)/\ns.length<64/\∀l,H1 l=fx->Q (.ref l) (upd H1 l<|.lst<|(sortI<|ν (λi=>ns.getD i 0) ns.length).map V.int)
def MA(hc:X.calm=fy)(hg:Gl X "sorted")(hm:X.mg "sorted" = fx)(hg2:Gl X "set")(hm2:X.mg "set" = fx)(he:PE X e te)(hs:Ý [e] X.env=[(fz,eval e X.env)]) :
  PE X (.Call (.Name "sorted" p) [.Call (.Name "set" p2) [e] [] dj] [] í) (tSS X.K te):=by
 k_sub;refine İ (YM (u:=.builtin "sorted") I hg hm (by kernel_rfl) ?_);refine PyProof.Rows.callWith_builtin1 ?_ rfl rfl;show wpAny _ _ (spliced<|(fz,eval (.Call (.Name "set" p2) [e] [] dj) X.env)::[]) _ _ _;refine Calls.spliced_cons ?_;refine İ (YM (u:=.type "set") I hg2 hm2 (by kernel_rfl) ?_ ↥1<|by decide);refine PyProof.Rows.callWith_type1 (thn ((ZK he gQ hs) dj Â s σ H _ I h) λus s1 ⟨vs,H1,I1,r1,q1⟩=>?_) hs rfl;let⟨a,ns,e1,hq,h64,q⟩:=q1;subst e1;let⟨u,rfl,ru⟩:=ZU r1;cases ru;let⟨ú,rv,pl,hz⟩:=I1.list hq;have hlen:=rv.length;rw[Á]at hlen;refine B1 (I1.ok.hd hc) pl.isList (by simpa using ZA rv) (by rw[Ï];show ú.length+1<4096;lia) λh' tk x hk=>Calls.spliced_nil ?_
 replace x:SetI X.prog X.w h' s1.heap.objs.size<|ν (λi=>ns.getD i 0) ns.length:=by rw[hlen];rw[show ú.toArray.size=ú.length from Ï]at x;exact x
 have I2:Inv X Â σ H1 {s1 with heap:=h',toks:=tk}:=I1.kept hk;refine Calls.call_function_entry kind_sorted fc fe (ff _) ?_;unfold Builtin.«sorted»;refine À (m:=checkCount "sorted" 1 1 _)<|È ?_;refine À<|NS (A:=X.A.in1) (I1.ok.hd hc) x λs3 vs ms ne pm ia=>?_;have I3:=I2.near ne;have hvl:vs.length<64:=by rw[X1 ia,pm.length_eq];exact Ù (aF _ _) ↥0
 refine À (ay ?_<|by unfold à;lia);have dR:(s3.heap.push<|ψ "list" vs.toArray 0).get? s3.heap.objs.size=fw (ψ "list" vs.toArray 0):=Ø _ rfl;refine À<|ĕ<|Ė cN ⟨_,dR,rfl⟩ b6 (list_sort_tree dR ia hvl λout cx a1 a2 a3=>⟨_,rfl,?_⟩)<|cO _;have e:=YS (a2.trans pm) a3;subst e;let⟨n,hat⟩:=dL (out:=out) dR;refine È ⟨_,rfl,.ref s3.heap.objs.size,_,I3.laid (a:=s3.heap.objs.size) (o:=.lst<|(sortI<|ν (λi=>ns.getD i 0) ns.length).map V.int) (t':=s3.toks) (λb o e=>?_) (Ì _) ?_,rfl,q _<|I3.hok.fresh<|Ì _⟩
 .have hb:=Ü e;rw[cP (é hb)<|by rw[cM];exact ĥ hb];exact Ä _ e
 .exact⟨by rw[Á,YH];have:=aF (λi=>ns.getD i 0) ns.length;unfold à;lia,out.toList,n,YR a1,by simpa[ψ]using hat⟩
end L2
namespace Snd
open PySem L2
variable {i:Inf}
def N9(hc:X.calm=fy)(hK:X.K=i.K)(he:PE X e<|tE X i Φ m)(hg:Gl X "sorted")(hm:X.mg "sorted" = fx)(hg2:Gl X "set")(hm2:X.mg "set" = fx)(Ź:Ý [e] X.env=[(fz,eval e X.env)]) :
  PE X (.Call (.Name "sorted" p) [.Call (.Name "set" p2) [e] [] dj] [] í) (tE X i Φ<|.bi .sortedSet<|.cons m .nil):=by
 refine(MA hc hg hm hg2 hm2 he Ź).imp λσ H Q ⟨env,G,Qm,Em,p,w,c⟩=>?_;rw[O.q_e_bi,O.q_a_cons]at w;change tE X i Φ m σ H _;refine one p w λv G1 H1 x k1 p1 r q=>?_;rw[O.q_a_nil]at q
 replace q:(O.biSortedSet G1 v).wp G1 Qm:=q
 unfold O.biSortedSet at q;cases z:O.sortOf G1 v with
 |none=>rw[z]at q;exact(Zi q).elim
 |some ns =>
  rw[z]at q;dsimp only at q;split at q
  .rename_i h4;let⟨a,rfl,hs⟩:=Ow p1.hp r z;refine⟨a,ns,rfl,by rw[hK];exact hs,h4,?_⟩;rw[Kw<|NK ns];exact Yg p1.hp (Ni q) (c.go k1) λp hp=>⟨_,fB,RVs.ints _⟩
  .exact(Zi q).elim
section
variable {K:Frag}{H:Hp}
structure gP(H H':Hp):Prop where
 t:∀a xs,H a=fw (.tup xs)->H' a=fw (.tup xs)
 f:∀a o xs,H a=fw (.frz o<|.lst xs)->H' a=fw (.frz o<|.lst xs)
mutual
theorem RV.keepL(k:gP H H'):∀{v:O.Val}{x:V},RV K H v x->RV K H' v x
 |_,_,.non=>.non
 |_,_,.bl b=>.bl b
 |_,_,.int i=>.int i
 |_,_,.str s=>.str s
 |_,_,.tup (.inl e) r=>.tup (.inl<|k.t _ _ e)<|RVs.keepL k r
 |_,_,.tup (.inr e) r=>.tup (.inr e)<|RVs.keepL k r
 |_,_,.ref a=>.ref a
 |_,_,.scr (.inl ⟨o,e⟩)=>.scr<|.inl ⟨o,k.f _ _ _ e⟩
 |_,_,.scr (.inr e)=>.scr<|.inr e
 |_,_,.key e=>.key<|k.t _ _ e
theorem RVs.keepL(k:gP H H'):∀{vs:List O.Val}{xs:List V},RVs K H vs xs->RVs K H' vs xs
 |_,_,.nil=>.nil
 |_,_,.cons r t=>.cons (RV.keepL k r)<|RVs.keepL k t
end
def RKs.keepL(k:gP H H'):∀{kvs:List (O.Val×O.Val)}{ps:List (Key×V)},RKs K H kvs ps->RKs K H' kvs ps
 |_,_,.nil=>.nil
 |_,_,.cons a r t=>.cons a (r.keepL k)<|RKs.keepL k t
def RTs.keepL(k:gP H H'):∀{kvs:List (O.Val×O.Val)}{ps:List (List Key×V)},RTs K H kvs ps->RTs K H' kvs ps
 |_,_,.nil=>.nil
 |_,_,.cons r t=>.cons (r.keepL k)<|RTs.keepL k t
def RFs.keepL(k:gP H H'):∀{fs:List (String×O.Val)}{ps:List (Str×V)},RFs K H fs ps->RFs K H' fs ps
 |_,_,.nil=>.nil
 |_,_,.cons r t=>.cons (r.keepL k)<|RFs.keepL k t
def REn.keepL(r:REn K H env σ)(k:gP H H'):REn K H' env σ:=⟨r.len,λi v e=>by
  let⟨x,h1,h2⟩:=r.get i v e
  exact⟨x,h1,h2.keepL k⟩⟩
variable {a:Ð}
def RO.moveL(r:RO i H a o)(k:gP H H')(e:H' a=H a):RO i H' a o:=by
 cases o with
 |lst xs=>let⟨vs,q,r⟩:=r;exact⟨vs,e.trans q,r.keepL k⟩
 |dct kvs=>let⟨ps,q,r⟩:=r;exact⟨ps,e.trans q,r.keepL k⟩
 |ins C fs=>let⟨c,dx,ps,h0,h,q,r⟩:=r;exact⟨c,dx,ps,h0,h,e.trans q,r.keepL k⟩
 |exc C=>let⟨c,h,q⟩:=r;exact⟨c,h,e.trans q⟩
 |frz kvs=>let⟨o,ps,q,r⟩:=r;exact⟨o,ps,e.trans q,r.keepL k⟩
 |dtp kvs=>let⟨ps,q,r⟩:=r;exact⟨ps,e.trans q,r.keepL k⟩
def Yu(e:H a=fw (.frz o<|.dK ps)):gP H (upd H a<|.dK ps) :=
 ⟨λb xs q=>by rw[fA<|by rintro rfl;rw[e]at q;cases q];exact q,λb p xs q=>by rw[fA<|by rintro rfl;rw[e]at q;cases q];exact q⟩
def RH.thaw(g:RH i G H)(e:H a=fw (.frz o<|.dK ps))(r:RKs i.K H kvs ps):RH i (O.upd G a<|.dct kvs)<|upd H a<|.dK ps:=λb p q=>by
 by_cases hb:b=a
 .subst hb;rw[O.fB]at q;cases q;exact⟨ps,fB,r.keepL<|Yu e⟩
 .rw[O.fA hb]at q;exact(g b p q).moveL (Yu e)<|fA hb
def RKs.len:∀{kvs:List (O.Val×O.Val)}{ps:List (Key×V)},RKs K H kvs ps->kvs.length=ps.length
 |_,_,.nil=>rfl
 |_,_,.cons _ _ t=>by rw[Î,Î,RKs.len t]
def RKs.at:∀{kvs:List (O.Val×O.Val)}{ps:List (Key×V)}{n:Nat}{c:Key}{x:V},RKs K H kvs ps->ps[n]?=fw (c,x)->∃k v,kvs[n]?=fw (k,v)/\WU k c/\RV K H v x
 |_,_,n,_,_,.nil,e=>by simp at e
 |_,_,0,_,_,.cons hk r _,e=>by simp at e;let⟨rfl,rfl⟩:=e;exact⟨_,_,rfl,hk,r⟩
 |_,_,n+1,_,_,.cons _ _ t,e=>by let⟨k,v,h1,h2⟩:=RKs.at (n:=n) t ⇑e;exact⟨k,v,⇑h1,h2⟩
def Ch(h:WU k c):RV K H k<|kV c:=by
 cases k with
 |int j=>cases c with
  |inl l=>have h:j=l:=h;subst h;exact .int _
  |inr _=>exact(show False from h).elim
 |str s=>cases c with
  |inl _=>exact(show False from h).elim
  |inr t=>have h:t=im s:=h;subst h;exact .str _
 |_=>exact(show False from h).elim
end
variable {a:Ð}{o:Obj}
def DW(e0:H0 a=fw (.frz o<|.dK ps))(r0:RKs i.K H0 kvs ps):ItOk i H0 (Iti a o ps) (λg=>g a=fw (.frz kvs)) (kvs.map<|O.itemOf fz) where
 go:=λn G H v k g e hv=>by
  have e1:=k.f _ _ _ e0;rw[Ú]at hv;let⟨p,hp,rfl⟩:=Ë.mp hv;have hn:n<ps.length:=by rw[<-r0.len];exact(Ó.mp hp).1
  refine⟨⟨e1,hn⟩,λx H' ⟨q,c,y,ex,hq,hy,eH⟩=>?_⟩;subst ex eH;let⟨k2,v2,h1,h2,h3⟩:=(r0.keep k).at hy;rw[hp]at h1;cases h1;have kk:f9 H<|upd H q<|.tup [kV c,y]:=f9.new hq;exact⟨kk,Jf g hq,.tup (.inl fB)<|.cons (Ch h2)<|.cons (h3.keep kk) .nil⟩
 stop:=λn G H k g e hn=>⟨k.f _ _ _ e0,by rw[<-r0.len];simpa using hn⟩
def U0(e0:H0 a=fw (.frz o<|.dK ps))(r0:RKs i.K H0 kvs ps):ItOk i H0 (Itk a o ps) (λg=>g a=fw (.frz kvs)) (kvs.map<|O.itemOf fy) where
 go:=λn G H v k g e hv=>by
  have e1:=k.f _ _ _ e0;rw[Ú]at hv;let⟨p,hp,rfl⟩:=Ë.mp hv;have hn:n<ps.length:=by rw[<-r0.len];exact(Ó.mp hp).1
  refine⟨⟨e1,hn⟩,λx H' ⟨eH,c,y,hy,ex⟩=>?_⟩;subst ex eH;let⟨k2,v2,h1,h2,h3⟩:=(r0.keep k).at hy;rw[hp]at h1;cases h1;exact⟨f9.refl _,g,Ch h2⟩
 stop:=λn G H k g e hn=>⟨k.f _ _ _ e0,by rw[<-r0.len];simpa using hn⟩
variable {tg:Expr}{d:Expr}{m:O.E}
def Gp(hd:PE X d<|tE X i Φ m):PI X tg d<|tIt X i Φ<|.items m:=(Ac hd).imp λσ H R ⟨env,G,QI,Em,p,w,c⟩=>by
 refine one p w λv G1 H1 x k1 p1 rx w'=>?_;let⟨a,e1,w''⟩:=fG w';let⟨kvs,e2,w1⟩:=fG w'';clear w' w'';have ev:v=.ref a:=by
  cases v with
  |ref b=>cases e1;rfl
  |_=>cases e1
 subst ev;cases rx.ref_inv;have eG:G1 a=fw (.dct kvs):=by
  cases z:G1 a with
  |none=>rw[z]at e2;cases e2
  |some o=>rw[z]at e2;cases o<;>first|(cases e2;rfl)|cases e2
 let⟨ps,ha,hr⟩:=p1.hp a _ eG;refine⟨a,ps,rfl,ha,λo h0=>?_⟩;have k2:f9 H1<|upd H1 a<|.frz o<|.dK ps:=f9.put (λxs z=>by rw[ha]at z;cases z) λp u z=>by rw[ha]at z;cases z
 have g2:RH i (O.upd G1 a<|.frz kvs)<|upd H1 a<|.frz o<|.dK ps:=p1.hp.put k2 ⟨o,ps,fB,hr.keep k2⟩;exact c _ _ _ _ _ (k1.trans k2) g2 (U0 fB<|hr.keep k2) w1
variable {í:Pos}{q:O.Pt}
def U4{ŷ:Expr}{kb:Bool}(hp:af ↥2 X.A X.env X.xe)(hc:X.calm=fy)(hi:PI X tg ŷ<|LJ X J<|tE X i Φ m)(hg:PG X tg<|gPt i q)(hb:PSs X body<|tBl X i Φ mb)(hs:∀x,Ě ŷ X.env x=pure x)(hJ:∀(H0:Hp) (a:Ð) (o:Obj) (ps:List<|Key×V) (kvs:List<|O.Val×O.Val),H0 a=fw (.frz o<|.dK ps)->RKs i.K H0 kvs ps->ItOk i H0 (J a o ps) (λg=>g a=fw (.frz kvs)) (kvs.map<|O.itemOf kb)) :
  PS X (.For tg ŷ body [] í) (tSt X i Φ<|.forI kb q m mb):=by
 intro Â s σ H D I ⟨env,G,N,R,B,C,Xe,p,w,c⟩;refine HH (EN hp hc hi hg hb hs) Â s σ H D I ?_;refine one p.pre w λv G1 H1 x k1 p1 rx w'=>?_;let⟨a,e1,w''⟩:=fG w';let⟨kvs,e2,w1⟩:=fG w'';clear w' w'';have ev:v=.ref a:=by
  cases v with
  |ref b=>cases e1;rfl
  |_=>cases e1
 subst ev;cases rx.ref_inv;have eG:G1 a=fw (.dct kvs):=by
  cases z:G1 a with
  |none=>rw[z]at e2;cases e2
  |some o=>rw[z]at e2;cases o<;>first|(cases e2;rfl)|cases e2
 let⟨ps,ha,hr⟩:=p1.hp a _ eG;refine⟨a,ps,rfl,ha,λo h0=>?_⟩;have k2:f9 H1<|upd H1 a<|.frz o<|.dK ps:=f9.put (λxs z=>by rw[ha]at z;cases z) λp u z=>by rw[ha]at z;cases z
 have g2:RH i (O.upd G1 a<|.frz kvs)<|upd H1 a<|.frz o<|.dK ps:=p1.hp.put k2 ⟨o,ps,fB,hr.keep k2⟩;have it:=hJ _ a o ps kvs fB<|hr.keep k2;have aP:∀{H':Hp}{G':O.Hs},f9 (upd H1 a<|.frz o<|.dK ps) H'->RH i G' H'->H' a=fw (.frz o<|.dK ps)/\RKs i.K H' kvs ps/\f9 H (upd H' a<|.dK ps):=λ{H' G'} k g=>by
  have e:=k.f a o _ fB;refine⟨e,(hr.keep k2).keep k,λb xs z=>?_,λb o' u z=>?_⟩
  .have z1:=k1.t b xs z;have hb:b≠a:=by rintro rfl;rw[ha]at z1;cases z1
   rw[fA hb];exact k.t b xs (by rw[fA hb];exact z1)
  .have z1:=k1.f b o' u z;have hb:b≠a:=by rintro rfl;rw[ha]at z1;cases z1
   rw[fA hb];exact k.f b o' u (by rw[fA hb];exact z1)
 have fin:∀Ũ Ű G' H',f9 (upd H1 a<|.frz o<|.dK ps) H'->RH i G' H'->REn i.K H' Ũ Ű->(G' a=fw (.frz kvs)/\N Ũ (O.upd G' a<|.dct kvs))->(D.thaw X).nx Ű H':=λŨ Ű G' H' k g en ⟨_,n⟩=>by let⟨b1,b2,b3⟩:=aP k g;exact⟨a,o,ps,b1,h0,c.nx Ũ Ű _ _ b3 (g.thaw b1 b2) (en.keepL<|Yu b1) n⟩
 have ret:∀v G' H' x,f9 (upd H1 a<|.frz o<|.dK ps) H'->RH i G' H'->RV i.K H' v x->(G' a=fw (.frz kvs)/\R v (O.upd G' a<|.dct kvs))->(D.thaw X).rt x H':=λv G' H' x k g r ⟨_,n⟩=>by let⟨b1,b2,b3⟩:=aP k g;exact⟨a,o,ps,b1,h0,c.rt v _ _ x b3 (g.thaw b1 b2) (r.keepL<|Yu b1) n⟩
 have xo:∀Hq,XW X (XKS i Hq λ_ _ _=>False):=λHq=>λ_ _ _ _ _ _ _ _ _ _ ⟨_,_,_,_,_,_,_,_,z⟩=>z.elim;generalize hxs:kvs.map (O.itemOf kb)=xs at w1 it;generalize Ź:(λg:O.Hs=>g a=fw (.frz kvs))=st at w1 it;refine⟨λn m Ű H'=>n+m=xs.length/\∃Ũ G',f9 (upd H1 a<|.frz o<|.dK ps) H'/\RH i G' H'/\REn i.K H' Ũ Ű/\O.wFor st (λv e g K M=>O.go (O.bind q g v e) λe2=>O.wSs Φ mb e2 g K (λu g2=>g2 a=fw (.frz kvs)/\R u (O.upd g2 a<|.dct kvs)) M K λ_ _ _=>False) (λe g=>g a=fw (.frz kvs)/\N e (O.upd g a<|.dct kvs)) (xs.drop n) Ũ G',⟨xs.length,by lia,env,_,f9.refl _,g2,(p.en.keep k1).keep k2,⇑w1⟩,?_⟩;rintro n m Ű H' ⟨hnm,Ũ,G',k3,g3,e3,w3⟩;by_cases hn:n<xs.length
 .right;have hd:xs.drop n=xs[n]::xs.drop (n+1):=Ρ hn;rw[hd]at w3;let⟨s2,w3⟩:=w3;have hv:xs[n]?=fw xs[n]:=Ê hn;let⟨a1,a2⟩:=it.go n G' H' xs[n] k3 g3 s2 hv;refine⟨a1,λσ4 H4=>∃di G4,f9 (upd H1 a<|.frz o<|.dK ps) H4/\RH i G4 H4/\REn i.K H4 di σ4/\O.wFor st (λv e g K M=>O.go (O.bind q g v e) λe2=>O.wSs Φ mb e2 g K (λu g2=>g2 a=fw (.frz kvs)/\R u (O.upd g2 a<|.dct kvs)) M K λ_ _ _=>False) (λe g=>g a=fw (.frz kvs)/\N e (O.upd g a<|.dct kvs)) (xs.drop<|n+1) di G4,λσ4 H4 h=>⟨m - 1,by lia,by lia,h⟩,λx H4 hy=>?_⟩;let⟨k4,g4,r4⟩:=a2 x H4 hy;let⟨dY,e5,w5⟩:=fG w3;refine⟨xs[n],Ũ,G',dY,r4,g4,e3.keep k4,e5,λσ5 h5=>?_⟩;refine⟨dY,G',_,_,_,_,_,⟨h5,g4,xo _⟩,w5,⟨λenv6 σ6 G6 H6 k6 g6 e6 w6=>?_,λv6 G6 H6 x6 k6 g6 r6 w6=>?_,λenv6 σ6 G6 H6 k6 g6 e6 w6=>?_,λenv6 σ6 G6 H6 k6 g6 e6 w6=>?_⟩⟩
  .exact⟨env6,G6,(k3.trans k4).trans k6,g6,e6,w6⟩
  .exact ret v6 G6 H6 x6 ((k3.trans k4).trans k6) g6 r6 w6
  .exact fin env6 σ6 G6 H6 ((k3.trans k4).trans k6) g6 e6 w6
  .exact⟨env6,G6,(k3.trans k4).trans k6,g6,e6,w6⟩
 .left;have hd:xs.drop n=[]:=Ś ↥0;rw[hd]at w3;exact⟨it.stop n G' H' k3 g3 w3.1 ↥0,fin Ũ Ű G' H' k3 g3 e3 w3.2⟩
variable {kk:Nat}
def FI(hp:af ↥2 X.A X.env X.xe)(hc:X.calm=fy)(hd:PE X d<|tE X i Φ m)(hg:PG X (.Tuple es kk tp)<|gPt i q)(hb:PSs X body<|tBl X i Φ mb)(aL:ħ d "items" X.env (eval d X.env)=eval d X.env)(aM:(Ŕ.endLine==ŧ.line)=fy)(hs:∀x,Ě (.Call (.Attribute d "items" Ŕ) [] [] ŧ) X.env x=pure x) :
  PS X (.For (.Tuple es kk tp) (.Call (.Attribute d "items" Ŕ) [] [] ŧ) body [] í) (tSt X i Φ<|.forI fz q m mb) :=
 U4 hp hc (DQ hd aL aM) hg hb hs λ_ _ _ _ _ e r=>DW e r
def GA(hp:af ↥2 X.A X.env X.xe)(hc:X.calm=fy)(hd:PE X d<|tE X i Φ m)(hg:PG X tg<|gPt i q)(hb:PSs X body<|tBl X i Φ mb)(hs:∀x,Ě d X.env x=pure x) :
  PS X (.For tg d body [] í) (tSt X i Φ<|.forI fy q m mb) :=
 U4 hp hc (Ac hd) hg hb hs λ_ _ _ _ _ e r=>U0 e r
def OC(ĝ:List<|List Int):∀(k:Nat) (x:List Int) (r:List<|List Int),ĝ.take (k+1)=x::r->k<ĝ.length->O.minR x r=ĝ.getD (Ĵ (btL λn=>ĝ.getD n []) k) []
 |0,x,r,h,hk=>by
  cases ĝ with
  |nil=>cases h
  |cons y ys=>simp at h;let⟨rfl,rfl⟩:=h;rfl
 |k+1,x,r,h,hk=>by
  cases ĝ with
  |nil=>cases h
  |cons y ys =>
   rw[ϯ]at h;injection h with h1 h2;subst h1 h2;have bW:k<ys.length:=⇑hk
   have ih:=OC (y::ys) k y (ys.take k) (by rw[ϯ]) (by simp;lia);have e:ys.take (k+1)=ys.take k++[ys[k]]:=by rw[Ť];simp[bW]
   have app:∀(b:List Int) (l:List<|List Int) (z:List Int),O.minR b (l++[z])=if O.gy z (O.minR b l)then z else O.minR b l:=by
    intro b l z;induction l generalizing b with
    |nil=>rfl
    |cons w l ih=>exact ih _
   rw[e,app,ih];have e2:(y::ys).getD (k+1) []=ys[k]:=by simp[bW]
   show _=(y::ys).getD (if btL (λn=>(y::ys).getD n []) (k+1) (Ĵ (btL λn=>(y::ys).getD n []) k)=fy then k+1 else Ĵ (btL λn=>(y::ys).getD n []) k) [];have eb:btL (λn=>(y::ys).getD n []) (k+1) (Ĵ (btL λn=>(y::ys).getD n []) k)=O.gy ys[k] ((y::ys).getD (Ĵ (btL λn=>(y::ys).getD n []) k) []):=by rw[ML,<-e2];rfl
   rw[eb];cases O.gy ys[k] ((y::ys).getD (Ĵ (btL λn=>(y::ys).getD n []) k) [])with
   |true=>rw[hX rfl,hX rfl,e2]
   |false=>rw[hZ ↥1,hZ<|by decide]
def GR{G:O.Hs}(h2:RVs i.K H xs us)(h3:(w::r).length=us.length)(h5:xs=(w::r).map λn=>.tup<|n.map .int)(hy:us[Ĵ (btL λn=>(w::r).getD n [])<|us.length - 1]?=fw y):RV i.K H (.tup<|(O.minR w r).map .int) y:=by
 rw[OC (w::r) ((w::r).length - 1) w r (by simp)<|by simp];rw[<-h3]at hy;have Ϭ:Ĵ (btL λn=>(w::r).getD n []) ((w::r).length - 1)<(w::r).length:=by have:=JN (btL λn=>(w::r).getD n [])<|(w::r).length - 1;simp only[Î]at this ⊢;lia
 generalize hj:Ĵ (btL λn=>(w::r).getD n []) ((w::r).length - 1)=j at hy Ϭ ⊢;have hxj:xs[j]?=fw (.tup<|((w::r).getD j []).map .int):=by rw[h5,Ú,Ê Ϭ];simp[Ĕ,Ê Ϭ]
 let⟨x2,hx2,rx2⟩:=h2.get hxj;rw[hy]at hx2;cases hx2;exact rx2
def PD(hc:X.calm=fy)(hu:X.A.units+1<Ğ)(hK:X.K=i.K)(hg:Gl X "min")(hm:X.mg "min" = fx)(he:PE X e<|tE X i Φ m)(hs:Ý [e] X.env=[(fz,eval e X.env)]) :
  PE X (.Call (.Name "min" p) [e] [⟨fw "default",.Constant .none kk kp,kpos⟩] í) (tE X i Φ<|.bi .minD<|.cons m .nil):=by
 refine(Fh hc hu hg hm (ZK he gQ<|by rw[hs];rfl) hs).imp λσ H Q ⟨env,G,Qm,Em,p,w,c⟩=>?_;change tE X i Φ m σ H _;refine one p w λv G1 H1 x k1 p1 r q=>?_
 replace q:(O.gH G1 v).wp G1 Qm:=q
 cases v with
 |ref a =>
  cases r.ref_inv;unfold O.gH at q;dsimp only at q;cases z:(O.fQ<|G1 a).bind O.rowsOf with
  |none=>rw[z]at q;exact(Zi q).elim
  |some ĝ =>
   let⟨xs,z1,z2⟩:=ò.mp z;let⟨us,h1,h2⟩:=ZE p1.hp z1;let⟨h3,h4,h5⟩:=Nt h2 z2;rw[z]at q;refine⟨a,us,ĝ,rfl,by rw[hK];exact h1,h3,by rw[hK];exact h4,λe0=>?_,λe0 y hy=>?_⟩
   .subst e0;cases ĝ with
    |nil=>exact c _ G1 H1 _ k1 p1.hp .non<|Zn q
    |cons _ _=>cases h3
   .cases ĝ with
    |nil=>exact ij (Ŵ.mp h3.symm) e0
    |cons w r =>exact c _ G1 H1 _ k1 p1.hp (GR (G:=G1) h2 h3 h5 hy)<|Zn q
 |_=>exact(Zi q).elim
variable {e:Expr}
def F6{C D m:String}{o:O.E}{as:O.Es}(h1:PE X e<|tE X i Φ<|.meth C m o as)(h2:PE X e<|tE X i Φ<|.meth D m o as):PE X e<|tE X i Φ<|.meth2 C D m o as:=λÂ s σ H Q I ⟨env,G,Qm,Em,p,w,c⟩=>by
 rw[O.wE_eq]at w;rcases w with w|w
 .exact h1 Â s σ H Q I ⟨env,G,Qm,Em,p,by rw[O.wE_eq];exact w,c⟩
 .exact h2 Â s σ H Q I ⟨env,G,Qm,Em,p,by rw[O.wE_eq];exact w,c⟩
def Gw(h:PE X e t):PE X e λσ H Q=>t σ H λx H1=>∃a o ps,H1 a=fw (.frz o<|.dK ps)/\(∀o u,X.H₀ a≠fw (.frz o u))/\Q x (upd H1 a<|.dK ps):=λÂ s σ H Q I q =>
 thn (h Â s σ H _ I q) λv s1 ⟨x,H1,I1,r1,a,o,ps,e1,h0,q⟩=>⟨x,_,I1.thaw e1 h0,r1,q⟩
def GJ(hK:X.K=i.K)(he:PE X e<|tE X i Φ m):PI X tg e<|tIt X i Φ<|.seqT k m:=λÂ s σ H R I ⟨env,G,QI,Em,p,w,c⟩=>by
 rw[O.wI_eq]at w;let⟨d,_,w⟩:=fG w;let⟨a,_,w⟩:=fG w;let⟨kvs,e3,w⟩:=fG w;have eG:G a=fw (.dct kvs):=by
  cases z:G a with
  |none=>rw[z]at e3;cases e3
  |some o=>rw[z]at e3;cases o<;>first|(cases e3;rfl)|cases e3
 let⟨ps,ha,hr⟩:=p.hp a _ eG;have h0:∀o u,X.H₀ a≠fw (.frz o u):=λo u z=>by have:=I.base.frzs a o u z;rw[ha]at this;cases this
 refine Dh (Gw he) Â s σ H R I (one (F:=λv G1=>G1 a=fw (.frz kvs)/\O.go (O.gu v) λb=>O.go (O.fQ<|O.upd G1 a (.dct kvs) b) λxs=>QI (λg=>O.fQ (g b)=fw xs) xs<|O.upd G1 a<|.dct kvs) p (by rw[O.wE_eq];exact w) λv G1 H1 x k1 p1 r hq=>?_);let⟨zq,q⟩:=hq;let⟨b,e4,q1⟩:=fG q;let⟨xs,e5,q2⟩:=fG q1;clear q q1;let⟨o,ps1,b1,b2⟩:=p1.hp a _ zq;have g:=p1.hp.thaw b1 b2;have k2:f9 H<|upd H1 a<|.dK ps1:=⟨λb xs z=>by
   have hb:b≠a:=by rintro rfl;rw[ha]at z;cases z
   rw[fA hb]
   exact k1.t b xs z,λb o' u z=>by
   have hb:b≠a:=by rintro rfl;rw[ha]at z;cases z
   rw[fA hb]
   exact k1.f b o' u z⟩
 have ev:v=.ref b:=by cases v<;>first|(cases e4;rfl)|cases e4
 subst ev;have r2:=r.keepL<|Yu b1;cases r2.ref_inv;let⟨vs,h1,h2⟩:=ZE g e5;rw[hK];exact⟨a,o,ps1,b1,h0,b,rfl,.inl ⟨⟨vs,h1⟩,c _ _ _ _ _ k2 g it_lst q2⟩⟩
structure Md where
 N:List Str
 sc:ς
 cs:List<|String×O.Val
 fs:List String
 cm:Bool
 cl:List String
 ms:List<|String×String
 fl:List String
 xs:List String
abbrev Md.nmOf(c:Md)(j:Nat):Str:=c.N.getD j Str.empty
abbrev Md.vis(c:Md)(x:Str):Bool:=match c.sc.names.lookup x with
 |some .local=>fy
 |some .cell=>fy
 |some .free=>fy
 |_=>fz
abbrev Md.loc(c:Md)(x:Str):Bool:=c.sc.names.lookup x==fw .local||c.sc.names.lookup x==fw .cell
abbrev Md.gl(c:Md)(x:Str):Bool:=c.sc.names.lookup x==fw .globalImplicit
abbrev nm(x:Str):Bool:=!(x==("__debug__" : Str)) && !(x==("__classdict__" : Str)) && !(x==("__name__" : Str))
abbrev dE:Expr:=.Name Str.empty ⟨0,0,0,0⟩
abbrev mix:List (Option Expr)->List Expr->List Expr
 |k::ks,v::vs=>k.getD dE::v::mix ks vs
 |_,_=>[]
abbrev sub:Expr->List Expr
 |.BoolOp _ xs _=>xs
 |.BinOp a _ b _=>[a,b]
 |.UnaryOp _ a _=>[a]
 |.IfExp a b c _=>[a,b,c]
 |.Compare a _ bs _=>a::bs
 |.Call f as ks _=>f::(as++ks.map (·.value))
 |.FormattedValue a _ _ _=>[a]
 |.JoinedStr vs _=>vs
 |.Attribute a _ _=>[a]
 |.Subscript a b _=>[a,b]
 |.List es _=>es
 |.Tuple es _ _=>es
 |.Slice a b c _=>[a.getD dE,b.getD dE,c.getD dE]
 |.ListComp e gs _ _=>e::gs.flatMap λg=>g.target::g.iter::g.ifs
 |.Dict ks vs _=>mix ks vs
 |_=>[]
abbrev kid(x:Expr)(j:Nat):Expr:=(sub x).getD j dE
abbrev num:Expr->Nat
 |.Constant _ k _=>k
 |.Tuple _ k _=>k
 |_=>0
abbrev scp:Expr->ς
 |.ListComp _ _ s _=>s
 |_=>default
abbrev kwp:Expr->Pos
 |.Call _ _ (k::_) _=>k.pos
 |_=>⟨0,0,0,0⟩
abbrev OS:O.Bop->ϝ
 |.add=>.Add
 |.sub=>.Sub
 |.mul=>.Mult
 |.fdiv=>.FloorDiv
 |.mod=>.Mod
 |.pow=>.Pow
abbrev WR:O.Cop->cC
 |.eq=>.Eq
 |.ne=>.NotEq
 |.lt=>.Lt
 |.le=>.LtE
 |.gt=>.Gt
 |.ge=>.GtE
 |.isin=>.In
 |.notin=>.NotIn
 |.is=>.Is
 |.isnot=>.IsNot
 |.eqE=>.Eq
 |.neE=>.NotEq
 |.ntT=>.IsNot
abbrev Rg:O.Val->Const
 |.non=>.none
 |.bl b=>.bool b
 |.int i=>.int i
 |.str s=>.str<|im s
 |_=>.ellipsis
abbrev Ip:O.Val->Bool
 |.non=>fy
 |.bl _=>fy
 |.int _=>fy
 |.str _=>fy
 |_=>fz
abbrev ZM(e:O.E):Bool:=e.ctorIdx==(O.E.and e e).ctorIdx
abbrev YA(e:O.E):Bool:=e.ctorIdx==(O.E.or e e).ctorIdx
abbrev Zk(e:O.Tt):Bool:=e.ctorIdx==(O.Tt.and e e).ctorIdx
abbrev Zw(e:O.Tt):Bool:=e.ctorIdx==(O.Tt.or e e).ctorIdx
abbrev rest(b:Bool)(x:Expr):Expr:=match b,x with
 |true,.BoolOp op (_::xs) p=>.BoolOp op xs p
 |_,x=>kid x 1
abbrev flat(b:Bool)(x:Expr):List Expr:=match b with
 |true=>sub x
 |false=>[x]
abbrev Bh:O.Bi->Str
 |.len=>"len"
 |.int=>"int"
 |.str=>"str"
 |.bool=>"bool"
 |.abs=>"abs"
 |.min2=>"min"
 |.max2=>"max"
 |.minL=>"min"
 |.maxL=>"max"
 |.minP=>"min"
 |.maxP=>"max"
 |.minD=>"min"
 |.sum=>"sum"
 |.all=>"all"
 |.any=>"any"
 |.sorted=>"sorted"
 |.sortedI=>"sorted"
 |.sortedSet=>"sorted"
 |.lenSet=>"len"
 |.list=>"list"
 |.tuple=>"tuple"
 |.dict=>"dict"
 |.isi _=>"isinstance"
 |.isx _=>"isinstance"
 |.isc _=>"isinstance"
 |.repr=>"repr"
 |.listRev=>"list"
 |.listRange=>"list"
 |.tupRange=>"tuple"
 |.dictEnum=>"dict"
 |.listD=>"list"
abbrev Q0:O.Bi->Option Str
 |.sortedSet=>fw "set"
 |.lenSet=>fw "set"
 |.listRev=>fw "reversed"
 |.listRange=>fw "range"
 |.tupRange=>fw "range"
 |.dictEnum=>fw "enumerate"
 |_=>fx
abbrev Qb(Ts:List String)(x:Expr):Expr:=match Ts with
 |[T]=>.Name (im T) x.pos
 |Ts=>.Tuple (Ts.zipIdx.map λp=>.Name (im p.1) (kid x p.2).pos) (num x) x.pos
abbrev LT(f:O.Bi)(as:List Expr)(x:Expr):List Expr:=match Q0 f with
 |some y=>[.Call (.Name y (kid (kid x 1) 0).pos) as [] (kid x 1).pos]
 |none=>match f with
  |.isi Ts=>as++[Qb Ts<|kid x 2]
  |.isx Ts=>as++[Qb Ts<|kid x 2]
  |.isc T=>as++[Qb [T]<|kid x 2]
  |_=>as
abbrev KC(f:O.Bi)(x:Expr):List Expr:=match Q0 f with
 |some _=>(sub<|kid x 1).tail
 |none=>(sub x).tail
abbrev SS(f:O.Bi)(x:Expr):List bb:=match f with
 |.minD=>[⟨fw "default",.Constant .none (num<|kid x 2) (kid x 2).pos,kwp x⟩]
 |_=>[]
abbrev PK:O.Bm->Str
 |.append=>"append"
 |.extend=>"extend"
 |.pop=>"pop"
 |.popAt=>"pop"
 |.insert=>"insert"
 |.remove=>"remove"
 |.clear=>"clear"
 |.reverse=>"reverse"
 |.index=>"index"
 |.count=>"count"
 |.dget=>"get"
 |.dgetD=>"get"
 |.dpop=>"pop"
 |.dpopD=>"pop"
 |.setdefault=>"setdefault"
 |.join=>"join"
 |.split=>"split"
 |.replace=>"replace"
 |.upper=>"upper"
 |.partition=>"partition"
 |.sidx=>"index"
abbrev XJ:List Expr->List (Option Expr)
 |k::_::r=>fw k::XJ r
 |_=>[]
abbrev Bf:List Expr->List Expr
 |_::v::r=>v::Bf r
 |_=>[]
abbrev toP(p:O.Pt)(c:Md)(x:Expr):Expr:=match p with
 |.one j=>.Name (c.nmOf j) x.pos
 |.many js=>.Tuple (js.zipIdx.map λp=>.Name (c.nmOf p.1) (kid x p.2).pos) (num x) x.pos
 |.nest j js=>.Tuple [.Name (c.nmOf j) (kid x 0).pos,.Tuple (js.zipIdx.map λp=>.Name (c.nmOf p.1) (kid (kid x 1) p.2).pos) (num<|kid x 1) (kid x 1).pos] (num x) x.pos
abbrev nmX:Expr->Str
 |.Name x _=>x
 |_=>Str.empty
abbrev XU:Expr->List Str
 |.Tuple es _ _=>es.map nmX
 |x=>[nmX x]
abbrev Md.blk(c:Md)(sc:ς)(x:List Str)(þ:List Nat):Md :=
 {N:=x++þ.map (λj=>c.N.getD j Str.empty),sc:={sc with names:=sc.names.map λ(n,k)=>if(k == .free&&c.sc.kind == .function&&c.sc.names.lookup n==fw .cell)then(n,.cell)else(n,k)},cs:=c.cs,fs:=c.fs,cm:=c.cm,cl:=c.cl,ms:=c.ms,fl:=c.fl,xs:=c.xs}
abbrev S4:O.E->Bool
 |.cst (.str _)=>fy
 |_=>fz
mutual
noncomputable def toX:O.E->Md->Expr->Expr
 |.cst v,_,x=>.Constant (Rg v) (num x) x.pos
 |.var j,c,x=>.Name (c.nmOf j) x.pos
 |.glob y _,_,x=>.Name (im y) x.pos
 |.bin o a b,c,x=>.BinOp (toX a c<|kid x 0) (OS o) (toX b c<|kid x 1) x.pos
 |.neg a,c,x=>.UnaryOp .USub (toX a c<|kid x 0) x.pos
 |.not a,c,x=>.UnaryOp .Not (toX a c<|kid x 0) x.pos
 |.and a b,c,x=>.BoolOp .And (toX a c (kid x 0)::flat (ZM b) (toX b c<|rest (ZM b) x)) x.pos
 |.or a b,c,x=>.BoolOp .Or (toX a c (kid x 0)::flat (YA b) (toX b c<|rest (YA b) x)) x.pos
 |.cmp o a b,c,x=>.Compare (toX a c<|kid x 0) [WR o] [toX b c<|kid x 1] x.pos
 |.chain o1 o2 a b d,c,x=>.Compare (toX a c<|kid x 0) [WR o1,WR o2] [toX b c<|kid x 1,toX d c<|kid x 2] x.pos
 |.call f as,c,x=>.Call (.Name (im f) (kid x 0).pos) (toA as c (sub x).tail) [] x.pos
 |.make C as,c,x=>.Call (.Name (im C) (kid x 0).pos) (toA as c (sub x).tail) [] x.pos
 |.meth _ m o as,c,x=>.Call (.Attribute (toX o c<|kid (kid x 0) 0) (im m) (kid x 0).pos) (toA as c (sub x).tail) [] x.pos
 |.meth2 _ _ m o as,c,x=>.Call (.Attribute (toX o c<|kid (kid x 0) 0) (im m) (kid x 0).pos) (toA as c (sub x).tail) [] x.pos
 |.fld o f,c,x=>.Attribute (toX o c<|kid x 0) (im f) x.pos
 |.bi f as,c,x=>.Call (.Name (Bh f) (kid x 0).pos) (LT f (toA as c<|KC f x) x) (SS f x) x.pos
 |.bm m o as,c,x=>.Call (.Attribute (toX o c<|kid (kid x 0) 0) (PK m) (kid x 0).pos) (toA as c (sub x).tail) [] x.pos
 |.idx a b,c,x=>.Subscript (toX a c<|kid x 0) (toX b c<|kid x 1) x.pos
 |.slc a lo hi,c,x=>.Subscript (toX a c<|kid x 0) (.Slice (toO lo c<|kid (kid x 1) 0) (toO hi c<|kid (kid x 1) 1) fx (kid x 1).pos) x.pos
 |.rev a,c,x=>.Subscript (toX a c<|kid x 0) (.Slice fx fx (fw<|.UnaryOp .USub (.Constant (.int 1) (num<|kid (kid (kid x 1) 2) 0) (kid (kid (kid x 1) 2) 0).pos) (kid (kid x 1) 2).pos) (kid x 1).pos) x.pos
 |.sortT a,c,x=>.Call (.Name "sorted" (kid x 0).pos) [toX a c<|kid x 1] [] x.pos
 |.pick a lo hi st,c,x=>.Subscript (toX a c<|kid x 0) (.Slice (toO lo c<|kid (kid x 1) 0) (toO hi c<|kid (kid x 1) 1) (fw<|toX st c<|kid (kid x 1) 2) (kid x 1).pos) x.pos
 |.tup es,c,x=>.Tuple (toA es c<|sub x) (num x) x.pos
 |.key es,c,x=>.Tuple (toA es c<|sub x) (num x) x.pos
 |.dctP,c,x=>.Dict [] [] x.pos
 |.lst es,c,x=>.List (toA es c<|sub x) x.pos
 |.dct es,c,x=>.Dict (XJ<|toA es c<|sub x) (Bf<|toA es c<|sub x) x.pos
 |.ife t a b,c,x=>.IfExp (toT t c<|kid x 0) (toX a c<|kid x 1) (toX b c<|kid x 2) x.pos
 |.comp þ _ p it t e,c,x=>.ListComp (toX e (c.blk (scp x) (XU<|kid x 1) þ)<|kid x 0) [⟨toP p (c.blk (scp x) (XU<|kid x 1) þ)<|kid x 1,toI it c<|kid x 2,toF t (c.blk (scp x) (XU<|kid x 1) þ)<|kid x 3,0⟩] (scp x) x.pos
 |.fstr es,c,x=>.JoinedStr (toJ es c<|sub x) x.pos
 |.split o a,c,x=>.Call (.Attribute (toX o c<|kid (kid x 0) 0) "split" (kid x 0).pos) [toX a c<|kid x 1] [] x.pos
 |.repl o y z,c,x=>.Call (.Attribute (toX o c<|kid (kid x 0) 0) "replace" (kid x 0).pos) [.Constant (.str<|im y) (num<|kid x 1) (kid x 1).pos,.Constant (.str<|im z) (num<|kid x 2) (kid x 2).pos] [] x.pos
noncomputable def toA:O.Es->Md->List Expr->List Expr
 |.nil,_,_=>[]
 |.cons e es,c,xs=>toX e c (xs.headD dE)::toA es c xs.tail
noncomputable def toJ:O.Es->Md->List Expr->List Expr
 |.nil,_,_=>[]
 |.cons e es,c,xs=>(if S4 e then toX e c (xs.headD dE)else .FormattedValue (toX e c<|kid (xs.headD dE) 0) (-1) fx (xs.headD dE).pos)::toJ es c xs.tail
noncomputable def toO:O.Oe->Md->Expr->Option Expr
 |.none,_,_=>fx
 |.some e,c,x=>fw<|toX e c x
noncomputable def toT:O.Tt->Md->Expr->Expr
 |.yes,_,x=>x
 |.val e,c,x=>toX e c x
 |.not t,c,x=>.UnaryOp .Not (toT t c<|kid x 0) x.pos
 |.and a b,c,x=>.BoolOp .And (toT a c (kid x 0)::flat (Zk b) (toT b c<|rest (Zk b) x)) x.pos
 |.or a b,c,x=>.BoolOp .Or (toT a c (kid x 0)::flat (Zw b) (toT b c<|rest (Zw b) x)) x.pos
noncomputable def toF:O.Tt->Md->Expr->List Expr
 |.yes,_,_=>[]
 |.val e,c,x=>[toX e c x]
 |.not t,c,x=>[.UnaryOp .Not (toT t c<|kid x 0) x.pos]
 |.and a b,c,x=>[.BoolOp .And (toT a c (kid x 0)::flat (Zk b) (toT b c<|rest (Zk b) x)) x.pos]
 |.or a b,c,x=>[.BoolOp .Or (toT a c (kid x 0)::flat (Zw b) (toT b c<|rest (Zw b) x)) x.pos]
noncomputable def toI:O.It->Md->Expr->Expr
 |.seq e,c,x=>toX e c x
 |.seqT _ e,c,x=>toX e c x
 |.chars e,c,x=>toX e c x
 |.range a,c,x=>.Call (.Name "range" (kid x 0).pos) [toX a c<|kid x 1] [] x.pos
 |.range2 a b,c,x=>.Call (.Name "range" (kid x 0).pos) [toX a c<|kid x 1,toX b c<|kid x 2] [] x.pos
 |.enumL e,c,x=>.Call (.Name "enumerate" (kid x 0).pos) [toX e c<|kid x 1] [] x.pos
 |.enum e,c,x=>.Call (.Name "enumerate" (kid x 0).pos) [toX e c<|kid x 1] [] x.pos
 |.zip a b,c,x=>.Call (.Name "zip" (kid x 0).pos) [toX a c<|kid x 1,toX b c<|kid x 2] [] x.pos
 |.items e,c,x=>toX e c x
 |.keysF e,c,x=>toX e c x
 |.rev e,c,x=>.Call (.Name "reversed" (kid x 0).pos) [toX e c<|kid x 1] [] x.pos
end
abbrev blts:List Str:=["isinstance","int","bool","str","list","tuple","dict","max","min","range","len","sorted","set","all","any","sum","enumerate","zip","reversed","abs","repr","ValueError"]
structure Kls(X:Cx)(i:Inf)(P:O.Pg)(n:Nat)(c:Md):Prop where
 A:ClsA i
 F:∀f,c.fl.contains f=fy->FldOk i f
 mkc:∀C,c.cl.contains C=fy->∃a f,i.ins C=fy/\i.cl C a/\Mk i.K a f/\X.mg (im C)=fw (.ref a)/\Dfm X.prog X.w X.mg X.base i P n (C ++ ".__init__") f
 mth:∀C m,c.ms.contains (C,m)=fy->∃a f,(∀b,i.cl C b->b=a)/\Cls i.K a/\Meth i.K a (im m) f/\Dfm X.prog X.w X.mg X.base i P n (C ++ "." ++ m) f
structure Xls(X:Cx)(i:Inf)(c:Md):Prop where
 xc:∀C a,i.xc C a->XCls i.K a/\PySem.W.kitOne i.K (.ref a) (.type "ValueError")=fw fy
 rs:∀C,c.xs.contains C=fy->∃a,i.xc C a/\PyProof.Rows.OwnCls (im C) a [.type "ValueError",.type "Exception",.type "BaseException",.type "object"] "ValueError.__new__" X.mg X.base
 kn:∀T,(c.xs.contains T||T == "ShutError")=fy->∃D,X.mg (im T)=fw (.ref D)/\∀C a,i.xc C a->PySem.W.kitOne i.K (.ref a) (.ref D)=fw (O.gR C T)/\(O.gR C T=fy->PySem.W.exmOne i.K (.ref a) (.ref D)=fw fy)
structure Gd(X:Cx)(i:Inf)(P:O.Pg)(n:Nat)(c:Md):Prop where
 K:X.K=i.K
 N:X.N=c.N
 sc:X.env.scope=c.sc
 nd:c.N.Nodup
 un:X.A.units+200<Ğ
 calm:c.cm=fy->X.calm=fy
 room:c.cm=fy->gm (2*n+1) X.A
 bl:∀x∈blts,X.mg x=fx
 dfs:∀f,c.fs.contains f=fy->Dfo X.prog X.w X.mg X.base i P n f
 cst:∀x v,c.cs.lookup x=fw v->∃u y,X.mg (im x)=fw u/\RelV y u/\∀H,RV i.K H v y
 kl:Kls X i P n c
 xl:c.xs≠[]->Xls X i c
variable {n:Nat}{c:Md}
variable {x:Str}
def Gd.gl(g:Gd X i P n c)(h:c.gl x=fy):Gl X x:=by show X.env.scope.names.lookup x=_;rw[g.sc];exact eq_of_beq h
def Gd.vis(g:Gd X i P n c)(h:c.vis x=fy):Vis X.env.scope x:=by
 unfold Vis;rw[g.sc];unfold Md.vis at h;split at h
 .exact .inl (by assumption)
 .exact .inr (.inl<|by assumption)
 .exact .inr (.inr<|by assumption)
 .cases h
def Gd.loc(g:Gd X i P n c)(h:c.loc x=fy):L2.Loc X.env.scope x:=by
 unfold L2.Loc;rw[g.sc];rcases (aS ..).mp h with h|h
 .exact .inl<|eq_of_beq h
 .exact .inr<|eq_of_beq h
def Gd.rm(g:Gd X i P n c)(h:c.cm=fy):gm (2*n) X.A:=(g.room h).mono (ň _)
def KI(h:nm x=fy):(x==("__debug__" : Str))=fz/\(x==("__classdict__" : Str))=fz/\x≠"__name__":=by simp![nm,bAq,Ž]at h;exact⟨h.1.1,h.1.2,⇑h.2⟩
def Zr(e:O.E)(c:Md)(x:Expr)(es:List Expr)(env:Env):Ý (toX e c x::es) env=(fz,eval (toX e c x) env)::Ý es env:=by cases e<;>rfl
def DX(e:O.E)(c:Md)(x:Expr):Ms<|toX e c x:=by intro o j;cases e<;>rfl
def Ha(e:O.E)(c:Md)(x:Expr):ŀ op (toX e c x)=fz:=by cases e<;>rfl
def O7(e:O.E)(c:Md)(x:Expr)(env:Env):∀y,Ě (toX e c x) env y=pure y:=by intro y;cases e<;>rfl
abbrev YL:Expr->Bool
 |.Call (.Name _ _) [] _ _=>fz
 |_=>fy
variable {e:Expr}
def Yy(h:YL e=fy)(f:Str)(env:Env):ħ e f env (eval e env)=eval e env:=by
 cases e with
 |Call g as ks p =>
  cases as with
  |cons _ _=>cases g<;>rfl
  |nil=>cases g with
   |Name x q=>cases h
   |_=>rfl
 |_=>rfl
abbrev ZV:O.Es->Nat
 |.nil=>0
 |.cons _ es=>ZV es+1
def Wu:∀(es:O.Es) (c:Md) (xs:List Expr),(toA es c xs).length=ZV es
 |.nil,_,_=>rfl
 |.cons _ es,c,xs=>by show(toA es c xs.tail).length+1=_;rw[Wu es];rfl
def Yv(env:Env)(í:Pos):∀(es:O.Es) (c:Md) (xs:List Expr),(Ĥ í<|Ý (toA es c xs) env).any (·.1)=fz
 |.nil,_,_=>rfl
 |.cons e es,c,xs=>by show(Ĥ í<|Ý (toX e c (xs.headD dE)::toA es c xs.tail) env).any (·.1)=fz;rw[Zr];show(fz||(Ĥ í<|Ý (toA es c xs.tail) env).any (·.1))=fz;rw[Yv env í es];rfl
def J3(env:Env)(í:Pos):∀(es:O.Es) (c:Md) (xs:List Expr),(Ĥ í<|Ý (toA es c xs) env).all (λx=>!x.1)=fy
 |.nil,_,_=>rfl
 |.cons e es,c,xs=>by show(Ĥ í<|Ý (toX e c (xs.headD dE)::toA es c xs.tail) env).all (λx=>!x.1)=fy;rw[Zr];show(fy&&(Ĥ í<|Ý (toA es c xs.tail) env).all (λx=>!x.1))=fy;rw[J3 env í es];rfl
abbrev ZC:O.Pt->Bool
 |.one _=>fy
 |_=>fz
def MI(p:O.Pt)(x:Expr):((!ZC p)=fy->∃es k q,toP p c x=.Tuple es k q)/\((!ZC p)=fz->∃y q,toP p c x=.Name y q):=by
 cases p with
 |one j=>exact⟨λz=>(by cases z),λ_=>⟨_,_,rfl⟩⟩
 |many js=>exact⟨λ_=>⟨_,_,_,rfl⟩,λz=>(by cases z)⟩
 |nest j js=>exact⟨λ_=>⟨_,_,_,rfl⟩,λz=>(by cases z)⟩
abbrev D6(X:Cx)(c:Md)(j:Nat):Prop:=X.N[j]?=fw (c.nmOf j)/\L2.Loc X.env.scope (c.nmOf j)/\(X.fn (c.nmOf j)=fy\/X.env.scope.names.lookup (c.nmOf j)=fw .local)
abbrev Ik(q:Nat->Prop):O.Pt->Prop
 |.one j=>q j
 |.many js=>∀j∈js,q j
 |.nest j js=>q j/\∀k∈js,q k
def Nl(nd:X.N.Nodup)(f:Nat->Pos):∀(js:List Nat) (k:Nat),(∀j∈js,D6 X c j)->
  PGs X ((js.zipIdx k).map λp=>.Name (c.nmOf p.1)<|f p.2) (Cm i js)/\(Ĝ ((js.zipIdx k).map λp=>.Name (c.nmOf p.1)<|f p.2) X.env).length=js.length/\(Ĝ ((js.zipIdx k).map λp=>.Name (c.nmOf p.1)<|f p.2) X.env).findIdx? (·.1)=fx
 |[],_,_=>⟨GL,rfl,rfl⟩
 |j::js,k,h=>by
  let⟨h1,h2,h3⟩:=h j (by simp);let⟨a1,a2,a3⟩:=Nl nd f js (k+1) λl hl=>h l (by simp[hl]);rw[List.zipIdx_cons,Í];refine⟨ED nd h1 h2 h3 a1 rfl,?_,?_⟩
  .show(Ĝ ((js.zipIdx<|k+1).map _) X.env).length+1=js.length+1;rw[a2]
  .show List.findIdx? (·.1) ((fz,χ (.Name (c.nmOf j)<|f k) X.env)::Ĝ _ X.env)=fx;rw[List.findIdx?_cons];simp[a3]
def Iq(hK:X.K=i.K)(nd:X.N.Nodup)(hc:X.calm=fy){x:Expr}(h:Ik (D6 X c) p):PG X (toP p c x)<|gPt i p:=by
 cases p with
 |one j=>exact OO nd h.1 h.2.1 h.2.2
 |many js =>let⟨a1,a2,a3⟩:=Nl nd (λk=>(kid x k).pos) js 0 h;exact U7 hK hc a1 a2 a3
 |nest j js =>let⟨h0,h⟩:=h;let⟨a1,a2,a3⟩:=Nl nd (λk=>(kid (kid x 1) k).pos) js 0 h;exact FY hK hc (OO nd h0.1 h0.2.1 h0.2.2)<|U7 hK hc a1 a2 a3
variable {a:O.E}{b:O.E}{l:Expr}{í:Pos}
def RA(g:Gd X i P n c){o:O.Bop}{r:Expr}(ha:PE X l<|tE X i Φ a)(hb:PE X r<|tE X i Φ b):PE X (.BinOp l (OS o) r í)<|tE X i Φ<|.bin o a b:=by
 cases o with
 |add=>exact KW RB (by rw[g.K];exact b_add) ha hb
 |sub=>exact KW P8 b_sub ha hb
 |mul=>exact KW Qz b_mul ha hb
 |fdiv=>exact KW GU b_fdiv ha hb
 |mod=>exact KW LS b_mod ha hb
 |pow=>exact KW IX b_pow ha hb
abbrev Of:O.Cop->Bool
 |.is=>fy
 |.isnot=>fy
 |.ntT=>fy
 |_=>fz
variable {o:O.Cop}
def OY(g:Gd X i P n c)(h:Of o=fz):∃r,OpR X (ð<|WR o) r/\Z8 i o r:=by
 have u65:X.A.units+65<Ğ:=by have:=g.un;lia
 have u64:X.A.units+64<Ğ:=by have:=g.un;lia
 have u0:X.A.units<Ğ:=by have:=g.un;lia
 cases o with
 |eq=>exact⟨_,La u64,by rw[g.K];exact Th⟩
 |ne=>exact⟨_,Qg u64,by rw[g.K];exact SD⟩
 |lt=>exact⟨_,S0 u0,by rw[g.K];exact c_lt⟩
 |le=>exact⟨_,R8,c_le⟩
 |gt=>exact⟨_,SY u0,by rw[g.K];exact c_gt⟩
 |ge=>exact⟨_,Rl,c_ge⟩
 |isin=>exact⟨_,SZ u65,by rw[g.K];exact SQ⟩
 |notin=>exact⟨_,Tl u65,by rw[g.K];exact Tc⟩
 |eqE=>exact⟨_,Eo u64,by rw[g.K];exact c_eqE⟩
 |neE=>exact⟨_,CB u64,by rw[g.K];exact c_neE⟩
 |_=>cases h
def IW(h:Ip v=fy):PE X (.Constant (Rg v) j í)<|tE X i Φ<|.cst v:=by
 cases v with
 |non=>exact Jd DS λ_=>.non
 |bl b=>exact Jd QK λ_=>.bl _
 |int k=>exact Jd OV λ_=>.int _
 |str s=>exact Jd PQ λ_=>.str _
 |_=>cases h
abbrev Cb:O.E->Bool
 |.cst .non=>fy
 |_=>fz
def HR{e:O.E}(h:Cb e=fy):e=.cst .non:=by
 cases e with
 |cst v=>cases v with
  |non=>rfl
  |_=>cases h
 |_=>cases h
variable {y:Expr}
def Cw(hn:∀G v d,O.fU G o v .non≠fw d)(ha:PE X l<|tE X i Φ a)(hb:PE X y<|tE X i Φ<|.cst .non)(hm:ŀ op y=fz) :
  PE X (.Compare l [op] [y] í) (tE X i Φ<|.cmp o a<|.cst .non)/\PT X (.Compare l [op] [y] í) (tTt X i Φ<|.val<|.cmp o a<|.cst .non):=by
 have ho:OpR X (ð op) λ_ _ _ _=>False:=λ_ _ _ _ _ _ _ _ _ _ _ _ h=>h.elim;refine⟨(UK ho ha hb hm).imp λσ H Q ⟨env,G,Qm,Em,p,w,c⟩=>?_,(Ak ho ha hb hm).imp λσ H Q ⟨env,G,Qm,Em,p,w,c⟩=>?_⟩
 .refine one p w λv G1 H1 x k1 p1 r q=>?_;let⟨d,e,_⟩:=fG q;exact ij e<|hn G1 v d
 .refine one p w λv G1 H1 x k1 p1 r q=>?_;let⟨d,e,_⟩:=fG q;exact ij e<|hn G1 v d
def Oi(g:Gd X i P n c){x:Expr}(h:(!Of o||Cb b)=fy)(ha:PE X l<|tE X i Φ a)(hb:PE X (toX b c x)<|tE X i Φ b) :
  PE X (.Compare l [WR o] [toX b c x] í) (tE X i Φ<|.cmp o a b)/\PT X (.Compare l [WR o] [toX b c x] í) (tTt X i Φ<|.val<|.cmp o a b):=by
 cases z:Of o with
 |false =>let⟨r,h1,h2⟩:=OY g z;exact⟨QM h1 h2 ha hb<|Ha _ _ _,Pn h1 h2 ha hb<|Ha _ _ _⟩
 |true =>
  rw[z]at h;cases HR h;cases o with
  |is=>exact⟨Sv ha,LC ha⟩
  |isnot=>exact⟨Lb ha,GB ha⟩
  |ntT=>exact Cw (λG v d e=>by cases v<;>simp[O.fU,O.asLst]at e) ha hb<|Ha _ _ _
  |_=>cases z
def JB(g:Gd X i P n c){d:O.E}{x:Expr}(h1:Of o1=fz)(h2:Of o2=fz)(ha:PE X l<|tE X i Φ a)(hb:PE X y<|tE X i Φ b)(hd:PE X (toX d c x)<|tE X i Φ d) :
  PE X (.Compare l [WR o1,WR o2] [y,toX d c x] í) (tE X i Φ<|.chain o1 o2 a b d)/\PT X (.Compare l [WR o1,WR o2] [y,toX d c x] í) (tTt X i Φ<|.val<|.chain o1 o2 a b d):=by
 let⟨r1,a1,a2⟩:=OY g h1;let⟨r2,b1,b2⟩:=OY g h2;have hm:bA [WR o1,WR o2] [y,toX d c x]=fz:=Ha _ _ _;exact⟨GZ a1 a2 b1 b2 ha hb hd hm,ET a1 a2 b1 b2 ha hb hd hm⟩
def Lf(h:PE X e<|tE X i Φ m)(he:∀aH,cB e X.env aH=(do let v<-aH;ϐ e.pos;ŕ [v] (truthy v)))(hK:X.K=i.K):PT X e<|tTt X i Φ<|.val m:=by
 refine(E7 h he).imp λσ H Q ⟨env,G,Qm,Em,p,w,c⟩=>?_;refine one p w λv G1 H1 x k1 p1 r q=>?_;let⟨d,e1,q2⟩:=fG q;clear q;refine⟨d,?_,c d G1 H1 k1 p1.hp q2⟩;cases v with
 |non=>cases r;cases e1;rfl
 |bl b=>cases r;cases e1;rfl
 |int b =>
  cases r;cases e1;show ik (b≠0)=(b != 0)
  by_cases e:b=0<;>simp[e]
 |key _ _=>cases e1
 |str b =>
  cases r;let⟨hl,e1⟩:=Zm e1;cases e1;refine⟨by rw[ZH];exact Û hl Ym,?_⟩;rw[ZH];by_cases e:b.length=0
  .rw[e];rfl
  .rw[ig e];symm;simpa using (by lia:¬ ((b.length:Int)=0))
 |tup xs =>
  cases e1;cases r with
  |tup hp hr =>refine .inr (.inl ⟨_,by rw[hK];exact Zl hp,?_⟩);cases hr<;>rfl
 |scr ns =>
  cases e1;cases r with
  |scr h =>refine .inl ⟨_,by rw[hK];exact Ye h,?_⟩;cases ns<;>rfl
 |ref a =>
  cases r.ref_inv
  replace e1:(match G1 a with|some (.lst xs)=>fw (!xs.isEmpty)|some (.dct kvs)=>fw (!kvs.isEmpty)|_=>fx)=fw d:=e1
  cases z:G1 a with
  |none=>rw[z]at e1;cases e1
  |some o =>
   rw[z]at e1;cases o with
   |lst xs =>cases e1;let⟨vs,h1,h2⟩:=p1.hp a _ z;refine .inl ⟨vs,gT.of h1,?_⟩;cases h2<;>rfl
   |dct kvs =>cases e1;let⟨ps,h1,h2⟩:=p1.hp a _ z;refine .inr<|.inr ⟨ps,h1,?_⟩;cases h2<;>rfl
   |_=>cases e1
def gb(j:Nat)(h:blts[j]?=fw x):x∈blts:=ä h
variable {a:Bool}{b:Bool}{p:Prop}
def an2(h:(a&&b)=fy)(k:a=fy->b=fy->p):p:=k (by cases a;cases h;rfl) (by cases a;cases h;exact h)
variable {c:Bool}
def an3(h:(a&&b&&c)=fy)(k:a=fy->b=fy->c=fy->p):p:=an2 h λh z=>an2 h λx y=>k x y z
variable {d:Bool}
def an4(h:(a&&b&&c&&d)=fy)(k:a=fy->b=fy->c=fy->d=fy->p):p:=an2 h λh z=>an3 h λu x y=>k u x y z
variable {e:Bool}
def an5(h:(a&&b&&c&&d&&e)=fy)(k:a=fy->b=fy->c=fy->d=fy->e=fy->p):p:=an2 h λh z=>an4 h λu x y w=>k u x y w z
variable {f:Bool}
def an6(h:(a&&b&&c&&d&&e&&f)=fy)(k:a=fy->b=fy->c=fy->d=fy->e=fy->f=fy->p):p:=an2 h λh z=>an5 h λu x y w v=>k u x y w v z
def an7(h:(a&&b&&c&&d&&e&&f&&g)=fy)(k:a=fy->b=fy->c=fy->d=fy->e=fy->f=fy->g=fy->p):p:=an2 h λh z=>an6 h λu x y w v t=>k u x y w v t z
def Ge(h:(!a)=fy):a=fz:=by cases a;rfl;cases h
def R1(h:(a||b)=fy):a=fy\/b=fy:=by cases a;exact .inr h;exact .inl rfl
def dt{q:Prop}[Decidable q](h:decide q=fy):q:=of_decide_eq_true h
abbrev Md.gn(c:Md)(y:String):Bool:=c.gl (im y)&&nm (im y)
abbrev MQ:O.Bi->Bool
 |.len=>fy
 |.int=>fy
 |.min2=>fy
 |.max2=>fy
 |.all=>fy
 |.list=>fy
 |.tuple=>fy
 |.sortedI=>fy
 |_=>fz
abbrev No:O.Bi->Bool
 |.len=>fy
 |.int=>fy
 |.list=>fy
 |.tuple=>fy
 |_=>fz
abbrev Sq(c:Md):O.Bi->Bool
 |.isi (T::r)=>c.gl "isinstance" && (T::r).all (λT=>kinds.contains T&&c.gl (im T))&&ik (r.length<1)
 |.lenSet=>c.gl "len" && c.gl "set" && c.cm
 |.sortedSet=>c.gl "sorted" && c.gl "set" && c.cm
 |.minD=>c.gl "min" && c.cm
 |_=>fz
abbrev EC:O.Bm->Option Nat
 |.append=>fw 1
 |.popAt=>fw 1
 |.dget=>fw 1
 |.dgetD=>fw 2
 |.dpop=>fw 1
 |.dpopD=>fw 2
 |_=>fx
abbrev Ey:O.Tt->Bool
 |.yes=>fy
 |_=>fz
abbrev D7:O.E->Bool
 |.var _=>fy
 |.call _ _=>fy
 |.meth _ _ _ _=>fy
 |.bi _ _=>fy
 |.bm _ _ _=>fy
 |.idx _ _=>fy
 |.fld _ _=>fy
 |.glob _ _=>fy
 |_=>fz
abbrev SL:O.E->Bool
 |.cmp _ _ _=>fy
 |.chain _ _ _ _ _=>fy
 |_=>fz
mutual
noncomputable def okE:O.E->Md->Expr->Bool
 |.cst v,_,_=>Ip v
 |.var j,c,_=>ik (j<c.N.length)&&c.vis (c.nmOf j)&&nm (c.nmOf j)
 |.glob y v,c,_=>c.gn y&&ik (c.cs.lookup y=fw v)
 |.bin _ a b,c,x=>okE a c (kid x 0)&&okE b c (kid x 1)
 |.neg a,c,x=>okE a c<|kid x 0
 |.not a,c,x=>okE a c<|kid x 0
 |.and a b,c,x=>okE a c (kid x 0)&&okE b c (rest (ZM b) x)&&(!ZM b||(rest (ZM b) x).pos==x.pos)
 |.or a b,c,x=>okE a c (kid x 0)&&okE b c (rest (YA b) x)&&(!YA b||(rest (YA b) x).pos==x.pos)
 |.cmp o a b,c,x=>okE a c (kid x 0)&&okE b c (kid x 1)&&(!Of o||Cb b)
 |.chain o1 o2 a b d,c,x=>okE a c (kid x 0)&&okE b c (kid x 1)&&okE d c (kid x 2) && !Of o1 && !Of o2
 |.call f as,c,x=>c.gn f&&c.fs.contains f&&c.cm&&okA as c (sub x).tail
 |.make C as,c,x=>c.gn C&&c.cl.contains C&&c.cm&&ik (ZV as≠0)&&okA as c (sub x).tail
 |.meth C m o as,c,x=>c.ms.contains (C,m)&&c.cm&&okE o c (kid (kid x 0) 0)&&YL (toX o c<|kid (kid x 0) 0)&&((kid x 0).pos.endLine==x.pos.line)&&ik (ZV as<20)&&okA as c (sub x).tail
 |.meth2 C D m o as,c,x=>c.ms.contains (C,m)&&c.cm&&okE o c (kid (kid x 0) 0)&&YL (toX o c<|kid (kid x 0) 0)&&((kid x 0).pos.endLine==x.pos.line)&&ik (ZV as<20)&&okA as c (sub x).tail&&c.ms.contains (D,m)
 |.fld o f,c,x=>c.fl.contains f&&okE o c (kid x 0)&&YL (toX o c<|kid x 0)
 |.bi f as,c,x=>((ik (ZV as=1)&&Sq c f)||(MQ f&&c.gl (Bh f)&&ik (ZV as≠0)&&(c.cm||No f)))&&okA as c (KC f x)
 |.bm m o as,c,x=>ik (EC m=fw (ZV as))&&okE o c (kid (kid x 0) 0)&&YL (toX o c<|kid (kid x 0) 0)&&((kid x 0).pos.endLine==x.pos.line)&&okA as c (sub x).tail
 |.idx a b,c,x=>okE a c (kid x 0)&&okE b c (kid x 1)
 |.slc a lo hi,c,x=>okE a c (kid x 0)&&okO lo c (kid (kid x 1) 0)&&okO hi c (kid (kid x 1) 1)
 |.tup es,c,x=>okA es c (sub x)&&ik (ZV es<=1000)
 |.lst es,c,x=>okA es c (sub x)&&ik (ZV es<=1000)
 |.sortT a,c,x=>c.gl "sorted" && okE a c (kid x 1)
 |.pick a lo hi st,c,x=>okE a c (kid x 0)&&okO lo c (kid (kid x 1) 0)&&okO hi c (kid (kid x 1) 1)&&okE st c (kid (kid x 1) 2)
 |.dct es,c,x=>okA es c (sub x)&&JG es&&ik (esL es<=30)
 |.ife t a b,c,x=>okT t c (kid x 0)&&okE a c (kid x 1)&&okE b c (kid x 2)
 |.comp þ m p it t e,c,x=>(Bx m p&&(XU<|kid x 1).length==m)&&c.cm&&YI (scp x) c.sc c.N (XU<|kid x 1) þ&&(scp x).kind == .function&&okI it c (kid x 2) (!ZC p)&&okE e (c.blk (scp x) (XU<|kid x 1) þ) (kid x 0)&&(Ey t||okT t (c.blk (scp x) (XU<|kid x 1) þ) (kid x 3))
 |_,_,_=>fz
noncomputable def okA:O.Es->Md->List Expr->Bool
 |.nil,_,_=>fy
 |.cons e es,c,xs=>okE e c (xs.headD dE)&&okA es c xs.tail
noncomputable def okO:O.Oe->Md->Expr->Bool
 |.none,_,_=>fy
 |.some e,c,x=>okE e c x
noncomputable def okT:O.Tt->Md->Expr->Bool
 |.yes,_,_=>fz
 |.val e,c,x=>okE e c x&&(D7 e||SL e)
 |.not t,c,x=>okT t c<|kid x 0
 |.and a b,c,x=>okT a c (kid x 0)&&okT b c (rest (Zk b) x)&&(!Zk b||(rest (Zk b) x).pos==x.pos)
 |.or a b,c,x=>okT a c (kid x 0)&&okT b c (rest (Zw b) x)&&(!Zw b||(rest (Zw b) x).pos==x.pos)
noncomputable def okI:O.It->Md->Expr->Bool->Bool
 |.seq e,c,x,_=>okE e c x
 |.seqT _ e,c,x,_=>okE e c x
 |.range a,c,x,_=>c.gl "range" && okE a c (kid x 1)
 |.range2 a b,c,x,_=>c.gl "range" && okE a c (kid x 1)&&okE b c (kid x 2)
 |.enum e,c,x,t=>t&&c.gl "enumerate" && okE e c (kid x 1)
 |.items e,c,x,_=>okE e c x
 |_,_,_,_=>fz
end
variable {X:Cx}{i:Inf}{P:O.Pg}{n:Nat}{c:Md}
variable {es:List Expr}{q:Pos}{l:Nat}
def HS(g:Gd X i P n c){f:O.Bi}(hp:MQ f=fy)(eQ:(c.cm||No f)=fy){e:Expr}{as:O.Es}{p:Pos}(hg:Gl X<|Bh f)(ha:PA X (e::es)<|tAr X i (O.wF P n) as l)
  (he:Ý (e::es) X.env=(fz,eval e X.env)::Ý es X.env) (hpl:(Ĥ p<|Ý es X.env).any (·.1)=fz):PE X (.Call (.Name (Bh f) q) (e::es) [] p)<|tE X i (O.wF P n)<|.bi f as:=by
 have hc:No f=fz->X.calm=fy:=λz=>g.calm (by rw[z,ϱ]at eQ;exact eQ);cases f with
 |len=>exact(Z7 ((call_len_seq.or MC).or BD) hg (g.bl _<|gb 10 rfl) (by kernel_rfl) ha (he:=he) (hpl:=hpl)).imp (WQ<|by rw[g.K];exact LN)
 |int=>exact(Xw (call_int1.or Kl) hg (g.bl _<|gb 1 rfl) (by kernel_rfl) ha (he:=he) (hpl:=hpl)).imp<|WQ Ld
 |min2=>exact(Z7 (BV<|hc rfl) hg (g.bl _<|gb 8 rfl) (by kernel_rfl) ha (he:=he) (hpl:=hpl)).imp<|WQ HN
 |max2=>exact(Z7 (A8<|hc rfl) hg (g.bl _<|gb 7 rfl) (by kernel_rfl) ha (he:=he) (hpl:=hpl)).imp<|WQ Hl
 |all=>exact(Z7 (Ck<|hc rfl) hg (g.bl _<|gb 13 rfl) (by kernel_rfl) ha (he:=he) (hpl:=hpl)).imp (WQ<|by rw[g.K];exact Pj)
 |list=>exact(Xw Nh hg (g.bl _<|gb 4 rfl) (by kernel_rfl) ha (he:=he) (hpl:=hpl)).imp (WQ<|by rw[g.K];exact FJ)
 |sortedI=>exact(Z7 (call_sorted.or<|MT<|hc rfl) hg (g.bl _<|gb 11 rfl) (by kernel_rfl) ha (he:=he) (hpl:=hpl)).imp (WQ<|by rw[g.K];exact O8)
 |tuple=>exact(Xw Kx hg (g.bl _<|gb 5 rfl) (by kernel_rfl) ha (he:=he) (hpl:=hpl)).imp (WQ<|by rw[g.K];exact Cu)
 |_=>cases hp
variable {T:String}
def Q5(hT:T∈kinds):im T∈blts/\š (im T)=fw (.type T)/\im T≠"__name__"/\(im T==("__debug__" : Str))=fz:=by
 simp![kinds,Ç,Ö,or_false]at hT;rcases hT with rfl|rfl|rfl|rfl|rfl|rfl
 .exact⟨gb 1 rfl,by kernel_rfl,by decide,by decide⟩
 .exact⟨gb 2 rfl,by kernel_rfl,by decide,by decide⟩
 .exact⟨gb 3 rfl,by kernel_rfl,by decide,by decide⟩
 .exact⟨gb 4 rfl,by kernel_rfl,by decide,by decide⟩
 .exact⟨gb 5 rfl,by kernel_rfl,by decide,by decide⟩
 .exact⟨gb 6 rfl,by kernel_rfl,by decide,by decide⟩
def CN(g:Gd X i P n c){e:Expr}{m:O.E}{p p2 í:Pos}(hT:T∈kinds)(h2:c.gl "isinstance" = fy)(h5:c.gl (im T)=fy)(he:PE X e<|tE X i (O.wF P n) m)(Ź:Ý [e,.Name (im T) p2] X.env=(fz,eval e X.env)::Ý [.Name (im T) p2] X.env) :
  PE X (.Call (.Name "isinstance" p) [e,.Name (im T) p2] [] í) (tE X i (O.wF P n)<|.bi (.isi [T])<|.cons m .nil):=by
 have k:=Q5 hT;exact QD hT he g.K (g.gl h2) (g.bl _<|gb 0 rfl) (g.gl h5) (g.bl _ k.1) k.2.1 k.2.2.1 k.2.2.2 Ź
variable {m:O.Bm}{o:Expr}{mo:O.E}{Ŕ:Pos}{ŧ:Pos}
def Db(g:Gd X i P n c)(h:EC m=fw 0)(ho:PE X o<|tE X i (O.wF P n) mo)(hb:∀f,ħ o f X.env (eval o X.env)=eval o X.env)(hl:(Ŕ.endLine==ŧ.line)=fy) :
  PE X (.Call (.Attribute o (PK m) Ŕ) [] [] ŧ) (tE X i (O.wF P n)<|.bm m mo .nil):=by
 cases m with
 |_=>cases h
def GV(g:Gd X i P n c){k:Nat}(h:EC m=fw (k+1)){e:Expr}{ms:O.Es}(ho:PE X o<|tE X i (O.wF P n) mo)(ha:PA X (e::es)<|tAr X i (O.wF P n) ms l)(hb:∀f,ħ o f X.env (eval o X.env)=eval o X.env)(hl:(Ŕ.endLine==ŧ.line)=fy)(au:((Ĥ ŧ<|Ý (e::es) X.env).all (λx=>!x.1)&&(μ ŧ<|Ō [] X.env).all (λx=>x.1.isSome)&&ik ((e::es).length+([]:List bb).length+(if([]:List bb).isEmpty then 0 else 1)<30))=fy)(hs:Ý (e::es) X.env=(fz,eval e X.env)::Ý es X.env)(hpl:(Ĥ ŧ<|Ý es X.env).any (·.1)=fz) :
  PE X (.Call (.Attribute o (PK m) Ŕ) (e::es) [] ŧ) (tE X i (O.wF P n)<|.bm m mo ms):=by
 have u1:X.A.units+1<Ğ:=by have:=g.un;lia
 cases m with
 |append=>exact Bp g.K PySem.F.plainAttrs_list PySem.F.slot_list_append PySem.F.type_list_append Bo (QZ rfl) Qk ho ha (hb _) au hl hs hpl
 |popAt=>exact Bp g.K PySem.F.plainAttrs_list PySem.F.slot_list_pop PySem.F.type_list_pop EW (QZ rfl) FE ho ha (hb _) au hl hs hpl
 |dget=>exact Bp g.K PySem.F.plainAttrs_dict PySem.F.slot_dict_get PySem.F.type_dict_get (Ew u1) (F3 rfl) Ph ho ha (hb _) au hl hs hpl
 |dgetD=>exact Bp g.K PySem.F.plainAttrs_dict PySem.F.slot_dict_get PySem.F.type_dict_get (E0 u1) (F3 rfl) Hf ho ha (hb _) au hl hs hpl
 |dpop=>exact Bp g.K PySem.F.plainAttrs_dict PySem.F.slot_dict_pop PySem.F.type_dict_pop mt_dpop (F3 rfl) Qj ho ha (hb _) au hl hs hpl
 |dpopD=>exact Bp g.K PySem.F.plainAttrs_dict PySem.F.slot_dict_pop PySem.F.type_dict_pop (mt_dpop.or EY) (F3 rfl) FQ ho ha (hb _) au hl hs hpl
 |_=>cases h
variable {sc:ς}{þ:List Nat}
def Gd.blk(g:Gd X i P n c){x:List Str}(hb:YI sc c.sc c.N x þ=fy)(hk:sc.kind=.function)(cl:List<|Str×Ð)(C:Ð)(s:Æ)(H:Hp)(ex:List Ð) :
  Gd (Zt X sc (Yj X x þ) cl C s H ex) i P n (c.blk sc x þ) where
 K:=g.K
 N:=by show Yj X x þ=_;unfold Yj;rw[g.N];rfl
 sc:=by show cf sc X.env=_;unfold cf Env.kindOf;rw[g.sc];rfl
 nd:=by have B:=OD g.sc g.N hk hb;have:=B.nd;unfold Yj at this;rw[g.N]at this;exact this
 un:=g.un
 calm:=g.calm
 room:=g.room
 bl:=g.bl
 dfs:=g.dfs
 cst:=g.cst
 kl:=⟨g.kl.A,g.kl.F,g.kl.mkc,g.kl.mth⟩
 xl:=λh=>⟨(g.xl h).xc,(g.xl h).rs,(g.xl h).kn⟩
def Gd.pt(g:Gd X i P n c)(eQ:c.cm=fy){xs:List Str}(hb:YI sc c.sc c.N xs þ=fy)(hk:sc.kind=.function){p:O.Pt}(hp:Bx xs.length p=fy)(x:Expr)(cl:List<|Str×Ð)(C:Ð)(s:Æ)(H:Hp)(ex:List Ð) :
  PG (Zt X sc (Yj X xs þ) cl C s H ex) (toP p (c.blk sc xs þ) x) (gPt i p):=by
 have B:=OD g.sc g.N hk hb;have G:=g.blk hb hk cl C s H ex;have key:∀j,j<xs.length->D6 (Zt X sc (Yj X xs þ) cl C s H ex) (c.blk sc xs þ) j:=λj hj=>by
  have e:(c.blk sc xs þ).nmOf j=xs[j]:=by unfold Md.nmOf Md.blk;show(xs++_).getD j _=_;rw[Ĕ,Ċ hj,Ê hj];rfl
  have lo:=lookup_relabel_local (env:=X.env)<|B.own xs[j]<|ķ hj;unfold D6;rw[e];refine⟨?_,.inl lo,.inr lo⟩;show(xs++_)[j]?=_;rw[Ċ hj,Ê hj]
 refine Iq G.K (by rw[G.N];exact G.nd) (g.calm eQ) ?_;cases p with
 |one j=>exact key j<|of_decide_eq_true hp
 |many js=>exact λj hj=>key j<|of_decide_eq_true<|ą.mp hp j hj
 |nest j js=>cases hp
def Aa{b:O.E}(h:ZM b=fy):∃a d,b=.and a d:=O.E.and.elim (motive_1:=λb=>∃a d,b=.and a d) b (eq_of_beq h) λa d=>⟨a,d,rfl⟩
def B2{b:O.E}(h:YA b=fy):∃a d,b=.or a d:=O.E.or.elim (motive_1:=λb=>∃a d,b=.or a d) b (eq_of_beq h) λa d=>⟨a,d,rfl⟩
def CJ{b:O.Tt}(h:Zk b=fy):∃a d,b=.and a d:=O.Tt.and.elim (motive_4:=λb=>∃a d,b=.and a d) b (eq_of_beq h) λa d=>⟨a,d,rfl⟩
def F7{b:O.Tt}(h:Zw b=fy):∃a d,b=.or a d:=O.Tt.or.elim (motive_4:=λb=>∃a d,b=.or a d) b (eq_of_beq h) λa d=>⟨a,d,rfl⟩
def M8{p:Pos}(h:(!b||p==q)=fy)(hb:b=fy):p=q:=by rw[hb]at h;exact eq_of_beq h
variable {Φ:O.Fs}{x:Expr}
def Co{b:O.E}(hp:(!ZM b||(rest (ZM b) x).pos==x.pos)=fy)(h:PE X (toX b c<|rest (ZM b) x)<|tE X i Φ b):PE X (.BoolOp .And (flat (ZM b)<|toX b c<|rest (ZM b) x) x.pos)<|tE X i Φ b:=by
 cases z:ZM b with
 |false=>rw[z]at h;exact EG h
 |true =>have e:=M8 hp z;rw[z]at e h;let⟨a,d,rfl⟩:=Aa z;show PE X (.BoolOp .And (sub<|.BoolOp .And _ (rest fy x).pos) x.pos) _;rw[<-e];exact h
def HP{b:O.E}(hp:(!YA b||(rest (YA b) x).pos==x.pos)=fy)(h:PE X (toX b c<|rest (YA b) x)<|tE X i Φ b):PE X (.BoolOp .Or (flat (YA b)<|toX b c<|rest (YA b) x) x.pos)<|tE X i Φ b:=by
 cases z:YA b with
 |false=>rw[z]at h;exact EG h
 |true =>have e:=M8 hp z;rw[z]at e h;let⟨a,d,rfl⟩:=B2 z;show PE X (.BoolOp .Or (sub<|.BoolOp .Or _ (rest fy x).pos) x.pos) _;rw[<-e];exact h
def KR(b:Bool){e:O.E}(h:b=ZM e\/b=YA e):∃y ys,flat b (toX e c x)=y::ys:=by
 cases b with
 |false=>exact⟨_,_,rfl⟩
 |true =>
  rcases h with h|h
  .obtain⟨a,d,rfl⟩:=Aa h.symm;exact⟨_,_,rfl⟩
  .obtain⟨a,d,rfl⟩:=B2 h.symm;exact⟨_,_,rfl⟩
variable {i:Inf}{P:O.Pg}{n:Nat}
variable {X:Cx}{c:Md}{Φ:O.Fs}{b:O.Tt}{x:Expr}
def AQ(hp:(!Zk b||(rest (Zk b) x).pos==x.pos)=fy)(h:PT X (toT b c<|rest (Zk b) x)<|tTt X i Φ b)(h2:(Zk b||Zw b)=fy->PW X (toT b c<|rest (Zk b) x) (tTt X i Φ b)) :
  ∃y ys,flat (Zk b) (toT b c<|rest (Zk b) x)=y::ys/\PW X (.BoolOp .And (y::ys) x.pos) (tTt X i Φ b):=by
 cases z:Zk b with
 |false=>rw[z]at h;exact⟨_,_,rfl,Fi h⟩
 |true =>have e:=M8 hp z;rw[z]at e h2;let⟨a,d,rfl⟩:=CJ z;refine⟨_,_,rfl,?_⟩;rw[<-e];exact h2 rfl
def DE(hp:(!Zw b||(rest (Zw b) x).pos==x.pos)=fy)(h:PT X (toT b c<|rest (Zw b) x)<|tTt X i Φ b)(h2:(Zk b||Zw b)=fy->PW X (toT b c<|rest (Zw b) x) (tTt X i Φ b)) :
  ∃y ys,flat (Zw b) (toT b c<|rest (Zw b) x)=y::ys/\PW X (.BoolOp .Or (y::ys) x.pos) (tTt X i Φ b):=by
 cases z:Zw b with
 |false=>rw[z]at h;exact⟨_,_,rfl,PY h⟩
 |true =>have e:=M8 hp z;rw[z]at e h2;let⟨a,d,rfl⟩:=F7 z;refine⟨_,_,rfl,?_⟩;rw[<-e];exact h2 rfl
variable {þ:List Nat}{p:O.Pt}{it:O.It}{í:Pos}
def KK(g:Gd X i P n c){mt:O.Tt}{me:O.E}{bX ŷ bK:Expr}{x:List Str}{bw:List Expr}{sc:ς}(eQ:c.cm=fy)(h1:YI sc c.sc c.N x þ=fy)(hk:sc.kind=.function)(hp:Bx x.length p=fy)
  (hi:PI X bK ŷ<|tIt X i (O.wF P n) it) (hs:∀y,Ě ŷ X.env y=pure y) (hG:∀cl C s H ex,PG (Zt X sc (Yj X x þ) cl C s H ex) bK<|gPt i p)
  (hE:∀cl C s H ex,PE (Zt X sc (Yj X x þ) cl C s H ex) bX<|tE0 i (O.wF P n) me) (hI:∀cl C s H ex,PIfs (Zt X sc (Yj X x þ) cl C s H ex) bw<|tT0 i (O.wF P n) mt) :
  PE X (.ListComp bX [⟨bK,ŷ,bw,0⟩] sc í) (tE X i (O.wF P n)<|.comp þ x.length p it mt me)/\
   ∀(y:Str) (py ϡ:Pos) (j:Nat),X.N[j]?=fw y->L2.Loc X.env.scope y->(X.fn y=fy\/X.env.scope.names.lookup y=fw .local)->η (.ListComp bX [⟨bK,ŷ,bw,0⟩] sc í) (fw<|.Name y py) ϡ.line X.env=pure fy->PS X (.Assign [.Name y py] (.ListComp bX [⟨bK,ŷ,bw,0⟩] sc í) ϡ) (tSt X i (O.wF P n)<|.set (.one j)<|.comp þ x.length p it mt me):=by
 have B:=OD g.sc g.N hk h1;have hc:=g.calm eQ;refine⟨(DV hc B hi hG hI hE hs).imp<|U9 hp,λy py ϡ j hj hl hf hsw=>?_⟩;refine(CQ (by rw[g.N];exact g.nd) hj hl hc B hi hG hI hE hs hsw hf).imp λD σ H ⟨env,G,N,R,Bk,Ct,Xe,p,w,e⟩=>?_;refine U9 hp σ H _ ⟨env,G,_,Xe env,p.pre,w,λv G1 H1 x k1 g1 r1 w1=>?_⟩;let⟨ŝ,e2,w2⟩:=fG w1;clear w1;cases e2;exact e.nx _ _ G1 H1 k1 g1 ((p.en.keep k1).set r1 j) w2
def Df(hN:X.N=c.N)(h:j<c.N.length):X.N[j]?=fw (c.nmOf j):=by rw[hN];unfold Md.nmOf;rw[Ĕ,Ê h];rfl
def E9{o:Expr}{m:Str}{Ŕ:Pos}(hb:ħ o m env (eval o env)=eval o env)(au:cT (args.length+0) (Ĥ í<|Ý args env) (μ í<|Ō [] env)=fy)(hl:(Ŕ.endLine==í.line)=fy) :
  eval (.Call (.Attribute o m Ŕ) args [] í) env=(do
    let ov<-eval o env
    ϐ Ŕ.atName
    let (f,first)<-ŕ [ov] (Ϟ ov m<|do return (<-importBound o env).getD fy)
    cD í f first (Ĥ í<|Ý args env) (μ í<|Ō [] env)):=by
 show(do
   let ov<-ħ o m env (eval o env)
   ϐ Ŕ.atName
   methodCall o m Ŕ í env ov (args.length+0) (Ĥ í<|Ý args env) (μ í<|Ō [] env))=_
 rw[hb];unfold methodCall methodCallPos;rw[au,hl];rfl
def IZ(env:Env)(í:Pos)(h:ZV as<20):cT ((toA as c xs).length+0) (Ĥ í<|Ý (toA as c xs) env) (μ í<|Ō [] env)=fy:=by unfold cT;rw[bAq,bAq,ii,Wu];refine⟨⟨J3 env í as c xs,rfl⟩,?_⟩;show ZV as+0+0<30;lia
def Rc{m:O.Tt}(h:Ey m=fz->PT X (toT m c x) (tTt X i (O.wF P n) m)):PIfs X (toF m c x)<|tT0 i (O.wF P n) m:=by
 cases m with
 |yes=>exact P2
 |val e=>exact We<|pt0<|h rfl
 |not t=>exact We<|pt0<|h rfl
 |and a b=>exact We<|pt0<|h rfl
 |or a b=>exact We<|pt0<|h rfl
def N2(c:Md):∀(es:O.Es) (xs:List Expr),JG es=fy->(XJ<|toA es c xs).all (·.isSome)=fy/\(XJ<|toA es c xs).length=(Bf<|toA es c xs).length/\2*(XJ<|toA es c xs).length=esL es
 |.nil,_,_=>⟨rfl,rfl,rfl⟩
 |.cons _ .nil,_,h=>by cases h
 |.cons k (.cons v r),xs,h=>by
  let⟨h1,h2,h3⟩:=N2 c r xs.tail.tail h;refine⟨?_,?_,?_⟩
  .show(fy&&(XJ<|toA r c xs.tail.tail).all (·.isSome))=fy;rw[h1];rfl
  .show(XJ<|toA r c xs.tail.tail).length+1=(Bf<|toA r c xs.tail.tail).length+1;rw[h2]
  .show 2*((XJ<|toA r c xs.tail.tail).length+1)=esL r+1+1;lia
def Iz(g:Gd X i P n c):X.A.units+1<Ğ:=by have:=g.un;lia
variable {a:O.E}
def DY{b:O.E}(ha:PE X (toX a c<|kid x 0)<|tE X i Φ a)(hp:(!ZM b||(rest (ZM b) x).pos==x.pos)=fy)(hb:PE X (toX b c<|rest (ZM b) x)<|tE X i Φ b):PE X (toX (.and a b) c x)<|tE X i Φ<|.and a b:=by have h2:=Co hp hb;let⟨y,ys,e⟩:=KR (c:=c) (ZM b) (e:=b) (x:=rest (ZM b) x)<|.inl rfl;show PE X (.BoolOp .And (toX a c (kid x 0)::flat (ZM b) (toX b c<|rest (ZM b) x)) x.pos) _;rw[e]at h2 ⊢;exact Sd ha h2
def FT{b:O.E}(ha:PE X (toX a c<|kid x 0)<|tE X i Φ a)(hp:(!YA b||(rest (YA b) x).pos==x.pos)=fy)(hb:PE X (toX b c<|rest (YA b) x)<|tE X i Φ b):PE X (toX (.or a b) c x)<|tE X i Φ<|.or a b:=by have h2:=HP hp hb;let⟨y,ys,e⟩:=KR (c:=c) (YA b) (e:=b) (x:=rest (YA b) x)<|.inr rfl;show PE X (.BoolOp .Or (toX a c (kid x 0)::flat (YA b) (toX b c<|rest (YA b) x)) x.pos) _;rw[e]at h2 ⊢;exact Tz ha h2
section
variable {X:Cx}{c:Md}{f C m:String}{o:O.E}{as:O.Es}{x:Expr}
def AZ(g:Gd X i P n c)(h1:c.gn f=fy)(h3:c.fs.contains f=fy)(h4:c.cm=fy)(ha:PA X (toA as c (sub x).tail)<|tAr X i (O.wF P n) as (toA as c (sub x).tail).length):PE X (toX (.call f as) c x)<|tE X i (O.wF P n)<|.call f as:=an2 h1 λh1 h2=>by
 cases as with
 |nil=>exact HE g.K (g.dfs _ h3) (g.rm h4) (g.gl h1) (KI h2).1
 |cons a as=>exact Py g.K (g.dfs _ h3) (g.rm h4) (g.gl h1) (KI h2).1 ha (Zr ..)<|Yv ..
def AC(g:Gd X i P n c)(h1:c.gn C=fy)(h3:c.cl.contains C=fy)(h4:c.cm=fy)(h6:ik (ZV as≠0)=fy)(ha:PA X (toA as c (sub x).tail)<|tAr X i (O.wF P n) as (toA as c (sub x).tail).length):PE X (toX (.make C as) c x)<|tE X i (O.wF P n)<|.make C as:=an2 h1 λh1 h2=>by
 let⟨a,f,i1,i2,M,hm,D⟩:=g.kl.mkc C h3;cases as with
 |nil=>exact ij rfl<|dt h6
 |cons b as=>exact Lo g.K i1 i2 M D (g.room h4) (g.gl h1) hm (KI h2).1 ha (Zr ..)<|Yv ..
def Wv(g:Gd X i P n c)(h1:c.ms.contains (C,m)=fy)(h2:c.cm=fy)(h4:YL (toX o c<|kid (kid x 0) 0)=fy)(h6:((kid x 0).pos.endLine==x.pos.line)=fy)(h7:ik (ZV as<20)=fy)(ho:PE X (toX o c<|kid (kid x 0) 0)<|tE X i (O.wF P n) o)(ha:PA X (toA as c (sub x).tail)<|tAr X i (O.wF P n) as (toA as c (sub x).tail).length):PE X (toX (.meth C m o as) c x)<|tE X i (O.wF P n)<|.meth C m o as:=by
 have ev:=E9 (m:=im m) (Yy h4 _ X.env) (IZ X.env x.pos (c:=c) (xs:=(sub x).tail)<|dt h7) h6;let⟨a,f,i1,A,M,D⟩:=g.kl.mth C m h1;cases as with
 |nil=>exact Hc g.K i1 A M D (g.rm h2) ho ev
 |cons b as=>exact Pp g.K i1 A M D (g.rm h2) ho ha (Zr ..) (Yv ..) ev
def Gv{f:O.Bi}(g:Gd X i P n c)(h:Sq c f=fy)(he:PE X (toX a c<|(KC f x).headD dE)<|tE X i (O.wF P n) a):PE X (toX (.bi f<|.cons a .nil) c x)<|tE X i (O.wF P n)<|.bi f<|.cons a .nil:=by
 cases f with
 |isi Ts=>cases Ts with
  |nil=>cases h
  |cons T r =>
   refine an3 h λh1 h2 h3=>?_;cases r with
   |nil=>exact an2 h2 λh2 _=>an2 h2 λh2 h4=>CN g (Ĉ.mp h2) h1 h4 he<|Zr ..
   |cons b r=>exact ij (dt h3) (by simp)
 |lenSet=>exact an3 h λh1 h2 h3=>B9 (g.calm h3) g.K he (g.gl h1) (g.bl _<|gb 10 rfl) (g.gl h2) (g.bl _<|gb 12 rfl) (by rw[Zr];rfl)
 |sortedSet=>exact an3 h λh1 h2 h3=>N9 (g.calm h3) g.K he (g.gl h1) (g.bl _<|gb 11 rfl) (g.gl h2) (g.bl _<|gb 12 rfl) (by rw[Zr];rfl)
 |minD=>exact an2 h λh1 h3=>PD (g.calm h3) (Iz g) g.K (g.gl h1) (g.bl _<|gb 8 rfl) he (by rw[Zr];rfl)
 |_=>cases h
def Gf{f:O.Bi}(g:Gd X i P n c)(h1:MQ f=fy)(h2:c.gl (Bh f)=fy)(h3:ik (ZV as≠0)=fy)(h4:(c.cm||No f)=fy)(ha:PA X (toA as c<|KC f x)<|tAr X i (O.wF P n) as (toA as c<|KC f x).length):PE X (toX (.bi f as) c x)<|tE X i (O.wF P n)<|.bi f as:=by
 cases as with
 |nil=>exact ij rfl<|dt h3
 |cons a as =>
  have e1:toX (.bi f<|.cons a as) c x=.Call (.Name (Bh f) (kid x 0).pos) (toA (.cons a as) c<|KC f x) [] x.pos:=by cases f<;>first|(cases h1;done)|rfl
  rw[e1];exact HS g h1 h4 (g.gl h2) ha (Zr ..)<|Yv ..
def P3{m:O.Bm}{k:Nat}(h:EC m=fw k):k<=2:=by cases m<;>first|(cases h;done)|(cases h;decide)
def Gg{m:O.Bm}(g:Gd X i P n c)(h1:EC m=fw (ZV as))(h3:YL (toX o c<|kid (kid x 0) 0)=fy)(h4:((kid x 0).pos.endLine==x.pos.line)=fy)(ho:PE X (toX o c<|kid (kid x 0) 0)<|tE X i (O.wF P n) o)(ha:PA X (toA as c (sub x).tail)<|tAr X i (O.wF P n) as (toA as c (sub x).tail).length):PE X (toX (.bm m o as) c x)<|tE X i (O.wF P n)<|.bm m o as:=by
 cases as with
 |nil=>exact Db g h1 ho (λf=>Yy h3 f _) h4
 |cons a as =>refine GV g h1 ho ha (λf=>Yy h3 f _) h4 ?_ (Zr ..)<|Yv ..;rw[bAq,bAq,ii];refine⟨⟨J3 X.env x.pos (.cons a as) c (sub x).tail,rfl⟩,?_⟩;have e2:(toA (.cons a as) c (sub x).tail).length=ZV (.cons a as):=Wu ..;have e3:=P3 h1;show(toA (.cons a as) c (sub x).tail).length+0+0<30;lia
def DA{es:O.Es}(h2:JG es=fy)(h3:esL es<=30)(hp:PPs X x.pos (XJ<|toA es c<|sub x) (Bf<|toA es c<|sub x)<|Oy X i (O.wF P n) es):PE X (toX (.dct es) c x)<|tE X i (O.wF P n)<|.dct es:=by
 cases es with
 |nil=>exact Li
 |cons k r=>cases r with
  |nil=>cases h2
  |cons v r =>let⟨q1,q2,q3⟩:=N2 c (.cons k<|.cons v r) (sub x) h2;exact QN h2 h3 hp q1 q2 (by intro z;cases z) (by rw[<-q3]at h3;lia)
def D3(g:Gd X i P n c)(z:D7 a=fy)(he:PE X (toX a c x)<|tE X i Φ a):PT X (toT (.val a) c x)<|tTt X i Φ<|.val a:=Lf he (by cases a<;>first|(cases z;done)|exact λ_=>rfl) g.K
def Bv{a:O.Tt}(ha:PT X (toT a c<|kid x 0)<|tTt X i Φ a)(hp:(!Zk b||(rest (Zk b) x).pos==x.pos)=fy)(h2:PT X (toT b c<|rest (Zk b) x) (tTt X i Φ b)/\((Zk b||Zw b)=fy->PW X (toT b c<|rest (Zk b) x) (tTt X i Φ b))):PW X (toT (.and a b) c x)<|tTt X i Φ<|.and a b:=by let⟨y,ys,e,h3⟩:=AQ hp h2.1 h2.2;show PW X (.BoolOp .And (toT a c (kid x 0)::flat (Zk b) (toT b c<|rest (Zk b) x)) x.pos) _;rw[e];exact Lp ha h3
def E1{a:O.Tt}(ha:PT X (toT a c<|kid x 0)<|tTt X i Φ a)(hp:(!Zw b||(rest (Zw b) x).pos==x.pos)=fy)(h2:PT X (toT b c<|rest (Zw b) x) (tTt X i Φ b)/\((Zk b||Zw b)=fy->PW X (toT b c<|rest (Zw b) x) (tTt X i Φ b))):PW X (toT (.or a b) c x)<|tTt X i Φ<|.or a b:=by let⟨y,ys,e,h3⟩:=DE hp h2.1 h2.2;show PW X (.BoolOp .Or (toT a c (kid x 0)::flat (Zw b) (toT b c<|rest (Zw b) x)) x.pos) _;rw[e];exact Rt ha h3
end
mutual
theorem eE:∀(m:O.E) (X:Cx) (c:Md) (x:Expr),Gd X i P n c->okE m c x=fy->PE X (toX m c x) (tE X i (O.wF P n) m)
 |.cst v,X,c,x,g,h=>IW h
 |.var j,X,c,x,g,h=>an3 h λh1 h2 h3=>QR (Df g.N<|dt h1) (g.vis h2) (KI h3).1 (KI h3).2.1
 |.glob y v,X,c,x,g,h=>an2 h λh h2=>an2 h λh1 h3=>(g.cst _ _<|dt h2).elim λu k=>k.elim λz k=>Pa (Gy (g.gl h1) k.1 k.2.1 (KI h3).1) k.2.2
 |.bin o a b,X,c,x,g,h=>an2 h λh1 h2=>RA g (eE a X c _ g h1)<|eE b X c _ g h2
 |.neg a,X,c,x,g,h=>QE<|eE a X c _ g h
 |.not a,X,c,x,g,h=>RI<|eE a X c _ g h
 |.and a b,X,c,x,g,h=>an3 h λh1 h2 h3=>DY (eE a X c _ g h1) h3<|eE b X c _ g h2
 |.or a b,X,c,x,g,h=>an3 h λh1 h2 h3=>FT (eE a X c _ g h1) h3<|eE b X c _ g h2
 |.cmp o a b,X,c,x,g,h=>an3 h λh1 h2 h3=>(Oi g h3 (eE a X c _ g h1)<|eE b X c _ g h2).1
 |.chain o1 o2 a b d,X,c,x,g,h=>an5 h λh1 h2 h3 h4 h5=>(JB g (Ge h4) (Ge h5) (eE a X c _ g h1) (eE b X c _ g h2)<|eE d X c _ g h3).1
 |.call f as,X,c,x,g,h=>an4 h λh1 h3 h4 h5=>AZ g h1 h3 h4<|eA as X c _ g h5
 |.make C as,X,c,x,g,h=>an5 h λh1 h3 h4 h6 h5=>AC g h1 h3 h4 h6<|eA as X c _ g h5
 |.meth C m o as,X,c,x,g,h=>an7 h λh1 h2 h3 h4 h6 h7 h5=>Wv g h1 h2 h4 h6 h7 (eE o X c _ g h3)<|eA as X c _ g h5
 |.meth2 C D m o as,X,c,x,g,h=>an2 h λh h8=>an7 h λh1 h2 h3 h4 h6 h7 h5=>F6 (Wv g h1 h2 h4 h6 h7 (eE o X c _ g h3)<|eA as X c _ g h5)<|Wv g h8 h2 h4 h6 h7 (eE o X c _ g h3)<|eA as X c _ g h5
 |.fld o f,X,c,x,g,h=>an3 h λh1 h2 h3=>Sl g.K g.kl.A (g.kl.F _ h1) (eE o X c _ g h2)<|Yy h3 _ _
 | .bi f as,X,c,x,g,h=>an2 h λh1 h2=>(R1 h1).elim (λh1=>an2 h1 λh3 h1=>by
     cases as with
     |nil=>cases h3
     |cons a as=>cases as with
       |nil=>exact an2 h2 λh2 _=>Gv g h1<|eE a X c _ g h2
       | cons b as=>exact ij (dt h3)<|by simp[ZV]) λh1=>an4 h1 λh1 h3 h4 h5=>Gf g h1 h3 h4 h5<|eA as X c _ g h2
 |.bm m o as,X,c,x,g,h=>an5 h λh1 h2 h3 h4 h5=>Gg g (dt h1) h3 h4 (eE o X c _ g h2)<|eA as X c _ g h5
 |.idx a b,X,c,x,g,h=>an2 h λh1 h2=>Sr (ix_seq.or<|Hg<|Iz g) (by rw[g.K];exact QW) (eE a X c _ g h1) (eE b X c _ g h2)<|DX _ _ _
 |.slc a lo hi,X,c,x,g,h=>an3 h λh1 h2 h3=>QB SG (by rw[g.K];exact Ri) (eE a X c _ g h1) (eO lo X c _ g h2)<|eO hi X c _ g h3
 |.tup es,X,c,x,g,h=>an2 h λh1 h2=>RT (by rw[Wu];exact dt h2)<|eA es X c _ g h1
 |.key es,X,c,x,g,h=>nomatch h
 |.dctP,X,c,x,g,h=>nomatch h
 |.lst es,X,c,x,g,h=>an2 h λh1 h2=>RX (by rw[Wu];exact dt h2)<|eA es X c _ g h1
 |.dct es,X,c,x,g,h=>an3 h λh1 h2 h3=>DA h2 (dt h3)<|eD es X c (sub x) x.pos g h1 h2
 |.ife t a b,X,c,x,g,h=>an3 h λh1 h2 h3=>Ra (eT t X c _ g h1).1 (eE a X c _ g h2)<|eE b X c _ g h3
 |.comp þ m p it t e,X,c,x,g,h=>an7 h λh1 h2 h3 h4 h5 h6 h7=>an2 h1 λh1 hm=>by
  obtain rfl:=eq_of_beq hm;let⟨t1,t2⟩:=MI (c:=c.blk (scp x) (XU<|kid x 1) þ) p<|kid x 1;have a:=eI it X c (kid x 2) (toP p (c.blk (scp x) (XU<|kid x 1) þ)<|kid x 1) g (!ZC p) t1 t2 h5;exact(KK g h2 h3 (eq_of_beq h4) h1 a.1 a.2 (g.pt h2 h3 (eq_of_beq h4) h1 _)
    (λcl C s H ex=>pe0<|eE e _ _ _ (g.blk h3 (eq_of_beq h4) cl C s H ex) h6) (λcl C s H ex=>Rc λz=>(eT t _ _ _ (g.blk h3 (eq_of_beq h4) cl C s H ex)<|by rw[z]at h7;exact h7).1)).1
 |.fstr es,X,c,x,g,h=>nomatch h
 |.repl _ _ _,X,c,x,g,h=>nomatch h
 |.split o a,X,c,x,g,h=>nomatch h
 |.rev a,X,c,x,g,h=>nomatch h
 |.sortT a,X,c,x,g,h=>an2 h λh1 h2=>Gj g.K (g.gl h1) (g.bl _<|gb 11 rfl) (eE a X c _ g h2) (by rw[Zr];rfl)
 |.pick a lo hi st,X,c,x,g,h=>an4 h λh1 h2 h3 h4=>Qw g.K (eE a X c _ g h1) (eO lo X c _ g h2) (eO hi X c _ g h3)<|eE st X c _ g h4
theorem eD:∀(es:O.Es) (X:Cx) (c:Md) (xs:List Expr) (í:Pos),Gd X i P n c->okA es c xs=fy->JG es=fy->PPs X í (XJ<|toA es c xs) (Bf<|toA es c xs) (Oy X i (O.wF P n) es)
 |.nil,X,c,xs,í,g,h,he=>Gn
 |.cons k .nil,X,c,xs,í,g,h,he=>by cases he
 |.cons k (.cons v r),X,c,xs,í,g,h,he=>by have h:(okE k c (xs.headD dE)&&(okE v c (xs.tail.headD dE)&&okA r c xs.tail.tail))=fy:=h;rw[bAq,bAq]at h;exact Dt (eE k X c _ g h.1) (eE v X c _ g h.2.1)<|eD r X c _ í g h.2.2 he
theorem eA:∀(ms:O.Es) (X:Cx) (c:Md) (xs:List Expr),Gd X i P n c->okA ms c xs=fy->PA X (toA ms c xs) (tAr X i (O.wF P n) ms (toA ms c xs).length)
 |.nil,X,c,xs,g,h=>I0
 |.cons a as,X,c,xs,g,h=>by exact an2 h λh1 h2=>FG (eE a X c _ g h1) (eA as X c _ g h2)<|Zr ..
theorem eO:∀(m:O.Oe) (X:Cx) (c:Md) (x:Expr),Gd X i P n c->okO m c x=fy->PO X (toO m c x) (tOx X i (O.wF P n) m)
 |.none,X,c,x,g,h=>F5
 |.some e,X,c,x,g,h=>HK<|eE e X c _ g h
theorem eT:∀(m:O.Tt) (X:Cx) (c:Md) (x:Expr),Gd X i P n c->okT m c x=fy->PT X (toT m c x) (tTt X i (O.wF P n) m)/\((Zk m||Zw m)=fy->PW X (toT m c x) (tTt X i (O.wF P n) m))
 |.yes,X,c,x,g,h=>nomatch h
 | .val e,X,c,x,g,h=>an2 h λh1 h2=>⟨(R1 h2).elim (λz=>D3 g z<|eE e X c x g h1) (λz=>by
     cases e with
     |cmp o a b=>exact an3 h1 λh1 h2 h3=>(Oi g h3 (eE a X c _ g h1)<|eE b X c _ g h2).2
     |chain o1 o2 a b d=>exact an5 h1 λh1 h2 h3 h4 h5=>(JB g (Ge h4) (Ge h5) (eE a X c _ g h1) (eE b X c _ g h2)<|eE d X c _ g h3).2
     | _=>cases z),λz=>(by cases z)⟩
 |.not t,X,c,x,g,h=>⟨PB (eT t X c _ g h).1,λz=>(by cases z)⟩
 |.and a b,X,c,x,g,h=>an3 h λh1 h2 h3=>have h:=Bv (eT a X c _ g h1).1 h3<|eT b X c _ g h2;⟨h.pt,λ_=>h⟩
 |.or a b,X,c,x,g,h=>an3 h λh1 h2 h3=>have h:=E1 (eT a X c _ g h1).1 h3<|eT b X c _ g h2;⟨h.pt,λ_=>h⟩
theorem eI:∀(m:O.It) (X:Cx) (c:Md) (x tg:Expr),Gd X i P n c->∀(b:Bool),(b=fy->∃es k p,tg=.Tuple es k p)->(b=fz->∃y p,tg=.Name y p)->okI m c x b=fy->PI X tg (toI m c x) (tIt X i (O.wF P n) m)/\∀y,Ě (toI m c x) X.env y=pure y
 |.seq e,X,c,x,tg,g,b,t1,t2,h=>⟨Pe g.K<|eE e X c _ g h,O7 _ _ _ _⟩
 |.seqT k e,X,c,x,tg,g,b,t1,t2,h=>⟨GJ g.K<|eE e X c _ g h,O7 _ _ _ _⟩
 |.chars e,X,c,x,tg,g,b,t1,t2,h=>nomatch h
 |.range a,X,c,x,tg,g,b,t1,t2,h=>an2 h λh1 h2=>⟨CK (g.gl h1) (g.bl _<|gb 9 rfl) (eE a X c _ g h2)<|Zr ..,λ_=>rfl⟩
 |.range2 a d,X,c,x,tg,g,b,t1,t2,h=>an3 h λh1 h2 h3=>⟨AW (g.gl h1) (g.bl _<|gb 9 rfl) (eE a X c _ g h2) (eE d X c _ g h3) (by rw[Zr,Zr];rfl)<|Zr ..,λ_=>rfl⟩
 |.zip a d,X,c,x,tg,g,b,t1,t2,h=>nomatch h
 |.enumL e,X,c,x,tg,g,b,t1,t2,h=>nomatch h
 |.enum e,X,c,x,tg,g,b,t1,t2,h=>an3 h λh0 h1 h2=>by let⟨es,k,p,rfl⟩:=t1 h0;exact⟨Fy g.K (g.gl h1) (g.bl _<|gb 16 rfl) (eE e X c _ g h2) (by rw[Zr];rfl),λ_=>rfl⟩
 |.items e,X,c,x,tg,g,b,t1,t2,h=>⟨Gp<|eE e X c _ g h,O7 _ _ _ _⟩
 |.keysF e,X,c,x,tg,g,b,t1,t2,h=>nomatch h
 |.rev e,_,_,_,_,_,_,_,_,h=>nomatch h
end
def Be(g:Gd X i P n c){m:Nat}{t:O.Tt}{e:O.E}(h:okE (.comp þ m p it t e) c x=fy) :
  PE X (toX (.comp þ m p it t e) c x) (tE X i (O.wF P n)<|.comp þ m p it t e)/\
   ∀(y:Str) (py ϡ:Pos) (j:Nat),X.N[j]?=fw y->L2.Loc X.env.scope y->(X.fn y=fy\/X.env.scope.names.lookup y=fw .local)->η (toX (.comp þ m p it t e) c x) (fw<|.Name y py) ϡ.line X.env=pure fy->PS X (.Assign [.Name y py] (toX (.comp þ m p it t e) c x) ϡ) (tSt X i (O.wF P n)<|.set (.one j)<|.comp þ m p it t e):=by
 have h:((Bx m p&&(XU<|kid x 1).length==m)&&c.cm&&YI (scp x) c.sc c.N (XU<|kid x 1) þ&&(scp x).kind == .function&&okI it c (kid x 2) (!ZC p)&&okE e (c.blk (scp x) (XU<|kid x 1) þ) (kid x 0)&&(Ey t||okT t (c.blk (scp x) (XU<|kid x 1) þ) (kid x 3)))=fy:=h;rw[bAq,bAq,bAq,bAq,bAq,bAq]at h;let⟨⟨⟨⟨⟨⟨h1,h2⟩,h3⟩,h4⟩,h5⟩,h6⟩,h7⟩:=h;rw[bAq,beq_iff_eq]at h1;let⟨h1,rfl⟩:=h1;have hk:=eq_of_beq h4;let⟨t1,t2⟩:=MI (c:=c.blk (scp x) (XU<|kid x 1) þ) p<|kid x 1;let⟨a1,a2⟩:=eI it X c (kid x 2) (toP p (c.blk (scp x) (XU<|kid x 1) þ)<|kid x 1) g (!ZC p) t1 t2 h5;exact KK g h2 h3 hk h1 a1 a2 (g.pt h2 h3 hk h1 _)
  (λcl C s H ex=>pe0<|eE e _ _ _ (g.blk h3 hk cl C s H ex) h6) (λcl C s H ex=>Rc λz=>(eT t _ _ _ (g.blk h3 hk cl C s H ex)<|by rw[z]at h7;exact h7).1)
abbrev dS:ł:=.Pass ⟨0,0,0,0⟩
abbrev stE:ł->List Expr
 |.Assign ts v _=>v::ts
 |.AugAssign t _ v _=>[v,t]
 |.For t it _ _ _=>[t,it]
 |.While t _ _ _=>[t]
 |.If t _ _ _=>[t]
 |.Expr e _=>[e]
 |.Return (fw e) _=>[e]
 |.Raise (fw e) _ _=>[e]
 |_=>[]
abbrev ke(s:ł)(j:Nat):Expr:=(stE s).getD j dE
abbrev stB:ł->List ł
 |.For _ _ b _ _=>b
 |.While _ b _ _=>b
 |.If _ b _ _=>b
 |.Try b _ _ _ _=>b
 |_=>[]
abbrev stO:ł->List ł
 |.If _ _ b _=>b
 |_=>[]
abbrev stH:ł->List ExceptHandler
 |.Try _ hs _ _ _=>hs
 |_=>[]
abbrev dH:ExceptHandler:=.ExceptHandler fx fx [] ⟨0,0,0,0⟩
abbrev hT:ExceptHandler->Expr
 |.ExceptHandler (fw e) _ _ _=>e
 |_=>dE
abbrev hB:ExceptHandler->List ł
 |.ExceptHandler _ _ b _=>b
abbrev hP:ExceptHandler->Pos
 |.ExceptHandler _ _ _ p=>p
abbrev Md.hot(c:Md):Md:={c with cm:=fz}
abbrev Tf(t:Option Nat)(e:O.E)(c:Md)(y:ł):ł:=match t with
 |none=>.Expr (toX e c<|ke y 0) y.pos
 |some j=>.Assign [.Name (c.nmOf j) (ke y 1).pos] (toX e c<|ke y 0) y.pos
mutual
noncomputable def toS:O.S->Md->ł->ł
 |.set p a,c,s=>.Assign [toP p c<|ke s 1] (toX a c<|ke s 0) s.pos
 |.setIdx a j e,c,s=>.Assign [.Subscript (toX a c<|kid (ke s 1) 0) (toX j c<|kid (ke s 1) 1) (ke s 1).pos] (toX e c<|ke s 0) s.pos
 |.setPair a i b j e,c,s=>.Assign [.Tuple [.Subscript (toX a c<|kid (kid (ke s 1) 0) 0) (toX i c<|kid (kid (ke s 1) 0) 1) (kid (ke s 1) 0).pos,.Subscript (toX b c<|kid (kid (ke s 1) 1) 0) (toX j c<|kid (kid (ke s 1) 1) 1) (kid (ke s 1) 1).pos] (num<|ke s 1) (ke s 1).pos] (toX e c<|ke s 0) s.pos
 |.setFld o f e,c,s=>.Assign [.Attribute (toX o c<|kid (ke s 1) 0) (im f) (ke s 1).pos] (toX e c<|ke s 0) s.pos
 |.augVar j op e,c,s=>.AugAssign (.Name (c.nmOf j) (ke s 1).pos) (OS op) (toX e c<|ke s 0) s.pos
 |.augFld o f op n,c,s=>.AugAssign (.Attribute (toX o c<|kid (ke s 1) 0) (im f) (ke s 1).pos) (OS op) (.Constant (.int n) (num<|ke s 0) (ke s 0).pos) s.pos
 |.augIdx a j op n,c,s=>.AugAssign (.Subscript (toX a c<|kid (ke s 1) 0) (toX j c<|kid (ke s 1) 1) (ke s 1).pos) (OS op) (.Constant (.int n) (num<|ke s 0) (ke s 0).pos) s.pos
 |.expr e,c,s=>.Expr (toX e c<|ke s 0) s.pos
 |.ret e,c,s=>.Return (fw<|toX e c<|ke s 0) s.pos
 |.retN,_,s=>.Return fx s.pos
 |.ite t a b,c,s=>.If (toT t c<|ke s 0) (toSs a c<|stB s) (toSs b c<|stO s) s.pos
 |.whl t b,c,s=>.While (toT t c<|ke s 0) (toSs b c<|stB s) [] s.pos
 |.for p it b,c,s=>.For (toP p c<|ke s 0) (toI it c<|ke s 1) (toSs b c<|stB s) [] s.pos
 |.forI fy p e b,c,s=>.For (toP p c<|ke s 0) (toX e c<|ke s 1) (toSs b c<|stB s) [] s.pos
 |.forI fz p e b,c,s=>.For (toP p c<|ke s 0) (.Call (.Attribute (toX e c<|kid (kid (ke s 1) 0) 0) "items" (kid (ke s 1) 0).pos) [] [] (ke s 1).pos) (toSs b c<|stB s) [] s.pos
 |.brk,_,s=>.Break s.pos
 |.cnt,_,s=>.Continue s.pos
 |.pass,_,s=>.Pass s.pos
 |.raise C as,c,s=>.Raise (fw<|.Call (.Name (im C) (kid (ke s 0) 0).pos) (toA as c (sub<|ke s 0).tail) [] (ke s 0).pos) fx s.pos
 |.try t e hs,c,s=>.Try [Tf t e c<|(stB s).headD dS] (toH hs c<|stH s) [] [] s.pos
 |_,_,s=>s
noncomputable def toH:O.Hn->Md->List ExceptHandler->List ExceptHandler
 |.nil,_,_=>[]
 |.cons K nm b r,c,xs=>.ExceptHandler (fw<|.Name (im K) (hT<|xs.headD dH).pos) (nm.map c.nmOf) (toSs b c.hot<|hB<|xs.headD dH) (hP<|xs.headD dH)::toH r c xs.tail
noncomputable def toSs:O.Ss->Md->List ł->List ł
 |.nil,_,_=>[]
 |.cons m ms,c,xs=>toS m c (xs.headD dS)::toSs ms c xs.tail
end
abbrev Ia:O.E->Bool
 |.idx _ _=>fy
 |.var _=>fy
 |.fld _ _=>fy
 |_=>fz
abbrev NB(c:Md)(j:Nat):Bool:=ik (j<c.N.length)&&c.loc (c.nmOf j)
abbrev okP(p:O.Pt)(c:Md):Bool:=match p with
 |.one j=>NB c j
 |.many js=>js.all<|NB c
 |.nest j js=>NB c j&&js.all (NB c)
abbrev Di:O.E->Bool
 |.tup _=>fy
 |.key _=>fy
 |_=>fz
abbrev Us:O.E->Bool
 |.comp _ _ _ _ _ _=>fy
 |_=>fz
abbrev swT(c:Md)(tg v:Expr):Bool:=match v,tg with
 |.ListComp _ _ s í,.Name t p=>(if c.sc.kind.isAnnotationScope then ScopeKind.function else c.sc.kind) == .function&&c.sc.names.lookup t==fw .local&&p.line==í.line && !(s.names.any λ(n,k)=>n==t&&(k == .local||k == .cell))
 |_,_=>fz
abbrev BG:O.Bop->Bool
 |.add=>fy
 |.sub=>fy
 |_=>fz
abbrev S9(c:Md)(j:Nat):Bool:=ik (j<c.N.length)&&c.sc.names.lookup (c.nmOf j)==fw .local
abbrev S2(c:Md):Option Nat->Bool
 |none=>fy
 |some j=>S9 c j
abbrev R9:O.Ss->Bool
 |.nil=>fz
 |_=>fy
abbrev Rj:O.Hn->Bool
 |.nil=>fy
 |_=>fz
mutual
noncomputable def okS:O.S->Md->ł->Bool
 |.set p a,c,s=>okP p c&&okE a c (ke s 0)&&(ZC p || !Di a)&&(ZC p||c.cm)
 |.setIdx a j e,c,s=>okE e c (ke s 0)&&okE a c (kid (ke s 1) 0)&&okE j c (kid (ke s 1) 1)
 |.setFld o f e,c,s=>c.fl.contains f&&okE o c (kid (ke s 1) 0)&&okE e c (ke s 0)
 |.augFld o f op _,c,s=>c.fl.contains f&&okE o c (kid (ke s 1) 0)&&BG op
 |.augIdx a j op _,c,s=>okE a c (kid (ke s 1) 0)&&okE j c (kid (ke s 1) 1)&&BG op
 |.expr e,c,s=>okE e c (ke s 0) && !Us e
 |.ret e,c,s=>okE e c<|ke s 0
 |.retN,_,_=>fy
 |.ite t a b,c,s=>okT t c (ke s 0)&&okSs a c (stB s)&&okSs b c (stO s)
 |.for p it b,c,s=>okP p c&&okI it c (ke s 1) (!ZC p)&&okSs b c (stB s)&&c.cm
 |.forI fy p e b,c,s=>okP p c&&Ia e&&okE e c (ke s 1)&&okSs b c (stB s)&&c.cm
 |.forI fz p e b,c,s=>okP p c && !ZC p&&okE e c (kid (kid (ke s 1) 0) 0)&&YL (toX e c<|kid (kid (ke s 1) 0) 0)&&((kid (ke s 1) 0).pos.endLine==(ke s 1).pos.line)&&okSs b c (stB s)&&c.cm
 |.never,_,_=>fy
 |_,_,_=>fz
noncomputable def okH:O.Hn->Md->List ExceptHandler->Bool
 |.nil,_,_=>fz
 |.cons K nm b r,c,xs=>(c.xs.contains K||K == "ShutError")&&c.gn K && !c.xs.isEmpty&&S2 c nm&&R9 b&&okSs b c.hot (hB<|xs.headD dH)&&Rj r
noncomputable def okSs:O.Ss->Md->List ł->Bool
 |.nil,_,_=>fy
 |.cons m ms,c,xs=>okS m c (xs.headD dS)&&okSs ms c xs.tail
end
structure Gs(X:Cx)(i:Inf)(P:O.Pg)(n:Nat)(c:Md):Prop extends Gd X i P n c where
 fn:∀x,c.loc x=fy->X.fn x=fy\/X.env.scope.names.lookup x=fw .local
 own:c.cm=fy->af ↥2 X.A X.env X.xe
 stk:c.cm=fy->X.stack=X.env::X.outer
variable {X:Cx}{i:Inf}{P:O.Pg}{n:Nat}{c:Md}
def Gs.nm1(g:Gs X i P n c)(h:NB c j=fy):X.N[j]?=fw (c.nmOf j)/\L2.Loc X.env.scope (c.nmOf j)/\(X.fn (c.nmOf j)=fy\/X.env.scope.names.lookup (c.nmOf j)=fw .local):=by unfold NB at h;rw[bAq,ii]at h;exact⟨Df g.N h.1,g.loc h.2,g.fn _ h.2⟩
variable {p:O.Pt}
def Q9(g:Gs X i P n c)(h:okP p c=fy):Ik (D6 X c) p:=by
 cases p with
 |one j=>exact g.nm1 h
 |many js=>exact λj hj=>g.nm1<|ą.mp h j hj
 |nest j js =>have h:(NB c j&&js.all (NB c))=fy:=h;rw[bAq]at h;exact⟨g.nm1 h.1,λk hk=>g.nm1<|ą.mp h.2 k hk⟩
variable {x:Expr}
def Ao(g:Gs X i P n c)(eQ:c.cm=fy)(h:okP p c=fy):PG X (toP p c x)<|gPt i p:=Iq g.K (by rw[g.N];exact g.nd) (g.calm eQ) (Q9 g h)
variable {tg:Expr}
def W0(a:O.E)(x:Expr)(hs:env.scope=c.sc):η (toX a c x) (fw tg) l env=pure (swT c tg<|toX a c x):=by
 cases a with
 |comp þ m p it t e =>
  cases tg with
  |Name t q =>unfold η swT Env.blockKind Env.kindOf;rw[hs];rfl
  |_=>rfl
 |_=>rfl
def P9(p:O.Pt)(a:O.E)(x y:Expr)(env:Env)(h:(ZC p || !Di a)=fy):ϖ [toP p c x] (toX a c y) env=pure fx:=by
 cases p with
 |one j=>cases a<;>rfl
 |many js=>cases a<;>first|rfl|cases h
 |nest j js=>cases a<;>first|rfl|cases h
def ES(p:O.Pt)(x:Expr)(env:Env):(Ĝ [toP p c x] env).map (·.2)=[χ (toP p c x) env]:=by cases p<;>rfl
def LH(h:swT c tg (toX a c x)=fy):∃þ m p it t e,a=.comp þ m p it t e:=by
 cases a with
 |comp þ m p it t e=>exact⟨_,_,_,_,_,_,rfl⟩
 |_=>cases h
def FA(y:O.E){b:Expr}{í:Pos}:∀v,χ (.Subscript b (toX y c x) í) env v=(do
    let ov<-ŕ [v] (eval b env)
    let iv<-ŕ [v,ov] (eval (toX y c x) env)
    ϐ í
    ŕ [v,ov,iv] (aX ov iv v)
    eS [v,ov,iv] []):=by
 intro v;cases y<;>rfl
def Io{op:O.Bop}(h:BG op=fy):C5 X (OS op)<|rAS op:=by
 cases op with
 |add =>
  intro Â s σ H x y u v Q I rx ry q;let⟨a,b,rfl,rfl,q⟩:=q;rcases q with⟨_,q⟩|⟨z,_⟩
  .exact Qh Â s σ H _ _ u v Q I rx ry ⟨a,b,rfl,rfl,q⟩
  .cases z
 |sub =>
  intro Â s σ H x y u v Q I rx ry q;let⟨a,b,rfl,rfl,q⟩:=q;rcases q with⟨z,_⟩|⟨_,q⟩
  .cases z
  .exact L7 Â s σ H _ _ u v Q I rx ry ⟨a,b,rfl,rfl,q⟩
 |_=>cases h
def DR:PGet X<|DM X.K:=λÂ s σ H x y v u Q I rx ry h=>by
 let⟨p,xs,i,z,rfl,rfl,hq,he,q⟩:=h;cases rx;let⟨t,rfl⟩:=ry;let⟨ú,r,pl,hz⟩:=I.list hq;let⟨j,h1,h2,h3,h4,h5⟩:=W8 he;let⟨w,ew,aK⟩:=r.get h2;have hl:=r.length;have hn:=Y3;have fin:EP X Â σ Q w s:=⟨z,H,I,aK,q⟩
 by_cases h0:0<=i
 .have hj:i.toNat=j:=by
   rw[bM h0 h5]at h1;exact æ h1
  exact wpAny_getItem_list pl.isList h0 ↥0 (by rw[hj];simpa using ew) fin
 .have hj:(i+(ú.toArray.size:Int)).toNat=j:=by
   rw[aY ↥0 h4]at h1;rw[Ï,<-hl];exact æ h1
  exact eY pl.isList ↥0 (by rw[Ï]<;>lia) ↥0 (by rw[hj];simpa using ew) fin
def ER(hu:X.A.units+1<Ğ):PGet X C3:=λÂ s σ H x y v u Q I rx ry h=>by let⟨a,z,rfl,g,q⟩:=h;cases rx;exact K7 hu I g ry λw s' I' r=>⟨z,H,I',r,q⟩
def PGet.or{r r':R2}(h:PGet X r)(h':PGet X r'):PGet X λx y H Q=>r x y H Q\/r' x y H Q:=λÂ s σ H o j ov jv Q I ro rj q=>by
 rcases q with q|q
 .exact h Â s σ H o j ov jv Q I ro rj q
 .exact h' Â s σ H o j ov jv Q I ro rj q
def Le{G:O.Hs}{H:Hp}{a:Ð}{u w:O.Val}{y:V}{K:Frag}{Q:VK}(g:RH i G H)(ry:RV i.K H u y)(e:O.gB G (.ref a) u=fw w)(q:∀z,RV i.K H w z->Q z H):DM K (.ref a) y H Q\/C3 (.ref a) y H Q:=by
 replace e:(match G a with|some (.lst xs)=>(O.gY u).bind (O.atI xs)|some (.dct kvs)=>if O.fX u then O.gf kvs u else fx|some (.frz kvs)=>if O.fX u then O.gf kvs u else fx|some (.dtp kvs)=>if O.isKeyT u then O.gf kvs u else fx|_=>fx)=fw w:=e
 cases z:G a with
 |none=>rw[z]at e;cases e
 |some o =>
  rw[z]at e;cases o with
  |lst xs =>let⟨k,hk,e⟩:=ò.mp e;cases Zy hk;let⟨vs,h1,h2⟩:=g a _ z;let⟨t,h3,h4⟩:=WY h2 e;exact .inl ⟨a,vs,k,t,rfl,ry.int_inv,gT.of h1,h3,q t h4⟩
  |dct kvs =>let⟨hk,e⟩:=Zm (show(if O.fX u then O.gf kvs u else fx)=fw w from e);let⟨ps,h1,h2⟩:=g a _ z;let⟨d,kr,rfl⟩:=fS hk ry;let⟨t,hx,rv⟩:=(h2.look kr).1 w e;exact .inr ⟨a,t,rfl,by rw[<-hx];exact DGet.k h1,q t rv⟩
  |frz kvs =>let⟨hk,e⟩:=Zm (show(if O.fX u then O.gf kvs u else fx)=fw w from e);let⟨ob,ps,h1,h2⟩:=g a _ z;let⟨d,kr,rfl⟩:=fS hk ry;let⟨t,hx,rv⟩:=(h2.look kr).1 w e;exact .inr ⟨a,t,rfl,.inl ⟨ps,d,.inr ⟨ob,h1⟩,rfl,hx.symm⟩,q t rv⟩
  |dtp kvs =>let⟨hk,e⟩:=Zm (show(if O.isKeyT u then O.gf kvs u else fx)=fw w from e);let⟨ps,h1,h2⟩:=g a _ z;let⟨k1,k2,b,rfl,rfl,hb⟩:=Wt hk ry;let⟨t,hx,rv⟩:=(h2.look).1 w e;exact .inr ⟨a,t,rfl,by rw[<-hx];exact DGet.t h1 hb,q t rv⟩
  |_=>cases e
def LX(e:O.E)(x:Expr):∀ov iv new,augStore (toX e c x) ov iv new=(do ŕ [new,ov,iv] (aX ov iv new);eS [new,ov,iv] [];pure .next):=by intro ov iv new;cases e<;>rfl
def Bt{a j:Expr}{ma mj:O.E}{op:O.Bop}{k:Int}{kk:Nat}{í cW ŧ:Pos}(hK:X.K=i.K)(hu:X.A.units+1<Ğ)(h:BG op=fy)(ha:PE X a<|tE X i Φ ma)(hj:PE X j<|tE X i Φ mj)(hs:∀ov iv new,augStore j ov iv new=(do ŕ [new,ov,iv] (aX ov iv new);eS [new,ov,iv] [];pure .next)) :
  PS X (.AugAssign (.Subscript a j cW) (OS op) (.Constant (.int k) kk ŧ) í) (tSt X i Φ<|.augIdx ma mj op k) :=
 (G0 ha hj (PGet.or DR<|ER hu) OV (Io h) (PSet.or OA<|Ot hu) hs).imp λD σ H ⟨env,G,N,R,B,C,Xe,p,w,c⟩=>by
  refine one p.pre w λv G1 H1 x k1 p1 rx q=>?_;refine one p1 q λu G2 H2 y k2 p2 ry q=>?_;let⟨t,e1,q2⟩:=fG q;clear q;let⟨z,e2,q3⟩:=fG q2;clear q2;let⟨G3,e3,q4⟩:=fG q3;clear q3;have hr:∃b,v=.ref b:=by
   cases v with
   |ref b=>exact⟨b,rfl⟩
   |_=>cases e3
  let⟨b,rfl⟩:=hr;cases rx.ref_inv;have ix2:∀Q:VK,(∀t',RV i.K H2 t t'->Q t' H2)->DM X.K (.ref b) y H2 Q\/C3 (.ref b) y H2 Q:=λQ hQ=>Le p2.hp ry e1 hQ;refine ix2 _ λt' rt=>?_;let⟨n1,n2,rfl,e0,hz⟩:=NZ e2;cases e0;cases rt.int_inv;have fin:∀m:Int,z=.int m->DL (.ref b) y (.int m) H2 λH6=>D.nx σ H6:=λm hm=>by subst hm;exact Dc p2.hp (.ref b) ry (.int m) e3 λH3 k3 g3=>c.nx env σ _ _ ((k1.trans k2).trans k3) g3 (p2.en.keep k3) q4
  rcases hz with⟨eo,hz⟩|⟨eo,hz⟩
  .exact⟨n1,k,rfl,rfl,.inl ⟨eo,fin _ hz⟩⟩
  .exact⟨n1,k,rfl,rfl,.inr ⟨eo,fin _ hz⟩⟩
def Fa(t v:Expr)(p:Pos)(env:Env)(h:(∃a b q,t=.Subscript a b q)\/(∃a b q,t=.Attribute a b q)):ϖ [t] v env=pure fx:=by rcases h with⟨a,b,q,rfl⟩|⟨a,b,q,rfl⟩<;>rfl
variable {a:O.E}{x:Expr}
def G8(h:(!Us a)=fy):η (toX a c x) t l env=pure fz:=by
 cases a with
 |comp þ m p it tt e=>cases h
 |_=>rfl
def B5(h:∀y q,tg≠.Name y q):swT c tg (toX a c x)=fz:=by
 cases a with
 |comp þ m p it tt e =>
  cases tg with
  |Name y q=>exact ij rfl<|h y q
  |_=>rfl
 |_=>rfl
def PZ(g:Gs X i P n c)(hc:(ZC p||c.cm)=fy)(h:okP p c=fy):PG X (toP p c x)<|gPt i p:=by
 by_cases eQ:c.cm=fy
 .exact Ao g eQ h
 .cases p with
  |one j =>let⟨h1,h2,h3⟩:=g.nm1 h;exact OO (by rw[g.N];exact g.nd) h1 h2 h3
  |many js=>exact ij hc eQ
  |nest j js=>exact ij hc eQ
mutual
theorem sS:∀(m:O.S) (X:Cx) (c:Md) (s:ł),Gs X i P n c->okS m c s=fy->PS X (toS m c s) (tSt X i (O.wF P n) m)
 |.set p a,X,c,s,g,h=>by
  have h:(okP p c&&okE a c (ke s 0)&&(ZC p || !Di a)&&(ZC p||c.cm))=fy:=h;rw[bAq,bAq,bAq]at h;let⟨⟨⟨h1,h2⟩,h3⟩,h4⟩:=h;by_cases hsw:swT c (toP p c<|ke s 1) (toX a c<|ke s 0)=fy
  .obtain⟨þ,k,pt,it,tt,e,rfl⟩:=LH hsw;cases p with
   |one j =>let⟨q1,q2,q3⟩:=g.nm1 h1;exact(Be g.toGd h2).2 _ _ _ j q1 q2 q3 (by rw[<-hsw];exact W0 (c:=c) (.comp þ k pt it tt e) (ke s 0) g.sc)
   |many js=>cases hsw
   |nest j js=>cases hsw
  .have hp:PG X (toP p c<|ke s 1)<|gPt i p:=PZ g h4 h1;exact Qn (eE a X c _ g.toGd h2) hp (by rw[ϕ,W0 a _ g.sc,Bool.eq_false_iff.mpr hsw]) (P9 p a _ _ _ h3)<|ES p _ _
 |.setIdx a j e,X,c,s,g,h=>by have h:(okE e c (ke s 0)&&okE a c (kid (ke s 1) 0)&&okE j c (kid (ke s 1) 1))=fy:=h;rw[bAq,bAq]at h;have ha:=eE a X c _ g.toGd h.1.2;have hj:=eE j X c _ g.toGd h.2;exact A5 g.K (eE e X c _ g.toGd h.1.1) ha hj (IY ha hj (PSet.or OA<|Ot (by have:=g.un;lia))<|FA j) (by rw[ϕ,W0 e _ g.sc,B5 λy q z=>(by cases z)]) (Fa _ _ (ke s 1).pos _<|.inl ⟨_,_,_,rfl⟩) rfl
 |.setPair a j b k e,X,c,s,g,h=>nomatch h
 |.setFld o f e,X,c,s,g,h=>by have h:(c.fl.contains f&&okE o c (kid (ke s 1) 0)&&okE e c (ke s 0))=fy:=h;rw[bAq,bAq]at h;exact A1 g.K g.kl.A (g.kl.F _ h.1.1) (eE o X c _ g.toGd h.1.2) (eE e X c _ g.toGd h.2) (by rw[W0 e _ g.sc,B5 λy q z=>(by cases z)])
 |.augVar j op e,X,c,s,g,h=>nomatch h
 |.augFld o f op k,X,c,s,g,h=>by have h:(c.fl.contains f&&okE o c (kid (ke s 1) 0)&&BG op)=fy:=h;rw[bAq,bAq]at h;exact BW g.K g.kl.A (g.kl.F _ h.1.1) (Io h.2)<|eE o X c _ g.toGd h.1.2
 |.expr e,X,c,s,g,h=>by have h:(okE e c (ke s 0) && !Us e)=fy:=h;rw[bAq]at h;exact G9 (eE e X c _ g.toGd h.1)<|G8 h.2
 |.ret e,X,c,s,g,h=>P4<|eE e X c _ g.toGd h
 |.retN,X,c,s,g,h=>Hb
 |.ite t a b,X,c,s,g,h=>by have h:(okT t c (ke s 0)&&okSs a c (stB s)&&okSs b c (stO s))=fy:=h;rw[bAq,bAq]at h;exact Qf (eT t X c _ g.toGd h.1.1).1 (sSs a X c _ g h.1.2)<|sSs b X c _ g h.2
 |.whl t b,X,c,s,g,h=>nomatch h
 |.for p it b,X,c,s,g,h=>by have h:(okP p c&&okI it c (ke s 1) (!ZC p)&&okSs b c (stB s)&&c.cm)=fy:=h;rw[bAq,bAq,bAq]at h;let⟨⟨⟨h1,h2⟩,h3⟩,h4⟩:=h;let⟨t1,t2⟩:=MI (c:=c) p<|ke s 0;let⟨a1,a2⟩:=eI it X c (ke s 1) (toP p c<|ke s 0) g.toGd (!ZC p) t1 t2 h2;exact Qc (g.own h4) (g.calm h4) a1 (Ao g h4 h1) (sSs b X c _ g h3) a2
 |.forI fy p e b,X,c,s,g,h=>by have h:(okP p c&&Ia e&&okE e c (ke s 1)&&okSs b c (stB s)&&c.cm)=fy:=h;rw[bAq,bAq,bAq,bAq]at h;let⟨⟨⟨⟨h1,h2⟩,h3⟩,h6⟩,h7⟩:=h;refine GA (g.own h7) (g.calm h7) (eE e X c _ g.toGd h3) (Ao g h7 h1) (sSs b X c _ g h6) λ_=>?_;cases e<;>first|rfl|cases h2
 |.forI fz p e b,X,c,s,g,h=>by have h:(okP p c && !ZC p&&okE e c (kid (kid (ke s 1) 0) 0)&&YL (toX e c<|kid (kid (ke s 1) 0) 0)&&((kid (ke s 1) 0).pos.endLine==(ke s 1).pos.line)&&okSs b c (stB s)&&c.cm)=fy:=h;rw[bAq,bAq,bAq,bAq,bAq,bAq]at h;let⟨⟨⟨⟨⟨⟨h1,h2⟩,h3⟩,h4⟩,h5⟩,h6⟩,h7⟩:=h;let⟨es,k,q,et⟩:=(MI (c:=c) p<|ke s 0).1 h2;have hg:=Ao (x:=ke s 0) g h7 h1;show PS X (.For (toP p c<|ke s 0) _ _ _ _) _;rw[et]at hg ⊢;exact FI (g.own h7) (g.calm h7) (eE e X c _ g.toGd h3) hg (sSs b X c _ g h6) (Yy h4 _ _) h5 λ_=>rfl
 |.never,X,c,s,g,h=>Cv
 |.brk,X,c,s,g,h=>nomatch h
 |.cnt,X,c,s,g,h=>nomatch h
 |.pass,X,c,s,g,h=>nomatch h
 |.raise C as,X,c,s,g,h=>nomatch h
 |.try t e (.cons K nm b .nil),X,c,s,g,h=>nomatch h
 |.try t e (.cons K nm b<|.cons _ _ _ _),X,c,s,g,h=>nomatch h
 |.try t e .nil,X,c,s,g,h=>nomatch h
 |.augIdx a j op k,X,c,s,g,h=>by have h:(okE a c (kid (ke s 1) 0)&&okE j c (kid (ke s 1) 1)&&BG op)=fy:=h;rw[bAq,bAq]at h;exact Bt g.K (by have:=g.un;lia) h.2 (eE a X c _ g.toGd h.1.1) (eE j X c _ g.toGd h.1.2)<|LX j _
theorem sSs:∀(ms:O.Ss) (X:Cx) (c:Md) (xs:List ł),Gs X i P n c->okSs ms c xs=fy->PSs X (toSs ms c xs) (tBl X i (O.wF P n) ms)
 |.nil,X,c,xs,g,h=>Pc
 |.cons m ms,X,c,xs,g,h=>by have h:(okS m c (xs.headD dS)&&okSs ms c xs.tail)=fy:=h;rw[bAq]at h;exact FB (sS m X c _ g h.1)<|sSs ms X c _ g h.2
end
abbrev OJ(N ps:List Str)(sc:ς):Bool :=
 sc.kind == .function && !sc.isCoroutine && !sc.isGenerator&&decide N.Nodup&&(N.take ps.length==ps)&&ps.all (λx=>sc.names.lookup x==fw .local||sc.names.lookup x==fw .cell)&&sc.names.all λy=>y.2 != .free
variable {ps:List Str}
def RG(h:OJ N ps sc=fy):FnScope N ps sc:=by
 simp![OJ,bAq,Ž,ii,ą]at h;let⟨⟨⟨⟨⟨⟨h1,h2⟩,h3⟩,h4⟩,h5⟩,h6⟩,h7⟩:=h;refine⟨eq_of_beq h1,h2,h3,h4,eq_of_beq h5,λx hx=>?_,λy hy=>?_⟩
 .simpa using h6 x hx
 .simpa using h7 y hy
structure Ds where
 st:ł
 N:List Str
 ps:List Str
 d:O.Fn
structure Mt where
 C:String
 m:String
 qual:String
 x:Ds
structure Tb where
 fs:List<|String×Ds
 ms:List Mt
 cs:List<|String×O.Val
 cl:List String
 fl:List String
 xs:List String
abbrev Tb.md(T:Tb)(x:Ds):Md:={N:=x.N,sc:=Zu x.st,cs:=T.cs,fs:=T.fs.map (·.1),cm:=fy,cl:=T.cl,ms:=T.ms.map λy=>(y.C,y.m),fl:=T.fl,xs:=T.xs}
abbrev Ds.test(T:Tb)(x:Ds):Bool :=
 OJ x.N x.ps (Zu x.st)&&okSs x.d.body (T.md x) (ZQ x.st)&&x.ps.length==x.d.ar&&x.N.length==x.d.sz&&ik (x.d.ar<=x.d.sz)
structure Ds.Ok(T:Tb)(x:Ds):Prop where
 ok:x.test T=fy
 eq:toSs x.d.body (T.md x) (ZQ x.st)=ZQ x.st
variable {pr:è}{wd:ÿ}{mg:Str->Option Ã}{base:Č}{i:Inf}{P:O.Pg}{T:Tb}
abbrev Dst(K:Frag)(mg:Str->Option Ã)(f:String)(x:Ds):Prop:=∃fa fd qual,Fun K (im f) qual x.st fa fd/\mg (im f)=fw (.ref fa)/\Binds K fd x.ps []
structure Mst(i:Inf)(mg:Str->Option Ã)(y:Mt)(a fa:Ð):Prop where
 cl:mg (im y.C)=fw (.ref a)
 fn:∃fd,Fun i.K (im y.m) (im y.qual) y.x.st fa fd/\Binds i.K fd y.x.ps []
 at_:Meth i.K a (im y.m) fa
variable {f:String}{fa:Ð}{fd:ŋ}
def Ag:gp pr wd i.K mg base (CX1 pr wd) 0 fa fd ps<|spF i P 0 f:=by
 refine⟨λvs H Q E h=>?_,λA outer s H args us vs Q E hr he hb hv h=>?_⟩
 .obtain⟨_,_,_,_,_,_,w,_⟩:=h;rw[O.wF_eq]at w;exact w.elim
 .obtain⟨_,_,_,_,_,_,w,_⟩:=h;rw[O.wF_eq]at w;exact w.elim
variable {n:Nat}
def Dl(q:O.wF P (n+1) f vs h Q E):∃d,P f=fw d/\vs.length=d.ar/\O.wSs (O.wF P n) d.body (d.env vs) h (λ_ g=>Q .non g) Q (λ_ _=>False) (λ_ _=>False) λ_ c g=>E c g:=by rw[O.wF_eq]at q;let⟨d,e,q1,q2⟩:=fG q;exact⟨d,e,q1,by rw[O.wF_eq];exact q2⟩
structure Modu(mg:Str->Option Ã)(base:Č)(i:Inf)(T:Tb):Prop where
 bl:∀x∈blts,mg x=fx
 cst:∀x v,T.cs.lookup x=fw v->∃u y,mg (im x)=fw u/\RelV y u/\∀H,RV i.K H v y
 A:ClsA i
 F:∀f,T.fl.contains f=fy->FldOk i f
 cl:∀C a,i.cl C a->mg (im C)=fw (.ref a)
 mkc:∀C,T.cl.contains C=fy->∃a y f,i.ins C=fy/\i.cl C a/\Mk i.K a f/\y∈T.ms/\y.C=C/\y.m = "__init__"/\Mst i mg y a f
 fs:∀f x,(f,x)∈T.fs->Dst i.K mg f x
 ms:∀y,y∈T.ms->∃a f,Mst i mg y a f/\Cls i.K a
 xc:T.xs≠[]->∀C a,i.xc C a->XCls i.K a/\PySem.W.kitOne i.K (.ref a) (.type "ValueError")=fw fy
 rs:T.xs≠[]->∀C,T.xs.contains C=fy->∃a,i.xc C a/\PyProof.Rows.OwnCls (im C) a [.type "ValueError",.type "Exception",.type "BaseException",.type "object"] "ValueError.__new__" mg base
 kn:T.xs≠[]->∀T',(T.xs.contains T'||T' == "ShutError")=fy->∃D,mg (im T')=fw (.ref D)/\∀C a,i.xc C a->PySem.W.kitOne i.K (.ref a) (.ref D)=fw (O.gR C T')/\(O.gR C T'=fy->PySem.W.exmOne i.K (.ref a) (.ref D)=fw fy)
structure Held(pr:è)(wd:ÿ)(mg:Str->Option Ã)(base:Č)(i:Inf)(P:O.Pg)(T:Tb)(n:Nat):Prop where
 fs:∀f x,(f,x)∈T.fs->Dfo pr wd mg base i P n f
 ms:∀y a f,y∈T.ms->Mst i mg y a f->Dfm pr wd mg base i P n (y.C ++ "." ++ y.m) f
def fn_succ{x:Ds}{nm qual:Str}(M:Modu mg base i T)(hn:Held pr wd mg base i P T n)(F:Fun i.K nm qual x.st fa fd)(hP:P f=fw x.d)(ht:x.Ok T):gp pr wd i.K mg base (CX1 pr wd) (2*(n+1)) fa fd x.ps<|spF i P (n+1) f:=by
 let⟨ht,heq⟩:=ht;simp![Ds.test,bAq,ii]at ht;let⟨⟨⟨⟨h1,h2⟩,h3⟩,h4⟩,h5⟩:=ht;have h3:=eq_of_beq h3;have h4:=eq_of_beq h4;have S:=RG h1;refine F.ok1 (k:=2*n+1) S (λvs H Q E h=>?_) λϫ A outer s H vs Q E hr hsp hw=>?_
 .obtain⟨args,G,Qm,Em,r,g,w,_⟩:=h;let⟨d,e,q,_⟩:=Dl w;rw[hP]at e;cases e;rw[<-r.length,q,h3]
 .obtain⟨args,G,Qm,Em,r,g,w,cn,ex⟩:=hsp;let⟨d,e,q,w⟩:=Dl w;rw[hP]at e;cases e;have gd:Gs (Nd (CX1 pr wd) pr wd i.K mg base x.N qual (Zu x.st) fa ϫ A outer s H E) i P n (T.md x) :=
   { K:=rfl,N:=rfl,sc:=rfl,nd:=S.nd,un:=(by have:=hr.un;show(A.deeper _).units+200<Ğ;lia),calm:=λ_=>rfl,room:=λ_=>hr,bl:=M.bl
     dfs:=λg hg=>(by
       let⟨p,hy,e⟩:=Ñ.mp<|Ĉ.mp hg
       subst e
       exact hn.fs p.1 p.2 hy)
     cst:=M.cst
     kl:=⟨M.A,M.F,λC hC=>(by
       let⟨a,y,f,q1,q2,q3,q4,rfl,q6,q7⟩:=M.mkc C hC
       refine⟨a,f,q1,q2,q3,M.cl _ _ q2,?_⟩
       have:=hn.ms y a f q4 q7
       rw[q6]at this
       rwa [show y.C ++ ".__init__" = y.C ++ "." ++ "__init__" by rw[String.append_assoc];rfl]),λC m hC=>(by
       let⟨y,hy,e⟩:=Ñ.mp<|Ĉ.mp hC
       cases e
       let⟨a,f,q1,q2⟩:=M.ms y hy
       refine⟨a,f,λb hb=>?_,q2,q1.at_,hn.ms y a f hy q1⟩
       have e1:=M.cl _ _ hb
       rw[q1.cl]at e1
       cases e1
       rfl)⟩
     xl:=λh=>⟨M.xc h,M.rs h,M.kn h⟩
     fn:=λ_ _=>.inl rfl
     own:=λ_=>PassesOwn.leaving
     stk:=λ_=>rfl }
  have hb:=sSs x.d.body _ _ _ gd h2;rw[heq]at hb;refine⟨_,hb,?_⟩;refine⟨x.d.env args,G,(λ_ g=>Qm .non g),Qm,(λ_ _=>False),(λ_ _=>False),(λ_ c g=>Em c g),?_,w,?_⟩
  .refine⟨?_,g,?_⟩
   .have:=REn.start (n:=x.d.sz - x.d.ar) r;unfold L2.start;have e1:x.N.length - vs.length=x.d.sz - x.d.ar:=by rw[h4,<-r.length,q]
    rw[e1];exact this
   .intro Â σ H0 s0 H' a cls s' I fl hx;let⟨e,c,G',ad,q1,q2,q3,q4,q5⟩:=hx;exact hw Â σ H0 s0 H' a cls s' I fl<|ex _ _ _ ⟨c,G',ad,q1,q2,q3,q4,q5⟩
  .refine⟨?_,?_,?_,?_⟩
   .intro Ũ Ű G' H' k g' e w';exact cn .non G' H' .non k g' .non w'
   .intro v G' H' y k g' rv w';exact cn v G' H' y k g' rv w'
   .intro _ _ _ _ _ _ _ z;exact z.elim
   .intro _ _ _ _ _ _ _ z;exact z.elim
def held_all(M:Modu mg base i T)(hP:∀f x,(f,x)∈T.fs->P f=fw x.d)(hPm:∀y,y∈T.ms->P (y.C ++ "." ++ y.m)=fw y.x.d)(ht:∀f x,(f,x)∈T.fs->x.Ok T)(htm:∀y,y∈T.ms->y.x.Ok T):∀n,Held pr wd mg base i P T n:=by
 intro n;induction n with
 |zero =>
  refine⟨λf x h=>?_,λy a f hy S=>?_⟩
  .obtain⟨fa,fd,qual,F,hm,hb⟩:=M.fs f x h;exact⟨fa,fd,x.ps,Ag,hm,F.kp,hb⟩
  .obtain⟨fd,F,hb⟩:=S.fn;exact⟨fd,y.x.ps,Ag,hb⟩
 |succ n ih =>
  refine⟨λf x h=>?_,λy a f hy S=>?_⟩
  .obtain⟨fa,fd,qual,F,hm,hb⟩:=M.fs f x h;exact⟨fa,fd,x.ps,fn_succ M ih F (hP f x h)<|ht f x h,hm,F.kp,hb⟩
  .obtain⟨fd,F,hb⟩:=S.fn;exact⟨fd,y.x.ps,fn_succ M ih F (hPm y hy)<|htm y hy,hb⟩
end Snd
namespace Hd
open PySem PySem.W PyProof.Rows
abbrev W2(st:SharedT->Thread->Option (SharedT×Thread))(ok th:Thread->Bool):Nat->SharedT->Thread->Option SharedT
 |0,_,_=>fx
 |n+1,s,t=>match th t with
  |true=>fw s
  |false=>match ok t with
   |false=>fx
   |true=>match st s t with
    |some (s',t')=>W2 st ok th n s' t'
    |none=>fx
def JQ:∀{n:Nat}{s s':SharedT}{t:Thread},W2 (stepT (denote tb) p w) (stepOk n₀ ann) through n s t=fw s'->topRun tb p w n₀ ann n s.abs t=fw s'.abs
 |0,_,_,_,h=>by cases h
 |n+1,s,s',t,h=>by
  unfold W2 at h;unfold topRun;cases ht:through t with
  |true=>rw[ht]at h;cases h;rfl
  |false =>
   rw[ht]at h;dsimp only at h ⊢;cases hk:stepOk n₀ ann t with
   |false=>rw[hk]at h;cases h
   |true =>
    rw[hk]at h;dsimp only at h ⊢;cases hs:stepT (denote tb) p w s t with
    |none=>rw[hs]at h;cases h
    |some r =>let⟨s2,t2⟩:=r;rw[hs]at h;rw[stepT_spec hs];exact JQ h
abbrev JT(P:Params):BT :=
 .node (boot_o_0 P) (.node (boot_o_1 P) (.node (boot_o_3 P) (.node (boot_o_7 P) .nil .nil) .nil)<|.node (boot_o_5 P) (.node (boot_o_9 P) .nil .nil) .nil)
  (.node (boot_o_2 P) (.node (boot_o_4 P) (.node (boot_o_8 P) .nil .nil) .nil)<|.node (boot_o_6 P) (.node (boot_o_10 P) .nil .nil) .nil)
def DU(P:Params):absHeap (JT P) 11 {}=boot_heap P:=by kernel_rfl
def BB(P:Params):((boot_heap P).isNs mainGlobals&&(Array.mk []:Array GenState).size==0,(boot_heap P).objs.size,(boot_heap P).nsMap mainGlobals "__annotations__")=(fy,11,fw<|.ref 6):=by
 rw[show @Heap.nsMap=_ from Fast.te8920871248978507458]
 kernel_rfl
abbrev Ie:=Fast.tw10156331382660048174
abbrev UA:=Fast.tw11892475500146522536
abbrev B8:=Fast.tw14364793385576792824
abbrev okY:=Fast.tw6613529449190102663
abbrev seenY:=Fast.tw4187177175401517315
abbrev modsY:=Fast.tw5923862056798008813
abbrev runY(p:Program)(N:Nat)(w:World)(os:OsState):Option SharedT:=W2 (Ie (UA B8) p w) (okY 11<|fw<|.ref 6) through N ⟨JT w.params,11,{},Array.mk [],boot_drawn,boot_toks,os⟩<|topStub p
abbrev stY(p:Program)(w:World)(s:SharedT):Bool:=staticsOk (modsY p.main.body) (boot_heap w.params) s.abs.heap&&namesBound p s.abs.heap&&gensDone s.abs&&laidKept (boot_heap w.params) s.abs.heap
def left_of{p q:Program}{loose:List Str}{Xt:Shared->Bool}{α:Type}{Yf:Shared->α}{Ya:World->α}{N:Nat}(e:opening p=plainProg p.main.scope.names)(hN:Nat.ble 600 N=fy)(f:∀s,fenceModules? p s=fw s)
  (one:∀w os,(runY p N w os).map (stY p w)=fw fy) (two:∀w os,(runY p N w os).map (λs=>seenY q loose (modsY p.main.body) Xt fy s.abs)=fw (openGood q loose)) (three:∀w os,(runY p N w os).map (λs=>Yf s.abs)=fw (Ya w)) :
  LeftO p q loose Xt Yf Ya N:=by
 intro w;let⟨⟨h,gs,d,k,os⟩,e1,e2⟩:=Ë.mp<|boot_open e hN f w;obtain⟨rfl,rfl,rfl,rfl⟩:h=boot_heap w.params/\gs=Array.mk []/\d=boot_drawn/\k=boot_toks:=⇑e2
 let⟨s,r,l1⟩:=Ë.mp<|one w os;let⟨s',r',l2⟩:=Ë.mp<|two w os;cases r.symm.trans r';let⟨s',r',l3⟩:=Ë.mp<|three w os;cases r.symm.trans r';obtain⟨z1,z2,z3⟩:_/\_/\_:=by simpa only[ū]using BB w.params
 unfold stY at l1;unfold runY Ie UA B8 okY at r;rw[<-Fast.te10156331382660048174,<-Fast.te11892475500146522536,<-Fast.te14364793385576792824,<-Fast.te6613529449190102663]at r;unfold modsY at l1 l2;unfold seenY at l2;rw[<-Fast.te5923862056798008813]at l1 l2;rw[<-Fast.te4187177175401517315]at l2;have r2:=JQ r;have ea:(SharedT.mk (JT w.params) 11 {} (Array.mk []) boot_drawn boot_toks os).abs=⟨boot_heap w.params,Array.mk [],boot_drawn,boot_toks,os⟩:=by show Shared.mk (absHeap _ _ _) _ _ _ _=_;rw[DU]
 rw[ea]at r2;have t:topFrom treeTable p w N ⟨boot_heap w.params,Array.mk [],boot_drawn,boot_toks,os⟩=fw s.abs:=by unfold topFrom;dsimp only;rw[z1,z2,z3,r2];show(match staticsOk (importedModules p.main.body) (boot_heap w.params) s.abs.heap&&namesBound p s.abs.heap&&gensDone s.abs&&laidKept (boot_heap w.params) s.abs.heap with|true=>_|false=>_)=_;rw[l1]
 unfold openEnds;rw[e1];show(topFrom treeTable p w N _).map _=_;rw[t];exact congrArg fw<|Prod.ext l2 l3
end Hd
namespace Hd
open PySem PySem.W PyProof.Rows L2
abbrev K5:Nat->List Obj->Frag
 |_,[]=>[]
 |i,o::r=>match o with
  |⟨_,_,.freed,_⟩=>K5 (i+1) r
  |o=>(i,o)::K5 (i+1) r
abbrev Zx(g:Heap):Frag:=K5 0 g.objs.toList
def Ox:∀(l:List Obj) (i a:Nat) (o:Obj),(K5 i l).lookup a=fw o->i<=a/\l[a - i]?=fw o/\(match fw o with|some ⟨_,_,.freed,_⟩=>fx|o=>o)=fw o
 |[],_,_,_,h=>by cases h
 |x::r,i,a,o,h=>by
  have rec1:(K5 (i+1) r).lookup a=fw o->i<=a/\(x::r)[a - i]?=fw o/\(match fw o with|some ⟨_,_,.freed,_⟩=>fx|o=>o)=fw o:=λq=>by let⟨h1,h2,h3⟩:=Ox r (i+1) a o q;refine⟨by lia,?_,h3⟩;rw[show a - i=(a - (i+1))+1 by lia,List.getElem?_cons_succ];exact h2
  unfold K5 at h;split at h
  .exact rec1 h
  .rename_i c ſ;rw[ñ]at h;split at h
   .rename_i e;cases h;have e:=eq_of_beq e;subst e;refine⟨Ì _,by rw[Nat.sub_self];rfl,?_⟩;split
    .rename_i d1 d2 d3 d4;cases d4;exact(ſ _ _ _ rfl).elim
    .rfl
   .exact rec1 h
def Uw(h:(Zx g).lookup a=fw o):g.get? a=fw o:=by let⟨_,h2,h3⟩:=Ox _ _ _ _ h;unfold Heap.get?;rw[Nat.sub_zero,Ą]at h2;rw[h2];exact h3
abbrev Cd(K:Frag)(nm:Str):Option<|FuncData×Bool×Bool:=match nsIn K mainGlobals nm with
 |some (fw<|.ref f)=>match K.lookup f with
  |some ⟨_,_,.func fd,_⟩=>fw ({fd with kwdefaults:=.none,doc:=.none,pyModule:=.none,annotations:=fx,code:=.none,closureTuple:=.none},codeIn K fd.code fd.qualname,keepIn K<|.ref f)
  |_=>fx
 |_=>fx
abbrev Cj(nm:Str)(st:Stmt):Option<|FuncData×Bool×Bool:=fw (fnOf nm nm (YQ st) (ZQ st) (Zu st) .none .none .none .none fx .none .none,fy,fy)
def Pw{K:Frag}{st:Stmt}(e:Cd K nm=Cj nm st):∃fa fd,Fun K nm nm st fa fd/\nsIn K mainGlobals nm=fw (fw<|.ref fa):=by
 unfold Cd at e;split at e
 .rename_i f hf;split at e
  .rename_i oc od fd sl hl;simp![Cj,Ĭ,ū]at e;let⟨e1,e2,e3⟩:=e;let⟨n1,n2,n3,n4,n5,n6,n7,n8,n9,n10,n11,n12,n13,n14,n15⟩:=fd;simp![fnOf,FuncData.mk.injEq]at e1;obtain⟨rfl,rfl,rfl,rfl,rfl,rfl,rfl,rfl,-,-,-,-,-,-,rfl⟩:=e1;exact⟨f,_,CT hl e2 e3,hf⟩
  .cases e
 .cases e
abbrev Ii(K:Frag)(y:Str):Bool:=match nsIn K mainGlobals y with
 |some fx=>fy
 |_=>fz
def Gk{l:OpenLaw}{n k:Nat}{q:Program}{loose:List Str}{XP:(Str->Option Value)->Heap->Prop}{YP:World->Heap->Prop}{d:DefRec}{CX:World->CXT}{x:Str}
  (hn:l.most=fw n) (hn2:n<=sizeLine) (hdf:d.params.defaults=[]) (hr:gm k callerA)
  (F:∀(w:World) (mg:Str->Option Value) (fa:Addr) (h:Heap),YP w h->h.Ns mainGlobals mg->mg d.name=fw (.ref fa)->∃(K:Frag) (sp:Sp),K.In h/\
    (∃fd:FuncData,(∀(s:Shared) (u:Value),BindsTo s fd ⟨[u],[]⟩ [(x,u)])/\∀base:Heap,K.In base->base.Ns mainGlobals mg->gp l.prog w K mg base (CX w) k fa fd [x] sp)/\
    ∀(H:Hp) (a:Addr) (ns:List Int),ns.length<=n->Qv H->gT K H a (ns.map V.int)->sp [.ref a] H (λv _=>v=.bl fy) λ_ _ _=>False)
  (hCX:∀(w:World) (H:Hp) (s:Shared) (e:Value) (s':Shared),CX w [] H s (λ_ _ _=>False) e s'->False) :
  WalkO q loose XP YP l.row.toRowW d [] (λf vs=>PySem.call f vs):=by
 refine Att.attach_call hn hdf λw s₀ ġ mg mb fa o pm cd doc a vs ns G Y ho hd aT hmg dX hints hlen hg=>?_;let⟨K,sp,KX,⟨fd,hb,hF⟩,hsp⟩:=F w mg fa _ Y G.T.g hmg;exact D1 KX G.T.g G.T.b G.T.builtins G.T.nolimit hg dX hints (Û hlen hn2) hr hF hb (λH hO hS=>hsp H a ns hlen hO hS) λH e s'=>hCX w H ġ e s'
abbrev Gu(f:Value->O.Val->Bool):List Value->List O.Val->Bool
 |[],[]=>fy
 |u::us,x::xs=>f u x&&Gu f us xs
 |_,_=>fz
abbrev Ih(K:Frag):Value->Option (List Value)
 |.ref a=>match K.lookup a with
  |some ⟨.type n,_,.seq us _,_⟩=>if n == "tuple" && ik (us.size<=sizeLine)then fw us.toList else fx
  |_=>fx
 |_=>fx
abbrev FH(K:Frag):Nat->Value->O.Val->Bool
 |0,_,_=>fz
 |n+1,u,v=>match v with
  |.non=>(match u with|.none=>fy|_=>fz)
  |.bl b=>(match u with|.bool a=>a==b|_=>fz)
  |.int j=>(match u with|.int i _=>i==j|_=>fz)
  |.str t=>(match u with|.str s _=>Fast.sEq s (im t)|_=>fz)
  |.tup xs=>(match Ih K u with|some us=>Gu (FH K n) us xs|none=>fz)
  |_=>fz
def EF{K:Frag}(hf:∀u v,f u v=fy->∃z,RelV z u/\∀H,Snd.RV K H v z):∀(us:List Value) (xs:List O.Val),Gu f us xs=fy->∃zs,gV zs us/\∀H,Snd.RVs K H xs zs
 |[],[],_=>⟨[],.nil,λ_=>.nil⟩
 |u::us,x::xs,h=>by rw[Gu,bAq]at h;let⟨z,r,q⟩:=hf u x h.1;let⟨zs,rs,qs⟩:=EF hf us xs h.2;exact⟨z::zs,.cons r rs,λH=>.cons (q H)<|qs H⟩
 |[],_::_,h=>by cases h
 |_::_,[],h=>by cases h
def Ef{K:Frag}:∀(n:Nat) (u:Value) (v:O.Val),FH K n u v=fy->∃z,RelV z u/\∀H,Snd.RV K H v z
 |0,_,_,h=>by cases h
 |n+1,u,v,h=>by
  unfold FH at h;cases v with
  |non =>
   dsimp only at h;split at h
   .exact⟨.non,rfl,λ_=>.non⟩
   .cases h
  |bl b =>
   dsimp only at h;split at h
   .cases eq_of_beq h;exact⟨.bl b,rfl,λ_=>.bl b⟩
   .cases h
  |int j =>
   dsimp only at h;split at h
   .cases eq_of_beq h;exact⟨.int j,⟨_,rfl⟩,λ_=>.int j⟩
   .cases h
  |str t =>
   dsimp only at h;split at h
   .cases Fast.sEq_iff.mp h;exact⟨.str<|im t,⟨_,rfl⟩,λ_=>.str t⟩
   .cases h
  |tup xs =>
   dsimp only at h;split at h
   .rename_i us hu;let⟨zs,rs,qs⟩:=EF (λu v=>Ef n u v) us xs h;unfold Ih at hu;split at hu
    .rename_i a;split at hu
     .rename_i nm od ú k sl hl;split at hu
      .rename_i hc;rw[bAq,ii]at hc;cases eq_of_beq hc.1;cases hu;exact⟨.ref a,rfl,λH=>.tup (.inr ⟨_,ú,k,hl,rfl,rfl,hc.2,rs⟩)<|qs H⟩
      .cases hu
     .cases hu
    .cases hu
   .cases h
  |ref a=>cases h
  |scr ns=>cases h
  |key i j=>cases h
abbrev Cp(K:Frag)(p:String×O.Val):Bool:=match nsIn K mainGlobals (im p.1)with
 |some (fw u)=>FH K 4 u p.2
 |_=>fz
def JE{α β:Type}[BEq α][LawfulBEq α]{a:α}{b:β}:∀{l:List (α×β)},l.lookup a=fw b->(a,b)∈l
 |[],h=>by cases h
 |(x,y)::r,h=>by
  rw[ñ]at h;split at h
  .rename_i e;cases h;cases eq_of_beq e;exact .head _
  .exact .tail _<|JE h
def L4{K:Frag}{id:String}(X:K.In h)(hm:mg x=fw (.ref C))(q:excIn K C bmB id=fy):PyProof.Rows.OwnCls x C bmB id mg h:=by
 constructor
 .exact hm
 have z:=q;unfold excIn at z;split at z
 next dd cd sl ho =>
  split at z
  next C1 bm k0 k1 k2 k3 n k5 em es =>
   rw[bAq,bAq,bAq,bAq,bAq]at z;let⟨⟨⟨⟨⟨z1,z2⟩,z3⟩,z4⟩,z5⟩,z6⟩:=z;have z1:=eq_of_beq z1;have z2:=eq_of_beq z2;have z6:=eq_of_beq z6;subst z1 z2;have z3b:cd.hasDel=fz:=by
    cases e:cd.hasDel with
    |false=>rfl
    |true=>rw[e]at z3;cases z3
   have es':sl=#[k0,k1,k2,k3,fw<|.builtin n,k5]:=fb.mp es;have nN:=nsMap_none_of_in X z5 z6;have nI:=Heap.Ns.of_isNs<|isNs_of_in X z5;have tI:=tail_of_in X z4;cases cd;dsimp only at em z3b nN nI;subst em z3b es';exact⟨bm,_,_,_,_,_,_,_,_,_,dd,k0,k1,k2,k3,k5,_,X _ _ ho,nI,nN,tI⟩
  next=>cases z
 next=>cases z
abbrev LW(K:Frag)(f:Addr):Option<|FuncData×Bool×Bool:=match K.lookup f with
 |some ⟨_,_,.func fd,_⟩=>fw ({fd with kwdefaults:=.none,doc:=.none,pyModule:=.none,annotations:=fx,code:=.none,closureTuple:=.none},codeIn K fd.code fd.qualname,keepIn K<|.ref f)
 |_=>fx
abbrev Ue(nm qual:Str)(st:Stmt):Option<|FuncData×Bool×Bool:=fw (fnOf nm qual (YQ st) (ZQ st) (Zu st) .none .none .none .none fx .none .none,fy,fy)
def P0{K:Frag}{st:Stmt}(e:LW K f=Ue nm qual st):∃fd,Fun K nm qual st f fd:=by
 unfold LW at e;split at e
 .rename_i oc od fd sl hl;simp![Ue,Ĭ,ū]at e;let⟨e1,e2,e3⟩:=e;let⟨n1,n2,n3,n4,n5,n6,n7,n8,n9,n10,n11,n12,n13,n14,n15⟩:=fd;simp![fnOf,FuncData.mk.injEq]at e1;obtain⟨rfl,rfl,rfl,rfl,rfl,rfl,rfl,rfl,-,-,-,-,-,-,rfl⟩:=e1;exact⟨_,CT hl e2 e3⟩
 .cases e
abbrev JO(K:Frag)(C:String):Option Addr:=match nsIn K mainGlobals (im C)with
 |some (fw<|.ref a)=>fw a
 |_=>fx
variable {C:String}{a:Addr}
def WV{K:Frag}(h:JO K C=fw a):nsIn K mainGlobals (im C)=fw (fw<|.ref a):=by
 unfold JO at h;split at h
 .cases h;assumption
 .cases h
structure CV where
 pg:Bool
 hd:Bool
 po:Bool
 sa:Option<|Option Value
abbrev HI(K:Frag)(a:Addr):CV:=⟨plainGet K a Str.empty,hasDictIn K a,plainOver K a,findIn K (.ref a) "__setattr__"⟩
abbrev Ai:CV:=⟨fy,fy,fy,fw<|fw<|.builtin "object.__setattr__"⟩
def C4{K:Frag}(h:HI K a=Ai):Cls K a:=by simp![HI,Ai,CV.mk.injEq]at h;exact⟨h.1,h.2.1,h.2.2.1,h.2.2.2⟩
structure MV where
 fn:Option<|FuncData×Bool×Bool
 isf:Bool
 cv:CV
abbrev EK(K:Frag)(y:Snd.Mt):Option MV:=match JO K y.C with
 |some a=>match findIn K (.ref a) (im y.m)with
  |some (fw<|.ref f)=>fw ⟨LW K f,isFn K<|.ref f,HI K a⟩
  |_=>fx
 |none=>fx
abbrev Ci(y:Snd.Mt):Option MV:=fw ⟨Ue (im y.m) (im y.qual) y.x.st,fy,Ai⟩
def RQ{K:Frag}(e:EK K y=Ci y):∃a f fd,nsIn K mainGlobals (im y.C)=fw (fw<|.ref a)/\Fun K (im y.m) (im y.qual) y.x.st f fd/\Meth K a (im y.m) f/\Cls K a:=by
 unfold EK at e;split at e
 .rename_i a ha;split at e
  .rename_i f hf;simp![Ci,Ĭ,MV.mk.injEq]at e;let⟨e1,e2,e3⟩:=e;let⟨fd,F⟩:=P0 e1;exact⟨a,f,fd,WV ha,F,⟨hf,e2,F.kp⟩,C4 e3⟩
  .cases e
 .cases e
structure QV where
 mks:Bool
 kp:Bool
 cv:CV
 fl:List<|Option<|Option Value
 ic:Option (Option Value)×Option (Option Value)×Option Bool×Option Bool
abbrev CL(K:Frag)(fl:List String)(C:String):Option QV:=match JO K C with
 |some a=>fw ⟨makesIn K a,keepIn K<|.ref a,HI K a,fl.map λf=>findIn K (.ref a)<|im f,(findIn K (.ref a) "__class__",specialIn K (.builtin "object.__class__") "__get__",takesIn K<|.builtin "object.__class__",mroIn K a<|.type "object")⟩
 |none=>fx
abbrev Cy(fl:List String):Option QV:=fw ⟨fy,fy,Ai,fl.map λ_=>fw fx,(fw<|fw<|.builtin "object.__class__",fw<|fw<|.builtin "getset_descriptor.__get__",fw fy,fw fy)⟩
def Iy{K:Frag}(e:CL K fl C=Cy fl):∃a,nsIn K mainGlobals (im C)=fw (fw<|.ref a)/\makesIn K a=fy/\keepIn K (.ref a)=fy/\Cls K a/\(∀f∈fl,NoAttr K a<|im f)/\Snd.IC K a:=by
 unfold CL at e;split at e
 .rename_i a ha;simp![Cy,Ĭ,QV.mk.injEq,ū]at e;let⟨e1,e2,e3,e4,e5,e6,e7,e8⟩:=e;exact⟨a,WV ha,e1,e2,C4 e3,λf hf=>ė.mp e4 f hf,⟨e5,e6,e7,e8⟩⟩
 .cases e
structure XV where
 ex:Bool
 f1:Option<|Option Value
 f2:Option<|Option Value
 f3:Option<|Option Value
 m1:Option Bool
 m2:Option Bool
 ci:Bool
 ve:Option Bool
 ks:List<|Option<|Option Bool×Option Bool
abbrev BZ(K:Frag)(xs:List String)(C:String):Option XV:=match JO K C with
 |some a=>fw ⟨excIn K a [.type "ValueError",.type "Exception",.type "BaseException",.type "object"] "ValueError.__new__",findIn K (.ref a) "__getattribute__",findIn K (.ref a) "__getattr__",findIn K (.ref a) "__class__",mroIn K a<|.type "object",mroIn K a<|.type "BaseException",(clsIn K a).isSome,kitOne K (.ref a)<|.type "ValueError",("ShutError" :: xs).map λT=>(JO K T).map λD=>(kitOne K (.ref a)<|.ref D,exmOne K (.ref a)<|.ref D)⟩
 |none=>fx
abbrev Cz(xs:List String)(C:String):Option XV:=fw ⟨fy,fw<|fw<|.builtin "BaseException.__getattribute__",fw fx,fw<|fw<|.builtin "object.__class__",fw fy,fw fy,fy,fw fy,("ShutError" :: xs).map λT=>fw (fw<|O.gR C T,fw<|O.gR C T)⟩
def CY{K:Frag}(e:BZ K xs C=Cz xs C):∃a,nsIn K mainGlobals (im C)=fw (fw<|.ref a)/\excIn K a [.type "ValueError",.type "Exception",.type "BaseException",.type "object"] "ValueError.__new__" = fy/\XCls K a/\kitOne K (.ref a) (.type "ValueError")=fw fy/\
  ∀T∈"ShutError" :: xs,∃D,nsIn K mainGlobals (im T)=fw (fw<|.ref D)/\kitOne K (.ref a) (.ref D)=fw (O.gR C T)/\exmOne K (.ref a) (.ref D)=fw (O.gR C T):=by
 unfold BZ at e;split at e
 .rename_i a ha;simp![Cz,Ĭ,XV.mk.injEq]at e;let⟨e1,e2,e3,e4,e5,e6,e7,e8,e9⟩:=e;refine⟨a,WV ha,e1,⟨e2,e3,e4,e5,e6,e7⟩,e8,λT hT=>?_⟩;have:=ė.mp e9 T hT;cases z:JO K T with
  |none=>rw[z]at this;cases this
  |some D =>rw[z]at this;simp![ř,Ĭ,ū]at this;exact⟨D,WV z,this.1,this.2⟩
 .cases e
structure View where
 fs:List<|Option<|FuncData×Bool×Bool
 ms:List<|Option MV
 cl:List<|Option QV
 xs:List<|Option XV
 ok:Bool
abbrev view(T:Snd.Tb)(K:Frag):View:=⟨T.fs.map λp=>Cd K<|im p.1,T.ms.map<|EK K,T.cl.map<|CL K T.fl,T.xs.map<|BZ K T.xs,T.cs.all (Cp K)&&Snd.blts.all (Ii K)⟩
abbrev due(T:Snd.Tb):View:=⟨T.fs.map λp=>Cj (im p.1) p.2.st,T.ms.map Ci,T.cl.map λ_=>Cy T.fl,T.xs.map<|Cz T.xs,fy⟩
abbrev hook(T:Snd.Tb):Hook where
 α:=View
 obs:=λs=>view T<|Zx s.heap
 val:=λ_=>due T
 says:=λ_ h=>∃g:Heap,view T (Zx g)=due T/\∀b o,g.get? b=fw o->h.get? b=fw o
 of:=λ_ s e=>⟨s.heap,e,λ_ _ x=>x⟩
 keeps:=λ_ _ _ ⟨g,e,k⟩ k2=>⟨g,e,λb o x=>k2 b o<|k b o x⟩
abbrev Bd(nm qual:Str)(x:Snd.Ds):Prop:=∀(kV doc pm:Value) (an:Option Addr) (ϫ ct:Value) (us:List Value),us.length=x.ps.length->bindArgs (fnOf nm qual (YQ x.st) (ZQ x.st) (Zu x.st) .none kV doc pm an ϫ ct) ⟨us,[]⟩=pure (x.ps.zip us)
abbrev HQ(T:Snd.Tb):Bool:=T.cl.all λC=>T.ms.any λy=>y.C==C&&y.m == "__init__"
def law_walk{l:OpenLaw}{q:Program}{loose:List Str}{XP:(Str->Option Value)->Heap->Prop}{d:DefRec}{T:Snd.Tb}{pg:O.Pg}{k:Nat}{xl:Snd.Ds}
  (hn:l.most=fw 63) (hdf:d.params.defaults=[]) (hdn:d.name=im "law") (hr:gm (2*(k+1)) callerA) (hlaw:("law",xl)∈T.fs) (hps:xl.ps=[im "script"]) (hin:HQ T=fy)
  (tab_pg:∀f x,(f,x)∈T.fs->pg f=fw x.d) (tab_pm:∀y,y∈T.ms->pg (y.C ++ "." ++ y.m)=fw y.x.d) (tab_ok:∀f x,(f,x)∈T.fs->x.Ok T) (tab_om:∀y,y∈T.ms->y.x.Ok T)
  (tab_bd:∀f x,(f,x)∈T.fs->Bd (im f) (im f) x) (tab_bm:∀y,y∈T.ms->Bd (im y.m) (im y.qual) y.x)
  (ok:∀ns:List Int,ns.length<=63->O.wF pg (k+1) "law" [.scr ns] (λ_=>fx) (λv _=>v=.bl fy) λ_ _=>False) :
  WalkO q loose XP (hook T).says l.row.toRowW d [] (λf vs=>PySem.call f vs):=by
 refine Gk (n:=63) (k:=2*(k+1)) (x:=im "script") (CX:=λw=>CX1 l.prog w) hn ↥1 hdf hr (λw mg fa h Y G hmg=>?_) λ_ _ _ _ _ ⟨_,_,_,_,_,z⟩=>z;let⟨g,e,keep⟩:=Y;have X:(Zx g).In h:=λa o z=>keep a o<|Uw z;simp![view,due,View.mk.injEq]at e;let⟨e1,e3,e4,e5,e2⟩:=e;rw[bAq,ą,ą]at e2
 let i:Snd.Inf:=⟨Zx g,λC a=>T.cl.contains C=fy/\mg (im C)=fw (.ref a),λC=>T.cl.contains C,λC a=>T.xs.contains C=fy/\mg (im C)=fw (.ref a)⟩
 have hF:∀f x,(f,x)∈T.fs->∃fa fd,Fun (Zx g) (im f) (im f) x.st fa fd/\mg (im f)=fw (.ref fa):=λf x hx=>by let⟨fa,fd,F,z⟩:=Pw<|ė.mp e1 (f,x) hx;exact⟨fa,fd,F,mg_of X G z⟩
 have aU:∀C a,i.cl C a->makesIn (Zx g) a=fy/\keepIn (Zx g) (.ref a)=fy/\Cls (Zx g) a/\(∀f∈T.fl,NoAttr (Zx g) a<|im f)/\Snd.IC (Zx g) a:=λC a ⟨hc,hm⟩=>by let⟨b,z,q⟩:=Iy<|ė.mp e4 C<|Ĉ.mp hc;have:=mg_of X G z;rw[hm]at this;cases this;exact q
 have hms:∀y,y∈T.ms->∃a f,Snd.Mst i mg y a f/\Cls i.K a:=λy hy=>by let⟨a,f,fd,z,F,M,A⟩:=RQ<|ė.mp e3 y hy;exact⟨a,f,⟨mg_of X G z,⟨fd,F,F.binds<|tab_bm y hy⟩,M⟩,A⟩
 have hxc:∀C a,i.xc C a->excIn (Zx g) a [.type "ValueError",.type "Exception",.type "BaseException",.type "object"] "ValueError.__new__" = fy/\XCls (Zx g) a/\kitOne (Zx g) (.ref a) (.type "ValueError")=fw fy/\
   ∀T'∈"ShutError" :: T.xs,∃D,nsIn (Zx g) mainGlobals (im T')=fw (fw<|.ref D)/\kitOne (Zx g) (.ref a) (.ref D)=fw (O.gR C T')/\exmOne (Zx g) (.ref a) (.ref D)=fw (O.gR C T'):=λC a ⟨hc,hm⟩=>by
  let⟨b,z,q⟩:=CY<|ė.mp e5 C<|Ĉ.mp hc;have:=mg_of X G z;rw[hm]at this;cases this;exact q
 have mod:∀base:Heap,(Zx g).In base->Snd.Modu mg base i T:=λbase Xb =>
  { bl:=λy hy=>by
      have:=e2.2 y hy
      unfold Ii at this
      split at this
      . rename_i z;exact mg_none_of X G z
      . cases this
    cst:=λy v hv=>by
      have:=e2.1 _<|JE hv
      unfold Cp at this
      split at this
      . rename_i u z
        let⟨x,r,rv⟩:=Ef 4 u v this
        exact⟨u,x,mg_of X G z,r,rv⟩
      . cases this
    A:=⟨λC a _ z=>(aU C a z).2.2.1,λC a z=>(aU C a z).2.2.2.2,λC a b z y=>by have:=z.2.symm.trans y.2;cases this;rfl⟩
    F:=λf hf=>⟨λC a z=>(aU C a z).2.2.2.1 f<|Ĉ.mp hf⟩
    cl:=λC a z=>z.2
    mkc:=λC hC=>by
      let⟨a,z,_⟩:=Iy<|ė.mp e4 C<|Ĉ.mp hC
      have hi:i.cl C a:=⟨hC,mg_of X G z⟩
      let⟨y,hy,e⟩:=az.mp<|ą.mp hin C<|Ĉ.mp hC
      rw[bAq]at e
      let⟨b,f,S,A⟩:=hms y hy
      have h1:=eq_of_beq e.1
      have h2:=eq_of_beq e.2
      have hb:=S.cl
      rw[h1,hi.2]at hb
      cases hb
      refine⟨a,y,f,hC,hi,⟨(aU C a hi).1,?_,S.at_.fn,(aU C a hi).2.1⟩,hy,h1,h2,S⟩
      have:=S.at_.at_
      rw[h2]at this
      exact this
    fs:=λf x hx=>by
      let⟨fa,fd,F,m⟩:=hF f x hx
      exact⟨fa,fd,_,F,m,F.binds<|tab_bd f x hx⟩
    ms:=hms
    xc:=λ_ C a z=>⟨(hxc C a z).2.1,(hxc C a z).2.2.1⟩
    rs:=λ_ C hC=>by
      let⟨a,z,q1,_⟩:=CY<|ė.mp e5 C<|Ĉ.mp hC
      exact⟨a,⟨hC,mg_of X G z⟩,L4 Xb (mg_of X G z) q1⟩
    kn:=λſ T' hT=>by
      have hT2:T'∈"ShutError" :: T.xs:=by
        rcases (aS ..).mp hT with z|z
        . exact .tail _<|Ĉ.mp z
        . cases eq_of_beq z;exact .head _
      let⟨C0,hC0⟩:=List.exists_mem_of_ne_nil _ ſ
      let⟨a0,z0,_,_,_,q0⟩:=CY<|ė.mp e5 C0 hC0
      let⟨D,zD,_⟩:=q0 T' hT2
      refine⟨D,mg_of X G zD,λC a z=>?_⟩
      let⟨D2,z2,k1,k2⟩:=(hxc C a z).2.2.2 T' hT2
      rw[zD]at z2
      cases z2
      exact⟨k1,λe=>by rw[k2,e]⟩ }
 let⟨fl,fd,F,m⟩:=hF "law" xl hlaw;have ef:=hmg.symm.trans<|hdn▸m;cases ef;refine⟨Zx g,Snd.spF i pg (k+1) "law",X,⟨fd,λs u=>?_,λbase Xb _=>?_⟩,λH a ns hl hO hS=>?_⟩
 .have B:=F.ex;let⟨oc,od,kV,dc,pm,an,ϫ,ct,sl,rfl,lk,aT⟩:=B;have:=tab_bd "law" xl hlaw kV dc pm an ϫ ct [u] (by rw[hps];rfl);rw[hps]at this;exact .of_eq this
 .have M:=mod base Xb;have:=Snd.fn_succ (i:=i) (pr:=l.prog) (wd:=w) (base:=base) (mg:=mg) (P:=pg) (n:=k) M (Snd.held_all M tab_pg tab_pm tab_ok tab_om k) F (tab_pg "law" xl hlaw)<|tab_ok "law" xl hlaw;rw[hps]at this;exact this
 .refine⟨[.scr ns],λ_=>fx,λv _=>v=.bl fy,λ_ _=>False,.cons (.scr ?_) .nil,λ_ _ e=>(by cases e),ok ns hl,?_,?_⟩
  .rcases hS with(h|⟨o,h⟩)|h
   .rcases hO a with z|⟨o,xs,z⟩
    .rw[h]at z;cases z
    .rw[h]at z;cases z
   .exact .inl ⟨o,h⟩
   .exact .inr h
  .intro v G' H' x _ _ r e;subst e;exact r.bl_inv
  .rintro cls d H' ⟨_,_,_,_,_,_,_,z⟩;exact z
end Hd
set_option maxRecDepth 20000
set_option maxHeartbeats 2000000
namespace O
local macro_rules|`(#[$x])=>`(.cons $x .nil)|`(#[$x,$y,*])=>`(.cons $x #[$y,*])
@[reducible] noncomputable def B0(P:Pg)(n:Nat)(d:Fn)(e:Env)(h:Hs)(Q:Q1)(X:XQ):Prop:=wSs (wF P n) d.body e h (λ_ g=>Q .non g) Q (λ_ _=>False) (λ_ _=>False) λ_ c g=>X c g
variable {P:Pg}{n:Nat}{a0 a1 a2 a3 a4 a5 a6 a7:Val}{h:Hs}{Q:Q1}{X:XQ}
local macro_rules|`(↑$n:num)=>`(.cst (.int $n))
local macro_rules|`(⇑$n:num)=>`(.var $n)
instance Vy:Fn:={ar:=1,sz:=1,body:=#[.ret<|.and (.bi (.isi ["int"]) #[⇑0])<|.not<|.bi (.isi ["bool"]) #[⇑0]]}
instance Vx:Fn:={ar:=3,sz:=3,body:=#[.ret<|.and (.call "is_whole" #[⇑0])<|.chain .le .le ⇑1 ⇑0 ⇑2]}
instance Ve:Fn:={ar:=2,sz:=2,body:=#[.ite (.or (.not<|.val<|.bi (.isi ["list"]) #[⇑0])<|.not<|.val<|.bi (.isi ["list"]) #[⇑1]) #[.never] .nil,.ite (.not<|.val<|.chain .le .le ↑1 (.bi .len #[⇑0])<|.glob "MOST_BRIDGES"<|.int 10) #[.never] .nil,.ite (.val<|.cmp .gt (.bi .len #[⇑1])<|.glob "MOST_TIES"<|.int 16) #[.never] .nil,.ite (.not<|.val<|.call "are_bridges" #[⇑0]) #[.never] .nil,.ite (.not<|.val<|.bi .all #[.comp [0] 1 (.one 0) (.seq ⇑1) .yes<|.call "is_tie" #[⇑0,⇑1]]) #[.never] .nil,.ret<|.tup #[.bi .tuple #[.bi .sortedI #[⇑0]],.bi .tuple #[.comp [] 1 (.one 0) (.seq ⇑1) .yes<|.call "lesser_end_first" #[⇑0]]]]}
instance VL:Fn:={ar:=1,sz:=1,body:=#[.ite (.not<|.val<|.bi .all #[.comp [] 1 (.one 0) (.seq ⇑0) .yes<|.call "is_whole_between" #[⇑0,↑0,.glob "GREATEST_NUMBER"<|.int 999]]) #[.ret<|.cst<|.bl fz] .nil,.ret<|.cmp .eq (.bi .lenSet #[⇑0])<|.bi .len #[⇑0]]}
instance Vz:Fn:={ar:=2,sz:=2,body:=#[.ite (.or (.not<|.val<|.bi (.isi ["tuple"]) #[⇑0])<|.val<|.cmp .ne (.bi .len #[⇑0]) ↑3) #[.ret<|.cst<|.bl fz] .nil,.ite (.or (.not<|.val<|.call "is_whole" #[.idx ⇑0 ↑0])<|.not<|.val<|.call "is_whole" #[.idx ⇑0 ↑1]) #[.ret<|.cst<|.bl fz] .nil,.ite (.or (.val<|.cmp .notin (.idx ⇑0 ↑0) ⇑1)<|.val<|.cmp .notin (.idx ⇑0 ↑1) ⇑1) #[.ret<|.cst<|.bl fz] .nil,.ret<|.and (.cmp .ne (.idx ⇑0 ↑0)<|.idx ⇑0 ↑1)<|.call "is_whole_between" #[.idx ⇑0 ↑2,↑1,.glob "GREATEST_COST"<|.int 1000]]}
instance Vd:Fn:={ar:=1,sz:=1,body:=#[.ret<|.tup #[.bi .min2 #[.idx ⇑0 ↑0,.idx ⇑0 ↑1],.bi .max2 #[.idx ⇑0 ↑0,.idx ⇑0 ↑1],.idx ⇑0 ↑2]]}
instance Vf:Fn:={ar:=2,sz:=5,body:=#[.set (.one 2)<|.lst .nil,.for (.many [3,4]) (.enum<|.idx ⇑0 ↑1) #[.ite (.val<|.cmp .isin ⇑1<|.slc ⇑4 .none<|.some ↑2) #[.expr<|.bm .append ⇑2 #[.tup #[⇑3,.call "far_end" #[⇑4,⇑1],.idx ⇑4 ↑2]]] .nil],.ret ⇑2]}
instance VQ:Fn:={ar:=2,sz:=2,body:=#[.ret<|.ife (.val<|.cmp .eq (.idx ⇑0 ↑0) ⇑1) (.idx ⇑0 ↑1)<|.idx ⇑0 ↑0]}
instance Vh:Fn:={ar:=1,sz:=5,body:=#[.set (.one 1)<|.lst .nil,.for (.many [2,3]) (.enum<|.idx (.meth "Yard" "net" ⇑0 .nil) ↑1) #[.set (.one 4)<|.meth "Yard" "ends" ⇑0 #[⇑2],.ite (.val<|.cmp .eq ⇑4<|.tup #[.cst<|.str "child",.cst<|.str "parent"]) #[.expr<|.bm .append ⇑1 #[.tup #[⇑2,.idx ⇑3 ↑0,.idx ⇑3 ↑1]]] #[.ite (.val<|.cmp .eq ⇑4<|.tup #[.cst<|.str "parent",.cst<|.str "child"]) #[.expr<|.bm .append ⇑1 #[.tup #[⇑2,.idx ⇑3 ↑1,.idx ⇑3 ↑0]]] .nil]],.ret ⇑1]}
instance VS:Fn:={ar:=2,sz:=2,body:=#[.ret<|.cmp .eq (.sortT<|.meth "Yard" "ends" ⇑0 #[⇑1])<|.lst #[.cst<|.str "child",.cst<|.str "parent"]]}
instance VT:Fn:={ar:=2,sz:=2,body:=#[.ret<|.and (.call "is_whole" #[⇑1])<|.cmp .isnot (.meth "Yard" "bridge" ⇑0 #[⇑1])<|.cst .non]}
instance Vl:Fn:={ar:=2,sz:=8,body:=#[.set (.many [2,3]) ⇑1,.set (.one 4)<|.lst .nil,.for (.many [5,6,7]) (.seq ⇑0) #[.ite (.and (.val<|.cmp .ne ⇑5 ⇑3)<|.val<|.cmp .isin ⇑2<|.tup #[⇑6,⇑7]) #[.expr<|.bm .append ⇑4 #[.tup #[.ife (.val<|.cmp .eq ⇑2 ⇑6) ⇑7 ⇑6,⇑5]]] .nil],.ret ⇑4]}
instance T5:Fn:={ar:=2,sz:=3,body:=#[.setFld ⇑0 "yard" ⇑1,.setFld ⇑0 "frames_sent" ↑0,.setFld ⇑0 "line"<|.lst .nil,.setFld ⇑0 "had_by_bridge"<|.dct .nil,.for (.one 2) (.seq<|.idx (.meth "Yard" "net" ⇑1 .nil) ↑0) #[.setIdx (.fld ⇑0 "had_by_bridge") ⇑2<|.lst .nil]]}
instance T6:Fn:={ar:=2,sz:=3,body:=#[.ite (.not<|.val<|.call "is_standing" #[.fld ⇑0 "yard",⇑1]) #[.never] .nil,.set (.one 2)<|.fld ⇑0 "frames_sent",.augFld ⇑0 "frames_sent" .add 1,.expr<|.meth "Carrier" "have" ⇑0 #[⇑1,.cst .non,⇑2],.ret ⇑2]}
instance T4:Fn:={ar:=4,sz:=7,body:=#[.expr<|.bm .append (.idx (.fld ⇑0 "had_by_bridge") ⇑1) #[.tup #[⇑3,⇑2]],.for (.many [4,5]) (.seq<|.call "sent_on" #[.call "open_ways" #[.fld ⇑0 "yard"],.tup #[⇑1,⇑2]]) #[.set (.one 6)<|.tup #[.meth "Bridge" "stamp" (.meth "Yard" "bridge" (.fld ⇑0 "yard") #[⇑1]) .nil,.meth "Bridge" "stamp" (.meth "Yard" "bridge" (.fld ⇑0 "yard") #[⇑4]) .nil],.expr<|.bm .append (.fld ⇑0 "line") #[.bin .add (.tup #[⇑1,⇑4,⇑5,⇑3]) ⇑6]]]}
instance T1:Fn:={ar:=2,sz:=10,body:=#[.ite (.not<|.val<|.call "is_line_deed" #[⇑1]) #[.expr<|.meth "Yard" "deed" (.fld ⇑0 "yard") #[⇑1],.retN] .nil,.set (.many [2,3]) ⇑1,.ite (.not<|.val<|.call "is_whole_between" #[⇑3,↑0,.bin .sub (.bi .len #[.fld ⇑0 "line"]) ↑1]) #[.never] .nil,.set (.many [4,5,6,7,8,9])<|.bm .popAt (.fld ⇑0 "line") #[⇑3],.ite (.and (.val<|.cmp .eq ⇑2<|.cst<|.str "arrive")<|.val<|.meth "Carrier" "goes_on" ⇑0 #[⇑4,⇑5,⇑6,.tup #[⇑8,⇑9]]) #[.expr<|.meth "Carrier" "have" ⇑0 #[⇑5,⇑6,⇑7]] .nil]}
instance T3:Fn:={ar:=5,sz:=5,body:=#[.ite (.not<|.val<|.call "is_open_way" #[.fld ⇑0 "yard",⇑3]) #[.ret<|.cst<|.bl fz] .nil,.ret<|.cmp .eq ⇑4<|.tup #[.meth "Bridge" "stamp" (.meth "Yard" "bridge" (.fld ⇑0 "yard") #[⇑1]) .nil,.meth "Bridge" "stamp" (.meth "Yard" "bridge" (.fld ⇑0 "yard") #[⇑2]) .nil]]}
instance T7:Fn:={ar:=1,sz:=1,body:=#[.ret<|.bi .list #[.fld ⇑0 "line"]]}
instance T0:Fn:={ar:=2,sz:=2,body:=#[.ite (.not<|.val<|.call "is_whole" #[⇑1]) #[.ret<|.lst .nil] .nil,.ret<|.bi .list #[.bm .dgetD (.fld ⇑0 "had_by_bridge") #[⇑1,.lst .nil]]]}
instance VR:Fn:={ar:=1,sz:=1,body:=#[.ite (.or (.not<|.val<|.bi (.isi ["tuple"]) #[⇑0])<|.val<|.cmp .ne (.bi .len #[⇑0]) ↑2) #[.ret<|.cst<|.bl fz] .nil,.ret<|.and (.bi (.isi ["str"]) #[.idx ⇑0 ↑0])<|.cmp .isin (.idx ⇑0 ↑0)<|.tup #[.cst<|.str "arrive",.cst<|.str "drop"]]}
instance Vg:Fn:={ar:=2,sz:=2,body:=#[.ret<|.cmp .gt (.idx ⇑0<|.glob "NUMBER"<|.int 0)<|.idx ⇑1<|.glob "NUMBER"<|.int 0]}
instance VP:Fn:={ar:=2,sz:=3,body:=#[.set (.one 2)<|.comp [0] 1 (.one 0) (.seq ⇑1) (.val<|.cmp .lt (.idx ⇑0 ↑0) ⇑1) ⇑0,.ret<|.bi .minD #[⇑2]]}
instance TK:Fn:={ar:=5,sz:=8,body:=#[.setFld ⇑0 "number" ⇑1,.setFld ⇑0 "life" ⇑2,.setFld ⇑0 "age_let_go" ⇑4,.setFld ⇑0 "ties_by_place"<|.dct .nil,.for (.many [5,6,7]) (.seq ⇑3) #[.setIdx (.fld ⇑0 "ties_by_place") ⇑5<|.tup #[⇑6,⇑7]],.setFld ⇑0 "held_by_place"<|.dct .nil,.setFld ⇑0 "label_now"<|.tup #[⇑1,↑0,.cst .non,.cst .non],.setFld ⇑0 "version" ↑0,.setFld ⇑0 "ticks_had" ↑0]}
instance TU:Fn:={ar:=1,sz:=1,body:=#[.ret<|.fld ⇑0 "label_now"]}
instance TL:Fn:={ar:=1,sz:=1,body:=#[.ret<|.tup #[.fld ⇑0 "life",.fld ⇑0 "version"]]}
instance TW:Fn:={ar:=2,sz:=2,body:=#[.ret<|.bm .dget (.fld ⇑0 "held_by_place") #[⇑1]]}
instance TV:Fn:={ar:=4,sz:=4,body:=#[.ite (.val<|.cmp .notin ⇑1<|.fld ⇑0 "ties_by_place") #[.setIdx (.fld ⇑0 "ties_by_place") ⇑1<|.tup #[⇑2,⇑3]] .nil]}
instance TZ:Fn:={ar:=2,sz:=2,body:=#[.expr<|.bm .dpopD (.fld ⇑0 "ties_by_place") #[⇑1,.cst .non],.expr<|.bm .dpopD (.fld ⇑0 "held_by_place") #[⇑1,.cst .non]]}
instance TX:Fn:={ar:=3,sz:=4,body:=#[.ite (.val<|.cmp .notin ⇑1<|.fld ⇑0 "ties_by_place") #[.retN] .nil,.set (.one 3)<|.meth "Bridge" "held" ⇑0 #[⇑1],.ite (.or (.val<|.cmp .is ⇑3<|.cst .non)<|.val<|.call "newer" #[⇑2,.idx ⇑3 ↑0]) #[.setIdx (.fld ⇑0 "held_by_place") ⇑1<|.tup #[⇑2,.idx ⇑2<|.glob "AGE"<|.int 4]] .nil]}
instance TR:Fn:={ar:=1,sz:=2,body:=#[.expr<|.meth "Bridge" "let_grow_older" ⇑0 .nil,.expr<|.meth "Bridge" "take_label" ⇑0 #[.meth "Bridge" "reckon_label" ⇑0 .nil],.set (.one 1)<|.comp [0] 1 (.one 0) (.seq<|.bi .sortedI #[.fld ⇑0 "ties_by_place"]) .yes<|.tup #[⇑0,.meth "Bridge" "letter_over" ⇑1 #[⇑0]],.augFld ⇑0 "ticks_had" .add 1,.ret ⇑1]}
instance TD:Fn:={ar:=1,sz:=4,body:=#[.set (.one 1)<|.dct .nil,.forI fz (.many [2,3]) (.fld ⇑0 "held_by_place") #[.ite (.val<|.cmp .lt (.bin .add (.idx ⇑3 ↑1) ↑1)<|.fld ⇑0 "age_let_go") #[.setIdx ⇑1 ⇑2<|.tup #[.idx ⇑3 ↑0,.bin .add (.idx ⇑3 ↑1) ↑1]] .nil],.setFld ⇑0 "held_by_place" ⇑1]}
instance TH:Fn:={ar:=1,sz:=8,body:=#[.set (.one 1)<|.lst .nil,.forI fz (.many [2,3]) (.fld ⇑0 "held_by_place") #[.set (.many [4,5])<|.idx (.fld ⇑0 "ties_by_place") ⇑2,.expr<|.bm .append ⇑1 #[.tup #[.idx (.idx ⇑3 ↑0)<|.glob "ROOT"<|.int 2,.bin .add (.idx (.idx ⇑3 ↑0)<|.glob "COST"<|.int 3) ⇑5,⇑4,⇑2]]],.set (.one 6)<|.call "best_offer" #[.fld ⇑0 "number",⇑1],.ite (.val<|.cmp .is ⇑6<|.cst .non) #[.ret<|.tup #[.fld ⇑0 "number",↑0,.cst .non,.cst .non]] .nil,.set (.many [7,5,4,2]) ⇑6,.ret<|.tup #[⇑7,⇑5,⇑2,.idx (.idx (.idx (.fld ⇑0 "held_by_place") ⇑2) ↑0)<|.glob "STAMP"<|.int 1]]}
instance TQ:Fn:={ar:=2,sz:=2,body:=#[.ite (.val<|.cmp .ne ⇑1<|.fld ⇑0 "label_now") #[.setFld ⇑0 "label_now" ⇑1,.augFld ⇑0 "version" .add 1] .nil]}
instance TF:Fn:={ar:=2,sz:=8,body:=#[.set (.many [2,3,4,5])<|.fld ⇑0 "label_now",.set (.one 6)<|.ife (.val<|.cmp .is ⇑4<|.cst .non) ↑0<|.bin .add (.idx (.idx (.fld ⇑0 "held_by_place") ⇑4) ↑1) ↑1,.set (.one 7)<|.tup #[.tup #[.fld ⇑0 "life",.fld ⇑0 "ticks_had"],.meth "Bridge" "stamp" ⇑0 .nil,⇑2,⇑3,⇑6],.ite (.val<|.cmp .eq ⇑1 ⇑4) #[.ret<|.bin .add ⇑7<|.tup #[⇑5,.cst .non]] .nil,.ite (.val<|.meth "Bridge" "is_rested_on" ⇑0 #[⇑1]) #[.ret<|.bin .add ⇑7<|.tup #[.cst .non,.idx (.idx (.idx (.fld ⇑0 "held_by_place") ⇑1) ↑0)<|.glob "STAMP"<|.int 1]] .nil,.ret<|.bin .add ⇑7<|.tup #[.cst .non,.cst .non]]}
instance TN:Fn:={ar:=2,sz:=3,body:=#[.set (.one 2)<|.meth "Bridge" "held" ⇑0 #[⇑1],.ret<|.and (.cmp .isnot ⇑2<|.cst .non)<|.cmp .eq (.idx (.idx ⇑2 ↑0)<|.glob "RESTS"<|.int 5)<|.meth "Bridge" "stamp" ⇑0 .nil]}
instance TM:Fn:={ar:=2,sz:=3,body:=#[.set (.one 2)<|.meth "Bridge" "held" ⇑0 #[⇑1],.ite (.or (.val<|.cmp .is ⇑2<|.cst .non)<|.val<|.cmp .ne (.idx (.idx ⇑2 ↑0)<|.glob "AGREES"<|.int 6)<|.meth "Bridge" "stamp" ⇑0 .nil) #[.ret<|.cst<|.bl fz] .nil,.ret<|.cmp .eq (.idx (.idx ⇑2 ↑0)<|.glob "STAMP"<|.int 1)<|.idx (.fld ⇑0 "label_now") ↑3]}
instance TY:Fn:={ar:=2,sz:=2,body:=#[.ite (.val<|.cmp .notin ⇑1<|.fld ⇑0 "ties_by_place") #[.ret<|.cst<|.str "down"] .nil,.ite (.val<|.cmp .eq ⇑1<|.idx (.fld ⇑0 "label_now") ↑2) #[.ret<|.ife (.val<|.meth "Bridge" "is_agreed_to" ⇑0 #[⇑1]) (.cst<|.str "child")<|.cst<|.str "shut"] .nil,.ret<|.ife (.val<|.meth "Bridge" "is_rested_on" ⇑0 #[⇑1]) (.cst<|.str "parent")<|.cst<|.str "shut"]}
instance VB:Fn:={ar:=3,sz:=4,body:=#[.setFld ⇑0 "net_made_of" ⇑1,.setFld ⇑0 "greatest_age" ⇑2,.setFld ⇑0 "lives"<|.dct .nil,.setFld ⇑0 "standing"<|.dct .nil,.setFld ⇑0 "ties_fallen"<|.dct .nil,.setFld ⇑0 "letters_on_road"<|.lst .nil,.for (.one 3) (.seq<|.idx ⇑1 ↑0) #[.setIdx (.fld ⇑0 "lives") ⇑3 ↑0,.setIdx (.fld ⇑0 "standing") ⇑3<|.make "Bridge" #[⇑3,↑0,.call "neighbours" #[⇑1,⇑3],⇑2]]]}
instance VC:Fn:={ar:=1,sz:=1,body:=#[.ret<|.fld ⇑0 "net_made_of"]}
instance VU:Fn:={ar:=1,sz:=1,body:=#[.ret<|.fld ⇑0 "greatest_age"]}
instance VD:Fn:={ar:=1,sz:=1,body:=#[.ret<|.bi .list #[.fld ⇑0 "letters_on_road"]]}
instance VW:Fn:={ar:=1,sz:=2,body:=#[.set (.one 1)<|.comp [0] 1 (.one 0) (.seq<|.idx (.fld ⇑0 "net_made_of") ↑0) (.val<|.cmp .notin ⇑0<|.fld ⇑1 "standing") ⇑0,.ret<|.tup #[.bi .tuple #[⇑1],.bi .tuple #[.bi .sortedI #[.fld ⇑0 "ties_fallen"]]]]}
instance VG:Fn:={ar:=1,sz:=1,body:=#[.ret<|.comp [0] 1 (.one 0) (.seq<|.bi .sortedI #[.fld ⇑0 "standing"]) .yes<|.tup #[⇑0,.meth "Bridge" "stamp" (.idx (.fld ⇑1 "standing") ⇑0) .nil]]}
instance VZ:Fn:={ar:=2,sz:=2,body:=#[.ret<|.bm .dget (.fld ⇑0 "standing") #[⇑1]]}
instance VM:Fn:={ar:=2,sz:=5,body:=#[.ite (.not<|.val<|.meth "Yard" "has_tie" ⇑0 #[⇑1]) #[.ret<|.tup #[.cst<|.str "down",.cst<|.str "down"]] .nil,.set (.many [2,3,4])<|.idx (.idx (.fld ⇑0 "net_made_of") ↑1) ⇑1,.ret<|.tup #[.meth "Yard" "end_at" ⇑0 #[⇑2,⇑1],.meth "Yard" "end_at" ⇑0 #[⇑3,⇑1]]]}
instance VJ:Fn:={ar:=3,sz:=3,body:=#[.ite (.val<|.cmp .notin ⇑1<|.fld ⇑0 "standing") #[.ret<|.cst<|.str "down"] .nil,.ret<|.meth "Bridge" "end" (.idx (.fld ⇑0 "standing") ⇑1) #[⇑2]]}
instance VA:Fn:={ar:=2,sz:=2,body:=#[.ret<|.chain .le .lt ↑0 ⇑1<|.bi .len #[.idx (.fld ⇑0 "net_made_of") ↑1]]}
instance VX:Fn:={ar:=2,sz:=4,body:=#[.set (.many [2,3])<|.call "read_deed" #[⇑1],.ite (.val<|.cmp .eq ⇑2<|.tup #[.cst<|.str "tick"]) #[.expr<|.meth "Yard" "tick_of" ⇑0 #[⇑3]] #[.ite (.val<|.cmp .eq ⇑2<|.tup #[.cst<|.str "come"]) #[.expr<|.meth "Yard" "come" ⇑0 #[⇑3]] #[.ite (.val<|.cmp .eq ⇑2<|.tup #[.cst<|.str "lost"]) #[.expr<|.meth "Yard" "take_off" ⇑0 #[⇑3]] #[.ite (.val<|.cmp .eq ⇑2<|.tup #[.cst<|.str "fall",.cst<|.str "bridge"]) #[.expr<|.meth "Yard" "fall_of_bridge" ⇑0 #[⇑3]] #[.ite (.val<|.cmp .eq ⇑2<|.tup #[.cst<|.str "fall",.cst<|.str "tie"]) #[.expr<|.meth "Yard" "fall_of_tie" ⇑0 #[⇑3]] #[.ite (.val<|.cmp .eq ⇑2<|.tup #[.cst<|.str "back",.cst<|.str "bridge"]) #[.expr<|.meth "Yard" "back_of_bridge" ⇑0 #[⇑3]] #[.expr<|.meth "Yard" "back_of_tie" ⇑0 #[⇑3]]]]]]]]}
instance VI:Fn:={ar:=2,sz:=5,body:=#[.ite (.val<|.cmp .notin ⇑1<|.fld ⇑0 "standing") #[.never] .nil,.for (.many [2,3]) (.seq<|.meth "Bridge" "tick" (.idx (.fld ⇑0 "standing") ⇑1) .nil) #[.set (.one 4)<|.call "far_end" #[.idx (.idx (.fld ⇑0 "net_made_of") ↑1) ⇑2,⇑1],.expr<|.bm .append (.fld ⇑0 "letters_on_road") #[.tup #[⇑1,⇑4,⇑2,⇑3]]]]}
instance VY:Fn:={ar:=2,sz:=6,body:=#[.set (.many [2,3,4,5])<|.meth "Yard" "take_off" ⇑0 #[⇑1],.ite (.val<|.cmp .isin ⇑3<|.fld ⇑0 "standing") #[.expr<|.meth "Bridge" "hear" (.idx (.fld ⇑0 "standing") ⇑3) #[⇑4,⇑5]] .nil]}
instance VH:Fn:={ar:=2,sz:=2,body:=#[.ite (.not<|.val<|.chain .le .lt ↑0 ⇑1<|.bi .len #[.fld ⇑0 "letters_on_road"]) #[.never] .nil,.ret<|.bm .popAt (.fld ⇑0 "letters_on_road") #[⇑1]]}
instance VN:Fn:={ar:=2,sz:=2,body:=#[.ite (.val<|.cmp .notin ⇑1<|.fld ⇑0 "standing") #[.never] .nil,.expr<|.bm .dpop (.fld ⇑0 "standing") #[⇑1],.expr<|.meth "Yard" "set_ties_of" ⇑0 #[⇑1]]}
instance VO:Fn:={ar:=2,sz:=2,body:=#[.ite (.or (.not<|.val<|.meth "Yard" "has_tie" ⇑0 #[⇑1])<|.val<|.cmp .isin ⇑1<|.fld ⇑0 "ties_fallen") #[.never] .nil,.setIdx (.fld ⇑0 "ties_fallen") ⇑1<|.cst<|.bl fy,.expr<|.meth "Yard" "set_tie" ⇑0 #[⇑1]]}
instance T8:Fn:={ar:=2,sz:=2,body:=#[.ite (.or (.val<|.cmp .notin ⇑1<|.fld ⇑0 "lives")<|.val<|.cmp .isin ⇑1<|.fld ⇑0 "standing") #[.never] .nil,.augIdx (.fld ⇑0 "lives") ⇑1 .add 1,.setIdx (.fld ⇑0 "standing") ⇑1<|.make "Bridge" #[⇑1,.idx (.fld ⇑0 "lives") ⇑1,.lst .nil,.fld ⇑0 "greatest_age"],.expr<|.meth "Yard" "set_ties_of" ⇑0 #[⇑1]]}
instance T9:Fn:={ar:=2,sz:=2,body:=#[.ite (.val<|.cmp .notin ⇑1<|.fld ⇑0 "ties_fallen") #[.never] .nil,.expr<|.bm .dpop (.fld ⇑0 "ties_fallen") #[⇑1],.expr<|.meth "Yard" "set_tie" ⇑0 #[⇑1]]}
instance VF:Fn:={ar:=2,sz:=5,body:=#[.for (.many [2,3,4]) (.seq<|.call "neighbours" #[.fld ⇑0 "net_made_of",⇑1]) #[.expr<|.meth "Yard" "set_tie" ⇑0 #[⇑2]]]}
instance VE:Fn:={ar:=2,sz:=8,body:=#[.set (.many [2,3,4])<|.idx (.idx (.fld ⇑0 "net_made_of") ↑1) ⇑1,.set (.one 5)<|.and (.cmp .notin ⇑1<|.fld ⇑0 "ties_fallen")<|.and (.cmp .isin ⇑2<|.fld ⇑0 "standing")<|.cmp .isin ⇑3<|.fld ⇑0 "standing",.for (.many [6,7]) (.seq<|.tup #[.tup #[⇑2,⇑3],.tup #[⇑3,⇑2]]) #[.ite (.val ⇑5) #[.expr<|.meth "Bridge" "up" (.idx (.fld ⇑0 "standing") ⇑6) #[⇑1,⇑7,⇑4]] #[.ite (.val<|.cmp .isin ⇑6<|.fld ⇑0 "standing") #[.expr<|.meth "Bridge" "down" (.idx (.fld ⇑0 "standing") ⇑6) #[⇑1]] .nil]]]}
instance Vi:Fn:={ar:=1,sz:=2,body:=#[.ite (.not<|.val<|.bi (.isi ["tuple"]) #[⇑0]) #[.never] .nil,.set (.one 1)<|.slc ⇑0 .none<|.some<|.neg ↑1,.ite (.or (.not<|.val<|.bi .all #[.comp [] 1 (.one 0) (.seq ⇑1) .yes<|.bi (.isi ["str"]) #[⇑0]])<|.val<|.cmp .notin ⇑1<|.glob "DEEDS"<|.tup [(.tup [(.str "tick")]),(.tup [(.str "come")]),(.tup [(.str "lost")]),(.tup [(.str "fall"),(.str "bridge")]),(.tup [(.str "fall"),(.str "tie")]),(.tup [(.str "back"),(.str "bridge")]),(.tup [(.str "back"),(.str "tie")])]) #[.never] .nil,.ite (.not<|.val<|.call "is_whole" #[.idx ⇑0<|.neg ↑1]) #[.never] .nil,.ret<|.tup #[⇑1,.idx ⇑0<|.neg ↑1]]}
instance Vj:Fn:={ar:=2,sz:=2,body:=#[.ite (.val<|.cmp .lt ⇑1<|.bi .len #[⇑0]) #[.ret<|.idx ⇑0 ⇑1] .nil,.ret ↑0]}
instance Va:Fn:={ar:=1,sz:=1,body:=#[.ret<|.lst #[⇑0,.bin .mod ⇑0 ↑2147483587]]}
instance Vb:Fn:={ar:=2,sz:=3,body:=#[.ite (.val<|.cmp .gt (.idx ⇑0 ↑0)<|.bin .pow ↑10 ↑18) #[.set (.one 2)<|.bin .mod (.idx ⇑0 ↑0) ⇑1,.setIdx ⇑0 ↑0<|.bin .fdiv (.idx ⇑0 ↑0) ⇑1,.ret ⇑2] .nil,.setIdx ⇑0 ↑1<|.bin .mod (.bin .add (.bin .add (.bin .mul (.idx ⇑0 ↑1)<|.idx ⇑0 ↑1)<|.bin .mul ↑69621<|.idx ⇑0 ↑1) ↑12345) ↑2147483587,.ret<|.bin .mod (.bin .fdiv (.idx ⇑0 ↑1) ↑8) ⇑1]}
instance Vn:Fn:={ar:=1,sz:=9,body:=#[.set (.one 1)<|.bin .add ↑1<|.call "_law_take" #[⇑0,.idx (.lst #[↑6,↑10])<|.bi .int #[.cmp .eq (.call "_law_take" #[⇑0,↑4]) ↑0]],.set (.one 2)<|.idx (.lst #[↑1,↑3,↑10,↑90])<|.call "_law_take" #[⇑0,↑4],.set (.one 4)<|.comp [0,2] 1 (.one 0) (.range ⇑1) .yes<|.bin .fdiv (.bin .mul ⇑2<|.bin .add (.bin .mul ↑2 ⇑0)<|.call "_law_take" #[⇑1,↑2]) ↑2,.set (.one 4)<|.bi .sortedSet #[⇑4],.set (.one 5)<|.lst .nil,.for (.one 3) (.range2 ↑1<|.bi .len #[⇑4]) #[.ite (.val<|.cmp .gt (.call "_law_take" #[⇑0,↑6]) ↑0) #[.expr<|.bm .append ⇑5 #[.tup #[.idx ⇑4<|.call "_law_take" #[⇑0,⇑3],.idx ⇑4 ⇑3,.bin .add ↑1<|.call "_law_take" #[⇑0,↑3]]]] .nil],.for (.one 3) (.range<|.call "_law_take" #[⇑0,↑9]) #[.set (.one 6)<|.idx ⇑4<|.call "_law_take" #[⇑0,.bi .len #[⇑4]],.set (.one 7)<|.idx ⇑4<|.call "_law_take" #[⇑0,.bi .len #[⇑4]],.set (.one 8)<|.idx (.lst #[↑1,↑1,↑2,.bin .add ↑1<|.call "_law_take" #[⇑0,↑4],.bin .add ↑1<|.call "_law_take" #[⇑0,↑1000]])<|.call "_law_take" #[⇑0,↑5],.ite (.and (.val<|.cmp .ne ⇑6 ⇑7)<|.val<|.cmp .lt (.bi .len #[⇑5]) ↑16) #[.expr<|.bm .append ⇑5 #[.tup #[⇑6,⇑7,⇑8]]] .nil],.ret<|.call "make_net" #[⇑4,.pick ⇑5 .none .none<|.idx (.lst #[↑1,.neg ↑1])<|.call "_law_take" #[⇑0,↑2]]]}
instance Vc:Fn:={ar:=3,sz:=5,body:=#[.set (.one 3)<|.call "_law_take" #[⇑0,.bi .max2 #[↑1,.bi .len #[.idx ⇑1 ↑1]]],.set (.one 4)<|.idx (.idx ⇑1 ↑0)<|.call "_law_take" #[⇑0,.bi .len #[.idx ⇑1 ↑0]],.ite (.and (.val<|.cmp .eq (.call "_law_take" #[⇑0,↑2]) ↑0)<|.val<|.cmp .ne (.idx ⇑1 ↑1)<|.tup .nil) #[.ret<|.tup #[.idx (.lst #[.cst<|.str "fall",.cst<|.str "back"])<|.bi .int #[.cmp .isin ⇑3<|.idx ⇑2 ↑1],.cst<|.str "tie",⇑3]] .nil,.ret<|.tup #[.idx (.lst #[.cst<|.str "fall",.cst<|.str "back"])<|.bi .int #[.cmp .isin ⇑4<|.idx ⇑2 ↑0],.cst<|.str "bridge",⇑4]]}
instance Vk:Fn:={ar:=3,sz:=8,body:=#[.set (.one 3)<|.bi .len #[.meth "Yard" "road" ⇑1 .nil],.set (.one 4)<|.meth "Yard" "down" ⇑1 .nil,.set (.one 5)<|.comp [4] 1 (.one 0) (.seq<|.idx ⇑2 ↑0) (.val<|.cmp .notin ⇑0<|.idx ⇑1 ↑0) ⇑0,.set (.one 6)<|.call "_law_take" #[⇑0,↑14],.ite (.or (.val<|.cmp .eq ⇑6 ↑13)<|.val<|.cmp .eqE ⇑5<|.lst .nil) #[.ret<|.call "_law_turned" #[⇑0,⇑2,⇑4]] .nil,.ite (.or (.val<|.cmp .lt ⇑6 ↑5)<|.val<|.cmp .eq ⇑3 ↑0) #[.ret<|.tup #[.cst<|.str "tick",.idx ⇑5<|.call "_law_take" #[⇑0,.bi .len #[⇑5]]]] .nil,.set (.one 7)<|.idx (.lst #[↑0,↑0,.bin .sub ⇑3 ↑1,.call "_law_take" #[⇑0,⇑3]])<|.call "_law_take" #[⇑0,↑4],.ret<|.idx (.lst #[.tup #[.cst<|.str "come",⇑7],.tup #[.cst<|.str "lost",⇑7]])<|.bi .int #[.cmp .eq ⇑6 ↑12]]}
instance Vu:Fn:={ar:=3,sz:=6,body:=#[.set (.one 3)<|.idx (.meth "Yard" "down" ⇑0 .nil) ↑0,.for (.one 4) (.seq<|.idx ⇑1 ↑0) #[.ite (.val<|.cmp .notin ⇑4 ⇑3) #[.expr<|.meth2 "Carrier" "Yard" "deed" ⇑2 #[.tup #[.cst<|.str "tick",⇑4]]] .nil],.for (.one 5) (.seq<|.meth "Yard" "road" ⇑0 .nil) #[.expr<|.meth2 "Carrier" "Yard" "deed" ⇑2 #[.tup #[.cst<|.str "come",↑0]]]]}
instance Vm:Fn:={ar:=4,sz:=10,body:=#[.set (.one 5)<|.comp [] 2 (.many [0,1]) (.seq<|.meth "Yard" "stamps" ⇑1 .nil) .yes ⇑0,.for (.one 6) (.range<|.bin .add ↑1<|.call "_law_take" #[⇑0,↑5]) #[.set (.one 7)<|.bi .len #[.meth "Carrier" "under_way" ⇑2 .nil],.set (.one 8)<|.call "_law_take" #[⇑0,↑6],.ite (.and (.val<|.cmp .eq ⇑8 ↑0)<|.and (.val<|.cmp .neE ⇑5<|.lst .nil)<|.val<|.cmp .gt (.idx ⇑3<|.cst<|.str "left") ↑0) #[.set (.one 4)<|.idx ⇑5<|.call "_law_take" #[⇑0,.bi .len #[⇑5]],.setIdx ⇑3 (.cst<|.str "left")<|.bin .sub (.idx ⇑3<|.cst<|.str "left") ↑1,.setIdx ⇑3 (.meth "Carrier" "send" ⇑2 #[⇑4]) ⇑4] #[.ite (.val<|.cmp .gt ⇑7 ↑0) #[.set (.one 9)<|.call "_law_take" #[⇑0,⇑7],.expr<|.meth "Carrier" "deed" ⇑2 #[.idx (.lst #[.tup #[.cst<|.str "arrive",⇑9],.tup #[.cst<|.str "drop",⇑9]])<|.bi .int #[.cmp .eq ⇑8 ↑5]]] .nil]]]}
instance Vo:Fn:={ar:=3,sz:=10,body:=#[.for (.one 4) (.seqT 2<|.comp [] 1 (.one 0) (.items ⇑2) (.val<|.cmp .ne ⇑0<|.cst<|.str "left") ⇑0) #[.for (.one 5) (.seq<|.idx ⇑0 ↑0) #[.set (.one 7)<|.comp [4] 2 (.many [0,1]) (.seq<|.meth "Carrier" "came" ⇑1 #[⇑5]) (.val<|.cmp .eq ⇑0 ⇑2) ⇑1,.ite (.or (.val<|.cmp .gt (.bi .len #[⇑7]) ↑1)<|.and (.val<|.cmp .neE ⇑7<|.lst .nil)<|.val<|.cmp .ne (.cmp .is (.idx ⇑7 ↑0)<|.cst .non)<|.cmp .eq ⇑5<|.idx ⇑2 ⇑4) #[.ret<|.cst<|.bl fz] .nil,.ite (.and (.val<|.cmp .neE ⇑7<|.lst .nil)<|.val<|.cmp .isnot (.idx ⇑7 ↑0)<|.cst .non) #[.set (.many [3,6,8])<|.idx (.idx ⇑0 ↑1)<|.idx ⇑7 ↑0,.set (.one 9)<|.comp [4] 1 (.one 0) (.seq<|.meth "Carrier" "came" ⇑1 #[.bin .sub (.bin .add ⇑3 ⇑6) ⇑5]) (.val<|.cmp .eq (.idx ⇑0 ↑0) ⇑1) ⇑0,.ite (.or (.val<|.cmp .notin ⇑5<|.tup #[⇑3,⇑6])<|.val<|.cmp .ne (.bi .len #[⇑9]) ↑1) #[.ret<|.cst<|.bl fz] .nil] .nil]],.ret<|.cst<|.bl fy]}
instance Vw:Fn:={ar:=1,sz:=11,body:=#[.set (.one 1)<|.call "_law_row" #[.call "_law_cell_at" #[⇑0,↑0]],.set (.one 2)<|.call "_law_net" #[⇑1],.set (.one 3)<|.make "Yard" #[⇑2,.bin .add ↑4<|.call "_law_take" #[⇑1,↑57]],.set (.one 4)<|.cmp .eq (.call "_law_take" #[⇑1,↑2]) ↑1,.for (.one 5) (.range<|.bin .mul ↑5<|.bi .int #[⇑4]) #[.expr<|.call "_law_round" #[⇑3,⇑2,⇑3]],.set (.one 6)<|.make "Carrier" #[⇑3],.set (.one 7)<|.dct #[.cst<|.str "left",↑24],.for (.one 5) (.range<|.bin .mul ↑5<|.bi .int #[.not ⇑4]) #[.expr<|.call "_law_round" #[⇑3,⇑2,⇑6]],.for (.one 8) (.seq<|.slc ⇑0 (.some ↑1)<|.some ↑63) #[.set (.one 1)<|.call "_law_row" #[⇑8],.set (.one 9)<|.lst #[.bi .list #[.meth "Yard" "stamps" ⇑3 .nil],.meth "Yard" "down" ⇑3 .nil],.set (.one 10)<|.call "_law_take" #[⇑1,↑4],.ite (.val<|.cmp .eq ⇑10 ↑0) #[.expr<|.call "_law_round" #[⇑3,⇑2,⇑6]] #[.ite (.val<|.cmp .eq ⇑10 ↑1) #[.expr<|.meth "Carrier" "deed" ⇑6 #[.call "_law_drawn" #[⇑1,⇑3,⇑2]]] #[.expr<|.call "_law_frames_move" #[⇑1,⇑3,⇑6,⇑7]]],.ite (.val<|.cmp .ne ⇑9<|.lst #[.bi .list #[.meth "Yard" "stamps" ⇑3 .nil],.meth "Yard" "down" ⇑3 .nil]) #[.set (.one 7)<|.dct #[.cst<|.str "left",.idx ⇑7<|.cst<|.str "left"]] .nil,.ite (.not<|.val<|.call "_law_once" #[⇑2,⇑6,⇑7]) #[.ret<|.cst<|.bl fz] .nil],.ret<|.cst<|.bl fy]}
class Al(P:Pg):Prop where
 c0:P "is_whole" = fw Vy
 c1:P "is_whole_between" = fw Vx
 c2:P "make_net" = fw Ve
 c3:P "are_bridges" = fw VL
 c4:P "is_tie" = fw Vz
 c5:P "lesser_end_first" = fw Vd
 c6:P "neighbours" = fw Vf
 c7:P "far_end" = fw VQ
 c8:P "open_ways" = fw Vh
 c9:P "is_open_way" = fw VS
 c10:P "is_standing" = fw VT
 c11:P "sent_on" = fw Vl
 c12:P "Carrier.__init__" = fw T5
 c13:P "Carrier.send" = fw T6
 c14:P "Carrier.have" = fw T4
 c15:P "Carrier.deed" = fw T1
 c16:P "Carrier.goes_on" = fw T3
 c17:P "Carrier.under_way" = fw T7
 c18:P "Carrier.came" = fw T0
 c19:P "is_line_deed" = fw VR
 c20:P "newer" = fw Vg
 c21:P "best_offer" = fw VP
 c22:P "Bridge.__init__" = fw TK
 c23:P "Bridge.label" = fw TU
 c24:P "Bridge.stamp" = fw TL
 c25:P "Bridge.held" = fw TW
 c26:P "Bridge.up" = fw TV
 c27:P "Bridge.down" = fw TZ
 c28:P "Bridge.hear" = fw TX
 c29:P "Bridge.tick" = fw TR
 c30:P "Bridge.let_grow_older" = fw TD
 c31:P "Bridge.reckon_label" = fw TH
 c32:P "Bridge.take_label" = fw TQ
 c33:P "Bridge.letter_over" = fw TF
 c34:P "Bridge.is_rested_on" = fw TN
 c35:P "Bridge.is_agreed_to" = fw TM
 c36:P "Bridge.end" = fw TY
 c37:P "Yard.__init__" = fw VB
 c38:P "Yard.net" = fw VC
 c39:P "Yard.greatest" = fw VU
 c40:P "Yard.road" = fw VD
 c41:P "Yard.down" = fw VW
 c42:P "Yard.stamps" = fw VG
 c43:P "Yard.bridge" = fw VZ
 c44:P "Yard.ends" = fw VM
 c45:P "Yard.end_at" = fw VJ
 c46:P "Yard.has_tie" = fw VA
 c47:P "Yard.deed" = fw VX
 c48:P "Yard.tick_of" = fw VI
 c49:P "Yard.come" = fw VY
 c50:P "Yard.take_off" = fw VH
 c51:P "Yard.fall_of_bridge" = fw VN
 c52:P "Yard.fall_of_tie" = fw VO
 c53:P "Yard.back_of_bridge" = fw T8
 c54:P "Yard.back_of_tie" = fw T9
 c55:P "Yard.set_ties_of" = fw VF
 c56:P "Yard.set_tie" = fw VE
 c57:P "read_deed" = fw Vi
 c58:P "_law_cell_at" = fw Vj
 c59:P "_law_row" = fw Va
 c60:P "_law_take" = fw Vb
 c61:P "_law_net" = fw Vn
 c62:P "_law_turned" = fw Vc
 c63:P "_law_drawn" = fw Vk
 c64:P "_law_round" = fw Vu
 c65:P "_law_frames_move" = fw Vm
 c66:P "_law_once" = fw Vo
 c67:P "law" = fw Vw
set_option hygiene false in
local macro_rules|`(#check $r:ident $c:ident $d:ident $s:str $a:num $z:num)=>do
 let v:=(Array.range a.getNat).map λi=>Lean.mkIdent (.mkSimple s!"a{i}")
 let e<-(Array.range z.getNat).mapM λi=>if i<a.getNat then `(fw $(v[i]!))else`(fx)
 `(theorem $r [Al P](q:B0 P n $d [$e,*] h Q X):wF P (n+1) $s [$v,*] h Q X:=Zb $c rfl q)
#check XO Al.c0 Vy "is_whole" 1 1
#check X6 Al.c1 Vx "is_whole_between" 3 3
#check ON Al.c2 Ve "make_net" 2 2
#check Kj Al.c3 VL "are_bridges" 1 1
#check B4 Al.c4 Vz "is_tie" 2 2
#check X0 Al.c5 Vd "lesser_end_first" 1 1
#check Na Al.c6 Vf "neighbours" 2 5
#check Bq Al.c7 VQ "far_end" 2 2
#check N5 Al.c8 Vh "open_ways" 1 5
#check Kh Al.c9 VS "is_open_way" 2 2
#check Kt Al.c10 VT "is_standing" 2 2
#check AB Al.c11 Vl "sent_on" 2 8
#check Jq Al.c12 T5 "Carrier.__init__" 2 3
#check JJ Al.c13 T6 "Carrier.send" 2 3
#check JP Al.c14 T4 "Carrier.have" 4 7
#check Xl Al.c15 T1 "Carrier.deed" 2 10
#check Wc Al.c16 T3 "Carrier.goes_on" 5 5
#check XC Al.c17 T7 "Carrier.under_way" 1 1
#check JH Al.c18 T0 "Carrier.came" 2 2
#check Y4 Al.c19 VR "is_line_deed" 1 1
#check Gi Al.c20 Vg "newer" 2 2
#check M5 Al.c21 VP "best_offer" 2 3
#check Ky Al.c22 TK "Bridge.__init__" 5 8
#check Jr Al.c24 TL "Bridge.stamp" 1 1
#check Kv Al.c25 TW "Bridge.held" 2 2
#check Om Al.c26 TV "Bridge.up" 4 4
#check Ko Al.c27 TZ "Bridge.down" 2 2
#check Kn Al.c28 TX "Bridge.hear" 3 4
#check Ku Al.c29 TR "Bridge.tick" 1 2
#check Ys Al.c30 TD "Bridge.let_grow_older" 1 4
#check YU Al.c31 TH "Bridge.reckon_label" 1 8
#check XD Al.c32 TQ "Bridge.take_label" 2 2
#check Xk Al.c33 TF "Bridge.letter_over" 2 8
#check YW Al.c34 TN "Bridge.is_rested_on" 2 3
#check YV Al.c35 TM "Bridge.is_agreed_to" 2 3
#check MN Al.c36 TY "Bridge.end" 2 2
#check NM Al.c37 VB "Yard.__init__" 3 4
#check OZ Al.c38 VC "Yard.net" 1 1
#check N0 Al.c40 VD "Yard.road" 1 1
#check Nw Al.c41 VW "Yard.down" 1 2
#check Km Al.c42 VG "Yard.stamps" 1 1
#check XH Al.c43 VZ "Yard.bridge" 2 2
#check NR Al.c44 VM "Yard.ends" 2 5
#check Kp Al.c45 VJ "Yard.end_at" 3 3
#check Xg Al.c46 VA "Yard.has_tie" 2 2
#check ND Al.c47 VX "Yard.deed" 2 4
#check JM Al.c48 VI "Yard.tick_of" 2 5
#check WO Al.c49 VY "Yard.come" 2 6
#check WT Al.c50 VH "Yard.take_off" 2 2
#check YX Al.c51 VN "Yard.fall_of_bridge" 2 2
#check XX Al.c52 VO "Yard.fall_of_tie" 2 2
#check YY Al.c53 T8 "Yard.back_of_bridge" 2 2
#check X4 Al.c54 T9 "Yard.back_of_tie" 2 2
#check XS Al.c55 VF "Yard.set_ties_of" 2 5
#check Kf Al.c56 VE "Yard.set_tie" 2 8
#check Oz Al.c57 Vi "read_deed" 1 2
#check Kr Al.c58 Vj "_law_cell_at" 2 2
#check AT Al.c59 Va "_law_row" 1 1
#check OI Al.c60 Vb "_law_take" 2 3
#check Bz Al.c61 Vn "_law_net" 1 9
#check MZ Al.c62 Vc "_law_turned" 3 5
#check N4 Al.c63 Vk "_law_drawn" 3 8
#check NG Al.c64 Vu "_law_round" 3 6
#check Wl Al.c65 Vm "_law_frames_move" 4 10
#check OK Al.c66 Vo "_law_once" 3 10
#check RY Al.c67 Vw "law" 1 11
local macro_rules|`(#[$x])=>`(.cons $x .nil)|`(#[$x,$y,*])=>`(.cons $x #[$y,*])
local macro_rules | `(tactic| walk_at "ne")=>`(tactic| first | assumption | (apply Ne.symm; assumption) | ((with_reducible apply ne_none'); (· assumption); (· walk_at "look")) | (apply Ne.symm; (with_reducible apply ne_none'); (· assumption); (· walk_at "look")))
local macro_rules | `(tactic| walk_at "look")=>`(tactic| first | assumption | with_reducible exact fB | ((with_reducible apply upd_ne'); (· walk_at "ne"); (· walk_at "look")) | ((with_reducible apply Ext.get); (· assumption); (· walk_at "look")) | ((with_reducible apply ExtB.get); (· assumption); (· walk_at "ne"); (· walk_at "look")))
local macro_rules | `(tactic| walk_at "ar")=>`(tactic| first | decide | lia | assumption | (simp only [Î,Ĳ]; decide))
local macro_rules | `(tactic| walk_at "mul")=>`(tactic| first | exact .inl (.inr<|by lia) | exact .inl (.inl<|by lia) | exact .inr ⟨by decide,by decide⟩)
local macro_rules | `(tactic| walk_at "setl")=>`(tactic| first | (simp only [ŗ,Ε,Τ,Ń,List.foldl_nil,ϵ,Ϸ]; done) | (simp only [ŗ,Ε,Τ,Ń,List.foldl_nil,ϵ,Ϸ]; exact rfl) | exact rfl)
local macro_rules | `(tactic| walk_at "w")=>`(tactic| with_reducible conv=>whnf)
local macro_rules | `(tactic| walk_at "py1")=>do
 let a<-[`dw0,`dw,`b_add,`b_sub,`g_int,`g_bl,`g_ref,`g_tbl,`c_lt,`c_gt,`c_le,`c_eqI,`c_neI,`c_eqS,`c_neS,`c_isN,`c_notN,`ag_add,`ln_scr,`ln_tup,`in_bl,`mn2,`mx2,`sl_scr,`it_tup].toArray.mapM λn=>`(tactic| refine $(Lean.mkIdent n) ?_)
 let c<-[`ln_lst,`tp_lst,`ls_lst,`it_lst,`dc_of].toArray.mapM λn=>`(tactic| ((with_reducible apply $(Lean.mkIdent n)); (· walk_at "look")))
 `(tactic| first
 |(with_reducible first $[| $a:tactic]*)
 |((with_reducible apply Rn);(· exact rfl))
 |((with_reducible apply Qx);(· walk_at "setl"))|((with_reducible apply Pz);(· (simp![bindL,ϵ,Ϸ];exact rfl)))|((with_reducible apply b_mul);(· walk_at "mul"))|((with_reducible apply b_fdiv);(· walk_at "ar"))|((with_reducible apply b_mod);(· walk_at "ar"))|((with_reducible apply Ql);(· walk_at "ar");(· simp![Int.reduceToNat,Int.reducePow];exact rfl))|((with_reducible apply Qa);(· walk_at "ar"))
 |((with_reducible apply fI);(· exact rfl))|((with_reducible apply ZZ);(· walk_at "look");(· exact rfl))
 |((with_reducible apply Lk);(· walk_at "look");(· exact rfl))|((with_reducible apply Yo);(· walk_at "look");(· walk_at "ar"))|((with_reducible apply PR);(· walk_at "look");(· exact rfl))|((with_reducible apply P1);(· walk_at "look");(· exact rfl))
 |((with_reducible apply QP);(· exact rfl))|((with_reducible apply gJ);(· decide))
 | ((with_reducible apply LL);(· first | exact .inl rfl | exact .inr (.inl rfl) | simp);(· walk_at "look")) | ((with_reducible apply PL);(· first | exact rfl | simp);(· walk_at "look")) | ((with_reducible apply ZD);(· walk_at "look");(· walk_at "ar")) | (first $[| $c:tactic]*))
local macro_rules | `(tactic| fail)=>`(tactic| ((repeat walk_at "py1"); walk_at "w"))
local macro_rules | `(tactic| walk_at "p")=>`(tactic| ((repeat first | walk_at "py1" | refine gK rfl ?_ | refine gL rfl ?_); walk_at "w"))
local macro_rules | `(tactic| exists $e)=>`(tactic| (fail; refine $e ?_))
local macro_rules | `(tactic| refine' $e)=>`(tactic| (fail; refine $e))
section
variable {α:Type}(val:α->Val)
abbrev Zg(kvs:List<|Int×α):List<|Val×Val:=kvs.map λp=>(.int p.1,val p.2)
abbrev Zo(kvs:List<|Int×α)(k:Int)(v:α):List<|Int×α:=if(kvs.lookup k).isSome then kvs.map (λp=>if p.1=k then(k,v)else p)else kvs++[(k,v)]
abbrev Zs(kvs:List<|Int×α)(k:Int):List<|Int×α:=kvs.filter λp=>ik (p.1≠k)
variable {val}
def WX(a b:Int):(Val.int a==Val.int b)=ik (a=b):=by
 by_cases e:a=b
 .subst e;simp
 .rw[ie e];exact beq_eq_false_iff_ne.mpr λz=>e (by injection z)
def ZO(kvs:List<|Int×α)(k:Int):gf (Zg val kvs) (.int k)=(kvs.lookup k).map val:=by
 induction kvs with
 |nil=>rfl
 |cons p r ih =>
  unfold gf Zg at ih ⊢;rw[Í,č,ñ,WX];by_cases e:p.1=k
  .have:(k==p.1)=fy:=by simp[e]
   simp[e]
  .have h2:(k==p.1)=fz:=by simpa using λz=>e z.symm
   rw[ie e,h2];exact ih
def YF(kvs:List<|Int×α)(k:Int):gg (Zg val kvs) (.int k)=(kvs.lookup k).isSome:=by
 induction kvs with
 |nil=>rfl
 |cons p r ih =>
  unfold gg Zg at ih ⊢;rw[Í,Ġ,ñ,WX];by_cases e:p.1=k
  .simp[e]
  .have h2:(k==p.1)=fz:=by simpa using λz=>e z.symm
   rw[ie e,h2];exact ih
def Z5(kvs:List<|Int×α)(k:Int)(v:α):gh (Zg val kvs) (.int k) (val v)=Zg val (Zo kvs k v):=by
 unfold gh Zo;rw[YF];split
 .unfold Zg;rw[ë,ë];refine Ħ λp _=>?_;simp![b7,WX];by_cases e:p.1=k
  .simp[e]
  .simp[e]
 .unfold Zg;rw[Õ];rfl
def Wd(kvs:List<|Int×α)(k:Int):gj (Zg val kvs) (.int k)=Zg val (Zs kvs k):=by
 unfold gj Zs Zg;induction kvs with
 |nil=>rfl
 |cons p r ih =>rw[Í,Ā,Ā,WX,ih];by_cases e:p.1=k<;>simp[e]
def Wb(ns:List Int):fL (ns.map Val.int)=fw ns:=by
 induction ns with
 |nil=>rfl
 |cons n ns ih=>show(fL<|ns.map Val.int).map _=_;rw[ih];rfl
def Cg(kvs:List<|Int×α):keysOf (Zg val kvs)=fw (kvs.map (·.1)):=by unfold keysOf Zg;rw[ë];exact(congrArg fL (ë (f:=λp:Int×α=>p.1) (g:=Val.int) (l:=kvs)).symm).trans (Wb _)
def Jt(kvs:List<|Int×α):(Zg val kvs).length=kvs.length:=by unfold Zg;rw[Á]
variable {kvs:List (Int×α)}
def Zd(h:kvs.lookup k=fw v):(k,v)∈kvs:=by
 induction kvs with
 |nil=>cases h
 |cons p r ih =>
  rw[ñ]at h;by_cases e:k=p.1
  .have:(k==p.1)=fy:=by simp[e]
   rw[this]at h;cases h;rw[e];exact ó
  .have:(k==p.1)=fz:=⇑e
   rw[this]at h;exact â _<|ih h
def ZN(h:k∈kvs.map (·.1)):∃v,kvs.lookup k=fw v:=by
 induction kvs with
 |nil=>cases h
 |cons p r ih =>
  rw[ñ];by_cases e:k=p.1
  .have:(k==p.1)=fy:=by simp[e]
   rw[this];exact⟨_,rfl⟩
  .have:(k==p.1)=fz:=⇑e
   rw[this];rw[Í,Ç]at h;exact ih<|h.resolve_left e
def Xu(h:kvs.lookup k=fx):k∉kvs.map (·.1):=λm=>by let⟨v,e⟩:=ZN m;rw[h]at e;cases e
def Z6(nd:(kvs.map (·.1)).Nodup)(h:(k,v)∈kvs):kvs.lookup k=fw v:=by
 induction kvs with
 |nil=>cases h
 |cons p r ih =>
  rw[Í,ô]at nd;rw[ñ];rcases Ç.mp h with e|h
  .subst e;simp
  .have:k≠p.1:=λz=>nd.1 (z▸ã (f:=(·.1)) h);have:(k==p.1)=fz:=⇑this
   rw[this];exact ih nd.2 h
def Jx(kvs:List<|Int×α)(k:Int)(v:α):(Zo kvs k v).map (·.1)=if(kvs.lookup k).isSome then kvs.map (·.1)else kvs.map (·.1)++[k]:=by
 unfold Zo;split
 .rw[ë];refine Ħ λp _=>?_;simp![b7];by_cases e:p.1=k<;>simp[e]
 .rw[Õ];rfl
def Xr(v:α)(h:k∉kvs.map (·.1)):Zo kvs k v=kvs++[(k,v)]:=by
 unfold Zo;have:kvs.lookup k=fx:=by
  cases e:kvs.lookup k with
  |none=>rfl
  |some w=>exact ij (ã (f:=(·.1))<|Zd e) h
 rw[this];rfl
def WB(nd:(kvs.map (·.1)).Nodup)(k:Int)(v:α):((Zo kvs k v).map (·.1)).Nodup:=by
 rw[Jx];split
 .exact nd
 .rename_i h;have h:kvs.lookup k=fx:=aq.mp h;rw[ß];refine⟨nd,by simp,λa ha b hb=>?_⟩;rw[Å.mp hb];exact λe=>Xu h<|e▸ha
def Xs(h:p∈Zo kvs k v):p=(k,v)\/p∈kvs:=by
 unfold Zo at h;split at h
 .obtain⟨q,hq,e⟩:=Ñ.mp h;split at e
  .exact .inl e.symm
  .exact .inr<|e▸hq
 .rcases Ò.mp h with h|h
  .exact .inr h
  .exact .inl<|Å.mp h
def N7(kvs:List<|Int×α)(k:Int):(Zs kvs k).Sublist kvs:=Ŏ
def YD(nd:(kvs.map (·.1)).Nodup)(k:Int):((Zs kvs k).map (·.1)).Nodup:=nd.sublist ((N7 kvs k).map _)
def HB(h:p∈Zs kvs k):p.1≠k:=by unfold Zs at h;have:=(ù.mp h).2;simpa using this
end
def Yk:∀{m:Nat}{ns:List Int},ns.Nodup->(∀x∈ns,0<=x/\x<m)->ns.length<=m
 |0,ns,nd,h=>by
  cases ns with
  |nil=>exact Ì _
  |cons x xs=>have:=h x ó;lia
 |m+1,ns,nd,h=>by
  by_cases hm:(m:Int)∈ns
  .have:=Yk (m:=m) (nd.erase (m:Int)) λx hx=>by
    have h1:=(nd.mem_erase_iff).mp hx;have h2:=h x h1.2;have:=h1.1;lia
   rw[bT hm]at this;lia
  .have:=Yk (m:=m) nd λx hx=>by
    have h2:=h x hx;have:x≠(m:Int):=λe=>hm<|e▸hx;lia
   lia
noncomputable abbrev Pi:=Int×Int
noncomputable abbrev pV(p:Pi):Val:=.tup [.int p.1,.int p.2]
abbrev oV:Option Pi->Val
 |none=>.non
 |some p=>pV p
structure L where
 num:Pi
 st:Pi
 root:Int
 cost:Int
 age:Int
 rests:Option Pi
 agrees:Option Pi
noncomputable abbrev L.v(l:L):Val:=.tup [pV l.num,pV l.st,.int l.root,.int l.cost,.int l.age,oV l.rests,oV l.agrees]
noncomputable abbrev BR(t:Int×Int):Val:=.tup [.int t.1,.int t.2]
noncomputable abbrev hdV(t:L×Int):Val:=.tup [t.1.v,.int t.2]
structure Lab where
 root:Int
 cost:Int
 up:Option<|Int×Pi
 deriving DecidableEq
abbrev upV:Option (Int×Pi)->Val
 |none=>.non
 |some p=>.int p.1
abbrev rsV:Option (Int×Pi)->Val
 |none=>.non
 |some p=>pV p.2
noncomputable abbrev Lab.v(l:Lab):Val:=.tup [.int l.root,.int l.cost,upV l.up,rsV l.up]
structure Br where
 number:Int
 life:Int
 most:Int
 ties:List<|Int×(Int×Int)
 held:List<|Int×(L×Int)
 label:Lab
 version:Int
 count:Int
structure fO(h:Hs)(b t d:Ad)(B:Br):Prop where
 ins:h b=fw (.ins "Bridge" [("number",.int B.number),("life",.int B.life),("age_let_go",.int B.most),("ties_by_place",.ref t),("held_by_place",.ref d),("label_now",B.label.v),("version",.int B.version),("ticks_had",.int B.count)])
 ties:h t=fw (.dct<|Zg BR B.ties)
 held:h d=fw (.dct<|Zg hdV B.held)
 ne:t≠d
variable {h:Hs}{b:Ad}{o:Ob}
def Er(ha:h a=fw o)(hb:h b=fw u)(ne:o≠u):a≠b:=λe=>by subst e;rw[ha]at hb;exact ne (æ hb)
def fO.nbt(x:fO h b t d B):b≠t:=Er x.ins x.ties nofun
def fO.nbd(x:fO h b t d B):b≠d:=Er x.ins x.held nofun
structure Ex(S:List Ad)(h g:Hs):Prop where
 get:∀{a:Ad}{o:Ob},a∉S->h a=fw o->g a=fw o
def Ex.refl{S:List Ad}:Ex S h h:=⟨λ_ e=>e⟩
variable {g:Hs}
def Ex.trans{S:List Ad}(e:Ex S h g)(f:Ex S g k):Ex S h k:=⟨λn x=>f.get n<|e.get n x⟩
def Ex.of{S:List Ad}(e:Ext h g):Ex S h g:=⟨λ_ x=>e.get x⟩
variable {w:Ad}
def Ex.upd{S:List Ad}(m:w∈S):Ex S h<|upd h w o:=⟨λ{a _} n x=>by rw[fA λe:a=w=>n<|by rw[e];exact m];exact x⟩
def Ex.sub{S:List Ad}(e:Ex S h g)(m:∀a∈S,a∈T):Ex T h g:=⟨λn x=>e.get (λz=>n<|m _ z) x⟩
variable {p:Ad}
def Ex.none(e:Ex [b] h g)(hb:g b≠fx)(hp:g p=fx):h p=fx:=by
 cases z:h p with
 |none=>rfl
 |some o =>
  by_cases hpb:p=b
  .subst hpb;exact ij hp hb
  .rw[e.get ⇑hpb z]at hp;cases hp
def Ex.ofB{S:List Ad}(e:ExtB w h g)(m:w∈S):Ex S h g:=⟨λn x=>e.get (λz=>n<|z▸m) x⟩
def fO.keep{S:List Ad}(x:fO h b t d B)(e:Ex S h g)(hb:b∉S)(ht:t∉S)(hd:d∉S):fO g b t d B:=⟨e.get hb x.ins,e.get ht x.ties,e.get hd x.held,x.ne⟩
def fO.ext(x:fO h b t d B)(e:Ext h g):fO g b t d B:=⟨e.get x.ins,e.get x.ties,e.get x.held,x.ne⟩
def nw(q:∀p,h p=fx->Q (.ref p) (upd h p o)):new h o Q:=Yh q
abbrev YC(most:Int)(held:List<|Int×(L×Int)):List<|Int×(L×Int):=held.filterMap λp=>if p.2.2+1<most then fw (p.1,(p.2.1,p.2.2+1))else fx
variable {most:Int}
def KN{held:List (Int×(L×Int))}{p:Int×(L×Int)}(h:p∈YC most held):∃a,(p.1,(p.2.1,a))∈held:=by
 let⟨q,hq,e⟩:=Ŗ.mp h;split at e
 .cases e;exact⟨_,hq⟩
 .cases e
def J4(most:Int)(held:List<|Int×(L×Int)):((YC most held).map (·.1)).Sublist (held.map (·.1)):=by
 unfold YC;induction held with
 |nil=>exact Œ _
 |cons p r ih =>
  rw[î];split
  .exact ih.cons _
  .rename_i q e;split at e
   .cases e;exact ih.cons₂ _
   .cases e
def BS(most:Int)(held:List<|Int×(L×Int)):(YC most held).length<=held.length:=Ů _ _
def Z2{α β:Type}{f:α->β}:∀{xs:List α}{i:Nat}{q:α},(xs.map f).Nodup->xs[i]?=fw q->f q∉(xs.take i).map f
 |[],_,_,_,h=>by simp at h
 |x::xs,0,_,_,_=>by simp
 |x::xs,i+1,q,nd,h=>by
  rw[Í,ô]at nd;have h:xs[i]?=fw q:=⇑h
  rw[ϯ,Í,Ç,not_or];exact⟨λe=>nd.1<|e▸ã (ä h),Z2 nd.2 h⟩
variable {α:Type}{xs:List α}{i:Nat}{x:α}
def Zq(h:xs[i]?=fw x):xs.take (i+1)=xs.take i++[x]:=by rw[Ť,h];rfl
def ZL{v:Val}(h:(xs.map f)[i]?=fw v):∃x,xs[i]?=fw x/\v=f x:=by rw[Ú]at h;let⟨x,h1,h2⟩:=Ë.mp h;exact⟨x,h1,h2.symm⟩
variable {kvs:List (Int×α)}
def NH(h:((Zg val kvs).map<|itemOf fz)[i]?=fw v):∃p,kvs[i]?=fw p/\v=.tup [.int p.1,val p.2]:=by let⟨q,h1,rfl⟩:=ZL h;unfold Zg at h1;rw[Ú]at h1;let⟨x,h2,rfl⟩:=Ë.mp h1;exact⟨x,h2,rfl⟩
def IF(kvs:List<|Int×α):((Zg val kvs).map<|itemOf fz).length=kvs.length:=by rw[Á,Jt]
variable {P:Pg}[Al P]{n:Nat}{h:Hs}{w b t d st a f:Ad}{S B:Br}{c:Int}{Q:Q1}{X:XQ}
def ZS(x:fO h b t d B)(k:Q (pV (B.life,B.version)) h):wF P (n+1) "Bridge.stamp" [.ref b] h Q X:=by let⟨hi,ht,hd,ſ⟩:=x;refine Jr ?_;refine' k
abbrev hdO:Option (L×Int)->Val
 |none=>.non
 |some p=>hdV p
def Mx{p:Int}(x:fO h b t d B)(k:Q (hdO<|B.held.lookup p) h):wF P (n+1) "Bridge.held" [.ref b,.int p] h Q X:=by
 let⟨hi,ht,hd,ſ⟩:=x;refine Kv ?_
 exists Uv (v:=.int p) hd rfl
 rw[ZO];cases e:B.held.lookup p with
 |none=>rw[e]at k;exact k
 |some q=>rw[e]at k;exact k
def Fo(x:fO h b t d B)(nd:(B.held.map (·.1)).Nodup)(hl:B.held.length<1000)(k:∀d' g,h d'=fx->fO g b t d' {B with held:=YC B.most B.held}->Ex [b] h g->Q .non g):wF P (n+1) "Bridge.let_grow_older" [.ref b] h Q X:=by
 let⟨hi,ht,hd,ſ⟩:=id x;refine Ys ?_;fail;intro p hp;have npd:=Za hd hp;have npb:=Za hi hp;have npt:=Za ht hp;have nbd:=x.nbd;refine' Zh (λi e g=>Sm2 λu v=>Cj4 (e=[fw<|.ref b,fw<|.ref p,u,v]) (g p=fw (.dct<|Zg hdV<|YC B.most<|B.held.take i)) (g d=fw (.frz<|Zg hdV B.held))<|Ex [d] h g) ⟨fx,fx,rfl,by rw[fA npd.symm];exact fB,fB,?_⟩ ?_ ?_ ?_
 .exact⟨λm e=>by rw[fA λz=>m<|by simp[z],fA<|Za e hp];exact e⟩
 .rintro i e g dB ⟨u,v,rfl,h1,h2,h3⟩;exact h2
 .rintro i v e g hv ⟨u,w,rfl,h1,h2,h3⟩ K hK;let⟨q,hq,rfl⟩:=NH hv;have hi1:=h3.get ⇑nbd hi;let⟨pl,l,a⟩:=q;have e1:YC B.most (B.held.take<|i+1)=YC B.most (B.held.take i)++YC B.most [(pl,(l,a))]:=by
   unfold YC;rw[Zq hq,List.filterMap_append]
  refine' gM (λhc=>?_) (λhc=>?_)
  .refine' Yb (k:=.int pl) h1 ⟨rfl,?_⟩ ?_
   .rw[Jt];have h5:=BS B.most<|B.held.take i;have h6:(B.held.take i).length<=B.held.length:=ϣ _ _;exact Ù (Û h5 h6) (Δ hl<|by decide)
   fail;rw[show Val.tup [l.v,.int<|a+1]=hdV (l,a+1) from rfl,Z5];refine hK _ _ ⟨_,_,rfl,?_,?_,?_⟩
   .rw[fB,e1,Xr]
    .unfold YC;rw[î,hX hc];rfl
    .exact λm=>Z2 nd hq<|(J4 _ _).subset m
   .rw[fA npd];exact h2
   .exact⟨λm e=>by rw[fA<|Za e hp];exact h3.get m e⟩
  .refine' hK _ _ ⟨_,_,rfl,?_,h2,h3⟩;rw[h1,e1];unfold YC;rw[î,hZ hc];simp
 .rintro e g ⟨u,v,rfl,h1,h2,h3⟩;have hi1:=h3.get ⇑nbd hi;rw[IF,ü]at h1;refine⟨h2,?_⟩;refine' k p _ hp ⟨fB,?_,?_,npt⟩ ?_
  .rw[fA x.nbt.symm,fA ſ];exact h3.get ⇑ſ ht
  .rw[fA npb.symm,fA npd.symm];exact h1
  .refine⟨λ{c o} m e=>?_⟩;rw[fA<|by simpa using m];by_cases aT:c=d
   .subst aT;rw[fB,<-e];exact hd.symm
   .rw[fA aT];exact h3.get ⇑aT e
def FK(x:α)(xs:List α):atI (x::xs) 0=fw x:=by unfold atI ixN;rw[hX ↥1,hX<|by simp];rfl
abbrev Wi(r:List Int):Val:=.tup<|r.map .int
def DJ(ĝ:List<|List Int):rowsOf (ĝ.map Wi)=fw ĝ:=by
 induction ĝ with
 |nil=>rfl
 |cons r rs ih =>show(fL<|r.map .int).bind (λns=>(rowsOf<|rs.map Wi).map (ns :: ·))=_;rw[Wb,ih];rfl
abbrev YE(number:Int)(ĝ:List<|List Int):Option<|List Int:=match ĝ.filter (λr=>ik (r.headD 0<number))with
 |[]=>fx
 |x::r=>fw<|minR x r
abbrev GG:Option (List Int)->Val
 |none=>.non
 |some r=>Wi r
def N6:∀(r:List<|List Int) (x:List Int),minR x r∈x::r
 |[],x=>ó
 |y::r,x=>by
  show minR (if gy y x then y else x) r∈x::y::r;have h:=N6 r (if gy y x then y else x);rcases Ç.mp h with e|h
  .rw[e];split
   .simp
   .simp
  .simp[h]
variable {number:Int}
def JZ(h:YE number ĝ=fw m):m∈ĝ:=by
 unfold YE at h;split at h
 .cases h
 .rename_i x r e;cases h;have:minR x r∈ĝ.filter (λr=>ik (r.headD 0<number)):=by rw[e];exact N6 r x
  exact(ù.mp this).1
variable {l:Ad}
def GO(hl:h l=fw (.lst<|ĝ.map Wi))(h0:∀r∈ĝ,r≠[])(hn:ĝ.length<1000)(k:∀g,Ext h g->Q (GG<|YE number ĝ) g):wF P (n+1) "best_offer" [.int number,.ref l] h Q X:=by
 refine M5 ?_;refine' ⟨by rw[Á];exact Δ hn ↥1,?_⟩;refine Yx (λv=>match v with|.tup (.int i::xs)=>if i<number then fw v else fx|_=>fx) (lsE hl) ?_ ?_
 .intro v hv K hK;let⟨r,hr,rfl⟩:=Ñ.mp hv;cases r with
  |nil=>exact ij rfl<|h0 _ hr
  |cons i xs =>
   have hK:K (if i<number then fw (Wi<|i::xs)else fx) h:=hK;rw[show Wi (i::xs)=.tup (.int i::xs.map .int) from rfl]at hK ⊢
   exists fI (FK _ _)
   refine' gM (λhc=>?_) (λhc=>?_)
   .rw[hX hc]at hK;refine' hK
   .rw[hZ hc]at hK;exact hK
 .refine Yh λp hp=>?_;fail;have e1:(ĝ.map Wi).filterMap (λv=>match v with|.tup (.int i::xs)=>if i<number then fw v else fx|_=>fx)=(ĝ.filter λr=>ik (r.headD 0<number)).map Wi:=by
   clear hl k hn;induction ĝ with
   |nil=>rfl
   |cons r rs ih =>
    have ih:=ih λr hr=>h0 r<|â _ hr;cases r with
    |nil=>exact ij rfl<|h0 _ ó
    |cons i xs =>
     rw[Í,î,Ā];by_cases hc:i<number
     .simp only[Wi,Í,hX hc,List.headD_cons,hc,decide_true,if_true]at ih ⊢;rw[ih]
     .simp only[Wi,Í,hZ hc,List.headD_cons,hc,decide_false,ī,if_false]at ih ⊢;rw[ih]
  rw[e1];have hx:Ext h<|upd h p<|.lst<|(ĝ.filter λr=>ik (r.headD 0<number)).map Wi:=Ext.new hp;cases e2:ĝ.filter λr=>ik (r.headD 0<number)with
  |nil =>rw[e2]at hx;refine Pl fB ?_;have:=k _ hx;unfold YE at this;rw[e2]at this;exact this
  |cons x r =>rw[e2]at hx;refine HD fB (DJ<|x::r) ?_;have:=k _ hx;unfold YE at this;rw[e2]at this;exact this
abbrev KJ(ties:List<|Int×(Int×Int))(p:Int):Int×Int:=(ties.lookup p).getD (0,0)
abbrev Np(ties:List<|Int×(Int×Int))(q:Int×(L×Int)):List Int:=[q.2.1.root,q.2.1.cost+(KJ ties q.1).2,(KJ ties q.1).1,q.1]
abbrev Kk(ties:List<|Int×(Int×Int))(held:List<|Int×(L×Int)):List<|List Int:=held.map<|Np ties
abbrev NI(held:List<|Int×(L×Int))(p:Int):Pi:=((held.lookup p).map (·.1.st)).getD (0,0)
abbrev ZF(B:Br):Lab:=match YE B.number (Kk B.ties B.held)with
 |none=>⟨B.number,0,fx⟩
 |some m=>⟨m.getD 0 0,m.getD 1 0,fw (m.getD 3 0,NI B.held<|m.getD 3 0)⟩
def Eu{p:Int}(h:(ties.lookup p).isSome=fy):ties.lookup p=fw (KJ ties p):=by
 unfold KJ;cases e:ties.lookup p with
 |none=>rw[e]at h;cases h
 |some v=>rfl
def Bb(x:fO h b t d B)(sub:∀q∈B.held,(B.ties.lookup q.1).isSome=fy)(hn:B.held.length<1000)(k:∀g,Ext h g->Q (ZF B).v g):wF P (n+2) "Bridge.reckon_label" [.ref b] h Q X:=by
 let⟨hi,ht,hd,ſ⟩:=id x;refine YU ?_;refine' Yh λp hp=>?_;have npd:=Za hd hp;have npb:=Za hi hp;have npt:=Za ht hp;have nbd:=x.nbd;refine' Zh (λi e g=>Sm4 λu v w z=>Cj4 (e=[fw<|.ref b,fw<|.ref p,u,v,w,z,fx,fx]) (g p=fw (.lst<|(Kk B.ties<|B.held.take i).map Wi)) (g d=fw (.frz<|Zg hdV B.held))<|Ex [d] h g) ⟨fx,fx,fx,fx,rfl,by rw[fA npd.symm];exact fB,fB,?_⟩ ?_ ?_ ?_
 .exact⟨λm e=>by rw[fA λz=>m<|by simp[z],fA<|Za e hp];exact e⟩
 .rintro i e g dB ⟨u,v,w,z,rfl,h1,h2,h3⟩;exact h2
 .rintro i v e g hv ⟨u,v,w,z,rfl,h1,h2,h3⟩ K hK;let⟨q,hq,rfl⟩:=NH hv;have hi1:=h3.get ⇑nbd hi;have ht1:=h3.get ⇑ſ ht;have hs:=Eu<|sub q<|ä hq;let⟨pl,l,a⟩:=q;generalize htt:KJ B.ties pl=tt at hs;let⟨nb,c⟩:=tt;refine' ZB ht1 rfl (by rw[ZO,hs];rfl) ?_;refine' ZD h1 ?_ ?_
  .rw[Á];unfold Kk;rw[Á];exact Ù (ϣ _ _) (Δ hn<|by decide)
  dsimp only;refine' hK _ _ ⟨_,_,_,_,rfl,?_,?_,?_⟩
  .rw[fB,Zq hq];unfold Kk Np;rw[Õ,Õ,Í,htt];rfl
  .rw[fA npd];exact h2
  .exact⟨λm e=>by rw[fA<|Za e hp];exact h3.get m e⟩
 .rintro e g ⟨u,v,w,z,rfl,h1,h2,h3⟩;have hi1:=h3.get ⇑nbd hi;have dB:upd g d (.dct<|Zg hdV B.held) b=_:=upd_ne' nbd hi1;rw[IF,ü]at h1;have h1':upd g d (.dct<|Zg hdV B.held) p=_:=upd_ne' npd.symm h1;have hx:Ext h<|upd g d<|.dct<|Zg hdV B.held:=⟨λ{c o} e=>by
    by_cases aT:c=d
    . subst aT;rw[fB,<-e];exact hd.symm
    . rw[fA aT];exact h3.get ⇑aT e⟩
  have bV:upd g d (.dct<|Zg hdV B.held) d=_:=fB;refine⟨h2,?_⟩;generalize upd g d (.dct<|Zg hdV B.held)=g2 at dB h1' hx bV ⊢;refine' GO h1' ?_ ?_ λg3 h3=>?_
  .intro r hr;unfold Kk at hr;let⟨q,_,rfl⟩:=Ñ.mp hr;unfold Np;simp
  .unfold Kk;rw[Á];exact hn
  have hi3:=h3.get dB;have hd3:=h3.get bV;have kk:=k g3<|hx.trans h3;unfold ZF at kk;fail;cases e:YE B.number (Kk B.ties B.held)with
  |none =>rw[e]at kk;simp![GG];refine gM (λhc=>?_) λhc=>ij trivial hc;refine' kk
  |some m =>rw[e]at kk;have hm:=JZ e;unfold Kk at hm;let⟨q,hq,rfl⟩:=Ñ.mp hm;refine gM (λhc=>(by simp[GG,Wi]at hc)) λhc=>?_;have hlk:∃y,B.held.lookup q.1=fw y:=ZN (ã (f:=(·.1)) hq);let⟨y,hy⟩:=hlk;unfold Np at kk ⊢;simp![GG,Wi,Í,Ř];refine' ZB hd3 rfl (by rw[ZO,hy];rfl) ?_;fail;unfold NI at kk;simp![List.getD_cons_succ,List.getD_cons_zero]at kk;rw[hy]at kk;exact kk
abbrev GQ(l:Lab):D:=.tup [.int l.root,.int l.cost,(match l.up with|none=>.non|some p=>.int p.1),(match l.up with|none=>.non|some p=>.tup [.int p.2.1,.int p.2.2])]
def U2(h:Hs)(l:Lab):dat h deep l.v=fw (GQ l):=by let⟨r,c,u⟩:=l;cases u<;>rfl
def Qt(h:Hs)(l m:Lab):eqV h l.v m.v=fw (ik (l=m)):=by
 unfold eqV;rw[U2,U2];show fw (D.eqv (GQ l)<|GQ m)=_;congr 1;let⟨r,c,u⟩:=l;let⟨r',c',u'⟩:=m;unfold GQ;cases u with
 |none=>cases u' with
  |none=>simp![D.eqv,D.eqvs,ů];by_cases h1:r=r'<;>by_cases h2:c=c'<;>simp[h1,h2]
  |some q=>simp[D.eqv,D.eqvs]
 |some p=>cases u' with
  |none=>simp[D.eqv,D.eqvs]
  |some q =>let⟨p1,p2,p3⟩:=p;let⟨q1,q2,q3⟩:=q;simp![D.eqv,D.eqvs,ů];by_cases h1:r=r'<;>by_cases h2:c=c'<;>by_cases h3:p1=q1<;>by_cases h4:p2=q2<;>by_cases h5:p3=q3<;>simp[h1,h2,h3,h4,h5]
abbrev taken(B:Br)(l:Lab):Br:=if l=B.label then B else {B with label:=l,version:=B.version+1}
variable {u:Val}{KB:Bool->Prop}
def Jp{v:Val}{c:Bool}(e:eqV h v u=fw c)(q:KB (!c)):go (fU h .ne v u) KB:=fH (by show(eqV h v u).map _=_;rw[e];rfl) q
def WK{v:Val}{c:Bool}(e:eqV h v u=fw c)(q:KB c):go (fU h .eq v u) KB:=fH e q
def Fd{l:Lab}(x:fO h b t d B)(k:∀g,fO g b t d (taken B l)->Ex [b] h g->Q .non g):wF P (n+1) "Bridge.take_label" [.ref b,l.v] h Q X:=by
 let⟨hi,ht,hd,ſ⟩:=id x;refine XD ?_
 exists Jp (Qt h l B.label)
 fail;unfold taken at k;refine Op (λhc=>?_) λhc=>?_
 .rw[hZ hc]at k;refine' Yo fB (show(8:Nat)<900 by decide) ?_;refine' k _ ⟨?_,?_,?_,ſ⟩ ?_
  .rw[fE,fB];rfl
  .rw[fA x.nbt.symm,fA x.nbt.symm];exact ht
  .rw[fA x.nbd.symm,fA x.nbd.symm];exact hd
  .exact(Ex.upd<|by simp).trans (Ex.upd<|by simp)
 .rw[hX hc]at k;refine' k h x Ex.refl
def QL(h:Hs)(r:Option Pi)(s:Pi):eqV h (oV r) (pV s)=fw (ik (r=fw s)):=by
 let⟨s1,s2⟩:=s;cases r with
 |none =>show fw (D.eqv .non<|.tup [.int s1,.int s2])=_;simp[D.eqv]
 |some p =>let⟨p1,p2⟩:=p;show fw (D.eqv (.tup [.int p1,.int p2])<|.tup [.int s1,.int s2])=_;congr 1;simp![D.eqv,D.eqvs,ů];by_cases h1:p1=s1<;>by_cases h2:p2=s2<;>simp[h1,h2]
abbrev Xo(B:Br)(p:Int):Bool:=match B.held.lookup p with
 |none=>fz
 |some q=>ik (q.1.rests=fw (B.life,B.version))
def Mb{p:Int}(x:fO h b t d B)(k:Q (.bl<|Xo B p) h):wF P (n+2) "Bridge.is_rested_on" [.ref b,.int p] h Q X:=by
 let⟨hi,ht,hd,ſ⟩:=id x;refine YW ?_
 exists Mx x
 unfold Xo at k;fail;cases e:B.held.lookup p with
 |none =>rw[e]at k;refine Op (λhc=>ij rfl hc) λhc=>?_;exact k
 |some q =>
  rw[e]at k;let⟨l,a⟩:=q;refine Op (λhc=>?_) (λhc=>by simp[hdO]at hc);simp![hdO]
  exists ZS x
  refine WK (QL h _ _) ?_;exact k
abbrev Bn(u:Option<|Int×Pi)(p:Int):Bool:=match u with
 |none=>fz
 |some q=>ik (p=q.1)
abbrev Jj(B:Br):Int:=match B.label.up with
 |none=>0
 |some q=>((B.held.lookup q.1).map (·.2)).getD 0+1
abbrev Zv(B:Br)(p:Int):L where
 num:=(B.life,B.count)
 st:=(B.life,B.version)
 root:=B.label.root
 cost:=B.label.cost
 age:=Jj B
 rests:=if Bn B.label.up p then B.label.up.map (·.2)else fx
 agrees:=if Bn B.label.up p then fx else if Xo B p then fw (NI B.held p)else fx
def Im(h:Hs)(p:Int)(u:Option<|Int×Pi):eqV h (.int p) (upV u)=fw (Bn u p):=by
 cases u with
 |none=>rfl
 |some q =>show fw (D.eqv (.int p)<|.int q.1)=_;rw[WH];rfl
def Fe{p:Int}(x:fO h b t d B)(hu:∀q,B.label.up=fw q->(B.held.lookup q.1).isSome=fy)(k:Q (Zv B p).v h):wF P (n+3) "Bridge.letter_over" [.ref b,.int p] h Q X:=by
 let⟨hi,ht,hd,ſ⟩:=id x;refine Xk ?_;fail;have main:wSs (wF P<|n+2) #[.ite (.val<|.cmp .eq (.var 1)<|.var 4) #[.ret<|.bin .add (.var 7)<|.tup #[.var 5,.cst .non]] .nil,.ite (.val<|.meth "Bridge" "is_rested_on" (.var 0) #[.var 1]) #[.ret<|.bin .add (.var 7)<|.tup #[.cst .non,.idx (.idx (.idx (.fld (.var 0) "held_by_place")<|.var 1)<|.cst<|.int 0)<|.glob "STAMP"<|.int 1]] .nil,.ret<|.bin .add (.var 7)<|.tup #[.cst .non,.cst .non]]
   [fw<|.ref b,fw<|.int p,fw<|.int B.label.root,fw<|.int B.label.cost,fw<|upV B.label.up,fw<|rsV B.label.up,fw<|.int<|Jj B,fw<|.tup [pV (B.life,B.count),pV (B.life,B.version),.int B.label.root,.int B.label.cost,.int<|Jj B]] h (λ_ g=>Q .non g) Q (λ_ _=>False) (λ_ _=>False) λ_ c g=>X c g:=by
  exists WK (Im h p B.label.up)
  refine' gN (λhc=>?_) (λhc=>?_)
  .fail;unfold Zv at k;rw[hc]at k;cases e:B.label.up with
   |none=>rw[e]at hc;cases hc
   |some q=>rw[e]at k;exact k
  .exists Mb x
   fail;unfold Zv at k;rw[hc]at k;refine gN (λhr=>?_) λhr=>?_
   .rw[hr]at k;unfold Xo at hr;cases e:B.held.lookup p with
    |none=>rw[e]at hr;cases hr
    |some q =>let⟨l,a⟩:=q;refine' ZB hd rfl (by rw[ZO,e];rfl) ?_;fail;unfold NI at k;rw[e]at k;exact k
   .rw[hr]at k;refine' k
 cases e:B.label.up with
 |none =>
  have ea:Jj B=0:=by unfold Jj;rw[e]
  rw[e,ea]at main;refine gM (λhc=>?_) λhc=>ij rfl hc
  exists ZS x
  walk_at "w"
  repeat (first|exact main|(walk_at "py1";walk_at "w"))
 |some q =>
  let⟨y,hy⟩:=å.mp<|hu q e;have ea:Jj B=y.2+1:=by unfold Jj;rw[e];dsimp only;rw[hy];rfl
  rw[e,ea]at main;refine gM (λhc=>by cases hc) λhc=>?_;simp![upV];refine' ZB hd rfl (by rw[ZO,hy];rfl) ?_
  exists ZS x
  walk_at "w"
  repeat (first|exact main|(walk_at "py1";walk_at "w"))
variable {q:Int×Pi}
def Gq(hq:(ZF B).up=fw q):(B.held.lookup q.1).isSome=fy:=by
 unfold ZF at hq;split at hq
 .cases hq
 .rename_i m e;have hm:=JZ e;unfold Kk at hm;let⟨y,hy,rfl⟩:=Ñ.mp hm;cases hq;let⟨v,hv⟩:=ZN (ã (f:=(·.1)) hy);show(B.held.lookup y.1).isSome=fy;rw[hv];rfl
abbrev Br.grown(B:Br):Br:={B with held:=YC B.most B.held}
abbrev Br.told(B:Br):Br:=taken B.grown<|ZF B.grown
abbrev Br.ticked(B:Br):Br:={B.told with count:=B.count+1}
abbrev Z3(B:Br):List Val:=(sortI (B.ties.map (·.1))).map λp=>.tup [.int p,(Zv B p).v]
def Z0(B:Br)(l:Lab):(taken B l).held=B.held/\(taken B l).ties=B.ties/\(taken B l).count=B.count/\(taken B l).label=l/\(taken B l).number=B.number/\(taken B l).life=B.life/\(taken B l).most=B.most:=by
 unfold taken;split
 .rename_i e;exact⟨rfl,rfl,rfl,e.symm,rfl,rfl,rfl⟩
 .exact⟨rfl,rfl,rfl,rfl,rfl,rfl,rfl⟩
structure Br.ok(B:Br):Prop where
 nd:(B.held.map (·.1)).Nodup
 sub:∀q∈B.held,(B.ties.lookup q.1).isSome=fy
 nt:(B.ties.map (·.1)).Nodup
 rg:∀q∈B.ties,0<=q.1/\q.1<16
def Br.ok.tlen(o:B.ok):B.ties.length<=16:=by
 have:=Yk (m:=16) o.nt λx hx=>by let⟨q,hq,rfl⟩:=Ñ.mp hx;exact o.rg q hq
 simpa using this
def Br.ok.hlen(o:B.ok):B.held.length<=16:=by
 have:=Yk (m:=16) o.nd λx hx=>by let⟨q,hq,rfl⟩:=Ñ.mp hx;let⟨v,hv⟩:=å.mp<|o.sub q hq;exact o.rg _<|Zd hv
 simpa using this
def Br.ok.grown(o:B.ok):B.grown.ok where
 nd:=o.nd.sublist<|J4 _ _
 sub:=λq hq=>by let⟨a,ha⟩:=KN hq;exact o.sub (q.1,(q.2.1,a)) ha
 nt:=o.nt
 rg:=o.rg
def Br.ok.told(o:B.ok):B.told.ok:=by
 let⟨h1,h2,_⟩:=Z0 B.grown<|ZF B.grown;have g:=o.grown;refine⟨?_,?_,?_,?_⟩
 .show((taken B.grown<|ZF B.grown).held.map (·.1)).Nodup;rw[h1];exact g.nd
 .show ∀q∈(taken B.grown<|ZF B.grown).held,((taken B.grown<|ZF B.grown).ties.lookup q.1).isSome=fy;rw[h1,h2];exact g.sub
 .show((taken B.grown<|ZF B.grown).ties.map (·.1)).Nodup;rw[h2];exact g.nt
 .show ∀q∈(taken B.grown<|ZF B.grown).ties,_;rw[h2];exact g.rg
def Br.ok.ticked(o:B.ok):B.ticked.ok:=⟨o.told.nd,o.told.sub,o.told.nt,o.told.rg⟩
def Fp(x:fO h b t d B)(o:B.ok)(k:∀p d' g,h p=fx->h d'=fx->fO g b t d' B.ticked->g p=fw (.lst<|Z3 B.told)->Ex [b] h g->p≠d'->Q (.ref p) g):wF P (n+4) "Bridge.tick" [.ref b] h Q X:=by
 let⟨hi,ht,hd,ſ⟩:=id x;have hlen:=o.hlen;refine Ku ?_;refine' Fo x o.nd ↥0 λd' g hd' x1 e1=>?_;let⟨hi1,ht1,hd1,hne1⟩:=id x1;have og:=o.grown;have x1':fO g b t d' B.grown:=x1;refine' Bb x1' og.sub (by have:=og.hlen;lia) λg2 e2=>?_;have x2:=x1'.ext e2;refine' Fd x2 λg3 x3 e3=>?_;let⟨hi3,ht3,hd3,hne3⟩:=id x3;let⟨c1,c2,c3,c4,c5,c6,c7⟩:=Z0 B.grown<|ZF B.grown;have hties:B.told.ties=B.ties:=c2;refine' OM ht3 (Cg _) ?_ (Yh λp1 bx=>?_)
 .rw[Á];have:=o.tlen;show B.told.ties.length<64;rw[hties];lia
 refine' ⟨?_,?_⟩
 .rw[Á,sortI,Ş,Á];have:=o.tlen;show B.told.ties.length<lim;rw[hties];exact Ù this ↥1
 have x4:=x3.ext (Ext.new (o:=.lst ((sortI ((taken B.grown<|ZF B.grown).ties.map (·.1))).map Val.int)) bx);have up:∀q,(taken B.grown<|ZF B.grown).label.up=fw q->((taken B.grown<|ZF B.grown).held.lookup q.1).isSome=fy:=λq hq=>by rw[c4]at hq;rw[c1];exact Gq hq
 refine Yx (λv=>match v with|.int i=>fw (.tup [.int i,(Zv B.told i).v])|_=>fx) (lsE fB) ?_ ?_
 .intro v hv K hK;let⟨i,hi,rfl⟩:=Ñ.mp hv;let⟨hi4,ht4,hd4,hne4⟩:=id x4;fail;rw[hX rfl];change wE _ _ [fw<|.int i,fw<|.ref b] _ _ _
  exists Fe x4 up
  refine' hK
 .refine Yh λp hp=>?_;have x5:=x4.ext<|Ext.new (o:=.lst<|Z3 B.told) hp;have e0:((sortI ((taken B.grown<|ZF B.grown).ties.map (·.1))).map Val.int).filterMap (λv=>match v with|.int i=>fw (.tup [.int i,(Zv B.told i).v])|_=>fx)=Z3 B.told:=by
   rw[ϳ];unfold Z3;exact congrFun (List.filterMap_eq_map (f:=λi:Int=>Val.tup [.int i,(Zv B.told i).v])) _
  rw[e0];let⟨hi5,ht5,hd5,hne5⟩:=id x5;fail;have c3':(taken B.grown<|ZF B.grown).count=B.count:=c3;rw[c3'];have eg:Ex [b] h (upd g3 p1 (.lst ((sortI ((taken B.grown<|ZF B.grown).ties.map (·.1))).map Val.int))):=((e1.trans<|.of e2).trans e3).trans<|.of<|Ext.new bx;have hpn:h p=fx:=eg.none (by rw[x4.ins];intro z;cases z) hp;have npb:b≠p:=Za x4.ins hp;refine k p d' _ hpn hd' ⟨fB,?_,?_,x5.ne⟩ ?_ ?_ (Za x4.held hp).symm
  .rw[fA x5.nbt.symm];exact x5.ties
  .rw[fA x5.nbd.symm];exact x5.held
  .rw[fA npb.symm];exact fB
  .exact(eg.trans<|.of<|Ext.new hp).trans (Ex.upd<|by simp)
abbrev Js(S:Br)(p:Int)(l:L):Bool:=match S.held.lookup p with
 |none=>fy
 |some q=>gy [q.1.num.1,q.1.num.2] [l.num.1,l.num.2]
abbrev Z1(S:Br)(p:Int)(l:L):Br:=if(S.ties.lookup p).isSome then(if Js S p l then {S with held:=Zo S.held p (l,l.age)} else S)else S
abbrev D8(S:Br)(p:Int):Br:={S with ties:=Zs S.ties p,held:=Zs S.held p}
abbrev upB(S:Br)(p:Int)(c:Int×Int):Br:=if(S.ties.lookup p).isSome then S else {S with ties:=Zo S.ties p c}
def Ea{k:Int}{v:α}{q:Int}:(kvs.lookup q).isSome=fy->((Zo kvs k v).lookup q).isSome=fy:=λh=>by
 let⟨x,hx⟩:=å.mp h;have hm:q∈kvs.map (·.1):=ã (f:=(·.1))<|Zd hx;have:q∈(Zo kvs k v).map (·.1):=by
  rw[Jx];split
  .exact hm
  .exact Ô _ hm
 let⟨y,hy⟩:=ZN this;rw[hy];rfl
def Br.ok.heard(o:S.ok){p:Int}{l:L}:(Z1 S p l).ok:=by
 unfold Z1;split
 .rename_i h1;split
  .refine⟨WB o.nd _ _,λq hq=>?_,o.nt,o.rg⟩;rcases Xs hq with e|hq
   .rw[e];exact h1
   .exact o.sub q hq
  .exact o
 .exact o
def ZT{k:Int}{q:Int×α}(h:q∈Zs kvs k):q∈kvs:=(N7 kvs k).subset h
def AK{k q:Int}(h:(kvs.lookup q).isSome=fy)(n:q≠k):((Zs kvs k).lookup q).isSome=fy:=by
 let⟨x,hx⟩:=å.mp h;have:q∈(Zs kvs k).map (·.1):=by refine Ñ.mpr ⟨(q,x),?_,rfl⟩;unfold Zs;exact ù.mpr ⟨Zd hx,⇑n⟩
 let⟨y,hy⟩:=ZN this;rw[hy];rfl
def Br.ok.down(o:S.ok)(p:Int):(D8 S p).ok :=
 ⟨YD o.nd _,λq hq=>AK (o.sub q<|ZT hq)<|HB hq,YD o.nt _,λq hq=>o.rg q<|ZT hq⟩
def Br.ok.up(o:S.ok){p:Int}{c:Int×Int}(h0:0<=p)(h1:p<16):(upB S p c).ok:=by
 unfold upB;split
 .exact o
 .refine⟨o.nd,λq hq=>Ea<|o.sub q hq,WB o.nt _ _,λq hq=>?_⟩;rcases Xs hq with e|hq
  .rw[e];exact⟨h0,h1⟩
  .exact o.rg q hq
def He{p:Int}{l:L}(x:fO h b t d B)(o:B.ok)(k:∀g,fO g b t d (Z1 B p l)->Ex [d] h g->Q .non g):wF P (n+2) "Bridge.hear" [.ref b,.int p,l.v] h Q X:=by
 let⟨hi,ht,hd,ſ⟩:=id x;have hlen:=o.hlen;refine Kn ?_
 exists XE ht rfl
 rw[YF];fail;unfold Z1 at k;cases e:(B.ties.lookup p).isSome with
 |false =>rw[e]at k;refine gK rfl ?_;refine' k h x Ex.refl
 |true =>
  rw[e,hX rfl]at k;refine gL rfl ?_
  exists Mx x
  have put:(∀g,fO g b t d {B with held:=Zo B.held p (l,l.age)}->Ex [d] h g->Q .non g)->go (gD h (.ref d) (.int p)<|.tup [l.v,.int l.age]) λg=>Q .non g:=λk=>by refine Yb hd ⟨rfl,by rw[Jt];exact Ù hlen<|by decide⟩ ?_;rw[show Val.tup [l.v,.int l.age]=hdV (l,l.age) from rfl,Z5];exact k _ ⟨by rw[fA x.nbd];exact hi,by rw[fA ſ];exact ht,fB,ſ⟩ (Ex.upd<|by simp)
  fail;cases e2:B.held.lookup p with
  |none =>
   have et:Js B p l=fy:=by unfold Js;rw[e2]
   rw[et,hX rfl]at k;refine gM (λhc=>?_) λhc=>ij rfl hc;refine gK rfl ?_;refine' As (put k) λg q=>by fail;exact q
  |some q =>
   let⟨m,ag⟩:=q;have et:Js B p l=gy [m.num.1,m.num.2] [l.num.1,l.num.2]:=by unfold Js;rw[e2]
   rw[et]at k;refine gM (λhc=>by simp[hdO]at hc) λhc=>?_;simp![hdO]
   exists Gi
   exists LG (Wb [l.num.1,l.num.2]) (Wb [m.num.1,m.num.2])
   refine' gN (λhc=>?_) (λhc=>?_)
   .rw[hX hc]at k;refine' As (put k) λg q=>by fail;exact q
   .rw[hZ<|by rw[hc];decide]at k;refine' k h x Ex.refl
def HW{p:Int}(x:fO h b t d B)(k:∀g,fO g b t d (D8 B p)->Ex [t,d] h g->Q .non g):wF P (n+1) "Bridge.down" [.ref b,.int p] h Q X:=by
 let⟨hi,ht,hd,ſ⟩:=id x;refine Ko ?_
 exists UC ht rfl
 dsimp only;rw[Wd];have dB:upd h t (.dct<|Zg BR<|Zs B.ties p) b=_:=upd_ne' x.nbt hi;have bV:upd h t (.dct<|Zg BR<|Zs B.ties p) d=_:=upd_ne' ſ.symm hd
 exists UC bV rfl
 dsimp only;rw[Wd];refine' k _ ⟨by rw[fA x.nbd];exact dB,by rw[fA ſ];exact fB,fB,ſ⟩ ((Ex.upd<|by simp).trans<|Ex.upd<|by simp)
def Rx{p nb:Int}(x:fO h b t d B)(o:B.ok)(k:∀g,fO g b t d (upB B p (nb,c))->Ex [t] h g->Q .non g):wF P (n+1) "Bridge.up" [.ref b,.int p,.int nb,.int c] h Q X:=by
 let⟨hi,ht,hd,ſ⟩:=id x;have hlen:=o.tlen;refine Om ?_
 exists XE ht rfl
 rw[YF];fail;unfold upB at k;cases e:(B.ties.lookup p).isSome with
 |true =>rw[e,hX rfl]at k;refine gL rfl ?_;refine' k h x Ex.refl
 |false =>rw[e,hZ<|by decide]at k;refine gK rfl ?_;refine' Yb ht ⟨rfl,by rw[Jt];exact Ù hlen<|by decide⟩ ?_;rw[show Val.tup [.int nb,.int c]=BR (nb,c) from rfl,Z5];refine' k _ ⟨by rw[fA x.nbt];exact hi,fB,by rw[fA ſ.symm];exact hd,ſ⟩ (Ex.upd<|by simp)
def To(h:Hs)(s:Pi)(u:Option<|Int×Pi):eqV h (pV s) (rsV u)=fw (ik (u.map (·.2)=fw s)):=by
 let⟨s1,s2⟩:=s;cases u with
 |none =>show fw (D.eqv (.tup [.int s1,.int s2]) .non)=_;simp[D.eqv]
 |some p =>
  let⟨p0,p1,p2⟩:=p;show fw (D.eqv (.tup [.int s1,.int s2])<|.tup [.int p1,.int p2])=_;congr 1;simp![D.eqv,D.eqvs,ů,ř];by_cases h1:s1=p1
  .subst h1;by_cases h2:s2=p2
   .subst h2;simp
   .have h3:¬ p2=s2:=λz=>h2 z.symm;simp[h2,h3]
  .have h3:¬ p1=s1:=λz=>h1 z.symm;simp[h1,h3]
abbrev ME(B:Br)(p:Int):Bool:=match B.held.lookup p with
 |none=>fz
 |some q=>if q.1.agrees=fw (B.life,B.version)then ik (B.label.up.map (·.2)=fw q.1.st)else fz
def Ba{p:Int}(x:fO h b t d B)(k:Q (.bl<|ME B p) h):wF P (n+2) "Bridge.is_agreed_to" [.ref b,.int p] h Q X:=by
 let⟨hi,ht,hd,ſ⟩:=id x;refine YV ?_
 exists Mx x
 unfold ME at k;fail;cases e:B.held.lookup p with
 |none =>rw[e]at k;refine gM (λhc=>?_) λhc=>ij rfl hc;refine gK rfl ?_;refine' k
 |some q =>
  rw[e]at k;let⟨l,a⟩:=q;refine gM (λhc=>by simp[hdO]at hc) λhc=>?_;simp![hdO]
  exists ZS x
  refine Jp (QL h _ _) ?_;refine' Op (λhc=>?_) (λhc=>?_)
  .fail;rw[show(match fw (l,a)with|none=>fz|some q=>if q.1.agrees=fw (B.life,B.version)then ik (B.label.up.map (·.2)=fw q.1.st)else fz)=fz from hZ hc]at k;exact k
  .fail;rw[show(match fw (l,a)with|none=>fz|some q=>if q.1.agrees=fw (B.life,B.version)then ik (B.label.up.map (·.2)=fw q.1.st)else fz)=ik (B.label.up.map (·.2)=fw l.st) from hX hc]at k;refine WK (To h _ _) ?_;exact k
abbrev UB(B:Br)(p:Int):String:=if(B.ties.lookup p).isSome then(if Bn B.label.up p then(if ME B p then "child" else "shut")else if Xo B p then "parent" else "shut")else "down"
def LI{p:Int}(x:fO h b t d B)(k:Q (.str<|UB B p) h):wF P (n+3) "Bridge.end" [.ref b,.int p] h Q X:=by
 let⟨hi,ht,hd,ſ⟩:=id x;refine MN ?_
 exists XE ht rfl
 rw[YF];fail;unfold UB at k;cases e:(B.ties.lookup p).isSome with
 |false =>rw[e]at k;refine gK rfl ?_;refine' k
 |true =>
  rw[e,hX rfl]at k;refine gL rfl ?_
  exists WK (Im h p B.label.up)
  refine' gN (λhc=>?_) (λhc=>?_)
  .rw[hc,hX rfl]at k
   exists Ba x
   refine' gN (λhc=>?_) (λhc=>?_)
   .rw[hc]at k;refine' k
   .rw[hc]at k;refine' k
  .rw[hc,hZ<|by decide]at k
   exists Mb x
   refine' gN (λhc=>?_) (λhc=>?_)
   .rw[hc]at k;refine' k
   .rw[hc]at k;refine' k
def Ze(q:∀p g,h p=fx->Ext h g->g p=fw o->Q (.ref p) g):new h o Q:=Yh λp hp=>q p _ hp (Ext.new hp) fB
variable {r:Int}
def YO(r0:0<=r)(e:xs[r.toNat]?=fw x):atI xs r=fw x:=by have:=(Ó.mp e).1;unfold atI ixN;rw[hX r0,hX<|by lia];exact e
def Ce(r0:0<=r)(r1:r<xs.length):∃x,xs[r.toNat]?=fw x/\x∈xs:=by
 have h:r.toNat<xs.length:=by lia
 exact⟨xs[r.toNat],Ê h,ķ h⟩
def YN(r0:0<=r)(r1:r<xs.length):∃x,atI xs r=fw x/\x∈xs:=by let⟨x,h1,h2⟩:=Ce r0 r1;exact⟨x,YO r0 h1,h2⟩
def Yq:∀ns:List Int,fL (ns.map .int)=fw ns
 |[]=>rfl
 |n::ns=>by rw[Í,fL,Yq ns];rfl
def YJ:∀bs:List Bool,blsOf (bs.map .bl)=fw bs
 |[]=>rfl
 |b::bs=>by rw[Í,blsOf,YJ bs];rfl
def mem_dedup{x:Int}:∀{ns:List Int},x∈dedup ns↔x∈ns
 |[]=>by simp[dedup]
 |n::ns=>by rw[dedup,Ç,ù,mem_dedup,Ç];by_cases h:x=n<;>simp[h]
def Ji:∀(ns:List Int),(dedup ns).length<=ns.length
 |[]=>by simp[dedup]
 |n::ns=>by have:=Ji ns;have:=ľ (λy=>y != n)<|dedup ns;rw[dedup,Î,Î];lia
variable {m:Int}
def Wp(h:(gq 0 m)[i]?=fw v):v=.int i/\(i:Int)<m:=by unfold gq at h;rw[Ú]at h;let⟨k,hk,rfl⟩:=Ë.mp h;let⟨Ϭ,rfl⟩:=Ó.mp hk;rw[ı]at Ϭ;rw[eF];exact⟨by rw[Int.zero_add],by lia⟩
def MO:(gq 0 m).length=m.toNat:=by unfold gq;rw[Á,ı,Int.sub_zero]
abbrev Brs(ns:List Int):Prop:=∀i∈ns,0<=i/\i<1000
noncomputable abbrev Tie:=Int×Int×Int
abbrev trV(t:Tie):Val:=.tup [.int t.1,.int t.2.1,.int t.2.2]
abbrev LOk(ns:List Int)(t:Tie):Prop:=t.1∈ns/\t.2.1∈ns/\t.1<t.2.1/\1<=t.2.2/\t.2.2<=1000
structure f8(bs:List Int)(ts:List Tie):Prop where
 one:1<=bs.length
 ten:bs.length<=10
 rng:Brs bs
 up:bs.Pairwise (· < ·)
 sixteen:ts.length<=16
 tie:∀t∈ts,LOk bs t
abbrev ZG(bs:List Int)(ts:List Tie):Val:=.tup [.tup<|bs.map .int,.tup<|ts.map trV]
variable {ns:List Int}
def mem_sort{i:Int}:i∈sortI ns↔i∈ns:=(Ŭ ns _).mem_iff
def WZ(nd:ns.Nodup):(sortI ns).Pairwise (· < ·):=by have p:=Ŭ ns λa b=>ik (a<=b);have s:(sortI ns).Pairwise λa b=>ik (a<=b)=fy:=bZ (λa b c h1 h2=>by simp at *;lia) (λa b=>by simp;lia) ns;have d:(sortI ns).Nodup:=p.nodup_iff.mpr nd;exact(s.and d).imp λ⟨h1,h2⟩=>by simp at h1;lia
def SI(e:h a=fw (.lst<|ns.map .int))(m:ns.length<64)(q:new h (.lst<|(sortI<|dedup ns).map .int) Q):(biV h .sortedSet [.ref a]).wp h Q:=wp_new (by show biSortedSet h (.ref a)=_;unfold biSortedSet sortOf;simp![e,fQ,ö,Yq];rw[hX m]) q
def OB:∀ns:List Int,(dedup ns).Nodup
 |[]=>ă
 |n::ns=>by rw[dedup,ô];refine⟨λz=>?_,(OB ns).sublist Ŏ⟩;have:=(ù.mp z).2;simp at this
def R7(ns:List Int):(sortI<|dedup ns).Pairwise (· < ·):=WZ (OB ns)
def Ee(ns:List Int):(sortI<|dedup ns).Nodup:=(R7 ns).imp λh=>by lia
def Lv(ns:List Int):(sortI<|dedup ns).length<=ns.length:=by rw[sortI,Ş];exact Ji ns
def LR(h:1<=ns.length):1<=(sortI<|dedup ns).length:=by
 rw[sortI,Ş];cases ns with
 |nil=>exact ij h ↥1
 |cons n ns=>rw[dedup,Î];lia
def sd_mem{i:Int}:i∈sortI (dedup ns)↔i∈ns:=by rw[mem_sort,mem_dedup]
def Cl(ns:List Int)(lo hi:Option Int):cut (ns.map Val.int) lo hi=(cut ns lo hi).map Val.int:=by unfold cut;rw[Á,List.map_take,List.map_drop]
def PN{a b:Int}(h0:0<=a)(h1:a<=b):cut xs (fw a) (fw b)=(xs.drop a.toNat).take (b.toNat - a.toNat):=by
 unfold cut gx;dsimp only;rw[hX h0,hX<|by lia];by_cases h:a.toNat<=xs.length
 .rw[bj h];by_cases h2:b.toNat<=xs.length
  .rw[bj h2]
  .rw[Nat.min_eq_right<|by lia];rw[cq (by rw[ϊ];lia),cq<|by rw[ϊ];lia]
 .rw[Ś (by lia:xs.length<=min a.toNat xs.length),Ś (by lia:xs.length<=a.toNat)];simp
def Nz{d:Nat}:∀ns:List Int,(ns.map Val.int).mapM (dat h d)=fw (ns.map D.int)
 |[]=>rfl
 |n::ns=>by rw[Í,ļ,Nz ns,Í];cases d<;>rfl
def UY{i:Int}:∀ns:List Int,((ns.map D.int).any λe=>D.eqv e<|.int i)=ik (i∈ns)
 |[]=>by simp
 |n::ns=>by
  rw[Í,Ġ,UY ns,WH];by_cases h:n=i
  .simp[h]
  .simp[h,Ne.symm h]
def M0{i:Int}:inL h (.int i) (ns.map .int)=fw (ik (i∈ns)):=by unfold inL;rw[Nz];exact congrArg fw (UY ns)
def W7(x:Ext h g)(e:h p=fx):Ext h<|upd g p o:=⟨λ{a u} z=>by rw[fA<|Za z e];exact x.get z⟩
abbrev far(t:Tie)(b:Int):Int:=if t.1=b then t.2.1 else t.1
abbrev gW(b:Int):Nat->List Tie->List Tie
 |_,[]=>[]
 |k,t::r=>if b=t.1\/b=t.2.1 then((k:Int),far t b,t.2.2)::gW b (k+1) r else gW b (k+1) r
def N3{b:Int}{t:Tie}:∀{l:List Tie}{k:Nat},gW b k (l++[t])=gW b k l++(if b=t.1\/b=t.2.1 then [(((k+l.length:Nat):Int),far t b,t.2.2)]else [])
 |[],k=>by show gW b k [t]=_;unfold gW;split<;>rfl
 |u::l,k=>by
  rw[List.cons_append,gW,gW,N3,Î,show k+1+l.length=k+(l.length+1) by lia];by_cases h:b=u.1\/b=u.2.1
  .rw[hX h,hX h,List.cons_append]
  .rw[hZ h,hZ h]
def Mz:∀{xs:List Val}{k i:Nat}{v:Val},(enumL k xs)[i]?=fw v->∃x,xs[i]?=fw x/\v=.tup [.int ((k+i:Nat):Int),x]
 |[],_,_,_,e=>by simp[enumL]at e
 |x::xs,k,0,v,e=>by have e:fw (Val.tup [.int k,x])=fw v:=e;cases e;exact⟨x,rfl,rfl⟩
 |x::xs,k,i+1,v,e=>by let⟨y,h1,h2⟩:=Mz (xs:=xs) (k:=k+1) (i:=i) (v:=v) (by simpa[enumL]using e);exact⟨y,⇑h1,by rw[h2,show k+1+i=k+(i+1) by lia]⟩
def Kb:∀(xs:List Val) (k:Nat),(enumL k xs).length=xs.length
 |[],_=>rfl
 |_::xs,k=>by simp[enumL,Kb xs<|k+1]
def Nm{i:Int}(q:KB<|ik (i∈ns)):go (fU h .isin (.int i)<|.tup<|ns.map .int) KB:=fH (by show inV h (.int i) (.tup _)=_;unfold inV;exact M0) q
def Ug{i:Int}(q:KB (!ik (i∈ns))):go (fU h .notin (.int i)<|.tup<|ns.map .int) KB:=fH (by show(inV h (.int i)<|.tup _).map _=_;unfold inV;simp![M0];rfl) q
section
variable {bs:List Int}{ts:List Tie}
def Et{t:Tie}{b:Int}(k:Q (.int<|far t b) h):wF P (n+1) "far_end" [trV t,.int b] h Q X:=by
 let⟨x,y,c⟩:=t;unfold trV;unfold far at k;dsimp only at k ⊢;refine Bq ?_;fail;by_cases e:x=b
 .refine gK (ig e) ?_;rw[hX e]at k;refine' k
 .refine gL (ie e) ?_;rw[hZ e]at k;refine' k
def XM{b:Int}(l:ts.length<=16)(k:∀p g,h p=fx->Ext h g->g p=fw (.lst<|(gW b 0 ts).map trV)->Q (.ref p) g):wF P (n+2) "neighbours" [ZG bs ts,.int b] h Q X:=by
 unfold ZG;refine Na ?_;refine' Ze λp g0 hp x0 e0=>?_
 exists fH rfl
 have nl:∀l:List Tie,∀k,(gW b k l).length<=l.length:=by
  intro l;induction l with
  |nil=>intro k;exact Ì _
  |cons t l ih =>intro k;have:=ih<|k+1;unfold gW;split<;>simp![Î]<;>lia
 refine Zh (λi en g=>Sm2 λv3 v4=>Cj3 (en=[fw<|.tup [.tup<|bs.map .int,.tup<|ts.map trV],fw<|.int b,fw<|.ref p,v3,v4]) (Ext h g)<|g p=fw (.lst<|(gW b 0<|ts.take i).map trV)) ⟨_,_,rfl,x0,e0⟩ (λ_ _ _ _ _=>trivial) ?_ ?_
 .rintro i v en g hv ⟨v3,v4,rfl,x,ep⟩ K hK;let⟨y,hy,rfl⟩:=Mz hv;rw[Ú]at hy;let⟨t,ht,rfl⟩:=Ë.mp hy;have hi:i<ts.length:=(Ó.mp ht).1;have hn:gW b 0 (ts.take<|i+1)=gW b 0 (ts.take i)++(if b=t.1\/b=t.2.1 then [((i:Int),far t b,t.2.2)]else []):=by
   rw[Ť,ht];have:=N3 (b:=b) (t:=t) (l:=ts.take i) (k:=0);rw[ď,bj ↥0,Ϛ]at this;exact this
  rw[Ϛ];have et:trV t=.tup [.int t.1,.int t.2.1,.int t.2.2]:=rfl;fail;rw[et];refine gJ (by simp[gx]) ?_;refine Nm (ns:=[t.1,t.2.1]) ?_;refine' gM (λhc=>?_) (λhc=>?_)
  .exists Et (t:=t)
   fail;have hl:=nl (ts.take i) 0;rw[ď]at hl;refine ZD ep (by rw[Á,lim];lia) ?_;refine' hK _ _ ⟨_,_,rfl,?_,?_⟩
   .exact W7 x hp
   .have hc:b=t.1\/b=t.2.1:=⇑hc
    rw[hn,hX hc,Õ];exact fB
  .refine' hK _ _ ⟨_,_,rfl,x,?_⟩;have hc:¬ (b=t.1\/b=t.2.1):=⇑hc
   rw[hn,hZ hc,ï];exact ep
 .rintro en g ⟨v3,v4,rfl,x,ep⟩;rw[Kb,Á,ü]at ep;refine' k p g hp x ep
end
abbrev WL(rs:List Tie):List<|Int×(Int×Int):=rs.map λr=>(r.1,r.2)
def U3(rs:List Tie):(WL rs).map (·.1)=rs.map (·.1):=by unfold WL;rw[ë];rfl
abbrev ZR(own life most:Int)(rs:List Tie):Br:=⟨own,life,most,WL rs,[],⟨own,0,fx⟩,0,0⟩
variable {own:Int}{life:Int}
def Aq(hb:h b=fw (.ins "Bridge" []))(hl:h l=fw (.lst<|rs.map trV))(nd:(rs.map (·.1)).Nodup)(h16:rs.length<=16)(k:∀t d g,h t=fx->h d=fx->fO g b t d (ZR own life most rs)->Ex [b] h g->Q .non g):wF P (n+1) "Bridge.__init__" [.ref b,.int own,.int life,.ref l,.int most] h Q X:=by
 have nlb:b≠l:=Er hb hl nofun;refine Ky ?_;refine' Yo fB (show(1:Nat)<900 by decide) ?_;refine' Yo fB (show(2:Nat)<900 by decide) ?_;fail;intro t ht;rw[fE,fE]at ht ⊢;have ntb:b≠t:=Za fB ht;have nht:h t=fx:=by rw[fA ntb.symm]at ht;exact ht
 have ntl:l≠t:=Za hl nht;refine' Yo (upd_ne' ntb fB) (show(3:Nat)<900 by decide) ?_;fail;have hl1:∀{o1 o2 o3:Ob},upd (upd (upd h b o1) t o2) b o3 l=fw (.lst<|rs.map trV):=λ{_ _ _}=>by rw[fA nlb.symm,fA ntl,fA nlb.symm];exact hl
 refine Zh (λi e g=>Sm3 λu v w=>Cj4 (e=[fw<|.ref b,fw<|.int own,fw<|.int life,fw<|.ref l,fw<|.int most,u,v,w]) (g b=fw (.ins "Bridge" [("number",.int own),("life",.int life),("age_let_go",.int most),("ties_by_place",.ref t)])) (g t=fw (.dct<|Zg BR<|WL<|rs.take i))<|Ex [b] h g) ⟨fx,fx,fx,rfl,fB,by rw[fA ntb.symm];exact fB,?_⟩ ?_ ?_ ?_
 .refine⟨λ{a o} na e=>?_⟩;have nab:a≠b:=⇑na
  rw[fA nab,fA<|Za e nht,fA nab];exact e
 .rintro i e g _ ⟨u,v,w,rfl,h1,h2,h3⟩;exact lsE (h3.get (by simpa using nlb.symm) hl)
 .rintro i v e g hv ⟨u,v,w,rfl,h1,h2,h3⟩ K hK;let⟨r,hp,rfl⟩:=ZL hv;have nk:=Z2 nd hp;let⟨p,nb,c⟩:=r;unfold trV;refine' Yb (k:=.int p) h2 ⟨rfl,?_⟩ ?_
  .rw[Jt];unfold WL;rw[Á];exact Ù (Û (ϣ _ _) h16) ↥1
  rw[show Val.tup [.int nb,.int c]=BR (nb,c) from rfl,Z5];refine' hK _ _ ⟨_,_,_,rfl,by rw[fA ntb];exact h1,?_,?_⟩
  .rw[fB,Xr,Zq hp]
   .unfold WL;rw[Õ];rfl
   .rw[U3];exact nk
  .exact⟨λna e=>by rw[fA<|Za e nht];exact h3.get na e⟩
 .rintro e g ⟨u,v,w,rfl,h1,h2,h3⟩;rw[Á,ü]at h2;fail;intro d hd;have ndb:b≠d:=Za h1 hd;have ndt:t≠d:=Za h2 hd;have nhd:h d=fx:=h3.none (by rw[h1];intro z;cases z) hd;refine' Yo fB (show(5:Nat)<900 by decide) ?_;refine' Yo fB (show(6:Nat)<900 by decide) ?_;refine' Yo fB (show(7:Nat)<900 by decide) ?_;fail;rw[fE,fE,fE];refine k t d _ nht nhd ⟨fB,?_,?_,ndt⟩ ?_
  .rw[fA ntb.symm,fA ndt];exact h2
  .rw[fA ndb.symm];exact fB
  .exact(h3.trans<|.of<|Ext.new hd).trans (Ex.upd<|by simp)
def JV{b:Int}:∀{l:List Tie}{k:Nat},((gW b k l).map (·.1)).Pairwise (· < ·)/\∀r∈gW b k l,(k:Int)<=r.1/\r.1<(k+l.length:Nat)
 |[],k=>⟨by simp[gW],λr hr=>ij hr<|by simp[gW]⟩
 |t::l,k=>by
  let⟨h1,h2⟩:=JV (b:=b) (l:=l) (k:=k+1);unfold gW;split
  .refine⟨?_,λr hr=>?_⟩
   .rw[Í,ej];refine⟨λx hx=>?_,h1⟩;let⟨r,hr,rfl⟩:=Ñ.mp hx;have:=(h2 r hr).1;show(k:Int)<r.1;lia
   .rcases Ç.mp hr with rfl|hr
    .exact⟨Ŧ _,by show(k:Int)<((k+(t::l).length:Nat):Int);rw[Î];lia⟩
    .have:=h2 r hr;rw[Î];lia
  .refine⟨h1,λr hr=>?_⟩;have:=h2 r hr;rw[Î];lia
def Ux{b:Int}:∀{l:List Tie}{k:Nat},(gW b k l).length<=l.length
 |[],k=>Ì _
 |t::l,k=>by have:=Ux (b:=b) (l:=l) (k:=k+1);unfold gW;split<;>simp![Î]<;>lia
structure En where
 num:Int
 b:Ad
 t:Ad
 d:Ad
 B:Br
structure Yd where
 y:Ad
 lv:Ad
 st:Ad
 fl:Ad
 rd:Ad
 bs:List Int
 ts:List Tie
 most:Int
 lives:List<|Int×Int
 es:List En
 fallen:List<|Int×Bool
 road:List<|Int×Int×Int×L
abbrev enA(es:List En):List Ad:=es.flatMap λe=>[e.b,e.t,e.d]
abbrev Yd.adr(Y:Yd):List Ad:=[Y.y,Y.lv,Y.st,Y.fl,Y.rd]++enA Y.es
noncomputable abbrev rfV(a:Ad):Val:=.ref a
noncomputable abbrev rdV(r:Int×Int×Int×L):Val:=.tup [.int r.1,.int r.2.1,.int r.2.2.1,r.2.2.2.v]
abbrev stands(es:List En):List<|Int×Ad:=es.map λe=>(e.num,e.b)
def ZJ(es:List En):(stands es).map (·.1)=es.map (·.num):=by unfold stands;rw[ë];rfl
structure fP(h:Hs)(Y:Yd):Prop where
 ins:h Y.y=fw (.ins "Yard" [("net_made_of",ZG Y.bs Y.ts),("greatest_age",.int Y.most),("lives",.ref Y.lv),("standing",.ref Y.st),("ties_fallen",.ref Y.fl),("letters_on_road",.ref Y.rd)])
 lives:h Y.lv=fw (.dct<|Zg Val.int Y.lives)
 stand:h Y.st=fw (.dct<|Zg rfV<|stands Y.es)
 fallen:h Y.fl=fw (.dct<|Zg Val.bl Y.fallen)
 road:h Y.rd=fw (.lst<|Y.road.map rdV)
 brs:∀e∈Y.es,fO h e.b e.t e.d e.B
 nd:Y.adr.Nodup
 key:(Y.es.map (·.num)).Nodup
variable {es:List En}{e:En}
def WD(h:e∈es):e.b∈enA es/\e.t∈enA es/\e.d∈enA es:=by refine⟨?_,?_,?_⟩<;>exact ĸ.mpr ⟨e,h,by simp⟩
def Wk(es:List En)(e:En):enA (es++[e])=enA es++[e.b,e.t,e.d]:=by unfold enA;rw[ϰ];simp
variable {Y:Yd}
def fP.keep{S:List Ad}(x:fP h Y)(e:Ex S h g)(ds:∀a∈Y.adr,a∉S):fP g Y:=by have m:∀a∈[Y.y,Y.lv,Y.st,Y.fl,Y.rd],a∉S:=λa ha=>ds a<|Ô _ ha;refine⟨e.get (m _<|by simp) x.ins,e.get (m _<|by simp) x.lives,e.get (m _<|by simp) x.stand,e.get (m _<|by simp) x.fallen,e.get (m _<|by simp) x.road,λb hb=>?_,x.nd,x.key⟩;let⟨q1,q2,q3⟩:=WD hb;exact(x.brs b hb).keep e (ds _<|É _ q1) (ds _<|É _ q2) (ds _<|É _ q3)
def fP.ext(x:fP h Y)(e:Ext h g):fP g Y:=x.keep (S:=[]) (.of e) λ_ _=>by simp
def fP.taken(x:fP h Y)(ha:a∈Y.adr):h a≠fx:=by
 rcases Ò.mp ha with ha|ha
 .simp![Ç,Ö,or_false]at ha;rcases ha with rfl|rfl|rfl|rfl|rfl
  .rw[x.ins];simp
  .rw[x.lives];simp
  .rw[x.stand];simp
  .rw[x.fallen];simp
  .rw[x.road];simp
 .obtain⟨e,he,ha⟩:=ĸ.mp ha;have:=x.brs e he;simp![Ç,Ö,or_false]at ha;rcases ha with rfl|rfl|rfl
  .rw[this.ins];simp
  .rw[this.ties];simp
  .rw[this.held];simp
def Yd.sep(nd:Y.adr.Nodup)(ha:a∈[Y.y,Y.lv,Y.st,Y.fl,Y.rd])(hb:b∈enA Y.es):b≠a:=λz=>(ß.mp nd).2.2 a ha b hb z.symm
def Yd.five(nd:Y.adr.Nodup):(Y.y≠Y.lv/\Y.y≠Y.st/\Y.y≠Y.fl/\Y.y≠Y.rd)/\(Y.lv≠Y.st/\Y.lv≠Y.fl/\Y.lv≠Y.rd)/\(Y.st≠Y.fl/\Y.st≠Y.rd)/\Y.fl≠Y.rd:=by have:=(ß.mp nd).1;simp![ô,Ç,Ö,or_false,not_or,not_false_eq_true,ă,and_true]at this;let⟨⟨a1,a2,a3,a4⟩,⟨b1,b2,b3⟩,⟨c1,c2⟩,d1⟩:=this;exact⟨⟨a1,a2,a3,a4⟩,⟨b1,b2,b3⟩,⟨c1,c2⟩,d1⟩
def fO.off(x:fO h e.b e.t e.d e.B)(he:e∈es)(n:∀b∈enA es,b≠a):fO (upd h a o) e.b e.t e.d e.B:=by let⟨q1,q2,q3⟩:=WD he;exact⟨(fA<|n _ q1).trans x.ins,(fA<|n _ q2).trans x.ties,(fA<|n _ q3).trans x.held,x.ne⟩
def fP.setLives(x:fP h Y)(l:List<|Int×Int):fP (upd h Y.lv<|.dct<|Zg Val.int l) {Y with lives:=l}:=by let⟨⟨a1,a2,a3,a4⟩,⟨b1,b2,b3⟩,_,_⟩:=Yd.five x.nd;exact⟨(fA a1).trans x.ins,fB,(fA b1.symm).trans x.stand,(fA b2.symm).trans x.fallen,(fA b3.symm).trans x.road,λe he=>(x.brs e he).off he λb hb=>Yd.sep x.nd (by simp) hb,x.nd,x.key⟩
def fP.setRoad(x:fP h Y)(l:List<|Int×Int×Int×L):fP (upd h Y.rd<|.lst<|l.map rdV) {Y with road:=l}:=by let⟨⟨a1,a2,a3,a4⟩,⟨b1,b2,b3⟩,⟨c1,c2⟩,d1⟩:=Yd.five x.nd;exact⟨(fA a4).trans x.ins,(fA b3).trans x.lives,(fA c2).trans x.stand,(fA d1).trans x.fallen,fB,λe he=>(x.brs e he).off he λb hb=>Yd.sep x.nd (by simp) hb,x.nd,x.key⟩
def fP.stands(x:fP h Y)(hb:fO h e.b e.t e.d e.B)(hn:e.num∉Y.es.map (·.num))(fr:∀a∈[e.b,e.t,e.d],a∉Y.adr):fP (upd h Y.st<|.dct<|Zg rfV<|stands<|Y.es++[e]) {Y with es:=Y.es++[e]}:=by
 let⟨⟨a1,a2,a3,a4⟩,⟨b1,b2,b3⟩,⟨c1,c2⟩,d1⟩:=Yd.five x.nd;have Ź:Y.st∈Y.adr:=Ô _ (by simp);have nb:∀a∈enA (Y.es++[e]),a≠Y.st:=λa ha=>by
  rw[Wk]at ha;rcases Ò.mp ha with ha|ha
  .exact Yd.sep x.nd (by simp) ha
  .exact λz=>fr a ha<|z▸Ź
 refine⟨(fA a2).trans x.ins,(fA b1).trans x.lives,fB,(fA c1.symm).trans x.fallen,(fA c2.symm).trans x.road,λq hq=>?_,?_,?_⟩
 .refine fO.off ?_ hq nb;rcases Ò.mp hq with hq|hq
  .exact x.brs q hq
  .rw[Å.mp hq];exact hb
 .show([Y.y,Y.lv,Y.st,Y.fl,Y.rd]++enA (Y.es++[e])).Nodup;rw[Wk,<-Ć,ß];refine⟨x.nd,?_,λa ha b hb z=>fr b hb<|z▸ha⟩;simp[hb.nbt,hb.nbd,hb.ne]
 .show((Y.es++[e]).map (·.num)).Nodup;rw[Õ,ß];refine⟨x.key,by simp,λa ha b hb=>?_⟩;have:b=e.num:=⇑hb
  rw[this];exact λz=>hn<|z▸ha
def Xx{f cn:String}{K:Hs->Prop}(i:g p=fw (.ins cn fs))(x:Ex [p] h0 g)(hp:h0 p=fx)(ha:g a=fx)(m:fs.length<900)(q:∀g',g' p=fw (.ins cn<|fT fs f<|.ref a)->g' a=fw o->Ex [p] h0 g'->Ex [p] g g'->p≠a->h0 a=fx->K g'):go (gF (upd g a o) (.ref p) f<|.ref a) K:=by
 have n:=Za i ha;have y:Ex [p] g<|upd (upd g a o) p<|.ins cn<|fT fs f<|.ref a:=⟨λ{b u} nb e=>by rw[fA λz=>nb<|by simp[z],fA<|Za e ha];exact e⟩
 refine Yo (upd_ne' n i) m<|q _ fB ((fA n.symm).trans fB) (x.trans y) y n ?_;cases z:h0 a with
 |none=>rfl
 |some u=>rw[x.get (by simpa using n.symm) z]at ha;cases ha
structure YNew(bs:List Int)(ts:List Tie)(most:Int)(Y:Yd):Prop where
 hb:Y.bs=bs
 ht:Y.ts=ts
 hm:Y.most=most
 num:Y.es.map (·.num)=bs
 br:∀e∈Y.es,e.B=ZR e.num 0 most (gW e.num 0 ts)
 fallen:Y.fallen=[]
 road:Y.road=[]
 lives:Y.lives=bs.map λb=>(b,0)
section
variable {bs:List Int}{ts:List Tie}
def B7(no:f8 bs ts)(hp:h p=fx)(k:∀Y g,Y.y=p->fP g Y->YNew bs ts most Y->(∀a∈Y.adr,h a=fx)->Ext h g->Q .non g):wF P (n+3) "Yard.__init__" [.ref p,ZG bs ts,.int most] (upd h p<|.ins "Yard" []) Q X:=by
 have h10:=no.ten;have h16:=no.sixteen;have hbl:(bs.map Val.int).length=bs.length:=Á _;have ndb:bs.Nodup:=no.up.imp λh=>by lia
 refine NM ?_;refine' Yo fB (show(1:Nat)<900 by decide) ?_;rw[fE,fE];have i1:=fB (h:=h) (a:=p) (o:=Ob.ins "Yard"<|fT (fT [] "net_made_of"<|ZG bs ts) "greatest_age"<|.int most);have x1:Ex [p] h<|upd h p<|Ob.ins "Yard"<|fT (fT [] "net_made_of"<|ZG bs ts) "greatest_age"<|.int most:=Ex.upd (by simp);generalize upd h p (Ob.ins "Yard"<|fT (fT [] "net_made_of"<|ZG bs ts) "greatest_age"<|.int most)=g1 at i1 x1 ⊢;fail;intro lv hlv;refine' Xx i1 x1 hp hlv (show(2:Nat)<900 by decide) λg2 i2 lv2 x2 y2 nlv flv=>?_;fail;intro st Ź;refine' Xx i2 x2 hp Ź (show(3:Nat)<900 by decide) λg3 i3 st3 x3 y3 nst fst=>?_;fail;intro fl hfl;refine' Xx i3 x3 hp hfl (show(4:Nat)<900 by decide) λg4 i4 fl4 x4 y4 nfl ffl=>?_;refine' Yh λrd hrd=>?_;refine' Xx i4 x4 hp hrd (show(5:Nat)<900 by decide) λg5 i5 rd5 x5 y5 nrd frd=>?_;have q1:lv≠st:=Za lv2 Ź;have lv3:=y3.get (by simpa using nlv.symm) lv2;have q2:lv≠fl:=Za lv3 hfl;have q3:st≠fl:=Za st3 hfl;have lv4:=y4.get (by simpa using nlv.symm) lv3;have st4:=y4.get (by simpa using nst.symm) st3;have q4:lv≠rd:=Za lv4 hrd;have q5:st≠rd:=Za st4 hrd;have q6:fl≠rd:=Za fl4 hrd;have lv5:=y5.get (by simpa using nlv.symm) lv4;have st5:=y5.get (by simpa using nst.symm) st4;have fl5:=y5.get (by simpa using nfl.symm) fl4;have xe:Ext h g5:=⟨λ{a o} e=>x5.get (by simpa using Za e hp) e⟩
 have Y0:fP g5 ⟨p,lv,st,fl,rd,bs,ts,most,[],[],[],[]⟩:=⟨i5,lv5,st5,fl5,rd5,(λe he=>ij he Ö),by
   show([p,lv,st,fl,rd]++[]).Nodup
   simp[nlv,nst,nfl,nrd,q1,q2,q3,q4,q5,q6],ă⟩
 exists fI (xs:=[.tup<|bs.map .int,.tup<|ts.map trV]) (v:=.tup<|bs.map .int) rfl
 refine' Zh (λi en g=>Sm3 λv3 lvs es=>Cj7 (en=[fw<|.ref p,fw<|ZG bs ts,fw<|.int most,v3]) (fP g ⟨p,lv,st,fl,rd,bs,ts,most,lvs,es,[],[]⟩) (lvs=(bs.take i).map (λb=>(b,0))) (es.map (·.num)=bs.take i) ((∀e∈es,e.B=ZR e.num 0 most (gW e.num 0 ts))) ((∀a∈[p,lv,st,fl,rd]++enA es,h a=fx))<|Ext h g) ⟨_,[],[],rfl,Y0,rfl,rfl,(λe he=>ij he Ö),?_,xe⟩ (λ_ _ _ _ _=>trivial) ?_ ?_
 .intro a ha;simp![enA,List.flatMap_nil,ï,Ç,Ö,or_false]at ha;rcases ha with rfl|rfl|rfl|rfl|rfl<;>assumption
 .rintro i v en g hv ⟨v3,lvs,es,rfl,Y,hlv,hnum,hbr,aV,x⟩ K hK;let⟨b,hb,rfl⟩:=ZL hv;have hi:i<bs.length:=(Ó.mp hb).1;have hnb:b∉es.map (·.num):=by
   rw[hnum];intro m;have:=Z2 (f:=id) (by rw[œ];exact ndb) hb;rw[œ]at this;exact this m
  have hll:lvs.length<=10:=by rw[hlv,Á,ď];lia
  have hkl:b∉lvs.map (·.1):=by rw[hlv,ë,show((λq:Int×Int=>q.1) ∘ λb:Int=>(b,(0:Int)))=id from rfl,œ,<-hnum];exact hnb
  have hesl:es.length<=10:=by rw[<-Á (f:=(·.num)) (as:=es),hnum,ď];lia
  let⟨yi,yl,ys,yf,yr,yb,ynd,yk⟩:=id Y;dsimp only at yi yl ys yf yr yb;refine' Yb (k:=.int b) yl ⟨rfl,by rw[Jt];exact Ù hll<|by decide⟩ ?_;rw[Z5 (val:=Val.int)];have Y1:=Y.setLives<|Zo lvs b 0;have x1:Ext h<|upd g lv<|.dct<|Zg Val.int<|Zo lvs b 0:=⟨λe=>by rw[fA<|Za e flv];exact x.get e⟩
  dsimp only at Y1;generalize upd g lv (.dct<|Zg Val.int<|Zo lvs b 0)=g6 at Y1 x1;let⟨zi,zl,zs,zf,zr,zb,znd,zk⟩:=id Y1;dsimp only at zi zl zs zf zr zb;refine' XM h16 λpn g7 hpn x7 en=>?_;have Y7:=Y1.ext x7;fail;intro q hq;have nr:=JV (b:=b) (l:=ts) (k:=0);have nl:=Ux (b:=b) (l:=ts) (k:=0);have xq:Ext g7<|upd g7 q<|.ins "Bridge" []:=Ext.new hq;have eq:(upd g7 q<|.ins "Bridge" []) q=fw (.ins "Bridge" []):=fB;refine Aq (rs:=gW b 0 ts) eq (xq.get en) (nr.1.imp λz=>by lia) ↥0 λt d g8 ht hd ba x8=>?_;have x78:Ext g7 g8:=⟨λ{a o} e=>x8.get (by simpa using Za e hq)<|xq.get e⟩
  have Y8:=Y7.ext x78;have ht7:g7 t=fx:=by cases z:g7 t with|none=>rfl|some o=>rw[xq.get z]at ht;cases ht
  have hd7:g7 d=fx:=by cases z:g7 d with|none=>rfl|some o=>rw[xq.get z]at hd;cases hd
  refine⟨rfl,?_⟩;let⟨wi,wl,ws,wf,wr,wb,wnd,wk⟩:=id Y8;dsimp only at wi wl ws wf wr wb;refine' Yb (k:=.int b) ws ⟨rfl,by rw[Jt];unfold stands;rw[Á];exact Ù hesl<|by decide⟩ ?_;rw[Z5 (val:=rfV),Xr _<|by rw[ZJ];exact hnb];have Ź:stands es++[(b,q)]=stands (es++[⟨b,q,t,d,ZR b 0 most<|gW b 0 ts⟩]):=by unfold stands;rw[Õ];rfl
  rw[Ź];have fr:∀a∈[q,t,d],g7 a=fx:=λa ha=>by simp![Ç,Ö,or_false]at ha;rcases ha with rfl|rfl|rfl<;>assumption
  have Y9:=Y8.stands (e:=⟨b,q,t,d,ZR b 0 most<|gW b 0 ts⟩) ba hnb λa ha z=>Y7.taken z<|fr a ha;fail;have x9:Ext h g8:=(x1.trans x7).trans x78;refine hK _ _ ⟨_,_,_,rfl,Y9,?_,?_,?_,?_,⟨λe=>by rw[fA<|Za e fst];exact x9.get e⟩⟩
  .show Zo lvs b 0=_;rw[Xr _ hkl,hlv,Zq hb,Õ];rfl
  .rw[Õ,hnum,Ť,hb];rfl
  .intro e he;rcases Ò.mp he with he|he
   .exact hbr e he
   .rw[Å.mp he]
  .intro a ha;rw[Wk,<-Ć]at ha;rcases Ò.mp ha with ha|ha
   .exact aV a ha
   .cases z:h a with
    |none=>rfl
    |some o=>have:=fr a ha;rw[(x1.trans x7).get z]at this;cases this
 .rintro en g ⟨v3,lvs,es,rfl,Y,hlv,hnum,hbr,aV,x⟩;rw[hbl,ü]at hnum hlv;refine' k _ g rfl Y ⟨rfl,rfl,rfl,hnum,hbr,rfl,rfl,hlv⟩ aV x
end
abbrev ZI(ts:List Tie)(p num:Int):Int:=far (ts[p.toNat]?.getD (0,0,0)) num
abbrev Yr(ts:List Tie)(num:Int)(B:Br):List<|Int×Int×Int×L:=(sortI (B.ties.map (·.1))).map λp=>(num,ZI ts p num,p,Zv B p)
def Xp(h:(stands es).lookup num=fw b):∃e pre ĺ,es=pre++e::ĺ/\e.num=num/\e.b=b:=by have:=Zd h;unfold stands at this;let⟨e,he,z⟩:=Ñ.mp this;let⟨pre,ĺ,rfl⟩:=eJ he;injection z with z1 z2;exact⟨e,pre,ĺ,rfl,z1,z2⟩
def YG(pre ĺ:List En)(e:En):enA (pre++e::ĺ)=enA pre++([e.b,e.t,e.d]++enA ĺ):=by unfold enA;rw[ϰ];rfl
variable {ĺ:List En}
def fP.change(x:fP h Y)(he:Y.es=pre++e::ĺ)(ex:Ex [e.b] h g)(hb:fO g e.b t d B)(ft:t=e.t\/h t=fx)(fd:d=e.d\/h d=fx):fP g {Y with es:=pre++⟨e.num,e.b,t,d,B⟩::ĺ}:=by
 let⟨y,lv,st,fl,rd,bs,ts,most,lives,es,fallen,road⟩:=Y;dsimp only at he;subst he;have hm:e∈pre++e::ĺ:=by simp
 have heA:=WD hm;have nb:∀a∈[y,lv,st,fl,rd],a∉[e.b]:=λa ha z=>Yd.sep x.nd ha heA.1 (Å.mp z).symm;have nd0:([y,lv,st,fl,rd]++(enA pre++([e.b,e.t,e.d]++enA ĺ))).Nodup:=by rw[<-YG];exact x.nd
 have key:∀q∈pre++ĺ,fO g q.b q.t q.d q.B:=λq hq=>by
  have hq':q∈pre++e::ĺ:=by
   rcases Ò.mp hq with z|z
   .exact Ô _ z
   .exact É _<|â _ z
  have nq:∀a∈[q.b,q.t,q.d],a≠e.b:=λa ha z=>by
   have n1:=(ß.mp nd0).2.1;rcases Ò.mp hq with hq|hq
   .have ha':a∈enA pre:=ĸ.mpr ⟨q,hq,ha⟩;exact(ß.mp n1).2.2 a ha' e.b (by simp) z
   .have ha':a∈enA ĺ:=ĸ.mpr ⟨q,hq,ha⟩;have n2:=(ß.mp n1).2.1;exact(ß.mp n2).2.2 e.b (by simp) a ha' z.symm
  exact(x.brs q hq').keep ex (by simpa using nq _ (by simp)) (by simpa using nq _ (by simp)) (by simpa using nq _ (by simp))
 have tk:∀a∈[y,lv,st,fl,rd]++(enA pre++([e.b,e.t,e.d]++enA ĺ)),h a≠fx:=λa ha=>x.taken (by show a∈[y,lv,st,fl,rd]++enA (pre++e::ĺ);rw[YG];exact ha);have fr:∀{a c:Ad},(a=c\/h a=fx)->∀z,z∈[y,lv,st,fl,rd]++(enA pre++([e.b,e.t,e.d]++enA ĺ))->z≠c->z≠a:=λf z hz nc e=>by
  subst e;rcases f with f|f
  .exact nc f
  .exact tk z hz f
 refine⟨ex.get (nb _<|by simp) x.ins,ex.get (nb _<|by simp) x.lives,?_,ex.get (nb _<|by simp) x.fallen,ex.get (nb _<|by simp) x.road,λq hq=>?_,?_,?_⟩
 .have:=ex.get (nb st<|by simp) x.stand;dsimp only at this ⊢;rw[this];unfold O.stands;simp
 .dsimp only at hq;rcases Ò.mp hq with z|z
  .exact key q<|Ô _ z
  .rcases Ç.mp z with rfl|z
   .exact hb
   .exact key q<|É _ z
 .show([y,lv,st,fl,rd]++enA (pre++⟨e.num,e.b,t,d,B⟩::ĺ)).Nodup;rw[YG];dsimp only;have n1:=ß.mp nd0;have n2:=ß.mp n1.2.1;have n3:=ß.mp n2.2.1;have e3:e.b≠e.t/\e.b≠e.d/\e.t≠e.d:=by
   have:=n3.1;simp![ô,Ç,Ö,or_false,not_or,ă,and_true,not_false_eq_true]at this;exact⟨this.1.1,this.1.2,this.2⟩
  have out:∀z,z∈[y,lv,st,fl,rd]\/z∈enA pre\/z∈enA ĺ->z∉[e.b,t,d]:=λz hz m=>by
   have hza:z∈[y,lv,st,fl,rd]++(enA pre++([e.b,e.t,e.d]++enA ĺ)):=by
    rcases hz with q|q|q
    .exact Ô _ q
    .exact É _<|Ô _ q
    .exact É _<|É _<|É _ q
   have nz:∀c∈[e.b,e.t,e.d],z≠c:=λc hc w=>by
    rcases hz with q|q|q
    .exact n1.2.2 z q c (É _<|Ô _ hc) w
    .exact n2.2.2 z q c (Ô _ hc) w
    .exact n3.2.2 c hc z q w.symm
   simp![Ç,Ö,or_false]at m;rcases m with m|m|m
   .exact nz e.b (by simp) m
   .exact fr ft z hza (nz e.t<|by simp) m
   .exact fr fd z hza (nz e.d<|by simp) m
  refine ß.mpr ⟨n1.1,ß.mpr ⟨n2.1,ß.mpr ⟨?_,n3.2.1,λa ha b hb z=>out b (.inr<|.inr hb)<|z▸ha⟩,λa ha b hb z=>?_⟩,λa ha b hb z=>?_⟩
  .simp[hb.nbt,hb.nbd,hb.ne]
  .rcases Ò.mp hb with q|q
   .exact out a (.inr<|.inl ha)<|z▸q
   .exact n2.2.2 a ha b (É _ q) z
  .rcases Ò.mp hb with q|q
   .exact n1.2.2 a ha b (Ô _ q) z
   .rcases Ò.mp q with q|q
    .exact out a (.inl ha)<|z▸q
    .exact n1.2.2 a ha b (É _<|É _ q) z
 .have:=x.key;simpa using this
def fP.inner(x:fP h Y)(he:Y.es=pre++e::ĺ)(ex:Ex [e.b,e.t,e.d] h g)(hb:fO g e.b e.t e.d B):fP g {Y with es:=pre ++ {e with B:=B} :: ĺ}:=by
 let⟨y,lv,st,fl,rd,bs,ts,most,lives,es,fallen,road⟩:=Y;dsimp only at he;subst he;have nd0:([y,lv,st,fl,rd]++(enA pre++([e.b,e.t,e.d]++enA ĺ))).Nodup:=by rw[<-YG];exact x.nd
 have n1:=ß.mp nd0;have n2:=ß.mp n1.2.1;have n3:=ß.mp n2.2.1;have nb:∀a∈[y,lv,st,fl,rd],a∉[e.b,e.t,e.d]:=λa ha z=>n1.2.2 a ha a (É _<|Ô _ z) rfl;have key:∀q,q∈pre\/q∈ĺ->fO g q.b q.t q.d q.B:=λq hq=>by
  have hq':q∈pre++e::ĺ:=by
   rcases hq with z|z
   .exact Ô _ z
   .exact É _<|â _ z
  have nq:∀a∈[q.b,q.t,q.d],a∉[e.b,e.t,e.d]:=λa ha z=>by
   rcases hq with hq|hq
   .exact n2.2.2 a (ĸ.mpr ⟨q,hq,ha⟩) a (Ô _ z) rfl
   .exact n3.2.2 a z a (ĸ.mpr ⟨q,hq,ha⟩) rfl
  exact(x.brs q hq').keep ex (nq _<|by simp) (nq _<|by simp) (nq _<|by simp)
 refine⟨ex.get (nb _<|by simp) x.ins,ex.get (nb _<|by simp) x.lives,?_,ex.get (nb _<|by simp) x.fallen,ex.get (nb _<|by simp) x.road,λq hq=>?_,?_,?_⟩
 .have:=ex.get (nb st<|by simp) x.stand;dsimp only at this ⊢;rw[this];unfold O.stands;simp
 .dsimp only at hq;rcases Ò.mp hq with z|z
  .exact key q<|.inl z
  .rcases Ç.mp z with rfl|z
   .exact hb
   .exact key q<|.inr z
 .show([y,lv,st,fl,rd]++enA (pre ++ {e with B:=B} :: ĺ)).Nodup;rw[YG];exact nd0
 .have:=x.key;dsimp only at this ⊢;simpa using this
def Do{xs:List Val}{v:Val}{p:Nat}{K:Val×Hs->Prop}(e1:h a=fw (.lst xs))(e:xs[p]?=fw v)(m:xs.length<=500000)(q:K (v,upd h a<|.lst<|xs.eraseIdx p)):go (bmV h .popAt (.ref a) [.int p]) K:=by
 have hp:p<xs.length:=(Ó.mp e).1;have h1:-(2 ^ 62)<(p:Int)/\(p:Int)<2 ^ 62:=by
  have:(p:Int)<500000:=by lia
  exact⟨Int.lt_of_lt_of_le (by decide:(-(2 ^ 62):Int)<0)<|fq p,Int.lt_trans this<|by decide⟩
 have h2:ixN xs.length (p:Int)=fw p:=by unfold ixN;rw[hX<|fq p,hX ↥0,ç]
 have h3:bmPopAt h [.int p] a xs=fw (v,upd h a<|.lst<|xs.eraseIdx p):=by unfold bmPopAt;dsimp only;rw[hX h1,h2];simp![ö,e,ř]
 exact fH (by show(fQ<|h a).bind (bmPopAt h [.int p] a)=_;rw[lsE e1,ö];exact h3) q
def Mj{α β:Type}(f:α->β):∀(l:List α) (i:Nat),(l.map f).eraseIdx i=(l.eraseIdx i).map f
 |[],_=>by simp
 |_::_,0=>by simp
 |x::l,i+1=>by simp[Mj f l i]
section
variable {Y:Yd}{p:Nat}
variable {r:Int×Int×Int×L}
def XZ(x:fP h Y)(hr:Y.road[p]?=fw r)(hl:Y.road.length<=500000)(k:∀g,fP g {Y with road:=Y.road.eraseIdx p}->Ex [Y.rd] h g->Q (rdV r) g):wF P (n+1) "Yard.take_off" [.ref Y.y,.int p] h Q X:=by have xi:=x.ins;have xr:=x.road;have hp:p<Y.road.length:=(Ó.mp hr).1;have hrl:(Y.road.map rdV).length=Y.road.length:=Á _;refine WT ?_;fail;refine gK (by simp) ?_;fail;refine gL (by rw[hrl];simpa using hp) ?_;refine' Do xr (by rw[Ú,hr];rfl) ↥0 ?_;rw[Mj];exact k _ (x.setRoad _) (Ex.upd<|by simp)
def Fv(x:fP h Y)(hr:Y.road[p]?=fw r)(hl:Y.road.length<=500000)(he:Y.es=pre++e::ĺ)(hg:r.2.1=e.num)(o:e.B.ok)(k:∀g,fP g {Y with es:=pre ++ {e with B:=Z1 e.B r.2.2.1 r.2.2.2} :: ĺ,road:=Y.road.eraseIdx p}->Ex Y.adr h g->Q .non g):wF P (n+3) "Yard.come" [.ref Y.y,.int p] h Q X:=by
 have xi:=x.ins;have hm:e∈Y.es:=by rw[he];simp
 have lk:(stands Y.es).lookup r.2.1=fw e.b:=by rw[hg];exact Z6 (by rw[ZJ];exact x.key)<|Ñ.mpr ⟨e,hm,rfl⟩
 refine WO ?_;refine' XZ x hr hl λg1 y1 x1=>?_;have yi:=y1.ins;have ys:=y1.stand;have ba:=y1.brs e hm;have bi:=ba.ins;dsimp only at yi ys;let⟨rs,rg,rt,rl⟩:=r;dsimp only at lk hg k
 exists Jo ys rfl
 rw[YF,lk];walk_at "p";refine ZB ys rfl (by rw[ZO,lk];rfl) ?_;refine' He ba o λg2 b2 x2=>?_;have y2:=y1.inner (e:=e) he (x2.sub<|by simp) b2;have mA:=WD hm;refine' k g2 y2 ((x1.sub λa ha=>?_).trans<|x2.sub λa ha=>?_)
 .rw[Å.mp ha];exact Ô _ (by simp)
 .rw[Å.mp ha];exact É _ mA.2.2
def DF(x:fP h Y)(hr:Y.road[p]?=fw r)(hl:Y.road.length<=500000)(hg:r.2.1∉Y.es.map (·.num))(k:∀g,fP g {Y with road:=Y.road.eraseIdx p}->Ex Y.adr h g->Q .non g):wF P (n+3) "Yard.come" [.ref Y.y,.int p] h Q X:=by
 have xi:=x.ins;have lk:(stands Y.es).lookup r.2.1=fx:=by
  cases z:(stands Y.es).lookup r.2.1 with
  |none=>rfl
  |some q =>have:=ã (f:=(·.1))<|Zd z;rw[ZJ]at this;exact ij this hg
 refine WO ?_;refine' XZ x hr hl λg1 y1 x1=>?_;have yi:=y1.ins;have ys:=y1.stand;dsimp only at yi ys;let⟨rs,rg,rt,rl⟩:=r;dsimp only at lk hg k
 exists Jo ys rfl
 rw[YF,lk];walk_at "p";exact k g1 y1 (x1.sub λa ha=>by rw[Å.mp ha];exact Ô _<|by simp)
end
abbrev Yp(k:Int)(F:Br->Br)(es:List En):List En:=es.map λe=>if e.num=k then {e with B:=F e.B} else e
def Wm:∀{es:List En},k∉es.map (·.num)->Yp k F es=es
 |[],_=>rfl
 |e::es,h=>by rw[Í,Ç,not_or]at h;unfold Yp;rw[Í,hZ λz=>h.1 z.symm];exact congrArg (e :: ·)<|Wm h.2
variable {F:Br->Br}
def Oa(nd:((pre++e::ĺ).map (·.num)).Nodup):Yp e.num F (pre++e::ĺ)=pre ++ {e with B:=F e.B} :: ĺ:=by rw[Õ,Í,ß,ô]at nd;have h1:Yp e.num F pre=pre:=Wm λz=>nd.2.2 _ z e.num (by simp) rfl;have h2:Yp e.num F ĺ=ĺ:=Wm nd.2.1.1;unfold Yp at h1 h2 ⊢;rw[Õ,Í,h1,h2,hX rfl]
def NW(es:List En):(Yp k F es).map (·.num)=es.map (·.num):=by unfold Yp;rw[ë];refine Ħ λe _=>?_;show(if e.num=k then({e with B:=F e.B}:En)else e).num=e.num;split<;>rfl
def Oq(es:List En):stands (Yp k F es)=stands es:=by unfold Yp stands;rw[ë];refine Ħ λe _=>?_;show((if e.num=k then({e with B:=F e.B}:En)else e).num,(if e.num=k then({e with B:=F e.B}:En)else e).b)=_;split<;>rfl
def Wj{k:Int}{F:Br->Br}:∀es:List En,enA (Yp k F es)=enA es
 |[]=>rfl
 |e::es=>by have:=Wj (k:=k) (F:=F) es;unfold Yp enA at this ⊢;rw[Í,ž,ž,this];split<;>rfl
def NC{k:Int}{q:En}(h:q∈Yp k F es):(q∈es/\q.num≠k)\/∃e∈es,e.num=k/\q={e with B:=F e.B}:=by
 let⟨e,he,rfl⟩:=Ñ.mp h;by_cases z:e.num=k
 .right;exact⟨e,he,z,by rw[hX z]⟩
 .left;rw[hZ z];exact⟨he,z⟩
abbrev tieF(on:Bool)(p:Int)(far c:Int)(B:Br):Br:=if on then upB B p (far,c)else D8 B p
abbrev setT(on:Bool)(p:Int)(t:Tie)(es:List En):List En:=Yp t.2.1 (tieF on p t.1 t.2.2)<|Yp t.1 (tieF on p t.2.1 t.2.2) es
abbrev onT(Y:Yd)(p:Int)(t:Tie):Bool:=!(Y.fallen.lookup p).isSome&&(((stands Y.es).lookup t.1).isSome&&((stands Y.es).lookup t.2.1).isSome)
section
def fP.one(x:fP h Y)(he:e∈Y.es)(ex:Ex [e.b,e.t,e.d] h g)(hb:fO g e.b e.t e.d<|F e.B):fP g {Y with es:=Yp e.num F Y.es}:=by let⟨pre,ĺ,hs⟩:=eJ he;have k:=x.key;rw[hs]at k;rw[hs,Oa k];exact x.inner hs ex hb
end
noncomputable abbrev FN:Ss:=#[.ite (.val<|.var 5) #[.expr<|.meth "Bridge" "up" (.idx (.fld (.var 0) "standing")<|.var 6) #[.var 1,.var 7,.var 4]] #[.ite (.val<|.cmp .isin (.var 6)<|.fld (.var 0) "standing") #[.expr<|.meth "Bridge" "down" (.idx (.fld (.var 0) "standing")<|.var 6) #[.var 1]] .nil]]
section
variable {Y:Yd}
def Nk{p:Nat}{t1 t2:Int}{on:Bool}(x:fP h Y)(hn:t1≠t2)(gd:∀e∈Y.es,e.B.ok)(hon:∀near far:Int,(near=t1/\far=t2\/near=t2/\far=t1)->on=fy->∃b,(stands Y.es).lookup near=fw b)(k:∀g e,fP g {Y with es:=setT on p (t1,t2,c) Y.es}->Ex Y.adr h g->R e g) :
  wFor (λ_=>True) (λv e g K M=>go (bind (.many [6,7]) g v e) λe2=>wSs (wF P<|n+1) FN e2 g K Q M K λ_ c g=>X c g) R [.tup [.int t1,.int t2],.tup [.int t2,.int t1]] [fw<|.ref Y.y,fw<|.int p,fw<|.int t1,fw<|.int t2,fw<|.int c,fw<|.bl on,v6,v7] h:=by
 refine Zh (λi e g=>∃v6 v7 es',e=[fw<|.ref Y.y,fw<|.int p,fw<|.int t1,fw<|.int t2,fw<|.int c,fw<|.bl on,v6,v7]/\fP g {Y with es:=es'}/\Ex Y.adr h g/\(i=0->es'=Y.es)/\(i=1->es'=Yp t1 (tieF on p t2 c) Y.es)/\(i=2->es'=setT on p (t1,t2,c) Y.es)) ⟨_,_,Y.es,rfl,x,Ex.refl,λ_=>rfl,λz=>(by cases z),λz=>(by cases z)⟩ (λ_ _ _ _ _=>trivial) ?_ ?_
 .rintro i v e g hv ⟨u6,u7,es',rfl,y,xg,q0,q1,q2⟩ K hK;obtain⟨near,far,rfl,hnf,Ź,heA,hgd,hnext⟩:∃near far,v=.tup [.int near,.int far]/\(near=t1/\far=t2\/near=t2/\far=t1)/\stands es'=stands Y.es/\enA es'=enA Y.es/\(∀e∈es',e.num=near->e.B.ok)/\∀dZ,dZ=Yp near (tieF on p far c) es'->(i+1=0->dZ=Y.es)/\(i+1=1->dZ=Yp t1 (tieF on p t2 c) Y.es)/\(i+1=2->dZ=setT on p (t1,t2,c) Y.es):=by
   match i,hv with
   |0,hv =>cases hv;have:=q0 rfl;subst this;exact⟨t1,t2,rfl,.inl ⟨rfl,rfl⟩,rfl,rfl,λe he _=>gd e he,λdZ z=>⟨λy=>(by cases y),λ_=>z,λy=>(by cases y)⟩⟩
   |1,hv =>
    cases hv;have:=q1 rfl;subst this;refine⟨t2,t1,rfl,.inr ⟨rfl,rfl⟩,Oq _,Wj _,λe he hz=>?_,λdZ z=>⟨λy=>(by cases y),λy=>(by cases y),λ_=>z⟩⟩;rcases NC he with⟨hm,_⟩|⟨q,hq,hq1,hq2⟩
    .exact gd e hm
    .exact ij (by rw[hq2]at hz;exact hq1.symm.trans hz) hn
   |i+2,hv=>simp at hv
  have yi:=y.ins;have ys:=y.stand;dsimp only at yi ys;have step:∀{e:En}{g':Hs},e∈es'->e.num=near->Ex [e.b,e.t,e.d] g g'->fO g' e.b e.t e.d (tieF on p far c e.B)->∀w6 w7,K [fw<|.ref Y.y,fw<|.int p,fw<|.int t1,fw<|.int t2,fw<|.int c,fw<|.bl on,w6,w7] g':=λ{e g'} he ſ ex hb w6 w7=>by
   have y':=y.one (F:=tieF on p far c) he ex hb;rw[ſ]at y';have mA:=WD he;refine hK _ _ ⟨w6,w7,_,rfl,y',xg.trans<|ex.sub λa ha=>?_,hnext _ rfl⟩;refine É _ ?_;rw[<-heA];simp![Ç,Ö,or_false]at ha;rcases ha with rfl|rfl|rfl
   .exact mA.1
   .exact mA.2.1
   .exact mA.2.2
  fail;cases hob:on with
  |true =>
   let⟨b,lk⟩:=hon near far hnf hob;rw[<-Ź]at lk;let⟨e,pre,ĺ,hs,ſ,hbb⟩:=Xp lk;have hm:e∈es':=by rw[hs];simp
   have ba:=y.brs e hm;have bi:=ba.ins;subst hbb;refine gK rfl ?_;refine' ZB ys rfl (by rw[ZO,lk];rfl) ?_;refine' Rx ba (hgd e hm ſ) λg' b' x'=>?_;fail;rw[<-hob];exact step hm ſ (x'.sub<|by simp) (by unfold tieF;rw[hob];exact b') _ _
  |false =>
   refine gL rfl ?_
   exists Jo ys rfl
   rw[YF];cases hlk:(stands es').lookup near with
   |none =>
    walk_at "p";rw[<-hob];refine hK _ _ ⟨_,_,es',rfl,y,xg,hnext es' (Wm ?_).symm⟩;have:=Xu hlk
    rwa [ZJ]at this
   |some b =>
    let⟨e,pre,ĺ,hs,ſ,hbb⟩:=Xp hlk;have hm:e∈es':=by rw[hs];simp
    have ba:=y.brs e hm;have bi:=ba.ins;subst hbb;walk_at "p";refine ZB ys rfl (by rw[ZO,hlk];rfl) ?_;refine' HW ba λg' b' x'=>?_;fail;rw[<-hob];exact step hm ſ (x'.sub<|by simp) (by unfold tieF;rw[hob];exact b') _ _
 .rintro e g ⟨u6,u7,es',rfl,y,xg,q0,q1,q2⟩;have:=q2 rfl;subst this;exact k _ _ y xg
def WA{p:Nat}{t:Tie}(x:fP h Y)(et:Y.ts[p]?=fw t)(hn:t.1≠t.2.1)(gd:∀e∈Y.es,e.B.ok)(k:∀g,fP g {Y with es:=setT (onT Y p t) p t Y.es}->Ex Y.adr h g->Q .non g):wF P (n+2) "Yard.set_tie" [.ref Y.y,.int p] h Q X:=by
 have xi:=x.ins;have xs:=x.stand;have xf:=x.fallen;let⟨t1,t2,c⟩:=t;dsimp only at hn;have fin:onT Y p (t1,t2,c)=onT Y p (t1,t2,c)->∀near far:Int,(near=t1/\far=t2\/near=t2/\far=t1)->onT Y p (t1,t2,c)=fy->∃b,(stands Y.es).lookup near=fw b:=λ_ near far hv ho=>by
  simp![onT,bAq]at ho;rcases hv with⟨rfl,_⟩|⟨rfl,_⟩
  .exact å.mp ho.2.1
  .exact å.mp ho.2.2
 refine Kf ?_
 exists fI (xs:=[.tup<|Y.bs.map .int,.tup<|Y.ts.map trV]) (v:=.tup<|Y.ts.map trV) rfl
 refine' fI (v:=.tup [.int t1,.int t2,.int c]) (YO ↥0<|by rw[Ú,ç,et];rfl) ?_
 exists XE xf rfl
 rw[YF];obtain⟨on,hon⟩:∃on:Bool,on=onT Y p (t1,t2,c):=⟨_,rfl⟩
 rw[<-hon]at k fin;have fin:=fin rfl;cases e1:(Y.fallen.lookup (p:Int)).isSome with
 |true =>
  have z:fz=on:=by rw[hon];unfold onT;rw[e1];rfl
  walk_at "p";rw[z];exact Nk x hn gd fin λg e y xg=>by fail;exact k g y xg
 |false =>
  walk_at "p";refine Jo xs rfl ?_;rw[YF];cases e2:((stands Y.es).lookup t1).isSome with
  |false =>
   have z:fz=on:=by rw[hon];unfold onT;rw[e1,e2];rfl
   walk_at "p";rw[z];exact Nk x hn gd fin λg e y xg=>by fail;exact k g y xg
  |true =>
   walk_at "p";refine Jo xs rfl ?_;rw[YF];have z:((stands Y.es).lookup t2).isSome=on:=by rw[hon];unfold onT;rw[e1,e2];rfl
   rw[z];refine' Nk x hn gd fin λg e y xg=>by fail;exact k g y xg
end
def Nr{on:Bool}{p far:Int}(o:B.ok)(h0:0<=p)(h1:p<16):(tieF on p far c B).ok:=by
 unfold tieF;split
 .exact o.up h0 h1
 .exact o.down p
def At(gd:∀e∈es,e.B.ok)(hF:∀B,B.ok->(F B).ok):∀e∈Yp k F es,e.B.ok:=λq hq=>by
 rcases NC hq with⟨hm,_⟩|⟨e,he,_,rfl⟩
 .exact gd q hm
 .exact hF _<|gd e he
def Ff{on:Bool}{p:Int}{t:Tie}(gd:∀e∈es,e.B.ok)(h0:0<=p)(h1:p<16):∀e∈setT on p t es,e.B.ok :=
 At (At gd λ_ o=>Nr o h0 h1) λ_ o=>Nr o h0 h1
def CA{on:Bool}{p:Int}{t:Tie}(es:List En):(setT on p t es).map (·.num)=es.map (·.num):=by unfold setT;rw[NW,NW]
def JD{on:Bool}{p:Int}{t:Tie}(es:List En):enA (setT on p t es)=enA es:=by unfold setT;rw[Wj,Wj]
abbrev ZW(Y:Yd)(l:List Tie):Yd:=l.foldl (λY r=>{Y with es:=setT (onT Y r.1<|Y.ts[r.1.toNat]?.getD (0,0,0)) r.1 (Y.ts[r.1.toNat]?.getD (0,0,0)) Y.es}) Y
def Kd(Y:Yd)(l:List Tie)(r:Tie):ZW Y (l++[r])={ZW Y l with es:=setT (onT (ZW Y l) r.1<|(ZW Y l).ts[r.1.toNat]?.getD (0,0,0)) r.1 ((ZW Y l).ts[r.1.toNat]?.getD (0,0,0)) (ZW Y l).es}:=by unfold ZW;rw[fu];rfl
structure Same(Y Z:Yd):Prop where
 y:Z.y=Y.y
 lv:Z.lv=Y.lv
 st:Z.st=Y.st
 fl:Z.fl=Y.fl
 rd:Z.rd=Y.rd
 bs:Z.bs=Y.bs
 ts:Z.ts=Y.ts
 most:Z.most=Y.most
 lives:Z.lives=Y.lives
 fallen:Z.fallen=Y.fallen
 road:Z.road=Y.road
 num:Z.es.map (·.num)=Y.es.map (·.num)
 enA:enA Z.es=enA Y.es
def Same.adr(s:Same Y Z):Z.adr=Y.adr:=by unfold Yd.adr;rw[s.y,s.lv,s.st,s.fl,s.rd,s.enA]
def Same.refl:Same Y Y:=⟨rfl,rfl,rfl,rfl,rfl,rfl,rfl,rfl,rfl,rfl,rfl,rfl,rfl⟩
def Same.trans(a:Same Y Z)(b:Same Z W):Same Y W:=⟨b.y.trans a.y,b.lv.trans a.lv,b.st.trans a.st,b.fl.trans a.fl,b.rd.trans a.rd,b.bs.trans a.bs,b.ts.trans a.ts,b.most.trans a.most,b.lives.trans a.lives,b.fallen.trans a.fallen,b.road.trans a.road,b.num.trans a.num,b.enA.trans a.enA⟩
def Same.setT{on:Bool}{p:Int}{t:Tie}:Same Y {Y with es:=setT on p t Y.es}:=⟨rfl,rfl,rfl,rfl,rfl,rfl,rfl,rfl,rfl,rfl,rfl,CA _,JD _⟩
def YT:∀(l:List Tie) (Y:Yd),Same Y (ZW Y l)
 |[],_=>.refl
 |_::l,_=>Same.setT.trans<|YT l _
section
def JY{b:Int}(no:f8 Y.bs Y.ts)(x:fP h Y)(gd:∀e∈Y.es,e.B.ok)(k:∀g,fP g (ZW Y<|gW b 0 Y.ts)->(∀e∈(ZW Y<|gW b 0 Y.ts).es,e.B.ok)->Ex Y.adr h g->Q .non g):wF P (n+3) "Yard.set_ties_of" [.ref Y.y,.int b] h Q X:=by
 have xi:=x.ins;have h16:=no.sixteen;refine XS ?_;refine' XM no.sixteen λp g0 hp x0 e0=>?_;fail;have x':=x.ext x0;have npA:p∉Y.adr:=λz=>x.taken z hp;refine Zh (λi e g=>Sm3 λv2 v3 v4=>Cj4 (e=[fw<|.ref Y.y,fw<|.int b,v2,v3,v4]) (fP g<|ZW Y<|(gW b 0 Y.ts).take i) ((∀e∈(ZW Y<|(gW b 0 Y.ts).take i).es,e.B.ok))<|Ex Y.adr g0 g) ⟨_,_,_,rfl,x',gd,Ex.refl⟩ (λi e g _ ⟨_,_,_,_,_,_,z⟩=>lsE<|z.get npA e0) ?_ ?_
 .rintro i v e g hv ⟨v2,v3,v4,rfl,y,gi,xg⟩ K hK;let⟨r,hr,rfl⟩:=ZL hv;have sm:=YT ((gW b 0 Y.ts).take i) Y;have rg:=(JV (b:=b) (l:=Y.ts) (k:=0)).2 r<|ä hr;obtain⟨q,hq⟩:∃q:Nat,r.1=q:=⟨r.1.toNat,by lia⟩
  have hql:q<Y.ts.length:=by lia
  have et:(ZW Y<|(gW b 0 Y.ts).take i).ts[q]?=fw Y.ts[q]:=by rw[sm.ts];exact Ê hql
  have lo:=no.tie _<|ķ hql;have yi:=y.ins;rw[sm.y]at yi;let⟨r1,r2,r3⟩:=r;dsimp only at hq;subst hq;unfold trV;fail;rw[<-sm.y];refine WA y et (by have:=lo.2.2.1;lia) gi λg1 y1 xg1=>?_;rw[sm.adr]at xg1;fail;rw[sm.y];refine hK _ _ ⟨_,_,_,rfl,?_,?_,xg.trans xg1⟩
  .rw[Zq hr,Kd];dsimp only;rw[ç,et];exact y1
  .rw[Zq hr,Kd];dsimp only;rw[ç,et];exact Ff gi ↥0 ↥0
 .rintro e g ⟨v2,v3,v4,rfl,y,gi,xg⟩;rw[Á,ü]at y gi;refine' k g y gi ((Ex.of x0).trans xg)
end
abbrev Yw(b:Int)(es:List En):List En:=es.filter λe=>ik (e.num≠b)
def M7(b:Int)(es:List En):Zs (stands es) b=stands (Yw b es):=by unfold Zs stands Yw;rw[List.filter_map];rfl
def Xy(b:Int)(es:List En):(Yw b es).Sublist es:=Ŏ
def W6(h:es.Sublist fs):(enA es).Sublist<|enA fs:=by
 induction h with
 |slnil=>exact .slnil
 |cons a _ ih=>unfold enA at ih ⊢;rw[ž];exact ih.trans<|List.sublist_append_right _ _
 |cons_cons a _ ih=>unfold enA at ih ⊢;rw[ž,ž];exact(Œ _).append ih
def fP.drop(x:fP h Y)(b:Int):fP (upd h Y.st<|.dct<|Zg rfV<|O.stands<|Yw b Y.es) {Y with es:=Yw b Y.es}:=by
 let⟨⟨a1,a2,a3,a4⟩,⟨b1,b2,b3⟩,⟨c1,c2⟩,d1⟩:=Yd.five x.nd;have sb:=Xy b Y.es;have nb:∀a∈enA (Yw b Y.es),a≠Y.st:=λa ha=>Yd.sep x.nd (by simp)<|(W6 sb).subset ha;refine⟨(fA a2).trans x.ins,(fA b1).trans x.lives,fB,(fA c1.symm).trans x.fallen,(fA c2.symm).trans x.road,λq hq=>(x.brs q<|sb.subset hq).off hq nb,?_,?_⟩
 .exact((Œ _).append<|W6 sb).nodup x.nd
 .exact(sb.map _).nodup x.key
def fP.setFallen(x:fP h Y)(l:List<|Int×Bool):fP (upd h Y.fl<|.dct<|Zg Val.bl l) {Y with fallen:=l}:=by let⟨⟨a1,a2,a3,a4⟩,⟨b1,b2,b3⟩,⟨c1,c2⟩,d1⟩:=Yd.five x.nd;exact⟨(fA a3).trans x.ins,(fA b2).trans x.lives,(fA c1).trans x.stand,fB,(fA d1.symm).trans x.road,λe he=>(x.brs e he).off he λb hb=>Yd.sep x.nd (by simp) hb,x.nd,x.key⟩
section
def Dk{b:Int}(no:f8 Y.bs Y.ts)(x:fP h Y)(gd:∀e∈Y.es,e.B.ok)(hb:b∈Y.es.map (·.num))(k:∀g,fP g (ZW {Y with es:=Yw b Y.es}<|gW b 0 Y.ts)->(∀e∈(ZW {Y with es:=Yw b Y.es}<|gW b 0 Y.ts).es,e.B.ok)->Ex Y.adr h g->Q .non g):wF P (n+4) "Yard.fall_of_bridge" [.ref Y.y,.int b] h Q X:=by
 have xi:=x.ins;have xs:=x.stand;obtain⟨a,lk⟩:∃a,(stands Y.es).lookup b=fw a:=ZN (by rw[ZJ];exact hb);refine YX ?_
 exists XE xs rfl
 rw[YF,lk];walk_at "p";refine EU xs rfl (by rw[ZO,lk];rfl) ?_;rw[Wd,M7];dsimp only;have y1:=x.drop b;have x1:Ex Y.adr h<|upd h Y.st<|.dct<|Zg rfV<|stands<|Yw b Y.es:=Ex.upd (Ô _<|by simp);generalize upd h Y.st (.dct<|Zg rfV<|stands<|Yw b Y.es)=g1 at y1 x1;have yi:=y1.ins;dsimp only at yi;refine' JY (Y:={Y with es:=Yw b Y.es}) no y1 (λe he=>gd e<|(Xy b Y.es).subset he) λg2 y2 gd2 x2=>?_;refine' k g2 y2 gd2 (x1.trans<|x2.sub λa ha=>?_);exact((Œ _).append<|W6<|Xy b Y.es).subset ha
end
section
def Eg{p:Nat}{t:Tie}(no:f8 Y.bs Y.ts)(x:fP h Y)(gd:∀e∈Y.es,e.B.ok)(et:Y.ts[p]?=fw t)(hf:Y.fallen.lookup (p:Int)=fx)(hl:Y.fallen.length<=100)(k:∀g,fP g {Y with fallen:=Zo Y.fallen p fy,es:=setT (onT {Y with fallen:=Zo Y.fallen p fy} p t) p t Y.es}->Ex Y.adr h g->Q .non g):wF P (n+3) "Yard.fall_of_tie" [.ref Y.y,.int p] h Q X:=by
 have xi:=x.ins;have xf:=x.fallen;have hp:p<Y.ts.length:=(Ó.mp et).1;have htl:(Y.ts.map trV).length=Y.ts.length:=Á _;have lo:=no.tie _<|ä et;refine XX ?_
 exists Xg
 fail;refine gK (by simp) ?_
 exists fI (xs:=[.tup<|Y.bs.map .int,.tup<|Y.ts.map trV]) (v:=.tup<|Y.ts.map trV) rfl
 fail;refine gL (by rw[htl];simpa using hp) ?_
 exists Jo xf rfl
 rw[YF,hf];walk_at "p";refine Yb (k:=.int p) xf ⟨rfl,by rw[Jt];exact Ù hl<|by decide⟩ ?_;rw[Z5 (val:=Val.bl)];have y1:=x.setFallen<|Zo Y.fallen p fy;have x1:Ex Y.adr h<|upd h Y.fl<|.dct<|Zg Val.bl<|Zo Y.fallen p fy:=Ex.upd (Ô _<|by simp);generalize upd h Y.fl (.dct<|Zg Val.bl<|Zo Y.fallen p fy)=g1 at y1 x1;have yi:=y1.ins;dsimp only at yi;refine' WA (Y:={Y with fallen:=Zo Y.fallen p fy}) y1 et (by have:=lo.2.2.1;lia) gd λg2 y2 x2=>?_;refine' k g2 y2 (x1.trans x2)
def D9{p:Nat}{t:Tie}(no:f8 Y.bs Y.ts)(x:fP h Y)(gd:∀e∈Y.es,e.B.ok)(et:Y.ts[p]?=fw t){v:Bool}(hf:Y.fallen.lookup (p:Int)=fw v)(k:∀g,fP g {Y with fallen:=Zs Y.fallen p,es:=setT (onT {Y with fallen:=Zs Y.fallen p} p t) p t Y.es}->Ex Y.adr h g->Q .non g):wF P (n+3) "Yard.back_of_tie" [.ref Y.y,.int p] h Q X:=by
 have xi:=x.ins;have xf:=x.fallen;have lo:=no.tie _<|ä et;refine X4 ?_
 exists XE xf rfl
 rw[YF,hf];walk_at "p";refine EU xf rfl (by rw[ZO,hf];rfl) ?_;rw[Wd];dsimp only;have y1:=x.setFallen<|Zs Y.fallen p;have x1:Ex Y.adr h<|upd h Y.fl<|.dct<|Zg Val.bl<|Zs Y.fallen p:=Ex.upd (Ô _<|by simp);generalize upd h Y.fl (.dct<|Zg Val.bl<|Zs Y.fallen p)=g1 at y1 x1;have yi:=y1.ins;dsimp only at yi;refine' WA (Y:={Y with fallen:=Zs Y.fallen p}) y1 et (by have:=lo.2.2.1;lia) gd λg2 y2 x2=>?_;refine' k g2 y2 (x1.trans x2)
end
def UE:(ZR own life most []).ok:=⟨ă,(λ_ m=>nomatch m),ă,(λ_ m=>nomatch m)⟩
def Mn:(Zo kvs k v).lookup k=fw v:=by
 unfold Zo;split
 .rename_i h;induction kvs with
  |nil=>cases h
  |cons p r ih =>
   rw[Í,ñ];by_cases e:p.1=k
   .simp[e]
   .have e2:(k==p.1)=fz:=by simpa using λz=>e z.symm
    rw[ñ,e2]at h;simp![e,if_false,e2];exact ih h
 .rename_i h;have h:kvs.lookup k=fx:=aq.mp h;rw[eL,h];simp
section
variable {Y:Yd}
def CC{b:Int}(no:f8 Y.bs Y.ts)(x:fP h Y)(gd:∀e∈Y.es,e.B.ok)(hlv:Y.lives.lookup b=fw life)(hb:b∉Y.es.map (·.num))(hl:Y.lives.length<=100)(hel:Y.es.length<=100)(k:∀q t d g,(∀a∈[q,t,d],h a=fx)->fP g (ZW {Y with lives:=Zo Y.lives b<|life+1,es:=Y.es++[⟨b,q,t,d,ZR b (life+1) Y.most []⟩]}<|gW b 0 Y.ts)->(∀e∈(ZW {Y with lives:=Zo Y.lives b<|life+1,es:=Y.es++[⟨b,q,t,d,ZR b (life+1) Y.most []⟩]}<|gW b 0 Y.ts).es,e.B.ok)->Ex Y.adr h g->Q .non g):wF P (n+4) "Yard.back_of_bridge" [.ref Y.y,.int b] h Q X:=by
 have xi:=x.ins;have xs:=x.stand;have xl:=x.lives;have lk:(stands Y.es).lookup b=fx:=by
  cases z:(stands Y.es).lookup b with
  |none=>rfl
  |some q =>have:=ã (f:=(·.1))<|Zd z;rw[ZJ]at this;exact ij this hb
 refine YY ?_
 exists XE xl rfl
 rw[YF,hlv];walk_at "p";refine Jo xs rfl ?_;rw[YF,lk];walk_at "p";refine ZB xl rfl (by rw[ZO,hlv];rfl) ?_;refine' Yb (k:=.int b) xl ⟨rfl,by rw[Jt];exact Ù hl<|by decide⟩ ?_;rw[Z5 (val:=Val.int)];have Y1:=x.setLives<|Zo Y.lives b<|life+1;have x1:Ex Y.adr h<|upd h Y.lv<|.dct<|Zg Val.int<|Zo Y.lives b<|life+1:=Ex.upd (Ô _<|by simp);have keepN:∀{a:Ad},upd h Y.lv (.dct<|Zg Val.int<|Zo Y.lives b<|life+1) a=fx->h a=fx:=λ{a} z=>by
  by_cases e:a=Y.lv
  .rw[e,fB]at z;cases z
  .rwa [fA e]at z
 generalize upd h Y.lv (.dct<|Zg Val.int<|Zo Y.lives b<|life+1)=g1 at Y1 x1 keepN;have zi:=Y1.ins;have zl:=Y1.lives;dsimp only at zi zl;refine' ZB zl rfl (by rw[ZO,Mn];rfl) ?_;refine' Ze λpn g7 hpn x7 en=>?_;have Y7:=Y1.ext x7;have yi7:=Y7.ins;dsimp only at yi7;fail;intro q hq;have xq:Ext g7<|upd g7 q<|.ins "Bridge" []:=Ext.new hq;have eq:(upd g7 q<|.ins "Bridge" []) q=fw (.ins "Bridge" []):=fB;refine Aq (rs:=[]) eq (xq.get en) (by simp) (by simp) λt d g8 ht hd ba x8=>?_;have x78:Ext g7 g8:=⟨λ{a o} e=>x8.get (by simpa using Za e hq)<|xq.get e⟩
 have Y8:=Y7.ext x78;have ht7:g7 t=fx:=by cases z:g7 t with|none=>rfl|some o=>rw[xq.get z]at ht;cases ht
 have hd7:g7 d=fx:=by cases z:g7 d with|none=>rfl|some o=>rw[xq.get z]at hd;cases hd
 refine⟨rfl,?_⟩;have wi:=Y8.ins;have ws:=Y8.stand;dsimp only at wi ws;refine' Yb (k:=.int b) ws ⟨rfl,by rw[Jt];unfold stands;rw[Á];exact Ù hel<|by decide⟩ ?_;rw[Z5 (val:=rfV),Xr _<|by rw[ZJ];exact hb];have Ź:stands Y.es++[(b,q)]=stands (Y.es++[⟨b,q,t,d,ZR b (life+1) Y.most []⟩]):=by unfold stands;rw[Õ];rfl
 rw[Ź];have fr:∀a∈[q,t,d],g7 a=fx:=λa ha=>by simp![Ç,Ö,or_false]at ha;rcases ha with rfl|rfl|rfl<;>assumption
 have fr0:∀a∈[q,t,d],h a=fx:=λa ha=>keepN (by cases z:g1 a with|none=>rfl|some o=>have:=fr a ha;rw[x7.get z]at this;cases this);have Y9:=Y8.stands (e:=⟨b,q,t,d,ZR b (life+1) Y.most []⟩) ba hb λa ha z=>Y7.taken z<|fr a ha;have x9:Ex Y.adr h<|upd g8 Y.st<|.dct<|Zg rfV<|stands<|Y.es++[⟨b,q,t,d,ZR b (life+1) Y.most []⟩]:=(x1.trans<|.of<|x7.trans x78).trans (Ex.upd<|Ô _<|by simp);dsimp only at Y9;generalize upd g8 Y.st (.dct<|Zg rfV<|stands<|Y.es++[⟨b,q,t,d,ZR b (life+1) Y.most []⟩])=g9 at Y9 x9;have vi:=Y9.ins;dsimp only at vi;refine' JY (Y:={Y with lives:=Zo Y.lives b<|life+1,es:=Y.es++[⟨b,q,t,d,ZR b (life+1) Y.most []⟩]}) no Y9 (λe he=>?_) λg2 y2 gd2 x2=>?_
 .rcases Ò.mp he with he|he
  .exact gd e he
  .rw[Å.mp he];exact UE
 refine' k q t d g2 fr0 y2 gd2 ⟨λ{a o} na ha=>x2.get (λz=>?_)<|x9.get na ha⟩;have z:a∈[Y.y,Y.lv,Y.st,Y.fl,Y.rd]++enA (Y.es++[⟨b,q,t,d,ZR b (life+1) Y.most []⟩]):=z;rw[Wk,<-Ć]at z;rcases Ò.mp z with z|z
 .exact na z
 .rw[fr0 a z]at ha;cases ha
end
abbrev wordsL:List<|List String:=[["tick"],["come"],["lost"],["fall","bridge"],["fall","tie"],["back","bridge"],["back","tie"]]
def Hr(hw:ws∈wordsL)(k:∀g,Ext h g->Q (.tup [.tup<|ws.map .str,.int c]) g):wF P (n+2) "read_deed" [.tup<|ws.map .str++[.int c]] h Q X:=by
 have hc:cut (ws.map Val.str++[.int c]) fx (fw (-1))=ws.map .str:=by simp![wordsL,Ç,Ö,or_false]at hw;rcases hw with rfl|rfl|rfl|rfl|rfl|rfl|rfl<;>rfl
 have hlast:atI (ws.map Val.str++[.int c]) (-1)=fw (.int c):=by simp![wordsL,Ç,Ö,or_false]at hw;rcases hw with rfl|rfl|rfl|rfl|rfl|rfl|rfl<;>rfl
 have hlen:ws.length<=2:=by simp![wordsL,Ç,Ö,or_false]at hw;rcases hw with rfl|rfl|rfl|rfl|rfl|rfl|rfl<;>decide
 refine Oz ?_;walk_at "p";refine gJ (xs:=ws.map Val.str++[.int c]) (lo:=fx) (hi:=fw (-1)) (by rw[ì,Á];intro z;have:=z.2;unfold gx at this;simp at this;lia) ?_;rw[hc];refine' ⟨Ù (by rw[Á];exact hlen) ↥1,Yx (λ_=>fw<|.bl fy) trivial (λv hv K hK=>?_) ?_⟩
 .obtain⟨u,_,rfl⟩:=Ñ.mp hv;walk_at "p";exact hK
 rw[show(ws.map Val.str).filterMap (λ_=>fw<|Val.bl fy)=(ws.map λ_=>fy).map Val.bl by rw[ϳ,ë];exact congrFun (cr (f:=λ_:String=>Val.bl fy)) ws];refine Ze λp1 g1 bx x1 e1=>?_
 exists OH (bs:=ws.map λ_=>fy) e1 (YJ _)
 have ha:(ws.map λ_=>fy).all id=fy:=by simp
 fail;refine gL (by simp) ?_;fail;have hin:∀{h:Hs},fU h .notin (.tup<|ws.map .str) (.tup<|wordsL.map λl=>.tup<|l.map .str)=fw fz:=λ{h}=>by simp![wordsL,Ç,Ö,or_false]at hw;rcases hw with rfl|rfl|rfl|rfl|rfl|rfl|rfl<;>rfl
 refine fH (a:=fz) hin ?_;walk_at "p";refine fI hlast ?_
 exists XO
 walk_at "p";refine fI hlast ?_;refine' k g1 x1
inductive Dd where
 |tick (b:Int)|come (b:Int)|lost (b:Int)|fallB (b:Int)|fallT (b:Int)|backB (b:Int)|backT (b:Int)
abbrev Dd.ws:Dd->List String
 |.tick _=>["tick"]|.come _=>["come"]|.lost _=>["lost"]|.fallB _=>["fall","bridge"]|.fallT _=>["fall","tie"]|.backB _=>["back","bridge"]|.backT _=>["back","tie"]
abbrev Dd.num:Dd->Int
 |.tick c=>c|.come c=>c|.lost c=>c|.fallB c=>c|.fallT c=>c|.backB c=>c|.backT c=>c
abbrev Dd.fn:Dd->String
 |.tick _=>"Yard.tick_of" | .come _=>"Yard.come" | .lost _=>"Yard.take_off" | .fallB _=>"Yard.fall_of_bridge" | .fallT _=>"Yard.fall_of_tie" | .backB _=>"Yard.back_of_bridge" | .backT _=>"Yard.back_of_tie"
noncomputable abbrev Dd.v(d:Dd):Val:=.tup<|d.ws.map .str++[.int d.num]
def Dd.words(d:Dd):d.ws∈wordsL:=by cases d<;>simp[Dd.ws,wordsL]
def Z9(x:Ext h g)(hp:g p=fx):h p=fx:=by
 cases z:h p with
 |none=>rfl
 |some o=>rw[x.get z]at hp;cases hp
def Fx{ts:List Tie}{i:Int}(h0:0<=i)(h1:i<ts.length):atI (ts.map trV) i=fw (trV<|ts[i.toNat]?.getD (0,0,0)):=by
 have h2:i.toNat<ts.length:=by lia
 refine YO h0 ?_;rw[Ú,Ê h2];rfl
def By(x:fP h Y)(he:Y.es=pre++e::ĺ)(o:e.B.ok)(hp:∀q∈e.B.ties,q.1<Y.ts.length)(hr:Y.road.length<=100000)(k:∀d g,fP g {Y with es:=pre++⟨e.num,e.b,e.t,d,e.B.ticked⟩::ĺ,road:=Y.road++Yr Y.ts e.num e.B.told}->h d=fx->Ex Y.adr h g->Q .non g):wF P (n+5) "Yard.tick_of" [.ref Y.y,.int e.num] h Q X:=by
 have hm:e∈Y.es:=by rw[he];simp
 have lk:(stands Y.es).lookup e.num=fw e.b:=Z6 (by rw[ZJ];exact x.key)<|Ñ.mpr ⟨e,hm,rfl⟩;let⟨xi,xl,xs,xf,xr,xb,xnd,xk⟩:=id x;refine JM ?_
 exists XE xs rfl
 rw[YF,lk];walk_at "p";refine ZB xs rfl (by rw[ZO,lk];rfl) ?_;have ba:=xb e hm;have bi:=ba.ins;refine' Fp ba o λp d g1 bx hd1 ba1 ep x1 npd=>?_;have Y1:=x.change he x1 ba1 (.inl rfl)<|.inr hd1;let⟨yi,yl,ys,yf,yr,yb,ynd,yk⟩:=id Y1;dsimp only at yi yl ys yf yr yb;have npa:∀a∈Y.adr,a≠p:=λa ha z=>x.taken ha<|z▸bx;have npr:Y.rd≠p:=npa _ (Ô _<|by simp);have hbm:e.b∈Y.adr:=É _ (WD hm).1;have htl:(sortI (e.B.told.ties.map (·.1))).length<=16:=by rw[sortI,Ş,Á];exact o.told.tlen
 have htie:∀i∈sortI (e.B.told.ties.map (·.1)),0<=i/\i<Y.ts.length:=λi hi=>by let⟨q,hq,rfl⟩:=Ñ.mp<|mem_sort.mp hi;rw[show e.B.told.ties=e.B.ties from (Z0 e.B.grown<|ZF e.B.grown).2.1]at hq;exact⟨(o.rg q hq).1,hp q hq⟩
 refine' Zh (λi en g=>Sm3 λv2 v3 v4=>Cj4 (en=[fw<|.ref Y.y,fw<|.int e.num,v2,v3,v4]) (fP g {Y with es:=pre++⟨e.num,e.b,e.t,d,e.B.ticked⟩::ĺ,road:=Y.road++(Yr Y.ts e.num e.B.told).take i}) (g p=fw (.lst<|Z3 e.B.told))<|Ex Y.adr h g) ⟨_,_,_,rfl,by rw[List.take_zero,ï];exact Y1,ep,x1.sub λa ha=>by rw[Å.mp ha];exact hbm⟩ (λi en g _ ⟨_,_,_,_,_,z,_⟩=>lsE z) ?_ ?_
 .rintro i v en g hv ⟨v2,v3,v4,rfl,Yi,ep,xi⟩ K hK;let⟨pl,hpl,rfl⟩:=ZL hv;have hplm:=ä hpl;let⟨r0,r1⟩:=htie pl hplm;have et:=Fx (ts:=Y.ts) r0 r1;let⟨zi,zl,zs,zf,zr,zb,znd,zk⟩:=id Yi;dsimp only at zi zl zs zf zr zb;have hil:=(Ó.mp hpl).1
  exists fI (xs:=[.tup<|Y.bs.map .int,.tup<|Y.ts.map trV]) (v:=.tup<|Y.ts.map trV) rfl
  exists fI et
  exists Et
  refine' ZD zr ?_ ?_
  .rw[Á,ì,ď];exact Ù (by lia:_<=100016) ↥1
  dsimp only;have es:(Yr Y.ts e.num e.B.told)[i]?=fw (e.num,ZI Y.ts pl e.num,pl,Zv e.B.told pl):=by unfold Yr;rw[Ú,hpl];rfl
  have Y2:=Yi.setRoad<|Y.road++(Yr Y.ts e.num e.B.told).take (i+1);dsimp only at Y2;have er:(Y.road++(Yr Y.ts e.num e.B.told).take i).map rdV++[rdV (e.num,ZI Y.ts pl e.num,pl,Zv e.B.told pl)]=(Y.road++(Yr Y.ts e.num e.B.told).take (i+1)).map rdV:=by rw[Zq es,<-Ć,Õ (l₂:=[_])];rfl
  have er':(Y.road++(Yr Y.ts e.num e.B.told).take i).map rdV++[.tup [.int e.num,.int<|far (Y.ts[pl.toNat]?.getD (0,0,0)) e.num,.int pl,(Zv e.B.told pl).v]]=(Y.road++(Yr Y.ts e.num e.B.told).take (i+1)).map rdV:=er;rw[er'];refine' hK _ _ ⟨_,_,_,rfl,Y2,(fA npr.symm).trans ep,xi.trans<|Ex.upd<|Ô _<|by simp⟩
 .rintro en g ⟨v2,v3,v4,rfl,Yi,ep,xi⟩;rw[show(Z3 e.B.told).length=(Yr Y.ts e.num e.B.told).length by unfold Z3 Yr;rw[Á,Á],ü]at Yi;refine' k d g Yi hd1 xi
def F1{d:Dd}(x:fP h Y)(k:∀(g:Hs) (Q':Q1),Ext h g->fP g Y->(∀v g',Q .non g'->Q' v g')->wF P (n+5) d.fn [.ref Y.y,.int d.num] g Q' X):wF P (n+6) "Yard.deed" [.ref Y.y,d.v] h Q X:=by
 have xi0:=x.ins;refine ND ?_;refine' Hr d.words λg1 x1=>?_;have x':=x.ext x1;have xi:=x'.ins;cases d<;>(
   fail
   repeat (first
     |(refine fH (a:=fz) rfl ?_;fail;refine gL rfl ?_;fail)
     | (refine fH (a:=fy) rfl ?_;fail;refine gK rfl ?_;fail))
   refine k g1 _ x1 x' λv g' q=>?_
   refine' q)
structure Yc where
 bs:List Int
 ts:List Tie
 most:Int
 lives:List<|Int×Int
 br:List<|Int×Br
 fallen:List<|Int×Bool
 road:List<|Int×Int×Int×L
abbrev enC(es:List En):List<|Int×Br:=es.map λe=>(e.num,e.B)
abbrev Yd.cc(Y:Yd):Yc:=⟨Y.bs,Y.ts,Y.most,Y.lives,enC Y.es,Y.fallen,Y.road⟩
abbrev upC(k:Int)(F:Br->Br)(l:List<|Int×Br):List<|Int×Br:=l.map λq=>if q.1=k then(q.1,F q.2)else q
abbrev Ls(on:Bool)(p:Int)(t:Tie)(l:List<|Int×Br):List<|Int×Br:=upC t.2.1 (tieF on p t.1 t.2.2)<|upC t.1 (tieF on p t.2.1 t.2.2) l
abbrev Yc.tie(C:Yc)(p:Int):Tie:=C.ts[p.toNat]?.getD (0,0,0)
abbrev onC(C:Yc)(p:Int):Bool:=!(C.fallen.lookup p).isSome&&((C.br.lookup (C.tie p).1).isSome&&(C.br.lookup (C.tie p).2.1).isSome)
abbrev Yc.set1(C:Yc)(p:Int):Yc:={C with br:=Ls (onC C p) p (C.tie p) C.br}
abbrev Yc.sets(C:Yc)(l:List Tie):Yc:=l.foldl (λC r=>C.set1 r.1) C
def Wq(es:List En):(enC es).map (·.1)=es.map (·.num):=by unfold enC;rw[ë];rfl
def look_iff:(kvs.lookup k).isSome=ik (k∈kvs.map (·.1)):=by
 cases z:kvs.lookup k with
 |none=>exact(ie<|Xu z).symm
 |some v=>exact(ig (ã (f:=(·.1))<|Zd z)).symm
def Jg(es:List En):enC (Yp k F es)=upC k F (enC es):=by
 unfold enC Yp upC;rw[ë,ë];refine Ħ λe _=>?_;show((if e.num=k then({e with B:=F e.B}:En)else e).num,(if e.num=k then({e with B:=F e.B}:En)else e).B)=if e.num=k then(e.num,F e.B)else(e.num,e.B)
 split<;>rfl
def Dg{on:Bool}{p:Int}{t:Tie}(es:List En):enC (setT on p t es)=Ls on p t (enC es):=by unfold setT Ls;rw[Jg,Jg]
def Qr:((enC es).lookup k).isSome=((stands es).lookup k).isSome:=look_iff.trans ((decide_eq_decide.mpr<|by rw[Wq,ZJ]).trans look_iff.symm)
def RL{p:Int}:onT Y p (Y.ts[p.toNat]?.getD (0,0,0))=onC Y.cc p:=by unfold onT onC;rw[<-Qr,<-Qr];rfl
def Uf{p:Int}:({Y with es:=setT (onT Y p<|Y.ts[p.toNat]?.getD (0,0,0)) p (Y.ts[p.toNat]?.getD (0,0,0)) Y.es}:Yd).cc=Y.cc.set1 p:=by rw[RL];unfold Yd.cc Yc.set1;dsimp only;rw[Dg];rfl
def OG:∀(l:List Tie) (Y:Yd),(ZW Y l).cc=Y.cc.sets l
 |[],_=>rfl
 |r::l,Y=>(OG l _).trans (congrArg (Yc.sets · l)<|Uf (Y:=Y) (p:=r.1))
abbrev step(C:Yc):Dd->Option Yc
 |.tick b=>(C.br.lookup b).map λB=>{C with br:=upC b Br.ticked C.br,road:=C.road++Yr C.ts b B.told}
 |.come p=>if p<0 then fx else(C.road[p.toNat]?).map λr=>{C with br:=upC r.2.1 (Z1 · r.2.2.1 r.2.2.2) C.br,road:=C.road.eraseIdx p.toNat}
 |.lost p=>if p<0 then fx else(C.road[p.toNat]?).map λr=>{C with road:=C.road.eraseIdx p.toNat}
 |.fallB b=>if(C.br.lookup b).isSome then fw (Yc.sets {C with br:=Zs C.br b}<|gW b 0 C.ts)else fx
 |.fallT p=>if(0<=p/\p<C.ts.length)/\(C.fallen.lookup p).isSome=fz then fw (Yc.set1 {C with fallen:=Zo C.fallen p fy} p)else fx
 |.backB b=>if(C.br.lookup b).isSome then fx else(C.lives.lookup b).map λl=>Yc.sets {C with lives:=Zo C.lives b<|l+1,br:=C.br++[(b,ZR b (l+1) C.most [])]}<|gW b 0 C.ts
 |.backT p=>if(C.fallen.lookup p).isSome then fw (Yc.set1 {C with fallen:=Zs C.fallen p} p)else fx
structure Bok(m:Nat)(B:Br):Prop where
 ok:B.ok
 pl:∀t∈B.ties,t.1<m
def Bok.ticked{m:Nat}(o:Bok m B):Bok m B.ticked:=⟨o.ok.ticked,λt ht=>o.pl t<|by rwa [show B.ticked.ties=B.ties from (Z0 B.grown<|ZF B.grown).2.1]at ht⟩
def Bok.heard{m:Nat}(o:Bok m B){p:Int}{l:L}:Bok m<|Z1 B p l:=⟨o.ok.heard,λt ht=>o.pl t<|by revert ht;unfold Z1;split<;>(try split)<;>exact id⟩
def Bok.tieF{m:Nat}(o:Bok m B){on:Bool}{p far:Int}(h0:0<=p)(h1:p<m)(hm:m<=16):Bok m<|O.tieF on p far c B:=⟨Nr o.ok h0 ↥0,λt ht=>by
  unfold O.tieF at ht
  split at ht
  . unfold upB at ht
    split at ht
    . exact o.pl t ht
    . rcases Xs ht with e|ht
      . rw[e];exact h1
      . exact o.pl t ht
  . exact o.pl t<|ZT ht⟩
structure Yc.gd(C:Yc)(N:Nat):Prop where
 no:f8 C.bs C.ts
 nd:(C.br.map (·.1)).Nodup
 sub:∀q∈C.br,q.1∈C.bs
 ok:∀q∈C.br,Bok C.ts.length q.2
 lv:C.lives.map (·.1)=C.bs
 fn:(C.fallen.map (·.1)).Nodup
 fr:∀q∈C.fallen,0<=q.1/\q.1<C.ts.length
 len:C.road.length<=16*N
def Jv(l:List<|Int×Br):(upC k F l).map (·.1)=l.map (·.1):=by unfold upC;rw[ë];refine Ħ λe _=>?_;show(if e.1=k then(e.1,F e.2)else e).1=e.1;split<;>rfl
def Ga{k:Int}{l:List (Int×Br)}{R:Br->Prop}(h:∀q∈l,R q.2)(hF:∀B,R B->R (F B)):∀q∈upC k F l,R q.2:=λq hq=>by
 let⟨e,he,rfl⟩:=Ñ.mp hq;split
 .exact hF _<|h e he
 .exact h e he
def keys_sub{l:List (Int×Br)}{bs:List Int}:(∀q∈l,q.1∈bs)↔∀x∈l.map (·.1),x∈bs:=⟨λh x hx=>by let⟨q,hq,rfl⟩:=Ñ.mp hx;exact h q hq,λh q hq=>h _<|ã hq⟩
variable {C:Yc}{N:Nat}{M:Nat}{rd:List (Int×Int×Int×L)}
def Yc.gd.upC(g:C.gd N)(hF:∀B,Bok C.ts.length B->Bok C.ts.length (F B))(hr:rd.length<=16*M):({C with br:=O.upC k F C.br,road:=rd}:Yc).gd M :=
 ⟨g.no,by show((O.upC k F C.br).map (·.1)).Nodup;rw[Jv];exact g.nd,keys_sub.mpr (by show ∀x∈(O.upC k F C.br).map (·.1),_;rw[Jv];exact keys_sub.mp g.sub),Ga g.ok hF,g.lv,g.fn,g.fr,hr⟩
def Yc.gd.set1{p:Int}(g:C.gd N)(h0:0<=p)(h1:p<C.ts.length):(C.set1 p).gd N :=
 (g.upC (M:=N) (k:=(C.tie p).1) (F:=tieF (onC C p) p (C.tie p).2.1 (C.tie p).2.2) (λ_ o=>o.tieF h0 h1 g.no.sixteen) g.len).upC (λ_ o=>o.tieF h0 h1 g.no.sixteen) g.len
def Yc.gd.sets{N:Nat}:∀{l:List Tie}{C:Yc},C.gd N->(∀r∈l,0<=r.1/\r.1<C.ts.length)->(C.sets l).gd N
 |[],_,g,_=>g
 |r::l,C,g,h=>Yc.gd.sets (l:=l) (C:=C.set1 r.1) (g.set1 (h r<|by simp).1 (h r<|by simp).2) λq hq=>h q (by simp[hq])
def Yc.gd.more(g:C.gd N)(h:N<=M):C.gd M:=⟨g.no,g.nd,g.sub,g.ok,g.lv,g.fn,g.fr,Û g.len<|d9 _ h⟩
def Y6:∀(l:List Tie) (C:Yc),(C.sets l).bs=C.bs/\(C.sets l).ts=C.ts/\(C.sets l).most=C.most
 |[],_=>⟨rfl,rfl,rfl⟩
 |r::l,C=>Y6 l<|C.set1 r.1
def Ng{b:Int}{ts:List Tie}:∀r∈gW b 0 ts,0<=r.1/\r.1<ts.length:=λr hr=>by have:=(JV (b:=b) (l:=ts) (k:=0)).2 r hr;lia
def keys_look{b:Int}:(C.br.lookup b).isSome=fy↔b∈C.br.map (·.1):=by rw[look_iff];simp
def BN{ts:List Tie}{b:Int}(o:B.ok):(Yr ts b B.told).length<=16:=by unfold Yr;rw[Á,sortI,Ş,Á];exact o.told.tlen
def Jc{D:Yc}{d:Dd}(g:C.gd N)(s:step C d=fw D):D.gd (N+1)/\D.bs=C.bs/\D.ts=C.ts/\D.most=C.most:=by
 have hlen:=g.len;cases d with
 |tick b =>let⟨B,hB,rfl⟩:=Ë.mp s;have ok:B.ok:=(g.ok _<|Zd hB).ok;have:=BN (ts:=C.ts) (b:=b) ok;exact⟨g.upC (λ_ o=>o.ticked) (by rw[ì];lia),rfl,rfl,rfl⟩
 |come p =>
  dsimp only[step]at s;split at s
  .cases s
  .obtain⟨r,hr,rfl⟩:=Ë.mp s;exact⟨g.upC (λ_ o=>o.heard)<|Û (ϋ _ _)<|by lia,rfl,rfl,rfl⟩
 |lost p =>
  dsimp only[step]at s;split at s
  .cases s
  .obtain⟨r,hr,rfl⟩:=Ë.mp s;exact⟨⟨g.no,g.nd,g.sub,g.ok,g.lv,g.fn,g.fr,Û (ϋ _ _)<|by lia⟩,rfl,rfl,rfl⟩
 |fallB b =>
  dsimp only[step]at s;split at s
  .cases s;refine⟨Yc.gd.more (Yc.gd.sets ⟨g.no,YD g.nd b,λq hq=>g.sub q<|ZT hq,λq hq=>g.ok q<|ZT hq,g.lv,g.fn,g.fr,hlen⟩ Ng) ↥0,?_⟩;let⟨e1,e2,e3⟩:=Y6 (gW b 0 C.ts) {C with br:=Zs C.br b};exact⟨e1,e2,e3⟩
  .cases s
 |fallT p =>
  dsimp only[step]at s;split at s
  .rename_i h;cases s;refine⟨Yc.gd.more (Yc.gd.set1 ⟨g.no,g.nd,g.sub,g.ok,g.lv,WB g.fn p fy,λq hq=>?_,hlen⟩ h.1.1 h.1.2) ↥0,rfl,rfl,rfl⟩;rcases Xs hq with e|hq
   .rw[e];exact h.1
   .exact g.fr q hq
  .cases s
 |backB b =>
  dsimp only[step]at s;split at s
  .cases s
  .rename_i h;let⟨l,hl,rfl⟩:=Ë.mp s;have hk:(C.lives.lookup b).isSome=fy:=by rw[hl];rfl
   have hb:b∈C.bs:=by rw[<-g.lv];rw[look_iff]at hk;exact of_decide_eq_true hk
   have hn:b∉C.br.map (·.1):=λz=>h<|keys_look.mpr z;refine⟨Yc.gd.more (Yc.gd.sets ⟨g.no,?_,λq hq=>?_,λq hq=>?_,?_,g.fn,g.fr,hlen⟩ Ng) ↥0,?_⟩
   .show((C.br++[(b,ZR b (l+1) C.most [])]).map (·.1)).Nodup;rw[Õ,ß];exact⟨g.nd,by simp,λa ha c hc=>by have hc:c=b:=Å.mp hc;rw[hc];exact λz=>hn<|z▸ha⟩
   .rcases Ò.mp hq with hq|hq
    .exact g.sub q hq
    .rw[Å.mp hq];exact hb
   .rcases Ò.mp hq with hq|hq
    .exact g.ok q hq
    .rw[Å.mp hq];exact⟨UE,λt ht=>nomatch ht⟩
   .show(Zo C.lives b<|l+1).map (·.1)=_;rw[Jx,hX hk];exact g.lv
   .exact Y6 (gW b 0 C.ts) {C with lives:=Zo C.lives b<|l+1,br:=C.br++[(b,ZR b (l+1) C.most [])]}
 |backT p =>
  dsimp only[step]at s;split at s
  .rename_i h;cases s;let⟨v,hv⟩:=å.mp h;have hp:=g.fr _<|Zd hv;exact⟨Yc.gd.more (Yc.gd.set1 ⟨g.no,g.nd,g.sub,g.ok,g.lv,YD g.fn p,λq hq=>g.fr q<|ZT hq,hlen⟩ hp.1 hp.2) ↥0,rfl,rfl,rfl⟩
  .cases s
def WG{b:Int}:(Y.cc.br.lookup b).isSome=((stands Y.es).lookup b).isSome:=Qr
def UU(he:Y.es=pre++e::ĺ)(nd:(Y.es.map (·.num)).Nodup):enC (pre++⟨e.num,e.b,t,d,F e.B⟩::ĺ)=upC e.num F (enC Y.es):=by rw[he]at nd ⊢;rw[<-Jg,Oa nd];unfold enC;rw[Õ,Õ];rfl
def U8(he:Y.es=pre++e::ĺ)(ht:t=e.t)(hd:d=e.d\/h d=fx):∀a∈({Y with es:=pre++⟨e.num,e.b,t,d,B⟩::ĺ,road:=rd}:Yd).adr,a∈Y.adr\/h a=fx:=λa ha=>by
 subst ht;unfold Yd.adr at ha ⊢;rw[he,YG];dsimp only at ha;rw[YG]at ha;simp only[Ò,Ç,Ö,or_false]at ha ⊢;rcases hd with rfl|hd
 .exact .inl ha
 .rcases ha with ha|ha|(rfl|rfl|rfl)|ha
  .exact .inl<|.inl ha
  .exact .inl<|.inr<|.inl ha
  .exact .inl<|.inr<|.inr<|.inl<|.inl rfl
  .exact .inl<|.inr<|.inr<|.inl<|.inr<|.inl rfl
  .exact .inr hd
  .exact .inl<|.inr<|.inr<|.inr ha
def Ul:∀{l bs:List Int},l.Nodup->(∀x∈l,x∈bs)->l.length<=bs.length
 |[],_,_,_=>Ę _
 |a::l,bs,nd,h=>by have ha:=h a (by simp);have:=Ul (l:=l) (bs:=bs.erase a) (ô.mp nd).2 λx hx=>(List.mem_erase_of_ne λz:x=a=>(ô.mp nd).1<|z▸hx).mpr (h x<|by simp[hx]);rw[bT ha]at this;have:=List.length_pos_of_mem ha;rw[Î];lia
variable {β:Type}
def Uy{p:Int}{f:Int×Int×Int×L->β}(hp:¬(0<=p/\p<Y.road.length)):(if p<0 then fx else(Y.cc.road[p.toNat]?).map f)=fx:=by
 split
 .rfl
 .rw[show Y.cc.road[p.toNat]?=fx from Ŀ<|by show Y.road.length<=_;lia];rfl
structure Mv(h:Hs)(Y:Yd)(g:Hs)(Z:Yd):Prop where
 y:Z.y=Y.y
 at_:fP g Z
 nw:∀a∈Z.adr,a∈Y.adr\/h a=fx
 ex:Ex Y.adr h g
def Mv.refl(x:fP h Y):Mv h Y h Y:=⟨rfl,x,λ_=>.inl,Ex.refl⟩
def Mv.off(m:Mv h Y g Z)(na:a∉Y.adr)(e:h a=fw o):a∉Z.adr/\g a=fw o:=⟨λz=>(m.nw a z).elim na λy=>(by rw[e]at y;cases y),m.ex.get na e⟩
def Mv.trans{f:Hs}(m:Mv h Y g Z)(l:Mv g Z f W):Mv h Y f W:=by
 refine⟨l.y.trans m.y,l.at_,λa ha=>?_,⟨λna e=>let ⟨h1,h2⟩:=m.off na e;l.ex.get h1 h2⟩⟩;rcases l.nw a ha with z|z
 .exact m.nw a z
 .by_cases na:a∈Y.adr
  .exact .inl na
  .cases e:h a with
   |none=>exact .inr rfl
   |some o=>rw[m.ex.get na e]at z;cases z
def Mv.ext{f:Hs}(m:Mv h Y g Z)(x:Ext g f):Mv h Y f Z:=⟨m.y,m.at_.ext x,m.nw,m.ex.trans<|.of x⟩
def MR{b:Int}(h:(stands es).lookup b=fx):b∉es.map (·.num):=by rw[<-ZJ];exact Xu h
section
def Nj{d:Dd}(x:fP h Y)(gd:Y.cc.gd N)(hN:N<=6000)(sd:(step Y.cc d).isSome=fy)(k:∀(Y':Yd) g',step Y.cc d=fw Y'.cc->Mv h Y g' Y'->Q .non g'):wF P (n+6) "Yard.deed" [.ref Y.y,d.v] h Q X:=by
 refine F1 x λg Q' x1 x' hq=>?_;have no:f8 Y.bs Y.ts:=gd.no;have ok:∀e∈Y.es,Bok Y.ts.length e.B:=λe he=>gd.ok (e.num,e.B)<|Ñ.mpr ⟨e,he,rfl⟩;have oks:∀e∈Y.es,e.B.ok:=λe he=>(ok e he).ok;have hl:Y.road.length<=16*N:=gd.len;have key:=x.key;have xi:=x'.ins;have xs:=x'.stand;have xf:=x'.fallen;have xl:=x'.lives;have fin:∀{Y':Yd} {g'},fP g' Y'->step Y.cc d=fw Y'.cc->Y'.y=Y.y->(∀a∈Y'.adr,a∈Y.adr\/g a=fx)->Ex Y.adr g g'->∀v,Q' v g':=λ{Y' g'} y s e f ex v=>hq v g'<|k Y' g' s ⟨e,y,λa ha=>(f a ha).imp id λz=>Z9 x1 z,(Ex.of x1).trans ex⟩;have bad:∀{p:Prop},step Y.cc d=fx->p:=λ{p} s=>by rw[s]at sd;cases sd
 have h10:Y.lives.length<=10:=by have e:=congrArg List.length gd.lv;rw[Á]at e;have:=no.ten;have:Y.cc.bs.length=Y.bs.length:=rfl;have:Y.cc.lives.length=Y.lives.length:=rfl;lia
 have e10:Y.es.length<=10:=by
  have:=Ul gd.nd<|keys_sub.mp gd.sub;have h2:(Y.cc.br.map (·.1)).length=Y.es.length:=by show((enC Y.es).map (·.1)).length=_;rw[Wq,Á]
  have:=no.ten;have:Y.cc.bs.length=Y.bs.length:=rfl;lia
 have f16:Y.fallen.length<=16:=by
  have:=Yk (m:=16) gd.fn λx hx=>by let⟨q,hq,rfl⟩:=Ñ.mp hx;have:=gd.fr q hq;have:=no.sixteen;have:Y.cc.ts.length=Y.ts.length:=rfl;lia
  rw[Á]at this;exact this
 clear sd;cases d with
 |tick b =>
  show wF P (n+5) "Yard.tick_of" [.ref Y.y,.int b] g Q' X;cases lk:(stands Y.es).lookup b with
  |none =>refine bad ?_;have:=WG (Y:=Y) (b:=b);rw[lk]at this;show(Y.cc.br.lookup b).map _=fx;rw[Option.isSome_eq_false_iff.mp this |> bc.mp];rfl
  |some a =>
   let⟨e,pre,ĺ,he,rfl,rfl⟩:=Xp lk;have hm:e∈Y.es:=by rw[he];simp
   refine By x' he (oks e hm) (ok e hm).pl ↥0 λd' g2 y2 hd x2=>?_;refine fin y2 ?_ rfl (U8 he rfl<|.inr hd) x2 .non;show(Y.cc.br.lookup e.num).map _=_;rw[show Y.cc.br.lookup e.num=fw e.B from Z6 gd.nd<|Ñ.mpr ⟨e,hm,rfl⟩];unfold Yd.cc;dsimp only;rw[UU (F:=Br.ticked) he key];rfl
 |come p =>
  show wF P (n+5) "Yard.come" [.ref Y.y,.int p] g Q' X;by_cases hp:0<=p/\p<Y.road.length
  .obtain⟨q,rfl⟩:∃q:Nat,p=q:=⟨p.toNat,by lia⟩
   have hr:=Ê (l:=Y.road) (i:=q) ↥0;generalize Y.road[q]'↥0=r at hr;have st:step Y.cc (.come q)=fw {Y.cc with br:=upC r.2.1 (Z1 · r.2.2.1 r.2.2.2) Y.cc.br,road:=Y.road.eraseIdx q}:=by show(if(q:Int)<0 then fx else(Y.road[(q:Int).toNat]?).map _)=_;rw[hZ ↥0,ç,hr];rfl
   cases lk:(stands Y.es).lookup r.2.1 with
   |none =>refine DF x' hr ↥0 (MR lk) λg2 y2 x2=>fin y2 ?_ rfl (λa ha=>.inl ha) x2 .non;rw[st];unfold Yd.cc;dsimp only;rw[<-Jg,Wm<|MR lk]
   |some a =>
    let⟨e,pre,ĺ,he,hn,rfl⟩:=Xp lk;have hm:e∈Y.es:=by rw[he];simp
    refine Fv x' hr ↥0 he hn.symm (oks e hm) λg2 y2 x2=>fin y2 ?_ rfl (U8 he rfl<|.inl rfl) x2 .non;rw[st];unfold Yd.cc;dsimp only;rw[<-hn,UU (F:=(Z1 · r.2.2.1 r.2.2.2)) he key]
  .exact bad<|Uy hp
 |lost p =>
  show wF P (n+5) "Yard.take_off" [.ref Y.y,.int p] g Q' X;by_cases hp:0<=p/\p<Y.road.length
  .obtain⟨q,rfl⟩:∃q:Nat,p=q:=⟨p.toNat,by lia⟩
   have hr:=Ê (l:=Y.road) (i:=q) ↥0;refine XZ x' hr ↥0 λg2 y2 x2=>fin y2 ?_ rfl (λa ha=>.inl ha) (x2.sub λa ha=>by rw[Å.mp ha];exact Ô _<|by simp) _;show(if(q:Int)<0 then fx else(Y.road[(q:Int).toNat]?).map _)=_;rw[hZ ↥0,ç,hr];rfl
  .exact bad<|Uy hp
 |fallB b =>
  show wF P (n+5) "Yard.fall_of_bridge" [.ref Y.y,.int b] g Q' X;have lc:=WG (Y:=Y) (b:=b);cases lk:(stands Y.es).lookup b with
  |none =>rw[lk]at lc;exact bad (hZ<|by rw[lc];decide)
  |some a =>
   rw[lk]at lc;refine Dk no x' oks (by rw[<-ZJ];exact ã (f:=(·.1))<|Zd lk) λg2 y2 gd2 x2=>?_;have sm:=YT (gW b 0 Y.ts) {Y with es:=Yw b Y.es};refine fin y2 ?_ sm.y (λa ha=>.inl ?_) x2 .non
   .rw[OG];refine(hX lc).trans ?_;congr 2;unfold Yd.cc;dsimp only;congr 1;unfold Zs enC Yw;rw[List.filter_map];rfl
   .rw[sm.adr]at ha;exact((Œ _).append<|W6<|Xy b Y.es).subset ha
 |fallT p =>
  show wF P (n+5) "Yard.fall_of_tie" [.ref Y.y,.int p] g Q' X;have htl:(Y.ts.map trV).length=Y.ts.length:=Á _;by_cases hp:0<=p/\p<Y.ts.length
  .obtain⟨q,rfl⟩:∃q:Nat,p=q:=⟨p.toNat,by lia⟩
   have et:=Ê (l:=Y.ts) (i:=q) ↥0;have eg:Y.ts[(q:Int).toNat]?.getD (0,0,0)=Y.ts[q]'↥0:=by rw[ç,et];rfl
   cases lk:Y.fallen.lookup (q:Int)with
   |none =>
    refine Eg no x' oks et lk ↥0 λg2 y2 x2=>fin y2 ?_ rfl (λa ha=>.inl ?_) x2 .non
    .refine(hX ⟨hp,by show(Y.fallen.lookup _).isSome=fz;rw[lk];rfl⟩).trans<|congrArg fw ?_;have:=Uf (Y:={Y with fallen:=Zo Y.fallen q fy}) (p:=q);dsimp only at this;rw[eg]at this;exact this.symm
    .unfold Yd.adr at ha ⊢;dsimp only at ha
     rwa [JD]at ha
   |some v =>exact bad (hZ λz=>by have z:=z.2;have:(Y.fallen.lookup (q:Int)).isSome=fz:=z;rw[lk]at this;cases this)
  .exact bad<|hZ λz=>hp z.1
 |backB b =>
  show wF P (n+5) "Yard.back_of_bridge" [.ref Y.y,.int b] g Q' X;have lc:=WG (Y:=Y) (b:=b);cases ll:Y.lives.lookup b with
  |none =>
   refine bad ?_;dsimp only[step];split
   .rfl
   .show(Y.lives.lookup b).map _=fx;rw[ll];rfl
  |some life =>
   cases lk:(stands Y.es).lookup b with
   |some a =>rw[lk]at lc;exact bad<|hX lc
   |none =>
    rw[lk]at lc;refine CC no x' oks ll (MR lk) ↥0 ↥0 λq t d' g2 fr y2 gd2 x2=>?_;have sm:=YT (gW b 0 Y.ts) {Y with lives:=Zo Y.lives b<|life+1,es:=Y.es++[⟨b,q,t,d',ZR b (life+1) Y.most []⟩]};refine fin y2 ?_ sm.y (λa ha=>?_) x2 .non
    .rw[OG];refine(hZ<|by rw[lc];decide).trans ?_;show(Y.lives.lookup b).map _=_;rw[ll];congr 2;unfold Yd.cc;dsimp only;unfold enC;rw[Õ];rfl
    .rw[sm.adr]at ha;have z:a∈[Y.y,Y.lv,Y.st,Y.fl,Y.rd]++enA (Y.es++[⟨b,q,t,d',ZR b (life+1) Y.most []⟩]):=ha;rw[Wk,<-Ć]at z;rcases Ò.mp z with z|z
     .exact .inl z
     .exact .inr<|fr a z
 |backT p =>
  show wF P (n+5) "Yard.back_of_tie" [.ref Y.y,.int p] g Q' X;cases lk:Y.fallen.lookup p with
  |none =>exact bad (hZ<|by show ¬(Y.fallen.lookup p).isSome=fy;rw[lk];decide)
  |some v =>
   have hp:=gd.fr _<|Zd lk;have eN:p<Y.ts.length:=hp.2;obtain⟨q,rfl⟩:∃q:Nat,p=q:=⟨p.toNat,by have:0<=p:=hp.1;lia⟩
   have et:=Ê (l:=Y.ts) (i:=q) ↥0;have eg:Y.ts[(q:Int).toNat]?.getD (0,0,0)=Y.ts[q]'↥0:=by rw[ç,et];rfl
   refine D9 no x' oks et lk λg2 y2 x2=>fin y2 ?_ rfl (λa ha=>.inl ?_) x2 .non
   .refine(hX<|by show(Y.fallen.lookup _).isSome=fy;rw[lk];rfl).trans<|congrArg fw ?_;have:=Uf (Y:={Y with fallen:=Zs Y.fallen q}) (p:=q);dsimp only at this;rw[eg]at this;exact this.symm
   .unfold Yd.adr at ha ⊢;dsimp only at ha
    rwa [JD]at ha
end
abbrev Yc.at_(C:Yc)(b:Int):Br:=(C.br.lookup b).getD<|ZR 0 0 0 []
abbrev Yc.keys(C:Yc):List Int:=sortI (C.br.map (·.1))
abbrev Uu(C:Yc)(b p:Int):String:=if(C.br.lookup b).isSome then UB (C.at_ b) p else "down"
abbrev Yc.ends(C:Yc)(p:Int):String×String:=(Uu C (C.tie p).1 p,Uu C (C.tie p).2.1 p)
abbrev Yc.downs(C:Yc):List Int:=C.bs.filter λb=>!(C.br.lookup b).isSome
abbrev Yc.cuts(C:Yc):List Int:=sortI (C.fallen.map (·.1))
abbrev Hh(C:Yc):List Val:=C.keys.map λb=>.tup [.int b,pV ((C.at_ b).life,(C.at_ b).version)]
def Yc.gd.ten(g:C.gd N):(C.br.map (·.1)).length<=10:=Û (Ul g.nd<|keys_sub.mp g.sub) g.no.ten
def Yc.gd.f16(g:C.gd N):(C.fallen.map (·.1)).length<=16:=Yk (m:=16) g.fn λx hx=>by let⟨q,hq,rfl⟩:=Ñ.mp hx;have:=g.fr q hq;have:=g.no.sixteen;lia
def On:C.keys.length=(C.br.map (·.1)).length:=(Ŭ _ _).length_eq
def keys_mem{b:Int}:b∈C.keys↔(C.br.lookup b).isSome=fy:=by unfold Yc.keys;rw[mem_sort,keys_look]
def fP.at_(x:fP h Y){b:Int}(hb:(Y.cc.br.lookup b).isSome=fy):∃e∈Y.es,e.num=b/\(O.stands Y.es).lookup b=fw e.b/\Y.cc.at_ b=e.B/\fO h e.b e.t e.d e.B:=by
 rw[WG]at hb;let⟨a,ha⟩:=å.mp hb;let⟨e,pre,ĺ,he,rfl,rfl⟩:=Xp ha;have hm:e∈Y.es:=by rw[he];simp
 refine⟨e,hm,rfl,ha,?_,x.brs e hm⟩;have:(enC Y.es).lookup e.num=fw e.B:=Z6 (by rw[Wq];exact x.key)<|Ñ.mpr ⟨e,hm,rfl⟩;show((enC Y.es).lookup e.num).getD _=_;rw[this];rfl
section
variable {N:Nat}
def Ab(x:fP h Y)(k:∀p g,h p=fx->Ext h g->g p=fw (.lst<|Y.road.map rdV)->Q (.ref p) g):wF P (n+1) "Yard.road" [.ref Y.y] h Q X:=by have xi:=x.ins;have xr:=x.road;refine N0 ?_;refine' Ze k
def UX(x:fP h Y)(k:Q (ZG Y.bs Y.ts) h):wF P (n+1) "Yard.net" [.ref Y.y] h Q X:=by have xi:=x.ins;refine OZ ?_;refine' k
def Wh(x:fP h Y)(gd:Y.cc.gd N)(k:∀g,Ext h g->Q (.tup [.tup<|Y.cc.downs.map .int,.tup<|Y.cc.cuts.map .int]) g):wF P (n+1) "Yard.down" [.ref Y.y] h Q X:=by
 have xi:=x.ins;have xs:=x.stand;have hbl:(Y.bs.map Val.int).length<=10:=by rw[Á];exact gd.no.ten
 refine Nw ?_
 exists fI (xs:=[.tup<|Y.bs.map .int,.tup<|Y.ts.map trV]) (v:=.tup<|Y.bs.map .int) rfl
 refine' ⟨Ù hbl ↥1,Xm (λi ys g=>g=h/\ys=((Y.bs.take i).filter λb=>!(Y.cc.br.lookup b).isSome).map .int) ⟨rfl,rfl⟩ (λ_ _ _ _ _=>trivial) ?_ ?_⟩
 .rintro i v ys g hv ⟨rfl,rfl⟩ K hK;let⟨b,hb,rfl⟩:=ZL hv;rw[Zq hb,Ľ,Ā,υ]at hK
  exists XE xs rfl
  rw[YF,<-WG];refine' gN (λhc=>?_) (λhc=>?_)
  .refine' hK _ _ ⟨rfl,by rw[hc,hX rfl,Õ];rfl⟩
  .exact hK _ _ ⟨rfl,by rw[hc,hZ ↥1,ï,dn,ï]⟩
 rintro ys g ⟨rfl,rfl⟩;rw[Á,ü];refine Ze λp1 g1 bx x1 e1=>?_;have x':=x.ext x1;have xi:=x'.ins;have xf:=x'.fallen;refine' OM xf (Cg _) (by have:=gd.f16;show(Y.cc.fallen.map (·.1)).length<_;lia) (Ze λp2 g2 eN x2 e2=>?_);refine' k _ (x1.trans x2)
def NO{b p:Int}(x:fP h Y)(k:Q (.str<|Uu Y.cc b p) h):wF P (n+4) "Yard.end_at" [.ref Y.y,.int b,.int p] h Q X:=by
 have xi:=x.ins;have xs:=x.stand;refine Kp ?_
 exists XE xs rfl
 rw[YF,<-WG];fail;unfold Uu at k;cases z:(Y.cc.br.lookup b).isSome with
 |false =>rw[z]at k;walk_at "p";exact k
 |true =>rw[z,hX rfl]at k;let⟨e,he,en,lk,ea,ba⟩:=x.at_ z;have bi:=ba.ins;walk_at "p";refine ZB xs rfl (by rw[ZO,lk];rfl) ?_;fail;rw[ea]at k;exact LI ba k
def UJ{p:Nat}(x:fP h Y)(hp:p<Y.ts.length)(k:Q (.tup [.str (Y.cc.ends p).1,.str (Y.cc.ends p).2]) h):wF P (n+5) "Yard.ends" [.ref Y.y,.int p] h Q X:=by
 have xi:=x.ins;have htl:(Y.ts.map trV).length=Y.ts.length:=Á _;have eg:Y.cc.tie p=Y.ts[p]:=by show Y.ts[(p:Int).toNat]?.getD _=_;rw[ç,Ê hp];rfl
 refine NR ?_
 exists Xg
 fail;refine gK (by simp) ?_
 exists fI (xs:=[.tup<|Y.bs.map .int,.tup<|Y.ts.map trV]) (v:=.tup<|Y.ts.map trV) rfl
 fail;refine gL (by rw[htl];simpa using hp) ?_
 exists fI (xs:=[.tup<|Y.bs.map .int,.tup<|Y.ts.map trV]) (v:=.tup<|Y.ts.map trV) rfl
 refine' fI (v:=trV Y.ts[p]) (YO ↥0<|by rw[ç,Ú,Ê hp];rfl) ?_;unfold Yc.ends at k;rw[eg]at k;unfold trV
 exists NO x
 exists NO x
 refine' k
def Ww(x:fP h Y)(gd:Y.cc.gd N)(k:∀p g,h p=fx->Ext h g->g p=fw (.lst<|Hh Y.cc)->Q (.ref p) g):wF P (n+2) "Yard.stamps" [.ref Y.y] h Q X:=by
 have xi:=x.ins;have xs:=x.stand;have ek:(stands Y.es).map (·.1)=Y.cc.br.map (·.1):=(ZJ _).trans (Wq _).symm;have h10:=gd.ten;have kl:=On (C:=Y.cc);refine Km ?_;refine' OM xs (Cg _) (by rw[ek];lia) (Ze λp1 g1 bx x1 e1=>?_);rw[ek]at e1;have x':=x.ext x1;have xi:=x'.ins;have xs:=x'.stand;refine' ⟨Ù (by rw[Á];show Y.cc.keys.length<=10;lia) ↥1,?_⟩;refine Xm (λi ys g=>g=g1/\ys=(Y.cc.keys.take i).map λb=>.tup [.int b,pV ((Y.cc.at_ b).life,(Y.cc.at_ b).version)]) ⟨rfl,rfl⟩ (λi ys g _ ⟨z,_⟩=>by rw[z];exact lsE e1) ?_ ?_
 .rintro i v ys g hv ⟨rfl,rfl⟩ K hK;let⟨nm,hnm,rfl⟩:=ZL hv;let⟨e,he,en,lk,ea,ba⟩:=x'.at_<|keys_mem.mp<|ä hnm;have bi:=ba.ins;walk_at "p";refine ZB xs rfl (by rw[ZO,lk];rfl) ?_
  exists ZS ba
  refine' hK _ _ ⟨rfl,?_⟩;rw[Zq (xs:=Y.cc.keys) hnm,Õ,<-ea];rfl
 .rintro ys g ⟨rfl,rfl⟩;rw[Á,show(sortI (Y.cc.br.map (·.1))).length=Y.cc.keys.length from rfl,ü];exact Ze λp g2 hp x2 ep=>k p g2 (Z9 x1 hp) (x1.trans x2) ep
end
abbrev Row(h:Hs)(w:Ad):Prop:=∃a b:Int,h w=fw (.lst [.int a,.int b])/\0<=b/\b<2147483587
def Row.ne(x:Row h w)(e:h p=fx):w≠p:=by let⟨_,_,x,_⟩:=x;exact Za x e
def Row.ext(x:Row h w)(e:Ext h g):Row g w:=by let⟨_,_,x,y⟩:=x;exact⟨_,_,e.get x,y⟩
def Ig{i:Int}(e:h a=fw (.lst<|ns.map .int))(q:KB (!ik (i∈ns))):go (fU h .notin (.int i)<|.ref a) KB:=fH (by show(inV h (.int i)<|.ref a).map _=_;unfold inV;simp![e];rw[M0];rfl) q
def lset(e:h a=fw (.lst<|ns.map .int))(m:ns.length<4000)(q:Q (.int (dedup ns).length) h):(biV h .lenSet [.ref a]).wp h Q:=wp_val (by show biLenSet h (.ref a)=_;unfold biLenSet sortOf;simp![e,fQ,ö,Yq];rw[hX m]) q
def Mh:∀(ns:List Int),(dedup ns).length=ns.length↔ns.Nodup
 |[]=>by simp[dedup]
 |n::ns=>by
  have h1:=Ji ns;have h2:=ľ (λy=>y != n)<|dedup ns;have ih:=Mh ns;rw[dedup,Î,Î,ô];constructor
  .intro h;have h3:(List.filter (λy=>y != n)<|dedup ns).length=(dedup ns).length:=by lia
   have h4:=ao.mp h3;refine⟨λhm=>?_,ih.mp<|by lia⟩;have:=h4 n<|mem_dedup.mpr hm;simp at this
  .rintro⟨h3,h4⟩;have h5:=ih.mpr h4;have h6:(List.filter (λy=>y != n)<|dedup ns).length=(dedup ns).length:=ao.mpr λy hy=>by
    have:=mem_dedup.mp hy;simp![bne_iff_ne,ne_eq];rintro rfl;exact h3 this
   lia
def Row.exb(x:Row h w)(n:p≠w):Row (upd h p o) w:=by let⟨_,_,x,y⟩:=x;exact⟨_,_,(fA n.symm).trans x,y⟩
def Oc(x:ExtB w h g)(e:h p=fx):ExtB w h<|upd g p o:=⟨λ{a u} n z=>by rw[fA<|Za z e];exact x.get n z⟩
def UF(k:∀p g,h p=fx->Ext h g->Row g p->Q (.ref p) g):wF P (n+1) "_law_row" [.int c] h Q X:=by refine AT ?_;refine' Ze λp g hp x e=>k p g hp x ⟨_,_,e,ϛ _ ↥1,Ν _<|by decide⟩
def Zc(hw:Row h w)(h1:0<m)(h2:m<1073741824)(k:∀r g,0<=r->r<m->ExtB w h g->Row g w->Q (.int r) g):wF P (n+1) "_law_take" [.ref w,.int m] h Q X:=by
 let⟨a,b,e,b0,b1⟩:=hw;refine OI ?_;refine' gM (λhc=>?_) (λhc=>?_)<;>fail
 .exact k _ _ (ϛ _<|by lia) (Ν _ h1) ExtB.upd ⟨_,_,fB,b0,b1⟩
 .exact k _ _ (ϛ _<|by lia) (Ν _ h1) ExtB.upd ⟨_,_,fB,ϛ _ ↥1,Ν _<|by decide⟩
abbrev TOk(ns:List Int)(t:Tie):Prop:=t.1∈ns/\t.2.1∈ns/\t.1≠t.2.1/\1<=t.2.2/\t.2.2<=1000
abbrev IsT(ns:List Int)(v:Val):Prop:=∃t:Tie,v=trV t/\TOk ns t
def Rv(nd:ns.Nodup){i j:Int}{a b:Int}(i0:0<=i)(i1:i<ns.length)(j0:0<=j)(j1:j<ns.length)(hij:i≠j)(ea:atI (ns.map Val.int) i=fw (.int a))(eb:atI (ns.map Val.int) j=fw (.int b)):a≠b:=by
 have hi:i.toNat<ns.length:=by lia
 have hj:j.toNat<ns.length:=by lia
 have e1:=YO (xs:=ns.map Val.int) i0 (x:=.int ns[i.toNat]) (by rw[Ú,Ê hi];rfl);have e2:=YO (xs:=ns.map Val.int) j0 (x:=.int ns[j.toNat]) (by rw[Ú,Ê hj];rfl);rw[ea]at e1;rw[eb]at e2;simp only[Ĭ,Val.int.injEq]at e1 e2;rw[e1,e2];intro z;have:=(av nd).mp z;lia
abbrev less(t:Tie):Tie:=(if t.2.1<t.1 then t.2.1 else t.1,if t.2.1 > t.1 then t.2.1 else t.1,t.2.2)
def GT{t:Tie}(h:TOk ns t):LOk ns<|less t:=by
 let⟨h1,h2,h3,h4,h5⟩:=h;unfold less LOk;by_cases z:t.2.1<t.1
 .rw[hX z,hZ<|by lia];exact⟨h2,h1,z,h4,h5⟩
 .rw[hZ z,hX<|by lia];exact⟨h1,h2,by show t.1<t.2.1;lia,h4,h5⟩
def UM:∀{ys:List Val},(∀y∈ys,IsT ns y)->∃zs:List Tie,ys=zs.map trV/\∀z∈zs,TOk ns z
 |[],_=>⟨[],rfl,by simp⟩
 |y::ys,h=>by let⟨t,rfl,ht⟩:=h y (by simp);let⟨zs,rfl,hz⟩:=UM (ys:=ys) λz hz=>h z<|â _ hz;exact⟨t::zs,rfl,λz hz'=>(Ç.mp hz').elim (λe=>e▸ht)<|hz z⟩
def isl{xs:List Val}(e:h a=fw (.lst xs))(q:Q (.bl fy) h):(biV h (.isi ["list"]) [.ref a]).wp h Q:=QP (by unfold isiAny isiAny hV hU;simp![e];rfl) q
variable {lo:Int}
def Mw{i hi:Int}(h1:lo<=i)(h2:i<=hi)(k:Q (.bl fy) h):wF P (n+2) "is_whole_between" [.int i,.int lo,.int hi] h Q X:=by
 refine X6 ?_
 exists XO
 walk_at "p";refine gK ⇑h1 ?_;fail;rw[ig h2];exact k
def Wn{i:Int}(k:Q (.bl fy) h):wF P (n+1) "is_whole" [.int i] h Q X:=by refine XO ?_;walk_at "p";exact k
def Uz{xs:List Val}:xs.filterMap (λ_=>fw<|Val.bl fy)=(xs.map λ_=>fy).map Val.bl:=by rw[ë];exact congrFun (cr (f:=Val.bl ∘ λ_=>fy)) xs
def Pd(e:h a=fw (.lst<|ns.map .int))(l2:ns.length<=10)(hb:Brs ns)(nd:ns.Nodup)(k:∀g,Ext h g->Q (.bl fy) g):wF P (n+3) "are_bridges" [.ref a] h Q X:=by
 refine Kj ?_;have hL:(ns.map Val.int).length=ns.length:=Á _;refine' ⟨Ù (by rw[hL];exact l2) ↥1,Yx (λ_=>fw<|.bl fy) (lsE e) (λv hv K hK=>?_) ?_⟩
 .obtain⟨i,hi,rfl⟩:=Ñ.mp hv;walk_at "p";exact Mw (hb i hi).1 (by have:=(hb i hi).2;lia) hK
 rw[Uz];refine Ze λp g hp x ep=>?_
 exists OH ep (YJ _)
 fail;refine gL (by simp) ?_;have e':=x.get e;refine' lset e' ↥0 ?_;fail;have:ik (((dedup ns).length:Int)=((ns.map Val.int).length:Int))=fy:=ig (by rw[hL];have:=(Mh ns).mpr nd;lia);rw[this];exact k g x
def P6{t:Tie}(ht:TOk ns t)(e:h b=fw (.lst<|ns.map .int))(k:Q (.bl fy) h):wF P (n+3) "is_tie" [trV t,.ref b] h Q X:=by
 let⟨i,j,c⟩:=t;let⟨h1,h2,h3,h4,h5⟩:=ht;unfold trV;dsimp only at h1 h2 h3 h4 h5 ⊢;refine B4 ?_;walk_at "p";refine Wn ?_;walk_at "p";refine Wn ?_;walk_at "p";refine Ig e ?_;fail;refine gL ⇑h1 ?_
 exists Ig e
 fail;refine gL ⇑h2 ?_;fail;refine gK ⇑h3 ?_;refine' Mw h4 h5 k
def F8{t:Tie}(k:Q (trV<|less t) h):wF P (n+1) "lesser_end_first" [trV t] h Q X:=by let⟨i,j,c⟩:=t;unfold trV;refine X0 ?_;refine' k
def GP{zs:List Tie}(eb:h b=fw (.lst<|ns.map .int))(et:h t=fw (.lst<|zs.map trV))(l1:1<=ns.length)(l2:ns.length<=10)(hb:Brs ns)(nd:ns.Nodup)(lt:zs.length<=16)(hz:∀z∈zs,TOk ns z)(k:∀g,Ext h g->Q (ZG (sortI ns)<|zs.map less) g):wF P (n+4) "make_net" [.ref b,.ref t] h Q X:=by
 have hL:(ns.map Val.int).length=ns.length:=Á _;have hT:(zs.map trV).length=zs.length:=Á _;refine ON ?_;refine FP<|QC<|Tq<|IS<|IN<|RM<|DP<|IL rfl<|C8<|isl eb<|g_tbl ?_;refine gL rfl ?_;refine IS<|IN<|RM<|DP<|IL rfl<|C8<|isl et<|g_tbl ?_;refine gL rfl ?_;fail;refine gK (by simpa using (by lia:(1:Int)<=(ns.map Val.int).length)) ?_;fail;refine gL (by simpa using (by lia:(ns.length:Int)<=10)) ?_;fail;refine gL (by simpa using (by lia:(zs.length:Int)<=16)) ?_;refine' Pd eb l2 hb nd λg x=>?_;fail;refine gL rfl ?_;have eb':=x.get eb;have et':=x.get et;refine' ⟨Ù (by rw[hT];exact lt) ↥1,Yx (λ_=>fw<|.bl fy) (lsE et') (λv hv K hK=>?_) ?_⟩
 .obtain⟨z,hz',rfl⟩:=Ñ.mp hv;walk_at "p";exact P6 (hz z hz') eb' hK
 rw[Uz];refine Ze λp g2 hp x2 ep=>?_
 exists OH ep (YJ _)
 fail;refine gL (by simp) ?_;have eb2:=x2.get eb';have et2:=x2.get et';refine' Lu eb2 (Yq _) ↥0 ?_;refine Ze λp3 g3 hp3 x3 ep3=>?_;have et3:=x3.get et2;refine' ⟨Ù (by rw[hT];exact lt) ↥1,Xm (λi ys g=>g=g3/\ys=(zs.take i).map λz=>trV<|less z) ⟨rfl,rfl⟩ (λ_ _ g _ z=>by rw[z.1];exact lsE et3) (λi v ys g hv hI K hK=>?_) λys g hI=>?_⟩
 .obtain⟨rfl,rfl⟩:=hI;rw[Ú]at hv;let⟨z,hz',rfl⟩:=Ë.mp hv;walk_at "p";refine F8<|hK _ _ ⟨rfl,?_⟩;rw[Ť,hz',Õ];rfl
 .obtain⟨rfl,rfl⟩:=hI;rw[hT,ü];refine Ze λp4 g4 hp4 x4 ep4=>?_;fail;have e:ZG (sortI ns) (zs.map less)=.tup [.tup<|(sortI ns).map .int,.tup<|zs.map λz=>trV<|less z]:=by unfold ZG;rw[ë];rfl
  rw[e]at k;exact k _<|((x.trans x2).trans x3).trans x4
def Da(h:(gq lo m)[i]?=fw v):v=.int (lo+i)/\lo+(i:Int)<m:=by unfold gq at h;rw[Ú]at h;let⟨k,hk,rfl⟩:=Ë.mp h;let⟨Ϭ,rfl⟩:=Ó.mp hk;rw[ı]at Ϭ;rw[eF];exact⟨rfl,by lia⟩
def E6:(gq lo m).length=(m - lo).toNat:=by unfold gq;rw[Á,ı]
def De(f:α->β)(ix:List Nat)(xs:List α):pickL ix (xs.map f)=(pickL ix xs).map f:=by unfold pickL;rw[List.map_filterMap];exact congrArg (λf=>List.filterMap f ix) (funext λi=>Ú)
def CS(h:x∈pickL ix xs):x∈xs:=by let⟨i,_,h⟩:=Ŗ.mp h;exact ä h
def Qp(hw:Row h w)(k:∀bs ts g,f8 bs ts->ExtB w h g->Row g w->Q (ZG bs ts) g):wF P (n+5) "_law_net" [.ref w] h Q X:=by
 refine Bz ?_;refine' Ze λp0 f2 hp0 y2 e0=>?_;have n0:p0≠w:=λz=>hw.ne hp0 z.symm;refine' Zc (hw.ext y2) ↥1 ↥1 λr9 g0 a9 b9 y3 w0=>?_;have e0:=y3.get n0 e0;have x0:ExtB w h g0:=(ExtB.of y2).trans y3;walk_at "py1";walk_at "w";let⟨u0,eu0,hu0⟩:=YN (xs:=[Val.int 6,.int 10]) (r:=if ik (r9=0)=fy then 1 else 0) (by split<;>decide) (by show _<(2:Int);split<;>decide);obtain⟨mn,rfl,a0,b0⟩:∃mn:Int,u0=.int mn/\1<=mn/\mn<=10:=by simp![Ç,Ö,or_false]at hu0;rcases hu0 with rfl|rfl<;>exact⟨_,rfl,by lia,by lia⟩
 refine in_bl ?_;refine ZZ e0 eu0 ?_;clear e0 eu0 hu0;refine' Zc w0 ↥0 ↥0 λr1 f1 a1 b1 y1 v1=>?_;have x0:=x0.trans y1;refine' Ze λp1 g1 bx x1 e1=>?_;have n1:p1≠w:=λz=>v1.ne bx z.symm;refine' Zc (v1.ext x1) ↥1 ↥1 λr2 g2 a2 b2 x2 w2=>?_;let⟨v,ev,hv⟩:=YN (xs:=[Val.int 1,.int 3,.int 10,.int 90]) (r:=r2) a2 b2;obtain⟨st,rfl,s1,s2⟩:∃st:Int,v=.int st/\1<=st/\st<=90:=by simp![Ç,Ö,or_false]at hv;rcases hv with rfl|rfl|rfl|rfl<;>exact⟨_,rfl,by decide,by decide⟩
 refine ZZ (x2.get n1 e1) ev ?_;have xh:ExtB w h g2:=(x0.trans<|.of x1).trans x2;clear e1 ev hv;refine' ⟨⟨by lia,by lia⟩,by rw[MO];exact Ù (by lia:(1+r1).toNat<=10) ↥1,?_⟩;refine Xm (λi ys g=>∃ns:List Int,ys=ns.map Val.int/\ns.length=i/\Brs ns/\ExtB w h g/\Row g w) ⟨[],rfl,rfl,(λi hi=>ij hi Ö),xh,w2⟩ (λ_ _ _ _ _=>trivial) ?_ ?_
 .rintro i v ys g hv ⟨ns,rfl,hl,hb,x,hr⟩ K hK;let⟨rfl,hi⟩:=Wp hv;walk_at "p";refine Zc hr ↥1 ↥1 λr3 g3 a3 b3 x3 w3=>?_;have m1:2*(i:Int)+r3<=19:=by lia
  have m2:st*(2*(i:Int)+r3)<=90*19:=Int.le_trans (Int.mul_le_mul_of_nonneg_right s2<|by lia) (Int.mul_le_mul_of_nonneg_left m1<|by decide);have m3:0<=st*(2*(i:Int)+r3):=ϩ ↥0 ↥0;refine' hK _ _ ⟨ns++[st*(2*(i:Int)+r3) / 2],by rw[Õ];rfl,by rw[ì,hl];rfl,λj hj=>?_,x.trans x3,w3⟩;rcases Ò.mp hj with hj|hj
  .exact hb j hj
  .rw[Å.mp hj];lia
 .rintro ys g ⟨ns,rfl,hl,hb,x,hr⟩;rw[MO]at hl;have l1:1<=ns.length:=by lia
  have l2:ns.length<=10:=by lia
  refine Ze λp5 g5 hp5 x5 e5=>?_;refine' SI e5 ↥0 (Ze λb g6 hb6 x6 eb=>?_);have hrb:Brs<|sortI<|dedup ns:=λi hi=>hb i<|sd_mem.mp hi;have nd:=Ee ns;have l3:=LR l1;have l4:=Lv ns;generalize sortI (dedup ns)=bs at eb hrb nd l3 l4;have w6:=(hr.ext x5).ext x6;have nb:b≠w:=λz=>(hr.ext x5).ne hb6 z.symm;have xh6:ExtB w h g6:=x.trans<|.of<|x5.trans x6;clear e5 x6 x5 hp5 hr x hb;have hL:(bs.map Val.int).length=bs.length:=Á _;refine' Ze λt g7 ht7 x7 e7=>?_;have nt:t≠w:=λz=>w6.ne ht7 z.symm;have ntb:t≠b:=λz=>Za eb ht7 z.symm;have w8:=w6.ext x7;have xh8:ExtB w h g7:=xh6.trans<|.of x7;have eb8:=x7.get eb;have e8:=e7;clear e7 eb;have ht0:h t=fx:=by
   cases z:h t with
   |none=>rfl
   |some o=>rw[xh6.get nt z]at ht7;cases ht7
  refine' ⟨⟨by lia,by lia⟩,?_⟩;refine Zh (λi en g=>Sm5 λv3 v6 v7 v8 ts=>Cj7 (en=[fw<|.ref w,fw<|.int<|1+r1,fw<|.int st,v3,fw<|.ref b,fw<|.ref t,v6,v7,v8]) (g t=fw (.lst ts)) (ts.length<=i) ((∀t∈ts,IsT bs t)) (g b=fw (.lst<|bs.map .int)) (ExtB w h g)<|Row g w) ⟨_,_,_,_,[],rfl,e8,Ì _,(λi hi=>ij hi Ö),eb8,xh8,w8⟩ (λ_ _ _ _ _=>trivial) ?_ ?_
  .rintro i v en g hv ⟨v3,v6,v7,v8,ts,rfl,et,hl,ht,eR,x,hr⟩ K hK;let⟨rfl,hi⟩:=Da hv;have hi:1+(i:Int)<bs.length:=by rw[hL]at hi;exact hi
   refine' Zc hr ↥0 ↥0 λq1 g1 a1 b1 x1 w1=>?_;refine' gM (λhc=>?_) (λhc=>?_)
   .refine' Zc w1 ↥0 ↥0 λq2 g2 a2 b2 x2 w2=>?_;have eb2:=x2.get nb<|x1.get nb eR;let⟨u2,eu2,hu2⟩:=YN (xs:=bs.map Val.int) (r:=q2) a2 ↥0;let⟨i2,dB,rfl⟩:=Ñ.mp hu2;refine ZZ eb2 eu2 ?_;fail;let⟨u3,eu3,hu3⟩:=YN (xs:=bs.map Val.int) (r:=1+(i:Int)) ↥0 ↥0;let⟨i3,hi3,rfl⟩:=Ñ.mp hu3;refine ZZ eb2 eu3 ?_;refine' Zc w2 ↥0 ↥0 λq4 g4 a4 b4 x4 w4=>?_;have xx:ExtB w g g4:=(x1.trans x2).trans x4;have et4:=xx.get nt et;refine' ZD et4 (Ù (by lia:ts.length<=20)<|by decide) ?_;dsimp only;refine' hK _ _ ⟨_,_,_,_,_,rfl,fB,by rw[ì];simp;lia,λz hz=>?_,(fA ntb.symm).trans<|xx.get nb eR,Oc (x.trans xx) ht0,w4.exb nt⟩;rcases Ò.mp hz with hz|hz
    .exact ht z hz
    .rw[Å.mp hz];exact⟨(i2,i3,1+q4),rfl,dB,hi3,Rv nd a2 ↥0 ↥0 ↥0 ↥0 eu2 eu3,by show 1<=1+q4;lia,by show 1+q4<=1000;lia⟩
   .refine' hK _ _ ⟨_,_,_,_,_,rfl,x1.get nt et,by lia,ht,x1.get nb eR,x.trans x1,w1⟩
  .rintro en g ⟨v3,v6,v7,v8,ts,rfl,et,hl,ht,eR,x,hr⟩;have hl:ts.length<=16:=by rw[E6,hL]at hl;lia
   refine' Zc hr ↥1 ↥1 λr8 g8 a8 b8 x8 w8=>?_;refine' ⟨⟨by lia,by lia⟩,?_⟩;refine Zh (λi en g=>Sm5 λv3 v6 v7 v8 ts=>Cj7 (en=[fw<|.ref w,fw<|.int<|1+r1,fw<|.int st,v3,fw<|.ref b,fw<|.ref t,v6,v7,v8]) (g t=fw (.lst ts)) (ts.length<=16) ((∀t∈ts,IsT bs t)) (g b=fw (.lst<|bs.map .int)) (ExtB w h g)<|Row g w) ⟨_,_,_,_,ts,rfl,x8.get nt et,hl,ht,x8.get nb eR,x.trans x8,w8⟩ (λ_ _ _ _ _=>trivial) ?_ ?_
   .rintro i v en g hv ⟨v3,v6,v7,v8,ts,rfl,et,hl,ht,eR,x,hr⟩ K hK;let⟨rfl,hi⟩:=Wp hv;refine' Zc hr ↥0 ↥0 λq1 g1 a1 b1 x1 w1=>?_;have eb1:=x1.get nb eR;let⟨u1,eu1,hu1⟩:=YN (xs:=bs.map Val.int) (r:=q1) a1 b1;let⟨i1,hi1,rfl⟩:=Ñ.mp hu1;refine ZZ eb1 eu1 ?_;refine' Zc w1 ↥0 ↥0 λq2 g2 a2 b2 x2 w2=>?_;have eb2:=x2.get nb eb1;let⟨u2,eu2,hu2⟩:=YN (xs:=bs.map Val.int) (r:=q2) a2 b2;let⟨i2,dB,rfl⟩:=Ñ.mp hu2;refine ZZ eb2 eu2 ?_;refine' Zc w2 ↥0 ↥0 λq3 g3 a3 b3 x3 w3=>?_;refine' Zc w3 ↥0 ↥0 λq4 g4 a4 b4 x4 w4=>?_;refine' Ze λp9 g9 hp9 x9 e9=>?_;have n9:p9≠w:=λz=>w4.ne hp9 z.symm;refine' Zc (w4.ext x9) ↥0 ↥0 λq5 g5 a5 b5 x5 w5=>?_;let⟨u3,eu3,hu3⟩:=YN (xs:=[Val.int 1,.int 1,.int 2,.int<|1+q3,.int<|1+q4]) (r:=q5) a5 b5;obtain⟨c,rfl,c0,c1⟩:∃c:Int,u3=.int c/\1<=c/\c<=1000:=by
     simp![Ç,Ö,or_false]at hu3;rcases hu3 with rfl|rfl|rfl|rfl|rfl<;>exact⟨_,rfl,by lia,by lia⟩
    refine ZZ (x5.get n9 e9) eu3 ?_;have xx:ExtB w g g5:=((((x1.trans x2).trans x3).trans x4).trans<|.of x9).trans x5;have et5:=xx.get nt et;have eb5:=xx.get nb eR;refine' Op (λhc=>?_) (λhc=>?_)
    .refine' gM (λhd=>?_) (λhd=>?_)
     .refine' ZD et5 (Ù hl<|by decide) ?_;dsimp only;refine' hK _ _ ⟨_,_,_,_,_,rfl,fB,by rw[ì];simp;lia,λz hz=>?_,(fA ntb.symm).trans eb5,Oc (x.trans xx) ht0,w5.exb nt⟩;rcases Ò.mp hz with hz|hz
      .exact ht z hz
      .rw[Å.mp hz];exact⟨(i1,i2,c),rfl,hi1,dB,hc,c0,c1⟩
     .refine' hK _ _ ⟨_,_,_,_,_,rfl,et5,hl,ht,eb5,x.trans xx,w5⟩
    .walk_at "p";exact hK _ _ ⟨_,_,_,_,_,rfl,et5,hl,ht,eb5,x.trans xx,w5⟩
   .rintro en g ⟨v3,v6,v7,v8,ts,rfl,et,hl,ht,eR,x,hr⟩;let⟨zs,rfl,hz⟩:=UM ht;rw[Á]at hl;refine' Ze λp9 g9 hp9 x9 e9=>?_;have n9:p9≠w:=λz=>hr.ne hp9 z.symm;refine' Zc (hr.ext x9) ↥1 ↥1 λq5 g5 a5 b5 x5 w5=>?_;let⟨u3,eu3,hu3⟩:=YN (xs:=[Val.int 1,.int (-1)]) (r:=q5) a5 b5;obtain⟨c,rfl,c0⟩:∃c:Int,u3=.int c/\c≠0:=by
     simp![Ç,Ö,or_false]at hu3;rcases hu3 with rfl|rfl<;>exact⟨_,rfl,by decide⟩
    refine ZZ (x5.get n9 e9) eu3 ?_;have xx:ExtB w h g5:=(x.trans<|.of x9).trans x5;have eR:=x5.get nb<|x9.get eR;refine' ⟨c0,R0 (x5.get nt<|x9.get et) λix _ il=>?_⟩;rw[Á]at il;rw[De];have hz:∀z∈pickL ix zs,TOk bs z:=λz h=>hz z<|CS h;have pl:(pickL ix zs).length<=ix.length:=Ů _ _;generalize pickL ix zs=zs at hz pl;refine Ze λpc gc hpc xc et=>?_;refine' GP (xc.get eR) et l3 ↥0 hrb nd ↥0 hz λg3 x3=>?_;have hl2:(sortI bs).length=bs.length:=(Ŭ bs _).length_eq;refine k _ _ _ ⟨by lia,by lia,λi hi=>hrb i<|mem_sort.mp hi,WZ nd,by rw[Á];lia,λt ht=>?_⟩ (xx.trans<|.of<|xc.trans x3)<|(w5.ext xc).ext x3;let⟨z,hz',rfl⟩:=Ñ.mp ht;let⟨q1,q2,q3⟩:=GT<|hz z hz';exact⟨mem_sort.mpr q1,mem_sort.mpr q2,q3⟩
abbrev Bg(bs:List Int)(ts:List Tie)(most:Int):Yc:=⟨bs,ts,most,bs.map λb=>(b,0),bs.map λb=>(b,ZR b 0 most<|gW b 0 ts),[],[]⟩
def Sf(nw:YNew bs ts most Y):Y.cc=Bg bs ts most:=by
 have e:enC Y.es=bs.map λb=>(b,ZR b 0 most<|gW b 0 ts):=by rw[<-nw.num,ë];exact Ħ λe he=>by show(e.num,e.B)=(e.num,_);rw[nw.br e he]
 unfold Yd.cc Bg;rw[nw.hb,nw.ht,nw.hm,nw.lives,nw.fallen,nw.road,e]
def F4{b:Int}{ts:List Tie}(h:ts.length<=16):Bok ts.length<|ZR b life most<|gW b 0 ts:=by
 have r:=JV (b:=b) (l:=ts) (k:=0);have rg:∀q∈WL (gW b 0 ts),0<=q.1/\q.1<ts.length:=λq hq=>by let⟨x,hx,rfl⟩:=Ñ.mp hq;have:=r.2 x hx;dsimp only;lia
 refine⟨⟨ă,(λ_ m=>nomatch m),?_,λq hq=>?_⟩,λq hq=>(rg q hq).2⟩
 .show((WL _).map (·.1)).Nodup;rw[U3];exact r.1.imp λz=>by lia
 .have:=rg q hq;lia
def Gx(no:f8 bs ts):(Bg bs ts most).gd 0:=by
 have e1:(bs.map λb=>(b,ZR b 0 most<|gW b 0 ts)).map (·.1)=bs:=by rw[ë];exact œ _
 refine⟨no,?_,keys_sub.mpr ?_,λq hq=>?_,?_,ă,(λ_ m=>nomatch m),Ì _⟩
 .show((bs.map λb=>(b,ZR b 0 most<|gW b 0 ts)).map (·.1)).Nodup;rw[e1];exact no.up.imp λh=>by lia
 .show ∀x∈(bs.map λb=>(b,ZR b 0 most<|gW b 0 ts)).map (·.1),_;rw[e1];exact λ_=>id
 .obtain⟨b,_,rfl⟩:=Ñ.mp hq;exact F4 no.sixteen
 .show(bs.map λb=>(b,(0:Int))).map (·.1)=bs;rw[ë];exact œ _
def KE{b:Int}(h:b∈C.br.map (·.1)):∃D,step C (.tick b)=fw D/\D.br.map (·.1)=C.br.map (·.1):=by let⟨B,hB⟩:=ZN h;refine⟨_,by show(C.br.lookup b).map _=_;rw[hB];rfl,Jv _⟩
def fP.extb(x:fP h Y)(e:ExtB w h g)(nw:w∉Y.adr):fP g Y:=x.keep (S:=[w]) (Ex.ofB e<|by simp) λa ha z=>nw (Å.mp z▸ha)
def Dr{b:Int}(h:b∈C.keys):(step C<|.fallB b).isSome=fy:=by dsimp only[step];rw[hX<|keys_mem.mp h];rfl
def Ho{b:Int}(h:b∈C.keys):(step C<|.tick b).isSome=fy:=by let⟨D,hD,_⟩:=KE<|keys_look.mp<|keys_mem.mp h;rw[hD];rfl
def cut_mem{p:Int}:p∈C.cuts↔(C.fallen.lookup p).isSome=fy:=by unfold Yc.cuts;rw[mem_sort,look_iff];simp
def Ez{p:Int}(h0:0<=p)(h1:p<C.ts.length)(h:p∉C.cuts):(step C<|.fallT p).isSome=fy:=by dsimp only[step];rw[hX ⟨⟨h0,h1⟩,by cases z:(C.fallen.lookup p).isSome with|false=>rfl|true=>exact ij (cut_mem.mpr z) h⟩];rfl
def DB{p:Int}(h:p∈C.cuts):(step C<|.backT p).isSome=fy:=by dsimp only[step];rw[hX<|cut_mem.mp h];rfl
def downs_mem{b:Int}:b∈C.downs↔b∈C.bs/\(C.br.lookup b).isSome=fz:=by unfold Yc.downs;rw[ù];simp
def Ek{b:Int}(g:C.gd N)(h:b∈C.downs):(step C<|.backB b).isSome=fy:=by let⟨h1,h2⟩:=downs_mem.mp h;dsimp only[step];rw[hZ<|by rw[h2];decide];rw[<-g.lv]at h1;let⟨v,hv⟩:=ZN h1;rw[hv];rfl
def MB(h0:0<=r)(h1:r<C.road.length):(step C<|.lost r).isSome=fy/\(step C<|.come r).isSome=fy:=by have e:=Ê (l:=C.road) (i:=r.toNat) ↥0;dsimp only[step];rw[hZ ↥0,e];exact⟨rfl,by rw[hZ<|by lia];rfl⟩
def pick(r0:0<=r)(r1:r<ns.length):∃b∈ns,atI (ns.map Val.int) r=fw (.int b):=by let⟨b,hb,hm⟩:=Ce r0 r1;exact⟨b,hm,YO r0<|by rw[Ú,hb];rfl⟩
abbrev flat:Nat->Val->Bool
 |_,.non=>fy
 |_,.bl _=>fy
 |_,.int _=>fy
 |_,.str _=>fy
 |n+1,.tup xs=>xs.all<|flat n
 |_,_=>fz
def MY{α β:Type}{f:α->Option β}:∀{xs:List α},(∀x∈xs,∃d,f x=fw d)->∃ds,xs.mapM f=fw ds
 |[],_=>⟨[],rfl⟩
 |x::xs,h=>by let⟨d,hd⟩:=h x (by simp);let⟨ds,hds⟩:=MY (xs:=xs) λy hy=>h y (by simp[hy]);exact⟨d::ds,by rw[ļ,hd,hds];rfl⟩
def JU{h:Hs}:∀{n:Nat}{v:Val},flat n v=fy->∃d,dat h n v=fw d
 |0,.non,_=>⟨_,rfl⟩
 |0,.bl _,_=>⟨_,rfl⟩
 |0,.int _,_=>⟨_,rfl⟩
 |0,.str _,_=>⟨_,rfl⟩
 |n+1,.non,_=>⟨_,rfl⟩
 |n+1,.bl _,_=>⟨_,rfl⟩
 |n+1,.int _,_=>⟨_,rfl⟩
 |n+1,.str _,_=>⟨_,rfl⟩
 |n+1,.tup xs,e=>by let⟨ds,hds⟩:=MY (f:=dat h n) (xs:=xs) λx hx=>JU<|ą.mp e x hx;exact⟨_,by show(xs.mapM<|dat h n).map D.tup=_;rw[hds];rfl⟩
def all_map{α:Type}{f:α->Val}{n:Nat}{xs:List α}(h:∀x∈xs,flat n (f x)=fy):(xs.map f).all (flat n)=fy:=by rw[List.all_map];exact ą.mpr h
def NL{i:Int}:flat n (.int i)=fy:=by cases n<;>rfl
section
variable {N:Nat}
def EH(no:f8 bs ts)(hp:h p=fx)(k:∀Y g,Y.y=p->fP g Y->Y.cc=Bg bs ts most->(∀a∈Y.adr,h a=fx)->Ext h g->Q .non g):wF P (n+3) "Yard.__init__" [.ref p,ZG bs ts,.int most] (upd h p<|.ins "Yard" []) Q X:=B7 no hp λY g e y nw f x=>k Y g e y (Sf nw) f x
def GX{k:Nat}(q:∀c,Q (.int c) h):wF P (n+1) "_law_cell_at" [.scr ns,.int k] h Q X:=by
 refine Kr ?_;refine' gM (λhc=>?_) (λhc=>?_)
 .fail;have hk:k<ns.length:=by lia
  refine Qq (v:=.int ns[k]) ?_ ?_
  .refine YO ↥0 ?_;rw[Ú];simp[hk]
  .exact q _
 .refine' q _
end
def JW{st:Hs->Prop}{step:Val->Hs->(Option Val->Hs->Prop)->XQ->Prop}{Q:List Val->Hs->Prop}{f:α->Val}{l:List α}(p:α->Bool)(v:α->Val)(Ź:st h)(go:∀x∈l,∀K,(p x=fy->K (fw<|v x) h)->(p x=fz->K fx h)->step (f x) h K X)(fin:Q ((l.filter p).map v) h):wComp st step (l.map f) [] h Q X:=by
 refine Xm (λi ys g=>g=h/\ys=((l.take i).filter p).map v) ⟨rfl,rfl⟩ (λ_ _ _ _ z=>z.1▸Ź) ?_ ?_
 .rintro i u ys g hv ⟨rfl,rfl⟩ K hK;let⟨x,hx,rfl⟩:=ZL hv;rw[Zq hx,Ľ,Ā,υ]at hK;exact go x (ä hx) K (λe=>hK _ _ ⟨rfl,by rw[e,hX rfl,Õ];rfl⟩) λe=>hK _ _ ⟨rfl,by rw[e,hZ ↥1,ï,dn,ï]⟩
 .rintro ys g ⟨rfl,rfl⟩;rw[Á,ü];exact fin
def Po{st:Hs->Prop}{step:Val->Hs->(Option Val->Hs->Prop)->XQ->Prop}{Q:List Val->Hs->Prop}{f:α->Val}{l:List α}(v:α->Val)(Ź:st h)(go:∀x∈l,∀K,K (fw<|v x) h->step (f x) h K X)(fin:Q (l.map v) h):wComp st step (l.map f) [] h Q X:=JW (λ_=>fy) v Ź (λx hx K h1 _=>go x hx K<|h1 rfl) (by rw[ω.mpr λ_ _=>rfl];exact fin)
abbrev Yc.ups(C:Yc):List Int:=C.bs.filter λb=>(C.br.lookup b).isSome
def C7(g:C.gd N):C.keys=C.ups:=by
 have s1:C.keys.Pairwise (· < ·):=WZ g.nd;have s2:C.ups.Pairwise (· < ·):=g.no.up.sublist Ŏ;have p:C.keys.Perm C.ups:=(bq (s1.imp λz=>by lia)<|s2.imp λz=>by lia).mpr λb=>by rw[keys_mem];unfold Yc.ups;rw[ù];exact⟨λz=>⟨keys_sub.mp g.sub b<|keys_look.mp z,z⟩,λz=>z.2⟩
 exact p.eq_of_pairwise (λa b _ _ z1 z2=>by lia) s1 s2
def GY:eqV h (.tup<|ts.map trV) (.tup [])=fw (ik (ts=[])):=by
 cases ts with
 |nil=>rfl
 |cons a l =>
  let⟨ds,hds⟩:=MY (f:=dat h 11) (xs:=(a::l).map trV) λx hx=>by let⟨t,_,rfl⟩:=Ñ.mp hx;exact⟨_,rfl⟩
  show((((a::l).map trV).mapM<|dat h 11).map D.tup).bind _=_;have:∃d r,ds=d::r:=by
   rw[Í,ļ]at hds;cases e:(l.map trV).mapM (dat h 11)with
   |none=>rw[e]at hds;cases hds
   |some r=>rw[e]at hds;exact⟨_,_,(æ hds).symm⟩
  let⟨d,r,rfl⟩:=this;rw[hds];rfl
noncomputable abbrev dnV(C:Yc):Val:=.tup [.tup<|C.downs.map .int,.tup<|C.cuts.map .int]
section
variable {N:Nat}
def AX(hw:Row h w)(gd:C.gd N)(k:∀d g,(step C d).isSome=fy->ExtB w h g->Row g w->Q (Dd.v d) g):wF P (n+2) "_law_turned" [.ref w,ZG C.bs C.ts,dnV C] h Q X:=by
 have t16:=gd.no.sixteen;have b10:=gd.no.ten;have b1:=gd.no.one;have htl:(C.ts.map trV).length=C.ts.length:=Á _;have hbl:(C.bs.map Val.int).length=C.bs.length:=Á _;refine MZ ?_
 exists fI (xs:=[.tup<|C.bs.map .int,.tup<|C.ts.map trV]) (v:=.tup<|C.ts.map trV) rfl
 fail;rw[htl];refine Zc hw (by split<;>lia) (by split<;>lia) λp g1 p0 p1 x1 w1=>?_
 exists fI (xs:=[.tup<|C.bs.map .int,.tup<|C.ts.map trV]) (v:=.tup<|C.bs.map .int) rfl
 exists fI (xs:=[.tup<|C.bs.map .int,.tup<|C.ts.map trV]) (v:=.tup<|C.bs.map .int) rfl
 fail;rw[hbl];refine Zc w1 ↥0 ↥0 λr g2 r0 r1 x2 w2=>?_;let⟨b,hb,eb⟩:=pick (ns:=C.bs) r0 r1;refine fI eb ?_;refine' Zc w2 ↥1 ↥1 λs g3 s0 s1 x3 w3=>?_;have xx:=(x1.trans x2).trans x3;have fin:∀{g:Hs},ExtB w h g->Row g w->wSs (wF P<|n+1) #[.ret<|.tup #[.idx (.lst #[.cst<|.str "fall",.cst<|.str "back"])<|.bi .int #[.cmp .isin (.var 4)<|.idx (.var 2)<|.cst<|.int 0],.cst<|.str "bridge",.var 4]] [fw<|.ref w,fw<|ZG C.bs C.ts,fw<|dnV C,fw<|.int p,fw<|.int b] g (λ_ g=>Q .non g) Q (λ_ _=>False) (λ_ _=>False) λ_ c g=>X c g:=λ{g} y wg=>by
  refine' Ze λq g4 hq x4 e4=>?_
  exists Nm (ns:=C.downs)
  have y4:=y.trans<|.of x4;by_cases z:b∈C.downs
  .rw[ig z];refine' k (.backB b) _ (Ek gd z) y4 (wg.ext x4)
  .rw[ie z];refine' k (.fallB b) _ (Dr<|keys_mem.mpr ?_) y4 (wg.ext x4);cases e:(C.br.lookup b).isSome with
   |true=>rfl
   |false=>exact ij (downs_mem.mpr ⟨hb,e⟩) z
 refine' gM (λc1=>?_) (λc1=>gL rfl<|CU<|fin xx w3)
 exists fI (xs:=[.tup<|C.bs.map .int,.tup<|C.ts.map trV]) (v:=.tup<|C.ts.map trV) rfl
 refine Jp GY ?_;refine' Op (λc2=>?_) (λc2=>CU<|fin xx w3);have hl:=Ϯ.mpr c2;have p1:p<C.ts.length:=by split at p1<;>lia
 refine' Ze λq g4 hq x4 e4=>?_
 exists Nm (ns:=C.cuts)
 have y4:=xx.trans<|.of x4;by_cases z:p∈C.cuts
 .rw[ig z];refine' k (.backT p) _ (DB z) y4 (w3.ext x4)
 .rw[ie z];refine' k (.fallT p) _ (Ez p0 p1 z) y4 (w3.ext x4)
def Dv(hw:Row h w)(x:fP h Y)(gd:Y.cc.gd N)(hN:N<=6000)(nw:w∉Y.adr)(k:∀d g,(step Y.cc d).isSome=fy->ExtB w h g->Row g w->Q (Dd.v d) g):wF P (n+3) "_law_drawn" [.ref w,.ref Y.y,ZG Y.bs Y.ts] h Q X:=by
 have xi:=x.ins;have hl:Y.road.length<=16*N:=gd.len;have rl:(Y.road.map rdV).length=Y.road.length:=Á _;refine N4 ?_;refine' Ab x λp1 g1 bx x1 e1=>?_;have y1:=x.ext x1;have xi:=y1.ins;refine' Wh y1 gd λg2 x2=>?_;have y2:=y1.ext x2
 exists fI (xs:=[.tup<|Y.bs.map .int,.tup<|Y.ts.map trV]) (v:=.tup<|Y.bs.map .int) rfl
 refine' ⟨Ù (by rw[Á];exact gd.no.ten) ↥1,?_⟩;refine JW (l:=Y.bs) (λb=>(Y.cc.br.lookup b).isSome) Val.int trivial (λb hm K k1 k2=>?_) ?_
 .have e:(!ik (b∈Y.cc.downs))=(Y.cc.br.lookup b).isSome:=by
   cases z:(Y.cc.br.lookup b).isSome with
   |false=>rw[ig<|downs_mem.mpr ⟨hm,z⟩];rfl
   |true=>rw[ie λy=>by have:=(downs_mem.mp y).2;rw[z]at this;cases this];rfl
  exists Ug (ns:=Y.cc.downs)
  rw[e];refine' gN (λhc=>?_) (λhc=>?_)
  .refine' k1 hc
  .exact k2 hc
 refine Ze λpu g3 hpu x3 eu=>?_
 replace eu:g3 pu=fw (.lst<|Y.cc.ups.map .int):=eu
 have w3:=((hw.ext x1).ext x2).ext x3;have nu:pu≠w:=λz=>((hw.ext x1).ext x2).ne hpu z.symm;fail;rw[rl];refine Zc w3 ↥1 ↥1 λkd g4 k0 k1 x4 w4=>?_;have xx:ExtB w h g4:=(ExtB.of<|(x1.trans x2).trans x3).trans x4;have eu4:=x4.get nu eu;have ul:(Y.cc.ups.map Val.int).length=Y.cc.ups.length:=Á _;have ul10:Y.cc.ups.length<=10:=Û (ľ _ _) gd.no.ten;have tn:∀{g:Hs},ExtB w h g->Row g w->wF P (n+2) "_law_turned" [.ref w,ZG Y.bs Y.ts,dnV Y.cc] g Q X:=λ{g} y wg=>AX (C:=Y.cc) wg gd λd g' s x' w'=>k d g' s (y.trans x') w';refine' gM (λc1=>?_) (λc1=>?_)
 .refine gK rfl ?_;refine' tn xx w4
 refine' Ze λpz g5 hz x5 e5=>?_;refine c_eqE (x5.get eu4) e5 ?_;have y5:ExtB w h g5:=xx.trans<|.of x5;have w5:=w4.ext x5;refine' gN (λc2=>?_) (λc2=>?_)
 .refine' tn y5 w5
 have eu5:=x5.get eu4;have hpos:0<Y.cc.ups.length:=by
  cases z:Y.cc.ups with
  |nil=>rw[z]at c2;cases c2
  |cons a l=>simp
 have tick:wSs (wF P<|n+2) #[.ret<|.tup #[.cst<|.str "tick",.idx (.var 5)<|.call "_law_take" #[.var 0,.bi .len #[.var 5]]]] [fw<|.ref w,fw<|.ref Y.y,fw<|ZG Y.bs Y.ts,fw<|.int (Y.road.length:Nat),fw<|dnV Y.cc,fw<|.ref pu,fw<|.int kd,fx] g5 (λe g=>True) Q (λ_ _=>False) (λ_ _=>False) λ_ c g=>X c g:=by fail;rw[ul];refine Zc w5 ↥0 ↥0 λr g6 r0 r1 x6 w6=>?_;let⟨b,hb,eb⟩:=pick (ns:=Y.cc.ups) r0 r1;refine ZZ (x6.get nu eu5) eb ?_;refine' k (.tick b) _ (Ho<|by rw[C7 gd];exact hb) (y5.trans x6) w6
 refine' gM (λc3=>?_) (λc3=>?_)
 .refine gK rfl ?_;exact tick
 refine' gM (λc4=>?_) (λc4=>?_)
 .exact tick
 refine' Zc w5 ↥0 ↥0 λr g6 r0 r1 x6 w6=>?_;refine' Ze λq g7 hq x7 e7=>?_;have nq:q≠w:=λz=>w6.ne hq z.symm;refine' Zc (w6.ext x7) ↥1 ↥1 λs g8 s0 s1 x8 w8=>?_;let⟨v,hv,em⟩:=YN (xs:=[Val.int 0,.int 0,.int<|(Y.road.length:Nat) - 1,.int r]) (r:=s) s0 s1;refine ZZ (x8.get nq e7) hv ?_;have:∃q:Int,v=.int q/\0<=q/\q<Y.cc.road.length:=by
  have:Y.cc.road.length=Y.road.length:=rfl;simp![Ç,Ö,or_false]at em;rcases em with rfl|rfl|rfl|rfl
  .exact⟨_,rfl,by lia,by lia⟩
  .exact⟨_,rfl,by lia,by lia⟩
  .exact⟨_,rfl,by lia,by lia⟩
  .exact⟨_,rfl,r0,r1⟩
 let⟨pl,rfl,q0,q1⟩:=this;refine' Ze λq2 g9 hq2 x9 e9=>?_;fail;have y9:ExtB w h g9:=(((y5.trans x6).trans<|.of x7).trans x8).trans<|.of x9;by_cases z:kd=12
 .rw[ig z];refine' k (.lost pl) _ (MB q0 q1).1 y9 (w8.ext x9)
 .rw[ie z];refine' k (.come pl) _ (MB q0 q1).2 y9 (w8.ext x9)
end
noncomputable abbrev Hst:=Int->Pi->Option Lab
abbrev leP(a b:Pi):Prop:=a.1<b.1\/(a.1=b.1/\a.2<=b.2)
def leP.anti{a b:Pi}(h:leP a b)(k:leP b a):a=b:=by unfold leP at h k;exact Prod.ext ↥0 ↥0
def leP.refl(a:Pi):leP a a:=.inr ⟨rfl,Ŧ _⟩
abbrev Inc(ts:List Tie)(p b:Int):Prop:=0<=p/\p<ts.length/\((ts[p.toNat]?.getD (0,0,0)).1=b\/(ts[p.toNat]?.getD (0,0,0)).2.1=b)
abbrev cst(ts:List Tie)(p:Int):Int:=(ts[p.toNat]?.getD (0,0,0)).2.2
def X7{ts:List Tie}{p:Int}(h0:0<=p)(h1:p<ts.length):ts[p.toNat]?.getD (0,0,0)∈ts:=by
 have h2:p.toNat<ts.length:=by lia
 rw[Ê h2];exact ķ h2
def Inc.far{ts:List Tie}(no:f8 bs ts){p b:Int}(h:Inc ts p b):Inc ts p (ZI ts p b)/\ZI ts p (ZI ts p b)=b:=by
 let⟨h0,h1,h2⟩:=h;have lt:=(no.tie _<|X7 h0 h1).2.2.1;unfold Inc ZI O.far;rcases h2 with h2|h2
 .rw[hX h2,hZ<|by lia];exact⟨⟨h0,h1,.inr rfl⟩,h2⟩
 .rw[hZ ↥0,hX rfl];exact⟨⟨h0,h1,.inl rfl⟩,h2⟩
structure LtOk(H:Hst)(ts:List Tie)(b p:Int)(l:L):Prop where
 inc:Inc ts p b
 lab:∃y,H b l.st=fw y/\l.root=y.root/\l.cost=y.cost/\∀t,l.rests=fw t->y.up=fw (p,t)
 agr:∀t,l.agrees=fw t->(H (ZI ts p b) t).isSome=fy/\∀t1 y q,leP t1 t->H (ZI ts p b) t1=fw y->y.up=fw (p,q)->leP q l.st
structure BrOk(H:Hst)(ts:List Tie)(lv:List<|Int×Int)(b:Int)(B:Br):Prop where
 now:H b (B.life,B.version)=fw B.label
 top:∀s,(H b s).isSome=fy->leP s (B.life,B.version)
 held:∀q∈B.held,LtOk H ts (ZI ts q.1 b) q.1 q.2.1
 ties:∀q∈B.ties,Inc ts q.1 b/\q.2=(ZI ts q.1 b,cst ts q.1)
 life:lv.lookup b=fw B.life
structure Safe(H:Hst)(C:Yc):Prop where
 br:∀q∈C.br,BrOk H C.ts C.lives q.1 q.2
 lv:∀b l s,C.lives.lookup b=fw l->(H b s).isSome=fy->s.1<=l
 rest:∀b s y p t,H b s=fw y->y.up=fw (p,t)->∃z,H (ZI C.ts p b) t=fw z/\y.root=z.root/\y.cost=z.cost+cst C.ts p
 road:∀r∈C.road,r.2.1=ZI C.ts r.2.2.1 r.1/\LtOk H C.ts r.1 r.2.2.1 r.2.2.2
abbrev XA(H:Hst)(b:Int)(s:Pi)(y:Lab):Hst:=λc t=>if c=b/\t=s then fw y else H c t
abbrev BC(H:Hst)(b:Int)(s:Pi):Prop:=∀t,(H b t).isSome=fy->leP t s/\t≠s
section
variable {H:Hst}{ts:List Tie}{b c p:Int}{t:Pi}{y:Lab}{l:L}{C D:Yc}
def Nv:XA H b s y b s=fw y:=hX ⟨rfl,rfl⟩
def Yz(nw:BC H b s)(h:H c t=fw z):XA H b s y c t=fw z:=by
 unfold XA;rw[hZ]
 .exact h
 .rintro⟨rfl,rfl⟩;exact(nw t<|by rw[h];rfl).2 rfl
def W9(h:XA H b s y c t=fw z):(c=b/\t=s/\z=y)\/H c t=fw z:=by
 unfold XA at h;split at h
 .rename_i e;cases h;exact .inl ⟨e.1,e.2,rfl⟩
 .exact .inr h
def C6(nw:BC H b s)(h:(H c t).isSome=fy):(XA H b s y c t).isSome=fy:=by let⟨z,hz⟩:=å.mp h;rw[Yz nw hz];rfl
def Xz(h:(XA H b s y c t).isSome=fy):(c=b/\t=s)\/(H c t).isSome=fy:=by
 let⟨z,hz⟩:=å.mp h;rcases W9 hz with q|q
 .exact .inl ⟨q.1,q.2.1⟩
 .exact .inr (by rw[q];rfl)
def LtOk.add(o:LtOk H ts c p l)(nw:BC H b s):LtOk (XA H b s y) ts c p l:=by
 let⟨x,h1,h2⟩:=o.lab;refine⟨o.inc,⟨x,Yz nw h1,h2⟩,λt ht=>?_⟩;let⟨q1,q2⟩:=o.agr t ht;refine⟨C6 nw q1,λt1 z q hl hz hu=>?_⟩;rcases W9 hz with⟨e1,e2,_⟩|e
 .rw[e1]at q1;have:=nw t q1;rw[e2]at hl;exact ij (leP.anti this.1 hl) this.2
 .exact q2 t1 z q hl e hu
def BrOk.add(o:BrOk H ts lv c B)(nw:BC H b s)(n:c≠b):BrOk (XA H b s y) ts lv c B :=
 ⟨Yz nw o.now,λt ht=>(Xz ht).elim (λe=>ij e.1 n)<|o.top t,λq hq=>(o.held q hq).add nw,o.ties,o.life⟩
def BrOk.less(o:BrOk H ts lv b B)(e1:A.life=B.life)(e2:A.version=B.version)(e3:A.label=B.label)(hh:∀q∈A.held,q∈B.held)(ht:∀q∈A.ties,Inc ts q.1 b/\q.2=(ZI ts q.1 b,cst ts q.1)):BrOk H ts lv b A :=
 ⟨by rw[e1,e2,e3];exact o.now,by rw[e1,e2];exact o.top,λq hq=>o.held q<|hh q hq,ht,by rw[e1];exact o.life⟩
def BrOk.tieF(o:BrOk H ts lv b B){on:Bool}{f k:Int}(hp:Inc ts p b)(hf:f=ZI ts p b)(hk:k=cst ts p):BrOk H ts lv b<|O.tieF on p f k B:=by
 subst hf hk;unfold O.tieF;split
 .unfold upB;split
  .exact o
  .refine o.less rfl rfl rfl (λ_ h=>h) λq hq=>?_;rcases Xs hq with e|hq
   .rw[e];exact⟨hp,rfl⟩
   .exact o.ties q hq
 .exact o.less rfl rfl rfl (λ_ h=>ZT h) λq hq=>o.ties q<|ZT hq
def Ur{R:Int->Br->Prop}{k:Int}{m:List (Int×Br)}(h:∀q∈m,R q.1 q.2)(hF:∀A,R k A->R k (F A)):∀q∈upC k F m,R q.1 q.2:=λq hq=>by
 let⟨e,he,rfl⟩:=Ñ.mp hq;split
 .rename_i z;have:=h e he;rw[z]at this;dsimp only;rw[z];exact hF _ this
 .exact h e he
def MJ(no:f8 bs C.ts)(h0:0<=p)(h1:p<C.ts.length)(h:∀q∈C.br,BrOk H C.ts C.lives q.1 q.2):∀q∈(C.set1 p).br,BrOk H C.ts C.lives q.1 q.2:=by have lt:=(no.tie _<|X7 h0 h1).2.2.1;have e1:ZI C.ts p (C.tie p).1=(C.tie p).2.1:=hX rfl;have e2:ZI C.ts p (C.tie p).2.1=(C.tie p).1:=hZ (by show ¬ (C.ts[p.toNat]?.getD (0,0,0)).1=(C.ts[p.toNat]?.getD (0,0,0)).2.1;lia);exact Ur (R:=BrOk H C.ts C.lives) (Ur (R:=BrOk H C.ts C.lives) h λA o=>o.tieF ⟨h0,h1,.inl rfl⟩ e1.symm rfl) λA o=>o.tieF ⟨h0,h1,.inr rfl⟩ e2.symm rfl
def Nq:∀{m:List Tie}{C:Yc},f8 bs C.ts->(∀r∈m,0<=r.1/\r.1<C.ts.length)->(∀q∈C.br,BrOk H C.ts C.lives q.1 q.2)->(∀q∈(C.sets m).br,BrOk H C.ts C.lives q.1 q.2)/\(C.sets m).lives=C.lives/\(C.sets m).road=C.road
 |[],_,_,_,h=>⟨h,rfl,rfl⟩
 |r::m,C,no,hm,h=>Nq (m:=m) (C:=C.set1 r.1) no (λq hq=>hm q<|by simp[hq]) (MJ no (hm r<|by simp).1 (hm r<|by simp).2 h)
def GC(o:B.ok)(h:(ZF B).up=fw q):∃l a,(q.1,(l,a))∈B.held/\q.2=l.st/\(ZF B).root=l.root/\(ZF B).cost=l.cost+(KJ B.ties q.1).2:=by
 unfold ZF at h ⊢;split at h
 .cases h
 .rename_i m e;have hm:=JZ e;unfold Kk at hm;let⟨y,hy,rfl⟩:=Ñ.mp hm;cases h;refine⟨y.2.1,y.2.2,hy,?_,?_,?_⟩
  .show NI B.held y.1=_;unfold NI;rw[Z6 o.nd hy];rfl
  .rfl
  .rfl
def BrOk.tick(sf:Safe H C)(no:f8 bs C.ts)(o:BrOk H C.ts C.lives b B)(ok:B.ok):∃H',(∀c t z,H c t=fw z->H' c t=fw z)/\BrOk H' C.ts C.lives b B.ticked/\(∀c A,c≠b->BrOk H C.ts C.lives c A->BrOk H' C.ts C.lives c A)/\(∀c p l,LtOk H C.ts c p l->LtOk H' C.ts c p l)/\(∀k l s,C.lives.lookup k=fw l->(H' k s).isSome=fy->s.1<=l)/\(∀c s y p t,H' c s=fw y->y.up=fw (p,t)->∃z,H' (ZI C.ts p c) t=fw z/\y.root=z.root/\y.cost=z.cost+cst C.ts p)/\(∀q∈B.ties,LtOk H' C.ts b q.1<|Zv B.told q.1):=by
 have og:=ok.grown;have hg:∀q∈B.grown.held,∃a,(q.1,(q.2.1,a))∈B.held:=λq hq=>KN hq;let⟨f1,f2,f3,f4,f5,f6,f7⟩:=Z0 B.grown<|ZF B.grown;have lets:∀H':Hst,(∀c t z,H c t=fw z->H' c t=fw z)->(∀c p l,LtOk H C.ts c p l->LtOk H' C.ts c p l)->BrOk H' C.ts C.lives b B.told->(∀c s y p t,H' c s=fw y->y.up=fw (p,t)->∃z,H' (ZI C.ts p c) t=fw z/\y.root=z.root/\y.cost=z.cost+cst C.ts p)->∀q∈B.ties,LtOk H' C.ts b q.1 (Zv B.told q.1):=λH' hk hl o' rs q hq=>by
  have hi:=(o.ties q hq).1;have hf:=hi.far no;refine⟨hi,⟨B.told.label,o'.now,rfl,rfl,λt ht=>?_⟩,λt ht=>?_⟩
  .replace ht:(if Bn B.told.label.up q.1 then B.told.label.up.map (·.2)else fx)=fw t:=ht
   split at ht
   .rename_i hu;cases e:B.told.label.up with
    |none=>rw[e]at hu;cases hu
    |some v =>rw[e]at ht hu;have:q.1=v.1:=of_decide_eq_true hu;cases ht;rw[this]
   .cases ht
  .replace ht:(if Bn B.told.label.up q.1 then fx else if Xo B.told q.1 then fw (NI B.told.held q.1)else fx)=fw t:=ht
   split at ht
   .cases ht
   .split at ht
    .rename_i hr;unfold Xo at hr;cases e:B.told.held.lookup q.1 with
     |none=>rw[e]at hr;cases hr
     |some v =>cases ht;unfold NI;rw[e];have hm:=Zd e;have hm:=o'.held _ hm;let⟨x,g1,_⟩:=hm.lab;refine⟨by show(H' (ZI C.ts q.1 b) v.1.st).isSome=fy;rw[g1];rfl,λt1 y' u _ hy hu=>?_⟩;let⟨z,hz,_⟩:=rs _ _ _ _ _ hy hu;rw[hf.2]at hz;exact o'.top u (by rw[hz];rfl)
    .cases ht
 by_cases e:ZF B.grown=B.label
 .have ht:B.told=B.grown:=hX e;have o1:BrOk H C.ts C.lives b B.grown:=⟨o.now,o.top,λq hq=>by let⟨a,ha⟩:=hg q hq;exact o.held (q.1,(q.2.1,a)) ha,o.ties,o.life⟩
  refine⟨H,(λ_ _ _ h=>h),?_,(λ_ _ _ h=>h),(λ_ _ _ h=>h),sf.lv,sf.rest,lets H (λ_ _ _ h=>h) (λ_ _ _ h=>h) (by rw[ht];exact o1) sf.rest⟩;unfold Br.ticked;rw[ht];exact⟨o1.now,o1.top,o1.held,o1.ties,o1.life⟩
 .have ht:B.told={B.grown with label:=ZF B.grown,version:=B.version+1}:=hZ e;have nw:BC H b (B.life,B.version+1):=λt h=>by
   have:=o.top t h;unfold leP at this ⊢;dsimp only at this ⊢;exact⟨by lia,λz=>by rw[z]at this;dsimp only at this;lia⟩
  have hk:∀c t z,H c t=fw z->XA H b (B.life,B.version+1) (ZF B.grown) c t=fw z:=λc t z h=>Yz nw h;have o1:BrOk (XA H b (B.life,B.version+1)<|ZF B.grown) C.ts C.lives b {B.grown with label:=ZF B.grown,version:=B.version+1}:=⟨Nv,λt h=>(Xz h).elim (λz=>by rw[z.2];exact leP.refl _) λh=>(nw t h).1,λq hq=>by let⟨a,ha⟩:=hg q hq;exact(o.held (q.1,(q.2.1,a)) ha).add nw,o.ties,o.life⟩
  have rs:∀c s y p t,XA H b (B.life,B.version+1) (ZF B.grown) c s=fw y->y.up=fw (p,t)->∃z,XA H b (B.life,B.version+1) (ZF B.grown) (ZI C.ts p c) t=fw z/\y.root=z.root/\y.cost=z.cost+cst C.ts p:=λc s y p t h hu=>by
   rcases W9 h with⟨rfl,rfl,rfl⟩|h
   .obtain⟨l,a,h1,h2,h3,h4⟩:=GC og hu;let⟨a',ha'⟩:=hg _ h1;dsimp only at h2 h4 ha';have lo:=o.held _ ha';let⟨x,g1,g2,g3,_⟩:=lo.lab;refine⟨x,hk _ _ _ (by rw[h2];exact g1),h3.trans g2,?_⟩;have hs:=ok.sub _ ha';have:=o.ties _<|Zd<|Eu hs;have e2:=congrArg ap this.2;dsimp only at e2;rw[h4,show B.grown.ties=B.ties from rfl,e2,g3]
   .obtain⟨z,hz,q⟩:=sf.rest c s y p t h hu;exact⟨z,hk _ _ _ hz,q⟩
  refine⟨XA H b (B.life,B.version+1)<|ZF B.grown,hk,?_,(λc A n h=>h.add nw n),(λc p l h=>h.add nw),(λk l s h1 h2=>(Xz h2).elim (λz=>?_)<|sf.lv k l s h1),rs,lets _ hk (λc p l h=>h.add nw) (by rw[ht];exact o1) rs⟩
  .unfold Br.ticked;rw[ht];exact⟨o1.now,o1.top,o1.held,o1.ties,o1.life⟩
  .rw[z.1,o.life]at h1;cases h1;rw[z.2];exact Ŧ _
end
section
variable {D:Yc}{N:Nat}
def Ka{p:Prop}[Decidable p]{a b:α}(h:(if p then fw a else fx)=fw b):p/\a=b:=by
 split at h
 .rename_i z;exact⟨z,æ h⟩
 .cases h
def A2(n:c≠k):(Zo kvs k v).lookup c=kvs.lookup c:=by
 have e1:(c==k)=fz:=⇑n
 unfold Zo;split
 .rename_i h;clear h;induction kvs with
  |nil=>rfl
  |cons p r ih =>
   rw[Í,ñ,ñ,ih];by_cases e:p.1=k
   .rw[hX e,e,show(c==(k,v).1)=fz from e1]
   .rw[hZ e]
 .rw[eL,ñ,e1];exact Option.or_none
def Mc{d:Dd}(gd:C.gd N)(sf:Safe H C)(st:step C d=fw D):∃H',(∀c t z,H c t=fw z->H' c t=fw z)/\Safe H' D:=by
 have no:=gd.no;cases d with
 |tick b =>
  let⟨B,hB,rfl⟩:=Ë.mp st;have hm:=Zd hB;let⟨H',o0,o1,o2,o3,o4,o5,o6⟩:=(sf.br _ hm).tick sf no (gd.ok _ hm).ok;refine⟨H',o0,λq hq=>?_,o4,o5,λr hr=>?_⟩
  .obtain⟨e,he,rfl⟩:=Ñ.mp hq;split
   .rename_i z;have:=Z6 gd.nd he;rw[z,hB]at this;cases this;dsimp only;rw[z];exact o1
   .rename_i z;exact o2 _ _ z<|sf.br e he
  .rcases Ò.mp hr with hr|hr
   .exact⟨(sf.road r hr).1,o3 _ _ _ (sf.road r hr).2⟩
   .obtain⟨p,hp,rfl⟩:=Ñ.mp hr;let⟨q,hq,rfl⟩:=Ñ.mp<|mem_sort.mp hp;rw[show B.told.ties=B.ties from (Z0 B.grown<|ZF B.grown).2.1]at hq;exact⟨rfl,o6 q hq⟩
 |come p =>
  replace st:(if p<0 then fx else(C.road[p.toNat]?).map λr=>({C with br:=upC r.2.1 (Z1 · r.2.2.1 r.2.2.2) C.br,road:=C.road.eraseIdx p.toNat}:Yc))=fw D:=st
  split at st
  .cases st
  .obtain⟨r,hr,rfl⟩:=Ë.mp st;let⟨e,lo⟩:=sf.road r<|ä hr;refine⟨H,(λ_ _ _ h=>h),Ur (R:=BrOk H C.ts C.lives) (F:=(Z1 · r.2.2.1 r.2.2.2)) sf.br λA o=>?_,sf.lv,sf.rest,λq hq=>sf.road q<|bU hq⟩;unfold Z1;split
   .split
    .refine⟨o.now,o.top,λq hq=>?_,o.ties,o.life⟩;rcases Xs hq with z|hq
     .rw[z];show LtOk H C.ts (ZI C.ts r.2.2.1 r.2.1) r.2.2.1 r.2.2.2;rw[e,(lo.inc.far no).2];exact lo
     .exact o.held q hq
    .exact o
   .exact o
 |lost p =>
  replace st:(if p<0 then fx else(C.road[p.toNat]?).map λr=>({C with road:=C.road.eraseIdx p.toNat}:Yc))=fw D:=st
  split at st
  .cases st
  .obtain⟨r,hr,rfl⟩:=Ë.mp st;exact⟨H,(λ_ _ _ h=>h),sf.br,sf.lv,sf.rest,λq hq=>sf.road q<|bU hq⟩
 |fallB b =>let⟨_,rfl⟩:=Ka st;let⟨q1,q2,q3⟩:=Nq (H:=H) (C:={C with br:=Zs C.br b}) no (Ng (b:=b)) λq hq=>sf.br q<|ZT hq;let⟨e1,e2,e3⟩:=Y6 (gW b 0 C.ts) {C with br:=Zs C.br b};exact⟨H,(λ_ _ _ h=>h),by rw[e2,q2];exact q1,by rw[q2];exact sf.lv,by rw[e2];exact sf.rest,by rw[e2,q3];exact sf.road⟩
 |fallT p =>let⟨hp,rfl⟩:=Ka st;exact⟨H,(λ_ _ _ h=>h),MJ (C:={C with fallen:=Zo C.fallen p fy}) no hp.1.1 hp.1.2 sf.br,sf.lv,sf.rest,sf.road⟩
 |backB b =>
  replace st:(if(C.br.lookup b).isSome then fx else(C.lives.lookup b).map λl=>Yc.sets {C with lives:=Zo C.lives b<|l+1,br:=C.br++[(b,ZR b (l+1) C.most [])]}<|gW b 0 C.ts)=fw D:=st
  split at st
  .cases st
  .rename_i hn;let⟨l,hl,rfl⟩:=Ë.mp st;have nw:BC H b (l+1,0):=λt h=>by
    have:=sf.lv b l t hl h;unfold leP;dsimp only;exact⟨.inl ↥0,λz=>by rw[z]at this;dsimp only at this;lia⟩
   have lk:∀c,(Zo C.lives b<|l+1).lookup c=if c=b then fw (l+1)else C.lives.lookup c:=λc=>by
    split
    .rename_i z;rw[z];exact Mn
    .rename_i z;exact A2 z
   let⟨q1,q2,q3⟩:=Nq (H:=XA H b (l+1,0) ⟨b,0,fx⟩) (C:={C with lives:=Zo C.lives b<|l+1,br:=C.br++[(b,ZR b (l+1) C.most [])]}) no (Ng (b:=b)) λq hq=>by
    rcases Ò.mp hq with hq|hq
    .have ſ:q.1≠b:=λz=>hn (by rw[keys_look,<-z];exact ã hq);have o:=(sf.br q hq).add (y:=⟨b,0,fx⟩) nw ſ;exact⟨o.now,o.top,o.held,o.ties,by show(Zo C.lives b<|l+1).lookup q.1=_;rw[lk,hZ ſ];exact o.life⟩
    .rw[Å.mp hq];exact⟨Nv,λt h=>(Xz h).elim (λz=>by rw[z.2];exact leP.refl _) λh=>(nw t h).1,(λq hq=>ij hq Ö),(λq hq=>ij hq Ö),by show(Zo C.lives b<|l+1).lookup b=_;rw[lk,hX rfl];rfl⟩
   let⟨e1,e2,e3⟩:=Y6 (gW b 0 C.ts) {C with lives:=Zo C.lives b<|l+1,br:=C.br++[(b,ZR b (l+1) C.most [])]};refine⟨XA H b (l+1,0) ⟨b,0,fx⟩,(λ_ _ _ h=>Yz nw h),by rw[e2,q2];exact q1,?_,?_,?_⟩
   .rw[q2];intro c k s hc hs
    replace hc:(Zo C.lives b<|l+1).lookup c=fw k:=hc
    rw[lk]at hc;split at hc
    .rename_i z;cases hc;rcases Xz hs with w|w
     .rw[w.2];exact Ŧ _
     .have:=sf.lv b l s hl (by rw[<-z];exact w);lia
    .rename_i z;rcases Xz hs with w|w
     .exact ij w.1 z
     .exact sf.lv c k s hc w
   .rw[e2];intro c s y p t hy hu;rcases W9 hy with⟨_,_,z⟩|hy
    .rw[z]at hu;cases hu
    .obtain⟨z,hz,w⟩:=sf.rest c s y p t hy hu;exact⟨z,Yz nw hz,w⟩
   .rw[e2,q3];exact λr hr=>⟨(sf.road r hr).1,(sf.road r hr).2.add nw⟩
 |backT p =>let⟨hp,rfl⟩:=Ka st;let⟨v,hv⟩:=å.mp hp;have:=gd.fr _<|Zd hv;exact⟨H,(λ_ _ _ h=>h),MJ (C:={C with fallen:=Zs C.fallen p}) no this.1 this.2 sf.br,sf.lv,sf.rest,sf.road⟩
end
def UN{b:Int}:∀{l:List Tie}{k:Nat}{r:Tie},r∈gW b k l->∃j t,l[j]?=fw t/\r=(((k+j:Nat):Int),far t b,t.2.2)/\(b=t.1\/b=t.2.1)
 |[],_,_,h=>by cases h
 |t::l,k,r,h=>by
  have go:r∈gW b (k+1) l->∃j u,(t::l)[j]?=fw u/\r=(((k+j:Nat):Int),far u b,u.2.2)/\(b=u.1\/b=u.2.1):=λh=>by let⟨j,u,h1,h2,h3⟩:=UN h;exact⟨j+1,u,h1,by rw[h2];congr 1;lia,h3⟩
  unfold gW at h;split at h
  .rename_i hb;rcases Ç.mp h with rfl|h
   .exact⟨0,t,rfl,rfl,hb⟩
   .exact go h
  .exact go h
def BU(no:f8 bs ts):∃H,Safe H (Bg bs ts most):=by
 refine⟨λb s=>if b∈bs/\s=(0,0)then fw ⟨b,0,fx⟩else fx,λq hq=>?_,λb l s hl hs=>?_,λb s y p t hy hu=>?_,(λr hr=>ij hr Ö)⟩
 .obtain⟨b,hb,rfl⟩:=Ñ.mp hq;refine⟨hX ⟨hb,rfl⟩,λs hs=>?_,(λq hq=>ij hq Ö),λq hq=>?_,?_⟩
  .split at hs
   .rename_i z;rw[z.2];exact leP.refl _
   .cases hs
  .obtain⟨r,hr,rfl⟩:=Ñ.mp hq;let⟨j,t,h1,rfl,h3⟩:=UN hr;have hj:=(Ó.mp h1).1;have e:ts[((0+j:Nat):Int).toNat]?.getD (0,0,0)=t:=by rw[Ϛ,ç,h1];rfl
   refine⟨⟨by lia,by show((0+j:Nat):Int)<(ts.length:Nat);lia,?_⟩,?_⟩
   .show(ts[((0+j:Nat):Int).toNat]?.getD (0,0,0)).1=b\/(ts[((0+j:Nat):Int).toNat]?.getD (0,0,0)).2.1=b;rw[e];exact h3.imp Eq.symm Eq.symm
   .show(far t b,t.2.2)=(far (ts[((0+j:Nat):Int).toNat]?.getD (0,0,0)) b,(ts[((0+j:Nat):Int).toNat]?.getD (0,0,0)).2.2)
    rw[e]
  .exact Z6 (by rw[show((Bg bs ts most).lives.map (·.1))=bs by show(bs.map λb=>(b,(0:Int))).map (·.1)=bs;rw[ë];exact œ _];exact no.up.imp λh=>by lia)<|Ñ.mpr ⟨b,hb,rfl⟩
 .split at hs
  .rename_i z;rw[z.2];let⟨c,_,e⟩:=Ñ.mp<|Zd hl;rw[<-(Prod.mk.inj e).2];exact Ŧ _
  .cases hs
 .split at hy
  .cases hy;cases hu
  .cases hy
def Safe.way(sf:Safe H C)(no:f8 bs C.ts){p q:Int}(hi:Inc C.ts p c)(hq:q=ZI C.ts p c)(hc:Uu C c p = "child")(hp:Uu C q p = "parent"):(C.br.lookup c).isSome=fy/\(C.br.lookup q).isSome=fy/\(C.at_ c).label.root=(C.at_ q).label.root/\(C.at_ c).label.cost=(C.at_ q).label.cost+cst C.ts p/\(C.at_ c).label.up.map (·.1)=fw p:=by
 let⟨dB,hg⟩:=hi.far no;rw[<-hq]at dB hg;unfold Uu at hc hp;split at hc
 .split at hp
  .rename_i s1 s2;let⟨A,hA⟩:=å.mp s1;let⟨B,hB⟩:=å.mp s2;have oA:=sf.br _<|Zd hA;have oB:=sf.br _<|Zd hB;have eA:C.at_ c=A:=by unfold Yc.at_;rw[hA];rfl
   have eB:C.at_ q=B:=by unfold Yc.at_;rw[hB];rfl
   rw[eA]at hc ⊢;rw[eB]at hp ⊢;unfold UB at hc hp;split at hc
   .split at hc
    .split at hc
     .rename_i hu ha;split at hp
      .split at hp
       .split at hp<;>exact ij hp ↥1
       .split at hp
        .rename_i hr;unfold ME at ha;unfold Xo at hr;cases z1:A.held.lookup p with
         |none=>rw[z1]at ha;cases ha
         |some l =>
          rw[z1]at ha;cases z2:B.held.lookup p with
          |none=>rw[z2]at hr;cases hr
          |some m =>
           rw[z2]at hr
           replace hr:m.1.rests=fw (B.life,B.version):=of_decide_eq_true hr
           replace ha:(if l.1.agrees=fw (A.life,A.version)then ik (A.label.up.map (·.2)=fw l.1.st)else fz)=fy:=ha
           split at ha
           .rename_i hag;have Ź:=of_decide_eq_true ha;have lA:=oA.held _<|Zd z1;have lB:=oB.held _<|Zd z2;dsimp only at lA lB;rw[<-hq]at lA;rw[hg]at lB;let⟨x,x1,_,_,x4⟩:=lB.lab;have ag:=(lA.agr _ hag).2;rw[hg]at ag;let⟨y,y1,_⟩:=lA.lab;have e:(B.life,B.version)=l.1.st:=leP.anti (ag _ x _ (oA.top _<|by rw[x1];rfl) x1<|x4 _ hr) (oB.top _<|by rw[y1];rfl);cases hup:A.label.up with
            |none=>rw[hup]at hu;cases hu
            |some u =>
             rw[hup]at hu Ź;have hpu:p=u.1:=of_decide_eq_true hu;have hsu:u.2=l.1.st:=⇑Ź
             let⟨z,hz,r1,r2⟩:=sf.rest _ _ _ p u.2 oA.now (by rw[hup,hpu]);dsimp only at hz r1 r2;rw[<-hq,hsu,<-e,oB.now]at hz;cases hz;exact⟨s1,s2,r1,r2,by rw[hpu];rfl⟩
           .cases ha
        .exact ij hp ↥1
      .exact ij hp ↥1
     .exact ij hc ↥1
    .split at hc<;>exact ij hc ↥1
   .exact ij hc ↥1
  .exact ij hp ↥1
 .exact ij hc ↥1
abbrev opn(C:Yc)(p:Nat):List Tie:=if C.ends p=("child","parent")then [((p:Int),(C.tie p).1,(C.tie p).2.1)]else if C.ends p=("parent","child")then [((p:Int),(C.tie p).2.1,(C.tie p).1)]else []
abbrev Zz(C:Yc)(m:Nat):List Tie:=(List.range m).flatMap<|opn C
def W4{m:Nat}:Zz C (m+1)=Zz C m++opn C m:=by unfold Zz;rw[List.range_succ,ϰ];simp
def Xq{C:Yc}:∀m:Nat,(Zz C m).length<=m
 |0=>Ì _
 |m+1=>by
  have:=Xq (C:=C) m;have:(opn C m).length<=1:=by
   unfold opn;split
   .exact Ì _
   .split
    .exact Ì _
    .exact Ę _
  rw[W4,ì];lia
def Iw{a b c d:String}:eqV h (.tup [.str a,.str b]) (.tup [.str c,.str d])=fw (ik ((a,b)=(c,d))):=by
 show fw (D.eqv (.tup [.str a,.str b])<|.tup [.str c,.str d])=_;congr 1;simp![D.eqv,D.eqvs,ů];by_cases h1:a=c
 .by_cases h2:b=d
  .subst h1;subst h2;simp
  .simp[h2]
 .simp[h1]
section
variable {N:Nat}{C:Yc}
def Ln{t:Tie}(h:C.ts[i]?=fw t):C.tie i=t:=by show C.ts[(i:Int).toNat]?.getD _=_;rw[ç,h];rfl
def HG(x:fP h Y)(gd:Y.cc.gd N)(k:∀p g,h p=fx->Ext h g->g p=fw (.lst<|(Zz Y.cc Y.ts.length).map trV)->Q (.ref p) g):wF P (n+6) "open_ways" [.ref Y.y] h Q X:=by
 have t16:Y.ts.length<=16:=gd.no.sixteen;refine N5 ?_;refine' Ze λp g1 hp x1 e1=>?_;have y1:=x.ext x1;have yi:=y1.ins
 exists UX y1
 exists fI (xs:=[.tup<|Y.bs.map .int,.tup<|Y.ts.map trV]) (v:=.tup<|Y.ts.map trV) rfl
 exists fH rfl
 refine Zh (λi en g=>Sm3 λv2 v3 v4=>Cj3 (en=[fw<|.ref Y.y,fw<|.ref p,v2,v3,v4]) (Ext h g)<|g p=fw (.lst<|(Zz Y.cc i).map trV)) ⟨_,_,_,rfl,x1,e1⟩ (λ_ _ _ _ _=>trivial) ?_ ?_
 .rintro i v en g hv ⟨v2,v3,v4,rfl,xg,ep⟩ K hK;let⟨z,hz,rfl⟩:=Mz hv;rw[Ú]at hz;let⟨t,ht,rfl⟩:=Ë.mp hz;have hi:i<Y.ts.length:=(Ó.mp ht).1;rw[Ϛ];have yg:=x.ext xg;have yi:=yg.ins;have ol:=Xq (C:=Y.cc) i;have et:Y.cc.tie i=t:=Ln (C:=Y.cc) ht;rw[W4]at hK;unfold opn at hK;rw[et]at hK
  exists UJ yg hi
  exists WK Iw
  fail;unfold trV;refine gM (λc1=>?_) λc1=>?_
  .rw[hX c1]at hK;refine' ZD ep (by rw[Á,lim];lia) ?_;refine' hK _ _ ⟨_,_,_,rfl,W7 xg hp,by rw[Õ];exact fB⟩
  rw[hZ c1]at hK
  exists WK Iw
  refine' gM (λc2=>?_) (λc2=>?_)
  .rw[hX c2]at hK;refine' ZD ep (by rw[Á,lim];lia) ?_;refine' hK _ _ ⟨_,_,_,rfl,W7 xg hp,by rw[Õ];exact fB⟩
  .rw[hZ c2,ï]at hK;refine' hK _ _ ⟨_,_,_,rfl,xg,ep⟩
 .rintro en g ⟨v2,v3,v4,rfl,xg,ep⟩;rw[Kb,Á]at ep;refine' k p g hp xg ep
end
abbrev grp(ws:List Tie):Int->Int:=ws.foldl (λR w x=>if R x=R w.2.1 then R w.2.2 else R x) id
def Og{ws:List Tie}{w:Tie}:grp (ws++[w])=λx=>if grp ws x=grp ws w.2.1 then grp ws w.2.2 else grp ws x:=by unfold grp;rw[fu];rfl
structure Frst(κ:Int->Int)(ws:List Tie):Prop where
 nd:(ws.map λw=>w.2.1).Nodup
 le:∀w∈ws,κ w.2.2<κ w.2.1
structure GrpOk(κ:Int->Int)(ws:List Tie):Prop where
 le:∀x,κ (grp ws x)<=κ x
 own:∀x,x∉ws.map (λw=>w.2.1)->grp ws x=x
 eq:∀w∈ws,grp ws w.2.1=grp ws w.2.2
variable {κ:Int->Int}
def Frst.step{ws:List Tie}{w:Tie}(f:Frst κ ws)(h:ws[i]?=fw w)(g:GrpOk κ<|ws.take i):grp (ws.take i) w.2.1=w.2.1/\grp (ws.take i) w.2.2≠w.2.1/\κ w.2.2<κ w.2.1:=by have n:w.2.1∉(ws.take i).map λw=>w.2.1:=Z2 f.nd h;have l:=f.le w<|ä h;refine⟨g.own _ n,λe=>?_,l⟩;have:=g.le w.2.2;rw[e]at this;lia
def Frst.ok{ws:List Tie}(f:Frst κ ws):∀i,i<=ws.length->GrpOk κ (ws.take i)
 |0,_=>⟨λx=>Ŧ _,λx _=>rfl,(λw hw=>ij hw Ö)⟩
 |i+1,hi=>by
  have g:=f.ok i ↥0;have h:=Ê (l:=ws) (i:=i) ↥0;generalize ws[i]'↥0=w at h;let⟨e1,e2,e3⟩:=f.step h g;rw[Zq h];refine⟨λx=>?_,λx hx=>?_,λv hv=>?_⟩
  .rw[Og,e1];dsimp only;split
   .rename_i z;have h1:=g.le w.2.2;have h2:=g.le x;rw[z]at h2;lia
   .exact g.le x
  .rw[Õ,Ò,not_or]at hx;rw[Og,e1];dsimp only;rw[g.own x hx.1,hZ<|by simpa using hx.2]
  .rw[Og,e1];dsimp only;rcases Ò.mp hv with hv|hv
   .rw[g.eq v hv]
   .rw[Å.mp hv,e1,hX rfl,hZ e2]
def Jk{C:Yc}:∀(m:Nat),(∀w∈Zz C m,0<=w.1/\w.1<m)/\(Zz C m).Pairwise λa b=>a.1<b.1
 |0=>⟨(λw hw=>ij hw Ö),List.Pairwise.nil⟩
 |m+1=>by
  let⟨h1,h2⟩:=Jk (C:=C) m;have h3:∀w∈opn C m,w.1=m:=λw hw=>by
   unfold opn at hw;split at hw
   .rw[Å.mp hw]
   .split at hw
    .rw[Å.mp hw]
    .cases hw
  have h4:(opn C m).Pairwise λa b=>a.1<b.1:=by
   unfold opn;split
   .exact ca _ _
   .split
    .exact ca _ _
    .exact List.Pairwise.nil
  rw[W4];refine⟨λw hw=>?_,Ϣ.mpr ⟨h2,h4,λa ha b hb=>by have:=h1 a ha;have:=h3 b hb;lia⟩⟩;rcases Ò.mp hw with hw|hw
  .have:=h1 w hw;lia
  .have:=h3 w hw;lia
def Mg{w:Tie}:∀{m:Nat},w∈Zz C m->∃p:Nat,p<m/\((w=((p:Int),(C.tie p).1,(C.tie p).2.1)/\C.ends p=("child","parent"))\/(w=((p:Int),(C.tie p).2.1,(C.tie p).1)/\C.ends p=("parent","child")))
 |0,h=>by cases h
 |m+1,h=>by
  rw[W4]at h;rcases Ò.mp h with h|h
  .obtain⟨p,h1,h2⟩:=Mg h;exact⟨p,by lia,h2⟩
  .refine⟨m,by lia,?_⟩;unfold opn at h;split at h
   .rename_i e;exact .inl ⟨Å.mp h,e⟩
   .split at h
    .rename_i e;exact .inr ⟨Å.mp h,e⟩
    .cases h
structure WayOk(C:Yc)(w:Tie):Prop where
 r0:0<=w.1
 r1:w.1<C.ts.length
 ends:(w.2.1=(C.tie w.1).1/\w.2.2=(C.tie w.1).2.1)\/(w.2.1=(C.tie w.1).2.1/\w.2.2=(C.tie w.1).1)
 sc:(C.br.lookup w.2.1).isSome=fy
 sp:(C.br.lookup w.2.2).isSome=fy
 root:(C.at_ w.2.1).label.root=(C.at_ w.2.2).label.root
 cost:(C.at_ w.2.1).label.cost=(C.at_ w.2.2).label.cost+(C.tie w.1).2.2
 up:(C.at_ w.2.1).label.up.map (·.1)=fw w.1
def Safe.ways(sf:Safe H C)(gd:C.gd N){w:Tie}(h:w∈Zz C C.ts.length):WayOk C w:=by
 let⟨p,hp,h⟩:=Mg h;have lt:=(gd.no.tie _<|X7 (ts:=C.ts) (p:=p) ↥0<|by lia).2.2.1
 replace lt:(C.tie p).1<(C.tie p).2.1:=lt
 rcases h with⟨rfl,e⟩|⟨rfl,e⟩
 .obtain⟨q1,q2,q3,q4,q5⟩:=sf.way gd.no (p:=p) (c:=(C.tie p).1) (q:=(C.tie p).2.1) ⟨by lia,by lia,.inl rfl⟩ (hX rfl).symm (congrArg Prod.fst e)<|congrArg ap e;exact⟨by dsimp only;lia,by dsimp only;lia,.inl ⟨rfl,rfl⟩,q1,q2,q3,q4,q5⟩
 .obtain⟨q1,q2,q3,q4,q5⟩:=sf.way gd.no (p:=p) (c:=(C.tie p).2.1) (q:=(C.tie p).1) ⟨by lia,by lia,.inr rfl⟩ (hZ<|by show ¬ (C.tie p).1=(C.tie p).2.1;lia).symm (congrArg ap e)<|congrArg Prod.fst e;exact⟨by dsimp only;lia,by dsimp only;lia,.inr ⟨rfl,rfl⟩,q1,q2,q3,q4,q5⟩
def Safe.frst(sf:Safe H C)(gd:C.gd N):Frst (λb=>(C.at_ b).label.cost)<|Zz C C.ts.length:=by
 refine⟨?_,λw hw=>?_⟩
 .refine ģ.mpr ?_;refine(Jk C.ts.length).2.imp_of_mem λ{a b} ha hb lt e=>?_;have h1:=(sf.ways gd ha).up;have h2:=(sf.ways gd hb).up;rw[e,h2]at h1;have:=æ h1;lia
 .have o:=sf.ways gd hw;have:=(gd.no.tie _<|X7 o.r0 o.r1).2.2.2.1
  replace this:1<=(C.tie w.1).2.2:=this
  have:=o.cost;lia
noncomputable abbrev Hv:=Int×Option Int
abbrev tch(b:Int)(w:Tie):Prop:=b=w.2.1\/b=w.2.2
instance (b:Int) (w:Tie):Decidable<|tch b w:=inferInstanceAs<|Decidable<|_\/_
abbrev ZP(b:Int)(w:Tie):Int:=if b=w.2.1 then w.2.2 else w.2.1
abbrev gw(ws:List Tie)(q:Hv):List Tie:=ws.filter λw=>!ik (fw w.1=q.2)&&ik (tch q.1 w)
abbrev gof(b:Int)(w:Tie):Hv:=(ZP b w,fw w.1)
abbrev Xh(ws:List Tie)(q:Hv):List Hv:=(gw ws q).map<|gof q.1
inductive Tr (ws:List Tie) (a:Int):List Hv->List Tie->Prop
 |one:Tr ws a [(a,fx)] []
 |add {H:List Hv}{U:List Tie}{b:Int}{w:Tie}:Tr ws a H U->w∈ws->w∉U->b∈H.map (·.1)->tch b w->Tr ws a (H++[gof b w]) (U++[w])
structure Wf(ws:List Tie):Prop where
 fr:∃κ,Frst κ ws
 pl:(ws.map (·.1)).Nodup
def XR{f:α->β}{l:List α}(n:(l.map f).Nodup){y:α}(hx:x∈l)(hy:y∈l)(e:f x=f y):x=y:=by let⟨i,hi,rfl⟩:=dP hx;let⟨j,hj,rfl⟩:=dP hy;have:=(av (i:=i) (j:=j) (h₀:=by simpa using hi) (h₁:=by simpa using hj) n).mp ⇑e;subst this;rfl
def EA{f:α->β}{l:List α}(n:(l.map f).Nodup):l.Nodup:=(ģ.mp n).imp λh e=>h (congrArg f e)
def UI{b:Int}{w:Tie}(h:tch b w):tch (ZP b w) w:=by unfold ZP;split;exact .inr rfl;exact .inl rfl
def DK{ws:List Tie}(f:Wf ws){b:Int}{w:Tie}(hw:w∈ws):ZP b w≠b:=by
 let⟨κ,f⟩:=f.fr;have:=f.le w hw;unfold ZP;split
 .rename_i e;intro z;rw[e]at z;rw[z]at this;lia
 .rename_i e;exact λz=>e z.symm
def Je{b x:Int}{w:Tie}(h:tch b w):tch x w↔x=b\/x=ZP b w:=by
 unfold tch ZP at *;by_cases e:b=w.2.1
 .rw[hX e,<-e]
 .rw[hZ e,h.resolve_left e];exact or_comm
section
variable {ws:List Tie}{a:Int}{U:List Tie}
def Wf.pl_inj(f:Wf ws){v w:Tie}(hv:v∈ws)(hw:w∈ws)(e:v.1=w.1):v=w:=XR f.pl hv hw e
def Tr.sub(t:Tr ws a H U):U.Nodup/\∀w∈U,w∈ws:=by
 induction t with
 |one=>exact⟨ă,λw hw=>by cases hw⟩
 |add t hw hn hb ht ih =>
  refine⟨ß.mpr ⟨ih.1,by simp,λx hx y hy e=>hn ?_⟩,λw h=>(Ò.mp h).elim (ih.2 w) λh=>?_⟩
  .rw[Å.mp hy]at e;exact e▸hx
  .rw[Å.mp h];exact hw
def Frst.part(f:Frst κ ws)(n:U.Nodup)(s:∀w∈U,w∈ws):Frst κ U:=by refine⟨?_,λw hw=>f.le w<|s w hw⟩;refine ģ.mpr (n.imp_of_mem λ{x y} hx hy ne e=>ne<|XR f.nd (s x hx) (s y hy) e)
def Tr.grp(f:Wf ws)(t:Tr ws a H U):(∀x∈H.map (·.1),grp U x=grp U a)/\(H.map (·.1)).Nodup/\∀x,x∉H.map (·.1)->grp U x=x:=by
 let⟨κ,fk⟩:=f.fr;induction t with
 |one=>exact⟨λx hx=>by rw[Å.mp hx],by simp,λx _=>rfl⟩
 |@add H U b w t hw hn hb ht ih =>
  let⟨i1,i2,i3⟩:=ih;have t2:=Tr.add t hw hn hb ht;let⟨n2,s2⟩:=t2.sub;have f2:=fk.part n2 s2;have g1:=f2.ok U.length (by simp);have st:=f2.step (i:=U.length) (w:=w) (by simp) g1;have g2:=f2.ok (U++[w]).length<|Ì _;rw[List.take_left]at st;rw[ü]at g2;have hy:ZP b w∉H.map (·.1):=λz=>by
   have e:=(i1 _ z).trans (i1 _ hb).symm;have:O.grp U w.2.1=O.grp U w.2.2:=by
    unfold ZP at e;split at e
    .rename_i q;rw[q]at e;exact e.symm
    .rename_i q;rw[ht.resolve_left q]at e;exact e
   rw[st.1]at this;exact st.2.1 this.symm
  have eb:O.grp (U++[w]) (ZP b w)=O.grp (U++[w]) b:=by
   have:=g2.eq w (by simp);unfold ZP;split
   .rename_i q;rw[q];exact this.symm
   .rename_i q;rw[ht.resolve_left q];exact this
  have Ϡ:∀x∈H.map (·.1),O.grp (U++[w]) x=O.grp (U++[w]) a:=λx hx=>by rw[Og];dsimp only;rw[i1 x hx]
  rw[Õ];refine⟨λx hx=>?_,ß.mpr ⟨i2,by simp,λx hx y h e=>hy ?_⟩,λx hx=>?_⟩
  .rcases Ò.mp hx with hx|hx
   .exact Ϡ x hx
   .rw[show x=ZP b w by simpa[gof]using hx,eb];exact Ϡ b hb
  .have h:y=ZP b w:=by simpa[gof]using h
   rw[<-h,<-e];exact hx
  .rw[Ò,not_or]at hx;have hc:w.2.1≠x:=λz=>by
    have t0:tch w.2.1 w:=.inl rfl;rcases (Je ht).mp t0 with q|q
    .exact hx.1<|z▸q▸hb
    .exact hx.2 (by rw[<-z,q];simp[gof])
   rw[Og];dsimp only;rw[st.1,i3 x hx.1,hZ λz=>hc z.symm]
def Tr.nd(f:Wf ws)(t:Tr ws a H U):(H.map (·.1)).Nodup:=(t.grp f).2.1
def Tr.came(t:Tr ws a H U):H.map (·.2)=fx::U.map λw=>fw w.1:=by
 induction t with
 |one=>rfl
 |add t hw hn hb ht ih=>rw[Õ,ih,Õ];rfl
def Tr.more{b:Int}:∀{l:List Tie}{H:List Hv}{U:List Tie},Tr ws a H U->b∈H.map (·.1)->(∀w∈l,w∈ws/\w∉U/\tch b w)->l.Nodup->Tr ws a (H++l.map (gof b)) (U++l)
 |[],H,U,t,_,_,_=>by rw[Ř,ï,ï];exact t
 |w::l,H,U,t,hb,hl,n=>by
  have hw:=hl w (by simp);have:=Tr.more (l:=l) (Tr.add t hw.1 hw.2.1 hb hw.2.2) (by rw[Õ];exact Ô _ hb) (λv hv=>?_) (ô.mp n).2
  .rwa [Ć,Ć]at this
  .have:=hl v (by simp[hv]);refine⟨this.1,λz=>(Ò.mp z).elim this.2.1 λz=>?_,this.2.2⟩;rw[Å.mp z]at hv;exact(ô.mp n).1 hv
end
abbrev hoV:Option Int->Val
 |none=>.non
 |some p=>.int p
abbrev hvV(q:Hv):Val:=.tup [.int q.1,hoV q.2]
def FF{ws:List Tie}{w:Tie}{q:Hv}:Xh (ws++[w]) q=Xh ws q++if(!ik (fw w.1=q.2)&&ik (tch q.1 w))=fy then [gof q.1 w]else []:=by unfold Xh gw;rw[Ľ,Õ,Ā,υ];split<;>rfl
def KM{ws:List Tie}{q:Hv}:(Xh ws q).length<=ws.length:=by unfold Xh gw;rw[Á];exact ľ _ _
def Qo{i:Int}{o:Option Int}:eqV h (.int i) (hoV o)=fw (ik (fw i=o)):=by
 cases o with
 |none=>rfl
 |some p =>show fw (D.eqv (.int i)<|.int p)=_;rw[WH];exact congrArg fw<|decide_eq_decide.mpr ⟨congrArg fw,æ⟩
def Safe.wf(sf:Safe H C)(gd:C.gd N):Wf<|Zz C C.ts.length:=⟨⟨_,sf.frst gd⟩,ģ.mpr<|(Jk C.ts.length).2.imp λz=>by lia⟩
section
variable {N:Nat}
def AR{pw:Ad}{ws:List Tie}{q:Hv}(hl:ws.length<=16)(ew:h pw=fw (.lst<|ws.map trV))(k:∀p g,h p=fx->Ext h g->g p=fw (.lst<|(Xh ws q).map hvV)->Q (.ref p) g):wF P (n+1) "sent_on" [.ref pw,hvV q] h Q X:=by
 let⟨b,c⟩:=q;unfold hvV at k ⊢;refine AB ?_;refine' Ze λp g1 hp x1 e1=>?_;refine' Zh (λi en g=>Sm3 λv5 v6 v7=>Cj3 (en=[fw<|.ref pw,fw<|.tup [.int b,hoV c],fw<|.int b,fw<|hoV c,fw<|.ref p,v5,v6,v7]) (Ext h g)<|g p=fw (.lst<|(Xh (ws.take i) (b,c)).map hvV)) ⟨_,_,_,rfl,x1,e1⟩ (λ_ _ _ _ ⟨_,_,_,_,x,_⟩=>lsE<|x.get ew) ?_ ?_
 .rintro i v en g hv ⟨v5,v6,v7,rfl,x,ep⟩ K hK;let⟨t,ht,rfl⟩:=ZL hv;have gl:=KM (ws:=ws.take i) (q:=(b,c));rw[ď]at gl;rw[Zq ht,FF]at hK;let⟨p',c',q'⟩:=t;unfold trV
  exists Jp Qo
  refine' Op (λc1=>?_) (λc1=>?_)
  .exists Nm (ns:=[c',q'])
   refine' gM (λc2=>?_) (λc2=>?_)
   .have c2:tch b (p',c',q'):=by simpa[tch]using c2
    rw[show(!ik (fw (p',c',q').1=(b,c).2)&&ik (tch (b,c).1 (p',c',q')))=fy by simp[c1,c2],hX rfl]at hK;refine' gM (λc3=>?_) (λc3=>?_)<;>fail<;>refine ZD ep (by rw[Á,lim];lia) ?_<;>fail<;>refine hK _ _ ⟨_,_,_,rfl,W7 x hp,?_⟩<;>rw[Õ]<;>refine fB.trans ?_
    .simp![Í,Ř,gof,ZP,hvV,hoV];rw[hX c3]
    .simp![Í,Ř,gof,ZP,hvV,hoV];rw[hZ c3]
   .have c2:¬ tch b (p',c',q'):=by simpa[tch]using c2
    rw[hZ (by simp[c2]),ï]at hK;refine' hK _ _ ⟨_,_,_,rfl,x,ep⟩
  .rw[hZ (by simp[c1]),ï]at hK;walk_at "p";exact hK _ _ ⟨_,_,_,rfl,x,ep⟩
 .rintro en g ⟨v5,v6,v7,rfl,x,ep⟩;rw[Á,ü]at ep;refine' k p g hp x ep
def NF{b:Int}(x:fP h Y)(hs:(Y.cc.br.lookup b).isSome=fy)(k:Q (.bl fy) h):wF P (n+2) "is_standing" [.ref Y.y,.int b] h Q X:=by
 have xi:=x.ins;have xs:=x.stand;refine Kt ?_
 exists Wn
 walk_at "p";refine XH ?_
 exists Uv xs rfl
 let⟨e,he,en,lk,ea,ba⟩:=x.at_ hs;rw[ZO,lk];refine' k
end
structure Fm where
 st:Int
 go:Int
 ti:Int
 nu:Int
 s1:Pi
 s2:Pi
structure Fr(G:List Tie)(hd:Int->List (Int×Option Int))(ln:List Fm)(f a:Int)(H:List Hv)(U:List Tie)(D:List Int):Prop where
 tr:Tr G a H U
 dH:∀b∈D,b∈H.map (·.1)
 yes:∀b∈D,∃c,(b,c)∈H/\(hd b).filter (λq=>ik (q.1=f))=[(f,c)]
 no:∀b,b∉D->(hd b).filter (λq=>ik (q.1=f))=[]
 from_:∀w∈U,∃b∈D,∃y,tch b w/\(y,fw w.1)∈H/\tch y w/\y≠b
 li:∀m∈ln,m.nu=f->(m.go,fw m.ti)∈H/\m.go∉D
 nd:((ln.filter λm=>ik (m.nu=f)).map Fm.go).Nodup
section
variable {G ws:List Tie}{hd hd':Int->List (Int×Option Int)}{ln:List Fm}{f a b:Int}{c:Option Int}{H:List Hv}{U:List Tie}{D:List Int}
def Tr.none_(t:Tr G a H U):∀q∈H,q.2=fx->q.1=a:=by
 induction t with
 |one=>exact λq hq _=>by rw[Å.mp hq]
 |add t hw hn hb ht ih =>
  intro q hq e;rcases Ò.mp hq with hq|hq
  .exact ih q hq e
  .rw[Å.mp hq]at e;cases e
def Tr.way(t:Tr G a H U):∀q∈H,∀p,q.2=fw p->∃w∈U,w.1=p/\tch q.1 w:=by
 induction t with
 |one=>exact λq hq p e=>by rw[Å.mp hq]at e;cases e
 |@add H U b w t hw hn hb ht ih =>
  intro q hq p e;rcases Ò.mp hq with hq|hq
  .obtain⟨v,hv,h⟩:=ih q hq p e;exact⟨v,Ô _ hv,h⟩
  .rw[Å.mp hq]at e ⊢;exact⟨w,É _ (by simp),æ e,UI ht⟩
def Tr.start(t:Tr G a H U):(a,fx)∈H:=by
 induction t with
 |one=>simp
 |add t hw hn hb ht ih=>exact Ô _ ih
def Tr.one_way(w:Wf G)(t:Tr G a H U){y z p:Int}(h1:(y,fw p)∈H)(h2:(z,fw p)∈H):y=z:=by
 have n:(H.map (·.2)).Nodup:=by
  rw[t.came];refine ô.mpr ⟨λh=>?_,?_⟩
  .obtain⟨v,_,e⟩:=Ñ.mp h;cases e
  .refine ģ.mpr<|t.sub.1.imp_of_mem λ{x y} hx hy ne e=>ne<|w.pl_inj (t.sub.2 x hx) (t.sub.2 y hy)<|æ e
 exact congrArg Prod.fst<|XR n h1 h2 rfl
def Fr.give(wf:Wf G)(r:Fr G hd ln f a H U D)(hws:∀w∈ws,w∈G)(nws:ws.Nodup)(hb:(b,c)∈H)(nb:b∉D)(hg:∀m∈ln,m.nu=f->m.go≠b)(e1:hd' b=hd b++[(f,c)])(e2:∀x,x≠b->hd' x=hd x)(ef:∀w,(fr w).nu=f/\(fr w).go=ZP b w/\(fr w).ti=w.1) :
  Fr G hd' (ln++(gw ws (b,c)).map fr) f a (H++(gw ws (b,c)).map (gof b)) (U++gw ws (b,c)) (b::D):=by
 have ndH:=r.tr.nd wf;have bH:b∈H.map (·.1):=ã (f:=(·.1)) hb;have key:∀w∈gw ws (b,c),w∈G/\w∉U/\tch b w:=λw hw=>by
  have h:=ù.mp hw;simp![bAq,Ž,decide_eq_false_iff_not,ii]at h;refine⟨hws w h.1,λz=>?_,h.2.2⟩;let⟨x,hx,y,t1,hy,t2,ny⟩:=r.from_ w z;rcases (Je t1).mp h.2.2 with e|e
  .exact nb<|e▸hx
  .have ey:=((Je t1).mp t2).resolve_left ny;have:(y,fw w.1)=(b,c):=XR ndH hy hb<|ey.trans e.symm;exact h.2.1<|congrArg ap this
 have ng:(gw ws (b,c)).Nodup:=nws.sublist Ŏ;have t2:=r.tr.more bH key ng;have nd2:=t2.nd wf;rw[Õ]at nd2;have new:∀w∈gw ws (b,c),ZP b w∉H.map (·.1):=λw hw z=>(ß.mp nd2).2.2 _ z (ZP b w) (by rw[ë];exact ã (f:=(·.1) ∘ gof b) hw) rfl;generalize gw ws (b,c)=l at *;refine⟨t2,λx hx=>?_,λx hx=>?_,λx hx=>?_,λw hw=>?_,λm hm e=>?_,?_⟩
 .rw[Õ];rcases Ç.mp hx with rfl|hx
  .exact Ô _ bH
  .exact Ô _<|r.dH x hx
 .rcases Ç.mp hx with rfl|hx
  .refine⟨c,Ô _ hb,?_⟩;rw[e1,Ľ,r.no x nb,List.nil_append,Ā,hX (by simp),υ]
  .obtain⟨d,h1,h2⟩:=r.yes x hx;exact⟨d,Ô _ h1,by rw[e2 x λz=>nb<|z▸hx];exact h2⟩
 .rw[Ç,not_or]at hx;rw[e2 x hx.1];exact r.no x hx.2
 .rcases Ò.mp hw with hw|hw
  .obtain⟨x,hx,y,t1,hy,h⟩:=r.from_ w hw;exact⟨x,â _ hx,y,t1,Ô _ hy,h⟩
  .have h:=key w hw;exact⟨b,by simp,ZP b w,h.2.2,É _<|ã hw,UI h.2.2,DK wf h.1⟩
 .rcases Ò.mp hm with hm|hm
  .obtain⟨h1,h2⟩:=r.li m hm e;exact⟨Ô _ h1,λz=>(Ç.mp z).elim (hg m hm e) h2⟩
  .obtain⟨w,hw,rfl⟩:=Ñ.mp hm;let⟨_,q2,q3⟩:=ef w;rw[q2,q3];refine⟨É _<|ã hw,λz=>new w hw ?_⟩;rcases Ç.mp z with e|z
   .exact ij e<|DK wf (key w hw).1
   .exact r.dH _ z
 .rw[Ľ,(show(l.map fr).filter (λm=>ik (m.nu=f))=l.map fr from ω.mpr λm hm=>by let⟨w,_,rfl⟩:=Ñ.mp hm;exact ig (ef w).1),Õ,ë];refine ß.mpr ⟨r.nd,?_,λx hx y hy z=>?_⟩
  .have:=(ß.mp nd2).2.1;rw[ë]at this;rw[show Fm.go ∘ fr=(·.1) ∘ gof b from funext λw=>(ef w).2.1];exact this
  .obtain⟨m,hm,rfl⟩:=Ñ.mp hx;let⟨w,hw,rfl⟩:=Ñ.mp hy;let⟨h1,h2⟩:=ù.mp hm;refine new w hw ?_;rw[<-(ef w).2.1];show(fr w).go∈_;rw[show(fr w).go=m.go from z.symm];exact ã (f:=(·.1)) (r.li m h1<|of_decide_eq_true h2).1
def Fr.other(r:Fr G hd ln f a H U D)(eh:∀b,(hd' b).filter (λq=>ik (q.1=f))=(hd b).filter λq=>ik (q.1=f))(el:(ln'.filter λm=>ik (m.nu=f)).Sublist<|ln.filter λm=>ik (m.nu=f)):Fr G hd' ln' f a H U D :=
 ⟨r.tr,r.dH,λb h=>by rw[eh];exact r.yes b h,λb h=>by rw[eh];exact r.no b h,r.from_,λm hm e=>r.li m (ù.mp<|el.subset<|ù.mpr ⟨hm,ig e⟩).1 e,r.nd.sublist<|el.map _⟩
def Fr.zero(h1:∀b,(hd b).filter (λq=>ik (q.1=f))=[])(h2:∀m∈ln,m.nu≠f):Fr G hd ln f a [(a,fx)] [] [] :=
 ⟨.one,(λ_ h=>by cases h),(λ_ h=>by cases h),λb _=>h1 b,(λ_ h=>by cases h),λm hm e=>ij e<|h2 m hm,by rw[ϔ.mpr λm hm=>by simpa using h2 m hm];exact ă⟩
def Fr.once(wf:Wf G)(r:Fr G hd ln f a H U D)(b:Int):(hd b).filter (λq=>ik (q.1=f))=[]\/∃c,(hd b).filter (λq=>ik (q.1=f))=[(f,c)]/\(c=fx↔b=a)/\∀p,c=fw p->∃w∈G,w.1=p/\tch b w/\∃d,(hd<|ZP b w).filter (λq=>ik (q.1=f))=[(f,d)]:=by
 by_cases hb:b∈D
 .obtain⟨c,h1,h2⟩:=r.yes b hb;refine .inr ⟨c,h2,⟨λe=>r.tr.none_ _ h1 e,λe=>?_⟩,λp e=>?_⟩
  .subst e;exact congrArg ap<|XR (r.tr.nd wf) h1 r.tr.start rfl
  .obtain⟨w,hw,ep,t⟩:=r.tr.way _ h1 p e;let⟨x,hx,y,t1,hy,t2,ny⟩:=r.from_ w hw;have ey:y=b:=r.tr.one_way wf hy (by rw[ep,<-e];exact h1);subst ey;have ex:x=ZP y w:=((Je t).mp t1).resolve_left λz=>ny z.symm;let⟨d,_,h4⟩:=r.yes x hx;exact⟨w,r.tr.sub.2 w hw,ep,t,d,by rw[<-ex];exact h4⟩
 .exact .inl<|r.no b hb
end
abbrev BP(C:Yc)(b:Int):Option Tie:=(C.at_ b).label.up.bind λu=>if(0<=u.1/\u.1<C.ts.length)/\(((C.tie u.1).1=b\/(C.tie u.1).2.1=b)/\(C.at_<|ZI C.ts u.1 b).label.cost<(C.at_ b).label.cost)then fw (u.1,b,ZI C.ts u.1 b)else fx
def O2{α β:Type}{F:α->Option β}{g:β->α}(h:∀b w,F b=fw w->g w=b):∀l:List α,((l.filterMap F).map g).Sublist l
 |[]=>.slnil
 |b::l=>by
  rw[î];split
  .exact(O2 h l).cons _
  .rename_i w e;rw[Í,h _ _ e];exact(O2 h l).cons_cons _
abbrev XB(C:Yc):List Tie:=C.keys.filterMap<|BP C
def lblW_iff{b:Int}{w:Tie}:BP C b=fw w↔(C.at_ b).label.up.map (·.1)=fw w.1/\(0<=w.1/\w.1<C.ts.length)/\((C.tie w.1).1=b\/(C.tie w.1).2.1=b)/\(C.at_<|ZI C.ts w.1 b).label.cost<(C.at_ b).label.cost/\w=(w.1,b,ZI C.ts w.1 b):=by
 unfold BP;cases (C.at_ b).label.up with
 |none=>simp
 |some u =>
  rw[ö];constructor
  .intro h;split at h
   .rename_i z;cases h;exact⟨rfl,z.1,z.2.1,z.2.2,rfl⟩
   .cases h
  .rintro⟨h1,h2,h3,h4,h5⟩;have e:u.1=w.1:=æ h1;rw[e,hX ⟨h2,h3,h4⟩,<-h5]
def A7{b:Int}{w:Tie}(h:BP C b=fw w):w=(w.1,b,ZI C.ts w.1 b):=(lblW_iff.mp h).2.2.2.2
def lblG_mem{w:Tie}:w∈XB C↔(C.br.lookup w.2.1).isSome=fy/\BP C w.2.1=fw w:=by
 unfold XB;rw[Ŗ];refine⟨λ⟨b,hb,e⟩=>?_,λh=>⟨w.2.1,keys_mem.mpr h.1,h.2⟩⟩;have:=(lblW_iff.mp e).2.2.2.2;have eb:w.2.1=b:=by rw[this]
 rw[eb];exact⟨keys_mem.mp hb,e⟩
variable {y:Int}
def Tj{x a b:Int}(h1:x=a\/y=a)(h2:x=b\/y=b)(n:a≠b):(if x=a then y else x)=b:=by
 by_cases q:x=a
 .rw[hX q];exact h2.resolve_left λz=>n<|q.symm.trans z
 .rw[hZ q];exact h2.resolve_right λz=>n<|(h1.resolve_left q).symm.trans z
def M2(gd:C.gd N):Wf<|XB C:=by
 have kn:C.keys.Nodup:=(WZ gd.nd).imp λz=>by lia
 have nd:((XB C).map λw=>w.2.1).Nodup:=kn.sublist<|O2 (λb w e=>congrArg (λw:Tie=>w.2.1)<|A7 e) _;refine⟨⟨λb=>(C.at_ b).label.cost,nd,λw hw=>?_⟩,ģ.mpr<|(EA nd).imp_of_mem λ{v w} hv hw ne e=>?_⟩
 .have h:=lblW_iff.mp (lblG_mem.mp hw).2;rw[show w.2.2=ZI C.ts w.1 w.2.1 from congrArg (λw:Tie=>w.2.2) h.2.2.2.2];exact h.2.2.2.1
 .have h1:=lblW_iff.mp (lblG_mem.mp hv).2;have h2:=lblW_iff.mp (lblG_mem.mp hw).2;have far:=Inc.far gd.no (p:=v.1) (b:=v.2.1) ⟨h1.2.1.1,h1.2.1.2,h1.2.2.1⟩;by_cases eb:v.2.1=w.2.1
  .have:=h1.2.2.2.2;rw[eb,e]at this;exact ne<|this.trans h2.2.2.2.2.symm
  .have k:ZI C.ts v.1 v.2.1=w.2.1:=Tj h1.2.2.1 (by rw[e];exact h2.2.2.1) eb;have c1:=h1.2.2.2.1;have c2:=h2.2.2.2.1;rw[<-e,<-k,far.2]at c2;exact ij c1<|Int.not_lt.mpr<|Int.le_of_lt c2
def Safe.lbl(sf:Safe H C)(gd:C.gd N):∀w∈Zz C C.ts.length,w∈XB C:=λw hw=>by
 have o:=sf.ways gd hw;have c1:=(gd.no.tie _<|X7 o.r0 o.r1).2.2;let⟨p,b,q⟩:=w;have lt:(C.tie p).1<(C.tie p).2.1:=c1.1;have c2:1<=(C.tie p).2.2:=c1.2.1;have g:ZI C.ts p b=q:=by have:=o.ends;dsimp only at this;unfold ZI O.far;show(if(C.tie p).1=b then(C.tie p).2.1 else(C.tie p).1)=_;split<;>lia
 refine lblG_mem.mpr ⟨o.sc,lblW_iff.mpr ⟨o.up,⟨o.r0,o.r1⟩,?_,?_,by rw[g]⟩⟩
 .have:=o.ends;dsimp only at this;show(C.tie p).1=b\/(C.tie p).2.1=b;lia
 .have:=o.cost;dsimp only at this ⊢;rw[g];lia
def AO{D:Yc}(s1:Safe H C)(s2:Safe G D)(hg:∀b s y,H b s=fw y->G b s=fw y)(et:D.ts=C.ts)(ek:D.keys=C.keys)(es:∀b∈C.keys,((D.at_ b).life,(D.at_ b).version)=((C.at_ b).life,(C.at_ b).version)):XB D=XB C:=by
 have el:∀b,(D.at_ b).label=(C.at_ b).label:=λb=>by
  by_cases hb:b∈C.keys
  .have e:=es b hb;let⟨A,hA⟩:=å.mp<|keys_mem.mp hb;let⟨B,hB⟩:=å.mp (keys_mem.mp (by rw[ek];exact hb:b∈D.keys));have h1:=hg _ _ _ (s1.br _<|Zd hA).now;have h2:=(s2.br _<|Zd hB).now;unfold Yc.at_ at e ⊢;rw[hA,hB]at e ⊢
   replace e:(B.life,B.version)=(A.life,A.version):=e
   dsimp only at h1 h2;rw[e,h1]at h2;exact(æ h2).symm
  .have h1:C.br.lookup b=fx:=by
    cases e:C.br.lookup b with
    |none=>rfl
    |some _=>exact ij (keys_mem.mpr<|by rw[e];rfl) hb
   have h2:D.br.lookup b=fx:=by
    cases e:D.br.lookup b with
    |none=>rfl
    |some _=>exact ij (by rw[<-ek];exact keys_mem.mpr<|by rw[e];rfl) hb
   unfold Yc.at_;rw[h1,h2]
 unfold XB;rw[ek];congr 1;funext b;unfold BP Yc.tie;rw[et,el];congr 1;funext u;rw[el]
noncomputable abbrev fmV(m:Fm):Val:=.tup [.int m.st,.int m.go,.int m.ti,.int m.nu,pV m.s1,pV m.s2]
noncomputable abbrev Nc(q:Int×Option Int):Val:=.tup [.int q.1,hoV q.2]
structure Ca where
 c:Ad
 ln:Ad
 dh:Ad
 ls:List<|Int×Ad
 line:List Fm
 hd:Int->List (Int×Option Int)
 sent:Int
abbrev Ca.adr(K:Ca):List Ad:=[K.c,K.ln,K.dh]++K.ls.map (·.2)
structure CAt(h:Hs)(Y:Yd)(K:Ca):Prop where
 ins:h K.c=fw (.ins "Carrier" [("yard",.ref Y.y),("frames_sent",.int K.sent),("line",.ref K.ln),("had_by_bridge",.ref K.dh)])
 lin:h K.ln=fw (.lst<|K.line.map fmV)
 had:h K.dh=fw (.dct<|Zg rfV K.ls)
 each:∀q∈K.ls,h q.2=fw (.lst<|(K.hd q.1).map Nc)
 nd:K.adr.Nodup
 off:∀a∈K.adr,a∉Y.adr
 key:K.ls.map (·.1)=Y.bs
abbrev Xc(hd:Int->List (Int×Option Int))(b:Int)(q:Int×Option Int):Int->List (Int×Option Int):=λx=>if x=b then hd x++[q]else hd x
abbrev frm(C:Yc)(b f:Int)(w:Tie):Fm:=⟨b,ZP b w,w.1,f,((C.at_ b).life,(C.at_ b).version),((C.at_<|ZP b w).life,(C.at_<|ZP b w).version)⟩
abbrev Ca.have_(K:Ca)(C:Yc)(b:Int)(c:Option Int)(f:Int):Ca:={K with hd:=Xc K.hd b (f,c),line:=K.line++(gw (Zz C C.ts.length) (b,c)).map (frm C b f)}
section
variable {h g:Hs}{K:Ca}
def Ca.three(K:Ca):K.c∈K.adr/\K.ln∈K.adr/\K.dh∈K.adr/\∀q∈K.ls,q.2∈K.adr:=⟨by simp[Ca.adr],by simp[Ca.adr],by simp[Ca.adr],λq hq=>É _<|ã hq⟩
def CAt.keep{S:List Ad}(x:CAt h Y K)(e:Ex S h g)(ds:∀a∈K.adr,a∉S):CAt g Y K :=
 have ⟨t1,t2,t3,t4⟩:=K.three
 ⟨e.get (ds _ t1) x.ins,e.get (ds _ t2) x.lin,e.get (ds _ t3) x.had,λq hq=>e.get (ds _<|t4 q hq)<|x.each q hq,x.nd,x.off,x.key⟩
def CAt.ext(x:CAt h Y K)(e:Ext h g):CAt g Y K:=x.keep (S:=[]) (.of e) λ_ _=>by simp
def CAt.taken(x:CAt h Y K)(ha:a∈K.adr):∃o,h a=fw o:=by
 rcases Ò.mp ha with ha|ha
 .simp![Ç,Ö,or_false]at ha;rcases ha with rfl|rfl|rfl
  .exact⟨_,x.ins⟩
  .exact⟨_,x.lin⟩
  .exact⟨_,x.had⟩
 .obtain⟨q,hq,rfl⟩:=Ñ.mp ha;exact⟨_,x.each q hq⟩
def CAt.mv(x:CAt h Y K)(m:Mv h Y g Z)(hb:Z.bs=Y.bs):CAt g Z K:=by let⟨t1,t2,t3,t4⟩:=K.three;refine⟨by rw[m.y];exact(m.off (x.off _ t1) x.ins).2,(m.off (x.off _ t2) x.lin).2,(m.off (x.off _ t3) x.had).2,λq hq=>(m.off (x.off _<|t4 q hq)<|x.each q hq).2,x.nd,λa ha=>?_,by rw[hb];exact x.key⟩;let⟨o,ho⟩:=x.taken ha;exact(m.off (x.off _ ha) ho).1
def CAt.yard{S:List Ad}(x:CAt h Y K)(y:fP h Y)(e:Ex S h g)(hs:∀a∈S,a∈K.adr):fP g Y:=y.keep e λa ha z=>x.off a (hs a z) ha
def CAt.sep(x:CAt h Y K):K.c≠K.ln/\K.c≠K.dh/\K.ln≠K.dh/\∀q∈K.ls,q.2≠K.c/\q.2≠K.ln/\q.2≠K.dh:=by let⟨n1,n2,n3⟩:=ß.mp x.nd;simp![ô,Ç,Ö,or_false,not_or,not_false_eq_true,ă,and_true]at n1;refine⟨n1.1.1,n1.1.2,n1.2,λq hq=>?_⟩;have:=λa ha=>n3 a ha _ (ã (f:=(·.2)) hq);exact⟨(this _<|by simp).symm,(this _<|by simp).symm,(this _<|by simp).symm⟩
def CAt.got{b:Int}{l:List (Int×Option Int)}{hd:Int->List (Int×Option Int)}(x:CAt h Y K)(nk:(K.ls.map (·.1)).Nodup)(hm:(b,a)∈K.ls)(e1:hd b=l)(e2:∀c,c≠b->hd c=K.hd c):CAt (upd h a<|.lst<|l.map Nc) Y {K with hd:=hd}:=by
 let⟨s1,s2,s3⟩:=x.sep.2.2.2 _ hm;refine⟨(fA s1.symm).trans x.ins,(fA s2.symm).trans x.lin,(fA s3.symm).trans x.had,λq hq=>?_,x.nd,x.off,x.key⟩;by_cases e:q.2=a
 .have:q=(b,a):=XR (ß.mp x.nd).2.1 hq hm e;rw[this];dsimp only;rw[fB,e1]
 .rw[fA e];dsimp only;rw[e2 q.1 λz=>e<|by rw[XR nk hq hm z]];exact x.each q hq
def CAt.lined(x:CAt h Y K)(l:List Fm):CAt (upd h K.ln<|.lst<|l.map fmV) Y {K with line:=l}:=by let⟨s1,s2,s3,s4⟩:=x.sep;exact⟨(fA s1).trans x.ins,fB,(fA s3.symm).trans x.had,λq hq=>(fA (s4 q hq).2.1).trans<|x.each q hq,x.nd,x.off,x.key⟩
def CAt.sented(x:CAt h Y K)(i:Int):CAt (upd h K.c<|.ins "Carrier" [("yard",.ref Y.y),("frames_sent",.int i),("line",.ref K.ln),("had_by_bridge",.ref K.dh)]) Y {K with sent:=i}:=by let⟨s1,s2,s3,s4⟩:=x.sep;exact⟨fB,(fA s1.symm).trans x.lin,(fA s2.symm).trans x.had,λq hq=>(fA (s4 q hq).1).trans<|x.each q hq,x.nd,x.off,x.key⟩
end
section
variable {N:Nat}{K:Ca}
variable {b:Int}
def MS(x:fP h Y)(hs:(Y.cc.br.lookup b).isSome=fy)(k:∀e:En,Y.cc.at_ b=e.B->fO h e.b e.t e.d e.B->Q (.ref e.b) h):wF P (n+1) "Yard.bridge" [.ref Y.y,.int b] h Q X:=by
 have xi:=x.ins;have xs:=x.stand;let⟨e,he,en,lk,ea,ba⟩:=x.at_ hs;refine XH ?_
 exists Uv xs rfl
 rw[ZO,lk];refine' k e ea ba
def UD{f:Int}{c:Option Int}(x:fP h Y)(gd:Y.cc.gd N)(sf:Safe H Y.cc)(y:CAt h Y K)(hs:(Y.cc.br.lookup b).isSome=fy)(b1:K.line.length+16<=500000)(b2:∀b,(K.hd b).length+1<=500000)(k:∀g,fP g Y->CAt g Y (K.have_ Y.cc b c f)->Ex K.adr h g->Q .non g):wF P (n+7) "Carrier.have" [.ref K.c,.int b,hoV c,.int f] h Q X:=by
 have xi:=y.ins;have hb:b∈K.ls.map (·.1):=by rw[y.key];exact gd.sub _<|Zd (å.mp hs).choose_spec
 have nk:(K.ls.map (·.1)).Nodup:=by rw[y.key];exact gd.no.up.imp λh=>by lia
 let⟨⟨b',a⟩,hm,rfl⟩:=Ñ.mp hb;dsimp only at hs k ⊢;have la:K.ls.lookup b'=fw a:=Z6 nk hm;generalize b'=b at hs k hm la;have ey:h a=fw (.lst<|(K.hd b).map Nc):=y.each _ hm;refine JP ?_;refine' ZB y.had rfl (by rw[ZO,la];rfl) ?_;refine' ZD ey (by rw[Á,lim];have:=b2 b;lia) ?_;rw[show(K.hd b).map Nc++[.tup [.int f,hoV c]]=(Xc K.hd b (f,c) b).map Nc by unfold Xc;rw[hX rfl,Õ];rfl];have y1:=y.got (hd:=Xc K.hd b (f,c)) nk hm rfl λz hz=>hZ hz;have ea:Ex K.adr h<|upd h a<|.lst<|(Xc K.hd b (f,c) b).map Nc:=Ex.upd<|K.three.2.2.2 _ hm;have x1:=y.yard x ea λ_ h=>h;have xi:=y1.ins;generalize upd h a (.lst<|(Xc K.hd b (f,c) b).map Nc)=g1 at y1 ea x1 xi ⊢;refine' HG x1 gd λp2 g2 eN e2 l2=>?_;fail;have hl:Y.ts.length<=16:=gd.no.sixteen;have ol:=Xq (C:=Y.cc) Y.ts.length;refine AR (ws:=Zz Y.cc Y.ts.length) (q:=(b,c)) ↥0 l2 λp3 g3 hp3 e3 l3=>?_;have n3:K.ln≠p3:=Za (y1.ext e2).lin hp3;have gl:=KM (ws:=Zz Y.cc Y.ts.length) (q:=(b,c));refine' Zh (λi en g=>Sm3 λv4 v5 v6=>Cj5 (en=[fw<|.ref K.c,fw<|.int b,fw<|hoV c,fw<|.int f,v4,v5,v6]) (CAt g Y {K with hd:=Xc K.hd b (f,c),line:=K.line++((gw (Zz Y.cc Y.ts.length) (b,c)).take i).map (frm Y.cc b f)}) (fP g Y) (Ex K.adr h g)<|g p3=fw (.lst<|(Xh (Zz Y.cc Y.ts.length) (b,c)).map hvV)) ⟨_,_,_,rfl,by rw[List.take_zero,Ř,ï];exact(y1.ext e2).ext e3,(x1.ext e2).ext e3,(ea.trans<|.of e2).trans<|.of e3,l3⟩ (λ_ _ _ _ ⟨_,_,_,_,_,_,_,z⟩=>lsE z) ?_ ?_
 .rintro i v en g hv ⟨v4,v5,v6,rfl,yg,xg,eg,lg⟩ K' hK;let⟨q,hq,rfl⟩:=ZL hv;unfold Xh at hq;rw[Ú]at hq;let⟨w,hw,rfl⟩:=Ë.mp hq;rw[Zq hw,Õ,<-Ć]at hK;have hm:=ù.mp<|ä hw;simp![bAq,Ž,decide_eq_false_iff_not,ii]at hm;have o:=sf.ways gd hm.1;have hs2:(Y.cc.br.lookup<|ZP b w).isSome=fy:=by
   unfold ZP;split
   .exact o.sp
   .exact o.sc
  have xi:=yg.ins;have xyi:=xg.ins;have yl:=yg.lin;dsimp only at xi yl;rw[show hvV (gof b w)=.tup [.int<|ZP b w,.int w.1] from rfl];refine' MS xg hs λe1 q1 b1'=>?_;have bi:=b1'.ins
  exists ZS b1'
  refine' MS xg hs2 λe2 q2 b2'=>?_;have bi:=b2'.ins
  exists ZS b2'
  fail;have hlen:i<(gw (Zz Y.cc Y.ts.length) (b,c)).length:=(Ó.mp hw).1;unfold Xh at gl;rw[Á]at gl;refine ZD yl (by rw[Á,lim];rw[ì,Á,ď];lia) ?_;fail;have y2:=yg.lined<|(K.line++((gw (Zz Y.cc Y.ts.length) (b,c)).take i).map (frm Y.cc b f))++[frm Y.cc b f w];rw[Õ (l₂:=[_])]at y2;rw[<-q1,<-q2];have eu:∀o,Ex K.adr g (upd g K.ln o):=λo=>Ex.upd K.three.2.1;exact hK _ _ ⟨_,_,_,rfl,y2,yg.yard xg (eu _) λ_ z=>z,eg.trans<|eu _,(fA n3.symm).trans lg⟩
 .rintro en g ⟨v4,v5,v6,rfl,yg,xg,eg,lg⟩;unfold Xh at yg;rw[Á,Á,ü]at yg;refine' k g xg yg eg
def FX(x:fP h Y)(gd:Y.cc.gd N)(sf:Safe H Y.cc)(y:CAt h Y K)(hs:(Y.cc.br.lookup b).isSome=fy)(b1:K.line.length+16<=500000)(b2:∀b,(K.hd b).length+1<=500000)(k:∀g,fP g Y->CAt g Y (({K with sent:=K.sent+1}:Ca).have_ Y.cc b fx K.sent)->Ex K.adr h g->Q (.int K.sent) g):wF P (n+8) "Carrier.send" [.ref K.c,.int b] h Q X:=by
 have xi:=y.ins;have xyi:=x.ins;refine JJ ?_
 exists NF x hs
 walk_at "p";have y1:=y.sented<|K.sent+1;have e1:∀o,Ex K.adr h (upd h K.c o):=λo=>Ex.upd K.three.1;refine UD (K:={K with sent:=K.sent+1}) (c:=fx) (y.yard x (e1 _) λ_ z=>z) gd sf y1 hs b1 b2 λg x2 y2 e2=>?_;refine' k g x2 y2 ((e1 _).trans e2)
def Bl{d:Dd}(k:Q (.bl fz) h):wF P (n+1) "is_line_deed" [d.v] h Q X:=by refine Y4 ?_;cases d<;>walk_at "p"<;>first|exact k|exact fH ↥1 k|exact fH rfl k
end
abbrev opB(C:Yc)(p:Nat):Bool:=ik (C.ends p=("child","parent"))||ik (C.ends p=("parent","child"))
variable {s:String}
def Pv{t:String}{l:List String}(h:l.Perm [s,t])(n:l≠["parent","child"]):ik (l=["child","parent"])=(ik ((s,t)=("child","parent"))||ik ((s,t)=("parent","child"))):=by
 have hl:l=[s,t]\/l=[t,s]:=by
  match l,h with
  |[],h=>have:=h.length_eq;cases this
  |[_],h=>have:=h.length_eq;cases this
  |[x,y],h =>
   have hx:x∈[s,t]:=h.mem_iff.mp ó;rcases Ç.mp hx with e|e
   .subst e;exact .inl (by rw[Α.mp<|ρ h])
   .have e:x=t:=Å.mp e;subst e;exact .inr (by rw[Α.mp<|ρ<|h.trans<|List.Perm.swap _ _ _])
  |_::_::_::_,h=>have:=h.length_eq;simp at this
 rw[aR,aS,ii,ii,ii];rcases hl with rfl|rfl
 .simp![aa,and_true,ū];constructor
  .exact .inl
  .rintro(z|z)
   .exact z
   .exact ij (by rw[z.1,z.2]) n
 .simp![aa,and_true,ū];constructor
  .exact λz=>.inr ⟨z.2,z.1⟩
  .rintro(z|z)
   .exact ij (by rw[z.1,z.2]) n
   .exact⟨z.2,z.1⟩
def Fk{l m:List String}(ea:h a=fw (.lst<|l.map .str))(eb:h b=fw (.lst<|m.map .str)):eqV h (.ref a) (.ref b)=fw (ik (l=m)):=by
 have h1:∀(l:List String),(l.map Val.str).mapM (dat h 11)=fw (l.map D.str):=λl=>by
  induction l with
  |nil=>rfl
  |cons x l ih=>rw[Í,ļ,ih];rfl
 have h2:∀{c:Ad}{l:List String},h c=fw (.lst<|l.map .str)->dat h deep (.ref c)=fw (.lst<|l.map D.str):=λ{c l} ec=>by show(fQ<|h c).bind (λxs=>(xs.mapM<|dat h 11).map D.lst)=_;rw[ec,Yl,ö,h1];rfl
 have h3:∀l m:List String,D.eqvs (l.map D.str) (m.map D.str)=ik (l=m):=λl=>by
  induction l with
  |nil=>intro m;cases m<;>simp[D.eqvs]
  |cons x l ih =>
   intro m;cases m with
   |nil=>simp[D.eqvs]
   |cons y m =>show(x==y&&D.eqvs (l.map D.str) (m.map D.str))=_;rw[ih];by_cases e:x=y<;>by_cases e2:l=m<;>simp[e,e2]
 unfold eqV;rw[h2 ea,h2 eb];show fw (D.eqvs _ _)=_;rw[h3]
def Fg{p:Nat}(hp:p<C.ts.length)(h:opB C p=fy):∃w∈Zz C C.ts.length,w.1=p/\((w.2.1=(C.tie p).1/\w.2.2=(C.tie p).2.1)\/(w.2.1=(C.tie p).2.1/\w.2.2=(C.tie p).1)):=by
 unfold Zz;unfold opB at h;by_cases e:C.ends p=("child","parent")
 .exact⟨_,ĸ.mpr ⟨p,ŏ.mpr hp,by unfold opn;rw[hX e];exact Å.mpr rfl⟩,rfl,.inl ⟨rfl,rfl⟩⟩
 .rw[ie e,bO]at h;exact⟨((p:Int),(C.tie p).2.1,(C.tie p).1),ĸ.mpr ⟨p,ŏ.mpr hp,by unfold opn;rw[hZ e,hX<|of_decide_eq_true h];exact Å.mpr rfl⟩,rfl,.inr ⟨rfl,rfl⟩⟩
structure FmOk(C:Yc)(m:Fm):Prop where
 r0:0<=m.ti
 r1:m.ti<C.ts.length
 ends:(m.st=(C.tie m.ti).1/\m.go=(C.tie m.ti).2.1)\/(m.st=(C.tie m.ti).2.1/\m.go=(C.tie m.ti).1)
section
variable {N:Nat}{K:Ca}
def AS{p:Nat}(x:fP h Y)(hp:p<Y.ts.length)(k:∀g,Ext h g->Q (.bl<|opB Y.cc p) g):wF P (n+6) "is_open_way" [.ref Y.y,.int p] h Q X:=by
 have xi:=x.ins;refine Kh ?_
 exists UJ x hp
 refine fH (show pairS (.tup [.str (Y.cc.ends p).1,.str (Y.cc.ends p).2])=fw _ from rfl) ?_;intro l pm nl;refine Ze λa g1 ha x1 e1=>?_;refine' Ze λb g2 hb x2 e2=>?_
 exists WK (Fk (m:=["child","parent"]) (x2.get e1) e2)
 rw[Pv pm nl];exact k _<|x1.trans x2
def BA{m:Fm}(x:fP h Y)(gd:Y.cc.gd N)(sf:Safe H Y.cc)(y:CAt h Y K)(o:FmOk Y.cc m)(k:∀bl g,Ext h g->(bl=fy->(Y.cc.br.lookup m.go).isSome=fy)->Q (.bl bl) g):wF P (n+7) "Carrier.goes_on" [.ref K.c,.int m.st,.int m.go,.int m.ti,.tup [pV m.s1,pV m.s2]] h Q X:=by
 have xi:=y.ins;let⟨p,hp⟩:=cu o.r0;have hpl:p<Y.ts.length:=by have:m.ti<Y.ts.length:=o.r1;lia
 refine Wc ?_;rw[hp];refine' AS x hpl λg e=>?_;have x2:=x.ext e;have y2:=y.ext e;have xi:=y2.ins;have xyi:=x2.ins;cases ho:opB Y.cc p with
 |false =>walk_at "p";exact k _ _ e nofun
 |true =>
  let⟨w,hw,e1,e2⟩:=Fg (C:=Y.cc) hpl ho;have wo:=sf.ways gd hw;have oe:=o.ends;rw[hp]at oe;have hs:(Y.cc.br.lookup m.st).isSome=fy/\(Y.cc.br.lookup m.go).isSome=fy:=by have h1:=wo.sc;have h2:=wo.sp;rcases oe with⟨a1,a2⟩|⟨a1,a2⟩<;>rcases e2 with⟨c1,c2⟩|⟨c1,c2⟩<;>rw[a1,a2]<;>rw[c1]at h1<;>rw[c2]at h2<;>first|exact⟨h1,h2⟩|exact⟨h2,h1⟩
  walk_at "p";refine MS x2 hs.1 λe1 q1 b1=>?_;have bi:=b1.ins
  exists ZS b1
  refine' MS x2 hs.2 λe2 q2 b2=>?_;have bi:=b2.ins
  exists ZS b2
  refine' WK (show _=fw _ from rfl) ?_;exact k _ _ e λ_=>hs.2
end
def Eh(f:α->β):∀(l:List α) (i:Nat),(l.map f).eraseIdx i=(l.eraseIdx i).map f
 |[],_=>rfl
 |_::_,0=>rfl
 |a::l,i+1=>congrArg (f a :: ·)<|Eh f l i
section
variable {Y:Yd}{N:Nat}{K:Ca}
def J5{d:Dd}(x:fP h Y)(gd:Y.cc.gd N)(hN:N<=6000)(sd:(step Y.cc d).isSome=fy)(y:CAt h Y K)(k:∀(Z:Yd) g,step Y.cc d=fw Z.cc->Mv h Y g Z->CAt g Z K->Q .non g):wF P (n+7) "Carrier.deed" [.ref K.c,d.v] h Q X:=by
 have xi:=y.ins;have xyi:=x.ins;refine Xl ?_
 exists Bl
 walk_at "p";refine Nj x gd hN sd λZ g e m=>?_;refine' k Z g e m (y.mv m (Jc gd e).2.1)
def CO{at_:Nat}{m:Fm}(x:fP h Y)(gd:Y.cc.gd N)(sf:Safe H Y.cc)(y:CAt h Y K)(hs:s = "arrive"\/s = "drop")(hm:K.line[at_]?=fw m)(o:FmOk Y.cc m)(b1:K.line.length+16<=500000)(b2:∀b,(K.hd b).length+1<=500000)(k:∀g K',(K'={K with line:=K.line.eraseIdx at_}\/((Y.cc.br.lookup m.go).isSome=fy/\K'=({K with line:=K.line.eraseIdx at_}:Ca).have_ Y.cc m.go (fw m.ti) m.nu))->fP g Y->CAt g Y K'->Ex K.adr h g->Q .non g):wF P (n+8) "Carrier.deed" [.ref K.c,.tup [.str s,.int at_]] h Q X:=by
 have xi:=y.ins;have xyi:=x.ins;have hl:at_<K.line.length:=(Ó.mp hm).1;have yl:=y.lin;refine Xl ?_
 exists Y4
 walk_at "p";refine fH (show _=fw fy by rcases hs with rfl|rfl<;>rfl) ?_;walk_at "p";refine Mw ↥0 (by rw[Á];lia) ?_;walk_at "p";refine Do (v:=fmV m) yl (by rw[Ú,hm];rfl) (by rw[Á];lia) ?_;have ee:∀o,Ex K.adr h (upd h K.ln o):=λo=>Ex.upd K.three.2.1;have y1:=y.lined<|K.line.eraseIdx at_;rw[show(K.line.map fmV).eraseIdx at_=(K.line.eraseIdx at_).map fmV from Eh fmV _ _];have x1:=y.yard x (ee<|.lst<|(K.line.eraseIdx at_).map fmV) λ_ z=>z;have e1:=ee<|.lst<|(K.line.eraseIdx at_).map fmV;generalize upd h K.ln (.lst<|(K.line.eraseIdx at_).map fmV)=g1 at y1 x1 e1 ⊢;have xi:=y1.ins;fail;dsimp only;refine gM (λc=>?_) λc=>?_
 .refine' BA (K:={K with line:=K.line.eraseIdx at_}) x1 gd sf y1 o λbl g2 e2 hb=>?_;cases bl with
  |false =>walk_at "p";exact k g2 _ (.inl rfl) (x1.ext e2) (y1.ext e2)<|e1.trans<|.of e2
  |true =>walk_at "p";refine UD (K:={K with line:=K.line.eraseIdx at_}) (c:=fw m.ti) (x1.ext e2) gd sf (y1.ext e2) (hb rfl) (Û (dQ (ϋ ..) 16) b1) b2 λg3 x3 y3 e3=>?_;refine' k g3 _ (.inr ⟨hb rfl,rfl⟩) x3 y3 ((e1.trans<|.of e2).trans e3)
 .walk_at "p";exact k g1 _ (.inl rfl) x1 y1 e1
def CM(y:CAt h Y K)(k:∀p g,h p=fx->Ext h g->g p=fw (.lst<|K.line.map fmV)->Q (.ref p) g):wF P (n+1) "Carrier.under_way" [.ref K.c] h Q X:=by have xi:=y.ins;have yl:=y.lin;refine XC ?_;refine' Ze k
def U5{b:Int}(y:CAt h Y K)(nk:(K.ls.map (·.1)).Nodup)(k:∀p g,h p=fx->Ext h g->g p=fw (.lst<|(if b∈Y.bs then K.hd b else []).map Nc)->Q (.ref p) g):wF P (n+2) "Carrier.came" [.ref K.c,.int b] h Q X:=by
 have xi:=y.ins;have yh:=y.had;refine JH ?_
 exists Wn
 walk_at "p";refine Ze λp1 g1 bx x1 e1=>?_
 exists Hx (x1.get yh) rfl
 rw[ZO];have kk:=y.key;by_cases hb:b∈Y.bs
 .rw[hX hb]at k;rw[<-kk]at hb;let⟨⟨c,a⟩,hm,rfl⟩:=Ñ.mp hb;have ea:=x1.get<|y.each _ hm;rw[Z6 nk hm];fail;show(biV g1 .list [.ref a]).wp g1 Q;refine' Ze λp g hp x e=>k p g (Z9 x1 hp) (x1.trans x) e
 .rw[hZ hb]at k;rw[<-kk]at hb;cases e:K.ls.lookup b with
  |some a=>exact ij (ã<|Zd e) hb
  |none =>fail;show(biV g1 .list [.ref p1]).wp g1 Q;refine' Ze λp g hp x e=>k p g (Z9 x1 hp) (x1.trans x) e
end
def CAt.more{b:Int}(x:CAt g {Y with bs:=bs} ⟨p,ln,dh,ls,[],λ_=>[],0⟩)(ea:g a=fw (.lst []))(na:a∉(⟨p,ln,dh,ls,[],λ_=>[],0⟩:Ca).adr)(ya:a∉Y.adr):CAt (upd g dh<|.dct<|Zg rfV<|ls++[(b,a)]) {Y with bs:=bs++[b]} ⟨p,ln,dh,ls++[(b,a)],[],λ_=>[],0⟩:=by
 let⟨s1,s2,s3,s4⟩:=x.sep;have na':a≠dh:=λz=>na (by rw[z];exact(Ca.three _).2.2.1);have ad:(⟨p,ln,dh,ls++[(b,a)],[],λ_=>[],0⟩:Ca).adr=(⟨p,ln,dh,ls,[],λ_=>[],0⟩:Ca).adr++[a]:=by unfold Ca.adr;rw[Õ,<-Ć];rfl
 refine⟨(fA s2).trans x.ins,(fA s3).trans x.lin,fB,λq hq=>?_,?_,λc hc=>?_,?_⟩
 .rcases Ò.mp hq with hq|hq
  .exact(fA (s4 q hq).2.2).trans<|x.each q hq
  .rw[Å.mp hq];exact(fA na').trans ea
 .rw[ad];exact ß.mpr ⟨x.nd,by simp,λc hc d hd z=>na<|by rw[Å.mp hd]at z;exact z▸hc⟩
 .rw[ad]at hc;rcases Ò.mp hc with hc|hc
  .exact x.off c hc
  .rw[Å.mp hc];exact ya
 .rw[Õ,x.key];rfl
section
variable {N:Nat}{K:Ca}
def EJ(x:fP h Y)(gd:Y.cc.gd N)(hp:h p=fx)(k:∀g K,K.c=p->fP g Y->CAt g Y K->K.line=[]->(∀b,K.hd b=[])->K.sent=0->Ext h g->(∀a∈K.adr,h a=fx)->Q .non g):wF P (n+2) "Carrier.__init__" [.ref p,.ref Y.y] (upd h p<|.ins "Carrier" []) Q X:=by
 have b10:=gd.no.ten;have nb:Y.bs.Nodup:=gd.no.up.imp λh=>by lia
 refine Jq ?_;refine' Yo fB (show(1:Nat)<900 by decide) ?_;have i1:=fB (h:=h) (a:=p) (o:=Ob.ins "Carrier"<|fT (fT [] "yard"<|.ref Y.y) "frames_sent"<|.int 0);have x1:Ex [p] h<|upd h p<|Ob.ins "Carrier"<|fT (fT [] "yard"<|.ref Y.y) "frames_sent"<|.int 0:=Ex.upd (by simp);rw[fE,fE];generalize upd h p (Ob.ins "Carrier"<|fT (fT [] "yard"<|.ref Y.y) "frames_sent"<|.int 0)=g1 at i1 x1 ⊢;refine' Yh λln hln=>?_;refine' Xx i1 x1 hp hln (show(2:Nat)<900 by decide) λg2 i2 l2 x2 y2 nln fln=>?_;fail;intro dh hdh;refine' Xx i2 x2 hp hdh (show(3:Nat)<900 by decide) λg3 i3 d3 x3 y3 ndh fdh=>?_;have l3:=y3.get (by simpa using nln.symm) l2;have nld:ln≠dh:=Za l2 hdh;have xe:Ext h g3:=⟨λ{a o} e=>x3.get (by simpa using Za e hp) e⟩
 have z3:=x.ext xe;have zi:=z3.ins
 exists UX z3
 exists fI (xs:=[.tup<|Y.bs.map .int,.tup<|Y.ts.map trV]) (v:=.tup<|Y.bs.map .int) rfl
 fail;have off:∀a,h a=fx->a∉Y.adr:=λa ha z=>x.taken z ha;refine Zh (λi en g=>Sm2 λv2 ls=>Cj4 (en=[fw<|.ref p,fw<|.ref Y.y,v2]) (CAt g {Y with bs:=Y.bs.take i} ⟨p,ln,dh,ls,[],λ_=>[],0⟩) (Ext h g)<|∀a∈(⟨p,ln,dh,ls,[],λ_=>[],0⟩:Ca).adr,h a=fx) ⟨_,[],rfl,⟨i3,l3,d3,(λq hq=>by cases hq),?_,?_,rfl⟩,xe,?_⟩ (λ_ _ _ _ _=>trivial) ?_ ?_
 .show([p,ln,dh]++[]).Nodup;simp[nln,ndh,nld]
 .show ∀a∈[p,ln,dh]++[],a∉Y.adr;intro a ha;simp![ï,Ç,Ö,or_false]at ha;rcases ha with rfl|rfl|rfl<;>exact off _ (by assumption)
 .show ∀a∈[p,ln,dh]++[],h a=fx;intro a ha;simp![ï,Ç,Ö,or_false]at ha;rcases ha with rfl|rfl|rfl<;>assumption
 .rintro i v en g hv ⟨v2,ls,rfl,y,xg,fr⟩ K hK;let⟨b,hb,rfl⟩:=ZL hv;have hnb:b∉ls.map (·.1):=by
   rw[y.key];have:=Z2 (f:=id) (by rw[œ];exact nb) hb;rw[œ]at this;exact this
  have hll:ls.length<=10:=by rw[<-Á (f:=(·.1)) (as:=ls),y.key];show(Y.bs.take i).length<=10;rw[ď];have:Y.bs.length<=10:=b10;lia
  refine' Yh λa ha=>?_;have xa:=Ext.new (o:=.lst []) ha;have ea:(upd g a<|.lst []) a=fw (.lst []):=fB;have y1:=y.ext xa;generalize upd g a (.lst [])=g4 at xa ea y1 ⊢;let⟨yi,yl,yd,_,_,_,_⟩:=id y1;dsimp only at yi yl yd;refine' Yb (k:=.int b) yd ⟨rfl,by rw[Jt];exact Ù hll<|by decide⟩ ?_;rw[Z5 (val:=rfV),Xr _ hnb];have ha0:=Z9 xg ha;have y2:=y1.more (b:=b) ea (λz=>by let⟨o,ho⟩:=y.taken z;exact Za ho ha rfl)<|off a ha0;refine' hK _ _ ⟨_,_,rfl,by rw[Ť,hb];exact y2,⟨λe=>by rw[fA<|Za e fdh];exact(xg.trans xa).get e⟩,λc hc=>?_⟩;unfold Ca.adr at hc fr;rw[Õ,<-Ć]at hc;rcases Ò.mp hc with hc|hc
  .exact fr c hc
  .rw[Å.mp hc];exact ha0
 .rintro en g ⟨v2,ls,rfl,y,xg,fr⟩;rw[Á,ü]at y;refine' k g _ rfl (x.ext xg) y rfl (λ_=>rfl) rfl xg fr
end
section
variable {N:Nat}
def Jm(I:Yc->Prop)(hI:∀C D d N,C.gd N->I C->step C d=fw D->I D)(x:fP h Y)(gd:Y.cc.gd N)(iy:I Y.cc)(hN:N<=5000)(kd:dr=Y.y\/∃K:Ca,K.c=dr/\CAt h Y K)(k:∀Z g,Mv h Y g Z->Z.cc.gd 0->I Z.cc->Z.bs=Y.bs->Z.ts=Y.ts->Q .non g):wF P (n+8) "_law_round" [.ref Y.y,ZG Y.bs Y.ts,.ref dr] h Q X:=by
 have xi:=x.ins;have h10:Y.bs.length<=10:=gd.no.ten;refine NG ?_;refine' Wh x gd λg1 x1=>?_
 exists fI (xs:=[.tup<|Y.bs.map .int,.tup<|Y.ts.map trV]) (v:=.tup<|Y.bs.map .int) rfl
 refine' Zh (λi en g=>Sm2 λv4 Z=>Cj7 (en=[fw<|.ref Y.y,fw<|ZG Y.bs Y.ts,fw<|.ref dr,fw<|.tup<|Y.cc.downs.map .int,v4,fx]) (Mv h Y g Z) (Z.cc.br.map (·.1)=Y.cc.br.map (·.1)) (Z.cc.gd<|N+i) (I Z.cc) (Z.bs=Y.bs)<|Z.ts=Y.ts) ⟨_,Y,rfl,(Mv.refl x).ext x1,rfl,gd,iy,rfl,rfl⟩ (λ_ _ _ _ _=>trivial) ?_ ?_
 .rintro i v en g hv ⟨v4,Z,rfl,m,hk,gz,iz,eb,et⟩ K hK;let⟨b,hb,rfl⟩:=ZL hv;have hi:=(Ó.mp hb).1
  exists Ug (ns:=Y.cc.downs)
  refine' Op (λc1=>?_) (λc1=>?_)
  .have hs:(Y.cc.br.lookup b).isSome=fy:=by
    cases z:(Y.cc.br.lookup b).isSome with
    |true=>rfl
    |false=>exact ij (downs_mem.mpr ⟨ä hb,z⟩) c1
   let⟨D,hD,hDk⟩:=KE (C:=Z.cc) (b:=b) (by rw[hk];exact keys_look.mp hs);have zi:=m.at_.ins;have fin:∀W g3,step Z.cc (.tick b)=fw W.cc->Mv g Z g3 W->K [fw<|.ref Y.y,fw<|ZG Y.bs Y.ts,fw<|.ref dr,fw<|.tup<|Y.cc.downs.map .int,fw<|.int b,fx] g3:=λW g3 s mv=>by let⟨gw,q1,q2,_⟩:=Jc gz s;have iw:=hI _ _ _ _ gz iz s;rw[hD]at s;cases s;exact hK _ _ ⟨_,W,rfl,m.trans mv,hDk.trans hk,gw,iw,q1.trans eb,q2.trans et⟩
   fail;rcases kd with rfl|⟨J,rfl,ck⟩
   .rw[m.y]at zi;refine .inr ?_;fail;rw[<-m.y]at fin ⊢;refine Nj (d:=.tick b) m.at_ gz ↥0 (by rw[hD];rfl) λW g3 s mv=>?_;refine' fin W g3 s mv
   .have cz:=ck.mv m eb;have ci:=cz.ins;refine .inl ?_;refine' J5 (d:=.tick b) m.at_ gz ↥0 (by rw[hD];rfl) cz λW g3 s mv _=>?_;refine' fin W g3 s mv
  .exact hK _ _ ⟨_,Z,rfl,m,hk,gz.more ↥0,iz,eb,et⟩
 rintro en g ⟨v4,Z,rfl,m,hk,gz,iz,eb,et⟩;rw[Á]at gz;have gl:=gz.len;have rl:Z.road.length=Z.cc.road.length:=rfl;have zi:=m.at_.ins;rw[m.y]at zi;fail;rw[<-m.y];refine Ab m.at_ λp2 g2 eN x2 e2=>?_;have nZ:p2∉Z.adr:=λz=>m.at_.taken z eN;fail;rw[m.y];refine Zh (λi en g=>Sm3 λv4 v5 W=>Cj9 (en=[fw<|.ref Y.y,fw<|ZG Y.bs Y.ts,fw<|.ref dr,fw<|.tup<|Y.cc.downs.map .int,v4,v5]) (Mv h Y g W) (p2∉W.adr) (g p2=fw (.lst<|Z.road.map rdV)) (W.cc.road.length+i=Z.road.length) ((∃M,W.cc.gd M)) (I W.cc) (W.bs=Y.bs)<|W.ts=Y.ts) ⟨_,_,Z,rfl,m.ext x2,nZ,e2,rfl,⟨_,gz⟩,iz,eb,et⟩ (λ_ _ _ _ ⟨_,_,_,_,_,_,e,_,_,_,_,_⟩=>lsE e) ?_ ?_
 .rintro i v en g hv ⟨v4,v5,W,rfl,m2,np,ep,hl,⟨M,gw⟩,iw,eb,et⟩ K hK;have hi:=(Ó.mp hv).1;rw[Á]at hi;have gw:W.cc.gd<|N+10:=⟨gw.no,gw.nd,gw.sub,gw.ok,gw.lv,gw.fn,gw.fr,by lia⟩
  have hs:=MB (C:=W.cc) (r:=0) ↥0 ↥0;have zi:=m2.at_.ins;have fin:∀V g3,step W.cc (.come 0)=fw V.cc->Mv g W g3 V->K [fw<|.ref Y.y,fw<|ZG Y.bs Y.ts,fw<|.ref dr,fw<|.tup<|Y.cc.downs.map .int,v4,fw v] g3:=λV g3 s mv=>by
   let⟨gv,q1,q2,_⟩:=Jc gw s;have iv:=hI _ _ _ _ gw iw s;have o:=mv.off np ep;have hv:V.cc.road.length+1=W.cc.road.length:=by
    replace s:(if(0:Int)<0 then fx else(W.cc.road[(0:Int).toNat]?).map _)=fw V.cc:=s
    rw[hZ<|by decide]at s;let⟨r,_,e⟩:=Ë.mp s;rw[<-e];show(W.cc.road.eraseIdx 0).length+1=_;rw[Ζ<|by lia];lia
   exact hK _ _ ⟨_,_,V,rfl,m2.trans mv,o.1,o.2,by lia,⟨_,gv⟩,iv,q1.trans eb,q2.trans et⟩
  fail;rcases kd with rfl|⟨J,rfl,ck⟩
  .rw[m2.y]at zi;refine .inr ?_;fail;rw[<-m2.y]at fin ⊢;refine Nj (d:=.come 0) m2.at_ gw ↥0 hs.2 λV g3 s mv=>?_;refine' fin V g3 s mv
  .have cz:=ck.mv m2 eb;have ci:=cz.ins;refine .inl ?_;refine' J5 (d:=.come 0) m2.at_ gw ↥0 hs.2 cz λV g3 s mv _=>?_;refine' fin V g3 s mv
 rintro en g ⟨v4,v5,W,rfl,m2,np,ep,hl,⟨M,gw⟩,iw,eb,et⟩;rw[Á]at hl;refine' k W g m2 ⟨gw.no,gw.nd,gw.sub,gw.ok,gw.lv,gw.fn,gw.fr,by lia⟩ iw eb et
end
structure Ok(C:Yc)(K:Ca)(F:List<|Int×Int)(M:Nat):Prop where
 nu1:∀m∈K.line,m.nu<K.sent
 nu2:∀b,∀q∈K.hd b,q.1<K.sent
 fm:∀m∈K.line,FmOk C m
 bl:K.line.length<=16*M
 bh:∀b,(K.hd b).length<=M
 nd:(F.map (·.1)).Nodup
 fs:∀q∈F,q.1<K.sent
 fl:F.length<=M
 fr:∀q∈F,∃H U D,Fr (XB C) K.hd K.line q.1 q.2 H U D
def Ir{f:Int}{m:Fm}:∀{l:List Fm}{i:Nat},l[i]?=fw m->m.nu=f->((l.filter λm=>ik (m.nu=f)).map Fm.go).Nodup->∀x∈l.eraseIdx i,x.nu=f->x.go≠m.go
 |[],_,h,_,_,_,_,_=>by cases h
 |a::l,0,h,e,n,x,hx,ex=>by cases h;rw[Ā,hX<|ig e,Í,ô]at n;exact λz=>n.1<|z▸ã (ù.mpr ⟨hx,ig ex⟩)
 |a::l,i+1,h,e,n,x,hx,ex=>by
  have hm:m∈l:=ä h;rw[Ā]at n;rcases Ç.mp hx with rfl|hx
  .rw[hX<|ig ex,Í,ô]at n;exact λz=>n.1<|z▸ã (ù.mpr ⟨hm,ig e⟩)
  .refine Ir (l:=l) (i:=i) h e ?_ x hx ex;split at n
   .exact(ô.mp n).2
   .exact n
section
variable {H:Hst}{C D:Yc}{K:Ca}{F:List (Int×Int)}{M N:Nat}
def Ok.less(o:Ok C K F M)(h:M<=J):Ok C K F J:=⟨o.nu1,o.nu2,o.fm,Û o.bl ↥0,λb=>Û (o.bh b) h,o.nd,o.fs,Û o.fl h,o.fr⟩
def FmOk.ts{m:Fm}(o:FmOk C m)(e:D.ts=C.ts):FmOk D m:=⟨o.r0,by rw[e];exact o.r1,by have:=o.ends;unfold Yc.tie at this ⊢;rw[e];exact this⟩
def Ok.on(o:Ok C K F M)(e:D.ts=C.ts)(l:XB D=XB C):Ok D K F M:=⟨o.nu1,o.nu2,λm hm=>(o.fm m hm).ts e,o.bl,o.bh,o.nd,o.fs,o.fl,by rw[l];exact o.fr⟩
def Ok.off(o:Ok C K F M)(e:D.ts=C.ts):Ok D K [] M:=⟨o.nu1,o.nu2,λm hm=>(o.fm m hm).ts e,o.bl,o.bh,ă,(λq hq=>by cases hq),Ę _,(λq hq=>by cases hq)⟩
variable {hd:Int->List (Int×Option Int)}{b:Int}{f:Int}{x:Int}{q:Int×Option Int}
def GF(h:q.1≠f):(Xc hd b q x).filter (λr=>ik (r.1=f))=(hd x).filter λr=>ik (r.1=f):=by
 unfold Xc;split
 .rw[Ľ,Ā,hZ ⇑h,υ,ï]
 .rfl
def EO{r:Int×Option Int}(h:r∈Xc hd b q x):r∈hd x\/r=q:=by
 unfold Xc at h;split at h
 .exact(Ò.mp h).imp id Å.mp
 .exact .inl h
def Pm{l:List Tie}{g:Int}(h:g≠f):(ln++l.map (frm C b g)).filter (λm=>ik (m.nu=f))=ln.filter λm=>ik (m.nu=f):=by rw[Ľ,(show(l.map<|frm C b g).filter (λm=>ik (m.nu=f))=[] from ϔ.mpr λm hm=>by let⟨w,_,rfl⟩:=Ñ.mp hm;exact λz=>h<|of_decide_eq_true z),ï]
def RC{p q:Int}(h:(p=x/\q=y)\/(p=y/\q=x))(t:b=p\/b=q)(lt:x<y):(b=x/\(if b=p then q else p)=y)\/(b=y/\(if b=p then q else p)=x):=by
 rcases h with⟨rfl,rfl⟩|⟨rfl,rfl⟩<;>rcases t with rfl|rfl
 .exact .inl ⟨rfl,hX rfl⟩
 .exact .inr ⟨rfl,hZ<|Int.ne_of_gt lt⟩
 .exact .inr ⟨rfl,hX rfl⟩
 .exact .inl ⟨rfl,hZ<|Int.ne_of_lt lt⟩
variable {c:Option Int}
def Ly(gd:C.gd N)(sf:Safe H C):∀m∈(gw (Zz C C.ts.length) (b,c)).map (frm C b f),FmOk C m:=λm hm=>by
 let⟨w,hw,rfl⟩:=Ñ.mp hm;have hm:=ù.mp hw;simp![bAq,Ž,decide_eq_false_iff_not,ii]at hm;have o:=sf.ways gd hm.1;have lt:=(gd.no.tie _<|X7 o.r0 o.r1).2.2.1
 replace lt:(C.tie w.1).1<(C.tie w.1).2.1:=lt
 exact⟨o.r0,o.r1,RC o.ends hm.2.2 lt⟩
def L6(gd:C.gd N):(gw (Zz C C.ts.length) (b,c)).length<=16:=Û (ľ _ _) (Û (Xq _) gd.no.sixteen)
def Gh:(Xc hd b q x).length<=(hd x).length+1:=by unfold Xc;split<;>simp
def Ok.had(o:Ok C K F M)(gd:C.gd N)(sf:Safe H C)(hf:f<K.sent)(ho:∀q∈F,q.1=f->∃A U D,Fr (XB C) K.hd K.line q.1 q.2 A U D/\(b,c)∈A/\b∉D/\∀m∈K.line,m.nu=f->m.go≠b):Ok C (K.have_ C b c f) F<|M+1:=by
 have wf:=sf.wf gd;refine⟨λm hm=>?_,λx q hq=>?_,λm hm=>?_,?_,λx=>?_,o.nd,o.fs,Nat.le_succ_of_le o.fl,λq hq=>?_⟩
 .rcases Ò.mp hm with hm|hm
  .exact o.nu1 m hm
  .obtain⟨w,_,rfl⟩:=Ñ.mp hm;exact hf
 .rcases EO hq with hq|rfl
  .exact o.nu2 x q hq
  .exact hf
 .exact(Ò.mp hm).elim (o.fm m)<|Ly gd sf m
 .show(K.line++_).length<=_;have:=o.bl;have:=L6 (b:=b) (c:=c) gd;rw[ì,Á];lia
 .exact Û Gh<|dQ (o.bh x) 1
 .by_cases e:q.1=f
  .obtain⟨A,U,D,r,h1,h2,h3⟩:=ho q hq e;refine⟨_,_,_,r.give (M2 gd) (sf.lbl gd) (EA wf.pl) h1 h2 (by rw[e];exact h3) (hd':=Xc K.hd b (f,c)) (by unfold Xc;rw[hX rfl,e]) (λx hx=>hZ hx) (fr:=frm C b f) λw=>⟨e.symm,rfl,rfl⟩⟩
  .obtain⟨A,U,D,r⟩:=o.fr q hq;exact⟨A,U,D,r.other (λx=>GF λz=>e z.symm)<|by show((K.line++_).filter _).Sublist _;rw[Pm λz=>e z.symm];exact Œ _⟩
def Ok.erase(o:Ok C K F M)(i:Nat):Ok C {K with line:=K.line.eraseIdx i} F M:=by have sub:=cV K.line i;exact⟨λm hm=>o.nu1 m<|sub.subset hm,o.nu2,λm hm=>o.fm m<|sub.subset hm,Û sub.length_le o.bl,o.bh,o.nd,o.fs,o.fl,λq hq=>by let⟨A,U,D,r⟩:=o.fr q hq;exact⟨A,U,D,r.other (λ_=>rfl)<|sub.filter _⟩⟩
def Ok.come(o:Ok C K F M)(gd:C.gd N)(sf:Safe H C){m:Fm}(hm:K.line[i]?=fw m):Ok C (({K with line:=K.line.eraseIdx i}:Ca).have_ C m.go (fw m.ti) m.nu) F<|M+1:=by have mm:=ä hm;refine(o.erase i).had gd sf (o.nu1 m mm) λq hq e=>?_;let⟨A,U,D,r⟩:=o.fr q hq;let⟨h1,h2⟩:=r.li m mm e.symm;exact⟨A,U,D,r.other (λ_=>rfl)<|(cV _ _).filter _,h1,h2,Ir hm rfl<|by rw[<-e];exact r.nd⟩
def Ok.sent(o:Ok C K F M)(gd:C.gd N)(sf:Safe H C)(b:Int):Ok C (({K with sent:=K.sent+1}:Ca).have_ C b fx K.sent) (F++[(K.sent,b)])<|M+1:=by
 have o1:Ok C {K with sent:=K.sent+1} F M:=⟨λm hm=>by have:=o.nu1 m hm;show _<K.sent+1;lia,λx q hq=>by have:=o.nu2 x q hq;show _<K.sent+1;lia,o.fm,o.bl,o.bh,o.nd,λq hq=>by have:=o.fs q hq;show _<K.sent+1;lia,o.fl,o.fr⟩
 have o2:=o1.had gd sf (b:=b) (c:=fx) (f:=K.sent) (by show K.sent<K.sent+1;lia) λq hq e=>by have:=o.fs q hq;lia
 have z:Fr (XB C) K.hd K.line K.sent b [(b,fx)] [] []:=Fr.zero (λx=>ϔ.mpr λq hq=>by have:=o.nu2 x q hq;simp;lia) λm hm=>by have:=o.nu1 m hm;lia
 refine⟨o2.nu1,o2.nu2,o2.fm,o2.bl,o2.bh,?_,λq hq=>?_,by have:=o.fl;rw[ì,cG];lia,λq hq=>?_⟩
 .rw[Õ];refine ß.mpr ⟨o.nd,by simp,λx hx y hy e=>?_⟩;let⟨q,hq,rfl⟩:=Ñ.mp hx;have:y=K.sent:=⇑hy
  have:=o.fs q hq;lia
 .rcases Ò.mp hq with hq|hq
  .exact o2.fs q hq
  .rw[Å.mp hq];show K.sent<K.sent+1;lia
 .rcases Ò.mp hq with hq|hq
  .exact o2.fr q hq
  .rw[Å.mp hq];exact⟨_,_,_,z.give (M2 gd) (sf.lbl gd) (EA (sf.wf gd).pl) (Å.mpr rfl) Ö (λm hm e=>by have:=o.nu1 m hm;lia) (hd':=Xc K.hd b (K.sent,fx)) (by unfold Xc;rw[hX rfl]) (λx hx=>hZ hx) (fr:=frm C b K.sent) λw=>⟨rfl,rfl,rfl⟩⟩
end
abbrev fkv(L:Int)(F:List<|Int×Int):List<|Val×Val:=(.str "left",.int L)::Zg Val.int F
def IJ{f:Int}:(Val.str s==Val.int f)=fz:=beq_eq_false_iff_ne.mpr nofun
def Gr{L f:Int}{F:List (Int×Int)}:gf (fkv L F) (.int f)=(F.lookup f).map Val.int:=by rw[<-ZO];unfold fkv gf;rw[č];dsimp only;rw[IJ]
def M4{L:Int}{F:List (Int×Int)}:gf (fkv L F) (.str "left")=fw (.int L):=by unfold fkv gf;rw[č];dsimp only;rw[beq_self_eq_true];rfl
def PP{L f b:Int}{F:List (Int×Int)}(hf:f∉F.map (·.1)):gh (fkv L F) (.int f) (.int b)=fkv L (F++[(f,b)]):=by
 have h0:gg (fkv L F) (.int f)=fz:=by
  have:=YF (val:=Val.int) F f;unfold fkv gg at *;rw[Ġ,this];dsimp only;rw[IJ,bO];cases e:F.lookup f with
  |none=>rfl
  |some v=>exact ij (ã<|Zd e) hf
 unfold gh;rw[h0,hZ<|by decide];unfold fkv Zg;rw[Õ];rfl
def L5{L M:Int}{F:List (Int×Int)}:gh (fkv L F) (.str "left") (.int M)=fkv M F:=by
 have h0:gg (fkv L F) (.str "left")=fy:=by unfold fkv gg;rw[Ġ];dsimp only;rw[beq_self_eq_true,Bool.true_or]
 unfold gh;rw[hX h0];unfold fkv Zg;rw[Í];dsimp only;rw[hX<|beq_self_eq_true _,ë];congr 1
def Row.ex{S:List Ad}(x:Row h w)(e:Ex S h g)(n:w∉S):Row g w:=by let⟨_,_,x,y⟩:=x;exact⟨_,_,e.get n x,y⟩
section
variable {Y:Yd}{N:Nat}{K:Ca}{H:Hst}{F:List (Int×Int)}{L:Int}{M:Nat}
def AV(hw:Row h w)(x:fP h Y)(gd:Y.cc.gd N)(sf:Safe H Y.cc)(y:CAt h Y K)(o:Ok Y.cc K F M)(hM:M<=5000)(ef:h fr=fw (.dct<|fkv L F))(wY:w∉Y.adr)(fY:fr∉Y.adr)(wK:w∉K.adr)(fK:fr∉K.adr)(wf:w≠fr)(k:∀g K' F' L',Ex (w::fr::K.adr) h g->Row g w->fP g Y->CAt g Y K'->Ok Y.cc K' F' (M+5)->K'.adr=K.adr->K'.c=K.c->g fr=fw (.dct<|fkv L' F')->Q .non g):wF P (n+10) "_law_frames_move" [.ref w,.ref Y.y,.ref K.c,.ref fr] h Q X:=by
 have k10:Y.cc.keys.length<=10:=by rw[On];exact gd.ten
 refine Wl ?_;have xi:=x.ins;refine' Ww x gd λp1 g1 bx x1 e1=>?_;refine' ⟨Ù (by unfold Hh;rw[Á];exact k10) ↥1,?_⟩;refine Po (l:=Y.cc.keys) Val.int (lsE e1) (λb _ K hK=>?_) ?_
 .walk_at "p";exact hK
 refine Ze λup g2 hup x2 e2=>?_;have u0:h up=fx:=Z9 x1 hup;have uK:up∉K.adr:=λz=>by let⟨o,ho⟩:=y.taken z;exact Za ho u0 rfl
 have uw:up≠w:=λz=>hw.ne u0 z.symm;have uf:up≠fr:=λz=>Za ef u0 z.symm;have x12:=x1.trans x2;refine' Zc (hw.ext x12) ↥1 ↥1 λr0 g3 r00 r01 x3 w3=>?_;have xx:ExtB w h g3:=(ExtB.of x12).trans x3;refine' ⟨⟨by lia,by lia⟩,?_⟩;refine Zh (λi en g=>∃v4 v6 v7 v8 v9 K' F' L',en=[fw<|.ref w,fw<|.ref Y.y,fw<|.ref K.c,fw<|.ref fr,v4,fw<|.ref up,v6,v7,v8,v9]/\Ex (w::fr::K.adr) h g/\Row g w/\fP g Y/\CAt g Y K'/\Ok Y.cc K' F' (M+i)/\K'.adr=K.adr/\K'.c=K.c/\g fr=fw (.dct<|fkv L' F')/\g up=fw (.lst<|Y.cc.keys.map .int)) ⟨_,_,_,_,_,K,F,L,rfl,Ex.ofB xx (by simp),w3,x.extb xx wY,y.keep (S:=[w]) (Ex.ofB xx<|by simp) λa ha z=>wK<|Å.mp z▸ha,o,rfl,rfl,xx.get wf.symm ef,x3.get uw e2⟩ (λ_ _ _ _ _=>trivial) ?_ ?_
 .rintro i v en g hv ⟨v4,v6,v7,v8,v9,K',F',L',rfl,eg,wg,xg,yg,og,ea,ec,fg,ug⟩ K1 hK;let⟨rfl,hi⟩:=Wp hv;have b1:=og.bl;have b2:=og.bh;have b3:=og.fl;have wK':w∉K'.adr:=by rw[ea];exact wK
  have fK':fr∉K'.adr:=by rw[ea];exact fK
  have uK':up∉K'.adr:=by rw[ea];exact uK
  have hM':M+i<=5005:=by lia
  have ci:=yg.ins;rw[ec]at ci;fail;rw[<-ec];refine CM yg λp3 g3 hp3 x3 e3=>?_;have w3':=wg.ext x3;refine' Zc w3' ↥1 ↥1 λr g4 r0 r1 x4 w4=>?_;have xx:ExtB w g g4:=(ExtB.of x3).trans x4;have xg4:=xg.extb xx wY;have yg4:=yg.keep (S:=[w]) (Ex.ofB xx<|by simp) λa ha z=>wK'<|Å.mp z▸ha;have fg4:=xx.get wf.symm fg;have ug4:=xx.get uw ug;have eg4:Ex (w::fr::K.adr) h g4:=eg.trans (Ex.ofB xx<|by simp);have els:∀(g5:Hs) R B C X',Ext g4 g5->wSs (wF P<|n+9) #[.ite (.val<|.cmp .gt (.var 7)<|.cst<|.int 0) #[.set (.one 9)<|.call "_law_take" #[.var 0,.var 7],.expr<|.meth "Carrier" "deed" (.var 2) #[.idx (.lst #[.tup #[.cst<|.str "arrive",.var 9],.tup #[.cst<|.str "drop",.var 9]])<|.bi .int #[.cmp .eq (.var 8)<|.cst<|.int 5]]] .nil] [fw<|.ref w,fw<|.ref Y.y,fw<|.ref K'.c,fw<|.ref fr,v4,fw<|.ref up,fw<|.int i,fw<|.int (K'.line.map fmV).length,fw<|.int r,v9] g5 K1 R B C X':=by
   intro g5 R B C X' x5;have ll:(K'.line.map fmV).length=K'.line.length:=Á _;fail;rw[ll];refine gM (λc=>?_) λc=>?_
   .refine' Zc (w4.ext x5) ↥0 ↥0 λat_ g6 a0 a1 x6 w6=>?_;have ci:=(yg4.keep (S:=[w]) (Ex.ofB ((ExtB.of x5).trans x6)<|by simp) λa ha z=>wK'<|Å.mp z▸ha).ins;refine' Ze λp7 g7 hp7 x7 e7=>?_;have xx:=((ExtB.of x5).trans x6).trans<|.of x7;have xg7:=xg4.extb xx wY;have yg7:=yg4.keep (S:=[w]) (Ex.ofB xx<|by simp) λa ha z=>wK'<|Å.mp z▸ha;have fg7:=xx.get wf.symm fg4;have ug7:=xx.get uw ug4;have eg7:Ex (w::fr::K.adr) h g7:=eg4.trans (Ex.ofB xx<|by simp);obtain⟨s,hs,es⟩:∃s,(s = "arrive"\/s = "drop")/\atI [Val.tup [.str "arrive",.int at_],.tup [.str "drop",.int at_]] (if ik (r=5)=fy then 1 else 0)=fw (.tup [.str s,.int at_]):=by
     split
     .exact⟨"drop",.inr rfl,rfl⟩
     .exact⟨"arrive",.inl rfl,rfl⟩
    exists ZZ e7 es
    fail;let⟨a',rfl⟩:=cu a0;have hal:a'<K'.line.length:=by lia
    have hm:=Ê hal;refine CO (at_:=a') xg7 gd sf yg7 hs hm (og.fm _<|ķ hal) ↥0 (λb=>by have:=b2 b;lia) λg8 K8 hk8 x8 y8 e8=>?_;have ad8:K8.adr=K'.adr/\K8.c=K'.c:=by rcases hk8 with rfl|⟨_,rfl⟩<;>exact⟨rfl,rfl⟩
    have o8:Ok Y.cc K8 F'<|M+(i+1):=by
     rcases hk8 with rfl|⟨_,rfl⟩
     .exact(og.erase a').less ↥0
     .exact og.come gd sf hm
    fail;rw[ec];exact hK _ _ ⟨_,_,_,_,_,K8,F',L',rfl,eg7.trans (e8.sub λa ha=>by rw[ea]at ha;simp[ha]),(w6.ext x7).ex e8 wK',x8,y8,o8,ad8.1.trans ea,ad8.2.trans ec,e8.get fK' fg7,e8.get uK' ug7⟩
   .fail;rw[ec];exact hK _ _ ⟨_,_,_,_,_,K',F',L',rfl,eg4.trans<|.of x5,w4.ext x5,xg4.ext x5,yg4.ext x5,og.less ↥0,ea,ec,x5.get fg4,x5.get ug4⟩
  refine' gM (λc1=>?_) (λc1=>els g4 _ _ _ _ Ext.refl);refine' Ze λp5 g5 hp5 x5 e5=>?_;refine c_neE (x5.get ug4) e5 ?_;have fg5:=x5.get fg4;have xi:=(xg4.ext x5).ins;refine' gN (λc2=>?_) (λc2=>els g5 _ _ _ _ x5)
  exists ZB fg5 rfl M4
  refine' gM (λc3=>?_) (λc3=>els g5 _ _ _ _ x5);have ul:(Y.cc.keys.map Val.int).length=Y.cc.keys.length:=Á _;have u1:0<Y.cc.keys.length:=by rw[<-ul];exact Ϯ.mpr λz=>by rw[z]at c2;cases c2
  have ug5:=x5.get ug4;fail;rw[ul];refine Zc (w4.ext x5) ↥0 ↥0 λat_ g6 a0 a1 x6 w6=>?_;let⟨b,hb,eb⟩:=pick (ns:=Y.cc.keys) a0 a1;have xx:=(ExtB.of x5).trans x6;have xg6:=xg4.extb xx wY;have yg6:=yg4.keep (S:=[w]) (Ex.ofB xx<|by simp) λa ha z=>wK'<|Å.mp z▸ha;have fg6:=xx.get wf.symm fg4;have ug6:=xx.get uw ug4;have eg6:Ex (w::fr::K.adr) h g6:=eg4.trans (Ex.ofB xx<|by simp);refine ZZ ug6 eb ?_
  exists ZB fg6 rfl M4
  fail;have fl:(fkv L' F').length<=5010:=by unfold fkv Zg;rw[Î,Á];lia
  refine Yb fg6 ⟨rfl,Ù fl<|by decide⟩ ?_;rw[L5];have eu:∀g o,Ex [fr] g (upd g fr o):=λg o=>Ex.upd (by simp);have xg7:=xg6.keep (eu _<|.dct<|fkv (L' - 1) F') λa ha z=>fY<|Å.mp z▸ha;have yg7:=yg6.keep (eu _<|.dct<|fkv (L' - 1) F') λa ha z=>fK'<|Å.mp z▸ha;have w7:=w6.ex (eu g6<|.dct<|fkv (L' - 1) F') λz=>wf<|Å.mp z;have ug7:=(eu g6<|.dct<|fkv (L' - 1) F').get (λz=>uf<|Å.mp z) ug6;have fg7:(upd g6 fr<|.dct<|fkv (L' - 1) F') fr=fw (.dct<|fkv (L' - 1) F'):=fB;have eg7:Ex (w::fr::K.adr) h<|upd g6 fr<|.dct<|fkv (L' - 1) F':=eg6.trans ((eu _ _).sub λa ha=>by simp[Å.mp ha]);generalize upd g6 fr (.dct<|fkv (L' - 1) F')=g7 at xg7 yg7 w7 ug7 fg7 eg7 ⊢;have ci:=yg7.ins;refine' FX xg7 gd sf yg7 (keys_mem.mp hb) ↥0 (λb=>by have:=b2 b;lia) λg8 x8 y8 e8=>?_;fail;have fg8:=e8.get fK' fg7;have fl:(fkv (L' - 1) F').length<=5010:=fl;refine Yb fg8 ⟨rfl,Ù fl<|by decide⟩ ?_;rw[PP λz=>by let⟨q,hq,e⟩:=Ñ.mp z;have:=og.fs q hq;lia];fail;rw[ec];exact hK _ _ ⟨_,_,_,_,_,_,_,_,rfl,(eg7.trans<|e8.sub λa ha=>by rw[ea]at ha;simp[ha]).trans ((eu _ _).sub λa ha=>by simp[Å.mp ha]),(w7.ex e8 wK').ex (eu _ _) λz=>wf<|Å.mp z,x8.keep (eu _ _) λa ha z=>fY<|Å.mp z▸ha,y8.keep (eu _ _) λa ha z=>fK'<|Å.mp z▸ha,og.sent gd sf b,ea,ec,fB,(eu _ _).get (λz=>uf<|Å.mp z)<|e8.get uK' ug7⟩
 .rintro en g ⟨v4,v6,v7,v8,v9,K',F',L',rfl,eg,wg,xg,yg,og,ea,ec,fg,ug⟩;refine' k g K' F' L' eg wg xg yg (og.less<|by rw[MO];lia) ea ec fg
end
abbrev kO:Option (Int×Int)->Val
 |none=>.str "left"
 |some q=>.int q.1
def Tn{x a b:Int}(e:c=if x=a then y else x)(h:x=a\/y=a)(t:b=a\/b=c):(b=x\/b=y)/\x+y - b=if b=a then c else a:=by
 have k:(x=a/\c=y)\/(y=a/\c=x):=by
  by_cases q:x=a
  .exact .inl ⟨q,by rw[hX q]at e;exact e⟩
  .exact .inr ⟨h.resolve_left q,by rw[hZ q]at e;exact e⟩
 rcases k with⟨rfl,rfl⟩|⟨rfl,rfl⟩
 .refine⟨t,?_⟩;by_cases z:b=x
  .rw[hX z,z];lia
  .rw[hZ z,t.resolve_left z];lia
 .refine⟨t.symm,?_⟩;by_cases z:b=y
  .rw[hX z,z];lia
  .rw[hZ z,t.resolve_left z];lia
def G7{w:Tie}{b:Int}(hw:w∈XB C)(t:tch b w):(0<=w.1/\w.1<C.ts.length)/\(b=(C.tie w.1).1\/b=(C.tie w.1).2.1)/\(C.tie w.1).1+(C.tie w.1).2.1 - b=ZP b w:=by have h:=lblW_iff.mp (lblG_mem.mp hw).2;have e:w.2.2=ZI C.ts w.1 w.2.1:=congrArg (λw:Tie=>w.2.2) h.2.2.2.2;have g:ZI C.ts w.1 w.2.1=if(C.tie w.1).1=w.2.1 then(C.tie w.1).2.1 else(C.tie w.1).1:=rfl;exact⟨h.2.1,Tn (e.trans g) h.2.2.1 t⟩
section
variable {Y:Yd}{N:Nat}{K:Ca}{F:List (Int×Int)}{L:Int}{M:Nat}
def GS(gd:Y.cc.gd N)(y:CAt h Y K)(o:Ok Y.cc K F M)(hM:M<=5000)(ef:h fr=fw (.dct<|fkv L F))(k:∀g,Ext h g->Q (.bl fy) g):wF P (n+4) "_law_once" [ZG Y.bs Y.ts,.ref K.c,.ref fr] h Q X:=by
 have nk:(K.ls.map (·.1)).Nodup:=by rw[y.key];exact gd.no.up.imp λh=>by lia
 refine OK ?_;fail;have fl:(fkv L F).length<=5001:=by have:=o.fl;unfold fkv Zg;rw[Î,Á];lia
 refine⟨Ù (by rw[Á];exact fl) ↥1,?_⟩;rw[show(fkv L F).map (itemOf fy)=(fx::F.map fw).map kO by unfold fkv Zg;rw[Í,ë,Í,ë];rfl];refine JW (l:=fx::F.map fw) Option.isSome kO fB (λq hq K k1 k2=>?_) ?_
 .cases q with
  |none =>dsimp only[kO];walk_at "p";exact k2 rfl
  |some q =>have k1:=k1 rfl;dsimp only[kO]at k1 ⊢;walk_at "p";refine Jp (show _=fw fz from rfl) ?_;walk_at "p";exact k1
 rw[show((fx::F.map fw).filter Option.isSome).map kO=F.map λq=>Val.int q.1 by rw[Ā,hZ ↥1,ω.mpr (λx hx=>by let⟨q,_,rfl⟩:=Ñ.mp hx;rfl),ë];rfl];refine Ze λp1 g1 bx x1 e1=>⟨x1.get fB,?_⟩
 have np:p1≠fr:=λz=>by rw[z,fB]at bx;cases bx
 have xh:Ext h<|upd g1 fr<|.dct<|fkv L F:=⟨λ{a u} e=>by
   by_cases z:a=fr
   . subst z;rw[fB,<-ef,e]
   . rw[fA z];exact x1.get<|by rw[fA z];exact e⟩
 have ep:(upd g1 fr<|.dct<|fkv L F) p1=fw (.lst<|F.map λq=>Val.int q.1):=(fA np).trans e1;generalize upd g1 fr (.dct<|fkv L F)=g2 at xh ep ⊢
 exists fH (lsE ep)
 refine Zh (λi en g=>∃v3 v4 v5 v6 v7 v8 v9,en=[fw<|ZG Y.bs Y.ts,fw<|.ref K.c,fw<|.ref fr,v3,v4,v5,v6,v7,v8,v9]/\Ext h g/\g p1=fw (.lst<|F.map λq=>Val.int q.1)) ⟨_,_,_,_,_,_,_,rfl,xh,ep⟩ (λ_ _ _ _ ⟨_,_,_,_,_,_,_,_,_,z⟩=>lsE z) ?_ ?_
 .rintro i v en g hv ⟨v3,v4,v5,v6,v7,v8,v9,rfl,xg,eg⟩ K1 hK;let⟨q,hq,rfl⟩:=ZL hv;have hqm:=ä hq;let⟨A,U,D,r⟩:=o.fr q hqm;let⟨f,a⟩:=q;dsimp only at r ⊢
  exists fI (xs:=[.tup<|Y.bs.map .int,.tup<|Y.ts.map trV]) (v:=.tup<|Y.bs.map .int) rfl
  refine' Zh (λi en g=>Sm6 λv3 v5 v6 v7 v8 v9=>Cj3 (en=[fw<|ZG Y.bs Y.ts,fw<|.ref K.c,fw<|.ref fr,v3,fw<|.int f,v5,v6,v7,v8,v9]) (Ext h g)<|g p1=fw (.lst<|F.map λq=>Val.int q.1)) ⟨_,_,_,_,_,_,rfl,xg,eg⟩ (λ_ _ _ _ _=>trivial) ?_ ?_
  .rintro j v en g hv ⟨v3,v5,v6,v7,v8,v9,rfl,xg,eg⟩ K2 hK2;let⟨b,hb,rfl⟩:=ZL hv;have hbm:=ä hb;have ro:=r.once (M2 gd) b;have yg:=y.ext xg;have ci:=yg.ins;have bh:=o.bh;refine' U5 yg nk λp2 g2 eN x2 e2=>?_;rw[hX hbm]at e2;refine' ⟨Ù (by rw[Á];exact Û (bh b) hM) ↥1,?_⟩;refine JW (l:=K.hd b) (λq=>ik (q.1=f)) (λq=>hoV q.2) (lsE e2) (λq hq K k1 k2=>?_) ?_
   .refine' gM (λc=>?_) (λc=>?_)
    .refine' k1 (ig c)
    .exact k2<|ie c
   refine Ze λp3 g3 hp3 x3 e3=>?_;have x23:=x2.trans x3;rcases ro with e|⟨c,e,h1,h2⟩
   .rw[e]at e3;walk_at "p";refine Ze λp4 g4 hp4 x4 e4=>?_;refine c_neE (x4.get e3) e4 ?_;walk_at "p";refine Ze λp5 g5 hp5 x5 e5=>?_;refine c_neE ((x4.trans x5).get e3) e5 ?_;walk_at "p";have xx:=(x23.trans x4).trans x5;exact hK2 _ _ ⟨_,_,_,_,_,_,rfl,xg.trans xx,xx.get eg⟩
   .rw[e]at e3;walk_at "p";refine Ze λp4 g4 hp4 x4 e4=>?_;refine c_neE (x4.get e3) e4 ?_;fail;refine gK rfl ?_;have e34:=x4.get e3;refine' ZB (((xg.trans x23).trans x4).get ef) rfl (by rw[Gr,Z6 o.nd hqm];rfl) ?_;fail;have e5:ik (hoV c=Val.non)=ik (b=a):=decide_eq_decide.mpr ⟨λz=>h1.mp (by cases c with|none=>rfl|some _=>cases z),λz=>by rw[h1.mpr z];rfl⟩;dsimp only;rw[e5];refine Jp (show eqV g4 (.bl<|ik (b=a)) (.bl<|ik (b=a))=fw fy by cases ik (b=a)<;>rfl) ?_;walk_at "p";refine Ze λp5 g5 hp5 x5 e5=>?_;have e35:=x5.get e34;refine c_neE e35 e5 ?_;walk_at "p";cases c with
    |none =>refine gL rfl ?_;fail;have xx:=(x23.trans x4).trans x5;exact hK2 _ _ ⟨_,_,_,_,_,_,rfl,xg.trans xx,xx.get eg⟩
    |some p =>
     let⟨w,hw,rfl,tw,d,h3⟩:=h2 p rfl;let⟨⟨t0,t1⟩,t2,t3⟩:=G7 hw tw;have tn:=gd.no.tie _<|X7 t0 t1;have hf:ZP b w∈Y.bs:=by
      rw[<-t3];rcases t2 with z|z
      .rw[z,show(Y.cc.tie w.1).1+(Y.cc.tie w.1).2.1 - (Y.cc.tie w.1).1=(Y.cc.tie w.1).2.1 by lia];exact tn.2.1
      .rw[z,show(Y.cc.tie w.1).1+(Y.cc.tie w.1).2.1 - (Y.cc.tie w.1).2.1=(Y.cc.tie w.1).1 by lia];exact tn.1
     have tv:atI (Y.ts.map trV) w.1=fw (trV<|Y.cc.tie w.1):=by
      have h1:w.1.toNat<Y.ts.length:=by have:w.1<Y.ts.length:=t1;lia
      refine YO t0 ?_;rw[Ú];show(Y.ts[w.1.toNat]?).map trV=fw (trV<|Y.ts[w.1.toNat]?.getD (0,0,0));rw[Ê h1];rfl
     generalize Y.cc.tie w.1=tt at t2 t3 tv tn;have xx:=(x23.trans x4).trans x5;refine gK rfl ?_
     exists fI (xs:=[.tup<|Y.bs.map .int,.tup<|Y.ts.map trV]) (v:=.tup<|Y.ts.map trV) rfl
     exists fI tv
     unfold trV;have y5:=yg.ext xx;have ci:=y5.ins;fail;rw[t3];refine U5 y5 nk λp6 g6 hp6 x6 e6=>?_;rw[hX hf]at e6;refine' ⟨Ù (by rw[Á];exact Û (bh _) hM) ↥1,?_⟩;refine JW (l:=K.hd<|ZP b w) (λq=>ik (q.1=f)) Nc (lsE e6) (λq hq K k1 k2=>?_) ?_
     .refine' gM (λc=>?_) (λc=>?_)
      .refine' k1 (ig c)
      .exact k2<|ie c
     rw[h3];refine Ze λp7 g7 hp7 x7 e7=>?_
     exists Ug (ns:=[tt.1,tt.2.1])
     rw[show(!ik (b∈[tt.1,tt.2.1]))=fz by rw[ig<|by simpa using t2];rfl];walk_at "p";have xz:=(xx.trans x6).trans x7;exact hK2 _ _ ⟨_,_,_,_,_,_,rfl,xg.trans xz,xz.get eg⟩
  .rintro en g ⟨v3,v5,v6,v7,v8,v9,rfl,xg,eg⟩;refine' hK _ _ ⟨_,_,_,_,_,_,_,rfl,xg,eg⟩
 .rintro en g ⟨v3,v4,v5,v6,v7,v8,v9,rfl,xg,eg⟩;refine' k g xg
end
noncomputable abbrev stV(q:Int×Pi):Val:=.tup [.int q.1,pV q.2]
abbrev sl(C:Yc):List<|Int×Pi:=C.keys.map λb=>(b,((C.at_ b).life,(C.at_ b).version))
def Ev:Hh C=(sl C).map stV:=by unfold Hh sl;rw[ë];rfl
abbrev stD(q:Int×Pi):D:=.tup [.int q.1,.tup [.int q.2.1,.int q.2.2]]
def Pf(q r:Int×Pi):D.eqv (stD q) (stD r)=ik (q=r):=by show(D.eqv (.int q.1) (.int r.1)&&((D.eqv (.int q.2.1) (.int r.2.1)&&(D.eqv (.int q.2.2) (.int r.2.2)&&fy))&&fy))=_;rw[WH,WH,WH,aR];simp![ů,bAq,ii];exact⟨λz=>Prod.ext z.1<|Prod.ext z.2.1 z.2.2,λz=>by rw[z];exact⟨rfl,rfl,rfl⟩⟩
def Hy{q:Ad}{l m:List (Int×Pi)}{c d:Val}(e1:h p=fw (.lst [.ref a,c]))(e2:h q=fw (.lst [.ref b,d]))(ea:h a=fw (.lst<|l.map stV))(eb:h b=fw (.lst<|m.map stV))(hc:flat 11 c=fy)(hd:flat 11 d=fy):∃r,eqV h (.ref p) (.ref q)=fw r/\(r=fy->l=m):=by
 have h1:∀l:List<|Int×Pi,(l.map stV).mapM (dat h 10)=fw (l.map stD):=λl=>by
  induction l with
  |nil=>rfl
  |cons x l ih=>rw[Í,ļ,ih];rfl
 have h2:∀{c:Ad}{l:List (Int×Pi)},h c=fw (.lst<|l.map stV)->dat h 11 (.ref c)=fw (.lst<|l.map stD):=λ{c l} ec=>by show(fQ<|h c).bind (λxs=>(xs.mapM<|dat h 10).map D.lst)=_;rw[ec,Yl,ö,h1];rfl
 have h3:∀l m:List<|Int×Pi,D.eqvs (l.map stD) (m.map stD)=fy->l=m:=λl=>by
  induction l with
  |nil=>intro m e;cases m with|nil=>rfl|cons=>cases e
  |cons x l ih =>
   intro m e;cases m with
   |nil=>cases e
   |cons y m =>
    replace e:(D.eqv (stD x) (stD y)&&D.eqvs (l.map stD) (m.map stD))=fy:=e
    rw[Pf,bAq]at e;rw[of_decide_eq_true e.1,ih m e.2]
 have h4:∀{o a:Ad}{c:Val}{l:List (Int×Pi)}{x:D},h o=fw (.lst [.ref a,c])->h a=fw (.lst<|l.map stV)->dat h 11 c=fw x->dat h deep (.ref o)=fw (.lst [.lst<|l.map stD,x]):=λ{o a c l x} eo ea ec=>by show(fQ<|h o).bind (λxs=>(xs.mapM<|dat h 11).map D.lst)=_;rw[eo,Yl,ö,ļ,ļ,h2 ea,ec];rfl
 let⟨x,hx⟩:=JU (h:=h) hc;let⟨y,hy⟩:=JU (h:=h) hd;refine⟨_,by unfold eqV;rw[h4 e1 ea hx,h4 e2 eb hy];rfl,λz=>?_⟩
 replace z:(D.eqvs (l.map stD) (m.map stD)&&(D.eqv x y&&fy))=fy:=z
 exact h3 _ _ (bAq ..▸z).1
def UO:flat 11 (dnV C)=fy:=by show([Val.tup<|C.downs.map .int,.tup<|C.cuts.map .int].all<|flat 10)=fy;simp![List.all_cons,List.all_nil,ů,bAq];exact⟨all_map λ_ _=>NL,all_map λ_ _=>NL⟩
def Dq{D:Yc}(s1:Safe H C)(s2:Safe G D)(hg:∀b s y,H b s=fw y->G b s=fw y)(et:D.ts=C.ts)(e:sl C=sl D):XB D=XB C:=by
 have ek:D.keys=C.keys:=by have:=congrArg (List.map (·.1)) e;unfold sl at this;rw[ë,ë]at this;exact(œ _).symm.trans<|this.symm.trans<|œ _
 refine AO s1 s2 hg et ek λb hb=>?_;unfold sl at e;rw[ek]at e;exact(congrArg ap<|ė.mp e b hb).symm
abbrev Sg(H:Hst)(C:Yc):Prop:=∃G,(∀b s y,H b s=fw y->G b s=fw y)/\Safe G C
def M3(H:Hst)(C D:Yc)(d:Dd)(N:Nat)(g:C.gd N)(s:Sg H C)(e:step C d=fw D):Sg H D:=by let⟨G,h,s⟩:=s;let⟨J,h2,s2⟩:=Mc g s e;exact⟨J,λb s y z=>h2 b s y<|h b s y z,s2⟩
section
variable {N:Nat}
def law_ok(h63:ns.length<=63)(k:∀g,Q (.bl fy) g):wF P (n+11) "law" [.scr ns] h Q X:=by
 refine RY ?_;refine' GX (k:=0) λc0=>?_;refine' UF λw g1 hw x1 w1=>?_;refine' Qp w1 λbs ts g2 no x2 w2=>?_;refine' Zc w2 ↥1 ↥1 λr g3 r0 r1 x3 w3=>?_;fail;intro py hpy;refine EH no hpy λY g4 e4 y4 cc fr4 x4=>?_;subst e4;have eb:Y.bs=bs:=congrArg Yc.bs cc;have et:Y.ts=ts:=congrArg Yc.ts cc;subst eb et;obtain⟨H0,sf0⟩:∃H,Safe H Y.cc:=by rw[cc];exact BU no
 have gd0:Y.cc.gd 0:=by rw[cc];exact Gx no
 refine⟨rfl,?_⟩;refine' Zc (w3.ext x4) ↥1 ↥1 λr2 g5 r20 r21 x5 w5=>?_;have y5:=y4.extb x5 λz=>by let⟨a,b,e,_⟩:=w3;rw[fr4 w z]at e;cases e
 refine' ⟨⟨by split<;>lia,by split<;>lia⟩,?_⟩;refine Zh (λi en g=>Sm2 λv5 Z=>Cj7 (en=[fw<|.scr ns,fw<|.ref w,fw<|ZG Y.bs Y.ts,fw<|.ref Y.y,fw<|.bl<|ik (r2=1),v5,fx,fx,fx,fx,fx]) (Z.y=Y.y) (fP g Z) (Z.cc.gd 0) ((∃H,Safe H Z.cc)) (Z.bs=Y.bs)<|Z.ts=Y.ts) ⟨_,Y,rfl,rfl,y5,gd0,⟨H0,sf0⟩,rfl,rfl⟩ (λ_ _ _ _ _=>trivial) ?_ ?_
 .rintro i v en g hv ⟨v5,Z,rfl,ey,yz,gz,⟨H1,sz⟩,eb,et⟩ K hK;let⟨rfl,hi⟩:=Wp hv;fail;rw[<-ey,<-eb,<-et];refine Jm (Sg H1) (M3 H1) yz gz ⟨H1,(λ_ _ _ h=>h),sz⟩ ↥0 (.inl rfl) λV g6 m gv sv e1 e2=>?_;let⟨J,_,sv⟩:=sv;fail;rw[ey,eb,et];exact hK _ _ ⟨_,V,rfl,m.y.trans ey,m.at_,gv,⟨J,sv⟩,e1.trans eb,e2.trans et⟩
 rintro en g ⟨v5,Z,rfl,ey,yz,gz,⟨H1,sz⟩,eb,et⟩;fail;intro pc hpc;rw[<-ey];refine EJ yz gz hpc λg6 K eK y6 c6 l6 h6 s6 x6 f6=>?_;subst eK;refine⟨rfl,?_⟩;refine' Yh λfr aV=>?_;refine' fH (show pairUp _=fw [(Val.str "left",Val.int 24)] from rfl) ?_;refine⟨fB,?_⟩;rw[fE,show putAll [] [(Val.str "left",Val.int 24)]=fkv 24 [] from rfl];have xf:=Ext.new (o:=.dct<|fkv 24 []) aV;have ef:(upd g6 fr<|.dct<|fkv 24 []) fr=fw (.dct<|fkv 24 []):=fB;have y7:=y6.ext xf;have c7:=c6.ext xf;have fZ:fr∉Z.adr:=λz=>y6.taken z aV;have fK:fr∉K.adr:=λz=>by let⟨o,ho⟩:=c6.taken z;exact Za ho aV rfl
 have ok0:Ok Z.cc K [] 0:=⟨by rw[l6];exact ŭ _,λb=>by rw[h6];exact ŭ _,by rw[l6];exact ŭ _,by rw[l6];exact Ì _,λb=>by rw[h6];exact Ì _,ă,ŭ _,Ì _,ŭ _⟩
 generalize upd g6 fr (.dct<|fkv 24 [])=g7 at xf ef y7 c7 ⊢;refine' ⟨⟨by split<;>lia,by split<;>lia⟩,?_⟩;rw[ey];refine Zh (λi en g=>Sm2 λv5 V=>Cj6 (en=[fw<|.scr ns,fw<|.ref w,fw<|ZG Y.bs Y.ts,fw<|.ref Y.y,fw<|.bl<|ik (r2=1),v5,fw<|.ref K.c,fw<|.ref fr,fx,fx,fx]) (Mv g7 Z g V) (V.cc.gd 0) ((∃H,Safe H V.cc)) (V.bs=Y.bs)<|V.ts=Y.ts) ⟨_,Z,rfl,Mv.refl y7,gz,⟨H1,sz⟩,eb,et⟩ (λ_ _ _ _ _=>trivial) ?_ ?_
 .rintro i v en g hv ⟨v5,V,rfl,m,gv,⟨H2,sv⟩,vb,vt⟩ K1 hK;let⟨rfl,hi⟩:=Wp hv;have vy:=m.y.trans ey;fail;rw[<-vy,<-vb,<-vt];refine Jm (Sg H2) (M3 H2) m.at_ gv ⟨H2,(λ_ _ _ h=>h),sv⟩ ↥0 (.inr ⟨K,rfl,c7.mv m<|vb.trans eb.symm⟩) λW g8 m2 gw sw e1 e2=>?_;let⟨J,_,sw⟩:=sw;fail;rw[vy,vb,vt];exact hK _ _ ⟨_,W,rfl,m.trans m2,gw,⟨J,sw⟩,e1.trans vb,e2.trans vt⟩
 rintro en g ⟨v5,V,rfl,m,gv,⟨H2,sv⟩,vb,vt⟩;have vy:=m.y.trans ey;have cv:=c7.mv m<|vb.trans eb.symm;let⟨fV,ef⟩:=m.off fZ ef;have yv:=m.at_;have ok1:Ok V.cc K [] 0:=ok0.off<|vt.trans et.symm;refine' Ze λps g8 hps x8 e8=>?_;have pV':ps∉V.adr:=λz=>yv.taken z hps;have pK:ps∉K.adr:=λz=>by let⟨o,ho⟩:=cv.taken z;exact Za ho hps rfl
 have pf:ps≠fr:=λz=>Za ef hps z.symm;have cl:(cut (ns.map Val.int) (fw 1)<|fw 63).length<=62:=by rw[PN ↥1 ↥1,ď];exact Nat.min_le_left _ _
 rw[Cl]at e8 cl;rw[Á]at cl;generalize cut ns (fw 1) (fw 63)=cs at e8 cl;refine' Zh (λi en g=>∃v1 v8 v9 v10 W J F L f,en=[fw<|.scr ns,v1,fw<|ZG Y.bs Y.ts,fw<|.ref Y.y,fw<|.bl<|ik (r2=1),v5,fw<|.ref K.c,fw<|.ref f,v8,v9,v10]/\W.y=Y.y/\fP g W/\W.cc.gd i/\(∃H,Safe H W.cc)/\W.bs=Y.bs/\W.ts=Y.ts/\CAt g W J/\J.c=K.c/\Ok W.cc J F (5*i)/\g f=fw (.dct<|fkv L F)/\f∉W.adr/\f∉J.adr/\g ps=fw (.lst<|cs.map .int)/\ps∉W.adr/\ps∉J.adr/\ps≠f) ⟨_,_,_,_,V,K,[],24,fr,rfl,vy,yv.ext x8,gv,⟨H2,sv⟩,vb,vt,cv.ext x8,rfl,ok1,x8.get ef,fV,fK,e8,pV',pK,pf⟩ (λ_ _ _ _ ⟨_,_,_,_,_,_,_,_,_,_,_,_,_,_,_,_,_,_,_,_,_,_,e,_⟩=>lsE e) ?_ ?_
 .rintro i v en g hv ⟨v1,v8,v9,v10,W,J,F,L,f,rfl,wy,yw,gw,⟨H3,sw⟩,wb,wt,cw,jc,ow,ef,fW,fJ,ep,pW,pJ,pf⟩ K1 hK;let⟨c,hc,rfl⟩:=ZL hv;have hi:=(Ó.mp hc).1;refine' UF λu g9 hu x9 w9=>?_;have uW:u∉W.adr:=λz=>yw.taken z hu;have uJ:u∉J.adr:=λz=>by let⟨o,ho⟩:=cw.taken z;exact Za ho hu rfl
  have uf:u≠f:=λz=>Za ef hu z.symm;have up:u≠ps:=λz=>Za ep hu z.symm;have y9:=yw.ext x9;have xi:=y9.ins;rw[wy]at xi;fail;rw[<-wy];refine Ww y9 gw λp1 g10 bx x10 e10=>?_;rw[Ev]at e10;refine' Ze λp2 g11 eN x11 e11=>?_;have y11:=(y9.ext x10).ext x11;have xi:=y11.ins;refine' Wh y11 gw λg12 x12=>?_;refine' Ze λp3 g13 hp3 x13 e13=>?_;have xx:=(((x9.trans x10).trans x11).trans x12).trans x13;have z2:g p2=fx:=Z9 (x9.trans x10) eN;have z3:g p3=fx:=Z9 (((x9.trans x10).trans x11).trans x12) hp3;refine' Zc ((((w9.ext x10).ext x11).ext x12).ext x13) ↥1 ↥1 λq g14 q0 q1 x14 w14=>?_;have xe:=(ExtB.of xx).trans x14;have y14:=yw.extb xe uW;have c14:=cw.keep (S:=[u]) (Ex.ofB xe<|by simp) λa ha z=>uJ<|Å.mp z▸ha;have ef14:=xe.get uf.symm ef;have ep14:=xe.get up.symm ep;have u2:u≠p2:=(w9.ext x10).ne eN;have u3:u≠p3:=(((w9.ext x10).ext x11).ext x12).ne hp3;have k2:=x14.get u2.symm<|x13.get<|x12.get e11;have k3:=x14.get u3.symm e13;have offW:∀a,g a=fx->a∉W.adr:=λa e z=>yw.taken z e;have offJ:∀a,g a=fx->a∉J.adr:=λa e z=>by let⟨o,ho⟩:=cw.taken z;exact Za ho e rfl
  have f2:p2≠f:=λz=>Za ef z2 z.symm;have f3:p3≠f:=λz=>Za ef z3 z.symm;have M6:5*i+5<=5000:=by lia
  have cont:∀(g':Hs) (V:Yd) (J':Ca) (F':List<|Int×Int) (L':Int) R B C X',V.y=W.y->fP g' V->V.cc.gd (i+1)->(∃G,(∀b s y,H3 b s=fw y->G b s=fw y)/\Safe G V.cc)->V.bs=W.bs->V.ts=W.ts->CAt g' V J'->J'.c=J.c->J'.adr=J.adr->Ok W.cc J' F' (5*i+5)->g' f=fw (.dct<|fkv L' F')->f∉V.adr->g' ps=fw (.lst<|cs.map .int)->ps∉V.adr->g' p2=fw (.lst<|(sl W.cc).map stV)->g' p3=fw (.lst [.ref p2,dnV W.cc])->wSs (wF P<|n+10) #[.ite (.val<|.cmp .ne (.var 9)<|.lst #[.bi .list #[.meth "Yard" "stamps" (.var 3) .nil],.meth "Yard" "down" (.var 3) .nil]) #[.set (.one 7)<|.dct #[.cst<|.str "left",.idx (.var 7)<|.cst<|.str "left"]] .nil,.ite (.not<|.val<|.call "_law_once" #[.var 2,.var 6,.var 7]) #[.ret<|.cst<|.bl fz] .nil] [fw<|.scr ns,fw<|.ref u,fw<|ZG Y.bs Y.ts,fw<|.ref Y.y,fw<|.bl<|ik (r2=1),v5,fw<|.ref K.c,fw<|.ref f,fw<|.int c,fw<|.ref p3,fw<|.int q] g' K1 R B C X':=by
   intro g' V J' F' L' R B C X' vy yv gv ⟨G,hG,sv⟩ vb vt cv jc' ja ov fv fV pv pV2 k2 k3;have hy:=vy.trans wy;have ſ:ZG Y.bs Y.ts=ZG V.bs V.ts:=by rw[vb,vt,wb,wt]
   have hkc:K.c=J'.c:=(jc'.trans jc).symm;have fin:∀(h5:Hs) f2 F2 L2 R B C X',Ext g' h5->h5 f2=fw (.dct<|fkv L2 F2)->Ok V.cc J' F2 (5*i+5)->f2∉V.adr->f2∉J'.adr->ps≠f2->wSs (wF P<|n+10) #[.ite (.not<|.val<|.call "_law_once" #[.var 2,.var 6,.var 7]) #[.ret<|.cst<|.bl fz] .nil] [fw<|.scr ns,fw<|.ref u,fw<|ZG Y.bs Y.ts,fw<|.ref Y.y,fw<|.bl<|ik (r2=1),v5,fw<|.ref K.c,fw<|.ref f2,fw<|.int c,fw<|.ref p3,fw<|.int q] h5 K1 R B C X':=by intro h5 f2 F2 L2 R B C X' x5 e5 o5 n1 n2 n3;fail;rw[ſ,hkc];refine GS gv (cv.ext x5) o5 M6 e5 λg6 x6=>?_;walk_at "p";rw[<-ſ,<-hkc];exact hK _ _ ⟨_,_,_,_,V,J',F2,L2,f2,rfl,hy,yv.ext<|x5.trans x6,gv,⟨G,sv⟩,vb.trans wb,vt.trans wt,cv.ext<|x5.trans x6,hkc.symm,o5,x6.get e5,n1,n2,(x5.trans x6).get pv,pV2,by rw[ja];exact pJ,n3⟩
   have xi:=yv.ins;rw[hy]at xi;fail;rw[<-hy];refine Ww yv gv λr1 h1 hr1 a1 b1=>?_;rw[Ev]at b1;refine' Ze λr2' h2 hr2 a2 b2=>?_;have y2:=(yv.ext a1).ext a2;have xi:=y2.ins;refine' Wh y2 gv λh3 a3=>?_;refine' Ze λr3 h4 hr3 a4 b4=>?_;have ax:=((a1.trans a2).trans a3).trans a4;let⟨r,er,hr⟩:=Hy (ax.get k3) b4 (ax.get k2) ((a3.trans a4).get b2) UO UO;refine Jp er ?_;rw[hy];cases r with
   |true =>fail;refine gL rfl ?_;exact fin h4 f F' L' _ _ _ _ ax (ax.get fv) (ov.on vt<|Dq sw sv hG vt<|hr rfl) fV (by rw[ja];exact fJ) pf
   |false =>
    walk_at "p";refine Yh λf5 hf5=>?_;have xn:=Ext.new (o:=.dct []) hf5
    exists ZB ((ax.trans xn).get fv) rfl M4
    refine' fH (show pairUp _=fw [(Val.str "left",Val.int L')] from rfl) ?_;refine⟨fB,?_⟩;rw[fE,show putAll [] [(Val.str "left",Val.int L')]=fkv L' [] from rfl];refine fH rfl ?_;exact fin _ f5 [] L' _ _ _ _ (ax.trans<|Ext.new hf5) fB (ov.off vt) (λz=>(yv.ext ax).taken z hf5) (λz=>by let⟨o,ho⟩:=(cv.ext ax).taken z;exact Za ho hf5 rfl)<|Za (ax.get pv) hf5
  rw[wy];refine' gM (λc1=>?_) (λc1=>?_)
  .fail;rw[<-wy,<-wb,<-wt];refine Jm (Sg H3) (M3 H3) y14 gw ⟨H3,(λ_ _ _ h=>h),sw⟩ ↥0 (.inr ⟨J,jc,c14⟩) λV g15 m gv sv e1 e2=>?_;rw[wy,wb,wt];exact cont g15 V J F L _ _ _ _ m.y m.at_ (gv.more<|by lia) sv e1 e2 (c14.mv m e1) rfl rfl (ow.less<|by lia) (m.off fW ef14).2 (m.off fW ef14).1 (m.off pW ep14).2 (m.off pW ep14).1 (m.off (offW _ z2) k2).2 (m.off (offW _ z3) k3).2
  .have ci:=c14.ins;rw[jc]at ci;refine' gM (λc2=>?_) (λc2=>?_)
   .fail;rw[<-wy,<-wb,<-wt];refine Dv w14 y14 gw ↥0 uW λd g15 sd x15 w15=>?_;have y15:=y14.extb x15 uW;have c15:=c14.keep (S:=[u]) (Ex.ofB x15<|by simp) λa ha z=>uJ<|Å.mp z▸ha;fail;rw[<-jc];refine J5 y15 gw ↥0 sd c15 λV g16 s m cm=>?_;let⟨gv,e1,e2,_⟩:=Jc gw s;rw[wy,wb,wt,jc];exact cont g16 V J F L _ _ _ _ m.y m.at_ gv (Mc gw sw s) e1 e2 cm rfl rfl (ow.less<|by lia) (m.off fW<|x15.get uf.symm ef14).2 (m.off fW<|x15.get uf.symm ef14).1 (m.off pW<|x15.get up.symm ep14).2 (m.off pW<|x15.get up.symm ep14).1 (m.off (offW _ z2)<|x15.get u2.symm k2).2 (m.off (offW _ z3)<|x15.get u3.symm k3).2
   .fail;rw[<-wy,<-jc];refine AV w14 y14 gw sw c14 ow ↥0 ef14 uW fW uJ fJ uf λg15 J' F' L' e w' y' c' o' ja jc' fv=>?_;rw[wy,jc];exact cont g15 W J' F' L' _ _ _ _ rfl y' (gw.more<|by lia) ⟨H3,(λ_ _ _ h=>h),sw⟩ rfl rfl c' jc' ja o' fv fW (e.get (by simp[up.symm,pf,pJ]) ep14) pW (e.get (by simp[u2.symm,f2,offJ _ z2]) k2) (e.get (by simp[u3.symm,f3,offJ _ z3]) k3)
 .rintro en g ⟨v1,v8,v9,v10,W,J,F,L,f,rfl,_⟩;refine' k g
end
end O
set_option maxRecDepth 1000000
set_option maxHeartbeats 0
namespace My
open PySem L2 Snd PySem.W
abbrev top(i:Nat):Stmt:=PySem.Challenge.pw_shutways_k57_whole_once_while_nothing_tu.main.body.getD i<|.Pass ⟨0,0,0,0⟩
abbrev inC:Stmt->Nat->Stmt
 |.ClassDef _ _ _ b _ _ _ _ _ _ _,j=>b.getD j<|.Pass ⟨0,0,0,0⟩
 |s,_=>s
abbrev x0:Ds:=⟨top 7,["thing"],["thing"],O.Vy⟩
abbrev x1:Ds:=⟨top 8,["thing","least","greatest"],["thing","least","greatest"],O.Vx⟩
abbrev x2:Ds:=⟨top 14,["bridges","ties"],["bridges","ties"],O.Ve⟩
abbrev x3:Ds:=⟨top 15,["things"],["things"],O.VL⟩
abbrev x4:Ds:=⟨top 16,["thing","bridges"],["thing","bridges"],O.Vz⟩
abbrev x5:Ds:=⟨top 17,["tie"],["tie"],O.Vd⟩
abbrev x6:Ds:=⟨top 18,["net","bridge","found","place","tie"],["net","bridge"],O.Vf⟩
abbrev x7:Ds:=⟨top 19,["tie","bridge"],["tie","bridge"],O.VQ⟩
abbrev x8:Ds:=⟨top 21,["yard","ways","place","tie","ends"],["yard"],O.Vh⟩
abbrev x9:Ds:=⟨top 22,["yard","place"],["yard","place"],O.VS⟩
abbrev x10:Ds:=⟨top 24,["yard","thing"],["yard","thing"],O.VT⟩
abbrev x11:Ds:=⟨top 25,["ways","had","bridge","came","goals","place","child","parent"],["ways","had"],O.Vl⟩
abbrev x12:Ds:=⟨top 28,["some"],["some"],O.VR⟩
abbrev x13:Ds:=⟨top 37,["one","other"],["one","other"],O.Vg⟩
abbrev x14:Ds:=⟨top 39,["bridge","offers","better"],["bridge","offers"],O.VP⟩
abbrev x15:Ds:=⟨top 45,["some","words"],["some"],O.Vi⟩
abbrev x16:Ds:=⟨top 47,["script","k"],["script","k"],O.Vj⟩
abbrev x17:Ds:=⟨top 48,["cell"],["cell"],O.Va⟩
abbrev x18:Ds:=⟨top 49,["row","many","told"],["row","many"],O.Vb⟩
abbrev x19:Ds:=⟨top 50,["row","many","step","k","bridges","ties","one","other","cost"],["row"],O.Vn⟩
abbrev x20:Ds:=⟨top 51,["row","net","downs","place","bridge"],["row","net","downs"],O.Vc⟩
abbrev x21:Ds:=⟨top 52,["row","yard","net","road","downs","ups","kind","place"],["row","yard","net"],O.Vk⟩
abbrev x22:Ds:=⟨top 53,["yard","net","doer","downs","bridge","letter"],["yard","net","doer"],O.Vu⟩
abbrev x23:Ds:=⟨top 54,["row","yard","carrier","fresh","bridge","ups","k","many","kind","at"],["row","yard","carrier","fresh"],O.Vm⟩
abbrev x24:Ds:=⟨top 55,["net","carrier","fresh","one","number","bridge","other","had","cost","beside"],["net","carrier","fresh"],O.Vo⟩
abbrev x25:Ds:=⟨top 56,["script","row","net","yard","early","k","carrier","fresh","cell","kept","kind"],["script"],O.Vw⟩
abbrev z0:Ds:=⟨inC (top 27) 0,["self","yard","number"],["self","yard"],O.T5⟩
abbrev z1:Ds:=⟨inC (top 27) 1,["self","bridge","number"],["self","bridge"],O.T6⟩
abbrev z2:Ds:=⟨inC (top 27) 2,["self","bridge","came_over","number","goal","place","stamps"],["self","bridge","came_over","number"],O.T4⟩
abbrev z3:Ds:=⟨inC (top 27) 3,["self","some","word","place","start","goal","tie","number","start_stamp","goal_stamp"],["self","some"],O.T1⟩
abbrev z4:Ds:=⟨inC (top 27) 4,["self","start","goal","tie","stamps"],["self","start","goal","tie","stamps"],O.T3⟩
abbrev z5:Ds:=⟨inC (top 27) 5,["self"],["self"],O.T7⟩
abbrev z6:Ds:=⟨inC (top 27) 6,["self","bridge"],["self","bridge"],O.T0⟩
abbrev z7:Ds:=⟨inC (top 41) 0,["self","number","life","ties","greatest","place","neighbour","cost"],["self","number","life","ties","greatest"],O.TK⟩
abbrev z8:Ds:=⟨inC (top 41) 2,["self"],["self"],O.TU⟩
abbrev z9:Ds:=⟨inC (top 41) 3,["self"],["self"],O.TL⟩
abbrev z10:Ds:=⟨inC (top 41) 4,["self","place"],["self","place"],O.TW⟩
abbrev z11:Ds:=⟨inC (top 41) 5,["self","place","neighbour","cost"],["self","place","neighbour","cost"],O.TV⟩
abbrev z12:Ds:=⟨inC (top 41) 6,["self","place"],["self","place"],O.TZ⟩
abbrev z13:Ds:=⟨inC (top 41) 7,["self","place","letter","held"],["self","place","letter"],O.TX⟩
abbrev z14:Ds:=⟨inC (top 41) 8,["self","letters"],["self"],O.TR⟩
abbrev z15:Ds:=⟨inC (top 41) 9,["self","older","place","held"],["self"],O.TD⟩
abbrev z16:Ds:=⟨inC (top 41) 10,["self","offers","place","held","neighbour","cost","best","root"],["self"],O.TH⟩
abbrev z17:Ds:=⟨inC (top 41) 11,["self","label"],["self","label"],O.TQ⟩
abbrev z18:Ds:=⟨inC (top 41) 12,["self","place","root","cost","over","rests","age","ahead"],["self","place"],O.TF⟩
abbrev z19:Ds:=⟨inC (top 41) 13,["self","place","held"],["self","place"],O.TN⟩
abbrev z20:Ds:=⟨inC (top 41) 14,["self","place","held"],["self","place"],O.TM⟩
abbrev z21:Ds:=⟨inC (top 41) 15,["self","place"],["self","place"],O.TY⟩
abbrev z22:Ds:=⟨inC (top 44) 0,["self","net","greatest","number"],["self","net","greatest"],O.VB⟩
abbrev z23:Ds:=⟨inC (top 44) 2,["self"],["self"],O.VC⟩
abbrev z24:Ds:=⟨inC (top 44) 3,["self"],["self"],O.VU⟩
abbrev z25:Ds:=⟨inC (top 44) 4,["self"],["self"],O.VD⟩
abbrev z26:Ds:=⟨inC (top 44) 5,["self","fallen"],["self"],O.VW⟩
abbrev z27:Ds:=⟨inC (top 44) 7,["self"],["self"],O.VG⟩
abbrev z28:Ds:=⟨inC (top 44) 8,["self","number"],["self","number"],O.VZ⟩
abbrev z29:Ds:=⟨inC (top 44) 9,["self","place","one","other","cost"],["self","place"],O.VM⟩
abbrev z30:Ds:=⟨inC (top 44) 10,["self","number","place"],["self","number","place"],O.VJ⟩
abbrev z31:Ds:=⟨inC (top 44) 11,["self","place"],["self","place"],O.VA⟩
abbrev z32:Ds:=⟨inC (top 44) 12,["self","some","words","number"],["self","some"],O.VX⟩
abbrev z33:Ds:=⟨inC (top 44) 13,["self","number","place","letter","goal"],["self","number"],O.VI⟩
abbrev z34:Ds:=⟨inC (top 44) 14,["self","place","start","goal","tie","letter"],["self","place"],O.VY⟩
abbrev z35:Ds:=⟨inC (top 44) 15,["self","place"],["self","place"],O.VH⟩
abbrev z36:Ds:=⟨inC (top 44) 16,["self","number"],["self","number"],O.VN⟩
abbrev z37:Ds:=⟨inC (top 44) 17,["self","place"],["self","place"],O.VO⟩
abbrev z38:Ds:=⟨inC (top 44) 18,["self","number"],["self","number"],O.T8⟩
abbrev z39:Ds:=⟨inC (top 44) 19,["self","place"],["self","place"],O.T9⟩
abbrev z40:Ds:=⟨inC (top 44) 20,["self","number","place","neighbour","cost"],["self","number"],O.VF⟩
abbrev z41:Ds:=⟨inC (top 44) 21,["self","place","one","other","cost","stands","near","far"],["self","place"],O.VE⟩
abbrev tb:Tb where
 fs:=[("is_whole",x0),("is_whole_between",x1),("make_net",x2),("are_bridges",x3),("is_tie",x4),("lesser_end_first",x5),("neighbours",x6),("far_end",x7),("open_ways",x8),("is_open_way",x9),("is_standing",x10),("sent_on",x11),("is_line_deed",x12),("newer",x13),("best_offer",x14),("read_deed",x15),("_law_cell_at",x16),("_law_row",x17),("_law_take",x18),("_law_net",x19),("_law_turned",x20),("_law_drawn",x21),("_law_round",x22),("_law_frames_move",x23),("_law_once",x24),("law",x25)]
 ms:=[⟨"Carrier","__init__","Carrier.__init__",z0⟩,⟨"Carrier","send","Carrier.send",z1⟩,⟨"Carrier","have","Carrier.have",z2⟩,⟨"Carrier","deed","Carrier.deed",z3⟩,⟨"Carrier","goes_on","Carrier.goes_on",z4⟩,⟨"Carrier","under_way","Carrier.under_way",z5⟩,⟨"Carrier","came","Carrier.came",z6⟩,⟨"Bridge","__init__","Bridge.__init__",z7⟩,⟨"Bridge","label","Bridge.label",z8⟩,⟨"Bridge","stamp","Bridge.stamp",z9⟩,⟨"Bridge","held","Bridge.held",z10⟩,⟨"Bridge","up","Bridge.up",z11⟩,⟨"Bridge","down","Bridge.down",z12⟩,⟨"Bridge","hear","Bridge.hear",z13⟩,⟨"Bridge","tick","Bridge.tick",z14⟩,⟨"Bridge","let_grow_older","Bridge.let_grow_older",z15⟩,⟨"Bridge","reckon_label","Bridge.reckon_label",z16⟩,⟨"Bridge","take_label","Bridge.take_label",z17⟩,⟨"Bridge","letter_over","Bridge.letter_over",z18⟩,⟨"Bridge","is_rested_on","Bridge.is_rested_on",z19⟩,⟨"Bridge","is_agreed_to","Bridge.is_agreed_to",z20⟩,⟨"Bridge","end","Bridge.end",z21⟩,⟨"Yard","__init__","Yard.__init__",z22⟩,⟨"Yard","net","Yard.net",z23⟩,⟨"Yard","greatest","Yard.greatest",z24⟩,⟨"Yard","road","Yard.road",z25⟩,⟨"Yard","down","Yard.down",z26⟩,⟨"Yard","stamps","Yard.stamps",z27⟩,⟨"Yard","bridge","Yard.bridge",z28⟩,⟨"Yard","ends","Yard.ends",z29⟩,⟨"Yard","end_at","Yard.end_at",z30⟩,⟨"Yard","has_tie","Yard.has_tie",z31⟩,⟨"Yard","deed","Yard.deed",z32⟩,⟨"Yard","tick_of","Yard.tick_of",z33⟩,⟨"Yard","come","Yard.come",z34⟩,⟨"Yard","take_off","Yard.take_off",z35⟩,⟨"Yard","fall_of_bridge","Yard.fall_of_bridge",z36⟩,⟨"Yard","fall_of_tie","Yard.fall_of_tie",z37⟩,⟨"Yard","back_of_bridge","Yard.back_of_bridge",z38⟩,⟨"Yard","back_of_tie","Yard.back_of_tie",z39⟩,⟨"Yard","set_ties_of","Yard.set_ties_of",z40⟩,⟨"Yard","set_tie","Yard.set_tie",z41⟩]
 cs:=[("MOST_BRIDGES",(.int 10)),("MOST_TIES",(.int 16)),("GREATEST_NUMBER",(.int 999)),("GREATEST_COST",(.int 1000)),("NUMBER",(.int 0)),("STAMP",(.int 1)),("ROOT",(.int 2)),("COST",(.int 3)),("AGE",(.int 4)),("RESTS",(.int 5)),("AGREES",(.int 6)),("DEEDS",(.tup [(.tup [(.str "tick")]),(.tup [(.str "come")]),(.tup [(.str "lost")]),(.tup [(.str "fall"),(.str "bridge")]),(.tup [(.str "fall"),(.str "tie")]),(.tup [(.str "back"),(.str "bridge")]),(.tup [(.str "back"),(.str "tie")])]))]
 cl:=["Carrier","Bridge","Yard"]
 fl:=["age_let_go","frames_sent","greatest_age","had_by_bridge","held_by_place","label_now","letters_on_road","life","line","lives","net_made_of","number","standing","ticks_had","ties_by_place","ties_fallen","version","yard"]
 xs:=[]
abbrev pg:O.Pg:=λf=>(([("is_whole",O.Vy),("is_whole_between",O.Vx),("make_net",O.Ve),("are_bridges",O.VL),("is_tie",O.Vz),("lesser_end_first",O.Vd),("neighbours",O.Vf),("far_end",O.VQ),("open_ways",O.Vh),("is_open_way",O.VS),("is_standing",O.VT),("sent_on",O.Vl),("is_line_deed",O.VR),("newer",O.Vg),("best_offer",O.VP),("read_deed",O.Vi),("_law_cell_at",O.Vj),("_law_row",O.Va),("_law_take",O.Vb),("_law_net",O.Vn),("_law_turned",O.Vc),("_law_drawn",O.Vk),("_law_round",O.Vu),("_law_frames_move",O.Vm),("_law_once",O.Vo),("law",O.Vw),("Carrier.__init__",O.T5),("Carrier.send",O.T6),("Carrier.have",O.T4),("Carrier.deed",O.T1),("Carrier.goes_on",O.T3),("Carrier.under_way",O.T7),("Carrier.came",O.T0),("Bridge.__init__",O.TK),("Bridge.label",O.TU),("Bridge.stamp",O.TL),("Bridge.held",O.TW),("Bridge.up",O.TV),("Bridge.down",O.TZ),("Bridge.hear",O.TX),("Bridge.tick",O.TR),("Bridge.let_grow_older",O.TD),("Bridge.reckon_label",O.TH),("Bridge.take_label",O.TQ),("Bridge.letter_over",O.TF),("Bridge.is_rested_on",O.TN),("Bridge.is_agreed_to",O.TM),("Bridge.end",O.TY),("Yard.__init__",O.VB),("Yard.net",O.VC),("Yard.greatest",O.VU),("Yard.road",O.VD),("Yard.down",O.VW),("Yard.stamps",O.VG),("Yard.bridge",O.VZ),("Yard.ends",O.VM),("Yard.end_at",O.VJ),("Yard.has_tie",O.VA),("Yard.deed",O.VX),("Yard.tick_of",O.VI),("Yard.come",O.VY),("Yard.take_off",O.VH),("Yard.fall_of_bridge",O.VN),("Yard.fall_of_tie",O.VO),("Yard.back_of_bridge",O.T8),("Yard.back_of_tie",O.T9),("Yard.set_ties_of",O.VF),("Yard.set_tie",O.VE)]:List<|String×O.Fn).lookup f)
instance:O.Al pg:=by constructor<;>rfl
variable {α:Type}{p:List α->Prop}
def ar1(h:∀a0,p [a0])(us:List α)(e:us.length=1):p us:=match us,e with|[a0],_=>h a0
def ar2(h:∀a0 a1,p [a0,a1])(us:List α)(e:us.length=2):p us:=match us,e with|[a0,a1],_=>h a0 a1
def ar3(h:∀a0 a1 a2,p [a0,a1,a2])(us:List α)(e:us.length=3):p us:=match us,e with|[a0,a1,a2],_=>h a0 a1 a2
def ar4(h:∀a0 a1 a2 a3,p [a0,a1,a2,a3])(us:List α)(e:us.length=4):p us:=match us,e with|[a0,a1,a2,a3],_=>h a0 a1 a2 a3
def ar5(h:∀a0 a1 a2 a3 a4,p [a0,a1,a2,a3,a4])(us:List α)(e:us.length=5):p us:=match us,e with|[a0,a1,a2,a3,a4],_=>h a0 a1 a2 a3 a4
variable {P:String->Ds->Prop}
def mc(h:P f x)(k:∀g y,(g,y)∈l->P g y):∀g y,(g,y)∈(f,x)::l->P g y:=λg y m=>by
 rcases Ç.mp m with e|m
 .cases e;exact h
 .exact k g y m
def mn:∀g y,(g,y)∈([]:List<|String×Ds)->P g y:=λ_ _ m=>nomatch m
def GD:∀f x,(f,x)∈tb.fs.drop 24->x.Ok tb:=by
 iterate 2 refine mc ⟨by kernel_rfl,by kernel_rfl⟩ ?_
 exact mn
def HJ:∀f x,(f,x)∈tb.fs.drop 12->x.Ok tb:=by
 iterate 12 refine mc ⟨by kernel_rfl,by kernel_rfl⟩ ?_
 exact GD
def tab_ok:∀f x,(f,x)∈tb.fs->x.Ok tb:=by
 iterate 12 refine mc ⟨by kernel_rfl,by kernel_rfl⟩ ?_
 exact HJ
def tab_pg:∀f x,(f,x)∈tb.fs->pg f=fw x.d:=by repeat first|exact mn|refine mc rfl ?_
def tab_bd:∀f x,(f,x)∈tb.fs->Hd.Bd (im f) (im f) x:=by repeat first|exact mn|refine mc (λ_ _ _ _ _ _=>(by first|exact ar1 λ_=>rfl|exact ar2 λ_ _=>rfl|exact ar3 λ_ _ _=>rfl|exact ar4 λ_ _ _ _=>rfl|exact ar5 λ_ _ _ _ _=>rfl)) ?_
def md{P:α->Prop}{x:α}{l:List α}(h:P x)(k:∀y,y∈l->P y):∀y,y∈x::l->P y:=λy m=>by
 rcases Ç.mp m with e|m
 .cases e;exact h
 .exact k y m
def me{P:α->Prop}:∀y,y∈([]:List α)->P y:=λ_ m=>nomatch m
def Hk:∀y,y∈tb.ms.drop 36->y.x.Ok tb:=by
 iterate 6 refine md ⟨by kernel_rfl,by kernel_rfl⟩ ?_
 exact me
def Fj:∀y,y∈tb.ms.drop 24->y.x.Ok tb:=by
 iterate 12 refine md ⟨by kernel_rfl,by kernel_rfl⟩ ?_
 exact Hk
def FO:∀y,y∈tb.ms.drop 12->y.x.Ok tb:=by
 iterate 12 refine md ⟨by kernel_rfl,by kernel_rfl⟩ ?_
 exact Fj
def tab_om:∀y,y∈tb.ms->y.x.Ok tb:=by
 iterate 12 refine md ⟨by kernel_rfl,by kernel_rfl⟩ ?_
 exact FO
def tab_pm:∀y,y∈tb.ms->pg (y.C ++ "." ++ y.m)=fw y.x.d:=by repeat first|exact me|refine md rfl ?_
def tab_bm:∀y,y∈tb.ms->Hd.Bd (im y.m) (im y.qual) y.x:=by repeat first|exact me|refine md (λ_ _ _ _ _ _=>(by first|exact ar1 λ_=>rfl|exact ar2 λ_ _=>rfl|exact ar3 λ_ _ _=>rfl|exact ar4 λ_ _ _ _=>rfl|exact ar5 λ_ _ _ _ _=>rfl)) ?_
def law_in:("law",x25)∈tb.fs:=ä (i:=25) rfl
noncomputable abbrev pr:Program:=PySem.Challenge.rw_shutways_k57_whole_once_while_nothing_tu.row.prog
noncomputable abbrev vw:Program:=PySem.W.view pr [0,2,3,4,5,7,8,10,11,12,13,14,15,16,17,18,19,21,22,24,25,27,28,30,31,32,33,34,35,36,37,39,41,43,44,45,47,48,49,50,51,52,53,54,55,56]
noncomputable abbrev xt(s:Shared):Bool:=xlAt vw [] s&&recOk (RowW.records PySem.Challenge.rw_shutways_k57_whole_once_while_nothing_tu.row.toRowW) s
def said:PySem.Challenge.rw_shutways_k57_whole_once_while_nothing_tu.wellSaid=fy:=by rw[Fast.te9446332074065402090];kernel_rfl
def l1:∀w os,(Hd.runY pr 12000 w os).map (Hd.stY pr w)=fw fy:=λw os=>by kernel_rfl
def l2:∀w os,(Hd.runY pr 12000 w os).map (λs=>Hd.seenY vw [] (Hd.modsY pr.main.body) xt fy s.abs)=fw (openGood vw []):=λw os=>by kernel_rfl
def l3:∀w os,(Hd.runY pr 12000 w os).map (λs=>(Hd.hook tb).obs s.abs)=fw ((Hd.hook tb).val w):=λw os=>by kernel_rfl
def left:LeftO pr vw [] xt (Hd.hook tb).obs (Hd.hook tb).val 12000:=Hd.left_of (by kernel_rfl) rfl (λs=>by kernel_rfl) l1 l2 l3
end My
open PySem PySem.W PyProof.Rows
theorem PySem.Challenge.cw_shutways_k57_whole_once_while_nothing_tu_holds : PySem.Challenge.rw_shutways_k57_whole_once_while_nothing_tu.Holds := by
 refine holds_law My.said λsaid=>?_;refine holds_open (q:=My.vw) (loose:=[]) (Xt:=My.xt) (XP:=XL My.vw []) (YP:=(Hd.hook My.tb).says) My.left (Hook.of _) (Hook.keeps _) (λs e=>xl_of s (dq.mp e).1) XL.keeps (by rfl) (by rfl) (by rfl) (λs e=>recFacts_of (dq.mp e).2) (by rfl) said (by decide +kernel) ⟨rfl,rfl,rfl,rfl,rfl,by decide +kernel⟩ ?hw ?hc
 case hw=>w_on;w_witness2
 case hc=>exact Hd.law_walk (k:=10) rfl rfl rfl ⟨rfl,by decide,by decide⟩ My.law_in rfl rfl My.tab_pg My.tab_pm My.tab_ok My.tab_om My.tab_bd My.tab_bm λns hl=>O.law_ok (n:=0) hl λ_=>rfl
