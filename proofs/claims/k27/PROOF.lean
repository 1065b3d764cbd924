import PyProof.Rows.All
import Wide.All
import OpenK.AllK
import Wide.FinOn
import PyProof.EqAt
import PyProof.EqKinds
import PyProof.TupleCall
import Lean
import PySem.Challenge.RW_shutways_k27_what_falls_forgets
set_option Elab.async false
set_option bootstrap.genMatcherCode false
set_option compiler.extract_closed false
set_option genSizeOf false
local macro_rules|`(command|def $x:declId $b:bracketedBinder*:$t $v:declVal)=>`(command|theorem $x:declId $b:bracketedBinder*:$t $v:declVal)
local macro_rules|`(command|abbrev $x:declId $s:optDeclSig $v:declVal)=>`(command|noncomputable def $x:declId $s:optDeclSig $v:declVal)
local macro_rules|`(tactic|simp! [$l,*])=>`(tactic|simp only[$l,*])|`(tactic|simp! [$l,*]at $h:ident)=>`(tactic|simp only[$l,*]at $h:ident)
local macro_rules|`(tactic|k_ne)=>do
 let i:=λs=>Lean.mkIdent<|.mkSimple s
 `(tactic|intro $(i "Â") $(i "s") $(i "σ") $(i "H") $(i "x") $(i "y") $(i "v") $(i "u") $(i "Q") $(i "I") $(i "rx") $(i "ry") $(i "h"))
local macro_rules|`(tactic|k_sub)=>do
 let i:=λs=>Lean.mkIdent<|.mkSimple s
 `(tactic|intro $(i "Â") $(i "s") $(i "σ") $(i "H") $(i "Q") $(i "I") $(i "h"))
local macro_rules|`(tactic|k_upd)=>do
 let i:=λs=>Lean.mkIdent<|.mkSimple s
 `(tactic|intro $(i "X") $(i "hP") $(i "hw") $(i "hK") $(i "hc") $(i "i") $(i "Â") $(i "s") $(i "σ") $(i "H") $(i "E") $(i "I") $(i "hf") $(i "st") $(i "hg"))
local macro_rules|`(tactic|k_put)=>do
 let i:=λs=>Lean.mkIdent<|.mkSimple s
 `(tactic|intro $(i "Â") $(i "s") $(i "σ") $(i "H") $(i "xs") $(i "us") $(i "Q") $(i "I") $(i "r") $(i "h"))
local macro_rules|`(tactic|k_get)=>do
 let i:=λs=>Lean.mkIdent<|.mkSimple s
 `(tactic|intro $(i "v") $(i "u") $(i "G") $(i "H") $(i "x") $(i "y") $(i "c") $(i "Q") $(i "g") $(i "rx") $(i "ry") $(i "e") $(i "q"))
set_option linter.all false
set_option maxRecDepth 100000
open PySem.Str renaming ofString->gC
open Decidable renaming decide->gB
open Option renaming some->eQ, none->eS
open Bool renaming true->eU, false->eV
open PySem.W (Frag)
open Array renaming length_toList->ì, getElem?_eq_getElem->ù, getElem?_toList->Ĉ, getElem?_eq_some_iff->ļ, getElem?_eq_none->Ŷ, getD->Ϸ, toList->bX, toList_push->dQ, toList_inj->ez
open Bool renaming false_ne_true->û, false_eq_true->ā, true_and->ś, and_eq_true_iff->Ŧ, and_true->Ů, or_false->Χ, false_and->ϧ, not_not->au, eq_iff_iff->aZ, false_xor->bx, true_or->ca, not_eq_true'->eF, eq_false_iff->eJ
open Char renaming toNat->ť
open False renaming elim->Ŋ
open ForInStep renaming yield->ľ
open Function renaming comp_apply->b5
open Int renaming toNat_natCast->â, emod_nonneg->ĭ, emod_lt_of_pos->ĳ, lt_of_lt_of_le->eM, natCast_nonneg->eN
open List renaming length_map->Á, mem_cons->Å, getElem?_eq_getElem->È, not_mem_nil->É, mem_append_right->Ê, getElem?_eq_some_iff->Ë, size_toArray->Î, length_cons->Ð, map_cons->Ñ, mem_map->Ô, mem_cons_of_mem->Ø, getElem?_map->Ù, lookup_cons->Ú, replicate->Û, mem_append_left->Ü, map_append->Ý, mem_singleton->á, mem_of_getElem?->ã, mem_cons_self->å, nodup_append->è, mem_append->ê, length_append->í, mem_filter->ï, nodup_nil->ò, nodup_cons->ó, map_map->õ, length_replicate->ú, take_length->ü, map_congr_left->ý, length_take->þ, all_eq_true->ÿ, filter_cons->Ā, mem_map_of_mem->Ć, append_nil->ć, contains_iff_mem->Ċ, getElem?_append_right->ċ, getD_eq_getElem?_getD->Č, getElem?_append_left->ď, filterMap_cons->đ, replicate_succ->Ē, find?_cons->ę, filter_sublist->ě, append_assoc->Ĝ, length_filter_le->ĝ, any_cons->Ğ, map_inj_left->ĩ, length_nil->ī, foldl_cons->ķ, getElem_mem->Ļ, getElem?_eq_none->Ŀ, flatten_cons->ň, getElem?_replicate->ő, mem_flatMap->Œ, zip_cons_cons->ŕ, drop_eq_nil_of_le->Ŗ, length_mergeSort->ŝ, length_drop->Ū, drop_eq_getElem_cons->Ŭ, take_add_one->Ÿ, flatMap_cons->Ź, any_eq_true->Ż, getElem?_set_ne->ε, lookup->ζ, mergeSort_perm->ν, length_pos_iff->ξ, flatMap_append->ο, mem_filterMap->ω, zip_nil_right->Α, filterMap_map->Β, mapM_cons->Γ, lookup_append->Δ, mem_take_iff_getElem->Ξ, zip_nil_left->Ο, reverse_cons->Ρ, length_range->Τ, filter_congr->Υ, length_eq_zero_iff->ύ, getElem?_set_self->ϐ, map_nil->ϒ, length_set->ϙ, length_singleton->ϝ, mem_range->Ϧ, length_take_le'->Ϩ, map_id->ϩ, mergeSort->Ϫ, filter_eq_self->ϴ, take_succ_cons->ϵ, pairwise_cons->Ϲ, set_cons_succ->Ϻ, set_cons_zero->aa, filter_append->ab, eraseIdxIfInBounds_toArray->ax, cons_append->aE, eq_nil_of_length_eq_zero->aL, of_mem_zip->aX, nil_append->aY, filter_map->a8, length_eraseIdx_of_lt->bA, length_filterMap_le->bP, length_erase_of_mem->bS, pairwise_mergeSort->bY, getElem?_cons_succ->b4, length_eraseIdx_le->b6, pairwise_lt_range->cf, take_of_length_le->cj, filterMap_eq_map'->ck, mem_iff_getElem?->cG, set_append_left->cW, pairwise_append->cX, foldl->dM, append_of_mem->dU, getElem?_inj->eP
open List.MergeSort.Internal renaming splitInTwo->π
open List.Sublist renaming refl->ŭ
open Nat renaming le_refl->Ï, lt_of_le_of_lt->Õ, le_trans->Ö, ne_of_lt->ä, lt_of_lt_of_le->é, lt_succ_of_lt->ĕ, lt_succ_self->Ě, lt_irrefl->ğ, zero_le->ģ, ne_of_gt->ŉ, le_succ->ŋ, zero_add->ř, le_of_lt->ς, lt_trans->χ, succ_le_succ->ώ, min_eq_left->Ϟ, min_le_right->aJ, mul_comm->cD, mul_le_mul_left->dO
open Option renaming map_eq_some_iff->Í, bind_eq_some_iff->æ, isSome_iff_exists->ë, bind_some->î, map_some->Ę, isSome_map->Ń, isSome_some->ϳ, not_isSome_iff_eq_none->az, isNone_iff_eq_none->bg, getD_none->dL, getD_some->dW
open Option.some renaming inj->ð, injEq->ı
open Prod.mk renaming injEq->Λ
open PyProof.Rows renaming IntsAre->ą, step_dedup->š, seqObj->ŧ, kindOf->Η, firstMet->ϊ, AllBare->Ϗ, subscriptTail->aB, envOfC->aI, firstMet_length_le->aM, IsTup->bb, size_push'->cH, Constant_none->df, subscriptTail_builtinR->d9
open PySem renaming wpAny_bind->À, Value->Ã, wpAny_pure->Æ, Shared->Ç, Addr->Ì, sizeLine->Þ, model->ß, starEach->à, Program->ç, compareOp->ñ, World->ă, wpAny_newObj_type->Ą, mainGlobals->č, Heap->Ď, Around->Đ, wpAny_holding->ē, wpAny_call_entry->Ĕ, wpAny_truthy_bool->ė, rawInt->Ġ, foldedSetIterable->ġ, cLine->Ģ, wpAny_loadPart'->Ĥ, assignEach->ĥ, wpAny_callSpecial?_slot->Ħ, argBest->Ĩ, backTo->Ī, attributeBase->Ĭ, wpAny_setField->Į, codeAny_builtin->Ĳ, sysModules->Ĵ, wpAny_mono->ĵ, wpAny_Call_Name_kw->Ķ, behindInMarks->ŀ, plainId_quiet->Ł, Stmt->ń, tupleKind_room_in1->Ņ, wpAny_ite_split->Ō, binaryOp->ō, FuncData->Ŏ, keywordEach->ŏ, wpAny_field->Ő, holding->Ŕ, wpAny_seqItems->ŗ, intKind->ş, bootBuiltins->Š, wpAny_setState_of->ū, call_meetsIn->ű, wpAny_askSetting->Ų, wpAny_setEntries_of->Ŵ, SetTable->ŷ, swapsWith->ź, codeAny_mono->ż, backToKw->Ž, wpAny_pyIter_list->ž, firstArgMember->ſ, Scope->η, tupleKind->ι, assign->μ, sliceBounds->υ, wpAny_typeNameOfWhole_keyiter->ψ, pyNext->Ε, wpAny_passesOwn->Ζ, wpAny_updateSeq->Κ, wpAny_pyIter_tuple->Ψ, wpAny_tryCatch->Ω, wpAny_fieldsOf->ϋ, standAt->ϑ, wpAny_of_eq->ϓ, wpAny_dictEntries->ϖ, swapsWithSole->ϗ, swappedStores->Ϙ, wpAny_typeNameOf_keyiter->Ϛ, Operator->ϟ, getMethod->Ϡ, NameKind->ϡ, DictEntry->Ϣ, wpAny_isInstance->Ϥ, getItem->ϫ, IsPart->Ϭ, wpAny_typeOf->ϭ, wpAny_rule->Ϯ, valueAt->ϯ, setsByText->ϰ, letOwnedTupleGo->ϲ, sizeLine_eq->ac, PyData->ae, wpAny_letGo->ah, unsupported->ai, PassesOwn->al, callerA->am, seqItems?->ao, scanBound->av, atKey->aC, wpAny_newList->aD, call_meets->aK, setItem->bc, seqIndex_neg->bd, slot_list_getitem->be, Keyword->bf, fits_of_scanBound->bj, wpAny_pyIter_slot->bp, lastMarks->bC, Result->bD, noFill_tuple_add->bE, noteFrame->bF, seqIndex_of->bO, size_of_entries->bZ, relabel->b9, GenState->cu, isTrue->cx, CmpOp->cy, pyIter->cz, callWith->cA, isSubtype_stop->cE, argsOk->cF, isSubtype_type->cI, methodCallForm->cK, wpAny_standAt->dg, seq_tuple_add->dh, evalPart_none->di, wpAny_getItem_list_slice->dj, wpAny_comprehension_free->dk, wpAny_handled->dm, wpAny_attempt->dq, bindC->dJ, updateSeq->dP, drawOrder->dR, release->d6, richCompare_meets_room->d7, concat_meets->d8, wpAny_getItem_list_neg->ee, newExc->ej
open PySem.Around renaming under_plainId->Ė, under->bN
open PySem.Builtin.Frozenset renaming sizeOf->cJ
open PySem.Builtin.Str renaming strSliceIndices->Ι
open PySem.Code renaming isFrame->b8
open PySem.FuncData.mk renaming injEq->bR
open PySem.Heap renaming get?_push_of_some->Ä, get?_push_size->Ò, lt_size->Ó, get?_update_other->ô, get?_update_self->ĉ, SameBut->Ň, size_push->Ť, LeftW->dN
open PySem.Heap.SameBut renaming update->ö
open PySem.NameKind renaming free->į, cell->ei
open PySem.Obj renaming data_mapFields->Ř, mapFields->Ű, mapSeq->Θ, isFreed_of_fields->ϣ, cls_mapFields->ay, data_mapDictKeys->dr, putSet->eC
open PySem.PyData renaming eqv->İ, depthAll->ł, canLayAll0->Ś, canLay0->ŵ, eqvAll->Ν
open PySem.SetTable renaming below->Ĺ, grown->ϕ, has->bz, orStandIn->cg, slot->eB
open PySem.SetTable.below renaming go->bh
open PySem.SetTable.probe renaming go->ϔ
open PySem.Value renaming notImplemented->cC
open PySem.Value.type renaming inj->ap
open PySem.W renaming boot_heap->ų, findIn->af, boot_drawn->aN, SharedT->bq, boot_toks->bG, mg_of->cL, nsIn->eK, kitOne->eL
open PySem.pickOrder renaming go->bo
open String renaming ofList->Μ, singleton->aq, length_toList->cb, toList_ofList->ce
open UInt32.toNat renaming inj->bQ
def bAq(a b:Bool):((a&&b)=eU)=(a=eU/\b=eU):=Bool.and_eq_true a b
abbrev gu:=@if_pos
abbrev gw:=@if_neg
abbrev gx:=@decide_eq_false
abbrev gy:=@decide_eq_true
abbrev gz:=@decide_eq_true_eq
@[reducible] noncomputable def gA:=@absurd
local macro_rules|`(tactic|let $p:term:=$e)=>do
 let k:=`Lean.Parser.Tactic
 let n(c:Lean.Name)(a:Array Lean.Syntax):Lean.Syntax:=.node .none (k++c) a
 let m(s:Lean.Syntax):=if s.isIdent then n `rcasesPat.one #[s]else if s.isOfKind ``Lean.Parser.Term.hole then n `rcasesPat.ignore #[s[0]]else if s.isOfKind ``Lean.Parser.Term.anonymousCtor then n `rcasesPat.tuple #[s[0],Lean.mkNullNode (s[1].getArgs.map λx=>if x.isAtom then x else n `rcasesPatLo #[n `rcasesPatMed #[Lean.mkNullNode #[x]],Lean.mkNullNode]),s[2]]else s
 `(tactic|obtain $(⟨n `rcasesPatMed #[Lean.mkNullNode #[p.raw.rewriteBottomUp m]]⟩):rcasesPatMed:=$e)
local macro_rules|`(command|instance $x:declId:$t $v:declVal)=>do
 if t.raw.getId != `Fn then Lean.Macro.throwUnsupported
 `(command|noncomputable abbrev $x:declId:$t $v:declVal)
local macro_rules|`(⇑$h)=>`(by simpa using $h)
local macro_rules|`(↥0)=>`(by lia)|`(↥1)=>`(by decide)|`(↥2)=>`(ß $(Lean.mkIdent `X.prog) $(Lean.mkIdent `X.w))
namespace L2
open PySem PySem.Spec PyProof.Rows
noncomputable abbrev Key:=Sum Int Str
abbrev Jz:Key->Ã->Bool
 |.inl k,v=>Value.isInt k v
 |.inr x,v=>Value.isStrOf x v
abbrev SU(w:ă):Key->Int
 |.inl k=>hashInt k
 |.inr x=>hashStr w x
def Zs:∀{k:Key}{v:Ã},Jz k v=eU->(∃i t,k=Sum.inl i/\v=Value.int i t)\/(∃x t,k=Sum.inr x/\v=Value.str x t)
 |.inl i,v,h=>by let⟨t,e⟩:=Value.isInt_shape (k:=i) (v:=v) h;exact .inl ⟨i,t,rfl,e⟩
 |.inr x,v,h=>by let⟨t,e⟩:=Value.isStrOf_shape (x:=x) (v:=v) h;exact .inr ⟨x,t,rfl,e⟩
def AY(i:Int)(t:Tok):Jz (.inl i) (.int i t)=eU:=by simp[Jz,Value.isInt]
def Bw(x:Str)(t:Tok):Jz (.inr x) (.str x t)=eU:=by simp[Jz,Value.isStrOf]
def LW(a b:Int):gB ((Sum.inl a:Key)=Sum.inl b)=(a==b):=by
 by_cases e:a=b
 .subst e;simp
 .have h:¬ (Sum.inl a:Key)=Sum.inl b:=λq=>e<|Sum.inl.inj q;rw[gx h];exact(beq_eq_false_iff_ne.mpr e).symm
def IS(a b:Str):gB ((Sum.inr a:Key)=Sum.inr b)=gB (a=b):=by
 by_cases e:a=b
 .subst e;simp
 .have h:¬ (Sum.inr a:Key)=Sum.inr b:=λq=>e<|Sum.inr.inj q;rw[gx h,gx e]
def L4(a:Int)(b:Str):gB ((Sum.inl a:Key)=Sum.inr b)=eV:=gx (λq=>nomatch q)
def LY(a:Str)(b:Int):gB ((Sum.inr a:Key)=Sum.inl b)=eV:=gx (λq=>nomatch q)
abbrev Zc(prog:ç)(w:ă):PySem.KeyKind prog w Key where
 is:=Jz
 hash:=SU w
 inj:=λv a b ha hb=>by
  rcases Zs ha with⟨i,t,rfl,rfl⟩|⟨x,t,rfl,rfl⟩
  .rcases Zs hb with⟨j,u,rfl,e⟩|⟨y,u,rfl,e⟩
   .injection e with e1 _;rw[e1]
   .exact nomatch e
  .rcases Zs hb with⟨j,u,rfl,e⟩|⟨y,u,rfl,e⟩
   .exact nomatch e
   .injection e with e1 _;rw[e1]
 byValue:=λk v h=>by rcases Zs h with⟨i,t,rfl,rfl⟩|⟨x,t,rfl,rfl⟩<;>rfl
 pyHash:=λhv h=>by
  rcases Zs hv with⟨i,t,rfl,rfl⟩|⟨x,t,rfl,rfl⟩
  .exact wpAny_pyHash_int h
  .exact wpAny_pyHash_str h
 eqBool:=λhu hv h=>by
  rcases Zs hu with⟨i,t,rfl,rfl⟩|⟨x,t,rfl,rfl⟩
  .rcases Zs hv with⟨j,u,rfl,rfl⟩|⟨y,u,rfl,rfl⟩
   .rw[LW]at h;exact wpAny_eqBool_int h
   .rw[L4]at h;exact SeqAt.EqAt.int_str i t y u _ _ _ _ h
  .rcases Zs hv with⟨j,u,rfl,rfl⟩|⟨y,u,rfl,rfl⟩
   .rw[LY]at h;exact SeqAt.EqAt.str_int x t j u _ _ _ _ h
   .rw[IS]at h;exact wpAny_eqBool_str h
 «strs»:=λk x t v h=>by
  rcases Zs h with⟨i,u,rfl,e⟩|⟨y,u,rfl,e⟩
  .exact nomatch e
  .injection e with e1 _;subst e1;cases v<;>rfl
def Om(prog:ç)(w:ă)(i:Int)(t:Tok):(Zc prog w).is (.inl i) (.int i t)=eU:=AY i t
def NP(prog:ç)(w:ă)(x:Str)(t:Tok):(Zc prog w).is (.inr x) (.str x t)=eU:=Bw x t
inductive V where
 |non|bl (b:Bool)|int (i:Int)|str (x:Str)|byt (b:Array UInt8)|flt (b:UInt64)|ref (a:Ì)|ty (n:String)
 deriving DecidableEq
abbrev RelV:V->Ã->Prop
 |.non,u=>u=Value.none
 |.bl b,u=>u=Value.bool b
 |.int i,u=>∃t,u=Value.int i t
 |.str x,u=>∃t,u=Value.str x t
 |.byt b,u=>∃t,u=Value.bytes b t
 |.flt b,u=>∃t,u=Value.float b t
 |.ref a,u=>u=Value.ref a
 |.ty n,u=>u=Value.type n
@[reducible] noncomputable def gf:List V->List Ã->Prop:=Paired RelV
def gf.length(r:gf xs us):xs.length=us.length:=Paired.length r
def gf.get:∀{xs:List V}{us:List Ã}{i:Nat}{x:V},gf xs us->xs[i]?=eQ x->∃u,us[i]?=eQ u/\RelV x u
 |_,_,_,_,.nil,e=>by simp at e
 |_,_,0,_,.cons r _,e=>by simp at e;subst e;exact⟨_,rfl,r⟩
 |_,_,i+1,x,.cons _ t,e=>by let⟨u,h1,h2⟩:=gf.get (i:=i) (x:=x) t ⇑e;exact⟨u,⇑h1,h2⟩
def gf.set(r:RelV x u):∀{xs:List V}{us:List Ã}(i:Nat),gf xs us->gf (xs.set i x) (us.set i u)
 |_,_,_,.nil=>.nil
 |_,_,0,.cons _ t=>.cons r t
 |_,_,i+1,.cons q t=>.cons q<|gf.set r i t
def gf.append:∀{xs ys:List V}{us ws:List Ã},gf xs us->gf ys ws->gf (xs++ys) (us++ws)
 |_,_,_,_,.nil,s=>s
 |_,_,_,_,.cons r t,s=>.cons r<|gf.append t s
def gf.take:∀{xs:List V}{us:List Ã}(n:Nat),gf xs us->gf (xs.take n) (us.take n)
 |_,_,0,_=>.nil
 |_,_,_+1,.nil=>.nil
 |_,_,n+1,.cons r t=>.cons r<|gf.take n t
def gf.drop:∀{xs:List V}{us:List Ã}(n:Nat),gf xs us->gf (xs.drop n) (us.drop n)
 |_,_,0,r=>r
 |_,_,_+1,.nil=>.nil
 |_,_,n+1,.cons _ t=>gf.drop n t
abbrev fE:Option V->Option Ã->Prop
 |some v,eQ u=>RelV v u
 |none,eS=>True
 |_,_=>False
abbrev KV{κ:Type}:List (κ×V)->List (κ×Ã)->Prop:=Paired λ(p:κ×V) (q:κ×Ã)=>p.1=q.1/\RelV p.2 q.2
abbrev kV:Key->V
 |.inl i=>.int i
 |.inr x=>.str x
inductive HO where
 |lst (xs:List V)
 |tup (xs:List V)
 |dK (kvs:List<|Key×V)|dT (kvs:List<|List Key×V)
 |set (S:Int->Bool) (n:Nat)
 |ins (C dx:Ì) (fs:List<|Str×V)
 |own (x:Ì)
 |xd (fs:List<|Str×V)
 |met (f x:Ì)
 |rng (lo hi:Int)
 |frz (o:Obj) (u:HO)
 |tbl (ps:Array Ã)
 |ext (φ:Ď->Prop)
noncomputable abbrev Hp:=Ì->Option HO
abbrev upd(H:Hp)(a:Ì)(o:HO):Hp:=λb=>if b=a then eQ o else H b
variable {H:Hp}{a:Ì}{o:HO}
def eX:upd H a o a=eQ o:=by unfold upd;rw[gu rfl]
variable {b:Ì}
def eW(h:b≠a):upd H a o b=H b:=by unfold upd;rw[gw h]
variable {u:HO}
def eY:upd (upd H a o) a u=upd H a u:=by funext b;unfold upd;split<;>rfl
def Ic(h:H a=eQ o)(h':H b=eQ u)(d:o≠u):a≠b:=by intro e;subst e;rw[h]at h';exact d (ð h')
def Zi(h:H a=eQ o)(h':H b=eS):a≠b:=by intro e;subst e;rw[h]at h';cases h'
section
variable (P:ç)(w:ă)
abbrev fg(H:Hp)(h:Ď)(a:Ì):HO->Prop
 |.lst xs=>xs.length<=Þ/\∃(ø:List Ã) (n:Nat),gf xs ø/\h.get? a=eQ {cls:=.type "list",data:=.seq ø.toArray n}
 |.tup xs=>xs.length<=Þ/\∃ø:List Ã,gf xs ø/\bb h a ø.toArray
 |.dK kvs=>kvs.length<=Þ/\(a==Ĵ)=eV/\∃vs,KV kvs vs/\h.DictOf (Zc P w) a vs
 |.dT kvs=>kvs.length<=Þ/\(a==Ĵ)=eV/\∃xs:List<|List Key×Ì×Ã,
   Paired (λ(p:List Key×V) (q:List Key×Ì×Ã)=>p.1=q.1/\H q.2.1=eQ (.tup<|p.1.map kV)/\RelV p.2 q.2.2) kvs xs/\
   ∃o es ep,h.get? a=eQ o/\o.ExactDict/\o.data=.dict es ep/\es.toList=xs.map (entryOfKey<|ι<|Zc P w)/\(xs.map (·.1)).Nodup
 |.set S n=>h.SetOf (ş P w) a S n
 |.ins C dx fs=>H dx=eQ (.own a)/\fs.length<=1000/\dx≠a/\h.get? a=eQ (PySem.W.instObj C dx)/\
   ∃mA,h.Ns1 dx mA/\(∀f,fE (fs.lookup f)<|mA f)/\PySem.Within mA (fs.map (·.1))
 |.own _=>∃o,h.get? a=eQ o
 |.xd fs=>∃mA,h.Ns1 a mA/\∀f,fE (fs.lookup f) (mA f)
 |.rng lo hi=>∃t u v,h.get? a=eQ {cls:=.type "range",data:=.fields #[.int lo t,.int hi u,.int 1 v]}
 |.frz o u=>h.get? a=eQ o/\fg H h a u
 |.tbl ps=>h.get? a=eQ {cls:=.none,data:=.fields ps}
 |.met f x=>h.get? a=eQ (PySem.W.methodObj (.ref f)<|.ref x)
 |.ext φ=>φ h/\(∃o,h.get? a=eQ o)/\∀h1 h2:Ď,φ h1->(∀o,h1.get? a=eQ o->h2.get? a=eQ o)->φ h2
abbrev HOk(H:Hp)(h:Ď):Prop:=∀a o,H a=eQ o->fg P w H h a o
end
section
variable {w:ă}{a:Ì}{o:HO}
def fg.lt(x:fg P w H h a o):a<h.objs.size:=by
 cases o with
 |lst xs=>let⟨_,_,_,_,e⟩:=x;exact Ó e
 |tup xs=>let⟨_,_,_,p⟩:=x;exact p.lt
 |dK kvs=>let⟨_,_,_,_,o,_,_,e,_⟩:=x;exact Ó e
 |dT kvs=>let⟨_,_,_,_,o,_,_,e,_⟩:=x;exact Ó e
 |set S n=>let⟨o,_,_,_,e,_⟩:=x;exact Ó e
 |ins C dx fs=>let⟨_,_,_,e,_⟩:=x;exact Ó e
 |own y=>let⟨_,e⟩:=x;exact Ó e
 |xd fs=>let⟨_,⟨_,_,_,e,_⟩,_⟩:=x;exact Ó e
 |rng lo hi=>let⟨_,_,_,e⟩:=x;exact Ó e
 |frz ob u=>let⟨e,_⟩:=x;exact Ó e
 |tbl ps=>exact Ó (show h.get? a=eQ _ from x)
 |met f y=>exact Ó (show h.get? a=eQ _ from x)
 |ext φ=>let⟨_,⟨_,e⟩,_⟩:=x;exact Ó e
def Paired.mapP:∀{l₁:List α}{l₂:List β},Paired F l₁ l₂->(∀a b,F a b->G a b)->Paired G l₁ l₂
 |_,_,.nil,_=>.nil
 |_,_,.cons r t,f=>.cons (f _ _ r)<|Paired.mapP t f
def fg.stay(x:fg P w H h a o)(k:∀b u,(b=a\/H b=eQ (.own a))->h.get? b=eQ u->h'.get? b=eQ u)(ho:∀b,H b=eQ (.own a)->H' b=eQ (.own a))(ht:∀b xs,H b=eQ (.tup xs)->H' b=eQ (.tup xs)):fg P w H' h' a o:=by
 induction o with
 |lst xs=>let⟨z,ø,n,r,e⟩:=x;exact⟨z,ø,n,r,k _ _ (.inl rfl) e⟩
 |tup xs=>let⟨z,ø,r,ob,e,c⟩:=x;exact⟨z,ø,r,ob,k _ _ (.inl rfl) e,c⟩
 |dK kvs=>let⟨z,y,vs,r,ob,es,ep,e,c⟩:=x;exact⟨z,y,vs,r,ob,es,ep,k _ _ (.inl rfl) e,c⟩
 |dT kvs =>let⟨z,y,xs,r,ob,es,ep,e,c⟩:=x;exact⟨z,y,xs,Paired.mapP r λp q z=>⟨z.1,ht _ _ z.2.1,z.2.2⟩,ob,es,ep,k _ _ (.inl rfl) e,c⟩
 |set S n=>let⟨ob,es,ep,t,e,c⟩:=x;exact⟨ob,es,ep,t,k _ _ (.inl rfl) e,c⟩
 |ins C dx fs =>let⟨d,z,ne,e,mA,⟨od,es,ep,e2,c⟩,r⟩:=x;exact⟨ho _ d,z,ne,k _ _ (.inl rfl) e,mA,⟨od,es,ep,k _ _ (.inr d) e2,c⟩,r⟩
 |own y=>let⟨ob,e⟩:=x;exact⟨ob,k _ _ (.inl rfl) e⟩
 |xd fs=>let⟨mA,⟨od,es,ep,e,c⟩,r⟩:=x;exact⟨mA,⟨od,es,ep,k _ _ (.inl rfl) e,c⟩,r⟩
 |rng lo hi=>let⟨t,u,v,e⟩:=x;exact⟨t,u,v,k _ _ (.inl rfl) e⟩
 |frz ob u ih=>let⟨e,q⟩:=x;exact⟨k _ _ (.inl rfl) e,ih q⟩
 |tbl ps =>have e:h.get? a=eQ {cls:=.none,data:=.fields ps}:=x;show h'.get? a=eQ {cls:=.none,data:=.fields ps};exact k a _ (.inl rfl) e
 |met f y =>have e:h.get? a=eQ (PySem.W.methodObj (.ref f)<|.ref y):=x;show h'.get? a=eQ (PySem.W.methodObj (.ref f)<|.ref y);exact k a _ (.inl rfl) e
 |ext φ=>let⟨p,⟨o,e⟩,st⟩:=x;exact⟨st _ _ p λo q=>k _ _ (.inl rfl) q,⟨o,k _ _ (.inl rfl) e⟩,st⟩
def HOk.lt(x:HOk P w H h)(e:H a=eQ o):a<h.objs.size:=(x a o e).lt
def HOk.fresh(x:HOk P w H h)(e:h.objs.size<=a):H a=eS:=by
 cases q:H a with
 |none=>rfl
 |some u=>exact gA (é (x.lt q) e)<|ğ _
def HOk.kept(x:HOk P w H h)(k:∀b u,h.get? b=eQ u->h'.get? b=eQ u):HOk P w H h':=λa o e =>
 (x a o e).stay (λb u _ q=>k b u q) (λ_ q=>q) λ_ _ q=>q
def HOk.laid(x:HOk P w H h)(k:∀b u,h.get? b=eQ u->h'.get? b=eQ u)(hp:h.objs.size<=a)(new:fg P w (upd H a o) h' a o):HOk P w (upd H a o) h':=λb u e=>by
 have hn:=x.fresh hp;by_cases hb:b=a
 .subst hb;rw[eX]at e;cases e;exact new
 .rw[eW hb]at e;exact(x b u e).stay (λc v _ q=>k c v q) (λc q=>by rw[eW<|Zi q hn];exact q) λc xs q=>by rw[eW<|Zi q hn];exact q
end
abbrev Rd(H:Hp)(a:Ì)(u:HO):Prop:=H a=eQ u\/∃o,H a=eQ (.frz o u)
variable {h:Ď}
def Rd.ok(r:Rd H a u)(x:HOk P w H h):fg P w H h a u:=by
 rcases r with r|⟨o,r⟩
 .exact x a u r
 .obtain⟨_,q⟩:=x a _ r;exact q
abbrev Mut:Option HO->Prop
 |some (.lst _)=>True
 |some (.dK _)=>True
 |some (.dT _)=>True
 |some (.set _ _)=>True
 |some (.ins _ _ _)=>True
 |some (.ext _)=>True
 |_=>False
section
variable {w:ă}{H:Hp}{h h':Ď}{x e:Ì}{o':HO}
def HOk.write(ok:HOk P w H h)(mu:Mut<|H x)(he:e=x\/H e=eQ (.own x))(k:∀b u,b≠e->h.get? b=eQ u->h'.get? b=eQ u)(heo:∃u,h'.get? e=eQ u)(new:fg P w (upd H x o') h' x o'):HOk P w (upd H x o') h':=λb u q=>by
 have nown:∀c y,H c=eQ (.own y)->c≠x:=λc y r z=>by subst z;rw[r]at mu;exact mu
 have ntup:∀c xs,H c=eQ (.tup xs)->c≠x:=λc xs r z=>by subst z;rw[r]at mu;exact mu
 by_cases hb:b=x
 .subst hb;rw[eX]at q;cases q;exact new
 .rw[eW hb]at q;by_cases hbe:b=e
  .have q':H b=eQ (.own x):=by
    rcases he with z|z
    .exact gA (hbe.trans z) hb
    .rw[hbe];exact z
   rw[q]at q';cases q';let⟨v,hv⟩:=heo;exact⟨v,by rw[hbe];exact hv⟩
  .refine(ok b u q).stay (λc v hc r=>k c v ?_ r) (λc r=>by rw[eW<|nown c b r];exact r) λc xs r=>by rw[eW<|ntup c xs r];exact r
   rcases hc with rfl|hc
   .exact hbe
   .rintro rfl;rcases he with z|z
    .exact nown c b hc z
    .rw[hc]at z;cases z;exact hb rfl
end
structure Un(fs ex:List Ì)(H H':Hp)(h h':Ď):Prop where
 keep:∀b o,h.get? b=eQ o->H b=eS->b∉fs->b∉ex->h'.get? b=eQ o
 slot:∀b o,h.get? b=eQ o->H b=eS->b∈fs->b∉ex->∃sl,h'.get? b=eQ {o with slots:=sl}
 free:∀b o,h.get? b=eQ o->H b=eS->b∉ex->H' b=eS
 there:∀b o,h.get? b=eQ o->b∉ex->∃o',h'.get? b=eQ o'
 tups:∀b xs,H b=eQ (.tup xs)->H' b=eQ (.tup xs)
 frzs:∀b o u,H b=eQ (.frz o u)->H' b=eQ (.frz o u)
 tbls:∀b ps,H b=eQ (.tbl ps)->∃more,H' b=eQ (.tbl<|ps++more)
section
variable {fs ex:List Ì}{H H2:Hp}{h h1 h2 h':Ď}{a x e:Ì}{o:HO}
def Un.any(u:Un fs ex H H1 h h1)(q:h.get? b=eQ ob)(n:H b=eS)(hx:b∉ex):∃sl,h1.get? b=eQ {ob with slots:=sl}:=by
 by_cases hb:b∈fs
 .exact u.slot b ob q n hb hx
 .exact⟨ob.slots,u.keep b ob q n hb hx⟩
def Un.kept(k:∀b u,h.get? b=eQ u->h'.get? b=eQ u):Un fs ex H H h h' :=
 ⟨λb ob q _ _ _=>k b ob q,λb ob q _ _ _=>⟨ob.slots,k b ob q⟩,λ_ _ _ n _=>n,λb ob q _=>⟨ob,k b ob q⟩,λ_ _ q=>q,λ_ _ _ q=>q,λ_ ps q=>⟨#[],by rw[q];simp⟩⟩
def Un.refl:Un fs ex H H h h:=Un.kept λ_ _ q=>q
def Un.laid(k:∀b u,h.get? b=eQ u->h'.get? b=eQ u)(hp:h.objs.size<=a)(hn:H a=eS):Un fs ex H (upd H a o) h h' where
 keep:=λb u q _ _ _=>k b u q
 slot:=λb u q _ _ _=>⟨u.slots,k b u q⟩
 free:=λb u q n _=>by rw[eW<|ä<|é (Ó q) hp];exact n
 there:=λb u q _=>⟨u,k b u q⟩
 tups:=λb xs q=>by rw[eW<|Zi q hn];exact q
 frzs:=λb u xs q=>by rw[eW<|Zi q hn];exact q
 tbls:=λb ps q=>⟨#[],by rw[eW<|Zi q hn,q];simp⟩
def Un.write(mu:Mut<|H x)(he:e=x\/H e=eQ (.own x))(k:∀b u,b≠e->h.get? b=eQ u->h'.get? b=eQ u)(heo:∃u,h'.get? e=eQ u):Un fs ex H (upd H x o) h h':=by
 have hx:∀b,H b=eS->b≠x:=λb n z=>by subst z;rw[n]at mu;exact mu
 have hb:∀b,H b=eS->b≠e:=λb n z=>by
  subst z;rcases he with r|r
  .exact hx b n r
  .rw[n]at r;cases r
 have hm:∀b u,H b=eQ u->¬ Mut (eQ u)->b≠x:=λb u q nm z=>by subst z;rw[q]at mu;exact nm mu
 refine⟨λb u q n _ _=>k b u (hb b n) q,λb u q n _ _=>⟨u.slots,k b u (hb b n) q⟩,λb u q n _=>by rw[eW<|hx b n];exact n,λb u q _=>?_,
   λb xs q=>by rw[eW<|hm b _ q λz=>z];exact q,λb u xs q=>by rw[eW<|hm b _ q λz=>z];exact q,λb ps q=>⟨#[],by rw[eW<|hm b _ q λz=>z,q];simp⟩⟩
 by_cases hbe:b=e
 .subst hbe;exact heo
 .exact⟨u,k b u hbe q⟩
end
abbrev trk(h:Ď)(H:Hp):List Ì:=(List.range h.objs.size).filter λa=>(H a).isSome
abbrev Nl(h:Ď)(H:Hp):Ď:=PySem.W.hideAll h<|trk h H
def AJ(h:Ď)(H:Hp):(Nl h H).objs.size=h.objs.size:=PySem.W.hideAll_size _ _
def DX{o:Obj}(e:h.get? b=eQ o)(n:H b=eS):(Nl h H).get? b=eQ o :=
 PySem.W.hideAll_get _ e λhm=>by have q:(H b).isSome=eU:=(ï.mp hm).2;rw[n]at q;simp at q
def Fx{o:Obj}(e:(Nl h H).get? b=eQ o):h.get? b=eQ o/\H b=eS:=by
 have e':h.get? b=eQ o:=PySem.W.of_hideAll (trk h H) e;refine⟨e',?_⟩;cases q:H b with
 |none=>rfl
 |some x =>have hm:b∈trk h H:=ï.mpr ⟨Ϧ.mpr<|Ó e',by simp[q]⟩;have z:(Nl h H).get? b=eS:=PySem.W.hideAll_none (trk h H) hm;rw[z]at e;cases e
abbrev Fv(g h:Ď)(L:Ì):List<|Ì×Obj:=(List.range h.objs.size).filterMap λa=>if a=L\/(g.get? a).isSome=eU then eS else(h.get? a).map λo=>(a,o)
abbrev rest(g h:Ď)(L d:Ì):List<|Ì×Obj:=(Fv g h L).filter λp=>gB (p.1≠d)
structure Mod(K:Frag)(mg:Str->Option Ã)(base:Ď):Prop where
 kin:K.In base
 glob:base.Ns č mg
 blt:∃mb,base.Ns builtinsNs mb/\∀x:Str,x≠"__name__"->mb x=Š x
 nolimit:base.NoLimit
structure Cx where
 prog:ç
 w:ă
 K:Frag
 mg:Str->Option Ã
 base:Ď
 A:Đ
 N:List Str
 s₀:Ç
 H₀:Hp
 env:Env
 outer:List Env
 stack:List Env
 ex:List Ì
 fn:Str->Bool
 calm:Bool
 pn:List<|Ì×Obj
 xe:Ã->Ç->Prop
abbrev frs(l:List Env):List Ì:=l.filterMap (·.frame)
noncomputable abbrev Cx.fs(X:Cx):List Ì:=frs X.outer
abbrev Vis(sc:η)(x:Str):Prop:=sc.names.lookup x=eQ .local\/sc.names.lookup x=eQ .cell\/sc.names.lookup x=eQ .free
abbrev Loc(sc:η)(x:Str):Prop:=sc.names.lookup x=eQ .local\/sc.names.lookup x=eQ .cell
abbrev SH(env:Env)(h:Ď)(m:Str->Option Ã)(x:Str)(u:Ã):Prop :=
 (env.kindOf x=eQ .local/\m x=eQ u)\/((env.kindOf x=eQ .cell\/env.kindOf x=eQ .free)/\∃c,env.cells.lookup x=eQ c/\h.IsCell c (eQ u))
structure Cx.Ok(X:Cx):Prop where
 mod:Mod X.K X.mg X.base
 kind:X.env.scope.kind=.function
 glob:X.env.globals=č
 blt:X.env.builtins=builtinsNs
 above:X.s₀.heap.objs.size<=X.env.locals
 inj:∀x y c,X.env.cells.lookup x=eQ c->X.env.cells.lookup y=eQ c->x=y
 has:∀x,(X.env.kindOf x=eQ .cell\/X.env.kindOf x=eQ .free)->∃c,X.env.cells.lookup x=eQ c
 cab:∀x c,X.fn x=eU->X.env.cells.lookup x=eQ c->X.s₀.heap.objs.size<=c
 hd:X.calm=eU->X.A.handled=eS
 frames:X.A.frames=eQ X.stack
 stk:X.stack=X.outer\/(X.stack=X.env::X.outer/\X.env.frame=eQ X.env.locals)
 exf:∀b∈X.ex,b≠X.env.locals/\∀x c,X.env.cells.lookup x=eQ c->c≠b
 bs:∀b o,X.base.get? b=eQ o->X.s₀.heap.get? b=eQ o/\X.H₀ b=eS
 bsz:X.base.objs.size<=X.s₀.heap.objs.size
 noex:∀b o,X.base.get? b=eQ o->b∉X.ex
 exfs:∀b∈X.ex,b∉X.fs
 funs:X.s₀.heap.FunFrames X.base X.outer
 frf:∀b∈X.fs,X.H₀ b=eS
structure Inv(X:Cx)(Â:List<|Ì×Obj)(σ:List<|Option V)(H:Hp)(s:Ç):Prop where
 ok:X.Ok
 os:s.os=X.s₀.os
 bare:Ϗ s.gens
 base:Un X.fs X.ex X.H₀ H X.s₀.heap s.heap
 loc:∃m,s.heap.Ns X.env.locals m/\∀(i:Nat) (x:Str) (v:V),X.N[i]?=eQ x->σ[i]?=eQ (eQ v)->Vis X.env.scope x->∃u,RelV v u/\SH X.env s.heap m x u
 cell:∀x c,X.env.cells.lookup x=eQ c->∃v,s.heap.IsCell c v
 free:H X.env.locals=eS
 freeC:∀x c,X.env.cells.lookup x=eQ c->H c=eS
 pin:∀p∈X.pn++Â,s.heap.get? p.1=eQ p.2/\H p.1=eS/\p.1≠X.env.locals/\p.1∉X.fs/\∀v,p.2.data≠.cell v
 hok:HOk X.prog X.w H s.heap
 len:σ.length=X.N.length
section
variable {X:Cx}{Â:List (Ì×Obj)}{σ:List (Option V)}{H H':Hp}{s:Ç}{h':Ď}
def Cx.Ok.nofr(ok:X.Ok){b:Ì}{o:Obj}(e:X.base.get? b=eQ o):b∉X.fs:=λhb=>by have:=(ok.funs.mem hb).1;rw[e]at this;cases this
def Inv.bs(I:Inv X Â σ H s):∀b o,X.base.get? b=eQ o->s.heap.get? b=eQ o/\H b=eS:=λb o e =>
 ⟨I.base.keep b o (I.ok.bs b o e).1 (I.ok.bs b o e).2 (I.ok.nofr e)<|I.ok.noex b o e,I.base.free b o (I.ok.bs b o e).1 (I.ok.bs b o e).2<|I.ok.noex b o e⟩
def Inv.bk(I:Inv X Â σ H s):∀b o,X.base.get? b=eQ o->s.heap.get? b=eQ o:=λb o e=>(I.bs b o e).1
def Inv.mod(I:Inv X Â σ H s):Mod X.K X.mg X.base:=I.ok.mod
def Inv.kIn(I:Inv X Â σ H s):X.K.In s.heap:=I.ok.mod.kin.keeps I.bk
def Inv.lt(I:Inv X Â σ H s):X.env.locals<s.heap.objs.size:=let ⟨_,hn,_⟩:=I.loc;hn.lt
def Inv.sz(I:Inv X Â σ H s):X.s₀.heap.objs.size<=s.heap.objs.size:=Ö I.ok.above (ς I.lt)
variable {a:Ì}
def Inv.nofs(I:Inv X Â σ H s)(h:s.heap.objs.size<=a):a∉X.fs:=λhb=>by let⟨_,o,ho,_⟩:=I.ok.funs.mem hb;exact gA (é (Ó ho)<|Ö I.sz h) (ğ _)
def Inv.cne(I:Inv X Â σ H s):∀x c,X.env.cells.lookup x=eQ c->c≠X.env.locals:=λx c e z=>by let⟨v,o,ho,hd⟩:=I.cell x c e;let⟨m,⟨o',es,ep,aF,hd',_⟩,_⟩:=I.loc;rw[z,aF]at ho;cases ho;rw[hd']at hd;cases hd
def Inv.funs(I:Inv X Â σ H s):s.heap.FunFrames X.base X.outer:=by
 have all:∀(l:List Env),(∀b∈frs l,b∈X.fs)->X.s₀.heap.FunFrames X.base l->s.heap.FunFrames X.base l:=by
  intro l;induction l with
  |nil=>intro _ _;trivial
  |cons env r ih =>intro hs hl;let⟨hk,⟨L,o,hf,hn,ho,hd⟩,hr⟩:=hl;have hL:L∈X.fs:=hs L (by unfold frs;rw[đ,hf];exact å);let⟨sl,e⟩:=I.base.slot L o ho (I.ok.frf L hL) hL λz=>I.ok.exfs L z hL;exact⟨hk,⟨L,_,hf,hn,e,hd⟩,ih (λb hb=>hs b<|by unfold frs;rw[đ,hf];exact Ø _ hb) hr⟩
 exact all X.outer (λ_ hb=>hb) I.ok.funs
def Inv.stack(I:Inv X Â σ H s):s.heap.FunFrames X.base X.stack:=by
 rcases I.ok.stk with e|⟨e,hf⟩
 .rw[e];exact I.funs
 .rw[e];let⟨m,hn,_⟩:=I.loc;refine .cons (by rw[I.ok.kind];decide) hf hn ?_ I.funs;exact Heap.get?_none_of_le<|Ö I.ok.bsz I.ok.above
def Inv.stkSub(I:Inv X Â σ H s):∀b∈frs X.stack,b∈X.env.locals::X.fs:=λb hb=>by
 rcases I.ok.stk with e|⟨e,hf⟩
 .rw[e]at hb;exact Ø _ hb
 .rw[e]at hb;unfold frs at hb;rw[đ,hf]at hb;exact hb
def Inv.stkFree(I:Inv X Â σ H s):∀b∈frs X.stack,H b=eS:=λb hb=>by
 rcases Å.mp (I.stkSub b hb)with e|hb
 .rw[e];exact I.free
 .obtain⟨_,o,ho,_⟩:=I.ok.funs.mem hb;exact I.base.free b o ho (I.ok.frf b hb) λz=>I.ok.exfs b z hb
variable {g':Array cu}{t':Nat}{ch:List Ì}
def Inv.step(I:Inv X Â σ H s)(hch:∀b∈ch,(b∈X.ex\/X.s₀.heap.objs.size<=b)/\b≠X.env.locals/\(∀x c,X.env.cells.lookup x=eQ c->c≠b)/\∀p∈X.pn++Â,p.1≠b)(keep:∀b o,b≠X.env.locals->b∉X.fs->b∉ch->s.heap.get? b=eQ o->H b=eS->h'.get? b=eQ o)(slot:∀b o,b≠X.env.locals->b∈X.fs->b∉ch->s.heap.get? b=eQ o->H b=eS->∃sl,h'.get? b=eQ {o with slots:=sl})(free:∀b o,b∉ch->s.heap.get? b=eQ o->H b=eS->H' b=eS)(there:∀b o,b∉ch->s.heap.get? b=eQ o->∃o',h'.get? b=eQ o')(tups:∀b xs,H b=eQ (.tup xs)->H' b=eQ (.tup xs))(frzs:∀b o u,H b=eQ (.frz o u)->H' b=eQ (.frz o u))(tbls:∀b ps,H b=eQ (.tbl ps)->∃more,H' b=eQ (.tbl<|ps++more))(ns:∀m,s.heap.Ns X.env.locals m->h'.Ns X.env.locals m)(hok:HOk X.prog X.w H' h')(hg:Ϗ g') :
  Inv X Â σ H' {s with heap:=h',gens:=g',drawn:=d',toks:=t'}:=by
 have neL:∀b o,X.s₀.heap.get? b=eQ o->b≠X.env.locals:=λb o e=>ä<|é (Ó e) I.ok.above;have neC:∀b o,X.s₀.heap.get? b=eQ o->b∉X.ex->b∉ch:=λb o e hx hb=>by
  rcases (hch b hb).1 with z|z
  .exact hx z
  .exact gA (é (Ó e) z)<|ğ _
 have cellK:∀x c,X.env.cells.lookup x=eQ c->∀v,s.heap.IsCell c v->h'.IsCell c v:=λx c e v ⟨o,ho,hd⟩=>by
  have nch:c∉ch:=λz=>(hch c z).2.2.1 x c e rfl;by_cases hc:c∈X.fs
  .obtain⟨sl,q⟩:=slot c o (I.cne x c e) hc nch ho<|I.freeC x c e;exact⟨_,q,hd⟩
  .exact⟨o,keep c o (I.cne x c e) hc nch ho<|I.freeC x c e,hd⟩
 refine⟨I.ok,I.os,hg,⟨λb o e n hb hx=>?_,λb o e n hb hx=>?_,λb o e n hx=>?_,λb o e hx=>?_,λb xs e=>tups b xs<|I.base.tups b xs e,λb o xs e=>frzs b o xs<|I.base.frzs b o xs e,λb ps e=>?_⟩,?_,λx c e=>?_,?_,λx c e=>?_,λp hp=>?_,hok,I.len⟩
 .exact keep b o (neL b o e) hb (neC b o e hx) (I.base.keep b o e n hb hx)<|I.base.free b o e n hx
 .obtain⟨sl,e1⟩:=I.base.slot b o e n hb hx;let⟨sl',e2⟩:=slot b _ (neL b o e) hb (neC b o e hx) e1<|I.base.free b o e n hx;exact⟨sl',e2⟩
 .obtain⟨o',e1⟩:=I.base.there b o e hx;exact free b o' (neC b o e hx) e1<|I.base.free b o e n hx
 .obtain⟨o',e1⟩:=I.base.there b o e hx;exact there b o' (neC b o e hx) e1
 .obtain⟨m1,e1⟩:=I.base.tbls b ps e;let⟨m2,e2⟩:=tbls b _ e1;exact⟨m1++m2,by rw[e2,Array.append_assoc]⟩
 .obtain⟨m,hn,hl⟩:=I.loc;refine⟨m,ns m hn,λi x v e1 e2 e3=>?_⟩;let⟨u,r,l⟩:=hl i x v e1 e2 e3;refine⟨u,r,?_⟩;rcases l with l|⟨k,c,e,z⟩
  .exact .inl l
  .exact .inr ⟨k,c,e,cellK x c e _ z⟩
 .obtain⟨v,z⟩:=I.cell x c e;exact⟨v,cellK x c e v z⟩
 .obtain⟨m,⟨o,_,_,ho,_⟩,_⟩:=I.loc;exact free _ o (λz=>(hch _ z).2.1 rfl) ho I.free
 .obtain⟨v,o,ho,hd⟩:=I.cell x c e;exact free c o (λz=>(hch c z).2.2.1 x c e rfl) ho<|I.freeC x c e
 .obtain⟨e,n,ne,nf,d⟩:=I.pin p hp;have nch:p.1∉ch:=λz=>(hch p.1 z).2.2.2 p hp rfl;exact⟨keep p.1 p.2 ne nf nch e n,free p.1 p.2 nch e n,ne,nf,d⟩
def Inv.un(I:Inv X Â σ H s)(u:Un X.fs [] H H' s.heap h')(hok:HOk X.prog X.w H' h'):Inv X Â σ H' {s with heap:=h',toks:=t'}:=by
 let⟨m,⟨o,es,ep,ho,r⟩,_⟩:=id I.loc;let⟨sl,hL⟩:=u.any ho I.free (by simp);exact I.step (g':=s.gens) (d':=s.drawn) (ch:=[]) (λ_ z=>nomatch z) (λb o _ hb _ e n=>u.keep b o e n hb<|by simp) (λb o _ hb _ e n=>u.slot b o e n hb<|by simp) (λb o _ e n=>u.free b o e n<|by simp) (λb o _ e=>u.there b o e<|by simp) u.tups u.frzs u.tbls (λm' hm=>by
   let⟨o',es',ep',aF,r'⟩:=hm
   rw[ho]at aF;cases aF
   exact⟨_,es',ep',hL,r'⟩) hok I.bare
def Inv.call(I:Inv X Â σ H s)(u:Un (frs X.stack) ch H H' s.heap h')(hok:HOk X.prog X.w H' h')(hg:Ϗ g')(hch:∀b∈ch,(b∈X.ex\/X.s₀.heap.objs.size<=b)/\b≠X.env.locals/\(∀x c,X.env.cells.lookup x=eQ c->c≠b)/\∀p∈X.pn++Â,p.1≠b) :
  Inv X Â σ H' {s with heap:=h',gens:=g',drawn:=d',toks:=t'}:=by
 let⟨m,⟨o,es,ep,ho,r⟩,_⟩:=id I.loc;let⟨sl,hL⟩:=u.any ho I.free λz=>(hch _ z).2.1 rfl;exact I.step (ch:=ch) hch (λb o hL hb hc e n=>u.keep b o e n (λz=>(Å.mp<|I.stkSub b z).elim hL hb) hc) (λb o _ _ hc e n=>u.any e n hc) (λb o hc e n=>u.free b o e n hc) (λb o hc e=>u.there b o e hc) u.tups u.frzs u.tbls (λm' hm=>by
   let⟨o',es',ep',aF,r'⟩:=hm
   rw[ho]at aF;cases aF
   exact⟨_,es',ep',hL,r'⟩) hok hg
def Inv.turned(I:Inv X Â σ H s)(k:∀b o,b≠it->s.heap.get? b=eQ o->h'.get? b=eQ o)(hn:H it=eS)(hL:it≠X.env.locals)(h1:it∈X.ex\/X.s₀.heap.objs.size<=it)(h2:∀x c,X.env.cells.lookup x=eQ c->c≠it)(h3:∀p∈X.pn++Â,p.1≠it):Inv X Â σ H {s with heap:=h',toks:=t'}:=by
 have nit:∀b u,H b=eQ u->b≠it:=λb u e z=>by rw[z,hn]at e;cases e
 refine I.step (g':=s.gens) (d':=s.drawn) (ch:=[it]) (λb hb=>?_) (λb o _ _ hc e _=>k b o (λz=>hc<|by simp[z]) e) (λb o _ _ hc e _=>⟨o.slots,k b o (λz=>hc<|by simp[z]) e⟩) (λ_ _ _ _ n=>n)
  (λb o hc e=>⟨o,k b o (λz=>hc<|by simp[z]) e⟩) (λ_ _ e=>e) (λ_ _ _ e=>e) (λb ps e=>⟨#[],by rw[e];simp⟩) (λm hm=>?_) (λb u e=>?_) I.bare
 .have e:b=it:=⇑hb
  subst e;exact⟨h1,hL,h2,h3⟩
 .obtain⟨o,es,ep,ho,r⟩:=hm;exact⟨o,es,ep,k _ o (Ne.symm hL) ho,r⟩
 .refine(I.hok b u e).stay (λc v hc q=>k c v ?_ q) (λ_ q=>q) λ_ _ q=>q;rcases hc with z|z
  .rw[z];exact nit b u e
  .exact nit c _ z
def Inv.tok(I:Inv X Â σ H s)(t:Nat):Inv X Â σ H {s with toks:=t}:=I.un (h':=s.heap) (t':=t) Un.refl I.hok
def Inv.kept(I:Inv X Â σ H s)(k:∀b u,s.heap.get? b=eQ u->h'.get? b=eQ u):Inv X Â σ H {s with heap:=h',toks:=t'}:=I.un (Un.kept k) (I.hok.kept k)
variable {o:HO}
def Inv.laid(I:Inv X Â σ H s)(k:∀b u,s.heap.get? b=eQ u->h'.get? b=eQ u)(hp:s.heap.objs.size<=a)(new:fg X.prog X.w (upd H a o) h' a o) :
  Inv X Â σ (upd H a o) {s with heap:=h',toks:=t'}:=I.un (Un.laid k hp<|I.hok.fresh hp)<|I.hok.laid k hp new
def Inv.write(I:Inv X Â σ H s)(mu:Mut<|H x)(he:e=x\/H e=eQ (.own x))(k:∀b u,b≠e->s.heap.get? b=eQ u->h'.get? b=eQ u)(heo:∃u,h'.get? e=eQ u)(new:fg X.prog X.w (upd H x o) h' x o):Inv X Â σ (upd H x o) {s with heap:=h',toks:=t'}:=I.un (Un.write mu he k heo)<|I.hok.write mu he k heo new
def Inv.pins_of(I:Inv X Â σ H s)(h:∀p∈pins',s.heap.get? p.1=eQ p.2/\H p.1=eS/\p.1≠X.env.locals/\p.1∉X.fs/\∀v,p.2.data≠.cell v):Inv X pins' σ H s :=
 ⟨I.ok,I.os,I.bare,I.base,I.loc,I.cell,I.free,I.freeC,λp hp=>(ê.mp hp).elim (λz=>I.pin p<|Ü _ z)<|h p,I.hok,I.len⟩
variable {i:Nat}{x:Str}
def Ov{N:List Str}(hN:N.Nodup){j:Nat}(a:N[i]?=eQ x)(b:N[j]?=eQ x):i=j:=by let⟨h1,e1⟩:=Ë.mp a;let⟨h2,e2⟩:=Ë.mp b;exact(List.getElem_inj hN).mp (e1.trans e2.symm)
variable {M:Model}{A:Đ}{u:Ã}{Q:Unit->Ç->Prop}
def K3(I:Inv X Â σ H s)(hN:X.N.Nodup)(hi:X.N[i]?=eQ x)(hx:Loc X.env.scope x)(r:RelV v u)(h:∀s',Inv X Â (σ.set i<|eQ v) H s'->(∃a,Ň a s.heap s'.heap/\(a=X.env.locals\/X.env.cells.lookup x=eQ a))->Q () s')(hf:X.fn x=eU\/X.env.scope.names.lookup x=eQ .local:=by first|exact .inl rfl|exact .inr rfl|assumption):wpAny M A (storeName X.env x u) Q E s:=by
 let⟨m,hn,hl⟩:=id I.loc;have hcls:(X.env.scope.kind == .class||(X.env.scope.kind == .module&&X.env.locals != X.env.globals))=eV:=by rw[I.ok.kind];rfl
 have hiσ:i<σ.length:=by rw[I.len];exact(Ë.mp hi).1
 have cne:=I.cne;have cY:∀{a:Ì}{h':Ď},(∃o,s.heap.get? a=eQ o/\H a=eS)->Ň a s.heap h'->HOk X.prog X.w H h':=λ{a h'} ha hs b ob e=>by
  let⟨_,_,hfree⟩:=ha;refine(I.hok b ob e).stay (λc w' hc q=>(hs.2 c ?_).trans q) (λ_ q=>q) λ_ _ q=>q;rintro rfl;rcases hc with rfl|hc
  .rw[hfree]at e;cases e
  .rw[hfree]at hc;cases hc
 rcases hx with hk|hk
 .refine wpAny_storeName_local hk hn (λh' hn' hs=>?_) hcls;let⟨oL,_,_,hoL,_⟩:=id hn;refine h _ ⟨I.ok,I.os,I.bare,⟨λb o e n hb hx=>?_,λb o e n hb hx=>?_,I.base.free,λb o e hx=>?_,I.base.tups,I.base.frzs,I.base.tbls⟩,⟨_,hn',λj y v' e1 e2 e3=>?_⟩,λy c e=>?_,I.free,I.freeC,λp hp=>?_,cY ⟨oL,hoL,I.free⟩ hs,by simpa using I.len⟩ ⟨_,hs,.inl rfl⟩
  .exact(hs.2 b<|ä<|é (Ó e) I.ok.above).trans<|I.base.keep b o e n hb hx
  .obtain⟨sl,e1⟩:=I.base.slot b o e n hb hx;exact⟨sl,(hs.2 b<|ä<|é (Ó e) I.ok.above).trans e1⟩
  .obtain⟨o',e1⟩:=I.base.there b o e hx;exact⟨o',(hs.2 b<|ä<|é (Ó e) I.ok.above).trans e1⟩
  .by_cases hj:j=i
   .subst hj;rw[hi]at e1;cases e1;rw[ϐ hiσ]at e2;cases e2;exact⟨u,r,.inl ⟨hk,by simp⟩⟩
   .rw[ε<|Ne.symm hj]at e2;let⟨u',r',q⟩:=hl j y v' e1 e2 e3;refine⟨u',r',?_⟩;rcases q with⟨k,e⟩|⟨k,c,e,z⟩
    .refine .inl ⟨k,?_⟩;have:y≠x:=λe=>hj<|Ov hN e1<|e▸hi;simp[this,e]
    .exact .inr ⟨k,c,e,z.sameBut hs<|cne y c e⟩
  .obtain⟨w',z⟩:=I.cell y c e;exact⟨w',z.sameBut hs<|cne y c e⟩
  .obtain⟨e,n,ne,nf,d⟩:=I.pin p hp;exact⟨(hs.2 p.1 ne).trans e,n,ne,nf,d⟩
 .have hfn:X.fn x=eU:=by
   rcases hf with z|z
   .exact z
   .rw[z]at hk;cases hk
  let⟨c,hc⟩:=I.ok.has x<|.inl hk;let⟨w',z⟩:=I.cell x c hc;refine wpAny_storeName_cell I.ok.kind hk hc z λh' hc' hs=>?_;let⟨oc,hoc,hocd⟩:=id z;refine h {s with heap:=h'} ⟨I.ok,I.os,I.bare,⟨λb o e n hb hx=>?_,λb o e n hb hx=>?_,I.base.free,λb o e hx=>?_,I.base.tups,I.base.frzs,I.base.tbls⟩,⟨m,hn.sameBut hs<|Ne.symm<|cne x c hc,λj y v' e1 e2 e3=>?_⟩,λy c' e=>?_,I.free,I.freeC,λp hp=>?_,cY ⟨oc,hoc,I.freeC x c hc⟩ hs,by simpa using I.len⟩ ⟨c,hs,.inr hc⟩
  .exact(hs.2 b<|ä<|é (Ó e)<|I.ok.cab x c hfn hc).trans<|I.base.keep b o e n hb hx
  .obtain⟨sl,e1⟩:=I.base.slot b o e n hb hx;exact⟨sl,(hs.2 b<|ä<|é (Ó e)<|I.ok.cab x c hfn hc).trans e1⟩
  .obtain⟨o',e1⟩:=I.base.there b o e hx;exact⟨o',(hs.2 b<|ä<|é (Ó e)<|I.ok.cab x c hfn hc).trans e1⟩
  .by_cases hj:j=i
   .subst hj;rw[hi]at e1;cases e1;rw[ϐ hiσ]at e2;cases e2;exact⟨u,r,.inr ⟨.inl hk,c,hc,hc'⟩⟩
   .rw[ε<|Ne.symm hj]at e2;let⟨u',r',q⟩:=hl j y v' e1 e2 e3;refine⟨u',r',?_⟩;rcases q with q|⟨k,c',e,z'⟩
    .exact .inl q
    .refine .inr ⟨k,c',e,z'.sameBut hs ?_⟩;rintro rfl;exact hj<|Ov hN e1<|I.ok.inj _ _ _ e hc▸hi
  .by_cases hcc:c'=c
   .subst hcc;exact⟨_,hc'⟩
   .obtain⟨w2,z2⟩:=I.cell y c' e;exact⟨w2,z2.sameBut hs hcc⟩
  .obtain⟨e,n,ne,nf,d⟩:=I.pin p hp;refine⟨(hs.2 p.1 ?_).trans e,n,ne,nf,d⟩;intro q;rw[q,hoc]at e;have q':oc=p.2:=ð e;exact d w' (by rw[<-q'];exact hocd)
def EI(I:Inv X Â σ H s)(hN:X.N.Nodup)(hi:X.N[i]?=eQ x)(hx:Loc X.env.scope x)(r:RelV v u)(h:∀s',Inv X Â (σ.set i<|eQ v) H s'->Q () s')(hf:X.fn x=eU\/X.env.scope.names.lookup x=eQ .local:=by first|exact .inl rfl|exact .inr rfl|assumption):wpAny M A (storeName X.env x u) Q E s :=
 K3 I hN hi hx r (λs' I' _=>h s' I') hf
def Inv.call'(I:Inv X Â σ H s)(ho:s'.os=s.os)(u:Un (frs X.stack) ch H H' s.heap s'.heap)(hok:HOk X.prog X.w H' s'.heap)(hg:Ϗ s'.gens)(hch:∀b∈ch,(b∈X.ex\/X.s₀.heap.objs.size<=b)/\b≠X.env.locals/\(∀x c,X.env.cells.lookup x=eQ c->c≠b)/\∀p∈X.pn++Â,p.1≠b):Inv X Â σ H' s':=by
 let⟨h',g',d',t',o'⟩:=s';have e:o'=s.os:=ho;subst e;exact I.call (g':=g') (t':=t') (d':=d') u hok hg hch
end
noncomputable abbrev XK:=Ã->Option Ì->Hp->Prop
noncomputable abbrev St:=List<|Option V
noncomputable abbrev VK:=V->Hp->Prop
noncomputable abbrev TE:=St->Hp->VK->Prop
noncomputable abbrev TT:=St->Hp->(Bool->Hp->Prop)->Prop
noncomputable abbrev TA:=St->Hp->(List V->Hp->Prop)->Prop
structure Ends where
 nx:St->Hp->Prop
 rt:VK
 bk:St->Hp->Prop:=λ_ _=>False
 ct:St->Hp->Prop:=λ_ _=>False
noncomputable abbrev TS:=Ends->St->Hp->Prop
inductive EP (X:Cx) (Â:List<|Ì×Obj) (σ:St) (Q:VK) (u:Ã) (s':Ç):Prop
 |mk (v:V) (H':Hp) (i:Inv X Â σ H' s') (r:RelV v u) (q:Q v H')
abbrev TP(X:Cx)(Â:List<|Ì×Obj)(σ:St)(Q:Bool->Hp->Prop)(b:Bool)(s':Ç):Prop:=∃H',Inv X Â σ H' s'/\Q b H'
inductive AP (X:Cx) (Â:List<|Ì×Obj) (σ:St) (Q:List V->Hp->Prop) (us:List Ã) (s':Ç):Prop
 |mk (vs:List V) (H':Hp) (i:Inv X Â σ H' s') (r:gf vs us) (q:Q vs H')
abbrev SP(X:Cx)(Â:List<|Ì×Obj)(D:Ends)(f:Flow)(s':Ç):Prop :=
 match f with
 |.next=>∃ů H',Inv X Â ů H' s'/\D.nx ů H'
 |.brk=>∃ů H',Inv X Â ů H' s'/\D.bk ů H'
 |.cont=>∃ů H',Inv X Â ů H' s'/\D.ct ů H'
 |.ret u=>∃v ů H',Inv X Â ů H' s'/\RelV v u/\D.rt v H'
abbrev PE(X:Cx)(e:Expr)(t:TE):Prop :=
 ∀(Â:List<|Ì×Obj) (s:Ç) (σ:St) (H:Hp) (Q:VK),Inv X Â σ H s->t σ H Q->wpAny ↥2 X.A (eval e X.env) (EP X Â σ Q) X.xe s
abbrev PT(X:Cx)(e:Expr)(t:TT):Prop :=
 ∀(Â:List<|Ì×Obj) (s:Ç) (σ:St) (H:Hp) (Q:Bool->Hp->Prop),Inv X Â σ H s->t σ H Q->wpAny ↥2 X.A (cx e X.env<|eval e X.env) (TP X Â σ Q) X.xe s
abbrev PW(X:Cx)(e:Expr)(t:TT):Prop :=
 ∀(aO:Sem Ã) (Â:List<|Ì×Obj) (s:Ç) (σ:St) (H:Hp) (Q:Bool->Hp->Prop),Inv X Â σ H s->t σ H Q->wpAny ↥2 X.A (cx e X.env aO) (TP X Â σ Q) X.xe s
def PW.pt(h:PW X e t):PT X e t:=h _
abbrev PA(X:Cx)(es:List Expr)(t:TA):Prop :=
 ∀(pos:Pos) (Â:List<|Ì×Obj) (s:Ç) (σ:St) (H:Hp) (Q:List V->Hp->Prop),Inv X Â σ H s->t σ H Q->wpAny ↥2 X.A (spliced<|Ī pos<|à es X.env) (AP X Â σ Q) X.xe s
abbrev PS(X:Cx)(st:ń)(t:TS):Prop :=
 ∀(Â:List<|Ì×Obj) (s:Ç) (σ:St) (H:Hp) (D:Ends),Inv X Â σ H s->t D σ H->wpAny ↥2 X.A (exec st X.env) (SP X Â D) X.xe s
abbrev PSs(X:Cx)(st:List ń)(t:TS):Prop :=
 ∀(Â:List<|Ì×Obj) (s:Ç) (σ:St) (H:Hp) (D:Ends),Inv X Â σ H s->t D σ H->wpAny ↥2 X.A (execs st X.env) (SP X Â D) X.xe s
def thn(h:wpAny M A t Q E s)(hQ:∀a s,Q a s->Q' a s):wpAny M A t Q' E s:=ĵ h hQ λ_ _ x=>x
section
variable {X:Cx}
variable {Â:List (Ì×Obj)}{s:Ç}{σ:St}{H:Hp}
def bin{a b:Expr}{ta tb:TE}(ha:PE X a ta)(hb:PE X b tb){R:V->V->Hp->Prop}(I:Inv X Â σ H s)(h:ta σ H λx H1=>tb σ H1 λy H2=>R x y H2)
  {α:Type}{Q:α->Ç->Prop}{f:Ã->Ã->Sem α}
  (hf:∀v u s2 x y H2,Inv X Â σ H2 s2->RelV x v->RelV y u->R x y H2->wpAny ↥2 X.A (f v u) Q X.xe s2) :
  wpAny ↥2 X.A (eval a X.env) (λv ħ=>wpAny ↥2 X.A (eval b X.env) (λu b7=>wpAny ↥2 X.A (f v u) Q X.xe b7) X.xe ħ) X.xe s:=by
 refine thn (ha Â s σ H _ I h) λv s1 ⟨x,H1,I1,r1,q1⟩=>?_;refine thn (hb Â s1 σ H1 _ I1 q1) λu s2 ⟨y,H2,I2,r2,q2⟩=>?_;exact hf v u s2 x y H2 I2 r1 r2 q2
abbrev QR(i:Nat):TE:=λσ H Q=>∃v,σ[i]?=eQ (eQ v)/\Q v H
abbrev tC(v:V):TE:=λ_ H Q=>Q v H
variable {x:Str}{pos:Pos}
def Cg(hN:X.N[i]?=eQ x)(hv:Vis X.env.scope x)(hd:(x==("__debug__" : Str))=eV:=by decide)(aP:(x==("__classdict__" : Str))=eV:=by decide):PE X (.Name x pos)<|QR i:=by
 k_sub;let⟨v,e,h⟩:=h;let⟨m,hn,hl⟩:=I.loc;let⟨u,r,l⟩:=hl i x v hN e hv;have fin:EP X Â σ Q u s:=⟨v,H,I,r,h⟩
 rcases l with⟨hk,hm⟩|⟨hk,c,hc,hcell⟩
 .exact wpAny_Name (wpAny_loadName_local I.ok.kind hk hn hm fin) hd
 .rcases hk with hk|hk
  .exact wpAny_Name (wpAny_loadName_cell I.ok.kind hk hc hcell fin) hd
  .exact wpAny_Name (wpAny_loadName_free I.ok.kind hk hc hcell fin aP) hd
def Nt{i j pos}:PE X (.Constant (.int i) j pos)<|tC<|.int i:=λ_ _ _ H _ I h=>wpAny_Constant_int ⟨.int i,H,I.tok _,⟨_,rfl⟩,h⟩
def Sc{b j pos}:PE X (.Constant (.bool b) j pos)<|tC<|.bl b:=λ_ _ _ H _ I h=>Constant_bool ⟨.bl b,H,I,rfl,h⟩
def Dk{j pos}:PE X (.Constant .none j pos)<|tC .non:=λ_ _ _ H _ I h=>df ⟨.non,H,I,rfl,h⟩
def LE{x j pos}:PE X (.Constant (.str x) j pos)<|tC<|.str x:=λ_ _ _ H _ I h=>Calls.Constant_str ⟨.str x,H,I.tok _,⟨_,rfl⟩,h⟩
abbrev Gl(X:Cx)(x:Str):Prop:=X.env.kindOf x=eQ .globalImplicit
variable {u:Ã}{Q:Ã->Ç->Prop}
def Jf(I:Inv X Â σ H s)(hg:Gl X x)(hm:X.mg x=eQ u)(h:Q u s)(hd:(x==("__debug__" : Str))=eV:=by decide):wpAny ↥2 X.A (eval (.Name x pos) X.env) Q E s :=
 Calls.Name_function_global I.ok.kind hg (Calls.loadGlobal_global (by rw[I.ok.glob];exact I.mod.glob.keeps I.bk) hm h) hd
def Y6{E:Ã->Ç->Prop}(I:Inv X Â σ H s)(hg:Gl X x)(hm:X.mg x=eS)(hv:Š x=eQ u)(h:Q u s)
  (hn:x≠"__name__":=by decide) (hd:(x==("__debug__" : Str))=eV:=by decide):wpAny ↥2 X.A (eval (.Name x pos) X.env) Q E s:=by
 let⟨mb,h1,h2⟩:=I.mod.blt;exact Calls.Name_function_global I.ok.kind hg (Calls.loadGlobal_builtin (by rw[I.ok.glob];exact I.mod.glob.keeps I.bk) hm (by rw[I.ok.blt];exact h1.keeps I.bk) ((h2 x hn).trans hv) h) hd
def GQ(hg:Gl X x)(hm:X.mg x=eQ u)(r:RelV v u)(hd:(x==("__debug__" : Str))=eV:=by decide):PE X (.Name x pos) (tC v) :=
 λ_ _ _ H _ I h=>Jf I hg hm ⟨v,H,I,r,h⟩ hd
def HJ(hg:Gl X x)(hm:X.mg x=eS)(hv:Š x=eQ u)(r:RelV v u)(hn:x≠"__name__":=by decide)(hd:(x==("__debug__" : Str))=eV:=by decide):PE X (.Name x pos) (tC v) :=
 λ_ _ _ H _ I h=>Y6 I hg hm hv ⟨v,H,I,r,h⟩ hn hd
variable {a b:Expr}{ta:TE}{pos:Pos}
abbrev PC(X:Cx)(op:cy)(a b:Expr)(t:TE):Prop :=
 ∀(Â:List<|Ì×Obj) (s:Ç) (σ:St) (H:Hp) (Q:VK),Inv X Â σ H s->t σ H Q->
  wpAny ↥2 X.A (eval a X.env) (λv ħ=>wpAny ↥2 X.A (eval b X.env) (λu b7=>wpAny ↥2 X.A (ñ op v u) (EP X Â σ Q) X.xe b7) X.xe ħ) X.xe s
def N0(b:Expr)(h:op≠.In)(h2:op≠.NotIn):ŀ op b=eV:=by
 have e1:(op==CmpOp.In)=eV:=by cases op<;>first|rfl|exact gA rfl h
 have e2:(op==CmpOp.NotIn)=eV:=by cases op<;>first|rfl|exact gA rfl h2
 cases b<;>simp[ŀ,e1,e2]
abbrev SE(ta:TE):TE:=λσ H Q=>ta σ H λx H1=>Q (.bl<|gB (x=.non)) H1
abbrev RP(ta:TE):TE:=λσ H Q=>ta σ H λx H1=>Q (.bl (!gB (x=.non))) H1
def RelV.none_iff{x:V}{v:Ã}(r:RelV x v):(v==Value.none)=gB (x=.non):=by
 cases x with
 |non=>cases r;rfl
 |bl _=>cases r;rfl
 |int _=>let⟨t,rfl⟩:=r;rfl
 |str _=>let⟨t,rfl⟩:=r;rfl
 |byt _=>let⟨t,rfl⟩:=r;rfl
 |flt _=>let⟨t,rfl⟩:=r;rfl
 |ref _=>cases r;rfl
 |ty _=>cases r;rfl
def DG{j bH}(ha:PE X a ta):PC X .Is a (.Constant .none j bH)<|SE ta:=by k_sub;refine thn (ha Â s σ H _ I h) λv s1 ⟨x,H1,I1,r1,q1⟩=>?_;exact df (is_none_gen ⟨.bl _,H1,I1,by rw[r1.none_iff];rfl,q1⟩)
def As{j bH}(ha:PE X a ta):PC X .IsNot a (.Constant .none j bH)<|RP ta:=by k_sub;refine thn (ha Â s σ H _ I h) λv s1 ⟨x,H1,I1,r1,q1⟩=>?_;exact df (isnot_none_gen ⟨.bl _,H1,I1,by rw[r1.none_iff];rfl,q1⟩)
abbrev tB(t:TE):TT:=λσ H Q=>t σ H λx H1=>∃c,x=.bl c/\Q c H1
def EO(h:PC X op a b t)(h1:ŀ op b=eV:=by first|exact N0 _ ↥1 ↥1|rfl):PE X (.Compare a [op] [b] pos) t:=λÂ s σ H Q I hw=>wpAny_Compare1 (h Â s σ H Q I hw) h1
def Ed(h:PC X op a b t)(h1:ŀ op b=eV:=by first|exact N0 _ ↥1 ↥1|rfl):PT X (.Compare a [op] [b] pos)<|tB t:=by intro Â s σ H Q I hw;refine wpAny_isTrue_Compare1 (thn (h Â s σ H _ I hw) λv s1 h1=>thn h1 λu s2 h2=>thn h2 λc s3 ⟨x,H1,I1,r1,q1⟩=>?_) h1;let⟨d,rfl,q⟩:=q1;cases r1;exact ė ⟨H1,I1,q⟩
variable {rest:List Expr}
abbrev S3(t u:TT):TT:=λσ H Q=>t σ H λc H1=>if c=eU then u σ H1 Q else Q eV H1
abbrev tOr(t u:TT):TT:=λσ H Q=>t σ H λc H1=>if c=eU then Q eU H1 else u σ H1 Q
abbrev SF(t:TT):TT:=λσ H Q=>t σ H λc H1=>Q (!c) H1
def GZ(ha:PT X a tA):PW X (.BoolOp .And [a] pos) tA:=by
 intro wh Â s σ H Q I h;refine isTrue_and<|thn (ha Â s σ H Q I h) λc s1 e=>?_;cases c with
 |true=>exact isTrue_and_nil e
 |false=>exact e
def LR(ha:PT X a tA):PW X (.BoolOp .Or [a] pos) tA:=by
 intro wh Â s σ H Q I h;refine isTrue_or<|thn (ha Â s σ H Q I h) λc s1 e=>?_;cases c with
 |false=>exact isTrue_or_nil e
 |true=>exact e
def QE(ha:PT X a tA)(hb:PW X (.BoolOp .And (b::rest) pos) tB'):PW X (.BoolOp .And (a::b::rest) pos)<|S3 tA tB':=by
 intro wh Â s σ H Q I h;refine isTrue_and<|thn (ha Â s σ H _ I h) λc s1 ⟨H1,I1,q1⟩=>?_;cases c with
 |true=>exact hb wh Â s1 σ H1 Q I1 q1
 |false=>exact⟨H1,I1,q1⟩
def RG(ha:PT X a tA)(hb:PW X (.BoolOp .Or (b::rest) pos) tB'):PW X (.BoolOp .Or (a::b::rest) pos)<|tOr tA tB':=by
 intro wh Â s σ H Q I h;refine isTrue_or<|thn (ha Â s σ H _ I h) λc s1 ⟨H1,I1,q1⟩=>?_;cases c with
 |true=>exact⟨H1,I1,q1⟩
 |false=>exact hb wh Â s1 σ H1 Q I1 q1
def IZ(ha:PT X a tA):PT X (.UnaryOp .Not a pos)<|SF tA:=by k_sub;exact isTrue_not (ha Â s σ H (λc H1=>Q (!c) H1) I h)
abbrev Sf(ta tb:TE):TE:=λσ H Q=>ta σ H λx H1=>∃c,x=.bl c/\if c=eU then tb σ H1 Q else Q (.bl eV) H1
abbrev Tp(ta tb:TE):TE:=λσ H Q=>ta σ H λx H1=>∃c,x=.bl c/\if c=eU then Q (.bl eU) H1 else tb σ H1 Q
abbrev Sl(ta:TE):TE:=λσ H Q=>ta σ H λx H1=>∃c,x=.bl c/\Q (.bl (!c)) H1
def D6{op}(h:PE X a t):PE X (.BoolOp op [a] pos) t:=λÂ s σ H Q I hw=>BoolOp_one (h Â s σ H Q I hw)
def Py(ha:PE X a ta)(hb:PE X (.BoolOp .And (b::rest) pos) tb):PE X (.BoolOp .And (a::b::rest) pos)<|Sf ta tb:=by
 k_sub;refine BoolOp_and<|thn (ha Â s σ H _ I h) λv s1 ⟨x,H1,I1,r1,q1⟩=>?_;let⟨c,rfl,q1⟩:=q1;cases r1;refine ė ?_;cases c with
 |true=>exact hb Â s1 σ H1 Q I1 q1
 |false=>exact⟨.bl eV,H1,I1,rfl,q1⟩
def RN(ha:PE X a ta)(hb:PE X (.BoolOp .Or (b::rest) pos) tb):PE X (.BoolOp .Or (a::b::rest) pos)<|Tp ta tb:=by
 k_sub;refine BoolOp_or<|thn (ha Â s σ H _ I h) λv s1 ⟨x,H1,I1,r1,q1⟩=>?_;let⟨c,rfl,q1⟩:=q1;cases r1;refine ė ?_;cases c with
 |false=>exact hb Â s1 σ H1 Q I1 q1
 |true=>exact⟨.bl eU,H1,I1,rfl,q1⟩
def Lu(ha:PE X a ta):PE X (.UnaryOp .Not a pos)<|Sl ta:=by k_sub;refine UnaryOp_<|thn (ha Â s σ H _ I h) λv s1 ⟨x,H1,I1,r1,q1⟩=>?_;let⟨c,rfl,q1⟩:=q1;cases r1;exact not_of (ė ⟨.bl (!c),H1,I1,rfl,q1⟩)
abbrev tIf(t:TT)(ta tb:TE):TE:=λσ H Q=>t σ H λc H1=>if c=eU then ta σ H1 Q else tb σ H1 Q
def Dn(hc:PT X c tA)(ha:PE X a ta)(hb:PE X b tb):PE X (.IfExp c a b pos)<|tIf tA ta tb:=by
 k_sub;refine wpAny_IfExp<|thn (hc Â s σ H _ I h) λd s1 ⟨H1,I1,q1⟩=>?_;cases d with
 |true=>exact ha Â s1 σ H1 Q I1 q1
 |false=>exact hb Â s1 σ H1 Q I1 q1
end
abbrev f9(K:Frag)(H:Hp)(a:Ì)(xs:List V):Prop :=
 Rd H a (.lst xs)\/
  ∃(o:Obj) (ø:Array Ã) (n:Nat),K.lookup a=eQ o/\o.cls=.type "list"/\o.dict=eS/\o.data=.seq ø n/\ø.size<=Þ/\gf xs ø.toList
abbrev gc(K:Frag)(H:Hp)(a:Ì)(xs:List V):Prop :=
 Rd H a (.tup xs)\/
  ∃(o:Obj) (ø:Array Ã) (n:Nat),K.lookup a=eQ o/\o.cls=.type "tuple"/\o.data=.seq ø n/\ø.size<=Þ/\gf xs ø.toList
abbrev absV:Ã->Option V
 |.none=>eQ .non
 |.bool b=>eQ<|.bl b
 |.int i _=>eQ<|.int i
 |.str x _=>eQ<|.str x
 |.bytes b _=>eQ<|.byt b
 |.float b _=>eQ<|.flt b
 |.ref a=>eQ<|.ref a
 |.type n=>eQ<|.ty n
 |_=>eS
variable {x:V}{u:Ã}
def RelV.abs(r:RelV x u):absV u=eQ x:=by
 cases x with
 |non=>cases r;rfl
 |bl _=>cases r;rfl
 |int _=>let⟨t,rfl⟩:=r;rfl
 |str _=>let⟨t,rfl⟩:=r;rfl
 |byt _=>let⟨t,rfl⟩:=r;rfl
 |flt _=>let⟨t,rfl⟩:=r;rfl
 |ref _=>cases r;rfl
 |ty _=>cases r;rfl
def RelV.inj(r:RelV x u)(q:RelV y u):x=y:=ð (r.abs.symm.trans q.abs)
def gf.inj:∀{xs ys:List V}{us:List Ã},gf xs us->gf ys us->xs=ys
 |_,_,_,.nil,.nil=>rfl
 |_,_,_,.cons r t,.cons r' t'=>by rw[r.inj r',gf.inj t t']
section
variable {X:Cx}{Â:List (Ì×Obj)}{σ:St}{H:Hp}{s:Ç}{a:Ì}{xs ys:List V}
def f9.of{K:Frag}(h:H a=eQ (.lst xs)):f9 K H a xs:=.inl (.inl h)
def gc.of{K:Frag}(h:H a=eQ (.tup xs)):gc K H a xs:=.inl (.inl h)
def Inv.list(I:Inv X Â σ H s)(h:f9 X.K H a xs):∃ø:List Ã,gf xs ø/\PlainL s.heap a ø.toArray/\xs.length<=Þ:=by
 rcases h with h|⟨o,ø,n,hk,hc,hd,hs,hz,r⟩
 .obtain⟨z,ø,n,r,e⟩:=h.ok I.hok;exact⟨ø,r,⟨_,n,e,rfl,rfl,rfl⟩,z⟩
 .refine⟨ø.toList,r,⟨o,n,I.kIn a o hk,hc,hd,⇑hs⟩,?_⟩;have e:=r.length;simp![ì]at e;lia
def Inv.tuple(I:Inv X Â σ H s)(h:gc X.K H a xs):∃ø:List Ã,gf xs ø/\bb s.heap a ø.toArray/\xs.length<=Þ:=by
 rcases h with h|⟨o,ø,n,hk,hc,hs,hz,r⟩
 .obtain⟨z,ø,r,p⟩:=h.ok I.hok;exact⟨ø,r,p,z⟩
 .refine⟨ø.toList,r,⟨o,I.kIn a o hk,hc,n,⇑hs⟩,?_⟩;have e:=r.length;simp![ì]at e;lia
def Inv.list_inj(I:Inv X Â σ H s)(h:f9 X.K H a xs)(h':f9 X.K H a ys):xs=ys:=by
 let⟨ø,r,⟨o,n,e,_,_,d⟩,_⟩:=I.list h;let⟨its',r',⟨o',n',e',_,_,d'⟩,_⟩:=I.list h';rw[e]at e';cases e';rw[d]at d';injection d' with d1 _;have:ø=its':=by simpa using congrArg bX d1
 subst this;exact r.inj r'
def Inv.tuple_inj(I:Inv X Â σ H s)(h:gc X.K H a xs)(h':gc X.K H a ys):xs=ys:=by
 let⟨ø,r,⟨o,e,_,n,d⟩,_⟩:=I.tuple h;let⟨its',r',⟨o',e',_,n',d'⟩,_⟩:=I.tuple h';rw[e]at e';cases e';rw[d]at d';injection d' with d1 _;have:ø=its':=by simpa using congrArg bX d1
 subst this;exact r.inj r'
end
section
variable {st:ń}{rest:List ń}{t u:TS}{e:Expr}{pos:Pos}
abbrev Sm:TS:=λD σ H=>D.nx σ H
abbrev S5(t u:TS):TS:=λD σ H=>t {D with nx:=u D} σ H
def pss_nil:PSs X [] Sm:=λ_ _ σ H _ I h=>wpAny_execs_nil ⟨σ,H,I,h⟩
def Ef(h1:PS X st t)(h2:PSs X rest u):PSs X (st::rest)<|S5 t u:=by
 intro Â s σ H D I h;refine wpAny_execs_cons<|thn (h1 Â s σ H {D with nx:=u D} I h) λf s1 q=>?_;cases f with
 |next =>let⟨ů,H',I',q⟩:=q;exact h2 Â s1 ů H' D I' q
 |ret v=>exact q
 |brk=>exact q
 |cont=>exact q
def Inv.quiet{Â:List (Ì×Obj)}{σ:St}{H:Hp}{s:Ç}(I:Inv X Â σ H s):interactive X.env=eV:=by simp[interactive,I.ok.kind]
abbrev Ro(te:TE):TS:=λD σ H=>te σ H λ_ H1=>D.nx σ H1
def FT(he:PE X e te)(hs:ź e eS pos.line X.env=pure eV:=by rfl):PS X (.Expr e pos)<|Ro te:=by intro Â s σ H D I h;exact wpAny_Expr_any (thn (he Â s σ H _ I h) λv s1 ⟨x,H1,I1,r1,q1⟩=>⟨σ,H1,I1,q1⟩) I.quiet hs
abbrev Tz(te:TE):TS:=λD σ H=>te σ H D.rt
def P8(he:PE X e te):PS X (.Return (eQ e) pos)<|Tz te:=by intro Â s σ H D I h;exact wpAny_Return_some (thn (he Â s σ H _ I h) λv s1 ⟨x,H1,I1,r1,q1⟩=>⟨x,σ,H1,I1,r1,q1⟩)
abbrev Rm:TS:=λD _ H=>D.rt .non H
def ps_retN:PS X (.Return eS pos) Rm:=λ_ _ σ H _ I h=>wpAny_Return_none ⟨.non,σ,H,I,rfl,h⟩
abbrev Tq(c:TT)(t u:TS):TS:=λD σ H=>c σ H λb H1=>if b=eU then t D σ H1 else u D σ H1
def Rq{c:Expr}{a b:List ń}{tc:TT}(hc:PT X c tc)(ha:PSs X a t)(hb:PSs X b u):PS X (.If c a b pos)<|Tq tc t u:=by
 intro Â s σ H D I h;refine wpAny_If<|thn (hc Â s σ H _ I h) λd s1 ⟨H1,I1,q1⟩=>?_;cases d with
 |true=>exact ha Â s1 σ H1 D I1 q1
 |false=>exact hb Â s1 σ H1 D I1 q1
end
noncomputable abbrev TG:=V->St->Hp->(St->Hp->Prop)->Prop
noncomputable abbrev TGs:=List V->St->Hp->(St->Hp->Prop)->Prop
abbrev PG(X:Cx)(aj:Expr)(t:TG):Prop :=
 ∀(Â:List<|Ì×Obj) (s:Ç) (σ:St) (H:Hp) (v:V) (u:Ã) (Q:St->Hp->Prop),Inv X Â σ H s->RelV v u->t v σ H Q->
  wpAny ↥2 X.A (μ aj X.env u) (λ_ s'=>∃ů H',Inv X Â ů H' s'/\Q ů H') X.xe s
abbrev PGs(X:Cx)(ts:List Expr)(t:TGs):Prop :=
 ∀(Â:List<|Ì×Obj) (s:Ç) (σ:St) (H:Hp) (vs:List V) (us:List Ã) (Q:St->Hp->Prop),Inv X Â σ H s->gf vs us->t vs σ H Q->
  wpAny ↥2 X.A (assignInOrder ((ĥ ts X.env).map (·.2)) us) (λ_ s'=>∃ů H',Inv X Â ů H' s'/\Q ů H') X.xe s
noncomputable abbrev CO:=V->V->V->Hp->(Hp->Prop)->Prop
abbrev PSet(X:Cx)(t:CO):Prop :=
 ∀(Â:List<|Ì×Obj) (s:Ç) (σ:St) (H:Hp) (o i v:V) (ov iv u:Ã) (Q:Hp->Prop),Inv X Â σ H s->RelV o ov->RelV i iv->RelV v u->t o i v H Q->
  wpAny ↥2 X.A (bc ov iv u) (λ_ s'=>∃H',Inv X Â σ H' s'/\Q H') X.xe s
noncomputable abbrev TIp:=V->V->Hp->VK->Prop
abbrev PIp(X:Cx)(op:ϟ)(t:TIp):Prop :=
 ∀(Â:List<|Ì×Obj) (s:Ç) (σ:St) (H:Hp) (x y:V) (v u:Ã) (Q:VK),Inv X Â σ H s->RelV x v->RelV y u->t x y H Q->
  wpAny ↥2 X.A (inplaceOp op v u) (EP X Â σ Q) X.xe s
section
variable {X:Cx}{pos:Pos}
abbrev HW(i:Nat):TG:=λv σ H Q=>Q (σ.set i<|eQ v) H
def Am{i:Nat}{x:Str}(hN:X.N.Nodup)(hi:X.N[i]?=eQ x)(hx:Loc X.env.scope x)(hf:X.fn x=eU\/X.env.scope.names.lookup x=eQ .local:=by first|exact .inl rfl|exact .inr rfl|assumption):PG X (.Name x pos)<|HW i:=by intro Â s σ H v u Q I r h;exact wpAny_assign_Name (EI I hN hi hx r (λs' I'=>⟨_,H,I',h⟩) hf)
abbrev Tc:TGs:=λvs σ H Q=>vs=[]/\Q σ H
abbrev QY(t:TG)(u:TGs):TGs:=λvs σ H Q=>∃v r,vs=v::r/\t v σ H λů H'=>u r ů H' Q
def pgs_nil:PGs X [] Tc:=by intro Â s σ H vs us Q I r h;let⟨e,h⟩:=h;subst e;cases r;exact assignInOrder_nil ⟨σ,H,I,h⟩
variable {e:Expr}{es:List Expr}
def JC{t:TG}{u:TGs}(h1:PG X e t)(h2:PGs X es u)
  (hs:(ĥ (e::es) X.env).map (·.2)=μ e X.env::(ĥ es X.env).map (·.2):=by rfl):PGs X (e::es)<|QY t u:=by
 intro Â s σ H vs us Q I r h;let⟨v,vr,e1,h⟩:=h;subst e1;cases r with
 |cons r rr =>rw[hs];refine assignInOrder_cons<|thn (h1 Â s σ H _ _ _ I r h) λ_ s1 ⟨σ1,H1,I1,q1⟩=>?_;exact h2 Â s1 σ1 H1 _ _ Q I1 rr q1
abbrev SX(K:Frag)(n:Nat)(t:TGs):TG:=λv σ H Q=>∃a xs,v=.ref a/\gc K H a xs/\xs.length=n/\t xs σ H Q
def B5{k:Nat}{n:Nat}(hc:X.calm=eU)(h:PGs X es t)(hn:(ĥ es X.env).length=n:=by rfl)(θ:(ĥ es X.env).findIdx? (·.1)=eS:=by rfl):PG X (.Tuple es k pos)<|SX X.K n t:=by
 intro Â s σ H v u Q I r hw;let⟨a,xs,e1,hq,hl,hw⟩:=hw;subst e1;cases r;let⟨ø,rv,ht,hz⟩:=I.tuple hq;refine assign_Tuple_tuple (I.ok.hd hc) ht (by simp[hn,<-hl,rv.length]) θ λh' hx=>?_;have I1:Inv X Â σ H {s with heap:=h'}:=I.kept (t':=s.toks) λb o e=>hx b o (ä<|Ó e) e;exact h Â _ σ H xs _ Q I1 ⇑rv hw
abbrev RK(to ti:TE)(t:CO):TG:=λv σ H Q=>to σ H λo H1=>ti σ H1 λi H2=>t o i v H2 λH3=>Q σ H3
variable {o:Expr}{i:Expr}
def Po(ho:PE X o to)(hi:PE X i ti)(hs:PSet X t)(ha:∀v,μ (.Subscript o i pos) X.env v=(do
    let ov<-Ŕ [v] (eval o X.env)
    let iv<-Ŕ [v,ov] (eval i X.env)
    ϑ pos
    Ŕ [v,ov,iv] (bc ov iv v)
    d6 [v,ov,iv] []):=by intro _;rfl):PG X (.Subscript o i pos)<|RK to ti t:=by
 intro Â s σ H v u Q I r h;rw[ha];refine À<|ē<|thn (ho Â s σ H _ I h) λov s1 ⟨x,H1,I1,r1,q1⟩=>?_;refine À<|ē<|thn (hi Â s1 σ H1 _ I1 q1) λiv s2 ⟨y,H2,I2,r2,q2⟩=>?_;refine À<|dg<|À<|ē<|thn (hs Â s2 σ H2 x y v ov iv u _ I2 r1 r2 r q2) λ_ s3 ⟨H3,I3,q3⟩=>?_;exact wpAny_release ⟨σ,H3,I3,q3⟩
abbrev Q3(te:TE)(g:TG):TS:=λD σ H=>te σ H λx H1=>g x σ H1 D.nx
def Cb(he:PE X e te)(hg:PG X tg g)(hs:ϗ [tg] e pos.line X.env=pure eV:=by rfl)(hw:Ϙ [tg] e X.env=pure eS:=by rfl)(h1:(ĥ [tg] X.env).map (·.2)=[μ tg X.env]:=by rfl):PS X (.Assign [tg] e pos)<|Q3 te g:=by
 intro Â s σ H D I h;refine wpAny_Assign_stores (thn (he Â s σ H _ I h) λv s1 ⟨x,H1,I1,r1,q1⟩=>?_) hs hw;rw[h1];exact thn (hg Â s1 σ H1 x v _ I1 r1 q1) λ_ s2 q=>q
abbrev RF(to ti te:TE)(tget:V->V->Hp->VK->Prop)(tip:TIp)(tset:CO):TS:=λD σ H=>to σ H λo H1=>ti σ H1 λi H2=>tget o i H2 λx H3=>te σ H3 λy H4=>tip x y H4 λz H5=>tset o i z H5 λH6=>D.nx σ H6
abbrev PGet(X:Cx)(t:V->V->Hp->VK->Prop):Prop :=
 ∀(Â:List<|Ì×Obj) (s:Ç) (σ:St) (H:Hp) (o i:V) (ov iv:Ã) (Q:VK),Inv X Â σ H s->RelV o ov->RelV i iv->t o i H Q->
  wpAny ↥2 X.A (ϫ ov iv) (EP X Â σ Q) X.xe s
def FK(ho:PE X o to)(hi:PE X i ti)(hg:PGet X tget)(he:PE X e te)(hp:PIp X op tip)(hs:PSet X tset)(ha:∀ov iv new,augStore i ov iv new=(do Ŕ [new,ov,iv] (bc ov iv new);d6 [new,ov,iv] [];pure .next):=by intros;rfl):PS X (.AugAssign (.Subscript o i cM) op e pos)<|RF to ti te tget tip tset:=by
 intro Â s σ H D I h;refine wpAny_AugAssign_SubscriptAny (thn (ho Â s σ H _ I h) λov s1 ⟨x1,H1,I1,r1,q1⟩=>?_) ha;refine thn (hi Â s1 σ H1 _ I1 q1) λiv s2 ⟨x2,H2,I2,r2,q2⟩=>?_;refine thn (hg Â s2 σ H2 x1 x2 ov iv _ I2 r1 r2 q2) λϛ s3 ⟨x3,H3,I3,r3,q3⟩=>?_;refine thn (he Â s3 σ H3 _ I3 q3) λv s4 ⟨x4,H4,I4,r4,q4⟩=>?_;refine thn (hp Â s4 σ H4 x3 x4 ϛ v _ I4 r3 r4 q4) λnew s5 ⟨x5,H5,I5,r5,q5⟩=>?_;exact thn (hs Â s5 σ H5 x1 x2 x5 ov iv new _ I5 r1 r2 r5 q5) λ_ s6 ⟨H6,I6,q6⟩=>⟨σ,H6,I6,q6⟩
end
structure It where
 go:Nat->Hp->Prop
 yld:Nat->Hp->V->Hp->Prop
 stop:Nat->Hp->Prop
abbrev WK(X:Cx)(Â:List<|Ì×Obj)(H:Hp)(b:Ì):Prop :=
 H b=eS/\b≠X.env.locals/\b∉X.fs/\(b∈X.ex\/X.s₀.heap.objs.size<=b)/\(∀x c,X.env.cells.lookup x=eQ c->c≠b)/\∀p∈X.pn++Â,p.1≠b
variable {s:Ç}
def Inv.fpOk{X:Cx}{Â:List (Ì×Obj)}{σ:St}{H H':Hp}{b:Ì}(I:Inv X Â σ H s)(hb:s.heap.objs.size<=b)(hn:H' b=eS):WK X Â H' b:=by
 refine⟨hn,ŉ<|é I.lt hb,I.nofs hb,.inr<|Ö I.sz hb,λx c e z=>?_,λp hp z=>?_⟩
 .obtain⟨v,q⟩:=I.cell x c e;exact gA (é q.lt<|by rw[z];exact hb)<|ğ _
 .exact gA (é (Ó (I.pin p hp).1)<|by rw[z];exact hb)<|ğ _
structure Turn(P:ç)(w:ă)(K:Frag)(tg:Expr)(J:It)(fp:List Ì)(it:Ì)(tn:Nat->Ď->Prop):Prop where
 mem:it∈fp
 obj:∀i h,tn i h->∀b∈fp,∃o,h.get? b=eQ o/\∀v,o.data≠.cell v
 keep:∀i h h',tn i h->(∀b∈fp,∀o,h.get? b=eQ o->h'.get? b=eQ o)->tn i h'
 item:∀(X:Cx),X.prog=P->X.w=w->X.K=K->X.calm=eU->∀(i:Nat) (Â:List<|Ì×Obj) (s:Ç) (σ:St) (H:Hp) (E:Ã->Ç->Prop),Inv X Â σ H s->(∀b∈fp,WK X Â H b)->tn i s.heap->J.go i H->
  wpAny (ß P w) X.A (Ε<|.ref it) (λr s1=>∃u,r=eQ u/\
    wpAny (ß P w) X.A (ϲ tg (.ref it) u) (λ_ s2=>∃x H',Inv X Â σ H' s2/\RelV x u/\J.yld i H x H'/\tn (i+1) s2.heap/\∀b∈fp,H' b=eS) E s1) E s
 done:∀(X:Cx),X.prog=P->X.w=w->X.K=K->X.calm=eU->∀(i:Nat) (Â:List<|Ì×Obj) (s:Ç) (σ:St) (H:Hp) (E:Ã->Ç->Prop),Inv X Â σ H s->(∀b∈fp,WK X Â H b)->tn i s.heap->J.stop i H->
  wpAny (ß P w) X.A (Ε<|.ref it) (λr s1=>r=eS/\Inv X Â σ H s1) E s
 self:∀(A:Đ) (i:Nat) (s:Ç) (Q:Ã->Ç->Prop) (E:Ã->Ç->Prop),tn i s.heap->Q (.ref it) s->wpAny (ß P w) A (cz<|.ref it) Q E s
noncomputable abbrev TI:=St->Hp->(It->Hp->Prop)->Prop
abbrev PIE(X:Cx)(Â:List<|Ì×Obj)(σ:St)(tg:Expr)(R:It->Hp->Prop)(itv:Ã)(s2:Ç):Prop :=
 ∃(it:Ì) (fp:List Ì) (tn:Nat->Ď->Prop) (J:It) (H':Hp),itv=.ref it/\Inv X Â σ H' s2/\Turn X.prog X.w X.K tg J fp it tn/\tn 0 s2.heap/\(∀b∈fp,WK X Â H' b)/\R J H'
abbrev PI(X:Cx)(tg iter:Expr)(wi:TI):Prop :=
 ∀(Â:List<|Ì×Obj) (s:Ç) (σ:St) (H:Hp) (R:It->Hp->Prop),Inv X Â σ H s->wi σ H R->
  wpAny ↥2 X.A (eval iter X.env) (λv s1=>wpAny ↥2 X.A (cz v) (PIE X Â σ tg R) X.xe s1) X.xe s
variable {tg:Expr}
def fb{M:Model}{A:Đ}{E:Ã->Ç->Prop}{it:Ì}{o:Obj}{n:String}{vs:Array Ã}{Q:Unit->Ç->Prop}(ho:s.heap.get? it=eQ o)(hc:o.cls=.type n)(hd:o.data=.fields vs)
  (hn:["enumerate","zip","dict_itemiterator","dict_reverseitemiterator","odict_iterator","itertools.zip_longest","itertools.pairwise"].contains n=eV) (hQ:Q () s):wpAny M A (ϲ tg (.ref it) u) Q E s:=by
 unfold ϲ;cases tg<;>first
  |exact Æ hQ
  | (cases u<;>first
      |exact Æ hQ
      | (refine À (wpAny_load ho ?_)
         rw[hc,hd]
         show wpAny M A (if(["enumerate","zip","dict_itemiterator","dict_reverseitemiterator","odict_iterator","itertools.zip_longest","itertools.pairwise"].contains n&&vs[0]? == eQ (Ġ _))=eU then _ else _) Q E s
         rw[gw<|by intro h;rw[hn,ϧ]at h;cases h]
         exact Æ hQ))
abbrev Itl(K:Frag)(a:Ì):It :=
 ⟨λi H=>∃xs x,f9 K H a xs/\xs[i]?=eQ x,λi H x H'=>H'=H/\∀xs,f9 K H a xs->xs[i]?=eQ x,λi H=>∃xs,f9 K H a xs/\xs.length<=i⟩
abbrev Itt(K:Frag)(a:Ì):It :=
 ⟨λi H=>∃xs x,gc K H a xs/\xs[i]?=eQ x,λi H x H'=>H'=H/\∀xs,gc K H a xs->xs[i]?=eQ x,λi H=>∃xs,gc K H a xs/\xs.length<=i⟩
abbrev Itr(lo:Int)(n:Nat):It:=⟨λi _=>i<n,λi H x H'=>H'=H/\x=.int (lo+i),λi _=>n<=i⟩
variable {P:ç}{w:ă}
def BO{K:Frag}(a it:Ì):Turn P w K tg (Itl K a) [it] it (λi h=>h.IsListIter it a i) where
 mem:=by simp
 obj:=λi h st b hb=>by
  have e:b=it:=⇑hb
  subst e;let⟨o,e,c,d⟩:=st;exact⟨o,e,λv z=>by rw[d]at z;cases z⟩
 keep:=λi h h' st k=>st.at λo e=>k it (by simp) o e
 item:=by k_upd;subst hP hw hK;let⟨xs,x,hq,hx⟩:=hg;let⟨ø,rv,p,hz⟩:=I.list hq;let⟨u,hu,ru⟩:=rv.get hx;let⟨f0,f1,f2,f3,f4,f5⟩:=hf it (by simp);refine wpAny_pyNext_list_item st p.isList (x:=u) ⇑hu λh' bu sb=>?_;have I1:Inv X Â σ H {s with heap:=h'}:=I.turned (t':=s.toks) (λb o hb e=>(sb.2 b hb).trans e) f0 f1 f3 f4 f5;let⟨o,e,c,d⟩:=id bu;exact⟨u,rfl,fb (s:={s with heap:=h'}) e c d ↥1 ⟨x,H,I1,ru,⟨rfl,λys hy=>by rw[I.list_inj hy hq];exact hx⟩,bu,λb hb=>(hf b hb).1⟩⟩
 done:=by k_upd;subst hP hw hK;let⟨xs,hq,hx⟩:=hg;let⟨ø,rv,p,hz⟩:=I.list hq;let⟨f0,f1,f2,f3,f4,f5⟩:=hf it (by simp);have hl:=rv.length;exact wpAny_pyNext_list_end (I.ok.hd hc) st p.isList (by simp;lia) λh' eb=>⟨rfl,I.turned (t':=s.toks) (λb o hb e=>eb b o hb e) f0 f1 f3 f4 f5⟩
 self:=λ_ _ _ _ _ st h=>wpAny_pyIter_listiter st h
def Ut{K:Frag}(a it:Ì):Turn P w K tg (Itt K a) [it] it (λi h=>h.IsTupleIter it a i) where
 mem:=by simp
 obj:=λi h st b hb=>by
  have e:b=it:=⇑hb
  subst e;let⟨o,e,c,d⟩:=st;exact⟨o,e,λv z=>by rw[d]at z;cases z⟩
 keep:=λi h h' st k=>st.at λo e=>k it (by simp) o e
 item:=by k_upd;subst hP hw hK;let⟨xs,x,hq,hx⟩:=hg;let⟨ø,rv,p,hz⟩:=I.tuple hq;let⟨u,hu,ru⟩:=rv.get hx;let⟨f0,f1,f2,f3,f4,f5⟩:=hf it (by simp);refine wpAny_pyNext_tuple_item st (show s.heap.IsTuple a ø.toArray from p) (x:=u) ⇑hu λh' bu sb=>?_;have I1:Inv X Â σ H {s with heap:=h'}:=I.turned (t':=s.toks) (λb o hb e=>(sb.2 b hb).trans e) f0 f1 f3 f4 f5;let⟨o,e,c,d⟩:=id bu;exact⟨u,rfl,fb (s:={s with heap:=h'}) e c d ↥1 ⟨x,H,I1,ru,⟨rfl,λys hy=>by rw[I.tuple_inj hy hq];exact hx⟩,bu,λb hb=>(hf b hb).1⟩⟩
 done:=by k_upd;subst hP hw hK;let⟨xs,hq,hx⟩:=hg;let⟨ø,rv,p,hz⟩:=I.tuple hq;let⟨f0,f1,f2,f3,f4,f5⟩:=hf it (by simp);have hl:=rv.length;exact wpAny_pyNext_tuple_end (I.ok.hd hc) st (show s.heap.IsTuple a ø.toArray from p) (by simp;lia) λh' eb=>⟨rfl,I.turned (t':=s.toks) (λb o hb e=>eb b o hb e) f0 f1 f3 f4 f5⟩
 self:=λ_ _ _ _ _ st h=>wpAny_pyIter_tupleiter st h
def Um{K:Frag}(it:Ì)(lo:Int)(n:Nat):Turn P w K tg (Itr lo n) [it] it (λi h=>IsRangeIter h it (lo+(i:Nat)*1) ((n:Int) - (i:Nat)) 1) where
 mem:=by simp
 obj:=λi h st b hb=>by
  have e:b=it:=⇑hb
  subst e;exact⟨_,st,λv z=>by
    have z':Data.fields _=Data.cell v:=z
    cases z'⟩
 keep:=λi h h' st k=>k it (by simp) _ st
 item:=by k_upd;subst hP hw hK;let⟨f0,f1,f2,f3,f4,f5⟩:=hf it (by simp);have W:=Walks.range (prog:=X.prog) (w:=X.w) (I.ok.hd hc) it lo 1 n;refine W.item i s _ _ hg st λv h' tk hv bu kk=>?_;let⟨t,rfl⟩:=hv;have I1:Inv X Â σ H {s with heap:=h',toks:=tk}:=I.turned (λb o hb e=>kk b o ⇑hb e) f0 f1 f3 f4 f5;refine⟨_,rfl,fb (s:={s with heap:=h',toks:=tk}) (n:="range_iterator") bu rfl rfl ↥1 ⟨.int<|lo+i,H,I1,⟨t,?_⟩,⟨rfl,rfl⟩,bu,λb hb=>(hf b hb).1⟩⟩;rw[Int.mul_one]
 done:=by k_upd;subst hP hw hK;let⟨f0,f1,f2,f3,f4,f5⟩:=hf it (by simp);exact wpAny_pyNext_range_end (I.ok.hd hc) st (by have:n<=i:=hg;lia) λh' eb=>⟨rfl,I.turned (t':=s.toks) (λb o hb e=>eb b o hb e) f0 f1 f3 f4 f5⟩
 self:=λ_ _ _ _ _ st h=>wpAny_pyIter_rangeiter st h
section
variable {X:Cx}{tg:Expr}
variable {Â:List (Ì×Obj)}{σ:St}{H:Hp}{s:Ç}
def Dy{R:It->Hp->Prop}{E:Ã->Ç->Prop}{lo hi:Int}{t u v:Tok}{tk:Nat}(I:Inv X Â σ H s)(h1:-(2 ^ 62)<=lo)(h2:lo<2 ^ 62)(h3:-(2 ^ 62)<=hi)(h4:hi<2 ^ 62)
  (q:R (Itr lo (hi - lo).toNat) H):wpAny ↥2 X.A (cz<|.ref s.heap.objs.size) (PIE X Â σ tg R) E {s with heap:=s.heap.push {cls:=.type "range",data:=.fields #[.int lo t,.int hi u,.int 1 v]},toks:=tk}:=by
 refine wpAny_pyIter_range (IsRange.new ..) (small_one h1 h2 h3 h4) ?_;have I1:Inv X Â σ H { s with heap:=s.heap.push { cls:=.type "range",data:=.fields #[.int lo t,.int hi u,.int 1 v] },toks:=tk }:=I.kept λb o e=>Ä _ e;refine⟨(s.heap.push { cls:=.type "range",data:=.fields #[.int lo t,.int hi u,.int 1 v] }).objs.size,[(s.heap.push { cls:=.type "range",data:=.fields #[.int lo t,.int hi u,.int 1 v] }).objs.size],_,_,H,rfl,
   I1.kept (t':=tk) λb o e=>Ä _ e,Um _ lo (hi - lo).toNat,?_,λb hb=>?_,q⟩
 .have e1:lo+((0:Nat):Int)*1=lo:=by simp
  have e2:(((hi - lo).toNat:Nat):Int) - ((0:Nat):Int)=Builtin.Range.rangeSize lo hi 1:=by rw[rangeSize_one];split<;>lia
  show IsRangeIter _ _ (lo+((0:Nat):Int)*1) ((((hi - lo).toNat:Nat):Int) - ((0:Nat):Int)) 1;rw[e1,e2];exact Ò _ rfl
 .have e:b=(s.heap.push {cls:=.type "range",data:=.fields #[.int lo t,.int hi u,.int 1 v]}).objs.size:=⇑hb
  subst e;exact I1.fpOk (Ï _)<|I1.hok.fresh<|Ï _
abbrev QX(ta:TA):TI:=λσ H R=>ta σ H λvs H1=>∃j:Int,vs=[.int j]/\-(2 ^ 62)<=j/\j<2 ^ 62/\R (Itr 0 j.toNat) H1
variable {pos:Pos}
def AH{a:Expr}{p:Pos}(hg:Gl X "range")(hm:X.mg "range" = eS)(ha:PA X [a] ta)(hs:à [a] X.env=[(eV,eval a X.env)]:=by rfl):PI X tg (.Call (.Name "range" p) [a] [] pos)<|QX ta:=by
 intro Â s σ H R I h;refine Call_<|Y6 I hg hm boot_range<|PyProof.Rows.callWith_type1 (thn (ha pos Â s σ H _ I h) λus s1 ⟨vs,H1,I1,r1,q1⟩=>?_) hs rfl;let⟨j,e,q1,q2,q⟩:=q1;subst e;cases r1 with
 |cons r rr =>cases rr;let⟨t,rfl⟩:=r;exact call_range_1 (Dy I1 ↥0 ↥0 q1 q2<|by simpa using q)
abbrev Tr(wi:TI)(g:TG)(tb:TS):TS:=λD σ H=>wi σ H λJ H1=>∃W:Nat->Nat->St->Hp->Prop,(∃m,W 0 m σ H1)/\∀i m σ H,W i m σ H->
 (J.stop i H/\D.nx σ H)\/(J.go i H/\∃N:St->Hp->Prop,(∀ů H',N ů H'->∃m',m'<m/\W (i+1) m' ů H')/\∀x H',J.yld i H x H'->g x σ H' λσ2 H2=>tb {D with nx:=N,ct:=N,bk:=D.nx} σ2 H2)
abbrev XZ(fp:List Ì)(h:Ď):List<|Ì×Obj:=fp.filterMap λb=>(h.get? b).map λo=>(b,o)
variable {h:Ď}
def ZY{b:Ì}{o:Obj}(hb:b∈fp)(e:h.get? b=eQ o):(b,o)∈XZ fp h:=ω.mpr ⟨b,hb,by rw[e];rfl⟩
def Ml(hp:p∈XZ fp h):p.1∈fp/\h.get? p.1=eQ p.2:=by
 let⟨b,hb,e⟩:=ω.mp hp;cases q:h.get? b with
 |none=>rw[q]at e;cases e
 |some o =>rw[q]at e;have e':(b,o)=p:=ð e;subst e';exact⟨hb,q⟩
def Inv.pinned(I:Inv X Â σ H s)(hf:∀b∈fp,WK X Â H b)(ho:∀b∈fp,∃o,s.heap.get? b=eQ o/\∀v,o.data≠.cell v):Inv X (Â++XZ fp s.heap) σ H s :=
 I.pins_of λp hp=>(ê.mp hp).elim (λz=>I.pin p<|Ê _ z) λz=>by let⟨hb,e⟩:=Ml z;let⟨f0,f1,f2,_⟩:=hf p.1 hb;let⟨o,e',d⟩:=ho p.1 hb;rw[e]at e';cases e';exact⟨e,f0,f1,f2,d⟩
def Inv.unpinned(I:Inv X (Â++pl) σ H s):Inv X Â σ H s:=I.pins_of λp hp=>I.pin p (Ê _<|Ü _ hp)
def CN{iter:Expr}(hp:al ↥2 X.A X.env X.xe)(hc:X.calm=eU)(hi:PI X tg iter wi)(hg:PG X tg g)(hb:PSs X body tb)(hs:∀x,ġ iter X.env x=pure x:=by intro _;rfl):PS X (.For tg iter body [] pos)<|Tr wi g tb:=by
 intro Â s σ H D I h;refine wpAny_For (thn (hi Â s σ H _ I h) λv s1 h1=>thn h1 λitv s2 h2=>?_) hs;let⟨it,fp,tn,J,H2,e,I2,T,st2,f2,W,⟨m0,w0⟩,turn⟩:=h2;subst e;have stat:∀{H':Hp},(∀b∈fp,H' b=eS)->∀b∈fp,WK X Â H' b:=λhn b hb=>⟨hn b hb,(f2 b hb).2⟩
 refine codeAny_forLoop_any (λn s'=>∃i ů H',Inv X Â ů H' s'/\tn i s'.heap/\(∀b∈fp,H' b=eS)/\W i n ů H') ?_ m0 ⟨0,σ,H2,I2,st2,λb hb=>(f2 b hb).1,w0⟩;rintro n s3 ⟨i,σ3,H3,I3,st3,fr3,w3⟩;rcases turn i n σ3 H3 w3 with⟨stop,qn⟩|⟨go,N,hN,step⟩
 .refine Ζ hp<|thn (T.done X rfl rfl rfl hc i Â s3 σ3 H3 X.xe I3 (stat fr3) st3 stop) λr s4 ⟨hr,I4⟩=>?_;subst hr;exact wpAny_execs_nil ⟨σ3,H3,I4,qn⟩
 .refine Ζ hp<|thn (T.item X rfl rfl rfl hc i Â s3 σ3 H3 X.xe I3 (stat fr3) st3 go) λr s4 ⟨u,hr,h4⟩=>?_;subst hr;refine Ζ hp<|thn h4 λ_ s5 ⟨x,H5,I5,r5,y5,st5,fr5⟩=>?_;have I5':=I5.pinned (stat fr5)<|T.obj _ _ st5;refine Ζ hp<|thn (hg _ s5 σ3 H5 x u _ I5' r5<|step x H5 y5) λ_ s6 ⟨σ6,H6,I6,q6⟩=>?_;refine Ζ hp<|thn (hb _ s6 σ6 H6 _ I6 q6) λf s7 q7=>?_;have again:∀{bI:St}{H7:Hp},Inv X (Â++XZ fp s5.heap) bI H7 s7->N bI H7->∃m,m<n/\∃i ů H',Inv X Â ů H' s7/\tn i s7.heap/\(∀b∈fp,H' b=eS)/\W i m ů H':=λ{bI H7} I7 n7=>by
   let⟨m',hm,w7⟩:=hN bI H7 n7;refine⟨m',hm,i+1,bI,H7,I7.unpinned,T.keep _ _ _ st5 λb hb o e=>(I7.pin (b,o)<|Ê _<|Ê _<|ZY hb e).1,λb hb=>?_,w7⟩;let⟨o,e,d⟩:=T.obj _ _ st5 b hb;exact(I7.pin (b,o)<|Ê _<|Ê _<|ZY hb e).2.1
  cases f with
  |next=>let⟨bI,H7,I7,n7⟩:=q7;exact again I7 n7
  |cont=>let⟨bI,H7,I7,n7⟩:=q7;exact again I7 n7
  |brk=>let⟨bI,H7,I7,q7⟩:=q7;exact⟨bI,H7,I7.unpinned,q7⟩
  |ret v=>let⟨x7,bI,H7,I7,r7,q7⟩:=q7;exact⟨x7,bI,H7,I7.unpinned,r7,q7⟩
end
noncomputable abbrev R2:=V->V->Hp->VK->Prop
abbrev OpR(X:Cx)(f:Ã->Ã->Sem Ã)(r:R2):Prop :=
 ∀(Â:List<|Ì×Obj) (s:Ç) (σ:St) (H:Hp) (x y:V) (v u:Ã) (Q:VK),Inv X Â σ H s->RelV x v->RelV y u->r x y H Q->
  wpAny ↥2 X.A (f v u) (EP X Â σ Q) X.xe s
abbrev UnR(X:Cx)(f:Ã->Sem Ã)(r:V->Hp->VK->Prop):Prop :=
 ∀(Â:List<|Ì×Obj) (s:Ç) (σ:St) (H:Hp) (x:V) (v:Ã) (Q:VK),Inv X Â σ H s->RelV x v->r x H Q->
  wpAny ↥2 X.A (f v) (EP X Â σ Q) X.xe s
abbrev ff(X:Cx)(f:Ã)(r:List V->Hp->VK->Prop):Prop :=
 ∀(Â:List<|Ì×Obj) (s:Ç) (σ:St) (H:Hp) (xs:List V) (us:List Ã) (Q:VK),Inv X Â σ H s->gf xs us->r xs H Q->
  wpAny ↥2 X.A (call f us) (EP X Â σ Q) X.xe s
abbrev Tu(X:Cx)(r:V->Hp->(Bool->Hp->Prop)->Prop):Prop :=
 ∀(Â:List<|Ì×Obj) (s:Ç) (σ:St) (H:Hp) (x:V) (v:Ã) (Q:Bool->Hp->Prop),Inv X Â σ H s->RelV x v->r x H Q->
  wpAny ↥2 X.A (truthy v) (TP X Â σ Q) X.xe s
abbrev tOp(r:R2)(ta tb:TE):TE:=λσ H Q=>ta σ H λx H1=>tb σ H1 λy H2=>r x y H2 Q
abbrev tUn(r:V->Hp->VK->Prop)(ta:TE):TE:=λσ H Q=>ta σ H λx H1=>r x H1 Q
abbrev rI(C:Int->Int->Prop)(g:Int->Int->V):R2:=λx y H Q=>∃i j,x=.int i/\y=.int j/\C i j/\Q (g i j) H
abbrev rI0(g:Int->Int->V):R2:=λx y H Q=>∃i j,x=.int i/\y=.int j/\Q (g i j) H
abbrev rU(g:Int->V):V->Hp->VK->Prop:=λx H Q=>∃i,x=.int i/\Q (g i) H
section
variable {X:Cx}{a b c:Expr}{ta tb:TE}{pos:Pos}
variable {f:Ã->Ã->Sem Ã}
def Pu(ha:PE X a ta)(hb:PE X b tb){Â:List (Ì×Obj)}{s:Ç}{σ:St}{H:Hp}{R:V->V->Hp->Prop}(I:Inv X Â σ H s)
  (h:ta σ H λx H1=>tb σ H1 λy H2=>R x y H2){Q:Ã->Ç->Prop} 
  (hf:∀v u s2 x y H2,Inv X Â σ H2 s2->RelV x v->RelV y u->R x y H2->wpAny ↥2 X.A (f v u) Q X.xe s2) :
  wpAny ↥2 X.A (eval a X.env) (λv ħ=>wpAny ↥2 X.A (eval b X.env) (λu b7=>wpAny ↥2 X.A (f v u) Q X.xe b7) X.xe ħ) X.xe s:=by
 refine thn (ha Â s σ H _ I h) λv s1 ⟨x,H1,I1,r1,q1⟩=>?_;refine thn (hb Â s1 σ H1 _ I1 q1) λu s2 ⟨y,H2,I2,r2,q2⟩=>?_;exact hf v u s2 x y H2 I2 r1 r2 q2
def R9(ho:OpR X (ō op) r)(ha:PE X a ta)(hb:PE X b tb):PE X (.BinOp a op b pos)<|tOp r ta tb:=by k_sub;exact wpAny_BinOp (Pu ha hb I h λv u s2 x y H2 I2 rx ry q=>ho Â s2 σ H2 x y v u Q I2 rx ry q)
def Ii(ho:UnR X (unaryOp op) r)(ha:PE X a ta):PE X (.UnaryOp op a pos)<|tUn r ta:=by k_sub;exact UnaryOp_ (thn (ha Â s σ H _ I h) λv s1 ⟨x,H1,I1,r1,q1⟩=>ho Â s1 σ H1 x v Q I1 r1 q1)
variable {g:Int->Int->Int}
def opI(rule:∀(i j:Int) (t u:Tok) (s:Ç) (Q:Ã->Ç->Prop) (E:Ã->Ç->Prop),C i j->Q (.int (g i j) s.toks) {s with toks:=s.toks+1}->wpAny ↥2 X.A (f (.int i t)<|.int j u) Q E s) :
  OpR X f (rI C λi j=>.int<|g i j):=by
 k_ne;let⟨i,j,rfl,rfl,hc,q⟩:=h;let⟨t,rfl⟩:=rx;let⟨t',rfl⟩:=ry;exact rule i j t t' s _ _ hc ⟨.int<|g i j,H,I.tok _,⟨_,rfl⟩,q⟩
def Si(rule:∀(i j:Int) (t u:Tok) (s:Ç) (Q:Ã->Ç->Prop) (E:Ã->Ç->Prop),Q (.int (g i j) s.toks) {s with toks:=s.toks+1}->wpAny ↥2 X.A (f (.int i t)<|.int j u) Q E s) :
  OpR X f (rI0 λi j=>.int<|g i j):=by
 k_ne;let⟨i,j,rfl,rfl,q⟩:=h;let⟨t,rfl⟩:=rx;let⟨t',rfl⟩:=ry;exact rule i j t t' s _ _ ⟨.int<|g i j,H,I.tok _,⟨_,rfl⟩,q⟩
def FF{g:Int->Int->Bool}
  (rule:∀(i j:Int) (t u:Tok) (s:Ç) (Q:Ã->Ç->Prop) (E:Ã->Ç->Prop),Q (.bool<|g i j) s->wpAny ↥2 X.A (f (.int i t)<|.int j u) Q E s) :
  OpR X f (rI0 λi j=>.bl<|g i j):=by
 k_ne;let⟨i,j,rfl,rfl,q⟩:=h;let⟨t,rfl⟩:=rx;let⟨t',rfl⟩:=ry;exact rule i j t t' s _ _ ⟨.bl<|g i j,H,I,rfl,q⟩
abbrev So(i j:Int):Prop:=0<j/\j<1073741824
abbrev RQ(i j:Int):Prop:=0<=j/\j<=1000000/\i.natAbs<2 ^ 64
def op_add:OpR X (ō .Add)<|rI0 λi j=>.int<|i+j:=Si λ_ _ _ _ _ _ _ q=>add_int q
def Pc:OpR X (ō .Sub)<|rI0 λi j=>.int<|i - j:=Si λ_ _ _ _ _ _ _ q=>sub_int q
def HD:OpR X (ō .FloorDiv)<|rI So λi j=>.int<|i / j:=opI λi j _ _ _ _ _ hc q=>by have h1:(0:Int)<j:=hc.1;have h2:j<1073741824:=hc.2;exact floordiv_int ↥0 (by rw[Int.fdiv_eq_ediv_of_nonneg i<|by lia];exact q) (.inl<|PyProof.noPylong_small<|by lia)
def Qi:OpR X (ō .Mod)<|rI (λ_ j=>0<j) λi j=>.int<|i % j:=opI λi j _ _ _ _ _ hc q=>by have h1:(0:Int)<j:=hc;exact mod_int' ↥0 (by rw[Int.fmod_eq_emod_of_nonneg i<|by lia];exact q)
def IR:OpR X (ō .Pow)<|rI RQ λi j=>.int<|i ^ j.toNat:=opI λ_ _ _ _ _ _ _ hc q=>pow_int_small hc.1 hc.2.1 hc.2.2 q
def unI{f:Ã->Sem Ã}{g:Int->Int}
  (rule:∀(i:Int) (t:Tok) (s:Ç) (Q:Ã->Ç->Prop) (E:Ã->Ç->Prop),Q (.int (g i) s.toks) {s with toks:=s.toks+1}->wpAny ↥2 X.A (f<|.int i t) Q E s) :
  UnR X f (rU λi=>.int<|g i):=by
 intro Â s σ H x v Q I rx h;let⟨i,rfl,q⟩:=h;let⟨t,rfl⟩:=rx;exact rule i t s _ _ ⟨.int<|g i,H,I.tok _,⟨_,rfl⟩,q⟩
def Da:UnR X (unaryOp .USub)<|rU λi=>.int (-i):=unI λ_ _ _ _ _ q=>neg_int q
end
section
variable {X:Cx}{a b c:Expr}{ta:TE}{pos:Pos}
def Ps{Â:List (Ì×Obj)}{σ:St}{H:Hp}{s:Ç}{Q:VK}{k k':Bool}(I:Inv X Â σ H s)(q:Q (.bl k) H)(e:k=k'):EP X Â σ Q (.bool k') s:=by subst e;exact⟨.bl k,H,I,rfl,q⟩
def op_lt:OpR X (ñ .Lt)<|rI0 λi j=>.bl<|gB (i<j):=FF λ_ _ _ _ _ _ _ q=>lt_int q
def RE:OpR X (ñ .LtE)<|rI0 λi j=>.bl<|gB (i<=j):=FF λ_ _ _ _ _ _ _ q=>le_int q
def op_gt:OpR X (ñ .Gt)<|rI0 λi j=>.bl<|gB (j<i):=FF λ_ _ _ _ _ _ _ q=>gt_int q
def RZ:OpR X (ñ .GtE)<|rI0 λi j=>.bl<|gB (j<=i):=FF λ_ _ _ _ _ _ _ q=>ge_int q
def AS:OpR X (ñ .In) λx y H Q=>∃i j,x=.str i/\y=.str j/\Q (.bl (!(Builtin.Str.occurrences j i 0 j.length 1).isEmpty)) H:=by k_ne;let⟨i,j,rfl,rfl,q⟩:=h;let⟨t,rfl⟩:=rx;let⟨t',rfl⟩:=ry;exact in_str (Ps I q rfl)
variable {r:R2}
def OpR.or(h:OpR X f r)(h':OpR X f r'):OpR X f λx y H Q=>r x y H Q\/r' x y H Q:=by
 intro Â s σ H x y v u Q I rx ry q;rcases q with q|q
 .exact h Â s σ H x y v u Q I rx ry q
 .exact h' Â s σ H x y v u Q I rx ry q
def U5(ho:OpR X (ñ op) r)(ha:PE X a ta)(hb:PE X b tb)(hm:ŀ op b=eV):PE X (.Compare a [op] [b] pos)<|tOp r ta tb:=by k_sub;exact wpAny_Compare1 (Pu ha hb I h λv u s2 x y H2 I2 rx ry q=>ho Â s2 σ H2 x y v u Q I2 rx ry q) hm
abbrev HU(t:TE):TT:=λσ H Q=>t σ H λx H'=>∃k,x=.bl k/\Q k H'
def UZ(ho:OpR X (ñ op) r)(ha:PE X a ta)(hb:PE X b tb)(hm:ŀ op b=eV):PT X (.Compare a [op] [b] pos)<|HU<|tOp r ta tb:=by
 k_sub;refine wpAny_isTrue_Compare1 (thn (ha Â s σ H _ I h) λv s1 ⟨x,H1,I1,r1,q1⟩=>thn (hb Â s1 σ H1 _ I1 q1) λu s2 ⟨y,H2,I2,r2,q2⟩ =>
   thn (ho Â s2 σ H2 x y v u _ I2 r1 r2 q2) λc s3 ⟨z,H3,I3,r3,k,e,q3⟩=>?_) hm
 subst e;cases r3;exact ė ⟨H3,I3,q3⟩
abbrev DJ(r r':R2)(ta tb tc:TE):TE:=λσ H Q=>ta σ H λx H1=>tb σ H1 λy H2=>r x y H2 λz H3=>∃k,z=.bl k/\
 (if k=eU then tc σ H3 λw' H4=>r' y w' H4 Q else Q (.bl eV) H3)
def Cd(ho:OpR X (ñ op) r)(aF:OpR X (ñ du) r')(ha:PE X a ta)(hb:PE X b tb)(hc:PE X c tc)(hm:bC [op,du] [b,c]=eV:=by with_unfolding_all rfl):PE X (.Compare a [op,du] [b,c] pos)<|DJ r r' ta tb tc:=by
 k_sub;refine Compare_chain (thn (ha Â s σ H _ I h) λv s1 ⟨x,H1,I1,r1,q1⟩=>chain_link (thn (hb Â s1 σ H1 _ I1 q1) λu s2 ⟨y,H2,I2,r2,q2⟩ =>
   thn (ho Â s2 σ H2 x y v u _ I2 r1 r2 q2) λd s3 ⟨z,H3,I3,r3,k,e,q3⟩=>?_)) hm
 subst e;cases r3;refine ė ?_;cases k with
 |false=>exact ite_ff ⟨.bl eV,H3,I3,rfl,q3⟩
 |true=>exact ite_tt<|chain_last<|thn (hc Â s3 σ H3 _ I3 q3) λw' s4 ⟨z',H4,I4,r4,q4⟩=>aF Â s4 σ H4 y z' u w' Q I4 r2 r4 q4
def DE(ho:OpR X (ñ op) r)(aF:OpR X (ñ du) r')(ha:PE X a ta)(hb:PE X b tb)(hc:PE X c tc)(hm:bC [op,du] [b,c]=eV:=by with_unfolding_all rfl):PT X (.Compare a [op,du] [b,c] pos)<|HU<|DJ r r' ta tb tc:=by
 k_sub;refine isTrue_chain (thn (ha Â s σ H _ I h) λv s1 ⟨x,H1,I1,r1,q1⟩=>test_link (thn (hb Â s1 σ H1 _ I1 q1) λu s2 ⟨y,H2,I2,r2,q2⟩ =>
   thn (ho Â s2 σ H2 x y v u _ I2 r1 r2 q2) λd s3 ⟨z,H3,I3,r3,k,e,q3⟩=>?_)) hm
 subst e;cases r3;refine ė ?_;cases k with
 |false =>let⟨k',e',q'⟩:=q3;cases e';exact ite_ff ⟨H3,I3,q'⟩
 |true =>refine ite_tt<|test_last<|thn (hc Â s3 σ H3 _ I3 q3) λw' s4 ⟨z',H4,I4,r4,q4⟩=>thn (aF Â s4 σ H4 y z' u w' _ I4 r2 r4 q4) λd' s5 ⟨z2,H5,I5,r5,k2,e2,q5⟩=>?_;subst e2;cases r5;exact ė ⟨H5,I5,q5⟩
abbrev RC(K:Frag)(x:V)(H:Hp)(k:Bool):Prop :=
 match x with
 |.non=>k=eV
 |.bl b=>k=b
 |.int i=>k=(i != 0)
 |.str y=>y.length<=Þ/\k=((y.length:Int) != 0)
 |.byt y=>y.size<=Þ/\k=((y.size:Int) != 0)
 |.ref p=>(∃xs,f9 K H p xs/\k=!xs.isEmpty)\/(∃xs,gc K H p xs/\k=!xs.isEmpty)\/∃kvs,H p=eQ (.dK kvs)/\k=!kvs.isEmpty
 |_=>False
def OQ{κ:Type}{kvs:List (κ×V)}{vs:List (κ×Ã)}(r:KV kvs vs):(!vs.isEmpty)=!kvs.isEmpty:=by cases r<;>rfl
def Ka(r:gf xs ø):(!ø.toArray.isEmpty)=!xs.isEmpty:=by cases r<;>simp
def Y4:(Þ:Nat)<2 ^ 63:=by rw[ac];decide
def P5:Tu X λx H Q=>∃k,RC X.K x H k/\Q k H:=by
 intro Â s σ H x v Q I rx h;let⟨k,e,q⟩:=h;have hl:=Y4;have hs:Þ=16777216:=ac;cases x with
 |non =>cases rx;have e':k=eV:=e;subst e';exact truthy_none ⟨H,I,q⟩
 |bl b =>cases rx;have e':k=b:=e;subst e';exact ė ⟨H,I,q⟩
 |int i =>let⟨t,rfl⟩:=rx;have e':k=(i != 0):=e;subst e';exact PySem.P.truthy_int ⟨H,I,q⟩
 |str y =>let⟨t,rfl⟩:=rx;obtain⟨hy,e'⟩:y.length<=Þ/\k=((y.length:Int) != 0):=e;subst e';exact PySem.P.truthy_str ↥0 ⟨H,I.tok _,q⟩
 |byt y =>let⟨t,rfl⟩:=rx;obtain⟨hy,e'⟩:y.size<=Þ/\k=((y.size:Int) != 0):=e;subst e';exact PySem.W.truthy_bytes ↥0 ⟨H,I.tok _,q⟩
 |ref p =>
  cases rx;have e':(∃xs,f9 X.K H p xs/\k=!xs.isEmpty)\/(∃xs,gc X.K H p xs/\k=!xs.isEmpty)\/∃kvs,H p=eQ (.dK kvs)/\k=!kvs.isEmpty:=e;rcases e' with⟨xs,hx,e'⟩|⟨xs,hx,e'⟩|⟨kvs,hx,e'⟩
  .subst e';let⟨ø,r,pl,hz⟩:=I.list hx;have hlen:=r.length;exact wpAny_truthy_list pl.isList (by simp![Î];lia) ⟨H,I.tok _,by rw[Ka r];exact q⟩
  .subst e';let⟨ø,r,pl,hz⟩:=I.tuple hx;have hlen:=r.length;exact truthy_tuple pl (by simp![Î];lia) ⟨H,I.tok _,by rw[Ka r];exact q⟩
  .subst e';obtain⟨hz,hS,vs,r,m⟩:kvs.length<=Þ/\(p==Ĵ)=eV/\∃vs,KV kvs vs/\s.heap.DictOf (Zc X.prog X.w) p vs:=I.hok p _ hx;have hlen:kvs.length=vs.length:=Paired.length r;exact wpAny_truthy_dict hS m ↥0 ⟨H,I.tok _,by rw[OQ r];exact q⟩
 |_=>exact(show False from e).elim
def CT(ha:PE X a ta)(he:∀aO,cx a X.env aO=(do let v<-aO;ϑ a.pos;Ŕ [v] (truthy v))) :
  PT X a (λσ H Q=>ta σ H λx H'=>∃k,RC X.K x H' k/\Q k H'):=by
 k_sub;exact isTrue_plain (thn (ha Â s σ H _ I h) λv s1 ⟨x,H1,I1,r1,q1⟩=>P5 Â s1 σ H1 x v Q I1 r1 q1)<|he _
def UJ:OpR X (ō .Add) λx y H Q=>∃i j,x=.str i/\y=.str j/\i.length+j.length<=Þ/\Q (.str<|i++j) H:=by k_ne;let⟨i,j,rfl,rfl,hz,q⟩:=h;let⟨t,rfl⟩:=rx;let⟨t',rfl⟩:=ry;exact add_str (λt' tk=>⟨.str<|i++j,H,I.tok _,⟨_,rfl⟩,q⟩) hz
variable {x:V}{us:List Ã}
def ZN(r:gf [x] us):∃u,us=[u]/\RelV x u:=by
 cases r with
 |cons r1 r2=>cases r2;exact⟨_,rfl,r1⟩
def II(r:gf [x,y] us):∃u w',us=[u,w']/\RelV x u/\RelV y w':=by
 cases r with
 |cons r1 r2 =>
  cases r2 with
  |cons r3 r4=>cases r4;exact⟨_,_,rfl,r1,r3⟩
def call_int1:ff X (.type "int") λxs H Q=>(∃i,xs=[.int i]/\Q (.int i) H)\/∃k,xs=[.bl k]/\Q (.int<|if k then 1 else 0) H:=by
 k_put;rcases h with⟨i,rfl,q⟩|⟨k,rfl,q⟩
 .obtain⟨u,rfl,t,rfl⟩:=ZN r;exact call_int_int ⟨.int i,H,I,⟨_,rfl⟩,q⟩
 .obtain⟨u,rfl,r1⟩:=ZN r;cases r1;exact call_int_bool ⟨.int (if k then 1 else 0),H,I.tok _,⟨_,rfl⟩,q⟩
end
structure ObjM(h:Ď)(x dx C:Ì)(mA:Str->Option Ã):Prop where
 obj:h.get? x=eQ (PySem.W.instObj C dx)
 ns:h.Ns1 dx mA
 ne:dx≠x
variable {h:Ď}{dx:Ì}{mA:Str->Option Ã}
def BH(n:h.Ns1 dx mA):∃od,h.get? dx=eQ od/\∀name,PySem.W.lookIn name od=eQ (mA name):=by
 let⟨o,es,ep,ho,hd,hk,_,hm⟩:=n;refine⟨o,ho,λname=>?_⟩;have e:=hm name;unfold nsFind findBy at e;rw[<-Array.find?_toList]at e;unfold PySem.W.lookIn;rw[hd];dsimp only;split
 .rename_i y q;rw[q]at e;exact congrArg eQ e
 .rename_i q;rw[q]at e;have a:es.toList.any (·.refKey)=eV:=by
   rw[List.any_eq_false];intro y hy;let⟨z,t,bJ⟩:=hk y<|Array.mem_toList_iff.mp hy;simp[DictEntry.refKey,bJ]
  have a':¬ es.toList.any (·.refKey)=eU:=by rw[a];exact û
  rw[gw a'];exact congrArg eQ e
variable {C:Ì}
def ObjM.look{x:Ì}(I:ObjM h x dx C mA):∃od,PySem.W.InstAt h x (PySem.W.instObj C dx) C (eQ od)/\∀name,PySem.W.lookIn name od=eQ (mA name) :=
 let ⟨od,ho,hl⟩:=BH I.ns
 ⟨od,⟨I.obj,rfl,rfl,ho⟩,hl⟩
section
variable {prog:ç}{w:ă}{A:Đ}{E:Ã->Ç->Prop}{K:Frag}{x C f:Ì}{name:Str}{v:Ã}
def FI(X:K.In s.heap)(I:ObjM s.heap x dx C mA)(hg:PySem.W.plainGet K C name=eU)(hh:PySem.W.hasDictIn K C=eU)(ha:PySem.W.findIn K (.ref C) name=eQ eS)(hv:mA name=eQ v)(hv':PySem.W.handedIn v=eU)(h:Q v {s with toks:=s.toks+1}) :
  wpAny (ß prog w) A (getAttr (.ref x) name expr) Q E s:=by
 let⟨od,J,hl⟩:=I.look;exact PySem.W.get_value X J (PySem.W.plainGet_of hg).1 (PySem.W.findObj_own hh ha rfl<|by rw[hl,hv]) hv' h
def C5(X:K.In s.heap)(I:ObjM s.heap x dx C mA)(hg:PySem.W.plainGet K C name=eU)(hf:PySem.W.findIn K (.ref C) name=eQ (eQ<|.ref f))(ht:PySem.W.isFn K (.ref f)=eU)(hv:mA name=eS)(h:Q (.ref f,[.ref x]) s) :
  wpAny (ß prog w) A (Ϡ (.ref x) name pl) Q E s:=by
 let⟨od,J,hl⟩:=I.look;exact PySem.W.method_fn X J (PySem.W.plainGet_of hg).1 (PySem.W.plainGet_of hg).2 hf (beq_iff_eq.mp ht) (by show(PySem.W.lookIn name od).map (·.isSome)=eQ eV;rw[hl,hv];rfl) h
def HC(X:K.In s.heap)(I:ObjM s.heap x dx C mA)(hs:PySem.W.findIn K (.ref C) "__setattr__" = eQ (eQ<|.builtin "object.__setattr__"))(hp:PySem.W.plainOver K C=eU)(ht:PySem.W.takerIn K C name=eQ eS)(hh:PySem.W.hasDictIn K C=eU)(hw:PySem.Within mA ns)(hsz:ns.length<=Þ)(h:∀h',ObjM h' x dx C (λy=>if y=name then eQ v else mA y)->Ň dx s.heap h'->Q () {s with heap:=h',toks:=s.toks+2}) :
  wpAny (ß prog w) A (setAttr (.ref x) name v) Q E s:=by
 let⟨od,J,hl⟩:=I.look;refine PySem.W.set_plain X J hs<|PySem.W.osa_open (s:={s with toks:=s.toks+1}) (r:=eS) X J hp ht λb=>?_;let⟨cd,hc,hd'⟩:=PySem.W.any_some hh;have hx:s.heap.get? x=eQ ⟨.ref C,eQ dx,.plain,#[]⟩:=I.obj;refine À<|Æ<|À<|À<|wpAny_loadPart hx<|À<|PySem.W.Looks.here (s:={s with toks:=s.toks+1}) (PySem.W.looks_clsIn X hc) ?_;rw[hd'];refine Æ (a:=eQ dx)<|À<|Æ<|À ?_;refine wpAny_nsSet1 (s:={s with toks:=s.toks+1}) I.ns λh' hn2 hs2=>?_;let⟨oD,esD,epD,hoD,hdD,hcD⟩:=hn2.count<|PySem.Within.cons name v hw;refine À (wpAny_lookBehind hoD (by rw[hdD];exact pastItsLine_dict<|Ö hcD<|by rw[Ð];lia) ?_);exact Æ<|h _ ⟨(hs2.2 _<|Ne.symm I.ne).trans I.obj,hn2,I.ne⟩ hs2
def Fb(X:K.In s.heap)(hm:PySem.W.makesIn K C=eU)(hi:PySem.W.findIn K (.ref C) "__init__" = eQ (eQ<|.ref f))(hf:PySem.W.typeIn K (.ref f)=eQ (.type "function"))(h:codeAny (ß prog w) (A.under<|.builtin "type.__call__" ⟨.ref C::vs,kw⟩) (.call (.ref f) ⟨.ref (s.heap.objs.size+1)::vs,kw⟩) (PySem.W.InitBack (s.heap.objs.size+1) R)
    { s with heap:=(s.heap.push PySem.W.emptyDict).push (PySem.W.instObj C s.heap.objs.size) }) :
  codeAny (ß prog w) A (.call (.ref C) ⟨vs,kw⟩) R s:=by
 let⟨hh,g,d,t,os⟩:=s;exact PySem.W.make_core (PySem.W.makes_of X hm) (PySem.W.looks_findIn X hi) (λself=>PySem.W.bind_fn X self hf) (.inl rfl) h
end
abbrev fq(f:Str)(v:V):List (Str×V)->List (Str×V)
 |[]=>[(f,v)]
 |(g,x)::r=>if g=f then(g,v)::r else(g,x)::fq f v r
def WQ(f g:Str)(v:V):∀fs:List<|Str×V,(fq f v fs).lookup g=if g=f then eQ v else fs.lookup g
 |[]=>by
  show ζ g [(f,v)]=_;by_cases h:g=f
  .have hb:(g==f)=eU:=beq_iff_eq.mpr h;simp![ζ,hb,gu h]
  .have hb:(g==f)=eV:=beq_eq_false_iff_ne.mpr h;simp![ζ,hb,gw h]
 |(k,x)::r=>by
  have ih:=WQ f g v r;rw[show fq f v ((k,x)::r)=(if k=f then(k,v)::r else(k,x)::fq f v r) from rfl];by_cases hk:k=f
  .rw[gu hk];by_cases h:g=k
   .have hb:(g==k)=eU:=beq_iff_eq.mpr h;simp![ζ,hb,gu<|h.trans hk]
   .have hb:(g==k)=eV:=beq_eq_false_iff_ne.mpr h;simp![ζ,hb,gw λe:g=f=>h<|e.trans hk.symm]
  .rw[gw hk];by_cases h:g=k
   .have hb:(g==k)=eU:=beq_iff_eq.mpr h;simp![ζ,hb,gw λe:g=f=>hk<|h.symm.trans e]
   .have hb:(g==k)=eV:=beq_eq_false_iff_ne.mpr h;simp![ζ,hb];exact ih
def WM(f:Str)(v:V):∀fs:List<|Str×V,f∈(fq f v fs).map (·.1)/\∀g,g∈fs.map (·.1)->g∈(fq f v fs).map (·.1)
 |[]=>⟨by simp[fq],λg h=>by simp at h⟩
 |(k,x)::r=>by
  let⟨i1,i2⟩:=WM f v r;rw[show fq f v ((k,x)::r)=(if k=f then(k,v)::r else(k,x)::fq f v r) from rfl];by_cases hk:k=f
  .rw[gu hk];subst hk;exact⟨by simp,λg h=>⇑h⟩
  .rw[gw hk];refine⟨?_,λg h=>?_⟩
   .rw[Ñ];exact Ø _ i1
   .rw[Ñ]at h ⊢;rcases Å.mp h with e|e
    .exact Å.mpr<|.inl e
    .exact Ø _<|i2 g e
def WV(f:Str)(v:V):∀fs:List<|Str×V,(fq f v fs).length<=fs.length+1
 |[]=>by simp[fq]
 |(k,x)::r=>by
  have ih:=WV f v r;rw[show fq f v ((k,x)::r)=(if k=f then(k,v)::r else(k,x)::fq f v r) from rfl];by_cases hk:k=f
  .rw[gu hk,Ð,Ð];lia
  .rw[gw hk,Ð,Ð];lia
variable {o:Option Ã}
def fE.some_of(r:fE (eQ v) o):∃u,o=eQ u/\RelV v u:=by
 cases o with
 |none=>exact(show False from r).elim
 |some u=>exact⟨u,rfl,r⟩
def fE.none_of(r:fE eS o):o=eS:=by
 cases o with
 |none=>rfl
 |some u=>exact(show False from r).elim
variable {u:Ã}
def A1(r:RelV v u):PySem.W.handedIn u=eU:=by
 cases v with
 |non=>cases (show u=Value.none from r);rfl
 |bl b=>cases (show u=Value.bool b from r);rfl
 |int i=>let⟨t,e⟩:=(show ∃t,u=Value.int i t from r);cases e;rfl
 |str x=>let⟨t,e⟩:=(show ∃t,u=Value.str x t from r);cases e;rfl
 |byt b=>let⟨t,e⟩:=(show ∃t,u=Value.bytes b t from r);cases e;rfl
 |flt b=>let⟨t,e⟩:=(show ∃t,u=Value.float b t from r);cases e;rfl
 |ref a=>cases (show u=Value.ref a from r);rfl
 |ty n=>cases (show u=Value.type n from r);rfl
section
variable {w:ă}{h h':Ď}{a C dx:Ì}{fs:List (Str×V)}
def W8(hok:HOk P w H h)(e:H a=eQ (.ins C dx fs)):∃mA,ObjM h a dx C mA/\(∀f,fE (fs.lookup f)<|mA f)/\PySem.Within mA (fs.map (·.1))/\fs.length<=1000/\H dx=eQ (.own a):=by
 let⟨d,z,ne,ob,mA,n,r,q⟩:=(show fg P w H h a (.ins C dx fs) from hok a _ e)
 exact⟨mA,⟨ob,n,ne⟩,r,q,z,d⟩
end
structure Cls(K:Frag)(C:Ì):Prop where
 pg:PySem.W.plainGet K C Str.empty=eU
 hd:PySem.W.hasDictIn K C=eU
 po:PySem.W.plainOver K C=eU
 sa:PySem.W.findIn K (.ref C) "__setattr__" = eQ (eQ<|.builtin "object.__setattr__")
def Cls.get{K:Frag}(c:Cls K C)(f:Str):PySem.W.plainGet K C f=eU:=c.pg
abbrev NoAttr(K:Frag)(C:Ì)(f:Str):Prop:=PySem.W.findIn K (.ref C) f=eQ eS
def NoAttr.taker{K:Frag}(n:NoAttr K C f):PySem.W.takerIn K C f=eQ eS:=by unfold PySem.W.takerIn;rw[show PySem.W.findIn K (.ref C) f=eQ eS from n];rfl
structure Meth(K:Frag)(C:Ì)(m:Str)(f:Ì):Prop where
 at_:PySem.W.findIn K (.ref C) m=eQ (eQ<|.ref f)
 fn:PySem.W.isFn K (.ref f)=eU
 kp:PySem.W.keepIn K (.ref f)=eU
section
variable {X:Cx}{Â:List (Ì×Obj)}{σ:St}{H:Hp}{s:Ç}{a C dx:Ì}{fs:List (Str×V)}{f:Str}{v:V}{A:Đ}{E:Ã->Ç->Prop}
variable {Q:Ã->Ç->Prop}
def JR{b:Bool}(I:Inv X Â σ H s)(e:H a=eQ (.ins C dx fs))(c:Cls X.K C)(n:NoAttr X.K C f)(l:fs.lookup f=eQ v)(h:∀u s',Inv X Â σ H s'->RelV v u->Q u s'):wpAny ↥2 A (getAttr (.ref a) f b) Q E s:=by
 let⟨mA,O,r,_,_,_⟩:=W8 I.hok e;let⟨u,hu,ru⟩:=fE.some_of (v:=v) (o:=mA f) (by rw[<-l];exact r f);exact FI I.kIn O (c.get f) c.hd n hu (A1 ru)<|h u _ (I.tok _) ru
def Jq{m:Str}{g:Ì}{pl:Sem Bool}{Q:Ã×List Ã->Ç->Prop}(I:Inv X Â σ H s)(e:H a=eQ (.ins C dx fs))(c:Cls X.K C)(k:Meth X.K C m g)(l:fs.lookup m=eS)
  (h:Q (.ref g,[.ref a]) s):wpAny ↥2 A (Ϡ (.ref a) m pl) Q E s:=by
 let⟨mA,O,r,_,_,_⟩:=W8 I.hok e;have hn:mA m=eS:=fE.none_of (by rw[<-l];exact r m);exact C5 I.kIn O (c.get m) k.at_ k.fn hn h
def Ko{y:V}{Q:Unit->Ç->Prop}(I:Inv X Â σ H s)(e:H a=eQ (.ins C dx fs))(c:Cls X.K C)(n:NoAttr X.K C f)(hl:fs.length<1000)(ry:RelV y u)
  (h:∀s',Inv X Â σ (upd H a<|.ins C dx<|fq f y fs) s'->Q () s'):wpAny ↥2 A (setAttr (.ref a) f u) Q E s:=by
 let⟨mA,O,r,wi,_,ho⟩:=W8 I.hok e;have hz:(fs.map (·.1)).length<=Þ:=by rw[Á,ac];lia
 refine HC I.kIn O c.sa c.po n.taker c.hd wi hz λh' O' sb=>h _ ?_;have hd:∃o,h'.get? dx=eQ o:=let ⟨o,_,_,e',_⟩:=O'.ns;⟨o,e'⟩;refine I.write (x:=a) (e:=dx) (by rw[e];exact True.intro) (.inr ho) (λb q hb z=>(sb.2 b hb).trans z) hd ?_;refine⟨by rw[eW O.ne];exact ho,?_,O.ne,O'.obj,_,O'.ns,λg=>?_,λg hg=>?_⟩
 .have:=WV f y fs;lia
 .show fE ((fq f y fs).lookup g) (if g=f then eQ u else mA g);rw[WQ];by_cases q:g=f
  .rw[gu q,gu q];exact ry
  .rw[gw q,gw q];exact r g
 .by_cases q:g=f
  .rw[q];exact(WM f y fs).1
  .refine(WM f y fs).2 g<|wi g λz=>hg ?_;show(if g=f then eQ u else mA g)=eS;rw[gw q];exact z
def Inv.made(I:Inv X Â σ H s):Inv X Â σ (upd (upd H s.heap.objs.size<|.own<|s.heap.objs.size+1) (s.heap.objs.size+1)<|.ins C s.heap.objs.size [])
  {s with heap:=(s.heap.push PySem.W.emptyDict).push (PySem.W.instObj C s.heap.objs.size)}:=by
 have e1:(s.heap.push PySem.W.emptyDict).get? s.heap.objs.size=eQ PySem.W.emptyDict:=Ò s.heap rfl;have e2:((s.heap.push PySem.W.emptyDict).push<|PySem.W.instObj C s.heap.objs.size).get? (s.heap.objs.size+1)=eQ (PySem.W.instObj C s.heap.objs.size):=by
  have:=Ò (s.heap.push PySem.W.emptyDict) (o:=PySem.W.instObj C s.heap.objs.size) rfl
  rwa [Ť]at this
 have e3:(s.heap.push PySem.W.emptyDict).Ns s.heap.objs.size λ_=>eS:=⟨PySem.W.emptyDict,#[],_,e1,rfl,(λe he=>gA he<|by simp),λ_=>rfl⟩
 have I1:=I.laid (a:=s.heap.objs.size) (o:=.own<|s.heap.objs.size+1) (h':=s.heap.push PySem.W.emptyDict) (t':=s.toks) (λb u q=>Ä _ q) (Ï _) ⟨_,e1⟩;refine I1.laid (a:=s.heap.objs.size+1) (o:=.ins C s.heap.objs.size []) (t':=s.toks) (λb u q=>Ä _ q) (Nat.le_of_eq<|Ť _ _) ?_;have ne:s.heap.objs.size≠s.heap.objs.size+1:=ä<|Ě _;refine⟨by rw[eW ne,eX],ģ _,ne,e2,λ_=>eS,(Heap.Ns1.of_empty e3).at λo q=>Ä _ q,λ_=>True.intro,λy hy=>gA rfl hy⟩
def Hi(hb:Ĭ e f env (eval e env)=eval e env)(h:wpAny (ß prog w) A (eval e env) (λo ħ=>wpAny (ß prog w) A (getAttr o f eU) Q E ħ) E s):wpAny (ß prog w) A (eval (.Attribute e f pos) env) Q E s :=
 Attribute_any_ h (by rw[arm_eval_Attribute,hb])
end
abbrev SO(K:Frag)(ta:TE)(f:Str):TE:=λσ H Q=>ta σ H λx H1=>∃a C dx fs v,x=.ref a/\H1 a=eQ (.ins C dx fs)/\Cls K C/\NoAttr K C f/\fs.lookup f=eQ v/\Q v H1
abbrev Tf(K:Frag)(ta tv:TE)(f:Str):TS:=λD σ H=>tv σ H λy H1=>ta σ H1 λx H2=>∃a C dx fs,x=.ref a/\H2 a=eQ (.ins C dx fs)/\Cls K C/\NoAttr K C f/\fs.length<1000/\
 D.nx σ (upd H2 a<|.ins C dx<|fq f y fs)
abbrev Cm(X:Cx)(op:ϟ)(rd:V->V->Hp->VK->Prop):Prop :=
 ∀(Â:List<|Ì×Obj) (s:Ç) (σ:St) (H:Hp) (x y:V) (u v:Ã) (Q:VK),Inv X Â σ H s->RelV x u->RelV y v->rd x y H Q->wpAny ↥2 X.A (inplaceOp op u v) (EP X Â σ Q) X.xe s
abbrev GW(K:Frag)(ta tv:TE)(rd:V->V->Hp->VK->Prop)(f:Str):TS:=λD σ H=>ta σ H λx H1=>∃a C dx fs v,x=.ref a/\H1 a=eQ (.ins C dx fs)/\Cls K C/\NoAttr K C f/\fs.lookup f=eQ v/\
 tv σ H1 λy H2=>rd v y H2 λz H3=>∃dx' fs',H3 a=eQ (.ins C dx' fs')/\fs'.length<1000/\D.nx σ (upd H3 a<|.ins C dx'<|fq f z fs')
section
variable {X:Cx}{o e ρ:Expr}{f:Str}{pos bH cM:Pos}{ta:TE}
def Qj(he:PE X e ta)(hb:Ĭ e f X.env (eval e X.env)=eval e X.env):PE X (.Attribute e f pos)<|SO X.K ta f:=by k_sub;refine Hi hb<|thn (he Â s σ H _ I h) λu s1 ⟨x,H1,I1,rx,a,C,dx,fs,v,ex,ea,c,n,l,q⟩=>?_;subst ex;obtain rfl:u=Value.ref a:=rx;exact JR I1 ea c n l λu' s2 I2 ru=>⟨v,H1,I2,ru,q⟩
def Pm(ha:PE X o ta)(hv:PE X ρ tv)(hs:ź ρ (eQ<|.Attribute o f bH) pos.line X.env=pure eV):PS X (.Assign [.Attribute o f bH] ρ pos)<|Tf X.K ta tv f:=by intro Â s σ H D I h;refine plainObj_wpAny_Assign_Attribute (thn (hv Â s σ H _ I h) λu s1 ⟨y,H1,I1,ry,q⟩=>thn (ha Â s1 σ H1 _ I1 q) λov s2 ⟨x,H2,I2,rx,a,C,dx,fs,ex,ea,c,n,l,q2⟩=>?_) hs;subst ex;obtain rfl:ov=Value.ref a:=rx;exact Ko I2 ea c n l ry λs3 I3=>⟨σ,_,I3,q2⟩
def AR(ha:PE X o ta)(hv:PE X ρ tv)(hop:Cm X op rd):PS X (.AugAssign (.Attribute o f cM) op ρ pos)<|GW X.K ta tv rd f:=by intro Â s σ H D I h;refine wpAny_AugAssign_AttributeAny<|thn (ha Â s σ H _ I h) λov s1 ⟨x,H1,I1,rx,a,C,dx,fs,v,ex,ea,c,n,l,q⟩=>?_;subst ex;obtain rfl:ov=Value.ref a:=rx;refine JR I1 ea c n l λu s2 I2 ru=>thn (hv Â s2 σ H1 _ I2 q) λw3 s3 ⟨y,H2,I3,ry,q3⟩=>thn (hop Â s3 σ H2 v y u w3 _ I3 ru ry q3) λw4 s4 ⟨z,H3,I4,rz,dx',fs',ea',l',q4⟩=>?_;exact Ko I4 ea' c n l' rz λs5 I5=>⟨σ,_,I5,q4⟩
abbrev S2:V->V->Hp->VK->Prop:=λx y H Q=>∃i j,x=.int i/\y=.int j/\Q (.int<|i+j) H
abbrev SR:V->V->Hp->VK->Prop:=λx y H Q=>∃i j,x=.int i/\y=.int j/\Q (.int<|i - j) H
def L3:Cm X .Add S2:=by
 rintro Â s σ H x y u v Q I rx ry ⟨i,j,rfl,rfl,q⟩;let⟨t,rfl⟩:=(show ∃t,u=Value.int i t from rx)
 let⟨t',rfl⟩:=(show ∃t',v=Value.int j t' from ry)
 exact PyProof.Rows.iadd_int ⟨.int<|i+j,H,I.tok _,⟨_,rfl⟩,q⟩
def Qh:Cm X .Sub SR:=by
 rintro Â s σ H x y u v Q I rx ry ⟨i,j,rfl,rfl,q⟩;let⟨t,rfl⟩:=(show ∃t,u=Value.int i t from rx)
 let⟨t',rfl⟩:=(show ∃t',v=Value.int j t' from ry)
 exact PyProof.Rows.isub_int ⟨.int<|i - j,H,I.tok _,⟨_,rfl⟩,q⟩
end
section
variable {X:Cx}{Â:List (Ì×Obj)}{σ:St}{H:Hp}{s:Ç}{A:Đ}{E:Ã->Ç->Prop}{Q:Ã->Ç->Prop}{c:Ã}{b:Bool}
inductive fZ (K:Frag) (H:Hp):V->Ã->Prop where
 |non:fZ K H .non<|.type "NoneType"
 |bl (x:Bool):fZ K H (.bl x)<|.type "bool"
 |int (i:Int):fZ K H (.int i)<|.type "int"
 |str (x:Str):fZ K H (.str x)<|.type "str"
 |flt (x:UInt64):fZ K H (.flt x)<|.type "float"
 |lst {a:Ì}{xs:List V}(e:H a=eQ (.lst xs)):fZ K H (.ref a)<|.type "list"
 |frz {a:Ì}{o:Obj}{xs:List V}(e:H a=eQ (.frz o<|.lst xs)):fZ K H (.ref a)<|.type "list"
 |tup {a:Ì}{xs:List V}(e:H a=eQ (.tup xs)):fZ K H (.ref a)<|.type "tuple"
 |dK {a:Ì}{kvs:List (Key×V)}(e:H a=eQ (.dK kvs)):fZ K H (.ref a)<|.type "dict"
 |dT {a:Ì}{kvs:List (List Key×V)}(e:H a=eQ (.dT kvs)):fZ K H (.ref a)<|.type "dict"
 |ins {a C dx:Ì}{fs:List (Str×V)}(e:H a=eQ (.ins C dx fs)) (cl:Cls K C) (ha:PySem.W.findIn K (.ref C) "__class__" = eQ (eQ<|.builtin "object.__class__"))
   (hn:PySem.W.specialIn K (.builtin "object.__class__") "__get__" = eQ (eQ<|.builtin "getset_descriptor.__get__")) (htk:PySem.W.takesIn K (.builtin "object.__class__")=eQ eU)
   (hm:PySem.W.mroIn K C (.type "object")=eQ eU):fZ K H (.ref a)<|.ref C
def B1(I:Inv X Â σ H s)(rx:RelV x u)(ty:fZ X.K H x t)(e:PySem.W.kitOne X.K t c=eQ b)(h:∀tk,Q (.bool b) {s with toks:=tk}) :
  wpAny ↥2 A (call (.builtin "isinstance") [u,c]) Q E s:=by
 cases ty with
 |non=>cases (show u=Value.none from rx);exact PySem.W.kia_one PySem.W.kitx_none I.kIn True.intro e (λz=>nomatch z) h
 |bl y=>cases (show u=Value.bool y from rx);exact PySem.W.kia_one PySem.W.kitx_bool I.kIn True.intro e (λz=>nomatch z) h
 |int i=>let⟨t,q⟩:=(show ∃t,u=Value.int i t from rx);cases q;exact PySem.W.kia_one PySem.W.kitx_int I.kIn True.intro e (λz=>nomatch z) h
 |str y=>let⟨t,q⟩:=(show ∃t,u=Value.str y t from rx);cases q;exact PySem.W.kia_one PySem.W.kitx_str I.kIn True.intro e (λz=>nomatch z) h
 |flt y=>let⟨t,q⟩:=(show ∃t,u=Value.float y t from rx);cases q;exact PySem.W.kia_one PySem.W.kitx_float I.kIn True.intro e (λz=>nomatch z) h
 |@lst a xs ea =>
  cases (show u=Value.ref a from rx);let⟨_,_,n,_,h1⟩:=(show fg X.prog X.w H s.heap a (.lst xs) from I.hok a _ ea)
  exact PySem.W.kia_one PySem.W.kitx_list I.kIn ⟨_,h1,rfl⟩ e (λz=>nomatch z) h
 |@frz a ob xs ea =>
  cases (show u=Value.ref a from rx);let⟨_,_,_,n,_,h1⟩:=(show fg X.prog X.w H s.heap a (.frz ob<|.lst xs) from I.hok a _ ea)
  exact PySem.W.kia_one PySem.W.kitx_list I.kIn ⟨_,h1,rfl⟩ e (λz=>nomatch z) h
 |@tup a xs ea =>
  cases (show u=Value.ref a from rx);let⟨_,_,_,p⟩:=(show fg X.prog X.w H s.heap a (.tup xs) from I.hok a _ ea)
  let⟨o,h1,h2,_⟩:=p;exact PySem.W.kia_one PySem.W.kitx_tuple I.kIn ⟨o,h1,h2⟩ e (λz=>nomatch z) h
 |@dK a kvs ea =>
  cases (show u=Value.ref a from rx);let⟨_,_,vs,_,p⟩:=(show fg X.prog X.w H s.heap a (.dK kvs) from I.hok a _ ea)
  let⟨o,es,ep,h1,h2,_⟩:=p;exact PySem.W.kia_one PySem.W.kitx_dict I.kIn ⟨o,h1,h2.1⟩ e (λz=>nomatch z) h
 |@dT a kvs ea =>
  cases (show u=Value.ref a from rx);let⟨_,_,xs,_,o,es,ep,h1,h2,_⟩:=(show fg X.prog X.w H s.heap a (.dT kvs) from I.hok a _ ea)
  exact PySem.W.kia_one PySem.W.kitx_dict I.kIn ⟨o,h1,h2.1⟩ e (λz=>nomatch z) h
 |@ins a C dx fs ea cl ha hn htk hm =>cases (show u=Value.ref a from rx);let⟨mA,O,_⟩:=W8 I.hok ea;let⟨od,J,_⟩:=O.look;exact PySem.W.kia_one (PySem.W.kitx_own (cl.get _) cl.hd ha hn htk hm) I.kIn J e (λz=>nomatch z) h
end
structure fG(k:Nat)(A:Đ):Prop where
 hd:A.handled=eS
 dp:A.depth+3*k+5<recursionLimit
 un:A.units+16*k+200<Ģ
variable {A:Đ}
def fG.mono(r:fG k A)(h:j<=k):fG j A:=⟨r.hd,by have:=r.dp;lia,by have:=r.un;lia⟩
def fG.deeper(r:fG (k+1) A)(env:Env):fG k (A.deeper env) :=
 ⟨r.hd,by have:=r.dp;show A.depth+1+3*k+5<_;lia,by have:=r.un;show A.units+3+16*k+200<_;lia⟩
variable {C:Ì}{us:List Ã}{kw:List (Str×Ã)}
def OZ:(A.under<|.builtin "type.__call__" ⟨.ref C::us,kw⟩).depth=A.depth+1:=by
 first|rfl|simp[bN,Code.weight,Code.isCreation,Code.isGuard,Code.isCaller,Code.frames,b8,guardIds]
def Uz:(A.under<|.builtin "type.__call__" ⟨.ref C::us,kw⟩).units=A.units+1:=by
 first|rfl|simp[bN,Code.cUnits,Code.frames,b8]
def fG.make(r:fG (k+1) A)(C:Ì)(us:List Ã)(kw:List<|Str×Ã):fG k (A.under<|.builtin "type.__call__" ⟨.ref C::us,kw⟩) :=
 ⟨r.hd,by have:=r.dp;rw[OZ];lia,by have:=r.un;rw[Uz];lia⟩
def fG.depth(r:fG k A):A.depth<recursionLimit:=by have:=r.dp;lia
abbrev HP:TA:=λ_ H Q=>Q [] H
abbrev IJ(ta:TE)(tr:TA):TA:=λσ H Q=>ta σ H λx H1=>tr σ H1 λxs H2=>Q (x::xs) H2
section
variable {X:Cx}{e:Expr}{es:List Expr}{t:TA}{pos:Pos}
def f7:PA X [] HP:=λ_ _ _ _ H Q I h=>Calls.spliced_nil ⟨[],H,I,.nil,h⟩
def YE(ha:PE X e te)(hr:PA X es t)(hs:à (e::es) X.env=(eV,eval e X.env)::à es X.env:=by rfl):PA X (e::es)<|IJ te t:=by intro pos Â s σ H Q I h;rw[hs];show wpAny _ _ (spliced<|(eV,eval e X.env)::Ī pos (à es X.env)) _ _ s;refine Calls.spliced_cons<|thn (ha Â s σ H _ I h) λu s1 ⟨x,H1,I1,r1,q1⟩=>?_;exact thn (hr pos Â s1 σ H1 _ I1 q1) λus s2 ⟨xs,H2,I2,r2,q2⟩=>⟨x::xs,H2,I2,.cons r1 r2,q2⟩
abbrev SS(t:TA):TE:=λσ H Q=>t σ H λxs H1=>xs.length<=Þ/\∀p,H1 p=eS->Q (.ref p) (upd H1 p<|.tup xs)
abbrev TB(t:TA):TE:=λσ H Q=>t σ H λxs H1=>xs.length<=Þ/\∀p,H1 p=eS->Q (.ref p) (upd H1 p<|.lst xs)
def Dx{x1}(h:PA X es t):PE X (.Tuple es x1 pos)<|SS t:=by intro Â s σ H Q I hq;refine wpAny_Tuple_spliced (thn (h pos Â s σ H _ I hq) λus s1 ⟨xs,H1,I1,r,z,q⟩=>⟨by rw[<-r.length];exact z,?_⟩);have hf:H1 s1.heap.objs.size=eS:=I1.hok.fresh<|Ï _;refine⟨.ref s1.heap.objs.size,upd H1 s1.heap.objs.size<|.tup xs,I1.laid (t':=s1.toks) (λb u e=>Ä _ e) (Ï _) ?_,rfl,q _ hf⟩;exact⟨z,us,r,⟨_,Ò _ rfl,rfl,_,rfl⟩⟩
def Pp(h:PA X es t):PE X (.List es pos)<|TB t:=by intro Â s σ H Q I hq;refine wpAny_List_spliced (thn (h pos Â s σ H _ I hq) λus s1 ⟨xs,H1,I1,r,z,q⟩=>⟨by rw[<-r.length];exact z,?_⟩);have hf:H1 s1.heap.objs.size=eS:=I1.hok.fresh<|Ï _;refine⟨.ref s1.heap.objs.size,upd H1 s1.heap.objs.size<|.lst xs,I1.laid (t':=s1.toks) (λb u e=>Ä _ e) (Ï _) ?_,rfl,q _ hf⟩;exact⟨z,us,0,r,Ò _ rfl⟩
end
noncomputable abbrev Sp:=List V->Hp->VK->XK->Prop
noncomputable abbrev CXT:=List Env->Hp->Ç->XK->Ã->Ç->Prop
structure Env0(P:ç)(w:ă)(K:Frag)(mg:Str->Option Ã)(base:Ď)(A:Đ)(outer:List Env)(s:Ç)(H:Hp):Prop where
 frames:A.frames=eQ outer
 mod:Mod K mg base
 bs:∀b o,base.get? b=eQ o->s.heap.get? b=eQ o/\H b=eS
 bsz:base.objs.size<=s.heap.objs.size
 funs:s.heap.FunFrames base outer
 frf:∀b∈frs outer,H b=eS
 hok:HOk P w H s.heap
 bare:Ϗ s.gens
abbrev CE(outer:List Env)(P:ç)(w:ă)(H:Hp)(s:Ç)(Q:VK)(u:Ã)(s':Ç):Prop :=
 ∃v H',s'.os=s.os/\Ϗ s'.gens/\Un (frs outer) [] H H' s.heap s'.heap/\HOk P w H' s'.heap/\RelV v u/\Q v H'
abbrev CR(CX:CXT)(outer:List Env)(P:ç)(w:ă)(H:Hp)(s:Ç)(Q:VK)(E:XK)(r:bD)(s':Ç):Prop :=
 match r with
 |.ok (.ret u)=>CE outer P w H s Q u s'
 |.ok _=>False
 |.error e=>CX outer H s E e s'
structure fH(P:ç)(w:ă)(K:Frag)(mg:Str->Option Ã)(base:Ď)(CX:CXT)(k:Nat)(f:Ì)(fd:Ŏ)(ps:List Str)(sp:Sp):Prop where
 len:∀vs H Q E,sp vs H Q E->vs.length=ps.length
 run:∀(A:Đ) (outer:List Env) (s:Ç) (H:Hp) (args:Args) (us:List Ã) (vs:List V) (Q:VK) (E:XK),fG k A->Env0 P w K mg base A outer s H->BindsTo s fd args (ps.zip us)->gf vs us->sp vs H Q E->
  codeAny (ß P w) A (.call (.ref f) args) (CR CX outer P w H s Q E) s
variable {w:ă}{mg:Str->Option Ã}{base:Ď}{s:Ç}{H:Hp}
def Env0.make{K:Frag}(e:Env0 P w K mg base A outer s H)(C:Ì)(us:List Ã)(kw:List<|Str×Ã) :
  Env0 P w K mg base (A.under<|.builtin "type.__call__" ⟨.ref C::us,kw⟩) outer s H:=⟨by first|exact e.frames|(simpa[bN,Code.envs,b8,pushEnvs]using e.frames),e.mod,e.bs,e.bsz,e.funs,e.frf,e.hok,e.bare⟩
section
variable {X:Cx}{Â:List (Ì×Obj)}{σ:St}{H:Hp}{s s':Ç}
def Inv.env0(I:Inv X Â σ H s):Env0 X.prog X.w X.K X.mg X.base X.A X.stack s H :=
 ⟨I.ok.frames,I.ok.mod,I.bs,Ö I.ok.bsz I.sz,I.stack,I.stkFree,I.hok,I.bare⟩
def Inv.after(I:Inv X Â σ H s)(h:CE X.stack X.prog X.w H s Q u s'):EP X Â σ Q u s':=by let⟨v,H',os,bare,un,hok,r,q⟩:=h;let⟨hh,g,d,t,os'⟩:=s';obtain rfl:os'=s.os:=os;exact⟨v,H',I.call (h':=hh) (g':=g) (d':=d) (t':=t) (ch:=[]) un hok bare λb z=>gA z<|by simp,r,q⟩
end
abbrev Ia(sp:Sp)(aQ:List V)(E:XK)(t:TA):TE:=λσ H Q=>t σ H λvs H1=>sp (vs++aQ) H1 Q E
abbrev Ig(C:Ì)(m:Str)(sp:Sp)(aQ:List V)(E:XK)(ta:TE)(t:TA):TE:=λσ H Q=>ta σ H λx H1=>∃a dx fs,x=.ref a/\H1 a=eQ (.ins C dx fs)/\fs.lookup m=eS/\
 t σ H1 λvs H2=>sp (x::(vs++aQ)) H2 Q E
abbrev RJ(C:Ì)(sp:Sp)(aQ:List V)(E:XK)(t:TA):TE:=λσ H Q=>t σ H λvs H1=>∀x dx,H1 x=eS->H1 dx=eS->dx≠x->
 sp (.ref x::(vs++aQ)) (upd (upd H1 dx<|.own x) x<|.ins C dx []) (λv H2=>v=.non/\Q (.ref x) H2) E
abbrev Binds(K:Frag)(fd:Ŏ)(ps:List Str)(ds:List Ã):Prop :=
 ∀(s:Ç) (us:List Ã),K.In s.heap->(us++ds).length=ps.length->BindsTo s fd ⟨us,[]⟩ (ps.zip<|us++ds)
variable {ps:List Str}
def Binds.all{K:Frag}(h:∀us:List Ã,us.length=ps.length->bindArgs fd ⟨us,[]⟩=pure (ps.zip us)):Binds K fd ps []:=λs us _ hl=>by rw[ć]at hl ⊢;exact .of_eq (h us hl)
abbrev Xn(CX:CXT)(X:Cx)(E:XK):Prop:=∀(Â:List<|Ì×Obj) (σ:St) (H:Hp) (s:Ç) (e:Ã) (s':Ç),Inv X Â σ H s->CX X.stack H s E e s'->X.xe e s'
section
variable {X:Cx}{CX:CXT}{k:Nat}{f C:Ì}{fd:Ŏ}{ps:List Str}{sp:Sp}{aQ:List V}{ds:List Ã}{E:XK}{x m:Str}{p pos œ:Pos}{e o:Expr}{es:List Expr}{ta:TE}{t:TA}
variable {Â:List (Ì×Obj)}{σ:St}{Q:VK}{vs:List V}
def M0(F:fH X.prog X.w X.K X.mg X.base CX k f fd ps sp)(hr:fG k X.A)(hb:Binds X.K fd ps ds)(hd:gf aQ ds)(hx:Xn CX X E)(I:Inv X Â σ H s)(r:gf vs us)(h:sp (vs++aQ) H Q E):wpAny ↥2 X.A (call (.ref f) us) (EP X Â σ Q) X.xe s:=by
 have r2:gf (vs++aQ)<|us++ds:=r.append hd;have hl:(us++ds).length=ps.length:=by rw[<-r2.length];exact F.len _ _ _ _ h
 refine wpAny_call<|ż (F.run X.A X.stack s H ⟨us,[]⟩ (us++ds) (vs++aQ) Q E hr I.env0 (hb s us I.kIn hl) r2 h) λr s' hq=>?_;cases r with
 |error e=>exact hx Â σ H s e s' I hq
 |ok fl =>
  cases fl with
  |ret u=>exact I.after hq
  |next=>exact Ŋ hq
  |brk=>exact Ŋ hq
  |cont=>exact Ŋ hq
def Ga(F:fH X.prog X.w X.K X.mg X.base CX k f fd ps sp)(hr:fG k X.A)(hg:Gl X x)(hm:X.mg x=eQ (.ref f))(hk:PySem.W.keepIn X.K (.ref f)=eU)(hb:Binds X.K fd ps ds)(hd:gf aQ ds)(hx:Xn CX X E)(ha:PA X (e::es) t)(cN:(x==("__debug__" : Str))=eV:=by decide)(he:à (e::es) X.env=(eV,eval e X.env)::à es X.env:=by rfl)(hpl:(Ī pos<|à es X.env).any (·.1)=eV:=by rfl) :
  PE X (.Call (.Name x p) (e::es) [] pos) (Ia sp aQ E t):=by
 k_sub;refine Ķ<|Jf I hg hm ?_ cN;refine PySem.W.callWith_K (h₀:=X.base) I.ok.mod.kin hk (thn (ha pos Â s σ H _ I h) λus s1 ⟨vs,H1,I1,r,q⟩=>⟨I1.kIn,?_⟩) he hpl;exact M0 F hr hb hd hx I1 r q
def DU(F:fH X.prog X.w X.K X.mg X.base CX k f fd ps sp)(hr:fG k X.A)(hg:Gl X x)(hm:X.mg x=eQ (.ref f))(hk:PySem.W.keepIn X.K (.ref f)=eU)(hb:Binds X.K fd ps ds)(hd:gf aQ ds)(hx:Xn CX X E)(cN:(x==("__debug__" : Str))=eV:=by decide):PE X (.Call (.Name x p) [] [] pos)<|Ia sp aQ E HP:=by
 k_sub;refine Ķ<|Jf I hg hm ?_ cN;exact PySem.W.callWith_K0 I.kIn hk<|M0 (us:=[]) F hr hb hd hx I .nil h
def GI(he:PE X o ta)(c:Cls X.K C)(hm:Meth X.K C m f)(F:fH X.prog X.w X.K X.mg X.base CX k f fd ps sp)(hr:fG k X.A)(hb:Binds X.K fd ps ds)(hd:gf aQ ds)(hx:Xn CX X E)(ha:PA X (e::es) t)
  (θ:à (e::es) X.env=(eV,eval e X.env)::à es X.env:=by rfl) (hpl:(Ī pos<|à es X.env).any (·.1)=eV:=by rfl)
  (ht:eval (.Call (.Attribute o m œ) (e::es) [] pos) X.env=(do
    let ov<-eval o X.env
    ϑ œ.atName
    let (f,first)<-Ŕ [ov] (Ϡ ov m pl)
    cA pos f first (Ī pos<|à (e::es) X.env) (Ž pos<|ŏ [] X.env)):=by rfl) :
  PE X (.Call (.Attribute o m œ) (e::es) [] pos) (Ig C m sp aQ E ta t):=by
 k_sub;refine PySem.W.methodCall_KW (pl:=pl) (thn (he Â s σ H _ I h) λu s1 ⟨x,H1,I1,rx,a,dx,fs,ex,ea,l,q⟩=>?_) ht;subst ex;obtain rfl:u=Value.ref a:=rx;refine Jq I1 ea c hm l ?_;refine PySem.W.callWith_K (first:=[.ref a]) (h₀:=X.base) I.ok.mod.kin hm.kp (thn (ha pos Â s1 σ H1 _ I1 q) λus s2 ⟨vs,H2,I2,r,q2⟩=>⟨I2.kIn,?_⟩) θ hpl;exact M0 (us:=.ref a::us) (vs:=.ref a::vs) F hr hb hd hx I2 (.cons rfl r) q2
def C7(he:PE X o ta)(c:Cls X.K C)(hm:Meth X.K C m f)(F:fH X.prog X.w X.K X.mg X.base CX k f fd ps sp)(hr:fG k X.A)(hb:Binds X.K fd ps ds)(hd:gf aQ ds)(hx:Xn CX X E)
  (ht:eval (.Call (.Attribute o m œ) [] [] pos) X.env=(do
    let ov<-eval o X.env
    ϑ œ.atName
    let (f,first)<-Ŕ [ov] (Ϡ ov m pl)
    cA pos f first (Ī pos<|à [] X.env) (Ž pos<|ŏ [] X.env)):=by rfl) :
  PE X (.Call (.Attribute o m œ) [] [] pos) (Ig C m sp aQ E ta HP):=by
 k_sub;refine PySem.W.methodCall_KW (pl:=pl) (thn (he Â s σ H _ I h) λu s1 ⟨x,H1,I1,rx,a,dx,fs,ex,ea,l,q⟩=>?_) ht;subst ex;obtain rfl:u=Value.ref a:=rx;refine Jq I1 ea c hm l ?_;exact PySem.W.callWith_K0 (first:=[.ref a]) I1.kIn hm.kp<|M0 (us:=[.ref a]) (vs:=[.ref a]) F hr hb hd hx I1 (.cons rfl .nil) q
structure Mk(K:Frag)(C f:Ì):Prop where
 makes:PySem.W.makesIn K C=eU
 init:PySem.W.findIn K (.ref C) "__init__" = eQ (eQ<|.ref f)
 fn:PySem.W.isFn K (.ref f)=eU
 kp:PySem.W.keepIn K (.ref C)=eU
def DV(M:Mk X.K C f)(F:fH X.prog X.w X.K X.mg X.base CX k f fd ps sp)(hr:fG (k+1) X.A)(hb:Binds X.K fd ps ds)(hd:gf aQ ds)(hx:Xn CX X E)(I:Inv X Â σ H s)(r:gf vs us)(h:∀x dx,H x=eS->H dx=eS->dx≠x->sp (.ref x::(vs++aQ)) (upd (upd H dx<|.own x) x<|.ins C dx []) (λv H2=>v=.non/\Q (.ref x) H2) E) :
  wpAny ↥2 X.A (call (.ref C) us) (EP X Â σ Q) X.xe s:=by
 have hq:=h (s.heap.objs.size+1) s.heap.objs.size (I.hok.fresh<|ŋ _) (I.hok.fresh<|Ï _)<|ä<|Ě _;have I2:=Inv.made (C:=C) I;have r2:gf (V.ref (s.heap.objs.size+1)::(vs++aQ))<|Value.ref (s.heap.objs.size+1)::(us++ds):=.cons rfl<|r.append hd;have hl:(Value.ref (s.heap.objs.size+1)::us++ds).length=ps.length:=by have e:=r2.length;rw[F.len _ _ _ _ hq]at e;exact e.symm
 refine wpAny_call (Fb (f:=f) I.kIn M.makes M.init (beq_iff_eq.mp M.fn) (ż (F.run _ X.stack _ _ ⟨Value.ref (s.heap.objs.size+1)::us,[]⟩ (Value.ref (s.heap.objs.size+1)::(us++ds)) _ _ E (hr.make C us [])
   (I2.env0.make C us []) (hb _ (Value.ref (s.heap.objs.size+1)::us) I2.kIn hl) r2 hq) λr s' hq'=>?_))
 cases r with
 |error e=>exact hx Â σ _ _ e s' I2 hq'
 |ok fl =>
  cases fl with
  |ret u =>let⟨v,H',I3,rv,ev,q3⟩:=I2.after hq';subst ev;exact⟨rv,⟨V.ref<|s.heap.objs.size+1,H',I3,rfl,q3⟩⟩
  |next=>exact Ŋ hq'
  |brk=>exact Ŋ hq'
  |cont=>exact Ŋ hq'
def FC(M:Mk X.K C f)(F:fH X.prog X.w X.K X.mg X.base CX k f fd ps sp)(hr:fG (k+1) X.A)(hg:Gl X x)(hm:X.mg x=eQ (.ref C))(hb:Binds X.K fd ps ds)(hd:gf aQ ds)(hx:Xn CX X E)(ha:PA X (e::es) t)(cN:(x==("__debug__" : Str))=eV:=by decide)(he:à (e::es) X.env=(eV,eval e X.env)::à es X.env:=by rfl)(hpl:(Ī pos<|à es X.env).any (·.1)=eV:=by rfl) :
  PE X (.Call (.Name x p) (e::es) [] pos) (RJ C sp aQ E t):=by
 k_sub;refine Ķ<|Jf I hg hm ?_ cN;refine PySem.W.callWith_K (h₀:=X.base) I.ok.mod.kin M.kp (thn (ha pos Â s σ H _ I h) λus s1 ⟨vs,H1,I1,r,q⟩=>⟨I1.kIn,?_⟩) he hpl;exact DV M F hr hb hd hx I1 r q
end
structure FnScope(N P:List Str)(sc:η):Prop where
 kind:sc.kind=.function
 co:sc.isCoroutine=eV
 gen:sc.isGenerator=eV
 nd:N.Nodup
 pre:N.take P.length=P
 par:∀x∈P,sc.names.lookup x=eQ .local\/sc.names.lookup x=eQ .cell
 nofree:∀y∈sc.names,y.2≠.free
def K6{Η:Str->Option ϡ}{x:Str}:∀{binds:List (Str×Ã)}{m:Str->Option Ã},(∀v,(x,v)∉binds)->bindL Η binds m x=m x
 |[],_,_=>rfl
 |(n,v)::r,m,h=>by
  unfold bindL;rw[K6 λw hw=>h w<|Ø _ hw];split
  .have:x≠n:=by rintro rfl;exact h v å
   simp[this]
  .rfl
def Mn{Η:Str->Option ϡ}{x:Str}:∀{binds:List (Str×Ã)}{m:Str->Option Ã},(∀v,(x,v)∉binds)->dJ Η binds m x=m x
 |[],_,_=>rfl
 |(n,v)::r,m,h=>by
  unfold dJ;rw[Mn λw hw=>h w<|Ø _ hw];split
  .rfl
  .have:x≠n:=by rintro rfl;exact h v å
   simp[this]
def Mq{Η:Str->Option ϡ}{x:Str}{v:Ã}:∀{P:List Str}{vs:List Ã}{i:Nat}{m:Str->Option Ã},P.Nodup->P[i]?=eQ x->vs[i]?=eQ v->Η x=eQ .local->
  bindL Η (P.zip vs) m x=eQ v
 |[],_,_,_,_,h,_,_=>by simp at h
 |_::_,[],_,_,_,_,h,_=>by simp at h
 |p::P,w::vs,0,m,nd,h1,h2,hk=>by simp at h1 h2;subst h1;subst h2;show bindL Η ((p,w)::P.zip vs) m p=_;unfold bindL;rw[K6 λv hv=>(ó.mp nd).1 (aX hv).1,gu hk];simp
 |p::P,w::vs,i+1,m,nd,h1,h2,hk=>by show bindL Η ((p,w)::P.zip vs) m x=_;unfold bindL;exact Mq (i:=i) (ó.mp nd).2 ⇑h1 ⇑h2 hk
def K5{Η:Str->Option ϡ}{x:Str}{v:Ã}:∀{P:List Str}{vs:List Ã}{i:Nat}{m:Str->Option Ã},P.Nodup->P[i]?=eQ x->vs[i]?=eQ v->Η x≠eQ .local->
  dJ Η (P.zip vs) m x=eQ v
 |[],_,_,_,_,h,_,_=>by simp at h
 |_::_,[],_,_,_,_,h,_=>by simp at h
 |p::P,w::vs,0,m,nd,h1,h2,hk=>by simp at h1 h2;subst h1;subst h2;show dJ Η ((p,w)::P.zip vs) m p=_;unfold dJ;rw[Mn λv hv=>(ó.mp nd).1 (aX hv).1,gw hk];simp
 |p::P,w::vs,i+1,m,nd,h1,h2,hk=>by show dJ Η ((p,w)::P.zip vs) m x=_;unfold dJ;exact K5 (i:=i) (ó.mp nd).2 ⇑h1 ⇑h2 hk
abbrev start(N:List Str)(vs:List V):St:=vs.map eQ++Û (N.length - vs.length) eS
abbrev MU(CX:CXT)(P:ç)(w:ă)(K:Frag)(mg:Str->Option Ã)(base:Ď)(N:List Str)(qual:Str)(scope:η)(f:Ì)(cd:Ã)(A:Đ)(outer:List Env)(s:Ç)(H:Hp)(E:XK):Cx where
 prog:=P
 w:=w
 K:=K
 mg:=mg
 base:=base
 A:=A.deeper<|aI qual scope s.heap.objs.size f cd
 N:=N
 s₀:=s
 H₀:=H
 env:=aI qual scope s.heap.objs.size f cd
 outer:=outer
 stack:=aI qual scope s.heap.objs.size f cd::outer
 ex:=[]
 calm:=eU
 fn:=λ_=>eU
 pn:=[]
 xe:=λe s'=>wpAny (ß P w) (A.deeper<|aI qual scope s.heap.objs.size f cd) (leaving (aI qual scope s.heap.objs.size f cd) e) (λ_ s''=>CX outer H s E e s'') (λe' s''=>CX outer H s E e' s'') s'
def On{sc:η}{n:Nat}{x:Str}(h:sc.names.lookup x=eQ .cell):∃c,(cellsFrom n sc.names []).lookup x=eQ c:=by have q:=PySem.W.cellsFrom_some sc.names n []<|.inl h;exact ë.mp q
variable {N:List Str}{qual:Str}{scope:η}{f:Ì}
def BX{K:Frag}(S:FnScope N ps scope)(hd:A.handled=eS)(e0:Env0 P w K mg base A outer s H)(hl:vs.length=ps.length)(r:gf vs us)(x:InCallC s s.heap.objs.size (bindL (aI qual scope s.heap.objs.size f cd).kindOf (ps.zip us) λ_=>eS) (cellsFrom (s.heap.objs.size+1) scope.names []) (dJ (aI qual scope s.heap.objs.size f cd).kindOf (ps.zip us) λ_=>eS) s1) :
  Inv (MU CX P w K mg base N qual scope f cd A outer s H E) [] (start N vs) H s1:=by
 have hpl:ps.length<=N.length:=by have:=congrArg List.length S.pre;rw[þ]at this;lia
 let⟨h1,tk,rfl,hk⟩:=x.done;have noA:∀b:Ì,b∉(MU CX P w K mg base N qual scope f cd A outer s H E).ex:=λb z=>gA (show b∈([]:List Ì) from z) (by simp);refine⟨⟨e0.mod,S.kind,rfl,rfl,Ï _,λy z c h1 h2=>?_,λy hy=>?_,λy c _ h=>?_,λ_=>hd,Around.frames_deeper e0.frames,.inr ⟨rfl,rfl⟩,λb z=>gA z<|noA b,e0.bs,e0.bsz,λb _ _=>noA b,λb z=>gA z<|noA b,e0.funs,e0.frf⟩,
   rfl,e0.bare,Un.kept hk,⟨_,x.toInCall.ns,λi y v h1 h2 h3=>?_⟩,λy c h=>⟨_,x.cell y c h⟩,e0.hok.fresh<|Ï _,λy c h=>?_,λp hp=>gA (show p∈([]:List<|Ì×Obj) from hp) (by simp),e0.hok.kept hk,?_⟩
 .exact name_of_addr x.apart (PySem.mem_of_lookup h1)<|PySem.mem_of_lookup h2
 .have hy:scope.names.lookup y=eQ .cell\/scope.names.lookup y=eQ .free:=hy;rcases hy with hy|hy
  .exact On hy
  .exact gA rfl<|S.nofree _<|PySem.mem_of_lookup hy
 .exact ς<|x.above y c<|PySem.mem_of_lookup h
 .have hi:i<vs.length:=by
   unfold start at h2;by_cases hi:i<vs.length
   .exact hi
   .rw[ċ<|by simpa using hi]at h2;rw[ő]at h2;split at h2<;>cases h2
  have ha:vs[i]?=eQ v:=by
   unfold start at h2;rw[ď ⇑hi,Ù]at h2;cases e:vs[i]? with
   |none=>rw[e]at h2;cases h2
   |some a=>rw[e]at h2;cases h2;rfl
  let⟨u,hu,rv⟩:=r.get ha;have hp:ps[i]?=eQ y:=by rw[<-S.pre,List.getElem?_take_of_lt<|by lia];exact h1
  have ndP:ps.Nodup:=by rw[<-S.pre];exact S.nd.sublist<|List.take_sublist _ _
  refine⟨u,rv,?_⟩;rcases S.par y (ã hp)with k|k
  .exact .inl ⟨k,Mq ndP hp hu k⟩
  .obtain⟨c,e⟩:=On (n:=s.heap.objs.size+1) k;refine .inr ⟨.inl k,c,e,?_⟩;have q:=x.cell y c e;rw[K5 ndP hp hu<|by show scope.names.lookup y≠_;rw[k];decide]at q;exact q
 .exact e0.hok.fresh<|ς<|x.above y c<|PySem.mem_of_lookup h
 .unfold start;show _=N.length;rw[í,Á,ú];lia
def Ry{K:Frag}{kV:Ã}(lk:K.lookup f=eQ ⟨oc,od,.func<|PySem.W.fnOf name qual params body scope dV kV doc pm an ϱ ct,osl⟩)(aP:PySem.W.codeIn K ϱ qual=eU)(S:FnScope N ps scope)(len:∀vs H Q E,sp vs H Q E->vs.length=ps.length)(hbody:∀(A:Đ) (outer:List Env) (s:Ç) (H:Hp) (vs:List V) (Q:VK) (E:XK),fG k (A.deeper<|aI qual scope s.heap.objs.size f ϱ)->sp vs H Q E->
    ∃t,PSs (MU CX P w K mg base N qual scope f ϱ A outer s H E) body t/\t { nx:=λ_ H'=>Q .non H',rt:=Q } (start N vs) H) :
  fH P w K mg base CX (k+1) f (PySem.W.fnOf name qual params body scope dV kV doc pm an ϱ ct) ps sp:=by
 refine⟨len,λA outer s H args us vs Q E hr e0 hb r hsp=>?_⟩;have hl:=len _ _ _ _ hsp;have KX:K.In s.heap:=e0.mod.kin.keeps λb o e=>(e0.bs b o e).1;have lim:s.heap.NoLimit:=e0.mod.nolimit.keeps λb o e=>(e0.bs b o e).1;have hkind:∀y∈ps.zip us,scope.names.lookup y.1=eQ .local\/(scope.names.lookup y.1=eQ .cell/\((cellsFrom (s.heap.objs.size+1) scope.names []).lookup y.1).isSome=eU):=λ⟨n,v⟩ hy=>by
  rcases S.par n (aX hy).1 with q|q
  .exact .inl q
  .exact .inr ⟨q,PySem.W.cellsFrom_some _ _ _<|.inl q⟩
 refine codeAny_call_function hr.depth (KX _ _ lk) rfl S.co S.gen rfl (PySem.W.codeRec_of KX aP)<|hb _ _ _ _ ?_;refine wpAny_newFunctionEnv_cells S.kind hkind λenv he s1 x=>?_;subst he;refine⟨lim.keeps x.toInCall.keep,codeAny_func ?_⟩;let⟨t,ht,hq⟩:=hbody A outer s H vs Q E (hr.deeper _) hsp;have I:Inv (MU CX P w K mg base N qual scope f ϱ A outer s H E) [] (start N vs) H s1:=BX S hr.hd e0 hl r x;refine ĵ (ht [] s1 (start N vs) H _ I hq) (λfl s' hs=>?_) λe s' hs=>hs;have fin:∀{ů:St}{H':Hp}{v:V}{u:Ã},Inv (MU CX P w K mg base N qual scope f ϱ A outer s H E) [] ů H' s'->RelV v u->Q v H'->CE outer P w H s Q u s' :=
  λ{ů H' v u} J rv q=>⟨v,H',J.os,J.bare,J.base,J.hok,rv,q⟩
 cases fl with
 |ret u =>let⟨v,ů,H',J,rv,q⟩:=hs;exact fin J rv q
 |next =>let⟨ů,H',J,q⟩:=hs;exact fin (v:=V.non) (u:=Value.none) J rfl q
 |brk =>let⟨_,_,_,q⟩:=hs;exact Ŋ q
 |cont =>let⟨_,_,_,q⟩:=hs;exact Ŋ q
section
variable {x:Str}{p pos:Pos}{e:Expr}{id T:String}{r:List V->Hp->VK->Prop}
abbrev tCB(r:List V->Hp->VK->Prop)(t:TA):TE:=λσ H Q=>t σ H λvs H1=>r vs H1 Q
def Xd(hc:ff X (.builtin id) r)(hg:Gl X x)(hm:X.mg x=eS)(hv:Š x=eQ (.builtin id))(ha:PA X (e::es) t)(hn:x≠"__name__":=by decide)(cN:(x==("__debug__" : Str))=eV:=by decide)(he:à (e::es) X.env=(eV,eval e X.env)::à es X.env:=by rfl)(hpl:(Ī pos<|à es X.env).any (·.1)=eV:=by rfl):PE X (.Call (.Name x p) (e::es) [] pos)<|tCB r t:=by
 k_sub;refine Ķ<|Y6 I hg hm hv ?_ hn cN;exact PyProof.Rows.callWith_builtin1 (thn (ha pos Â s σ H _ I h) λus s1 ⟨vs,H1,I1,r1,q1⟩=>hc Â s1 σ H1 vs us Q I1 r1 q1) he hpl
def XC(hc:ff X (.type T) r)(hg:Gl X x)(hm:X.mg x=eS)(hv:Š x=eQ (.type T))(ha:PA X (e::es) t)(hn:x≠"__name__":=by decide)(cN:(x==("__debug__" : Str))=eV:=by decide)(he:à (e::es) X.env=(eV,eval e X.env)::à es X.env:=by rfl)(hpl:(Ī pos<|à es X.env).any (·.1)=eV:=by rfl):PE X (.Call (.Name x p) (e::es) [] pos)<|tCB r t:=by
 k_sub;refine Ķ<|Y6 I hg hm hv ?_ hn cN;exact PyProof.Rows.callWith_type1 (thn (ha pos Â s σ H _ I h) λus s1 ⟨vs,H1,I1,r1,q1⟩=>hc Â s1 σ H1 vs us Q I1 r1 q1) he hpl
end
end L2
namespace HT
open PySem PyProof.Rows
abbrev lexLt:List Int->List Int->Bool
 |[],[]=>eV
 |[],_::_=>eU
 |_::_,[]=>eV
 |x::xs,y::ys=>if x=y then lexLt xs ys else gB (x<y)
def lexLt_cons(x y:Int)(xs ys:List Int):lexLt (x::xs) (y::ys)=if x=y then lexLt xs ys else gB (x<y):=rfl
def Kx:lexLt [] []=eV:=rfl
def Jw(y:Int)(ys:List Int):lexLt [] (y::ys)=eU:=rfl
def JU(x:Int)(xs:List Int):lexLt (x::xs) []=eV:=rfl
def eqAt_int(A:Đ)(s:Ç)(a:Int)(t:Tok)(c:Int)(u:Tok):∃e,SeqAt.EqAt A s (.int a t) (.int c u) e/\(e=eU↔a=c) :=
 ⟨(a==c),SeqAt.EqAt.int_int a t c u,by simp⟩
def EW(A:Đ)(s:Ç)(a:Int)(t:Tok)(c:Int)(u:Tok)(prog:ç)(w:ă)(E:Ã->Ç->Prop)(Q:Ã->Ç->Prop)(h:Q (.bool<|gB (a<c)) s) :
  wpAny (ß prog w) A (richCompare .Lt (.int a t)<|.int c u) Q E s :=
 (PyProof.Rows.lt_int h:wpAny (ß prog w) A (ñ .Lt (.int a t)<|.int c u) Q E s)
section
open PySem.SeqAt
open PySem.AutoSeq1 (wpAny_loadPart')
open PySem.MeetsSeq PySem.MeetsSeq2 PySem.MeetsSeq3
def KK(l b:Ì)(items ņ:Array Ã)(n n2:Nat)(dd cZ:Option Ì)(sl dX:Array<|Option Ã)(ns ms:List Int)(hi:ą items.toList ns)(hj:ą ņ.toList ms) :
  Meets (Builtin.«tuple.__lt__» ⟨[.ref l,.ref b],[]⟩)
   (λ_ R s=>s.heap.get? l=eQ { cls:=.type "tuple",dict:=dd,data:=.seq items n,slots:=sl }/\s.heap.get? b=eQ { cls:=.type "tuple",dict:=cZ,data:=.seq ņ n2,slots:=dX }/\
     R (.ok<|.ret<|.bool<|lexLt ns ms) s) :=
 .of_wp λprog w A R s h=>by
  let⟨hp,g,d,tk,os⟩:=s;let⟨hl,hb,h⟩:=h;have f2:=AutoSeq1.sub_tuple_tuple;have z1:items.size=ns.length:=by rw[<-hi.length];simp
  have z2:ņ.size=ms.length:=by rw[<-hj.length];simp
  wp_walk using Ĥ hl,Ĥ hb,wpAny_forIn_list _ (λrest b s'=>b.1=eS/\s'=⟨hp,g,d,tk,os⟩/\∃(vs ws:List Ã) (cp dy:List Int),rest=vs.zip ws/\
    ą vs cp/\ą ws dy/\cp.length+ņ.size=dy.length+items.size/\R (.ok<|.ret<|.bool<|lexLt cp dy) ⟨hp,g,d,tk,os⟩) _
  case turn =>
   rintro⟨y,x⟩ rest b s' ⟨bK,rfl,vs,ws,cp,dy,hz,hvi,hwi,hlen,hR⟩;cases hvi with
   |nil=>rw[Ο]at hz;cases hz
   |cons a t hvi' =>
    cases hwi with
    |nil=>rw[Α]at hz;cases hz
    |cons c u hwi' =>
     rw[ŕ]at hz;injection hz with hyx hrest;injection hyx with hy hx;subst hy hx;rw[lexLt_cons]at hR;simp![Ð]at hlen;let⟨e,he,hiff⟩:=eqAt_int A.in1 ⟨hp,g,d,tk,os⟩ a t c u;refine À<|he prog w _ _ ?_;cases e with
     |true =>
      rw[gu<|hiff.mp rfl]at hR
      wp_walk
      exact⟨rfl,rfl,_,_,_,_,hrest,hvi',hwi',by lia,hR⟩
     |false =>
      rw[gw λq=>gA (hiff.mpr q) û]at hR;have hri:=EW A.in1 ⟨hp,g,d,tk,os⟩ a t c u prog w
      wp_walk using hri
      exact⟨_,rfl,⇑hR⟩
  case fin =>
   rintro⟨b1,b2⟩ s' ⟨bK,rfl,vs,ws,cp,dy,hz,hvi,hwi,hlen,hR⟩;simp only at bK;subst bK;have hv:lexLt cp dy=gB (items.size<ņ.size):=by
    cases hvi with
    |nil =>
     cases hwi with
     |nil =>simp![ī]at hlen;rw[Kx];exact(gx<|by lia).symm
     |cons c u hw =>simp![ī,Ð]at hlen;rw[Jw];exact(gy<|by lia).symm
    |cons a t hv =>
     cases hwi with
     |nil =>simp![ī,Ð]at hlen;rw[JU];exact(gx<|by lia).symm
     |cons c u hw =>rw[ŕ]at hz;cases hz
   rw[hv]at hR
   wp_walk
   exact⟨_,rfl,by simpa[Builtin.Tuple.tupleCompareSizes]using hR⟩
  case h =>exact⟨rfl,rfl,items.toList,ņ.toList,ns,ms,rfl,hi,hj,by lia,h⟩
end
section
variable {prog:ç}{w:ă}{A:Đ}{E:Ã->Ç->Prop}
variable {b:Ì}
def lt_tupInts(hl:bb s.heap l items)(hb:bb s.heap b ņ)(hi:ą items.toList ns)(hj:ą ņ.toList ms)(hu:A.units<Ģ)(h:Q (.bool<|lexLt ns ms) s):wpAny (ß prog w) A (ñ .Lt (.ref l)<|.ref b) Q E s:=by
 let⟨⟨cls,dd,data,sl⟩,ho,hc,n,hd⟩:=id hl;let⟨⟨cls2,cZ,data2,dX⟩,ho2,hc2,n2,bT⟩:=id hb;simp only at hc hd hc2 bT;subst hc hd hc2 bT;exact d7 (op:=.Lt) ⟨_,ho,rfl⟩ ⟨_,ho2,rfl⟩ PySem.F.slot_tuple_lt PySem.F.entry_tuple_lt (PySem.F.args_tuple_lt_2 _ _) (KK l b items ņ n n2 dd cZ sl dX ns ms hi hj)
  ⟨ho,ho2,show Value.bool (lexLt ns ms)≠cC/\Q (.bool<|lexLt ns ms) s from ⟨(λx=>nomatch x),h⟩⟩ hu
def cat_tup(ht:bb s.heap t vs.toArray)(hb:bb s.heap b ws.toArray)(hv:vs≠[])(h1:ws=[]->Q (.ref t) s)(h2:ws≠[]->Q (.ref s.heap.objs.size) {s with heap:=s.heap.push {cls:=.type "tuple",data:=.seq (vs++ws).toArray}})(hsz:vs.length+ws.length<=Þ):wpAny (ß prog w) A (ō .Add (.ref t)<|.ref b) Q E s:=by
 let⟨⟨cls,dd,data,sl⟩,ho,hc,n,hd⟩:=id ht;let⟨⟨cls2,cZ,data2,dX⟩,ho2,hc2,n2,bT⟩:=id hb;simp only at hc hd hc2 bT;subst hc hd hc2 bT;have e:vs.toArray++ws.toArray=(vs++ws).toArray:=by simp
 by_cases hw:ws=[]
 .exact d8 ⟨_,ho,rfl⟩ ⟨_,ho2,rfl⟩ bE dh PySem.F.slot_tuple_add PySem.F.entry_tuple_add (PySem.F.args_tuple_add_2 _ _)
   (tuple_addW1 t b vs.toArray ws.toArray n n2 dd cZ sl dX ⇑hv<|by simp[hw]) ⟨ho,ho2,h1 hw⟩
 .refine d8 ⟨_,ho,rfl⟩ ⟨_,ho2,rfl⟩ bE dh PySem.F.slot_tuple_add PySem.F.entry_tuple_add (PySem.F.args_tuple_add_2 _ _)
   (tuple_addW2 t b vs.toArray ws.toArray n n2 dd cZ sl dX ⇑hv ⇑hw<|by rw[Î,Î];exact hsz) ⟨ho,ho2,?_⟩
  rw[e];exact h2 hw
abbrev sIx(n d:Nat):Option Int->Nat
 |none=>d
 |some v=>if v<0 then(v+(n:Int)).toNat else min v.toNat n
def IV(n d:Nat)(hd:d<=n)(o:Option Int):sIx n d o<=n:=by
 cases o with
 |none=>exact hd
 |some v =>
  show(if v<0 then(v+(n:Int)).toNat else min v.toNat n)<=n;by_cases hv:v<0
  .rw[gu hv];lia
  .rw[gw hv];exact aJ _ _
def clip_eq(v:Int)(n d:Nat):(if v<0 then max (v+(n:Int)) 0 else min v (n:Int))=((sIx n d (eQ v):Nat):Int):=by
 show(if v<0 then max (v+(n:Int)) 0 else min v (n:Int))=(((if v<0 then(v+(n:Int)).toNat else min v.toNat n):Nat):Int)
 by_cases hv:v<0
 .simp![gu hv];lia
 .simp![gw hv];lia
def OU(lo hi:Option Int)(n:Nat):Builtin.Slice.sliceAdjust lo hi 1 (n:Int)=(((sIx n 0 lo:Nat):Int),((sIx n n hi:Nat):Int)):=by
 have h1:¬ ((1:Int)<0):=by lia
 unfold Builtin.Slice.sliceAdjust;simp![h1,if_false];refine Prod.ext ?_ ?_
 .cases lo with
  |none=>rfl
  |some v=>exact clip_eq v n 0
 .cases hi with
  |none=>rfl
  |some v=>exact clip_eq v n n
def Ua(i j:Nat):Builtin.Slice.slicePlaces (i:Int) (j:Int) 1=j - i:=by
 unfold Builtin.Slice.slicePlaces;have h1:(1:Int) > 0:=by lia
 simp![h1,if_true,Int.ediv_one];split<;>lia
def JX{v:Ã}{o:Option Int}{Q:Option Int->Ç->Prop}(p:Ϭ v o)(h:Q o s):wpAny (ß prog w) A (Builtin.Slice.slicePartIndex v) Q E s:=by
 cases p with
 |none=>exact slicePart_none h
 |int i t=>exact slicePart_int h
variable {lo:Option Int}
def Ys{n:Nat}{Q:Int×Int×Nat->Ç->Prop}(hs:s.heap.IsSliceOf sl vl vu .none)(pl:Ϭ vl lo)(pu:Ϭ vu hi)
  (h:Q (((sIx n 0 lo:Nat):Int),1,sIx n n hi - sIx n 0 lo) s):wpAny (ß prog w) A (Builtin.Slice.sliceApplied (.ref sl)<|pure (n:Int)) Q E s:=by
 let⟨os,hos,hcs,hds⟩:=id hs;unfold Builtin.Slice.sliceApplied Builtin.Slice.sliceFields;refine À<|À<|Ő hos hds (x:=vl) rfl<|À<|Ő hos hds (x:=vu) rfl<|À<|Ő hos hds (x:=.none) rfl<|Æ ?_;refine À<|slicePart_none ?_;show wpAny _ _ (if((1:Int)==0)=eU then _ else _) _ _ s;rw[gw<|by decide];refine À<|JX pl<|À<|JX pu<|À<|Æ ?_;show wpAny _ _ (match Builtin.Slice.sliceAdjust lo hi 1 (n:Int)with|(lo,hi)=>pure (lo,(1:Int),Builtin.Slice.slicePlaces lo hi 1)) _ _ s;rw[OU lo hi n];show wpAny _ _ (pure (((sIx n 0 lo:Nat):Int),(1:Int),Builtin.Slice.slicePlaces ((sIx n 0 lo:Nat):Int) ((sIx n n hi:Nat):Int) 1)) _ _ s;rw[Ua];exact Æ h
def EL(xs:Array Ã)(i k:Nat):((List.range k).filterMap λ(m:Nat)=>xs[((i:Int)+(m:Int)*1).toNat]?).toArray=((xs.toList.drop i).take k).toArray:=by
 have e:(λ(m:Nat)=>xs[((i:Int)+(m:Int)*1).toNat]?)=λm=>xs[i+m]?:=by
  funext m;have:((i:Int)+(m:Int)*1).toNat=i+m:=by lia
  rw[this]
 rw[e];have:=pick_run xs i k;rw[Β]at this;have e2:((λx=>xs[x]?) ∘ λx=>i+x)=λm=>xs[i+m]?:=rfl;rw[e2]at this;rw[this]
def getItem_tuple_cut(ht:bb s.heap t items)(hs:s.heap.IsSliceOf sl vl vu .none)(pl:Ϭ vl lo)(pu:Ϭ vu hi)(hw:¬ (sIx items.size 0 lo=0/\sIx items.size items.size hi=items.size))(h:Q (.ref s.heap.objs.size) {s with heap:=s.heap.push {cls:=.type "tuple",data:=.seq ((items.toList.drop<|sIx items.size 0 lo).take<|sIx items.size items.size hi - sIx items.size 0 lo).toArray}})(hsz:items.size<=Þ):wpAny (ß prog w) A (ϫ (.ref t)<|.ref sl) Q E s:=by
 have db:sizeOk<|.seq ((items.toList.drop<|sIx items.size 0 lo).take<|sIx items.size items.size hi - sIx items.size 0 lo).toArray:=by show((items.toList.drop<|sIx items.size 0 lo).take<|sIx items.size items.size hi - sIx items.size 0 lo).toArray.size<=Þ;rw[Î,þ,Ū,ì];lia
 have hj:sIx items.size items.size hi<=items.size:=IV _ _ (Ï _) hi;let⟨os,hos,hcs,hds⟩:=id hs;have hTs:s.TypeIs (.ref sl) "slice":=⟨os,hos,hcs⟩
 unfold ϫ
 try with_reducible refine ē ?_
 first|refine À (Æ ?_)|skip
 refine À (wpAny_sequenceKey ht.typeIs ↥1 ?_);refine À (Ħ (name:=gC "__getitem__") ht.typeIs PyProof.Rows.slot_tuple_getitem
   (Ĕ PyProof.Rows.slot_tuple_getitem ht.typeIs entry_tuple_getitem ?_<|args_tuple_getitem _ _))
 show wpAny _ _ (Builtin.Tuple.tupleItemsOf (.ref t) >>= _) _ _ s;refine À<|tupleItemsOf_ ht ?_;refine À<|ϭ hTs ?_;rw[gu<|by decide];refine À<|Ys hs pl pu ?_;have hno:¬ ((((sIx items.size 0 lo:Nat):Int)==0&&(1:Int)==1&&(sIx items.size items.size hi - sIx items.size 0 lo)==items.size)=eU):=by intro q;rw[bAq,bAq]at q;have q1:((sIx items.size 0 lo:Nat):Int)=0:=eq_of_beq q.1.1;have q2:sIx items.size items.size hi - sIx items.size 0 lo=items.size:=eq_of_beq q.2;exact hw ⟨by lia,by lia⟩
 show wpAny _ _ (if(((sIx items.size 0 lo:Nat):Int)==0&&(1:Int)==1&&(sIx items.size items.size hi - sIx items.size 0 lo)==items.size)=eU then _ else _) _ _ s;rw[gw hno,EL]
 first
  |exact À (m:=Builtin.Tuple.tupleExact _)<|Ą (Æ ⟨_,rfl,Æ h⟩) db
  |exact À (m:=Builtin.Tuple.tupleExact _)<|Ą (À<|Æ<|Æ ⟨_,rfl,Æ h⟩) db
  |exact À<|À (m:=Builtin.Tuple.tupleExact _)<|Ą (Æ<|Æ ⟨_,rfl,Æ h⟩) db
  |exact À<|À (m:=Builtin.Tuple.tupleExact _)<|Ą (Æ ⟨_,rfl,Æ h⟩) db
end
end HT
namespace L2
open PySem PySem.Spec PyProof.Rows
noncomputable abbrev TO:=St->Hp->(Option Int->Hp->Prop)->Prop
abbrev PO(X:Cx)(e:Option Expr)(t:TO):Prop :=
 ∀(Â:List<|Ì×Obj) (s:Ç) (σ:St) (H:Hp) (Q:Option Int->Hp->Prop),Inv X Â σ H s->t σ H Q->
  wpAny ↥2 X.A (evalPart e X.env) (λu s'=>∃o H',Inv X Â σ H' s'/\Ϭ u o/\Q o H') X.xe s
abbrev GV:TO:=λ_ H Q=>Q eS H
abbrev Rc(t:TE):TO:=λσ H Q=>t σ H λx H1=>∃i,x=.int i/\Q (eQ i) H1
def Zz:∀{us:List Ã},gf (ns.map V.int) us->ą us ns:=by
 induction ns with
 |nil=>intro us r;rw[ϒ]at r;cases r;exact .nil
 |cons n ns ih =>
  intro us r;rw[Ñ]at r;cases r with
  |cons r1 r2 =>let⟨t,e⟩:=r1;subst e;exact .cons n t<|ih r2
section
variable {e:Expr}{lo:Option Expr}{pos p2:Pos}
def po_none:PO X eS GV:=by k_sub;rw[di];exact Æ ⟨eS,H,I,.none,h⟩
def Gj(h:PE X e te):PO X (eQ e)<|Rc te:=by intro Â s σ H Q I hw;rw[evalPart_some];refine thn (h Â s σ H _ I hw) λu s1 ⟨x,H1,I1,r1,q1⟩=>?_;let⟨i,rfl,q⟩:=q1;let⟨t,rfl⟩:=r1;exact⟨eQ i,H1,I1,.int i t,q⟩
abbrev SlR(X:Cx)(r:V->Option Int->Option Int->Hp->VK->Prop):Prop :=
 ∀(Â:List<|Ì×Obj) (s:Ç) (σ:St) (H:Hp) (x:V) (v vl vu:Ã) (lo hi:Option Int) (sl:Ì) (Q:VK),Inv X Â σ H s->RelV x v->s.heap.IsSliceOf sl vl vu .none->Ϭ vl lo->Ϭ vu hi->r x lo hi H Q->
  ∃T id,typeLookup (.type T) "__getitem__" = pure (eQ<|.builtin id)/\s.TypeIs v T/\wpAny ↥2 X.A (ϫ v<|.ref sl) (EP X Â σ Q) X.xe s
variable {r:V->Option Int->Option Int->Hp->VK->Prop}
def SlR.or(h:SlR X r)(h':SlR X r'):SlR X λx lo hi H Q=>r x lo hi H Q\/r' x lo hi H Q:=by
 intro Â s σ H x v vl vu lo hi sl Q I rx hs pl pu q;rcases q with q|q
 .exact h Â s σ H x v vl vu lo hi sl Q I rx hs pl pu q
 .exact h' Â s σ H x v vl vu lo hi sl Q I rx hs pl pu q
abbrev tSl(r:V->Option Int->Option Int->Hp->VK->Prop)(te:TE)(tl th:TO):TE:=λσ H Q=>te σ H λx H1=>tl σ H1 λl H2=>th σ H2 λu H3=>r x l u H3 Q
def CH(hr:SlR X r)(he:PE X e te)(hl:PO X lo tl)(hu:PO X hi th):PE X (.Subscript e (.Slice lo hi eS p2) pos)<|tSl r te tl th:=by k_sub;refine Subscript_<|thn (he Â s σ H _ I h) λv s1 ⟨x,H1,I1,r1,q1⟩=>?_;refine wpAny_Slice<|thn (hl Â s1 σ H1 _ I1 q1) λvl s2 ⟨l,H2,I2,pl,q2⟩=>thn (hu Â s2 σ H2 _ I2 q2) λvu s3 ⟨u,H3,I3,pu,q3⟩=>?_;rw[di];refine Æ ?_;have I4:Inv X Â σ H3 {s3 with heap:=s3.heap.push {cls:=.type "slice",data:=.fields #[vl,vu,.none]}}:=I3.kept (t':=s3.toks) λb ob q=>Ä _ q;let⟨T,id,hT,ht,hg⟩:=hr Â {s3 with heap:=s3.heap.push {cls:=.type "slice",data:=.fields #[vl,vu,.none]}} σ H3 x v vl vu l u s3.heap.objs.size Q I4 r1 (Heap.IsSliceOf.new ..) pl pu q3;show wpAny ↥2 X.A (aB e (.Slice lo hi eS p2) v<|.ref s3.heap.objs.size) (EP X Â σ Q) X.xe {s3 with heap:=s3.heap.push {cls:=.type "slice",data:=.fields #[vl,vu,.none]}};exact tail_any (ops:=[.ref s3.heap.objs.size,v]) ht hT hg (by with_unfolding_all rfl)
abbrev M1(xs:List V)(lo hi:Option Int):List V:=(xs.drop<|HT.sIx xs.length 0 lo).take<|HT.sIx xs.length xs.length hi - HT.sIx xs.length 0 lo
def WX(xs:List V)(lo hi:Option Int):(M1 xs lo hi).length<=xs.length:=by unfold M1;rw[þ,Ū];lia
abbrev Sr(K:Frag):V->Option Int->Option Int->Hp->VK->Prop:=λx lo hi H Q=>∃a xs,x=.ref a/\gc K H a xs/\
 ¬ (HT.sIx xs.length 0 lo=0/\HT.sIx xs.length xs.length hi=xs.length)/\∀p,H p=eS->Q (.ref p) (upd H p<|.tup<|M1 xs lo hi)
def fU:SlR X<|Sr X.K:=by
 intro Â s σ H x v vl vu lo hi sl Q I rx hs pl pu h;let⟨a,xs,rfl,hx,hw,q⟩:=h;cases rx;let⟨ø,r,ht,hz⟩:=I.tuple hx;have hlen:ø.toArray.size=xs.length:=by rw[Î];exact r.length.symm
 refine⟨"tuple",_,PyProof.Rows.slot_tuple_getitem.lookup,ht.typeIs,?_⟩;refine HT.getItem_tuple_cut ht hs pl pu (by rw[hlen];exact hw) ?_ (by rw[hlen];exact hz);rw[hlen];refine⟨.ref s.heap.objs.size,_,I.laid (t':=s.toks) (o:=.tup<|M1 xs lo hi) (λb ob q=>Ä _ q) (Ï _) ?_,rfl,q _<|I.hok.fresh<|Ï _⟩;exact⟨Ö (WX xs lo hi) hz,_,(r.drop<|HT.sIx xs.length 0 lo).take<|HT.sIx xs.length xs.length hi - HT.sIx xs.length 0 lo,IsTup.new _ _⟩
abbrev R8(K:Frag):R2:=λx y H Q=>∃a b ns ms,x=.ref a/\y=.ref b/\gc K H a (ns.map V.int)/\gc K H b (ms.map V.int)/\Q (.bl<|HT.lexLt ns ms) H
def Pb(hu:X.A.units<Ģ):OpR X (ñ .Lt)<|R8 X.K:=by k_ne;let⟨a,b,ns,ms,rfl,rfl,ha,hb,q⟩:=h;cases rx;cases ry;let⟨ø,r1,p1,_⟩:=I.tuple ha;let⟨bw,r2,p2,_⟩:=I.tuple hb;have i1:ą ø.toArray.toList ns:=Zz r1;have i2:ą bw.toArray.toList ms:=Zz r2;exact HT.lt_tupInts p1 p2 i1 i2 hu ⟨.bl<|HT.lexLt ns ms,H,I,rfl,q⟩
abbrev HX(K:Frag):R2:=λx y H Q=>∃a b xs ys,x=.ref a/\y=.ref b/\gc K H a xs/\gc K H b ys/\xs≠[]/\xs.length+ys.length<=Þ/\
 (ys=[]->Q (.ref a) H)/\(ys≠[]->∀p,H p=eS->Q (.ref p) (upd H p<|.tup<|xs++ys))
def gf.nil_iff(r:gf xs us):us=[]↔xs=[]:=by
 cases r with
 |nil=>simp
 |cons _ _=>simp
def GE:OpR X (ō .Add)<|HX X.K:=by k_ne;let⟨a,b,xs,ys,rfl,rfl,ha,hb,hx,hz,q1,q2⟩:=h;cases rx;cases ry;let⟨ø,r1,p1,_⟩:=I.tuple ha;let⟨bw,r2,p2,_⟩:=I.tuple hb;refine HT.cat_tup p1 p2 (λz=>hx<|r1.nil_iff.mp z) (λz=>⟨.ref a,H,I,rfl,q1<|r2.nil_iff.mp z⟩) (λz=>?_) (by rw[<-r1.length,<-r2.length];exact hz);refine⟨.ref s.heap.objs.size,_,I.laid (t':=s.toks) (o:=.tup<|xs++ys) (λb ob q=>Ä _ q) (Ï _) ?_,rfl,q2 (λw=>z<|r2.nil_iff.mpr w) _<|I.hok.fresh<|Ï _⟩;exact⟨by rw[í];exact hz,_,r1.append r2,IsTup.new _ _⟩
end
abbrev ixN(n:Nat)(i:Int):Option Nat:=if 0<=i then(if i<n then eQ i.toNat else eS)else if -(n:Int)<=i then eQ (i+n).toNat else eS
variable {α:Type}
abbrev atI(xs:List α)(i:Int):Option α:=(ixN xs.length i).bind λj=>xs[j]?
variable {n:Nat}{i:Int}
def MO(h:ixN n i=eQ j):seqIndex? i n=eQ j/\j<n/\-(n:Int)<=i/\i<n:=by
 unfold ixN at h;by_cases h0:0<=i
 .rw[gu h0]at h;by_cases h1:i<n
  .rw[gu h1]at h;have e:i.toNat=j:=ð h;exact⟨by rw[bO h0 h1,e],by lia,by lia,h1⟩
  .rw[gw h1]at h;cases h
 .rw[gw h0]at h;by_cases h1:-(n:Int)<=i
  .rw[gu h1]at h;have e:(i+n).toNat=j:=ð h;exact⟨by rw[bd ↥0 h1,e],by lia,h1,by lia⟩
  .rw[gw h1]at h;cases h
def W6(h:atI xs i=eQ v):∃j,seqIndex? i xs.length=eQ j/\xs[j]?=eQ v/\j<xs.length/\-(xs.length:Int)<=i/\i<xs.length:=by
 unfold atI at h;cases e:ixN xs.length i with
 |none=>rw[e]at h;cases h
 |some j =>rw[e]at h;let⟨h1,h2,h3,h4⟩:=MO e;exact⟨j,h1,h,h2,h3,h4⟩
abbrev MH(b:Expr):Prop:=∀o i,subscripted b eV o i=operate [o,i] (ϫ o i)
abbrev IxR(X:Cx)(r:R2):Prop :=
 ∀(ρ slice:Expr) (Â:List<|Ì×Obj) (s:Ç) (σ:St) (H:Hp) (x y:V) (v u:Ã) (Q:VK),Inv X Â σ H s->RelV x v->RelV y u->r x y H Q->
  subscripted slice eV v u=operate [v,u] (ϫ v u)->wpAny ↥2 X.A (aB ρ slice v u) (EP X Â σ Q) X.xe s
abbrev MtR(X:Cx)(id:String)(r:V->List V->Hp->VK->Prop):Prop :=
 ∀(Â:List<|Ì×Obj) (s:Ç) (σ:St) (H:Hp) (x:V) (xs:List V) (v:Ã) (us:List Ã) (Q:VK),Inv X Â σ H s->RelV x v->gf xs us->r x xs H Q->
  wpAny ↥2 X.A (call (.builtin id)<|v::us) (EP X Â σ Q) X.xe s
section
variable {X:Cx}{a b:Expr}{pos:Pos}
variable {r:R2}
def IxR.or(h:IxR X r)(h':IxR X r'):IxR X λx y H Q=>r x y H Q\/r' x y H Q:=by
 intro ρ slice Â s σ H x y v u Q I rx ry q hs;rcases q with q|q
 .exact h ρ slice Â s σ H x y v u Q I rx ry q hs
 .exact h' ρ slice Â s σ H x y v u Q I rx ry q hs
def MtR.or{id:String}{r r':V->List V->Hp->VK->Prop}(h:MtR X id r)(h':MtR X id r'):MtR X id λx xs H Q=>r x xs H Q\/r' x xs H Q:=by
 intro Â s σ H x xs v us Q I rx rs q;rcases q with q|q
 .exact h Â s σ H x xs v us Q I rx rs q
 .exact h' Â s σ H x xs v us Q I rx rs q
def Rg(hr:IxR X r)(ha:PE X a ta)(hb:PE X b tb)(hs:MH b):PE X (.Subscript a b pos)<|tOp r ta tb:=by k_sub;exact Subscript_ (Pu ha hb I h λv u s2 x y H2 I2 rx ry q=>hr a b Â s2 σ H2 x y v u Q I2 rx ry q<|hs _ _)
abbrev D0(K:Frag):R2:=λx y H Q=>∃p xs i v,x=.ref p/\y=.int i/\f9 K H p xs/\atI xs i=eQ v/\Q v H
abbrev Rp(K:Frag):R2:=λx y H Q=>∃p xs i v,x=.ref p/\y=.int i/\gc K H p xs/\atI xs i=eQ v/\Q v H
abbrev R6:R2:=λx y H Q=>∃z i c,x=.str z/\y=.int i/\z.length<=Þ/\atI z.cps.toList i=eQ c/\Q (.str ⟨#[c]⟩) H
def ix_list:IxR X<|D0 X.K:=by
 intro ρ slice Â s σ H x y v u Q I rx ry h hs;let⟨p,xs,i,z,rfl,rfl,hq,he,q⟩:=h;cases rx;let⟨t,rfl⟩:=ry;let⟨ø,r,pl,hz⟩:=I.list hq;let⟨j,h1,h2,h3,h4,h5⟩:=W6 he;let⟨w,ew,aA⟩:=r.get h2;have hl:=r.length;have hn:=Y4;have fin:EP X Â σ Q w s:=⟨z,H,I,aA,q⟩
 by_cases h0:0<=i
 .have hj:i.toNat=j:=by
   rw[bO h0 h5]at h1;exact ð h1
  exact item_listR pl.isList h0 ↥0 (by rw[hj];simpa using ew) fin hs
 .have hj:(i+(ø.toArray.size:Int)).toNat=j:=by
   rw[bd ↥0 h4]at h1;rw[Î,<-hl];exact ð h1
  exact d9 (x:=w) pl.isList.typeIs be.lookup
   (ee (Q:=λr s'=>r=w/\EP X Â σ Q r s') pl.isList ↥0 (by rw[Î]<;>lia) ↥0 (by rw[hj];simpa using ew) ⟨rfl,fin⟩) hs
def fc:IxR X<|Rp X.K:=by
 intro ρ slice Â s σ H x y v u Q I rx ry h hs;let⟨p,xs,i,z,rfl,rfl,hq,he,q⟩:=h;cases rx;let⟨t,rfl⟩:=ry;let⟨ø,r,pl,hz⟩:=I.tuple hq;let⟨j,h1,h2,h3,h4,h5⟩:=W6 he;let⟨w,ew,aA⟩:=r.get h2;have hl:=r.length;have hn:=Y4;have fin:EP X Â σ Q w s:=⟨z,H,I,aA,q⟩
 exact d9 (x:=w) pl.typeIs slot_tuple_getitem.lookup
  (getItem_tuple (j:=j) (Q:=λr s'=>r=w/\EP X Â σ Q r s') pl ↥0 ↥0 (by rw[Î,<-hl];exact h1) ⇑ew ⟨rfl,fin⟩) hs
def LD:IxR X R6:=by
 intro ρ slice Â s σ H x y v u Q I rx ry h hs;let⟨z,i,c,rfl,rfl,hz,he,q⟩:=h;let⟨t,rfl⟩:=rx;let⟨t',rfl⟩:=ry;let⟨j,h1,h2,h3,h4,h5⟩:=W6 he;have hl:z.cps.toList.length=z.length:=by simp[Str.length]
 rw[hl]at h1 h4 h5;have hn:=Y4;exact tail_any (typeIs_str s z t) slot_str_getitem.lookup (getItem_str (c:=c) (by
   have e1:gB (i < -(2 ^ 63:Int))=eV:=gx ↥0
   have e2:gB (i≥2 ^ 63)=eV:=gx ↥0
   rw[e1,e2,Χ]) (by rw[h1];simpa using h2) ⟨.str ⟨#[c]⟩,H,I.tok _,⟨_,rfl⟩,q⟩) hs
abbrev rIx(K:Frag):R2:=λx y H Q=>D0 K x y H Q\/Rp K x y H Q\/R6 x y H Q
def ix_seq:IxR X<|rIx X.K:=ix_list.or (fc.or LD)
def O2(ø:List Ã)(n j:Nat)(u:Ã):Θ (·.setIfInBounds j u) {cls:=.type "list",data:=.seq ø.toArray n}={cls:=.type "list",data:=.seq (ø.set j u).toArray n}:=by simp[Θ]
def Inv.lst{Â:List (Ì×Obj)}{σ:St}{H:Hp}{s:Ç}{p:Ì}{xs:List V}(I:Inv X Â σ H s)(h:H p=eQ (.lst xs)) :
  ∃(ø:List Ã) (n:Nat),gf xs ø/\s.heap.get? p=eQ {cls:=.type "list",data:=.seq ø.toArray n}/\xs.length<=Þ:=by
 let⟨z,ø,n,r,e⟩:=I.hok p _ h;exact⟨ø,n,r,e,z⟩
variable {Â:List (Ì×Obj)}{σ:St}{H:Hp}{s:Ç}
def Inv.lstUpd{p:Ì}{xs ys:List V}{ø its':List Ã}{n':Nat}{f:Obj->Obj}(I:Inv X Â σ H s)(h:H p=eQ (.lst xs))
  (ho:s.heap.get? p=eQ {cls:=.type "list",data:=.seq ø.toArray n}) (hf:f {cls:=.type "list",data:=.seq ø.toArray n}={cls:=.type "list",data:=.seq its'.toArray n'}) (r:gf ys its') (hz:ys.length<=Þ) (t:Nat) :
  Inv X Â σ (upd H p<|.lst ys) {s with heap:=s.heap.update p f,toks:=t}:=by
 have e:(s.heap.update p f).get? p=eQ {cls:=.type "list",data:=.seq its'.toArray n'}:=by rw[ĉ f ho (by rw[hf]<;>rfl),hf]
 refine I.write (x:=p) (e:=p) (by rw[h];trivial) (.inl rfl) (λb u hb q=>(ô _ _<|Ne.symm hb).trans q) ⟨_,e⟩ ?_;exact⟨hz,its',n',r,e⟩
abbrev Ip:V->V->V->Hp->(Hp->Prop)->Prop:=λo i v H Q=>∃p xs k j,o=.ref p/\i=.int k/\H p=eQ (.lst xs)/\ixN xs.length k=eQ j/\Q (upd H p<|.lst<|xs.set j v)
def NU:PSet X Ip:=by
 intro Â s σ H o i v ov iv u Q I ro ri rv h;let⟨p,xs,k,j,rfl,rfl,hp,hj,q⟩:=h;cases ro;let⟨t,rfl⟩:=ri;let⟨ø,n,r,ho,hz⟩:=I.lst hp;let⟨h1,h2,h3,h4⟩:=MO hj;have hl:=r.length;have hn:=Y4;have I':Inv X Â σ (upd H p<|.lst<|xs.set j v) {s with heap:=s.heap.update p (Θ (·.setIfInBounds j u))} :=
  I.lstUpd hp ho (O2 ø n j u) (r.set rv j) (by rw[ϙ];exact hz) s.toks
 by_cases h0:0<=k
 .have hk:k.toNat=j:=by
   rw[bO h0 h4]at h1;exact ð h1
  exact PySem.W.ki_setAt ho h0 ↥0 (by rw[Î,<-hl];exact h4) (by rw[hk];exact⟨_,I',q⟩)
 .have hk:(k+(ø.toArray.size:Int)).toNat=j:=by
   rw[bd ↥0 h3]at h1;rw[Î,<-hl];exact ð h1
  exact PySem.W.ki_setBack ho ↥0 (by rw[Î,<-hl];exact h3) ↥0 (by rw[hk];exact⟨_,I',q⟩)
def Nz(lo hi:Option Int)(n:Nat):(υ lo hi eS n).1=((HT.sIx n 0 lo:Nat):Int)/\(υ lo hi eS n).2.1=((HT.sIx n n hi:Nat):Int)/\(υ lo hi eS n).2.2=1:=by
 refine⟨?_,?_,rfl⟩
 .cases lo with
  |none=>simp[υ,HT.sIx]
  |some i =>
   simp![υ,HT.sIx,dL,show(1:Int) > 0 by decide,if_true];by_cases h:i<0
   .simp![h,if_true]<;>lia
   .simp![h,if_false]<;>lia
 .cases hi with
  |none=>simp[υ,HT.sIx]
  |some i =>
   simp![υ,HT.sIx,dL,show(1:Int) > 0 by decide,if_true];by_cases h:i<0
   .simp![h,if_true]<;>lia
   .simp![h,if_false]<;>lia
def KN(ø:List Ã)(lo hi:Option Int):slicePick ø.toArray lo hi eS=((ø.drop<|HT.sIx ø.length 0 lo).take<|HT.sIx ø.length ø.length hi - HT.sIx ø.length 0 lo).toArray:=by let⟨h1,h2,h3⟩:=Nz lo hi ø.toArray.size;unfold slicePick;rw[h1,h2,h3];simp![sliceRange_one,pick_run,Î]<;>rfl
abbrev Q8(K:Frag):V->Option Int->Option Int->Hp->VK->Prop:=λx lo hi H Q=>∃a xs,x=.ref a/\f9 K H a xs/\∀p,H p=eS->Q (.ref p) (upd H p<|.lst<|M1 xs lo hi)
def sl_list:SlR X<|Q8 X.K:=by intro Â s σ H x v vl vu lo hi sl Q I rx hs pl pu h;let⟨a,xs,rfl,hx,q⟩:=h;cases rx;let⟨ø,r,ht,hz⟩:=I.list hx;have hlen:=r.length;refine⟨"list",_,be.lookup,ht.isList.typeIs,?_⟩;refine dj ht.isList hs pl pu .none (by simp) ?_ (by rw[Î]<;>lia);rw[KN,<-hlen];refine⟨.ref s.heap.objs.size,_,I.laid (t':=s.toks) (o:=.lst<|M1 xs lo hi) (λb ob q=>Ä _ q) (Ï _) ?_,rfl,q _<|I.hok.fresh<|Ï _⟩;exact⟨Ö (WX xs lo hi) hz,_,0,(r.drop<|HT.sIx xs.length 0 lo).take<|HT.sIx xs.length xs.length hi - HT.sIx xs.length 0 lo,Ò _ rfl⟩
abbrev eqV:V->V->Bool
 |.non,.non=>eU
 |.bl a,.bl b=>a==b
 |.bl a,.int b=>(if a then 1 else 0)==b
 |.int a,.bl b=>a==(if b then 1 else 0)
 |.int a,.int b=>a==b
 |.str a,.str b=>a==b
 |_,_=>eV
abbrev inV(x:V)(xs:List V):Bool:=xs.any λy=>eqV y x
def MM:OpR X (ñ .NotIn) λx y H Q=>∃i j,x=.str i/\y=.str j/\Q (.bl (!(!(Builtin.Str.occurrences j i 0 j.length 1).isEmpty))) H:=by k_ne;let⟨i,j,rfl,rfl,q⟩:=h;let⟨t,rfl⟩:=rx;let⟨t',rfl⟩:=ry;exact notIn_str ⟨.bl _,H,I,rfl,q⟩
def call_len_seq:ff X (.builtin "len") λxs H Q=>∃p ys,xs=[.ref p]/\(f9 X.K H p ys\/gc X.K H p ys)/\Q (.int ys.length) H:=by
 k_put;let⟨p,ys,rfl,hq,q⟩:=h;let⟨u,rfl,rx⟩:=ZN r;cases rx;have hn:=Y4;rcases hq with hq|hq
 .obtain⟨ø,r',pl,hz⟩:=I.list hq;have hlen:=r'.length;exact Calls.call_len_list pl.isList (by simp![Î]<;>lia) ⟨.int ys.length,H,I.tok _,⟨s.toks+1,by rw[Î,hlen]⟩,q⟩
 .obtain⟨ø,r',pl,hz⟩:=I.tuple hq;have hlen:=r'.length;exact len_tuple pl (by simp![Î]<;>lia) ⟨.int ys.length,H,I.tok _,⟨s.toks+1,by rw[Î,hlen]⟩,q⟩
def Nb:ff X (.builtin "len") λxs H Q=>∃z,xs=[.str z]/\z.length<=Þ/\Q (.int z.length) H:=by k_put;let⟨z,rfl,hz,q⟩:=h;let⟨u,rfl,t,rfl⟩:=ZN r;have hn:=Y4;exact len_str ↥0 ⟨.int z.length,H,I.tok _,⟨_,rfl⟩,q⟩
def ff.or{f:Ã}{r r':List V->Hp->VK->Prop}(h:ff X f r)(h':ff X f r'):ff X f λxs H Q=>r xs H Q\/r' xs H Q:=by
 intro Â s σ H xs us Q I rs q;rcases q with q|q
 .exact h Â s σ H xs us Q I rs q
 .exact h' Â s σ H xs us Q I rs q
def MP:ff X (.type "list") λxs H Q=>∃p ys,xs=[.ref p]/\(f9 X.K H p ys\/gc X.K H p ys)/\∀l,H l=eS->Q (.ref l) (upd H l<|.lst ys):=by
 k_put;let⟨p,ys,rfl,hq,q⟩:=h;let⟨u,rfl,rx⟩:=ZN r;cases rx;have fin:∀(ø:List Ã),gf ys ø->ys.length<=Þ->∀(h':Ď) (c':Nat),(∀b o',s.heap.get? b=eQ o'->h'.get? b=eQ o')->
   h'.get? s.heap.objs.size=eQ {cls:=.type "list",dict:=eS,data:=.seq ø.toArray c',slots:=#[]}->EP X Â σ Q (.ref s.heap.objs.size) {s with heap:=h'}:=λø r' hz h' c' kp e =>
  ⟨.ref s.heap.objs.size,_,I.laid (t':=s.toks) kp (Ï _) (show fg X.prog X.w _ h' _ (.lst ys) from ⟨hz,ø,c',r',e⟩),rfl,q _<|I.hok.fresh<|Ï _⟩
 rcases hq with hq|hq
 .obtain⟨ø,r',pl,hz⟩:=I.list hq;have hlen:=r'.length;let⟨o,ho,hc,n,hd⟩:=pl.isList;exact call_list_seq p (.inl rfl) ho hc hd (λh' c' kp e=>fin ø r' hz h' c' kp e) (by simp![Î]<;>lia)
 .obtain⟨ø,r',pl,hz⟩:=I.tuple hq;have hlen:=r'.length;let⟨o,ho,hc,n,hd⟩:=pl;exact call_list_seq p (.inr rfl) ho hc hd (λh' c' kp e=>fin ø r' hz h' c' kp e) (by simp![Î]<;>lia)
def KF:ff X (.type "tuple") λxs H Q=>∃p ys,xs=[.ref p]/\((f9 X.K H p ys/\∀l,H l=eS->Q (.ref l) (upd H l<|.tup ys))\/(gc X.K H p ys/\Q (.ref p) H)):=by
 k_put;let⟨p,ys,rfl,h⟩:=h;let⟨u,rfl,rx⟩:=ZN r;cases rx;rcases h with⟨hq,q⟩|⟨hq,q⟩
 .obtain⟨ø,r',pl,hz⟩:=I.list hq;have hlen:=r'.length;refine call_tuple_list pl.isList (λh' kp=>?_) (by simp![Î]<;>lia);have I1:Inv X Â σ H {s with heap:=h'}:=I.kept (t':=s.toks) kp;have I2:Inv X Â σ (upd H h'.objs.size<|.tup ys) {s with heap:=h'.push {cls:=.type "tuple",data:=.seq ø.toArray}} :=
   I1.laid (t':=s.toks) (λb o e=>Ä _ e) (Ï _) (show fg X.prog X.w _ _ _ (.tup ys) from ⟨hz,ø,r',IsTup.new _ _⟩)
  exact⟨.ref h'.objs.size,_,I2,rfl,q _<|I1.hok.fresh<|Ï _⟩
 .obtain⟨ø,r',pl,hz⟩:=I.tuple hq;exact call_tuple_same pl ⟨.ref p,H,I,rfl,q⟩
abbrev tyV(K:Frag)(T:String)(x:V)(H:Hp):Prop:=match x with
 |.str _=>T = "str"
 |.int _=>T = "int"
 |.ref p=>(T = "list"/\∃xs,f9 K H p xs)\/(T = "tuple"/\∃o,K.lookup p=eQ o/\o.cls=.type "tuple"/\o.dict=eS)\/
   (T = "dict"/\((∃kvs,H p=eQ (.dK kvs))\/∃kvs,H p=eQ (.dT kvs)))\/(T = "set"/\∃S n,H p=eQ (.set S n))
 |_=>False
def Qu{T:String}(I:Inv X Â σ H s)(r:RelV x v)(ty:tyV X.K T x H) :
  s.TypeIs v T/\∀a,v=.ref a->∃ob,s.heap.get? a=eQ ob/\ob.dict=eS:=by
 cases x with
 |str z =>let⟨t,rfl⟩:=r;cases (show T = "str" from ty);exact⟨typeIs_str s z t,λ_ e=>nomatch e⟩
 |int i =>let⟨t,rfl⟩:=r;cases (show T = "int" from ty);exact⟨typeIs_int s i t,λ_ e=>nomatch e⟩
 |ref p =>
  cases r;rcases ty with⟨rfl,xs,hq⟩|⟨rfl,o,hk,hc,hd⟩|⟨rfl,hk⟩|⟨rfl,S,n,hk⟩
  .obtain⟨ø,_,pl,_⟩:=I.list hq;refine⟨pl.isList.typeIs,λa e=>?_⟩;cases e;let⟨o,n,e,c,hd,_⟩:=pl;exact⟨o,e,hd⟩
  .refine⟨⟨o,I.kIn p o hk,hc⟩,λa e=>?_⟩;cases e;exact⟨o,I.kIn _ o hk,hd⟩
  .have z:∃o,s.heap.get? p=eQ o/\o.ExactDict:=by
    rcases hk with⟨kvs,hk⟩|⟨kvs,hk⟩
    .obtain⟨_,_,_,_,o,_,_,e,ex,_⟩:=I.hok p _ hk;exact⟨o,e,ex⟩
    .obtain⟨_,_,_,_,o,_,_,e,ex,_⟩:=I.hok p _ hk;exact⟨o,e,ex⟩
   let⟨o,e,ex⟩:=z;refine⟨⟨o,e,ex.1⟩,λa e2=>?_⟩;cases e2;exact⟨o,e,ex.2.1⟩
  .obtain⟨o,_,_,_,e,ex,_⟩:=I.hok p _ hk;refine⟨⟨o,e,ex.1⟩,λa e2=>?_⟩;cases e2;exact⟨o,e,ex.2.1⟩
 |_=>exact Ŋ ty
abbrev tBM(K:Frag)(T:String)(r:V->List V->Hp->VK->Prop)(to:TE)(t:TA):TE:=λσ H Q=>to σ H λx H1=>tyV K T x H1/\t σ H1 λxs H2=>r x xs H2 Q
variable {o e:Expr}{t:TA}{name:Str}{œ Ũ:Pos}{T id:String}{r:V->List V->Hp->VK->Prop}
def RD(pa:PlainAttrs T)(slot:Slot T name id)(hty:typeOf (.builtin id)=pure (.type "method_descriptor"))(hm:MtR X id r)(ho:PE X o to)(ha:PA X (e::es) t)(aR:Ĭ o name X.env (eval o X.env)=eval o X.env:=by rfl)(ϸ:((Ī Ũ<|à (e::es) X.env).all (λx=>!x.1)&&(Ž Ũ<|ŏ [] X.env).all (λx=>x.1.isSome)
    && gB ((e::es).length+([]:List bf).length+(if([]:List bf).isEmpty then 0 else 1)<30))=eU:=by rfl)(aS:(œ.endLine==Ũ.line)=eU:=by rfl)(hs:à (e::es) X.env=(eV,eval e X.env)::à es X.env:=by rfl)(cO:(Ī Ũ<|à es X.env).any (·.1)=eV:=by rfl) :
  PE X (.Call (.Attribute o name œ) (e::es) [] Ũ) (tBM X.K T r to t):=by
 k_sub;refine wpAny_Call_method_late aR ϸ aS rfl<|thn (ho Â s σ H _ I h) λv s1 ⟨x,H1,I1,r1,ty,q1⟩=>?_;let⟨h1,h2⟩:=Qu I1 r1 ty;refine⟨T,id,pa,slot,hty,h1,h2,?_⟩;have hA:=ha Ũ Â s1 σ H1 _ I1 q1;rw[hs]at hA ⊢;refine Calls.callWith_builtin (by show(eV||(Ī Ũ<|à es X.env).any (·.1))=eV;rw[cO]<;>rfl)<|Calls.evalArgs_plain ?_;exact thn hA λus s2 ⟨vs,H2,I2,r2,q2⟩=>hm Â s2 σ H2 x vs v us Q I2 r1 r2 q2
/- xs.append(e),list.index on a module's tuple .. are MtR facts of 06m -/
end
abbrev MtM(X:Cx)(id:String)(r:V->List V->Hp->VK->Prop):Prop :=
 ∀(Â:List<|Ì×Obj) (s:Ç) (σ:St) (H:Hp) (x:V) (xs:List V) (v:Ã) (us:List Ã) (Q:VK),Inv X Â σ H s->RelV x v->gf xs us->r x xs H Q->
  wpAny ↥2 X.A (call (.builtin id)<|v::us) (EP X Â σ Q) X.xe s
variable {x:V}{us:List Ã}
def gf.one(r:gf [x] us):∃u,us=[u]/\RelV x u:=ZN r
def gf.two(r:gf [x,y] us):∃u v,us=[u,v]/\RelV x u/\RelV y v:=II r
def gf.eraseIdx:∀{xs:List V}{us:List Ã}(i:Nat),gf xs us->gf (xs.eraseIdx i) (us.eraseIdx i)
 |_,_,_,.nil=>.nil
 |_,_,0,.cons _ t=>t
 |_,_,i+1,.cons r t=>.cons r<|gf.eraseIdx i t
def gf.reverse(h:gf xs us):gf xs.reverse us.reverse:=by
 induction h with
 |nil=>exact .nil
 |cons r t ih=>rw[Ρ,Ρ];exact gf.append ih<|.cons r .nil
def gf.rep(h:gf xs us):∀k:Nat,gf (Û k xs).flatten (Û k us).flatten
 |0=>.nil
 |k+1=>by rw[Ē,Ē,ň,ň];exact gf.append h<|gf.rep h k
def WN:∀(l:List α) (i:Nat),(l.eraseIdx i).length<=l.length
 |[],_=>Ï _
 |_::_,0=>ŋ _
 |_::r,i+1=>ώ<|WN r i
def KY(ø:List Ã):∀(k:Nat) (ĸ:List Ã),
  dM (λx1 x2=>x1++x2) ĸ.toArray (Û k ø.toArray)=(ĸ++(Û k ø).flatten).toArray
 |0,ĸ=>by simp
 |k+1,ĸ=>by
  have e:ĸ.toArray++ø.toArray=(ĸ++ø).toArray:=by simp
  have e2:(ĸ++ø)++(Û k ø).flatten=ĸ++(Û (k+1) ø).flatten:=by rw[Ē,ň,Ĝ]
  rw[<-e2,<-KY ø k (ĸ++ø),<-e,Ē,ķ]
section
variable {X:Cx}{Â:List (Ì×Obj)}{σ:St}{H:Hp}{s:Ç}{l b:Ì}{xs ys:List V}
variable {ø:List Ã}{n:Nat}{t':Nat}
def Inv.lset(I:Inv X Â σ H s)(hH:H l=eQ (.lst xs))(e:s.heap.get? l=eQ {cls:=.type "list",data:=.seq ø.toArray n})(hf:f ø.toArray=its'.toArray)(hv:gf ys its')(hz:ys.length<=Þ) :
  Inv X Â σ (upd H l<|.lst ys) {s with heap:=s.heap.update l<|Θ f,toks:=t'}:=by
 have q:=PySem.IsL.update e f;rw[hf]at q;refine I.write (x:=l) (e:=l) (by rw[hH];exact trivial) (.inl rfl) (λb' u hb hu=>(ô s.heap (Θ f)<|Ne.symm hb).trans hu) ⟨_,q⟩ ?_;exact⟨hz,its',_,hv,q⟩
def Inv.lnew(I:Inv X Â σ H s)(hv:gf ys ø)(hz:ys.length<=Þ) :
  Inv X Â σ (upd H s.heap.objs.size<|.lst ys) {s with heap:=s.heap.push {cls:=.type "list",data:=.seq ø.toArray},toks:=t'} :=
 I.laid (λ_ _ q=>Ä _ q) (Ï _) ⟨hz,ø,0,hv,Ò _ rfl⟩
def Inv.fresh(I:Inv X Â σ H s):H s.heap.objs.size=eS:=I.hok.fresh (Ï _)
def Inv.lstM(I:Inv X Â σ H s)(hH:H l=eQ (.lst xs)):xs.length<=Þ/\∃(ø:List Ã) (n:Nat),gf xs ø/\xs.length=ø.length/\s.heap.get? l=eQ {cls:=.type "list",data:=.seq ø.toArray n}:=by let⟨z,ø,n,r,e⟩:=I.hok l _ hH;exact⟨z,ø,n,r,r.length,e⟩
def CZ(h:n<=Þ):Builtin.List.listTooLong n=eV:=by unfold Builtin.List.listTooLong;exact gx ↥0
end
section
abbrev UO:V->List V->Hp->VK->Prop:=λx vs H Q=>∃l xs y,x=.ref l/\vs=[y]/\H l=eQ (.lst xs)/\xs.length<Þ/\Q .non (upd H l<|.lst<|xs++[y])
def BA:MtM X "list.append" UO:=by intro Â s σ H x vs v us Q I rx rv h;let⟨l,xs,y,rfl,rfl,hH,hz,q⟩:=h;cases rx;let⟨u,rfl,ru⟩:=rv.one;let⟨z,ø,n,r,hl,e⟩:=I.lstM hH;refine aK F.slot_list_append ⟨_,e,rfl⟩ F.entry_list_append (F.args_list_append_2 _ _) (PySem.list_append l ø.toArray n u<|by rw[Î];lia) ⟨e,?_⟩;refine⟨.non,_,I.lset (its':=ø++[u]) hH e (by simp) (r.append<|.cons ru .nil) ?_,rfl,q⟩;rw[í,ϝ];lia
abbrev E1:V->List V->Hp->VK->Prop:=λx vs H Q=>∃l xs i k y,x=.ref l/\vs=[.int i]/\H l=eQ (.lst xs)/\-(2 ^ 63)<=i/\i<2 ^ 63/\seqIndex? i xs.length=eQ k/\xs[k]?=eQ y/\Q y (upd H l<|.lst<|xs.eraseIdx k)
def CJ:MtM X "list.pop" E1:=by
 intro Â s σ H x vs v us Q I rx rv h;let⟨l,xs,i,k,y,rfl,rfl,hH,h1,h2,hk,hy,q⟩:=h;cases rx;let⟨u,rfl,ru⟩:=rv.one;let⟨t,rfl⟩:=ru;let⟨z,ø,n,r,hl,e⟩:=I.lstM hH;let⟨w,hw,aA⟩:=r.get hy;refine aK F.slot_list_pop ⟨_,e,rfl⟩ F.entry_list_pop (F.args_list_pop_2 _ _)
  (MeetsSeq.list_pop_at l ø.toArray n i t k w (fitsIndex_both h1 h2) (by rw[Î,<-hl];exact hk) (by rw[<-Ĉ];exact hw)<|by rw[Î];lia) ⟨e,?_⟩
 refine⟨y,_,I.lset (its':=ø.eraseIdx k) hH e ?_ (r.eraseIdx k) ?_,aA,q⟩
 .show ø.toArray.eraseIdxIfInBounds k=(ø.eraseIdx k).toArray;rw[ax]
 .have:=WN xs k;lia
abbrev QJ:R2:=λx y H Q=>∃l b xs zs,x=.ref l/\y=.ref b/\H l=eQ (.lst xs)/\H b=eQ (.lst zs)/\xs.length+zs.length<=Þ/\∀p,H p=eS->Q (.ref p) (upd H p<|.lst<|xs++zs)
def IY:OpR X (ō .Add) QJ:=by
 k_ne;let⟨l,b,xs,zs,rfl,rfl,hH,hB,hz,q⟩:=h;cases rx;cases ry;let⟨z,ø,n,r,hl,e⟩:=I.lstM hH;let⟨z2,bw,n2,r2,hl2,e2⟩:=I.lstM hB;refine PySem.P.add_list e e2 ?_ (by rw[Î,Î];lia);have ea:ø.toArray++bw.toArray=(ø++bw).toArray:=by simp
 rw[ea];exact⟨.ref _,_,I.lnew (t':=s.toks) (r.append r2) (by rw[í];lia),rfl,q _ I.fresh⟩
abbrev R4:R2:=λx y H Q=>∃l k xs,x=.ref l/\y=.int k/\H l=eQ (.lst xs)/\-(2 ^ 63)<=k/\k<2 ^ 63/\xs.length*k.toNat<=Þ/\
 ∀p,H p=eS->Q (.ref p) (upd H p<|.lst (Û k.toNat xs).flatten)
def FN(xs:List α)(k:Nat):(Û k xs).flatten.length=k*xs.length:=by
 induction k with
 |zero=>simp
 |succ k ih=>rw[Ē,ň,í,ih,Nat.succ_mul,Nat.add_comm]
def op_rep:OpR X (ō .Mult) R4:=by
 k_ne;let⟨l,k,xs,rfl,rfl,hH,h1,h2,hz,q⟩:=h;cases rx;let⟨t,rfl⟩:=ry;let⟨z,ø,n,r,hl,e⟩:=I.lstM hH;have hlen:ø.toArray.size*k.toNat<=Þ:=by rw[Î,<-hl];exact hz
 have hcap:¬ ø.toArray.size*k.toNat > (2 ^ 63 - 1) / 8:=by
  have:(Þ:Nat)<=(2 ^ 63 - 1) / 8:=by decide
  lia
 have hfit:¬ (!Builtin.List.listFitsIndex k)=eU:=by rw[fitsIndex_both h1 h2];exact û
 have hlong:¬ Builtin.List.listTooLong (ø.toArray.size*k.toNat)=eU:=by rw[CZ hlen];exact û
 have hnew:dM (λx1 x2=>x1++x2) #[] (Û (if ø.toArray.isEmpty=eU then 0 else k.toNat) ø.toArray)=(Û k.toNat ø).flatten.toArray:=by
  have f0:∀m:Nat,dM (λx1 x2=>x1++x2) #[] (Û m ø.toArray)=(Û m ø).flatten.toArray:=λm=>by have:=KY ø m [];rw[aY]at this;exact this
  rw[f0];cases ø with
  |nil=>simp
  |cons a r'=>rw[gw<|by simp]
 refine wpAny_binaryOp_repeat_ref (T:="list") (U:="int") ↥1 ⟨_,e,rfl⟩ (λs'=>typeIs_int s' k t) noFill_list_mul F.fills_int_mul F.slot_int_rmul repeat_list F.slot_int_index.lookup
  (aK F.slot_int_rmul (typeIs_int s k t) F.entry_int_rmul (F.args_int_rmul_2 _ _) (int___rmul___int_list k t l ø.toArray n)
    ⟨e,rfl,⟨_,e,rfl⟩,aK F.slot_list_mul ⟨_,e,rfl⟩ F.entry_list_mul (F.args_list_mul_2 _ _) (AutoListH.list___mul___list_int_3 l ø.toArray n k t hfit hcap hlong) ⟨e,?_⟩⟩)
 rw[hnew];exact⟨.ref _,_,I.lnew (t':=s.toks) (r.rep k.toNat) (by rw[FN,cD];exact hz),rfl,q _ I.fresh⟩
end
end L2
namespace Att
open PySem PySem.W PySem.Calls PyProof.Rows
variable {P:Params}{h:Ď}
def W0:∀(ns:List Int) (vs:List Ã),WellAll P h vs (ns.map WData.int)->ą vs ns:=by
 intro ns;induction ns with
 |nil =>intro vs w;rw[ϒ]at w;cases w;exact .nil
 |cons n ns ih =>
  intro vs w;rw[Ñ]at w;cases w with
  |cons a b =>cases a;exact .cons _ _<|ih _ b
variable {l:OpenLaw}{n:Nat}
def Be(hn:l.most=eQ n)(hpre:l.row.toRowW.claim.pre args=eU)(hwl:WellAll P h vals args) :
  ∃a vs ns,vals=[Value.ref a]/\args=[WData.list<|ns.map WData.int]/\h.get? a=eQ {cls:=.type "list",data:=.seq vs.toArray}/\ą vs ns/\ns.length<=n:=by
 have hsh:WShape.hasAll [] args [.list .int]=eU:=(pre_splitW hpre).1;have hc:l.pre.holds [] {args:=args}=eU:=(pre_splitW hpre).2;let⟨d,r,rfl,h1,h2⟩:=hasAllW_cons hsh;obtain rfl:=hasAllW_nil h2;let⟨xs,rfl,h3⟩:=hasW_list h1;let⟨ns,rfl⟩:=items_int h3;have hlen:ns.length<=n:=by
  unfold OpenLaw.pre at hc;have h4:(WTm.not<|.lt (.lit<|.int (n:Int))<|.len<|.arg 0).holds [] {args:=[.list<|ns.map .int]}=eU:=by have h4:=(holds_andW hc).1;rw[hn]at h4;exact h4
  have h5:=condW_of h4<|w_not<|w_lt w_lit<|w_len_list<|w_arg rfl;rw[Á]at h5;refine Nat.le_of_not_lt λq=>?_;have q':(n:Int)<((ns.length:Nat):Int):=by lia
  first
   |(rw[gy q']at h5;exact gA h5<|by decide)
   |(simp at h5;lia)
 cases hwl with
 |cons w1 w2 =>
  cases w2;cases w1 with
  |list ho hall=>exact⟨_,_,ns,rfl,rfl,ho,W0 ns _ hall,hlen⟩
def AV(l:OpenLaw)(args:List WData):l.row.toRowW.claim.post args (.bool eU) args=eU :=
 postW_of (r:=l.row.toRowW) (X:=(eU==eU))
  (show WShape.has [] (.bool eU) .bool=eU by first|rfl|decide|simp[WShape.has,WShape.arms,WShape.armsAll])
  (show(WTm.eq .res<|.lit<|.bool eU).value [] {args:=args,res:=eQ<|.bool eU,after:=args}=eQ (.bool<|eU==eU) from w_eq_bool (w_res rfl) w_lit) rfl
def attach_call(hn:l.most=eQ n)(hdf:d.params.defaults=[])(call:∀(w:ă) (s₀ ħ:Ç) (mg mb:Str->Option Ã) (fa:Ì) (o:Obj) (pm cd doc:Ã) (a:Ì) (vs:List Ã) (ns:List Int),
    Ground q loose [] XP w s₀ mg mb ħ.heap->YP w ħ.heap->
    ħ.heap.get? fa=eQ o->o.data=.func (docDef d.name d.params d.body d.scope pm cd doc)->ħ.heap.CodeRec cd d.name->mg d.name=eQ (.ref fa)->
    ħ.heap.get? a=eQ {cls:=.type "list",data:=.seq vs.toArray}->ą vs ns->ns.length<=n->ħ.gens=#[]->
    codeAny (ß l.prog w) am (.call (.ref fa) ⟨[.ref a],[]⟩) (λr s'=>r=.ok (.ret<|.bool eU)/\OldK ħ.heap s'.heap/\s'.os=ħ.os/\Ϗ s'.gens) ħ) :
  WalkO q loose XP YP l.row.toRowW d [] (λf vs=>PySem.call f vs):=by
 intro w s₀ ħ mg mb G Y fa o pm cd doc dV kV ho hd aP hD hmg hg args vals as hpre hlay hrd hwl hlo;obtain rfl:dV=.none:=Dflts.none hD hdf;obtain rfl:kV=.none:=Dflts.noKw hD;let⟨a,vs,ns,rfl,rfl,dz,hints,hlen⟩:=Be hn hpre hwl;refine enter_call<|ż (call w s₀ ħ mg mb fa o pm cd doc a vs ns G Y ho (fd_plain hd) aP hmg dz hints hlen hg) λr s' hq=>?_;let⟨rfl,h2,h3,h4⟩:=hq;exact⟨.inl ⟨.bool eU,.bool eU,[],rfl,λ_=>rfl,.bool eU,AV l _,λ_=>⟨List.Pairwise.nil,λ_ hm=>(nomatch hm)⟩⟩,h2,h3,h4⟩
end Att
namespace L2
open PySem PySem.Spec PyProof.Rows
def WH:∀{vs:List Ã}{ns:List Int},ą vs ns->gf (ns.map V.int) vs
 |_,_,.nil=>.nil
 |_,_,.cons n t h=>.cons ⟨t,rfl⟩<|WH h
abbrev L6(H:Hp):Prop:=∀b,H b=eS\/∃o xs,H b=eQ (.frz o<|.lst xs)
def D4{K:Frag}(KX:K.In ħ.heap)(hns:ħ.heap.Ns č mg)(hb:ħ.heap.Ns builtinsNs mb)(hbb:∀x:Str,x≠"__name__"->mb x=Š x)(hlim:ħ.heap.NoLimit)(hg:ħ.gens=#[])(ha:ħ.heap.get? a=eQ {cls:=.type "list",data:=.seq vs.toArray})(hi:ą vs ns)(hl:ns.length<=Þ)(hr:fG k am)(F:∀base:Ď,K.In base->base.Ns č mg->fH P w K mg base CX k fa fd [x] sp)(hbind:∀(s:Ç) (u:Ã),BindsTo s fd ⟨[u],[]⟩ [(x,u)])(hsp:∀H:Hp,L6 H->f9 K H a (ns.map V.int)->sp [.ref a] H (λv _=>v=.bl eU) λ_ _ _=>False)(hCX:∀H e s',CX [] H ħ (λ_ _ _=>False) e s'->False) :
  codeAny (ß P w) am (.call (.ref fa) ⟨[.ref a],[]⟩) (λr s'=>r=.ok (.ret<|.bool eU)/\OldK ħ.heap s'.heap/\s'.os=ħ.os/\Ϗ s'.gens) ħ:=by
 have rv:=WH hi;have fS:=hi.length;have core:∀H:Hp,L6 H->f9 K H a (ns.map V.int)->HOk P w H ħ.heap->(∀b,H b≠eS->b=a)->(H a≠eS->K.lookup a=eS)->
   codeAny (ß P w) am (.call (.ref fa) ⟨[.ref a],[]⟩) (λr s'=>r=.ok (.ret<|.bool eU)/\OldK ħ.heap s'.heap/\s'.os=ħ.os/\Ϗ s'.gens) ħ:=by
  intro H hO hS hok hA hK;have de:∀{b:Ì}{o:Obj},ħ.heap.get? b=eQ o->H b=eS->(Nl ħ.heap H).get? b=eQ o:=λe n=>DX e n;have noA:∀{b:Ì}{o:Obj}{es:Array Ϣ}{ep:Nat},ħ.heap.get? b=eQ o->o.data=.dict es ep->H b=eS:=λ{b o es ep} e d=>by
   cases q:H b with
   |none=>rfl
   |some u =>have e':b=a:=hA b (by rw[q];simp);subst e';rw[ha]at e;cases e;have d':Data.seq vs.toArray _=Data.dict es ep:=d;cases d'
  have nsK:∀{b:Ì}{m:Str->Option Ã},ħ.heap.Ns b m->(Nl ħ.heap H).Ns b m:=λ{b m} ⟨o,es,ep,e,d,r⟩=>⟨o,es,ep,de e<|noA e d,d,r⟩
  have hKb:K.In<|Nl ħ.heap H:=λb o e=>de (KX b o e) (by
    cases q:H b with
    |none=>rfl
    |some u =>
      have e':b=a:=hA b (by rw[q];simp)
      subst e'
      rw[hK<|by rw[q];simp]at e;cases e)
  have hM:Mod K mg<|Nl ħ.heap H:=⟨hKb,nsK hns,⟨mb,nsK hb,hbb⟩,let ⟨mc,h1,h2⟩:=hlim;⟨mc,nsK h1,h2⟩⟩
  have e0:Env0 P w K mg (Nl ħ.heap H) am [] ħ H:=⟨rfl,hM,λb o e=>Fx e,Nat.le_of_eq<|AJ _ _,trivial,λb hb=>gA (show b∈([]:List Ì) from hb) (by simp),hok,.of_eq hg⟩
  refine ż ((F _ hKb<|nsK hns).run am [] ħ H ⟨[.ref a],[]⟩ [.ref a] [.ref a] _ _ hr e0 (hbind ħ<|.ref a) (.cons rfl .nil)<|hsp H hO hS) λr s' h=>?_;cases r with
  |error e=>exact(hCX H e s' h).elim
  |ok fl =>
   cases fl with
   |next=>exact Ŋ h
   |brk=>exact Ŋ h
   |cont=>exact Ŋ h
   |ret u =>
    let⟨v,H',os,bare,un,hok',r',q⟩:=h;have q':v=.bl eU:=q;subst q';obtain rfl:u=Value.bool eU:=r';refine⟨rfl,OldK.of_keep λb o e=>?_,os,bare⟩;cases q:H b with
    |none=>exact un.keep b o e q (by intro z;exact gA (show b∈([]:List Ì) from z)<|by simp) (by simp)
    |some u =>
     rcases hO b with z|⟨ob,xs,z⟩
     .rw[q]at z;cases z
     .have z2:=un.frzs b ob _ z;let⟨e1,_⟩:=hok b _ z;let⟨e2,_⟩:=hok' b _ z2;rw[e]at e1;cases e1;exact e2
 cases hk:K.lookup a with
 |some o =>have e:=KX a o hk;rw[ha]at e;cases e;refine core (λ_=>eS) (λ_=>.inl rfl) (.inr ⟨_,vs.toArray,_,hk,rfl,rfl,rfl,by rw[Î,fS];exact hl,⇑rv⟩) (λb u z=>by have z':(eS:Option HO)=eQ u:=z;cases z') (λb z=>gA rfl z) λz=>gA rfl z
 |none =>
  refine core (λb=>if b=a then eQ (.frz {cls:=.type "list",data:=.seq vs.toArray}<|.lst<|ns.map V.int)else eS) (λb=>?_) (.inl<|.inr ⟨{cls:=.type "list",data:=.seq vs.toArray},gu rfl⟩) (λb u z=>?_) (λb z=>?_) λ_=>hk
  .by_cases hb:b=a
   .exact .inr ⟨_,_,gu hb⟩
   .exact .inl<|gw hb
  .by_cases hb:b=a
   .have z':=(gu hb).symm.trans z;cases z';subst hb;exact⟨ha,by rw[Á];exact hl,vs,_,rv,ha⟩
   .have z':=(gw hb).symm.trans z;cases z'
  .by_cases hb:b=a
   .exact hb
   .exact gA (gw hb) z
abbrev YN(s:ń):Arguments:=match s with
 |.FunctionDef _ a _ _ _ _ _ _ _ _=>a
 |_=>{posonlyargs:=[],args:=[],vararg:=eS,kwonlyargs:=[],kw_defaults:=[],kwarg:=eS,defaults:=[]}
abbrev ZQ(s:ń):List ń:=match s with
 |.FunctionDef _ _ b _ _ _ _ _ _ _=>b
 |_=>[]
abbrev Zv(s:ń):η:=match s with
 |.FunctionDef _ _ _ _ _ _ sc _ _ _=>sc
 |_=>{kind:=.function,names:=[],isGenerator:=eV,isCoroutine:=eV}
structure Fun(K:Frag)(x qual:Str)(st:ń)(f:Ì)(fd:Ŏ):Prop where
 ex:∃(oc:Ã) (od:Option Ì) (kV doc pm:Ã) (an:Option Ì) (ϱ ct:Ã) (osl:Array<|Option Ã),
  fd=PySem.W.fnOf x qual (YN st) (ZQ st) (Zv st) .none kV doc pm an ϱ ct/\K.lookup f=eQ ⟨oc,od,.func fd,osl⟩/\PySem.W.codeIn K ϱ qual=eU
 kp:PySem.W.keepIn K (.ref f)=eU
section
variable {P:ç}{K:Frag}{mg:Str->Option Ã}{base:Ď}
variable {x:Str}{qual:Str}{st:ń}{f:Ì}
def Fun.binds(F:Fun K x qual st f fd)(h:∀(kV doc pm:Ã) (an:Option Ì) (ϱ ct:Ã) (us:List Ã),us.length=ps.length->bindArgs (PySem.W.fnOf x qual (YN st) (ZQ st) (Zv st) .none kV doc pm an ϱ ct) ⟨us,[]⟩=pure (ps.zip us)):Binds K fd ps []:=by
 let⟨oc,od,kV,doc,pm,an,ϱ,ct,osl,rfl,lk,aP⟩:=F.ex;exact .all<|h kV doc pm an ϱ ct
def Dh{kV:Ã}(l:K.lookup f=eQ ⟨oc,od,.func<|PySem.W.fnOf x qual (YN st) (ZQ st) (Zv st) .none kV doc pm an ϱ ct,osl⟩)(c:PySem.W.codeIn K ϱ qual=eU)(k:PySem.W.keepIn K (.ref f)=eU):Fun K x qual st f<|PySem.W.fnOf x qual (YN st) (ZQ st) (Zv st) .none kV doc pm an ϱ ct:=⟨⟨oc,od,kV,doc,pm,an,ϱ,ct,osl,rfl,l,c⟩,k⟩
end
section
variable {X:Cx}
def pv(i:Nat){x:Str}{pos:Pos}(hN:X.N[i]?=eQ x:=by rfl)(hv:Vis X.env.scope x:=by first|exact Or.inl rfl|exact Or.inr (Or.inl rfl)|exact Or.inr<|Or.inr rfl)(hd:(x==("__debug__" : Str))=eV:=by decide)
  (aP:(x==("__classdict__" : Str))=eV:=by decide):PE X (.Name x pos)<|QR i:=Cg hN hv hd aP
end
abbrev Same(H H':Hp):Prop:=∀b o,H b=eQ o->H' b=eQ o
def Same.refl(H:Hp):Same H H:=λ_ _ h=>h
def Same.trans(a:Same H H1)(b:Same H1 H2):Same H H2:=λc o h=>b c o (a c o h)
end L2
set_option maxHeartbeats 4000000
namespace L2
open PySem PySem.Spec PyProof.Rows
def HOk.track(x:HOk P w H h)(hn:H a=eS)(new:fg P w (upd H a o) h a o):HOk P w (upd H a o) h:=λb u e=>by
 by_cases hb:b=a
 .subst hb;rw[eX]at e;cases e;exact new
 .rw[eW hb]at e;exact(x b u e).stay (λc v _ q=>q) (λc q=>by rw[eW<|Zi q hn];exact q) λc xs q=>by rw[eW<|Zi q hn];exact q
abbrev Zw(X:Cx)(scope:η)(N':List Str)(cl:List<|Str×Ì)(C:Ì)(s:Ç)(H:Hp)(ex:List Ì):Cx where
 prog:=X.prog
 w:=X.w
 K:=X.K
 mg:=X.mg
 base:=X.base
 A:=X.A
 N:=N'
 s₀:=s
 H₀:=H
 env:=compEnvC scope cl C X.env
 outer:=X.stack
 stack:=X.stack
 ex:=ex
 fn:=λ_=>eV
 calm:=X.calm
 pn:=[]
 xe:=λ_ _=>False
abbrev Z5(X:Cx)(x:List Str)(Ă:List Nat):List Str:=x++Ă.map λj=>X.N.getD j Str.empty
abbrev Uy(σ:St)(Ă:List Nat):St:=Ă.map λj=>(σ[j]?).getD eS
structure BlkOk(X:Cx)(scope:η)(x:List Str)(Ă:List Nat):Prop where
 kind:scope.kind=.function
 nocell:∀y∈scope.names,y.2≠.cell
 locs:∀y∈scope.names,y.2=.local->scope.names.lookup y.1=eQ .local
 own:∀y∈x,scope.names.lookup y=eQ .local
 frees:∀y∈scope.names,y.2=.free->X.env.kindOf y.1=eQ .cell
 cap:∀j∈Ă,(X.N[j]?).isSome=eU/\X.env.kindOf (X.N.getD j Str.empty)=eQ .cell/\scope.names.lookup (X.N.getD j Str.empty)=eQ .free
 nd:(Z5 X x Ă).Nodup
def YC:∀(names:List<|Str×ϡ) (ĸ:List<|Str×Ì),(∀y∈names,y.2=.free->∃c,env.cells.lookup y.1=eQ c)->(∀x c,ĸ.lookup x=eQ c->env.cells.lookup x=eQ c)->
  ∃cl,(forIn names ĸ λ(p:Str×ϡ) (r:List<|Str×Ì)=>(do
    if(p.2 == į)=eU then do let a<-cellOf env p.1;pure (ľ<|(p.1,a)::r)else pure (ľ r):Sem _))=pure cl/\
   (∀x c,cl.lookup x=eQ c->env.cells.lookup x=eQ c)/\(∀x c,ĸ.lookup x=eQ c->∃c',cl.lookup x=eQ c')/\∀x,(x,į)∈names->∃c,cl.lookup x=eQ c
 |[],ĸ,_,ha=>⟨ĸ,rfl,ha,λx c h=>⟨c,h⟩,λx h=>nomatch h⟩
 |(n,k)::r,ĸ,hn,ha=>by
  by_cases hk:k=.free
  .subst hk;let⟨c,hc⟩:=hn (n,.free) å rfl;have ha':∀x d,(((n,c)::ĸ:List<|Str×Ì)).lookup x=eQ d->env.cells.lookup x=eQ d:=λx d h=>by
    rw[Ú]at h;cases e:x==n with
    |true =>
     rw[e]at h;have:x=n:=⇑e
     subst this;cases h;exact hc
    |false=>rw[e]at h;exact ha x d h
   let⟨cl,h1,h2,h3,h4⟩:=YC r ((n,c)::ĸ) (λy hy=>hn y<|Ø _ hy) ha';refine⟨cl,?_,h2,λx d h=>?_,λx hx=>?_⟩
   .rw[List.forIn_cons];have e:cellOf env n=pure c:=by unfold cellOf;rw[hc]
    simp![beq_self_eq_true,if_true,e];exact h1
   .by_cases hx:x=n
    .subst hx;exact h3 x c (by rw[Ú];simp)
    .exact h3 x d (by rw[Ú,beq_false_of_ne hx];exact h)
   .rcases Å.mp hx with e|hx
    .cases e;exact h3 _ c (by rw[Ú];simp)
    .exact h4 x hx
  .have hb:(k==į)=eV:=⇑hk
   let⟨cl,h1,h2,h3,h4⟩:=YC r ĸ (λy hy=>hn y<|Ø _ hy) ha;refine⟨cl,?_,h2,h3,λx hx=>?_⟩
   .rw[List.forIn_cons];simp![hb,ā,if_false];exact h1
   .rcases Å.mp hx with e|hx
    .cases e;exact gA rfl hk
    .exact h4 x hx
def Z0{env:Env}:∀{names:List (Str×ϡ)}{x:Str}{k:ϡ},(names.map λ(n,k)=>if(k==į&&env.scope.kind == .function&&env.kindOf n==eQ .cell)then(n,ei)else(n,k)).lookup x=eQ k->
  (∃k0,(x,k0)∈names/\names.lookup x=eQ k0/\(k0=k\/(k0=.free/\k=.cell)))
 |[],_,_,h=>by simp at h
 |(n,k0)::r,x,k,h=>by
  rw[Ñ,Ú]at h;cases hx:x==n with
  |true =>
   have e:x=n:=⇑hx
   subst e;refine⟨k0,å,by rw[Ú];simp,?_⟩;by_cases hc:(k0==į&&env.scope.kind == .function&&env.kindOf x==eQ .cell)=eU
   .rw[gu hc]at h;simp at h;have:k0=.free:=by
     simp![bAq]at hc;simpa using hc.1.1
    exact .inr ⟨this,h.symm⟩
   .rw[gw hc]at h;simp at h;exact .inl h
  |false =>
   have h':(r.map λ(n,k)=>if(k==į&&env.scope.kind == .function&&env.kindOf n==eQ .cell)then(n,ei)else(n,k)).lookup x=eQ k:=by
    by_cases hc:(k0==į&&env.scope.kind == .function&&env.kindOf n==eQ .cell)=eU
    .rw[gu hc]at h;simpa[hx]using h
    .rw[gw hc]at h;simpa[hx]using h
   let⟨k1,a,b,c⟩:=Z0 h';exact⟨k1,Ø _ a,by rw[Ú,hx];exact b,c⟩
abbrev PIfs(X:Cx)(bB:List Expr)(t:TT):Prop :=
 ∀(Â:List<|Ì×Obj) (s:Ç) (σ:St) (H:Hp) (Q:Bool->Hp->Prop),Inv X Â σ H s->t σ H Q->
  wpAny ↥2 X.A (forIn bB eU λc r=>if r=eU then do let ok<-cx c X.env (eval c X.env);pure (ľ ok)else pure (ľ r)) (TP X Â σ Q) X.xe s
abbrev S6:TT:=λ_ H Q=>Q eU H
def pifs_nil:PIfs X [] S6:=λ_ _ _ H _ I h=>wpAny_tests_nil ⟨H,I,h⟩
def Wf(h:PT X c t):PIfs X [c] t:=λÂ s σ H Q I hq=>wpAny_tests_one (h Â s σ H Q I hq)
abbrev Im(J:It)(tg:TG)(tc:TT)(te:TE)(Fin:List V->Hp->Prop)(W:Nat->Nat->List V->St->Hp->Prop):Prop :=
 ∀i m ys τ H,W i m ys τ H->ys.length<Þ/\((J.stop i H/\Fin ys H)\/(J.go i H/\∃N:List V->St->Hp->Prop,(∀ys' τ' H',N ys' τ' H'->∃m',m'<m/\W (i+1) m' ys' τ' H')/\∀x H',J.yld i H x H'->
   tg x τ H' λτ' H1=>tc τ' H1 λb H2=>if b=eU then te τ' H2 λy H3=>N (ys++[y]) τ' H3 else N ys τ' H2))
abbrev Do(wi:TI)(k:Nat)(Ă:List Nat)(tg:TG)(tc:TT)(te:TE):TE:=λσ H Q=>wi σ H λJ H1=>∃W:Nat->Nat->List V->St->Hp->Prop,(∃m,W 0 m [] (Û k eS++Uy σ Ă) H1)/\
 Im J tg tc te (λys H=>∀p,H p=eS->Q (.ref p) (upd H p<|.lst ys)) W
section
variable {X:Cx}{Â:List (Ì×Obj)}{σ:St}{H2:Hp}{s2:Ç}
variable {scope:η}{x:List Str}{Ă:List Nat}{cl:List (Str×Ì)}{fp:List Ì}
def BC{s3:Ç}{D:Ì}{h1:Ď}{tk:Nat}{m:Str->Option Ã}(B:BlkOk X scope x Ă)(I2:Inv X Â σ H2 s2)(f2:∀b∈fp,WK X Â H2 b)
  (c1:∀x c,cl.lookup x=eQ c->X.env.cells.lookup x=eQ c) (c2:∀x,(x,į)∈scope.names->∃c,cl.lookup x=eQ c)
  (I3:Inv X Â σ H2 s3) (hD:D=s2.heap.objs.size) (h3:s3.heap.objs.size=D+1) (ϛ:∀b o,s3.heap.get? b=eQ o->h1.get? b=eQ o) (hfp:∀b∈fp,b<s2.heap.objs.size)
  (hn:h1.Ns s3.heap.objs.size m) :
  Inv (Zw X scope (Z5 X x Ă) cl s3.heap.objs.size s3 H2<|D::fp) [] (Û x.length eS++Uy σ Ă) H2 {s3 with heap:=h1,toks:=tk}:=by
 have neD:∀b o,s2.heap.get? b=eQ o->b≠D:=λb o e=>by rw[hD];exact ä<|Ó e
 have exlt:∀b∈D::fp,b<s3.heap.objs.size:=λb hb=>by
  rw[h3];rcases Å.mp hb with e|hb
  .rw[e];exact Ě _
  .exact ĕ (by rw[hD];exact hfp b hb)
 have keeps:=I3.hok.kept (h':=h1) ϛ;refine⟨⟨I2.mod,B.kind,I2.ok.glob,I2.ok.blt,Ï _,λy z c e1 e2=>?_,λy hy=>?_,λy c e _=>(by cases e),λhc=>I2.ok.hd hc,I2.ok.frames,.inl rfl,λb hb=>?_,λb o e=>?_,?_,λb o e hb=>?_,λb hb hf=>?_,I3.stack,λb hb=>I2.stkFree b hb⟩,
   rfl,I3.bare,Un.kept ϛ,⟨m,hn,λi y v e1 e2 e3=>?_⟩,λy c e=>?_,I3.hok.fresh<|Ï _,λy c e=>I3.freeC y c<|c1 y c e,λp hp=>(nomatch hp),keeps,?_⟩
 .exact I2.ok.inj y z c (c1 y c e1)<|c1 z c e2
 .have hy:(b9 scope X.env).names.lookup y=eQ .cell\/(b9 scope X.env).names.lookup y=eQ .free:=hy;rcases hy with hy|hy
  .obtain⟨k0,a,b,c⟩:=Z0 hy;rcases c with c|⟨c,_⟩
   .subst c;exact gA rfl<|B.nocell _ a
   .subst c;exact c2 y a
  .obtain⟨k0,a,b,c⟩:=Z0 hy;rcases c with c|⟨_,c⟩
   .subst c;exact c2 y a
   .cases c
 .refine⟨ä<|exlt b hb,λy c e z=>?_⟩;have e':=c1 y c e;rcases Å.mp hb with q|q
  .obtain⟨v,o,ho,_⟩:=I2.cell y c e';exact neD c o ho<|z.trans q
  .exact(f2 b q).2.2.2.2.1 y c e' z
 .exact I3.bs b o e
 .exact Ö I2.ok.bsz (Ö I2.sz<|show s2.heap.objs.size<=s3.heap.objs.size by rw[h3,hD];exact ŋ _)
 .rcases Å.mp hb with q|q
  .exact neD b o (I2.bk b o e) q
  .rcases (f2 b q).2.2.2.1 with z|z
   .exact I2.ok.noex b o e z
   .exact gA (é (Ó (I2.ok.bs b o e).1) z)<|ğ _
 .have hf:b∈frs X.stack:=hf;rcases Å.mp (I2.stkSub b hf)with z|z
  .rcases Å.mp hb with q|q
   .exact gA I2.lt (by rw[<-z,q,hD];exact ğ _)
   .exact(f2 b q).2.1 z
  .rcases Å.mp hb with q|q
   .exact I2.nofs (a:=b) (by rw[q,hD];exact Ï _) z
   .exact(f2 b q).2.2.1 z
 .by_cases hik:i<x.length
  .rw[ď (by rw[ú];exact hik),ő,gu hik]at e2;cases e2
  .have e1:(x++Ă.map λj=>X.N.getD j Str.empty)[i]?=eQ y:=e1;rw[ċ<|by lia]at e1;rw[ċ (by rw[ú];lia),ú]at e2;generalize i - x.length=j at e1 e2;have e2:(Ă.map λj=>(σ[j]?).getD eS)[j]?=eQ (eQ v):=e2;rw[Ù]at e1 e2;cases hj:Ă[j]? with
   |none=>rw[hj]at e1;cases e1
   |some q =>
    rw[hj]at e1 e2;have e1':X.N.getD q Str.empty=y:=ð e1;have e2':(σ[q]?).getD eS=eQ v:=ð e2;let⟨hs,hk,hsc⟩:=B.cap q<|ã hj;let⟨y',hy'⟩:=ë.mp hs;have ey:y'=y:=by rw[<-e1',Č,hy'];rfl
    subst ey;have es:σ[q]?=eQ (eQ v):=by
     cases hq:σ[q]? with
     |none=>rw[hq]at e2';cases e2'
     |some o=>rw[hq]at e2';exact congrArg eQ e2'
    rw[e1']at hk hsc;let⟨m2,_,hl⟩:=I3.loc;have bU:X.env.scope.names.lookup y'=eQ .cell:=hk;let⟨u,r,l⟩:=hl q y' v hy' es<|.inr<|.inl bU;refine⟨u,r,.inr ⟨?_,?_⟩⟩
    .rcases e3 with e3|e3|e3
     .obtain⟨k0,a,b,c⟩:=Z0 (show(b9 scope X.env).names.lookup y'=eQ .local from e3);rw[hsc]at b;cases b;rcases c with c|⟨_,c⟩<;>cases c
     .exact .inl e3
     .exact .inr e3
    .rcases l with⟨l,_⟩|⟨_,c,hc,z⟩
     .rw[hk]at l;cases l
     .obtain⟨c',hc'⟩:=c2 y'<|PySem.mem_of_lookup hsc;have ec:c'=c:=ð<|(c1 y' c' hc').symm.trans hc;subst ec;let⟨o,ho,hd⟩:=z;exact⟨c',hc',o,ϛ c' o ho,hd⟩
 .obtain⟨v,o,ho,hd⟩:=I3.cell y c<|c1 y c e;exact⟨v,o,ϛ c o ho,hd⟩
 .show _=(Z5 X x Ă).length;unfold Z5 Uy;rw[í,í,Á,Á,ú]
def XI(h:∀y∈scope.names,y.2=.free->∃c,env.cells.lookup y.1=eQ c) :
  ∃cl,closureFor scope env=pure cl/\(∀x c,cl.lookup x=eQ c->env.cells.lookup x=eQ c)/\∀x,(x,į)∈scope.names->∃c,cl.lookup x=eQ c:=by
 let⟨cl,h1,h2,_,h4⟩:=YC (env:=env) scope.names [] h λx c e=>nomatch e;refine⟨cl,?_,h2,h4⟩;simp![closureFor];have e:(forIn scope.names ([]:List<|Str×Ì) λx r =>
     (match x with
     | (name,kind)=>if(kind == į)=eU then do let a<-cellOf env name;pure (ľ<|(name,a)::r)else pure (ľ r):Sem<|ForInStep<|List<|Str×Ì))=pure cl:=h1
 first
  |(rw[e];rfl)
  |(refine Eq.trans (congrArg (· >>= pure) ?_) (rfl:(pure cl >>= pure:Sem _)=pure cl);exact e)
variable {bV:Expr}{iter:Expr}{bB:List Expr}{pos:Pos}
def NO(I:Nat->Ç->Prop)(turn:∀n s,I n s->wpAny (ß prog w) A (Ε it) (λr ħ=>match r with
    |none=>R (.ok .next) ħ
    | some v=>wpAny (ß prog w) A (ϲ aj it v) (λ_ ħ=>wpAny (ß prog w) A (μ aj env v) (λ_ b7 =>
        wpAny (ß prog w) A (forIn bB eU λc r=>if r=eU then do let ok<-cx c env (eval c env);pure (ľ ok)else pure (ľ r)) (λok aT =>
          if ok=eU then wpAny (ß prog w) A (eval bV env) (λx s₄ =>
            wpAny (ß prog w) A (call (.builtin "list.append") [ĸ,x]) (λ_ s₅=>∃m,m<n/\I m s₅) (λ_ _=>False) s₄) (λ_ _=>False) aT
          else ∃m,m<n/\I m aT) (λ_ _=>False) b7) (λ_ _=>False) ħ) (λ_ _=>False) ħ) (λ_ _=>False) s)(n:Nat)(h:I n s) :
  codeAny (ß prog w) A (.compLoop (.ListComp bV [⟨aj,iter,bB,0⟩] scope pos) 0 it ĸ env) R s:=by
 refine codeAny_loop rfl I (λn s hI=>?_) n h;show wpAny _ A ((compTurn (.ListComp bV [⟨aj,iter,bB,0⟩] scope pos) 0 it ĸ env).onRaise λx=>do bF x env;theTreesLotGoes x) _ _ s;refine wpAny_noted ?_;rw[compTurn_list];refine À<|dg<|À<|ĵ (turn n s hI) (λr ħ bL=>?_) λ_ _ h'=>h'.elim;cases r with
 |none=>exact Æ bL
 |some v =>
  refine À<|ĵ bL (λ_ ħ bL=>?_) λ_ _ h'=>h'.elim;refine À<|ĵ bL (λ_ b7 h₂=>À<|ĵ h₂ (λok aT h₃=>?_) λ_ _ h'=>h'.elim) λ_ _ h'=>h'.elim;cases ok with
  |false=>exact Æ ⟨rfl,h₃⟩
  |true =>exact À<|À<|ĵ h₃ (λx s₄ h₄=>À<|ĵ h₄ (λ_ s₅ h₅=>Æ<|Æ ⟨rfl,h₅⟩) λ_ _ h'=>h'.elim) λ_ _ h'=>h'.elim
variable {bM:Expr}{tg:TG}
def Mx{it:Ì}{tn:Nat->Ď->Prop}{J:It}{Fin:List V->Hp->Prop}{W:Nat->Nat->List V->St->Hp->Prop}{E:Ã->Ç->Prop}
  {RR:Ã->Ì->bD->Ç->Prop}{m0:Nat}(hc:X.calm=eU) (B:BlkOk X scope x Ă) (I2:Inv X Â σ H2 s2) (T:Turn X.prog X.w X.K bM J fp it tn) (st2:tn 0 s2.heap) (f2:∀b∈fp,WK X Â H2 b)
  (c1:∀x c,cl.lookup x=eQ c->X.env.cells.lookup x=eQ c) (c2:∀x,(x,į)∈scope.names->∃c,cl.lookup x=eQ c)
  (hI:∀cl C s H ex,PIfs (Zw X scope (Z5 X x Ă) cl C s H ex) bB tc) (hE:∀cl C s H ex,PE (Zw X scope (Z5 X x Ă) cl C s H ex) bV te)
  (hG:∀cl C s H ex,PG (Zw X scope (Z5 X x Ă) cl C s H ex) bM tg) (w0:W 0 m0 [] (Û x.length eS++Uy σ Ă) H2) (cw:Im J tg tc te Fin W)
  (hRR:∀D C s' H' ys m,H' D=eS->s'.heap.Ns C m->WK X Â (upd H' D<|.lst ys) C->Inv X Â σ (upd H' D<|.lst ys) s'->Fin ys H'->RR (.ref D) C (.ok .next) s') :
  wpAny ↥2 X.A (newList []) (λĸ aT=>wpAny ↥2 X.A (newFunctionEnv scope X.env.globals cl [] X.env.qual eS .none<|eQ X.env) (λcenv s₄ =>
    codeAny ↥2 X.A (.compStart (.ListComp bV [⟨bM,iter,bB,0⟩] scope pos) 0 (.ref it) ĸ { cenv with scope:=b9 scope X.env }) (RR ĸ cenv.locals) s₄) E aT) E s2:=by
 refine Ą (wpAny_newFunctionEnv B.nocell (by intro y hy;simp at hy) (λbL cP cQ=>?_) B.kind);dsimp only at cP cQ ⊢;have hfp:∀b∈fp,b<s2.heap.objs.size:=λb hb=>by let⟨o,e,_⟩:=T.obj _ _ st2 b hb;exact Ó e
 have I3:Inv X Â σ H2 {s2 with heap:=s2.heap.push {cls:=.type "list",dict:=eS,data:=.seq ([]:List Ã).toArray}}:=I2.kept (t':=s2.toks) λb o e=>Ä _ e;have h3:(s2.heap.push {cls:=.type "list",dict:=eS,data:=.seq ([]:List Ã).toArray}).objs.size=s2.heap.objs.size+1:=Ť ..;have dz:(s2.heap.push {cls:=.type "list",dict:=eS,data:=.seq ([]:List Ã).toArray}).get? s2.heap.objs.size=eQ {cls:=.type "list",dict:=eS,data:=.seq ([]:List Ã).toArray}:=Ò _ rfl;have cR:∀b o,s2.heap.get? b=eQ o->(s2.heap.push {cls:=.type "list",dict:=eS,data:=.seq ([]:List Ã).toArray}).get? b=eQ o:=λb o e=>Ä _ e;generalize hH3:s2.heap.push {cls:=.type "list",dict:=eS,data:=.seq ([]:List Ã).toArray}=h3' at cP cQ I3 h3 dz cR ⊢;have ϛ:∀b o,h3'.get? b=eQ o->bL.get? b=eQ o:=λb o e=>cQ.extBut b o (ä<|Ó e)<|Ä _ e;have hDC:s2.heap.objs.size≠h3'.objs.size:=by rw[h3];exact ä<|Ě _
 have IB:=BC (cl:=cl) (fp:=fp) (s3:={s2 with heap:=h3'}) (D:=s2.heap.objs.size) (h1:=bL) (tk:=s2.toks+([]:List<|Str×Ã).length) B I2 f2 c1 c2 I3 rfl h3 ϛ hfp cP;generalize hY:Zw X scope (Z5 X x Ă) cl h3'.objs.size {s2 with heap:=h3'} H2 (s2.heap.objs.size::fp)=Y at IB;have yP:Y.prog=X.prog:=by rw[<-hY];rfl
 have yw:Y.w=X.w:=by rw[<-hY];rfl
 have yK:Y.K=X.K:=by rw[<-hY];rfl
 have yA:Y.A=X.A:=by rw[<-hY];rfl
 have yc:Y.calm=eU:=by rw[<-hY];exact hc
 have yenv:Y.env=compEnvC scope cl h3'.objs.size X.env:=by rw[<-hY];rfl
 have hIY:PIfs Y bB tc:=by rw[<-hY];exact hI _ _ _ _ _
 have hEY:PE Y bV te:=by rw[<-hY];exact hE _ _ _ _ _
 have yxe:Y.xe=λ_ _=>False:=by rw[<-hY];rfl
 have ypn:Y.pn=[]:=by rw[<-hY];rfl
 have hgN:PG Y bM tg:=by rw[<-hY];exact hG _ _ _ _ _
 have fD:∀{H':Hp},H' s2.heap.objs.size=eS->WK Y [] H' s2.heap.objs.size:=λ{H'} hn=>by
  refine⟨hn,?_,?_,?_,?_,λp hp=>?_⟩
  .rw[yenv];exact hDC
  .exact IB.ok.exfs _ (by rw[<-hY];exact å)
  .exact .inl (by rw[<-hY];exact å)
  .exact λy c e=>(IB.ok.exf _<|by rw[<-hY];exact å).2 y c e
  .rw[ypn]at hp;exact nomatch hp
 have fF:∀{H':Hp},(∀b∈fp,H' b=eS)->∀b∈fp,WK Y [] H' b:=λ{H'} hn b hb=>by
  have hm:b∈Y.ex:=by rw[<-hY];exact Ø _ hb
  refine⟨hn b hb,?_,IB.ok.exfs b hm,.inl hm,λy c e=>(IB.ok.exf b hm).2 y c e,λp hp=>?_⟩
  .exact(IB.ok.exf b hm).1
  .rw[ypn]at hp;exact nomatch hp
 have acc0:bL.PlainList s2.heap.objs.size ([]:List Ã).toArray:=⟨0,by exact ϛ _ _ dz⟩
 have loop:∀aT:Ç,aT={s2 with heap:=bL,toks:=s2.toks+([]:List<|Str×Ã).length}->
   codeAny ↥2 X.A (.compLoop (.ListComp bV [⟨bM,iter,bB,0⟩] scope pos) 0 (.ref it) (.ref s2.heap.objs.size)<|compEnvC scope cl h3'.objs.size X.env) (RR (.ref s2.heap.objs.size) h3'.objs.size) aT:=by
  rintro aT rfl;refine NO (λn s'=>∃i ys ø τ H',Inv Y [] τ H' s'/\tn i s'.heap/\(∀b∈fp,H' b=eS)/\H' s2.heap.objs.size=eS/\gf ys ø/\s'.heap.PlainList s2.heap.objs.size ø.toArray/\W i n ys τ H') ?_ m0
   ⟨0,[],[],_,H2,IB,T.keep _ _ _ st2 λb hb o e=>ϛ _ _<|cR _ _ e,λb hb=>(f2 b hb).1,I2.fresh,.nil,acc0,w0⟩
  rintro n s3 ⟨i,ys,ø,τ,H3,I3',st3,fr3,frD,rv,pl,w3⟩;have cv:∀{α:Type}{f:Sem α}{Q Q':α->Ç->Prop}{s:Ç},wpAny (ß Y.prog Y.w) Y.A f Q Y.xe s->(∀a s',Q a s'->Q' a s')->wpAny ↥2 X.A f Q' (λ_ _=>False) s:=λ{α f Q Q' s} h hq=>by rw[yP,yw,yA,yxe]at h;exact ĵ h hq λ_ _ e=>e
  have cvX:∀{α:Type}{f:Sem α}{Q Q':α->Ç->Prop}{s:Ç},wpAny ↥2 Y.A f Q (λ_ _=>False) s->(∀a s',Q a s'->Q' a s')->wpAny ↥2 X.A f Q' (λ_ _=>False) s:=λ{α f Q Q' s} h hq=>by rw[yA]at h;exact ĵ h hq λ_ _ e=>e
  let⟨nD,hD3⟩:=id pl;have plD:∀b∈[s2.heap.objs.size],∃o,s3.heap.get? b=eQ o/\∀v,o.data≠.cell v:=λb hb=>by
   have e:b=s2.heap.objs.size:=⇑hb
   subst e;exact⟨_,hD3,λv z=>by cases z⟩
  have IP:=I3'.pinned (fp:=[s2.heap.objs.size]) (λb hb=>by
    have e:b=s2.heap.objs.size:=⇑hb
    subst e
    exact fD frD) plD
  have memD:=ZY (fp:=[s2.heap.objs.size]) (á.mpr rfl) hD3;have fF':∀b∈fp,WK Y ([]++XZ [s2.heap.objs.size] s3.heap) H3 b:=λb hb=>by
   let⟨q1,q2,q3,q4,q5,q6⟩:=fF fr3 b hb;refine⟨q1,q2,q3,q4,q5,λp hp=>?_⟩;rw[ypn]at hp;let⟨cS,_⟩:=Ml (show p∈XZ [s2.heap.objs.size] s3.heap by simpa using hp);have e:p.1=s2.heap.objs.size:=⇑cS
   rw[e];exact(ä<|hfp b hb).symm
  obtain⟨hys,h|⟨go,N,hN,step⟩⟩:=cw i n ys τ H3 w3
  .obtain⟨stop,fin⟩:=h;refine cvX (T.done Y yP yw yK yc i _ s3 _ H3 _ IP fF' st3 stop) λr s4 ⟨hr,I4⟩=>?_;subst hr;let⟨m4,hm4,_⟩:=I4.loc;rw[yenv]at hm4;have aU:Un (frs X.stack) (s2.heap.objs.size::fp) H2 H3 h3' s4.heap:=by
    have:=I4.base;rw[<-hY]at this;exact this
   have hok4:HOk X.prog X.w H3 s4.heap:=by have:=I4.hok;rw[yP,yw]at this;exact this
   have pl4:=(I4.pin _<|Ê _<|Ê _ memD).1;have nC:H3 h3'.objs.size=eS:=by have:=I4.free;rw[yenv]at this;exact this
   have hlen:ys.length<=Þ:=ς hys;have osEq:s4.os=s2.os:=by have:=I4.os;rw[<-hY]at this;exact this
   have neD:∀b o,s2.heap.get? b=eQ o->b≠s2.heap.objs.size:=λb o e=>ä<|Ó e;have nin:∀b o,s2.heap.get? b=eQ o->b∉fp->b∉s2.heap.objs.size::fp:=λb o e hb z=>(Å.mp z).elim (neD b o e) hb;have hokN:HOk X.prog X.w (upd H3 s2.heap.objs.size<|.lst ys) s4.heap:=hok4.track frD ⟨hlen,ø,nD,rv,pl4⟩;have U:Un (frs X.stack) fp H2 (upd H3 s2.heap.objs.size<|.lst ys) s2.heap s4.heap:=by
    refine⟨λb o e hn hf hx=>aU.keep b o (cR b o e) hn hf<|nin b o e hx,λb o e hn hf hx=>aU.slot b o (cR b o e) hn hf<|nin b o e hx,λb o e hn hx=>?_,λb o e hx=>aU.there b o (cR b o e)<|nin b o e hx,λb xs e=>?_,λb o xs e=>?_,λb ps e=>?_⟩
    .rw[eW<|neD b o e];exact aU.free b o (cR b o e) hn<|nin b o e hx
    .have q:=aU.tups b xs e;rw[eW<|Zi q frD];exact q
    .have q:=aU.frzs b o xs e;rw[eW<|Zi q frD];exact q
    .obtain⟨more,q⟩:=aU.tbls b ps e;exact⟨more,by rw[eW<|Zi q frD];exact q⟩
   have I5:Inv X Â σ (upd H3 s2.heap.objs.size<|.lst ys) s4:=I2.call' (ch:=fp) osEq U hokN I4.bare λb hb=>by let⟨_,q2,_,q4,q5,q6⟩:=f2 b hb;exact⟨q4,q2,q5,q6⟩
   exact hRR _ _ _ _ _ m4 frD hm4 (I2.fpOk (ς<|by rw[h3];exact Ě _)<|by rw[eW hDC.symm];exact nC) I5 fin
  .refine cvX (T.item Y yP yw yK yc i _ s3 _ H3 _ IP fF' st3 go) λr s4 ⟨u,hr,h4⟩=>?_;subst hr;refine cvX h4 λ_ s5 ⟨y,H5,I5,r5,y5,st5,fr5⟩=>?_;have frD5:H5 s2.heap.objs.size=eS:=(I5.pin _<|Ê _<|Ê _ memD).2.1;have hD5:=(I5.pin _<|Ê _<|Ê _ memD).1;have I5p:=I5.unpinned.pinned (fp:=s2.heap.objs.size::fp) (λb hb=>by
     rcases Å.mp hb with e|hb
     . subst e;exact fD frD5
     . exact fF fr5 b hb) (λb hb=>by
     rcases Å.mp hb with e|hb
     . subst e;exact⟨_,hD5,λv z=>by cases z⟩
     . exact T.obj _ _ st5 b hb)
   have memD5:=ZY (fp:=s2.heap.objs.size::fp) å hD5;rw[<-yenv];refine cv (hgN _ s5 _ H5 y u _ I5p r5<|step y H5 y5) λ_ s6 ⟨σ6,H6,I6,q6⟩=>?_;have aV:∀{m':Nat}{bI:St}{H7:Hp}{s7:Ç}{ys':List V}{its':List Ã},Inv Y [] bI H7 s7->tn (i+1) s7.heap->(∀b∈fp,H7 b=eS)->H7 s2.heap.objs.size=eS->gf ys' its'->s7.heap.PlainList s2.heap.objs.size its'.toArray->m'<n/\W (i+1) m' ys' bI H7->
     ∃m,m<n/\∃i ys ø τ H',Inv Y [] τ H' s7/\tn i s7.heap/\(∀b∈fp,H' b=eS)/\H' s2.heap.objs.size=eS/\gf ys ø/\s7.heap.PlainList s2.heap.objs.size ø.toArray/\W i m ys τ H' :=
    λ{m' bI H7 s7 ys' its'} J1 st7 fr7 fd7 rv7 pl7 wm=>⟨m',wm.1,i+1,ys',its',bI,H7,J1,st7,fr7,fd7,rv7,pl7,wm.2⟩
   have stay:∀{bI:St}{H7:Hp}{s7:Ç},Inv Y ([]++XZ (s2.heap.objs.size::fp) s5.heap) bI H7 s7->tn (i+1) s7.heap/\(∀b∈fp,H7 b=eS)/\H7 s2.heap.objs.size=eS/\s7.heap.get? s2.heap.objs.size=eQ {cls:=.type "list",data:=.seq ø.toArray nD}:=by intro bI H7 s7 J1;refine⟨T.keep _ _ _ st5 λb hb o e=>(J1.pin (b,o)<|Ê _<|Ê _<|ZY (Ø _ hb) e).1,λb hb=>?_,(J1.pin _<|Ê _<|Ê _ memD5).2.1,(J1.pin _<|Ê _<|Ê _ memD5).1⟩;let⟨o,e,d⟩:=T.obj _ _ st5 b hb;exact(J1.pin (b,o)<|Ê _<|Ê _<|ZY (Ø _ hb) e).2.1
   refine cv (hIY _ s6 _ H6 _ I6 q6) λok s7 ⟨H7,I7,q7⟩=>?_;cases ok with
   |false =>rw[gw<|by decide]at q7;rw[gw<|by decide];let⟨m',wm⟩:=hN _ _ _ q7;let⟨a1,a2,a3,a4⟩:=stay I7;exact aV I7.unpinned a1 a2 a3 rv ⟨nD,a4⟩ wm
   |true =>
    rw[gu rfl]at q7;rw[gu rfl];refine cv (hEY _ s7 _ H7 _ I7 q7) λz s8 ⟨vz,H8,I8,rz,wm⟩=>?_;let⟨m',wm⟩:=hN _ _ _ wm;let⟨a1,a2,a3,a4⟩:=stay I8;have hlen:=rv.length;refine wpAny_list_append_plain (hsz:=by rw[Î];lia) (⟨nD,a4⟩:s8.heap.PlainList _ ø.toArray) λh9 hl9 hs9=>?_;let⟨q1,q2,q3,q4,q5,q6⟩:=fD a3;have I9:Inv Y [] _ H8 {s8 with heap:=h9}:=I8.unpinned.turned (t':=s8.toks) (λb o hb e=>hs9.extBut b o hb e) q1 q2 q4 q5 q6;refine aV I9 (T.keep _ _ _ a1 λb hb o e=>hs9.extBut b o (ä<|hfp b hb) e) a2 a3 (its':=ø++[z]) (rv.append<|.cons rz .nil) ?_ wm;have e:ø.toArray.push z=(ø++[z]).toArray:=by simp
    rw[e]at hl9;exact hl9
 exact codeAny_compStart_list (loop _ rfl)<|T.self _ 0 _ _ _ (T.keep _ _ _ st2 λb hb o e=>ϛ _ _<|cR _ _ e)<|loop _ rfl
def Dq(hc:X.calm=eU)(B:BlkOk X scope x Ă)(hi:PI X bM iter wi)(hG:∀cl C s H ex,PG (Zw X scope (Z5 X x Ă) cl C s H ex) bM tg)(hI:∀cl C s H ex,PIfs (Zw X scope (Z5 X x Ă) cl C s H ex) bB tc)(hE:∀cl C s H ex,PE (Zw X scope (Z5 X x Ă) cl C s H ex) bV te)(hs:∀x,ġ iter X.env x=pure x:=by intro _;rfl):PE X (.ListComp bV [⟨bM,iter,bB,0⟩] scope pos)<|Do wi x.length Ă tg tc te:=by
 k_sub;let⟨cl,aG,c1,c2⟩:=XI (scope:=scope) (env:=X.env) λy hy e=>I.ok.has y.1<|.inl<|B.frees y hy e;rw[eval_ListComp];refine dk (use:=eS) rfl hs aG B.kind B.locs<|thn (hi Â s σ H _ I h) λv s1 h1=>thn h1 λitv s2 h2=>?_;let⟨it,fp,tn,J,H2,e,I2,T,st2,f2,W,⟨m0,w0⟩,cw⟩:=h2;subst e;refine Mx (RR:=λĸ C=>compPost ↥2 X.A X.xe eS (EP X Â σ Q) ĸ C) hc B I2 T st2 f2 c1 c2 hI hE hG w0 cw ?_;intro D C s' H' ys m hD hn fC I' fin;let⟨q1,q2,q3,q4,q5,q6⟩:=fC;exact⟨m,hn,λh' hs'=>⟨.ref D,_,I'.turned (t':=s'.toks) (λb o hb e=>hs'.extBut b o hb e) q1 q2 q4 q5 q6,rfl,fin D hD⟩⟩
def DQ{y:Str}{py:Pos}{i:Nat}{ϥ:Pos}(hN:X.N.Nodup)(hi':X.N[i]?=eQ y)(hy:Loc X.env.scope y)(hc:X.calm=eU)(B:BlkOk X scope x Ă)(hi:PI X bM iter wi)(hG:∀cl C s H ex,PG (Zw X scope (Z5 X x Ă) cl C s H ex) bM tg)(hI:∀cl C s H ex,PIfs (Zw X scope (Z5 X x Ă) cl C s H ex) bB tc)(hE:∀cl C s H ex,PE (Zw X scope (Z5 X x Ă) cl C s H ex) bV te)(hs:∀x,ġ iter X.env x=pure x:=by intro _;rfl)(hsw:ź (.ListComp bV [⟨bM,iter,bB,0⟩] scope pos) (eQ<|.Name y py) ϥ.line X.env=pure eU:=by rfl)(hf:X.fn y=eU\/X.env.scope.names.lookup y=eQ .local:=by first|exact .inl rfl|exact .inr rfl|assumption) :
  PS X (.Assign [.Name y py] (.ListComp bV [⟨bM,iter,bB,0⟩] scope pos) ϥ) (Q3 (Do wi x.length Ă tg tc te)<|HW i):=by
 intro Â s σ H D I h;let⟨cl,aG,c1,c2⟩:=XI (scope:=scope) (env:=X.env) λy hy e=>I.ok.has y.1<|.inl<|B.frees y hy e;rw[exec_Assign_Name_used _ _ _ _ hsw];refine À<|dg<|À ?_;show wpAny _ X.A (do let _<-comprehension (.ListComp bV [⟨bM,iter,bB,0⟩] scope pos) scope X.env _ (newList []) eV (eval iter X.env) (eQ<|μ (.Name y py) X.env)) _ _ s;refine À (ĵ (dk (use:=eQ<|μ (.Name y py) X.env) (Q:=λ_ s'=>SP X Â D .next s') rfl hs aG B.kind B.locs
   (thn (hi Â s σ H _ I h) λv s1 h1=>thn h1 λitv s2 h2=>?_)) (λ_ s' hq=>Æ<|Æ hq) λ_ _ e=>e)
 let⟨it,fp,tn,J,H2,e,I2,T,st2,f2,W,⟨m0,w0⟩,cw⟩:=h2;subst e;refine Mx (RR:=λĸ C=>compPost ↥2 X.A X.xe (eQ<|μ (.Name y py) X.env) (λ_ s'=>SP X Â D .next s') ĸ C) hc B I2 T st2 f2 c1 c2 hI hE hG w0 cw ?_;intro Dd C s' H' ys m hD hn fC I' fin;let⟨q1,q2,q3,q4,q5,q6⟩:=fC;show wpAny _ _ (μ (.Name y py) X.env<|.ref Dd) _ _ _;refine wpAny_assign_Name<|K3 I' hN hi' hy (v:=.ref Dd) rfl (λs2 I2 ⟨a,hs2,ha⟩=>?_) hf;have ne:C≠a:=by
  rcases ha with z|z
  .rw[z];exact q2
  .exact(q5 y a z).symm
 refine⟨m,hn.sameBut hs2 ne,λh' hs'=>?_⟩;exact⟨_,_,I2.turned (t':=s2.toks) (λb o hb e=>hs'.extBut b o hb e) q1 q2 q4 q5 q6,fin Dd hD⟩
end
mutual
inductive IsD (K:Frag) (H:Hp):V->ae->Prop
 |non:IsD K H .non .none
 |bl (b:Bool):IsD K H (.bl b)<|.bool b
 |int (i:Int):IsD K H (.int i)<|.int i
 |str (x:Str):IsD K H (.str x)<|.str x
 |lst {a:Ì}{xs:List V}{ds:List ae}:f9 K H a xs->IsDs K H xs ds->IsD K H (.ref a) (.list ds)
 |tup {a:Ì}{xs:List V}{ds:List ae}:gc K H a xs->IsDs K H xs ds->IsD K H (.ref a) (.tuple ds)
inductive IsDs (K:Frag) (H:Hp):List V->List ae->Prop
 |nil:IsDs K H [] []
 |cons {x:V}{xs:List V}{d:ae}{ds:List ae}:IsD K H x d->IsDs K H xs ds->IsDs K H (x::xs) (d::ds)
end
section
variable {X:Cx}{Â:List (Ì×Obj)}{σ:St}{H:Hp}{s:Ç}
mutual
theorem IsD.reads(I:Inv X Â σ H s):∀{v:V}{d:ae}{u:Ã},IsD X.K H v d->RelV v u->∃as,Reads s.heap u d as
 |_,_,_,.non,r=>by cases r;exact⟨_,.none⟩
 |_,_,_,.bl b,r=>by cases r;exact⟨_,.bool b⟩
 |_,_,_,.int i,r=>by let⟨t,rfl⟩:=r;exact⟨_,.int i t⟩
 |_,_,_,.str x,r=>by let⟨t,rfl⟩:=r;exact⟨_,.str x t⟩
 |_,_,_,.lst q qs,r=>by cases r;let⟨ø,rv,⟨o,n,e,c,_,d⟩,_⟩:=I.list q;let⟨as,ra⟩:=IsDs.reads I qs rv;exact⟨_,.list e c d<|by simpa using ra⟩
 |_,_,_,.tup q qs,r=>by cases r;let⟨ø,rv,⟨o,e,c,n,d⟩,_⟩:=I.tuple q;let⟨as,ra⟩:=IsDs.reads I qs rv;exact⟨_,.tuple e c d<|by simpa using ra⟩
theorem IsDs.reads(I:Inv X Â σ H s):∀{vs:List V}{ds:List ae}{us:List Ã},IsDs X.K H vs ds->gf vs us->∃as,ReadsAll s.heap us ds as
 |_,_,_,.nil,.nil=>⟨_,.nil⟩
 |_,_,_,.cons q qs,.cons r rs=>by let⟨as,ra⟩:=IsD.reads I q r;let⟨bs,rb⟩:=IsDs.reads I qs rs;exact⟨_,.cons ra rb⟩
end
end
def IsDs.ints{K:Frag}:∀ns:List Int,IsDs K H (ns.map V.int) (ns.map PyData.int)
 |[]=>.nil
 |n::ns=>.cons (.int n)<|IsDs.ints ns
section
abbrev RS(K:Frag):R2:=λx y H Q=>∃d e,IsD K H x d/\IsD K H y e/\SeqAt.shaped d=eU/\SeqAt.shaped e=eU/\Q (.bl<|İ d e) H
abbrev QL(K:Frag):R2:=λx y H Q=>∃d e,IsD K H x d/\IsD K H y e/\SeqAt.shaped d=eU/\SeqAt.shaped e=eU/\Q (.bl (!İ d e)) H
def Lg(hu:X.A.units+64<Ģ):OpR X (ñ .Eq)<|RS X.K:=by k_ne;let⟨d,e,hd,he,sd,se,q⟩:=h;let⟨as,ra⟩:=hd.reads I rx;let⟨bs,rb⟩:=he.reads I ry;exact SeqAt.compareEq_shaped ra rb sd se hu ⟨.bl _,H,I,rfl,q⟩
def Pj(hu:X.A.units+64<Ģ):OpR X (ñ .NotEq)<|QL X.K:=by k_ne;let⟨d,e,hd,he,sd,se,q⟩:=h;let⟨as,ra⟩:=hd.reads I rx;let⟨bs,rb⟩:=he.reads I ry;exact SeqAt.compareNe_shaped ra rb sd se hu ⟨.bl _,H,I,rfl,q⟩
inductive TyV (K:Frag) (H:Hp):V->Ã->Prop
 |of {x:V}{t:Ã}:fZ K H x t->TyV K H x t
 |tup {a:Ì}{xs:List V}:gc K H a xs->TyV K H (.ref a) (.type "tuple")
 |lst {a:Ì}{xs:List V}:f9 K H a xs->TyV K H (.ref a) (.type "list")
def E9:ff X (.builtin "isinstance") λxs H Q=>∃x T t b,xs=[x,.ty T]/\TyV X.K H x t/\PySem.W.kitOne X.K t (.type T)=eQ b/\Q (.bl b) H:=by
 k_put;let⟨x,T,t,b,rfl,ty,e,q⟩:=h;let⟨u,v,rfl,ru,rv⟩:=II r;cases rv;cases ty with
 |of ty=>exact B1 I ru ty e λtk=>⟨.bl b,H,I.tok tk,rfl,q⟩
 |tup hq =>cases ru;let⟨ø,_,⟨o,h1,h2,_⟩,_⟩:=I.tuple hq;exact PySem.W.kia_one PySem.W.kitx_tuple I.kIn ⟨o,h1,h2⟩ e (λz=>nomatch z) λtk=>⟨.bl b,H,I.tok tk,rfl,q⟩
 |lst hq =>cases ru;let⟨ø,_,⟨o,n,h1,h2,_⟩,_⟩:=I.list hq;exact PySem.W.kia_one PySem.W.kitx_list I.kIn ⟨o,h1,h2⟩ e (λz=>nomatch z) λtk=>⟨.bl b,H,I.tok tk,rfl,q⟩
def ET(hc:X.calm=eU):ff X (.builtin "all") λxs H Q=>∃p,∃bs:List Bool,xs=[.ref p]/\f9 X.K H p (bs.map V.bl)/\Q (.bl<|bs.all id) H:=by
 k_put;let⟨p,bs,rfl,hq,q⟩:=h;let⟨u,rfl,rx⟩:=ZN r;cases rx;let⟨ø,rv,pl,hz⟩:=I.list hq;have hlen:=rv.length;rw[Á]at hlen;have Ϝ:p<s.heap.objs.size:=by let⟨o,n,e,_⟩:=pl;exact Ó e
 refine call_all_walk<|ž pl.isList ?_;refine⟨s.heap.objs.size,_,_,ø.toArray.size,_,_,λi=>bs.getD i eU,rfl,Walks.list (A:=X.A.in1) (I.ok.hd hc) s.heap.objs.size p (ä Ϝ) ø.toArray,⟨⟨_,Ò _ rfl,rfl,rfl⟩,pl.isList.push _⟩,?_,λh' tk hk=>?_⟩
 .intro i v s' Q' E' hP hQ;have hP:ø[i]?=eQ v:=⇑hP
  have hb:(bs.map V.bl)[i]?=eQ (.bl<|bs.getD i eU):=by
   have hi:i<bs.length:=by have:=(Ë.mp hP).1;lia
   rw[Ù,Č];simp[hi]
  let⟨u,hu,ru⟩:=rv.get hb;rw[hP]at hu;cases hu;cases ru;exact ė hQ
 .have e:(List.range ø.toArray.size).all (λi=>bs.getD i eU)=bs.all id:=by
   rw[Î,<-hlen,aZ,ÿ,ÿ];constructor
   .intro h b hb;let⟨i,hi,rfl⟩:=List.mem_iff_getElem.mp hb;have:=h i<|Ϧ.mpr hi;rw[Č,È hi]at this;exact this
   .intro h i hi;have hi:=Ϧ.mp hi;rw[Č,È hi];exact h _<|Ļ hi
  rw[e];refine⟨.bl _,H,I.kept (t':=tk) λb o e=>hk b o (λhm=>?_)<|Ä _ e,rfl,q⟩;have:b=s.heap.objs.size:=⇑hm
  exact gA (this▸Ó e)<|ğ _
abbrev sortI(ns:List Int):List Int:=ns.mergeSort λa b=>gB (a<=b)
def X6(ns:List Int):(sortI ns).Perm ns:=ν ns _
def NS(ns:List Int):(sortI ns).Pairwise (·<=·):=by have h:=bY (le:=λa b:Int=>gB (a<=b)) (λa b c h1 h2=>by simp at *;lia) (λa b=>by simp;lia) ns;exact h.imp λh=>⇑h
variable {ms:List Int}
def YG(hp:ms.Perm ns)(hs:ms.Pairwise (·<=·)):ms=sortI ns:=PySem.W.ksm_same (hp.trans (X6 ns).symm) hs (NS ns)
def Kz(hp:ms.Perm ns):sortI ms=sortI ns:=YG ((X6 ms).trans hp) (NS ms)
def YI(ns:List Int):(sortI ns).length=ns.length:=(X6 ns).length_eq
def YQ:∀{vs:List Ã}{ns:List Int},ą vs ns->gf (ns.map V.int) vs:=WH
def call_sorted:ff X (.builtin "sorted") λxs H Q=>∃p,∃ns:List Int,xs=[.ref p]/\f9 X.K H p (ns.map V.int)/\ns.length<64/\∀l,H l=eS->Q (.ref l) (upd H l<|.lst<|(sortI ns).map V.int):=by k_put;let⟨p,ns,rfl,hq,h64,q⟩:=h;let⟨u,rfl,rx⟩:=ZN r;cases rx;let⟨ø,rv,pl,hz⟩:=I.list hq;have hlen:=rv.length;rw[Á]at hlen;refine sorted_ints pl.isList (Zz rv) ↥0 λout cp a1 a2 a3=>?_;have e:=YG a2 a3;subst e;let⟨n,he⟩:=sortedAll_at s.heap ø out;refine⟨.ref<|s.heap.objs.size+1,_,I.laid (a:=s.heap.objs.size+1) (o:=.lst<|(sortI ns).map V.int) (t':=s.toks) (λb o e=>sortedAll_old e) (ŋ _) ?_,rfl,q _<|I.hok.fresh<|ŋ _⟩;exact⟨by rw[Á,YI];rw[Á]at hz;exact hz,out.toList,n,YQ a1,by simpa[ŧ]using he⟩
abbrev S8(K:Frag)(te:TE):TE:=λσ H Q=>te σ H λx H1=>∃a xs,x=.ref a/\f9 K H1 a xs/\∀p,H1 p=eS->Q (.ref p) (upd H1 p<|.lst xs.reverse)
def LX(he:PE X e te):PE X (.Subscript e (.Slice eS eS (eQ<|.UnaryOp .USub (.Constant (.int 1) k p0) p1) p2) pos)<|S8 X.K te:=by k_sub;refine Subscript_<|thn (he Â s σ H _ I h) λv s1 ⟨x,H1,I1,r1,q1⟩=>?_;let⟨a,xs,rfl,hx,q⟩:=q1;cases r1;refine wpAny_Slice ?_;rw[di];refine Æ<|Æ ?_;rw[evalPart_some];refine thn ((Ii (X:=X) (pos:=p1) Da<|Nt (i:=1) (j:=k) (pos:=p0)) Â s1 σ H1 (λy H2=>y=.int (-1)/\H2=H1) I1 ⟨1,rfl,rfl,rfl⟩) λvk s3 ⟨y,H3,I3,r3,e3,e3'⟩=>?_;subst e3 e3';let⟨tk,rfl⟩:=r3;have I4:Inv X Â σ H3 {s3 with heap:=s3.heap.push {cls:=.type "slice",data:=.fields #[.none,.none,.int (-1) tk]}}:=I3.kept (t':=s3.toks) λb ob q=>Ä _ q;let⟨ø,r,ht,hz⟩:=I4.list hx;have hlen:=r.length;show wpAny ↥2 X.A (aB e (.Slice eS eS (eQ<|.UnaryOp .USub (.Constant (.int 1) k p0) p1) p2) (.ref a)<|.ref s3.heap.objs.size) (EP X Â σ Q) X.xe {s3 with heap:=s3.heap.push {cls:=.type "slice",data:=.fields #[.none,.none,.int (-1) tk]}};refine tail_any (ops:=[.ref a,.ref s3.heap.objs.size]) ht.isList.typeIs be.lookup ?_ (by with_unfolding_all rfl);refine dj ht.isList (Heap.IsSliceOf.new ..) .none .none (.int (-1) tk) ↥1 ?_ (by rw[Î]<;>lia);rw[PySem.W.krv_pick];refine⟨.ref _,_,I4.laid (a:=_) (t':=s3.toks) (o:=.lst xs.reverse) (λb ob q=>Ä _ q) (Ï _) ?_,rfl,q _<|I4.hok.fresh<|Ï _⟩;exact⟨by rw[List.length_reverse];exact hz,ø.reverse,0,r.reverse,Ò _ rfl⟩
end
section
variable {x:Str}{p pos:Pos}{e:Expr}{t:TA}
def RM(hg:Gl X x)(hm:X.mg x=eS)(hv:Š x=eQ (.type T))(hn:x≠"__name__":=by decide)(hd:(x==("__debug__" : Str))=eV:=by decide):PE X (.Name x pos)<|tC<|.ty T:=HJ hg hm hv rfl hn hd
end
abbrev YA(scope sc:η)(N:List Str)(x:List Str)(Ă:List Nat):Bool :=
 scope.names.all (λy=>y.2 != .cell)&&scope.names.all (λy=>y.2 != .local||scope.names.lookup y.1==eQ .local)&&x.all (λy=>scope.names.lookup y==eQ .local) &&
 scope.names.all (λy=>y.2 != .free||sc.names.lookup y.1==eQ .cell) &&
 Ă.all (λj=>gB (j<N.length)&&sc.names.lookup (N.getD j Str.empty)==eQ .cell&&scope.names.lookup (N.getD j Str.empty)==eQ .free)&&gB (x++Ă.map λj=>N.getD j Str.empty).Nodup
def UC(hsc:X.env.scope=sc)(hN:X.N=N)(hk:scope.kind=.function)(h:YA scope sc N x Ă=eU):BlkOk X scope x Ă:=by
 unfold YA at h;simp![bAq]at h;let⟨⟨⟨⟨⟨h1,h2⟩,h3⟩,h4⟩,h5⟩,h6⟩:=h;rw[ÿ]at h1 h2 h4 h5;refine⟨hk,λy hy=>by simpa using h1 y hy,λy hy e=>?_,λy hy=>by simpa using ÿ.mp h3 y hy,λy hy e=>?_,λj hj=>?_,?_⟩
 .have:=h2 y hy;rw[e]at this;simpa using this
 .have:=h4 y hy;rw[e]at this;show X.env.scope.names.lookup y.1=_;rw[hsc];simpa using this
 .have:=h5 j hj;simp![bAq,gz,beq_iff_eq]at this;let⟨⟨a,b⟩,c⟩:=this;refine⟨?_,?_,?_⟩
  .rw[hN,È a];rfl
  .show X.env.scope.names.lookup _=_;rw[hsc,hN];exact b
  .rw[hN];exact c
 .unfold Z5;rw[hN];exact of_decide_eq_true h6
abbrev fx(r:Ì)(H H':Hp):Prop:=∀b o,H b=eQ o->b≠r->H' b=eQ o
def fx.refl(r:Ì)(H:Hp):fx r H H:=λ_ _ h _=>h
def fx.trans(a:fx r H H1)(b:fx r H1 H2):fx r H H2:=λc o h n=>b c o (a c o h n) n
noncomputable abbrev Tie:=Int×Int×Int
variable {c:Bool}{A:Prop}{B:Prop}
def fV(e:c=eU)(h:A):if c=eU then A else B:=by rw[gu e];exact h
def fW(e:c=eV)(h:B):if c=eU then A else B:=by rw[e,gw û];exact h
structure BrOk(ns:List Int):Prop where
 one:1<=ns.length
 ten:ns.length<=10
 rng:∀n∈ns,0<=n/\n<=999
 nd:ns.Nodup
structure TieOk(ns:List Int)(t:Tie):Prop where
 a:t.1∈ns
 b:t.2.1∈ns
 ne:t.1≠t.2.1
 lo:1<=t.2.2
 hi:t.2.2<=1000
structure TsOk(ns:List Int)(ts:List Tie):Prop where
 few:ts.length<=16
 each:∀t∈ts,TieOk ns t
abbrev mn(x y:Int):Int:=if y<x then y else x
section
variable {X:Cx}(K:Frag)(h:X.K=K)
include h
end
section
variable {prog:ç}{w:ă}{A:Đ}{E:Ã->Ç->Prop}{s:Ç}
variable {it:Ì}{i:Nat}{items:Array Ã}{Q:Ã->Ç->Prop}
def OX(aH:s.heap.IsTupleIter it t i)(ht:s.heap.IsTuple t items)(hx:items[i]?=eQ x)(hQ:∀h',h'.IsTupleIter it t (i+1)->Ň it s.heap h'->Q x {s with heap:=h'}):wpAny (ß prog w) A (Builtin.SmallTypes.nextOf<|.ref it) Q E s:=by
 let⟨o,ho,hc,hd⟩:=id aH;let⟨ot,hot,_,nt,hdt⟩:=ht;unfold Builtin.SmallTypes.nextOf;refine À<|Ħ (name:=gC "__next__") aH.typeIs F.slot_tuple_iterator_next<|Ĕ F.slot_tuple_iterator_next aH.typeIs F.entry_tuple_iterator_next ?_<|F.args_tuple_iterator_next_1 _;show wpAny _ _ (field (.ref it) 0 >>= _) _ _ s;refine À<|Ő ho hd (x:=.ref t) rfl ?_;show wpAny _ _ (if(Value.ref t==Value.none)=eU then _ else _) _ _ s;rw[gw<|show ¬ ((Value.ref t==Value.none)=eU) from û];show wpAny _ _ (field (.ref it) 1 >>= _) _ _ s;refine À<|Ő ho hd (x:=.int i 0) rfl ?_;show wpAny _ _ (ao (.ref t) >>= _) _ _ s;refine À<|ŗ hot hdt ?_;simp![â,hx];refine À (Į ho hd (by simp)<|Æ ⟨x,rfl,Æ<|hQ _ ⟨_,ĉ _ ho<|ϣ<|Ř hd _,(ay ..).trans hc,?_⟩<|ö ..⟩);rw[Ř hd];simp[Ġ]
def KS(hh:A.handled=eS)(aH:s.heap.IsTupleIter it t i)(ht:s.heap.IsTuple t items)(hx:items[i]?=eS)(hE:∀h' e,Heap.ExtBut it s.heap h'->(∃o,h'.get? e=eQ o/\o.cls=.type "StopIteration")->E (.ref e) {s with heap:=h'}):wpAny (ß prog w) A (Builtin.SmallTypes.nextOf<|.ref it) Q E s:=by
 let⟨o,ho,hc,hd⟩:=id aH;let⟨ot,hot,_,nt,hdt⟩:=ht;unfold Builtin.SmallTypes.nextOf;refine À<|Ħ (name:=gC "__next__") aH.typeIs F.slot_tuple_iterator_next<|Ĕ F.slot_tuple_iterator_next aH.typeIs F.entry_tuple_iterator_next ?_<|F.args_tuple_iterator_next_1 _;show wpAny _ _ (field (.ref it) 0 >>= _) _ _ s;refine À<|Ő ho hd (x:=.ref t) rfl ?_;show wpAny _ _ (if(Value.ref t==Value.none)=eU then _ else _) _ _ s;rw[gw<|show ¬ ((Value.ref t==Value.none)=eU) from û];show wpAny _ _ (field (.ref it) 1 >>= _) _ _ s;refine À<|Ő ho hd (x:=.int i 0) rfl ?_;show wpAny _ _ (ao (.ref t) >>= _) _ _ s;refine À<|ŗ hot hdt ?_;simp![â,hx];refine À (Ϯ<|À<|Į ho hd (by simp) ?_);show wpAny _ _ (ej (.type "StopIteration") [] >>= _) _ _ _;refine À ?_;simp![ej,newTuple];refine À (Ą (À (m:=ſ _ _)<|ϓ (a:=Value.none) (by first|rfl|(simp![ſ];rfl))<|Ą ?_<|by size_fits)<|by size_fits);simp![raiseNew];refine À<|dm ?_
 first
 |rw[show A.in1.handled=eS from hh]
 |rw[hh]
 exact À<|Æ<|wpAny_throw<|hE _ _ (((ö ..).extBut.push _).push _) ⟨_,Ò _ rfl,rfl⟩
end
variable {prog:ç}{w:ă}{A:Đ}
def LQ(hh:A.handled=eS)(it t:Ì)(Ş:t≠it)(items:Array Ã) :
  Draws prog w A it [it,t] items.size (λi v=>items[i]?=eQ v) (λi h=>h.IsTupleIter it t i/\h.IsTuple t items) where
 live:=λ_ _ st=>let ⟨o,ho,_⟩:=st.1;⟨o,ho⟩
 frame:=λ_ _ _ st hk=>⟨st.1.at λo e=>hk it (by simp) o e,st.2.at λo e=>hk t (by simp) o e⟩
 item:=λi s Q E hi st hQ=>OX st.1 st.2 (x:=items[i]) (by simp[hi]) λh' hit' hs'=>hQ _ h' s.toks (by simp[hi]) ⟨hit',st.2.extBut hs'.extBut Ş⟩ hs'
 done:=λs Q E st hE=>KS hh st.1 st.2 (by simp) hE
open AutoSeq1 (wpAny_loadPart') in
def Qz(l:Ì)(items:Array Ã)(n:Nat)(dct:Option Ì)(sl:Array<|Option Ã) :
  Meets (Builtin.«enumerate.__new__» ⟨[.type "enumerate",.ref l],[]⟩) (λ_ R s=>s.heap.get? l=eQ { cls:=.type "tuple",dict:=dct,data:=.seq items n,slots:=sl }/\
    R (.ok<|.ret<|.ref (s.heap.push {cls:=.type "tuple_iterator",data:=.fields #[.ref l,.int 0 0]}).objs.size)
      { s with heap:=(s.heap.push { cls:=.type "tuple_iterator",data:=.fields #[.ref l,.int 0 0] }).push { cls:=.type "enumerate",data:=.fields #[.none,.bool eV,.ref s.heap.objs.size,Ġ 0,.none,.none] } }) :=
 .of_wp λprog w A R s h=>by
  let⟨hp,g,d,tk,os⟩:=s;let⟨hl,h⟩:=h;have hsub:=sub_enumerate;have hL:Heap.IsTuple (Shared.heap ⟨hp,g,d,tk,os⟩) l items:=⟨_,hl,rfl,n,rfl⟩
  wp_walk using Ĥ hl
  refine wpAny_stack_any λst=>Æ ?_;split
  .rename_i c _ _ _ _ _;cases (c==Value.type "enumerate")<;>(wp_walk using Ĥ hl,Ψ hL;exact⟨_,rfl,h⟩)
  .wp_walk using Ĥ hl,Ψ hL;exact⟨_,rfl,h⟩
def Ux{E:Ã->Ç->Prop}{s:Ç}{l:Ì}{items:Array Ã}{Q:Ã->Ç->Prop}(hL:s.heap.IsTuple l items)
  (h:∀h',IsEnum h' (s.heap.objs.size+1) s.heap.objs.size 0 .none->h'.IsTupleIter s.heap.objs.size l 0->(∀b o,s.heap.get? b=eQ o->h'.get? b=eQ o)->Q (.ref<|s.heap.objs.size+1) {s with heap:=h'}) :
  wpAny (ß prog w) A (call (.type "enumerate") [.ref l]) Q E s:=by
 let⟨⟨c,dct,dt,sl⟩,hl,hc,n,hd⟩:=hL;simp only at hc hd;subst hc hd;refine callType_new F.called_enumerate ↥1 (F.typeCall_enumerate_1 _) (F.newCall_enumerate_1 _) (λobj=>F.args_object_init_2 obj _) F.entry_enumerate_new (Qz l items n dct sl) ⟨hl,?_⟩;have hz:(s.heap.push {cls:=.type "tuple_iterator",data:=.fields #[.ref l,.int 0 0]}).objs.size=s.heap.objs.size+1:=Ť ..;have hg:=Ò (s.heap.push {cls:=.type "tuple_iterator",data:=.fields #[.ref l,.int 0 0]}) (o:={cls:=.type "enumerate",data:=.fields #[.none,.bool eV,.ref s.heap.objs.size,Ġ 0,.none,.none]}) rfl;rw[hz]at hg;show _/\_;rw[hz];exact⟨⟨_,hg,rfl⟩,h _ hg ⟨_,Ä _<|Ò _ rfl,rfl,rfl⟩ λb o x=>Ä _<|Ä _ x⟩
section
variable {X:Cx}{Â:List (Ì×Obj)}{σ:St}{H:Hp}{s:Ç}{h':Ď}
def Inv.turnedL{t':Nat}{ch:List Ì}(I:Inv X Â σ H s)(k:∀b o,b∉ch->s.heap.get? b=eQ o->h'.get? b=eQ o)(hc:∀b∈ch,WK X Â H b):Inv X Â σ H {s with heap:=h',toks:=t'}:=by
 have nit:∀b u,H b=eQ u->b∉ch:=λb u e z=>by rw[(hc b z).1]at e;cases e
 refine I.step (g':=s.gens) (d':=s.drawn) (ch:=ch) (λb hb=>?_) (λb o _ _ hcb e _=>k b o hcb e) (λb o _ _ hcb e _=>⟨o.slots,k b o hcb e⟩) (λ_ _ _ _ n=>n)
  (λb o hcb e=>⟨o,k b o hcb e⟩) (λ_ _ e=>e) (λ_ _ _ e=>e) (λb ps e=>⟨#[],by rw[e];simp⟩) (λm hm=>?_) (λb u e=>?_) I.bare
 .obtain⟨_,q2,_,q4,q5,q6⟩:=hc b hb;exact⟨q4,q2,q5,q6⟩
 .obtain⟨o,es,ep,ho,r⟩:=hm;exact⟨o,es,ep,k _ o (λz=>(hc _ z).2.1 rfl) ho,r⟩
 .refine(I.hok b u e).stay (λc v hcc q=>k c v ?_ q) (λ_ q=>q) λ_ _ q=>q;rcases hcc with z|z
  .rw[z];exact nit b u e
  .exact nit c _ z
def Inv.track(I:Inv X Â σ H s)(hT:H T=eS)(h0:X.s₀.heap.objs.size<=T)(hL:T≠X.env.locals)(aG:∀x c,X.env.cells.lookup x=eQ c->c≠T)(hp:∀p∈X.pn++Â,p.1≠T)(new:fg X.prog X.w (upd H T o) s.heap T o):Inv X Â σ (upd H T o) s:=by
 have neT:∀b ob,X.s₀.heap.get? b=eQ ob->b≠T:=λb ob e=>ä<|é (Ó e) h0;refine⟨I.ok,I.os,I.bare,⟨I.base.keep,I.base.slot,λb ob e n hx=>?_,I.base.there,λb xs e=>?_,λb ob xs e=>?_,λb ps e=>?_⟩,I.loc,I.cell,?_,λx c e=>?_,λp hpp=>?_,I.hok.track hT new,I.len⟩
 .rw[eW<|neT b ob e];exact I.base.free b ob e n hx
 .have q:=I.base.tups b xs e;rw[eW<|Zi q hT];exact q
 .have q:=I.base.frzs b ob xs e;rw[eW<|Zi q hT];exact q
 .obtain⟨m,q⟩:=I.base.tbls b ps e;exact⟨m,by rw[eW<|Zi q hT];exact q⟩
 .rw[eW hL.symm];exact I.free
 .rw[eW<|aG x c e];exact I.freeC x c e
 .obtain⟨a,b,c,d,e⟩:=I.pin p hpp;exact⟨a,by rw[eW<|hp p hpp];exact b,c,d,e⟩
end
abbrev Ite(K:Frag)(a:Ì):It :=
 ⟨λi H=>∃xs x,gc K H a xs/\xs[i]?=eQ x,λi H v H'=>∃p,v=.ref p/\H p=eS/\∀xs x,gc K H a xs->xs[i]?=eQ x->H'=upd H p (.tup [.int i,x]),λi H=>∃xs,gc K H a xs/\xs.length<=i⟩
variable {kk:Nat}{tp:Pos}
def OS{P:ç}{K:Frag}(a it e:Ì)(Ş:e≠it) :
  Turn P w K (.Tuple es kk tp) (Ite K a) [e,it] e (λi h=>(∃ϛ,IsEnum h e it i ϛ)/\h.IsTupleIter it a i) where
 mem:=by simp
 obj:=λi h st b hb=>by
  let⟨⟨ϛ,h1⟩,o2,e2,_,d2⟩:=st;rcases Å.mp hb with q|q
  .subst q;exact⟨_,h1,λv z=>by cases z⟩
  .have q:b=it:=⇑q
   subst q;exact⟨o2,e2,λv z=>by rw[d2]at z;cases z⟩
 keep:=λi h h' st k=>⟨let ⟨ϛ,h1⟩:=st.1;⟨ϛ,k e (by simp) _ h1⟩,st.2.at λo q=>k it (by simp) o q⟩
 item:=by
  k_upd;subst hP hw hK;let⟨xs,x,hq,hx⟩:=hg;let⟨ø,rv,pl,hz⟩:=I.tuple hq;let⟨u,hu,ru⟩:=rv.get hx;have hsz:=rv.length;have hi:i<ø.toArray.size:=by rw[Î];exact(Ë.mp hu).1
  let⟨⟨ϛ,h1⟩,h2⟩:=st;have hfi:=hf it (by simp);have hai:a≠it:=λz=>by let⟨o,ho,aG,_⟩:=h2;let⟨o',aF,hcl',_⟩:=pl;rw[z,ho]at aF;cases aF;rw[aG]at hcl';exact gA (ap hcl') ↥1
  have hae:e∉[it,a]:=λz=>by
   rcases Å.mp z with z|z
   .exact Ş z
   .have z:e=a:=⇑z
    let⟨o',aF,hcl',_⟩:=pl;rw[<-z,h1]at aF;cases aF;exact gA (ap hcl') ↥1
  refine wpAny_pyNext_enum_itemD (LQ (A:=X.A.in1) (I.ok.hd hc) it a hai ø.toArray) h1 ⟨h2,pl⟩ hi Ş hae λv h3 tk hv hout hst3 hT _ hk=>?_;have ev:v=u:=by
   have hv:ø[i]?=eQ v:=⇑hv
   rw[hu]at hv;exact(ð hv).symm
  subst ev;have nT:∀b∈[e,it],s.heap.objs.size≠b:=λb hb z=>by
   rcases Å.mp hb with q|q
   .exact gA (Ó h1) (by rw[<-q,<-z];exact ğ _)
   .have q:b=it:=⇑q
    let⟨o,ho,_⟩:=h2;exact gA (Ó ho) (by rw[<-q,<-z];exact ğ _)
  have bW:=I.fpOk (H':=H) (Ï s.heap.objs.size) I.fresh;refine⟨.ref s.heap.objs.size,rfl,wpAny_letOwnedTupleGo_enum hout λh4 he4 hs4=>?_⟩;have I4:Inv X Â σ H {s with heap:=h4,toks:=tk+1}:=I.turnedL (t':=tk+1) (ch:=[e,it]) (λb o hb q=>hs4.extBut b o (λz=>hb<|by simp[z])<|hk b o (λz=>hb<|by simp[z]) (λz=>hb<|by simp[z]) q) hf;have hT4:h4.get? s.heap.objs.size=eQ {cls:=.type "tuple",data:=.seq #[.int i tk,v]}:=hs4.extBut _ _ (nT e<|by simp) hT;let⟨f0,f1,f2,f3,f4,f5⟩:=bW;have I5:Inv X Â σ (upd H s.heap.objs.size<|.tup [.int i,x]) {s with heap:=h4,toks:=tk+1}:=I4.track f0 I.sz f1 f4 f5 ⟨by show 2<=Þ;decide,[.int i tk,v],.cons ⟨tk,rfl⟩<|.cons ru .nil,_,hT4,rfl,_,rfl⟩;refine⟨.ref s.heap.objs.size,_,I5,rfl,⟨s.heap.objs.size,rfl,f0,λys y hy hyi=>?_⟩,⟨⟨v,⇑he4⟩,hst3.1.at λo q=>hs4.extBut it o (Ne.symm Ş) q⟩,λb hb=>?_⟩
  .have ey:ys=xs:=I.tuple_inj hy hq;rw[ey,hx]at hyi;rw[ð hyi]
  .rw[eW (nT b hb).symm];exact(hf b hb).1
 done:=by
  k_upd;subst hP hw hK;let⟨xs,hq,hx⟩:=hg;let⟨ø,rv,pl,hz⟩:=I.tuple hq;have hl:=rv.length;let⟨⟨ϛ,h1⟩,h2⟩:=st;have hai:a≠it:=λz=>by let⟨o,ho,aG,_⟩:=h2;let⟨o',aF,hcl',_⟩:=pl;rw[z,ho]at aF;cases aF;rw[aG]at hcl';exact gA (ap hcl') ↥1
  have hT:s.TypeIs (.ref e) "enumerate":=⟨_,h1,rfl⟩
  unfold Ε;refine À<|dq<|Ħ (name:=gC "__next__") hT F.slot_enumerate_next<|Ĕ F.slot_enumerate_next hT F.entry_enumerate_next ?_<|F.args_enumerate_next_1 _;show wpAny _ _ (field (.ref e) 2 >>= _) _ _ _;refine À<|Ő h1 rfl (x:=.ref it) rfl ?_;refine À (KS (A:=X.A.in1) (I.ok.hd hc) h2 pl (by simp;lia) λh' x he' hx'=>?_);let⟨o,ho,aG⟩:=hx';refine À<|Ϥ (T:="StopIteration") (b:=eU) ⟨o,ho,aG⟩ cE<|Æ ⟨rfl,?_⟩;exact I.turnedL (t':=s.toks) (ch:=[it]) (λb ob hb q=>he' b ob (λz=>hb<|by simp[z]) q) λb hb=>hf b<|Ø _ hb
 self:=λA i s Q E st h=>by let⟨⟨ϛ,h1⟩,_⟩:=st;exact wpAny_pyIter_enum h1 h
section
abbrev La(K:Frag)(ta:TA):TI:=λσ H R=>ta σ H λvs H1=>∃a,vs=[.ref a]/\(∃xs,gc K H1 a xs)/\R (Ite K a) H1
def D1(hg:Gl X "enumerate")(hm:X.mg "enumerate" = eS)(ha:PA X [e] ta)(hs:à [e] X.env=[(eV,eval e X.env)]:=by rfl) :
  PI X (.Tuple es kk tp) (.Call (.Name "enumerate" p) [e] [] pos) (La X.K ta):=by
 intro Â s σ H R I h;refine Call_ (Y6 (u:=.type "enumerate") I hg hm (by kernel_rfl)<|PyProof.Rows.callWith_type1 (T:="enumerate") (thn (ha pos Â s σ H _ I h) λus s1 ⟨vs,H1,I1,r1,q1⟩=>?_) hs rfl);let⟨a,e1,⟨xs,hq⟩,q⟩:=q1;subst e1;let⟨u,rfl,ru⟩:=ZN r1;cases ru;let⟨ø,rv,pl,hz⟩:=I1.tuple hq;refine Ux pl λh2 he2 hi2 hk2=>?_;have I2:Inv X Â σ H1 {s1 with heap:=h2}:=I1.kept (t':=s1.toks) hk2;refine wpAny_pyIter_enum he2 ⟨s1.heap.objs.size+1,[s1.heap.objs.size+1,s1.heap.objs.size],_,_,H1,rfl,I2,OS a s1.heap.objs.size (s1.heap.objs.size+1)<|ŉ<|Ě _,⟨⟨_,he2⟩,hi2⟩,λb hb=>?_,q⟩;have bK:s1.heap.objs.size<=b:=by
  rcases Å.mp hb with z|z
  .rw[z];exact ŋ _
  .have z:b=s1.heap.objs.size:=⇑z
   rw[z];exact Ï _
 exact I1.fpOk bK<|I1.hok.fresh bK
end
end L2
namespace L2
open PySem PySem.Spec PyProof.Rows
open PySem.Builtin PySem.Builtin.Str
noncomputable abbrev TJ:=St->Hp->Str->(Str->Hp->Prop)->Prop
abbrev PJ(X:Cx)(vs:List Expr)(t:TJ):Prop :=
 ∀(Â:List<|Ì×Obj) (s:Ç) (σ:St) (H:Hp) (ĸ:Str) (Q:Str->Hp->Prop),Inv X Â σ H s->t σ H ĸ Q->
  Joins ↥2 X.A X.xe (evalEach vs X.env) ĸ (λout s1=>∃H1,Inv X Â σ H1 s1/\out.length<=Þ/\Q out H1) s
section
variable {e:Expr}{pos:Pos}
def Joins.imp:∀{ps:List (Sem Ã)}{ĸ:Str}{Q Q':Str->Ç->Prop}{s:Ç},(∀o s,Q o s->Q' o s)->Joins M A E ps ĸ Q s->Joins M A E ps ĸ Q' s
 |[],_,_,_,_,f,h=>f _ _ h
 |_::_,_,_,_,_,f,h=>thn h λv s1 ⟨y,t,e,hz,hr⟩=>⟨y,t,e,hz,Joins.imp f hr⟩
end
abbrev wT:Str:="tie"
structure fw(bs:List Int)(ts:List Tie):Prop where
 br:BrOk bs
 ti:TsOk bs ts
 so:sortI bs=bs
 lo:ts.map loT=ts
end L2
namespace L2
open PySem PySem.Spec PyProof.Rows
variable {w:ă}{h:Ď}
def fg.obj(x:fg P w H h a o):∃u,h.get? a=eQ u:=by
 cases o with
 |lst xs=>let⟨_,_,_,_,e⟩:=x;exact⟨_,e⟩
 |tup xs=>let⟨_,_,_,ob,e,_⟩:=x;exact⟨_,e⟩
 |dK kvs=>let⟨_,_,_,_,o,_,_,e,_⟩:=x;exact⟨_,e⟩
 |dT kvs=>let⟨_,_,_,_,o,_,_,e,_⟩:=x;exact⟨_,e⟩
 |set S n=>let⟨o,_,_,_,e,_⟩:=x;exact⟨_,e⟩
 |ins C dx fs=>let⟨_,_,_,e,_⟩:=x;exact⟨_,e⟩
 |own y=>exact x
 |xd fs=>let⟨_,⟨_,_,_,e,_⟩,_⟩:=x;exact⟨_,e⟩
 |rng lo hi=>let⟨_,_,_,e⟩:=x;exact⟨_,e⟩
 |frz ob u=>exact⟨_,x.1⟩
 |tbl ps=>exact⟨_,(show h.get? a=eQ _ from x)⟩
 |met f y=>exact⟨_,(show h.get? a=eQ _ from x)⟩
 |ext φ=>exact x.2.1
abbrev HQ(h:Ď)(a:Ì)(cls:Ã)(T:Option Ì):Prop :=
 ∃oe vs a0,h.get? a=eQ oe/\oe.cls=cls/\oe.data=.fields vs/\vs[0]?=eQ a0/\
  match T with
  |none=>vs[1]?=eQ .none
  |some T=>vs[1]?=eQ (.ref T)/\T≠a/\∃oT ts fl,h.get? T=eQ oT/\oT.data=.fields ts/\ts[3]?=eQ fl
structure Fl(P:ç)(w:ă)(l:List Env)(H:Hp)(s:Ç)(H':Hp)(a:Ì)(cls:Ã)(s':Ç):Prop where
 os:s'.os=s.os
 bare:Ϗ s'.gens
 un:Un (frs l) [] H H' s.heap s'.heap
 hok:HOk P w H' s'.heap
 na:s.heap.get? a=eS
 ha:H' a=eS
 ex:∃T,HQ s'.heap a cls T/\∀t,T=eQ t->s.heap.get? t=eS/\H' t=eS
abbrev CX1(P:ç)(w:ă):CXT:=λl H s E e s'=>∃a cls H',e=.ref a/\Fl P w l H s H' a cls s'/\E cls eS H'
abbrev XW(X:Cx)(E:XK):Prop:=∀(Â:List<|Ì×Obj) (σ:St) (H:Hp) (s:Ç) (H':Hp) (a:Ì) (cls:Ã) (s':Ç),
 Inv X Â σ H s->Fl X.prog X.w X.stack H s H' a cls s'->E cls eS H'->X.xe (.ref a) s'
def XW.passes(h:XW X E):Xn (CX1 X.prog X.w) X E:=λÂ σ H s e s' I ⟨a,cls,H',z,f,q⟩=>by subst z;exact h Â σ H s H' a cls s' I f q
section
variable {M:Model}{A:Đ}{B:Ď}{env:Env}{outer:List Env}{a:Ì}{T:Option Ì}
abbrev YZ(h:Ď)(l:List Env)(a:Ì)(T:Option Ì):Ď:=PySem.W.hideAll h<|a::(T.toList++frs l)
def Xh(h:Ď)(l:List Env)(a:Ì)(T:Option Ì):(YZ h l a T).StaysIn h:=λb o e=>PySem.W.of_hideAll _ e
def Kj(a:Ì)(T:Option Ì)(hl:h.FunFrames B l):h.FunFrames (YZ h l a T) l :=
 PySem.W.funFrames_hide hl λe he b hb=>Ø _<|Ê _<|ω.mpr ⟨e,he,hb⟩
def U7(h:Ď)(l:List Env)(a:Ì)(T:Option Ì):(YZ h l a T).get? a=eS:=PySem.W.hideAll_none _ å
def Az(h:Ď)(l:List Env)(a t:Ì):(YZ h l a<|eQ t).get? t=eS:=PySem.W.hideAll_none _ (Ø _<|Ü _<|by simp)
def Bz(bW:A.frames=eQ (env::outer))(hf:env.frame=eQ L)(hl:s.heap.FunFrames B<|env::outer)(hx:HQ s.heap a cls T)(fin:∀h' a0,Heap.NotedW (YZ s.heap (env::outer) a T) (env::outer) a cls a0 (Ġ L) s.heap h'->Q () {s with heap:=h'}):wpAny M A (bF (.ref a) env) Q E s:=by
 let⟨oe,vs,a0,he,hc,hd,h0,ht⟩:=hx;have fin:=λh'=>fin h' a0;cases T with
 |none =>subst hc;unfold bF;simp![hf];refine À<|Ő he hd ht ?_;rw[gw<|by decide];exact wpAny_entryW bW (Kj a eS hl) hf he (Xh _ _ _ _) (U7 _ _ _ _) hd (ļ.mp ht).1 h0 fin
 |some t =>
  let⟨h1,Ş,oT,ts,fl,e1,e2,e3⟩:=ht;by_cases c:fl=Ġ L
  .subst c;have tr:s.heap.TracedAtW (YZ s.heap (env::outer) a<|eQ t) a cls a0<|Ġ L:=⟨oe,vs,t,oT,ts,he,⟨hc,h0⟩,hd,h1,Az _ _ _ _,Ş,e1,e2,e3⟩
   exact wpAny_noteFrame_againW hf tr<|fin _ ⟨Xh _ _ _ _,Kj a (eQ t) hl,tr,λb o e nf=>⟨o.slots,e⟩⟩
  .subst hc;unfold bF;simp![hf];refine À<|Ő he hd h1 ?_;rw[gu<|by simp];refine À<|Ő e1 e2 e3 ?_;rw[gw<|by simpa using c];refine À<|Į e1 e2 (ļ.mp e3).1 ?_;have off:∀b,b≠t->(s.heap.update t (Ű (·.setIfInBounds 3 Value.none))).get? b=s.heap.get? b:=λb hb=>ô _ _ hb.symm;have nr:∀b o,s.heap.get? b=eQ o->(∀vs,o.data≠.fields vs)->b≠t:=λb o hb nf z=>by
    rw[z,e1]at hb;cases hb;exact nf ts e2
   have bn:=Az s.heap (env::outer) a t;exact wpAny_entryW bW ((Kj a (eQ t) hl).of_keeps λb o hb nf=>⟨o,(off b<|nr b o hb nf).trans hb,rfl⟩) hf ((off a Ş.symm).trans he) (λb o hbo=>(off b λz=>by rw[z,bn]at hbo;cases hbo).trans<|Xh _ _ _ _ b o hbo) (U7 _ _ _ _) hd (ļ.mp h1).1 h0 λh' ⟨x1,x2,x3,x4⟩=>fin h' ⟨x1,x2,x3,λb o hb nf=>x4 b o ((off b<|nr b o hb nf).trans hb) nf⟩
def A8(bW:A.frames=eQ (env::outer))(hf:env.frame=eQ L)(hl:s.heap.FunFrames B<|env::outer)(hx:HQ s.heap a cls T)(h:∀h' a0,dN (YZ s.heap (env::outer) a T) (env::outer) a cls a0 s.heap h'->Q () {s with heap:=h'}):wpAny M A (bF (.ref a) env) (λ_ s2=>wpAny M A (setFlight (.ref a) eS) Q E s2) E s :=
 Bz bW hf hl hx λh' a0 ⟨k1,k2,k3,k4⟩=>wpAny_setFlight_noneW k1 k2 k3 λh2 j1 j2 j3 j4=>h h2 a0 ⟨j1,j2,j3,λb o e nf=>by
   let⟨sl,e2⟩:=k4 b o e nf
   exact⟨sl,j4 b _ e2 nf⟩⟩
def Uk(bW:A.frames=eQ (env::outer))(hf:env.frame=eQ L)(hl:s.heap.FunFrames B<|env::outer)(hx:HQ s.heap a cls T)(h:∀h' a0,dN (YZ s.heap (env::outer) a T) (env::outer) a cls a0 s.heap h'->Q () {s with heap:=h'}):wpAny M A (leaving env<|.ref a) Q E s:=À<|A8 bW hf hl hx h
end
variable {l:List Env}{s':Ç}{a0:Ã}{h':Ď}{T:Option Ì}
def Fl.noted(f:Fl P w l H s H' a cls s')(hT:∀t,T=eQ t->s.heap.get? t=eS/\H' t=eS)(hl:s'.heap.FunFrames B l)(bW:∀b∈frs l,H' b=eS)(z:Heap.NotedW (YZ s'.heap l a T) l a cls a0 fl s'.heap h'):Fl P w l H s H' a cls {s' with heap:=h'}:=by
 let⟨k1,k2,k3,k4⟩:=z;have inb:∀b o,s'.heap.get? b=eQ o->b≠a->(∀t,T=eQ t->b≠t)->b∉frs l->h'.get? b=eQ o:=λb o e na nt nf=>k1 b o (PySem.W.hideAll_get _ e (by
   intro m
   rcases Å.mp m with m|m
   . exact na m
   . rcases ê.mp m with m|m
     . cases T with
       |none=>cases m
       |some t=>exact nt t rfl ⇑m
     . exact nf m))
 have slot:∀b o,s'.heap.get? b=eQ o->b∈frs l->∃sl,h'.get? b=eQ {o with slots:=sl}:=λb o e hb=>by let⟨_,o2,e2,nf⟩:=hl.mem hb;rw[e]at e2;cases e2;exact k4 b o e nf
 have ϛ:∀b o,s.heap.get? b=eQ o->b≠a/\∀t,T=eQ t->b≠t:=λb o e=>⟨(λz=>by rw[z,f.na]at e;cases e),(λt ht z=>by rw[z,(hT t ht).1]at e;cases e)⟩
 refine⟨f.os,f.bare,⟨λb o e n nf _=>?_,λb o e n hb _=>?_,f.un.free,λb o e _=>?_,f.un.tups,f.un.frzs,f.un.tbls⟩,?_,f.na,f.ha,?_⟩
 .exact inb b o (f.un.keep b o e n nf<|by simp) (ϛ b o e).1 (ϛ b o e).2 nf
 .obtain⟨sl,e1⟩:=f.un.slot b o e n hb (by simp);let⟨sl',e2⟩:=slot b _ e1 hb;exact⟨sl',e2⟩
 .obtain⟨o1,e1⟩:=f.un.there b o e (by simp);by_cases hb:b∈frs l
  .obtain⟨sl,e2⟩:=slot b _ e1 hb;exact⟨_,e2⟩
  .exact⟨o1,inb b o1 e1 (ϛ b o e).1 (ϛ b o e).2 hb⟩
 .intro b u e;have good:∀c v,H' c=eQ v->∀ob,s'.heap.get? c=eQ ob->h'.get? c=eQ ob:=λc v ec ob eo =>
   inb c ob eo (λz=>by rw[z,f.ha]at ec;cases ec) (λt ht z=>by rw[z,(hT t ht).2]at ec;cases ec) λm=>by rw[bW c m]at ec;cases ec
  refine(f.hok b u e).stay (λc v hc q=>?_) (λ_ q=>q) λ_ _ q=>q;rcases hc with z|z
  .rw[z]at q ⊢;exact good b u e v q
  .exact good c _ z v q
 .obtain⟨oe,vs,t',oT,ts,e1,⟨e2,e3⟩,e4,e5,e6,e7,e8,e9,e10⟩:=k3;refine⟨eQ t',⟨oe,vs,a0,e1,e2,e4,e3,e5,e7,oT,ts,fl,e8,e9,e10⟩,λt ht=>?_⟩;cases ht;have hid:∀o,s'.heap.get? t'=eQ o->T=eQ t':=λo e=>by
   have nin:¬ (t'∉(a::(T.toList++frs l))):=λm=>by have q:(YZ s'.heap l a T).get? t'=eQ o:=PySem.W.hideAll_get _ e m;rw[e6]at q;cases q
   have m:=Classical.not_not.mp nin;rcases Å.mp m with m|m
   .exact gA m e7
   .rcases ê.mp m with m|m
    .cases T with
     |none=>cases m
     |some t=>rw[show t'=t by simpa using m]
    .obtain⟨_,o2,q,nf⟩:=k2.mem m;rw[e8]at q;cases q;exact gA e9<|nf ts
  constructor
  .cases q:s.heap.get? t' with
   |none=>rfl
   |some o =>let⟨o1,q1⟩:=f.un.there t' o q (by simp);have:=(hT t'<|hid o1 q1).1;rw[q]at this;cases this
  .cases q:H' t' with
   |none=>rfl
   |some u =>let⟨o1,q1⟩:=(f.hok t' u q).obj;have:=(hT t'<|hid o1 q1).2;rw[q]at this;cases this
def Fl.left(f:Fl P w l H s H' a cls s')(hT:∀t,T=eQ t->s.heap.get? t=eS/\H' t=eS)(hl:s'.heap.FunFrames B l)(bW:∀b∈frs l,H' b=eS)(z:dN (YZ s'.heap l a T) l a cls a0 s'.heap h'):Fl P w l H s H' a cls {s' with heap:=h'}:=f.noted (fl:=.none) hT hl bW z
section
variable {P:ç}{w:ă}{K:Frag}{mg:Str->Option Ã}{base:Ď}
variable {X:Cx}
def Inv.raised{Â:List (Ì×Obj)}{σ:St}{H':Hp}{s':Ç}{a:Ì}{cls:Ã}(I:Inv X Â σ H s)(f:Fl X.prog X.w X.stack H s H' a cls s'):Inv X Â σ H' s' :=
 I.call' (ch:=[]) f.os f.un f.hok f.bare (λb z=>gA z<|by simp)
def Ui(ok:X.Ok)(h:X.stack=X.env::X.outer):X.env.frame=eQ X.env.locals:=by
 rcases ok.stk with e|e
 .rw[h]at e;exact gA (congrArg List.length e) (by simp)
 .exact e.2
variable {N:List Str}{qual:Str}{f:Ì}
def Ln:XW (MU (CX1 P w) P w K mg base N qual scope f cd A outer s H E) E:=by
 intro Â σ H2 s2 H' a cls s' I f q;have J:=I.raised f;let⟨T,hx,hT⟩:=f.ex;show wpAny _ _ (leaving _ _) _ _ _;refine Uk (outer:=outer) J.ok.frames (Ui J.ok rfl) J.stack hx λh' a0 z=>?_;have f2:=f.left hT J.stack J.stkFree z;have J2:=I.raised f2;have aV:∀b,s2.heap.get? b=eS->s.heap.get? b=eS:=λb e=>by
  cases z:s.heap.get? b with
  |none=>rfl
  |some o =>let⟨o',e'⟩:=I.base.there b o z (by intro m;cases m);rw[e]at e';cases e'
 let⟨T2,hx2,hT2⟩:=f2.ex;exact⟨a,cls,H',rfl,⟨J2.os,J2.bare,J2.base,J2.hok,aV a f2.na,f2.ha,T2,hx2,λt ht=>⟨aV t (hT2 t ht).1,(hT2 t ht).2⟩⟩,q⟩
def Fun.ok1{st:ń}(F:Fun K x qual st f fd)(S:FnScope N ps<|Zv st)(len:∀vs H Q E,sp vs H Q E->vs.length=ps.length)(hbody:∀(ϱ:Ã) (A:Đ) (outer:List Env) (s:Ç) (H:Hp) (vs:List V) (Q:VK) (E:XK),fG k (A.deeper<|aI qual (Zv st) s.heap.objs.size f ϱ)->sp vs H Q E->
    XW (MU (CX1 P w) P w K mg base N qual (Zv st) f ϱ A outer s H E) E->
    ∃t,PSs (MU (CX1 P w) P w K mg base N qual (Zv st) f ϱ A outer s H E) (ZQ st) t/\t { nx:=λ_ H'=>Q .non H',rt:=Q } (start N vs) H):fH P w K mg base (CX1 P w) (k+1) f fd ps sp:=by
 let⟨oc,od,kV,doc,pm,an,ϱ,ct,osl,rfl,lk,aP⟩:=F.ex;exact Ry lk aP S len λA outer s H vs Q E hr hsp=>hbody ϱ A outer s H vs Q E hr hsp Ln
end
abbrev XP(X:Cx)(Â:List<|Ì×Obj)(σ:St)(E:XK)(v:Ã)(s':Ç):Prop :=
 ∃a cls H1 H' s1,v=.ref a/\Inv X Â σ H1 s1/\Fl X.prog X.w X.stack H1 s1 H' a cls s'/\E cls eS H'
abbrev xcO(a:Ì)(cls:Ã):HO:=.ext λh=>∃o vs,h.get? a=eQ o/\o.cls=cls/\o.data=.fields vs
end L2
namespace L2
open PySem PySem.Spec PySem.W PySem.Calls PyProof.Rows PySem.Builtin PySem.Builtin.ObjectAttr PySem.Builtin.Getset_descriptor
section
variable {prog:ç}{w:ă}{A:Đ}{K:Frag}{g:Array cu}{d:Drawn}{t:Nat}{os:OsState}{C:Ì}
structure XCls(K:Frag)(C:Ì):Prop where
 ga:af K (.ref C) "__getattribute__" = eQ (eQ<|.builtin "BaseException.__getattribute__")
 gr:af K (.ref C) "__getattr__" = eQ eS
 cl:af K (.ref C) "__class__" = eQ (eQ<|.builtin "object.__class__")
 mo:mroIn K C (.type "object")=eQ eU
 mb:mroIn K C (.type "BaseException")=eQ eU
 ci:(clsIn K C).isSome=eU
end
end L2
namespace L2
open PySem PySem.Spec PyProof.Rows
section
def KC:ff X (.type "int") λxs H Q=>∃z n,xs=[.str z]/\PySem.intText? z=eQ n/\z.length<=640/\Q (.int n) H:=by k_put;let⟨z,n,rfl,e,hl,q⟩:=h;let⟨u,rfl,t,rfl⟩:=ZN r;exact PySem.W.KIN.call_text e hl ⟨.int n,H,I.tok _,⟨_,rfl⟩,q⟩
end
end L2
namespace L2
open PySem PySem.Spec PyProof.Rows
open PySem.Builtin PySem.Builtin.Str
abbrev BI(z:Str)(lo hi:Option Int):Str:=if(Ι lo hi 1 z.length).length=z.length then z else⟨((Ι lo hi 1 z.length).filterMap (z.cps[·]?)).toArray⟩
def Ca(z:Str)(lo hi:Option Int):(BI z lo hi).length<=z.length:=by
 unfold BI;split
 .exact Ï _
 .show((Ι lo hi 1 z.length).filterMap (z.cps[·]?)).toArray.size<=_;rw[Î];exact Ö (bP _ _)<|indices_len_le lo hi z.length
section
abbrev RT:V->Option Int->Option Int->Hp->VK->Prop:=λx lo hi H Q=>∃z,x=.str z/\z.length<=Þ/\Q (.str<|BI z lo hi) H
def U3{lo:Option Int}(h:Ϭ v lo):∃l:Option<|Int×Tok,v=partValue l/\l.map (·.1)=lo:=by
 cases h with
 |none=>exact⟨eS,rfl,rfl⟩
 |int i t=>exact⟨eQ (i,t),rfl,rfl⟩
def sl_str:SlR X RT:=by
 intro Â s σ H x v vl vu lo hi sl Q I rx hs pl pu h;let⟨z,rfl,hz,q⟩:=h;let⟨t,rfl⟩:=rx;refine⟨"str",_,slot_str_getitem.lookup,typeIs_str s z t,?_⟩;let⟨l,rfl,el⟩:=U3 pl;let⟨u,rfl,eu⟩:=U3 pu;have hs':s.heap.IsSlice sl l u eS:=hs;refine wpAny_getItem_str_slice hs' rfl ?_;have e:sliceMade z t l u eS=if(Ι lo hi 1 z.length).length=z.length then .val (.str z t)else .str ⟨((Ι lo hi 1 z.length).filterMap (z.cps[·]?)).toArray⟩:=by unfold sliceMade slicePicked;rw[el,eu];simp
 rw[e];have cl:=Ca z lo hi;unfold BI at q cl;split
 .rename_i hh;rw[gu hh]at q;exact⟨.str z,H,I,⟨t,rfl⟩,q⟩
 .rename_i hh;rw[gw hh]at q cl;exact⟨Ö cl hz,.str _,H,I.tok _,⟨_,rfl⟩,q⟩
end
section
def UL(z:Str):∀(n:Nat) (a:Array Nat),((Û n z.cps).foldl (· ++ ·) a).size=a.size+n*z.cps.size
 |0,a=>by simp
 |n+1,a=>by rw[Ē,ķ,UL z n,Array.size_append,Nat.succ_mul];lia
end
end L2
namespace L2
open PySem PySem.Spec PyProof.Rows
section
variable {X:Cx}(K:Frag)(h:X.K=K)
include h
end
end L2
namespace HT
open PySem PyProof.Rows
open PySem.SeqAt
open PySem.AutoSeq1 (wpAny_loadPart')
open PySem.MeetsSeq PySem.MeetsSeq2 PySem.MeetsSeq3
section
variable {prog:ç}{w:ă}{A:Đ}
def getItem_tuple_whole{lo:Option Int}(ht:bb s.heap t items)(hs:s.heap.IsSliceOf sl vl vu .none)(pl:Ϭ vl lo)(pu:Ϭ vu hi)(hw:sIx items.size 0 lo=0/\sIx items.size items.size hi=items.size)(h:Q (.ref t) s):wpAny (ß prog w) A (ϫ (.ref t)<|.ref sl) Q E s:=by
 let⟨os,hos,hcs,hds⟩:=id hs;have hTs:s.TypeIs (.ref sl) "slice":=⟨os,hos,hcs⟩
 unfold ϫ
 try with_reducible refine ē ?_
 first|refine À (Æ ?_)|skip
 refine À (wpAny_sequenceKey ht.typeIs ↥1 ?_);refine À (Ħ (name:=gC "__getitem__") ht.typeIs PyProof.Rows.slot_tuple_getitem
   (Ĕ PyProof.Rows.slot_tuple_getitem ht.typeIs entry_tuple_getitem ?_<|args_tuple_getitem _ _))
 show wpAny _ _ (Builtin.Tuple.tupleItemsOf (.ref t) >>= _) _ _ s;refine À<|tupleItemsOf_ ht ?_;refine À<|ϭ hTs ?_;rw[gu<|by decide];refine À<|Ys hs pl pu ?_;have hyes:(((sIx items.size 0 lo:Nat):Int)==0&&(1:Int)==1&&(sIx items.size items.size hi - sIx items.size 0 lo)==items.size)=eU:=by rw[hw.1,hw.2];simp
 show wpAny _ _ (if(((sIx items.size 0 lo:Nat):Int)==0&&(1:Int)==1&&(sIx items.size items.size hi - sIx items.size 0 lo)==items.size)=eU then _ else _) _ _ s;rw[gu hyes];refine À ?_;unfold Builtin.Tuple.tupleIsExact;refine À<|ϭ ht.typeIs<|Æ ?_;rw[gu<|by decide]
 first
  |exact À<|Æ<|Æ ⟨_,rfl,Æ h⟩
  |exact À<|Ϯ<|Æ ⟨_,rfl,Æ h⟩
  |exact Æ ⟨_,rfl,Æ h⟩
end
end HT
namespace L2
open PySem PySem.Spec PyProof.Rows
section
abbrev SA(K:Frag):V->Option Int->Option Int->Hp->VK->Prop:=λx lo hi H Q=>∃a xs,x=.ref a/\gc K H a xs/\(HT.sIx xs.length 0 lo=0/\HT.sIx xs.length xs.length hi=xs.length)/\Q (.ref a) H
def FJ:SlR X<|SA X.K:=by
 intro Â s σ H x v vl vu lo hi sl Q I rx hs pl pu h;let⟨a,xs,rfl,hx,hw,q⟩:=h;cases rx;let⟨ø,r,ht,hz⟩:=I.tuple hx;have hlen:ø.toArray.size=xs.length:=by rw[Î];exact r.length.symm
 refine⟨"tuple",_,PyProof.Rows.slot_tuple_getitem.lookup,ht.typeIs,?_⟩;exact HT.getItem_tuple_whole ht hs pl pu (by rw[hlen];exact hw) ⟨.ref a,H,I,rfl,q⟩
end
end L2
namespace L2
open PySem PySem.Spec PyProof.Rows
open PySem.Builtin PySem.Builtin.Str
section
abbrev PQ(z:Str)(n:Nat):Str:=⟨(Û n z.cps).foldl (· ++ ·) #[]⟩
def MD(z:Array Nat):∀(n:Nat) (a:Array Nat),((Û n z).foldl (· ++ ·) a).toList=a.toList++(Û n z.toList).flatten
 |0,a=>by simp
 |n+1,a=>by rw[Ē,ķ,MD z n,Ē,ň,Array.toList_append,Ĝ]
abbrev Id:R2:=λx y H Q=>∃z k,x=.str z/\y=.int k/\2<=k/\k<=1000000/\1<=z.length/\z.length*k.toNat<=1000000/\Q (.str<|PQ z k.toNat) H
def Fq:OpR X (ō .Mult) Id:=by
 k_ne;let⟨z,k,rfl,rfl,h2,h6,h1,hz,q⟩:=h;let⟨t,rfl⟩:=rx;let⟨t',rfl⟩:=ry;have big:(1000000:Nat)<=Þ:=by decide
 have nb:(k==1||z.length==0)=eV:=by have e1:(k==1)=eV:=beq_false_of_ne ↥0;have e2:(z.length==0)=eV:=beq_false_of_ne ↥0;rw[e1,e2];rfl
 have zl:z.length<=1000000:=by have:z.length*1<=z.length*k.toNat:=dO _ ↥0;lia
 have hr:(gB (k < -(2 ^ 63:Int))||gB (k≥2 ^ 63))=eV:=by rw[gx ↥0,gx<|by lia];rfl
 have hb:¬ k<1->(k==1||z.length==0)=eV->¬ ((z.length:Int) > (2 ^ 63 - 1) / k):=λ_ _=>by have:(1000000:Int)<=(2 ^ 63 - 1) / k:=(Int.le_ediv_iff_mul_le<|by lia).mpr ↥0;lia
 have hl:¬ k<1->(k==1||z.length==0)=eV->tooLong (z.length*k.toNat)=eV:=λ_ _=>by unfold tooLong;exact gx ↥0
 refine P.mul_str hr hb hl ?_;rw[gw ↥0,gw<|by rw[nb];exact û];have el:(⟨(Û k.toNat z.cps).foldl (· ++ ·) #[]⟩:Str).length=z.length*k.toNat:=by show((Û k.toNat z.cps).foldl (· ++ ·) #[]).size=_;rw[UL,cD z.length];simp[Str.length]
 exact⟨by rw[el];lia,.str _,H,I.tok _,⟨_,rfl⟩,q⟩
variable {c y z a b:Str}{k1 k2 k3:Nat}{p1 p2 p3 p4 pa pb œ Ũ:Pos}
end
end L2
namespace L2
open PySem PySem.Spec PyProof.Rows
section
abbrev Ix(K:Frag):R2:=λx y H Q=>∃a b ys,x=.ref a/\y=.ref b/\gc K H a []/\gc K H b ys/\Q (.ref b) H
def op_cat0:OpR X (ō .Add)<|Ix X.K:=by
 k_ne;let⟨a,b,ys,rfl,rfl,ha,hb,q⟩:=h;cases rx;cases ry;let⟨ø,r1,p1,_⟩:=I.tuple ha;let⟨bw,r2,p2,_⟩:=I.tuple hb;cases r1;let⟨⟨cls,dd,data,sl⟩,ho,hc,n,hd⟩:=id p1;let⟨⟨cls2,cZ,data2,dX⟩,ho2,hc2,n2,bT⟩:=id p2;simp only at hc hd hc2 bT;subst hc hd hc2 bT;exact d8 ⟨_,ho,rfl⟩ ⟨_,ho2,rfl⟩ bE dh PySem.F.slot_tuple_add PySem.F.entry_tuple_add (PySem.F.args_tuple_add_2 _ _)
  (tuple_addW0 a b _ _ n n2 dd cZ sl dX rfl) ⟨ho,ho2,.ref b,H,I,rfl,q⟩
def Hc(h:k<xs.size):numAt xs k∈xs.toList.map (·.1):=by rw[numAt_eq];exact PySem.getD_mem (by rw[Á,ì];exact h)
def AN(hc:X.calm=eU):ff X (.builtin "min") λxs H Q=>∃p,∃ns:List Int,xs=[.ref p]/\f9 X.K H p (ns.map V.int)/\ns≠[]/\∀M,M∈ns->(∀a∈ns,M<=a)->Q (.int M) H:=by
 k_put;let⟨p,ns,rfl,hq,Ş,q⟩:=h;let⟨u,rfl,rx⟩:=ZN r;cases rx;let⟨ø,rv,pl,hz⟩:=I.list hq;have hi:=Zz rv;let⟨xs,e⟩:=hi.allInts.items;have hns:ns=xs.toList.map (·.1):=by rw[<-hi.numsOf,<-nums_intItems,<-e]
 have hsz:0<xs.size:=by have h3:=ξ.mpr Ş;rw[hns,Á,ì]at h3;exact h3
 have hl:=pl.isList;rw[e]at hl;refine min_intList (I.ok.hd hc) hl hsz λv h' tk hv hk=>?_;let⟨t,rfl⟩:=intItems_at hv;let⟨h1,h2⟩:=argBest_lt (numAt xs)<|xs.size - 1;refine⟨.int _,H,I.kept (t':=tk) hk,⟨t,rfl⟩,q _ ?_ λa ha=>?_⟩
 .rw[hns];exact Hc ↥0
 .rw[hns]at ha;let⟨j,hj,rfl⟩:=mem_getD ha;rw[Á,ì]at hj;rw[<-numAt_eq];exact h2 j ↥0
def UH(hc:X.calm=eU):ff X (.builtin "min") λxs H Q=>∃p,∃ns:List Int,xs=[.ref p]/\gc X.K H p (ns.map V.int)/\ns≠[]/\∀M,M∈ns->(∀a∈ns,M<=a)->Q (.int M) H:=by
 k_put;let⟨p,ns,rfl,hq,Ş,q⟩:=h;let⟨u,rfl,rx⟩:=ZN r;cases rx;let⟨ø,rv,pl,hz⟩:=I.tuple hq;have Ϝ:p<s.heap.objs.size:=by let⟨o,e,_⟩:=pl;exact Ó e
 have hl:ø.length=ns.length:=by rw[<-rv.length,Á]
 have hn:=ξ.mpr Ş;have hv:∀k v,ø[k]?=eQ v->∃t,v=Value.int (ns.getD k 0) t:=λk v hv=>by
  have hk:=(Ë.mp hv).1;rw[hl]at hk;have hb:(ns.map V.int)[k]?=eQ (.int<|ns.getD k 0):=by rw[Ù,È hk,Č,È hk];rfl
  let⟨u,hu,ru⟩:=rv.get hb;rw[hv]at hu;cases hu;exact ru
 refine call_min_walk (Ψ (show s.heap.IsTuple p ø.toArray from pl) ?_);refine⟨s.heap.objs.size,_,_,ø.toArray.size,_,_,λa b=>gB (ns.getD a 0<ns.getD b 0),rfl,Walks.tuple (A:=X.A.in1) (I.ok.hd hc) s.heap.objs.size p (ä Ϝ) ø.toArray,⟨⟨_,Ò _ rfl,rfl,rfl⟩,?_⟩,?_,?_,?_,λv h' tk hP hk=>?_⟩
 .obtain⟨o,e,r⟩:=pl;exact⟨o,Ä _ e,r⟩
 .intro b hb;show b<(s.heap.push _).objs.size;rw[Ť];rcases Å.mp hb with e|hb
  .rw[e];exact Ě _
  .have:b=p:=⇑hb
   rw[this];exact ĕ Ϝ
 .rw[Î,hl];exact hn
 .exact CmpOf.ints_lt (λk=>ns.getD k 0) λk v hP=>hv k v ⇑hP
 .rw[Î,hl]at hP;have hP:ø[Ĩ (λa b=>gB (ns.getD a 0<ns.getD b 0))<|ns.length - 1]?=eQ v:=⇑hP
  let⟨t,rfl⟩:=hv _ _ hP;let⟨h1,h2⟩:=argBest_lt (λk=>ns.getD k 0)<|ns.length - 1;refine⟨.int _,H,I.kept (t':=tk) λb o e=>hk b o (λhm=>?_)<|Ä _ e,⟨_,rfl⟩,q _ (PySem.getD_mem<|by lia) λa ha=>?_⟩
  .have:b=s.heap.objs.size:=⇑hm
   exact gA (this▸Ó e)<|ğ _
  .obtain⟨j,hj,rfl⟩:=mem_getD ha;exact h2 j ↥0
end
section
abbrev Gn(K:Frag)(neg:Bool):R2:=λx y H Q=>∃ds d,(IsD K H y (.tuple ds)\/IsD K H y (.list ds))/\IsD K H x d/\Ś ds=eU/\d.canLay0=eU/\d.depth<=64/\Q (.bl<|if neg then !ds.any (λe=>İ e d)else ds.any λe=>İ e d) H
def QC(hu:X.A.units+65<Ģ):OpR X (ñ .In)<|Gn X.K eV:=by
 k_ne;let⟨ds,d,hd,he,sd,se,hdp,q⟩:=h;let⟨bs,rb⟩:=he.reads I rx;have hr:X.A.units+1+min (ł ds) d.depth<Ģ:=by have:min (ł ds) d.depth<=d.depth:=aJ _ _;lia
 rcases hd with hd|hd
 .obtain⟨as,ra⟩:=hd.reads I ry;exact SeqAt.in_tuple_reads ra rb sd se hr ⟨.bl _,H,I,rfl,q⟩
 .obtain⟨as,ra⟩:=hd.reads I ry;exact SeqAt.in_list_reads ra rb sd se hr ⟨.bl _,H,I,rfl,q⟩
def Bc(hu:X.A.units+65<Ģ):OpR X (ñ .NotIn)<|Gn X.K eU:=by
 k_ne;let⟨ds,d,hd,he,sd,se,hdp,q⟩:=h;let⟨bs,rb⟩:=he.reads I rx;have hr:X.A.units+1+min (ł ds) d.depth<Ģ:=by have:min (ł ds) d.depth<=d.depth:=aJ _ _;lia
 rcases hd with hd|hd
 .obtain⟨as,ra⟩:=hd.reads I ry;exact SeqAt.notIn_tuple_reads ra rb sd se hr ⟨.bl _,H,I,rfl,q⟩
 .obtain⟨as,ra⟩:=hd.reads I ry;exact SeqAt.notIn_list_reads ra rb sd se hr ⟨.bl _,H,I,rfl,q⟩
end
section
variable {κ:Type}[DecidableEq κ]
abbrev Yl(kvs:List<|κ×V)(k:κ):Option V:=(kvs.find? λkv=>gB (kv.1=k)).map (·.2)
abbrev fA(kvs:List<|κ×V)(k:κ)(v:V):List (κ×V) :=
 if(kvs.any λkv=>gB (kv.1=k))=eU then kvs.map (λkv=>if kv.1=k then(kv.1,v)else kv)else kvs++[(k,v)]
abbrev fB(kvs:List<|κ×V)(k:κ):List<|κ×V:=kvs.filter λkv=>gB (kv.1≠k)
variable {p:κ×V}{r:List (κ×V)}
def Y3(e:p.1=k):Yl (p::r) k=eQ p.2:=by simp[Yl,ę,e]
def Xg(e:¬ p.1=k):Yl (p::r) k=Yl r k:=by simp[Yl,ę,e]
def Xf(k:κ):∀kvs:List<|κ×V,(kvs.any λkv=>gB (kv.1=k))=(Yl kvs k).isSome
 |[]=>rfl
 |p::r=>by
  rw[Ğ];by_cases e:p.1=k
  .simp![Y3 e,gy e,ca,ϳ]
  .rw[Xg e,gx e,Bool.false_or];exact Xf k r
def Xk(kvs:List<|κ×V)(k:κ)(v:V):(fA kvs k v).length<=kvs.length+1:=by
 unfold fA;split
 .rw[Á];lia
 .rw[í,Ð,ī];lia
def fE.isSome_eq(r:fE o u):o.isSome=u.isSome:=by
 cases o with
 |none=>cases u with
  |none=>rfl
  |some _=>exact(show False from r).elim
 |some _=>cases u with
  |none=>exact(show False from r).elim
  |some _=>rfl
def fE.getD(r:fE o u)(rd:RelV d d'):RelV (o.getD d)<|u.getD d':=by
 cases o with
 |none=>cases u with
  |none=>exact rd
  |some _=>exact(show False from r).elim
 |some _=>cases u with
  |none=>exact(show False from r).elim
  |some _=>exact r
variable {kvs:List (κ×V)}{vs:List (κ×Ã)}
def KV.val(r:KV kvs vs)(k:κ):fE (Yl kvs k)<|ϯ vs k:=by
 unfold KV at r;induction r with
 |nil=>exact True.intro
 |@cons p q ps qs h t ih =>
  let⟨h1,h2⟩:=h;by_cases e:p.1=k
  .have e':q.1=k:=h1.symm.trans e;have b:ϯ (q::qs) k=eQ q.2:=by simp[ϯ,ę,e']
   rw[Y3 e,b];exact h2
  .have e':¬ q.1=k:=λz=>e<|h1.trans z;have b:ϯ (q::qs) k=ϯ qs k:=by simp[ϯ,ę,e']
   rw[Xg e,b];exact ih
def KV.any(r:KV kvs vs)(k:κ):(kvs.any λkv=>gB (kv.1=k))=vs.any λkv=>gB (kv.1=k):=by
 unfold KV at r;induction r with
 |nil=>rfl
 |cons h t ih=>rw[Ğ,Ğ,ih,h.1]
def KV.repl(r:KV kvs vs)(k:κ){u:Ã}(ry:RelV y u) :
  KV (kvs.map λkv=>if kv.1=k then(kv.1,y)else kv) (vs.map λkv=>if kv.1=k then(kv.1,u)else kv):=by
 unfold KV at r ⊢;induction r with
 |nil=>exact .nil
 |@cons p q ps qs h t ih =>
  rw[Ñ,Ñ];refine .cons ?_ ih;let⟨h1,h2⟩:=h;by_cases e:p.1=k
  .rw[gu e,gu<|h1.symm.trans e];exact⟨h1,ry⟩
  .rw[gw e,gw λz=>e<|h1.trans z];exact⟨h1,h2⟩
def KV.put(r:KV kvs vs)(k:κ){u:Ã}(ry:RelV y u):KV (fA kvs k y)<|stored vs k u:=by
 unfold fA stored;rw[r.any k];by_cases e:(vs.any λkv=>gB (kv.1=k))=eU
 .rw[gu e,gu e];exact r.repl k ry
 .rw[gw e,gw e];exact Paired.snoc r ⟨rfl,ry⟩
def KV.drop(r:KV kvs vs)(k:κ):KV (fB kvs k)<|without vs k:=by
 unfold KV at r ⊢;unfold fB without;induction r with
 |nil=>exact .nil
 |@cons p q ps qs h t ih =>
  let⟨h1,h2⟩:=h;rw[Ā,Ā];by_cases e:p.1=k
  .have a:¬ gB (p.1≠k)=eU:=by simp[e]
   have b:¬ gB (q.1≠k)=eU:=by simp[h1.symm.trans e]
   rw[gw a,gw b];exact ih
  .have e':¬ q.1=k:=λz=>e<|h1.trans z;have a:gB (p.1≠k)=eU:=by simp[e]
   have b:gB (q.1≠k)=eU:=by simp[e']
   rw[gu a,gu b];exact .cons ⟨h1,h2⟩ ih
def KV.keys(r:KV kvs vs):kvs.map (·.1)=vs.map (·.1):=by
 unfold KV at r;induction r with
 |nil=>rfl
 |cons h t ih=>rw[Ñ,Ñ,ih,h.1]
def KV.length(r:KV kvs vs):kvs.length=vs.length:=Paired.length r
def OE(kvs:List<|κ×V)(k:κ):(fB kvs k).length<=kvs.length:=ĝ _ _
end
variable {P:ç}{w:ă}
def XJ(r:RelV (kV k) u):(Zc P w).is k u=eU:=by
 cases k with
 |inl i=>let⟨t,e⟩:=(show ∃t,u=Value.int i t from r);subst e;exact Om P w i t
 |inr x=>let⟨t,e⟩:=(show ∃t,u=Value.str x t from r);subst e;exact NP P w x t
def Mu:∀{ks:List Key}{us:List Ã},gf (ks.map kV) us->ItemsAre (Zc P w) ks us
 |[],_,r=>by rw[ϒ]at r;cases r;exact .nil
 |k::ks,_,r=>by
  rw[Ñ]at r;cases r with
  |cons h t=>exact .cons (XJ h)<|Mu t
@[reducible] noncomputable def KTd(H:Hp):List (List Key×V)->List (List Key×Ì×Ã)->Prop:=Paired λp q=>p.1=q.1/\H q.2.1=eQ (.tup<|p.1.map kV)/\RelV p.2 q.2.2
def KTd.val(r:KTd H kvs xs)(k:List Key):fE (Yl kvs k) ((aC xs k).map (·.2)):=by
 induction r with
 |nil=>exact True.intro
 |@cons p q ps qs h t ih =>
  let⟨h1,_,h2⟩:=h;by_cases e:p.1=k
  .have e':q.1=k:=h1.symm.trans e;have b:aC (q::qs) k=eQ q.2:=by simp[aC,ę,e']
   rw[Y3 e,b];exact h2
  .have e':¬ q.1=k:=λz=>e<|h1.trans z;have b:aC (q::qs) k=aC qs k:=by simp[aC,ę,e']
   rw[Xg e,b];exact ih
def KTd.repl(r:KTd H kvs xs)(k:List Key)(ry:RelV y u) :
  KTd H (kvs.map λkv=>if kv.1=k then(kv.1,y)else kv) (xs.map<|putAt k u):=by
 induction r with
 |nil=>exact .nil
 |@cons p q ps qs h t ih =>
  rw[Ñ,Ñ];refine .cons ?_ ih;let⟨h1,h2,h3⟩:=h;unfold putAt;by_cases e:p.1=k
  .rw[gu e,gu<|h1.symm.trans e];exact⟨h1,h2,ry⟩
  .rw[gw e,gw λz=>e<|h1.trans z];exact⟨h1,h2,h3⟩
variable {b:Ì}
def KTd.put(r:KTd H kvs xs)(k:List Key)(hb:H b=eQ (.tup<|k.map kV))(ry:RelV y u) :
  KTd H (fA kvs k y) (storedH xs k b u):=by
 have e:(kvs.any λkv=>gB (kv.1=k))=(aC xs k).isSome:=by rw[Xf,(r.val k).isSome_eq,Ń]
 unfold fA storedH;rw[e];by_cases q:(aC xs k).isSome=eU
 .rw[gu q,gu q];exact r.repl k ry
 .rw[gw q,gw q];exact Paired.snoc r ⟨rfl,hb,ry⟩
variable {H':Hp}
def KTd.keeps(r:KTd H kvs xs)(ht:∀b ys,H b=eQ (.tup ys)->H' b=eQ (.tup ys)):KTd H' kvs xs :=
 Paired.mapP r λ_ _ z=>⟨z.1,ht _ _ z.2.1,z.2.2⟩
section
variable {P:ç}{w:ă}{h:Ď}
def Io{u:HO}(ok:HOk P w H h)(e:Rd H a u):fg P w H h a u:=e.ok ok
def XO{kvs:List (Key×V)}(ok:HOk P w H h)(e:Rd H a<|.dK kvs):kvs.length<=Þ/\(a==Ĵ)=eV/\∃vs,KV kvs vs/\h.DictOf (Zc P w) a vs :=
 show fg P w H h a (.dK kvs) from Io ok e
def J0{kvs:List (Key×V)}(ok:HOk P w H h)(e:H a=eQ (.dK kvs)):kvs.length<=Þ/\(a==Ĵ)=eV/\∃vs,KV kvs vs/\h.DictOf (Zc P w) a vs:=XO ok (.inl e)
def fm(ok:HOk P w H h)(e:H a=eQ (.tup<|ks.map kV)):(ι<|Zc P w).is h ks a:=by
 let⟨_,ø,r,o,h1,h2,n,h3⟩:=(show fg P w H h a (.tup<|ks.map kV) from ok a _ e)
 exact⟨o,ø.toArray,n,h1,h2,h3,by simpa using Mu r⟩
def WU(ok:HOk P w H h)(e:Rd H a<|.dT kvs):kvs.length<=Þ/\(a==Ĵ)=eV/\
  ∃xs,KTd H kvs xs/\h.DictOfH (ι<|Zc P w) a xs:=by
 let⟨z,y,xs,r,o,es,ep,h1,h2,h3,h4,h5⟩:=(show fg P w H h a (.dT kvs) from Io ok e)
 refine⟨z,y,xs,r,o,es,ep,h1,h2,h3,h4,λx hx=>?_,h5⟩;have all:∀{l:List (List Key×V)}{m:List (List Key×Ì×Ã)},KTd H l m->∀x∈m,(ι<|Zc P w).is h x.1 x.2.1:=by
  intro l m q;induction q with
  |nil=>intro x hx;exact nomatch hx
  |@cons p q ps qs hq t ih =>
   intro x hx;rcases Å.mp hx with e|hx
   .subst e;exact fm ok (by rw[<-hq.1];exact hq.2.1)
   .exact ih x hx
 exact all r x hx
def DL(ok:HOk P w H h)(e:H a=eQ (.dT kvs)):kvs.length<=Þ/\(a==Ĵ)=eV/\
  ∃xs,KTd H kvs xs/\h.DictOfH (ι<|Zc P w) a xs:=WU ok<|.inl e
end
abbrev DGet(H:Hp)(a:Ì)(y:V)(r:Option V):Prop :=
 (∃kvs k,Rd H a (.dK kvs)/\y=kV k/\r=Yl kvs k)\/∃kvs k b,Rd H a (.dT kvs)/\y=.ref b/\H b=eQ (.tup<|k.map kV)/\r=Yl kvs k
abbrev DPut(H:Hp)(a:Ì)(y v:V)(H':Hp):Prop :=
 (∃kvs k,H a=eQ (.dK kvs)/\y=kV k/\kvs.length<Þ/\H'=upd H a (.dK<|fA kvs k v))\/
 ∃kvs k b,H a=eQ (.dT kvs)/\y=.ref b/\H b=eQ (.tup<|k.map kV)/\kvs.length<Þ/\H'=upd H a (.dT<|fA kvs k v)
def DGet.k{H:Hp}{a:Ì}{kvs:List (Key×V)}{k:Key}(e:H a=eQ (.dK kvs)):DGet H a (kV k)<|Yl kvs k:=.inl ⟨kvs,k,.inl e,rfl,rfl⟩
def DGet.t{k:List Key}(e:H a=eQ (.dT kvs))(eb:H b=eQ (.tup<|k.map kV)):DGet H a (.ref b)<|Yl kvs k:=.inr ⟨kvs,k,b,.inl e,rfl,eb,rfl⟩
def DPut.k{H:Hp}{a:Ì}{kvs:List (Key×V)}{k:Key}{v:V}(e:H a=eQ (.dK kvs))(hl:kvs.length<Þ):DPut H a (kV k) v<|upd H a<|.dK<|fA kvs k v:=.inl ⟨kvs,k,e,rfl,hl,rfl⟩
def DPut.t{k:List Key}{v:V}(e:H a=eQ (.dT kvs))(eb:H b=eQ (.tup<|k.map kV))(hl:kvs.length<Þ) :
  DPut H a (.ref b) v (upd H a<|.dT<|fA kvs k v):=.inr ⟨kvs,k,b,e,rfl,eb,hl,rfl⟩
section
variable {X:Cx}{Â:List (Ì×Obj)}{σ:St}{H:Hp}{s:Ç}{a:Ì}{y v:V}{u r:Ã}{o:Option V}{A:Đ}
def Inv.big(I:Inv X Â σ H s):Ĵ<s.heap.objs.size:=by have h:č<s.heap.objs.size:=(I.mod.glob.keeps I.bk).lt;exact χ ↥1 h
variable {Q:Ã->Ç->Prop}
def Me(hu:A.units+1<Ģ)(I:Inv X Â σ H s)(g:DGet H a y<|eQ v)(ry:RelV y u)(h:∀w' s',Inv X Â σ H s'->RelV v w'->Q w' s') :
  wpAny ↥2 A (ϫ (.ref a) u) Q E s:=by
 rcases g with⟨kvs,k,e,ey,l⟩|⟨kvs,k,b,e,ey,eb,l⟩
 .subst ey;let⟨z,hd,vs,Ţ,dd⟩:=XO I.hok e;let⟨w',hw,aA⟩:=fE.some_of (v:=v) (o:=ϯ vs k) (by rw[l];exact Ţ.val k);exact wpAny_getItem_of (XJ ry) dd.mapOf hw<|h w' _ (I.tok _) aA
 .subst ey;cases (show u=Value.ref b from ry);let⟨z,hd,xs,Ţ,dd⟩:=WU I.hok e;let⟨w',hw,aA⟩:=fE.some_of (v:=v) (o:=(aC xs k).map (·.2)) (by rw[l];exact Ţ.val k);let⟨p,hp,dA⟩:=Í.mp hw;refine wpAny_getItem_heap (Ņ hu) (fm I.hok eb) dd hp ?_;rw[dA];exact h w' _ (I.tok _) aA
def Ti(hu:A.units+1<Ģ)(I:Inv X Â σ H s)(g:DGet H a y o)(ry:RelV y u)(h:∀s',Inv X Â σ H s'->Q (.bool o.isSome) s') :
  wpAny ↥2 A (ñ .In u<|.ref a) Q E s:=by
 rcases g with⟨kvs,k,e,ey,l⟩|⟨kvs,k,b,e,ey,eb,l⟩
 .subst ey;let⟨z,hd,vs,Ţ,dd⟩:=XO I.hok e;refine wpAny_in_of (XJ ry) hd dd.mapOf ?_;rw[<-(Ţ.val k).isSome_eq,<-l];exact h _<|I.tok _
 .subst ey;cases (show u=Value.ref b from ry);let⟨z,hd,xs,Ţ,dd⟩:=WU I.hok e;refine wpAny_in_heap (Ņ hu) (fm I.hok eb) hd dd ?_;have q:=(Ţ.val k).isSome_eq;rw[Ń]at q;rw[<-q,<-l];exact h _<|I.tok _
def GD(hu:A.units+1<Ģ)(I:Inv X Â σ H s)(g:DGet H a y o)(ry:RelV y u)(h:∀s',Inv X Â σ H s'->Q (.bool (!o.isSome)) s') :
  wpAny ↥2 A (ñ .NotIn u<|.ref a) Q E s:=by
 rcases g with⟨kvs,k,e,ey,l⟩|⟨kvs,k,b,e,ey,eb,l⟩
 .subst ey;let⟨z,hd,vs,Ţ,dd⟩:=XO I.hok e;refine wpAny_notIn_of (XJ ry) hd dd.mapOf ?_;rw[<-(Ţ.val k).isSome_eq,<-l];exact h _<|I.tok _
 .subst ey;cases (show u=Value.ref b from ry);let⟨z,hd,xs,Ţ,dd⟩:=WU I.hok e;refine wpAny_notIn_heap (Ņ hu) (fm I.hok eb) hd dd ?_;have q:=(Ţ.val k).isSome_eq;rw[Ń]at q;rw[<-q,<-l];exact h _<|I.tok _
variable {h':Ď}
def Wq{t':Nat}(I:Inv X Â σ H s)(mu:Mut<|H a)(hs:Ň a s.heap h')(he:∃q,h'.get? a=eQ q)(new:fg X.prog X.w (upd H a ob) h' a ob) :
  Inv X Â σ (upd H a ob) {s with heap:=h',toks:=t'} :=
 I.write (x:=a) (e:=a) mu (.inl rfl) (λb q hb z=>(hs.2 b hb).trans z) he new
def OP{kvs:List (Key×V)}{vs:List (Key×Ã)}(z:kvs.length<=Þ)(hd:(a==Ĵ)=eV)(Ţ:KV kvs vs)(dd:h'.DictOf (Zc P w) a vs) :
  fg P w H' h' a (.dK kvs):=⟨z,hd,vs,Ţ,dd⟩
def A5{Q:Unit->Ç->Prop}(hu:A.units+1<Ģ)(I:Inv X Â σ H s)(g:DPut H a y v H')(ry:RelV y u)(rv:RelV v r)(h:∀s',Inv X Â σ H' s'->Q () s') :
  wpAny ↥2 A (bc (.ref a) u r) Q E s:=by
 rcases g with⟨kvs,k,e,ey,l,eH⟩|⟨kvs,k,b,e,ey,eb,l,eH⟩
 .subst ey eH;let⟨z,hd,vs,Ţ,dd⟩:=J0 I.hok e;have hz:vs.length<=Þ:=by rw[<-Ţ.length];exact z
  have hl:(fA kvs k v).length<=Þ:=by have:=Xk kvs k v;lia
  refine wpAny_setItem_pairs (hsz:=hz) (XJ ry) dd λh' dY hs=>h _ ?_;have he:∃q,h'.get? a=eQ q:=let ⟨q,_,_,hq,_⟩:=dY;⟨q,hq⟩;exact Wq I (by rw[e];exact True.intro) hs he<|OP hl hd (Ţ.put k rv) dY
 .subst ey eH;cases (show u=Value.ref b from ry);let⟨z,hd,xs,Ţ,dd⟩:=DL I.hok e;have hz:xs.length<=Þ:=by rw[<-Paired.length Ţ];exact z
  have hl:(fA kvs k v).length<=Þ:=by have:=Xk kvs k v;lia
  refine wpAny_setItem_heap (hsz:=hz) (Ņ hu) (fm I.hok eb) dd λh' dY hs=>h _ ?_;let⟨q,es,ep,hq,h2,h3,h4,_,h5⟩:=dY;refine Wq I (by rw[e];exact True.intro) hs ⟨q,hq⟩ ⟨hl,hd,_,(Ţ.put k eb rv).keeps λc ys ec=>?_,q,es,ep,hq,h2,h3,h4,h5⟩;rw[eW<|Ic ec e λz=>nomatch z];exact ec
end
section
variable {X:Cx}{Â:List (Ì×Obj)}{σ:St}{H:Hp}{s:Ç}{a:Ì}{kvs:List (Key×V)}{k:Key}{u:Ã}{A:Đ}{E:Ã->Ç->Prop}
variable {Q:Ã->Ç->Prop}
def ID(I:Inv X Â σ H s)(e:H a=eQ (.dK kvs))(ry:RelV (kV k) u)(l:Yl kvs k=eQ v)(hm:more=[]\/∃x,more=[x])(h:∀w' s',Inv X Â σ (upd H a<|.dK<|fB kvs k) s'->RelV v w'->Q w' s'):wpAny ↥2 A (call (.builtin "dict.pop")<|.ref a::u::more) Q E s:=by
 let⟨z,hd,vs,Ţ,dd⟩:=J0 I.hok e;let⟨w',hw,aA⟩:=fE.some_of (v:=v) (o:=ϯ vs k) (by rw[<-l];exact Ţ.val k);have hp:(keyPart u).isSome=eU:=by
  cases k with
  |inl i=>let⟨t,q⟩:=(show ∃t,u=Value.int i t from ry);subst q;rfl
  |inr x=>let⟨t,q⟩:=(show ∃t,u=Value.str x t from ry);subst q;rfl
 have ha:cF "dict.pop" ⟨.ref a::u::more,[]⟩:=by
  rcases hm with q|⟨x,q⟩
  .subst q;exact PySem.F.args_dict_pop_2 _ _
  .subst q;exact PySem.F.args_dict_pop_3 _ _ _
 refine ű PySem.F.slot_dict_pop dd.typeIs PySem.F.entry_dict_pop ha (meets_dict_pop_there (Zc X.prog X.w) a (XJ ry) more hm hp)
  ⟨vs,w',dd,by rw[<-Ţ.length];exact z,hw,λh' dY hs=>h w' _ ?_ aA⟩
 have he:∃q,h'.get? a=eQ q:=let ⟨q,_,_,hq,_⟩:=dY;⟨q,hq⟩;exact Wq I (by rw[e];exact True.intro) hs he<|OP (Ö (OE kvs k) z) hd (Ţ.drop k) dY
def Qx(I:Inv X Â σ H s)(e:H a=eQ (.dK kvs))(ry:RelV (kV k) u)(l:Yl kvs k=eS)(h:∀s',Inv X Â σ H s'->Q r s') :
  wpAny ↥2 A (call (.builtin "dict.pop") [.ref a,u,r]) Q E s:=by
 let⟨z,hd,vs,Ţ,dd⟩:=J0 I.hok e;have hn:ϯ vs k=eS:=fE.none_of (by rw[<-l];exact Ţ.val k);have hp:(keyPart u).isSome=eU:=by
  cases k with
  |inl i=>let⟨t,q⟩:=(show ∃t,u=Value.int i t from ry);subst q;rfl
  |inr x=>let⟨t,q⟩:=(show ∃t,u=Value.str x t from ry);subst q;rfl
 exact ű PySem.F.slot_dict_pop dd.typeIs PySem.F.entry_dict_pop (PySem.F.args_dict_pop_3 _ _ _) (meets_dict_pop_default (Zc X.prog X.w) a (XJ ry) hd hp r) ⟨vs,dd,hn,h _<|I.tok _⟩
def Q5(I:Inv X Â σ H s)(e:Rd H a<|.dK kvs)(h:∀t s',Inv X Â σ H s'->Q (.int kvs.length t) s'):wpAny ↥2 A (call (.builtin "len") [.ref a]) Q E s:=by let⟨z,hd,vs,Ţ,dd⟩:=XO I.hok e;refine call_len_dict hd dd (by rw[<-Ţ.length];rw[ac]at z;lia) ?_;rw[<-Ţ.length];exact h _ _ (I.tok _)
end
variable {X:Cx}{Â:List (Ì×Obj)}{σ:St}{s:Ç}
def NL(I:Inv X Â σ H s)(g:DGet H a y o):s.TypeIs (.ref a) "dict":=by
 rcases g with⟨kvs,k,e,_,_⟩|⟨kvs,k,b,e,_,_,_⟩
 .obtain⟨_,_,vs,_,dd⟩:=XO I.hok e;exact dd.typeIs
 .obtain⟨_,_,xs,_,dd⟩:=WU I.hok e;exact dd.typeIs
def NJ(h:Ď)(hb:Ĵ<h.objs.size):fg P w H (h.push {cls:=.type "dict",data:=.dict #[]}) h.objs.size (.dK []) :=
 ⟨ģ _,beq_eq_false_iff_ne.mpr<|Ne.symm<|ä hb,[],.nil,Heap.DictOf.new h⟩
def Ee(h:Ď)(hb:Ĵ<h.objs.size):fg P w H (h.push {cls:=.type "dict",data:=.dict #[]}) h.objs.size (.dT []) :=
 ⟨ģ _,beq_eq_false_iff_ne.mpr<|Ne.symm<|ä hb,[],.nil,_,#[],0,Ò _ rfl,⟨rfl,rfl,rfl⟩,rfl,rfl,ò⟩
abbrev LU:TE:=λ_ H Q=>∀p,H p=eS->Q (.ref p) (upd H p<|.dK [])
abbrev IL:TE:=λ_ H Q=>∀p,H p=eS->Q (.ref p) (upd H p<|.dT [])
section
variable {X:Cx}{pos:Pos}
def pe_dnewK:PE X (.Dict [] [] pos) LU:=λÂ s σ H Q I h =>
 wpAny_Dict_empty ⟨.ref s.heap.objs.size,_,I.laid (a:=s.heap.objs.size) (o:=.dK []) (t':=s.toks) (λ_ _ q=>Ä _ q) (Ï _)<|NJ s.heap I.big,rfl,h _<|I.hok.fresh<|Ï _⟩
def pe_dnewT:PE X (.Dict [] [] pos) IL:=λÂ s σ H Q I h =>
 wpAny_Dict_empty ⟨.ref s.heap.objs.size,_,I.laid (a:=s.heap.objs.size) (o:=.dT []) (t':=s.toks) (λ_ _ q=>Ä _ q) (Ï _)<|Ee s.heap I.big,rfl,h _<|I.hok.fresh<|Ï _⟩
end
abbrev MJ:List (TE×TE)->St->Hp->(List (V×V)->Hp->Prop)->Prop
 |[],_,H,Q=>Q [] H
 |(tk,tv)::r,σ,H,Q=>tk σ H λx H1=>tv σ H1 λy H2=>MJ r σ H2 λps H3=>Q ((x,y)::ps) H3
@[reducible] noncomputable def VV:List (V×V)->List (Ã×Ã)->Prop:=Paired λp q=>RelV p.1 q.1/\RelV p.2 q.2
abbrev PPs(X:Cx)(pos:Pos)(keys:List<|Option Expr)(ό:List Expr)(trs:List<|TE×TE):Prop :=
 ∀(Â:List<|Ì×Obj) (s:Ç) (σ:St) (H:Hp) (Q:List (V×V)->Hp->Prop),Inv X Â σ H s->MJ trs σ H Q->
  wpAny ↥2 X.A (evalPairs<|pairTrees keys ό X.env pos) (λvs s'=>∃ps H',Inv X Â σ H' s'/\VV ps vs/\Q ps H') X.xe s
variable {pos:Pos}
def Hk:PPs X pos [] [] []:=λÂ s σ H Q I h=>pairTrees_nil_walk ⟨[],H,I,.nil,h⟩
def DS(hk:PE X k tk)(hv:PE X v tv)(hr:PPs X pos ks vs trs) :
  PPs X pos (eQ k::ks) (v::vs) ((tk,tv)::trs):=λÂ s σ H Q I h =>
 pairTrees_cons_walk (thn (hk Â s σ H _ I h) λu s1 ⟨x,H1,I1,rx,q1⟩=>thn (hv Â s1 σ H1 _ I1 q1) λw2 s2 ⟨y,H2,I2,ry,q2⟩ =>
   thn (hr Â s2 σ H2 _ I2 q2) λws s3 ⟨ps,H3,I3,Ţ,q3⟩=>⟨(x,y)::ps,H3,I3,.cons ⟨rx,ry⟩ Ţ,q3⟩)
abbrev Xr(kvs more:List<|Key×V):List<|Key×V:=more.foldl (λĸ kv=>fA ĸ kv.1 kv.2) kvs
def KV.merge:∀{more:List (Key×V)}{rs:List (Key×Ã)}{kvs:List (Key×V)}{vs:List (Key×Ã)},KV more rs->KV kvs vs->KV (Xr kvs more) (merged vs rs):=by
 intro more rs kvs vs r;unfold KV at r;induction r generalizing kvs vs with
 |nil=>intro q;exact q
 |@cons p q ps qs h t ih =>
  intro r0;have e:KV (fA kvs p.1 p.2)<|stored vs q.1 q.2:=by have:=r0.put p.1 h.2;rw[<-h.1];exact this
  exact ih e
def XR:∀(more kvs:List<|Key×V),(Xr kvs more).length<=kvs.length+more.length
 |[],kvs=>by show kvs.length<=kvs.length+0;lia
 |p::r,kvs=>by have h1:=XR r<|fA kvs p.1 p.2;have h2:=Xk kvs p.1 p.2;show(Xr (fA kvs p.1 p.2) r).length<=_;rw[Ð];lia
def Ks{P:ç}{w:ă}:∀{kvs:List (Key×V)}{ws:List (Ã×Ã)},VV (kvs.map λkv=>(kV kv.1,kv.2)) ws->∃rs,Carries (Zc P w) ws rs/\KV kvs rs
 |[],_,r=>by rw[ϒ]at r;cases r;exact⟨[],True.intro,.nil⟩
 |p::kvs,_,r=>by
  rw[Ñ]at r;cases r with
  |@cons a b as bs h t =>let⟨rs,c,q⟩:=Ks (P:=P) (w:=w) t;let⟨b1,b2⟩:=b;exact⟨(p.1,b2)::rs,⟨XJ h.1,rfl,c⟩,.cons ⟨rfl,h.2⟩ q⟩
abbrev RX(trs:List<|TE×TE):TE:=λσ H Q=>∀p,H p=eS->MJ trs σ (upd H p<|.dK []) λps H2=>H2 p=eQ (.dK [])/\∃kvs:List<|Key×V,ps=kvs.map (λkv=>(kV kv.1,kv.2))/\kvs.length<=15/\Q (.ref p) (upd H2 p<|.dK<|Xr [] kvs)
def Gi(h:PPs X pos keys ό trs)(hall:keys.all (·.isSome)=eU)(hl:keys.length=ό.length)(h0:keys≠[])(h15:keys.length<=15):PE X (.Dict keys ό pos)<|RX trs:=by
 intro Â s σ H Q I q;have hn:=I.hok.fresh<|Ï s.heap.objs.size;have I1:=I.laid (a:=s.heap.objs.size) (o:=.dK []) (h':=s.heap.push {cls:=.type "dict",data:=.dict #[]}) (t':=s.toks) (λ_ _ q=>Ä _ q) (Ï _)<|NJ s.heap I.big;refine wpAny_Dict_walk (knd:=Zc X.prog X.w) hall hl h0 h15<|thn (h Â _ σ _ _ I1<|q _ hn) λws s2 ⟨ps,H2,I2,Ţ,e,kvs,ep,lk,q2⟩=>?_;subst ep;let⟨rs,c,rk⟩:=Ks (P:=X.prog) (w:=X.w) Ţ;let⟨z,hd,vs0,r0,dd⟩:=J0 I2.hok e;cases r0;refine⟨rs,c,dd,λh' dY hs=>⟨.ref s.heap.objs.size,_,?_,rfl,q2⟩⟩;have hz:(Xr [] kvs).length<=Þ:=by have h1:=XR kvs [];rw[ī]at h1;rw[ac];lia
 have he:∃q,h'.get? s.heap.objs.size=eQ q:=let ⟨q,_,_,hq,_⟩:=dY;⟨q,hq⟩;exact Wq I2 (by rw[e];exact True.intro) hs he<|OP hz hd (rk.merge .nil) dY
abbrev Tn(H:Hp)(a:Ì):Prop:=(∃kvs,Rd H a<|.dK kvs)\/∃kvs,Rd H a (.dT kvs)
def Lf(I:Inv X Â σ H s)(d:Tn H a) :
  s.TypeIs (.ref a) "dict"/\(∀b,Value.ref a=.ref b->∃ob,s.heap.get? b=eQ ob/\ob.dict=eS)/\(a==Ĵ)=eV:=by
 rcases d with⟨kvs,e⟩|⟨kvs,e⟩
 .obtain⟨_,hd,vs,_,dd⟩:=XO I.hok e;refine⟨dd.typeIs,λb q=>?_,hd⟩;cases q;let⟨ob,_,_,h1,h2,_⟩:=dd;exact⟨ob,h1,h2.2.1⟩
 .obtain⟨_,hd,xs,_,dd⟩:=WU I.hok e;refine⟨dd.typeIs,λb q=>?_,hd⟩;cases q;let⟨ob,_,_,h1,h2,_⟩:=dd;exact⟨ob,h1,h2.2.1⟩
section
variable {X:Cx}{Â:List (Ì×Obj)}{σ:St}{H:Hp}{s:Ç}{a:Ì}{y d:V}{u r:Ã}{o:Option V}{A:Đ}
variable {Q:Ã->Ç->Prop}
def Qn(hu:A.units+1<Ģ)(I:Inv X Â σ H s)(g:DGet H a y o)(ry:RelV y u)(h:∀w' s',Inv X Â σ H s'->RelV (o.getD .non) w'->Q w' s') :
  wpAny ↥2 A (call (.builtin "dict.get") [.ref a,u]) Q E s:=by
 rcases g with⟨kvs,k,e,ey,l⟩|⟨kvs,k,b,e,ey,eb,l⟩
 .subst ey;let⟨z,hd,vs,Ţ,dd⟩:=XO I.hok e;refine ű PySem.F.slot_dict_get dd.typeIs PySem.F.entry_dict_get (PySem.F.args_dict_get_2 _ _) (meets_dict_get (Zc X.prog X.w) a (XJ ry) hd) ⟨_,dd.mapOf,h _ _ (I.tok _) ?_⟩;rw[l];exact(Ţ.val k).getD rfl
 .subst ey;cases (show u=Value.ref b from ry);let⟨z,hd,xs,Ţ,dd⟩:=WU I.hok e;refine ű PySem.F.slot_dict_get dd.typeIs PySem.F.entry_dict_get (PySem.F.args_dict_get_2 _ _) (meetsH_dict_get (ι<|Zc X.prog X.w) a b hd) ⟨Ņ hu,k,xs,fm I.hok eb,dd,h _ _ (I.tok _) ?_⟩;rw[l];exact(Ţ.val k).getD rfl
def Qv(hu:A.units+1<Ģ)(I:Inv X Â σ H s)(g:DGet H a y o)(ry:RelV y u)(rd:RelV d r)(h:∀w' s',Inv X Â σ H s'->RelV (o.getD d) w'->Q w' s') :
  wpAny ↥2 A (call (.builtin "dict.get") [.ref a,u,r]) Q E s:=by
 rcases g with⟨kvs,k,e,ey,l⟩|⟨kvs,k,b,e,ey,eb,l⟩
 .subst ey;let⟨z,hd,vs,Ţ,dd⟩:=XO I.hok e;refine ű PySem.F.slot_dict_get dd.typeIs PySem.F.entry_dict_get (PySem.F.args_dict_get_3 _ _ _) (meets_dict_get_default (Zc X.prog X.w) a (XJ ry) hd r) ⟨_,dd.mapOf,h _ _ (I.tok _) ?_⟩;rw[l];exact(Ţ.val k).getD rd
 .subst ey;cases (show u=Value.ref b from ry);let⟨z,hd,xs,Ţ,dd⟩:=WU I.hok e;refine ű PySem.F.slot_dict_get dd.typeIs PySem.F.entry_dict_get (PySem.F.args_dict_get_3 _ _ _) (meetsH_dict_get_default (ι<|Zc X.prog X.w) a b hd r) ⟨Ņ hu,k,xs,fm I.hok eb,dd,h _ _ (I.tok _) ?_⟩;rw[l];exact(Ţ.val k).getD rd
end
section
def AU:ff X (.builtin "len") λxs H Q=>∃a kvs,xs=[V.ref a]/\H a=eQ (.dK kvs)/\Q (.int kvs.length) H:=by k_put;let⟨a,kvs,rfl,ha,q⟩:=h;let⟨u,rfl,ru⟩:=ZN r;cases ru;exact Q5 I (.inl ha) λt s' I'=>⟨.int kvs.length,H,I',⟨t,rfl⟩,q⟩
end
end L2
namespace O
noncomputable abbrev Ad:=Nat
inductive Val where
 |non|bl (b:Bool)|int (i:Int)|str (s:String)|tup (xs:List Val)|ref (a:Ad)|scr (ns:List Int)|key (i j:Int)
 deriving Inhabited
mutual
noncomputable def Val.eqb:Val->Val->Bool
 |.non,b=>match b with|.non=>eU|_=>eV
 |.bl a,b=>match b with|.bl c=>a==c|_=>eV
 |.int a,b=>match b with|.int c=>a==c|_=>eV
 |.str a,b=>match b with|.str c=>a==c|_=>eV
 |.tup a,b=>match b with|.tup c=>Val.eqs a c|_=>eV
 |.ref a,b=>match b with|.ref c=>a==c|_=>eV
 |.scr a,b=>match b with|.scr c=>a==c|_=>eV
 |.key a b,x=>match x with|.key c d=>a==c&&b==d|_=>eV
noncomputable def Val.eqs:List Val->List Val->Bool
 |[],b=>match b with|[]=>eU|_=>eV
 |x::xs,b=>match b with|y::ys=>Val.eqb x y&&Val.eqs xs ys|_=>eV
end
mutual
theorem Val.eqb_iff:∀{a b:Val},Val.eqb a b=eU↔a=b
 |.non,b=>by cases b<;>simp[Val.eqb]
 |.bl _,b=>by cases b<;>simp[Val.eqb]
 |.int _,b=>by cases b<;>simp[Val.eqb]
 |.str _,b=>by cases b<;>simp[Val.eqb]
 |.tup _,b=>by cases b<;>simp[Val.eqb,Val.eqs_iff]
 |.ref _,b=>by cases b<;>simp[Val.eqb]
 |.scr _,b=>by cases b<;>simp[Val.eqb]
 |.key _ _,b=>by cases b<;>simp[Val.eqb]
theorem Val.eqs_iff:∀{a b:List Val},Val.eqs a b=eU↔a=b
 |[],b=>by cases b<;>simp[Val.eqs]
 |_::_,b=>by cases b<;>simp[Val.eqs,Val.eqb_iff,Val.eqs_iff]
end
noncomputable instance:DecidableEq Val:=λa b=>if h:Val.eqb a b=eU then isTrue (Val.eqb_iff.mp h)else isFalse λe=>h<|Val.eqb_iff.mpr e
inductive Ob where
 |lst (xs:List Val)|dct (kvs:List<|Val×Val)|ins (C:String) (fs:List<|String×Val)|exc (C:String)|frz (kvs:List<|Val×Val)|dtp (kvs:List<|Val×Val)
 deriving Inhabited
abbrev figB(c:Char):Bool:=gB (48<=c.toNat)&&gB (c.toNat<=57)
abbrev decN(l:List Char):Nat:=l.foldl (λa c=>10*a+(c.toNat - 48)) 0
abbrev QP:Val->Option String
 |.str s=>eQ s
 |_=>eS
abbrev oneC(s:String):Option Char:=match s.toList with
 |[c]=>eQ c
 |_=>eS
abbrev GH(i:Int):String:=toString i
abbrev Tk:Val->Option String
 |.str s=>eQ s
 |.int i=>if i.natAbs<10 ^ 200 then eQ (GH i)else eS
 |_=>eS
noncomputable abbrev Hs:=Ad->Option Ob
@[irreducible] noncomputable def upd(h:Hs)(a:Ad)(o:Ob):Hs:=λb=>if b=a then eQ o else h b
def eX:upd h a o a=eQ o:=by simp[upd]
def eW(e:b≠a):upd h a o b=h b:=by simp[upd,e]
def eY:upd (upd h a o) a u=upd h a u:=by funext b;simp![upd];split<;>rfl
noncomputable abbrev Env:=List<|Option Val
noncomputable abbrev Q1:=Val->Hs->Prop
noncomputable abbrev XQ:=String->Hs->Prop
noncomputable abbrev Fs:=String->List Val->Hs->Q1->XQ->Prop
abbrev lim:Nat:=1000000
variable {α:Type}
@[irreducible] noncomputable def go(o:Option α)(k:α->Prop):Prop:=match o with|some a=>k a|none=>False
@[simp] theorem eZ{a:α}:go (eQ a) k=k a:=by unfold go;rfl
@[simp] theorem F3:go eS k=False:=by unfold go;rfl
def fb{o:Option α}{a:α}{k:α->Prop}(e:o=eQ a)(h:k a):go o k:=by rw[e,eZ];exact h
set_option genInjectivity false
inductive Bop where|add|sub|mul|fdiv|mod|pow
inductive Cop where|eq|ne|lt|le|gt|ge|isin|notin|is|isnot|eqE|neE|ntT
inductive Bi where
 |len|int|str|bool|abs|min2|max2|minL|maxL|minD|sum|all|any|sorted|sortedI|sortedSet|lenSet|list|tuple|dict|isi (Ts:List String)|isx (Ts:List String)|isc (C:String)|repr|listRev|listRange|tupRange|dictEnum|minP|maxP|listD|listT
inductive Bm where
 |append|extend|pop|popAt|insert|remove|clear|reverse|index|count|dget|dgetD|dpop|dpopD|setdefault|join|split|replace|upper|partition|sidx|dpopT
inductive Pt where|one (i:Nat)|many (is:List Nat)|nest (i:Nat) (is:List Nat)
mutual
inductive E where
 |cst (v:Val)|var (i:Nat)|glob (x:String) (v:Val)
 |bin (op:Bop) (a b:E)|neg (a:E)|not (a:E)|and (a b:E)|or (a b:E)
 |cmp (op:Cop) (a b:E)|chain (o1 o2:Cop) (a b c:E)
 |call (f:String) (as:Es)|make (C:String) (as:Es)|meth (C m:String) (o:E) (as:Es)|meth2 (C D m:String) (o:E) (as:Es)|fld (o:E) (f:String)
 |bi (f:Bi) (as:Es)|bm (m:Bm) (o:E) (as:Es)
 |idx (a i:E)|slc (a:E) (lo hi:Oe)|rev (a:E)|pick (a:E) (lo hi:Oe) (st:E)|sortT (a:E)
 |tup (es:Es)|lst (es:Es)|dct (es:Es)
 |ife (c:Tt) (a b:E)
 |comp (Ă:List Nat) (n:Nat) (p:Pt) (it:It) (c:Tt) (e:E)
 |fstr (es:Es)
 |split (o a:E)
 |repl (o:E) (y z:String)
 |key (es:Es)|dctP
inductive Es where|nil|cons (e:E) (es:Es)
inductive Oe where|none|some (e:E)
inductive Tt where|yes|val (e:E)|not (t:Tt)|and (a b:Tt)|or (a b:Tt)
inductive It where
 |seq (e:E)|chars (e:E)|range (a:E)|range2 (a b:E)|enum (e:E)|enumL (e:E)|zip (a b:E)|items (e:E)|rev (e:E)|keysF (e:E)|seqT (k:Nat) (e:E)
end
mutual
inductive S where
 |set (p:Pt) (e:E)|setIdx (a i e:E)|setFld (o:E) (f:String) (e:E)
 |augVar (i:Nat) (op:Bop) (e:E)|augFld (o:E) (f:String) (op:Bop) (n:Int)|augIdx (a i:E) (op:Bop) (n:Int)
 |setPair (a i b j e:E)
 |expr (e:E)|ret (e:E)|retN|ite (c:Tt) (a b:Ss)|whl (c:Tt) (b:Ss)|for (p:Pt) (it:It) (b:Ss)|forI (k:Bool) (p:Pt) (e:E) (b:Ss)
 |never|brk|cnt|pass|raise (C:String) (as:Es)|try (t:Option Nat) (e:E) (hs:Hn)
inductive Ss where|nil|cons (s:S) (ss:Ss)
inductive Hn where|nil|cons (C:String) (n:Option Nat) (b:Ss) (r:Hn)
end
set_option genInjectivity true
abbrev ixN(n:Nat)(i:Int):Option Nat:=if 0<=i then(if i<n then eQ i.toNat else eS)else if -(n:Int)<=i then eQ (i+n).toNat else eS
abbrev atI(xs:List α)(i:Int):Option α:=(ixN xs.length i).bind λj=>xs[j]?
abbrev fK(n d:Nat):Option Int->Nat
 |none=>d
 |some i=>if 0<=i then min i.toNat n else(i+n).toNat
abbrev cut(xs:List α)(lo hi:Option Int):List α:=(xs.drop<|fK xs.length 0 lo).take<|fK xs.length xs.length hi - fK xs.length 0 lo
abbrev fj:Option Ob->Option (List Val)
 |some (.lst xs)=>eQ xs
 |_=>eS
@[simp] theorem Y5:fj (eQ<|.lst xs)=eQ xs:=rfl
abbrev OB(h:Hs):Val->Option (List Val)
 |.ref a=>fj<|h a
 |.tup xs=>eQ xs
 |.scr ns=>eQ<|ns.map .int
 |_=>eS
abbrev gh:Option Ob->Option (List<|Val×Val)
 |some (.dct kvs)=>eQ kvs
 |_=>eS
abbrev fy(kvs:List<|Val×Val)(k:Val):Option Val:=(kvs.find? λp=>p.1==k).map (·.2)
abbrev fz(kvs:List<|Val×Val)(k:Val):Bool:=kvs.any λp=>p.1==k
abbrev fA(kvs:List<|Val×Val)(k v:Val):List<|Val×Val:=if fz kvs k then kvs.map λp=>if p.1==k then(k,v)else p else kvs++[(k,v)]
abbrev fB(kvs:List<|Val×Val)(k:Val):List<|Val×Val:=kvs.filter λp=>!(p.1==k)
abbrev fv:Val->Bool
 |.int _=>eU
 |.str _=>eU
 |_=>eV
inductive D where
 |non|bl (b:Bool)|int (i:Int)|str (s:String)|tup (ds:List D)|lst (ds:List D)
 deriving Inhabited
mutual
noncomputable def D.eqv:D->D->Bool
 |.non,.non=>eU
 |.bl a,.bl b=>a==b
 |.bl a,.int i=>(if a then 1 else 0)==i
 |.int i,.bl a=>i==(if a then 1 else 0)
 |.int a,.int b=>a==b
 |.str a,.str b=>a==b
 |.tup a,.tup b=>D.eqvs a b
 |.lst a,.lst b=>D.eqvs a b
 |_,_=>eV
noncomputable def D.eqvs:List D->List D->Bool
 |[],[]=>eU
 |x::xs,y::ys=>D.eqv x y&&D.eqvs xs ys
 |_,_=>eV
end
abbrev dat(h:Hs):Nat->Val->Option D
 |_,.non=>eQ .non
 |_,.bl b=>eQ<|.bl b
 |_,.int i=>eQ<|.int i
 |_,.str s=>eQ<|.str s
 |0,_=>eS
 |n+1,.tup xs=>(xs.mapM<|dat h n).map .tup
 |n+1,.ref a=>(fj<|h a).bind λxs=>(xs.mapM<|dat h n).map .lst
 |n+1,.scr ns=>eQ<|.lst<|ns.map .int
 |_+1,.key _ _=>eS
abbrev deep:Nat:=12
abbrev eqV(h:Hs)(v u:Val):Option Bool:=(dat h deep v).bind λd=>(dat h deep u).map λe=>D.eqv d e
abbrev fe:List Val->Option (List Int)
 |[]=>eQ []
 |.int i::xs=>(fe xs).map (i :: ·)
 |_=>eS
abbrev fL:List Int->List Int->Bool
 |[],[]=>eV
 |[],_::_=>eU
 |_::_,[]=>eV
 |x::xs,y::ys=>if x=y then fL xs ys else gB (x<y)
abbrev fM:Val->Val->Option Bool
 |.int i,.int j=>eQ<|gB (i<j)
 |.tup xs,.tup ys=>(fe xs).bind λns=>(fe ys).map λms=>fL ns ms
 |_,_=>eS
abbrev inL(h:Hs)(x:Val)(ys:List Val):Option Bool:=(dat h deep x).bind λd=>(ys.mapM<|dat h<|deep - 1).map λds=>ds.any λe=>D.eqv e d
abbrev leV:Val->Val->Option Bool
 |.int i,.int j=>eQ<|gB (i<=j)
 |_,_=>eS
abbrev isKeyT:Val->Bool
 |.key _ _=>eU
 |_=>eV
abbrev inV(h:Hs)(v u:Val):Option Bool:=match u with
 |.tup xs=>inL h v xs
 |.ref a=>match h a with
  |some (.lst xs)=>inL h v xs
  |some (.dct kvs)=>if fv v then eQ (fz kvs v)else eS
  |some (.frz kvs)=>if fv v then eQ (fz kvs v)else eS
  |some (.dtp kvs)=>if isKeyT v then eQ (fz kvs v)else eS
  |_=>eS
 |.str t=>(match v with|.str s=>(oneC s).map λc=>gB (c∈t.toList)|_=>eS)
 |_=>eS
abbrev isV(v u:Val):Option Bool:=match u with
 |.non=>eQ<|gB (v=.non)
 |.bl b=>eQ<|gB (v=.bl b)
 |_=>eS
abbrev asLst(h:Hs):Val->Option (List Val)
 |.ref a=>fj<|h a
 |_=>eS
abbrev fu(h:Hs)(op:Cop)(v u:Val):Option Bool:=match op with
 |.eq=>eqV h v u
 |.ne=>(eqV h v u).map (!·)
 |.lt=>fM v u
 |.gt=>fM u v
 |.le=>leV v u
 |.ge=>leV u v
 |.isin=>inV h v u
 |.notin=>(inV h v u).map (!·)
 |.is=>isV v u
 |.isnot=>(isV v u).map (!·)
 |.eqE=>(asLst h v).bind λxs=>(asLst h u).bind λys=>if ys.isEmpty then eQ xs.isEmpty else eS
 |_=>eS
abbrev Kd(h:Hs):Val->Option Bool
 |.bl b=>eQ b
 |.int i=>eQ<|gB (i≠0)
 |.non=>eQ eV
 |.str s=>if s.length<=lim then eQ (gB (s.length≠0))else eS
 |.tup xs=>eQ (!xs.isEmpty)
 |.scr ns=>eQ (!ns.isEmpty)
 |.ref a=>match h a with
  |some (.lst xs)=>eQ (!xs.isEmpty)
  |some (.dct kvs)=>eQ (!kvs.isEmpty)
  |_=>eS
 |.key _ _=>eS
abbrev mulOk(i j:Int):Prop:=(i.natAbs<2 ^ 64\/j.natAbs<2 ^ 64)\/(i.natAbs<=10 ^ 200/\j.natAbs<=10 ^ 200)
instance (i j:Int):Decidable<|mulOk i j:=inferInstanceAs<|Decidable<|_\/_
@[irreducible] noncomputable def new(h:Hs)(o:Ob)(Q:Q1):Prop:=∀p,h p=eS->Q (.ref p) (upd h p o)
def Xi(q:∀p,h p=eS->Q (.ref p) (upd h p o)):new h o Q:=by unfold new;exact q
inductive Rs where|val (v:Val)|new (o:Ob)|no
@[irreducible] noncomputable def Rs.wp(r:Rs)(h:Hs)(Q:Q1):Prop:=match r with|.val v=>Q v h|.new o=>O.new h o Q|.no=>False
@[simp] theorem Rs.wp_val:(Rs.val v).wp h Q=Q v h:=by unfold Rs.wp;rfl
@[simp] theorem Rs.wp_new:(Rs.new o).wp h Q=O.new h o Q:=by unfold Rs.wp;rfl
@[simp] theorem Rs.wp_no:Rs.no.wp h Q=False:=by unfold Rs.wp;rfl
abbrev Rs.ofO:Option Val->Rs
 |some v=>.val v
 |none=>.no
abbrev Rs.lst(xs:List Val):Rs:=if xs.length<=lim then .new (.lst xs)else .no
abbrev addV(h:Hs):Val->Val->Rs
 |.int i,.int j=>.val<|.int<|i+j
 |.str s,.str t=>if s.length+t.length<=lim then .val (.str<|s++t)else .no
 |.tup xs,.tup ys=>if xs.length+ys.length<=lim then .val (.tup<|xs++ys)else .no
 |.ref a,.ref b=>match h a,h b with
  |some (.lst xs),eQ (.lst ys)=>Rs.lst<|xs++ys
  |_,_=>.no
 |_,_=>.no
abbrev repT(s:String)(n:Nat):String:=Μ (Û n s.toList).flatten
abbrev mulV(h:Hs):Val->Val->Rs
 |.int i,.int j=>if mulOk i j then .val (.int<|i*j)else .no
 |.ref a,.int k=>match h a with
  |some (.lst xs)=>if -(2 ^ 62)<k/\k<2 ^ 62/\xs.length*k.toNat<=lim then Rs.lst (Û k.toNat xs).flatten else .no
  |_=>.no
 |.str s,.int k=>if 2<=k/\k<=1000000/\1<=s.length/\s.length*k.toNat<=lim then .val (.str<|repT s k.toNat)else .no
 |_,_=>.no
abbrev intV(f:Int->Int->Rs):Val->Val->Rs
 |.int i,.int j=>f i j
 |_,_=>.no
abbrev binV(h:Hs)(op:Bop)(v u:Val):Rs:=match op with
 |.add=>addV h v u
 |.sub=>intV (λi j=>.val<|.int<|i - j) v u
 |.mul=>mulV h v u
 |.fdiv=>intV (λi j=>if 0<j/\j<1073741824 then .val (.int<|i / j)else .no) v u
 |.mod=>intV (λi j=>if 0<j then .val (.int<|i % j)else .no) v u
 |.pow=>intV (λi j=>if 0<=j/\j<=1000000/\i.natAbs<2 ^ 64 then .val (.int<|i ^ j.toNat)else .no) v u
abbrev gj:Val->Option Int
 |.int i=>eQ i
 |_=>eS
abbrev fN(h:Hs):Val->Val->Option Val
 |.tup xs,.int k=>atI xs k
 |.str s,.int k=>if s.length<=lim then(atI s.toList k).map λc=>.str (aq c)else eS
 |.ref a,k=>match h a with
  |some (.lst xs)=>(gj k).bind<|atI xs
  |some (.dct kvs)=>if fv k then fy kvs k else eS
  |some (.frz kvs)=>if fv k then fy kvs k else eS
  |some (.dtp kvs)=>if isKeyT k then fy kvs k else eS
  |_=>eS
 |.scr ns,.int i=>atI (ns.map .int) i
 |_,_=>eS
abbrev fO(h:Hs)(v:Val)(lo hi:Option Int):Rs :=
 match v with
 |.tup xs=>if fK xs.length 0 lo=0/\fK xs.length xs.length hi=xs.length then .val (.tup xs)else .val (.tup<|cut xs lo hi)
 |.ref a=>match fj (h a)with
  |some xs=>.new<|.lst<|cut xs lo hi
  |none=>.no
 |.scr ns=>.new<|.lst<|cut (ns.map .int) lo hi
 |.str s=>if s.length<=lim then .val (.str<|Μ<|cut s.toList lo hi)else .no
 |_=>.no
abbrev sortI(ns:List Int):List Int:=ns.mergeSort λa b=>gB (a<=b)
abbrev blsOf:List Val->Option (List Bool)
 |[]=>eQ []
 |.bl b::xs=>(blsOf xs).map (b :: ·)
 |_=>eS
abbrev minL:List Val->Option Val
 |[]=>eS
 |x::xs=>xs.foldl (λm y=>m.bind λb=>(fM y b).map λc=>if c then y else b)<|eQ x
abbrev maxL:List Val->Option Val
 |[]=>eS
 |x::xs=>xs.foldl (λm y=>m.bind λb=>(fM b y).map λc=>if c then y else b)<|eQ x
abbrev dedup:List Int->List Int
 |[]=>[]
 |x::xs=>x::(dedup xs).filter (· != x)
abbrev f8(c d:String):Bool:=c==d||d == "ShutError" || d == "ValueError" || d == "Exception"
abbrev gm(h:Hs):Val->Option String
 |.non=>eQ "NoneType"
 |.bl _=>eQ "bool"
 |.int _=>eQ "int"
 |.str _=>eQ "str"
 |.tup _=>eQ "tuple"
 |.scr _=>eQ "list"
 |.ref a=>match h a with
  |some (.lst _)=>eQ "list"
  |some (.dct _)=>eQ "dict"
  |_=>eS
 |.key _ _=>eS
abbrev gp(h:Hs)(v:Val)(T:String):Option Bool:=(gm h v).map λt=>t==T||(t == "bool" && T == "int")
abbrev isiAny(h:Hs)(v:Val):List String->Option Bool
 |[]=>eQ eV
 |T::Ts=>(gp h v T).bind λb=>(isiAny h v Ts).map (b || ·)
abbrev pairUp:List Val->Option (List<|Val×Val)
 |[]=>eQ []
 |k::v::r=>if fv k then(pairUp r).map ((k,v) :: ·)else eS
 |_=>eS
abbrev putAll(kvs:List<|Val×Val):List (Val×Val)->List (Val×Val)
 |[]=>kvs
 |(k,v)::r=>putAll (fA kvs k v) r
abbrev fS(h:Hs):Val->Rs
 |.ref a=>match h a with
  |some (.lst xs)=>.val<|.int xs.length
  |some (.dct kvs)=>.val<|.int kvs.length
  |_=>.no
 |.tup xs=>.val<|.int xs.length
 |.scr ns=>.val<|.int ns.length
 |.str s=>if s.length<=lim then .val (.int s.length)else .no
 |_=>.no
abbrev RL:Val->Rs
 |.int i=>.val<|.int i
 |.bl b=>.val (.int<|if b then 1 else 0)
 |.str s=>if s.length<=640/\s.toList≠[]/\s.toList.all figB=eU then .val (.int<|decN s.toList)else .no
 |_=>.no
abbrev absV:Val->Rs
 |.int i=>.val (.int<|if i<0 then -i else i)
 |_=>.no
abbrev fk(f:Val->Rs):List Val->Rs
 |[v]=>f v
 |_=>.no
abbrev rowsOf:List Val->Option (List<|List Int)
 |[]=>eQ []
 |.tup xs::r=>(fe xs).bind λns=>(rowsOf r).map (ns :: ·)
 |_=>eS
abbrev minR(b:List Int):List (List Int)->List Int
 |[]=>b
 |y::r=>minR (if fL y b then y else b) r
abbrev fT(h:Hs)(v:Val):Rs:=match v with
 |.ref a=>match (fj<|h a).bind rowsOf with
  |some []=>.val .non
  |some (x::r)=>.val<|.tup<|(minR x r).map .int
  |none=>.no
 |_=>.no
abbrev S1(h:Hs):Val->Rs
 |.ref a=>.ofO<|(fj<|h a).bind λxs=>(blsOf xs).map λbs=>.bl<|bs.all id
 |_=>.no
abbrev sortOf(h:Hs):Val->Option (List Int)
 |.ref a=>(fj<|h a).bind fe
 |.scr ns=>eQ ns
 |_=>eS
abbrev keysOf(kvs:List<|Val×Val):Option<|List Int:=fe (kvs.map (·.1))
abbrev sortAny(h:Hs)(v:Val):Option<|List Int:=match v with
 |.ref a=>match h a with
  |some (.lst xs)=>fe xs
  |some (.dct kvs)=>keysOf kvs
  |_=>eS
 |.scr ns=>eQ ns
 |_=>eS
abbrev QZ(rows:List<|List Int):List<|List Int:=rows.mergeSort λa b=>!fL b a
abbrev PU(h:Hs)(v:Val):Option<|List<|List Int:=match v with
 |.ref a=>(fj<|h a).bind rowsOf
 |_=>eS
abbrev BM(h:Hs)(v:Val):Rs:=match PU h v with
 |some rows=>if rows.length<64/\(rows.all λr=>!r.isEmpty)=eU then .new (.lst<|(QZ rows).map λr=>.tup<|r.map .int)else .no
 |none=>.no
abbrev J9(h:Hs)(v:Val):Rs:=match sortAny h v with
 |some ns=>if ns.length<64 then .new (.lst<|(sortI ns).map .int)else .no
 |none=>BM h v
abbrev biSortedI(h:Hs)(v:Val):Rs:=match sortAny h v with
 |some ns=>if ns.length<64 then .new (.lst<|(sortI ns).map .int)else .no
 |none=>.no
abbrev biSortedSet(h:Hs)(v:Val):Rs:=match sortOf h v with
 |some ns=>if ns.length<64 then .new (.lst<|(sortI<|dedup ns).map .int)else .no
 |none=>.no
abbrev toList(h:Hs):Val->Rs
 |.ref a=>match h a with
  |some (.lst xs)=>.new<|.lst xs
  |_=>.no
 |.tup xs=>.new<|.lst xs
 |_=>.no
abbrev tupK:Val->Val
 |.key i j=>.tup [.int i,.int j]
 |v=>v
abbrev dtOf:Option Ob->Option (List<|Val×Val)
 |some (.dtp kvs)=>eQ kvs
 |_=>eS
abbrev M8(h:Hs):Val->Rs
 |.ref a=>match dtOf (h a)with
  |some kvs=>.new<|.lst<|kvs.map λp=>tupK p.1
  |none=>.no
 |_=>.no
abbrev MF(h:Hs):Val->Rs
 |.ref a=>match h a with
  |some (.lst xs)=>.val<|.tup xs
  |_=>.no
 |.tup xs=>.val<|.tup xs
 |_=>.no
abbrev minI:List Int->Int
 |[]=>0
 |x::r=>r.foldl (λa b=>if b<a then b else a) x
abbrev intsAt(h:Hs):Val->Option (List Int)
 |.ref a=>(fj<|h a).bind fe
 |_=>eS
abbrev pairI:Val->Option (Int×Int)
 |.tup [.int i,.int j]=>eQ (i,j)
 |_=>eS
abbrev tupI:Val->Option (List Int)
 |.tup xs=>fe xs
 |_=>eS
abbrev biMinL(h:Hs)(v:Val):Rs:=match pairI v with
 |some p=>.val (.int<|if p.2<p.1 then p.2 else p.1)
 |none=>match (tupI v).or (intsAt h v)with
  |some (x::r)=>.val<|.int<|minI<|x::r
  |_=>match (asLst h v).bind rowsOf with
   |some (x::r)=>.val<|.tup<|(minR x r).map .int
   |_=>.no
abbrev biV(h:Hs)(b:Bi)(vs:List Val):Rs:=match b with
 |.len=>fk (fS h) vs
 |.int=>fk RL vs
 |.minL=>fk (biMinL h) vs
 |.minD=>fk (fT h) vs
 |.all=>fk (S1 h) vs
 |.sorted=>fk (J9 h) vs
 |.sortedI=>fk (biSortedI h) vs
 |.sortedSet=>fk (biSortedSet h) vs
 |.list=>fk (toList h) vs
 |.tuple=>fk (MF h) vs
 |.isi Ts=>fk (λv=>.ofO<|(isiAny h v Ts).map .bl) vs
 |.listT=>fk (M8 h) vs
 |_=>.no
abbrev bmL(h:Hs)(v:Val)(f:Ad->List Val->Option (Val×Hs)):Option<|Val×Hs:=match v with
 |.ref a=>(fj<|h a).bind<|f a
 |_=>eS
abbrev bmD(h:Hs)(v:Val)(f:Ad->List (Val×Val)->Option (Val×Hs)):Option<|Val×Hs:=match v with
 |.ref a=>(gh<|h a).bind<|f a
 |_=>eS
abbrev bmDT(h:Hs)(v:Val)(f:Ad->List (Val×Val)->Option (Val×Hs)):Option<|Val×Hs:=match v with
 |.ref a=>(dtOf<|h a).bind<|f a
 |_=>eS
abbrev Dw(h:Hs)(vs:List Val)(a:Ad)(xs:List Val):Option<|Val×Hs:=match vs with
 |[v]=>if xs.length<lim then eQ (.non,upd h a<|.lst<|xs++[v])else eS
 |_=>eS
abbrev bmPopAt(h:Hs)(vs:List Val)(a:Ad)(xs:List Val):Option<|Val×Hs:=match vs with
 |[.int i]=>if -(2 ^ 62)<i/\i<2 ^ 62 then(ixN xs.length i).bind λk=>(xs[k]?).map λv=>(v,upd h a<|.lst<|xs.eraseIdx k)else eS
 |_=>eS
abbrev bmRemove(h:Hs)(vs:List Val)(a:Ad)(xs:List Val):Option<|Val×Hs:=match vs with
 |[.int i]=>(fe xs).bind λns=>if i∈ns then eQ (.non,upd h a<|.lst<|(ns.erase i).map .int)else eS
 |_=>eS
abbrev QQ(h:Hs)(vs:List Val)(a:Ad)(kvs:List<|Val×Val):Option<|Val×Hs:=match vs with
 |[k]=>if fv k then eQ ((fy kvs k).getD .non,h)else eS
 |_=>eS
abbrev bmGetD(h:Hs)(vs:List Val)(a:Ad)(kvs:List<|Val×Val):Option<|Val×Hs:=match vs with
 |[k,d]=>if fv k then eQ ((fy kvs k).getD d,h)else eS
 |_=>eS
abbrev dpAt(h:Hs):Val->Option (List<|Val×Val)
 |.ref a=>match h a with
  |some (.dtp kvs)=>eQ kvs
  |_=>eS
 |_=>eS
abbrev bmGetT(h:Hs)(vs:List Val)(kvs:List<|Val×Val):Option<|Val×Hs:=match vs with
 |[k,d]=>if isKeyT k then eQ ((fy kvs k).getD d,h)else eS
 |_=>eS
abbrev O6(h:Hs)(v:Val)(vs:List Val):Option<|Val×Hs:=match dpAt h v with
 |some kvs=>bmGetT h vs kvs
 |none=>bmD h v<|bmGetD h vs
abbrev L5(h:Hs)(vs:List Val)(a:Ad)(kvs:List<|Val×Val):Option<|Val×Hs:=match vs with
 |[k]=>if fv k then(fy kvs k).map λv=>(v,upd h a<|.dct<|fB kvs k)else eS
 |_=>eS
abbrev HK(h:Hs)(vs:List Val)(a:Ad)(kvs:List<|Val×Val):Option<|Val×Hs:=match vs with
 |[k]=>if isKeyT k then(fy kvs k).map λv=>(v,upd h a<|.dtp<|fB kvs k)else eS
 |_=>eS
abbrev GF(h:Hs)(vs:List Val)(a:Ad)(kvs:List<|Val×Val):Option<|Val×Hs:=match vs with
 |[k,d]=>if fv k then eQ ((fy kvs k).getD d,upd h a<|.dct<|fB kvs k)else eS
 |_=>eS
abbrev bmV(h:Hs)(m:Bm)(v:Val)(vs:List Val):Option<|Val×Hs:=match m with
 |.append=>bmL h v<|Dw h vs
 |.popAt=>bmL h v<|bmPopAt h vs
 |.remove=>bmL h v<|bmRemove h vs
 |.dget=>bmD h v<|QQ h vs
 |.dgetD=>O6 h v vs
 |.dpop=>bmD h v<|L5 h vs
 |.dpopD=>bmD h v<|GF h vs
 |.dpopT=>bmDT h v<|HK h vs
 |_=>eS
abbrev isLst:Option Ob->Bool
 |some (.lst _)=>eU
 |_=>eV
abbrev isDct:Option Ob->Bool
 |some (.dct _)=>eU
 |some (.dtp _)=>eU
 |_=>eV
inductive Ty where|l|d|s|t
abbrev Bm.ty:Bm->Ty
 |.dget=>.d
 |.dgetD=>.d
 |.dpop=>.d
 |.dpopD=>.d
 |.dpopT=>.d
 |.setdefault=>.d
 |.join=>.s
 |.split=>.s
 |.replace=>.s
 |.upper=>.s
 |.partition=>.s
 |.sidx=>.s
 |.index=>.t
 |_=>.l
abbrev Wa(p:Option Ob->Bool)(h:Hs):Val->Bool
 |.ref a=>p<|h a
 |_=>eV
abbrev LB:Val->Bool
 |.str _=>eU
 |_=>eV
abbrev Qo:Val->Bool
 |.tup _=>eU
 |_=>eV
abbrev bmTy(h:Hs)(m:Bm)(v:Val):Bool:=match m.ty with
 |.l=>Wa isLst h v
 |.d=>Wa isDct h v
 |.s=>LB v
 |.t=>Wa isLst h v||Qo v
abbrev fq:List (String×Val)->String->Val->List (String×Val)
 |[],f,v=>[(f,v)]
 |(g,x)::r,f,v=>if g=f then(g,v)::r else(g,x)::fq r f v
abbrev getV(env:Env)(i:Nat):Option Val:=match env[i]? with
 |some (eQ v)=>eQ v
 |_=>eS
abbrev gk:Val->Option Bool
 |.bl b=>eQ b
 |_=>eS
abbrev fJ:Val->Option Ad
 |.ref a=>eQ a
 |_=>eS
abbrev insOf:Option Ob->Option (String×List (String×Val))
 |some (.ins C fs)=>eQ (C,fs)
 |_=>eS
abbrev tupOf:Val->Option (List Val)
 |.tup xs=>eQ xs
 |_=>eS
abbrev bindL:List Nat->List Val->Env->Option Env
 |[],[],env=>eQ env
 |i::is,x::xs,env=>bindL is xs<|env.set i<|eQ x
 |_,_,_=>eS
abbrev bind(p:Pt)(h:Hs)(v:Val)(env:Env):Option Env :=
 match p with
 |.one i=>eQ<|env.set i<|eQ v
 |.many is=>(tupOf v).bind λxs=>bindL is xs env
 |.nest i is=>(tupOf v).bind λxs=>match xs with
  |[x,y]=>(tupOf y).bind λys=>bindL is ys<|env.set i<|eQ x
  |_=>eS
abbrev wComp(st:Hs->Prop)(step:Val->Hs->(Option Val->Hs->Prop)->XQ->Prop):List Val->List Val->Hs->(List Val->Hs->Prop)->XQ->Prop
 |[],ĸ,h,Q,_=>st h/\Q ĸ h
 |v::vs,ĸ,h,Q,X=>st h/\step v h (λr h'=>wComp st step vs (ĸ++r.toList) h' Q X) X
abbrev enumL:Nat->List Val->List Val
 |_,[]=>[]
 |k,x::xs=>.tup [.int k,x]::enumL (k+1) xs
abbrev itV(h:Hs):Val->Option ((Hs->Prop)×List Val)
 |.tup xs=>eQ (λ_=>True,xs)
 |.scr ns=>eQ (λ_=>True,ns.map .int)
 |.ref a=>(fj<|h a).map λxs=>(λg=>fj (g a)=eQ xs,xs)
 |_=>eS
abbrev itemOf(k:Bool)(p:Val×Val):Val:=if k then p.1 else .tup [p.1,p.2]
abbrev fI(i j:Int):List Val:=(List.range (j - i).toNat).map λ(k:Nat)=>.int<|i+k
abbrev fP(h:Hs)(o k v:Val):Option Hs :=
 match o with
 |.ref p=>match h p with
  |some (.lst xs)=>(gj k).bind λn=>(ixN xs.length n).map λj=>upd h p<|.lst<|xs.set j v
  |some (.dct kvs)=>if fv k/\kvs.length<lim then eQ (upd h p<|.dct<|fA kvs k v)else eS
  |some (.dtp kvs)=>if isKeyT k/\kvs.length<lim then eQ (upd h p<|.dtp<|fA kvs k v)else eS
  |_=>eS
 |_=>eS
abbrev fR(h:Hs)(o:Val)(f:String)(v:Val):Option Hs :=
 match o with
 |.ref p=>match h p with
  |some (.ins C fs)=>if fs.length<900 then eQ (upd h p<|.ins C<|fq fs f v)else eS
  |_=>eS
 |_=>eS
abbrev fQ(h:Hs)(o:Val)(f:String):Option Val:=(fJ o).bind λa=>(insOf<|h a).bind λp=>p.2.lookup f
abbrev clsV(h:Hs)(o:Val)(m:String):Option String:=(fJ o).bind λa=>(insOf<|h a).bind λp=>if(p.2.lookup m).isNone then eQ p.1 else eS
abbrev augV(op:Bop)(x y:Val):Option Val:=match op,x,y with
 |.add,.int i,.int j=>eQ<|.int<|i+j
 |.sub,.int i,.int j=>eQ<|.int<|i - j
 |_,_,_=>eS
@[irreducible] noncomputable def Oo(F:Hs->(List Val->Hs->Prop)->XQ->Prop)(h:Hs)(Q:Q1)(X:XQ):Prop:=new h (.dct []) λr h1=>go (fJ r) λp=>F h1 (λvs h2=>go (pairUp vs) λkvs=>h2 p=eQ (.dct [])/\Q (.ref p) (upd h2 p<|.dct<|putAll [] kvs)) X
mutual
@[reducible] noncomputable def xE(Φ:Fs):E->Env->Hs->Q1->XQ->Prop
 |.cst v,_,h,Q,_=>Q v h
 |.glob _ v,_,h,Q,_=>Q v h
 |.var i,env,h,Q,_=>go (getV env i) λv=>Q v h
 |.bin op a b,env,h,Q,X=>xE Φ a env h (λv h1=>xE Φ b env h1 (λu h2=>(binV h2 op v u).wp h2 Q) X) X
 |.neg a,env,h,Q,X=>xE Φ a env h (λv h1=>go (gj v) λi=>Q (.int (-i)) h1) X
 |.not a,env,h,Q,X=>xE Φ a env h (λv h1=>go (gk v) λb=>Q (.bl (!b)) h1) X
 |.and a b,env,h,Q,X=>xE Φ a env h (λv h1=>go (gk v) λc=>if c=eU then xE Φ b env h1 Q X else Q (.bl eV) h1) X
 |.or a b,env,h,Q,X=>xE Φ a env h (λv h1=>go (gk v) λc=>if c=eU then Q (.bl eU) h1 else xE Φ b env h1 Q X) X
 |.cmp op a b,env,h,Q,X=>xE Φ a env h (λv h1=>xE Φ b env h1 (λu h2=>go (fu h2 op v u) λc=>Q (.bl c) h2) X) X
 | .chain o1 o2 a b c,env,h,Q,X=>xE Φ a env h (λv h1=>xE Φ b env h1 (λu h2=>go (fu h2 o1 v u) λk =>
     if k=eU then xE Φ c env h2 (λw h3=>go (fu h3 o2 u w) λk2=>Q (.bl k2) h3) X else Q (.bl eV) h2) X) X
 |.call f as,env,h,Q,X=>xA Φ as env h (λvs h1=>Φ f vs h1 Q X) X
 |.make C as,env,h,Q,X=>xA Φ as env h (λvs h1=>∀p,h1 p=eS->Φ (C ++ ".__init__") (.ref p::vs) (upd h1 p<|.ins C []) (λv h2=>v=.non/\Q (.ref p) h2) X) X
 |.meth C m o as,env,h,Q,X=>xE Φ o env h (λv h1=>clsV h1 v m=eQ C/\xA Φ as env h1 (λvs h2=>Φ (C ++ "." ++ m) (v::vs) h2 Q X) X) X
 |.fld o f,env,h,Q,X=>xE Φ o env h (λv h1=>go (fQ h1 v f) λu=>Q u h1) X
 |.bi f as,env,h,Q,X=>xA Φ as env h (λvs h1=>(biV h1 f vs).wp h1 Q) X
 |.bm m o as,env,h,Q,X=>xE Φ o env h (λv h1=>bmTy h1 m v=eU/\xA Φ as env h1 (λvs h2=>go (bmV h2 m v vs) λr=>Q r.1 r.2) X) X
 |.idx a i,env,h,Q,X=>xE Φ a env h (λv h1=>xE Φ i env h1 (λk h2=>go (fN h2 v k) λu=>Q u h2) X) X
 |.slc a lo hi,env,h,Q,X=>xE Φ a env h (λv h1=>xO Φ lo env h1 (λl h2=>xO Φ hi env h2 (λu h3=>(fO h3 v l u).wp h3 Q) X) X) X
 |.rev a,env,h,Q,X=>xE Φ a env h (λv h1=>go (fJ v) λp=>go (fj<|h1 p) λxs=>new h1 (.lst xs.reverse) Q) X
 |.tup es,env,h,Q,X=>xA Φ es env h (λvs h1=>Q (.tup vs) h1) X
 |.key es,env,h,Q,X=>xA Φ es env h (λvs h1=>go (pairI<|.tup vs) λp=>Q (.key p.1 p.2) h1) X
 |.dctP,env,h,Q,X=>new h (.dtp []) Q
 |.lst es,env,h,Q,X=>xA Φ es env h (λvs h1=>new h1 (.lst vs) Q) X
 |.dct es,env,h,Q,X=>Oo (xA Φ es env) h Q X
 |.ife c a b,env,h,Q,X=>xT Φ c env h (λk h1=>if k=eU then xE Φ a env h1 Q X else xE Φ b env h1 Q X) X
 | .comp Ă n p it c e,env,h,Q,X=>xI Φ it env h (λst xs h1=>xs.length<lim/\
     wComp st (λv h2 K X2=>go (bind p h2 v<|Û n eS++Ă.map λj=>(env[j]?).getD eS) λŜ =>
       xT Φ c Ŝ h2 (λk h3=>if k=eU then xE Φ e Ŝ h3 (λu h4=>K (eQ u) h4) X2 else K eS h3) X2) xs [] h1 (λys h5=>new h5 (.lst ys) Q) λ_ _=>False) X
 |_,_,_,_,_=>False
@[reducible] noncomputable def xA(Φ:Fs):Es->Env->Hs->(List Val->Hs->Prop)->XQ->Prop
 |.nil,_,h,Q,_=>Q [] h
 |.cons e es,env,h,Q,X=>xE Φ e env h (λv h1=>xA Φ es env h1 (λvs h2=>Q (v::vs) h2) X) X
@[reducible] noncomputable def xJ(Φ:Fs):Es->Env->Hs->String->(String->Hs->Prop)->XQ->Prop
 |.nil,_,h,ĸ,Q,_=>Q ĸ h
 |.cons e es,env,h,ĸ,Q,X=>xE Φ e env h (λv h1=>go (Tk v) λs=>ĸ.length+s.length<=lim/\xJ Φ es env h1 (ĸ++s) Q X) X
@[reducible] noncomputable def xO(Φ:Fs):Oe->Env->Hs->(Option Int->Hs->Prop)->XQ->Prop
 |.none,_,h,Q,_=>Q eS h
 |.some e,env,h,Q,X=>xE Φ e env h (λv h1=>go (gj v) λi=>Q (eQ i) h1) X
@[reducible] noncomputable def xT(Φ:Fs):Tt->Env->Hs->(Bool->Hs->Prop)->XQ->Prop
 |.yes,_,h,Q,_=>Q eU h
 |.val e,env,h,Q,X=>xE Φ e env h (λv h1=>go (Kd h1 v) λk=>Q k h1) X
 |.not a,env,h,Q,X=>xT Φ a env h (λk h1=>Q (!k) h1) X
 |.and a b,env,h,Q,X=>xT Φ a env h (λk h1=>if k=eU then xT Φ b env h1 Q X else Q eV h1) X
 |.or a b,env,h,Q,X=>xT Φ a env h (λk h1=>if k=eU then Q eU h1 else xT Φ b env h1 Q X) X
@[reducible] noncomputable def xI(Φ:Fs):It->Env->Hs->((Hs->Prop)->List Val->Hs->Prop)->XQ->Prop
 |.seq e,env,h,Q,X=>xE Φ e env h (λv h1=>go (itV h1 v) λp=>Q p.1 p.2 h1) X
 |.range a,env,h,Q,X=>xE Φ a env h (λv h1=>go (gj v) λn=>(-(2 ^ 62)<=n/\n<2 ^ 62)/\Q (λ_=>True) (fI 0 n) h1) X
 |.enum e,env,h,Q,X=>xE Φ e env h (λv h1=>go (tupOf v) λxs=>Q (λ_=>True) (enumL 0 xs) h1) X
 |.rev e,env,h,Q,X=>xE Φ e env h (λv h1=>go (OB h1 v) λxs=>Q (λg=>OB g v=eQ xs) xs.reverse h1) X
 |_,_,_,_,_=>False
end
@[reducible] noncomputable def wE:Fs->E->Env->Hs->Q1->XQ->Prop:=xE
@[reducible] noncomputable def wA:Fs->Es->Env->Hs->(List Val->Hs->Prop)->XQ->Prop:=xA
@[reducible] noncomputable def wO:Fs->Oe->Env->Hs->(Option Int->Hs->Prop)->XQ->Prop:=xO
@[reducible] noncomputable def wT:Fs->Tt->Env->Hs->(Bool->Hs->Prop)->XQ->Prop:=xT
@[reducible] noncomputable def wI:Fs->It->Env->Hs->((Hs->Prop)->List Val->Hs->Prop)->XQ->Prop:=xI
noncomputable abbrev NQ:=Env->Hs->Prop
noncomputable abbrev EQ:=Env->String->Hs->Prop
abbrev wFor(st:Hs->Prop)(W:Val->Env->Hs->NQ->NQ->Prop)(N:NQ):List Val->Env->Hs->Prop
 |[],env,h=>st h/\N env h
 |v::vs,env,h=>st h/\W v env h (λe g=>wFor st W N vs e g) N
mutual
@[reducible] noncomputable def xS(Φ:Fs):S->Env->Hs->NQ->Q1->NQ->NQ->EQ->Prop
 |.set p e,env,h,N,_,_,_,X=>wE Φ e env h (λv h1=>go (bind p h1 v env) λŜ=>N Ŝ h1)<|X env
 |.setIdx a i e,env,h,N,_,_,_,X=>wE Φ e env h (λv h1=>wE Φ a env h1 (λo h2=>wE Φ i env h2 (λk h3=>go (fP h3 o k v) λg=>N env g)<|X env)<|X env)<|X env
 |.setFld o f e,env,h,N,_,_,_,X=>wE Φ e env h (λv h1=>wE Φ o env h1 (λu h2=>go (fR h2 u f v) λg=>N env g)<|X env)<|X env
 |.augFld o f op n,env,h,N,_,_,_,X=>wE Φ o env h (λu h1=>go (fQ h1 u f) λx=>go (augV op x<|.int n) λy=>go (fR h1 u f y) λg=>N env g)<|X env
 |.augIdx a i op n,env,h,N,_,_,_,X=>wE Φ a env h (λo h1=>wE Φ i env h1 (λk h2=>go (fN h2 o k) λx=>go (augV op x<|.int n) λy=>go (fP h2 o k y) λg=>N env g)<|X env)<|X env
 |.expr e,env,h,N,_,_,_,X=>wE Φ e env h (λ_ h1=>N env h1)<|X env
 |.ret e,env,h,_,R,_,_,X=>wE Φ e env h R<|X env
 |.retN,_,h,_,R,_,_,_=>R .non h
 |.ite c a b,env,h,N,R,B,C,X=>wT Φ c env h (λk h1=>if k=eU then xSs Φ a env h1 N R B C X else xSs Φ b env h1 N R B C X)<|X env
 |.for p it b,env,h,N,R,_,_,X=>wI Φ it env h (λst xs h1=>wFor st (λv e g K M=>go (bind p g v e) λe2=>xSs Φ b e2 g K R M K X) N xs env h1)<|X env
 | .forI k p e b,env,h,N,R,_,_,X=>wE Φ e env h (λv h1=>go (fJ v) λa=>go (gh<|h1 a) λkvs =>
     wFor (λg=>g a=eQ (.frz kvs)) (λv e g K M=>go (bind p g v e) λe2=>xSs Φ b e2 g K (λu g2=>g2 a=eQ (.frz kvs)/\R u (upd g2 a<|.dct kvs)) M K λ_ _ _=>False)
       (λe g=>g a=eQ (.frz kvs)/\N e (upd g a<|.dct kvs)) (kvs.map<|itemOf k) env (upd h1 a<|.frz kvs))<|X env
 |.never,_,_,_,_,_,_,_=>False
 |_,_,_,_,_,_,_,_=>False
@[reducible] noncomputable def xSs(Φ:Fs):Ss->Env->Hs->NQ->Q1->NQ->NQ->EQ->Prop
 |.nil,env,h,N,_,_,_,_=>N env h
 |.cons s ss,env,h,N,R,B,C,X=>xS Φ s env h (λe g=>xSs Φ ss e g N R B C X) R B C X
@[reducible] noncomputable def xH(Φ:Fs):Hn->String->Env->Hs->NQ->Q1->NQ->NQ->Prop
 |.nil,_,_,_,_,_,_,_=>False
 |.cons K eS b r,c,env,h,N,R,B,C=>if f8 c K=eU then xSs Φ b env h N R B C (λ_ _ _=>False)else xH Φ r c env h N R B C
 |.cons K (eQ i) b r,c,env,h,N,R,B,C=>if f8 c K=eU then(∀p,h p=eS->xSs Φ b (env.set i<|eQ<|.ref p) (upd h p<|.exc c) (λe g=>N (e.set i eS) g) R (λe g=>B (e.set i eS) g) (λe g=>C (e.set i eS) g) λ_ _ _=>False)
  else xH Φ r c env h N R B C
end
@[reducible] noncomputable def wS:Fs->S->Env->Hs->NQ->Q1->NQ->NQ->EQ->Prop:=xS
@[reducible] noncomputable def wSs:Fs->Ss->Env->Hs->NQ->Q1->NQ->NQ->EQ->Prop:=xSs
structure Fn where
 ar:Nat
 sz:Nat
 body:Ss
noncomputable abbrev Pg:=String->Option Fn
class In(P:Pg)(f:String)(d:outParam Fn):Prop where
 eq:P f=eQ d
abbrev Fn.env(d:Fn)(vs:List Val):Env:=vs.map eQ++Û (d.sz - d.ar) eS
abbrev wF0(P:Pg):Nat->Fs
 |0=>λ_ _ _ _ _=>False
 |n+1=>λf vs h Q X=>go (P f) λd=>vs.length=d.ar/\wSs (wF0 P n) d.body (d.env vs) h (λ_ g=>Q .non g) Q (λ_ _=>False) (λ_ _=>False) λ_ c g=>X c g
@[irreducible] noncomputable def wF(P:Pg)(n:Nat):Fs:=wF0 P n
variable {P:Pg}{n:Nat}
def wF_eq:wF P n=wF0 P n:=by unfold wF;rfl
def Zb(e:P f=eQ d)(hl:vs.length=d.ar)(q:wSs (wF P n) d.body (d.env vs) h (λ_ g=>Q .non g) Q (λ_ _=>False) (λ_ _=>False) λ_ c g=>X c g):wF P (n+1) f vs h Q X:=by
 rw[wF_eq]at q ⊢;exact fb e ⟨hl,q⟩
section
variable {env:Env}{b c e o:E}{v u:Val}
def Rj(q:new h (.dct []) λr h1=>go (fJ r) λp=>wA Φ es env h1 (λvs h2=>go (pairUp vs) λkvs=>h2 p=eQ (.dct [])/\Q (.ref p) (upd h2 p<|.dct<|putAll [] kvs)) X):wE Φ (.dct es) env h Q X:=by show Oo _ _ _ _;unfold Oo;exact q
def Rb(q:QA [] h):wA Φ .nil env h QA X:=q
end
section
variable {env:Env}{h:Hs}{N C:NQ}{b c e o:E}{v u:Val}{t:Tt}{it:It}{hs:Hn}
def O7(q:N env h):wSs Φ .nil env h N R B C X:=q
end
section
variable {h:Hs}{i j k:Int}{a b:Ad}{xs ys:List Val}{v u:Val}{K:Val->Prop}
def wp_val{r:Rs}(e:r=.val v)(q:Q v h):r.wp h Q:=by rw[e,Rs.wp_val];exact q
def wp_new{r:Rs}{o:Ob}(e:r=.new o)(q:new h o Q):r.wp h Q:=by rw[e,Rs.wp_new];exact q
def b_add(q:Q (.int<|i+j) h):(binV h .add (.int i)<|.int j).wp h Q:=wp_val rfl q
def b_sub(q:Q (.int<|i - j) h):(binV h .sub (.int i)<|.int j).wp h Q:=wp_val rfl q
def b_mul(m:mulOk i j)(q:Q (.int<|i*j) h):(binV h .mul (.int i)<|.int j).wp h Q:=wp_val (gu m) q
def b_fdiv(m:0<j/\j<1073741824)(q:Q (.int<|i / j) h):(binV h .fdiv (.int i)<|.int j).wp h Q:=wp_val (gu m) q
def b_mod(m:0<j)(q:Q (.int<|i % j) h):(binV h .mod (.int i)<|.int j).wp h Q:=wp_val (gu m) q
def b_pow(m:0<=j/\j<=1000000/\i.natAbs<2 ^ 64)(q:Q (.int<|i ^ j.toNat) h):(binV h .pow (.int i)<|.int j).wp h Q:=wp_val (gu m) q
def Qf(m:0<=j/\j<=1000000/\i.natAbs<2 ^ 64)(e:i ^ j.toNat=z)(q:Q (.int z) h):(binV h .pow (.int i)<|.int j).wp h Q:=b_pow m (by rw[e];exact q)
def L9(m:xs.length+ys.length<=lim)(q:Q (.tup<|xs++ys) h):(binV h .add (.tup xs)<|.tup ys).wp h Q:=wp_val (gu m) q
def UD(e1:h a=eQ (.lst xs))(e2:h b=eQ (.lst ys))(m:(xs++ys).length<=lim)(q:new h (.lst<|xs++ys) Q):(binV h .add (.ref a)<|.ref b).wp h Q:=by refine wp_new ?_ q;show(match h a,h b with|some (.lst xs),eQ (.lst ys)=>Rs.lst (xs++ys)|_,_=>.no:Rs)=_;simp![e1,e2,Rs.lst];rw[gu m]
def lsE(e1:h a=eQ (.lst xs)):fj (h a)=eQ xs:=by rw[e1];rfl
variable {kvs:List (Val×Val)}
def dcE(e1:h a=eQ (.dct kvs)):gh (h a)=eQ kvs:=by rw[e1];rfl
def g_int{K:Int->Prop}(q:K i):go (gj<|.int i) K:=fb rfl q
def g_bl{b:Bool}(q:KB b):go (gk<|.bl b) KB:=fb rfl q
def g_ref{K:Ad->Prop}(q:K a):go (fJ<|.ref a) K:=fb rfl q
def g_tbl{b:Bool}(q:KB b):go (Kd h<|.bl b) KB:=fb rfl q
def S9(q:KB<|gB (i≠0)):go (Kd h<|.int i) KB:=fb rfl q
def SV(e:h a=eQ (.lst xs))(q:KB (!xs.isEmpty)):go (Kd h<|.ref a) KB:=fb (by unfold Kd;simp![e]) q
def fc(e:atI xs i=eQ v)(q:K v):go (fN h (.tup xs)<|.int i) K:=fb e q
def Zf(e1:h a=eQ (.lst xs))(e:atI xs i=eQ v)(q:K v):go (fN h (.ref a)<|.int i) K:=fb (by unfold fN;simp![e1];exact e) q
def ZV{k:Val}(e1:h a=eQ (.dct kvs))(hk:fv k=eU)(e:fy kvs k=eQ v)(q:K v):go (fN h (.ref a) k) K:=fb (by unfold fN;simp![e1];rw[gu hk];exact e) q
variable {ns:List Int}
def Pw(e:atI (ns.map Val.int) i=eQ v)(q:K v):go (fN h (.scr ns)<|.int i) K:=fb e q
def c_lt(q:KB<|gB (i<j)):go (fu h .lt (.int i)<|.int j) KB:=fb rfl q
def c_gt(q:KB<|gB (j<i)):go (fu h .gt (.int i)<|.int j) KB:=fb rfl q
def c_le(q:KB<|gB (i<=j)):go (fu h .le (.int i)<|.int j) KB:=fb rfl q
def c_ge(q:KB<|gB (j<=i)):go (fu h .ge (.int i)<|.int j) KB:=fb rfl q
def UQ:D.eqv (.int i) (.int j)=gB (i=j):=by rw[D.eqv];by_cases e:i=j<;>simp[e]
variable {s:String}
def Ie:D.eqv (.str s) (.str t)=gB (s=t):=by rw[D.eqv];by_cases e:s=t<;>simp[e]
def c_eqI(q:KB<|gB (i=j)):go (fu h .eq (.int i)<|.int j) KB:=fb (by show eQ (D.eqv (.int i)<|.int j)=_;rw[UQ]) q
def c_neI(q:KB (!gB (i=j))):go (fu h .ne (.int i)<|.int j) KB:=fb (by show eQ (!D.eqv (.int i) (.int j))=_;rw[UQ]) q
def c_eqS(q:KB<|gB (s=t)):go (fu h .eq (.str s)<|.str t) KB:=fb (by show eQ (D.eqv (.str s)<|.str t)=_;rw[Ie]) q
def TF(q:KB (!gB (s=t))):go (fu h .ne (.str s)<|.str t) KB:=fb (by show eQ (!D.eqv (.str s) (.str t))=_;rw[Ie]) q
variable {c:Bool}
def TH(q:KB<|c==d):go (fu h .eq (.bl c)<|.bl d) KB:=fb (by show eQ (D.eqv (.bl c)<|.bl d)=_;rw[D.eqv]) q
def c_isN(q:KB<|gB (v=.non)):go (fu h .is v .non) KB:=fb (by unfold fu;rfl) q
def c_notN(q:KB (!gB (v=.non))):go (fu h .isnot v .non) KB:=fb (by unfold fu;rfl) q
def c_eqE(e1:h a=eQ (.lst xs))(e2:h b=eQ (.lst []))(q:KB xs.isEmpty):go (fu h .eqE (.ref a)<|.ref b) KB:=fb (by show(fj<|h a).bind _=_;rw[e1,Y5];show(fj<|h b).bind _=_;rw[e2,Y5];rfl) q
def IU(e1:fe xs=eQ ns)(e2:fe ys=eQ ms)(q:KB<|fL ms ns):go (fu h .gt (.tup xs)<|.tup ys) KB:=fb (by show(fe ys).bind _=_;rw[e1,e2];rfl) q
variable {n:Nat}{ũ:Env}
def PD{env:Env}{K:Env->Prop}(e:env.set n (eQ v)=ũ)(q:K ũ):go (bind (.one n) h v env) K:=by subst e;exact fb rfl q
def Pv{K:Env->Prop}(e:bindL is xs env=eQ ũ)(q:K ũ):go (bind (.many is) h (.tup xs) env) K:=fb e q
def S0{K:Hs->Prop}(e1:h a=eQ (.lst xs))(e:ixN xs.length i=eQ n)(q:K<|upd h a<|.lst<|xs.set n v):go (fP h (.ref a) (.int i) v) K:=fb (by unfold fP;simp![e1,gj,î,e,Ę]) q
def Qw{K:Hs->Prop}(e1:h a=eQ (.dtp kvs))(m:kvs.length<lim)(q:K<|upd h a<|.dtp<|fA kvs (.key i j) v):go (fP h (.ref a) (.key i j) v) K:=fb (by unfold fP;simp![e1];exact gu ⟨rfl,m⟩) q
def Yk{K:Hs->Prop}{k:Val}(e1:h a=eQ (.dct kvs))(m:fv k=eU/\kvs.length<lim)(q:K<|upd h a<|.dct<|fA kvs k v):go (fP h (.ref a) k v) K:=fb (by unfold fP;simp![e1];rw[gu m]) q
def Rw(e1:h a=eQ (.dtp kvs))(q:KB<|fz kvs<|.key i j):go (fu h .isin (.key i j)<|.ref a) KB:=fb (by show inV h (.key i j) (.ref a)=_;unfold inV;simp![e1];rfl) q
def J7(e1:h a=eQ (.dct kvs))(hk:fv v=eU)(q:KB<|fz kvs v):go (fu h .isin v<|.ref a) KB:=fb (by show inV h v (.ref a)=_;unfold inV;simp![e1];rw[gu hk]) q
def XS(e1:h a=eQ (.dct kvs))(hk:fv v=eU)(q:KB (!fz kvs v)):go (fu h .notin v<|.ref a) KB:=fb (by show(inV h v<|.ref a).map _=_;unfold inV;simp![e1];rw[gu hk];rfl) q
variable {C:String}{f:String}
def Yn{K:Hs->Prop}(e1:h a=eQ (.ins C fs))(m:fs.length<900)(q:K<|upd h a<|.ins C<|fq fs f v):go (fR h (.ref a) f v) K:=fb (by unfold fR;simp![e1];rw[gu m]) q
def PK(e1:h a=eQ (.ins C fs))(e:fs.lookup f=eQ v)(q:K v):go (fQ h (.ref a) f) K:=fb (by unfold fQ fJ;simp![e1,insOf,î];exact e) q
variable {P:Prop}
def LG(e1:h a=eQ (.ins C fs))(e:fs.lookup m=eS)(q:P):clsV h (.ref a) m=eQ C/\P:=⟨by unfold clsV fJ;simp![e1,insOf,î,e,Option.isNone_none,if_true],q⟩
def ag_add(q:K<|.int<|i+j):go (augV .add (.int i)<|.int j) K:=fb rfl q
def ln_lst(e1:h a=eQ (.lst xs))(q:Q (.int xs.length) h):(biV h .len [.ref a]).wp h Q:=wp_val (by show fS h (.ref a)=_;unfold fS;dsimp only;rw[e1]) q
def ln_scr(q:Q (.int ns.length) h):(biV h .len [.scr ns]).wp h Q:=wp_val rfl q
def ln_tup(q:Q (.int xs.length) h):(biV h .len [.tup xs]).wp h Q:=wp_val rfl q
def in_str(m:s.length<=640/\s.toList≠[]/\s.toList.all figB=eU)(q:Q (.int<|decN s.toList) h):(biV h .int [.str s]).wp h Q:=wp_val (gu m) q
def Ll(e1:h a=eQ (.lst xs))(e2:blsOf xs=eQ bs)(q:Q (.bl<|bs.all id) h):(biV h .all [.ref a]).wp h Q:=wp_val (by show Rs.ofO ((fj<|h a).bind _)=_;rw[lsE e1,î,e2];rfl) q
def TD{K:String->Prop}(q:K s):go (QP<|.str s) K:=fb rfl q
variable {m:Bm}
def Tl(hm:m=.join)(q:P):bmTy h m (.str s)=eU/\P:=⟨by subst hm;rfl,q⟩
variable {x:List Int}{r:List (List Int)}
def mnR(e1:h a=eQ (.lst xs))(e0:fe xs=eS)(e2:rowsOf xs=eQ (x::r))(q:Q (.tup<|(minR x r).map Val.int) h):(biV h .minL [.ref a]).wp h Q:=wp_val (by show biMinL h (.ref a)=_;unfold biMinL pairI intsAt asLst;simp![e1,fj,î];rw[e0,e2];rfl) q
def Td(q:Q (.int i) h):(biV h .int [.int i]).wp h Q:=wp_val rfl q
def in_bl(q:Q (.int<|if c then 1 else 0) h):(biV h .int [.bl c]).wp h Q:=wp_val rfl q
def tp_lst(e1:h a=eQ (.lst xs))(q:Q (.tup xs) h):(biV h .tuple [.ref a]).wp h Q:=wp_val (by show MF h (.ref a)=_;unfold MF;dsimp only;rw[e1]) q
def SN(q:Q (.tup xs) h):(biV h .tuple [.tup xs]).wp h Q:=wp_val rfl q
def Eh(e:isiAny h v Ts=eQ c)(q:Q (.bl c) h):(biV h (.isi Ts) [v]).wp h Q:=wp_val (by show Rs.ofO ((isiAny h v Ts).map .bl)=_;rw[e];rfl) q
def ls_lst(e1:h a=eQ (.lst xs))(q:new h (.lst xs) Q):(biV h .list [.ref a]).wp h Q:=wp_new (by show toList h (.ref a)=_;unfold toList;dsimp only;rw[e1]) q
def Tm(q:new h (.lst xs) Q):(biV h .list [.tup xs]).wp h Q:=wp_new rfl q
variable {lo:Option Int}
def fU(n:¬ (fK xs.length 0 lo=0/\fK xs.length xs.length hi=xs.length))(q:Q (.tup<|cut xs lo hi) h):(fO h (.tup xs) lo hi).wp h Q:=wp_val (by unfold fO;simp only;rw[gw n]) q
def Pd(hm:m.ty=.l\/m.ty=.t)(e:h a=eQ (.lst xs))(q:P):bmTy h m (.ref a)=eU/\P:=⟨by unfold bmTy;rcases hm with hm|hm<;>rw[hm]<;>simp[Wa,e,isLst],q⟩
def P2(hm:m.ty=.d)(e:h a=eQ (.dct kvs))(q:P):bmTy h m (.ref a)=eU/\P:=⟨by unfold bmTy;rw[hm];simp[Wa,e,isDct],q⟩
abbrev IM:Bi->Bool
 |.sorted=>eU
 |.sortedI=>eU
 |_=>eV
def CD{f:Bi}(hf:IM f=eU)(e:sortAny h v=eQ ns)(m:ns.length<64)(q:new h (.lst<|(sortI ns).map Val.int) Q):(biV h f [v]).wp h Q:=by
 cases f with
 |sorted=>exact wp_new (by show J9 h v=_;unfold J9;simp![e];exact gu m) q
 |sortedI=>exact wp_new (by show biSortedI h v=_;unfold biSortedI;simp![e];exact gu m) q
 |_=>cases hf
def Pq{f:Bi}(e1:h a=eQ (.lst<|ns.map Val.int))(e2:fe (ns.map Val.int)=eQ ns)(m:ns.length<64)(q:new h (.lst<|(sortI ns).map Val.int) Q)(hf:IM f=eU:=by rfl):(biV h f [.ref a]).wp h Q:=CD hf (by unfold sortAny;simp![e1,e2]) m q
def Ul{f:Bi}(e1:h a=eQ (.dct kvs))(e2:keysOf kvs=eQ ns)(m:ns.length<64)(q:new h (.lst<|(sortI ns).map Val.int) Q)(hf:IM f=eU:=by rfl):(biV h f [.ref a]).wp h Q:=CD hf (by unfold sortAny;simp![e1,e2]) m q
def Qg(e1:h a=eQ (.lst []))(q:Q .non h):(biV h .minD [.ref a]).wp h Q:=wp_val (by show fT h (.ref a)=_;unfold fT;simp![e1,fj,î,rowsOf]) q
def FB(e1:h a=eQ (.lst xs))(e2:rowsOf xs=eQ (x::r))(q:Q (.tup<|(minR x r).map Val.int) h):(biV h .minD [.ref a]).wp h Q:=wp_val (by show fT h (.ref a)=_;unfold fT;simp![e1,fj,î,e2]) q
def sl_str(n:s.length<=lim)(q:Q (.str<|Μ<|cut s.toList lo hi) h):(fO h (.str s) lo hi).wp h Q:=wp_val (by unfold fO;simp only;rw[gu n]) q
def sl_lst(e1:h a=eQ (.lst xs))(q:new h (.lst<|cut xs lo hi) Q):(fO h (.ref a) lo hi).wp h Q:=wp_new (by unfold fO;simp![e1,fj]) q
def sl_scr(q:new h (.lst<|cut (ns.map Val.int) lo hi) Q):(fO h (.scr ns) lo hi).wp h Q:=wp_new rfl q
def Z3{K:Val×Hs->Prop}(e1:h a=eQ (.lst xs))(m:xs.length<lim)(q:K (.non,upd h a<|.lst<|xs++[v])):go (bmV h .append (.ref a) [v]) K:=fb (by show(fj<|h a).bind _=_;rw[lsE e1];exact gu m) q
def Qt{K:Val×Hs->Prop}(e1:h a=eQ (.dct kvs))(hk:fv v=eU)(q:K ((fy kvs v).getD .non,h)):go (bmV h .dget (.ref a) [v]) K:=fb (by show(gh<|h a).bind _=_;rw[dcE e1];exact gu hk) q
def it_lst{K:(Hs->Prop)×List Val->Prop}(e1:h a=eQ (.lst xs))(q:K (λg=>fj (g a)=eQ xs,xs)):go (itV h<|.ref a) K:=fb (by unfold itV;simp![e1,fj,Ę]) q
def it_scr{K:(Hs->Prop)×List Val->Prop}(q:K (λ_=>True,ns.map Val.int)):go (itV h<|.scr ns) K:=fb rfl q
def it_tup{K:(Hs->Prop)×List Val->Prop}(q:K (λ_=>True,xs)):go (itV h<|.tup xs) K:=fb rfl q
def Tg{K:List Val->Prop}(q:K xs):go (OB h<|.tup xs) K:=fb rfl q
def SJ{K:List Val->Prop}(e1:h a=eQ (.lst xs))(q:K xs):go (OB h<|.ref a) K:=fb (by unfold OB;simp![e1,fj]) q
variable {A:Prop}{B:Prop}
def fV(e:c=eU)(q:A):if c=eU then A else B:=by rw[gu e];exact q
def fW(e:c=eV)(q:B):if c=eU then A else B:=by rw[gw<|by rw[e];decide];exact q
def fY(q:c=eU->A)(r:c=eV->B):if c=eU then A else B:=by cases c;exact r rfl;exact q rfl
variable {p:Prop}
def fX[Decidable p](q:p->A)(r:¬p->B):if decide p=eU then A else B:=by
 by_cases e:p
 .rw[gu<|gy e];exact q e
 .rw[gw<|by simpa using e];exact r e
def Hv[Decidable p](q:¬p->A)(r:p->B):if(!decide p)=eU then A else B:=by
 by_cases e:p
 .rw[gw<|by simpa using e];exact r e
 .rw[gu<|by simpa using e];exact q e
end
structure Ext(h g:Hs):Prop where
 get:∀{a:Ad}{o:Ob},h a=eQ o->g a=eQ o
variable {h:Hs}
def Ext.refl:Ext h h:=⟨λe=>e⟩
def Ext.trans(e:Ext h g)(f:Ext g k):Ext h k:=⟨λx=>f.get<|e.get x⟩
variable {p:Ad}{o:Ob}
def Ext.new(e:h p=eS):Ext h<|upd h p o:=⟨λ{a u} x=>by
  rw[eW<|by intro z;rw[z,e]at x;cases x];exact x⟩
structure ExtB(w:Ad)(h g:Hs):Prop where
 get:∀{a:Ad}{o:Ob},a≠w->h a=eQ o->g a=eQ o
variable {a:Ad}
def Za(x:h a=eQ o)(n:h p=eS):a≠p:=by intro z;rw[z,n]at x;cases x
def ne_none'(n:h p=eS)(x:h a=eQ o):a≠p:=Za x n
def upd_ne'(n:b≠a)(e:h b=r):upd h a o b=r:=by rw[eW n];exact e
inductive Sm2 {α β:Type}(p:α->β->Prop):Prop|mk (a:α) (b:β) (h:p a b)
inductive Sm3 {α β γ:Type}(p:α->β->γ->Prop):Prop|mk (a:α) (b:β) (c:γ) (h:p a b c)
inductive Sm4 {α β γ δ:Type}(p:α->β->γ->δ->Prop):Prop|mk (a:α) (b:β) (c:γ) (d:δ) (h:p a b c d)
inductive Cj2 (a b:Prop):Prop|mk (h1:a) (h2:b)
inductive Cj3 (a b c:Prop):Prop|mk (h1:a) (h2:b) (h3:c)
inductive Cj4 (a b c d:Prop):Prop|mk (h1:a) (h2:b) (h3:c) (h4:d)
inductive Cj7 (a b c d e f g:Prop):Prop|mk (h1:a) (h2:b) (h3:c) (h4:d) (h5:e) (h6:f) (h7:g)
variable {st:Hs->Prop}
def Zp{W:Val->Env->Hs->NQ->NQ->Prop}(I:Nat->Env->Hs->Prop)(h0:I 0 env h)(θ:∀i e g,i<=xs.length->I i e g->st g)(step:∀i v e g,xs[i]?=eQ v->I i e g->∀K:NQ,(∀e' g',I (i+1) e' g'->K e' g')->W v e g K N)(fin:∀e g,I xs.length e g->N e g):wFor st W N xs env h:=by
 have key:∀(ys:List Val) (i:Nat) e g,xs.drop i=ys->i<=xs.length->I i e g->wFor st W N ys e g:=by
  intro ys;induction ys with
  |nil =>
   intro i e g hd hi hI;have:i=xs.length:=by have:=congrArg List.length hd;simp at this;lia
   subst this;exact⟨θ _ e g (Ï _) hI,fin e g hI⟩
  |cons v vs ih =>
   intro i e g hd hi hI;have Ϝ:i<xs.length:=by have:=congrArg List.length hd;simp at this;lia
   have hv:xs[i]?=eQ v:=by have:=congrArg (λl=>l[0]?) hd;simpa using this
   refine⟨θ i e g hi hI,step i v e g hv hI _ λe' g' hI'=>ih (i+1) e' g' ?_ ↥0 hI'⟩;have:=congrArg List.tail hd;simpa using this
 exact key xs 0 env h (by simp) ↥0 h0
def WE{step:Val->Hs->(Option Val->Hs->Prop)->XQ->Prop}(I:Nat->List Val->Hs->Prop)(h0:I 0 [] h)(θ:∀i ys g,i<=xs.length->I i ys g->st g)(go:∀i v ys g,xs[i]?=eQ v->I i ys g->∀K,(∀r g',I (i+1) (ys++r.toList) g'->K r g')->step v g K X)(fin:∀ys g,I xs.length ys g->Q ys g):wComp st step xs [] h Q X:=by
 have key:∀(zs:List Val) (i:Nat) ys g,xs.drop i=zs->i<=xs.length->I i ys g->wComp st step zs ys g Q X:=by
  intro zs;induction zs with
  |nil =>
   intro i ys g hd hi hI;have:i=xs.length:=by have:=congrArg List.length hd;simp at this;lia
   subst this;exact⟨θ _ ys g (Ï _) hI,fin ys g hI⟩
  |cons v vs ih =>
   intro i ys g hd hi hI;have Ϝ:i<xs.length:=by have:=congrArg List.length hd;simp at this;lia
   have hv:xs[i]?=eQ v:=by have:=congrArg (λl=>l[0]?) hd;simpa using this
   refine⟨θ i ys g hi hI,go i v ys g hv hI _ λr g' hI'=>ih (i+1) _ g' ?_ ↥0 hI'⟩;have:=congrArg List.tail hd;simpa using this
 exact key xs 0 [] h (by simp) ↥0 h0
def XA{step:Val->Hs->(Option Val->Hs->Prop)->XQ->Prop}(f:Val->Option Val)(θ:st h)(go:∀v∈xs,∀K,K (f v) h->step v h K X)(fin:Q (xs.filterMap f) h):wComp st step xs [] h Q X:=by
 have key:∀(zs ys:List Val),(∀v∈zs,v∈xs)->Q (ys++zs.filterMap f) h->wComp st step zs ys h Q X:=by
  intro zs;induction zs with
  |nil=>intro ys _ q;exact⟨θ,⇑q⟩
  |cons v vs ih =>
   intro ys hm q;refine⟨θ,go v (hm v<|by simp) _<|ih _ (λw hw=>hm w<|by simp[hw]) ?_⟩;cases e:f v with
   |none=>simpa[đ,e]using q
   |some u=>simpa[đ,e]using q
 exact key xs [] (λ_ h=>h) ⇑fin
section
variable {env:Env}{b c e o:E}{as:Es}{v u:Val}
def q_e_bi:(wE Φ (.bi f as) env h Q X)=(wA Φ as env h (λvs h1=>(biV h1 f vs).wp h1 Q) X):=rfl
def q_e_dct:(wE Φ (.dct es) env h Q X)=(new h (.dct []) λr h1=>go (fJ r) λp=>wA Φ es env h1 (λvs h2=>go (pairUp vs) λkvs=>h2 p=eQ (.dct [])/\Q (.ref p) (upd h2 p<|.dct<|putAll [] kvs)) X):=by show Oo _ _ _ _=_;unfold Oo;rfl
def q_a_nil:(wA Φ .nil env h QA X)=(QA [] h):=rfl
def q_a_cons:(wA Φ (.cons e es) env h QA X)=(wE Φ e env h (λv h1=>wA Φ es env h1 (λvs h2=>QA (v::vs) h2) X) X):=rfl
end
mutual
theorem D.eqv_refl:∀d:D,D.eqv d d=eU
 |.non=>by simp[D.eqv]
 |.bl _=>by simp[D.eqv]
 |.int _=>by simp[D.eqv]
 |.str _=>by simp[D.eqv]
 |.tup ds=>by simp![D.eqv];exact D.eqvs_refl ds
 |.lst ds=>by simp![D.eqv];exact D.eqvs_refl ds
theorem D.eqvs_refl:∀ds:List D,D.eqvs ds ds=eU
 |[]=>by simp[D.eqvs]
 |d::ds=>by simp![D.eqvs,D.eqv_refl d,D.eqvs_refl ds,Bool.and_self]
end
def Av{α:Type}{o:Option α}{k k':α->Prop}(h:go o k)(f:∀a,k a->k' a):go o k':=by
 cases o with
 |none=>rw[F3]at h;exact h.elim
 |some a=>rw[eZ]at h ⊢;exact f a h
section
variable {env:Env}{h:Hs}{a:Ad}{v:Val}{kvs:List (Val×Val)}
def IK(q:∀p,h p=eS->Q (.ref p) (upd h p<|.dct [])):wE Φ (.dct .nil) env h Q X:=by refine Rj<|Xi λp hp=>g_ref<|Rb<|fb rfl ⟨eX,?_⟩;rw[eY];exact q p hp
def dw0(q:∀p,h p=eS->Q (.ref p) (upd h p<|.dct [])):Oo (xA Φ .nil env) h Q X:=IK q
def dw(q:new h (.dct []) λr h1=>go (fJ r) λp=>F h1 (λvs h2=>go (pairUp vs) λkvs=>h2 p=eQ (.dct [])/\Q (.ref p) (upd h2 p<|.dct<|putAll [] kvs)) X):Oo F h Q X:=by unfold Oo;exact q
def Sb{K:Val->Prop}(g:getV env i=eQ v)(q:K v):go (getV env i) K:=fb g q
def dc_of{K:List (Val×Val)->Prop}(e1:h a=eQ (.dct kvs))(q:K kvs):go (gh<|h a) K:=fb (dcE e1) q
variable {u:Val}
def M5{K:Val×Hs->Prop}(e1:h a=eQ (.dct kvs))(hk:fv v=eU)(q:K ((fy kvs v).getD u,h)):go (bmV h .dgetD (.ref a) [v,u]) K:=fb (by show O6 h (.ref a) [v,u]=_;unfold O6 dpAt;simp![e1];show(gh<|h a).bind _=_;rw[dcE e1];exact gu hk) q
def Cp{K:Val×Hs->Prop}(e1:h a=eQ (.dct kvs))(hk:fv v=eU)(e2:fy kvs v=eQ u)(q:K (u,upd h a<|.dct<|fB kvs v)):go (bmV h .dpop (.ref a) [v]) K:=fb (by show(gh<|h a).bind _=_;rw[dcE e1];show(if fv v then _ else _)=_;rw[gu hk,e2];rfl) q
def AF{K:Val×Hs->Prop}(e1:h a=eQ (.dct kvs))(hk:fv v=eU)(q:K ((fy kvs v).getD u,upd h a<|.dct<|fB kvs v)):go (bmV h .dpopD (.ref a) [v,u]) K:=fb (by show(gh<|h a).bind _=_;rw[dcE e1];exact gu hk) q
def LO(e1:h a=eQ (.dtp kvs))(q:new h (.lst<|kvs.map λp=>tupK p.1) Q):(biV h .listT [.ref a]).wp h Q:=wp_new (by show M8 h (.ref a)=_;unfold M8;simp![e1,dtOf]) q
def Ap{K:Val×Hs->Prop}(e1:h a=eQ (.dtp kvs))(e2:fy kvs (.key i j)=eQ u)(q:K (u,upd h a<|.dtp<|fB kvs<|.key i j)):go (bmV h .dpopT (.ref a) [.key i j]) K:=fb (by show(dtOf<|h a).bind _=_;rw[e1];show(if isKeyT (.key i j)=eU then(fy kvs<|.key i j).map (λv=>(v,upd h a<|.dtp<|fB kvs<|.key i j))else eS)=_;rw[gu (show isKeyT (.key i j)=eU from rfl),e2];rfl) q
end
end O
namespace Snd
open PySem L2
abbrev KT(K:Frag)(a:Ì)(xs:List V):Prop :=
 ∃(o:Obj) (ø:Array Ã) (n:Nat),K.lookup a=eQ o/\o.cls=.type "tuple"/\o.data=.seq ø n/\ø.size<=Þ/\gf xs ø.toList
abbrev KL(K:Frag)(a:Ì)(xs:List V):Prop :=
 ∃(o:Obj) (ø:Array Ã) (n:Nat),K.lookup a=eQ o/\o.cls=.type "list"/\o.dict=eS/\o.data=.seq ø n/\ø.size<=Þ/\gf xs ø.toList
mutual
inductive RV (K:Frag) (H:Hp):O.Val->V->Prop
 |non:RV K H .non .non
 |bl (b:Bool):RV K H (.bl b)<|.bl b
 |int (i:Int):RV K H (.int i)<|.int i
 |str (s:String):RV K H (.str s)<|.str<|gC s
 |tup {xs:List O.Val}{a:Ì}{vs:List V}:(H a=eQ (.tup vs)\/KT K a vs)->RVs K H xs vs->RV K H (.tup xs) (.ref a)
 |ref (a:Ì):RV K H (.ref a)<|.ref a
 |scr {ns:List Int}{a:Ì}:((∃o,H a=eQ (.frz o<|.lst<|ns.map V.int))\/KL K a (ns.map V.int))->RV K H (.scr ns) (.ref a)
 |key {i j:Int}{a:Ì}:H a=eQ (.tup [.int i,.int j])->RV K H (.key i j) (.ref a)
inductive RVs (K:Frag) (H:Hp):List O.Val->List V->Prop
 |nil:RVs K H [] []
 |cons {v:O.Val}{x:V}{vs:List O.Val}{xs:List V}:RV K H v x->RVs K H vs xs->RVs K H (v::vs) (x::xs)
end
structure fx(H H':Hp):Prop where
 t:∀a xs,H a=eQ (.tup xs)->H' a=eQ (.tup xs)
 f:∀a o u,H a=eQ (.frz o u)->H' a=eQ (.frz o u)
def fx.refl(H:Hp):fx H H:=⟨λ_ _ e=>e,λ_ _ _ e=>e⟩
def fx.trans(a:fx H H1)(b:fx H1 H2):fx H H2:=⟨λc xs e=>b.t c xs<|a.t c xs e,λc o u e=>b.f c o u<|a.f c o u e⟩
variable {a:Ì}{o:HO}
def fx.put(h:∀xs,H a≠eQ (.tup xs))(h2:∀p u,H a≠eQ (.frz p u)):fx H<|upd H a o:=⟨λb xs e=>by
  rw[eW<|by rintro rfl;exact h xs e];exact e,λb p u e=>by rw[eW<|by rintro rfl;exact h2 p u e];exact e⟩
def fx.new(h:H a=eS):fx H<|upd H a o:=fx.put (λxs e=>by rw[h]at e;cases e) λp u e=>by rw[h]at e;cases e
variable {K:Frag}
mutual
theorem RV.keep(k:fx H H'):∀{v:O.Val}{x:V},RV K H v x->RV K H' v x
 |_,_,.non=>.non
 |_,_,.bl b=>.bl b
 |_,_,.int i=>.int i
 |_,_,.str s=>.str s
 |_,_,.tup (.inl e) r=>.tup (.inl<|k.t _ _ e)<|RVs.keep k r
 |_,_,.tup (.inr e) r=>.tup (.inr e)<|RVs.keep k r
 |_,_,.ref a=>.ref a
 |_,_,.scr (.inl ⟨o,e⟩)=>.scr<|.inl ⟨o,k.f _ _ _ e⟩
 |_,_,.scr (.inr e)=>.scr<|.inr e
 |_,_,.key e=>.key<|k.t _ _ e
theorem RVs.keep(k:fx H H'):∀{vs:List O.Val}{xs:List V},RVs K H vs xs->RVs K H' vs xs
 |_,_,.nil=>.nil
 |_,_,.cons r t=>.cons (RV.keep k r)<|RVs.keep k t
end
def RVs.length:∀{vs:List O.Val}{xs:List V},RVs K H vs xs->vs.length=xs.length
 |_,_,.nil=>rfl
 |_,_,.cons _ t=>by rw[Ð,Ð,RVs.length t]
def RVs.get:∀{vs:List O.Val}{xs:List V}{i:Nat}{v:O.Val},RVs K H vs xs->vs[i]?=eQ v->∃x,xs[i]?=eQ x/\RV K H v x
 |_,_,_,_,.nil,e=>by simp at e
 |_,_,0,_,.cons r _,e=>by simp at e;subst e;exact⟨_,rfl,r⟩
 |_,_,i+1,v,.cons _ t,e=>by let⟨x,h1,h2⟩:=RVs.get (i:=i) (v:=v) t ⇑e;exact⟨x,⇑h1,h2⟩
def RVs.append:∀{vs us:List O.Val}{xs ys:List V},RVs K H vs xs->RVs K H us ys->RVs K H (vs++us) (xs++ys)
 |_,_,_,_,.nil,h=>h
 |_,_,_,_,.cons r t,h=>.cons r<|RVs.append t h
def RVs.set(r:RV K H v x):∀{vs:List O.Val}{xs:List V}(i:Nat),RVs K H vs xs->RVs K H (vs.set i v) (xs.set i x)
 |_,_,_,.nil=>.nil
 |_,_,0,.cons _ t=>.cons r t
 |_,_,i+1,.cons q t=>.cons q<|RVs.set r i t
def RVs.take:∀{vs:List O.Val}{xs:List V}(n:Nat),RVs K H vs xs->RVs K H (vs.take n) (xs.take n)
 |_,_,0,_=>.nil
 |_,_,_+1,.nil=>.nil
 |_,_,n+1,.cons r t=>.cons r<|RVs.take n t
def RVs.drop:∀{vs:List O.Val}{xs:List V}(n:Nat),RVs K H vs xs->RVs K H (vs.drop n) (xs.drop n)
 |_,_,0,r=>r
 |_,_,_+1,.nil=>.nil
 |_,_,n+1,.cons _ t=>RVs.drop n t
def RVs.reverse(r:RVs K H vs xs):RVs K H vs.reverse xs.reverse:=by
 induction r using RVs.rec (motive_1:=λ_ _ _=>True)with
 |nil=>exact .nil
 |cons r t _ ih=>rw[Ρ,Ρ];exact ih.append<|.cons r .nil
 |_=>trivial
def RVs.eraseIdx:∀{vs:List O.Val}{xs:List V}(i:Nat),RVs K H vs xs->RVs K H (vs.eraseIdx i) (xs.eraseIdx i)
 |_,_,_,.nil=>.nil
 |_,_,0,.cons _ t=>t
 |_,_,i+1,.cons q t=>.cons q<|RVs.eraseIdx i t
def Zj{vs:List V}(h:H a=eQ (.tup vs)\/KT K a vs):gc K H a vs:=by
 rcases h with h|h
 .exact gc.of h
 .exact .inr h
structure Inf where
 K:Frag
 cl:String->Ì->Prop
 ins:String->Bool
 xc:String->Ì->Prop
abbrev WY:O.Val->Key->Prop
 |.int i,.inl j=>i=j
 |.str s,.inr t=>t=gC s
 |_,_=>False
inductive RKs (K:Frag) (H:Hp):List (O.Val×O.Val)->List (Key×V)->Prop
 |nil:RKs K H [] []
 |cons {k v:O.Val}{c:Key}{x:V}{kvs:List (O.Val×O.Val)}{ps:List (Key×V)}:WY k c->RV K H v x->RKs K H kvs ps->RKs K H ((k,v)::kvs) ((c,x)::ps)
inductive RFs (K:Frag) (H:Hp):List (String×O.Val)->List (Str×V)->Prop
 |nil:RFs K H [] []
 |cons {f:String}{v:O.Val}{x:V}{fs:List (String×O.Val)}{ps:List (Str×V)}:RV K H v x->RFs K H fs ps->RFs K H ((f,v)::fs) ((gC f,x)::ps)
def RKs.keep(k:fx H H'):∀{kvs:List (O.Val×O.Val)}{ps:List (Key×V)},RKs K H kvs ps->RKs K H' kvs ps
 |_,_,.nil=>.nil
 |_,_,.cons a r t=>.cons a (r.keep k)<|RKs.keep k t
inductive RTs (K:Frag) (H:Hp):List (O.Val×O.Val)->List (List Key×V)->Prop
 |nil:RTs K H [] []
 |cons {i j:Int}{v:O.Val}{x:V}{kvs:List (O.Val×O.Val)}{ps:List (List Key×V)}:RV K H v x->RTs K H kvs ps->RTs K H ((.key i j,v)::kvs) (([.inl i,.inl j],x)::ps)
def RTs.keep(k:fx H H'):∀{kvs:List (O.Val×O.Val)}{ps:List (List Key×V)},RTs K H kvs ps->RTs K H' kvs ps
 |_,_,.nil=>.nil
 |_,_,.cons r t=>.cons (r.keep k)<|RTs.keep k t
def RFs.keep(k:fx H H'):∀{fs:List (String×O.Val)}{ps:List (Str×V)},RFs K H fs ps->RFs K H' fs ps
 |_,_,.nil=>.nil
 |_,_,.cons r t=>.cons (r.keep k)<|RFs.keep k t
abbrev RO(i:Inf)(H:Hp)(a:Ì):O.Ob->Prop
 |.lst xs=>∃vs,H a=eQ (.lst vs)/\RVs i.K H xs vs
 |.dct kvs=>∃ps,H a=eQ (.dK ps)/\RKs i.K H kvs ps
 |.ins C fs=>∃c dx ps,i.ins C=eU/\i.cl C c/\H a=eQ (.ins c dx ps)/\RFs i.K H fs ps
 |.exc C=>∃c,i.xc C c/\H a=eQ (xcO a<|.ref c)
 |.frz kvs=>∃o ps,H a=eQ (.frz o<|.dK ps)/\RKs i.K H kvs ps
 |.dtp kvs=>∃ps,H a=eQ (.dT ps)/\RTs i.K H kvs ps
def RO.there{o:O.Ob}(r:RO i H a o):∃u,H a=eQ u:=by
 cases o with
 |lst xs=>let⟨_,e,_⟩:=r;exact⟨_,e⟩
 |dct kvs=>let⟨_,e,_⟩:=r;exact⟨_,e⟩
 |ins C fs=>let⟨_,_,_,_,_,e,_⟩:=r;exact⟨_,e⟩
 |exc C=>let⟨_,_,e⟩:=r;exact⟨_,e⟩
 |frz kvs=>let⟨_,_,e,_⟩:=r;exact⟨_,e⟩
 |dtp kvs=>let⟨_,e,_⟩:=r;exact⟨_,e⟩
def RO.move{o:O.Ob}(r:RO i H a o)(k:fx H H')(e:H' a=H a):RO i H' a o:=by
 cases o with
 |lst xs=>let⟨vs,q,r⟩:=r;exact⟨vs,e.trans q,r.keep k⟩
 |dct kvs=>let⟨ps,q,r⟩:=r;exact⟨ps,e.trans q,r.keep k⟩
 |ins C fs=>let⟨c,dx,ps,h0,h,q,r⟩:=r;exact⟨c,dx,ps,h0,h,e.trans q,r.keep k⟩
 |exc C=>let⟨c,h,q⟩:=r;exact⟨c,h,e.trans q⟩
 |frz kvs=>let⟨o,ps,q,r⟩:=r;exact⟨o,ps,e.trans q,r.keep k⟩
 |dtp kvs=>let⟨ps,q,r⟩:=r;exact⟨ps,e.trans q,r.keep k⟩
abbrev RH(i:Inf)(G:O.Hs)(H:Hp):Prop:=∀a o,G a=eQ o->RO i H a o
def RH.free(r:RH i G H)(e:H a=eS):G a=eS:=by
 cases q:G a with
 |none=>rfl
 |some o=>let⟨u,z⟩:=(r a o q).there;rw[e]at z;cases z
def RH.put{o:O.Ob}{u:HO}(r:RH i G H)(k:fx H<|upd H a u)(n:RO i (upd H a u) a o):RH i (O.upd G a o)<|upd H a u:=λb p e=>by
 by_cases hb:b=a
 .subst hb;rw[O.eX]at e;cases e;exact n
 .rw[O.eW hb]at e;exact(r b p e).move k<|eW hb
def RH.hid(r:RH i G H)(k:fx H H')(e:∀a o,G a=eQ o->H' a=H a):RH i G H':=λb p q=>(r b p q).move k (e b p q)
structure REn(K:Frag)(H:Hp)(env:O.Env)(σ:St):Prop where
 len:env.length=σ.length
 get:∀(i:Nat) (v:O.Val),env[i]?=eQ (eQ v)->∃x,σ[i]?=eQ (eQ x)/\RV K H v x
def REn.keep(r:REn K H env σ)(k:fx H H'):REn K H' env σ:=⟨r.len,λi v e=>by
  let⟨x,h1,h2⟩:=r.get i v e
  exact⟨x,h1,h2.keep k⟩⟩
def REn.set(r:REn K H env σ)(q:RV K H v x)(j:Nat):REn K H (env.set j<|eQ v)<|σ.set j<|eQ x:=⟨by simp[r.len],λi u e=>by
  by_cases hij:j=i
  . subst hij
    rw[List.getElem?_set_self']at e
    cases z:env[j]? with
    |none=>rw[z]at e;cases e
    |some w =>
      rw[z]at e
      cases e
      have hj:j<σ.length:=by rw[<-r.len];exact(Ë.mp z).1
      exact⟨x,ϐ hj,q⟩
  . rw[ε hij]at e
    let⟨y,h1,h2⟩:=r.get i u e
    exact⟨y,by rw[ε hij];exact h1,h2⟩⟩
def REn.start(r:RVs K H vs xs):REn K H (vs.map eQ++Û n eS)<|xs.map eQ++Û n eS:=⟨by simp[r.length],λi v e=>by
  by_cases hi:i<vs.length
  . rw[ď ⇑hi,Ù]at e
    cases z:vs[i]? with
    |none=>rw[z]at e;cases e
    |some w =>
      rw[z]at e
      cases e
      let⟨x,h1,h2⟩:=r.get z
      exact⟨x,by rw[ď (by rw[Á,<-r.length];exact hi),Ù,h1];rfl,h2⟩
  . rw[ċ ⇑hi,ő]at e
    split at e<;>cases e⟩
def RVs.ints{K:Frag}:∀ns:List Int,RVs K H (ns.map O.Val.int) (ns.map V.int)
 |[]=>.nil
 |n::ns=>.cons (.int n)<|RVs.ints ns
def Z8{ns:List Int}(h:(∃o,H a=eQ (.frz o<|.lst<|ns.map V.int))\/KL K a (ns.map V.int)):f9 K H a<|ns.map V.int:=by
 rcases h with⟨o,h⟩|h
 .exact .inl<|.inr ⟨o,h⟩
 .exact .inr h
variable {i:Inf}
abbrev XK1(i:Inf)(H:Hp)(Em:O.XQ):XK:=λcls _ H'=>∃c G' ad,cls=.ref ad/\i.xc c ad/\fx H H'/\RH i G' H'/\Em c G'
abbrev XOk(X:Cx)(i:Inf)(H:Hp)(Em:O.XQ):Prop:=XW X<|XK1 i H Em
def XK1.go(k:fx H H1)(h:XK1 i H1 Em cls d H'):XK1 i H Em cls d H':=by let⟨c,G',ad,e,q,k',r,m⟩:=h;exact⟨c,G',ad,e,q,k.trans k',r,m⟩
def XOk.go(x:XOk X i H Em)(k:fx H H1):XOk X i H1 Em:=λÂ σ H0 s H' a cls s' I f e=>x Â σ H0 s H' a cls s' I f (e.go k)
structure Pre(X:Cx)(i:Inf)(σ:St)(H:Hp)(env:O.Env)(G:O.Hs)(Em:O.XQ):Prop where
 en:REn i.K H env σ
 hp:RH i G H
 xo:XOk X i H Em
def Pre.go(p:Pre X i σ H env G Em)(k:fx H H1)(r:RH i G1 H1):Pre X i σ H1 env G1 Em:=⟨p.en.keep k,r,p.xo.go k⟩
abbrev Cn(i:Inf)(H:Hp)(Q:VK)(Qm:O.Q1):Prop:=∀v G' H' x,fx H H'->RH i G' H'->RV i.K H' v x->Qm v G'->Q x H'
def Cn.go(c:Cn i H Q Qm)(k:fx H H1):Cn i H1 Q Qm:=λv G' H' x k'=>c v G' H' x (k.trans k')
inductive tEx (X:Cx) (i:Inf) (Φ:O.Fs) (m:O.E) (σ:St) (H:Hp) (Q:VK):Prop
 |mk (env:O.Env) (G:O.Hs) (Qm:O.Q1) (Em:O.XQ) (p:Pre X i σ H env G Em) (w:O.wE Φ m env G Qm Em) (c:Cn i H Q Qm)
abbrev tE(X:Cx)(i:Inf)(Φ:O.Fs)(m:O.E):TE:=tEx X i Φ m
inductive tArx (X:Cx) (i:Inf) (Φ:O.Fs) (ms:O.Es) (n:Nat) (σ:St) (H:Hp) (Q:List V->Hp->Prop):Prop
 |mk (env:O.Env) (G:O.Hs) (Qm:List O.Val->O.Hs->Prop) (Em:O.XQ) (p:Pre X i σ H env G Em) (w:O.wA Φ ms env G Qm Em) (c:∀vs G' H' xs,fx H H'->RH i G' H'->RVs i.K H' vs xs->xs.length=n->Qm vs G'->Q xs H')
abbrev tAr(X:Cx)(i:Inf)(Φ:O.Fs)(ms:O.Es)(n:Nat):TA:=tArx X i Φ ms n
inductive tTtx (X:Cx) (i:Inf) (Φ:O.Fs) (m:O.Tt) (σ:St) (H:Hp) (Q:Bool->Hp->Prop):Prop
 |mk (env:O.Env) (G:O.Hs) (Qm:Bool->O.Hs->Prop) (Em:O.XQ) (p:Pre X i σ H env G Em) (w:O.wT Φ m env G Qm Em) (c:∀b G' H',fx H H'->RH i G' H'->Qm b G'->Q b H')
abbrev tTt(X:Cx)(i:Inf)(Φ:O.Fs)(m:O.Tt):TT:=tTtx X i Φ m
variable {e:Expr}
def _root_.L2.PE.imp(h:PE X e t)(f:∀σ H Q,t' σ H Q->t σ H Q):PE X e t':=λÂ s σ H Q I q=>h Â s σ H Q I (f σ H Q q)
def _root_.L2.PT.imp(h:PT X e t)(f:∀σ H Q,t' σ H Q->t σ H Q):PT X e t':=λÂ s σ H Q I q=>h Â s σ H Q I (f σ H Q q)
def _root_.L2.PW.imp(h:PW X e t)(f:∀σ H Q,t' σ H Q->t σ H Q):PW X e t':=λwh Â s σ H Q I q=>h wh Â s σ H Q I (f σ H Q q)
def _root_.L2.PA.imp{t t':TA}(h:PA X es t)(f:∀σ H Q,t' σ H Q->t σ H Q):PA X es t':=λpos Â s σ H Q I q=>h pos Â s σ H Q I (f σ H Q q)
variable {j:Nat}
def RU{env:O.Env}{h:O.Hs}{Q:O.Q1}{E:O.XQ}:(O.wE Φ (.var j) env h Q E)=(O.go (O.getV env j) λv=>Q v h):=rfl
def eZ{α:Type}{o:Option α}{k:α->Prop}(h:O.go o k):∃a,o=eQ a/\k a:=by
 cases o with
 |none=>simp at h
 |some a=>exact⟨a,rfl,⇑h⟩
def BK(h:O.getV env j=eQ v):env[j]?=eQ (eQ v):=by
 unfold O.getV at h;split at h
 .rename_i u e;cases h;exact e
 .cases h
variable {pos:Pos}
def Q4(hN:X.N[j]?=eQ x)(hv:Vis X.env.scope x)(hd:(x==("__debug__" : Str))=eV)(aP:(x==("__classdict__" : Str))=eV):PE X (.Name x pos) (tE X i Φ<|.var j) :=
 (Cg hN hv hd aP).imp λσ H Q ⟨env,G,Qm,Em,p,w,c⟩=>by rw[RU]at w;let⟨v,e,q⟩:=eZ w;let⟨y,h1,h2⟩:=p.en.get j v<|BK e;exact⟨y,h1,c v G H y (fx.refl H) p.hp h2 q⟩
def Jg(h:PE X e<|tC x)(r:∀H,RV i.K H v x):PE X e (tE X i Φ<|.cst v) :=
 h.imp λσ H Q ⟨env,G,Qm,Em,p,w,c⟩=>by exact c v G H x (fx.refl H) p.hp (r H) w
def L1(h:PE X e<|tC x)(r:∀H,RV i.K H v x):PE X e (tE X i Φ<|.glob y v) :=
 h.imp λσ H Q ⟨env,G,Qm,Em,p,w,c⟩=>by exact c v G H x (fx.refl H) p.hp (r H) w
variable {a:O.E}
def two{b:O.E}{env:O.Env}{F:O.Val->O.Val->O.Hs->Prop}{R:V->V->Hp->Prop}(p:Pre X i σ H env G Em)
  (w:O.wE Φ a env G (λv G1=>O.wE Φ b env G1 (λu G2=>F v u G2) Em) Em)
  (h:∀v u G2 H2 x y,fx H H2->Pre X i σ H2 env G2 Em->RV i.K H2 v x->RV i.K H2 u y->F v u G2->R x y H2):tE X i Φ a σ H λx H1=>tE X i Φ b σ H1 λy H2=>R x y H2 :=
 ⟨env,G,_,Em,p,w,λv G1 H1 x k1 g1 r1 w1=>⟨env,G1,_,Em,p.go k1 g1,w1,λu G2 H2 y k2 g2 r2 w2=>h v u G2 H2 x y (k1.trans k2) ((p.go k1 g1).go k2 g2) (r1.keep k2) r2 w2⟩⟩
def one{env:O.Env}{F:O.Val->O.Hs->Prop}{R:V->Hp->Prop}(p:Pre X i σ H env G Em)
  (w:O.wE Φ a env G (λv G1=>F v G1) Em) (h:∀v G1 H1 x,fx H H1->Pre X i σ H1 env G1 Em->RV i.K H1 v x->F v G1->R x H1):tE X i Φ a σ H λx H1=>R x H1 :=
 ⟨env,G,_,Em,p,w,λv G1 H1 x k1 g1 r1 w1=>h v G1 H1 x k1 (p.go k1 g1) r1 w1⟩
abbrev JG(i:Inf)(op:O.Bop)(r:R2):Prop:=∀(v u:O.Val) (G:O.Hs) (H:Hp) (x y:V) (Q:VK) (Qm:O.Q1),RH i G H->RV i.K H v x->RV i.K H u y->(O.binV G op v u).wp G Qm->Cn i H Q Qm->r x y H Q
variable {b:Expr}{ma:O.E}{mb:O.E}{r:R2}
def Mi{a:Expr}{bop:O.Bop}(ho:OpR X (ō op) r)(hr:JG i bop r)(ha:PE X a<|tE X i Φ ma)(hb:PE X b<|tE X i Φ mb):PE X (.BinOp a op b pos) (tE X i Φ<|.bin bop ma mb) :=
 (R9 ho ha hb).imp λσ H Q ⟨env,G,Qm,Em,p,w,c⟩=>by exact two p w λv u G2 H2 x y k2 p2 rx ry q=>hr v u G2 H2 x y Q Qm p2.hp rx ry q<|c.go k2
abbrev Z4(i:Inf)(op:O.Cop)(r:R2):Prop:=∀(v u:O.Val) (G:O.Hs) (H:Hp) (x y:V) (c:Bool) (Q:VK),RH i G H->RV i.K H v x->RV i.K H u y->O.fu G op v u=eQ c->Q (.bl c) H->r x y H Q
def QS{a:Expr}(ho:OpR X (ñ op) r)(hr:Z4 i cop r)(ha:PE X a<|tE X i Φ ma)(hb:PE X b<|tE X i Φ mb)(hm:ŀ op b=eV):PE X (.Compare a [op] [b] pos) (tE X i Φ<|.cmp cop ma mb) :=
 (U5 ho ha hb hm).imp λσ H Q ⟨env,G,Qm,Em,p,w,c⟩=>by
  exact two p w λv u G2 H2 x y k2 p2 rx ry q=>by let⟨d,e,q⟩:=eZ q;exact hr v u G2 H2 x y d Q p2.hp rx ry e<|c (.bl d) G2 H2 (.bl d) k2 p2.hp (.bl d) q
def QF{a:Expr}(ho:OpR X (ñ op) r)(hr:Z4 i cop r)(ha:PE X a<|tE X i Φ ma)(hb:PE X b<|tE X i Φ mb)(hm:ŀ op b=eV):PT X (.Compare a [op] [b] pos) (tTt X i Φ<|.val<|.cmp cop ma mb) :=
 (UZ ho ha hb hm).imp λσ H Q ⟨env,G,Qm,Em,p,w,c⟩=>by
  exact two p w λv u G2 H2 x y k2 p2 rx ry q=>by let⟨d,e,q⟩:=eZ q;let⟨d',e',q⟩:=eZ q;cases e';exact hr v u G2 H2 x y d _ p2.hp rx ry e ⟨d,rfl,c d G2 H2 k2 p2.hp q⟩
def WG{v:O.Val}{b:Bool}(h:O.gk v=eQ b):v=.bl b:=by cases v<;>simp_all [O.gk]
def ZS{v:O.Val}{b:Int}(h:O.gj v=eQ b):v=.int b:=by cases v<;>simp_all [O.gj]
def XX{v:O.Val}{b:O.Ad}(h:O.fJ v=eQ b):v=.ref b:=by cases v<;>simp_all [O.fJ]
def RV.bl_inv{K:Frag}{b:Bool}(r:RV K H (.bl b) x):x=.bl b:=by cases r;rfl
def RV.int_inv{K:Frag}{b:Int}(r:RV K H (.int b) x):x=.int b:=by cases r;rfl
def RV.ref_inv{K:Frag}{b:Ì}(r:RV K H (.ref b) x):x=.ref b:=by cases r;rfl
def RV.str_inv{K:Frag}{b:String}(r:RV K H (.str b) x):x=.str (gC b):=by cases r;rfl
def RV.non_inv{K:Frag}(r:RV K H .non x):x=.non:=by cases r;rfl
def Sw{a:Expr}(ha:PE X a<|tE X i Φ ma):PE X (.UnaryOp .Not a pos) (tE X i Φ<|.not ma) :=
 (Lu ha).imp λσ H Q ⟨env,G,Qm,Em,p,w,c⟩=>by
  exact one p w λv G1 H1 x k1 p1 r q=>by let⟨b,e,q2⟩:=eZ q;clear q;cases WG e;exact⟨b,r.bl_inv,c _ G1 H1 _ k1 p1.hp (.bl _) q2⟩
def RW{a:Expr}(ha:PE X a<|tE X i Φ ma):PE X (.UnaryOp .USub a pos) (tE X i Φ<|.neg ma) :=
 (Ii Da ha).imp λσ H Q ⟨env,G,Qm,Em,p,w,c⟩=>by
  exact one p w λv G1 H1 x k1 p1 r q=>by let⟨b,e,q2⟩:=eZ q;clear q;cases ZS e;exact⟨b,r.int_inv,c _ G1 H1 _ k1 p1.hp (.int _) q2⟩
def Rk{a:Expr}{rest:List Expr}(ha:PE X a<|tE X i Φ ma)(hb:PE X (.BoolOp .And (b::rest) pos)<|tE X i Φ mb):PE X (.BoolOp .And (a::b::rest) pos) (tE X i Φ<|.and ma mb) :=
 (Py ha hb).imp λσ H Q ⟨env,G,Qm,Em,p,w,c⟩=>by
  exact one p w λv G1 H1 x k1 p1 r q=>by
   let⟨d,e,q2⟩:=eZ q;clear q;cases WG e;refine⟨d,r.bl_inv,?_⟩;cases d with
   |true=>exact⟨env,G1,Qm,Em,p1,⇑q2,c.go k1⟩
   |false=>simp at q2 ⊢;exact c _ G1 H1 _ k1 p1.hp (.bl _) q2
def ST{a:Expr}{rest:List Expr}(ha:PE X a<|tE X i Φ ma)(hb:PE X (.BoolOp .Or (b::rest) pos)<|tE X i Φ mb):PE X (.BoolOp .Or (a::b::rest) pos) (tE X i Φ<|.or ma mb) :=
 (RN ha hb).imp λσ H Q ⟨env,G,Qm,Em,p,w,c⟩=>by
  exact one p w λv G1 H1 x k1 p1 r q=>by
   let⟨d,e,q2⟩:=eZ q;clear q;cases WG e;refine⟨d,r.bl_inv,?_⟩;cases d with
   |false=>exact⟨env,G1,Qm,Em,p1,⇑q2,c.go k1⟩
   |true=>simp at q2 ⊢;exact c _ G1 H1 _ k1 p1.hp (.bl _) q2
def L7{a:Expr}{ma:O.Tt}(ha:PT X a<|tTt X i Φ ma):PT X (.UnaryOp .Not a pos) (tTt X i Φ<|.not ma) :=
 (IZ ha).imp λσ H Q ⟨env,G,Qm,Em,p,w,c⟩=>by exact⟨env,G,_,Em,p,w,λb G1 H1 k1 g1 q=>c (!b) G1 H1 k1 g1 q⟩
def Qr{a:Expr}{rest:List Expr}{ma mb:O.Tt}(ha:PT X a<|tTt X i Φ ma)(hb:PW X (.BoolOp .And (b::rest) pos)<|tTt X i Φ mb):PW X (.BoolOp .And (a::b::rest) pos) (tTt X i Φ<|.and ma mb) :=
 (QE ha hb).imp λσ H Q ⟨env,G,Qm,Em,p,w,c⟩=>by
  refine⟨env,G,_,Em,p,w,λd G1 H1 k1 g1 q=>?_⟩;cases d with
  |true=>exact⟨env,G1,Qm,Em,p.go k1 g1,⇑q,λb G2 H2 k2=>c b G2 H2<|k1.trans k2⟩
  |false=>simp at q ⊢;exact c eV G1 H1 k1 g1 q
def QW{a:Expr}{rest:List Expr}{ma mb:O.Tt}(ha:PT X a<|tTt X i Φ ma)(hb:PW X (.BoolOp .Or (b::rest) pos)<|tTt X i Φ mb):PW X (.BoolOp .Or (a::b::rest) pos) (tTt X i Φ<|.or ma mb) :=
 (RG ha hb).imp λσ H Q ⟨env,G,Qm,Em,p,w,c⟩=>by
  refine⟨env,G,_,Em,p,w,λd G1 H1 k1 g1 q=>?_⟩;cases d with
  |false=>exact⟨env,G1,Qm,Em,p.go k1 g1,⇑q,λb G2 H2 k2=>c b G2 H2<|k1.trans k2⟩
  |true=>simp at q ⊢;exact c eU G1 H1 k1 g1 q
def Fz{a:Expr}{ma:O.Tt}(ha:PT X a<|tTt X i Φ ma):PW X (.BoolOp .And [a] pos)<|tTt X i Φ ma:=GZ ha
def Lb{a:Expr}{ma:O.Tt}(ha:PT X a<|tTt X i Φ ma):PW X (.BoolOp .Or [a] pos)<|tTt X i Φ ma:=LR ha
def RB{c a:Expr}{mc:O.Tt}(hc:PT X c<|tTt X i Φ mc)(ha:PE X a<|tE X i Φ ma)(hb:PE X b<|tE X i Φ mb):PE X (.IfExp c a b pos) (tE X i Φ<|.ife mc ma mb) :=
 (Dn hc ha hb).imp λσ H Q ⟨env,G,Qm,Em,p,w,c⟩=>by
  refine⟨env,G,_,Em,p,w,λd G1 H1 k1 g1 q=>?_⟩;cases d with
  |true=>exact⟨env,G1,Qm,Em,p.go k1 g1,⇑q,c.go k1⟩
  |false=>exact⟨env,G1,Qm,Em,p.go k1 g1,⇑q,c.go k1⟩
def P4:PA X []<|tAr X i Φ .nil 0:=f7.imp λσ H Q ⟨env,G,Qm,Em,p,w,c⟩=>by exact c [] G H [] (fx.refl H) p.hp .nil rfl w
def GY(he:PE X e<|tE X i Φ m)(hes:PA X es<|tAr X i Φ ms n)(hs:à (e::es) X.env=(eV,eval e X.env)::à es X.env):PA X (e::es) (tAr X i Φ (.cons m ms)<|n+1) :=
 (YE he hes hs).imp λσ H Q ⟨env,G,Qm,Em,p,w,c⟩=>by exact⟨env,G,_,Em,p,w,λv G1 H1 x k1 g1 r1 w1=>⟨env,G1,_,Em,p.go k1 g1,w1,λvs G2 H2 xs k2 g2 r2 hn w2=>c (v::vs) G2 H2 (x::xs) (k1.trans k2) g2 (.cons (r1.keep k2) r2) (by rw[Ð,hn]) w2⟩⟩
def Ye:O.lim<=Þ:=by decide
def ZW{o:O.Ob}{u:HO}(g:RH i G H)(w:O.new G o Qm)(c:Cn i H Q Qm)(r:∀p,H p=eS->RO i (upd H p u) p o):∀p,H p=eS->Q (.ref p) (upd H p u):=λp hp=>by unfold O.new at w;exact c (.ref p) _ _ (.ref p) (fx.new hp) (g.put (fx.new hp)<|r p hp) (.ref p) (w p<|g.free hp)
end Snd
namespace HT2
open PySem PySem.Spec PyProof.Rows L2
abbrev Yg:List Int->List Int->Bool
 |[],[]=>eV
 |[],_::_=>eV
 |_::_,[]=>eU
 |x::xs,y::ys=>if x=y then Yg xs ys else gB (x > y)
def C9(A:Đ)(s:Ç)(a:Int)(t:Tok)(c:Int)(u:Tok)(prog:ç)(w:ă)(E:Ã->Ç->Prop)(Q:Ã->Ç->Prop)(h:Q (.bool<|gB (a > c)) s) :
  wpAny (ß prog w) A (richCompare .Gt (.int a t)<|.int c u) Q E s :=
 (PyProof.Rows.gt_int h:wpAny (ß prog w) A (ñ .Gt (.int a t)<|.int c u) Q E s)
section
open PySem.SeqAt
open PySem.AutoSeq1 (wpAny_loadPart')
open PySem.MeetsSeq PySem.MeetsSeq2 PySem.MeetsSeq3
def KG(l b:Ì)(items ņ:Array Ã)(n n2:Nat)(dd cZ:Option Ì)(sl dX:Array<|Option Ã)(ns ms:List Int)(hi:ą items.toList ns)(hj:ą ņ.toList ms) :
  Meets (Builtin.«tuple.__gt__» ⟨[.ref l,.ref b],[]⟩)
   (λ_ R s=>s.heap.get? l=eQ { cls:=.type "tuple",dict:=dd,data:=.seq items n,slots:=sl }/\s.heap.get? b=eQ { cls:=.type "tuple",dict:=cZ,data:=.seq ņ n2,slots:=dX }/\
     R (.ok<|.ret<|.bool<|Yg ns ms) s) :=
 .of_wp λprog w A R s h=>by
  let⟨hp,g,d,tk,os⟩:=s;let⟨hl,hb,h⟩:=h;have f2:=AutoSeq1.sub_tuple_tuple;have z1:items.size=ns.length:=by rw[<-hi.length];simp
  have z2:ņ.size=ms.length:=by rw[<-hj.length];simp
  wp_walk using Ĥ hl,Ĥ hb,wpAny_forIn_list _ (λrest b s'=>b.1=eS/\s'=⟨hp,g,d,tk,os⟩/\∃(vs ws:List Ã) (cp dy:List Int),rest=vs.zip ws/\
    ą vs cp/\ą ws dy/\cp.length+ņ.size=dy.length+items.size/\R (.ok<|.ret<|.bool<|Yg cp dy) ⟨hp,g,d,tk,os⟩) _
  case turn =>
   rintro⟨y,x⟩ rest b s' ⟨bK,rfl,vs,ws,cp,dy,hz,hvi,hwi,hlen,hR⟩;cases hvi with
   |nil=>rw[Ο]at hz;cases hz
   |cons a t hvi' =>
    cases hwi with
    |nil=>rw[Α]at hz;cases hz
    |cons c u hwi' =>
     rw[ŕ]at hz;injection hz with hyx hrest;injection hyx with hy hx;subst hy hx;rw[Yg]at hR;simp![Ð]at hlen;let⟨e,he,hiff⟩:=HT.eqAt_int A.in1 ⟨hp,g,d,tk,os⟩ a t c u;refine À<|he prog w _ _ ?_;cases e with
     |true =>
      rw[gu<|hiff.mp rfl]at hR
      wp_walk
      exact⟨rfl,rfl,_,_,_,_,hrest,hvi',hwi',by lia,hR⟩
     |false =>
      rw[gw λq=>gA (hiff.mpr q) û]at hR;have hri:=C9 A.in1 ⟨hp,g,d,tk,os⟩ a t c u prog w
      wp_walk using hri
      exact⟨_,rfl,⇑hR⟩
  case fin =>
   rintro⟨b1,b2⟩ s' ⟨bK,rfl,vs,ws,cp,dy,hz,hvi,hwi,hlen,hR⟩;simp only at bK;subst bK;have hv:Yg cp dy=gB (items.size > ņ.size):=by
    cases hvi with
    |nil =>
     cases hwi with
     |nil =>simp![ī]at hlen;rw[Yg];exact(gx<|by lia).symm
     |cons c u hw =>simp![ī,Ð]at hlen;rw[Yg];exact(gx<|by lia).symm
    |cons a t hv =>
     cases hwi with
     |nil =>simp![ī,Ð]at hlen;rw[Yg];exact(gy<|by lia).symm
     |cons c u hw =>rw[ŕ]at hz;cases hz
   rw[hv]at hR
   wp_walk
   exact⟨_,rfl,by simpa[Builtin.Tuple.tupleCompareSizes]using hR⟩
  case h =>exact⟨rfl,rfl,items.toList,ņ.toList,ns,ms,rfl,hi,hj,by lia,h⟩
end
def UF(hl:bb s.heap l items)(hb:bb s.heap b ņ)(hi:ą items.toList ns)(hj:ą ņ.toList ms)(hu:A.units<Ģ)(h:Q (.bool<|Yg ns ms) s):wpAny (ß prog w) A (ñ .Gt (.ref l)<|.ref b) Q E s:=by
 let⟨⟨cls,dd,data,sl⟩,ho,hc,n,hd⟩:=id hl;let⟨⟨cls2,cZ,data2,dX⟩,ho2,hc2,n2,bT⟩:=id hb;simp only at hc hd hc2 bT;subst hc hd hc2 bT;exact d7 (op:=.Gt) ⟨_,ho,rfl⟩ ⟨_,ho2,rfl⟩ PySem.F.slot_tuple_gt PySem.F.entry_tuple_gt (PySem.F.args_tuple_gt_2 _ _) (KG l b items ņ n n2 dd cZ sl dX ns ms hi hj)
  ⟨ho,ho2,show Value.bool (Yg ns ms)≠cC/\Q (.bool<|Yg ns ms) s from ⟨(λx=>nomatch x),h⟩⟩ hu
abbrev rGtT(K:Frag):R2:=λx y H Q=>∃a b ns ms,x=.ref a/\y=.ref b/\gc K H a (ns.map V.int)/\gc K H b (ms.map V.int)/\Q (.bl<|Yg ns ms) H
def op_gtT(hu:X.A.units<Ģ):OpR X (ñ .Gt)<|rGtT X.K:=by k_ne;let⟨a,b,ns,ms,rfl,rfl,ha,hb,q⟩:=h;cases rx;cases ry;let⟨ø,r1,p1,_⟩:=I.tuple ha;let⟨bw,r2,p2,_⟩:=I.tuple hb;have i1:ą ø.toArray.toList ns:=Zz r1;have i2:ą bw.toArray.toList ms:=Zz r2;exact UF p1 p2 i1 i2 hu ⟨.bl<|Yg ns ms,H,I,rfl,q⟩
def lexGt_lt:∀(ns ms:List Int),Yg ns ms=HT.lexLt ms ns
 |[],[]=>rfl
 |[],_::_=>rfl
 |_::_,[]=>rfl
 |x::xs,y::ys=>by
  rw[Yg,HT.lexLt_cons,lexGt_lt xs ys];by_cases e:x=y
  .rw[gu e,gu e.symm]
  .rw[gw e,gw λz=>e z.symm]
end HT2
namespace Snd
open PySem L2
mutual
noncomputable def toD:O.D->ae
 |.non=>.none
 |.bl b=>.bool b
 |.int i=>.int i
 |.str s=>.str<|gC s
 |.tup ds=>.tuple<|toDs ds
 |.lst ds=>.list<|toDs ds
noncomputable def toDs:List O.D->List ae
 |[]=>[]
 |d::ds=>toD d::toDs ds
end
def ofS_inj:gC s=gC t↔s=t:=by
 constructor
 .intro h;rw[Str.ofString_eq_toList,Str.ofString_eq_toList]at h;injection h with h;have h2:s.toList.map ť=t.toList.map ť:=by simpa using congrArg bX h
  have inj:∀{a b:Char},a.toNat=b.toNat->a=b:=λ{a b} e=>Char.ext<|bQ e;have:s.toList=t.toList:=by
   revert h2;generalize s.toList=a;generalize t.toList=b;intro h2;induction a generalizing b with
   |nil=>cases b with
    |nil=>rfl
    |cons _ _=>cases h2
   |cons x xs ih=>cases b with
    |nil=>cases h2
    |cons y ys =>simp![Ñ,List.cons.injEq]at h2;rw[inj h2.1,ih _ h2.2]
  exact String.toList_inj.mp this
 .rintro rfl;rfl
def FS(s t:String):(gC s==gC t)=(s==t):=by
 by_cases e:s=t
 .subst e;simp
 .have:gC s≠gC t:=λz=>e<|ofS_inj.mp z;rw[beq_eq_false_iff_ne.mpr this,beq_eq_false_iff_ne.mpr e]
def AW(s:String):PyData.strOk (gC s)=eU:=by
 rw[Str.ofString_eq_toList];unfold PyData.strOk;rw[Array.all_eq_true'];intro n hn;have:n∈s.toList.map ť:=⇑hn
 let⟨c,_,rfl⟩:=Ô.mp this;have:=c.valid;have h2:c.toNat=c.val.toNat:=rfl;simp![UInt32.isValidChar,Nat.isValidChar]at this;simp![gz];lia
mutual
theorem MN:∀d e:O.D,İ (toD d) (toD e)=O.D.eqv d e
 |.non,e=>by cases e<;>simp[toD,İ,O.D.eqv]
 |.bl _,e=>by cases e<;>simp[toD,İ,O.D.eqv]
 |.int _,e=>by cases e<;>simp[toD,İ,O.D.eqv]
 |.str s,e=>by cases e<;>simp![toD,İ,O.D.eqv];exact FS _ _
 |.tup ds,e=>by cases e<;>simp![toD,İ,O.D.eqv];exact toDs_eqv _ _
 |.lst ds,e=>by cases e<;>simp![toD,İ,O.D.eqv];exact toDs_eqv _ _
theorem toDs_eqv:∀ds es:List O.D,Ν (toDs ds) (toDs es)=O.D.eqvs ds es
 |[],[]=>by simp[toDs,Ν,O.D.eqvs]
 |[],_::_=>by simp[toDs,Ν,O.D.eqvs]
 |_::_,[]=>by simp[toDs,Ν,O.D.eqvs]
 |d::ds,e::es=>by simp![toDs,Ν,O.D.eqvs,MN d e,toDs_eqv ds es]
end
mutual
theorem MW:∀d:O.D,(toD d).canLay0=eU
 |.non=>by simp[toD,ŵ]
 |.bl _=>by simp[toD,ŵ]
 |.int _=>by simp[toD,ŵ]
 |.str s=>by simp![toD,ŵ];exact AW s
 |.tup ds=>by simp![toD,ŵ];exact toDs_lay ds
 |.lst ds=>by simp![toD,ŵ];exact toDs_lay ds
theorem toDs_lay:∀ds:List O.D,Ś (toDs ds)=eU
 |[]=>by simp[toDs,Ś]
 |d::ds=>by simp![toDs,Ś,MW d,toDs_lay ds,Bool.and_self]
end
section
variable {i:Inf}
def BE{α β:Type}{f:α->Option β}:∀{xs:List α}{ys:List β},xs.mapM f=eQ ys->List.length xs=ys.length/\∀(n:Nat) (x:α),xs[n]?=eQ x->∃y,ys[n]?=eQ y/\f x=eQ y:=by
 intro xs;induction xs with
 |nil=>intro ys h;simp at h;subst h;exact⟨rfl,λn x e=>by simp at e⟩
 |cons a as ih =>
  intro ys h;rw[Γ]at h;cases e:f a with
  |none=>rw[e]at h;simp at h
  |some b =>
   rw[e]at h;cases e2:as.mapM f with
   |none=>rw[e2]at h;simp at h
   |some bs =>
    rw[e2]at h;simp at h;subst h;let⟨h1,h2⟩:=ih e2;refine⟨by simp[h1],λn x hn=>?_⟩;cases n with
    |zero=>simp at hn;subst hn;exact⟨b,rfl,e⟩
    |succ n=>simp at hn ⊢;exact h2 n x hn
def AC{K:Frag}(hf:∀v d x,f v=eQ d->RV K H v x->IsD K H x (toD d)):∀{vs:List O.Val}{xs:List V}{ds:List O.D},vs.mapM f=eQ ds->RVs K H vs xs->IsDs K H xs (toDs ds):=by
 intro vs;induction vs with
 |nil=>intro xs ds h r;simp at h;subst h;cases r;exact .nil
 |cons a as ih =>
  intro xs ds h r;rw[Γ]at h;cases e:f a with
  |none=>rw[e]at h;simp at h
  |some b =>
   rw[e]at h;cases e2:as.mapM f with
   |none=>rw[e2]at h;simp at h
   |some bs =>
    rw[e2]at h;simp at h;subst h;cases r with
    |cons r1 r2=>exact .cons (hf a b _ e r1)<|ih e2 r2
def ZE(g:RH i G H){a:Ì}{xs:List O.Val}(e:O.fj (G a)=eQ xs):∃vs,f9 i.K H a vs/\RVs i.K H xs vs:=by
 cases q:G a with
 |none=>rw[q]at e;cases e
 |some o =>
  rw[q]at e;cases o with
  |lst ys=>cases e;let⟨vs,h,r⟩:=g a _ q;exact⟨vs,f9.of h,r⟩
  |dct _=>cases e
  |ins _ _=>cases e
  |exc _=>cases e
  |frz _=>cases e
  |dtp _=>cases e
def K7:∀ns:List Int,toDs (ns.map O.D.int)=ns.map PyData.int
 |[]=>by simp[toDs]
 |n::ns=>by simp![Ñ,toDs,toD,K7 ns]
def Ww(g:RH i G H):∀(n:Nat) (v:O.Val) (d:O.D) (x:V),O.dat G n v=eQ d->RV i.K H v x->IsD i.K H x (toD d):=by
 intro n;induction n with
 |zero =>
  intro v d x e r;cases v with
  |non=>cases r;simp[O.dat]at e;subst e;rw[toD];exact .non
  |bl b=>cases r;simp[O.dat]at e;subst e;rw[toD];exact .bl b
  |int b=>cases r;simp[O.dat]at e;subst e;rw[toD];exact .int b
  |str s=>cases r;simp[O.dat]at e;subst e;rw[toD];exact .str _
  |tup xs=>simp[O.dat]at e
  |ref a=>simp[O.dat]at e
  |scr ns=>simp[O.dat]at e
  |key _ _=>simp[O.dat]at e
 |succ n ih =>
  intro v d x e r;cases v with
  |non=>cases r;simp[O.dat]at e;subst e;rw[toD];exact .non
  |bl b=>cases r;simp[O.dat]at e;subst e;rw[toD];exact .bl b
  |int b=>cases r;simp[O.dat]at e;subst e;rw[toD];exact .int b
  |str s=>cases r;simp[O.dat]at e;subst e;rw[toD];exact .str _
  |tup xs =>
   rw[O.dat]at e;cases z:xs.mapM (O.dat G n)with
   |none=>rw[z]at e;cases e
   |some ds =>
    rw[z]at e;cases e;cases r with
    |tup hp hr=>rw[toD];exact .tup (Zj hp)<|AC ih z hr
  |ref a =>
   rw[O.dat]at e;cases q:O.fj (G a)with
   |none=>rw[q]at e;cases e
   |some xs =>
    rw[q]at e;simp![î]at e;cases z:xs.mapM (O.dat G n)with
    |none=>rw[z]at e;cases e
    |some ds =>rw[z]at e;cases e;cases r.ref_inv;let⟨vs,h1,h2⟩:=ZE g q;rw[toD];exact .lst h1<|AC ih z h2
  |scr ns =>
   simp[O.dat]at e;subst e;cases r with
   |scr h =>rw[toD,K7];exact .lst (Z8 h)<|IsDs.ints ns
  |key _ _=>simp[O.dat]at e
def X5:∀{ds:List O.D},(∀d∈ds,(toD d).depth<=n)->ł (toDs ds)<=n
 |[],_=>by rw[toDs];simp[ł]
 |d::ds,h=>by rw[toDs];simp![ł];exact Nat.max_le.mpr ⟨h d (by simp),X5 λe he=>h e<|by simp[he]⟩
def Mb:∀(n:Nat) (v:O.Val) (d:O.D),O.dat G n v=eQ d->(toD d).depth<=n:=by
 have sc:∀(n:Nat) (v:O.Val) (d:O.D),(∀xs,v≠.tup xs)->(∀a,v≠.ref a)->(∀ns,v≠.scr ns)->O.dat G n v=eQ d->(toD d).depth<=n:=by
  intro n v d h1 h2 h3 e;cases v with
  |tup xs=>exact gA rfl<|h1 xs
  |ref a=>exact gA rfl<|h2 a
  |scr ns=>exact gA rfl<|h3 ns
  |key _ _=>cases n<;>simp[O.dat]at e
  |_=>simp[O.dat]at e;subst e;simp[toD,PyData.depth]
 have ms:∀(n:Nat),(∀v d,O.dat G n v=eQ d->(toD d).depth<=n)->∀(xs:List O.Val) (ds:List O.D),xs.mapM (O.dat G n)=eQ ds->ł (toDs ds)<=n:=by
  intro n ih xs ds z;refine X5 λd hd=>?_;let⟨k,hk⟩:=cG.mp hd;let⟨h1,h2⟩:=BE z;have Ϝ:k<xs.length:=by rw[h1];exact(Ë.mp hk).1
  let⟨y,hy,hf⟩:=h2 k xs[k]<|È Ϝ;rw[hk]at hy;cases hy;exact ih _ _ hf
 intro n;induction n with
 |zero =>
  intro v d e;cases v with
  |tup xs=>simp[O.dat]at e
  |ref a=>simp[O.dat]at e
  |scr ns=>simp[O.dat]at e
  |_=>exact sc 0 _ d (by simp) (by simp) (by simp) e
 |succ n ih =>
  intro v d e;cases v with
  |tup xs =>
   rw[O.dat]at e;cases z:xs.mapM (O.dat G n)with
   |none=>rw[z]at e;cases e
   |some ds =>rw[z]at e;cases e;rw[toD];exact ώ<|ms n ih xs ds z
  |ref a =>
   rw[O.dat]at e;cases q:O.fj (G a)with
   |none=>rw[q]at e;cases e
   |some xs =>
    rw[q]at e;simp![î]at e;cases z:xs.mapM (O.dat G n)with
    |none=>rw[z]at e;cases e
    |some ds =>rw[z]at e;cases e;rw[toD];exact ώ<|ms n ih xs ds z
  |scr ns =>simp[O.dat]at e;subst e;rw[toD];refine ώ<|Ö ?_<|ģ n;refine X5 λd hd=>?_;let⟨m,_,rfl⟩:=Ô.mp hd;simp[toD,PyData.depth]
  |_=>exact sc (n+1) _ d (by simp) (by simp) (by simp) e
def JN(e:O.dat G O.deep v=eQ d):SeqAt.shaped (toD d)=eU:=by show((toD d).canLay0&&gB ((toD d).depth<=64))=eU;rw[MW,gy<|Ö (Mb _ _ _ e)<|by decide];rfl
def Ax(g:RH i G H)(rx:RV i.K H v x)(ry:RV i.K H u y)(e:O.eqV G v u=eQ c):∃d d',IsD i.K H x d/\IsD i.K H y d'/\SeqAt.shaped d=eU/\SeqAt.shaped d'=eU/\İ d d'=c:=by
 unfold O.eqV at e;cases z:O.dat G O.deep v with
 |none=>rw[z]at e;cases e
 |some d =>
  cases z2:O.dat G O.deep u with
  |none=>rw[z,z2]at e;cases e
  |some d' =>rw[z,z2]at e;cases e;exact⟨_,_,Ww g _ _ _ _ z rx,Ww g _ _ _ _ z2 ry,JN z,JN z2,MN d d'⟩
def Te:Z4 i .eq<|RS i.K:=by k_get;let⟨d,d',h1,h2,h3,h4,h5⟩:=Ax g rx ry e;exact⟨d,d',h1,h2,h3,h4,by rw[h5];exact q⟩
def S4:Z4 i .ne<|QL i.K:=by
 k_get;have e:(O.eqV G v u).map (!·)=eQ c:=e;cases z:O.eqV G v u with
 |none=>rw[z]at e;cases e
 |some b =>rw[z]at e;cases e;let⟨d,d',h1,h2,h3,h4,h5⟩:=Ax g rx ry z;exact⟨d,d',h1,h2,h3,h4,by rw[h5];exact q⟩
end
variable {i:Inf}
def ZG(s:String):(gC s).length=s.length:=by rw[Str.ofString_eq_toList];show(List.map ť s.toList).toArray.size=_;rw[Î,Á];first|rfl|exact cb
def Hf(s t:String):gC (s++t)=gC s++gC t:=by rw[Str.ofString_eq_toList,Str.ofString_eq_toList,Str.ofString_eq_toList];show _=Str.append _ _;unfold Str.append;simp
def Bf(h:O.fj o=eQ xs):o=eQ (.lst xs):=by
 cases o with
 |none=>cases h
 |some o=>cases o with
  |lst ys=>cases h;rfl
  |_=>cases h
variable {p:Prop}
def Zg{α:Type}[Decidable p]{o:Option α}{a:α}(e:(if p then o else eS)=eQ a):p/\o=eQ a:=by
 by_cases q:p
 .rw[gu q]at e;exact⟨q,e⟩
 .rw[gw q]at e;cases e
variable {h:O.Hs}
def Zl(w:O.Rs.no.wp h Q):False:=by rw[O.Rs.wp_no]at w;exact w
def Zq(w:(O.Rs.val v).wp h Q):Q v h:=by rw[O.Rs.wp_val]at w;exact w
def Ku(w:(O.Rs.new o).wp h Q):O.new h o Q:=by rw[O.Rs.wp_new]at w;exact w
def Wi[Decidable p]{r:O.Rs}(w:(if p then r else .no).wp h Q):p/\r.wp h Q:=by
 by_cases e:p
 .rw[gu e]at w;exact⟨e,w⟩
 .rw[gw e]at w;exact(Zl w).elim
variable {u:O.Val}
def W2(w:(O.intV f v u).wp h Q):∃i j,v=.int i/\u=.int j/\(f i j).wp h Q:=by
 cases v with
 |int i=>cases u with
  |int j=>exact⟨i,j,rfl,rfl,w⟩
  |_=>exact(Zl w).elim
 |_=>exact(Zl w).elim
abbrev HS(K:Frag):R2:=λx y H Q=>(rI0 λi j=>.int<|i+j) x y H Q\/(((Ix K x y H Q\/HX K x y H Q)\/QJ x y H Q)\/∃i j,x=.str i/\y=.str j/\i.length+j.length<=Þ/\Q (.str<|i++j) H)
def Rl:OpR X (ō .Add)<|HS X.K:=op_add.or (((op_cat0.or GE).or IY).or UJ)
def b_add:JG i .add<|HS i.K:=by
 intro v u G H x y Q Qm g rx ry w c;cases v<;>cases u<;>first|exact(Zl w).elim|skip
 case int.int a b =>
  replace w:=Zq w
  exact .inl ⟨a,b,rx.int_inv,ry.int_inv,c _ G H _ (fx.refl H) g (.int _) w⟩
 case str.str a b =>
  let⟨h,w⟩:=Wi w
  replace w:=Zq w
  refine .inr<|.inr ⟨_,_,rx.str_inv,ry.str_inv,?_,?_⟩
  .rw[ZG,ZG];exact Ö h Ye
  .rw[<-Hf];exact c _ G H _ (fx.refl H) g (.str _) w
 case tup.tup xs ys =>
  let⟨h,w⟩:=Wi w
  replace w:=Zq w
  .skip
   cases rx with
   |@tup _ p vs hp hr =>
   cases ry with
   |@tup _ q us hq hs =>
   by_cases h0:vs=[]
   .subst h0;have:xs=[]:=aL hr.length;subst this;exact .inr<|.inl<|.inl<|.inl ⟨p,q,us,rfl,rfl,Zj hp,Zj hq,c _ G H _ (fx.refl H) g (.tup hq hs) w⟩
   refine .inr<|.inl<|.inl<|.inr ⟨p,q,vs,us,rfl,rfl,Zj hp,Zj hq,h0,?_,λz=>?_,λz a ha=>?_⟩
   .rw[<-hr.length,<-hs.length];exact Ö h Ye
   .have:ys=[]:=aL (by rw[hs.length,z];rfl);subst this;rw[ć]at w;exact c _ G H _ (fx.refl H) g (.tup hp hr) w
   .have k:=fx.new (o:=.tup<|vs++us) ha;refine c _ G _ _ k (g.hid k λb o e=>eW ?_) (.tup (.inl eX)<|(hr.keep k).append<|hs.keep k) w;rintro rfl;rw[g.free ha]at e;cases e
 case ref.ref a b =>
  dsimp only[O.binV,O.addV]at w;split at w
  .rename_i xs ys e1 e2;unfold O.Rs.lst at w;split at w
   .rename_i hl;rw[O.Rs.wp_new]at w;cases rx.ref_inv;cases ry.ref_inv;let⟨vs,h1,r1⟩:=g a _ e1;let⟨us,h2,r2⟩:=g b _ e2;refine .inr (.inl<|.inr ⟨a,b,vs,us,rfl,rfl,h1,h2,?_,ZW g w c λp hp=>?_⟩)
    .rw[<-r1.length,<-r2.length,<-í];exact Ö hl Ye
    .have k:=fx.new (o:=.lst<|vs++us) hp;exact⟨_,eX,(r1.keep k).append<|r2.keep k⟩
   .exact(Zl w).elim
  .exact(Zl w).elim
def b_sub:JG i .sub<|rI0 λi j=>.int<|i - j:=by intro v u G H x y Q Qm g rx ry w c;let⟨a,b,rfl,rfl,w⟩:=W2 w;exact⟨a,b,rx.int_inv,ry.int_inv,c _ G H _ (fx.refl H) g (.int _)<|Zq w⟩
def RVs.rep{K:Frag}{H:Hp}{vs:List O.Val}{xs:List V}(r:RVs K H vs xs):∀n,RVs K H (Û n vs).flatten (Û n xs).flatten
 |0=>.nil
 |n+1=>by rw[Ē,Ē,ň,ň];exact r.append<|RVs.rep r n
set_option exponentiation.threshold 2000 in
def Qs{i j:Int}(h:O.mulOk i j):IntMulOk i j:=by
 rcases h with(h|h)|⟨h1,h2⟩
 .exact .of_left (intBits_le_64 ↥0<|by lia)
 .exact .of_right (intBits_le_64 ↥0<|by lia)
 .have e:(10:Nat) ^ 200<2 ^ 1000:=by decide
  exact .of_bits (Ö (PyProof.Rows.intBits_le<|Õ h1 e)<|by decide) (Ö (PyProof.Rows.intBits_le<|Õ h2 e)<|by decide)
def FV(s:String)(n:Nat):PQ (gC s) n=gC (O.repT s n):=by unfold PQ O.repT;rw[Str.ofString_eq_toList,Str.ofString_eq_toList,ce];congr 1;apply ez.mp;rw[MD];simp[List.map_flatten,List.map_replicate]
abbrev IH:R2:=λx y H Q=>rI O.mulOk (λi j=>.int<|i*j) x y H Q\/(R4 x y H Q\/Id x y H Q)
def Sz:OpR X (ō .Mult) IH:=OpR.or (opI λ_ _ _ _ _ _ _ hc q=>PyProof.Rows.mul_int q<|Qs hc) (op_rep.or Fq)
def b_mul:JG i .mul IH:=by
 intro v u G H x y Q Qm g rx ry w c;cases v<;>cases u<;>first|exact(Zl w).elim|skip
 case int.int a b =>let⟨h,w⟩:=Wi w;exact .inl ⟨a,b,rx.int_inv,ry.int_inv,h,c _ G H _ (fx.refl H) g (.int _)<|Zq w⟩
 case ref.int a k =>
  dsimp only[O.binV,O.mulV]at w;split at w
  .rename_i xs e1;split at w
   .rename_i hk;unfold O.Rs.lst at w;split at w
    .rw[O.Rs.wp_new]at w;cases rx.ref_inv;cases ry.int_inv;let⟨vs,h1,r1⟩:=g a _ e1;refine .inr (.inl ⟨a,k,vs,rfl,rfl,h1,by lia,by lia,?_,ZW g w c λp hp=>?_⟩)
     .rw[<-r1.length];exact Ö hk.2.2 Ye
     .have kk:=fx.new (o:=.lst (Û k.toNat vs).flatten) hp;exact⟨_,eX,(r1.keep kk).rep _⟩
    .exact(Zl w).elim
   .exact(Zl w).elim
  .exact(Zl w).elim
 case str.int a k =>
  let⟨hk,w⟩:=Wi w
  replace w:=Zq w
  refine .inr (.inr ⟨_,k,rx.str_inv,ry.int_inv,hk.1,hk.2.1,by rw[ZG];exact hk.2.2.1,by rw[ZG];exact hk.2.2.2,?_⟩);rw[FV];exact c _ G H _ (fx.refl H) g (.str _) w
def b_fdiv:JG i .fdiv<|rI So λi j=>.int<|i / j:=by intro v u G H x y Q Qm g rx ry w c;let⟨a,b,rfl,rfl,w⟩:=W2 w;let⟨h,w⟩:=Wi w;exact⟨a,b,rx.int_inv,ry.int_inv,h,c _ G H _ (fx.refl H) g (.int _)<|Zq w⟩
def b_mod:JG i .mod<|rI (λ_ j=>0<j) λi j=>.int<|i % j:=by intro v u G H x y Q Qm g rx ry w c;let⟨a,b,rfl,rfl,w⟩:=W2 w;let⟨h,w⟩:=Wi w;exact⟨a,b,rx.int_inv,ry.int_inv,h,c _ G H _ (fx.refl H) g (.int _)<|Zq w⟩
def b_pow:JG i .pow<|rI RQ λi j=>.int<|i ^ j.toNat:=by intro v u G H x y Q Qm g rx ry w c;let⟨a,b,rfl,rfl,w⟩:=W2 w;let⟨h,w⟩:=Wi w;exact⟨a,b,rx.int_inv,ry.int_inv,h,c _ G H _ (fx.refl H) g (.int _)<|Zq w⟩
def ZA{K:Frag}:∀{xs:List O.Val}{ns:List Int}{vs:List V},O.fe xs=eQ ns->RVs K H xs vs->vs=ns.map V.int
 |[],_,_,e,r=>by cases r;cases e;rfl
 |v::xs,_,_,e,r=>by
  cases r with
  |cons r t=>cases v with
   |int k =>
    have e:(O.fe xs).map (k :: ·)=eQ _:=e;cases z:O.fe xs with
    |none=>rw[z]at e;cases e
    |some ns=>rw[z]at e;cases e;cases r;rw[ZA z t];rfl
   |_=>cases e
def ML:∀(ns ms:List Int),O.fL ns ms=HT.lexLt ns ms
 |[],[]=>rfl
 |[],_::_=>rfl
 |_::_,[]=>rfl
 |x::xs,y::ys=>by rw[O.fL,HT.lexLt_cons,ML xs ys]
abbrev Rh(K:Frag):R2:=λx y H Q=>rI0 (λi j=>.bl<|gB (i<j)) x y H Q\/R8 K x y H Q
def TC(hu:X.A.units<Ģ):OpR X (ñ .Lt)<|Rh X.K:=op_lt.or (Pb hu)
abbrev SC(K:Frag):R2:=λx y H Q=>rI0 (λi j=>.bl<|gB (j<i)) x y H Q\/HT2.rGtT K x y H Q
def Tx(hu:X.A.units<Ģ):OpR X (ñ .Gt)<|SC X.K:=op_gt.or (HT2.op_gtT hu)
variable {H:Hp}{c:Bool}
def IE{K:Frag}(rx:RV K H (.tup xs) x)(ry:RV K H (.tup ys) y)(e:O.fM (.tup xs) (.tup ys)=eQ c):∃a b ns ms,x=.ref a/\y=.ref b/\gc K H a (ns.map V.int)/\gc K H b (ms.map V.int)/\HT.lexLt ns ms=c:=by
 simp![O.fM]at e;cases z1:O.fe xs with
 |none=>rw[z1]at e;cases e
 |some ns =>
  cases z2:O.fe ys with
  |none=>rw[z1,z2]at e;cases e
  |some ms =>
   rw[z1,z2]at e;cases e;cases rx with
   |@tup _ p vs hp hr =>
   cases ry with
   |@tup _ q us hq hs =>
   have h1:=ZA z1 hr;have h2:=ZA z2 hs;subst h1 h2;exact⟨p,q,ns,ms,rfl,rfl,Zj hp,Zj hq,(ML _ _).symm⟩
def H9(e:O.fM v u=eQ c):(∃a b,v=.int a/\u=.int b/\gB (a<b)=c)\/∃xs ys,v=.tup xs/\u=.tup ys:=by
 cases v with
 |int a=>cases u with
  |int b=>cases e;exact .inl ⟨a,b,rfl,rfl,rfl⟩
  |_=>cases e
 |tup xs=>cases u with
  |tup ys=>exact .inr ⟨xs,ys,rfl,rfl⟩
  |_=>cases e
 |_=>cases e
def c_lt:Z4 i .lt<|Rh i.K:=by
 k_get;rcases H9 e with⟨a,b,rfl,rfl,rfl⟩|⟨xs,ys,rfl,rfl⟩
 .exact .inl ⟨a,b,rx.int_inv,ry.int_inv,q⟩
 .obtain⟨a,b,ns,ms,h1,h2,h3,h4,h5⟩:=IE rx ry e;exact .inr ⟨a,b,ns,ms,h1,h2,h3,h4,by rw[h5];exact q⟩
def c_gt:Z4 i .gt<|SC i.K:=by
 k_get;rcases H9 e with⟨a,b,rfl,rfl,rfl⟩|⟨xs,ys,rfl,rfl⟩
 .exact .inl ⟨b,a,rx.int_inv,ry.int_inv,q⟩
 .obtain⟨a,b,ns,ms,h1,h2,h3,h4,h5⟩:=IE ry rx e;exact .inr ⟨b,a,ms,ns,h2,h1,h4,h3,by rw[HT2.lexGt_lt,h5];exact q⟩
def Ih(e:O.leV v u=eQ c):∃i j,v=.int i/\u=.int j/\gB (i<=j)=c:=by
 cases v with
 |int i=>cases u with
  |int j=>cases e;exact⟨i,j,rfl,rfl,rfl⟩
  |_=>cases e
 |_=>cases e
def c_le:Z4 i .le<|rI0 λi j=>.bl<|gB (i<=j):=by k_get;let⟨a,b,rfl,rfl,rfl⟩:=Ih e;exact⟨a,b,rx.int_inv,ry.int_inv,q⟩
def c_ge:Z4 i .ge<|rI0 λi j=>.bl<|gB (j<=i):=by k_get;let⟨a,b,rfl,rfl,rfl⟩:=Ih e;exact⟨b,a,rx.int_inv,ry.int_inv,q⟩
def RV.isN{K:Frag}(r:RV K H v x):gB (x=.non)=gB (v=.non):=by cases r<;>simp
variable {a:Expr}{ma:O.E}{pos:Pos}{p2:Pos}{j:Nat}
def Q6(ha:PE X a<|tE X i Φ ma):PE X (.Compare a [.Is] [.Constant .none j p2] pos) (tE X i Φ<|.cmp .is ma<|.cst .non) :=
 (EO (DG ha) rfl).imp λσ H Q ⟨env,G,Qm,Em,p,w,c⟩=>by refine one p w λv G1 H1 x k1 p1 r q=>?_;let⟨d,e,q2⟩:=eZ q;have e:eQ (gB (v=.non))=eQ d:=e;cases e;rw[r.isN];exact c _ G1 H1 _ k1 p1.hp (.bl _) q2
def Pk(ha:PE X a<|tE X i Φ ma):PE X (.Compare a [.IsNot] [.Constant .none j p2] pos) (tE X i Φ<|.cmp .isnot ma<|.cst .non) :=
 (EO (As ha) rfl).imp λσ H Q ⟨env,G,Qm,Em,p,w,c⟩=>by refine one p w λv G1 H1 x k1 p1 r q=>?_;let⟨d,e,q2⟩:=eZ q;have e:eQ (!gB (v=.non))=eQ d:=e;cases e;rw[r.isN];exact c _ G1 H1 _ k1 p1.hp (.bl _) q2
def Lx(ha:PE X a<|tE X i Φ ma):PT X (.Compare a [.Is] [.Constant .none j p2] pos) (tTt X i Φ<|.val<|.cmp .is ma<|.cst .non) :=
 (Ed (DG ha) rfl).imp λσ H Q ⟨env,G,Qm,Em,p,w,c⟩=>by refine one p w λv G1 H1 x k1 p1 r q=>?_;let⟨d,e,q2⟩:=eZ q;let⟨d',e',q3⟩:=eZ q2;cases e';have e:eQ (gB (v=.non))=eQ d:=e;cases e;rw[r.isN];exact⟨_,rfl,c _ G1 H1 k1 p1.hp q3⟩
def GG(ha:PE X a<|tE X i Φ ma):PT X (.Compare a [.IsNot] [.Constant .none j p2] pos) (tTt X i Φ<|.val<|.cmp .isnot ma<|.cst .non) :=
 (Ed (As ha) rfl).imp λσ H Q ⟨env,G,Qm,Em,p,w,c⟩=>by refine one p w λv G1 H1 x k1 p1 r q=>?_;let⟨d,e,q2⟩:=eZ q;let⟨d',e',q3⟩:=eZ q2;cases e';have e:eQ (!gB (v=.non))=eQ d:=e;cases e;rw[r.isN];exact⟨_,rfl,c _ G1 H1 k1 p1.hp q3⟩
end Snd
namespace Snd
open PySem L2 PySem.Spec PyProof.Rows
variable {i:Inf}{X:Cx}
def RKs.length{K:Frag}:∀{kvs:List (O.Val×O.Val)}{ps:List (Key×V)},RKs K H kvs ps->kvs.length=ps.length
 |_,_,.nil=>rfl
 |_,_,.cons _ _ t=>by rw[Ð,Ð,RKs.length t]
def W4(a:WY k c)(b:WY j d):(k==j)=gB (c=d):=by
 have key:k=j↔c=d:=by
  cases k<;>cases c<;>first|(cases a;done)|skip
  .cases j<;>cases d<;>first|(cases b;done)|skip
   .cases a;cases b;simp
   .cases a;cases b;simp
  .cases j<;>cases d<;>first|(cases b;done)|skip
   .cases a;cases b;simp
   .cases a;cases b;simp[ofS_inj]
 by_cases e:k=j
 .rw[gy<|key.mp e,e];simp
 .rw[gx λz=>e<|key.mpr z];simpa using e
def fm{K:Frag}(h:O.fv k=eU)(r:RV K H k x):∃c,WY k c/\x=kV c:=by
 cases k with
 |int n=>cases r.int_inv;exact⟨.inl n,rfl,rfl⟩
 |str s=>cases r.str_inv;exact⟨.inr<|gC s,rfl,rfl⟩
 |_=>cases h
def RKs.look{K:Frag}(a:WY k c):∀{kvs:List (O.Val×O.Val)}{ps:List (Key×V)},RKs K H kvs ps->
  (∀v,O.fy kvs k=eQ v->∃x,Yl ps c=eQ x/\RV K H v x)/\(O.fy kvs k=eS->Yl ps c=eS)
 |_,_,.nil=>⟨λv e=>(by cases e),λ_=>rfl⟩
 |_,_,.cons (k:=j) (v:=u) (c:=d) (x:=y) (kvs:=kvs) (ps:=ps) b r t=>by
  have ih:=RKs.look a t;have q:=W4 b a;by_cases e:d=c
  .rw[gy e]at q;have e1:O.fy ((j,u)::kvs) k=eQ u:=by simp[O.fy,ę,q]
   rw[e1,Y3 e];exact⟨λv z=>(by cases z;exact⟨y,rfl,r⟩),λz=>(by cases z)⟩
  .rw[gx e]at q;have e1:O.fy ((j,u)::kvs) k=O.fy kvs k:=by simp[O.fy,ę,q]
   rw[e1,Xg e];exact ih
def RKs.has{K:Frag}(a:WY k c):∀{kvs:List (O.Val×O.Val)}{ps:List (Key×V)},RKs K H kvs ps->O.fz kvs k=ps.any λkv=>gB (kv.1=c)
 |_,_,.nil=>rfl
 |_,_,.cons b r t=>by have ih:=RKs.has a t;unfold O.fz at ih ⊢;rw[Ğ,Ğ,ih,W4 b a]
def RKs.app{K:Frag}(a:WY k c)(q:RV K H v x):∀{kvs:List (O.Val×O.Val)}{ps:List (Key×V)},RKs K H kvs ps->RKs K H (kvs++[(k,v)]) (ps++[(c,x)])
 |_,_,.nil=>.cons a q .nil
 |_,_,.cons b r t=>.cons b r<|RKs.app a q t
def RKs.repl{K:Frag}(a:WY k c)(q:RV K H v x):∀{kvs:List (O.Val×O.Val)}{ps:List (Key×V)},RKs K H kvs ps->
  RKs K H (kvs.map λp=>if p.1==k then(k,v)else p) (ps.map λkv=>if kv.1=c then(kv.1,x)else kv)
 |_,_,.nil=>.nil
 |_,_,.cons (k:=j) (v:=u) (c:=d) (x:=y) b r t=>by
  have ih:=RKs.repl a q t;have z:=W4 b a;rw[Ñ,Ñ];by_cases e:d=c
  .rw[gy e]at z;rw[gu z,gu e];exact .cons (e▸a) q ih
  .rw[gx e]at z;rw[gw (by rw[z];decide),gw e];exact .cons b r ih
def RKs.put{K:Frag}(a:WY k c)(q:RV K H v x)(r:RKs K H kvs ps):RKs K H (O.fA kvs k v)<|L2.fA ps c x:=by
 unfold O.fA L2.fA;rw[r.has a];by_cases e:(ps.any λkv=>gB (kv.1=c))=eU
 .rw[gu e,gu e];exact r.repl a q
 .rw[gw e,gw e];exact r.app a q
def RKs.drop{K:Frag}(a:WY k c):∀{kvs:List (O.Val×O.Val)}{ps:List (Key×V)},RKs K H kvs ps->RKs K H (O.fB kvs k) (L2.fB ps c)
 |_,_,.nil=>.nil
 |_,_,.cons (k:=j) (v:=u) (c:=d) (x:=y) b r t=>by
  have ih:=RKs.drop a t;have z:=W4 b a;unfold O.fB L2.fB at ih ⊢;rw[Ā,Ā];by_cases e:d=c
  .rw[gy e]at z;rw[gw (by rw[z];decide),gw<|by simpa using e];exact ih
  .rw[gx e]at z;rw[gu (by rw[z];rfl),gu<|by simpa using e];exact .cons b r ih
variable {H:Hp}
def Np{kvs:List (O.Val×O.Val)}(g:RH i G H)(h:H a=eQ (.dK ps))(r:RKs i.K H kvs' cT):fx H (upd H a<|.dK cT)/\RH i (O.upd G a<|.dct kvs') (upd H a<|.dK cT):=by
 have k:fx H<|upd H a<|.dK cT:=fx.put (λxs e=>by rw[h]at e;cases e) λp u e=>by rw[h]at e;cases e
 exact⟨k,g.put k ⟨cT,eX,r.keep k⟩⟩
def RTs.length{K:Frag}:∀{kvs:List (O.Val×O.Val)}{ps:List (List Key×V)},RTs K H kvs ps->kvs.length=ps.length
 |_,_,.nil=>rfl
 |_,_,.cons _ t=>by rw[Ð,Ð,RTs.length t]
def MS(a b i j:Int):(O.Val.key a b == .key i j)=gB (([.inl a,.inl b]:List Key)=[.inl i,.inl j]):=by
 by_cases e:a=i/\b=j
 .obtain⟨rfl,rfl⟩:=e;rw[gy rfl];simp
 .rw[gx λz=>e<|by simpa using z];exact beq_eq_false_iff_ne.mpr λz=>e ⇑z
def RTs.look{K:Frag}{i j:Int}:∀{kvs:List (O.Val×O.Val)}{ps:List (List Key×V)},RTs K H kvs ps->
  (∀v,O.fy kvs (.key i j)=eQ v->∃x,Yl ps [.inl i,.inl j]=eQ x/\RV K H v x)/\(O.fy kvs (.key i j)=eS->Yl ps [.inl i,.inl j]=eS)
 |_,_,.nil=>⟨λv e=>(by cases e),λ_=>rfl⟩
 |_,_,.cons (i:=a) (j:=b) (v:=u) (x:=y) (kvs:=kvs) (ps:=ps) r t=>by
  have ih:=RTs.look (i:=i) (j:=j) t;have q:=MS a b i j;by_cases e:([.inl a,.inl b]:List Key)=[.inl i,.inl j]
  .rw[gy e]at q;have e1:O.fy ((.key a b,u)::kvs) (.key i j)=eQ u:=by simp[O.fy,ę,q]
   rw[e1,Y3 e];exact⟨λv z=>(by cases z;exact⟨y,rfl,r⟩),λz=>(by cases z)⟩
  .rw[gx e]at q;have e1:O.fy ((.key a b,u)::kvs) (.key i j)=O.fy kvs (.key i j):=by simp[O.fy,ę,q]
   rw[e1,Xg e];exact ih
def RTs.has{K:Frag}{i j:Int}:∀{kvs:List (O.Val×O.Val)}{ps:List (List Key×V)},RTs K H kvs ps->O.fz kvs (.key i j)=ps.any λkv=>gB (kv.1=[.inl i,.inl j])
 |_,_,.nil=>rfl
 |_,_,.cons (i:=a) (j:=b) r t=>by have ih:=RTs.has (i:=i) (j:=j) t;unfold O.fz at ih ⊢;rw[Ğ,Ğ,ih,MS a b i j]
def RTs.app{K:Frag}{v:O.Val}{i j:Int}(q:RV K H v x):∀{kvs:List (O.Val×O.Val)}{ps:List (List Key×V)},RTs K H kvs ps->RTs K H (kvs++[(.key i j,v)]) (ps++[([.inl i,.inl j],x)])
 |_,_,.nil=>.cons q .nil
 |_,_,.cons r t=>.cons r<|RTs.app q t
def RTs.repl{K:Frag}{v:O.Val}{i j:Int}(q:RV K H v x):∀{kvs:List (O.Val×O.Val)}{ps:List (List Key×V)},RTs K H kvs ps->
  RTs K H (kvs.map λp=>if p.1 == .key i j then(.key i j,v)else p) (ps.map λkv=>if kv.1=[.inl i,.inl j]then(kv.1,x)else kv)
 |_,_,.nil=>.nil
 |_,_,.cons (i:=a) (j:=b) (v:=u) (x:=y) r t=>by
  have ih:=RTs.repl (i:=i) (j:=j) q t;have z:=MS a b i j;rw[Ñ,Ñ];by_cases e:([.inl a,.inl b]:List Key)=[.inl i,.inl j]
  .rw[gy e]at z;simp![z,if_true,e];exact .cons q ih
  .rw[gx e]at z;simp![z,e,if_false,ā];exact .cons r ih
def RTs.put{K:Frag}{v:O.Val}{i j:Int}(q:RV K H v x)(r:RTs K H kvs ps):RTs K H (O.fA kvs (.key i j) v)<|L2.fA ps [.inl i,.inl j] x:=by
 unfold O.fA L2.fA;rw[r.has];by_cases e:(ps.any λkv=>gB (kv.1=[.inl i,.inl j]))=eU
 .rw[gu e,gu e];exact r.repl q
 .rw[gw e,gw e];exact r.app q
def AG(g:RH i G H)(h:H a=eQ (.dT ps))(r:RTs i.K H kvs' cT):fx H (upd H a<|.dT cT)/\RH i (O.upd G a<|.dtp kvs') (upd H a<|.dT cT):=by
 have k:fx H<|upd H a<|.dT cT:=fx.put (λxs e=>by rw[h]at e;cases e) λp u e=>by rw[h]at e;cases e
 exact⟨k,g.put k ⟨cT,eX,r.keep k⟩⟩
def Xw{K:Frag}(h:O.isKeyT k=eU)(r:RV K H k x):∃a b c,k=.key a b/\x=.ref c/\H c=eQ (.tup<|([.inl a,.inl b]:List Key).map kV):=by
 cases k with
 |key a b=>cases r with|key e=>exact⟨a,b,_,rfl,rfl,e⟩
 |_=>cases h
abbrev D5:R2:=λx y H Q=>∃a v,x=.ref a/\DGet H a y (eQ v)/\Q v H
def FD(hu:X.A.units+1<Ģ):IxR X D5:=by
 intro ρ slice Â s σ H x y v u Q I rx ry h hs;let⟨a,z,rfl,g,q⟩:=h;cases rx;have hT:=NL I g;unfold aB;refine À ?_;rw[getitemInPython_of_ne hT.not_modules];refine À<|wpAny_specialOf hT PySem.F.slot_dict_getitem.lookup ?_;have fin:wpAny ↥2 X.A (subscripted slice eV (.ref a) u) (λr aT=>wpAny ↥2 X.A (letTemporaryGo ρ (.ref a) r >>= λ_=>pure r) (EP X Â σ Q) X.xe aT) X.xe s:=by rw[hs];exact wpAny_operating<|Me hu I g ry λw' s' I' aA=>À<|wpAny_letTemporaryGo<|Æ ⟨_,_,I',aA,q⟩
 first
  |exact Æ<|À fin
  |exact À<|Æ<|À fin
  |exact À fin
abbrev Ge(b:Bool):R2:=λx y H Q=>∃a o,y=.ref a/\DGet H a x o/\Q (.bl<|b ^^ o.isSome) H
def Lv(hu:X.A.units+1<Ģ):OpR X (ñ .In)<|Ge eV:=by k_ne;let⟨a,o,rfl,g,q⟩:=h;cases ry;rw[bx]at q;exact Ti hu I g rx λs' I'=>⟨.bl o.isSome,_,I',rfl,q⟩
def PR(hu:X.A.units+1<Ģ):OpR X (ñ .NotIn)<|Ge eU:=by k_ne;let⟨a,o,rfl,g,q⟩:=h;cases ry;rw[Bool.true_xor]at q;exact GD hu I g rx λs' I'=>⟨.bl (!o.isSome),_,I',rfl,q⟩
abbrev HZ:V->V->V->Hp->(Hp->Prop)->Prop:=λo y v H Q=>∃a H',o=.ref a/\DPut H a y v H'/\Q H'
def OL(hu:X.A.units+1<Ģ):PSet X HZ:=by intro Â s σ H o y v ov iv u Q I ro ri rv h;let⟨a,H',rfl,g,q⟩:=h;cases ro;exact A5 hu I g ri rv λs' I'=>⟨H',I',q⟩
def PSet.or{r r':V->V->V->Hp->(Hp->Prop)->Prop}(h:PSet X r)(h':PSet X r'):PSet X λo y v H Q=>r o y v H Q\/r' o y v H Q:=by
 intro Â s σ H o y v ov iv u Q I ro ri rv q;rcases q with q|q
 .exact h Â s σ H o y v ov iv u Q I ro ri rv q
 .exact h' Â s σ H o y v ov iv u Q I ro ri rv q
end Snd
namespace Snd
open PySem L2
variable {i:Inf}{X:Cx}
def MZ(n:Nat)(k:Int):O.ixN n k=L2.ixN n k:=rfl
variable {xs:List O.Val}
def Ji{K:Frag}(r:RVs K H xs vs)(e:O.atI xs k=eQ v):∃x,L2.atI vs k=eQ x/\RV K H v x:=by
 unfold O.atI at e;unfold L2.atI;rw[MZ,r.length]at e;cases z:L2.ixN vs.length k with
 |none=>rw[z]at e;cases e
 |some j =>rw[z]at e;let⟨x,h1,h2⟩:=r.get (show xs[j]?=eQ v from e);exact⟨x,h1,h2⟩
abbrev Rx(i:Inf)(r:R2):Prop:=∀(v u:O.Val) (G:O.Hs) (H:Hp) (x y:V) (w:O.Val) (Q:VK),RH i G H->RV i.K H v x->RV i.K H u y->O.fN G v u=eQ w->(∀z,RV i.K H w z->Q z H)->r x y H Q
variable {a:Expr}{ma:O.E}{pos:Pos}
def R3(hr:IxR X r)(ho:Rx i r)(ha:PE X a<|tE X i Φ ma)(hb:PE X b<|tE X i Φ mb)(hs:MH b):PE X (.Subscript a b pos) (tE X i Φ<|.idx ma mb) :=
 (Rg hr ha hb hs).imp λσ H Q ⟨env,G,Qm,Em,p,w,c⟩=>by
  exact two p w λv u G2 H2 x y k2 p2 rx ry q=>by let⟨z,e,q⟩:=eZ q;exact ho v u G2 H2 x y z Q p2.hp rx ry e λt rt=>c z G2 H2 t k2 p2.hp rt q
def He(e:O.atI s.toList k=eQ c):L2.atI (gC s).cps.toList k=eQ c.toNat:=by
 rw[Str.ofString_eq_toList];show L2.atI (List.map ť s.toList).toArray.toList k=_;unfold O.atI at e;unfold L2.atI;simp![Á];rw[MZ]at e;cases z:L2.ixN s.toList.length k with
 |none=>rw[z]at e;cases e
 |some j =>rw[z]at e;have e:s.toList[j]?=eQ c:=e;show(List.map ť s.toList)[j]?=_;rw[Ù,e];rfl
def O4(c:Char):gC (aq c)=⟨#[c.toNat]⟩:=by rw[Str.ofString_eq_toList];simp
abbrev SK(K:Frag):R2:=λx y H Q=>rIx K x y H Q\/D5 x y H Q
def Sa:Rx i<|SK i.K:=by
 intro v u G H x y w Q g rx ry e q;cases v with
 |tup xs =>
  cases u with
  |int k =>
   cases rx with
   |tup hp hr =>let⟨z,h1,h2⟩:=Ji hr (show O.atI xs k=eQ w from e);exact .inl<|.inr<|.inl ⟨_,_,k,z,rfl,ry.int_inv,Zj hp,h1,q z h2⟩
  |_=>cases e
 |str s =>
  cases u with
  |int k =>
   simp![O.fN]at e;split at e
   .rename_i hl;cases z:O.atI s.toList k with
    |none=>rw[z]at e;cases e
    |some c =>rw[z]at e;cases e;refine .inl (.inr<|.inr ⟨_,k,_,rx.str_inv,ry.int_inv,by rw[ZG];exact Ö hl Ye,He z,?_⟩);have:=q _<|.str<|aq c;rw[O4]at this;exact this
   .cases e
  |_=>cases e
 |ref a =>
  cases rx.ref_inv
  replace e:(match G a with|some (.lst xs)=>(O.gj u).bind (O.atI xs)|some (.dct kvs)=>if O.fv u then O.fy kvs u else eS|some (.frz kvs)=>if O.fv u then O.fy kvs u else eS|some (.dtp kvs)=>if O.isKeyT u then O.fy kvs u else eS|_=>eS)=eQ w:=e
  cases z:G a with
  |none=>rw[z]at e;cases e
  |some o =>
   rw[z]at e;cases o with
   |lst xs =>let⟨k,hk,e⟩:=æ.mp e;cases ZS hk;let⟨vs,h1,h2⟩:=g a _ z;let⟨t,h3,h4⟩:=Ji h2 e;exact .inl<|.inl ⟨a,vs,k,t,rfl,ry.int_inv,f9.of h1,h3,q t h4⟩
   |dct kvs =>let⟨hk,e⟩:=Zg (show(if O.fv u then O.fy kvs u else eS)=eQ w from e);let⟨ps,h1,h2⟩:=g a _ z;let⟨d,kr,rfl⟩:=fm hk ry;let⟨t,hx,rv⟩:=(h2.look kr).1 w e;exact .inr ⟨a,t,rfl,by rw[<-hx];exact DGet.k h1,q t rv⟩
   |frz kvs =>let⟨hk,e⟩:=Zg (show(if O.fv u then O.fy kvs u else eS)=eQ w from e);let⟨ob,ps,h1,h2⟩:=g a _ z;let⟨d,kr,rfl⟩:=fm hk ry;let⟨t,hx,rv⟩:=(h2.look kr).1 w e;exact .inr ⟨a,t,rfl,.inl ⟨ps,d,.inr ⟨ob,h1⟩,rfl,hx.symm⟩,q t rv⟩
   |dtp kvs =>let⟨hk,e⟩:=Zg (show(if O.isKeyT u then O.fy kvs u else eS)=eQ w from e);let⟨ps,h1,h2⟩:=g a _ z;let⟨k1,k2,b,rfl,rfl,hb⟩:=Xw hk ry;let⟨t,hx,rv⟩:=(h2.look).1 w e;exact .inr ⟨a,t,rfl,by rw[<-hx];exact DGet.t h1 hb,q t rv⟩
   |_=>cases e
 |scr ns =>
  cases u with
  |int k =>
   cases rx with
   |scr h =>let⟨t,h3,h4⟩:=Ji (RVs.ints ns) (show O.atI (ns.map .int) k=eQ w from e);exact .inl<|.inl ⟨_,_,k,t,rfl,ry.int_inv,Z8 h,h3,q t h4⟩
  |_=>cases e
 |_=>cases e
abbrev tOx(X:Cx)(i:Inf)(Φ:O.Fs)(m:O.Oe):TO:=λσ H Q=>∃env G Qm Em,Pre X i σ H env G Em/\O.wO Φ m env G Qm Em/\∀k G' H',fx H H'->RH i G' H'->Qm k G'->Q k H'
def _root_.L2.PO.imp(h:PO X e t)(f:∀σ H Q,t' σ H Q->t σ H Q):PO X e t':=λÂ s σ H Q I q=>h Â s σ H Q I (f σ H Q q)
def HG:PO X eS<|tOx X i Φ .none:=po_none.imp λσ H Q ⟨env,G,Qm,Em,p,w,c⟩=>by exact c eS G H (fx.refl H) p.hp w
def FA(he:PE X e<|tE X i Φ m):PO X (eQ e)<|tOx X i Φ<|.some m:=(Gj he).imp λσ H Q ⟨env,G,Qm,Em,p,w,c⟩=>by
 exact one p w λv G1 H1 x k1 p1 r q=>by let⟨b,e,q2⟩:=eZ q;cases ZS e;exact⟨b,r.int_inv,c _ G1 H1 k1 p1.hp q2⟩
def Up{K:Frag}(r:RVs K H xs vs)(lo hi:Option Int):RVs K H (O.cut xs lo hi)<|M1 vs lo hi:=by
 have e:∀(n d:Nat) (o:Option Int),O.fK n d o=HT.sIx n d o:=by
  intro n d o;cases o with
  |none=>rfl
  |some k =>
   show(if 0<=k then min k.toNat n else(k+n).toNat)=(if k<0 then(k+(n:Int)).toNat else min k.toNat n)
   by_cases h:k<0
   .rw[gu h,gw<|by lia]
   .rw[gw h,gu<|by lia]
 unfold O.cut M1;rw[e,e,r.length];exact(r.drop _).take _
abbrev SD(i:Inf)(r:V->Option Int->Option Int->Hp->VK->Prop):Prop:=∀(v:O.Val) (lo hi:Option Int) (G:O.Hs) (H:Hp) (x:V) (Q:VK) (Qm:O.Q1),RH i G H->RV i.K H v x->(O.fO G v lo hi).wp G Qm->Cn i H Q Qm->r x lo hi H Q
def Sh{lo:Option Expr}(hr:SlR X r)(ho:SD i r)(ha:PE X a<|tE X i Φ ma)(hl:PO X lo<|tOx X i Φ ml)(hh:PO X hi<|tOx X i Φ mh):PE X (.Subscript a (.Slice lo hi eS p2) pos) (tE X i Φ<|.slc ma ml mh) :=
 (CH hr ha hl hh).imp λσ H Q ⟨env,G,Qm,Em,p,w,c⟩=>by
  exact⟨env,G,_,Em,p,w,λv G1 H1 x k1 g1 r1 w1=>⟨env,G1,_,Em,p.go k1 g1,w1,λl G2 H2 k2 g2 w2=>⟨env,G2,_,Em,(p.go k1 g1).go k2 g2,w2,λu G3 H3 k3 g3 w3 =>
    ho v l u G3 H3 x Q Qm g3 ((r1.keep k2).keep k3) w3 (((c.go k1).go k2).go k3)⟩⟩⟩
abbrev QM(K:Frag):V->Option Int->Option Int->Hp->VK->Prop:=λx lo hi H Q=>Q8 K x lo hi H Q\/Sr K x lo hi H Q\/RT x lo hi H Q\/SA K x lo hi H Q
def SQ:SlR X<|QM X.K:=sl_list.or (fU.or<|sl_str.or FJ)
def Wj(n d:Nat)(o:Option Int):O.fK n d o=HT.sIx n d o:=by
 cases o with
 |none=>rfl
 |some k =>
  show(if 0<=k then min k.toNat n else(k+n).toNat)=(if k<0 then(k+(n:Int)).toNat else min k.toNat n)
  by_cases h:k<0
  .rw[gu h,gw<|by lia]
  .rw[gw h,gu<|by lia]
def NY(n d:Nat)(h:d<=n)(o:Option Int):O.fK n d o<=n:=by
 cases o with
 |none=>exact h
 |some k =>show(if 0<=k then min k.toNat n else(k+n).toNat)<=n;split<;>lia
def clip_eq(n d:Nat)(h:d<=n)(o:Option Int):(match o with
    |none=>(d:Int)
    | some i=>max 0<|min (if i<0 then i+(n:Int)else i) (n:Int))=(O.fK n d o:Int):=by
 cases o with
 |none=>rfl
 |some k =>
  show _=(((if 0<=k then min k.toNat n else(k+n).toNat):Nat):Int)
  by_cases hk:k<0
  .rw[gw<|show ¬ 0<=k by lia];simp![hk,if_true];lia
  .rw[gu<|show 0<=k by lia];simp![hk,if_false];lia
def Qy(n:Nat)(lo hi:Option Int):PySem.Builtin.Str.strSliceIndices lo hi 1 n=(List.range<|O.fK n n hi - O.fK n 0 lo).map λk=>O.fK n 0 lo+k:=by
 have e1:=clip_eq n 0 (ģ _) lo;have e2:=clip_eq n n (Ï _) hi;have e3:PySem.Builtin.Str.strSliceIndices lo hi 1 n=sliceRange (O.fK n 0 lo:Int) (O.fK n n hi:Int) 1:=by unfold PySem.Builtin.Str.strSliceIndices;rw[<-e1,<-e2];cases lo<;>cases hi<;>rfl
 rw[e3];unfold sliceRange;have e4:(if(1:Int) > 0 then(if(O.fK n 0 lo:Int)<(O.fK n n hi:Int)then((O.fK n n hi:Int) - (O.fK n 0 lo:Int)+1 - 1) / 1 else 0)else(if(O.fK n 0 lo:Int) > (O.fK n n hi:Int)then((O.fK n 0 lo:Int) - (O.fK n n hi:Int) - 1 - 1) / (-1)else 0)).toNat=O.fK n n hi - O.fK n 0 lo:=by rw[gu ↥1,Int.ediv_one];split<;>lia
 show(List.range<|Int.toNat<|if(1:Int) > 0 then _ else _).map _=_;rw[e4];refine ý λk _=>?_;lia
def FZ(s:String)(lo hi:Option Int):BI (gC s) lo hi=gC (Μ<|O.cut s.toList lo hi):=by
 have hl:(gC s).length=s.toList.length:=by rw[ZG,cb]
 have ha:=NY s.toList.length 0 (ģ _) lo;have hb:=NY s.toList.length s.toList.length (Ï _) hi;have e:=Qy s.toList.length lo hi;rw[<-hl]at e;unfold BI;rw[e];simp![hl];have ec:(gC s).cps.toList=s.toList.map ť:=by rw[Str.ofString_eq_toList]
 split
 .rename_i z;rw[Á,Τ]at z;have e0:O.fK s.toList.length 0 lo=0\/s.toList.length=0:=by lia
  have e5:O.cut s.toList lo hi=s.toList:=by
   unfold O.cut;rw[z];rcases e0 with e0|e0
   .rw[e0,List.drop_zero,ü]
   .have:s.toList=[]:=ύ.mp e0;rw[this];simp
  rw[e5,String.ofList_toList]
 .rw[Str.ofString_eq_toList<|Μ _,ce];congr 2;have e3:(λi:Nat=>(gC s).cps[i]?)=λi:Nat=>(s.toList.map ť)[i]?:=by
   funext i;rw[<-ec];simp
  rw[e3];by_cases hab:O.fK s.toList.length 0 lo<=O.fK s.toList.length s.toList.length hi
  .rw[PySem.StrLaws.picks _ _ _<|by rw[Á];lia];unfold O.cut;rw[List.map_take,List.map_drop]
  .have:O.fK s.toList.length s.toList.length hi - O.fK s.toList.length 0 lo=0:=by lia
   unfold O.cut;rw[this];simp
def R1:SD i<|QM i.K:=by
 intro v lo hi G H x Q Qm g r w c;cases v with
 |tup xs =>
  simp![O.fO]at w;split at w
  .rename_i hn;rw[O.Rs.wp_val]at w;cases r with
   |@tup _ a vs hp hr=>exact .inr (.inr<|.inr ⟨a,vs,rfl,Zj hp,by rw[<-Wj,<-Wj,<-hr.length];exact hn,c _ G H _ (fx.refl H) g (.tup hp hr) w⟩)
  .rename_i hn;rw[O.Rs.wp_val]at w;cases r with
   |@tup _ a vs hp hr =>refine .inr (.inl ⟨a,vs,rfl,Zj hp,by rw[<-Wj,<-Wj,<-hr.length];exact hn,λp hp'=>?_⟩);have k:=fx.new (o:=.tup<|M1 vs lo hi) hp';refine c _ G _ _ k (g.hid k λb o e=>eW ?_) (.tup (.inl eX)<|Up (hr.keep k) lo hi) w;rintro rfl;rw[g.free hp']at e;cases e
 |ref a =>
  cases r.ref_inv;simp![O.fO]at w;cases z:O.fj (G a)with
  |none=>rw[z]at w;simp at w
  |some xs =>rw[z]at w;rw[O.Rs.wp_new]at w;let⟨vs,h1,h2⟩:=ZE g z;exact .inl ⟨a,vs,rfl,h1,ZW g w c λp hp=>⟨_,eX,Up (h2.keep<|fx.new hp) lo hi⟩⟩
 |scr ns =>
  simp![O.fO,O.Rs.wp_new]at w;cases r with
  |scr h=>exact .inl ⟨_,_,rfl,Z8 h,ZW g w c λp hp=>⟨_,eX,Up (RVs.ints ns) lo hi⟩⟩
 |str s =>
  cases r.str_inv;simp![O.fO]at w;split at w
  .rename_i hl;rw[O.Rs.wp_val]at w;refine .inr (.inr <| .inl ⟨_,rfl,by rw[ZG];exact Ö hl ↥1,?_⟩);rw[FZ];exact c _ G H _ (fx.refl H) g (.str _) w
  .simp at w
 |_=>simp[O.fO]at w
variable {H:Hp}{vs:List O.Val}{xs:List V}
def RVs.app1{K:Frag}(r:RVs K H vs xs)(q:RV K H v x):RVs K H (vs++[v])<|xs++[x]:=r.append (.cons q .nil)
variable {ms:O.Es}{n:Nat}{pos:Pos}
def Sj(hn:n<=1000)(h:PA X es<|tAr X i Φ ms n):PE X (.Tuple es k pos) (tE X i Φ<|.tup ms) :=
 (Dx h).imp λσ H Q ⟨env,G,Qm,Em,p,w,c⟩=>by refine⟨env,G,_,Em,p,w,λvs G1 H1 xs k1 g1 r1 hl w1=>⟨by rw[hl];exact Ö hn ↥1,λa ha=>?_⟩⟩;have k:=fx.new (o:=.tup xs) ha;refine c _ G1 _ _ (k1.trans k) (g1.hid k λb o e=>eW ?_) (.tup (.inl eX)<|r1.keep k) w1;rintro rfl;rw[g1.free ha]at e;cases e
def Rt(hn:n<=1000)(h:PA X es<|tAr X i Φ ms n):PE X (.Tuple es k pos) (tE X i Φ<|.key ms) :=
 (Dx h).imp λσ H Q ⟨env,G,Qm,Em,p,w,c⟩=>by
  refine⟨env,G,_,Em,p,w,λvs G1 H1 xs k1 g1 r1 hl w1=>⟨by rw[hl];exact Ö hn ↥1,λa ha=>?_⟩⟩;have kp:=fx.new (o:=.tup xs) ha;let⟨⟨m1,m2⟩,e,w2⟩:=eZ w1;have ev:vs=[.int m1,.int m2]:=by
   match vs,e with
   |[.int a,.int b],e=>cases e;rfl
  subst ev;have ex:xs=[.int m1,.int m2]:=by
   cases r1 with
   |cons r1 t=>cases t with
    |cons r2 t=>cases t;rw[r1.int_inv,r2.int_inv]
  subst ex;refine c _ G1 _ _ (k1.trans kp) (g1.hid kp λb o e=>eW ?_) (.key eX) w2;rintro rfl;rw[g1.free ha]at e;cases e
def Sq(hn:n<=1000)(h:PA X es<|tAr X i Φ ms n):PE X (.List es pos) (tE X i Φ<|.lst ms) :=
 (Pp h).imp λσ H Q ⟨env,G,Qm,Em,p,w,c⟩=>by refine⟨env,G,_,Em,p,w,λvs G1 H1 xs k1 g1 r1 hl w1=>⟨by rw[hl];exact Ö hn ↥1,ZW g1 w1 (c.go k1) λa ha=>?_⟩⟩;exact⟨xs,eX,r1.keep<|fx.new ha⟩
abbrev Na(i:Inf)(f:O.Bi)(r:List V->Hp->VK->Prop):Prop:=∀(vs:List O.Val) (G:O.Hs) (H:Hp) (xs:List V) (Q:VK) (Qm:O.Q1),RH i G H->RVs i.K H vs xs->(O.biV G f vs).wp G Qm->Cn i H Q Qm->r xs H Q
def WW(hr:Na i f r):∀σ H Q,tE X i Φ (.bi f ms) σ H Q->tCB r (tAr X i Φ ms n) σ H Q:=λσ H Q ⟨env,G,Qm,Em,p,w,c⟩=>by exact⟨env,G,_,Em,p,w,λvs G1 H1 xs k1 g1 r1 _ w1=>hr vs G1 H1 xs Q Qm g1 r1 w1<|c.go k1⟩
def RVs.inv1{K:Frag}(r:RVs K H [v] xs):∃x,xs=[x]/\RV K H v x:=by cases r with|cons a t=>cases t;exact⟨_,rfl,a⟩
def RVs.inv2{K:Frag}(r:RVs K H [v,u] xs):∃x y,xs=[x,y]/\RV K H v x/\RV K H u y:=by cases r with|cons a t=>cases t with|cons b t=>cases t;exact⟨_,_,rfl,a,b⟩
def Mr(s:String):(gC s).cps.toList=s.toList.map ť:=by rw[Str.ofString_eq_toList]
def U0:∀(l:List Char) (a:Nat),(l.map ť).foldl (λĸ c=>ĸ*10+(c - 48)) a=l.foldl (λa c=>10*a+(c.toNat - 48)) a
 |[],_=>rfl
 |c::l,a=>by rw[Ñ,ķ,ķ,U0 l,cD a 10]
def Gp(h1:s.toList≠[])(h2:s.toList.all O.figB=eU)(h3:s.length<=640):PySem.intText? (gC s)=eQ ((O.decN s.toList:Nat):Int):=by
 have hc:=Mr s;rw[intText_digits (x:=gC s)]
 .rw[hc];unfold NumText.digitsVal O.decN;rw[U0]
 .rw[hc];intro c hm;let⟨d,hd,rfl⟩:=Ô.mp hm;have:=ÿ.mp h2 d hd;unfold O.figB at this;simpa using this
 .rw[hc];simpa using h1
 .rw[ZG];lia
variable {h:O.Hs}
def Xp(w:(O.fk f vs).wp h Q):∃v,vs=[v]/\(f v).wp h Q:=by
 cases vs with
 |nil=>exact(Zl w).elim
 |cons v vs=>cases vs with
  |nil=>exact⟨v,rfl,w⟩
  |cons _ _=>exact(Zl w).elim
def Lq:Na i .int λxs H Q=>((∃i,xs=[.int i]/\Q (.int i) H)\/∃k,xs=[.bl k]/\Q (.int<|if k then 1 else 0) H)\/∃z n,xs=[.str z]/\PySem.intText? z=eQ n/\z.length<=640/\Q (.int n) H:=by
 intro vs G H xs Q Qm g r w c;let⟨v,rfl,w⟩:=Xp w;let⟨x,rfl,rx⟩:=r.inv1;cases v with
 |int k=>cases rx.int_inv;exact .inl<|.inl ⟨k,rfl,c _ G H _ (fx.refl H) g (.int _)<|Zq w⟩
 |bl k=>cases rx.bl_inv;exact .inl<|.inr ⟨k,rfl,c _ G H _ (fx.refl H) g (.int _)<|Zq w⟩
 |str s =>cases rx.str_inv;let⟨hl,w⟩:=Wi w;exact .inr ⟨_,_,rfl,Gp hl.2.1 hl.2.2 hl.1,by rw[ZG];exact hl.1,c _ G H _ (fx.refl H) g (.int _)<|Zq w⟩
 |_=>exact(Zl w).elim
abbrev Ri(o:Option O.Ob)(f:List O.Val->O.Rs):O.Rs:=match o with
 |some (.lst xs)=>f xs
 |_=>.no
variable {o:Option O.Ob}
def Oc(w:(Ri o f).wp h Q):∃xs,o=eQ (.lst xs)/\(f xs).wp h Q:=by
 cases o with
 |none=>exact(Zl w).elim
 |some o=>cases o with
  |lst xs=>exact⟨xs,rfl,w⟩
  |_=>exact(Zl w).elim
variable {G:O.Hs}
def HA{Q:VK}{Qm:O.Q1}{ys:List O.Val}{us:List V}(g:RH i G H)(r:RVs i.K H ys us)(w:Qm (.tup ys) G)(c:Cn i H Q Qm):∀l,H l=eS->Q (.ref l) (upd H l<|.tup us):=λl hl=>by have k:=fx.new (o:=.tup us) hl;refine c _ G _ _ k (g.hid k λb o e=>eW ?_) (.tup (.inl eX)<|r.keep k) w;rintro rfl;rw[g.free hl]at e;cases e
def E6:Na i .tuple λxs H Q=>∃p ys,xs=[.ref p]/\((f9 i.K H p ys/\∀l,H l=eS->Q (.ref l) (upd H l<|.tup ys))\/(gc i.K H p ys/\Q (.ref p) H)):=by
 intro vs G H xs Q Qm g r w c;let⟨v,rfl,w⟩:=Xp w;let⟨x,rfl,rx⟩:=r.inv1;cases v with
 |ref a =>cases rx.ref_inv;let⟨ys,e,w⟩:=Oc (f:=λxs=>.val<|.tup xs) w;let⟨us,h1,h2⟩:=g a _ e;exact⟨a,us,rfl,.inl ⟨f9.of h1,HA g h2 (Zq w) c⟩⟩
 |tup ys =>
  cases rx with
  |tup hp hr=>exact⟨_,_,rfl,.inr ⟨Zj hp,c _ G H _ (fx.refl H) g (.tup hp hr)<|Zq w⟩⟩
 |_=>exact(Zl w).elim
abbrev kinds:List String:=["int","bool","str","list","tuple","dict"]
def F5(K:Frag):∀t∈["NoneType","bool","int","str","tuple","list","dict"],∀T∈kinds,PySem.W.kitOne K (.type t) (.type T)=eQ (t==T||(t == "bool" && T == "int")):=by intro t ht T hT;simp only[kinds,Å,É,or_false]at ht hT;rcases ht with rfl|rfl|rfl|rfl|rfl|rfl|rfl<;>rcases hT with rfl|rfl|rfl|rfl|rfl|rfl<;>rfl
def kn(j:Nat)(h:["NoneType","bool","int","str","tuple","list","dict"][j]?=eQ t:=by rfl):t∈["NoneType","bool","int","str","tuple","list","dict"]:=ã h
def AZ(g:RH i G H)(r:RV i.K H v x)(e:O.gm G v=eQ t):TyV i.K H x (.type t)/\t∈["NoneType","bool","int","str","tuple","list","dict"]:=by
 cases v with
 |non=>cases r;cases e;exact⟨.of .non,kn 0⟩
 |bl b=>cases r;cases e;exact⟨.of<|.bl b,kn 1⟩
 |int b=>cases r;cases e;exact⟨.of<|.int b,kn 2⟩
 |str b=>cases r;cases e;exact⟨.of<|.str _,kn 3⟩
 |tup xs=>cases e;cases r with|tup hp hr=>exact⟨.tup<|Zj hp,kn 4⟩
 |scr ns=>cases e;cases r with|scr h=>exact⟨.lst<|Z8 h,kn 5⟩
 |ref a =>
  cases r.ref_inv;simp![O.gm]at e;cases q:G a with
  |none=>rw[q]at e;cases e
  |some o =>
   rw[q]at e;cases o with
   |lst xs=>cases e;let⟨vs,h1,_⟩:=g a _ q;exact⟨.lst<|f9.of h1,kn 5⟩
   |dct kvs=>cases e;let⟨ps,h1,_⟩:=g a _ q;exact⟨.of<|.dK h1,kn 6⟩
   |ins C fs=>cases e
   |exc C=>cases e
   |frz _=>cases e
   |dtp _=>cases e
 |key _ _=>cases e
def Q7(hT:T∈kinds)(he:PE X e<|tE X i Φ m)(hk:X.K=i.K)(hg:Gl X "isinstance")(hm:X.mg "isinstance" = eS)(hg2:Gl X<|gC T)(hm2:X.mg (gC T)=eS)(hv2:Š (gC T)=eQ (.type T))(hn2:gC T≠"__name__")(bT:(gC T==("__debug__" : Str))=eV)(θ:à [e,.Name (gC T) p2] X.env=(eV,eval e X.env)::à [.Name (gC T) p2] X.env) :
  PE X (.Call (.Name "isinstance" p) [e,.Name (gC T) p2] [] pos) (tE X i Φ<|.bi (.isi [T])<|.cons m .nil):=by
 refine(Xd E9 hg hm (by kernel_rfl) (YE he (YE (RM (T:=T) hg2 hm2 hv2 hn2 bT) f7) θ) (he:=θ)).imp λσ H Q ⟨env,G,Qm,Em,p,w,c⟩=>?_;refine one p w λv G1 H1 x k1 p1 r q=>?_
 replace q:(O.Rs.ofO (((O.gp G1 v T).bind λb=>(O.isiAny G1 v []).map (b || ·)).map .bl)).wp G1 Qm:=q
 simp![O.isiAny,O.gp]at q;cases z:O.gm G1 v with
 |none=>rw[z]at q;simp[O.Rs.ofO]at q
 |some t =>rw[z]at q;simp![Ę,î,O.Rs.ofO,O.Rs.wp_val,Χ]at q;let⟨h1,h2⟩:=AZ p1.hp r z;refine⟨x,T,.type t,_,rfl,by rw[hk];exact h1,by rw[hk];exact F5 _ t h2 T hT,c _ G1 H1 _ k1 p1.hp (.bl _) q⟩
def UA(h:O.isLst o=eU):∃xs,o=eQ (.lst xs):=by
 cases o with
 |none=>cases h
 |some o=>cases o with
  |lst xs=>exact⟨xs,rfl⟩
  |_=>cases h
variable {a:Ì}
def Ea(e:O.bmL G (.ref a) f=eQ t):∃xs,G a=eQ (.lst xs)/\f a xs=eQ t:=by let⟨xs,h1,h2⟩:=æ.mp (show(O.fj<|G a).bind (f a)=eQ t from e);exact⟨xs,Bf h1,h2⟩
def Je{xs:List O.Val}{vs:List V}(g:RH i G H)(h:H a=eQ (.lst vs))(ys:List O.Val)(us:List V)(r:RVs i.K H ys us):fx H (upd H a<|.lst us)/\RH i (O.upd G a<|.lst ys) (upd H a<|.lst us):=by
 have k:fx H<|upd H a<|.lst us:=fx.put (λxs e=>by rw[h]at e;cases e) λp u e=>by rw[h]at e;cases e
 exact⟨k,g.put k ⟨us,eX,r.keep k⟩⟩
abbrev spF(i:Inf)(P:O.Pg)(n:Nat)(f:String):Sp:=λvs H Q E=>∃args G Qm Em,RVs i.K H args vs/\RH i G H/\O.wF P n f args G Qm Em/\Cn i H Q Qm/\∀cls d H',XK1 i H Em cls d H'->E cls d H'
abbrev Dfo(pr:ç)(w:ă)(mg:Str->Option Ã)(base:Ď)(i:Inf)(P:O.Pg)(n:Nat)(f:String):Prop :=
 ∃fa fd ps,fH pr w i.K mg base (CX1 pr w) (2*n) fa fd ps (spF i P n f)/\mg (gC f)=eQ (.ref fa)/\PySem.W.keepIn i.K (.ref fa)=eU/\Binds i.K fd ps []
variable {e:Expr}{pos:Pos}
def Qe(hK:X.K=i.K)(D:Dfo X.prog X.w X.mg X.base i P n f)(hr:fG (2*n) X.A)(hg:Gl X<|gC f)(cN:(gC f==("__debug__" : Str))=eV)(ha:PA X (e::es)<|tAr X i (O.wF P n) ms k)(he:à (e::es) X.env=(eV,eval e X.env)::à es X.env)(hpl:(Ī pos<|à es X.env).any (·.1)=eV) :
  PE X (.Call (.Name (gC f) p) (e::es) [] pos) (tE X i (O.wF P n)<|.call f ms):=by
 let⟨fa,fd,ps,F,hm,hk,hb⟩:=D;rw[<-hK]at F hk hb;k_sub;let⟨env,G,Qm,Em,pr,w,c⟩:=h;refine Ga (E:=XK1 i H Em) F hr hg hm hk hb .nil (XW.passes pr.xo) ha cN he hpl Â s σ H Q I ⟨env,G,_,Em,pr,w,λvs G1 H1 xs k1 g1 r1 hl w1=>?_⟩;exact⟨vs,G1,Qm,Em,by rw[ć];exact r1,g1,w1,c.go k1,λcls d H' h=>h.go k1⟩
abbrev XKS(i:Inf)(H:Hp)(Xe:O.EQ):XK:=λcls _ H'=>∃e c G' ad,cls=.ref ad/\i.xc c ad/\fx H H'/\RH i G' H'/\Xe e c G'
structure PreS(X:Cx)(i:Inf)(σ:St)(H:Hp)(env:O.Env)(G:O.Hs)(Xe:O.EQ):Prop where
 en:REn i.K H env σ
 hp:RH i G H
 xo:XW X<|XKS i H Xe
def PreS.go(p:PreS X i σ H env G Xe)(k:fx H H1)(r:RH i G1 H1)(e:REn i.K H1 env1 σ1):PreS X i σ1 H1 env1 G1 Xe :=
 ⟨e,r,λÂ σ H0 s H' a cls s' I f ⟨e,c,G',ad,q1,q2,q3,q4⟩=>p.xo Â σ H0 s H' a cls s' I f ⟨e,c,G',ad,q1,q2,k.trans q3,q4⟩⟩
def PreS.pre(p:PreS X i σ H env G Xe):Pre X i σ H env G (Xe env) :=
 ⟨p.en,p.hp,λÂ σ H0 s H' a cls s' I f ⟨c,G',ad,q1,q2,q3,q4⟩=>p.xo Â σ H0 s H' a cls s' I f ⟨env,c,G',ad,q1,q2,q3,q4⟩⟩
structure EOk(i:Inf)(H:Hp)(D:Ends)(N:O.NQ)(R:O.Q1)(B C:O.NQ):Prop where
 nx:∀ũ ů G' H',fx H H'->RH i G' H'->REn i.K H' ũ ů->N ũ G'->D.nx ů H'
 rt:∀v G' H' x,fx H H'->RH i G' H'->RV i.K H' v x->R v G'->D.rt x H'
 bk:∀ũ ů G' H',fx H H'->RH i G' H'->REn i.K H' ũ ů->B ũ G'->D.bk ů H'
 ct:∀ũ ů G' H',fx H H'->RH i G' H'->REn i.K H' ũ ů->C ũ G'->D.ct ů H'
def EOk.go(e:EOk i H D N R B C)(k:fx H H1):EOk i H1 D N R B C :=
 ⟨λa b c d k'=>e.nx a b c d<|k.trans k',λa b c d k'=>e.rt a b c d<|k.trans k',λa b c d k'=>e.bk a b c d<|k.trans k',λa b c d k'=>e.ct a b c d<|k.trans k'⟩
inductive tStx (X:Cx) (i:Inf) (Φ:O.Fs) (m:O.S) (D:Ends) (σ:St) (H:Hp):Prop
 |mk (env:O.Env) (G:O.Hs) (N:O.NQ) (R:O.Q1) (B C:O.NQ) (Xe:O.EQ) (p:PreS X i σ H env G Xe) (w:O.wS Φ m env G N R B C Xe) (e:EOk i H D N R B C)
abbrev tSt(X:Cx)(i:Inf)(Φ:O.Fs)(m:O.S):TS:=tStx X i Φ m
inductive tBlx (X:Cx) (i:Inf) (Φ:O.Fs) (m:O.Ss) (D:Ends) (σ:St) (H:Hp):Prop
 |mk (env:O.Env) (G:O.Hs) (N:O.NQ) (R:O.Q1) (B C:O.NQ) (Xe:O.EQ) (p:PreS X i σ H env G Xe) (w:O.wSs Φ m env G N R B C Xe) (e:EOk i H D N R B C)
abbrev tBl(X:Cx)(i:Inf)(Φ:O.Fs)(m:O.Ss):TS:=tBlx X i Φ m
variable {st:ń}
def _root_.L2.PS.imp(h:PS X st t)(f:∀D σ H,t' D σ H->t D σ H):PS X st t':=λÂ s σ H D I q=>h Â s σ H D I (f D σ H q)
def _root_.L2.PSs.imp{st:List ń}(h:PSs X st t)(f:∀D σ H,t' D σ H->t D σ H):PSs X st t':=λÂ s σ H D I q=>h Â s σ H D I (f D σ H q)
def Qk:PSs X []<|tBl X i Φ .nil:=pss_nil.imp λD σ H ⟨env,G,N,R,B,C,Xe,p,w,c⟩=>by exact c.nx env σ G H (fx.refl H) p.hp p.en w
def GS{sts:List ń}{m:O.S}{ms:O.Ss}(h1:PS X st<|tSt X i Φ m)(h2:PSs X sts<|tBl X i Φ ms):PSs X (st::sts) (tBl X i Φ<|.cons m ms) :=
 (Ef h1 h2).imp λD σ H ⟨env,G,N,R,B,C,Xe,p,w,c⟩=>by exact⟨env,G,_,R,B,C,Xe,p,w,⟨λũ ů G' H' k g e w'=>⟨ũ,G',N,R,B,C,Xe,p.go k g e,w',c.go k⟩,c.rt,c.bk,c.ct⟩⟩
variable {m:O.E}
def PP(he:PE X e<|tE X i Φ m):PS X (.Return (eQ e) pos) (tSt X i Φ<|.ret m) :=
 (P8 he).imp λD σ H ⟨env,G,N,R,B,C,Xe,p,w,c⟩=>by exact⟨env,G,R,Xe env,p.pre,w,c.rt⟩
def FO:PS X (.Return eS pos) (tSt X i Φ .retN) :=
 ps_retN.imp λD σ H ⟨env,G,N,R,B,C,Xe,p,w,c⟩=>by exact c.rt _ G H _ (fx.refl H) p.hp .non w
def Hy(he:PE X e<|tE X i Φ m)(hs:ź e eS pos.line X.env=pure eV):PS X (.Expr e pos) (tSt X i Φ<|.expr m) :=
 (FT he hs).imp λD σ H ⟨env,G,N,R,B,C,Xe,p,w,c⟩=>by exact⟨env,G,_,Xe env,p.pre,w,λv G1 H1 x k1 g1 r1 w1=>c.nx env σ G1 H1 k1 g1 (p.en.keep k1) w1⟩
def P6{t:Expr}{a b:List ń}{mt:O.Tt}{ma mb:O.Ss}(ht:PT X t<|tTt X i Φ mt)(ha:PSs X a<|tBl X i Φ ma)(hb:PSs X b<|tBl X i Φ mb):PS X (.If t a b pos) (tSt X i Φ<|.ite mt ma mb) :=
 (Rq ht ha hb).imp λD σ H ⟨env,G,N,R,B,C,Xe,p,w,c⟩=>by
  refine⟨env,G,_,Xe env,p.pre,w,λd G1 H1 k1 g1 q=>?_⟩;cases d with
  |true=>exact⟨env,G1,N,R,B,C,Xe,p.go k1 g1<|p.en.keep k1,⇑q,c.go k1⟩
  |false=>exact⟨env,G1,N,R,B,C,Xe,p.go k1 g1<|p.en.keep k1,⇑q,c.go k1⟩
abbrev gPt(i:Inf)(p:O.Pt):TG:=λx σ H Q=>∃v env G Ŝ,RV i.K H v x/\RH i G H/\REn i.K H env σ/\O.bind p G v env=eQ Ŝ/\∀σ2,REn i.K H Ŝ σ2->Q σ2 H
variable {tg:Expr}
def _root_.L2.PG.imp{t t':TG}(h:PG X tg t)(f:∀v σ H Q,t' v σ H Q->t v σ H Q):PG X tg t':=λÂ s σ H v u Q I r q=>h Â s σ H v u Q I r (f v σ H Q q)
def _root_.L2.PGs.imp{tg:List Expr}{t t':TGs}(h:PGs X tg t)(f:∀v σ H Q,t' v σ H Q->t v σ H Q):PGs X tg t':=λÂ s σ H v u Q I r q=>h Â s σ H v u Q I r (f v σ H Q q)
variable {x:Str}{j:Nat}
def UE(hN:X.N.Nodup)(hi:X.N[j]?=eQ x)(hx:Loc X.env.scope x)(hf:X.fn x=eU\/X.env.scope.names.lookup x=eQ .local):PG X (.Name x pos) (gPt i<|.one j) :=
 (Am hN hi hx hf).imp λv σ H Q ⟨u,env,G,Ŝ,r,g,e,b,h⟩=>by cases b;exact h _<|e.set r j
abbrev Er(i:Inf)(js:List Nat):TGs:=λxs σ H Q=>∃vs env Ŝ,RVs i.K H vs xs/\REn i.K H env σ/\O.bindL js vs env=eQ Ŝ/\∀σ2,REn i.K H Ŝ σ2->Q σ2 H
def Fr:PGs X []<|Er i []:=pgs_nil.imp λxs σ H Q ⟨vs,env,Ŝ,r,e,b,h⟩=>by
 cases vs with
 |nil=>cases r;cases b;exact⟨rfl,h _ e⟩
 |cons _ _=>cases b
def Co(hN:X.N.Nodup)(hi:X.N[j]?=eQ x)(hx:Loc X.env.scope x)(hf:X.fn x=eU\/X.env.scope.names.lookup x=eQ .local)(h2:PGs X es<|Er i js)(hs:(ĥ (.Name x pos::es) X.env).map (·.2)=μ (.Name x pos) X.env::(ĥ es X.env).map (·.2)):PGs X (.Name x pos::es) (Er i<|j::js) :=
 (JC (Am hN hi hx hf) h2 hs).imp λxs σ H Q ⟨vs,env,Ŝ,r,e,b,h⟩=>by
  cases vs with
  |nil=>cases b
  |cons v vs =>
   cases r with
   |cons r t=>exact⟨_,_,rfl,vs,env.set j<|eQ v,Ŝ,t,e.set r j,b,h⟩
def K8:∀{js:List Nat}{vs:List O.Val}{env Ŝ:O.Env},O.bindL js vs env=eQ Ŝ->vs.length=js.length
 |[],[],_,_,_=>rfl
 |j::js,v::vs,env,_,h=>by rw[Ð,Ð,K8<|show O.bindL js vs (env.set j<|eQ v)=_ from h]
 |[],_::_,_,_,h=>by cases h
 |_::_,[],_,_,h=>by cases h
def AB(hK:X.K=i.K)(hc:X.calm=eU)(h:PGs X es<|Er i js)(hn:(ĥ es X.env).length=js.length)(θ:(ĥ es X.env).findIdx? (·.1)=eS):PG X (.Tuple es k pos) (gPt i<|.many js) :=
 (B5 (n:=js.length) hc h hn θ).imp λv σ H Q ⟨u,env,G,Ŝ,r,g,e,b,h⟩=>by
  cases u with
  |tup vs =>
   have b:O.bindL js vs env=eQ Ŝ:=b;cases r with
   |tup hp hr=>exact⟨_,_,rfl,by rw[hK];exact Zj hp,by rw[<-hr.length];exact K8 b,vs,env,Ŝ,hr,e,b,h⟩
  |_=>cases b
def Hb(hK:X.K=i.K)(hc:X.calm=eU)(h1:PG X (.Name x p1)<|gPt i<|.one j)(h2:PG X (.Tuple es k2 p2)<|gPt i<|.many js):PG X (.Tuple [.Name x p1,.Tuple es k2 p2] k pos) (gPt i<|.nest j js) :=
 (B5 (n:=2) hc (JC h1 (JC h2 pgs_nil rfl) rfl) rfl rfl).imp λv σ H Q ⟨u,env,G,Ŝ,r,g,e,b,h⟩=>by
  cases u with
  |tup vs =>
   cases vs with
   |nil=>cases b
   |cons x0 vs=>cases vs with
    |nil=>cases b
    |cons y vs=>cases vs with
     |cons _ _=>cases b
     |nil =>
      have b:(O.tupOf y).bind (λys=>O.bindL js ys<|env.set j<|eQ x0)=eQ Ŝ:=b;cases r with
      |tup hp hr =>
       cases hr with
       |cons r0 t=>cases t with
        |cons r1 t =>cases t;exact⟨_,_,rfl,by rw[hK];exact Zj hp,rfl,_,_,rfl,x0,env,G,_,r0,g,e,rfl,λσ2 e2=>⟨_,_,rfl,y,_,G,Ŝ,r1,g,e2,b,λσ3 e3=>⟨rfl,h σ3 e3⟩⟩⟩
  |_=>cases b
def Qp(he:PE X e<|tE X i Φ m)(hg:PG X tg<|gPt i q)(hs:ϗ [tg] e pos.line X.env=pure eV)(hw:Ϙ [tg] e X.env=pure eS)(h1:(ĥ [tg] X.env).map (·.2)=[μ tg X.env]):PS X (.Assign [tg] e pos) (tSt X i Φ<|.set q m) :=
 (Cb he hg hs hw h1).imp λD σ H ⟨env,G,N,R,B,C,Xe,p,w,c⟩=>by refine⟨env,G,_,Xe env,p.pre,w,λv G1 H1 x k1 g1 r1 w1=>?_⟩;let⟨Ŝ,e2,w1⟩:=eZ w1;exact⟨v,env,G1,Ŝ,r1,g1,p.en.keep k1,e2,λσ2 h2=>c.nx Ŝ σ2 G1 H1 k1 g1 h2 w1⟩
abbrev DA:V->V->V->Hp->(Hp->Prop)->Prop:=λo y v H Q=>Ip o y v H Q\/HZ o y v H Q
def B9{G G3:O.Hs}{H:Hp}{o k v:O.Val}{y z x:V}{Q:Hp->Prop}(g:RH i G H)(ry:RV i.K H o y)(rz:RV i.K H k z)(rx:RV i.K H v x)(e:O.fP G o k v=eQ G3)(c:∀H3,fx H H3->RH i G3 H3->Q H3):DA y z x H Q:=by
 cases o with
 |ref b =>
  cases ry.ref_inv
  replace e:(match G b with|some (.lst xs)=>(O.gj k).bind λn=>(O.ixN xs.length n).map λj=>O.upd G b (.lst<|xs.set j v)|some (.dct kvs)=>if O.fv k/\kvs.length<O.lim then eQ (O.upd G b<|.dct<|O.fA kvs k v)else eS|some (.dtp kvs)=>if O.isKeyT k/\kvs.length<O.lim then eQ (O.upd G b<|.dtp<|O.fA kvs k v)else eS|_=>eS)=eQ G3:=e
  cases z4:G b with
  |none=>rw[z4]at e;cases e
  |some o =>
   rw[z4]at e;cases o with
   |lst xs =>let⟨n,hn,e⟩:=æ.mp e;let⟨jj,hj,rfl⟩:=Í.mp e;cases ZS hn;cases rz.int_inv;let⟨vs,h2,r2⟩:=g b _ z4;rw[MZ,r2.length]at hj;let⟨k3,g3⟩:=Je (xs:=xs) g h2 (xs.set jj v) (vs.set jj x)<|r2.set rx jj;exact .inl ⟨b,vs,n,jj,rfl,rfl,h2,hj,c _ k3 g3⟩
   |dct kvs =>let⟨hk,e⟩:=Zg (show(if O.fv k/\kvs.length<O.lim then eQ (O.upd G b<|.dct<|O.fA kvs k v)else eS)=eQ G3 from e);cases e;let⟨ps,h2,r2⟩:=g b _ z4;let⟨d,kr,rfl⟩:=fm hk.1 rz;let⟨k3,g3⟩:=Np (kvs:=kvs) g h2<|r2.put kr rx;exact .inr ⟨b,_,rfl,DPut.k h2 (by rw[<-RKs.length r2];exact é hk.2 Ye),c _ k3 g3⟩
   |dtp kvs =>let⟨hk,e⟩:=Zg (show(if O.isKeyT k/\kvs.length<O.lim then eQ (O.upd G b<|.dtp<|O.fA kvs k v)else eS)=eQ G3 from e);cases e;let⟨ps,h2,r2⟩:=g b _ z4;let⟨a1,a2,d,rfl,rfl,hd⟩:=Xw hk.1 rz;let⟨k3,g3⟩:=AG g h2<|r2.put (i:=a1) (j:=a2) rx;exact .inr ⟨b,_,rfl,DPut.t h2 hd (by rw[<-RTs.length r2];exact é hk.2 Ye),c _ k3 g3⟩
   |_=>cases e
 |_=>cases e
def BP{a j:Expr}{ma mj:O.E}{ϥ:Pos}(hK:X.K=i.K)(he:PE X e<|tE X i Φ m)(ha:PE X a<|tE X i Φ ma)(hj:PE X j<|tE X i Φ mj)(hgl:PG X (.Subscript a j ϥ)<|RK (tE X i Φ ma) (tE X i Φ mj) DA)(hs:ϗ [.Subscript a j ϥ] e pos.line X.env=pure eV)(hw:Ϙ [.Subscript a j ϥ] e X.env=pure eS)(h1:(ĥ [.Subscript a j ϥ] X.env).map (·.2)=[μ (.Subscript a j ϥ) X.env]):PS X (.Assign [.Subscript a j ϥ] e pos) (tSt X i Φ<|.setIdx ma mj m) :=
 (Cb he hgl hs hw h1).imp λD σ H ⟨env,G,N,R,B,C,Xe,p,w,c⟩=>by refine⟨env,G,_,Xe env,p.pre,w,λv G1 H1 x k1 g1 r1 w1=>?_⟩;refine two (p.go k1 g1<|p.en.keep k1).pre w1 λo k G2 H2 y z k2 p2 ry rz q=>?_;let⟨G3,e3,q⟩:=eZ q;exact B9 p2.hp ry rz (r1.keep k2) e3 λH3 k3 g3=>c.nx env σ _ _ ((k1.trans k2).trans k3) g3 (p2.en.keep k3) q
structure ItOk(i:Inf)(H0:Hp)(J:It)(st:O.Hs->Prop)(xs:List O.Val):Prop where
 go:∀n G H v,fx H0 H->RH i G H->st G->xs[n]?=eQ v->J.go n H/\∀x H',J.yld n H x H'->fx H H'/\RH i G H'/\RV i.K H' v x
 stop:∀n G H,fx H0 H->RH i G H->st G->xs.length<=n->J.stop n H
abbrev tIt(X:Cx)(i:Inf)(Φ:O.Fs)(m:O.It):TI:=λσ H R=>∃env G QI Em,Pre X i σ H env G Em/\O.wI Φ m env G QI Em/\∀st xs G' H' J,fx H H'->RH i G' H'->ItOk i H' J st xs->QI st xs G'->R J H'
variable {tg:Expr}{e:Expr}
def _root_.L2.PI.imp{t t':TI}(h:PI X tg e t)(f:∀σ H Q,t' σ H Q->t σ H Q):PI X tg e t':=λÂ s σ H Q I q=>h Â s σ H Q I (f σ H Q q)
abbrev To(K:Frag)(tl:TE):TI:=λσ H R=>tl σ H λx H1=>∃a,x=.ref a/\(((∃xs,f9 K H1 a xs)/\R (Itl K a) H1)\/((∃xs,gc K H1 a xs)/\R (Itt K a) H1))
def Ph(hl:PE X l tl):PI X tg l<|To X.K tl:=by
 intro Â s σ H R I h;refine thn (hl Â s σ H _ I h) λv s1 ⟨x,H1,I1,r1,q1⟩=>?_;let⟨a,e,q1⟩:=q1;subst e;cases r1;rcases q1 with⟨⟨xs,hq⟩,q⟩|⟨⟨xs,hq⟩,q⟩
 .obtain⟨ø,rv,p,hz⟩:=I1.list hq;refine ž p.isList ?_;refine⟨s1.heap.objs.size,[s1.heap.objs.size],_,_,H1,rfl,I1.kept (t':=s1.toks) λb o e=>Ä _ e,BO a _,⟨_,Ò _ rfl,rfl,rfl⟩,λb hb=>?_,q⟩;have e:b=s1.heap.objs.size:=⇑hb
  subst e;exact I1.fpOk (Ï _)<|I1.hok.fresh<|Ï _
 .obtain⟨ø,rv,p,hz⟩:=I1.tuple hq;refine Ψ (show s1.heap.IsTuple a ø.toArray from p) ?_;refine⟨s1.heap.objs.size,[s1.heap.objs.size],_,_,H1,rfl,I1.kept (t':=s1.toks) λb o e=>Ä _ e,Ut a _,⟨_,Ò _ rfl,rfl,rfl⟩,λb hb=>?_,q⟩;have e:b=s1.heap.objs.size:=⇑hb
  subst e;exact I1.fpOk (Ï _)<|I1.hok.fresh<|Ï _
variable {H0:Hp}{a:Ì}{xs:List O.Val}
def it_lst:ItOk i H0 (Itl i.K a) (λg=>O.fj (g a)=eQ xs) xs where
 go:=λn G H v _ g e hv=>by let⟨vs,h1,h2⟩:=ZE g e;let⟨x,h3,h4⟩:=h2.get hv;refine⟨⟨vs,x,h1,h3⟩,λy H' ⟨e1,e2⟩=>?_⟩;subst e1;have:=e2 vs h1;rw[h3]at this;cases this;exact⟨fx.refl _,g,h4⟩
 stop:=λn G H _ g e hn=>by let⟨vs,h1,h2⟩:=ZE g e;exact⟨vs,h1,by rw[<-h2.length];exact hn⟩
def it_tup{vs:List V}(hp:H0 a=eQ (.tup vs)\/KT i.K a vs)(hr:RVs i.K H0 xs vs):ItOk i H0 (Itt i.K a) (λ_=>True) xs where
 go:=λn G H v k g e hv=>by have hp':H a=eQ (.tup vs)\/KT i.K a vs:=hp.imp (k.t _ _) id;let⟨x,h3,h4⟩:=(hr.keep k).get hv;refine⟨⟨vs,x,Zj hp',h3⟩,λy H' ⟨e1,e2⟩=>?_⟩;subst e1;have:=e2 vs<|Zj hp';rw[h3]at this;cases this;exact⟨fx.refl _,g,h4⟩
 stop:=λn G H k g e hn=>by have hp':H a=eQ (.tup vs)\/KT i.K a vs:=hp.imp (k.t _ _) id;exact⟨vs,Zj hp',by rw[<-hr.length];exact hn⟩
def it_scr{ns:List Int}(h:(∃o,H0 a=eQ (.frz o<|.lst<|ns.map V.int))\/KL i.K a (ns.map V.int)):ItOk i H0 (Itl i.K a) (λ_=>True) (ns.map .int) where
 go:=λn G H v k g e hv=>by have h':f9 i.K H a<|ns.map V.int:=Z8<|h.imp (λ⟨o,e⟩=>⟨o,k.f _ _ _ e⟩) id;let⟨x,h3,h4⟩:=(RVs.ints (K:=i.K) (H:=H) ns).get hv;refine⟨⟨_,x,h',h3⟩,λy H' ⟨e1,e2⟩=>?_⟩;subst e1;have:=e2 _ h';rw[h3]at this;cases this;exact⟨fx.refl _,g,h4⟩
 stop:=λn G H k g e hn=>⟨_,Z8<|h.imp (λ⟨o,e⟩=>⟨o,k.f _ _ _ e⟩) id,⇑hn⟩
def IT{lo:Int}(hn:n=(hi - lo).toNat):ItOk i H0 (Itr lo n) (λ_=>True) (O.fI lo hi) where
 go:=λk G H v _ g _ hv=>by
  unfold O.fI at hv;rw[Ù]at hv;have hk:k<(hi - lo).toNat:=by
   by_cases h:k<(hi - lo).toNat
   .exact h
   .rw[Ŀ<|by simpa using h]at hv;cases hv
  rw[List.getElem?_range hk]at hv;cases hv;refine⟨by rw[hn];exact hk,λx H' ⟨e1,e2⟩=>?_⟩;subst e1 e2;exact⟨fx.refl _,g,.int _⟩
 stop:=λk G H _ g _ hk=>by unfold O.fI at hk;show n<=k;simp at hk;lia
variable {m:O.E}
def P7(hK:X.K=i.K)(he:PE X e<|tE X i Φ m):PI X tg e (tIt X i Φ<|.seq m) :=
 (Ph he).imp λσ H R ⟨env,G,QI,Em,p,w,c⟩=>by
  refine one p w λv G1 H1 x k1 p1 r q=>?_;let⟨⟨st,xs⟩,e1,q2⟩:=eZ q;clear q;rw[hK];cases v with
  |tup ys =>
   cases e1;cases r with
   |tup hp hr=>exact⟨_,rfl,.inr ⟨⟨_,Zj hp⟩,c _ _ G1 H1 _ k1 p1.hp (it_tup hp hr) q2⟩⟩
  |scr ns =>
   cases e1;cases r with
   |scr h=>exact⟨_,rfl,.inl ⟨⟨_,Z8 h⟩,c _ _ G1 H1 _ k1 p1.hp (it_scr h) q2⟩⟩
  |ref a =>
   cases r.ref_inv;simp![O.itV]at e1;cases z:O.fj (G1 a)with
   |none=>rw[z]at e1;cases e1
   |some ys =>rw[z]at e1;cases e1;let⟨vs,h1,h2⟩:=ZE p1.hp z;exact⟨a,rfl,.inl ⟨⟨vs,h1⟩,c _ _ G1 H1 _ k1 p1.hp it_lst q2⟩⟩
  |_=>cases e1
variable {pos:Pos}
def Cy{a:Expr}{p:Pos}(hg:Gl X "range")(hm:X.mg "range" = eS)(ha:PE X a<|tE X i Φ m)(hs:à [a] X.env=[(eV,eval a X.env)]):PI X tg (.Call (.Name "range" p) [a] [] pos) (tIt X i Φ<|.range m) :=
 (AH hg hm (YE ha f7<|by rw[hs];rfl) hs).imp λσ H R ⟨env,G,QI,Em,p,w,c⟩=>by refine one p w λv G1 H1 x k1 p1 r q=>?_;let⟨n,e1,q2⟩:=eZ q;clear q;cases ZS e1;cases r.int_inv;exact⟨n,rfl,q2.1.1,q2.1.2,c _ _ G1 H1 _ k1 p1.hp (IT<|by rw[Int.sub_zero]) q2.2⟩
def IW(hp:al ↥2 X.A X.env X.xe)(hc:X.calm=eU)(hi:PI X tg iter<|tIt X i Φ mi)(hg:PG X tg<|gPt i q)(hb:PSs X body<|tBl X i Φ mb)(hs:∀x,ġ iter X.env x=pure x):PS X (.For tg iter body [] pos) (tSt X i Φ<|.for q mi mb) :=
 (CN hp hc hi hg hb hs).imp λD σ H ⟨env,G,N,R,B,C,Xe,p,w,c⟩=>by
  refine⟨env,G,_,Xe env,p.pre,w,λst xs G1 H1 J k1 g1 it w1=>?_⟩;refine⟨λn m ů H'=>n+m=xs.length/\∃ũ G',fx H1 H'/\RH i G' H'/\REn i.K H' ũ ů/\O.wFor st (λv e g K M=>O.go (O.bind q g v e) λe2=>O.wSs Φ mb e2 g K R M K Xe) N (xs.drop n) ũ G',⟨xs.length,by lia,env,G1,fx.refl _,g1,p.en.keep k1,⇑w1⟩,?_⟩;rintro n m ů H' ⟨hnm,ũ,G',k2,g2,e2,w2⟩;by_cases hn:n<xs.length
  .right;have hd:xs.drop n=xs[n]::xs.drop (n+1):=Ŭ hn;rw[hd]at w2;let⟨s2,w2⟩:=w2;have hv:xs[n]?=eQ xs[n]:=È hn;let⟨a1,a2⟩:=it.go n G' H' xs[n] k2 g2 s2 hv;refine⟨a1,λσ3 H3=>∃env3 G3,fx H1 H3/\RH i G3 H3/\REn i.K H3 env3 σ3/\O.wFor st (λv e g K M=>O.go (O.bind q g v e) λe2=>O.wSs Φ mb e2 g K R M K Xe) N (xs.drop<|n+1) env3 G3,λσ3 H3 h=>⟨m - 1,by lia,by lia,h⟩,λx H3 hy=>?_⟩;let⟨k3,g3,r3⟩:=a2 x H3 hy;let⟨cU,e4,w4⟩:=eZ w2;refine⟨xs[n],ũ,G',cU,r3,g3,e2.keep k3,e4,λσ4 h4=>?_⟩;have kk:fx H H3:=(k1.trans k2).trans k3;refine⟨cU,G',_,R,N,_,Xe,p.go kk g3 h4,w4,⟨λdB σ5 G5 H5 k5 g5 e5 w5=>?_,(c.go kk).rt,(c.go kk).nx,λdB σ5 G5 H5 k5 g5 e5 w5=>?_⟩⟩
   .exact⟨dB,G5,(k2.trans k3).trans k5,g5,e5,w5⟩
   .exact⟨dB,G5,(k2.trans k3).trans k5,g5,e5,w5⟩
  .left;have hd:xs.drop n=[]:=Ŗ ↥0;rw[hd]at w2;exact⟨it.stop n G' H' k2 g2 w2.1 ↥0,c.nx ũ ů G' H' (k1.trans k2) g2 e2 w2.2⟩
def PH:Na i .len λxs H Q=>((∃p ys,xs=[.ref p]/\(f9 i.K H p ys\/gc i.K H p ys)/\Q (.int ys.length) H)\/∃z,xs=[.str z]/\z.length<=Þ/\Q (.int z.length) H)\/∃a kvs,xs=[V.ref a]/\H a=eQ (.dK kvs)/\Q (.int kvs.length) H:=by
 intro vs G H xs Q Qm g r w c;let⟨v,rfl,w⟩:=Xp w;let⟨x,rfl,rx⟩:=r.inv1;cases v with
 |ref a =>
  cases rx.ref_inv
  replace w:(match G a with|some (.lst xs)=>.val (.int xs.length)|some (.dct kvs)=>.val (.int kvs.length)|_=>.no:O.Rs).wp G Qm:=w
  cases z:G a with
  |none=>rw[z]at w;exact(Zl w).elim
  |some o =>
   rw[z]at w;cases o with
   |lst ys =>let⟨us,h1,h2⟩:=g a _ z;refine .inl<|.inl ⟨a,us,rfl,.inl<|f9.of h1,?_⟩;rw[<-h2.length];exact c _ G H _ (fx.refl H) g (.int _)<|Zq w
   |dct kvs =>let⟨ps,h1,h2⟩:=g a _ z;refine .inr ⟨a,ps,rfl,h1,?_⟩;rw[<-h2.length];exact c _ G H _ (fx.refl H) g (.int _)<|Zq w
   |_=>exact(Zl w).elim
 |tup ys =>
  cases rx with
  |tup hp hr =>refine .inl<|.inl ⟨_,_,rfl,.inr<|Zj hp,?_⟩;rw[<-hr.length];exact c _ G H _ (fx.refl H) g (.int _)<|Zq w
 |scr ns =>
  cases rx with
  |scr h =>refine .inl<|.inl ⟨_,_,rfl,.inl<|Z8 h,?_⟩;rw[Á];exact c _ G H _ (fx.refl H) g (.int _)<|Zq w
 |str s =>cases rx.str_inv;let⟨hl,w⟩:=Wi w;refine .inl (.inr ⟨_,rfl,by rw[ZG];exact Ö hl Ye,?_⟩);rw[ZG];exact c _ G H _ (fx.refl H) g (.int _)<|Zq w
 |_=>exact(Zl w).elim
def Fj:Na i .list λxs H Q=>∃p ys,xs=[.ref p]/\(f9 i.K H p ys\/gc i.K H p ys)/\∀l,H l=eS->Q (.ref l) (upd H l<|.lst ys):=by
 intro vs G H xs Q Qm g r w c;let⟨v,rfl,w⟩:=Xp w;let⟨x,rfl,rx⟩:=r.inv1;cases v with
 |ref a =>cases rx.ref_inv;let⟨ys,e,w⟩:=Oc (f:=λxs=>.new<|.lst xs) w;let⟨us,h1,h2⟩:=g a _ e;exact⟨a,us,rfl,.inl<|f9.of h1,ZW g (Ku w) c λp hp=>⟨_,eX,h2.keep<|fx.new hp⟩⟩
 |tup ys =>
  cases rx with
  |tup hp hr=>exact⟨_,_,rfl,.inr<|Zj hp,ZW g (Ku w) c λp hp=>⟨_,eX,hr.keep<|fx.new hp⟩⟩
 |_=>exact(Zl w).elim
def AK{K:Frag}:∀{xs:List O.Val}{bs:List Bool}{vs:List V},O.blsOf xs=eQ bs->RVs K H xs vs->vs=bs.map V.bl:=by
 intro xs;induction xs with
 |nil=>intro bs vs e r;cases e;cases r;rfl
 |cons v xs ih =>
  intro bs vs e r;cases v<;>first|(cases e;done)|skip
  case bl b =>
  simp![O.blsOf]at e;cases z:O.blsOf xs with
  |none=>rw[z]at e;cases e
  |some ns=>rw[z]at e;cases e;cases r with|cons a t=>cases a.bl_inv;rw[ih z t];rfl
def Pe{o:Option O.Val}{h:O.Hs}{Q:O.Q1}(w:(O.Rs.ofO o).wp h Q):∃v,o=eQ v/\Q v h:=by
 cases o with
 |none=>exact(Zl w).elim
 |some v=>exact⟨v,rfl,Zq w⟩
def Ls:Na i .all λxs H Q=>∃p,∃bs:List Bool,xs=[.ref p]/\f9 i.K H p (bs.map V.bl)/\Q (.bl<|bs.all id) H:=by
 intro vs G H xs Q Qm g r w c;let⟨v,rfl,w⟩:=Xp w;let⟨x,rfl,rx⟩:=r.inv1;cases v with
 |ref a =>cases rx.ref_inv;let⟨v,e,w⟩:=Pe w;let⟨ys,z,e⟩:=æ.mp e;let⟨bs,z2,rfl⟩:=Í.mp e;let⟨us,h1,h2⟩:=ZE g z;have:=AK z2 h2;subst this;exact⟨a,bs,rfl,h1,c _ G H _ (fx.refl H) g (.bl _) w⟩
 |_=>exact(Zl w).elim
def Dr(ds:List O.D)(d:O.D):(toDs ds).any (λe=>İ e<|toD d)=ds.any λe=>O.D.eqv e d:=by
 induction ds with
 |nil=>rfl
 |cons e es ih=>simp![toDs,Ğ,ih,MN]
variable {y:V}{ys:List O.Val}
def U6(g:RH i G H){v u:O.Val}{x:V}{c:Bool}(rx:RV i.K H v x)(e:O.inL G v ys=eQ c)(hy:∀ds,ys.mapM (O.dat G<|O.deep - 1)=eQ ds->IsD i.K H y (.tuple<|toDs ds)\/IsD i.K H y (.list<|toDs ds)) :
  ∃ds d,(IsD i.K H y (.tuple ds)\/IsD i.K H y (.list ds))/\IsD i.K H x d/\Ś ds=eU/\d.canLay0=eU/\d.depth<=64/\ds.any (λe=>İ e d)=c:=by
 unfold O.inL at e;cases z:O.dat G O.deep v with
 |none=>rw[z]at e;cases e
 |some d =>
  rw[z]at e;simp![î]at e;cases z2:ys.mapM (O.dat G<|O.deep - 1)with
  |none=>rw[z2]at e;cases e
  |some ds =>rw[z2]at e;cases e;exact⟨_,_,hy ds z2,Ww g _ _ _ _ z rx,toDs_lay ds,MW d,Ö (Mb _ _ _ z) ↥1,Dr ds d⟩
def UN(g:RH i G H)(ry:RV i.K H u y)(hu:u=.tup ys\/∃a,u=.ref a/\O.fj (G a)=eQ ys):∀ds,ys.mapM (O.dat G<|O.deep - 1)=eQ ds->IsD i.K H y (.tuple<|toDs ds)\/IsD i.K H y (.list<|toDs ds):=by
 intro ds hd;rcases hu with rfl|⟨a,rfl,hl⟩
 .left;have:=Ww g O.deep (.tup ys) (.tup ds) y (by show Option.map _ (List.mapM (O.dat G<|O.deep - 1) ys)=_;rw[hd];rfl) ry;simpa[toD]using this
 .right;have:=Ww g O.deep (.ref a) (.lst ds) y (by show(O.fj<|G a).bind _=_;rw[hl];show Option.map _ (List.mapM (O.dat G<|O.deep - 1) ys)=_;rw[hd];rfl) ry;simpa[toD]using this
def PF(s t:String)(c:Char)(h:O.oneC s=eQ c):(!(Builtin.Str.occurrences (gC t) (gC s) 0 (gC t).length 1).isEmpty)=gB (c∈t.toList):=by
 have e:gC s=⟨#[c.toNat]⟩:=by
  unfold O.oneC at h;split at h
  .rename_i d hd;cases h;rw[Str.ofString_eq_toList,hd];rfl
  .cases h
 rw[e,StrLaws.found_one,Mr];have inj:∀{a b:Char},a.toNat=b.toNat->a=b:=λ{a b} e=>Char.ext<|bQ e;by_cases hc:c∈t.toList
 .rw[gy hc,gz];exact Ć hc
 .rw[gx hc,decide_eq_false_iff_not];intro m;let⟨d,hd,he⟩:=Ô.mp m;exact hc<|inj he▸hd
abbrev Rf(K:Frag):R2:=λx y H Q=>Ge eV x y H Q\/Gn K eV x y H Q\/∃i j,x=.str i/\y=.str j/\Q (.bl (!(Builtin.Str.occurrences j i 0 j.length 1).isEmpty)) H
abbrev QK(K:Frag):R2:=λx y H Q=>Ge eU x y H Q\/Gn K eU x y H Q\/∃i j,x=.str i/\y=.str j/\Q (.bl (!(!(Builtin.Str.occurrences j i 0 j.length 1).isEmpty))) H
def SL(hu:X.A.units+65<Ģ):OpR X (ñ .In)<|Rf X.K:=(Lv<|by lia).or ((QC hu).or AS)
def S7(hu:X.A.units+65<Ģ):OpR X (ñ .NotIn)<|QK X.K:=(PR<|by lia).or ((Bc hu).or MM)
def Iu{v u:O.Val}{G:O.Hs}{H:Hp}{x y:V}{b:Bool}(g:RH i G H)(rx:RV i.K H v x)(ry:RV i.K H u y)(e:O.inV G v u=eQ b) :
  (∃ds d,(IsD i.K H y (.tuple ds)\/IsD i.K H y (.list ds))/\IsD i.K H x d/\Ś ds=eU/\d.canLay0=eU/\d.depth<=64/\ds.any (λe=>İ e d)=b)\/
  (∃j k,x=.str j/\y=.str k/\(!(Builtin.Str.occurrences k j 0 k.length 1).isEmpty)=b)\/∃a o,y=.ref a/\DGet H a x o/\o.isSome=b:=by
 cases u with
 |tup ys=>exact .inl<|U6 (u:=.tup ys) g rx e<|UN g ry<|.inl rfl
 |ref a =>
  replace e:(match G a with|some (.lst xs)=>O.inL G v xs|some (.dct kvs)=>if O.fv v then eQ (O.fz kvs v)else eS|some (.frz kvs)=>if O.fv v then eQ (O.fz kvs v)else eS|some (.dtp kvs)=>if O.isKeyT v then eQ (O.fz kvs v)else eS|_=>eS)=eQ b:=e
  cases z:G a with
  |none=>rw[z]at e;cases e
  |some o =>
   rw[z]at e;cases o with
   |lst ys=>exact .inl (U6 (u:=.ref a) g rx e<|UN g ry<|.inr ⟨a,rfl,by rw[z];rfl⟩)
   |dct kvs =>let⟨hk,e⟩:=Zg (show(if O.fv v then eQ (O.fz kvs v)else eS)=eQ b from e);cases e;let⟨ps,h1,h2⟩:=g a _ z;let⟨d,kr,rfl⟩:=fm hk rx;exact .inr (.inr ⟨a,_,ry.ref_inv,DGet.k h1,by rw[h2.has kr,Xf]⟩)
   |frz kvs =>let⟨hk,e⟩:=Zg (show(if O.fv v then eQ (O.fz kvs v)else eS)=eQ b from e);cases e;let⟨ob,ps,h1,h2⟩:=g a _ z;let⟨d,kr,rfl⟩:=fm hk rx;exact .inr (.inr ⟨a,_,ry.ref_inv,.inl ⟨ps,d,.inr ⟨ob,h1⟩,rfl,rfl⟩,by rw[h2.has kr,Xf]⟩)
   |dtp kvs =>let⟨hk,e⟩:=Zg (show(if O.isKeyT v then eQ (O.fz kvs v)else eS)=eQ b from e);cases e;let⟨ps,h1,h2⟩:=g a _ z;let⟨k1,k2,d,rfl,rfl,hd⟩:=Xw hk rx;exact .inr (.inr ⟨a,_,ry.ref_inv,DGet.t h1 hd,by rw[h2.has,Xf]⟩)
   |_=>cases e
 |str t =>
  cases v with
  |str s =>let⟨c,z,rfl⟩:=Í.mp e;exact .inr<|.inl ⟨_,_,rx.str_inv,ry.str_inv,PF s t c z⟩
  |_=>cases e
 |_=>cases e
def GX{o:Option Bool}{b:Bool}(e:o.map (!·)=eQ b):o=eQ (!b):=by let⟨c,z,rfl⟩:=Í.mp e;rw[z,au]
def Tw:Z4 i .isin<|Rf i.K:=by
 k_get;rcases Iu g rx ry e with⟨ds,d,h1,h2,h3,h4,h5,h6⟩|⟨j,k,h1,h2,h3⟩|⟨a,o,h1,h2,h3⟩
 .exact .inr (.inl ⟨ds,d,h1,h2,h3,h4,h5,by show Q (.bl<|List.any _ _) H;rw[h6];exact q⟩)
 .exact .inr (.inr ⟨j,k,h1,h2,by rw[h3];exact q⟩)
 .exact .inl ⟨a,o,h1,h2,by rw[h3,bx];exact q⟩
def Tj:Z4 i .notin<|QK i.K:=by
 k_get;rcases Iu g rx ry (GX e)with⟨ds,d,h1,h2,h3,h4,h5,h6⟩|⟨j,k,h1,h2,h3⟩|⟨a,o,h1,h2,h3⟩
 .exact .inr (.inl ⟨ds,d,h1,h2,h3,h4,h5,by show Q (.bl (!List.any _ _)) H;rw[h6,au];exact q⟩)
 .exact .inr (.inr ⟨j,k,h1,h2,by rw[h3,au];exact q⟩)
 .exact .inl ⟨a,o,h1,h2,by rw[h3,Bool.true_xor,au];exact q⟩
variable {a:Expr}{b:Expr}{d:Expr}{ma:O.E}{mb:O.E}{r:R2}{pos:Pos}
def G0(ho:OpR X (ñ op) r)(hr:Z4 i cop r)(aF:OpR X (ñ du) r')(hr':Z4 i cop' r')(ha:PE X a<|tE X i Φ ma)(hb:PE X b<|tE X i Φ mb)(hd:PE X d<|tE X i Φ md)(hm:bC [op,du] [b,d]=eV) :
  PE X (.Compare a [op,du] [b,d] pos) (tE X i Φ<|.chain cop cop' ma mb md) :=
 (Cd ho aF ha hb hd hm).imp λσ H Q ⟨env,G,Qm,Em,p,w,k⟩=>by
  exact two p w λv u G2 H2 x y k2 p2 rx ry q=>by
   let⟨c,e,q⟩:=eZ q;refine hr v u G2 H2 x y c _ p2.hp rx ry e ⟨c,rfl,?_⟩;cases c with
   |true =>
    rw[gu rfl]at q ⊢;exact one p2 q λt G3 H3 z k3 p3 rz q=>by let⟨d2,e2,q⟩:=eZ q;exact hr' u t G3 H3 y z d2 Q p3.hp (ry.keep k3) rz e2<|k (.bl d2) G3 H3 (.bl d2) (k2.trans k3) p3.hp (.bl d2) q
   |false =>rw[gw û]at q ⊢;exact k _ G2 H2 _ k2 p2.hp (.bl _) q
def Dm(ho:OpR X (ñ op) r)(hr:Z4 i cop r)(aF:OpR X (ñ du) r')(hr':Z4 i cop' r')(ha:PE X a<|tE X i Φ ma)(hb:PE X b<|tE X i Φ mb)(hd:PE X d<|tE X i Φ md)(hm:bC [op,du] [b,d]=eV) :
  PT X (.Compare a [op,du] [b,d] pos) (tTt X i Φ<|.val<|.chain cop cop' ma mb md) :=
 (DE ho aF ha hb hd hm).imp λσ H Q ⟨env,G,Qm,Em,p,w,k⟩=>by
  exact two p w λv u G2 H2 x y k2 p2 rx ry q=>by
   let⟨c,e,q⟩:=eZ q;refine hr v u G2 H2 x y c _ p2.hp rx ry e ⟨c,rfl,?_⟩;cases c with
   |true =>
    rw[gu rfl]at q ⊢;exact one p2 q λt G3 H3 z k3 p3 rz q=>by let⟨d2,e2,q⟩:=eZ q;let⟨d3,e3,q⟩:=eZ q;cases e3;exact hr' u t G3 H3 y z d2 _ p3.hp (ry.keep k3) rz e2 ⟨d2,rfl,k d2 G3 H3 (k2.trans k3) p3.hp q⟩
   |false =>rw[gw û]at q ⊢;let⟨d3,e3,q⟩:=eZ q;cases e3;exact⟨eV,rfl,k _ G2 H2 k2 p2.hp q⟩
def Cc{st:ń}:PS X st<|tSt X i Φ .never:=λÂ s σ H D I ⟨env,G,N,R,B,C,Xe,p,w,c⟩=>by exact w.elim
end Snd
namespace L2
open PySem PySem.Spec PyProof.Rows
def Rn{x:V}{xs:List V}{ø:List Ã}(hl:(x::xs).length=ø.length):(ø.toArray.size != (#[]:Array Ã).size)=eU:=by
 cases ø with
 |nil=>cases hl
 |cons y ys=>simp
section
variable {X:Cx}
abbrev Sg(K:Frag)(n:Bool):R2:=λx y H Q=>∃a b xs,x=.ref a/\y=.ref b/\f9 K H a xs/\f9 K H b []/\Q (.bl<|n ^^ xs.isEmpty) H
def Eo(hu:X.A.units+64<Ģ):OpR X (ñ .Eq)<|Sg X.K eV:=by
 k_ne;let⟨a,b,xs,rfl,rfl,ha,hb,q⟩:=h;cases rx;cases ry;let⟨ø,rv,pl,_⟩:=I.list ha;let⟨bw,rv2,pl2,_⟩:=I.list hb;cases rv2;have hl:=rv.length;cases xs with
 |nil =>have:ø=[]:=ύ.mp hl.symm;subst this;exact SeqAt.RcAt.lists (A:=X.A) (e:=λ_=>eU) pl.isList pl2.isList rfl ↥0 (λj j1 _=>by simp at j1) X.prog X.w X.xe _ ⟨.bl eU,H,I,rfl,q⟩
 |cons x xs =>exact SeqAt.RcAt.lists_lengths (A:=X.A) pl.isList pl2.isList (Rn hl) ↥0 X.prog X.w X.xe _ ⟨.bl eV,H,I,rfl,q⟩
end
end L2
namespace Snd
open PySem L2
variable {i:Inf}{H:Hp}
variable {x:V}{xs:List O.Val}
def WI(g:RH i G H)(r:RV i.K H v x)(e:O.asLst G v=eQ xs):∃a vs,x=.ref a/\f9 i.K H a vs/\RVs i.K H xs vs:=by
 cases v with
 |ref a =>cases r;let⟨vs,h1,h2⟩:=ZE g e;exact⟨a,vs,rfl,h1,h2⟩
 |_=>cases e
def DC(g:RH i G H){v u:O.Val}{y:V}(rx:RV i.K H v x)(ry:RV i.K H u y){c:Bool}{f:List O.Val->List O.Val->Option Bool}(e:((O.asLst G v).bind λxs=>(O.asLst G u).bind λys=>f xs ys)=eQ c):∃xs ys a b vs us,f xs ys=eQ c/\x=.ref a/\y=.ref b/\f9 i.K H a vs/\f9 i.K H b us/\RVs i.K H xs vs/\RVs i.K H ys us:=by
 cases z:O.asLst G v with
 |none=>rw[z]at e;cases e
 |some xs =>
  cases z2:O.asLst G u with
  |none=>rw[z,z2]at e;cases e
  |some ys =>rw[z,z2]at e;let⟨a,vs,h1,h2,h3⟩:=WI g rx z;let⟨b,us,k1,k2,k3⟩:=WI g ry z2;exact⟨xs,ys,a,b,vs,us,e,h1,k1,h2,k2,h3,k3⟩
def FE(h:RVs i.K H xs vs):vs.isEmpty=xs.isEmpty:=by cases h<;>rfl
def c_eqE:Z4 i .eqE<|Sg i.K eV:=by
 k_get;let⟨xs,ys,a,b,vs,us,e,h1,h2,h3,h4,h5,h6⟩:=DC g rx ry e;split at e
 .rename_i z;cases e;cases h6 with
  |nil=>exact⟨a,b,vs,h1,h2,h3,h4,by rw[FE h5,bx];exact q⟩
  |cons _ _=>cases z
 .cases e
variable {i:Inf}{X:Cx}
def _root_.L2.PJ.imp(h:PJ X vs t)(f:∀σ H ĸ Q,t' σ H ĸ Q->t σ H ĸ Q):PJ X vs t':=λÂ s σ H ĸ Q I q=>h Â s σ H ĸ Q I (f σ H ĸ Q q)
def Nu(g:RH i G H)(hp:H p=eS):RH i G<|upd H p o:=g.hid (fx.new hp) λb u e=>eW (by rintro rfl;rw[g.free hp]at e;cases e)
abbrev tE0(i:Inf)(Φ:O.Fs)(m:O.E):TE:=λσ H Q=>∃env G Qm,REn i.K H env σ/\RH i G H/\O.wE Φ m env G Qm (λ_ _=>False)/\Cn i H Q Qm
abbrev tT0(i:Inf)(Φ:O.Fs)(m:O.Tt):TT:=λσ H Q=>∃env G Qm,REn i.K H env σ/\RH i G H/\O.wT Φ m env G Qm (λ_ _=>False)/\∀b G' H',fx H H'->RH i G' H'->Qm b G'->Q b H'
def Ac:XOk X i H λ_ _=>False:=λÂ σ H0 s H' a cls s' I f ⟨_,_,_,_,_,_,_,z⟩=>z.elim
variable {e:Expr}
def pe0(h:PE X e<|tE X i Φ m):PE X e<|tE0 i Φ m:=h.imp λσ H Q ⟨env,G,Qm,r,g,w,c⟩=>⟨env,G,Qm,_,⟨r,g,Ac⟩,w,c⟩
def pt0(h:PT X e<|tTt X i Φ m):PT X e<|tT0 i Φ m:=h.imp λσ H Q ⟨env,G,Qm,r,g,w,c⟩=>⟨env,G,Qm,_,⟨r,g,Ac⟩,w,c⟩
def _root_.L2.PIfs.imp(h:PIfs X es t)(f:∀σ H Q,t' σ H Q->t σ H Q):PIfs X es t':=λÂ s σ H Q I q=>h Â s σ H Q I (f σ H Q q)
def QB:PIfs X []<|tT0 i Φ .yes:=pifs_nil.imp λσ H Q ⟨env,G,Qm,r,g,w,c⟩=>by exact c eU G H (fx.refl H) g w
def FM{K:Frag}(r:REn K H env σ)(kp:fx H H'):REn K H' (Û k eS++Ă.map λj=>(env[j]?).getD eS)<|Û k eS++Uy σ Ă:=by
 refine⟨by simp[Uy],λn u e=>?_⟩;by_cases hn:n<k
 .rw[ď (by rw[ú];exact hn),ő,gu hn]at e;cases e
 .rw[ċ (by rw[ú];lia),ú]at e ⊢;generalize n - k=n at e ⊢;simp![Ù]at e;cases z:Ă[n]? with
  |none=>rw[z]at e;cases e
  |some j =>
   rw[z]at e;simp![Ę,ı]at e;cases z2:env[j]? with
   |none=>rw[z2]at e;cases e
   |some o =>rw[z2]at e;have e:o=eQ u:=e;subst e;let⟨y,h1,h2⟩:=r.get j u z2;exact⟨y,by unfold Uy;rw[Ù,z];show eQ ((σ[j]?).getD eS)=_;rw[h1];rfl,h2.keep kp⟩
abbrev Bl(k:Nat):O.Pt->Bool
 |.one j=>gB (j<k)
 |.many js=>js.all λj=>gB (j<k)
 |.nest _ _=>eV
def Mp:∀{js:List Nat}{vs:List O.Val}{l Ŝ:O.Env},(js.all λj=>gB (j<l.length))=eU->O.bindL js vs (l++r)=eQ Ŝ->∃l',Ŝ=l'++r/\l'.length=l.length
 |[],[],l,_,_,e=>by cases e;exact⟨l,rfl,rfl⟩
 |j::js,v::vs,l,_,h,e=>by rw[List.all_cons,bAq,gz]at h;have e:O.bindL js vs ((l++r).set j<|eQ v)=_:=e;rw[cW _ _ h.1]at e;let⟨l',h1,h2⟩:=Mp (l:=l.set j<|eQ v) (by rw[ϙ];exact h.2) e;exact⟨l',h1,by rw[h2,ϙ]⟩
 |[],_::_,_,_,_,h=>by cases h
 |_::_,[],_,_,_,h=>by cases h
variable {l:O.Env}{r:O.Env}
def CQ(h:Bl l.length p=eU)(e:O.bind p G v (l++r)=eQ Ŝ):∃l',Ŝ=l'++r/\l'.length=l.length:=by
 cases p with
 |one j =>have e:eQ ((l++r).set j<|eQ v)=eQ Ŝ:=e;cases e;exact⟨l.set j<|eQ v,by rw[cW _ _<|of_decide_eq_true h],ϙ⟩
 |many js =>
  cases v with
  |tup vs=>exact Mp h e
  |_=>cases e
 |nest j js=>cases h
def REn.pre{K:Frag}(q:REn K H (l++r) τ):REn K H (Û l.length eS++r) τ:=by
 refine⟨by rw[<-q.len];simp,λn u e=>?_⟩;by_cases hn:n<l.length
 .rw[ď (by rw[ú];exact hn),ő,gu hn]at e;cases e
 .rw[ċ (by rw[ú];lia),ú]at e;exact q.get n u (by rw[ċ<|by lia];exact e)
def Aj(hk:Bl k pt=eU){mt:O.Tt}:∀σ H Q,tE X i Φ (.comp Ă k pt mi mt me) σ H Q->Do (tIt X i Φ mi) k Ă (gPt i pt) (tT0 i Φ mt) (tE0 i Φ me) σ H Q:=λσ H Q ⟨env,G,Qm,Em,p,w,c⟩=>by
 refine⟨env,G,_,Em,p,w,λst xs G1 H1 J k1 g1 it w1=>?_⟩;let⟨hl,w1⟩:=w1;generalize hstep:(λ(v:O.Val) (h2:O.Hs) (K:Option O.Val->O.Hs->Prop) (X2:O.XQ)=>O.go (O.bind pt h2 v<|Û k eS++Ă.map λj=>(env[j]?).getD eS) λŜ =>
       O.wT Φ mt Ŝ h2 (λk h3=>if k=eU then O.wE Φ me Ŝ h3 (λu h4=>K (eQ u) h4) X2 else K eS h3) X2)=step at w1
 refine⟨λn m ys τ H'=>n+m=xs.length/\ys.length<=n/\REn i.K H' (Û k eS++Ă.map λj=>(env[j]?).getD eS) τ/\∃ĸ G',fx H1 H'/\RH i G' H'/\RVs i.K H' ĸ ys/\O.wComp st step (xs.drop n) ĸ G' (λys h5=>O.new h5 (.lst ys) Qm) (λ_ _=>False),⟨xs.length,by lia,by simp,FM p.en k1,[],G1,fx.refl _,g1,.nil,⇑w1⟩,?_⟩;rintro n m ys τ H' ⟨hnm,hly,en2,ĸ,G',k2,g2,r2,w2⟩;refine⟨é (Õ (Ö hly<|by lia) hl) Ye,?_⟩;by_cases hn:n<xs.length
 .right;have hd:xs.drop n=xs[n]::xs.drop (n+1):=Ŭ hn;rw[hd]at w2;let⟨s2,w2⟩:=w2;have hv:xs[n]?=eQ xs[n]:=È hn;let⟨a1,a2⟩:=it.go n G' H' xs[n] k2 g2 s2 hv;refine⟨a1,λys3 τ3 H3=>ys3.length<=n+1/\REn i.K H3 (Û k eS++Ă.map λj=>(env[j]?).getD eS) τ3/\∃acc3 G3,fx H1 H3/\RH i G3 H3/\RVs i.K H3 acc3 ys3/\O.wComp st step (xs.drop<|n+1) acc3 G3 (λys h5=>O.new h5 (.lst ys) Qm) (λ_ _=>False),λys3 τ3 H3 h=>⟨m - 1,by lia,by lia,h.1,h.2⟩,λx H3 hy=>?_⟩;let⟨k3,g3,r3⟩:=a2 x H3 hy;rw[<-hstep]at w2;let⟨cU,e4,w4⟩:=eZ w2;rw[hstep]at w4;let⟨l',e5,h5⟩:=CQ (l:=Û k eS) (by rw[ú];exact hk) e4;rw[ú]at h5;refine⟨xs[n],_,G',cU,r3,g3,en2.keep k3,e4,λτ4 en4=>?_⟩;have aV:REn i.K H3 (Û k eS++Ă.map λj=>(env[j]?).getD eS) τ4:=by
   rw[e5]at en4;have:=en4.pre;rw[h5]at this;exact this
  refine⟨_,G',_,en4,g3,w4,λd G5 H5 k5 g5 q5=>?_⟩;have kk:=(k2.trans k3).trans k5;cases d with
  |true =>refine⟨_,G5,_,en4.keep k5,g5,⇑q5,λu G6 H6 y k6 g6 r6 q6=>?_⟩;exact⟨⇑hly,(aV.keep k5).keep k6,_,G6,kk.trans k6,g6,((((r2.keep k3).keep k5).keep k6).append<|.cons r6 .nil),q6⟩
  |false =>rw[gw û]at q5;change if eV=eU then _ else _;rw[gw û];have q5:O.wComp st step (xs.drop<|n+1) (ĸ++[]) G5 (λys h5=>O.new h5 (.lst ys) Qm) λ_ _=>False:=q5;rw[ć]at q5;exact⟨by lia,aV.keep k5,ĸ,G5,kk,g5,(r2.keep k3).keep k5,q5⟩
 .left;have hd:xs.drop n=[]:=Ŗ ↥0;rw[hd]at w2;refine⟨it.stop n G' H' k2 g2 w2.1 ↥0,?_⟩;exact ZW g2 w2.2 ((c.go k1).go k2) λq hq=>⟨_,eX,r2.keep<|fx.new hq⟩
abbrev MI(i:Inf)(m:O.Bm)(r:V->List V->Hp->VK->Prop):Prop:=∀(v:O.Val) (vs:List O.Val) (G:O.Hs) (H:Hp) (x:V) (xs:List V) (t:O.Val×O.Hs) (Q:VK) (Qm:O.Q1),
 RH i G H->RV i.K H v x->RVs i.K H vs xs->O.bmV G m v vs=eQ t->Qm t.1 t.2->Cn i H Q Qm->r x xs H Q
abbrev Lw(i:Inf)(m:O.Bm)(T:String):Prop:=∀(v:O.Val) (G:O.Hs) (H:Hp) (x:V),RH i G H->RV i.K H v x->O.bmTy G m v=eU->tyV i.K T x H
variable {m:O.Bm}
def NZ{o e:Expr}{es:List Expr}{name:Str}{œ Ũ:Pos}{T id:String}{r:V->List V->Hp->VK->Prop}{mo:O.E}{ms:O.Es}{n:Nat}(hK:X.K=i.K)(pa:PlainAttrs T)(slot:Slot T name id)(hty:typeOf (.builtin id)=pure (.type "method_descriptor"))(mt:MtR X id r)(hT:Lw i m T)(hr:MI i m r)
  (ho:PE X o<|tE X i Φ mo) (ha:PA X (e::es)<|tAr X i Φ ms n) (aR:Ĭ o name X.env (eval o X.env)=eval o X.env)
  (ϸ:((Ī Ũ<|à (e::es) X.env).all (λx=>!x.1)&&(Ž Ũ<|ŏ [] X.env).all (λx=>x.1.isSome)&&gB ((e::es).length+([]:List bf).length+(if([]:List bf).isEmpty then 0 else 1)<30))=eU)
  (aS:(œ.endLine==Ũ.line)=eU) (hs:à (e::es) X.env=(eV,eval e X.env)::à es X.env) (cO:(Ī Ũ<|à es X.env).any (·.1)=eV) :
  PE X (.Call (.Attribute o name œ) (e::es) [] Ũ) (tE X i Φ<|.bm m mo ms) :=
 (RD pa slot hty mt ho ha aR ϸ aS hs cO).imp λσ H Q ⟨env,G,Qm,Em,p,w,c⟩=>by
  refine one p w λv G1 H1 x k1 p1 rv q=>⟨by rw[hK];exact hT v G1 H1 x p1.hp rv q.1,env,G1,_,Em,p1,q.2,λvs G2 H2 xs k2 g2 r2 _ w2=>?_⟩
  let⟨t,e,w3⟩:=eZ w2;exact hr v vs G2 H2 x xs t Q Qm g2 (rv.keep k2) r2 e w3<|(c.go k1).go k2
def Ue(h:O.isDct o=eU):(∃xs,o=eQ (.dct xs))\/∃xs,o=eQ (.dtp xs):=by
 cases o with
 |none=>cases h
 |some o=>cases o with
  |dct xs=>exact .inl ⟨xs,rfl⟩
  |dtp xs=>exact .inr ⟨xs,rfl⟩
  |_=>cases h
def PZ(hm:m.ty=.l):Lw i m "list":=λv G H x g r h=>by
 unfold O.bmTy at h;rw[hm]at h;cases v with
 |ref a =>cases r.ref_inv;let⟨xs,e⟩:=UA (show O.isLst (G a)=eU from h);let⟨vs,h1,_⟩:=g a _ e;exact .inl ⟨rfl,vs,f9.of h1⟩
 |_=>cases h
def CI(hm:m.ty=.d):Lw i m "dict":=λv G H x g r h=>by
 unfold O.bmTy at h;rw[hm]at h;cases v with
 |ref a =>
  cases r.ref_inv;rcases Ue (show O.isDct (G a)=eU from h)with⟨xs,e⟩|⟨xs,e⟩
  .obtain⟨vs,h1,_⟩:=g a _ e;exact .inr<|.inr<|.inl ⟨rfl,.inl ⟨vs,h1⟩⟩
  .obtain⟨vs,h1,_⟩:=g a _ e;exact .inr<|.inr<|.inl ⟨rfl,.inr ⟨vs,h1⟩⟩
 |_=>cases h
def Nw(e:O.bmL G v f=eQ t):∃a xs,v=.ref a/\G a=eQ (.lst xs)/\f a xs=eQ t:=by
 cases v with
 |ref a=>let⟨xs,h1,h2⟩:=Ea e;exact⟨a,xs,rfl,h1,h2⟩
 |_=>cases e
variable {vs:List O.Val}{α:Type}{a:α}
def HH{f:O.Val->Option α}(e:(match vs with|[v]=>f v|_=>eS)=eQ a):∃v,vs=[v]/\f v=eQ a:=by
 cases vs with
 |nil=>cases e
 |cons v vs=>cases vs with
  |nil=>exact⟨v,rfl,e⟩
  |cons _ _=>cases e
def LC:MI i .append UO:=λv vs G H x xs t Q Qm g rx rs e q c=>by let⟨a,ys,rfl,e4,e3⟩:=Nw e;let⟨u,rfl,e3⟩:=HH e3;let⟨hl,e3⟩:=Zg e3;cases e3;cases rx.ref_inv;let⟨y,rfl,ry⟩:=rs.inv1;let⟨us,h2,r2⟩:=g a _ e4;let⟨k3,g3⟩:=Je (xs:=ys) g h2 (ys++[u]) (us++[y])<|r2.app1 ry;exact⟨a,us,y,rfl,rfl,h2,by rw[<-r2.length];exact é hl Ye,c _ _ _ _ k3 g3 .non q⟩
def Fw:MI i .popAt E1:=λv vs G H x xs t Q Qm g rx rs e q c=>by
 let⟨a,ys,rfl,e4,e3⟩:=Nw e;unfold O.bmPopAt at e3;split at e3
 .rename_i n;let⟨hn,e3⟩:=Zg e3;let⟨k,z,e3⟩:=æ.mp e3;let⟨yv,z2,rfl⟩:=Í.mp e3;cases rx.ref_inv;let⟨y,rfl,ry⟩:=rs.inv1;cases ry.int_inv;let⟨us,h2,r2⟩:=g a _ e4;let⟨xv,hx,rv⟩:=r2.get z2;rw[MZ,r2.length]at z;let⟨s1,s2,s3,s4⟩:=MO z;let⟨k3,g3⟩:=Je (xs:=ys) g h2 (ys.eraseIdx k) (us.eraseIdx k)<|r2.eraseIdx k;exact⟨a,us,n,k,xv,rfl,rfl,h2,by lia,by lia,s1,hx,c _ _ _ _ k3 g3 (rv.keep k3) q⟩
 .cases e3
def Ja(e:O.bmD G v f=eQ t):∃a kvs,v=.ref a/\G a=eQ (.dct kvs)/\f a kvs=eQ t:=by
 cases v with
 |ref a =>
  let⟨kvs,h1,h2⟩:=æ.mp (show(O.gh<|G a).bind (f a)=eQ t from e);refine⟨a,kvs,rfl,?_,h2⟩;cases z:G a with
  |none=>rw[z]at h1;cases h1
  |some o =>
   rw[z]at h1;cases o with
   |dct ys=>cases h1;rfl
   |_=>cases h1
 |_=>cases e
def LZ{f:O.Val->O.Val->Option α}(e:(match vs with|[v,u]=>f v u|_=>eS)=eQ a):∃v u,vs=[v,u]/\f v u=eQ a:=by
 cases vs with
 |nil=>cases e
 |cons v vs=>cases vs with
  |nil=>cases e
  |cons u us=>cases us with
   |nil=>exact⟨v,u,rfl,e⟩
   |cons _ _=>cases e
abbrev Cl:V->List V->Hp->VK->Prop:=λx vs H Q=>∃a y o,x=.ref a/\vs=[y]/\DGet H a y o/\Q (o.getD .non) H
def Eu(hu:X.A.units+1<Ģ):MtR X "dict.get" Cl:=by intro Â s σ H x vs v us Q I rx rv h;let⟨a,y,o,rfl,rfl,d,q⟩:=h;cases rx;let⟨u,rfl,ru⟩:=rv.one;exact Qn hu I d ru λw' s' I' aA=>⟨_,_,I',aA,q⟩
abbrev DP:V->List V->Hp->VK->Prop:=λx vs H Q=>∃a y z o,x=.ref a/\vs=[y,z]/\DGet H a y o/\Q (o.getD z) H
def CW(hu:X.A.units+1<Ģ):MtR X "dict.get" DP:=by intro Â s σ H x vs v us Q I rx rv h;let⟨a,y,z,o,rfl,rfl,d,q⟩:=h;cases rx;let⟨u,t,rfl,ru,rt⟩:=rv.two;exact Qv hu I d ru rt λw' s' I' aA=>⟨_,_,I',aA,q⟩
abbrev Dt:V->List V->Hp->VK->Prop:=λx vs H Q=>∃a kvs k v more,x=.ref a/\vs=kV k::more/\(more=[]\/∃z,more=[z])/\H a=eQ (.dK kvs)/\Yl kvs k=eQ v/\Q v (upd H a<|.dK<|fB kvs k)
def mt_dpop:MtR X "dict.pop" Dt:=by
 intro Â s σ H x vs v us Q I rx rv h;let⟨a,kvs,k,y,more,rfl,rfl,hm,hH,l,q⟩:=h;cases rx;rcases hm with rfl|⟨z,rfl⟩
 .obtain⟨u,rfl,ru⟩:=rv.one;exact ID I hH ru l (.inl rfl) λw' s' I' aA=>⟨_,_,I',aA,q⟩
 .obtain⟨u,t,rfl,ru,rt⟩:=rv.two;exact ID I hH ru l (.inr ⟨_,rfl⟩) λw' s' I' aA=>⟨_,_,I',aA,q⟩
abbrev EF:V->List V->Hp->VK->Prop:=λx vs H Q=>∃a kvs k z,x=.ref a/\vs=[kV k,z]/\H a=eQ (.dK kvs)/\Yl kvs k=eS/\Q z H
def Eb:MtR X "dict.pop" EF:=by intro Â s σ H x vs v us Q I rx rv h;let⟨a,kvs,k,z,rfl,rfl,hH,l,q⟩:=h;cases rx;let⟨u,t,rfl,ru,rt⟩:=rv.two;exact Qx I hH ru l λs' I'=>⟨_,_,I',rt,q⟩
def PB:MI i .dget Cl:=λv vs G H x xs t Q Qm g rx rs e q c=>by
 let⟨a,kvs,rfl,e4,e3⟩:=Ja e;let⟨k,rfl,e3⟩:=HH e3;let⟨hk,e3⟩:=Zg e3;cases e3;cases rx.ref_inv;let⟨y,rfl,ry⟩:=rs.inv1;let⟨ps,h2,r2⟩:=g a _ e4;let⟨d,kr,rfl⟩:=fm hk ry;refine⟨a,_,_,rfl,rfl,DGet.k (k:=d) h2,?_⟩;let⟨l1,l2⟩:=r2.look kr;cases z:O.fy kvs k with
 |none=>rw[l2 z];rw[z]at q;exact c _ _ _ _ (fx.refl H) g .non q
 |some u=>let⟨x,hx,rv⟩:=l1 u z;rw[hx];rw[z]at q;exact c _ _ _ _ (fx.refl H) g rv q
def LH:PE X (.Dict [] [] pos) (tE X i Φ .dctP) :=
 pe_dnewT.imp λσ H Q ⟨env,G,Qm,Em,p,w,c⟩=>by exact ZW p.hp w c λa ha=>⟨[],eX,.nil⟩
variable {kvs:List (O.Val×O.Val)}
def BW(e:O.dpAt G v=eQ kvs):∃a,v=.ref a/\G a=eQ (.dtp kvs):=by
 cases v with
 |ref a =>
  refine⟨a,rfl,?_⟩
  replace e:(match G a with|some (.dtp kvs)=>eQ kvs|_=>eS)=eQ kvs:=e
  cases z:G a with
  |none=>rw[z]at e;cases e
  |some o=>rw[z]at e;cases o<;>first|(cases e;rfl)|cases e
 |_=>cases e
def Gf:MI i .dgetD DP:=λv vs G H x xs t Q Qm g rx rs e q c=>by
 replace e:(match O.dpAt G v with|some kvs=>O.bmGetT G vs kvs|none=>O.bmD G v<|O.bmGetD G vs)=eQ t:=e
 cases zz:O.dpAt G v with
 |some kvs =>
  rw[zz]at e;let⟨a,rfl,e4⟩:=BW zz;have e:O.bmGetT G vs kvs=eQ t:=e;let⟨k,dv,rfl,e3⟩:=LZ e;let⟨hk,e3⟩:=Zg e3;cases e3;cases rx.ref_inv;let⟨y,z,rfl,ry,rz⟩:=rs.inv2;let⟨ps,h2,r2⟩:=g a _ e4;let⟨k1,k2,d,rfl,rfl,hd⟩:=Xw hk ry;refine⟨a,_,_,_,rfl,rfl,DGet.t h2 hd,?_⟩;let⟨l1,l2⟩:=r2.look (i:=k1) (j:=k2);cases z:O.fy kvs (.key k1 k2)with
  |none=>rw[l2 z];rw[z]at q;exact c _ _ _ _ (fx.refl H) g rz q
  |some u=>let⟨x,hx,rv⟩:=l1 u z;rw[hx];rw[z]at q;exact c _ _ _ _ (fx.refl H) g rv q
 |none =>
 rw[zz]at e;let⟨a,kvs,rfl,e4,e3⟩:=Ja e;let⟨k,dv,rfl,e3⟩:=LZ e3;let⟨hk,e3⟩:=Zg e3;cases e3;cases rx.ref_inv;let⟨y,z,rfl,ry,rz⟩:=rs.inv2;let⟨ps,h2,r2⟩:=g a _ e4;let⟨d,kr,rfl⟩:=fm hk ry;refine⟨a,_,_,_,rfl,rfl,DGet.k (k:=d) h2,?_⟩;let⟨l1,l2⟩:=r2.look kr;cases z:O.fy kvs k with
 |none=>rw[l2 z];rw[z]at q;exact c _ _ _ _ (fx.refl H) g rz q
 |some u=>let⟨x,hx,rv⟩:=l1 u z;rw[hx];rw[z]at q;exact c _ _ _ _ (fx.refl H) g rv q
def Lk:MI i .dpop Dt:=λv vs G H x xs t Q Qm g rx rs e q c=>by let⟨a,kvs,rfl,e4,e3⟩:=Ja e;let⟨k,rfl,e3⟩:=HH e3;let⟨hk,e3⟩:=Zg e3;let⟨u,z,rfl⟩:=Í.mp e3;cases rx.ref_inv;let⟨y,rfl,ry⟩:=rs.inv1;let⟨ps,h2,r2⟩:=g a _ e4;let⟨d,kr,rfl⟩:=fm hk ry;let⟨x,hx,rv⟩:=(r2.look kr).1 u z;let⟨k3,g3⟩:=Np (kvs:=kvs) g h2<|r2.drop kr;exact⟨a,ps,d,x,[],rfl,rfl,.inl rfl,h2,hx,c _ _ _ _ k3 g3 (rv.keep k3) q⟩
def Uj(h:O.fy kvs k=eS):O.fB kvs k=kvs:=by
 unfold O.fB;rw[ϴ];intro p hp;have h2:kvs.find? (λp=>p.1==k)=eS:=by unfold O.fy at h;exact Option.map_eq_none_iff.mp h
 simpa using List.find?_eq_none.mp h2 p hp
def Gg:MI i .dpopD λx vs H Q=>Dt x vs H Q\/EF x vs H Q:=λv vs G H x xs t Q Qm g rx rs e q c=>by
 let⟨a,kvs,rfl,e4,e3⟩:=Ja e;let⟨k,dv,rfl,e3⟩:=LZ e3;let⟨hk,e3⟩:=Zg e3;cases e3;cases rx.ref_inv;let⟨y,z,rfl,ry,rz⟩:=rs.inv2;let⟨ps,h2,r2⟩:=g a _ e4;let⟨d,kr,rfl⟩:=fm hk ry;let⟨l1,l2⟩:=r2.look kr;cases z:O.fy kvs k with
 |none =>
  refine .inr ⟨a,ps,d,_,rfl,rfl,h2,l2 z,?_⟩;rw[z,Uj z]at q;have e:O.upd G a (.dct kvs)=G:=by
   funext b;by_cases hb:b=a
   .subst hb;rw[O.eX,e4]
   .rw[O.eW hb]
  rw[e]at q;exact c _ _ _ _ (fx.refl H) g rz q
 |some u =>let⟨x,hx,rv⟩:=l1 u z;let⟨k3,g3⟩:=Np (kvs:=kvs) g h2<|r2.drop kr;rw[z]at q;exact .inl ⟨a,ps,d,x,_,rfl,rfl,.inr ⟨_,rfl⟩,h2,hx,c _ _ _ _ k3 g3 (rv.keep k3) q⟩
end Snd
namespace L2
open PySem PySem.Spec PyProof.Rows
section
variable {X:Cx}
def UY:∀{ns:List Int}{us:List Ã},gf (ns.map V.int) us->PySem.W.kf_ints us=eU
 |[],_,.nil=>rfl
 |_::ns,_,.cons ⟨_,e⟩ r=>by subst e;unfold PySem.W.kf_ints;exact UY (ns:=ns) r
def EC:∀{ns:List Int}{us:List Ã},gf (ns.map V.int) us->i∈ns->∃j,PySem.W.kf_at i us=eQ j/\ns.erase i=ns.eraseIdx j
 |[],_,_,h=>nomatch h
 |n::ns,_,.cons ⟨t,e⟩ r,h=>by
  subst e;by_cases e:n=i
  .subst e;exact⟨0,by simp[PySem.W.kf_at,isInt],by simp⟩
  .obtain⟨j,h1,h2⟩:=EC r<|(Å.mp h).resolve_left<|Ne.symm e;have e2:(n==i)=eV:=⇑e
   refine⟨j+1,?_,by simp[List.erase_cons,e,h2]⟩;simp[PySem.W.kf_at,isInt,e2,h1]
def Fa:∀(ns:List Int) (j:Nat),(ns.eraseIdx j).map V.int=(ns.map V.int).eraseIdx j
 |[],_=>rfl
 |_::_,0=>rfl
 |_::ns,j+1=>congrArg (_ :: ·)<|Fa ns j
abbrev U2:V->List V->Hp->VK->Prop:=λx vs H Q=>∃(l:Ì) (ns:List Int) (i:Int),x=.ref l/\vs=[.int i]/\H l=eQ (.lst<|ns.map V.int)/\i∈ns/\Q .non (upd H l<|.lst<|(ns.erase i).map V.int)
def BB:MtM X "list.remove" U2:=by
 intro Â s σ H x vs v us Q I rx rv h;let⟨l,ns,i,rfl,rfl,hH,hm,q⟩:=h;cases rx;let⟨u,rfl,ru⟩:=rv.one;let⟨t,rfl⟩:=ru;let⟨z,ø,n,r,hl,e⟩:=I.lstM hH;let⟨j,hj,he⟩:=EC r hm;let⟨a,b,c⟩:=PySem.W.kf_at_spec hj;refine aK F.slot_list_remove ⟨_,e,rfl⟩ F.entry_list_remove (F.args_list_remove_2 _ _)
  (MeetsSeq.list_remove l ø.toArray n (.int i t) (isInt i) (λy hy=>PySem.W.kf_eq (UY r) y<|by simpa using hy) j ⇑a ⇑b (λm hm h2=>by simpa using c m ⇑hm h2)<|by rw[Î];lia) ⟨e,?_⟩
 rw[he]at q;refine⟨.non,_,I.lset (its':=ø.eraseIdx j) hH e ?_ (by rw[Fa];exact r.eraseIdx j) ?_,rfl,q⟩
 .show ø.toArray.eraseIdxIfInBounds j=(ø.eraseIdx j).toArray;rw[ax]
 .have:=WN ns j;rw[Á]at z ⊢;lia
end
end L2
namespace Snd
open PySem L2 PyProof.Rows
variable {i:Inf}
def Pf:MI i .remove U2:=λv vs G H x xs t Q Qm g rx rs e q c=>by
 let⟨a,ys,rfl,e4,e3⟩:=Nw e;unfold O.bmRemove at e3;split at e3
 .rename_i n;let⟨ns,z,e3⟩:=æ.mp e3;let⟨hn,e3⟩:=Zg e3;cases e3;cases rx.ref_inv;let⟨y,rfl,ry⟩:=rs.inv1;cases ry.int_inv;let⟨us,h2,r2⟩:=g a _ e4;cases ZA z r2;let⟨k3,g3⟩:=Je (xs:=ys) g h2 ((ns.erase n).map .int) ((ns.erase n).map V.int)<|RVs.ints _;exact⟨a,ns,n,rfl,rfl,h2,hn,c _ _ _ _ k3 g3 .non q⟩
 .cases e3
end Snd
namespace Snd
open PySem L2
variable {i:Inf}{X:Cx}
def RFs.look{K:Frag}:∀{fs:List (String×O.Val)}{ps:List (Str×V)},RFs K H fs ps->
  (∀v,fs.lookup f=eQ v->∃x,ps.lookup (gC f)=eQ x/\RV K H v x)/\(fs.lookup f=eS->ps.lookup (gC f)=eS)
 |_,_,.nil=>⟨λv e=>(by cases e),λ_=>rfl⟩
 |_,_,.cons (f:=g) (v:=u) (x:=y) r t=>by
  have ih:=RFs.look (f:=f) t;rw[Ú,Ú];by_cases e:f=g
  .subst e;rw[beq_self_eq_true,beq_self_eq_true];exact⟨λv z=>(by cases z;exact⟨y,rfl,r⟩),λz=>(by cases z)⟩
  .rw[show(f==g)=eV by simpa using e,show(gC f==gC g)=eV by rw[beq_eq_false_iff_ne];exact λz=>e<|ofS_inj.mp z];exact ih
def RFs.put{K:Frag}(q:RV K H v x):∀{fs:List (String×O.Val)}{ps:List (Str×V)},RFs K H fs ps->RFs K H (O.fq fs f v) (L2.fq (gC f) x ps)
 |_,_,.nil=>.cons q .nil
 |_,_,.cons (f:=g) (v:=u) (x:=y) r t=>by
  unfold O.fq L2.fq;by_cases e:g=f
  .subst e;rw[gu rfl,gu rfl];exact .cons q t
  .rw[gw e,gw λz=>e<|ofS_inj.mp z];exact .cons r<|RFs.put q t
def RFs.length{K:Frag}:∀{fs:List (String×O.Val)}{ps:List (Str×V)},RFs K H fs ps->fs.length=ps.length
 |_,_,.nil=>rfl
 |_,_,.cons _ t=>by rw[Ð,Ð,RFs.length t]
structure FldOk(i:Inf)(f:String):Prop where
 no:∀C c,i.cl C c->NoAttr i.K c (gC f)
structure IC(K:Frag)(C:Ì):Prop where
 ha:PySem.W.findIn K (.ref C) "__class__" = eQ (eQ<|.builtin "object.__class__")
 hn:PySem.W.specialIn K (.builtin "object.__class__") "__get__" = eQ (eQ<|.builtin "getset_descriptor.__get__")
 htk:PySem.W.takesIn K (.builtin "object.__class__")=eQ eU
 hm:PySem.W.mroIn K C (.type "object")=eQ eU
structure ClsA(i:Inf):Prop where
 cls:∀C c,i.ins C=eU->i.cl C c->Cls i.K c
 ic:∀C c,i.cl C c->IC i.K c
 un:∀C a b,i.cl C a->i.cl C b->a=b
def JL(h:O.insOf o=eQ p):o=eQ (.ins p.1 p.2):=by
 cases o with
 |none=>cases h
 |some o=>cases o with
  |ins C fs=>cases h;rfl
  |_=>cases h
variable {f:String}
def Mm(h:O.fQ G v f=eQ u):∃a C fs,v=.ref a/\G a=eQ (.ins C fs)/\fs.lookup f=eQ u:=by let⟨a,h1,h⟩:=æ.mp h;let⟨p,h2,h3⟩:=æ.mp h;exact⟨a,p.1,p.2,XX h1,JL h2,h3⟩
variable {o:Expr}{mo:O.E}{pos:Pos}
def Q2(hK:X.K=i.K)(A:ClsA i)(F:FldOk i f)(ho:PE X o<|tE X i Φ mo)(hb:Ĭ o (gC f) X.env (eval o X.env)=eval o X.env) :
  PE X (.Attribute o (gC f) pos) (tE X i Φ<|.fld mo f) :=
 (Qj ho hb).imp λσ H Q ⟨env,G,Qm,Em,p,w,c⟩=>by
  exact one p w λv G1 H1 x k1 p1 r q=>by let⟨u,e,q2⟩:=eZ q;clear q;let⟨a,C,fs,rfl,e2,e3⟩:=Mm e;cases r.ref_inv;let⟨c',dx,ps,hi,hc,h1,rf⟩:=p1.hp a _ e2;let⟨y,l,ry⟩:=rf.look.1 u e3;exact⟨a,c',dx,ps,y,rfl,h1,by rw[hK];exact A.cls _ _ hi hc,by rw[hK];exact F.no _ _ hc,l,c _ _ _ _ k1 p1.hp ry q2⟩
variable {C:String}
def Ah(g:RH i G H)(hi:i.ins C=eU)(hc:i.cl C c')(h:H a=eQ (.ins c' dx ps2))(r:RFs i.K H fs ps) :
  fx H (upd H a<|.ins c' dx ps)/\RH i (O.upd G a<|.ins C fs) (upd H a<|.ins c' dx ps):=by
 have k:fx H<|upd H a<|.ins c' dx ps:=fx.put (λxs e=>by rw[h]at e;cases e) λp u e=>by rw[h]at e;cases e
 exact⟨k,g.put k ⟨c',dx,ps,hi,hc,eX,r.keep k⟩⟩
def Ki{o v:O.Val}(h:O.fR G o f v=eQ G'):∃a C fs,o=.ref a/\G a=eQ (.ins C fs)/\fs.length<900/\G'=O.upd G a (.ins C<|O.fq fs f v):=by
 cases o with
 |ref a =>
  unfold O.fR at h;dsimp only at h;split at h
  .rename_i C fs e;let⟨hl,h⟩:=Zg h;cases h;exact⟨a,C,fs,rfl,e,hl,rfl⟩
  .cases h
 |_=>cases h
variable {e:Expr}
def AI(hK:X.K=i.K)(A:ClsA i)(F:FldOk i f)(ho:PE X o<|tE X i Φ mo)(he:PE X e<|tE X i Φ m)(hs:ź e (eQ<|.Attribute o (gC f) bH) pos.line X.env=pure eV) :
  PS X (.Assign [.Attribute o (gC f) bH] e pos) (tSt X i Φ<|.setFld mo f m) :=
 (Pm ho he hs).imp λD σ H ⟨env,G,N,R,B,C,Xe,p,w,c⟩=>by refine one p.pre w λv G1 H1 x k1 p1 r q=>?_;refine one p1 q λu G2 H2 y k2 p2 ry q=>?_;let⟨G3,e3,q2⟩:=eZ q;clear q;let⟨a,D',fs,rfl,e2,hl,rfl⟩:=Ki e3;cases ry.ref_inv;let⟨c',dx,ps,hi,hc,h1,rf⟩:=p2.hp a _ e2;let⟨k3,g3⟩:=Ah p2.hp hi hc h1<|rf.put (f:=f)<|r.keep k2;refine⟨a,c',dx,ps,rfl,h1,by rw[hK];exact A.cls _ _ hi hc,by rw[hK];exact F.no _ _ hc,by rw[<-rf.length];lia,?_⟩;have k:=(k1.trans k2).trans k3;exact c.nx _ _ _ _ k g3 (p.en.keep k) q2
def Of(h:O.augV op x y=eQ z):∃a b,x=.int a/\y=.int b/\((op=.add/\z=.int (a+b))\/(op=.sub/\z=.int (a - b))):=by
 unfold O.augV at h;split at h
 .cases h;exact⟨_,_,rfl,rfl,.inl ⟨rfl,rfl⟩⟩
 .cases h;exact⟨_,_,rfl,rfl,.inr ⟨rfl,rfl⟩⟩
 .cases h
abbrev rAS(op:O.Bop):V->V->Hp->VK->Prop:=λx y H Q=>∃a b,x=.int a/\y=.int b/\((op=.add/\Q (.int<|a+b) H)\/(op=.sub/\Q (.int<|a - b) H))
def B2(hK:X.K=i.K)(A:ClsA i)(F:FldOk i f)(hop:Cm X op<|rAS bop)(ho:PE X o<|tE X i Φ mo) :
  PS X (.AugAssign (.Attribute o (gC f) cM) op (.Constant (.int n) k Ũ) pos) (tSt X i Φ<|.augFld mo f bop n) :=
 (AR ho Nt hop).imp λD σ H ⟨env,G,N,R,B,C,Xe,p,w,c⟩=>by
  refine one p.pre w λv G1 H1 x k1 p1 r q=>?_;let⟨u,e1,q2⟩:=eZ q;clear q;let⟨a,C',fs,rfl,e2,e3⟩:=Mm e1;cases r.ref_inv;let⟨c',dx,ps,hi,hc,h1,rf⟩:=p1.hp a _ e2;let⟨y,l,ry⟩:=rf.look.1 u e3;refine⟨a,c',dx,ps,y,rfl,h1,by rw[hK];exact A.cls _ _ hi hc,by rw[hK];exact F.no _ _ hc,l,?_⟩;let⟨z,e4,q3⟩:=eZ q2;clear q2;let⟨G3,e5,q4⟩:=eZ q3;clear q3;let⟨n1,n2,rfl,e0,hz⟩:=Of e4;cases e0;cases ry.int_inv;let⟨a2,C2,fs2,e6,e7,hl,rfl⟩:=Ki e5;cases e6;rw[e2]at e7;cases e7;have fin:∀n:Int,z=.int n->∃dx' fs',H1 a=eQ (.ins c' dx' fs')/\fs'.length<1000/\D.nx σ (upd H1 a<|.ins c' dx'<|L2.fq (gC f) (.int n) fs'):=λn hn=>by subst hn;let⟨k3,g3⟩:=Ah p1.hp hi hc h1<|rf.put (f:=f) (x:=.int n)<|.int n;refine⟨dx,ps,h1,by rw[<-rf.length];lia,?_⟩;exact c.nx _ _ _ _ (k1.trans k3) g3 (p.en.keep<|k1.trans k3) q4
  rcases hz with⟨e,hz⟩|⟨e,hz⟩
  .exact⟨n1,n,rfl,rfl,.inl ⟨e,fin _ hz⟩⟩
  .exact⟨n1,n,rfl,rfl,.inr ⟨e,fin _ hz⟩⟩
abbrev Dfm(pr:ç)(w:ă)(mg:Str->Option Ã)(base:Ď)(i:Inf)(P:O.Pg)(n:Nat)(f:String)(fa:Ì):Prop :=
 ∃fd ps,fH pr w i.K mg base (CX1 pr w) (2*n) fa fd ps (spF i P n f)/\Binds i.K fd ps []
variable {P:O.Pg}{n:Nat}{ms:O.Es}{p:Pos}
def Li{k:Nat}{Cn:String}{C f:Ì}(hK:X.K=i.K)(hi:i.ins Cn=eU)(hc:i.cl Cn C)(M:Mk i.K C f)(D:Dfm X.prog X.w X.mg X.base i P n (Cn ++ ".__init__") f)(hr:fG (2*n+1) X.A)
  (hg:Gl X<|gC Cn) (hm:X.mg (gC Cn)=eQ (.ref C)) (cN:(gC Cn==("__debug__" : Str))=eV)
  (ha:PA X (e::es)<|tAr X i (O.wF P n) ms k) (he:à (e::es) X.env=(eV,eval e X.env)::à es X.env) (hpl:(Ī pos<|à es X.env).any (·.1)=eV) :
  PE X (.Call (.Name (gC Cn) p) (e::es) [] pos) (tE X i (O.wF P n)<|.make Cn ms):=by
 let⟨fd,ps,F,hb⟩:=D;rw[<-hK]at F hb M;k_sub;let⟨env,G,Qm,Em,pr,w,c⟩:=h;refine FC (E:=XK1 i H Em) M F hr hg hm hb .nil (XW.passes pr.xo) ha cN he hpl Â s σ H Q I ⟨env,G,_,Em,pr,w,λvs G1 H1 xs k1 g1 r1 hl w1 x dx hx hd Ş=>?_⟩;have ka:fx H1<|upd H1 dx<|.own x:=fx.new hd;have hx2:upd H1 dx (.own x) x=eS:=by rw[eW λz=>Ş z.symm];exact hx
 have kb:fx (upd H1 dx<|.own x)<|upd (upd H1 dx<|.own x) x<|.ins C dx []:=fx.new hx2;have g2:RH i G1<|upd H1 dx<|.own x:=Nu g1 hd;have g3:RH i (O.upd G1 x<|.ins Cn [])<|upd (upd H1 dx<|.own x) x<|.ins C dx []:=g2.put kb ⟨C,dx,[],hi,hc,eX,.nil⟩;have k:=ka.trans kb;refine⟨.ref x::vs,_,_,Em,.cons (.ref x) (by rw[ć];exact r1.keep k),g3,w1 x<|g1.free hx,?_,λcls d H' h=>(h.go k).go k1⟩;intro v G' H' y k' g' rv ⟨hv,hq⟩;subst hv;exact⟨rv.non_inv,c _ G' H' _ ((k1.trans k).trans k') g' (.ref x) hq⟩
variable {m:String}
def KZ(h:O.clsV G v m=eQ C):∃a fs,v=.ref a/\G a=eQ (.ins C fs)/\fs.lookup m=eS:=by
 let⟨a,h1,h⟩:=æ.mp h;let⟨p,h2,h3⟩:=æ.mp h;have e:=JL h2;by_cases z:(p.2.lookup m).isNone=eU
 .rw[gu z]at h3;cases h3;exact⟨a,p.2,XX h1,e,bg.mp z⟩
 .rw[gw z]at h3;cases h3
variable {œ:Pos}
def I0{k:Nat}{Cn:String}{C f:Ì}(hK:X.K=i.K)(hfn:∀c,i.cl Cn c->c=C)(A:Cls i.K C)(M:Meth i.K C (gC m) f)(D:Dfm X.prog X.w X.mg X.base i P n (Cn ++ "." ++ m) f)(hr:fG (2*n) X.A)
  (ho:PE X o<|tE X i (O.wF P n) mo) (ha:PA X (e::es)<|tAr X i (O.wF P n) ms k) (he:à (e::es) X.env=(eV,eval e X.env)::à es X.env) (hpl:(Ī pos<|à es X.env).any (·.1)=eV)
  (ht:eval (.Call (.Attribute o (gC m) œ) (e::es) [] pos) X.env=(do
    let ov<-eval o X.env
    ϑ œ.atName
    let (f,first)<-Ŕ [ov] (Ϡ ov (gC m) pl)
    cA pos f first (Ī pos<|à (e::es) X.env) (Ž pos<|ŏ [] X.env))) :
  PE X (.Call (.Attribute o (gC m) œ) (e::es) [] pos) (tE X i (O.wF P n)<|.meth Cn m mo ms):=by
 let⟨fd,ps,F,hb⟩:=D;rw[<-hK]at F hb M A;k_sub;let⟨env,G,Qm,Em,pr,w,c⟩:=h;refine GI (E:=XK1 i H Em) ho A M F hr hb .nil (XW.passes pr.xo) ha he hpl ht Â s σ H Q I<|one pr w λv G1 H1 x k1 p1 rv q=>?_;let⟨hq,w1⟩:=q;let⟨a,fs,rfl,e2,e3⟩:=KZ hq;cases rv.ref_inv;let⟨c',dx,cT,hi,hc,h1,rf⟩:=p1.hp a _ e2;cases hfn c' hc;refine⟨a,dx,cT,rfl,h1,rf.look.2 e3,env,G1,_,Em,p1,w1,λvs G2 H2 xs k2 g2 r2 hl w2=>?_⟩;exact⟨.ref a::vs,G2,Qm,Em,.cons (.ref a) (by rw[ć];exact r2),g2,w2,(c.go k1).go k2,λcls d H' h=>(h.go k2).go k1⟩
def GU{Cn:String}{C f:Ì}(hK:X.K=i.K)(hfn:∀c,i.cl Cn c->c=C)(A:Cls i.K C)(M:Meth i.K C (gC m) f)(D:Dfm X.prog X.w X.mg X.base i P n (Cn ++ "." ++ m) f)(hr:fG (2*n) X.A)
  (ho:PE X o<|tE X i (O.wF P n) mo)
  (ht:eval (.Call (.Attribute o (gC m) œ) [] [] pos) X.env=(do
    let ov<-eval o X.env
    ϑ œ.atName
    let (f,first)<-Ŕ [ov] (Ϡ ov (gC m) pl)
    cA pos f first (Ī pos<|à [] X.env) (Ž pos<|ŏ [] X.env))) :
  PE X (.Call (.Attribute o (gC m) œ) [] [] pos) (tE X i (O.wF P n)<|.meth Cn m mo .nil):=by
 let⟨fd,ps,F,hb⟩:=D;rw[<-hK]at F hb M A;k_sub;let⟨env,G,Qm,Em,pr,w,c⟩:=h;refine C7 (E:=XK1 i H Em) ho A M F hr hb .nil (XW.passes pr.xo) ht Â s σ H Q I<|one pr w λv G1 H1 x k1 p1 rv q=>?_;let⟨hq,w1⟩:=q;let⟨a,fs,rfl,e2,e3⟩:=KZ hq;cases rv.ref_inv;let⟨c',dx,cT,hi,hc,h1,rf⟩:=p1.hp a _ e2;cases hfn c' hc;refine⟨a,dx,cT,rfl,h1,rf.look.2 e3,?_⟩;exact⟨[.ref a],G1,Qm,Em,.cons (.ref a) .nil,p1.hp,w1,c.go k1,λcls d H' h=>h.go k1⟩
def Gu(hK:X.K=i.K)(D:Dfo X.prog X.w X.mg X.base i P n f)(hr:fG (2*n) X.A)(hg:Gl X<|gC f)(cN:(gC f==("__debug__" : Str))=eV) :
  PE X (.Call (.Name (gC f) p) [] [] pos) (tE X i (O.wF P n)<|.call f .nil):=by
 let⟨fa,fd,ps,F,hm,hk,hb⟩:=D;rw[<-hK]at F hk hb;k_sub;let⟨env,G,Qm,Em,pr,w,c⟩:=h;refine DU (E:=XK1 i H Em) F hr hg hm hk hb .nil (XW.passes pr.xo) cN Â s σ H Q I ?_;exact⟨[],G,Qm,Em,.nil,pr.hp,w,c,λcls d H' h=>h⟩
abbrev N1(X:Cx)(i:Inf)(Φ:O.Fs):O.Es->List (TE×TE)
 |.cons k (.cons v r)=>(tE X i Φ k,tE X i Φ v)::N1 X i Φ r
 |_=>[]
abbrev Jv:O.Es->Bool
 |.nil=>eU
 |.cons _ .nil=>eV
 |.cons _ (.cons _ r)=>Jv r
abbrev esL:O.Es->Nat
 |.nil=>0
 |.cons _ es=>esL es+1
abbrev Au:List V->List (V×V)
 |x::y::r=>(x,y)::Au r
 |_=>[]
def NV:∀(es:O.Es),Jv es=eU->∀{σ:St}{H:Hp}{env:O.Env}{G:O.Hs}{Qm:List O.Val->O.Hs->Prop}{Em:O.XQ}{Q:List (V×V)->Hp->Prop},Pre X i σ H env G Em->O.wA Φ es env G Qm Em->
  (∀vs G' H' xs,fx H H'->RH i G' H'->RVs i.K H' vs xs->xs.length=esL es->Qm vs G'->Q (Au xs) H')->MJ (N1 X i Φ es) σ H Q
 |.nil,_,σ,H,env,G,Qm,Em,Q,p,w,c=>by rw[O.q_a_nil]at w;exact c [] G H [] (fx.refl H) p.hp .nil rfl w
 |.cons k .nil,h,_,_,_,_,_,_,_,_,_,_=>by cases h
 |.cons k (.cons v r),h,σ,H,env,G,Qm,Em,Q,p,w,c=>by rw[O.q_a_cons]at w;refine one p w λa G1 H1 x k1 p1 ra q=>?_;rw[O.q_a_cons]at q;refine one p1 q λb G2 H2 y k2 p2 rb q2=>?_;refine NV r h p2 q2 λvs G' H' xs k3 g3 rv hl hq=>?_;exact c (a::b::vs) G' H' (x::y::xs) ((k1.trans k2).trans k3) g3 (.cons ((ra.keep k2).keep k3)<|.cons (rb.keep k3) rv) (by rw[Ð,Ð,hl];rfl) hq
def Jx{K:Frag}:∀{vs:List O.Val}{xs:List V}{kvs:List (O.Val×O.Val)},RVs K H vs xs->O.pairUp vs=eQ kvs->∃ps:List<|Key×V,Au xs=ps.map (λkv=>(kV kv.1,kv.2))/\RKs K H kvs ps/\2*ps.length=xs.length
 |[],_,_,r,e=>by cases r;cases e;exact⟨[],rfl,.nil,rfl⟩
 |[_],_,_,_,e=>by cases e
 |a::b::vs,_,kvs,r,e=>by
  cases r with
  |cons ra r=>cases r with
  |cons rb t =>
  rename_i y _;unfold O.pairUp at e;split at e
  .rename_i hk;let⟨ks,e2,rfl⟩:=Í.mp e;let⟨ps,h1,h2,h3⟩:=Jx t e2;let⟨c,hc,rfl⟩:=fm hk ra;refine⟨(c,y)::ps,?_,.cons hc rb h2,by rw[Ð,Ð,Ð];lia⟩;show(kV c,y)::Au _=_;rw[h1];rfl
  .cases e
def RKs.merge{K:Frag}:∀{kvs:List (O.Val×O.Val)}{ps:List (Key×V)}{ĸ:List (O.Val×O.Val)}{bs:List (Key×V)},RKs K H ĸ bs->RKs K H kvs ps->RKs K H (O.putAll ĸ kvs) (Xr bs ps)
 |_,_,_,_,r,.nil=>r
 |_,_,ĸ,bs,r,.cons (k:=k) (v:=v) (c:=c) (x:=x) (kvs:=kvs) (ps:=ps) a q t=>by show RKs K H (O.putAll (O.fA ĸ k v) kvs) (Xr (L2.fA bs c x) ps);exact RKs.merge (RKs.put a q r) t
variable {pos:Pos}
def P3:PE X (.Dict [] [] pos) (tE X i Φ<|.dct .nil) :=
 pe_dnewK.imp λσ H Q ⟨env,G,Qm,Em,p,w,c⟩=>by rw[O.q_e_dct]at w;unfold O.new at w;intro a ha;have w1:=w a<|p.hp.free ha;let⟨a',e,w2⟩:=eZ w1;cases e;rw[O.q_a_nil]at w2;let⟨ks,e2,_,w3⟩:=eZ w2;cases e2;rw[O.eY]at w3;have k:=fx.new (o:=.dK []) ha;exact c _ _ _ _ k (p.hp.put (o:=.dct []) k ⟨[],eX,.nil⟩) (.ref a) w3
def Sv{es:O.Es}(he:Jv es=eU)(h30:esL es<=30)(h:PPs X pos keys ό<|N1 X i Φ es)(hall:keys.all (·.isSome)=eU)(hl:keys.length=ό.length)(h0:keys≠[])(h15:keys.length<=15):PE X (.Dict keys ό pos) (tE X i Φ<|.dct es) :=
 (Gi h hall hl h0 h15).imp λσ H Q ⟨env,G,Qm,Em,p,w,c⟩=>by
  rw[O.q_e_dct]at w;unfold O.new at w;intro a ha;have w1:=w a<|p.hp.free ha;let⟨a',e,w2⟩:=eZ w1;cases e;have k:=fx.new (o:=.dK []) ha;have p2:Pre X i σ (upd H a<|.dK []) env (O.upd G a<|.dct []) Em:=p.go k<|p.hp.put (o:=.dct []) k ⟨[],eX,.nil⟩;refine NV es he p2 w2 λvs G' H' xs k2 g2 rv hl w3=>?_;let⟨ks,e2,e3,w4⟩:=eZ w3;let⟨ps,e4,r4⟩:=g2 a _ e3;cases r4;let⟨qs,h1,h2,h3⟩:=Jx rv e2;refine⟨e4,qs,h1,by lia,?_⟩;have k3:fx H'<|upd H' a<|.dK<|Xr [] qs:=fx.put (λxs e=>by rw[e4]at e;cases e) λp u e=>by rw[e4]at e;cases e
  exact c _ _ _ _ ((k.trans k2).trans k3) (g2.put (o:=.dct<|O.putAll [] ks) k3 ⟨_,eX,(RKs.merge .nil h2).keep k3⟩) (.ref a) w4
end Snd
namespace L2
open PySem PySem.Spec PyProof.Rows
section
variable {X:Cx}{Â:List (Ì×Obj)}{σ:St}{H:Hp}{s:Ç}{a:Ì}{o:Obj}{ps:List (Key×V)}
def Inv.freeze(I:Inv X Â σ H s)(e:H a=eQ (.dK ps))(ho:s.heap.get? a=eQ o):Inv X Â σ (upd H a<|.frz o<|.dK ps) s:=by have h:=I.hok a _ e;exact I.write (t':=s.toks) (x:=a) (e:=a) (h':=s.heap) (by rw[e];exact True.intro) (.inl rfl) (λ_ _ _ q=>q) ⟨o,ho⟩ ⟨ho,h⟩
def Inv.thaw(I:Inv X Â σ H s)(e:H a=eQ (.frz o<|.dK ps))(h0:∀o u,X.H₀ a≠eQ (.frz o u)):Inv X Â σ (upd H a<|.dK ps) s:=by
 have hn:∀b,H b=eS->upd H a (.dK ps) b=eS:=λb z=>by rw[eW<|by rintro rfl;rw[e]at z;cases z];exact z
 have ho:=I.hok a _ e;refine⟨I.ok,I.os,I.bare,⟨I.base.keep,I.base.slot,λb ob q n hx=>hn b<|I.base.free b ob q n hx,I.base.there,λb xs q=>?_,λb ob u q=>?_,λb qs q=>?_⟩,I.loc,I.cell,hn _ I.free,λx c q=>hn _<|I.freeC x c q,λp hp=>?_,λb u q=>?_,I.len⟩
 .have z:=I.base.tups b xs q;rw[eW<|by rintro rfl;rw[e]at z;cases z];exact z
 .have z:=I.base.frzs b ob u q;rw[eW<|by rintro rfl;exact h0 _ _ q];exact z
 .obtain⟨m,z⟩:=I.base.tbls b qs q;exact⟨m,by rw[eW<|by rintro rfl;rw[e]at z;cases z];exact z⟩
 .obtain⟨q1,q2,q3,q4,q5⟩:=I.pin p hp;exact⟨q1,hn _ q2,q3,q4,q5⟩
 .by_cases hb:b=a
  .subst hb;rw[eX]at q;cases q;exact ho.2
  .rw[eW hb]at q;refine(I.hok b u q).stay (λ_ _ _ q=>q) (λc z=>?_) λc xs z=>?_
   .rw[eW<|by rintro rfl;rw[e]at z;cases z];exact z
   .rw[eW<|by rintro rfl;rw[e]at z;cases z];exact z
end
abbrev Ends.thaw(X:Cx)(D:Ends):Ends where
 nx:=λσ H=>∃a o ps,H a=eQ (.frz o<|.dK ps)/\(∀o u,X.H₀ a≠eQ (.frz o u))/\D.nx σ (upd H a<|.dK ps)
 rt:=λv H=>∃a o ps,H a=eQ (.frz o<|.dK ps)/\(∀o u,X.H₀ a≠eQ (.frz o u))/\D.rt v (upd H a<|.dK ps)
 bk:=D.bk
 ct:=D.ct
def Hz{st:ń}(h:PS X st t):PS X st λD σ H=>t (D.thaw X) σ H:=λÂ s σ H D I q =>
 thn (h Â s σ H _ I q) λf s' z=>by
  cases f with
  |next =>let⟨ů,H',I',a,o,ps,e,h0,q⟩:=z;exact⟨ů,_,I'.thaw e h0,q⟩
  |ret u =>let⟨v,ů,H',I',r,a,o,ps,e,h0,q⟩:=z;exact⟨v,ů,_,I'.thaw e h0,r,q⟩
  |brk=>exact z
  |cont=>exact z
abbrev Iti(a:Ì)(o:Obj)(ps:List<|Key×V):It :=
 ⟨λi H=>H a=eQ (.frz o<|.dK ps)/\i<ps.length,λi H v H'=>∃p k x,v=.ref p/\H p=eS/\ps[i]?=eQ (k,x)/\H'=upd H p (.tup [kV k,x]),λi H=>H a=eQ (.frz o<|.dK ps)/\ps.length<=i⟩
def D9(h:Jz k u=eU):RelV (kV k) u:=by
 rcases Zs h with⟨i,t,rfl,rfl⟩|⟨x,t,rfl,rfl⟩
 .exact⟨t,rfl⟩
 .exact⟨t,rfl⟩
def KV.at:∀{ps:List (Key×V)}{vs:List (Key×Ã)}{i:Nat}{k:Key}{x:V},KV ps vs->ps[i]?=eQ (k,x)->∃u,vs[i]?=eQ (k,u)/\RelV x u:=by
 intro ps vs i k x r;unfold KV at r;induction r generalizing i with
 |nil=>intro h;simp at h
 |@cons p q ps qs h t ih =>
  intro e;cases i with
  |zero =>simp at e;subst e;let⟨q1,q2⟩:=q;let⟨h1,h2⟩:=h;have h1:k=q1:=h1;subst h1;exact⟨q2,rfl,h2⟩
  |succ i=>simpa using ih ⇑e
section
variable {X:Cx}{Â:List (Ì×Obj)}{σ:St}{H:Hp}{s:Ç}{a:Ì}{o:Obj}{ps:List (Key×V)}{es:Array Ϣ}{ep:Nat}
def WB(I:Inv X Â σ H s)(e:H a=eQ (.frz o<|.dK ps))(hd:o.data=.dict es ep):∃vs,KV ps vs/\s.heap.DictAt (Zc X.prog X.w) a vs ep:=by
 let⟨ho,_,_,vs,Ţ,o2,es2,ep2,h1,h2,h3,h4⟩:=(show fg X.prog X.w H s.heap a (.frz o<|.dK ps) from I.hok a _ e)
 rw[ho]at h1;cases h1;rw[hd]at h3;cases h3;exact⟨vs,Ţ,o,es,ho,h2,hd,h4⟩
end
variable {es:List Expr}{kk:Nat}{tp:Pos}{ds:Array Ϣ}{ep:Nat}{o:Obj}{ps:List (Key×V)}
def OY{K:Frag}(a it:Ì)(hd:o.data=.dict ds ep) :
  Turn P w K (.Tuple es kk tp) (Iti a o ps) [it] it (λi h=>∃ok ov,IsItemIter h it a i ps.length ep ok ov) where
 mem:=by simp
 obj:=λi h st b hb=>by
  let⟨ok,ov,h1⟩:=st;have q:b=it:=⇑hb
  subst q;exact⟨_,h1,λv z=>by cases z⟩
 keep:=λi h h' ⟨ok,ov,h1⟩ k=>⟨ok,ov,k it (by simp) _ h1⟩
 item:=by
  k_upd;subst hP hw hK;let⟨e,hi⟩:=hg;let⟨ok,ov,h1⟩:=st;let⟨vs,Ţ,da⟩:=WB I e hd;have hl:ps.length=vs.length:=Ţ.length;have hx:ps[i]?=eQ ps[i]:=È hi;let⟨u,hu,ru⟩:=Ţ.at (k:=ps[i].1) (x:=ps[i].2) hx;rw[hl]at h1;refine wpAny_pyNext_items_item h1 da hu λkey h3 hk hout hT hsz hkeep=>?_;have hfi:=hf it (by simp);have aH:it<s.heap.objs.size:=Ó h1;have nT:s.heap.objs.size≠it:=ŉ aH;have bW:=I.fpOk (H':=H) (Ï s.heap.objs.size) I.fresh;refine⟨.ref s.heap.objs.size,rfl,wpAny_letOwnedTupleGo_items (s:={s with heap:=h3}) hout λh4 he4 hs4=>?_⟩;have I4:Inv X Â σ H {s with heap:=h4,toks:=s.toks}:=I.turnedL (t':=s.toks) (ch:=[it]) (λb ob hb q=>hs4.extBut b ob (λz=>hb<|by simp[z])<|hkeep b ob (λz=>hb<|by simp[z]) q) hf;have hT4:h4.get? s.heap.objs.size=eQ {cls:=.type "tuple",data:=.seq #[key,u]}:=hs4.extBut _ _ nT hT;let⟨f0,f1,f2,f3,f4,f5⟩:=bW;have I5:Inv X Â σ (upd H s.heap.objs.size<|.tup [kV ps[i].1,ps[i].2]) {s with heap:=h4,toks:=s.toks}:=I4.track f0 I.sz f1 f4 f5 ⟨by show 2<=Þ;decide,[key,u],.cons (D9 hk)<|.cons ru .nil,_,hT4,rfl,_,rfl⟩;refine⟨.ref s.heap.objs.size,_,I5,rfl,⟨s.heap.objs.size,_,_,rfl,f0,hx,rfl⟩,⟨key,u,by rw[hl];exact he4⟩,λb hb=>?_⟩;have q:b=it:=⇑hb
  subst q;rw[eW nT.symm];exact hfi.1
 done:=by
  k_upd;subst hP hw hK;let⟨e,hi⟩:=hg;let⟨ok,ov,h1⟩:=st;let⟨vs,Ţ,da⟩:=WB I e hd;have hl:ps.length=vs.length:=Ţ.length;rw[hl]at h1 hi;refine wpAny_pyNext_items_end (I.ok.hd hc) h1 da (Ŀ hi) λh' he'=>⟨rfl,?_⟩
  exact I.turnedL (t':=s.toks) (ch:=[it]) (λb ob hb q=>he' b ob (λz=>hb<|by simp[z]) q) hf
 self:=λA i s Q E st h=>by let⟨ok,ov,h1⟩:=st;exact PySem.W.kcp_self h1 h
abbrev Itk(a:Ì)(o:Obj)(ps:List<|Key×V):It :=
 ⟨λi H=>H a=eQ (.frz o<|.dK ps)/\i<ps.length,λi H v H'=>H'=H/\∃k x,ps[i]?=eQ (k,x)/\v=kV k,λi H=>H a=eQ (.frz o<|.dK ps)/\ps.length<=i⟩
variable {tg:Expr}
def AX{K:Frag}(a it:Ì)(hd:o.data=.dict ds ep) :
  Turn P w K tg (Itk a o ps) [it] it (λi h=>h.IsKeyIter it a i ps.length ep) where
 mem:=by simp
 obj:=λi h st b hb=>by
  let⟨ob,h1,_,h2⟩:=st;have q:b=it:=⇑hb
  subst q;exact⟨ob,h1,λv z=>by rw[h2]at z;cases z⟩
 keep:=λi h h' st k=>st.at λo e=>k it (by simp) o e
 item:=by k_upd;subst hP hw hK;let⟨e,hi⟩:=hg;let⟨vs,Ţ,da⟩:=WB I e hd;have hl:ps.length=vs.length:=Ţ.length;have hx:ps[i]?=eQ ps[i]:=È hi;let⟨u,hu,ru⟩:=Ţ.at (k:=ps[i].1) (x:=ps[i].2) hx;rw[hl]at st;refine wpAny_pyNext_dict_item st da hu λkey h3 hk st3 hs=>?_;have I3:Inv X Â σ H {s with heap:=h3,toks:=s.toks}:=I.turnedL (t':=s.toks) (ch:=[it]) (λb ob hb q=>hs.extBut b ob (λz=>hb<|by simp[z]) q) hf;let⟨ob,ho,aG,hda⟩:=id st3;refine⟨key,rfl,fb (s:={s with heap:=h3,toks:=s.toks}) ho aG hda ↥1 ⟨kV ps[i].1,H,I3,D9 hk,⟨rfl,_,_,hx,rfl⟩,?_,λb hb=>(hf b hb).1⟩⟩;show h3.IsKeyIter it a (i+1) ps.length ep;rw[hl];exact st3
 done:=by
  k_upd;subst hP hw hK;let⟨e,hi⟩:=hg;let⟨vs,Ţ,da⟩:=WB I e hd;have hl:ps.length=vs.length:=Ţ.length;rw[hl]at st hi;refine wpAny_pyNext_dict_end (I.ok.hd hc) st da (Ŀ hi) λh' he'=>⟨rfl,?_⟩
  exact I.turnedL (t':=s.toks) (ch:=[it]) (λb ob hb q=>he' b ob (λz=>hb<|by simp[z]) q) hf
 self:=λA i s Q E st h=>wpAny_pyIter_keyiter st h
abbrev Px(X:Cx)(J:Ì->Obj->List (Key×V)->It)(td:TE):TI:=λσ H R=>td σ H λx H1=>∃a ps,x=.ref a/\H1 a=eQ (.dK ps)/\∀o,(∀o u,X.H₀ a≠eQ (.frz o u))->R (J a o ps) (upd H1 a<|.frz o<|.dK ps)
variable {d:Expr}
def De(hd:PE X d td)(aR:Ĭ d "items" X.env (eval d X.env)=eval d X.env)(aS:(œ.endLine==Ũ.line)=eU) :
  PI X (.Tuple es kk tp) (.Call (.Attribute d "items" œ) [] [] Ũ) (Px X Iti td):=by
 intro Â s σ H R I h;refine wpAny_Call_method0_late aR aS<|thn (hd Â s σ H _ I h) λv s1 ⟨x,H1,I1,r1,a,ps,ex,ea,q1⟩=>?_;subst ex;obtain rfl:v=Value.ref a:=r1;let⟨t1,t2,t3⟩:=Lf I1<|.inl ⟨ps,.inl ea⟩;refine⟨"dict","dict.items",PySem.F.plainAttrs_dict,PySem.F.slot_dict_items,PySem.F.type_dict_items,t1,t2,Calls.callWith_builtin rfl<|PySem.evalArgs_none ?_⟩;let⟨z,hsm,vs,Ţ,dd⟩:=J0 I1.hok ea;refine ű PySem.F.slot_dict_items dd.typeIs PySem.F.entry_dict_items (PySem.F.args_dict_items_1 _) (meets_dict_items (Zc X.prog X.w) a hsm) ⟨⟨vs,dd⟩,?_⟩;have I2:Inv X Â σ H1 {s1 with heap:=s1.heap.push {cls:=.type "dict_items",data:=.fields #[.ref a]}}:=I1.kept (t':=s1.toks) λb o e=>Ä _ e;let⟨z2,hsm2,vs2,rel2,cZ⟩:=J0 I2.hok ea;let⟨ep,da⟩:=cZ.dictAt;refine wpAny_pyIter_items (s:={s1 with heap:=s1.heap.push {cls:=.type "dict_items",data:=.fields #[.ref a]}}) (d:=a) ⟨_,Ò _ rfl,rfl,rfl⟩ da ?_;have I3:=I2.kept (t':=s1.toks) (h':=(s1.heap.push {cls:=.type "dict_items",data:=.fields #[.ref a]}).push {cls:=.type "dict_itemiterator",data:=.fields #[.none,.bool eV,.ref a,.int 0 0,.int vs2.length 0,.int ep 0,.none,.none]}) λb o e=>Ä _ e;let⟨ob,ds,ho,_,hdat,_⟩:=da;have I4:=I3.freeze ea<|Ä _ ho;refine⟨_,[_],_,_,_,rfl,I4,OY a _ hdat,⟨.none,.none,?_⟩,λb hb=>?_,q1 ob λo u z=>by have:=I1.base.frzs a o u z;rw[ea]at this;cases this⟩
 .rw[rel2.length];exact Ò _ rfl
 .have e:b=(s1.heap.push {cls:=.type "dict_items",data:=.fields #[.ref a]}).objs.size:=⇑hb
  subst e;have hn:=I2.hok.fresh<|Ï (s1.heap.push {cls:=.type "dict_items",data:=.fields #[.ref a]}).objs.size;exact I2.fpOk (Ï _) (by rw[eW<|by intro z;rw[z]at hn;rw[ea]at hn;cases hn];exact hn)
def GT(hd:PE X d td):PI X tg d<|Px X Itk td:=by
 intro Â s σ H R I h;refine thn (hd Â s σ H _ I h) λv s1 ⟨x,H1,I1,r1,a,ps,ex,ea,q1⟩=>?_;subst ex;obtain rfl:v=Value.ref a:=r1;let⟨z,hsm,vs,Ţ,dd⟩:=J0 I1.hok ea;let⟨ep,da⟩:=dd.dictAt;refine wpAny_pyIter_dict hsm da ?_;have I2:=I1.kept (t':=s1.toks) (h':=s1.heap.push {cls:=.type "dict_keyiterator",data:=.fields #[.ref a,.int 0 0,.int vs.length 0,.int ep 0]}) λb o e=>Ä _ e;let⟨ob,ds,ho,_,hdat,_⟩:=da;have I3:=I2.freeze ea<|Ä _ ho;refine⟨_,[_],_,_,_,rfl,I3,AX a _ hdat,⟨_,Ò _ rfl,rfl,by rw[Ţ.length];rfl⟩,λb hb=>?_,q1 ob λo u z=>by have:=I1.base.frzs a o u z;rw[ea]at this;cases this⟩;have e:b=s1.heap.objs.size:=⇑hb
 subst e;have hn:=I1.hok.fresh<|Ï s1.heap.objs.size;exact I1.fpOk (Ï _) (by rw[eW<|by intro z;rw[z]at hn;rw[ea]at hn;cases hn];exact hn)
abbrev TupsH(I S:Ì)(items:Array Ã)(val:Nat->List Int)(h:Ď):Prop:=∀i v,items[i]?=eQ v->∃a ø,v=.ref a/\a≠I/\a≠S/\bb h a ø/\ą ø.toList (val i)
def TupsH.keep(t:TupsH I S items val h)(k:∀b o,b≠I->b≠S->h.get? b=eQ o->h'.get? b=eQ o):TupsH I S items val h':=λi v e=>by let⟨a,ø,h1,h2,h3,⟨o,q1,q2⟩,h5⟩:=t i v e;exact⟨a,ø,h1,h2,h3,⟨o,k a o h2 h3 q1,q2⟩,h5⟩
abbrev btL(val:Nat->List Int)(i j:Nat):Bool:=HT.lexLt (val i)<|val j
section
variable {A:Đ}{I l:Ì}{val:Nat->List Int}{St:Nat->Ď->Prop}
def A3(W:Walks prog w A.in1 I fp [I] items.size (λi v=>items[i]?=eQ v) St)(hu:A.units+1<Ģ)(S:Ì)(dZ:S≠I)(hSf:S∉fp) :
  ∀(k j:Nat) (s:Ç) (vb:Ã) (c:Nat),items.size - (j+1)=k->j+1<=items.size->St (j+1) s.heap->TupsH I S items val s.heap->items[Ĩ (btL val) j]?=eQ vb->
  s.heap.get? S=eQ {cls:=.type "list",dict:=eS,data:=.seq #[vb,vb] c,slots:=#[]}->
  (∀v h' tk,items[Ĩ (btL val)<|items.size - 1]?=eQ v->(∀b o,b≠I->b≠S->s.heap.get? b=eQ o->h'.get? b=eQ o)->R (.ok<|.ret v) {s with heap:=h',toks:=tk})->
  codeAny (ß prog w) A (.builtin "min.loop" ⟨[.ref I,.none,.ref S],kw⟩) R s:=by
 have aw:(toString "min" ++ toString ".loop" : String) = "min.loop":=by decide
 have hSw:S∉[I]:=by simp[dZ]
 intro k;induction k with
 |zero =>
  intro j s vb c hk hj θ hT hPb hS hR;have hin:j+1=items.size:=by lia
  refine Ĳ PySem.F.entry_min_loop ?_;rw[Ė PySem.F.plain_min_loop _];show wpAny _ A.in1 (ao (.ref S) >>= _) _ _ s;refine À<|ŗ hS rfl ?_;show wpAny _ A.in1 (tryCatch (Ε<|.ref I) _ >>= _) _ _ s;refine À<|Ω<|W.done s _ _ (hin▸θ) λh' tk bU=>?_;have hS':=bU S _ hSw hS;show wpAny _ A.in1 (dP S (λ_=>#[]) >>= _) _ _ _;refine À ?_;refine Κ hS' rfl<|À<|ah<|Æ ?_;refine hR vb _ tk (by rw[<-hin];exact hPb) λb o hbw d0 e=>(ô _ _<|Ne.symm d0).trans (bU b o ⇑hbw e)
 |succ k ih =>
  intro j s vb c hk hj θ hT hPb hS hR;have Ϝ:j+1<items.size:=by lia
  refine Ĳ PySem.F.entry_min_loop ?_;rw[Ė PySem.F.plain_min_loop _];show wpAny _ A.in1 (ao (.ref S) >>= _) _ _ s;refine À<|ŗ hS rfl ?_;show wpAny _ A.in1 (tryCatch (Ε<|.ref I) _ >>= _) _ _ s;refine À<|Ω<|W.item (j+1) s _ _ Ϝ θ λv h' tk hP hst' bU=>?_;have hS':=bU S _ hSw hS;have hT':TupsH I S items val h':=hT.keep λb o h1 _ e=>bU b o ⇑h1 e;have hP:items[j+1]?=eQ v:=hP;let⟨a,ø,rfl,_,_,pa,ia⟩:=hT' _ _ hP;let⟨b0,bw,rfl,_,_,pb,ib⟩:=hT' _ _ hPb;show wpAny _ A.in1 (tryCatch (Ŕ [.ref a,.ref a]<|ñ .Lt (.ref a) (.ref b0) >>= _) _ >>= _) _ _ _;refine À<|Ω<|ē<|À<|HT.lt_tupInts pa pb ia ib hu ?_;refine À<|ē<|ė ?_;refine À<|ah<|Æ ?_;cases hb:HT.lexLt (val<|j+1) (val<|Ĩ (btL val) j)with
  |true =>
   have bK:btL val (j+1) (Ĩ (btL val) j)=eU:=hb;simp![if_true];refine À ?_;refine Κ hS' rfl<|À<|ah ?_;rw[aw];refine Æ ⟨Ł PySem.F.plain_min_loop _,ih (j+1) _ (.ref a) _ ↥0 Ϝ (W.frame _ _ _ hst' λb hbf o e=>?_) (hT'.keep λb o _ h2 e=>(ô _ _<|Ne.symm h2).trans e) (by simp![Ĩ,bK,if_true];exact hP) (ĉ _ hS' rfl)
     λv' h'' tk'' hP' hk''=>?_⟩
   .exact(ô _ _ λh:S=b=>hSf<|by rw[h];exact hbf).trans e
   .exact hR v' h'' tk'' hP' λb o hbw d0 e=>hk'' b o hbw d0 ((ô _ _<|Ne.symm d0).trans<|bU b o ⇑hbw e)
  |false =>have bK:btL val (j+1) (Ĩ (btL val) j)=eV:=hb;simp![ā,if_false];refine À<|ah ?_;rw[aw];refine Æ ⟨Ł PySem.F.plain_min_loop _,ih (j+1) _ (.ref b0) c ↥0 Ϝ hst' hT' (by simp![Ĩ,bK,ā,if_false];exact hPb) hS' λv' h'' tk'' hP' hk''=>?_⟩;exact hR v' h'' tk'' hP' λb o hbw d0 e=>hk'' b o hbw d0 (bU b o ⇑hbw e)
variable {c:Nat}
def Ju(W:Walks prog w A.in1 I fp [I] items.size (λi v=>items[i]?=eQ v) St)(hu:A.units+1<Ģ)(S:Ì)(dZ:S≠I)(hSf:S∉fp)(hn:0<items.size)(θ:St 0 s.heap)(hT:TupsH I S items val s.heap)(hS:s.heap.get? S=eQ {cls:=.type "list",dict:=eS,data:=.seq #[] c,slots:=#[]})(hR:∀v h' tk,items[Ĩ (btL val)<|items.size - 1]?=eQ v->(∀b o,b≠I->b≠S->s.heap.get? b=eQ o->h'.get? b=eQ o)->R (.ok<|.ret v) {s with heap:=h',toks:=tk}) :
  codeAny (ß prog w) A (.builtin "min.loop" ⟨[.ref I,.none,.ref S],kw⟩) R s:=by
 have aw:(toString "min" ++ toString ".loop" : String) = "min.loop":=by decide
 have hSw:S∉[I]:=by simp[dZ]
 refine Ĳ PySem.F.entry_min_loop ?_;rw[Ė PySem.F.plain_min_loop _];show wpAny _ A.in1 (ao (.ref S) >>= _) _ _ s;refine À<|ŗ hS rfl ?_;show wpAny _ A.in1 (tryCatch (Ε<|.ref I) _ >>= _) _ _ s;refine À<|Ω<|W.item 0 s _ _ hn θ λv h' tk hP hst' bU=>?_;have hS':=bU S _ hSw hS;have hT':TupsH I S items val h':=hT.keep λb o h1 _ e=>bU b o ⇑h1 e;show wpAny _ A.in1 (dP S (λ_=>#[v,v]) >>= _) _ _ _;refine À ?_;refine Κ hS' rfl ?_;rw[aw];refine Æ ⟨Ł PySem.F.plain_min_loop _,A3 W hu S dZ hSf _ 0 _ v _ rfl hn (W.frame _ _ _ hst' λb hbf o e=>?_) (hT'.keep λb o _ h2 e=>(ô _ _<|Ne.symm h2).trans e) hP (ĉ _ hS' rfl) λv' h'' tk'' hP' hk''=>?_⟩
 .exact(ô _ _ λh:S=b=>hSf<|by rw[h];exact hbf).trans e
 .exact hR v' h'' tk'' hP' λb o hbw d0 e=>hk'' b o hbw d0 ((ô _ _<|Ne.symm d0).trans<|bU b o ⇑hbw e)
def Bs(hh:A.handled=eS)(hlI:l≠I)(S:Ì)(dZ:S≠I)(hn:items.size=0){nm:Str}{d:Ã}(θ:s.heap.IsListIter I l 0/\s.heap.IsList l items)
  (hS:s.heap.get? S=eQ {cls:=.type "list",dict:=eS,data:=.seq #[] c,slots:=#[]})
  (hR:∀h' tk,(∀b o,b≠I->s.heap.get? b=eQ o->h'.get? b=eQ o)->R (.ok<|.ret d) {s with heap:=h',toks:=tk}) :
  codeAny (ß prog w) A (.builtin "min.loop" ⟨[.ref I,.none,.ref S],[(nm,d)]⟩) R s:=by
 have W:=Walks.list (prog:=prog) (w:=w) (A:=A.in1) hh I l hlI items;refine Ĳ PySem.F.entry_min_loop ?_;rw[Ė PySem.F.plain_min_loop _];show wpAny _ A.in1 (ao (.ref S) >>= _) _ _ s;refine À<|ŗ hS rfl ?_;show wpAny _ A.in1 (tryCatch (Ε<|.ref I) _ >>= _) _ _ s;refine À (Ω<|W.done s _ _ (by rw[hn];exact θ) λh' tk bU=>?_);show wpAny _ A.in1 (rule _ >>= λ_=>ret d) _ _ _;exact À (Ϯ<|Æ<|hR h' tk λb o hb e=>bU b o ⇑hb e)
end
def A4(a:Ã):cF "min" ⟨[a],[(gC "default",.none)]⟩:=by unfold cF;kernel_rfl
def J6(bt:Nat->Nat->Bool):∀k,Ĩ bt k<=k
 |0=>Ï _
 |k+1=>by
  unfold Ĩ;split
  .exact Ï _
  .exact Nat.le_succ_of_le<|J6 bt k
def Wu:∀{xs:List V}{us:List Ã}{i:Nat}{u:Ã},gf xs us->us[i]?=eQ u->∃x,xs[i]?=eQ x/\RelV x u
 |_,_,_,_,.nil,e=>by simp at e
 |_,_,0,_,.cons r _,e=>by simp at e;subst e;exact⟨_,rfl,r⟩
 |_,_,i+1,_,.cons _ t,e=>by let⟨x,h1,h2⟩:=Wu (i:=i) t ⇑e;exact⟨x,⇑h1,h2⟩
section
variable {X:Cx}
variable {Â:List (Ì×Obj)}{s:Ç}{σ:St}{H:Hp}{a:Ì}{xs:List V}
def AM{rows:List (List Int)}(hc:X.calm=eU)(hu:X.A.units+1<Ģ)(I:Inv X Â σ H s)(hl:f9 X.K H a xs)(hr:rows.length=xs.length)
  (ht:∀i,i<rows.length->∃p,xs[i]?=eQ (.ref p)/\gc X.K H p ((rows.getD i []).map V.int))
  (q0:xs=[]->Q .non H) (q1:xs≠[]->∀x,xs[Ĩ (btL λi=>rows.getD i [])<|xs.length - 1]?=eQ x->Q x H) :
  wpAny ↥2 X.A (call (.builtin "min") [.ref a] [(gC "default",.none)]) (EP X Â σ Q) X.xe s:=by
 have aw:(toString "min" ++ toString ".loop" : String) = "min.loop":=by decide
 let⟨ø,rv,pl,hz⟩:=I.list hl;have hlen:=rv.length;have hls:=pl.isList;let⟨ol,hol,_⟩:=id hls;have hll:a<s.heap.objs.size:=Ó hol;refine PyProof.Rows.kmk_tree PySem.F.kind_min PySem.F.plain_min PySem.F.entry_min (A4 _) ?_;show wpAny _ X.A.in1 (Builtin.Builtins.bindParams "min" ["key","default"] 0 ⟨[],[(gC "default",.none)]⟩ >>= _) _ _ s;refine À (ϓ (show Builtin.Builtins.bindParams "min" ["key","default"] 0 ⟨[],[(gC "default",.none)]⟩=pure [eS,eQ .none] from rfl) ?_);refine À<|Æ ?_;refine À<|ž hls ?_;refine À<|aD ?_<|ģ _;rw[aw];have hS:(s.heap.push {cls:=.type "list_iterator",data:=.fields #[.ref a,.int 0 0]}).objs.size=s.heap.objs.size+1:=cH ..;have hlI:a≠s.heap.objs.size:=ä hll;have dZ:(s.heap.push {cls:=.type "list_iterator",data:=.fields #[.ref a,.int 0 0]}).objs.size≠s.heap.objs.size:=by rw[hS];exact ŉ<|Ě _
 have hSl:(s.heap.push {cls:=.type "list_iterator",data:=.fields #[.ref a,.int 0 0]}).objs.size≠a:=by rw[hS];exact ŉ<|ĕ hll
 have kk:∀b o,s.heap.get? b=eQ o->((s.heap.push {cls:=.type "list_iterator",data:=.fields #[.ref a,.int 0 0]}).push<|ŧ "list" #[] 0).get? b=eQ o:=λb o e=>Ä _<|Ä _ e;have gI:((s.heap.push {cls:=.type "list_iterator",data:=.fields #[.ref a,.int 0 0]}).push<|ŧ "list" #[] 0).get? s.heap.objs.size=eQ {cls:=.type "list_iterator",data:=.fields #[.ref a,.int 0 0]} :=
  Ä _ (Ò _ rfl)
 have gS:((s.heap.push {cls:=.type "list_iterator",data:=.fields #[.ref a,.int 0 0]}).push<|ŧ "list" #[] 0).get? (s.heap.push {cls:=.type "list_iterator",data:=.fields #[.ref a,.int 0 0]}).objs.size=eQ (ŧ "list" #[] 0):=Ò _ rfl;have ϛ:∀b o,s.heap.get? b=eQ o->b≠s.heap.objs.size/\b≠(s.heap.push {cls:=.type "list_iterator",data:=.fields #[.ref a,.int 0 0]}).objs.size:=λb o e=>by have:=Ó e;rw[hS];exact⟨ä this,ä<|ĕ this⟩
 have θ:Heap.IsListIter ((s.heap.push {cls:=.type "list_iterator",data:=.fields #[.ref a,.int 0 0]}).push<|ŧ "list" #[] 0) s.heap.objs.size a 0/\Heap.IsList ((s.heap.push {cls:=.type "list_iterator",data:=.fields #[.ref a,.int 0 0]}).push<|ŧ "list" #[] 0) a ø.toArray:=by refine⟨⟨_,gI,rfl,rfl⟩,?_⟩;let⟨o,e,r⟩:=hls;exact⟨o,kk _ _ e,r⟩
 refine Æ ⟨Ł PySem.F.plain_min_loop _,?_⟩;by_cases h0:xs=[]
 .have hi:ø.toArray.size=0:=by rw[Î,<-hlen,h0];rfl
  refine Bs (I:=s.heap.objs.size) (A:=X.A) (l:=a) (items:=ø.toArray) (I.ok.hd hc) hlI _ dZ hi θ gS λh' tk hk=>?_;exact⟨.non,H,I.kept (t':=tk) λb o e=>hk b o (ϛ b o e).1<|kk b o e,rfl,q0 h0⟩
 .have hi:0<ø.toArray.size:=by
   rw[Î,<-hlen];exact ξ.mpr h0
  refine Ju (A:=X.A) (items:=ø.toArray) (val:=λi=>rows.getD i []) (Walks.list (A:=X.A.in1) (I.ok.hd hc) s.heap.objs.size a hlI ø.toArray) hu _ dZ (λz=>(Å.mp z).elim dZ λz=>hSl<|á.mp z) hi θ (λi v e=>?_) gS λv h' tk hv hk=>?_
  .have e:ø[i]?=eQ v:=⇑e
   have hi':i<rows.length:=by rw[hr,hlen];exact(Ë.mp e).1
   let⟨p,cS,dA⟩:=ht i hi';let⟨x,hx,rx⟩:=Wu rv e;rw[cS]at hx;cases hx;obtain rfl:v=Value.ref p:=rx;let⟨tt,r2,⟨o2,e2,rest⟩,_⟩:=I.tuple dA;exact⟨p,tt.toArray,rfl,(ϛ p o2 e2).1,(ϛ p o2 e2).2,⟨o2,kk _ _ e2,rest⟩,Zz r2⟩
  .have hv:ø[Ĩ (btL λi=>rows.getD i [])<|xs.length - 1]?=eQ v:=by rw[hlen];simpa using hv
   let⟨x,hx,rx⟩:=Wu rv hv;exact⟨x,H,I.kept (t':=tk) λb o e=>hk b o (ϛ b o e).1 (ϛ b o e).2<|kk b o e,rx,q1 h0 x hx⟩
def Ur{rows:List (List Int)}(hc:X.calm=eU)(hu:X.A.units+1<Ģ)(I:Inv X Â σ H s)(hl:f9 X.K H a xs)(hr:rows.length=xs.length)
  (ht:∀i,i<rows.length->∃p,xs[i]?=eQ (.ref p)/\gc X.K H p ((rows.getD i []).map V.int))
  (h0:xs≠[]) (q1:∀x,xs[Ĩ (btL λi=>rows.getD i [])<|xs.length - 1]?=eQ x->Q x H) :
  wpAny ↥2 X.A (call (.builtin "min") [.ref a]) (EP X Â σ Q) X.xe s:=by
 have aw:(toString "min" ++ toString ".loop" : String) = "min.loop":=by decide
 let⟨ø,rv,pl,hz⟩:=I.list hl;have hlen:=rv.length;have hls:=pl.isList;let⟨ol,hol,_⟩:=id hls;have hll:a<s.heap.objs.size:=Ó hol;refine call_function_tree PySem.F.kind_min PySem.F.plain_min PySem.F.entry_min (PySem.F.args_min1 _) ?_;show wpAny _ X.A.in1 (Builtin.Builtins.bindParams "min" ["key","default"] 0 ⟨[],[]⟩ >>= _) _ _ s;refine À (ϓ (show Builtin.Builtins.bindParams "min" ["key","default"] 0 ⟨[],[]⟩=pure [eS,eS] from rfl) ?_);refine À<|Æ ?_;refine À<|ž hls ?_;refine À<|aD ?_<|ģ _;rw[aw];have hS:(s.heap.push {cls:=.type "list_iterator",data:=.fields #[.ref a,.int 0 0]}).objs.size=s.heap.objs.size+1:=cH ..;have hlI:a≠s.heap.objs.size:=ä hll;have dZ:(s.heap.push {cls:=.type "list_iterator",data:=.fields #[.ref a,.int 0 0]}).objs.size≠s.heap.objs.size:=by rw[hS];exact ŉ<|Ě _
 have hSl:(s.heap.push {cls:=.type "list_iterator",data:=.fields #[.ref a,.int 0 0]}).objs.size≠a:=by rw[hS];exact ŉ<|ĕ hll
 have kk:∀b o,s.heap.get? b=eQ o->((s.heap.push {cls:=.type "list_iterator",data:=.fields #[.ref a,.int 0 0]}).push<|ŧ "list" #[] 0).get? b=eQ o:=λb o e=>Ä _<|Ä _ e;have gI:((s.heap.push {cls:=.type "list_iterator",data:=.fields #[.ref a,.int 0 0]}).push<|ŧ "list" #[] 0).get? s.heap.objs.size=eQ {cls:=.type "list_iterator",data:=.fields #[.ref a,.int 0 0]} :=
  Ä _ (Ò _ rfl)
 have gS:((s.heap.push {cls:=.type "list_iterator",data:=.fields #[.ref a,.int 0 0]}).push<|ŧ "list" #[] 0).get? (s.heap.push {cls:=.type "list_iterator",data:=.fields #[.ref a,.int 0 0]}).objs.size=eQ (ŧ "list" #[] 0):=Ò _ rfl;have ϛ:∀b o,s.heap.get? b=eQ o->b≠s.heap.objs.size/\b≠(s.heap.push {cls:=.type "list_iterator",data:=.fields #[.ref a,.int 0 0]}).objs.size:=λb o e=>by have:=Ó e;rw[hS];exact⟨ä this,ä<|ĕ this⟩
 have θ:Heap.IsListIter ((s.heap.push {cls:=.type "list_iterator",data:=.fields #[.ref a,.int 0 0]}).push<|ŧ "list" #[] 0) s.heap.objs.size a 0/\Heap.IsList ((s.heap.push {cls:=.type "list_iterator",data:=.fields #[.ref a,.int 0 0]}).push<|ŧ "list" #[] 0) a ø.toArray:=by refine⟨⟨_,gI,rfl,rfl⟩,?_⟩;let⟨o,e,r⟩:=hls;exact⟨o,kk _ _ e,r⟩
 refine Æ ⟨Ł PySem.F.plain_min_loop _,?_⟩;have hi:0<ø.toArray.size:=by rw[Î,<-hlen];exact ξ.mpr h0
 refine Ju (A:=X.A) (items:=ø.toArray) (val:=λi=>rows.getD i []) (Walks.list (A:=X.A.in1) (I.ok.hd hc) s.heap.objs.size a hlI ø.toArray) hu _ dZ (λz=>(Å.mp z).elim dZ λz=>hSl<|á.mp z) hi θ (λi v e=>?_) gS λv h' tk hv hk=>?_
 .have e:ø[i]?=eQ v:=⇑e
  have hi':i<rows.length:=by rw[hr,hlen];exact(Ë.mp e).1
  let⟨p,cS,dA⟩:=ht i hi';let⟨x,hx,rx⟩:=Wu rv e;rw[cS]at hx;cases hx;obtain rfl:v=Value.ref p:=rx;let⟨tt,r2,⟨o2,e2,rest⟩,_⟩:=I.tuple dA;exact⟨p,tt.toArray,rfl,(ϛ p o2 e2).1,(ϛ p o2 e2).2,⟨o2,kk _ _ e2,rest⟩,Zz r2⟩
 .have hv:ø[Ĩ (btL λi=>rows.getD i [])<|xs.length - 1]?=eQ v:=by rw[hlen];simpa using hv
  let⟨x,hx,rx⟩:=Wu rv hv;exact⟨x,H,I.kept (t':=tk) λb o e=>hk b o (ϛ b o e).1 (ϛ b o e).2<|kk b o e,rx,q1 x hx⟩
abbrev R0(K:Frag)(ta:TA):TE:=λσ H Q=>ta σ H λvs H1=>∃a xs,∃rows:List<|List Int,vs=[.ref a]/\f9 K H1 a xs/\rows.length=xs.length/\
 (∀i,i<rows.length->∃p,xs[i]?=eQ (.ref p)/\gc K H1 p ((rows.getD i []).map V.int))/\(xs=[]->Q .non H1)/\(xs≠[]->∀x,xs[Ĩ (btL λi=>rows.getD i [])<|xs.length - 1]?=eQ x->Q x H1)
def Hl(hc:X.calm=eU)(hu:X.A.units+1<Ģ)(hg:Gl X "min")(hm:X.mg "min" = eS)(ha:PA X [e] ta)(hs:à [e] X.env=[(eV,eval e X.env)]) :
  PE X (.Call (.Name "min" p) [e] [⟨eQ "default",.Constant .none kk kp,kpos⟩] pos) (R0 X.K ta):=by
 k_sub;refine Ķ (Y6 (u:=.builtin "min") I hg hm (by kernel_rfl) ?_);refine PyProof.Rows.callWith_kw (e:=e) (rest:=[]) ?_ (by rw[hs];rfl) (by rw[hs];rfl) rfl rfl;refine thn (ha pos Â s σ H _ I h) λus s1 ⟨vs,H1,I1,r1,a,xs,rows,ev,hl,hr,ht,q0,q1⟩=>?_;subst ev;let⟨u,rfl,ru⟩:=ZN r1;cases ru;refine PyProof.Rows.kws_cons<|thn (Dk Â s1 σ H1 (λv H2=>v=.non/\H2=H1) I1 ⟨rfl,rfl⟩) λv s2 ⟨x,H2,I2,r2,e1,e2⟩=>PyProof.Rows.kws_nil ?_;subst e1 e2;obtain rfl:v=Value.none:=r2;exact AM hc hu I2 hl hr ht q0 q1
def Wv{P:ç}{w:ă}:∀{ns:List Int}{vs:List (Key×Ã)}{ĸ:List Ã},vs.map (·.1)=ns.map Sum.inl->ĸ.length=vs.length->(∀(j:Nat) (v:Ã),ĸ[j]?=eQ v->∃(k:Key) (x:Ã),vs[j]?=eQ (k,x)/\(Zc P w).is k v=eU)->ą ĸ ns
 |[],[],[],_,_,_=>.nil
 |[],_::_,_,h,_,_=>by cases h
 |_::_,[],_,h,_,_=>by cases h
 |[],[],_::_,_,h,_=>by cases h
 |_::_,_::_,[],_,h,_=>by cases h
 |n::ns,p::vs,u::ĸ,h1,h2,h3=>by rw[Ñ,Ñ]at h1;injection h1 with h1 h1';let⟨k,x,e1,e2⟩:=h3 0 u rfl;simp at e1;subst e1;have h1:k=Sum.inl n:=h1;subst h1;obtain⟨t,rfl⟩:∃t,u=Value.int n t:=D9 (k:=Sum.inl n) (u:=u) e2;exact .cons n t (Wv (P:=P) (w:=w) h1' ⇑h2 λj v e=>by simpa using h3 (j+1) v ⇑e)
def MR(hc:X.calm=eU):ff X (.builtin "sorted") (λxs H Q=>∃p kvs,∃ns:List Int,xs=[.ref p]/\Rd H p (.dK kvs)/\kvs.map (·.1)=ns.map Sum.inl/\ns.length<64/\∀l,H l=eS->Q (.ref l) (upd H l<|.lst<|(sortI ns).map V.int)):=by
 k_put;let⟨p,kvs,ns,rfl,hp,hk,h64,q⟩:=h;let⟨u,rfl,rx⟩:=ZN r;cases rx;let⟨z,hsm,vs,Ţ,dd⟩:=XO I.hok hp;let⟨ep,da⟩:=dd.dictAt;have hlen:vs.length=ns.length:=by have:=congrArg List.length hk;simpa[Ţ.length]using this
 refine Calls.call_function_entry kind_sorted plain_sorted entry_sorted (args_sorted1 _) ?_;unfold Builtin.«sorted»;refine À (m:=checkCount "sorted" 1 1 _)<|Æ ?_;refine À (PySem.W.kdu_collect (A:=X.A.in1) (PySem.W.kdl_dict (knd:=Zc X.prog X.w) (kvs:=vs) (ep:=ep) hsm) (I.ok.hd hc) da (by rw[<-Ţ.length];exact z) λh' tk ĸ hkeep dC=>?_);have hl:ĸ.toList.length=vs.length:=by rw[ì];exact dC.1
 refine À (aD ?_<|by rw[hl,<-Ţ.length];exact z);have hI:ą ĸ.toList ns:=Wv (P:=X.prog) (w:=X.w) (by rw[<-Ţ.keys];exact hk) hl λj v e=>dC.2 j v (by rw[<-Ĉ];exact e);have hoL:(h'.push<|ŧ "list" ĸ.toList.toArray 0).get? h'.objs.size=eQ (ŧ "list" ĸ.toList.toArray 0):=Ò _ rfl;have I1:Inv X Â σ H {s with heap:=h',toks:=tk}:=I.kept hkeep;refine À (ē<|Ĕ slot_list_sort ⟨_,hoL,rfl⟩ entry_list_sort (list_sort_tree hoL hI (by rw[hl,hlen];exact h64) λout cp a1 a2 a3=>⟨_,rfl,?_⟩)<|args_list_sort _);have e:=YG a2 a3;subst e;let⟨n,he⟩:=sortedHeap_at (out:=out) hoL;refine Æ ⟨_,rfl,.ref h'.objs.size,_,I1.laid (a:=h'.objs.size) (o:=.lst<|(sortI ns).map V.int) (t':=tk) (λb o e=>?_) (Ï _) ?_,rfl,q _<|I1.hok.fresh<|Ï _⟩
 .have e:h'.get? b=eQ o:=e;have hb:=Ó e;rw[sortedHeap_old (ä hb)<|by rw[cH];exact ĕ hb];exact Ä _ e
 .exact⟨by rw[Á,YI];unfold Þ;lia,out.toList,n,YQ a1,by simpa[ŧ]using he⟩
end
end L2
namespace Srt
open PySem.W PyProof.Rows
abbrev ok(n:Nat)(lt:Nat->Nat->Bool):KasT α->(α->Prop)->Prop
 |.ret a,Q=>Q a
 |.ask i j k,Q=>i<n/\j<n/\ok n lt (k<|lt i j) Q
section
variable {n:Nat}
abbrev K(p:Array Nat)(k:Nat):Nat:=p.getD k 0
end
end Srt
namespace L2
open PySem PySem.Spec PyProof.Rows PySem.W
def lex_eq:∀{a b:List Int},HT.lexLt a b=eV->HT.lexLt b a=eV->a=b
 |[],[],_,_=>rfl
 |[],_::_,h,_=>by cases h
 |_::_,[],_,h=>by cases h
 |x::xs,y::ys,h1,h2=>by
  rw[HT.lexLt_cons]at h1 h2;by_cases e:x=y
  .subst e;rw[gu rfl]at h1 h2;rw[lex_eq h1 h2]
  .rw[gw e]at h1;rw[gw<|Ne.symm e]at h2;have h1:¬ x<y:=⇑h1
   have h2:¬ y<x:=⇑h2
   lia
end L2
namespace Snd
open PySem L2
variable {i:Inf}
def OJ:∀{kvs:List (O.Val×O.Val)}{ps:List (Key×V)}{ns:List Int},RKs i.K H kvs ps->O.keysOf kvs=eQ ns->ps.map (·.1)=ns.map Sum.inl
 |_,_,ns,.nil,e=>by have e:eQ []=eQ ns:=e;cases e;rfl
 |(k,v)::kvs,_,ns,.cons (c:=c) hk _ t,e=>by
  have e:O.fe (k::kvs.map (·.1))=eQ ns:=e;cases k with
  |int j =>
   have e:(O.fe (kvs.map (·.1))).map (j :: ·)=eQ ns:=e;let⟨ms,z,rfl⟩:=Í.mp e;have ih:=OJ (ns:=ms) t z;cases c with
   |inl l =>have hk:j=l:=hk;subst hk;rw[Ñ,Ñ,ih]
   |inr _=>exact(show False from hk).elim
  |_=>cases e
def Mf:∀{ys:List O.Val}{ns:List Int},O.fe ys=eQ ns->ys=ns.map .int
 |[],_,e=>by cases e;rfl
 |y::ys,ns,e=>by
  cases y with
  |int j =>let⟨ms,z,rfl⟩:=Í.mp (show(O.fe ys).map (j :: ·)=eQ ns from e);rw[Ñ,<-Mf z]
  |_=>cases e
def JP:∀{xs:List O.Val}{us:List V}{rows:List (List Int)},RVs i.K H xs us->O.rowsOf xs=eQ rows->rows.length=us.length/\(∀n,n<rows.length->∃p,us[n]?=eQ (.ref p)/\gc i.K H p ((rows.getD n []).map V.int))/\xs=rows.map λr=>.tup (r.map .int)
 |_,_,rows,.nil,e=>by have e:eQ []=eQ rows:=e;cases e;exact⟨rfl,λn h=>gA h<|Nat.not_lt_zero _,rfl⟩
 |v::xs,_,rows,.cons r t,e=>by
  cases v with
  |tup ys =>
   let⟨ns,z1,e⟩:=æ.mp (show(O.fe ys).bind (λns=>(O.rowsOf xs).map (ns :: ·))=eQ rows from e);let⟨rs,z2,rfl⟩:=Í.mp e;let⟨h1,h2,h3⟩:=JP t z2;cases r with
   |tup hp hr =>
    have:=ZA z1 hr;subst this;refine⟨by rw[Ð,Ð,h1],λn hn=>?_,?_⟩
    .cases n with
     |zero=>exact⟨_,rfl,Zj hp⟩
     |succ n=>exact h2 n ⇑hn
    .rw[Ñ,<-h3];have:ys=ns.map .int:=Mf z1;rw[this]
  |_=>cases e
def OW:Na i .sortedI (λxs H Q=>(∃p,∃ns:List Int,xs=[.ref p]/\f9 i.K H p (ns.map V.int)/\ns.length<64/\∀l,H l=eS->Q (.ref l) (upd H l<|.lst<|(L2.sortI ns).map V.int))\/
    (∃p kvs,∃ns:List Int,xs=[.ref p]/\Rd H p (.dK kvs)/\kvs.map (·.1)=ns.map Sum.inl/\ns.length<64/\∀l,H l=eS->Q (.ref l) (upd H l<|.lst<|(L2.sortI ns).map V.int))):=by
 intro vs G H xs Q Qm g r w c;let⟨v,rfl,w⟩:=Xp w;let⟨x,rfl,rx⟩:=r.inv1;have key:∀(ns:List Int),(if ns.length<64 then O.Rs.new (.lst<|(O.sortI ns).map .int)else .no).wp G Qm->ns.length<64/\∀l,H l=eS->Q (.ref l) (upd H l<|.lst<|(L2.sortI ns).map V.int):=λns w=>by
  split at w
  .rename_i h64;exact⟨h64,ZW g (Ku w) c λp hp=>⟨_,eX,RVs.ints _⟩⟩
  .exact(Zl w).elim
 cases v with
 |ref a =>
  cases rx.ref_inv
  replace w:(O.biSortedI G<|.ref a).wp G Qm:=w
  unfold O.biSortedI O.sortAny at w;dsimp only at w;cases z:G a with
  |none=>rw[z]at w;exact(Zl w).elim
  |some o =>
   rw[z]at w;cases o with
   |lst ys =>
    cases z2:O.fe ys with
    |none=>simp![z2]at w;exact(Zl w).elim
    |some ns =>simp![z2]at w;let⟨us,h1,h2⟩:=g a _ z;have:=ZA z2 h2;subst this;exact .inl ⟨a,ns,rfl,f9.of h1,key ns w⟩
   |dct kvs =>
    cases z2:O.keysOf kvs with
    |none=>simp![z2]at w;exact(Zl w).elim
    |some ns =>simp![z2]at w;let⟨ps,h1,h2⟩:=g a _ z;exact .inr ⟨a,ps,ns,rfl,.inl h1,OJ h2 z2,key ns w⟩
   |_=>exact(Zl w).elim
 |scr ns =>
  cases rx with
  |scr h=>exact .inl ⟨_,ns,rfl,Z8 h,key ns w⟩
 |_=>exact(Zl w).elim
def SB(hK:X.K=i.K)(he:PE X e<|tE X i Φ m):PE X (.Subscript e (.Slice eS eS (eQ<|.UnaryOp .USub (.Constant (.int 1) k p0) p1) p2) pos) (tE X i Φ<|.rev m) :=
 (LX he).imp λσ H Q ⟨env,G,Qm,Em,p,w,c⟩=>by
  exact one p w λv G1 H1 x k1 p1 r q=>by let⟨a,e1,q1⟩:=eZ q;clear q;let⟨xs,e2,q2⟩:=eZ q1;clear q1;cases XX e1;cases r.ref_inv;let⟨us,h1,h2⟩:=ZE p1.hp e2;exact⟨a,us,rfl,by rw[hK];exact h1,ZW p1.hp q2 (c.go k1) λp hp=>⟨_,eX,(h2.reverse).keep<|fx.new hp⟩⟩
end Snd
namespace Snd
open PySem L2 PyProof.Rows
def KR:∀(ns:List Int) (a:Int),a∈O.dedup ns↔a∈ns
 |[],a=>Iff.rfl
 |x::xs,a=>by
  have ih:=KR xs a;unfold O.dedup;simp![Å,ï,ih];constructor
  .rintro(h|h)
   .exact .inl h
   .exact .inr h.1
  .rintro(h|h)
   .exact .inl h
   .by_cases e:a=x
    .exact .inl e
    .exact .inr ⟨h,⇑e⟩
def WR:∀ns:List Int,(O.dedup ns).Nodup
 |[]=>ò
 |x::xs=>by unfold O.dedup;rw[ó];refine⟨λh=>?_,List.Nodup.sublist ě<|WR xs⟩;have:=(ï.mp h).2;simp at this
def Kt:∀(ns ĸ:List Int),ĸ.Nodup->(ns.foldl š ĸ).Nodup/\∀a,a∈ns.foldl š ĸ↔a∈ĸ\/a∈ns
 |[],ĸ,h=>⟨h,λa=>by simp⟩
 |x::xs,ĸ,h=>by
  have h2:(š ĸ x).Nodup/\∀a,a∈š ĸ x↔a∈ĸ\/a=x:=by
   unfold š;split
   .rename_i hc;have hm:x∈ĸ:=⇑hc
    exact⟨h,λa=>⟨.inl,λz=>z.elim id λe=>e▸hm⟩⟩
   .rename_i hc;have hm:x∉ĸ:=⇑hc
    refine⟨?_,λa=>by simp⟩;rw[è];refine⟨h,by simp,λa ha b hb=>?_⟩;rw[á.mp hb];exact λe=>hm<|e▸ha
  let⟨h3,h4⟩:=Kt xs (š ĸ x) h2.1;refine⟨h3,λa=>?_⟩;rw[ķ,h4,h2.2,Å];constructor
  .rintro((z|z)|z)
   .exact .inl z
   .exact .inr<|.inl z
   .exact .inr<|.inr z
  .rintro(z|z|z)
   .exact .inl<|.inl z
   .exact .inl<|.inr z
   .exact .inr z
def El(ns:List Int):(ϊ (λi=>ns.getD i 0) ns.length).Perm<|O.dedup ns:=by
 have e:(List.range ns.length).map (λi=>ns.getD i 0)=ns:=by
  apply List.ext_getElem
  .simp
  .intro k h1 h2;simp at h1;simp[h1]
 unfold ϊ;rw[e];let⟨h1,h2⟩:=Kt ns [] ò;refine(List.perm_ext_iff_of_nodup h1<|WR ns).mpr λa=>?_;rw[h2,KR];simp
def Db(g:RH i G H)(r:RV i.K H v x)(e:O.sortOf G v=eQ ns):∃p,x=.ref p/\f9 i.K H p (ns.map V.int):=by
 cases v with
 |ref a =>let⟨ys,z1,z2⟩:=æ.mp (show(O.fj<|G a).bind O.fe=eQ ns from e);let⟨us,h1,h2⟩:=ZE g z1;have:=ZA z2 h2;subst this;exact⟨a,r.ref_inv,h1⟩
 |scr ms =>
  cases e;cases r with
  |scr h=>exact⟨_,rfl,Z8 h⟩
 |_=>cases e
def Mo:∀{xs:List O.Val}{k n:Nat}{v:O.Val},(O.enumL k xs)[n]?=eQ v->∃x,xs[n]?=eQ x/\v=.tup [.int ((k+n:Nat):Int),x]
 |[],k,n,v,h=>by simp[O.enumL]at h
 |x::xs,k,0,v,h=>by have h:eQ (O.Val.tup [.int k,x])=eQ v:=h;cases h;exact⟨x,rfl,rfl⟩
 |x::xs,k,n+1,v,h=>by let⟨y,h1,h2⟩:=Mo (xs:=xs) (k:=k+1) (n:=n) (v:=v) (by simpa[O.enumL]using h);refine⟨y,⇑h1,?_⟩;rw[h2,show k+1+n=k+(n+1) by lia]
def K0:∀(xs:List O.Val) (k:Nat),(O.enumL k xs).length=xs.length
 |[],_=>rfl
 |x::xs,k=>by show(O.enumL (k+1) xs).length+1=xs.length+1;rw[K0 xs]
def Ez(ha:H0 a=eQ (.tup us)\/KT i.K a us)(ra:RVs i.K H0 xs us):ItOk i H0 (Ite i.K a) (λ_=>True) (O.enumL 0 xs) where
 go:=λn G H v k g e hv=>by let⟨x,hx,rfl⟩:=Mo hv;have h1:gc i.K H a us:=Zj<|ha.imp (k.t _ _) id;let⟨x',h5,h6⟩:=(ra.keep k).get hx;refine⟨⟨us,x',h1,h5⟩,λw H' ⟨p,e1,hp,e2⟩=>?_⟩;subst e1;have:=e2 us x' h1 h5;subst this;have k:=fx.new (o:=.tup [.int n,x']) hp;refine⟨k,Nu g hp,.tup (.inl eX)<|.cons ?_<|.cons (h6.keep k) .nil⟩;rw[ř];exact .int _
 stop:=λn G H k g e hn=>by have h1:gc i.K H a us:=Zj<|ha.imp (k.t _ _) id;exact⟨us,h1,by rw[<-ra.length,<-K0 xs 0];exact hn⟩
def O5(h:O.tupOf v=eQ xs):v=.tup xs:=by
 cases v with
 |tup ys=>cases h;rfl
 |_=>cases h
def Gr(hK:X.K=i.K)(hg:Gl X "enumerate")(hm:X.mg "enumerate" = eS)(he:PE X e<|tE X i Φ m)(hs:à [e] X.env=[(eV,eval e X.env)]) :
  PI X (.Tuple es kk tp) (.Call (.Name "enumerate" p) [e] [] pos) (tIt X i Φ<|.enum m) :=
 (D1 hg hm (YE he f7 hs) hs).imp λσ H R ⟨env,G,QI,Em,p,w,c⟩=>by
  change tE X i Φ m σ H _;refine one p w λv G1 H1 x k1 p1 rx q=>?_;let⟨xs,e1,q2⟩:=eZ q;clear q;cases O5 e1;rw[hK];cases rx with
  |tup hp hr=>exact⟨_,rfl,⟨_,Zj hp⟩,c _ _ G1 H1 _ k1 p1.hp (Ez hp hr) q2⟩
end Snd
namespace Snd
open PySem L2
variable {i:Inf}
variable {p:Int×Int}
def O0(h:O.pairI v=eQ p):v=.tup [.int p.1,.int p.2]:=by
 unfold O.pairI at h;split at h
 .cases h;rfl
 .cases h
variable {H:Hp}{x:V}
def DK(r:RV i.K H v x)(h:O.pairI v=eQ p):∃a,x=.ref a/\gc i.K H a [.int p.1,.int p.2]:=by
 cases O0 h;cases r with
 |tup hp hr =>
  cases hr with
  |cons r1 t=>cases t with
   |cons r2 t =>cases t;cases r1.int_inv;cases r2.int_inv;exact⟨_,rfl,Zj hp⟩
def AO:∀{ns:List Int},ns≠[]->O.minI ns∈ns/\∀a∈ns,O.minI ns<=a
 |[],h=>gA rfl h
 |x::r,_=>by
  show r.foldl (λa b=>if b<a then b else a) x∈x::r/\∀a∈x::r,r.foldl (λa b=>if b<a then b else a) x<=a;induction r generalizing x with
  |nil=>simp
  |cons y r ih =>
   rw[ķ];let⟨h1,h2⟩:=ih (if y<x then y else x) (by simp);refine⟨?_,λa ha=>?_⟩
   .rcases Å.mp h1 with h1|h1
    .rw[h1];split<;>simp
    .exact Ø _<|Ø _ h1
   .have h3:=h2 _ å;have h4:(if y<x then y else x)<=x/\(if y<x then y else x)<=y:=by split<;>lia
    rcases Å.mp ha with rfl|ha
    .exact Int.le_trans h3 h4.1
    .rcases Å.mp ha with rfl|ha
     .exact Int.le_trans h3 h4.2
     .exact h2 a<|Ø _ ha
def CG(g:RH i G H)(r:RV i.K H v x)(e:O.intsAt G v=eQ ns):∃a,x=.ref a/\f9 i.K H a (ns.map V.int):=by
 cases v with
 |ref a =>let⟨ys,e1,e2⟩:=æ.mp (show(O.fj<|G a).bind O.fe=eQ ns from e);cases r.ref_inv;let⟨us,h1,h2⟩:=ZE g e1;cases ZA e2 h2;exact⟨a,rfl,h1⟩
 |_=>cases e
end Snd
namespace L2
open PySem PySem.Spec PyProof.Rows
def U8:∀(xs:List V) (us:List Ã),xs.length=us.length->(∀(j:Nat) (u:Ã),us[j]?=eQ u->∃x,xs[j]?=eQ x/\RelV x u)->gf xs us
 |[],[],_,_=>.nil
 |x::xs,u::us,hl,h=>by let⟨y,e,r⟩:=h 0 u rfl;cases e;exact .cons r (U8 xs us ⇑hl λj v hv=>h (j+1) v hv)
 |[],_::_,hl,_=>by cases hl
 |_::_,[],hl,_=>by cases hl
end L2
namespace L2
open PySem
@[reducible] noncomputable def Ris(xs:Array Nat):Prop:=xs.toList.Pairwise (· < ·)
abbrev Uh(xs:Array Nat)(j lo:Nat):Prop:=lo<=xs.size/\(∀k x,k<lo->xs[k]?=eQ x->x<j)/\∀k x,lo<=k->xs[k]?=eQ x->j<=x
variable {xs:Array Nat}{a:Nat}{b:Nat}{x:Nat}
def Wo(h:Ris xs)(hab:a<b)(ha:xs[a]?=eQ x)(hb:xs[b]?=eQ y):x<y:=by rw[<-Ĉ]at ha hb;let⟨h1,rfl⟩:=Ë.mp ha;let⟨h2,rfl⟩:=Ë.mp hb;exact List.pairwise_iff_getElem.mp h a b h1 h2 hab
def Km(h:Ris xs):∀(f lo hi:Nat),hi - lo<=f->lo<=hi->hi<=xs.size->(∀k x,k<lo->xs[k]?=eQ x->x<j)->(∀k x,hi<=k->xs[k]?=eQ x->j<=x)->Uh xs j (bh xs j f lo hi)
 |0,lo,hi,h1,h2,h3,h4,h5=>by
  have e:lo=hi:=by lia
  subst e;exact⟨h3,h4,h5⟩
 |f+1,lo,hi,h1,h2,h3,h4,h5=>by
  unfold bh;by_cases hl:lo<hi
  .rw[gu hl];dsimp only;have hm:(lo+hi) / 2<xs.size:=by lia
   have hx:xs[(lo+hi) / 2]?=eQ xs[(lo+hi) / 2]:=ù hm;have hg:xs.getD ((lo+hi) / 2) j=xs[(lo+hi) / 2]:=by simp[Ϸ,hm]
   rw[hg];by_cases hc:xs[(lo+hi) / 2]<j
   .rw[gu hc];refine Km h f _ _ ↥0 ↥0 h3 (λk x hk hkx=>?_) h5;by_cases hkm:k=(lo+hi) / 2
    .subst hkm;rw[hx]at hkx;cases hkx;exact hc
    .exact χ (Wo h ↥0 hkx hx) hc
   .rw[gw hc];refine Km h f _ _ ↥0 ↥0 ↥0 h4 λk x hk hkx=>?_;by_cases hkm:k=(lo+hi) / 2
    .subst hkm;rw[hx]at hkx;cases hkx;lia
    .exact Ö (Nat.not_lt.mp hc) (ς<|Wo h ↥0 hx hkx)
  .rw[gw hl];have e:lo=hi:=by lia
   subst e;exact⟨h3,h4,h5⟩
def Oy(h:Ris xs)(j:Nat):Uh xs j<|Ĺ xs j:=by unfold Ĺ;refine Km h xs.size 0 xs.size ↥0 ↥0 ↥0 (λk x hk=>by lia) λk x hk hkx=>?_;rw[Ŷ hk]at hkx;cases hkx
variable {j:Nat}
def Cw(ha:Uh xs j a)(hb:Uh xs j b):a=b:=by
 let⟨a1,a2,a3⟩:=ha;let⟨b1,b2,b3⟩:=hb;rcases Nat.lt_trichotomy a b with h|h|h
 .have hx:=ù (xs:=xs) (i:=a) ↥0;have:=b2 a _ h hx;have:=a3 a _ (Ï _) hx;lia
 .exact h
 .have hx:=ù (xs:=xs) (i:=b) ↥0;have:=a2 b _ h hx;have:=b3 b _ (Ï _) hx;lia
def Bh(h:Ris xs)(hx:xs[i]?=eQ x):Uh xs (x+1)<|i+1:=by
 have hi:i<xs.size:=(ļ.mp hx).1;refine⟨hi,λk y hk hky=>?_,λk y hk hky=>Wo h ↥0 hx hky⟩;by_cases e:k=i
 .subst e;rw[hx]at hky;cases hky;lia
 .have:=Wo h (show k<i by lia) hky hx;lia
def BF(xs:Array Nat):Uh xs 0 0:=⟨ģ _,λk x hk=>by lia,λ_ _ _ _=>ģ _⟩
def GR(h:Ris xs)(hn:xs[Ĺ xs j]?≠eQ j):Ris<|SetTable.insertAt xs (Ĺ xs j) j:=by
 let⟨c1,c2,c3⟩:=Oy h j;generalize Ĺ xs j=p at c1 c2 c3 hn;unfold Ris;rw[SetTable.toList_insertAt];have hs:(xs.toList.take p++xs.toList.drop p).Pairwise (· < ·):=by rw[List.take_append_drop];exact h
 let⟨h1,h2,h3⟩:=cX.mp hs;have hlo:∀a∈xs.toList.take p,a<j:=λa ha=>by let⟨k,hk,rfl⟩:=Ξ.mp ha;refine c2 k _ ↥0 ?_;rw[<-Ĉ];exact È _
 have hhi:∀a∈xs.toList.drop p,j<a:=λa ha=>by
  let⟨k,e⟩:=cG.mp ha;rw[List.getElem?_drop,Ĉ]at e;have:=c3 (p+k) _ ↥0 e;rcases Nat.lt_or_ge j a with q|q
  .exact q
  .exfalso;have e2:a=j:=by lia
   subst e2;by_cases k0:k=0
   .subst k0;exact hn e
   .have hp:xs[p]?=eQ (xs[p]'(by have:=(ļ.mp e).1;lia)):=ù _;have:=Wo h (show p<p+k by lia) hp e;have:=c3 p _ (Ï _) hp;lia
 exact cX.mpr ⟨h1,Ϲ.mpr ⟨hhi,h2⟩,λa ha b hb=>by
   rcases Å.mp hb with rfl|hb
   . exact hlo a ha
   . exact χ (hlo a ha)<|hhi b hb⟩
structure Tb(b:Bool)(t:ŷ):Prop where
 led:b=eV->t.led=eU
 ris:Ris t.place
 dum:t.dummies=#[]
def N4(hd:t.dummies=#[]):∀(n:Nat) (p:SetTable.Probe) (j:Nat) (d:Option Nat),p.dummy=eS->ϔ t f h n p=eQ (.empty j d)->t.slot j=.empty/\d=eS
 |0,p,j,d,h0,e=>by unfold ϔ at e;cases e
 |n+1,p,j,d,h0,e=>by
  unfold ϔ at e;cases hs:t.slot p.j with
  |empty =>rw[hs]at e;dsimp only at e;injection e with e;injection e with e1 e2;subst e1;exact⟨hs,e2▸h0⟩
  |dummy =>
   exfalso;unfold eB at hs;dsimp only at hs;split at hs
   .cases hs
   .rw[hd]at hs;simp[bz]at hs
  |live i =>
   rw[hs]at e;dsimp only at e;split at e
   .cases e
   .refine N4 hd n _ j d ?_ e;unfold SetTable.advance;split
    .exact h0
    .exact h0
def Ht{t:ŷ}(hd:t.dummies=#[]){h:Int}{b:Bool}(e:t.freeSlot h=eQ (j,b)):t.place[Ĺ t.place j]?≠eQ j:=by
 unfold SetTable.freeSlot at e;split at e
 .rename_i k d hp;let⟨h1,h2⟩:=N4 hd _ _ _ _ rfl hp;subst h2;injection e with e;injection e with e1 e2;have e1:k=j:=e1;subst e1;unfold eB at h1;dsimp only at h1;split at h1
  .cases h1
  .rename_i hq;exact λz=>hq (by rw[z];exact beq_self_eq_true _)
 .cases e
def Wt{b:Bool}(h:Tb b t)(n:Nat):Tb b (t.standIn n) :=
 ⟨h.led,by show(Array.range n).toList.Pairwise _;rw[Array.toList_range];exact cf,rfl⟩
def Ld{b:Bool}(h:Tb b t)(es:Array<|Int×Ã)(k:Int)(x:Ã):Tb b (layNew t es k x).2.1:=by
 unfold layNew;split
 .rename_i slot wd hf;show Tb b (cg _ _);have hp:Tb b (t.put slot).1:=by
   refine⟨h.led,GR h.ris<|Ht h.dum hf,?_⟩;show(if bz t.dummies slot then _ else t.dummies)=#[];rw[h.dum];simp[bz]
  unfold cg;split
  .exact hp
  .exact Wt hp _
 .exact Wt h _
def CU{b:Bool}(h:Tb b t)(es:Array<|Int×Ã)(n:Nat):Tb b (relayAll t es n).2.1:=by
 unfold relayAll;split
 .rename_i t' order hr;dsimp only;split
  .unfold SetTable.relaid SetTable.laid at hr;cases hl:SetTable.layClean (SetTable.sizeAbove n - 1) (es.map (·.1))with
   |none=>rw[hl]at hr;cases hr
   |some owner =>rw[hl]at hr;cases hr;refine⟨h.led,?_,rfl⟩;show List.Pairwise _ (List.toArray _).toList;refine List.pairwise_map.mpr<|List.pairwise_filterMap.mpr ?_;refine cf.imp λ{a c} hac x hx y hy=>?_;let⟨_,_,rfl⟩:=Í.mp hx;let⟨_,_,rfl⟩:=Í.mp hy;exact hac
  .exact Wt h _
 .exact Wt h _
end L2
namespace L2
open PySem PySem.Spec PyProof.Rows
section
variable (prog:ç)(w:ă)
noncomputable abbrev byT:Bool:=w.params.followText "set-order"
abbrev SetI(h:Ď)(a:Ì)(l:List Int):Prop:=∃o es ep t es0,h.get? a=eQ o/\o.ExactSet/\o.data=.set es ep t/\ElemsOf (ş prog w) es.toList/\es.size<av/\t.fits es.size=eU/\
 Tb (byT w) t/\es.toList.Perm es0/\ą (es0.map (·.2)) l
end
def X7:∀{vs:List Ã}{ns:List Int},ą vs ns->vs.length=ns.length
 |_,_,.nil=>rfl
 |_,_,.cons _ _ r=>congrArg (· + 1)<|X7 r
def Aw:∀{vs:List Ã}{ns:List Int}(n:Int) (t:Tok),ą vs ns->ą (vs++[.int n t]) (ns++[n])
 |_,_,n,t,.nil=>.cons n t .nil
 |_,_,n,t,.cons m u r=>.cons m u<|Aw n t r
def OO:∀{vs:List Ã}{ns:List Int},ą vs ns->(n∈ns↔∃v∈vs,(ş P w).is n v=eU)
 |_,_,.nil=>by simp
 |_,_,.cons m u r=>by
  have h:=OO (P:=P) (w:=w) (n:=n) r;have hk:(ş P w).is n (.int m u)=gB (n=m):=KeyKind.is_eq_decide (intKind_is P w m u) n;rw[Å,h];constructor
  .rintro(rfl|⟨v,hv,e⟩)
   .exact⟨_,å,by rw[hk];simp⟩
   .exact⟨v,Ø _ hv,e⟩
  .rintro⟨v,hv,e⟩;rcases Å.mp hv with rfl|hv
   .rw[hk]at e;exact .inl ⇑e
   .exact .inr ⟨v,hv,e⟩
variable {h:Ď}{a:Ì}{l:List Int}
def SetI.setOf(x:SetI P w h a l):h.SetOf (ş P w) a (λk=>gB (k∈l)) l.length:=by
 let⟨o,es,ep,t,es0,h1,h2,h3,h4,h5,h6,h7,h8,h9⟩:=x;refine⟨o,es,ep,t,h1,h2,h3,h4,λk=>?_,h5,h6,?_⟩
 .rw[decide_eq_true_iff,OO (P:=P) (w:=w) h9];constructor
  .rintro⟨v,hv,e⟩;let⟨x,hx,rfl⟩:=Ô.mp hv;exact⟨x,h8.mem_iff.mpr hx,e⟩
  .rintro⟨x,hx,e⟩;exact⟨_,Ô.mpr ⟨x,h8.mem_iff.mp hx,rfl⟩,e⟩
 .rw[<-X7 h9,Á,<-h8.length_eq,ì]
section
def Ab(ho:h.get? a=eQ o)(hd:o.data=.set es ep t) :
  (h.update a<|eC es' t').get? a=eQ {o with data:=.set es' (ep+1) t'}:=by
 have z:=ĉ (eC es' t') ho (by rw[putSet_of es' t' hd];rfl)
 rwa [putSet_of es' t' hd]at z
def add_int(hS:SetI prog w s.heap a l)(hroom:l.length+1<av)(k:∀h' b,Ň a s.heap h'->SetI prog w h' a (š l n)->Q b {s with heap:=h'}):wpAny (ß prog w) A (setAddHashed a (.int n tk)<|(ş prog w).hash n) Q E s:=by
 have hlen:=hS.setOf;let⟨o,es,ep,t,es0,ho,hex,hd,hel,hb,hf,ht,hp,hi⟩:=id hS;have hsz:es.size=l.length:=by rw[<-X7 hi,Á,<-hp.length_eq,ì]
 have bJ:(ş prog w).is n (.int n tk)=eU:=intKind_is _ _ _ _;unfold setAddHashed setAddHashedIn;refine ē<|À<|ū ho hd hf ?_;dsimp only;rw[byScan_of rfl hb hel];simp![↓reduceIte];unfold setAddByScan;refine À<|À<|Ϯ<|À<|wpAny_setScan_of bJ ho hd hf hel ?_;have hm:n∈l↔∃e∈es.toList,(ş prog w).is n e.2=eU:=by
  rw[OO (P:=prog) (w:=w) hi];constructor
  .rintro⟨v,hv,e⟩;let⟨x,hx,rfl⟩:=Ô.mp hv;exact⟨x,hp.mem_iff.mpr hx,e⟩
  .rintro⟨x,hx,e⟩;exact⟨_,Ô.mpr ⟨x,hp.mem_iff.mp hx,rfl⟩,e⟩
 cases hr:List.findIdx? (λe=>(ş prog w).is n e.2) es.toList with
 |some j =>
  let⟨hj,hpj,_⟩:=List.findIdx?_eq_some_iff_getElem.mp hr;have hn:n∈l:=hm.mpr ⟨_,Ļ hj,hpj⟩;have e1:š l n=l:=by unfold š;rw[gu<|Ż.mpr ⟨n,hn,by simp⟩]
  rw[e1]at k;exact Æ<|Æ<|k s.heap eV (Heap.SameBut.refl a s.heap) hS
 |none =>
  have hn:n∉l:=λz=>by let⟨e,he,q⟩:=hm.mp z;have:=List.findIdx?_eq_none_iff.mp hr e he;rw[q]at this;cases this
  have e1:š l n=l++[n]:=by
   unfold š;rw[gw];intro z;let⟨m,hm,q⟩:=Ż.mp z;have q:m=n:=⇑q
   exact hn<|q▸hm
  rw[e1]at k;have l1:=layNew_perm t es ((ş prog w).hash n)<|.int n tk;have l2:=layNew_fits t es ((ş prog w).hash n)<|.int n tk;have l3:=Ld ht es ((ş prog w).hash n)<|.int n tk;dsimp only;generalize hL:layNew t es ((ş prog w).hash n) (.int n tk)=L at l1 l2 l3 ⊢;let⟨cq,t1,wd,gv⟩:=L;dsimp only at l1 l2 l3 ⊢;rw[dQ]at l1;have i1:ą ((es0++[((ş prog w).hash n,Value.int n tk)]).map (·.2))<|l++[n]:=by rw[Ý];exact Aw n tk hi
  have p1:cq.toList.Perm<|es0++[((ş prog w).hash n,Value.int n tk)]:=l1.trans<|hp.append_right _;have hel1:ElemsOf (ş prog w) cq.toList:=(hel.push bJ rfl).perm l1;have hs1:cq.size=l.length+1:=by rw[<-ì,l1.length_eq,í,ì,hsz];rfl
  have fin:∀(h':Ď) (o':Obj) (ep':Nat) (es':Array<|Int×Ã) (t':ŷ),Ň a s.heap h'->h'.get? a=eQ o'->o'.ExactSet->o'.data=.set es' ep' t'->es'.toList.Perm cq.toList->t'.fits es'.size=eU->Tb (byT w) t'->∀b,Q b {s with heap:=h'}:=λh' o' ep' es' t' sb g1 g2 g3 g4 g5 g6 b=>by refine k h' b sb ⟨o',es',ep',t',_,g1,g2,g3,hel1.perm g4,?_,g5,g6,g4.trans p1,i1⟩;rw[<-ì,g4.length_eq,ì,hs1];exact hroom
  have hz1:cq.size<=Þ:=bj (by rw[hs1];exact hroom);have g0:∀(b:Bool){ħ:Ç}{Q':Unit->Ç->Prop},Q' () ħ->wpAny (ß prog w) A (match b with|true=>rule "set.scan.the-table-gave-way" | false=>pure ()) Q' E ħ :=
   λb ħ Q' hq=>by cases b<;>first|exact Æ hq|exact Ϯ hq
  refine À<|g0 _ ?_;have bv:hashByValue 8 (.int n tk)=(pure eU:Sem Bool):=hashByValue_scannable 8 rfl;rw[bv,ite_self];refine À<|Æ ?_;simp![↓reduceIte];refine À<|wpAny_storeSet_of ho hd ?_ hz1;have ho1:=Ab (es':=cq) (t':=t1) ho hd;have sb1:=ö s.heap a<|eC cq t1;split
  .have r1:=relayAll_perm t1 cq<|ϕ cq.size;have r2:=relayAll_fits t1 cq<|ϕ cq.size;have r3:=CU l3 cq<|ϕ cq.size;generalize relayAll t1 cq (ϕ cq.size)=R at r1 r2 r3 ⊢;let⟨es2,t2,gv2⟩:=R;dsimp only at r1 r2 r3 ⊢;refine À<|g0 _ ?_;refine À (wpAny_storeSet_of ho1 rfl ?_<|by rw[<-ì,r1.length_eq,ì];exact hz1);exact Æ<|Æ<|fin _ _ _ es2 t2 (sb1.trans<|ö _ a _) (Ab ho1 rfl) hex rfl r1 r2 r3 _
  .exact Æ<|Æ<|fin _ _ _ cq t1 sb1 ho1 hex rfl .rfl l2 l3 _
end
def SetI.at(x:SetI P w h a l)(k:∀o,h.get? a=eQ o->h'.get? a=eQ o):SetI P w h' a l:=by let⟨o,es,ep,t,es0,h1,h2⟩:=x;exact⟨o,es,ep,t,es0,k _ h1,h2⟩
section
variable {R:bD->Ç->Prop}{I:Ì}{G:Array cu->Array cu->Prop}{n:Nat}{St:Nat->Ç->Prop}
def EJ(W:WalksS prog w A.in1 I fp wr G n P St)(S:Ì)(hS:S∉fp)(val:Nat->Int)(hv:∀i v,P i v->∃t,v=.int (val i) t)(hb:n+1<av) :
  ∀(k i:Nat) (s:Ç),n - i=k->i<=n->St i s->SetI prog w s.heap S (ϊ val i)->(∀s',Moved (S::wr) G s s'->SetI prog w s'.heap S (ϊ val n)->R (.ok<|.ret .none) s')->
   codeAny (ß prog w) A (.builtin "set.update.loop" ⟨[.ref S,.ref I],[]⟩) R s:=by
 have nw:S∉wr:=λz=>hS<|W.sub _ z;intro k;induction k with
 |zero =>
  intro i s h1 h2 st x r;obtain rfl:i=n:=by lia
  refine Ĳ F.entry_set_update_loop ?_;rw[Ė F.plain_set_update_loop _];show wpAny _ A.in1 (Ε (.ref I) >>= _) _ _ s;refine À<|W.done s _ _ st λs' m=>?_;exact Æ<|r s' (m.mono λb hb=>Ø _ hb)<|x.at λo e=>m.heap S _ nw e
 |succ k ih =>
  intro i s h1 h2 st x r;have hi:i<n:=by lia
  refine Ĳ F.entry_set_update_loop ?_;rw[Ė F.plain_set_update_loop _];show wpAny _ A.in1 (Ε (.ref I) >>= _) _ _ s;refine À<|W.item i s _ _ hi st λv s' p bu m=>?_;let⟨t,rfl⟩:=hv i v p;show wpAny _ A.in1 (Ŕ [Value.int (val i) t] (setAdd S<|.int (val i) t) >>= _) _ _ s';refine À<|ē ?_;unfold setAdd;refine ē<|À<|(ş prog w).pyHash (k:=val i) (intKind_is _ _ _ _) ?_;refine add_int (s:={s' with toks:=s'.toks+1}) (x.at λo e=>m.heap S _ nw e) (by have:=aM val i;lia) λh' b sb x'=>?_;rw[<-firstMet_succ]at x';refine Æ ⟨Ł F.plain_set_update_loop _,ih (i+1) _ ↥0 hi (W.frame _ s' _ _ bu (ŋ _) λb hb o e=>?_) x' λs'' m'' x''=>r s'' ?_ x''⟩
  .rw[sb.2 b λz=>hS<|z▸hb];exact e
  .refine Moved.trans W.gtrans ((m.mono λb hb=>Ø _ hb).then_heap (ŋ _) λb o hb e=>?_) m'';rw[sb.2 b λz=>hb<|z▸å];exact e
end
section
noncomputable abbrev JW(b:Bool):Obj:={cls:=.type "set",dict:=eS,data:=.set #[] 0 (.fresh 0 0 !b)}
def HR(a:Ã)(h:Q (.ref s.heap.objs.size) {s with heap:=s.heap.push (JW<|byT w)}) :
  codeAny (ß prog w) A (.call (.builtin "set.__new__") ⟨[.type "set",a],[]⟩) (wants Q E) s:=by
 refine codeAny_of_tree ?_;show wpAny _ A.in1 (do checkBuiltinCall "set.__new__" ⟨[.type "set",a],[]⟩;again (.builtin "set.__new__" ⟨[.type "set",a],[]⟩)) _ _ s;refine À<|ϓ (F.newCall_set_1 a)<|Æ ⟨Ł F.plain_set_new _,Ĳ F.entry_set_new ?_⟩;rw[Ė F.plain_set_new _];unfold Builtin.«set.__new__» Builtin.Frozenset.newClass;have hsub:=sub_set_self;let⟨hp,g,d,tk,os⟩:=s;dsimp only
 wp_walk
 refine Ų<|Æ ?_;dsimp only;simp![newObj];exact À<|wpAny_alloc<|Æ<|Æ h
def ES{l:Ì}{items:Array Ã}{ns:List Int}(hh:A.handled=eS)(hl:s.heap.IsList l items)(hi:ą items.toList ns)(hb:items.size+1<av)
  (h:∀(h':Ď) (tk:Nat),SetI prog w h' s.heap.objs.size (ϊ (λi=>ns.getD i 0) items.size)->(∀b o,s.heap.get? b=eQ o->h'.get? b=eQ o)->Q (.ref s.heap.objs.size) {s with heap:=h',toks:=tk}) :
  wpAny (ß prog w) A (call (.type "set") [.ref l]) Q E s:=by
 let⟨c,tl,hmro⟩:=F.called_set.mro;have hmade:=F.called_set.made;have hsub:=F.called_set.sub;have h1:=F.called_set.notType;have h2:=F.called_set.canCreate;have hct:=F.typeCall_set_1<|.ref l;refine wpAny_call<|codeAny_of_tree ?_;show wpAny _ _ (callAny (.type "set") _) _ _ _;refine Æ ⟨Code.quiet_builtin _ (by decide +kernel),Ĳ F.entry_type_call ?_⟩;rw[Around.under_plain (weight_type_call_type "set" [.ref l] []) rfl]
 repeat (any_goals (first|assumption|wp_step))
 refine ż (HR (.ref l) (E:=E) (Q:=λv s1=>v=.ref s.heap.objs.size/\s1={s with heap:=s.heap.push (JW<|byT w)}) ⟨rfl,rfl⟩) λr s1 hr=>?_;cases r with
 |error e=>exact hr
 |ok fl =>
  cases fl with
  |ret obj =>
   let⟨rfl,rfl⟩:=hr;have hS:(s.heap.push<|JW<|byT w).get? s.heap.objs.size=eQ (JW<|byT w):=Ò _ rfl;have hT:Shared.TypeIs {s with heap:=s.heap.push (JW<|byT w)} (.ref s.heap.objs.size) "set":=⟨_,hS,rfl⟩
   have hli:=F.called_set.init.lookup;have dD:=F.called_set.init.bind<|.ref s.heap.objs.size
   repeat (any_goals (first|assumption|wp_step))
   refine ż (codeAny_call_builtin (R:=wants (λr s2=>r=.none/\∃h' tk,s2={ s with heap:=h',toks:=tk }/\SetI prog w h' s.heap.objs.size (ϊ (λi=>ns.getD i 0) items.size)/\∀b o,s.heap.get? b=eQ o->h'.get? b=eQ o) E)
     F.called_set.init.plain F.entry_set_init (check_set_init_1 hT ?_)) λr s2 hr=>?_
   .have hlS:l<s.heap.objs.size:=by let⟨_,e,_⟩:=hl;exact Ó e
    have hl1:(s.heap.push<|JW<|byT w).IsList l items:=hl.push _;let⟨ol,hol,aG,nl,hdl⟩:=id hl1;let⟨ocls,odict,odata,oslots⟩:=ol;simp only at aG hdl;subst aG hdl;have hsls:=F.sub_list_set;have hslf:=F.sub_list_frozenset;have Ş:(Value.type "list" == Value.type "dict")=eV:=by decide
    unfold Builtin.«set.__init__» noKeywords Builtin.Frozenset.updateFrom;generalize hPI:cz=PI
    wp_walk
    subst hPI;refine ž hl1<|À<|wpAny_runValue ?_;have hh3:A.in1.in1.in1.handled=eS:=by simp[hh]
    have zs:(s.heap.push<|JW<|byT w).objs.size=s.heap.objs.size+1:=Ť ..;refine EJ ((Walks.list hh3 _ l (by rw[zs];exact ä<|ĕ hlS) items).toS) s.heap.objs.size (by rw[zs];simp![Å,É,or_false,not_or];exact⟨ä<|Ě _,ŉ hlS⟩) (λi=>ns.getD i 0) (λi v hv=>IntsAre.int_at hi i v<|by rw[Ĉ];exact hv) hb (items.size - 0) 0 _ ↥0 (ģ _)
     ⟨⟨_,Ò _ rfl,rfl,rfl⟩,hl1.push _⟩ ?_ ?_
    .refine⟨_,#[],0,_,[],Ä _ hS,⟨rfl,rfl,rfl⟩,rfl,λe he=>by simp at he,by show 0<av;unfold av;lia,rfl,⟨λz=>by show(!byT w)=eU;rw[z];rfl,.nil,rfl⟩,.nil,.nil⟩
    .intro s' m x;let⟨h',g',d',tk',os'⟩:=s';have eg:g'=s.gens:=m.gens;have ed:d'=s.drawn:=m.drawn;have eo:os'=s.os:=m.os;subst eg ed eo;refine Æ ?_;show wpAny _ _ (ret Value.none) _ _ _;refine Æ ⟨rfl,h',tk',rfl,x,λb o e=>?_⟩;have hb:=Ó e;exact m.heap b o (by rw[zs];simp![Å,É,or_false,not_or];exact⟨ä hb,ä<|ĕ hb⟩)<|Ä _<|Ä _ e
   .cases r with
    |error e=>exact hr
    |ok fl =>
     cases fl with
     |ret r =>
      let⟨rfl,h',tk,rfl,x,hk⟩:=hr
      repeat (any_goals (first|assumption|wp_step))
      exact h _ _ x hk
     |_=>exact hr.elim
  |_=>exact hr.elim
end
end L2
namespace L2
open PySem PySem.Spec PyProof.Rows
open PySem.Builtin
def Df:entryFor table "set.__iter__" = eQ Builtin.«frozenset.__iter__»:=entryFor_alias (id':="frozenset.__iter__") (by kernel_rfl) rfl (by decide +kernel) (by kernel_rfl)
def EX:entryFor table "set_iterator.__next__" = eQ Builtin.«set_iterator.__next__»:=entryFor_of_tree (by kernel_rfl)
def Eg(a:Ã):cF "set_iterator.__next__" ⟨[a],[]⟩:=by unfold cF;kernel_rfl
def slot_snext:Slot "set_iterator" "__next__" "set_iterator.__next__" :=
 .of (owner:="set_iterator") (n:="__next__") (by rw[typeLookup_type,builtinLookup_eq_fast];kernel_rfl) (by decide +kernel) (by decide +kernel) (by decide +kernel)
  (by first|exact .inl (by decide +kernel)|exact .inr<|by decide +kernel) (by rw[cI];kernel_rfl)
def J3:Slot "set_iterator" "__iter__" "set_iterator.__iter__" :=
 .of (owner:="set_iterator") (n:="__iter__") (by rw[typeLookup_type,builtinLookup_eq_fast];kernel_rfl) (by decide +kernel) (by decide +kernel) (by decide +kernel)
  (by first|exact .inl (by decide +kernel)|exact .inr<|by decide +kernel) (by rw[cI];kernel_rfl)
def DR:entryFor table "set_iterator.__iter__" = eQ Builtin.«dict_keyiterator.__iter__»:=entryFor_alias (id':="dict_keyiterator.__iter__") (by kernel_rfl) rfl (by decide +kernel) (by kernel_rfl)
def Dp(a:Ã):cF "set_iterator.__iter__" ⟨[a],[]⟩:=by unfold cF;kernel_rfl
def XU{α:Type}:∀{l:List α}{i:Nat}(h:i<l.length),(l[i]::l.eraseIdx i).Perm l
 |a::l,0,h=>.rfl
 |a::l,i+1,h=>(List.Perm.swap a _ _).trans<|(XU (l:=l)<|Nat.lt_of_succ_lt_succ h).cons a
def U9(f:Nat->Nat):∀(n k:Nat) (l:List α) (out:Array α),l.length=n->(bo f n k l out).toList.Perm (out.toList++l)
 |0,k,l,out,h=>by
  cases l with
  |nil=>unfold bo;simp
  |cons _ _=>cases h
 |n+1,k,l,out,h=>by unfold bo;have Ϝ:f k % l.length<l.length:=Nat.mod_lt _ ↥0;rw[È Ϝ];dsimp only;refine(U9 f n (k+1) _ _<|by rw[bA Ϝ];lia).trans ?_;rw[dQ,Ĝ];exact(XU Ϝ).append_left _
def BD(f:Nat->Nat)(xs:Array α):(pickOrder f xs).toList.Perm xs.toList:=by unfold pickOrder;simpa using U9 f xs.size 0 xs.toList #[] (by simp)
section
variable {prog:ç}{w:ă}{A:Đ}{s:Ç}
variable {n:Nat}
def A9(hn:0<n)(h:∀k d,k<n->Q k {s with drawn:=d}):wpAny (ß prog w) A (choose src n) Q E s :=
 λ_ _ _=>⟨ŉ hn,h _ _<|Nat.mod_lt _ hn⟩
def OM:∀(n:Nat) (xs:List α){s:Ç}{Q:List α->Ç->Prop},xs.length=n->(∀ys d,ys.Perm xs->Q ys {s with drawn:=d})->wpAny (ß prog w) A (dR n xs) Q E s
 |0,[],s,Q,_,h=>by unfold dR;exact Æ<|h [] s.drawn .nil
 |0,_::_,_,_,h,_=>by cases h
 |n+1,[],_,_,h,_=>by cases h
 |n+1,x::xs,s,Q,hl,h=>by unfold dR;refine À (A9 (by simp) λk d hk=>?_);rw[È hk];dsimp only;refine À (OM n _ (by rw[bA hk];lia) λys d2 hp=>Æ<|h _ d2 ?_);exact(hp.cons _).trans<|XU hk
abbrev SetIt(h:Ď)(it a:Ì)(f:Ã)(i n ep:Nat):Prop:=∃o,h.get? it=eQ o/\o.cls=.type "set_iterator"/\o.data=.fields #[f,.int i 0,.ref a,.int n 0,.int ep 0]
variable {it:Ì}{a:Ì}{f:Ã}{i:Nat}{ep:Nat}
def SetIt.typeIs(h:SetIt s.heap it a f i n ep):s.TypeIs (.ref it) "set_iterator":=by let⟨o,h1,h2,_⟩:=h;exact⟨o,h1,h2⟩
structure SetO(h:Ď)(a:Ì)(o:Obj)(es:Array<|Int×Ã)(ep:Nat)(t:ŷ):Prop where
 at_:h.get? a=eQ o
 dat:o.data=.set es ep t
 fit:t.fits es.size=eU
def Og(aH:SetIt s.heap it a f i n ep)(h:Q (.ref it) s):wpAny (ß prog w) A (cz<|.ref it) Q E s:=by have hT:=aH.typeIs;refine bp hT J3<|Ĕ J3 hT DR ?_<|Dp _;show wpAny _ _ (ret<|.ref it) _ _ s;exact Æ ⟨_,rfl,"set_iterator",_,hT,slot_snext.lookup,h⟩
variable {Q:Option Ã->Ç->Prop}
def Aa(hh:A.handled=eS)(hQ:∀h',(∀b o,s.heap.get? b=eQ o->h'.get? b=eQ o)->Q eS {s with heap:=h'}) :
  wpAny (ß prog w) A (do raiseNew (<-ej (.type "StopIteration") []):Sem Fin) (λ_ _=>False) (λe s'=>∃h',(∀b o,s.heap.get? b=eQ o->h'.get? b=eQ o)/\s'={s with heap:=h'}/\s'.TypeIs e "StopIteration") s:=by
 show wpAny _ _ (ej (.type "StopIteration") [] >>= _) _ _ _;refine À ?_;simp![ej,newTuple];refine À (Ą ?_<|by size_fits);refine À (m:=ſ _ _) (ϓ (a:=Value.none) (by first|rfl|(simp![ſ];rfl)) ?_);refine Ą ?_ (by size_fits);simp![raiseNew];refine À<|dm ?_;rw[hh];refine À<|Æ<|wpAny_throw ?_;exact⟨_,λb o e=>Ä _<|Ä _ e,rfl,_,Ò _ rfl,rfl⟩
def W3(hT:s.TypeIs (.ref it) "set_iterator")(h:wpAny (ß prog w) A.in1 (Builtin.«set_iterator.__next__» ⟨[.ref it],[]⟩) (λfin s'=>∃v,fin=.done (.ret v)/\Q (eQ v) s') (λe s'=>s'.TypeIs e "StopIteration"/\Q eS s') s):wpAny (ß prog w) A (Ε<|.ref it) Q E s:=by
 unfold Ε;refine À<|dq<|Ħ (name:=gC "__next__") hT slot_snext<|Ĕ slot_snext hT EX ?_<|Eg _;refine ĵ h (λfin s' ⟨v,e,q⟩=>⟨v,e,Æ q⟩) λe s' ⟨t,q⟩=>?_;refine À<|Ϥ (T:="StopIteration") (b:=eU) t cE ?_;exact Æ q
abbrev NX(prog:ç)(w:ă)(a:Ì)(o:Obj)(ep:Nat)(f:Nat->Nat)(ord:List Ã):Prop :=
 ∀(A:Đ) (s:Ç) (Q:Option (Ã×Nat)->Ç->Prop) (E:Ã->Ç->Prop) (i:Nat),i<=ord.length->s.heap.get? a=eQ o->Q (ord[i]?.map (·,f<|i+1)) s->wpAny (ß prog w) A (setNext a (f i) i ep) Q E s
def ME{h:Ď}{o:Obj}{vs:Array Ã}{k:Nat}{x:Ã}(ho:h.get? it=eQ o)(hc:o.cls=.type "set_iterator")(hd:o.data=.fields vs) :
  ∃o',(h.update it (Ű (·.setIfInBounds k x))).get? it=eQ o'/\o'.cls=.type "set_iterator"/\o'.data=.fields (vs.setIfInBounds k x) :=
 ⟨_,ĉ _ ho<|ϣ<|Ř hd _,(ay ..).trans hc,Ř hd _⟩
end
def Walks.setT{prog:ç}{w:ă}{A:Đ}(hh:A.handled=eS)(I a:Ì)(Ş:a≠I){o:Obj}{es:Array (Int×Ã)}{ep:Nat}{t:ŷ}{f:Nat->Nat}{ord:List Ã}(hl:ord.length=es.size)(nx:NX prog w a o ep f ord) :
  Walks prog w A I [I,a] [I] es.size (λi v=>ord[i]?=eQ v) (λi h=>SetIt h I a (.int (f i) 0) i es.size ep/\SetO h a o es ep t) where
 sub:=λb hb=>by simp at hb;simp[hb]
 frame:=λ_ _ _ st hk=>⟨by let⟨o,h1,h2⟩:=st.1;exact⟨o,hk I (by simp) o h1,h2⟩,hk a (by simp) _ st.2.at_,st.2.dat,st.2.fit⟩
 item:=λi s Q E hi st hQ=>by let⟨st,so⟩:=st;refine W3 st.typeIs ?_;let⟨oi,h1,h2,h3⟩:=st;show wpAny _ _ (fieldsOf (.ref I) >>= _) _ _ s;refine À<|ϋ h1 h3 ?_;dsimp only;refine À<|Ŵ so.at_ so.dat so.fit ?_;refine Ō (λz=>gA z<|by simp) λ_=>?_;rw[â,â,â];have hx:ord[i]?=eQ ord[i]:=È ↥0;refine À (nx _ s _ _ i ↥0 so.at_ ?_);rw[hx];dsimp only[Option.map];refine À (Į h1 h3 (by simp) ?_);let⟨o2,g1,g2,g3⟩:=ME (k:=0) (x:=Ġ<|f<|i+1) h1 h2 h3;refine À (Į g1 g3 (by simp) ?_);let⟨o4,g4,g5,g6⟩:=ME (k:=1) (x:=Ġ<|(i:Int)+1) g1 g2 g3;have sb:=(ö s.heap I (Ű (·.setIfInBounds 0 (Ġ<|f<|i+1)))).trans (ö _ I (Ű (·.setIfInBounds 1 (Ġ<|(i:Int)+1))));refine Æ ⟨_,rfl,hQ _ _ s.toks hx ⟨⟨o4,g4,g5,by rw[g6];simp[Ġ]⟩,?_,so.dat,so.fit⟩ λb ob hb e=>sb.extBut b ob (λz=>hb<|by simp[z]) e⟩;exact sb.extBut a _ Ş so.at_
 done:=λs Q E st hQ=>by
  let⟨st,so⟩:=st;refine W3 st.typeIs ?_;let⟨oi,h1,h2,h3⟩:=st;show wpAny _ _ (fieldsOf (.ref I) >>= _) _ _ s;refine À<|ϋ h1 h3 ?_;dsimp only;refine À<|Ŵ so.at_ so.dat so.fit ?_;refine Ō (λz=>gA z<|by simp) λ_=>?_;rw[â,â,â];refine À (nx _ s _ _ es.size ↥0 so.at_ ?_);rw[Ŀ<|by lia];dsimp only[Option.map];refine À (Į h1 h3 (by simp) ?_);refine ĵ (Aa (A:=A.in1) (Q:=Q) hh λh' hk=>?_) (λ_ _ z=>z.elim) λe s' ⟨h',hk,e2,tt⟩=>⟨tt,?_⟩
  .exact hQ h' s.toks λb ob hb e=>hk b ob ((ö s.heap I _).extBut b ob (λz=>hb<|by simp[z]) e)
  .subst e2;exact hQ h' s.toks λb ob hb e=>hk b ob ((ö s.heap I _).extBut b ob (λz=>hb<|by simp[z]) e)
 self:=λ_ _ _ _ st hQ=>Og st.1 hQ
def Walks.setD{prog:ç}{w:ă}{A:Đ}(hh:A.handled=eS)(I a T:Ì)(Ş:a≠I)(hnT:T≠I){o oT:Obj}{es:Array (Int×Ã)}{ep:Nat}{t:ŷ}{ks:List Nat}(hl:ks.length=es.size)(hk:∀k∈ks,k<es.size)
  (hT:oT.data=.seq (ks.map λ(k:Nat)=>Ġ k).toArray) :
  Walks prog w A I [I,a,T] [I] es.size (λi v=>(ks.map λk=>(es.getD k (0,.none)).2)[i]?=eQ v) (λi h=>SetIt h I a (.ref T) i es.size ep/\SetO h a o es ep t/\h.get? T=eQ oT) where
 sub:=λb hb=>by simp at hb;simp[hb]
 frame:=λ_ _ _ st hk=>⟨by let⟨o,h1,h2⟩:=st.1;exact⟨o,hk I (by simp) o h1,h2⟩,⟨hk a (by simp) _ st.2.1.at_,st.2.1.dat,st.2.1.fit⟩,hk T (by simp) _ st.2.2⟩
 item:=λi s Q E hi st hQ=>by
  let⟨st,so,sT⟩:=st;refine W3 st.typeIs ?_;let⟨oi,h1,h2,h3⟩:=st;show wpAny _ _ (fieldsOf (.ref I) >>= _) _ _ s;refine À<|ϋ h1 h3 ?_;dsimp only;refine À<|Ŵ so.at_ so.dat so.fit ?_;refine Ō (λz=>gA z<|by simp) λ_=>?_;refine À<|ŗ sT hT ?_;have hi':i<ks.length:=by lia
  have hx:ks[i]?=eQ ks[i]:=È hi';have hki:=hk ks[i]<|Ļ hi';have hp:((ks.map λ(k:Nat)=>Ġ k).toArray)[(i:Int).toNat]?=eQ (.int (ks[i]:Nat) 0):=by rw[â];simp[hx,Ġ]
  dsimp only;rw[hp];dsimp only;rw[â,â];unfold setNextDrawn;refine À<|À<|ū so.at_ so.dat so.fit ?_;dsimp only;refine Ō (λz=>gA z<|by simp) λ_=>?_;have he:es[ks[i]]?=eQ es[ks[i]]:=ù hki;rw[he];dsimp only;refine Æ ?_;refine À (Į h1 h3 (by simp) ?_);let⟨o4,g4,g5,g6⟩:=ME (k:=1) (x:=Ġ<|(i:Int)+1) h1 h2 h3;have sb:=ö s.heap I (Ű (·.setIfInBounds 1 (Ġ<|(i:Int)+1)));refine Æ ⟨_,rfl,hQ _ _ s.toks ?_ ⟨⟨o4,g4,g5,by rw[g6];simp[Ġ]⟩,⟨sb.extBut a _ Ş so.at_,so.dat,so.fit⟩,sb.extBut T _ hnT sT⟩ λb ob hb e=>sb.extBut b ob (λz=>hb<|by simp[z]) e⟩;rw[Ù,hx];simp[Ϸ,hki]
 done:=λs Q E st hQ=>by
  let⟨st,so,sT⟩:=st;refine W3 st.typeIs ?_;let⟨oi,h1,h2,h3⟩:=st;show wpAny _ _ (fieldsOf (.ref I) >>= _) _ _ s;refine À<|ϋ h1 h3 ?_;dsimp only;refine À<|Ŵ so.at_ so.dat so.fit ?_;refine Ō (λz=>gA z<|by simp) λ_=>?_;refine À<|ŗ sT hT ?_;have hp:((ks.map λ(k:Nat)=>Ġ k).toArray)[(es.size:Int).toNat]?=eS:=by rw[â];simp[hl]
  dsimp only;rw[hp];dsimp only;refine À (Į h1 h3 (by simp) ?_);let⟨o4,g4,g5,g6⟩:=ME (k:=0) (x:=Ġ 0) h1 h2 h3;refine À (Į g4 g6 (by simp) ?_);refine ĵ (Aa (A:=A.in1) (Q:=λ_ _=>True) hh λ_ _=>trivial) (λ_ _ z=>z.elim) λe s' ⟨h',hk,e2,tt⟩=>⟨tt,?_⟩
  subst e2;exact hQ h' s.toks λb ob hb e=>hk b ob ((ö _ I _).extBut b ob (λz=>hb<|by simp[z])<|(ö s.heap I _).extBut b ob (λz=>hb<|by simp[z]) e)
 self:=λ_ _ _ _ st hQ=>Og st.1 hQ
section
variable {o:Obj}{ep:Nat}{t:ŷ}
def Gm(hb:byT w=eU)(hd:o.data=.set es ep t)(hf:t.fits es.size=eU):NX prog w a o ep (λ_=>0) ((pickOrder (w.params.setOrder a ep) es).toList.map (·.2)):=λA s Q E i hil ho h=>by unfold setNext;refine À<|ū ho hd hf ?_;dsimp only;unfold ϰ;refine À<|À<|Ų<|Æ ?_;have bK:(ß prog w).w.params.followText "set-order" = eU:=hb;dsimp only;rw[bK];simp![↓reduceIte,bne_self_eq_false,ā];refine À ?_;unfold setWalk ϰ;refine À<|ū ho hd hf ?_;dsimp only;refine À<|À<|Ų<|Æ ?_;dsimp only;rw[bK];simp![↓reduceIte];refine À<|Ų<|Æ<|Æ ?_;dsimp only;rw[Ù,Ĉ,Option.map_map]at h;exact h
def P1(hb:byT w=eV)(tb:Tb (byT w) t)(hpl:(!t.plain&&gB (es.size > 1))=eV)(hd:o.data=.set es ep t)(hf:t.fits es.size=eU) :
  NX prog w a o ep (λi=>match i with|0=>0|k+1=>t.place.getD k 0+1) (es.toList.map (·.2)):=λA s Q E i hil ho h=>by
 have e0:∀slot,setNext a slot i ep=(do
     let (es,epoch,t)<-setState a
     if<-ϰ then
       if epoch != ep then ai "set_iterator.__next__:elements-changed"
       return ((<-setWalk a)[i]?).map λe=>(e.2,slot)
     if(!t.plain&&gB (es.size > 1))then ai "set_iterator.__next__:the-table-is-plain-no-more"
     (do if !t.led && !es.isEmpty then ai "set:maker-not-led")
     let i:=Ĺ t.place slot
     return match es[i]?,t.place[i]? with
       |some (_,x),eQ j=>eQ (x,j+1)
       | _,_=>eS):=λ_=>rfl
 rw[e0];refine À<|ū ho hd hf ?_;dsimp only;unfold ϰ;refine À<|À<|Ų<|Æ ?_;have bK:(ß prog w).w.params.followText "set-order" = eV:=hb;have hled:=tb.led hb;dsimp only;rw[bK,hpl,hled];simp![ā,↓reduceIte,Bool.not_true,ϧ];refine Æ ?_;have hsz:t.place.size=es.size:=by simp![SetTable.fits,bAq,beq_iff_eq,gz]at hf;exact hf.1
 have fin:∀slot,i<=es.size->Uh t.place slot i->Q (match es[Ĺ t.place slot]?,t.place[Ĺ t.place slot]? with|some (_,x),eQ j=>eQ (x,j+1)|_,_=>eS) s:=λslot hi hc=>by
  rw[Cw (Oy tb.ris slot) hc];rw[Ù,Ĉ]at h;by_cases Ϝ:i<es.size
  .have h1:es[i]?=eQ es[i]:=ù Ϝ;have h2:t.place[i]?=eQ (t.place[i]'↥0):=ù _;rw[h1]at h ⊢;rw[h2];have h3:t.place.getD i 0=t.place[i]'↥0:=by simp[Ϸ,show i<t.place.size by lia]
   dsimp only[Option.map]at h ⊢;rw[h3]at h;exact h
  .have h1:es[i]?=eS:=Ŷ ↥0;rw[h1]at h ⊢;exact h
 cases i with
 |zero=>exact fin 0 (ģ _)<|BF _
 |succ k =>
  have hk:k<t.place.size:=by simp at hil;lia
  refine fin _ ↥0<|Bh tb.ris ?_;rw[ù hk];simp[Ϸ,hk]
end
structure Near(s s':Ç):Prop where
 heap:∀b o,s.heap.get? b=eQ o->s'.heap.get? b=eQ o
 gens:s'.gens=s.gens
 os:s'.os=s.os
def Gh:∀{vs us:List Ã}{ns:List Int},vs.Perm us->ą us ns->∃ms,ms.Perm ns/\ą vs ms:=by
 intro vs us ns h;induction h generalizing ns with
 |nil=>exact λr=>by cases r;exact⟨[],.nil,.nil⟩
 |cons x _ ih =>
  intro r;cases r with
  |cons n t r=>let⟨ms,h1,h2⟩:=ih r;exact⟨n::ms,h1.cons n,.cons n t h2⟩
 |swap x y l =>
  intro r;cases r with
  |cons n t r=>cases r with
   |cons m u r=>exact⟨m::n::_,.swap _ _ _,.cons m u<|.cons n t r⟩
 |trans _ _ ih1 ih2 =>intro r;let⟨ms,h1,h2⟩:=ih2 r;let⟨ks,h3,h4⟩:=ih1 h2;exact⟨ks,h3.trans h1,h4⟩
section
def EH(hT:s.TypeIs (.ref r) "set")(h:Q eV s):wpAny (ß prog w) A (Builtin.List.listLengthHint<|.ref r) Q E s:=by
 unfold Builtin.List.listLengthHint;refine À<|wpAny_specialOf hT PySem.F.slot_set_len.lookup ?_;generalize hid:("set.__len__" : String)=id0
 wp_delta
 rw[show splitId id0=eQ ("set","__len__") from by subst hid;decide +kernel];subst hid;refine À (Ϥ (T:="set") (b:=eU) hT (by rw[cI];kernel_rfl) ?_);refine Ō (λhab=>gA hab<|by decide) λ_=>?_;refine Ō (λ_=>?_) (λhab=>gA (by decide +kernel) hab);exact À<|ϭ hT<|Æ h
def Cv(hh:A.handled=eS)(hS:SetI prog w s.heap a l)(h:∀s' I fp St vs ms,Near s s'->s.heap.objs.size<=I->(∀b∈fp,b=a\/s.heap.objs.size<=b)->ms.Perm l->ą vs ms->Walks prog w A I fp [I] l.length (λi v=>vs[i]?=eQ v) St->St 0 s'.heap->Q (.ref I) s') :
  wpAny (ß prog w) A (cz<|.ref a) Q E s:=by
 let⟨o,es,ep,t,es0,ho,hex,hd,hel,hb,hf,ht,hp,hi⟩:=id hS;have hsz:es.size=l.length:=by rw[<-X7 hi,Á,<-hp.length_eq,ì]
 rw[<-hsz]at h;have hT:s.TypeIs (.ref a) "set":=⟨o,ho,hex.1⟩
 have Ϝ:=Ó ho;refine bp hT F.slot_set_iter<|Ĕ F.slot_set_iter hT Df ?_<|F.args_set_iter_1 _;have e0:Builtin.«frozenset.__iter__» ⟨[.ref a],[]⟩=(do
     let n<-cJ a
     let d<-(do
       let (es,_,t)<-setState a
       let byText<-ϰ
       return !byText&&(!t.plain&&gB (es.size > 1)))
     let first<-if d then newTuple ((<-dR n (List.range n)).map λ(i:Nat)=>Ġ i)else pure (Ġ 0)
     ret (<-newFields "set_iterator" [first,Ġ 0,.ref a,Ġ n,Ġ (<-setEpoch a)])):=rfl
 rw[e0];unfold cJ;refine À<|À<|Ŵ ho hd hf<|Æ ?_;refine À<|À<|ū ho hd hf ?_;dsimp only;unfold ϰ;refine À<|À<|Ų<|Æ<|Æ ?_;have ebt:(ß prog w).w.params.followText "set-order" = byT w:=rfl;dsimp only;rw[ebt];have mapP:∀es':List<|Int×Ã,es'.Perm es.toList->∃ms,ms.Perm l/\ą (es'.map (·.2)) ms:=λes' q=>Gh ((q.trans hp).map _) hi;by_cases hdr:(!byT w&&(!t.plain&&gB (es.size > 1)))=eU
 .rw[gu hdr];refine À (OM es.size (List.range es.size) (by simp) λks d hks=>À ?_);have hkl:ks.length=es.size:=by rw[hks.length_eq,Τ]
  refine wpAny_newTuple ?_ (by rw[Á,hkl];exact bj hb);refine À<|wpAny_setEpoch_of (Ä _ ho) hd hf ?_;refine À<|Ą<|Æ ⟨_,rfl,"set_iterator",_,⟨_,Ò _ rfl,rfl⟩,slot_snext.lookup,?_⟩;have zs:(s.heap.push { cls:=.type "tuple",dict:=eS,data:=.seq (List.map (λ(i:Nat)=>Ġ i) ks).toArray }).objs.size=s.heap.objs.size+1:=Ť ..;let⟨ms,m1,m2⟩:=mapP (ks.map λk=>es.getD k (0,.none)) (by
    refine(hks.map _).trans<|List.Perm.of_eq ?_
    refine List.ext_getElem (by simp) λi h1 h2=>?_
    have hi:i<es.size:=⇑h1
    simp[Ϸ,hi])
  rw[õ]at m2;refine h _ _ [_,a,s.heap.objs.size] _ _ ms ⟨λb o e=>Ä _<|Ä _ e,rfl,rfl⟩ (by rw[zs];exact ŋ _) (λb hb=>?_) m1 m2
   (Walks.setD (o:=o) (oT:={cls:=.type "tuple",dict:=eS,data:=.seq (List.map (λ(i:Nat)=>Ġ i) ks).toArray}) (es:=es) (ep:=ep) (t:=t) (ks:=ks) hh _ a s.heap.objs.size (by rw[zs];exact ä<|ĕ Ϝ) (by rw[zs];exact ä<|Ě _) hkl (λk hk=>Ϧ.mp<|hks.mem_iff.mp hk) rfl)
   ⟨⟨_,Ò _ rfl,rfl,rfl⟩,⟨Ä _<|Ä _ ho,hd,hf⟩,Ä _<|Ò _ rfl⟩
  simp![Å,É,or_false]at hb;rcases hb with rfl|rfl|rfl
  .exact .inr (by rw[zs];exact ŋ _)
  .exact .inl rfl
  .exact .inr<|Ï _
 .rw[gw hdr];refine À<|Æ ?_;refine À<|wpAny_setEpoch_of ho hd hf ?_;refine À<|Ą<|Æ ⟨_,rfl,"set_iterator",_,⟨_,Ò _ rfl,rfl⟩,slot_snext.lookup,?_⟩;have go:∀(f:Nat->Nat) (es':List<|Int×Ã),f 0=0->es'.Perm es.toList->NX prog w a o ep f (es'.map (·.2))->Q (.ref s.heap.objs.size) {s with heap:=s.heap.push {cls:=.type "set_iterator",dict:=eS,data:=.fields [Ġ 0,Ġ 0,.ref a,Ġ es.size,Ġ ep].toArray}}:=λf es' f0 hes nx=>by
   let⟨ms,m1,m2⟩:=mapP es' hes;have hl:(es'.map (·.2)).length=es.size:=by rw[Á,hes.length_eq,ì]
   refine h _ _ [_,a] _ _ ms ⟨λb o e=>Ä _ e,rfl,rfl⟩ (Ï _) (λb hb=>?_) m1 m2 (Walks.setT (t:=t) hh _ a (ä Ϝ) hl nx) ⟨⟨_,Ò _ rfl,rfl,by rw[f0];rfl⟩,Ä _ ho,hd,hf⟩;simp![Å,É,or_false]at hb;rcases hb with rfl|rfl
   .exact .inr<|Ï _
   .exact .inl rfl
  cases hbt:byT w with
  |true=>exact go _ _ rfl (BD _ es)<|Gm hbt hd hf
  |false =>rw[hbt]at hdr;exact go (λi=>match i with|0=>0|k+1=>t.place.getD k 0+1) _ rfl .rfl (P1 hbt ht ⇑hdr hd hf)
end
end L2
namespace L2
open PySem PySem.Spec PyProof.Rows
def DZ(h:ItemsOf (λi v=>vs[i]?=eQ v) ĸ n)(hn:vs.length=n):ĸ.toList=vs:=by
 refine List.ext_getElem? λi=>?_;rw[Ĉ];by_cases hi:i<ĸ.size
 .rw[ù hi];exact(h.2 i _<|ù hi).symm
 .rw[Ŷ ↥0,Ŀ (by have:=h.1;lia)]
section
variable {w:ă}
variable {l:List Int}
def Hu(hh:A.handled=eS)(hS:SetI prog w s.heap a l)(S:Ì)(hSa:S≠a)(hs:s.heap.get? S=eQ {cls:=.type "list",data:=.seq #[] 0})(h:∀s' vs ms c,s'.gens=s.gens->s'.os=s.os->(∀b o,b≠S->s.heap.get? b=eQ o->s'.heap.get? b=eQ o)->ms.Perm l->ą vs ms->s'.heap.get? S=eQ {cls:=.type "list",dict:=eS,data:=.seq vs.toArray c,slots:=#[]}->R (.ok<|.ret<|.ref S) s') :
  wpAny (ß prog w) A.in1 (Builtin.List.listExtendWith (.ref S) (.ref a)<|.ref S) (λfin s'=>match fin with|.done f=>R (.ok f) s'|.again c'=>c'.quiet=eU/\codeAny (ß prog w) A c' R s') (λe s'=>R (.error e) s') s:=by
 have hl:=hS.setOf;let⟨o,es,ep,t,es0,ho,hex,hd,hel,hb,hf,ht,hp,hi⟩:=id hS;have hsz:l.length<=Þ:=bj (by rw[<-X7 hi,Á,<-hp.length_eq,ì];exact hb);have hT:s.TypeIs (.ref a) "set":=⟨o,ho,hex.1⟩
 have hSs:S<s.heap.objs.size:=Ó hs;unfold Builtin.List.listExtendWith;refine À<|ϭ (T:="set") hT ?_;have h1:Builtin.List.listSameRef (.ref S) (.ref a)=eV:=by simp[Builtin.List.listSameRef,hSa]
 have h2:(Value.type "set" == Value.type "list")=eV:=by decide
 have h3:(Value.type "set" == Value.type "tuple")=eV:=by decide
 simp![h1,h2,h3,Χ,ā,if_false];refine À<|Cv (A:=A.in1) hh hS λs1 I fp St vs ms ne hI hfp pm ia W st=>?_;have hsf:S∉fp:=λz=>by
  rcases hfp S z with q|q
  .exact hSa q
  .exact ğ _<|é hSs q
 have hvl:vs.length=l.length:=(X7 ia).trans pm.length_eq;have key:∀(h':Ď) (c tk:Nat),St 0 h'->(∀b o,b≠S->s1.heap.get? b=eQ o->h'.get? b=eQ o)->h'.get? S=eQ {cls:=.type "list",data:=.seq #[] c}->codeAny (ß prog w) A (.builtin "list.extend.loop" ⟨[.ref S,.ref I,.ref S],[]⟩) R {s1 with heap:=h',toks:=tk}:=by
  intro h' c tk bu hk hS1;refine codeAny_extend_loopS W.toS hsz S hsf (.ref S) l.length 0 _ #[] c rfl (ģ _) bu hS1 (ItemsOf.nil _) λs2 ĸ c2 hm hS2 dC=>?_;have ev:ĸ.toList=vs:=DZ dC hvl;refine h s2 vs ms c2 (hm.gens.trans ne.gens) (hm.os.trans ne.os) (λb o hb e=>?_) pm ia (by rw[<-ev];simpa using hS2);refine hm.heap b o (λz=>?_)<|hk b o hb<|ne.heap b o e;rcases Å.mp z with q|z
  .exact hb q
  .have z:b=I:=⇑z
   subst z;exact ğ _<|é (Ó e) hI
 have hS1:=ne.heap S _ hs;refine À<|ē<|EH ⟨o,ne.heap a o ho,hex.1⟩ ?_;refine Ō (λ_=>?_) λ_=>Æ ⟨Ł PySem.F.plain_extend_loop _,key _ 0 _ st (λb o _ e=>e) hS1⟩;refine À<|Ϯ ?_;refine À ?_;show wpAny _ _ (dP S (·.push .none) >>= λ_=>dP S (·.pop)) _ _ _;refine À<|Κ hS1 rfl ?_;have hS2:=ĉ (Θ (·.push Value.none)) hS1 rfl;refine Κ (hz:=by seq_fits) hS2 rfl ?_;have hS3:=ĉ (Θ (·.pop)) hS2 rfl;refine Æ ⟨Ł PySem.F.plain_extend_loop _,key _ _ _ ?_ (λb o hb e=>?_) hS3⟩
 .refine W.frame 0 _ _ st λb hb o e=>?_;have d0:b≠S:=λz=>hsf<|z▸hb;exact(ô _ _ d0.symm).trans<|(ô _ _ d0.symm).trans e
 .exact(ô _ _ hb.symm).trans<|(ô _ _ hb.symm).trans e
def NW(hh:A.handled=eS)(hS:SetI prog w s.heap a l)(h:∀s' vs ms,Near s s'->ms.Perm l->ą vs ms->Q vs s'):wpAny (ß prog w) A (collect<|.ref a) Q E s:=by
 have Ϝ:a<s.heap.objs.size:=by let⟨_,_,_,_,_,e,_⟩:=hS;exact Ó e
 unfold collect;refine À<|wpAny_runValue<|Ĳ F.entry_proto_collect ?_;rw[Ė F.plain_proto_collect _];show wpAny _ A.in1 (newList [] >>= λl=>again<|.builtin "list.__iadd__" ⟨[l,.ref a],[]⟩) _ _ s;refine À<|Ą ?_;refine Æ ⟨Ł F.plain_list_iadd _,Ĳ F.entry_list_iadd ?_⟩;rw[Ė F.plain_list_iadd _];show wpAny _ A.in1 (Builtin.List.listExtendWith (.ref s.heap.objs.size) (.ref a)<|.ref s.heap.objs.size) _ _ _;have fin:∀(q:bD) (s':Ç),(∃vs ms c,q=.ok (.ret<|.ref s.heap.objs.size)/\Near s s'/\ms.Perm l/\ą vs ms/\s'.heap.get? s.heap.objs.size=eQ {cls:=.type "list",dict:=eS,data:=.seq vs.toArray c,slots:=#[]})->
   wants (λ(a:Ã) s'=>wpAny (ß prog w) A (match a with
     |.ref a=>do
       match (<-load a).data with
       |.seq xs _=>pure xs.toList
       |_=>ai "internal:collect"
     | _=>ai "internal:collect") Q E s') E q s':=λq s' ⟨vs,ms,c,e,ne,pm,ia,hg⟩=>by
  subst e;show wpAny _ A (load s.heap.objs.size >>= _) _ _ _;refine À<|wpAny_load hg<|Æ ?_;exact h s' _ ms ne pm ⇑ia
 refine ĵ (Hu (A:=A) (s:={ s with heap:=s.heap.push { cls:=.type "list",data:=.seq ([]:List Ã).toArray } }) (R:=λq s'=>∃vs ms c,q=.ok (.ret<|.ref s.heap.objs.size)/\Near s s'/\ms.Perm l/\ą vs ms/\s'.heap.get? s.heap.objs.size=eQ { cls:=.type "list",dict:=eS,data:=.seq vs.toArray c,slots:=#[] })
   hh (hS.at λo e=>Ä _ e) s.heap.objs.size (ŉ Ϝ) (Ò _ rfl) λs' vs ms c g1 g2 g3 pm ia hg=>⟨vs,ms,c,rfl,⟨λb o e=>g3 b o (ä<|Ó e)<|Ä _ e,g1,g2⟩,pm,ia,hg⟩) (λf s' z=>?_) λe s' z=>?_
 .cases f with
  |done f=>exact fin _ _ z
  |again c=>exact⟨z.1,ż z.2 λq s2 y=>fin q s2 y⟩
 .exact fin _ _ z
end
def Inv.near{Â:List (Ì×Obj)}{σ:St}{H:Hp}{s s':Ç}(I:Inv X Â σ H s)(ne:Near s s'):Inv X Â σ H s':=by have J:Inv X Â σ H {s with heap:=s'.heap,toks:=s'.toks}:=I.kept ne.heap;exact⟨J.ok,ne.os.trans J.os,by rw[ne.gens];exact J.bare,J.base,J.loc,J.cell,J.free,J.freeC,J.pin,J.hok,J.len⟩
abbrev tSS(K:Frag)(te:TE):TE:=λσ H Q=>IJ te HP σ H λvs H1=>∃p,∃ns:List Int,vs=[.ref p]/\f9 K H1 p (ns.map V.int)/\ns.length<64/\∀l,H1 l=eS->Q (.ref l) (upd H1 l<|.lst<|(sortI<|ϊ (λi=>ns.getD i 0) ns.length).map V.int)
def M4(hc:X.calm=eU)(hg:Gl X "sorted")(hm:X.mg "sorted" = eS)(hg2:Gl X "set")(hm2:X.mg "set" = eS)(he:PE X e te)(hs:à [e] X.env=[(eV,eval e X.env)]) :
  PE X (.Call (.Name "sorted" p) [.Call (.Name "set" p2) [e] [] pos2] [] pos) (tSS X.K te):=by
 k_sub;refine Ķ (Y6 (u:=.builtin "sorted") I hg hm (by kernel_rfl) ?_);refine PyProof.Rows.callWith_builtin1 ?_ rfl rfl;show wpAny _ _ (spliced<|(eV,eval (.Call (.Name "set" p2) [e] [] pos2) X.env)::[]) _ _ _;refine Calls.spliced_cons ?_;refine Ķ (Y6 (u:=.type "set") I hg2 hm2 (by kernel_rfl) ?_ ↥1<|by decide);refine PyProof.Rows.callWith_type1 (thn ((YE he f7 hs) pos2 Â s σ H _ I h) λus s1 ⟨vs,H1,I1,r1,q1⟩=>?_) hs rfl;let⟨a,ns,e1,hq,h64,q⟩:=q1;subst e1;let⟨u,rfl,ru⟩:=ZN r1;cases ru;let⟨ø,rv,pl,hz⟩:=I1.list hq;have hlen:=rv.length;rw[Á]at hlen;refine ES (I1.ok.hd hc) pl.isList (by simpa using Zz rv) (by rw[Î];show ø.length+1<4096;lia) λh' tk x hk=>Calls.spliced_nil ?_
 replace x:SetI X.prog X.w h' s1.heap.objs.size<|ϊ (λi=>ns.getD i 0) ns.length:=by rw[hlen];rw[show ø.toArray.size=ø.length from Î]at x;exact x
 have I2:Inv X Â σ H1 {s1 with heap:=h',toks:=tk}:=I1.kept hk;refine Calls.call_function_entry kind_sorted plain_sorted entry_sorted (args_sorted1 _) ?_;unfold Builtin.«sorted»;refine À (m:=checkCount "sorted" 1 1 _)<|Æ ?_;refine À<|NW (A:=X.A.in1) (I1.ok.hd hc) x λs3 vs ms ne pm ia=>?_;have I3:=I2.near ne;have hvl:vs.length<64:=by rw[X7 ia,pm.length_eq];exact Õ (aM _ _) ↥0
 refine À (aD ?_<|by unfold Þ;lia);have hoL:(s3.heap.push<|ŧ "list" vs.toArray 0).get? s3.heap.objs.size=eQ (ŧ "list" vs.toArray 0):=Ò _ rfl;refine À<|ē<|Ĕ slot_list_sort ⟨_,hoL,rfl⟩ entry_list_sort (list_sort_tree hoL ia hvl λout cp a1 a2 a3=>⟨_,rfl,?_⟩)<|args_list_sort _;have e:=YG (a2.trans pm) a3;subst e;let⟨n,hat⟩:=sortedHeap_at (out:=out) hoL;refine Æ ⟨_,rfl,.ref s3.heap.objs.size,_,I3.laid (a:=s3.heap.objs.size) (o:=.lst<|(sortI<|ϊ (λi=>ns.getD i 0) ns.length).map V.int) (t':=s3.toks) (λb o e=>?_) (Ï _) ?_,rfl,q _<|I3.hok.fresh<|Ï _⟩
 .have hb:=Ó e;rw[sortedHeap_old (ä hb)<|by rw[cH];exact ĕ hb];exact Ä _ e
 .exact⟨by rw[Á,YI];have:=aM (λi=>ns.getD i 0) ns.length;unfold Þ;lia,out.toList,n,YQ a1,by simpa[ŧ]using hat⟩
end L2
namespace Snd
open PySem L2
variable {i:Inf}
def NR(hc:X.calm=eU)(hK:X.K=i.K)(he:PE X e<|tE X i Φ m)(hg:Gl X "sorted")(hm:X.mg "sorted" = eS)(hg2:Gl X "set")(hm2:X.mg "set" = eS)(θ:à [e] X.env=[(eV,eval e X.env)]) :
  PE X (.Call (.Name "sorted" p) [.Call (.Name "set" p2) [e] [] pos2] [] pos) (tE X i Φ<|.bi .sortedSet<|.cons m .nil):=by
 refine(M4 hc hg hm hg2 hm2 he θ).imp λσ H Q ⟨env,G,Qm,Em,p,w,c⟩=>?_;rw[O.q_e_bi,O.q_a_cons]at w;change tE X i Φ m σ H _;refine one p w λv G1 H1 x k1 p1 r q=>?_;rw[O.q_a_nil]at q
 replace q:(O.biSortedSet G1 v).wp G1 Qm:=q
 unfold O.biSortedSet at q;cases z:O.sortOf G1 v with
 |none=>rw[z]at q;exact(Zl q).elim
 |some ns =>
  rw[z]at q;dsimp only at q;split at q
  .rename_i h4;let⟨a,rfl,hs⟩:=Db p1.hp r z;refine⟨a,ns,rfl,by rw[hK];exact hs,h4,?_⟩;rw[Kz<|El ns];exact ZW p1.hp (Ku q) (c.go k1) λp hp=>⟨_,eX,RVs.ints _⟩
  .exact(Zl q).elim
section
variable {K:Frag}{H:Hp}
structure f6(H H':Hp):Prop where
 t:∀a xs,H a=eQ (.tup xs)->H' a=eQ (.tup xs)
 f:∀a o xs,H a=eQ (.frz o<|.lst xs)->H' a=eQ (.frz o<|.lst xs)
mutual
theorem RV.keepL(k:f6 H H'):∀{v:O.Val}{x:V},RV K H v x->RV K H' v x
 |_,_,.non=>.non
 |_,_,.bl b=>.bl b
 |_,_,.int i=>.int i
 |_,_,.str s=>.str s
 |_,_,.tup (.inl e) r=>.tup (.inl<|k.t _ _ e)<|RVs.keepL k r
 |_,_,.tup (.inr e) r=>.tup (.inr e)<|RVs.keepL k r
 |_,_,.ref a=>.ref a
 |_,_,.scr (.inl ⟨o,e⟩)=>.scr<|.inl ⟨o,k.f _ _ _ e⟩
 |_,_,.scr (.inr e)=>.scr<|.inr e
 |_,_,.key e=>.key<|k.t _ _ e
theorem RVs.keepL(k:f6 H H'):∀{vs:List O.Val}{xs:List V},RVs K H vs xs->RVs K H' vs xs
 |_,_,.nil=>.nil
 |_,_,.cons r t=>.cons (RV.keepL k r)<|RVs.keepL k t
end
def RKs.keepL(k:f6 H H'):∀{kvs:List (O.Val×O.Val)}{ps:List (Key×V)},RKs K H kvs ps->RKs K H' kvs ps
 |_,_,.nil=>.nil
 |_,_,.cons a r t=>.cons a (r.keepL k)<|RKs.keepL k t
def RTs.keepL(k:f6 H H'):∀{kvs:List (O.Val×O.Val)}{ps:List (List Key×V)},RTs K H kvs ps->RTs K H' kvs ps
 |_,_,.nil=>.nil
 |_,_,.cons r t=>.cons (r.keepL k)<|RTs.keepL k t
def RFs.keepL(k:f6 H H'):∀{fs:List (String×O.Val)}{ps:List (Str×V)},RFs K H fs ps->RFs K H' fs ps
 |_,_,.nil=>.nil
 |_,_,.cons r t=>.cons (r.keepL k)<|RFs.keepL k t
def REn.keepL(r:REn K H env σ)(k:f6 H H'):REn K H' env σ:=⟨r.len,λi v e=>by
  let⟨x,h1,h2⟩:=r.get i v e
  exact⟨x,h1,h2.keepL k⟩⟩
variable {a:Ì}
def RO.moveL(r:RO i H a o)(k:f6 H H')(e:H' a=H a):RO i H' a o:=by
 cases o with
 |lst xs=>let⟨vs,q,r⟩:=r;exact⟨vs,e.trans q,r.keepL k⟩
 |dct kvs=>let⟨ps,q,r⟩:=r;exact⟨ps,e.trans q,r.keepL k⟩
 |ins C fs=>let⟨c,dx,ps,h0,h,q,r⟩:=r;exact⟨c,dx,ps,h0,h,e.trans q,r.keepL k⟩
 |exc C=>let⟨c,h,q⟩:=r;exact⟨c,h,e.trans q⟩
 |frz kvs=>let⟨o,ps,q,r⟩:=r;exact⟨o,ps,e.trans q,r.keepL k⟩
 |dtp kvs=>let⟨ps,q,r⟩:=r;exact⟨ps,e.trans q,r.keepL k⟩
variable {o:Obj}
def Xu(e:H a=eQ (.frz o<|.dK ps)):f6 H (upd H a<|.dK ps) :=
 ⟨λb xs q=>by rw[eW<|by rintro rfl;rw[e]at q;cases q];exact q,λb p xs q=>by rw[eW<|by rintro rfl;rw[e]at q;cases q];exact q⟩
def RH.thaw(g:RH i G H)(e:H a=eQ (.frz o<|.dK ps))(r:RKs i.K H kvs ps):RH i (O.upd G a<|.dct kvs)<|upd H a<|.dK ps:=λb p q=>by
 by_cases hb:b=a
 .subst hb;rw[O.eX]at q;cases q;exact⟨ps,eX,r.keepL<|Xu e⟩
 .rw[O.eW hb]at q;exact(g b p q).moveL (Xu e)<|eW hb
def RKs.len:∀{kvs:List (O.Val×O.Val)}{ps:List (Key×V)},RKs K H kvs ps->kvs.length=ps.length
 |_,_,.nil=>rfl
 |_,_,.cons _ _ t=>by rw[Ð,Ð,RKs.len t]
def RKs.at:∀{kvs:List (O.Val×O.Val)}{ps:List (Key×V)}{n:Nat}{c:Key}{x:V},RKs K H kvs ps->ps[n]?=eQ (c,x)->∃k v,kvs[n]?=eQ (k,v)/\WY k c/\RV K H v x
 |_,_,n,_,_,.nil,e=>by simp at e
 |_,_,0,_,_,.cons hk r _,e=>by simp at e;let⟨rfl,rfl⟩:=e;exact⟨_,_,rfl,hk,r⟩
 |_,_,n+1,_,_,.cons _ _ t,e=>by let⟨k,v,h1,h2⟩:=RKs.at (n:=n) t ⇑e;exact⟨k,v,⇑h1,h2⟩
def C4(h:WY k c):RV K H k<|kV c:=by
 cases k with
 |int j=>cases c with
  |inl l=>have h:j=l:=h;subst h;exact .int _
  |inr _=>exact(show False from h).elim
 |str s=>cases c with
  |inl _=>exact(show False from h).elim
  |inr t=>have h:t=gC s:=h;subst h;exact .str _
 |_=>exact(show False from h).elim
end
variable {a:Ì}{o:Obj}
def Ey(e0:H0 a=eQ (.frz o<|.dK ps))(r0:RKs i.K H0 kvs ps):ItOk i H0 (Iti a o ps) (λg=>g a=eQ (.frz kvs)) (kvs.map<|O.itemOf eV) where
 go:=λn G H v k g e hv=>by
  have e1:=k.f _ _ _ e0;rw[Ù]at hv;let⟨p,hp,rfl⟩:=Í.mp hv;have hn:n<ps.length:=by rw[<-r0.len];exact(Ë.mp hp).1
  refine⟨⟨e1,hn⟩,λx H' ⟨q,c,y,ex,hq,hy,eH⟩=>?_⟩;subst ex eH;let⟨k2,v2,h1,h2,h3⟩:=(r0.keep k).at hy;rw[hp]at h1;cases h1;have kk:fx H<|upd H q<|.tup [kV c,y]:=fx.new hq;exact⟨kk,Nu g hq,.tup (.inl eX)<|.cons (C4 h2)<|.cons (h3.keep kk) .nil⟩
 stop:=λn G H k g e hn=>⟨k.f _ _ _ e0,by rw[<-r0.len];simpa using hn⟩
def GK(e0:H0 a=eQ (.frz o<|.dK ps))(r0:RKs i.K H0 kvs ps):ItOk i H0 (Itk a o ps) (λg=>g a=eQ (.frz kvs)) (kvs.map<|O.itemOf eU) where
 go:=λn G H v k g e hv=>by
  have e1:=k.f _ _ _ e0;rw[Ù]at hv;let⟨p,hp,rfl⟩:=Í.mp hv;have hn:n<ps.length:=by rw[<-r0.len];exact(Ë.mp hp).1
  refine⟨⟨e1,hn⟩,λx H' ⟨eH,c,y,hy,ex⟩=>?_⟩;subst ex eH;let⟨k2,v2,h1,h2,h3⟩:=(r0.keep k).at hy;rw[hp]at h1;cases h1;exact⟨fx.refl _,g,C4 h2⟩
 stop:=λn G H k g e hn=>⟨k.f _ _ _ e0,by rw[<-r0.len];simpa using hn⟩
variable {tg:Expr}{pos:Pos}{q:O.Pt}{m:O.E}
def UV(hp:al ↥2 X.A X.env X.xe)(hc:X.calm=eU)(hi:PI X tg iter<|Px X J<|tE X i Φ m)(hg:PG X tg<|gPt i q)(hb:PSs X body<|tBl X i Φ mb)(hs:∀x,ġ iter X.env x=pure x)(hJ:∀(H0:Hp) (a:Ì) (o:Obj) (ps:List<|Key×V) (kvs:List<|O.Val×O.Val),H0 a=eQ (.frz o<|.dK ps)->RKs i.K H0 kvs ps->ItOk i H0 (J a o ps) (λg=>g a=eQ (.frz kvs)) (kvs.map<|O.itemOf kb)) :
  PS X (.For tg iter body [] pos) (tSt X i Φ<|.forI kb q m mb):=by
 intro Â s σ H D I ⟨env,G,N,R,B,C,Xe,p,w,c⟩;refine Hz (CN hp hc hi hg hb hs) Â s σ H D I ?_;refine one p.pre w λv G1 H1 x k1 p1 rx w'=>?_;let⟨a,e1,w''⟩:=eZ w';let⟨kvs,e2,w1⟩:=eZ w'';clear w' w'';have ev:v=.ref a:=by
  cases v with
  |ref b=>cases e1;rfl
  |_=>cases e1
 subst ev;cases rx.ref_inv;have eG:G1 a=eQ (.dct kvs):=by
  cases z:G1 a with
  |none=>rw[z]at e2;cases e2
  |some o=>rw[z]at e2;cases o<;>first|(cases e2;rfl)|cases e2
 let⟨ps,ha,hr⟩:=p1.hp a _ eG;refine⟨a,ps,rfl,ha,λo h0=>?_⟩;have k2:fx H1<|upd H1 a<|.frz o<|.dK ps:=fx.put (λxs z=>by rw[ha]at z;cases z) λp u z=>by rw[ha]at z;cases z
 have g2:RH i (O.upd G1 a<|.frz kvs)<|upd H1 a<|.frz o<|.dK ps:=p1.hp.put k2 ⟨o,ps,eX,hr.keep k2⟩;have it:=hJ _ a o ps kvs eX<|hr.keep k2;have aV:∀{H':Hp}{G':O.Hs},fx (upd H1 a<|.frz o<|.dK ps) H'->RH i G' H'->H' a=eQ (.frz o<|.dK ps)/\RKs i.K H' kvs ps/\fx H (upd H' a<|.dK ps):=λ{H' G'} k g=>by
  have e:=k.f a o _ eX;refine⟨e,(hr.keep k2).keep k,λb xs z=>?_,λb o' u z=>?_⟩
  .have z1:=k1.t b xs z;have hb:b≠a:=by rintro rfl;rw[ha]at z1;cases z1
   rw[eW hb];exact k.t b xs (by rw[eW hb];exact z1)
  .have z1:=k1.f b o' u z;have hb:b≠a:=by rintro rfl;rw[ha]at z1;cases z1
   rw[eW hb];exact k.f b o' u (by rw[eW hb];exact z1)
 have fin:∀ũ ů G' H',fx (upd H1 a<|.frz o<|.dK ps) H'->RH i G' H'->REn i.K H' ũ ů->(G' a=eQ (.frz kvs)/\N ũ (O.upd G' a<|.dct kvs))->(D.thaw X).nx ů H':=λũ ů G' H' k g en ⟨_,n⟩=>by let⟨b1,b2,b3⟩:=aV k g;exact⟨a,o,ps,b1,h0,c.nx ũ ů _ _ b3 (g.thaw b1 b2) (en.keepL<|Xu b1) n⟩
 have ret:∀v G' H' x,fx (upd H1 a<|.frz o<|.dK ps) H'->RH i G' H'->RV i.K H' v x->(G' a=eQ (.frz kvs)/\R v (O.upd G' a<|.dct kvs))->(D.thaw X).rt x H':=λv G' H' x k g r ⟨_,n⟩=>by let⟨b1,b2,b3⟩:=aV k g;exact⟨a,o,ps,b1,h0,c.rt v _ _ x b3 (g.thaw b1 b2) (r.keepL<|Xu b1) n⟩
 have xo:∀Hq,XW X (XKS i Hq λ_ _ _=>False):=λHq=>λ_ _ _ _ _ _ _ _ _ _ ⟨_,_,_,_,_,_,_,_,z⟩=>z.elim;generalize hxs:kvs.map (O.itemOf kb)=xs at w1 it;generalize θ:(λg:O.Hs=>g a=eQ (.frz kvs))=st at w1 it;refine⟨λn m ů H'=>n+m=xs.length/\∃ũ G',fx (upd H1 a<|.frz o<|.dK ps) H'/\RH i G' H'/\REn i.K H' ũ ů/\O.wFor st (λv e g K M=>O.go (O.bind q g v e) λe2=>O.wSs Φ mb e2 g K (λu g2=>g2 a=eQ (.frz kvs)/\R u (O.upd g2 a<|.dct kvs)) M K λ_ _ _=>False) (λe g=>g a=eQ (.frz kvs)/\N e (O.upd g a<|.dct kvs)) (xs.drop n) ũ G',⟨xs.length,by lia,env,_,fx.refl _,g2,(p.en.keep k1).keep k2,⇑w1⟩,?_⟩;rintro n m ů H' ⟨hnm,ũ,G',k3,g3,e3,w3⟩;by_cases hn:n<xs.length
 .right;have hd:xs.drop n=xs[n]::xs.drop (n+1):=Ŭ hn;rw[hd]at w3;let⟨s2,w3⟩:=w3;have hv:xs[n]?=eQ xs[n]:=È hn;let⟨a1,a2⟩:=it.go n G' H' xs[n] k3 g3 s2 hv;refine⟨a1,λσ4 H4=>∃cU G4,fx (upd H1 a<|.frz o<|.dK ps) H4/\RH i G4 H4/\REn i.K H4 cU σ4/\O.wFor st (λv e g K M=>O.go (O.bind q g v e) λe2=>O.wSs Φ mb e2 g K (λu g2=>g2 a=eQ (.frz kvs)/\R u (O.upd g2 a<|.dct kvs)) M K λ_ _ _=>False) (λe g=>g a=eQ (.frz kvs)/\N e (O.upd g a<|.dct kvs)) (xs.drop<|n+1) cU G4,λσ4 H4 h=>⟨m - 1,by lia,by lia,h⟩,λx H4 hy=>?_⟩;let⟨k4,g4,r4⟩:=a2 x H4 hy;let⟨dB,e5,w5⟩:=eZ w3;refine⟨xs[n],ũ,G',dB,r4,g4,e3.keep k4,e5,λσ5 h5=>?_⟩;refine⟨dB,G',_,_,_,_,_,⟨h5,g4,xo _⟩,w5,⟨λenv6 σ6 G6 H6 k6 g6 e6 w6=>?_,λv6 G6 H6 x6 k6 g6 r6 w6=>?_,λenv6 σ6 G6 H6 k6 g6 e6 w6=>?_,λenv6 σ6 G6 H6 k6 g6 e6 w6=>?_⟩⟩
  .exact⟨env6,G6,(k3.trans k4).trans k6,g6,e6,w6⟩
  .exact ret v6 G6 H6 x6 ((k3.trans k4).trans k6) g6 r6 w6
  .exact fin env6 σ6 G6 H6 ((k3.trans k4).trans k6) g6 e6 w6
  .exact⟨env6,G6,(k3.trans k4).trans k6,g6,e6,w6⟩
 .left;have hd:xs.drop n=[]:=Ŗ ↥0;rw[hd]at w3;exact⟨it.stop n G' H' k3 g3 w3.1 ↥0,fin ũ ů G' H' k3 g3 e3 w3.2⟩
variable {kk:Nat}{d:Expr}
def FW(hp:al ↥2 X.A X.env X.xe)(hc:X.calm=eU)(hd:PE X d<|tE X i Φ m)(hg:PG X (.Tuple es kk tp)<|gPt i q)(hb:PSs X body<|tBl X i Φ mb)(aR:Ĭ d "items" X.env (eval d X.env)=eval d X.env)(aS:(œ.endLine==Ũ.line)=eU)(hs:∀x,ġ (.Call (.Attribute d "items" œ) [] [] Ũ) X.env x=pure x) :
  PS X (.For (.Tuple es kk tp) (.Call (.Attribute d "items" œ) [] [] Ũ) body [] pos) (tSt X i Φ<|.forI eV q m mb) :=
 UV hp hc (De hd aR aS) hg hb hs λ_ _ _ _ _ e r=>Ey e r
def Go(hp:al ↥2 X.A X.env X.xe)(hc:X.calm=eU)(hd:PE X d<|tE X i Φ m)(hg:PG X tg<|gPt i q)(hb:PSs X body<|tBl X i Φ mb)(hs:∀x,ġ d X.env x=pure x) :
  PS X (.For tg d body [] pos) (tSt X i Φ<|.forI eU q m mb) :=
 UV hp hc (GT hd) hg hb hs λ_ _ _ _ _ e r=>GK e r
def Oi(rows:List<|List Int):∀(k:Nat) (x:List Int) (r:List<|List Int),rows.take (k+1)=x::r->k<rows.length->O.minR x r=rows.getD (Ĩ (btL λn=>rows.getD n []) k) []
 |0,x,r,h,hk=>by
  cases rows with
  |nil=>cases h
  |cons y ys=>simp at h;let⟨rfl,rfl⟩:=h;rfl
 |k+1,x,r,h,hk=>by
  cases rows with
  |nil=>cases h
  |cons y ys =>
   rw[ϵ]at h;injection h with h1 h2;subst h1 h2;have bU:k<ys.length:=⇑hk
   have ih:=Oi (y::ys) k y (ys.take k) (by rw[ϵ]) (by simp;lia);have e:ys.take (k+1)=ys.take k++[ys[k]]:=by rw[Ÿ];simp[bU]
   have app:∀(b:List Int) (l:List<|List Int) (z:List Int),O.minR b (l++[z])=if O.fL z (O.minR b l)then z else O.minR b l:=by
    intro b l z;induction l generalizing b with
    |nil=>rfl
    |cons w l ih=>exact ih _
   rw[e,app,ih];have e2:(y::ys).getD (k+1) []=ys[k]:=by simp[bU]
   show _=(y::ys).getD (if btL (λn=>(y::ys).getD n []) (k+1) (Ĩ (btL λn=>(y::ys).getD n []) k)=eU then k+1 else Ĩ (btL λn=>(y::ys).getD n []) k) [];have eb:btL (λn=>(y::ys).getD n []) (k+1) (Ĩ (btL λn=>(y::ys).getD n []) k)=O.fL ys[k] ((y::ys).getD (Ĩ (btL λn=>(y::ys).getD n []) k) []):=by rw[ML,<-e2];rfl
   rw[eb];cases O.fL ys[k] ((y::ys).getD (Ĩ (btL λn=>(y::ys).getD n []) k) [])with
   |true=>rw[gu rfl,gu rfl,e2]
   |false=>rw[gw ↥1,gw<|by decide]
def An{G:O.Hs}(h2:RVs i.K H xs us)(h3:(w::r).length=us.length)(h5:xs=(w::r).map λn=>.tup<|n.map .int)(hy:us[Ĩ (btL λn=>(w::r).getD n [])<|us.length - 1]?=eQ y):RV i.K H (.tup<|(O.minR w r).map .int) y:=by
 rw[Oi (w::r) ((w::r).length - 1) w r (by simp)<|by simp];rw[<-h3]at hy;have Ϝ:Ĩ (btL λn=>(w::r).getD n []) ((w::r).length - 1)<(w::r).length:=by have:=J6 (btL λn=>(w::r).getD n [])<|(w::r).length - 1;simp only[Ð]at this ⊢;lia
 generalize hj:Ĩ (btL λn=>(w::r).getD n []) ((w::r).length - 1)=j at hy Ϝ ⊢;have hxj:xs[j]?=eQ (.tup<|((w::r).getD j []).map .int):=by rw[h5,Ù,È Ϝ];simp[Č,È Ϝ]
 let⟨x2,hx2,rx2⟩:=h2.get hxj;rw[hy]at hx2;cases hx2;exact rx2
abbrev Cf(K:Frag):List V->Hp->VK->Prop:=λxs H Q=>∃a us,∃rows:List<|List Int,xs=[.ref a]/\f9 K H a us/\rows.length=us.length/\(∀i,i<rows.length->∃p,us[i]?=eQ (.ref p)/\gc K H p ((rows.getD i []).map V.int))/\us≠[]/\∀x,us[Ĩ (btL λi=>rows.getD i [])<|us.length - 1]?=eQ x->Q x H
def Bp(hc:X.calm=eU)(hu:X.A.units+1<Ģ):ff X (.builtin "min")<|Cf X.K:=by k_put;let⟨a,us,rows,rfl,hl,hr,ht,h0,q1⟩:=h;let⟨u,rfl,ru⟩:=ZN r;cases ru;exact Ur hc hu I hl hr ht h0 q1
def HN:Na i .minL λxs H Q=>((∃p,∃ns:List Int,xs=[.ref p]/\gc i.K H p (ns.map V.int)/\ns≠[]/\∀M,M∈ns->(∀a∈ns,M<=a)->Q (.int M) H)\/∃p,∃ns:List Int,xs=[.ref p]/\f9 i.K H p (ns.map V.int)/\ns≠[]/\∀M,M∈ns->(∀a∈ns,M<=a)->Q (.int M) H)\/Cf i.K xs H Q:=by
 intro vs G H xs Q Qm g r w c;let⟨v,rfl,w2⟩:=Xp w;clear w;have w:=w2;clear w2;let⟨x,rfl,rx⟩:=r.inv1;unfold O.biMinL at w;cases z:O.pairI v with
 |some p =>
  rw[z]at w;let⟨a,rfl,hs⟩:=DK rx z;refine .inl (.inl ⟨a,[p.1,p.2],rfl,hs,by simp,λM h1 h2=>?_⟩);have e:M=if p.2<p.1 then p.2 else p.1:=by have a1:=h2 p.1 (by simp);have a2:=h2 p.2 (by simp);simp![Å,É,or_false]at h1;split<;>lia
  rw[e];exact c _ G H _ (fx.refl H) g (.int _)<|Zq w
 |none =>
  rw[z]at w;dsimp only at w;have rws:((match (O.asLst G v).bind O.rowsOf with|some (x::r)=>.val (.tup<|(O.minR x r).map .int)|_=>.no:O.Rs)).wp G Qm->Cf i.K [x] H Q:=λw=>by
   cases z3:(O.asLst G v).bind O.rowsOf with
   |none=>rw[z3]at w;exact(Zl w).elim
   |some rows =>
    rw[z3]at w;cases rows with
    |nil=>exact(Zl w).elim
    |cons y ys =>let⟨zs,z1,z2⟩:=æ.mp z3;let⟨a,us,rfl,h1,h2⟩:=WI g rx z1;let⟨h3,h4,h5⟩:=JP h2 z2;refine⟨a,us,_,rfl,h1,h3,h4,(λe=>by rw[e]at h3;cases h3),λx hx=>?_⟩;exact c _ G H _ (fx.refl H) g (An (G:=G) h2 h3 h5 hx)<|Zq w
  cases z2:(O.tupI v).or (O.intsAt G v)with
  |none=>rw[z2]at w;exact .inr<|rws w
  |some ns =>
   rw[z2]at w;cases ns with
   |nil=>exact .inr<|rws w
   |cons n ns =>
    have fin:∀M,M∈n::ns->(∀a∈n::ns,M<=a)->Q (.int M) H:=λM h1 h2=>by have h3:=AO (ns:=n::ns) (by simp);obtain rfl:M=O.minI (n::ns):=Int.le_antisymm (h2 _ h3.1)<|h3.2 _ h1;exact c _ G H _ (fx.refl H) g (.int _)<|Zq w
    cases v with
    |tup ys =>
     have z3:O.fe ys=eQ (n::ns):=by
      have z4:(O.fe ys).or eS=eQ (n::ns):=z2
      rwa [Option.or_none]at z4
     cases rx with
     |tup hp hr =>cases ZA z3 hr;exact .inl (.inl ⟨_,_,rfl,Zj hp,by simp,fin⟩)
    |ref b =>let⟨a,rfl,hs⟩:=CG g rx z2;exact .inl (.inr ⟨a,n::ns,rfl,hs,by simp,fin⟩)
    |_=>cases z2
def Pn(hc:X.calm=eU)(hu:X.A.units+1<Ģ)(hK:X.K=i.K)(hg:Gl X "min")(hm:X.mg "min" = eS)(he:PE X e<|tE X i Φ m)(hs:à [e] X.env=[(eV,eval e X.env)]) :
  PE X (.Call (.Name "min" p) [e] [⟨eQ "default",.Constant .none kk kp,kpos⟩] pos) (tE X i Φ<|.bi .minD<|.cons m .nil):=by
 refine(Hl hc hu hg hm (YE he f7<|by rw[hs];rfl) hs).imp λσ H Q ⟨env,G,Qm,Em,p,w,c⟩=>?_;change tE X i Φ m σ H _;refine one p w λv G1 H1 x k1 p1 r q=>?_
 replace q:(O.fT G1 v).wp G1 Qm:=q
 cases v with
 |ref a =>
  cases r.ref_inv;unfold O.fT at q;dsimp only at q;cases z:(O.fj<|G1 a).bind O.rowsOf with
  |none=>rw[z]at q;exact(Zl q).elim
  |some rows =>
   let⟨xs,z1,z2⟩:=æ.mp z;let⟨us,h1,h2⟩:=ZE p1.hp z1;let⟨h3,h4,h5⟩:=JP h2 z2;rw[z]at q;refine⟨a,us,rows,rfl,by rw[hK];exact h1,h3,by rw[hK];exact h4,λe0=>?_,λe0 y hy=>?_⟩
   .subst e0;cases rows with
    |nil=>exact c _ G1 H1 _ k1 p1.hp .non<|Zq q
    |cons _ _=>cases h3
   .cases rows with
    |nil=>exact gA (ύ.mp h3.symm) e0
    |cons w r =>exact c _ G1 H1 _ k1 p1.hp (An (G:=G1) h2 h3 h5 hy)<|Zq q
 |_=>exact(Zl q).elim
end Snd
namespace L2
open PySem PySem.Spec PyProof.Rows
def map_erase{α β:Type}(f:α->β):∀(l:List α) (j:Nat),(l.map f).eraseIdx j=(l.eraseIdx j).map f
 |[],_=>rfl
 |_::_,0=>rfl
 |a::l,j+1=>congrArg (f a :: ·)<|map_erase f l j
def Kr{κ β:Type}[DecidableEq κ]{k:κ}{v:β}:∀{l:List (κ×β)}{j:Nat},(l.map (·.1)).Nodup->l[j]?=eQ (k,v)->l.eraseIdx j=l.filter λp=>gB (p.1≠k)
 |[],_,_,e=>by cases e
 |a::l,0,n,e=>by cases e;have n1:=(ó.mp n).1;rw[List.filter_cons_of_neg (by show ¬ (gB (k≠k)=eU);rw[gz];exact λz=>z rfl),List.eraseIdx_cons_zero];exact(ϴ.mpr λp hp=>by rw[gz];exact λz=>n1<|Ô.mpr ⟨p,hp,z⟩).symm
 |a::l,j+1,n,e=>by have n1:=ó.mp n;have ne:a.1≠k:=λz=>n1.1<|Ô.mpr ⟨_,ã e,z.symm⟩;rw[Ā,gu (by rw[gz];exact ne),List.eraseIdx_cons_succ,Kr n1.2 e]
section
variable {prog:ç}{w:ă}{K:Type}[DecidableEq K]{knd:HeapKind prog w K}{A:Đ}{E:Ã->Ç->Prop}{s:Ç}
variable {d:Ì}
def BQ(hu:knd.room A)(bJ:knd.is s.heap k a)(hm:s.heap.DictOfH knd d xs)(hp:aC xs k=eQ p)(hz:xs.length<=Þ)(hQ:∀e h',e.val=p.2->h'.DictOfH knd d (xs.filter λx=>gB (x.1≠k))->Ň d s.heap h'->Q (eQ e) {s with heap:=h',toks:=s.toks+knd.draws k}):wpAny (ß prog w) A (Builtin.Dict.takeOut d<|.ref a) Q E s:=by
 let⟨o,es,ep,ho,hc,hd,he,his,hn⟩:=hm;unfold Builtin.Dict.takeOut
 try with_reducible refine ē ?_
 refine À<|knd.pyHash hu bJ<|À<|wpAny_dictFind_heap (s:={s with toks:=s.toks+knd.draws k}) hu bJ ho hd he his hn (λhno=>?_) λj q hj=>?_
 .rw[atKey_none_of_get hno]at hp;cases hp
 .have hq:=(atKey_of_get hn hj).symm.trans hp;cases hq;refine À<|ϖ (s:={s with toks:=s.toks+knd.draws k}) ho hd ?_;rw[entry_at he j,hj];refine À (wpAny_updateDictKeys (hz:=by have e:=bZ he;lia) (s:={s with toks:=s.toks+knd.draws k}) ho hd<|Æ<|hQ _ _ rfl ⟨_,_,ep+1,ĉ _ ho<|Obj.isFreed_of_dict<|dr hd _,hc.mapDictKeys _,dr hd _,?_,λx hx=>knd.keeps (his x<|(ï.mp hx).1) ho hd<|ö ..,(hn.sublist<|ě.map _)⟩<|ö ..);rw[<-Kr hn hj,<-map_erase,<-he];let⟨l⟩:=es;simp
def C3(hkd:Unit)(d a:Ì):MeetsIn prog w (Builtin.«dict.pop» ⟨[.ref d,.ref a],[]⟩) (λA R s=>knd.room A.in1/\∃k xs p,knd.is s.heap k a/\s.heap.DictOfH knd d xs/\xs.length<=Þ/\aC xs k=eQ p/\
      ∀h',h'.DictOfH knd d (xs.filter λx=>gB (x.1≠k))->Ň d s.heap h'->R (.ok<|.ret p.2) { s with heap:=h',toks:=s.toks+knd.draws k }) :=
 .of_wp λA R s ⟨hu,k,xs,p,bJ,hm,hz,hp,h⟩=>by
  let⟨o,es,ep,ho,hc,hd,he,his,hn⟩:=id hm;have Ş:es.isEmpty=eV:=by
   have h0:=bZ he;cases xs with
   |nil=>cases hp
   |cons x xs=>rw[Ð]at h0;cases es with|mk l=>cases l with|nil=>cases h0|cons _ _=>rfl
  unfold Builtin.«dict.pop»;refine À ?_;unfold Builtin.Dict.keyAndDefault;refine À<|wpAny_notOrdered_dict hm.typeIs ?_;show wpAny _ _ (pure (d,Value.ref a,eS)) _ _ s;refine Æ ?_;dsimp only;refine À<|ϖ ho hd<|À<|Æ ?_;rw[Ş];simp![ā,if_false];refine À<|BQ hu bJ hm hp hz λe h' ev hm' hs=>?_;simp![Option.isNone_some,ā,if_false];exact À (ah<|Æ ⟨e.val,rfl,by rw[ev];exact h h' hm' hs⟩)
abbrev DEn(h:Ď)(d:Ì)(es:Array Ϣ)(ep:Nat):Prop:=∃o,h.get? d=eQ o/\o.ExactDict/\o.data=.dict es ep
variable {es:Array Ϣ}{ep:Nat}
def DEn.ty(x:DEn s.heap d es ep):s.TypeIs (.ref d) "dict":=by let⟨o,h1,h2,_⟩:=x;exact⟨o,h1,h2.1⟩
def DEn.at_(x:DEn h d es ep)(k:∀o,h.get? d=eQ o->h'.get? d=eQ o):DEn h' d es ep:=by let⟨o,h1,h2⟩:=x;exact⟨o,k _ h1,h2⟩
def FR(hd:(d==Ĵ)=eV)(x:DEn s.heap d es ep)(hQ:Q (.ref s.heap.objs.size) {s with heap:=s.heap.push {cls:=.type "dict_keyiterator",data:=.fields #[.ref d,.int 0 0,.int es.size 0,.int ep 0]}}):wpAny (ß prog w) A (cz<|.ref d) Q E s:=by
 have hT:=x.ty;let⟨o,ho,hc,hdat⟩:=x;refine bp hT PySem.F.slot_dict_iter<|Ĕ PySem.F.slot_dict_iter hT PySem.F.entry_dict_iter ?_<|PySem.F.args_dict_iter_1 _;unfold Builtin.«dict.__iter__» Builtin.Dict.dictSlotNone Builtin.Dict.showsAll;refine À<|À<|wpAny_notOrdered_dict hT<|Æ ?_;show wpAny _ _ ((if(d==Ĵ)=eU then _ else _) >>= _) _ _ s;rw[gw<|by rw[hd];exact û];refine À<|Æ<|À<|ϖ ho hdat<|À<|wpAny_dictEpoch ho hdat ?_;exact À<|Ą<|Æ ⟨_,rfl,"dict_keyiterator",_,⟨_,Ò _ rfl,rfl⟩,PySem.F.slot_dict_keyiterator_next.lookup,hQ⟩
def U1(hh:A.handled=eS)(aH:s.heap.IsKeyIter it d i es.size ep)(x:DEn s.heap d es ep)(h1:∀e h',es[i]?=eQ e->h'.IsKeyIter it d (i+1) es.size ep->Ň it s.heap h'->Q (eQ e.key) {s with heap:=h'})(h2:es[i]?=eS->∀h',Heap.ExtBut it s.heap h'->Q eS {s with heap:=h'}):wpAny (ß prog w) A (Ε<|.ref it) Q E s:=by
 let⟨o,ho,hc,hd⟩:=id aH;let⟨od,hod,aP,hdd⟩:=x;unfold Ε;refine À (dq (Ħ (name:=gC "__next__") aH.typeIs PySem.F.slot_dict_keyiterator_next
   (Ĕ PySem.F.slot_dict_keyiterator_next aH.typeIs PySem.F.entry_dict_keyiterator_next ?_<|PySem.F.args_dict_keyiterator_next_1 _)))
 refine À<|Æ<|À<|À ?_
 first|refine À (ψ aH.typeIs<|Æ ?_)|refine À<|Ϛ aH.typeIs<|Æ ?_
 refine À<|ϋ ho hd ?_;simp![show Builtin.Dict_items.ownsTuple "dict_keyiterator" = eV by decide,ā,if_false];show wpAny _ _ (if(Value.ref d==Value.none)=eU then _ else _) _ _ s;rw[gw<|show ¬ ((Value.ref d==Value.none)=eU) from û];refine À<|Æ<|À<|ϖ hod hdd ?_;rw[gw<|by simp];refine À<|Æ<|À<|wpAny_dictEpoch hod hdd ?_;rw[gw<|by simp];refine Æ ?_;simp![show ¬ ((i:Int)<0) from by lia,if_false,â];cases z:es[i]? with
 |some e =>
  refine À ?_
  first|refine À (ψ aH.typeIs<|Æ ?_)|refine À<|Ϛ aH.typeIs<|Æ ?_
  refine À<|wpAny_isOneOf_keyiter aH.typeIs ?_;show wpAny _ _ (setField (.ref it) 1 (Ġ<|(i:Int)+1) >>= _) _ _ s;refine À (Į ho hd (by simp) ?_);have hit':(s.heap.update it (Ű (·.setIfInBounds 1 (Ġ<|(i:Int)+1)))).IsKeyIter it d (i+1) es.size ep :=
   ⟨_,ĉ _ ho<|ϣ<|Ř hd _,(ay ..).trans hc,by rw[Ř hd];simp[Ġ]⟩
  refine À (ē (À (wpAny_isOneOf_keyiter (s:={s with heap:=s.heap.update it (Ű (·.setIfInBounds 1 (Ġ<|(i:Int)+1)))}) hit'.typeIs ?_)));show wpAny _ _ (pure e.key) _ _ _;exact Æ<|Æ ⟨_,rfl,Æ<|h1 e _ z hit'<|ö ..⟩
 |none =>
  refine À ?_
  first|refine À (ψ aH.typeIs<|Æ ?_)|refine À<|Ϛ aH.typeIs<|Æ ?_
  show wpAny _ _ (setField (.ref it) 0 .none >>= _) _ _ s;refine À (Į ho hd (by simp) ?_);refine À ?_;simp![ej,newTuple];refine À (Ą ?_<|by size_fits);refine À (m:=ſ _ _) (ϓ (a:=Value.none) (by first|rfl|(simp![ſ];rfl)) ?_);refine Ą ?_ (by size_fits);simp![raiseNew];refine À<|dm ?_;rw[show A.in1.handled=eS from hh];refine À<|Æ<|wpAny_throw ?_;refine À<|Ϥ (T:="StopIteration") (b:=eU) ⟨_,Ò _ rfl,rfl⟩ cE ?_;exact Æ<|h2 z _<|((ö ..).extBut.push _).push _
def Walks.en(hh:A.handled=eS)(I d:Ì)(Ş:d≠I)(es:Array Ϣ)(ep:Nat):Walks prog w A I [I,d] [I] es.size (λi v=>es[i]?.map (·.key)=eQ v) (λi h=>h.IsKeyIter I d i es.size ep/\DEn h d es ep) where
 sub:=λb hb=>by simp at hb;simp[hb]
 frame:=λ_ _ _ st hk=>⟨st.1.at λo e=>hk I (by simp) o e,st.2.at_ λo e=>hk d (by simp) o e⟩
 item:=λi s Q E hi st hQ=>U1 hh st.1 st.2 (λe h' he aH hs=>hQ e.key h' s.toks (by rw[he];rfl) ⟨aH,st.2.at_ λo z=>hs.extBut d o Ş z⟩ λb o hb z=>hs.extBut b o (λq=>hb<|by simp[q]) z)
  λz=>by rw[ù hi]at z;cases z
 done:=λs Q E st hQ=>U1 hh st.1 st.2 (λe h' he=>by rw[Ŷ<|Ï _]at he;cases he) λ_ h' hx=>hQ h' s.toks λb o hb z=>hx b o (λq=>hb<|by simp[q]) z
 self:=λ_ _ _ _ st hQ=>wpAny_pyIter_keyiter st.1 hQ
def LS(lo:(d==Ĵ)=eV):PySem.W.KdlSrc prog w "dict" d d es.size (λi v=>es[i]?.map (·.key)=eQ v) (λh=>DEn h d es ep) where
 type:=λ_ hm=>hm.ty
 there:=λ_ hm=>by let⟨o,e,_⟩:=hm;exact⟨Ó e,Ó e⟩
 keep:=λ_ _ hm hk=>hm.at_ λo e=>hk d (.inl rfl) o e
 notList:=by decide
 notTuple:=by decide
 hint:=λ_ _ _ _ hm hq=>PySem.W.kdl_hint_dict hm.ty hq
 iter:=λ_ _ hh hm=>⟨_,_,(λ_ _ hq=>FR lo hm hq),Walks.en hh _ d (by let⟨o,e,_⟩:=hm;exact ä<|Ó e) es ep,⟨⟨_,Ò _ rfl,rfl,rfl⟩,hm.at_ λo e=>Ä _ e⟩⟩
end
abbrev C8:V->List V->Hp->VK->Prop:=λx vs H Q=>∃a kvs k v b,x=.ref a/\vs=[.ref b]/\H b=eQ (.tup<|k.map kV)/\H a=eQ (.dT kvs)/\Yl kvs k=eQ v/\Q v (upd H a<|.dT<|fB kvs k)
def KTd.drop:∀{kvs:List (List Key×V)}{xs:List (List Key×Ì×Ã)},KTd H kvs xs->KTd H (fB kvs k) (xs.filter λx=>gB (x.1≠k))
 |_,_,.nil=>.nil
 |_,_,.cons (a:=a) (b:=b) h r=>by
  unfold fB;rw[Ā,Ā,<-h.1];split
  .exact .cons h<|KTd.drop r
  .exact KTd.drop r
def Cs(hu:X.A.units+1<Ģ):MtR X "dict.pop" C8:=by intro Â s σ H x vs v us Q I rx rv h;let⟨a,kvs,k,y,b,rfl,rfl,eb,e,l,q⟩:=h;cases rx;let⟨u,rfl,ru⟩:=rv.one;cases (show u=Value.ref b from ru);let⟨z,hd,xs,Ţ,dd⟩:=DL I.hok e;let⟨w',hw,aA⟩:=fE.some_of (v:=y) (o:=(aC xs k).map (·.2)) (by rw[<-l];exact Ţ.val k);let⟨p,hp,rfl⟩:=Í.mp hw;refine ű PySem.F.slot_dict_pop dd.typeIs PySem.F.entry_dict_pop (PySem.F.args_dict_pop_2 _ _) (C3 (knd:=ι<|Zc X.prog X.w) () a b) ⟨Ņ hu,k,xs,p,fm I.hok eb,dd,by rw[<-Paired.length Ţ];exact z,hp,λh' dY hs=>?_⟩;let⟨o,es,ep,hq,h2,h3,h4,_,h5⟩:=dY;have J:Inv X Â σ (upd H a<|.dT<|fB kvs k) {s with heap:=h',toks:=s.toks+(ι<|Zc X.prog X.w).draws k}:=Wq I (by rw[e];exact True.intro) hs ⟨o,hq⟩ ⟨Ö (OE kvs k) z,hd,_,Ţ.drop.keeps λc ys ec=>(eW<|Ic ec e λz=>nomatch z).trans ec,o,es,ep,hq,h2,h3,h4,h5⟩;exact⟨_,_,J,aA,q⟩
def UI(hc:X.calm=eU):ff X (.type "list") λxs H Q=>∃a kvs,xs=[V.ref a]/\H a=eQ (.dT kvs)/\∀l bs,Paired (λ(p:List Key×V) b=>H b=eQ (.tup<|p.1.map kV)) kvs bs->H l=eS->Q (.ref l) (upd H l<|.lst<|bs.map V.ref):=by
 k_put;let⟨a,kvs,rfl,e,q⟩:=h;let⟨u,rfl,rx⟩:=ZN r;cases rx;let⟨z,hd,ws,Ţ,dd⟩:=DL I.hok e;let⟨o,es,ep,hq,h2,h3,h4,_,_⟩:=dd;have hsz:es.size=kvs.length:=(bZ h4).trans (Paired.length Ţ).symm;have pr:∀{kvs:List (List Key×V)}{ws:List (List Key×Ì×Ã)},KTd H kvs ws->Paired (λ(p:List Key×V) b=>H b=eQ (.tup<|p.1.map kV)) kvs (ws.map (·.2.1)):=λr=>by
  induction r with
  |nil=>exact .nil
  |cons h _ ih=>exact .cons h.2.1 ih
 refine PySem.W.kdl_call (LS (es:=es) (ep:=ep) hd) (I.ok.hd hc) ⟨o,hq,h2,h3⟩ (by rw[hsz];exact z) λh' tk ĸ c' hk hS dC=>?_;refine⟨.ref s.heap.objs.size,_,I.laid (t':=tk) hk (Ï _) (show fg X.prog X.w _ h' _ (.lst ((ws.map (·.2.1)).map V.ref)) from ⟨by rw[Á,Á,<-Paired.length Ţ];exact z,ĸ.toList,c',?_,by simpa[ŧ]using hS⟩),rfl,q _ _ (pr Ţ)<|I.hok.fresh<|Ï _⟩;let⟨a1,a2⟩:=dC;refine U8 _ _ (by have h1:ĸ.toList.length=ĸ.size:=ì;rw[Á,Á,<-Paired.length Ţ];lia) λj u hu=>?_;have h1:es[j]?.map (·.key)=eQ u:=a2 j u ⇑hu;rw[entry_at h4 j]at h1;rw[Ù,Ù];cases hx:ws[j]? with
 |none=>rw[hx]at h1;cases h1
 |some p=>rw[hx]at h1;cases h1;exact⟨_,rfl,rfl⟩
end L2
namespace Snd
open PySem L2
def Mg(e:O.dtOf o=eQ kvs):o=eQ (.dtp kvs):=by
 cases o with
 |none=>cases e
 |some o=>cases o with
  |dtp ys=>cases e;rfl
  |_=>cases e
def Cj(e:O.bmDT G v f=eQ t):∃a kvs,v=.ref a/\G a=eQ (.dtp kvs)/\f a kvs=eQ t:=by
 cases v with
 |ref a =>let⟨kvs,h1,h2⟩:=æ.mp (show(O.dtOf<|G a).bind (f a)=eQ t from e);exact⟨a,kvs,rfl,Mg h1,h2⟩
 |_=>cases e
def RTs.drop{K:Frag}:∀{kvs:List (O.Val×O.Val)}{ps:List (List Key×V)},RTs K H kvs ps->RTs K H (O.fB kvs<|.key a b) (L2.fB ps [.inl a,.inl b])
 |_,_,.nil=>.nil
 |_,_,.cons (i:=x) (j:=y) r t=>by
  unfold O.fB L2.fB;rw[Ā,Ā];have e:(!((O.Val.key x y)==O.Val.key a b))=gB (([.inl x,.inl y]:List Key)≠[.inl a,.inl b]):=by
   by_cases h:x=a/\y=b
   .obtain⟨rfl,rfl⟩:=h;simp
   .have h1:O.Val.key x y≠O.Val.key a b:=λz=>h (by injection z with z1 z2;exact⟨z1,z2⟩);have h2:([.inl x,.inl y]:List Key)≠[.inl a,.inl b]:=λz=>h (by injection z with z1 z2;injection z2 with z2 _;injection z1 with z1;injection z2 with z2;exact⟨z1,z2⟩);rw[beq_eq_false_iff_ne.mpr h1];simp[h2]
  rw[e];split
  .exact .cons r<|RTs.drop t
  .exact RTs.drop t
def FQ:MI i .dpopT C8:=λv vs G H x xs t Q Qm g rx rs e q c=>by let⟨a,kvs,rfl,e4,e3⟩:=Cj e;let⟨k,rfl,e3⟩:=HH e3;let⟨hk,e3⟩:=Zg e3;let⟨u,z,rfl⟩:=Í.mp e3;cases rx.ref_inv;let⟨y,rfl,ry⟩:=rs.inv1;let⟨ps,h2,r2⟩:=g a _ e4;let⟨k1,k2,d,rfl,rfl,hd⟩:=Xw hk ry;let⟨x,hx,rv⟩:=(r2.look (i:=k1) (j:=k2)).1 u z;let⟨k3,g3⟩:=AG (kvs':=O.fB kvs<|.key k1 k2) g h2 r2.drop;exact⟨a,ps,_,x,d,rfl,rfl,hd,h2,hx,c _ _ _ _ k3 g3 (rv.keep k3) q⟩
def RTs.rows{K:Frag}(k:fx H H'):∀{kvs:List (O.Val×O.Val)}{ps:List (List Key×V)}{bs:List Ì},RTs K H kvs ps->Paired (λ(p:List Key×V) b=>H b=eQ (.tup<|p.1.map kV)) ps bs->RVs K H' (kvs.map λp=>O.tupK p.1) (bs.map V.ref)
 |_,_,_,.nil,.nil=>.nil
 |_,_,_,.cons _ t,.cons h r=>.cons (.tup (.inl<|k.t _ _ h)<|.cons (.int _)<|.cons (.int _) .nil)<|RTs.rows k t r
def Ej:Na i .listT λxs H Q=>∃a kvs,xs=[V.ref a]/\H a=eQ (.dT kvs)/\∀l bs,Paired (λ(p:List Key×V) b=>H b=eQ (.tup<|p.1.map kV)) kvs bs->H l=eS->Q (.ref l) (upd H l<|.lst<|bs.map V.ref):=by
 intro vs G H xs Q Qm g r w c;let⟨v,rfl,w⟩:=Xp w;let⟨x,rfl,rx⟩:=r.inv1;cases v with
 |ref a =>
  cases rx.ref_inv
  replace w:(match O.dtOf (G a)with|some kvs=>O.Rs.new (.lst<|kvs.map λp=>O.tupK p.1)|none=>.no:O.Rs).wp G Qm:=w
  cases z:O.dtOf (G a)with
  |none=>rw[z]at w;exact(Zl w).elim
  |some kvs =>rw[z]at w;let⟨ps,h2,r2⟩:=g a _<|Mg z;exact⟨a,ps,rfl,h2,λl bs pb hl=>ZW g (Ku w) c (λp hp=>⟨_,eX,r2.rows (fx.new hp) pb⟩) l hl⟩
 |_=>exact(Zl w).elim
structure Md where
 N:List Str
 sc:η
 cs:List<|String×O.Val
 fs:List String
 cm:Bool
 cl:List String
 ms:List<|String×String
 fl:List String
 xs:List String
abbrev Md.nmOf(c:Md)(j:Nat):Str:=c.N.getD j Str.empty
abbrev Md.vis(c:Md)(x:Str):Bool:=match c.sc.names.lookup x with
 |some .local=>eU
 |some .cell=>eU
 |some .free=>eU
 |_=>eV
abbrev Md.loc(c:Md)(x:Str):Bool:=c.sc.names.lookup x==eQ .local||c.sc.names.lookup x==eQ .cell
abbrev Md.gl(c:Md)(x:Str):Bool:=c.sc.names.lookup x==eQ .globalImplicit
abbrev nm(x:Str):Bool:=!(x==("__debug__" : Str)) && !(x==("__classdict__" : Str)) && !(x==("__name__" : Str))
abbrev dE:Expr:=.Name Str.empty ⟨0,0,0,0⟩
abbrev mix:List (Option Expr)->List Expr->List Expr
 |k::ks,v::vs=>k.getD dE::v::mix ks vs
 |_,_=>[]
abbrev sub:Expr->List Expr
 |.BoolOp _ xs _=>xs
 |.BinOp a _ b _=>[a,b]
 |.UnaryOp _ a _=>[a]
 |.IfExp a b c _=>[a,b,c]
 |.Compare a _ bs _=>a::bs
 |.Call f as ks _=>f::(as++ks.map (·.value))
 |.FormattedValue a _ _ _=>[a]
 |.JoinedStr vs _=>vs
 |.Attribute a _ _=>[a]
 |.Subscript a b _=>[a,b]
 |.List es _=>es
 |.Tuple es _ _=>es
 |.Slice a b c _=>[a.getD dE,b.getD dE,c.getD dE]
 |.ListComp e gs _ _=>e::gs.flatMap λg=>g.target::g.iter::g.ifs
 |.Dict ks vs _=>mix ks vs
 |_=>[]
abbrev kid(x:Expr)(j:Nat):Expr:=(sub x).getD j dE
abbrev num:Expr->Nat
 |.Constant _ k _=>k
 |.Tuple _ k _=>k
 |_=>0
abbrev scp:Expr->η
 |.ListComp _ _ s _=>s
 |_=>default
abbrev kwp:Expr->Pos
 |.Call _ _ (k::_) _=>k.pos
 |_=>⟨0,0,0,0⟩
abbrev OR:O.Bop->ϟ
 |.add=>.Add
 |.sub=>.Sub
 |.mul=>.Mult
 |.fdiv=>.FloorDiv
 |.mod=>.Mod
 |.pow=>.Pow
abbrev W1:O.Cop->cy
 |.eq=>.Eq
 |.ne=>.NotEq
 |.lt=>.Lt
 |.le=>.LtE
 |.gt=>.Gt
 |.ge=>.GtE
 |.isin=>.In
 |.notin=>.NotIn
 |.is=>.Is
 |.isnot=>.IsNot
 |.eqE=>.Eq
 |.neE=>.NotEq
 |.ntT=>.IsNot
abbrev RA:O.Val->Const
 |.non=>.none
 |.bl b=>.bool b
 |.int i=>.int i
 |.str s=>.str<|gC s
 |_=>.ellipsis
abbrev Iq:O.Val->Bool
 |.non=>eU
 |.bl _=>eU
 |.int _=>eU
 |.str _=>eU
 |_=>eV
abbrev ZL(e:O.E):Bool:=e.ctorIdx==(O.E.and e e).ctorIdx
abbrev Yx(e:O.E):Bool:=e.ctorIdx==(O.E.or e e).ctorIdx
abbrev Zn(e:O.Tt):Bool:=e.ctorIdx==(O.Tt.and e e).ctorIdx
abbrev Zy(e:O.Tt):Bool:=e.ctorIdx==(O.Tt.or e e).ctorIdx
abbrev rest(b:Bool)(x:Expr):Expr:=match b,x with
 |true,.BoolOp op (_::xs) p=>.BoolOp op xs p
 |_,x=>kid x 1
abbrev flat(b:Bool)(x:Expr):List Expr:=match b with
 |true=>sub x
 |false=>[x]
abbrev Bb:O.Bi->Str
 |.len=>"len"
 |.int=>"int"
 |.str=>"str"
 |.bool=>"bool"
 |.abs=>"abs"
 |.min2=>"min"
 |.max2=>"max"
 |.minL=>"min"
 |.maxL=>"max"
 |.minP=>"min"
 |.maxP=>"max"
 |.minD=>"min"
 |.sum=>"sum"
 |.all=>"all"
 |.any=>"any"
 |.sorted=>"sorted"
 |.sortedI=>"sorted"
 |.sortedSet=>"sorted"
 |.lenSet=>"len"
 |.list=>"list"
 |.tuple=>"tuple"
 |.dict=>"dict"
 |.isi _=>"isinstance"
 |.isx _=>"isinstance"
 |.isc _=>"isinstance"
 |.repr=>"repr"
 |.listRev=>"list"
 |.listRange=>"list"
 |.tupRange=>"tuple"
 |.dictEnum=>"dict"
 |.listD=>"list"
 |.listT=>"list"
abbrev RY:O.Bi->Option Str
 |.sortedSet=>eQ "set"
 |.lenSet=>eQ "set"
 |.listRev=>eQ "reversed"
 |.listRange=>eQ "range"
 |.tupRange=>eQ "range"
 |.dictEnum=>eQ "enumerate"
 |_=>eS
abbrev PV(Ts:List String)(x:Expr):Expr:=match Ts with
 |[T]=>.Name (gC T) x.pos
 |Ts=>.Tuple (Ts.zipIdx.map λp=>.Name (gC p.1) (kid x p.2).pos) (num x) x.pos
abbrev P0(f:O.Bi)(as:List Expr)(x:Expr):List Expr:=match RY f with
 |some y=>[.Call (.Name y (kid (kid x 1) 0).pos) as [] (kid x 1).pos]
 |none=>match f with
  |.isi Ts=>as++[PV Ts<|kid x 2]
  |.isx Ts=>as++[PV Ts<|kid x 2]
  |.isc T=>as++[PV [T]<|kid x 2]
  |_=>as
abbrev K9(f:O.Bi)(x:Expr):List Expr:=match RY f with
 |some _=>(sub<|kid x 1).tail
 |none=>(sub x).tail
abbrev Ta(f:O.Bi)(x:Expr):List bf:=match f with
 |.minD=>[⟨eQ "default",.Constant .none (num<|kid x 2) (kid x 2).pos,kwp x⟩]
 |_=>[]
abbrev Pa:O.Bm->Str
 |.append=>"append"
 |.extend=>"extend"
 |.pop=>"pop"
 |.popAt=>"pop"
 |.insert=>"insert"
 |.remove=>"remove"
 |.clear=>"clear"
 |.reverse=>"reverse"
 |.index=>"index"
 |.count=>"count"
 |.dget=>"get"
 |.dgetD=>"get"
 |.dpop=>"pop"
 |.dpopD=>"pop"
 |.dpopT=>"pop"
 |.setdefault=>"setdefault"
 |.join=>"join"
 |.split=>"split"
 |.replace=>"replace"
 |.upper=>"upper"
 |.partition=>"partition"
 |.sidx=>"index"
abbrev XM:List Expr->List (Option Expr)
 |k::_::r=>eQ k::XM r
 |_=>[]
abbrev AQ:List Expr->List Expr
 |_::v::r=>v::AQ r
 |_=>[]
abbrev toP(p:O.Pt)(c:Md)(x:Expr):Expr:=match p with
 |.one j=>.Name (c.nmOf j) x.pos
 |.many js=>.Tuple (js.zipIdx.map λp=>.Name (c.nmOf p.1) (kid x p.2).pos) (num x) x.pos
 |.nest j js=>.Tuple [.Name (c.nmOf j) (kid x 0).pos,.Tuple (js.zipIdx.map λp=>.Name (c.nmOf p.1) (kid (kid x 1) p.2).pos) (num<|kid x 1) (kid x 1).pos] (num x) x.pos
abbrev nmX:Expr->Str
 |.Name x _=>x
 |_=>Str.empty
abbrev X8:Expr->List Str
 |.Tuple es _ _=>es.map nmX
 |x=>[nmX x]
abbrev Md.blk(c:Md)(sc:η)(x:List Str)(Ă:List Nat):Md :=
 {N:=x++Ă.map (λj=>c.N.getD j Str.empty),sc:={sc with names:=sc.names.map λ(n,k)=>if(k == .free&&c.sc.kind == .function&&c.sc.names.lookup n==eQ .cell)then(n,.cell)else(n,k)},cs:=c.cs,fs:=c.fs,cm:=c.cm,cl:=c.cl,ms:=c.ms,fl:=c.fl,xs:=c.xs}
abbrev SW:O.E->Bool
 |.cst (.str _)=>eU
 |_=>eV
mutual
noncomputable def toX:O.E->Md->Expr->Expr
 |.cst v,_,x=>.Constant (RA v) (num x) x.pos
 |.var j,c,x=>.Name (c.nmOf j) x.pos
 |.glob y _,_,x=>.Name (gC y) x.pos
 |.bin o a b,c,x=>.BinOp (toX a c<|kid x 0) (OR o) (toX b c<|kid x 1) x.pos
 |.neg a,c,x=>.UnaryOp .USub (toX a c<|kid x 0) x.pos
 |.not a,c,x=>.UnaryOp .Not (toX a c<|kid x 0) x.pos
 |.and a b,c,x=>.BoolOp .And (toX a c (kid x 0)::flat (ZL b) (toX b c<|rest (ZL b) x)) x.pos
 |.or a b,c,x=>.BoolOp .Or (toX a c (kid x 0)::flat (Yx b) (toX b c<|rest (Yx b) x)) x.pos
 |.cmp o a b,c,x=>.Compare (toX a c<|kid x 0) [W1 o] [toX b c<|kid x 1] x.pos
 |.chain o1 o2 a b d,c,x=>.Compare (toX a c<|kid x 0) [W1 o1,W1 o2] [toX b c<|kid x 1,toX d c<|kid x 2] x.pos
 |.call f as,c,x=>.Call (.Name (gC f) (kid x 0).pos) (toA as c (sub x).tail) [] x.pos
 |.make C as,c,x=>.Call (.Name (gC C) (kid x 0).pos) (toA as c (sub x).tail) [] x.pos
 |.meth _ m o as,c,x=>.Call (.Attribute (toX o c<|kid (kid x 0) 0) (gC m) (kid x 0).pos) (toA as c (sub x).tail) [] x.pos
 |.meth2 _ _ m o as,c,x=>.Call (.Attribute (toX o c<|kid (kid x 0) 0) (gC m) (kid x 0).pos) (toA as c (sub x).tail) [] x.pos
 |.fld o f,c,x=>.Attribute (toX o c<|kid x 0) (gC f) x.pos
 |.bi f as,c,x=>.Call (.Name (Bb f) (kid x 0).pos) (P0 f (toA as c<|K9 f x) x) (Ta f x) x.pos
 |.bm m o as,c,x=>.Call (.Attribute (toX o c<|kid (kid x 0) 0) (Pa m) (kid x 0).pos) (toA as c (sub x).tail) [] x.pos
 |.idx a b,c,x=>.Subscript (toX a c<|kid x 0) (toX b c<|kid x 1) x.pos
 |.slc a lo hi,c,x=>.Subscript (toX a c<|kid x 0) (.Slice (toO lo c<|kid (kid x 1) 0) (toO hi c<|kid (kid x 1) 1) eS (kid x 1).pos) x.pos
 |.rev a,c,x=>.Subscript (toX a c<|kid x 0) (.Slice eS eS (eQ<|.UnaryOp .USub (.Constant (.int 1) (num<|kid (kid (kid x 1) 2) 0) (kid (kid (kid x 1) 2) 0).pos) (kid (kid x 1) 2).pos) (kid x 1).pos) x.pos
 |.sortT a,c,x=>.Call (.Name "sorted" (kid x 0).pos) [toX a c<|kid x 1] [] x.pos
 |.pick a lo hi st,c,x=>.Subscript (toX a c<|kid x 0) (.Slice (toO lo c<|kid (kid x 1) 0) (toO hi c<|kid (kid x 1) 1) (eQ<|toX st c<|kid (kid x 1) 2) (kid x 1).pos) x.pos
 |.tup es,c,x=>.Tuple (toA es c<|sub x) (num x) x.pos
 |.key es,c,x=>.Tuple (toA es c<|sub x) (num x) x.pos
 |.dctP,c,x=>.Dict [] [] x.pos
 |.lst es,c,x=>.List (toA es c<|sub x) x.pos
 |.dct es,c,x=>.Dict (XM<|toA es c<|sub x) (AQ<|toA es c<|sub x) x.pos
 |.ife t a b,c,x=>.IfExp (toT t c<|kid x 0) (toX a c<|kid x 1) (toX b c<|kid x 2) x.pos
 |.comp Ă _ p it t e,c,x=>.ListComp (toX e (c.blk (scp x) (X8<|kid x 1) Ă)<|kid x 0) [⟨toP p (c.blk (scp x) (X8<|kid x 1) Ă)<|kid x 1,toI it c<|kid x 2,toF t (c.blk (scp x) (X8<|kid x 1) Ă)<|kid x 3,0⟩] (scp x) x.pos
 |.fstr es,c,x=>.JoinedStr (toJ es c<|sub x) x.pos
 |.split o a,c,x=>.Call (.Attribute (toX o c<|kid (kid x 0) 0) "split" (kid x 0).pos) [toX a c<|kid x 1] [] x.pos
 |.repl o y z,c,x=>.Call (.Attribute (toX o c<|kid (kid x 0) 0) "replace" (kid x 0).pos) [.Constant (.str<|gC y) (num<|kid x 1) (kid x 1).pos,.Constant (.str<|gC z) (num<|kid x 2) (kid x 2).pos] [] x.pos
noncomputable def toA:O.Es->Md->List Expr->List Expr
 |.nil,_,_=>[]
 |.cons e es,c,xs=>toX e c (xs.headD dE)::toA es c xs.tail
noncomputable def toJ:O.Es->Md->List Expr->List Expr
 |.nil,_,_=>[]
 |.cons e es,c,xs=>(if SW e then toX e c (xs.headD dE)else .FormattedValue (toX e c<|kid (xs.headD dE) 0) (-1) eS (xs.headD dE).pos)::toJ es c xs.tail
noncomputable def toO:O.Oe->Md->Expr->Option Expr
 |.none,_,_=>eS
 |.some e,c,x=>eQ<|toX e c x
noncomputable def toT:O.Tt->Md->Expr->Expr
 |.yes,_,x=>x
 |.val e,c,x=>toX e c x
 |.not t,c,x=>.UnaryOp .Not (toT t c<|kid x 0) x.pos
 |.and a b,c,x=>.BoolOp .And (toT a c (kid x 0)::flat (Zn b) (toT b c<|rest (Zn b) x)) x.pos
 |.or a b,c,x=>.BoolOp .Or (toT a c (kid x 0)::flat (Zy b) (toT b c<|rest (Zy b) x)) x.pos
noncomputable def toF:O.Tt->Md->Expr->List Expr
 |.yes,_,_=>[]
 |.val e,c,x=>[toX e c x]
 |.not t,c,x=>[.UnaryOp .Not (toT t c<|kid x 0) x.pos]
 |.and a b,c,x=>[.BoolOp .And (toT a c (kid x 0)::flat (Zn b) (toT b c<|rest (Zn b) x)) x.pos]
 |.or a b,c,x=>[.BoolOp .Or (toT a c (kid x 0)::flat (Zy b) (toT b c<|rest (Zy b) x)) x.pos]
noncomputable def toI:O.It->Md->Expr->Expr
 |.seq e,c,x=>toX e c x
 |.seqT _ e,c,x=>toX e c x
 |.chars e,c,x=>toX e c x
 |.range a,c,x=>.Call (.Name "range" (kid x 0).pos) [toX a c<|kid x 1] [] x.pos
 |.range2 a b,c,x=>.Call (.Name "range" (kid x 0).pos) [toX a c<|kid x 1,toX b c<|kid x 2] [] x.pos
 |.enumL e,c,x=>.Call (.Name "enumerate" (kid x 0).pos) [toX e c<|kid x 1] [] x.pos
 |.enum e,c,x=>.Call (.Name "enumerate" (kid x 0).pos) [toX e c<|kid x 1] [] x.pos
 |.zip a b,c,x=>.Call (.Name "zip" (kid x 0).pos) [toX a c<|kid x 1,toX b c<|kid x 2] [] x.pos
 |.items e,c,x=>toX e c x
 |.keysF e,c,x=>toX e c x
 |.rev e,c,x=>.Call (.Name "reversed" (kid x 0).pos) [toX e c<|kid x 1] [] x.pos
end
abbrev blts:List Str:=["isinstance","int","bool","str","list","tuple","dict","max","min","range","len","sorted","set","all","any","sum","enumerate","zip","reversed","abs","repr","ValueError"]
structure Kls(X:Cx)(i:Inf)(P:O.Pg)(n:Nat)(c:Md):Prop where
 A:ClsA i
 F:∀f,c.fl.contains f=eU->FldOk i f
 mkc:∀C,c.cl.contains C=eU->∃a f,i.ins C=eU/\i.cl C a/\Mk i.K a f/\X.mg (gC C)=eQ (.ref a)/\Dfm X.prog X.w X.mg X.base i P n (C ++ ".__init__") f
 mth:∀C m,c.ms.contains (C,m)=eU->∃a f,(∀b,i.cl C b->b=a)/\Cls i.K a/\Meth i.K a (gC m) f/\Dfm X.prog X.w X.mg X.base i P n (C ++ "." ++ m) f
structure Xls(X:Cx)(i:Inf)(c:Md):Prop where
 xc:∀C a,i.xc C a->XCls i.K a/\PySem.W.kitOne i.K (.ref a) (.type "ValueError")=eQ eU
 rs:∀C,c.xs.contains C=eU->∃a,i.xc C a/\PyProof.Rows.OwnCls (gC C) a [.type "ValueError",.type "Exception",.type "BaseException",.type "object"] "ValueError.__new__" X.mg X.base
 kn:∀T,(c.xs.contains T||T == "ShutError")=eU->∃D,X.mg (gC T)=eQ (.ref D)/\∀C a,i.xc C a->PySem.W.kitOne i.K (.ref a) (.ref D)=eQ (O.f8 C T)/\(O.f8 C T=eU->PySem.W.exmOne i.K (.ref a) (.ref D)=eQ eU)
structure Gd(X:Cx)(i:Inf)(P:O.Pg)(n:Nat)(c:Md):Prop where
 K:X.K=i.K
 N:X.N=c.N
 sc:X.env.scope=c.sc
 nd:c.N.Nodup
 un:X.A.units+200<Ģ
 calm:c.cm=eU->X.calm=eU
 room:c.cm=eU->fG (2*n+1) X.A
 bl:∀x∈blts,X.mg x=eS
 dfs:∀f,c.fs.contains f=eU->Dfo X.prog X.w X.mg X.base i P n f
 cst:∀x v,c.cs.lookup x=eQ v->∃u y,X.mg (gC x)=eQ u/\RelV y u/\∀H,RV i.K H v y
 kl:Kls X i P n c
 xl:c.xs≠[]->Xls X i c
variable {n:Nat}{c:Md}
variable {x:Str}
def Gd.gl(g:Gd X i P n c)(h:c.gl x=eU):Gl X x:=by show X.env.scope.names.lookup x=_;rw[g.sc];exact eq_of_beq h
def Gd.vis(g:Gd X i P n c)(h:c.vis x=eU):Vis X.env.scope x:=by
 unfold Vis;rw[g.sc];unfold Md.vis at h;split at h
 .exact .inl (by assumption)
 .exact .inr (.inl<|by assumption)
 .exact .inr (.inr<|by assumption)
 .cases h
def Gd.loc(g:Gd X i P n c)(h:c.loc x=eU):L2.Loc X.env.scope x:=by
 unfold L2.Loc;rw[g.sc];rcases (Bool.or_eq_true ..).mp h with h|h
 .exact .inl<|eq_of_beq h
 .exact .inr<|eq_of_beq h
def Gd.rm(g:Gd X i P n c)(h:c.cm=eU):fG (2*n) X.A:=(g.room h).mono (ŋ _)
def Mc(h:nm x=eU):(x==("__debug__" : Str))=eV/\(x==("__classdict__" : Str))=eV/\x≠"__name__":=by simp![nm,bAq,eF]at h;exact⟨h.1.1,h.1.2,⇑h.2⟩
def ZH(e:O.E)(c:Md)(x:Expr)(es:List Expr)(env:Env):à (toX e c x::es) env=(eV,eval (toX e c x) env)::à es env:=by cases e<;>rfl
def E0(e:O.E)(c:Md)(x:Expr):MH<|toX e c x:=by intro o j;cases e<;>rfl
def E4(e:O.E)(c:Md)(x:Expr):ŀ op (toX e c x)=eV:=by cases e<;>rfl
def Lr(e:O.E)(c:Md)(x:Expr)(env:Env):∀y,ġ (toX e c x) env y=pure y:=by intro y;cases e<;>rfl
abbrev Xl:Expr->Bool
 |.Call (.Name _ _) [] _ _=>eV
 |_=>eU
variable {e:Expr}
def Yp(h:Xl e=eU)(f:Str)(env:Env):Ĭ e f env (eval e env)=eval e env:=by
 cases e with
 |Call g as ks p =>
  cases as with
  |cons _ _=>cases g<;>rfl
  |nil=>cases g with
   |Name x q=>cases h
   |_=>rfl
 |_=>rfl
abbrev ZO:O.Es->Nat
 |.nil=>0
 |.cons _ es=>ZO es+1
def Xz:∀(es:O.Es) (c:Md) (xs:List Expr),(toA es c xs).length=ZO es
 |.nil,_,_=>rfl
 |.cons _ es,c,xs=>by show(toA es c xs.tail).length+1=_;rw[Xz es];rfl
def Yy(env:Env)(pos:Pos):∀(es:O.Es) (c:Md) (xs:List Expr),(Ī pos<|à (toA es c xs) env).any (·.1)=eV
 |.nil,_,_=>rfl
 |.cons e es,c,xs=>by show(Ī pos<|à (toX e c (xs.headD dE)::toA es c xs.tail) env).any (·.1)=eV;rw[ZH];show(eV||(Ī pos<|à (toA es c xs.tail) env).any (·.1))=eV;rw[Yy env pos es];rfl
def J8(env:Env)(pos:Pos):∀(es:O.Es) (c:Md) (xs:List Expr),(Ī pos<|à (toA es c xs) env).all (λx=>!x.1)=eU
 |.nil,_,_=>rfl
 |.cons e es,c,xs=>by show(Ī pos<|à (toX e c (xs.headD dE)::toA es c xs.tail) env).all (λx=>!x.1)=eU;rw[ZH];show(eU&&(Ī pos<|à (toA es c xs.tail) env).all (λx=>!x.1))=eU;rw[J8 env pos es];rfl
abbrev ZF:O.Pt->Bool
 |.one _=>eU
 |_=>eV
def Ny(p:O.Pt)(x:Expr):((!ZF p)=eU->∃es k q,toP p c x=.Tuple es k q)/\((!ZF p)=eV->∃y q,toP p c x=.Name y q):=by
 cases p with
 |one j=>exact⟨λz=>(by cases z),λ_=>⟨_,_,rfl⟩⟩
 |many js=>exact⟨λ_=>⟨_,_,_,rfl⟩,λz=>(by cases z)⟩
 |nest j js=>exact⟨λ_=>⟨_,_,_,rfl⟩,λz=>(by cases z)⟩
abbrev ED(X:Cx)(c:Md)(j:Nat):Prop:=X.N[j]?=eQ (c.nmOf j)/\L2.Loc X.env.scope (c.nmOf j)/\(X.fn (c.nmOf j)=eU\/X.env.scope.names.lookup (c.nmOf j)=eQ .local)
abbrev Iv(q:Nat->Prop):O.Pt->Prop
 |.one j=>q j
 |.many js=>∀j∈js,q j
 |.nest j js=>q j/\∀k∈js,q k
def Nq(nd:X.N.Nodup)(f:Nat->Pos):∀(js:List Nat) (k:Nat),(∀j∈js,ED X c j)->
  PGs X ((js.zipIdx k).map λp=>.Name (c.nmOf p.1)<|f p.2) (Er i js)/\(ĥ ((js.zipIdx k).map λp=>.Name (c.nmOf p.1)<|f p.2) X.env).length=js.length/\(ĥ ((js.zipIdx k).map λp=>.Name (c.nmOf p.1)<|f p.2) X.env).findIdx? (·.1)=eS
 |[],_,_=>⟨Fr,rfl,rfl⟩
 |j::js,k,h=>by
  let⟨h1,h2,h3⟩:=h j (by simp);let⟨a1,a2,a3⟩:=Nq nd f js (k+1) λl hl=>h l (by simp[hl]);rw[List.zipIdx_cons,Ñ];refine⟨Co nd h1 h2 h3 a1 rfl,?_,?_⟩
  .show(ĥ ((js.zipIdx<|k+1).map _) X.env).length+1=js.length+1;rw[a2]
  .show List.findIdx? (·.1) ((eV,μ (.Name (c.nmOf j)<|f k) X.env)::ĥ _ X.env)=eS;rw[List.findIdx?_cons];simp[a3]
def Ib(hK:X.K=i.K)(nd:X.N.Nodup)(hc:X.calm=eU){x:Expr}(h:Iv (ED X c) p):PG X (toP p c x)<|gPt i p:=by
 cases p with
 |one j=>exact UE nd h.1 h.2.1 h.2.2
 |many js =>let⟨a1,a2,a3⟩:=Nq nd (λk=>(kid x k).pos) js 0 h;exact AB hK hc a1 a2 a3
 |nest j js =>let⟨h0,h⟩:=h;let⟨a1,a2,a3⟩:=Nq nd (λk=>(kid (kid x 1) k).pos) js 0 h;exact Hb hK hc (UE nd h0.1 h0.2.1 h0.2.2)<|AB hK hc a1 a2 a3
variable {a:O.E}{b:O.E}{l:Expr}{pos:Pos}
def QH(g:Gd X i P n c)(ha:PE X l<|tE X i Φ a)(hb:PE X r<|tE X i Φ b):PE X (.BinOp l (OR o) r pos)<|tE X i Φ<|.bin o a b:=by
 cases o with
 |add=>exact Mi Rl (by rw[g.K];exact b_add) ha hb
 |sub=>exact Mi Pc b_sub ha hb
 |mul=>exact Mi Sz b_mul ha hb
 |fdiv=>exact Mi HD b_fdiv ha hb
 |mod=>exact Mi Qi b_mod ha hb
 |pow=>exact Mi IR b_pow ha hb
abbrev N2:O.Cop->Bool
 |.is=>eU
 |.isnot=>eU
 |.ntT=>eU
 |.neE=>eU
 |_=>eV
variable {o:O.Cop}
def Uw(g:Gd X i P n c)(h:N2 o=eV):∃r,OpR X (ñ<|W1 o) r/\Z4 i o r:=by
 have u65:X.A.units+65<Ģ:=by have:=g.un;lia
 have u64:X.A.units+64<Ģ:=by have:=g.un;lia
 have u0:X.A.units<Ģ:=by have:=g.un;lia
 cases o with
 |eq=>exact⟨_,Lg u64,by rw[g.K];exact Te⟩
 |ne=>exact⟨_,Pj u64,by rw[g.K];exact S4⟩
 |lt=>exact⟨_,TC u0,by rw[g.K];exact c_lt⟩
 |le=>exact⟨_,RE,c_le⟩
 |gt=>exact⟨_,Tx u0,by rw[g.K];exact c_gt⟩
 |ge=>exact⟨_,RZ,c_ge⟩
 |isin=>exact⟨_,SL u65,by rw[g.K];exact Tw⟩
 |notin=>exact⟨_,S7 u65,by rw[g.K];exact Tj⟩
 |eqE=>exact⟨_,Eo u64,by rw[g.K];exact c_eqE⟩
 |_=>cases h
def Lp(h:Iq v=eU):PE X (.Constant (RA v) j pos)<|tE X i Φ<|.cst v:=by
 cases v with
 |non=>exact Jg Dk λ_=>.non
 |bl b=>exact Jg Sc λ_=>.bl _
 |int k=>exact Jg Nt λ_=>.int _
 |str s=>exact Jg LE λ_=>.str _
 |_=>cases h
abbrev C6:O.E->Bool
 |.cst .non=>eU
 |_=>eV
def Ho{e:O.E}(h:C6 e=eU):e=.cst .non:=by
 cases e with
 |cst v=>cases v with
  |non=>rfl
  |_=>cases h
 |_=>cases h
variable {y:Expr}
def ND(hn:∀G v d,O.fu G o v .non≠eQ d)(ha:PE X l<|tE X i Φ a)(hb:PE X y<|tE X i Φ<|.cst .non)(hm:ŀ op y=eV) :
  PE X (.Compare l [op] [y] pos) (tE X i Φ<|.cmp o a<|.cst .non)/\PT X (.Compare l [op] [y] pos) (tTt X i Φ<|.val<|.cmp o a<|.cst .non):=by
 have ho:OpR X (ñ op) λ_ _ _ _=>False:=λ_ _ _ _ _ _ _ _ _ _ _ _ h=>h.elim;refine⟨(U5 ho ha hb hm).imp λσ H Q ⟨env,G,Qm,Em,p,w,c⟩=>?_,(UZ ho ha hb hm).imp λσ H Q ⟨env,G,Qm,Em,p,w,c⟩=>?_⟩
 .refine one p w λv G1 H1 x k1 p1 r q=>?_;let⟨d,e,_⟩:=eZ q;exact gA e<|hn G1 v d
 .refine one p w λv G1 H1 x k1 p1 r q=>?_;let⟨d,e,_⟩:=eZ q;exact gA e<|hn G1 v d
def OK(g:Gd X i P n c){x:Expr}(h:(!N2 o||C6 b)=eU)(ha:PE X l<|tE X i Φ a)(hb:PE X (toX b c x)<|tE X i Φ b) :
  PE X (.Compare l [W1 o] [toX b c x] pos) (tE X i Φ<|.cmp o a b)/\PT X (.Compare l [W1 o] [toX b c x] pos) (tTt X i Φ<|.val<|.cmp o a b):=by
 cases z:N2 o with
 |false =>let⟨r,h1,h2⟩:=Uw g z;exact⟨QS h1 h2 ha hb<|E4 _ _ _,QF h1 h2 ha hb<|E4 _ _ _⟩
 |true =>
  rw[z]at h;cases Ho h;cases o with
  |is=>exact⟨Q6 ha,Lx ha⟩
  |isnot=>exact⟨Pk ha,GG ha⟩
  |ntT=>exact ND (λG v d e=>by cases v<;>simp[O.fu,O.asLst]at e) ha hb<|E4 _ _ _
  |neE=>exact ND (λG v d e=>by cases v<;>simp[O.fu,O.asLst]at e) ha hb<|E4 _ _ _
  |_=>cases z
def Kh(g:Gd X i P n c){d:O.E}{x:Expr}(h1:N2 o1=eV)(h2:N2 o2=eV)(ha:PE X l<|tE X i Φ a)(hb:PE X y<|tE X i Φ b)(hd:PE X (toX d c x)<|tE X i Φ d) :
  PE X (.Compare l [W1 o1,W1 o2] [y,toX d c x] pos) (tE X i Φ<|.chain o1 o2 a b d)/\PT X (.Compare l [W1 o1,W1 o2] [y,toX d c x] pos) (tTt X i Φ<|.val<|.chain o1 o2 a b d):=by
 let⟨r1,a1,a2⟩:=Uw g h1;let⟨r2,b1,b2⟩:=Uw g h2;have hm:bC [W1 o1,W1 o2] [y,toX d c x]=eV:=E4 _ _ _;exact⟨G0 a1 a2 b1 b2 ha hb hd hm,Dm a1 a2 b1 b2 ha hb hd hm⟩
def Lc(h:PE X e<|tE X i Φ m)(he:∀aO,cx e X.env aO=(do let v<-aO;ϑ e.pos;Ŕ [v] (truthy v)))(hK:X.K=i.K):PT X e<|tTt X i Φ<|.val m:=by
 refine(CT h he).imp λσ H Q ⟨env,G,Qm,Em,p,w,c⟩=>?_;refine one p w λv G1 H1 x k1 p1 r q=>?_;let⟨d,e1,q2⟩:=eZ q;clear q;refine⟨d,?_,c d G1 H1 k1 p1.hp q2⟩;cases v with
 |non=>cases r;cases e1;rfl
 |bl b=>cases r;cases e1;rfl
 |int b =>
  cases r;cases e1;show gB (b≠0)=(b != 0)
  by_cases e:b=0<;>simp[e]
 |key _ _=>cases e1
 |str b =>
  cases r;let⟨hl,e1⟩:=Zg e1;cases e1;refine⟨by rw[ZG];exact Ö hl Ye,?_⟩;rw[ZG];by_cases e:b.length=0
  .rw[e];rfl
  .rw[gy e];symm;simpa using (by lia:¬ ((b.length:Int)=0))
 |tup xs =>
  cases e1;cases r with
  |tup hp hr =>refine .inr (.inl ⟨_,by rw[hK];exact Zj hp,?_⟩);cases hr<;>rfl
 |scr ns =>
  cases e1;cases r with
  |scr h =>refine .inl ⟨_,by rw[hK];exact Z8 h,?_⟩;cases ns<;>rfl
 |ref a =>
  cases r.ref_inv
  replace e1:(match G1 a with|some (.lst xs)=>eQ (!xs.isEmpty)|some (.dct kvs)=>eQ (!kvs.isEmpty)|_=>eS)=eQ d:=e1
  cases z:G1 a with
  |none=>rw[z]at e1;cases e1
  |some o =>
   rw[z]at e1;cases o with
   |lst xs =>cases e1;let⟨vs,h1,h2⟩:=p1.hp a _ z;refine .inl ⟨vs,f9.of h1,?_⟩;cases h2<;>rfl
   |dct kvs =>cases e1;let⟨ps,h1,h2⟩:=p1.hp a _ z;refine .inr<|.inr ⟨ps,h1,?_⟩;cases h2<;>rfl
   |_=>cases e1
def gb(j:Nat)(h:blts[j]?=eQ x):x∈blts:=ã h
variable {a:Bool}{b:Bool}{p:Prop}
def an2(h:(a&&b)=eU)(k:a=eU->b=eU->p):p:=k (by cases a;cases h;rfl) (by cases a;cases h;exact h)
variable {c:Bool}
def an3(h:(a&&b&&c)=eU)(k:a=eU->b=eU->c=eU->p):p:=an2 h λh z=>an2 h λx y=>k x y z
variable {d:Bool}
def an4(h:(a&&b&&c&&d)=eU)(k:a=eU->b=eU->c=eU->d=eU->p):p:=an2 h λh z=>an3 h λu x y=>k u x y z
variable {e:Bool}
def an5(h:(a&&b&&c&&d&&e)=eU)(k:a=eU->b=eU->c=eU->d=eU->e=eU->p):p:=an2 h λh z=>an4 h λu x y w=>k u x y w z
variable {f:Bool}
def an6(h:(a&&b&&c&&d&&e&&f)=eU)(k:a=eU->b=eU->c=eU->d=eU->e=eU->f=eU->p):p:=an2 h λh z=>an5 h λu x y w v=>k u x y w v z
def an7(h:(a&&b&&c&&d&&e&&f&&g)=eU)(k:a=eU->b=eU->c=eU->d=eU->e=eU->f=eU->g=eU->p):p:=an2 h λh z=>an6 h λu x y w v t=>k u x y w v t z
def HE(h:(!a)=eU):a=eV:=by cases a;rfl;cases h
def QN(h:(a||b)=eU):a=eU\/b=eU:=by cases a;exact .inr h;exact .inl rfl
def dt[Decidable q](h:decide q=eU):q:=of_decide_eq_true h
abbrev Md.gn(c:Md)(y:String):Bool:=c.gl (gC y)&&nm (gC y)
abbrev NB:O.Bi->Bool
 |.len=>eU
 |.int=>eU
 |.all=>eU
 |.list=>eU
 |.tuple=>eU
 |.minL=>eU
 |.sortedI=>eU
 |.listT=>eU
 |_=>eV
abbrev MT:O.Bi->Bool
 |.len=>eU
 |.int=>eU
 |.list=>eU
 |.tuple=>eU
 |_=>eV
abbrev Sx(c:Md):O.Bi->Bool
 |.isi (T::r)=>c.gl "isinstance" && (T::r).all (λT=>kinds.contains T&&c.gl (gC T))&&gB (r.length<1)
 |.sortedSet=>c.gl "sorted" && c.gl "set" && c.cm
 |.minD=>c.gl "min" && c.cm
 |_=>eV
abbrev Cr:O.Bm->Option Nat
 |.append=>eQ 1
 |.popAt=>eQ 1
 |.remove=>eQ 1
 |.dget=>eQ 1
 |.dgetD=>eQ 2
 |.dpop=>eQ 1
 |.dpopD=>eQ 2
 |.dpopT=>eQ 1
 |_=>eS
abbrev DY:O.Tt->Bool
 |.yes=>eU
 |_=>eV
abbrev EB:O.E->Bool
 |.var _=>eU
 |.call _ _=>eU
 |.meth _ _ _ _=>eU
 |.bi _ _=>eU
 |.bm _ _ _=>eU
 |.idx _ _=>eU
 |.fld _ _=>eU
 |.glob _ _=>eU
 |_=>eV
abbrev SM:O.E->Bool
 |.cmp _ _ _=>eU
 |.chain _ _ _ _ _=>eU
 |_=>eV
mutual
noncomputable def okE:O.E->Md->Expr->Bool
 |.cst v,_,_=>Iq v
 |.var j,c,_=>gB (j<c.N.length)&&c.vis (c.nmOf j)&&nm (c.nmOf j)
 |.glob y v,c,_=>c.gn y&&gB (c.cs.lookup y=eQ v)
 |.bin _ a b,c,x=>okE a c (kid x 0)&&okE b c (kid x 1)
 |.neg a,c,x=>okE a c<|kid x 0
 |.not a,c,x=>okE a c<|kid x 0
 |.and a b,c,x=>okE a c (kid x 0)&&okE b c (rest (ZL b) x)&&(!ZL b||(rest (ZL b) x).pos==x.pos)
 |.or a b,c,x=>okE a c (kid x 0)&&okE b c (rest (Yx b) x)&&(!Yx b||(rest (Yx b) x).pos==x.pos)
 |.cmp o a b,c,x=>okE a c (kid x 0)&&okE b c (kid x 1)&&(!N2 o||C6 b)
 |.chain o1 o2 a b d,c,x=>okE a c (kid x 0)&&okE b c (kid x 1)&&okE d c (kid x 2) && !N2 o1 && !N2 o2
 |.call f as,c,x=>c.gn f&&c.fs.contains f&&c.cm&&okA as c (sub x).tail
 |.make C as,c,x=>c.gn C&&c.cl.contains C&&c.cm&&gB (ZO as≠0)&&okA as c (sub x).tail
 |.meth C m o as,c,x=>c.ms.contains (C,m)&&c.cm&&okE o c (kid (kid x 0) 0)&&Xl (toX o c<|kid (kid x 0) 0)&&((kid x 0).pos.endLine==x.pos.line)&&gB (ZO as<20)&&okA as c (sub x).tail
 |.fld o f,c,x=>c.fl.contains f&&okE o c (kid x 0)&&Xl (toX o c<|kid x 0)
 |.bi f as,c,x=>((gB (ZO as=1)&&Sx c f)||(NB f&&c.gl (Bb f)&&gB (ZO as≠0)&&(c.cm||MT f)))&&okA as c (K9 f x)
 |.bm m o as,c,x=>gB (Cr m=eQ (ZO as))&&okE o c (kid (kid x 0) 0)&&Xl (toX o c<|kid (kid x 0) 0)&&((kid x 0).pos.endLine==x.pos.line)&&okA as c (sub x).tail
 |.idx a b,c,x=>okE a c (kid x 0)&&okE b c (kid x 1)
 |.slc a lo hi,c,x=>okE a c (kid x 0)&&okO lo c (kid (kid x 1) 0)&&okO hi c (kid (kid x 1) 1)
 |.tup es,c,x=>okA es c (sub x)&&gB (ZO es<=1000)
 |.key es,c,x=>okA es c (sub x)&&gB (ZO es<=1000)
 |.dctP,_,_=>eU
 |.lst es,c,x=>okA es c (sub x)&&gB (ZO es<=1000)
 |.rev a,c,x=>okE a c<|kid x 0
 |.dct es,c,x=>okA es c (sub x)&&Jv es&&gB (esL es<=30)
 |.ife t a b,c,x=>okT t c (kid x 0)&&okE a c (kid x 1)&&okE b c (kid x 2)
 |.comp Ă m p it t e,c,x=>(Bl m p&&(X8<|kid x 1).length==m)&&c.cm&&YA (scp x) c.sc c.N (X8<|kid x 1) Ă&&(scp x).kind == .function&&okI it c (kid x 2) (!ZF p)&&okE e (c.blk (scp x) (X8<|kid x 1) Ă) (kid x 0)&&(DY t||okT t (c.blk (scp x) (X8<|kid x 1) Ă) (kid x 3))
 |_,_,_=>eV
noncomputable def okA:O.Es->Md->List Expr->Bool
 |.nil,_,_=>eU
 |.cons e es,c,xs=>okE e c (xs.headD dE)&&okA es c xs.tail
noncomputable def okO:O.Oe->Md->Expr->Bool
 |.none,_,_=>eU
 |.some e,c,x=>okE e c x
noncomputable def okT:O.Tt->Md->Expr->Bool
 |.yes,_,_=>eV
 |.val e,c,x=>okE e c x&&(EB e||SM e)
 |.not t,c,x=>okT t c<|kid x 0
 |.and a b,c,x=>okT a c (kid x 0)&&okT b c (rest (Zn b) x)&&(!Zn b||(rest (Zn b) x).pos==x.pos)
 |.or a b,c,x=>okT a c (kid x 0)&&okT b c (rest (Zy b) x)&&(!Zy b||(rest (Zy b) x).pos==x.pos)
noncomputable def okI:O.It->Md->Expr->Bool->Bool
 |.seq e,c,x,_=>okE e c x
 |.range a,c,x,_=>c.gl "range" && okE a c (kid x 1)
 |.enum e,c,x,t=>t&&c.gl "enumerate" && okE e c (kid x 1)
 |_,_,_,_=>eV
end
variable {X:Cx}{i:Inf}{P:O.Pg}{n:Nat}{c:Md}
variable {es:List Expr}{q:Pos}{l:Nat}
def Gw(g:Gd X i P n c){f:O.Bi}(hp:NB f=eU)(d5:(c.cm||MT f)=eU){e:Expr}{as:O.Es}{p:Pos}(hg:Gl X<|Bb f)(ha:PA X (e::es)<|tAr X i (O.wF P n) as l)
  (he:à (e::es) X.env=(eV,eval e X.env)::à es X.env) (hpl:(Ī p<|à es X.env).any (·.1)=eV):PE X (.Call (.Name (Bb f) q) (e::es) [] p)<|tE X i (O.wF P n)<|.bi f as:=by
 have hc:MT f=eV->X.calm=eU:=λz=>g.calm (by rw[z,Χ]at d5;exact d5);cases f with
 |len=>exact(Xd ((call_len_seq.or Nb).or AU) hg (g.bl _<|gb 10 rfl) (by kernel_rfl) ha (he:=he) (hpl:=hpl)).imp (WW<|by rw[g.K];exact PH)
 |int=>exact(XC (call_int1.or KC) hg (g.bl _<|gb 1 rfl) (by kernel_rfl) ha (he:=he) (hpl:=hpl)).imp<|WW Lq
 |all=>exact(Xd (ET<|hc rfl) hg (g.bl _<|gb 13 rfl) (by kernel_rfl) ha (he:=he) (hpl:=hpl)).imp (WW<|by rw[g.K];exact Ls)
 |list=>exact(XC MP hg (g.bl _<|gb 4 rfl) (by kernel_rfl) ha (he:=he) (hpl:=hpl)).imp (WW<|by rw[g.K];exact Fj)
 |minL=>exact(Xd (((UH<|hc rfl).or<|AN<|hc rfl).or<|Bp (hc rfl) (by have:=g.un;lia)) hg (g.bl _<|gb 8 rfl) (by kernel_rfl) ha (he:=he) (hpl:=hpl)).imp (WW<|by rw[g.K];exact HN)
 |sortedI=>exact(Xd (call_sorted.or<|MR<|hc rfl) hg (g.bl _<|gb 11 rfl) (by kernel_rfl) ha (he:=he) (hpl:=hpl)).imp (WW<|by rw[g.K];exact OW)
 |listT=>exact(XC (UI<|hc rfl) hg (g.bl _<|gb 4 rfl) (by kernel_rfl) ha (he:=he) (hpl:=hpl)).imp<|WW Ej
 |tuple=>exact(XC KF hg (g.bl _<|gb 5 rfl) (by kernel_rfl) ha (he:=he) (hpl:=hpl)).imp (WW<|by rw[g.K];exact E6)
 |_=>cases hp
variable {T:String}
def Q0(hT:T∈kinds):gC T∈blts/\Š (gC T)=eQ (.type T)/\gC T≠"__name__"/\(gC T==("__debug__" : Str))=eV:=by
 simp![kinds,Å,É,or_false]at hT;rcases hT with rfl|rfl|rfl|rfl|rfl|rfl
 .exact⟨gb 1 rfl,by kernel_rfl,by decide,by decide⟩
 .exact⟨gb 2 rfl,by kernel_rfl,by decide,by decide⟩
 .exact⟨gb 3 rfl,by kernel_rfl,by decide,by decide⟩
 .exact⟨gb 4 rfl,by kernel_rfl,by decide,by decide⟩
 .exact⟨gb 5 rfl,by kernel_rfl,by decide,by decide⟩
 .exact⟨gb 6 rfl,by kernel_rfl,by decide,by decide⟩
def CY(g:Gd X i P n c){e:Expr}{m:O.E}{p p2 pos:Pos}(hT:T∈kinds)(h2:c.gl "isinstance" = eU)(h5:c.gl (gC T)=eU)(he:PE X e<|tE X i (O.wF P n) m)(θ:à [e,.Name (gC T) p2] X.env=(eV,eval e X.env)::à [.Name (gC T) p2] X.env) :
  PE X (.Call (.Name "isinstance" p) [e,.Name (gC T) p2] [] pos) (tE X i (O.wF P n)<|.bi (.isi [T])<|.cons m .nil):=by
 have k:=Q0 hT;exact Q7 hT he g.K (g.gl h2) (g.bl _<|gb 0 rfl) (g.gl h5) (g.bl _ k.1) k.2.1 k.2.2.1 k.2.2.2 θ
variable {m:O.Bm}{o:Expr}{mo:O.E}{œ:Pos}{Ũ:Pos}
def EV(g:Gd X i P n c)(h:Cr m=eQ 0)(ho:PE X o<|tE X i (O.wF P n) mo)(hb:∀f,Ĭ o f X.env (eval o X.env)=eval o X.env)(hl:(œ.endLine==Ũ.line)=eU) :
  PE X (.Call (.Attribute o (Pa m) œ) [] [] Ũ) (tE X i (O.wF P n)<|.bm m mo .nil):=by
 cases m with
 |_=>cases h
def FL(g:Gd X i P n c){k:Nat}(h:Cr m=eQ (k+1)){e:Expr}{ms:O.Es}(ho:PE X o<|tE X i (O.wF P n) mo)(ha:PA X (e::es)<|tAr X i (O.wF P n) ms l)(hb:∀f,Ĭ o f X.env (eval o X.env)=eval o X.env)(hl:(œ.endLine==Ũ.line)=eU)(ϸ:((Ī Ũ<|à (e::es) X.env).all (λx=>!x.1)&&(Ž Ũ<|ŏ [] X.env).all (λx=>x.1.isSome)&&gB ((e::es).length+([]:List bf).length+(if([]:List bf).isEmpty then 0 else 1)<30))=eU)(hs:à (e::es) X.env=(eV,eval e X.env)::à es X.env)(hpl:(Ī Ũ<|à es X.env).any (·.1)=eV) :
  PE X (.Call (.Attribute o (Pa m) œ) (e::es) [] Ũ) (tE X i (O.wF P n)<|.bm m mo ms):=by
 have u1:X.A.units+1<Ģ:=by have:=g.un;lia
 cases m with
 |append=>exact NZ g.K PySem.F.plainAttrs_list PySem.F.slot_list_append PySem.F.type_list_append BA (PZ rfl) LC ho ha (hb _) ϸ hl hs hpl
 |popAt=>exact NZ g.K PySem.F.plainAttrs_list PySem.F.slot_list_pop PySem.F.type_list_pop CJ (PZ rfl) Fw ho ha (hb _) ϸ hl hs hpl
 |remove=>exact NZ g.K PySem.F.plainAttrs_list PySem.F.slot_list_remove PySem.F.type_list_remove BB (PZ rfl) Pf ho ha (hb _) ϸ hl hs hpl
 |dget=>exact NZ g.K PySem.F.plainAttrs_dict PySem.F.slot_dict_get PySem.F.type_dict_get (Eu u1) (CI rfl) PB ho ha (hb _) ϸ hl hs hpl
 |dgetD=>exact NZ g.K PySem.F.plainAttrs_dict PySem.F.slot_dict_get PySem.F.type_dict_get (CW u1) (CI rfl) Gf ho ha (hb _) ϸ hl hs hpl
 |dpop=>exact NZ g.K PySem.F.plainAttrs_dict PySem.F.slot_dict_pop PySem.F.type_dict_pop mt_dpop (CI rfl) Lk ho ha (hb _) ϸ hl hs hpl
 |dpopD=>exact NZ g.K PySem.F.plainAttrs_dict PySem.F.slot_dict_pop PySem.F.type_dict_pop (mt_dpop.or Eb) (CI rfl) Gg ho ha (hb _) ϸ hl hs hpl
 |dpopT=>exact NZ g.K PySem.F.plainAttrs_dict PySem.F.slot_dict_pop PySem.F.type_dict_pop (Cs u1) (CI rfl) FQ ho ha (hb _) ϸ hl hs hpl
 |_=>cases h
variable {sc:η}{Ă:List Nat}
def Gd.blk(g:Gd X i P n c){x:List Str}(hb:YA sc c.sc c.N x Ă=eU)(hk:sc.kind=.function)(cl:List<|Str×Ì)(C:Ì)(s:Ç)(H:Hp)(ex:List Ì) :
  Gd (Zw X sc (Z5 X x Ă) cl C s H ex) i P n (c.blk sc x Ă) where
 K:=g.K
 N:=by show Z5 X x Ă=_;unfold Z5;rw[g.N];rfl
 sc:=by show b9 sc X.env=_;unfold b9 Env.kindOf;rw[g.sc];rfl
 nd:=by have B:=UC g.sc g.N hk hb;have:=B.nd;unfold Z5 at this;rw[g.N]at this;exact this
 un:=g.un
 calm:=g.calm
 room:=g.room
 bl:=g.bl
 dfs:=g.dfs
 cst:=g.cst
 kl:=⟨g.kl.A,g.kl.F,g.kl.mkc,g.kl.mth⟩
 xl:=λh=>⟨(g.xl h).xc,(g.xl h).rs,(g.xl h).kn⟩
def Gd.pt(g:Gd X i P n c)(d5:c.cm=eU){xs:List Str}(hb:YA sc c.sc c.N xs Ă=eU)(hk:sc.kind=.function){p:O.Pt}(hp:Bl xs.length p=eU)(x:Expr)(cl:List<|Str×Ì)(C:Ì)(s:Ç)(H:Hp)(ex:List Ì) :
  PG (Zw X sc (Z5 X xs Ă) cl C s H ex) (toP p (c.blk sc xs Ă) x) (gPt i p):=by
 have B:=UC g.sc g.N hk hb;have G:=g.blk hb hk cl C s H ex;have key:∀j,j<xs.length->ED (Zw X sc (Z5 X xs Ă) cl C s H ex) (c.blk sc xs Ă) j:=λj hj=>by
  have e:(c.blk sc xs Ă).nmOf j=xs[j]:=by unfold Md.nmOf Md.blk;show(xs++_).getD j _=_;rw[Č,ď hj,È hj];rfl
  have lo:=lookup_relabel_local (env:=X.env)<|B.own xs[j]<|Ļ hj;unfold ED;rw[e];refine⟨?_,.inl lo,.inr lo⟩;show(xs++_)[j]?=_;rw[ď hj,È hj]
 refine Ib G.K (by rw[G.N];exact G.nd) (g.calm d5) ?_;cases p with
 |one j=>exact key j<|of_decide_eq_true hp
 |many js=>exact λj hj=>key j<|of_decide_eq_true<|ÿ.mp hp j hj
 |nest j js=>cases hp
def AA{b:O.E}(h:ZL b=eU):∃a d,b=.and a d:=O.E.and.elim (motive_1:=λb=>∃a d,b=.and a d) b (eq_of_beq h) λa d=>⟨a,d,rfl⟩
def DD{b:O.E}(h:Yx b=eU):∃a d,b=.or a d:=O.E.or.elim (motive_1:=λb=>∃a d,b=.or a d) b (eq_of_beq h) λa d=>⟨a,d,rfl⟩
def DM{b:O.Tt}(h:Zn b=eU):∃a d,b=.and a d:=O.Tt.and.elim (motive_4:=λb=>∃a d,b=.and a d) b (eq_of_beq h) λa d=>⟨a,d,rfl⟩
def GN{b:O.Tt}(h:Zy b=eU):∃a d,b=.or a d:=O.Tt.or.elim (motive_4:=λb=>∃a d,b=.or a d) b (eq_of_beq h) λa d=>⟨a,d,rfl⟩
def NA{p:Pos}(h:(!b||p==q)=eU)(hb:b=eU):p=q:=by rw[hb]at h;exact eq_of_beq h
variable {Φ:O.Fs}{x:Expr}
def Ec{b:O.E}(hp:(!ZL b||(rest (ZL b) x).pos==x.pos)=eU)(h:PE X (toX b c<|rest (ZL b) x)<|tE X i Φ b):PE X (.BoolOp .And (flat (ZL b)<|toX b c<|rest (ZL b) x) x.pos)<|tE X i Φ b:=by
 cases z:ZL b with
 |false=>rw[z]at h;exact D6 h
 |true =>have e:=NA hp z;rw[z]at e h;let⟨a,d,rfl⟩:=AA z;show PE X (.BoolOp .And (sub<|.BoolOp .And _ (rest eU x).pos) x.pos) _;rw[<-e];exact h
def F2{b:O.E}(hp:(!Yx b||(rest (Yx b) x).pos==x.pos)=eU)(h:PE X (toX b c<|rest (Yx b) x)<|tE X i Φ b):PE X (.BoolOp .Or (flat (Yx b)<|toX b c<|rest (Yx b) x) x.pos)<|tE X i Φ b:=by
 cases z:Yx b with
 |false=>rw[z]at h;exact D6 h
 |true =>have e:=NA hp z;rw[z]at e h;let⟨a,d,rfl⟩:=DD z;show PE X (.BoolOp .Or (sub<|.BoolOp .Or _ (rest eU x).pos) x.pos) _;rw[<-e];exact h
def KW(b:Bool){e:O.E}(h:b=ZL e\/b=Yx e):∃y ys,flat b (toX e c x)=y::ys:=by
 cases b with
 |false=>exact⟨_,_,rfl⟩
 |true =>
  rcases h with h|h
  .obtain⟨a,d,rfl⟩:=AA h.symm;exact⟨_,_,rfl⟩
  .obtain⟨a,d,rfl⟩:=DD h.symm;exact⟨_,_,rfl⟩
variable {i:Inf}{P:O.Pg}{n:Nat}
variable {X:Cx}{c:Md}{Φ:O.Fs}{b:O.Tt}{x:Expr}
def B4(hp:(!Zn b||(rest (Zn b) x).pos==x.pos)=eU)(h:PT X (toT b c<|rest (Zn b) x)<|tTt X i Φ b)(h2:(Zn b||Zy b)=eU->PW X (toT b c<|rest (Zn b) x) (tTt X i Φ b)) :
  ∃y ys,flat (Zn b) (toT b c<|rest (Zn b) x)=y::ys/\PW X (.BoolOp .And (y::ys) x.pos) (tTt X i Φ b):=by
 cases z:Zn b with
 |false=>rw[z]at h;exact⟨_,_,rfl,Fz h⟩
 |true =>have e:=NA hp z;rw[z]at e h2;let⟨a,d,rfl⟩:=DM z;refine⟨_,_,rfl,?_⟩;rw[<-e];exact h2 rfl
def D7(hp:(!Zy b||(rest (Zy b) x).pos==x.pos)=eU)(h:PT X (toT b c<|rest (Zy b) x)<|tTt X i Φ b)(h2:(Zn b||Zy b)=eU->PW X (toT b c<|rest (Zy b) x) (tTt X i Φ b)) :
  ∃y ys,flat (Zy b) (toT b c<|rest (Zy b) x)=y::ys/\PW X (.BoolOp .Or (y::ys) x.pos) (tTt X i Φ b):=by
 cases z:Zy b with
 |false=>rw[z]at h;exact⟨_,_,rfl,Lb h⟩
 |true =>have e:=NA hp z;rw[z]at e h2;let⟨a,d,rfl⟩:=GN z;refine⟨_,_,rfl,?_⟩;rw[<-e];exact h2 rfl
variable {Ă:List Nat}{p:O.Pt}{it:O.It}{pos:Pos}
def MA(g:Gd X i P n c){mt:O.Tt}{me:O.E}{bV iter bM:Expr}{x:List Str}{bB:List Expr}{sc:η}(d5:c.cm=eU)(h1:YA sc c.sc c.N x Ă=eU)(hk:sc.kind=.function)(hp:Bl x.length p=eU)
  (hi:PI X bM iter<|tIt X i (O.wF P n) it) (hs:∀y,ġ iter X.env y=pure y) (hG:∀cl C s H ex,PG (Zw X sc (Z5 X x Ă) cl C s H ex) bM<|gPt i p)
  (hE:∀cl C s H ex,PE (Zw X sc (Z5 X x Ă) cl C s H ex) bV<|tE0 i (O.wF P n) me) (hI:∀cl C s H ex,PIfs (Zw X sc (Z5 X x Ă) cl C s H ex) bB<|tT0 i (O.wF P n) mt) :
  PE X (.ListComp bV [⟨bM,iter,bB,0⟩] sc pos) (tE X i (O.wF P n)<|.comp Ă x.length p it mt me)/\
   ∀(y:Str) (py ϥ:Pos) (j:Nat),X.N[j]?=eQ y->L2.Loc X.env.scope y->(X.fn y=eU\/X.env.scope.names.lookup y=eQ .local)->ź (.ListComp bV [⟨bM,iter,bB,0⟩] sc pos) (eQ<|.Name y py) ϥ.line X.env=pure eU->PS X (.Assign [.Name y py] (.ListComp bV [⟨bM,iter,bB,0⟩] sc pos) ϥ) (tSt X i (O.wF P n)<|.set (.one j)<|.comp Ă x.length p it mt me):=by
 have B:=UC g.sc g.N hk h1;have hc:=g.calm d5;refine⟨(Dq hc B hi hG hI hE hs).imp<|Aj hp,λy py ϥ j hj hl hf hsw=>?_⟩;refine(DQ (by rw[g.N];exact g.nd) hj hl hc B hi hG hI hE hs hsw hf).imp λD σ H ⟨env,G,N,R,Bk,Ct,Xe,p,w,e⟩=>?_;refine Aj hp σ H _ ⟨env,G,_,Xe env,p.pre,w,λv G1 H1 x k1 g1 r1 w1=>?_⟩;let⟨Ŝ,e2,w2⟩:=eZ w1;clear w1;cases e2;exact e.nx _ _ G1 H1 k1 g1 ((p.en.keep k1).set r1 j) w2
def CB(hN:X.N=c.N)(h:j<c.N.length):X.N[j]?=eQ (c.nmOf j):=by rw[hN];unfold Md.nmOf;rw[Č,È h];rfl
def Hh{o:Expr}{m:Str}{œ:Pos}{args:List Expr}{env:Env}(hb:Ĭ o m env (eval o env)=eval o env)(ϸ:cK (args.length+0) (Ī pos<|à args env) (Ž pos<|ŏ [] env)=eU)(hl:(œ.endLine==pos.line)=eU) :
  eval (.Call (.Attribute o m œ) args [] pos) env=(do
    let ov<-eval o env
    ϑ œ.atName
    let (f,first)<-Ŕ [ov] (Ϡ ov m<|do return (<-importBound o env).getD eU)
    cA pos f first (Ī pos<|à args env) (Ž pos<|ŏ [] env)):=by
 show(do
   let ov<-Ĭ o m env (eval o env)
   ϑ œ.atName
   methodCall o m œ pos env ov (args.length+0) (Ī pos<|à args env) (Ž pos<|ŏ [] env))=_
 rw[hb];unfold methodCall methodCallPos;rw[ϸ,hl];rfl
def LJ(env:Env)(pos:Pos)(h:ZO as<20):cK ((toA as c xs).length+0) (Ī pos<|à (toA as c xs) env) (Ž pos<|ŏ [] env)=eU:=by unfold cK;rw[bAq,bAq,gz,Xz];refine⟨⟨J8 env pos as c xs,rfl⟩,?_⟩;show ZO as+0+0<30;lia
def Sn{m:O.Tt}(h:DY m=eV->PT X (toT m c x) (tTt X i (O.wF P n) m)):PIfs X (toF m c x)<|tT0 i (O.wF P n) m:=by
 cases m with
 |yes=>exact QB
 |val e=>exact Wf<|pt0<|h rfl
 |not t=>exact Wf<|pt0<|h rfl
 |and a b=>exact Wf<|pt0<|h rfl
 |or a b=>exact Wf<|pt0<|h rfl
def OA(c:Md):∀(es:O.Es) (xs:List Expr),Jv es=eU->(XM<|toA es c xs).all (·.isSome)=eU/\(XM<|toA es c xs).length=(AQ<|toA es c xs).length/\2*(XM<|toA es c xs).length=esL es
 |.nil,_,_=>⟨rfl,rfl,rfl⟩
 |.cons _ .nil,_,h=>by cases h
 |.cons k (.cons v r),xs,h=>by
  let⟨h1,h2,h3⟩:=OA c r xs.tail.tail h;refine⟨?_,?_,?_⟩
  .show(eU&&(XM<|toA r c xs.tail.tail).all (·.isSome))=eU;rw[h1];rfl
  .show(XM<|toA r c xs.tail.tail).length+1=(AQ<|toA r c xs.tail.tail).length+1;rw[h2]
  .show 2*((XM<|toA r c xs.tail.tail).length+1)=esL r+1+1;lia
def Ij(g:Gd X i P n c):X.A.units+1<Ģ:=by have:=g.un;lia
variable {a:O.E}
def Ei{b:O.E}(ha:PE X (toX a c<|kid x 0)<|tE X i Φ a)(hp:(!ZL b||(rest (ZL b) x).pos==x.pos)=eU)(hb:PE X (toX b c<|rest (ZL b) x)<|tE X i Φ b):PE X (toX (.and a b) c x)<|tE X i Φ<|.and a b:=by have h2:=Ec hp hb;let⟨y,ys,e⟩:=KW (c:=c) (ZL b) (e:=b) (x:=rest (ZL b) x)<|.inl rfl;show PE X (.BoolOp .And (toX a c (kid x 0)::flat (ZL b) (toX b c<|rest (ZL b) x)) x.pos) _;rw[e]at h2 ⊢;exact Rk ha h2
def Fu{b:O.E}(ha:PE X (toX a c<|kid x 0)<|tE X i Φ a)(hp:(!Yx b||(rest (Yx b) x).pos==x.pos)=eU)(hb:PE X (toX b c<|rest (Yx b) x)<|tE X i Φ b):PE X (toX (.or a b) c x)<|tE X i Φ<|.or a b:=by have h2:=F2 hp hb;let⟨y,ys,e⟩:=KW (c:=c) (Yx b) (e:=b) (x:=rest (Yx b) x)<|.inr rfl;show PE X (.BoolOp .Or (toX a c (kid x 0)::flat (Yx b) (toX b c<|rest (Yx b) x)) x.pos) _;rw[e]at h2 ⊢;exact ST ha h2
section
variable {X:Cx}{c:Md}{f C m:String}{o:O.E}{as:O.Es}{x:Expr}
def AL(g:Gd X i P n c)(h1:c.gn f=eU)(h3:c.fs.contains f=eU)(h4:c.cm=eU)(ha:PA X (toA as c (sub x).tail)<|tAr X i (O.wF P n) as (toA as c (sub x).tail).length):PE X (toX (.call f as) c x)<|tE X i (O.wF P n)<|.call f as:=an2 h1 λh1 h2=>by
 cases as with
 |nil=>exact Gu g.K (g.dfs _ h3) (g.rm h4) (g.gl h1) (Mc h2).1
 |cons a as=>exact Qe g.K (g.dfs _ h3) (g.rm h4) (g.gl h1) (Mc h2).1 ha (ZH ..)<|Yy ..
def Bq(g:Gd X i P n c)(h1:c.gn C=eU)(h3:c.cl.contains C=eU)(h4:c.cm=eU)(h6:gB (ZO as≠0)=eU)(ha:PA X (toA as c (sub x).tail)<|tAr X i (O.wF P n) as (toA as c (sub x).tail).length):PE X (toX (.make C as) c x)<|tE X i (O.wF P n)<|.make C as:=an2 h1 λh1 h2=>by
 let⟨a,f,i1,i2,M,hm,D⟩:=g.kl.mkc C h3;cases as with
 |nil=>exact gA rfl<|dt h6
 |cons b as=>exact Li g.K i1 i2 M D (g.room h4) (g.gl h1) hm (Mc h2).1 ha (ZH ..)<|Yy ..
def BG(g:Gd X i P n c)(h1:c.ms.contains (C,m)=eU)(h2:c.cm=eU)(h4:Xl (toX o c<|kid (kid x 0) 0)=eU)(h6:((kid x 0).pos.endLine==x.pos.line)=eU)(h7:gB (ZO as<20)=eU)(ho:PE X (toX o c<|kid (kid x 0) 0)<|tE X i (O.wF P n) o)(ha:PA X (toA as c (sub x).tail)<|tAr X i (O.wF P n) as (toA as c (sub x).tail).length):PE X (toX (.meth C m o as) c x)<|tE X i (O.wF P n)<|.meth C m o as:=by
 have ev:=Hh (m:=gC m) (Yp h4 _ X.env) (LJ X.env x.pos (c:=c) (xs:=(sub x).tail)<|dt h7) h6;let⟨a,f,i1,A,M,D⟩:=g.kl.mth C m h1;cases as with
 |nil=>exact GU g.K i1 A M D (g.rm h2) ho ev
 |cons b as=>exact I0 g.K i1 A M D (g.rm h2) ho ha (ZH ..) (Yy ..) ev
def HL{f:O.Bi}(g:Gd X i P n c)(h:Sx c f=eU)(he:PE X (toX a c<|(K9 f x).headD dE)<|tE X i (O.wF P n) a):PE X (toX (.bi f<|.cons a .nil) c x)<|tE X i (O.wF P n)<|.bi f<|.cons a .nil:=by
 cases f with
 |isi Ts=>cases Ts with
  |nil=>cases h
  |cons T r =>
   refine an3 h λh1 h2 h3=>?_;cases r with
   |nil=>exact an2 h2 λh2 _=>an2 h2 λh2 h4=>CY g (Ċ.mp h2) h1 h4 he<|ZH ..
   |cons b r=>exact gA (dt h3) (by simp)
 |sortedSet=>exact an3 h λh1 h2 h3=>NR (g.calm h3) g.K he (g.gl h1) (g.bl _<|gb 11 rfl) (g.gl h2) (g.bl _<|gb 12 rfl) (by rw[ZH];rfl)
 |minD=>exact an2 h λh1 h3=>Pn (g.calm h3) (Ij g) g.K (g.gl h1) (g.bl _<|gb 8 rfl) he (by rw[ZH];rfl)
 |_=>cases h
def HM{f:O.Bi}(g:Gd X i P n c)(h1:NB f=eU)(h2:c.gl (Bb f)=eU)(h3:gB (ZO as≠0)=eU)(h4:(c.cm||MT f)=eU)(ha:PA X (toA as c<|K9 f x)<|tAr X i (O.wF P n) as (toA as c<|K9 f x).length):PE X (toX (.bi f as) c x)<|tE X i (O.wF P n)<|.bi f as:=by
 cases as with
 |nil=>exact gA rfl<|dt h3
 |cons a as =>
  have e1:toX (.bi f<|.cons a as) c x=.Call (.Name (Bb f) (kid x 0).pos) (toA (.cons a as) c<|K9 f x) [] x.pos:=by cases f<;>first|(cases h1;done)|rfl
  rw[e1];exact Gw g h1 h4 (g.gl h2) ha (ZH ..)<|Yy ..
def QD{m:O.Bm}{k:Nat}(h:Cr m=eQ k):k<=2:=by cases m<;>first|(cases h;done)|(cases h;decide)
def FU{m:O.Bm}(g:Gd X i P n c)(h1:Cr m=eQ (ZO as))(h3:Xl (toX o c<|kid (kid x 0) 0)=eU)(h4:((kid x 0).pos.endLine==x.pos.line)=eU)(ho:PE X (toX o c<|kid (kid x 0) 0)<|tE X i (O.wF P n) o)(ha:PA X (toA as c (sub x).tail)<|tAr X i (O.wF P n) as (toA as c (sub x).tail).length):PE X (toX (.bm m o as) c x)<|tE X i (O.wF P n)<|.bm m o as:=by
 cases as with
 |nil=>exact EV g h1 ho (λf=>Yp h3 f _) h4
 |cons a as =>refine FL g h1 ho ha (λf=>Yp h3 f _) h4 ?_ (ZH ..)<|Yy ..;rw[bAq,bAq,gz];refine⟨⟨J8 X.env x.pos (.cons a as) c (sub x).tail,rfl⟩,?_⟩;have e2:(toA (.cons a as) c (sub x).tail).length=ZO (.cons a as):=Xz ..;have e3:=QD h1;show(toA (.cons a as) c (sub x).tail).length+0+0<30;lia
def CP{es:O.Es}(h2:Jv es=eU)(h3:esL es<=30)(hp:PPs X x.pos (XM<|toA es c<|sub x) (AQ<|toA es c<|sub x)<|N1 X i (O.wF P n) es):PE X (toX (.dct es) c x)<|tE X i (O.wF P n)<|.dct es:=by
 cases es with
 |nil=>exact P3
 |cons k r=>cases r with
  |nil=>cases h2
  |cons v r =>let⟨q1,q2,q3⟩:=OA c (.cons k<|.cons v r) (sub x) h2;exact Sv h2 h3 hp q1 q2 (by intro z;cases z) (by rw[<-q3]at h3;lia)
def Dz(g:Gd X i P n c)(z:EB a=eU)(he:PE X (toX a c x)<|tE X i Φ a):PT X (toT (.val a) c x)<|tTt X i Φ<|.val a:=Lc he (by cases a<;>first|(cases z;done)|exact λ_=>rfl) g.K
def Bg{a:O.Tt}(ha:PT X (toT a c<|kid x 0)<|tTt X i Φ a)(hp:(!Zn b||(rest (Zn b) x).pos==x.pos)=eU)(h2:PT X (toT b c<|rest (Zn b) x) (tTt X i Φ b)/\((Zn b||Zy b)=eU->PW X (toT b c<|rest (Zn b) x) (tTt X i Φ b))):PW X (toT (.and a b) c x)<|tTt X i Φ<|.and a b:=by let⟨y,ys,e,h3⟩:=B4 hp h2.1 h2.2;show PW X (.BoolOp .And (toT a c (kid x 0)::flat (Zn b) (toT b c<|rest (Zn b) x)) x.pos) _;rw[e];exact Qr ha h3
def DI{a:O.Tt}(ha:PT X (toT a c<|kid x 0)<|tTt X i Φ a)(hp:(!Zy b||(rest (Zy b) x).pos==x.pos)=eU)(h2:PT X (toT b c<|rest (Zy b) x) (tTt X i Φ b)/\((Zn b||Zy b)=eU->PW X (toT b c<|rest (Zy b) x) (tTt X i Φ b))):PW X (toT (.or a b) c x)<|tTt X i Φ<|.or a b:=by let⟨y,ys,e,h3⟩:=D7 hp h2.1 h2.2;show PW X (.BoolOp .Or (toT a c (kid x 0)::flat (Zy b) (toT b c<|rest (Zy b) x)) x.pos) _;rw[e];exact QW ha h3
end
mutual
theorem eE:∀(m:O.E) (X:Cx) (c:Md) (x:Expr),Gd X i P n c->okE m c x=eU->PE X (toX m c x) (tE X i (O.wF P n) m)
 |.cst v,X,c,x,g,h=>Lp h
 |.var j,X,c,x,g,h=>an3 h λh1 h2 h3=>Q4 (CB g.N<|dt h1) (g.vis h2) (Mc h3).1 (Mc h3).2.1
 |.glob y v,X,c,x,g,h=>an2 h λh h2=>an2 h λh1 h3=>(g.cst _ _<|dt h2).elim λu k=>k.elim λz k=>L1 (GQ (g.gl h1) k.1 k.2.1 (Mc h3).1) k.2.2
 |.bin o a b,X,c,x,g,h=>an2 h λh1 h2=>QH g (eE a X c _ g h1)<|eE b X c _ g h2
 |.neg a,X,c,x,g,h=>RW<|eE a X c _ g h
 |.not a,X,c,x,g,h=>Sw<|eE a X c _ g h
 |.and a b,X,c,x,g,h=>an3 h λh1 h2 h3=>Ei (eE a X c _ g h1) h3<|eE b X c _ g h2
 |.or a b,X,c,x,g,h=>an3 h λh1 h2 h3=>Fu (eE a X c _ g h1) h3<|eE b X c _ g h2
 |.cmp o a b,X,c,x,g,h=>an3 h λh1 h2 h3=>(OK g h3 (eE a X c _ g h1)<|eE b X c _ g h2).1
 |.chain o1 o2 a b d,X,c,x,g,h=>an5 h λh1 h2 h3 h4 h5=>(Kh g (HE h4) (HE h5) (eE a X c _ g h1) (eE b X c _ g h2)<|eE d X c _ g h3).1
 |.call f as,X,c,x,g,h=>an4 h λh1 h3 h4 h5=>AL g h1 h3 h4<|eA as X c _ g h5
 |.make C as,X,c,x,g,h=>an5 h λh1 h3 h4 h6 h5=>Bq g h1 h3 h4 h6<|eA as X c _ g h5
 |.meth C m o as,X,c,x,g,h=>an7 h λh1 h2 h3 h4 h6 h7 h5=>BG g h1 h2 h4 h6 h7 (eE o X c _ g h3)<|eA as X c _ g h5
 |.meth2 C D m o as,X,c,x,g,h=>nomatch h
 |.fld o f,X,c,x,g,h=>an3 h λh1 h2 h3=>Q2 g.K g.kl.A (g.kl.F _ h1) (eE o X c _ g h2)<|Yp h3 _ _
 | .bi f as,X,c,x,g,h=>an2 h λh1 h2=>(QN h1).elim (λh1=>an2 h1 λh3 h1=>by
     cases as with
     |nil=>cases h3
     |cons a as=>cases as with
       |nil=>exact an2 h2 λh2 _=>HL g h1<|eE a X c _ g h2
       | cons b as=>exact gA (dt h3)<|by simp[ZO]) λh1=>an4 h1 λh1 h3 h4 h5=>HM g h1 h3 h4 h5<|eA as X c _ g h2
 |.bm m o as,X,c,x,g,h=>an5 h λh1 h2 h3 h4 h5=>FU g (dt h1) h3 h4 (eE o X c _ g h2)<|eA as X c _ g h5
 |.idx a b,X,c,x,g,h=>an2 h λh1 h2=>R3 (ix_seq.or<|FD<|Ij g) (by rw[g.K];exact Sa) (eE a X c _ g h1) (eE b X c _ g h2)<|E0 _ _ _
 |.slc a lo hi,X,c,x,g,h=>an3 h λh1 h2 h3=>Sh SQ (by rw[g.K];exact R1) (eE a X c _ g h1) (eO lo X c _ g h2)<|eO hi X c _ g h3
 |.tup es,X,c,x,g,h=>an2 h λh1 h2=>Sj (by rw[Xz];exact dt h2)<|eA es X c _ g h1
 |.key es,X,c,x,g,h=>by have h:(okA es c (sub x)&&gB (ZO es<=1000))=eU:=h;rw[bAq,gz]at h;exact Rt (by rw[Xz];exact h.2)<|eA es X c _ g h.1
 |.dctP,X,c,x,g,h=>LH
 |.lst es,X,c,x,g,h=>an2 h λh1 h2=>Sq (by rw[Xz];exact dt h2)<|eA es X c _ g h1
 |.dct es,X,c,x,g,h=>an3 h λh1 h2 h3=>CP h2 (dt h3)<|eD es X c (sub x) x.pos g h1 h2
 |.ife t a b,X,c,x,g,h=>an3 h λh1 h2 h3=>RB (eT t X c _ g h1).1 (eE a X c _ g h2)<|eE b X c _ g h3
 |.comp Ă m p it t e,X,c,x,g,h=>an7 h λh1 h2 h3 h4 h5 h6 h7=>an2 h1 λh1 hm=>by
  obtain rfl:=eq_of_beq hm;let⟨t1,t2⟩:=Ny (c:=c.blk (scp x) (X8<|kid x 1) Ă) p<|kid x 1;have a:=eI it X c (kid x 2) (toP p (c.blk (scp x) (X8<|kid x 1) Ă)<|kid x 1) g (!ZF p) t1 t2 h5;exact(MA g h2 h3 (eq_of_beq h4) h1 a.1 a.2 (g.pt h2 h3 (eq_of_beq h4) h1 _)
    (λcl C s H ex=>pe0<|eE e _ _ _ (g.blk h3 (eq_of_beq h4) cl C s H ex) h6) (λcl C s H ex=>Sn λz=>(eT t _ _ _ (g.blk h3 (eq_of_beq h4) cl C s H ex)<|by rw[z]at h7;exact h7).1)).1
 |.fstr es,X,c,x,g,h=>nomatch h
 |.repl _ _ _,X,c,x,g,h=>nomatch h
 |.split o a,X,c,x,g,h=>nomatch h
 |.rev a,X,c,x,g,h=>SB g.K<|eE a X c _ g h
 |.sortT a,X,c,x,g,h=>nomatch h
 |.pick a lo hi st,X,c,x,g,h=>nomatch h
theorem eD:∀(es:O.Es) (X:Cx) (c:Md) (xs:List Expr) (pos:Pos),Gd X i P n c->okA es c xs=eU->Jv es=eU->PPs X pos (XM<|toA es c xs) (AQ<|toA es c xs) (N1 X i (O.wF P n) es)
 |.nil,X,c,xs,pos,g,h,he=>Hk
 |.cons k .nil,X,c,xs,pos,g,h,he=>by cases he
 |.cons k (.cons v r),X,c,xs,pos,g,h,he=>by have h:(okE k c (xs.headD dE)&&(okE v c (xs.tail.headD dE)&&okA r c xs.tail.tail))=eU:=h;rw[bAq,bAq]at h;exact DS (eE k X c _ g h.1) (eE v X c _ g h.2.1)<|eD r X c _ pos g h.2.2 he
theorem eA:∀(ms:O.Es) (X:Cx) (c:Md) (xs:List Expr),Gd X i P n c->okA ms c xs=eU->PA X (toA ms c xs) (tAr X i (O.wF P n) ms (toA ms c xs).length)
 |.nil,X,c,xs,g,h=>P4
 |.cons a as,X,c,xs,g,h=>by exact an2 h λh1 h2=>GY (eE a X c _ g h1) (eA as X c _ g h2)<|ZH ..
theorem eO:∀(m:O.Oe) (X:Cx) (c:Md) (x:Expr),Gd X i P n c->okO m c x=eU->PO X (toO m c x) (tOx X i (O.wF P n) m)
 |.none,X,c,x,g,h=>HG
 |.some e,X,c,x,g,h=>FA<|eE e X c _ g h
theorem eT:∀(m:O.Tt) (X:Cx) (c:Md) (x:Expr),Gd X i P n c->okT m c x=eU->PT X (toT m c x) (tTt X i (O.wF P n) m)/\((Zn m||Zy m)=eU->PW X (toT m c x) (tTt X i (O.wF P n) m))
 |.yes,X,c,x,g,h=>nomatch h
 | .val e,X,c,x,g,h=>an2 h λh1 h2=>⟨(QN h2).elim (λz=>Dz g z<|eE e X c x g h1) (λz=>by
     cases e with
     |cmp o a b=>exact an3 h1 λh1 h2 h3=>(OK g h3 (eE a X c _ g h1)<|eE b X c _ g h2).2
     |chain o1 o2 a b d=>exact an5 h1 λh1 h2 h3 h4 h5=>(Kh g (HE h4) (HE h5) (eE a X c _ g h1) (eE b X c _ g h2)<|eE d X c _ g h3).2
     | _=>cases z),λz=>(by cases z)⟩
 |.not t,X,c,x,g,h=>⟨L7 (eT t X c _ g h).1,λz=>(by cases z)⟩
 |.and a b,X,c,x,g,h=>an3 h λh1 h2 h3=>have h:=Bg (eT a X c _ g h1).1 h3<|eT b X c _ g h2;⟨h.pt,λ_=>h⟩
 |.or a b,X,c,x,g,h=>an3 h λh1 h2 h3=>have h:=DI (eT a X c _ g h1).1 h3<|eT b X c _ g h2;⟨h.pt,λ_=>h⟩
theorem eI:∀(m:O.It) (X:Cx) (c:Md) (x tg:Expr),Gd X i P n c->∀(b:Bool),(b=eU->∃es k p,tg=.Tuple es k p)->(b=eV->∃y p,tg=.Name y p)->okI m c x b=eU->PI X tg (toI m c x) (tIt X i (O.wF P n) m)/\∀y,ġ (toI m c x) X.env y=pure y
 |.seq e,X,c,x,tg,g,b,t1,t2,h=>⟨P7 g.K<|eE e X c _ g h,Lr _ _ _ _⟩
 |.seqT k e,X,c,x,tg,g,b,t1,t2,h=>nomatch h
 |.chars e,X,c,x,tg,g,b,t1,t2,h=>nomatch h
 |.range a,X,c,x,tg,g,b,t1,t2,h=>an2 h λh1 h2=>⟨Cy (g.gl h1) (g.bl _<|gb 9 rfl) (eE a X c _ g h2)<|ZH ..,λ_=>rfl⟩
 |.range2 a d,X,c,x,tg,g,b,t1,t2,h=>nomatch h
 |.zip a d,X,c,x,tg,g,b,t1,t2,h=>nomatch h
 |.enumL e,X,c,x,tg,g,b,t1,t2,h=>nomatch h
 |.enum e,X,c,x,tg,g,b,t1,t2,h=>an3 h λh0 h1 h2=>by let⟨es,k,p,rfl⟩:=t1 h0;exact⟨Gr g.K (g.gl h1) (g.bl _<|gb 16 rfl) (eE e X c _ g h2) (by rw[ZH];rfl),λ_=>rfl⟩
 |.items e,X,c,x,tg,g,b,t1,t2,h=>nomatch h
 |.keysF e,X,c,x,tg,g,b,t1,t2,h=>nomatch h
 |.rev e,_,_,_,_,_,_,_,_,h=>nomatch h
end
def BU(g:Gd X i P n c){m:Nat}{t:O.Tt}{e:O.E}(h:okE (.comp Ă m p it t e) c x=eU) :
  PE X (toX (.comp Ă m p it t e) c x) (tE X i (O.wF P n)<|.comp Ă m p it t e)/\
   ∀(y:Str) (py ϥ:Pos) (j:Nat),X.N[j]?=eQ y->L2.Loc X.env.scope y->(X.fn y=eU\/X.env.scope.names.lookup y=eQ .local)->ź (toX (.comp Ă m p it t e) c x) (eQ<|.Name y py) ϥ.line X.env=pure eU->PS X (.Assign [.Name y py] (toX (.comp Ă m p it t e) c x) ϥ) (tSt X i (O.wF P n)<|.set (.one j)<|.comp Ă m p it t e):=by
 have h:((Bl m p&&(X8<|kid x 1).length==m)&&c.cm&&YA (scp x) c.sc c.N (X8<|kid x 1) Ă&&(scp x).kind == .function&&okI it c (kid x 2) (!ZF p)&&okE e (c.blk (scp x) (X8<|kid x 1) Ă) (kid x 0)&&(DY t||okT t (c.blk (scp x) (X8<|kid x 1) Ă) (kid x 3)))=eU:=h;rw[bAq,bAq,bAq,bAq,bAq,bAq]at h;let⟨⟨⟨⟨⟨⟨h1,h2⟩,h3⟩,h4⟩,h5⟩,h6⟩,h7⟩:=h;rw[bAq,beq_iff_eq]at h1;let⟨h1,rfl⟩:=h1;have hk:=eq_of_beq h4;let⟨t1,t2⟩:=Ny (c:=c.blk (scp x) (X8<|kid x 1) Ă) p<|kid x 1;let⟨a1,a2⟩:=eI it X c (kid x 2) (toP p (c.blk (scp x) (X8<|kid x 1) Ă)<|kid x 1) g (!ZF p) t1 t2 h5;exact MA g h2 h3 hk h1 a1 a2 (g.pt h2 h3 hk h1 _)
  (λcl C s H ex=>pe0<|eE e _ _ _ (g.blk h3 hk cl C s H ex) h6) (λcl C s H ex=>Sn λz=>(eT t _ _ _ (g.blk h3 hk cl C s H ex)<|by rw[z]at h7;exact h7).1)
abbrev dS:ń:=.Pass ⟨0,0,0,0⟩
abbrev stE:ń->List Expr
 |.Assign ts v _=>v::ts
 |.AugAssign t _ v _=>[v,t]
 |.For t it _ _ _=>[t,it]
 |.While t _ _ _=>[t]
 |.If t _ _ _=>[t]
 |.Expr e _=>[e]
 |.Return (eQ e) _=>[e]
 |.Raise (eQ e) _ _=>[e]
 |_=>[]
abbrev ke(s:ń)(j:Nat):Expr:=(stE s).getD j dE
abbrev stB:ń->List ń
 |.For _ _ b _ _=>b
 |.While _ b _ _=>b
 |.If _ b _ _=>b
 |.Try b _ _ _ _=>b
 |_=>[]
abbrev stO:ń->List ń
 |.If _ _ b _=>b
 |_=>[]
abbrev stH:ń->List ExceptHandler
 |.Try _ hs _ _ _=>hs
 |_=>[]
abbrev dH:ExceptHandler:=.ExceptHandler eS eS [] ⟨0,0,0,0⟩
abbrev hT:ExceptHandler->Expr
 |.ExceptHandler (eQ e) _ _ _=>e
 |_=>dE
abbrev hB:ExceptHandler->List ń
 |.ExceptHandler _ _ b _=>b
abbrev hP:ExceptHandler->Pos
 |.ExceptHandler _ _ _ p=>p
abbrev Md.hot(c:Md):Md:={c with cm:=eV}
abbrev Tv(t:Option Nat)(e:O.E)(c:Md)(y:ń):ń:=match t with
 |none=>.Expr (toX e c<|ke y 0) y.pos
 |some j=>.Assign [.Name (c.nmOf j) (ke y 1).pos] (toX e c<|ke y 0) y.pos
mutual
noncomputable def toS:O.S->Md->ń->ń
 |.set p a,c,s=>.Assign [toP p c<|ke s 1] (toX a c<|ke s 0) s.pos
 |.setIdx a j e,c,s=>.Assign [.Subscript (toX a c<|kid (ke s 1) 0) (toX j c<|kid (ke s 1) 1) (ke s 1).pos] (toX e c<|ke s 0) s.pos
 |.setPair a i b j e,c,s=>.Assign [.Tuple [.Subscript (toX a c<|kid (kid (ke s 1) 0) 0) (toX i c<|kid (kid (ke s 1) 0) 1) (kid (ke s 1) 0).pos,.Subscript (toX b c<|kid (kid (ke s 1) 1) 0) (toX j c<|kid (kid (ke s 1) 1) 1) (kid (ke s 1) 1).pos] (num<|ke s 1) (ke s 1).pos] (toX e c<|ke s 0) s.pos
 |.setFld o f e,c,s=>.Assign [.Attribute (toX o c<|kid (ke s 1) 0) (gC f) (ke s 1).pos] (toX e c<|ke s 0) s.pos
 |.augVar j op e,c,s=>.AugAssign (.Name (c.nmOf j) (ke s 1).pos) (OR op) (toX e c<|ke s 0) s.pos
 |.augFld o f op n,c,s=>.AugAssign (.Attribute (toX o c<|kid (ke s 1) 0) (gC f) (ke s 1).pos) (OR op) (.Constant (.int n) (num<|ke s 0) (ke s 0).pos) s.pos
 |.augIdx a j op n,c,s=>.AugAssign (.Subscript (toX a c<|kid (ke s 1) 0) (toX j c<|kid (ke s 1) 1) (ke s 1).pos) (OR op) (.Constant (.int n) (num<|ke s 0) (ke s 0).pos) s.pos
 |.expr e,c,s=>.Expr (toX e c<|ke s 0) s.pos
 |.ret e,c,s=>.Return (eQ<|toX e c<|ke s 0) s.pos
 |.retN,_,s=>.Return eS s.pos
 |.ite t a b,c,s=>.If (toT t c<|ke s 0) (toSs a c<|stB s) (toSs b c<|stO s) s.pos
 |.whl t b,c,s=>.While (toT t c<|ke s 0) (toSs b c<|stB s) [] s.pos
 |.for p it b,c,s=>.For (toP p c<|ke s 0) (toI it c<|ke s 1) (toSs b c<|stB s) [] s.pos
 |.forI eU p e b,c,s=>.For (toP p c<|ke s 0) (toX e c<|ke s 1) (toSs b c<|stB s) [] s.pos
 |.forI eV p e b,c,s=>.For (toP p c<|ke s 0) (.Call (.Attribute (toX e c<|kid (kid (ke s 1) 0) 0) "items" (kid (ke s 1) 0).pos) [] [] (ke s 1).pos) (toSs b c<|stB s) [] s.pos
 |.brk,_,s=>.Break s.pos
 |.cnt,_,s=>.Continue s.pos
 |.pass,_,s=>.Pass s.pos
 |.raise C as,c,s=>.Raise (eQ<|.Call (.Name (gC C) (kid (ke s 0) 0).pos) (toA as c (sub<|ke s 0).tail) [] (ke s 0).pos) eS s.pos
 |.try t e hs,c,s=>.Try [Tv t e c<|(stB s).headD dS] (toH hs c<|stH s) [] [] s.pos
 |_,_,s=>s
noncomputable def toH:O.Hn->Md->List ExceptHandler->List ExceptHandler
 |.nil,_,_=>[]
 |.cons K nm b r,c,xs=>.ExceptHandler (eQ<|.Name (gC K) (hT<|xs.headD dH).pos) (nm.map c.nmOf) (toSs b c.hot<|hB<|xs.headD dH) (hP<|xs.headD dH)::toH r c xs.tail
noncomputable def toSs:O.Ss->Md->List ń->List ń
 |.nil,_,_=>[]
 |.cons m ms,c,xs=>toS m c (xs.headD dS)::toSs ms c xs.tail
end
abbrev Iw:O.E->Bool
 |.idx _ _=>eU
 |.var _=>eU
 |.fld _ _=>eU
 |_=>eV
abbrev OC(c:Md)(j:Nat):Bool:=gB (j<c.N.length)&&c.loc (c.nmOf j)
abbrev okP(p:O.Pt)(c:Md):Bool:=match p with
 |.one j=>OC c j
 |.many js=>js.all<|OC c
 |.nest j js=>OC c j&&js.all (OC c)
abbrev EZ:O.E->Bool
 |.tup _=>eU
 |.key _=>eU
 |_=>eV
abbrev Ud:O.E->Bool
 |.comp _ _ _ _ _ _=>eU
 |_=>eV
abbrev swT(c:Md)(tg v:Expr):Bool:=match v,tg with
 |.ListComp _ _ s pos,.Name t p=>(if c.sc.kind.isAnnotationScope then ScopeKind.function else c.sc.kind) == .function&&c.sc.names.lookup t==eQ .local&&p.line==pos.line && !(s.names.any λ(n,k)=>n==t&&(k == .local||k == .cell))
 |_,_=>eV
abbrev Bo:O.Bop->Bool
 |.add=>eU
 |.sub=>eU
 |_=>eV
abbrev SG(c:Md)(j:Nat):Bool:=gB (j<c.N.length)&&c.sc.names.lookup (c.nmOf j)==eQ .local
abbrev SY(c:Md):Option Nat->Bool
 |none=>eU
 |some j=>SG c j
abbrev Su:O.Ss->Bool
 |.nil=>eV
 |_=>eU
abbrev Ru:O.Hn->Bool
 |.nil=>eU
 |_=>eV
mutual
noncomputable def okS:O.S->Md->ń->Bool
 |.set p a,c,s=>okP p c&&okE a c (ke s 0)&&(ZF p || !EZ a)&&(ZF p||c.cm)
 |.setIdx a j e,c,s=>okE e c (ke s 0)&&okE a c (kid (ke s 1) 0)&&okE j c (kid (ke s 1) 1)
 |.setFld o f e,c,s=>c.fl.contains f&&okE o c (kid (ke s 1) 0)&&okE e c (ke s 0)
 |.augFld o f op _,c,s=>c.fl.contains f&&okE o c (kid (ke s 1) 0)&&Bo op
 |.augIdx a j op _,c,s=>okE a c (kid (ke s 1) 0)&&okE j c (kid (ke s 1) 1)&&Bo op
 |.expr e,c,s=>okE e c (ke s 0) && !Ud e
 |.ret e,c,s=>okE e c<|ke s 0
 |.retN,_,_=>eU
 |.ite t a b,c,s=>okT t c (ke s 0)&&okSs a c (stB s)&&okSs b c (stO s)
 |.for p it b,c,s=>okP p c&&okI it c (ke s 1) (!ZF p)&&okSs b c (stB s)&&c.cm
 |.forI eU p e b,c,s=>okP p c&&Iw e&&okE e c (ke s 1)&&okSs b c (stB s)&&c.cm
 |.forI eV p e b,c,s=>okP p c && !ZF p&&okE e c (kid (kid (ke s 1) 0) 0)&&Xl (toX e c<|kid (kid (ke s 1) 0) 0)&&((kid (ke s 1) 0).pos.endLine==(ke s 1).pos.line)&&okSs b c (stB s)&&c.cm
 |.never,_,_=>eU
 |_,_,_=>eV
noncomputable def okH:O.Hn->Md->List ExceptHandler->Bool
 |.nil,_,_=>eV
 |.cons K nm b r,c,xs=>(c.xs.contains K||K == "ShutError")&&c.gn K && !c.xs.isEmpty&&SY c nm&&Su b&&okSs b c.hot (hB<|xs.headD dH)&&Ru r
noncomputable def okSs:O.Ss->Md->List ń->Bool
 |.nil,_,_=>eU
 |.cons m ms,c,xs=>okS m c (xs.headD dS)&&okSs ms c xs.tail
end
structure Gs(X:Cx)(i:Inf)(P:O.Pg)(n:Nat)(c:Md):Prop extends Gd X i P n c where
 fn:∀x,c.loc x=eU->X.fn x=eU\/X.env.scope.names.lookup x=eQ .local
 own:c.cm=eU->al ↥2 X.A X.env X.xe
 stk:c.cm=eU->X.stack=X.env::X.outer
variable {X:Cx}{i:Inf}{P:O.Pg}{n:Nat}{c:Md}
def Gs.nm1(g:Gs X i P n c)(h:OC c j=eU):X.N[j]?=eQ (c.nmOf j)/\L2.Loc X.env.scope (c.nmOf j)/\(X.fn (c.nmOf j)=eU\/X.env.scope.names.lookup (c.nmOf j)=eQ .local):=by unfold OC at h;rw[bAq,gz]at h;exact⟨CB g.N h.1,g.loc h.2,g.fn _ h.2⟩
variable {p:O.Pt}
def QG(g:Gs X i P n c)(h:okP p c=eU):Iv (ED X c) p:=by
 cases p with
 |one j=>exact g.nm1 h
 |many js=>exact λj hj=>g.nm1<|ÿ.mp h j hj
 |nest j js =>have h:(OC c j&&js.all (OC c))=eU:=h;rw[bAq]at h;exact⟨g.nm1 h.1,λk hk=>g.nm1<|ÿ.mp h.2 k hk⟩
variable {x:Expr}
def Ag(g:Gs X i P n c)(d5:c.cm=eU)(h:okP p c=eU):PG X (toP p c x)<|gPt i p:=Ib g.K (by rw[g.N];exact g.nd) (g.calm d5) (QG g h)
variable {tg:Expr}
def Jn(a:O.E)(x:Expr)(hs:env.scope=c.sc):ź (toX a c x) (eQ tg) l env=pure (swT c tg<|toX a c x):=by
 cases a with
 |comp Ă m p it t e =>
  cases tg with
  |Name t q =>unfold ź swT Env.blockKind Env.kindOf;rw[hs];rfl
  |_=>rfl
 |_=>rfl
def PX(p:O.Pt)(a:O.E)(x y:Expr)(env:Env)(h:(ZF p || !EZ a)=eU):Ϙ [toP p c x] (toX a c y) env=pure eS:=by
 cases p with
 |one j=>cases a<;>rfl
 |many js=>cases a<;>first|rfl|cases h
 |nest j js=>cases a<;>first|rfl|cases h
def CF(p:O.Pt)(x:Expr)(env:Env):(ĥ [toP p c x] env).map (·.2)=[μ (toP p c x) env]:=by cases p<;>rfl
def LT(h:swT c tg (toX a c x)=eU):∃Ă m p it t e,a=.comp Ă m p it t e:=by
 cases a with
 |comp Ă m p it t e=>exact⟨_,_,_,_,_,_,rfl⟩
 |_=>cases h
def Gz(y:O.E){b:Expr}{pos:Pos}:∀v,μ (.Subscript b (toX y c x) pos) env v=(do
    let ov<-Ŕ [v] (eval b env)
    let iv<-Ŕ [v,ov] (eval (toX y c x) env)
    ϑ pos
    Ŕ [v,ov,iv] (bc ov iv v)
    d6 [v,ov,iv] []):=by
 intro v;cases y<;>rfl
def IG{op:O.Bop}(h:Bo op=eU):Cm X (OR op)<|rAS op:=by
 cases op with
 |add =>
  intro Â s σ H x y u v Q I rx ry q;let⟨a,b,rfl,rfl,q⟩:=q;rcases q with⟨_,q⟩|⟨z,_⟩
  .exact L3 Â s σ H _ _ u v Q I rx ry ⟨a,b,rfl,rfl,q⟩
  .cases z
 |sub =>
  intro Â s σ H x y u v Q I rx ry q;let⟨a,b,rfl,rfl,q⟩:=q;rcases q with⟨z,_⟩|⟨_,q⟩
  .cases z
  .exact Qh Â s σ H _ _ u v Q I rx ry ⟨a,b,rfl,rfl,q⟩
 |_=>cases h
def Fd:PGet X<|D0 X.K:=λÂ s σ H x y v u Q I rx ry h=>by
 let⟨p,xs,i,z,rfl,rfl,hq,he,q⟩:=h;cases rx;let⟨t,rfl⟩:=ry;let⟨ø,r,pl,hz⟩:=I.list hq;let⟨j,h1,h2,h3,h4,h5⟩:=W6 he;let⟨w,ew,aA⟩:=r.get h2;have hl:=r.length;have hn:=Y4;have fin:EP X Â σ Q w s:=⟨z,H,I,aA,q⟩
 by_cases h0:0<=i
 .have hj:i.toNat=j:=by
   rw[bO h0 h5]at h1;exact ð h1
  exact wpAny_getItem_list pl.isList h0 ↥0 (by rw[hj];simpa using ew) fin
 .have hj:(i+(ø.toArray.size:Int)).toNat=j:=by
   rw[bd ↥0 h4]at h1;rw[Î,<-hl];exact ð h1
  exact ee pl.isList ↥0 (by rw[Î]<;>lia) ↥0 (by rw[hj];simpa using ew) fin
def EK(hu:X.A.units+1<Ģ):PGet X D5:=λÂ s σ H x y v u Q I rx ry h=>by let⟨a,z,rfl,g,q⟩:=h;cases rx;exact Me hu I g ry λw s' I' r=>⟨z,H,I',r,q⟩
def PGet.or{r r':R2}(h:PGet X r)(h':PGet X r'):PGet X λx y H Q=>r x y H Q\/r' x y H Q:=λÂ s σ H o j ov jv Q I ro rj q=>by
 rcases q with q|q
 .exact h Â s σ H o j ov jv Q I ro rj q
 .exact h' Â s σ H o j ov jv Q I ro rj q
def PY{G:O.Hs}{H:Hp}{a:Ì}{u w:O.Val}{y:V}{K:Frag}{Q:VK}(g:RH i G H)(ry:RV i.K H u y)(e:O.fN G (.ref a) u=eQ w)(q:∀z,RV i.K H w z->Q z H):D0 K (.ref a) y H Q\/D5 (.ref a) y H Q:=by
 replace e:(match G a with|some (.lst xs)=>(O.gj u).bind (O.atI xs)|some (.dct kvs)=>if O.fv u then O.fy kvs u else eS|some (.frz kvs)=>if O.fv u then O.fy kvs u else eS|some (.dtp kvs)=>if O.isKeyT u then O.fy kvs u else eS|_=>eS)=eQ w:=e
 cases z:G a with
 |none=>rw[z]at e;cases e
 |some o =>
  rw[z]at e;cases o with
  |lst xs =>let⟨k,hk,e⟩:=æ.mp e;cases ZS hk;let⟨vs,h1,h2⟩:=g a _ z;let⟨t,h3,h4⟩:=Ji h2 e;exact .inl ⟨a,vs,k,t,rfl,ry.int_inv,f9.of h1,h3,q t h4⟩
  |dct kvs =>let⟨hk,e⟩:=Zg (show(if O.fv u then O.fy kvs u else eS)=eQ w from e);let⟨ps,h1,h2⟩:=g a _ z;let⟨d,kr,rfl⟩:=fm hk ry;let⟨t,hx,rv⟩:=(h2.look kr).1 w e;exact .inr ⟨a,t,rfl,by rw[<-hx];exact DGet.k h1,q t rv⟩
  |frz kvs =>let⟨hk,e⟩:=Zg (show(if O.fv u then O.fy kvs u else eS)=eQ w from e);let⟨ob,ps,h1,h2⟩:=g a _ z;let⟨d,kr,rfl⟩:=fm hk ry;let⟨t,hx,rv⟩:=(h2.look kr).1 w e;exact .inr ⟨a,t,rfl,.inl ⟨ps,d,.inr ⟨ob,h1⟩,rfl,hx.symm⟩,q t rv⟩
  |dtp kvs =>let⟨hk,e⟩:=Zg (show(if O.isKeyT u then O.fy kvs u else eS)=eQ w from e);let⟨ps,h1,h2⟩:=g a _ z;let⟨k1,k2,b,rfl,rfl,hb⟩:=Xw hk ry;let⟨t,hx,rv⟩:=(h2.look).1 w e;exact .inr ⟨a,t,rfl,by rw[<-hx];exact DGet.t h1 hb,q t rv⟩
  |_=>cases e
def PL(e:O.E)(x:Expr):∀ov iv new,augStore (toX e c x) ov iv new=(do Ŕ [new,ov,iv] (bc ov iv new);d6 [new,ov,iv] [];pure .next):=by intro ov iv new;cases e<;>rfl
def BV{a j:Expr}{ma mj:O.E}{op:O.Bop}{k:Int}{kk:Nat}{pos cM Ũ:Pos}(hK:X.K=i.K)(hu:X.A.units+1<Ģ)(h:Bo op=eU)(ha:PE X a<|tE X i Φ ma)(hj:PE X j<|tE X i Φ mj)(hs:∀ov iv new,augStore j ov iv new=(do Ŕ [new,ov,iv] (bc ov iv new);d6 [new,ov,iv] [];pure .next)) :
  PS X (.AugAssign (.Subscript a j cM) (OR op) (.Constant (.int k) kk Ũ) pos) (tSt X i Φ<|.augIdx ma mj op k) :=
 (FK ha hj (PGet.or Fd<|EK hu) Nt (IG h) (PSet.or NU<|OL hu) hs).imp λD σ H ⟨env,G,N,R,B,C,Xe,p,w,c⟩=>by
  refine one p.pre w λv G1 H1 x k1 p1 rx q=>?_;refine one p1 q λu G2 H2 y k2 p2 ry q=>?_;let⟨t,e1,q2⟩:=eZ q;clear q;let⟨z,e2,q3⟩:=eZ q2;clear q2;let⟨G3,e3,q4⟩:=eZ q3;clear q3;have hr:∃b,v=.ref b:=by
   cases v with
   |ref b=>exact⟨b,rfl⟩
   |_=>cases e3
  let⟨b,rfl⟩:=hr;cases rx.ref_inv;have ix2:∀Q:VK,(∀t',RV i.K H2 t t'->Q t' H2)->D0 X.K (.ref b) y H2 Q\/D5 (.ref b) y H2 Q:=λQ hQ=>PY p2.hp ry e1 hQ;refine ix2 _ λt' rt=>?_;let⟨n1,n2,rfl,e0,hz⟩:=Of e2;cases e0;cases rt.int_inv;have fin:∀m:Int,z=.int m->DA (.ref b) y (.int m) H2 λH6=>D.nx σ H6:=λm hm=>by subst hm;exact B9 p2.hp (.ref b) ry (.int m) e3 λH3 k3 g3=>c.nx env σ _ _ ((k1.trans k2).trans k3) g3 (p2.en.keep k3) q4
  rcases hz with⟨eo,hz⟩|⟨eo,hz⟩
  .exact⟨n1,k,rfl,rfl,.inl ⟨eo,fin _ hz⟩⟩
  .exact⟨n1,k,rfl,rfl,.inr ⟨eo,fin _ hz⟩⟩
def GO(t v:Expr)(p:Pos)(env:Env)(h:(∃a b q,t=.Subscript a b q)\/(∃a b q,t=.Attribute a b q)):Ϙ [t] v env=pure eS:=by rcases h with⟨a,b,q,rfl⟩|⟨a,b,q,rfl⟩<;>rfl
variable {a:O.E}{x:Expr}
def Fo(h:(!Ud a)=eU):ź (toX a c x) t l env=pure eV:=by
 cases a with
 |comp Ă m p it tt e=>cases h
 |_=>rfl
def EN(h:∀y q,tg≠.Name y q):swT c tg (toX a c x)=eV:=by
 cases a with
 |comp Ă m p it tt e =>
  cases tg with
  |Name y q=>exact gA rfl<|h y q
  |_=>rfl
 |_=>rfl
def Ly(g:Gs X i P n c)(hc:(ZF p||c.cm)=eU)(h:okP p c=eU):PG X (toP p c x)<|gPt i p:=by
 by_cases d5:c.cm=eU
 .exact Ag g d5 h
 .cases p with
  |one j =>let⟨h1,h2,h3⟩:=g.nm1 h;exact UE (by rw[g.N];exact g.nd) h1 h2 h3
  |many js=>exact gA hc d5
  |nest j js=>exact gA hc d5
mutual
theorem sS:∀(m:O.S) (X:Cx) (c:Md) (s:ń),Gs X i P n c->okS m c s=eU->PS X (toS m c s) (tSt X i (O.wF P n) m)
 |.set p a,X,c,s,g,h=>by
  have h:(okP p c&&okE a c (ke s 0)&&(ZF p || !EZ a)&&(ZF p||c.cm))=eU:=h;rw[bAq,bAq,bAq]at h;let⟨⟨⟨h1,h2⟩,h3⟩,h4⟩:=h;by_cases hsw:swT c (toP p c<|ke s 1) (toX a c<|ke s 0)=eU
  .obtain⟨Ă,k,pt,it,tt,e,rfl⟩:=LT hsw;cases p with
   |one j =>let⟨q1,q2,q3⟩:=g.nm1 h1;exact(BU g.toGd h2).2 _ _ _ j q1 q2 q3 (by rw[<-hsw];exact Jn (c:=c) (.comp Ă k pt it tt e) (ke s 0) g.sc)
   |many js=>cases hsw
   |nest j js=>cases hsw
  .have hp:PG X (toP p c<|ke s 1)<|gPt i p:=Ly g h4 h1;exact Qp (eE a X c _ g.toGd h2) hp (by rw[ϗ,Jn a _ g.sc,eJ.mpr hsw]) (PX p a _ _ _ h3)<|CF p _ _
 |.setIdx a j e,X,c,s,g,h=>by have h:(okE e c (ke s 0)&&okE a c (kid (ke s 1) 0)&&okE j c (kid (ke s 1) 1))=eU:=h;rw[bAq,bAq]at h;have ha:=eE a X c _ g.toGd h.1.2;have hj:=eE j X c _ g.toGd h.2;exact BP g.K (eE e X c _ g.toGd h.1.1) ha hj (Po ha hj (PSet.or NU<|OL (by have:=g.un;lia))<|Gz j) (by rw[ϗ,Jn e _ g.sc,EN λy q z=>(by cases z)]) (GO _ _ (ke s 1).pos _<|.inl ⟨_,_,_,rfl⟩) rfl
 |.setPair a j b k e,X,c,s,g,h=>nomatch h
 |.setFld o f e,X,c,s,g,h=>by have h:(c.fl.contains f&&okE o c (kid (ke s 1) 0)&&okE e c (ke s 0))=eU:=h;rw[bAq,bAq]at h;exact AI g.K g.kl.A (g.kl.F _ h.1.1) (eE o X c _ g.toGd h.1.2) (eE e X c _ g.toGd h.2) (by rw[Jn e _ g.sc,EN λy q z=>(by cases z)])
 |.augVar j op e,X,c,s,g,h=>nomatch h
 |.augFld o f op k,X,c,s,g,h=>by have h:(c.fl.contains f&&okE o c (kid (ke s 1) 0)&&Bo op)=eU:=h;rw[bAq,bAq]at h;exact B2 g.K g.kl.A (g.kl.F _ h.1.1) (IG h.2)<|eE o X c _ g.toGd h.1.2
 |.expr e,X,c,s,g,h=>by have h:(okE e c (ke s 0) && !Ud e)=eU:=h;rw[bAq]at h;exact Hy (eE e X c _ g.toGd h.1)<|Fo h.2
 |.ret e,X,c,s,g,h=>PP<|eE e X c _ g.toGd h
 |.retN,X,c,s,g,h=>FO
 |.ite t a b,X,c,s,g,h=>by have h:(okT t c (ke s 0)&&okSs a c (stB s)&&okSs b c (stO s))=eU:=h;rw[bAq,bAq]at h;exact P6 (eT t X c _ g.toGd h.1.1).1 (sSs a X c _ g h.1.2)<|sSs b X c _ g h.2
 |.whl t b,X,c,s,g,h=>nomatch h
 |.for p it b,X,c,s,g,h=>by have h:(okP p c&&okI it c (ke s 1) (!ZF p)&&okSs b c (stB s)&&c.cm)=eU:=h;rw[bAq,bAq,bAq]at h;let⟨⟨⟨h1,h2⟩,h3⟩,h4⟩:=h;let⟨t1,t2⟩:=Ny (c:=c) p<|ke s 0;let⟨a1,a2⟩:=eI it X c (ke s 1) (toP p c<|ke s 0) g.toGd (!ZF p) t1 t2 h2;exact IW (g.own h4) (g.calm h4) a1 (Ag g h4 h1) (sSs b X c _ g h3) a2
 |.forI eU p e b,X,c,s,g,h=>by have h:(okP p c&&Iw e&&okE e c (ke s 1)&&okSs b c (stB s)&&c.cm)=eU:=h;rw[bAq,bAq,bAq,bAq]at h;let⟨⟨⟨⟨h1,h2⟩,h3⟩,h6⟩,h7⟩:=h;refine Go (g.own h7) (g.calm h7) (eE e X c _ g.toGd h3) (Ag g h7 h1) (sSs b X c _ g h6) λ_=>?_;cases e<;>first|rfl|cases h2
 |.forI eV p e b,X,c,s,g,h=>by have h:(okP p c && !ZF p&&okE e c (kid (kid (ke s 1) 0) 0)&&Xl (toX e c<|kid (kid (ke s 1) 0) 0)&&((kid (ke s 1) 0).pos.endLine==(ke s 1).pos.line)&&okSs b c (stB s)&&c.cm)=eU:=h;rw[bAq,bAq,bAq,bAq,bAq,bAq]at h;let⟨⟨⟨⟨⟨⟨h1,h2⟩,h3⟩,h4⟩,h5⟩,h6⟩,h7⟩:=h;let⟨es,k,q,et⟩:=(Ny (c:=c) p<|ke s 0).1 h2;have hg:=Ag (x:=ke s 0) g h7 h1;show PS X (.For (toP p c<|ke s 0) _ _ _ _) _;rw[et]at hg ⊢;exact FW (g.own h7) (g.calm h7) (eE e X c _ g.toGd h3) hg (sSs b X c _ g h6) (Yp h4 _ _) h5 λ_=>rfl
 |.never,X,c,s,g,h=>Cc
 |.brk,X,c,s,g,h=>nomatch h
 |.cnt,X,c,s,g,h=>nomatch h
 |.pass,X,c,s,g,h=>nomatch h
 |.raise C as,X,c,s,g,h=>nomatch h
 |.try t e (.cons K nm b .nil),X,c,s,g,h=>nomatch h
 |.try t e (.cons K nm b<|.cons _ _ _ _),X,c,s,g,h=>nomatch h
 |.try t e .nil,X,c,s,g,h=>nomatch h
 |.augIdx a j op k,X,c,s,g,h=>by have h:(okE a c (kid (ke s 1) 0)&&okE j c (kid (ke s 1) 1)&&Bo op)=eU:=h;rw[bAq,bAq]at h;exact BV g.K (by have:=g.un;lia) h.2 (eE a X c _ g.toGd h.1.1) (eE j X c _ g.toGd h.1.2)<|PL j _
theorem sSs:∀(ms:O.Ss) (X:Cx) (c:Md) (xs:List ń),Gs X i P n c->okSs ms c xs=eU->PSs X (toSs ms c xs) (tBl X i (O.wF P n) ms)
 |.nil,X,c,xs,g,h=>Qk
 |.cons m ms,X,c,xs,g,h=>by have h:(okS m c (xs.headD dS)&&okSs ms c xs.tail)=eU:=h;rw[bAq]at h;exact GS (sS m X c _ g h.1)<|sSs ms X c _ g h.2
end
abbrev O8(N ps:List Str)(sc:η):Bool :=
 sc.kind == .function && !sc.isCoroutine && !sc.isGenerator&&decide N.Nodup&&(N.take ps.length==ps)&&ps.all (λx=>sc.names.lookup x==eQ .local||sc.names.lookup x==eQ .cell)&&sc.names.all λy=>y.2 != .free
variable {ps:List Str}
def Se(h:O8 N ps sc=eU):FnScope N ps sc:=by
 simp![O8,bAq,eF,gz,ÿ]at h;let⟨⟨⟨⟨⟨⟨h1,h2⟩,h3⟩,h4⟩,h5⟩,h6⟩,h7⟩:=h;refine⟨eq_of_beq h1,h2,h3,h4,eq_of_beq h5,λx hx=>?_,λy hy=>?_⟩
 .simpa using h6 x hx
 .simpa using h7 y hy
structure Ds where
 st:ń
 N:List Str
 ps:List Str
 d:O.Fn
structure Mt where
 C:String
 m:String
 qual:String
 x:Ds
structure Tb where
 fs:List<|String×Ds
 ms:List Mt
 cs:List<|String×O.Val
 cl:List String
 fl:List String
 xs:List String
abbrev Tb.md(T:Tb)(x:Ds):Md:={N:=x.N,sc:=Zv x.st,cs:=T.cs,fs:=T.fs.map (·.1),cm:=eU,cl:=T.cl,ms:=T.ms.map λy=>(y.C,y.m),fl:=T.fl,xs:=T.xs}
abbrev Ds.test(T:Tb)(x:Ds):Bool :=
 O8 x.N x.ps (Zv x.st)&&okSs x.d.body (T.md x) (ZQ x.st)&&x.ps.length==x.d.ar&&x.N.length==x.d.sz&&gB (x.d.ar<=x.d.sz)
structure Ds.Ok(T:Tb)(x:Ds):Prop where
 ok:x.test T=eU
 eq:toSs x.d.body (T.md x) (ZQ x.st)=ZQ x.st
variable {pr:ç}{wd:ă}{mg:Str->Option Ã}{base:Ď}{i:Inf}{P:O.Pg}{T:Tb}
abbrev Dst(K:Frag)(mg:Str->Option Ã)(f:String)(x:Ds):Prop:=∃fa fd qual,Fun K (gC f) qual x.st fa fd/\mg (gC f)=eQ (.ref fa)/\Binds K fd x.ps []
structure Mst(i:Inf)(mg:Str->Option Ã)(y:Mt)(a fa:Ì):Prop where
 cl:mg (gC y.C)=eQ (.ref a)
 fn:∃fd,Fun i.K (gC y.m) (gC y.qual) y.x.st fa fd/\Binds i.K fd y.x.ps []
 at_:Meth i.K a (gC y.m) fa
variable {f:String}{fa:Ì}{fd:Ŏ}
def AE:fH pr wd i.K mg base (CX1 pr wd) 0 fa fd ps<|spF i P 0 f:=by
 refine⟨λvs H Q E h=>?_,λA outer s H args us vs Q E hr he hb hv h=>?_⟩
 .obtain⟨_,_,_,_,_,_,w,_⟩:=h;rw[O.wF_eq]at w;exact w.elim
 .obtain⟨_,_,_,_,_,_,w,_⟩:=h;rw[O.wF_eq]at w;exact w.elim
variable {n:Nat}
def Ek(q:O.wF P (n+1) f vs h Q E):∃d,P f=eQ d/\vs.length=d.ar/\O.wSs (O.wF P n) d.body (d.env vs) h (λ_ g=>Q .non g) Q (λ_ _=>False) (λ_ _=>False) λ_ c g=>E c g:=by rw[O.wF_eq]at q;let⟨d,e,q1,q2⟩:=eZ q;exact⟨d,e,q1,by rw[O.wF_eq];exact q2⟩
structure Modu(mg:Str->Option Ã)(base:Ď)(i:Inf)(T:Tb):Prop where
 bl:∀x∈blts,mg x=eS
 cst:∀x v,T.cs.lookup x=eQ v->∃u y,mg (gC x)=eQ u/\RelV y u/\∀H,RV i.K H v y
 A:ClsA i
 F:∀f,T.fl.contains f=eU->FldOk i f
 cl:∀C a,i.cl C a->mg (gC C)=eQ (.ref a)
 mkc:∀C,T.cl.contains C=eU->∃a y f,i.ins C=eU/\i.cl C a/\Mk i.K a f/\y∈T.ms/\y.C=C/\y.m = "__init__"/\Mst i mg y a f
 fs:∀f x,(f,x)∈T.fs->Dst i.K mg f x
 ms:∀y,y∈T.ms->∃a f,Mst i mg y a f/\Cls i.K a
 xc:T.xs≠[]->∀C a,i.xc C a->XCls i.K a/\PySem.W.kitOne i.K (.ref a) (.type "ValueError")=eQ eU
 rs:T.xs≠[]->∀C,T.xs.contains C=eU->∃a,i.xc C a/\PyProof.Rows.OwnCls (gC C) a [.type "ValueError",.type "Exception",.type "BaseException",.type "object"] "ValueError.__new__" mg base
 kn:T.xs≠[]->∀T',(T.xs.contains T'||T' == "ShutError")=eU->∃D,mg (gC T')=eQ (.ref D)/\∀C a,i.xc C a->PySem.W.kitOne i.K (.ref a) (.ref D)=eQ (O.f8 C T')/\(O.f8 C T'=eU->PySem.W.exmOne i.K (.ref a) (.ref D)=eQ eU)
structure Held(pr:ç)(wd:ă)(mg:Str->Option Ã)(base:Ď)(i:Inf)(P:O.Pg)(T:Tb)(n:Nat):Prop where
 fs:∀f x,(f,x)∈T.fs->Dfo pr wd mg base i P n f
 ms:∀y a f,y∈T.ms->Mst i mg y a f->Dfm pr wd mg base i P n (y.C ++ "." ++ y.m) f
def fn_succ{x:Ds}{nm qual:Str}(M:Modu mg base i T)(hn:Held pr wd mg base i P T n)(F:Fun i.K nm qual x.st fa fd)(hP:P f=eQ x.d)(ht:x.Ok T):fH pr wd i.K mg base (CX1 pr wd) (2*(n+1)) fa fd x.ps<|spF i P (n+1) f:=by
 let⟨ht,heq⟩:=ht;simp![Ds.test,bAq,gz]at ht;let⟨⟨⟨⟨h1,h2⟩,h3⟩,h4⟩,h5⟩:=ht;have h3:=eq_of_beq h3;have h4:=eq_of_beq h4;have S:=Se h1;refine F.ok1 (k:=2*n+1) S (λvs H Q E h=>?_) λϱ A outer s H vs Q E hr hsp hw=>?_
 .obtain⟨args,G,Qm,Em,r,g,w,_⟩:=h;let⟨d,e,q,_⟩:=Ek w;rw[hP]at e;cases e;rw[<-r.length,q,h3]
 .obtain⟨args,G,Qm,Em,r,g,w,cn,ex⟩:=hsp;let⟨d,e,q,w⟩:=Ek w;rw[hP]at e;cases e;have gd:Gs (MU (CX1 pr wd) pr wd i.K mg base x.N qual (Zv x.st) fa ϱ A outer s H E) i P n (T.md x) :=
   { K:=rfl,N:=rfl,sc:=rfl,nd:=S.nd,un:=(by have:=hr.un;show(A.deeper _).units+200<Ģ;lia),calm:=λ_=>rfl,room:=λ_=>hr,bl:=M.bl
     dfs:=λg hg=>(by
       let⟨p,hy,e⟩:=Ô.mp<|Ċ.mp hg
       subst e
       exact hn.fs p.1 p.2 hy)
     cst:=M.cst
     kl:=⟨M.A,M.F,λC hC=>(by
       let⟨a,y,f,q1,q2,q3,q4,rfl,q6,q7⟩:=M.mkc C hC
       refine⟨a,f,q1,q2,q3,M.cl _ _ q2,?_⟩
       have:=hn.ms y a f q4 q7
       rw[q6]at this
       rwa [show y.C ++ ".__init__" = y.C ++ "." ++ "__init__" by rw[String.append_assoc];rfl]),λC m hC=>(by
       let⟨y,hy,e⟩:=Ô.mp<|Ċ.mp hC
       cases e
       let⟨a,f,q1,q2⟩:=M.ms y hy
       refine⟨a,f,λb hb=>?_,q2,q1.at_,hn.ms y a f hy q1⟩
       have e1:=M.cl _ _ hb
       rw[q1.cl]at e1
       cases e1
       rfl)⟩
     xl:=λh=>⟨M.xc h,M.rs h,M.kn h⟩
     fn:=λ_ _=>.inl rfl
     own:=λ_=>PassesOwn.leaving
     stk:=λ_=>rfl }
  have hb:=sSs x.d.body _ _ _ gd h2;rw[heq]at hb;refine⟨_,hb,?_⟩;refine⟨x.d.env args,G,(λ_ g=>Qm .non g),Qm,(λ_ _=>False),(λ_ _=>False),(λ_ c g=>Em c g),?_,w,?_⟩
  .refine⟨?_,g,?_⟩
   .have:=REn.start (n:=x.d.sz - x.d.ar) r;unfold L2.start;have e1:x.N.length - vs.length=x.d.sz - x.d.ar:=by rw[h4,<-r.length,q]
    rw[e1];exact this
   .intro Â σ H0 s0 H' a cls s' I fl hx;let⟨e,c,G',ad,q1,q2,q3,q4,q5⟩:=hx;exact hw Â σ H0 s0 H' a cls s' I fl<|ex _ _ _ ⟨c,G',ad,q1,q2,q3,q4,q5⟩
  .refine⟨?_,?_,?_,?_⟩
   .intro ũ ů G' H' k g' e w';exact cn .non G' H' .non k g' .non w'
   .intro v G' H' y k g' rv w';exact cn v G' H' y k g' rv w'
   .intro _ _ _ _ _ _ _ z;exact z.elim
   .intro _ _ _ _ _ _ _ z;exact z.elim
def held_all(M:Modu mg base i T)(hP:∀f x,(f,x)∈T.fs->P f=eQ x.d)(hPm:∀y,y∈T.ms->P (y.C ++ "." ++ y.m)=eQ y.x.d)(ht:∀f x,(f,x)∈T.fs->x.Ok T)(htm:∀y,y∈T.ms->y.x.Ok T):∀n,Held pr wd mg base i P T n:=by
 intro n;induction n with
 |zero =>
  refine⟨λf x h=>?_,λy a f hy S=>?_⟩
  .obtain⟨fa,fd,qual,F,hm,hb⟩:=M.fs f x h;exact⟨fa,fd,x.ps,AE,hm,F.kp,hb⟩
  .obtain⟨fd,F,hb⟩:=S.fn;exact⟨fd,y.x.ps,AE,hb⟩
 |succ n ih =>
  refine⟨λf x h=>?_,λy a f hy S=>?_⟩
  .obtain⟨fa,fd,qual,F,hm,hb⟩:=M.fs f x h;exact⟨fa,fd,x.ps,fn_succ M ih F (hP f x h)<|ht f x h,hm,F.kp,hb⟩
  .obtain⟨fd,F,hb⟩:=S.fn;exact⟨fd,y.x.ps,fn_succ M ih F (hPm y hy)<|htm y hy,hb⟩
end Snd
namespace Hd
open PySem PySem.W PyProof.Rows
abbrev W5(st:SharedT->Thread->Option (SharedT×Thread))(ok th:Thread->Bool):Nat->SharedT->Thread->Option SharedT
 |0,_,_=>eS
 |n+1,s,t=>match th t with
  |true=>eQ s
  |false=>match ok t with
   |false=>eS
   |true=>match st s t with
    |some (s',t')=>W5 st ok th n s' t'
    |none=>eS
def JQ:∀{n:Nat}{s s':SharedT}{t:Thread},W5 (stepT (denote tb) p w) (stepOk n₀ ann) through n s t=eQ s'->topRun tb p w n₀ ann n s.abs t=eQ s'.abs
 |0,_,_,_,h=>by cases h
 |n+1,s,s',t,h=>by
  unfold W5 at h;unfold topRun;cases ht:through t with
  |true=>rw[ht]at h;cases h;rfl
  |false =>
   rw[ht]at h;dsimp only at h ⊢;cases hk:stepOk n₀ ann t with
   |false=>rw[hk]at h;cases h
   |true =>
    rw[hk]at h;dsimp only at h ⊢;cases hs:stepT (denote tb) p w s t with
    |none=>rw[hs]at h;cases h
    |some r =>let⟨s2,t2⟩:=r;rw[hs]at h;rw[stepT_spec hs];exact JQ h
abbrev Kb(P:Params):BT :=
 .node (boot_o_0 P) (.node (boot_o_1 P) (.node (boot_o_3 P) (.node (boot_o_7 P) .nil .nil) .nil)<|.node (boot_o_5 P) (.node (boot_o_9 P) .nil .nil) .nil)
  (.node (boot_o_2 P) (.node (boot_o_4 P) (.node (boot_o_8 P) .nil .nil) .nil)<|.node (boot_o_6 P) (.node (boot_o_10 P) .nil .nil) .nil)
def DT(P:Params):absHeap (Kb P) 11 {}=boot_heap P:=by kernel_rfl
def Bu(P:Params):((boot_heap P).isNs mainGlobals&&(Array.mk []:Array GenState).size==0,(boot_heap P).objs.size,(boot_heap P).nsMap mainGlobals "__annotations__")=(eU,11,eQ<|.ref 6):=by
 rw[show @Heap.nsMap=_ from Fast.te8920871248978507458]
 kernel_rfl
abbrev HY:=Fast.tw10156331382660048174
abbrev Ao:=Fast.tw11892475500146522536
abbrev CM:=Fast.tw14364793385576792824
abbrev okY:=Fast.tw6613529449190102663
abbrev seenY:=Fast.tw4187177175401517315
abbrev modsY:=Fast.tw5923862056798008813
abbrev runY(p:Program)(N:Nat)(w:World)(os:OsState):Option SharedT:=W5 (HY (Ao CM) p w) (okY 11<|eQ<|.ref 6) through N ⟨Kb w.params,11,{},Array.mk [],boot_drawn,boot_toks,os⟩<|topStub p
abbrev stY(p:Program)(w:World)(s:SharedT):Bool:=staticsOk (modsY p.main.body) (boot_heap w.params) s.abs.heap&&namesBound p s.abs.heap&&gensDone s.abs&&laidKept (boot_heap w.params) s.abs.heap
def left_of{p q:Program}{loose:List Str}{Xt:Shared->Bool}{α:Type}{Yf:Shared->α}{Ya:World->α}{N:Nat}(e:opening p=plainProg p.main.scope.names)(hN:Nat.ble 600 N=eU)(f:∀s,fenceModules? p s=eQ s)
  (one:∀w os,(runY p N w os).map (stY p w)=eQ eU) (two:∀w os,(runY p N w os).map (λs=>seenY q loose (modsY p.main.body) Xt eU s.abs)=eQ (openGood q loose)) (three:∀w os,(runY p N w os).map (λs=>Yf s.abs)=eQ (Ya w)) :
  LeftO p q loose Xt Yf Ya N:=by
 intro w;let⟨⟨h,gs,d,k,os⟩,e1,e2⟩:=Í.mp<|boot_open e hN f w;obtain⟨rfl,rfl,rfl,rfl⟩:h=boot_heap w.params/\gs=Array.mk []/\d=boot_drawn/\k=boot_toks:=⇑e2
 let⟨s,r,l1⟩:=Í.mp<|one w os;let⟨s',r',l2⟩:=Í.mp<|two w os;cases r.symm.trans r';let⟨s',r',l3⟩:=Í.mp<|three w os;cases r.symm.trans r';obtain⟨z1,z2,z3⟩:_/\_/\_:=by simpa only[Λ]using Bu w.params
 unfold stY at l1;unfold runY HY Ao CM okY at r;rw[<-Fast.te10156331382660048174,<-Fast.te11892475500146522536,<-Fast.te14364793385576792824,<-Fast.te6613529449190102663]at r;unfold modsY at l1 l2;unfold seenY at l2;rw[<-Fast.te5923862056798008813]at l1 l2;rw[<-Fast.te4187177175401517315]at l2;have r2:=JQ r;have ea:(SharedT.mk (Kb w.params) 11 {} (Array.mk []) boot_drawn boot_toks os).abs=⟨boot_heap w.params,Array.mk [],boot_drawn,boot_toks,os⟩:=by show Shared.mk (absHeap _ _ _) _ _ _ _=_;rw[DT]
 rw[ea]at r2;have t:topFrom treeTable p w N ⟨boot_heap w.params,Array.mk [],boot_drawn,boot_toks,os⟩=eQ s.abs:=by unfold topFrom;dsimp only;rw[z1,z2,z3,r2];show(match staticsOk (importedModules p.main.body) (boot_heap w.params) s.abs.heap&&namesBound p s.abs.heap&&gensDone s.abs&&laidKept (boot_heap w.params) s.abs.heap with|true=>_|false=>_)=_;rw[l1]
 unfold openEnds;rw[e1];show(topFrom treeTable p w N _).map _=_;rw[t];exact congrArg eQ<|Prod.ext l2 l3
end Hd
namespace Hd
open PySem PySem.W PyProof.Rows L2
abbrev Mz:Nat->List Obj->Frag
 |_,[]=>[]
 |i,o::r=>match o with
  |⟨_,_,.freed,_⟩=>Mz (i+1) r
  |o=>(i,o)::Mz (i+1) r
abbrev ZB(g:Heap):Frag:=Mz 0 g.objs.toList
def Oq:∀(l:List Obj) (i a:Nat) (o:Obj),(Mz i l).lookup a=eQ o->i<=a/\l[a - i]?=eQ o/\(match eQ o with|some ⟨_,_,.freed,_⟩=>eS|o=>o)=eQ o
 |[],_,_,_,h=>by cases h
 |x::r,i,a,o,h=>by
  have rec1:(Mz (i+1) r).lookup a=eQ o->i<=a/\(x::r)[a - i]?=eQ o/\(match eQ o with|some ⟨_,_,.freed,_⟩=>eS|o=>o)=eQ o:=λq=>by let⟨h1,h2,h3⟩:=Oq r (i+1) a o q;refine⟨by lia,?_,h3⟩;rw[show a - i=(a - (i+1))+1 by lia,b4];exact h2
  unfold Mz at h;split at h
  .exact rec1 h
  .rename_i c Ş;rw[Ú]at h;split at h
   .rename_i e;cases h;have e:=eq_of_beq e;subst e;refine⟨Ï _,by rw[Nat.sub_self];rfl,?_⟩;split
    .rename_i d1 d2 d3 d4;cases d4;exact(Ş _ _ _ rfl).elim
    .rfl
   .exact rec1 h
def Uo(h:(ZB g).lookup a=eQ o):g.get? a=eQ o:=by let⟨_,h2,h3⟩:=Oq _ _ _ _ h;unfold Heap.get?;rw[Nat.sub_zero,Ĉ]at h2;rw[h2];exact h3
abbrev CS(K:Frag)(nm:Str):Option<|FuncData×Bool×Bool:=match nsIn K mainGlobals nm with
 |some (eQ<|.ref f)=>match K.lookup f with
  |some ⟨_,_,.func fd,_⟩=>eQ ({fd with kwdefaults:=.none,doc:=.none,pyModule:=.none,annotations:=eS,code:=.none,closureTuple:=.none},codeIn K fd.code fd.qualname,keepIn K<|.ref f)
  |_=>eS
 |_=>eS
abbrev Ep(nm:Str)(st:Stmt):Option<|FuncData×Bool×Bool:=eQ (fnOf nm nm (YN st) (ZQ st) (Zv st) .none .none .none .none eS .none .none,eU,eU)
def Lj{K:Frag}{st:Stmt}(e:CS K nm=Ep nm st):∃fa fd,Fun K nm nm st fa fd/\nsIn K mainGlobals nm=eQ (eQ<|.ref fa):=by
 unfold CS at e;split at e
 .rename_i f hf;split at e
  .rename_i oc od fd sl hl;simp![Ep,ı,Λ]at e;let⟨e1,e2,e3⟩:=e;let⟨n1,n2,n3,n4,n5,n6,n7,n8,n9,n10,n11,n12,n13,n14,n15⟩:=fd;simp![fnOf,FuncData.mk.injEq]at e1;obtain⟨rfl,rfl,rfl,rfl,rfl,rfl,rfl,rfl,-,-,-,-,-,-,rfl⟩:=e1;exact⟨f,_,Dh hl e2 e3,hf⟩
  .cases e
 .cases e
abbrev Iy(K:Frag)(y:Str):Bool:=match nsIn K mainGlobals y with
 |some eS=>eU
 |_=>eV
def Gc{l:OpenLaw}{n k:Nat}{q:Program}{loose:List Str}{XP:(Str->Option Value)->Heap->Prop}{YP:World->Heap->Prop}{d:DefRec}{CX:World->CXT}{x:Str}
  (hn:l.most=eQ n) (hn2:n<=sizeLine) (hdf:d.params.defaults=[]) (hr:fG k callerA)
  (F:∀(w:World) (mg:Str->Option Value) (fa:Addr) (h:Heap),YP w h->h.Ns mainGlobals mg->mg d.name=eQ (.ref fa)->∃(K:Frag) (sp:Sp),K.In h/\
    (∃fd:FuncData,(∀(s:Shared) (u:Value),BindsTo s fd ⟨[u],[]⟩ [(x,u)])/\∀base:Heap,K.In base->base.Ns mainGlobals mg->fH l.prog w K mg base (CX w) k fa fd [x] sp)/\
    ∀(H:Hp) (a:Addr) (ns:List Int),ns.length<=n->L6 H->f9 K H a (ns.map V.int)->sp [.ref a] H (λv _=>v=.bl eU) λ_ _ _=>False)
  (hCX:∀(w:World) (H:Hp) (s:Shared) (e:Value) (s':Shared),CX w [] H s (λ_ _ _=>False) e s'->False) :
  WalkO q loose XP YP l.row.toRowW d [] (λf vs=>PySem.call f vs):=by
 refine Att.attach_call hn hdf λw s₀ ħ mg mb fa o pm cd doc a vs ns G Y ho hd aP hmg dz hints hlen hg=>?_;let⟨K,sp,KX,⟨fd,hb,hF⟩,hsp⟩:=F w mg fa _ Y G.T.g hmg;exact D4 KX G.T.g G.T.b G.T.builtins G.T.nolimit hg dz hints (Ö hlen hn2) hr hF hb (λH hO hS=>hsp H a ns hlen hO hS) λH e s'=>hCX w H ħ e s'
abbrev Hx(f:Value->O.Val->Bool):List Value->List O.Val->Bool
 |[],[]=>eU
 |u::us,x::xs=>f u x&&Hx f us xs
 |_,_=>eV
abbrev IA(K:Frag):Value->Option (List Value)
 |.ref a=>match K.lookup a with
  |some ⟨.type n,_,.seq us _,_⟩=>if n == "tuple" && gB (us.size<=sizeLine)then eQ us.toList else eS
  |_=>eS
 |_=>eS
abbrev Gq(K:Frag):Nat->Value->O.Val->Bool
 |0,_,_=>eV
 |n+1,u,v=>match v with
  |.non=>(match u with|.none=>eU|_=>eV)
  |.bl b=>(match u with|.bool a=>a==b|_=>eV)
  |.int j=>(match u with|.int i _=>i==j|_=>eV)
  |.str t=>(match u with|.str s _=>Fast.sEq s (gC t)|_=>eV)
  |.tup xs=>(match IA K u with|some us=>Hx (Gq K n) us xs|none=>eV)
  |_=>eV
def CA{K:Frag}(hf:∀u v,f u v=eU->∃z,RelV z u/\∀H,Snd.RV K H v z):∀(us:List Value) (xs:List O.Val),Hx f us xs=eU->∃zs,gf zs us/\∀H,Snd.RVs K H xs zs
 |[],[],_=>⟨[],.nil,λ_=>.nil⟩
 |u::us,x::xs,h=>by rw[Hx,bAq]at h;let⟨z,r,q⟩:=hf u x h.1;let⟨zs,rs,qs⟩:=CA hf us xs h.2;exact⟨z::zs,.cons r rs,λH=>.cons (q H)<|qs H⟩
 |[],_::_,h=>by cases h
 |_::_,[],h=>by cases h
def DF{K:Frag}:∀(n:Nat) (u:Value) (v:O.Val),Gq K n u v=eU->∃z,RelV z u/\∀H,Snd.RV K H v z
 |0,_,_,h=>by cases h
 |n+1,u,v,h=>by
  unfold Gq at h;cases v with
  |non =>
   dsimp only at h;split at h
   .exact⟨.non,rfl,λ_=>.non⟩
   .cases h
  |bl b =>
   dsimp only at h;split at h
   .cases eq_of_beq h;exact⟨.bl b,rfl,λ_=>.bl b⟩
   .cases h
  |int j =>
   dsimp only at h;split at h
   .cases eq_of_beq h;exact⟨.int j,⟨_,rfl⟩,λ_=>.int j⟩
   .cases h
  |str t =>
   dsimp only at h;split at h
   .cases Fast.sEq_iff.mp h;exact⟨.str<|gC t,⟨_,rfl⟩,λ_=>.str t⟩
   .cases h
  |tup xs =>
   dsimp only at h;split at h
   .rename_i us hu;let⟨zs,rs,qs⟩:=CA (λu v=>DF n u v) us xs h;unfold IA at hu;split at hu
    .rename_i a;split at hu
     .rename_i nm od ø k sl hl;split at hu
      .rename_i hc;rw[bAq,gz]at hc;cases eq_of_beq hc.1;cases hu;exact⟨.ref a,rfl,λH=>.tup (.inr ⟨_,ø,k,hl,rfl,rfl,hc.2,rs⟩)<|qs H⟩
      .cases hu
     .cases hu
    .cases hu
   .cases h
  |ref a=>cases h
  |scr ns=>cases h
  |key i j=>cases h
abbrev Ew(K:Frag)(p:String×O.Val):Bool:=match nsIn K mainGlobals (gC p.1)with
 |some (eQ u)=>Gq K 4 u p.2
 |_=>eV
def Kn{α β:Type}[BEq α][LawfulBEq α]{a:α}{b:β}:∀{l:List (α×β)},l.lookup a=eQ b->(a,b)∈l
 |[],h=>by cases h
 |(x,y)::r,h=>by
  rw[Ú]at h;split at h
  .rename_i e;cases h;cases eq_of_beq e;exact .head _
  .exact .tail _<|Kn h
def Lz{K:Frag}{id:String}(X:K.In h)(hm:mg x=eQ (.ref C))(q:excIn K C bmB id=eU):PyProof.Rows.OwnCls x C bmB id mg h:=by
 constructor
 .exact hm
 have z:=q;unfold excIn at z;split at z
 next dd cd sl ho =>
  split at z
  next C1 bm k0 k1 k2 k3 n k5 em es =>
   rw[bAq,bAq,bAq,bAq,bAq]at z;let⟨⟨⟨⟨⟨z1,z2⟩,z3⟩,z4⟩,z5⟩,z6⟩:=z;have z1:=eq_of_beq z1;have z2:=eq_of_beq z2;have z6:=eq_of_beq z6;subst z1 z2;have z3b:cd.hasDel=eV:=by
    cases e:cd.hasDel with
    |false=>rfl
    |true=>rw[e]at z3;cases z3
   have es':sl=#[k0,k1,k2,k3,eQ<|.builtin n,k5]:=ez.mp es;have nN:=nsMap_none_of_in X z5 z6;have nI:=Heap.Ns.of_isNs<|isNs_of_in X z5;have tI:=tail_of_in X z4;cases cd;dsimp only at em z3b nN nI;subst em z3b es';exact⟨bm,_,_,_,_,_,_,_,_,_,dd,k0,k1,k2,k3,k5,_,X _ _ ho,nI,nN,tI⟩
  next=>cases z
 next=>cases z
abbrev LF(K:Frag)(f:Addr):Option<|FuncData×Bool×Bool:=match K.lookup f with
 |some ⟨_,_,.func fd,_⟩=>eQ ({fd with kwdefaults:=.none,doc:=.none,pyModule:=.none,annotations:=eS,code:=.none,closureTuple:=.none},codeIn K fd.code fd.qualname,keepIn K<|.ref f)
 |_=>eS
abbrev O1(nm qual:Str)(st:Stmt):Option<|FuncData×Bool×Bool:=eQ (fnOf nm qual (YN st) (ZQ st) (Zv st) .none .none .none .none eS .none .none,eU,eU)
def Le{K:Frag}{st:Stmt}(e:LF K f=O1 nm qual st):∃fd,Fun K nm qual st f fd:=by
 unfold LF at e;split at e
 .rename_i oc od fd sl hl;simp![O1,ı,Λ]at e;let⟨e1,e2,e3⟩:=e;let⟨n1,n2,n3,n4,n5,n6,n7,n8,n9,n10,n11,n12,n13,n14,n15⟩:=fd;simp![fnOf,FuncData.mk.injEq]at e1;obtain⟨rfl,rfl,rfl,rfl,rfl,rfl,rfl,rfl,-,-,-,-,-,-,rfl⟩:=e1;exact⟨_,Dh hl e2 e3⟩
 .cases e
abbrev Kk(K:Frag)(C:String):Option Addr:=match nsIn K mainGlobals (gC C)with
 |some (eQ<|.ref a)=>eQ a
 |_=>eS
variable {C:String}{a:Addr}
def Jl{K:Frag}(h:Kk K C=eQ a):nsIn K mainGlobals (gC C)=eQ (eQ<|.ref a):=by
 unfold Kk at h;split at h
 .cases h;assumption
 .cases h
structure CV where
 pg:Bool
 hd:Bool
 po:Bool
 sa:Option<|Option Value
abbrev GA(K:Frag)(a:Addr):CV:=⟨plainGet K a Str.empty,hasDictIn K a,plainOver K a,findIn K (.ref a) "__setattr__"⟩
abbrev UP:CV:=⟨eU,eU,eU,eQ<|eQ<|.builtin "object.__setattr__"⟩
def Fe{K:Frag}(h:GA K a=UP):Cls K a:=by simp![GA,UP,CV.mk.injEq]at h;exact⟨h.1,h.2.1,h.2.2.1,h.2.2.2⟩
structure MV where
 fn:Option<|FuncData×Bool×Bool
 isf:Bool
 cv:CV
abbrev B8(K:Frag)(y:Snd.Mt):Option MV:=match Kk K y.C with
 |some a=>match findIn K (.ref a) (gC y.m)with
  |some (eQ<|.ref f)=>eQ ⟨LF K f,isFn K<|.ref f,GA K a⟩
  |_=>eS
 |none=>eS
abbrev Cq(y:Snd.Mt):Option MV:=eQ ⟨O1 (gC y.m) (gC y.qual) y.x.st,eU,UP⟩
def Rz{K:Frag}(e:B8 K y=Cq y):∃a f fd,nsIn K mainGlobals (gC y.C)=eQ (eQ<|.ref a)/\Fun K (gC y.m) (gC y.qual) y.x.st f fd/\Meth K a (gC y.m) f/\Cls K a:=by
 unfold B8 at e;split at e
 .rename_i a ha;split at e
  .rename_i f hf;simp![Cq,ı,MV.mk.injEq]at e;let⟨e1,e2,e3⟩:=e;let⟨fd,F⟩:=Le e1;exact⟨a,f,fd,Jl ha,F,⟨hf,e2,F.kp⟩,Fe e3⟩
  .cases e
 .cases e
structure QV where
 mks:Bool
 kp:Bool
 cv:CV
 fl:List<|Option<|Option Value
 ic:Option (Option Value)×Option (Option Value)×Option Bool×Option Bool
abbrev CC(K:Frag)(fl:List String)(C:String):Option QV:=match Kk K C with
 |some a=>eQ ⟨makesIn K a,keepIn K<|.ref a,GA K a,fl.map λf=>findIn K (.ref a)<|gC f,(findIn K (.ref a) "__class__",specialIn K (.builtin "object.__class__") "__get__",takesIn K<|.builtin "object.__class__",mroIn K a<|.type "object")⟩
 |none=>eS
abbrev Et(fl:List String):Option QV:=eQ ⟨eU,eU,UP,fl.map λ_=>eQ eS,(eQ<|eQ<|.builtin "object.__class__",eQ<|eQ<|.builtin "getset_descriptor.__get__",eQ eU,eQ eU)⟩
def Il{K:Frag}(e:CC K fl C=Et fl):∃a,nsIn K mainGlobals (gC C)=eQ (eQ<|.ref a)/\makesIn K a=eU/\keepIn K (.ref a)=eU/\Cls K a/\(∀f∈fl,NoAttr K a<|gC f)/\Snd.IC K a:=by
 unfold CC at e;split at e
 .rename_i a ha;simp![Et,ı,QV.mk.injEq,Λ]at e;let⟨e1,e2,e3,e4,e5,e6,e7,e8⟩:=e;exact⟨a,Jl ha,e1,e2,Fe e3,λf hf=>ĩ.mp e4 f hf,⟨e5,e6,e7,e8⟩⟩
 .cases e
structure XV where
 ex:Bool
 f1:Option<|Option Value
 f2:Option<|Option Value
 f3:Option<|Option Value
 m1:Option Bool
 m2:Option Bool
 ci:Bool
 ve:Option Bool
 ks:List<|Option<|Option Bool×Option Bool
abbrev DN(K:Frag)(xs:List String)(C:String):Option XV:=match Kk K C with
 |some a=>eQ ⟨excIn K a [.type "ValueError",.type "Exception",.type "BaseException",.type "object"] "ValueError.__new__",findIn K (.ref a) "__getattribute__",findIn K (.ref a) "__getattr__",findIn K (.ref a) "__class__",mroIn K a<|.type "object",mroIn K a<|.type "BaseException",(clsIn K a).isSome,kitOne K (.ref a)<|.type "ValueError",("ShutError" :: xs).map λT=>(Kk K T).map λD=>(kitOne K (.ref a)<|.ref D,exmOne K (.ref a)<|.ref D)⟩
 |none=>eS
abbrev Cu(xs:List String)(C:String):Option XV:=eQ ⟨eU,eQ<|eQ<|.builtin "BaseException.__getattribute__",eQ eS,eQ<|eQ<|.builtin "object.__class__",eQ eU,eQ eU,eU,eQ eU,("ShutError" :: xs).map λT=>eQ (eQ<|O.f8 C T,eQ<|O.f8 C T)⟩
def Dg{K:Frag}(e:DN K xs C=Cu xs C):∃a,nsIn K mainGlobals (gC C)=eQ (eQ<|.ref a)/\excIn K a [.type "ValueError",.type "Exception",.type "BaseException",.type "object"] "ValueError.__new__" = eU/\XCls K a/\kitOne K (.ref a) (.type "ValueError")=eQ eU/\
  ∀T∈"ShutError" :: xs,∃D,nsIn K mainGlobals (gC T)=eQ (eQ<|.ref D)/\kitOne K (.ref a) (.ref D)=eQ (O.f8 C T)/\exmOne K (.ref a) (.ref D)=eQ (O.f8 C T):=by
 unfold DN at e;split at e
 .rename_i a ha;simp![Cu,ı,XV.mk.injEq]at e;let⟨e1,e2,e3,e4,e5,e6,e7,e8,e9⟩:=e;refine⟨a,Jl ha,e1,⟨e2,e3,e4,e5,e6,e7⟩,e8,λT hT=>?_⟩;have:=ĩ.mp e9 T hT;cases z:Kk K T with
  |none=>rw[z]at this;cases this
  |some D =>rw[z]at this;simp![Ę,ı,Λ]at this;exact⟨D,Jl z,this.1,this.2⟩
 .cases e
structure View where
 fs:List<|Option<|FuncData×Bool×Bool
 ms:List<|Option MV
 cl:List<|Option QV
 xs:List<|Option XV
 ok:Bool
abbrev view(T:Snd.Tb)(K:Frag):View:=⟨T.fs.map λp=>CS K<|gC p.1,T.ms.map<|B8 K,T.cl.map<|CC K T.fl,T.xs.map<|DN K T.xs,T.cs.all (Ew K)&&Snd.blts.all (Iy K)⟩
abbrev due(T:Snd.Tb):View:=⟨T.fs.map λp=>Ep (gC p.1) p.2.st,T.ms.map Cq,T.cl.map λ_=>Et T.fl,T.xs.map<|Cu T.xs,eU⟩
abbrev hook(T:Snd.Tb):Hook where
 α:=View
 obs:=λs=>view T<|ZB s.heap
 val:=λ_=>due T
 says:=λ_ h=>∃g:Heap,view T (ZB g)=due T/\∀b o,g.get? b=eQ o->h.get? b=eQ o
 of:=λ_ s e=>⟨s.heap,e,λ_ _ x=>x⟩
 keeps:=λ_ _ _ ⟨g,e,k⟩ k2=>⟨g,e,λb o x=>k2 b o<|k b o x⟩
abbrev Bd(nm qual:Str)(x:Snd.Ds):Prop:=∀(kV doc pm:Value) (an:Option Addr) (ϱ ct:Value) (us:List Value),us.length=x.ps.length->bindArgs (fnOf nm qual (YN x.st) (ZQ x.st) (Zv x.st) .none kV doc pm an ϱ ct) ⟨us,[]⟩=pure (x.ps.zip us)
abbrev FP(T:Snd.Tb):Bool:=T.cl.all λC=>T.ms.any λy=>y.C==C&&y.m == "__init__"
def law_walk{l:OpenLaw}{q:Program}{loose:List Str}{XP:(Str->Option Value)->Heap->Prop}{d:DefRec}{T:Snd.Tb}{pg:O.Pg}{k:Nat}{xl:Snd.Ds}
  (hn:l.most=eQ 63) (hdf:d.params.defaults=[]) (hdn:d.name=gC "law") (hr:fG (2*(k+1)) callerA) (hlaw:("law",xl)∈T.fs) (hps:xl.ps=[gC "script"]) (hin:FP T=eU)
  (tab_pg:∀f x,(f,x)∈T.fs->pg f=eQ x.d) (tab_pm:∀y,y∈T.ms->pg (y.C ++ "." ++ y.m)=eQ y.x.d) (tab_ok:∀f x,(f,x)∈T.fs->x.Ok T) (tab_om:∀y,y∈T.ms->y.x.Ok T)
  (tab_bd:∀f x,(f,x)∈T.fs->Bd (gC f) (gC f) x) (tab_bm:∀y,y∈T.ms->Bd (gC y.m) (gC y.qual) y.x)
  (ok:∀ns:List Int,ns.length<=63->O.wF pg (k+1) "law" [.scr ns] (λ_=>eS) (λv _=>v=.bl eU) λ_ _=>False) :
  WalkO q loose XP (hook T).says l.row.toRowW d [] (λf vs=>PySem.call f vs):=by
 refine Gc (n:=63) (k:=2*(k+1)) (x:=gC "script") (CX:=λw=>CX1 l.prog w) hn ↥1 hdf hr (λw mg fa h Y G hmg=>?_) λ_ _ _ _ _ ⟨_,_,_,_,_,z⟩=>z;let⟨g,e,keep⟩:=Y;have X:(ZB g).In h:=λa o z=>keep a o<|Uo z;simp![view,due,View.mk.injEq]at e;let⟨e1,e3,e4,e5,e2⟩:=e;rw[bAq,ÿ,ÿ]at e2
 let i:Snd.Inf:=⟨ZB g,λC a=>T.cl.contains C=eU/\mg (gC C)=eQ (.ref a),λC=>T.cl.contains C,λC a=>T.xs.contains C=eU/\mg (gC C)=eQ (.ref a)⟩
 have hF:∀f x,(f,x)∈T.fs->∃fa fd,Fun (ZB g) (gC f) (gC f) x.st fa fd/\mg (gC f)=eQ (.ref fa):=λf x hx=>by let⟨fa,fd,F,z⟩:=Lj<|ĩ.mp e1 (f,x) hx;exact⟨fa,fd,F,mg_of X G z⟩
 have aG:∀C a,i.cl C a->makesIn (ZB g) a=eU/\keepIn (ZB g) (.ref a)=eU/\Cls (ZB g) a/\(∀f∈T.fl,NoAttr (ZB g) a<|gC f)/\Snd.IC (ZB g) a:=λC a ⟨hc,hm⟩=>by let⟨b,z,q⟩:=Il<|ĩ.mp e4 C<|Ċ.mp hc;have:=mg_of X G z;rw[hm]at this;cases this;exact q
 have hms:∀y,y∈T.ms->∃a f,Snd.Mst i mg y a f/\Cls i.K a:=λy hy=>by let⟨a,f,fd,z,F,M,A⟩:=Rz<|ĩ.mp e3 y hy;exact⟨a,f,⟨mg_of X G z,⟨fd,F,F.binds<|tab_bm y hy⟩,M⟩,A⟩
 have hxc:∀C a,i.xc C a->excIn (ZB g) a [.type "ValueError",.type "Exception",.type "BaseException",.type "object"] "ValueError.__new__" = eU/\XCls (ZB g) a/\kitOne (ZB g) (.ref a) (.type "ValueError")=eQ eU/\
   ∀T'∈"ShutError" :: T.xs,∃D,nsIn (ZB g) mainGlobals (gC T')=eQ (eQ<|.ref D)/\kitOne (ZB g) (.ref a) (.ref D)=eQ (O.f8 C T')/\exmOne (ZB g) (.ref a) (.ref D)=eQ (O.f8 C T'):=λC a ⟨hc,hm⟩=>by
  let⟨b,z,q⟩:=Dg<|ĩ.mp e5 C<|Ċ.mp hc;have:=mg_of X G z;rw[hm]at this;cases this;exact q
 have mod:∀base:Heap,(ZB g).In base->Snd.Modu mg base i T:=λbase Xb =>
  { bl:=λy hy=>by
      have:=e2.2 y hy
      unfold Iy at this
      split at this
      . rename_i z;exact mg_none_of X G z
      . cases this
    cst:=λy v hv=>by
      have:=e2.1 _<|Kn hv
      unfold Ew at this
      split at this
      . rename_i u z
        let⟨x,r,rv⟩:=DF 4 u v this
        exact⟨u,x,mg_of X G z,r,rv⟩
      . cases this
    A:=⟨λC a _ z=>(aG C a z).2.2.1,λC a z=>(aG C a z).2.2.2.2,λC a b z y=>by have:=z.2.symm.trans y.2;cases this;rfl⟩
    F:=λf hf=>⟨λC a z=>(aG C a z).2.2.2.1 f<|Ċ.mp hf⟩
    cl:=λC a z=>z.2
    mkc:=λC hC=>by
      let⟨a,z,_⟩:=Il<|ĩ.mp e4 C<|Ċ.mp hC
      have hi:i.cl C a:=⟨hC,mg_of X G z⟩
      let⟨y,hy,e⟩:=Ż.mp<|ÿ.mp hin C<|Ċ.mp hC
      rw[bAq]at e
      let⟨b,f,S,A⟩:=hms y hy
      have h1:=eq_of_beq e.1
      have h2:=eq_of_beq e.2
      have hb:=S.cl
      rw[h1,hi.2]at hb
      cases hb
      refine⟨a,y,f,hC,hi,⟨(aG C a hi).1,?_,S.at_.fn,(aG C a hi).2.1⟩,hy,h1,h2,S⟩
      have:=S.at_.at_
      rw[h2]at this
      exact this
    fs:=λf x hx=>by
      let⟨fa,fd,F,m⟩:=hF f x hx
      exact⟨fa,fd,_,F,m,F.binds<|tab_bd f x hx⟩
    ms:=hms
    xc:=λ_ C a z=>⟨(hxc C a z).2.1,(hxc C a z).2.2.1⟩
    rs:=λ_ C hC=>by
      let⟨a,z,q1,_⟩:=Dg<|ĩ.mp e5 C<|Ċ.mp hC
      exact⟨a,⟨hC,mg_of X G z⟩,Lz Xb (mg_of X G z) q1⟩
    kn:=λŞ T' hT=>by
      have hT2:T'∈"ShutError" :: T.xs:=by
        rcases (Bool.or_eq_true ..).mp hT with z|z
        . exact .tail _<|Ċ.mp z
        . cases eq_of_beq z;exact .head _
      let⟨C0,hC0⟩:=List.exists_mem_of_ne_nil _ Ş
      let⟨a0,z0,_,_,_,q0⟩:=Dg<|ĩ.mp e5 C0 hC0
      let⟨D,zD,_⟩:=q0 T' hT2
      refine⟨D,mg_of X G zD,λC a z=>?_⟩
      let⟨D2,z2,k1,k2⟩:=(hxc C a z).2.2.2 T' hT2
      rw[zD]at z2
      cases z2
      exact⟨k1,λe=>by rw[k2,e]⟩ }
 let⟨fl,fd,F,m⟩:=hF "law" xl hlaw;have ef:=hmg.symm.trans<|hdn▸m;cases ef;refine⟨ZB g,Snd.spF i pg (k+1) "law",X,⟨fd,λs u=>?_,λbase Xb _=>?_⟩,λH a ns hl hO hS=>?_⟩
 .have B:=F.ex;let⟨oc,od,kV,dc,pm,an,ϱ,ct,sl,rfl,lk,aP⟩:=B;have:=tab_bd "law" xl hlaw kV dc pm an ϱ ct [u] (by rw[hps];rfl);rw[hps]at this;exact .of_eq this
 .have M:=mod base Xb;have:=Snd.fn_succ (i:=i) (pr:=l.prog) (wd:=w) (base:=base) (mg:=mg) (P:=pg) (n:=k) M (Snd.held_all M tab_pg tab_pm tab_ok tab_om k) F (tab_pg "law" xl hlaw)<|tab_ok "law" xl hlaw;rw[hps]at this;exact this
 .refine⟨[.scr ns],λ_=>eS,λv _=>v=.bl eU,λ_ _=>False,.cons (.scr ?_) .nil,λ_ _ e=>(by cases e),ok ns hl,?_,?_⟩
  .rcases hS with(h|⟨o,h⟩)|h
   .rcases hO a with z|⟨o,xs,z⟩
    .rw[h]at z;cases z
    .rw[h]at z;cases z
   .exact .inl ⟨o,h⟩
   .exact .inr h
  .intro v G' H' x _ _ r e;subst e;exact r.bl_inv
  .rintro cls d H' ⟨_,_,_,_,_,_,_,z⟩;exact z
end Hd
set_option maxRecDepth 20000
set_option maxHeartbeats 2000000
namespace O
local macro_rules|`(#[$x])=>`(.cons $x .nil)|`(#[$x,$y,*])=>`(.cons $x #[$y,*])
@[reducible] noncomputable def B0(P:Pg)(n:Nat)(d:Fn)(e:Env)(h:Hs)(Q:Q1)(X:XQ):Prop:=wSs (wF P n) d.body e h (λ_ g=>Q .non g) Q (λ_ _=>False) (λ_ _=>False) λ_ c g=>X c g
variable {n:Nat}{a0 a1 a2 a3 a4 a5 a6 a7:Val}{h:Hs}
local macro_rules|`(↑$n:num)=>`(.cst (.int $n))
local macro_rules|`(⇑$n:num)=>`(.var $n)
instance VH:Fn:={ar:=1,sz:=1,body:=#[.ret<|.and (.bi (.isi ["int"]) #[⇑0])<|.not<|.bi (.isi ["bool"]) #[⇑0]]}
instance Va:Fn:={ar:=2,sz:=5,body:=#[.set (.one 2)<|.lst .nil,.for (.many [3,4]) (.enum<|.idx ⇑0 ↑1) #[.ite (.val<|.cmp .isin ⇑1<|.slc ⇑4 .none<|.some ↑2) #[.expr<|.bm .append ⇑2 #[.tup #[⇑3,.call "far_end" #[⇑4,⇑1],.idx ⇑4 ↑2]]] .nil],.ret ⇑2]}
instance VG:Fn:={ar:=2,sz:=2,body:=#[.ret<|.ife (.val<|.cmp .eq (.idx ⇑0 ↑0) ⇑1) (.idx ⇑0 ↑1)<|.idx ⇑0 ↑0]}
instance Vb:Fn:={ar:=2,sz:=2,body:=#[.ret<|.cmp .gt (.idx ⇑0<|.glob "NUMBER"<|.int 0)<|.idx ⇑1<|.glob "NUMBER"<|.int 0]}
instance VF:Fn:={ar:=2,sz:=3,body:=#[.set (.one 2)<|.comp [0] 1 (.one 0) (.seq ⇑1) (.val<|.cmp .lt (.idx ⇑0 ↑0) ⇑1) ⇑0,.ret<|.bi .minD #[⇑2]]}
instance TM:Fn:={ar:=5,sz:=8,body:=#[.setFld ⇑0 "number" ⇑1,.setFld ⇑0 "life" ⇑2,.setFld ⇑0 "age_let_go" ⇑4,.setFld ⇑0 "ties_by_place"<|.dct .nil,.for (.many [5,6,7]) (.seq ⇑3) #[.setIdx (.fld ⇑0 "ties_by_place") ⇑5<|.tup #[⇑6,⇑7]],.setFld ⇑0 "held_by_place"<|.dct .nil,.setFld ⇑0 "label_now"<|.tup #[⇑1,↑0,.cst .non,.cst .non],.setFld ⇑0 "version" ↑0,.setFld ⇑0 "ticks_had" ↑0]}
instance TQ:Fn:={ar:=1,sz:=1,body:=#[.ret<|.fld ⇑0 "label_now"]}
instance T3:Fn:={ar:=1,sz:=1,body:=#[.ret<|.tup #[.fld ⇑0 "life",.fld ⇑0 "version"]]}
instance TW:Fn:={ar:=2,sz:=2,body:=#[.ret<|.bm .dget (.fld ⇑0 "held_by_place") #[⇑1]]}
instance T6:Fn:={ar:=4,sz:=4,body:=#[.ite (.val<|.cmp .notin ⇑1<|.fld ⇑0 "ties_by_place") #[.setIdx (.fld ⇑0 "ties_by_place") ⇑1<|.tup #[⇑2,⇑3]] .nil]}
instance TZ:Fn:={ar:=2,sz:=2,body:=#[.expr<|.bm .dpopD (.fld ⇑0 "ties_by_place") #[⇑1,.cst .non],.expr<|.bm .dpopD (.fld ⇑0 "held_by_place") #[⇑1,.cst .non]]}
instance TX:Fn:={ar:=3,sz:=4,body:=#[.ite (.val<|.cmp .notin ⇑1<|.fld ⇑0 "ties_by_place") #[.retN] .nil,.set (.one 3)<|.meth "Bridge" "held" ⇑0 #[⇑1],.ite (.or (.val<|.cmp .is ⇑3<|.cst .non)<|.val<|.call "newer" #[⇑2,.idx ⇑3 ↑0]) #[.setIdx (.fld ⇑0 "held_by_place") ⇑1<|.tup #[⇑2,.idx ⇑2<|.glob "AGE"<|.int 4]] .nil]}
instance T5:Fn:={ar:=1,sz:=2,body:=#[.expr<|.meth "Bridge" "let_grow_older" ⇑0 .nil,.expr<|.meth "Bridge" "take_label" ⇑0 #[.meth "Bridge" "reckon_label" ⇑0 .nil],.set (.one 1)<|.comp [0] 1 (.one 0) (.seq<|.bi .sortedI #[.fld ⇑0 "ties_by_place"]) .yes<|.tup #[⇑0,.meth "Bridge" "letter_over" ⇑1 #[⇑0]],.augFld ⇑0 "ticks_had" .add 1,.ret ⇑1]}
instance TR:Fn:={ar:=1,sz:=4,body:=#[.set (.one 1)<|.dct .nil,.forI eV (.many [2,3]) (.fld ⇑0 "held_by_place") #[.ite (.val<|.cmp .lt (.bin .add (.idx ⇑3 ↑1) ↑1)<|.fld ⇑0 "age_let_go") #[.setIdx ⇑1 ⇑2<|.tup #[.idx ⇑3 ↑0,.bin .add (.idx ⇑3 ↑1) ↑1]] .nil],.setFld ⇑0 "held_by_place" ⇑1]}
instance T1:Fn:={ar:=1,sz:=8,body:=#[.set (.one 1)<|.lst .nil,.forI eV (.many [2,3]) (.fld ⇑0 "held_by_place") #[.set (.many [4,5])<|.idx (.fld ⇑0 "ties_by_place") ⇑2,.expr<|.bm .append ⇑1 #[.tup #[.idx (.idx ⇑3 ↑0)<|.glob "ROOT"<|.int 2,.bin .add (.idx (.idx ⇑3 ↑0)<|.glob "COST"<|.int 3) ⇑5,⇑4,⇑2]]],.set (.one 6)<|.call "best_offer" #[.fld ⇑0 "number",⇑1],.ite (.val<|.cmp .is ⇑6<|.cst .non) #[.ret<|.tup #[.fld ⇑0 "number",↑0,.cst .non,.cst .non]] .nil,.set (.many [7,5,4,2]) ⇑6,.ret<|.tup #[⇑7,⇑5,⇑2,.idx (.idx (.idx (.fld ⇑0 "held_by_place") ⇑2) ↑0)<|.glob "STAMP"<|.int 1]]}
instance T4:Fn:={ar:=2,sz:=2,body:=#[.ite (.val<|.cmp .ne ⇑1<|.fld ⇑0 "label_now") #[.setFld ⇑0 "label_now" ⇑1,.augFld ⇑0 "version" .add 1] .nil]}
instance T0:Fn:={ar:=2,sz:=8,body:=#[.set (.many [2,3,4,5])<|.fld ⇑0 "label_now",.set (.one 6)<|.ife (.val<|.cmp .is ⇑4<|.cst .non) ↑0<|.bin .add (.idx (.idx (.fld ⇑0 "held_by_place") ⇑4) ↑1) ↑1,.set (.one 7)<|.tup #[.tup #[.fld ⇑0 "life",.fld ⇑0 "ticks_had"],.meth "Bridge" "stamp" ⇑0 .nil,⇑2,⇑3,⇑6],.ite (.val<|.cmp .eq ⇑1 ⇑4) #[.ret<|.bin .add ⇑7<|.tup #[⇑5,.cst .non]] .nil,.ite (.val<|.meth "Bridge" "is_rested_on" ⇑0 #[⇑1]) #[.ret<|.bin .add ⇑7<|.tup #[.cst .non,.idx (.idx (.idx (.fld ⇑0 "held_by_place") ⇑1) ↑0)<|.glob "STAMP"<|.int 1]] .nil,.ret<|.bin .add ⇑7<|.tup #[.cst .non,.cst .non]]}
instance TU:Fn:={ar:=2,sz:=3,body:=#[.set (.one 2)<|.meth "Bridge" "held" ⇑0 #[⇑1],.ret<|.and (.cmp .isnot ⇑2<|.cst .non)<|.cmp .eq (.idx (.idx ⇑2 ↑0)<|.glob "RESTS"<|.int 5)<|.meth "Bridge" "stamp" ⇑0 .nil]}
instance TN:Fn:={ar:=2,sz:=3,body:=#[.set (.one 2)<|.meth "Bridge" "held" ⇑0 #[⇑1],.ite (.or (.val<|.cmp .is ⇑2<|.cst .non)<|.val<|.cmp .ne (.idx (.idx ⇑2 ↑0)<|.glob "AGREES"<|.int 6)<|.meth "Bridge" "stamp" ⇑0 .nil) #[.ret<|.cst<|.bl eV] .nil,.ret<|.cmp .eq (.idx (.idx ⇑2 ↑0)<|.glob "STAMP"<|.int 1)<|.idx (.fld ⇑0 "label_now") ↑3]}
instance TY:Fn:={ar:=2,sz:=2,body:=#[.ite (.val<|.cmp .notin ⇑1<|.fld ⇑0 "ties_by_place") #[.ret<|.cst<|.str "down"] .nil,.ite (.val<|.cmp .eq ⇑1<|.idx (.fld ⇑0 "label_now") ↑2) #[.ret<|.ife (.val<|.meth "Bridge" "is_agreed_to" ⇑0 #[⇑1]) (.cst<|.str "child")<|.cst<|.str "shut"] .nil,.ret<|.ife (.val<|.meth "Bridge" "is_rested_on" ⇑0 #[⇑1]) (.cst<|.str "parent")<|.cst<|.str "shut"]}
instance VN:Fn:={ar:=3,sz:=4,body:=#[.setFld ⇑0 "net_made_of" ⇑1,.setFld ⇑0 "greatest_age" ⇑2,.setFld ⇑0 "lives"<|.dct .nil,.setFld ⇑0 "standing"<|.dct .nil,.setFld ⇑0 "ties_fallen"<|.dct .nil,.setFld ⇑0 "letters_on_road"<|.lst .nil,.for (.one 3) (.seq<|.idx ⇑1 ↑0) #[.setIdx (.fld ⇑0 "lives") ⇑3 ↑0,.setIdx (.fld ⇑0 "standing") ⇑3<|.make "Bridge" #[⇑3,↑0,.call "neighbours" #[⇑1,⇑3],⇑2]]]}
instance VU:Fn:={ar:=1,sz:=1,body:=#[.ret<|.bi .list #[.fld ⇑0 "letters_on_road"]]}
instance VO:Fn:={ar:=1,sz:=1,body:=#[.ret<|.comp [0] 1 (.one 0) (.seq<|.bi .sortedI #[.fld ⇑0 "standing"]) .yes<|.tup #[⇑0,.meth "Bridge" "label" (.idx (.fld ⇑1 "standing") ⇑0) .nil]]}
instance VC:Fn:={ar:=1,sz:=1,body:=#[.ret<|.comp [0] 1 (.one 0) (.seq<|.bi .sortedI #[.fld ⇑0 "standing"]) .yes<|.tup #[⇑0,.meth "Bridge" "stamp" (.idx (.fld ⇑1 "standing") ⇑0) .nil]]}
instance VX:Fn:={ar:=2,sz:=5,body:=#[.ite (.not<|.val<|.meth "Yard" "has_tie" ⇑0 #[⇑1]) #[.ret<|.tup #[.cst<|.str "down",.cst<|.str "down"]] .nil,.set (.many [2,3,4])<|.idx (.idx (.fld ⇑0 "net_made_of") ↑1) ⇑1,.ret<|.tup #[.meth "Yard" "end_at" ⇑0 #[⇑2,⇑1],.meth "Yard" "end_at" ⇑0 #[⇑3,⇑1]]]}
instance VY:Fn:={ar:=3,sz:=3,body:=#[.ite (.val<|.cmp .notin ⇑1<|.fld ⇑0 "standing") #[.ret<|.cst<|.str "down"] .nil,.ret<|.meth "Bridge" "end" (.idx (.fld ⇑0 "standing") ⇑1) #[⇑2]]}
instance VM:Fn:={ar:=2,sz:=2,body:=#[.ret<|.chain .le .lt ↑0 ⇑1<|.bi .len #[.idx (.fld ⇑0 "net_made_of") ↑1]]}
instance VZ:Fn:={ar:=2,sz:=4,body:=#[.set (.many [2,3])<|.call "read_deed" #[⇑1],.ite (.val<|.cmp .eq ⇑2<|.tup #[.cst<|.str "tick"]) #[.expr<|.meth "Yard" "tick_of" ⇑0 #[⇑3]] #[.ite (.val<|.cmp .eq ⇑2<|.tup #[.cst<|.str "come"]) #[.expr<|.meth "Yard" "come" ⇑0 #[⇑3]] #[.ite (.val<|.cmp .eq ⇑2<|.tup #[.cst<|.str "lost"]) #[.expr<|.meth "Yard" "take_off" ⇑0 #[⇑3]] #[.ite (.val<|.cmp .eq ⇑2<|.tup #[.cst<|.str "fall",.cst<|.str "bridge"]) #[.expr<|.meth "Yard" "fall_of_bridge" ⇑0 #[⇑3]] #[.ite (.val<|.cmp .eq ⇑2<|.tup #[.cst<|.str "fall",.cst<|.str "tie"]) #[.expr<|.meth "Yard" "fall_of_tie" ⇑0 #[⇑3]] #[.ite (.val<|.cmp .eq ⇑2<|.tup #[.cst<|.str "back",.cst<|.str "bridge"]) #[.expr<|.meth "Yard" "back_of_bridge" ⇑0 #[⇑3]] #[.expr<|.meth "Yard" "back_of_tie" ⇑0 #[⇑3]]]]]]]]}
instance VE:Fn:={ar:=2,sz:=5,body:=#[.ite (.val<|.cmp .notin ⇑1<|.fld ⇑0 "standing") #[.never] .nil,.for (.many [2,3]) (.seq<|.meth "Bridge" "tick" (.idx (.fld ⇑0 "standing") ⇑1) .nil) #[.set (.one 4)<|.call "far_end" #[.idx (.idx (.fld ⇑0 "net_made_of") ↑1) ⇑2,⇑1],.expr<|.bm .append (.fld ⇑0 "letters_on_road") #[.tup #[⇑1,⇑4,⇑2,⇑3]]]]}
instance T9:Fn:={ar:=2,sz:=6,body:=#[.set (.many [2,3,4,5])<|.meth "Yard" "take_off" ⇑0 #[⇑1],.ite (.val<|.cmp .isin ⇑3<|.fld ⇑0 "standing") #[.expr<|.meth "Bridge" "hear" (.idx (.fld ⇑0 "standing") ⇑3) #[⇑4,⇑5]] .nil]}
instance VD:Fn:={ar:=2,sz:=2,body:=#[.ite (.not<|.val<|.chain .le .lt ↑0 ⇑1<|.bi .len #[.fld ⇑0 "letters_on_road"]) #[.never] .nil,.ret<|.bm .popAt (.fld ⇑0 "letters_on_road") #[⇑1]]}
instance VW:Fn:={ar:=2,sz:=2,body:=#[.ite (.val<|.cmp .notin ⇑1<|.fld ⇑0 "standing") #[.never] .nil,.expr<|.bm .dpop (.fld ⇑0 "standing") #[⇑1],.expr<|.meth "Yard" "set_ties_of" ⇑0 #[⇑1]]}
instance VJ:Fn:={ar:=2,sz:=2,body:=#[.ite (.or (.not<|.val<|.meth "Yard" "has_tie" ⇑0 #[⇑1])<|.val<|.cmp .isin ⇑1<|.fld ⇑0 "ties_fallen") #[.never] .nil,.setIdx (.fld ⇑0 "ties_fallen") ⇑1<|.cst<|.bl eU,.expr<|.meth "Yard" "set_tie" ⇑0 #[⇑1]]}
instance T7:Fn:={ar:=2,sz:=2,body:=#[.ite (.or (.val<|.cmp .notin ⇑1<|.fld ⇑0 "lives")<|.val<|.cmp .isin ⇑1<|.fld ⇑0 "standing") #[.never] .nil,.augIdx (.fld ⇑0 "lives") ⇑1 .add 1,.setIdx (.fld ⇑0 "standing") ⇑1<|.make "Bridge" #[⇑1,.idx (.fld ⇑0 "lives") ⇑1,.lst .nil,.fld ⇑0 "greatest_age"],.expr<|.meth "Yard" "set_ties_of" ⇑0 #[⇑1]]}
instance T8:Fn:={ar:=2,sz:=2,body:=#[.ite (.val<|.cmp .notin ⇑1<|.fld ⇑0 "ties_fallen") #[.never] .nil,.expr<|.bm .dpop (.fld ⇑0 "ties_fallen") #[⇑1],.expr<|.meth "Yard" "set_tie" ⇑0 #[⇑1]]}
instance VB:Fn:={ar:=2,sz:=5,body:=#[.for (.many [2,3,4]) (.seq<|.call "neighbours" #[.fld ⇑0 "net_made_of",⇑1]) #[.expr<|.meth "Yard" "set_tie" ⇑0 #[⇑2]]]}
instance VA:Fn:={ar:=2,sz:=8,body:=#[.set (.many [2,3,4])<|.idx (.idx (.fld ⇑0 "net_made_of") ↑1) ⇑1,.set (.one 5)<|.and (.cmp .notin ⇑1<|.fld ⇑0 "ties_fallen")<|.and (.cmp .isin ⇑2<|.fld ⇑0 "standing")<|.cmp .isin ⇑3<|.fld ⇑0 "standing",.for (.many [6,7]) (.seq<|.tup #[.tup #[⇑2,⇑3],.tup #[⇑3,⇑2]]) #[.ite (.val ⇑5) #[.expr<|.meth "Bridge" "up" (.idx (.fld ⇑0 "standing") ⇑6) #[⇑1,⇑7,⇑4]] #[.ite (.val<|.cmp .isin ⇑6<|.fld ⇑0 "standing") #[.expr<|.meth "Bridge" "down" (.idx (.fld ⇑0 "standing") ⇑6) #[⇑1]] .nil]]]}
instance Vc:Fn:={ar:=1,sz:=2,body:=#[.ite (.not<|.val<|.bi (.isi ["tuple"]) #[⇑0]) #[.never] .nil,.set (.one 1)<|.slc ⇑0 .none<|.some<|.neg ↑1,.ite (.or (.not<|.val<|.bi .all #[.comp [] 1 (.one 0) (.seq ⇑1) .yes<|.bi (.isi ["str"]) #[⇑0]])<|.val<|.cmp .notin ⇑1<|.glob "DEEDS"<|.tup [(.tup [(.str "tick")]),(.tup [(.str "come")]),(.tup [(.str "lost")]),(.tup [(.str "fall"),(.str "bridge")]),(.tup [(.str "fall"),(.str "tie")]),(.tup [(.str "back"),(.str "bridge")]),(.tup [(.str "back"),(.str "tie")])]) #[.never] .nil,.ite (.not<|.val<|.call "is_whole" #[.idx ⇑0<|.neg ↑1]) #[.never] .nil,.ret<|.tup #[⇑1,.idx ⇑0<|.neg ↑1]]}
instance VQ:Fn:={ar:=2,sz:=2,body:=#[.ite (.val<|.cmp .lt ⇑1<|.bi .len #[⇑0]) #[.ret<|.idx ⇑0 ⇑1] .nil,.ret ↑0]}
instance Vx:Fn:={ar:=2,sz:=3,body:=#[.set (.one 2)<|.bin .mod (.bin .mul (.bin .add (.bin .add (.bin .mod ⇑0 ↑2147483647)<|.bin .mul ↑7919 ⇑1) ↑1) ↑48271) ↑2147483647,.set (.one 2)<|.bin .mod (.bin .mul ⇑2 ⇑2) ↑2147483629,.ret<|.bin .fdiv (.bin .mod (.bin .mul (.bin .add ⇑2<|.bin .mul ↑40692<|.bin .add ⇑1 ↑3) ↑69621) ↑2147483579) ↑8]}
instance VR:Fn:={ar:=2,sz:=6,body:=#[.set (.one 2)<|.bin .mod ⇑0<|.bin .mul (.bin .mul (.bin .pow ↑10 ↑60)<|.bin .pow ↑10 ↑60)<|.bin .pow ↑10 ↑30,.set (.one 3)<|.cmp .ge ⇑2<|.bin .pow ↑10 ↑18,.set (.one 4)<|.lst .nil,.for (.one 5) (.range ⇑1) #[.ite (.and (.val ⇑3)<|.val<|.cmp .gt ⇑2 ↑0) #[.expr<|.bm .append ⇑4 #[.bin .mod ⇑2 ↑1000],.set (.one 2)<|.bin .fdiv ⇑2 ↑1000] #[.expr<|.bm .append ⇑4 #[.call "_law_mixed" #[⇑0,⇑5]]]],.ret ⇑4]}
instance VP:Fn:={ar:=1,sz:=3,body:=#[.set (.one 1)<|.bin .add ↑2<|.bin .mod (.idx ⇑0 ↑0) ↑4,.ite (.val<|.cmp .eq (.bin .mod (.bin .fdiv (.idx ⇑0 ↑0) ↑4) ↑8) ↑7) #[.set (.one 1)<|.bin .add ↑1<|.bin .mod (.bin .fdiv (.idx ⇑0 ↑0) ↑32) ↑10] .nil,.set (.one 2)<|.idx (.lst #[↑1000,↑12,↑1000,↑30])<|.bin .mod (.idx ⇑0 ↑1) ↑4,.ret<|.bi .sortedSet #[.comp [2] 1 (.one 0) (.seq<|.slc ⇑0 (.some ↑4)<|.some<|.bin .add ↑4 ⇑1) .yes<|.bin .mod ⇑0 ⇑1]]}
instance Vn:Fn:={ar:=3,sz:=8,body:=#[.set (.one 3)<|.bi .len #[⇑0],.set (.one 4)<|.bin .mod (.idx ⇑1 ↑0) ⇑3,.set (.one 5)<|.bin .mod (.bin .add (.bin .add ⇑4 ↑1)<|.bin .mod (.idx ⇑1 ↑1)<|.bin .sub ⇑3 ↑1) ⇑3,.ite (.and (.val<|.cmp .lt (.bin .add ⇑2 ↑1) ⇑3)<|.val<|.cmp .eq (.bin .mod (.bin .fdiv (.idx ⇑1 ↑0) ↑10) ↑2) ↑0) #[.set (.one 4)<|.bin .add ⇑2 ↑1,.set (.one 5)<|.bin .mod (.idx ⇑1 ↑1)<|.bin .add ⇑2 ↑1] .nil,.set (.one 6)<|.bin .add ↑1<|.bin .mod (.idx ⇑1 ↑2) ↑1000,.ite (.val<|.cmp .eq (.bin .mod (.bin .fdiv (.idx ⇑1 ↑0) ↑20) ↑2) ↑0) #[.set (.one 6)<|.bin .add ↑1<|.bin .mod (.idx ⇑1 ↑2) ↑3] .nil,.set (.one 7)<|.bi .sortedI #[.lst #[.idx ⇑0 ⇑4,.idx ⇑0 ⇑5]],.ret<|.tup #[.idx ⇑7 ↑0,.idx ⇑7 ↑1,⇑6]]}
instance Vw:Fn:={ar:=2,sz:=7,body:=#[.set (.one 2)<|.call "_law_draws" #[⇑0,↑14],.set (.one 3)<|.call "_law_bridges" #[⇑2],.set (.one 4)<|.bin .mod (.idx ⇑2 ↑2) ↑8,.ite (.val<|.cmp .eq (.bin .mod (.bin .fdiv (.idx ⇑2 ↑2) ↑8) ↑7) ↑6) #[.set (.one 4)<|.bin .mod (.bin .fdiv (.idx ⇑2 ↑2) ↑56) ↑17] .nil,.ite (.val<|.cmp .eq (.bi .len #[⇑3]) ↑1) #[.set (.one 4) ↑0] .nil,.set (.one 5)<|.call "_law_draws" #[⇑1,.bin .mul ↑3 ⇑4],.set (.one 6)<|.comp [3,5] 1 (.one 0) (.range ⇑4) .yes<|.call "_law_tie" #[⇑1,.slc ⇑2 (.some<|.bin .mul ↑3 ⇑0)<|.some<|.bin .add (.bin .mul ↑3 ⇑0) ↑3,⇑0],.ret<|.tup #[.bi .tuple #[⇑3],.bi .tuple #[⇑6]]]}
instance Vz:Fn:={ar:=1,sz:=2,body:=#[.set (.one 1)<|.call "_law_draws" #[⇑0,↑4],.ite (.val<|.cmp .eq (.bin .mod (.bin .fdiv (.idx ⇑1 ↑1) ↑4) ↑2) ↑0) #[.ret<|.bin .add ↑4<|.bin .mod (.idx ⇑1 ↑3) ↑8] .nil,.ret<|.bin .add ↑4<|.bin .mod (.idx ⇑1 ↑3) ↑197]}
instance Vj:Fn:={ar:=2,sz:=3,body:=#[.ite (.val<|.cmp .is ⇑1<|.cst .non) #[.ret<|.cmp .is ⇑0<|.cst .non] .nil,.ite (.val<|.bi (.isi ["str"]) #[⇑1]) #[.ret<|.and (.bi (.isi ["str"]) #[⇑0])<|.cmp .eq ⇑0 ⇑1] .nil,.ite (.val<|.bi (.isi ["int"]) #[⇑1]) #[.ret<|.and (.bi (.isi ["int"]) #[⇑0])<|.and (.not<|.bi (.isi ["bool"]) #[⇑0])<|.cmp .eq ⇑0 ⇑1] .nil,.ite (.val<|.bi (.isi ["tuple"]) #[⇑1]) #[.ite (.not<|.val<|.bi (.isi ["tuple"]) #[⇑0]) #[.ret<|.cst<|.bl eV] .nil] #[.ite (.not<|.val<|.bi (.isi ["list"]) #[⇑0]) #[.ret<|.cst<|.bl eV] .nil],.ite (.val<|.cmp .ne (.bi .len #[⇑0])<|.bi .len #[⇑1]) #[.ret<|.cst<|.bl eV] .nil,.for (.one 2) (.range<|.bi .len #[⇑1]) #[.ite (.not<|.val<|.call "_law_same" #[.idx ⇑0 ⇑2,.idx ⇑1 ⇑2]) #[.ret<|.cst<|.bl eV] .nil],.ret<|.cst<|.bl eU]}
instance Vo:Fn:={ar:=2,sz:=5,body:=#[.set (.one 2)<|.lst .nil,.for (.many [3,4]) (.enum<|.idx ⇑0 ↑1) #[.ite (.val<|.cmp .eq (.idx ⇑4 ↑0) ⇑1) #[.expr<|.bm .append ⇑2 #[.tup #[⇑3,.idx ⇑4 ↑1,.idx ⇑4 ↑2]]] .nil,.ite (.val<|.cmp .eq (.idx ⇑4 ↑1) ⇑1) #[.expr<|.bm .append ⇑2 #[.tup #[⇑3,.idx ⇑4 ↑0,.idx ⇑4 ↑2]]] .nil],.ret ⇑2]}
instance Vy:Fn:={ar:=4,sz:=5,body:=#[.set (.one 4)<|.idx (.idx ⇑0 ↑1) ⇑3,.ret<|.and (.cmp .notin ⇑3 ⇑2)<|.and (.cmp .notin (.idx ⇑4 ↑0) ⇑1)<|.cmp .notin (.idx ⇑4 ↑1) ⇑1]}
instance VL:Fn:={ar:=3,sz:=8,body:=#[.set (.one 3)<|.lst .nil,.for (.many [4,5,6]) (.seq<|.call "_law_ties_of" #[⇑0,⇑1]) #[.ite (.and (.val<|.cmp .isin (.key #[⇑1,⇑4]) ⇑2)<|.val<|.cmp .lt ⇑5 ⇑1) #[.expr<|.bm .append ⇑3 #[.tup #[⇑5,⇑6,⇑5,⇑4]]] .nil],.ite (.val<|.cmp .eq ⇑3<|.lst .nil) #[.ret<|.tup #[⇑1,↑0,.cst .non,.cst .non]] .nil,.set (.one 7)<|.bi .minL #[⇑3],.ret<|.tup #[.idx ⇑7 ↑0,.idx ⇑7 ↑1,.idx ⇑7 ↑3,.tup #[↑0,↑0]]]}
instance Vk:Fn:={ar:=5,sz:=13,body:=#[.set (.one 5)<|.bi .int #[.cmp .isnot (.idx ⇑3 ↑2)<|.cst .non],.set (.one 6)<|.bm .dgetD (.idx ⇑1 ↑2) #[⇑2,↑0],.set (.one 7)<|.lst .nil,.for (.many [8,9,10]) (.seq<|.call "_law_ties_of" #[⇑0,⇑2]) #[.ite (.val<|.call "_law_is_up" #[⇑0,.idx ⇑1 ↑0,.idx ⇑1 ↑1,⇑8]) #[.set (.one 11)<|.cst .non,.ite (.val<|.cmp .eq ⇑8<|.idx ⇑3 ↑2) #[.set (.one 11)<|.tup #[↑0,↑0]] .nil,.set (.one 12)<|.tup #[.tup #[⇑6,⇑4],.tup #[⇑6,⇑5],.idx ⇑3 ↑0,.idx ⇑3 ↑1,.bin .mul ↑2 ⇑5,⇑11,.cst .non],.expr<|.bm .append ⇑7 #[.tup #[⇑2,⇑9,⇑8,⇑12]]] .nil],.ret ⇑7]}
instance VT:Fn:={ar:=3,sz:=5,body:=#[.for (.many [3,4]) (.seq<|.bi .listT #[⇑2]) #[.ite (.or (.val<|.cmp .isin ⇑3<|.idx ⇑1 ↑0)<|.not<|.val<|.call "_law_is_up" #[⇑0,.idx ⇑1 ↑0,.idx ⇑1 ↑1,⇑4]) #[.expr<|.bm .dpopT ⇑2 #[.key #[⇑3,⇑4]]] .nil]]}
instance Vu:Fn:={ar:=5,sz:=11,body:=#[.set (.many [5,6,7]) ⇑2,.set (.one 8)<|.bi .len #[.idx ⇑1 ↑0],.ite (.val<|.cmp .lt ⇑4 ⇑8) #[.set (.one 9)<|.idx (.idx ⇑1 ↑0) ⇑4,.expr<|.meth "Yard" "deed" ⇑0 #[.tup #[.idx (.lst #[.cst<|.str "fall",.cst<|.str "back"])<|.bi .int #[.cmp .isin ⇑9 ⇑5],.cst<|.str "bridge",⇑9]],.ite (.val<|.cmp .isin ⇑9 ⇑5) #[.expr<|.bm .remove ⇑5 #[⇑9],.setIdx ⇑7 ⇑9<|.bin .add (.bm .dgetD ⇑7 #[⇑9,↑0]) ↑1] #[.expr<|.bm .append ⇑5 #[⇑9]]] #[.set (.one 10)<|.bin .sub ⇑4 ⇑8,.expr<|.meth "Yard" "deed" ⇑0 #[.tup #[.idx (.lst #[.cst<|.str "fall",.cst<|.str "back"])<|.bi .int #[.cmp .isin ⇑10 ⇑6],.cst<|.str "tie",⇑10]],.ite (.val<|.cmp .isin ⇑10 ⇑6) #[.expr<|.bm .remove ⇑6 #[⇑10]] #[.expr<|.bm .append ⇑6 #[⇑10]]],.expr<|.call "_law_forgets" #[⇑1,⇑2,⇑3]]}
instance Vm:Fn:={ar:=6,sz:=8,body:=#[.set (.one 6)<|.bin .mod (.bin .fdiv ⇑5 ↑4)<|.bi .len #[⇑4],.set (.one 7)<|.bm .popAt ⇑4 #[⇑6],.ite (.val<|.cmp .eq (.bin .mod ⇑5 ↑4) ↑0) #[.expr<|.meth "Yard" "deed" ⇑0 #[.tup #[.cst<|.str "lost",⇑6]],.retN] .nil,.expr<|.meth "Yard" "deed" ⇑0 #[.tup #[.cst<|.str "come",⇑6]],.ite (.val<|.call "_law_is_up" #[⇑1,.idx ⇑2 ↑0,.idx ⇑2 ↑1,.idx ⇑7 ↑2]) #[.setIdx ⇑3 (.key #[.idx ⇑7 ↑1,.idx ⇑7 ↑2])<|.cst<|.bl eU] .nil]}
instance VS:Fn:={ar:=3,sz:=5,body:=#[.for (.one 3) (.range<|.bi .len #[.idx ⇑1 ↑1]) #[.set (.one 4)<|.cst<|.str "down",.ite (.val<|.call "_law_is_up" #[⇑1,.idx ⇑2 ↑0,.idx ⇑2 ↑1,⇑3]) #[.set (.one 4)<|.cst<|.str "shut"] .nil,.ite (.not<|.val<|.call "_law_same" #[.meth "Yard" "ends" ⇑0 #[⇑3],.tup #[⇑4,⇑4]]) #[.ret<|.cst<|.bl eV] .nil],.ret<|.cst<|.bl eU]}
instance VI:Fn:={ar:=1,sz:=12,body:=#[.set (.one 1)<|.call "_law_net" #[.call "_law_cell_at" #[⇑0,↑0],.call "_law_cell_at" #[⇑0,↑1]],.set (.one 2)<|.make "Yard" #[⇑1,.call "_law_greatest" #[.call "_law_cell_at" #[⇑0,↑0]]],.set (.one 3)<|.tup #[.lst .nil,.lst .nil,.dct .nil],.set (.one 4) .dctP,.set (.one 5)<|.lst .nil,.for (.one 6) (.seq<|.idx ⇑1 ↑0) #[.expr<|.meth "Yard" "deed" ⇑2 #[.tup #[.cst<|.str "tick",⇑6]],.set (.one 5)<|.bin .add ⇑5<|.call "_law_sent" #[⇑1,⇑3,⇑6,.tup #[⇑6,↑0,.cst .non,.cst .non],↑0]],.for (.one 7) (.seq<|.slc ⇑0 (.some ↑2)<|.some ↑82) #[.ite (.or (.val<|.cmp .eq (.bin .mod ⇑7 ↑4) ↑3)<|.val<|.cmp .eqE ⇑5<|.lst .nil) #[.expr<|.call "_law_turned" #[⇑2,⇑1,⇑3,⇑4,.bin .mod (.bin .fdiv ⇑7 ↑4)<|.bin .add (.bi .len #[.idx ⇑1 ↑0])<|.bi .len #[.idx ⇑1 ↑1]]] #[.expr<|.call "_law_taken" #[⇑2,⇑1,⇑3,⇑4,⇑5,⇑7]]],.set (.one 8)<|.comp [3] 1 (.one 0) (.seq<|.idx ⇑1 ↑0) (.val<|.cmp .notin ⇑0<|.idx ⇑1 ↑0) ⇑0,.set (.one 9)<|.lst .nil,.set (.one 10)<|.lst .nil,.for (.one 6) (.seq ⇑8) #[.expr<|.bm .append ⇑9 #[.tup #[⇑6,.call "_law_best" #[⇑1,⇑6,⇑4]]],.expr<|.bm .append ⇑10 #[.tup #[⇑6,.tup #[.bm .dgetD (.idx ⇑3 ↑2) #[⇑6,↑0],.bi .int #[.cmp .isnot (.idx (.idx (.idx ⇑9<|.neg ↑1) ↑1) ↑2)<|.cst .non]]]]],.ite (.val<|.cmp .eq (.bin .mod (.bin .fdiv (.call "_law_cell_at" #[⇑0,↑2]) ↑1000) ↑2) ↑1) #[.set (.one 8)<|.rev ⇑8] .nil,.for (.one 6) (.seq ⇑8) #[.expr<|.meth "Yard" "deed" ⇑2 #[.tup #[.cst<|.str "tick",⇑6]],.set (.one 11)<|.call "_law_best" #[⇑1,⇑6,⇑4],.set (.one 5)<|.bin .add ⇑5<|.call "_law_sent" #[⇑1,⇑3,⇑6,⇑11,.bi .int #[.cmp .notin ⇑6<|.idx ⇑3 ↑2]]],.ite (.or (.not<|.val<|.call "_law_same" #[.meth "Yard" "road" ⇑2 .nil,⇑5])<|.not<|.val<|.call "_law_same" #[.meth "Yard" "labels" ⇑2 .nil,⇑9]) #[.ret<|.cst<|.bl eV] .nil,.ret<|.and (.call "_law_same" #[.meth "Yard" "stamps" ⇑2 .nil,⇑10])<|.call "_law_ends" #[⇑2,⇑1,⇑3]]}
class Al(P:Pg):Prop where
 c0:P "is_whole" = eQ VH
 c1:P "neighbours" = eQ Va
 c2:P "far_end" = eQ VG
 c3:P "newer" = eQ Vb
 c4:P "best_offer" = eQ VF
 c5:P "Bridge.__init__" = eQ TM
 c6:P "Bridge.label" = eQ TQ
 c7:P "Bridge.stamp" = eQ T3
 c8:P "Bridge.held" = eQ TW
 c9:P "Bridge.up" = eQ T6
 c10:P "Bridge.down" = eQ TZ
 c11:P "Bridge.hear" = eQ TX
 c12:P "Bridge.tick" = eQ T5
 c13:P "Bridge.let_grow_older" = eQ TR
 c14:P "Bridge.reckon_label" = eQ T1
 c15:P "Bridge.take_label" = eQ T4
 c16:P "Bridge.letter_over" = eQ T0
 c17:P "Bridge.is_rested_on" = eQ TU
 c18:P "Bridge.is_agreed_to" = eQ TN
 c19:P "Bridge.end" = eQ TY
 c20:P "Yard.__init__" = eQ VN
 c21:P "Yard.road" = eQ VU
 c22:P "Yard.labels" = eQ VO
 c23:P "Yard.stamps" = eQ VC
 c24:P "Yard.ends" = eQ VX
 c25:P "Yard.end_at" = eQ VY
 c26:P "Yard.has_tie" = eQ VM
 c27:P "Yard.deed" = eQ VZ
 c28:P "Yard.tick_of" = eQ VE
 c29:P "Yard.come" = eQ T9
 c30:P "Yard.take_off" = eQ VD
 c31:P "Yard.fall_of_bridge" = eQ VW
 c32:P "Yard.fall_of_tie" = eQ VJ
 c33:P "Yard.back_of_bridge" = eQ T7
 c34:P "Yard.back_of_tie" = eQ T8
 c35:P "Yard.set_ties_of" = eQ VB
 c36:P "Yard.set_tie" = eQ VA
 c37:P "read_deed" = eQ Vc
 c38:P "_law_cell_at" = eQ VQ
 c39:P "_law_mixed" = eQ Vx
 c40:P "_law_draws" = eQ VR
 c41:P "_law_bridges" = eQ VP
 c42:P "_law_tie" = eQ Vn
 c43:P "_law_net" = eQ Vw
 c44:P "_law_greatest" = eQ Vz
 c45:P "_law_same" = eQ Vj
 c46:P "_law_ties_of" = eQ Vo
 c47:P "_law_is_up" = eQ Vy
 c48:P "_law_best" = eQ VL
 c49:P "_law_sent" = eQ Vk
 c50:P "_law_forgets" = eQ VT
 c51:P "_law_turned" = eQ Vu
 c52:P "_law_taken" = eQ Vm
 c53:P "_law_ends" = eQ VS
 c54:P "law" = eQ VI
set_option hygiene false in
local macro_rules|`(#check $r:ident $c:ident $d:ident $s:str $a:num $z:num)=>do
 let v:=(Array.range a.getNat).map λi=>Lean.mkIdent (.mkSimple s!"a{i}")
 let e<-(Array.range z.getNat).mapM λi=>if i<a.getNat then `(eQ $(v[i]!))else`(eS)
 `(theorem $r [Al P](q:B0 P n $d [$e,*] h Q X):wF P (n+1) $s [$v,*] h Q X:=Zb $c rfl q)
#check Uf Al.c0 VH "is_whole" 1 1
#check Ng Al.c1 Va "neighbours" 2 5
#check Bn Al.c2 VG "far_end" 2 2
#check F7 Al.c3 Vb "newer" 2 2
#check Nf Al.c4 VF "best_offer" 2 3
#check KP Al.c5 TM "Bridge.__init__" 5 8
#check Kf Al.c6 TQ "Bridge.label" 1 1
#check JT Al.c7 T3 "Bridge.stamp" 1 1
#check Kv Al.c8 TW "Bridge.held" 2 2
#check ON Al.c9 T6 "Bridge.up" 4 4
#check KA Al.c10 TZ "Bridge.down" 2 2
#check KI Al.c11 TX "Bridge.hear" 3 4
#check KH Al.c12 T5 "Bridge.tick" 1 2
#check Yv Al.c13 TR "Bridge.let_grow_older" 1 4
#check YS Al.c14 T1 "Bridge.reckon_label" 1 8
#check XH Al.c15 T4 "Bridge.take_label" 2 2
#check Xa Al.c16 T0 "Bridge.letter_over" 2 8
#check YY Al.c17 TU "Bridge.is_rested_on" 2 3
#check YT Al.c18 TN "Bridge.is_agreed_to" 2 3
#check No Al.c19 TY "Bridge.end" 2 2
#check Os Al.c20 VN "Yard.__init__" 3 4
#check N5 Al.c21 VU "Yard.road" 1 1
#check KD Al.c22 VO "Yard.labels" 1 1
#check Ky Al.c23 VC "Yard.stamps" 1 1
#check N6 Al.c24 VX "Yard.ends" 2 5
#check KJ Al.c25 VY "Yard.end_at" 3 3
#check Xc Al.c26 VM "Yard.has_tie" 2 2
#check OH Al.c27 VZ "Yard.deed" 2 4
#check Ke Al.c28 VE "Yard.tick_of" 2 5
#check WS Al.c29 T9 "Yard.come" 2 6
#check WZ Al.c30 VD "Yard.take_off" 2 2
#check YX Al.c31 VW "Yard.fall_of_bridge" 2 2
#check Wc Al.c32 VJ "Yard.fall_of_tie" 2 2
#check YW Al.c33 T7 "Yard.back_of_bridge" 2 2
#check Wb Al.c34 T8 "Yard.back_of_tie" 2 2
#check XT Al.c35 VB "Yard.set_ties_of" 2 5
#check J4 Al.c36 VA "Yard.set_tie" 2 8
#check NE Al.c37 Vc "read_deed" 1 2
#check KM Al.c38 VQ "_law_cell_at" 2 2
#check NF Al.c39 Vx "_law_mixed" 2 3
#check N9 Al.c40 VR "_law_draws" 2 6
#check KO Al.c41 VP "_law_bridges" 1 3
#check Ba Al.c42 Vn "_law_tie" 3 8
#check BZ Al.c43 Vw "_law_net" 2 7
#check JI Al.c44 Vz "_law_greatest" 1 2
#check Z9 Al.c45 Vj "_law_same" 2 3
#check KE Al.c46 Vo "_law_ties_of" 2 5
#check OD Al.c47 Vy "_law_is_up" 4 5
#check UG Al.c48 VL "_law_best" 3 8
#check UB Al.c49 Vk "_law_sent" 5 13
#check Kw Al.c50 VT "_law_forgets" 3 5
#check Ni Al.c51 Vu "_law_turned" 5 11
#check NH Al.c52 Vm "_law_taken" 6 8
#check Ub Al.c53 VS "_law_ends" 3 5
#check R7 Al.c54 VI "law" 1 12
local macro_rules|`(#[$x])=>`(.cons $x .nil)|`(#[$x,$y,*])=>`(.cons $x #[$y,*])
local macro_rules | `(tactic| walk_at "ne")=>`(tactic| first | assumption | (apply Ne.symm; assumption) | ((with_reducible apply ne_none'); (· assumption); (· walk_at "look")) | (apply Ne.symm; (with_reducible apply ne_none'); (· assumption); (· walk_at "look")))
local macro_rules | `(tactic| walk_at "look")=>`(tactic| first | assumption | with_reducible exact eX | ((with_reducible apply upd_ne'); (· walk_at "ne"); (· walk_at "look")) | ((with_reducible apply Ext.get); (· assumption); (· walk_at "look")) | ((with_reducible apply ExtB.get); (· assumption); (· walk_at "ne"); (· walk_at "look")))
local macro_rules | `(tactic| walk_at "ar")=>`(tactic| first | decide | lia | assumption | (simp only [Ð,ī]; decide))
local macro_rules | `(tactic| walk_at "mul")=>`(tactic| first | exact .inl (.inr<|by lia) | exact .inl (.inl<|by lia) | exact .inr ⟨by decide,by decide⟩)
local macro_rules | `(tactic| walk_at "setl")=>`(tactic| first | (simp only [ŕ,Α,Ο,ķ,List.foldl_nil,Ϻ,aa]; done) | (simp only [ŕ,Α,Ο,ķ,List.foldl_nil,Ϻ,aa]; exact rfl) | exact rfl)
local macro_rules | `(tactic| walk_at "w")=>`(tactic| with_reducible conv=>whnf)
local macro_rules | `(tactic| walk_at "py1")=>do
 let a<-[`dw0,`b_add,`b_sub,`g_int,`g_bl,`g_ref,`g_tbl,`c_lt,`c_gt,`c_le,`c_ge,`c_eqI,`c_neI,`c_eqS,`c_isN,`c_notN,`ag_add,`ln_scr,`ln_tup,`in_bl,`sl_scr,`it_tup].toArray.mapM λn=>`(tactic| refine $(Lean.mkIdent n) ?_)
 let c<-[`ln_lst,`tp_lst,`ls_lst,`sl_lst,`it_lst,`dc_of].toArray.mapM λn=>`(tactic| ((with_reducible apply $(Lean.mkIdent n)); (· walk_at "look")))
 `(tactic| first
 |(with_reducible first $[| $a:tactic]*)
 |((with_reducible apply Sb);(· exact rfl))
 |((with_reducible apply PD);(· walk_at "setl"))|((with_reducible apply Pv);(· (simp![bindL,Ϻ,aa];exact rfl)))|((with_reducible apply b_mul);(· walk_at "mul"))|((with_reducible apply b_fdiv);(· walk_at "ar"))|((with_reducible apply b_mod);(· walk_at "ar"))|((with_reducible apply Qf);(· walk_at "ar");(· simp![Int.reduceToNat,Int.reducePow];exact rfl))|((with_reducible apply UD);(· walk_at "look");(· walk_at "look");(· first|(simp![aE,aY,Ð,ī];decide)|lia))|((with_reducible apply L9);(· walk_at "ar"))
 |((with_reducible apply fc);(· exact rfl))|((with_reducible apply Zf);(· walk_at "look");(· exact rfl))
 |((with_reducible apply Yn);(· walk_at "look");(· walk_at "ar"))|((with_reducible apply PK);(· walk_at "look");(· exact rfl))|((with_reducible apply LG);(· walk_at "look");(· exact rfl))
 |((with_reducible apply Eh);(· exact rfl))|((with_reducible apply fU);(· decide))
 | ((with_reducible apply Pd);(· first | exact .inl rfl | exact .inr (.inl rfl) | simp);(· walk_at "look")) | ((with_reducible apply P2);(· first | exact rfl | simp);(· walk_at "look")) | ((with_reducible apply Z3);(· walk_at "look");(· walk_at "ar")) | (first $[| $c:tactic]*))
local macro_rules | `(tactic| fail)=>`(tactic| ((repeat walk_at "py1"); walk_at "w"))
local macro_rules | `(tactic| walk_at "p")=>`(tactic| ((repeat first | walk_at "py1" | refine fV rfl ?_ | refine fW rfl ?_); walk_at "w"))
local macro_rules | `(tactic| exists $e)=>`(tactic| (fail; refine $e ?_))
local macro_rules | `(tactic| refine' $e)=>`(tactic| (fail; refine $e))
section
variable {α:Type}(val:α->Val)
abbrev Ze(kvs:List<|Int×α):List<|Val×Val:=kvs.map λp=>(.int p.1,val p.2)
abbrev Zr(kvs:List<|Int×α)(k:Int)(v:α):List<|Int×α:=if(kvs.lookup k).isSome then kvs.map (λp=>if p.1=k then(k,v)else p)else kvs++[(k,v)]
abbrev Zd(kvs:List<|Int×α)(k:Int):List<|Int×α:=kvs.filter λp=>gB (p.1≠k)
variable {val}
def Jo(a b:Int):(Val.int a==Val.int b)=gB (a=b):=by
 by_cases e:a=b
 .subst e;simp
 .rw[gx e];exact beq_eq_false_iff_ne.mpr λz=>e (by injection z)
def Z2(kvs:List<|Int×α)(k:Int):fy (Ze val kvs) (.int k)=(kvs.lookup k).map val:=by
 induction kvs with
 |nil=>rfl
 |cons p r ih =>
  unfold fy Ze at ih ⊢;rw[Ñ,ę,Ú,Jo];by_cases e:p.1=k
  .have:(k==p.1)=eU:=by simp[e]
   simp[e]
  .have h2:(k==p.1)=eV:=by simpa using λz=>e z.symm
   rw[gx e,h2];exact ih
def YU(kvs:List<|Int×α)(k:Int):fz (Ze val kvs) (.int k)=(kvs.lookup k).isSome:=by
 induction kvs with
 |nil=>rfl
 |cons p r ih =>
  unfold fz Ze at ih ⊢;rw[Ñ,Ğ,Ú,Jo];by_cases e:p.1=k
  .simp[e]
  .have h2:(k==p.1)=eV:=by simpa using λz=>e z.symm
   rw[gx e,h2];exact ih
def ZZ(kvs:List<|Int×α)(k:Int)(v:α):fA (Ze val kvs) (.int k) (val v)=Ze val (Zr kvs k v):=by
 unfold fA Zr;rw[YU];split
 .unfold Ze;rw[õ,õ];refine ý λp _=>?_;simp![b5,Jo];by_cases e:p.1=k
  .simp[e]
  .simp[e]
 .unfold Ze;rw[Ý];rfl
def Wx(kvs:List<|Int×α)(k:Int):fB (Ze val kvs) (.int k)=Ze val (Zd kvs k):=by
 unfold fB Zd Ze;induction kvs with
 |nil=>rfl
 |cons p r ih =>rw[Ñ,Ā,Ā,Jo,ih];by_cases e:p.1=k<;>simp[e]
def Wh(ns:List Int):fe (ns.map Val.int)=eQ ns:=by
 induction ns with
 |nil=>rfl
 |cons n ns ih=>show(fe<|ns.map Val.int).map _=_;rw[ih];rfl
def Ev(kvs:List<|Int×α):keysOf (Ze val kvs)=eQ (kvs.map (·.1)):=by unfold keysOf Ze;rw[õ];exact(congrArg fe (õ (f:=λp:Int×α=>p.1) (g:=Val.int) (l:=kvs)).symm).trans (Wh _)
def JK(kvs:List<|Int×α):(Ze val kvs).length=kvs.length:=by unfold Ze;rw[Á]
variable {kvs:List (Int×α)}
def Zh(h:kvs.lookup k=eQ v):(k,v)∈kvs:=by
 induction kvs with
 |nil=>cases h
 |cons p r ih =>
  rw[Ú]at h;by_cases e:k=p.1
  .have:(k==p.1)=eU:=by simp[e]
   rw[this]at h;cases h;rw[e];exact å
  .have:(k==p.1)=eV:=⇑e
   rw[this]at h;exact Ø _<|ih h
def ZT(h:k∈kvs.map (·.1)):∃v,kvs.lookup k=eQ v:=by
 induction kvs with
 |nil=>cases h
 |cons p r ih =>
  rw[Ú];by_cases e:k=p.1
  .have:(k==p.1)=eU:=by simp[e]
   rw[this];exact⟨_,rfl⟩
  .have:(k==p.1)=eV:=⇑e
   rw[this];rw[Ñ,Å]at h;exact ih<|h.resolve_left e
def Xv(h:kvs.lookup k=eS):k∉kvs.map (·.1):=λm=>by let⟨v,e⟩:=ZT m;rw[h]at e;cases e
def XB(nd:(kvs.map (·.1)).Nodup)(h:(k,v)∈kvs):kvs.lookup k=eQ v:=by
 induction kvs with
 |nil=>cases h
 |cons p r ih =>
  rw[Ñ,ó]at nd;rw[Ú];rcases Å.mp h with e|h
  .subst e;simp
  .have:k≠p.1:=λz=>nd.1 (z▸Ć (f:=(·.1)) h);have:(k==p.1)=eV:=⇑this
   rw[this];exact ih nd.2 h
def Wn(kvs:List<|Int×α)(k:Int)(v:α):(Zr kvs k v).map (·.1)=if(kvs.lookup k).isSome then kvs.map (·.1)else kvs.map (·.1)++[k]:=by
 unfold Zr;split
 .rw[õ];refine ý λp _=>?_;simp![b5];by_cases e:p.1=k<;>simp[e]
 .rw[Ý];rfl
def Wm(v:α)(h:k∉kvs.map (·.1)):Zr kvs k v=kvs++[(k,v)]:=by
 unfold Zr;have:kvs.lookup k=eS:=by
  cases e:kvs.lookup k with
  |none=>rfl
  |some w=>exact gA (Ć (f:=(·.1))<|Zh e) h
 rw[this];rfl
def XE(nd:(kvs.map (·.1)).Nodup)(k:Int)(v:α):((Zr kvs k v).map (·.1)).Nodup:=by
 rw[Wn];split
 .exact nd
 .rename_i h;have h:kvs.lookup k=eS:=az.mp h;rw[è];refine⟨nd,by simp,λa ha b hb=>?_⟩;rw[á.mp hb];exact λe=>Xv h<|e▸ha
variable {p:Int×α}
def Wg(h:p∈Zr kvs k v):p=(k,v)\/p∈kvs:=by
 unfold Zr at h;split at h
 .obtain⟨q,hq,e⟩:=Ô.mp h;split at e
  .exact .inl e.symm
  .exact .inr<|e▸hq
 .rcases ê.mp h with h|h
  .exact .inr h
  .exact .inl<|á.mp h
def OF(kvs:List<|Int×α)(k:Int):(Zd kvs k).Sublist kvs:=ě
def YD(nd:(kvs.map (·.1)).Nodup)(k:Int):((Zd kvs k).map (·.1)).Nodup:=nd.sublist ((OF kvs k).map _)
def Gy(h:p∈Zd kvs k):p.1≠k:=by unfold Zd at h;have:=(ï.mp h).2;simpa using this
end
def Z7:∀{m:Nat}{ns:List Int},ns.Nodup->(∀x∈ns,0<=x/\x<m)->ns.length<=m
 |0,ns,nd,h=>by
  cases ns with
  |nil=>exact Ï _
  |cons x xs=>have:=h x å;lia
 |m+1,ns,nd,h=>by
  by_cases hm:(m:Int)∈ns
  .have:=Z7 (m:=m) (nd.erase (m:Int)) λx hx=>by
    have h1:=(nd.mem_erase_iff).mp hx;have h2:=h x h1.2;have:=h1.1;lia
   rw[bS hm]at this;lia
  .have:=Z7 (m:=m) nd λx hx=>by
    have h2:=h x hx;have:x≠(m:Int):=λe=>hm<|e▸hx;lia
   lia
noncomputable abbrev Pi:=Int×Int
noncomputable abbrev pV(p:Pi):Val:=.tup [.int p.1,.int p.2]
abbrev oV:Option Pi->Val
 |none=>.non
 |some p=>pV p
structure L where
 num:Pi
 st:Pi
 root:Int
 cost:Int
 age:Int
 rests:Option Pi
 agrees:Option Pi
noncomputable abbrev L.v(l:L):Val:=.tup [pV l.num,pV l.st,.int l.root,.int l.cost,.int l.age,oV l.rests,oV l.agrees]
noncomputable abbrev BN(t:Int×Int):Val:=.tup [.int t.1,.int t.2]
noncomputable abbrev hdV(t:L×Int):Val:=.tup [t.1.v,.int t.2]
structure Lab where
 root:Int
 cost:Int
 up:Option<|Int×Pi
 deriving DecidableEq
abbrev upV:Option (Int×Pi)->Val
 |none=>.non
 |some p=>.int p.1
abbrev rsV:Option (Int×Pi)->Val
 |none=>.non
 |some p=>pV p.2
noncomputable abbrev Lab.v(l:Lab):Val:=.tup [.int l.root,.int l.cost,upV l.up,rsV l.up]
structure Br where
 number:Int
 life:Int
 most:Int
 ties:List<|Int×(Int×Int)
 held:List<|Int×(L×Int)
 label:Lab
 version:Int
 count:Int
structure fh(h:Hs)(b t d:Ad)(B:Br):Prop where
 ins:h b=eQ (.ins "Bridge" [("number",.int B.number),("life",.int B.life),("age_let_go",.int B.most),("ties_by_place",.ref t),("held_by_place",.ref d),("label_now",B.label.v),("version",.int B.version),("ticks_had",.int B.count)])
 ties:h t=eQ (.dct<|Ze BN B.ties)
 held:h d=eQ (.dct<|Ze hdV B.held)
 ne:t≠d
variable {h:Hs}{b:Ad}{o:Ob}
def Fc(ha:h a=eQ o)(hb:h b=eQ u)(ne:o≠u):a≠b:=λe=>by subst e;rw[ha]at hb;exact ne (ð hb)
variable {B:Br}
def fh.nbt(x:fh h b t d B):b≠t:=Fc x.ins x.ties nofun
def fh.nbd(x:fh h b t d B):b≠d:=Fc x.ins x.held nofun
structure Ex(S:List Ad)(h g:Hs):Prop where
 get:∀{a:Ad}{o:Ob},a∉S->h a=eQ o->g a=eQ o
def Ex.refl{S:List Ad}:Ex S h h:=⟨λ_ e=>e⟩
variable {g:Hs}
def Ex.trans{S:List Ad}(e:Ex S h g)(f:Ex S g k):Ex S h k:=⟨λn x=>f.get n<|e.get n x⟩
def Ex.of{S:List Ad}(e:Ext h g):Ex S h g:=⟨λ_ x=>e.get x⟩
def Ex.upd{S:List Ad}(m:w∈S):Ex S h<|upd h w o:=⟨λ{a _} n x=>by rw[eW λe:a=w=>n<|by rw[e];exact m];exact x⟩
def Ex.sub{S:List Ad}(e:Ex S h g)(m:∀a∈S,a∈T):Ex T h g:=⟨λn x=>e.get (λz=>n<|m _ z) x⟩
variable {p:Ad}
def Ex.none(e:Ex [b] h g)(hb:g b≠eS)(hp:g p=eS):h p=eS:=by
 cases z:h p with
 |none=>rfl
 |some o =>
  by_cases hpb:p=b
  .subst hpb;exact gA hp hb
  .rw[e.get ⇑hpb z]at hp;cases hp
def fh.keep{S:List Ad}(x:fh h b t d B)(e:Ex S h g)(hb:b∉S)(ht:t∉S)(hd:d∉S):fh g b t d B:=⟨e.get hb x.ins,e.get ht x.ties,e.get hd x.held,x.ne⟩
def fh.ext(x:fh h b t d B)(e:Ext h g):fh g b t d B:=⟨e.get x.ins,e.get x.ties,e.get x.held,x.ne⟩
def nw(q:∀p,h p=eS->Q (.ref p) (upd h p o)):new h o Q:=Xi q
abbrev ZP(most:Int)(held:List<|Int×(L×Int)):List<|Int×(L×Int):=held.filterMap λp=>if p.2.2+1<most then eQ (p.1,(p.2.1,p.2.2+1))else eS
variable {most:Int}
def A2{held:List (Int×(L×Int))}{p:Int×(L×Int)}(h:p∈ZP most held):∃a,(p.1,(p.2.1,a))∈held:=by
 let⟨q,hq,e⟩:=ω.mp h;split at e
 .cases e;exact⟨_,hq⟩
 .cases e
def Jt(most:Int)(held:List<|Int×(L×Int)):((ZP most held).map (·.1)).Sublist (held.map (·.1)):=by
 unfold ZP;induction held with
 |nil=>exact ŭ _
 |cons p r ih =>
  rw[đ];split
  .exact ih.cons _
  .rename_i q e;split at e
   .cases e;exact ih.cons₂ _
   .cases e
def By(most:Int)(held:List<|Int×(L×Int)):(ZP most held).length<=held.length:=bP _ _
def YK{α β:Type}{f:α->β}:∀{xs:List α}{i:Nat}{q:α},(xs.map f).Nodup->xs[i]?=eQ q->f q∉(xs.take i).map f
 |[],_,_,_,h=>by simp at h
 |x::xs,0,_,_,_=>by simp
 |x::xs,i+1,q,nd,h=>by
  rw[Ñ,ó]at nd;have h:xs[i]?=eQ q:=⇑h
  rw[ϵ,Ñ,Å,not_or];exact⟨λe=>nd.1<|e▸Ć (ã h),YK nd.2 h⟩
variable {α:Type}{xs:List α}{i:Nat}{x:α}
def Zo(h:xs[i]?=eQ x):xs.take (i+1)=xs.take i++[x]:=by rw[Ÿ,h];rfl
def ZJ{v:Val}(h:(xs.map f)[i]?=eQ v):∃x,xs[i]?=eQ x/\v=f x:=by rw[Ù]at h;let⟨x,h1,h2⟩:=Í.mp h;exact⟨x,h1,h2.symm⟩
variable {kvs:List (Int×α)}
def Ow(h:((Ze val kvs).map<|itemOf eV)[i]?=eQ v):∃p,kvs[i]?=eQ p/\v=.tup [.int p.1,val p.2]:=by let⟨q,h1,rfl⟩:=ZJ h;unfold Ze at h1;rw[Ù]at h1;let⟨x,h2,rfl⟩:=Í.mp h1;exact⟨x,h2,rfl⟩
def Iz(kvs:List<|Int×α):((Ze val kvs).map<|itemOf eV).length=kvs.length:=by rw[Á,JK]
variable {P:Pg}[Al P]{n:Nat}{h:Hs}{b t d st a f:Ad}{S B:Br}{c:Int}{Q:Q1}{X:XQ}
def EU(x:fh h b t d B)(k:Q B.label.v h):wF P (n+1) "Bridge.label" [.ref b] h Q X:=by let⟨hi,ht,hd,Ş⟩:=x;refine Kf ?_;refine' k
def Xo(x:fh h b t d B)(k:Q (pV (B.life,B.version)) h):wF P (n+1) "Bridge.stamp" [.ref b] h Q X:=by let⟨hi,ht,hd,Ş⟩:=x;refine JT ?_;refine' k
abbrev hdO:Option (L×Int)->Val
 |none=>.non
 |some p=>hdV p
def MQ{p:Int}(x:fh h b t d B)(k:Q (hdO<|B.held.lookup p) h):wF P (n+1) "Bridge.held" [.ref b,.int p] h Q X:=by
 let⟨hi,ht,hd,Ş⟩:=x;refine Kv ?_
 exists Qt (v:=.int p) hd rfl
 rw[Z2];cases e:B.held.lookup p with
 |none=>rw[e]at k;exact k
 |some q=>rw[e]at k;exact k
def Hj(x:fh h b t d B)(nd:(B.held.map (·.1)).Nodup)(hl:B.held.length<1000)(k:∀d' g,h d'=eS->fh g b t d' {B with held:=ZP B.most B.held}->Ex [b] h g->Q .non g):wF P (n+1) "Bridge.let_grow_older" [.ref b] h Q X:=by
 let⟨hi,ht,hd,Ş⟩:=id x;refine Yv ?_;fail;intro p hp;have npd:=Za hd hp;have npb:=Za hi hp;have npt:=Za ht hp;have nbd:=x.nbd;refine' Zp (λi e g=>Sm2 λu v=>Cj4 (e=[eQ<|.ref b,eQ<|.ref p,u,v]) (g p=eQ (.dct<|Ze hdV<|ZP B.most<|B.held.take i)) (g d=eQ (.frz<|Ze hdV B.held))<|Ex [d] h g) ⟨eS,eS,rfl,by rw[eW npd.symm];exact eX,eX,?_⟩ ?_ ?_ ?_
 .exact⟨λm e=>by rw[eW λz=>m<|by simp[z],eW<|Za e hp];exact e⟩
 .rintro i e g hi2 ⟨u,v,rfl,h1,h2,h3⟩;exact h2
 .rintro i v e g hv ⟨u,w,rfl,h1,h2,h3⟩ K hK;let⟨q,hq,rfl⟩:=Ow hv;have hi1:=h3.get ⇑nbd hi;let⟨pl,l,a⟩:=q;have e1:ZP B.most (B.held.take<|i+1)=ZP B.most (B.held.take i)++ZP B.most [(pl,(l,a))]:=by
   unfold ZP;rw[Zo hq,List.filterMap_append]
  refine' fX (λhc=>?_) (λhc=>?_)
  .refine' Yk (k:=.int pl) h1 ⟨rfl,?_⟩ ?_
   .rw[JK];have h5:=By B.most<|B.held.take i;have h6:(B.held.take i).length<=B.held.length:=Ϩ _ _;exact Õ (Ö h5 h6) (χ hl<|by decide)
   fail;rw[show Val.tup [l.v,.int<|a+1]=hdV (l,a+1) from rfl,ZZ];refine hK _ _ ⟨_,_,rfl,?_,?_,?_⟩
   .rw[eX,e1,Wm]
    .unfold ZP;rw[đ,gu hc];rfl
    .exact λm=>YK nd hq<|(Jt _ _).subset m
   .rw[eW npd];exact h2
   .exact⟨λm e=>by rw[eW<|Za e hp];exact h3.get m e⟩
  .refine' hK _ _ ⟨_,_,rfl,?_,h2,h3⟩;rw[h1,e1];unfold ZP;rw[đ,gw hc];simp
 .rintro e g ⟨u,v,rfl,h1,h2,h3⟩;have hi1:=h3.get ⇑nbd hi;rw[Iz,ü]at h1;refine⟨h2,?_⟩;refine' k p _ hp ⟨eX,?_,?_,npt⟩ ?_
  .rw[eW x.nbt.symm,eW Ş];exact h3.get ⇑Ş ht
  .rw[eW npb.symm,eW npd.symm];exact h1
  .refine⟨λ{c o} m e=>?_⟩;rw[eW<|by simpa using m];by_cases aP:c=d
   .subst aP;rw[eX,<-e];exact hd.symm
   .rw[eW aP];exact h3.get ⇑aP e
def G8(x:α)(xs:List α):atI (x::xs) 0=eQ x:=by unfold atI ixN;rw[gu ↥1,gu<|by simp];rfl
abbrev XG(r:List Int):Val:=.tup<|r.map .int
def OG(rows:List<|List Int):rowsOf (rows.map XG)=eQ rows:=by
 induction rows with
 |nil=>rfl
 |cons r rs ih =>show(fe<|r.map .int).bind (λns=>(rowsOf<|rs.map XG).map (ns :: ·))=_;rw[Wh,ih];rfl
abbrev YF(number:Int)(rows:List<|List Int):Option<|List Int:=match rows.filter (λr=>gB (r.headD 0<number))with
 |[]=>eS
 |x::r=>eQ<|minR x r
abbrev G7:Option (List Int)->Val
 |none=>.non
 |some r=>XG r
def Wk:∀(r:List<|List Int) (x:List Int),minR x r∈x::r
 |[],x=>å
 |y::r,x=>by
  show minR (if fL y x then y else x) r∈x::y::r;have h:=Wk r (if fL y x then y else x);rcases Å.mp h with e|h
  .rw[e];split
   .simp
   .simp
  .simp[h]
variable {number:Int}
def N3(h:YF number rows=eQ m):m∈rows:=by
 unfold YF at h;split at h
 .cases h
 .rename_i x r e;cases h;have:minR x r∈rows.filter (λr=>gB (r.headD 0<number)):=by rw[e];exact Wk r x
  exact(ï.mp this).1
variable {l:Ad}
def HB(hl:h l=eQ (.lst<|rows.map XG))(h0:∀r∈rows,r≠[])(hn:rows.length<1000)(k:∀g,Ext h g->Q (G7<|YF number rows) g):wF P (n+1) "best_offer" [.int number,.ref l] h Q X:=by
 refine Nf ?_;refine' ⟨by rw[Á];exact χ hn ↥1,?_⟩;refine XA (λv=>match v with|.tup (.int i::xs)=>if i<number then eQ v else eS|_=>eS) (lsE hl) ?_ ?_
 .intro v hv K hK;let⟨r,hr,rfl⟩:=Ô.mp hv;cases r with
  |nil=>exact gA rfl<|h0 _ hr
  |cons i xs =>
   have hK:K (if i<number then eQ (XG<|i::xs)else eS) h:=hK;rw[show XG (i::xs)=.tup (.int i::xs.map .int) from rfl]at hK ⊢
   exists fc (G8 _ _)
   refine' fX (λhc=>?_) (λhc=>?_)
   .rw[gu hc]at hK;refine' hK
   .rw[gw hc]at hK;exact hK
 .refine Xi λp hp=>?_;fail;have e1:(rows.map XG).filterMap (λv=>match v with|.tup (.int i::xs)=>if i<number then eQ v else eS|_=>eS)=(rows.filter λr=>gB (r.headD 0<number)).map XG:=by
   clear hl k hn;induction rows with
   |nil=>rfl
   |cons r rs ih =>
    have ih:=ih λr hr=>h0 r<|Ø _ hr;cases r with
    |nil=>exact gA rfl<|h0 _ å
    |cons i xs =>
     rw[Ñ,đ,Ā];by_cases hc:i<number
     .simp only[XG,Ñ,gu hc,List.headD_cons,hc,decide_true,if_true]at ih ⊢;rw[ih]
     .simp only[XG,Ñ,gw hc,List.headD_cons,hc,decide_false,ā,if_false]at ih ⊢;rw[ih]
  rw[e1];have hx:Ext h<|upd h p<|.lst<|(rows.filter λr=>gB (r.headD 0<number)).map XG:=Ext.new hp;cases e2:rows.filter λr=>gB (r.headD 0<number)with
  |nil =>rw[e2]at hx;refine Qg eX ?_;have:=k _ hx;unfold YF at this;rw[e2]at this;exact this
  |cons x r =>rw[e2]at hx;refine FB eX (OG<|x::r) ?_;have:=k _ hx;unfold YF at this;rw[e2]at this;exact this
abbrev Xs(ties:List<|Int×(Int×Int))(p:Int):Int×Int:=(ties.lookup p).getD (0,0)
abbrev JM(ties:List<|Int×(Int×Int))(q:Int×(L×Int)):List Int:=[q.2.1.root,q.2.1.cost+(Xs ties q.1).2,(Xs ties q.1).1,q.1]
abbrev YV(ties:List<|Int×(Int×Int))(held:List<|Int×(L×Int)):List<|List Int:=held.map<|JM ties
abbrev Us(held:List<|Int×(L×Int))(p:Int):Pi:=((held.lookup p).map (·.1.st)).getD (0,0)
abbrev Ym(B:Br):Lab:=match YF B.number (YV B.ties B.held)with
 |none=>⟨B.number,0,eS⟩
 |some m=>⟨m.getD 0 0,m.getD 1 0,eQ (m.getD 3 0,Us B.held<|m.getD 3 0)⟩
def IX{p:Int}(h:(ties.lookup p).isSome=eU):ties.lookup p=eQ (Xs ties p):=by
 unfold Xs;cases e:ties.lookup p with
 |none=>rw[e]at h;cases h
 |some v=>rfl
def BY(x:fh h b t d B)(sub:∀q∈B.held,(B.ties.lookup q.1).isSome=eU)(hn:B.held.length<1000)(k:∀g,Ext h g->Q (Ym B).v g):wF P (n+2) "Bridge.reckon_label" [.ref b] h Q X:=by
 let⟨hi,ht,hd,Ş⟩:=id x;refine YS ?_;refine' Xi λp hp=>?_;have npd:=Za hd hp;have npb:=Za hi hp;have npt:=Za ht hp;have nbd:=x.nbd;refine' Zp (λi e g=>Sm4 λu v w z=>Cj4 (e=[eQ<|.ref b,eQ<|.ref p,u,v,w,z,eS,eS]) (g p=eQ (.lst<|(YV B.ties<|B.held.take i).map XG)) (g d=eQ (.frz<|Ze hdV B.held))<|Ex [d] h g) ⟨eS,eS,eS,eS,rfl,by rw[eW npd.symm];exact eX,eX,?_⟩ ?_ ?_ ?_
 .exact⟨λm e=>by rw[eW λz=>m<|by simp[z],eW<|Za e hp];exact e⟩
 .rintro i e g hi2 ⟨u,v,w,z,rfl,h1,h2,h3⟩;exact h2
 .rintro i v e g hv ⟨u,v,w,z,rfl,h1,h2,h3⟩ K hK;let⟨q,hq,rfl⟩:=Ow hv;have hi1:=h3.get ⇑nbd hi;have ht1:=h3.get ⇑Ş ht;have hs:=IX<|sub q<|ã hq;let⟨pl,l,a⟩:=q;generalize htt:Xs B.ties pl=tt at hs;let⟨nb,c⟩:=tt;refine' ZV ht1 rfl (by rw[Z2,hs];rfl) ?_;refine' Z3 h1 ?_ ?_
  .rw[Á];unfold YV;rw[Á];exact Õ (Ϩ _ _) (χ hn<|by decide)
  dsimp only;refine' hK _ _ ⟨_,_,_,_,rfl,?_,?_,?_⟩
  .rw[eX,Zo hq];unfold YV JM;rw[Ý,Ý,Ñ,htt];rfl
  .rw[eW npd];exact h2
  .exact⟨λm e=>by rw[eW<|Za e hp];exact h3.get m e⟩
 .rintro e g ⟨u,v,w,z,rfl,h1,h2,h3⟩;have hi1:=h3.get ⇑nbd hi;have hi2:upd g d (.dct<|Ze hdV B.held) b=_:=upd_ne' nbd hi1;rw[Iz,ü]at h1;have h1':upd g d (.dct<|Ze hdV B.held) p=_:=upd_ne' npd.symm h1;have hx:Ext h<|upd g d<|.dct<|Ze hdV B.held:=⟨λ{c o} e=>by
    by_cases aP:c=d
    . subst aP;rw[eX,<-e];exact hd.symm
    . rw[eW aP];exact h3.get ⇑aP e⟩
  have bT:upd g d (.dct<|Ze hdV B.held) d=_:=eX;refine⟨h2,?_⟩;generalize upd g d (.dct<|Ze hdV B.held)=g2 at hi2 h1' hx bT ⊢;refine' HB h1' ?_ ?_ λg3 h3=>?_
  .intro r hr;unfold YV at hr;let⟨q,_,rfl⟩:=Ô.mp hr;unfold JM;simp
  .unfold YV;rw[Á];exact hn
  have hi3:=h3.get hi2;have hd3:=h3.get bT;have kk:=k g3<|hx.trans h3;unfold Ym at kk;fail;cases e:YF B.number (YV B.ties B.held)with
  |none =>rw[e]at kk;simp![G7];refine fX (λhc=>?_) λhc=>gA trivial hc;refine' kk
  |some m =>rw[e]at kk;have hm:=N3 e;unfold YV at hm;let⟨q,hq,rfl⟩:=Ô.mp hm;refine fX (λhc=>(by simp[G7,XG]at hc)) λhc=>?_;have hlk:∃y,B.held.lookup q.1=eQ y:=ZT (Ć (f:=(·.1)) hq);let⟨y,hy⟩:=hlk;unfold JM at kk ⊢;simp![G7,XG,Ñ,ϒ];refine' ZV hd3 rfl (by rw[Z2,hy];rfl) ?_;fail;unfold Us at kk;simp![List.getD_cons_succ,List.getD_cons_zero]at kk;rw[hy]at kk;exact kk
abbrev Gv(l:Lab):D:=.tup [.int l.root,.int l.cost,(match l.up with|none=>.non|some p=>.int p.1),(match l.up with|none=>.non|some p=>.tup [.int p.2.1,.int p.2.2])]
def UM(h:Hs)(l:Lab):dat h deep l.v=eQ (Gv l):=by let⟨r,c,u⟩:=l;cases u<;>rfl
def Lm(h:Hs)(l m:Lab):eqV h l.v m.v=eQ (gB (l=m)):=by
 unfold eqV;rw[UM,UM];show eQ (D.eqv (Gv l)<|Gv m)=_;congr 1;let⟨r,c,u⟩:=l;let⟨r',c',u'⟩:=m;unfold Gv;cases u with
 |none=>cases u' with
  |none=>simp![D.eqv,D.eqvs,Ů];by_cases h1:r=r'<;>by_cases h2:c=c'<;>simp[h1,h2]
  |some q=>simp[D.eqv,D.eqvs]
 |some p=>cases u' with
  |none=>simp[D.eqv,D.eqvs]
  |some q =>let⟨p1,p2,p3⟩:=p;let⟨q1,q2,q3⟩:=q;simp![D.eqv,D.eqvs,Ů];by_cases h1:r=r'<;>by_cases h2:c=c'<;>by_cases h3:p1=q1<;>by_cases h4:p2=q2<;>by_cases h5:p3=q3<;>simp[h1,h2,h3,h4,h5]
abbrev taken(B:Br)(l:Lab):Br:=if l=B.label then B else {B with label:=l,version:=B.version+1}
variable {u:Val}{KB:Bool->Prop}
def HV{v:Val}{c:Bool}(e:eqV h v u=eQ c)(q:KB (!c)):go (fu h .ne v u) KB:=fb (by show(eqV h v u).map _=_;rw[e];rfl) q
def K4{v:Val}{c:Bool}(e:eqV h v u=eQ c)(q:KB c):go (fu h .eq v u) KB:=fb e q
def FY{l:Lab}(x:fh h b t d B)(k:∀g,fh g b t d (taken B l)->Ex [b] h g->Q .non g):wF P (n+1) "Bridge.take_label" [.ref b,l.v] h Q X:=by
 let⟨hi,ht,hd,Ş⟩:=id x;refine XH ?_
 exists HV (Lm h l B.label)
 fail;unfold taken at k;refine Hv (λhc=>?_) λhc=>?_
 .rw[gw hc]at k;refine' Yn eX (show(8:Nat)<900 by decide) ?_;refine' k _ ⟨?_,?_,?_,Ş⟩ ?_
  .rw[eY,eX];rfl
  .rw[eW x.nbt.symm,eW x.nbt.symm];exact ht
  .rw[eW x.nbd.symm,eW x.nbd.symm];exact hd
  .exact(Ex.upd<|by simp).trans (Ex.upd<|by simp)
 .rw[gu hc]at k;refine' k h x Ex.refl
def Rr(h:Hs)(r:Option Pi)(s:Pi):eqV h (oV r) (pV s)=eQ (gB (r=eQ s)):=by
 let⟨s1,s2⟩:=s;cases r with
 |none =>show eQ (D.eqv .non<|.tup [.int s1,.int s2])=_;simp[D.eqv]
 |some p =>let⟨p1,p2⟩:=p;show eQ (D.eqv (.tup [.int p1,.int p2])<|.tup [.int s1,.int s2])=_;congr 1;simp![D.eqv,D.eqvs,Ů];by_cases h1:p1=s1<;>by_cases h2:p2=s2<;>simp[h1,h2]
abbrev Wd(B:Br)(p:Int):Bool:=match B.held.lookup p with
 |none=>eV
 |some q=>gB (q.1.rests=eQ (B.life,B.version))
def MB{p:Int}(x:fh h b t d B)(k:Q (.bl<|Wd B p) h):wF P (n+2) "Bridge.is_rested_on" [.ref b,.int p] h Q X:=by
 let⟨hi,ht,hd,Ş⟩:=id x;refine YY ?_
 exists MQ x
 unfold Wd at k;fail;cases e:B.held.lookup p with
 |none =>rw[e]at k;refine Hv (λhc=>gA rfl hc) λhc=>?_;exact k
 |some q =>
  rw[e]at k;let⟨l,a⟩:=q;refine Hv (λhc=>?_) (λhc=>by simp[hdO]at hc);simp![hdO]
  exists Xo x
  refine K4 (Rr h _ _) ?_;exact k
abbrev Ch(u:Option<|Int×Pi)(p:Int):Bool:=match u with
 |none=>eV
 |some q=>gB (p=q.1)
abbrev WT(B:Br):Int:=match B.label.up with
 |none=>0
 |some q=>((B.held.lookup q.1).map (·.2)).getD 0+1
abbrev Zu(B:Br)(p:Int):L where
 num:=(B.life,B.count)
 st:=(B.life,B.version)
 root:=B.label.root
 cost:=B.label.cost
 age:=WT B
 rests:=if Ch B.label.up p then B.label.up.map (·.2)else eS
 agrees:=if Ch B.label.up p then eS else if Wd B p then eQ (Us B.held p)else eS
def E5(h:Hs)(p:Int)(u:Option<|Int×Pi):eqV h (.int p) (upV u)=eQ (Ch u p):=by
 cases u with
 |none=>rfl
 |some q =>show eQ (D.eqv (.int p)<|.int q.1)=_;rw[UQ];rfl
def GC{p:Int}(x:fh h b t d B)(hu:∀q,B.label.up=eQ q->(B.held.lookup q.1).isSome=eU)(k:Q (Zu B p).v h):wF P (n+3) "Bridge.letter_over" [.ref b,.int p] h Q X:=by
 let⟨hi,ht,hd,Ş⟩:=id x;refine Xa ?_;fail;have main:wSs (wF P<|n+2) #[.ite (.val<|.cmp .eq (.var 1)<|.var 4) #[.ret<|.bin .add (.var 7)<|.tup #[.var 5,.cst .non]] .nil,.ite (.val<|.meth "Bridge" "is_rested_on" (.var 0) #[.var 1]) #[.ret<|.bin .add (.var 7)<|.tup #[.cst .non,.idx (.idx (.idx (.fld (.var 0) "held_by_place")<|.var 1)<|.cst<|.int 0)<|.glob "STAMP"<|.int 1]] .nil,.ret<|.bin .add (.var 7)<|.tup #[.cst .non,.cst .non]]
   [eQ<|.ref b,eQ<|.int p,eQ<|.int B.label.root,eQ<|.int B.label.cost,eQ<|upV B.label.up,eQ<|rsV B.label.up,eQ<|.int<|WT B,eQ<|.tup [pV (B.life,B.count),pV (B.life,B.version),.int B.label.root,.int B.label.cost,.int<|WT B]] h (λ_ g=>Q .non g) Q (λ_ _=>False) (λ_ _=>False) λ_ c g=>X c g:=by
  exists K4 (E5 h p B.label.up)
  refine' fY (λhc=>?_) (λhc=>?_)
  .fail;unfold Zu at k;rw[hc]at k;cases e:B.label.up with
   |none=>rw[e]at hc;cases hc
   |some q=>rw[e]at k;exact k
  .exists MB x
   fail;unfold Zu at k;rw[hc]at k;refine fY (λhr=>?_) λhr=>?_
   .rw[hr]at k;unfold Wd at hr;cases e:B.held.lookup p with
    |none=>rw[e]at hr;cases hr
    |some q =>let⟨l,a⟩:=q;refine' ZV hd rfl (by rw[Z2,e];rfl) ?_;fail;unfold Us at k;rw[e]at k;exact k
   .rw[hr]at k;refine' k
 cases e:B.label.up with
 |none =>
  have ea:WT B=0:=by unfold WT;rw[e]
  rw[e,ea]at main;refine fX (λhc=>?_) λhc=>gA rfl hc
  exists Xo x
  walk_at "w"
  repeat (first|exact main|(walk_at "py1";walk_at "w"))
 |some q =>
  let⟨y,hy⟩:=ë.mp<|hu q e;have ea:WT B=y.2+1:=by unfold WT;rw[e];dsimp only;rw[hy];rfl
  rw[e,ea]at main;refine fX (λhc=>by cases hc) λhc=>?_;simp![upV];refine' ZV hd rfl (by rw[Z2,hy];rfl) ?_
  exists Xo x
  walk_at "w"
  repeat (first|exact main|(walk_at "py1";walk_at "w"))
variable {q:Int×Pi}
def Ae(hq:(Ym B).up=eQ q):(B.held.lookup q.1).isSome=eU:=by
 unfold Ym at hq;split at hq
 .cases hq
 .rename_i m e;have hm:=N3 e;unfold YV at hm;let⟨y,hy,rfl⟩:=Ô.mp hm;cases hq;let⟨v,hv⟩:=ZT (Ć (f:=(·.1)) hy);show(B.held.lookup y.1).isSome=eU;rw[hv];rfl
abbrev Br.grown(B:Br):Br:={B with held:=ZP B.most B.held}
abbrev Br.told(B:Br):Br:=taken B.grown<|Ym B.grown
abbrev Br.ticked(B:Br):Br:={B.told with count:=B.count+1}
abbrev ZX(B:Br):List Val:=(sortI (B.ties.map (·.1))).map λp=>.tup [.int p,(Zu B p).v]
def YL(B:Br)(l:Lab):(taken B l).held=B.held/\(taken B l).ties=B.ties/\(taken B l).count=B.count/\(taken B l).label=l/\(taken B l).number=B.number/\(taken B l).life=B.life/\(taken B l).most=B.most:=by
 unfold taken;split
 .rename_i e;exact⟨rfl,rfl,rfl,e.symm,rfl,rfl,rfl⟩
 .exact⟨rfl,rfl,rfl,rfl,rfl,rfl,rfl⟩
structure Br.ok(B:Br):Prop where
 nd:(B.held.map (·.1)).Nodup
 sub:∀q∈B.held,(B.ties.lookup q.1).isSome=eU
 nt:(B.ties.map (·.1)).Nodup
 rg:∀q∈B.ties,0<=q.1/\q.1<16
def Br.ok.tlen(o:B.ok):B.ties.length<=16:=by
 have:=Z7 (m:=16) o.nt λx hx=>by let⟨q,hq,rfl⟩:=Ô.mp hx;exact o.rg q hq
 simpa using this
def Br.ok.hlen(o:B.ok):B.held.length<=16:=by
 have:=Z7 (m:=16) o.nd λx hx=>by let⟨q,hq,rfl⟩:=Ô.mp hx;let⟨v,hv⟩:=ë.mp<|o.sub q hq;exact o.rg _<|Zh hv
 simpa using this
def Br.ok.grown(o:B.ok):B.grown.ok where
 nd:=o.nd.sublist<|Jt _ _
 sub:=λq hq=>by let⟨a,ha⟩:=A2 hq;exact o.sub (q.1,(q.2.1,a)) ha
 nt:=o.nt
 rg:=o.rg
def Br.ok.told(o:B.ok):B.told.ok:=by
 let⟨h1,h2,_⟩:=YL B.grown<|Ym B.grown;have g:=o.grown;refine⟨?_,?_,?_,?_⟩
 .show((taken B.grown<|Ym B.grown).held.map (·.1)).Nodup;rw[h1];exact g.nd
 .show ∀q∈(taken B.grown<|Ym B.grown).held,((taken B.grown<|Ym B.grown).ties.lookup q.1).isSome=eU;rw[h1,h2];exact g.sub
 .show((taken B.grown<|Ym B.grown).ties.map (·.1)).Nodup;rw[h2];exact g.nt
 .show ∀q∈(taken B.grown<|Ym B.grown).ties,_;rw[h2];exact g.rg
def Br.ok.ticked(o:B.ok):B.ticked.ok:=⟨o.told.nd,o.told.sub,o.told.nt,o.told.rg⟩
def F8(x:fh h b t d B)(o:B.ok)(k:∀p d' g,h p=eS->h d'=eS->fh g b t d' B.ticked->g p=eQ (.lst<|ZX B.told)->Ex [b] h g->p≠d'->Q (.ref p) g):wF P (n+4) "Bridge.tick" [.ref b] h Q X:=by
 let⟨hi,ht,hd,Ş⟩:=id x;have hlen:=o.hlen;refine KH ?_;refine' Hj x o.nd ↥0 λd' g hd' x1 e1=>?_;let⟨hi1,ht1,hd1,hne1⟩:=id x1;have og:=o.grown;have x1':fh g b t d' B.grown:=x1;refine' BY x1' og.sub (by have:=og.hlen;lia) λg2 e2=>?_;have x2:=x1'.ext e2;refine' FY x2 λg3 x3 e3=>?_;let⟨hi3,ht3,hd3,hne3⟩:=id x3;let⟨c1,c2,c3,c4,c5,c6,c7⟩:=YL B.grown<|Ym B.grown;have hties:B.told.ties=B.ties:=c2;refine' Ul ht3 (Ev _) ?_ (Xi λp1 cS=>?_)
 .rw[Á];have:=o.tlen;show B.told.ties.length<64;rw[hties];lia
 refine' ⟨?_,?_⟩
 .rw[Á,sortI,ŝ,Á];have:=o.tlen;show B.told.ties.length<lim;rw[hties];exact Õ this ↥1
 have x4:=x3.ext (Ext.new (o:=.lst ((sortI ((taken B.grown<|Ym B.grown).ties.map (·.1))).map Val.int)) cS);have up:∀q,(taken B.grown<|Ym B.grown).label.up=eQ q->((taken B.grown<|Ym B.grown).held.lookup q.1).isSome=eU:=λq hq=>by rw[c4]at hq;rw[c1];exact Ae hq
 refine XA (λv=>match v with|.int i=>eQ (.tup [.int i,(Zu B.told i).v])|_=>eS) (lsE eX) ?_ ?_
 .intro v hv K hK;let⟨i,hi,rfl⟩:=Ô.mp hv;let⟨hi4,ht4,hd4,hne4⟩:=id x4;fail;rw[gu rfl];change wE _ _ [eQ<|.int i,eQ<|.ref b] _ _ _
  exists GC x4 up
  refine' hK
 .refine Xi λp hp=>?_;have x5:=x4.ext<|Ext.new (o:=.lst<|ZX B.told) hp;have e0:((sortI ((taken B.grown<|Ym B.grown).ties.map (·.1))).map Val.int).filterMap (λv=>match v with|.int i=>eQ (.tup [.int i,(Zu B.told i).v])|_=>eS)=ZX B.told:=by
   rw[Β];unfold ZX;exact congrFun (List.filterMap_eq_map (f:=λi:Int=>Val.tup [.int i,(Zu B.told i).v])) _
  rw[e0];let⟨hi5,ht5,hd5,hne5⟩:=id x5;fail;have c3':(taken B.grown<|Ym B.grown).count=B.count:=c3;rw[c3'];have eg:Ex [b] h (upd g3 p1 (.lst ((sortI ((taken B.grown<|Ym B.grown).ties.map (·.1))).map Val.int))):=((e1.trans<|.of e2).trans e3).trans<|.of<|Ext.new cS;have hpn:h p=eS:=eg.none (by rw[x4.ins];intro z;cases z) hp;have npb:b≠p:=Za x4.ins hp;refine k p d' _ hpn hd' ⟨eX,?_,?_,x5.ne⟩ ?_ ?_ (Za x4.held hp).symm
  .rw[eW x5.nbt.symm];exact x5.ties
  .rw[eW x5.nbd.symm];exact x5.held
  .rw[eW npb.symm];exact eX
  .exact(eg.trans<|.of<|Ext.new hp).trans (Ex.upd<|by simp)
abbrev X4(S:Br)(p:Int)(l:L):Bool:=match S.held.lookup p with
 |none=>eU
 |some q=>fL [q.1.num.1,q.1.num.2] [l.num.1,l.num.2]
abbrev Zt(S:Br)(p:Int)(l:L):Br:=if(S.ties.lookup p).isSome then(if X4 S p l then {S with held:=Zr S.held p (l,l.age)} else S)else S
abbrev JV(S:Br)(p:Int):Br:={S with ties:=Zd S.ties p,held:=Zd S.held p}
abbrev upB(S:Br)(p:Int)(c:Int×Int):Br:=if(S.ties.lookup p).isSome then S else {S with ties:=Zr S.ties p c}
def Ci{k:Int}{v:α}{q:Int}:(kvs.lookup q).isSome=eU->((Zr kvs k v).lookup q).isSome=eU:=λh=>by
 let⟨x,hx⟩:=ë.mp h;have hm:q∈kvs.map (·.1):=Ć (f:=(·.1))<|Zh hx;have:q∈(Zr kvs k v).map (·.1):=by
  rw[Wn];split
  .exact hm
  .exact Ü _ hm
 let⟨y,hy⟩:=ZT this;rw[hy];rfl
def Br.ok.heard(o:S.ok){p:Int}{l:L}:(Zt S p l).ok:=by
 unfold Zt;split
 .rename_i h1;split
  .refine⟨XE o.nd _ _,λq hq=>?_,o.nt,o.rg⟩;rcases Wg hq with e|hq
   .rw[e];exact h1
   .exact o.sub q hq
  .exact o
 .exact o
def Yo{k:Int}{q:Int×α}(h:q∈Zd kvs k):q∈kvs:=(OF kvs k).subset h
def BL{k q:Int}(h:(kvs.lookup q).isSome=eU)(n:q≠k):((Zd kvs k).lookup q).isSome=eU:=by
 let⟨x,hx⟩:=ë.mp h;have:q∈(Zd kvs k).map (·.1):=by refine Ô.mpr ⟨(q,x),?_,rfl⟩;unfold Zd;exact ï.mpr ⟨Zh hx,⇑n⟩
 let⟨y,hy⟩:=ZT this;rw[hy];rfl
def Br.ok.down(o:S.ok)(p:Int):(JV S p).ok :=
 ⟨YD o.nd _,λq hq=>BL (o.sub q<|Yo hq)<|Gy hq,YD o.nt _,λq hq=>o.rg q<|Yo hq⟩
def Br.ok.up(o:S.ok){p:Int}{c:Int×Int}(h0:0<=p)(h1:p<16):(upB S p c).ok:=by
 unfold upB;split
 .exact o
 .refine⟨o.nd,λq hq=>Ci<|o.sub q hq,XE o.nt _ _,λq hq=>?_⟩;rcases Wg hq with e|hq
  .rw[e];exact⟨h0,h1⟩
  .exact o.rg q hq
def Ft{p:Int}{l:L}(x:fh h b t d B)(o:B.ok)(k:∀g,fh g b t d (Zt B p l)->Ex [d] h g->Q .non g):wF P (n+2) "Bridge.hear" [.ref b,.int p,l.v] h Q X:=by
 let⟨hi,ht,hd,Ş⟩:=id x;have hlen:=o.hlen;refine KI ?_
 exists XS ht rfl
 rw[YU];fail;unfold Zt at k;cases e:(B.ties.lookup p).isSome with
 |false =>rw[e]at k;refine fV rfl ?_;refine' k h x Ex.refl
 |true =>
  rw[e,gu rfl]at k;refine fW rfl ?_
  exists MQ x
  have put:(∀g,fh g b t d {B with held:=Zr B.held p (l,l.age)}->Ex [d] h g->Q .non g)->go (fP h (.ref d) (.int p)<|.tup [l.v,.int l.age]) λg=>Q .non g:=λk=>by refine Yk hd ⟨rfl,by rw[JK];exact Õ hlen<|by decide⟩ ?_;rw[show Val.tup [l.v,.int l.age]=hdV (l,l.age) from rfl,ZZ];exact k _ ⟨by rw[eW x.nbd];exact hi,by rw[eW Ş];exact ht,eX,Ş⟩ (Ex.upd<|by simp)
  fail;cases e2:B.held.lookup p with
  |none =>
   have et:X4 B p l=eU:=by unfold X4;rw[e2]
   rw[et,gu rfl]at k;refine fX (λhc=>?_) λhc=>gA rfl hc;refine fV rfl ?_;refine' Av (put k) λg q=>by fail;exact q
  |some q =>
   let⟨m,ag⟩:=q;have et:X4 B p l=fL [m.num.1,m.num.2] [l.num.1,l.num.2]:=by unfold X4;rw[e2]
   rw[et]at k;refine fX (λhc=>by simp[hdO]at hc) λhc=>?_;simp![hdO]
   exists F7
   exists IU (Wh [l.num.1,l.num.2]) (Wh [m.num.1,m.num.2])
   refine' fY (λhc=>?_) (λhc=>?_)
   .rw[gu hc]at k;refine' Av (put k) λg q=>by fail;exact q
   .rw[gw<|by rw[hc];decide]at k;refine' k h x Ex.refl
def F9{p:Int}(x:fh h b t d B)(k:∀g,fh g b t d (JV B p)->Ex [t,d] h g->Q .non g):wF P (n+1) "Bridge.down" [.ref b,.int p] h Q X:=by
 let⟨hi,ht,hd,Ş⟩:=id x;refine KA ?_
 exists AF ht rfl
 dsimp only;rw[Wx];have hi2:upd h t (.dct<|Ze BN<|Zd B.ties p) b=_:=upd_ne' x.nbt hi;have bT:upd h t (.dct<|Ze BN<|Zd B.ties p) d=_:=upd_ne' Ş.symm hd
 exists AF bT rfl
 dsimp only;rw[Wx];refine' k _ ⟨by rw[eW x.nbd];exact hi2,by rw[eW Ş];exact eX,eX,Ş⟩ ((Ex.upd<|by simp).trans<|Ex.upd<|by simp)
def Sd{p nb:Int}(x:fh h b t d B)(o:B.ok)(k:∀g,fh g b t d (upB B p (nb,c))->Ex [t] h g->Q .non g):wF P (n+1) "Bridge.up" [.ref b,.int p,.int nb,.int c] h Q X:=by
 let⟨hi,ht,hd,Ş⟩:=id x;have hlen:=o.tlen;refine ON ?_
 exists XS ht rfl
 rw[YU];fail;unfold upB at k;cases e:(B.ties.lookup p).isSome with
 |true =>rw[e,gu rfl]at k;refine fW rfl ?_;refine' k h x Ex.refl
 |false =>rw[e,gw<|by decide]at k;refine fV rfl ?_;refine' Yk ht ⟨rfl,by rw[JK];exact Õ hlen<|by decide⟩ ?_;rw[show Val.tup [.int nb,.int c]=BN (nb,c) from rfl,ZZ];refine' k _ ⟨by rw[eW x.nbt];exact hi,eX,by rw[eW Ş.symm];exact hd,Ş⟩ (Ex.upd<|by simp)
def SZ(h:Hs)(s:Pi)(u:Option<|Int×Pi):eqV h (pV s) (rsV u)=eQ (gB (u.map (·.2)=eQ s)):=by
 let⟨s1,s2⟩:=s;cases u with
 |none =>show eQ (D.eqv (.tup [.int s1,.int s2]) .non)=_;simp[D.eqv]
 |some p =>
  let⟨p0,p1,p2⟩:=p;show eQ (D.eqv (.tup [.int s1,.int s2])<|.tup [.int p1,.int p2])=_;congr 1;simp![D.eqv,D.eqvs,Ů,Ę];by_cases h1:s1=p1
  .subst h1;by_cases h2:s2=p2
   .subst h2;simp
   .have h3:¬ p2=s2:=λz=>h2 z.symm;simp[h2,h3]
  .have h3:¬ p1=s1:=λz=>h1 z.symm;simp[h1,h3]
abbrev JZ(B:Br)(p:Int):Bool:=match B.held.lookup p with
 |none=>eV
 |some q=>if q.1.agrees=eQ (B.life,B.version)then gB (B.label.up.map (·.2)=eQ q.1.st)else eV
def A7{p:Int}(x:fh h b t d B)(k:Q (.bl<|JZ B p) h):wF P (n+2) "Bridge.is_agreed_to" [.ref b,.int p] h Q X:=by
 let⟨hi,ht,hd,Ş⟩:=id x;refine YT ?_
 exists MQ x
 unfold JZ at k;fail;cases e:B.held.lookup p with
 |none =>rw[e]at k;refine fX (λhc=>?_) λhc=>gA rfl hc;refine fV rfl ?_;refine' k
 |some q =>
  rw[e]at k;let⟨l,a⟩:=q;refine fX (λhc=>by simp[hdO]at hc) λhc=>?_;simp![hdO]
  exists Xo x
  refine HV (Rr h _ _) ?_;refine' Hv (λhc=>?_) (λhc=>?_)
  .fail;rw[show(match eQ (l,a)with|none=>eV|some q=>if q.1.agrees=eQ (B.life,B.version)then gB (B.label.up.map (·.2)=eQ q.1.st)else eV)=eV from gw hc]at k;exact k
  .fail;rw[show(match eQ (l,a)with|none=>eV|some q=>if q.1.agrees=eQ (B.life,B.version)then gB (B.label.up.map (·.2)=eQ q.1.st)else eV)=gB (B.label.up.map (·.2)=eQ l.st) from gu hc]at k;refine K4 (SZ h _ _) ?_;exact k
abbrev Mh(B:Br)(p:Int):String:=if(B.ties.lookup p).isSome then(if Ch B.label.up p then(if JZ B p then "child" else "shut")else if Wd B p then "parent" else "shut")else "down"
def PN{p:Int}(x:fh h b t d B)(k:Q (.str<|Mh B p) h):wF P (n+3) "Bridge.end" [.ref b,.int p] h Q X:=by
 let⟨hi,ht,hd,Ş⟩:=id x;refine No ?_
 exists XS ht rfl
 rw[YU];fail;unfold Mh at k;cases e:(B.ties.lookup p).isSome with
 |false =>rw[e]at k;refine fV rfl ?_;refine' k
 |true =>
  rw[e,gu rfl]at k;refine fW rfl ?_
  exists K4 (E5 h p B.label.up)
  refine' fY (λhc=>?_) (λhc=>?_)
  .rw[hc,gu rfl]at k
   exists A7 x
   refine' fY (λhc=>?_) (λhc=>?_)
   .rw[hc]at k;refine' k
   .rw[hc]at k;refine' k
  .rw[hc,gw<|by decide]at k
   exists MB x
   refine' fY (λhc=>?_) (λhc=>?_)
   .rw[hc]at k;refine' k
   .rw[hc]at k;refine' k
def Zk(q:∀p g,h p=eS->Ext h g->g p=eQ o->Q (.ref p) g):new h o Q:=Xi λp hp=>q p _ hp (Ext.new hp) eX
variable {r:Int}
def YH(r0:0<=r)(e:xs[r.toNat]?=eQ x):atI xs r=eQ x:=by have:=(Ë.mp e).1;unfold atI ixN;rw[gu r0,gu<|by lia];exact e
def D3(r0:0<=r)(r1:r<xs.length):∃x,xs[r.toNat]?=eQ x/\x∈xs:=by
 have h:r.toNat<xs.length:=by lia
 exact⟨xs[r.toNat],È h,Ļ h⟩
def JO(r0:0<=r)(r1:r<xs.length):∃x,atI xs r=eQ x/\x∈xs:=by let⟨x,h1,h2⟩:=D3 r0 r1;exact⟨x,YH r0 h1,h2⟩
def Xm:∀ns:List Int,fe (ns.map .int)=eQ ns
 |[]=>rfl
 |n::ns=>by rw[Ñ,fe,Xm ns];rfl
def Kl:∀bs:List Bool,blsOf (bs.map .bl)=eQ bs
 |[]=>rfl
 |b::bs=>by rw[Ñ,blsOf,Kl bs];rfl
def MC{x:Int}:∀{ns:List Int},x∈dedup ns↔x∈ns
 |[]=>by simp[dedup]
 |n::ns=>by rw[dedup,Å,ï,MC,Å];by_cases h:x=n<;>simp[h]
def Oj:∀(ns:List Int),(dedup ns).length<=ns.length
 |[]=>by simp[dedup]
 |n::ns=>by have:=Oj ns;have:=ĝ (λy=>y != n)<|dedup ns;rw[dedup,Ð,Ð];lia
variable {m:Int}
def WA(h:(fI 0 m)[i]?=eQ v):v=.int i/\(i:Int)<m:=by unfold fI at h;rw[Ù]at h;let⟨k,hk,rfl⟩:=Í.mp h;let⟨Ϝ,rfl⟩:=Ë.mp hk;rw[Τ]at Ϝ;rw[List.getElem_range];exact⟨by rw[Int.zero_add],by lia⟩
def Nd:(fI 0 m).length=m.toNat:=by unfold fI;rw[Á,Τ,Int.sub_zero]
abbrev Brs(ns:List Int):Prop:=∀i∈ns,0<=i/\i<1000
noncomputable abbrev Tie:=Int×Int×Int
abbrev trV(t:Tie):Val:=.tup [.int t.1,.int t.2.1,.int t.2.2]
abbrev LOk(ns:List Int)(t:Tie):Prop:=t.1∈ns/\t.2.1∈ns/\t.1<t.2.1/\1<=t.2.2/\t.2.2<=1000
structure fw(bs:List Int)(ts:List Tie):Prop where
 one:1<=bs.length
 ten:bs.length<=10
 rng:Brs bs
 up:bs.Pairwise (· < ·)
 sixteen:ts.length<=16
 tie:∀t∈ts,LOk bs t
abbrev ZC(bs:List Int)(ts:List Tie):Val:=.tup [.tup<|bs.map .int,.tup<|ts.map trV]
variable {ns:List Int}
def mem_sort{i:Int}:i∈sortI ns↔i∈ns:=(ν ns _).mem_iff
def M9(nd:ns.Nodup):(sortI ns).Pairwise (· < ·):=by have p:=ν ns λa b=>gB (a<=b);have s:(sortI ns).Pairwise λa b=>gB (a<=b)=eU:=bY (λa b c h1 h2=>by simp at *;lia) (λa b=>by simp;lia) ns;have d:(sortI ns).Nodup:=p.nodup_iff.mpr nd;exact(s.and d).imp λ⟨h1,h2⟩=>by simp at h1;lia
def Th(e:h a=eQ (.lst<|ns.map .int))(m:ns.length<64)(q:new h (.lst<|(sortI<|dedup ns).map .int) Q):(biV h .sortedSet [.ref a]).wp h Q:=wp_new (by show biSortedSet h (.ref a)=_;unfold biSortedSet sortOf;simp![e,fj,î,Xm];rw[gu m]) q
def Od:∀ns:List Int,(dedup ns).Nodup
 |[]=>ò
 |n::ns=>by rw[dedup,ó];refine⟨λz=>?_,(Od ns).sublist ě⟩;have:=(ï.mp z).2;simp at this
def Sk(ns:List Int):(sortI<|dedup ns).Pairwise (· < ·):=M9 (Od ns)
def Qb(ns:List Int):(sortI<|dedup ns).length<=ns.length:=by rw[sortI,ŝ];exact Oj ns
def LI(h:1<=ns.length):1<=(sortI<|dedup ns).length:=by
 rw[sortI,ŝ];cases ns with
 |nil=>exact gA h ↥1
 |cons n ns=>rw[dedup,Ð];lia
def sd_mem{i:Int}:i∈sortI (dedup ns)↔i∈ns:=by rw[mem_sort,MC]
def Kp(ns:List Int)(lo hi:Option Int):cut (ns.map Val.int) lo hi=(cut ns lo hi).map Val.int:=by unfold cut;rw[Á,List.map_take,List.map_drop]
def UK{a b:Int}(h0:0<=a)(h1:a<=b):cut xs (eQ a) (eQ b)=(xs.drop a.toNat).take (b.toNat - a.toNat):=by
 unfold cut fK;dsimp only;rw[gu h0,gu<|by lia];by_cases h:a.toNat<=xs.length
 .rw[Ϟ h];by_cases h2:b.toNat<=xs.length
  .rw[Ϟ h2]
  .rw[Nat.min_eq_right<|by lia];rw[cj (by rw[Ū];lia),cj<|by rw[Ū];lia]
 .rw[Ŗ (by lia:xs.length<=min a.toNat xs.length),Ŗ (by lia:xs.length<=a.toNat)];simp
def Ox{d:Nat}:∀ns:List Int,(ns.map Val.int).mapM (dat h d)=eQ (ns.map D.int)
 |[]=>rfl
 |n::ns=>by rw[Ñ,Γ,Ox ns,Ñ];cases d<;>rfl
def Af{i:Int}:∀ns:List Int,((ns.map D.int).any λe=>D.eqv e<|.int i)=gB (i∈ns)
 |[]=>by simp
 |n::ns=>by
  rw[Ñ,Ğ,Af ns,UQ];by_cases h:n=i
  .simp[h]
  .simp[h,Ne.symm h]
def M3{i:Int}:inL h (.int i) (ns.map .int)=eQ (gB (i∈ns)):=by unfold inL;rw[Ox];exact congrArg eQ (Af ns)
def Wz(x:Ext h g)(e:h p=eS):Ext h<|upd g p o:=⟨λ{a u} z=>by rw[eW<|Za z e];exact x.get z⟩
abbrev far(t:Tie)(b:Int):Int:=if t.1=b then t.2.1 else t.1
abbrev gg(b:Int):Nat->List Tie->List Tie
 |_,[]=>[]
 |k,t::r=>if b=t.1\/b=t.2.1 then((k:Int),far t b,t.2.2)::gg b (k+1) r else gg b (k+1) r
def Js{b:Int}{t:Tie}:∀{l:List Tie}{k:Nat},gg b k (l++[t])=gg b k l++(if b=t.1\/b=t.2.1 then [(((k+l.length:Nat):Int),far t b,t.2.2)]else [])
 |[],k=>by show gg b k [t]=_;unfold gg;split<;>rfl
 |u::l,k=>by
  rw[aE,gg,gg,Js,Ð,show k+1+l.length=k+(l.length+1) by lia];by_cases h:b=u.1\/b=u.2.1
  .rw[gu h,gu h,aE]
  .rw[gw h,gw h]
def Nx:∀{xs:List Val}{k i:Nat}{v:Val},(enumL k xs)[i]?=eQ v->∃x,xs[i]?=eQ x/\v=.tup [.int ((k+i:Nat):Int),x]
 |[],_,_,_,e=>by simp[enumL]at e
 |x::xs,k,0,v,e=>by have e:eQ (Val.tup [.int k,x])=eQ v:=e;cases e;exact⟨x,rfl,rfl⟩
 |x::xs,k,i+1,v,e=>by let⟨y,h1,h2⟩:=Nx (xs:=xs) (k:=k+1) (i:=i) (v:=v) (by simpa[enumL]using e);exact⟨y,⇑h1,by rw[h2,show k+1+i=k+(i+1) by lia]⟩
def Jy:∀(xs:List Val) (k:Nat),(enumL k xs).length=xs.length
 |[],_=>rfl
 |_::xs,k=>by simp[enumL,Jy xs<|k+1]
def Lh{i:Int}(q:KB<|gB (i∈ns)):go (fu h .isin (.int i)<|.tup<|ns.map .int) KB:=fb (by show inV h (.int i) (.tup _)=_;unfold inV;exact M3) q
section
variable {bs:List Int}{ts:List Tie}
def Du{t:Tie}{b:Int}(k:Q (.int<|far t b) h):wF P (n+1) "far_end" [trV t,.int b] h Q X:=by
 let⟨x,y,c⟩:=t;unfold trV;unfold far at k;dsimp only at k ⊢;refine Bn ?_;fail;by_cases e:x=b
 .refine fV (gy e) ?_;rw[gu e]at k;refine' k
 .refine fW (gx e) ?_;rw[gw e]at k;refine' k
def XN{b:Int}(l:ts.length<=16)(k:∀p g,h p=eS->Ext h g->g p=eQ (.lst<|(gg b 0 ts).map trV)->Q (.ref p) g):wF P (n+2) "neighbours" [ZC bs ts,.int b] h Q X:=by
 unfold ZC;refine Ng ?_;refine' Zk λp g0 hp x0 e0=>?_
 exists fb rfl
 have nl:∀l:List Tie,∀k,(gg b k l).length<=l.length:=by
  intro l;induction l with
  |nil=>intro k;exact Ï _
  |cons t l ih =>intro k;have:=ih<|k+1;unfold gg;split<;>simp![Ð]<;>lia
 refine Zp (λi en g=>Sm2 λv3 v4=>Cj3 (en=[eQ<|.tup [.tup<|bs.map .int,.tup<|ts.map trV],eQ<|.int b,eQ<|.ref p,v3,v4]) (Ext h g)<|g p=eQ (.lst<|(gg b 0<|ts.take i).map trV)) ⟨_,_,rfl,x0,e0⟩ (λ_ _ _ _ _=>trivial) ?_ ?_
 .rintro i v en g hv ⟨v3,v4,rfl,x,ep⟩ K hK;let⟨y,hy,rfl⟩:=Nx hv;rw[Ù]at hy;let⟨t,ht,rfl⟩:=Í.mp hy;have hi:i<ts.length:=(Ë.mp ht).1;have hn:gg b 0 (ts.take<|i+1)=gg b 0 (ts.take i)++(if b=t.1\/b=t.2.1 then [((i:Int),far t b,t.2.2)]else []):=by
   rw[Ÿ,ht];have:=Js (b:=b) (t:=t) (l:=ts.take i) (k:=0);rw[þ,Ϟ ↥0,ř]at this;exact this
  rw[ř];have et:trV t=.tup [.int t.1,.int t.2.1,.int t.2.2]:=rfl;fail;rw[et];refine fU (by simp[fK]) ?_;refine Lh (ns:=[t.1,t.2.1]) ?_;refine' fX (λhc=>?_) (λhc=>?_)
  .exists Du (t:=t)
   fail;have hl:=nl (ts.take i) 0;rw[þ]at hl;refine Z3 ep (by rw[Á,lim];lia) ?_;refine' hK _ _ ⟨_,_,rfl,?_,?_⟩
   .exact Wz x hp
   .have hc:b=t.1\/b=t.2.1:=⇑hc
    rw[hn,gu hc,Ý];exact eX
  .refine' hK _ _ ⟨_,_,rfl,x,?_⟩;have hc:¬ (b=t.1\/b=t.2.1):=⇑hc
   rw[hn,gw hc,ć];exact ep
 .rintro en g ⟨v3,v4,rfl,x,ep⟩;rw[Jy,Á,ü]at ep;refine' k p g hp x ep
end
abbrev YR(rs:List Tie):List<|Int×(Int×Int):=rs.map λr=>(r.1,r.2)
def Jc(rs:List Tie):(YR rs).map (·.1)=rs.map (·.1):=by unfold YR;rw[õ];rfl
abbrev ZD(own life most:Int)(rs:List Tie):Br:=⟨own,life,most,YR rs,[],⟨own,0,eS⟩,0,0⟩
variable {own:Int}{life:Int}{rs:List Tie}
def Ai(hb:h b=eQ (.ins "Bridge" []))(hl:h l=eQ (.lst<|rs.map trV))(nd:(rs.map (·.1)).Nodup)(h16:rs.length<=16)(k:∀t d g,h t=eS->h d=eS->fh g b t d (ZD own life most rs)->Ex [b] h g->Q .non g):wF P (n+1) "Bridge.__init__" [.ref b,.int own,.int life,.ref l,.int most] h Q X:=by
 have nlb:b≠l:=Fc hb hl nofun;refine KP ?_;refine' Yn eX (show(1:Nat)<900 by decide) ?_;refine' Yn eX (show(2:Nat)<900 by decide) ?_;fail;intro t ht;rw[eY,eY]at ht ⊢;have ntb:b≠t:=Za eX ht;have nht:h t=eS:=by rw[eW ntb.symm]at ht;exact ht
 have ntl:l≠t:=Za hl nht;refine' Yn (upd_ne' ntb eX) (show(3:Nat)<900 by decide) ?_;fail;have hl1:∀{o1 o2 o3:Ob},upd (upd (upd h b o1) t o2) b o3 l=eQ (.lst<|rs.map trV):=λ{_ _ _}=>by rw[eW nlb.symm,eW ntl,eW nlb.symm];exact hl
 refine Zp (λi e g=>Sm3 λu v w=>Cj4 (e=[eQ<|.ref b,eQ<|.int own,eQ<|.int life,eQ<|.ref l,eQ<|.int most,u,v,w]) (g b=eQ (.ins "Bridge" [("number",.int own),("life",.int life),("age_let_go",.int most),("ties_by_place",.ref t)])) (g t=eQ (.dct<|Ze BN<|YR<|rs.take i))<|Ex [b] h g) ⟨eS,eS,eS,rfl,eX,by rw[eW ntb.symm];exact eX,?_⟩ ?_ ?_ ?_
 .refine⟨λ{a o} na e=>?_⟩;have nab:a≠b:=⇑na
  rw[eW nab,eW<|Za e nht,eW nab];exact e
 .rintro i e g _ ⟨u,v,w,rfl,h1,h2,h3⟩;exact lsE (h3.get (by simpa using nlb.symm) hl)
 .rintro i v e g hv ⟨u,v,w,rfl,h1,h2,h3⟩ K hK;let⟨r,hp,rfl⟩:=ZJ hv;have nk:=YK nd hp;let⟨p,nb,c⟩:=r;unfold trV;refine' Yk (k:=.int p) h2 ⟨rfl,?_⟩ ?_
  .rw[JK];unfold YR;rw[Á];exact Õ (Ö (Ϩ _ _) h16) ↥1
  rw[show Val.tup [.int nb,.int c]=BN (nb,c) from rfl,ZZ];refine' hK _ _ ⟨_,_,_,rfl,by rw[eW ntb];exact h1,?_,?_⟩
  .rw[eX,Wm,Zo hp]
   .unfold YR;rw[Ý];rfl
   .rw[Jc];exact nk
  .exact⟨λna e=>by rw[eW<|Za e nht];exact h3.get na e⟩
 .rintro e g ⟨u,v,w,rfl,h1,h2,h3⟩;rw[Á,ü]at h2;fail;intro d hd;have ndb:b≠d:=Za h1 hd;have ndt:t≠d:=Za h2 hd;have nhd:h d=eS:=h3.none (by rw[h1];intro z;cases z) hd;refine' Yn eX (show(5:Nat)<900 by decide) ?_;refine' Yn eX (show(6:Nat)<900 by decide) ?_;refine' Yn eX (show(7:Nat)<900 by decide) ?_;fail;rw[eY,eY,eY];refine k t d _ nht nhd ⟨eX,?_,?_,ndt⟩ ?_
  .rw[eW ntb.symm,eW ndt];exact h2
  .rw[eW ndb.symm];exact eX
  .exact(h3.trans<|.of<|Ext.new hd).trans (Ex.upd<|by simp)
def X9{b:Int}:∀{l:List Tie}{k:Nat},((gg b k l).map (·.1)).Pairwise (· < ·)/\∀r∈gg b k l,(k:Int)<=r.1/\r.1<(k+l.length:Nat)
 |[],k=>⟨by simp[gg],λr hr=>gA hr<|by simp[gg]⟩
 |t::l,k=>by
  let⟨h1,h2⟩:=X9 (b:=b) (l:=l) (k:=k+1);unfold gg;split
  .refine⟨?_,λr hr=>?_⟩
   .rw[Ñ,Ϲ];refine⟨λx hx=>?_,h1⟩;let⟨r,hr,rfl⟩:=Ô.mp hx;have:=(h2 r hr).1;show(k:Int)<r.1;lia
   .rcases Å.mp hr with rfl|hr
    .exact⟨Int.le_refl _,by show(k:Int)<((k+(t::l).length:Nat):Int);rw[Ð];lia⟩
    .have:=h2 r hr;rw[Ð];lia
  .refine⟨h1,λr hr=>?_⟩;have:=h2 r hr;rw[Ð];lia
def YB{b:Int}:∀{l:List Tie}{k:Nat},(gg b k l).length<=l.length
 |[],k=>Ï _
 |t::l,k=>by have:=YB (b:=b) (l:=l) (k:=k+1);unfold gg;split<;>simp![Ð]<;>lia
structure En where
 num:Int
 b:Ad
 t:Ad
 d:Ad
 B:Br
structure Yd where
 y:Ad
 lv:Ad
 st:Ad
 fl:Ad
 rd:Ad
 bs:List Int
 ts:List Tie
 most:Int
 lives:List<|Int×Int
 es:List En
 fallen:List<|Int×Bool
 road:List<|Int×Int×Int×L
abbrev enA(es:List En):List Ad:=es.flatMap λe=>[e.b,e.t,e.d]
abbrev Yd.adr(Y:Yd):List Ad:=[Y.y,Y.lv,Y.st,Y.fl,Y.rd]++enA Y.es
noncomputable abbrev rfV(a:Ad):Val:=.ref a
noncomputable abbrev rdV(r:Int×Int×Int×L):Val:=.tup [.int r.1,.int r.2.1,.int r.2.2.1,r.2.2.2.v]
abbrev stands(es:List En):List<|Int×Ad:=es.map λe=>(e.num,e.b)
def ZI(es:List En):(stands es).map (·.1)=es.map (·.num):=by unfold stands;rw[õ];rfl
structure fi(h:Hs)(Y:Yd):Prop where
 ins:h Y.y=eQ (.ins "Yard" [("net_made_of",ZC Y.bs Y.ts),("greatest_age",.int Y.most),("lives",.ref Y.lv),("standing",.ref Y.st),("ties_fallen",.ref Y.fl),("letters_on_road",.ref Y.rd)])
 lives:h Y.lv=eQ (.dct<|Ze Val.int Y.lives)
 stand:h Y.st=eQ (.dct<|Ze rfV<|stands Y.es)
 fallen:h Y.fl=eQ (.dct<|Ze Val.bl Y.fallen)
 road:h Y.rd=eQ (.lst<|Y.road.map rdV)
 brs:∀e∈Y.es,fh h e.b e.t e.d e.B
 nd:Y.adr.Nodup
 key:(Y.es.map (·.num)).Nodup
variable {es:List En}{e:En}
def WF(h:e∈es):e.b∈enA es/\e.t∈enA es/\e.d∈enA es:=by refine⟨?_,?_,?_⟩<;>exact Œ.mpr ⟨e,h,by simp⟩
def Ws(es:List En)(e:En):enA (es++[e])=enA es++[e.b,e.t,e.d]:=by unfold enA;rw[ο];simp
variable {Y:Yd}
def fi.keep{S:List Ad}(x:fi h Y)(e:Ex S h g)(ds:∀a∈Y.adr,a∉S):fi g Y:=by have m:∀a∈[Y.y,Y.lv,Y.st,Y.fl,Y.rd],a∉S:=λa ha=>ds a<|Ü _ ha;refine⟨e.get (m _<|by simp) x.ins,e.get (m _<|by simp) x.lives,e.get (m _<|by simp) x.stand,e.get (m _<|by simp) x.fallen,e.get (m _<|by simp) x.road,λb hb=>?_,x.nd,x.key⟩;let⟨q1,q2,q3⟩:=WF hb;exact(x.brs b hb).keep e (ds _<|Ê _ q1) (ds _<|Ê _ q2) (ds _<|Ê _ q3)
def fi.ext(x:fi h Y)(e:Ext h g):fi g Y:=x.keep (S:=[]) (.of e) λ_ _=>by simp
def fi.taken(x:fi h Y)(ha:a∈Y.adr):h a≠eS:=by
 rcases ê.mp ha with ha|ha
 .simp![Å,É,or_false]at ha;rcases ha with rfl|rfl|rfl|rfl|rfl
  .rw[x.ins];simp
  .rw[x.lives];simp
  .rw[x.stand];simp
  .rw[x.fallen];simp
  .rw[x.road];simp
 .obtain⟨e,he,ha⟩:=Œ.mp ha;have:=x.brs e he;simp![Å,É,or_false]at ha;rcases ha with rfl|rfl|rfl
  .rw[this.ins];simp
  .rw[this.ties];simp
  .rw[this.held];simp
def Yd.sep(nd:Y.adr.Nodup)(ha:a∈[Y.y,Y.lv,Y.st,Y.fl,Y.rd])(hb:b∈enA Y.es):b≠a:=λz=>(è.mp nd).2.2 a ha b hb z.symm
def Yd.five(nd:Y.adr.Nodup):(Y.y≠Y.lv/\Y.y≠Y.st/\Y.y≠Y.fl/\Y.y≠Y.rd)/\(Y.lv≠Y.st/\Y.lv≠Y.fl/\Y.lv≠Y.rd)/\(Y.st≠Y.fl/\Y.st≠Y.rd)/\Y.fl≠Y.rd:=by have:=(è.mp nd).1;simp![ó,Å,É,or_false,not_or,not_false_eq_true,ò,and_true]at this;let⟨⟨a1,a2,a3,a4⟩,⟨b1,b2,b3⟩,⟨c1,c2⟩,d1⟩:=this;exact⟨⟨a1,a2,a3,a4⟩,⟨b1,b2,b3⟩,⟨c1,c2⟩,d1⟩
def fh.off(x:fh h e.b e.t e.d e.B)(he:e∈es)(n:∀b∈enA es,b≠a):fh (upd h a o) e.b e.t e.d e.B:=by let⟨q1,q2,q3⟩:=WF he;exact⟨(eW<|n _ q1).trans x.ins,(eW<|n _ q2).trans x.ties,(eW<|n _ q3).trans x.held,x.ne⟩
def fi.setLives(x:fi h Y)(l:List<|Int×Int):fi (upd h Y.lv<|.dct<|Ze Val.int l) {Y with lives:=l}:=by let⟨⟨a1,a2,a3,a4⟩,⟨b1,b2,b3⟩,_,_⟩:=Yd.five x.nd;exact⟨(eW a1).trans x.ins,eX,(eW b1.symm).trans x.stand,(eW b2.symm).trans x.fallen,(eW b3.symm).trans x.road,λe he=>(x.brs e he).off he λb hb=>Yd.sep x.nd (by simp) hb,x.nd,x.key⟩
def fi.setRoad(x:fi h Y)(l:List<|Int×Int×Int×L):fi (upd h Y.rd<|.lst<|l.map rdV) {Y with road:=l}:=by let⟨⟨a1,a2,a3,a4⟩,⟨b1,b2,b3⟩,⟨c1,c2⟩,d1⟩:=Yd.five x.nd;exact⟨(eW a4).trans x.ins,(eW b3).trans x.lives,(eW c2).trans x.stand,(eW d1).trans x.fallen,eX,λe he=>(x.brs e he).off he λb hb=>Yd.sep x.nd (by simp) hb,x.nd,x.key⟩
def fi.stands(x:fi h Y)(hb:fh h e.b e.t e.d e.B)(hn:e.num∉Y.es.map (·.num))(fr:∀a∈[e.b,e.t,e.d],a∉Y.adr):fi (upd h Y.st<|.dct<|Ze rfV<|stands<|Y.es++[e]) {Y with es:=Y.es++[e]}:=by
 let⟨⟨a1,a2,a3,a4⟩,⟨b1,b2,b3⟩,⟨c1,c2⟩,d1⟩:=Yd.five x.nd;have θ:Y.st∈Y.adr:=Ü _ (by simp);have nb:∀a∈enA (Y.es++[e]),a≠Y.st:=λa ha=>by
  rw[Ws]at ha;rcases ê.mp ha with ha|ha
  .exact Yd.sep x.nd (by simp) ha
  .exact λz=>fr a ha<|z▸θ
 refine⟨(eW a2).trans x.ins,(eW b1).trans x.lives,eX,(eW c1.symm).trans x.fallen,(eW c2.symm).trans x.road,λq hq=>?_,?_,?_⟩
 .refine fh.off ?_ hq nb;rcases ê.mp hq with hq|hq
  .exact x.brs q hq
  .rw[á.mp hq];exact hb
 .show([Y.y,Y.lv,Y.st,Y.fl,Y.rd]++enA (Y.es++[e])).Nodup;rw[Ws,<-Ĝ,è];refine⟨x.nd,?_,λa ha b hb z=>fr b hb<|z▸ha⟩;simp[hb.nbt,hb.nbd,hb.ne]
 .show((Y.es++[e]).map (·.num)).Nodup;rw[Ý,è];refine⟨x.key,by simp,λa ha b hb=>?_⟩;have:b=e.num:=⇑hb
  rw[this];exact λz=>hn<|z▸ha
def Jb{f:String}{K:Hs->Prop}(i:g p=eQ (.ins "Yard" fs))(x:Ex [p] h0 g)(hp:h0 p=eS)(ha:g a=eS)(m:fs.length<900)(q:∀g',g' p=eQ (.ins "Yard"<|fq fs f<|.ref a)->g' a=eQ o->Ex [p] h0 g'->Ex [p] g g'->p≠a->h0 a=eS->K g'):go (fR (upd g a o) (.ref p) f<|.ref a) K:=by
 have n:=Za i ha;have y:Ex [p] g<|upd (upd g a o) p<|.ins "Yard"<|fq fs f<|.ref a:=⟨λ{b u} nb e=>by rw[eW λz=>nb<|by simp[z],eW<|Za e ha];exact e⟩
 refine Yn (upd_ne' n i) m<|q _ eX ((eW n.symm).trans eX) (x.trans y) y n ?_;cases z:h0 a with
 |none=>rfl
 |some u=>rw[x.get (by simpa using n.symm) z]at ha;cases ha
structure YNew(bs:List Int)(ts:List Tie)(most:Int)(Y:Yd):Prop where
 hb:Y.bs=bs
 ht:Y.ts=ts
 hm:Y.most=most
 num:Y.es.map (·.num)=bs
 br:∀e∈Y.es,e.B=ZD e.num 0 most (gg e.num 0 ts)
 fallen:Y.fallen=[]
 road:Y.road=[]
 lives:Y.lives=bs.map λb=>(b,0)
section
variable {bs:List Int}{ts:List Tie}
def DW(no:fw bs ts)(hp:h p=eS)(k:∀Y g,Y.y=p->fi g Y->YNew bs ts most Y->(∀a∈Y.adr,h a=eS)->Ext h g->Q .non g):wF P (n+3) "Yard.__init__" [.ref p,ZC bs ts,.int most] (upd h p<|.ins "Yard" []) Q X:=by
 have h10:=no.ten;have h16:=no.sixteen;have hbl:(bs.map Val.int).length=bs.length:=Á _;have ndb:bs.Nodup:=no.up.imp λh=>by lia
 refine Os ?_;refine' Yn eX (show(1:Nat)<900 by decide) ?_;rw[eY,eY];have i1:=eX (h:=h) (a:=p) (o:=Ob.ins "Yard"<|fq (fq [] "net_made_of"<|ZC bs ts) "greatest_age"<|.int most);have x1:Ex [p] h<|upd h p<|Ob.ins "Yard"<|fq (fq [] "net_made_of"<|ZC bs ts) "greatest_age"<|.int most:=Ex.upd (by simp);generalize upd h p (Ob.ins "Yard"<|fq (fq [] "net_made_of"<|ZC bs ts) "greatest_age"<|.int most)=g1 at i1 x1 ⊢;fail;intro lv hlv;refine' Jb i1 x1 hp hlv (show(2:Nat)<900 by decide) λg2 i2 lv2 x2 y2 nlv flv=>?_;fail;intro st θ;refine' Jb i2 x2 hp θ (show(3:Nat)<900 by decide) λg3 i3 st3 x3 y3 nst fst=>?_;fail;intro fl hfl;refine' Jb i3 x3 hp hfl (show(4:Nat)<900 by decide) λg4 i4 fl4 x4 y4 nfl ffl=>?_;refine' Xi λrd hrd=>?_;refine' Jb i4 x4 hp hrd (show(5:Nat)<900 by decide) λg5 i5 rd5 x5 y5 nrd frd=>?_;have q1:lv≠st:=Za lv2 θ;have lv3:=y3.get (by simpa using nlv.symm) lv2;have q2:lv≠fl:=Za lv3 hfl;have q3:st≠fl:=Za st3 hfl;have lv4:=y4.get (by simpa using nlv.symm) lv3;have st4:=y4.get (by simpa using nst.symm) st3;have q4:lv≠rd:=Za lv4 hrd;have q5:st≠rd:=Za st4 hrd;have q6:fl≠rd:=Za fl4 hrd;have lv5:=y5.get (by simpa using nlv.symm) lv4;have st5:=y5.get (by simpa using nst.symm) st4;have fl5:=y5.get (by simpa using nfl.symm) fl4;have xe:Ext h g5:=⟨λ{a o} e=>x5.get (by simpa using Za e hp) e⟩
 have Y0:fi g5 ⟨p,lv,st,fl,rd,bs,ts,most,[],[],[],[]⟩:=⟨i5,lv5,st5,fl5,rd5,(λe he=>gA he É),by
   show([p,lv,st,fl,rd]++[]).Nodup
   simp[nlv,nst,nfl,nrd,q1,q2,q3,q4,q5,q6],ò⟩
 exists fc (xs:=[.tup<|bs.map .int,.tup<|ts.map trV]) (v:=.tup<|bs.map .int) rfl
 refine' Zp (λi en g=>Sm3 λv3 lvs es=>Cj7 (en=[eQ<|.ref p,eQ<|ZC bs ts,eQ<|.int most,v3]) (fi g ⟨p,lv,st,fl,rd,bs,ts,most,lvs,es,[],[]⟩) (lvs=(bs.take i).map (λb=>(b,0))) (es.map (·.num)=bs.take i) ((∀e∈es,e.B=ZD e.num 0 most (gg e.num 0 ts))) ((∀a∈[p,lv,st,fl,rd]++enA es,h a=eS))<|Ext h g) ⟨_,[],[],rfl,Y0,rfl,rfl,(λe he=>gA he É),?_,xe⟩ (λ_ _ _ _ _=>trivial) ?_ ?_
 .intro a ha;simp![enA,List.flatMap_nil,ć,Å,É,or_false]at ha;rcases ha with rfl|rfl|rfl|rfl|rfl<;>assumption
 .rintro i v en g hv ⟨v3,lvs,es,rfl,Y,hlv,hnum,hbr,bW,x⟩ K hK;let⟨b,hb,rfl⟩:=ZJ hv;have hi:i<bs.length:=(Ë.mp hb).1;have hnb:b∉es.map (·.num):=by
   rw[hnum];intro m;have:=YK (f:=id) (by rw[ϩ];exact ndb) hb;rw[ϩ]at this;exact this m
  have hll:lvs.length<=10:=by rw[hlv,Á,þ];lia
  have hkl:b∉lvs.map (·.1):=by rw[hlv,õ,show((λq:Int×Int=>q.1) ∘ λb:Int=>(b,(0:Int)))=id from rfl,ϩ,<-hnum];exact hnb
  have hesl:es.length<=10:=by rw[<-Á (f:=(·.num)) (as:=es),hnum,þ];lia
  let⟨yi,yl,ys,yf,yr,yb,ynd,yk⟩:=id Y;dsimp only at yi yl ys yf yr yb;refine' Yk (k:=.int b) yl ⟨rfl,by rw[JK];exact Õ hll<|by decide⟩ ?_;rw[ZZ (val:=Val.int)];have Y1:=Y.setLives<|Zr lvs b 0;have x1:Ext h<|upd g lv<|.dct<|Ze Val.int<|Zr lvs b 0:=⟨λe=>by rw[eW<|Za e flv];exact x.get e⟩
  dsimp only at Y1;generalize upd g lv (.dct<|Ze Val.int<|Zr lvs b 0)=g6 at Y1 x1;let⟨zi,zl,zs,zf,zr,zb,znd,zk⟩:=id Y1;dsimp only at zi zl zs zf zr zb;refine' XN h16 λpn g7 hpn x7 en=>?_;have Y7:=Y1.ext x7;fail;intro q hq;have nr:=X9 (b:=b) (l:=ts) (k:=0);have nl:=YB (b:=b) (l:=ts) (k:=0);have xq:Ext g7<|upd g7 q<|.ins "Bridge" []:=Ext.new hq;have eq:(upd g7 q<|.ins "Bridge" []) q=eQ (.ins "Bridge" []):=eX;refine Ai (rs:=gg b 0 ts) eq (xq.get en) (nr.1.imp λz=>by lia) ↥0 λt d g8 ht hd ba x8=>?_;have x78:Ext g7 g8:=⟨λ{a o} e=>x8.get (by simpa using Za e hq)<|xq.get e⟩
  have Y8:=Y7.ext x78;have ht7:g7 t=eS:=by cases z:g7 t with|none=>rfl|some o=>rw[xq.get z]at ht;cases ht
  have hd7:g7 d=eS:=by cases z:g7 d with|none=>rfl|some o=>rw[xq.get z]at hd;cases hd
  refine⟨rfl,?_⟩;let⟨wi,wl,ws,wf,wr,wb,wnd,wk⟩:=id Y8;dsimp only at wi wl ws wf wr wb;refine' Yk (k:=.int b) ws ⟨rfl,by rw[JK];unfold stands;rw[Á];exact Õ hesl<|by decide⟩ ?_;rw[ZZ (val:=rfV),Wm _<|by rw[ZI];exact hnb];have θ:stands es++[(b,q)]=stands (es++[⟨b,q,t,d,ZD b 0 most<|gg b 0 ts⟩]):=by unfold stands;rw[Ý];rfl
  rw[θ];have fr:∀a∈[q,t,d],g7 a=eS:=λa ha=>by simp![Å,É,or_false]at ha;rcases ha with rfl|rfl|rfl<;>assumption
  have Y9:=Y8.stands (e:=⟨b,q,t,d,ZD b 0 most<|gg b 0 ts⟩) ba hnb λa ha z=>Y7.taken z<|fr a ha;fail;have x9:Ext h g8:=(x1.trans x7).trans x78;refine hK _ _ ⟨_,_,_,rfl,Y9,?_,?_,?_,?_,⟨λe=>by rw[eW<|Za e fst];exact x9.get e⟩⟩
  .show Zr lvs b 0=_;rw[Wm _ hkl,hlv,Zo hb,Ý];rfl
  .rw[Ý,hnum,Ÿ,hb];rfl
  .intro e he;rcases ê.mp he with he|he
   .exact hbr e he
   .rw[á.mp he]
  .intro a ha;rw[Ws,<-Ĝ]at ha;rcases ê.mp ha with ha|ha
   .exact bW a ha
   .cases z:h a with
    |none=>rfl
    |some o=>have:=fr a ha;rw[(x1.trans x7).get z]at this;cases this
 .rintro en g ⟨v3,lvs,es,rfl,Y,hlv,hnum,hbr,bW,x⟩;rw[hbl,ü]at hnum hlv;refine' k _ g rfl Y ⟨rfl,rfl,rfl,hnum,hbr,rfl,rfl,hlv⟩ bW x
end
abbrev F1(ts:List Tie)(p num:Int):Int:=far (ts[p.toNat]?.getD (0,0,0)) num
abbrev ZK(ts:List Tie)(num:Int)(B:Br):List<|Int×Int×Int×L:=(sortI (B.ties.map (·.1))).map λp=>(num,F1 ts p num,p,Zu B p)
def Xj(h:(stands es).lookup num=eQ b):∃e pre Ľ,es=pre++e::Ľ/\e.num=num/\e.b=b:=by have:=Zh h;unfold stands at this;let⟨e,he,z⟩:=Ô.mp this;let⟨pre,Ľ,rfl⟩:=dU he;injection z with z1 z2;exact⟨e,pre,Ľ,rfl,z1,z2⟩
def YO(pre Ľ:List En)(e:En):enA (pre++e::Ľ)=enA pre++([e.b,e.t,e.d]++enA Ľ):=by unfold enA;rw[ο];rfl
variable {Ľ:List En}
def fi.change(x:fi h Y)(he:Y.es=pre++e::Ľ)(ex:Ex [e.b] h g)(hb:fh g e.b t d B)(ft:t=e.t\/h t=eS)(fd:d=e.d\/h d=eS):fi g {Y with es:=pre++⟨e.num,e.b,t,d,B⟩::Ľ}:=by
 let⟨y,lv,st,fl,rd,bs,ts,most,lives,es,fallen,road⟩:=Y;dsimp only at he;subst he;have hm:e∈pre++e::Ľ:=by simp
 have heA:=WF hm;have nb:∀a∈[y,lv,st,fl,rd],a∉[e.b]:=λa ha z=>Yd.sep x.nd ha heA.1 (á.mp z).symm;have nd0:([y,lv,st,fl,rd]++(enA pre++([e.b,e.t,e.d]++enA Ľ))).Nodup:=by rw[<-YO];exact x.nd
 have key:∀q∈pre++Ľ,fh g q.b q.t q.d q.B:=λq hq=>by
  have hq':q∈pre++e::Ľ:=by
   rcases ê.mp hq with z|z
   .exact Ü _ z
   .exact Ê _<|Ø _ z
  have nq:∀a∈[q.b,q.t,q.d],a≠e.b:=λa ha z=>by
   have n1:=(è.mp nd0).2.1;rcases ê.mp hq with hq|hq
   .have ha':a∈enA pre:=Œ.mpr ⟨q,hq,ha⟩;exact(è.mp n1).2.2 a ha' e.b (by simp) z
   .have ha':a∈enA Ľ:=Œ.mpr ⟨q,hq,ha⟩;have n2:=(è.mp n1).2.1;exact(è.mp n2).2.2 e.b (by simp) a ha' z.symm
  exact(x.brs q hq').keep ex (by simpa using nq _ (by simp)) (by simpa using nq _ (by simp)) (by simpa using nq _ (by simp))
 have tk:∀a∈[y,lv,st,fl,rd]++(enA pre++([e.b,e.t,e.d]++enA Ľ)),h a≠eS:=λa ha=>x.taken (by show a∈[y,lv,st,fl,rd]++enA (pre++e::Ľ);rw[YO];exact ha);have fr:∀{a c:Ad},(a=c\/h a=eS)->∀z,z∈[y,lv,st,fl,rd]++(enA pre++([e.b,e.t,e.d]++enA Ľ))->z≠c->z≠a:=λf z hz nc e=>by
  subst e;rcases f with f|f
  .exact nc f
  .exact tk z hz f
 refine⟨ex.get (nb _<|by simp) x.ins,ex.get (nb _<|by simp) x.lives,?_,ex.get (nb _<|by simp) x.fallen,ex.get (nb _<|by simp) x.road,λq hq=>?_,?_,?_⟩
 .have:=ex.get (nb st<|by simp) x.stand;dsimp only at this ⊢;rw[this];unfold O.stands;simp
 .dsimp only at hq;rcases ê.mp hq with z|z
  .exact key q<|Ü _ z
  .rcases Å.mp z with rfl|z
   .exact hb
   .exact key q<|Ê _ z
 .show([y,lv,st,fl,rd]++enA (pre++⟨e.num,e.b,t,d,B⟩::Ľ)).Nodup;rw[YO];dsimp only;have n1:=è.mp nd0;have n2:=è.mp n1.2.1;have n3:=è.mp n2.2.1;have e3:e.b≠e.t/\e.b≠e.d/\e.t≠e.d:=by
   have:=n3.1;simp![ó,Å,É,or_false,not_or,ò,and_true,not_false_eq_true]at this;exact⟨this.1.1,this.1.2,this.2⟩
  have out:∀z,z∈[y,lv,st,fl,rd]\/z∈enA pre\/z∈enA Ľ->z∉[e.b,t,d]:=λz hz m=>by
   have hza:z∈[y,lv,st,fl,rd]++(enA pre++([e.b,e.t,e.d]++enA Ľ)):=by
    rcases hz with q|q|q
    .exact Ü _ q
    .exact Ê _<|Ü _ q
    .exact Ê _<|Ê _<|Ê _ q
   have nz:∀c∈[e.b,e.t,e.d],z≠c:=λc hc w=>by
    rcases hz with q|q|q
    .exact n1.2.2 z q c (Ê _<|Ü _ hc) w
    .exact n2.2.2 z q c (Ü _ hc) w
    .exact n3.2.2 c hc z q w.symm
   simp![Å,É,or_false]at m;rcases m with m|m|m
   .exact nz e.b (by simp) m
   .exact fr ft z hza (nz e.t<|by simp) m
   .exact fr fd z hza (nz e.d<|by simp) m
  refine è.mpr ⟨n1.1,è.mpr ⟨n2.1,è.mpr ⟨?_,n3.2.1,λa ha b hb z=>out b (.inr<|.inr hb)<|z▸ha⟩,λa ha b hb z=>?_⟩,λa ha b hb z=>?_⟩
  .simp[hb.nbt,hb.nbd,hb.ne]
  .rcases ê.mp hb with q|q
   .exact out a (.inr<|.inl ha)<|z▸q
   .exact n2.2.2 a ha b (Ê _ q) z
  .rcases ê.mp hb with q|q
   .exact n1.2.2 a ha b (Ü _ q) z
   .rcases ê.mp q with q|q
    .exact out a (.inl ha)<|z▸q
    .exact n1.2.2 a ha b (Ê _<|Ê _ q) z
 .have:=x.key;simpa using this
def fi.inner(x:fi h Y)(he:Y.es=pre++e::Ľ)(ex:Ex [e.b,e.t,e.d] h g)(hb:fh g e.b e.t e.d B):fi g {Y with es:=pre ++ {e with B:=B} :: Ľ}:=by
 let⟨y,lv,st,fl,rd,bs,ts,most,lives,es,fallen,road⟩:=Y;dsimp only at he;subst he;have nd0:([y,lv,st,fl,rd]++(enA pre++([e.b,e.t,e.d]++enA Ľ))).Nodup:=by rw[<-YO];exact x.nd
 have n1:=è.mp nd0;have n2:=è.mp n1.2.1;have n3:=è.mp n2.2.1;have nb:∀a∈[y,lv,st,fl,rd],a∉[e.b,e.t,e.d]:=λa ha z=>n1.2.2 a ha a (Ê _<|Ü _ z) rfl;have key:∀q,q∈pre\/q∈Ľ->fh g q.b q.t q.d q.B:=λq hq=>by
  have hq':q∈pre++e::Ľ:=by
   rcases hq with z|z
   .exact Ü _ z
   .exact Ê _<|Ø _ z
  have nq:∀a∈[q.b,q.t,q.d],a∉[e.b,e.t,e.d]:=λa ha z=>by
   rcases hq with hq|hq
   .exact n2.2.2 a (Œ.mpr ⟨q,hq,ha⟩) a (Ü _ z) rfl
   .exact n3.2.2 a z a (Œ.mpr ⟨q,hq,ha⟩) rfl
  exact(x.brs q hq').keep ex (nq _<|by simp) (nq _<|by simp) (nq _<|by simp)
 refine⟨ex.get (nb _<|by simp) x.ins,ex.get (nb _<|by simp) x.lives,?_,ex.get (nb _<|by simp) x.fallen,ex.get (nb _<|by simp) x.road,λq hq=>?_,?_,?_⟩
 .have:=ex.get (nb st<|by simp) x.stand;dsimp only at this ⊢;rw[this];unfold O.stands;simp
 .dsimp only at hq;rcases ê.mp hq with z|z
  .exact key q<|.inl z
  .rcases Å.mp z with rfl|z
   .exact hb
   .exact key q<|.inr z
 .show([y,lv,st,fl,rd]++enA (pre ++ {e with B:=B} :: Ľ)).Nodup;rw[YO];exact nd0
 .have:=x.key;dsimp only at this ⊢;simpa using this
def CK{xs:List Val}{v:Val}{p:Nat}{K:Val×Hs->Prop}(e1:h a=eQ (.lst xs))(e:xs[p]?=eQ v)(m:xs.length<=500000)(q:K (v,upd h a<|.lst<|xs.eraseIdx p)):go (bmV h .popAt (.ref a) [.int p]) K:=by
 have hp:p<xs.length:=(Ë.mp e).1;have h1:-(2 ^ 62)<(p:Int)/\(p:Int)<2 ^ 62:=by
  have:(p:Int)<500000:=by lia
  exact⟨eM (by decide:(-(2 ^ 62):Int)<0)<|eN p,Int.lt_trans this<|by decide⟩
 have h2:ixN xs.length (p:Int)=eQ p:=by unfold ixN;rw[gu<|eN p,gu ↥0,â]
 have h3:bmPopAt h [.int p] a xs=eQ (v,upd h a<|.lst<|xs.eraseIdx p):=by unfold bmPopAt;dsimp only;rw[gu h1,h2];simp![î,e,Ę]
 exact fb (by show(fj<|h a).bind (bmPopAt h [.int p] a)=_;rw[lsE e1,î];exact h3) q
def map_erase{α β:Type}(f:α->β):∀(l:List α) (i:Nat),(l.map f).eraseIdx i=(l.eraseIdx i).map f
 |[],_=>by simp
 |_::_,0=>by simp
 |x::l,i+1=>by simp[map_erase f l i]
section
variable {Y:Yd}{p:Nat}
variable {r:Int×Int×Int×L}
def X0(x:fi h Y)(hr:Y.road[p]?=eQ r)(hl:Y.road.length<=500000)(k:∀g,fi g {Y with road:=Y.road.eraseIdx p}->Ex [Y.rd] h g->Q (rdV r) g):wF P (n+1) "Yard.take_off" [.ref Y.y,.int p] h Q X:=by have xi:=x.ins;have xr:=x.road;have hp:p<Y.road.length:=(Ë.mp hr).1;have hrl:(Y.road.map rdV).length=Y.road.length:=Á _;refine WZ ?_;fail;refine fV (by simp) ?_;fail;refine fW (by rw[hrl];simpa using hp) ?_;refine' CK xr (by rw[Ù,hr];rfl) ↥0 ?_;rw[map_erase];exact k _ (x.setRoad _) (Ex.upd<|by simp)
def F0(x:fi h Y)(hr:Y.road[p]?=eQ r)(hl:Y.road.length<=500000)(he:Y.es=pre++e::Ľ)(hg:r.2.1=e.num)(o:e.B.ok)(k:∀g,fi g {Y with es:=pre ++ {e with B:=Zt e.B r.2.2.1 r.2.2.2} :: Ľ,road:=Y.road.eraseIdx p}->Ex Y.adr h g->Q .non g):wF P (n+3) "Yard.come" [.ref Y.y,.int p] h Q X:=by
 have xi:=x.ins;have hm:e∈Y.es:=by rw[he];simp
 have lk:(stands Y.es).lookup r.2.1=eQ e.b:=by rw[hg];exact XB (by rw[ZI];exact x.key)<|Ô.mpr ⟨e,hm,rfl⟩
 refine WS ?_;refine' X0 x hr hl λg1 y1 x1=>?_;have yi:=y1.ins;have ys:=y1.stand;have ba:=y1.brs e hm;have bi:=ba.ins;dsimp only at yi ys;let⟨rs,rg,rt,rl⟩:=r;dsimp only at lk hg k
 exists J7 ys rfl
 rw[YU,lk];walk_at "p";refine ZV ys rfl (by rw[Z2,lk];rfl) ?_;refine' Ft ba o λg2 b2 x2=>?_;have y2:=y1.inner (e:=e) he (x2.sub<|by simp) b2;have mA:=WF hm;refine' k g2 y2 ((x1.sub λa ha=>?_).trans<|x2.sub λa ha=>?_)
 .rw[á.mp ha];exact Ü _ (by simp)
 .rw[á.mp ha];exact Ê _ mA.2.2
def ER(x:fi h Y)(hr:Y.road[p]?=eQ r)(hl:Y.road.length<=500000)(hg:r.2.1∉Y.es.map (·.num))(k:∀g,fi g {Y with road:=Y.road.eraseIdx p}->Ex Y.adr h g->Q .non g):wF P (n+3) "Yard.come" [.ref Y.y,.int p] h Q X:=by
 have xi:=x.ins;have lk:(stands Y.es).lookup r.2.1=eS:=by
  cases z:(stands Y.es).lookup r.2.1 with
  |none=>rfl
  |some q =>have:=Ć (f:=(·.1))<|Zh z;rw[ZI]at this;exact gA this hg
 refine WS ?_;refine' X0 x hr hl λg1 y1 x1=>?_;have yi:=y1.ins;have ys:=y1.stand;dsimp only at yi ys;let⟨rs,rg,rt,rl⟩:=r;dsimp only at lk hg k
 exists J7 ys rfl
 rw[YU,lk];walk_at "p";exact k g1 y1 (x1.sub λa ha=>by rw[á.mp ha];exact Ü _<|by simp)
end
abbrev Yj(k:Int)(F:Br->Br)(es:List En):List En:=es.map λe=>if e.num=k then {e with B:=F e.B} else e
def Wy:∀{es:List En},k∉es.map (·.num)->Yj k F es=es
 |[],_=>rfl
 |e::es,h=>by rw[Ñ,Å,not_or]at h;unfold Yj;rw[Ñ,gw λz=>h.1 z.symm];exact congrArg (e :: ·)<|Wy h.2
variable {F:Br->Br}
def NK(nd:((pre++e::Ľ).map (·.num)).Nodup):Yj e.num F (pre++e::Ľ)=pre ++ {e with B:=F e.B} :: Ľ:=by rw[Ý,Ñ,è,ó]at nd;have h1:Yj e.num F pre=pre:=Wy λz=>nd.2.2 _ z e.num (by simp) rfl;have h2:Yj e.num F Ľ=Ľ:=Wy nd.2.1.1;unfold Yj at h1 h2 ⊢;rw[Ý,Ñ,h1,h2,gu rfl]
def Ot(es:List En):(Yj k F es).map (·.num)=es.map (·.num):=by unfold Yj;rw[õ];refine ý λe _=>?_;show(if e.num=k then({e with B:=F e.B}:En)else e).num=e.num;split<;>rfl
def Oh(es:List En):stands (Yj k F es)=stands es:=by unfold Yj stands;rw[õ];refine ý λe _=>?_;show((if e.num=k then({e with B:=F e.B}:En)else e).num,(if e.num=k then({e with B:=F e.B}:En)else e).b)=_;split<;>rfl
def Wr{k:Int}{F:Br->Br}:∀es:List En,enA (Yj k F es)=enA es
 |[]=>rfl
 |e::es=>by have:=Wr (k:=k) (F:=F) es;unfold Yj enA at this ⊢;rw[Ñ,Ź,Ź,this];split<;>rfl
def Op{k:Int}{q:En}(h:q∈Yj k F es):(q∈es/\q.num≠k)\/∃e∈es,e.num=k/\q={e with B:=F e.B}:=by
 let⟨e,he,rfl⟩:=Ô.mp h;by_cases z:e.num=k
 .right;exact⟨e,he,z,by rw[gu z]⟩
 .left;rw[gw z];exact⟨he,z⟩
abbrev tieF(on:Bool)(p:Int)(far c:Int)(B:Br):Br:=if on then upB B p (far,c)else JV B p
abbrev setT(on:Bool)(p:Int)(t:Tie)(es:List En):List En:=Yj t.2.1 (tieF on p t.1 t.2.2)<|Yj t.1 (tieF on p t.2.1 t.2.2) es
abbrev onT(Y:Yd)(p:Int)(t:Tie):Bool:=!(Y.fallen.lookup p).isSome&&(((stands Y.es).lookup t.1).isSome&&((stands Y.es).lookup t.2.1).isSome)
section
def fi.one(x:fi h Y)(he:e∈Y.es)(ex:Ex [e.b,e.t,e.d] h g)(hb:fh g e.b e.t e.d<|F e.B):fi g {Y with es:=Yj e.num F Y.es}:=by let⟨pre,Ľ,hs⟩:=dU he;have k:=x.key;rw[hs]at k;rw[hs,NK k];exact x.inner hs ex hb
end
noncomputable abbrev FX:Ss:=#[.ite (.val<|.var 5) #[.expr<|.meth "Bridge" "up" (.idx (.fld (.var 0) "standing")<|.var 6) #[.var 1,.var 7,.var 4]] #[.ite (.val<|.cmp .isin (.var 6)<|.fld (.var 0) "standing") #[.expr<|.meth "Bridge" "down" (.idx (.fld (.var 0) "standing")<|.var 6) #[.var 1]] .nil]]
section
variable {Y:Yd}
def Nv{p:Nat}{t1 t2:Int}{on:Bool}(x:fi h Y)(hn:t1≠t2)(gd:∀e∈Y.es,e.B.ok)(cV:∀near far:Int,(near=t1/\far=t2\/near=t2/\far=t1)->on=eU->∃b,(stands Y.es).lookup near=eQ b)(k:∀g e,fi g {Y with es:=setT on p (t1,t2,c) Y.es}->Ex Y.adr h g->R e g) :
  wFor (λ_=>True) (λv e g K M=>go (bind (.many [6,7]) g v e) λe2=>wSs (wF P<|n+1) FX e2 g K Q M K λ_ c g=>X c g) R [.tup [.int t1,.int t2],.tup [.int t2,.int t1]] [eQ<|.ref Y.y,eQ<|.int p,eQ<|.int t1,eQ<|.int t2,eQ<|.int c,eQ<|.bl on,v6,v7] h:=by
 refine Zp (λi e g=>∃v6 v7 es',e=[eQ<|.ref Y.y,eQ<|.int p,eQ<|.int t1,eQ<|.int t2,eQ<|.int c,eQ<|.bl on,v6,v7]/\fi g {Y with es:=es'}/\Ex Y.adr h g/\(i=0->es'=Y.es)/\(i=1->es'=Yj t1 (tieF on p t2 c) Y.es)/\(i=2->es'=setT on p (t1,t2,c) Y.es)) ⟨_,_,Y.es,rfl,x,Ex.refl,λ_=>rfl,λz=>(by cases z),λz=>(by cases z)⟩ (λ_ _ _ _ _=>trivial) ?_ ?_
 .rintro i v e g hv ⟨u6,u7,es',rfl,y,xg,q0,q1,q2⟩ K hK;obtain⟨near,far,rfl,hnf,θ,heA,hgd,hnext⟩:∃near far,v=.tup [.int near,.int far]/\(near=t1/\far=t2\/near=t2/\far=t1)/\stands es'=stands Y.es/\enA es'=enA Y.es/\(∀e∈es',e.num=near->e.B.ok)/\∀dF,dF=Yj near (tieF on p far c) es'->(i+1=0->dF=Y.es)/\(i+1=1->dF=Yj t1 (tieF on p t2 c) Y.es)/\(i+1=2->dF=setT on p (t1,t2,c) Y.es):=by
   match i,hv with
   |0,hv =>cases hv;have:=q0 rfl;subst this;exact⟨t1,t2,rfl,.inl ⟨rfl,rfl⟩,rfl,rfl,λe he _=>gd e he,λdF z=>⟨λy=>(by cases y),λ_=>z,λy=>(by cases y)⟩⟩
   |1,hv =>
    cases hv;have:=q1 rfl;subst this;refine⟨t2,t1,rfl,.inr ⟨rfl,rfl⟩,Oh _,Wr _,λe he hz=>?_,λdF z=>⟨λy=>(by cases y),λy=>(by cases y),λ_=>z⟩⟩;rcases Op he with⟨hm,_⟩|⟨q,hq,hq1,hq2⟩
    .exact gd e hm
    .exact gA (by rw[hq2]at hz;exact hq1.symm.trans hz) hn
   |i+2,hv=>simp at hv
  have yi:=y.ins;have ys:=y.stand;dsimp only at yi ys;have step:∀{e:En}{g':Hs},e∈es'->e.num=near->Ex [e.b,e.t,e.d] g g'->fh g' e.b e.t e.d (tieF on p far c e.B)->∀w6 w7,K [eQ<|.ref Y.y,eQ<|.int p,eQ<|.int t1,eQ<|.int t2,eQ<|.int c,eQ<|.bl on,w6,w7] g':=λ{e g'} he Ş ex hb w6 w7=>by
   have y':=y.one (F:=tieF on p far c) he ex hb;rw[Ş]at y';have mA:=WF he;refine hK _ _ ⟨w6,w7,_,rfl,y',xg.trans<|ex.sub λa ha=>?_,hnext _ rfl⟩;refine Ê _ ?_;rw[<-heA];simp![Å,É,or_false]at ha;rcases ha with rfl|rfl|rfl
   .exact mA.1
   .exact mA.2.1
   .exact mA.2.2
  fail;cases hob:on with
  |true =>
   let⟨b,lk⟩:=cV near far hnf hob;rw[<-θ]at lk;let⟨e,pre,Ľ,hs,Ş,hbb⟩:=Xj lk;have hm:e∈es':=by rw[hs];simp
   have ba:=y.brs e hm;have bi:=ba.ins;subst hbb;refine fV rfl ?_;refine' ZV ys rfl (by rw[Z2,lk];rfl) ?_;refine' Sd ba (hgd e hm Ş) λg' b' x'=>?_;fail;rw[<-hob];exact step hm Ş (x'.sub<|by simp) (by unfold tieF;rw[hob];exact b') _ _
  |false =>
   refine fW rfl ?_
   exists J7 ys rfl
   rw[YU];cases hlk:(stands es').lookup near with
   |none =>
    walk_at "p";rw[<-hob];refine hK _ _ ⟨_,_,es',rfl,y,xg,hnext es' (Wy ?_).symm⟩;have:=Xv hlk
    rwa [ZI]at this
   |some b =>
    let⟨e,pre,Ľ,hs,Ş,hbb⟩:=Xj hlk;have hm:e∈es':=by rw[hs];simp
    have ba:=y.brs e hm;have bi:=ba.ins;subst hbb;walk_at "p";refine ZV ys rfl (by rw[Z2,hlk];rfl) ?_;refine' F9 ba λg' b' x'=>?_;fail;rw[<-hob];exact step hm Ş (x'.sub<|by simp) (by unfold tieF;rw[hob];exact b') _ _
 .rintro e g ⟨u6,u7,es',rfl,y,xg,q0,q1,q2⟩;have:=q2 rfl;subst this;exact k _ _ y xg
def WL{p:Nat}{t:Tie}(x:fi h Y)(et:Y.ts[p]?=eQ t)(hn:t.1≠t.2.1)(gd:∀e∈Y.es,e.B.ok)(k:∀g,fi g {Y with es:=setT (onT Y p t) p t Y.es}->Ex Y.adr h g->Q .non g):wF P (n+2) "Yard.set_tie" [.ref Y.y,.int p] h Q X:=by
 have xi:=x.ins;have xs:=x.stand;have xf:=x.fallen;let⟨t1,t2,c⟩:=t;dsimp only at hn;have fin:onT Y p (t1,t2,c)=onT Y p (t1,t2,c)->∀near far:Int,(near=t1/\far=t2\/near=t2/\far=t1)->onT Y p (t1,t2,c)=eU->∃b,(stands Y.es).lookup near=eQ b:=λ_ near far hv ho=>by
  simp![onT,bAq]at ho;rcases hv with⟨rfl,_⟩|⟨rfl,_⟩
  .exact ë.mp ho.2.1
  .exact ë.mp ho.2.2
 refine J4 ?_
 exists fc (xs:=[.tup<|Y.bs.map .int,.tup<|Y.ts.map trV]) (v:=.tup<|Y.ts.map trV) rfl
 refine' fc (v:=.tup [.int t1,.int t2,.int c]) (YH ↥0<|by rw[Ù,â,et];rfl) ?_
 exists XS xf rfl
 rw[YU];obtain⟨on,cV⟩:∃on:Bool,on=onT Y p (t1,t2,c):=⟨_,rfl⟩
 rw[<-cV]at k fin;have fin:=fin rfl;cases e1:(Y.fallen.lookup (p:Int)).isSome with
 |true =>
  have z:eV=on:=by rw[cV];unfold onT;rw[e1];rfl
  walk_at "p";rw[z];exact Nv x hn gd fin λg e y xg=>by fail;exact k g y xg
 |false =>
  walk_at "p";refine J7 xs rfl ?_;rw[YU];cases e2:((stands Y.es).lookup t1).isSome with
  |false =>
   have z:eV=on:=by rw[cV];unfold onT;rw[e1,e2];rfl
   walk_at "p";rw[z];exact Nv x hn gd fin λg e y xg=>by fail;exact k g y xg
  |true =>
   walk_at "p";refine J7 xs rfl ?_;rw[YU];have z:((stands Y.es).lookup t2).isSome=on:=by rw[cV];unfold onT;rw[e1,e2];rfl
   rw[z];refine' Nv x hn gd fin λg e y xg=>by fail;exact k g y xg
end
variable {on:Bool}
def M6{p far:Int}(o:B.ok)(h0:0<=p)(h1:p<16):(tieF on p far c B).ok:=by
 unfold tieF;split
 .exact o.up h0 h1
 .exact o.down p
def UT(gd:∀e∈es,e.B.ok)(hF:∀B,B.ok->(F B).ok):∀e∈Yj k F es,e.B.ok:=λq hq=>by
 rcases Op hq with⟨hm,_⟩|⟨e,he,_,rfl⟩
 .exact gd q hm
 .exact hF _<|gd e he
def F4{p:Int}{t:Tie}(gd:∀e∈es,e.B.ok)(h0:0<=p)(h1:p<16):∀e∈setT on p t es,e.B.ok :=
 UT (UT gd λ_ o=>M6 o h0 h1) λ_ o=>M6 o h0 h1
def Ck{p:Int}{t:Tie}(es:List En):(setT on p t es).map (·.num)=es.map (·.num):=by unfold setT;rw[Ot,Ot]
def JA{p:Int}{t:Tie}(es:List En):enA (setT on p t es)=enA es:=by unfold setT;rw[Wr,Wr]
abbrev ZR(Y:Yd)(l:List Tie):Yd:=l.foldl (λY r=>{Y with es:=setT (onT Y r.1<|Y.ts[r.1.toNat]?.getD (0,0,0)) r.1 (Y.ts[r.1.toNat]?.getD (0,0,0)) Y.es}) Y
def Kq(Y:Yd)(l:List Tie)(r:Tie):ZR Y (l++[r])={ZR Y l with es:=setT (onT (ZR Y l) r.1<|(ZR Y l).ts[r.1.toNat]?.getD (0,0,0)) r.1 ((ZR Y l).ts[r.1.toNat]?.getD (0,0,0)) (ZR Y l).es}:=by unfold ZR;rw[List.foldl_append];rfl
structure Same(Y Z:Yd):Prop where
 y:Z.y=Y.y
 lv:Z.lv=Y.lv
 st:Z.st=Y.st
 fl:Z.fl=Y.fl
 rd:Z.rd=Y.rd
 bs:Z.bs=Y.bs
 ts:Z.ts=Y.ts
 most:Z.most=Y.most
 lives:Z.lives=Y.lives
 fallen:Z.fallen=Y.fallen
 road:Z.road=Y.road
 num:Z.es.map (·.num)=Y.es.map (·.num)
 enA:enA Z.es=enA Y.es
def Same.adr(s:Same Y Z):Z.adr=Y.adr:=by unfold Yd.adr;rw[s.y,s.lv,s.st,s.fl,s.rd,s.enA]
def Same.refl:Same Y Y:=⟨rfl,rfl,rfl,rfl,rfl,rfl,rfl,rfl,rfl,rfl,rfl,rfl,rfl⟩
def Same.trans{W:Yd}(a:Same Y Z)(b:Same Z W):Same Y W:=⟨b.y.trans a.y,b.lv.trans a.lv,b.st.trans a.st,b.fl.trans a.fl,b.rd.trans a.rd,b.bs.trans a.bs,b.ts.trans a.ts,b.most.trans a.most,b.lives.trans a.lives,b.fallen.trans a.fallen,b.road.trans a.road,b.num.trans a.num,b.enA.trans a.enA⟩
def Same.setT{p:Int}{t:Tie}:Same Y {Y with es:=setT on p t Y.es}:=⟨rfl,rfl,rfl,rfl,rfl,rfl,rfl,rfl,rfl,rfl,rfl,Ck _,JA _⟩
def YM:∀(l:List Tie) (Y:Yd),Same Y (ZR Y l)
 |[],_=>.refl
 |_::l,_=>Same.setT.trans<|YM l _
section
def J5{b:Int}(no:fw Y.bs Y.ts)(x:fi h Y)(gd:∀e∈Y.es,e.B.ok)(k:∀g,fi g (ZR Y<|gg b 0 Y.ts)->(∀e∈(ZR Y<|gg b 0 Y.ts).es,e.B.ok)->Ex Y.adr h g->Q .non g):wF P (n+3) "Yard.set_ties_of" [.ref Y.y,.int b] h Q X:=by
 have xi:=x.ins;have h16:=no.sixteen;refine XT ?_;refine' XN no.sixteen λp g0 hp x0 e0=>?_;fail;have x':=x.ext x0;have npA:p∉Y.adr:=λz=>x.taken z hp;refine Zp (λi e g=>Sm3 λv2 v3 v4=>Cj4 (e=[eQ<|.ref Y.y,eQ<|.int b,v2,v3,v4]) (fi g<|ZR Y<|(gg b 0 Y.ts).take i) ((∀e∈(ZR Y<|(gg b 0 Y.ts).take i).es,e.B.ok))<|Ex Y.adr g0 g) ⟨_,_,_,rfl,x',gd,Ex.refl⟩ (λi e g _ ⟨_,_,_,_,_,_,z⟩=>lsE<|z.get npA e0) ?_ ?_
 .rintro i v e g hv ⟨v2,v3,v4,rfl,y,gi,xg⟩ K hK;let⟨r,hr,rfl⟩:=ZJ hv;have sm:=YM ((gg b 0 Y.ts).take i) Y;have rg:=(X9 (b:=b) (l:=Y.ts) (k:=0)).2 r<|ã hr;obtain⟨q,hq⟩:∃q:Nat,r.1=q:=⟨r.1.toNat,by lia⟩
  have hql:q<Y.ts.length:=by lia
  have et:(ZR Y<|(gg b 0 Y.ts).take i).ts[q]?=eQ Y.ts[q]:=by rw[sm.ts];exact È hql
  have lo:=no.tie _<|Ļ hql;have yi:=y.ins;rw[sm.y]at yi;let⟨r1,r2,r3⟩:=r;dsimp only at hq;subst hq;unfold trV;fail;rw[<-sm.y];refine WL y et (by have:=lo.2.2.1;lia) gi λg1 y1 xg1=>?_;rw[sm.adr]at xg1;fail;rw[sm.y];refine hK _ _ ⟨_,_,_,rfl,?_,?_,xg.trans xg1⟩
  .rw[Zo hr,Kq];dsimp only;rw[â,et];exact y1
  .rw[Zo hr,Kq];dsimp only;rw[â,et];exact F4 gi ↥0 ↥0
 .rintro e g ⟨v2,v3,v4,rfl,y,gi,xg⟩;rw[Á,ü]at y gi;refine' k g y gi ((Ex.of x0).trans xg)
end
abbrev Yr(b:Int)(es:List En):List En:=es.filter λe=>gB (e.num≠b)
def Nh(b:Int)(es:List En):Zd (stands es) b=stands (Yr b es):=by unfold Zd stands Yr;rw[a8];rfl
def XD(b:Int)(es:List En):(Yr b es).Sublist es:=ě
def Jh(h:es.Sublist fs):(enA es).Sublist<|enA fs:=by
 induction h with
 |slnil=>exact .slnil
 |cons a _ ih=>unfold enA at ih ⊢;rw[Ź];exact ih.trans<|List.sublist_append_right _ _
 |cons_cons a _ ih=>unfold enA at ih ⊢;rw[Ź,Ź];exact(ŭ _).append ih
def fi.drop(x:fi h Y)(b:Int):fi (upd h Y.st<|.dct<|Ze rfV<|O.stands<|Yr b Y.es) {Y with es:=Yr b Y.es}:=by
 let⟨⟨a1,a2,a3,a4⟩,⟨b1,b2,b3⟩,⟨c1,c2⟩,d1⟩:=Yd.five x.nd;have sb:=XD b Y.es;have nb:∀a∈enA (Yr b Y.es),a≠Y.st:=λa ha=>Yd.sep x.nd (by simp)<|(Jh sb).subset ha;refine⟨(eW a2).trans x.ins,(eW b1).trans x.lives,eX,(eW c1.symm).trans x.fallen,(eW c2.symm).trans x.road,λq hq=>(x.brs q<|sb.subset hq).off hq nb,?_,?_⟩
 .exact((ŭ _).append<|Jh sb).nodup x.nd
 .exact(sb.map _).nodup x.key
def fi.setFallen(x:fi h Y)(l:List<|Int×Bool):fi (upd h Y.fl<|.dct<|Ze Val.bl l) {Y with fallen:=l}:=by let⟨⟨a1,a2,a3,a4⟩,⟨b1,b2,b3⟩,⟨c1,c2⟩,d1⟩:=Yd.five x.nd;exact⟨(eW a3).trans x.ins,(eW b2).trans x.lives,(eW c1).trans x.stand,eX,(eW d1.symm).trans x.road,λe he=>(x.brs e he).off he λb hb=>Yd.sep x.nd (by simp) hb,x.nd,x.key⟩
section
def Fh{b:Int}(no:fw Y.bs Y.ts)(x:fi h Y)(gd:∀e∈Y.es,e.B.ok)(hb:b∈Y.es.map (·.num))(k:∀g,fi g (ZR {Y with es:=Yr b Y.es}<|gg b 0 Y.ts)->(∀e∈(ZR {Y with es:=Yr b Y.es}<|gg b 0 Y.ts).es,e.B.ok)->Ex Y.adr h g->Q .non g):wF P (n+4) "Yard.fall_of_bridge" [.ref Y.y,.int b] h Q X:=by
 have xi:=x.ins;have xs:=x.stand;obtain⟨a,lk⟩:∃a,(stands Y.es).lookup b=eQ a:=ZT (by rw[ZI];exact hb);refine YX ?_
 exists XS xs rfl
 rw[YU,lk];walk_at "p";refine Cp xs rfl (by rw[Z2,lk];rfl) ?_;rw[Wx,Nh];dsimp only;have y1:=x.drop b;have x1:Ex Y.adr h<|upd h Y.st<|.dct<|Ze rfV<|stands<|Yr b Y.es:=Ex.upd (Ü _<|by simp);generalize upd h Y.st (.dct<|Ze rfV<|stands<|Yr b Y.es)=g1 at y1 x1;have yi:=y1.ins;dsimp only at yi;refine' J5 (Y:={Y with es:=Yr b Y.es}) no y1 (λe he=>gd e<|(XD b Y.es).subset he) λg2 y2 gd2 x2=>?_;refine' k g2 y2 gd2 (x1.trans<|x2.sub λa ha=>?_);exact((ŭ _).append<|Jh<|XD b Y.es).subset ha
end
section
def Ce{p:Nat}{t:Tie}(no:fw Y.bs Y.ts)(x:fi h Y)(gd:∀e∈Y.es,e.B.ok)(et:Y.ts[p]?=eQ t)(hf:Y.fallen.lookup (p:Int)=eS)(hl:Y.fallen.length<=100)(k:∀g,fi g {Y with fallen:=Zr Y.fallen p eU,es:=setT (onT {Y with fallen:=Zr Y.fallen p eU} p t) p t Y.es}->Ex Y.adr h g->Q .non g):wF P (n+3) "Yard.fall_of_tie" [.ref Y.y,.int p] h Q X:=by
 have xi:=x.ins;have xf:=x.fallen;have hp:p<Y.ts.length:=(Ë.mp et).1;have htl:(Y.ts.map trV).length=Y.ts.length:=Á _;have lo:=no.tie _<|ã et;refine Wc ?_
 exists Xc
 fail;refine fV (by simp) ?_
 exists fc (xs:=[.tup<|Y.bs.map .int,.tup<|Y.ts.map trV]) (v:=.tup<|Y.ts.map trV) rfl
 fail;refine fW (by rw[htl];simpa using hp) ?_
 exists J7 xf rfl
 rw[YU,hf];walk_at "p";refine Yk (k:=.int p) xf ⟨rfl,by rw[JK];exact Õ hl<|by decide⟩ ?_;rw[ZZ (val:=Val.bl)];have y1:=x.setFallen<|Zr Y.fallen p eU;have x1:Ex Y.adr h<|upd h Y.fl<|.dct<|Ze Val.bl<|Zr Y.fallen p eU:=Ex.upd (Ü _<|by simp);generalize upd h Y.fl (.dct<|Ze Val.bl<|Zr Y.fallen p eU)=g1 at y1 x1;have yi:=y1.ins;dsimp only at yi;refine' WL (Y:={Y with fallen:=Zr Y.fallen p eU}) y1 et (by have:=lo.2.2.1;lia) gd λg2 y2 x2=>?_;refine' k g2 y2 (x1.trans x2)
def E8{p:Nat}{t:Tie}(no:fw Y.bs Y.ts)(x:fi h Y)(gd:∀e∈Y.es,e.B.ok)(et:Y.ts[p]?=eQ t){v:Bool}(hf:Y.fallen.lookup (p:Int)=eQ v)(k:∀g,fi g {Y with fallen:=Zd Y.fallen p,es:=setT (onT {Y with fallen:=Zd Y.fallen p} p t) p t Y.es}->Ex Y.adr h g->Q .non g):wF P (n+3) "Yard.back_of_tie" [.ref Y.y,.int p] h Q X:=by
 have xi:=x.ins;have xf:=x.fallen;have lo:=no.tie _<|ã et;refine Wb ?_
 exists XS xf rfl
 rw[YU,hf];walk_at "p";refine Cp xf rfl (by rw[Z2,hf];rfl) ?_;rw[Wx];dsimp only;have y1:=x.setFallen<|Zd Y.fallen p;have x1:Ex Y.adr h<|upd h Y.fl<|.dct<|Ze Val.bl<|Zd Y.fallen p:=Ex.upd (Ü _<|by simp);generalize upd h Y.fl (.dct<|Ze Val.bl<|Zd Y.fallen p)=g1 at y1 x1;have yi:=y1.ins;dsimp only at yi;refine' WL (Y:={Y with fallen:=Zd Y.fallen p}) y1 et (by have:=lo.2.2.1;lia) gd λg2 y2 x2=>?_;refine' k g2 y2 (x1.trans x2)
end
def Ay:(ZD own life most []).ok:=⟨ò,(λ_ m=>nomatch m),ò,(λ_ m=>nomatch m)⟩
def Yz:(Zr kvs k v).lookup k=eQ v:=by
 unfold Zr;split
 .rename_i h;induction kvs with
  |nil=>cases h
  |cons p r ih =>
   rw[Ñ,Ú];by_cases e:p.1=k
   .simp[e]
   .have e2:(k==p.1)=eV:=by simpa using λz=>e z.symm
    rw[Ú,e2]at h;simp![e,if_false,e2];exact ih h
 .rename_i h;have h:kvs.lookup k=eS:=az.mp h;rw[Δ,h];simp
section
variable {Y:Yd}
def EG{b:Int}(no:fw Y.bs Y.ts)(x:fi h Y)(gd:∀e∈Y.es,e.B.ok)(hlv:Y.lives.lookup b=eQ life)(hb:b∉Y.es.map (·.num))(hl:Y.lives.length<=100)(hel:Y.es.length<=100)(k:∀q t d g,(∀a∈[q,t,d],h a=eS)->fi g (ZR {Y with lives:=Zr Y.lives b<|life+1,es:=Y.es++[⟨b,q,t,d,ZD b (life+1) Y.most []⟩]}<|gg b 0 Y.ts)->(∀e∈(ZR {Y with lives:=Zr Y.lives b<|life+1,es:=Y.es++[⟨b,q,t,d,ZD b (life+1) Y.most []⟩]}<|gg b 0 Y.ts).es,e.B.ok)->Ex Y.adr h g->Q .non g):wF P (n+4) "Yard.back_of_bridge" [.ref Y.y,.int b] h Q X:=by
 have xi:=x.ins;have xs:=x.stand;have xl:=x.lives;have lk:(stands Y.es).lookup b=eS:=by
  cases z:(stands Y.es).lookup b with
  |none=>rfl
  |some q =>have:=Ć (f:=(·.1))<|Zh z;rw[ZI]at this;exact gA this hb
 refine YW ?_
 exists XS xl rfl
 rw[YU,hlv];walk_at "p";refine J7 xs rfl ?_;rw[YU,lk];walk_at "p";refine ZV xl rfl (by rw[Z2,hlv];rfl) ?_;refine' Yk (k:=.int b) xl ⟨rfl,by rw[JK];exact Õ hl<|by decide⟩ ?_;rw[ZZ (val:=Val.int)];have Y1:=x.setLives<|Zr Y.lives b<|life+1;have x1:Ex Y.adr h<|upd h Y.lv<|.dct<|Ze Val.int<|Zr Y.lives b<|life+1:=Ex.upd (Ü _<|by simp);have keepN:∀{a:Ad},upd h Y.lv (.dct<|Ze Val.int<|Zr Y.lives b<|life+1) a=eS->h a=eS:=λ{a} z=>by
  by_cases e:a=Y.lv
  .rw[e,eX]at z;cases z
  .rwa [eW e]at z
 generalize upd h Y.lv (.dct<|Ze Val.int<|Zr Y.lives b<|life+1)=g1 at Y1 x1 keepN;have zi:=Y1.ins;have zl:=Y1.lives;dsimp only at zi zl;refine' ZV zl rfl (by rw[Z2,Yz];rfl) ?_;refine' Zk λpn g7 hpn x7 en=>?_;have Y7:=Y1.ext x7;have yi7:=Y7.ins;dsimp only at yi7;fail;intro q hq;have xq:Ext g7<|upd g7 q<|.ins "Bridge" []:=Ext.new hq;have eq:(upd g7 q<|.ins "Bridge" []) q=eQ (.ins "Bridge" []):=eX;refine Ai (rs:=[]) eq (xq.get en) (by simp) (by simp) λt d g8 ht hd ba x8=>?_;have x78:Ext g7 g8:=⟨λ{a o} e=>x8.get (by simpa using Za e hq)<|xq.get e⟩
 have Y8:=Y7.ext x78;have ht7:g7 t=eS:=by cases z:g7 t with|none=>rfl|some o=>rw[xq.get z]at ht;cases ht
 have hd7:g7 d=eS:=by cases z:g7 d with|none=>rfl|some o=>rw[xq.get z]at hd;cases hd
 refine⟨rfl,?_⟩;have wi:=Y8.ins;have ws:=Y8.stand;dsimp only at wi ws;refine' Yk (k:=.int b) ws ⟨rfl,by rw[JK];unfold stands;rw[Á];exact Õ hel<|by decide⟩ ?_;rw[ZZ (val:=rfV),Wm _<|by rw[ZI];exact hb];have θ:stands Y.es++[(b,q)]=stands (Y.es++[⟨b,q,t,d,ZD b (life+1) Y.most []⟩]):=by unfold stands;rw[Ý];rfl
 rw[θ];have fr:∀a∈[q,t,d],g7 a=eS:=λa ha=>by simp![Å,É,or_false]at ha;rcases ha with rfl|rfl|rfl<;>assumption
 have fr0:∀a∈[q,t,d],h a=eS:=λa ha=>keepN (by cases z:g1 a with|none=>rfl|some o=>have:=fr a ha;rw[x7.get z]at this;cases this);have Y9:=Y8.stands (e:=⟨b,q,t,d,ZD b (life+1) Y.most []⟩) ba hb λa ha z=>Y7.taken z<|fr a ha;have x9:Ex Y.adr h<|upd g8 Y.st<|.dct<|Ze rfV<|stands<|Y.es++[⟨b,q,t,d,ZD b (life+1) Y.most []⟩]:=(x1.trans<|.of<|x7.trans x78).trans (Ex.upd<|Ü _<|by simp);dsimp only at Y9;generalize upd g8 Y.st (.dct<|Ze rfV<|stands<|Y.es++[⟨b,q,t,d,ZD b (life+1) Y.most []⟩])=g9 at Y9 x9;have vi:=Y9.ins;dsimp only at vi;refine' J5 (Y:={Y with lives:=Zr Y.lives b<|life+1,es:=Y.es++[⟨b,q,t,d,ZD b (life+1) Y.most []⟩]}) no Y9 (λe he=>?_) λg2 y2 gd2 x2=>?_
 .rcases ê.mp he with he|he
  .exact gd e he
  .rw[á.mp he];exact Ay
 refine' k q t d g2 fr0 y2 gd2 ⟨λ{a o} na ha=>x2.get (λz=>?_)<|x9.get na ha⟩;have z:a∈[Y.y,Y.lv,Y.st,Y.fl,Y.rd]++enA (Y.es++[⟨b,q,t,d,ZD b (life+1) Y.most []⟩]):=z;rw[Ws,<-Ĝ]at z;rcases ê.mp z with z|z
 .exact na z
 .rw[fr0 a z]at ha;cases ha
end
abbrev wordsL:List<|List String:=[["tick"],["come"],["lost"],["fall","bridge"],["fall","tie"],["back","bridge"],["back","tie"]]
def Gk(hw:ws∈wordsL)(k:∀g,Ext h g->Q (.tup [.tup<|ws.map .str,.int c]) g):wF P (n+2) "read_deed" [.tup<|ws.map .str++[.int c]] h Q X:=by
 have hc:cut (ws.map Val.str++[.int c]) eS (eQ (-1))=ws.map .str:=by simp![wordsL,Å,É,or_false]at hw;rcases hw with rfl|rfl|rfl|rfl|rfl|rfl|rfl<;>rfl
 have hlast:atI (ws.map Val.str++[.int c]) (-1)=eQ (.int c):=by simp![wordsL,Å,É,or_false]at hw;rcases hw with rfl|rfl|rfl|rfl|rfl|rfl|rfl<;>rfl
 have hlen:ws.length<=2:=by simp![wordsL,Å,É,or_false]at hw;rcases hw with rfl|rfl|rfl|rfl|rfl|rfl|rfl<;>decide
 refine NE ?_;walk_at "p";refine fU (xs:=ws.map Val.str++[.int c]) (lo:=eS) (hi:=eQ (-1)) (by rw[í,Á];intro z;have:=z.2;unfold fK at this;simp at this;lia) ?_;rw[hc];refine' ⟨Õ (by rw[Á];exact hlen) ↥1,XA (λ_=>eQ<|.bl eU) trivial (λv hv K hK=>?_) ?_⟩
 .obtain⟨u,_,rfl⟩:=Ô.mp hv;walk_at "p";exact hK
 rw[show(ws.map Val.str).filterMap (λ_=>eQ<|Val.bl eU)=(ws.map λ_=>eU).map Val.bl by rw[Β,õ];exact congrFun (ck (f:=λ_:String=>Val.bl eU)) ws];refine Zk λp1 g1 cS x1 e1=>?_
 exists Ll (bs:=ws.map λ_=>eU) e1 (Kl _)
 have ha:(ws.map λ_=>eU).all id=eU:=by simp
 fail;refine fW (by simp) ?_;fail;have hin:∀{h:Hs},fu h .notin (.tup<|ws.map .str) (.tup<|wordsL.map λl=>.tup<|l.map .str)=eQ eV:=λ{h}=>by simp![wordsL,Å,É,or_false]at hw;rcases hw with rfl|rfl|rfl|rfl|rfl|rfl|rfl<;>rfl
 refine fb (a:=eV) hin ?_;walk_at "p";refine fc hlast ?_
 exists Uf
 walk_at "p";refine fc hlast ?_;refine' k g1 x1
inductive Dd where
 |tick (b:Int)|come (b:Int)|lost (b:Int)|fallB (b:Int)|fallT (b:Int)|backB (b:Int)|backT (b:Int)
abbrev Dd.ws:Dd->List String
 |.tick _=>["tick"]|.come _=>["come"]|.lost _=>["lost"]|.fallB _=>["fall","bridge"]|.fallT _=>["fall","tie"]|.backB _=>["back","bridge"]|.backT _=>["back","tie"]
abbrev Dd.num:Dd->Int
 |.tick c=>c|.come c=>c|.lost c=>c|.fallB c=>c|.fallT c=>c|.backB c=>c|.backT c=>c
abbrev Dd.fn:Dd->String
 |.tick _=>"Yard.tick_of" | .come _=>"Yard.come" | .lost _=>"Yard.take_off" | .fallB _=>"Yard.fall_of_bridge" | .fallT _=>"Yard.fall_of_tie" | .backB _=>"Yard.back_of_bridge" | .backT _=>"Yard.back_of_tie"
noncomputable abbrev Dd.v(d:Dd):Val:=.tup<|d.ws.map .str++[.int d.num]
def Dd.words(d:Dd):d.ws∈wordsL:=by cases d<;>simp[Dd.ws,wordsL]
def Yb(x:Ext h g)(hp:g p=eS):h p=eS:=by
 cases z:h p with
 |none=>rfl
 |some o=>rw[x.get z]at hp;cases hp
variable {ts:List Tie}
def US{i:Int}(h0:0<=i)(h1:i<ts.length):atI (ts.map trV) i=eQ (trV<|ts[i.toNat]?.getD (0,0,0)):=by
 have h2:i.toNat<ts.length:=by lia
 refine YH h0 ?_;rw[Ù,È h2];rfl
def BJ(x:fi h Y)(he:Y.es=pre++e::Ľ)(o:e.B.ok)(hp:∀q∈e.B.ties,q.1<Y.ts.length)(hr:Y.road.length<=100000)(k:∀d g,fi g {Y with es:=pre++⟨e.num,e.b,e.t,d,e.B.ticked⟩::Ľ,road:=Y.road++ZK Y.ts e.num e.B.told}->h d=eS->Ex Y.adr h g->Q .non g):wF P (n+5) "Yard.tick_of" [.ref Y.y,.int e.num] h Q X:=by
 have hm:e∈Y.es:=by rw[he];simp
 have lk:(stands Y.es).lookup e.num=eQ e.b:=XB (by rw[ZI];exact x.key)<|Ô.mpr ⟨e,hm,rfl⟩;let⟨xi,xl,xs,xf,xr,xb,xnd,xk⟩:=id x;refine Ke ?_
 exists XS xs rfl
 rw[YU,lk];walk_at "p";refine ZV xs rfl (by rw[Z2,lk];rfl) ?_;have ba:=xb e hm;have bi:=ba.ins;refine' F8 ba o λp d g1 cS hd1 ba1 ep x1 npd=>?_;have Y1:=x.change he x1 ba1 (.inl rfl)<|.inr hd1;let⟨yi,yl,ys,yf,yr,yb,ynd,yk⟩:=id Y1;dsimp only at yi yl ys yf yr yb;have npa:∀a∈Y.adr,a≠p:=λa ha z=>x.taken ha<|z▸cS;have npr:Y.rd≠p:=npa _ (Ü _<|by simp);have hbm:e.b∈Y.adr:=Ê _ (WF hm).1;have htl:(sortI (e.B.told.ties.map (·.1))).length<=16:=by rw[sortI,ŝ,Á];exact o.told.tlen
 have htie:∀i∈sortI (e.B.told.ties.map (·.1)),0<=i/\i<Y.ts.length:=λi hi=>by let⟨q,hq,rfl⟩:=Ô.mp<|mem_sort.mp hi;rw[show e.B.told.ties=e.B.ties from (YL e.B.grown<|Ym e.B.grown).2.1]at hq;exact⟨(o.rg q hq).1,hp q hq⟩
 refine' Zp (λi en g=>Sm3 λv2 v3 v4=>Cj4 (en=[eQ<|.ref Y.y,eQ<|.int e.num,v2,v3,v4]) (fi g {Y with es:=pre++⟨e.num,e.b,e.t,d,e.B.ticked⟩::Ľ,road:=Y.road++(ZK Y.ts e.num e.B.told).take i}) (g p=eQ (.lst<|ZX e.B.told))<|Ex Y.adr h g) ⟨_,_,_,rfl,by rw[List.take_zero,ć];exact Y1,ep,x1.sub λa ha=>by rw[á.mp ha];exact hbm⟩ (λi en g _ ⟨_,_,_,_,_,z,_⟩=>lsE z) ?_ ?_
 .rintro i v en g hv ⟨v2,v3,v4,rfl,Yi,ep,xi⟩ K hK;let⟨pl,hpl,rfl⟩:=ZJ hv;have hplm:=ã hpl;let⟨r0,r1⟩:=htie pl hplm;have et:=US (ts:=Y.ts) r0 r1;let⟨zi,zl,zs,zf,zr,zb,znd,zk⟩:=id Yi;dsimp only at zi zl zs zf zr zb;have hil:=(Ë.mp hpl).1
  exists fc (xs:=[.tup<|Y.bs.map .int,.tup<|Y.ts.map trV]) (v:=.tup<|Y.ts.map trV) rfl
  exists fc et
  exists Du
  refine' Z3 zr ?_ ?_
  .rw[Á,í,þ];exact Õ (by lia:_<=100016) ↥1
  dsimp only;have es:(ZK Y.ts e.num e.B.told)[i]?=eQ (e.num,F1 Y.ts pl e.num,pl,Zu e.B.told pl):=by unfold ZK;rw[Ù,hpl];rfl
  have Y2:=Yi.setRoad<|Y.road++(ZK Y.ts e.num e.B.told).take (i+1);dsimp only at Y2;have er:(Y.road++(ZK Y.ts e.num e.B.told).take i).map rdV++[rdV (e.num,F1 Y.ts pl e.num,pl,Zu e.B.told pl)]=(Y.road++(ZK Y.ts e.num e.B.told).take (i+1)).map rdV:=by rw[Zo es,<-Ĝ,Ý (l₂:=[_])];rfl
  have er':(Y.road++(ZK Y.ts e.num e.B.told).take i).map rdV++[.tup [.int e.num,.int<|far (Y.ts[pl.toNat]?.getD (0,0,0)) e.num,.int pl,(Zu e.B.told pl).v]]=(Y.road++(ZK Y.ts e.num e.B.told).take (i+1)).map rdV:=er;rw[er'];refine' hK _ _ ⟨_,_,_,rfl,Y2,(eW npr.symm).trans ep,xi.trans<|Ex.upd<|Ü _<|by simp⟩
 .rintro en g ⟨v2,v3,v4,rfl,Yi,ep,xi⟩;rw[show(ZX e.B.told).length=(ZK Y.ts e.num e.B.told).length by unfold ZX ZK;rw[Á,Á],ü]at Yi;refine' k d g Yi hd1 xi
def Hg{d:Dd}(x:fi h Y)(k:∀(g:Hs) (Q':Q1),Ext h g->fi g Y->(∀v g',Q .non g'->Q' v g')->wF P (n+5) d.fn [.ref Y.y,.int d.num] g Q' X):wF P (n+6) "Yard.deed" [.ref Y.y,d.v] h Q X:=by
 have xi0:=x.ins;refine OH ?_;refine' Gk d.words λg1 x1=>?_;have x':=x.ext x1;have xi:=x'.ins;cases d<;>(
   fail
   repeat (first
     |(refine fb (a:=eV) rfl ?_;fail;refine fW rfl ?_;fail)
     | (refine fb (a:=eU) rfl ?_;fail;refine fV rfl ?_;fail))
   refine k g1 _ x1 x' λv g' q=>?_
   refine' q)
structure Yc where
 bs:List Int
 ts:List Tie
 most:Int
 lives:List<|Int×Int
 br:List<|Int×Br
 fallen:List<|Int×Bool
 road:List<|Int×Int×Int×L
abbrev enC(es:List En):List<|Int×Br:=es.map λe=>(e.num,e.B)
abbrev Yd.cc(Y:Yd):Yc:=⟨Y.bs,Y.ts,Y.most,Y.lives,enC Y.es,Y.fallen,Y.road⟩
abbrev upC(k:Int)(F:Br->Br)(l:List<|Int×Br):List<|Int×Br:=l.map λq=>if q.1=k then(q.1,F q.2)else q
abbrev Uu(on:Bool)(p:Int)(t:Tie)(l:List<|Int×Br):List<|Int×Br:=upC t.2.1 (tieF on p t.1 t.2.2)<|upC t.1 (tieF on p t.2.1 t.2.2) l
abbrev Yc.tie(C:Yc)(p:Int):Tie:=C.ts[p.toNat]?.getD (0,0,0)
abbrev onC(C:Yc)(p:Int):Bool:=!(C.fallen.lookup p).isSome&&((C.br.lookup (C.tie p).1).isSome&&(C.br.lookup (C.tie p).2.1).isSome)
abbrev Yc.set1(C:Yc)(p:Int):Yc:={C with br:=Uu (onC C p) p (C.tie p) C.br}
abbrev Yc.sets(C:Yc)(l:List Tie):Yc:=l.foldl (λC r=>C.set1 r.1) C
def Xq(es:List En):(enC es).map (·.1)=es.map (·.num):=by unfold enC;rw[õ];rfl
def look_iff:(kvs.lookup k).isSome=gB (k∈kvs.map (·.1)):=by
 cases z:kvs.lookup k with
 |none=>exact(gx<|Xv z).symm
 |some v=>exact(gy (Ć (f:=(·.1))<|Zh z)).symm
def W9(es:List En):enC (Yj k F es)=upC k F (enC es):=by
 unfold enC Yj upC;rw[õ,õ];refine ý λe _=>?_;show((if e.num=k then({e with B:=F e.B}:En)else e).num,(if e.num=k then({e with B:=F e.B}:En)else e).B)=if e.num=k then(e.num,F e.B)else(e.num,e.B)
 split<;>rfl
def EY{p:Int}{t:Tie}(es:List En):enC (setT on p t es)=Uu on p t (enC es):=by unfold setT Uu;rw[W9,W9]
def IN:((enC es).lookup k).isSome=((stands es).lookup k).isSome:=look_iff.trans ((decide_eq_decide.mpr<|by rw[Xq,ZI]).trans look_iff.symm)
def Ra{p:Int}:onT Y p (Y.ts[p.toNat]?.getD (0,0,0))=onC Y.cc p:=by unfold onT onC;rw[<-IN,<-IN];rfl
def O3{p:Int}:({Y with es:=setT (onT Y p<|Y.ts[p.toNat]?.getD (0,0,0)) p (Y.ts[p.toNat]?.getD (0,0,0)) Y.es}:Yd).cc=Y.cc.set1 p:=by rw[Ra];unfold Yd.cc Yc.set1;dsimp only;rw[EY];rfl
def O9:∀(l:List Tie) (Y:Yd),(ZR Y l).cc=Y.cc.sets l
 |[],_=>rfl
 |r::l,Y=>(O9 l _).trans (congrArg (Yc.sets · l)<|O3 (Y:=Y) (p:=r.1))
abbrev step(C:Yc):Dd->Option Yc
 |.tick b=>(C.br.lookup b).map λB=>{C with br:=upC b Br.ticked C.br,road:=C.road++ZK C.ts b B.told}
 |.come p=>if p<0 then eS else(C.road[p.toNat]?).map λr=>{C with br:=upC r.2.1 (Zt · r.2.2.1 r.2.2.2) C.br,road:=C.road.eraseIdx p.toNat}
 |.lost p=>if p<0 then eS else(C.road[p.toNat]?).map λr=>{C with road:=C.road.eraseIdx p.toNat}
 |.fallB b=>if(C.br.lookup b).isSome then eQ (Yc.sets {C with br:=Zd C.br b}<|gg b 0 C.ts)else eS
 |.fallT p=>if(0<=p/\p<C.ts.length)/\(C.fallen.lookup p).isSome=eV then eQ (Yc.set1 {C with fallen:=Zr C.fallen p eU} p)else eS
 |.backB b=>if(C.br.lookup b).isSome then eS else(C.lives.lookup b).map λl=>Yc.sets {C with lives:=Zr C.lives b<|l+1,br:=C.br++[(b,ZD b (l+1) C.most [])]}<|gg b 0 C.ts
 |.backT p=>if(C.fallen.lookup p).isSome then eQ (Yc.set1 {C with fallen:=Zd C.fallen p} p)else eS
structure Bok(m:Nat)(B:Br):Prop where
 ok:B.ok
 pl:∀t∈B.ties,t.1<m
def Bok.ticked{m:Nat}(o:Bok m B):Bok m B.ticked:=⟨o.ok.ticked,λt ht=>o.pl t<|by rwa [show B.ticked.ties=B.ties from (YL B.grown<|Ym B.grown).2.1]at ht⟩
def Bok.heard{m:Nat}(o:Bok m B){p:Int}{l:L}:Bok m<|Zt B p l:=⟨o.ok.heard,λt ht=>o.pl t<|by revert ht;unfold Zt;split<;>(try split)<;>exact id⟩
def Bok.tieF{m:Nat}(o:Bok m B){p far:Int}(h0:0<=p)(h1:p<m)(hm:m<=16):Bok m<|O.tieF on p far c B:=⟨M6 o.ok h0 ↥0,λt ht=>by
  unfold O.tieF at ht
  split at ht
  . unfold upB at ht
    split at ht
    . exact o.pl t ht
    . rcases Wg ht with e|ht
      . rw[e];exact h1
      . exact o.pl t ht
  . exact o.pl t<|Yo ht⟩
structure Yc.gd(C:Yc)(N:Nat):Prop where
 no:fw C.bs C.ts
 nd:(C.br.map (·.1)).Nodup
 sub:∀q∈C.br,q.1∈C.bs
 ok:∀q∈C.br,Bok C.ts.length q.2
 lv:C.lives.map (·.1)=C.bs
 fn:(C.fallen.map (·.1)).Nodup
 fr:∀q∈C.fallen,0<=q.1/\q.1<C.ts.length
 len:C.road.length<=16*N
def NC(l:List<|Int×Br):(upC k F l).map (·.1)=l.map (·.1):=by unfold upC;rw[õ];refine ý λe _=>?_;show(if e.1=k then(e.1,F e.2)else e).1=e.1;split<;>rfl
def GB{k:Int}{l:List (Int×Br)}{R:Br->Prop}(h:∀q∈l,R q.2)(hF:∀B,R B->R (F B)):∀q∈upC k F l,R q.2:=λq hq=>by
 let⟨e,he,rfl⟩:=Ô.mp hq;split
 .exact hF _<|h e he
 .exact h e he
def keys_sub{l:List (Int×Br)}{bs:List Int}:(∀q∈l,q.1∈bs)↔∀x∈l.map (·.1),x∈bs:=⟨λh x hx=>by let⟨q,hq,rfl⟩:=Ô.mp hx;exact h q hq,λh q hq=>h _<|Ć hq⟩
variable {C:Yc}{N:Nat}{M:Nat}{rd:List (Int×Int×Int×L)}
def Yc.gd.upC(g:C.gd N)(hF:∀B,Bok C.ts.length B->Bok C.ts.length (F B))(hr:rd.length<=16*M):({C with br:=O.upC k F C.br,road:=rd}:Yc).gd M :=
 ⟨g.no,by show((O.upC k F C.br).map (·.1)).Nodup;rw[NC];exact g.nd,keys_sub.mpr (by show ∀x∈(O.upC k F C.br).map (·.1),_;rw[NC];exact keys_sub.mp g.sub),GB g.ok hF,g.lv,g.fn,g.fr,hr⟩
def Yc.gd.set1{p:Int}(g:C.gd N)(h0:0<=p)(h1:p<C.ts.length):(C.set1 p).gd N :=
 (g.upC (M:=N) (k:=(C.tie p).1) (F:=tieF (onC C p) p (C.tie p).2.1 (C.tie p).2.2) (λ_ o=>o.tieF h0 h1 g.no.sixteen) g.len).upC (λ_ o=>o.tieF h0 h1 g.no.sixteen) g.len
def Yc.gd.sets{N:Nat}:∀{l:List Tie}{C:Yc},C.gd N->(∀r∈l,0<=r.1/\r.1<C.ts.length)->(C.sets l).gd N
 |[],_,g,_=>g
 |r::l,C,g,h=>Yc.gd.sets (l:=l) (C:=C.set1 r.1) (g.set1 (h r<|by simp).1 (h r<|by simp).2) λq hq=>h q (by simp[hq])
def Yc.gd.more(g:C.gd N)(h:N<=M):C.gd M:=⟨g.no,g.nd,g.sub,g.ok,g.lv,g.fn,g.fr,Ö g.len<|dO _ h⟩
def We:∀(l:List Tie) (C:Yc),(C.sets l).bs=C.bs/\(C.sets l).ts=C.ts/\(C.sets l).most=C.most
 |[],_=>⟨rfl,rfl,rfl⟩
 |r::l,C=>We l<|C.set1 r.1
def M7{b:Int}:∀r∈gg b 0 ts,0<=r.1/\r.1<ts.length:=λr hr=>by have:=(X9 (b:=b) (l:=ts) (k:=0)).2 r hr;lia
def keys_look{b:Int}:(C.br.lookup b).isSome=eU↔b∈C.br.map (·.1):=by rw[look_iff];simp
def B3{b:Int}(o:B.ok):(ZK ts b B.told).length<=16:=by unfold ZK;rw[Á,sortI,ŝ,Á];exact o.told.tlen
def Wl{D:Yc}{d:Dd}(g:C.gd N)(s:step C d=eQ D):D.gd (N+1)/\D.bs=C.bs/\D.ts=C.ts/\D.most=C.most:=by
 have hlen:=g.len;cases d with
 |tick b =>let⟨B,hB,rfl⟩:=Í.mp s;have ok:B.ok:=(g.ok _<|Zh hB).ok;have:=B3 (ts:=C.ts) (b:=b) ok;exact⟨g.upC (λ_ o=>o.ticked) (by rw[í];lia),rfl,rfl,rfl⟩
 |come p =>
  dsimp only[step]at s;split at s
  .cases s
  .obtain⟨r,hr,rfl⟩:=Í.mp s;exact⟨g.upC (λ_ o=>o.heard)<|Ö (b6 _ _)<|by lia,rfl,rfl,rfl⟩
 |lost p =>
  dsimp only[step]at s;split at s
  .cases s
  .obtain⟨r,hr,rfl⟩:=Í.mp s;exact⟨⟨g.no,g.nd,g.sub,g.ok,g.lv,g.fn,g.fr,Ö (b6 _ _)<|by lia⟩,rfl,rfl,rfl⟩
 |fallB b =>
  dsimp only[step]at s;split at s
  .cases s;refine⟨Yc.gd.more (Yc.gd.sets ⟨g.no,YD g.nd b,λq hq=>g.sub q<|Yo hq,λq hq=>g.ok q<|Yo hq,g.lv,g.fn,g.fr,hlen⟩ M7) ↥0,?_⟩;let⟨e1,e2,e3⟩:=We (gg b 0 C.ts) {C with br:=Zd C.br b};exact⟨e1,e2,e3⟩
  .cases s
 |fallT p =>
  dsimp only[step]at s;split at s
  .rename_i h;cases s;refine⟨Yc.gd.more (Yc.gd.set1 ⟨g.no,g.nd,g.sub,g.ok,g.lv,XE g.fn p eU,λq hq=>?_,hlen⟩ h.1.1 h.1.2) ↥0,rfl,rfl,rfl⟩;rcases Wg hq with e|hq
   .rw[e];exact h.1
   .exact g.fr q hq
  .cases s
 |backB b =>
  dsimp only[step]at s;split at s
  .cases s
  .rename_i h;let⟨l,hl,rfl⟩:=Í.mp s;have hk:(C.lives.lookup b).isSome=eU:=by rw[hl];rfl
   have hb:b∈C.bs:=by rw[<-g.lv];rw[look_iff]at hk;exact of_decide_eq_true hk
   have hn:b∉C.br.map (·.1):=λz=>h<|keys_look.mpr z;refine⟨Yc.gd.more (Yc.gd.sets ⟨g.no,?_,λq hq=>?_,λq hq=>?_,?_,g.fn,g.fr,hlen⟩ M7) ↥0,?_⟩
   .show((C.br++[(b,ZD b (l+1) C.most [])]).map (·.1)).Nodup;rw[Ý,è];exact⟨g.nd,by simp,λa ha c hc=>by have hc:c=b:=á.mp hc;rw[hc];exact λz=>hn<|z▸ha⟩
   .rcases ê.mp hq with hq|hq
    .exact g.sub q hq
    .rw[á.mp hq];exact hb
   .rcases ê.mp hq with hq|hq
    .exact g.ok q hq
    .rw[á.mp hq];exact⟨Ay,λt ht=>nomatch ht⟩
   .show(Zr C.lives b<|l+1).map (·.1)=_;rw[Wn,gu hk];exact g.lv
   .exact We (gg b 0 C.ts) {C with lives:=Zr C.lives b<|l+1,br:=C.br++[(b,ZD b (l+1) C.most [])]}
 |backT p =>
  dsimp only[step]at s;split at s
  .rename_i h;cases s;let⟨v,hv⟩:=ë.mp h;have hp:=g.fr _<|Zh hv;exact⟨Yc.gd.more (Yc.gd.set1 ⟨g.no,g.nd,g.sub,g.ok,g.lv,YD g.fn p,λq hq=>g.fr q<|Yo hq,hlen⟩ hp.1 hp.2) ↥0,rfl,rfl,rfl⟩
  .cases s
def JH{b:Int}:(Y.cc.br.lookup b).isSome=((stands Y.es).lookup b).isSome:=IN
def UR(he:Y.es=pre++e::Ľ)(nd:(Y.es.map (·.num)).Nodup):enC (pre++⟨e.num,e.b,t,d,F e.B⟩::Ľ)=upC e.num F (enC Y.es):=by rw[he]at nd ⊢;rw[<-W9,NK nd];unfold enC;rw[Ý,Ý];rfl
def UW(he:Y.es=pre++e::Ľ)(ht:t=e.t)(hd:d=e.d\/h d=eS):∀a∈({Y with es:=pre++⟨e.num,e.b,t,d,B⟩::Ľ,road:=rd}:Yd).adr,a∈Y.adr\/h a=eS:=λa ha=>by
 subst ht;unfold Yd.adr at ha ⊢;rw[he,YO];dsimp only at ha;rw[YO]at ha;simp only[ê,Å,É,or_false]at ha ⊢;rcases hd with rfl|hd
 .exact .inl ha
 .rcases ha with ha|ha|(rfl|rfl|rfl)|ha
  .exact .inl<|.inl ha
  .exact .inl<|.inr<|.inl ha
  .exact .inl<|.inr<|.inr<|.inl<|.inl rfl
  .exact .inl<|.inr<|.inr<|.inl<|.inr<|.inl rfl
  .exact .inr hd
  .exact .inl<|.inr<|.inr<|.inr ha
def JD:∀{l bs:List Int},l.Nodup->(∀x∈l,x∈bs)->l.length<=bs.length
 |[],_,_,_=>ģ _
 |a::l,bs,nd,h=>by have ha:=h a (by simp);have:=JD (l:=l) (bs:=bs.erase a) (ó.mp nd).2 λx hx=>(List.mem_erase_of_ne λz:x=a=>(ó.mp nd).1<|z▸hx).mpr (h x<|by simp[hx]);rw[bS ha]at this;have:=List.length_pos_of_mem ha;rw[Ð];lia
def UU{p:Int}{β:Type}{f:Int×Int×Int×L->β}(hp:¬(0<=p/\p<Y.road.length)):(if p<0 then eS else(Y.cc.road[p.toNat]?).map f)=eS:=by
 split
 .rfl
 .rw[show Y.cc.road[p.toNat]?=eS from Ŀ<|by show Y.road.length<=_;lia];rfl
structure Mv(h:Hs)(Y:Yd)(g:Hs)(Z:Yd):Prop where
 y:Z.y=Y.y
 at_:fi g Z
 nw:∀a∈Z.adr,a∈Y.adr\/h a=eS
 ex:Ex Y.adr h g
def Mv.off(m:Mv h Y g Z)(na:a∉Y.adr)(e:h a=eQ o):a∉Z.adr/\g a=eQ o:=⟨λz=>(m.nw a z).elim na λy=>(by rw[e]at y;cases y),m.ex.get na e⟩
def Nm{b:Int}(h:(stands es).lookup b=eS):b∉es.map (·.num):=by rw[<-ZI];exact Xv h
section
def YJ{d:Dd}(x:fi h Y)(gd:Y.cc.gd N)(hN:N<=6000)(sd:(step Y.cc d).isSome=eU)(k:∀(Y':Yd) g',step Y.cc d=eQ Y'.cc->Mv h Y g' Y'->Q .non g'):wF P (n+6) "Yard.deed" [.ref Y.y,d.v] h Q X:=by
 refine Hg x λg Q' x1 x' hq=>?_;have no:fw Y.bs Y.ts:=gd.no;have ok:∀e∈Y.es,Bok Y.ts.length e.B:=λe he=>gd.ok (e.num,e.B)<|Ô.mpr ⟨e,he,rfl⟩;have oks:∀e∈Y.es,e.B.ok:=λe he=>(ok e he).ok;have hl:Y.road.length<=16*N:=gd.len;have key:=x.key;have xi:=x'.ins;have xs:=x'.stand;have xf:=x'.fallen;have xl:=x'.lives;have fin:∀{Y':Yd} {g'},fi g' Y'->step Y.cc d=eQ Y'.cc->Y'.y=Y.y->(∀a∈Y'.adr,a∈Y.adr\/g a=eS)->Ex Y.adr g g'->∀v,Q' v g':=λ{Y' g'} y s e f ex v=>hq v g'<|k Y' g' s ⟨e,y,λa ha=>(f a ha).imp id λz=>Yb x1 z,(Ex.of x1).trans ex⟩;have bad:∀{p:Prop},step Y.cc d=eS->p:=λ{p} s=>by rw[s]at sd;cases sd
 have h10:Y.lives.length<=10:=by have e:=congrArg List.length gd.lv;rw[Á]at e;have:=no.ten;have:Y.cc.bs.length=Y.bs.length:=rfl;have:Y.cc.lives.length=Y.lives.length:=rfl;lia
 have e10:Y.es.length<=10:=by
  have:=JD gd.nd<|keys_sub.mp gd.sub;have h2:(Y.cc.br.map (·.1)).length=Y.es.length:=by show((enC Y.es).map (·.1)).length=_;rw[Xq,Á]
  have:=no.ten;have:Y.cc.bs.length=Y.bs.length:=rfl;lia
 have f16:Y.fallen.length<=16:=by
  have:=Z7 (m:=16) gd.fn λx hx=>by let⟨q,hq,rfl⟩:=Ô.mp hx;have:=gd.fr q hq;have:=no.sixteen;have:Y.cc.ts.length=Y.ts.length:=rfl;lia
  rw[Á]at this;exact this
 clear sd;cases d with
 |tick b =>
  show wF P (n+5) "Yard.tick_of" [.ref Y.y,.int b] g Q' X;cases lk:(stands Y.es).lookup b with
  |none =>refine bad ?_;have:=JH (Y:=Y) (b:=b);rw[lk]at this;show(Y.cc.br.lookup b).map _=eS;rw[Option.isSome_eq_false_iff.mp this |> bg.mp];rfl
  |some a =>
   let⟨e,pre,Ľ,he,rfl,rfl⟩:=Xj lk;have hm:e∈Y.es:=by rw[he];simp
   refine BJ x' he (oks e hm) (ok e hm).pl ↥0 λd' g2 y2 hd x2=>?_;refine fin y2 ?_ rfl (UW he rfl<|.inr hd) x2 .non;show(Y.cc.br.lookup e.num).map _=_;rw[show Y.cc.br.lookup e.num=eQ e.B from XB gd.nd<|Ô.mpr ⟨e,hm,rfl⟩];unfold Yd.cc;dsimp only;rw[UR (F:=Br.ticked) he key];rfl
 |come p =>
  show wF P (n+5) "Yard.come" [.ref Y.y,.int p] g Q' X;by_cases hp:0<=p/\p<Y.road.length
  .obtain⟨q,rfl⟩:∃q:Nat,p=q:=⟨p.toNat,by lia⟩
   have hr:=È (l:=Y.road) (i:=q) ↥0;generalize Y.road[q]'↥0=r at hr;have st:step Y.cc (.come q)=eQ {Y.cc with br:=upC r.2.1 (Zt · r.2.2.1 r.2.2.2) Y.cc.br,road:=Y.road.eraseIdx q}:=by show(if(q:Int)<0 then eS else(Y.road[(q:Int).toNat]?).map _)=_;rw[gw ↥0,â,hr];rfl
   cases lk:(stands Y.es).lookup r.2.1 with
   |none =>refine ER x' hr ↥0 (Nm lk) λg2 y2 x2=>fin y2 ?_ rfl (λa ha=>.inl ha) x2 .non;rw[st];unfold Yd.cc;dsimp only;rw[<-W9,Wy<|Nm lk]
   |some a =>
    let⟨e,pre,Ľ,he,hn,rfl⟩:=Xj lk;have hm:e∈Y.es:=by rw[he];simp
    refine F0 x' hr ↥0 he hn.symm (oks e hm) λg2 y2 x2=>fin y2 ?_ rfl (UW he rfl<|.inl rfl) x2 .non;rw[st];unfold Yd.cc;dsimp only;rw[<-hn,UR (F:=(Zt · r.2.2.1 r.2.2.2)) he key]
  .exact bad<|UU hp
 |lost p =>
  show wF P (n+5) "Yard.take_off" [.ref Y.y,.int p] g Q' X;by_cases hp:0<=p/\p<Y.road.length
  .obtain⟨q,rfl⟩:∃q:Nat,p=q:=⟨p.toNat,by lia⟩
   have hr:=È (l:=Y.road) (i:=q) ↥0;refine X0 x' hr ↥0 λg2 y2 x2=>fin y2 ?_ rfl (λa ha=>.inl ha) (x2.sub λa ha=>by rw[á.mp ha];exact Ü _<|by simp) _;show(if(q:Int)<0 then eS else(Y.road[(q:Int).toNat]?).map _)=_;rw[gw ↥0,â,hr];rfl
  .exact bad<|UU hp
 |fallB b =>
  show wF P (n+5) "Yard.fall_of_bridge" [.ref Y.y,.int b] g Q' X;have lc:=JH (Y:=Y) (b:=b);cases lk:(stands Y.es).lookup b with
  |none =>rw[lk]at lc;exact bad (gw<|by rw[lc];decide)
  |some a =>
   rw[lk]at lc;refine Fh no x' oks (by rw[<-ZI];exact Ć (f:=(·.1))<|Zh lk) λg2 y2 gd2 x2=>?_;have sm:=YM (gg b 0 Y.ts) {Y with es:=Yr b Y.es};refine fin y2 ?_ sm.y (λa ha=>.inl ?_) x2 .non
   .rw[O9];refine(gu lc).trans ?_;congr 2;unfold Yd.cc;dsimp only;congr 1;unfold Zd enC Yr;rw[a8];rfl
   .rw[sm.adr]at ha;exact((ŭ _).append<|Jh<|XD b Y.es).subset ha
 |fallT p =>
  show wF P (n+5) "Yard.fall_of_tie" [.ref Y.y,.int p] g Q' X;have htl:(Y.ts.map trV).length=Y.ts.length:=Á _;by_cases hp:0<=p/\p<Y.ts.length
  .obtain⟨q,rfl⟩:∃q:Nat,p=q:=⟨p.toNat,by lia⟩
   have et:=È (l:=Y.ts) (i:=q) ↥0;have eg:Y.ts[(q:Int).toNat]?.getD (0,0,0)=Y.ts[q]'↥0:=by rw[â,et];rfl
   cases lk:Y.fallen.lookup (q:Int)with
   |none =>
    refine Ce no x' oks et lk ↥0 λg2 y2 x2=>fin y2 ?_ rfl (λa ha=>.inl ?_) x2 .non
    .refine(gu ⟨hp,by show(Y.fallen.lookup _).isSome=eV;rw[lk];rfl⟩).trans<|congrArg eQ ?_;have:=O3 (Y:={Y with fallen:=Zr Y.fallen q eU}) (p:=q);dsimp only at this;rw[eg]at this;exact this.symm
    .unfold Yd.adr at ha ⊢;dsimp only at ha
     rwa [JA]at ha
   |some v =>exact bad (gw λz=>by have z:=z.2;have:(Y.fallen.lookup (q:Int)).isSome=eV:=z;rw[lk]at this;cases this)
  .exact bad<|gw λz=>hp z.1
 |backB b =>
  show wF P (n+5) "Yard.back_of_bridge" [.ref Y.y,.int b] g Q' X;have lc:=JH (Y:=Y) (b:=b);cases ll:Y.lives.lookup b with
  |none =>
   refine bad ?_;dsimp only[step];split
   .rfl
   .show(Y.lives.lookup b).map _=eS;rw[ll];rfl
  |some life =>
   cases lk:(stands Y.es).lookup b with
   |some a =>rw[lk]at lc;exact bad<|gu lc
   |none =>
    rw[lk]at lc;refine EG no x' oks ll (Nm lk) ↥0 ↥0 λq t d' g2 fr y2 gd2 x2=>?_;have sm:=YM (gg b 0 Y.ts) {Y with lives:=Zr Y.lives b<|life+1,es:=Y.es++[⟨b,q,t,d',ZD b (life+1) Y.most []⟩]};refine fin y2 ?_ sm.y (λa ha=>?_) x2 .non
    .rw[O9];refine(gw<|by rw[lc];decide).trans ?_;show(Y.lives.lookup b).map _=_;rw[ll];congr 2;unfold Yd.cc;dsimp only;unfold enC;rw[Ý];rfl
    .rw[sm.adr]at ha;have z:a∈[Y.y,Y.lv,Y.st,Y.fl,Y.rd]++enA (Y.es++[⟨b,q,t,d',ZD b (life+1) Y.most []⟩]):=ha;rw[Ws,<-Ĝ]at z;rcases ê.mp z with z|z
     .exact .inl z
     .exact .inr<|fr a z
 |backT p =>
  show wF P (n+5) "Yard.back_of_tie" [.ref Y.y,.int p] g Q' X;cases lk:Y.fallen.lookup p with
  |none =>exact bad (gw<|by show ¬(Y.fallen.lookup p).isSome=eU;rw[lk];decide)
  |some v =>
   have hp:=gd.fr _<|Zh lk;have dA:p<Y.ts.length:=hp.2;obtain⟨q,rfl⟩:∃q:Nat,p=q:=⟨p.toNat,by have:0<=p:=hp.1;lia⟩
   have et:=È (l:=Y.ts) (i:=q) ↥0;have eg:Y.ts[(q:Int).toNat]?.getD (0,0,0)=Y.ts[q]'↥0:=by rw[â,et];rfl
   refine E8 no x' oks et lk λg2 y2 x2=>fin y2 ?_ rfl (λa ha=>.inl ?_) x2 .non
   .refine(gu<|by show(Y.fallen.lookup _).isSome=eU;rw[lk];rfl).trans<|congrArg eQ ?_;have:=O3 (Y:={Y with fallen:=Zd Y.fallen q}) (p:=q);dsimp only at this;rw[eg]at this;exact this.symm
   .unfold Yd.adr at ha ⊢;dsimp only at ha
    rwa [JA]at ha
end
abbrev Yc.at_(C:Yc)(b:Int):Br:=(C.br.lookup b).getD<|ZD 0 0 0 []
abbrev Yc.keys(C:Yc):List Int:=sortI (C.br.map (·.1))
abbrev Qc(C:Yc):List Val:=C.keys.map λb=>.tup [.int b,(C.at_ b).label.v]
abbrev Bj(C:Yc)(b p:Int):String:=if(C.br.lookup b).isSome then Mh (C.at_ b) p else "down"
abbrev Yc.ends(C:Yc)(p:Int):String×String:=(Bj C (C.tie p).1 p,Bj C (C.tie p).2.1 p)
def Yc.gd.ten(g:C.gd N):(C.br.map (·.1)).length<=10:=Ö (JD g.nd<|keys_sub.mp g.sub) g.no.ten
def OI:C.keys.length=(C.br.map (·.1)).length:=(ν _ _).length_eq
def keys_mem{b:Int}:b∈C.keys↔(C.br.lookup b).isSome=eU:=by unfold Yc.keys;rw[mem_sort,keys_look]
def fi.at_(x:fi h Y){b:Int}(hb:(Y.cc.br.lookup b).isSome=eU):∃e∈Y.es,e.num=b/\(O.stands Y.es).lookup b=eQ e.b/\Y.cc.at_ b=e.B/\fh h e.b e.t e.d e.B:=by
 rw[JH]at hb;let⟨a,ha⟩:=ë.mp hb;let⟨e,pre,Ľ,he,rfl,rfl⟩:=Xj ha;have hm:e∈Y.es:=by rw[he];simp
 refine⟨e,hm,rfl,ha,?_,x.brs e hm⟩;have:(enC Y.es).lookup e.num=eQ e.B:=XB (by rw[Xq];exact x.key)<|Ô.mpr ⟨e,hm,rfl⟩;show((enC Y.es).lookup e.num).getD _=_;rw[this];rfl
section
variable {N:Nat}
def F6(x:fi h Y)(k:∀p g,h p=eS->Ext h g->g p=eQ (.lst<|Y.road.map rdV)->Q (.ref p) g):wF P (n+1) "Yard.road" [.ref Y.y] h Q X:=by have xi:=x.ins;have xr:=x.road;refine N5 ?_;refine' Zk k
def A0(x:fi h Y)(gd:Y.cc.gd N)(k:∀p g,h p=eS->Ext h g->g p=eQ (.lst<|Qc Y.cc)->Q (.ref p) g):wF P (n+2) "Yard.labels" [.ref Y.y] h Q X:=by
 have xi:=x.ins;have xs:=x.stand;have ek:(stands Y.es).map (·.1)=Y.cc.br.map (·.1):=(ZI _).trans (Xq _).symm;have h10:=gd.ten;have kl:=OI (C:=Y.cc);refine KD ?_;refine' Ul xs (Ev _) (by rw[ek];lia) (Zk λp1 g1 cS x1 e1=>?_);rw[ek]at e1;have x':=x.ext x1;have xi:=x'.ins;have xs:=x'.stand;refine' ⟨Õ (by rw[Á];show Y.cc.keys.length<=10;lia) ↥1,?_⟩;refine WE (λi ys g=>g=g1/\ys=(Y.cc.keys.take i).map λb=>.tup [.int b,(Y.cc.at_ b).label.v]) ⟨rfl,rfl⟩ (λi ys g _ ⟨z,_⟩=>by rw[z];exact lsE e1) ?_ ?_
 .rintro i v ys g hv ⟨rfl,rfl⟩ K hK;let⟨nm,hnm,rfl⟩:=ZJ hv;let⟨e,he,en,lk,ea,ba⟩:=x'.at_<|keys_mem.mp<|ã hnm;have bi:=ba.ins;walk_at "p";refine ZV xs rfl (by rw[Z2,lk];rfl) ?_
  exists EU ba
  refine' hK _ _ ⟨rfl,?_⟩;rw[Zo (xs:=Y.cc.keys) hnm,Ý,<-ea];rfl
 .rintro ys g ⟨rfl,rfl⟩;rw[Á,show(sortI (Y.cc.br.map (·.1))).length=Y.cc.keys.length from rfl,ü];exact Zk λp g2 hp x2 ep=>k p g2 (Yb x1 hp) (x1.trans x2) ep
def N8{b p:Int}(x:fi h Y)(k:Q (.str<|Bj Y.cc b p) h):wF P (n+4) "Yard.end_at" [.ref Y.y,.int b,.int p] h Q X:=by
 have xi:=x.ins;have xs:=x.stand;refine KJ ?_
 exists XS xs rfl
 rw[YU,<-JH];fail;unfold Bj at k;cases z:(Y.cc.br.lookup b).isSome with
 |false =>rw[z]at k;walk_at "p";exact k
 |true =>rw[z,gu rfl]at k;let⟨e,he,en,lk,ea,ba⟩:=x.at_ z;have bi:=ba.ins;walk_at "p";refine ZV xs rfl (by rw[Z2,lk];rfl) ?_;fail;rw[ea]at k;exact PN ba k
def Ar{p:Nat}(x:fi h Y)(hp:p<Y.ts.length)(k:Q (.tup [.str (Y.cc.ends p).1,.str (Y.cc.ends p).2]) h):wF P (n+5) "Yard.ends" [.ref Y.y,.int p] h Q X:=by
 have xi:=x.ins;have htl:(Y.ts.map trV).length=Y.ts.length:=Á _;have eg:Y.cc.tie p=Y.ts[p]:=by show Y.ts[(p:Int).toNat]?.getD _=_;rw[â,È hp];rfl
 refine N6 ?_
 exists Xc
 fail;refine fV (by simp) ?_
 exists fc (xs:=[.tup<|Y.bs.map .int,.tup<|Y.ts.map trV]) (v:=.tup<|Y.ts.map trV) rfl
 fail;refine fW (by rw[htl];simpa using hp) ?_
 exists fc (xs:=[.tup<|Y.bs.map .int,.tup<|Y.ts.map trV]) (v:=.tup<|Y.ts.map trV) rfl
 refine' fc (v:=trV Y.ts[p]) (YH ↥0<|by rw[â,Ù,È hp];rfl) ?_;unfold Yc.ends at k;rw[eg]at k;unfold trV
 exists N8 x
 exists N8 x
 refine' k
end
def Jm{k:Nat}(q:∀c,Q (.int c) h):wF P (n+1) "_law_cell_at" [.scr ns,.int k] h Q X:=by
 refine KM ?_;refine' fX (λhc=>?_) (λhc=>?_)
 .fail;have hk:k<ns.length:=by lia
  refine Pw (v:=.int ns[k]) ?_ ?_
  .refine YH ↥0 ?_;rw[Ù];simp[hk]
  .exact q _
 .refine' q _
def NN{k:Nat}(hk:k<=100)(q:∀r,0<=r->Q (.int r) h):wF P (n+1) "_law_mixed" [.int c,.int k] h Q X:=by
 refine NF ?_
 exists q _
 exact Int.ediv_nonneg (ĭ _<|by decide) ↥1
abbrev Nn(ns:List Int):Prop:=∀x∈ns,0<=x
def Kc{m:Nat}(hm:m<=100)(q:∀p (ns:List Int) g,h p=eS->Ext h g->g p=eQ (.lst<|ns.map .int)->ns.length=m->Nn ns->Q (.ref p) g):wF P (n+2) "_law_draws" [.int c,.int m] h Q X:=by
 refine N9 ?_;refine' Zk λp g1 hp x1 e1=>?_;refine' ⟨⟨by lia,by lia⟩,?_⟩;refine Zp (λi en g=>Sm3 λr v5 b=>∃ns:List Int,en=[eQ<|.int c,eQ<|.int m,eQ<|.int r,eQ<|.bl b,eQ<|.ref p,v5]/\g p=eQ (.lst<|ns.map .int)/\ns.length=i/\Nn ns/\Ext h g) ⟨_,_,_,[],rfl,e1,rfl,(λx hx=>gA hx É),x1⟩ (λ_ _ _ _ _=>trivial) ?_ ?_
 .rintro i v en g hv ⟨r,v5,b,ns,rfl,e,hl,hn,x⟩ K hK;let⟨rfl,hi⟩:=WA hv;have put:∀{y:Int}{r':Int},0<=y->K [eQ<|.int c,eQ<|.int m,eQ<|.int r',eQ<|.bl b,eQ<|.ref p,eQ<|.int i] (upd g p<|.lst<|ns.map Val.int++[.int y]):=λ{y r'} hy=>by
   refine hK _ _ ⟨_,_,_,ns++[y],rfl,by rw[eX,Ý];rfl,by rw[í,hl];rfl,λz hz=>?_,⟨λe=>by rw[eW<|Za e hp];exact x.get e⟩⟩;rcases ê.mp hz with hz|hz
   .exact hn z hz
   .rw[á.mp hz];exact hy
  have hlim:(ns.map Val.int).length<lim:=by rw[Á];exact Õ (by lia:ns.length<=100) ↥1
  refine' fY (λhc=>?_) (λhc=>?_)
  .refine' fX (λhr=>?_) (λhr=>?_)
   .refine' put (ĭ _<|by decide)
   .refine' NN ↥0 λy hy=>?_;refine' put hy
  .refine fW rfl ?_;refine' NN ↥0 λy hy=>?_;refine' put hy
 .rintro en g ⟨r,v5,b,ns,rfl,e,hl,hn,x⟩;rw[Nd]at hl;refine' q p ns g hp x e ↥0 hn
def nth(hi:i<ns.length)(hn:Nn ns):∃x,0<=x/\atI (ns.map Val.int) i=eQ (.int x):=by refine⟨ns[i],hn _<|Ļ hi,YH ↥0 ?_⟩;rw[Ù];simp[hi]
def Uc(ea:h a=eQ (.lst<|ns.map .int))(hl:ns.length=14)(hn:Nn ns)(q:∀p (bs:List Int) g,h p=eS->Ext h g->g p=eQ (.lst<|bs.map .int)->1<=bs.length->bs.length<=10->Brs bs->bs.Pairwise (· < ·)->Q (.ref p) g):wF P (n+1) "_law_bridges" [.ref a] h Q X:=by
 let⟨s0,s00,a0⟩:=nth (i:=0) ↥0 hn;let⟨s1,s10,a1⟩:=nth (i:=1) ↥0 hn;have fin:∀m:Int,1<=m->m<=10->∀{v3:Option Val},wSs (wF P n) #[.set (.one 2)<|.idx (.lst #[.cst<|.int 1000,.cst<|.int 12,.cst<|.int 1000,.cst<|.int 30])<|.bin .mod (.idx (.var 0)<|.cst<|.int 1)<|.cst<|.int 4,.ret<|.bi .sortedSet #[.comp [2] 1 (.one 0) (.seq<|.slc (.var 0) (.some<|.cst<|.int 4)<|.some<|.bin .add (.cst<|.int 4)<|.var 1) .yes<|.bin .mod (.var 0)<|.var 1]] [eQ<|.ref a,eQ<|.int m,v3] h (λ_ g=>Q .non g) Q (λ_ _=>False) (λ_ _=>False) λ_ c g=>X c g:=by
  intro m m1 m2 v3;refine' Zk λp1 g1 cS x1 e1=>?_
  exists Zf (x1.get ea) a1
  fail;let⟨v,ev,hv⟩:=JO (xs:=[Val.int 1000,.int 12,.int 1000,.int 30]) (r:=s1 % 4) (ĭ _<|by decide) (ĳ _<|by decide);obtain⟨wd,rfl,w1,w2⟩:∃wd:Int,v=.int wd/\1<=wd/\wd<=1000:=by simp![Å,É,or_false]at hv;rcases hv with rfl|rfl|rfl|rfl<;>exact⟨_,rfl,by decide,by decide⟩
  refine Zf e1 ev ?_;refine' Zk λp2 g2 dA x2 e2=>?_;rw[Kp,UK ↥1<|by lia]at e2;have hc:((ns.drop (4:Int).toNat).take<|(4+m).toNat - (4:Int).toNat).length=m.toNat:=by rw[þ,Ū,hl];lia
  generalize (ns.drop (4:Int).toNat).take ((4+m).toNat - (4:Int).toNat)=ks at e2 hc;refine' ⟨Õ (by rw[Á];lia:_<=10) ↥1,XA (λv=>match v with|.int b=>eQ (.int<|b % wd)|_=>eS) (lsE e2) (λv hv K hK=>?_) ?_⟩
  .obtain⟨b,_,rfl⟩:=Ô.mp hv;walk_at "p";exact hK
  rw[show(ks.map Val.int).filterMap (λv=>match v with|.int b=>eQ (.int<|b % wd)|_=>eS)=(ks.map (· % wd)).map Val.int by rw[Β,õ];exact congrFun (ck (f:=λb:Int=>Val.int<|b % wd)) ks];refine Zk λp3 g3 hp3 x3 e3=>?_;fail;have hk:(ks.map (· % wd)).length=m.toNat:=by rw[Á];exact hc
  refine Th e3 ↥0<|Zk λp4 g4 hp4 x4 e4=>?_;have xx:=((x1.trans x2).trans x3).trans x4;have hp0:h p4=eS:=by
   cases z:h p4 with
   |none=>rfl
   |some o=>rw[x3.get<|x2.get<|x1.get z]at hp4;cases hp4
  refine q p4 _ g4 hp0 xx e4 (LI<|by lia) (Ö (Qb _)<|by lia) (λi hi=>?_)<|Sk _;let⟨b,_,rfl⟩:=Ô.mp<|sd_mem.mp hi;exact⟨ĭ _ ↥0,eM (ĳ _<|by lia) w2⟩
 refine KO ?_
 exists Zf ea a0
 exists Zf ea a0
 refine' fX (λhc=>?_) (λhc=>?_)
 .exists Zf ea a0
  repeat (first|exact fin _ ↥0 ↥0|walk_at "py1")
 .exact fin _ ↥0 ↥0
variable {j:Int}
def R5(nd:ns.Nodup){i:Int}{a b:Int}(i0:0<=i)(i1:i<ns.length)(j0:0<=j)(j1:j<ns.length)(hij:i≠j)(ea:atI (ns.map Val.int) i=eQ (.int a))(eb:atI (ns.map Val.int) j=eQ (.int b)):a≠b:=by
 have hi:i.toNat<ns.length:=by lia
 have hj:j.toNat<ns.length:=by lia
 have e1:=YH (xs:=ns.map Val.int) i0 (x:=.int ns[i.toNat]) (by rw[Ù,È hi];rfl);have e2:=YH (xs:=ns.map Val.int) j0 (x:=.int ns[j.toNat]) (by rw[Ù,È hj];rfl);rw[ea]at e1;rw[eb]at e2;simp only[ı,Val.int.injEq]at e1 e2;rw[e1,e2];intro z;have:=(List.getElem_inj nd).mp z;lia
def Dc{a L:Int}(a0:0<=a)(a1:a<L)(r0:0<=r)(r1:r<L - 1):(a+1+r) % L≠a:=by
 by_cases hc:a+1+r<L
 .rw[Int.emod_eq_of_lt ↥0 hc];lia
 .rw[<-Int.sub_emod_right,Int.emod_eq_of_lt ↥0<|by lia];lia
def Rv(a b:Int):sortI [a,b]=if b<a then [b,a]else [a,b]:=by
 unfold sortI;by_cases h:b<a
 .rw[gu h,Ϫ];simp[π,Ϫ,List.merge,Int.not_le.mpr h]
 .rw[gw h,Ϫ];simp[π,Ϫ,List.merge,Int.not_lt.mp h]
def Fk{k:Nat}(eb:h pb=eQ (.lst<|bs.map .int))(l2:2<=bs.length)(l10:bs.length<=10)(nd:bs.Nodup)(et:h pt=eQ (.lst<|th.map .int))(hl:th.length=3)(hn:Nn th)(q:∀t g,LOk bs t->Ext h g->Q (trV t) g):wF P (n+1) "_law_tie" [.ref pb,.ref pt,.int k] h Q X:=by
 have hL:(bs.map Val.int).length=bs.length:=Á _;let⟨t0,t00,a0⟩:=nth (i:=0) ↥0 hn;let⟨t1,t10,a1⟩:=nth (i:=1) ↥0 hn;let⟨t2,t20,a2⟩:=nth (i:=2) ↥0 hn;have fin:∀{one aW:Int},0<=one->one<bs.length->0<=aW->aW<bs.length->one≠aW->wSs (wF P n) #[.set (.one 6)<|.bin .add (.cst<|.int 1)<|.bin .mod (.idx (.var 1)<|.cst<|.int 2)<|.cst<|.int 1000,.ite (.val<|.cmp .eq (.bin .mod (.bin .fdiv (.idx (.var 1)<|.cst<|.int 0)<|.cst<|.int 20)<|.cst<|.int 2)<|.cst<|.int 0) #[.set (.one 6)<|.bin .add (.cst<|.int 1)<|.bin .mod (.idx (.var 1)<|.cst<|.int 2)<|.cst<|.int 3] .nil,.set (.one 7)<|.bi .sortedI #[.lst #[.idx (.var 0)<|.var 4,.idx (.var 0)<|.var 5]],.ret<|.tup #[.idx (.var 7)<|.cst<|.int 0,.idx (.var 7)<|.cst<|.int 1,.var 6]] [eQ<|.ref pb,eQ<|.ref pt,eQ<|.int k,eQ<|.int bs.length,eQ<|.int one,eQ<|.int aW,eS,eS] h (λ_ g=>Q .non g) Q (λ_ _=>False) (λ_ _=>False) λ_ c g=>X c g:=by
  intro one aW o0 o1 p0 p1 Ş;let⟨u1,eu1,hu1⟩:=JO (xs:=bs.map Val.int) (r:=one) o0 ↥0;let⟨i1,hi1,rfl⟩:=Ô.mp hu1;let⟨u2,eu2,hu2⟩:=JO (xs:=bs.map Val.int) (r:=aW) p0 ↥0;let⟨i2,hi2,rfl⟩:=Ô.mp hu2;have hi:=R5 nd o0 o1 p0 p1 Ş eu1 eu2;have last:∀c:Int,1<=c->c<=1000->wSs (wF P n) #[.set (.one 7)<|.bi .sortedI #[.lst #[.idx (.var 0)<|.var 4,.idx (.var 0)<|.var 5]],.ret<|.tup #[.idx (.var 7)<|.cst<|.int 0,.idx (.var 7)<|.cst<|.int 1,.var 6]] [eQ<|.ref pb,eQ<|.ref pt,eQ<|.int k,eQ<|.int bs.length,eQ<|.int one,eQ<|.int aW,eQ<|.int c,eS] h (λ_ g=>Q .non g) Q (λ_ _=>False) (λ_ _=>False) λ_ c g=>X c g:=by
   intro c c0 c1
   exists Zf eb eu1
   exists Zf eb eu2
   refine' Zk λp3 g3 hp3 x3 e3=>?_;refine' Pq (ns:=[i1,i2]) e3 rfl (by simp) (Zk λp4 g4 hp4 x4 e4=>?_);rw[Rv]at e4;have x34:=x3.trans x4;by_cases Ϝ:i2<i1
   .rw[gu Ϝ]at e4;refine' q (i2,i1,c) g4 ⟨hi2,hi1,Ϝ,c0,c1⟩ x34
   .rw[gw Ϝ]at e4;refine' q (i1,i2,c) g4 ⟨hi1,hi2,by show i1<i2;lia,c0,c1⟩ x34
  exists Zf et a2
  exists Zf et a0
  refine' fX (λhc=>?_) (λhc=>?_)
  .exists Zf et a2
   repeat (first|exact last _ ↥0 ↥0|walk_at "py1")
  .refine O7 ?_;exact last _ ↥0 ↥0
 refine Ba ?_
 exists Zf et a0
 rw[hL]
 exists Zf et a1
 fail;have o0:=ĭ t0 (show(bs.length:Int)≠0 by lia);have o1:=ĳ t0 (show(0:Int)<bs.length by lia);have r0:=ĭ t1 (show(bs.length:Int) - 1≠0 by lia);have r1:=ĳ t1 (show(0:Int)<(bs.length:Int) - 1 by lia);have p0:=ĭ (t0 % bs.length+1+t1 % ((bs.length:Int) - 1)) (show(bs.length:Int)≠0 by lia);have p1:=ĳ (t0 % bs.length+1+t1 % ((bs.length:Int) - 1)) (show(0:Int)<bs.length by lia);refine fX (λhc=>?_) λhc=>?_
 .exists Zf et a0
  refine' fX (λhd=>?_) (λhd=>?_)
  .exists Zf et a1
   have q0:=ĭ t1 (show(k:Int)+1≠0 by lia);have q1:=ĳ t1 (show(0:Int)<(k:Int)+1 by lia)
   repeat (first|exact fin ↥0 hc q0 ↥0 ↥0|walk_at "py1")
  .exact fin o0 o1 p0 p1 (Dc o0 o1 r0 r1).symm
 .refine fW rfl ?_;exact fin o0 o1 p0 p1 (Dc o0 o1 r0 r1).symm
def Lo{d:Int}(q:∀bs ts g,fw bs ts->Ext h g->Q (ZC bs ts) g):wF P (n+3) "_law_net" [.int c,.int d] h Q X:=by
 refine BZ ?_;refine' Kc (m:=14) ↥1 λp ns g1 hp x1 e1 hl hn=>?_;let⟨s2,s20,a2⟩:=nth (i:=2) ↥0 hn;refine' Uc e1 hl hn λpb bs g2 hpb x2 eb l1 l10 hb up=>?_;have hL:(bs.map Val.int).length=bs.length:=Á _;have nd:bs.Nodup:=up.imp λh=>by lia
 have e1':=x2.get e1;have x12:=x1.trans x2;have fin:∀m:Nat,m<=16->(0<m->2<=bs.length)->wSs (wF P<|n+2) #[.set (.one 5)<|.call "_law_draws" #[.var 1,.bin .mul (.cst<|.int 3)<|.var 4],.set (.one 6)<|.comp [3,5] 1 (.one 0) (.range<|.var 4) .yes<|.call "_law_tie" #[.var 1,.slc (.var 2) (.some<|.bin .mul (.cst<|.int 3)<|.var 0)<|.some<|.bin .add (.bin .mul (.cst<|.int 3)<|.var 0)<|.cst<|.int 3,.var 0],.ret<|.tup #[.bi .tuple #[.var 3],.bi .tuple #[.var 6]]] [eQ<|.int c,eQ<|.int d,eQ<|.ref p,eQ<|.ref pb,eQ<|.int m,eS,eS] g2 (λ_ g=>Q .non g) Q (λ_ _=>False) (λ_ _=>False) λ_ c g=>X c g:=by
  intro m hm h2;fail;rw[show(3:Int)*(m:Int)=((3*m:Nat):Int) by lia];refine Kc (m:=3*m) ↥0 λpd ds g3 hpd x3 e3 hdl hdn=>?_;have eb3:=x3.get eb;refine' ⟨⟨by lia,by lia⟩,by rw[Nd];exact Õ (by lia:_<=16) ↥1,?_⟩;refine WE (λi zs g=>∃ts:List Tie,zs=ts.map trV/\ts.length=i/\(∀t∈ts,LOk bs t)/\Ext g3 g) ⟨[],rfl,rfl,(λt ht=>gA ht É),.refl⟩ (λ_ _ _ _ _=>trivial) ?_ ?_
  .rintro i v zs g hv ⟨ts,rfl,htl,ht,x⟩ K hK;let⟨rfl,hi⟩:=WA hv;walk_at "p";refine Zk λp4 g4 hp4 x4 e4=>?_;rw[Kp,UK ↥0<|by lia]at e4;have hc:((ds.drop (3*(i:Int)).toNat).take<|(3*(i:Int)+3).toNat - (3*(i:Int)).toNat).length=3:=by
    rw[þ,Ū,hdl];lia
   have hcn:Nn<|(ds.drop (3*(i:Int)).toNat).take<|(3*(i:Int)+3).toNat - (3*(i:Int)).toNat:=λy hy=>hdn y<|List.mem_of_mem_drop<|List.mem_of_mem_take hy;refine' Fk (x4.get<|x.get eb3) (h2<|by lia) l10 nd e4 hc hcn λt g5 lo x5=>?_;refine hK _ _ ⟨ts++[t],by rw[Ý];rfl,by rw[í,htl];rfl,λy hy=>?_,(x.trans x4).trans x5⟩;rcases ê.mp hy with hy|hy
   .exact ht y hy
   .rw[á.mp hy];exact lo
  .rintro zs g ⟨ts,rfl,htl,ht,x⟩;rw[Nd]at htl;refine Zk λp6 g6 hp6 x6 e6=>?_;have eb6:=x6.get<|x.get eb3;refine' q bs ts g6 ⟨l1,l10,hb,up,by lia,ht⟩ (((x12.trans x3).trans x).trans x6)
 exists Zf e1' a2
 exists Zf e1' a2
 fail;have tail:∀m:Int,0<=m->m<=16->wSs (wF P<|n+2) #[.ite (.val<|.cmp .eq (.bi .len #[.var 3])<|.cst<|.int 1) #[.set (.one 4)<|.cst<|.int 0] .nil,.set (.one 5)<|.call "_law_draws" #[.var 1,.bin .mul (.cst<|.int 3)<|.var 4],.set (.one 6)<|.comp [3,5] 1 (.one 0) (.range<|.var 4) .yes<|.call "_law_tie" #[.var 1,.slc (.var 2) (.some<|.bin .mul (.cst<|.int 3)<|.var 0)<|.some<|.bin .add (.bin .mul (.cst<|.int 3)<|.var 0)<|.cst<|.int 3,.var 0],.ret<|.tup #[.bi .tuple #[.var 3],.bi .tuple #[.var 6]]] [eQ<|.int c,eQ<|.int d,eQ<|.ref p,eQ<|.ref pb,eQ<|.int m,eS,eS] g2 (λ_ g=>Q .non g) Q (λ_ _=>False) (λ_ _=>False) λ_ c g=>X c g:=by
  intro m m0 m1;fail;rw[hL];refine fX (λhc=>?_) λhc=>?_
  .repeat (first|exact fin 0 ↥0 (λz=>gA z<|by decide)|walk_at "py1")
  .refine O7 ?_;have:=fin m.toNat ↥0 (λ_=>by lia)
   rwa [Int.toNat_of_nonneg m0]at this
 refine fX (λhc=>?_) λhc=>?_
 .exists Zf e1' a2
  repeat (first|exact tail _ ↥0 ↥0|walk_at "py1")
 .refine O7 ?_;exact tail _ ↥0 ↥0
def NI(q:∀m g,4<=m->m<=200->Ext h g->Q (.int m) g):wF P (n+3) "_law_greatest" [.int c] h Q X:=by
 refine JI ?_;refine' Kc (m:=4) ↥1 λp ns g1 hp x1 e1 hl hn=>?_;let⟨s1,s10,a1⟩:=nth (i:=1) ↥0 hn;let⟨s3,s30,a3⟩:=nth (i:=3) ↥0 hn
 exists Zf e1 a1
 refine' fX (λhc=>?_) (λhc=>?_)
 .exists Zf e1 a3
  refine' q _ g1 ↥0 ↥0 x1
 .exists Zf e1 a3
  refine' q _ g1 ↥0 ↥0 x1
abbrev Pl:Nat->Val->Prop
 |_,.non=>True
 |_,.int _=>True
 |_,.str s=>True
 |d+1,.tup xs=>xs.length<=100/\∀x∈xs,Pl d x
 |_,_=>False
def Jd{xs:List Val}(e:h a=eQ (.lst xs))(T:String):isiAny h (.ref a) [T]=eQ (T == "list"):=by
 unfold isiAny gp gm;simp![e,Ę,î,isiAny];by_cases z:T = "list"
 .subst z;rfl
 .have e1:("list" == T)=eV:=beq_eq_false_iff_ne.mpr λy=>z y.symm;have e2:(T == "list")=eV:=beq_eq_false_iff_ne.mpr z;rw[e1,e2];rfl
def NT(k:Q (.bl eU) h):wF P (n+1) "_law_same" [.non,.non] h Q X:=by refine Z9 ?_;fail;refine fV ↥1 ?_;refine' k
def Ou{i:Int}(k:Q (.bl eU) h):wF P (n+1) "_law_same" [.int i,.int i] h Q X:=by refine Z9 ?_;fail;refine fW (by simp) ?_;walk_at "p";rw[gy rfl];exact k
def NG(k:Q (.bl eU) h):wF P (n+1) "_law_same" [.str s,.str s] h Q X:=by refine Z9 ?_;fail;refine fW (by simp) ?_;walk_at "p";rw[gy rfl];exact k
def Nk:∀(d:Nat){v:Val}{h:Hs}{Q:Q1},Pl d v->Q (.bl eU) h->wF P (n+d+1) "_law_same" [v,v] h Q X:=by
 intro d;induction d with
 |zero =>
  intro v h Q hv k;cases v with
  |non=>exact NT k
  |int i=>exact Ou k
  |str s=>exact NG k
  |_=>exact hv.elim
 |succ d ih =>
  intro v h Q hv k;cases v with
  |tup xs =>
   refine Z9 ?_;fail;refine fW (by simp) ?_;walk_at "p";refine fW (by simp) ?_;fail;let⟨hl,hv⟩:=hv;refine⟨⟨by lia,by lia⟩,?_⟩;refine Zp (λi e g=>g=h/\∃v,e=[eQ<|.tup xs,eQ<|.tup xs,v]) ⟨rfl,_,rfl⟩ (λ_ _ _ _ _=>trivial) ?_ ?_
   .rintro i v e g hvi ⟨rfl,v1,rfl⟩ K hK;let⟨rfl,hi⟩:=WA hvi;let⟨x,ex,hx⟩:=JO (xs:=xs) (r:=(i:Int)) ↥0 hi
    exists fc ex
    exists fc ex
    exists ih (hv x hx)
    walk_at "p";exact hK _ _ ⟨rfl,_,rfl⟩
   .rintro e g ⟨rfl,v1,rfl⟩;refine' k
  |non=>exact NT k
  |int i=>exact Ou k
  |str s=>exact NG k
  |_=>exact hv.elim
def Kg{d:Nat}{xs:List Val}(ha:h a=eQ (.lst xs))(hb:h b=eQ (.lst xs))(hl:xs.length<=100000)(hx:∀x∈xs,Pl d x)(k:Q (.bl eU) h):wF P (n+d+2) "_law_same" [.ref a,.ref b] h Q X:=by
 refine Z9 ?_;fail;refine fW (by simp) ?_
 exists Eh (Jd hb _)
 walk_at "p";refine Eh (Jd hb _) ?_;walk_at "p";refine Eh (Jd hb _) ?_;walk_at "p";refine Eh (Jd ha _) ?_;walk_at "p";refine fW (by simp) ?_;refine' ⟨⟨by lia,by lia⟩,?_⟩;refine Zp (λi e g=>g=h/\∃v,e=[eQ<|.ref a,eQ<|.ref b,v]) ⟨rfl,_,rfl⟩ (λ_ _ _ _ _=>trivial) ?_ ?_
 .rintro i v e g hvi ⟨rfl,v1,rfl⟩ K hK;let⟨rfl,hi⟩:=WA hvi;let⟨x,ex,hx'⟩:=JO (xs:=xs) (r:=(i:Int)) ↥0 hi
  exists Zf ha ex
  exists Zf hb ex
  exists Nk d (hx x hx')
  walk_at "p";exact hK _ _ ⟨rfl,_,rfl⟩
 .rintro e g ⟨rfl,v1,rfl⟩;refine' k
def Uq:∀{l m:List Int},l.Pairwise (· < ·)->m.Pairwise (· < ·)->(∀x,x∈l↔x∈m)->l=m
 |[],[],_,_,_=>rfl
 |[],y::m,_,_,h=>gA ((h y).mpr å) É
 |x::l,[],_,_,h=>gA ((h x).mp å) É
 |x::l,y::m,hl,hm,h=>by
  rw[Ϲ]at hl hm;have e:x=y:=by
   rcases Å.mp ((h x).mp å)with e|z
   .exact e
   .rcases Å.mp ((h y).mpr å)with e|w
    .exact e.symm
    .have:=hm.1 x z;have:=hl.1 y w;lia
  subst e;refine congrArg (x :: ·)<|Uq hl.2 hm.2 λz=>⟨λhz=>?_,λhz=>?_⟩
  .rcases Å.mp ((h z).mp<|Ø _ hz)with e|w
   .have:=hl.1 z hz;lia
   .exact w
  .rcases Å.mp ((h z).mpr<|Ø _ hz)with e|w
   .have:=hm.1 z hz;lia
   .exact w
def MY{k q:Int}{v:α}:((Zr kvs k v).lookup q).isSome=(gB (q=k)||(kvs.lookup q).isSome):=by
 rw[look_iff,Wn,look_iff (k:=k),look_iff];by_cases h:k∈kvs.map (·.1)
 .rw[gy h,gu rfl];by_cases e:q=k
  .subst e;simp[h]
  .simp[e]
 .rw[gx h,gw<|by decide];by_cases e:q=k<;>simp[e]
def Zx{α:Type}{k b:Int}:∀{kvs:List (Int×α)},(Zd kvs k).lookup b=if b=k then eS else kvs.lookup b
 |[]=>by split<;>rfl
 |p::r=>by
  have ih:=Zx (k:=k) (b:=b) (kvs:=r);unfold Zd at ih ⊢;rw[Ā,Ú];by_cases e:p.1=k
  .rw[gw (by simp[e]),ih];by_cases eb:b=k
   .rw[gu eb,gu eb]
   .rw[gw eb,gw eb,show(b==p.1)=eV by rw[e];simpa using eb]
  .rw[gu (by simp[e]),Ú,ih];by_cases eb:b=p.1
   .subst eb;simp[e]
   .have:(b==p.1)=eV:=⇑eb
    rw[this]
def Z1{k b:Int}{F:Br->Br}:∀{l:List (Int×Br)},(upC k F l).lookup b=(l.lookup b).map λB=>if b=k then F B else B
 |[]=>rfl
 |p::r=>by
  have ih:=Z1 (k:=k) (b:=b) (F:=F) (l:=r);unfold upC at ih ⊢;rw[Ñ,Ú,Ú];by_cases e:p.1=k
  .rw[gu e];dsimp only;by_cases eb:b=p.1
   .have:(b==p.1)=eU:=⇑eb
    rw[this];show eQ (F p.2)=eQ (if b=k then F p.2 else p.2);rw[gu<|eb.trans e]
   .have:(b==p.1)=eV:=⇑eb
    rw[this,ih]
  .rw[gw e];by_cases eb:b=p.1
   .have:(b==p.1)=eU:=⇑eb
    rw[this];show eQ p.2=eQ (if b=k then F p.2 else p.2);rw[gw λz=>e<|eb.symm.trans z]
   .have:(b==p.1)=eV:=⇑eb
    rw[this,ih]
abbrev core(B:Br):Br:={B with ties:=[],held:=[]}
abbrev Yc.core(C:Yc)(b:Int):Option Br:=(C.br.lookup b).map O.core
abbrev Yc.tied(C:Yc)(b p:Int):Bool:=((C.br.lookup b).map λB=>(B.ties.lookup p).isSome).getD eV
abbrev Yc.std(C:Yc)(b:Int):Bool:=(C.br.lookup b).isSome
abbrev Zm(t:Tie)(b:Int):Bool:=gB (b=t.1)||gB (b=t.2.1)
abbrev inl(l:List Tie)(q:Int):Bool:=l.any λr=>gB (r.1=q)
abbrev inR(ts:List Tie)(q:Int):Bool:=gB (0<=q/\q<ts.length)
def E3{b:Int}:(C.core b).isSome=C.std b:=by unfold Yc.core Yc.std;rw[Ń]
def A6{p f:Int}:core (tieF on p f c B)=core B:=by
 unfold tieF upB JV;split
 .split<;>rfl
 .rfl
def KQ{p f q:Int}:((tieF on p f c B).ties.lookup q).isSome=if q=p then on else(B.ties.lookup q).isSome:=by
 unfold tieF upB JV;cases on with
 |true =>
  rw[gu rfl];split
  .rename_i h;split
   .rename_i e;rw[e];exact h
   .rfl
  .show((Zr B.ties p (f,c)).lookup q).isSome=_;rw[MY];by_cases e:q=p<;>simp[e]
 |false =>rw[gw<|by decide];show((Zd B.ties p).lookup q).isSome=_;rw[Zx];by_cases e:q=p<;>simp[e]
def Yu{p b:Int}:((C.set1 p).core b=C.core b)/\((C.set1 p).std b=C.std b):=by
 unfold Yc.set1 Uu Yc.core Yc.std;dsimp only;rw[Z1,Z1];cases C.br.lookup b with
 |none=>exact⟨rfl,rfl⟩
 |some B =>
  refine⟨?_,rfl⟩;have two:∀{q:Prop} [Decidable q] {a f c:Int}{A:Br},core (if q then tieF (onC C p) a f c A else A)=core A:=λ{q _ a f c A}=>by
   split
   .exact A6
   .rfl
  show eQ (core<|if b=(C.tie p).2.1 then tieF _ _ _ _ (if b=(C.tie p).1 then tieF _ _ _ _ B else B)else(if b=(C.tie p).1 then tieF _ _ _ _ B else B))=eQ (core B);rw[two,two]
def Bx{p b q:Int}(Ş:(C.tie p).1≠(C.tie p).2.1):(C.set1 p).tied b q=if(gB (p=q)&&(Zm (C.tie p) b&&C.std b))=eU then onC C p else C.tied b q:=by
 unfold Yc.tied Yc.std Yc.set1 Uu Zm;dsimp only;rw[Z1,Z1];cases C.br.lookup b with
 |none=>simp
 |some B =>
  simp![Ę,dW,ϳ,Ů];by_cases e1:b=(C.tie p).1
  .have e2:¬ b=(C.tie p).2.1:=λz=>Ş<|e1.symm.trans z;rw[gw e2,gu e1,KQ];by_cases e:q=p
   .subst e;simp[e1]
   .have e':¬ p=q:=λz=>e z.symm;simp[e,e']
  .by_cases e2:b=(C.tie p).2.1
   .rw[gu e2,gw e1,KQ];by_cases e:q=p
    .subst e;simp[e2]
    .have e':¬ p=q:=λz=>e z.symm;simp[e,e']
   .rw[gw e2,gw e1];simp[e1,e2]
def Z6:∀(l:List Tie) (C:Yc),(∀b,(C.sets l).core b=C.core b)/\(∀b,(C.sets l).std b=C.std b)/\(C.sets l).fallen=C.fallen/\(C.sets l).lives=C.lives/\(C.sets l).road=C.road/\(C.sets l).bs=C.bs/\(C.sets l).ts=C.ts
 |[],_=>⟨λ_=>rfl,λ_=>rfl,rfl,rfl,rfl,rfl,rfl⟩
 |r::l,C=>by let⟨h1,h2,h3,h4,h5,h6,h7⟩:=Z6 l<|C.set1 r.1;exact⟨λb=>(h1 b).trans Yu.1,λb=>(h2 b).trans Yu.2,h3,h4,h5,h6,h7⟩
def X3{D:Yc}(h1:∀b,D.std b=C.std b)(h2:D.fallen=C.fallen)(h3:D.ts=C.ts)(q:Int):onC D q=onC C q:=by
 have e:D.tie q=C.tie q:=by unfold Yc.tie;rw[h3]
 unfold onC;rw[h2,e];have a:=h1 (C.tie q).1;have b:=h1 (C.tie q).2.1;unfold Yc.std at a b;rw[a,b]
def Mj{b q:Int}:∀{l:List Tie}{C:Yc},(∀r∈l,(C.tie r.1).1≠(C.tie r.1).2.1)->(C.sets l).tied b q=if(inl l q&&(Zm (C.tie q) b&&C.std b))=eU then onC C q else C.tied b q
 |[],C,_=>rfl
 |r::l,C,h=>by
  have ih:=Mj (b:=b) (q:=q) (l:=l) (C:=C.set1 r.1) λs hs=>h s<|Ø _ hs;have e1:=Bx (C:=C) (p:=r.1) (b:=b) (q:=q)<|h r å;have eo:=X3 (C:=C) (D:=C.set1 r.1) (λb=>Yu.2) rfl rfl q;have es:(C.set1 r.1).std b=C.std b:=Yu.2;have et:(C.set1 r.1).tie q=C.tie q:=rfl;rw[et,es,eo,e1]at ih;show((C.set1 r.1).sets l).tied b q=_;rw[ih];unfold inl;rw[Ğ];by_cases e:r.1=q
  .subst e;cases (Zm (C.tie r.1) b&&C.std b)<;>cases (l.any λs=>gB (s.1=r.1))<;>simp
  .cases (Zm (C.tie q) b&&C.std b)<;>cases (l.any λs=>gB (s.1=q))<;>simp[e]
abbrev TI(C:Yc):Prop:=∀b q,C.tied b q=(C.std b&&(inR C.ts q&&(Zm (C.tie q) b&&onC C q)))
def G9{l:List Tie}(Ş:∀r∈l,(C.tie r.1).1≠(C.tie r.1).2.1)(hr:∀q,inl l q=eU->inR C.ts q=eU)(h0:∀b q,inl l q=eV->C.tied b q=(C.std b&&(inR C.ts q&&(Zm (C.tie q) b&&onC C q))))(h1:∀b q,inl l q=eU->C.tied b q=eU->(Zm (C.tie q) b&&C.std b)=eU):TI<|C.sets l:=by
 intro b q;let⟨s1,s2,s3,s4,s5,s6,s7⟩:=Z6 l C;have et:(C.sets l).tie q=C.tie q:=by unfold Yc.tie;rw[s7]
 rw[Mj Ş,s2,s7,et,X3 s2 s3 s7];cases z:inl l q with
 |false=>rw[ϧ,gw<|by decide];exact h0 b q z
 |true =>
  rw[hr q z];cases w:(Zm (C.tie q) b&&C.std b)with
  |true =>let⟨w1,w2⟩:=Ŧ.mp w;rw[w1,w2];rfl
  |false =>
   rw[gw<|by decide];have:C.tied b q=eV:=by
    cases y:C.tied b q with
    |false=>rfl
    |true=>rw[h1 b q z y]at w;cases w
   rw[this];cases w1:Zm (C.tie q) b with
   |false=>simp
   |true=>rw[w1,ś]at w;rw[w];rfl
abbrev Yc.tv(C:Yc)(b q:Int):Option<|Int×Int:=(C.br.lookup b).bind λB=>B.ties.lookup q
abbrev Yc.hv(C:Yc)(b q:Int):Option<|L×Int:=(C.br.lookup b).bind λB=>B.held.lookup q
abbrev TV(C:Yc):Prop:=∀b q v,C.tv b q=eQ v->v=(far (C.tie q) b,(C.tie q).2.2)
def BS{k q:Int}{v w:α}(h:(Zr kvs k v).lookup q=eQ w):(q=k/\w=v)\/kvs.lookup q=eQ w:=by
 by_cases e:q=k
 .subst e;rw[Yz]at h;exact .inl ⟨rfl,(ð h).symm⟩
 .refine .inr ?_;unfold Zr at h;split at h
  .rename_i z;clear z;induction kvs with
   |nil=>exact h
   |cons p r ih =>
    rw[Ñ,Ú]at h;rw[Ú];by_cases e1:p.1=k
    .have e2:(q==k)=eV:=⇑e
     have e3:(q==p.1)=eV:=by rw[e1];exact e2
     simp![e1,if_true,e2]at h;rw[e3];exact ih h
    .simp![e1,if_false]at h;cases z:q==p.1 with
     |true=>rw[z]at h;exact h
     |false=>rw[z]at h;exact ih h
  .have:(q==k)=eV:=⇑e
   rw[Δ,Ú,this]at h;simpa using h
def GM{p f q:Int}(h:(tieF on p f c B).ties.lookup q=eQ v):(q=p/\v=(f,c))\/B.ties.lookup q=eQ v:=by
 unfold tieF upB JV at h;cases on with
 |true =>
  rw[gu rfl]at h;split at h
  .exact .inr h
  .exact BS h
 |false =>
  rw[gw<|by decide]at h;change(Zd B.ties p).lookup q=_ at h;rw[Zx]at h;split at h
  .cases h
  .exact .inr h
def Hw{p f q:Int}:(tieF on p f c B).held.lookup q=if(gB (p=q) && !on)=eU then eS else B.held.lookup q:=by
 unfold tieF upB JV;cases on with
 |true =>rw[gu rfl];split<;>simp
 |false =>
  rw[gw<|by decide];show(Zd B.held p).lookup q=_;rw[Zx];by_cases e:q=p
  .subst e;simp
  .have e':¬ p=q:=λz=>e z.symm;simp[e,e']
def Gb{p:Int}(h:TV C):TV<|C.set1 p:=by
 intro b q v e;have et:(C.set1 p).tie q=C.tie q:=rfl;rw[et];have hb:=h b q;unfold Yc.tv Yc.set1 Uu at e;unfold Yc.tv at hb;dsimp only at e;rw[Z1,Z1]at e;cases z:C.br.lookup b with
 |none=>rw[z]at e;cases e
 |some B =>
  rw[z]at e hb;simp only[Ę,î]at e hb;have one:∀{k f:Int}{A:Br},(k=b->f=far (C.tie p) b)->(∀v,A.ties.lookup q=eQ v->v=(far (C.tie q) b,(C.tie q).2.2))->∀v,(if b=k then tieF (onC C p) p f (C.tie p).2.2 A else A).ties.lookup q=eQ v->v=(far (C.tie q) b,(C.tie q).2.2):=λ{k f A} hf hA v hv=>by
   split at hv
   .rename_i e1;rcases GM hv with⟨rfl,rfl⟩|hv
    .rw[hf e1.symm]
    .exact hA v hv
   .exact hA v hv
  refine one (λe=>?_) (one (λe=>?_) hb) v e
  .unfold far;split
   .rename_i e2;exact e2.trans e.symm
   .rfl
  .unfold far;rw[gu e]
def FG{p b q:Int}:(C.set1 p).hv b q=if(gB (p=q)&&(Zm (C.tie p) b && !onC C p))=eU then eS else C.hv b q:=by
 unfold Yc.hv Yc.set1 Uu Zm;dsimp only;rw[Z1,Z1];cases C.br.lookup b with
 |none=>simp
 |some B =>
  simp![Ę,î];have one:∀{k f c:Int}{A:Br},(if b=k then tieF (onC C p) p f c A else A).held.lookup q=if(gB (p=q)&&(gB (b=k) && !onC C p))=eU then eS else A.held.lookup q:=λ{k f c A}=>by
   split
   .rename_i e;rw[Hw];simp[e]
   .rename_i e;simp[e]
  rw[one,one];cases gB (p=q)<;>cases gB (b=(C.tie p).1)<;>cases gB (b=(C.tie p).2.1)<;>cases onC C p<;>simp
def UX:∀{l:List Tie}{C:Yc},TV C->TV (C.sets l)
 |[],_,h=>h
 |r::l,C,h=>UX (l:=l)<|Gb (p:=r.1) h
def Aq{b q:Int}:∀{l:List Tie}{C:Yc},(C.sets l).hv b q=if(inl l q&&(Zm (C.tie q) b && !onC C q))=eU then eS else C.hv b q
 |[],C=>rfl
 |r::l,C=>by
  have ih:=Aq (b:=b) (q:=q) (l:=l) (C:=C.set1 r.1);have eo:=X3 (C:=C) (D:=C.set1 r.1) (λb=>Yu.2) rfl rfl q;have et:(C.set1 r.1).tie q=C.tie q:=rfl;rw[et,eo,FG]at ih;show((C.set1 r.1).sets l).hv b q=_;rw[ih];unfold inl;rw[Ğ];by_cases e:r.1=q
  .subst e;cases (Zm (C.tie r.1) b && !onC C r.1)<;>cases (l.any λs=>gB (s.1=r.1))<;>simp
  .cases (Zm (C.tie q) b && !onC C q)<;>cases (l.any λs=>gB (s.1=q))<;>simp[e]
def nbs_iff{b:Int}{r:Tie}:∀{l:List Tie}{k:Nat},r∈gg b k l↔∃i t,l[i]?=eQ t/\(b=t.1\/b=t.2.1)/\r=(((k+i:Nat):Int),far t b,t.2.2)
 |[],k=>⟨λh=>gA h (by simp[gg]),λ⟨i,t,h,_⟩=>by simp at h⟩
 |t::l,k=>by
  have later:r∈gg b (k+1) l↔∃i t',(t::l)[i+1]?=eQ t'/\(b=t'.1\/b=t'.2.1)/\r=(((k+(i+1):Nat):Int),far t' b,t'.2.2):=by rw[nbs_iff];simp![b4,show ∀i,k+1+i=k+(i+1) from λi=>by lia]
  have now:(∃i t',(t::l)[i]?=eQ t'/\(b=t'.1\/b=t'.2.1)/\r=(((k+i:Nat):Int),far t' b,t'.2.2))↔((b=t.1\/b=t.2.1)/\r=((k:Int),far t b,t.2.2))\/r∈gg b (k+1) l:=by
   rw[later];constructor
   .rintro⟨i,t',h1,h2,h3⟩;cases i with
    |zero=>cases h1;exact .inl ⟨h2,h3⟩
    |succ i=>exact .inr ⟨i,t',h1,h2,h3⟩
   .rintro(⟨h2,h3⟩|⟨i,t',h1,h2,h3⟩)
    .exact⟨0,t,rfl,h2,h3⟩
    .exact⟨i+1,t',h1,h2,h3⟩
  rw[now];have un:gg b k (t::l)=if b=t.1\/b=t.2.1 then((k:Int),far t b,t.2.2)::gg b (k+1) l else gg b (k+1) l:=rfl;rw[un];split
  .rename_i hc;rw[Å];constructor
   .rintro(h|h)
    .exact .inl ⟨hc,h⟩
    .exact .inr h
   .rintro(h|h)
    .exact .inl h.2
    .exact .inr h
  .rename_i hc;constructor
   .exact .inr
   .rintro(h|h)
    .exact gA h.1 hc
    .exact h
def Di{b:Int}(h:(C.br.lookup b).isSome=eV):C.br.lookup b=eS:=by cases z:C.br.lookup b with|none=>rfl|some v=>rw[z]at h;cases h
def touch_iff{t:Tie}{b:Int}:Zm t b=eU↔b=t.1\/b=t.2.1:=by unfold Zm;simp
def Xx{x q:Int}:inl (gg x 0 ts) q=(inR ts q&&Zm (ts[q.toNat]?.getD (0,0,0)) x):=by
 unfold inl inR;rw[aZ,Ż,bAq,gz,touch_iff];constructor
 .rintro⟨r,hr,e⟩;let⟨i,t,h1,h2,rfl⟩:=nbs_iff.mp hr;have e:((0+i:Nat):Int)=q:=of_decide_eq_true e;subst e;have hi:=(Ë.mp h1).1;rw[ř,â,h1];exact⟨⟨by lia,by lia⟩,h2⟩
 .rintro⟨⟨h0,h1⟩,h2⟩;obtain⟨i,rfl⟩:∃i:Nat,q=i:=⟨q.toNat,by lia⟩
  have hi:i<ts.length:=by lia
  rw[â,È hi]at h2;exact⟨(((0+i:Nat):Int),far ts[i] x,ts[i].2.2),nbs_iff.mpr ⟨i,ts[i],È hi,h2,rfl⟩,by simp⟩
def Xy{q:Int}(no:fw bs ts)(h:inR ts q=eU):LOk bs<|ts[q.toNat]?.getD (0,0,0):=by
 have h:=of_decide_eq_true h;have hi:q.toNat<ts.length:=by lia
 rw[È hi];exact no.tie _<|Ļ hi
def Jr{b q:Int}(h:onC C q=eU)(t:Zm (C.tie q) b=eU):C.std b=eU:=by
 unfold onC at h;let⟨_,h⟩:=Ŧ.mp h;let⟨h1,h2⟩:=Ŧ.mp h;rcases touch_iff.mp t with e|e<;>rw[e]
 .exact h1
 .exact h2
def Dl{l:List Tie}(ti:TI C)(a9:C1.ts=C.ts)(Ş:∀r∈l,(C1.tie r.1).1≠(C1.tie r.1).2.1)(hr:∀q,inl l q=eU->inR C1.ts q=eU)(cV:∀q,inl l q=eV->inR C.ts q=eU->onC C1 q=onC C q)(ht:∀b q,C1.tied b q=(C1.std b&&C.tied b q)):TI<|C1.sets l:=by
 have et:∀q,C1.tie q=C.tie q:=λq=>by unfold Yc.tie;rw[a9]
 refine G9 Ş hr (λb q z=>?_) λb q z y=>?_
 .rw[ht,ti,a9,et];cases w:inR C.ts q with
  |false=>simp
  |true =>
   rw[cV q z w];cases v:onC C q with
   |false=>simp
   |true =>
    cases u:Zm (C.tie q) b with
    |false=>simp
    |true=>rw[Jr v u];simp
 .rw[ht,ti,bAq,bAq,bAq,bAq]at y;rw[et,y.2.2.2.1,y.1];rfl
def D8(b q:Int):C.tied b q=(C.std b&&C.tied b q):=by unfold Yc.tied Yc.std;cases C.br.lookup b<;>rfl
def Yt{l:List (Int×α)}{x b:Int}{v:α}(h:l.lookup x=eS):(l++[(x,v)]).lookup b=if b=x then eQ v else l.lookup b:=by
 rw[Δ];by_cases e:b=x
 .subst e;rw[h,gu rfl];simp
 .have:(b==x)=eV:=⇑e
  rw[gw e,Ú,this];simp
def WP{k q:Int}{v:α}(n:q≠k):(Zr kvs k v).lookup q=kvs.lookup q:=by
 unfold Zr;split
 .rename_i h;clear h;induction kvs with
  |nil=>rfl
  |cons p r ih =>
   rw[Ñ,Ú,Ú,ih];by_cases e:p.1=k
   .have e1:(q==k)=eV:=⇑n
    have e2:(q==p.1)=eV:=by rw[e];exact e1
    simp![e,if_true,e1]
   .simp![e,if_false]
 .have:(q==k)=eV:=⇑n
  rw[Δ,Ú,this];simp
def EE{x:Int}(no:fw C.bs C.ts):∀r∈gg x 0 C.ts,(C.tie r.1).1≠(C.tie r.1).2.1:=λr hr=>by have h:=Xy (q:=r.1) no<|gy<|M7 r hr;have:=h.2.2.1;unfold Yc.tie;lia
def Dj{x:Int}(no:fw C.bs C.ts)(ti:TI C):TI<|Yc.sets {C with br:=Zd C.br x}<|gg x 0 C.ts:=by
 have st:∀b,(Zd C.br x).lookup b=if b=x then eS else C.br.lookup b:=λb=>Zx;refine Dl ti rfl (EE (C:={C with br:=Zd C.br x}) no) (λq z=>?_) (λq z w=>?_) λb q=>?_
 .rw[Xx,bAq]at z;exact z.1
 .rw[Xx,w,ś]at z;change Zm (C.tie q) x=eV at z;have n1:¬ (C.tie q).1=x:=λe=>by rw[touch_iff.mpr<|.inl e.symm]at z;cases z
  have n2:¬ (C.tie q).2.1=x:=λe=>by rw[touch_iff.mpr<|.inr e.symm]at z;cases z
  unfold onC;show(_&&(((Zd C.br x).lookup (C.tie q).1).isSome&&((Zd C.br x).lookup (C.tie q).2.1).isSome))=_;rw[st,st,gw n1,gw n2]
 .unfold Yc.tied Yc.std;dsimp only;rw[st];by_cases e:b=x
  .rw[gu e];rfl
  .rw[gw e];cases C.br.lookup b<;>rfl
def Dv{x l:Int}(no:fw C.bs C.ts)(ti:TI C)(hx:C.br.lookup x=eS):TI<|Yc.sets {C with lives:=lv,br:=C.br++[(x,ZD x l C.most [])]}<|gg x 0 C.ts:=by
 have st:∀b,(C.br++[(x,ZD x l C.most [])]).lookup b=if b=x then eQ (ZD x l C.most [])else C.br.lookup b:=λb=>Yt hx;refine Dl ti rfl (EE (C:={C with lives:=lv,br:=C.br++[(x,ZD x l C.most [])]}) no) (λq z=>?_) (λq z w=>?_) λb q=>?_
 .rw[Xx,bAq]at z;exact z.1
 .rw[Xx,w,ś]at z;change Zm (C.tie q) x=eV at z;have n1:¬ (C.tie q).1=x:=λe=>by rw[touch_iff.mpr<|.inl e.symm]at z;cases z
  have n2:¬ (C.tie q).2.1=x:=λe=>by rw[touch_iff.mpr<|.inr e.symm]at z;cases z
  unfold onC;show(_&&(((C.br++[(x,ZD x l C.most [])]).lookup (C.tie q).1).isSome&&((C.br++[(x,ZD x l C.most [])]).lookup (C.tie q).2.1).isSome))=_;rw[st,st,gw n1,gw n2]
 .unfold Yc.tied Yc.std;dsimp only;rw[st];by_cases e:b=x
  .rw[gu e,e,hx];rfl
  .rw[gw e];cases C.br.lookup b<;>rfl
def LM{p:Int}(no:fw C.bs C.ts)(ti:TI C)(hp:inR C.ts p=eU)(hf:∀q,q≠p->(fl.lookup q).isSome=(C.fallen.lookup q).isSome):TI<|Yc.set1 {C with fallen:=fl} p:=by
 have il:∀q,inl [(p,0,0)] q=gB (p=q):=λq=>by unfold inl;simp
 refine Dl (C1:={C with fallen:=fl}) (l:=[(p,0,0)]) ti rfl (λr hr=>?_) (λq z=>?_) (λq z w=>?_) λb q=>D8 b q
 .rw[á.mp hr];have:=(Xy no hp).2.2.1;show(C.tie p).1≠(C.tie p).2.1;unfold Yc.tie;lia
 .rw[il]at z;rw[<-of_decide_eq_true z];exact hp
 .rw[il]at z;unfold onC;show(!(fl.lookup q).isSome&&_)=_;rw[hf q λe=>of_decide_eq_false z e.symm];rfl
abbrev L0(s:Int):L:=⟨(0,0),(0,0),s,0,0,eS,eS⟩
abbrev HI(C:Yc):Prop:=∀b q v,C.hv b q=eQ v->inR C.ts q=eU/\Zm (C.tie q) b=eU/\onC C q=eU/\v=(L0<|far (C.tie q) b,0)
def Ir{l:List Tie}{b q:Int}(hi:HI C)(a9:C1.ts=C.ts)(cV:∀q,inl l q=eV->inR C.ts q=eU->onC C1 q=onC C q)(hh:C1.hv b q=if C1.std b=eU then C.hv b q else eS):(C1.sets l).hv b q=if onC C1 q=eU then C.hv b q else eS:=by
 have et:C1.tie q=C.tie q:=by unfold Yc.tie;rw[a9]
 rw[Aq,et,hh];cases z:C.hv b q with
 |none=>simp
 |some v =>
  let⟨h1,h2,h3,_⟩:=hi b q v z;rw[h2];cases w:onC C1 q with
  |true =>have:=Jr (C:=C1) w (by rw[et];exact h2);rw[this];simp
  |false =>
   cases y:inl l q with
   |true=>simp
   |false=>rw[cV q y h1,h3]at w;cases w
def Q9{l:List Tie}(hi:HI C)(a9:C1.ts=C.ts)(cV:∀q,inl l q=eV->inR C.ts q=eU->onC C1 q=onC C q)(hh:∀b q,C1.hv b q=if C1.std b=eU then C.hv b q else eS):HI<|C1.sets l:=λb q v e=>by
 rw[Ir hi a9 cV<|hh b q]at e;split at e
 .rename_i ho;let⟨h1,h2,h3,h4⟩:=hi b q v e;let⟨s1,s2,s3,s4,s5,s6,s7⟩:=Z6 l C1;have et:(C1.sets l).tie q=C.tie q:=by unfold Yc.tie;rw[s7,a9]
  rw[s7,a9,et,X3 s2 s3 s7];exact⟨h1,h2,ho,h4⟩
 .cases e
abbrev XF(ts:List Tie)(p:Int):Tie:=ts[p.toNat]?.getD (0,0,0)
abbrev ZU(ts:List Tie)(gone cut:List Int)(p:Int):Bool:=!gB (p∈cut)&&(!gB ((XF ts p).1∈gone) && !gB ((XF ts p).2.1∈gone))
abbrev kf(ts:List Tie)(gone cut:List Int)(K:List Pi):List Pi:=K.filter λx=>!gB (x.1∈gone)&&ZU ts gone cut x.2
abbrev lf(LV:List<|Int×Int)(b:Int):Int:=(LV.lookup b).getD 0
def DO{k b v:Int}:lf (Zr LV k v) b=if b=k then v else lf LV b:=by
 unfold lf;by_cases e:b=k
 .rw[gu e,e,Yz];rfl
 .rw[gw e,WP e]
abbrev brc(most b life cnt:Int):Br:={ZD b life most []with count:=cnt}
structure W(C:Yc)(gone cut:List Int)(LV:List<|Int×Int)(K:List Pi)(cnt:Int->Int):Prop where
 ti:TI C
 tv:TV C
 hi:HI C
 hk:∀b q,(C.hv b q).isSome=gB ((b,q)∈K)
 core:∀b,C.core b=if b∈C.bs/\b∉gone then eQ (brc C.most b (lf LV b)<|cnt b)else eS
 fal:∀p,(C.fallen.lookup p).isSome=gB (p∈cut)
 liv:∀b∈C.bs,C.lives.lookup b=eQ (lf LV b)
 gs:∀b∈gone,b∈C.bs
 gn:gone.Nodup
 cn:cut.Nodup
 ks:∀q∈LV,q.1∈C.bs
 kn:(LV.map (·.1)).Nodup
variable {gone:List Int}
def Ol{cut:List Int}{p:Int}(hs:∀b,C.std b=gB (b∈C.bs/\b∉gone))(hf:∀p,(C.fallen.lookup p).isSome=gB (p∈cut))(no:fw C.bs C.ts)(hp:inR C.ts p=eU):onC C p=ZU C.ts gone cut p:=by
 let⟨h1,h2,_⟩:=Xy no hp;have a:=hs (C.tie p).1;have c:=hs (C.tie p).2.1;unfold Yc.std at a c;unfold onC ZU XF;rw[hf,a,c];have h1:(C.tie p).1∈C.bs:=h1;have h2:(C.tie p).2.1∈C.bs:=h2;simp![h1,h2,true_and];show _=(_&&(!gB ((C.tie p).1∈gone) && !gB ((C.tie p).2.1∈gone)))
 simp
def Uv{f:Int->Br}(h:∀b,C.core b=if b∈C.bs/\b∉gone then eQ (f b)else eS)(b:Int):C.std b=gB (b∈C.bs/\b∉gone):=by
 rw[<-E3,h];split
 .rename_i h;rw[gy h];rfl
 .rename_i h;rw[gx h];rfl
section
variable {D:Yc}{cut:List Int}{K:List Pi}{cnt:Int->Int}{N:Nat}{b p:Int}
def W.std(w:W C gone cut LV K cnt)(b:Int):C.std b=gB (b∈C.bs/\b∉gone):=Uv w.core b
def W.of_(w:W C gone cut LV K cnt)(no:fw C.bs C.ts){l:List Tie}(ebs:C1.bs=C.bs)(a9:C1.ts=C.ts)(em:C1.most=C.most)(ti:TI<|C1.sets l)(tv:TV C1)(cV:∀q,inl l q=eV->inR C.ts q=eU->onC C1 q=onC C q)(hh:∀b q,C1.hv b q=if C1.std b=eU then C.hv b q else eS)(core:∀b,C1.core b=if b∈C.bs/\b∉ĺ then eQ (brc C.most b (lf ak b)<|cnt' b)else eS)(fal:∀p,(C1.fallen.lookup p).isSome=gB (p∈ţ))(liv:∀b∈C.bs,C1.lives.lookup b=eQ (lf ak b))(gs:∀b∈ĺ,b∈C.bs)(gn:ĺ.Nodup)(cn:ţ.Nodup)(ks:∀q∈ak,q.1∈C.bs)(kn:(ak.map (·.1)).Nodup):W (C1.sets l) ĺ ţ ak (kf C.ts ĺ ţ K) cnt':=by
 let⟨s1,s2,s3,s4,s5,s6,s7⟩:=Z6 l C1;have s8:=(We l C1).2.2;have cr:∀b,(C1.sets l).core b=if b∈(C1.sets l).bs/\b∉ĺ then eQ (brc (C1.sets l).most b (lf ak b)<|cnt' b)else eS:=λb=>by rw[s1,s6,s8,ebs,em];exact core b
 have fl:∀p,((C1.sets l).fallen.lookup p).isSome=gB (p∈ţ):=λp=>by rw[s3];exact fal p
 refine⟨ti,UX tv,Q9 w.hi a9 cV hh,λb q=>?_,cr,fl,λb hb=>?_,λb hb=>by rw[s6,ebs];exact gs b hb,gn,cn,λq hq=>by rw[s6,ebs];exact ks q hq,kn⟩
 .rw[Ir w.hi a9 cV<|hh b q];have hm:(b,q)∈kf C.ts ĺ ţ K↔(b,q)∈K/\(!gB (b∈ĺ)&&ZU C.ts ĺ ţ q)=eU:=ï;have h0:=w.hk b q;cases z:C.hv b q with
  |none =>rw[z]at h0;have:¬ (b,q)∈kf C.ts ĺ ţ K:=λm=>of_decide_eq_false h0.symm (hm.mp m).1;rw[gx this];simp
  |some v =>
   rw[z]at h0;have hK:=of_decide_eq_true h0.symm;let⟨h1,h2,h3,_⟩:=w.hi b q v z;have hu:=Ol (C:=C1.sets l) (p:=q) (Uv cr) fl (by rw[s6,s7,ebs,a9];exact no) (by rw[s7,a9];exact h1);rw[X3 s2 s3 s7,s7,a9]at hu;rw[hu];cases y:ZU C.ts ĺ ţ q with
   |false =>rw[gx λm=>by have:=(hm.mp m).2;rw[y]at this;simp at this];rfl
   |true =>rw[y]at hu;have sb:=Jr (C:=C1) hu (b:=b) (by unfold Yc.tie;rw[a9];exact h2);rw[<-s2,Uv cr]at sb;have:=(of_decide_eq_true sb).2;rw[gy<|hm.mpr ⟨hK,by rw[y];simp[this]⟩];rfl
 .rw[s4];rw[s6,ebs]at hb;exact liv b hb
def Fi{x q:Int}(a9:C1.ts=C.ts)(ef:C1.fallen=C.fallen)(st:∀b,b≠x->(C1.br.lookup b).isSome=(C.br.lookup b).isSome)(z:inl (gg x 0 C.ts) q=eV)(w:inR C.ts q=eU):onC C1 q=onC C q:=by
 rw[Xx,w,ś]at z;change Zm (C.tie q) x=eV at z;have n1:(C.tie q).1≠x:=λe=>by rw[touch_iff.mpr<|.inl e.symm]at z;cases z
 have n2:(C.tie q).2.1≠x:=λe=>by rw[touch_iff.mpr<|.inr e.symm]at z;cases z
 have et:C1.tie q=C.tie q:=by unfold Yc.tie;rw[a9]
 unfold onC;rw[et,ef,st _ n1,st _ n2]
def W.step_fallB(w:W C gone cut LV K cnt)(g:C.gd N)(hb:b∈C.bs)(s:step C (.fallB b)=eQ D):b∉gone/\W D (gone++[b]) cut LV (kf C.ts (gone++[b]) cut K) cnt/\D.road=C.road:=by
 have s:(if C.std b=eU then eQ (Yc.sets {C with br:=Zd C.br b}<|gg b 0 C.ts)else eS)=eQ D:=s;split at s
 .rename_i hs;cases s;rw[w.std]at hs;have hg:=(of_decide_eq_true hs).2;refine⟨hg,w.of_ g.no rfl rfl rfl (Dj g.no w.ti) (λc q v e=>?_) (λq z y=>Fi rfl rfl (λc n=>?_) z y) (λc q=>?_) (λc=>?_) w.fal w.liv (λc hc=>?_) ?_ w.cn w.ks w.kn,(Z6 _ _).2.2.2.2.1⟩
  .refine w.tv c q v ?_;unfold Yc.tv at e ⊢;rw[Zx]at e;split at e
   .cases e
   .exact e
  .show((Zd C.br b).lookup c).isSome=_;rw[Zx,gw n]
  .unfold Yc.hv Yc.std;rw[Zx];split
   .simp
   .cases C.br.lookup c<;>rfl
  .show((Zd C.br b).lookup c).map O.core=_;rw[Zx];by_cases e:c=b
   .rw[gu e,gw λz=>z.2<|by simp[e]];rfl
   .rw[gw e];refine(w.core c).trans ?_;have:c∉gone++[b]↔c∉gone:=by simp[e]
    simp![this]
  .rcases ê.mp hc with hc|hc
   .exact w.gs c hc
   .rw[á.mp hc];exact hb
  .rw[è];exact⟨w.gn,by simp,λa ha c hc e=>hg<|by rw[<-á.mp hc,<-e];exact ha⟩
 .cases s
def W.step_backB(w:W C gone cut LV K cnt)(g:C.gd N)(hb:b∈C.bs)(s:step C (.backB b)=eQ D):b∈gone/\W D (gone.erase b) cut (Zr LV b<|lf LV b+1) (kf C.ts (gone.erase b) cut K) (λc=>if c=b then 0 else cnt c)/\D.road=C.road:=by
 have s:(if C.std b=eU then eS else(C.lives.lookup b).map λl=>Yc.sets {C with lives:=Zr C.lives b<|l+1,br:=C.br++[(b,ZD b (l+1) C.most [])]}<|gg b 0 C.ts)=eQ D:=s;split at s
 .cases s
 .rename_i hs;rw[w.liv b hb]at s;cases s;have hs:C.std b=eV:=⇑hs
  have hx:C.br.lookup b=eS:=Di hs;rw[w.std]at hs;have hg:b∈gone:=by
   have:=of_decide_eq_false hs;by_cases z:b∈gone
   .exact z
   .exact gA ⟨hb,z⟩ this
  refine⟨hg,w.of_ g.no rfl rfl rfl (Dv g.no w.ti hx) (λc q v e=>?_) (λq z y=>Fi rfl rfl (λc n=>?_) z y) (λc q=>?_) (λc=>?_) w.fal (λc hc=>?_) (λc hc=>w.gs c<|List.mem_of_mem_erase hc) (w.gn.erase _) w.cn (λq hq=>?_)<|XE w.kn _ _,(Z6 _ _).2.2.2.2.1⟩
  .refine w.tv c q v ?_;unfold Yc.tv at e ⊢;rw[Yt hx]at e;split at e
   .cases e
   .exact e
  .show((C.br++[_]).lookup c).isSome=_;rw[Yt hx,gw n]
  .unfold Yc.hv Yc.std;rw[Yt hx];split
   .rename_i e;rw[e,hx];rfl
   .cases C.br.lookup c<;>rfl
  .show((C.br++[_]).lookup c).map O.core=_;rw[Yt hx,DO];have hm:c∉gone.erase b↔(c≠b->c∉gone):=by rw[w.gn.mem_erase_iff];simp
   by_cases e:c=b
   .rw[gu e,gu e,gu e,gu ⟨e▸hb,hm.mpr λn=>gA e n⟩,e];rfl
   .rw[gw e,gw e,gw e];refine(w.core c).trans ?_;have:(c∉gone.erase b)=(c∉gone):=propext<|hm.trans ⟨λf=>f e,λf _=>f⟩;simp![this]
  .show(Zr C.lives b<|lf LV b+1).lookup c=_;rw[DO];by_cases e:c=b
   .rw[gu e,e,Yz]
   .rw[gw e,WP e];exact w.liv c hc
  .rcases Wg hq with e|hq
   .rw[e];exact hb
   .exact w.ks q hq
def W.tie_(w:W C gone cut LV K cnt)(g:C.gd N)(hp:inR C.ts p=eU)(hf:∀q,(fl.lookup q).isSome=gB (q∈ţ))(hc:∀q,q≠p->(q∈ţ↔q∈cut))(cn:ţ.Nodup):W (Yc.set1 {C with fallen:=fl} p) gone ţ LV (kf C.ts gone ţ K) cnt:=by
 have hq:∀q,q≠p->(fl.lookup q).isSome=(C.fallen.lookup q).isSome:=λq n=>by rw[hf,w.fal,decide_eq_decide];exact hc q n
 refine w.of_ (C1:={C with fallen:=fl}) (l:=[(p,0,0)]) g.no rfl rfl rfl (LM g.no w.ti hp hq) w.tv (λq z y=>?_) (λc q=>?_) w.core hf w.liv w.gs w.gn cn w.ks w.kn
 .unfold onC;have n:q≠p:=λe=>by unfold inl at z;simp[e]at z
  show(!(fl.lookup q).isSome&&_)=_;rw[hq q n];rfl
 .unfold Yc.hv Yc.std;dsimp only;cases C.br.lookup c<;>rfl
def W.step_fallT(w:W C gone cut LV K cnt)(g:C.gd N)(hp:inR C.ts p=eU)(s:step C (.fallT p)=eQ D):p∉cut/\W D gone (cut++[p]) LV (kf C.ts gone (cut++[p]) K) cnt/\D.road=C.road:=by
 dsimp only[step]at s;split at s
 .rename_i h;cases s;have hc:p∉cut:=by have:=h.2;rw[w.fal]at this;exact of_decide_eq_false this
  refine⟨hc,w.tie_ g hp (λq=>?_) (λq n=>by simp[n]) ?_,rfl⟩
  .rw[MY,w.fal];by_cases e:q=p<;>simp[e]
  .rw[è];exact⟨w.cn,by simp,λa ha c hc' e=>hc<|by rw[<-á.mp hc',<-e];exact ha⟩
 .cases s
def W.step_backT(w:W C gone cut LV K cnt)(g:C.gd N)(hp:inR C.ts p=eU)(s:step C (.backT p)=eQ D):p∈cut/\W D gone (cut.erase p) LV (kf C.ts gone (cut.erase p) K) cnt/\D.road=C.road:=by
 dsimp only[step]at s;split at s
 .rename_i h;cases s;rw[w.fal]at h;refine⟨of_decide_eq_true h,w.tie_ g hp (λq=>?_) (λq n=>?_)<|w.cn.erase _,rfl⟩
  .rw[Zx];have:q∈cut.erase p↔q≠p/\q∈cut:=w.cn.mem_erase_iff;by_cases e:q=p
   .rw[gu e,gx λz=>(this.mp z).1 e];rfl
   .rw[gw e,w.fal,decide_eq_decide,this];exact⟨λz=>⟨e,z⟩,λz=>z.2⟩
  .rw[w.cn.mem_erase_iff];exact⟨λz=>z.2,λz=>⟨n,z⟩⟩
 .cases s
end
variable {s:Int}
def Gx{t:Tie}(hn:t.1≠t.2.1)(h:Zm t s=eU):far t (far t s)=s/\Zm t (far t s)=eU:=by
 unfold far;rcases touch_iff.mp h with e|e
 .rw[e,gu rfl,gw hn];exact⟨rfl,touch_iff.mpr<|.inr rfl⟩
 .have:¬ t.1=s:=λz=>hn<|z.trans e;rw[gw this,gu rfl];exact⟨e.symm,touch_iff.mpr<|.inl rfl⟩
def E7{q q':Int}(h:∀v,B.held.lookup q=eQ v->v=(L0 s,0)):(Zt B q<|L0 s).held.lookup q'=if(gB (q'=q)&&(B.ties.lookup q).isSome)=eU then eQ (L0 s,0)else B.held.lookup q':=by
 unfold Zt;cases z:(B.ties.lookup q).isSome with
 |false=>simp
 |true =>
  rw[gu rfl];cases y:X4 B q (L0 s)with
  |true =>
   rw[gu rfl];show(Zr B.held q (L0 s,(L0 s).age)).lookup q'=_;by_cases e:q'=q
   .subst e;rw[Yz];simp[L0]
   .rw[WP e];simp[e]
  |false =>
   rw[gw<|by decide];by_cases e:q'=q
   .subst e;unfold X4 at y;cases x:B.held.lookup q' with
    |none=>rw[x]at y;cases y
    |some v=>rw[h v x];simp
   .simp[e]
def JF{q:Int}{l:L}:core (Zt B q l)=core B/\(Zt B q l).ties=B.ties:=by
 unfold Zt;split
 .split<;>exact⟨rfl,rfl⟩
 .exact⟨rfl,rfl⟩
abbrev RI(C:Yc):Prop:=∀r∈C.road,∃s q,inR C.ts q=eU/\Zm (C.tie q) s=eU/\r=(s,far (C.tie q) s,q,L0 s)
abbrev Nr(K:List Pi)(x:Pi):List Pi:=if x∈K then K else K++[x]
def B6{K:List Pi}{x y:Pi}:y∈Nr K x↔y∈K\/y=x:=by
 unfold Nr;split
 .rename_i h;exact⟨.inl,λz=>z.elim id λe=>e▸h⟩
 .simp
section
variable {D:Yc}{cut:List Int}{K:List Pi}{cnt:Int->Int}{N:Nat}{b p:Int}
def W.step_lost(w:W C gone cut LV K cnt){r:Int×Int×Int×L}(hr:C.road[i]?=eQ r):∃D,step C (.lost i)=eQ D/\W D gone cut LV K cnt/\D.road=C.road.eraseIdx i:=by refine⟨{C with road:=C.road.eraseIdx i},?_,⟨w.ti,w.tv,w.hi,w.hk,w.core,w.fal,w.liv,w.gs,w.gn,w.cn,w.ks,w.kn⟩,rfl⟩;show(if(i:Int)<0 then eS else(C.road[(i:Int).toNat]?).map _)=_;rw[gw ↥0,â,hr];rfl
def W.step_come(w:W C gone cut LV K cnt)(g:C.gd N)(ri:RI C){r:Int×Int×Int×L}(hr:C.road[i]?=eQ r):∃D,step C (.come i)=eQ D/\W D gone cut LV (if ZU C.ts gone cut r.2.2.1=eU then Nr K (r.2.1,r.2.2.1)else K) cnt/\D.road=C.road.eraseIdx i:=by
 let⟨s,q,h1,h2,rfl⟩:=ri r<|ã hr;have Ş:(C.tie q).1≠(C.tie q).2.1:=by have:=(Xy g.no h1).2.2.1;unfold Yc.tie;lia
 let⟨f1,f2⟩:=Gx Ş h2;dsimp only;generalize far (C.tie q) s=o at f1 f2 hr;refine⟨{C with br:=upC o (Zt · q (L0 s)) C.br,road:=C.road.eraseIdx i},?_,?_,rfl⟩
 .show(if(i:Int)<0 then eS else(C.road[(i:Int).toNat]?).map _)=_;rw[gw ↥0,â,hr];rfl
 obtain⟨D,hD⟩:∃D:Yc,D={C with br:=upC o (Zt · q (L0 s)) C.br,road:=C.road.eraseIdx i}:=⟨_,rfl⟩
 rw[<-hD];have lk:∀c,D.br.lookup c=(C.br.lookup c).map λB=>if c=o then Zt B q (L0 s)else B:=λc=>by rw[hD];exact Z1 (F:=(Zt · q (L0 s)))
 have a9:D.ts=C.ts:=by rw[hD]
 have ebs:D.bs=C.bs:=by rw[hD]
 have em:D.most=C.most:=by rw[hD]
 have ef:D.fallen=C.fallen:=by rw[hD]
 have el:D.lives=C.lives:=by rw[hD]
 have et:∀q,D.tie q=C.tie q:=λq=>by unfold Yc.tie;rw[a9]
 have sd:∀c,D.std c=C.std c:=λc=>by unfold Yc.std;rw[lk,Ń]
 have vd:∀c q',D.tv c q'=C.tv c q':=λc q'=>by
  unfold Yc.tv;rw[lk];cases C.br.lookup c with
  |none=>rfl
  |some A=>show(if c=o then Zt A q (L0 s)else A).ties.lookup q'=_;split;rw[JF.2];rfl;rfl
 have td:∀c q',D.tied c q'=C.tied c q':=λc q'=>by
  have:=vd c q';unfold Yc.tv at this;unfold Yc.tied;rw[lk]at this ⊢;cases z:C.br.lookup c with
  |none=>rfl
  |some A=>rw[z]at this;show((if c=o then Zt A q (L0 s)else A).ties.lookup q').isSome=_;exact congrArg Option.isSome this
 have on:=X3 (C:=C) (D:=D) sd ef a9;have hv:∀c q',D.hv c q'=if(gB (c=o)&&(gB (q'=q)&&onC C q))=eU then eQ (L0 s,0)else C.hv c q':=λc q'=>by
  have h3:=w.ti c q;unfold Yc.hv;rw[lk];by_cases e:c=o
  .subst e;have hq:=w.hi c q;rw[h1,f2]at h3;unfold Yc.hv at hq;unfold Yc.tied Yc.std at h3;cases z:C.br.lookup c with
   |none =>
    rw[z]at h3;have:onC C q=eV:=by
     cases y:onC C q with
     |false=>rfl
     |true=>have:=Jr y f2;unfold Yc.std at this;rw[z]at this;cases this
    rw[this];simp
   |some A =>
    rw[z]at h3 hq;simp only[Ę,î,if_true]at hq ⊢;have h3:(A.ties.lookup q).isSome=onC C q:=⇑h3
    rw[E7 λv hv=>by rw[(hq v hv).2.2.2,f1],h3];simp
  .simp![e,if_false,decide_false,ϧ,ā];cases C.br.lookup c<;>rfl
 have hu:onC C q=ZU C.ts gone cut q:=Ol w.std w.fal g.no h1;refine⟨λc q'=>?_,λc q' v e=>?_,λc q' v e=>?_,λc q'=>?_,λc=>?_,λp=>by rw[ef];exact w.fal p,λc hc=>by rw[el];rw[ebs]at hc;exact w.liv c hc,λc hc=>by rw[ebs];exact w.gs c hc,w.gn,w.cn,λx hx=>by rw[ebs];exact w.ks x hx,w.kn⟩
 .rw[td,sd,on,a9,et];exact w.ti c q'
 .rw[vd]at e;rw[et];exact w.tv c q' v e
 .rw[hv]at e;rw[a9,et,on];split at e
  .rename_i hc;simp![bAq,gz]at hc;let⟨rfl,rfl,ho⟩:=hc;exact⟨h1,f2,ho,by rw[f1];exact(ð e).symm⟩
  .exact w.hi c q' v e
 .rw[hv,<-hu];have h0:=w.hk c q';have hm:(c,q')=(o,q)↔c=o/\q'=q:=by simp
  cases onC C q with
  |false=>simpa using h0
  |true =>
   simp![Ů,if_true,B6,hm];by_cases e:c=o/\q'=q
   .obtain⟨rfl,rfl⟩:=e;simp
   .rw[gw ⇑e,h0];simp[e]
 .show(D.br.lookup c).map O.core=_;rw[lk,ebs,em];refine Eq.trans ?_<|w.core c;unfold Yc.core;cases C.br.lookup c with
  |none=>rfl
  |some A=>show eQ (O.core<|if c=o then Zt A q (L0 s)else A)=_;split;rw[JF.1];rfl;rfl
end
def WC:∀{a b:List Int},fL a b=eU->fL b a=eV
 |[],[],h=>by cases h
 |[],_::_,_=>rfl
 |_::_,[],h=>by cases h
 |x::xs,y::ys,h=>by
  rw[fL]at h ⊢;by_cases e:x=y
  .subst e;rw[gu rfl]at h ⊢;exact WC h
  .rw[gw e]at h;have h:x<y:=⇑h
   rw[gw<|Ne.symm e];simp;lia
def Nc:∀{a b c:List Int},fL b a=eV->fL c b=eV->fL c a=eV
 |[],[],[],_,_=>rfl
 |[],_,_::_,_,_=>rfl
 |[],_::_,[],_,h=>by cases h
 |_::_,[],_,h,_=>by cases h
 |_::_,_::_,[],_,h=>by cases h
 |x::xs,y::ys,z::zs,h1,h2=>by
  rw[fL]at h1 h2 ⊢;by_cases e1:y=x
  .subst e1;rw[gu rfl]at h1;by_cases e2:z=y
   .subst e2;rw[gu rfl]at h2 ⊢;exact Nc h1 h2
   .rw[gw e2]at h2 ⊢;exact h2
  .rw[gw e1]at h1;have h1:¬ y<x:=⇑h1
   by_cases e2:z=y
   .subst e2;rw[gw e1];simpa using h1
   .rw[gw e2]at h2;have h2:¬ z<y:=⇑h2
    rw[gw<|by lia];simp;lia
abbrev Re(m:List Int)(rows:List<|List Int):Prop:=m∈rows/\∀y∈rows,fL y m=eV
def XY:∀(r:List<|List Int) (x:List Int),Re (minR x r) (x::r)
 | [],x=>⟨å,λy hy=>by
   rw[á.mp hy]
   cases q:fL x x with
   |false=>exact q
   | true=>have:=WC q;rw[q]at this;cases this⟩
 |z::r,x=>by
  let⟨h1,h2⟩:=XY r (if fL z x then z else x);refine⟨Wk (z::r) x,λy hy=>?_⟩;show fL y (minR (if fL z x then z else x) r)=eV;have hb:=h2 _ å;have hx:fL x (if fL z x then z else x)=eV:=by
   cases q:fL z x with
   |false =>
    simp![ā,if_false];cases q2:fL x x with
    |false=>rfl
    |true=>have:=WC q2;rw[q2]at this;cases this
   |true=>simp![if_true];exact WC q
  have hz:fL z (if fL z x then z else x)=eV:=by
   cases q:fL z x with
   |false=>simp![ā,if_false];exact q
   |true =>
    simp![if_true];cases q2:fL z z with
    |false=>rfl
    |true=>have:=WC q2;rw[q2]at this;cases this
  rcases Å.mp hy with e|hy
  .rw[e];exact Nc hb hx
  .rcases Å.mp hy with e|hy
   .rw[e];exact Nc hb hz
   .exact h2 y<|Ø _ hy
def lex_eq:∀{a b:List Int},fL a b=eV->fL b a=eV->a=b
 |[],[],_,_=>rfl
 |[],_::_,h,_=>by cases h
 |_::_,[],_,h=>by cases h
 |x::xs,y::ys,h1,h2=>by
  unfold fL at h1 h2;by_cases e:x=y
  .subst e;rw[gu rfl]at h1 h2;rw[lex_eq h1 h2]
  .rw[gw e]at h1;rw[gw<|Ne.symm e]at h2;have:=of_decide_eq_false h1;have:=of_decide_eq_false h2;lia
def Ff{x y:List Int}{r s:List (List Int)}(h:∀m,m∈x::r↔m∈y::s):minR x r=minR y s :=
 have a:=XY r x;have b:=XY s y
 lex_eq (b.2 _<|(h _).mp a.1) (a.2 _<|(h _).mpr b.1)
def LA{b:Int}:((YR<|gg b 0 ts).map (·.1)).Nodup:=by rw[Jc];exact X9.1.imp λz=>by lia
def Oz{b p o:Int}(h:(p,o,c)∈gg b 0 ts):(YR<|gg b 0 ts).lookup p=eQ (o,c):=XB LA (Ô.mpr ⟨(p,o,c),h,rfl⟩)
noncomputable abbrev Hd0:=List<|Int×(L×Int)
abbrev Yq(a:Int)(H:Hd0):Hd0:=H.map λq=>(q.1,(q.2.1,a))
def KU{a p:Int}:∀{H:Hd0},(Yq a H).lookup p=(H.lookup p).map λx=>(x.1,a)
 |[]=>rfl
 |q::H=>by show((q.1,(q.2.1,a))::Yq a H).lookup p=_;rw[Ú,Ú,KU (H:=H)];cases p==q.1<;>rfl
def Jp(hm:2<=most):∀{H:Hd0},(∀q∈H,q.2.2=0)->ZP most H=Yq 1 H
 |[],_=>rfl
 |q::H,h=>by have e:=h q (by simp);have ih:=Jp hm (H:=H) λx hx=>h x (by simp[hx]);unfold ZP Yq at ih ⊢;rw[đ,Ñ,<-ih,e,gu<|by lia];rfl
abbrev Yh(b:Int)(K:List Pi)(l:List Tie):List<|List Int:=(l.filter λt=>gB ((b,t.1)∈K)&&gB (t.2.1<b)).map λt=>[t.2.1,t.2.2,t.2.1,t.1]
abbrev N7(b:Int):List (List Int)->Lab
 |[]=>⟨b,0,eS⟩
 |x::r=>⟨(minR x r).getD 0 0,(minR x r).getD 1 0,eQ ((minR x r).getD 3 0,(0,0))⟩
abbrev ZM(b:Int)(K:List Pi)(ts:List Tie):Lab:=N7 b<|Yh b K<|gg b 0 ts
abbrev HOk(ts:List Tie)(t:List<|Int×(Int×Int))(b:Int)(H:Hd0):Prop:=∀q∈H,∃o c,(q.1,o,c)∈gg b 0 ts/\q.2=(L0 o,0)/\t.lookup q.1=eQ (o,c)
abbrev mkB(b life most cnt:Int)(t:List<|Int×(Int×Int))(H:Hd0):Br:=⟨b,life,most,t,H,⟨b,0,eS⟩,0,cnt⟩
section
variable {b most life cnt p a:Int}{ts:List Tie}{t:List (Int×(Int×Int))}{H:Hd0}{K:List Pi}
def HOk.zero(ho:HOk ts t b H):∀q∈H,q.2.2=0:=λq hq=>by let⟨o,c,_,e,_⟩:=ho q hq;rw[e]
def HOk.alook{x:L×Int}(ho:HOk ts t b H)(h:(Yq a H).lookup p=eQ x):∃o,x=(L0 o,a):=by rw[KU]at h;let⟨y,hy,rfl⟩:=Í.mp h;let⟨o,c,_,e,_⟩:=ho _<|Zh hy;dsimp only at e;exact⟨o,by rw[e]⟩
def Bt(ho:HOk ts t b H)(hk:∀p,(H.lookup p).isSome=gB ((b,p)∈K))(m:List Int):m∈(YV t<|Yq 1 H).filter (λr=>gB (r.headD 0<b))↔m∈Yh b K (gg b 0 ts):=by
 unfold Yh YV Yq;rw[ï,õ,Ô,Ô];constructor
 .rintro⟨⟨q,hq,rfl⟩,h2⟩;let⟨o,c,h3,e,h5⟩:=ho q hq;let⟨p,l⟩:=q;dsimp only at e h3 h5;subst e;refine⟨(p,o,c),ï.mpr ⟨h3,?_⟩,?_⟩
  .have h4:o<b:=by simpa[JM,L0]using h2
   have h6:=hk p;let⟨y,hy⟩:=ZT (kvs:=H) (k:=p)<|Ô.mpr ⟨_,hq,rfl⟩;rw[hy]at h6;have h6:=of_decide_eq_true h6.symm;simp[h6,h4]
  .show _=[(L0 o).root,(L0 o).cost+(Xs t p).2,(Xs t p).1,p]
   unfold Xs;rw[h5];simp[L0]
 .rintro⟨⟨p,o,c⟩,ht,rfl⟩;let⟨h1,h2⟩:=ï.mp ht;simp![bAq,gz]at h2;have h6:=hk p;rw[gy h2.1]at h6;let⟨y,hy⟩:=ë.mp h6;let⟨o',c',h3,e,h5⟩:=ho _<|Zh hy;dsimp only at h3 e h5;subst e;have e:=(Oz h3).symm.trans<|Oz h1;injection e with e;injection e with e1 e2;subst e1 e2;refine⟨⟨_,Zh hy,?_⟩,⇑h2.2⟩;show [(L0 o').root,(L0 o').cost+(Xs t p).2,(Xs t p).1,p]=_;unfold Xs;rw[h5];simp[L0]
def SI(ho:HOk ts t b H):Us (Yq a H) p=(0,0):=by
 unfold Us;cases z:(Yq a H).lookup p with
 |none=>rfl
 |some x=>let⟨o,rfl⟩:=ho.alook z;rfl
def U4(ho:HOk ts t b H)(hk:∀p,(H.lookup p).isSome=gB ((b,p)∈K))(hm:2<=most):Ym (mkB b life most cnt t H).grown=ZM b K ts:=by
 have h1:=Bt ho hk;unfold ZM;show(match (match (YV t<|ZP most H).filter (λr=>gB (r.headD 0<b))with|[]=>eS|x::r=>eQ<|minR x r)with|none=>(⟨b,0,eS⟩:Lab)|some m=>⟨m.getD 0 0,m.getD 1 0,eQ (m.getD 3 0,Us (ZP most H)<|m.getD 3 0)⟩)=_;rw[Jp hm ho.zero];revert h1;generalize (YV t<|Yq 1 H).filter (λr=>gB (r.headD 0<b))=A;generalize Yh b K (gg b 0 ts)=B;intro h1;cases A with
 |nil=>cases B with
  |nil=>rfl
  |cons y s=>exact gA ((h1 y).mpr<|by simp) (by simp)
 |cons x r=>cases B with
  |nil=>exact gA ((h1 x).mp<|by simp) (by simp)
  |cons y s =>dsimp only;rw[Ff h1,SI ho];rfl
abbrev ver(l:Lab):Int:=if l.up.isSome then 1 else 0
def B7:∀{rs:List (List Int)},(N7 b rs).up=eS->N7 b rs=⟨b,0,eS⟩
 |[],_=>rfl
 |_::_,h=>by cases h
def EA:∀{rs:List (List Int)},(N7 b rs).up=eQ q->q.2=(0,0)
 |[],h=>by cases h
 |_::_,h=>by cases h;rfl
def MG(ho:HOk ts t b H)(hk:∀p,(H.lookup p).isSome=gB ((b,p)∈K))(hm:2<=most):(mkB b life most cnt t H).told={mkB b life most cnt t (Yq 1 H)with label:=ZM b K ts,version:=ver (ZM b K ts)}:=by
 unfold Br.told;rw[U4 ho hk hm,show(mkB b life most cnt t H).grown=mkB b life most cnt t (ZP most H) from rfl,Jp hm ho.zero];unfold taken ver;have h2:=B7 (b:=b) (rs:=Yh b K<|gg b 0 ts);change(ZM b K ts).up=eS->ZM b K ts=_ at h2;generalize ZM b K ts=l at h2;split
 .rename_i e;rw[e];rfl
 .rename_i e;cases z:l.up with
  |none=>exact gA (h2 z) e
  |some q=>rfl
abbrev lw(life r:Int)(l:Lab)(p:Int):L:=⟨(life,r),(life,ver l),l.root,l.cost,2*ver l,if Ch l.up p then eQ (0,0)else eS,eS⟩
def Ma(ho:HOk ts t b H)(e:B.held=Yq a H):Wd B p=eV:=by
 unfold Wd;rw[e];cases z:(Yq a H).lookup p with
 |none=>rfl
 |some x=>let⟨o,rfl⟩:=ho.alook z;rfl
def BR(ho:HOk ts t b H)(e:B.held=Yq a H):JZ B p=eV:=by
 unfold JZ;rw[e];cases z:(Yq a H).lookup p with
 |none=>rfl
 |some x=>let⟨o,rfl⟩:=ho.alook z;rfl
def LN(ho:HOk ts t b H)(e:B.held=Yq a H)(ht:(B.ties.lookup p).isSome=eU):Mh B p = "shut":=by unfold Mh;rw[gu ht,BR ho e,Ma ho e];split<;>rfl
def Bv(ho:HOk ts t b H)(hk:∀p,(H.lookup p).isSome=gB ((b,p)∈K))(hm:2<=most):Zu (mkB b life most cnt t H).told p=lw life cnt (ZM b K ts) p:=by
 have hu:∀q,(ZM b K ts).up=eQ q->((Yq 1 H).lookup q.1).isSome=eU/\q.2=(0,0):=λq hq=>by
  refine⟨?_,EA hq⟩;rw[<-U4 (life:=life) (cnt:=cnt) ho hk hm]at hq;have:=Ae hq
  rwa [show(mkB b life most cnt t H).grown.held=ZP most H from rfl,Jp hm ho.zero]at this
 rw[MG ho hk hm];have hr:=Ma (p:=p) (B:={mkB b life most cnt t (Yq 1 H)with label:=ZM b K ts,version:=ver (ZM b K ts)}) ho rfl;unfold Zu;rw[hr];unfold lw WT ver;dsimp only[mkB];generalize ZM b K ts=l at hu;let⟨lr,lc,u⟩:=l;cases u with
 |none=>rfl
 |some q =>let⟨h1,h2⟩:=hu q rfl;let⟨x,hx⟩:=ë.mp h1;let⟨o,rfl⟩:=ho.alook hx;simp[hx,h2]
end
abbrev ups(bs gone:List Int):List Int:=bs.filter λb=>!gB (b∈gone)
def Ak{q b:Int}(h1:inR ts q=eU)(h2:Zm (XF ts q) b=eU):(q,far (XF ts q) b,(XF ts q).2.2)∈gg b 0 ts:=by
 obtain⟨i,rfl⟩:∃i:Nat,q=i:=⟨q.toNat,by have:=(of_decide_eq_true h1).1;lia⟩
 have hi:i<ts.length:=by have:=(of_decide_eq_true h1).2;lia
 have et:XF ts (i:Int)=ts[i]:=by unfold XF;rw[â,È hi];rfl
 rw[et]at h2 ⊢;exact nbs_iff.mpr ⟨i,ts[i],È hi,touch_iff.mp h2,by rw[ř]⟩
def Wp{r:Tie}{b:Int}(h:r∈gg b 0 ts):inR ts r.1=eU/\Zm (XF ts r.1) b=eU/\r=(r.1,far (XF ts r.1) b,(XF ts r.1).2.2):=by
 let⟨i,t,h1,h2,rfl⟩:=nbs_iff.mp h;have hi:=(Ë.mp h1).1;have et:XF ts ((0+i:Nat):Int)=t:=by unfold XF;rw[ř,â,h1];rfl
 dsimp only;rw[et];exact⟨gy ⟨by lia,by lia⟩,touch_iff.mpr h2,rfl⟩
abbrev Yw(ts:List Tie)(gone cut:List Int)(b life r:Int)(l:Lab)(rs:List Tie):List<|Int×Int×Int×L:=(rs.filter λt=>ZU ts gone cut t.1).map λt=>(b,t.2.1,t.1,lw life r l t.1)
def MX{b:Int}:ZM b [] ts=⟨b,0,eS⟩:=by unfold ZM Yh;rw[List.filter_eq_nil_iff.mpr λt _=>by simp];rfl
structure TK(C:Yc)(done:List Int)(Z:Yc):Prop where
 bs:Z.bs=C.bs
 ts:Z.ts=C.ts
 most:Z.most=C.most
 fal:Z.fallen=C.fallen
 liv:Z.lives=C.lives
 br:Z.br=C.br.map λq=>if q.1∈done then(q.1,q.2.ticked)else q
 road:Z.road=C.road++done.flatMap λb=>ZK C.ts b (C.at_ b).told
section
variable {D:Yc}{cut:List Int}{K:List Pi}{cnt:Int->Int}{N:Nat}{b p:Int}
def TK.nil:TK C [] C:=⟨rfl,rfl,rfl,rfl,rfl,by simp,by simp⟩
def TK.look(k:TK C done Z):Z.br.lookup b=(C.br.lookup b).map λB=>if b∈done then B.ticked else B:=by
 rw[k.br];generalize C.br=l;induction l with
 |nil=>rfl
 |cons q l ih =>
  rw[Ñ,Ú,Ú,ih];by_cases e:b=q.1
  .subst e;by_cases m:q.1∈done<;>simp[m]
  .have:(b==q.1)=eV:=⇑e
   have h2:(b==(if q.1∈done then(q.1,q.2.ticked)else q).1)=eV:=by split<;>exact this
   rw[h2,this]
def TK.step(k:TK C done Z)(hn:b∉done)(hs:C.std b=eU)(s:step Z (.tick b)=eQ D):TK C (done++[b]) D:=by
 let⟨B,hB,rfl⟩:=Í.mp s;have h1:=k.look (b:=b);have h1:C.br.lookup b=eQ B:=by rw[hB]at h1;let⟨A,hA,e⟩:=Í.mp h1.symm;rw[gw hn]at e;rw[hA,e]
 refine⟨k.bs,k.ts,k.most,k.fal,k.liv,?_,?_⟩
 .show upC b Br.ticked Z.br=_;rw[k.br];unfold upC;rw[õ];refine ý λq _=>?_;by_cases e:q.1=b
  .have n:q.1∉done:=e▸hn;have m:q.1∈done++[b]:=by simp[e]
   simp![Function.comp,n,m,if_true,if_false,gu e]
  .by_cases m2:q.1∈done
   .have m:q.1∈done++[b]:=by simp[m2]
    simp![Function.comp,m2,m,e,if_true,if_false]
   .have m:q.1∉done++[b]:=by simp[m2,e]
    simp![Function.comp,m2,m,e,if_false]
 .show Z.road++ZK Z.ts b B.told=_;rw[k.road,k.ts,ο,Ĝ];have:C.at_ b=B:=by unfold Yc.at_;rw[h1];rfl
  rw[<-this];simp
def W.at_(w:W C gone cut LV K cnt)(g:C.gd N)(hb:b∈C.bs)(hg:b∉gone):∃t H,C.br.lookup b=eQ (mkB b (lf LV b) C.most (cnt b) t H)/\HOk C.ts t b H/\(∀p,(H.lookup p).isSome=gB ((b,p)∈K))/\(t.map (·.1)).Nodup/\∀p,(t.lookup p).isSome=(inR C.ts p&&(Zm (C.tie p) b&&onC C p)):=by
 have h0:=w.core b;rw[gu ⟨hb,hg⟩]at h0;unfold Yc.core at h0;let⟨B,hB,cB⟩:=Í.mp h0;let⟨n,l,m,t,H,lb,v,c⟩:=B;have ok:=(g.ok _<|Zh hB).ok;unfold O.core brc ZD at cB;injection cB with e1 e2 e3 e4 e5 e6 e7 e8;dsimp only at e1 e2 e3 e6 e7 e8;subst e6 e7 e8;rw[e1,e2,e3]at hB;have tv:∀q v,t.lookup q=eQ v->v=(far (C.tie q) b,(C.tie q).2.2):=λq v e=>w.tv b q v (by unfold Yc.tv;rw[hB];exact e);have hv:∀q,C.hv b q=H.lookup q:=λq=>by unfold Yc.hv;rw[hB];rfl
 have hs:C.std b=eU:=by unfold Yc.std;rw[hB];rfl
 have td:∀q,(t.lookup q).isSome=(inR C.ts q&&(Zm (C.tie q) b&&onC C q)):=λq=>by have:=w.ti b q;rw[hs,ś]at this;rw[<-this];unfold Yc.tied;rw[hB];rfl
 refine⟨t,H,hB,λq hq=>?_,λp=>by rw[<-hv];exact w.hk b p,ok.nt,td⟩;have lq:H.lookup q.1=eQ q.2:=XB ok.nd hq;let⟨h1,h2,h3,h4⟩:=w.hi b q.1 q.2 (by rw[hv];exact lq);have h5:=td q.1;rw[h1,h2,h3]at h5;let⟨x,hx⟩:=ë.mp h5;exact⟨far (C.tie q.1) b,(C.tie q.1).2.2,Ak h1 h2,h4,by rw[hx,tv _ _ hx]⟩
def W.sent(w:W C gone cut LV K cnt)(g:C.gd N)(hm:2<=C.most)(hb:b∈C.bs)(hg:b∉gone):ZK C.ts b (C.at_ b).told=Yw C.ts gone cut b (lf LV b) (cnt b) (ZM b K C.ts) (gg b 0 C.ts):=by
 let⟨t,H,hB,ho,hk,nt,td⟩:=w.at_ g hb hg;have:C.at_ b=mkB b (lf LV b) C.most (cnt b) t H:=by unfold Yc.at_;rw[hB];rfl
 rw[this];unfold ZK Yw;have hs:sortI (t.map (·.1))=((gg b 0 C.ts).filter λr=>ZU C.ts gone cut r.1).map (·.1):=by
  refine Uq (M9 nt) (X9.1.sublist<|ě.map _) λp=>?_;have ht:=td p;rw[look_iff]at ht;rw[mem_sort];constructor
  .intro hp;rw[gy hp]at ht;have ht:=ht.symm;rw[bAq,bAq]at ht;let⟨h1,h2,h3⟩:=ht;rw[Ol w.std w.fal g.no h1]at h3;exact Ô.mpr ⟨_,ï.mpr ⟨Ak h1 h2,h3⟩,rfl⟩
  .intro hp;let⟨r,hr,rfl⟩:=Ô.mp hp;let⟨hr,hu⟩:=ï.mp hr;let⟨h1,h2,_⟩:=Wp hr;rw[h1,show Zm (C.tie r.1) b=eU from h2,Ol w.std w.fal g.no h1,hu]at ht;exact of_decide_eq_true ht
 rw[show(mkB b (lf LV b) C.most (cnt b) t H).told.ties=t by rw[MG ho hk hm];rfl,hs,õ];refine ý λr hr=>?_;let⟨_,_,e⟩:=Wp (ï.mp hr).1;show(b,F1 C.ts r.1 b,r.1,Zu _ r.1)=_;rw[Bv ho hk hm,e];rfl
def W.ticked(w:W C gone cut LV K cnt)(g:C.gd N)(hm:2<=C.most)(hb:b∈C.bs)(hg:b∉gone):∃t H,HOk C.ts t b H/\(∀p,(H.lookup p).isSome=gB ((b,p)∈K))/\(∀p,(t.lookup p).isSome=(inR C.ts p&&(Zm (C.tie p) b&&onC C p)))/\C.br.lookup b=eQ (mkB b (lf LV b) C.most (cnt b) t H)/\(mkB b (lf LV b) C.most (cnt b) t H).ticked={mkB b (lf LV b) C.most (cnt b+1) t (Yq 1 H)with label:=ZM b K C.ts,version:=ver (ZM b K C.ts)}:=by let⟨t,H,hB,ho,hk,nt,td⟩:=w.at_ g hb hg;refine⟨t,H,ho,hk,td,hB,?_⟩;unfold Br.ticked;rw[MG ho hk hm];rfl
end
abbrev WO(bs:List Int)(ts:List Tie)(most:Int):Yc:=⟨bs,ts,most,bs.map λb=>(b,0),bs.map λb=>(b,ZD b 0 most<|gg b 0 ts),[],[]⟩
def QU(nw:YNew bs ts most Y):Y.cc=WO bs ts most:=by
 have e:enC Y.es=bs.map λb=>(b,ZD b 0 most<|gg b 0 ts):=by rw[<-nw.num,õ];exact ý λe he=>by show(e.num,e.B)=(e.num,_);rw[nw.br e he]
 unfold Yd.cc WO;rw[nw.hb,nw.ht,nw.hm,nw.lives,nw.fallen,nw.road,e]
def HF{b:Int}(h:ts.length<=16):Bok ts.length<|ZD b life most<|gg b 0 ts:=by
 have r:=X9 (b:=b) (l:=ts) (k:=0);have rg:∀q∈YR (gg b 0 ts),0<=q.1/\q.1<ts.length:=λq hq=>by let⟨x,hx,rfl⟩:=Ô.mp hq;have:=r.2 x hx;dsimp only;lia
 refine⟨⟨ò,(λ_ m=>nomatch m),?_,λq hq=>?_⟩,λq hq=>(rg q hq).2⟩
 .show((YR _).map (·.1)).Nodup;rw[Jc];exact r.1.imp λz=>by lia
 .have:=rg q hq;lia
def Fy(no:fw bs ts):(WO bs ts most).gd 0:=by
 have e1:(bs.map λb=>(b,ZD b 0 most<|gg b 0 ts)).map (·.1)=bs:=by rw[õ];exact ϩ _
 refine⟨no,?_,keys_sub.mpr ?_,λq hq=>?_,?_,ò,(λ_ m=>nomatch m),Ï _⟩
 .show((bs.map λb=>(b,ZD b 0 most<|gg b 0 ts)).map (·.1)).Nodup;rw[e1];exact no.up.imp λh=>by lia
 .show ∀x∈(bs.map λb=>(b,ZD b 0 most<|gg b 0 ts)).map (·.1),_;rw[e1];exact λ_=>id
 .obtain⟨b,_,rfl⟩:=Ô.mp hq;exact HF no.sixteen
 .show(bs.map λb=>(b,(0:Int))).map (·.1)=bs;rw[õ];exact ϩ _
def Cz(no:fw bs ts)(hp:h p=eS)(k:∀Y g,Y.y=p->fi g Y->Y.cc=WO bs ts most->(∀a∈Y.adr,h a=eS)->Ext h g->Q .non g):wF P (n+3) "Yard.__init__" [.ref p,ZC bs ts,.int most] (upd h p<|.ins "Yard" []) Q X:=DW no hp λY g e y nw f x=>k Y g e y (QU nw) f x
def JJ{α:Type}{f:Int->α}{b:Int}:∀{bs:List Int},(bs.map λb=>(b,f b)).lookup b=if b∈bs then eQ (f b)else eS
 |[]=>rfl
 |x::bs=>by
  rw[Ñ,Ú,JJ (bs:=bs)];by_cases e:b=x
  .subst e;simp
  .have:(b==x)=eV:=⇑e
   rw[this];simp[e]
def Pr(no:fw bs ts):W (WO bs ts most) [] [] [] [] λ_=>0:=by
 have lk:∀b,(WO bs ts most).br.lookup b=if b∈bs then eQ (ZD b 0 most<|gg b 0 ts)else eS:=λb=>JJ;have hv:∀b q,(WO bs ts most).hv b q=eS:=λb q=>by unfold Yc.hv;rw[lk];split<;>rfl
 refine⟨λb q=>?_,λb q v e=>?_,λb q v e=>(by rw[hv]at e;cases e),λb q=>(by rw[hv];rfl),λb=>?_,λp=>rfl,λb hb=>?_,(λ_ m=>nomatch m),ò,ò,(λ_ m=>nomatch m),ò⟩
 .have st:∀b,(WO bs ts most).std b=gB (b∈bs):=λb=>by
   unfold Yc.std;rw[lk];by_cases h:b∈bs<;>simp[h]
  have on:inR ts q=eU->onC (WO bs ts most) q=eU:=λh=>by let⟨h1,h2,_⟩:=Xy no h;have a:=st ((WO bs ts most).tie q).1;have c:=st ((WO bs ts most).tie q).2.1;unfold Yc.std at a c;unfold onC;rw[a,c,gy (show((WO bs ts most).tie q).1∈bs from h1),gy<|show((WO bs ts most).tie q).2.1∈bs from h2];rfl
  rw[st];unfold Yc.tied;rw[lk];by_cases h:b∈bs
  .rw[gu h,gy h];show((YR<|gg b 0 ts).lookup q).isSome=(eU&&(inR ts q&&(Zm (ts[q.toNat]?.getD (0,0,0)) b&&_)))
   have e:((YR<|gg b 0 ts).lookup q).isSome=inl (gg b 0 ts) q:=by rw[look_iff,Jc,aZ];unfold inl;rw[Ż,gz,Ô];exact⟨λ⟨r,h1,h2⟩=>⟨r,h1,⇑h2⟩,λ⟨r,h1,h2⟩=>⟨r,h1,⇑h2⟩⟩
   rw[e,Xx,ś];cases z:inR ts q with
   |false=>rfl
   |true=>rw[on z,Ů]
  .rw[gw h,gx h];rfl
 .unfold Yc.tv at e;rw[lk]at e;split at e
  .obtain⟨r,hr,e2⟩:=Ô.mp<|Zh e;let⟨_,_,e3⟩:=Wp hr;rw[e3]at e2;injection e2 with e4 e5;dsimp only at e4;rw[e4]at e5;exact e5.symm
  .cases e
 .unfold Yc.core;rw[lk];by_cases h:b∈bs
  .rw[gu h,gu ⟨h,É⟩];rfl
  .rw[gw h,gw λz=>h z.1];rfl
 .show(bs.map λb=>(b,(0:Int))).lookup b=_;rw[JJ (f:=λ_=>(0:Int)),gu<|show b∈bs from hb];rfl
abbrev PM(C:Yc):List Val:=C.keys.map λb=>.tup [.int b,pV ((C.at_ b).life,(C.at_ b).version)]
section
variable {D:Yc}{cut:List Int}{K:List Pi}{cnt:Int->Int}{N:Nat}{b p:Int}
def W.miss(w:W C gone cut LV K cnt)(h:¬(b∈C.bs/\b∉gone)):C.br.lookup b=eS:=by have:=w.std b;rw[gx h]at this;exact Di this
def W.first_look(w:W C [] [] [] [] λ_=>0)(g:C.gd N)(hm:2<=C.most)(k:TK C C.bs Z)(b:Int):(b∉C.bs/\C.br.lookup b=eS/\Z.br.lookup b=eS)\/(b∈C.bs/\∃t,C.br.lookup b=eQ (mkB b 0 C.most 0 t [])/\Z.br.lookup b=eQ (mkB b 0 C.most 1 t [])):=by
 by_cases hb:b∈C.bs
 .obtain⟨t,H,ho,hk,td,hB,e⟩:=w.ticked g hm hb É;have:H=[]:=by
   cases H with
   |nil=>rfl
   |cons q H =>have:=hk q.1;rw[Ú]at this;simp at this
  subst this;refine .inr ⟨hb,t,hB,?_⟩;rw[k.look,hB];show eQ (if b∈C.bs then(mkB b (lf [] b) C.most 0 t []).ticked else _)=_;rw[gu hb,e,MX];rfl
 .have e:=w.miss (b:=b) λz=>hb z.1;exact .inl ⟨hb,e,by rw[k.look,e];rfl⟩
def W.first(w:W C [] [] [] [] λ_=>0)(g:C.gd N)(hm:2<=C.most)(k:TK C C.bs Z):W Z [] [] [] [] λ_=>1:=by
 have lk:=w.first_look g hm k;have et:∀q,Z.tie q=C.tie q:=λq=>by unfold Yc.tie;rw[k.ts]
 have sd:∀c,Z.std c=C.std c:=λc=>by unfold Yc.std;rcases lk c with⟨_,h1,h2⟩|⟨_,t,h1,h2⟩<;>rw[h1,h2]<;>rfl
 have vd:∀c q,Z.tv c q=C.tv c q:=λc q=>by unfold Yc.tv;rcases lk c with⟨_,h1,h2⟩|⟨_,t,h1,h2⟩<;>rw[h1,h2]<;>rfl
 have td:∀c q,Z.tied c q=C.tied c q:=λc q=>by unfold Yc.tied;rcases lk c with⟨_,h1,h2⟩|⟨_,t,h1,h2⟩<;>rw[h1,h2]<;>rfl
 have hv:∀c q,Z.hv c q=eS:=λc q=>by unfold Yc.hv;rcases lk c with⟨_,h1,h2⟩|⟨_,t,h1,h2⟩<;>rw[h2]<;>rfl
 refine⟨λc q=>?_,λc q v e=>?_,λb q v e=>(by rw[hv]at e;cases e),λb q=>(by rw[hv];rfl),λc=>?_,λp=>by rw[k.fal];exact w.fal p,λc hc=>by rw[k.liv];rw[k.bs]at hc;exact w.liv c hc,(λ_ m=>nomatch m),ò,ò,(λ_ m=>nomatch m),ò⟩
 .rw[td,sd,X3 (C:=C) sd k.fal k.ts,k.ts,et];exact w.ti c q
 .rw[vd]at e;rw[et];exact w.tv c q v e
 .unfold Yc.core;rw[k.bs,k.most];rcases lk c with⟨h0,h1,h2⟩|⟨h0,t,h1,h2⟩
  .rw[h2,gw λz=>h0 z.1];rfl
  .rw[h2,gu ⟨h0,É⟩];rfl
def W.first_road(w:W C [] [] [] [] λ_=>0)(g:C.gd N)(hm:2<=C.most)(hr:C.road=[])(k:TK C C.bs Z):RI Z:=by
 intro r hz;rw[k.road,hr,aY]at hz;let⟨b,hb,hz⟩:=Œ.mp hz;rw[w.sent g hm hb É,MX]at hz;let⟨t,ht,rfl⟩:=Ô.mp hz;let⟨h1,h2,e⟩:=Wp (ï.mp ht).1;have et:Z.tie t.1=XF C.ts t.1:=by unfold Yc.tie;rw[k.ts];rfl
 refine⟨b,t.1,by rw[k.ts];exact h1,by rw[et];exact h2,?_⟩;rw[et,show t.2.1=far (XF C.ts t.1) b from congrArg (·.2.1) e];rfl
def W.last(w:W C gone cut LV K cnt)(g:C.gd N)(hm:2<=C.most)(k:TK C done Z)(hd:∀b,b∈done↔b∈C.bs/\b∉gone)(hb:b∈C.bs)(hg:b∉gone):∃t H,HOk C.ts t b H/\(∀p,(t.lookup p).isSome=(inR C.ts p&&(Zm (C.tie p) b&&onC C p)))/\Z.br.lookup b=eQ {mkB b (lf LV b) C.most (cnt b+1) t (Yq 1 H)with label:=ZM b K C.ts,version:=ver (ZM b K C.ts)}:=by let⟨t,H,ho,hk,td,hB,e⟩:=w.ticked g hm hb hg;refine⟨t,H,ho,td,?_⟩;rw[k.look,hB];show eQ (if b∈done then(mkB b (lf LV b) C.most (cnt b) t H).ticked else _)=_;rw[gu<|(hd b).mpr ⟨hb,hg⟩,e]
def TK.keys_eq(k:TK C done Z)(w:W C gone cut LV K cnt)(g:C.gd N):Z.keys=ups C.bs gone:=by
 have:Z.br.map (·.1)=C.br.map (·.1):=by rw[k.br,õ];exact ý λq _=>by show(if q.1∈done then(q.1,q.2.ticked)else q).1=q.1;split<;>rfl
 unfold Yc.keys;rw[this];refine Uq (M9 g.nd) (g.no.up.sublist ě) λb=>?_;have hs:=w.std b;unfold Yc.std at hs;show b∈C.keys↔_;rw[keys_mem,hs];unfold ups;rw[ï];simp
def TK.tells(k:TK C done Z)(w:W C gone cut LV K cnt)(g:C.gd N)(hm:2<=C.most)(hd:∀b,b∈done↔b∈C.bs/\b∉gone):Qc Z=(ups C.bs gone).map (λb=>.tup [.int b,(ZM b K C.ts).v])/\PM Z=(ups C.bs gone).map λb=>.tup [.int b,pV (lf LV b,ver<|ZM b K C.ts)]:=by
 unfold Qc PM;rw[k.keys_eq w g];have at_:∀b∈ups C.bs gone,(Z.at_ b).label=ZM b K C.ts/\(Z.at_ b).life=lf LV b/\(Z.at_ b).version=ver (ZM b K C.ts):=λb hb=>by let⟨h1,h2⟩:=ï.mp hb;let⟨t,H,_,_,e⟩:=w.last g hm k hd h1 ⇑h2;unfold Yc.at_;rw[e];exact⟨rfl,rfl,rfl⟩
 exact⟨ý λb hb=>by rw[(at_ b hb).1],ý λb hb=>by rw[(at_ b hb).2.1,(at_ b hb).2.2]⟩
def TK.ends_eq(k:TK C done Z)(w:W C gone cut LV K cnt)(g:C.gd N)(hm:2<=C.most)(hd:∀b,b∈done↔b∈C.bs/\b∉gone)(hp:inR C.ts p=eU):Z.ends p=(if ZU C.ts gone cut p=eU then "shut" else "down",if ZU C.ts gone cut p=eU then "shut" else "down"):=by
 let⟨m1,m2,_⟩:=Xy g.no hp;have one:∀b,b∈C.bs->Zm (C.tie p) b=eU->Bj Z b p=if ZU C.ts gone cut p=eU then "shut" else "down":=λb hb ht=>by
  rw[<-Ol w.std w.fal g.no hp];unfold Bj;by_cases hg:b∈gone
  .have e:=w.miss (b:=b) λz=>z.2 hg;have ho:onC C p=eV:=by
    cases y:onC C p with
    |false=>rfl
    |true=>have:=Jr y ht;unfold Yc.std at this;rw[e]at this;cases this
   rw[k.look,e,ho];rfl
  .obtain⟨t,H,ho,td,e⟩:=w.last g hm k hd hb hg;have h1:=td p;rw[hp,ht]at h1;unfold Yc.at_;rw[e];simp![ϳ,if_true,dW];cases y:onC C p with
   |true =>rw[y]at h1;exact LN ho rfl h1
   |false =>rw[y]at h1;unfold Mh;exact gw (by show ¬ (t.lookup p).isSome=eU;rw[h1];decide)
 have et:Z.tie p=C.tie p:=by unfold Yc.tie;rw[k.ts]
 unfold Yc.ends;rw[et,one (C.tie p).1 m1<|touch_iff.mpr<|.inl rfl,one (C.tie p).2.1 m2<|touch_iff.mpr<|.inr rfl]
end
section
variable {N:Nat}
def AT(x:fi h Y)(gd:Y.cc.gd N)(k:∀p g,h p=eS->Ext h g->g p=eQ (.lst<|PM Y.cc)->Q (.ref p) g):wF P (n+2) "Yard.stamps" [.ref Y.y] h Q X:=by
 have xi:=x.ins;have xs:=x.stand;have ek:(stands Y.es).map (·.1)=Y.cc.br.map (·.1):=(ZI _).trans (Xq _).symm;have h10:=gd.ten;have kl:=OI (C:=Y.cc);refine Ky ?_;refine' Ul xs (Ev _) (by rw[ek];lia) (Zk λp1 g1 cS x1 e1=>?_);rw[ek]at e1;have x':=x.ext x1;have xi:=x'.ins;have xs:=x'.stand;refine' ⟨Õ (by rw[Á];show Y.cc.keys.length<=10;lia) ↥1,?_⟩;refine WE (λi ys g=>g=g1/\ys=(Y.cc.keys.take i).map λb=>.tup [.int b,pV ((Y.cc.at_ b).life,(Y.cc.at_ b).version)]) ⟨rfl,rfl⟩ (λi ys g _ ⟨z,_⟩=>by rw[z];exact lsE e1) ?_ ?_
 .rintro i v ys g hv ⟨rfl,rfl⟩ K hK;let⟨nm,hnm,rfl⟩:=ZJ hv;let⟨e,he,en,lk,ea,ba⟩:=x'.at_<|keys_mem.mp<|ã hnm;have bi:=ba.ins;walk_at "p";refine ZV xs rfl (by rw[Z2,lk];rfl) ?_
  exists Xo ba
  refine' hK _ _ ⟨rfl,?_⟩;rw[Zo (xs:=Y.cc.keys) hnm,Ý,<-ea];rfl
 .rintro ys g ⟨rfl,rfl⟩;rw[Á,show(sortI (Y.cc.br.map (·.1))).length=Y.cc.keys.length from rfl,ü];exact Zk λp g2 hp x2 ep=>k p g2 (Yb x1 hp) (x1.trans x2) ep
end
def AD{i:Int}(e:h a=eQ (.lst<|ns.map .int))(q:KB (!gB (i∈ns))):go (fu h .notin (.int i)<|.ref a) KB:=fb (by show(inV h (.int i)<|.ref a).map _=_;unfold inV;simp![e];rw[M3];rfl) q
def JE{i:Int}(e:h a=eQ (.lst<|ns.map .int))(q:KB<|gB (i∈ns)):go (fu h .isin (.int i)<|.ref a) KB:=fb (by show inV h (.int i) (.ref a)=_;unfold inV;simp![e];rw[M3]) q
def NM{i:Int}{K:Val×Hs->Prop}(e:h a=eQ (.lst<|ns.map .int))(m:i∈ns)(q:K (.non,upd h a<|.lst<|(ns.erase i).map .int)):go (bmV h .remove (.ref a) [.int i]) K:=fb (by
  show(fj<|h a).bind _=_
  rw[lsE e]
  show(fe<|ns.map .int).bind _=_
  rw[Xm]
  exact gu m) q
abbrev flat:Nat->Val->Bool
 |_,.non=>eU
 |_,.bl _=>eU
 |_,.int _=>eU
 |_,.str _=>eU
 |n+1,.tup xs=>xs.all<|flat n
 |_,_=>eV
def Jk{α β:Type}{f:α->Option β}:∀{xs:List α},(∀x∈xs,∃d,f x=eQ d)->∃ds,xs.mapM f=eQ ds
 |[],_=>⟨[],rfl⟩
 |x::xs,h=>by let⟨d,hd⟩:=h x (by simp);let⟨ds,hds⟩:=Jk (xs:=xs) λy hy=>h y (by simp[hy]);exact⟨d::ds,by rw[Γ,hd,hds];rfl⟩
def JY{h:Hs}:∀{n:Nat}{v:Val},flat n v=eU->∃d,dat h n v=eQ d
 |0,.non,_=>⟨_,rfl⟩
 |0,.bl _,_=>⟨_,rfl⟩
 |0,.int _,_=>⟨_,rfl⟩
 |0,.str _,_=>⟨_,rfl⟩
 |n+1,.non,_=>⟨_,rfl⟩
 |n+1,.bl _,_=>⟨_,rfl⟩
 |n+1,.int _,_=>⟨_,rfl⟩
 |n+1,.str _,_=>⟨_,rfl⟩
 |n+1,.tup xs,e=>by let⟨ds,hds⟩:=Jk (f:=dat h n) (xs:=xs) λx hx=>JY<|ÿ.mp e x hx;exact⟨_,by show(xs.mapM<|dat h n).map D.tup=_;rw[hds];rfl⟩
def P9{xs:List Val}(ea:h a=eQ (.lst xs))(eb:h b=eQ (.lst xs))(e:xs.all (flat 11)=eU):eqV h (.ref a) (.ref b)=eQ eU:=by
 let⟨ds,hds⟩:=Jk (f:=dat h 11) (xs:=xs) λx hx=>JY<|ÿ.mp e x hx;have h1:∀{c:Ad},h c=eQ (.lst xs)->dat h deep (.ref c)=eQ (.lst ds):=λ{c} ec=>by show(fj<|h c).bind (λxs=>(xs.mapM<|dat h 11).map D.lst)=_;rw[ec,Y5,î,hds];rfl
 unfold eqV;rw[h1 ea,h1 eb];show eQ (D.eqv _ _)=_;rw[D.eqv_refl]
def all_map{α:Type}{f:α->Val}{n:Nat}{xs:List α}(h:∀x∈xs,flat n (f x)=eU):(xs.map f).all (flat n)=eU:=by rw[List.all_map];exact ÿ.mpr h
def Qq{xs:List Val}(ea:h a=eQ (.lst xs))(eb:h b=eQ (.lst []))(e:xs.all (flat 11)=eU):eqV h (.ref a) (.ref b)=eQ xs.isEmpty:=by
 cases xs with
 |nil=>exact P9 ea eb e
 |cons x xs =>
  let⟨ds,hds⟩:=Jk (f:=dat h 11) (xs:=x::xs) λy hy=>JY<|ÿ.mp e y hy;have h1:dat h deep (.ref a)=eQ (.lst ds):=by show(fj<|h a).bind (λxs=>(xs.mapM<|dat h 11).map D.lst)=_;rw[ea,Y5,î,hds];rfl
  have h2:dat h deep (.ref b)=eQ (.lst []):=by show(fj<|h b).bind (λxs=>(xs.mapM<|dat h 11).map D.lst)=_;rw[eb,Y5,î];rfl
  cases ds with
  |nil =>
   rw[Γ]at hds;cases z:dat h 11 x with
   |none=>rw[z]at hds;cases hds
   |some d =>
    rw[z]at hds;cases z2:xs.mapM (dat h 11)with
    |none=>rw[z2]at hds;cases hds
    |some ys=>rw[z2]at hds;cases hds
  |cons d ds =>unfold eqV;rw[h1,h2];show eQ (D.eqv _ _)=_;simp[D.eqv,D.eqvs]
def IF{i:Int}{K:Int×Int->Prop}(q:K (i,j)):go (pairI<|.tup [.int i,.int j]) K:=fb rfl q
abbrev kd(K:List Pi):List<|Val×Val:=K.map λx=>(.key x.1 x.2,.bl eU)
def MK(a b c d:Int):(Val.key a b==Val.key c d)=gB ((a,b)=(c,d)):=by
 by_cases e:(a,b)=(c,d)
 .cases e;simp
 .rw[gx e];exact beq_eq_false_iff_ne.mpr λz=>e (by injection z with z1 z2;rw[z1,z2])
def Ug{b p:Int}:∀{K:List Pi},fz (kd K) (.key b p)=gB ((b,p)∈K)
 |[]=>rfl
 |x::K=>by
  have ih:=Ug (b:=b) (p:=p) (K:=K);unfold fz kd at ih ⊢;rw[Ñ,Ğ,ih,MK];by_cases e:(b,p)=x
  .subst e;simp
  .have:¬ (x.1,x.2)=(b,p):=λz=>e z.symm;rw[gx this];simp[e]
def Qd{b p:Int}{K:List Pi}:fA (kd K) (.key b p) (.bl eU)=kd (Nr K (b,p)):=by
 unfold fA Nr;rw[Ug];by_cases h:(b,p)∈K
 .rw[gy h,gu rfl,gu h];unfold kd;rw[õ];refine ý λx _=>?_;show(if(Val.key x.1 x.2==Val.key b p)=eU then _ else _)=_;split
  .rename_i e;rw[<-(beq_iff_eq.mp e:Val.key x.1 x.2=_)]
  .rfl
 .rw[gx h,gw ↥1,gw h];unfold kd;rw[Ý];rfl
def GJ{b p:Int}{K:List Pi}:fB (kd K) (.key b p)=kd (K.filter λx=>!gB (x=(b,p))):=by unfold fB kd;rw[a8];congr 1;refine Υ λx _=>?_;show(!(Val.key x.1 x.2==Val.key b p))=_;rw[MK]
def OT{b:Int}{K:List Pi}{l:List Tie}{t:Tie}:Yh b K (l++[t])=Yh b K l++(if(b,t.1)∈K/\t.2.1<b then [[t.2.1,t.2.2,t.2.1,t.1]]else []):=by
 unfold Yh;rw[ab,Ý,Ā];by_cases h:(b,t.1)∈K/\t.2.1<b
 .rw[gu h,gu<|by simp[h.1,h.2]];rfl
 .rw[gw h,gw<|by simpa using h];rfl
def Mw{b:Int}{K:List Pi}{l:List Tie}:(Yh b K l).length<=l.length:=by unfold Yh;rw[Á];exact ĝ _ _
inductive JB (bs:List Int) (ts:List Tie) (b:Int) (ph p p2:Ad) (K:List Pi) (h:Hs) (i:Nat) (en:Env) (g:Hs):Prop where
 |mk (v4 v5 v6 v7:Option Val) (e:en=[eQ<|ZC bs ts,eQ<|.int b,eQ<|.ref ph,eQ<|.ref p,v4,v5,v6,v7]) (e1:g p=eQ (.lst<|(Yh b K<|(gg b 0 ts).take i).map XG)) (e2:g p2=eQ (.lst<|(gg b 0 ts).map trV)) (x:Ext h g)
def JB.e2{b:Int}{K:List Pi}:JB bs ts b ph p p2 K h i en g->g p2=eQ (.lst<|(gg b 0 ts).map trV)
 |.mk _ _ _ _ _ _ e _=>e
section
variable {cut:List Int}{ts:List Tie}{K:List Pi}
def Jj{p:Int}(h0:0<=p)(h1:p<ts.length)(eg:h pg=eQ (.lst<|gone.map .int))(ec:h pc=eQ (.lst<|cut.map .int))(k:Q (.bl<|ZU ts gone cut p) h):wF P (n+1) "_law_is_up" [ZC bs ts,.ref pg,.ref pc,.int p] h Q X:=by
 unfold ZC;refine OD ?_
 exists fc (US h0 h1)
 unfold ZU XF at k;generalize ts[p.toNat]?.getD (0,0,0)=t at k ⊢;let⟨a,b,c⟩:=t;unfold trV
 exists AD ec
 refine' fY (λhc=>?_) (λhc=>?_)
 .rw[hc,ś]at k
  exists AD eg
  refine' fY (λhd=>?_) (λhd=>?_)
  .rw[hd,ś]at k
   exists AD eg
   exact k
  .rw[hd]at k;exact k
 .rw[hc]at k;exact k
def Ms{b:Int}(no:fw bs ts)(k:∀p g,h p=eS->Ext h g->g p=eQ (.lst<|(gg b 0 ts).map trV)->Q (.ref p) g):wF P (n+1) "_law_ties_of" [ZC bs ts,.int b] h Q X:=by
 have l16:=no.sixteen;unfold ZC;refine KE ?_;refine' Zk λp g0 hp x0 e0=>?_
 exists fb rfl
 refine Zp (λi en g=>Sm2 λv3 v4=>Cj3 (en=[eQ<|.tup [.tup<|bs.map .int,.tup<|ts.map trV],eQ<|.int b,eQ<|.ref p,v3,v4]) (Ext h g)<|g p=eQ (.lst<|(gg b 0<|ts.take i).map trV)) ⟨_,_,rfl,x0,e0⟩ (λ_ _ _ _ _=>trivial) ?_ ?_
 .rintro i v en g hv ⟨v3,v4,rfl,x,ep⟩ K hK;let⟨y,hy,rfl⟩:=Nx hv;rw[Ù]at hy;let⟨t,ht,rfl⟩:=Í.mp hy;have hi:i<ts.length:=(Ë.mp ht).1;have Ϝ:=(no.tie t<|ã ht).2.2.1;have hn:gg b 0 (ts.take<|i+1)=gg b 0 (ts.take i)++(if b=t.1\/b=t.2.1 then [((i:Int),far t b,t.2.2)]else []):=by
   rw[Ÿ,ht];have:=Js (b:=b) (t:=t) (l:=ts.take i) (k:=0);rw[þ,Ϟ ↥0,ř]at this;exact this
  have hl:=YB (b:=b) (l:=ts.take i) (k:=0);rw[þ]at hl;have hlim:((gg b 0<|ts.take i).map trV).length<lim:=by rw[Á];exact Õ (by lia:_<=16) ↥1
  rw[ř];let⟨t1,t2,t3⟩:=t;dsimp only at Ϝ hn;unfold trV;refine' fX (λhc=>?_) (λhc=>?_)
  .have e2:far (t1,t2,t3) b=t2:=gu hc;rw[gu<|.inl hc.symm,e2]at hn;fail;refine fW (gx<|by lia) ?_;refine' hK _ _ ⟨_,_,rfl,Wz x hp,?_⟩;rw[hn,Ý];exact eX
  .refine' fX (λhd=>?_) (λhd=>?_)
   .have e2:far (t1,t2,t3) b=t1:=gw hc;rw[gu<|.inr hd.symm,e2]at hn;refine' hK _ _ ⟨_,_,rfl,Wz x hp,?_⟩;rw[hn,Ý];exact eX
   .rw[gw λz=>z.elim (λe=>hc e.symm) λe=>hd e.symm,ć]at hn;refine' hK _ _ ⟨_,_,rfl,x,?_⟩;rw[hn];exact ep
 .rintro en g ⟨v3,v4,rfl,x,ep⟩;rw[Jy,Á,ü]at ep;refine' k p g hp x ep
def Oa{b:Int}(no:fw bs ts)(e:h ph=eQ (.dtp<|kd K))(k:∀g,Ext h g->Q (ZM b K ts).v g):wF P (n+2) "_law_best" [ZC bs ts,.int b,.ref ph] h Q X:=by
 have h16:=no.sixteen;have hnl:=YB (b:=b) (l:=ts) (k:=0);refine UG ?_;refine' Zk λp g1 hp x1 e1=>?_;refine' Ms no λp2 g2 dA x2 e2=>?_;have np:p≠p2:=Za e1 dA;have nh:ph≠p:=Za e hp;refine' Zp (JB bs ts b ph p p2 K h) ⟨_,_,_,_,rfl,x2.get e1,e2,x1.trans x2⟩ (λi en g _ z=>lsE z.e2) ?_ ?_
 .rintro i v en g hv ⟨v4,v5,v6,v7,rfl,e,e2,x⟩ K2 hK;let⟨t,ht,rfl⟩:=ZJ hv;have hi:i<(gg b 0 ts).length:=(Ë.mp ht).1;have et:trV t=.tup [.int t.1,.int t.2.1,.int t.2.2]:=rfl;rw[et];have hl:((Yh b K<|(gg b 0 ts).take i).map XG).length<lim:=by
   have:=Mw (b:=b) (K:=K) (l:=(gg b 0 ts).take i);rw[þ]at this;rw[Á];exact Õ (by lia:_<=16) ↥1
  have hs:=OT (b:=b) (K:=K) (l:=(gg b 0 ts).take i) (t:=t);rw[<-Zo ht]at hs;have eh:=x.get ‹h ph=eQ (.dtp<|kd K)›
  exists IF
  exists Rw eh
  rw[Ug];refine' fY (λhc=>?_) (λhc=>?_)
  .refine' fX (λhd=>?_) (λhd=>?_)
   .refine' hK _ _ ⟨_,_,_,_,rfl,?_,upd_ne' np.symm e2,Wz x hp⟩;refine eX.trans<|congrArg (λz=>eQ<|Ob.lst z) ?_;rw[hs,gu ⟨of_decide_eq_true hc,hd⟩,Ý];rfl
   .refine' hK _ _ ⟨_,_,_,_,rfl,?_,e2,x⟩;rw[hs,gw λz=>hd z.2,ć];exact e
  .walk_at "p";refine hK _ _ ⟨_,_,_,_,rfl,?_,e2,x⟩;rw[hs,gw λz=>of_decide_eq_false hc z.1,ć];exact e
 .rintro en g ⟨v4,v5,v6,v7,rfl,e,e2,x⟩;rw[Á,ü]at e;unfold ZM at k;have four:∀m∈Yh b K (gg b 0 ts),∃a c p,m=[a,c,a,p]:=λm hm=>by
   let⟨t,_,rfl⟩:=Ô.mp hm;exact⟨_,_,_,rfl⟩
  have hl:=Mw (b:=b) (K:=K) (l:=gg b 0 ts);generalize Yh b K (gg b 0 ts)=R at e k four hl;refine' Zk λp3 g3 hp3 x3 e3=>?_;refine K4 (Qq (x3.get e) e3<|all_map λm hm=>?_) ?_
  .obtain⟨a,c,p,rfl⟩:=four m hm;rfl
  fail;have e':=x3.get e;cases R with
  |nil =>refine fV rfl ?_;refine' k _ (x.trans x3)
  |cons y s =>
   refine fW rfl ?_;fail;let⟨a,c,p,hm⟩:=four _<|Wk s y;refine mnR e' rfl (OG<|y::s) ?_;rw[hm];fail;have hb:N7 b (y::s)=⟨a,c,eQ (p,(0,0))⟩:=by show(⟨(minR y s).getD 0 0,(minR y s).getD 1 0,eQ ((minR y s).getD 3 0,(0,0))⟩:Lab)=_;rw[hm];rfl
   rw[hb]at k;exact k _<|x.trans x3
end
def OV{cut:List Int}{b:Int}{l:Lab}{t:Tie}(h:rs[i]?=eQ t):Yw ts gone cut b life r l (rs.take<|i+1)=Yw ts gone cut b life r l (rs.take i)++(if ZU ts gone cut t.1=eU then [(b,t.2.1,t.1,lw life r l t.1)]else []):=by unfold Yw;rw[Zo h,ab,Ý,Ā];split<;>rfl
def Ql{b:Int}:(fy (Ze Val.int LV)<|.int b).getD (.int 0)=.int (lf LV b):=by rw[Z2];unfold lf;cases LV.lookup b<;>rfl
inductive JS (bs:List Int) (ts:List Tie) (gone cut:List Int) (st:Val) (b life r:Int) (l:Lab) (p p2:Ad) (h:Hs) (i:Nat) (en:Env) (g:Hs):Prop where
 |mk (v8 v9 v10 v11 v12:Option Val) (e:en=[eQ<|ZC bs ts,eQ st,eQ<|.int b,eQ l.v,eQ<|.int r,eQ<|.int<|ver l,eQ<|.int life,eQ<|.ref p,v8,v9,v10,v11,v12]) (e1:g p=eQ (.lst<|(Yw ts gone cut b life r l<|(gg b 0 ts).take i).map rdV)) (e2:g p2=eQ (.lst<|(gg b 0 ts).map trV)) (x:Ext h g)
def JS.e2{bs:List Int}{cut:List Int}{st:Val}{b:Int}{l:Lab}{en:Env}:JS bs ts gone cut st b life r l p p2 h i en g->g p2=eQ (.lst<|(gg b 0 ts).map trV)
 |.mk _ _ _ _ _ _ _ e _=>e
section
variable {cut:List Int}{ts:List Tie}
def At{b:Int}{l:Lab}(no:fw bs ts)(eg:h pg=eQ (.lst<|gone.map .int))(ec:h pc=eQ (.lst<|cut.map .int))(el:h pl=eQ (.dct<|Ze Val.int LV))(k:∀p g,h p=eS->Ext h g->g p=eQ (.lst<|(Yw ts gone cut b (lf LV b) r l<|gg b 0 ts).map rdV)->Q (.ref p) g):wF P (n+2) "_law_sent" [ZC bs ts,.tup [.ref pg,.ref pc,.ref pl],.int b,l.v,.int r] h Q X:=by
 have h16:=no.sixteen;have hnl:=YB (b:=b) (l:=ts) (k:=0);have vr:(if(upV l.up=.non:Prop)then(0:Int)else 1)=ver l:=by unfold ver;cases l.up<;>simp[upV]
 refine UB ?_;fail;rw[show(if(!gB (upV l.up=Val.non))=eU then(1:Int)else 0)=ver l by rw[<-vr];by_cases z:upV l.up=Val.non<;>simp[z]]
 exists M5 el rfl
 rw[Ql];refine' Zk λp g1 hp x1 e1=>?_;refine' Ms no λp2 g2 dA x2 e2=>?_;have np:p≠p2:=Za e1 dA;refine' Zp (JS bs ts gone cut (.tup [.ref pg,.ref pc,.ref pl]) b (lf LV b) r l p p2 h) ⟨_,_,_,_,_,rfl,x2.get e1,e2,x1.trans x2⟩ (λi en g _ z=>lsE z.e2) ?_ ?_
 .rintro i v en g hv ⟨v8,v9,v10,v11,v12,rfl,e,e2,x⟩ K hK;let⟨t,ht,rfl⟩:=ZJ hv;let⟨r0,r1⟩:=M7 t<|ã ht;have et:trV t=.tup [.int t.1,.int t.2.1,.int t.2.2]:=rfl;rw[et];have hl:((Yw ts gone cut b (lf LV b) r l<|(gg b 0 ts).take i).map rdV).length<lim:=by
   unfold Yw;rw[Á,Á];refine Õ (ĝ _ _) ?_;rw[þ];exact Õ (by lia:_<=16) ↥1
  have es:=OV (ts:=ts) (gone:=gone) (cut:=cut) (b:=b) (life:=lf LV b) (r:=r) (l:=l) ht
  exists Jj r0 r1 (x.get eg) (x.get ec)
  refine' fY (λhu=>?_) (λhu=>?_)
  .rw[gu hu]at es
   exists K4 (E5 _ _ _)
   refine' fY (λhc=>?_) (λhc=>?_)<;>(
     refine' hK _ _ ⟨_,_,_,_,_,rfl,?_,upd_ne' np.symm e2,Wz x hp⟩
     refine eX.trans<|congrArg (λz=>eQ<|Ob.lst z) ?_
     rw[es,Ý]
     unfold lw
     rw[hc]
     rfl)
  .rw[gw (by rw[hu];decide),ć]at es;refine' hK _ _ ⟨_,_,_,_,_,rfl,?_,e2,x⟩;rw[es];exact e
 .rintro en g ⟨v8,v9,v10,v11,v12,rfl,e,e2,x⟩;rw[Á,ü]at e;refine' k p g hp x e
end
section
variable {cut:List Int}
def EM(x:fi h Y)(no:fw Y.bs Y.ts)(es:∀p:Nat,p<Y.ts.length->Y.cc.ends p=(if ZU Y.ts gone cut p=eU then "shut" else "down",if ZU Y.ts gone cut p=eU then "shut" else "down"))(eg:h pg=eQ (.lst<|gone.map .int))(ec:h pc=eQ (.lst<|cut.map .int))(k:Q (.bl eU) h):wF P (n+6) "_law_ends" [.ref Y.y,ZC Y.bs Y.ts,.tup [.ref pg,.ref pc,.ref pl]] h Q X:=by
 have xi:=x.ins;have l16:=no.sixteen;have htl:(Y.ts.map trV).length=Y.ts.length:=Á _;refine Ub ?_
 exists fc (xs:=[.tup<|Y.bs.map .int,.tup<|Y.ts.map trV]) (v:=.tup<|Y.ts.map trV) rfl
 fail;rw[htl];refine⟨⟨by lia,by lia⟩,?_⟩;refine Zp (λi en g=>Sm2 λv3 v4=>Cj2 (en=[eQ<|.ref Y.y,eQ<|ZC Y.bs Y.ts,eQ<|.tup [.ref pg,.ref pc,.ref pl],v3,v4])<|g=h) ⟨_,_,rfl,rfl⟩ (λ_ _ _ _ _=>trivial) ?_ ?_
 .rintro i v en g hv ⟨v3,v4,rfl,rfl⟩ K hK;let⟨rfl,hi⟩:=WA hv;have ends:=es i ↥0;refine' Jj ↥0 hi eg ec ?_;refine' fY (λhc=>?_) (λhc=>?_)
  .rw[hc,gu rfl]at ends;refine' Ar x ↥0 ?_;rw[ends];refine' Nk 1 ⟨by simp,by simp[Pl]⟩ ?_;walk_at "p";exact hK _ _ ⟨_,_,rfl,rfl⟩
  .rw[hc,gw<|by decide]at ends;refine' Ar x ↥0 ?_;rw[ends];refine' Nk 1 ⟨by simp,by simp[Pl]⟩ ?_;walk_at "p";exact hK _ _ ⟨_,_,rfl,rfl⟩
 .rintro en g ⟨v3,v4,rfl,rfl⟩;refine' k
end
abbrev Nj(LV:List<|Int×Int)(b:Int):Int:=if(LV.lookup b).isSome then 0 else 1
structure S27(y pg pc pl ph pr pz:Ad)(cs bs:List Int)(ts:List Tie)(i:Nat)(g:Hs)(Z:Yd)(gone cut:List Int)(LV:List<|Int×Int)(K:List Pi):Prop where
 ya:fi g Z
 yy:Z.y=y
 hb:Z.bs=bs
 ht:Z.ts=ts
 hm:4<=Z.cc.most
 gd:Z.cc.gd i
 w:W Z.cc gone cut LV K<|Nj LV
 ri:RI Z.cc
 eg:g pg=eQ (.lst<|gone.map .int)
 ec:g pc=eQ (.lst<|cut.map .int)
 el:g pl=eQ (.dct<|Ze Val.int LV)
 eh:g ph=eQ (.dtp<|kd K)
 er:g pr=eQ (.lst<|Z.road.map rdV)
 es:g pz=eQ (.lst<|cs.map .int)
 kl:K.length<=i/\K.Nodup
 ad:∀a∈[pg,pc,pl,ph,pr,pz],a∉Z.adr
 nd:[pg,pc,pl,ph,pr,pz].Nodup
def RI.sub{D:Yc}(r:RI C)(e:D.ts=C.ts)(h:∀x∈D.road,x∈C.road):RI D:=λx hx=>by have:=r x<|h x hx;unfold Yc.tie at this ⊢;rw[e];exact this
def Hm{K:List Pi}{x:Pi}(n:K.Nodup):(Nr K x).Nodup:=by
 unfold Nr;split
 .exact n
 .exact è.mpr ⟨n,by simp,λa ha b hb z=>by rw[á.mp hb]at z;subst z;contradiction⟩
def E2{K:List Pi}{x:Pi}:(Nr K x).length<=K.length+1:=by
 unfold Nr;split
 .lia
 .rw[í];exact Ï _
section
variable {i:Nat}{cut:List Int}{ts:List Tie}{K:List Pi}
def S27.next(s:S27 y pg pc pl ph pr pz cs bs ts i g Z gone cut LV K){d:Dd}(st:step Z.cc d=eQ Z'.cc)(x1:Ex [pr] g g1)(e1:g1 pr=eQ o)(m:Mv g1 Z g2 Z')(ex:Ex [pg,pc,pl,ph] g2 g3)(w:W Z'.cc ĺ ţ ak K'<|Nj ak)(ri:RI Z'.cc)(eg:g3 pg=eQ (.lst<|ĺ.map .int))(ec:g3 pc=eQ (.lst<|ţ.map .int))(el:g3 pl=eQ (.dct<|Ze Val.int ak))(eh:g3 ph=eQ (.dtp<|kd K'))(er:g3 pr=eQ (.lst<|Z'.road.map rdV))(kl:K'.length<=i+1/\K'.Nodup):S27 y pg pc pl ph pr pz cs bs ts (i+1) g3 Z' ĺ ţ ak K':=by
 let⟨gd,b1,b2,b3⟩:=Wl s.gd st;have nd:=s.nd;simp![ó,Å,É,or_false,not_or,not_false_eq_true,ò,and_true]at nd;let⟨⟨a1,a2,a3,a4,a5⟩,⟨c1,c2,c3,c4⟩,⟨l1,l2,l3⟩,⟨h1,h2⟩,r1⟩:=nd;have off:∀{a o},a∈[pg,pc,pl,ph,pr,pz]->a≠pr->g a=eQ o->a∉Z'.adr/\g2 a=eQ o:=λha n e=>m.off (s.ad _ ha) (x1.get ⇑n e);have o1:=off (a:=pg) (by simp) a4 s.eg;have o2:=off (a:=pc) (by simp) c3 s.ec;have o3:=off (a:=pl) (by simp) l2 s.el;have o4:=off (a:=ph) (by simp) h1 s.eh;have o5:=m.off (s.ad pr<|by simp) e1;have o6:=off (a:=pz) (by simp) (Ne.symm r1) s.es;have nps:pz∉[pg,pc,pl,ph]:=by simp![Å,É,or_false,not_or];exact⟨Ne.symm a5,Ne.symm c4,Ne.symm l3,Ne.symm h2⟩
 refine⟨m.at_.keep ex λa ha z=>?_,m.y.trans s.yy,(show Z'.bs=Z.bs from b1).trans s.hb,(show Z'.ts=Z.ts from b2).trans s.ht,by rw[b3];exact s.hm,gd,w,ri,eg,ec,el,eh,er,ex.get nps o6.2,kl,λa ha=>?_,s.nd⟩
 .simp![Å,É,or_false]at z;rcases z with rfl|rfl|rfl|rfl
  .exact o1.1 ha
  .exact o2.1 ha
  .exact o3.1 ha
  .exact o4.1 ha
 .simp![Å,É,or_false]at ha;rcases ha with rfl|rfl|rfl|rfl|rfl|rfl
  .exact o1.1
  .exact o2.1
  .exact o3.1
  .exact o4.1
  .exact o5.1
  .exact o6.1
def DB(s:S27 y pg pc pl ph pr pz cs bs ts i g Z gone cut LV K)(hi:i<=6000)(Ş:0<Z.road.length)(k:∀g' Z' K',S27 y pg pc pl ph pr pz cs bs ts (i+1) g' Z' gone cut LV K'->Q .non g'):wF P (n+7) "_law_taken" [.ref y,ZC bs ts,.tup [.ref pg,.ref pc,.ref pl],.ref ph,.ref pr,.int c] g Q X:=by
 have s0:=s;let⟨ya,rfl,rfl,rfl,hm,gd,w,ri,eg,ec,el,eh,er,es,kl,ad,nd⟩:=s;simp![ó,Å,É,or_false,not_or,not_false_eq_true,ò,and_true]at nd;let⟨⟨a1,a2,a3,a4,a5⟩,⟨c1,c2,c3,c4⟩,⟨l1,l2,l3⟩,⟨h1,h2⟩,r1⟩:=nd;have nr:pr∉Z.adr:=ad pr (by simp);have hrl:(Z.road.map rdV).length=Z.road.length:=Á _;have hlen:Z.road.length<=16*i:=gd.len;have m0:=ĭ (c / 4) (show((Z.road.map rdV).length:Int)≠0 by lia);have m1:=ĳ (c / 4) (show(0:Int)<(Z.road.map rdV).length by lia);refine NH ?_;fail;generalize c / 4 % ((Z.road.map rdV).length:Int)=m at m0 m1;obtain⟨q,rfl⟩:∃q:Nat,m=q:=⟨m.toNat,by lia⟩
 have hr:=È (l:=Z.road) (i:=q) ↥0;generalize Z.road[q]'↥0=row at hr;refine CK er (by rw[Ù,hr];rfl) ↥0 ?_;rw[map_erase];have x1:Ex [pr] g<|upd g pr<|.lst<|(Z.road.eraseIdx q).map rdV:=Ex.upd (by simp);have y1:=ya.keep x1 λa ha z=>nr<|á.mp z▸ha;have e1:(upd g pr<|.lst<|(Z.road.eraseIdx q).map rdV) pr=_:=eX;generalize upd g pr (.lst<|(Z.road.eraseIdx q).map rdV)=g1 at x1 y1 e1;have xi:=y1.ins;have sub:∀x∈Z.road.eraseIdx q,x∈Z.road:=λx hx=>List.mem_of_mem_eraseIdx hx;refine' fX (λhd=>?_) (λhd=>?_)
 .obtain⟨D,st,wD,rD⟩:=w.step_lost (i:=q) hr;refine' YJ (d:=.lost q) y1 gd hi (by rw[st];rfl) λZ' g2 bu mv=>?_;have eD:D=Z'.cc:=ð<|st.symm.trans bu;subst eD;have ts':=(Wl gd bu).2.2.1;have rr:Z'.road=Z.road.eraseIdx q:=rD;fail;have off:∀{a o},a∈[pg,pc,pl,ph,pr,pz]->a≠pr->g a=eQ o->g2 a=eQ o:=λha n e=>(mv.off (ad _ ha)<|x1.get ⇑n e).2;refine k _ Z' K (s0.next bu x1 e1 mv Ex.refl wD (ri.sub ts' λx hx=>sub x<|rr▸hx) (off (by simp) a4 eg) (off (by simp) c3 ec) (off (by simp) l2 el) (off (by simp) h1 eh) (by rw[rr];exact(mv.off nr e1).2) ⟨by lia,kl.2⟩)
 .obtain⟨D,st,wD,rD⟩:=w.step_come gd ri (i:=q) hr;let⟨s1,q1,u1,u2,eR⟩:=ri row<|ã hr;refine' YJ (d:=.come q) y1 gd hi (by rw[st];rfl) λZ' g2 bu mv=>?_;have eD:D=Z'.cc:=ð<|st.symm.trans bu;subst eD;have ts':=(Wl gd bu).2.2.1;have rr:Z'.road=Z.road.eraseIdx q:=rD;have off:∀{a o},a∈[pg,pc,pl,ph,pr,pz]->a≠pr->g a=eQ o->g2 a=eQ o:=λha n e=>(mv.off (ad _ ha)<|x1.get ⇑n e).2;have dG:=off (by simp) a4 eg;have dI:=off (by simp) c3 ec;have el2:=off (by simp) l2 el;have eh2:=off (by simp) h1 eh;have er2:=(mv.off nr e1).2;have b0:=of_decide_eq_true u1;rw[eR]at wD;rw[eR];unfold rdV
  exists Jj b0.1 b0.2 dG dI
  refine' fY (λhc=>?_) (λhc=>?_)
  .change ZU Z.cc.ts gone cut q1=eU at hc;dsimp only at wD;rw[gu hc]at wD
   exists IF
   refine Qw eh2 (by unfold kd;rw[Á];exact Õ (Ö kl.1 hi)<|by decide) ?_;rw[Qd];fail;have n1:pg≠ph:=a3;have n2:pc≠ph:=c2;have n3:pl≠ph:=l1;refine k _ Z' _ (s0.next bu x1 e1 mv (Ex.upd<|by simp) wD (ri.sub ts' λx hx=>sub x<|rr▸hx) (upd_ne' n1 dG) (upd_ne' n2 dI) (upd_ne' n3 el2) eX (by rw[rr];exact upd_ne' (Ne.symm h1) er2) ⟨Ö E2 ↥0,Hm kl.2⟩)
  .change ZU Z.cc.ts gone cut q1=eV at hc;dsimp only at wD;rw[gw<|by rw[hc];decide]at wD;refine' k _ Z' K (s0.next bu x1 e1 mv Ex.refl wD (ri.sub ts' λx hx=>sub x<|rr▸hx) dG dI el2 eh2 (by rw[rr];exact er2) ⟨by lia,kl.2⟩)
end
section
variable {cut:List Int}{K:List Pi}{cnt:Int->Int}{b p:Int}
def W.can_fallB(w:W C gone cut LV K cnt)(hb:b∈C.bs)(hg:b∉gone):(step C<|.fallB b).isSome=eU:=by have hs:=w.std b;unfold Yc.std at hs;rw[gy ⟨hb,hg⟩]at hs;dsimp only[step];rw[gu hs];rfl
def W.can_backB(w:W C gone cut LV K cnt)(hb:b∈C.bs)(hg:b∈gone):(step C<|.backB b).isSome=eU:=by have hs:=w.std b;unfold Yc.std at hs;rw[gx λz=>z.2 hg]at hs;dsimp only[step];rw[gw (by rw[hs];decide),w.liv b hb];rfl
def W.can_fallT(w:W C gone cut LV K cnt)(hp:inR C.ts p=eU)(hc:p∉cut):(step C<|.fallT p).isSome=eU:=by dsimp only[step];rw[gu ⟨of_decide_eq_true hp,by rw[w.fal,gx hc]⟩];rfl
def W.can_backT(w:W C gone cut LV K cnt)(hc:p∈cut):(step C<|.backT p).isSome=eU:=by dsimp only[step];rw[gu<|by rw[w.fal,gy hc]];rfl
def TK.can{Z:Yc}{done:List Int}(k:TK C done Z)(hs:C.std b=eU):(O.step Z<|.tick b).isSome=eU:=by dsimp only[O.step];unfold Yc.std at hs;rw[Ń,k.look,Ń];exact hs
def Fp:(λc=>if c=b then 0 else Nj LV c)=Nj (Zr LV b v):=funext λc=>by
 unfold Nj;rw[MY];by_cases e:c=b
 .rw[gu e,gy e];rfl
 .rw[gw e,gx e,Bool.false_or]
def LL:(kf ts gone cut K).length<=K.length:=ĝ _ _
def Sy(w:W C gone cut LV K cnt):∀x∈K,inR C.ts x.2=eU:=λx hx=>by have:=w.hk x.1 x.2;rw[gy<|show(x.1,x.2)∈K from hx]at this;let⟨v,hv⟩:=ë.mp this;exact(w.hi x.1 x.2 v hv).1
end
def pick(r0:0<=r)(r1:r<ns.length):∃b∈ns,atI (ns.map Val.int) r=eQ (.int b):=by let⟨b,hb,hm⟩:=D3 r0 r1;exact⟨b,hm,YH r0<|by rw[Ù,hb];rfl⟩
abbrev Fg(P:Pg)(m:Nat)(bs:List Int)(ts:List Tie)(pg pc pl ph:Ad):Prop:=∀{h:Hs}{Q:Q1}{X:XQ}{gone cut:List Int}{K:List Pi},h pg=eQ (.lst<|gone.map .int)->h pc=eQ (.lst<|cut.map .int)->h ph=eQ (.dtp<|kd K)->(∀x∈K,inR ts x.2=eU)->K.Nodup->K.length<=10000->(∀g,g ph=eQ (.dtp<|kd<|kf ts gone cut K)->Ex [ph] h g->Q .non g)->wF P m "_law_forgets" [ZC bs ts,.tup [.ref pg,.ref pc,.ref pl],.ref ph] h Q X
section
variable {i:Nat}{cut:List Int}{ts:List Tie}{K:List Pi}
def WJ{at_:Int}(fo:Fg P (n+6) bs ts pg pc pl ph)(s:S27 y pg pc pl ph pr pz cs bs ts i g Z gone cut LV K)(hi:i<=6000)(a0:0<=at_)(a1:at_<bs.length+ts.length)(k:∀g' Z' ĺ ţ ak K',S27 y pg pc pl ph pr pz cs bs ts (i+1) g' Z' ĺ ţ ak K'->Q .non g'):wF P (n+7) "_law_turned" [.ref y,ZC bs ts,.tup [.ref pg,.ref pc,.ref pl],.ref ph,.int at_] g Q X:=by
 have s0:=s;let⟨ya,rfl,rfl,rfl,hm,gd,w,ri,eg,ec,el,eh,er,es,kl,ad,nd⟩:=s;simp![ó,Å,É,or_false,not_or,not_false_eq_true,ò,and_true]at nd;let⟨⟨n1,n2,n3,n4,n5⟩,⟨c1,c2,c3,c4⟩,⟨l1,l2,l3⟩,⟨h1,h2⟩,r1⟩:=nd;have e1:(Z.bs.map Val.int).length=Z.bs.length:=Á _;have kin:=Sy w;have gl:gone.length<=10:=Ö (JD w.gn w.gs) gd.no.ten;have cl:cut.length<=16:=by refine Z7 (m:=16) w.cn λx hx=>?_;have:=w.fal x;rw[gy hx]at this;let⟨v,hv⟩:=ë.mp this;have:=gd.fr _<|Zh hv;have:=gd.no.sixteen;lia
 have ll:LV.length<=10:=by
  have:=JD w.kn λx hx=>by let⟨q,hq,rfl⟩:=Ô.mp hx;exact w.ks q hq
  rw[Á]at this;exact Ö this gd.no.ten
 /- the end of each way: what falls is forgotten -/
 have fin:∀{d:Dd}{Z':Yd}{f0 g2 g3:Hs}{ĺ ţ:List Int}{ak:List (Int×Int)}{X2:XQ},Ext g f0->step Z.cc d=eQ Z'.cc->Mv f0 Z g2 Z'->Ex [pg,pc,pl] g2 g3->W Z'.cc ĺ ţ ak (kf Z.ts ĺ ţ K) (Nj ak)->Z'.road=Z.road->g3 pg=eQ (.lst<|ĺ.map .int)->g3 pc=eQ (.lst<|ţ.map .int)->g3 pl=eQ (.dct<|Ze Val.int ak)->wF P (n+6) "_law_forgets" [ZC Z.bs Z.ts,.tup [.ref pg,.ref pc,.ref pl],.ref ph] g3 (λ_ f=>Q .non f) X2:=λ{d Z' f0 g2 g3 ĺ ţ ak X2} x0 st mv ex w' rr eg' ec' el'=>by have off:∀{a o},a∈[pg,pc,pl,ph,pr,pz]->g a=eQ o->a∉Z'.adr/\g2 a=eQ o:=λha e=>mv.off (ad _ ha)<|x0.get e;have o4:=off (a:=ph) (by simp) eh;have o5:=off (a:=pr) (by simp) er;refine fo eg' ec' (ex.get (by simp![Å,É,or_false,not_or];exact⟨Ne.symm n3,Ne.symm c2,Ne.symm l1⟩) o4.2) kin kl.2 ↥0 λf ef xf=>?_;refine k f Z' ĺ ţ ak _ (s0.next st (Ex.of x0) (x0.get er) mv ((ex.sub λa ha=>by simp only[Å,É,or_false]at ha ⊢;rcases ha with h|h|h<;>simp[h]).trans<|xf.sub λa ha=>by rw[á.mp ha];simp) w' (ri.sub (Wl gd st).2.2.1 λx hx=>by have hx:x∈Z'.road:=hx;rw[rr]at hx;exact hx) (xf.get ⇑n3 eg') (xf.get ⇑c2 ec') (xf.get ⇑l1 el') ef ?_ ⟨Ö LL ↥0,kl.2.sublist ě⟩);rw[rr];exact xf.get (by simpa using Ne.symm h1) (ex.get (by simp![Å,É,or_false,not_or];exact⟨Ne.symm n4,Ne.symm c3,Ne.symm l2⟩) o5.2)
 have YV:∀{Z':Yd}{f0 g2:Hs},Ext g f0->Mv f0 Z g2 Z'->g2 pg=eQ (.lst<|gone.map .int)/\g2 pc=eQ (.lst<|cut.map .int)/\g2 pl=eQ (.dct<|Ze Val.int LV):=λx0 mv=>⟨(mv.off (ad pg<|by simp)<|x0.get eg).2,(mv.off (ad pc<|by simp)<|x0.get ec).2,(mv.off (ad pl<|by simp)<|x0.get el).2⟩
 refine Ni ?_;unfold ZC;fail;rw[e1];have xi:=ya.ins;refine fX (λhs=>?_) λhs=>?_
 .fail;let⟨b,hb,eb⟩:=pick a0 hs;refine fc eb ?_;refine' Zk λp f0 hp x0 e=>?_
  exists JE (x0.get eg)
  fail;have xi:=(ya.ext x0).ins;by_cases hg:b∈gone
  .rw[gy hg];refine Zf (v:=.str "back") e rfl ?_;refine' YJ (d:=.backB b) (ya.ext x0) gd hi (w.can_backB hb hg) λZ' g2 st mv=>?_;let⟨_,w',rr⟩:=w.step_backB gd hb st;rw[Fp (v:=lf LV b+1)]at w';let⟨dG,dI,el2⟩:=YV x0 mv
   exists JE dG
   fail;refine fV (gy hg) ?_
   exists NM dG hg
   have el3:upd g2 pg (.lst<|(gone.erase b).map .int) pl=_:=upd_ne' (Ne.symm n2) el2
   exists M5 el3 rfl
   rw[Ql];refine' Yk (k:=.int b) el3 ⟨rfl,by rw[JK];exact Õ ll<|by decide⟩ ?_;rw[ZZ];refine' fin x0 st mv ((Ex.upd<|by simp).trans<|Ex.upd<|by simp) w' rr (upd_ne' n2 eX) (upd_ne' c1<|upd_ne' (Ne.symm n1) dI) eX
  .rw[gx hg];refine Zf (v:=.str "fall") e rfl ?_;refine' YJ (d:=.fallB b) (ya.ext x0) gd hi (w.can_fallB hb hg) λZ' g2 st mv=>?_;let⟨_,w',rr⟩:=w.step_fallB gd hb st;let⟨dG,dI,el2⟩:=YV x0 mv
   exists JE dG
   fail;refine fW (gx hg) ?_;refine' Z3 dG (by rw[Á];exact Õ gl<|by decide) ?_;refine' fin x0 st mv (Ex.upd<|by simp) w' rr (by rw[Ý];exact eX) (upd_ne' (Ne.symm n1) dI) (upd_ne' (Ne.symm n2) el2)
 .fail;have hp:inR Z.cc.ts (at_ - Z.bs.length)=eU:=gy ⟨by lia,by show _<(Z.ts.length:Int);lia⟩;generalize at_ - (Z.bs.length:Int)=t at hp;refine Zk λp f0 hp0 x0 e=>?_
  exists JE (x0.get ec)
  fail;have xi:=(ya.ext x0).ins;by_cases hc:t∈cut
  .rw[gy hc];refine Zf (v:=.str "back") e rfl ?_;refine' YJ (d:=.backT t) (ya.ext x0) gd hi (w.can_backT hc) λZ' g2 st mv=>?_;let⟨_,w',rr⟩:=w.step_backT gd hp st;let⟨dG,dI,el2⟩:=YV x0 mv
   exists JE dI
   fail;refine fV (gy hc) ?_
   exists NM dI hc
   refine' fin x0 st mv (Ex.upd<|by simp) w' rr (upd_ne' n1 dG) eX (upd_ne' (Ne.symm c1) el2)
  .rw[gx hc];refine Zf (v:=.str "fall") e rfl ?_;refine' YJ (d:=.fallT t) (ya.ext x0) gd hi (w.can_fallT hp hc) λZ' g2 st mv=>?_;let⟨_,w',rr⟩:=w.step_fallT gd hp st;let⟨dG,dI,el2⟩:=YV x0 mv
   exists JE dI
   fail;refine fW (gx hc) ?_;refine' Z3 dI (by rw[Á];exact Õ cl<|by decide) ?_;refine' fin x0 st mv (Ex.upd<|by simp) w' rr (upd_ne' n1 dG) (by rw[Ý];exact eX) (upd_ne' (Ne.symm c1) el2)
end
def WD{d:Nat}(p:Pi):Pl (d+1)<|pV p:=⟨by simp,λv hv=>by simp![Å,É,or_false]at hv;rcases hv with rfl|rfl<;>(cases d<;>trivial)⟩
def CL{d:Nat}:∀o:Option Pi,Pl (d+1) (oV o)
 |none=>trivial
 |some p=>WD p
def IQ(r:Int×Int×Int×L):Pl 3<|rdV r:=by
 refine⟨by simp,λv hv=>?_⟩;simp![Å,É,or_false]at hv;rcases hv with rfl|rfl|rfl|rfl
 .trivial
 .trivial
 .trivial
 .refine⟨by simp,λv hv=>?_⟩;simp![Å,É,or_false]at hv;rcases hv with rfl|rfl|rfl|rfl|rfl|rfl|rfl
  .exact WD _
  .exact WD _
  .trivial
  .trivial
  .trivial
  .exact CL _
  .exact CL _
def LK{d:Nat}(l:Lab):Pl (d+2) l.v:=by
 refine⟨by simp,λv hv=>?_⟩;simp![Å,É,or_false]at hv;rcases hv with rfl|rfl|rfl|rfl
 .trivial
 .trivial
 .cases l.up<;>trivial
 .cases l.up with
  |none=>trivial
  |some q=>exact WD q.2
section
variable {i:Nat}{b:Int}
def DH(x:fi g Z)(gd:Z.cc.gd i)(hi:i<=6000)(t:TK C done Z.cc)(hn:b∉done)(hs:C.std b=eU)(k:∀Z' g',TK C (done++[b]) Z'.cc->Z'.cc.gd (i+1)->Mv g Z g' Z'->Q .non g'):wF P (n+6) "Yard.deed" [.ref Z.y,.tup [.str "tick",.int b]] g Q X :=
 YJ (d:=.tick b) x gd hi (t.can hs) λZ' g' st mv=>k Z' g' (t.step hn hs st) (Wl gd st).1 mv
end
def M2{b p:Int}:∀{K:List Pi},(b,p)∈K->fy (kd K) (.key b p)=eQ (.bl eU)
 |[],h=>by cases h
 |x::K,h=>by
  unfold fy kd;rw[Ñ,ę,MK];by_cases e:(x.1,x.2)=(b,p)
  .rw[gy e];rfl
  .rw[gx e];exact M2 (K:=K)<|(Å.mp h).resolve_left λz=>e z.symm
abbrev fdK(f:Pi->Bool)(K:List Pi)(i:Nat):List Pi:=K.filter λx=>f x||gB (x∈K.drop i)
def GL{f:Pi->Bool}{K:List Pi}:fdK f K 0=K:=ϴ.mpr λx hx=>by rw[List.drop_zero,gy hx,Bool.or_true]
def LP{f:Pi->Bool}{K:List Pi}:fdK f K K.length=K.filter f:=Υ λx _=>by rw[List.drop_length,gx É,Χ]
def W7{K:List Pi}{x:Pi}(hx:K[i]?=eQ x):K.drop i=x::K.drop (i+1):=by let⟨h,rfl⟩:=Ë.mp hx;exact Ŭ h
def Ik{f:Pi->Bool}{K:List Pi}{x:Pi}(hx:K[i]?=eQ x):x∈fdK f K i:=ï.mpr ⟨ã hx,by rw[W7 hx,gy å,Bool.or_true]⟩
def Fm{f:Pi->Bool}{K:List Pi}{x:Pi}(hx:K[i]?=eQ x)(h:f x=eU):fdK f K (i+1)=fdK f K i:=Υ λy _=>by
 rw[W7 hx];by_cases e:y=x
 .subst e;rw[h,ca,ca]
 .rw[decide_eq_decide.mpr<|show y∈K.drop (i+1)↔y∈x::K.drop (i+1) by rw[Å];exact⟨.inr,λz=>z.resolve_left e⟩]
def Pz{f:Pi->Bool}{K:List Pi}{x:Pi}(n:K.Nodup)(hx:K[i]?=eQ x)(h:f x=eV):fdK f K (i+1)=(fdK f K i).filter λy=>!gB (y=x):=by
 unfold fdK;rw[List.filter_filter];refine Υ λy _=>?_;have nd:(x::K.drop (i+1)).Nodup:=W7 hx▸n.sublist (List.drop_sublist i K);rw[W7 hx];by_cases e:y=x
 .subst e;rw[h,gx (ó.mp nd).1,gy rfl];rfl
 .rw[gx e,decide_eq_decide.mpr<|show y∈x::K.drop (i+1)↔y∈K.drop (i+1) by rw[Å];exact⟨λz=>z.resolve_left e,.inr⟩];rfl
section
variable {ts:List Tie}
def X1:Fg P (n+2) bs ts pg pc pl ph:=λ{h Q X gone cut K} eg ec eh hin kN hl k=>by
 refine Kw ?_
 exists LO eh
 rw[show((kd K).map λp=>tupK p.1)=K.map pV by unfold kd;rw[õ];rfl];refine Zk λp g1 hp x1 e1=>?_;have np:p≠ph:=λz=>Za eh hp z.symm;have ng:pg≠ph:=λz=>by rw[z,eh]at eg;cases eg
 have nc:pc≠ph:=λz=>by rw[z,eh]at ec;cases ec
 refine' Zp (λi en g=>Sm2 λv3 v4=>Cj4 (en=[eQ<|ZC bs ts,eQ<|.tup [.ref pg,.ref pc,.ref pl],eQ<|.ref ph,v3,v4]) (g p=eQ (.lst<|K.map pV)) (g ph=eQ (.dtp<|kd<|fdK (λx=>!gB (x.1∈gone)&&ZU ts gone cut x.2) K i))<|Ex [ph] h g) ⟨_,_,rfl,e1,by rw[GL];exact x1.get eh,Ex.of x1⟩ (λi en g _ z=>by let⟨_,_,_,e,_⟩:=z;exact lsE e) ?_ ?_
 .rintro i v en g hv ⟨v3,v4,rfl,ep,ed,x⟩ K1 hK;let⟨q,hq,rfl⟩:=ZJ hv;have hin1:=hin q<|ã hq;have hr:0<=q.2/\q.2<ts.length:=by unfold inR at hin1;simpa using hin1
  have pop:(!gB (q.1∈gone)&&ZU ts gone cut q.2)=eV->∃v3 v4,[eQ<|ZC bs ts,eQ<|.tup [.ref pg,.ref pc,.ref pl],eQ<|.ref ph,eQ<|.int q.1,eQ<|.int q.2]=[eQ<|ZC bs ts,eQ<|.tup [.ref pg,.ref pc,.ref pl],eQ<|.ref ph,v3,v4]/\upd g ph (.dtp<|fB (kd<|fdK (λx=>!gB (x.1∈gone)&&ZU ts gone cut x.2) K i)<|.key q.1 q.2) p=eQ (.lst<|K.map pV)/\upd g ph (.dtp<|fB (kd<|fdK (λx=>!gB (x.1∈gone)&&ZU ts gone cut x.2) K i)<|.key q.1 q.2) ph=eQ (.dtp<|kd<|fdK (λx=>!gB (x.1∈gone)&&ZU ts gone cut x.2) K<|i+1)/\Ex [ph] h (upd g ph<|.dtp<|fB (kd<|fdK (λx=>!gB (x.1∈gone)&&ZU ts gone cut x.2) K i)<|.key q.1 q.2):=λhf=>⟨_,_,rfl,(eW np).trans ep,by rw[eX,Pz kN hq hf,GJ],x.trans<|Ex.upd<|by simp⟩
  have eg1:=x.get (a:=pg) ⇑ng eg;have ec1:=x.get (a:=pc) ⇑nc ec
  exists JE eg1
  refine' fY (λhc=>?_) (λhc=>?_)
  .walk_at "p";refine⟨by unfold bmTy;rw[show Bm.dpopT.ty=.d from rfl];simp[Wa,ed,isDct],?_⟩;refine' fb (show pairI _=eQ (q.1,q.2) from rfl) ?_
   exists Ap ed (M2<|Ik hq)
   fail;let⟨_,_,_,p1,p2,p3⟩:=pop (by rw[hc];rfl);exact hK _ _ ⟨_,_,rfl,p1,p2,p3⟩
  .exists Jj hr.1 hr.2 eg1 ec1
   fail;by_cases hu:ZU ts gone cut q.2=eU
   .rw[hu];walk_at "p";exact hK _ _ ⟨_,_,rfl,ep,by rw[Fm hq<|by show(!gB (q.1∈gone)&&ZU ts gone cut q.2)=eU;rw[hc,hu];rfl];exact ed,x⟩
   .have hu:=eJ.mpr hu;rw[hu];walk_at "p";refine⟨by unfold bmTy;rw[show Bm.dpopT.ty=.d from rfl];simp[Wa,ed,isDct],?_⟩;refine' fb (show pairI _=eQ (q.1,q.2) from rfl) ?_
    exists Ap ed (M2<|Ik hq)
    fail;let⟨_,_,_,p1,p2,p3⟩:=pop (by rw[hu,Bool.and_false]);exact hK _ _ ⟨_,_,rfl,p1,p2,p3⟩
 .rintro en g ⟨v3,v4,rfl,ep,ed,x⟩;rw[Á,LP]at ed;exact k g ed x
end
def L8{st:Hs->Prop}{step:Val->Hs->(Option Val->Hs->Prop)->XQ->Prop}{Q:List Val->Hs->Prop}{f:α->Val}{l:List α}(p:α->Bool)(v:α->Val)(θ:st h)(go:∀x∈l,∀K,(p x=eU->K (eQ<|v x) h)->(p x=eV->K eS h)->step (f x) h K X)(fin:Q ((l.filter p).map v) h):wComp st step (l.map f) [] h Q X:=by
 refine WE (λi ys g=>g=h/\ys=((l.take i).filter p).map v) ⟨rfl,rfl⟩ (λ_ _ _ _ z=>z.1▸θ) ?_ ?_
 .rintro i u ys g hv ⟨rfl,rfl⟩ K hK;let⟨x,hx,rfl⟩:=ZJ hv;rw[Zo hx,ab,Ā,List.filter_nil]at hK;exact go x (ã hx) K (λe=>hK _ _ ⟨rfl,by rw[e,gu rfl,Ý];rfl⟩) λe=>hK _ _ ⟨rfl,by rw[e,gw ↥1,ć,Option.toList_none,ć]⟩
 .rintro ys g ⟨rfl,rfl⟩;rw[Á,ü];exact fin
structure TL(C:Yc)(us gone cut:List Int)(LV:List<|Int×Int)(K:List Pi)(y pg pc pl ph:Ad)(N i:Nat)(pr:Ad)(g:Hs)(Z:Yd):Prop where
 ya:fi g Z
 yy:Z.y=y
 tk:TK C (us.take i) Z.cc
 gd:Z.cc.gd<|N+i
 eg:g pg=eQ (.lst<|gone.map .int)
 ec:g pc=eQ (.lst<|cut.map .int)
 el:g pl=eQ (.dct<|Ze Val.int LV)
 eh:g ph=eQ (.dtp<|kd K)
 er:g pr=eQ (.lst<|Z.road.map rdV)
 ad:∀a∈[pg,pc,pl,ph,pr],a∉Z.adr
section
variable {g:Hs}{i N:Nat}{y:Ad}{us cut:List Int}{K:List Pi}{cnt:Int->Int}{b:Int}
def TL.next(s:TL C us gone cut LV K y pg pc pl ph N i pr g Z)(hb:us[i]?=eQ b)(t:TK C (us.take i++[b]) Z'.cc)(gd:Z'.cc.gd<|N+i+1)(m:Mv g Z g' Z')(x:Ext g' g6)(hp:g' p6=eS)(e6:g6 p6=eQ (.lst<|Z.road.map rdV++(ZK C.ts b (C.at_ b).told).map rdV)):TL C us gone cut LV K y pg pc pl ph N (i+1) p6 g6 Z':=by
 have rd:Z'.road=Z.road++ZK C.ts b (C.at_ b).told:=by have h1:Z'.road=C.road++(us.take i++[b]).flatMap _:=t.road;have h2:Z.road=C.road++(us.take i).flatMap _:=s.tk.road;rw[h1,h2,ο,Ĝ];simp
 refine⟨m.at_.ext x,m.y.trans s.yy,by rw[Zo hb];exact t,gd,x.get (m.off (s.ad pg<|by simp) s.eg).2,x.get (m.off (s.ad pc<|by simp) s.ec).2,x.get (m.off (s.ad pl<|by simp) s.el).2,x.get (m.off (s.ad ph<|by simp) s.eh).2,by rw[rd,Ý];exact e6,λa ha=>?_⟩;simp![Å,É,or_false]at ha;rcases ha with rfl|rfl|rfl|rfl|rfl
 .exact(m.off (s.ad _<|by simp) s.eg).1
 .exact(m.off (s.ad _<|by simp) s.ec).1
 .exact(m.off (s.ad _<|by simp) s.el).1
 .exact(m.off (s.ad _<|by simp) s.eh).1
 .exact λz=>m.at_.taken z hp
def S27.ext{pz:Ad}{cs bs:List Int}(s:S27 y pg pc pl ph pr pz cs bs ts i g Z gone cut LV K){f:Hs}(x:Ext g f):S27 y pg pc pl ph pr pz cs bs ts i f Z gone cut LV K:=⟨s.ya.ext x,s.yy,s.hb,s.ht,s.hm,s.gd,s.w,s.ri,x.get s.eg,x.get s.ec,x.get s.el,x.get s.eh,x.get s.er,x.get s.es,s.kl,s.ad,s.nd⟩
abbrev tl:Nat->Ss->Ss
 |0,s=>s
 |k+1,.cons _ r=>tl k r
 |_+1,.nil=>.nil
def Qa{l:Lab}:(if(!gB (upV l.up=Val.non))=eU then(1:Int)else 0)=ver l:=by unfold ver;cases l.up<;>simp[upV]
def Ha{xs:List Val}{x:Val}:atI (xs++[x]) (-1)=eQ x:=by unfold atI ixN;rw[gw ↥1,gu (by rw[í,ϝ];lia),î,í,ϝ,show(-1+((xs.length+1:Nat):Int)).toNat=xs.length by lia,ċ<|Ï _,Nat.sub_self];rfl
end
def law_ok(h63:ns.length<=63)(k:∀g,Q (.bl eU) g):wF P (n+8) "law" [.scr ns] h Q X:=by
 refine R7 ?_;refine' Jm (k:=0) λc0=>?_;refine' Jm (k:=1) λc1=>?_;refine' Lo λbs ts g1 no x1=>?_;refine' Jm (k:=0) λc2=>?_;refine' NI λmost g2 m1 m2 x2=>?_;fail;intro y hy;refine Cz no hy λY g3 ey y3 ec fr x3=>?_;refine⟨rfl,?_⟩;subst ey;have hb:Y.bs=bs:=congrArg Yc.bs ec;have ht:Y.ts=ts:=congrArg Yc.ts ec;have hm:Y.cc.most=most:=congrArg Yc.most ec;have hr:Y.road=[]:=congrArg Yc.road ec;have w0:W Y.cc [] [] [] [] λ_=>0:=ec▸Pr no;have gd0:Y.cc.gd 0:=ec▸Fy no;have m4:4<=Y.cc.most:=by rw[hm];exact m1
 refine' Zk λpg g4 hpg x4 eg=>?_;refine' Zk λpc g5 hpc x5 ec_=>?_;fail;intro pl hpl;have x6:Ext g5<|upd g5 pl<|.dct []:=Ext.new hpl;have el:upd g5 pl (.dct []) pl=eQ (.dct<|Ze Val.int []):=eX;generalize upd g5 pl (.dct [])=g6 at x6 el;refine' Zk λph g7 hph x7 eh=>?_;refine' Zk λpr g8 hpr x8 er=>?_;have dn:∀{a b:Ad}{o:Ob}{q:Hs},q a=eQ o->q b=eS->a≠b:=λe1 e2 z=>by rw[z,e2]at e1;cases e1
 have xx:Ext g3 g8:=(((x4.trans x5).trans x6).trans x7).trans x8;have f4:∀{q:Hs}{a:Ad},Ext g3 q->q a=eS->a∉Y.adr:=λx e z=>(y3.ext x).taken z e;have eg5:=x5.get eg;have eg6:=x6.get eg5;have eg7:=x7.get eg6;have ec6:=x6.get ec_;have ec7:=x7.get ec6;have el7:=x7.get el;have nd5:[pg,pc,pl,ph,pr].Nodup:=by simp[dn eg hpc,dn eg5 hpl,dn eg6 hph,dn eg7 hpr,dn ec_ hpl,dn ec6 hph,dn ec7 hpr,dn el hph,dn el7 hpr,dn eh hpr]
 have s0:TL Y.cc bs [] [] [] [] Y.y pg pc pl ph 0 0 pr g8 Y:=by
  refine⟨y3.ext xx,rfl,TK.nil,gd0,x8.get eg7,x8.get ec7,x8.get el7,x8.get eh,by rw[hr];exact er,λa ha=>?_⟩;simp![Å,É,or_false]at ha;rcases ha with rfl|rfl|rfl|rfl|rfl
  .exact f4 .refl hpg
  .exact f4 x4 hpc
  .exact f4 (x4.trans x5) hpl
  .exact f4 ((x4.trans x5).trans x6) hph
  .exact f4 (((x4.trans x5).trans x6).trans x7) hpr
 have ndb:bs.Nodup:=no.up.imp λz=>by lia
 have b10:bs.length<=10:=no.ten;clear f4 eg5 eg6 eg7 ec6 ec7 el7
 exists fc (xs:=[.tup<|bs.map .int,.tup<|ts.map trV]) (v:=.tup<|bs.map .int) rfl
 refine' Zp (λi en g=>Sm3 λpr v6 Z=>Cj3 (en=[eQ<|.scr ns,eQ<|ZC bs ts,eQ<|.ref Y.y,eQ<|.tup [.ref pg,.ref pc,.ref pl],eQ<|.ref ph,eQ<|.ref pr,v6,eS,eS,eS,eS,eS]) (TL Y.cc bs [] [] [] [] Y.y pg pc pl ph 0 i pr g Z)<|[pg,pc,pl,ph,pr].Nodup) ⟨_,_,Y,rfl,s0,nd5⟩ (λ_ _ _ _ _=>trivial) ?_ ?_
 .rintro i v en g hv ⟨pr,v6,Z,rfl,s,nd⟩ K hK;let⟨b,dD,rfl⟩:=ZJ hv;have hi:i<bs.length:=(Ë.mp dD).1;have hbm:b∈Y.cc.bs:=by show b∈Y.bs;rw[hb];exact ã dD
  let⟨_,_,hB,_⟩:=w0.at_ gd0 hbm É;have hs:Y.cc.std b=eU:=by unfold Yc.std;rw[hB];rfl
  have hn:b∉bs.take i:=λz=>by
   let⟨j,hj,e⟩:=Ξ.mp z;have h2:bs[i]?=bs[j]?:=by rw[dD,È ↥0,e]
   have:=(eP hi ndb).mp h2;lia
  have xi:=s.ya.ins;rw[s.yy]at xi;fail;rw[<-s.yy];refine DH s.ya s.gd ↥0 s.tk hn hs λZ' g' t gd m=>?_;have eg':=(m.off (s.ad pg<|by simp) s.eg).2;have ec':=(m.off (s.ad pc<|by simp) s.ec).2;have el':=(m.off (s.ad pl<|by simp) s.el).2;have er':=(m.off (s.ad pr<|by simp) s.er).2;refine' At (b:=b) (r:=0) (l:=⟨b,0,eS⟩) no eg' ec' el' λp5 g5 hp5 x5 e5=>?_;fail;have h16:ts.length<=16:=no.sixteen;have hlen:Z.road.length<=16*(0+i):=s.gd.len;have hsl:(Yw ts [] [] b (lf [] b) 0 ⟨b,0,eS⟩<|gg b 0 ts).length<=16:=by unfold Yw;rw[Á];exact Ö (ĝ _ _)<|Ö YB h16
  refine UD (x5.get er') e5 (by rw[í,Á,Á];exact Ö (by lia:_<=2000)<|by decide)<|Zk λp6 g6 hp6 x6 e6=>?_;have snt:=w0.sent gd0 ↥0 hbm É;rw[MX,show Y.cc.ts=ts from ht]at snt;have hp6':g' p6=eS:=Yb x5 hp6;have nq:∀{a o},g' a=eQ o->a≠p6:=λe z=>by rw[z,hp6']at e;cases e
  refine' hK _ _ ⟨p6,_,Z',by rw[s.yy],s.next dD t gd m (x5.trans x6) hp6' (by rw[show Y.cc.ts=ts from ht,snt];exact e6),?_⟩;simp only[ó,Å,É,or_false,not_or,not_false_eq_true,ò,and_true]at nd ⊢;exact⟨⟨nd.1.1,nd.1.2.1,nd.1.2.2.1,nq eg'⟩,⟨nd.2.1.1,nd.2.1.2.1,nq ec'⟩,⟨nd.2.2.1.1,nq el'⟩,nq (m.off (s.ad ph<|by simp) s.eh).2⟩
 rintro en g ⟨pr,v6,Z,rfl,s,nd⟩;have tk:=s.tk;have gd:=s.gd;rw[Á,ř]at gd;rw[Á,ü]at tk;have w1:=w0.first gd0 ↥0 (by rw[show Y.cc.bs=bs from hb];exact tk);have ri1:=w0.first_road gd0 ↥0 hr (by rw[show Y.cc.bs=bs from hb];exact tk);refine' Zk λpz g9 hpz x9 es=>?_;rw[Kp]at es;have aG:(cut ns (eQ 2)<|eQ 82).length<=80:=by rw[UK ↥1 ↥1,þ];exact Nat.min_le_left _ _
 generalize cut ns (eQ 2) (eQ 82)=cs at es aG;have s1:S27 Y.y pg pc pl ph pr pz cs bs ts bs.length g9 Z [] [] [] []:=by
  refine⟨s.ya.ext x9,s.yy,tk.bs.trans hb,tk.ts.trans ht,by rw[tk.most];exact m4,gd,w1,ri1,x9.get s.eg,x9.get s.ec,x9.get s.el,x9.get s.eh,x9.get s.er,es,⟨ģ _,ò⟩,λa ha=>?_,?_⟩
  .by_cases z:a=pz
   .subst z;exact λz=>s.ya.taken z hpz
   .refine s.ad a ?_;simp only[Å,É,or_false]at ha ⊢;rcases ha with h|h|h|h|h|h
    .exact .inl h
    .exact .inr<|.inl h
    .exact .inr<|.inr<|.inl h
    .exact .inr<|.inr<|.inr<|.inl h
    .exact .inr<|.inr<|.inr<|.inr h
    .exact gA h z
  .have nq:∀{a o},g a=eQ o->a≠pz:=λe z=>by rw[z,hpz]at e;cases e
   simp only[ó,Å,É,or_false,not_or,not_false_eq_true,ò,and_true]at nd ⊢;exact⟨⟨nd.1.1,nd.1.2.1,nd.1.2.2.1,nd.1.2.2.2,nq s.eg⟩,⟨nd.2.1.1,nd.2.1.2.1,nd.2.1.2.2,nq s.ec⟩,⟨nd.2.2.1.1,nd.2.2.1.2,nq s.el⟩,⟨nd.2.2.2,nq s.eh⟩,nq s.er⟩
 refine' Zp (λi en g=>∃v6 v7 Z gone cut LV K,en=[eQ<|.scr ns,eQ<|ZC bs ts,eQ<|.ref Y.y,eQ<|.tup [.ref pg,.ref pc,.ref pl],eQ<|.ref ph,eQ<|.ref pr,v6,v7,eS,eS,eS,eS]/\S27 Y.y pg pc pl ph pr pz cs bs ts (bs.length+i) g Z gone cut LV K) ⟨_,_,Z,[],[],[],[],rfl,s1⟩ (λi en g _ z=>by let⟨_,_,_,_,_,_,_,_,s⟩:=z;exact lsE s.es) ?_ ?_
 .rintro i v en g hv ⟨v6,v7,Z,gone,cut,LV,K,rfl,s⟩ K1 hK;let⟨c,hc,rfl⟩:=ZJ hv;have hi:i<cs.length:=(Ë.mp hc).1;have b1:=no.one;have hL:(bs.map Val.int).length=bs.length:=Á _;have hT:(ts.map trV).length=ts.length:=Á _;have a0:0<=c / 4 % ((bs.map Val.int).length+(ts.map trV).length:Int):=ĭ _ ↥0;have a1:c / 4 % ((bs.map Val.int).length+(ts.map trV).length:Int)<bs.length+ts.length:=by
   have:=ĳ (c / 4) (show(0:Int)<((bs.map Val.int).length+(ts.map trV).length:Int) by lia);rw[hL,hT]at this ⊢;exact this
  have turn:∀{R:Hs->Prop}{v6 v7:Option Val},(∀g' Z' ĺ ţ ak K',S27 Y.y pg pc pl ph pr pz cs bs ts (bs.length+i+1) g' Z' ĺ ţ ak K'->R g')->wF P (n+7) "_law_turned" [.ref Y.y,ZC bs ts,.tup [.ref pg,.ref pc,.ref pl],.ref ph,.int<|c / 4 % ((bs.map Val.int).length+(ts.map trV).length:Int)] g (λ_ g=>R g) X:=λhR=>WJ (X1 (n:=n+4)) s ↥0 a0 a1 λg' Z' ĺ ţ ak K' s'=>hR g' Z' ĺ ţ ak K' s';refine' fY (λh3=>?_) (λh3=>?_)
  .walk_at "p";refine fc (xs:=[.tup<|bs.map .int,.tup<|ts.map trV]) (v:=.tup<|bs.map .int) rfl ?_
   exists fc (xs:=[.tup<|bs.map .int,.tup<|ts.map trV]) (v:=.tup<|ts.map trV) rfl
   refine' WJ (X1 (n:=n+4)) s ↥0 a0 a1 λg' Z' ĺ ţ ak K' s'=>?_;refine' hK _ _ ⟨_,_,Z',ĺ,ţ,ak,K',rfl,s'⟩
  .walk_at "p";refine Zk λp2 g2 dA x2 e2=>?_
   exists c_eqE (x2.get s.er) e2
   fail;have s2:=s.ext x2;refine fY (λhe=>?_) λhe=>?_
   .walk_at "p";refine fc (xs:=[.tup<|bs.map .int,.tup<|ts.map trV]) (v:=.tup<|bs.map .int) rfl ?_
    exists fc (xs:=[.tup<|bs.map .int,.tup<|ts.map trV]) (v:=.tup<|ts.map trV) rfl
    refine' WJ (X1 (n:=n+4)) s2 ↥0 a0 a1 λg' Z' ĺ ţ ak K' s'=>?_;refine' hK _ _ ⟨_,_,Z',ĺ,ţ,ak,K',rfl,s'⟩
   .walk_at "p";have Ş:0<Z.road.length:=by
     cases z:Z.road with
     |nil=>rw[z]at he;cases he
     |cons _ _=>exact Nat.succ_pos _
    refine DB s2 ↥0 Ş λg' Z' K' s'=>?_;refine' hK _ _ ⟨_,_,Z',gone,cut,LV,K',rfl,s'⟩
 rintro en g ⟨v6,v7,Z,gone,cut,LV,K,rfl,s⟩;rw[Á]at s
 exists fc (xs:=[.tup<|bs.map .int,.tup<|ts.map trV]) (v:=.tup<|bs.map .int) rfl
 refine' ⟨Õ (by rw[Á];exact b10) ↥1,L8 (λb=>!gB (b∈gone)) Val.int trivial (λb hb K1 k1 k2=>?_) ?_⟩
 .exists AD s.eg
  refine' fY (λhc=>?_) (λhc=>?_)
  .refine' k1 hc
  .exact k2 hc
 refine Zk λpu g1 hpu x1 eu=>?_;refine' Zk λpq g2 hpq x2 eq=>?_;refine' Zk λps g3 hps x3 es3=>?_;fail;obtain⟨us,hU⟩:∃us,us=ups bs gone:=⟨_,rfl⟩
 rw[show bs.filter (λb=>!gB (b∈gone))=us from hU.symm]at eu ⊢;have us10:us.length<=10:=by rw[hU];exact Ö (ĝ _ _) b10
 have uin:∀b∈us,b∈bs/\b∉gone:=λb hb=>by rw[hU]at hb;let⟨h1,h2⟩:=ï.mp hb;exact⟨h1,⇑h2⟩
 have und:us.Nodup:=by rw[hU];exact ndb.sublist ě
 have xl:=(x1.trans x2).trans x3;have sl:=s.ext xl;have npu:pu≠pq:=λz=>Za eu hpq z;have nps:pu≠ps:=λz=>Za (x2.get eu) hps z;have nqs:pq≠ps:=λz=>Za eq hps z;have eu3:=x3.get<|x2.get eu;have eq3:=x3.get eq;have fr:∀{a o},g a=eQ o->a∉[pq,ps]:=λ{a o} e z=>by
  simp![Å,É,or_false]at z;rcases z with z|z
  .exact Za (x1.get e) hpq z
  .exact Za ((x1.trans x2).get e) hps z
 refine Zp (λi en f=>∃v6,en=[eQ<|.scr ns,eQ<|ZC bs ts,eQ<|.ref Y.y,eQ<|.tup [.ref pg,.ref pc,.ref pl],eQ<|.ref ph,eQ<|.ref pr,v6,v7,eQ<|.ref pu,eQ<|.ref pq,eQ<|.ref ps,eS]/\f pq=eQ (.lst<|(us.take i).map λb=>.tup [.int b,(ZM b K ts).v])/\f ps=eQ (.lst<|(us.take i).map λb=>.tup [.int b,pV (lf LV b,ver<|ZM b K ts)])/\Ex [pq,ps] g3 f) ⟨_,rfl,eq3,es3,Ex.refl⟩ (λi en f _ z=>by let⟨_,_,_,_,x⟩:=z;exact lsE<|x.get (by simp[npu,nps]) eu3) ?_ ?_
 .rintro i v en f hv ⟨v6,rfl,e9,e10,x⟩ K1 hK;let⟨b,dD,rfl⟩:=ZJ hv;have hi:i<us.length:=(Ë.mp dD).1;have tl:(us.take i).length<=10:=by rw[þ];lia
  have hh:∀{a o},g a=eQ o->f a=eQ o:=λe=>x.get (fr e)<|xl.get e;refine' Oa no (hh s.eh) λf1 y1=>?_;refine' Z3 (y1.get e9) (by rw[Á];exact Õ tl<|by decide) ?_;dsimp only;have el1:=y1.get<|hh s.el;have nlq:pl≠pq:=λz=>fr s.el (by simp[z])
  exists M5 (upd_ne' nlq el1) rfl
  rw[Ql]
  exists Zf eX Ha
  fail;rw[Qa];refine Z3 (upd_ne' nqs.symm<|y1.get e10) (by rw[Á];exact Õ tl<|by decide) ?_;dsimp only;refine' hK _ _ ⟨_,rfl,(eW nqs).trans<|eX.trans ?_,eX.trans ?_,(x.trans<|Ex.of y1).trans<|(Ex.upd<|by simp).trans<|Ex.upd<|by simp⟩<;>(rw[Zo dD,Ý];rfl)
 rintro en f ⟨v6,rfl,e9,e10,x⟩;rw[Á,ü]at e9 e10;have gdz:=s.gd;have bsz:Z.cc.bs=bs:=s.hb;have tsz:Z.cc.ts=ts:=s.ht;have fin:∀(vs:List Int) (h0:Hs) (pv:Ad),vs.Perm us->Ex [pq,ps] g3 h0->h0 pq=eQ (.lst<|us.map λb=>.tup [.int b,(ZM b K ts).v])->h0 ps=eQ (.lst<|us.map λb=>.tup [.int b,pV (lf LV b,ver<|ZM b K ts)])->h0 pv=eQ (.lst<|vs.map .int)->(g pv=eS)->wSs (wF P<|n+7) (tl 12 VI.body) [eQ<|.scr ns,eQ<|ZC bs ts,eQ<|.ref Y.y,eQ<|.tup [.ref pg,.ref pc,.ref pl],eQ<|.ref ph,eQ<|.ref pr,v6,v7,eQ<|.ref pv,eQ<|.ref pq,eQ<|.ref ps,eS] h0 (λ_ g=>Q .non g) Q (λ_ _=>False) (λ_ _=>False) λ_ c g=>X c g:=by
  intro vs h0 pv hp x0 q9 q10 qv gv;dsimp only[tl,VI];have hh:∀{a o},g a=eQ o->h0 a=eQ o:=λe=>x0.get (fr e)<|xl.get e;have gpq:g pq=eS:=Yb x1 hpq;have gps:g ps=eS:=Yb (x1.trans x2) hps;have vnd:vs.Nodup:=hp.nodup_iff.mpr und;have v10:vs.length<=10:=by rw[hp.length_eq];exact us10
  have t0:TL Z.cc vs gone cut LV K Y.y pg pc pl ph (bs.length+cs.length) 0 pr h0 Z:=⟨(sl.ya).keep x0 λa ha z=>by
      simp![Å,É,or_false]at z
      rcases z with rfl|rfl
      . exact s.ya.taken ha gpq
      . exact s.ya.taken ha gps,s.yy,TK.nil,s.gd,hh s.eg,hh s.ec,hh s.el,hh s.eh,hh s.er,λa ha=>s.ad a<|by simp only[Å,É,or_false]at ha ⊢;rcases ha with h | h | h | h | h<;>simp[h]⟩
  refine' Zp (λi en f=>∃pr v6 v11 W,en=[eQ<|.scr ns,eQ<|ZC bs ts,eQ<|.ref Y.y,eQ<|.tup [.ref pg,.ref pc,.ref pl],eQ<|.ref ph,eQ<|.ref pr,v6,v7,eQ<|.ref pv,eQ<|.ref pq,eQ<|.ref ps,v11]/\TL Z.cc vs gone cut LV K Y.y pg pc pl ph (bs.length+cs.length) i pr f W/\(∀a∈[pv,pq,ps],a∉W.adr/\f a=h0 a)) ⟨_,_,_,Z,rfl,t0,λa ha=>⟨λz=>?_,rfl⟩⟩ (λi en f _ z=>by let⟨_,_,_,_,_,_,q⟩:=z;exact lsE<|(q pv<|by simp).2.trans qv) ?_ ?_
  .simp![Å,É,or_false]at ha;rcases ha with rfl|rfl|rfl
   .exact s.ya.taken z gv
   .exact s.ya.taken z gpq
   .exact s.ya.taken z gps
  .rintro i v en f hv ⟨pr,v6,v11,W,rfl,t,oth⟩ K1 hK;let⟨b,dD,rfl⟩:=ZJ hv;have hi:i<vs.length:=(Ë.mp dD).1;let⟨hb1,hg1⟩:=uin b<|hp.mem_iff.mp<|ã dD;have hbm:b∈Z.cc.bs:=by rw[bsz];exact hb1
   let⟨_,_,hB,_⟩:=s.w.at_ gdz hbm hg1;have hs:Z.cc.std b=eU:=by unfold Yc.std;rw[hB];rfl
   have hn:b∉vs.take i:=λz=>by
    let⟨j,hj,e⟩:=Ξ.mp z;have h2:vs[i]?=vs[j]?:=by rw[dD,È ↥0,e]
    have:=(eP hi vnd).mp h2;lia
   have xi:=t.ya.ins;rw[t.yy]at xi;fail;rw[<-t.yy];refine DH t.ya t.gd ↥0 t.tk hn hs λW' g' tt gd m=>?_;have eg':=(m.off (t.ad pg<|by simp) t.eg).2;have ec':=(m.off (t.ad pc<|by simp) t.ec).2;have el':=(m.off (t.ad pl<|by simp) t.el).2;have eh':=(m.off (t.ad ph<|by simp) t.eh).2;have er':=(m.off (t.ad pr<|by simp) t.er).2;refine' Oa no eh' λf1 y1=>?_
   exists XS (y1.get el') rfl
   fail;rw[YU,show(if(!(LV.lookup b).isSome)=eU then(1:Int)else 0)=Nj LV b by unfold Nj;cases (LV.lookup b).isSome<;>rfl];refine At (b:=b) no (y1.get eg') (y1.get ec') (y1.get el') λp5 g5 hp5 x5 e5=>?_;have hlen:W.road.length<=16*(bs.length+cs.length+i):=t.gd.len;have hsl:(Yw ts gone cut b (lf LV b) (Nj LV b) (ZM b K ts)<|gg b 0 ts).length<=16:=by unfold Yw;rw[Á];exact Ö (ĝ _ _)<|Ö YB no.sixteen
   have xy:=y1.trans x5;refine UD (xy.get er') e5 (by rw[í,Á,Á];exact Ö (by lia:_<=3000)<|by decide)<|Zk λp6 g6 hp6 x6 e6=>?_;have snt:=s.w.sent gdz (by have:=s.hm;lia) hbm hg1;rw[tsz]at snt;have hp6':g' p6=eS:=Yb xy hp6;refine' hK _ _ ⟨p6,_,_,W',by rw[t.yy],t.next dD tt gd m (xy.trans x6) hp6' (by rw[tsz,snt];exact e6),λa ha=>?_⟩;let⟨n1,e1⟩:=oth a ha;have hsome:∃o,h0 a=eQ o:=by
    simp![Å,É,or_false]at ha;rcases ha with rfl|rfl|rfl
    .exact⟨_,qv⟩
    .exact⟨_,q9⟩
    .exact⟨_,q10⟩
   let⟨o,ho⟩:=hsome;have mo:=m.off n1<|e1.trans ho;exact⟨mo.1,((xy.trans x6).get mo.2).trans ho.symm⟩
  .rintro en f ⟨pr,v6,v11,W,rfl,t,oth⟩;have tk:=t.tk;have gd:=t.gd;rw[Á]at gd;rw[Á,ü]at tk;have hd:∀b,b∈vs↔b∈Z.cc.bs/\b∉gone:=λb=>by
    rw[hp.mem_iff,bsz];refine⟨uin b,λz=>?_⟩;rw[hU];exact ï.mpr ⟨z.1,⇑z.2⟩
   have m2:2<=Z.cc.most:=by have:=s.hm;lia
   have tell:=tk.tells s.w gdz m2 hd;rw[bsz,<-hU,tsz]at tell;have yW:fi f W:=t.ya;have wbs:W.bs=bs:=(show W.bs=Z.cc.bs from tk.bs).trans bsz;have wts:W.ts=ts:=(show W.ts=Z.cc.ts from tk.ts).trans tsz;have xi:=t.ya.ins;rw[t.yy]at xi;fail;rw[<-t.yy];refine F6 yW λp1 f1 cS z1 w1=>?_;fail;have hlen:W.road.length<=16*(bs.length+cs.length+vs.length):=gd.len;refine Kg (d:=3) w1 (z1.get t.er) (by rw[Á];lia) (λv hv=>by let⟨r,_,rfl⟩:=Ô.mp hv;exact IQ r) ?_;have y1:=yW.ext z1;have xi:=y1.ins;walk_at "p";refine A0 y1 gd λp2 f2 dA z2 w2=>?_;rw[tell.1]at w2;fail;have z12:=z1.trans z2;refine Kg (d:=3) w2 (z12.get<|(oth pq<|by simp).2.trans q9) (by rw[Á];lia) (λv hv=>by let⟨r,_,rfl⟩:=Ô.mp hv;exact⟨by simp,λv hv=>by simp![Å,É,or_false]at hv;rcases hv with rfl|rfl<;>first|trivial|exact LK _⟩) ?_;have y2:=y1.ext z2;have xi:=y2.ins;walk_at "p";refine AT y2 gd λp3 f3 hp3 z3 w3=>?_;rw[tell.2]at w3;fail;have z13:=z12.trans z3;refine Kg (d:=3) w3 (z13.get<|(oth ps<|by simp).2.trans q10) (by rw[Á];lia) (λv hv=>by let⟨r,_,rfl⟩:=Ô.mp hv;exact⟨by simp,λv hv=>by simp![Å,É,or_false]at hv;rcases hv with rfl|rfl<;>first|trivial|exact WD _⟩) ?_;walk_at "p";rw[show ZC bs ts=ZC W.bs W.ts by rw[wbs,wts]];refine EM (y2.ext z3) (by rw[wbs,wts];exact no) (λp hp=>?_) (z13.get t.eg) (z13.get t.ec) ?_
   .have e:=tk.ends_eq s.w gdz m2 hd (p:=p) (by rw[tsz];rw[wts]at hp;exact gy ⟨by lia,by lia⟩);rw[tsz]at e;rw[wts];exact e
   walk_at "p";exact k _
 refine' Jm (k:=2) λc3=>?_;refine' fY (λhc=>?_) (λhc=>?_)
 .walk_at "p";refine fb (show fj (f pu)=eQ (us.map .int) from lsE<|x.get (by simp[npu,nps]) eu3) ?_;refine Zk λpv f1 hpv y1 ev=>?_;refine fb rfl ?_;refine fin us.reverse f1 pv (List.reverse_perm us) (x.trans<|Ex.of y1) (y1.get e9) (y1.get e10) (by rw[List.map_reverse];exact ev) ?_;cases z:g pv with
  |none=>rfl
  |some o=>rw[x.get (fr z)<|xl.get z]at hpv;cases hpv
 .exact fin us f pu (.refl _) x e9 e10 (x.get (by simp[npu,nps]) eu3) hpu
end O
set_option maxRecDepth 1000000
set_option maxHeartbeats 0
namespace My
open PySem L2 Snd PySem.W
abbrev top(i:Nat):Stmt:=PySem.Challenge.pw_shutways_k27_what_falls_forgets.main.body.getD i<|.Pass ⟨0,0,0,0⟩
abbrev inC:Stmt->Nat->Stmt
 |.ClassDef _ _ _ b _ _ _ _ _ _ _,j=>b.getD j<|.Pass ⟨0,0,0,0⟩
 |s,_=>s
abbrev x0:Ds:=⟨top 5,["thing"],["thing"],O.VH⟩
abbrev x1:Ds:=⟨top 7,["net","bridge","found","place","tie"],["net","bridge"],O.Va⟩
abbrev x2:Ds:=⟨top 8,["tie","bridge"],["tie","bridge"],O.VG⟩
abbrev x3:Ds:=⟨top 17,["one","other"],["one","other"],O.Vb⟩
abbrev x4:Ds:=⟨top 19,["bridge","offers","better"],["bridge","offers"],O.VF⟩
abbrev x5:Ds:=⟨top 25,["some","words"],["some"],O.Vc⟩
abbrev x6:Ds:=⟨top 27,["script","k"],["script","k"],O.VQ⟩
abbrev x7:Ds:=⟨top 28,["cell","k","number"],["cell","k"],O.Vx⟩
abbrev x8:Ds:=⟨top 29,["cell","many","rest","plain","found","k"],["cell","many"],O.VR⟩
abbrev x9:Ds:=⟨top 30,["sizes","many","width"],["sizes"],O.VP⟩
abbrev x10:Ds:=⟨top 31,["bridges","three","k","size","one","other","cost","pair"],["bridges","three","k"],O.Vn⟩
abbrev x11:Ds:=⟨top 32,["first","second","sizes","bridges","many","draws","ties"],["first","second"],O.Vw⟩
abbrev x12:Ds:=⟨top 33,["first","sizes"],["first"],O.Vz⟩
abbrev x13:Ds:=⟨top 34,["found","due","k"],["found","due"],O.Vj⟩
abbrev x14:Ds:=⟨top 35,["net","number","some","place","tie"],["net","number"],O.Vo⟩
abbrev x15:Ds:=⟨top 36,["net","gone","cut","place","tie"],["net","gone","cut","place"],O.Vy⟩
abbrev x16:Ds:=⟨top 37,["net","number","held","some","place","other","cost","best"],["net","number","held"],O.VL⟩
abbrev x17:Ds:=⟨top 38,["net","state","number","label","count","version","life","sent","place","other","cost","rests","letter"],["net","state","number","label","count"],O.Vk⟩
abbrev x18:Ds:=⟨top 39,["net","state","held","number","place"],["net","state","held"],O.VT⟩
abbrev x19:Ds:=⟨top 40,["yard","net","state","held","at","gone","cut","lives","size","number","place"],["yard","net","state","held","at"],O.Vu⟩
abbrev x20:Ds:=⟨top 41,["yard","net","state","held","road","cell","at","told"],["yard","net","state","held","road","cell"],O.Vm⟩
abbrev x21:Ds:=⟨top 42,["yard","net","state","place","due"],["yard","net","state"],O.VS⟩
abbrev x22:Ds:=⟨top 43,["script","net","yard","state","held","road","number","cell","up","labels","stamps","label"],["script"],O.VI⟩
abbrev z0:Ds:=⟨inC (top 21) 0,["self","number","life","ties","greatest","place","neighbour","cost"],["self","number","life","ties","greatest"],O.TM⟩
abbrev z1:Ds:=⟨inC (top 21) 2,["self"],["self"],O.TQ⟩
abbrev z2:Ds:=⟨inC (top 21) 3,["self"],["self"],O.T3⟩
abbrev z3:Ds:=⟨inC (top 21) 4,["self","place"],["self","place"],O.TW⟩
abbrev z4:Ds:=⟨inC (top 21) 5,["self","place","neighbour","cost"],["self","place","neighbour","cost"],O.T6⟩
abbrev z5:Ds:=⟨inC (top 21) 6,["self","place"],["self","place"],O.TZ⟩
abbrev z6:Ds:=⟨inC (top 21) 7,["self","place","letter","held"],["self","place","letter"],O.TX⟩
abbrev z7:Ds:=⟨inC (top 21) 8,["self","letters"],["self"],O.T5⟩
abbrev z8:Ds:=⟨inC (top 21) 9,["self","older","place","held"],["self"],O.TR⟩
abbrev z9:Ds:=⟨inC (top 21) 10,["self","offers","place","held","neighbour","cost","best","root"],["self"],O.T1⟩
abbrev z10:Ds:=⟨inC (top 21) 11,["self","label"],["self","label"],O.T4⟩
abbrev z11:Ds:=⟨inC (top 21) 12,["self","place","root","cost","over","rests","age","ahead"],["self","place"],O.T0⟩
abbrev z12:Ds:=⟨inC (top 21) 13,["self","place","held"],["self","place"],O.TU⟩
abbrev z13:Ds:=⟨inC (top 21) 14,["self","place","held"],["self","place"],O.TN⟩
abbrev z14:Ds:=⟨inC (top 21) 15,["self","place"],["self","place"],O.TY⟩
abbrev z15:Ds:=⟨inC (top 24) 0,["self","net","greatest","number"],["self","net","greatest"],O.VN⟩
abbrev z16:Ds:=⟨inC (top 24) 4,["self"],["self"],O.VU⟩
abbrev z17:Ds:=⟨inC (top 24) 6,["self"],["self"],O.VO⟩
abbrev z18:Ds:=⟨inC (top 24) 7,["self"],["self"],O.VC⟩
abbrev z19:Ds:=⟨inC (top 24) 9,["self","place","one","other","cost"],["self","place"],O.VX⟩
abbrev z20:Ds:=⟨inC (top 24) 10,["self","number","place"],["self","number","place"],O.VY⟩
abbrev z21:Ds:=⟨inC (top 24) 11,["self","place"],["self","place"],O.VM⟩
abbrev z22:Ds:=⟨inC (top 24) 12,["self","some","words","number"],["self","some"],O.VZ⟩
abbrev z23:Ds:=⟨inC (top 24) 13,["self","number","place","letter","goal"],["self","number"],O.VE⟩
abbrev z24:Ds:=⟨inC (top 24) 14,["self","place","start","goal","tie","letter"],["self","place"],O.T9⟩
abbrev z25:Ds:=⟨inC (top 24) 15,["self","place"],["self","place"],O.VD⟩
abbrev z26:Ds:=⟨inC (top 24) 16,["self","number"],["self","number"],O.VW⟩
abbrev z27:Ds:=⟨inC (top 24) 17,["self","place"],["self","place"],O.VJ⟩
abbrev z28:Ds:=⟨inC (top 24) 18,["self","number"],["self","number"],O.T7⟩
abbrev z29:Ds:=⟨inC (top 24) 19,["self","place"],["self","place"],O.T8⟩
abbrev z30:Ds:=⟨inC (top 24) 20,["self","number","place","neighbour","cost"],["self","number"],O.VB⟩
abbrev z31:Ds:=⟨inC (top 24) 21,["self","place","one","other","cost","stands","near","far"],["self","place"],O.VA⟩
abbrev tb:Tb where
 fs:=[("is_whole",x0),("neighbours",x1),("far_end",x2),("newer",x3),("best_offer",x4),("read_deed",x5),("_law_cell_at",x6),("_law_mixed",x7),("_law_draws",x8),("_law_bridges",x9),("_law_tie",x10),("_law_net",x11),("_law_greatest",x12),("_law_same",x13),("_law_ties_of",x14),("_law_is_up",x15),("_law_best",x16),("_law_sent",x17),("_law_forgets",x18),("_law_turned",x19),("_law_taken",x20),("_law_ends",x21),("law",x22)]
 ms:=[⟨"Bridge","__init__","Bridge.__init__",z0⟩,⟨"Bridge","label","Bridge.label",z1⟩,⟨"Bridge","stamp","Bridge.stamp",z2⟩,⟨"Bridge","held","Bridge.held",z3⟩,⟨"Bridge","up","Bridge.up",z4⟩,⟨"Bridge","down","Bridge.down",z5⟩,⟨"Bridge","hear","Bridge.hear",z6⟩,⟨"Bridge","tick","Bridge.tick",z7⟩,⟨"Bridge","let_grow_older","Bridge.let_grow_older",z8⟩,⟨"Bridge","reckon_label","Bridge.reckon_label",z9⟩,⟨"Bridge","take_label","Bridge.take_label",z10⟩,⟨"Bridge","letter_over","Bridge.letter_over",z11⟩,⟨"Bridge","is_rested_on","Bridge.is_rested_on",z12⟩,⟨"Bridge","is_agreed_to","Bridge.is_agreed_to",z13⟩,⟨"Bridge","end","Bridge.end",z14⟩,⟨"Yard","__init__","Yard.__init__",z15⟩,⟨"Yard","road","Yard.road",z16⟩,⟨"Yard","labels","Yard.labels",z17⟩,⟨"Yard","stamps","Yard.stamps",z18⟩,⟨"Yard","ends","Yard.ends",z19⟩,⟨"Yard","end_at","Yard.end_at",z20⟩,⟨"Yard","has_tie","Yard.has_tie",z21⟩,⟨"Yard","deed","Yard.deed",z22⟩,⟨"Yard","tick_of","Yard.tick_of",z23⟩,⟨"Yard","come","Yard.come",z24⟩,⟨"Yard","take_off","Yard.take_off",z25⟩,⟨"Yard","fall_of_bridge","Yard.fall_of_bridge",z26⟩,⟨"Yard","fall_of_tie","Yard.fall_of_tie",z27⟩,⟨"Yard","back_of_bridge","Yard.back_of_bridge",z28⟩,⟨"Yard","back_of_tie","Yard.back_of_tie",z29⟩,⟨"Yard","set_ties_of","Yard.set_ties_of",z30⟩,⟨"Yard","set_tie","Yard.set_tie",z31⟩]
 cs:=[("NUMBER",(.int 0)),("STAMP",(.int 1)),("ROOT",(.int 2)),("COST",(.int 3)),("AGE",(.int 4)),("RESTS",(.int 5)),("AGREES",(.int 6)),("DEEDS",(.tup [(.tup [(.str "tick")]),(.tup [(.str "come")]),(.tup [(.str "lost")]),(.tup [(.str "fall"),(.str "bridge")]),(.tup [(.str "fall"),(.str "tie")]),(.tup [(.str "back"),(.str "bridge")]),(.tup [(.str "back"),(.str "tie")])]))]
 cl:=["Bridge","Yard"]
 fl:=["age_let_go","greatest_age","held_by_place","label_now","letters_on_road","life","lives","net_made_of","number","standing","ticks_had","ties_by_place","ties_fallen","version"]
 xs:=[]
abbrev pg:O.Pg:=λf=>(([("is_whole",O.VH),("neighbours",O.Va),("far_end",O.VG),("newer",O.Vb),("best_offer",O.VF),("read_deed",O.Vc),("_law_cell_at",O.VQ),("_law_mixed",O.Vx),("_law_draws",O.VR),("_law_bridges",O.VP),("_law_tie",O.Vn),("_law_net",O.Vw),("_law_greatest",O.Vz),("_law_same",O.Vj),("_law_ties_of",O.Vo),("_law_is_up",O.Vy),("_law_best",O.VL),("_law_sent",O.Vk),("_law_forgets",O.VT),("_law_turned",O.Vu),("_law_taken",O.Vm),("_law_ends",O.VS),("law",O.VI),("Bridge.__init__",O.TM),("Bridge.label",O.TQ),("Bridge.stamp",O.T3),("Bridge.held",O.TW),("Bridge.up",O.T6),("Bridge.down",O.TZ),("Bridge.hear",O.TX),("Bridge.tick",O.T5),("Bridge.let_grow_older",O.TR),("Bridge.reckon_label",O.T1),("Bridge.take_label",O.T4),("Bridge.letter_over",O.T0),("Bridge.is_rested_on",O.TU),("Bridge.is_agreed_to",O.TN),("Bridge.end",O.TY),("Yard.__init__",O.VN),("Yard.road",O.VU),("Yard.labels",O.VO),("Yard.stamps",O.VC),("Yard.ends",O.VX),("Yard.end_at",O.VY),("Yard.has_tie",O.VM),("Yard.deed",O.VZ),("Yard.tick_of",O.VE),("Yard.come",O.T9),("Yard.take_off",O.VD),("Yard.fall_of_bridge",O.VW),("Yard.fall_of_tie",O.VJ),("Yard.back_of_bridge",O.T7),("Yard.back_of_tie",O.T8),("Yard.set_ties_of",O.VB),("Yard.set_tie",O.VA)]:List<|String×O.Fn).lookup f)
instance:O.Al pg:=by constructor<;>rfl
variable {α:Type}{p:List α->Prop}
def ar1(h:∀a0,p [a0])(us:List α)(e:us.length=1):p us:=match us,e with|[a0],_=>h a0
def ar2(h:∀a0 a1,p [a0,a1])(us:List α)(e:us.length=2):p us:=match us,e with|[a0,a1],_=>h a0 a1
def ar3(h:∀a0 a1 a2,p [a0,a1,a2])(us:List α)(e:us.length=3):p us:=match us,e with|[a0,a1,a2],_=>h a0 a1 a2
def ar4(h:∀a0 a1 a2 a3,p [a0,a1,a2,a3])(us:List α)(e:us.length=4):p us:=match us,e with|[a0,a1,a2,a3],_=>h a0 a1 a2 a3
def ar5(h:∀a0 a1 a2 a3 a4,p [a0,a1,a2,a3,a4])(us:List α)(e:us.length=5):p us:=match us,e with|[a0,a1,a2,a3,a4],_=>h a0 a1 a2 a3 a4
def ar6(h:∀a0 a1 a2 a3 a4 a5,p [a0,a1,a2,a3,a4,a5])(us:List α)(e:us.length=6):p us:=match us,e with|[a0,a1,a2,a3,a4,a5],_=>h a0 a1 a2 a3 a4 a5
variable {P:String->Ds->Prop}
def mc(h:P f x)(k:∀g y,(g,y)∈l->P g y):∀g y,(g,y)∈(f,x)::l->P g y:=λg y m=>by
 rcases Å.mp m with e|m
 .cases e;exact h
 .exact k g y m
def mn:∀g y,(g,y)∈([]:List<|String×Ds)->P g y:=λ_ _ m=>nomatch m
def GP:∀f x,(f,x)∈tb.fs.drop 12->x.Ok tb:=by
 iterate 11 refine mc ⟨by kernel_rfl,by kernel_rfl⟩ ?_
 exact mn
def tab_ok:∀f x,(f,x)∈tb.fs->x.Ok tb:=by
 iterate 12 refine mc ⟨by kernel_rfl,by kernel_rfl⟩ ?_
 exact GP
def tab_pg:∀f x,(f,x)∈tb.fs->pg f=eQ x.d:=by repeat first|exact mn|refine mc rfl ?_
def tab_bd:∀f x,(f,x)∈tb.fs->Hd.Bd (gC f) (gC f) x:=by repeat first|exact mn|refine mc (λ_ _ _ _ _ _=>(by first|exact ar1 λ_=>rfl|exact ar2 λ_ _=>rfl|exact ar3 λ_ _ _=>rfl|exact ar4 λ_ _ _ _=>rfl|exact ar5 λ_ _ _ _ _=>rfl|exact ar6 λ_ _ _ _ _ _=>rfl)) ?_
def md{P:α->Prop}{x:α}{l:List α}(h:P x)(k:∀y,y∈l->P y):∀y,y∈x::l->P y:=λy m=>by
 rcases Å.mp m with e|m
 .cases e;exact h
 .exact k y m
def me{P:α->Prop}:∀y,y∈([]:List α)->P y:=λ_ m=>nomatch m
def Hr:∀y,y∈tb.ms.drop 24->y.x.Ok tb:=by
 iterate 8 refine md ⟨by kernel_rfl,by kernel_rfl⟩ ?_
 exact me
def FH:∀y,y∈tb.ms.drop 12->y.x.Ok tb:=by
 iterate 12 refine md ⟨by kernel_rfl,by kernel_rfl⟩ ?_
 exact Hr
def tab_om:∀y,y∈tb.ms->y.x.Ok tb:=by
 iterate 12 refine md ⟨by kernel_rfl,by kernel_rfl⟩ ?_
 exact FH
def tab_pm:∀y,y∈tb.ms->pg (y.C ++ "." ++ y.m)=eQ y.x.d:=by repeat first|exact me|refine md rfl ?_
def tab_bm:∀y,y∈tb.ms->Hd.Bd (gC y.m) (gC y.qual) y.x:=by repeat first|exact me|refine md (λ_ _ _ _ _ _=>(by first|exact ar1 λ_=>rfl|exact ar2 λ_ _=>rfl|exact ar3 λ_ _ _=>rfl|exact ar4 λ_ _ _ _=>rfl|exact ar5 λ_ _ _ _ _=>rfl|exact ar6 λ_ _ _ _ _ _=>rfl)) ?_
def law_in:("law",x22)∈tb.fs:=ã (i:=22) rfl
noncomputable abbrev pr:Program:=PySem.Challenge.rw_shutways_k27_what_falls_forgets.row.prog
noncomputable abbrev vw:Program:=PySem.W.view pr [0,2,3,5,7,8,10,11,12,13,14,15,16,17,19,21,23,24,25,27,28,29,30,31,32,33,34,35,36,37,38,39,40,41,42,43]
noncomputable abbrev xt(s:Shared):Bool:=xlAt vw [] s&&recOk (RowW.records PySem.Challenge.rw_shutways_k27_what_falls_forgets.row.toRowW) s
def said:PySem.Challenge.rw_shutways_k27_what_falls_forgets.wellSaid=eU:=by rw[Fast.te9446332074065402090];kernel_rfl
def l1:∀w os,(Hd.runY pr 12000 w os).map (Hd.stY pr w)=eQ eU:=λw os=>by kernel_rfl
def l2:∀w os,(Hd.runY pr 12000 w os).map (λs=>Hd.seenY vw [] (Hd.modsY pr.main.body) xt eU s.abs)=eQ (openGood vw []):=λw os=>by kernel_rfl
def l3:∀w os,(Hd.runY pr 12000 w os).map (λs=>(Hd.hook tb).obs s.abs)=eQ ((Hd.hook tb).val w):=λw os=>by kernel_rfl
def left:LeftO pr vw [] xt (Hd.hook tb).obs (Hd.hook tb).val 12000:=Hd.left_of (by kernel_rfl) rfl (λs=>by kernel_rfl) l1 l2 l3
end My
open PySem PySem.W PyProof.Rows
theorem PySem.Challenge.cw_shutways_k27_what_falls_forgets_holds : PySem.Challenge.rw_shutways_k27_what_falls_forgets.Holds := by
 refine holds_law My.said λsaid=>?_;refine holds_open (q:=My.vw) (loose:=[]) (Xt:=My.xt) (XP:=XL My.vw []) (YP:=(Hd.hook My.tb).says) My.left (Hook.of _) (Hook.keeps _) (λs e=>xl_of s (Ŧ.mp e).1) XL.keeps (by rfl) (by rfl) (by rfl) (λs e=>recFacts_of (Ŧ.mp e).2) (by rfl) said (by decide +kernel) ⟨rfl,rfl,rfl,rfl,rfl,by decide +kernel⟩ ?hw ?hc
 case hw=>w_on;w_witness2
 case hc=>exact Hd.law_walk (k:=7) rfl rfl rfl ⟨rfl,by decide,by decide⟩ My.law_in rfl rfl My.tab_pg My.tab_pm My.tab_ok My.tab_om My.tab_bd My.tab_bm λns hl=>O.law_ok (n:=0) hl λ_=>rfl
