import PyProof.Rows.All
import Wide.All
import OpenK.AllK
import Wide.FinOn
import PyProof.EqAt
import PyProof.EqKinds
import PyProof.TupleCall
import Lean
import PySem.Challenge.RW_shutways_k52_whole_parts
set_option Elab.async false
set_option bootstrap.genMatcherCode false
set_option compiler.extract_closed false
set_option genSizeOf false
local macro_rules|`(command|def $x:declId $b:bracketedBinder*:$t $v:declVal)=>`(command|theorem $x:declId $b:bracketedBinder*:$t $v:declVal)
local macro_rules|`(command|abbrev $x:declId $s:optDeclSig $v:declVal)=>`(command|noncomputable def $x:declId $s:optDeclSig $v:declVal)
set_option linter.all false
set_option maxRecDepth 100000
open PySem.Str renaming ofString->gC
open Decidable renaming decide->gB
open Option renaming some->eL, none->eM
open Bool renaming true->eN, false->eP
open PySem.W (Frag)
open Array renaming length_toList->õ, getElem?_eq_getElem->ÿ, getElem?_toList->Ą, getElem?_eq_some_iff->ĸ, getElem?_eq_none->Χ, getD->ϯ, toList->bQ, toList_push->dM, toList_inj->eh
open Bool renaming false_ne_true->ú, false_eq_true->ī, not_eq_true'->Ņ, and_true->Μ, or_false->ϭ, not_not->ao, false_xor->bc, true_xor->bH, and_eq_true_iff->cT
open Char renaming toNat->Ş
open False renaming elim->ņ
open ForInStep renaming yield->ĺ
open Function renaming comp_apply->bT
open Int renaming toNat_natCast->â, le_refl->Š, emod_lt_of_pos->Ε, emod_nonneg->ϖ, mul_nonneg->ϥ, le_ediv_iff_mul_le->cx, ediv_lt_iff_lt_mul->cB, mul_one->df, add_mul->dm, one_mul->dn, le_of_lt_add_one->dq, natCast_nonneg->eF
open List renaming length_map->Á, mem_append_right->Ç, mem_cons->È, getElem?_eq_getElem->É, size_toArray->Ê, getElem?_eq_some_iff->Î, length_cons->Ï, mem_append_left->Ð, map_cons->Ñ, mem_map->Ò, mem_singleton->Ó, mem_append->Õ, getElem?_map->Ø, not_mem_nil->Ù, map_append->Û, replicate->Þ, mem_cons_of_mem->á, nodup_append->å, mem_of_getElem?->é, map_map->ê, length_append->í, lookup_cons->ï, filterMap_cons->ð, mem_map_of_mem->ò, getElem?_append_left->ó, mem_cons_self->ô, append_nil->ö, length_replicate->ù, mem_filter->û, nodup_cons->þ, all_eq_true->ā, take_length->Ă, contains_iff_mem->Ć, replicate_succ->ċ, pairwise_map->Č, getElem?_append_right->ď, getD_eq_getElem?_getD->Đ, nodup_nil->đ, length_take->Ē, filter_cons->ē, append_assoc->Ĕ, find?_cons->Ę, map_inj_left->Ģ, map_congr_left->Ĥ, filter_sublist->ĥ, length_range->ı, length_nil->Ĳ, any_cons->ķ, length_filter_le->Ļ, getElem?_eq_none->ļ, foldl_cons->ŀ, flatten_cons->ń, getElem?_replicate->ō, getElem_mem->Ŏ, zip_cons_cons->Œ, drop_eq_nil_of_le->Ŕ, length_mergeSort->Ř, mapM_cons->ş, map_nil->Ţ, mem_flatMap->Ť, mergeSort_perm->Ŧ, length_filterMap_le->Ũ, mem_filterMap->Ŭ, length_eq_zero_iff->ŭ, map_id->ů, mem_range->Ŵ, pairwise_lt_range->ŷ, take_add_one->Ÿ, flatMap_cons->Ź, length_drop->ſ, getElem?_set_ne->ι, lookup->μ, zip_nil_right->ρ, perm_ext_iff_of_nodup->ς, length_eraseIdx_of_lt->υ, filter_append->χ, drop_eq_getElem_cons->Θ, zip_nil_left->Ι, getElem_inj->Τ, getElem?_set_self->Ω, length_set->ϒ, filter_nil->ϔ, pairwise_append->ϝ, length_take_le'->Ϟ, filter_eq_self->ϩ, take_succ_cons->Ϫ, flatMap_append->ϫ, getElem_of_mem->Ϭ, map_drop->Ϯ, filterMap_map->ϰ, set_cons_succ->ϲ, set_cons_zero->ϳ, length_filter_eq_length_iff->aq, any_eq_true->ax, eq_nil_of_length_eq_zero->aC, of_mem_zip->aL, nodup_iff_pairwise_ne->bd, length_erase_of_mem->bK, mem_of_mem_eraseIdx->bL, pairwise_mergeSort->bS, length_eraseIdx_le->bU, pairwise_singleton->bV, take_of_length_le->ca, filterMap_eq_map'->cb, mem_iff_getElem?->cA, set_append_left->cR, length_pos_iff->dk, foldl->dF, pairwise_cons->dL, getElem_range->dO, append_of_mem->dP, lookup_append->dQ, foldl_append->eK
open List.Sublist renaming refl->ŧ
open Nat renaming le_refl->Ì, lt_of_le_of_lt->Ö, le_trans->Ý, lt_of_lt_of_le->ä, ne_of_lt->æ, zero_le->ĕ, lt_succ_self->Ě, lt_irrefl->ġ, lt_succ_of_lt->ĳ, le_succ->Ň, ne_of_gt->ť, lt_trans->ź, le_of_lt->π, succ_le_succ->Υ, zero_add->ϓ, min_eq_left->ϕ, min_le_right->az, not_lt_zero->aT, mul_comm->cr, lt_or_ge->cC, mul_le_mul_left->dI
open Option renaming map_eq_some_iff->Ë, isSome_iff_exists->ç, bind_eq_some_iff->ì, bind_some->ý, map_some->œ, getD_some->Λ, isSome_map->ϱ, not_isSome_iff_eq_none->au, isNone_iff_eq_none->aS, toList_none->cS, getD_none->dC
open Option.some renaming inj->è, injEq->Ĭ
open Prod.mk renaming injEq->Δ
open PyProof.Rows renaming IntsAre->ă, step_dedup->Ŝ, firstMet->θ, kindOf->ψ, seqObj->Ν, AllBare->Ψ, subscriptTail->aw, envOfC->ay, firstMet_length_le->aD, IsTup->aN, Constant_none->db, subscriptTail_builtinR->d8
open PySem renaming wpAny_bind->À, Value->Ã, Shared->Å, wpAny_pure->Æ, Addr->Í, starEach->Ü, sizeLine->ß, model->à, Program->ã, compareOp->î, World->Ā, mainGlobals->ć, wpAny_newObj_type->Ĉ, Heap->ĉ, Around->Ċ, wpAny_truthy_bool->Ď, foldedSetIterable->ė, wpAny_holding->ę, wpAny_loadPart'->ě, assignEach->Ĝ, wpAny_call_entry->Ğ, sliceBounds->ğ, backTo->ģ, attributeBase->Ħ, rawInt->ħ, cLine->Ī, codeAny_builtin->ĭ, wpAny_mono->į, wpAny_Call_Name_kw->İ, wpAny_callSpecial?_slot->Ĵ, argBest->ĵ, behindInMarks->Ľ, Stmt->ľ, wpAny_setField->Ł, wpAny_ite_split->ň, binaryOp->ŉ, FuncData->Ŋ, keywordEach->ŋ, wpAny_field->Ō, plainId_quiet->ŏ, holding->ő, wpAny_seqItems->ŕ, sysModules->Ś, intKind->ś, wpAny_passesOwn->ŝ, wpAny_setState_of->ţ, bootBuiltins->ũ, wpAny_askSetting->Ū, wpAny_setEntries_of->Ů, SetTable->ų, tupleKind_room_in1->Ż, swapsWith->ż, codeAny_mono->ζ, backToKw->η, Scope->ν, assign->ξ, wpAny_updateSeq->Γ, PassesOwn->Κ, wpAny_tryCatch->Ο, standAt->ϊ, wpAny_pyIter_list->ϋ, swapsWithSole->ώ, swappedStores->Ϗ, pyNext->ϐ, IsPart->ϑ, Operator->ϗ, getMethod->Ϙ, NameKind->ϙ, getItem->ϟ, wpAny_typeOf->Ϡ, wpAny_rule->ϡ, valueAt->Ϣ, call_meetsIn->ϣ, sliceRange->Ϥ, setsByText->Ϧ, letOwnedTupleGo->Ϩ, sizeLine_eq->ϵ, PyData->Ϸ, firstArgMember->ϸ, wpAny_fieldsOf->Ϻ, unsupported->aa, tupleKind->ah, callerA->ai, seqItems?->aj, scanBound->ap, call_meets->aA, wpAny_pyIter_tuple->aB, setItem->aO, seqIndex_neg->aP, slot_list_getitem->aQ, Keyword->aR, fits_of_scanBound->aV, lastMarks->bj, Result->bp, noFill_tuple_add->bq, noteFrame->bu, wpAny_isInstance->bw, seqIndex_of->bE, wpAny_of_eq->bF, wpAny_letGo->bI, wpAny_execs_nil->bR, relabel->bX, GenState->cg, isTrue->cj, CmpOp->ck, callWith->cp, evalEach->cu, atKey->cy, argsOk->cz, isSubtype_type->cD, methodCallForm->cF, wpAny_standAt->de, seq_tuple_add->dg, wpAny_getItem_list_slice->dh, wpAny_comprehension_free->di, wpAny_newList->dj, bindC->dB, slicePick->dD, updateSeq->dJ, drawOrder->dN, release->d0, pyIter->d5, richCompare_meets_room->d6, concat_meets->d7, wpAny_getItem_list_neg->d9
open PySem.Around renaming under_plainId->č, under->bD
open PySem.Builtin renaming iter->Ų
open PySem.Builtin.Frozenset renaming sizeOf->cE
open PySem.Builtin.Str renaming strSliceIndices->Β
open PySem.Code renaming isFrame->bW
open PySem.FuncData.mk renaming injEq->bJ
open PySem.Heap renaming get?_push_of_some->Ä, get?_push_size->Ô, lt_size->Ú, get?_update_other->ñ, get?_update_self->Ė, SameBut->ŵ, size_push->Ŷ, LeftW->dG
open PySem.Heap.SameBut renaming update->ą
open PySem.NameKind renaming free->Ĩ, cell->ee
open PySem.Obj renaming mapSeq->ω, data_mapFields->Α, mapFields->Ξ, isFreed_of_fields->cQ, putSet->ej
open PySem.PyData renaming eqv->ĩ, depthAll->Ŀ, canLayAll0->Ŗ, canLay0->Ű, eqvAll->Η
open PySem.SetTable renaming below->Ķ, grown->ύ, has->be, orStandIn->b7, slot->ei
open PySem.SetTable.below renaming go->aU
open PySem.SetTable.probe renaming go->ό
open PySem.Value renaming notImplemented->cq
open PySem.Value.type renaming inj->ak
open PySem.W renaming boot_heap->ū, findIn->Ϲ, boot_drawn->aE, SharedT->aX, boot_toks->bx, mg_of->cG, nsIn->ez, kitOne->eC
open PySem.pickOrder renaming go->aW
open String renaming ofList->Ζ, singleton->am, length_toList->bY, toList_ofList->bZ, length_append->b6
open UInt32.toNat renaming inj->bG
def bAq(a b:Bool):((a&&b)=eN)=(a=eN/\b=eN):=Bool.and_eq_true a b
abbrev gp:=@if_pos
abbrev gq:=@if_neg
abbrev gu:=@decide_eq_false
abbrev gx:=@decide_eq_true
abbrev gy:=@decide_eq_true_eq
@[reducible] noncomputable def gA:=@absurd
local macro_rules|`(tactic|let $p:term:=$e)=>do
 let k:=`Lean.Parser.Tactic
 let n(c:Lean.Name)(a:Array Lean.Syntax):Lean.Syntax:=.node .none (k++c) a
 let m(s:Lean.Syntax):=if s.isIdent then n `rcasesPat.one #[s]else if s.isOfKind ``Lean.Parser.Term.hole then n `rcasesPat.ignore #[s[0]]else if s.isOfKind ``Lean.Parser.Term.anonymousCtor then n `rcasesPat.tuple #[s[0],Lean.mkNullNode (s[1].getArgs.map λx=>if x.isAtom then x else n `rcasesPatLo #[n `rcasesPatMed #[Lean.mkNullNode #[x]],Lean.mkNullNode]),s[2]]else s
 `(tactic|obtain $(⟨n `rcasesPatMed #[Lean.mkNullNode #[p.raw.rewriteBottomUp m]]⟩):rcasesPatMed:=$e)
local macro_rules|`(command|instance $x:declId:$t $v:declVal)=>do
 if t.raw.getId != `Fn then Lean.Macro.throwUnsupported
 `(command|noncomputable abbrev $x:declId:$t $v:declVal)
local macro_rules|`(⇑$h)=>`(by simpa using $h)
namespace L2
open PySem PySem.Spec PyProof.Rows
noncomputable abbrev Key:=Sum Int Str
abbrev W7:Key->Ã->Bool
 |.inl k,v=>Value.isInt k v
 |.inr x,v=>Value.isStrOf x v
abbrev Sa(w:Ā):Key->Int
 |.inl k=>hashInt k
 |.inr x=>hashStr w x
def Zp:∀{k:Key}{v:Ã},W7 k v=eN->(∃i t,k=Sum.inl i/\v=Value.int i t)\/(∃x t,k=Sum.inr x/\v=Value.str x t)
 |.inl i,v,h=>by let⟨t,e⟩:=Value.isInt_shape (k:=i) (v:=v) h;exact .inl ⟨i,t,rfl,e⟩
 |.inr x,v,h=>by let⟨t,e⟩:=Value.isStrOf_shape (x:=x) (v:=v) h;exact .inr ⟨x,t,rfl,e⟩
def AW(i:Int)(t:Tok):W7 (.inl i) (.int i t)=eN:=by simp[W7,Value.isInt]
def AI(x:Str)(t:Tok):W7 (.inr x) (.str x t)=eN:=by simp[W7,Value.isStrOf]
def Pf(a b:Int):gB ((Sum.inl a:Key)=Sum.inl b)=(a==b):=by
 by_cases e:a=b
 .subst e;simp
 .have h:¬ (Sum.inl a:Key)=Sum.inl b:=λq=>e<|Sum.inl.inj q;rw[gu h];exact(beq_eq_false_iff_ne.mpr e).symm
def LI(a b:Str):gB ((Sum.inr a:Key)=Sum.inr b)=gB (a=b):=by
 by_cases e:a=b
 .subst e;simp
 .have h:¬ (Sum.inr a:Key)=Sum.inr b:=λq=>e<|Sum.inr.inj q;rw[gu h,gu e]
def Lh(a:Int)(b:Str):gB ((Sum.inl a:Key)=Sum.inr b)=eP:=gu (λq=>nomatch q)
def LH(a:Str)(b:Int):gB ((Sum.inr a:Key)=Sum.inl b)=eP:=gu (λq=>nomatch q)
abbrev Zh(prog:ã)(w:Ā):PySem.KeyKind prog w Key where
 is:=W7
 hash:=Sa w
 inj:=λv a b ha hb=>by
  rcases Zp ha with⟨i,t,rfl,rfl⟩|⟨x,t,rfl,rfl⟩
  .rcases Zp hb with⟨j,u,rfl,e⟩|⟨y,u,rfl,e⟩
   .injection e with e1 _;rw[e1]
   .exact nomatch e
  .rcases Zp hb with⟨j,u,rfl,e⟩|⟨y,u,rfl,e⟩
   .exact nomatch e
   .injection e with e1 _;rw[e1]
 byValue:=λk v h=>by rcases Zp h with⟨i,t,rfl,rfl⟩|⟨x,t,rfl,rfl⟩<;>rfl
 pyHash:=λhv h=>by
  rcases Zp hv with⟨i,t,rfl,rfl⟩|⟨x,t,rfl,rfl⟩
  .exact wpAny_pyHash_int h
  .exact wpAny_pyHash_str h
 eqBool:=λhu hv h=>by
  rcases Zp hu with⟨i,t,rfl,rfl⟩|⟨x,t,rfl,rfl⟩
  .rcases Zp hv with⟨j,u,rfl,rfl⟩|⟨y,u,rfl,rfl⟩
   .rw[Pf]at h;exact wpAny_eqBool_int h
   .rw[Lh]at h;exact SeqAt.EqAt.int_str i t y u _ _ _ _ h
  .rcases Zp hv with⟨j,u,rfl,rfl⟩|⟨y,u,rfl,rfl⟩
   .rw[LH]at h;exact SeqAt.EqAt.str_int x t j u _ _ _ _ h
   .rw[LI]at h;exact wpAny_eqBool_str h
 «strs»:=λk x t v h=>by
  rcases Zp h with⟨i,u,rfl,e⟩|⟨y,u,rfl,e⟩
  .exact nomatch e
  .injection e with e1 _;subst e1;cases v<;>rfl
def N3(prog:ã)(w:Ā)(i:Int)(t:Tok):(Zh prog w).is (.inl i) (.int i t)=eN:=AW i t
def No(prog:ã)(w:Ā)(x:Str)(t:Tok):(Zh prog w).is (.inr x) (.str x t)=eN:=AI x t
inductive V where
 |non|bl (b:Bool)|int (i:Int)|str (x:Str)|byt (b:Array UInt8)|flt (b:UInt64)|ref (a:Í)|ty (n:String)
 deriving DecidableEq
abbrev RelV:V->Ã->Prop
 |.non,u=>u=Value.none
 |.bl b,u=>u=Value.bool b
 |.int i,u=>∃t,u=Value.int i t
 |.str x,u=>∃t,u=Value.str x t
 |.byt b,u=>∃t,u=Value.bytes b t
 |.flt b,u=>∃t,u=Value.float b t
 |.ref a,u=>u=Value.ref a
 |.ty n,u=>u=Value.type n
@[reducible] noncomputable def f8:List V->List Ã->Prop:=Paired RelV
def f8.length{xs:List V}{us:List Ã}(r:f8 xs us):xs.length=us.length:=Paired.length r
def f8.get:∀{xs:List V}{us:List Ã}{i:Nat}{x:V},f8 xs us->xs[i]?=eL x->∃u,us[i]?=eL u/\RelV x u
 |_,_,_,_,.nil,e=>by simp at e
 |_,_,0,_,.cons r _,e=>by simp at e;subst e;exact⟨_,rfl,r⟩
 |_,_,i+1,x,.cons _ t,e=>by let⟨u,h1,h2⟩:=f8.get (i:=i) (x:=x) t ⇑e;exact⟨u,⇑h1,h2⟩
def f8.set{x:V}{u:Ã}(r:RelV x u):∀{xs:List V}{us:List Ã}(i:Nat),f8 xs us->f8 (xs.set i x) (us.set i u)
 |_,_,_,.nil=>.nil
 |_,_,0,.cons _ t=>.cons r t
 |_,_,i+1,.cons q t=>.cons q<|f8.set r i t
def f8.append:∀{xs ys:List V}{us ws:List Ã},f8 xs us->f8 ys ws->f8 (xs++ys) (us++ws)
 |_,_,_,_,.nil,s=>s
 |_,_,_,_,.cons r t,s=>.cons r<|f8.append t s
def f8.take:∀{xs:List V}{us:List Ã}(n:Nat),f8 xs us->f8 (xs.take n) (us.take n)
 |_,_,0,_=>.nil
 |_,_,_+1,.nil=>.nil
 |_,_,n+1,.cons r t=>.cons r<|f8.take n t
def f8.drop:∀{xs:List V}{us:List Ã}(n:Nat),f8 xs us->f8 (xs.drop n) (us.drop n)
 |_,_,0,r=>r
 |_,_,_+1,.nil=>.nil
 |_,_,n+1,.cons _ t=>f8.drop n t
abbrev fx:Option V->Option Ã->Prop
 |some v,eL u=>RelV v u
 |none,eM=>True
 |_,_=>False
abbrev KV{κ:Type}:List (κ×V)->List (κ×Ã)->Prop:=Paired λ(p:κ×V) (q:κ×Ã)=>p.1=q.1/\RelV p.2 q.2
abbrev kV:Key->V
 |.inl i=>.int i
 |.inr x=>.str x
inductive HO where
 |lst (xs:List V)
 |tup (xs:List V)
 |dK (kvs:List<|Key×V)|dT (kvs:List<|List Key×V)
 |set (S:Int->Bool) (n:Nat)
 |ins (C dx:Í) (fs:List<|Str×V)
 |own (x:Í)
 |xd (fs:List<|Str×V)
 |met (f x:Í)
 |rng (lo hi:Int)
 |frz (o:Obj) (u:HO)
 |tbl (ps:Array Ã)
 |ext (φ:ĉ->Prop)
noncomputable abbrev Hp:=Í->Option HO
abbrev upd(H:Hp)(a:Í)(o:HO):Hp:=λb=>if b=a then eL o else H b
variable {H:Hp} {a:Í} {o:HO}
def eR:upd H a o a=eL o:=by unfold upd;rw[gp rfl]
variable {b:Í}
def eQ(h:b≠a):upd H a o b=H b:=by unfold upd;rw[gq h]
variable {u:HO}
def eS:upd (upd H a o) a u=upd H a u:=by funext b;unfold upd;split<;>rfl
def Qr(h:H a=eL o)(h':H b=eL u)(d:o≠u):a≠b:=by intro e;subst e;rw[h]at h';exact d (è h')
def Zj(h:H a=eL o)(h':H b=eM):a≠b:=by intro e;subst e;rw[h]at h';cases h'
section
variable (P:ã) (w:Ā)
abbrev eZ(H:Hp)(h:ĉ)(a:Í):HO->Prop
 |.lst xs=>xs.length<=ß/\∃(ø:List Ã) (n:Nat),f8 xs ø/\h.get? a=eL {cls:=.type "list",data:=.seq ø.toArray n}
 |.tup xs=>xs.length<=ß/\∃ø:List Ã,f8 xs ø/\aN h a ø.toArray
 |.dK kvs=>kvs.length<=ß/\(a==Ś)=eP/\∃vs,KV kvs vs/\h.DictOf (Zh P w) a vs
 |.dT kvs=>kvs.length<=ß/\(a==Ś)=eP/\∃xs:List<|List Key×Í×Ã,
   Paired (λ(p:List Key×V) (q:List Key×Í×Ã)=>p.1=q.1/\H q.2.1=eL (.tup<|p.1.map kV)/\RelV p.2 q.2.2) kvs xs/\
   ∃o es ep,h.get? a=eL o/\o.ExactDict/\o.data=.dict es ep/\es.toList=xs.map (entryOfKey<|ah<|Zh P w)/\(xs.map (·.1)).Nodup
 |.set S n=>h.SetOf (ś P w) a S n
 |.ins C dx fs=>H dx=eL (.own a)/\fs.length<=1000/\dx≠a/\h.get? a=eL (PySem.W.instObj C dx)/\
   ∃mA,h.Ns1 dx mA/\(∀f,fx (fs.lookup f)<|mA f)/\PySem.Within mA (fs.map (·.1))
 |.own _=>∃o,h.get? a=eL o
 |.xd fs=>∃mA,h.Ns1 a mA/\∀f,fx (fs.lookup f) (mA f)
 |.rng lo hi=>∃t u v,h.get? a=eL {cls:=.type "range",data:=.fields #[.int lo t,.int hi u,.int 1 v]}
 |.frz o u=>h.get? a=eL o/\eZ H h a u
 |.tbl ps=>h.get? a=eL {cls:=.none,data:=.fields ps}
 |.met f x=>h.get? a=eL (PySem.W.methodObj (.ref f)<|.ref x)
 |.ext φ=>φ h/\(∃o,h.get? a=eL o)/\∀h1 h2:ĉ,φ h1->(∀o,h1.get? a=eL o->h2.get? a=eL o)->φ h2
abbrev HOk(H:Hp)(h:ĉ):Prop:=∀a o,H a=eL o->eZ P w H h a o
end
section
variable {P:ã}{w:Ā}{H H':Hp}{h h':ĉ}{a:Í}{o:HO}
def eZ.lt(x:eZ P w H h a o):a<h.objs.size:=by
 cases o with
 |lst xs=>let⟨_,_,_,_,e⟩:=x;exact Ú e
 |tup xs=>let⟨_,_,_,p⟩:=x;exact p.lt
 |dK kvs=>let⟨_,_,_,_,o,_,_,e,_⟩:=x;exact Ú e
 |dT kvs=>let⟨_,_,_,_,o,_,_,e,_⟩:=x;exact Ú e
 |set S n=>let⟨o,_,_,_,e,_⟩:=x;exact Ú e
 |ins C dx fs=>let⟨_,_,_,e,_⟩:=x;exact Ú e
 |own y=>let⟨_,e⟩:=x;exact Ú e
 |xd fs=>let⟨_,⟨_,_,_,e,_⟩,_⟩:=x;exact Ú e
 |rng lo hi=>let⟨_,_,_,e⟩:=x;exact Ú e
 |frz ob u=>let⟨e,_⟩:=x;exact Ú e
 |tbl ps=>exact Ú (show h.get? a=eL _ from x)
 |met f y=>exact Ú (show h.get? a=eL _ from x)
 |ext φ=>let⟨_,⟨_,e⟩,_⟩:=x;exact Ú e
def Paired.mapP{α β:Type}{F G:α->β->Prop}:∀{l₁:List α}{l₂:List β},Paired F l₁ l₂->(∀a b,F a b->G a b)->Paired G l₁ l₂
 |_,_,.nil,_=>.nil
 |_,_,.cons r t,f=>.cons (f _ _ r)<|Paired.mapP t f
def eZ.stay(x:eZ P w H h a o)(k:∀b u,(b=a\/H b=eL (.own a))->h.get? b=eL u->h'.get? b=eL u)
  (ho:∀b,H b=eL (.own a)->H' b=eL (.own a)) (ht:∀b xs,H b=eL (.tup xs)->H' b=eL (.tup xs)):eZ P w H' h' a o:=by
 induction o with
 |lst xs=>let⟨z,ø,n,r,e⟩:=x;exact⟨z,ø,n,r,k _ _ (.inl rfl) e⟩
 |tup xs=>let⟨z,ø,r,ob,e,c⟩:=x;exact⟨z,ø,r,ob,k _ _ (.inl rfl) e,c⟩
 |dK kvs=>let⟨z,y,vs,r,ob,es,ep,e,c⟩:=x;exact⟨z,y,vs,r,ob,es,ep,k _ _ (.inl rfl) e,c⟩
 |dT kvs =>let⟨z,y,xs,r,ob,es,ep,e,c⟩:=x;exact⟨z,y,xs,Paired.mapP r λp q z=>⟨z.1,ht _ _ z.2.1,z.2.2⟩,ob,es,ep,k _ _ (.inl rfl) e,c⟩
 |set S n=>let⟨ob,es,ep,t,e,c⟩:=x;exact⟨ob,es,ep,t,k _ _ (.inl rfl) e,c⟩
 |ins C dx fs =>let⟨d,z,ne,e,mA,⟨od,es,ep,e2,c⟩,r⟩:=x;exact⟨ho _ d,z,ne,k _ _ (.inl rfl) e,mA,⟨od,es,ep,k _ _ (.inr d) e2,c⟩,r⟩
 |own y=>let⟨ob,e⟩:=x;exact⟨ob,k _ _ (.inl rfl) e⟩
 |xd fs=>let⟨mA,⟨od,es,ep,e,c⟩,r⟩:=x;exact⟨mA,⟨od,es,ep,k _ _ (.inl rfl) e,c⟩,r⟩
 |rng lo hi=>let⟨t,u,v,e⟩:=x;exact⟨t,u,v,k _ _ (.inl rfl) e⟩
 |frz ob u ih=>let⟨e,q⟩:=x;exact⟨k _ _ (.inl rfl) e,ih q⟩
 |tbl ps =>have e:h.get? a=eL {cls:=.none,data:=.fields ps}:=x;show h'.get? a=eL {cls:=.none,data:=.fields ps};exact k a _ (.inl rfl) e
 |met f y =>have e:h.get? a=eL (PySem.W.methodObj (.ref f)<|.ref y):=x;show h'.get? a=eL (PySem.W.methodObj (.ref f)<|.ref y);exact k a _ (.inl rfl) e
 |ext φ=>let⟨p,⟨o,e⟩,st⟩:=x;exact⟨st _ _ p λo q=>k _ _ (.inl rfl) q,⟨o,k _ _ (.inl rfl) e⟩,st⟩
def HOk.lt(x:HOk P w H h)(e:H a=eL o):a<h.objs.size:=(x a o e).lt
def HOk.fresh(x:HOk P w H h)(e:h.objs.size<=a):H a=eM:=by
 cases q:H a with
 |none=>rfl
 |some u=>exact gA (ä (x.lt q) e)<|ġ _
def HOk.kept(x:HOk P w H h)(k:∀b u,h.get? b=eL u->h'.get? b=eL u):HOk P w H h':=λa o e =>
 (x a o e).stay (λb u _ q=>k b u q) (λ_ q=>q) λ_ _ q=>q
def HOk.laid(x:HOk P w H h)(k:∀b u,h.get? b=eL u->h'.get? b=eL u)(hp:h.objs.size<=a)(new:eZ P w (upd H a o) h' a o):HOk P w (upd H a o) h':=λb u e=>by
 have hn:=x.fresh hp;by_cases hb:b=a
 .subst hb;rw[eR]at e;cases e;exact new
 .rw[eQ hb]at e;exact(x b u e).stay (λc v _ q=>k c v q) (λc q=>by rw[eQ<|Zj q hn];exact q) λc xs q=>by rw[eQ<|Zj q hn];exact q
end
abbrev Rd(H:Hp)(a:Í)(u:HO):Prop:=H a=eL u\/∃o,H a=eL (.frz o u)
variable {h:ĉ}
def Rd.ok{P:ã}{w:Ā}(r:Rd H a u)(x:HOk P w H h):eZ P w H h a u:=by
 rcases r with r|⟨o,r⟩
 .exact x a u r
 .obtain⟨_,q⟩:=x a _ r;exact q
abbrev Mut:Option HO->Prop
 |some (.lst _)=>True
 |some (.dK _)=>True
 |some (.dT _)=>True
 |some (.set _ _)=>True
 |some (.ins _ _ _)=>True
 |some (.ext _)=>True
 |_=>False
section
variable {P:ã}{w:Ā}{H:Hp}{h h':ĉ}{x e:Í}{o':HO}
def HOk.write(ok:HOk P w H h)(mu:Mut<|H x)(he:e=x\/H e=eL (.own x))(k:∀b u,b≠e->h.get? b=eL u->h'.get? b=eL u)(heo:∃u,h'.get? e=eL u)
  (new:eZ P w (upd H x o') h' x o'):HOk P w (upd H x o') h':=λb u q=>by
 have nown:∀c y,H c=eL (.own y)->c≠x:=λc y r z=>by subst z;rw[r]at mu;exact mu
 have ntup:∀c xs,H c=eL (.tup xs)->c≠x:=λc xs r z=>by subst z;rw[r]at mu;exact mu
 by_cases hb:b=x
 .subst hb;rw[eR]at q;cases q;exact new
 .rw[eQ hb]at q;by_cases hbe:b=e
  .have q':H b=eL (.own x):=by
    rcases he with z|z
    .exact gA (hbe.trans z) hb
    .rw[hbe];exact z
   rw[q]at q';cases q';let⟨v,hv⟩:=heo;exact⟨v,by rw[hbe];exact hv⟩
  .refine(ok b u q).stay (λc v hc r=>k c v ?_ r) (λc r=>by rw[eQ<|nown c b r];exact r) λc xs r=>by rw[eQ<|ntup c xs r];exact r
   rcases hc with rfl|hc
   .exact hbe
   .rintro rfl;rcases he with z|z
    .exact nown c b hc z
    .rw[hc]at z;cases z;exact hb rfl
end
structure Un(fs ex:List Í)(H H':Hp)(h h':ĉ):Prop where
 keep:∀b o,h.get? b=eL o->H b=eM->b∉fs->b∉ex->h'.get? b=eL o
 slot:∀b o,h.get? b=eL o->H b=eM->b∈fs->b∉ex->∃sl,h'.get? b=eL {o with slots:=sl}
 free:∀b o,h.get? b=eL o->H b=eM->b∉ex->H' b=eM
 there:∀b o,h.get? b=eL o->b∉ex->∃o',h'.get? b=eL o'
 tups:∀b xs,H b=eL (.tup xs)->H' b=eL (.tup xs)
 frzs:∀b o u,H b=eL (.frz o u)->H' b=eL (.frz o u)
 tbls:∀b ps,H b=eL (.tbl ps)->∃more,H' b=eL (.tbl<|ps++more)
section
variable {fs fs' ex ex':List Í}{H H1 H2:Hp}{h h1 h2 h':ĉ}{a x e:Í}{o:HO}
def Un.any(u:Un fs ex H H1 h h1){ob:Obj}(q:h.get? b=eL ob)(n:H b=eM)(hx:b∉ex):∃sl,h1.get? b=eL {ob with slots:=sl}:=by
 by_cases hb:b∈fs
 .exact u.slot b ob q n hb hx
 .exact⟨ob.slots,u.keep b ob q n hb hx⟩
def Un.kept(k:∀b u,h.get? b=eL u->h'.get? b=eL u):Un fs ex H H h h' :=
 ⟨λb ob q _ _ _=>k b ob q,λb ob q _ _ _=>⟨ob.slots,k b ob q⟩,λ_ _ _ n _=>n,λb ob q _=>⟨ob,k b ob q⟩,λ_ _ q=>q,λ_ _ _ q=>q,λ_ ps q=>⟨#[],by rw[q];simp⟩⟩
def Un.refl:Un fs ex H H h h:=Un.kept λ_ _ q=>q
def Un.laid(k:∀b u,h.get? b=eL u->h'.get? b=eL u)(hp:h.objs.size<=a)(hn:H a=eM):Un fs ex H (upd H a o) h h' where
 keep:=λb u q _ _ _=>k b u q
 slot:=λb u q _ _ _=>⟨u.slots,k b u q⟩
 free:=λb u q n _=>by rw[eQ<|æ<|ä (Ú q) hp];exact n
 there:=λb u q _=>⟨u,k b u q⟩
 tups:=λb xs q=>by rw[eQ<|Zj q hn];exact q
 frzs:=λb u xs q=>by rw[eQ<|Zj q hn];exact q
 tbls:=λb ps q=>⟨#[],by rw[eQ<|Zj q hn,q];simp⟩
def Un.write(mu:Mut<|H x)(he:e=x\/H e=eL (.own x))(k:∀b u,b≠e->h.get? b=eL u->h'.get? b=eL u)(heo:∃u,h'.get? e=eL u):Un fs ex H (upd H x o) h h':=by
 have hx:∀b,H b=eM->b≠x:=λb n z=>by subst z;rw[n]at mu;exact mu
 have hb:∀b,H b=eM->b≠e:=λb n z=>by
  subst z;rcases he with r|r
  .exact hx b n r
  .rw[n]at r;cases r
 have hm:∀b u,H b=eL u->¬ Mut (eL u)->b≠x:=λb u q nm z=>by subst z;rw[q]at mu;exact nm mu
 refine⟨λb u q n _ _=>k b u (hb b n) q,λb u q n _ _=>⟨u.slots,k b u (hb b n) q⟩,λb u q n _=>by rw[eQ<|hx b n];exact n,λb u q _=>?_,
   λb xs q=>by rw[eQ<|hm b _ q λz=>z];exact q,λb u xs q=>by rw[eQ<|hm b _ q λz=>z];exact q,λb ps q=>⟨#[],by rw[eQ<|hm b _ q λz=>z,q];simp⟩⟩
 by_cases hbe:b=e
 .subst hbe;exact heo
 .exact⟨u,k b u hbe q⟩
end
abbrev trk(h:ĉ)(H:Hp):List Í:=(List.range h.objs.size).filter λa=>(H a).isSome
abbrev M9(h:ĉ)(H:Hp):ĉ:=PySem.W.hideAll h<|trk h H
def AN(h:ĉ)(H:Hp):(M9 h H).objs.size=h.objs.size:=PySem.W.hideAll_size _ _
def DK{o:Obj}(e:h.get? b=eL o)(n:H b=eM):(M9 h H).get? b=eL o :=
 PySem.W.hideAll_get _ e λhm=>by have q:(H b).isSome=eN:=(û.mp hm).2;rw[n]at q;simp at q
def Fw{o:Obj}(e:(M9 h H).get? b=eL o):h.get? b=eL o/\H b=eM:=by
 have e':h.get? b=eL o:=PySem.W.of_hideAll (trk h H) e;refine⟨e',?_⟩;cases q:H b with
 |none=>rfl
 |some x =>have hm:b∈trk h H:=û.mpr ⟨Ŵ.mpr<|Ú e',by simp[q]⟩;have z:(M9 h H).get? b=eM:=PySem.W.hideAll_none (trk h H) hm;rw[z]at e;cases e
abbrev FW(g h:ĉ)(L:Í):List<|Í×Obj:=(List.range h.objs.size).filterMap λa=>if a=L\/(g.get? a).isSome=eN then eM else(h.get? a).map λo=>(a,o)
abbrev rest(g h:ĉ)(L d:Í):List<|Í×Obj:=(FW g h L).filter λp=>gB (p.1≠d)
structure Mod(K:Frag)(mg:Str->Option Ã)(base:ĉ):Prop where
 kin:K.In base
 glob:base.Ns ć mg
 blt:∃mb,base.Ns builtinsNs mb/\∀x:Str,x≠"__name__"->mb x=ũ x
 nolimit:base.NoLimit
structure Cx where
 prog:ã
 w:Ā
 K:Frag
 mg:Str->Option Ã
 base:ĉ
 A:Ċ
 N:List Str
 s₀:Å
 H₀:Hp
 env:Env
 outer:List Env
 stack:List Env
 ex:List Í
 fn:Str->Bool
 calm:Bool
 pn:List<|Í×Obj
 xe:Ã->Å->Prop
abbrev frs(l:List Env):List Í:=l.filterMap (·.frame)
noncomputable abbrev Cx.fs(X:Cx):List Í:=frs X.outer
abbrev Vis(sc:ν)(x:Str):Prop:=sc.names.lookup x=eL .local\/sc.names.lookup x=eL .cell\/sc.names.lookup x=eL .free
abbrev Loc(sc:ν)(x:Str):Prop:=sc.names.lookup x=eL .local\/sc.names.lookup x=eL .cell
abbrev SO(env:Env)(h:ĉ)(m:Str->Option Ã)(x:Str)(u:Ã):Prop :=
 (env.kindOf x=eL .local/\m x=eL u)\/((env.kindOf x=eL .cell\/env.kindOf x=eL .free)/\∃c,env.cells.lookup x=eL c/\h.IsCell c (eL u))
structure Cx.Ok(X:Cx):Prop where
 mod:Mod X.K X.mg X.base
 kind:X.env.scope.kind=.function
 glob:X.env.globals=ć
 blt:X.env.builtins=builtinsNs
 above:X.s₀.heap.objs.size<=X.env.locals
 inj:∀x y c,X.env.cells.lookup x=eL c->X.env.cells.lookup y=eL c->x=y
 has:∀x,(X.env.kindOf x=eL .cell\/X.env.kindOf x=eL .free)->∃c,X.env.cells.lookup x=eL c
 cab:∀x c,X.fn x=eN->X.env.cells.lookup x=eL c->X.s₀.heap.objs.size<=c
 hd:X.calm=eN->X.A.handled=eM
 frames:X.A.frames=eL X.stack
 stk:X.stack=X.outer\/(X.stack=X.env::X.outer/\X.env.frame=eL X.env.locals)
 exf:∀b∈X.ex,b≠X.env.locals/\∀x c,X.env.cells.lookup x=eL c->c≠b
 bs:∀b o,X.base.get? b=eL o->X.s₀.heap.get? b=eL o/\X.H₀ b=eM
 bsz:X.base.objs.size<=X.s₀.heap.objs.size
 noex:∀b o,X.base.get? b=eL o->b∉X.ex
 exfs:∀b∈X.ex,b∉X.fs
 funs:X.s₀.heap.FunFrames X.base X.outer
 frf:∀b∈X.fs,X.H₀ b=eM
structure Inv(X:Cx)(Â:List<|Í×Obj)(σ:List<|Option V)(H:Hp)(s:Å):Prop where
 ok:X.Ok
 os:s.os=X.s₀.os
 bare:Ψ s.gens
 base:Un X.fs X.ex X.H₀ H X.s₀.heap s.heap
 loc:∃m,s.heap.Ns X.env.locals m/\∀(i:Nat) (x:Str) (v:V),X.N[i]?=eL x->σ[i]?=eL (eL v)->Vis X.env.scope x->∃u,RelV v u/\SO X.env s.heap m x u
 cell:∀x c,X.env.cells.lookup x=eL c->∃v,s.heap.IsCell c v
 free:H X.env.locals=eM
 freeC:∀x c,X.env.cells.lookup x=eL c->H c=eM
 pin:∀p∈X.pn++Â,s.heap.get? p.1=eL p.2/\H p.1=eM/\p.1≠X.env.locals/\p.1∉X.fs/\∀v,p.2.data≠.cell v
 hok:HOk X.prog X.w H s.heap
 len:σ.length=X.N.length
section
variable {X:Cx}{Â:List (Í×Obj)}{σ:List (Option V)}{H H':Hp}{s:Å}{h':ĉ}
def Cx.Ok.nofr(ok:X.Ok){b:Í}{o:Obj}(e:X.base.get? b=eL o):b∉X.fs:=λhb=>by have:=(ok.funs.mem hb).1;rw[e]at this;cases this
def Inv.bs(I:Inv X Â σ H s):∀b o,X.base.get? b=eL o->s.heap.get? b=eL o/\H b=eM:=λb o e =>
 ⟨I.base.keep b o (I.ok.bs b o e).1 (I.ok.bs b o e).2 (I.ok.nofr e)<|I.ok.noex b o e,I.base.free b o (I.ok.bs b o e).1 (I.ok.bs b o e).2<|I.ok.noex b o e⟩
def Inv.bk(I:Inv X Â σ H s):∀b o,X.base.get? b=eL o->s.heap.get? b=eL o:=λb o e=>(I.bs b o e).1
def Inv.mod(I:Inv X Â σ H s):Mod X.K X.mg X.base:=I.ok.mod
def Inv.kIn(I:Inv X Â σ H s):X.K.In s.heap:=I.ok.mod.kin.keeps I.bk
def Inv.lt(I:Inv X Â σ H s):X.env.locals<s.heap.objs.size:=let ⟨_,hn,_⟩:=I.loc;hn.lt
def Inv.sz(I:Inv X Â σ H s):X.s₀.heap.objs.size<=s.heap.objs.size:=Ý I.ok.above (π I.lt)
variable {a:Í}
def Inv.nofs(I:Inv X Â σ H s)(h:s.heap.objs.size<=a):a∉X.fs:=λhb=>by let⟨_,o,ho,_⟩:=I.ok.funs.mem hb;exact gA (ä (Ú ho)<|Ý I.sz h) (ġ _)
def Inv.cne(I:Inv X Â σ H s):∀x c,X.env.cells.lookup x=eL c->c≠X.env.locals:=λx c e z=>by let⟨v,o,ho,hd⟩:=I.cell x c e;let⟨m,⟨o',es,ep,ab,hd',_⟩,_⟩:=I.loc;rw[z,ab]at ho;cases ho;rw[hd']at hd;cases hd
def Inv.funs(I:Inv X Â σ H s):s.heap.FunFrames X.base X.outer:=by
 have all:∀(l:List Env),(∀b∈frs l,b∈X.fs)->X.s₀.heap.FunFrames X.base l->s.heap.FunFrames X.base l:=by
  intro l;induction l with
  |nil=>intro _ _;trivial
  |cons env r ih =>intro hs hl;let⟨hk,⟨L,o,hf,hn,ho,hd⟩,hr⟩:=hl;have hL:L∈X.fs:=hs L (by unfold frs;rw[ð,hf];exact ô);let⟨sl,e⟩:=I.base.slot L o ho (I.ok.frf L hL) hL λz=>I.ok.exfs L z hL;exact⟨hk,⟨L,_,hf,hn,e,hd⟩,ih (λb hb=>hs b<|by unfold frs;rw[ð,hf];exact á _ hb) hr⟩
 exact all X.outer (λ_ hb=>hb) I.ok.funs
def Inv.stack(I:Inv X Â σ H s):s.heap.FunFrames X.base X.stack:=by
 rcases I.ok.stk with e|⟨e,hf⟩
 .rw[e];exact I.funs
 .rw[e];let⟨m,hn,_⟩:=I.loc;refine .cons (by rw[I.ok.kind];decide) hf hn ?_ I.funs;exact Heap.get?_none_of_le<|Ý I.ok.bsz I.ok.above
def Inv.stkSub(I:Inv X Â σ H s):∀b∈frs X.stack,b∈X.env.locals::X.fs:=λb hb=>by
 rcases I.ok.stk with e|⟨e,hf⟩
 .rw[e]at hb;exact á _ hb
 .rw[e]at hb;unfold frs at hb;rw[ð,hf]at hb;exact hb
def Inv.stkFree(I:Inv X Â σ H s):∀b∈frs X.stack,H b=eM:=λb hb=>by
 rcases È.mp (I.stkSub b hb)with e|hb
 .rw[e];exact I.free
 .obtain⟨_,o,ho,_⟩:=I.ok.funs.mem hb;exact I.base.free b o ho (I.ok.frf b hb) λz=>I.ok.exfs b z hb
variable {g':Array cg} {t':Nat} {d':Drawn} {ch:List Í}
def Inv.step(I:Inv X Â σ H s)
  (hch:∀b∈ch,(b∈X.ex\/X.s₀.heap.objs.size<=b)/\b≠X.env.locals/\(∀x c,X.env.cells.lookup x=eL c->c≠b)/\∀p∈X.pn++Â,p.1≠b)
  (keep:∀b o,b≠X.env.locals->b∉X.fs->b∉ch->s.heap.get? b=eL o->H b=eM->h'.get? b=eL o)
  (slot:∀b o,b≠X.env.locals->b∈X.fs->b∉ch->s.heap.get? b=eL o->H b=eM->∃sl,h'.get? b=eL {o with slots:=sl}) (free:∀b o,b∉ch->s.heap.get? b=eL o->H b=eM->H' b=eM)
  (there:∀b o,b∉ch->s.heap.get? b=eL o->∃o',h'.get? b=eL o')
  (tups:∀b xs,H b=eL (.tup xs)->H' b=eL (.tup xs)) (frzs:∀b o u,H b=eL (.frz o u)->H' b=eL (.frz o u)) (tbls:∀b ps,H b=eL (.tbl ps)->∃more,H' b=eL (.tbl<|ps++more))
  (ns:∀m,s.heap.Ns X.env.locals m->h'.Ns X.env.locals m) (hok:HOk X.prog X.w H' h') (hg:Ψ g') :
  Inv X Â σ H' {s with heap:=h',gens:=g',drawn:=d',toks:=t'}:=by
 have neL:∀b o,X.s₀.heap.get? b=eL o->b≠X.env.locals:=λb o e=>æ<|ä (Ú e) I.ok.above;have neC:∀b o,X.s₀.heap.get? b=eL o->b∉X.ex->b∉ch:=λb o e hx hb=>by
  rcases (hch b hb).1 with z|z
  .exact hx z
  .exact gA (ä (Ú e) z)<|ġ _
 have cellK:∀x c,X.env.cells.lookup x=eL c->∀v,s.heap.IsCell c v->h'.IsCell c v:=λx c e v ⟨o,ho,hd⟩=>by
  have nch:c∉ch:=λz=>(hch c z).2.2.1 x c e rfl;by_cases hc:c∈X.fs
  .obtain⟨sl,q⟩:=slot c o (I.cne x c e) hc nch ho<|I.freeC x c e;exact⟨_,q,hd⟩
  .exact⟨o,keep c o (I.cne x c e) hc nch ho<|I.freeC x c e,hd⟩
 refine⟨I.ok,I.os,hg,⟨λb o e n hb hx=>?_,λb o e n hb hx=>?_,λb o e n hx=>?_,λb o e hx=>?_,λb xs e=>tups b xs<|I.base.tups b xs e,λb o xs e=>frzs b o xs<|I.base.frzs b o xs e,λb ps e=>?_⟩,?_,λx c e=>?_,?_,λx c e=>?_,λp hp=>?_,hok,I.len⟩
 .exact keep b o (neL b o e) hb (neC b o e hx) (I.base.keep b o e n hb hx)<|I.base.free b o e n hx
 .obtain⟨sl,e1⟩:=I.base.slot b o e n hb hx;let⟨sl',e2⟩:=slot b _ (neL b o e) hb (neC b o e hx) e1<|I.base.free b o e n hx;exact⟨sl',e2⟩
 .obtain⟨o',e1⟩:=I.base.there b o e hx;exact free b o' (neC b o e hx) e1<|I.base.free b o e n hx
 .obtain⟨o',e1⟩:=I.base.there b o e hx;exact there b o' (neC b o e hx) e1
 .obtain⟨m1,e1⟩:=I.base.tbls b ps e;let⟨m2,e2⟩:=tbls b _ e1;exact⟨m1++m2,by rw[e2,Array.append_assoc]⟩
 .obtain⟨m,hn,hl⟩:=I.loc;refine⟨m,ns m hn,λi x v e1 e2 e3=>?_⟩;let⟨u,r,l⟩:=hl i x v e1 e2 e3;refine⟨u,r,?_⟩;rcases l with l|⟨k,c,e,z⟩
  .exact .inl l
  .exact .inr ⟨k,c,e,cellK x c e _ z⟩
 .obtain⟨v,z⟩:=I.cell x c e;exact⟨v,cellK x c e v z⟩
 .obtain⟨m,⟨o,_,_,ho,_⟩,_⟩:=I.loc;exact free _ o (λz=>(hch _ z).2.1 rfl) ho I.free
 .obtain⟨v,o,ho,hd⟩:=I.cell x c e;exact free c o (λz=>(hch c z).2.2.1 x c e rfl) ho<|I.freeC x c e
 .obtain⟨e,n,ne,nf,d⟩:=I.pin p hp;have nch:p.1∉ch:=λz=>(hch p.1 z).2.2.2 p hp rfl;exact⟨keep p.1 p.2 ne nf nch e n,free p.1 p.2 nch e n,ne,nf,d⟩
def Inv.un(I:Inv X Â σ H s)(u:Un X.fs [] H H' s.heap h')(hok:HOk X.prog X.w H' h'):Inv X Â σ H' {s with heap:=h',toks:=t'}:=by
 let⟨m,⟨o,es,ep,ho,r⟩,_⟩:=id I.loc;let⟨sl,hL⟩:=u.any ho I.free (by simp);exact I.step (g':=s.gens) (d':=s.drawn) (ch:=[]) (λ_ z=>nomatch z) (λb o _ hb _ e n=>u.keep b o e n hb<|by simp) (λb o _ hb _ e n=>u.slot b o e n hb<|by simp) (λb o _ e n=>u.free b o e n<|by simp) (λb o _ e=>u.there b o e<|by simp) u.tups u.frzs u.tbls (λm' hm=>by
   let⟨o',es',ep',ab,r'⟩:=hm
   rw[ho]at ab;cases ab
   exact⟨_,es',ep',hL,r'⟩) hok I.bare
def Inv.call(I:Inv X Â σ H s)(u:Un (frs X.stack) ch H H' s.heap h')(hok:HOk X.prog X.w H' h')(hg:Ψ g')
  (hch:∀b∈ch,(b∈X.ex\/X.s₀.heap.objs.size<=b)/\b≠X.env.locals/\(∀x c,X.env.cells.lookup x=eL c->c≠b)/\∀p∈X.pn++Â,p.1≠b) :
  Inv X Â σ H' {s with heap:=h',gens:=g',drawn:=d',toks:=t'}:=by
 let⟨m,⟨o,es,ep,ho,r⟩,_⟩:=id I.loc;let⟨sl,hL⟩:=u.any ho I.free λz=>(hch _ z).2.1 rfl;exact I.step (ch:=ch) hch (λb o hL hb hc e n=>u.keep b o e n (λz=>(È.mp<|I.stkSub b z).elim hL hb) hc) (λb o _ _ hc e n=>u.any e n hc) (λb o hc e n=>u.free b o e n hc) (λb o hc e=>u.there b o e hc) u.tups u.frzs u.tbls (λm' hm=>by
   let⟨o',es',ep',ab,r'⟩:=hm
   rw[ho]at ab;cases ab
   exact⟨_,es',ep',hL,r'⟩) hok hg
def Inv.turned{it:Í}(I:Inv X Â σ H s)(k:∀b o,b≠it->s.heap.get? b=eL o->h'.get? b=eL o)(hn:H it=eM)(hL:it≠X.env.locals)
  (h1:it∈X.ex\/X.s₀.heap.objs.size<=it) (h2:∀x c,X.env.cells.lookup x=eL c->c≠it) (h3:∀p∈X.pn++Â,p.1≠it):Inv X Â σ H {s with heap:=h',toks:=t'}:=by
 have nit:∀b u,H b=eL u->b≠it:=λb u e z=>by rw[z,hn]at e;cases e
 refine I.step (g':=s.gens) (d':=s.drawn) (ch:=[it]) (λb hb=>?_) (λb o _ _ hc e _=>k b o (λz=>hc<|by simp[z]) e) (λb o _ _ hc e _=>⟨o.slots,k b o (λz=>hc<|by simp[z]) e⟩) (λ_ _ _ _ n=>n)
  (λb o hc e=>⟨o,k b o (λz=>hc<|by simp[z]) e⟩) (λ_ _ e=>e) (λ_ _ _ e=>e) (λb ps e=>⟨#[],by rw[e];simp⟩) (λm hm=>?_) (λb u e=>?_) I.bare
 .have e:b=it:=⇑hb
  subst e;exact⟨h1,hL,h2,h3⟩
 .obtain⟨o,es,ep,ho,r⟩:=hm;exact⟨o,es,ep,k _ o (Ne.symm hL) ho,r⟩
 .refine(I.hok b u e).stay (λc v hc q=>k c v ?_ q) (λ_ q=>q) λ_ _ q=>q;rcases hc with z|z
  .rw[z];exact nit b u e
  .exact nit c _ z
def Inv.tok(I:Inv X Â σ H s)(t:Nat):Inv X Â σ H {s with toks:=t}:=I.un (h':=s.heap) (t':=t) Un.refl I.hok
def Inv.kept(I:Inv X Â σ H s)(k:∀b u,s.heap.get? b=eL u->h'.get? b=eL u):Inv X Â σ H {s with heap:=h',toks:=t'}:=I.un (Un.kept k) (I.hok.kept k)
variable {o:HO}
def Inv.laid(I:Inv X Â σ H s)(k:∀b u,s.heap.get? b=eL u->h'.get? b=eL u)(hp:s.heap.objs.size<=a)(new:eZ X.prog X.w (upd H a o) h' a o) :
  Inv X Â σ (upd H a o) {s with heap:=h',toks:=t'}:=I.un (Un.laid k hp<|I.hok.fresh hp)<|I.hok.laid k hp new
def Inv.write{x e:Í}(I:Inv X Â σ H s)(mu:Mut<|H x)(he:e=x\/H e=eL (.own x))(k:∀b u,b≠e->s.heap.get? b=eL u->h'.get? b=eL u)(heo:∃u,h'.get? e=eL u)
  (new:eZ X.prog X.w (upd H x o) h' x o):Inv X Â σ (upd H x o) {s with heap:=h',toks:=t'}:=I.un (Un.write mu he k heo)<|I.hok.write mu he k heo new
def Inv.pins_of{pins':List (Í×Obj)}(I:Inv X Â σ H s)(h:∀p∈pins',s.heap.get? p.1=eL p.2/\H p.1=eM/\p.1≠X.env.locals/\p.1∉X.fs/\∀v,p.2.data≠.cell v):Inv X pins' σ H s :=
 ⟨I.ok,I.os,I.bare,I.base,I.loc,I.cell,I.free,I.freeC,λp hp=>(Õ.mp hp).elim (λz=>I.pin p<|Ð _ z)<|h p,I.hok,I.len⟩
variable {i:Nat} {x:Str}
def N7{N:List Str}(hN:N.Nodup){j:Nat}(a:N[i]?=eL x)(b:N[j]?=eL x):i=j:=by let⟨h1,e1⟩:=Î.mp a;let⟨h2,e2⟩:=Î.mp b;exact(Τ hN).mp (e1.trans e2.symm)
variable {M:Model} {A:Ċ} {u:Ã} {Q:Unit->Å->Prop}
def Kz{E:Ã->Å->Prop}{v:V}(I:Inv X Â σ H s)(hN:X.N.Nodup)(hi:X.N[i]?=eL x)(hx:Loc X.env.scope x)(r:RelV v u)
  (h:∀s',Inv X Â (σ.set i<|eL v) H s'->(∃a,ŵ a s.heap s'.heap/\(a=X.env.locals\/X.env.cells.lookup x=eL a))->Q () s') (hf:X.fn x=eN\/X.env.scope.names.lookup x=eL .local:=by first|exact .inl rfl|exact .inr rfl|assumption):wpAny M A (storeName X.env x u) Q E s:=by
 let⟨m,hn,hl⟩:=id I.loc;have hcls:(X.env.scope.kind == .class||(X.env.scope.kind == .module&&X.env.locals != X.env.globals))=eP:=by rw[I.ok.kind];rfl
 have hiσ:i<σ.length:=by rw[I.len];exact(Î.mp hi).1
 have cne:=I.cne;have cU:∀{a:Í}{h':ĉ},(∃o,s.heap.get? a=eL o/\H a=eM)->ŵ a s.heap h'->HOk X.prog X.w H h':=λ{a h'} ha hs b ob e=>by
  let⟨_,_,hfree⟩:=ha;refine(I.hok b ob e).stay (λc w' hc q=>(hs.2 c ?_).trans q) (λ_ q=>q) λ_ _ q=>q;rintro rfl;rcases hc with rfl|hc
  .rw[hfree]at e;cases e
  .rw[hfree]at hc;cases hc
 rcases hx with hk|hk
 .refine wpAny_storeName_local hk hn (λh' hn' hs=>?_) hcls;let⟨oL,_,_,hoL,_⟩:=id hn;refine h _ ⟨I.ok,I.os,I.bare,⟨λb o e n hb hx=>?_,λb o e n hb hx=>?_,I.base.free,λb o e hx=>?_,I.base.tups,I.base.frzs,I.base.tbls⟩,⟨_,hn',λj y v' e1 e2 e3=>?_⟩,λy c e=>?_,I.free,I.freeC,λp hp=>?_,cU ⟨oL,hoL,I.free⟩ hs,by simpa using I.len⟩ ⟨_,hs,.inl rfl⟩
  .exact(hs.2 b<|æ<|ä (Ú e) I.ok.above).trans<|I.base.keep b o e n hb hx
  .obtain⟨sl,e1⟩:=I.base.slot b o e n hb hx;exact⟨sl,(hs.2 b<|æ<|ä (Ú e) I.ok.above).trans e1⟩
  .obtain⟨o',e1⟩:=I.base.there b o e hx;exact⟨o',(hs.2 b<|æ<|ä (Ú e) I.ok.above).trans e1⟩
  .by_cases hj:j=i
   .subst hj;rw[hi]at e1;cases e1;rw[Ω hiσ]at e2;cases e2;exact⟨u,r,.inl ⟨hk,by simp⟩⟩
   .rw[ι<|Ne.symm hj]at e2;let⟨u',r',q⟩:=hl j y v' e1 e2 e3;refine⟨u',r',?_⟩;rcases q with⟨k,e⟩|⟨k,c,e,z⟩
    .refine .inl ⟨k,?_⟩;have:y≠x:=λe=>hj<|N7 hN e1<|e▸hi;simp[this,e]
    .exact .inr ⟨k,c,e,z.sameBut hs<|cne y c e⟩
  .obtain⟨w',z⟩:=I.cell y c e;exact⟨w',z.sameBut hs<|cne y c e⟩
  .obtain⟨e,n,ne,nf,d⟩:=I.pin p hp;exact⟨(hs.2 p.1 ne).trans e,n,ne,nf,d⟩
 .have hfn:X.fn x=eN:=by
   rcases hf with z|z
   .exact z
   .rw[z]at hk;cases hk
  let⟨c,hc⟩:=I.ok.has x<|.inl hk;let⟨w',z⟩:=I.cell x c hc;refine wpAny_storeName_cell I.ok.kind hk hc z λh' hc' hs=>?_;let⟨oc,hoc,hocd⟩:=id z;refine h {s with heap:=h'} ⟨I.ok,I.os,I.bare,⟨λb o e n hb hx=>?_,λb o e n hb hx=>?_,I.base.free,λb o e hx=>?_,I.base.tups,I.base.frzs,I.base.tbls⟩,⟨m,hn.sameBut hs<|Ne.symm<|cne x c hc,λj y v' e1 e2 e3=>?_⟩,λy c' e=>?_,I.free,I.freeC,λp hp=>?_,cU ⟨oc,hoc,I.freeC x c hc⟩ hs,by simpa using I.len⟩ ⟨c,hs,.inr hc⟩
  .exact(hs.2 b<|æ<|ä (Ú e)<|I.ok.cab x c hfn hc).trans<|I.base.keep b o e n hb hx
  .obtain⟨sl,e1⟩:=I.base.slot b o e n hb hx;exact⟨sl,(hs.2 b<|æ<|ä (Ú e)<|I.ok.cab x c hfn hc).trans e1⟩
  .obtain⟨o',e1⟩:=I.base.there b o e hx;exact⟨o',(hs.2 b<|æ<|ä (Ú e)<|I.ok.cab x c hfn hc).trans e1⟩
  .by_cases hj:j=i
   .subst hj;rw[hi]at e1;cases e1;rw[Ω hiσ]at e2;cases e2;exact⟨u,r,.inr ⟨.inl hk,c,hc,hc'⟩⟩
   .rw[ι<|Ne.symm hj]at e2;let⟨u',r',q⟩:=hl j y v' e1 e2 e3;refine⟨u',r',?_⟩;rcases q with q|⟨k,c',e,z'⟩
    .exact .inl q
    .refine .inr ⟨k,c',e,z'.sameBut hs ?_⟩;rintro rfl;exact hj<|N7 hN e1<|I.ok.inj _ _ _ e hc▸hi
  .by_cases hcc:c'=c
   .subst hcc;exact⟨_,hc'⟩
   .obtain⟨w2,z2⟩:=I.cell y c' e;exact⟨w2,z2.sameBut hs hcc⟩
  .obtain⟨e,n,ne,nf,d⟩:=I.pin p hp;refine⟨(hs.2 p.1 ?_).trans e,n,ne,nf,d⟩;intro q;rw[q,hoc]at e;have q':oc=p.2:=è e;exact d w' (by rw[<-q'];exact hocd)
def Nz{E:Ã->Å->Prop}{v:V}(I:Inv X Â σ H s)(hN:X.N.Nodup)(hi:X.N[i]?=eL x)(hx:Loc X.env.scope x)(r:RelV v u)
  (h:∀s',Inv X Â (σ.set i<|eL v) H s'->Q () s') (hf:X.fn x=eN\/X.env.scope.names.lookup x=eL .local:=by first|exact .inl rfl|exact .inr rfl|assumption):wpAny M A (storeName X.env x u) Q E s :=
 Kz I hN hi hx r (λs' I' _=>h s' I') hf
def Inv.call'{s':Å}(I:Inv X Â σ H s)(ho:s'.os=s.os)(u:Un (frs X.stack) ch H H' s.heap s'.heap)(hok:HOk X.prog X.w H' s'.heap)(hg:Ψ s'.gens)
  (hch:∀b∈ch,(b∈X.ex\/X.s₀.heap.objs.size<=b)/\b≠X.env.locals/\(∀x c,X.env.cells.lookup x=eL c->c≠b)/\∀p∈X.pn++Â,p.1≠b):Inv X Â σ H' s':=by
 let⟨h',g',d',t',o'⟩:=s';have e:o'=s.os:=ho;subst e;exact I.call (g':=g') (t':=t') (d':=d') u hok hg hch
end
noncomputable abbrev XK:=Ã->Option Í->Hp->Prop
noncomputable abbrev St:=List<|Option V
noncomputable abbrev VK:=V->Hp->Prop
noncomputable abbrev TE:=St->Hp->VK->Prop
noncomputable abbrev TT:=St->Hp->(Bool->Hp->Prop)->Prop
noncomputable abbrev TA:=St->Hp->(List V->Hp->Prop)->Prop
structure Ends where
 nx:St->Hp->Prop
 rt:VK
 bk:St->Hp->Prop:=λ_ _=>False
 ct:St->Hp->Prop:=λ_ _=>False
noncomputable abbrev TS:=Ends->St->Hp->Prop
inductive EP (X:Cx) (Â:List<|Í×Obj) (σ:St) (Q:VK) (u:Ã) (s':Å):Prop
 |mk (v:V) (H':Hp) (i:Inv X Â σ H' s') (r:RelV v u) (q:Q v H')
abbrev TP(X:Cx)(Â:List<|Í×Obj)(σ:St)(Q:Bool->Hp->Prop)(b:Bool)(s':Å):Prop:=∃H',Inv X Â σ H' s'/\Q b H'
inductive AP (X:Cx) (Â:List<|Í×Obj) (σ:St) (Q:List V->Hp->Prop) (us:List Ã) (s':Å):Prop
 |mk (vs:List V) (H':Hp) (i:Inv X Â σ H' s') (r:f8 vs us) (q:Q vs H')
abbrev SP(X:Cx)(Â:List<|Í×Obj)(D:Ends)(f:Flow)(s':Å):Prop :=
 match f with
 |.next=>∃ř H',Inv X Â ř H' s'/\D.nx ř H'
 |.brk=>∃ř H',Inv X Â ř H' s'/\D.bk ř H'
 |.cont=>∃ř H',Inv X Â ř H' s'/\D.ct ř H'
 |.ret u=>∃v ř H',Inv X Â ř H' s'/\RelV v u/\D.rt v H'
abbrev PE(X:Cx)(e:Expr)(t:TE):Prop :=
 ∀(Â:List<|Í×Obj) (s:Å) (σ:St) (H:Hp) (Q:VK),Inv X Â σ H s->t σ H Q->wpAny (à X.prog X.w) X.A (eval e X.env) (EP X Â σ Q) X.xe s
abbrev PT(X:Cx)(e:Expr)(t:TT):Prop :=
 ∀(Â:List<|Í×Obj) (s:Å) (σ:St) (H:Hp) (Q:Bool->Hp->Prop),Inv X Â σ H s->t σ H Q->wpAny (à X.prog X.w) X.A (cj e X.env<|eval e X.env) (TP X Â σ Q) X.xe s
abbrev PW(X:Cx)(e:Expr)(t:TT):Prop :=
 ∀(aF:Sem Ã) (Â:List<|Í×Obj) (s:Å) (σ:St) (H:Hp) (Q:Bool->Hp->Prop),Inv X Â σ H s->t σ H Q->wpAny (à X.prog X.w) X.A (cj e X.env aF) (TP X Â σ Q) X.xe s
def PW.pt{X:Cx}{e:Expr}{t:TT}(h:PW X e t):PT X e t:=h _
abbrev PA(X:Cx)(es:List Expr)(t:TA):Prop :=
 ∀(ë:Pos) (Â:List<|Í×Obj) (s:Å) (σ:St) (H:Hp) (Q:List V->Hp->Prop),Inv X Â σ H s->t σ H Q->wpAny (à X.prog X.w) X.A (spliced<|ģ ë<|Ü es X.env) (AP X Â σ Q) X.xe s
abbrev PS(X:Cx)(st:ľ)(t:TS):Prop :=
 ∀(Â:List<|Í×Obj) (s:Å) (σ:St) (H:Hp) (D:Ends),Inv X Â σ H s->t D σ H->wpAny (à X.prog X.w) X.A (exec st X.env) (SP X Â D) X.xe s
abbrev PSs(X:Cx)(st:List ľ)(t:TS):Prop :=
 ∀(Â:List<|Í×Obj) (s:Å) (σ:St) (H:Hp) (D:Ends),Inv X Â σ H s->t D σ H->wpAny (à X.prog X.w) X.A (execs st X.env) (SP X Â D) X.xe s
def thn{α:Type}{t:Sem α}{Q Q':α->Å->Prop}{M:Model}{A:Ċ}{E:Ã->Å->Prop}{s:Å}(h:wpAny M A t Q E s)(hQ:∀a s,Q a s->Q' a s):wpAny M A t Q' E s:=į h hQ λ_ _ x=>x
section
variable {X:Cx}
variable {Â:List (Í×Obj)} {s:Å} {σ:St} {H:Hp}
def bin{a b:Expr}{ta tb:TE}(ha:PE X a ta)(hb:PE X b tb){R:V->V->Hp->Prop}(I:Inv X Â σ H s)(h:ta σ H λx H1=>tb σ H1 λy H2=>R x y H2)
  {α:Type}{Q:α->Å->Prop}{f:Ã->Ã->Sem α}
  (hf:∀v u s2 x y H2,Inv X Â σ H2 s2->RelV x v->RelV y u->R x y H2->wpAny (à X.prog X.w) X.A (f v u) Q X.xe s2) :
  wpAny (à X.prog X.w) X.A (eval a X.env) (λv Ġ=>wpAny (à X.prog X.w) X.A (eval b X.env) (λu aY=>wpAny (à X.prog X.w) X.A (f v u) Q X.xe aY) X.xe Ġ) X.xe s:=by
 refine thn (ha Â s σ H _ I h) λv s1 ⟨x,H1,I1,r1,q1⟩=>?_;refine thn (hb Â s1 σ H1 _ I1 q1) λu s2 ⟨y,H2,I2,r2,q2⟩=>?_;exact hf v u s2 x y H2 I2 r1 r2 q2
abbrev Sw(i:Nat):TE:=λσ H Q=>∃v,σ[i]?=eL (eL v)/\Q v H
abbrev tC(v:V):TE:=λ_ H Q=>Q v H
variable {x:Str} {ë:Pos}
def IY{i:Nat}(hN:X.N[i]?=eL x)(hv:Vis X.env.scope x)(hd:(x==("__debug__" : Str))=eP:=by decide)(bf:(x==("__classdict__" : Str))=eP:=by decide):PE X (.Name x ë)<|Sw i:=by
 intro Â s σ H Q I h;let⟨v,e,h⟩:=h;let⟨m,hn,hl⟩:=I.loc;let⟨u,r,l⟩:=hl i x v hN e hv;have fin:EP X Â σ Q u s:=⟨v,H,I,r,h⟩
 rcases l with⟨hk,hm⟩|⟨hk,c,hc,hcell⟩
 .exact wpAny_Name (wpAny_loadName_local I.ok.kind hk hn hm fin) hd
 .rcases hk with hk|hk
  .exact wpAny_Name (wpAny_loadName_cell I.ok.kind hk hc hcell fin) hd
  .exact wpAny_Name (wpAny_loadName_free I.ok.kind hk hc hcell fin bf) hd
def OA{i j ë}:PE X (.Constant (.int i) j ë)<|tC<|.int i:=λ_ _ _ H _ I h=>wpAny_Constant_int ⟨.int i,H,I.tok _,⟨_,rfl⟩,h⟩
def QW{b j ë}:PE X (.Constant (.bool b) j ë)<|tC<|.bl b:=λ_ _ _ H _ I h=>Constant_bool ⟨.bl b,H,I,rfl,h⟩
def Cb{j ë}:PE X (.Constant .none j ë)<|tC .non:=λ_ _ _ H _ I h=>db ⟨.non,H,I,rfl,h⟩
def pe_str{x j ë}:PE X (.Constant (.str x) j ë)<|tC<|.str x:=λ_ _ _ H _ I h=>Calls.Constant_str ⟨.str x,H,I.tok _,⟨_,rfl⟩,h⟩
abbrev Gl(X:Cx)(x:Str):Prop:=X.env.kindOf x=eL .globalImplicit
variable {u:Ã} {Q:Ã->Å->Prop}
def W0{E:Ã->Å->Prop}(I:Inv X Â σ H s)(hg:Gl X x)(hm:X.mg x=eL u)(h:Q u s)
  (hd:(x==("__debug__" : Str))=eP:=by decide):wpAny (à X.prog X.w) X.A (eval (.Name x ë) X.env) Q E s :=
 Calls.Name_function_global I.ok.kind hg (Calls.loadGlobal_global (by rw[I.ok.glob];exact I.mod.glob.keeps I.bk) hm h) hd
def YI{E:Ã->Å->Prop}(I:Inv X Â σ H s)(hg:Gl X x)(hm:X.mg x=eM)(hv:ũ x=eL u)(h:Q u s)
  (hn:x≠"__name__":=by decide) (hd:(x==("__debug__" : Str))=eP:=by decide):wpAny (à X.prog X.w) X.A (eval (.Name x ë) X.env) Q E s:=by
 let⟨mb,h1,h2⟩:=I.mod.blt;exact Calls.Name_function_global I.ok.kind hg (Calls.loadGlobal_builtin (by rw[I.ok.glob];exact I.mod.glob.keeps I.bk) hm (by rw[I.ok.blt];exact h1.keeps I.bk) ((h2 x hn).trans hv) h) hd
def EG{v:V}(hg:Gl X x)(hm:X.mg x=eL u)(r:RelV v u)(hd:(x==("__debug__" : Str))=eP:=by decide):PE X (.Name x ë) (tC v) :=
 λ_ _ _ H _ I h=>W0 I hg hm ⟨v,H,I,r,h⟩ hd
def EK{v:V}(hg:Gl X x)(hm:X.mg x=eM)(hv:ũ x=eL u)(r:RelV v u)(hn:x≠"__name__":=by decide)(hd:(x==("__debug__" : Str))=eP:=by decide):PE X (.Name x ë) (tC v) :=
 λ_ _ _ H _ I h=>YI I hg hm hv ⟨v,H,I,r,h⟩ hn hd
variable {a b:Expr}{ta tb:TE}{ë:Pos}
abbrev PC(X:Cx)(op:ck)(a b:Expr)(t:TE):Prop :=
 ∀(Â:List<|Í×Obj) (s:Å) (σ:St) (H:Hp) (Q:VK),Inv X Â σ H s->t σ H Q->
  wpAny (à X.prog X.w) X.A (eval a X.env) (λv Ġ=>wpAny (à X.prog X.w) X.A (eval b X.env) (λu aY=>wpAny (à X.prog X.w) X.A (î op v u) (EP X Â σ Q) X.xe aY) X.xe Ġ) X.xe s
variable {op:ck}
def Nq(b:Expr)(h:op≠.In)(h2:op≠.NotIn):Ľ op b=eP:=by
 have e1:(op==CmpOp.In)=eP:=by cases op<;>first|rfl|exact gA rfl h
 have e2:(op==CmpOp.NotIn)=eP:=by cases op<;>first|rfl|exact gA rfl h2
 cases b<;>simp[Ľ,e1,e2]
abbrev Sb(ta:TE):TE:=λσ H Q=>ta σ H λx H1=>Q (.bl<|gB (x=.non)) H1
abbrev Qs(ta:TE):TE:=λσ H Q=>ta σ H λx H1=>Q (.bl (!gB (x=.non))) H1
def RelV.none_iff{x:V}{v:Ã}(r:RelV x v):(v==Value.none)=gB (x=.non):=by
 cases x with
 |non=>cases r;rfl
 |bl _=>cases r;rfl
 |int _=>let⟨t,rfl⟩:=r;rfl
 |str _=>let⟨t,rfl⟩:=r;rfl
 |byt _=>let⟨t,rfl⟩:=r;rfl
 |flt _=>let⟨t,rfl⟩:=r;rfl
 |ref _=>cases r;rfl
 |ty _=>cases r;rfl
def Dg{j ac}(ha:PE X a ta):PC X .Is a (.Constant .none j ac)<|Sb ta:=by intro Â s σ H Q I h;refine thn (ha Â s σ H _ I h) λv s1 ⟨x,H1,I1,r1,q1⟩=>?_;exact db (is_none_gen ⟨.bl _,H1,I1,by rw[r1.none_iff];rfl,q1⟩)
def U9{j ac}(ha:PE X a ta):PC X .IsNot a (.Constant .none j ac)<|Qs ta:=by intro Â s σ H Q I h;refine thn (ha Â s σ H _ I h) λv s1 ⟨x,H1,I1,r1,q1⟩=>?_;exact db (isnot_none_gen ⟨.bl _,H1,I1,by rw[r1.none_iff];rfl,q1⟩)
abbrev tB(t:TE):TT:=λσ H Q=>t σ H λx H1=>∃c,x=.bl c/\Q c H1
def Dl{t:TE}(h:PC X op a b t)(h1:Ľ op b=eP:=by first|exact Nq _ (by decide) (by decide)|rfl):PE X (.Compare a [op] [b] ë) t:=λÂ s σ H Q I hw=>wpAny_Compare1 (h Â s σ H Q I hw) h1
def D6{t:TE}(h:PC X op a b t)(h1:Ľ op b=eP:=by first|exact Nq _ (by decide) (by decide)|rfl):PT X (.Compare a [op] [b] ë)<|tB t:=by intro Â s σ H Q I hw;refine wpAny_isTrue_Compare1 (thn (h Â s σ H _ I hw) λv s1 h1=>thn h1 λu s2 h2=>thn h2 λc s3 ⟨x,H1,I1,r1,q1⟩=>?_) h1;let⟨d,rfl,q⟩:=q1;cases r1;exact Ď ⟨H1,I1,q⟩
variable {tA tB':TT}{rest:List Expr}
abbrev Su(t u:TT):TT:=λσ H Q=>t σ H λc H1=>if c=eN then u σ H1 Q else Q eP H1
abbrev tOr(t u:TT):TT:=λσ H Q=>t σ H λc H1=>if c=eN then Q eN H1 else u σ H1 Q
abbrev R1(t:TT):TT:=λσ H Q=>t σ H λc H1=>Q (!c) H1
def GC(ha:PT X a tA):PW X (.BoolOp .And [a] ë) tA:=by
 intro wh Â s σ H Q I h;refine isTrue_and<|thn (ha Â s σ H Q I h) λc s1 e=>?_;cases c with
 |true=>exact isTrue_and_nil e
 |false=>exact e
def Lm(ha:PT X a tA):PW X (.BoolOp .Or [a] ë) tA:=by
 intro wh Â s σ H Q I h;refine isTrue_or<|thn (ha Â s σ H Q I h) λc s1 e=>?_;cases c with
 |false=>exact isTrue_or_nil e
 |true=>exact e
def L5(ha:PT X a tA)(hb:PW X (.BoolOp .And (b::rest) ë) tB'):PW X (.BoolOp .And (a::b::rest) ë)<|Su tA tB':=by
 intro wh Â s σ H Q I h;refine isTrue_and<|thn (ha Â s σ H _ I h) λc s1 ⟨H1,I1,q1⟩=>?_;cases c with
 |true=>exact hb wh Â s1 σ H1 Q I1 q1
 |false=>exact⟨H1,I1,q1⟩
def Rh(ha:PT X a tA)(hb:PW X (.BoolOp .Or (b::rest) ë) tB'):PW X (.BoolOp .Or (a::b::rest) ë)<|tOr tA tB':=by
 intro wh Â s σ H Q I h;refine isTrue_or<|thn (ha Â s σ H _ I h) λc s1 ⟨H1,I1,q1⟩=>?_;cases c with
 |true=>exact⟨H1,I1,q1⟩
 |false=>exact hb wh Â s1 σ H1 Q I1 q1
def L8(ha:PT X a tA):PT X (.UnaryOp .Not a ë)<|R1 tA:=by intro Â s σ H Q I h;exact isTrue_not (ha Â s σ H (λc H1=>Q (!c) H1) I h)
abbrev RA(ta tb:TE):TE:=λσ H Q=>ta σ H λx H1=>∃c,x=.bl c/\if c=eN then tb σ H1 Q else Q (.bl eP) H1
abbrev RS(ta tb:TE):TE:=λσ H Q=>ta σ H λx H1=>∃c,x=.bl c/\if c=eN then Q (.bl eN) H1 else tb σ H1 Q
abbrev P0(ta:TE):TE:=λσ H Q=>ta σ H λx H1=>∃c,x=.bl c/\Q (.bl (!c)) H1
def B4{op}{t:TE}(h:PE X a t):PE X (.BoolOp op [a] ë) t:=λÂ s σ H Q I hw=>BoolOp_one (h Â s σ H Q I hw)
def L7(ha:PE X a ta)(hb:PE X (.BoolOp .And (b::rest) ë) tb):PE X (.BoolOp .And (a::b::rest) ë)<|RA ta tb:=by
 intro Â s σ H Q I h;refine BoolOp_and<|thn (ha Â s σ H _ I h) λv s1 ⟨x,H1,I1,r1,q1⟩=>?_;let⟨c,rfl,q1⟩:=q1;cases r1;refine Ď ?_;cases c with
 |true=>exact hb Â s1 σ H1 Q I1 q1
 |false=>exact⟨.bl eP,H1,I1,rfl,q1⟩
def Q4(ha:PE X a ta)(hb:PE X (.BoolOp .Or (b::rest) ë) tb):PE X (.BoolOp .Or (a::b::rest) ë)<|RS ta tb:=by
 intro Â s σ H Q I h;refine BoolOp_or<|thn (ha Â s σ H _ I h) λv s1 ⟨x,H1,I1,r1,q1⟩=>?_;let⟨c,rfl,q1⟩:=q1;cases r1;refine Ď ?_;cases c with
 |false=>exact hb Â s1 σ H1 Q I1 q1
 |true=>exact⟨.bl eN,H1,I1,rfl,q1⟩
def L3(ha:PE X a ta):PE X (.UnaryOp .Not a ë)<|P0 ta:=by intro Â s σ H Q I h;refine UnaryOp_<|thn (ha Â s σ H _ I h) λv s1 ⟨x,H1,I1,r1,q1⟩=>?_;let⟨c,rfl,q1⟩:=q1;cases r1;exact not_of (Ď ⟨.bl (!c),H1,I1,rfl,q1⟩)
abbrev tIf(t:TT)(ta tb:TE):TE:=λσ H Q=>t σ H λc H1=>if c=eN then ta σ H1 Q else tb σ H1 Q
def DV{c:Expr}(hc:PT X c tA)(ha:PE X a ta)(hb:PE X b tb):PE X (.IfExp c a b ë)<|tIf tA ta tb:=by
 intro Â s σ H Q I h;refine wpAny_IfExp<|thn (hc Â s σ H _ I h) λd s1 ⟨H1,I1,q1⟩=>?_;cases d with
 |true=>exact ha Â s1 σ H1 Q I1 q1
 |false=>exact hb Â s1 σ H1 Q I1 q1
end
abbrev fY(K:Frag)(H:Hp)(a:Í)(xs:List V):Prop :=
 Rd H a (.lst xs)\/
  ∃(o:Obj) (ø:Array Ã) (n:Nat),K.lookup a=eL o/\o.cls=.type "list"/\o.dict=eM/\o.data=.seq ø n/\ø.size<=ß/\f8 xs ø.toList
abbrev fZ(K:Frag)(H:Hp)(a:Í)(xs:List V):Prop :=
 Rd H a (.tup xs)\/
  ∃(o:Obj) (ø:Array Ã) (n:Nat),K.lookup a=eL o/\o.cls=.type "tuple"/\o.data=.seq ø n/\ø.size<=ß/\f8 xs ø.toList
abbrev absV:Ã->Option V
 |.none=>eL .non
 |.bool b=>eL<|.bl b
 |.int i _=>eL<|.int i
 |.str x _=>eL<|.str x
 |.bytes b _=>eL<|.byt b
 |.float b _=>eL<|.flt b
 |.ref a=>eL<|.ref a
 |.type n=>eL<|.ty n
 |_=>eM
variable {x:V} {u:Ã}
def RelV.abs(r:RelV x u):absV u=eL x:=by
 cases x with
 |non=>cases r;rfl
 |bl _=>cases r;rfl
 |int _=>let⟨t,rfl⟩:=r;rfl
 |str _=>let⟨t,rfl⟩:=r;rfl
 |byt _=>let⟨t,rfl⟩:=r;rfl
 |flt _=>let⟨t,rfl⟩:=r;rfl
 |ref _=>cases r;rfl
 |ty _=>cases r;rfl
def RelV.inj{y:V}(r:RelV x u)(q:RelV y u):x=y:=è (r.abs.symm.trans q.abs)
def f8.inj:∀{xs ys:List V}{us:List Ã},f8 xs us->f8 ys us->xs=ys
 |_,_,_,.nil,.nil=>rfl
 |_,_,_,.cons r t,.cons r' t'=>by rw[r.inj r',f8.inj t t']
section
variable {X:Cx}{Â:List (Í×Obj)}{σ:St}{H:Hp}{s:Å}{a:Í}{xs ys:List V}
def fY.of{K:Frag}(h:H a=eL (.lst xs)):fY K H a xs:=.inl (.inl h)
def fZ.of{K:Frag}(h:H a=eL (.tup xs)):fZ K H a xs:=.inl (.inl h)
def Inv.list(I:Inv X Â σ H s)(h:fY X.K H a xs):∃ø:List Ã,f8 xs ø/\PlainL s.heap a ø.toArray/\xs.length<=ß:=by
 rcases h with h|⟨o,ø,n,hk,hc,hd,hs,hz,r⟩
 .obtain⟨z,ø,n,r,e⟩:=h.ok I.hok;exact⟨ø,r,⟨_,n,e,rfl,rfl,rfl⟩,z⟩
 .refine⟨ø.toList,r,⟨o,n,I.kIn a o hk,hc,hd,⇑hs⟩,?_⟩;have e:=r.length;simp only[õ]at e;lia
def Inv.tuple(I:Inv X Â σ H s)(h:fZ X.K H a xs):∃ø:List Ã,f8 xs ø/\aN s.heap a ø.toArray/\xs.length<=ß:=by
 rcases h with h|⟨o,ø,n,hk,hc,hs,hz,r⟩
 .obtain⟨z,ø,r,p⟩:=h.ok I.hok;exact⟨ø,r,p,z⟩
 .refine⟨ø.toList,r,⟨o,I.kIn a o hk,hc,n,⇑hs⟩,?_⟩;have e:=r.length;simp only[õ]at e;lia
def Inv.list_inj(I:Inv X Â σ H s)(h:fY X.K H a xs)(h':fY X.K H a ys):xs=ys:=by
 let⟨ø,r,⟨o,n,e,_,_,d⟩,_⟩:=I.list h;let⟨its',r',⟨o',n',e',_,_,d'⟩,_⟩:=I.list h';rw[e]at e';cases e';rw[d]at d';injection d' with d1 _;have:ø=its':=by simpa using congrArg bQ d1
 subst this;exact r.inj r'
def Inv.tuple_inj(I:Inv X Â σ H s)(h:fZ X.K H a xs)(h':fZ X.K H a ys):xs=ys:=by
 let⟨ø,r,⟨o,e,_,n,d⟩,_⟩:=I.tuple h;let⟨its',r',⟨o',e',_,n',d'⟩,_⟩:=I.tuple h';rw[e]at e';cases e';rw[d]at d';injection d' with d1 _;have:ø=its':=by simpa using congrArg bQ d1
 subst this;exact r.inj r'
end
section
variable {X:Cx}{st:ľ}{rest:List ľ}{t u:TS}{e:Expr}{te:TE}{ë:Pos}
abbrev Qi:TS:=λD σ H=>D.nx σ H
abbrev RM(t u:TS):TS:=λD σ H=>t {D with nx:=u D} σ H
def pss_nil:PSs X [] Qi:=λ_ _ σ H _ I h=>bR ⟨σ,H,I,h⟩
def CF(h1:PS X st t)(h2:PSs X rest u):PSs X (st::rest)<|RM t u:=by
 intro Â s σ H D I h;refine wpAny_execs_cons<|thn (h1 Â s σ H {D with nx:=u D} I h) λf s1 q=>?_;cases f with
 |next =>let⟨ř,H',I',q⟩:=q;exact h2 Â s1 ř H' D I' q
 |ret v=>exact q
 |brk=>exact q
 |cont=>exact q
def Inv.quiet{Â:List (Í×Obj)}{σ:St}{H:Hp}{s:Å}(I:Inv X Â σ H s):interactive X.env=eP:=by simp[interactive,I.ok.kind]
abbrev PV(te:TE):TS:=λD σ H=>te σ H λ_ H1=>D.nx σ H1
def Fv(he:PE X e te)(hs:ż e eM ë.line X.env=pure eP:=by rfl):PS X (.Expr e ë)<|PV te:=by intro Â s σ H D I h;exact wpAny_Expr_any (thn (he Â s σ H _ I h) λv s1 ⟨x,H1,I1,r1,q1⟩=>⟨σ,H1,I1,q1⟩) I.quiet hs
abbrev R9(te:TE):TS:=λD σ H=>te σ H D.rt
def Li(he:PE X e te):PS X (.Return (eL e) ë)<|R9 te:=by intro Â s σ H D I h;exact wpAny_Return_some (thn (he Â s σ H _ I h) λv s1 ⟨x,H1,I1,r1,q1⟩=>⟨x,σ,H1,I1,r1,q1⟩)
abbrev PP:TS:=λD _ H=>D.rt .non H
def ps_retN:PS X (.Return eM ë) PP:=λ_ _ σ H _ I h=>wpAny_Return_none ⟨.non,σ,H,I,rfl,h⟩
abbrev Sn(c:TT)(t u:TS):TS:=λD σ H=>c σ H λb H1=>if b=eN then t D σ H1 else u D σ H1
def PX{c:Expr}{a b:List ľ}{tc:TT}(hc:PT X c tc)(ha:PSs X a t)(hb:PSs X b u):PS X (.If c a b ë)<|Sn tc t u:=by
 intro Â s σ H D I h;refine wpAny_If<|thn (hc Â s σ H _ I h) λd s1 ⟨H1,I1,q1⟩=>?_;cases d with
 |true=>exact ha Â s1 σ H1 D I1 q1
 |false=>exact hb Â s1 σ H1 D I1 q1
end
noncomputable abbrev TG:=V->St->Hp->(St->Hp->Prop)->Prop
noncomputable abbrev TGs:=List V->St->Hp->(St->Hp->Prop)->Prop
abbrev PG(X:Cx)(ae:Expr)(t:TG):Prop :=
 ∀(Â:List<|Í×Obj) (s:Å) (σ:St) (H:Hp) (v:V) (u:Ã) (Q:St->Hp->Prop),Inv X Â σ H s->RelV v u->t v σ H Q->
  wpAny (à X.prog X.w) X.A (ξ ae X.env u) (λ_ s'=>∃ř H',Inv X Â ř H' s'/\Q ř H') X.xe s
abbrev PGs(X:Cx)(ts:List Expr)(t:TGs):Prop :=
 ∀(Â:List<|Í×Obj) (s:Å) (σ:St) (H:Hp) (vs:List V) (us:List Ã) (Q:St->Hp->Prop),Inv X Â σ H s->f8 vs us->t vs σ H Q->
  wpAny (à X.prog X.w) X.A (assignInOrder ((Ĝ ts X.env).map (·.2)) us) (λ_ s'=>∃ř H',Inv X Â ř H' s'/\Q ř H') X.xe s
noncomputable abbrev BG:=V->V->V->Hp->(Hp->Prop)->Prop
abbrev PSet(X:Cx)(t:BG):Prop :=
 ∀(Â:List<|Í×Obj) (s:Å) (σ:St) (H:Hp) (o i v:V) (ov iv u:Ã) (Q:Hp->Prop),Inv X Â σ H s->RelV o ov->RelV i iv->RelV v u->t o i v H Q->
  wpAny (à X.prog X.w) X.A (aO ov iv u) (λ_ s'=>∃H',Inv X Â σ H' s'/\Q H') X.xe s
noncomputable abbrev TIp:=V->V->Hp->VK->Prop
abbrev PIp(X:Cx)(op:ϗ)(t:TIp):Prop :=
 ∀(Â:List<|Í×Obj) (s:Å) (σ:St) (H:Hp) (x y:V) (v u:Ã) (Q:VK),Inv X Â σ H s->RelV x v->RelV y u->t x y H Q->
  wpAny (à X.prog X.w) X.A (inplaceOp op v u) (EP X Â σ Q) X.xe s
section
variable {X:Cx}{ë:Pos}
abbrev HC(i:Nat):TG:=λv σ H Q=>Q (σ.set i<|eL v) H
variable {i:Nat}
def U2{x:Str}(hN:X.N.Nodup)(hi:X.N[i]?=eL x)(hx:Loc X.env.scope x)(hf:X.fn x=eN\/X.env.scope.names.lookup x=eL .local:=by first|exact .inl rfl|exact .inr rfl|assumption):PG X (.Name x ë)<|HC i:=by intro Â s σ H v u Q I r h;exact wpAny_assign_Name (Nz I hN hi hx r (λs' I'=>⟨_,H,I',h⟩) hf)
abbrev Sh:TGs:=λvs σ H Q=>vs=[]/\Q σ H
abbrev Ri(t:TG)(u:TGs):TGs:=λvs σ H Q=>∃v r,vs=v::r/\t v σ H λř H'=>u r ř H' Q
def pgs_nil:PGs X [] Sh:=by intro Â s σ H vs us Q I r h;let⟨e,h⟩:=h;subst e;cases r;exact assignInOrder_nil ⟨σ,H,I,h⟩
variable {e:Expr} {es:List Expr}
def JV{t:TG}{u:TGs}(h1:PG X e t)(h2:PGs X es u)
  (hs:(Ĝ (e::es) X.env).map (·.2)=ξ e X.env::(Ĝ es X.env).map (·.2):=by rfl):PGs X (e::es)<|Ri t u:=by
 intro Â s σ H vs us Q I r h;let⟨v,vr,e1,h⟩:=h;subst e1;cases r with
 |cons r rr =>rw[hs];refine assignInOrder_cons<|thn (h1 Â s σ H _ _ _ I r h) λ_ s1 ⟨σ1,H1,I1,q1⟩=>?_;exact h2 Â s1 σ1 H1 _ _ Q I1 rr q1
abbrev Sc(K:Frag)(n:Nat)(t:TGs):TG:=λv σ H Q=>∃a xs,v=.ref a/\fZ K H a xs/\xs.length=n/\t xs σ H Q
def B5{k:Nat}{t:TGs}{n:Nat}(hc:X.calm=eN)(h:PGs X es t)
  (hn:(Ĝ es X.env).length=n:=by rfl) (Ž:(Ĝ es X.env).findIdx? (·.1)=eM:=by rfl):PG X (.Tuple es k ë)<|Sc X.K n t:=by
 intro Â s σ H v u Q I r hw;let⟨a,xs,e1,hq,hl,hw⟩:=hw;subst e1;cases r;let⟨ø,rv,ht,hz⟩:=I.tuple hq;refine assign_Tuple_tuple (I.ok.hd hc) ht (by simp[hn,<-hl,rv.length]) Ž λh' hx=>?_;have I1:Inv X Â σ H {s with heap:=h'}:=I.kept (t':=s.toks) λb o e=>hx b o (æ<|Ú e) e;exact h Â _ σ H xs _ Q I1 ⇑rv hw
abbrev Rc(to ti:TE)(t:BG):TG:=λv σ H Q=>to σ H λo H1=>ti σ H1 λi H2=>t o i v H2 λH3=>Q σ H3
variable {o:Expr} {to:TE} {ti:TE}
def L1{i:Expr}{t:BG}(ho:PE X o to)(hi:PE X i ti)(hs:PSet X t)
  (ha:∀v,ξ (.Subscript o i ë) X.env v=(do
    let ov<-ő [v] (eval o X.env)
    let iv<-ő [v,ov] (eval i X.env)
    ϊ ë
    ő [v,ov,iv] (aO ov iv v)
    d0 [v,ov,iv] []):=by intro _;rfl):PG X (.Subscript o i ë)<|Rc to ti t:=by
 intro Â s σ H v u Q I r h;rw[ha];refine À<|ę<|thn (ho Â s σ H _ I h) λov s1 ⟨x,H1,I1,r1,q1⟩=>?_;refine À<|ę<|thn (hi Â s1 σ H1 _ I1 q1) λiv s2 ⟨y,H2,I2,r2,q2⟩=>?_;refine À<|de<|À<|ę<|thn (hs Â s2 σ H2 x y v ov iv u _ I2 r1 r2 r q2) λ_ s3 ⟨H3,I3,q3⟩=>?_;exact wpAny_release ⟨σ,H3,I3,q3⟩
abbrev P1(te:TE)(g:TG):TS:=λD σ H=>te σ H λx H1=>g x σ H1 D.nx
variable {te:TE}
def Ea{tg:Expr}{g:TG}(he:PE X e te)(hg:PG X tg g)(hs:ώ [tg] e ë.line X.env=pure eP:=by rfl)(hw:Ϗ [tg] e X.env=pure eM:=by rfl)
  (h1:(Ĝ [tg] X.env).map (·.2)=[ξ tg X.env]:=by rfl):PS X (.Assign [tg] e ë)<|P1 te g:=by
 intro Â s σ H D I h;refine wpAny_Assign_stores (thn (he Â s σ H _ I h) λv s1 ⟨x,H1,I1,r1,q1⟩=>?_) hs hw;rw[h1];exact thn (hg Â s1 σ H1 x v _ I1 r1 q1) λ_ s2 q=>q
abbrev RY(i:Nat)(te:TE)(ti:TIp):TS:=λD σ H=>∃x,σ[i]?=eL (eL x)/\te σ H λy H1=>ti x y H1 λz H2=>D.nx (σ.set i<|eL z) H2
variable {op:ϗ}
def Pb{x:Str}{ti:TIp}{ac:Pos}(hN:X.N.Nodup)(hi:X.N[i]?=eL x)(hx:Loc X.env.scope x)(he:PE X e te)(ho:PIp X op ti)(hf:X.fn x=eN\/X.env.scope.names.lookup x=eL .local:=by first|exact .inl rfl|exact .inr rfl|assumption) :
  PS X (.AugAssign (.Name x ac) op e ë) (RY i te ti):=by
 intro Â s σ H D I h;let⟨v,e1,h⟩:=h;let⟨m,hn,hl⟩:=I.loc;have vis:Vis X.env.scope x:=by rcases hx with k|k;exact .inl k;exact .inr<|.inl k
 let⟨u,r,l⟩:=hl i x v hi e1 vis;refine wpAny_AugAssign_Name ?_;have go:wpAny (à X.prog X.w) X.A (eval e X.env) (λw aY=>wpAny (à X.prog X.w) X.A (inplaceOp op u w) (λr af=>wpAny (à X.prog X.w) X.A (storeName X.env x r) (λ_=>SP X Â D .next) X.xe af) X.xe aY) X.xe s:=by refine thn (he Â s σ H _ I h) λw s1 ⟨y,H1,I1,r1,q1⟩=>?_;refine thn (ho Â s1 σ H1 v y u w _ I1 r r1 q1) λz s2 ⟨zv,H2,I2,r2,q2⟩=>?_;exact Nz I2 hN hi hx r2 (λs3 I3=>⟨_,H2,I3,q2⟩) hf
 rcases l with⟨hk,hm⟩|⟨hk,c,hc,hcell⟩
 .exact wpAny_loadName_local I.ok.kind hk hn hm go
 .rcases hk with hk|hk
  .exact wpAny_loadName_cell I.ok.kind hk hc hcell go
  .rcases hx with k|k
   .have:X.env.scope.names.lookup x=eL .free:=hk;rw[k]at this;cases this
   .have:X.env.scope.names.lookup x=eL .free:=hk;rw[k]at this;cases this
abbrev Rm(to ti te:TE)(tget:V->V->Hp->VK->Prop)(tip:TIp)(tset:BG):TS:=λD σ H=>to σ H λo H1=>ti σ H1 λi H2=>tget o i H2 λx H3=>te σ H3 λy H4=>tip x y H4 λz H5=>tset o i z H5 λH6=>D.nx σ H6
abbrev PGet(X:Cx)(t:V->V->Hp->VK->Prop):Prop :=
 ∀(Â:List<|Í×Obj) (s:Å) (σ:St) (H:Hp) (o i:V) (ov iv:Ã) (Q:VK),Inv X Â σ H s->RelV o ov->RelV i iv->t o i H Q->
  wpAny (à X.prog X.w) X.A (ϟ ov iv) (EP X Â σ Q) X.xe s
def GB{i:Expr}{tget:V->V->Hp->VK->Prop}{tip:TIp}{tset:BG}{cH:Pos}(ho:PE X o to)(hi:PE X i ti)(hg:PGet X tget)(he:PE X e te)(hp:PIp X op tip)(hs:PSet X tset)
  (ha:∀ov iv new,augStore i ov iv new=(do ő [new,ov,iv] (aO ov iv new);d0 [new,ov,iv] [];pure .next):=by intros;rfl):PS X (.AugAssign (.Subscript o i cH) op e ë)<|Rm to ti te tget tip tset:=by
 intro Â s σ H D I h;refine wpAny_AugAssign_SubscriptAny (thn (ho Â s σ H _ I h) λov s1 ⟨x1,H1,I1,r1,q1⟩=>?_) ha;refine thn (hi Â s1 σ H1 _ I1 q1) λiv s2 ⟨x2,H2,I2,r2,q2⟩=>?_;refine thn (hg Â s2 σ H2 x1 x2 ov iv _ I2 r1 r2 q2) λϚ s3 ⟨x3,H3,I3,r3,q3⟩=>?_;refine thn (he Â s3 σ H3 _ I3 q3) λv s4 ⟨x4,H4,I4,r4,q4⟩=>?_;refine thn (hp Â s4 σ H4 x3 x4 Ϛ v _ I4 r3 r4 q4) λnew s5 ⟨x5,H5,I5,r5,q5⟩=>?_;exact thn (hs Â s5 σ H5 x1 x2 x5 ov iv new _ I5 r1 r2 r5 q5) λ_ s6 ⟨H6,I6,q6⟩=>⟨σ,H6,I6,q6⟩
end
section
variable {X:Cx}{ë:Pos}
abbrev Pl(c:TT)(tb:TS):TS:=λD σ H=>∃W:Nat->St->Hp->Prop,(∃m,W m σ H)/\∀m σ H,W m σ H->
 c σ H λb H1=>if b=eN then ∃N:St->Hp->Prop,(∀ř H',N ř H'->∃m',m'<m/\W m' ř H')/\tb {D with nx:=N,ct:=N,bk:=D.nx} σ H1 else D.nx σ H1
def CJ{c:Expr}{body:List ľ}{tc:TT}{tb:TS}(hp:Κ (à X.prog X.w) X.A X.env X.xe)(hc:PT X c tc)(hb:PSs X body tb):PS X (.While c body [] ë)<|Pl tc tb:=by
 intro Â s σ H D I h;let⟨W,⟨m0,w0⟩,turn⟩:=h;refine wpAny_While<|codeAny_whileLoop (λn s'=>∃ř H',Inv X Â ř H' s'/\W n ř H') ?_ m0 ⟨σ,H,I,w0⟩;rintro n s1 ⟨σ1,H1,I1,w1⟩;refine ŝ hp<|thn (hc Â s1 σ1 H1 _ I1<|turn n σ1 H1 w1) λb s2 ⟨H2,I2,q2⟩=>?_;cases b with
 |true =>
  let⟨N,hN,q2⟩:=q2;rw[gp rfl];refine ŝ hp<|thn (hb Â s2 σ1 H2 _ I2 q2) λf s3 q3=>?_;cases f with
  |next =>let⟨bz,H3,I3,n3⟩:=q3;let⟨m',hm,w3⟩:=hN bz H3 n3;exact⟨m',hm,bz,H3,I3,w3⟩
  |cont =>let⟨bz,H3,I3,n3⟩:=q3;let⟨m',hm,w3⟩:=hN bz H3 n3;exact⟨m',hm,bz,H3,I3,w3⟩
  |brk=>exact q3
  |ret v=>exact q3
 |false =>rw[gq ú];exact bR ⟨σ1,H2,I2,q2⟩
end
structure It where
 go:Nat->Hp->Prop
 yld:Nat->Hp->V->Hp->Prop
 stop:Nat->Hp->Prop
abbrev Wu(X:Cx)(Â:List<|Í×Obj)(H:Hp)(b:Í):Prop :=
 H b=eM/\b≠X.env.locals/\b∉X.fs/\(b∈X.ex\/X.s₀.heap.objs.size<=b)/\(∀x c,X.env.cells.lookup x=eL c->c≠b)/\∀p∈X.pn++Â,p.1≠b
variable {s:Å}
def Inv.fpOk{X:Cx}{Â:List (Í×Obj)}{σ:St}{H H':Hp}{b:Í}(I:Inv X Â σ H s)(hb:s.heap.objs.size<=b)(hn:H' b=eM):Wu X Â H' b:=by
 refine⟨hn,ť<|ä I.lt hb,I.nofs hb,.inr<|Ý I.sz hb,λx c e z=>?_,λp hp z=>?_⟩
 .obtain⟨v,q⟩:=I.cell x c e;exact gA (ä q.lt<|by rw[z];exact hb)<|ġ _
 .exact gA (ä (Ú (I.pin p hp).1)<|by rw[z];exact hb)<|ġ _
structure Turn(P:ã)(w:Ā)(K:Frag)(tg:Expr)(J:It)(fp:List Í)(it:Í)(tn:Nat->ĉ->Prop):Prop where
 mem:it∈fp
 obj:∀i h,tn i h->∀b∈fp,∃o,h.get? b=eL o/\∀v,o.data≠.cell v
 keep:∀i h h',tn i h->(∀b∈fp,∀o,h.get? b=eL o->h'.get? b=eL o)->tn i h'
 item:∀(X:Cx),X.prog=P->X.w=w->X.K=K->X.calm=eN->∀(i:Nat) (Â:List<|Í×Obj) (s:Å) (σ:St) (H:Hp) (E:Ã->Å->Prop),Inv X Â σ H s->(∀b∈fp,Wu X Â H b)->tn i s.heap->J.go i H->
  wpAny (à P w) X.A (ϐ<|.ref it) (λr s1=>∃u,r=eL u/\
    wpAny (à P w) X.A (Ϩ tg (.ref it) u) (λ_ s2=>∃x H',Inv X Â σ H' s2/\RelV x u/\J.yld i H x H'/\tn (i+1) s2.heap/\∀b∈fp,H' b=eM) E s1) E s
 done:∀(X:Cx),X.prog=P->X.w=w->X.K=K->X.calm=eN->∀(i:Nat) (Â:List<|Í×Obj) (s:Å) (σ:St) (H:Hp) (E:Ã->Å->Prop),Inv X Â σ H s->(∀b∈fp,Wu X Â H b)->tn i s.heap->J.stop i H->
  wpAny (à P w) X.A (ϐ<|.ref it) (λr s1=>r=eM/\Inv X Â σ H s1) E s
 self:∀(A:Ċ) (i:Nat) (s:Å) (Q:Ã->Å->Prop) (E:Ã->Å->Prop),tn i s.heap->Q (.ref it) s->wpAny (à P w) A (d5<|.ref it) Q E s
noncomputable abbrev TI:=St->Hp->(It->Hp->Prop)->Prop
abbrev PIE(X:Cx)(Â:List<|Í×Obj)(σ:St)(tg:Expr)(R:It->Hp->Prop)(itv:Ã)(s2:Å):Prop :=
 ∃(it:Í) (fp:List Í) (tn:Nat->ĉ->Prop) (J:It) (H':Hp),itv=.ref it/\Inv X Â σ H' s2/\Turn X.prog X.w X.K tg J fp it tn/\tn 0 s2.heap/\(∀b∈fp,Wu X Â H' b)/\R J H'
abbrev PI(X:Cx)(tg Ų:Expr)(wi:TI):Prop :=
 ∀(Â:List<|Í×Obj) (s:Å) (σ:St) (H:Hp) (R:It->Hp->Prop),Inv X Â σ H s->wi σ H R->
  wpAny (à X.prog X.w) X.A (eval Ų X.env) (λv s1=>wpAny (à X.prog X.w) X.A (d5 v) (PIE X Â σ tg R) X.xe s1) X.xe s
variable {tg:Expr}
def eV{M:Model}{A:Ċ}{E:Ã->Å->Prop}{it:Í}{o:Obj}{n:String}{vs:Array Ã}{Q:Unit->Å->Prop}(ho:s.heap.get? it=eL o)(hc:o.cls=.type n)(hd:o.data=.fields vs)
  (hn:["enumerate","zip","dict_itemiterator","dict_reverseitemiterator","odict_iterator","itertools.zip_longest","itertools.pairwise"].contains n=eP) (hQ:Q () s):wpAny M A (Ϩ tg (.ref it) u) Q E s:=by
 unfold Ϩ;cases tg<;>first
  |exact Æ hQ
  | (cases u<;>first
      |exact Æ hQ
      | (refine À (wpAny_load ho ?_)
         rw[hc,hd]
         show wpAny M A (if(["enumerate","zip","dict_itemiterator","dict_reverseitemiterator","odict_iterator","itertools.zip_longest","itertools.pairwise"].contains n&&vs[0]? == eL (ħ _))=eN then _ else _) Q E s
         rw[gq<|by intro h;rw[hn,Bool.false_and]at h;cases h]
         exact Æ hQ))
abbrev Itl(K:Frag)(a:Í):It :=
 ⟨λi H=>∃xs x,fY K H a xs/\xs[i]?=eL x,λi H x H'=>H'=H/\∀xs,fY K H a xs->xs[i]?=eL x,λi H=>∃xs,fY K H a xs/\xs.length<=i⟩
abbrev Itt(K:Frag)(a:Í):It :=
 ⟨λi H=>∃xs x,fZ K H a xs/\xs[i]?=eL x,λi H x H'=>H'=H/\∀xs,fZ K H a xs->xs[i]?=eL x,λi H=>∃xs,fZ K H a xs/\xs.length<=i⟩
abbrev Itr(lo:Int)(n:Nat):It:=⟨λi _=>i<n,λi H x H'=>H'=H/\x=.int (lo+i),λi _=>n<=i⟩
variable {P:ã} {w:Ā}
def Bz{K:Frag}(a it:Í):Turn P w K tg (Itl K a) [it] it (λi h=>h.IsListIter it a i) where
 mem:=by simp
 obj:=λi h st b hb=>by
  have e:b=it:=⇑hb
  subst e;let⟨o,e,c,d⟩:=st;exact⟨o,e,λv z=>by rw[d]at z;cases z⟩
 keep:=λi h h' st k=>st.at λo e=>k it (by simp) o e
 item:=by intro X hP hw hK hc i Â s σ H E I hf st hg;subst hP hw hK;let⟨xs,x,hq,hx⟩:=hg;let⟨ø,rv,p,hz⟩:=I.list hq;let⟨u,hu,ru⟩:=rv.get hx;let⟨f0,f1,f2,f3,f4,f5⟩:=hf it (by simp);refine wpAny_pyNext_list_item st p.isList (x:=u) ⇑hu λh' dR sb=>?_;have I1:Inv X Â σ H {s with heap:=h'}:=I.turned (t':=s.toks) (λb o hb e=>(sb.2 b hb).trans e) f0 f1 f3 f4 f5;let⟨o,e,c,d⟩:=id dR;exact⟨u,rfl,eV (s:={s with heap:=h'}) e c d (by decide) ⟨x,H,I1,ru,⟨rfl,λys hy=>by rw[I.list_inj hy hq];exact hx⟩,dR,λb hb=>(hf b hb).1⟩⟩
 done:=by intro X hP hw hK hc i Â s σ H E I hf st hg;subst hP hw hK;let⟨xs,hq,hx⟩:=hg;let⟨ø,rv,p,hz⟩:=I.list hq;let⟨f0,f1,f2,f3,f4,f5⟩:=hf it (by simp);have hl:=rv.length;exact wpAny_pyNext_list_end (I.ok.hd hc) st p.isList (by simp;lia) λh' eb=>⟨rfl,I.turned (t':=s.toks) (λb o hb e=>eb b o hb e) f0 f1 f3 f4 f5⟩
 self:=λ_ _ _ _ _ st h=>wpAny_pyIter_listiter st h
def OX{K:Frag}(a it:Í):Turn P w K tg (Itt K a) [it] it (λi h=>h.IsTupleIter it a i) where
 mem:=by simp
 obj:=λi h st b hb=>by
  have e:b=it:=⇑hb
  subst e;let⟨o,e,c,d⟩:=st;exact⟨o,e,λv z=>by rw[d]at z;cases z⟩
 keep:=λi h h' st k=>st.at λo e=>k it (by simp) o e
 item:=by intro X hP hw hK hc i Â s σ H E I hf st hg;subst hP hw hK;let⟨xs,x,hq,hx⟩:=hg;let⟨ø,rv,p,hz⟩:=I.tuple hq;let⟨u,hu,ru⟩:=rv.get hx;let⟨f0,f1,f2,f3,f4,f5⟩:=hf it (by simp);refine wpAny_pyNext_tuple_item st (show s.heap.IsTuple a ø.toArray from p) (x:=u) ⇑hu λh' dR sb=>?_;have I1:Inv X Â σ H {s with heap:=h'}:=I.turned (t':=s.toks) (λb o hb e=>(sb.2 b hb).trans e) f0 f1 f3 f4 f5;let⟨o,e,c,d⟩:=id dR;exact⟨u,rfl,eV (s:={s with heap:=h'}) e c d (by decide) ⟨x,H,I1,ru,⟨rfl,λys hy=>by rw[I.tuple_inj hy hq];exact hx⟩,dR,λb hb=>(hf b hb).1⟩⟩
 done:=by intro X hP hw hK hc i Â s σ H E I hf st hg;subst hP hw hK;let⟨xs,hq,hx⟩:=hg;let⟨ø,rv,p,hz⟩:=I.tuple hq;let⟨f0,f1,f2,f3,f4,f5⟩:=hf it (by simp);have hl:=rv.length;exact wpAny_pyNext_tuple_end (I.ok.hd hc) st (show s.heap.IsTuple a ø.toArray from p) (by simp;lia) λh' eb=>⟨rfl,I.turned (t':=s.toks) (λb o hb e=>eb b o hb e) f0 f1 f3 f4 f5⟩
 self:=λ_ _ _ _ _ st h=>wpAny_pyIter_tupleiter st h
def OV{K:Frag}(it:Í)(lo:Int)(n:Nat):Turn P w K tg (Itr lo n) [it] it (λi h=>IsRangeIter h it (lo+(i:Nat)*1) ((n:Int) - (i:Nat)) 1) where
 mem:=by simp
 obj:=λi h st b hb=>by
  have e:b=it:=⇑hb
  subst e;exact⟨_,st,λv z=>by
    have z':Data.fields _=Data.cell v:=z
    cases z'⟩
 keep:=λi h h' st k=>k it (by simp) _ st
 item:=by intro X hP hw hK hc i Â s σ H E I hf st hg;subst hP hw hK;let⟨f0,f1,f2,f3,f4,f5⟩:=hf it (by simp);have W:=Walks.range (prog:=X.prog) (w:=X.w) (I.ok.hd hc) it lo 1 n;refine W.item i s _ _ hg st λv h' tk hv dR kk=>?_;let⟨t,rfl⟩:=hv;have I1:Inv X Â σ H {s with heap:=h',toks:=tk}:=I.turned (λb o hb e=>kk b o ⇑hb e) f0 f1 f3 f4 f5;refine⟨_,rfl,eV (s:={s with heap:=h',toks:=tk}) (n:="range_iterator") dR rfl rfl (by decide) ⟨.int<|lo+i,H,I1,⟨t,?_⟩,⟨rfl,rfl⟩,dR,λb hb=>(hf b hb).1⟩⟩;rw[df]
 done:=by intro X hP hw hK hc i Â s σ H E I hf st hg;subst hP hw hK;let⟨f0,f1,f2,f3,f4,f5⟩:=hf it (by simp);exact wpAny_pyNext_range_end (I.ok.hd hc) st (by have:n<=i:=hg;lia) λh' eb=>⟨rfl,I.turned (t':=s.toks) (λb o hb e=>eb b o hb e) f0 f1 f3 f4 f5⟩
 self:=λ_ _ _ _ _ st h=>wpAny_pyIter_rangeiter st h
section
variable {X:Cx}{tg:Expr}
variable {Â:List (Í×Obj)} {σ:St} {H:Hp} {s:Å}
def Ot{R:It->Hp->Prop}{E:Ã->Å->Prop}{lo hi:Int}{t u v:Tok}{tk:Nat}(I:Inv X Â σ H s)(h1:-(2 ^ 62)<=lo)(h2:lo<2 ^ 62)(h3:-(2 ^ 62)<=hi)(h4:hi<2 ^ 62)
  (q:R (Itr lo (hi - lo).toNat) H):wpAny (à X.prog X.w) X.A (d5<|.ref s.heap.objs.size) (PIE X Â σ tg R) E {s with heap:=s.heap.push {cls:=.type "range",data:=.fields #[.int lo t,.int hi u,.int 1 v]},toks:=tk}:=by
 refine wpAny_pyIter_range (IsRange.new ..) (small_one h1 h2 h3 h4) ?_;have I1:Inv X Â σ H { s with heap:=s.heap.push { cls:=.type "range",data:=.fields #[.int lo t,.int hi u,.int 1 v] },toks:=tk }:=I.kept λb o e=>Ä _ e;refine⟨(s.heap.push { cls:=.type "range",data:=.fields #[.int lo t,.int hi u,.int 1 v] }).objs.size,[(s.heap.push { cls:=.type "range",data:=.fields #[.int lo t,.int hi u,.int 1 v] }).objs.size],_,_,H,rfl,
   I1.kept (t':=tk) λb o e=>Ä _ e,OV _ lo (hi - lo).toNat,?_,λb hb=>?_,q⟩
 .have e1:lo+((0:Nat):Int)*1=lo:=by simp
  have e2:(((hi - lo).toNat:Nat):Int) - ((0:Nat):Int)=Builtin.Range.rangeSize lo hi 1:=by rw[rangeSize_one];split<;>lia
  show IsRangeIter _ _ (lo+((0:Nat):Int)*1) ((((hi - lo).toNat:Nat):Int) - ((0:Nat):Int)) 1;rw[e1,e2];exact Ô _ rfl
 .have e:b=(s.heap.push {cls:=.type "range",data:=.fields #[.int lo t,.int hi u,.int 1 v]}).objs.size:=⇑hb
  subst e;exact I1.fpOk (Ì _)<|I1.hok.fresh<|Ì _
abbrev QN(ta:TA):TI:=λσ H R=>ta σ H λvs H1=>∃j:Int,vs=[.int j]/\-(2 ^ 62)<=j/\j<2 ^ 62/\R (Itr 0 j.toNat) H1
abbrev Rw(ta:TA):TI:=λσ H R=>ta σ H λvs H1=>∃i j:Int,vs=[.int i,.int j]/\(-(2 ^ 62)<=i/\i<2 ^ 62/\-(2 ^ 62)<=j/\j<2 ^ 62)/\R (Itr i (j - i).toNat) H1
variable {a:Expr} {ta:TA} {p:Pos} {ë:Pos}
def A6(hg:Gl X "range")(hm:X.mg "range" = eM)(ha:PA X [a] ta)(hs:Ü [a] X.env=[(eP,eval a X.env)]:=by rfl):PI X tg (.Call (.Name "range" p) [a] [] ë)<|QN ta:=by
 intro Â s σ H R I h;refine Call_<|YI I hg hm boot_range<|PyProof.Rows.callWith_type1 (thn (ha ë Â s σ H _ I h) λus s1 ⟨vs,H1,I1,r1,q1⟩=>?_) hs rfl;let⟨j,e,q1,q2,q⟩:=q1;subst e;cases r1 with
 |cons r rr =>cases rr;let⟨t,rfl⟩:=r;exact call_range_1 (Ot I1 (by lia) (by lia) q1 q2<|by simpa using q)
def Ba{b:Expr}(hg:Gl X "range")(hm:X.mg "range" = eM)(ha:PA X [a,b] ta)(hs:Ü [a,b] X.env=[(eP,eval a X.env),(eP,eval b X.env)]:=by rfl)(hs2:Ü [b] X.env=[(eP,eval b X.env)]:=by rfl) :
  PI X tg (.Call (.Name "range" p) [a,b] [] ë) (Rw ta):=by
 intro Â s σ H R I h;refine Call_ (YI I hg hm boot_range<|PyProof.Rows.callWith_type1 (thn (ha ë Â s σ H _ I h) λus s1 ⟨vs,H1,I1,r1,q1⟩=>?_) (by rw[hs,hs2])<|by rw[hs2];rfl);let⟨i,j,e,⟨q1,q2,q3,q4⟩,q⟩:=q1;subst e;cases r1 with
 |cons r rr =>
  cases rr with
  |cons r' rr =>cases rr;let⟨t,rfl⟩:=r;let⟨t',rfl⟩:=r';exact call_range_2<|Ot I1 q1 q2 q3 q4 q
abbrev SB(wi:TI)(g:TG)(tb:TS):TS:=λD σ H=>wi σ H λJ H1=>∃W:Nat->Nat->St->Hp->Prop,(∃m,W 0 m σ H1)/\∀i m σ H,W i m σ H->
 (J.stop i H/\D.nx σ H)\/(J.go i H/\∃N:St->Hp->Prop,(∀ř H',N ř H'->∃m',m'<m/\W (i+1) m' ř H')/\∀x H',J.yld i H x H'->g x σ H' λσ2 H2=>tb {D with nx:=N,ct:=N,bk:=D.nx} σ2 H2)
abbrev XR(fp:List Í)(h:ĉ):List<|Í×Obj:=fp.filterMap λb=>(h.get? b).map λo=>(b,o)
variable {fp:List Í} {h:ĉ}
def ZT{b:Í}{o:Obj}(hb:b∈fp)(e:h.get? b=eL o):(b,o)∈XR fp h:=Ŭ.mpr ⟨b,hb,by rw[e];rfl⟩
def KG{p:Í×Obj}(hp:p∈XR fp h):p.1∈fp/\h.get? p.1=eL p.2:=by
 let⟨b,hb,e⟩:=Ŭ.mp hp;cases q:h.get? b with
 |none=>rw[q]at e;cases e
 |some o =>rw[q]at e;have e':(b,o)=p:=è e;subst e';exact⟨hb,q⟩
def Inv.pinned(I:Inv X Â σ H s)(hf:∀b∈fp,Wu X Â H b)(ho:∀b∈fp,∃o,s.heap.get? b=eL o/\∀v,o.data≠.cell v):Inv X (Â++XR fp s.heap) σ H s :=
 I.pins_of λp hp=>(Õ.mp hp).elim (λz=>I.pin p<|Ç _ z) λz=>by let⟨hb,e⟩:=KG z;let⟨f0,f1,f2,_⟩:=hf p.1 hb;let⟨o,e',d⟩:=ho p.1 hb;rw[e]at e';cases e';exact⟨e,f0,f1,f2,d⟩
def Inv.unpinned{pl:List (Í×Obj)}(I:Inv X (Â++pl) σ H s):Inv X Â σ H s:=I.pins_of λp hp=>I.pin p (Ç _<|Ð _ hp)
def B6{Ų:Expr}{body:List ľ}{wi:TI}{g:TG}{tb:TS}(hp:Κ (à X.prog X.w) X.A X.env X.xe)(hc:X.calm=eN)(hi:PI X tg Ų wi)(hg:PG X tg g)(hb:PSs X body tb)
  (hs:∀x,ė Ų X.env x=pure x:=by intro _;rfl):PS X (.For tg Ų body [] ë)<|SB wi g tb:=by
 intro Â s σ H D I h;refine wpAny_For (thn (hi Â s σ H _ I h) λv s1 h1=>thn h1 λitv s2 h2=>?_) hs;let⟨it,fp,tn,J,H2,e,I2,T,st2,f2,W,⟨m0,w0⟩,turn⟩:=h2;subst e;have stat:∀{H':Hp},(∀b∈fp,H' b=eM)->∀b∈fp,Wu X Â H' b:=λhn b hb=>⟨hn b hb,(f2 b hb).2⟩
 refine codeAny_forLoop_any (λn s'=>∃i ř H',Inv X Â ř H' s'/\tn i s'.heap/\(∀b∈fp,H' b=eM)/\W i n ř H') ?_ m0 ⟨0,σ,H2,I2,st2,λb hb=>(f2 b hb).1,w0⟩;rintro n s3 ⟨i,bz,H3,I3,st3,fr3,w3⟩;rcases turn i n bz H3 w3 with⟨stop,qn⟩|⟨go,N,hN,step⟩
 .refine ŝ hp<|thn (T.done X rfl rfl rfl hc i Â s3 bz H3 X.xe I3 (stat fr3) st3 stop) λr s4 ⟨hr,I4⟩=>?_;subst hr;exact bR ⟨bz,H3,I4,qn⟩
 .refine ŝ hp<|thn (T.item X rfl rfl rfl hc i Â s3 bz H3 X.xe I3 (stat fr3) st3 go) λr s4 ⟨u,hr,h4⟩=>?_;subst hr;refine ŝ hp<|thn h4 λ_ s5 ⟨x,H5,I5,r5,y5,st5,fr5⟩=>?_;have I5':=I5.pinned (stat fr5)<|T.obj _ _ st5;refine ŝ hp<|thn (hg _ s5 bz H5 x u _ I5' r5<|step x H5 y5) λ_ s6 ⟨σ6,H6,I6,q6⟩=>?_;refine ŝ hp<|thn (hb _ s6 σ6 H6 _ I6 q6) λf s7 q7=>?_;have again:∀{bA:St}{H7:Hp},Inv X (Â++XR fp s5.heap) bA H7 s7->N bA H7->∃m,m<n/\∃i ř H',Inv X Â ř H' s7/\tn i s7.heap/\(∀b∈fp,H' b=eM)/\W i m ř H':=λ{bA H7} I7 n7=>by
   let⟨m',hm,w7⟩:=hN bA H7 n7;refine⟨m',hm,i+1,bA,H7,I7.unpinned,T.keep _ _ _ st5 λb hb o e=>(I7.pin (b,o)<|Ç _<|Ç _<|ZT hb e).1,λb hb=>?_,w7⟩;let⟨o,e,d⟩:=T.obj _ _ st5 b hb;exact(I7.pin (b,o)<|Ç _<|Ç _<|ZT hb e).2.1
  cases f with
  |next=>let⟨bA,H7,I7,n7⟩:=q7;exact again I7 n7
  |cont=>let⟨bA,H7,I7,n7⟩:=q7;exact again I7 n7
  |brk=>let⟨bA,H7,I7,q7⟩:=q7;exact⟨bA,H7,I7.unpinned,q7⟩
  |ret v=>let⟨x7,bA,H7,I7,r7,q7⟩:=q7;exact⟨x7,bA,H7,I7.unpinned,r7,q7⟩
end
noncomputable abbrev R2:=V->V->Hp->VK->Prop
abbrev OpR(X:Cx)(f:Ã->Ã->Sem Ã)(r:R2):Prop :=
 ∀(Â:List<|Í×Obj) (s:Å) (σ:St) (H:Hp) (x y:V) (v u:Ã) (Q:VK),Inv X Â σ H s->RelV x v->RelV y u->r x y H Q->
  wpAny (à X.prog X.w) X.A (f v u) (EP X Â σ Q) X.xe s
abbrev UnR(X:Cx)(f:Ã->Sem Ã)(r:V->Hp->VK->Prop):Prop :=
 ∀(Â:List<|Í×Obj) (s:Å) (σ:St) (H:Hp) (x:V) (v:Ã) (Q:VK),Inv X Â σ H s->RelV x v->r x H Q->
  wpAny (à X.prog X.w) X.A (f v) (EP X Â σ Q) X.xe s
abbrev eY(X:Cx)(f:Ã)(r:List V->Hp->VK->Prop):Prop :=
 ∀(Â:List<|Í×Obj) (s:Å) (σ:St) (H:Hp) (xs:List V) (us:List Ã) (Q:VK),Inv X Â σ H s->f8 xs us->r xs H Q->
  wpAny (à X.prog X.w) X.A (call f us) (EP X Â σ Q) X.xe s
abbrev SC(X:Cx)(r:V->Hp->(Bool->Hp->Prop)->Prop):Prop :=
 ∀(Â:List<|Í×Obj) (s:Å) (σ:St) (H:Hp) (x:V) (v:Ã) (Q:Bool->Hp->Prop),Inv X Â σ H s->RelV x v->r x H Q->
  wpAny (à X.prog X.w) X.A (truthy v) (TP X Â σ Q) X.xe s
abbrev tOp(r:R2)(ta tb:TE):TE:=λσ H Q=>ta σ H λx H1=>tb σ H1 λy H2=>r x y H2 Q
abbrev tUn(r:V->Hp->VK->Prop)(ta:TE):TE:=λσ H Q=>ta σ H λx H1=>r x H1 Q
abbrev rI(C:Int->Int->Prop)(g:Int->Int->V):R2:=λx y H Q=>∃i j,x=.int i/\y=.int j/\C i j/\Q (g i j) H
abbrev rI0(g:Int->Int->V):R2:=λx y H Q=>∃i j,x=.int i/\y=.int j/\Q (g i j) H
abbrev rU(g:Int->V):V->Hp->VK->Prop:=λx H Q=>∃i,x=.int i/\Q (g i) H
section
variable {X:Cx}{a b c:Expr}{ta tb tc:TE}{ë:Pos}
variable {f:Ã->Ã->Sem Ã}
def Il(ha:PE X a ta)(hb:PE X b tb){Â:List (Í×Obj)}{s:Å}{σ:St}{H:Hp}{R:V->V->Hp->Prop}(I:Inv X Â σ H s)
  (h:ta σ H λx H1=>tb σ H1 λy H2=>R x y H2){Q:Ã->Å->Prop} 
  (hf:∀v u s2 x y H2,Inv X Â σ H2 s2->RelV x v->RelV y u->R x y H2->wpAny (à X.prog X.w) X.A (f v u) Q X.xe s2) :
  wpAny (à X.prog X.w) X.A (eval a X.env) (λv Ġ=>wpAny (à X.prog X.w) X.A (eval b X.env) (λu aY=>wpAny (à X.prog X.w) X.A (f v u) Q X.xe aY) X.xe Ġ) X.xe s:=by
 refine thn (ha Â s σ H _ I h) λv s1 ⟨x,H1,I1,r1,q1⟩=>?_;refine thn (hb Â s1 σ H1 _ I1 q1) λu s2 ⟨y,H2,I2,r2,q2⟩=>?_;exact hf v u s2 x y H2 I2 r1 r2 q2
def QM{op:ϗ}{r:R2}(ho:OpR X (ŉ op) r)(ha:PE X a ta)(hb:PE X b tb):PE X (.BinOp a op b ë)<|tOp r ta tb:=by intro Â s σ H Q I h;exact wpAny_BinOp (Il ha hb I h λv u s2 x y H2 I2 rx ry q=>ho Â s2 σ H2 x y v u Q I2 rx ry q)
def QC{op:UnaryOp}{r:V->Hp->VK->Prop}(ho:UnR X (unaryOp op) r)(ha:PE X a ta):PE X (.UnaryOp op a ë)<|tUn r ta:=by intro Â s σ H Q I h;exact UnaryOp_ (thn (ha Â s σ H _ I h) λv s1 ⟨x,H1,I1,r1,q1⟩=>ho Â s1 σ H1 x v Q I1 r1 q1)
variable {g:Int->Int->Int}
def opI{C:Int->Int->Prop} 
  (rule:∀(i j:Int) (t u:Tok) (s:Å) (Q:Ã->Å->Prop) (E:Ã->Å->Prop),C i j->Q (.int (g i j) s.toks) {s with toks:=s.toks+1}->wpAny (à X.prog X.w) X.A (f (.int i t)<|.int j u) Q E s) :
  OpR X f (rI C λi j=>.int<|g i j):=by
 intro Â s σ H x y v u Q I rx ry h;let⟨i,j,rfl,rfl,hc,q⟩:=h;let⟨t,rfl⟩:=rx;let⟨t',rfl⟩:=ry;exact rule i j t t' s _ _ hc ⟨.int<|g i j,H,I.tok _,⟨_,rfl⟩,q⟩
def Qf  
  (rule:∀(i j:Int) (t u:Tok) (s:Å) (Q:Ã->Å->Prop) (E:Ã->Å->Prop),Q (.int (g i j) s.toks) {s with toks:=s.toks+1}->wpAny (à X.prog X.w) X.A (f (.int i t)<|.int j u) Q E s) :
  OpR X f (rI0 λi j=>.int<|g i j):=by
 intro Â s σ H x y v u Q I rx ry h;let⟨i,j,rfl,rfl,q⟩:=h;let⟨t,rfl⟩:=rx;let⟨t',rfl⟩:=ry;exact rule i j t t' s _ _ ⟨.int<|g i j,H,I.tok _,⟨_,rfl⟩,q⟩
def F7{g:Int->Int->Bool}
  (rule:∀(i j:Int) (t u:Tok) (s:Å) (Q:Ã->Å->Prop) (E:Ã->Å->Prop),Q (.bool<|g i j) s->wpAny (à X.prog X.w) X.A (f (.int i t)<|.int j u) Q E s) :
  OpR X f (rI0 λi j=>.bl<|g i j):=by
 intro Â s σ H x y v u Q I rx ry h;let⟨i,j,rfl,rfl,q⟩:=h;let⟨t,rfl⟩:=rx;let⟨t',rfl⟩:=ry;exact rule i j t t' s _ _ ⟨.bl<|g i j,H,I,rfl,q⟩
abbrev QY(i j:Int):Prop:=0<j/\j<1073741824
abbrev PU(i j:Int):Prop:=0<=j/\j<=1000000/\i.natAbs<2 ^ 64
def op_add:OpR X (ŉ .Add)<|rI0 λi j=>.int<|i+j:=Qf λ_ _ _ _ _ _ _ q=>add_int q
def Lb:OpR X (ŉ .Sub)<|rI0 λi j=>.int<|i - j:=Qf λ_ _ _ _ _ _ _ q=>sub_int q
def EZ:OpR X (ŉ .FloorDiv)<|rI QY λi j=>.int<|i / j:=opI λi j _ _ _ _ _ hc q=>by have h1:(0:Int)<j:=hc.1;have h2:j<1073741824:=hc.2;exact floordiv_int (by lia) (by rw[Int.fdiv_eq_ediv_of_nonneg i<|by lia];exact q) (.inl<|PyProof.noPylong_small<|by lia)
def HV:OpR X (ŉ .Mod)<|rI (λ_ j=>0<j) λi j=>.int<|i % j:=opI λi j _ _ _ _ _ hc q=>by have h1:(0:Int)<j:=hc;exact mod_int' (by lia) (by rw[Int.fmod_eq_emod_of_nonneg i<|by lia];exact q)
def IM:OpR X (ŉ .Pow)<|rI PU λi j=>.int<|i ^ j.toNat:=opI λ_ _ _ _ _ _ _ hc q=>pow_int_small hc.1 hc.2.1 hc.2.2 q
def unI{f:Ã->Sem Ã}{g:Int->Int}
  (rule:∀(i:Int) (t:Tok) (s:Å) (Q:Ã->Å->Prop) (E:Ã->Å->Prop),Q (.int (g i) s.toks) {s with toks:=s.toks+1}->wpAny (à X.prog X.w) X.A (f<|.int i t) Q E s) :
  UnR X f (rU λi=>.int<|g i):=by
 intro Â s σ H x v Q I rx h;let⟨i,rfl,q⟩:=h;let⟨t,rfl⟩:=rx;exact rule i t s _ _ ⟨.int<|g i,H,I.tok _,⟨_,rfl⟩,q⟩
def Lq:UnR X (unaryOp .USub)<|rU λi=>.int (-i):=unI λ_ _ _ _ _ q=>neg_int q
end
section
variable {X:Cx}{a b c:Expr}{ta tb tc:TE}{ë:Pos}
def Ik{Â:List (Í×Obj)}{σ:St}{H:Hp}{s:Å}{Q:VK}{k k':Bool}(I:Inv X Â σ H s)(q:Q (.bl k) H)(e:k=k'):EP X Â σ Q (.bool k') s:=by subst e;exact⟨.bl k,H,I,rfl,q⟩
def op_lt:OpR X (î .Lt)<|rI0 λi j=>.bl<|gB (i<j):=F7 λ_ _ _ _ _ _ _ q=>lt_int q
def Qd:OpR X (î .LtE)<|rI0 λi j=>.bl<|gB (i<=j):=F7 λ_ _ _ _ _ _ _ q=>le_int q
def op_gt:OpR X (î .Gt)<|rI0 λi j=>.bl<|gB (j<i):=F7 λ_ _ _ _ _ _ _ q=>gt_int q
def P6:OpR X (î .GtE)<|rI0 λi j=>.bl<|gB (j<=i):=F7 λ_ _ _ _ _ _ _ q=>ge_int q
def Bw:OpR X (î .In) λx y H Q=>∃i j,x=.str i/\y=.str j/\Q (.bl (!(Builtin.Str.occurrences j i 0 j.length 1).isEmpty)) H:=by intro Â s σ H x y v u Q I rx ry h;let⟨i,j,rfl,rfl,q⟩:=h;let⟨t,rfl⟩:=rx;let⟨t',rfl⟩:=ry;exact in_str (Ik I q rfl)
variable {r:R2} {r':R2}
def OpR.or{f:Ã->Ã->Sem Ã}(h:OpR X f r)(h':OpR X f r'):OpR X f λx y H Q=>r x y H Q\/r' x y H Q:=by
 intro Â s σ H x y v u Q I rx ry q;rcases q with q|q
 .exact h Â s σ H x y v u Q I rx ry q
 .exact h' Â s σ H x y v u Q I rx ry q
variable {op:ck}
def UK(ho:OpR X (î op) r)(ha:PE X a ta)(hb:PE X b tb)(hm:Ľ op b=eP):PE X (.Compare a [op] [b] ë)<|tOp r ta tb:=by intro Â s σ H Q I h;exact wpAny_Compare1 (Il ha hb I h λv u s2 x y H2 I2 rx ry q=>ho Â s2 σ H2 x y v u Q I2 rx ry q) hm
abbrev HM(t:TE):TT:=λσ H Q=>t σ H λx H'=>∃k,x=.bl k/\Q k H'
def Uy(ho:OpR X (î op) r)(ha:PE X a ta)(hb:PE X b tb)(hm:Ľ op b=eP):PT X (.Compare a [op] [b] ë)<|HM<|tOp r ta tb:=by
 intro Â s σ H Q I h;refine wpAny_isTrue_Compare1 (thn (ha Â s σ H _ I h) λv s1 ⟨x,H1,I1,r1,q1⟩=>thn (hb Â s1 σ H1 _ I1 q1) λu s2 ⟨y,H2,I2,r2,q2⟩ =>
   thn (ho Â s2 σ H2 x y v u _ I2 r1 r2 q2) λc s3 ⟨z,H3,I3,r3,k,e,q3⟩=>?_) hm
 subst e;cases r3;exact Ď ⟨H3,I3,q3⟩
abbrev Dp(r r':R2)(ta tb tc:TE):TE:=λσ H Q=>ta σ H λx H1=>tb σ H1 λy H2=>r x y H2 λz H3=>∃k,z=.bl k/\
 (if k=eN then tc σ H3 λw' H4=>r' y w' H4 Q else Q (.bl eP) H3)
variable {dr:ck}
def B2(ho:OpR X (î op) r)(ab:OpR X (î dr) r')(ha:PE X a ta)(hb:PE X b tb)(hc:PE X c tc)
  (hm:bj [op,dr] [b,c]=eP:=by with_unfolding_all rfl):PE X (.Compare a [op,dr] [b,c] ë)<|Dp r r' ta tb tc:=by
 intro Â s σ H Q I h;refine Compare_chain (thn (ha Â s σ H _ I h) λv s1 ⟨x,H1,I1,r1,q1⟩=>chain_link (thn (hb Â s1 σ H1 _ I1 q1) λu s2 ⟨y,H2,I2,r2,q2⟩ =>
   thn (ho Â s2 σ H2 x y v u _ I2 r1 r2 q2) λd s3 ⟨z,H3,I3,r3,k,e,q3⟩=>?_)) hm
 subst e;cases r3;refine Ď ?_;cases k with
 |false=>exact ite_ff ⟨.bl eP,H3,I3,rfl,q3⟩
 |true=>exact ite_tt<|chain_last<|thn (hc Â s3 σ H3 _ I3 q3) λw' s4 ⟨z',H4,I4,r4,q4⟩=>ab Â s4 σ H4 y z' u w' Q I4 r2 r4 q4
def DE(ho:OpR X (î op) r)(ab:OpR X (î dr) r')(ha:PE X a ta)(hb:PE X b tb)(hc:PE X c tc)
  (hm:bj [op,dr] [b,c]=eP:=by with_unfolding_all rfl):PT X (.Compare a [op,dr] [b,c] ë)<|HM<|Dp r r' ta tb tc:=by
 intro Â s σ H Q I h;refine isTrue_chain (thn (ha Â s σ H _ I h) λv s1 ⟨x,H1,I1,r1,q1⟩=>test_link (thn (hb Â s1 σ H1 _ I1 q1) λu s2 ⟨y,H2,I2,r2,q2⟩ =>
   thn (ho Â s2 σ H2 x y v u _ I2 r1 r2 q2) λd s3 ⟨z,H3,I3,r3,k,e,q3⟩=>?_)) hm
 subst e;cases r3;refine Ď ?_;cases k with
 |false =>let⟨k',e',q'⟩:=q3;cases e';exact ite_ff ⟨H3,I3,q'⟩
 |true =>refine ite_tt<|test_last<|thn (hc Â s3 σ H3 _ I3 q3) λw' s4 ⟨z',H4,I4,r4,q4⟩=>thn (ab Â s4 σ H4 y z' u w' _ I4 r2 r4 q4) λd' s5 ⟨z2,H5,I5,r5,k2,e2,q5⟩=>?_;subst e2;cases r5;exact Ď ⟨H5,I5,q5⟩
abbrev Qj(K:Frag)(x:V)(H:Hp)(k:Bool):Prop :=
 match x with
 |.non=>k=eP
 |.bl b=>k=b
 |.int i=>k=(i != 0)
 |.str y=>y.length<=ß/\k=((y.length:Int) != 0)
 |.byt y=>y.size<=ß/\k=((y.size:Int) != 0)
 |.ref p=>(∃xs,fY K H p xs/\k=!xs.isEmpty)\/(∃xs,fZ K H p xs/\k=!xs.isEmpty)\/∃kvs,H p=eL (.dK kvs)/\k=!kvs.isEmpty
 |_=>False
def OJ{κ:Type}{kvs:List (κ×V)}{vs:List (κ×Ã)}(r:KV kvs vs):(!vs.isEmpty)=!kvs.isEmpty:=by cases r<;>rfl
def JC{xs:List V}{ø:List Ã}(r:f8 xs ø):(!ø.toArray.isEmpty)=!xs.isEmpty:=by cases r<;>simp
def Y4:(ß:Nat)<2 ^ 63:=by rw[ϵ];decide
def PN:SC X λx H Q=>∃k,Qj X.K x H k/\Q k H:=by
 intro Â s σ H x v Q I rx h;let⟨k,e,q⟩:=h;have hl:=Y4;have hs:ß=16777216:=ϵ;cases x with
 |non =>cases rx;have e':k=eP:=e;subst e';exact truthy_none ⟨H,I,q⟩
 |bl b =>cases rx;have e':k=b:=e;subst e';exact Ď ⟨H,I,q⟩
 |int i =>let⟨t,rfl⟩:=rx;have e':k=(i != 0):=e;subst e';exact PySem.P.truthy_int ⟨H,I,q⟩
 |str y =>let⟨t,rfl⟩:=rx;obtain⟨hy,e'⟩:y.length<=ß/\k=((y.length:Int) != 0):=e;subst e';exact PySem.P.truthy_str (by lia) ⟨H,I.tok _,q⟩
 |byt y =>let⟨t,rfl⟩:=rx;obtain⟨hy,e'⟩:y.size<=ß/\k=((y.size:Int) != 0):=e;subst e';exact PySem.W.truthy_bytes (by lia) ⟨H,I.tok _,q⟩
 |ref p =>
  cases rx;have e':(∃xs,fY X.K H p xs/\k=!xs.isEmpty)\/(∃xs,fZ X.K H p xs/\k=!xs.isEmpty)\/∃kvs,H p=eL (.dK kvs)/\k=!kvs.isEmpty:=e;rcases e' with⟨xs,hx,e'⟩|⟨xs,hx,e'⟩|⟨kvs,hx,e'⟩
  .subst e';let⟨ø,r,pl,hz⟩:=I.list hx;have hlen:=r.length;exact wpAny_truthy_list pl.isList (by simp only[Ê];lia) ⟨H,I.tok _,by rw[JC r];exact q⟩
  .subst e';let⟨ø,r,pl,hz⟩:=I.tuple hx;have hlen:=r.length;exact truthy_tuple pl (by simp only[Ê];lia) ⟨H,I.tok _,by rw[JC r];exact q⟩
  .subst e';obtain⟨hz,hS,vs,r,m⟩:kvs.length<=ß/\(p==Ś)=eP/\∃vs,KV kvs vs/\s.heap.DictOf (Zh X.prog X.w) p vs:=I.hok p _ hx;have hlen:kvs.length=vs.length:=Paired.length r;exact wpAny_truthy_dict hS m (by lia) ⟨H,I.tok _,by rw[OJ r];exact q⟩
 |_=>exact(show False from e).elim
def Dc(ha:PE X a ta)(he:∀aF,cj a X.env aF=(do let v<-aF;ϊ a.pos;ő [v] (truthy v))) :
  PT X a (λσ H Q=>ta σ H λx H'=>∃k,Qj X.K x H' k/\Q k H'):=by
 intro Â s σ H Q I h;exact isTrue_plain (thn (ha Â s σ H _ I h) λv s1 ⟨x,H1,I1,r1,q1⟩=>PN Â s1 σ H1 x v Q I1 r1 q1)<|he _
def OR:OpR X (ŉ .Add) λx y H Q=>∃i j,x=.str i/\y=.str j/\i.length+j.length<=ß/\Q (.str<|i++j) H:=by intro Â s σ H x y v u Q I rx ry h;let⟨i,j,rfl,rfl,hz,q⟩:=h;let⟨t,rfl⟩:=rx;let⟨t',rfl⟩:=ry;exact add_str (λt' tk=>⟨.str<|i++j,H,I.tok _,⟨_,rfl⟩,q⟩) hz
variable {x:V} {us:List Ã}
def Z2(r:f8 [x] us):∃u,us=[u]/\RelV x u:=by
 cases r with
 |cons r1 r2=>cases r2;exact⟨_,rfl,r1⟩
def Uo{y:V}(r:f8 [x,y] us):∃u w',us=[u,w']/\RelV x u/\RelV y w':=by
 cases r with
 |cons r1 r2 =>
  cases r2 with
  |cons r3 r4=>cases r4;exact⟨_,_,rfl,r1,r3⟩
def AO(hc:X.calm=eN):eY X (.builtin "max") λxs H Q=>∃i j,xs=[.int i,.int j]/\Q (.int<|if j > i then j else i) H:=by
 intro Â s σ H xs us Q I r h;let⟨i,j,rfl,q⟩:=h;let⟨u,w',rfl,⟨t,rfl⟩,⟨t',rfl⟩⟩:=Uo r;refine max_two_ints (I.ok.hd hc) λh' tk k=>⟨_,H,I.kept k,?_,q⟩
 by_cases hj:j > i
 .rw[gp hj,gp hj];exact⟨_,rfl⟩
 .rw[gq hj,gq hj];exact⟨_,rfl⟩
def A7(hc:X.calm=eN):eY X (.builtin "min") λxs H Q=>∃i j,xs=[.int i,.int j]/\Q (.int<|if j<i then j else i) H:=by
 intro Â s σ H xs us Q I r h;let⟨i,j,rfl,q⟩:=h;let⟨u,w',rfl,⟨t,rfl⟩,⟨t',rfl⟩⟩:=Uo r;refine min_two_ints (I.ok.hd hc) λh' tk k=>⟨_,H,I.kept k,?_,q⟩
 by_cases hj:j<i
 .rw[gp hj,gp hj];exact⟨_,rfl⟩
 .rw[gq hj,gq hj];exact⟨_,rfl⟩
def call_int1:eY X (.type "int") λxs H Q=>(∃i,xs=[.int i]/\Q (.int i) H)\/∃k,xs=[.bl k]/\Q (.int<|if k then 1 else 0) H:=by
 intro Â s σ H xs us Q I r h;rcases h with⟨i,rfl,q⟩|⟨k,rfl,q⟩
 .obtain⟨u,rfl,t,rfl⟩:=Z2 r;exact call_int_int ⟨.int i,H,I,⟨_,rfl⟩,q⟩
 .obtain⟨u,rfl,r1⟩:=Z2 r;cases r1;exact call_int_bool ⟨.int (if k then 1 else 0),H,I.tok _,⟨_,rfl⟩,q⟩
end
structure ObjM(h:ĉ)(x dx C:Í)(mA:Str->Option Ã):Prop where
 obj:h.get? x=eL (PySem.W.instObj C dx)
 ns:h.Ns1 dx mA
 ne:dx≠x
variable {h:ĉ} {dx:Í} {mA:Str->Option Ã}
def Au(n:h.Ns1 dx mA):∃od,h.get? dx=eL od/\∀name,PySem.W.lookIn name od=eL (mA name):=by
 let⟨o,es,ep,ho,hd,hk,_,hm⟩:=n;refine⟨o,ho,λname=>?_⟩;have e:=hm name;unfold nsFind findBy at e;rw[<-Array.find?_toList]at e;unfold PySem.W.lookIn;rw[hd];dsimp only;split
 .rename_i y q;rw[q]at e;exact congrArg eL e
 .rename_i q;rw[q]at e;have a:es.toList.any (·.refKey)=eP:=by
   rw[List.any_eq_false];intro y hy;let⟨z,t,hkey⟩:=hk y<|Array.mem_toList_iff.mp hy;simp[DictEntry.refKey,hkey]
  have a':¬ es.toList.any (·.refKey)=eN:=by rw[a];exact ú
  rw[gq a'];exact congrArg eL e
variable {C:Í}
def ObjM.look{x:Í}(I:ObjM h x dx C mA):∃od,PySem.W.InstAt h x (PySem.W.instObj C dx) C (eL od)/\∀name,PySem.W.lookIn name od=eL (mA name) :=
 let ⟨od,ho,hl⟩:=Au I.ns
 ⟨od,⟨I.obj,rfl,rfl,ho⟩,hl⟩
section
variable {prog:ã}{w:Ā}{A:Ċ}{E:Ã->Å->Prop}{s:Å}{K:Frag}{x dx C f:Í}{mA:Str->Option Ã}{name:Str}{v:Ã}
def GX{expr:Bool}{Q:Ã->Å->Prop}(X:K.In s.heap)(I:ObjM s.heap x dx C mA)(hg:PySem.W.plainGet K C name=eN)(hh:PySem.W.hasDictIn K C=eN)
  (ha:PySem.W.findIn K (.ref C) name=eL eM) (hv:mA name=eL v) (hv':PySem.W.handedIn v=eN) (h:Q v {s with toks:=s.toks+1}) :
  wpAny (à prog w) A (getAttr (.ref x) name expr) Q E s:=by
 let⟨od,J,hl⟩:=I.look;exact PySem.W.get_value X J (PySem.W.plainGet_of hg).1 (PySem.W.findObj_own hh ha rfl<|by rw[hl,hv]) hv' h
def D0{pl:Sem Bool}{Q:Ã×List Ã->Å->Prop}(X:K.In s.heap)(I:ObjM s.heap x dx C mA)(hg:PySem.W.plainGet K C name=eN)
  (hf:PySem.W.findIn K (.ref C) name=eL (eL<|.ref f)) (ht:PySem.W.isFn K (.ref f)=eN) (hv:mA name=eM) (h:Q (.ref f,[.ref x]) s) :
  wpAny (à prog w) A (Ϙ (.ref x) name pl) Q E s:=by
 let⟨od,J,hl⟩:=I.look;exact PySem.W.method_fn X J (PySem.W.plainGet_of hg).1 (PySem.W.plainGet_of hg).2 hf (beq_iff_eq.mp ht) (by show(PySem.W.lookIn name od).map (·.isSome)=eL eP;rw[hl,hv];rfl) h
def E3{ns:List Str}{Q:Unit->Å->Prop}(X:K.In s.heap)(I:ObjM s.heap x dx C mA)
  (hs:PySem.W.findIn K (.ref C) "__setattr__" = eL (eL<|.builtin "object.__setattr__")) (hp:PySem.W.plainOver K C=eN) (ht:PySem.W.takerIn K C name=eL eM) (hh:PySem.W.hasDictIn K C=eN)
  (hw:PySem.Within mA ns) (hsz:ns.length<=ß)
  (h:∀h',ObjM h' x dx C (λy=>if y=name then eL v else mA y)->ŵ dx s.heap h'->Q () {s with heap:=h',toks:=s.toks+2}) :
  wpAny (à prog w) A (setAttr (.ref x) name v) Q E s:=by
 let⟨od,J,hl⟩:=I.look;refine PySem.W.set_plain X J hs<|PySem.W.osa_open (s:={s with toks:=s.toks+1}) (r:=eM) X J hp ht λb=>?_;let⟨cd,hc,hd'⟩:=PySem.W.any_some hh;have hx:s.heap.get? x=eL ⟨.ref C,eL dx,.plain,#[]⟩:=I.obj;refine À<|Æ<|À<|À<|wpAny_loadPart hx<|À<|PySem.W.Looks.here (s:={s with toks:=s.toks+1}) (PySem.W.looks_clsIn X hc) ?_;rw[hd'];refine Æ (a:=eL dx)<|À<|Æ<|À ?_;refine wpAny_nsSet1 (s:={s with toks:=s.toks+1}) I.ns λh' hn2 hs2=>?_;let⟨oD,esD,epD,hoD,hdD,hcD⟩:=hn2.count<|PySem.Within.cons name v hw;refine À (wpAny_lookBehind hoD (by rw[hdD];exact pastItsLine_dict<|Ý hcD<|by rw[Ï];lia) ?_);exact Æ<|h _ ⟨(hs2.2 _<|Ne.symm I.ne).trans I.obj,hn2,I.ne⟩ hs2
def CH{R:bp->Å->Prop}{vs:List Ã}{kw:List (Str×Ã)}(X:K.In s.heap)(hm:PySem.W.makesIn K C=eN)
  (hi:PySem.W.findIn K (.ref C) "__init__" = eL (eL<|.ref f)) (hf:PySem.W.typeIn K (.ref f)=eL (.type "function"))
  (h:codeAny (à prog w) (A.under<|.builtin "type.__call__" ⟨.ref C::vs,kw⟩) (.call (.ref f) ⟨.ref (s.heap.objs.size+1)::vs,kw⟩) (PySem.W.InitBack (s.heap.objs.size+1) R)
    { s with heap:=(s.heap.push PySem.W.emptyDict).push (PySem.W.instObj C s.heap.objs.size) }) :
  codeAny (à prog w) A (.call (.ref C) ⟨vs,kw⟩) R s:=by
 let⟨hh,g,d,t,os⟩:=s;exact PySem.W.make_core (PySem.W.makes_of X hm) (PySem.W.looks_findIn X hi) (λself=>PySem.W.bind_fn X self hf) (.inl rfl) h
end
abbrev fh(f:Str)(v:V):List (Str×V)->List (Str×V)
 |[]=>[(f,v)]
 |(g,x)::r=>if g=f then(g,v)::r else(g,x)::fh f v r
def Wz(f g:Str)(v:V):∀fs:List<|Str×V,(fh f v fs).lookup g=if g=f then eL v else fs.lookup g
 |[]=>by
  show μ g [(f,v)]=_;by_cases h:g=f
  .have hb:(g==f)=eN:=beq_iff_eq.mpr h;simp only[μ,hb,gp h]
  .have hb:(g==f)=eP:=beq_eq_false_iff_ne.mpr h;simp only[μ,hb,gq h]
 |(k,x)::r=>by
  have ih:=Wz f g v r;rw[show fh f v ((k,x)::r)=(if k=f then(k,v)::r else(k,x)::fh f v r) from rfl];by_cases hk:k=f
  .rw[gp hk];by_cases h:g=k
   .have hb:(g==k)=eN:=beq_iff_eq.mpr h;simp only[μ,hb,gp<|h.trans hk]
   .have hb:(g==k)=eP:=beq_eq_false_iff_ne.mpr h;simp only[μ,hb,gq λe:g=f=>h<|e.trans hk.symm]
  .rw[gq hk];by_cases h:g=k
   .have hb:(g==k)=eN:=beq_iff_eq.mpr h;simp only[μ,hb,gq λe:g=f=>hk<|h.symm.trans e]
   .have hb:(g==k)=eP:=beq_eq_false_iff_ne.mpr h;simp only[μ,hb];exact ih
def Wm(f:Str)(v:V):∀fs:List<|Str×V,f∈(fh f v fs).map (·.1)/\∀g,g∈fs.map (·.1)->g∈(fh f v fs).map (·.1)
 |[]=>⟨by simp[fh],λg h=>by simp at h⟩
 |(k,x)::r=>by
  let⟨i1,i2⟩:=Wm f v r;rw[show fh f v ((k,x)::r)=(if k=f then(k,v)::r else(k,x)::fh f v r) from rfl];by_cases hk:k=f
  .rw[gp hk];subst hk;exact⟨by simp,λg h=>⇑h⟩
  .rw[gq hk];refine⟨?_,λg h=>?_⟩
   .rw[Ñ];exact á _ i1
   .rw[Ñ]at h ⊢;rcases È.mp h with e|e
    .exact È.mpr<|.inl e
    .exact á _<|i2 g e
def WC(f:Str)(v:V):∀fs:List<|Str×V,(fh f v fs).length<=fs.length+1
 |[]=>by simp[fh]
 |(k,x)::r=>by
  have ih:=WC f v r;rw[show fh f v ((k,x)::r)=(if k=f then(k,v)::r else(k,x)::fh f v r) from rfl];by_cases hk:k=f
  .rw[gp hk,Ï,Ï];lia
  .rw[gq hk,Ï,Ï];lia
variable {o:Option Ã}
def fx.some_of{v:V}(r:fx (eL v) o):∃u,o=eL u/\RelV v u:=by
 cases o with
 |none=>exact(show False from r).elim
 |some u=>exact⟨u,rfl,r⟩
def fx.none_of(r:fx eM o):o=eM:=by
 cases o with
 |none=>rfl
 |some u=>exact(show False from r).elim
variable {u:Ã}
def AR{v:V}(r:RelV v u):PySem.W.handedIn u=eN:=by
 cases v with
 |non=>cases (show u=Value.none from r);rfl
 |bl b=>cases (show u=Value.bool b from r);rfl
 |int i=>let⟨t,e⟩:=(show ∃t,u=Value.int i t from r);cases e;rfl
 |str x=>let⟨t,e⟩:=(show ∃t,u=Value.str x t from r);cases e;rfl
 |byt b=>let⟨t,e⟩:=(show ∃t,u=Value.bytes b t from r);cases e;rfl
 |flt b=>let⟨t,e⟩:=(show ∃t,u=Value.float b t from r);cases e;rfl
 |ref a=>cases (show u=Value.ref a from r);rfl
 |ty n=>cases (show u=Value.type n from r);rfl
section
variable {P:ã}{w:Ā}{H H':Hp}{h h':ĉ}{a C dx:Í}{fs fs':List (Str×V)}
def WZ(hok:HOk P w H h)(e:H a=eL (.ins C dx fs)):∃mA,ObjM h a dx C mA/\(∀f,fx (fs.lookup f)<|mA f)/\PySem.Within mA (fs.map (·.1))/\fs.length<=1000/\H dx=eL (.own a):=by
 let⟨d,z,ne,ob,mA,n,r,q⟩:=(show eZ P w H h a (.ins C dx fs) from hok a _ e)
 exact⟨mA,⟨ob,n,ne⟩,r,q,z,d⟩
end
structure Cls(K:Frag)(C:Í):Prop where
 pg:PySem.W.plainGet K C Str.empty=eN
 hd:PySem.W.hasDictIn K C=eN
 po:PySem.W.plainOver K C=eN
 sa:PySem.W.findIn K (.ref C) "__setattr__" = eL (eL<|.builtin "object.__setattr__")
def Cls.get{K:Frag}(c:Cls K C)(f:Str):PySem.W.plainGet K C f=eN:=c.pg
abbrev NoAttr(K:Frag)(C:Í)(f:Str):Prop:=PySem.W.findIn K (.ref C) f=eL eM
def NoAttr.taker{K:Frag}{f:Str}(n:NoAttr K C f):PySem.W.takerIn K C f=eL eM:=by unfold PySem.W.takerIn;rw[show PySem.W.findIn K (.ref C) f=eL eM from n];rfl
structure Meth(K:Frag)(C:Í)(m:Str)(f:Í):Prop where
 at_:PySem.W.findIn K (.ref C) m=eL (eL<|.ref f)
 fn:PySem.W.isFn K (.ref f)=eN
 kp:PySem.W.keepIn K (.ref f)=eN
section
variable {X:Cx}{Â:List (Í×Obj)}{σ:St}{H:Hp}{s:Å}{a C dx:Í}{fs:List (Str×V)}{f:Str}{v:V}{A:Ċ}{E:Ã->Å->Prop}
variable {Q:Ã->Å->Prop}
def Jp{b:Bool}(I:Inv X Â σ H s)(e:H a=eL (.ins C dx fs))(c:Cls X.K C)(n:NoAttr X.K C f)(l:fs.lookup f=eL v)
  (h:∀u s',Inv X Â σ H s'->RelV v u->Q u s'):wpAny (à X.prog X.w) A (getAttr (.ref a) f b) Q E s:=by
 let⟨mA,O,r,_,_,_⟩:=WZ I.hok e;let⟨u,hu,ru⟩:=fx.some_of (v:=v) (o:=mA f) (by rw[<-l];exact r f);exact GX I.kIn O (c.get f) c.hd n hu (AR ru)<|h u _ (I.tok _) ru
def JR{m:Str}{g:Í}{pl:Sem Bool}{Q:Ã×List Ã->Å->Prop}(I:Inv X Â σ H s)(e:H a=eL (.ins C dx fs))(c:Cls X.K C)(k:Meth X.K C m g)(l:fs.lookup m=eM)
  (h:Q (.ref g,[.ref a]) s):wpAny (à X.prog X.w) A (Ϙ (.ref a) m pl) Q E s:=by
 let⟨mA,O,r,_,_,_⟩:=WZ I.hok e;have hn:mA m=eM:=fx.none_of (by rw[<-l];exact r m);exact D0 I.kIn O (c.get m) k.at_ k.fn hn h
def W9{y:V}{Q:Unit->Å->Prop}(I:Inv X Â σ H s)(e:H a=eL (.ins C dx fs))(c:Cls X.K C)(n:NoAttr X.K C f)(hl:fs.length<1000)(ry:RelV y u)
  (h:∀s',Inv X Â σ (upd H a<|.ins C dx<|fh f y fs) s'->Q () s'):wpAny (à X.prog X.w) A (setAttr (.ref a) f u) Q E s:=by
 let⟨mA,O,r,wi,_,ho⟩:=WZ I.hok e;have hz:(fs.map (·.1)).length<=ß:=by rw[Á,ϵ];lia
 refine E3 I.kIn O c.sa c.po n.taker c.hd wi hz λh' O' sb=>h _ ?_;have hd:∃o,h'.get? dx=eL o:=let ⟨o,_,_,e',_⟩:=O'.ns;⟨o,e'⟩;refine I.write (x:=a) (e:=dx) (by rw[e];exact True.intro) (.inr ho) (λb q hb z=>(sb.2 b hb).trans z) hd ?_;refine⟨by rw[eQ O.ne];exact ho,?_,O.ne,O'.obj,_,O'.ns,λg=>?_,λg hg=>?_⟩
 .have:=WC f y fs;lia
 .show fx ((fh f y fs).lookup g) (if g=f then eL u else mA g);rw[Wz];by_cases q:g=f
  .rw[gp q,gp q];exact ry
  .rw[gq q,gq q];exact r g
 .by_cases q:g=f
  .rw[q];exact(Wm f y fs).1
  .refine(Wm f y fs).2 g<|wi g λz=>hg ?_;show(if g=f then eL u else mA g)=eM;rw[gq q];exact z
def Inv.made(I:Inv X Â σ H s):Inv X Â σ (upd (upd H s.heap.objs.size<|.own<|s.heap.objs.size+1) (s.heap.objs.size+1)<|.ins C s.heap.objs.size [])
  {s with heap:=(s.heap.push PySem.W.emptyDict).push (PySem.W.instObj C s.heap.objs.size)}:=by
 have e1:(s.heap.push PySem.W.emptyDict).get? s.heap.objs.size=eL PySem.W.emptyDict:=Ô s.heap rfl;have e2:((s.heap.push PySem.W.emptyDict).push<|PySem.W.instObj C s.heap.objs.size).get? (s.heap.objs.size+1)=eL (PySem.W.instObj C s.heap.objs.size):=by
  have:=Ô (s.heap.push PySem.W.emptyDict) (o:=PySem.W.instObj C s.heap.objs.size) rfl
  rwa [Ŷ]at this
 have e3:(s.heap.push PySem.W.emptyDict).Ns s.heap.objs.size λ_=>eM:=⟨PySem.W.emptyDict,#[],_,e1,rfl,(λe he=>gA he<|by simp),λ_=>rfl⟩
 have I1:=I.laid (a:=s.heap.objs.size) (o:=.own<|s.heap.objs.size+1) (h':=s.heap.push PySem.W.emptyDict) (t':=s.toks) (λb u q=>Ä _ q) (Ì _) ⟨_,e1⟩;refine I1.laid (a:=s.heap.objs.size+1) (o:=.ins C s.heap.objs.size []) (t':=s.toks) (λb u q=>Ä _ q) (Nat.le_of_eq<|Ŷ _ _) ?_;have ne:s.heap.objs.size≠s.heap.objs.size+1:=æ<|Ě _;refine⟨by rw[eQ ne,eR],ĕ _,ne,e2,λ_=>eM,(Heap.Ns1.of_empty e3).at λo q=>Ä _ q,λ_=>True.intro,λy hy=>gA rfl hy⟩
def Fa{prog:ã}{w:Ā}{env:Env}{e:Expr}{ë:Pos}(hb:Ħ e f env (eval e env)=eval e env)
  (h:wpAny (à prog w) A (eval e env) (λo Ġ=>wpAny (à prog w) A (getAttr o f eN) Q E Ġ) E s):wpAny (à prog w) A (eval (.Attribute e f ë) env) Q E s :=
 Attribute_any_ h (by rw[arm_eval_Attribute,hb])
end
abbrev RZ(K:Frag)(ta:TE)(f:Str):TE:=λσ H Q=>ta σ H λx H1=>∃a C dx fs v,x=.ref a/\H1 a=eL (.ins C dx fs)/\Cls K C/\NoAttr K C f/\fs.lookup f=eL v/\Q v H1
abbrev SH(K:Frag)(ta tv:TE)(f:Str):TS:=λD σ H=>tv σ H λy H1=>ta σ H1 λx H2=>∃a C dx fs,x=.ref a/\H2 a=eL (.ins C dx fs)/\Cls K C/\NoAttr K C f/\fs.length<1000/\
 D.nx σ (upd H2 a<|.ins C dx<|fh f y fs)
abbrev Ch(X:Cx)(op:ϗ)(rd:V->V->Hp->VK->Prop):Prop :=
 ∀(Â:List<|Í×Obj) (s:Å) (σ:St) (H:Hp) (x y:V) (u v:Ã) (Q:VK),Inv X Â σ H s->RelV x u->RelV y v->rd x y H Q->wpAny (à X.prog X.w) X.A (inplaceOp op u v) (EP X Â σ Q) X.xe s
abbrev Ff(K:Frag)(ta tv:TE)(rd:V->V->Hp->VK->Prop)(f:Str):TS:=λD σ H=>ta σ H λx H1=>∃a C dx fs v,x=.ref a/\H1 a=eL (.ins C dx fs)/\Cls K C/\NoAttr K C f/\fs.lookup f=eL v/\
 tv σ H1 λy H2=>rd v y H2 λz H3=>∃dx' fs',H3 a=eL (.ins C dx' fs')/\fs'.length<1000/\D.nx σ (upd H3 a<|.ins C dx'<|fh f z fs')
section
variable {X:Cx}{o e ο:Expr}{f:Str}{ë ac cH:Pos}{ta tv:TE}
def Ls(he:PE X e ta)(hb:Ħ e f X.env (eval e X.env)=eval e X.env):PE X (.Attribute e f ë)<|RZ X.K ta f:=by intro Â s σ H Q I h;refine Fa hb<|thn (he Â s σ H _ I h) λu s1 ⟨x,H1,I1,rx,a,C,dx,fs,v,ex,ea,c,n,l,q⟩=>?_;subst ex;obtain rfl:u=Value.ref a:=rx;exact Jp I1 ea c n l λu' s2 I2 ru=>⟨v,H1,I2,ru,q⟩
def PH(ha:PE X o ta)(hv:PE X ο tv)(hs:ż ο (eL<|.Attribute o f ac) ë.line X.env=pure eP):PS X (.Assign [.Attribute o f ac] ο ë)<|SH X.K ta tv f:=by intro Â s σ H D I h;refine plainObj_wpAny_Assign_Attribute (thn (hv Â s σ H _ I h) λu s1 ⟨y,H1,I1,ry,q⟩=>thn (ha Â s1 σ H1 _ I1 q) λov s2 ⟨x,H2,I2,rx,a,C,dx,fs,ex,ea,c,n,l,q2⟩=>?_) hs;subst ex;obtain rfl:ov=Value.ref a:=rx;exact W9 I2 ea c n l ry λs3 I3=>⟨σ,_,I3,q2⟩
def Ao{op:ϗ}{rd:V->V->Hp->VK->Prop}(ha:PE X o ta)(hv:PE X ο tv)(hop:Ch X op rd):PS X (.AugAssign (.Attribute o f cH) op ο ë)<|Ff X.K ta tv rd f:=by intro Â s σ H D I h;refine wpAny_AugAssign_AttributeAny<|thn (ha Â s σ H _ I h) λov s1 ⟨x,H1,I1,rx,a,C,dx,fs,v,ex,ea,c,n,l,q⟩=>?_;subst ex;obtain rfl:ov=Value.ref a:=rx;refine Jp I1 ea c n l λu s2 I2 ru=>thn (hv Â s2 σ H1 _ I2 q) λw3 s3 ⟨y,H2,I3,ry,q3⟩=>thn (hop Â s3 σ H2 v y u w3 _ I3 ru ry q3) λw4 s4 ⟨z,H3,I4,rz,dx',fs',ea',l',q4⟩=>?_;exact W9 I4 ea' c n l' rz λs5 I5=>⟨σ,_,I5,q4⟩
abbrev RX:V->V->Hp->VK->Prop:=λx y H Q=>∃i j,x=.int i/\y=.int j/\Q (.int<|i+j) H
abbrev Se:V->V->Hp->VK->Prop:=λx y H Q=>∃i j,x=.int i/\y=.int j/\Q (.int<|i - j) H
def IS:Ch X .Add RX:=by
 rintro Â s σ H x y u v Q I rx ry ⟨i,j,rfl,rfl,q⟩;let⟨t,rfl⟩:=(show ∃t,u=Value.int i t from rx)
 let⟨t',rfl⟩:=(show ∃t',v=Value.int j t' from ry)
 exact PyProof.Rows.iadd_int ⟨.int<|i+j,H,I.tok _,⟨_,rfl⟩,q⟩
def Lx:Ch X .Sub Se:=by
 rintro Â s σ H x y u v Q I rx ry ⟨i,j,rfl,rfl,q⟩;let⟨t,rfl⟩:=(show ∃t,u=Value.int i t from rx)
 let⟨t',rfl⟩:=(show ∃t',v=Value.int j t' from ry)
 exact PyProof.Rows.isub_int ⟨.int<|i - j,H,I.tok _,⟨_,rfl⟩,q⟩
end
section
variable {X:Cx}{Â:List (Í×Obj)}{σ:St}{H:Hp}{s:Å}{A:Ċ}{E:Ã->Å->Prop}{Q:Ã->Å->Prop}{c:Ã}{b:Bool}
inductive fU (K:Frag) (H:Hp):V->Ã->Prop where
 |non:fU K H .non<|.type "NoneType"
 |bl (x:Bool):fU K H (.bl x)<|.type "bool"
 |int (i:Int):fU K H (.int i)<|.type "int"
 |str (x:Str):fU K H (.str x)<|.type "str"
 |flt (x:UInt64):fU K H (.flt x)<|.type "float"
 |lst {a:Í}{xs:List V}(e:H a=eL (.lst xs)):fU K H (.ref a)<|.type "list"
 |frz {a:Í}{o:Obj}{xs:List V}(e:H a=eL (.frz o<|.lst xs)):fU K H (.ref a)<|.type "list"
 |tup {a:Í}{xs:List V}(e:H a=eL (.tup xs)):fU K H (.ref a)<|.type "tuple"
 |dK {a:Í}{kvs:List (Key×V)}(e:H a=eL (.dK kvs)):fU K H (.ref a)<|.type "dict"
 |dT {a:Í}{kvs:List (List Key×V)}(e:H a=eL (.dT kvs)):fU K H (.ref a)<|.type "dict"
 |ins {a C dx:Í}{fs:List (Str×V)}(e:H a=eL (.ins C dx fs)) (cl:Cls K C) (ha:PySem.W.findIn K (.ref C) "__class__" = eL (eL<|.builtin "object.__class__"))
   (hn:PySem.W.specialIn K (.builtin "object.__class__") "__get__" = eL (eL<|.builtin "getset_descriptor.__get__")) (htk:PySem.W.takesIn K (.builtin "object.__class__")=eL eN)
   (hm:PySem.W.mroIn K C (.type "object")=eL eN):fU K H (.ref a)<|.ref C
def Bs{x:V}{t:Ã}(I:Inv X Â σ H s)(rx:RelV x u)(ty:fU X.K H x t)(e:PySem.W.kitOne X.K t c=eL b)(h:∀tk,Q (.bool b) {s with toks:=tk}) :
  wpAny (à X.prog X.w) A (call (.builtin "isinstance") [u,c]) Q E s:=by
 cases ty with
 |non=>cases (show u=Value.none from rx);exact PySem.W.kia_one PySem.W.kitx_none I.kIn True.intro e (λz=>nomatch z) h
 |bl y=>cases (show u=Value.bool y from rx);exact PySem.W.kia_one PySem.W.kitx_bool I.kIn True.intro e (λz=>nomatch z) h
 |int i=>let⟨t,q⟩:=(show ∃t,u=Value.int i t from rx);cases q;exact PySem.W.kia_one PySem.W.kitx_int I.kIn True.intro e (λz=>nomatch z) h
 |str y=>let⟨t,q⟩:=(show ∃t,u=Value.str y t from rx);cases q;exact PySem.W.kia_one PySem.W.kitx_str I.kIn True.intro e (λz=>nomatch z) h
 |flt y=>let⟨t,q⟩:=(show ∃t,u=Value.float y t from rx);cases q;exact PySem.W.kia_one PySem.W.kitx_float I.kIn True.intro e (λz=>nomatch z) h
 |@lst a xs ea =>
  cases (show u=Value.ref a from rx);let⟨_,_,n,_,h1⟩:=(show eZ X.prog X.w H s.heap a (.lst xs) from I.hok a _ ea)
  exact PySem.W.kia_one PySem.W.kitx_list I.kIn ⟨_,h1,rfl⟩ e (λz=>nomatch z) h
 |@frz a ob xs ea =>
  cases (show u=Value.ref a from rx);let⟨_,_,_,n,_,h1⟩:=(show eZ X.prog X.w H s.heap a (.frz ob<|.lst xs) from I.hok a _ ea)
  exact PySem.W.kia_one PySem.W.kitx_list I.kIn ⟨_,h1,rfl⟩ e (λz=>nomatch z) h
 |@tup a xs ea =>
  cases (show u=Value.ref a from rx);let⟨_,_,_,p⟩:=(show eZ X.prog X.w H s.heap a (.tup xs) from I.hok a _ ea)
  let⟨o,h1,h2,_⟩:=p;exact PySem.W.kia_one PySem.W.kitx_tuple I.kIn ⟨o,h1,h2⟩ e (λz=>nomatch z) h
 |@dK a kvs ea =>
  cases (show u=Value.ref a from rx);let⟨_,_,vs,_,p⟩:=(show eZ X.prog X.w H s.heap a (.dK kvs) from I.hok a _ ea)
  let⟨o,es,ep,h1,h2,_⟩:=p;exact PySem.W.kia_one PySem.W.kitx_dict I.kIn ⟨o,h1,h2.1⟩ e (λz=>nomatch z) h
 |@dT a kvs ea =>
  cases (show u=Value.ref a from rx);let⟨_,_,xs,_,o,es,ep,h1,h2,_⟩:=(show eZ X.prog X.w H s.heap a (.dT kvs) from I.hok a _ ea)
  exact PySem.W.kia_one PySem.W.kitx_dict I.kIn ⟨o,h1,h2.1⟩ e (λz=>nomatch z) h
 |@ins a C dx fs ea cl ha hn htk hm =>cases (show u=Value.ref a from rx);let⟨mA,O,_⟩:=WZ I.hok ea;let⟨od,J,_⟩:=O.look;exact PySem.W.kia_one (PySem.W.kitx_own (cl.get _) cl.hd ha hn htk hm) I.kIn J e (λz=>nomatch z) h
end
structure fy(k:Nat)(A:Ċ):Prop where
 hd:A.handled=eM
 dp:A.depth+3*k+5<recursionLimit
 un:A.units+16*k+200<Ī
variable {A:Ċ}
def fy.mono{j k:Nat}(r:fy k A)(h:j<=k):fy j A:=⟨r.hd,by have:=r.dp;lia,by have:=r.un;lia⟩
def fy.deeper{k:Nat}(r:fy (k+1) A)(env:Env):fy k (A.deeper env) :=
 ⟨r.hd,by have:=r.dp;show A.depth+1+3*k+5<_;lia,by have:=r.un;show A.units+3+16*k+200<_;lia⟩
variable {C:Í} {us:List Ã} {kw:List (Str×Ã)}
def OD:(A.under<|.builtin "type.__call__" ⟨.ref C::us,kw⟩).depth=A.depth+1:=by
 first|rfl|simp[bD,Code.weight,Code.isCreation,Code.isGuard,Code.isCaller,Code.frames,bW,guardIds]
def O3:(A.under<|.builtin "type.__call__" ⟨.ref C::us,kw⟩).units=A.units+1:=by
 first|rfl|simp[bD,Code.cUnits,Code.frames,bW]
def fy.make{k:Nat}(r:fy (k+1) A)(C:Í)(us:List Ã)(kw:List<|Str×Ã):fy k (A.under<|.builtin "type.__call__" ⟨.ref C::us,kw⟩) :=
 ⟨r.hd,by have:=r.dp;rw[OD];lia,by have:=r.un;rw[O3];lia⟩
def fy.depth{k:Nat}(r:fy k A):A.depth<recursionLimit:=by have:=r.dp;lia
abbrev GU:TA:=λ_ H Q=>Q [] H
abbrev Hl(ta:TE)(tr:TA):TA:=λσ H Q=>ta σ H λx H1=>tr σ H1 λxs H2=>Q (x::xs) H2
section
variable {X:Cx}{e:Expr}{es:List Expr}{te:TE}{t:TA}{ë:Pos}
def fW:PA X [] GU:=λ_ _ _ _ H Q I h=>Calls.spliced_nil ⟨[],H,I,.nil,h⟩
def ZQ(ha:PE X e te)(hr:PA X es t)(hs:Ü (e::es) X.env=(eP,eval e X.env)::Ü es X.env:=by rfl):PA X (e::es)<|Hl te t:=by intro ë Â s σ H Q I h;rw[hs];show wpAny _ _ (spliced<|(eP,eval e X.env)::ģ ë (Ü es X.env)) _ _ s;refine Calls.spliced_cons<|thn (ha Â s σ H _ I h) λu s1 ⟨x,H1,I1,r1,q1⟩=>?_;exact thn (hr ë Â s1 σ H1 _ I1 q1) λus s2 ⟨xs,H2,I2,r2,q2⟩=>⟨x::xs,H2,I2,.cons r1 r2,q2⟩
abbrev RU(t:TA):TE:=λσ H Q=>t σ H λxs H1=>xs.length<=ß/\∀p,H1 p=eM->Q (.ref p) (upd H1 p<|.tup xs)
abbrev So(t:TA):TE:=λσ H Q=>t σ H λxs H1=>xs.length<=ß/\∀p,H1 p=eM->Q (.ref p) (upd H1 p<|.lst xs)
def PK{x1}(h:PA X es t):PE X (.Tuple es x1 ë)<|RU t:=by intro Â s σ H Q I hq;refine wpAny_Tuple_spliced (thn (h ë Â s σ H _ I hq) λus s1 ⟨xs,H1,I1,r,z,q⟩=>⟨by rw[<-r.length];exact z,?_⟩);have hf:H1 s1.heap.objs.size=eM:=I1.hok.fresh<|Ì _;refine⟨.ref s1.heap.objs.size,upd H1 s1.heap.objs.size<|.tup xs,I1.laid (t':=s1.toks) (λb u e=>Ä _ e) (Ì _) ?_,rfl,q _ hf⟩;exact⟨z,us,r,⟨_,Ô _ rfl,rfl,_,rfl⟩⟩
def I0(h:PA X es t):PE X (.List es ë)<|So t:=by intro Â s σ H Q I hq;refine wpAny_List_spliced (thn (h ë Â s σ H _ I hq) λus s1 ⟨xs,H1,I1,r,z,q⟩=>⟨by rw[<-r.length];exact z,?_⟩);have hf:H1 s1.heap.objs.size=eM:=I1.hok.fresh<|Ì _;refine⟨.ref s1.heap.objs.size,upd H1 s1.heap.objs.size<|.lst xs,I1.laid (t':=s1.toks) (λb u e=>Ä _ e) (Ì _) ?_,rfl,q _ hf⟩;exact⟨z,us,0,r,Ô _ rfl⟩
end
noncomputable abbrev Sp:=List V->Hp->VK->XK->Prop
noncomputable abbrev CXT:=List Env->Hp->Å->XK->Ã->Å->Prop
structure Env0(P:ã)(w:Ā)(K:Frag)(mg:Str->Option Ã)(base:ĉ)(A:Ċ)(outer:List Env)(s:Å)(H:Hp):Prop where
 frames:A.frames=eL outer
 mod:Mod K mg base
 bs:∀b o,base.get? b=eL o->s.heap.get? b=eL o/\H b=eM
 bsz:base.objs.size<=s.heap.objs.size
 funs:s.heap.FunFrames base outer
 frf:∀b∈frs outer,H b=eM
 hok:HOk P w H s.heap
 bare:Ψ s.gens
abbrev CE(outer:List Env)(P:ã)(w:Ā)(H:Hp)(s:Å)(Q:VK)(u:Ã)(s':Å):Prop :=
 ∃v H',s'.os=s.os/\Ψ s'.gens/\Un (frs outer) [] H H' s.heap s'.heap/\HOk P w H' s'.heap/\RelV v u/\Q v H'
abbrev CR(CX:CXT)(outer:List Env)(P:ã)(w:Ā)(H:Hp)(s:Å)(Q:VK)(E:XK)(r:bp)(s':Å):Prop :=
 match r with
 |.ok (.ret u)=>CE outer P w H s Q u s'
 |.ok _=>False
 |.error e=>CX outer H s E e s'
structure fz(P:ã)(w:Ā)(K:Frag)(mg:Str->Option Ã)(base:ĉ)(CX:CXT)(k:Nat)(f:Í)(fd:Ŋ)(ps:List Str)(sp:Sp):Prop where
 len:∀vs H Q E,sp vs H Q E->vs.length=ps.length
 run:∀(A:Ċ) (outer:List Env) (s:Å) (H:Hp) (args:Args) (us:List Ã) (vs:List V) (Q:VK) (E:XK),fy k A->Env0 P w K mg base A outer s H->BindsTo s fd args (ps.zip us)->f8 vs us->sp vs H Q E->
  codeAny (à P w) A (.call (.ref f) args) (CR CX outer P w H s Q E) s
variable {P:ã} {w:Ā} {mg:Str->Option Ã} {base:ĉ} {outer:List Env} {s:Å} {H:Hp}
def Env0.make{K:Frag}(e:Env0 P w K mg base A outer s H)(C:Í)(us:List Ã)(kw:List<|Str×Ã) :
  Env0 P w K mg base (A.under<|.builtin "type.__call__" ⟨.ref C::us,kw⟩) outer s H:=⟨by first|exact e.frames|(simpa[bD,Code.envs,bW,pushEnvs]using e.frames),e.mod,e.bs,e.bsz,e.funs,e.frf,e.hok,e.bare⟩
section
variable {X:Cx}{Â:List (Í×Obj)}{σ:St}{H:Hp}{s s':Å}
def Inv.env0(I:Inv X Â σ H s):Env0 X.prog X.w X.K X.mg X.base X.A X.stack s H :=
 ⟨I.ok.frames,I.ok.mod,I.bs,Ý I.ok.bsz I.sz,I.stack,I.stkFree,I.hok,I.bare⟩
def Inv.after{Q:VK}{u:Ã}(I:Inv X Â σ H s)(h:CE X.stack X.prog X.w H s Q u s'):EP X Â σ Q u s':=by let⟨v,H',os,bare,un,hok,r,q⟩:=h;let⟨hh,g,d,t,os'⟩:=s';obtain rfl:os'=s.os:=os;exact⟨v,H',I.call (h':=hh) (g':=g) (d':=d) (t':=t) (ch:=[]) un hok bare λb z=>gA z<|by simp,r,q⟩
end
abbrev HA(sp:Sp)(aG:List V)(E:XK)(t:TA):TE:=λσ H Q=>t σ H λvs H1=>sp (vs++aG) H1 Q E
abbrev Hg(C:Í)(m:Str)(sp:Sp)(aG:List V)(E:XK)(ta:TE)(t:TA):TE:=λσ H Q=>ta σ H λx H1=>∃a dx fs,x=.ref a/\H1 a=eL (.ins C dx fs)/\fs.lookup m=eM/\
 t σ H1 λvs H2=>sp (x::(vs++aG)) H2 Q E
abbrev Qy(C:Í)(sp:Sp)(aG:List V)(E:XK)(t:TA):TE:=λσ H Q=>t σ H λvs H1=>∀x dx,H1 x=eM->H1 dx=eM->dx≠x->
 sp (.ref x::(vs++aG)) (upd (upd H1 dx<|.own x) x<|.ins C dx []) (λv H2=>v=.non/\Q (.ref x) H2) E
abbrev Binds(K:Frag)(fd:Ŋ)(ps:List Str)(ds:List Ã):Prop :=
 ∀(s:Å) (us:List Ã),K.In s.heap->(us++ds).length=ps.length->BindsTo s fd ⟨us,[]⟩ (ps.zip<|us++ds)
variable {ps:List Str}
def Binds.all{K:Frag}{fd:Ŋ}(h:∀us:List Ã,us.length=ps.length->bindArgs fd ⟨us,[]⟩=pure (ps.zip us)):Binds K fd ps []:=λs us _ hl=>by rw[ö]at hl ⊢;exact .of_eq (h us hl)
abbrev Xl(CX:CXT)(X:Cx)(E:XK):Prop:=∀(Â:List<|Í×Obj) (σ:St) (H:Hp) (s:Å) (e:Ã) (s':Å),Inv X Â σ H s->CX X.stack H s E e s'->X.xe e s'
section
variable {X:Cx}{CX:CXT}{k:Nat}{f C:Í}{fd:Ŋ}{ps:List Str}{sp:Sp}{aG:List V}{ds:List Ã}{E:XK}{x m:Str}{p ë Ő:Pos}{e o:Expr}{es:List Expr}{ta:TE}{t:TA}
variable {Â:List (Í×Obj)} {σ:St} {Q:VK} {vs:List V}
def MX(F:fz X.prog X.w X.K X.mg X.base CX k f fd ps sp)(hr:fy k X.A)(hb:Binds X.K fd ps ds)(hd:f8 aG ds)(hx:Xl CX X E)
  (I:Inv X Â σ H s) (r:f8 vs us) (h:sp (vs++aG) H Q E):wpAny (à X.prog X.w) X.A (call (.ref f) us) (EP X Â σ Q) X.xe s:=by
 have r2:f8 (vs++aG)<|us++ds:=r.append hd;have hl:(us++ds).length=ps.length:=by rw[<-r2.length];exact F.len _ _ _ _ h
 refine wpAny_call<|ζ (F.run X.A X.stack s H ⟨us,[]⟩ (us++ds) (vs++aG) Q E hr I.env0 (hb s us I.kIn hl) r2 h) λr s' hq=>?_;cases r with
 |error e=>exact hx Â σ H s e s' I hq
 |ok fl =>
  cases fl with
  |ret u=>exact I.after hq
  |next=>exact ņ hq
  |brk=>exact ņ hq
  |cont=>exact ņ hq
def Fb(F:fz X.prog X.w X.K X.mg X.base CX k f fd ps sp)(hr:fy k X.A)(hg:Gl X x)(hm:X.mg x=eL (.ref f))(hk:PySem.W.keepIn X.K (.ref f)=eN)(hb:Binds X.K fd ps ds)(hd:f8 aG ds)(hx:Xl CX X E)
  (ha:PA X (e::es) t) (cI:(x==("__debug__" : Str))=eP:=by decide) (he:Ü (e::es) X.env=(eP,eval e X.env)::Ü es X.env:=by rfl) (hpl:(ģ ë<|Ü es X.env).any (·.1)=eP:=by rfl) :
  PE X (.Call (.Name x p) (e::es) [] ë) (HA sp aG E t):=by
 intro Â s σ H Q I h;refine İ<|W0 I hg hm ?_ cI;refine PySem.W.callWith_K (h₀:=X.base) I.ok.mod.kin hk (thn (ha ë Â s σ H _ I h) λus s1 ⟨vs,H1,I1,r,q⟩=>⟨I1.kIn,?_⟩) he hpl;exact MX F hr hb hd hx I1 r q
def B1(F:fz X.prog X.w X.K X.mg X.base CX k f fd ps sp)(hr:fy k X.A)(hg:Gl X x)(hm:X.mg x=eL (.ref f))(hk:PySem.W.keepIn X.K (.ref f)=eN)(hb:Binds X.K fd ps ds)(hd:f8 aG ds)(hx:Xl CX X E)
  (cI:(x==("__debug__" : Str))=eP:=by decide):PE X (.Call (.Name x p) [] [] ë)<|HA sp aG E GU:=by
 intro Â s σ H Q I h;refine İ<|W0 I hg hm ?_ cI;exact PySem.W.callWith_K0 I.kIn hk<|MX (us:=[]) F hr hb hd hx I .nil h
variable {pl:Sem Bool}
def GJ(he:PE X o ta)(c:Cls X.K C)(hm:Meth X.K C m f)(F:fz X.prog X.w X.K X.mg X.base CX k f fd ps sp)(hr:fy k X.A)(hb:Binds X.K fd ps ds)(hd:f8 aG ds)(hx:Xl CX X E)(ha:PA X (e::es) t)
  (Ž:Ü (e::es) X.env=(eP,eval e X.env)::Ü es X.env:=by rfl) (hpl:(ģ ë<|Ü es X.env).any (·.1)=eP:=by rfl)
  (ht:eval (.Call (.Attribute o m Ő) (e::es) [] ë) X.env=(do
    let ov<-eval o X.env
    ϊ Ő.atName
    let (f,first)<-ő [ov] (Ϙ ov m pl)
    cp ë f first (ģ ë<|Ü (e::es) X.env) (η ë<|ŋ [] X.env)):=by rfl) :
  PE X (.Call (.Attribute o m Ő) (e::es) [] ë) (Hg C m sp aG E ta t):=by
 intro Â s σ H Q I h;refine PySem.W.methodCall_KW (pl:=pl) (thn (he Â s σ H _ I h) λu s1 ⟨x,H1,I1,rx,a,dx,fs,ex,ea,l,q⟩=>?_) ht;subst ex;obtain rfl:u=Value.ref a:=rx;refine JR I1 ea c hm l ?_;refine PySem.W.callWith_K (first:=[.ref a]) (h₀:=X.base) I.ok.mod.kin hm.kp (thn (ha ë Â s1 σ H1 _ I1 q) λus s2 ⟨vs,H2,I2,r,q2⟩=>⟨I2.kIn,?_⟩) Ž hpl;exact MX (us:=.ref a::us) (vs:=.ref a::vs) F hr hb hd hx I2 (.cons rfl r) q2
def Ed(he:PE X o ta)(c:Cls X.K C)(hm:Meth X.K C m f)(F:fz X.prog X.w X.K X.mg X.base CX k f fd ps sp)(hr:fy k X.A)(hb:Binds X.K fd ps ds)(hd:f8 aG ds)(hx:Xl CX X E)
  (ht:eval (.Call (.Attribute o m Ő) [] [] ë) X.env=(do
    let ov<-eval o X.env
    ϊ Ő.atName
    let (f,first)<-ő [ov] (Ϙ ov m pl)
    cp ë f first (ģ ë<|Ü [] X.env) (η ë<|ŋ [] X.env)):=by rfl) :
  PE X (.Call (.Attribute o m Ő) [] [] ë) (Hg C m sp aG E ta GU):=by
 intro Â s σ H Q I h;refine PySem.W.methodCall_KW (pl:=pl) (thn (he Â s σ H _ I h) λu s1 ⟨x,H1,I1,rx,a,dx,fs,ex,ea,l,q⟩=>?_) ht;subst ex;obtain rfl:u=Value.ref a:=rx;refine JR I1 ea c hm l ?_;exact PySem.W.callWith_K0 (first:=[.ref a]) I1.kIn hm.kp<|MX (us:=[.ref a]) (vs:=[.ref a]) F hr hb hd hx I1 (.cons rfl .nil) q
structure Mk(K:Frag)(C f:Í):Prop where
 makes:PySem.W.makesIn K C=eN
 init:PySem.W.findIn K (.ref C) "__init__" = eL (eL<|.ref f)
 fn:PySem.W.isFn K (.ref f)=eN
 kp:PySem.W.keepIn K (.ref C)=eN
def CS(M:Mk X.K C f)(F:fz X.prog X.w X.K X.mg X.base CX k f fd ps sp)(hr:fy (k+1) X.A)(hb:Binds X.K fd ps ds)(hd:f8 aG ds)
  (hx:Xl CX X E) (I:Inv X Â σ H s) (r:f8 vs us)
  (h:∀x dx,H x=eM->H dx=eM->dx≠x->sp (.ref x::(vs++aG)) (upd (upd H dx<|.own x) x<|.ins C dx []) (λv H2=>v=.non/\Q (.ref x) H2) E) :
  wpAny (à X.prog X.w) X.A (call (.ref C) us) (EP X Â σ Q) X.xe s:=by
 have hq:=h (s.heap.objs.size+1) s.heap.objs.size (I.hok.fresh<|Ň _) (I.hok.fresh<|Ì _)<|æ<|Ě _;have I2:=Inv.made (C:=C) I;have r2:f8 (V.ref (s.heap.objs.size+1)::(vs++aG))<|Value.ref (s.heap.objs.size+1)::(us++ds):=.cons rfl<|r.append hd;have hl:(Value.ref (s.heap.objs.size+1)::us++ds).length=ps.length:=by have e:=r2.length;rw[F.len _ _ _ _ hq]at e;exact e.symm
 refine wpAny_call (CH (f:=f) I.kIn M.makes M.init (beq_iff_eq.mp M.fn) (ζ (F.run _ X.stack _ _ ⟨Value.ref (s.heap.objs.size+1)::us,[]⟩ (Value.ref (s.heap.objs.size+1)::(us++ds)) _ _ E (hr.make C us [])
   (I2.env0.make C us []) (hb _ (Value.ref (s.heap.objs.size+1)::us) I2.kIn hl) r2 hq) λr s' hq'=>?_))
 cases r with
 |error e=>exact hx Â σ _ _ e s' I2 hq'
 |ok fl =>
  cases fl with
  |ret u =>let⟨v,H',I3,rv,ev,q3⟩:=I2.after hq';subst ev;exact⟨rv,⟨V.ref<|s.heap.objs.size+1,H',I3,rfl,q3⟩⟩
  |next=>exact ņ hq'
  |brk=>exact ņ hq'
  |cont=>exact ņ hq'
def Fx(M:Mk X.K C f)(F:fz X.prog X.w X.K X.mg X.base CX k f fd ps sp)(hr:fy (k+1) X.A)(hg:Gl X x)(hm:X.mg x=eL (.ref C))(hb:Binds X.K fd ps ds)(hd:f8 aG ds)(hx:Xl CX X E)
  (ha:PA X (e::es) t) (cI:(x==("__debug__" : Str))=eP:=by decide) (he:Ü (e::es) X.env=(eP,eval e X.env)::Ü es X.env:=by rfl) (hpl:(ģ ë<|Ü es X.env).any (·.1)=eP:=by rfl) :
  PE X (.Call (.Name x p) (e::es) [] ë) (Qy C sp aG E t):=by
 intro Â s σ H Q I h;refine İ<|W0 I hg hm ?_ cI;refine PySem.W.callWith_K (h₀:=X.base) I.ok.mod.kin M.kp (thn (ha ë Â s σ H _ I h) λus s1 ⟨vs,H1,I1,r,q⟩=>⟨I1.kIn,?_⟩) he hpl;exact CS M F hr hb hd hx I1 r q
end
structure FnScope(N P:List Str)(sc:ν):Prop where
 kind:sc.kind=.function
 co:sc.isCoroutine=eP
 gen:sc.isGenerator=eP
 nd:N.Nodup
 pre:N.take P.length=P
 par:∀x∈P,sc.names.lookup x=eL .local\/sc.names.lookup x=eL .cell
 nofree:∀y∈sc.names,y.2≠.free
def Kx{ψ:Str->Option ϙ}{x:Str}:∀{binds:List (Str×Ã)}{m:Str->Option Ã},(∀v,(x,v)∉binds)->bindL ψ binds m x=m x
 |[],_,_=>rfl
 |(n,v)::r,m,h=>by
  unfold bindL;rw[Kx λw hw=>h w<|á _ hw];split
  .have:x≠n:=by rintro rfl;exact h v ô
   simp[this]
  .rfl
def KU{ψ:Str->Option ϙ}{x:Str}:∀{binds:List (Str×Ã)}{m:Str->Option Ã},(∀v,(x,v)∉binds)->dB ψ binds m x=m x
 |[],_,_=>rfl
 |(n,v)::r,m,h=>by
  unfold dB;rw[KU λw hw=>h w<|á _ hw];split
  .rfl
  .have:x≠n:=by rintro rfl;exact h v ô
   simp[this]
def KC{ψ:Str->Option ϙ}{x:Str}{v:Ã}:∀{P:List Str}{vs:List Ã}{i:Nat}{m:Str->Option Ã},P.Nodup->P[i]?=eL x->vs[i]?=eL v->ψ x=eL .local->
  bindL ψ (P.zip vs) m x=eL v
 |[],_,_,_,_,h,_,_=>by simp at h
 |_::_,[],_,_,_,_,h,_=>by simp at h
 |p::P,w::vs,0,m,nd,h1,h2,hk=>by simp at h1 h2;subst h1;subst h2;show bindL ψ ((p,w)::P.zip vs) m p=_;unfold bindL;rw[Kx λv hv=>(þ.mp nd).1 (aL hv).1,gp hk];simp
 |p::P,w::vs,i+1,m,nd,h1,h2,hk=>by show bindL ψ ((p,w)::P.zip vs) m x=_;unfold bindL;exact KC (i:=i) (þ.mp nd).2 ⇑h1 ⇑h2 hk
def KZ{ψ:Str->Option ϙ}{x:Str}{v:Ã}:∀{P:List Str}{vs:List Ã}{i:Nat}{m:Str->Option Ã},P.Nodup->P[i]?=eL x->vs[i]?=eL v->ψ x≠eL .local->
  dB ψ (P.zip vs) m x=eL v
 |[],_,_,_,_,h,_,_=>by simp at h
 |_::_,[],_,_,_,_,h,_=>by simp at h
 |p::P,w::vs,0,m,nd,h1,h2,hk=>by simp at h1 h2;subst h1;subst h2;show dB ψ ((p,w)::P.zip vs) m p=_;unfold dB;rw[KU λv hv=>(þ.mp nd).1 (aL hv).1,gq hk];simp
 |p::P,w::vs,i+1,m,nd,h1,h2,hk=>by show dB ψ ((p,w)::P.zip vs) m x=_;unfold dB;exact KZ (i:=i) (þ.mp nd).2 ⇑h1 ⇑h2 hk
abbrev start(N:List Str)(vs:List V):St:=vs.map eL++Þ (N.length - vs.length) eM
abbrev Mh(CX:CXT)(P:ã)(w:Ā)(K:Frag)(mg:Str->Option Ã)(base:ĉ)(N:List Str)(qual:Str)(scope:ν)(f:Í)(cd:Ã)(A:Ċ)(outer:List Env)(s:Å)(H:Hp)(E:XK):Cx where
 prog:=P
 w:=w
 K:=K
 mg:=mg
 base:=base
 A:=A.deeper<|ay qual scope s.heap.objs.size f cd
 N:=N
 s₀:=s
 H₀:=H
 env:=ay qual scope s.heap.objs.size f cd
 outer:=outer
 stack:=ay qual scope s.heap.objs.size f cd::outer
 ex:=[]
 calm:=eN
 fn:=λ_=>eN
 pn:=[]
 xe:=λe s'=>wpAny (à P w) (A.deeper<|ay qual scope s.heap.objs.size f cd) (leaving (ay qual scope s.heap.objs.size f cd) e) (λ_ s''=>CX outer H s E e s'') (λe' s''=>CX outer H s E e' s'') s'
def NC{sc:ν}{n:Nat}{x:Str}(h:sc.names.lookup x=eL .cell):∃c,(cellsFrom n sc.names []).lookup x=eL c:=by have q:=PySem.W.cellsFrom_some sc.names n []<|.inl h;exact ç.mp q
variable {CX:CXT} {N:List Str} {qual:Str} {scope:ν} {f:Í}
def BB{K:Frag}{cd:Ã}{s1:Å}{E:XK}{vs:List V}
  (S:FnScope N ps scope) (hd:A.handled=eM) (e0:Env0 P w K mg base A outer s H) (hl:vs.length=ps.length) (r:f8 vs us)
  (x:InCallC s s.heap.objs.size (bindL (ay qual scope s.heap.objs.size f cd).kindOf (ps.zip us) λ_=>eM) (cellsFrom (s.heap.objs.size+1) scope.names []) (dB (ay qual scope s.heap.objs.size f cd).kindOf (ps.zip us) λ_=>eM) s1) :
  Inv (Mh CX P w K mg base N qual scope f cd A outer s H E) [] (start N vs) H s1:=by
 have hpl:ps.length<=N.length:=by have:=congrArg List.length S.pre;rw[Ē]at this;lia
 let⟨h1,tk,rfl,hk⟩:=x.done;have noA:∀b:Í,b∉(Mh CX P w K mg base N qual scope f cd A outer s H E).ex:=λb z=>gA (show b∈([]:List Í) from z) (by simp);refine⟨⟨e0.mod,S.kind,rfl,rfl,Ì _,λy z c h1 h2=>?_,λy hy=>?_,λy c _ h=>?_,λ_=>hd,Around.frames_deeper e0.frames,.inr ⟨rfl,rfl⟩,λb z=>gA z<|noA b,e0.bs,e0.bsz,λb _ _=>noA b,λb z=>gA z<|noA b,e0.funs,e0.frf⟩,
   rfl,e0.bare,Un.kept hk,⟨_,x.toInCall.ns,λi y v h1 h2 h3=>?_⟩,λy c h=>⟨_,x.cell y c h⟩,e0.hok.fresh<|Ì _,λy c h=>?_,λp hp=>gA (show p∈([]:List<|Í×Obj) from hp) (by simp),e0.hok.kept hk,?_⟩
 .exact name_of_addr x.apart (PySem.mem_of_lookup h1)<|PySem.mem_of_lookup h2
 .have hy:scope.names.lookup y=eL .cell\/scope.names.lookup y=eL .free:=hy;rcases hy with hy|hy
  .exact NC hy
  .exact gA rfl<|S.nofree _<|PySem.mem_of_lookup hy
 .exact π<|x.above y c<|PySem.mem_of_lookup h
 .have hi:i<vs.length:=by
   unfold start at h2;by_cases hi:i<vs.length
   .exact hi
   .rw[ď<|by simpa using hi]at h2;rw[ō]at h2;split at h2<;>cases h2
  have ha:vs[i]?=eL v:=by
   unfold start at h2;rw[ó ⇑hi,Ø]at h2;cases e:vs[i]? with
   |none=>rw[e]at h2;cases h2
   |some a=>rw[e]at h2;cases h2;rfl
  let⟨u,hu,rv⟩:=r.get ha;have hp:ps[i]?=eL y:=by rw[<-S.pre,List.getElem?_take_of_lt<|by lia];exact h1
  have ndP:ps.Nodup:=by rw[<-S.pre];exact S.nd.sublist<|List.take_sublist _ _
  refine⟨u,rv,?_⟩;rcases S.par y (é hp)with k|k
  .exact .inl ⟨k,KC ndP hp hu k⟩
  .obtain⟨c,e⟩:=NC (n:=s.heap.objs.size+1) k;refine .inr ⟨.inl k,c,e,?_⟩;have q:=x.cell y c e;rw[KZ ndP hp hu<|by show scope.names.lookup y≠_;rw[k];decide]at q;exact q
 .exact e0.hok.fresh<|π<|x.above y c<|PySem.mem_of_lookup h
 .unfold start;show _=N.length;rw[í,Á,ù];lia
def Rx{K:Frag}{k:Nat}{name:Str}{params:Arguments}{body:List ľ}{dV kV doc pm ϧ ct oc:Ã}{an od:Option Í}
  {osl:Array (Option Ã)}  {sp:Sp}(lk:K.lookup f=eL ⟨oc,od,.func<|PySem.W.fnOf name qual params body scope dV kV doc pm an ϧ ct,osl⟩) (bf:PySem.W.codeIn K ϧ qual=eN) (S:FnScope N ps scope)
  (len:∀vs H Q E,sp vs H Q E->vs.length=ps.length)
  (hbody:∀(A:Ċ) (outer:List Env) (s:Å) (H:Hp) (vs:List V) (Q:VK) (E:XK),fy k (A.deeper<|ay qual scope s.heap.objs.size f ϧ)->sp vs H Q E->
    ∃t,PSs (Mh CX P w K mg base N qual scope f ϧ A outer s H E) body t/\t { nx:=λ_ H'=>Q .non H',rt:=Q } (start N vs) H) :
  fz P w K mg base CX (k+1) f (PySem.W.fnOf name qual params body scope dV kV doc pm an ϧ ct) ps sp:=by
 refine⟨len,λA outer s H args us vs Q E hr e0 hb r hsp=>?_⟩;have hl:=len _ _ _ _ hsp;have KX:K.In s.heap:=e0.mod.kin.keeps λb o e=>(e0.bs b o e).1;have lim:s.heap.NoLimit:=e0.mod.nolimit.keeps λb o e=>(e0.bs b o e).1;have hkind:∀y∈ps.zip us,scope.names.lookup y.1=eL .local\/(scope.names.lookup y.1=eL .cell/\((cellsFrom (s.heap.objs.size+1) scope.names []).lookup y.1).isSome=eN):=λ⟨n,v⟩ hy=>by
  rcases S.par n (aL hy).1 with q|q
  .exact .inl q
  .exact .inr ⟨q,PySem.W.cellsFrom_some _ _ _<|.inl q⟩
 refine codeAny_call_function hr.depth (KX _ _ lk) rfl S.co S.gen rfl (PySem.W.codeRec_of KX bf)<|hb _ _ _ _ ?_;refine wpAny_newFunctionEnv_cells S.kind hkind λenv he s1 x=>?_;subst he;refine⟨lim.keeps x.toInCall.keep,codeAny_func ?_⟩;let⟨t,ht,hq⟩:=hbody A outer s H vs Q E (hr.deeper _) hsp;have I:Inv (Mh CX P w K mg base N qual scope f ϧ A outer s H E) [] (start N vs) H s1:=BB S hr.hd e0 hl r x;refine į (ht [] s1 (start N vs) H _ I hq) (λfl s' hs=>?_) λe s' hs=>hs;have fin:∀{ř:St}{H':Hp}{v:V}{u:Ã},Inv (Mh CX P w K mg base N qual scope f ϧ A outer s H E) [] ř H' s'->RelV v u->Q v H'->CE outer P w H s Q u s' :=
  λ{ř H' v u} J rv q=>⟨v,H',J.os,J.bare,J.base,J.hok,rv,q⟩
 cases fl with
 |ret u =>let⟨v,ř,H',J,rv,q⟩:=hs;exact fin J rv q
 |next =>let⟨ř,H',J,q⟩:=hs;exact fin (v:=V.non) (u:=Value.none) J rfl q
 |brk =>let⟨_,_,_,q⟩:=hs;exact ņ q
 |cont =>let⟨_,_,_,q⟩:=hs;exact ņ q
section
variable {X:Cx}{x:Str}{p ë:Pos}{e:Expr}{es:List Expr}{t:TA}{id T:String}{r:List V->Hp->VK->Prop}
abbrev tCB(r:List V->Hp->VK->Prop)(t:TA):TE:=λσ H Q=>t σ H λvs H1=>r vs H1 Q
def Z9(hc:eY X (.builtin id) r)(hg:Gl X x)(hm:X.mg x=eM)(hv:ũ x=eL (.builtin id))(ha:PA X (e::es) t)(hn:x≠"__name__":=by decide)(cI:(x==("__debug__" : Str))=eP:=by decide)
  (he:Ü (e::es) X.env=(eP,eval e X.env)::Ü es X.env:=by rfl) (hpl:(ģ ë<|Ü es X.env).any (·.1)=eP:=by rfl):PE X (.Call (.Name x p) (e::es) [] ë)<|tCB r t:=by
 intro Â s σ H Q I h;refine İ<|YI I hg hm hv ?_ hn cI;exact PyProof.Rows.callWith_builtin1 (thn (ha ë Â s σ H _ I h) λus s1 ⟨vs,H1,I1,r1,q1⟩=>hc Â s1 σ H1 vs us Q I1 r1 q1) he hpl
def Xo(hc:eY X (.type T) r)(hg:Gl X x)(hm:X.mg x=eM)(hv:ũ x=eL (.type T))(ha:PA X (e::es) t)(hn:x≠"__name__":=by decide)(cI:(x==("__debug__" : Str))=eP:=by decide)
  (he:Ü (e::es) X.env=(eP,eval e X.env)::Ü es X.env:=by rfl) (hpl:(ģ ë<|Ü es X.env).any (·.1)=eP:=by rfl):PE X (.Call (.Name x p) (e::es) [] ë)<|tCB r t:=by
 intro Â s σ H Q I h;refine İ<|YI I hg hm hv ?_ hn cI;exact PyProof.Rows.callWith_type1 (thn (ha ë Â s σ H _ I h) λus s1 ⟨vs,H1,I1,r1,q1⟩=>hc Â s1 σ H1 vs us Q I1 r1 q1) he hpl
end
end L2
namespace HT
open PySem PyProof.Rows
abbrev lexLt:List Int->List Int->Bool
 |[],[]=>eP
 |[],_::_=>eN
 |_::_,[]=>eP
 |x::xs,y::ys=>if x=y then lexLt xs ys else gB (x<y)
def lexLt_cons(x y:Int)(xs ys:List Int):lexLt (x::xs) (y::ys)=if x=y then lexLt xs ys else gB (x<y):=rfl
def Kd:lexLt [] []=eP:=rfl
def Jr(y:Int)(ys:List Int):lexLt [] (y::ys)=eN:=rfl
def Jj(x:Int)(xs:List Int):lexLt (x::xs) []=eP:=rfl
def eqAt_int(A:Ċ)(s:Å)(a:Int)(t:Tok)(c:Int)(u:Tok):∃e,SeqAt.EqAt A s (.int a t) (.int c u) e/\(e=eN↔a=c) :=
 ⟨(a==c),SeqAt.EqAt.int_int a t c u,by simp⟩
def Dw(A:Ċ)(s:Å)(a:Int)(t:Tok)(c:Int)(u:Tok)(prog:ã)(w:Ā)(E:Ã->Å->Prop)(Q:Ã->Å->Prop)(h:Q (.bool<|gB (a<c)) s) :
  wpAny (à prog w) A (richCompare .Lt (.int a t)<|.int c u) Q E s :=
 (PyProof.Rows.lt_int h:wpAny (à prog w) A (î .Lt (.int a t)<|.int c u) Q E s)
section
open PySem.SeqAt
open PySem.AutoSeq1 (wpAny_loadPart')
open PySem.MeetsSeq PySem.MeetsSeq2 PySem.MeetsSeq3
def Kr(l b:Í)(items ł:Array Ã)(n n2:Nat)(dd cV:Option Í)(sl dU:Array<|Option Ã)(ns ms:List Int)(hi:ă items.toList ns)(hj:ă ł.toList ms) :
  Meets (Builtin.«tuple.__lt__» ⟨[.ref l,.ref b],[]⟩)
   (λ_ R s=>s.heap.get? l=eL { cls:=.type "tuple",dict:=dd,data:=.seq items n,slots:=sl }/\s.heap.get? b=eL { cls:=.type "tuple",dict:=cV,data:=.seq ł n2,slots:=dU }/\
     R (.ok<|.ret<|.bool<|lexLt ns ms) s) :=
 .of_wp λprog w A R s h=>by
  let⟨hp,g,d,tk,os⟩:=s;let⟨hl,hb,h⟩:=h;have f2:=AutoSeq1.sub_tuple_tuple;have z1:items.size=ns.length:=by rw[<-hi.length];simp
  have z2:ł.size=ms.length:=by rw[<-hj.length];simp
  wp_walk using ě hl,ě hb,wpAny_forIn_list _ (λrest b s'=>b.1=eM/\s'=⟨hp,g,d,tk,os⟩/\∃(vs ws:List Ã) (ce du:List Int),rest=vs.zip ws/\
    ă vs ce/\ă ws du/\ce.length+ł.size=du.length+items.size/\R (.ok<|.ret<|.bool<|lexLt ce du) ⟨hp,g,d,tk,os⟩) _
  case turn =>
   rintro⟨y,x⟩ rest b s' ⟨bB,rfl,vs,ws,ce,du,hz,hvi,hwi,hlen,hR⟩;cases hvi with
   |nil=>rw[Ι]at hz;cases hz
   |cons a t hvi' =>
    cases hwi with
    |nil=>rw[ρ]at hz;cases hz
    |cons c u hwi' =>
     rw[Œ]at hz;injection hz with hyx hrest;injection hyx with hy hx;subst hy hx;rw[lexLt_cons]at hR;simp only[Ï]at hlen;let⟨e,he,hiff⟩:=eqAt_int A.in1 ⟨hp,g,d,tk,os⟩ a t c u;refine À<|he prog w _ _ ?_;cases e with
     |true =>
      rw[gp<|hiff.mp rfl]at hR
      wp_walk
      exact⟨rfl,rfl,_,_,_,_,hrest,hvi',hwi',by lia,hR⟩
     |false =>
      rw[gq λq=>gA (hiff.mpr q) ú]at hR;have hri:=Dw A.in1 ⟨hp,g,d,tk,os⟩ a t c u prog w
      wp_walk using hri
      exact⟨_,rfl,⇑hR⟩
  case fin =>
   rintro⟨b1,b2⟩ s' ⟨bB,rfl,vs,ws,ce,du,hz,hvi,hwi,hlen,hR⟩;simp only at bB;subst bB;have hv:lexLt ce du=gB (items.size<ł.size):=by
    cases hvi with
    |nil =>
     cases hwi with
     |nil =>simp only[Ĳ]at hlen;rw[Kd];exact(gu<|by lia).symm
     |cons c u hw =>simp only[Ĳ,Ï]at hlen;rw[Jr];exact(gx<|by lia).symm
    |cons a t hv =>
     cases hwi with
     |nil =>simp only[Ĳ,Ï]at hlen;rw[Jj];exact(gu<|by lia).symm
     |cons c u hw =>rw[Œ]at hz;cases hz
   rw[hv]at hR
   wp_walk
   exact⟨_,rfl,by simpa[Builtin.Tuple.tupleCompareSizes]using hR⟩
  case h =>exact⟨rfl,rfl,items.toList,ł.toList,ns,ms,rfl,hi,hj,by lia,h⟩
end
section
variable {prog:ã}{w:Ā}{A:Ċ}{E:Ã->Å->Prop}{s:Å}
variable {b:Í} {items:Array Ã} {Q:Ã->Å->Prop}
def lt_tupInts{l:Í}{ł:Array Ã}{ns ms:List Int}(hl:aN s.heap l items)(hb:aN s.heap b ł)(hi:ă items.toList ns)(hj:ă ł.toList ms)
  (hu:A.units<Ī) (h:Q (.bool<|lexLt ns ms) s):wpAny (à prog w) A (î .Lt (.ref l)<|.ref b) Q E s:=by
 let⟨⟨cls,dd,data,sl⟩,ho,hc,n,hd⟩:=id hl;let⟨⟨cls2,cV,data2,dU⟩,ho2,hc2,n2,bM⟩:=id hb;simp only at hc hd hc2 bM;subst hc hd hc2 bM;exact d6 (op:=.Lt) ⟨_,ho,rfl⟩ ⟨_,ho2,rfl⟩ PySem.F.slot_tuple_lt PySem.F.entry_tuple_lt (PySem.F.args_tuple_lt_2 _ _) (Kr l b items ł n n2 dd cV sl dU ns ms hi hj)
  ⟨ho,ho2,show Value.bool (lexLt ns ms)≠cq/\Q (.bool<|lexLt ns ms) s from ⟨(λx=>nomatch x),h⟩⟩ hu
def cat_tup{t:Í}{vs ws:List Ã}(ht:aN s.heap t vs.toArray)(hb:aN s.heap b ws.toArray)(hv:vs≠[])
  (h1:ws=[]->Q (.ref t) s) (h2:ws≠[]->Q (.ref s.heap.objs.size) {s with heap:=s.heap.push {cls:=.type "tuple",data:=.seq (vs++ws).toArray}})
  (hsz:vs.length+ws.length<=ß):wpAny (à prog w) A (ŉ .Add (.ref t)<|.ref b) Q E s:=by
 let⟨⟨cls,dd,data,sl⟩,ho,hc,n,hd⟩:=id ht;let⟨⟨cls2,cV,data2,dU⟩,ho2,hc2,n2,bM⟩:=id hb;simp only at hc hd hc2 bM;subst hc hd hc2 bM;have e:vs.toArray++ws.toArray=(vs++ws).toArray:=by simp
 by_cases hw:ws=[]
 .exact d7 ⟨_,ho,rfl⟩ ⟨_,ho2,rfl⟩ bq dg PySem.F.slot_tuple_add PySem.F.entry_tuple_add (PySem.F.args_tuple_add_2 _ _)
   (tuple_addW1 t b vs.toArray ws.toArray n n2 dd cV sl dU ⇑hv<|by simp[hw]) ⟨ho,ho2,h1 hw⟩
 .refine d7 ⟨_,ho,rfl⟩ ⟨_,ho2,rfl⟩ bq dg PySem.F.slot_tuple_add PySem.F.entry_tuple_add (PySem.F.args_tuple_add_2 _ _)
   (tuple_addW2 t b vs.toArray ws.toArray n n2 dd cV sl dU ⇑hv ⇑hw<|by rw[Ê,Ê];exact hsz) ⟨ho,ho2,?_⟩
  rw[e];exact h2 hw
abbrev sIx(n d:Nat):Option Int->Nat
 |none=>d
 |some v=>if v<0 then(v+(n:Int)).toNat else min v.toNat n
def Ly(n d:Nat)(hd:d<=n)(o:Option Int):sIx n d o<=n:=by
 cases o with
 |none=>exact hd
 |some v =>
  show(if v<0 then(v+(n:Int)).toNat else min v.toNat n)<=n;by_cases hv:v<0
  .rw[gp hv];lia
  .rw[gq hv];exact az _ _
def clip_eq(v:Int)(n d:Nat):(if v<0 then max (v+(n:Int)) 0 else min v (n:Int))=((sIx n d (eL v):Nat):Int):=by
 show(if v<0 then max (v+(n:Int)) 0 else min v (n:Int))=(((if v<0 then(v+(n:Int)).toNat else min v.toNat n):Nat):Int)
 by_cases hv:v<0
 .simp only[gp hv];lia
 .simp only[gq hv];lia
def OI(lo hi:Option Int)(n:Nat):Builtin.Slice.sliceAdjust lo hi 1 (n:Int)=(((sIx n 0 lo:Nat):Int),((sIx n n hi:Nat):Int)):=by
 have h1:¬ ((1:Int)<0):=by lia
 unfold Builtin.Slice.sliceAdjust;simp only[h1,if_false];refine Prod.ext ?_ ?_
 .cases lo with
  |none=>rfl
  |some v=>exact clip_eq v n 0
 .cases hi with
  |none=>rfl
  |some v=>exact clip_eq v n n
def OQ(i j:Nat):Builtin.Slice.slicePlaces (i:Int) (j:Int) 1=j - i:=by
 unfold Builtin.Slice.slicePlaces;have h1:(1:Int) > 0:=by lia
 simp only[h1,if_true,Int.ediv_one];split<;>lia
def JT{v:Ã}{o:Option Int}{Q:Option Int->Å->Prop}(p:ϑ v o)(h:Q o s):wpAny (à prog w) A (Builtin.Slice.slicePartIndex v) Q E s:=by
 cases p with
 |none=>exact slicePart_none h
 |int i t=>exact slicePart_int h
variable {sl:Í} {vl:Ã} {vu:Ã} {lo:Option Int} {hi:Option Int}
def Yx{n:Nat}{Q:Int×Int×Nat->Å->Prop}(hs:s.heap.IsSliceOf sl vl vu .none)(pl:ϑ vl lo)(pu:ϑ vu hi)
  (h:Q (((sIx n 0 lo:Nat):Int),1,sIx n n hi - sIx n 0 lo) s):wpAny (à prog w) A (Builtin.Slice.sliceApplied (.ref sl)<|pure (n:Int)) Q E s:=by
 let⟨os,hos,hcs,hds⟩:=id hs;unfold Builtin.Slice.sliceApplied Builtin.Slice.sliceFields;refine À<|À<|Ō hos hds (x:=vl) rfl<|À<|Ō hos hds (x:=vu) rfl<|À<|Ō hos hds (x:=.none) rfl<|Æ ?_;refine À<|slicePart_none ?_;show wpAny _ _ (if((1:Int)==0)=eN then _ else _) _ _ s;rw[gq<|by decide];refine À<|JT pl<|À<|JT pu<|À<|Æ ?_;show wpAny _ _ (match Builtin.Slice.sliceAdjust lo hi 1 (n:Int)with|(lo,hi)=>pure (lo,(1:Int),Builtin.Slice.slicePlaces lo hi 1)) _ _ s;rw[OI lo hi n];show wpAny _ _ (pure (((sIx n 0 lo:Nat):Int),(1:Int),Builtin.Slice.slicePlaces ((sIx n 0 lo:Nat):Int) ((sIx n n hi:Nat):Int) 1)) _ _ s;rw[OQ];exact Æ h
def CT(xs:Array Ã)(i k:Nat):((List.range k).filterMap λ(m:Nat)=>xs[((i:Int)+(m:Int)*1).toNat]?).toArray=((xs.toList.drop i).take k).toArray:=by
 have e:(λ(m:Nat)=>xs[((i:Int)+(m:Int)*1).toNat]?)=λm=>xs[i+m]?:=by
  funext m;have:((i:Int)+(m:Int)*1).toNat=i+m:=by lia
  rw[this]
 rw[e];have:=pick_run xs i k;rw[ϰ]at this;have e2:((λx=>xs[x]?) ∘ λx=>i+x)=λm=>xs[i+m]?:=rfl;rw[e2]at this;rw[this]
def getItem_tuple_cut{t:Í}(ht:aN s.heap t items)(hs:s.heap.IsSliceOf sl vl vu .none)(pl:ϑ vl lo)(pu:ϑ vu hi)
  (hw:¬ (sIx items.size 0 lo=0/\sIx items.size items.size hi=items.size))
  (h:Q (.ref s.heap.objs.size) {s with heap:=s.heap.push {cls:=.type "tuple",data:=.seq ((items.toList.drop<|sIx items.size 0 lo).take<|sIx items.size items.size hi - sIx items.size 0 lo).toArray}})
  (hsz:items.size<=ß):wpAny (à prog w) A (ϟ (.ref t)<|.ref sl) Q E s:=by
 have cW:sizeOk<|.seq ((items.toList.drop<|sIx items.size 0 lo).take<|sIx items.size items.size hi - sIx items.size 0 lo).toArray:=by show((items.toList.drop<|sIx items.size 0 lo).take<|sIx items.size items.size hi - sIx items.size 0 lo).toArray.size<=ß;rw[Ê,Ē,ſ,õ];lia
 have hj:sIx items.size items.size hi<=items.size:=Ly _ _ (Ì _) hi;let⟨os,hos,hcs,hds⟩:=id hs;have hTs:s.TypeIs (.ref sl) "slice":=⟨os,hos,hcs⟩
 unfold ϟ
 try with_reducible refine ę ?_
 first|refine À (Æ ?_)|skip
 refine À (wpAny_sequenceKey ht.typeIs (by decide) ?_);refine À (Ĵ (name:=gC "__getitem__") ht.typeIs PyProof.Rows.slot_tuple_getitem
   (Ğ PyProof.Rows.slot_tuple_getitem ht.typeIs entry_tuple_getitem ?_<|args_tuple_getitem _ _))
 show wpAny _ _ (Builtin.Tuple.tupleItemsOf (.ref t) >>= _) _ _ s;refine À<|tupleItemsOf_ ht ?_;refine À<|Ϡ hTs ?_;rw[gp<|by decide];refine À<|Yx hs pl pu ?_;have hno:¬ ((((sIx items.size 0 lo:Nat):Int)==0&&(1:Int)==1&&(sIx items.size items.size hi - sIx items.size 0 lo)==items.size)=eN):=by intro q;rw[bAq,bAq]at q;have q1:((sIx items.size 0 lo:Nat):Int)=0:=eq_of_beq q.1.1;have q2:sIx items.size items.size hi - sIx items.size 0 lo=items.size:=eq_of_beq q.2;exact hw ⟨by lia,by lia⟩
 show wpAny _ _ (if(((sIx items.size 0 lo:Nat):Int)==0&&(1:Int)==1&&(sIx items.size items.size hi - sIx items.size 0 lo)==items.size)=eN then _ else _) _ _ s;rw[gq hno,CT]
 first
  |exact À (m:=Builtin.Tuple.tupleExact _)<|Ĉ (Æ ⟨_,rfl,Æ h⟩) cW
  |exact À (m:=Builtin.Tuple.tupleExact _)<|Ĉ (À<|Æ<|Æ ⟨_,rfl,Æ h⟩) cW
  |exact À<|À (m:=Builtin.Tuple.tupleExact _)<|Ĉ (Æ<|Æ ⟨_,rfl,Æ h⟩) cW
  |exact À<|À (m:=Builtin.Tuple.tupleExact _)<|Ĉ (Æ ⟨_,rfl,Æ h⟩) cW
end
end HT
namespace L2
open PySem PySem.Spec PyProof.Rows
noncomputable abbrev TO:=St->Hp->(Option Int->Hp->Prop)->Prop
abbrev PO(X:Cx)(e:Option Expr)(t:TO):Prop :=
 ∀(Â:List<|Í×Obj) (s:Å) (σ:St) (H:Hp) (Q:Option Int->Hp->Prop),Inv X Â σ H s->t σ H Q->
  wpAny (à X.prog X.w) X.A (evalPart e X.env) (λu s'=>∃o H',Inv X Â σ H' s'/\ϑ u o/\Q o H') X.xe s
abbrev E8:TO:=λ_ H Q=>Q eM H
abbrev QE(t:TE):TO:=λσ H Q=>t σ H λx H1=>∃i,x=.int i/\Q (eL i) H1
def ZD{ns:List Int}:∀{us:List Ã},f8 (ns.map V.int) us->ă us ns:=by
 induction ns with
 |nil=>intro us r;rw[Ţ]at r;cases r;exact .nil
 |cons n ns ih =>
  intro us r;rw[Ñ]at r;cases r with
  |cons r1 r2 =>let⟨t,e⟩:=r1;subst e;exact .cons n t<|ih r2
section
variable {X:Cx}{e:Expr}{te:TE}{lo hi:Option Expr}{tl th:TO}{ë p2:Pos}
def po_none:PO X eM E8:=by intro Â s σ H Q I h;rw[evalPart_none];exact Æ ⟨eM,H,I,.none,h⟩
def Ha(h:PE X e te):PO X (eL e)<|QE te:=by intro Â s σ H Q I hw;rw[evalPart_some];refine thn (h Â s σ H _ I hw) λu s1 ⟨x,H1,I1,r1,q1⟩=>?_;let⟨i,rfl,q⟩:=q1;let⟨t,rfl⟩:=r1;exact⟨eL i,H1,I1,.int i t,q⟩
abbrev SlR(X:Cx)(r:V->Option Int->Option Int->Hp->VK->Prop):Prop :=
 ∀(Â:List<|Í×Obj) (s:Å) (σ:St) (H:Hp) (x:V) (v vl vu:Ã) (lo hi:Option Int) (sl:Í) (Q:VK),Inv X Â σ H s->RelV x v->s.heap.IsSliceOf sl vl vu .none->ϑ vl lo->ϑ vu hi->r x lo hi H Q->
  ∃T id,typeLookup (.type T) "__getitem__" = pure (eL<|.builtin id)/\s.TypeIs v T/\wpAny (à X.prog X.w) X.A (ϟ v<|.ref sl) (EP X Â σ Q) X.xe s
variable {r:V->Option Int->Option Int->Hp->VK->Prop}
def SlR.or{r':V->Option Int->Option Int->Hp->VK->Prop}(h:SlR X r)(h':SlR X r'):SlR X λx lo hi H Q=>r x lo hi H Q\/r' x lo hi H Q:=by
 intro Â s σ H x v vl vu lo hi sl Q I rx hs pl pu q;rcases q with q|q
 .exact h Â s σ H x v vl vu lo hi sl Q I rx hs pl pu q
 .exact h' Â s σ H x v vl vu lo hi sl Q I rx hs pl pu q
abbrev tSl(r:V->Option Int->Option Int->Hp->VK->Prop)(te:TE)(tl th:TO):TE:=λσ H Q=>te σ H λx H1=>tl σ H1 λl H2=>th σ H2 λu H3=>r x l u H3 Q
def Ev(hr:SlR X r)(he:PE X e te)(hl:PO X lo tl)(hu:PO X hi th):PE X (.Subscript e (.Slice lo hi eM p2) ë)<|tSl r te tl th:=by intro Â s σ H Q I h;refine Subscript_<|thn (he Â s σ H _ I h) λv s1 ⟨x,H1,I1,r1,q1⟩=>?_;refine wpAny_Slice<|thn (hl Â s1 σ H1 _ I1 q1) λvl s2 ⟨l,H2,I2,pl,q2⟩=>thn (hu Â s2 σ H2 _ I2 q2) λvu s3 ⟨u,H3,I3,pu,q3⟩=>?_;rw[evalPart_none];refine Æ ?_;have I4:Inv X Â σ H3 {s3 with heap:=s3.heap.push {cls:=.type "slice",data:=.fields #[vl,vu,.none]}}:=I3.kept (t':=s3.toks) λb ob q=>Ä _ q;let⟨T,id,hT,ht,hg⟩:=hr Â {s3 with heap:=s3.heap.push {cls:=.type "slice",data:=.fields #[vl,vu,.none]}} σ H3 x v vl vu l u s3.heap.objs.size Q I4 r1 (Heap.IsSliceOf.new ..) pl pu q3;show wpAny (à X.prog X.w) X.A (aw e (.Slice lo hi eM p2) v<|.ref s3.heap.objs.size) (EP X Â σ Q) X.xe {s3 with heap:=s3.heap.push {cls:=.type "slice",data:=.fields #[vl,vu,.none]}};exact tail_any (ops:=[.ref s3.heap.objs.size,v]) ht hT hg (by with_unfolding_all rfl)
abbrev MS(xs:List V)(lo hi:Option Int):List V:=(xs.drop<|HT.sIx xs.length 0 lo).take<|HT.sIx xs.length xs.length hi - HT.sIx xs.length 0 lo
def Wy(xs:List V)(lo hi:Option Int):(MS xs lo hi).length<=xs.length:=by unfold MS;rw[Ē,ſ];lia
abbrev QL(K:Frag):V->Option Int->Option Int->Hp->VK->Prop:=λx lo hi H Q=>∃a xs,x=.ref a/\fZ K H a xs/\
 ¬ (HT.sIx xs.length 0 lo=0/\HT.sIx xs.length xs.length hi=xs.length)/\∀p,H p=eM->Q (.ref p) (upd H p<|.tup<|MS xs lo hi)
def fP:SlR X<|QL X.K:=by
 intro Â s σ H x v vl vu lo hi sl Q I rx hs pl pu h;let⟨a,xs,rfl,hx,hw,q⟩:=h;cases rx;let⟨ø,r,ht,hz⟩:=I.tuple hx;have hlen:ø.toArray.size=xs.length:=by rw[Ê];exact r.length.symm
 refine⟨"tuple",_,PyProof.Rows.slot_tuple_getitem.lookup,ht.typeIs,?_⟩;refine HT.getItem_tuple_cut ht hs pl pu (by rw[hlen];exact hw) ?_ (by rw[hlen];exact hz);rw[hlen];refine⟨.ref s.heap.objs.size,_,I.laid (t':=s.toks) (o:=.tup<|MS xs lo hi) (λb ob q=>Ä _ q) (Ì _) ?_,rfl,q _<|I.hok.fresh<|Ì _⟩;exact⟨Ý (Wy xs lo hi) hz,_,(r.drop<|HT.sIx xs.length 0 lo).take<|HT.sIx xs.length xs.length hi - HT.sIx xs.length 0 lo,IsTup.new _ _⟩
abbrev Q8(K:Frag):R2:=λx y H Q=>∃a b ns ms,x=.ref a/\y=.ref b/\fZ K H a (ns.map V.int)/\fZ K H b (ms.map V.int)/\Q (.bl<|HT.lexLt ns ms) H
def Ie(hu:X.A.units<Ī):OpR X (î .Lt)<|Q8 X.K:=by intro Â s σ H x y v u Q I rx ry h;let⟨a,b,ns,ms,rfl,rfl,ha,hb,q⟩:=h;cases rx;cases ry;let⟨ø,r1,p1,_⟩:=I.tuple ha;let⟨ϛ,r2,p2,_⟩:=I.tuple hb;have i1:ă ø.toArray.toList ns:=ZD r1;have i2:ă ϛ.toArray.toList ms:=ZD r2;exact HT.lt_tupInts p1 p2 i1 i2 hu ⟨.bl<|HT.lexLt ns ms,H,I,rfl,q⟩
abbrev HP(K:Frag):R2:=λx y H Q=>∃a b xs ys,x=.ref a/\y=.ref b/\fZ K H a xs/\fZ K H b ys/\xs≠[]/\xs.length+ys.length<=ß/\
 (ys=[]->Q (.ref a) H)/\(ys≠[]->∀p,H p=eM->Q (.ref p) (upd H p<|.tup<|xs++ys))
def f8.nil_iff{xs:List V}{us:List Ã}(r:f8 xs us):us=[]↔xs=[]:=by
 cases r with
 |nil=>simp
 |cons _ _=>simp
def GY:OpR X (ŉ .Add)<|HP X.K:=by intro Â s σ H x y v u Q I rx ry h;let⟨a,b,xs,ys,rfl,rfl,ha,hb,hx,hz,q1,q2⟩:=h;cases rx;cases ry;let⟨ø,r1,p1,_⟩:=I.tuple ha;let⟨ϛ,r2,p2,_⟩:=I.tuple hb;refine HT.cat_tup p1 p2 (λz=>hx<|r1.nil_iff.mp z) (λz=>⟨.ref a,H,I,rfl,q1<|r2.nil_iff.mp z⟩) (λz=>?_) (by rw[<-r1.length,<-r2.length];exact hz);refine⟨.ref s.heap.objs.size,_,I.laid (t':=s.toks) (o:=.tup<|xs++ys) (λb ob q=>Ä _ q) (Ì _) ?_,rfl,q2 (λw=>z<|r2.nil_iff.mpr w) _<|I.hok.fresh<|Ì _⟩;exact⟨by rw[í];exact hz,_,r1.append r2,IsTup.new _ _⟩
end
abbrev ixN(n:Nat)(i:Int):Option Nat:=if 0<=i then(if i<n then eL i.toNat else eM)else if -(n:Int)<=i then eL (i+n).toNat else eM
variable {α:Type}
abbrev atI(xs:List α)(i:Int):Option α:=(ixN xs.length i).bind λj=>xs[j]?
variable {n:Nat} {i:Int}
def M3{j:Nat}(h:ixN n i=eL j):seqIndex? i n=eL j/\j<n/\-(n:Int)<=i/\i<n:=by
 unfold ixN at h;by_cases h0:0<=i
 .rw[gp h0]at h;by_cases h1:i<n
  .rw[gp h1]at h;have e:i.toNat=j:=è h;exact⟨by rw[bE h0 h1,e],by lia,by lia,h1⟩
  .rw[gq h1]at h;cases h
 .rw[gq h0]at h;by_cases h1:-(n:Int)<=i
  .rw[gp h1]at h;have e:(i+n).toNat=j:=è h;exact⟨by rw[aP (by lia) h1,e],by lia,h1,by lia⟩
  .rw[gq h1]at h;cases h
def WP{xs:List α}{v:α}(h:atI xs i=eL v):∃j,seqIndex? i xs.length=eL j/\xs[j]?=eL v/\j<xs.length/\-(xs.length:Int)<=i/\i<xs.length:=by
 unfold atI at h;cases e:ixN xs.length i with
 |none=>rw[e]at h;cases h
 |some j =>rw[e]at h;let⟨h1,h2,h3,h4⟩:=M3 e;exact⟨j,h1,h,h2,h3,h4⟩
abbrev M8(b:Expr):Prop:=∀o i,subscripted b eP o i=operate [o,i] (ϟ o i)
abbrev IxR(X:Cx)(r:R2):Prop :=
 ∀(ο slice:Expr) (Â:List<|Í×Obj) (s:Å) (σ:St) (H:Hp) (x y:V) (v u:Ã) (Q:VK),Inv X Â σ H s->RelV x v->RelV y u->r x y H Q->
  subscripted slice eP v u=operate [v,u] (ϟ v u)->wpAny (à X.prog X.w) X.A (aw ο slice v u) (EP X Â σ Q) X.xe s
abbrev MtR(X:Cx)(id:String)(r:V->List V->Hp->VK->Prop):Prop :=
 ∀(Â:List<|Í×Obj) (s:Å) (σ:St) (H:Hp) (x:V) (xs:List V) (v:Ã) (us:List Ã) (Q:VK),Inv X Â σ H s->RelV x v->f8 xs us->r x xs H Q->
  wpAny (à X.prog X.w) X.A (call (.builtin id)<|v::us) (EP X Â σ Q) X.xe s
section
variable {X:Cx}{a b:Expr}{ta tb:TE}{ë:Pos}
variable {r:R2}
def IxR.or{r':R2}(h:IxR X r)(h':IxR X r'):IxR X λx y H Q=>r x y H Q\/r' x y H Q:=by
 intro ο slice Â s σ H x y v u Q I rx ry q hs;rcases q with q|q
 .exact h ο slice Â s σ H x y v u Q I rx ry q hs
 .exact h' ο slice Â s σ H x y v u Q I rx ry q hs
def MtR.or{id:String}{r r':V->List V->Hp->VK->Prop}(h:MtR X id r)(h':MtR X id r'):MtR X id λx xs H Q=>r x xs H Q\/r' x xs H Q:=by
 intro Â s σ H x xs v us Q I rx rs q;rcases q with q|q
 .exact h Â s σ H x xs v us Q I rx rs q
 .exact h' Â s σ H x xs v us Q I rx rs q
def QX(hr:IxR X r)(ha:PE X a ta)(hb:PE X b tb)(hs:M8 b):PE X (.Subscript a b ë)<|tOp r ta tb:=by intro Â s σ H Q I h;exact Subscript_ (Il ha hb I h λv u s2 x y H2 I2 rx ry q=>hr a b Â s2 σ H2 x y v u Q I2 rx ry q<|hs _ _)
abbrev Ey(K:Frag):R2:=λx y H Q=>∃p xs i v,x=.ref p/\y=.int i/\fY K H p xs/\atI xs i=eL v/\Q v H
abbrev Rb(K:Frag):R2:=λx y H Q=>∃p xs i v,x=.ref p/\y=.int i/\fZ K H p xs/\atI xs i=eL v/\Q v H
abbrev Rf:R2:=λx y H Q=>∃z i c,x=.str z/\y=.int i/\z.length<=ß/\atI z.cps.toList i=eL c/\Q (.str ⟨#[c]⟩) H
def ix_list:IxR X<|Ey X.K:=by
 intro ο slice Â s σ H x y v u Q I rx ry h hs;let⟨p,xs,i,z,rfl,rfl,hq,he,q⟩:=h;cases rx;let⟨t,rfl⟩:=ry;let⟨ø,r,pl,hz⟩:=I.list hq;let⟨j,h1,h2,h3,h4,h5⟩:=WP he;let⟨w,ew,aZ⟩:=r.get h2;have hl:=r.length;have hn:=Y4;have fin:EP X Â σ Q w s:=⟨z,H,I,aZ,q⟩
 by_cases h0:0<=i
 .have hj:i.toNat=j:=by
   rw[bE h0 h5]at h1;exact è h1
  exact item_listR pl.isList h0 (by lia) (by rw[hj];simpa using ew) fin hs
 .have hj:(i+(ø.toArray.size:Int)).toNat=j:=by
   rw[aP (by lia) h4]at h1;rw[Ê,<-hl];exact è h1
  exact d8 (x:=w) pl.isList.typeIs aQ.lookup
   (d9 (Q:=λr s'=>r=w/\EP X Â σ Q r s') pl.isList (by lia) (by rw[Ê]<;>lia) (by lia) (by rw[hj];simpa using ew) ⟨rfl,fin⟩) hs
def eW:IxR X<|Rb X.K:=by
 intro ο slice Â s σ H x y v u Q I rx ry h hs;let⟨p,xs,i,z,rfl,rfl,hq,he,q⟩:=h;cases rx;let⟨t,rfl⟩:=ry;let⟨ø,r,pl,hz⟩:=I.tuple hq;let⟨j,h1,h2,h3,h4,h5⟩:=WP he;let⟨w,ew,aZ⟩:=r.get h2;have hl:=r.length;have hn:=Y4;have fin:EP X Â σ Q w s:=⟨z,H,I,aZ,q⟩
 exact d8 (x:=w) pl.typeIs slot_tuple_getitem.lookup
  (getItem_tuple (j:=j) (Q:=λr s'=>r=w/\EP X Â σ Q r s') pl (by lia) (by lia) (by rw[Ê,<-hl];exact h1) ⇑ew ⟨rfl,fin⟩) hs
def L4:IxR X Rf:=by
 intro ο slice Â s σ H x y v u Q I rx ry h hs;let⟨z,i,c,rfl,rfl,hz,he,q⟩:=h;let⟨t,rfl⟩:=rx;let⟨t',rfl⟩:=ry;let⟨j,h1,h2,h3,h4,h5⟩:=WP he;have hl:z.cps.toList.length=z.length:=by simp[Str.length]
 rw[hl]at h1 h4 h5;have hn:=Y4;exact tail_any (typeIs_str s z t) slot_str_getitem.lookup (getItem_str (c:=c) (by
   have e1:gB (i < -(2 ^ 63:Int))=eP:=gu (by lia)
   have e2:gB (i≥2 ^ 63)=eP:=gu (by lia)
   rw[e1,e2,ϭ]) (by rw[h1];simpa using h2) ⟨.str ⟨#[c]⟩,H,I.tok _,⟨_,rfl⟩,q⟩) hs
abbrev rIx(K:Frag):R2:=λx y H Q=>Ey K x y H Q\/Rb K x y H Q\/Rf x y H Q
def ix_seq:IxR X<|rIx X.K:=ix_list.or (eW.or L4)
def O5(ø:List Ã)(n j:Nat)(u:Ã):ω (·.setIfInBounds j u) {cls:=.type "list",data:=.seq ø.toArray n}={cls:=.type "list",data:=.seq (ø.set j u).toArray n}:=by simp[ω]
def Inv.lst{Â:List (Í×Obj)}{σ:St}{H:Hp}{s:Å}{p:Í}{xs:List V}(I:Inv X Â σ H s)(h:H p=eL (.lst xs)) :
  ∃(ø:List Ã) (n:Nat),f8 xs ø/\s.heap.get? p=eL {cls:=.type "list",data:=.seq ø.toArray n}/\xs.length<=ß:=by
 let⟨z,ø,n,r,e⟩:=I.hok p _ h;exact⟨ø,n,r,e,z⟩
variable {Â:List (Í×Obj)} {σ:St} {H:Hp} {s:Å}
def Inv.lstUpd{p:Í}{xs ys:List V}{ø its':List Ã}{n':Nat}{f:Obj->Obj}(I:Inv X Â σ H s)(h:H p=eL (.lst xs))
  (ho:s.heap.get? p=eL {cls:=.type "list",data:=.seq ø.toArray n}) (hf:f {cls:=.type "list",data:=.seq ø.toArray n}={cls:=.type "list",data:=.seq its'.toArray n'}) (r:f8 ys its') (hz:ys.length<=ß) (t:Nat) :
  Inv X Â σ (upd H p<|.lst ys) {s with heap:=s.heap.update p f,toks:=t}:=by
 have e:(s.heap.update p f).get? p=eL {cls:=.type "list",data:=.seq its'.toArray n'}:=by rw[Ė f ho (by rw[hf]<;>rfl),hf]
 refine I.write (x:=p) (e:=p) (by rw[h];trivial) (.inl rfl) (λb u hb q=>(ñ _ _<|Ne.symm hb).trans q) ⟨_,e⟩ ?_;exact⟨hz,its',n',r,e⟩
abbrev Hz:V->V->V->Hp->(Hp->Prop)->Prop:=λo i v H Q=>∃p xs k j,o=.ref p/\i=.int k/\H p=eL (.lst xs)/\ixN xs.length k=eL j/\Q (upd H p<|.lst<|xs.set j v)
def NT:PSet X Hz:=by
 intro Â s σ H o i v ov iv u Q I ro ri rv h;let⟨p,xs,k,j,rfl,rfl,hp,hj,q⟩:=h;cases ro;let⟨t,rfl⟩:=ri;let⟨ø,n,r,ho,hz⟩:=I.lst hp;let⟨h1,h2,h3,h4⟩:=M3 hj;have hl:=r.length;have hn:=Y4;have I':Inv X Â σ (upd H p<|.lst<|xs.set j v) {s with heap:=s.heap.update p (ω (·.setIfInBounds j u))} :=
  I.lstUpd hp ho (O5 ø n j u) (r.set rv j) (by rw[ϒ];exact hz) s.toks
 by_cases h0:0<=k
 .have hk:k.toNat=j:=by
   rw[bE h0 h4]at h1;exact è h1
  exact PySem.W.ki_setAt ho h0 (by lia) (by rw[Ê,<-hl];exact h4) (by rw[hk];exact⟨_,I',q⟩)
 .have hk:(k+(ø.toArray.size:Int)).toNat=j:=by
   rw[aP (by lia) h3]at h1;rw[Ê,<-hl];exact è h1
  exact PySem.W.ki_setBack ho (by lia) (by rw[Ê,<-hl];exact h3) (by lia) (by rw[hk];exact⟨_,I',q⟩)
def Mm(lo hi:Option Int)(n:Nat):(ğ lo hi eM n).1=((HT.sIx n 0 lo:Nat):Int)/\(ğ lo hi eM n).2.1=((HT.sIx n n hi:Nat):Int)/\(ğ lo hi eM n).2.2=1:=by
 refine⟨?_,?_,rfl⟩
 .cases lo with
  |none=>simp[ğ,HT.sIx]
  |some i =>
   simp only[ğ,HT.sIx,dC,show(1:Int) > 0 by decide,if_true];by_cases h:i<0
   .simp only[h,if_true]<;>lia
   .simp only[h,if_false]<;>lia
 .cases hi with
  |none=>simp[ğ,HT.sIx]
  |some i =>
   simp only[ğ,HT.sIx,dC,show(1:Int) > 0 by decide,if_true];by_cases h:i<0
   .simp only[h,if_true]<;>lia
   .simp only[h,if_false]<;>lia
def Kj(ø:List Ã)(lo hi:Option Int):dD ø.toArray lo hi eM=((ø.drop<|HT.sIx ø.length 0 lo).take<|HT.sIx ø.length ø.length hi - HT.sIx ø.length 0 lo).toArray:=by let⟨h1,h2,h3⟩:=Mm lo hi ø.toArray.size;unfold dD;rw[h1,h2,h3];simp only[sliceRange_one,pick_run,Ê]<;>rfl
abbrev RG(K:Frag):V->Option Int->Option Int->Hp->VK->Prop:=λx lo hi H Q=>∃a xs,x=.ref a/\fY K H a xs/\∀p,H p=eM->Q (.ref p) (upd H p<|.lst<|MS xs lo hi)
def sl_list:SlR X<|RG X.K:=by intro Â s σ H x v vl vu lo hi sl Q I rx hs pl pu h;let⟨a,xs,rfl,hx,q⟩:=h;cases rx;let⟨ø,r,ht,hz⟩:=I.list hx;have hlen:=r.length;refine⟨"list",_,aQ.lookup,ht.isList.typeIs,?_⟩;refine dh ht.isList hs pl pu .none (by simp) ?_ (by rw[Ê]<;>lia);rw[Kj,<-hlen];refine⟨.ref s.heap.objs.size,_,I.laid (t':=s.toks) (o:=.lst<|MS xs lo hi) (λb ob q=>Ä _ q) (Ì _) ?_,rfl,q _<|I.hok.fresh<|Ì _⟩;exact⟨Ý (Wy xs lo hi) hz,_,0,(r.drop<|HT.sIx xs.length 0 lo).take<|HT.sIx xs.length xs.length hi - HT.sIx xs.length 0 lo,Ô _ rfl⟩
abbrev eqV:V->V->Bool
 |.non,.non=>eN
 |.bl a,.bl b=>a==b
 |.bl a,.int b=>(if a then 1 else 0)==b
 |.int a,.bl b=>a==(if b then 1 else 0)
 |.int a,.int b=>a==b
 |.str a,.str b=>a==b
 |_,_=>eP
abbrev inV(x:V)(xs:List V):Bool:=xs.any λy=>eqV y x
def MF:OpR X (î .NotIn) λx y H Q=>∃i j,x=.str i/\y=.str j/\Q (.bl (!(!(Builtin.Str.occurrences j i 0 j.length 1).isEmpty))) H:=by intro Â s σ H x y v u Q I rx ry h;let⟨i,j,rfl,rfl,q⟩:=h;let⟨t,rfl⟩:=rx;let⟨t',rfl⟩:=ry;exact notIn_str ⟨.bl _,H,I,rfl,q⟩
def call_len_seq:eY X (.builtin "len") λxs H Q=>∃p ys,xs=[.ref p]/\(fY X.K H p ys\/fZ X.K H p ys)/\Q (.int ys.length) H:=by
 intro Â s σ H xs us Q I r h;let⟨p,ys,rfl,hq,q⟩:=h;let⟨u,rfl,rx⟩:=Z2 r;cases rx;have hn:=Y4;rcases hq with hq|hq
 .obtain⟨ø,r',pl,hz⟩:=I.list hq;have hlen:=r'.length;exact Calls.call_len_list pl.isList (by simp only[Ê]<;>lia) ⟨.int ys.length,H,I.tok _,⟨s.toks+1,by rw[Ê,hlen]⟩,q⟩
 .obtain⟨ø,r',pl,hz⟩:=I.tuple hq;have hlen:=r'.length;exact len_tuple pl (by simp only[Ê]<;>lia) ⟨.int ys.length,H,I.tok _,⟨s.toks+1,by rw[Ê,hlen]⟩,q⟩
def MH:eY X (.builtin "len") λxs H Q=>∃z,xs=[.str z]/\z.length<=ß/\Q (.int z.length) H:=by intro Â s σ H xs us Q I r h;let⟨z,rfl,hz,q⟩:=h;let⟨u,rfl,t,rfl⟩:=Z2 r;have hn:=Y4;exact len_str (by lia) ⟨.int z.length,H,I.tok _,⟨_,rfl⟩,q⟩
def eY.or{f:Ã}{r r':List V->Hp->VK->Prop}(h:eY X f r)(h':eY X f r'):eY X f λxs H Q=>r xs H Q\/r' xs H Q:=by
 intro Â s σ H xs us Q I rs q;rcases q with q|q
 .exact h Â s σ H xs us Q I rs q
 .exact h' Â s σ H xs us Q I rs q
def MG:eY X (.type "list") λxs H Q=>∃p ys,xs=[.ref p]/\(fY X.K H p ys\/fZ X.K H p ys)/\∀l,H l=eM->Q (.ref l) (upd H l<|.lst ys):=by
 intro Â s σ H xs us Q I r h;let⟨p,ys,rfl,hq,q⟩:=h;let⟨u,rfl,rx⟩:=Z2 r;cases rx;have fin:∀(ø:List Ã),f8 ys ø->ys.length<=ß->∀(h':ĉ) (c':Nat),(∀b o',s.heap.get? b=eL o'->h'.get? b=eL o')->
   h'.get? s.heap.objs.size=eL {cls:=.type "list",dict:=eM,data:=.seq ø.toArray c',slots:=#[]}->EP X Â σ Q (.ref s.heap.objs.size) {s with heap:=h'}:=λø r' hz h' c' kp e =>
  ⟨.ref s.heap.objs.size,_,I.laid (t':=s.toks) kp (Ì _) (show eZ X.prog X.w _ h' _ (.lst ys) from ⟨hz,ø,c',r',e⟩),rfl,q _<|I.hok.fresh<|Ì _⟩
 rcases hq with hq|hq
 .obtain⟨ø,r',pl,hz⟩:=I.list hq;have hlen:=r'.length;let⟨o,ho,hc,n,hd⟩:=pl.isList;exact call_list_seq p (.inl rfl) ho hc hd (λh' c' kp e=>fin ø r' hz h' c' kp e) (by simp only[Ê]<;>lia)
 .obtain⟨ø,r',pl,hz⟩:=I.tuple hq;have hlen:=r'.length;let⟨o,ho,hc,n,hd⟩:=pl;exact call_list_seq p (.inr rfl) ho hc hd (λh' c' kp e=>fin ø r' hz h' c' kp e) (by simp only[Ê]<;>lia)
def Kn:eY X (.type "tuple") λxs H Q=>∃p ys,xs=[.ref p]/\((fY X.K H p ys/\∀l,H l=eM->Q (.ref l) (upd H l<|.tup ys))\/(fZ X.K H p ys/\Q (.ref p) H)):=by
 intro Â s σ H xs us Q I r h;let⟨p,ys,rfl,h⟩:=h;let⟨u,rfl,rx⟩:=Z2 r;cases rx;rcases h with⟨hq,q⟩|⟨hq,q⟩
 .obtain⟨ø,r',pl,hz⟩:=I.list hq;have hlen:=r'.length;refine call_tuple_list pl.isList (λh' kp=>?_) (by simp only[Ê]<;>lia);have I1:Inv X Â σ H {s with heap:=h'}:=I.kept (t':=s.toks) kp;have I2:Inv X Â σ (upd H h'.objs.size<|.tup ys) {s with heap:=h'.push {cls:=.type "tuple",data:=.seq ø.toArray}} :=
   I1.laid (t':=s.toks) (λb o e=>Ä _ e) (Ì _) (show eZ X.prog X.w _ _ _ (.tup ys) from ⟨hz,ø,r',IsTup.new _ _⟩)
  exact⟨.ref h'.objs.size,_,I2,rfl,q _<|I1.hok.fresh<|Ì _⟩
 .obtain⟨ø,r',pl,hz⟩:=I.tuple hq;exact call_tuple_same pl ⟨.ref p,H,I,rfl,q⟩
abbrev tyV(K:Frag)(T:String)(x:V)(H:Hp):Prop:=match x with
 |.str _=>T = "str"
 |.int _=>T = "int"
 |.ref p=>(T = "list"/\∃xs,fY K H p xs)\/(T = "tuple"/\∃o,K.lookup p=eL o/\o.cls=.type "tuple"/\o.dict=eM)\/
   (T = "dict"/\((∃kvs,H p=eL (.dK kvs))\/∃kvs,H p=eL (.dT kvs)))\/(T = "set"/\∃S n,H p=eL (.set S n))
 |_=>False
def Ih{T:String}{x:V}{v:Ã}(I:Inv X Â σ H s)(r:RelV x v)(ty:tyV X.K T x H) :
  s.TypeIs v T/\∀a,v=.ref a->∃ob,s.heap.get? a=eL ob/\ob.dict=eM:=by
 cases x with
 |str z =>let⟨t,rfl⟩:=r;cases (show T = "str" from ty);exact⟨typeIs_str s z t,λ_ e=>nomatch e⟩
 |int i =>let⟨t,rfl⟩:=r;cases (show T = "int" from ty);exact⟨typeIs_int s i t,λ_ e=>nomatch e⟩
 |ref p =>
  cases r;rcases ty with⟨rfl,xs,hq⟩|⟨rfl,o,hk,hc,hd⟩|⟨rfl,hk⟩|⟨rfl,S,n,hk⟩
  .obtain⟨ø,_,pl,_⟩:=I.list hq;refine⟨pl.isList.typeIs,λa e=>?_⟩;cases e;let⟨o,n,e,c,hd,_⟩:=pl;exact⟨o,e,hd⟩
  .refine⟨⟨o,I.kIn p o hk,hc⟩,λa e=>?_⟩;cases e;exact⟨o,I.kIn _ o hk,hd⟩
  .have z:∃o,s.heap.get? p=eL o/\o.ExactDict:=by
    rcases hk with⟨kvs,hk⟩|⟨kvs,hk⟩
    .obtain⟨_,_,_,_,o,_,_,e,ex,_⟩:=I.hok p _ hk;exact⟨o,e,ex⟩
    .obtain⟨_,_,_,_,o,_,_,e,ex,_⟩:=I.hok p _ hk;exact⟨o,e,ex⟩
   let⟨o,e,ex⟩:=z;refine⟨⟨o,e,ex.1⟩,λa e2=>?_⟩;cases e2;exact⟨o,e,ex.2.1⟩
  .obtain⟨o,_,_,_,e,ex,_⟩:=I.hok p _ hk;refine⟨⟨o,e,ex.1⟩,λa e2=>?_⟩;cases e2;exact⟨o,e,ex.2.1⟩
 |_=>exact ņ ty
abbrev tBM(K:Frag)(T:String)(r:V->List V->Hp->VK->Prop)(to:TE)(t:TA):TE:=λσ H Q=>to σ H λx H1=>tyV K T x H1/\t σ H1 λxs H2=>r x xs H2 Q
variable {o e:Expr}{es:List Expr}{to:TE}{t:TA}{name:Str}{Ő š:Pos}{T id:String}{r:V->List V->Hp->VK->Prop}
def Rg(pa:PlainAttrs T)(slot:Slot T name id)(hty:typeOf (.builtin id)=pure (.type "method_descriptor"))(hm:MtR X id r)(ho:PE X o to)(ha:PA X (e::es) t)
  (aH:Ħ o name X.env (eval o X.env)=eval o X.env:=by rfl)
  (av:((ģ š<|Ü (e::es) X.env).all (λx=>!x.1)&&(η š<|ŋ [] X.env).all (λx=>x.1.isSome)
    && gB ((e::es).length+([]:List aR).length+(if([]:List aR).isEmpty then 0 else 1)<30))=eN:=by rfl)
  (aI:(Ő.endLine==š.line)=eN:=by rfl) (hs:Ü (e::es) X.env=(eP,eval e X.env)::Ü es X.env:=by rfl) (cJ:(ģ š<|Ü es X.env).any (·.1)=eP:=by rfl) :
  PE X (.Call (.Attribute o name Ő) (e::es) [] š) (tBM X.K T r to t):=by
 intro Â s σ H Q I h;refine wpAny_Call_method_late aH av aI rfl<|thn (ho Â s σ H _ I h) λv s1 ⟨x,H1,I1,r1,ty,q1⟩=>?_;let⟨h1,h2⟩:=Ih I1 r1 ty;refine⟨T,id,pa,slot,hty,h1,h2,?_⟩;have hA:=ha š Â s1 σ H1 _ I1 q1;rw[hs]at hA ⊢;refine Calls.callWith_builtin (by show(eP||(ģ š<|Ü es X.env).any (·.1))=eP;rw[cJ]<;>rfl)<|Calls.evalArgs_plain ?_;exact thn hA λus s2 ⟨vs,H2,I2,r2,q2⟩=>hm Â s2 σ H2 x vs v us Q I2 r1 r2 q2
/- xs.append(e),list.index on a module's tuple .. are MtR facts of 06m -/
end
abbrev MtM(X:Cx)(id:String)(r:V->List V->Hp->VK->Prop):Prop :=
 ∀(Â:List<|Í×Obj) (s:Å) (σ:St) (H:Hp) (x:V) (xs:List V) (v:Ã) (us:List Ã) (Q:VK),Inv X Â σ H s->RelV x v->f8 xs us->r x xs H Q->
  wpAny (à X.prog X.w) X.A (call (.builtin id)<|v::us) (EP X Â σ Q) X.xe s
variable {x:V} {us:List Ã}
def f8.one(r:f8 [x] us):∃u,us=[u]/\RelV x u:=Z2 r
def f8.two{y:V}(r:f8 [x,y] us):∃u v,us=[u,v]/\RelV x u/\RelV y v:=Uo r
def f8.eraseIdx:∀{xs:List V}{us:List Ã}(i:Nat),f8 xs us->f8 (xs.eraseIdx i) (us.eraseIdx i)
 |_,_,_,.nil=>.nil
 |_,_,0,.cons _ t=>t
 |_,_,i+1,.cons r t=>.cons r<|f8.eraseIdx i t
def f8.rep{xs:List V}{us:List Ã}(h:f8 xs us):∀k:Nat,f8 (Þ k xs).flatten (Þ k us).flatten
 |0=>.nil
 |k+1=>by rw[ċ,ċ,ń,ń];exact f8.append h<|f8.rep h k
def KY{α:Type}:∀(l:List α) (i:Nat),(l.eraseIdx i).length<=l.length
 |[],_=>Ì _
 |_::_,0=>Ň _
 |_::r,i+1=>Υ<|KY r i
def KR(ø:List Ã):∀(k:Nat) (Į:List Ã),
  dF (λx1 x2=>x1++x2) Į.toArray (Þ k ø.toArray)=(Į++(Þ k ø).flatten).toArray
 |0,Į=>by simp
 |k+1,Į=>by
  have e:Į.toArray++ø.toArray=(Į++ø).toArray:=by simp
  have e2:(Į++ø)++(Þ k ø).flatten=Į++(Þ (k+1) ø).flatten:=by rw[ċ,ń,Ĕ]
  rw[<-e2,<-KR ø k (Į++ø),<-e,ċ,ŀ]
section
variable {X:Cx}{Â:List (Í×Obj)}{σ:St}{H:Hp}{s:Å}{l b:Í}{xs ys zs:List V}
variable {ø:List Ã} {n:Nat} {t':Nat}
def Inv.lset{its':List Ã}{f:Array Ã->Array Ã}(I:Inv X Â σ H s)(hH:H l=eL (.lst xs))
  (e:s.heap.get? l=eL {cls:=.type "list",data:=.seq ø.toArray n}) (hf:f ø.toArray=its'.toArray) (hv:f8 ys its') (hz:ys.length<=ß) :
  Inv X Â σ (upd H l<|.lst ys) {s with heap:=s.heap.update l<|ω f,toks:=t'}:=by
 have q:=PySem.IsL.update e f;rw[hf]at q;refine I.write (x:=l) (e:=l) (by rw[hH];exact trivial) (.inl rfl) (λb' u hb hu=>(ñ s.heap (ω f)<|Ne.symm hb).trans hu) ⟨_,q⟩ ?_;exact⟨hz,its',_,hv,q⟩
def Inv.lnew(I:Inv X Â σ H s)(hv:f8 ys ø)(hz:ys.length<=ß) :
  Inv X Â σ (upd H s.heap.objs.size<|.lst ys) {s with heap:=s.heap.push {cls:=.type "list",data:=.seq ø.toArray},toks:=t'} :=
 I.laid (λ_ _ q=>Ä _ q) (Ì _) ⟨hz,ø,0,hv,Ô _ rfl⟩
def Inv.fresh(I:Inv X Â σ H s):H s.heap.objs.size=eM:=I.hok.fresh (Ì _)
def Inv.lstM(I:Inv X Â σ H s)(hH:H l=eL (.lst xs)):xs.length<=ß/\∃(ø:List Ã) (n:Nat),f8 xs ø/\xs.length=ø.length/\s.heap.get? l=eL {cls:=.type "list",data:=.seq ø.toArray n}:=by let⟨z,ø,n,r,e⟩:=I.hok l _ hH;exact⟨z,ø,n,r,r.length,e⟩
def ND(h:n<=ß):Builtin.List.listTooLong n=eP:=by unfold Builtin.List.listTooLong;exact gu (by lia)
end
section
variable {X:Cx}
abbrev Ag:V->List V->Hp->VK->Prop:=λx vs H Q=>∃l xs y,x=.ref l/\vs=[y]/\H l=eL (.lst xs)/\xs.length<ß/\Q .non (upd H l<|.lst<|xs++[y])
def Be:MtM X "list.append" Ag:=by intro Â s σ H x vs v us Q I rx rv h;let⟨l,xs,y,rfl,rfl,hH,hz,q⟩:=h;cases rx;let⟨u,rfl,ru⟩:=rv.one;let⟨z,ø,n,r,hl,e⟩:=I.lstM hH;refine aA F.slot_list_append ⟨_,e,rfl⟩ F.entry_list_append (F.args_list_append_2 _ _) (PySem.list_append l ø.toArray n u<|by rw[Ê];lia) ⟨e,?_⟩;refine⟨.non,_,I.lset (its':=ø++[u]) hH e (by simp) (r.append<|.cons ru .nil) ?_,rfl,q⟩;rw[í,List.length_singleton];lia
abbrev UC:V->List V->Hp->VK->Prop:=λx vs H Q=>∃l b xs zs,x=.ref l/\vs=[.ref b]/\H l=eL (.lst xs)/\H b=eL (.lst zs)/\xs.length+zs.length<=ß/\Q .non (upd H l<|.lst<|xs++zs)
def Ar:MtM X "list.extend" UC:=by
 intro Â s σ H x vs v us Q I rx rv h;let⟨l,b,xs,zs,rfl,rfl,hH,hB,hz,q⟩:=h;cases rx;let⟨u,rfl,ru⟩:=rv.one;cases ru;let⟨z,ø,n,r,hl,e⟩:=I.lstM hH;let⟨z2,ϛ,n2,r2,hl2,e2⟩:=I.lstM hB;have hsz:ø.toArray.size+ϛ.toArray.size<=ß:=by rw[Ê,Ê];lia
 have hlong:¬ (!ø.toArray.isEmpty&&Builtin.List.listTooLong (ø.toArray.size+ϛ.toArray.size))=eN:=by rw[ND hsz,Bool.and_false];exact ú
 refine aA F.slot_list_extend ⟨_,e,rfl⟩ F.entry_list_extend (F.args_list_extend_2 _ _)
  (AutoSeq1.list_extend_list_list_0 l ø.toArray n b ϛ.toArray n2 hlong (by rw[Ê];lia)<|by lia) ⟨e,e2,?_⟩
 refine⟨.non,_,I.lset (its':=ø++ϛ) hH e (by simp) (r.append r2) ?_,rfl,q⟩;rw[í];lia
abbrev DC:V->List V->Hp->VK->Prop:=λx vs H Q=>∃l xs i k y,x=.ref l/\vs=[.int i]/\H l=eL (.lst xs)/\-(2 ^ 63)<=i/\i<2 ^ 63/\seqIndex? i xs.length=eL k/\xs[k]?=eL y/\Q y (upd H l<|.lst<|xs.eraseIdx k)
def Ec:MtM X "list.pop" DC:=by
 intro Â s σ H x vs v us Q I rx rv h;let⟨l,xs,i,k,y,rfl,rfl,hH,h1,h2,hk,hy,q⟩:=h;cases rx;let⟨u,rfl,ru⟩:=rv.one;let⟨t,rfl⟩:=ru;let⟨z,ø,n,r,hl,e⟩:=I.lstM hH;let⟨w,hw,aZ⟩:=r.get hy;refine aA F.slot_list_pop ⟨_,e,rfl⟩ F.entry_list_pop (F.args_list_pop_2 _ _)
  (MeetsSeq.list_pop_at l ø.toArray n i t k w (fitsIndex_both h1 h2) (by rw[Ê,<-hl];exact hk) (by rw[<-Ą];exact hw)<|by rw[Ê];lia) ⟨e,?_⟩
 refine⟨y,_,I.lset (its':=ø.eraseIdx k) hH e ?_ (r.eraseIdx k) ?_,aZ,q⟩
 .show ø.toArray.eraseIdxIfInBounds k=(ø.eraseIdx k).toArray;rw[List.eraseIdxIfInBounds_toArray]
 .have:=KY xs k;lia
abbrev Qa:R2:=λx y H Q=>∃l b xs zs,x=.ref l/\y=.ref b/\H l=eL (.lst xs)/\H b=eL (.lst zs)/\xs.length+zs.length<=ß/\∀p,H p=eM->Q (.ref p) (upd H p<|.lst<|xs++zs)
def Lz:OpR X (ŉ .Add) Qa:=by
 intro Â s σ H x y v u Q I rx ry h;let⟨l,b,xs,zs,rfl,rfl,hH,hB,hz,q⟩:=h;cases rx;cases ry;let⟨z,ø,n,r,hl,e⟩:=I.lstM hH;let⟨z2,ϛ,n2,r2,hl2,e2⟩:=I.lstM hB;refine PySem.P.add_list e e2 ?_ (by rw[Ê,Ê];lia);have ea:ø.toArray++ϛ.toArray=(ø++ϛ).toArray:=by simp
 rw[ea];exact⟨.ref _,_,I.lnew (t':=s.toks) (r.append r2) (by rw[í];lia),rfl,q _ I.fresh⟩
abbrev QD:R2:=λx y H Q=>∃l k xs,x=.ref l/\y=.int k/\H l=eL (.lst xs)/\-(2 ^ 63)<=k/\k<2 ^ 63/\xs.length*k.toNat<=ß/\
 ∀p,H p=eM->Q (.ref p) (upd H p<|.lst (Þ k.toNat xs).flatten)
def Gj{α:Type}(xs:List α)(k:Nat):(Þ k xs).flatten.length=k*xs.length:=by
 induction k with
 |zero=>simp
 |succ k ih=>rw[ċ,ń,í,ih,Nat.succ_mul,Nat.add_comm]
def op_rep:OpR X (ŉ .Mult) QD:=by
 intro Â s σ H x y v u Q I rx ry h;let⟨l,k,xs,rfl,rfl,hH,h1,h2,hz,q⟩:=h;cases rx;let⟨t,rfl⟩:=ry;let⟨z,ø,n,r,hl,e⟩:=I.lstM hH;have hlen:ø.toArray.size*k.toNat<=ß:=by rw[Ê,<-hl];exact hz
 have hcap:¬ ø.toArray.size*k.toNat > (2 ^ 63 - 1) / 8:=by
  have:(ß:Nat)<=(2 ^ 63 - 1) / 8:=by decide
  lia
 have hfit:¬ (!Builtin.List.listFitsIndex k)=eN:=by rw[fitsIndex_both h1 h2];exact ú
 have hlong:¬ Builtin.List.listTooLong (ø.toArray.size*k.toNat)=eN:=by rw[ND hlen];exact ú
 have hnew:dF (λx1 x2=>x1++x2) #[] (Þ (if ø.toArray.isEmpty=eN then 0 else k.toNat) ø.toArray)=(Þ k.toNat ø).flatten.toArray:=by
  have f0:∀m:Nat,dF (λx1 x2=>x1++x2) #[] (Þ m ø.toArray)=(Þ m ø).flatten.toArray:=λm=>by have:=KR ø m [];rw[List.nil_append]at this;exact this
  rw[f0];cases ø with
  |nil=>simp
  |cons a r'=>rw[gq<|by simp]
 refine wpAny_binaryOp_repeat_ref (T:="list") (U:="int") (by decide) ⟨_,e,rfl⟩ (λs'=>typeIs_int s' k t) noFill_list_mul F.fills_int_mul F.slot_int_rmul repeat_list F.slot_int_index.lookup
  (aA F.slot_int_rmul (typeIs_int s k t) F.entry_int_rmul (F.args_int_rmul_2 _ _) (int___rmul___int_list k t l ø.toArray n)
    ⟨e,rfl,⟨_,e,rfl⟩,aA F.slot_list_mul ⟨_,e,rfl⟩ F.entry_list_mul (F.args_list_mul_2 _ _) (AutoListH.list___mul___list_int_3 l ø.toArray n k t hfit hcap hlong) ⟨e,?_⟩⟩)
 rw[hnew];exact⟨.ref _,_,I.lnew (t':=s.toks) (r.rep k.toNat) (by rw[Gj,cr];exact hz),rfl,q _ I.fresh⟩
end
end L2
namespace Att
open PySem PySem.W PySem.Calls PyProof.Rows
variable {P:Params} {h:ĉ}
def WE:∀(ns:List Int) (vs:List Ã),WellAll P h vs (ns.map WData.int)->ă vs ns:=by
 intro ns;induction ns with
 |nil =>intro vs w;rw[Ţ]at w;cases w;exact .nil
 |cons n ns ih =>
  intro vs w;rw[Ñ]at w;cases w with
  |cons a b =>cases a;exact .cons _ _<|ih _ b
variable {l:OpenLaw} {n:Nat}
def AX(hn:l.most=eL n){args:List WData}{vals:List Ã}
  (hpre:l.row.toRowW.claim.pre args=eN) (hwl:WellAll P h vals args) :
  ∃a vs ns,vals=[Value.ref a]/\args=[WData.list<|ns.map WData.int]/\h.get? a=eL {cls:=.type "list",data:=.seq vs.toArray}/\ă vs ns/\ns.length<=n:=by
 have hsh:WShape.hasAll [] args [.list .int]=eN:=(pre_splitW hpre).1;have hc:l.pre.holds [] {args:=args}=eN:=(pre_splitW hpre).2;let⟨d,r,rfl,h1,h2⟩:=hasAllW_cons hsh;obtain rfl:=hasAllW_nil h2;let⟨xs,rfl,h3⟩:=hasW_list h1;let⟨ns,rfl⟩:=items_int h3;have hlen:ns.length<=n:=by
  unfold OpenLaw.pre at hc;have h4:(WTm.not<|.lt (.lit<|.int (n:Int))<|.len<|.arg 0).holds [] {args:=[.list<|ns.map .int]}=eN:=by have h4:=(holds_andW hc).1;rw[hn]at h4;exact h4
  have h5:=condW_of h4<|w_not<|w_lt w_lit<|w_len_list<|w_arg rfl;rw[Á]at h5;refine Nat.le_of_not_lt λq=>?_;have q':(n:Int)<((ns.length:Nat):Int):=by lia
  first
   |(rw[gx q']at h5;exact gA h5<|by decide)
   |(simp at h5;lia)
 cases hwl with
 |cons w1 w2 =>
  cases w2;cases w1 with
  |list ho hall=>exact⟨_,_,ns,rfl,rfl,ho,WE ns _ hall,hlen⟩
def By(l:OpenLaw)(args:List WData):l.row.toRowW.claim.post args (.bool eN) args=eN :=
 postW_of (r:=l.row.toRowW) (X:=(eN==eN))
  (show WShape.has [] (.bool eN) .bool=eN by first|rfl|decide|simp[WShape.has,WShape.arms,WShape.armsAll])
  (show(WTm.eq .res<|.lit<|.bool eN).value [] {args:=args,res:=eL<|.bool eN,after:=args}=eL (.bool<|eN==eN) from w_eq_bool (w_res rfl) w_lit) rfl
def attach_call{q:ã}{loose:List Str}{XP:(Str->Option Ã)->ĉ->Prop}{YP:Ā->ĉ->Prop}{d:DefRec}
  (hn:l.most=eL n) (hdf:d.params.defaults=[])
  (call:∀(w:Ā) (s₀ Ġ:Å) (mg mb:Str->Option Ã) (fa:Í) (o:Obj) (pm cd doc:Ã) (a:Í) (vs:List Ã) (ns:List Int),
    Ground q loose [] XP w s₀ mg mb Ġ.heap->YP w Ġ.heap->
    Ġ.heap.get? fa=eL o->o.data=.func (docDef d.name d.params d.body d.scope pm cd doc)->Ġ.heap.CodeRec cd d.name->mg d.name=eL (.ref fa)->
    Ġ.heap.get? a=eL {cls:=.type "list",data:=.seq vs.toArray}->ă vs ns->ns.length<=n->Ġ.gens=#[]->
    codeAny (à l.prog w) ai (.call (.ref fa) ⟨[.ref a],[]⟩) (λr s'=>r=.ok (.ret<|.bool eN)/\OldK Ġ.heap s'.heap/\s'.os=Ġ.os/\Ψ s'.gens) Ġ) :
  WalkO q loose XP YP l.row.toRowW d [] (λf vs=>PySem.call f vs):=by
 intro w s₀ Ġ mg mb G Y fa o pm cd doc dV kV ho hd bf hD hmg hg args vals as hpre hlay hrd hwl hlo;obtain rfl:dV=.none:=Dflts.none hD hdf;obtain rfl:kV=.none:=Dflts.noKw hD;let⟨a,vs,ns,rfl,rfl,dy,hints,hlen⟩:=AX hn hpre hwl;refine enter_call<|ζ (call w s₀ Ġ mg mb fa o pm cd doc a vs ns G Y ho (fd_plain hd) bf hmg dy hints hlen hg) λr s' hq=>?_;let⟨rfl,h2,h3,h4⟩:=hq;exact⟨.inl ⟨.bool eN,.bool eN,[],rfl,λ_=>rfl,.bool eN,By l _,λ_=>⟨List.Pairwise.nil,λ_ hm=>(nomatch hm)⟩⟩,h2,h3,h4⟩
end Att
namespace L2
open PySem PySem.Spec PyProof.Rows
def Wo:∀{vs:List Ã}{ns:List Int},ă vs ns->f8 (ns.map V.int) vs
 |_,_,.nil=>.nil
 |_,_,.cons n t h=>.cons ⟨t,rfl⟩<|Wo h
abbrev L9(H:Hp):Prop:=∀b,H b=eM\/∃o xs,H b=eL (.frz o<|.lst xs)
def Ca{P:ã}{w:Ā}{K:Frag}{mg mb:Str->Option Ã}{CX:CXT}{k:Nat}{fa a:Í}{fd:Ŋ}{x:Str}{sp:Sp}{Ġ:Å}{vs:List Ã}{ns:List Int}
  (KX:K.In Ġ.heap) (hns:Ġ.heap.Ns ć mg) (hb:Ġ.heap.Ns builtinsNs mb) (hbb:∀x:Str,x≠"__name__"->mb x=ũ x) (hlim:Ġ.heap.NoLimit) (hg:Ġ.gens=#[])
  (ha:Ġ.heap.get? a=eL {cls:=.type "list",data:=.seq vs.toArray}) (hi:ă vs ns) (hl:ns.length<=ß) (hr:fy k ai)
  (F:∀base:ĉ,K.In base->base.Ns ć mg->fz P w K mg base CX k fa fd [x] sp) (hbind:∀(s:Å) (u:Ã),BindsTo s fd ⟨[u],[]⟩ [(x,u)])
  (hsp:∀H:Hp,L9 H->fY K H a (ns.map V.int)->sp [.ref a] H (λv _=>v=.bl eN) λ_ _ _=>False)
  (hCX:∀H e s',CX [] H Ġ (λ_ _ _=>False) e s'->False) :
  codeAny (à P w) ai (.call (.ref fa) ⟨[.ref a],[]⟩) (λr s'=>r=.ok (.ret<|.bool eN)/\OldK Ġ.heap s'.heap/\s'.os=Ġ.os/\Ψ s'.gens) Ġ:=by
 have rv:=Wo hi;have fN:=hi.length;have core:∀H:Hp,L9 H->fY K H a (ns.map V.int)->HOk P w H Ġ.heap->(∀b,H b≠eM->b=a)->(H a≠eM->K.lookup a=eM)->
   codeAny (à P w) ai (.call (.ref fa) ⟨[.ref a],[]⟩) (λr s'=>r=.ok (.ret<|.bool eN)/\OldK Ġ.heap s'.heap/\s'.os=Ġ.os/\Ψ s'.gens) Ġ:=by
  intro H hO hS hok hA hK;have cX:∀{b:Í}{o:Obj},Ġ.heap.get? b=eL o->H b=eM->(M9 Ġ.heap H).get? b=eL o:=λe n=>DK e n;have noA:∀{b:Í}{o:Obj}{es:Array DictEntry}{ep:Nat},Ġ.heap.get? b=eL o->o.data=.dict es ep->H b=eM:=λ{b o es ep} e d=>by
   cases q:H b with
   |none=>rfl
   |some u =>have e':b=a:=hA b (by rw[q];simp);subst e';rw[ha]at e;cases e;have d':Data.seq vs.toArray _=Data.dict es ep:=d;cases d'
  have nsK:∀{b:Í}{m:Str->Option Ã},Ġ.heap.Ns b m->(M9 Ġ.heap H).Ns b m:=λ{b m} ⟨o,es,ep,e,d,r⟩=>⟨o,es,ep,cX e<|noA e d,d,r⟩
  have hKb:K.In<|M9 Ġ.heap H:=λb o e=>cX (KX b o e) (by
    cases q:H b with
    |none=>rfl
    |some u =>
      have e':b=a:=hA b (by rw[q];simp)
      subst e'
      rw[hK<|by rw[q];simp]at e;cases e)
  have hM:Mod K mg<|M9 Ġ.heap H:=⟨hKb,nsK hns,⟨mb,nsK hb,hbb⟩,let ⟨mc,h1,h2⟩:=hlim;⟨mc,nsK h1,h2⟩⟩
  have e0:Env0 P w K mg (M9 Ġ.heap H) ai [] Ġ H:=⟨rfl,hM,λb o e=>Fw e,Nat.le_of_eq<|AN _ _,trivial,λb hb=>gA (show b∈([]:List Í) from hb) (by simp),hok,.of_eq hg⟩
  refine ζ ((F _ hKb<|nsK hns).run ai [] Ġ H ⟨[.ref a],[]⟩ [.ref a] [.ref a] _ _ hr e0 (hbind Ġ<|.ref a) (.cons rfl .nil)<|hsp H hO hS) λr s' h=>?_;cases r with
  |error e=>exact(hCX H e s' h).elim
  |ok fl =>
   cases fl with
   |next=>exact ņ h
   |brk=>exact ņ h
   |cont=>exact ņ h
   |ret u =>
    let⟨v,H',os,bare,un,hok',r',q⟩:=h;have q':v=.bl eN:=q;subst q';obtain rfl:u=Value.bool eN:=r';refine⟨rfl,OldK.of_keep λb o e=>?_,os,bare⟩;cases q:H b with
    |none=>exact un.keep b o e q (by intro z;exact gA (show b∈([]:List Í) from z)<|by simp) (by simp)
    |some u =>
     rcases hO b with z|⟨ob,xs,z⟩
     .rw[q]at z;cases z
     .have z2:=un.frzs b ob _ z;let⟨e1,_⟩:=hok b _ z;let⟨e2,_⟩:=hok' b _ z2;rw[e]at e1;cases e1;exact e2
 cases hk:K.lookup a with
 |some o =>have e:=KX a o hk;rw[ha]at e;cases e;refine core (λ_=>eM) (λ_=>.inl rfl) (.inr ⟨_,vs.toArray,_,hk,rfl,rfl,rfl,by rw[Ê,fN];exact hl,⇑rv⟩) (λb u z=>by have z':(eM:Option HO)=eL u:=z;cases z') (λb z=>gA rfl z) λz=>gA rfl z
 |none =>
  refine core (λb=>if b=a then eL (.frz {cls:=.type "list",data:=.seq vs.toArray}<|.lst<|ns.map V.int)else eM) (λb=>?_) (.inl<|.inr ⟨{cls:=.type "list",data:=.seq vs.toArray},gp rfl⟩) (λb u z=>?_) (λb z=>?_) λ_=>hk
  .by_cases hb:b=a
   .exact .inr ⟨_,_,gp hb⟩
   .exact .inl<|gq hb
  .by_cases hb:b=a
   .have z':=(gp hb).symm.trans z;cases z';subst hb;exact⟨ha,by rw[Á];exact hl,vs,_,rv,ha⟩
   .have z':=(gq hb).symm.trans z;cases z'
  .by_cases hb:b=a
   .exact hb
   .exact gA (gq hb) z
abbrev YN(s:ľ):Arguments:=match s with
 |.FunctionDef _ a _ _ _ _ _ _ _ _=>a
 |_=>{posonlyargs:=[],args:=[],vararg:=eM,kwonlyargs:=[],kw_defaults:=[],kwarg:=eM,defaults:=[]}
abbrev ZP(s:ľ):List ľ:=match s with
 |.FunctionDef _ _ b _ _ _ _ _ _ _=>b
 |_=>[]
abbrev Zu(s:ľ):ν:=match s with
 |.FunctionDef _ _ _ _ _ _ sc _ _ _=>sc
 |_=>{kind:=.function,names:=[],isGenerator:=eP,isCoroutine:=eP}
structure Fun(K:Frag)(x qual:Str)(st:ľ)(f:Í)(fd:Ŋ):Prop where
 ex:∃(oc:Ã) (od:Option Í) (kV doc pm:Ã) (an:Option Í) (ϧ ct:Ã) (osl:Array<|Option Ã),
  fd=PySem.W.fnOf x qual (YN st) (ZP st) (Zu st) .none kV doc pm an ϧ ct/\K.lookup f=eL ⟨oc,od,.func fd,osl⟩/\PySem.W.codeIn K ϧ qual=eN
 kp:PySem.W.keepIn K (.ref f)=eN
section
variable {P:ã}{w:Ā}{K:Frag}{mg:Str->Option Ã}{base:ĉ}
variable {x:Str} {qual:Str} {st:ľ} {f:Í}
def Fun.binds{fd:Ŋ}{ps:List Str}(F:Fun K x qual st f fd)
  (h:∀(kV doc pm:Ã) (an:Option Í) (ϧ ct:Ã) (us:List Ã),us.length=ps.length->bindArgs (PySem.W.fnOf x qual (YN st) (ZP st) (Zu st) .none kV doc pm an ϧ ct) ⟨us,[]⟩=pure (ps.zip us)):Binds K fd ps []:=by
 let⟨oc,od,kV,doc,pm,an,ϧ,ct,osl,rfl,lk,bf⟩:=F.ex;exact .all<|h kV doc pm an ϧ ct
def Db{oc:Ã}{od an:Option Í}{osl:Array (Option Ã)}{kV doc pm ϧ ct:Ã}(l:K.lookup f=eL ⟨oc,od,.func<|PySem.W.fnOf x qual (YN st) (ZP st) (Zu st) .none kV doc pm an ϧ ct,osl⟩)
  (c:PySem.W.codeIn K ϧ qual=eN) (k:PySem.W.keepIn K (.ref f)=eN):Fun K x qual st f<|PySem.W.fnOf x qual (YN st) (ZP st) (Zu st) .none kV doc pm an ϧ ct:=⟨⟨oc,od,kV,doc,pm,an,ϧ,ct,osl,rfl,l,c⟩,k⟩
end
abbrev Same(H H':Hp):Prop:=∀b o,H b=eL o->H' b=eL o
def Same.refl(H:Hp):Same H H:=λ_ _ h=>h
def Same.trans{H H1 H2:Hp}(a:Same H H1)(b:Same H1 H2):Same H H2:=λc o h=>b c o (a c o h)
end L2
set_option maxHeartbeats 4000000
namespace L2
open PySem PySem.Spec PyProof.Rows
variable {w:Ā}
def HOk.track{P:ã}{H:Hp}{h:ĉ}{a:Í}{o:HO}(x:HOk P w H h)(hn:H a=eM)(new:eZ P w (upd H a o) h a o):HOk P w (upd H a o) h:=λb u e=>by
 by_cases hb:b=a
 .subst hb;rw[eR]at e;cases e;exact new
 .rw[eQ hb]at e;exact(x b u e).stay (λc v _ q=>q) (λc q=>by rw[eQ<|Zj q hn];exact q) λc xs q=>by rw[eQ<|Zj q hn];exact q
abbrev Zw(X:Cx)(scope:ν)(N':List Str)(cl:List<|Str×Í)(C:Í)(s:Å)(H:Hp)(ex:List Í):Cx where
 prog:=X.prog
 w:=X.w
 K:=X.K
 mg:=X.mg
 base:=X.base
 A:=X.A
 N:=N'
 s₀:=s
 H₀:=H
 env:=compEnvC scope cl C X.env
 outer:=X.stack
 stack:=X.stack
 ex:=ex
 fn:=λ_=>eP
 calm:=X.calm
 pn:=[]
 xe:=λ_ _=>False
abbrev Z6(X:Cx)(x:List Str)(ü:List Nat):List Str:=x++ü.map λj=>X.N.getD j Str.empty
abbrev OL(σ:St)(ü:List Nat):St:=ü.map λj=>(σ[j]?).getD eM
structure BlkOk(X:Cx)(scope:ν)(x:List Str)(ü:List Nat):Prop where
 kind:scope.kind=.function
 nocell:∀y∈scope.names,y.2≠.cell
 locs:∀y∈scope.names,y.2=.local->scope.names.lookup y.1=eL .local
 own:∀y∈x,scope.names.lookup y=eL .local
 frees:∀y∈scope.names,y.2=.free->X.env.kindOf y.1=eL .cell
 cap:∀j∈ü,(X.N[j]?).isSome=eN/\X.env.kindOf (X.N.getD j Str.empty)=eL .cell/\scope.names.lookup (X.N.getD j Str.empty)=eL .free
 nd:(Z6 X x ü).Nodup
def YL{env:Env}:∀(names:List<|Str×ϙ) (Į:List<|Str×Í),(∀y∈names,y.2=.free->∃c,env.cells.lookup y.1=eL c)->(∀x c,Į.lookup x=eL c->env.cells.lookup x=eL c)->
  ∃cl,(forIn names Į λ(p:Str×ϙ) (r:List<|Str×Í)=>(do
    if(p.2 == Ĩ)=eN then do let a<-cellOf env p.1;pure (ĺ<|(p.1,a)::r)else pure (ĺ r):Sem _))=pure cl/\
   (∀x c,cl.lookup x=eL c->env.cells.lookup x=eL c)/\(∀x c,Į.lookup x=eL c->∃c',cl.lookup x=eL c')/\∀x,(x,Ĩ)∈names->∃c,cl.lookup x=eL c
 |[],Į,_,ha=>⟨Į,rfl,ha,λx c h=>⟨c,h⟩,λx h=>nomatch h⟩
 |(n,k)::r,Į,hn,ha=>by
  by_cases hk:k=.free
  .subst hk;let⟨c,hc⟩:=hn (n,.free) ô rfl;have ha':∀x d,(((n,c)::Į:List<|Str×Í)).lookup x=eL d->env.cells.lookup x=eL d:=λx d h=>by
    rw[ï]at h;cases e:x==n with
    |true =>
     rw[e]at h;have:x=n:=⇑e
     subst this;cases h;exact hc
    |false=>rw[e]at h;exact ha x d h
   let⟨cl,h1,h2,h3,h4⟩:=YL r ((n,c)::Į) (λy hy=>hn y<|á _ hy) ha';refine⟨cl,?_,h2,λx d h=>?_,λx hx=>?_⟩
   .rw[List.forIn_cons];have e:cellOf env n=pure c:=by unfold cellOf;rw[hc]
    simp only[beq_self_eq_true,if_true,e];exact h1
   .by_cases hx:x=n
    .subst hx;exact h3 x c (by rw[ï];simp)
    .exact h3 x d (by rw[ï,beq_false_of_ne hx];exact h)
   .rcases È.mp hx with e|hx
    .cases e;exact h3 _ c (by rw[ï];simp)
    .exact h4 x hx
  .have hb:(k==Ĩ)=eP:=⇑hk
   let⟨cl,h1,h2,h3,h4⟩:=YL r Į (λy hy=>hn y<|á _ hy) ha;refine⟨cl,?_,h2,h3,λx hx=>?_⟩
   .rw[List.forIn_cons];simp only[hb,ī,if_false];exact h1
   .rcases È.mp hx with e|hx
    .cases e;exact gA rfl hk
    .exact h4 x hx
def Z0{env:Env}:∀{names:List (Str×ϙ)}{x:Str}{k:ϙ},(names.map λ(n,k)=>if(k==Ĩ&&env.scope.kind == .function&&env.kindOf n==eL .cell)then(n,ee)else(n,k)).lookup x=eL k->
  (∃k0,(x,k0)∈names/\names.lookup x=eL k0/\(k0=k\/(k0=.free/\k=.cell)))
 |[],_,_,h=>by simp at h
 |(n,k0)::r,x,k,h=>by
  rw[Ñ,ï]at h;cases hx:x==n with
  |true =>
   have e:x=n:=⇑hx
   subst e;refine⟨k0,ô,by rw[ï];simp,?_⟩;by_cases hc:(k0==Ĩ&&env.scope.kind == .function&&env.kindOf x==eL .cell)=eN
   .rw[gp hc]at h;simp at h;have:k0=.free:=by
     simp only[bAq]at hc;simpa using hc.1.1
    exact .inr ⟨this,h.symm⟩
   .rw[gq hc]at h;simp at h;exact .inl h
  |false =>
   have h':(r.map λ(n,k)=>if(k==Ĩ&&env.scope.kind == .function&&env.kindOf n==eL .cell)then(n,ee)else(n,k)).lookup x=eL k:=by
    by_cases hc:(k0==Ĩ&&env.scope.kind == .function&&env.kindOf n==eL .cell)=eN
    .rw[gp hc]at h;simpa[hx]using h
    .rw[gq hc]at h;simpa[hx]using h
   let⟨k1,a,b,c⟩:=Z0 h';exact⟨k1,á _ a,by rw[ï,hx];exact b,c⟩
abbrev PIfs(X:Cx)(bg:List Expr)(t:TT):Prop :=
 ∀(Â:List<|Í×Obj) (s:Å) (σ:St) (H:Hp) (Q:Bool->Hp->Prop),Inv X Â σ H s->t σ H Q->
  wpAny (à X.prog X.w) X.A (forIn bg eN λc r=>if r=eN then do let ok<-cj c X.env (eval c X.env);pure (ĺ ok)else pure (ĺ r)) (TP X Â σ Q) X.xe s
abbrev R3:TT:=λ_ H Q=>Q eN H
variable {X:Cx}
def pifs_nil:PIfs X [] R3:=λ_ _ _ H _ I h=>wpAny_tests_nil ⟨H,I,h⟩
def Wc{c:Expr}{t:TT}(h:PT X c t):PIfs X [c] t:=λÂ s σ H Q I hq=>wpAny_tests_one (h Â s σ H Q I hq)
abbrev Hf(J:It)(tg:TG)(tc:TT)(te:TE)(Fin:List V->Hp->Prop)(W:Nat->Nat->List V->St->Hp->Prop):Prop :=
 ∀i m ys τ H,W i m ys τ H->ys.length<ß/\((J.stop i H/\Fin ys H)\/(J.go i H/\∃N:List V->St->Hp->Prop,(∀ys' τ' H',N ys' τ' H'->∃m',m'<m/\W (i+1) m' ys' τ' H')/\∀x H',J.yld i H x H'->
   tg x τ H' λτ' H1=>tc τ' H1 λb H2=>if b=eN then te τ' H2 λy H3=>N (ys++[y]) τ' H3 else N ys τ' H2))
abbrev Cp(wi:TI)(k:Nat)(ü:List Nat)(tg:TG)(tc:TT)(te:TE):TE:=λσ H Q=>wi σ H λJ H1=>∃W:Nat->Nat->List V->St->Hp->Prop,(∃m,W 0 m [] (Þ k eM++OL σ ü) H1)/\
 Hf J tg tc te (λys H=>∀p,H p=eM->Q (.ref p) (upd H p<|.lst ys)) W
section
variable {X:Cx}{Â:List (Í×Obj)}{σ:St}{H2:Hp}{s2:Å}
variable {scope:ν} {x:List Str} {ü:List Nat} {fp:List Í}
def BD{cl:List (Str×Í)}{s3:Å}{D:Í}{h1:ĉ}{tk:Nat}{m:Str->Option Ã}(B:BlkOk X scope x ü)(I2:Inv X Â σ H2 s2)(f2:∀b∈fp,Wu X Â H2 b)
  (c1:∀x c,cl.lookup x=eL c->X.env.cells.lookup x=eL c) (c2:∀x,(x,Ĩ)∈scope.names->∃c,cl.lookup x=eL c)
  (I3:Inv X Â σ H2 s3) (hD:D=s2.heap.objs.size) (h3:s3.heap.objs.size=D+1) (Ϛ:∀b o,s3.heap.get? b=eL o->h1.get? b=eL o) (hfp:∀b∈fp,b<s2.heap.objs.size)
  (hn:h1.Ns s3.heap.objs.size m) :
  Inv (Zw X scope (Z6 X x ü) cl s3.heap.objs.size s3 H2<|D::fp) [] (Þ x.length eM++OL σ ü) H2 {s3 with heap:=h1,toks:=tk}:=by
 have neD:∀b o,s2.heap.get? b=eL o->b≠D:=λb o e=>by rw[hD];exact æ<|Ú e
 have exlt:∀b∈D::fp,b<s3.heap.objs.size:=λb hb=>by
  rw[h3];rcases È.mp hb with e|hb
  .rw[e];exact Ě _
  .exact ĳ (by rw[hD];exact hfp b hb)
 have keeps:=I3.hok.kept (h':=h1) Ϛ;refine⟨⟨I2.mod,B.kind,I2.ok.glob,I2.ok.blt,Ì _,λy z c e1 e2=>?_,λy hy=>?_,λy c e _=>(by cases e),λhc=>I2.ok.hd hc,I2.ok.frames,.inl rfl,λb hb=>?_,λb o e=>?_,?_,λb o e hb=>?_,λb hb hf=>?_,I3.stack,λb hb=>I2.stkFree b hb⟩,
   rfl,I3.bare,Un.kept Ϛ,⟨m,hn,λi y v e1 e2 e3=>?_⟩,λy c e=>?_,I3.hok.fresh<|Ì _,λy c e=>I3.freeC y c<|c1 y c e,λp hp=>(nomatch hp),keeps,?_⟩
 .exact I2.ok.inj y z c (c1 y c e1)<|c1 z c e2
 .have hy:(bX scope X.env).names.lookup y=eL .cell\/(bX scope X.env).names.lookup y=eL .free:=hy;rcases hy with hy|hy
  .obtain⟨k0,a,b,c⟩:=Z0 hy;rcases c with c|⟨c,_⟩
   .subst c;exact gA rfl<|B.nocell _ a
   .subst c;exact c2 y a
  .obtain⟨k0,a,b,c⟩:=Z0 hy;rcases c with c|⟨_,c⟩
   .subst c;exact c2 y a
   .cases c
 .refine⟨æ<|exlt b hb,λy c e z=>?_⟩;have e':=c1 y c e;rcases È.mp hb with q|q
  .obtain⟨v,o,ho,_⟩:=I2.cell y c e';exact neD c o ho<|z.trans q
  .exact(f2 b q).2.2.2.2.1 y c e' z
 .exact I3.bs b o e
 .exact Ý I2.ok.bsz (Ý I2.sz<|show s2.heap.objs.size<=s3.heap.objs.size by rw[h3,hD];exact Ň _)
 .rcases È.mp hb with q|q
  .exact neD b o (I2.bk b o e) q
  .rcases (f2 b q).2.2.2.1 with z|z
   .exact I2.ok.noex b o e z
   .exact gA (ä (Ú (I2.ok.bs b o e).1) z)<|ġ _
 .have hf:b∈frs X.stack:=hf;rcases È.mp (I2.stkSub b hf)with z|z
  .rcases È.mp hb with q|q
   .exact gA I2.lt (by rw[<-z,q,hD];exact ġ _)
   .exact(f2 b q).2.1 z
  .rcases È.mp hb with q|q
   .exact I2.nofs (a:=b) (by rw[q,hD];exact Ì _) z
   .exact(f2 b q).2.2.1 z
 .by_cases hik:i<x.length
  .rw[ó (by rw[ù];exact hik),ō,gp hik]at e2;cases e2
  .have e1:(x++ü.map λj=>X.N.getD j Str.empty)[i]?=eL y:=e1;rw[ď<|by lia]at e1;rw[ď (by rw[ù];lia),ù]at e2;generalize i - x.length=j at e1 e2;have e2:(ü.map λj=>(σ[j]?).getD eM)[j]?=eL (eL v):=e2;rw[Ø]at e1 e2;cases hj:ü[j]? with
   |none=>rw[hj]at e1;cases e1
   |some q =>
    rw[hj]at e1 e2;have e1':X.N.getD q Str.empty=y:=è e1;have e2':(σ[q]?).getD eM=eL v:=è e2;let⟨hs,hk,hsc⟩:=B.cap q<|é hj;let⟨y',hy'⟩:=ç.mp hs;have ey:y'=y:=by rw[<-e1',Đ,hy'];rfl
    subst ey;have es:σ[q]?=eL (eL v):=by
     cases hq:σ[q]? with
     |none=>rw[hq]at e2';cases e2'
     |some o=>rw[hq]at e2';exact congrArg eL e2'
    rw[e1']at hk hsc;let⟨m2,_,hl⟩:=I3.loc;have bN:X.env.scope.names.lookup y'=eL .cell:=hk;let⟨u,r,l⟩:=hl q y' v hy' es<|.inr<|.inl bN;refine⟨u,r,.inr ⟨?_,?_⟩⟩
    .rcases e3 with e3|e3|e3
     .obtain⟨k0,a,b,c⟩:=Z0 (show(bX scope X.env).names.lookup y'=eL .local from e3);rw[hsc]at b;cases b;rcases c with c|⟨_,c⟩<;>cases c
     .exact .inl e3
     .exact .inr e3
    .rcases l with⟨l,_⟩|⟨_,c,hc,z⟩
     .rw[hk]at l;cases l
     .obtain⟨c',hc'⟩:=c2 y'<|PySem.mem_of_lookup hsc;have ec:c'=c:=è<|(c1 y' c' hc').symm.trans hc;subst ec;let⟨o,ho,hd⟩:=z;exact⟨c',hc',o,Ϛ c' o ho,hd⟩
 .obtain⟨v,o,ho,hd⟩:=I3.cell y c<|c1 y c e;exact⟨v,o,Ϛ c o ho,hd⟩
 .show _=(Z6 X x ü).length;unfold Z6 OL;rw[í,í,Á,Á,ù]
def XC{env:Env}(h:∀y∈scope.names,y.2=.free->∃c,env.cells.lookup y.1=eL c) :
  ∃cl,closureFor scope env=pure cl/\(∀x c,cl.lookup x=eL c->env.cells.lookup x=eL c)/\∀x,(x,Ĩ)∈scope.names->∃c,cl.lookup x=eL c:=by
 let⟨cl,h1,h2,_,h4⟩:=YL (env:=env) scope.names [] h λx c e=>nomatch e;refine⟨cl,?_,h2,h4⟩;simp only[closureFor];have e:(forIn scope.names ([]:List<|Str×Í) λx r =>
     (match x with
     | (name,kind)=>if(kind == Ĩ)=eN then do let a<-cellOf env name;pure (ĺ<|(name,a)::r)else pure (ĺ r):Sem<|ForInStep<|List<|Str×Í))=pure cl:=h1
 first
  |(rw[e];rfl)
  |(refine Eq.trans (congrArg (· >>= pure) ?_) (rfl:(pure cl >>= pure:Sem _)=pure cl);exact e)
variable {bO:Expr} {Ų:Expr} {bg:List Expr} {ë:Pos}
def Nh{prog:ã}{A:Ċ}{R:bp->Å->Prop}{s:Å}{ae:Expr}{it Į:Ã}{env:Env}(I:Nat->Å->Prop)
  (turn:∀n s,I n s->wpAny (à prog w) A (ϐ it) (λr Ġ=>match r with
    |none=>R (.ok .next) Ġ
    | some v=>wpAny (à prog w) A (Ϩ ae it v) (λ_ Ġ=>wpAny (à prog w) A (ξ ae env v) (λ_ aY =>
        wpAny (à prog w) A (forIn bg eN λc r=>if r=eN then do let ok<-cj c env (eval c env);pure (ĺ ok)else pure (ĺ r)) (λok af =>
          if ok=eN then wpAny (à prog w) A (eval bO env) (λx s₄ =>
            wpAny (à prog w) A (call (.builtin "list.append") [Į,x]) (λ_ s₅=>∃m,m<n/\I m s₅) (λ_ _=>False) s₄) (λ_ _=>False) af
          else ∃m,m<n/\I m af) (λ_ _=>False) aY) (λ_ _=>False) Ġ) (λ_ _=>False) Ġ) (λ_ _=>False) s)
  (n:Nat) (h:I n s) :
  codeAny (à prog w) A (.compLoop (.ListComp bO [⟨ae,Ų,bg,0⟩] scope ë) 0 it Į env) R s:=by
 refine codeAny_loop rfl I (λn s hI=>?_) n h;show wpAny _ A ((compTurn (.ListComp bO [⟨ae,Ų,bg,0⟩] scope ë) 0 it Į env).onRaise λx=>do bu x env;theTreesLotGoes x) _ _ s;refine wpAny_noted ?_;rw[compTurn_list];refine À<|de<|À<|į (turn n s hI) (λr Ġ h₁=>?_) λ_ _ h'=>h'.elim;cases r with
 |none=>exact Æ h₁
 |some v =>
  refine À<|į h₁ (λ_ Ġ h₁=>?_) λ_ _ h'=>h'.elim;refine À<|į h₁ (λ_ aY h₂=>À<|į h₂ (λok af h₃=>?_) λ_ _ h'=>h'.elim) λ_ _ h'=>h'.elim;cases ok with
  |false=>exact Æ ⟨rfl,h₃⟩
  |true =>exact À<|À<|į h₃ (λx s₄ h₄=>À<|į h₄ (λ_ s₅ h₅=>Æ<|Æ ⟨rfl,h₅⟩) λ_ _ h'=>h'.elim) λ_ _ h'=>h'.elim
variable {bC:Expr} {tg:TG} {tc:TT} {te:TE}
def K5{cl:List (Str×Í)}{it:Í}{tn:Nat->ĉ->Prop}{J:It}{Fin:List V->Hp->Prop}{W:Nat->Nat->List V->St->Hp->Prop}{E:Ã->Å->Prop}
  {RR:Ã->Í->bp->Å->Prop}{m0:Nat}(hc:X.calm=eN) (B:BlkOk X scope x ü) (I2:Inv X Â σ H2 s2) (T:Turn X.prog X.w X.K bC J fp it tn) (st2:tn 0 s2.heap) (f2:∀b∈fp,Wu X Â H2 b)
  (c1:∀x c,cl.lookup x=eL c->X.env.cells.lookup x=eL c) (c2:∀x,(x,Ĩ)∈scope.names->∃c,cl.lookup x=eL c)
  (hI:∀cl C s H ex,PIfs (Zw X scope (Z6 X x ü) cl C s H ex) bg tc) (hE:∀cl C s H ex,PE (Zw X scope (Z6 X x ü) cl C s H ex) bO te)
  (hG:∀cl C s H ex,PG (Zw X scope (Z6 X x ü) cl C s H ex) bC tg) (w0:W 0 m0 [] (Þ x.length eM++OL σ ü) H2) (cw:Hf J tg tc te Fin W)
  (hRR:∀D C s' H' ys m,H' D=eM->s'.heap.Ns C m->Wu X Â (upd H' D<|.lst ys) C->Inv X Â σ (upd H' D<|.lst ys) s'->Fin ys H'->RR (.ref D) C (.ok .next) s') :
  wpAny (à X.prog X.w) X.A (newList []) (λĮ af=>wpAny (à X.prog X.w) X.A (newFunctionEnv scope X.env.globals cl [] X.env.qual eM .none<|eL X.env) (λcenv s₄ =>
    codeAny (à X.prog X.w) X.A (.compStart (.ListComp bO [⟨bC,Ų,bg,0⟩] scope ë) 0 (.ref it) Į { cenv with scope:=bX scope X.env }) (RR Į cenv.locals) s₄) E af) E s2:=by
 refine Ĉ (wpAny_newFunctionEnv B.nocell (by intro y hy;simp at hy) (λh₁ cK cL=>?_) B.kind);dsimp only at cK cL ⊢;have hfp:∀b∈fp,b<s2.heap.objs.size:=λb hb=>by let⟨o,e,_⟩:=T.obj _ _ st2 b hb;exact Ú e
 have I3:Inv X Â σ H2 {s2 with heap:=s2.heap.push {cls:=.type "list",dict:=eM,data:=.seq ([]:List Ã).toArray}}:=I2.kept (t':=s2.toks) λb o e=>Ä _ e;have h3:(s2.heap.push {cls:=.type "list",dict:=eM,data:=.seq ([]:List Ã).toArray}).objs.size=s2.heap.objs.size+1:=Ŷ ..;have dy:(s2.heap.push {cls:=.type "list",dict:=eM,data:=.seq ([]:List Ã).toArray}).get? s2.heap.objs.size=eL {cls:=.type "list",dict:=eM,data:=.seq ([]:List Ã).toArray}:=Ô _ rfl;have cM:∀b o,s2.heap.get? b=eL o->(s2.heap.push {cls:=.type "list",dict:=eM,data:=.seq ([]:List Ã).toArray}).get? b=eL o:=λb o e=>Ä _ e;generalize hH3:s2.heap.push {cls:=.type "list",dict:=eM,data:=.seq ([]:List Ã).toArray}=h3' at cK cL I3 h3 dy cM ⊢;have Ϛ:∀b o,h3'.get? b=eL o->h₁.get? b=eL o:=λb o e=>cL.extBut b o (æ<|Ú e)<|Ä _ e;have hDC:s2.heap.objs.size≠h3'.objs.size:=by rw[h3];exact æ<|Ě _
 have IB:=BD (cl:=cl) (fp:=fp) (s3:={s2 with heap:=h3'}) (D:=s2.heap.objs.size) (h1:=h₁) (tk:=s2.toks+([]:List<|Str×Ã).length) B I2 f2 c1 c2 I3 rfl h3 Ϛ hfp cK;generalize hY:Zw X scope (Z6 X x ü) cl h3'.objs.size {s2 with heap:=h3'} H2 (s2.heap.objs.size::fp)=Y at IB;have yP:Y.prog=X.prog:=by rw[<-hY];rfl
 have yw:Y.w=X.w:=by rw[<-hY];rfl
 have yK:Y.K=X.K:=by rw[<-hY];rfl
 have yA:Y.A=X.A:=by rw[<-hY];rfl
 have yc:Y.calm=eN:=by rw[<-hY];exact hc
 have yenv:Y.env=compEnvC scope cl h3'.objs.size X.env:=by rw[<-hY];rfl
 have hIY:PIfs Y bg tc:=by rw[<-hY];exact hI _ _ _ _ _
 have hEY:PE Y bO te:=by rw[<-hY];exact hE _ _ _ _ _
 have yxe:Y.xe=λ_ _=>False:=by rw[<-hY];rfl
 have ypn:Y.pn=[]:=by rw[<-hY];rfl
 have hgN:PG Y bC tg:=by rw[<-hY];exact hG _ _ _ _ _
 have fD:∀{H':Hp},H' s2.heap.objs.size=eM->Wu Y [] H' s2.heap.objs.size:=λ{H'} hn=>by
  refine⟨hn,?_,?_,?_,?_,λp hp=>?_⟩
  .rw[yenv];exact hDC
  .exact IB.ok.exfs _ (by rw[<-hY];exact ô)
  .exact .inl (by rw[<-hY];exact ô)
  .exact λy c e=>(IB.ok.exf _<|by rw[<-hY];exact ô).2 y c e
  .rw[ypn]at hp;exact nomatch hp
 have fF:∀{H':Hp},(∀b∈fp,H' b=eM)->∀b∈fp,Wu Y [] H' b:=λ{H'} hn b hb=>by
  have hm:b∈Y.ex:=by rw[<-hY];exact á _ hb
  refine⟨hn b hb,?_,IB.ok.exfs b hm,.inl hm,λy c e=>(IB.ok.exf b hm).2 y c e,λp hp=>?_⟩
  .exact(IB.ok.exf b hm).1
  .rw[ypn]at hp;exact nomatch hp
 have acc0:h₁.PlainList s2.heap.objs.size ([]:List Ã).toArray:=⟨0,by exact Ϛ _ _ dy⟩
 have loop:∀af:Å,af={s2 with heap:=h₁,toks:=s2.toks+([]:List<|Str×Ã).length}->
   codeAny (à X.prog X.w) X.A (.compLoop (.ListComp bO [⟨bC,Ų,bg,0⟩] scope ë) 0 (.ref it) (.ref s2.heap.objs.size)<|compEnvC scope cl h3'.objs.size X.env) (RR (.ref s2.heap.objs.size) h3'.objs.size) af:=by
  rintro af rfl;refine Nh (λn s'=>∃i ys ø τ H',Inv Y [] τ H' s'/\tn i s'.heap/\(∀b∈fp,H' b=eM)/\H' s2.heap.objs.size=eM/\f8 ys ø/\s'.heap.PlainList s2.heap.objs.size ø.toArray/\W i n ys τ H') ?_ m0
   ⟨0,[],[],_,H2,IB,T.keep _ _ _ st2 λb hb o e=>Ϛ _ _<|cM _ _ e,λb hb=>(f2 b hb).1,I2.fresh,.nil,acc0,w0⟩
  rintro n s3 ⟨i,ys,ø,τ,H3,I3',st3,fr3,frD,rv,pl,w3⟩;have cv:∀{α:Type}{f:Sem α}{Q Q':α->Å->Prop}{s:Å},wpAny (à Y.prog Y.w) Y.A f Q Y.xe s->(∀a s',Q a s'->Q' a s')->wpAny (à X.prog X.w) X.A f Q' (λ_ _=>False) s:=λ{α f Q Q' s} h hq=>by rw[yP,yw,yA,yxe]at h;exact į h hq λ_ _ e=>e
  have cvX:∀{α:Type}{f:Sem α}{Q Q':α->Å->Prop}{s:Å},wpAny (à X.prog X.w) Y.A f Q (λ_ _=>False) s->(∀a s',Q a s'->Q' a s')->wpAny (à X.prog X.w) X.A f Q' (λ_ _=>False) s:=λ{α f Q Q' s} h hq=>by rw[yA]at h;exact į h hq λ_ _ e=>e
  let⟨nD,hD3⟩:=id pl;have plD:∀b∈[s2.heap.objs.size],∃o,s3.heap.get? b=eL o/\∀v,o.data≠.cell v:=λb hb=>by
   have e:b=s2.heap.objs.size:=⇑hb
   subst e;exact⟨_,hD3,λv z=>by cases z⟩
  have IP:=I3'.pinned (fp:=[s2.heap.objs.size]) (λb hb=>by
    have e:b=s2.heap.objs.size:=⇑hb
    subst e
    exact fD frD) plD
  have memD:=ZT (fp:=[s2.heap.objs.size]) (Ó.mpr rfl) hD3;have fF':∀b∈fp,Wu Y ([]++XR [s2.heap.objs.size] s3.heap) H3 b:=λb hb=>by
   let⟨q1,q2,q3,q4,q5,q6⟩:=fF fr3 b hb;refine⟨q1,q2,q3,q4,q5,λp hp=>?_⟩;rw[ypn]at hp;let⟨cY,_⟩:=KG (show p∈XR [s2.heap.objs.size] s3.heap by simpa using hp);have e:p.1=s2.heap.objs.size:=⇑cY
   rw[e];exact(æ<|hfp b hb).symm
  obtain⟨hys,h|⟨go,N,hN,step⟩⟩:=cw i n ys τ H3 w3
  .obtain⟨stop,fin⟩:=h;refine cvX (T.done Y yP yw yK yc i _ s3 _ H3 _ IP fF' st3 stop) λr s4 ⟨hr,I4⟩=>?_;subst hr;let⟨m4,hm4,_⟩:=I4.loc;rw[yenv]at hm4;have aJ:Un (frs X.stack) (s2.heap.objs.size::fp) H2 H3 h3' s4.heap:=by
    have:=I4.base;rw[<-hY]at this;exact this
   have hok4:HOk X.prog X.w H3 s4.heap:=by have:=I4.hok;rw[yP,yw]at this;exact this
   have pl4:=(I4.pin _<|Ç _<|Ç _ memD).1;have nC:H3 h3'.objs.size=eM:=by have:=I4.free;rw[yenv]at this;exact this
   have hlen:ys.length<=ß:=π hys;have osEq:s4.os=s2.os:=by have:=I4.os;rw[<-hY]at this;exact this
   have neD:∀b o,s2.heap.get? b=eL o->b≠s2.heap.objs.size:=λb o e=>æ<|Ú e;have nin:∀b o,s2.heap.get? b=eL o->b∉fp->b∉s2.heap.objs.size::fp:=λb o e hb z=>(È.mp z).elim (neD b o e) hb;have hokN:HOk X.prog X.w (upd H3 s2.heap.objs.size<|.lst ys) s4.heap:=hok4.track frD ⟨hlen,ø,nD,rv,pl4⟩;have U:Un (frs X.stack) fp H2 (upd H3 s2.heap.objs.size<|.lst ys) s2.heap s4.heap:=by
    refine⟨λb o e hn hf hx=>aJ.keep b o (cM b o e) hn hf<|nin b o e hx,λb o e hn hf hx=>aJ.slot b o (cM b o e) hn hf<|nin b o e hx,λb o e hn hx=>?_,λb o e hx=>aJ.there b o (cM b o e)<|nin b o e hx,λb xs e=>?_,λb o xs e=>?_,λb ps e=>?_⟩
    .rw[eQ<|neD b o e];exact aJ.free b o (cM b o e) hn<|nin b o e hx
    .have q:=aJ.tups b xs e;rw[eQ<|Zj q frD];exact q
    .have q:=aJ.frzs b o xs e;rw[eQ<|Zj q frD];exact q
    .obtain⟨more,q⟩:=aJ.tbls b ps e;exact⟨more,by rw[eQ<|Zj q frD];exact q⟩
   have I5:Inv X Â σ (upd H3 s2.heap.objs.size<|.lst ys) s4:=I2.call' (ch:=fp) osEq U hokN I4.bare λb hb=>by let⟨_,q2,_,q4,q5,q6⟩:=f2 b hb;exact⟨q4,q2,q5,q6⟩
   exact hRR _ _ _ _ _ m4 frD hm4 (I2.fpOk (π<|by rw[h3];exact Ě _)<|by rw[eQ hDC.symm];exact nC) I5 fin
  .refine cvX (T.item Y yP yw yK yc i _ s3 _ H3 _ IP fF' st3 go) λr s4 ⟨u,hr,h4⟩=>?_;subst hr;refine cvX h4 λ_ s5 ⟨y,H5,I5,r5,y5,st5,fr5⟩=>?_;have frD5:H5 s2.heap.objs.size=eM:=(I5.pin _<|Ç _<|Ç _ memD).2.1;have hD5:=(I5.pin _<|Ç _<|Ç _ memD).1;have I5p:=I5.unpinned.pinned (fp:=s2.heap.objs.size::fp) (λb hb=>by
     rcases È.mp hb with e|hb
     . subst e;exact fD frD5
     . exact fF fr5 b hb) (λb hb=>by
     rcases È.mp hb with e|hb
     . subst e;exact⟨_,hD5,λv z=>by cases z⟩
     . exact T.obj _ _ st5 b hb)
   have memD5:=ZT (fp:=s2.heap.objs.size::fp) ô hD5;rw[<-yenv];refine cv (hgN _ s5 _ H5 y u _ I5p r5<|step y H5 y5) λ_ s6 ⟨σ6,H6,I6,q6⟩=>?_;have aK:∀{m':Nat}{bA:St}{H7:Hp}{s7:Å}{ys':List V}{its':List Ã},Inv Y [] bA H7 s7->tn (i+1) s7.heap->(∀b∈fp,H7 b=eM)->H7 s2.heap.objs.size=eM->f8 ys' its'->s7.heap.PlainList s2.heap.objs.size its'.toArray->m'<n/\W (i+1) m' ys' bA H7->
     ∃m,m<n/\∃i ys ø τ H',Inv Y [] τ H' s7/\tn i s7.heap/\(∀b∈fp,H' b=eM)/\H' s2.heap.objs.size=eM/\f8 ys ø/\s7.heap.PlainList s2.heap.objs.size ø.toArray/\W i m ys τ H' :=
    λ{m' bA H7 s7 ys' its'} J1 st7 fr7 fd7 rv7 pl7 wm=>⟨m',wm.1,i+1,ys',its',bA,H7,J1,st7,fr7,fd7,rv7,pl7,wm.2⟩
   have stay:∀{bA:St}{H7:Hp}{s7:Å},Inv Y ([]++XR (s2.heap.objs.size::fp) s5.heap) bA H7 s7->tn (i+1) s7.heap/\(∀b∈fp,H7 b=eM)/\H7 s2.heap.objs.size=eM/\s7.heap.get? s2.heap.objs.size=eL {cls:=.type "list",data:=.seq ø.toArray nD}:=by intro bA H7 s7 J1;refine⟨T.keep _ _ _ st5 λb hb o e=>(J1.pin (b,o)<|Ç _<|Ç _<|ZT (á _ hb) e).1,λb hb=>?_,(J1.pin _<|Ç _<|Ç _ memD5).2.1,(J1.pin _<|Ç _<|Ç _ memD5).1⟩;let⟨o,e,d⟩:=T.obj _ _ st5 b hb;exact(J1.pin (b,o)<|Ç _<|Ç _<|ZT (á _ hb) e).2.1
   refine cv (hIY _ s6 _ H6 _ I6 q6) λok s7 ⟨H7,I7,q7⟩=>?_;cases ok with
   |false =>rw[gq<|by decide]at q7;rw[gq<|by decide];let⟨m',wm⟩:=hN _ _ _ q7;let⟨a1,a2,a3,a4⟩:=stay I7;exact aK I7.unpinned a1 a2 a3 rv ⟨nD,a4⟩ wm
   |true =>
    rw[gp rfl]at q7;rw[gp rfl];refine cv (hEY _ s7 _ H7 _ I7 q7) λz s8 ⟨vz,H8,I8,rz,wm⟩=>?_;let⟨m',wm⟩:=hN _ _ _ wm;let⟨a1,a2,a3,a4⟩:=stay I8;have hlen:=rv.length;refine wpAny_list_append_plain (hsz:=by rw[Ê];lia) (⟨nD,a4⟩:s8.heap.PlainList _ ø.toArray) λh9 hl9 hs9=>?_;let⟨q1,q2,q3,q4,q5,q6⟩:=fD a3;have I9:Inv Y [] _ H8 {s8 with heap:=h9}:=I8.unpinned.turned (t':=s8.toks) (λb o hb e=>hs9.extBut b o hb e) q1 q2 q4 q5 q6;refine aK I9 (T.keep _ _ _ a1 λb hb o e=>hs9.extBut b o (æ<|hfp b hb) e) a2 a3 (its':=ø++[z]) (rv.append<|.cons rz .nil) ?_ wm;have e:ø.toArray.push z=(ø++[z]).toArray:=by simp
    rw[e]at hl9;exact hl9
 exact codeAny_compStart_list (loop _ rfl)<|T.self _ 0 _ _ _ (T.keep _ _ _ st2 λb hb o e=>Ϛ _ _<|cM _ _ e)<|loop _ rfl
variable {wi:TI}
def Cj(hc:X.calm=eN)(B:BlkOk X scope x ü)(hi:PI X bC Ų wi)(hG:∀cl C s H ex,PG (Zw X scope (Z6 X x ü) cl C s H ex) bC tg)
  (hI:∀cl C s H ex,PIfs (Zw X scope (Z6 X x ü) cl C s H ex) bg tc) (hE:∀cl C s H ex,PE (Zw X scope (Z6 X x ü) cl C s H ex) bO te)
  (hs:∀x,ė Ų X.env x=pure x:=by intro _;rfl):PE X (.ListComp bO [⟨bC,Ų,bg,0⟩] scope ë)<|Cp wi x.length ü tg tc te:=by
 intro Â s σ H Q I h;let⟨cl,aM,c1,c2⟩:=XC (scope:=scope) (env:=X.env) λy hy e=>I.ok.has y.1<|.inl<|B.frees y hy e;rw[eval_ListComp];refine di (use:=eM) rfl hs aM B.kind B.locs<|thn (hi Â s σ H _ I h) λv s1 h1=>thn h1 λitv s2 h2=>?_;let⟨it,fp,tn,J,H2,e,I2,T,st2,f2,W,⟨m0,w0⟩,cw⟩:=h2;subst e;refine K5 (RR:=λĮ C=>compPost (à X.prog X.w) X.A X.xe eM (EP X Â σ Q) Į C) hc B I2 T st2 f2 c1 c2 hI hE hG w0 cw ?_;intro D C s' H' ys m hD hn fC I' fin;let⟨q1,q2,q3,q4,q5,q6⟩:=fC;exact⟨m,hn,λh' hs'=>⟨.ref D,_,I'.turned (t':=s'.toks) (λb o hb e=>hs'.extBut b o hb e) q1 q2 q4 q5 q6,rfl,fin D hD⟩⟩
def CI{y:Str}{py:Pos}{i:Nat}{Ϝ:Pos}(hN:X.N.Nodup)(hi':X.N[i]?=eL y)(hy:Loc X.env.scope y)(hc:X.calm=eN)(B:BlkOk X scope x ü)(hi:PI X bC Ų wi)(hG:∀cl C s H ex,PG (Zw X scope (Z6 X x ü) cl C s H ex) bC tg)
  (hI:∀cl C s H ex,PIfs (Zw X scope (Z6 X x ü) cl C s H ex) bg tc) (hE:∀cl C s H ex,PE (Zw X scope (Z6 X x ü) cl C s H ex) bO te)
  (hs:∀x,ė Ų X.env x=pure x:=by intro _;rfl)
  (hsw:ż (.ListComp bO [⟨bC,Ų,bg,0⟩] scope ë) (eL<|.Name y py) Ϝ.line X.env=pure eN:=by rfl)
  (hf:X.fn y=eN\/X.env.scope.names.lookup y=eL .local:=by first|exact .inl rfl|exact .inr rfl|assumption) :
  PS X (.Assign [.Name y py] (.ListComp bO [⟨bC,Ų,bg,0⟩] scope ë) Ϝ) (P1 (Cp wi x.length ü tg tc te)<|HC i):=by
 intro Â s σ H D I h;let⟨cl,aM,c1,c2⟩:=XC (scope:=scope) (env:=X.env) λy hy e=>I.ok.has y.1<|.inl<|B.frees y hy e;rw[exec_Assign_Name_used _ _ _ _ hsw];refine À<|de<|À ?_;show wpAny _ X.A (do let _<-comprehension (.ListComp bO [⟨bC,Ų,bg,0⟩] scope ë) scope X.env _ (newList []) eP (eval Ų X.env) (eL<|ξ (.Name y py) X.env)) _ _ s;refine À (į (di (use:=eL<|ξ (.Name y py) X.env) (Q:=λ_ s'=>SP X Â D .next s') rfl hs aM B.kind B.locs
   (thn (hi Â s σ H _ I h) λv s1 h1=>thn h1 λitv s2 h2=>?_)) (λ_ s' hq=>Æ<|Æ hq) λ_ _ e=>e)
 let⟨it,fp,tn,J,H2,e,I2,T,st2,f2,W,⟨m0,w0⟩,cw⟩:=h2;subst e;refine K5 (RR:=λĮ C=>compPost (à X.prog X.w) X.A X.xe (eL<|ξ (.Name y py) X.env) (λ_ s'=>SP X Â D .next s') Į C) hc B I2 T st2 f2 c1 c2 hI hE hG w0 cw ?_;intro Dd C s' H' ys m hD hn fC I' fin;let⟨q1,q2,q3,q4,q5,q6⟩:=fC;show wpAny _ _ (ξ (.Name y py) X.env<|.ref Dd) _ _ _;refine wpAny_assign_Name<|Kz I' hN hi' hy (v:=.ref Dd) rfl (λs2 I2 ⟨a,hs2,ha⟩=>?_) hf;have ne:C≠a:=by
  rcases ha with z|z
  .rw[z];exact q2
  .exact(q5 y a z).symm
 refine⟨m,hn.sameBut hs2 ne,λh' hs'=>?_⟩;exact⟨_,_,I2.turned (t':=s2.toks) (λb o hb e=>hs'.extBut b o hb e) q1 q2 q4 q5 q6,fin Dd hD⟩
end
mutual
inductive IsD (K:Frag) (H:Hp):V->Ϸ->Prop
 |non:IsD K H .non .none
 |bl (b:Bool):IsD K H (.bl b)<|.bool b
 |int (i:Int):IsD K H (.int i)<|.int i
 |str (x:Str):IsD K H (.str x)<|.str x
 |lst {a:Í}{xs:List V}{ds:List Ϸ}:fY K H a xs->IsDs K H xs ds->IsD K H (.ref a) (.list ds)
 |tup {a:Í}{xs:List V}{ds:List Ϸ}:fZ K H a xs->IsDs K H xs ds->IsD K H (.ref a) (.tuple ds)
inductive IsDs (K:Frag) (H:Hp):List V->List Ϸ->Prop
 |nil:IsDs K H [] []
 |cons {x:V}{xs:List V}{d:Ϸ}{ds:List Ϸ}:IsD K H x d->IsDs K H xs ds->IsDs K H (x::xs) (d::ds)
end
section
variable {X:Cx}{Â:List (Í×Obj)}{σ:St}{H:Hp}{s:Å}
mutual
theorem IsD.reads(I:Inv X Â σ H s):∀{v:V}{d:Ϸ}{u:Ã},IsD X.K H v d->RelV v u->∃as,Reads s.heap u d as
 |_,_,_,.non,r=>by cases r;exact⟨_,.none⟩
 |_,_,_,.bl b,r=>by cases r;exact⟨_,.bool b⟩
 |_,_,_,.int i,r=>by let⟨t,rfl⟩:=r;exact⟨_,.int i t⟩
 |_,_,_,.str x,r=>by let⟨t,rfl⟩:=r;exact⟨_,.str x t⟩
 |_,_,_,.lst q qs,r=>by cases r;let⟨ø,rv,⟨o,n,e,c,_,d⟩,_⟩:=I.list q;let⟨as,ra⟩:=IsDs.reads I qs rv;exact⟨_,.list e c d<|by simpa using ra⟩
 |_,_,_,.tup q qs,r=>by cases r;let⟨ø,rv,⟨o,e,c,n,d⟩,_⟩:=I.tuple q;let⟨as,ra⟩:=IsDs.reads I qs rv;exact⟨_,.tuple e c d<|by simpa using ra⟩
theorem IsDs.reads(I:Inv X Â σ H s):∀{vs:List V}{ds:List Ϸ}{us:List Ã},IsDs X.K H vs ds->f8 vs us->∃as,ReadsAll s.heap us ds as
 |_,_,_,.nil,.nil=>⟨_,.nil⟩
 |_,_,_,.cons q qs,.cons r rs=>by let⟨as,ra⟩:=IsD.reads I q r;let⟨bs,rb⟩:=IsDs.reads I qs rs;exact⟨_,.cons ra rb⟩
end
end
def IsDs.ints{K:Frag}{H:Hp}:∀ns:List Int,IsDs K H (ns.map V.int) (ns.map PyData.int)
 |[]=>.nil
 |n::ns=>.cons (.int n)<|IsDs.ints ns
section
variable {X:Cx}
abbrev Q5(K:Frag):R2:=λx y H Q=>∃d e,IsD K H x d/\IsD K H y e/\SeqAt.shaped d=eN/\SeqAt.shaped e=eN/\Q (.bl<|ĩ d e) H
abbrev Rk(K:Frag):R2:=λx y H Q=>∃d e,IsD K H x d/\IsD K H y e/\SeqAt.shaped d=eN/\SeqAt.shaped e=eN/\Q (.bl (!ĩ d e)) H
def Px(hu:X.A.units+64<Ī):OpR X (î .Eq)<|Q5 X.K:=by intro Â s σ H x y v u Q I rx ry h;let⟨d,e,hd,he,sd,se,q⟩:=h;let⟨as,ra⟩:=hd.reads I rx;let⟨bs,rb⟩:=he.reads I ry;exact SeqAt.compareEq_shaped ra rb sd se hu ⟨.bl _,H,I,rfl,q⟩
def Le(hu:X.A.units+64<Ī):OpR X (î .NotEq)<|Rk X.K:=by intro Â s σ H x y v u Q I rx ry h;let⟨d,e,hd,he,sd,se,q⟩:=h;let⟨as,ra⟩:=hd.reads I rx;let⟨bs,rb⟩:=he.reads I ry;exact SeqAt.compareNe_shaped ra rb sd se hu ⟨.bl _,H,I,rfl,q⟩
inductive TyV (K:Frag) (H:Hp):V->Ã->Prop
 |of {x:V}{t:Ã}:fU K H x t->TyV K H x t
 |tup {a:Í}{xs:List V}:fZ K H a xs->TyV K H (.ref a) (.type "tuple")
 |lst {a:Í}{xs:List V}:fY K H a xs->TyV K H (.ref a) (.type "list")
def BW:eY X (.builtin "isinstance") λxs H Q=>∃x T t b,xs=[x,.ty T]/\TyV X.K H x t/\PySem.W.kitOne X.K t (.type T)=eL b/\Q (.bl b) H:=by
 intro Â s σ H xs us Q I r h;let⟨x,T,t,b,rfl,ty,e,q⟩:=h;let⟨u,v,rfl,ru,rv⟩:=Uo r;cases rv;cases ty with
 |of ty=>exact Bs I ru ty e λtk=>⟨.bl b,H,I.tok tk,rfl,q⟩
 |tup hq =>cases ru;let⟨ø,_,⟨o,h1,h2,_⟩,_⟩:=I.tuple hq;exact PySem.W.kia_one PySem.W.kitx_tuple I.kIn ⟨o,h1,h2⟩ e (λz=>nomatch z) λtk=>⟨.bl b,H,I.tok tk,rfl,q⟩
 |lst hq =>cases ru;let⟨ø,_,⟨o,n,h1,h2,_⟩,_⟩:=I.list hq;exact PySem.W.kia_one PySem.W.kitx_list I.kIn ⟨o,h1,h2⟩ e (λz=>nomatch z) λtk=>⟨.bl b,H,I.tok tk,rfl,q⟩
def BX(hc:X.calm=eN):eY X (.builtin "all") λxs H Q=>∃p,∃bs:List Bool,xs=[.ref p]/\fY X.K H p (bs.map V.bl)/\Q (.bl<|bs.all id) H:=by
 intro Â s σ H xs us Q I r h;let⟨p,bs,rfl,hq,q⟩:=h;let⟨u,rfl,rx⟩:=Z2 r;cases rx;let⟨ø,rv,pl,hz⟩:=I.list hq;have hlen:=rv.length;rw[Á]at hlen;have ϴ:p<s.heap.objs.size:=by let⟨o,n,e,_⟩:=pl;exact Ú e
 refine call_all_walk<|ϋ pl.isList ?_;refine⟨s.heap.objs.size,_,_,ø.toArray.size,_,_,λi=>bs.getD i eN,rfl,Walks.list (A:=X.A.in1) (I.ok.hd hc) s.heap.objs.size p (æ ϴ) ø.toArray,⟨⟨_,Ô _ rfl,rfl,rfl⟩,pl.isList.push _⟩,?_,λh' tk hk=>?_⟩
 .intro i v s' Q' E' hP hQ;have hP:ø[i]?=eL v:=⇑hP
  have hb:(bs.map V.bl)[i]?=eL (.bl<|bs.getD i eN):=by
   have hi:i<bs.length:=by have:=(Î.mp hP).1;lia
   rw[Ø,Đ];simp[hi]
  let⟨u,hu,ru⟩:=rv.get hb;rw[hP]at hu;cases hu;cases ru;exact Ď hQ
 .have e:(List.range ø.toArray.size).all (λi=>bs.getD i eN)=bs.all id:=by
   rw[Ê,<-hlen,Bool.eq_iff_iff,ā,ā];constructor
   .intro h b hb;let⟨i,hi,rfl⟩:=List.mem_iff_getElem.mp hb;have:=h i<|Ŵ.mpr hi;rw[Đ,É hi]at this;exact this
   .intro h i hi;have hi:=Ŵ.mp hi;rw[Đ,É hi];exact h _<|Ŏ hi
  rw[e];refine⟨.bl _,H,I.kept (t':=tk) λb o e=>hk b o (λhm=>?_)<|Ä _ e,rfl,q⟩;have:b=s.heap.objs.size:=⇑hm
  exact gA (this▸Ú e)<|ġ _
abbrev sortI(ns:List Int):List Int:=ns.mergeSort λa b=>gB (a<=b)
def XM(ns:List Int):(sortI ns).Perm ns:=Ŧ ns _
def NN(ns:List Int):(sortI ns).Pairwise (·<=·):=by have h:=bS (le:=λa b:Int=>gB (a<=b)) (λa b c h1 h2=>by simp at *;lia) (λa b=>by simp;lia) ns;exact h.imp λh=>⇑h
variable {ns:List Int} {ms:List Int}
def YB(hp:ms.Perm ns)(hs:ms.Pairwise (·<=·)):ms=sortI ns:=PySem.W.ksm_same (hp.trans (XM ns).symm) hs (NN ns)
def Kq(hp:ms.Perm ns):sortI ms=sortI ns:=YB ((XM ms).trans hp) (NN ms)
def YK(ns:List Int):(sortI ns).length=ns.length:=(XM ns).length_eq
def YM:∀{vs:List Ã}{ns:List Int},ă vs ns->f8 (ns.map V.int) vs:=Wo
def call_sorted:eY X (.builtin "sorted") λxs H Q=>∃p,∃ns:List Int,xs=[.ref p]/\fY X.K H p (ns.map V.int)/\ns.length<64/\∀l,H l=eM->Q (.ref l) (upd H l<|.lst<|(sortI ns).map V.int):=by intro Â s σ H xs us Q I r h;let⟨p,ns,rfl,hq,h64,q⟩:=h;let⟨u,rfl,rx⟩:=Z2 r;cases rx;let⟨ø,rv,pl,hz⟩:=I.list hq;have hlen:=rv.length;rw[Á]at hlen;refine sorted_ints pl.isList (ZD rv) (by lia) λout ce a1 a2 a3=>?_;have e:=YB a2 a3;subst e;let⟨n,he⟩:=sortedAll_at s.heap ø out;refine⟨.ref<|s.heap.objs.size+1,_,I.laid (a:=s.heap.objs.size+1) (o:=.lst<|(sortI ns).map V.int) (t':=s.toks) (λb o e=>sortedAll_old e) (Ň _) ?_,rfl,q _<|I.hok.fresh<|Ň _⟩;exact⟨by rw[Á,YK];rw[Á]at hz;exact hz,out.toList,n,YM a1,by simpa[Ν]using he⟩
def BR:eY X (.type "set") (λxs H Q=>∃p,∃ns:List Int,xs=[.ref p]/\fY X.K H p (ns.map V.int)/\ns.length<4000/\X.calm=eN/\
    ∀l S n,H l=eM->n=(θ (λi=>ns.getD i 0) ns.length).length->Q (.ref l) (upd H l<|.set S n)):=by
 intro Â s σ H xs us Q I r h;let⟨p,ns,rfl,hq,h4,hc,q⟩:=h;let⟨u,rfl,rx⟩:=Z2 r;cases rx;let⟨ø,rv,pl,hz⟩:=I.list hq;have hlen:=rv.length;rw[Á]at hlen;refine call_set_list (I.ok.hd hc) pl.isList (by simpa using ZD rv) (by rw[Ê];show ø.length+1<4096;lia) λh' tk hS hk=>?_;refine⟨.ref s.heap.objs.size,_,I.laid (a:=s.heap.objs.size) (o:=.set _ _) (t':=tk) (λb o e=>hk b o (Ú e) e) (Ì _) hS,rfl,q _ _ _ (I.hok.fresh<|Ì _) ?_⟩;rw[Ê,hlen]
def BA:eY X (.builtin "len") λxs H Q=>∃p S n,xs=[.ref p]/\H p=eL (.set S n)/\Q (.int n) H:=by
 intro Â s σ H xs us Q I r h;let⟨p,S,n,rfl,hq,q⟩:=h;let⟨u,rfl,rx⟩:=Z2 r;cases rx;let⟨o,es,ep,t,e,hex,hd,_,_,hb,hf,hn⟩:=(show eZ X.prog X.w H s.heap p (.set S n) from I.hok p _ hq)
 subst hn;exact call_len_set e hex hd hf (by have:es.size<4096:=hb;lia) ⟨.int _,H,I.tok _,⟨_,rfl⟩,q⟩
end
section
variable {X:Cx}{x:Str}{p ë:Pos}{e:Expr}{es:List Expr}{t:TA}
def QB{T:String}(hg:Gl X x)(hm:X.mg x=eM)(hv:ũ x=eL (.type T))(hn:x≠"__name__":=by decide)(hd:(x==("__debug__" : Str))=eP:=by decide):PE X (.Name x ë)<|tC<|.ty T:=EK hg hm hv rfl hn hd
end
abbrev Ym(scope sc:ν)(N:List Str)(x:List Str)(ü:List Nat):Bool :=
 scope.names.all (λy=>y.2 != .cell)&&scope.names.all (λy=>y.2 != .local||scope.names.lookup y.1==eL .local)&&x.all (λy=>scope.names.lookup y==eL .local) &&
 scope.names.all (λy=>y.2 != .free||sc.names.lookup y.1==eL .cell) &&
 ü.all (λj=>gB (j<N.length)&&sc.names.lookup (N.getD j Str.empty)==eL .cell&&scope.names.lookup (N.getD j Str.empty)==eL .free)&&gB (x++ü.map λj=>N.getD j Str.empty).Nodup
def Oy{X:Cx}{scope sc:ν}{x:List Str}{ü:List Nat}{N:List Str}(hsc:X.env.scope=sc)(hN:X.N=N)(hk:scope.kind=.function)(h:Ym scope sc N x ü=eN):BlkOk X scope x ü:=by
 unfold Ym at h;simp only[bAq]at h;let⟨⟨⟨⟨⟨h1,h2⟩,h3⟩,h4⟩,h5⟩,h6⟩:=h;rw[ā]at h1 h2 h4 h5;refine⟨hk,λy hy=>by simpa using h1 y hy,λy hy e=>?_,λy hy=>by simpa using ā.mp h3 y hy,λy hy e=>?_,λj hj=>?_,?_⟩
 .have:=h2 y hy;rw[e]at this;simpa using this
 .have:=h4 y hy;rw[e]at this;show X.env.scope.names.lookup y.1=_;rw[hsc];simpa using this
 .have:=h5 j hj;simp only[bAq,gy,beq_iff_eq]at this;let⟨⟨a,b⟩,c⟩:=this;refine⟨?_,?_,?_⟩
  .rw[hN,É a];rfl
  .show X.env.scope.names.lookup _=_;rw[hsc,hN];exact b
  .rw[hN];exact c
 .unfold Z6;rw[hN];exact of_decide_eq_true h6
abbrev fo(r:Í)(H H':Hp):Prop:=∀b o,H b=eL o->b≠r->H' b=eL o
def fo.refl(r:Í)(H:Hp):fo r H H:=λ_ _ h _=>h
def fo.trans{r:Í}{H H1 H2:Hp}(a:fo r H H1)(b:fo r H1 H2):fo r H H2:=λc o h n=>b c o (a c o h n) n
noncomputable abbrev Tie:=Int×Int×Int
variable {c:Bool} {A:Prop} {B:Prop}
def fQ(e:c=eN)(h:A):if c=eN then A else B:=by rw[gp e];exact h
def fR(e:c=eP)(h:B):if c=eN then A else B:=by rw[e,gq ú];exact h
structure BrOk(ns:List Int):Prop where
 one:1<=ns.length
 ten:ns.length<=10
 rng:∀n∈ns,0<=n/\n<=999
 nd:ns.Nodup
structure TieOk(ns:List Int)(t:Tie):Prop where
 a:t.1∈ns
 b:t.2.1∈ns
 ne:t.1≠t.2.1
 lo:1<=t.2.2
 hi:t.2.2<=1000
structure TsOk(ns:List Int)(ts:List Tie):Prop where
 few:ts.length<=16
 each:∀t∈ts,TieOk ns t
abbrev mn(x y:Int):Int:=if y<x then y else x
section
variable {X:Cx}(K:Frag) (h:X.K=K)
include h
end
section
variable {prog:ã}{w:Ā}{A:Ċ}{E:Ã->Å->Prop}{s:Å}
variable {it:Í} {i:Nat} {items:Array Ã} {Q:Ã->Å->Prop}
def OS{t:Í}{x:Ã}(hit:s.heap.IsTupleIter it t i)(ht:s.heap.IsTuple t items)(hx:items[i]?=eL x)
  (hQ:∀h',h'.IsTupleIter it t (i+1)->ŵ it s.heap h'->Q x {s with heap:=h'}):wpAny (à prog w) A (Builtin.SmallTypes.nextOf<|.ref it) Q E s:=by
 let⟨o,ho,hc,hd⟩:=id hit;let⟨ot,hot,_,nt,hdt⟩:=ht;unfold Builtin.SmallTypes.nextOf;refine À<|Ĵ (name:=gC "__next__") hit.typeIs F.slot_tuple_iterator_next<|Ğ F.slot_tuple_iterator_next hit.typeIs F.entry_tuple_iterator_next ?_<|F.args_tuple_iterator_next_1 _;show wpAny _ _ (field (.ref it) 0 >>= _) _ _ s;refine À<|Ō ho hd (x:=.ref t) rfl ?_;show wpAny _ _ (if(Value.ref t==Value.none)=eN then _ else _) _ _ s;rw[gq<|show ¬ ((Value.ref t==Value.none)=eN) from ú];show wpAny _ _ (field (.ref it) 1 >>= _) _ _ s;refine À<|Ō ho hd (x:=.int i 0) rfl ?_;show wpAny _ _ (aj (.ref t) >>= _) _ _ s;refine À<|ŕ hot hdt ?_;simp only[â,hx];refine À (Ł ho hd (by simp)<|Æ ⟨x,rfl,Æ<|hQ _ ⟨_,Ė _ ho<|cQ<|Α hd _,(Obj.cls_mapFields ..).trans hc,?_⟩<|ą ..⟩);rw[Α hd];simp[ħ]
def K3{t:Í}(hh:A.handled=eM)(hit:s.heap.IsTupleIter it t i)(ht:s.heap.IsTuple t items)(hx:items[i]?=eM)
  (hE:∀h' e,Heap.ExtBut it s.heap h'->(∃o,h'.get? e=eL o/\o.cls=.type "StopIteration")->E (.ref e) {s with heap:=h'}):wpAny (à prog w) A (Builtin.SmallTypes.nextOf<|.ref it) Q E s:=by
 let⟨o,ho,hc,hd⟩:=id hit;let⟨ot,hot,_,nt,hdt⟩:=ht;unfold Builtin.SmallTypes.nextOf;refine À<|Ĵ (name:=gC "__next__") hit.typeIs F.slot_tuple_iterator_next<|Ğ F.slot_tuple_iterator_next hit.typeIs F.entry_tuple_iterator_next ?_<|F.args_tuple_iterator_next_1 _;show wpAny _ _ (field (.ref it) 0 >>= _) _ _ s;refine À<|Ō ho hd (x:=.ref t) rfl ?_;show wpAny _ _ (if(Value.ref t==Value.none)=eN then _ else _) _ _ s;rw[gq<|show ¬ ((Value.ref t==Value.none)=eN) from ú];show wpAny _ _ (field (.ref it) 1 >>= _) _ _ s;refine À<|Ō ho hd (x:=.int i 0) rfl ?_;show wpAny _ _ (aj (.ref t) >>= _) _ _ s;refine À<|ŕ hot hdt ?_;simp only[â,hx];refine À (ϡ<|À<|Ł ho hd (by simp) ?_);show wpAny _ _ (newExc (.type "StopIteration") [] >>= _) _ _ _;refine À ?_;simp only[newExc,newTuple];refine À (Ĉ (À (m:=ϸ _ _)<|bF (a:=Value.none) (by first|rfl|(simp only[ϸ];rfl))<|Ĉ ?_<|by size_fits)<|by size_fits);simp only[raiseNew];refine À<|wpAny_handled ?_
 first
 |rw[show A.in1.handled=eM from hh]
 |rw[hh]
 exact À<|Æ<|wpAny_throw<|hE _ _ (((ą ..).extBut.push _).push _) ⟨_,Ô _ rfl,rfl⟩
end
variable {prog:ã} {w:Ā} {A:Ċ}
def Ll(hh:A.handled=eM)(it t:Í)(ž:t≠it)(items:Array Ã) :
  Draws prog w A it [it,t] items.size (λi v=>items[i]?=eL v) (λi h=>h.IsTupleIter it t i/\h.IsTuple t items) where
 live:=λ_ _ st=>let ⟨o,ho,_⟩:=st.1;⟨o,ho⟩
 frame:=λ_ _ _ st hk=>⟨st.1.at λo e=>hk it (by simp) o e,st.2.at λo e=>hk t (by simp) o e⟩
 item:=λi s Q E hi st hQ=>OS st.1 st.2 (x:=items[i]) (by simp[hi]) λh' hit' hs'=>hQ _ h' s.toks (by simp[hi]) ⟨hit',st.2.extBut hs'.extBut ž⟩ hs'
 done:=λs Q E st hE=>K3 hh st.1 st.2 (by simp) hE
open AutoSeq1 (wpAny_loadPart') in
def LT(l:Í)(items:Array Ã)(n:Nat)(dct:Option Í)(sl:Array<|Option Ã) :
  Meets (Builtin.«enumerate.__new__» ⟨[.type "enumerate",.ref l],[]⟩) (λ_ R s=>s.heap.get? l=eL { cls:=.type "tuple",dict:=dct,data:=.seq items n,slots:=sl }/\
    R (.ok<|.ret<|.ref (s.heap.push {cls:=.type "tuple_iterator",data:=.fields #[.ref l,.int 0 0]}).objs.size)
      { s with heap:=(s.heap.push { cls:=.type "tuple_iterator",data:=.fields #[.ref l,.int 0 0] }).push { cls:=.type "enumerate",data:=.fields #[.none,.bool eP,.ref s.heap.objs.size,ħ 0,.none,.none] } }) :=
 .of_wp λprog w A R s h=>by
  let⟨hp,g,d,tk,os⟩:=s;let⟨hl,h⟩:=h;have hsub:=sub_enumerate;have hL:Heap.IsTuple (Shared.heap ⟨hp,g,d,tk,os⟩) l items:=⟨_,hl,rfl,n,rfl⟩
  wp_walk using ě hl
  refine wpAny_stack_any λst=>Æ ?_;split
  .rename_i c _ _ _ _ _;cases (c==Value.type "enumerate")<;>(wp_walk using ě hl,aB hL;exact⟨_,rfl,h⟩)
  .wp_walk using ě hl,aB hL;exact⟨_,rfl,h⟩
def Uj{E:Ã->Å->Prop}{s:Å}{l:Í}{items:Array Ã}{Q:Ã->Å->Prop}(hL:s.heap.IsTuple l items)
  (h:∀h',IsEnum h' (s.heap.objs.size+1) s.heap.objs.size 0 .none->h'.IsTupleIter s.heap.objs.size l 0->(∀b o,s.heap.get? b=eL o->h'.get? b=eL o)->Q (.ref<|s.heap.objs.size+1) {s with heap:=h'}) :
  wpAny (à prog w) A (call (.type "enumerate") [.ref l]) Q E s:=by
 let⟨⟨c,dct,dt,sl⟩,hl,hc,n,hd⟩:=hL;simp only at hc hd;subst hc hd;refine callType_new F.called_enumerate (by decide) (F.typeCall_enumerate_1 _) (F.newCall_enumerate_1 _) (λobj=>F.args_object_init_2 obj _) F.entry_enumerate_new (LT l items n dct sl) ⟨hl,?_⟩;have hz:(s.heap.push {cls:=.type "tuple_iterator",data:=.fields #[.ref l,.int 0 0]}).objs.size=s.heap.objs.size+1:=Ŷ ..;have hg:=Ô (s.heap.push {cls:=.type "tuple_iterator",data:=.fields #[.ref l,.int 0 0]}) (o:={cls:=.type "enumerate",data:=.fields #[.none,.bool eP,.ref s.heap.objs.size,ħ 0,.none,.none]}) rfl;rw[hz]at hg;show _/\_;rw[hz];exact⟨⟨_,hg,rfl⟩,h _ hg ⟨_,Ä _<|Ô _ rfl,rfl,rfl⟩ λb o x=>Ä _<|Ä _ x⟩
section
variable {X:Cx}{Â:List (Í×Obj)}{σ:St}{H:Hp}{s:Å}{h':ĉ}
def Inv.turnedL{t':Nat}{ch:List Í}(I:Inv X Â σ H s)(k:∀b o,b∉ch->s.heap.get? b=eL o->h'.get? b=eL o)(hc:∀b∈ch,Wu X Â H b):Inv X Â σ H {s with heap:=h',toks:=t'}:=by
 have nit:∀b u,H b=eL u->b∉ch:=λb u e z=>by rw[(hc b z).1]at e;cases e
 refine I.step (g':=s.gens) (d':=s.drawn) (ch:=ch) (λb hb=>?_) (λb o _ _ hcb e _=>k b o hcb e) (λb o _ _ hcb e _=>⟨o.slots,k b o hcb e⟩) (λ_ _ _ _ n=>n)
  (λb o hcb e=>⟨o,k b o hcb e⟩) (λ_ _ e=>e) (λ_ _ _ e=>e) (λb ps e=>⟨#[],by rw[e];simp⟩) (λm hm=>?_) (λb u e=>?_) I.bare
 .obtain⟨_,q2,_,q4,q5,q6⟩:=hc b hb;exact⟨q4,q2,q5,q6⟩
 .obtain⟨o,es,ep,ho,r⟩:=hm;exact⟨o,es,ep,k _ o (λz=>(hc _ z).2.1 rfl) ho,r⟩
 .refine(I.hok b u e).stay (λc v hcc q=>k c v ?_ q) (λ_ q=>q) λ_ _ q=>q;rcases hcc with z|z
  .rw[z];exact nit b u e
  .exact nit c _ z
def Inv.track{T:Í}{o:HO}(I:Inv X Â σ H s)(hT:H T=eM)(h0:X.s₀.heap.objs.size<=T)(hL:T≠X.env.locals)(aM:∀x c,X.env.cells.lookup x=eL c->c≠T)(hp:∀p∈X.pn++Â,p.1≠T)
  (new:eZ X.prog X.w (upd H T o) s.heap T o):Inv X Â σ (upd H T o) s:=by
 have neT:∀b ob,X.s₀.heap.get? b=eL ob->b≠T:=λb ob e=>æ<|ä (Ú e) h0;refine⟨I.ok,I.os,I.bare,⟨I.base.keep,I.base.slot,λb ob e n hx=>?_,I.base.there,λb xs e=>?_,λb ob xs e=>?_,λb ps e=>?_⟩,I.loc,I.cell,?_,λx c e=>?_,λp hpp=>?_,I.hok.track hT new,I.len⟩
 .rw[eQ<|neT b ob e];exact I.base.free b ob e n hx
 .have q:=I.base.tups b xs e;rw[eQ<|Zj q hT];exact q
 .have q:=I.base.frzs b ob xs e;rw[eQ<|Zj q hT];exact q
 .obtain⟨m,q⟩:=I.base.tbls b ps e;exact⟨m,by rw[eQ<|Zj q hT];exact q⟩
 .rw[eQ hL.symm];exact I.free
 .rw[eQ<|aM x c e];exact I.freeC x c e
 .obtain⟨a,b,c,d,e⟩:=I.pin p hpp;exact⟨a,by rw[eQ<|hp p hpp];exact b,c,d,e⟩
end
abbrev Ite(K:Frag)(a:Í):It :=
 ⟨λi H=>∃xs x,fZ K H a xs/\xs[i]?=eL x,λi H v H'=>∃p,v=.ref p/\H p=eM/\∀xs x,fZ K H a xs->xs[i]?=eL x->H'=upd H p (.tup [.int i,x]),λi H=>∃xs,fZ K H a xs/\xs.length<=i⟩
variable {es:List Expr} {kk:Nat} {tp:Pos}
def OK{P:ã}{K:Frag}(a it e:Í)(ž:e≠it) :
  Turn P w K (.Tuple es kk tp) (Ite K a) [e,it] e (λi h=>(∃Ϛ,IsEnum h e it i Ϛ)/\h.IsTupleIter it a i) where
 mem:=by simp
 obj:=λi h st b hb=>by
  let⟨⟨Ϛ,h1⟩,o2,e2,_,d2⟩:=st;rcases È.mp hb with q|q
  .subst q;exact⟨_,h1,λv z=>by cases z⟩
  .have q:b=it:=⇑q
   subst q;exact⟨o2,e2,λv z=>by rw[d2]at z;cases z⟩
 keep:=λi h h' st k=>⟨let ⟨Ϛ,h1⟩:=st.1;⟨Ϛ,k e (by simp) _ h1⟩,st.2.at λo q=>k it (by simp) o q⟩
 item:=by
  intro X hP hw hK hc i Â s σ H E I hf st hg;subst hP hw hK;let⟨xs,x,hq,hx⟩:=hg;let⟨ø,rv,pl,hz⟩:=I.tuple hq;let⟨u,hu,ru⟩:=rv.get hx;have hsz:=rv.length;have hi:i<ø.toArray.size:=by rw[Ê];exact(Î.mp hu).1
  let⟨⟨Ϛ,h1⟩,h2⟩:=st;have hfi:=hf it (by simp);have hai:a≠it:=λz=>by let⟨o,ho,aM,_⟩:=h2;let⟨o',ab,hcl',_⟩:=pl;rw[z,ho]at ab;cases ab;rw[aM]at hcl';exact gA (ak hcl') (by decide)
  have hae:e∉[it,a]:=λz=>by
   rcases È.mp z with z|z
   .exact ž z
   .have z:e=a:=⇑z
    let⟨o',ab,hcl',_⟩:=pl;rw[<-z,h1]at ab;cases ab;exact gA (ak hcl') (by decide)
  refine wpAny_pyNext_enum_itemD (Ll (A:=X.A.in1) (I.ok.hd hc) it a hai ø.toArray) h1 ⟨h2,pl⟩ hi ž hae λv h3 tk hv hout hst3 hT _ hk=>?_;have ev:v=u:=by
   have hv:ø[i]?=eL v:=⇑hv
   rw[hu]at hv;exact(è hv).symm
  subst ev;have nT:∀b∈[e,it],s.heap.objs.size≠b:=λb hb z=>by
   rcases È.mp hb with q|q
   .exact gA (Ú h1) (by rw[<-q,<-z];exact ġ _)
   .have q:b=it:=⇑q
    let⟨o,ho,_⟩:=h2;exact gA (Ú ho) (by rw[<-q,<-z];exact ġ _)
  have bP:=I.fpOk (H':=H) (Ì s.heap.objs.size) I.fresh;refine⟨.ref s.heap.objs.size,rfl,wpAny_letOwnedTupleGo_enum hout λh4 he4 hs4=>?_⟩;have I4:Inv X Â σ H {s with heap:=h4,toks:=tk+1}:=I.turnedL (t':=tk+1) (ch:=[e,it]) (λb o hb q=>hs4.extBut b o (λz=>hb<|by simp[z])<|hk b o (λz=>hb<|by simp[z]) (λz=>hb<|by simp[z]) q) hf;have hT4:h4.get? s.heap.objs.size=eL {cls:=.type "tuple",data:=.seq #[.int i tk,v]}:=hs4.extBut _ _ (nT e<|by simp) hT;let⟨f0,f1,f2,f3,f4,f5⟩:=bP;have I5:Inv X Â σ (upd H s.heap.objs.size<|.tup [.int i,x]) {s with heap:=h4,toks:=tk+1}:=I4.track f0 I.sz f1 f4 f5 ⟨by show 2<=ß;decide,[.int i tk,v],.cons ⟨tk,rfl⟩<|.cons ru .nil,_,hT4,rfl,_,rfl⟩;refine⟨.ref s.heap.objs.size,_,I5,rfl,⟨s.heap.objs.size,rfl,f0,λys y hy hyi=>?_⟩,⟨⟨v,⇑he4⟩,hst3.1.at λo q=>hs4.extBut it o (Ne.symm ž) q⟩,λb hb=>?_⟩
  .have ey:ys=xs:=I.tuple_inj hy hq;rw[ey,hx]at hyi;rw[è hyi]
  .rw[eQ (nT b hb).symm];exact(hf b hb).1
 done:=by
  intro X hP hw hK hc i Â s σ H E I hf st hg;subst hP hw hK;let⟨xs,hq,hx⟩:=hg;let⟨ø,rv,pl,hz⟩:=I.tuple hq;have hl:=rv.length;let⟨⟨Ϛ,h1⟩,h2⟩:=st;have hai:a≠it:=λz=>by let⟨o,ho,aM,_⟩:=h2;let⟨o',ab,hcl',_⟩:=pl;rw[z,ho]at ab;cases ab;rw[aM]at hcl';exact gA (ak hcl') (by decide)
  have hT:s.TypeIs (.ref e) "enumerate":=⟨_,h1,rfl⟩
  unfold ϐ;refine À<|wpAny_attempt<|Ĵ (name:=gC "__next__") hT F.slot_enumerate_next<|Ğ F.slot_enumerate_next hT F.entry_enumerate_next ?_<|F.args_enumerate_next_1 _;show wpAny _ _ (field (.ref e) 2 >>= _) _ _ _;refine À<|Ō h1 rfl (x:=.ref it) rfl ?_;refine À (K3 (A:=X.A.in1) (I.ok.hd hc) h2 pl (by simp;lia) λh' x he' hx'=>?_);let⟨o,ho,aM⟩:=hx';refine À<|bw (T:="StopIteration") (b:=eN) ⟨o,ho,aM⟩ isSubtype_stop<|Æ ⟨rfl,?_⟩;exact I.turnedL (t':=s.toks) (ch:=[it]) (λb ob hb q=>he' b ob (λz=>hb<|by simp[z]) q) λb hb=>hf b<|á _ hb
 self:=λA i s Q E st h=>by let⟨⟨Ϛ,h1⟩,_⟩:=st;exact wpAny_pyIter_enum h1 h
section
variable {X:Cx}
abbrev La(K:Frag)(ta:TA):TI:=λσ H R=>ta σ H λvs H1=>∃a,vs=[.ref a]/\(∃xs,fZ K H1 a xs)/\R (Ite K a) H1
def CC{p ë:Pos}{e:Expr}{ta:TA}(hg:Gl X "enumerate")(hm:X.mg "enumerate" = eM)(ha:PA X [e] ta)(hs:Ü [e] X.env=[(eP,eval e X.env)]:=by rfl) :
  PI X (.Tuple es kk tp) (.Call (.Name "enumerate" p) [e] [] ë) (La X.K ta):=by
 intro Â s σ H R I h;refine Call_ (YI (u:=.type "enumerate") I hg hm (by kernel_rfl)<|PyProof.Rows.callWith_type1 (T:="enumerate") (thn (ha ë Â s σ H _ I h) λus s1 ⟨vs,H1,I1,r1,q1⟩=>?_) hs rfl);let⟨a,e1,⟨xs,hq⟩,q⟩:=q1;subst e1;let⟨u,rfl,ru⟩:=Z2 r1;cases ru;let⟨ø,rv,pl,hz⟩:=I1.tuple hq;refine Uj pl λh2 he2 cZ hk2=>?_;have I2:Inv X Â σ H1 {s1 with heap:=h2}:=I1.kept (t':=s1.toks) hk2;refine wpAny_pyIter_enum he2 ⟨s1.heap.objs.size+1,[s1.heap.objs.size+1,s1.heap.objs.size],_,_,H1,rfl,I2,OK a s1.heap.objs.size (s1.heap.objs.size+1)<|ť<|Ě _,⟨⟨_,he2⟩,cZ⟩,λb hb=>?_,q⟩;have bB:s1.heap.objs.size<=b:=by
  rcases È.mp hb with z|z
  .rw[z];exact Ň _
  .have z:b=s1.heap.objs.size:=⇑z
   rw[z];exact Ì _
 exact I1.fpOk bB<|I1.hok.fresh bB
end
end L2
namespace L2
open PySem PySem.Spec PyProof.Rows
open PySem.Builtin PySem.Builtin.Str
noncomputable abbrev TJ:=St->Hp->Str->(Str->Hp->Prop)->Prop
abbrev PJ(X:Cx)(vs:List Expr)(t:TJ):Prop :=
 ∀(Â:List<|Í×Obj) (s:Å) (σ:St) (H:Hp) (Į:Str) (Q:Str->Hp->Prop),Inv X Â σ H s->t σ H Į Q->
  Joins (à X.prog X.w) X.A X.xe (cu vs X.env) Į (λout s1=>∃H1,Inv X Â σ H1 s1/\out.length<=ß/\Q out H1) s
abbrev SI:TJ:=λ_ H Į Q=>Į.length<=ß/\Q Į H
abbrev QJ(te:TE)(tr:TJ):TJ:=λσ H Į Q=>te σ H λx H1=>∃y,x=.str y/\(Į++y).length<=ß/\tr σ H1 (Į++y) Q
section
variable {X:Cx}{e:Expr}{es:List Expr}{te:TE}{tr:TJ}{ë:Pos}
def pj_nil:PJ X [] SI:=λÂ s σ H Į Q I h=>⟨H,I,h.1,h.2⟩
def GA(he:PE X e te)(hr:PJ X es tr)(hs:cu (e::es) X.env=eval e X.env::cu es X.env:=by rfl):PJ X (e::es)<|QJ te tr:=by intro Â s σ H Į Q I h;rw[hs];show wpAny _ _ _ _ _ _;refine thn (he Â s σ H _ I h) λv s1 ⟨x,H1,I1,r1,y,e1,hz,q1⟩=>?_;subst e1;let⟨t,rfl⟩:=r1;exact⟨y,t,rfl,hz,hr Â s1 σ H1 (Į++y) Q I1 q1⟩
def Joins.imp{M:Model}{A:Ċ}{E:Ã->Å->Prop}:∀{ps:List (Sem Ã)}{Į:Str}{Q Q':Str->Å->Prop}{s:Å},(∀o s,Q o s->Q' o s)->Joins M A E ps Į Q s->Joins M A E ps Į Q' s
 |[],_,_,_,_,f,h=>f _ _ h
 |_::_,_,_,_,_,f,h=>thn h λv s1 ⟨y,t,e,hz,hr⟩=>⟨y,t,e,hz,Joins.imp f hr⟩
end
abbrev wT:Str:="tie"
structure fm(bs:List Int)(ts:List Tie):Prop where
 br:BrOk bs
 ti:TsOk bs ts
 so:sortI bs=bs
 lo:ts.map loT=ts
end L2
namespace L2
open PySem PySem.Spec PyProof.Rows
variable {P:ã} {w:Ā} {H:Hp} {h:ĉ} {a:Í}
def eZ.obj{o:HO}(x:eZ P w H h a o):∃u,h.get? a=eL u:=by
 cases o with
 |lst xs=>let⟨_,_,_,_,e⟩:=x;exact⟨_,e⟩
 |tup xs=>let⟨_,_,_,ob,e,_⟩:=x;exact⟨_,e⟩
 |dK kvs=>let⟨_,_,_,_,o,_,_,e,_⟩:=x;exact⟨_,e⟩
 |dT kvs=>let⟨_,_,_,_,o,_,_,e,_⟩:=x;exact⟨_,e⟩
 |set S n=>let⟨o,_,_,_,e,_⟩:=x;exact⟨_,e⟩
 |ins C dx fs=>let⟨_,_,_,e,_⟩:=x;exact⟨_,e⟩
 |own y=>exact x
 |xd fs=>let⟨_,⟨_,_,_,e,_⟩,_⟩:=x;exact⟨_,e⟩
 |rng lo hi=>let⟨_,_,_,e⟩:=x;exact⟨_,e⟩
 |frz ob u=>exact⟨_,x.1⟩
 |tbl ps=>exact⟨_,(show h.get? a=eL _ from x)⟩
 |met f y=>exact⟨_,(show h.get? a=eL _ from x)⟩
 |ext φ=>exact x.2.1
abbrev EX(h:ĉ)(a:Í)(cls:Ã)(T:Option Í):Prop :=
 ∃oe vs a0,h.get? a=eL oe/\oe.cls=cls/\oe.data=.fields vs/\vs[0]?=eL a0/\
  match T with
  |none=>vs[1]?=eL .none
  |some T=>vs[1]?=eL (.ref T)/\T≠a/\∃oT ts fl,h.get? T=eL oT/\oT.data=.fields ts/\ts[3]?=eL fl
structure Fl(P:ã)(w:Ā)(l:List Env)(H:Hp)(s:Å)(H':Hp)(a:Í)(cls:Ã)(s':Å):Prop where
 os:s'.os=s.os
 bare:Ψ s'.gens
 un:Un (frs l) [] H H' s.heap s'.heap
 hok:HOk P w H' s'.heap
 na:s.heap.get? a=eM
 ha:H' a=eM
 ex:∃T,EX s'.heap a cls T/\∀t,T=eL t->s.heap.get? t=eM/\H' t=eM
abbrev CX1(P:ã)(w:Ā):CXT:=λl H s E e s'=>∃a cls H',e=.ref a/\Fl P w l H s H' a cls s'/\E cls eM H'
abbrev XW(X:Cx)(E:XK):Prop:=∀(Â:List<|Í×Obj) (σ:St) (H:Hp) (s:Å) (H':Hp) (a:Í) (cls:Ã) (s':Å),
 Inv X Â σ H s->Fl X.prog X.w X.stack H s H' a cls s'->E cls eM H'->X.xe (.ref a) s'
def XW.passes{X:Cx}{E:XK}(h:XW X E):Xl (CX1 X.prog X.w) X E:=λÂ σ H s e s' I ⟨a,cls,H',z,f,q⟩=>by subst z;exact h Â σ H s H' a cls s' I f q
section
variable {M:Model}{A:Ċ}{E:Ã->Å->Prop}{s:Å}{B:ĉ}{env:Env}{outer:List Env}{L a:Í}{cls:Ã}{T:Option Í}{Q:Unit->Å->Prop}
abbrev Y3(h:ĉ)(l:List Env)(a:Í)(T:Option Í):ĉ:=PySem.W.hideAll h<|a::(T.toList++frs l)
def YX(h:ĉ)(l:List Env)(a:Í)(T:Option Í):(Y3 h l a T).StaysIn h:=λb o e=>PySem.W.of_hideAll _ e
def Jx{l:List Env}(a:Í)(T:Option Í)(hl:h.FunFrames B l):h.FunFrames (Y3 h l a T) l :=
 PySem.W.funFrames_hide hl λe he b hb=>á _<|Ç _<|Ŭ.mpr ⟨e,he,hb⟩
def UM(h:ĉ)(l:List Env)(a:Í)(T:Option Í):(Y3 h l a T).get? a=eM:=PySem.W.hideAll_none _ ô
def Ak(h:ĉ)(l:List Env)(a t:Í):(Y3 h l a<|eL t).get? t=eM:=PySem.W.hideAll_none _ (á _<|Ð _<|by simp)
def A5(bP:A.frames=eL (env::outer))(hf:env.frame=eL L)(hl:s.heap.FunFrames B<|env::outer)(hx:EX s.heap a cls T)
  (fin:∀h' a0,Heap.NotedW (Y3 s.heap (env::outer) a T) (env::outer) a cls a0 (ħ L) s.heap h'->Q () {s with heap:=h'}):wpAny M A (bu (.ref a) env) Q E s:=by
 let⟨oe,vs,a0,he,hc,hd,h0,ht⟩:=hx;have fin:=λh'=>fin h' a0;cases T with
 |none =>subst hc;unfold bu;simp only[hf];refine À<|Ō he hd ht ?_;rw[gq<|by decide];exact wpAny_entryW bP (Jx a eM hl) hf he (YX _ _ _ _) (UM _ _ _ _) hd (ĸ.mp ht).1 h0 fin
 |some t =>
  let⟨h1,ž,oT,ts,fl,e1,e2,e3⟩:=ht;by_cases c:fl=ħ L
  .subst c;have tr:s.heap.TracedAtW (Y3 s.heap (env::outer) a<|eL t) a cls a0<|ħ L:=⟨oe,vs,t,oT,ts,he,⟨hc,h0⟩,hd,h1,Ak _ _ _ _,ž,e1,e2,e3⟩
   exact wpAny_noteFrame_againW hf tr<|fin _ ⟨YX _ _ _ _,Jx a (eL t) hl,tr,λb o e nf=>⟨o.slots,e⟩⟩
  .subst hc;unfold bu;simp only[hf];refine À<|Ō he hd h1 ?_;rw[gp<|by simp];refine À<|Ō e1 e2 e3 ?_;rw[gq<|by simpa using c];refine À<|Ł e1 e2 (ĸ.mp e3).1 ?_;have off:∀b,b≠t->(s.heap.update t (Ξ (·.setIfInBounds 3 Value.none))).get? b=s.heap.get? b:=λb hb=>ñ _ _ hb.symm;have nr:∀b o,s.heap.get? b=eL o->(∀vs,o.data≠.fields vs)->b≠t:=λb o hb nf z=>by
    rw[z,e1]at hb;cases hb;exact nf ts e2
   have bn:=Ak s.heap (env::outer) a t;exact wpAny_entryW bP ((Jx a (eL t) hl).of_keeps λb o hb nf=>⟨o,(off b<|nr b o hb nf).trans hb,rfl⟩) hf ((off a ž.symm).trans he) (λb o hbo=>(off b λz=>by rw[z,bn]at hbo;cases hbo).trans<|YX _ _ _ _ b o hbo) (UM _ _ _ _) hd (ĸ.mp h1).1 h0 λh' ⟨x1,x2,x3,x4⟩=>fin h' ⟨x1,x2,x3,λb o hb nf=>x4 b o ((off b<|nr b o hb nf).trans hb) nf⟩
def AH(bP:A.frames=eL (env::outer))(hf:env.frame=eL L)(hl:s.heap.FunFrames B<|env::outer)(hx:EX s.heap a cls T)
  (h:∀h' a0,dG (Y3 s.heap (env::outer) a T) (env::outer) a cls a0 s.heap h'->Q () {s with heap:=h'}):wpAny M A (bu (.ref a) env) (λ_ s2=>wpAny M A (setFlight (.ref a) eM) Q E s2) E s :=
 A5 bP hf hl hx λh' a0 ⟨k1,k2,k3,k4⟩=>wpAny_setFlight_noneW k1 k2 k3 λh2 j1 j2 j3 j4=>h h2 a0 ⟨j1,j2,j3,λb o e nf=>by
   let⟨sl,e2⟩:=k4 b o e nf
   exact⟨sl,j4 b _ e2 nf⟩⟩
def Uk(bP:A.frames=eL (env::outer))(hf:env.frame=eL L)(hl:s.heap.FunFrames B<|env::outer)(hx:EX s.heap a cls T)
  (h:∀h' a0,dG (Y3 s.heap (env::outer) a T) (env::outer) a cls a0 s.heap h'->Q () {s with heap:=h'}):wpAny M A (leaving env<|.ref a) Q E s:=À<|AH bP hf hl hx h
end
variable {l:List Env} {H':Hp} {s:Å} {s':Å} {cls:Ã} {a0:Ã} {h':ĉ} {B:ĉ} {T:Option Í}
def Fl.noted{fl:Ã}(f:Fl P w l H s H' a cls s')(hT:∀t,T=eL t->s.heap.get? t=eM/\H' t=eM)
  (hl:s'.heap.FunFrames B l) (bP:∀b∈frs l,H' b=eM) (z:Heap.NotedW (Y3 s'.heap l a T) l a cls a0 fl s'.heap h'):Fl P w l H s H' a cls {s' with heap:=h'}:=by
 let⟨k1,k2,k3,k4⟩:=z;have inb:∀b o,s'.heap.get? b=eL o->b≠a->(∀t,T=eL t->b≠t)->b∉frs l->h'.get? b=eL o:=λb o e na nt nf=>k1 b o (PySem.W.hideAll_get _ e (by
   intro m
   rcases È.mp m with m|m
   . exact na m
   . rcases Õ.mp m with m|m
     . cases T with
       |none=>cases m
       |some t=>exact nt t rfl ⇑m
     . exact nf m))
 have slot:∀b o,s'.heap.get? b=eL o->b∈frs l->∃sl,h'.get? b=eL {o with slots:=sl}:=λb o e hb=>by let⟨_,o2,e2,nf⟩:=hl.mem hb;rw[e]at e2;cases e2;exact k4 b o e nf
 have Ϛ:∀b o,s.heap.get? b=eL o->b≠a/\∀t,T=eL t->b≠t:=λb o e=>⟨(λz=>by rw[z,f.na]at e;cases e),(λt ht z=>by rw[z,(hT t ht).1]at e;cases e)⟩
 refine⟨f.os,f.bare,⟨λb o e n nf _=>?_,λb o e n hb _=>?_,f.un.free,λb o e _=>?_,f.un.tups,f.un.frzs,f.un.tbls⟩,?_,f.na,f.ha,?_⟩
 .exact inb b o (f.un.keep b o e n nf<|by simp) (Ϛ b o e).1 (Ϛ b o e).2 nf
 .obtain⟨sl,e1⟩:=f.un.slot b o e n hb (by simp);let⟨sl',e2⟩:=slot b _ e1 hb;exact⟨sl',e2⟩
 .obtain⟨o1,e1⟩:=f.un.there b o e (by simp);by_cases hb:b∈frs l
  .obtain⟨sl,e2⟩:=slot b _ e1 hb;exact⟨_,e2⟩
  .exact⟨o1,inb b o1 e1 (Ϛ b o e).1 (Ϛ b o e).2 hb⟩
 .intro b u e;have good:∀c v,H' c=eL v->∀ob,s'.heap.get? c=eL ob->h'.get? c=eL ob:=λc v ec ob eo =>
   inb c ob eo (λz=>by rw[z,f.ha]at ec;cases ec) (λt ht z=>by rw[z,(hT t ht).2]at ec;cases ec) λm=>by rw[bP c m]at ec;cases ec
  refine(f.hok b u e).stay (λc v hc q=>?_) (λ_ q=>q) λ_ _ q=>q;rcases hc with z|z
  .rw[z]at q ⊢;exact good b u e v q
  .exact good c _ z v q
 .obtain⟨oe,vs,t',oT,ts,e1,⟨e2,e3⟩,e4,e5,e6,e7,e8,e9,e10⟩:=k3;refine⟨eL t',⟨oe,vs,a0,e1,e2,e4,e3,e5,e7,oT,ts,fl,e8,e9,e10⟩,λt ht=>?_⟩;cases ht;have hid:∀o,s'.heap.get? t'=eL o->T=eL t':=λo e=>by
   have nin:¬ (t'∉(a::(T.toList++frs l))):=λm=>by have q:(Y3 s'.heap l a T).get? t'=eL o:=PySem.W.hideAll_get _ e m;rw[e6]at q;cases q
   have m:=Classical.not_not.mp nin;rcases È.mp m with m|m
   .exact gA m e7
   .rcases Õ.mp m with m|m
    .cases T with
     |none=>cases m
     |some t=>rw[show t'=t by simpa using m]
    .obtain⟨_,o2,q,nf⟩:=k2.mem m;rw[e8]at q;cases q;exact gA e9<|nf ts
  constructor
  .cases q:s.heap.get? t' with
   |none=>rfl
   |some o =>let⟨o1,q1⟩:=f.un.there t' o q (by simp);have:=(hT t'<|hid o1 q1).1;rw[q]at this;cases this
  .cases q:H' t' with
   |none=>rfl
   |some u =>let⟨o1,q1⟩:=(f.hok t' u q).obj;have:=(hT t'<|hid o1 q1).2;rw[q]at this;cases this
def Fl.left(f:Fl P w l H s H' a cls s')(hT:∀t,T=eL t->s.heap.get? t=eM/\H' t=eM)
  (hl:s'.heap.FunFrames B l) (bP:∀b∈frs l,H' b=eM) (z:dG (Y3 s'.heap l a T) l a cls a0 s'.heap h'):Fl P w l H s H' a cls {s' with heap:=h'}:=f.noted (fl:=.none) hT hl bP z
section
variable {P:ã}{w:Ā}{K:Frag}{mg:Str->Option Ã}{base:ĉ}
variable {X:Cx} {H:Hp} {s:Å}
def Inv.raised{Â:List (Í×Obj)}{σ:St}{H':Hp}{s':Å}{a:Í}{cls:Ã}(I:Inv X Â σ H s)(f:Fl X.prog X.w X.stack H s H' a cls s'):Inv X Â σ H' s' :=
 I.call' (ch:=[]) f.os f.un f.hok f.bare (λb z=>gA z<|by simp)
def Ox(ok:X.Ok)(h:X.stack=X.env::X.outer):X.env.frame=eL X.env.locals:=by
 rcases ok.stk with e|e
 .rw[h]at e;exact gA (congrArg List.length e) (by simp)
 .exact e.2
variable {N:List Str} {qual:Str} {f:Í}
def LS{scope:ν}{cd:Ã}{A:Ċ}{outer:List Env}{E:XK}:XW (Mh (CX1 P w) P w K mg base N qual scope f cd A outer s H E) E:=by
 intro Â σ H2 s2 H' a cls s' I f q;have J:=I.raised f;let⟨T,hx,hT⟩:=f.ex;show wpAny _ _ (leaving _ _) _ _ _;refine Uk (outer:=outer) J.ok.frames (Ox J.ok rfl) J.stack hx λh' a0 z=>?_;have f2:=f.left hT J.stack J.stkFree z;have J2:=I.raised f2;have aK:∀b,s2.heap.get? b=eM->s.heap.get? b=eM:=λb e=>by
  cases z:s.heap.get? b with
  |none=>rfl
  |some o =>let⟨o',e'⟩:=I.base.there b o z (by intro m;cases m);rw[e]at e';cases e'
 let⟨T2,hx2,hT2⟩:=f2.ex;exact⟨a,cls,H',rfl,⟨J2.os,J2.bare,J2.base,J2.hok,aK a f2.na,f2.ha,T2,hx2,λt ht=>⟨aK t (hT2 t ht).1,(hT2 t ht).2⟩⟩,q⟩
def Fun.ok1{x:Str}{st:ľ}{fd:Ŋ}{ps:List Str}{k:Nat}{sp:Sp}(F:Fun K x qual st f fd)(S:FnScope N ps<|Zu st)(len:∀vs H Q E,sp vs H Q E->vs.length=ps.length)
  (hbody:∀(ϧ:Ã) (A:Ċ) (outer:List Env) (s:Å) (H:Hp) (vs:List V) (Q:VK) (E:XK),fy k (A.deeper<|ay qual (Zu st) s.heap.objs.size f ϧ)->sp vs H Q E->
    XW (Mh (CX1 P w) P w K mg base N qual (Zu st) f ϧ A outer s H E) E->
    ∃t,PSs (Mh (CX1 P w) P w K mg base N qual (Zu st) f ϧ A outer s H E) (ZP st) t/\t { nx:=λ_ H'=>Q .non H',rt:=Q } (start N vs) H):fz P w K mg base (CX1 P w) (k+1) f fd ps sp:=by
 let⟨oc,od,kV,doc,pm,an,ϧ,ct,osl,rfl,lk,bf⟩:=F.ex;exact Rx lk bf S len λA outer s H vs Q E hr hsp=>hbody ϧ A outer s H vs Q E hr hsp LS
end
abbrev XP(X:Cx)(Â:List<|Í×Obj)(σ:St)(E:XK)(v:Ã)(s':Å):Prop :=
 ∃a cls H1 H' s1,v=.ref a/\Inv X Â σ H1 s1/\Fl X.prog X.w X.stack H1 s1 H' a cls s'/\E cls eM H'
abbrev xcO(a:Í)(cls:Ã):HO:=.ext λh=>∃o vs,h.get? a=eL o/\o.cls=cls/\o.data=.fields vs
end L2
namespace L2
open PySem PySem.Spec PySem.W PySem.Calls PyProof.Rows PySem.Builtin PySem.Builtin.ObjectAttr PySem.Builtin.Getset_descriptor
section
variable {prog:ã}{w:Ā}{A:Ċ}{E:Ã->Å->Prop}{K:Frag}{h:ĉ}{g:Array cg}{d:Drawn}{t:Nat}{os:OsState}{a C:Í}{o:Obj}
structure XCls(K:Frag)(C:Í):Prop where
 ga:Ϲ K (.ref C) "__getattribute__" = eL (eL<|.builtin "BaseException.__getattribute__")
 gr:Ϲ K (.ref C) "__getattr__" = eL eM
 cl:Ϲ K (.ref C) "__class__" = eL (eL<|.builtin "object.__class__")
 mo:mroIn K C (.type "object")=eL eN
 mb:mroIn K C (.type "BaseException")=eL eN
 ci:(clsIn K C).isSome=eN
end
end L2
namespace L2
open PySem PySem.Spec PyProof.Rows
section
variable {X:Cx}
def Kc:eY X (.type "int") λxs H Q=>∃z n,xs=[.str z]/\PySem.intText? z=eL n/\z.length<=640/\Q (.int n) H:=by intro Â s σ H xs us Q I r h;let⟨z,n,rfl,e,hl,q⟩:=h;let⟨u,rfl,t,rfl⟩:=Z2 r;exact PySem.W.KIN.call_text e hl ⟨.int n,H,I.tok _,⟨_,rfl⟩,q⟩
end
end L2
namespace L2
open PySem PySem.Spec PyProof.Rows
open PySem.Builtin PySem.Builtin.Str
abbrev As(z:Str)(lo hi:Option Int):Str:=if(Β lo hi 1 z.length).length=z.length then z else⟨((Β lo hi 1 z.length).filterMap (z.cps[·]?)).toArray⟩
def Ep(z:Str)(lo hi:Option Int):(As z lo hi).length<=z.length:=by
 unfold As;split
 .exact Ì _
 .show((Β lo hi 1 z.length).filterMap (z.cps[·]?)).toArray.size<=_;rw[Ê];exact Ý (Ũ _ _)<|indices_len_le lo hi z.length
section
variable {X:Cx}
abbrev QG:V->Option Int->Option Int->Hp->VK->Prop:=λx lo hi H Q=>∃z,x=.str z/\z.length<=ß/\Q (.str<|As z lo hi) H
def Ur{v:Ã}{lo:Option Int}(h:ϑ v lo):∃l:Option<|Int×Tok,v=partValue l/\l.map (·.1)=lo:=by
 cases h with
 |none=>exact⟨eM,rfl,rfl⟩
 |int i t=>exact⟨eL (i,t),rfl,rfl⟩
def sl_str:SlR X QG:=by
 intro Â s σ H x v vl vu lo hi sl Q I rx hs pl pu h;let⟨z,rfl,hz,q⟩:=h;let⟨t,rfl⟩:=rx;refine⟨"str",_,slot_str_getitem.lookup,typeIs_str s z t,?_⟩;let⟨l,rfl,el⟩:=Ur pl;let⟨u,rfl,eu⟩:=Ur pu;have hs':s.heap.IsSlice sl l u eM:=hs;refine wpAny_getItem_str_slice hs' rfl ?_;have e:sliceMade z t l u eM=if(Β lo hi 1 z.length).length=z.length then .val (.str z t)else .str ⟨((Β lo hi 1 z.length).filterMap (z.cps[·]?)).toArray⟩:=by unfold sliceMade slicePicked;rw[el,eu];simp
 rw[e];have cl:=Ep z lo hi;unfold As at q cl;split
 .rename_i hh;rw[gp hh]at q;exact⟨.str z,H,I,⟨t,rfl⟩,q⟩
 .rename_i hh;rw[gq hh]at q cl;exact⟨Ý cl hz,.str _,H,I.tok _,⟨_,rfl⟩,q⟩
end
section
variable {X:Cx}
def UY(z:Str):∀(n:Nat) (a:Array Nat),((Þ n z.cps).foldl (· ++ ·) a).size=a.size+n*z.cps.size
 |0,a=>by simp
 |n+1,a=>by rw[ċ,ŀ,UY z n,Array.size_append,Nat.succ_mul];lia
end
end L2
namespace L2
open PySem PySem.Spec PyProof.Rows
section
variable {X:Cx}(K:Frag) (h:X.K=K)
include h
end
end L2
namespace HT
open PySem PyProof.Rows
open PySem.SeqAt
open PySem.AutoSeq1 (wpAny_loadPart')
open PySem.MeetsSeq PySem.MeetsSeq2 PySem.MeetsSeq3
section
variable {prog:ã}{w:Ā}{A:Ċ}{E:Ã->Å->Prop}{s:Å}
def getItem_tuple_whole{t sl:Í}{items:Array Ã}{vl vu:Ã}{lo hi:Option Int}{Q:Ã->Å->Prop}(ht:aN s.heap t items)(hs:s.heap.IsSliceOf sl vl vu .none)(pl:ϑ vl lo)(pu:ϑ vu hi)
  (hw:sIx items.size 0 lo=0/\sIx items.size items.size hi=items.size)
  (h:Q (.ref t) s):wpAny (à prog w) A (ϟ (.ref t)<|.ref sl) Q E s:=by
 let⟨os,hos,hcs,hds⟩:=id hs;have hTs:s.TypeIs (.ref sl) "slice":=⟨os,hos,hcs⟩
 unfold ϟ
 try with_reducible refine ę ?_
 first|refine À (Æ ?_)|skip
 refine À (wpAny_sequenceKey ht.typeIs (by decide) ?_);refine À (Ĵ (name:=gC "__getitem__") ht.typeIs PyProof.Rows.slot_tuple_getitem
   (Ğ PyProof.Rows.slot_tuple_getitem ht.typeIs entry_tuple_getitem ?_<|args_tuple_getitem _ _))
 show wpAny _ _ (Builtin.Tuple.tupleItemsOf (.ref t) >>= _) _ _ s;refine À<|tupleItemsOf_ ht ?_;refine À<|Ϡ hTs ?_;rw[gp<|by decide];refine À<|Yx hs pl pu ?_;have hyes:(((sIx items.size 0 lo:Nat):Int)==0&&(1:Int)==1&&(sIx items.size items.size hi - sIx items.size 0 lo)==items.size)=eN:=by rw[hw.1,hw.2];simp
 show wpAny _ _ (if(((sIx items.size 0 lo:Nat):Int)==0&&(1:Int)==1&&(sIx items.size items.size hi - sIx items.size 0 lo)==items.size)=eN then _ else _) _ _ s;rw[gp hyes];refine À ?_;unfold Builtin.Tuple.tupleIsExact;refine À<|Ϡ ht.typeIs<|Æ ?_;rw[gp<|by decide]
 first
  |exact À<|Æ<|Æ ⟨_,rfl,Æ h⟩
  |exact À<|ϡ<|Æ ⟨_,rfl,Æ h⟩
  |exact Æ ⟨_,rfl,Æ h⟩
end
end HT
namespace L2
open PySem PySem.Spec PyProof.Rows
section
variable {X:Cx}
abbrev QH(K:Frag):V->Option Int->Option Int->Hp->VK->Prop:=λx lo hi H Q=>∃a xs,x=.ref a/\fZ K H a xs/\(HT.sIx xs.length 0 lo=0/\HT.sIx xs.length xs.length hi=xs.length)/\Q (.ref a) H
def FE:SlR X<|QH X.K:=by
 intro Â s σ H x v vl vu lo hi sl Q I rx hs pl pu h;let⟨a,xs,rfl,hx,hw,q⟩:=h;cases rx;let⟨ø,r,ht,hz⟩:=I.tuple hx;have hlen:ø.toArray.size=xs.length:=by rw[Ê];exact r.length.symm
 refine⟨"tuple",_,PyProof.Rows.slot_tuple_getitem.lookup,ht.typeIs,?_⟩;exact HT.getItem_tuple_whole ht hs pl pu (by rw[hlen];exact hw) ⟨.ref a,H,I,rfl,q⟩
end
end L2
namespace L2
open PySem PySem.Spec PyProof.Rows
open PySem.Builtin PySem.Builtin.Str
section
variable {X:Cx}
abbrev Iv(z:Str)(n:Nat):Str:=⟨(Þ n z.cps).foldl (· ++ ·) #[]⟩
def KN(z:Array Nat):∀(n:Nat) (a:Array Nat),((Þ n z).foldl (· ++ ·) a).toList=a.toList++(Þ n z.toList).flatten
 |0,a=>by simp
 |n+1,a=>by rw[ċ,ŀ,KN z n,ċ,ń,Array.toList_append,Ĕ]
abbrev HD:R2:=λx y H Q=>∃z k,x=.str z/\y=.int k/\2<=k/\k<=1000000/\1<=z.length/\z.length*k.toNat<=1000000/\Q (.str<|Iv z k.toNat) H
def EM:OpR X (ŉ .Mult) HD:=by
 intro Â s σ H x y v u Q I rx ry h;let⟨z,k,rfl,rfl,h2,h6,h1,hz,q⟩:=h;let⟨t,rfl⟩:=rx;let⟨t',rfl⟩:=ry;have big:(1000000:Nat)<=ß:=by decide
 have nb:(k==1||z.length==0)=eP:=by have e1:(k==1)=eP:=beq_false_of_ne (by lia);have e2:(z.length==0)=eP:=beq_false_of_ne (by lia);rw[e1,e2];rfl
 have zl:z.length<=1000000:=by have:z.length*1<=z.length*k.toNat:=dI _ (by lia);lia
 have hr:(gB (k < -(2 ^ 63:Int))||gB (k≥2 ^ 63))=eP:=by rw[gu (by lia),gu<|by lia];rfl
 have hb:¬ k<1->(k==1||z.length==0)=eP->¬ ((z.length:Int) > (2 ^ 63 - 1) / k):=λ_ _=>by have:(1000000:Int)<=(2 ^ 63 - 1) / k:=(cx<|by lia).mpr (by lia);lia
 have hl:¬ k<1->(k==1||z.length==0)=eP->tooLong (z.length*k.toNat)=eP:=λ_ _=>by unfold tooLong;exact gu (by lia)
 refine P.mul_str hr hb hl ?_;rw[gq (by lia),gq<|by rw[nb];exact ú];have el:(⟨(Þ k.toNat z.cps).foldl (· ++ ·) #[]⟩:Str).length=z.length*k.toNat:=by show((Þ k.toNat z.cps).foldl (· ++ ·) #[]).size=_;rw[UY,cr z.length];simp[Str.length]
 exact⟨by rw[el];lia,.str _,H,I.tok _,⟨_,rfl⟩,q⟩
variable {c y z a b:Str}{k1 k2 k3:Nat}{p1 p2 p3 p4 pa pb Ő š:Pos}
end
end L2
namespace L2
open PySem PySem.Spec PyProof.Rows
section
variable {X:Cx}
abbrev HK(K:Frag):R2:=λx y H Q=>∃a b ys,x=.ref a/\y=.ref b/\fZ K H a []/\fZ K H b ys/\Q (.ref b) H
def op_cat0:OpR X (ŉ .Add)<|HK X.K:=by
 intro Â s σ H x y v u Q I rx ry h;let⟨a,b,ys,rfl,rfl,ha,hb,q⟩:=h;cases rx;cases ry;let⟨ø,r1,p1,_⟩:=I.tuple ha;let⟨ϛ,r2,p2,_⟩:=I.tuple hb;cases r1;let⟨⟨cls,dd,data,sl⟩,ho,hc,n,hd⟩:=id p1;let⟨⟨cls2,cV,data2,dU⟩,ho2,hc2,n2,bM⟩:=id p2;simp only at hc hd hc2 bM;subst hc hd hc2 bM;exact d7 ⟨_,ho,rfl⟩ ⟨_,ho2,rfl⟩ bq dg PySem.F.slot_tuple_add PySem.F.entry_tuple_add (PySem.F.args_tuple_add_2 _ _)
  (tuple_addW0 a b _ _ n n2 dd cV sl dU rfl) ⟨ho,ho2,.ref b,H,I,rfl,q⟩
end
section
variable {X:Cx}
abbrev P7(te:TE):TE:=λσ H Q=>te σ H λx H1=>(∃i,x=.int i/\i.natAbs.log2<1920/\Q (.str<|toString i) H1)\/∃z,x=.str z/\z.length<=ß/\Q (.str z) H1
def Gy{e:Expr}{te:TE}{ë:Pos}(he:PE X e te):PE X (.FormattedValue e (-1) eM ë)<|P7 te:=by
 intro Â s σ H Q I h;refine wpAny_FormattedValue_plain<|thn (he Â s σ H _ I h) λv s1 ⟨x,H1,I1,r1,q1⟩=>?_;rcases q1 with⟨i,e1,hd,q1⟩|⟨z,e1,hz,q1⟩
 .subst e1;let⟨t,rfl⟩:=r1;exact wpAny_formatField_int hd ⟨.str _,H1,I1.tok _,⟨_,rfl⟩,q1⟩
 .subst e1;let⟨t,rfl⟩:=r1;exact wpAny_formatField_str ⟨.str _,H1,I1,⟨_,rfl⟩,q1⟩ ⟨.str _,H1,I1.tok _,⟨_,rfl⟩,q1⟩ hz
abbrev FU(K:Frag)(neg:Bool):R2:=λx y H Q=>∃ds d,(IsD K H y (.tuple ds)\/IsD K H y (.list ds))/\IsD K H x d/\Ŗ ds=eN/\d.canLay0=eN/\d.depth<=64/\Q (.bl<|if neg then !ds.any (λe=>ĩ e d)else ds.any λe=>ĩ e d) H
def HY(hu:X.A.units+65<Ī):OpR X (î .In)<|FU X.K eP:=by
 intro Â s σ H x y v u Q I rx ry h;let⟨ds,d,hd,he,sd,se,hdp,q⟩:=h;let⟨bs,rb⟩:=he.reads I rx;have hr:X.A.units+1+min (Ŀ ds) d.depth<Ī:=by have:min (Ŀ ds) d.depth<=d.depth:=az _ _;lia
 rcases hd with hd|hd
 .obtain⟨as,ra⟩:=hd.reads I ry;exact SeqAt.in_tuple_reads ra rb sd se hr ⟨.bl _,H,I,rfl,q⟩
 .obtain⟨as,ra⟩:=hd.reads I ry;exact SeqAt.in_list_reads ra rb sd se hr ⟨.bl _,H,I,rfl,q⟩
def Bg(hu:X.A.units+65<Ī):OpR X (î .NotIn)<|FU X.K eN:=by
 intro Â s σ H x y v u Q I rx ry h;let⟨ds,d,hd,he,sd,se,hdp,q⟩:=h;let⟨bs,rb⟩:=he.reads I rx;have hr:X.A.units+1+min (Ŀ ds) d.depth<Ī:=by have:min (Ŀ ds) d.depth<=d.depth:=az _ _;lia
 rcases hd with hd|hd
 .obtain⟨as,ra⟩:=hd.reads I ry;exact SeqAt.notIn_tuple_reads ra rb sd se hr ⟨.bl _,H,I,rfl,q⟩
 .obtain⟨as,ra⟩:=hd.reads I ry;exact SeqAt.notIn_list_reads ra rb sd se hr ⟨.bl _,H,I,rfl,q⟩
end
section
variable {κ:Type} [DecidableEq κ]
abbrev Yt(kvs:List<|κ×V)(k:κ):Option V:=(kvs.find? λkv=>gB (kv.1=k)).map (·.2)
abbrev fv(kvs:List<|κ×V)(k:κ)(v:V):List (κ×V) :=
 if(kvs.any λkv=>gB (kv.1=k))=eN then kvs.map (λkv=>if kv.1=k then(kv.1,v)else kv)else kvs++[(k,v)]
abbrev fw(kvs:List<|κ×V)(k:κ):List<|κ×V:=kvs.filter λkv=>gB (kv.1≠k)
variable {p:κ×V} {r:List (κ×V)}
def Xk{k:κ}(e:p.1=k):Yt (p::r) k=eL p.2:=by simp[Yt,Ę,e]
def Xj{k:κ}(e:¬ p.1=k):Yt (p::r) k=Yt r k:=by simp[Yt,Ę,e]
def Xa(k:κ):∀kvs:List<|κ×V,(kvs.any λkv=>gB (kv.1=k))=(Yt kvs k).isSome
 |[]=>rfl
 |p::r=>by
  rw[ķ];by_cases e:p.1=k
  .simp only[Xk e,gx e,Bool.true_or,Option.isSome_some]
  .rw[Xj e,gu e,Bool.false_or];exact Xa k r
def Xi(kvs:List<|κ×V)(k:κ)(v:V):(fv kvs k v).length<=kvs.length+1:=by
 unfold fv;split
 .rw[Á];lia
 .rw[í,Ï,Ĳ];lia
variable {o:Option V} {u:Option Ã}
def fx.isSome_eq(r:fx o u):o.isSome=u.isSome:=by
 cases o with
 |none=>cases u with
  |none=>rfl
  |some _=>exact(show False from r).elim
 |some _=>cases u with
  |none=>exact(show False from r).elim
  |some _=>rfl
def fx.getD{d:V}{d':Ã}(r:fx o u)(rd:RelV d d'):RelV (o.getD d)<|u.getD d':=by
 cases o with
 |none=>cases u with
  |none=>exact rd
  |some _=>exact(show False from r).elim
 |some _=>cases u with
  |none=>exact(show False from r).elim
  |some _=>exact r
variable {kvs:List (κ×V)} {vs:List (κ×Ã)}
def KV.val(r:KV kvs vs)(k:κ):fx (Yt kvs k)<|Ϣ vs k:=by
 unfold KV at r;induction r with
 |nil=>exact True.intro
 |@cons p q ps qs h t ih =>
  let⟨h1,h2⟩:=h;by_cases e:p.1=k
  .have e':q.1=k:=h1.symm.trans e;have b:Ϣ (q::qs) k=eL q.2:=by simp[Ϣ,Ę,e']
   rw[Xk e,b];exact h2
  .have e':¬ q.1=k:=λz=>e<|h1.trans z;have b:Ϣ (q::qs) k=Ϣ qs k:=by simp[Ϣ,Ę,e']
   rw[Xj e,b];exact ih
def KV.any(r:KV kvs vs)(k:κ):(kvs.any λkv=>gB (kv.1=k))=vs.any λkv=>gB (kv.1=k):=by
 unfold KV at r;induction r with
 |nil=>rfl
 |cons h t ih=>rw[ķ,ķ,ih,h.1]
variable {y:V}
def KV.repl(r:KV kvs vs)(k:κ){u:Ã}(ry:RelV y u) :
  KV (kvs.map λkv=>if kv.1=k then(kv.1,y)else kv) (vs.map λkv=>if kv.1=k then(kv.1,u)else kv):=by
 unfold KV at r ⊢;induction r with
 |nil=>exact .nil
 |@cons p q ps qs h t ih =>
  rw[Ñ,Ñ];refine .cons ?_ ih;let⟨h1,h2⟩:=h;by_cases e:p.1=k
  .rw[gp e,gp<|h1.symm.trans e];exact⟨h1,ry⟩
  .rw[gq e,gq λz=>e<|h1.trans z];exact⟨h1,h2⟩
def KV.put(r:KV kvs vs)(k:κ){u:Ã}(ry:RelV y u):KV (fv kvs k y)<|stored vs k u:=by
 unfold fv stored;rw[r.any k];by_cases e:(vs.any λkv=>gB (kv.1=k))=eN
 .rw[gp e,gp e];exact r.repl k ry
 .rw[gq e,gq e];exact Paired.snoc r ⟨rfl,ry⟩
def KV.drop(r:KV kvs vs)(k:κ):KV (fw kvs k)<|without vs k:=by
 unfold KV at r ⊢;unfold fw without;induction r with
 |nil=>exact .nil
 |@cons p q ps qs h t ih =>
  let⟨h1,h2⟩:=h;rw[ē,ē];by_cases e:p.1=k
  .have a:¬ gB (p.1≠k)=eN:=by simp[e]
   have b:¬ gB (q.1≠k)=eN:=by simp[h1.symm.trans e]
   rw[gq a,gq b];exact ih
  .have e':¬ q.1=k:=λz=>e<|h1.trans z;have a:gB (p.1≠k)=eN:=by simp[e]
   have b:gB (q.1≠k)=eN:=by simp[e']
   rw[gp a,gp b];exact .cons ⟨h1,h2⟩ ih
def KV.keys(r:KV kvs vs):kvs.map (·.1)=vs.map (·.1):=by
 unfold KV at r;induction r with
 |nil=>rfl
 |cons h t ih=>rw[Ñ,Ñ,ih,h.1]
def KV.length(r:KV kvs vs):kvs.length=vs.length:=Paired.length r
def DI(kvs:List<|κ×V)(k:κ):(fw kvs k).length<=kvs.length:=Ļ _ _
end
variable {P:ã} {w:Ā} {u:Ã}
def Wd{k:Key}(r:RelV (kV k) u):(Zh P w).is k u=eN:=by
 cases k with
 |inl i=>let⟨t,e⟩:=(show ∃t,u=Value.int i t from r);subst e;exact N3 P w i t
 |inr x=>let⟨t,e⟩:=(show ∃t,u=Value.str x t from r);subst e;exact No P w x t
def KH{P:ã}{w:Ā}:∀{ks:List Key}{us:List Ã},f8 (ks.map kV) us->ItemsAre (Zh P w) ks us
 |[],_,r=>by rw[Ţ]at r;cases r;exact .nil
 |k::ks,_,r=>by
  rw[Ñ]at r;cases r with
  |cons h t=>exact .cons (Wd h)<|KH t
@[reducible] noncomputable def KTd(H:Hp):List (List Key×V)->List (List Key×Í×Ã)->Prop:=Paired λp q=>p.1=q.1/\H q.2.1=eL (.tup<|p.1.map kV)/\RelV p.2 q.2.2
variable {H:Hp} {kvs:List (List Key×V)} {xs:List (List Key×Í×Ã)}
def KTd.val(r:KTd H kvs xs)(k:List Key):fx (Yt kvs k) ((cy xs k).map (·.2)):=by
 induction r with
 |nil=>exact True.intro
 |@cons p q ps qs h t ih =>
  let⟨h1,_,h2⟩:=h;by_cases e:p.1=k
  .have e':q.1=k:=h1.symm.trans e;have b:cy (q::qs) k=eL q.2:=by simp[cy,Ę,e']
   rw[Xk e,b];exact h2
  .have e':¬ q.1=k:=λz=>e<|h1.trans z;have b:cy (q::qs) k=cy qs k:=by simp[cy,Ę,e']
   rw[Xj e,b];exact ih
variable {y:V}
def KTd.repl(r:KTd H kvs xs)(k:List Key)(ry:RelV y u) :
  KTd H (kvs.map λkv=>if kv.1=k then(kv.1,y)else kv) (xs.map<|putAt k u):=by
 induction r with
 |nil=>exact .nil
 |@cons p q ps qs h t ih =>
  rw[Ñ,Ñ];refine .cons ?_ ih;let⟨h1,h2,h3⟩:=h;unfold putAt;by_cases e:p.1=k
  .rw[gp e,gp<|h1.symm.trans e];exact⟨h1,h2,ry⟩
  .rw[gq e,gq λz=>e<|h1.trans z];exact⟨h1,h2,h3⟩
variable {b:Í}
def KTd.put(r:KTd H kvs xs)(k:List Key)(hb:H b=eL (.tup<|k.map kV))(ry:RelV y u) :
  KTd H (fv kvs k y) (storedH xs k b u):=by
 have e:(kvs.any λkv=>gB (kv.1=k))=(cy xs k).isSome:=by rw[Xa,(r.val k).isSome_eq,ϱ]
 unfold fv storedH;rw[e];by_cases q:(cy xs k).isSome=eN
 .rw[gp q,gp q];exact r.repl k ry
 .rw[gq q,gq q];exact Paired.snoc r ⟨rfl,hb,ry⟩
variable {H':Hp}
def KTd.keeps(r:KTd H kvs xs)(ht:∀b ys,H b=eL (.tup ys)->H' b=eL (.tup ys)):KTd H' kvs xs :=
 Paired.mapP r λ_ _ z=>⟨z.1,ht _ _ z.2.1,z.2.2⟩
section
variable {P:ã}{w:Ā}{H:Hp}{h:ĉ}{a:Í}
def Ht{u:HO}(ok:HOk P w H h)(e:Rd H a u):eZ P w H h a u:=e.ok ok
def XA{kvs:List (Key×V)}(ok:HOk P w H h)(e:Rd H a<|.dK kvs):kvs.length<=ß/\(a==Ś)=eP/\∃vs,KV kvs vs/\h.DictOf (Zh P w) a vs :=
 show eZ P w H h a (.dK kvs) from Ht ok e
def JN{kvs:List (Key×V)}(ok:HOk P w H h)(e:H a=eL (.dK kvs)):kvs.length<=ß/\(a==Ś)=eP/\∃vs,KV kvs vs/\h.DictOf (Zh P w) a vs:=XA ok (.inl e)
def fg{ks:List Key}(ok:HOk P w H h)(e:H a=eL (.tup<|ks.map kV)):(ah<|Zh P w).is h ks a:=by
 let⟨_,ø,r,o,h1,h2,n,h3⟩:=(show eZ P w H h a (.tup<|ks.map kV) from ok a _ e)
 exact⟨o,ø.toArray,n,h1,h2,h3,by simpa using KH r⟩
def Jo(ok:HOk P w H h)(e:Rd H a<|.dT kvs):kvs.length<=ß/\(a==Ś)=eP/\
  ∃xs,KTd H kvs xs/\h.DictOfH (ah<|Zh P w) a xs:=by
 let⟨z,y,xs,r,o,es,ep,h1,h2,h3,h4,h5⟩:=(show eZ P w H h a (.dT kvs) from Ht ok e)
 refine⟨z,y,xs,r,o,es,ep,h1,h2,h3,h4,λx hx=>?_,h5⟩;have all:∀{l:List (List Key×V)}{m:List (List Key×Í×Ã)},KTd H l m->∀x∈m,(ah<|Zh P w).is h x.1 x.2.1:=by
  intro l m q;induction q with
  |nil=>intro x hx;exact nomatch hx
  |@cons p q ps qs hq t ih =>
   intro x hx;rcases È.mp hx with e|hx
   .subst e;exact fg ok (by rw[<-hq.1];exact hq.2.1)
   .exact ih x hx
 exact all r x hx
def QR(ok:HOk P w H h)(e:H a=eL (.dT kvs)):kvs.length<=ß/\(a==Ś)=eP/\
  ∃xs,KTd H kvs xs/\h.DictOfH (ah<|Zh P w) a xs:=Jo ok<|.inl e
end
abbrev DGet(H:Hp)(a:Í)(y:V)(r:Option V):Prop :=
 (∃kvs k,Rd H a (.dK kvs)/\y=kV k/\r=Yt kvs k)\/∃kvs k b,Rd H a (.dT kvs)/\y=.ref b/\H b=eL (.tup<|k.map kV)/\r=Yt kvs k
abbrev DPut(H:Hp)(a:Í)(y v:V)(H':Hp):Prop :=
 (∃kvs k,H a=eL (.dK kvs)/\y=kV k/\kvs.length<ß/\H'=upd H a (.dK<|fv kvs k v))\/
 ∃kvs k b,H a=eL (.dT kvs)/\y=.ref b/\H b=eL (.tup<|k.map kV)/\kvs.length<ß/\H'=upd H a (.dT<|fv kvs k v)
def DGet.k{H:Hp}{a:Í}{kvs:List (Key×V)}{k:Key}(e:H a=eL (.dK kvs)):DGet H a (kV k)<|Yt kvs k:=.inl ⟨kvs,k,.inl e,rfl,rfl⟩
variable {a:Í}
def DGet.t{k:List Key}(e:H a=eL (.dT kvs))(eb:H b=eL (.tup<|k.map kV)):DGet H a (.ref b)<|Yt kvs k:=.inr ⟨kvs,k,b,.inl e,rfl,eb,rfl⟩
def DPut.k{H:Hp}{a:Í}{kvs:List (Key×V)}{k:Key}{v:V}(e:H a=eL (.dK kvs))(hl:kvs.length<ß):DPut H a (kV k) v<|upd H a<|.dK<|fv kvs k v:=.inl ⟨kvs,k,e,rfl,hl,rfl⟩
def DPut.t{k:List Key}{v:V}(e:H a=eL (.dT kvs))(eb:H b=eL (.tup<|k.map kV))(hl:kvs.length<ß) :
  DPut H a (.ref b) v (upd H a<|.dT<|fv kvs k v):=.inr ⟨kvs,k,b,e,rfl,eb,hl,rfl⟩
section
variable {X:Cx}{Â:List (Í×Obj)}{σ:St}{H:Hp}{s:Å}{a:Í}{y v:V}{u r:Ã}{o:Option V}{A:Ċ}{E:Ã->Å->Prop}
def Inv.big(I:Inv X Â σ H s):Ś<s.heap.objs.size:=by have h:ć<s.heap.objs.size:=(I.mod.glob.keeps I.bk).lt;exact ź (by decide) h
variable {Q:Ã->Å->Prop}
def KW(hu:A.units+1<Ī)(I:Inv X Â σ H s)(g:DGet H a y<|eL v)(ry:RelV y u)(h:∀w' s',Inv X Â σ H s'->RelV v w'->Q w' s') :
  wpAny (à X.prog X.w) A (ϟ (.ref a) u) Q E s:=by
 rcases g with⟨kvs,k,e,ey,l⟩|⟨kvs,k,b,e,ey,eb,l⟩
 .subst ey;let⟨z,hd,vs,ű,dd⟩:=XA I.hok e;let⟨w',hw,aZ⟩:=fx.some_of (v:=v) (o:=Ϣ vs k) (by rw[l];exact ű.val k);exact wpAny_getItem_of (Wd ry) dd.mapOf hw<|h w' _ (I.tok _) aZ
 .subst ey;cases (show u=Value.ref b from ry);let⟨z,hd,xs,ű,dd⟩:=Jo I.hok e;let⟨w',hw,aZ⟩:=fx.some_of (v:=v) (o:=(cy xs k).map (·.2)) (by rw[l];exact ű.val k);let⟨p,hp,hp2⟩:=Ë.mp hw;refine wpAny_getItem_heap (Ż hu) (fg I.hok eb) dd hp ?_;rw[hp2];exact h w' _ (I.tok _) aZ
def SA(hu:A.units+1<Ī)(I:Inv X Â σ H s)(g:DGet H a y o)(ry:RelV y u)(h:∀s',Inv X Â σ H s'->Q (.bool o.isSome) s') :
  wpAny (à X.prog X.w) A (î .In u<|.ref a) Q E s:=by
 rcases g with⟨kvs,k,e,ey,l⟩|⟨kvs,k,b,e,ey,eb,l⟩
 .subst ey;let⟨z,hd,vs,ű,dd⟩:=XA I.hok e;refine wpAny_in_of (Wd ry) hd dd.mapOf ?_;rw[<-(ű.val k).isSome_eq,<-l];exact h _<|I.tok _
 .subst ey;cases (show u=Value.ref b from ry);let⟨z,hd,xs,ű,dd⟩:=Jo I.hok e;refine wpAny_in_heap (Ż hu) (fg I.hok eb) hd dd ?_;have q:=(ű.val k).isSome_eq;rw[ϱ]at q;rw[<-q,<-l];exact h _<|I.tok _
def EL(hu:A.units+1<Ī)(I:Inv X Â σ H s)(g:DGet H a y o)(ry:RelV y u)(h:∀s',Inv X Â σ H s'->Q (.bool (!o.isSome)) s') :
  wpAny (à X.prog X.w) A (î .NotIn u<|.ref a) Q E s:=by
 rcases g with⟨kvs,k,e,ey,l⟩|⟨kvs,k,b,e,ey,eb,l⟩
 .subst ey;let⟨z,hd,vs,ű,dd⟩:=XA I.hok e;refine wpAny_notIn_of (Wd ry) hd dd.mapOf ?_;rw[<-(ű.val k).isSome_eq,<-l];exact h _<|I.tok _
 .subst ey;cases (show u=Value.ref b from ry);let⟨z,hd,xs,ű,dd⟩:=Jo I.hok e;refine wpAny_notIn_heap (Ż hu) (fg I.hok eb) hd dd ?_;have q:=(ű.val k).isSome_eq;rw[ϱ]at q;rw[<-q,<-l];exact h _<|I.tok _
variable {h':ĉ}
def WN{t':Nat}{ob:HO}(I:Inv X Â σ H s)(mu:Mut<|H a)(hs:ŵ a s.heap h')(he:∃q,h'.get? a=eL q)(new:eZ X.prog X.w (upd H a ob) h' a ob) :
  Inv X Â σ (upd H a ob) {s with heap:=h',toks:=t'} :=
 I.write (x:=a) (e:=a) mu (.inl rfl) (λb q hb z=>(hs.2 b hb).trans z) he new
def Ua{kvs:List (Key×V)}{vs:List (Key×Ã)}(z:kvs.length<=ß)(hd:(a==Ś)=eP)(ű:KV kvs vs)(dd:h'.DictOf (Zh P w) a vs) :
  eZ P w H' h' a (.dK kvs):=⟨z,hd,vs,ű,dd⟩
def A4{Q:Unit->Å->Prop}(hu:A.units+1<Ī)(I:Inv X Â σ H s)(g:DPut H a y v H')(ry:RelV y u)(rv:RelV v r)(h:∀s',Inv X Â σ H' s'->Q () s') :
  wpAny (à X.prog X.w) A (aO (.ref a) u r) Q E s:=by
 rcases g with⟨kvs,k,e,ey,l,eH⟩|⟨kvs,k,b,e,ey,eb,l,eH⟩
 .subst ey eH;let⟨z,hd,vs,ű,dd⟩:=JN I.hok e;have hz:vs.length<=ß:=by rw[<-ű.length];exact z
  have hl:(fv kvs k v).length<=ß:=by have:=Xi kvs k v;lia
  refine wpAny_setItem_pairs (hsz:=hz) (Wd ry) dd λh' dd' hs=>h _ ?_;have he:∃q,h'.get? a=eL q:=let ⟨q,_,_,hq,_⟩:=dd';⟨q,hq⟩;exact WN I (by rw[e];exact True.intro) hs he<|Ua hl hd (ű.put k rv) dd'
 .subst ey eH;cases (show u=Value.ref b from ry);let⟨z,hd,xs,ű,dd⟩:=QR I.hok e;have hz:xs.length<=ß:=by rw[<-Paired.length ű];exact z
  have hl:(fv kvs k v).length<=ß:=by have:=Xi kvs k v;lia
  refine wpAny_setItem_heap (hsz:=hz) (Ż hu) (fg I.hok eb) dd λh' dd' hs=>h _ ?_;let⟨q,es,ep,hq,h2,h3,h4,_,h5⟩:=dd';refine WN I (by rw[e];exact True.intro) hs ⟨q,hq⟩ ⟨hl,hd,_,(ű.put k eb rv).keeps λc ys ec=>?_,q,es,ep,hq,h2,h3,h4,h5⟩;rw[eQ<|Qr ec e λz=>nomatch z];exact ec
end
section
variable {X:Cx}{Â:List (Í×Obj)}{σ:St}{H:Hp}{s:Å}{a:Í}{kvs:List (Key×V)}{k:Key}{u:Ã}{A:Ċ}{E:Ã->Å->Prop}
variable {Q:Ã->Å->Prop}
def Hi{v:V}{more:List Ã}(I:Inv X Â σ H s)(e:H a=eL (.dK kvs))(ry:RelV (kV k) u)(l:Yt kvs k=eL v)(hm:more=[]\/∃x,more=[x])
  (h:∀w' s',Inv X Â σ (upd H a<|.dK<|fw kvs k) s'->RelV v w'->Q w' s'):wpAny (à X.prog X.w) A (call (.builtin "dict.pop")<|.ref a::u::more) Q E s:=by
 let⟨z,hd,vs,ű,dd⟩:=JN I.hok e;let⟨w',hw,aZ⟩:=fx.some_of (v:=v) (o:=Ϣ vs k) (by rw[<-l];exact ű.val k);have hp:(keyPart u).isSome=eN:=by
  cases k with
  |inl i=>let⟨t,q⟩:=(show ∃t,u=Value.int i t from ry);subst q;rfl
  |inr x=>let⟨t,q⟩:=(show ∃t,u=Value.str x t from ry);subst q;rfl
 have ha:cz "dict.pop" ⟨.ref a::u::more,[]⟩:=by
  rcases hm with q|⟨x,q⟩
  .subst q;exact PySem.F.args_dict_pop_2 _ _
  .subst q;exact PySem.F.args_dict_pop_3 _ _ _
 refine ϣ PySem.F.slot_dict_pop dd.typeIs PySem.F.entry_dict_pop ha (meets_dict_pop_there (Zh X.prog X.w) a (Wd ry) more hm hp)
  ⟨vs,w',dd,by rw[<-ű.length];exact z,hw,λh' dd' hs=>h w' _ ?_ aZ⟩
 have he:∃q,h'.get? a=eL q:=let ⟨q,_,_,hq,_⟩:=dd';⟨q,hq⟩;exact WN I (by rw[e];exact True.intro) hs he<|Ua (Ý (DI kvs k) z) hd (ű.drop k) dd'
def LB{r:Ã}(I:Inv X Â σ H s)(e:H a=eL (.dK kvs))(ry:RelV (kV k) u)(l:Yt kvs k=eM)(h:∀s',Inv X Â σ H s'->Q r s') :
  wpAny (à X.prog X.w) A (call (.builtin "dict.pop") [.ref a,u,r]) Q E s:=by
 let⟨z,hd,vs,ű,dd⟩:=JN I.hok e;have hn:Ϣ vs k=eM:=fx.none_of (by rw[<-l];exact ű.val k);have hp:(keyPart u).isSome=eN:=by
  cases k with
  |inl i=>let⟨t,q⟩:=(show ∃t,u=Value.int i t from ry);subst q;rfl
  |inr x=>let⟨t,q⟩:=(show ∃t,u=Value.str x t from ry);subst q;rfl
 exact ϣ PySem.F.slot_dict_pop dd.typeIs PySem.F.entry_dict_pop (PySem.F.args_dict_pop_3 _ _ _) (meets_dict_pop_default (Zh X.prog X.w) a (Wd ry) hd hp r) ⟨vs,dd,hn,h _<|I.tok _⟩
def PQ(I:Inv X Â σ H s)(e:Rd H a<|.dK kvs)(h:∀t s',Inv X Â σ H s'->Q (.int kvs.length t) s'):wpAny (à X.prog X.w) A (call (.builtin "len") [.ref a]) Q E s:=by let⟨z,hd,vs,ű,dd⟩:=XA I.hok e;refine call_len_dict hd dd (by rw[<-ű.length];rw[ϵ]at z;lia) ?_;rw[<-ű.length];exact h _ _ (I.tok _)
end
variable {X:Cx} {Â:List (Í×Obj)} {σ:St} {s:Å}
def NM{o:Option V}(I:Inv X Â σ H s)(g:DGet H a y o):s.TypeIs (.ref a) "dict":=by
 rcases g with⟨kvs,k,e,_,_⟩|⟨kvs,k,b,e,_,_,_⟩
 .obtain⟨_,_,vs,_,dd⟩:=XA I.hok e;exact dd.typeIs
 .obtain⟨_,_,xs,_,dd⟩:=Jo I.hok e;exact dd.typeIs
def N5(h:ĉ)(hb:Ś<h.objs.size):eZ P w H (h.push {cls:=.type "dict",data:=.dict #[]}) h.objs.size (.dK []) :=
 ⟨ĕ _,beq_eq_false_iff_ne.mpr<|Ne.symm<|æ hb,[],.nil,Heap.DictOf.new h⟩
abbrev Pz:TE:=λ_ H Q=>∀p,H p=eM->Q (.ref p) (upd H p<|.dK [])
section
variable {X:Cx}{ë:Pos}
def pe_dnewK:PE X (.Dict [] [] ë) Pz:=λÂ s σ H Q I h =>
 wpAny_Dict_empty ⟨.ref s.heap.objs.size,_,I.laid (a:=s.heap.objs.size) (o:=.dK []) (t':=s.toks) (λ_ _ q=>Ä _ q) (Ì _)<|N5 s.heap I.big,rfl,h _<|I.hok.fresh<|Ì _⟩
end
abbrev Na:List (TE×TE)->St->Hp->(List (V×V)->Hp->Prop)->Prop
 |[],_,H,Q=>Q [] H
 |(tk,tv)::r,σ,H,Q=>tk σ H λx H1=>tv σ H1 λy H2=>Na r σ H2 λps H3=>Q ((x,y)::ps) H3
@[reducible] noncomputable def VV:List (V×V)->List (Ã×Ã)->Prop:=Paired λp q=>RelV p.1 q.1/\RelV p.2 q.2
abbrev PPs(X:Cx)(ë:Pos)(keys:List<|Option Expr)(Ρ:List Expr)(trs:List<|TE×TE):Prop :=
 ∀(Â:List<|Í×Obj) (s:Å) (σ:St) (H:Hp) (Q:List (V×V)->Hp->Prop),Inv X Â σ H s->Na trs σ H Q->
  wpAny (à X.prog X.w) X.A (evalPairs<|pairTrees keys Ρ X.env ë) (λvs s'=>∃ps H',Inv X Â σ H' s'/\VV ps vs/\Q ps H') X.xe s
variable {ë:Pos}
def Gr:PPs X ë [] [] []:=λÂ s σ H Q I h=>pairTrees_nil_walk ⟨[],H,I,.nil,h⟩
variable {trs:List (TE×TE)}
def DB{k v:Expr}{ks:List (Option Expr)}{vs:List Expr}{tk tv:TE}(hk:PE X k tk)(hv:PE X v tv)(hr:PPs X ë ks vs trs) :
  PPs X ë (eL k::ks) (v::vs) ((tk,tv)::trs):=λÂ s σ H Q I h =>
 pairTrees_cons_walk (thn (hk Â s σ H _ I h) λu s1 ⟨x,H1,I1,rx,q1⟩=>thn (hv Â s1 σ H1 _ I1 q1) λw2 s2 ⟨y,H2,I2,ry,q2⟩ =>
   thn (hr Â s2 σ H2 _ I2 q2) λws s3 ⟨ps,H3,I3,ű,q3⟩=>⟨(x,y)::ps,H3,I3,.cons ⟨rx,ry⟩ ű,q3⟩)
abbrev YY(kvs more:List<|Key×V):List<|Key×V:=more.foldl (λĮ kv=>fv Į kv.1 kv.2) kvs
def KV.merge:∀{more:List (Key×V)}{rs:List (Key×Ã)}{kvs:List (Key×V)}{vs:List (Key×Ã)},KV more rs->KV kvs vs->KV (YY kvs more) (merged vs rs):=by
 intro more rs kvs vs r;unfold KV at r;induction r generalizing kvs vs with
 |nil=>intro q;exact q
 |@cons p q ps qs h t ih =>
  intro r0;have e:KV (fv kvs p.1 p.2)<|stored vs q.1 q.2:=by have:=r0.put p.1 h.2;rw[<-h.1];exact this
  exact ih e
def XD:∀(more kvs:List<|Key×V),(YY kvs more).length<=kvs.length+more.length
 |[],kvs=>by show kvs.length<=kvs.length+0;lia
 |p::r,kvs=>by have h1:=XD r<|fv kvs p.1 p.2;have h2:=Xi kvs p.1 p.2;show(YY (fv kvs p.1 p.2) r).length<=_;rw[Ï];lia
def JI{P:ã}{w:Ā}:∀{kvs:List (Key×V)}{ws:List (Ã×Ã)},VV (kvs.map λkv=>(kV kv.1,kv.2)) ws->∃rs,Carries (Zh P w) ws rs/\KV kvs rs
 |[],_,r=>by rw[Ţ]at r;cases r;exact⟨[],True.intro,.nil⟩
 |p::kvs,_,r=>by
  rw[Ñ]at r;cases r with
  |@cons a b as bs h t =>let⟨rs,c,q⟩:=JI (P:=P) (w:=w) t;let⟨b1,b2⟩:=b;exact⟨(p.1,b2)::rs,⟨Wd h.1,rfl,c⟩,.cons ⟨rfl,h.2⟩ q⟩
abbrev PZ(trs:List<|TE×TE):TE:=λσ H Q=>∀p,H p=eM->Na trs σ (upd H p<|.dK []) λps H2=>H2 p=eL (.dK [])/\∃kvs:List<|Key×V,ps=kvs.map (λkv=>(kV kv.1,kv.2))/\kvs.length<=15/\Q (.ref p) (upd H2 p<|.dK<|YY [] kvs)
def EN{keys:List (Option Expr)}{Ρ:List Expr}(h:PPs X ë keys Ρ trs)(hall:keys.all (·.isSome)=eN)(hl:keys.length=Ρ.length)(h0:keys≠[])
  (h15:keys.length<=15):PE X (.Dict keys Ρ ë)<|PZ trs:=by
 intro Â s σ H Q I q;have hn:=I.hok.fresh<|Ì s.heap.objs.size;have I1:=I.laid (a:=s.heap.objs.size) (o:=.dK []) (h':=s.heap.push {cls:=.type "dict",data:=.dict #[]}) (t':=s.toks) (λ_ _ q=>Ä _ q) (Ì _)<|N5 s.heap I.big;refine wpAny_Dict_walk (knd:=Zh X.prog X.w) hall hl h0 h15<|thn (h Â _ σ _ _ I1<|q _ hn) λws s2 ⟨ps,H2,I2,ű,e,kvs,ep,lk,q2⟩=>?_;subst ep;let⟨rs,c,rk⟩:=JI (P:=X.prog) (w:=X.w) ű;let⟨z,hd,vs0,r0,dd⟩:=JN I2.hok e;cases r0;refine⟨rs,c,dd,λh' dd' hs=>⟨.ref s.heap.objs.size,_,?_,rfl,q2⟩⟩;have hz:(YY [] kvs).length<=ß:=by have h1:=XD kvs [];rw[Ĳ]at h1;rw[ϵ];lia
 have he:∃q,h'.get? s.heap.objs.size=eL q:=let ⟨q,_,_,hq,_⟩:=dd';⟨q,hq⟩;exact WN I2 (by rw[e];exact True.intro) hs he<|Ua hz hd (rk.merge .nil) dd'
abbrev Sm(H:Hp)(a:Í):Prop:=(∃kvs,Rd H a<|.dK kvs)\/∃kvs,Rd H a (.dT kvs)
def HS(I:Inv X Â σ H s)(d:Sm H a) :
  s.TypeIs (.ref a) "dict"/\(∀b,Value.ref a=.ref b->∃ob,s.heap.get? b=eL ob/\ob.dict=eM)/\(a==Ś)=eP:=by
 rcases d with⟨kvs,e⟩|⟨kvs,e⟩
 .obtain⟨_,hd,vs,_,dd⟩:=XA I.hok e;refine⟨dd.typeIs,λb q=>?_,hd⟩;cases q;let⟨ob,_,_,h1,h2,_⟩:=dd;exact⟨ob,h1,h2.2.1⟩
 .obtain⟨_,hd,xs,_,dd⟩:=Jo I.hok e;refine⟨dd.typeIs,λb q=>?_,hd⟩;cases q;let⟨ob,_,_,h1,h2,_⟩:=dd;exact⟨ob,h1,h2.2.1⟩
section
variable {X:Cx}{Â:List (Í×Obj)}{σ:St}{H:Hp}{s:Å}{a:Í}{y d:V}{u r:Ã}{o:Option V}{A:Ċ}{E:Ã->Å->Prop}
def LZ{Q:Ã->Å->Prop}(hu:A.units+1<Ī)(I:Inv X Â σ H s)(g:DGet H a y o)(ry:RelV y u)(h:∀w' s',Inv X Â σ H s'->RelV (o.getD .non) w'->Q w' s') :
  wpAny (à X.prog X.w) A (call (.builtin "dict.get") [.ref a,u]) Q E s:=by
 rcases g with⟨kvs,k,e,ey,l⟩|⟨kvs,k,b,e,ey,eb,l⟩
 .subst ey;let⟨z,hd,vs,ű,dd⟩:=XA I.hok e;refine ϣ PySem.F.slot_dict_get dd.typeIs PySem.F.entry_dict_get (PySem.F.args_dict_get_2 _ _) (meets_dict_get (Zh X.prog X.w) a (Wd ry) hd) ⟨_,dd.mapOf,h _ _ (I.tok _) ?_⟩;rw[l];exact(ű.val k).getD rfl
 .subst ey;cases (show u=Value.ref b from ry);let⟨z,hd,xs,ű,dd⟩:=Jo I.hok e;refine ϣ PySem.F.slot_dict_get dd.typeIs PySem.F.entry_dict_get (PySem.F.args_dict_get_2 _ _) (meetsH_dict_get (ah<|Zh X.prog X.w) a b hd) ⟨Ż hu,k,xs,fg I.hok eb,dd,h _ _ (I.tok _) ?_⟩;rw[l];exact(ű.val k).getD rfl
end
section
variable {X:Cx}
def Az:eY X (.builtin "len") λxs H Q=>∃a kvs,xs=[V.ref a]/\H a=eL (.dK kvs)/\Q (.int kvs.length) H:=by intro Â s σ H xs us Q I r h;let⟨a,kvs,rfl,ha,q⟩:=h;let⟨u,rfl,ru⟩:=Z2 r;cases ru;exact PQ I (.inl ha) λt s' I'=>⟨.int kvs.length,H,I',⟨t,rfl⟩,q⟩
end
end L2
namespace O
noncomputable abbrev Ad:=Nat
inductive Val where
 |non|bl (b:Bool)|int (i:Int)|str (s:String)|tup (xs:List Val)|ref (a:Ad)|scr (ns:List Int)|key (i j:Int)
 deriving Inhabited
mutual
noncomputable def Val.eqb:Val->Val->Bool
 |.non,b=>match b with|.non=>eN|_=>eP
 |.bl a,b=>match b with|.bl c=>a==c|_=>eP
 |.int a,b=>match b with|.int c=>a==c|_=>eP
 |.str a,b=>match b with|.str c=>a==c|_=>eP
 |.tup a,b=>match b with|.tup c=>Val.eqs a c|_=>eP
 |.ref a,b=>match b with|.ref c=>a==c|_=>eP
 |.scr a,b=>match b with|.scr c=>a==c|_=>eP
 |.key a b,x=>match x with|.key c d=>a==c&&b==d|_=>eP
noncomputable def Val.eqs:List Val->List Val->Bool
 |[],b=>match b with|[]=>eN|_=>eP
 |x::xs,b=>match b with|y::ys=>Val.eqb x y&&Val.eqs xs ys|_=>eP
end
mutual
theorem Val.eqb_iff:∀{a b:Val},Val.eqb a b=eN↔a=b
 |.non,b=>by cases b<;>simp[Val.eqb]
 |.bl _,b=>by cases b<;>simp[Val.eqb]
 |.int _,b=>by cases b<;>simp[Val.eqb]
 |.str _,b=>by cases b<;>simp[Val.eqb]
 |.tup _,b=>by cases b<;>simp[Val.eqb,Val.eqs_iff]
 |.ref _,b=>by cases b<;>simp[Val.eqb]
 |.scr _,b=>by cases b<;>simp[Val.eqb]
 |.key _ _,b=>by cases b<;>simp[Val.eqb]
theorem Val.eqs_iff:∀{a b:List Val},Val.eqs a b=eN↔a=b
 |[],b=>by cases b<;>simp[Val.eqs]
 |_::_,b=>by cases b<;>simp[Val.eqs,Val.eqb_iff,Val.eqs_iff]
end
noncomputable instance:DecidableEq Val:=λa b=>if h:Val.eqb a b=eN then isTrue (Val.eqb_iff.mp h)else isFalse λe=>h<|Val.eqb_iff.mpr e
inductive Ob where
 |lst (xs:List Val)|dct (kvs:List<|Val×Val)|ins (C:String) (fs:List<|String×Val)|exc (C:String)|frz (kvs:List<|Val×Val)|dtp (kvs:List<|Val×Val)
 deriving Inhabited
abbrev figB(c:Char):Bool:=gB (48<=c.toNat)&&gB (c.toNat<=57)
abbrev decN(l:List Char):Nat:=l.foldl (λa c=>10*a+(c.toNat - 48)) 0
abbrev Qv:Val->Option String
 |.str s=>eL s
 |_=>eM
abbrev oneC(s:String):Option Char:=match s.toList with
 |[c]=>eL c
 |_=>eM
abbrev FF(i:Int):String:=toString i
abbrev fmtV:Val->Option String
 |.str s=>eL s
 |.int i=>if i.natAbs<10 ^ 200 then eL (FF i)else eM
 |_=>eM
noncomputable abbrev Hs:=Ad->Option Ob
@[irreducible] noncomputable def upd(h:Hs)(a:Ad)(o:Ob):Hs:=λb=>if b=a then eL o else h b
variable {h:Hs} {a:Ad} {o:Ob}
def eR:upd h a o a=eL o:=by simp[upd]
def eQ{b:Ad}(e:b≠a):upd h a o b=h b:=by simp[upd,e]
def eS{u:Ob}:upd (upd h a o) a u=upd h a u:=by funext b;simp only[upd];split<;>rfl
noncomputable abbrev Env:=List<|Option Val
noncomputable abbrev Q1:=Val->Hs->Prop
noncomputable abbrev XQ:=String->Hs->Prop
noncomputable abbrev Fs:=String->List Val->Hs->Q1->XQ->Prop
abbrev lim:Nat:=1000000
variable {α:Type}
@[irreducible] noncomputable def go(o:Option α)(k:α->Prop):Prop:=match o with|some a=>k a|none=>False
@[simp] theorem eU{a:α}{k:α->Prop}:go (eL a) k=k a:=by unfold go;rfl
@[simp] theorem GZ{k:α->Prop}:go eM k=False:=by unfold go;rfl
def eV{o:Option α}{a:α}{k:α->Prop}(e:o=eL a)(h:k a):go o k:=by rw[e,eU];exact h
set_option genInjectivity false
inductive Bop where|add|sub|mul|fdiv|mod|pow
inductive Cop where|eq|ne|lt|le|gt|ge|isin|notin|is|isnot|eqE|neE|ntT
inductive Bi where
 |len|int|str|bool|abs|min2|max2|minL|maxL|minD|sum|all|any|sorted|sortedI|sortedSet|lenSet|list|tuple|dict|isi (Ts:List String)|isx (Ts:List String)|isc (C:String)|repr|listRev|listRange|tupRange|dictEnum|minP|maxP|listD
inductive Bm where
 |append|extend|pop|popAt|insert|remove|clear|reverse|index|count|dget|dgetD|dpop|dpopD|setdefault|join|split|replace|upper|partition|sidx
inductive Pt where|one (i:Nat)|many (is:List Nat)|nest (i:Nat) (is:List Nat)
mutual
inductive E where
 |cst (v:Val)|var (i:Nat)|glob (x:String) (v:Val)
 |bin (op:Bop) (a b:E)|neg (a:E)|not (a:E)|and (a b:E)|or (a b:E)
 |cmp (op:Cop) (a b:E)|chain (o1 o2:Cop) (a b c:E)
 |call (f:String) (as:Es)|make (C:String) (as:Es)|meth (C m:String) (o:E) (as:Es)|fld (o:E) (f:String)
 |bi (f:Bi) (as:Es)|bm (m:Bm) (o:E) (as:Es)
 |idx (a i:E)|slc (a:E) (lo hi:Oe)|rev (a:E)|pick (a:E) (lo hi:Oe) (st:E)|sortT (a:E)
 |tup (es:Es)|lst (es:Es)|dct (es:Es)
 |ife (c:Tt) (a b:E)
 |comp (ü:List Nat) (n:Nat) (p:Pt) (it:It) (c:Tt) (e:E)
 |fstr (es:Es)
 |split (o a:E)
 |repl (o:E) (y z:String)
 |key (es:Es)|dctP
inductive Es where|nil|cons (e:E) (es:Es)
inductive Oe where|none|some (e:E)
inductive Tt where|yes|val (e:E)|not (t:Tt)|and (a b:Tt)|or (a b:Tt)
inductive It where
 |seq (e:E)|chars (e:E)|range (a:E)|range2 (a b:E)|enum (e:E)|enumL (e:E)|zip (a b:E)|items (e:E)|rev (e:E)|keysF (e:E)
end
mutual
inductive S where
 |set (p:Pt) (e:E)|setIdx (a i e:E)|setFld (o:E) (f:String) (e:E)
 |augVar (i:Nat) (op:Bop) (e:E)|augFld (o:E) (f:String) (op:Bop) (n:Int)|augIdx (a i:E) (op:Bop) (n:Int)
 |setPair (a i b j e:E)
 |expr (e:E)|ret (e:E)|retN|ite (c:Tt) (a b:Ss)|whl (c:Tt) (b:Ss)|for (p:Pt) (it:It) (b:Ss)|forI (k:Bool) (p:Pt) (e:E) (b:Ss)
 |never|brk|cnt|pass|raise (C:String) (as:Es)|try (t:Option Nat) (e:E) (hs:Hn)
inductive Ss where|nil|cons (s:S) (ss:Ss)
inductive Hn where|nil|cons (C:String) (n:Option Nat) (b:Ss) (r:Hn)
end
set_option genInjectivity true
abbrev ixN(n:Nat)(i:Int):Option Nat:=if 0<=i then(if i<n then eL i.toNat else eM)else if -(n:Int)<=i then eL (i+n).toNat else eM
abbrev atI(xs:List α)(i:Int):Option α:=(ixN xs.length i).bind λj=>xs[j]?
abbrev fE(n d:Nat):Option Int->Nat
 |none=>d
 |some i=>if 0<=i then min i.toNat n else(i+n).toNat
abbrev cut(xs:List α)(lo hi:Option Int):List α:=(xs.drop<|fE xs.length 0 lo).take<|fE xs.length xs.length hi - fE xs.length 0 lo
abbrev pickL(ix:List Nat)(xs:List α):List α:=ix.filterMap λi=>xs[i]?
abbrev fe:Option Ob->Option (List Val)
 |some (.lst xs)=>eL xs
 |_=>eM
@[simp] theorem Yr{xs:List Val}:fe (eL<|.lst xs)=eL xs:=rfl
abbrev BZ(h:Hs):Val->Option (List Val)
 |.ref a=>fe<|h a
 |.tup xs=>eL xs
 |.scr ns=>eL<|ns.map .int
 |_=>eM
abbrev lsA(h:Hs):Val->Option (List Val)
 |.ref a=>fe<|h a
 |.scr ns=>eL<|ns.map .int
 |_=>eM
abbrev gb:Option Ob->Option (List<|Val×Val)
 |some (.dct kvs)=>eL kvs
 |_=>eM
abbrev Q7:Option Ob->Option (List<|Val×Val)
 |some (.frz kvs)=>eL kvs
 |_=>eM
abbrev fq(kvs:List<|Val×Val)(k:Val):Option Val:=(kvs.find? λp=>p.1==k).map (·.2)
abbrev fu(kvs:List<|Val×Val)(k:Val):Bool:=kvs.any λp=>p.1==k
abbrev fv(kvs:List<|Val×Val)(k v:Val):List<|Val×Val:=if fu kvs k then kvs.map λp=>if p.1==k then(k,v)else p else kvs++[(k,v)]
abbrev fw(kvs:List<|Val×Val)(k:Val):List<|Val×Val:=kvs.filter λp=>!(p.1==k)
abbrev fj:Val->Bool
 |.int _=>eN
 |.str _=>eN
 |_=>eP
inductive D where
 |non|bl (b:Bool)|int (i:Int)|str (s:String)|tup (ds:List D)|lst (ds:List D)
 deriving Inhabited
mutual
noncomputable def D.eqv:D->D->Bool
 |.non,.non=>eN
 |.bl a,.bl b=>a==b
 |.bl a,.int i=>(if a then 1 else 0)==i
 |.int i,.bl a=>i==(if a then 1 else 0)
 |.int a,.int b=>a==b
 |.str a,.str b=>a==b
 |.tup a,.tup b=>D.eqvs a b
 |.lst a,.lst b=>D.eqvs a b
 |_,_=>eP
noncomputable def D.eqvs:List D->List D->Bool
 |[],[]=>eN
 |x::xs,y::ys=>D.eqv x y&&D.eqvs xs ys
 |_,_=>eP
end
abbrev dat(h:Hs):Nat->Val->Option D
 |_,.non=>eL .non
 |_,.bl b=>eL<|.bl b
 |_,.int i=>eL<|.int i
 |_,.str s=>eL<|.str s
 |0,_=>eM
 |n+1,.tup xs=>(xs.mapM<|dat h n).map .tup
 |n+1,.ref a=>(fe<|h a).bind λxs=>(xs.mapM<|dat h n).map .lst
 |n+1,.scr ns=>eL<|.lst<|ns.map .int
 |_+1,.key _ _=>eM
abbrev deep:Nat:=12
abbrev eqV(h:Hs)(v u:Val):Option Bool:=(dat h deep v).bind λd=>(dat h deep u).map λe=>D.eqv d e
abbrev eX:List Val->Option (List Int)
 |[]=>eL []
 |.int i::xs=>(eX xs).map (i :: ·)
 |_=>eM
abbrev fG:List Int->List Int->Bool
 |[],[]=>eP
 |[],_::_=>eN
 |_::_,[]=>eP
 |x::xs,y::ys=>if x=y then fG xs ys else gB (x<y)
abbrev fH:Val->Val->Option Bool
 |.int i,.int j=>eL<|gB (i<j)
 |.tup xs,.tup ys=>(eX xs).bind λns=>(eX ys).map λms=>fG ns ms
 |_,_=>eM
abbrev inL(h:Hs)(x:Val)(ys:List Val):Option Bool:=(dat h deep x).bind λd=>(ys.mapM<|dat h<|deep - 1).map λds=>ds.any λe=>D.eqv e d
abbrev leV:Val->Val->Option Bool
 |.int i,.int j=>eL<|gB (i<=j)
 |_,_=>eM
abbrev isKeyT:Val->Bool
 |.key _ _=>eN
 |_=>eP
abbrev inV(h:Hs)(v u:Val):Option Bool:=match u with
 |.tup xs=>inL h v xs
 |.ref a=>match h a with
  |some (.lst xs)=>inL h v xs
  |some (.dct kvs)=>if fj v then eL (fu kvs v)else eM
  |some (.frz kvs)=>if fj v then eL (fu kvs v)else eM
  |some (.dtp kvs)=>if isKeyT v then eL (fu kvs v)else eM
  |_=>eM
 |.str t=>(match v with|.str s=>(oneC s).map λc=>gB (c∈t.toList)|_=>eM)
 |_=>eM
abbrev isV(v u:Val):Option Bool:=match u with
 |.non=>eL<|gB (v=.non)
 |.bl b=>eL<|gB (v=.bl b)
 |_=>eM
abbrev asLst(h:Hs):Val->Option (List Val)
 |.ref a=>fe<|h a
 |_=>eM
abbrev fi(h:Hs)(op:Cop)(v u:Val):Option Bool:=match op with
 |.eq=>eqV h v u
 |.ne=>(eqV h v u).map (!·)
 |.lt=>fH v u
 |.gt=>fH u v
 |.le=>leV v u
 |.ge=>leV u v
 |.isin=>inV h v u
 |.notin=>(inV h v u).map (!·)
 |.is=>isV v u
 |.isnot=>(isV v u).map (!·)
 |.eqE=>(asLst h v).bind λxs=>(asLst h u).bind λys=>if ys.isEmpty then eL xs.isEmpty else eM
 |.neE=>(asLst h v).bind λxs=>(asLst h u).bind λys=>if ys.isEmpty then eL (!xs.isEmpty)else eM
 |_=>eM
abbrev Ww(h:Hs):Val->Option Bool
 |.bl b=>eL b
 |.int i=>eL<|gB (i≠0)
 |.non=>eL eP
 |.str s=>if s.length<=lim then eL (gB (s.length≠0))else eM
 |.tup xs=>eL (!xs.isEmpty)
 |.scr ns=>eL (!ns.isEmpty)
 |.ref a=>match h a with
  |some (.lst xs)=>eL (!xs.isEmpty)
  |some (.dct kvs)=>eL (!kvs.isEmpty)
  |_=>eM
 |.key _ _=>eM
abbrev mulOk(i j:Int):Prop:=(i.natAbs<2 ^ 64\/j.natAbs<2 ^ 64)\/(i.natAbs<=10 ^ 200/\j.natAbs<=10 ^ 200)
instance (i j:Int):Decidable<|mulOk i j:=inferInstanceAs<|Decidable<|_\/_
@[irreducible] noncomputable def new(h:Hs)(o:Ob)(Q:Q1):Prop:=∀p,h p=eM->Q (.ref p) (upd h p o)
variable {Q:Q1}
def Xh(q:∀p,h p=eM->Q (.ref p) (upd h p o)):new h o Q:=by unfold new;exact q
inductive Rs where|val (v:Val)|new (o:Ob)|no
@[irreducible] noncomputable def Rs.wp(r:Rs)(h:Hs)(Q:Q1):Prop:=match r with|.val v=>Q v h|.new o=>O.new h o Q|.no=>False
@[simp] theorem Rs.wp_val{v:Val}:(Rs.val v).wp h Q=Q v h:=by unfold Rs.wp;rfl
@[simp] theorem Rs.wp_new:(Rs.new o).wp h Q=O.new h o Q:=by unfold Rs.wp;rfl
@[simp] theorem Rs.wp_no:Rs.no.wp h Q=False:=by unfold Rs.wp;rfl
abbrev Rs.ofO:Option Val->Rs
 |some v=>.val v
 |none=>.no
abbrev Rs.lst(xs:List Val):Rs:=if xs.length<=lim then .new (.lst xs)else .no
abbrev addV(h:Hs):Val->Val->Rs
 |.int i,.int j=>.val<|.int<|i+j
 |.str s,.str t=>if s.length+t.length<=lim then .val (.str<|s++t)else .no
 |.tup xs,.tup ys=>if xs.length+ys.length<=lim then .val (.tup<|xs++ys)else .no
 |.ref a,.ref b=>match h a,h b with
  |some (.lst xs),eL (.lst ys)=>Rs.lst<|xs++ys
  |_,_=>.no
 |_,_=>.no
abbrev repT(s:String)(n:Nat):String:=Ζ (Þ n s.toList).flatten
abbrev mulV(h:Hs):Val->Val->Rs
 |.int i,.int j=>if mulOk i j then .val (.int<|i*j)else .no
 |.ref a,.int k=>match h a with
  |some (.lst xs)=>if -(2 ^ 62)<k/\k<2 ^ 62/\xs.length*k.toNat<=lim then Rs.lst (Þ k.toNat xs).flatten else .no
  |_=>.no
 |.str s,.int k=>if 2<=k/\k<=1000000/\1<=s.length/\s.length*k.toNat<=lim then .val (.str<|repT s k.toNat)else .no
 |_,_=>.no
abbrev intV(f:Int->Int->Rs):Val->Val->Rs
 |.int i,.int j=>f i j
 |_,_=>.no
abbrev binV(h:Hs)(op:Bop)(v u:Val):Rs:=match op with
 |.add=>addV h v u
 |.sub=>intV (λi j=>.val<|.int<|i - j) v u
 |.mul=>mulV h v u
 |.fdiv=>intV (λi j=>if 0<j/\j<1073741824 then .val (.int<|i / j)else .no) v u
 |.mod=>intV (λi j=>if 0<j then .val (.int<|i % j)else .no) v u
 |.pow=>intV (λi j=>if 0<=j/\j<=1000000/\i.natAbs<2 ^ 64 then .val (.int<|i ^ j.toNat)else .no) v u
abbrev gg:Val->Option Int
 |.int i=>eL i
 |_=>eM
abbrev fI(h:Hs):Val->Val->Option Val
 |.tup xs,.int k=>atI xs k
 |.str s,.int k=>if s.length<=lim then(atI s.toList k).map λc=>.str (am c)else eM
 |.ref a,k=>match h a with
  |some (.lst xs)=>(gg k).bind<|atI xs
  |some (.dct kvs)=>if fj k then fq kvs k else eM
  |some (.frz kvs)=>if fj k then fq kvs k else eM
  |some (.dtp kvs)=>if isKeyT k then fq kvs k else eM
  |_=>eM
 |.scr ns,.int i=>atI (ns.map .int) i
 |_,_=>eM
abbrev fJ(h:Hs)(v:Val)(lo hi:Option Int):Rs :=
 match v with
 |.tup xs=>if fE xs.length 0 lo=0/\fE xs.length xs.length hi=xs.length then .val (.tup xs)else .val (.tup<|cut xs lo hi)
 |.ref a=>match fe (h a)with
  |some xs=>.new<|.lst<|cut xs lo hi
  |none=>.no
 |.scr ns=>.new<|.lst<|cut (ns.map .int) lo hi
 |.str s=>if s.length<=lim then .val (.str<|Ζ<|cut s.toList lo hi)else .no
 |_=>.no
abbrev sortI(ns:List Int):List Int:=ns.mergeSort λa b=>gB (a<=b)
abbrev blsOf:List Val->Option (List Bool)
 |[]=>eL []
 |.bl b::xs=>(blsOf xs).map (b :: ·)
 |_=>eM
abbrev minL:List Val->Option Val
 |[]=>eM
 |x::xs=>xs.foldl (λm y=>m.bind λb=>(fH y b).map λc=>if c then y else b)<|eL x
abbrev maxL:List Val->Option Val
 |[]=>eM
 |x::xs=>xs.foldl (λm y=>m.bind λb=>(fH b y).map λc=>if c then y else b)<|eL x
abbrev dedup:List Int->List Int
 |[]=>[]
 |x::xs=>x::(dedup xs).filter (· != x)
abbrev fX(c d:String):Bool:=c==d||d == "ShutError" || d == "ValueError" || d == "Exception"
abbrev gj(h:Hs):Val->Option String
 |.non=>eL "NoneType"
 |.bl _=>eL "bool"
 |.int _=>eL "int"
 |.str _=>eL "str"
 |.tup _=>eL "tuple"
 |.scr _=>eL "list"
 |.ref a=>match h a with
  |some (.lst _)=>eL "list"
  |some (.dct _)=>eL "dict"
  |_=>eM
 |.key _ _=>eM
abbrev gk(h:Hs)(v:Val)(T:String):Option Bool:=(gj h v).map λt=>t==T||(t == "bool" && T == "int")
abbrev isiAny(h:Hs)(v:Val):List String->Option Bool
 |[]=>eL eP
 |T::Ts=>(gk h v T).bind λb=>(isiAny h v Ts).map (b || ·)
abbrev pairUp:List Val->Option (List<|Val×Val)
 |[]=>eL []
 |k::v::r=>if fj k then(pairUp r).map ((k,v) :: ·)else eM
 |_=>eM
abbrev putAll(kvs:List<|Val×Val):List (Val×Val)->List (Val×Val)
 |[]=>kvs
 |(k,v)::r=>putAll (fv kvs k v) r
abbrev fN(h:Hs):Val->Rs
 |.ref a=>match h a with
  |some (.lst xs)=>.val<|.int xs.length
  |some (.dct kvs)=>.val<|.int kvs.length
  |_=>.no
 |.tup xs=>.val<|.int xs.length
 |.scr ns=>.val<|.int ns.length
 |.str s=>if s.length<=lim then .val (.int s.length)else .no
 |_=>.no
abbrev RJ:Val->Rs
 |.int i=>.val<|.int i
 |.bl b=>.val (.int<|if b then 1 else 0)
 |.str s=>if s.length<=640/\s.toList≠[]/\s.toList.all figB=eN then .val (.int<|decN s.toList)else .no
 |_=>.no
abbrev absV:Val->Rs
 |.int i=>.val (.int<|if i<0 then -i else i)
 |_=>.no
abbrev ff(f:Val->Rs):List Val->Rs
 |[v]=>f v
 |_=>.no
abbrev biOf2(f:Val->Val->Rs):List Val->Rs
 |[v,u]=>f v u
 |_=>.no
abbrev rowsOf:List Val->Option (List<|List Int)
 |[]=>eL []
 |.tup xs::r=>(eX xs).bind λns=>(rowsOf r).map (ns :: ·)
 |_=>eM
abbrev minR(b:List Int):List (List Int)->List Int
 |[]=>b
 |y::r=>minR (if fG y b then y else b) r
abbrev fO(h:Hs)(v:Val):Rs:=match v with
 |.ref a=>match (fe<|h a).bind rowsOf with
  |some []=>.val .non
  |some (x::r)=>.val<|.tup<|(minR x r).map .int
  |none=>.no
 |_=>.no
abbrev Sd(h:Hs):Val->Rs
 |.ref a=>.ofO<|(fe<|h a).bind λxs=>(blsOf xs).map λbs=>.bl<|bs.all id
 |_=>.no
abbrev sortOf(h:Hs):Val->Option (List Int)
 |.ref a=>(fe<|h a).bind eX
 |.scr ns=>eL ns
 |_=>eM
abbrev keysOf(kvs:List<|Val×Val):Option<|List Int:=eX (kvs.map (·.1))
abbrev sortAny(h:Hs)(v:Val):Option<|List Int:=match v with
 |.ref a=>match h a with
  |some (.lst xs)=>eX xs
  |some (.dct kvs)=>keysOf kvs
  |_=>eM
 |.scr ns=>eL ns
 |_=>eM
abbrev Rn(ĝ:List<|List Int):List<|List Int:=ĝ.mergeSort λa b=>!fG b a
abbrev Ic(h:Hs)(v:Val):Option<|List<|List Int:=match v with
 |.ref a=>(fe<|h a).bind rowsOf
 |_=>eM
abbrev Av(h:Hs)(v:Val):Rs:=match Ic h v with
 |some ĝ=>if ĝ.length<64/\(ĝ.all λr=>!r.isEmpty)=eN then .new (.lst<|(Rn ĝ).map λr=>.tup<|r.map .int)else .no
 |none=>.no
abbrev W6(h:Hs)(v:Val):Rs:=match sortAny h v with
 |some ns=>if ns.length<64 then .new (.lst<|(sortI ns).map .int)else .no
 |none=>Av h v
abbrev biSortedI(h:Hs)(v:Val):Rs:=match sortAny h v with
 |some ns=>if ns.length<64 then .new (.lst<|(sortI ns).map .int)else .no
 |none=>.no
abbrev biSortedSet(h:Hs)(v:Val):Rs:=match sortOf h v with
 |some ns=>if ns.length<64 then .new (.lst<|(sortI<|dedup ns).map .int)else .no
 |none=>.no
abbrev biLenSet(h:Hs)(v:Val):Rs:=match sortOf h v with
 |some ns=>if ns.length<4000 then .val (.int (dedup ns).length)else .no
 |none=>.no
abbrev toList(h:Hs):Val->Rs
 |.ref a=>match h a with
  |some (.lst xs)=>.new<|.lst xs
  |_=>.no
 |.tup xs=>.new<|.lst xs
 |_=>.no
abbrev MQ(h:Hs):Val->Rs
 |.ref a=>match h a with
  |some (.lst xs)=>.val<|.tup xs
  |_=>.no
 |.tup xs=>.val<|.tup xs
 |_=>.no
abbrev biV(h:Hs)(b:Bi)(vs:List Val):Rs:=match b with
 |.len=>ff (fN h) vs
 |.int=>ff RJ vs
 |.min2=>biOf2 (intV λi j=>.val<|.int<|if j<i then j else i) vs
 |.max2=>biOf2 (intV λi j=>.val<|.int<|if j > i then j else i) vs
 |.minD=>ff (fO h) vs
 |.all=>ff (Sd h) vs
 |.sorted=>ff (W6 h) vs
 |.sortedI=>ff (biSortedI h) vs
 |.sortedSet=>ff (biSortedSet h) vs
 |.lenSet=>ff (biLenSet h) vs
 |.list=>ff (toList h) vs
 |.tuple=>ff (MQ h) vs
 |.isi Ts=>ff (λv=>.ofO<|(isiAny h v Ts).map .bl) vs
 |_=>.no
abbrev bmL(h:Hs)(v:Val)(f:Ad->List Val->Option (Val×Hs)):Option<|Val×Hs:=match v with
 |.ref a=>(fe<|h a).bind<|f a
 |_=>eM
abbrev bmD(h:Hs)(v:Val)(f:Ad->List (Val×Val)->Option (Val×Hs)):Option<|Val×Hs:=match v with
 |.ref a=>(gb<|h a).bind<|f a
 |_=>eM
abbrev Dk(h:Hs)(vs:List Val)(a:Ad)(xs:List Val):Option<|Val×Hs:=match vs with
 |[v]=>if xs.length<lim then eL (.non,upd h a<|.lst<|xs++[v])else eM
 |_=>eM
abbrev bmExtend(h:Hs)(vs:List Val)(a:Ad)(xs:List Val):Option<|Val×Hs:=match vs with
 |[.ref b]=>(fe<|h b).bind λys=>if xs.length+ys.length<=lim then eL (.non,upd h a<|.lst<|xs++ys)else eM
 |_=>eM
abbrev bmPopAt(h:Hs)(vs:List Val)(a:Ad)(xs:List Val):Option<|Val×Hs:=match vs with
 |[.int i]=>if -(2 ^ 62)<i/\i<2 ^ 62 then(ixN xs.length i).bind λk=>(xs[k]?).map λv=>(v,upd h a<|.lst<|xs.eraseIdx k)else eM
 |_=>eM
abbrev Q6(h:Hs)(vs:List Val)(a:Ad)(kvs:List<|Val×Val):Option<|Val×Hs:=match vs with
 |[k]=>if fj k then eL ((fq kvs k).getD .non,h)else eM
 |_=>eM
abbrev Ij(h:Hs)(vs:List Val)(a:Ad)(kvs:List<|Val×Val):Option<|Val×Hs:=match vs with
 |[k]=>if fj k then(fq kvs k).map λv=>(v,upd h a<|.dct<|fw kvs k)else eM
 |_=>eM
abbrev E4(h:Hs)(vs:List Val)(a:Ad)(kvs:List<|Val×Val):Option<|Val×Hs:=match vs with
 |[k,d]=>if fj k then eL ((fq kvs k).getD d,upd h a<|.dct<|fw kvs k)else eM
 |_=>eM
abbrev bmV(h:Hs)(m:Bm)(v:Val)(vs:List Val):Option<|Val×Hs:=match m with
 |.append=>bmL h v<|Dk h vs
 |.extend=>bmL h v<|bmExtend h vs
 |.popAt=>bmL h v<|bmPopAt h vs
 |.dget=>bmD h v<|Q6 h vs
 |.dpop=>bmD h v<|Ij h vs
 |.dpopD=>bmD h v<|E4 h vs
 |_=>eM
abbrev isLst:Option Ob->Bool
 |some (.lst _)=>eN
 |_=>eP
abbrev isDct:Option Ob->Bool
 |some (.dct _)=>eN
 |some (.dtp _)=>eN
 |_=>eP
inductive Ty where|l|d|s|t
abbrev Bm.ty:Bm->Ty
 |.dget=>.d
 |.dgetD=>.d
 |.dpop=>.d
 |.dpopD=>.d
 |.setdefault=>.d
 |.join=>.s
 |.split=>.s
 |.replace=>.s
 |.upper=>.s
 |.partition=>.s
 |.sidx=>.s
 |.index=>.t
 |_=>.l
abbrev Jh(p:Option Ob->Bool)(h:Hs):Val->Bool
 |.ref a=>p<|h a
 |_=>eP
abbrev LE:Val->Bool
 |.str _=>eN
 |_=>eP
abbrev Pn:Val->Bool
 |.tup _=>eN
 |_=>eP
abbrev bmTy(h:Hs)(m:Bm)(v:Val):Bool:=match m.ty with
 |.l=>Jh isLst h v
 |.d=>Jh isDct h v
 |.s=>LE v
 |.t=>Jh isLst h v||Pn v
abbrev fh:List (String×Val)->String->Val->List (String×Val)
 |[],f,v=>[(f,v)]
 |(g,x)::r,f,v=>if g=f then(g,v)::r else(g,x)::fh r f v
abbrev getV(env:Env)(i:Nat):Option Val:=match env[i]? with
 |some (eL v)=>eL v
 |_=>eM
abbrev gh:Val->Option Bool
 |.bl b=>eL b
 |_=>eM
abbrev fB:Val->Option Ad
 |.ref a=>eL a
 |_=>eM
abbrev insOf:Option Ob->Option (String×List (String×Val))
 |some (.ins C fs)=>eL (C,fs)
 |_=>eM
abbrev tupOf:Val->Option (List Val)
 |.tup xs=>eL xs
 |_=>eM
abbrev bindL:List Nat->List Val->Env->Option Env
 |[],[],env=>eL env
 |i::is,x::xs,env=>bindL is xs<|env.set i<|eL x
 |_,_,_=>eM
abbrev bind(p:Pt)(h:Hs)(v:Val)(env:Env):Option Env :=
 match p with
 |.one i=>eL<|env.set i<|eL v
 |.many is=>(tupOf v).bind λxs=>bindL is xs env
 |.nest i is=>(tupOf v).bind λxs=>match xs with
  |[x,y]=>(tupOf y).bind λys=>bindL is ys<|env.set i<|eL x
  |_=>eM
abbrev wComp(st:Hs->Prop)(step:Val->Hs->(Option Val->Hs->Prop)->XQ->Prop):List Val->List Val->Hs->(List Val->Hs->Prop)->XQ->Prop
 |[],Į,h,Q,_=>st h/\Q Į h
 |v::vs,Į,h,Q,X=>st h/\step v h (λr h'=>wComp st step vs (Į++r.toList) h' Q X) X
abbrev enumL:Nat->List Val->List Val
 |_,[]=>[]
 |k,x::xs=>.tup [.int k,x]::enumL (k+1) xs
abbrev itV(h:Hs):Val->Option ((Hs->Prop)×List Val)
 |.tup xs=>eL (λ_=>True,xs)
 |.scr ns=>eL (λ_=>True,ns.map .int)
 |.ref a=>(fe<|h a).map λxs=>(λg=>fe (g a)=eL xs,xs)
 |_=>eM
abbrev itemOf(k:Bool)(p:Val×Val):Val:=if k then p.1 else .tup [p.1,p.2]
abbrev fA(i j:Int):List Val:=(List.range (j - i).toNat).map λ(k:Nat)=>.int<|i+k
abbrev fK(h:Hs)(o k v:Val):Option Hs :=
 match o with
 |.ref p=>match h p with
  |some (.lst xs)=>(gg k).bind λn=>(ixN xs.length n).map λj=>upd h p<|.lst<|xs.set j v
  |some (.dct kvs)=>if fj k/\kvs.length<lim then eL (upd h p<|.dct<|fv kvs k v)else eM
  |some (.dtp kvs)=>if isKeyT k/\kvs.length<lim then eL (upd h p<|.dtp<|fv kvs k v)else eM
  |_=>eM
 |_=>eM
abbrev fM(h:Hs)(o:Val)(f:String)(v:Val):Option Hs :=
 match o with
 |.ref p=>match h p with
  |some (.ins C fs)=>if fs.length<900 then eL (upd h p<|.ins C<|fh fs f v)else eM
  |_=>eM
 |_=>eM
abbrev fL(h:Hs)(o:Val)(f:String):Option Val:=(fB o).bind λa=>(insOf<|h a).bind λp=>p.2.lookup f
abbrev clsV(h:Hs)(o:Val)(m:String):Option String:=(fB o).bind λa=>(insOf<|h a).bind λp=>if(p.2.lookup m).isNone then eL p.1 else eM
abbrev augV(op:Bop)(x y:Val):Option Val:=match op,x,y with
 |.add,.int i,.int j=>eL<|.int<|i+j
 |.sub,.int i,.int j=>eL<|.int<|i - j
 |_,_,_=>eM
@[irreducible] noncomputable def NR(F:Hs->(List Val->Hs->Prop)->XQ->Prop)(h:Hs)(Q:Q1)(X:XQ):Prop:=new h (.dct []) λr h1=>go (fB r) λp=>F h1 (λvs h2=>go (pairUp vs) λkvs=>h2 p=eL (.dct [])/\Q (.ref p) (upd h2 p<|.dct<|putAll [] kvs)) X
mutual
@[reducible] noncomputable def xE(Φ:Fs):E->Env->Hs->Q1->XQ->Prop
 |.cst v,_,h,Q,_=>Q v h
 |.glob _ v,_,h,Q,_=>Q v h
 |.var i,env,h,Q,_=>go (getV env i) λv=>Q v h
 |.bin op a b,env,h,Q,X=>xE Φ a env h (λv h1=>xE Φ b env h1 (λu h2=>(binV h2 op v u).wp h2 Q) X) X
 |.neg a,env,h,Q,X=>xE Φ a env h (λv h1=>go (gg v) λi=>Q (.int (-i)) h1) X
 |.not a,env,h,Q,X=>xE Φ a env h (λv h1=>go (gh v) λb=>Q (.bl (!b)) h1) X
 |.and a b,env,h,Q,X=>xE Φ a env h (λv h1=>go (gh v) λc=>if c=eN then xE Φ b env h1 Q X else Q (.bl eP) h1) X
 |.or a b,env,h,Q,X=>xE Φ a env h (λv h1=>go (gh v) λc=>if c=eN then Q (.bl eN) h1 else xE Φ b env h1 Q X) X
 |.cmp op a b,env,h,Q,X=>xE Φ a env h (λv h1=>xE Φ b env h1 (λu h2=>go (fi h2 op v u) λc=>Q (.bl c) h2) X) X
 | .chain o1 o2 a b c,env,h,Q,X=>xE Φ a env h (λv h1=>xE Φ b env h1 (λu h2=>go (fi h2 o1 v u) λk =>
     if k=eN then xE Φ c env h2 (λw h3=>go (fi h3 o2 u w) λk2=>Q (.bl k2) h3) X else Q (.bl eP) h2) X) X
 |.call f as,env,h,Q,X=>xA Φ as env h (λvs h1=>Φ f vs h1 Q X) X
 |.make C as,env,h,Q,X=>xA Φ as env h (λvs h1=>∀p,h1 p=eM->Φ (C ++ ".__init__") (.ref p::vs) (upd h1 p<|.ins C []) (λv h2=>v=.non/\Q (.ref p) h2) X) X
 |.meth C m o as,env,h,Q,X=>xE Φ o env h (λv h1=>clsV h1 v m=eL C/\xA Φ as env h1 (λvs h2=>Φ (C ++ "." ++ m) (v::vs) h2 Q X) X) X
 |.fld o f,env,h,Q,X=>xE Φ o env h (λv h1=>go (fL h1 v f) λu=>Q u h1) X
 |.bi f as,env,h,Q,X=>xA Φ as env h (λvs h1=>(biV h1 f vs).wp h1 Q) X
 |.bm m o as,env,h,Q,X=>xE Φ o env h (λv h1=>bmTy h1 m v=eN/\xA Φ as env h1 (λvs h2=>go (bmV h2 m v vs) λr=>Q r.1 r.2) X) X
 |.idx a i,env,h,Q,X=>xE Φ a env h (λv h1=>xE Φ i env h1 (λk h2=>go (fI h2 v k) λu=>Q u h2) X) X
 |.slc a lo hi,env,h,Q,X=>xE Φ a env h (λv h1=>xO Φ lo env h1 (λl h2=>xO Φ hi env h2 (λu h3=>(fJ h3 v l u).wp h3 Q) X) X) X
 |.pick a lo hi st,env,h,Q,X=>xE Φ a env h (λv h1=>xO Φ lo env h1 (λ_ h2=>xO Φ hi env h2 (λ_ h3=>xE Φ st env h3 (λk h4=>go (gg k) λj=>j≠0/\go (lsA h4 v) λxs=>∀ix:List Nat,ix.Nodup->ix.length<=xs.length->new h4 (.lst<|pickL ix xs) Q) X) X) X) X
 |.tup es,env,h,Q,X=>xA Φ es env h (λvs h1=>Q (.tup vs) h1) X
 |.lst es,env,h,Q,X=>xA Φ es env h (λvs h1=>new h1 (.lst vs) Q) X
 |.dct es,env,h,Q,X=>NR (xA Φ es env) h Q X
 |.ife c a b,env,h,Q,X=>xT Φ c env h (λk h1=>if k=eN then xE Φ a env h1 Q X else xE Φ b env h1 Q X) X
 | .comp ü n p it c e,env,h,Q,X=>xI Φ it env h (λst xs h1=>xs.length<lim/\
     wComp st (λv h2 K X2=>go (bind p h2 v<|Þ n eM++ü.map λj=>(env[j]?).getD eM) λŗ =>
       xT Φ c ŗ h2 (λk h3=>if k=eN then xE Φ e ŗ h3 (λu h4=>K (eL u) h4) X2 else K eM h3) X2) xs [] h1 (λys h5=>new h5 (.lst ys) Q) λ_ _=>False) X
 |_,_,_,_,_=>False
@[reducible] noncomputable def xA(Φ:Fs):Es->Env->Hs->(List Val->Hs->Prop)->XQ->Prop
 |.nil,_,h,Q,_=>Q [] h
 |.cons e es,env,h,Q,X=>xE Φ e env h (λv h1=>xA Φ es env h1 (λvs h2=>Q (v::vs) h2) X) X
@[reducible] noncomputable def xJ(Φ:Fs):Es->Env->Hs->String->(String->Hs->Prop)->XQ->Prop
 |.nil,_,h,Į,Q,_=>Q Į h
 |.cons e es,env,h,Į,Q,X=>xE Φ e env h (λv h1=>go (fmtV v) λs=>Į.length+s.length<=lim/\xJ Φ es env h1 (Į++s) Q X) X
@[reducible] noncomputable def xO(Φ:Fs):Oe->Env->Hs->(Option Int->Hs->Prop)->XQ->Prop
 |.none,_,h,Q,_=>Q eM h
 |.some e,env,h,Q,X=>xE Φ e env h (λv h1=>go (gg v) λi=>Q (eL i) h1) X
@[reducible] noncomputable def xT(Φ:Fs):Tt->Env->Hs->(Bool->Hs->Prop)->XQ->Prop
 |.yes,_,h,Q,_=>Q eN h
 |.val e,env,h,Q,X=>xE Φ e env h (λv h1=>go (Ww h1 v) λk=>Q k h1) X
 |.not a,env,h,Q,X=>xT Φ a env h (λk h1=>Q (!k) h1) X
 |.and a b,env,h,Q,X=>xT Φ a env h (λk h1=>if k=eN then xT Φ b env h1 Q X else Q eP h1) X
 |.or a b,env,h,Q,X=>xT Φ a env h (λk h1=>if k=eN then Q eN h1 else xT Φ b env h1 Q X) X
@[reducible] noncomputable def xI(Φ:Fs):It->Env->Hs->((Hs->Prop)->List Val->Hs->Prop)->XQ->Prop
 |.seq e,env,h,Q,X=>xE Φ e env h (λv h1=>go (itV h1 v) λp=>Q p.1 p.2 h1) X
 |.range a,env,h,Q,X=>xE Φ a env h (λv h1=>go (gg v) λn=>(-(2 ^ 62)<=n/\n<2 ^ 62)/\Q (λ_=>True) (fA 0 n) h1) X
 | .range2 a b,env,h,Q,X=>xE Φ a env h (λv h1=>xE Φ b env h1 (λu h2=>go (gg v) λi=>go (gg u) λj =>
     (-(2 ^ 62)<=i/\i<2 ^ 62/\-(2 ^ 62)<=j/\j<2 ^ 62)/\Q (λ_=>True) (fA i j) h2) X) X
 |.enum e,env,h,Q,X=>xE Φ e env h (λv h1=>go (tupOf v) λxs=>Q (λ_=>True) (enumL 0 xs) h1) X
 |.keysF e,env,h,Q,X=>xE Φ e env h (λv h1=>go (fB v) λa=>go (Q7<|h1 a) λkvs=>Q (λg=>g a=eL (.frz kvs)) (kvs.map<|itemOf eN) h1) X
 |_,_,_,_,_=>False
end
@[reducible] noncomputable def wE:Fs->E->Env->Hs->Q1->XQ->Prop:=xE
@[reducible] noncomputable def wA:Fs->Es->Env->Hs->(List Val->Hs->Prop)->XQ->Prop:=xA
@[reducible] noncomputable def wJ:Fs->Es->Env->Hs->String->(String->Hs->Prop)->XQ->Prop:=xJ
@[reducible] noncomputable def wO:Fs->Oe->Env->Hs->(Option Int->Hs->Prop)->XQ->Prop:=xO
@[reducible] noncomputable def wT:Fs->Tt->Env->Hs->(Bool->Hs->Prop)->XQ->Prop:=xT
@[reducible] noncomputable def wI:Fs->It->Env->Hs->((Hs->Prop)->List Val->Hs->Prop)->XQ->Prop:=xI
def Qt:wE=xE:=by unfold wE;rfl
noncomputable abbrev NQ:=Env->Hs->Prop
noncomputable abbrev EQ:=Env->String->Hs->Prop
abbrev wFor(st:Hs->Prop)(W:Val->Env->Hs->NQ->NQ->Prop)(N:NQ):List Val->Env->Hs->Prop
 |[],env,h=>st h/\N env h
 |v::vs,env,h=>st h/\W v env h (λe g=>wFor st W N vs e g) N
abbrev wWhile(T:Env->Hs->(Bool->Hs->Prop)->Prop)(W:Env->Hs->NQ->NQ->Prop)(N:NQ):Nat->Env->Hs->Prop
 |0,_,_=>False
 |n+1,env,h=>T env h λk h1=>if k=eN then W env h1 (λe g=>wWhile T W N n e g) N else N env h1
mutual
@[reducible] noncomputable def xS(Φ:Fs):S->Env->Hs->NQ->Q1->NQ->NQ->EQ->Prop
 |.set p e,env,h,N,_,_,_,X=>wE Φ e env h (λv h1=>go (bind p h1 v env) λŗ=>N ŗ h1)<|X env
 |.setIdx a i e,env,h,N,_,_,_,X=>wE Φ e env h (λv h1=>wE Φ a env h1 (λo h2=>wE Φ i env h2 (λk h3=>go (fK h3 o k v) λg=>N env g)<|X env)<|X env)<|X env
 |.setFld o f e,env,h,N,_,_,_,X=>wE Φ e env h (λv h1=>wE Φ o env h1 (λu h2=>go (fM h2 u f v) λg=>N env g)<|X env)<|X env
 |.augVar i op e,env,h,N,_,_,_,X=>go (getV env i) λx=>wE Φ e env h (λv h1=>go (augV op x v) λy=>N (env.set i<|eL y) h1)<|X env
 |.augFld o f op n,env,h,N,_,_,_,X=>wE Φ o env h (λu h1=>go (fL h1 u f) λx=>go (augV op x<|.int n) λy=>go (fM h1 u f y) λg=>N env g)<|X env
 |.augIdx a i op n,env,h,N,_,_,_,X=>wE Φ a env h (λo h1=>wE Φ i env h1 (λk h2=>go (fI h2 o k) λx=>go (augV op x<|.int n) λy=>go (fK h2 o k y) λg=>N env g)<|X env)<|X env
 |.expr e,env,h,N,_,_,_,X=>wE Φ e env h (λ_ h1=>N env h1)<|X env
 |.ret e,env,h,_,R,_,_,X=>wE Φ e env h R<|X env
 |.retN,_,h,_,R,_,_,_=>R .non h
 |.ite c a b,env,h,N,R,B,C,X=>wT Φ c env h (λk h1=>if k=eN then xSs Φ a env h1 N R B C X else xSs Φ b env h1 N R B C X)<|X env
 |.whl c b,env,h,N,R,_,_,X=>∃n,wWhile (λe g K=>wT Φ c e g K<|X e) (λe g K M=>xSs Φ b e g K R M K X) N n env h
 |.for p it b,env,h,N,R,_,_,X=>wI Φ it env h (λst xs h1=>wFor st (λv e g K M=>go (bind p g v e) λe2=>xSs Φ b e2 g K R M K X) N xs env h1)<|X env
 | .forI k p e b,env,h,N,R,_,_,X=>wE Φ e env h (λv h1=>go (fB v) λa=>go (gb<|h1 a) λkvs =>
     wFor (λg=>g a=eL (.frz kvs)) (λv e g K M=>go (bind p g v e) λe2=>xSs Φ b e2 g K (λu g2=>g2 a=eL (.frz kvs)/\R u (upd g2 a<|.dct kvs)) M K λ_ _ _=>False)
       (λe g=>g a=eL (.frz kvs)/\N e (upd g a<|.dct kvs)) (kvs.map<|itemOf k) env (upd h1 a<|.frz kvs))<|X env
 |.never,_,_,_,_,_,_,_=>False
 |_,_,_,_,_,_,_,_=>False
@[reducible] noncomputable def xSs(Φ:Fs):Ss->Env->Hs->NQ->Q1->NQ->NQ->EQ->Prop
 |.nil,env,h,N,_,_,_,_=>N env h
 |.cons s ss,env,h,N,R,B,C,X=>xS Φ s env h (λe g=>xSs Φ ss e g N R B C X) R B C X
@[reducible] noncomputable def xH(Φ:Fs):Hn->String->Env->Hs->NQ->Q1->NQ->NQ->Prop
 |.nil,_,_,_,_,_,_,_=>False
 |.cons K eM b r,c,env,h,N,R,B,C=>if fX c K=eN then xSs Φ b env h N R B C (λ_ _ _=>False)else xH Φ r c env h N R B C
 |.cons K (eL i) b r,c,env,h,N,R,B,C=>if fX c K=eN then(∀p,h p=eM->xSs Φ b (env.set i<|eL<|.ref p) (upd h p<|.exc c) (λe g=>N (e.set i eM) g) R (λe g=>B (e.set i eM) g) (λe g=>C (e.set i eM) g) λ_ _ _=>False)
  else xH Φ r c env h N R B C
end
@[reducible] noncomputable def wS:Fs->S->Env->Hs->NQ->Q1->NQ->NQ->EQ->Prop:=xS
@[reducible] noncomputable def wSs:Fs->Ss->Env->Hs->NQ->Q1->NQ->NQ->EQ->Prop:=xSs
structure Fn where
 ar:Nat
 sz:Nat
 body:Ss
noncomputable abbrev Pg:=String->Option Fn
class In(P:Pg)(f:String)(d:outParam Fn):Prop where
 eq:P f=eL d
abbrev Fn.env(d:Fn)(vs:List Val):Env:=vs.map eL++Þ (d.sz - d.ar) eM
abbrev wF0(P:Pg):Nat->Fs
 |0=>λ_ _ _ _ _=>False
 |n+1=>λf vs h Q X=>go (P f) λd=>vs.length=d.ar/\wSs (wF0 P n) d.body (d.env vs) h (λ_ g=>Q .non g) Q (λ_ _=>False) (λ_ _=>False) λ_ c g=>X c g
@[irreducible] noncomputable def wF(P:Pg)(n:Nat):Fs:=wF0 P n
variable {P:Pg} {n:Nat}
def wF_eq:wF P n=wF0 P n:=by unfold wF;rfl
def Zb{f:String}{d:Fn}{vs:List Val}{X:XQ}(e:P f=eL d)(hl:vs.length=d.ar)
  (q:wSs (wF P n) d.body (d.env vs) h (λ_ g=>Q .non g) Q (λ_ _=>False) (λ_ _=>False) λ_ c g=>X c g):wF P (n+1) f vs h Q X:=by
 rw[wF_eq]at q ⊢;exact eV e ⟨hl,q⟩
section
variable {Φ:Fs}{env:Env}{h:Hs}{Q:Q1}{X:XQ}{a b c e o:E}{as:Es}{v u:Val}
def Hc{i:Nat}(g:getV env i=eL v)(q:Q v h):wE Φ (.var i) env h Q X:=by rw[Qt];exact eV g q
def Qo{f:Bi}(q:wA Φ as env h (λvs h1=>(biV h1 f vs).wp h1 Q) X):wE Φ (.bi f as) env h Q X:=q
def Rj{a:Ad}{xs:List Val}(e:h a=eL (.lst xs))(q:∀ix:List Nat,ix.Nodup->ix.length<=xs.length->new h (.lst<|pickL ix xs) Q):go (lsA h<|.ref a) λxs=>∀ix:List Nat,ix.Nodup->ix.length<=xs.length->new h (.lst<|pickL ix xs) Q:=eV (by show fe (h a)=_;rw[e];rfl) q
variable {es:Es}
def RC(q:new h (.dct []) λr h1=>go (fB r) λp=>wA Φ es env h1 (λvs h2=>go (pairUp vs) λkvs=>h2 p=eL (.dct [])/\Q (.ref p) (upd h2 p<|.dct<|putAll [] kvs)) X):wE Φ (.dct es) env h Q X:=by show NR _ _ _ _;unfold NR;exact q
variable {QA:List Val->Hs->Prop}{QO:Option Int->Hs->Prop}{QT:Bool->Hs->Prop}{QI:(Hs->Prop)->List Val->Hs->Prop}
def Dj(q:QA [] h):wA Φ .nil env h QA X:=q
def Ew(q:wE Φ e env h (λv h1=>wA Φ es env h1 (λvs h2=>QA (v::vs) h2) X) X):wA Φ (.cons e es) env h QA X:=q
def Hy(q:wE Φ e env h (λv h1=>go (Ww h1 v) λk=>QT k h1) X):wT Φ (.val e) env h QT X:=q
def Ho{t:Tt}(q:wT Φ t env h (λk h1=>QT (!k) h1) X):wT Φ (.not t) env h QT X:=q
def SK{s t:Tt}(q:wT Φ s env h (λk h1=>if k=eN then QT eN h1 else wT Φ t env h1 QT X) X):wT Φ (.or s t) env h QT X:=q
end
section
variable {Φ:Fs}{env:Env}{h:Hs}{N B C:NQ}{R:Q1}{X:EQ}{a b c e o i:E}{as:Es}{v u:Val}{t:Tt}{s1 s2:Ss}{s:S}{p:Pt}{it:It}{hs:Hn}
def P3(q:wT Φ t env h (λk h1=>if k=eN then wSs Φ s1 env h1 N R B C X else wSs Φ s2 env h1 N R B C X)<|X env):wS Φ (.ite t s1 s2) env h N R B C X:=q
def B7(q:N env h):wSs Φ .nil env h N R B C X:=q
def F4{ss:Ss}(q:wS Φ s env h (λe g=>wSs Φ ss e g N R B C X) R B C X):wSs Φ (.cons s ss) env h N R B C X:=q
end
section
variable {h:Hs}{Q:Q1}{i j k:Int}{a b:Ad}{xs ys:List Val}{v u:Val}{K:Val->Prop}{KB:Bool->Prop}
def wp_val{r:Rs}(e:r=.val v)(q:Q v h):r.wp h Q:=by rw[e,Rs.wp_val];exact q
def wp_new{r:Rs}{o:Ob}(e:r=.new o)(q:new h o Q):r.wp h Q:=by rw[e,Rs.wp_new];exact q
def b_add(q:Q (.int<|i+j) h):(binV h .add (.int i)<|.int j).wp h Q:=wp_val rfl q
def b_sub(q:Q (.int<|i - j) h):(binV h .sub (.int i)<|.int j).wp h Q:=wp_val rfl q
def b_mul(m:mulOk i j)(q:Q (.int<|i*j) h):(binV h .mul (.int i)<|.int j).wp h Q:=wp_val (gp m) q
def b_fdiv(m:0<j/\j<1073741824)(q:Q (.int<|i / j) h):(binV h .fdiv (.int i)<|.int j).wp h Q:=wp_val (gp m) q
def b_mod(m:0<j)(q:Q (.int<|i % j) h):(binV h .mod (.int i)<|.int j).wp h Q:=wp_val (gp m) q
def b_pow(m:0<=j/\j<=1000000/\i.natAbs<2 ^ 64)(q:Q (.int<|i ^ j.toNat) h):(binV h .pow (.int i)<|.int j).wp h Q:=wp_val (gp m) q
def Iz{z:Int}(m:0<=j/\j<=1000000/\i.natAbs<2 ^ 64)(e:i ^ j.toNat=z)(q:Q (.int z) h):(binV h .pow (.int i)<|.int j).wp h Q:=b_pow m (by rw[e];exact q)
def Ps(m:xs.length+ys.length<=lim)(q:Q (.tup<|xs++ys) h):(binV h .add (.tup xs)<|.tup ys).wp h Q:=wp_val (gp m) q
def Sj(e1:h a=eL (.lst xs))(e2:h b=eL (.lst ys))(m:(xs++ys).length<=lim)(q:new h (.lst<|xs++ys) Q):(binV h .add (.ref a)<|.ref b).wp h Q:=by refine wp_new ?_ q;show(match h a,h b with|some (.lst xs),eL (.lst ys)=>Rs.lst (xs++ys)|_,_=>.no:Rs)=_;simp only[e1,e2,Rs.lst];rw[gp m]
def lsE(e1:h a=eL (.lst xs)):fe (h a)=eL xs:=by rw[e1];rfl
variable {kvs:List (Val×Val)}
def dcE(e1:h a=eL (.dct kvs)):gb (h a)=eL kvs:=by rw[e1];rfl
def g_int{K:Int->Prop}(q:K i):go (gg<|.int i) K:=eV rfl q
def g_bl{b:Bool}(q:KB b):go (gh<|.bl b) KB:=eV rfl q
def g_ref{K:Ad->Prop}(q:K a):go (fB<|.ref a) K:=eV rfl q
def g_tbl{b:Bool}(q:KB b):go (Ww h<|.bl b) KB:=eV rfl q
def Sl(q:KB<|gB (i≠0)):go (Ww h<|.int i) KB:=eV rfl q
def Si(e:h a=eL (.lst xs))(q:KB (!xs.isEmpty)):go (Ww h<|.ref a) KB:=eV (by unfold Ww;simp only[e]) q
def eW(e:atI xs i=eL v)(q:K v):go (fI h (.tup xs)<|.int i) K:=eV e q
def Z4(e1:h a=eL (.lst xs))(e:atI xs i=eL v)(q:K v):go (fI h (.ref a)<|.int i) K:=eV (by unfold fI;simp only[e1];exact e) q
def Yb{k:Val}(e1:h a=eL (.dct kvs))(hk:fj k=eN)(e:fq kvs k=eL v)(q:K v):go (fI h (.ref a) k) K:=eV (by unfold fI;simp only[e1];rw[gp hk];exact e) q
variable {ns:List Int}
def LG(e:atI (ns.map Val.int) i=eL v)(q:K v):go (fI h (.scr ns)<|.int i) K:=eV e q
def c_lt(q:KB<|gB (i<j)):go (fi h .lt (.int i)<|.int j) KB:=eV rfl q
def c_gt(q:KB<|gB (j<i)):go (fi h .gt (.int i)<|.int j) KB:=eV rfl q
def c_le(q:KB<|gB (i<=j)):go (fi h .le (.int i)<|.int j) KB:=eV rfl q
def c_ge(q:KB<|gB (j<=i)):go (fi h .ge (.int i)<|.int j) KB:=eV rfl q
def Ni:D.eqv (.int i) (.int j)=gB (i=j):=by rw[D.eqv];by_cases e:i=j<;>simp[e]
variable {s:String}
def He{t:String}:D.eqv (.str s) (.str t)=gB (s=t):=by rw[D.eqv];by_cases e:s=t<;>simp[e]
def c_eqI(q:KB<|gB (i=j)):go (fi h .eq (.int i)<|.int j) KB:=eV (by show eL (D.eqv (.int i)<|.int j)=_;rw[Ni]) q
def c_neI(q:KB (!gB (i=j))):go (fi h .ne (.int i)<|.int j) KB:=eV (by show eL (!D.eqv (.int i) (.int j))=_;rw[Ni]) q
def SR{t:String}(q:KB<|gB (s=t)):go (fi h .eq (.str s)<|.str t) KB:=eV (by show eL (D.eqv (.str s)<|.str t)=_;rw[He]) q
def SQ{t:String}(q:KB (!gB (s=t))):go (fi h .ne (.str s)<|.str t) KB:=eV (by show eL (!D.eqv (.str s) (.str t))=_;rw[He]) q
variable {c:Bool}
def SS{d:Bool}(q:KB<|c==d):go (fi h .eq (.bl c)<|.bl d) KB:=eV (by show eL (D.eqv (.bl c)<|.bl d)=_;rw[D.eqv]) q
def c_isN(q:KB<|gB (v=.non)):go (fi h .is v .non) KB:=eV (by unfold fi;rfl) q
def c_notN(q:KB (!gB (v=.non))):go (fi h .isnot v .non) KB:=eV (by unfold fi;rfl) q
def c_eqE(e1:h a=eL (.lst xs))(e2:h b=eL (.lst []))(q:KB xs.isEmpty):go (fi h .eqE (.ref a)<|.ref b) KB:=eV (by show(fe<|h a).bind _=_;rw[e1,Yr];show(fe<|h b).bind _=_;rw[e2,Yr];rfl) q
def c_neE(e1:h a=eL (.lst xs))(e2:h b=eL (.lst []))(q:KB (!xs.isEmpty)):go (fi h .neE (.ref a)<|.ref b) KB:=eV (by show(fe<|h a).bind _=_;rw[e1,Yr];show(fe<|h b).bind _=_;rw[e2,Yr];rfl) q
def PD{ms:List Int}(e1:eX xs=eL ns)(e2:eX ys=eL ms)(q:KB<|fG ms ns):go (fi h .gt (.tup xs)<|.tup ys) KB:=eV (by show(eX ys).bind _=_;rw[e1,e2];rfl) q
variable {n:Nat} {Ń:Env}
def PM{env:Env}{K:Env->Prop}(e:env.set n (eL v)=Ń)(q:K Ń):go (bind (.one n) h v env) K:=by subst e;exact eV rfl q
def LW{is:List Nat}{env:Env}{K:Env->Prop}(e:bindL is xs env=eL Ń)(q:K Ń):go (bind (.many is) h (.tup xs) env) K:=eV e q
def Id{K:Hs->Prop}(e1:h a=eL (.lst xs))(e:ixN xs.length i=eL n)(q:K<|upd h a<|.lst<|xs.set n v):go (fK h (.ref a) (.int i) v) K:=eV (by unfold fK;simp only[e1,gg,ý,e,œ]) q
def Yo{K:Hs->Prop}{k:Val}(e1:h a=eL (.dct kvs))(m:fj k=eN/\kvs.length<lim)(q:K<|upd h a<|.dct<|fv kvs k v):go (fK h (.ref a) k v) K:=eV (by unfold fK;simp only[e1];rw[gp m]) q
def Ju(e1:h a=eL (.dct kvs))(hk:fj v=eN)(q:KB<|fu kvs v):go (fi h .isin v<|.ref a) KB:=eV (by show inV h v (.ref a)=_;unfold inV;simp only[e1];rw[gp hk]) q
def Xz(e1:h a=eL (.dct kvs))(hk:fj v=eN)(q:KB (!fu kvs v)):go (fi h .notin v<|.ref a) KB:=eV (by show(inV h v<|.ref a).map _=_;unfold inV;simp only[e1];rw[gp hk];rfl) q
variable {C:String} {f:String}
def Yn{fs:List (String×Val)}{K:Hs->Prop}(e1:h a=eL (.ins C fs))(m:fs.length<900)(q:K<|upd h a<|.ins C<|fh fs f v):go (fM h (.ref a) f v) K:=eV (by unfold fM;simp only[e1];rw[gp m]) q
def IF{fs:List (String×Val)}(e1:h a=eL (.ins C fs))(e:fs.lookup f=eL v)(q:K v):go (fL h (.ref a) f) K:=eV (by unfold fL fB;simp only[e1,insOf,ý];exact e) q
variable {P:Prop}
def Pu{m:String}{fs:List (String×Val)}(e1:h a=eL (.ins C fs))(e:fs.lookup m=eM)(q:P):clsV h (.ref a) m=eL C/\P:=⟨by unfold clsV fB;simp only[e1,insOf,ý,e,Option.isNone_none,if_true],q⟩
def ag_add(q:K<|.int<|i+j):go (augV .add (.int i)<|.int j) K:=eV rfl q
def ln_lst(e1:h a=eL (.lst xs))(q:Q (.int xs.length) h):(biV h .len [.ref a]).wp h Q:=wp_val (by show fN h (.ref a)=_;unfold fN;dsimp only;rw[e1]) q
def ln_scr(q:Q (.int ns.length) h):(biV h .len [.scr ns]).wp h Q:=wp_val rfl q
def ln_tup(q:Q (.int xs.length) h):(biV h .len [.tup xs]).wp h Q:=wp_val rfl q
def in_str(m:s.length<=640/\s.toList≠[]/\s.toList.all figB=eN)(q:Q (.int<|decN s.toList) h):(biV h .int [.str s]).wp h Q:=wp_val (gp m) q
def OG{bs:List Bool}(e1:h a=eL (.lst xs))(e2:blsOf xs=eL bs)(q:Q (.bl<|bs.all id) h):(biV h .all [.ref a]).wp h Q:=wp_val (by show Rs.ofO ((fe<|h a).bind _)=_;rw[lsE e1,ý,e2];rfl) q
def ST{K:String->Prop}(q:K s):go (Qv<|.str s) K:=eV rfl q
variable {m:Bm}
def Sq(hm:m=.join)(q:P):bmTy h m (.str s)=eN/\P:=⟨by subst hm;rfl,q⟩
def SJ(q:Q (.int i) h):(biV h .int [.int i]).wp h Q:=wp_val rfl q
def in_bl(q:Q (.int<|if c then 1 else 0) h):(biV h .int [.bl c]).wp h Q:=wp_val rfl q
def mn2(q:Q (.int<|if j<i then j else i) h):(biV h .min2 [.int i,.int j]).wp h Q:=wp_val rfl q
def mx2(q:Q (.int<|if j > i then j else i) h):(biV h .max2 [.int i,.int j]).wp h Q:=wp_val rfl q
def tp_lst(e1:h a=eL (.lst xs))(q:Q (.tup xs) h):(biV h .tuple [.ref a]).wp h Q:=wp_val (by show MQ h (.ref a)=_;unfold MQ;dsimp only;rw[e1]) q
def Sz(q:Q (.tup xs) h):(biV h .tuple [.tup xs]).wp h Q:=wp_val rfl q
def Rv{Ts:List String}(e:isiAny h v Ts=eL c)(q:Q (.bl c) h):(biV h (.isi Ts) [v]).wp h Q:=wp_val (by show Rs.ofO ((isiAny h v Ts).map .bl)=_;rw[e];rfl) q
def ls_lst(e1:h a=eL (.lst xs))(q:new h (.lst xs) Q):(biV h .list [.ref a]).wp h Q:=wp_new (by show toList h (.ref a)=_;unfold toList;dsimp only;rw[e1]) q
def RQ(q:new h (.lst xs) Q):(biV h .list [.tup xs]).wp h Q:=wp_new rfl q
variable {lo:Option Int} {hi:Option Int}
def fP(n:¬ (fE xs.length 0 lo=0/\fE xs.length xs.length hi=xs.length))(q:Q (.tup<|cut xs lo hi) h):(fJ h (.tup xs) lo hi).wp h Q:=wp_val (by unfold fJ;simp only;rw[gq n]) q
def HX(hm:m.ty=.l\/m.ty=.t)(e:h a=eL (.lst xs))(q:P):bmTy h m (.ref a)=eN/\P:=⟨by unfold bmTy;rcases hm with hm|hm<;>rw[hm]<;>simp[Jh,e,isLst],q⟩
def PF(hm:m.ty=.d)(e:h a=eL (.dct kvs))(q:P):bmTy h m (.ref a)=eN/\P:=⟨by unfold bmTy;rw[hm];simp[Jh,e,isDct],q⟩
abbrev LU:Bi->Bool
 |.sorted=>eN
 |.sortedI=>eN
 |_=>eP
def CN{f:Bi}(hf:LU f=eN)(e:sortAny h v=eL ns)(m:ns.length<64)(q:new h (.lst<|(sortI ns).map Val.int) Q):(biV h f [v]).wp h Q:=by
 cases f with
 |sorted=>exact wp_new (by show W6 h v=_;unfold W6;simp only[e];exact gp m) q
 |sortedI=>exact wp_new (by show biSortedI h v=_;unfold biSortedI;simp only[e];exact gp m) q
 |_=>cases hf
def Js{f:Bi}(e1:h a=eL (.lst<|ns.map Val.int))(e2:eX (ns.map Val.int)=eL ns)(m:ns.length<64)(q:new h (.lst<|(sortI ns).map Val.int) Q)(hf:LU f=eN:=by rfl):(biV h f [.ref a]).wp h Q:=CN hf (by unfold sortAny;simp only[e1,e2]) m q
def BK{f:Bi}(e1:h a=eL (.dct kvs))(e2:keysOf kvs=eL ns)(m:ns.length<64)(q:new h (.lst<|(sortI ns).map Val.int) Q)(hf:LU f=eN:=by rfl):(biV h f [.ref a]).wp h Q:=CN hf (by unfold sortAny;simp only[e1,e2]) m q
def IK(e1:h a=eL (.lst []))(q:Q .non h):(biV h .minD [.ref a]).wp h Q:=wp_val (by show fO h (.ref a)=_;unfold fO;simp only[e1,fe,ý,rowsOf]) q
def Fz{x:List Int}{r:List (List Int)}(e1:h a=eL (.lst xs))(e2:rowsOf xs=eL (x::r))(q:Q (.tup<|(minR x r).map Val.int) h):(biV h .minD [.ref a]).wp h Q:=wp_val (by show fO h (.ref a)=_;unfold fO;simp only[e1,fe,ý,e2]) q
def sl_str(n:s.length<=lim)(q:Q (.str<|Ζ<|cut s.toList lo hi) h):(fJ h (.str s) lo hi).wp h Q:=wp_val (by unfold fJ;simp only;rw[gp n]) q
def sl_lst(e1:h a=eL (.lst xs))(q:new h (.lst<|cut xs lo hi) Q):(fJ h (.ref a) lo hi).wp h Q:=wp_new (by unfold fJ;simp only[e1,fe]) q
def sl_scr(q:new h (.lst<|cut (ns.map Val.int) lo hi) Q):(fJ h (.scr ns) lo hi).wp h Q:=wp_new rfl q
def ZM{K:Val×Hs->Prop}(e1:h a=eL (.lst xs))(m:xs.length<lim)(q:K (.non,upd h a<|.lst<|xs++[v])):go (bmV h .append (.ref a) [v]) K:=eV (by show(fe<|h a).bind _=_;rw[lsE e1];exact gp m) q
def BO{K:Val×Hs->Prop}(e1:h a=eL (.dct kvs))(hk:fj v=eN)(q:K ((fq kvs v).getD .non,h)):go (bmV h .dget (.ref a) [v]) K:=eV (by show(gb<|h a).bind _=_;rw[dcE e1];exact gp hk) q
def it_lst{K:(Hs->Prop)×List Val->Prop}(e1:h a=eL (.lst xs))(q:K (λg=>fe (g a)=eL xs,xs)):go (itV h<|.ref a) K:=eV (by unfold itV;simp only[e1,fe,œ]) q
def it_scr{K:(Hs->Prop)×List Val->Prop}(q:K (λ_=>True,ns.map Val.int)):go (itV h<|.scr ns) K:=eV rfl q
def it_tup{K:(Hs->Prop)×List Val->Prop}(q:K (λ_=>True,xs)):go (itV h<|.tup xs) K:=eV rfl q
def RN{K:List Val->Prop}(q:K xs):go (BZ h<|.tup xs) K:=eV rfl q
def R5{K:List Val->Prop}(e1:h a=eL (.lst xs))(q:K xs):go (BZ h<|.ref a) K:=eV (by unfold BZ;simp only[e1,fe]) q
variable {A:Prop} {B:Prop}
def fQ(e:c=eN)(q:A):if c=eN then A else B:=by rw[gp e];exact q
def fR(e:c=eP)(q:B):if c=eN then A else B:=by rw[gq<|by rw[e];decide];exact q
def fT(q:c=eN->A)(r:c=eP->B):if c=eN then A else B:=by cases c;exact r rfl;exact q rfl
variable {p:Prop}
def fS[Decidable p](q:p->A)(r:¬p->B):if decide p=eN then A else B:=by
 by_cases e:p
 .rw[gp<|gx e];exact q e
 .rw[gq<|by simpa using e];exact r e
def Kk[Decidable p](q:¬p->A)(r:p->B):if(!decide p)=eN then A else B:=by
 by_cases e:p
 .rw[gq<|by simpa using e];exact r e
 .rw[gp<|by simpa using e];exact q e
end
structure Ext(h g:Hs):Prop where
 get:∀{a:Ad}{o:Ob},h a=eL o->g a=eL o
variable {h:Hs}
def Ext.refl:Ext h h:=⟨λe=>e⟩
variable {g:Hs}
def Ext.trans{k:Hs}(e:Ext h g)(f:Ext g k):Ext h k:=⟨λx=>f.get<|e.get x⟩
variable {p:Ad} {o:Ob}
def Ext.new(e:h p=eM):Ext h<|upd h p o:=⟨λ{a u} x=>by
  rw[eQ<|by intro z;rw[z,e]at x;cases x];exact x⟩
structure ExtB(w:Ad)(h g:Hs):Prop where
 get:∀{a:Ad}{o:Ob},a≠w->h a=eL o->g a=eL o
variable {w:Ad}
def ExtB.trans{k:Hs}(e:ExtB w h g)(f:ExtB w g k):ExtB w h k:=⟨λn x=>f.get n<|e.get n x⟩
def ExtB.upd:ExtB w h<|upd h w o:=⟨λn x=>by rw[eQ n];exact x⟩
def ExtB.of(e:Ext h g):ExtB w h g:=⟨λ_ x=>e.get x⟩
variable {a:Ad}
def Za(x:h a=eL o)(n:h p=eM):a≠p:=by intro z;rw[z,n]at x;cases x
def ne_none'(n:h p=eM)(x:h a=eL o):a≠p:=Za x n
def upd_ne'{b:Ad}{r:Option Ob}(n:b≠a)(e:h b=r):upd h a o b=r:=by rw[eQ n];exact e
inductive Sm2 {α β:Type}(p:α->β->Prop):Prop|mk (a:α) (b:β) (h:p a b)
inductive Sm3 {α β γ:Type}(p:α->β->γ->Prop):Prop|mk (a:α) (b:β) (c:γ) (h:p a b c)
inductive Sm4 {α β γ δ:Type}(p:α->β->γ->δ->Prop):Prop|mk (a:α) (b:β) (c:γ) (d:δ) (h:p a b c d)
inductive Sm5 {α β γ δ ε:Type}(p:α->β->γ->δ->ε->Prop):Prop|mk (a:α) (b:β) (c:γ) (d:δ) (e:ε) (h:p a b c d e)
inductive Cj2 (a b:Prop):Prop|mk (h1:a) (h2:b)
inductive Cj3 (a b c:Prop):Prop|mk (h1:a) (h2:b) (h3:c)
inductive Cj4 (a b c d:Prop):Prop|mk (h1:a) (h2:b) (h3:c) (h4:d)
inductive Cj5 (a b c d e:Prop):Prop|mk (h1:a) (h2:b) (h3:c) (h4:d) (h5:e)
inductive Cj7 (a b c d e f g:Prop):Prop|mk (h1:a) (h2:b) (h3:c) (h4:d) (h5:e) (h6:f) (h7:g)
inductive Cj8 (a b c d e f g h:Prop):Prop|mk (h1:a) (h2:b) (h3:c) (h4:d) (h5:e) (h6:f) (h7:g) (h8:h)
inductive Cj9 (a b c d e f g h i:Prop):Prop|mk (h1:a) (h2:b) (h3:c) (h4:d) (h5:e) (h6:f) (h7:g) (h8:h) (h9:i)
variable {st:Hs->Prop} {N:NQ} {xs:List Val}
def Zk{W:Val->Env->Hs->NQ->NQ->Prop}(I:Nat->Env->Hs->Prop){env:Env}(h0:I 0 env h)(Ž:∀i e g,i<=xs.length->I i e g->st g)
  (step:∀i v e g,xs[i]?=eL v->I i e g->∀K:NQ,(∀e' g',I (i+1) e' g'->K e' g')->W v e g K N) (fin:∀e g,I xs.length e g->N e g):wFor st W N xs env h:=by
 have key:∀(ys:List Val) (i:Nat) e g,xs.drop i=ys->i<=xs.length->I i e g->wFor st W N ys e g:=by
  intro ys;induction ys with
  |nil =>
   intro i e g hd hi hI;have:i=xs.length:=by have:=congrArg List.length hd;simp at this;lia
   subst this;exact⟨Ž _ e g (Ì _) hI,fin e g hI⟩
  |cons v vs ih =>
   intro i e g hd hi hI;have ϴ:i<xs.length:=by have:=congrArg List.length hd;simp at this;lia
   have hv:xs[i]?=eL v:=by have:=congrArg (λl=>l[0]?) hd;simpa using this
   refine⟨Ž i e g hi hI,step i v e g hv hI _ λe' g' hI'=>ih (i+1) e' g' ?_ (by lia) hI'⟩;have:=congrArg List.tail hd;simpa using this
 exact key xs 0 env h (by simp) (by lia) h0
def AJ{T:Env->Hs->(Bool->Hs->Prop)->Prop}{W:Env->Hs->NQ->NQ->Prop}(I:Nat->Env->Hs->Prop){env:Env}{m:Nat}(h0:I m env h)
  (step:∀m e g,I m e g->∀K:NQ,(∀m' e' g',m'<m->I m' e' g'->K e' g')->T e g λk h1=>if k=eN then W e h1 K N else N e h1):∃n,wWhile T W N n env h:=by
 refine⟨m+1,?_⟩;have key:∀(n m:Nat) e g,m<n->I m e g->wWhile T W N n e g:=by
  intro n;induction n with
  |zero=>intro m e g hm;lia
  |succ n ih=>intro m e g hm hI;exact step m e g hI _ λm' e' g' hm' hI'=>ih m' e' g' (by lia) hI'
 exact key (m+1) m env h (by lia) h0
variable {Q:List Val->Hs->Prop} {X:XQ}
def XY{step:Val->Hs->(Option Val->Hs->Prop)->XQ->Prop}(I:Nat->List Val->Hs->Prop)(h0:I 0 [] h)(Ž:∀i ys g,i<=xs.length->I i ys g->st g)
  (go:∀i v ys g,xs[i]?=eL v->I i ys g->∀K,(∀r g',I (i+1) (ys++r.toList) g'->K r g')->step v g K X) (fin:∀ys g,I xs.length ys g->Q ys g):wComp st step xs [] h Q X:=by
 have key:∀(zs:List Val) (i:Nat) ys g,xs.drop i=zs->i<=xs.length->I i ys g->wComp st step zs ys g Q X:=by
  intro zs;induction zs with
  |nil =>
   intro i ys g hd hi hI;have:i=xs.length:=by have:=congrArg List.length hd;simp at this;lia
   subst this;exact⟨Ž _ ys g (Ì _) hI,fin ys g hI⟩
  |cons v vs ih =>
   intro i ys g hd hi hI;have ϴ:i<xs.length:=by have:=congrArg List.length hd;simp at this;lia
   have hv:xs[i]?=eL v:=by have:=congrArg (λl=>l[0]?) hd;simpa using this
   refine⟨Ž i ys g hi hI,go i v ys g hv hI _ λr g' hI'=>ih (i+1) _ g' ?_ (by lia) hI'⟩;have:=congrArg List.tail hd;simpa using this
 exact key xs 0 [] h (by simp) (by lia) h0
def Yq{step:Val->Hs->(Option Val->Hs->Prop)->XQ->Prop}(f:Val->Option Val)(Ž:st h)
  (go:∀v∈xs,∀K,K (f v) h->step v h K X) (fin:Q (xs.filterMap f) h):wComp st step xs [] h Q X:=by
 have key:∀(zs ys:List Val),(∀v∈zs,v∈xs)->Q (ys++zs.filterMap f) h->wComp st step zs ys h Q X:=by
  intro zs;induction zs with
  |nil=>intro ys _ q;exact⟨Ž,⇑q⟩
  |cons v vs ih =>
   intro ys hm q;refine⟨Ž,go v (hm v<|by simp) _<|ih _ (λw hw=>hm w<|by simp[hw]) ?_⟩;cases e:f v with
   |none=>simpa[ð,e]using q
   |some u=>simpa[ð,e]using q
 exact key xs [] (λ_ h=>h) ⇑fin
section
variable {Φ:Fs}{env:Env}{h:Hs}{Q:Q1}{X:XQ}{a b c e o:E}{as:Es}{v u:Val}
def q_e_bi{f:Bi}:(wE Φ (.bi f as) env h Q X)=(wA Φ as env h (λvs h1=>(biV h1 f vs).wp h1 Q) X):=rfl
variable {es:Es}
def q_e_dct:(wE Φ (.dct es) env h Q X)=(new h (.dct []) λr h1=>go (fB r) λp=>wA Φ es env h1 (λvs h2=>go (pairUp vs) λkvs=>h2 p=eL (.dct [])/\Q (.ref p) (upd h2 p<|.dct<|putAll [] kvs)) X):=by show NR _ _ _ _=_;unfold NR;rfl
variable {QA:List Val->Hs->Prop}{QO:Option Int->Hs->Prop}{QT:Bool->Hs->Prop}{QI:(Hs->Prop)->List Val->Hs->Prop}
def q_a_nil:(wA Φ .nil env h QA X)=(QA [] h):=rfl
def q_a_cons:(wA Φ (.cons e es) env h QA X)=(wE Φ e env h (λv h1=>wA Φ es env h1 (λvs h2=>QA (v::vs) h2) X) X):=rfl
end
mutual
theorem D.eqv_refl:∀d:D,D.eqv d d=eN
 |.non=>by simp[D.eqv]
 |.bl _=>by simp[D.eqv]
 |.int _=>by simp[D.eqv]
 |.str _=>by simp[D.eqv]
 |.tup ds=>by simp only[D.eqv];exact D.eqvs_refl ds
 |.lst ds=>by simp only[D.eqv];exact D.eqvs_refl ds
theorem D.eqvs_refl:∀ds:List D,D.eqvs ds ds=eN
 |[]=>by simp[D.eqvs]
 |d::ds=>by simp only[D.eqvs,D.eqv_refl d,D.eqvs_refl ds,Bool.and_self]
end
def U8{α:Type}{o:Option α}{k k':α->Prop}(h:go o k)(f:∀a,k a->k' a):go o k':=by
 cases o with
 |none=>rw[GZ]at h;exact h.elim
 |some a=>rw[eU]at h ⊢;exact f a h
section
variable {Φ:Fs}{env:Env}{h:Hs}{Q:Q1}{X:XQ}{a:Ad}{v:Val}{kvs:List (Val×Val)}
def LY(q:∀p,h p=eM->Q (.ref p) (upd h p<|.dct [])):wE Φ (.dct .nil) env h Q X:=by refine RC<|Xh λp hp=>g_ref<|Dj<|eV rfl ⟨eR,?_⟩;rw[eS];exact q p hp
def dw0(q:∀p,h p=eM->Q (.ref p) (upd h p<|.dct [])):NR (xA Φ .nil env) h Q X:=LY q
def dw{F:Hs->(List Val->Hs->Prop)->XQ->Prop}(q:new h (.dct []) λr h1=>go (fB r) λp=>F h1 (λvs h2=>go (pairUp vs) λkvs=>h2 p=eL (.dct [])/\Q (.ref p) (upd h2 p<|.dct<|putAll [] kvs)) X):NR F h Q X:=by unfold NR;exact q
def Qu{i:Nat}{K:Val->Prop}(g:getV env i=eL v)(q:K v):go (getV env i) K:=eV g q
def dc_of{K:List (Val×Val)->Prop}(e1:h a=eL (.dct kvs))(q:K kvs):go (gb<|h a) K:=eV (dcE e1) q
variable {u:Val}
def MM{K:Val->Prop}{k:Val}(e1:h a=eL (.frz kvs))(hk:fj k=eN)(e:fq kvs k=eL u)(q:K u):go (fI h (.ref a) k) K:=eV (by unfold fI;simp only[e1];rw[gp hk];exact e) q
def Cq{K:Val×Hs->Prop}(e1:h a=eL (.dct kvs))(hk:fj v=eN)(e2:fq kvs v=eL u)(q:K (u,upd h a<|.dct<|fw kvs v)):go (bmV h .dpop (.ref a) [v]) K:=eV (by show(gb<|h a).bind _=_;rw[dcE e1];show(if fj v then _ else _)=_;rw[gp hk,e2];rfl) q
def UU{K:Val×Hs->Prop}(e1:h a=eL (.dct kvs))(hk:fj v=eN)(q:K ((fq kvs v).getD u,upd h a<|.dct<|fw kvs v)):go (bmV h .dpopD (.ref a) [v,u]) K:=eV (by show(gb<|h a).bind _=_;rw[dcE e1];exact gp hk) q
end
end O
namespace Snd
open PySem L2
abbrev KT(K:Frag)(a:Í)(xs:List V):Prop :=
 ∃(o:Obj) (ø:Array Ã) (n:Nat),K.lookup a=eL o/\o.cls=.type "tuple"/\o.data=.seq ø n/\ø.size<=ß/\f8 xs ø.toList
abbrev KL(K:Frag)(a:Í)(xs:List V):Prop :=
 ∃(o:Obj) (ø:Array Ã) (n:Nat),K.lookup a=eL o/\o.cls=.type "list"/\o.dict=eM/\o.data=.seq ø n/\ø.size<=ß/\f8 xs ø.toList
mutual
inductive RV (K:Frag) (H:Hp):O.Val->V->Prop
 |non:RV K H .non .non
 |bl (b:Bool):RV K H (.bl b)<|.bl b
 |int (i:Int):RV K H (.int i)<|.int i
 |str (s:String):RV K H (.str s)<|.str<|gC s
 |tup {xs:List O.Val}{a:Í}{vs:List V}:(H a=eL (.tup vs)\/KT K a vs)->RVs K H xs vs->RV K H (.tup xs) (.ref a)
 |ref (a:Í):RV K H (.ref a)<|.ref a
 |scr {ns:List Int}{a:Í}:((∃o,H a=eL (.frz o<|.lst<|ns.map V.int))\/KL K a (ns.map V.int))->RV K H (.scr ns) (.ref a)
 |key {i j:Int}{a:Í}:H a=eL (.tup [.int i,.int j])->RV K H (.key i j) (.ref a)
inductive RVs (K:Frag) (H:Hp):List O.Val->List V->Prop
 |nil:RVs K H [] []
 |cons {v:O.Val}{x:V}{vs:List O.Val}{xs:List V}:RV K H v x->RVs K H vs xs->RVs K H (v::vs) (x::xs)
end
structure fo(H H':Hp):Prop where
 t:∀a xs,H a=eL (.tup xs)->H' a=eL (.tup xs)
 f:∀a o u,H a=eL (.frz o u)->H' a=eL (.frz o u)
def fo.refl(H:Hp):fo H H:=⟨λ_ _ e=>e,λ_ _ _ e=>e⟩
variable {H:Hp}
def fo.trans{H1 H2:Hp}(a:fo H H1)(b:fo H1 H2):fo H H2:=⟨λc xs e=>b.t c xs<|a.t c xs e,λc o u e=>b.f c o u<|a.f c o u e⟩
variable {a:Í} {o:HO}
def fo.put(h:∀xs,H a≠eL (.tup xs))(h2:∀p u,H a≠eL (.frz p u)):fo H<|upd H a o:=⟨λb xs e=>by
  rw[eQ<|by rintro rfl;exact h xs e];exact e,λb p u e=>by rw[eQ<|by rintro rfl;exact h2 p u e];exact e⟩
def fo.new(h:H a=eM):fo H<|upd H a o:=fo.put (λxs e=>by rw[h]at e;cases e) λp u e=>by rw[h]at e;cases e
variable {K:Frag}{H H':Hp}
mutual
theorem RV.keep(k:fo H H'):∀{v:O.Val}{x:V},RV K H v x->RV K H' v x
 |_,_,.non=>.non
 |_,_,.bl b=>.bl b
 |_,_,.int i=>.int i
 |_,_,.str s=>.str s
 |_,_,.tup (.inl e) r=>.tup (.inl<|k.t _ _ e)<|RVs.keep k r
 |_,_,.tup (.inr e) r=>.tup (.inr e)<|RVs.keep k r
 |_,_,.ref a=>.ref a
 |_,_,.scr (.inl ⟨o,e⟩)=>.scr<|.inl ⟨o,k.f _ _ _ e⟩
 |_,_,.scr (.inr e)=>.scr<|.inr e
 |_,_,.key e=>.key<|k.t _ _ e
theorem RVs.keep(k:fo H H'):∀{vs:List O.Val}{xs:List V},RVs K H vs xs->RVs K H' vs xs
 |_,_,.nil=>.nil
 |_,_,.cons r t=>.cons (RV.keep k r)<|RVs.keep k t
end
def RVs.length:∀{vs:List O.Val}{xs:List V},RVs K H vs xs->vs.length=xs.length
 |_,_,.nil=>rfl
 |_,_,.cons _ t=>by rw[Ï,Ï,RVs.length t]
def RVs.get:∀{vs:List O.Val}{xs:List V}{i:Nat}{v:O.Val},RVs K H vs xs->vs[i]?=eL v->∃x,xs[i]?=eL x/\RV K H v x
 |_,_,_,_,.nil,e=>by simp at e
 |_,_,0,_,.cons r _,e=>by simp at e;subst e;exact⟨_,rfl,r⟩
 |_,_,i+1,v,.cons _ t,e=>by let⟨x,h1,h2⟩:=RVs.get (i:=i) (v:=v) t ⇑e;exact⟨x,⇑h1,h2⟩
def RVs.append:∀{vs us:List O.Val}{xs ys:List V},RVs K H vs xs->RVs K H us ys->RVs K H (vs++us) (xs++ys)
 |_,_,_,_,.nil,h=>h
 |_,_,_,_,.cons r t,h=>.cons r<|RVs.append t h
def RVs.set{v:O.Val}{x:V}(r:RV K H v x):∀{vs:List O.Val}{xs:List V}(i:Nat),RVs K H vs xs->RVs K H (vs.set i v) (xs.set i x)
 |_,_,_,.nil=>.nil
 |_,_,0,.cons _ t=>.cons r t
 |_,_,i+1,.cons q t=>.cons q<|RVs.set r i t
def RVs.take:∀{vs:List O.Val}{xs:List V}(n:Nat),RVs K H vs xs->RVs K H (vs.take n) (xs.take n)
 |_,_,0,_=>.nil
 |_,_,_+1,.nil=>.nil
 |_,_,n+1,.cons r t=>.cons r<|RVs.take n t
def RVs.drop:∀{vs:List O.Val}{xs:List V}(n:Nat),RVs K H vs xs->RVs K H (vs.drop n) (xs.drop n)
 |_,_,0,r=>r
 |_,_,_+1,.nil=>.nil
 |_,_,n+1,.cons _ t=>RVs.drop n t
def RVs.eraseIdx:∀{vs:List O.Val}{xs:List V}(i:Nat),RVs K H vs xs->RVs K H (vs.eraseIdx i) (xs.eraseIdx i)
 |_,_,_,.nil=>.nil
 |_,_,0,.cons _ t=>t
 |_,_,i+1,.cons q t=>.cons q<|RVs.eraseIdx i t
def Zl{vs:List V}(h:H a=eL (.tup vs)\/KT K a vs):fZ K H a vs:=by
 rcases h with h|h
 .exact fZ.of h
 .exact .inr h
structure Inf where
 K:Frag
 cl:String->Í->Prop
 ins:String->Bool
 xc:String->Í->Prop
abbrev WF:O.Val->Key->Prop
 |.int i,.inl j=>i=j
 |.str s,.inr t=>t=gC s
 |_,_=>False
inductive RKs (K:Frag) (H:Hp):List (O.Val×O.Val)->List (Key×V)->Prop
 |nil:RKs K H [] []
 |cons {k v:O.Val}{c:Key}{x:V}{kvs:List (O.Val×O.Val)}{ps:List (Key×V)}:WF k c->RV K H v x->RKs K H kvs ps->RKs K H ((k,v)::kvs) ((c,x)::ps)
inductive RFs (K:Frag) (H:Hp):List (String×O.Val)->List (Str×V)->Prop
 |nil:RFs K H [] []
 |cons {f:String}{v:O.Val}{x:V}{fs:List (String×O.Val)}{ps:List (Str×V)}:RV K H v x->RFs K H fs ps->RFs K H ((f,v)::fs) ((gC f,x)::ps)
def RKs.keep(k:fo H H'):∀{kvs:List (O.Val×O.Val)}{ps:List (Key×V)},RKs K H kvs ps->RKs K H' kvs ps
 |_,_,.nil=>.nil
 |_,_,.cons a r t=>.cons a (r.keep k)<|RKs.keep k t
inductive RTs (K:Frag) (H:Hp):List (O.Val×O.Val)->List (List Key×V)->Prop
 |nil:RTs K H [] []
 |cons {i j:Int}{v:O.Val}{x:V}{kvs:List (O.Val×O.Val)}{ps:List (List Key×V)}:RV K H v x->RTs K H kvs ps->RTs K H ((.key i j,v)::kvs) (([.inl i,.inl j],x)::ps)
def RTs.keep(k:fo H H'):∀{kvs:List (O.Val×O.Val)}{ps:List (List Key×V)},RTs K H kvs ps->RTs K H' kvs ps
 |_,_,.nil=>.nil
 |_,_,.cons r t=>.cons (r.keep k)<|RTs.keep k t
def RFs.keep(k:fo H H'):∀{fs:List (String×O.Val)}{ps:List (Str×V)},RFs K H fs ps->RFs K H' fs ps
 |_,_,.nil=>.nil
 |_,_,.cons r t=>.cons (r.keep k)<|RFs.keep k t
abbrev RO(i:Inf)(H:Hp)(a:Í):O.Ob->Prop
 |.lst xs=>∃vs,H a=eL (.lst vs)/\RVs i.K H xs vs
 |.dct kvs=>∃ps,H a=eL (.dK ps)/\RKs i.K H kvs ps
 |.ins C fs=>∃c dx ps,i.ins C=eN/\i.cl C c/\H a=eL (.ins c dx ps)/\RFs i.K H fs ps
 |.exc C=>∃c,i.xc C c/\H a=eL (xcO a<|.ref c)
 |.frz kvs=>∃o ps,H a=eL (.frz o<|.dK ps)/\RKs i.K H kvs ps
 |.dtp kvs=>∃ps,H a=eL (.dT ps)/\RTs i.K H kvs ps
variable {i:Inf}
def RO.there{o:O.Ob}(r:RO i H a o):∃u,H a=eL u:=by
 cases o with
 |lst xs=>let⟨_,e,_⟩:=r;exact⟨_,e⟩
 |dct kvs=>let⟨_,e,_⟩:=r;exact⟨_,e⟩
 |ins C fs=>let⟨_,_,_,_,_,e,_⟩:=r;exact⟨_,e⟩
 |exc C=>let⟨_,_,e⟩:=r;exact⟨_,e⟩
 |frz kvs=>let⟨_,_,e,_⟩:=r;exact⟨_,e⟩
 |dtp kvs=>let⟨_,e,_⟩:=r;exact⟨_,e⟩
def RO.move{o:O.Ob}(r:RO i H a o)(k:fo H H')(e:H' a=H a):RO i H' a o:=by
 cases o with
 |lst xs=>let⟨vs,q,r⟩:=r;exact⟨vs,e.trans q,r.keep k⟩
 |dct kvs=>let⟨ps,q,r⟩:=r;exact⟨ps,e.trans q,r.keep k⟩
 |ins C fs=>let⟨c,dx,ps,h0,h,q,r⟩:=r;exact⟨c,dx,ps,h0,h,e.trans q,r.keep k⟩
 |exc C=>let⟨c,h,q⟩:=r;exact⟨c,h,e.trans q⟩
 |frz kvs=>let⟨o,ps,q,r⟩:=r;exact⟨o,ps,e.trans q,r.keep k⟩
 |dtp kvs=>let⟨ps,q,r⟩:=r;exact⟨ps,e.trans q,r.keep k⟩
abbrev RH(i:Inf)(G:O.Hs)(H:Hp):Prop:=∀a o,G a=eL o->RO i H a o
variable {G:O.Hs}
def RH.free(r:RH i G H)(e:H a=eM):G a=eM:=by
 cases q:G a with
 |none=>rfl
 |some o=>let⟨u,z⟩:=(r a o q).there;rw[e]at z;cases z
def RH.put{o:O.Ob}{u:HO}(r:RH i G H)(k:fo H<|upd H a u)(n:RO i (upd H a u) a o):RH i (O.upd G a o)<|upd H a u:=λb p e=>by
 by_cases hb:b=a
 .subst hb;rw[O.eR]at e;cases e;exact n
 .rw[O.eQ hb]at e;exact(r b p e).move k<|eQ hb
def RH.hid(r:RH i G H)(k:fo H H')(e:∀a o,G a=eL o->H' a=H a):RH i G H':=λb p q=>(r b p q).move k (e b p q)
structure REn(K:Frag)(H:Hp)(env:O.Env)(σ:St):Prop where
 len:env.length=σ.length
 get:∀(i:Nat) (v:O.Val),env[i]?=eL (eL v)->∃x,σ[i]?=eL (eL x)/\RV K H v x
variable {σ:St}
def REn.keep{env:O.Env}(r:REn K H env σ)(k:fo H H'):REn K H' env σ:=⟨r.len,λi v e=>by
  let⟨x,h1,h2⟩:=r.get i v e
  exact⟨x,h1,h2.keep k⟩⟩
def REn.set{env:O.Env}{v:O.Val}{x:V}(r:REn K H env σ)(q:RV K H v x)(j:Nat):REn K H (env.set j<|eL v)<|σ.set j<|eL x:=⟨by simp[r.len],λi u e=>by
  by_cases hij:j=i
  . subst hij
    rw[List.getElem?_set_self']at e
    cases z:env[j]? with
    |none=>rw[z]at e;cases e
    |some w =>
      rw[z]at e
      cases e
      have hj:j<σ.length:=by rw[<-r.len];exact(Î.mp z).1
      exact⟨x,Ω hj,q⟩
  . rw[ι hij]at e
    let⟨y,h1,h2⟩:=r.get i u e
    exact⟨y,by rw[ι hij];exact h1,h2⟩⟩
def REn.start{vs:List O.Val}{xs:List V}{n:Nat}(r:RVs K H vs xs):REn K H (vs.map eL++Þ n eM)<|xs.map eL++Þ n eM:=⟨by simp[r.length],λi v e=>by
  by_cases hi:i<vs.length
  . rw[ó ⇑hi,Ø]at e
    cases z:vs[i]? with
    |none=>rw[z]at e;cases e
    |some w =>
      rw[z]at e
      cases e
      let⟨x,h1,h2⟩:=r.get z
      exact⟨x,by rw[ó (by rw[Á,<-r.length];exact hi),Ø,h1];rfl,h2⟩
  . rw[ď ⇑hi,ō]at e
    split at e<;>cases e⟩
def RVs.ints{K:Frag}{H:Hp}:∀ns:List Int,RVs K H (ns.map O.Val.int) (ns.map V.int)
 |[]=>.nil
 |n::ns=>.cons (.int n)<|RVs.ints ns
def Z3{ns:List Int}(h:(∃o,H a=eL (.frz o<|.lst<|ns.map V.int))\/KL K a (ns.map V.int)):fY K H a<|ns.map V.int:=by
 rcases h with⟨o,h⟩|h
 .exact .inl<|.inr ⟨o,h⟩
 .exact .inr h
variable {i:Inf}{X:Cx}{Φ:O.Fs}
abbrev XK1(i:Inf)(H:Hp)(Em:O.XQ):XK:=λcls _ H'=>∃c G' ad,cls=.ref ad/\i.xc c ad/\fo H H'/\RH i G' H'/\Em c G'
abbrev XOk(X:Cx)(i:Inf)(H:Hp)(Em:O.XQ):Prop:=XW X<|XK1 i H Em
variable {H:Hp} {H1:Hp} {Em:O.XQ}
def XK1.go{H':Hp}{cls:Ã}{d:Option Í}(k:fo H H1)(h:XK1 i H1 Em cls d H'):XK1 i H Em cls d H':=by let⟨c,G',ad,e,q,k',r,m⟩:=h;exact⟨c,G',ad,e,q,k.trans k',r,m⟩
def XOk.go(x:XOk X i H Em)(k:fo H H1):XOk X i H1 Em:=λÂ σ H0 s H' a cls s' I f e=>x Â σ H0 s H' a cls s' I f (e.go k)
structure Pre(X:Cx)(i:Inf)(σ:St)(H:Hp)(env:O.Env)(G:O.Hs)(Em:O.XQ):Prop where
 en:REn i.K H env σ
 hp:RH i G H
 xo:XOk X i H Em
variable {σ:St} {G:O.Hs}
def Pre.go{env:O.Env}{G1:O.Hs}(p:Pre X i σ H env G Em)(k:fo H H1)(r:RH i G1 H1):Pre X i σ H1 env G1 Em:=⟨p.en.keep k,r,p.xo.go k⟩
abbrev Cn(i:Inf)(H:Hp)(Q:VK)(Qm:O.Q1):Prop:=∀v G' H' x,fo H H'->RH i G' H'->RV i.K H' v x->Qm v G'->Q x H'
variable {Q:VK} {Qm:O.Q1}
def Cn.go(c:Cn i H Q Qm)(k:fo H H1):Cn i H1 Q Qm:=λv G' H' x k'=>c v G' H' x (k.trans k')
inductive tEx (X:Cx) (i:Inf) (Φ:O.Fs) (m:O.E) (σ:St) (H:Hp) (Q:VK):Prop
 |mk (env:O.Env) (G:O.Hs) (Qm:O.Q1) (Em:O.XQ) (p:Pre X i σ H env G Em) (w:O.wE Φ m env G Qm Em) (c:Cn i H Q Qm)
abbrev tE(X:Cx)(i:Inf)(Φ:O.Fs)(m:O.E):TE:=tEx X i Φ m
inductive tArx (X:Cx) (i:Inf) (Φ:O.Fs) (ms:O.Es) (n:Nat) (σ:St) (H:Hp) (Q:List V->Hp->Prop):Prop
 |mk (env:O.Env) (G:O.Hs) (Qm:List O.Val->O.Hs->Prop) (Em:O.XQ) (p:Pre X i σ H env G Em) (w:O.wA Φ ms env G Qm Em) (c:∀vs G' H' xs,fo H H'->RH i G' H'->RVs i.K H' vs xs->xs.length=n->Qm vs G'->Q xs H')
abbrev tAr(X:Cx)(i:Inf)(Φ:O.Fs)(ms:O.Es)(n:Nat):TA:=tArx X i Φ ms n
inductive tTtx (X:Cx) (i:Inf) (Φ:O.Fs) (m:O.Tt) (σ:St) (H:Hp) (Q:Bool->Hp->Prop):Prop
 |mk (env:O.Env) (G:O.Hs) (Qm:Bool->O.Hs->Prop) (Em:O.XQ) (p:Pre X i σ H env G Em) (w:O.wT Φ m env G Qm Em) (c:∀b G' H',fo H H'->RH i G' H'->Qm b G'->Q b H')
abbrev tTt(X:Cx)(i:Inf)(Φ:O.Fs)(m:O.Tt):TT:=tTtx X i Φ m
variable {e:Expr}
def _root_.L2.PE.imp{t t':TE}(h:PE X e t)(f:∀σ H Q,t' σ H Q->t σ H Q):PE X e t':=λÂ s σ H Q I q=>h Â s σ H Q I (f σ H Q q)
variable {t':TT}
def _root_.L2.PT.imp{t:TT}(h:PT X e t)(f:∀σ H Q,t' σ H Q->t σ H Q):PT X e t':=λÂ s σ H Q I q=>h Â s σ H Q I (f σ H Q q)
def _root_.L2.PW.imp{t:TT}(h:PW X e t)(f:∀σ H Q,t' σ H Q->t σ H Q):PW X e t':=λwh Â s σ H Q I q=>h wh Â s σ H Q I (f σ H Q q)
variable {es:List Expr}
def _root_.L2.PA.imp{t t':TA}(h:PA X es t)(f:∀σ H Q,t' σ H Q->t σ H Q):PA X es t':=λë Â s σ H Q I q=>h ë Â s σ H Q I (f σ H Q q)
variable {j:Nat}
def P4{env:O.Env}{h:O.Hs}{Q:O.Q1}{E:O.XQ}:(O.wE Φ (.var j) env h Q E)=(O.go (O.getV env j) λv=>Q v h):=rfl
def eU{α:Type}{o:Option α}{k:α->Prop}(h:O.go o k):∃a,o=eL a/\k a:=by
 cases o with
 |none=>simp at h
 |some a=>exact⟨a,rfl,⇑h⟩
def KF{env:O.Env}{v:O.Val}(h:O.getV env j=eL v):env[j]?=eL (eL v):=by
 unfold O.getV at h;split at h
 .rename_i u e;cases h;exact e
 .cases h
variable {ë:Pos}
def Ro{x:Str}(hN:X.N[j]?=eL x)(hv:Vis X.env.scope x)(hd:(x==("__debug__" : Str))=eP)(bf:(x==("__classdict__" : Str))=eP):PE X (.Name x ë) (tE X i Φ<|.var j) :=
 (IY hN hv hd bf).imp λσ H Q ⟨env,G,Qm,Em,p,w,c⟩=>by rw[P4]at w;let⟨v,e,q⟩:=eU w;let⟨y,h1,h2⟩:=p.en.get j v<|KF e;exact⟨y,h1,c v G H y (fo.refl H) p.hp h2 q⟩
variable {x:V}
def WS{v:O.Val}(h:PE X e<|tC x)(r:∀H,RV i.K H v x):PE X e (tE X i Φ<|.cst v) :=
 h.imp λσ H Q ⟨env,G,Qm,Em,p,w,c⟩=>by exact c v G H x (fo.refl H) p.hp (r H) w
def Lu{y:String}{v:O.Val}(h:PE X e<|tC x)(r:∀H,RV i.K H v x):PE X e (tE X i Φ<|.glob y v) :=
 h.imp λσ H Q ⟨env,G,Qm,Em,p,w,c⟩=>by exact c v G H x (fo.refl H) p.hp (r H) w
variable {a:O.E}
def two{b:O.E}{env:O.Env}{F:O.Val->O.Val->O.Hs->Prop}{R:V->V->Hp->Prop}(p:Pre X i σ H env G Em)
  (w:O.wE Φ a env G (λv G1=>O.wE Φ b env G1 (λu G2=>F v u G2) Em) Em)
  (h:∀v u G2 H2 x y,fo H H2->Pre X i σ H2 env G2 Em->RV i.K H2 v x->RV i.K H2 u y->F v u G2->R x y H2):tE X i Φ a σ H λx H1=>tE X i Φ b σ H1 λy H2=>R x y H2 :=
 ⟨env,G,_,Em,p,w,λv G1 H1 x k1 g1 r1 w1=>⟨env,G1,_,Em,p.go k1 g1,w1,λu G2 H2 y k2 g2 r2 w2=>h v u G2 H2 x y (k1.trans k2) ((p.go k1 g1).go k2 g2) (r1.keep k2) r2 w2⟩⟩
def one{env:O.Env}{F:O.Val->O.Hs->Prop}{R:V->Hp->Prop}(p:Pre X i σ H env G Em)
  (w:O.wE Φ a env G (λv G1=>F v G1) Em) (h:∀v G1 H1 x,fo H H1->Pre X i σ H1 env G1 Em->RV i.K H1 v x->F v G1->R x H1):tE X i Φ a σ H λx H1=>R x H1 :=
 ⟨env,G,_,Em,p,w,λv G1 H1 x k1 g1 r1 w1=>h v G1 H1 x k1 (p.go k1 g1) r1 w1⟩
abbrev J6(i:Inf)(op:O.Bop)(r:R2):Prop:=∀(v u:O.Val) (G:O.Hs) (H:Hp) (x y:V) (Q:VK) (Qm:O.Q1),RH i G H->RV i.K H v x->RV i.K H u y->(O.binV G op v u).wp G Qm->Cn i H Q Qm->r x y H Q
variable {b:Expr} {ma:O.E} {mb:O.E} {r:R2}
def KK{a:Expr}{op:ϗ}{bop:O.Bop}(ho:OpR X (ŉ op) r)(hr:J6 i bop r)(ha:PE X a<|tE X i Φ ma)(hb:PE X b<|tE X i Φ mb):PE X (.BinOp a op b ë) (tE X i Φ<|.bin bop ma mb) :=
 (QM ho ha hb).imp λσ H Q ⟨env,G,Qm,Em,p,w,c⟩=>by exact two p w λv u G2 H2 x y k2 p2 rx ry q=>hr v u G2 H2 x y Q Qm p2.hp rx ry q<|c.go k2
abbrev Z1(i:Inf)(op:O.Cop)(r:R2):Prop:=∀(v u:O.Val) (G:O.Hs) (H:Hp) (x y:V) (c:Bool) (Q:VK),RH i G H->RV i.K H v x->RV i.K H u y->O.fi G op v u=eL c->Q (.bl c) H->r x y H Q
variable {op:ck} {cop:O.Cop}
def Qh{a:Expr}(ho:OpR X (î op) r)(hr:Z1 i cop r)(ha:PE X a<|tE X i Φ ma)(hb:PE X b<|tE X i Φ mb)(hm:Ľ op b=eP):PE X (.Compare a [op] [b] ë) (tE X i Φ<|.cmp cop ma mb) :=
 (UK ho ha hb hm).imp λσ H Q ⟨env,G,Qm,Em,p,w,c⟩=>by
  exact two p w λv u G2 H2 x y k2 p2 rx ry q=>by let⟨d,e,q⟩:=eU q;exact hr v u G2 H2 x y d Q p2.hp rx ry e<|c (.bl d) G2 H2 (.bl d) k2 p2.hp (.bl d) q
def LL{a:Expr}(ho:OpR X (î op) r)(hr:Z1 i cop r)(ha:PE X a<|tE X i Φ ma)(hb:PE X b<|tE X i Φ mb)(hm:Ľ op b=eP):PT X (.Compare a [op] [b] ë) (tTt X i Φ<|.val<|.cmp cop ma mb) :=
 (Uy ho ha hb hm).imp λσ H Q ⟨env,G,Qm,Em,p,w,c⟩=>by
  exact two p w λv u G2 H2 x y k2 p2 rx ry q=>by let⟨d,e,q⟩:=eU q;let⟨d',e',q⟩:=eU q;cases e';exact hr v u G2 H2 x y d _ p2.hp rx ry e ⟨d,rfl,c d G2 H2 k2 p2.hp q⟩
def Wr{v:O.Val}{b:Bool}(h:O.gh v=eL b):v=.bl b:=by cases v<;>simp_all [O.gh]
def ZB{v:O.Val}{b:Int}(h:O.gg v=eL b):v=.int b:=by cases v<;>simp_all [O.gg]
def Jq{v:O.Val}{b:O.Ad}(h:O.fB v=eL b):v=.ref b:=by cases v<;>simp_all [O.fB]
def RV.bl_inv{K:Frag}{b:Bool}(r:RV K H (.bl b) x):x=.bl b:=by cases r;rfl
def RV.int_inv{K:Frag}{b:Int}(r:RV K H (.int b) x):x=.int b:=by cases r;rfl
def RV.ref_inv{K:Frag}{b:Í}(r:RV K H (.ref b) x):x=.ref b:=by cases r;rfl
def RV.str_inv{K:Frag}{b:String}(r:RV K H (.str b) x):x=.str (gC b):=by cases r;rfl
def RV.non_inv{K:Frag}(r:RV K H .non x):x=.non:=by cases r;rfl
def Ry{a:Expr}(ha:PE X a<|tE X i Φ ma):PE X (.UnaryOp .Not a ë) (tE X i Φ<|.not ma) :=
 (L3 ha).imp λσ H Q ⟨env,G,Qm,Em,p,w,c⟩=>by
  exact one p w λv G1 H1 x k1 p1 r q=>by let⟨b,e,q2⟩:=eU q;clear q;cases Wr e;exact⟨b,r.bl_inv,c _ G1 H1 _ k1 p1.hp (.bl _) q2⟩
def QK{a:Expr}(ha:PE X a<|tE X i Φ ma):PE X (.UnaryOp .USub a ë) (tE X i Φ<|.neg ma) :=
 (QC Lq ha).imp λσ H Q ⟨env,G,Qm,Em,p,w,c⟩=>by
  exact one p w λv G1 H1 x k1 p1 r q=>by let⟨b,e,q2⟩:=eU q;clear q;cases ZB e;exact⟨b,r.int_inv,c _ G1 H1 _ k1 p1.hp (.int _) q2⟩
def RE{a:Expr}{rest:List Expr}(ha:PE X a<|tE X i Φ ma)(hb:PE X (.BoolOp .And (b::rest) ë)<|tE X i Φ mb):PE X (.BoolOp .And (a::b::rest) ë) (tE X i Φ<|.and ma mb) :=
 (L7 ha hb).imp λσ H Q ⟨env,G,Qm,Em,p,w,c⟩=>by
  exact one p w λv G1 H1 x k1 p1 r q=>by
   let⟨d,e,q2⟩:=eU q;clear q;cases Wr e;refine⟨d,r.bl_inv,?_⟩;cases d with
   |true=>exact⟨env,G1,Qm,Em,p1,⇑q2,c.go k1⟩
   |false=>simp at q2 ⊢;exact c _ G1 H1 _ k1 p1.hp (.bl _) q2
def SE{a:Expr}{rest:List Expr}(ha:PE X a<|tE X i Φ ma)(hb:PE X (.BoolOp .Or (b::rest) ë)<|tE X i Φ mb):PE X (.BoolOp .Or (a::b::rest) ë) (tE X i Φ<|.or ma mb) :=
 (Q4 ha hb).imp λσ H Q ⟨env,G,Qm,Em,p,w,c⟩=>by
  exact one p w λv G1 H1 x k1 p1 r q=>by
   let⟨d,e,q2⟩:=eU q;clear q;cases Wr e;refine⟨d,r.bl_inv,?_⟩;cases d with
   |false=>exact⟨env,G1,Qm,Em,p1,⇑q2,c.go k1⟩
   |true=>simp at q2 ⊢;exact c _ G1 H1 _ k1 p1.hp (.bl _) q2
def IJ{a:Expr}{ma:O.Tt}(ha:PT X a<|tTt X i Φ ma):PT X (.UnaryOp .Not a ë) (tTt X i Φ<|.not ma) :=
 (L8 ha).imp λσ H Q ⟨env,G,Qm,Em,p,w,c⟩=>by exact⟨env,G,_,Em,p,w,λb G1 H1 k1 g1 q=>c (!b) G1 H1 k1 g1 q⟩
def Pc{a:Expr}{rest:List Expr}{ma mb:O.Tt}(ha:PT X a<|tTt X i Φ ma)(hb:PW X (.BoolOp .And (b::rest) ë)<|tTt X i Φ mb):PW X (.BoolOp .And (a::b::rest) ë) (tTt X i Φ<|.and ma mb) :=
 (L5 ha hb).imp λσ H Q ⟨env,G,Qm,Em,p,w,c⟩=>by
  refine⟨env,G,_,Em,p,w,λd G1 H1 k1 g1 q=>?_⟩;cases d with
  |true=>exact⟨env,G1,Qm,Em,p.go k1 g1,⇑q,λb G2 H2 k2=>c b G2 H2<|k1.trans k2⟩
  |false=>simp at q ⊢;exact c eP G1 H1 k1 g1 q
def PR{a:Expr}{rest:List Expr}{ma mb:O.Tt}(ha:PT X a<|tTt X i Φ ma)(hb:PW X (.BoolOp .Or (b::rest) ë)<|tTt X i Φ mb):PW X (.BoolOp .Or (a::b::rest) ë) (tTt X i Φ<|.or ma mb) :=
 (Rh ha hb).imp λσ H Q ⟨env,G,Qm,Em,p,w,c⟩=>by
  refine⟨env,G,_,Em,p,w,λd G1 H1 k1 g1 q=>?_⟩;cases d with
  |false=>exact⟨env,G1,Qm,Em,p.go k1 g1,⇑q,λb G2 H2 k2=>c b G2 H2<|k1.trans k2⟩
  |true=>simp at q ⊢;exact c eN G1 H1 k1 g1 q
def Gq{a:Expr}{ma:O.Tt}(ha:PT X a<|tTt X i Φ ma):PW X (.BoolOp .And [a] ë)<|tTt X i Φ ma:=GC ha
def II{a:Expr}{ma:O.Tt}(ha:PT X a<|tTt X i Φ ma):PW X (.BoolOp .Or [a] ë)<|tTt X i Φ ma:=Lm ha
def Rt{c a:Expr}{mc:O.Tt}(hc:PT X c<|tTt X i Φ mc)(ha:PE X a<|tE X i Φ ma)(hb:PE X b<|tE X i Φ mb):PE X (.IfExp c a b ë) (tE X i Φ<|.ife mc ma mb) :=
 (DV hc ha hb).imp λσ H Q ⟨env,G,Qm,Em,p,w,c⟩=>by
  refine⟨env,G,_,Em,p,w,λd G1 H1 k1 g1 q=>?_⟩;cases d with
  |true=>exact⟨env,G1,Qm,Em,p.go k1 g1,⇑q,c.go k1⟩
  |false=>exact⟨env,G1,Qm,Em,p.go k1 g1,⇑q,c.go k1⟩
def H9:PA X []<|tAr X i Φ .nil 0:=fW.imp λσ H Q ⟨env,G,Qm,Em,p,w,c⟩=>by exact c [] G H [] (fo.refl H) p.hp .nil rfl w
def GT{m:O.E}{ms:O.Es}{n:Nat}(he:PE X e<|tE X i Φ m)(hes:PA X es<|tAr X i Φ ms n)(hs:Ü (e::es) X.env=(eP,eval e X.env)::Ü es X.env):PA X (e::es) (tAr X i Φ (.cons m ms)<|n+1) :=
 (ZQ he hes hs).imp λσ H Q ⟨env,G,Qm,Em,p,w,c⟩=>by exact⟨env,G,_,Em,p,w,λv G1 H1 x k1 g1 r1 w1=>⟨env,G1,_,Em,p.go k1 g1,w1,λvs G2 H2 xs k2 g2 r2 hn w2=>c (v::vs) G2 H2 (x::xs) (k1.trans k2) g2 (.cons (r1.keep k2) r2) (by rw[Ï,hn]) w2⟩⟩
def ZH:O.lim<=ß:=by decide
def Yg{o:O.Ob}{u:HO}(g:RH i G H)(w:O.new G o Qm)(c:Cn i H Q Qm)(r:∀p,H p=eM->RO i (upd H p u) p o):∀p,H p=eM->Q (.ref p) (upd H p u):=λp hp=>by unfold O.new at w;exact c (.ref p) _ _ (.ref p) (fo.new hp) (g.put (fo.new hp)<|r p hp) (.ref p) (w p<|g.free hp)
end Snd
namespace HT2
open PySem PySem.Spec PyProof.Rows L2
abbrev Ye:List Int->List Int->Bool
 |[],[]=>eP
 |[],_::_=>eP
 |_::_,[]=>eN
 |x::xs,y::ys=>if x=y then Ye xs ys else gB (x > y)
def BI(A:Ċ)(s:Å)(a:Int)(t:Tok)(c:Int)(u:Tok)(prog:ã)(w:Ā)(E:Ã->Å->Prop)(Q:Ã->Å->Prop)(h:Q (.bool<|gB (a > c)) s) :
  wpAny (à prog w) A (richCompare .Gt (.int a t)<|.int c u) Q E s :=
 (PyProof.Rows.gt_int h:wpAny (à prog w) A (î .Gt (.int a t)<|.int c u) Q E s)
section
open PySem.SeqAt
open PySem.AutoSeq1 (wpAny_loadPart')
open PySem.MeetsSeq PySem.MeetsSeq2 PySem.MeetsSeq3
def Ko(l b:Í)(items ł:Array Ã)(n n2:Nat)(dd cV:Option Í)(sl dU:Array<|Option Ã)(ns ms:List Int)(hi:ă items.toList ns)(hj:ă ł.toList ms) :
  Meets (Builtin.«tuple.__gt__» ⟨[.ref l,.ref b],[]⟩)
   (λ_ R s=>s.heap.get? l=eL { cls:=.type "tuple",dict:=dd,data:=.seq items n,slots:=sl }/\s.heap.get? b=eL { cls:=.type "tuple",dict:=cV,data:=.seq ł n2,slots:=dU }/\
     R (.ok<|.ret<|.bool<|Ye ns ms) s) :=
 .of_wp λprog w A R s h=>by
  let⟨hp,g,d,tk,os⟩:=s;let⟨hl,hb,h⟩:=h;have f2:=AutoSeq1.sub_tuple_tuple;have z1:items.size=ns.length:=by rw[<-hi.length];simp
  have z2:ł.size=ms.length:=by rw[<-hj.length];simp
  wp_walk using ě hl,ě hb,wpAny_forIn_list _ (λrest b s'=>b.1=eM/\s'=⟨hp,g,d,tk,os⟩/\∃(vs ws:List Ã) (ce du:List Int),rest=vs.zip ws/\
    ă vs ce/\ă ws du/\ce.length+ł.size=du.length+items.size/\R (.ok<|.ret<|.bool<|Ye ce du) ⟨hp,g,d,tk,os⟩) _
  case turn =>
   rintro⟨y,x⟩ rest b s' ⟨bB,rfl,vs,ws,ce,du,hz,hvi,hwi,hlen,hR⟩;cases hvi with
   |nil=>rw[Ι]at hz;cases hz
   |cons a t hvi' =>
    cases hwi with
    |nil=>rw[ρ]at hz;cases hz
    |cons c u hwi' =>
     rw[Œ]at hz;injection hz with hyx hrest;injection hyx with hy hx;subst hy hx;rw[Ye]at hR;simp only[Ï]at hlen;let⟨e,he,hiff⟩:=HT.eqAt_int A.in1 ⟨hp,g,d,tk,os⟩ a t c u;refine À<|he prog w _ _ ?_;cases e with
     |true =>
      rw[gp<|hiff.mp rfl]at hR
      wp_walk
      exact⟨rfl,rfl,_,_,_,_,hrest,hvi',hwi',by lia,hR⟩
     |false =>
      rw[gq λq=>gA (hiff.mpr q) ú]at hR;have hri:=BI A.in1 ⟨hp,g,d,tk,os⟩ a t c u prog w
      wp_walk using hri
      exact⟨_,rfl,⇑hR⟩
  case fin =>
   rintro⟨b1,b2⟩ s' ⟨bB,rfl,vs,ws,ce,du,hz,hvi,hwi,hlen,hR⟩;simp only at bB;subst bB;have hv:Ye ce du=gB (items.size > ł.size):=by
    cases hvi with
    |nil =>
     cases hwi with
     |nil =>simp only[Ĳ]at hlen;rw[Ye];exact(gu<|by lia).symm
     |cons c u hw =>simp only[Ĳ,Ï]at hlen;rw[Ye];exact(gu<|by lia).symm
    |cons a t hv =>
     cases hwi with
     |nil =>simp only[Ĳ,Ï]at hlen;rw[Ye];exact(gx<|by lia).symm
     |cons c u hw =>rw[Œ]at hz;cases hz
   rw[hv]at hR
   wp_walk
   exact⟨_,rfl,by simpa[Builtin.Tuple.tupleCompareSizes]using hR⟩
  case h =>exact⟨rfl,rfl,items.toList,ł.toList,ns,ms,rfl,hi,hj,by lia,h⟩
end
def OU{prog:ã}{w:Ā}{A:Ċ}{E:Ã->Å->Prop}{s:Å}{l b:Í}{items ł:Array Ã}{ns ms:List Int}{Q:Ã->Å->Prop}(hl:aN s.heap l items)(hb:aN s.heap b ł)(hi:ă items.toList ns)(hj:ă ł.toList ms)
  (hu:A.units<Ī) (h:Q (.bool<|Ye ns ms) s):wpAny (à prog w) A (î .Gt (.ref l)<|.ref b) Q E s:=by
 let⟨⟨cls,dd,data,sl⟩,ho,hc,n,hd⟩:=id hl;let⟨⟨cls2,cV,data2,dU⟩,ho2,hc2,n2,bM⟩:=id hb;simp only at hc hd hc2 bM;subst hc hd hc2 bM;exact d6 (op:=.Gt) ⟨_,ho,rfl⟩ ⟨_,ho2,rfl⟩ PySem.F.slot_tuple_gt PySem.F.entry_tuple_gt (PySem.F.args_tuple_gt_2 _ _) (Ko l b items ł n n2 dd cV sl dU ns ms hi hj)
  ⟨ho,ho2,show Value.bool (Ye ns ms)≠cq/\Q (.bool<|Ye ns ms) s from ⟨(λx=>nomatch x),h⟩⟩ hu
abbrev rGtT(K:Frag):R2:=λx y H Q=>∃a b ns ms,x=.ref a/\y=.ref b/\fZ K H a (ns.map V.int)/\fZ K H b (ms.map V.int)/\Q (.bl<|Ye ns ms) H
def op_gtT{X:Cx}(hu:X.A.units<Ī):OpR X (î .Gt)<|rGtT X.K:=by intro Â s σ H x y v u Q I rx ry h;let⟨a,b,ns,ms,rfl,rfl,ha,hb,q⟩:=h;cases rx;cases ry;let⟨ø,r1,p1,_⟩:=I.tuple ha;let⟨ϛ,r2,p2,_⟩:=I.tuple hb;have i1:ă ø.toArray.toList ns:=ZD r1;have i2:ă ϛ.toArray.toList ms:=ZD r2;exact OU p1 p2 i1 i2 hu ⟨.bl<|Ye ns ms,H,I,rfl,q⟩
def lexGt_lt:∀(ns ms:List Int),Ye ns ms=HT.lexLt ms ns
 |[],[]=>rfl
 |[],_::_=>rfl
 |_::_,[]=>rfl
 |x::xs,y::ys=>by
  rw[Ye,HT.lexLt_cons,lexGt_lt xs ys];by_cases e:x=y
  .rw[gp e,gp e.symm]
  .rw[gq e,gq λz=>e z.symm]
end HT2
namespace Snd
open PySem L2
mutual
noncomputable def toD:O.D->Ϸ
 |.non=>.none
 |.bl b=>.bool b
 |.int i=>.int i
 |.str s=>.str<|gC s
 |.tup ds=>.tuple<|toDs ds
 |.lst ds=>.list<|toDs ds
noncomputable def toDs:List O.D->List Ϸ
 |[]=>[]
 |d::ds=>toD d::toDs ds
end
def ofS_inj{s t:String}:gC s=gC t↔s=t:=by
 constructor
 .intro h;rw[Str.ofString_eq_toList,Str.ofString_eq_toList]at h;injection h with h;have h2:s.toList.map Ş=t.toList.map Ş:=by simpa using congrArg bQ h
  have inj:∀{a b:Char},a.toNat=b.toNat->a=b:=λ{a b} e=>Char.ext<|bG e;have:s.toList=t.toList:=by
   revert h2;generalize s.toList=a;generalize t.toList=b;intro h2;induction a generalizing b with
   |nil=>cases b with
    |nil=>rfl
    |cons _ _=>cases h2
   |cons x xs ih=>cases b with
    |nil=>cases h2
    |cons y ys =>simp only[Ñ,List.cons.injEq]at h2;rw[inj h2.1,ih _ h2.2]
  exact String.toList_inj.mp this
 .rintro rfl;rfl
def Gg(s t:String):(gC s==gC t)=(s==t):=by
 by_cases e:s=t
 .subst e;simp
 .have:gC s≠gC t:=λz=>e<|ofS_inj.mp z;rw[beq_eq_false_iff_ne.mpr this,beq_eq_false_iff_ne.mpr e]
def Bv(s:String):PyData.strOk (gC s)=eN:=by
 rw[Str.ofString_eq_toList];unfold PyData.strOk;rw[Array.all_eq_true'];intro n hn;have:n∈s.toList.map Ş:=⇑hn
 let⟨c,_,rfl⟩:=Ò.mp this;have:=c.valid;have h2:c.toNat=c.val.toNat:=rfl;simp only[UInt32.isValidChar,Nat.isValidChar]at this;simp only[gy];lia
mutual
theorem M5:∀d e:O.D,ĩ (toD d) (toD e)=O.D.eqv d e
 |.non,e=>by cases e<;>simp[toD,ĩ,O.D.eqv]
 |.bl _,e=>by cases e<;>simp[toD,ĩ,O.D.eqv]
 |.int _,e=>by cases e<;>simp[toD,ĩ,O.D.eqv]
 |.str s,e=>by cases e<;>simp only[toD,ĩ,O.D.eqv];exact Gg _ _
 |.tup ds,e=>by cases e<;>simp only[toD,ĩ,O.D.eqv];exact toDs_eqv _ _
 |.lst ds,e=>by cases e<;>simp only[toD,ĩ,O.D.eqv];exact toDs_eqv _ _
theorem toDs_eqv:∀ds es:List O.D,Η (toDs ds) (toDs es)=O.D.eqvs ds es
 |[],[]=>by simp[toDs,Η,O.D.eqvs]
 |[],_::_=>by simp[toDs,Η,O.D.eqvs]
 |_::_,[]=>by simp[toDs,Η,O.D.eqvs]
 |d::ds,e::es=>by simp only[toDs,Η,O.D.eqvs,M5 d e,toDs_eqv ds es]
end
mutual
theorem M6:∀d:O.D,(toD d).canLay0=eN
 |.non=>by simp[toD,Ű]
 |.bl _=>by simp[toD,Ű]
 |.int _=>by simp[toD,Ű]
 |.str s=>by simp only[toD,Ű];exact Bv s
 |.tup ds=>by simp only[toD,Ű];exact toDs_lay ds
 |.lst ds=>by simp only[toD,Ű];exact toDs_lay ds
theorem toDs_lay:∀ds:List O.D,Ŗ (toDs ds)=eN
 |[]=>by simp[toDs,Ŗ]
 |d::ds=>by simp only[toDs,Ŗ,M6 d,toDs_lay ds,Bool.and_self]
end
section
variable {i:Inf}{G:O.Hs}{H:Hp}
def AZ{α β:Type}{f:α->Option β}:∀{xs:List α}{ys:List β},xs.mapM f=eL ys->List.length xs=ys.length/\∀(n:Nat) (x:α),xs[n]?=eL x->∃y,ys[n]?=eL y/\f x=eL y:=by
 intro xs;induction xs with
 |nil=>intro ys h;simp at h;subst h;exact⟨rfl,λn x e=>by simp at e⟩
 |cons a as ih =>
  intro ys h;rw[ş]at h;cases e:f a with
  |none=>rw[e]at h;simp at h
  |some b =>
   rw[e]at h;cases e2:as.mapM f with
   |none=>rw[e2]at h;simp at h
   |some bs =>
    rw[e2]at h;simp at h;subst h;let⟨h1,h2⟩:=ih e2;refine⟨by simp[h1],λn x hn=>?_⟩;cases n with
    |zero=>simp at hn;subst hn;exact⟨b,rfl,e⟩
    |succ n=>simp at hn ⊢;exact h2 n x hn
def UT{K:Frag}{f:O.Val->Option O.D}(hf:∀v d x,f v=eL d->RV K H v x->IsD K H x (toD d)):∀{vs:List O.Val}{xs:List V}{ds:List O.D},vs.mapM f=eL ds->RVs K H vs xs->IsDs K H xs (toDs ds):=by
 intro vs;induction vs with
 |nil=>intro xs ds h r;simp at h;subst h;cases r;exact .nil
 |cons a as ih =>
  intro xs ds h r;rw[ş]at h;cases e:f a with
  |none=>rw[e]at h;simp at h
  |some b =>
   rw[e]at h;cases e2:as.mapM f with
   |none=>rw[e2]at h;simp at h
   |some bs =>
    rw[e2]at h;simp at h;subst h;cases r with
    |cons r1 r2=>exact .cons (hf a b _ e r1)<|ih e2 r2
def ZG(g:RH i G H){a:Í}{xs:List O.Val}(e:O.fe (G a)=eL xs):∃vs,fY i.K H a vs/\RVs i.K H xs vs:=by
 cases q:G a with
 |none=>rw[q]at e;cases e
 |some o =>
  rw[q]at e;cases o with
  |lst ys=>cases e;let⟨vs,h,r⟩:=g a _ q;exact⟨vs,fY.of h,r⟩
  |dct _=>cases e
  |ins _ _=>cases e
  |exc _=>cases e
  |frz _=>cases e
  |dtp _=>cases e
def Ma:∀ns:List Int,toDs (ns.map O.D.int)=ns.map PyData.int
 |[]=>by simp[toDs]
 |n::ns=>by simp only[Ñ,toDs,toD,Ma ns]
def Wg(g:RH i G H):∀(n:Nat) (v:O.Val) (d:O.D) (x:V),O.dat G n v=eL d->RV i.K H v x->IsD i.K H x (toD d):=by
 intro n;induction n with
 |zero =>
  intro v d x e r;cases v with
  |non=>cases r;simp[O.dat]at e;subst e;rw[toD];exact .non
  |bl b=>cases r;simp[O.dat]at e;subst e;rw[toD];exact .bl b
  |int b=>cases r;simp[O.dat]at e;subst e;rw[toD];exact .int b
  |str s=>cases r;simp[O.dat]at e;subst e;rw[toD];exact .str _
  |tup xs=>simp[O.dat]at e
  |ref a=>simp[O.dat]at e
  |scr ns=>simp[O.dat]at e
  |key _ _=>simp[O.dat]at e
 |succ n ih =>
  intro v d x e r;cases v with
  |non=>cases r;simp[O.dat]at e;subst e;rw[toD];exact .non
  |bl b=>cases r;simp[O.dat]at e;subst e;rw[toD];exact .bl b
  |int b=>cases r;simp[O.dat]at e;subst e;rw[toD];exact .int b
  |str s=>cases r;simp[O.dat]at e;subst e;rw[toD];exact .str _
  |tup xs =>
   rw[O.dat]at e;cases z:xs.mapM (O.dat G n)with
   |none=>rw[z]at e;cases e
   |some ds =>
    rw[z]at e;cases e;cases r with
    |tup hp hr=>rw[toD];exact .tup (Zl hp)<|UT ih z hr
  |ref a =>
   rw[O.dat]at e;cases q:O.fe (G a)with
   |none=>rw[q]at e;cases e
   |some xs =>
    rw[q]at e;simp only[ý]at e;cases z:xs.mapM (O.dat G n)with
    |none=>rw[z]at e;cases e
    |some ds =>rw[z]at e;cases e;cases r.ref_inv;let⟨vs,h1,h2⟩:=ZG g q;rw[toD];exact .lst h1<|UT ih z h2
  |scr ns =>
   simp[O.dat]at e;subst e;cases r with
   |scr h =>rw[toD,Ma];exact .lst (Z3 h)<|IsDs.ints ns
  |key _ _=>simp[O.dat]at e
def XE{n:Nat}:∀{ds:List O.D},(∀d∈ds,(toD d).depth<=n)->Ŀ (toDs ds)<=n
 |[],_=>by rw[toDs];simp[Ŀ]
 |d::ds,h=>by rw[toDs];simp only[Ŀ];exact Nat.max_le.mpr ⟨h d (by simp),XE λe he=>h e<|by simp[he]⟩
def Kv:∀(n:Nat) (v:O.Val) (d:O.D),O.dat G n v=eL d->(toD d).depth<=n:=by
 have sc:∀(n:Nat) (v:O.Val) (d:O.D),(∀xs,v≠.tup xs)->(∀a,v≠.ref a)->(∀ns,v≠.scr ns)->O.dat G n v=eL d->(toD d).depth<=n:=by
  intro n v d h1 h2 h3 e;cases v with
  |tup xs=>exact gA rfl<|h1 xs
  |ref a=>exact gA rfl<|h2 a
  |scr ns=>exact gA rfl<|h3 ns
  |key _ _=>cases n<;>simp[O.dat]at e
  |_=>simp[O.dat]at e;subst e;simp[toD,PyData.depth]
 have ms:∀(n:Nat),(∀v d,O.dat G n v=eL d->(toD d).depth<=n)->∀(xs:List O.Val) (ds:List O.D),xs.mapM (O.dat G n)=eL ds->Ŀ (toDs ds)<=n:=by
  intro n ih xs ds z;refine XE λd hd=>?_;let⟨k,hk⟩:=cA.mp hd;let⟨h1,h2⟩:=AZ z;have ϴ:k<xs.length:=by rw[h1];exact(Î.mp hk).1
  let⟨y,hy,hf⟩:=h2 k xs[k]<|É ϴ;rw[hk]at hy;cases hy;exact ih _ _ hf
 intro n;induction n with
 |zero =>
  intro v d e;cases v with
  |tup xs=>simp[O.dat]at e
  |ref a=>simp[O.dat]at e
  |scr ns=>simp[O.dat]at e
  |_=>exact sc 0 _ d (by simp) (by simp) (by simp) e
 |succ n ih =>
  intro v d e;cases v with
  |tup xs =>
   rw[O.dat]at e;cases z:xs.mapM (O.dat G n)with
   |none=>rw[z]at e;cases e
   |some ds =>rw[z]at e;cases e;rw[toD];exact Υ<|ms n ih xs ds z
  |ref a =>
   rw[O.dat]at e;cases q:O.fe (G a)with
   |none=>rw[q]at e;cases e
   |some xs =>
    rw[q]at e;simp only[ý]at e;cases z:xs.mapM (O.dat G n)with
    |none=>rw[z]at e;cases e
    |some ds =>rw[z]at e;cases e;rw[toD];exact Υ<|ms n ih xs ds z
  |scr ns =>simp[O.dat]at e;subst e;rw[toD];refine Υ<|Ý ?_<|ĕ n;refine XE λd hd=>?_;let⟨m,_,rfl⟩:=Ò.mp hd;simp[toD,PyData.depth]
  |_=>exact sc (n+1) _ d (by simp) (by simp) (by simp) e
def Jt{v:O.Val}{d:O.D}(e:O.dat G O.deep v=eL d):SeqAt.shaped (toD d)=eN:=by show((toD d).canLay0&&gB ((toD d).depth<=64))=eN;rw[M6,gx<|Ý (Kv _ _ _ e)<|by decide];rfl
def UG(g:RH i G H){v u:O.Val}{x y:V}{c:Bool}(rx:RV i.K H v x)(ry:RV i.K H u y)(e:O.eqV G v u=eL c):∃d d',IsD i.K H x d/\IsD i.K H y d'/\SeqAt.shaped d=eN/\SeqAt.shaped d'=eN/\ĩ d d'=c:=by
 unfold O.eqV at e;cases z:O.dat G O.deep v with
 |none=>rw[z]at e;cases e
 |some d =>
  cases z2:O.dat G O.deep u with
  |none=>rw[z,z2]at e;cases e
  |some d' =>rw[z,z2]at e;cases e;exact⟨_,_,Wg g _ _ _ _ z rx,Wg g _ _ _ _ z2 ry,Jt z,Jt z2,M5 d d'⟩
def SL:Z1 i .eq<|Q5 i.K:=by intro v u G H x y c Q g rx ry e q;let⟨d,d',h1,h2,h3,h4,h5⟩:=UG g rx ry e;exact⟨d,d',h1,h2,h3,h4,by rw[h5];exact q⟩
def Sv:Z1 i .ne<|Rk i.K:=by
 intro v u G H x y c Q g rx ry e q;have e:(O.eqV G v u).map (!·)=eL c:=e;cases z:O.eqV G v u with
 |none=>rw[z]at e;cases e
 |some b =>rw[z]at e;cases e;let⟨d,d',h1,h2,h3,h4,h5⟩:=UG g rx ry z;exact⟨d,d',h1,h2,h3,h4,by rw[h5];exact q⟩
end
variable {i:Inf}{X:Cx}{Φ:O.Fs}
def Zx(s:String):(gC s).length=s.length:=by rw[Str.ofString_eq_toList];show(List.map Ş s.toList).toArray.size=_;rw[Ê,Á];first|rfl|exact bY
def M4(s t:String):gC (s++t)=gC s++gC t:=by rw[Str.ofString_eq_toList,Str.ofString_eq_toList,Str.ofString_eq_toList];show _=Str.append _ _;unfold Str.append;simp
variable {xs:List O.Val}
def KQ{o:Option O.Ob}(h:O.fe o=eL xs):o=eL (.lst xs):=by
 cases o with
 |none=>cases h
 |some o=>cases o with
  |lst ys=>cases h;rfl
  |_=>cases h
variable {p:Prop}
def Zn{α:Type}[Decidable p]{o:Option α}{a:α}(e:(if p then o else eM)=eL a):p/\o=eL a:=by
 by_cases q:p
 .rw[gp q]at e;exact⟨q,e⟩
 .rw[gq q]at e;cases e
variable {h:O.Hs} {Q:O.Q1}
def Zi(w:O.Rs.no.wp h Q):False:=by rw[O.Rs.wp_no]at w;exact w
def Zm{v:O.Val}(w:(O.Rs.val v).wp h Q):Q v h:=by rw[O.Rs.wp_val]at w;exact w
def Ng{o:O.Ob}(w:(O.Rs.new o).wp h Q):O.new h o Q:=by rw[O.Rs.wp_new]at w;exact w
def X1[Decidable p]{r:O.Rs}(w:(if p then r else .no).wp h Q):p/\r.wp h Q:=by
 by_cases e:p
 .rw[gp e]at w;exact⟨e,w⟩
 .rw[gq e]at w;exact(Zi w).elim
variable {u:O.Val}
def Xp{f:Int->Int->O.Rs}{v:O.Val}(w:(O.intV f v u).wp h Q):∃i j,v=.int i/\u=.int j/\(f i j).wp h Q:=by
 cases v with
 |int i=>cases u with
  |int j=>exact⟨i,j,rfl,rfl,w⟩
  |_=>exact(Zi w).elim
 |_=>exact(Zi w).elim
abbrev Hb(K:Frag):R2:=λx y H Q=>(rI0 λi j=>.int<|i+j) x y H Q\/(((HK K x y H Q\/HP K x y H Q)\/Qa x y H Q)\/∃i j,x=.str i/\y=.str j/\i.length+j.length<=ß/\Q (.str<|i++j) H)
def Q3:OpR X (ŉ .Add)<|Hb X.K:=op_add.or (((op_cat0.or GY).or Lz).or OR)
def b_add:J6 i .add<|Hb i.K:=by
 intro v u G H x y Q Qm g rx ry w c;cases v<;>cases u<;>first|exact(Zi w).elim|skip
 case int.int a b =>
  replace w:=Zm w
  exact .inl ⟨a,b,rx.int_inv,ry.int_inv,c _ G H _ (fo.refl H) g (.int _) w⟩
 case str.str a b =>
  let⟨h,w⟩:=X1 w
  replace w:=Zm w
  refine .inr<|.inr ⟨_,_,rx.str_inv,ry.str_inv,?_,?_⟩
  .rw[Zx,Zx];exact Ý h ZH
  .rw[<-M4];exact c _ G H _ (fo.refl H) g (.str _) w
 case tup.tup xs ys =>
  let⟨h,w⟩:=X1 w
  replace w:=Zm w
  .skip
   cases rx with
   |@tup _ p vs hp hr =>
   cases ry with
   |@tup _ q us hq hs =>
   by_cases h0:vs=[]
   .subst h0;have:xs=[]:=aC hr.length;subst this;exact .inr<|.inl<|.inl<|.inl ⟨p,q,us,rfl,rfl,Zl hp,Zl hq,c _ G H _ (fo.refl H) g (.tup hq hs) w⟩
   refine .inr<|.inl<|.inl<|.inr ⟨p,q,vs,us,rfl,rfl,Zl hp,Zl hq,h0,?_,λz=>?_,λz a ha=>?_⟩
   .rw[<-hr.length,<-hs.length];exact Ý h ZH
   .have:ys=[]:=aC (by rw[hs.length,z];rfl);subst this;rw[ö]at w;exact c _ G H _ (fo.refl H) g (.tup hp hr) w
   .have k:=fo.new (o:=.tup<|vs++us) ha;refine c _ G _ _ k (g.hid k λb o e=>eQ ?_) (.tup (.inl eR)<|(hr.keep k).append<|hs.keep k) w;rintro rfl;rw[g.free ha]at e;cases e
 case ref.ref a b =>
  dsimp only[O.binV,O.addV]at w;split at w
  .rename_i xs ys e1 e2;unfold O.Rs.lst at w;split at w
   .rename_i hl;rw[O.Rs.wp_new]at w;cases rx.ref_inv;cases ry.ref_inv;let⟨vs,h1,r1⟩:=g a _ e1;let⟨us,h2,r2⟩:=g b _ e2;refine .inr (.inl<|.inr ⟨a,b,vs,us,rfl,rfl,h1,h2,?_,Yg g w c λp hp=>?_⟩)
    .rw[<-r1.length,<-r2.length,<-í];exact Ý hl ZH
    .have k:=fo.new (o:=.lst<|vs++us) hp;exact⟨_,eR,(r1.keep k).append<|r2.keep k⟩
   .exact(Zi w).elim
  .exact(Zi w).elim
def b_sub:J6 i .sub<|rI0 λi j=>.int<|i - j:=by intro v u G H x y Q Qm g rx ry w c;let⟨a,b,rfl,rfl,w⟩:=Xp w;exact⟨a,b,rx.int_inv,ry.int_inv,c _ G H _ (fo.refl H) g (.int _)<|Zm w⟩
def RVs.rep{K:Frag}{H:Hp}{vs:List O.Val}{xs:List V}(r:RVs K H vs xs):∀n,RVs K H (Þ n vs).flatten (Þ n xs).flatten
 |0=>.nil
 |n+1=>by rw[ċ,ċ,ń,ń];exact r.append<|RVs.rep r n
set_option exponentiation.threshold 2000 in
def LC{i j:Int}(h:O.mulOk i j):IntMulOk i j:=by
 rcases h with(h|h)|⟨h1,h2⟩
 .exact .of_left (intBits_le_64 (by lia)<|by lia)
 .exact .of_right (intBits_le_64 (by lia)<|by lia)
 .have e:(10:Nat) ^ 200<2 ^ 1000:=by decide
  exact .of_bits (Ý (PyProof.Rows.intBits_le<|Ö h1 e)<|by decide) (Ý (PyProof.Rows.intBits_le<|Ö h2 e)<|by decide)
def FP(s:String)(n:Nat):Iv (gC s) n=gC (O.repT s n):=by unfold Iv O.repT;rw[Str.ofString_eq_toList,Str.ofString_eq_toList,bZ];congr 1;apply eh.mp;rw[KN];simp[List.map_flatten,List.map_replicate]
abbrev Hm:R2:=λx y H Q=>rI O.mulOk (λi j=>.int<|i*j) x y H Q\/(QD x y H Q\/HD x y H Q)
def QF:OpR X (ŉ .Mult) Hm:=OpR.or (opI λ_ _ _ _ _ _ _ hc q=>PyProof.Rows.mul_int q<|LC hc) (op_rep.or EM)
def b_mul:J6 i .mul Hm:=by
 intro v u G H x y Q Qm g rx ry w c;cases v<;>cases u<;>first|exact(Zi w).elim|skip
 case int.int a b =>let⟨h,w⟩:=X1 w;exact .inl ⟨a,b,rx.int_inv,ry.int_inv,h,c _ G H _ (fo.refl H) g (.int _)<|Zm w⟩
 case ref.int a k =>
  dsimp only[O.binV,O.mulV]at w;split at w
  .rename_i xs e1;split at w
   .rename_i hk;unfold O.Rs.lst at w;split at w
    .rw[O.Rs.wp_new]at w;cases rx.ref_inv;cases ry.int_inv;let⟨vs,h1,r1⟩:=g a _ e1;refine .inr (.inl ⟨a,k,vs,rfl,rfl,h1,by lia,by lia,?_,Yg g w c λp hp=>?_⟩)
     .rw[<-r1.length];exact Ý hk.2.2 ZH
     .have kk:=fo.new (o:=.lst (Þ k.toNat vs).flatten) hp;exact⟨_,eR,(r1.keep kk).rep _⟩
    .exact(Zi w).elim
   .exact(Zi w).elim
  .exact(Zi w).elim
 case str.int a k =>
  let⟨hk,w⟩:=X1 w
  replace w:=Zm w
  refine .inr (.inr ⟨_,k,rx.str_inv,ry.int_inv,hk.1,hk.2.1,by rw[Zx];exact hk.2.2.1,by rw[Zx];exact hk.2.2.2,?_⟩);rw[FP];exact c _ G H _ (fo.refl H) g (.str _) w
def b_fdiv:J6 i .fdiv<|rI QY λi j=>.int<|i / j:=by intro v u G H x y Q Qm g rx ry w c;let⟨a,b,rfl,rfl,w⟩:=Xp w;let⟨h,w⟩:=X1 w;exact⟨a,b,rx.int_inv,ry.int_inv,h,c _ G H _ (fo.refl H) g (.int _)<|Zm w⟩
def b_mod:J6 i .mod<|rI (λ_ j=>0<j) λi j=>.int<|i % j:=by intro v u G H x y Q Qm g rx ry w c;let⟨a,b,rfl,rfl,w⟩:=Xp w;let⟨h,w⟩:=X1 w;exact⟨a,b,rx.int_inv,ry.int_inv,h,c _ G H _ (fo.refl H) g (.int _)<|Zm w⟩
def b_pow:J6 i .pow<|rI PU λi j=>.int<|i ^ j.toNat:=by intro v u G H x y Q Qm g rx ry w c;let⟨a,b,rfl,rfl,w⟩:=Xp w;let⟨h,w⟩:=X1 w;exact⟨a,b,rx.int_inv,ry.int_inv,h,c _ G H _ (fo.refl H) g (.int _)<|Zm w⟩
def ZU{K:Frag}{H:Hp}:∀{xs:List O.Val}{ns:List Int}{vs:List V},O.eX xs=eL ns->RVs K H xs vs->vs=ns.map V.int
 |[],_,_,e,r=>by cases r;cases e;rfl
 |v::xs,_,_,e,r=>by
  cases r with
  |cons r t=>cases v with
   |int k =>
    have e:(O.eX xs).map (k :: ·)=eL _:=e;cases z:O.eX xs with
    |none=>rw[z]at e;cases e
    |some ns=>rw[z]at e;cases e;cases r;rw[ZU z t];rfl
   |_=>cases e
def ML:∀(ns ms:List Int),O.fG ns ms=HT.lexLt ns ms
 |[],[]=>rfl
 |[],_::_=>rfl
 |_::_,[]=>rfl
 |x::xs,y::ys=>by rw[O.fG,HT.lexLt_cons,ML xs ys]
abbrev RL(K:Frag):R2:=λx y H Q=>rI0 (λi j=>.bl<|gB (i<j)) x y H Q\/Q8 K x y H Q
def SG(hu:X.A.units<Ī):OpR X (î .Lt)<|RL X.K:=op_lt.or (Ie hu)
abbrev RI(K:Frag):R2:=λx y H Q=>rI0 (λi j=>.bl<|gB (j<i)) x y H Q\/HT2.rGtT K x y H Q
def RT(hu:X.A.units<Ī):OpR X (î .Gt)<|RI X.K:=op_gt.or (HT2.op_gtT hu)
variable {H:Hp} {x:V} {c:Bool}
def HN{K:Frag}{ys:List O.Val}{y:V}(rx:RV K H (.tup xs) x)(ry:RV K H (.tup ys) y)(e:O.fH (.tup xs) (.tup ys)=eL c):∃a b ns ms,x=.ref a/\y=.ref b/\fZ K H a (ns.map V.int)/\fZ K H b (ms.map V.int)/\HT.lexLt ns ms=c:=by
 simp only[O.fH]at e;cases z1:O.eX xs with
 |none=>rw[z1]at e;cases e
 |some ns =>
  cases z2:O.eX ys with
  |none=>rw[z1,z2]at e;cases e
  |some ms =>
   rw[z1,z2]at e;cases e;cases rx with
   |@tup _ p vs hp hr =>
   cases ry with
   |@tup _ q us hq hs =>
   have h1:=ZU z1 hr;have h2:=ZU z2 hs;subst h1 h2;exact⟨p,q,ns,ms,rfl,rfl,Zl hp,Zl hq,(ML _ _).symm⟩
def c_lt:Z1 i .lt<|RL i.K:=by
 intro v u G H x y c Q g rx ry e q
 replace e:O.fH v u=eL c:=e
 cases v<;>cases u<;>first|(cases e;done)|skip
 case int.int a b=>cases e;exact .inl ⟨a,b,rx.int_inv,ry.int_inv,q⟩
 case tup.tup xs ys =>let⟨a,b,ns,ms,h1,h2,h3,h4,h5⟩:=HN rx ry e;exact .inr ⟨a,b,ns,ms,h1,h2,h3,h4,by rw[h5];exact q⟩
def c_gt:Z1 i .gt<|RI i.K:=by
 intro v u G H x y c Q g rx ry e q
 replace e:O.fH u v=eL c:=e
 cases v<;>cases u<;>first|(cases e;done)|skip
 case int.int a b=>cases e;exact .inl ⟨a,b,rx.int_inv,ry.int_inv,q⟩
 case tup.tup xs ys =>let⟨a,b,ns,ms,h1,h2,h3,h4,h5⟩:=HN ry rx e;exact .inr ⟨b,a,ms,ns,h2,h1,h4,h3,by rw[HT2.lexGt_lt,h5];exact q⟩
def HE{v:O.Val}(e:O.leV v u=eL c):∃i j,v=.int i/\u=.int j/\gB (i<=j)=c:=by
 cases v with
 |int i=>cases u with
  |int j=>cases e;exact⟨i,j,rfl,rfl,rfl⟩
  |_=>cases e
 |_=>cases e
def c_le:Z1 i .le<|rI0 λi j=>.bl<|gB (i<=j):=by intro v u G H x y c Q g rx ry e q;let⟨a,b,rfl,rfl,rfl⟩:=HE e;exact⟨a,b,rx.int_inv,ry.int_inv,q⟩
def c_ge:Z1 i .ge<|rI0 λi j=>.bl<|gB (j<=i):=by intro v u G H x y c Q g rx ry e q;let⟨a,b,rfl,rfl,rfl⟩:=HE e;exact⟨b,a,rx.int_inv,ry.int_inv,q⟩
def RV.isN{K:Frag}{v:O.Val}(r:RV K H v x):gB (x=.non)=gB (v=.non):=by cases r<;>simp
variable {a:Expr} {ma:O.E} {ë:Pos} {p2:Pos} {j:Nat}
def Qg(ha:PE X a<|tE X i Φ ma):PE X (.Compare a [.Is] [.Constant .none j p2] ë) (tE X i Φ<|.cmp .is ma<|.cst .non) :=
 (Dl (Dg ha) rfl).imp λσ H Q ⟨env,G,Qm,Em,p,w,c⟩=>by refine one p w λv G1 H1 x k1 p1 r q=>?_;let⟨d,e,q2⟩:=eU q;have e:eL (gB (v=.non))=eL d:=e;cases e;rw[r.isN];exact c _ G1 H1 _ k1 p1.hp (.bl _) q2
def IV(ha:PE X a<|tE X i Φ ma):PE X (.Compare a [.IsNot] [.Constant .none j p2] ë) (tE X i Φ<|.cmp .isnot ma<|.cst .non) :=
 (Dl (U9 ha) rfl).imp λσ H Q ⟨env,G,Qm,Em,p,w,c⟩=>by refine one p w λv G1 H1 x k1 p1 r q=>?_;let⟨d,e,q2⟩:=eU q;have e:eL (!gB (v=.non))=eL d:=e;cases e;rw[r.isN];exact c _ G1 H1 _ k1 p1.hp (.bl _) q2
def Ig(ha:PE X a<|tE X i Φ ma):PT X (.Compare a [.Is] [.Constant .none j p2] ë) (tTt X i Φ<|.val<|.cmp .is ma<|.cst .non) :=
 (D6 (Dg ha) rfl).imp λσ H Q ⟨env,G,Qm,Em,p,w,c⟩=>by refine one p w λv G1 H1 x k1 p1 r q=>?_;let⟨d,e,q2⟩:=eU q;let⟨d',e',q3⟩:=eU q2;cases e';have e:eL (gB (v=.non))=eL d:=e;cases e;rw[r.isN];exact⟨_,rfl,c _ G1 H1 k1 p1.hp q3⟩
def GQ(ha:PE X a<|tE X i Φ ma):PT X (.Compare a [.IsNot] [.Constant .none j p2] ë) (tTt X i Φ<|.val<|.cmp .isnot ma<|.cst .non) :=
 (D6 (U9 ha) rfl).imp λσ H Q ⟨env,G,Qm,Em,p,w,c⟩=>by refine one p w λv G1 H1 x k1 p1 r q=>?_;let⟨d,e,q2⟩:=eU q;let⟨d',e',q3⟩:=eU q2;cases e';have e:eL (!gB (v=.non))=eL d:=e;cases e;rw[r.isN];exact⟨_,rfl,c _ G1 H1 k1 p1.hp q3⟩
end Snd
namespace Snd
open PySem L2 PySem.Spec PyProof.Rows
variable {i:Inf}{X:Cx}{Φ:O.Fs}
def RKs.length{K:Frag}{H:Hp}:∀{kvs:List (O.Val×O.Val)}{ps:List (Key×V)},RKs K H kvs ps->kvs.length=ps.length
 |_,_,.nil=>rfl
 |_,_,.cons _ _ t=>by rw[Ï,Ï,RKs.length t]
def W5{k j:O.Val}{c d:Key}(a:WF k c)(b:WF j d):(k==j)=gB (c=d):=by
 have key:k=j↔c=d:=by
  cases k<;>cases c<;>first|(cases a;done)|skip
  .cases j<;>cases d<;>first|(cases b;done)|skip
   .cases a;cases b;simp
   .cases a;cases b;simp
  .cases j<;>cases d<;>first|(cases b;done)|skip
   .cases a;cases b;simp
   .cases a;cases b;simp[ofS_inj]
 by_cases e:k=j
 .rw[gx<|key.mp e,e];simp
 .rw[gu λz=>e<|key.mpr z];simpa using e
def fg{k:O.Val}{x:V}{K:Frag}{H:Hp}(h:O.fj k=eN)(r:RV K H k x):∃c,WF k c/\x=kV c:=by
 cases k with
 |int n=>cases r.int_inv;exact⟨.inl n,rfl,rfl⟩
 |str s=>cases r.str_inv;exact⟨.inr<|gC s,rfl,rfl⟩
 |_=>cases h
def RKs.look{K:Frag}{H:Hp}{k:O.Val}{c:Key}(a:WF k c):∀{kvs:List (O.Val×O.Val)}{ps:List (Key×V)},RKs K H kvs ps->
  (∀v,O.fq kvs k=eL v->∃x,Yt ps c=eL x/\RV K H v x)/\(O.fq kvs k=eM->Yt ps c=eM)
 |_,_,.nil=>⟨λv e=>(by cases e),λ_=>rfl⟩
 |_,_,.cons (k:=j) (v:=u) (c:=d) (x:=y) (kvs:=kvs) (ps:=ps) b r t=>by
  have ih:=RKs.look a t;have q:=W5 b a;by_cases e:d=c
  .rw[gx e]at q;have e1:O.fq ((j,u)::kvs) k=eL u:=by simp[O.fq,Ę,q]
   rw[e1,Xk e];exact⟨λv z=>(by cases z;exact⟨y,rfl,r⟩),λz=>(by cases z)⟩
  .rw[gu e]at q;have e1:O.fq ((j,u)::kvs) k=O.fq kvs k:=by simp[O.fq,Ę,q]
   rw[e1,Xj e];exact ih
def RKs.has{K:Frag}{H:Hp}{k:O.Val}{c:Key}(a:WF k c):∀{kvs:List (O.Val×O.Val)}{ps:List (Key×V)},RKs K H kvs ps->O.fu kvs k=ps.any λkv=>gB (kv.1=c)
 |_,_,.nil=>rfl
 |_,_,.cons b r t=>by have ih:=RKs.has a t;unfold O.fu at ih ⊢;rw[ķ,ķ,ih,W5 b a]
def RKs.app{K:Frag}{H:Hp}{k v:O.Val}{c:Key}{x:V}(a:WF k c)(q:RV K H v x):∀{kvs:List (O.Val×O.Val)}{ps:List (Key×V)},RKs K H kvs ps->RKs K H (kvs++[(k,v)]) (ps++[(c,x)])
 |_,_,.nil=>.cons a q .nil
 |_,_,.cons b r t=>.cons b r<|RKs.app a q t
def RKs.repl{K:Frag}{H:Hp}{k v:O.Val}{c:Key}{x:V}(a:WF k c)(q:RV K H v x):∀{kvs:List (O.Val×O.Val)}{ps:List (Key×V)},RKs K H kvs ps->
  RKs K H (kvs.map λp=>if p.1==k then(k,v)else p) (ps.map λkv=>if kv.1=c then(kv.1,x)else kv)
 |_,_,.nil=>.nil
 |_,_,.cons (k:=j) (v:=u) (c:=d) (x:=y) b r t=>by
  have ih:=RKs.repl a q t;have z:=W5 b a;rw[Ñ,Ñ];by_cases e:d=c
  .rw[gx e]at z;rw[gp z,gp e];exact .cons (e▸a) q ih
  .rw[gu e]at z;rw[gq (by rw[z];decide),gq e];exact .cons b r ih
def RKs.put{K:Frag}{H:Hp}{k v:O.Val}{c:Key}{x:V}(a:WF k c)(q:RV K H v x){kvs:List (O.Val×O.Val)}{ps:List (Key×V)}(r:RKs K H kvs ps):RKs K H (O.fv kvs k v)<|L2.fv ps c x:=by
 unfold O.fv L2.fv;rw[r.has a];by_cases e:(ps.any λkv=>gB (kv.1=c))=eN
 .rw[gp e,gp e];exact r.repl a q
 .rw[gq e,gq e];exact r.app a q
def RKs.drop{K:Frag}{H:Hp}{k:O.Val}{c:Key}(a:WF k c):∀{kvs:List (O.Val×O.Val)}{ps:List (Key×V)},RKs K H kvs ps->RKs K H (O.fw kvs k) (L2.fw ps c)
 |_,_,.nil=>.nil
 |_,_,.cons (k:=j) (v:=u) (c:=d) (x:=y) b r t=>by
  have ih:=RKs.drop a t;have z:=W5 b a;unfold O.fw L2.fw at ih ⊢;rw[ē,ē];by_cases e:d=c
  .rw[gx e]at z;rw[gq (by rw[z];decide),gq<|by simpa using e];exact ih
  .rw[gu e]at z;rw[gp (by rw[z];rfl),gp<|by simpa using e];exact .cons b r ih
variable {G:O.Hs} {H:Hp} {a:Í} {kvs':List (O.Val×O.Val)}
def M7{kvs:List (O.Val×O.Val)}{ps cN:List (Key×V)}(g:RH i G H)(h:H a=eL (.dK ps))(r:RKs i.K H kvs' cN):fo H (upd H a<|.dK cN)/\RH i (O.upd G a<|.dct kvs') (upd H a<|.dK cN):=by
 have k:fo H<|upd H a<|.dK cN:=fo.put (λxs e=>by rw[h]at e;cases e) λp u e=>by rw[h]at e;cases e
 exact⟨k,g.put k ⟨cN,eR,r.keep k⟩⟩
def RTs.length{K:Frag}{H:Hp}:∀{kvs:List (O.Val×O.Val)}{ps:List (List Key×V)},RTs K H kvs ps->kvs.length=ps.length
 |_,_,.nil=>rfl
 |_,_,.cons _ t=>by rw[Ï,Ï,RTs.length t]
def Mg(a b i j:Int):(O.Val.key a b == .key i j)=gB (([.inl a,.inl b]:List Key)=[.inl i,.inl j]):=by
 by_cases e:a=i/\b=j
 .obtain⟨rfl,rfl⟩:=e;rw[gx rfl];simp
 .rw[gu λz=>e<|by simpa using z];exact beq_eq_false_iff_ne.mpr λz=>e ⇑z
def RTs.look{K:Frag}{H:Hp}{i j:Int}:∀{kvs:List (O.Val×O.Val)}{ps:List (List Key×V)},RTs K H kvs ps->
  (∀v,O.fq kvs (.key i j)=eL v->∃x,Yt ps [.inl i,.inl j]=eL x/\RV K H v x)/\(O.fq kvs (.key i j)=eM->Yt ps [.inl i,.inl j]=eM)
 |_,_,.nil=>⟨λv e=>(by cases e),λ_=>rfl⟩
 |_,_,.cons (i:=a) (j:=b) (v:=u) (x:=y) (kvs:=kvs) (ps:=ps) r t=>by
  have ih:=RTs.look (i:=i) (j:=j) t;have q:=Mg a b i j;by_cases e:([.inl a,.inl b]:List Key)=[.inl i,.inl j]
  .rw[gx e]at q;have e1:O.fq ((.key a b,u)::kvs) (.key i j)=eL u:=by simp[O.fq,Ę,q]
   rw[e1,Xk e];exact⟨λv z=>(by cases z;exact⟨y,rfl,r⟩),λz=>(by cases z)⟩
  .rw[gu e]at q;have e1:O.fq ((.key a b,u)::kvs) (.key i j)=O.fq kvs (.key i j):=by simp[O.fq,Ę,q]
   rw[e1,Xj e];exact ih
def RTs.has{K:Frag}{H:Hp}{i j:Int}:∀{kvs:List (O.Val×O.Val)}{ps:List (List Key×V)},RTs K H kvs ps->O.fu kvs (.key i j)=ps.any λkv=>gB (kv.1=[.inl i,.inl j])
 |_,_,.nil=>rfl
 |_,_,.cons (i:=a) (j:=b) r t=>by have ih:=RTs.has (i:=i) (j:=j) t;unfold O.fu at ih ⊢;rw[ķ,ķ,ih,Mg a b i j]
def RTs.app{K:Frag}{H:Hp}{v:O.Val}{i j:Int}{x:V}(q:RV K H v x):∀{kvs:List (O.Val×O.Val)}{ps:List (List Key×V)},RTs K H kvs ps->RTs K H (kvs++[(.key i j,v)]) (ps++[([.inl i,.inl j],x)])
 |_,_,.nil=>.cons q .nil
 |_,_,.cons r t=>.cons r<|RTs.app q t
def RTs.repl{K:Frag}{H:Hp}{v:O.Val}{i j:Int}{x:V}(q:RV K H v x):∀{kvs:List (O.Val×O.Val)}{ps:List (List Key×V)},RTs K H kvs ps->
  RTs K H (kvs.map λp=>if p.1 == .key i j then(.key i j,v)else p) (ps.map λkv=>if kv.1=[.inl i,.inl j]then(kv.1,x)else kv)
 |_,_,.nil=>.nil
 |_,_,.cons (i:=a) (j:=b) (v:=u) (x:=y) r t=>by
  have ih:=RTs.repl (i:=i) (j:=j) q t;have z:=Mg a b i j;rw[Ñ,Ñ];by_cases e:([.inl a,.inl b]:List Key)=[.inl i,.inl j]
  .rw[gx e]at z;simp only[z,if_true,e];exact .cons q ih
  .rw[gu e]at z;simp only[z,e,if_false,ī];exact .cons r ih
def RTs.put{K:Frag}{H:Hp}{v:O.Val}{i j:Int}{x:V}(q:RV K H v x){kvs:List (O.Val×O.Val)}{ps:List (List Key×V)}(r:RTs K H kvs ps):RTs K H (O.fv kvs (.key i j) v)<|L2.fv ps [.inl i,.inl j] x:=by
 unfold O.fv L2.fv;rw[r.has];by_cases e:(ps.any λkv=>gB (kv.1=[.inl i,.inl j]))=eN
 .rw[gp e,gp e];exact r.repl q
 .rw[gq e,gq e];exact r.app q
def ER{ps cN:List (List Key×V)}(g:RH i G H)(h:H a=eL (.dT ps))(r:RTs i.K H kvs' cN):fo H (upd H a<|.dT cN)/\RH i (O.upd G a<|.dtp kvs') (upd H a<|.dT cN):=by
 have k:fo H<|upd H a<|.dT cN:=fo.put (λxs e=>by rw[h]at e;cases e) λp u e=>by rw[h]at e;cases e
 exact⟨k,g.put k ⟨cN,eR,r.keep k⟩⟩
def WJ{k:O.Val}{x:V}{K:Frag}{H:Hp}(h:O.isKeyT k=eN)(r:RV K H k x):∃a b c,k=.key a b/\x=.ref c/\H c=eL (.tup<|([.inl a,.inl b]:List Key).map kV):=by
 cases k with
 |key a b=>cases r with|key e=>exact⟨a,b,_,rfl,rfl,e⟩
 |_=>cases h
abbrev BU:R2:=λx y H Q=>∃a v,x=.ref a/\DGet H a y (eL v)/\Q v H
def FD(hu:X.A.units+1<Ī):IxR X BU:=by
 intro ο slice Â s σ H x y v u Q I rx ry h hs;let⟨a,z,rfl,g,q⟩:=h;cases rx;have hT:=NM I g;unfold aw;refine À ?_;rw[getitemInPython_of_ne hT.not_modules];refine À<|wpAny_specialOf hT PySem.F.slot_dict_getitem.lookup ?_;have fin:wpAny (à X.prog X.w) X.A (subscripted slice eP (.ref a) u) (λr af=>wpAny (à X.prog X.w) X.A (letTemporaryGo ο (.ref a) r >>= λ_=>pure r) (EP X Â σ Q) X.xe af) X.xe s:=by rw[hs];exact wpAny_operating<|KW hu I g ry λw' s' I' aZ=>À<|wpAny_letTemporaryGo<|Æ ⟨_,_,I',aZ,q⟩
 first
  |exact Æ<|À fin
  |exact À<|Æ<|À fin
  |exact À fin
abbrev Gk(b:Bool):R2:=λx y H Q=>∃a o,y=.ref a/\DGet H a x o/\Q (.bl<|b ^^ o.isSome) H
def Iq(hu:X.A.units+1<Ī):OpR X (î .In)<|Gk eP:=by intro Â s σ H x y v u Q I rx ry h;let⟨a,o,rfl,g,q⟩:=h;cases ry;rw[bc]at q;exact SA hu I g rx λs' I'=>⟨.bl o.isSome,_,I',rfl,q⟩
def IA(hu:X.A.units+1<Ī):OpR X (î .NotIn)<|Gk eN:=by intro Â s σ H x y v u Q I rx ry h;let⟨a,o,rfl,g,q⟩:=h;cases ry;rw[bH]at q;exact EL hu I g rx λs' I'=>⟨.bl (!o.isSome),_,I',rfl,q⟩
abbrev HL:V->V->V->Hp->(Hp->Prop)->Prop:=λo y v H Q=>∃a H',o=.ref a/\DPut H a y v H'/\Q H'
def N9(hu:X.A.units+1<Ī):PSet X HL:=by intro Â s σ H o y v ov iv u Q I ro ri rv h;let⟨a,H',rfl,g,q⟩:=h;cases ro;exact A4 hu I g ri rv λs' I'=>⟨H',I',q⟩
def PSet.or{r r':V->V->V->Hp->(Hp->Prop)->Prop}(h:PSet X r)(h':PSet X r'):PSet X λo y v H Q=>r o y v H Q\/r' o y v H Q:=by
 intro Â s σ H o y v ov iv u Q I ro ri rv q;rcases q with q|q
 .exact h Â s σ H o y v ov iv u Q I ro ri rv q
 .exact h' Â s σ H o y v ov iv u Q I ro ri rv q
end Snd
namespace Snd
open PySem L2
variable {i:Inf}{X:Cx}{Φ:O.Fs}
def MI(n:Nat)(k:Int):O.ixN n k=L2.ixN n k:=rfl
variable {H:Hp} {xs:List O.Val} {vs:List V}
def WO{K:Frag}{k:Int}{v:O.Val}(r:RVs K H xs vs)(e:O.atI xs k=eL v):∃x,L2.atI vs k=eL x/\RV K H v x:=by
 unfold O.atI at e;unfold L2.atI;rw[MI,r.length]at e;cases z:L2.ixN vs.length k with
 |none=>rw[z]at e;cases e
 |some j =>rw[z]at e;let⟨x,h1,h2⟩:=r.get (show xs[j]?=eL v from e);exact⟨x,h1,h2⟩
abbrev Q0(i:Inf)(r:R2):Prop:=∀(v u:O.Val) (G:O.Hs) (H:Hp) (x y:V) (w:O.Val) (Q:VK),RH i G H->RV i.K H v x->RV i.K H u y->O.fI G v u=eL w->(∀z,RV i.K H w z->Q z H)->r x y H Q
variable {a:Expr} {ma:O.E} {ë:Pos}
def Rp{b:Expr}{mb:O.E}{r:R2}(hr:IxR X r)(ho:Q0 i r)(ha:PE X a<|tE X i Φ ma)(hb:PE X b<|tE X i Φ mb)(hs:M8 b):PE X (.Subscript a b ë) (tE X i Φ<|.idx ma mb) :=
 (QX hr ha hb hs).imp λσ H Q ⟨env,G,Qm,Em,p,w,c⟩=>by
  exact two p w λv u G2 H2 x y k2 p2 rx ry q=>by let⟨z,e,q⟩:=eU q;exact ho v u G2 H2 x y z Q p2.hp rx ry e λt rt=>c z G2 H2 t k2 p2.hp rt q
def GP{s:String}{k:Int}{c:Char}(e:O.atI s.toList k=eL c):L2.atI (gC s).cps.toList k=eL c.toNat:=by
 rw[Str.ofString_eq_toList];show L2.atI (List.map Ş s.toList).toArray.toList k=_;unfold O.atI at e;unfold L2.atI;simp only[Á];rw[MI]at e;cases z:L2.ixN s.toList.length k with
 |none=>rw[z]at e;cases e
 |some j =>rw[z]at e;have e:s.toList[j]?=eL c:=e;show(List.map Ş s.toList)[j]?=_;rw[Ø,e];rfl
def O0(c:Char):gC (am c)=⟨#[c.toNat]⟩:=by rw[Str.ofString_eq_toList];simp
abbrev R8(K:Frag):R2:=λx y H Q=>rIx K x y H Q\/BU x y H Q
def QP:Q0 i<|R8 i.K:=by
 intro v u G H x y w Q g rx ry e q;cases v with
 |tup xs =>
  cases u with
  |int k =>
   cases rx with
   |tup hp hr =>let⟨z,h1,h2⟩:=WO hr (show O.atI xs k=eL w from e);exact .inl<|.inr<|.inl ⟨_,_,k,z,rfl,ry.int_inv,Zl hp,h1,q z h2⟩
  |_=>cases e
 |str s =>
  cases u with
  |int k =>
   simp only[O.fI]at e;split at e
   .rename_i hl;cases z:O.atI s.toList k with
    |none=>rw[z]at e;cases e
    |some c =>rw[z]at e;cases e;refine .inl (.inr<|.inr ⟨_,k,_,rx.str_inv,ry.int_inv,by rw[Zx];exact Ý hl ZH,GP z,?_⟩);have:=q _<|.str<|am c;rw[O0]at this;exact this
   .cases e
  |_=>cases e
 |ref a =>
  cases rx.ref_inv
  replace e:(match G a with|some (.lst xs)=>(O.gg u).bind (O.atI xs)|some (.dct kvs)=>if O.fj u then O.fq kvs u else eM|some (.frz kvs)=>if O.fj u then O.fq kvs u else eM|some (.dtp kvs)=>if O.isKeyT u then O.fq kvs u else eM|_=>eM)=eL w:=e
  cases z:G a with
  |none=>rw[z]at e;cases e
  |some o =>
   rw[z]at e;cases o with
   |lst xs =>let⟨k,hk,e⟩:=ì.mp e;cases ZB hk;let⟨vs,h1,h2⟩:=g a _ z;let⟨t,h3,h4⟩:=WO h2 e;exact .inl<|.inl ⟨a,vs,k,t,rfl,ry.int_inv,fY.of h1,h3,q t h4⟩
   |dct kvs =>let⟨hk,e⟩:=Zn (show(if O.fj u then O.fq kvs u else eM)=eL w from e);let⟨ps,h1,h2⟩:=g a _ z;let⟨d,kr,rfl⟩:=fg hk ry;let⟨t,hx,rv⟩:=(h2.look kr).1 w e;exact .inr ⟨a,t,rfl,by rw[<-hx];exact DGet.k h1,q t rv⟩
   |frz kvs =>let⟨hk,e⟩:=Zn (show(if O.fj u then O.fq kvs u else eM)=eL w from e);let⟨ob,ps,h1,h2⟩:=g a _ z;let⟨d,kr,rfl⟩:=fg hk ry;let⟨t,hx,rv⟩:=(h2.look kr).1 w e;exact .inr ⟨a,t,rfl,.inl ⟨ps,d,.inr ⟨ob,h1⟩,rfl,hx.symm⟩,q t rv⟩
   |dtp kvs =>let⟨hk,e⟩:=Zn (show(if O.isKeyT u then O.fq kvs u else eM)=eL w from e);let⟨ps,h1,h2⟩:=g a _ z;let⟨k1,k2,b,rfl,rfl,hb⟩:=WJ hk ry;let⟨t,hx,rv⟩:=(h2.look).1 w e;exact .inr ⟨a,t,rfl,by rw[<-hx];exact DGet.t h1 hb,q t rv⟩
   |_=>cases e
 |scr ns =>
  cases u with
  |int k =>
   cases rx with
   |scr h =>let⟨t,h3,h4⟩:=WO (RVs.ints ns) (show O.atI (ns.map .int) k=eL w from e);exact .inl<|.inl ⟨_,_,k,t,rfl,ry.int_inv,Z3 h,h3,q t h4⟩
  |_=>cases e
 |_=>cases e
abbrev tOx(X:Cx)(i:Inf)(Φ:O.Fs)(m:O.Oe):TO:=λσ H Q=>∃env G Qm Em,Pre X i σ H env G Em/\O.wO Φ m env G Qm Em/\∀k G' H',fo H H'->RH i G' H'->Qm k G'->Q k H'
def _root_.L2.PO.imp{e:Option Expr}{t t':TO}(h:PO X e t)(f:∀σ H Q,t' σ H Q->t σ H Q):PO X e t':=λÂ s σ H Q I q=>h Â s σ H Q I (f σ H Q q)
def FS:PO X eM<|tOx X i Φ .none:=po_none.imp λσ H Q ⟨env,G,Qm,Em,p,w,c⟩=>by exact c eM G H (fo.refl H) p.hp w
def FL{e:Expr}{m:O.E}(he:PE X e<|tE X i Φ m):PO X (eL e)<|tOx X i Φ<|.some m:=(Ha he).imp λσ H Q ⟨env,G,Qm,Em,p,w,c⟩=>by
 exact one p w λv G1 H1 x k1 p1 r q=>by let⟨b,e,q2⟩:=eU q;cases ZB e;exact⟨b,r.int_inv,c _ G1 H1 k1 p1.hp q2⟩
def Uc{K:Frag}(r:RVs K H xs vs)(lo hi:Option Int):RVs K H (O.cut xs lo hi)<|MS vs lo hi:=by
 have e:∀(n d:Nat) (o:Option Int),O.fE n d o=HT.sIx n d o:=by
  intro n d o;cases o with
  |none=>rfl
  |some k =>
   show(if 0<=k then min k.toNat n else(k+n).toNat)=(if k<0 then(k+(n:Int)).toNat else min k.toNat n)
   by_cases h:k<0
   .rw[gp h,gq<|by lia]
   .rw[gq h,gp<|by lia]
 unfold O.cut MS;rw[e,e,r.length];exact(r.drop _).take _
abbrev Rz(i:Inf)(r:V->Option Int->Option Int->Hp->VK->Prop):Prop:=∀(v:O.Val) (lo hi:Option Int) (G:O.Hs) (H:Hp) (x:V) (Q:VK) (Qm:O.Q1),RH i G H->RV i.K H v x->(O.fJ G v lo hi).wp G Qm->Cn i H Q Qm->r x lo hi H Q
def QS{lo hi:Option Expr}{ml mh:O.Oe}{r:V->Option Int->Option Int->Hp->VK->Prop}{p2:Pos}(hr:SlR X r)(ho:Rz i r)(ha:PE X a<|tE X i Φ ma)(hl:PO X lo<|tOx X i Φ ml)(hh:PO X hi<|tOx X i Φ mh):PE X (.Subscript a (.Slice lo hi eM p2) ë) (tE X i Φ<|.slc ma ml mh) :=
 (Ev hr ha hl hh).imp λσ H Q ⟨env,G,Qm,Em,p,w,c⟩=>by
  exact⟨env,G,_,Em,p,w,λv G1 H1 x k1 g1 r1 w1=>⟨env,G1,_,Em,p.go k1 g1,w1,λl G2 H2 k2 g2 w2=>⟨env,G2,_,Em,(p.go k1 g1).go k2 g2,w2,λu G3 H3 k3 g3 w3 =>
    ho v l u G3 H3 x Q Qm g3 ((r1.keep k2).keep k3) w3 (((c.go k1).go k2).go k3)⟩⟩⟩
abbrev QU(K:Frag):V->Option Int->Option Int->Hp->VK->Prop:=λx lo hi H Q=>RG K x lo hi H Q\/QL K x lo hi H Q\/QG x lo hi H Q\/QH K x lo hi H Q
def R7:SlR X<|QU X.K:=sl_list.or (fP.or<|sl_str.or FE)
def X0(n d:Nat)(o:Option Int):O.fE n d o=HT.sIx n d o:=by
 cases o with
 |none=>rfl
 |some k =>
  show(if 0<=k then min k.toNat n else(k+n).toNat)=(if k<0 then(k+(n:Int)).toNat else min k.toNat n)
  by_cases h:k<0
  .rw[gp h,gq<|by lia]
  .rw[gq h,gp<|by lia]
def Ol(n d:Nat)(h:d<=n)(o:Option Int):O.fE n d o<=n:=by
 cases o with
 |none=>exact h
 |some k =>show(if 0<=k then min k.toNat n else(k+n).toNat)<=n;split<;>lia
def clip_eq(n d:Nat)(h:d<=n)(o:Option Int):(match o with
    |none=>(d:Int)
    | some i=>max 0<|min (if i<0 then i+(n:Int)else i) (n:Int))=(O.fE n d o:Int):=by
 cases o with
 |none=>rfl
 |some k =>
  show _=(((if 0<=k then min k.toNat n else(k+n).toNat):Nat):Int)
  by_cases hk:k<0
  .rw[gq<|show ¬ 0<=k by lia];simp only[hk,if_true];lia
  .rw[gp<|show 0<=k by lia];simp only[hk,if_false];lia
def Pe(n:Nat)(lo hi:Option Int):PySem.Builtin.Str.strSliceIndices lo hi 1 n=(List.range<|O.fE n n hi - O.fE n 0 lo).map λk=>O.fE n 0 lo+k:=by
 have e1:=clip_eq n 0 (ĕ _) lo;have e2:=clip_eq n n (Ì _) hi;have e3:PySem.Builtin.Str.strSliceIndices lo hi 1 n=Ϥ (O.fE n 0 lo:Int) (O.fE n n hi:Int) 1:=by unfold PySem.Builtin.Str.strSliceIndices;rw[<-e1,<-e2];cases lo<;>cases hi<;>rfl
 rw[e3];unfold Ϥ;have e4:(if(1:Int) > 0 then(if(O.fE n 0 lo:Int)<(O.fE n n hi:Int)then((O.fE n n hi:Int) - (O.fE n 0 lo:Int)+1 - 1) / 1 else 0)else(if(O.fE n 0 lo:Int) > (O.fE n n hi:Int)then((O.fE n 0 lo:Int) - (O.fE n n hi:Int) - 1 - 1) / (-1)else 0)).toNat=O.fE n n hi - O.fE n 0 lo:=by rw[gp (by decide),Int.ediv_one];split<;>lia
 show(List.range<|Int.toNat<|if(1:Int) > 0 then _ else _).map _=_;rw[e4];refine Ĥ λk _=>?_;lia
def GS(s:String)(lo hi:Option Int):As (gC s) lo hi=gC (Ζ<|O.cut s.toList lo hi):=by
 have hl:(gC s).length=s.toList.length:=by rw[Zx,bY]
 have ha:=Ol s.toList.length 0 (ĕ _) lo;have hb:=Ol s.toList.length s.toList.length (Ì _) hi;have e:=Pe s.toList.length lo hi;rw[<-hl]at e;unfold As;rw[e];simp only[hl];have ec:(gC s).cps.toList=s.toList.map Ş:=by rw[Str.ofString_eq_toList]
 split
 .rename_i z;rw[Á,ı]at z;have e0:O.fE s.toList.length 0 lo=0\/s.toList.length=0:=by lia
  have e5:O.cut s.toList lo hi=s.toList:=by
   unfold O.cut;rw[z];rcases e0 with e0|e0
   .rw[e0,List.drop_zero,Ă]
   .have:s.toList=[]:=ŭ.mp e0;rw[this];simp
  rw[e5,String.ofList_toList]
 .rw[Str.ofString_eq_toList<|Ζ _,bZ];congr 2;have e3:(λi:Nat=>(gC s).cps[i]?)=λi:Nat=>(s.toList.map Ş)[i]?:=by
   funext i;rw[<-ec];simp
  rw[e3];by_cases hab:O.fE s.toList.length 0 lo<=O.fE s.toList.length s.toList.length hi
  .rw[PySem.StrLaws.picks _ _ _<|by rw[Á];lia];unfold O.cut;rw[List.map_take,Ϯ]
  .have:O.fE s.toList.length s.toList.length hi - O.fE s.toList.length 0 lo=0:=by lia
   unfold O.cut;rw[this];simp
def P5:Rz i<|QU i.K:=by
 intro v lo hi G H x Q Qm g r w c;cases v with
 |tup xs =>
  simp only[O.fJ]at w;split at w
  .rename_i hn;rw[O.Rs.wp_val]at w;cases r with
   |@tup _ a vs hp hr=>exact .inr (.inr<|.inr ⟨a,vs,rfl,Zl hp,by rw[<-X0,<-X0,<-hr.length];exact hn,c _ G H _ (fo.refl H) g (.tup hp hr) w⟩)
  .rename_i hn;rw[O.Rs.wp_val]at w;cases r with
   |@tup _ a vs hp hr =>refine .inr (.inl ⟨a,vs,rfl,Zl hp,by rw[<-X0,<-X0,<-hr.length];exact hn,λp hp'=>?_⟩);have k:=fo.new (o:=.tup<|MS vs lo hi) hp';refine c _ G _ _ k (g.hid k λb o e=>eQ ?_) (.tup (.inl eR)<|Uc (hr.keep k) lo hi) w;rintro rfl;rw[g.free hp']at e;cases e
 |ref a =>
  cases r.ref_inv;simp only[O.fJ]at w;cases z:O.fe (G a)with
  |none=>rw[z]at w;simp at w
  |some xs =>rw[z]at w;rw[O.Rs.wp_new]at w;let⟨vs,h1,h2⟩:=ZG g z;exact .inl ⟨a,vs,rfl,h1,Yg g w c λp hp=>⟨_,eR,Uc (h2.keep<|fo.new hp) lo hi⟩⟩
 |scr ns =>
  simp only[O.fJ,O.Rs.wp_new]at w;cases r with
  |scr h=>exact .inl ⟨_,_,rfl,Z3 h,Yg g w c λp hp=>⟨_,eR,Uc (RVs.ints ns) lo hi⟩⟩
 |str s =>
  cases r.str_inv;simp only[O.fJ]at w;split at w
  .rename_i hl;rw[O.Rs.wp_val]at w;refine .inr (.inr <| .inl ⟨_,rfl,by rw[Zx];exact Ý hl (by decide),?_⟩);rw[GS];exact c _ G H _ (fo.refl H) g (.str _) w
  .simp at w
 |_=>simp[O.fJ]at w
variable {H:Hp} {vs:List O.Val} {xs:List V} {x:V}
def RVs.app1{K:Frag}{v:O.Val}(r:RVs K H vs xs)(q:RV K H v x):RVs K H (vs++[v])<|xs++[x]:=r.append (.cons q .nil)
variable {es:List Expr} {ms:O.Es} {n:Nat} {ë:Pos}
def Q2{k:Nat}(hn:n<=1000)(h:PA X es<|tAr X i Φ ms n):PE X (.Tuple es k ë) (tE X i Φ<|.tup ms) :=
 (PK h).imp λσ H Q ⟨env,G,Qm,Em,p,w,c⟩=>by refine⟨env,G,_,Em,p,w,λvs G1 H1 xs k1 g1 r1 hl w1=>⟨by rw[hl];exact Ý hn (by decide),λa ha=>?_⟩⟩;have k:=fo.new (o:=.tup xs) ha;refine c _ G1 _ _ (k1.trans k) (g1.hid k λb o e=>eQ ?_) (.tup (.inl eR)<|r1.keep k) w1;rintro rfl;rw[g1.free ha]at e;cases e
def Ql(hn:n<=1000)(h:PA X es<|tAr X i Φ ms n):PE X (.List es ë) (tE X i Φ<|.lst ms) :=
 (I0 h).imp λσ H Q ⟨env,G,Qm,Em,p,w,c⟩=>by refine⟨env,G,_,Em,p,w,λvs G1 H1 xs k1 g1 r1 hl w1=>⟨by rw[hl];exact Ý hn (by decide),Yg g1 w1 (c.go k1) λa ha=>?_⟩⟩;exact⟨xs,eR,r1.keep<|fo.new ha⟩
abbrev MO(i:Inf)(f:O.Bi)(r:List V->Hp->VK->Prop):Prop:=∀(vs:List O.Val) (G:O.Hs) (H:Hp) (xs:List V) (Q:VK) (Qm:O.Q1),RH i G H->RVs i.K H vs xs->(O.biV G f vs).wp G Qm->Cn i H Q Qm->r xs H Q
def WD{f:O.Bi}{r:List V->Hp->VK->Prop}(hr:MO i f r):∀σ H Q,tE X i Φ (.bi f ms) σ H Q->tCB r (tAr X i Φ ms n) σ H Q:=λσ H Q ⟨env,G,Qm,Em,p,w,c⟩=>by exact⟨env,G,_,Em,p,w,λvs G1 H1 xs k1 g1 r1 _ w1=>hr vs G1 H1 xs Q Qm g1 r1 w1<|c.go k1⟩
def RVs.inv1{K:Frag}{v:O.Val}(r:RVs K H [v] xs):∃x,xs=[x]/\RV K H v x:=by cases r with|cons a t=>cases t;exact⟨_,rfl,a⟩
def RVs.inv2{K:Frag}{v u:O.Val}(r:RVs K H [v,u] xs):∃x y,xs=[x,y]/\RV K H v x/\RV K H u y:=by cases r with|cons a t=>cases t with|cons b t=>cases t;exact⟨_,_,rfl,a,b⟩
def K7(s:String):(gC s).cps.toList=s.toList.map Ş:=by rw[Str.ofString_eq_toList]
def Uz:∀(l:List Char) (a:Nat),(l.map Ş).foldl (λĮ c=>Į*10+(c - 48)) a=l.foldl (λa c=>10*a+(c.toNat - 48)) a
 |[],_=>rfl
 |c::l,a=>by rw[Ñ,ŀ,ŀ,Uz l,cr a 10]
def E5{s:String}(h1:s.toList≠[])(h2:s.toList.all O.figB=eN)(h3:s.length<=640):PySem.intText? (gC s)=eL ((O.decN s.toList:Nat):Int):=by
 have hc:=K7 s;rw[intText_digits (x:=gC s)]
 .rw[hc];unfold NumText.digitsVal O.decN;rw[Uz]
 .rw[hc];intro c hm;let⟨d,hd,rfl⟩:=Ò.mp hm;have:=ā.mp h2 d hd;unfold O.figB at this;simpa using this
 .rw[hc];simpa using h1
 .rw[Zx];lia
variable {h:O.Hs} {Q:O.Q1}
def Wv{f:O.Val->O.Rs}(w:(O.ff f vs).wp h Q):∃v,vs=[v]/\(f v).wp h Q:=by
 cases vs with
 |nil=>exact(Zi w).elim
 |cons v vs=>cases vs with
  |nil=>exact⟨v,rfl,w⟩
  |cons _ _=>exact(Zi w).elim
def DU{f:O.Val->O.Val->O.Rs}(w:(O.biOf2 f vs).wp h Q):∃v u,vs=[v,u]/\(f v u).wp h Q:=by
 cases vs with
 |nil=>exact(Zi w).elim
 |cons v vs=>cases vs with
  |nil=>exact(Zi w).elim
  |cons u us=>cases us with
   |nil=>exact⟨v,u,rfl,w⟩
   |cons _ _=>exact(Zi w).elim
def Pq:MO i .int λxs H Q=>((∃i,xs=[.int i]/\Q (.int i) H)\/∃k,xs=[.bl k]/\Q (.int<|if k then 1 else 0) H)\/∃z n,xs=[.str z]/\PySem.intText? z=eL n/\z.length<=640/\Q (.int n) H:=by
 intro vs G H xs Q Qm g r w c;let⟨v,rfl,w⟩:=Wv w;let⟨x,rfl,rx⟩:=r.inv1;cases v with
 |int k=>cases rx.int_inv;exact .inl<|.inl ⟨k,rfl,c _ G H _ (fo.refl H) g (.int _)<|Zm w⟩
 |bl k=>cases rx.bl_inv;exact .inl<|.inr ⟨k,rfl,c _ G H _ (fo.refl H) g (.int _)<|Zm w⟩
 |str s =>cases rx.str_inv;let⟨hl,w⟩:=X1 w;exact .inr ⟨_,_,rfl,E5 hl.2.1 hl.2.2 hl.1,by rw[Zx];exact hl.1,c _ G H _ (fo.refl H) g (.int _)<|Zm w⟩
 |_=>exact(Zi w).elim
def GM:MO i .max2 λxs H Q=>∃i j,xs=[.int i,.int j]/\Q (.int<|if j > i then j else i) H:=by intro vs G H xs Q Qm g r w c;let⟨v,u,rfl,w⟩:=DU w;let⟨a,b,rfl,rfl,w⟩:=Xp w;let⟨x,y,rfl,rx,ry⟩:=r.inv2;cases rx.int_inv;cases ry.int_inv;exact⟨a,b,rfl,c _ G H _ (fo.refl H) g (.int _)<|Zm w⟩
def Fy:MO i .min2 λxs H Q=>∃i j,xs=[.int i,.int j]/\Q (.int<|if j<i then j else i) H:=by intro vs G H xs Q Qm g r w c;let⟨v,u,rfl,w⟩:=DU w;let⟨a,b,rfl,rfl,w⟩:=Xp w;let⟨x,y,rfl,rx,ry⟩:=r.inv2;cases rx.int_inv;cases ry.int_inv;exact⟨a,b,rfl,c _ G H _ (fo.refl H) g (.int _)<|Zm w⟩
abbrev Qn(o:Option O.Ob)(f:List O.Val->O.Rs):O.Rs:=match o with
 |some (.lst xs)=>f xs
 |_=>.no
variable {o:Option O.Ob}
def NH{f:List O.Val->O.Rs}(w:(Qn o f).wp h Q):∃xs,o=eL (.lst xs)/\(f xs).wp h Q:=by
 cases o with
 |none=>exact(Zi w).elim
 |some o=>cases o with
  |lst xs=>exact⟨xs,rfl,w⟩
  |_=>exact(Zi w).elim
variable {G:O.Hs}
def FI{Q:VK}{Qm:O.Q1}{ys:List O.Val}{us:List V}(g:RH i G H)(r:RVs i.K H ys us)(w:Qm (.tup ys) G)(c:Cn i H Q Qm):∀l,H l=eM->Q (.ref l) (upd H l<|.tup us):=λl hl=>by have k:=fo.new (o:=.tup us) hl;refine c _ G _ _ k (g.hid k λb o e=>eQ ?_) (.tup (.inl eR)<|r.keep k) w;rintro rfl;rw[g.free hl]at e;cases e
def CD:MO i .tuple λxs H Q=>∃p ys,xs=[.ref p]/\((fY i.K H p ys/\∀l,H l=eM->Q (.ref l) (upd H l<|.tup ys))\/(fZ i.K H p ys/\Q (.ref p) H)):=by
 intro vs G H xs Q Qm g r w c;let⟨v,rfl,w⟩:=Wv w;let⟨x,rfl,rx⟩:=r.inv1;cases v with
 |ref a =>cases rx.ref_inv;let⟨ys,e,w⟩:=NH (f:=λxs=>.val<|.tup xs) w;let⟨us,h1,h2⟩:=g a _ e;exact⟨a,us,rfl,.inl ⟨fY.of h1,FI g h2 (Zm w) c⟩⟩
 |tup ys =>
  cases rx with
  |tup hp hr=>exact⟨_,_,rfl,.inr ⟨Zl hp,c _ G H _ (fo.refl H) g (.tup hp hr)<|Zm w⟩⟩
 |_=>exact(Zi w).elim
abbrev kinds:List String:=["int","bool","str","list","tuple","dict"]
def Gn(K:Frag):∀t∈["NoneType","bool","int","str","tuple","list","dict"],∀T∈kinds,PySem.W.kitOne K (.type t) (.type T)=eL (t==T||(t == "bool" && T == "int")):=by intro t ht T hT;simp only[kinds,È,Ù,or_false]at ht hT;rcases ht with rfl|rfl|rfl|rfl|rfl|rfl|rfl<;>rcases hT with rfl|rfl|rfl|rfl|rfl|rfl<;>rfl
def Bc(g:RH i G H){v:O.Val}{t:String}(r:RV i.K H v x)(e:O.gj G v=eL t):TyV i.K H x (.type t)/\t∈["NoneType","bool","int","str","tuple","list","dict"]:=by
 cases v with
 |non=>cases r;cases e;exact⟨.of .non,by simp⟩
 |bl b=>cases r;cases e;exact⟨.of<|.bl b,by simp⟩
 |int b=>cases r;cases e;exact⟨.of<|.int b,by simp⟩
 |str b=>cases r;cases e;exact⟨.of<|.str _,by simp⟩
 |tup xs=>cases e;cases r with|tup hp hr=>exact⟨.tup<|Zl hp,by simp⟩
 |scr ns=>cases e;cases r with|scr h=>exact⟨.lst<|Z3 h,by simp⟩
 |ref a =>
  cases r.ref_inv;simp only[O.gj]at e;cases q:G a with
  |none=>rw[q]at e;cases e
  |some o =>
   rw[q]at e;cases o with
   |lst xs=>cases e;let⟨vs,h1,_⟩:=g a _ q;exact⟨.lst<|fY.of h1,by simp⟩
   |dct kvs=>cases e;let⟨ps,h1,_⟩:=g a _ q;exact⟨.of<|.dK h1,by simp⟩
   |ins C fs=>cases e
   |exc C=>cases e
   |frz _=>cases e
   |dtp _=>cases e
 |key _ _=>cases e
def Rr{e:Expr}{m:O.E}{T:String}{p p2:Pos}(hT:T∈kinds)(he:PE X e<|tE X i Φ m)(hk:X.K=i.K)(hg:Gl X "isinstance")(hm:X.mg "isinstance" = eM)(hg2:Gl X<|gC T)(hm2:X.mg (gC T)=eM)
  (hv2:ũ (gC T)=eL (.type T)) (hn2:gC T≠"__name__") (bM:(gC T==("__debug__" : Str))=eP) (Ž:Ü [e,.Name (gC T) p2] X.env=(eP,eval e X.env)::Ü [.Name (gC T) p2] X.env) :
  PE X (.Call (.Name "isinstance" p) [e,.Name (gC T) p2] [] ë) (tE X i Φ<|.bi (.isi [T])<|.cons m .nil):=by
 refine(Z9 BW hg hm (by kernel_rfl) (ZQ he (ZQ (QB (T:=T) hg2 hm2 hv2 hn2 bM) fW) Ž) (he:=Ž)).imp λσ H Q ⟨env,G,Qm,Em,p,w,c⟩=>?_;refine one p w λv G1 H1 x k1 p1 r q=>?_
 replace q:(O.Rs.ofO (((O.gk G1 v T).bind λb=>(O.isiAny G1 v []).map (b || ·)).map .bl)).wp G1 Qm:=q
 simp only[O.isiAny,O.gk]at q;cases z:O.gj G1 v with
 |none=>rw[z]at q;simp[O.Rs.ofO]at q
 |some t =>rw[z]at q;simp only[œ,ý,O.Rs.ofO,O.Rs.wp_val,ϭ]at q;let⟨h1,h2⟩:=Bc p1.hp r z;refine⟨x,T,.type t,_,rfl,by rw[hk];exact h1,by rw[hk];exact Gn _ t h2 T hT,c _ G1 H1 _ k1 p1.hp (.bl _) q⟩
def O1(h:O.isLst o=eN):∃xs,o=eL (.lst xs):=by
 cases o with
 |none=>cases h
 |some o=>cases o with
  |lst xs=>exact⟨xs,rfl⟩
  |_=>cases h
variable {a:Í}
def De{f:O.Ad->List O.Val->Option (O.Val×O.Hs)}{t:O.Val×O.Hs}(e:O.bmL G (.ref a) f=eL t):∃xs,G a=eL (.lst xs)/\f a xs=eL t:=by let⟨xs,h1,h2⟩:=ì.mp (show(O.fe<|G a).bind (f a)=eL t from e);exact⟨xs,KQ h1,h2⟩
def WL{xs:List O.Val}{vs:List V}(g:RH i G H)(h:H a=eL (.lst vs))(ys:List O.Val)(us:List V)(r:RVs i.K H ys us):fo H (upd H a<|.lst us)/\RH i (O.upd G a<|.lst ys) (upd H a<|.lst us):=by
 have k:fo H<|upd H a<|.lst us:=fo.put (λxs e=>by rw[h]at e;cases e) λp u e=>by rw[h]at e;cases e
 exact⟨k,g.put k ⟨us,eR,r.keep k⟩⟩
abbrev spF(i:Inf)(P:O.Pg)(n:Nat)(f:String):Sp:=λvs H Q E=>∃args G Qm Em,RVs i.K H args vs/\RH i G H/\O.wF P n f args G Qm Em/\Cn i H Q Qm/\∀cls d H',XK1 i H Em cls d H'->E cls d H'
abbrev Dfo(pr:ã)(w:Ā)(mg:Str->Option Ã)(base:ĉ)(i:Inf)(P:O.Pg)(n:Nat)(f:String):Prop :=
 ∃fa fd ps,fz pr w i.K mg base (CX1 pr w) (2*n) fa fd ps (spF i P n f)/\mg (gC f)=eL (.ref fa)/\PySem.W.keepIn i.K (.ref fa)=eN/\Binds i.K fd ps []
variable {e:Expr} {es:List Expr} {ë:Pos}
def Lv{P:O.Pg}{n k:Nat}{f:String}{ms:O.Es}{p:Pos}(hK:X.K=i.K)(D:Dfo X.prog X.w X.mg X.base i P n f)(hr:fy (2*n) X.A)(hg:Gl X<|gC f)(cI:(gC f==("__debug__" : Str))=eP)
  (ha:PA X (e::es)<|tAr X i (O.wF P n) ms k) (he:Ü (e::es) X.env=(eP,eval e X.env)::Ü es X.env) (hpl:(ģ ë<|Ü es X.env).any (·.1)=eP) :
  PE X (.Call (.Name (gC f) p) (e::es) [] ë) (tE X i (O.wF P n)<|.call f ms):=by
 let⟨fa,fd,ps,F,hm,hk,hb⟩:=D;rw[<-hK]at F hk hb;intro Â s σ H Q I h;let⟨env,G,Qm,Em,pr,w,c⟩:=h;refine Fb (E:=XK1 i H Em) F hr hg hm hk hb .nil (XW.passes pr.xo) ha cI he hpl Â s σ H Q I ⟨env,G,_,Em,pr,w,λvs G1 H1 xs k1 g1 r1 hl w1=>?_⟩;exact⟨vs,G1,Qm,Em,by rw[ö];exact r1,g1,w1,c.go k1,λcls d H' h=>h.go k1⟩
abbrev XKS(i:Inf)(H:Hp)(Xe:O.EQ):XK:=λcls _ H'=>∃e c G' ad,cls=.ref ad/\i.xc c ad/\fo H H'/\RH i G' H'/\Xe e c G'
structure PreS(X:Cx)(i:Inf)(σ:St)(H:Hp)(env:O.Env)(G:O.Hs)(Xe:O.EQ):Prop where
 en:REn i.K H env σ
 hp:RH i G H
 xo:XW X<|XKS i H Xe
variable {σ:St} {H:Hp} {H1:Hp} {G:O.Hs} {Xe:O.EQ}
def PreS.go{σ1:St}{env env1:O.Env}{G1:O.Hs}(p:PreS X i σ H env G Xe)(k:fo H H1)(r:RH i G1 H1)(e:REn i.K H1 env1 σ1):PreS X i σ1 H1 env1 G1 Xe :=
 ⟨e,r,λÂ σ H0 s H' a cls s' I f ⟨e,c,G',ad,q1,q2,q3,q4⟩=>p.xo Â σ H0 s H' a cls s' I f ⟨e,c,G',ad,q1,q2,k.trans q3,q4⟩⟩
def PreS.pre{env:O.Env}(p:PreS X i σ H env G Xe):Pre X i σ H env G (Xe env) :=
 ⟨p.en,p.hp,λÂ σ H0 s H' a cls s' I f ⟨c,G',ad,q1,q2,q3,q4⟩=>p.xo Â σ H0 s H' a cls s' I f ⟨env,c,G',ad,q1,q2,q3,q4⟩⟩
structure EOk(i:Inf)(H:Hp)(D:Ends)(N:O.NQ)(R:O.Q1)(B C:O.NQ):Prop where
 nx:∀Ń ř G' H',fo H H'->RH i G' H'->REn i.K H' Ń ř->N Ń G'->D.nx ř H'
 rt:∀v G' H' x,fo H H'->RH i G' H'->RV i.K H' v x->R v G'->D.rt x H'
 bk:∀Ń ř G' H',fo H H'->RH i G' H'->REn i.K H' Ń ř->B Ń G'->D.bk ř H'
 ct:∀Ń ř G' H',fo H H'->RH i G' H'->REn i.K H' Ń ř->C Ń G'->D.ct ř H'
def EOk.go{D:Ends}{N:O.NQ}{R:O.Q1}{B C:O.NQ}(e:EOk i H D N R B C)(k:fo H H1):EOk i H1 D N R B C :=
 ⟨λa b c d k'=>e.nx a b c d<|k.trans k',λa b c d k'=>e.rt a b c d<|k.trans k',λa b c d k'=>e.bk a b c d<|k.trans k',λa b c d k'=>e.ct a b c d<|k.trans k'⟩
inductive tStx (X:Cx) (i:Inf) (Φ:O.Fs) (m:O.S) (D:Ends) (σ:St) (H:Hp):Prop
 |mk (env:O.Env) (G:O.Hs) (N:O.NQ) (R:O.Q1) (B C:O.NQ) (Xe:O.EQ) (p:PreS X i σ H env G Xe) (w:O.wS Φ m env G N R B C Xe) (e:EOk i H D N R B C)
abbrev tSt(X:Cx)(i:Inf)(Φ:O.Fs)(m:O.S):TS:=tStx X i Φ m
inductive tBlx (X:Cx) (i:Inf) (Φ:O.Fs) (m:O.Ss) (D:Ends) (σ:St) (H:Hp):Prop
 |mk (env:O.Env) (G:O.Hs) (N:O.NQ) (R:O.Q1) (B C:O.NQ) (Xe:O.EQ) (p:PreS X i σ H env G Xe) (w:O.wSs Φ m env G N R B C Xe) (e:EOk i H D N R B C)
abbrev tBl(X:Cx)(i:Inf)(Φ:O.Fs)(m:O.Ss):TS:=tBlx X i Φ m
variable {st:ľ} {t':TS}
def _root_.L2.PS.imp{t:TS}(h:PS X st t)(f:∀D σ H,t' D σ H->t D σ H):PS X st t':=λÂ s σ H D I q=>h Â s σ H D I (f D σ H q)
def _root_.L2.PSs.imp{st:List ľ}{t:TS}(h:PSs X st t)(f:∀D σ H,t' D σ H->t D σ H):PSs X st t':=λÂ s σ H D I q=>h Â s σ H D I (f D σ H q)
def LJ:PSs X []<|tBl X i Φ .nil:=pss_nil.imp λD σ H ⟨env,G,N,R,B,C,Xe,p,w,c⟩=>by exact c.nx env σ G H (fo.refl H) p.hp p.en w
def EY{sts:List ľ}{m:O.S}{ms:O.Ss}(h1:PS X st<|tSt X i Φ m)(h2:PSs X sts<|tBl X i Φ ms):PSs X (st::sts) (tBl X i Φ<|.cons m ms) :=
 (CF h1 h2).imp λD σ H ⟨env,G,N,R,B,C,Xe,p,w,c⟩=>by exact⟨env,G,_,R,B,C,Xe,p,w,⟨λŃ ř G' H' k g e w'=>⟨Ń,G',N,R,B,C,Xe,p.go k g e,w',c.go k⟩,c.rt,c.bk,c.ct⟩⟩
variable {m:O.E}
def LN(he:PE X e<|tE X i Φ m):PS X (.Return (eL e) ë) (tSt X i Φ<|.ret m) :=
 (Li he).imp λD σ H ⟨env,G,N,R,B,C,Xe,p,w,c⟩=>by exact⟨env,G,R,Xe env,p.pre,w,c.rt⟩
def FK:PS X (.Return eM ë) (tSt X i Φ .retN) :=
 ps_retN.imp λD σ H ⟨env,G,N,R,B,C,Xe,p,w,c⟩=>by exact c.rt _ G H _ (fo.refl H) p.hp .non w
def FZ(he:PE X e<|tE X i Φ m)(hs:ż e eM ë.line X.env=pure eP):PS X (.Expr e ë) (tSt X i Φ<|.expr m) :=
 (Fv he hs).imp λD σ H ⟨env,G,N,R,B,C,Xe,p,w,c⟩=>by exact⟨env,G,_,Xe env,p.pre,w,λv G1 H1 x k1 g1 r1 w1=>c.nx env σ G1 H1 k1 g1 (p.en.keep k1) w1⟩
def Ld{t:Expr}{a b:List ľ}{mt:O.Tt}{ma mb:O.Ss}(ht:PT X t<|tTt X i Φ mt)(ha:PSs X a<|tBl X i Φ ma)(hb:PSs X b<|tBl X i Φ mb):PS X (.If t a b ë) (tSt X i Φ<|.ite mt ma mb) :=
 (PX ht ha hb).imp λD σ H ⟨env,G,N,R,B,C,Xe,p,w,c⟩=>by
  refine⟨env,G,_,Xe env,p.pre,w,λd G1 H1 k1 g1 q=>?_⟩;cases d with
  |true=>exact⟨env,G1,N,R,B,C,Xe,p.go k1 g1<|p.en.keep k1,⇑q,c.go k1⟩
  |false=>exact⟨env,G1,N,R,B,C,Xe,p.go k1 g1<|p.en.keep k1,⇑q,c.go k1⟩
abbrev gPt(i:Inf)(p:O.Pt):TG:=λx σ H Q=>∃v env G ŗ,RV i.K H v x/\RH i G H/\REn i.K H env σ/\O.bind p G v env=eL ŗ/\∀σ2,REn i.K H ŗ σ2->Q σ2 H
variable {tg:Expr}
def _root_.L2.PG.imp{t t':TG}(h:PG X tg t)(f:∀v σ H Q,t' v σ H Q->t v σ H Q):PG X tg t':=λÂ s σ H v u Q I r q=>h Â s σ H v u Q I r (f v σ H Q q)
def _root_.L2.PGs.imp{tg:List Expr}{t t':TGs}(h:PGs X tg t)(f:∀v σ H Q,t' v σ H Q->t v σ H Q):PGs X tg t':=λÂ s σ H v u Q I r q=>h Â s σ H v u Q I r (f v σ H Q q)
variable {x:Str} {j:Nat}
def Ov(hN:X.N.Nodup)(hi:X.N[j]?=eL x)(hx:Loc X.env.scope x)(hf:X.fn x=eN\/X.env.scope.names.lookup x=eL .local):PG X (.Name x ë) (gPt i<|.one j) :=
 (U2 hN hi hx hf).imp λv σ H Q ⟨u,env,G,ŗ,r,g,e,b,h⟩=>by cases b;exact h _<|e.set r j
abbrev BL(i:Inf)(js:List Nat):TGs:=λxs σ H Q=>∃vs env ŗ,RVs i.K H vs xs/\REn i.K H env σ/\O.bindL js vs env=eL ŗ/\∀σ2,REn i.K H ŗ σ2->Q σ2 H
def EU:PGs X []<|BL i []:=pgs_nil.imp λxs σ H Q ⟨vs,env,ŗ,r,e,b,h⟩=>by
 cases vs with
 |nil=>cases r;cases b;exact⟨rfl,h _ e⟩
 |cons _ _=>cases b
variable {js:List Nat}
def CL(hN:X.N.Nodup)(hi:X.N[j]?=eL x)(hx:Loc X.env.scope x)(hf:X.fn x=eN\/X.env.scope.names.lookup x=eL .local)(h2:PGs X es<|BL i js)
  (hs:(Ĝ (.Name x ë::es) X.env).map (·.2)=ξ (.Name x ë) X.env::(Ĝ es X.env).map (·.2)):PGs X (.Name x ë::es) (BL i<|j::js) :=
 (JV (U2 hN hi hx hf) h2 hs).imp λxs σ H Q ⟨vs,env,ŗ,r,e,b,h⟩=>by
  cases vs with
  |nil=>cases b
  |cons v vs =>
   cases r with
   |cons r t=>exact⟨_,_,rfl,vs,env.set j<|eL v,ŗ,t,e.set r j,b,h⟩
def KA:∀{js:List Nat}{vs:List O.Val}{env ŗ:O.Env},O.bindL js vs env=eL ŗ->vs.length=js.length
 |[],[],_,_,_=>rfl
 |j::js,v::vs,env,_,h=>by rw[Ï,Ï,KA<|show O.bindL js vs (env.set j<|eL v)=_ from h]
 |[],_::_,_,_,h=>by cases h
 |_::_,[],_,_,h=>by cases h
def UW{k:Nat}(hK:X.K=i.K)(hc:X.calm=eN)(h:PGs X es<|BL i js)(hn:(Ĝ es X.env).length=js.length)(Ž:(Ĝ es X.env).findIdx? (·.1)=eM):PG X (.Tuple es k ë) (gPt i<|.many js) :=
 (B5 (n:=js.length) hc h hn Ž).imp λv σ H Q ⟨u,env,G,ŗ,r,g,e,b,h⟩=>by
  cases u with
  |tup vs =>
   have b:O.bindL js vs env=eL ŗ:=b;cases r with
   |tup hp hr=>exact⟨_,_,rfl,by rw[hK];exact Zl hp,by rw[<-hr.length];exact KA b,vs,env,ŗ,hr,e,b,h⟩
  |_=>cases b
def FY{k k2:Nat}{p1 p2:Pos}(hK:X.K=i.K)(hc:X.calm=eN)(h1:PG X (.Name x p1)<|gPt i<|.one j)(h2:PG X (.Tuple es k2 p2)<|gPt i<|.many js):PG X (.Tuple [.Name x p1,.Tuple es k2 p2] k ë) (gPt i<|.nest j js) :=
 (B5 (n:=2) hc (JV h1 (JV h2 pgs_nil rfl) rfl) rfl rfl).imp λv σ H Q ⟨u,env,G,ŗ,r,g,e,b,h⟩=>by
  cases u with
  |tup vs =>
   cases vs with
   |nil=>cases b
   |cons x0 vs=>cases vs with
    |nil=>cases b
    |cons y vs=>cases vs with
     |cons _ _=>cases b
     |nil =>
      have b:(O.tupOf y).bind (λys=>O.bindL js ys<|env.set j<|eL x0)=eL ŗ:=b;cases r with
      |tup hp hr =>
       cases hr with
       |cons r0 t=>cases t with
        |cons r1 t =>cases t;exact⟨_,_,rfl,by rw[hK];exact Zl hp,rfl,_,_,rfl,x0,env,G,_,r0,g,e,rfl,λσ2 e2=>⟨_,_,rfl,y,_,G,ŗ,r1,g,e2,b,λbz e3=>⟨rfl,h bz e3⟩⟩⟩
  |_=>cases b
def Pm{q:O.Pt}(he:PE X e<|tE X i Φ m)(hg:PG X tg<|gPt i q)(hs:ώ [tg] e ë.line X.env=pure eP)(hw:Ϗ [tg] e X.env=pure eM)
  (h1:(Ĝ [tg] X.env).map (·.2)=[ξ tg X.env]):PS X (.Assign [tg] e ë) (tSt X i Φ<|.set q m) :=
 (Ea he hg hs hw h1).imp λD σ H ⟨env,G,N,R,B,C,Xe,p,w,c⟩=>by refine⟨env,G,_,Xe env,p.pre,w,λv G1 H1 x k1 g1 r1 w1=>?_⟩;let⟨ŗ,e2,w1⟩:=eU w1;exact⟨v,env,G1,ŗ,r1,g1,p.en.keep k1,e2,λσ2 h2=>c.nx ŗ σ2 G1 H1 k1 g1 h2 w1⟩
abbrev CQ:V->V->V->Hp->(Hp->Prop)->Prop:=λo y v H Q=>Hz o y v H Q\/HL o y v H Q
def D5{G G3:O.Hs}{H:Hp}{o k v:O.Val}{y z x:V}{Q:Hp->Prop}(g:RH i G H)(ry:RV i.K H o y)(rz:RV i.K H k z)(rx:RV i.K H v x)(e:O.fK G o k v=eL G3)(c:∀H3,fo H H3->RH i G3 H3->Q H3):CQ y z x H Q:=by
 cases o with
 |ref b =>
  cases ry.ref_inv
  replace e:(match G b with|some (.lst xs)=>(O.gg k).bind λn=>(O.ixN xs.length n).map λj=>O.upd G b (.lst<|xs.set j v)|some (.dct kvs)=>if O.fj k/\kvs.length<O.lim then eL (O.upd G b<|.dct<|O.fv kvs k v)else eM|some (.dtp kvs)=>if O.isKeyT k/\kvs.length<O.lim then eL (O.upd G b<|.dtp<|O.fv kvs k v)else eM|_=>eM)=eL G3:=e
  cases z4:G b with
  |none=>rw[z4]at e;cases e
  |some o =>
   rw[z4]at e;cases o with
   |lst xs =>let⟨n,hn,e⟩:=ì.mp e;let⟨jj,hj,rfl⟩:=Ë.mp e;cases ZB hn;cases rz.int_inv;let⟨vs,h2,r2⟩:=g b _ z4;rw[MI,r2.length]at hj;let⟨k3,g3⟩:=WL (xs:=xs) g h2 (xs.set jj v) (vs.set jj x)<|r2.set rx jj;exact .inl ⟨b,vs,n,jj,rfl,rfl,h2,hj,c _ k3 g3⟩
   |dct kvs =>let⟨hk,e⟩:=Zn (show(if O.fj k/\kvs.length<O.lim then eL (O.upd G b<|.dct<|O.fv kvs k v)else eM)=eL G3 from e);cases e;let⟨ps,h2,r2⟩:=g b _ z4;let⟨d,kr,rfl⟩:=fg hk.1 rz;let⟨k3,g3⟩:=M7 (kvs:=kvs) g h2<|r2.put kr rx;exact .inr ⟨b,_,rfl,DPut.k h2 (by rw[<-RKs.length r2];exact ä hk.2 ZH),c _ k3 g3⟩
   |dtp kvs =>let⟨hk,e⟩:=Zn (show(if O.isKeyT k/\kvs.length<O.lim then eL (O.upd G b<|.dtp<|O.fv kvs k v)else eM)=eL G3 from e);cases e;let⟨ps,h2,r2⟩:=g b _ z4;let⟨a1,a2,d,rfl,rfl,hd⟩:=WJ hk.1 rz;let⟨k3,g3⟩:=ER g h2<|r2.put (i:=a1) (j:=a2) rx;exact .inr ⟨b,_,rfl,DPut.t h2 hd (by rw[<-RTs.length r2];exact ä hk.2 ZH),c _ k3 g3⟩
   |_=>cases e
 |_=>cases e
def Bn{a j:Expr}{ma mj:O.E}{Ϝ:Pos}(hK:X.K=i.K)(he:PE X e<|tE X i Φ m)(ha:PE X a<|tE X i Φ ma)(hj:PE X j<|tE X i Φ mj)(hgl:PG X (.Subscript a j Ϝ)<|Rc (tE X i Φ ma) (tE X i Φ mj) CQ)(hs:ώ [.Subscript a j Ϝ] e ë.line X.env=pure eP)(hw:Ϗ [.Subscript a j Ϝ] e X.env=pure eM)
  (h1:(Ĝ [.Subscript a j Ϝ] X.env).map (·.2)=[ξ (.Subscript a j Ϝ) X.env]):PS X (.Assign [.Subscript a j Ϝ] e ë) (tSt X i Φ<|.setIdx ma mj m) :=
 (Ea he hgl hs hw h1).imp λD σ H ⟨env,G,N,R,B,C,Xe,p,w,c⟩=>by refine⟨env,G,_,Xe env,p.pre,w,λv G1 H1 x k1 g1 r1 w1=>?_⟩;refine two (p.go k1 g1<|p.en.keep k1).pre w1 λo k G2 H2 y z k2 p2 ry rz q=>?_;let⟨G3,e3,q⟩:=eU q;exact D5 p2.hp ry rz (r1.keep k2) e3 λH3 k3 g3=>c.nx env σ _ _ ((k1.trans k2).trans k3) g3 (p2.en.keep k3) q
structure ItOk(i:Inf)(H0:Hp)(J:It)(st:O.Hs->Prop)(xs:List O.Val):Prop where
 go:∀n G H v,fo H0 H->RH i G H->st G->xs[n]?=eL v->J.go n H/\∀x H',J.yld n H x H'->fo H H'/\RH i G H'/\RV i.K H' v x
 stop:∀n G H,fo H0 H->RH i G H->st G->xs.length<=n->J.stop n H
abbrev tIt(X:Cx)(i:Inf)(Φ:O.Fs)(m:O.It):TI:=λσ H R=>∃env G QI Em,Pre X i σ H env G Em/\O.wI Φ m env G QI Em/\∀st xs G' H' J,fo H H'->RH i G' H'->ItOk i H' J st xs->QI st xs G'->R J H'
variable {tg:Expr} {e:Expr}
def _root_.L2.PI.imp{t t':TI}(h:PI X tg e t)(f:∀σ H Q,t' σ H Q->t σ H Q):PI X tg e t':=λÂ s σ H Q I q=>h Â s σ H Q I (f σ H Q q)
abbrev R4(K:Frag)(tl:TE):TI:=λσ H R=>tl σ H λx H1=>∃a,x=.ref a/\(((∃xs,fY K H1 a xs)/\R (Itl K a) H1)\/((∃xs,fZ K H1 a xs)/\R (Itt K a) H1))
def L0{l:Expr}{tl:TE}(hl:PE X l tl):PI X tg l<|R4 X.K tl:=by
 intro Â s σ H R I h;refine thn (hl Â s σ H _ I h) λv s1 ⟨x,H1,I1,r1,q1⟩=>?_;let⟨a,e,q1⟩:=q1;subst e;cases r1;rcases q1 with⟨⟨xs,hq⟩,q⟩|⟨⟨xs,hq⟩,q⟩
 .obtain⟨ø,rv,p,hz⟩:=I1.list hq;refine ϋ p.isList ?_;refine⟨s1.heap.objs.size,[s1.heap.objs.size],_,_,H1,rfl,I1.kept (t':=s1.toks) λb o e=>Ä _ e,Bz a _,⟨_,Ô _ rfl,rfl,rfl⟩,λb hb=>?_,q⟩;have e:b=s1.heap.objs.size:=⇑hb
  subst e;exact I1.fpOk (Ì _)<|I1.hok.fresh<|Ì _
 .obtain⟨ø,rv,p,hz⟩:=I1.tuple hq;refine aB (show s1.heap.IsTuple a ø.toArray from p) ?_;refine⟨s1.heap.objs.size,[s1.heap.objs.size],_,_,H1,rfl,I1.kept (t':=s1.toks) λb o e=>Ä _ e,OX a _,⟨_,Ô _ rfl,rfl,rfl⟩,λb hb=>?_,q⟩;have e:b=s1.heap.objs.size:=⇑hb
  subst e;exact I1.fpOk (Ì _)<|I1.hok.fresh<|Ì _
variable {H0:Hp} {a:Í} {xs:List O.Val}
def it_lst:ItOk i H0 (Itl i.K a) (λg=>O.fe (g a)=eL xs) xs where
 go:=λn G H v _ g e hv=>by let⟨vs,h1,h2⟩:=ZG g e;let⟨x,h3,h4⟩:=h2.get hv;refine⟨⟨vs,x,h1,h3⟩,λy H' ⟨e1,e2⟩=>?_⟩;subst e1;have:=e2 vs h1;rw[h3]at this;cases this;exact⟨fo.refl _,g,h4⟩
 stop:=λn G H _ g e hn=>by let⟨vs,h1,h2⟩:=ZG g e;exact⟨vs,h1,by rw[<-h2.length];exact hn⟩
def it_tup{vs:List V}(hp:H0 a=eL (.tup vs)\/KT i.K a vs)(hr:RVs i.K H0 xs vs):ItOk i H0 (Itt i.K a) (λ_=>True) xs where
 go:=λn G H v k g e hv=>by have hp':H a=eL (.tup vs)\/KT i.K a vs:=hp.imp (k.t _ _) id;let⟨x,h3,h4⟩:=(hr.keep k).get hv;refine⟨⟨vs,x,Zl hp',h3⟩,λy H' ⟨e1,e2⟩=>?_⟩;subst e1;have:=e2 vs<|Zl hp';rw[h3]at this;cases this;exact⟨fo.refl _,g,h4⟩
 stop:=λn G H k g e hn=>by have hp':H a=eL (.tup vs)\/KT i.K a vs:=hp.imp (k.t _ _) id;exact⟨vs,Zl hp',by rw[<-hr.length];exact hn⟩
def it_scr{ns:List Int}(h:(∃o,H0 a=eL (.frz o<|.lst<|ns.map V.int))\/KL i.K a (ns.map V.int)):ItOk i H0 (Itl i.K a) (λ_=>True) (ns.map .int) where
 go:=λn G H v k g e hv=>by have h':fY i.K H a<|ns.map V.int:=Z3<|h.imp (λ⟨o,e⟩=>⟨o,k.f _ _ _ e⟩) id;let⟨x,h3,h4⟩:=(RVs.ints (K:=i.K) (H:=H) ns).get hv;refine⟨⟨_,x,h',h3⟩,λy H' ⟨e1,e2⟩=>?_⟩;subst e1;have:=e2 _ h';rw[h3]at this;cases this;exact⟨fo.refl _,g,h4⟩
 stop:=λn G H k g e hn=>⟨_,Z3<|h.imp (λ⟨o,e⟩=>⟨o,k.f _ _ _ e⟩) id,⇑hn⟩
def Ez{lo hi:Int}{n:Nat}(hn:n=(hi - lo).toNat):ItOk i H0 (Itr lo n) (λ_=>True) (O.fA lo hi) where
 go:=λk G H v _ g _ hv=>by
  unfold O.fA at hv;rw[Ø]at hv;have hk:k<(hi - lo).toNat:=by
   by_cases h:k<(hi - lo).toNat
   .exact h
   .rw[ļ<|by simpa using h]at hv;cases hv
  rw[List.getElem?_range hk]at hv;cases hv;refine⟨by rw[hn];exact hk,λx H' ⟨e1,e2⟩=>?_⟩;subst e1 e2;exact⟨fo.refl _,g,.int _⟩
 stop:=λk G H _ g _ hk=>by unfold O.fA at hk;show n<=k;simp at hk;lia
variable {m:O.E}
def LD(hK:X.K=i.K)(he:PE X e<|tE X i Φ m):PI X tg e (tIt X i Φ<|.seq m) :=
 (L0 he).imp λσ H R ⟨env,G,QI,Em,p,w,c⟩=>by
  refine one p w λv G1 H1 x k1 p1 r q=>?_;let⟨⟨st,xs⟩,e1,q2⟩:=eU q;clear q;rw[hK];cases v with
  |tup ys =>
   cases e1;cases r with
   |tup hp hr=>exact⟨_,rfl,.inr ⟨⟨_,Zl hp⟩,c _ _ G1 H1 _ k1 p1.hp (it_tup hp hr) q2⟩⟩
  |scr ns =>
   cases e1;cases r with
   |scr h=>exact⟨_,rfl,.inl ⟨⟨_,Z3 h⟩,c _ _ G1 H1 _ k1 p1.hp (it_scr h) q2⟩⟩
  |ref a =>
   cases r.ref_inv;simp only[O.itV]at e1;cases z:O.fe (G1 a)with
   |none=>rw[z]at e1;cases e1
   |some ys =>rw[z]at e1;cases e1;let⟨vs,h1,h2⟩:=ZG p1.hp z;exact⟨a,rfl,.inl ⟨⟨vs,h1⟩,c _ _ G1 H1 _ k1 p1.hp it_lst q2⟩⟩
  |_=>cases e1
variable {p:Pos} {ë:Pos}
def Dq{a:Expr}(hg:Gl X "range")(hm:X.mg "range" = eM)(ha:PE X a<|tE X i Φ m)(hs:Ü [a] X.env=[(eP,eval a X.env)]):PI X tg (.Call (.Name "range" p) [a] [] ë) (tIt X i Φ<|.range m) :=
 (A6 hg hm (ZQ ha fW<|by rw[hs];rfl) hs).imp λσ H R ⟨env,G,QI,Em,p,w,c⟩=>by refine one p w λv G1 H1 x k1 p1 r q=>?_;let⟨n,e1,q2⟩:=eU q;clear q;cases ZB e1;cases r.int_inv;exact⟨n,rfl,q2.1.1,q2.1.2,c _ _ G1 H1 _ k1 p1.hp (Ez<|by rw[Int.sub_zero]) q2.2⟩
def AU{a b:Expr}{ma mb:O.E}(hg:Gl X "range")(hm:X.mg "range" = eM)(ha:PE X a<|tE X i Φ ma)(hb:PE X b<|tE X i Φ mb)(hs:Ü [a,b] X.env=[(eP,eval a X.env),(eP,eval b X.env)])(hs1:Ü [b] X.env=[(eP,eval b X.env)]) :
  PI X tg (.Call (.Name "range" p) [a,b] [] ë) (tIt X i Φ<|.range2 ma mb) :=
 (Ba hg hm (ZQ ha (ZQ hb fW<|by rw[hs1];rfl)<|by rw[hs,hs1]) hs hs1).imp λσ H R ⟨env,G,QI,Em,p,w,c⟩=>by refine two p w λv u G1 H1 x y k1 p1 rx ry q=>?_;let⟨n,e1,q1⟩:=eU q;let⟨m,e2,q2⟩:=eU q1;clear q q1;cases ZB e1;cases ZB e2;cases rx.int_inv;cases ry.int_inv;exact⟨n,m,rfl,q2.1,c _ _ G1 H1 _ k1 p1.hp (Ez rfl) q2.2⟩
variable {body:List ľ} {mb:O.Ss}
def LV{Ų:Expr}{q:O.Pt}{mi:O.It}(hp:Κ (à X.prog X.w) X.A X.env X.xe)(hc:X.calm=eN)(hi:PI X tg Ų<|tIt X i Φ mi)(hg:PG X tg<|gPt i q)(hb:PSs X body<|tBl X i Φ mb)
  (hs:∀x,ė Ų X.env x=pure x):PS X (.For tg Ų body [] ë) (tSt X i Φ<|.for q mi mb) :=
 (B6 hp hc hi hg hb hs).imp λD σ H ⟨env,G,N,R,B,C,Xe,p,w,c⟩=>by
  refine⟨env,G,_,Xe env,p.pre,w,λst xs G1 H1 J k1 g1 it w1=>?_⟩;refine⟨λn m ř H'=>n+m=xs.length/\∃Ń G',fo H1 H'/\RH i G' H'/\REn i.K H' Ń ř/\O.wFor st (λv e g K M=>O.go (O.bind q g v e) λe2=>O.wSs Φ mb e2 g K R M K Xe) N (xs.drop n) Ń G',⟨xs.length,by lia,env,G1,fo.refl _,g1,p.en.keep k1,⇑w1⟩,?_⟩;rintro n m ř H' ⟨hnm,Ń,G',k2,g2,e2,w2⟩;by_cases hn:n<xs.length
  .right;have hd:xs.drop n=xs[n]::xs.drop (n+1):=Θ hn;rw[hd]at w2;let⟨s2,w2⟩:=w2;have hv:xs[n]?=eL xs[n]:=É hn;let⟨a1,a2⟩:=it.go n G' H' xs[n] k2 g2 s2 hv;refine⟨a1,λbz H3=>∃env3 G3,fo H1 H3/\RH i G3 H3/\REn i.K H3 env3 bz/\O.wFor st (λv e g K M=>O.go (O.bind q g v e) λe2=>O.wSs Φ mb e2 g K R M K Xe) N (xs.drop<|n+1) env3 G3,λbz H3 h=>⟨m - 1,by lia,by lia,h⟩,λx H3 hy=>?_⟩;let⟨k3,g3,r3⟩:=a2 x H3 hy;let⟨cO,e4,w4⟩:=eU w2;refine⟨xs[n],Ń,G',cO,r3,g3,e2.keep k3,e4,λσ4 h4=>?_⟩;have kk:fo H H3:=(k1.trans k2).trans k3;refine⟨cO,G',_,R,N,_,Xe,p.go kk g3 h4,w4,⟨λbb σ5 G5 H5 k5 g5 e5 w5=>?_,(c.go kk).rt,(c.go kk).nx,λbb σ5 G5 H5 k5 g5 e5 w5=>?_⟩⟩
   .exact⟨bb,G5,(k2.trans k3).trans k5,g5,e5,w5⟩
   .exact⟨bb,G5,(k2.trans k3).trans k5,g5,e5,w5⟩
  .left;have hd:xs.drop n=[]:=Ŕ (by lia);rw[hd]at w2;exact⟨it.stop n G' H' k2 g2 w2.1 (by lia),c.nx Ń ř G' H' (k1.trans k2) g2 e2 w2.2⟩
def Lr{t:Expr}{mt:O.Tt}(hp:Κ (à X.prog X.w) X.A X.env X.xe)(ht:PT X t<|tTt X i Φ mt)(hb:PSs X body<|tBl X i Φ mb):PS X (.While t body [] ë) (tSt X i Φ<|.whl mt mb) :=
 (CJ hp ht hb).imp λD σ H ⟨env,G,N,R,B,C,Xe,p,w,c⟩=>by
  let⟨n,w⟩:=w;refine⟨λm ř H'=>∃Ń G',fo H H'/\RH i G' H'/\REn i.K H' Ń ř/\O.wWhile (λe g K=>O.wT Φ mt e g K<|Xe e) (λe g K M=>O.wSs Φ mb e g K R M K Xe) N m Ń G',⟨n,env,G,fo.refl H,p.hp,p.en,w⟩,?_⟩;rintro m ř H' ⟨Ń,G',k1,g1,e1,w1⟩;cases m with
  |zero=>cases w1
  |succ m =>
   have w1:O.wT Φ mt Ń G' _<|Xe Ń:=w1;have p1:=p.go k1 g1 e1;refine⟨Ń,G',_,Xe Ń,p1.pre,w1,λd G2 H2 k2 g2 q=>?_⟩;cases d with
   |true =>refine⟨λbz H3=>∃env3 G3,fo H H3/\RH i G3 H3/\REn i.K H3 env3 bz/\O.wWhile (λe g K=>O.wT Φ mt e g K<|Xe e) (λe g K M=>O.wSs Φ mb e g K R M K Xe) N m env3 G3,λbz H3 h=>⟨m,Ě _,h⟩,?_⟩;have kk:=k1.trans k2;refine⟨Ń,G2,_,R,N,_,Xe,p.go kk g2<|e1.keep k2,⇑q,⟨λbb σ5 G5 H5 k5 g5 e5 w5=>⟨bb,G5,kk.trans k5,g5,e5,w5⟩,(c.go kk).rt,(c.go kk).nx,λbb σ5 G5 H5 k5 g5 e5 w5=>⟨bb,G5,kk.trans k5,g5,e5,w5⟩⟩⟩
   |false=>exact c.nx Ń ř G2 H2 (k1.trans k2) g2 (e1.keep k2) ⇑q
def Ib:MO i .len λxs H Q=>((∃p ys,xs=[.ref p]/\(fY i.K H p ys\/fZ i.K H p ys)/\Q (.int ys.length) H)\/∃z,xs=[.str z]/\z.length<=ß/\Q (.int z.length) H)\/∃a kvs,xs=[V.ref a]/\H a=eL (.dK kvs)/\Q (.int kvs.length) H:=by
 intro vs G H xs Q Qm g r w c;let⟨v,rfl,w⟩:=Wv w;let⟨x,rfl,rx⟩:=r.inv1;cases v with
 |ref a =>
  cases rx.ref_inv
  replace w:(match G a with|some (.lst xs)=>.val (.int xs.length)|some (.dct kvs)=>.val (.int kvs.length)|_=>.no:O.Rs).wp G Qm:=w
  cases z:G a with
  |none=>rw[z]at w;exact(Zi w).elim
  |some o =>
   rw[z]at w;cases o with
   |lst ys =>let⟨us,h1,h2⟩:=g a _ z;refine .inl<|.inl ⟨a,us,rfl,.inl<|fY.of h1,?_⟩;rw[<-h2.length];exact c _ G H _ (fo.refl H) g (.int _)<|Zm w
   |dct kvs =>let⟨ps,h1,h2⟩:=g a _ z;refine .inr ⟨a,ps,rfl,h1,?_⟩;rw[<-h2.length];exact c _ G H _ (fo.refl H) g (.int _)<|Zm w
   |_=>exact(Zi w).elim
 |tup ys =>
  cases rx with
  |tup hp hr =>refine .inl<|.inl ⟨_,_,rfl,.inr<|Zl hp,?_⟩;rw[<-hr.length];exact c _ G H _ (fo.refl H) g (.int _)<|Zm w
 |scr ns =>
  cases rx with
  |scr h =>refine .inl<|.inl ⟨_,_,rfl,.inl<|Z3 h,?_⟩;rw[Á];exact c _ G H _ (fo.refl H) g (.int _)<|Zm w
 |str s =>cases rx.str_inv;let⟨hl,w⟩:=X1 w;refine .inl (.inr ⟨_,rfl,by rw[Zx];exact Ý hl ZH,?_⟩);rw[Zx];exact c _ G H _ (fo.refl H) g (.int _)<|Zm w
 |_=>exact(Zi w).elim
def Fp:MO i .list λxs H Q=>∃p ys,xs=[.ref p]/\(fY i.K H p ys\/fZ i.K H p ys)/\∀l,H l=eM->Q (.ref l) (upd H l<|.lst ys):=by
 intro vs G H xs Q Qm g r w c;let⟨v,rfl,w⟩:=Wv w;let⟨x,rfl,rx⟩:=r.inv1;cases v with
 |ref a =>cases rx.ref_inv;let⟨ys,e,w⟩:=NH (f:=λxs=>.new<|.lst xs) w;let⟨us,h1,h2⟩:=g a _ e;exact⟨a,us,rfl,.inl<|fY.of h1,Yg g (Ng w) c λp hp=>⟨_,eR,h2.keep<|fo.new hp⟩⟩
 |tup ys =>
  cases rx with
  |tup hp hr=>exact⟨_,_,rfl,.inr<|Zl hp,Yg g (Ng w) c λp hp=>⟨_,eR,hr.keep<|fo.new hp⟩⟩
 |_=>exact(Zi w).elim
variable {H:Hp}
def A1{K:Frag}:∀{xs:List O.Val}{bs:List Bool}{vs:List V},O.blsOf xs=eL bs->RVs K H xs vs->vs=bs.map V.bl:=by
 intro xs;induction xs with
 |nil=>intro bs vs e r;cases e;cases r;rfl
 |cons v xs ih =>
  intro bs vs e r;cases v<;>first|(cases e;done)|skip
  case bl b =>
  simp only[O.blsOf]at e;cases z:O.blsOf xs with
  |none=>rw[z]at e;cases e
  |some ns=>rw[z]at e;cases e;cases r with|cons a t=>cases a.bl_inv;rw[ih z t];rfl
def LP{o:Option O.Val}{h:O.Hs}{Q:O.Q1}(w:(O.Rs.ofO o).wp h Q):∃v,o=eL v/\Q v h:=by
 cases o with
 |none=>exact(Zi w).elim
 |some v=>exact⟨v,rfl,Zm w⟩
def Pk:MO i .all λxs H Q=>∃p,∃bs:List Bool,xs=[.ref p]/\fY i.K H p (bs.map V.bl)/\Q (.bl<|bs.all id) H:=by
 intro vs G H xs Q Qm g r w c;let⟨v,rfl,w⟩:=Wv w;let⟨x,rfl,rx⟩:=r.inv1;cases v with
 |ref a =>cases rx.ref_inv;let⟨v,e,w⟩:=LP w;let⟨ys,z,e⟩:=ì.mp e;let⟨bs,z2,rfl⟩:=Ë.mp e;let⟨us,h1,h2⟩:=ZG g z;have:=A1 z2 h2;subst this;exact⟨a,bs,rfl,h1,c _ G H _ (fo.refl H) g (.bl _) w⟩
 |_=>exact(Zi w).elim
set_option exponentiation.threshold 2000 in
def Ln{k:Int}(h:k.natAbs<10 ^ 200):k.natAbs.log2<1920:=by
 have e:(10:Nat) ^ 200<2 ^ 1920:=by decide
 by_cases h0:k.natAbs=0
 .rw[h0];decide
 .exact(Nat.log2_lt h0).mpr<|ź h e
def EE(ds:List O.D)(d:O.D):(toDs ds).any (λe=>ĩ e<|toD d)=ds.any λe=>O.D.eqv e d:=by
 induction ds with
 |nil=>rfl
 |cons e es ih=>simp only[toDs,ķ,ih,M5]
variable {G:O.Hs} {y:V} {ys:List O.Val}
def UN(g:RH i G H){v u:O.Val}{x:V}{c:Bool}(rx:RV i.K H v x)(e:O.inL G v ys=eL c)(hy:∀ds,ys.mapM (O.dat G<|O.deep - 1)=eL ds->IsD i.K H y (.tuple<|toDs ds)\/IsD i.K H y (.list<|toDs ds)) :
  ∃ds d,(IsD i.K H y (.tuple ds)\/IsD i.K H y (.list ds))/\IsD i.K H x d/\Ŗ ds=eN/\d.canLay0=eN/\d.depth<=64/\ds.any (λe=>ĩ e d)=c:=by
 unfold O.inL at e;cases z:O.dat G O.deep v with
 |none=>rw[z]at e;cases e
 |some d =>
  rw[z]at e;simp only[ý]at e;cases z2:ys.mapM (O.dat G<|O.deep - 1)with
  |none=>rw[z2]at e;cases e
  |some ds =>rw[z2]at e;cases e;exact⟨_,_,hy ds z2,Wg g _ _ _ _ z rx,toDs_lay ds,M6 d,Ý (Kv _ _ _ z) (by decide),EE ds d⟩
def UA(g:RH i G H){u:O.Val}(ry:RV i.K H u y)(hu:u=.tup ys\/∃a,u=.ref a/\O.fe (G a)=eL ys):∀ds,ys.mapM (O.dat G<|O.deep - 1)=eL ds->IsD i.K H y (.tuple<|toDs ds)\/IsD i.K H y (.list<|toDs ds):=by
 intro ds hd;rcases hu with rfl|⟨a,rfl,hl⟩
 .left;have:=Wg g O.deep (.tup ys) (.tup ds) y (by show Option.map _ (List.mapM (O.dat G<|O.deep - 1) ys)=_;rw[hd];rfl) ry;simpa[toD]using this
 .right;have:=Wg g O.deep (.ref a) (.lst ds) y (by show(O.fe<|G a).bind _=_;rw[hl];show Option.map _ (List.mapM (O.dat G<|O.deep - 1) ys)=_;rw[hd];rfl) ry;simpa[toD]using this
def PB(s t:String)(c:Char)(h:O.oneC s=eL c):(!(Builtin.Str.occurrences (gC t) (gC s) 0 (gC t).length 1).isEmpty)=gB (c∈t.toList):=by
 have e:gC s=⟨#[c.toNat]⟩:=by
  unfold O.oneC at h;split at h
  .rename_i d hd;cases h;rw[Str.ofString_eq_toList,hd];rfl
  .cases h
 rw[e,StrLaws.found_one,K7];have inj:∀{a b:Char},a.toNat=b.toNat->a=b:=λ{a b} e=>Char.ext<|bG e;by_cases hc:c∈t.toList
 .rw[gx hc,gy];exact ò hc
 .rw[gu hc,decide_eq_false_iff_not];intro m;let⟨d,hd,he⟩:=Ò.mp m;exact hc<|inj he▸hd
abbrev RF(K:Frag):R2:=λx y H Q=>Gk eP x y H Q\/FU K eP x y H Q\/∃i j,x=.str i/\y=.str j/\Q (.bl (!(Builtin.Str.occurrences j i 0 j.length 1).isEmpty)) H
abbrev P9(K:Frag):R2:=λx y H Q=>Gk eN x y H Q\/FU K eN x y H Q\/∃i j,x=.str i/\y=.str j/\Q (.bl (!(!(Builtin.Str.occurrences j i 0 j.length 1).isEmpty))) H
def SF(hu:X.A.units+65<Ī):OpR X (î .In)<|RF X.K:=(Iq<|by lia).or ((HY hu).or Bw)
def SD(hu:X.A.units+65<Ī):OpR X (î .NotIn)<|P9 X.K:=(IA<|by lia).or ((Bg hu).or MF)
def HJ{v u:O.Val}{G:O.Hs}{H:Hp}{x y:V}{b:Bool}(g:RH i G H)(rx:RV i.K H v x)(ry:RV i.K H u y)(e:O.inV G v u=eL b) :
  (∃ds d,(IsD i.K H y (.tuple ds)\/IsD i.K H y (.list ds))/\IsD i.K H x d/\Ŗ ds=eN/\d.canLay0=eN/\d.depth<=64/\ds.any (λe=>ĩ e d)=b)\/
  (∃j k,x=.str j/\y=.str k/\(!(Builtin.Str.occurrences k j 0 k.length 1).isEmpty)=b)\/∃a o,y=.ref a/\DGet H a x o/\o.isSome=b:=by
 cases u with
 |tup ys=>exact .inl<|UN (u:=.tup ys) g rx e<|UA g ry<|.inl rfl
 |ref a =>
  replace e:(match G a with|some (.lst xs)=>O.inL G v xs|some (.dct kvs)=>if O.fj v then eL (O.fu kvs v)else eM|some (.frz kvs)=>if O.fj v then eL (O.fu kvs v)else eM|some (.dtp kvs)=>if O.isKeyT v then eL (O.fu kvs v)else eM|_=>eM)=eL b:=e
  cases z:G a with
  |none=>rw[z]at e;cases e
  |some o =>
   rw[z]at e;cases o with
   |lst ys=>exact .inl (UN (u:=.ref a) g rx e<|UA g ry<|.inr ⟨a,rfl,by rw[z];rfl⟩)
   |dct kvs =>let⟨hk,e⟩:=Zn (show(if O.fj v then eL (O.fu kvs v)else eM)=eL b from e);cases e;let⟨ps,h1,h2⟩:=g a _ z;let⟨d,kr,rfl⟩:=fg hk rx;exact .inr (.inr ⟨a,_,ry.ref_inv,DGet.k h1,by rw[h2.has kr,Xa]⟩)
   |frz kvs =>let⟨hk,e⟩:=Zn (show(if O.fj v then eL (O.fu kvs v)else eM)=eL b from e);cases e;let⟨ob,ps,h1,h2⟩:=g a _ z;let⟨d,kr,rfl⟩:=fg hk rx;exact .inr (.inr ⟨a,_,ry.ref_inv,.inl ⟨ps,d,.inr ⟨ob,h1⟩,rfl,rfl⟩,by rw[h2.has kr,Xa]⟩)
   |dtp kvs =>let⟨hk,e⟩:=Zn (show(if O.isKeyT v then eL (O.fu kvs v)else eM)=eL b from e);cases e;let⟨ps,h1,h2⟩:=g a _ z;let⟨k1,k2,d,rfl,rfl,hd⟩:=WJ hk rx;exact .inr (.inr ⟨a,_,ry.ref_inv,DGet.t h1 hd,by rw[h2.has,Xa]⟩)
   |_=>cases e
 |str t =>
  cases v with
  |str s =>let⟨c,z,rfl⟩:=Ë.mp e;exact .inr<|.inl ⟨_,_,rx.str_inv,ry.str_inv,PB s t c z⟩
  |_=>cases e
 |_=>cases e
def FJ{o:Option Bool}{b:Bool}(e:o.map (!·)=eL b):o=eL (!b):=by let⟨c,z,rfl⟩:=Ë.mp e;rw[z,ao]
def Sr:Z1 i .isin<|RF i.K:=by
 intro v u G H x y c Q g rx ry e q;rcases HJ g rx ry e with⟨ds,d,h1,h2,h3,h4,h5,h6⟩|⟨j,k,h1,h2,h3⟩|⟨a,o,h1,h2,h3⟩
 .exact .inr (.inl ⟨ds,d,h1,h2,h3,h4,h5,by show Q (.bl<|List.any _ _) H;rw[h6];exact q⟩)
 .exact .inr (.inr ⟨j,k,h1,h2,by rw[h3];exact q⟩)
 .exact .inl ⟨a,o,h1,h2,by rw[h3,bc];exact q⟩
def R0:Z1 i .notin<|P9 i.K:=by
 intro v u G H x y c Q g rx ry e q;rcases HJ g rx ry (FJ e)with⟨ds,d,h1,h2,h3,h4,h5,h6⟩|⟨j,k,h1,h2,h3⟩|⟨a,o,h1,h2,h3⟩
 .exact .inr (.inl ⟨ds,d,h1,h2,h3,h4,h5,by show Q (.bl (!List.any _ _)) H;rw[h6,ao];exact q⟩)
 .exact .inr (.inr ⟨j,k,h1,h2,by rw[h3,ao];exact q⟩)
 .exact .inl ⟨a,o,h1,h2,by rw[h3,bH,ao];exact q⟩
variable {a:Expr} {b:Expr} {d:Expr} {ma:O.E} {mb:O.E} {op:ck} {dr:ck} {cop:O.Cop} {cop':O.Cop} {r:R2} {r':R2} {ë:Pos}
def F1{md:O.E}(ho:OpR X (î op) r)(hr:Z1 i cop r)(ab:OpR X (î dr) r')(hr':Z1 i cop' r')(ha:PE X a<|tE X i Φ ma)(hb:PE X b<|tE X i Φ mb)(hd:PE X d<|tE X i Φ md)(hm:bj [op,dr] [b,d]=eP) :
  PE X (.Compare a [op,dr] [b,d] ë) (tE X i Φ<|.chain cop cop' ma mb md) :=
 (B2 ho ab ha hb hd hm).imp λσ H Q ⟨env,G,Qm,Em,p,w,k⟩=>by
  exact two p w λv u G2 H2 x y k2 p2 rx ry q=>by
   let⟨c,e,q⟩:=eU q;refine hr v u G2 H2 x y c _ p2.hp rx ry e ⟨c,rfl,?_⟩;cases c with
   |true =>
    rw[gp rfl]at q ⊢;exact one p2 q λt G3 H3 z k3 p3 rz q=>by let⟨d2,e2,q⟩:=eU q;exact hr' u t G3 H3 y z d2 Q p3.hp (ry.keep k3) rz e2<|k (.bl d2) G3 H3 (.bl d2) (k2.trans k3) p3.hp (.bl d2) q
   |false =>rw[gq ú]at q ⊢;exact k _ G2 H2 _ k2 p2.hp (.bl _) q
def Cm{md:O.E}(ho:OpR X (î op) r)(hr:Z1 i cop r)(ab:OpR X (î dr) r')(hr':Z1 i cop' r')(ha:PE X a<|tE X i Φ ma)(hb:PE X b<|tE X i Φ mb)(hd:PE X d<|tE X i Φ md)(hm:bj [op,dr] [b,d]=eP) :
  PT X (.Compare a [op,dr] [b,d] ë) (tTt X i Φ<|.val<|.chain cop cop' ma mb md) :=
 (DE ho ab ha hb hd hm).imp λσ H Q ⟨env,G,Qm,Em,p,w,k⟩=>by
  exact two p w λv u G2 H2 x y k2 p2 rx ry q=>by
   let⟨c,e,q⟩:=eU q;refine hr v u G2 H2 x y c _ p2.hp rx ry e ⟨c,rfl,?_⟩;cases c with
   |true =>
    rw[gp rfl]at q ⊢;exact one p2 q λt G3 H3 z k3 p3 rz q=>by let⟨d2,e2,q⟩:=eU q;let⟨d3,e3,q⟩:=eU q;cases e3;exact hr' u t G3 H3 y z d2 _ p3.hp (ry.keep k3) rz e2 ⟨d2,rfl,k d2 G3 H3 (k2.trans k3) p3.hp q⟩
   |false =>rw[gq ú]at q ⊢;let⟨d3,e3,q⟩:=eU q;cases e3;exact⟨eP,rfl,k _ G2 H2 k2 p2.hp q⟩
def DA{st:ľ}:PS X st<|tSt X i Φ .never:=λÂ s σ H D I ⟨env,G,N,R,B,C,Xe,p,w,c⟩=>by exact w.elim
end Snd
namespace L2
open PySem PySem.Spec PyProof.Rows
def HI{x:V}{xs:List V}{ø:List Ã}(hl:(x::xs).length=ø.length):(ø.toArray.size != (#[]:Array Ã).size)=eN:=by
 cases ø with
 |nil=>cases hl
 |cons y ys=>simp
section
variable {X:Cx}
abbrev Fk(K:Frag)(n:Bool):R2:=λx y H Q=>∃a b xs,x=.ref a/\y=.ref b/\fY K H a xs/\fY K H b []/\Q (.bl<|n ^^ xs.isEmpty) H
def DG(hu:X.A.units+64<Ī):OpR X (î .Eq)<|Fk X.K eP:=by
 intro Â s σ H x y v u Q I rx ry h;let⟨a,b,xs,rfl,rfl,ha,hb,q⟩:=h;cases rx;cases ry;let⟨ø,rv,pl,_⟩:=I.list ha;let⟨ϛ,rv2,pl2,_⟩:=I.list hb;cases rv2;have hl:=rv.length;cases xs with
 |nil =>have:ø=[]:=ŭ.mp hl.symm;subst this;exact SeqAt.RcAt.lists (A:=X.A) (e:=λ_=>eN) pl.isList pl2.isList rfl (by lia) (λj j1 _=>by simp at j1) X.prog X.w X.xe _ ⟨.bl eN,H,I,rfl,q⟩
 |cons x xs =>exact SeqAt.RcAt.lists_lengths (A:=X.A) pl.isList pl2.isList (HI hl) (by lia) X.prog X.w X.xe _ ⟨.bl eP,H,I,rfl,q⟩
def BQ(hu:X.A.units+64<Ī):OpR X (î .NotEq)<|Fk X.K eN:=by
 intro Â s σ H x y v u Q I rx ry h;let⟨a,b,xs,rfl,rfl,ha,hb,q⟩:=h;cases rx;cases ry;let⟨ø,rv,pl,_⟩:=I.list ha;let⟨ϛ,rv2,pl2,_⟩:=I.list hb;cases rv2;have hl:=rv.length;cases xs with
 |nil =>have:ø=[]:=ŭ.mp hl.symm;subst this;exact SeqAt.RcNeAt.lists (A:=X.A) (e:=λ_=>eN) pl.isList pl2.isList rfl (by lia) (λj j1 _=>by simp at j1) X.prog X.w X.xe _ ⟨.bl eP,H,I,rfl,q⟩
 |cons x xs =>exact SeqAt.RcNeAt.lists_lengths (A:=X.A) pl.isList pl2.isList (HI hl) (by lia) X.prog X.w X.xe _ ⟨.bl eN,H,I,rfl,q⟩
end
end L2
namespace Snd
open PySem L2
variable {i:Inf}{G:O.Hs}{H:Hp}
variable {x:V} {xs:List O.Val}
def KE(g:RH i G H){v:O.Val}(r:RV i.K H v x)(e:O.asLst G v=eL xs):∃a vs,x=.ref a/\fY i.K H a vs/\RVs i.K H xs vs:=by
 cases v with
 |ref a =>cases r;let⟨vs,h1,h2⟩:=ZG g e;exact⟨a,vs,rfl,h1,h2⟩
 |_=>cases e
def Og(g:RH i G H){v u:O.Val}{y:V}(rx:RV i.K H v x)(ry:RV i.K H u y){c:Bool}{f:List O.Val->List O.Val->Option Bool}(e:((O.asLst G v).bind λxs=>(O.asLst G u).bind λys=>f xs ys)=eL c):∃xs ys a b vs us,f xs ys=eL c/\x=.ref a/\y=.ref b/\fY i.K H a vs/\fY i.K H b us/\RVs i.K H xs vs/\RVs i.K H ys us:=by
 cases z:O.asLst G v with
 |none=>rw[z]at e;cases e
 |some xs =>
  cases z2:O.asLst G u with
  |none=>rw[z,z2]at e;cases e
  |some ys =>rw[z,z2]at e;let⟨a,vs,h1,h2,h3⟩:=KE g rx z;let⟨b,us,k1,k2,k3⟩:=KE g ry z2;exact⟨xs,ys,a,b,vs,us,e,h1,k1,h2,k2,h3,k3⟩
def Ah{vs:List V}(h:RVs i.K H xs vs):vs.isEmpty=xs.isEmpty:=by cases h<;>rfl
def c_eqE:Z1 i .eqE<|Fk i.K eP:=by
 intro v u G H x y c Q g rx ry e q;let⟨xs,ys,a,b,vs,us,e,h1,h2,h3,h4,h5,h6⟩:=Og g rx ry e;split at e
 .rename_i z;cases e;cases h6 with
  |nil=>exact⟨a,b,vs,h1,h2,h3,h4,by rw[Ah h5,bc];exact q⟩
  |cons _ _=>cases z
 .cases e
def c_neE:Z1 i .neE<|Fk i.K eN:=by
 intro v u G H x y c Q g rx ry e q;let⟨xs,ys,a,b,vs,us,e,h1,h2,h3,h4,h5,h6⟩:=Og g rx ry e;split at e
 .rename_i z;cases e;cases h6 with
  |nil=>exact⟨a,b,vs,h1,h2,h3,h4,by rw[Ah h5,bH];exact q⟩
  |cons _ _=>cases z
 .cases e
variable {i:Inf}{X:Cx}{Φ:O.Fs}
abbrev tPt(X:Cx)(i:Inf)(Φ:O.Fs)(m:O.E):TE:=λσ H Q=>∃env G Qm Em,Pre X i σ H env G Em/\O.wE Φ m env G Qm Em/\∀v G' H',fo H H'->RH i G' H'->Qm v G'->∃s,O.fmtV v=eL s/\s.length<=O.lim/\Q (.str<|gC s) H'
abbrev tJs(X:Cx)(i:Inf)(Φ:O.Fs)(ms:O.Es):TJ:=λσ H Į Q=>∃env G a Qm Em,Į=gC a/\a.length<=O.lim/\Pre X i σ H env G Em/\O.wJ Φ ms env G a Qm Em/\∀s G' H',fo H H'->RH i G' H'->Qm s G'->Q (gC s) H'
def _root_.L2.PJ.imp{vs:List Expr}{t t':TJ}(h:PJ X vs t)(f:∀σ H Į Q,t' σ H Į Q->t σ H Į Q):PJ X vs t':=λÂ s σ H Į Q I q=>h Â s σ H Į Q I (f σ H Į Q q)
variable {e:Expr} {m:O.E} {ë:Pos}
def Lw(he:PE X e<|tE X i Φ m):PE X (.FormattedValue e (-1) eM ë) (tPt X i Φ m) :=
 (Gy he).imp λσ H Q ⟨env,G,Qm,Em,p,w,c⟩=>by
  refine⟨env,G,Qm,Em,p,w,λv G1 H1 x k1 g1 r1 w1=>?_⟩;let⟨s,e1,hl,q⟩:=c v G1 H1 k1 g1 w1;cases v with
  |str t=>cases e1;cases r1.str_inv;exact .inr ⟨_,rfl,by rw[Zx];exact Ý hl ZH,q⟩
  |int n =>
   cases r1.int_inv;simp only[O.fmtV]at e1;split at e1
   .rename_i hn;cases e1;exact .inl ⟨n,rfl,Ln hn,q⟩
   .cases e1
  |_=>cases e1
def LF{s:String}{j:Nat}:PE X (.Constant (.str<|gC s) j ë) (tPt X i Φ<|.cst<|.str s) :=
 pe_str.imp λσ H Q ⟨env,G,Qm,Em,p,w,c⟩=>by let⟨t,e1,hl,q⟩:=c _ G H (fo.refl H) p.hp w;cases e1;exact q
def IQ:PJ X []<|tJs X i Φ .nil:=pj_nil.imp λσ H Į Q ⟨env,G,a,Qm,Em,e,hl,p,w,c⟩=>by subst e;exact⟨by rw[Zx];exact Ý hl ZH,c a G H (fo.refl H) p.hp w⟩
def Aa{es:List Expr}{ms:O.Es}(he:PE X e<|tPt X i Φ m)(hr:PJ X es<|tJs X i Φ ms)(hs:cu (e::es) X.env=eval e X.env::cu es X.env):PJ X (e::es) (tJs X i Φ<|.cons m ms) :=
 (GA he hr hs).imp λσ H Į Q ⟨env,G,a,Qm,Em,e,hl,p,w,c⟩=>by subst e;refine⟨env,G,_,Em,p,w,λv G1 H1 k1 g1 w1=>?_⟩;let⟨s,e1,hl1,w2⟩:=eU w1;clear w1;refine⟨s,e1,by lia,_,rfl,?_,env,G1,a++s,Qm,Em,(M4 a s).symm,by rw[b6];exact hl1,p.go k1 g1,w2,λt G2 H2 k2=>c t G2 H2<|k1.trans k2⟩;rw[<-M4,Zx,b6];exact Ý hl1 ZH
def WU{G:O.Hs}{H:Hp}{p:Í}{o:HO}(g:RH i G H)(hp:H p=eM):RH i G<|upd H p o:=g.hid (fo.new hp) λb u e=>eQ (by rintro rfl;rw[g.free hp]at e;cases e)
abbrev tE0(i:Inf)(Φ:O.Fs)(m:O.E):TE:=λσ H Q=>∃env G Qm,REn i.K H env σ/\RH i G H/\O.wE Φ m env G Qm (λ_ _=>False)/\Cn i H Q Qm
abbrev tT0(i:Inf)(Φ:O.Fs)(m:O.Tt):TT:=λσ H Q=>∃env G Qm,REn i.K H env σ/\RH i G H/\O.wT Φ m env G Qm (λ_ _=>False)/\∀b G' H',fo H H'->RH i G' H'->Qm b G'->Q b H'
variable {H:Hp}
def Ux:XOk X i H λ_ _=>False:=λÂ σ H0 s H' a cls s' I f ⟨_,_,_,_,_,_,_,z⟩=>z.elim
variable {e:Expr}
def pe0{m:O.E}(h:PE X e<|tE X i Φ m):PE X e<|tE0 i Φ m:=h.imp λσ H Q ⟨env,G,Qm,r,g,w,c⟩=>⟨env,G,Qm,_,⟨r,g,Ux⟩,w,c⟩
def pt0{m:O.Tt}(h:PT X e<|tTt X i Φ m):PT X e<|tT0 i Φ m:=h.imp λσ H Q ⟨env,G,Qm,r,g,w,c⟩=>⟨env,G,Qm,_,⟨r,g,Ux⟩,w,c⟩
def _root_.L2.PIfs.imp{es:List Expr}{t t':TT}(h:PIfs X es t)(f:∀σ H Q,t' σ H Q->t σ H Q):PIfs X es t':=λÂ s σ H Q I q=>h Â s σ H Q I (f σ H Q q)
def Io:PIfs X []<|tT0 i Φ .yes:=pifs_nil.imp λσ H Q ⟨env,G,Qm,r,g,w,c⟩=>by exact c eN G H (fo.refl H) g w
variable {ü:List Nat}
def ES{K:Frag}{H':Hp}{env:O.Env}{σ:St}{k:Nat}(r:REn K H env σ)(kp:fo H H'):REn K H' (Þ k eM++ü.map λj=>(env[j]?).getD eM)<|Þ k eM++OL σ ü:=by
 refine⟨by simp[OL],λn u e=>?_⟩;by_cases hn:n<k
 .rw[ó (by rw[ù];exact hn),ō,gp hn]at e;cases e
 .rw[ď (by rw[ù];lia),ù]at e ⊢;generalize n - k=n at e ⊢;simp only[Ø]at e;cases z:ü[n]? with
  |none=>rw[z]at e;cases e
  |some j =>
   rw[z]at e;simp only[œ,Ĭ]at e;cases z2:env[j]? with
   |none=>rw[z2]at e;cases e
   |some o =>rw[z2]at e;have e:o=eL u:=e;subst e;let⟨y,h1,h2⟩:=r.get j u z2;exact⟨y,by unfold OL;rw[Ø,z];show eL ((σ[j]?).getD eM)=_;rw[h1];rfl,h2.keep kp⟩
abbrev OC(k:Nat):O.Pt->Bool
 |.one j=>gB (j<k)
 |.many js=>js.all λj=>gB (j<k)
 |.nest _ _=>eP
def K9{r:O.Env}:∀{js:List Nat}{vs:List O.Val}{l ŗ:O.Env},(js.all λj=>gB (j<l.length))=eN->O.bindL js vs (l++r)=eL ŗ->∃l',ŗ=l'++r/\l'.length=l.length
 |[],[],l,_,_,e=>by cases e;exact⟨l,rfl,rfl⟩
 |j::js,v::vs,l,_,h,e=>by rw[List.all_cons,bAq,gy]at h;have e:O.bindL js vs ((l++r).set j<|eL v)=_:=e;rw[cR _ _ h.1]at e;let⟨l',h1,h2⟩:=K9 (l:=l.set j<|eL v) (by rw[ϒ];exact h.2) e;exact⟨l',h1,by rw[h2,ϒ]⟩
 |[],_::_,_,_,_,h=>by cases h
 |_::_,[],_,_,_,h=>by cases h
variable {l:O.Env} {r:O.Env}
def Dz{p:O.Pt}{G:O.Hs}{v:O.Val}{ŗ:O.Env}(h:OC l.length p=eN)(e:O.bind p G v (l++r)=eL ŗ):∃l',ŗ=l'++r/\l'.length=l.length:=by
 cases p with
 |one j =>have e:eL ((l++r).set j<|eL v)=eL ŗ:=e;cases e;exact⟨l.set j<|eL v,by rw[cR _ _<|of_decide_eq_true h],ϒ⟩
 |many js =>
  cases v with
  |tup vs=>exact K9 h e
  |_=>cases e
 |nest j js=>cases h
def REn.pre{K:Frag}{τ:St}(q:REn K H (l++r) τ):REn K H (Þ l.length eM++r) τ:=by
 refine⟨by rw[<-q.len];simp,λn u e=>?_⟩;by_cases hn:n<l.length
 .rw[ó (by rw[ù];exact hn),ō,gp hn]at e;cases e
 .rw[ď (by rw[ù];lia),ù]at e;exact q.get n u (by rw[ď<|by lia];exact e)
def Aj{k:Nat}{pt:O.Pt}(hk:OC k pt=eN){mi:O.It}{mt:O.Tt}{me:O.E}:∀σ H Q,tE X i Φ (.comp ü k pt mi mt me) σ H Q->Cp (tIt X i Φ mi) k ü (gPt i pt) (tT0 i Φ mt) (tE0 i Φ me) σ H Q:=λσ H Q ⟨env,G,Qm,Em,p,w,c⟩=>by
 refine⟨env,G,_,Em,p,w,λst xs G1 H1 J k1 g1 it w1=>?_⟩;let⟨hl,w1⟩:=w1;generalize hstep:(λ(v:O.Val) (h2:O.Hs) (K:Option O.Val->O.Hs->Prop) (X2:O.XQ)=>O.go (O.bind pt h2 v<|Þ k eM++ü.map λj=>(env[j]?).getD eM) λŗ =>
       O.wT Φ mt ŗ h2 (λk h3=>if k=eN then O.wE Φ me ŗ h3 (λu h4=>K (eL u) h4) X2 else K eM h3) X2)=step at w1
 refine⟨λn m ys τ H'=>n+m=xs.length/\ys.length<=n/\REn i.K H' (Þ k eM++ü.map λj=>(env[j]?).getD eM) τ/\∃Į G',fo H1 H'/\RH i G' H'/\RVs i.K H' Į ys/\O.wComp st step (xs.drop n) Į G' (λys h5=>O.new h5 (.lst ys) Qm) (λ_ _=>False),⟨xs.length,by lia,by simp,ES p.en k1,[],G1,fo.refl _,g1,.nil,⇑w1⟩,?_⟩;rintro n m ys τ H' ⟨hnm,hly,en2,Į,G',k2,g2,r2,w2⟩;refine⟨ä (Ö (Ý hly<|by lia) hl) ZH,?_⟩;by_cases hn:n<xs.length
 .right;have hd:xs.drop n=xs[n]::xs.drop (n+1):=Θ hn;rw[hd]at w2;let⟨s2,w2⟩:=w2;have hv:xs[n]?=eL xs[n]:=É hn;let⟨a1,a2⟩:=it.go n G' H' xs[n] k2 g2 s2 hv;refine⟨a1,λys3 τ3 H3=>ys3.length<=n+1/\REn i.K H3 (Þ k eM++ü.map λj=>(env[j]?).getD eM) τ3/\∃acc3 G3,fo H1 H3/\RH i G3 H3/\RVs i.K H3 acc3 ys3/\O.wComp st step (xs.drop<|n+1) acc3 G3 (λys h5=>O.new h5 (.lst ys) Qm) (λ_ _=>False),λys3 τ3 H3 h=>⟨m - 1,by lia,by lia,h.1,h.2⟩,λx H3 hy=>?_⟩;let⟨k3,g3,r3⟩:=a2 x H3 hy;rw[<-hstep]at w2;let⟨cO,e4,w4⟩:=eU w2;rw[hstep]at w4;let⟨l',e5,h5⟩:=Dz (l:=Þ k eM) (by rw[ù];exact hk) e4;rw[ù]at h5;refine⟨xs[n],_,G',cO,r3,g3,en2.keep k3,e4,λτ4 en4=>?_⟩;have aK:REn i.K H3 (Þ k eM++ü.map λj=>(env[j]?).getD eM) τ4:=by
   rw[e5]at en4;have:=en4.pre;rw[h5]at this;exact this
  refine⟨_,G',_,en4,g3,w4,λd G5 H5 k5 g5 q5=>?_⟩;have kk:=(k2.trans k3).trans k5;cases d with
  |true =>refine⟨_,G5,_,en4.keep k5,g5,⇑q5,λu G6 H6 y k6 g6 r6 q6=>?_⟩;exact⟨⇑hly,(aK.keep k5).keep k6,_,G6,kk.trans k6,g6,((((r2.keep k3).keep k5).keep k6).append<|.cons r6 .nil),q6⟩
  |false =>rw[gq ú]at q5;change if eP=eN then _ else _;rw[gq ú];have q5:O.wComp st step (xs.drop<|n+1) (Į++[]) G5 (λys h5=>O.new h5 (.lst ys) Qm) λ_ _=>False:=q5;rw[ö]at q5;exact⟨by lia,aK.keep k5,Į,G5,kk,g5,(r2.keep k3).keep k5,q5⟩
 .left;have hd:xs.drop n=[]:=Ŕ (by lia);rw[hd]at w2;refine⟨it.stop n G' H' k2 g2 w2.1 (by lia),?_⟩;exact Yg g2 w2.2 ((c.go k1).go k2) λq hq=>⟨_,eR,r2.keep<|fo.new hq⟩
abbrev OY(i:Inf)(m:O.Bm)(r:V->List V->Hp->VK->Prop):Prop:=∀(v:O.Val) (vs:List O.Val) (G:O.Hs) (H:Hp) (x:V) (xs:List V) (t:O.Val×O.Hs) (Q:VK) (Qm:O.Q1),
 RH i G H->RV i.K H v x->RVs i.K H vs xs->O.bmV G m v vs=eL t->Qm t.1 t.2->Cn i H Q Qm->r x xs H Q
abbrev IW(i:Inf)(m:O.Bm)(T:String):Prop:=∀(v:O.Val) (G:O.Hs) (H:Hp) (x:V),RH i G H->RV i.K H v x->O.bmTy G m v=eN->tyV i.K T x H
variable {m:O.Bm}
def AY{o e:Expr}{es:List Expr}{name:Str}{Ő š:Pos}{T id:String}{r:V->List V->Hp->VK->Prop}{mo:O.E}{ms:O.Es}{n:Nat}(hK:X.K=i.K)(pa:PlainAttrs T)(slot:Slot T name id)(hty:typeOf (.builtin id)=pure (.type "method_descriptor"))(mt:MtR X id r)(hT:IW i m T)(hr:OY i m r)
  (ho:PE X o<|tE X i Φ mo) (ha:PA X (e::es)<|tAr X i Φ ms n) (aH:Ħ o name X.env (eval o X.env)=eval o X.env)
  (av:((ģ š<|Ü (e::es) X.env).all (λx=>!x.1)&&(η š<|ŋ [] X.env).all (λx=>x.1.isSome)&&gB ((e::es).length+([]:List aR).length+(if([]:List aR).isEmpty then 0 else 1)<30))=eN)
  (aI:(Ő.endLine==š.line)=eN) (hs:Ü (e::es) X.env=(eP,eval e X.env)::Ü es X.env) (cJ:(ģ š<|Ü es X.env).any (·.1)=eP) :
  PE X (.Call (.Attribute o name Ő) (e::es) [] š) (tE X i Φ<|.bm m mo ms) :=
 (Rg pa slot hty mt ho ha aH av aI hs cJ).imp λσ H Q ⟨env,G,Qm,Em,p,w,c⟩=>by
  refine one p w λv G1 H1 x k1 p1 rv q=>⟨by rw[hK];exact hT v G1 H1 x p1.hp rv q.1,env,G1,_,Em,p1,q.2,λvs G2 H2 xs k2 g2 r2 _ w2=>?_⟩
  let⟨t,e,w3⟩:=eU w2;exact hr v vs G2 H2 x xs t Q Qm g2 (rv.keep k2) r2 e w3<|(c.go k1).go k2
def Oz{o:Option O.Ob}(h:O.isDct o=eN):(∃xs,o=eL (.dct xs))\/∃xs,o=eL (.dtp xs):=by
 cases o with
 |none=>cases h
 |some o=>cases o with
  |dct xs=>exact .inl ⟨xs,rfl⟩
  |dtp xs=>exact .inr ⟨xs,rfl⟩
  |_=>cases h
def HW(hm:m.ty=.l):IW i m "list":=λv G H x g r h=>by
 unfold O.bmTy at h;rw[hm]at h;cases v with
 |ref a =>cases r.ref_inv;let⟨xs,e⟩:=O1 (show O.isLst (G a)=eN from h);let⟨vs,h1,_⟩:=g a _ e;exact .inl ⟨rfl,vs,fY.of h1⟩
 |_=>cases h
def IX(hm:m.ty=.d):IW i m "dict":=λv G H x g r h=>by
 unfold O.bmTy at h;rw[hm]at h;cases v with
 |ref a =>
  cases r.ref_inv;rcases Oz (show O.isDct (G a)=eN from h)with⟨xs,e⟩|⟨xs,e⟩
  .obtain⟨vs,h1,_⟩:=g a _ e;exact .inr<|.inr<|.inl ⟨rfl,.inl ⟨vs,h1⟩⟩
  .obtain⟨vs,h1,_⟩:=g a _ e;exact .inr<|.inr<|.inl ⟨rfl,.inr ⟨vs,h1⟩⟩
 |_=>cases h
variable {G:O.Hs}
def Mn{v:O.Val}{f:O.Ad->List O.Val->Option (O.Val×O.Hs)}{t:O.Val×O.Hs}(e:O.bmL G v f=eL t):∃a xs,v=.ref a/\G a=eL (.lst xs)/\f a xs=eL t:=by
 cases v with
 |ref a=>let⟨xs,h1,h2⟩:=De e;exact⟨a,xs,rfl,h1,h2⟩
 |_=>cases e
variable {vs:List O.Val} {α:Type} {a:α}
def LQ{f:O.Val->Option α}(e:(match vs with|[v]=>f v|_=>eM)=eL a):∃v,vs=[v]/\f v=eL a:=by
 cases vs with
 |nil=>cases e
 |cons v vs=>cases vs with
  |nil=>exact⟨v,rfl,e⟩
  |cons _ _=>cases e
def Ia:OY i .append Ag:=λv vs G H x xs t Q Qm g rx rs e q c=>by let⟨a,ys,rfl,e4,e3⟩:=Mn e;let⟨u,rfl,e3⟩:=LQ e3;let⟨hl,e3⟩:=Zn e3;cases e3;cases rx.ref_inv;let⟨y,rfl,ry⟩:=rs.inv1;let⟨us,h2,r2⟩:=g a _ e4;let⟨k3,g3⟩:=WL (xs:=ys) g h2 (ys++[u]) (us++[y])<|r2.app1 ry;exact⟨a,us,y,rfl,rfl,h2,by rw[<-r2.length];exact ä hl ZH,c _ _ _ _ k3 g3 .non q⟩
def LA:OY i .extend UC:=λv vs G H x xs t Q Qm g rx rs e q c=>by
 let⟨a,ys,rfl,e4,e3⟩:=Mn e;unfold O.bmExtend at e3;split at e3
 .rename_i b;let⟨zs,e5,e3⟩:=ì.mp e3;let⟨hl,e3⟩:=Zn e3;cases e3;cases rx.ref_inv;let⟨y,rfl,ry⟩:=rs.inv1;cases ry.ref_inv;let⟨us,h2,r2⟩:=g a _ e4;let⟨ws,h3,r3⟩:=g b _<|KQ e5;let⟨k3,g3⟩:=WL (xs:=ys) g h2 (ys++zs) (us++ws)<|r2.append r3;exact⟨a,b,us,ws,rfl,rfl,h2,h3,by rw[<-r2.length,<-r3.length];exact Ý hl ZH,c _ _ _ _ k3 g3 .non q⟩
 .cases e3
def GN:OY i .popAt DC:=λv vs G H x xs t Q Qm g rx rs e q c=>by
 let⟨a,ys,rfl,e4,e3⟩:=Mn e;unfold O.bmPopAt at e3;split at e3
 .rename_i n;let⟨hn,e3⟩:=Zn e3;let⟨k,z,e3⟩:=ì.mp e3;let⟨yv,z2,rfl⟩:=Ë.mp e3;cases rx.ref_inv;let⟨y,rfl,ry⟩:=rs.inv1;cases ry.int_inv;let⟨us,h2,r2⟩:=g a _ e4;let⟨xv,hx,rv⟩:=r2.get z2;rw[MI,r2.length]at z;let⟨s1,s2,s3,s4⟩:=M3 z;let⟨k3,g3⟩:=WL (xs:=ys) g h2 (ys.eraseIdx k) (us.eraseIdx k)<|r2.eraseIdx k;exact⟨a,us,n,k,xv,rfl,rfl,h2,by lia,by lia,s1,hx,c _ _ _ _ k3 g3 (rv.keep k3) q⟩
 .cases e3
def MN{v:O.Val}{f:O.Ad->List (O.Val×O.Val)->Option (O.Val×O.Hs)}{t:O.Val×O.Hs}(e:O.bmD G v f=eL t):∃a kvs,v=.ref a/\G a=eL (.dct kvs)/\f a kvs=eL t:=by
 cases v with
 |ref a =>
  let⟨kvs,h1,h2⟩:=ì.mp (show(O.gb<|G a).bind (f a)=eL t from e);refine⟨a,kvs,rfl,?_,h2⟩;cases z:G a with
  |none=>rw[z]at h1;cases h1
  |some o =>
   rw[z]at h1;cases o with
   |dct ys=>cases h1;rfl
   |_=>cases h1
 |_=>cases e
def Sx{f:O.Val->O.Val->Option α}(e:(match vs with|[v,u]=>f v u|_=>eM)=eL a):∃v u,vs=[v,u]/\f v u=eL a:=by
 cases vs with
 |nil=>cases e
 |cons v vs=>cases vs with
  |nil=>cases e
  |cons u us=>cases us with
   |nil=>exact⟨v,u,rfl,e⟩
   |cons _ _=>cases e
abbrev C6:V->List V->Hp->VK->Prop:=λx vs H Q=>∃a y o,x=.ref a/\vs=[y]/\DGet H a y o/\Q (o.getD .non) H
def CM(hu:X.A.units+1<Ī):MtR X "dict.get" C6:=by intro Â s σ H x vs v us Q I rx rv h;let⟨a,y,o,rfl,rfl,d,q⟩:=h;cases rx;let⟨u,rfl,ru⟩:=rv.one;exact LZ hu I d ru λw' s' I' aZ=>⟨_,_,I',aZ,q⟩
abbrev Dt:V->List V->Hp->VK->Prop:=λx vs H Q=>∃a kvs k v more,x=.ref a/\vs=kV k::more/\(more=[]\/∃z,more=[z])/\H a=eL (.dK kvs)/\Yt kvs k=eL v/\Q v (upd H a<|.dK<|fw kvs k)
def mt_dpop:MtR X "dict.pop" Dt:=by
 intro Â s σ H x vs v us Q I rx rv h;let⟨a,kvs,k,y,more,rfl,rfl,hm,hH,l,q⟩:=h;cases rx;rcases hm with rfl|⟨z,rfl⟩
 .obtain⟨u,rfl,ru⟩:=rv.one;exact Hi I hH ru l (.inl rfl) λw' s' I' aZ=>⟨_,_,I',aZ,q⟩
 .obtain⟨u,t,rfl,ru,rt⟩:=rv.two;exact Hi I hH ru l (.inr ⟨_,rfl⟩) λw' s' I' aZ=>⟨_,_,I',aZ,q⟩
abbrev Cc:V->List V->Hp->VK->Prop:=λx vs H Q=>∃a kvs k z,x=.ref a/\vs=[kV k,z]/\H a=eL (.dK kvs)/\Yt kvs k=eM/\Q z H
def DJ:MtR X "dict.pop" Cc:=by intro Â s σ H x vs v us Q I rx rv h;let⟨a,kvs,k,z,rfl,rfl,hH,l,q⟩:=h;cases rx;let⟨u,t,rfl,ru,rt⟩:=rv.two;exact LB I hH ru l λs' I'=>⟨_,_,I',rt,q⟩
def Lj:OY i .dget C6:=λv vs G H x xs t Q Qm g rx rs e q c=>by
 let⟨a,kvs,rfl,e4,e3⟩:=MN e;let⟨k,rfl,e3⟩:=LQ e3;let⟨hk,e3⟩:=Zn e3;cases e3;cases rx.ref_inv;let⟨y,rfl,ry⟩:=rs.inv1;let⟨ps,h2,r2⟩:=g a _ e4;let⟨d,kr,rfl⟩:=fg hk ry;refine⟨a,_,_,rfl,rfl,DGet.k (k:=d) h2,?_⟩;let⟨l1,l2⟩:=r2.look kr;cases z:O.fq kvs k with
 |none=>rw[l2 z];rw[z]at q;exact c _ _ _ _ (fo.refl H) g .non q
 |some u=>let⟨x,hx,rv⟩:=l1 u z;rw[hx];rw[z]at q;exact c _ _ _ _ (fo.refl H) g rv q
def Ip:OY i .dpop Dt:=λv vs G H x xs t Q Qm g rx rs e q c=>by let⟨a,kvs,rfl,e4,e3⟩:=MN e;let⟨k,rfl,e3⟩:=LQ e3;let⟨hk,e3⟩:=Zn e3;let⟨u,z,rfl⟩:=Ë.mp e3;cases rx.ref_inv;let⟨y,rfl,ry⟩:=rs.inv1;let⟨ps,h2,r2⟩:=g a _ e4;let⟨d,kr,rfl⟩:=fg hk ry;let⟨x,hx,rv⟩:=(r2.look kr).1 u z;let⟨k3,g3⟩:=M7 (kvs:=kvs) g h2<|r2.drop kr;exact⟨a,ps,d,x,[],rfl,rfl,.inl rfl,h2,hx,c _ _ _ _ k3 g3 (rv.keep k3) q⟩
def OB{kvs:List (O.Val×O.Val)}{k:O.Val}(h:O.fq kvs k=eM):O.fw kvs k=kvs:=by
 unfold O.fw;rw[ϩ];intro p hp;have h2:kvs.find? (λp=>p.1==k)=eM:=by unfold O.fq at h;exact Option.map_eq_none_iff.mp h
 simpa using List.find?_eq_none.mp h2 p hp
def GG:OY i .dpopD λx vs H Q=>Dt x vs H Q\/Cc x vs H Q:=λv vs G H x xs t Q Qm g rx rs e q c=>by
 let⟨a,kvs,rfl,e4,e3⟩:=MN e;let⟨k,dv,rfl,e3⟩:=Sx e3;let⟨hk,e3⟩:=Zn e3;cases e3;cases rx.ref_inv;let⟨y,z,rfl,ry,rz⟩:=rs.inv2;let⟨ps,h2,r2⟩:=g a _ e4;let⟨d,kr,rfl⟩:=fg hk ry;let⟨l1,l2⟩:=r2.look kr;cases z:O.fq kvs k with
 |none =>
  refine .inr ⟨a,ps,d,_,rfl,rfl,h2,l2 z,?_⟩;rw[z,OB z]at q;have e:O.upd G a (.dct kvs)=G:=by
   funext b;by_cases hb:b=a
   .subst hb;rw[O.eR,e4]
   .rw[O.eQ hb]
  rw[e]at q;exact c _ _ _ _ (fo.refl H) g rz q
 |some u =>let⟨x,hx,rv⟩:=l1 u z;let⟨k3,g3⟩:=M7 (kvs:=kvs) g h2<|r2.drop kr;rw[z]at q;exact .inl ⟨a,ps,d,x,_,rfl,rfl,.inr ⟨_,rfl⟩,h2,hx,c _ _ _ _ k3 g3 (rv.keep k3) q⟩
def RFs.look{K:Frag}{H:Hp}{f:String}:∀{fs:List (String×O.Val)}{ps:List (Str×V)},RFs K H fs ps->
  (∀v,fs.lookup f=eL v->∃x,ps.lookup (gC f)=eL x/\RV K H v x)/\(fs.lookup f=eM->ps.lookup (gC f)=eM)
 |_,_,.nil=>⟨λv e=>(by cases e),λ_=>rfl⟩
 |_,_,.cons (f:=g) (v:=u) (x:=y) r t=>by
  have ih:=RFs.look (f:=f) t;rw[ï,ï];by_cases e:f=g
  .subst e;rw[beq_self_eq_true,beq_self_eq_true];exact⟨λv z=>(by cases z;exact⟨y,rfl,r⟩),λz=>(by cases z)⟩
  .rw[show(f==g)=eP by simpa using e,show(gC f==gC g)=eP by rw[beq_eq_false_iff_ne];exact λz=>e<|ofS_inj.mp z];exact ih
def RFs.put{K:Frag}{H:Hp}{f:String}{v:O.Val}{x:V}(q:RV K H v x):∀{fs:List (String×O.Val)}{ps:List (Str×V)},RFs K H fs ps->RFs K H (O.fh fs f v) (L2.fh (gC f) x ps)
 |_,_,.nil=>.cons q .nil
 |_,_,.cons (f:=g) (v:=u) (x:=y) r t=>by
  unfold O.fh L2.fh;by_cases e:g=f
  .subst e;rw[gp rfl,gp rfl];exact .cons q t
  .rw[gq e,gq λz=>e<|ofS_inj.mp z];exact .cons r<|RFs.put q t
def RFs.length{K:Frag}{H:Hp}:∀{fs:List (String×O.Val)}{ps:List (Str×V)},RFs K H fs ps->fs.length=ps.length
 |_,_,.nil=>rfl
 |_,_,.cons _ t=>by rw[Ï,Ï,RFs.length t]
structure FldOk(i:Inf)(f:String):Prop where
 no:∀C c,i.cl C c->NoAttr i.K c (gC f)
structure IC(K:Frag)(C:Í):Prop where
 ha:PySem.W.findIn K (.ref C) "__class__" = eL (eL<|.builtin "object.__class__")
 hn:PySem.W.specialIn K (.builtin "object.__class__") "__get__" = eL (eL<|.builtin "getset_descriptor.__get__")
 htk:PySem.W.takesIn K (.builtin "object.__class__")=eL eN
 hm:PySem.W.mroIn K C (.type "object")=eL eN
structure ClsA(i:Inf):Prop where
 cls:∀C c,i.ins C=eN->i.cl C c->Cls i.K c
 ic:∀C c,i.cl C c->IC i.K c
 un:∀C a b,i.cl C a->i.cl C b->a=b
def Ji{o:Option O.Ob}{p:String×List (String×O.Val)}(h:O.insOf o=eL p):o=eL (.ins p.1 p.2):=by
 cases o with
 |none=>cases h
 |some o=>cases o with
  |ins C fs=>cases h;rfl
  |_=>cases h
variable {G:O.Hs} {f:String}
def Kw{v u:O.Val}(h:O.fL G v f=eL u):∃a C fs,v=.ref a/\G a=eL (.ins C fs)/\fs.lookup f=eL u:=by let⟨a,h1,h⟩:=ì.mp h;let⟨p,h2,h3⟩:=ì.mp h;exact⟨a,p.1,p.2,Jq h1,Ji h2,h3⟩
variable {o:Expr} {mo:O.E} {ë:Pos}
def P2(hK:X.K=i.K)(A:ClsA i)(F:FldOk i f)(ho:PE X o<|tE X i Φ mo)(hb:Ħ o (gC f) X.env (eval o X.env)=eval o X.env) :
  PE X (.Attribute o (gC f) ë) (tE X i Φ<|.fld mo f) :=
 (Ls ho hb).imp λσ H Q ⟨env,G,Qm,Em,p,w,c⟩=>by
  exact one p w λv G1 H1 x k1 p1 r q=>by let⟨u,e,q2⟩:=eU q;clear q;let⟨a,C,fs,rfl,e2,e3⟩:=Kw e;cases r.ref_inv;let⟨c',dx,ps,hi,hc,h1,rf⟩:=p1.hp a _ e2;let⟨y,l,ry⟩:=rf.look.1 u e3;exact⟨a,c',dx,ps,y,rfl,h1,by rw[hK];exact A.cls _ _ hi hc,by rw[hK];exact F.no _ _ hc,l,c _ _ _ _ k1 p1.hp ry q2⟩
variable {C:String}
def Um{H:Hp}{a:Í}{c' dx:Í}{fs:List (String×O.Val)}{ps ps2:List (Str×V)}(g:RH i G H)(hi:i.ins C=eN)(hc:i.cl C c')(h:H a=eL (.ins c' dx ps2))(r:RFs i.K H fs ps) :
  fo H (upd H a<|.ins c' dx ps)/\RH i (O.upd G a<|.ins C fs) (upd H a<|.ins c' dx ps):=by
 have k:fo H<|upd H a<|.ins c' dx ps:=fo.put (λxs e=>by rw[h]at e;cases e) λp u e=>by rw[h]at e;cases e
 exact⟨k,g.put k ⟨c',dx,ps,hi,hc,eR,r.keep k⟩⟩
def JW{G':O.Hs}{o v:O.Val}(h:O.fM G o f v=eL G'):∃a C fs,o=.ref a/\G a=eL (.ins C fs)/\fs.length<900/\G'=O.upd G a (.ins C<|O.fh fs f v):=by
 cases o with
 |ref a =>
  unfold O.fM at h;dsimp only at h;split at h
  .rename_i C fs e;let⟨hl,h⟩:=Zn h;cases h;exact⟨a,C,fs,rfl,e,hl,rfl⟩
  .cases h
 |_=>cases h
variable {e:Expr}
def Bp{m:O.E}{ac:Pos}(hK:X.K=i.K)(A:ClsA i)(F:FldOk i f)(ho:PE X o<|tE X i Φ mo)(he:PE X e<|tE X i Φ m)(hs:ż e (eL<|.Attribute o (gC f) ac) ë.line X.env=pure eP) :
  PS X (.Assign [.Attribute o (gC f) ac] e ë) (tSt X i Φ<|.setFld mo f m) :=
 (PH ho he hs).imp λD σ H ⟨env,G,N,R,B,C,Xe,p,w,c⟩=>by refine one p.pre w λv G1 H1 x k1 p1 r q=>?_;refine one p1 q λu G2 H2 y k2 p2 ry q=>?_;let⟨G3,e3,q2⟩:=eU q;clear q;let⟨a,D',fs,rfl,e2,hl,rfl⟩:=JW e3;cases ry.ref_inv;let⟨c',dx,ps,hi,hc,h1,rf⟩:=p2.hp a _ e2;let⟨k3,g3⟩:=Um p2.hp hi hc h1<|rf.put (f:=f)<|r.keep k2;refine⟨a,c',dx,ps,rfl,h1,by rw[hK];exact A.cls _ _ hi hc,by rw[hK];exact F.no _ _ hc,by rw[<-rf.length];lia,?_⟩;have k:=(k1.trans k2).trans k3;exact c.nx _ _ _ _ k g3 (p.en.keep k) q2
def JF{op:O.Bop}{x y z:O.Val}(h:O.augV op x y=eL z):∃a b,x=.int a/\y=.int b/\((op=.add/\z=.int (a+b))\/(op=.sub/\z=.int (a - b))):=by
 unfold O.augV at h;split at h
 .cases h;exact⟨_,_,rfl,rfl,.inl ⟨rfl,rfl⟩⟩
 .cases h;exact⟨_,_,rfl,rfl,.inr ⟨rfl,rfl⟩⟩
 .cases h
abbrev rAS(op:O.Bop):V->V->Hp->VK->Prop:=λx y H Q=>∃a b,x=.int a/\y=.int b/\((op=.add/\Q (.int<|a+b) H)\/(op=.sub/\Q (.int<|a - b) H))
def Bx{op:ϗ}{bop:O.Bop}{n:Int}{k:Nat}{cH š:Pos}(hK:X.K=i.K)(A:ClsA i)(F:FldOk i f)(hop:Ch X op<|rAS bop)(ho:PE X o<|tE X i Φ mo) :
  PS X (.AugAssign (.Attribute o (gC f) cH) op (.Constant (.int n) k š) ë) (tSt X i Φ<|.augFld mo f bop n) :=
 (Ao ho OA hop).imp λD σ H ⟨env,G,N,R,B,C,Xe,p,w,c⟩=>by
  refine one p.pre w λv G1 H1 x k1 p1 r q=>?_;let⟨u,e1,q2⟩:=eU q;clear q;let⟨a,C',fs,rfl,e2,e3⟩:=Kw e1;cases r.ref_inv;let⟨c',dx,ps,hi,hc,h1,rf⟩:=p1.hp a _ e2;let⟨y,l,ry⟩:=rf.look.1 u e3;refine⟨a,c',dx,ps,y,rfl,h1,by rw[hK];exact A.cls _ _ hi hc,by rw[hK];exact F.no _ _ hc,l,?_⟩;let⟨z,e4,q3⟩:=eU q2;clear q2;let⟨G3,e5,q4⟩:=eU q3;clear q3;let⟨n1,n2,rfl,e0,hz⟩:=JF e4;cases e0;cases ry.int_inv;let⟨a2,C2,fs2,e6,e7,hl,rfl⟩:=JW e5;cases e6;rw[e2]at e7;cases e7;have fin:∀n:Int,z=.int n->∃dx' fs',H1 a=eL (.ins c' dx' fs')/\fs'.length<1000/\D.nx σ (upd H1 a<|.ins c' dx'<|L2.fh (gC f) (.int n) fs'):=λn hn=>by subst hn;let⟨k3,g3⟩:=Um p1.hp hi hc h1<|rf.put (f:=f) (x:=.int n)<|.int n;refine⟨dx,ps,h1,by rw[<-rf.length];lia,?_⟩;exact c.nx _ _ _ _ (k1.trans k3) g3 (p.en.keep<|k1.trans k3) q4
  rcases hz with⟨e,hz⟩|⟨e,hz⟩
  .exact⟨n1,n,rfl,rfl,.inl ⟨e,fin _ hz⟩⟩
  .exact⟨n1,n,rfl,rfl,.inr ⟨e,fin _ hz⟩⟩
abbrev Dfm(pr:ã)(w:Ā)(mg:Str->Option Ã)(base:ĉ)(i:Inf)(P:O.Pg)(n:Nat)(f:String)(fa:Í):Prop :=
 ∃fd ps,fz pr w i.K mg base (CX1 pr w) (2*n) fa fd ps (spF i P n f)/\Binds i.K fd ps []
variable {P:O.Pg} {n:Nat} {es:List Expr} {ms:O.Es} {p:Pos}
def Pj{k:Nat}{Cn:String}{C f:Í}(hK:X.K=i.K)(hi:i.ins Cn=eN)(hc:i.cl Cn C)(M:Mk i.K C f)(D:Dfm X.prog X.w X.mg X.base i P n (Cn ++ ".__init__") f)(hr:fy (2*n+1) X.A)
  (hg:Gl X<|gC Cn) (hm:X.mg (gC Cn)=eL (.ref C)) (cI:(gC Cn==("__debug__" : Str))=eP)
  (ha:PA X (e::es)<|tAr X i (O.wF P n) ms k) (he:Ü (e::es) X.env=(eP,eval e X.env)::Ü es X.env) (hpl:(ģ ë<|Ü es X.env).any (·.1)=eP) :
  PE X (.Call (.Name (gC Cn) p) (e::es) [] ë) (tE X i (O.wF P n)<|.make Cn ms):=by
 let⟨fd,ps,F,hb⟩:=D;rw[<-hK]at F hb M;intro Â s σ H Q I h;let⟨env,G,Qm,Em,pr,w,c⟩:=h;refine Fx (E:=XK1 i H Em) M F hr hg hm hb .nil (XW.passes pr.xo) ha cI he hpl Â s σ H Q I ⟨env,G,_,Em,pr,w,λvs G1 H1 xs k1 g1 r1 hl w1 x dx hx hd ž=>?_⟩;have ka:fo H1<|upd H1 dx<|.own x:=fo.new hd;have hx2:upd H1 dx (.own x) x=eM:=by rw[eQ λz=>ž z.symm];exact hx
 have kb:fo (upd H1 dx<|.own x)<|upd (upd H1 dx<|.own x) x<|.ins C dx []:=fo.new hx2;have g2:RH i G1<|upd H1 dx<|.own x:=WU g1 hd;have g3:RH i (O.upd G1 x<|.ins Cn [])<|upd (upd H1 dx<|.own x) x<|.ins C dx []:=g2.put kb ⟨C,dx,[],hi,hc,eR,.nil⟩;have k:=ka.trans kb;refine⟨.ref x::vs,_,_,Em,.cons (.ref x) (by rw[ö];exact r1.keep k),g3,w1 x<|g1.free hx,?_,λcls d H' h=>(h.go k).go k1⟩;intro v G' H' y k' g' rv ⟨hv,hq⟩;subst hv;exact⟨rv.non_inv,c _ G' H' _ ((k1.trans k).trans k') g' (.ref x) hq⟩
variable {m:String}
def K8{v:O.Val}(h:O.clsV G v m=eL C):∃a fs,v=.ref a/\G a=eL (.ins C fs)/\fs.lookup m=eM:=by
 let⟨a,h1,h⟩:=ì.mp h;let⟨p,h2,h3⟩:=ì.mp h;have e:=Ji h2;by_cases z:(p.2.lookup m).isNone=eN
 .rw[gp z]at h3;cases h3;exact⟨a,p.2,Jq h1,e,aS.mp z⟩
 .rw[gq z]at h3;cases h3
variable {Ő:Pos} {pl:Sem Bool}
def IR{k:Nat}{Cn:String}{C f:Í}(hK:X.K=i.K)(hfn:∀c,i.cl Cn c->c=C)(A:Cls i.K C)(M:Meth i.K C (gC m) f)(D:Dfm X.prog X.w X.mg X.base i P n (Cn ++ "." ++ m) f)(hr:fy (2*n) X.A)
  (ho:PE X o<|tE X i (O.wF P n) mo) (ha:PA X (e::es)<|tAr X i (O.wF P n) ms k) (he:Ü (e::es) X.env=(eP,eval e X.env)::Ü es X.env) (hpl:(ģ ë<|Ü es X.env).any (·.1)=eP)
  (ht:eval (.Call (.Attribute o (gC m) Ő) (e::es) [] ë) X.env=(do
    let ov<-eval o X.env
    ϊ Ő.atName
    let (f,first)<-ő [ov] (Ϙ ov (gC m) pl)
    cp ë f first (ģ ë<|Ü (e::es) X.env) (η ë<|ŋ [] X.env))) :
  PE X (.Call (.Attribute o (gC m) Ő) (e::es) [] ë) (tE X i (O.wF P n)<|.meth Cn m mo ms):=by
 let⟨fd,ps,F,hb⟩:=D;rw[<-hK]at F hb M A;intro Â s σ H Q I h;let⟨env,G,Qm,Em,pr,w,c⟩:=h;refine GJ (E:=XK1 i H Em) ho A M F hr hb .nil (XW.passes pr.xo) ha he hpl ht Â s σ H Q I<|one pr w λv G1 H1 x k1 p1 rv q=>?_;let⟨hq,w1⟩:=q;let⟨a,fs,rfl,e2,e3⟩:=K8 hq;cases rv.ref_inv;let⟨c',dx,cN,hi,hc,h1,rf⟩:=p1.hp a _ e2;cases hfn c' hc;refine⟨a,dx,cN,rfl,h1,rf.look.2 e3,env,G1,_,Em,p1,w1,λvs G2 H2 xs k2 g2 r2 hl w2=>?_⟩;exact⟨.ref a::vs,G2,Qm,Em,.cons (.ref a) (by rw[ö];exact r2),g2,w2,(c.go k1).go k2,λcls d H' h=>(h.go k2).go k1⟩
def GI{Cn:String}{C f:Í}(hK:X.K=i.K)(hfn:∀c,i.cl Cn c->c=C)(A:Cls i.K C)(M:Meth i.K C (gC m) f)(D:Dfm X.prog X.w X.mg X.base i P n (Cn ++ "." ++ m) f)(hr:fy (2*n) X.A)
  (ho:PE X o<|tE X i (O.wF P n) mo)
  (ht:eval (.Call (.Attribute o (gC m) Ő) [] [] ë) X.env=(do
    let ov<-eval o X.env
    ϊ Ő.atName
    let (f,first)<-ő [ov] (Ϙ ov (gC m) pl)
    cp ë f first (ģ ë<|Ü [] X.env) (η ë<|ŋ [] X.env))) :
  PE X (.Call (.Attribute o (gC m) Ő) [] [] ë) (tE X i (O.wF P n)<|.meth Cn m mo .nil):=by
 let⟨fd,ps,F,hb⟩:=D;rw[<-hK]at F hb M A;intro Â s σ H Q I h;let⟨env,G,Qm,Em,pr,w,c⟩:=h;refine Ed (E:=XK1 i H Em) ho A M F hr hb .nil (XW.passes pr.xo) ht Â s σ H Q I<|one pr w λv G1 H1 x k1 p1 rv q=>?_;let⟨hq,w1⟩:=q;let⟨a,fs,rfl,e2,e3⟩:=K8 hq;cases rv.ref_inv;let⟨c',dx,cN,hi,hc,h1,rf⟩:=p1.hp a _ e2;cases hfn c' hc;refine⟨a,dx,cN,rfl,h1,rf.look.2 e3,?_⟩;exact⟨[.ref a],G1,Qm,Em,.cons (.ref a) .nil,p1.hp,w1,c.go k1,λcls d H' h=>h.go k1⟩
def Gi(hK:X.K=i.K)(D:Dfo X.prog X.w X.mg X.base i P n f)(hr:fy (2*n) X.A)(hg:Gl X<|gC f)(cI:(gC f==("__debug__" : Str))=eP) :
  PE X (.Call (.Name (gC f) p) [] [] ë) (tE X i (O.wF P n)<|.call f .nil):=by
 let⟨fa,fd,ps,F,hm,hk,hb⟩:=D;rw[<-hK]at F hk hb;intro Â s σ H Q I h;let⟨env,G,Qm,Em,pr,w,c⟩:=h;refine B1 (E:=XK1 i H Em) F hr hg hm hk hb .nil (XW.passes pr.xo) cI Â s σ H Q I ?_;exact⟨[],G,Qm,Em,.nil,pr.hp,w,c,λcls d H' h=>h⟩
abbrev Uq(X:Cx)(i:Inf)(Φ:O.Fs):O.Es->List (TE×TE)
 |.cons k (.cons v r)=>(tE X i Φ k,tE X i Φ v)::Uq X i Φ r
 |_=>[]
abbrev JZ:O.Es->Bool
 |.nil=>eN
 |.cons _ .nil=>eP
 |.cons _ (.cons _ r)=>JZ r
abbrev esL:O.Es->Nat
 |.nil=>0
 |.cons _ es=>esL es+1
abbrev UB:List V->List (V×V)
 |x::y::r=>(x,y)::UB r
 |_=>[]
def NA:∀(es:O.Es),JZ es=eN->∀{σ:St}{H:Hp}{env:O.Env}{G:O.Hs}{Qm:List O.Val->O.Hs->Prop}{Em:O.XQ}{Q:List (V×V)->Hp->Prop},Pre X i σ H env G Em->O.wA Φ es env G Qm Em->
  (∀vs G' H' xs,fo H H'->RH i G' H'->RVs i.K H' vs xs->xs.length=esL es->Qm vs G'->Q (UB xs) H')->Na (Uq X i Φ es) σ H Q
 |.nil,_,σ,H,env,G,Qm,Em,Q,p,w,c=>by rw[O.q_a_nil]at w;exact c [] G H [] (fo.refl H) p.hp .nil rfl w
 |.cons k .nil,h,_,_,_,_,_,_,_,_,_,_=>by cases h
 |.cons k (.cons v r),h,σ,H,env,G,Qm,Em,Q,p,w,c=>by rw[O.q_a_cons]at w;refine one p w λa G1 H1 x k1 p1 ra q=>?_;rw[O.q_a_cons]at q;refine one p1 q λb G2 H2 y k2 p2 rb q2=>?_;refine NA r h p2 q2 λvs G' H' xs k3 g3 rv hl hq=>?_;exact c (a::b::vs) G' H' (x::y::xs) ((k1.trans k2).trans k3) g3 (.cons ((ra.keep k2).keep k3)<|.cons (rb.keep k3) rv) (by rw[Ï,Ï,hl];rfl) hq
def Jm{K:Frag}{H:Hp}:∀{vs:List O.Val}{xs:List V}{kvs:List (O.Val×O.Val)},RVs K H vs xs->O.pairUp vs=eL kvs->∃ps:List<|Key×V,UB xs=ps.map (λkv=>(kV kv.1,kv.2))/\RKs K H kvs ps/\2*ps.length=xs.length
 |[],_,_,r,e=>by cases r;cases e;exact⟨[],rfl,.nil,rfl⟩
 |[_],_,_,_,e=>by cases e
 |a::b::vs,_,kvs,r,e=>by
  cases r with
  |cons ra r=>cases r with
  |cons rb t =>
  rename_i y _;unfold O.pairUp at e;split at e
  .rename_i hk;let⟨ks,e2,rfl⟩:=Ë.mp e;let⟨ps,h1,h2,h3⟩:=Jm t e2;let⟨c,hc,rfl⟩:=fg hk ra;refine⟨(c,y)::ps,?_,.cons hc rb h2,by rw[Ï,Ï,Ï];lia⟩;show(kV c,y)::UB _=_;rw[h1];rfl
  .cases e
def RKs.merge{K:Frag}{H:Hp}:∀{kvs:List (O.Val×O.Val)}{ps:List (Key×V)}{Į:List (O.Val×O.Val)}{bs:List (Key×V)},RKs K H Į bs->RKs K H kvs ps->RKs K H (O.putAll Į kvs) (YY bs ps)
 |_,_,_,_,r,.nil=>r
 |_,_,Į,bs,r,.cons (k:=k) (v:=v) (c:=c) (x:=x) (kvs:=kvs) (ps:=ps) a q t=>by show RKs K H (O.putAll (O.fv Į k v) kvs) (YY (L2.fv bs c x) ps);exact RKs.merge (RKs.put a q r) t
variable {ë:Pos}
def IZ:PE X (.Dict [] [] ë) (tE X i Φ<|.dct .nil) :=
 pe_dnewK.imp λσ H Q ⟨env,G,Qm,Em,p,w,c⟩=>by rw[O.q_e_dct]at w;unfold O.new at w;intro a ha;have w1:=w a<|p.hp.free ha;let⟨a',e,w2⟩:=eU w1;cases e;rw[O.q_a_nil]at w2;let⟨ks,e2,_,w3⟩:=eU w2;cases e2;rw[O.eS]at w3;have k:=fo.new (o:=.dK []) ha;exact c _ _ _ _ k (p.hp.put (o:=.dct []) k ⟨[],eR,.nil⟩) (.ref a) w3
def Qq{es:O.Es}{keys:List (Option Expr)}{Ρ:List Expr}(he:JZ es=eN)(h30:esL es<=30)(h:PPs X ë keys Ρ<|Uq X i Φ es)(hall:keys.all (·.isSome)=eN)(hl:keys.length=Ρ.length)(h0:keys≠[])(h15:keys.length<=15):PE X (.Dict keys Ρ ë) (tE X i Φ<|.dct es) :=
 (EN h hall hl h0 h15).imp λσ H Q ⟨env,G,Qm,Em,p,w,c⟩=>by
  rw[O.q_e_dct]at w;unfold O.new at w;intro a ha;have w1:=w a<|p.hp.free ha;let⟨a',e,w2⟩:=eU w1;cases e;have k:=fo.new (o:=.dK []) ha;have p2:Pre X i σ (upd H a<|.dK []) env (O.upd G a<|.dct []) Em:=p.go k<|p.hp.put (o:=.dct []) k ⟨[],eR,.nil⟩;refine NA es he p2 w2 λvs G' H' xs k2 g2 rv hl w3=>?_;let⟨ks,e2,e3,w4⟩:=eU w3;let⟨ps,e4,r4⟩:=g2 a _ e3;cases r4;let⟨qs,h1,h2,h3⟩:=Jm rv e2;refine⟨e4,qs,h1,by lia,?_⟩;have k3:fo H'<|upd H' a<|.dK<|YY [] qs:=fo.put (λxs e=>by rw[e4]at e;cases e) λp u e=>by rw[e4]at e;cases e
  exact c _ _ _ _ ((k.trans k2).trans k3) (g2.put (o:=.dct<|O.putAll [] ks) k3 ⟨_,eR,(RKs.merge .nil h2).keep k3⟩) (.ref a) w4
end Snd
namespace L2
open PySem PySem.Spec PyProof.Rows
section
variable {X:Cx}{Â:List (Í×Obj)}{σ:St}{H:Hp}{s:Å}{a:Í}{o:Obj}{ps:List (Key×V)}
def Inv.freeze(I:Inv X Â σ H s)(e:H a=eL (.dK ps))(ho:s.heap.get? a=eL o):Inv X Â σ (upd H a<|.frz o<|.dK ps) s:=by have h:=I.hok a _ e;exact I.write (t':=s.toks) (x:=a) (e:=a) (h':=s.heap) (by rw[e];exact True.intro) (.inl rfl) (λ_ _ _ q=>q) ⟨o,ho⟩ ⟨ho,h⟩
def Inv.thaw(I:Inv X Â σ H s)(e:H a=eL (.frz o<|.dK ps))(h0:∀o u,X.H₀ a≠eL (.frz o u)):Inv X Â σ (upd H a<|.dK ps) s:=by
 have hn:∀b,H b=eM->upd H a (.dK ps) b=eM:=λb z=>by rw[eQ<|by rintro rfl;rw[e]at z;cases z];exact z
 have ho:=I.hok a _ e;refine⟨I.ok,I.os,I.bare,⟨I.base.keep,I.base.slot,λb ob q n hx=>hn b<|I.base.free b ob q n hx,I.base.there,λb xs q=>?_,λb ob u q=>?_,λb qs q=>?_⟩,I.loc,I.cell,hn _ I.free,λx c q=>hn _<|I.freeC x c q,λp hp=>?_,λb u q=>?_,I.len⟩
 .have z:=I.base.tups b xs q;rw[eQ<|by rintro rfl;rw[e]at z;cases z];exact z
 .have z:=I.base.frzs b ob u q;rw[eQ<|by rintro rfl;exact h0 _ _ q];exact z
 .obtain⟨m,z⟩:=I.base.tbls b qs q;exact⟨m,by rw[eQ<|by rintro rfl;rw[e]at z;cases z];exact z⟩
 .obtain⟨q1,q2,q3,q4,q5⟩:=I.pin p hp;exact⟨q1,hn _ q2,q3,q4,q5⟩
 .by_cases hb:b=a
  .subst hb;rw[eR]at q;cases q;exact ho.2
  .rw[eQ hb]at q;refine(I.hok b u q).stay (λ_ _ _ q=>q) (λc z=>?_) λc xs z=>?_
   .rw[eQ<|by rintro rfl;rw[e]at z;cases z];exact z
   .rw[eQ<|by rintro rfl;rw[e]at z;cases z];exact z
end
abbrev Ends.thaw(X:Cx)(D:Ends):Ends where
 nx:=λσ H=>∃a o ps,H a=eL (.frz o<|.dK ps)/\(∀o u,X.H₀ a≠eL (.frz o u))/\D.nx σ (upd H a<|.dK ps)
 rt:=λv H=>∃a o ps,H a=eL (.frz o<|.dK ps)/\(∀o u,X.H₀ a≠eL (.frz o u))/\D.rt v (upd H a<|.dK ps)
 bk:=D.bk
 ct:=D.ct
variable {X:Cx}
def GV{st:ľ}{t:TS}(h:PS X st t):PS X st λD σ H=>t (D.thaw X) σ H:=λÂ s σ H D I q =>
 thn (h Â s σ H _ I q) λf s' z=>by
  cases f with
  |next =>let⟨ř,H',I',a,o,ps,e,h0,q⟩:=z;exact⟨ř,_,I'.thaw e h0,q⟩
  |ret u =>let⟨v,ř,H',I',r,a,o,ps,e,h0,q⟩:=z;exact⟨v,ř,_,I'.thaw e h0,r,q⟩
  |brk=>exact z
  |cont=>exact z
abbrev Iti(a:Í)(o:Obj)(ps:List<|Key×V):It :=
 ⟨λi H=>H a=eL (.frz o<|.dK ps)/\i<ps.length,λi H v H'=>∃p k x,v=.ref p/\H p=eM/\ps[i]?=eL (k,x)/\H'=upd H p (.tup [kV k,x]),λi H=>H a=eL (.frz o<|.dK ps)/\ps.length<=i⟩
def BP{k:Key}{u:Ã}(h:W7 k u=eN):RelV (kV k) u:=by
 rcases Zp h with⟨i,t,rfl,rfl⟩|⟨x,t,rfl,rfl⟩
 .exact⟨t,rfl⟩
 .exact⟨t,rfl⟩
def KV.at:∀{ps:List (Key×V)}{vs:List (Key×Ã)}{i:Nat}{k:Key}{x:V},KV ps vs->ps[i]?=eL (k,x)->∃u,vs[i]?=eL (k,u)/\RelV x u:=by
 intro ps vs i k x r;unfold KV at r;induction r generalizing i with
 |nil=>intro h;simp at h
 |@cons p q ps qs h t ih =>
  intro e;cases i with
  |zero =>simp at e;subst e;let⟨q1,q2⟩:=q;let⟨h1,h2⟩:=h;have h1:k=q1:=h1;subst h1;exact⟨q2,rfl,h2⟩
  |succ i=>simpa using ih ⇑e
section
variable {X:Cx}{Â:List (Í×Obj)}{σ:St}{H:Hp}{s:Å}{a:Í}{o:Obj}{ps:List (Key×V)}{es:Array DictEntry}{ep:Nat}
def Wa(I:Inv X Â σ H s)(e:H a=eL (.frz o<|.dK ps))(hd:o.data=.dict es ep):∃vs,KV ps vs/\s.heap.DictAt (Zh X.prog X.w) a vs ep:=by
 let⟨ho,_,_,vs,ű,o2,es2,ep2,h1,h2,h3,h4⟩:=(show eZ X.prog X.w H s.heap a (.frz o<|.dK ps) from I.hok a _ e)
 rw[ho]at h1;cases h1;rw[hd]at h3;cases h3;exact⟨vs,ű,o,es,ho,h2,hd,h4⟩
end
variable {P:ã} {w:Ā} {es:List Expr} {kk:Nat} {tp:Pos} {ds:Array DictEntry} {ep:Nat} {o:Obj} {ps:List (Key×V)}
def Uf{K:Frag}(a it:Í)(hd:o.data=.dict ds ep) :
  Turn P w K (.Tuple es kk tp) (Iti a o ps) [it] it (λi h=>∃ok ov,IsItemIter h it a i ps.length ep ok ov) where
 mem:=by simp
 obj:=λi h st b hb=>by
  let⟨ok,ov,h1⟩:=st;have q:b=it:=⇑hb
  subst q;exact⟨_,h1,λv z=>by cases z⟩
 keep:=λi h h' ⟨ok,ov,h1⟩ k=>⟨ok,ov,k it (by simp) _ h1⟩
 item:=by
  intro X hP hw hK hc i Â s σ H E I hf st hg;subst hP hw hK;let⟨e,hi⟩:=hg;let⟨ok,ov,h1⟩:=st;let⟨vs,ű,da⟩:=Wa I e hd;have hl:ps.length=vs.length:=ű.length;have hx:ps[i]?=eL ps[i]:=É hi;let⟨u,hu,ru⟩:=ű.at (k:=ps[i].1) (x:=ps[i].2) hx;rw[hl]at h1;refine wpAny_pyNext_items_item h1 da hu λkey h3 hk hout hT hsz hkeep=>?_;have hfi:=hf it (by simp);have hit:it<s.heap.objs.size:=Ú h1;have nT:s.heap.objs.size≠it:=ť hit;have bP:=I.fpOk (H':=H) (Ì s.heap.objs.size) I.fresh;refine⟨.ref s.heap.objs.size,rfl,wpAny_letOwnedTupleGo_items (s:={s with heap:=h3}) hout λh4 he4 hs4=>?_⟩;have I4:Inv X Â σ H {s with heap:=h4,toks:=s.toks}:=I.turnedL (t':=s.toks) (ch:=[it]) (λb ob hb q=>hs4.extBut b ob (λz=>hb<|by simp[z])<|hkeep b ob (λz=>hb<|by simp[z]) q) hf;have hT4:h4.get? s.heap.objs.size=eL {cls:=.type "tuple",data:=.seq #[key,u]}:=hs4.extBut _ _ nT hT;let⟨f0,f1,f2,f3,f4,f5⟩:=bP;have I5:Inv X Â σ (upd H s.heap.objs.size<|.tup [kV ps[i].1,ps[i].2]) {s with heap:=h4,toks:=s.toks}:=I4.track f0 I.sz f1 f4 f5 ⟨by show 2<=ß;decide,[key,u],.cons (BP hk)<|.cons ru .nil,_,hT4,rfl,_,rfl⟩;refine⟨.ref s.heap.objs.size,_,I5,rfl,⟨s.heap.objs.size,_,_,rfl,f0,hx,rfl⟩,⟨key,u,by rw[hl];exact he4⟩,λb hb=>?_⟩;have q:b=it:=⇑hb
  subst q;rw[eQ nT.symm];exact hfi.1
 done:=by
  intro X hP hw hK hc i Â s σ H E I hf st hg;subst hP hw hK;let⟨e,hi⟩:=hg;let⟨ok,ov,h1⟩:=st;let⟨vs,ű,da⟩:=Wa I e hd;have hl:ps.length=vs.length:=ű.length;rw[hl]at h1 hi;refine wpAny_pyNext_items_end (I.ok.hd hc) h1 da (ļ hi) λh' he'=>⟨rfl,?_⟩
  exact I.turnedL (t':=s.toks) (ch:=[it]) (λb ob hb q=>he' b ob (λz=>hb<|by simp[z]) q) hf
 self:=λA i s Q E st h=>by let⟨ok,ov,h1⟩:=st;exact PySem.W.kcp_self h1 h
abbrev Itk(a:Í)(o:Obj)(ps:List<|Key×V):It :=
 ⟨λi H=>H a=eL (.frz o<|.dK ps)/\i<ps.length,λi H v H'=>H'=H/\∃k x,ps[i]?=eL (k,x)/\v=kV k,λi H=>H a=eL (.frz o<|.dK ps)/\ps.length<=i⟩
variable {tg:Expr}
def K0{K:Frag}(a it:Í)(hd:o.data=.dict ds ep) :
  Turn P w K tg (Itk a o ps) [it] it (λi h=>h.IsKeyIter it a i ps.length ep) where
 mem:=by simp
 obj:=λi h st b hb=>by
  let⟨ob,h1,_,h2⟩:=st;have q:b=it:=⇑hb
  subst q;exact⟨ob,h1,λv z=>by rw[h2]at z;cases z⟩
 keep:=λi h h' st k=>st.at λo e=>k it (by simp) o e
 item:=by intro X hP hw hK hc i Â s σ H E I hf st hg;subst hP hw hK;let⟨e,hi⟩:=hg;let⟨vs,ű,da⟩:=Wa I e hd;have hl:ps.length=vs.length:=ű.length;have hx:ps[i]?=eL ps[i]:=É hi;let⟨u,hu,ru⟩:=ű.at (k:=ps[i].1) (x:=ps[i].2) hx;rw[hl]at st;refine wpAny_pyNext_dict_item st da hu λkey h3 hk st3 hs=>?_;have I3:Inv X Â σ H {s with heap:=h3,toks:=s.toks}:=I.turnedL (t':=s.toks) (ch:=[it]) (λb ob hb q=>hs.extBut b ob (λz=>hb<|by simp[z]) q) hf;let⟨ob,ho,aM,hda⟩:=id st3;refine⟨key,rfl,eV (s:={s with heap:=h3,toks:=s.toks}) ho aM hda (by decide) ⟨kV ps[i].1,H,I3,BP hk,⟨rfl,_,_,hx,rfl⟩,?_,λb hb=>(hf b hb).1⟩⟩;show h3.IsKeyIter it a (i+1) ps.length ep;rw[hl];exact st3
 done:=by
  intro X hP hw hK hc i Â s σ H E I hf st hg;subst hP hw hK;let⟨e,hi⟩:=hg;let⟨vs,ű,da⟩:=Wa I e hd;have hl:ps.length=vs.length:=ű.length;rw[hl]at st hi;refine wpAny_pyNext_dict_end (I.ok.hd hc) st da (ļ hi) λh' he'=>⟨rfl,?_⟩
  exact I.turnedL (t':=s.toks) (ch:=[it]) (λb ob hb q=>he' b ob (λz=>hb<|by simp[z]) q) hf
 self:=λA i s Q E st h=>wpAny_pyIter_keyiter st h
abbrev Ir(X:Cx)(J:Í->Obj->List (Key×V)->It)(td:TE):TI:=λσ H R=>td σ H λx H1=>∃a ps,x=.ref a/\H1 a=eL (.dK ps)/\∀o,(∀o u,X.H₀ a≠eL (.frz o u))->R (J a o ps) (upd H1 a<|.frz o<|.dK ps)
variable {d:Expr} {td:TE}
def BF{Ő š:Pos}(hd:PE X d td)(aH:Ħ d "items" X.env (eval d X.env)=eval d X.env)(aI:(Ő.endLine==š.line)=eN) :
  PI X (.Tuple es kk tp) (.Call (.Attribute d "items" Ő) [] [] š) (Ir X Iti td):=by
 intro Â s σ H R I h;refine wpAny_Call_method0_late aH aI<|thn (hd Â s σ H _ I h) λv s1 ⟨x,H1,I1,r1,a,ps,ex,ea,q1⟩=>?_;subst ex;obtain rfl:v=Value.ref a:=r1;let⟨t1,t2,t3⟩:=HS I1<|.inl ⟨ps,.inl ea⟩;refine⟨"dict","dict.items",PySem.F.plainAttrs_dict,PySem.F.slot_dict_items,PySem.F.type_dict_items,t1,t2,Calls.callWith_builtin rfl<|PySem.evalArgs_none ?_⟩;let⟨z,hsm,vs,ű,dd⟩:=JN I1.hok ea;refine ϣ PySem.F.slot_dict_items dd.typeIs PySem.F.entry_dict_items (PySem.F.args_dict_items_1 _) (meets_dict_items (Zh X.prog X.w) a hsm) ⟨⟨vs,dd⟩,?_⟩;have I2:Inv X Â σ H1 {s1 with heap:=s1.heap.push {cls:=.type "dict_items",data:=.fields #[.ref a]}}:=I1.kept (t':=s1.toks) λb o e=>Ä _ e;let⟨z2,hsm2,vs2,rel2,cV⟩:=JN I2.hok ea;let⟨ep,da⟩:=cV.dictAt;refine wpAny_pyIter_items (s:={s1 with heap:=s1.heap.push {cls:=.type "dict_items",data:=.fields #[.ref a]}}) (d:=a) ⟨_,Ô _ rfl,rfl,rfl⟩ da ?_;have I3:=I2.kept (t':=s1.toks) (h':=(s1.heap.push {cls:=.type "dict_items",data:=.fields #[.ref a]}).push {cls:=.type "dict_itemiterator",data:=.fields #[.none,.bool eP,.ref a,.int 0 0,.int vs2.length 0,.int ep 0,.none,.none]}) λb o e=>Ä _ e;let⟨ob,ds,ho,_,hdat,_⟩:=da;have I4:=I3.freeze ea<|Ä _ ho;refine⟨_,[_],_,_,_,rfl,I4,Uf a _ hdat,⟨.none,.none,?_⟩,λb hb=>?_,q1 ob λo u z=>by have:=I1.base.frzs a o u z;rw[ea]at this;cases this⟩
 .rw[rel2.length];exact Ô _ rfl
 .have e:b=(s1.heap.push {cls:=.type "dict_items",data:=.fields #[.ref a]}).objs.size:=⇑hb
  subst e;have hn:=I2.hok.fresh<|Ì (s1.heap.push {cls:=.type "dict_items",data:=.fields #[.ref a]}).objs.size;exact I2.fpOk (Ì _) (by rw[eQ<|by intro z;rw[z]at hn;rw[ea]at hn;cases hn];exact hn)
def Go(hd:PE X d td):PI X tg d<|Ir X Itk td:=by
 intro Â s σ H R I h;refine thn (hd Â s σ H _ I h) λv s1 ⟨x,H1,I1,r1,a,ps,ex,ea,q1⟩=>?_;subst ex;obtain rfl:v=Value.ref a:=r1;let⟨z,hsm,vs,ű,dd⟩:=JN I1.hok ea;let⟨ep,da⟩:=dd.dictAt;refine wpAny_pyIter_dict hsm da ?_;have I2:=I1.kept (t':=s1.toks) (h':=s1.heap.push {cls:=.type "dict_keyiterator",data:=.fields #[.ref a,.int 0 0,.int vs.length 0,.int ep 0]}) λb o e=>Ä _ e;let⟨ob,ds,ho,_,hdat,_⟩:=da;have I3:=I2.freeze ea<|Ä _ ho;refine⟨_,[_],_,_,_,rfl,I3,K0 a _ hdat,⟨_,Ô _ rfl,rfl,by rw[ű.length];rfl⟩,λb hb=>?_,q1 ob λo u z=>by have:=I1.base.frzs a o u z;rw[ea]at this;cases this⟩;have e:b=s1.heap.objs.size:=⇑hb
 subst e;have hn:=I1.hok.fresh<|Ì s1.heap.objs.size;exact I1.fpOk (Ì _) (by rw[eQ<|by intro z;rw[z]at hn;rw[ea]at hn;cases hn];exact hn)
abbrev TupsH(I S:Í)(items:Array Ã)(val:Nat->List Int)(h:ĉ):Prop:=∀i v,items[i]?=eL v->∃a ø,v=.ref a/\a≠I/\a≠S/\aN h a ø/\ă ø.toList (val i)
def TupsH.keep{I S:Í}{items:Array Ã}{val:Nat->List Int}{h h':ĉ}(t:TupsH I S items val h)(k:∀b o,b≠I->b≠S->h.get? b=eL o->h'.get? b=eL o):TupsH I S items val h':=λi v e=>by let⟨a,ø,h1,h2,h3,⟨o,q1,q2⟩,h5⟩:=t i v e;exact⟨a,ø,h1,h2,h3,⟨o,k a o h2 h3 q1,q2⟩,h5⟩
abbrev btL(val:Nat->List Int)(i j:Nat):Bool:=HT.lexLt (val i)<|val j
section
variable {prog:ã}{w:Ā}{A:Ċ}{R:bp->Å->Prop}{I l:Í}{items:Array Ã}{val:Nat->List Int}{kw:List (Str×Ã)}{fp:List Í}{St:Nat->ĉ->Prop}
def A9(W:Walks prog w A.in1 I fp [I] items.size (λi v=>items[i]?=eL v) St)(hu:A.units+1<Ī)(S:Í)(hSI:S≠I)(hSf:S∉fp) :
  ∀(k j:Nat) (s:Å) (vb:Ã) (c:Nat),items.size - (j+1)=k->j+1<=items.size->St (j+1) s.heap->TupsH I S items val s.heap->items[ĵ (btL val) j]?=eL vb->
  s.heap.get? S=eL {cls:=.type "list",dict:=eM,data:=.seq #[vb,vb] c,slots:=#[]}->
  (∀v h' tk,items[ĵ (btL val)<|items.size - 1]?=eL v->(∀b o,b≠I->b≠S->s.heap.get? b=eL o->h'.get? b=eL o)->R (.ok<|.ret v) {s with heap:=h',toks:=tk})->
  codeAny (à prog w) A (.builtin "min.loop" ⟨[.ref I,.none,.ref S],kw⟩) R s:=by
 have bh:(toString "min" ++ toString ".loop" : String) = "min.loop":=by decide
 have hSw:S∉[I]:=by simp[hSI]
 intro k;induction k with
 |zero =>
  intro j s vb c hk hj Ž hT hPb hS hR;have hin:j+1=items.size:=by lia
  refine ĭ PySem.F.entry_min_loop ?_;rw[č PySem.F.plain_min_loop _];show wpAny _ A.in1 (aj (.ref S) >>= _) _ _ s;refine À<|ŕ hS rfl ?_;show wpAny _ A.in1 (tryCatch (ϐ<|.ref I) _ >>= _) _ _ s;refine À<|Ο<|W.done s _ _ (hin▸Ž) λh' tk bN=>?_;have hS':=bN S _ hSw hS;show wpAny _ A.in1 (dJ S (λ_=>#[]) >>= _) _ _ _;refine À ?_;refine Γ hS' rfl<|À<|bI<|Æ ?_;refine hR vb _ tk (by rw[<-hin];exact hPb) λb o hbw dW e=>(ñ _ _<|Ne.symm dW).trans (bN b o ⇑hbw e)
 |succ k ih =>
  intro j s vb c hk hj Ž hT hPb hS hR;have ϴ:j+1<items.size:=by lia
  refine ĭ PySem.F.entry_min_loop ?_;rw[č PySem.F.plain_min_loop _];show wpAny _ A.in1 (aj (.ref S) >>= _) _ _ s;refine À<|ŕ hS rfl ?_;show wpAny _ A.in1 (tryCatch (ϐ<|.ref I) _ >>= _) _ _ s;refine À<|Ο<|W.item (j+1) s _ _ ϴ Ž λv h' tk hP hst' bN=>?_;have hS':=bN S _ hSw hS;have dX:TupsH I S items val h':=hT.keep λb o h1 _ e=>bN b o ⇑h1 e;have hP:items[j+1]?=eL v:=hP;let⟨a,ø,rfl,_,_,pa,ia⟩:=dX _ _ hP;let⟨b0,ϛ,rfl,_,_,pb,ib⟩:=dX _ _ hPb;show wpAny _ A.in1 (tryCatch (ő [.ref a,.ref a]<|î .Lt (.ref a) (.ref b0) >>= _) _ >>= _) _ _ _;refine À<|Ο<|ę<|À<|HT.lt_tupInts pa pb ia ib hu ?_;refine À<|ę<|Ď ?_;refine À<|bI<|Æ ?_;cases hb:HT.lexLt (val<|j+1) (val<|ĵ (btL val) j)with
  |true =>
   have bB:btL val (j+1) (ĵ (btL val) j)=eN:=hb;simp only[if_true];refine À ?_;refine Γ hS' rfl<|À<|bI ?_;rw[bh];refine Æ ⟨ŏ PySem.F.plain_min_loop _,ih (j+1) _ (.ref a) _ (by lia) ϴ (W.frame _ _ _ hst' λb hbf o e=>?_) (dX.keep λb o _ h2 e=>(ñ _ _<|Ne.symm h2).trans e) (by simp only[ĵ,bB,if_true];exact hP) (Ė _ hS' rfl)
     λv' h'' tk'' hP' hk''=>?_⟩
   .exact(ñ _ _ λh:S=b=>hSf<|by rw[h];exact hbf).trans e
   .exact hR v' h'' tk'' hP' λb o hbw dW e=>hk'' b o hbw dW ((ñ _ _<|Ne.symm dW).trans<|bN b o ⇑hbw e)
  |false =>have bB:btL val (j+1) (ĵ (btL val) j)=eP:=hb;simp only[ī,if_false];refine À<|bI ?_;rw[bh];refine Æ ⟨ŏ PySem.F.plain_min_loop _,ih (j+1) _ (.ref b0) c (by lia) ϴ hst' dX (by simp only[ĵ,bB,ī,if_false];exact hPb) hS' λv' h'' tk'' hP' hk''=>?_⟩;exact hR v' h'' tk'' hP' λb o hbw dW e=>hk'' b o hbw dW (bN b o ⇑hbw e)
variable {s:Å} {c:Nat}
def Ud(W:Walks prog w A.in1 I fp [I] items.size (λi v=>items[i]?=eL v) St)(hu:A.units+1<Ī)(S:Í)(hSI:S≠I)(hSf:S∉fp)(hn:0<items.size)(Ž:St 0 s.heap)(hT:TupsH I S items val s.heap)
  (hS:s.heap.get? S=eL {cls:=.type "list",dict:=eM,data:=.seq #[] c,slots:=#[]})
  (hR:∀v h' tk,items[ĵ (btL val)<|items.size - 1]?=eL v->(∀b o,b≠I->b≠S->s.heap.get? b=eL o->h'.get? b=eL o)->R (.ok<|.ret v) {s with heap:=h',toks:=tk}) :
  codeAny (à prog w) A (.builtin "min.loop" ⟨[.ref I,.none,.ref S],kw⟩) R s:=by
 have bh:(toString "min" ++ toString ".loop" : String) = "min.loop":=by decide
 have hSw:S∉[I]:=by simp[hSI]
 refine ĭ PySem.F.entry_min_loop ?_;rw[č PySem.F.plain_min_loop _];show wpAny _ A.in1 (aj (.ref S) >>= _) _ _ s;refine À<|ŕ hS rfl ?_;show wpAny _ A.in1 (tryCatch (ϐ<|.ref I) _ >>= _) _ _ s;refine À<|Ο<|W.item 0 s _ _ hn Ž λv h' tk hP hst' bN=>?_;have hS':=bN S _ hSw hS;have dX:TupsH I S items val h':=hT.keep λb o h1 _ e=>bN b o ⇑h1 e;show wpAny _ A.in1 (dJ S (λ_=>#[v,v]) >>= _) _ _ _;refine À ?_;refine Γ hS' rfl ?_;rw[bh];refine Æ ⟨ŏ PySem.F.plain_min_loop _,A9 W hu S hSI hSf _ 0 _ v _ rfl hn (W.frame _ _ _ hst' λb hbf o e=>?_) (dX.keep λb o _ h2 e=>(ñ _ _<|Ne.symm h2).trans e) hP (Ė _ hS' rfl) λv' h'' tk'' hP' hk''=>?_⟩
 .exact(ñ _ _ λh:S=b=>hSf<|by rw[h];exact hbf).trans e
 .exact hR v' h'' tk'' hP' λb o hbw dW e=>hk'' b o hbw dW ((ñ _ _<|Ne.symm dW).trans<|bN b o ⇑hbw e)
def AC(hh:A.handled=eM)(hlI:l≠I)(S:Í)(hSI:S≠I)(hn:items.size=0){nm:Str}{d:Ã}(Ž:s.heap.IsListIter I l 0/\s.heap.IsList l items)
  (hS:s.heap.get? S=eL {cls:=.type "list",dict:=eM,data:=.seq #[] c,slots:=#[]})
  (hR:∀h' tk,(∀b o,b≠I->s.heap.get? b=eL o->h'.get? b=eL o)->R (.ok<|.ret d) {s with heap:=h',toks:=tk}) :
  codeAny (à prog w) A (.builtin "min.loop" ⟨[.ref I,.none,.ref S],[(nm,d)]⟩) R s:=by
 have W:=Walks.list (prog:=prog) (w:=w) (A:=A.in1) hh I l hlI items;refine ĭ PySem.F.entry_min_loop ?_;rw[č PySem.F.plain_min_loop _];show wpAny _ A.in1 (aj (.ref S) >>= _) _ _ s;refine À<|ŕ hS rfl ?_;show wpAny _ A.in1 (tryCatch (ϐ<|.ref I) _ >>= _) _ _ s;refine À (Ο<|W.done s _ _ (by rw[hn];exact Ž) λh' tk bN=>?_);show wpAny _ A.in1 (rule _ >>= λ_=>ret d) _ _ _;exact À (ϡ<|Æ<|hR h' tk λb o hb e=>bN b o ⇑hb e)
end
def Ay(a:Ã):cz "min" ⟨[a],[(gC "default",.none)]⟩:=by unfold cz;kernel_rfl
def J0(bt:Nat->Nat->Bool):∀k,ĵ bt k<=k
 |0=>Ì _
 |k+1=>by
  unfold ĵ;split
  .exact Ì _
  .exact Nat.le_succ_of_le<|J0 bt k
def MR:∀{xs:List V}{us:List Ã}{i:Nat}{u:Ã},f8 xs us->us[i]?=eL u->∃x,xs[i]?=eL x/\RelV x u
 |_,_,_,_,.nil,e=>by simp at e
 |_,_,0,_,.cons r _,e=>by simp at e;subst e;exact⟨_,rfl,r⟩
 |_,_,i+1,_,.cons _ t,e=>by let⟨x,h1,h2⟩:=MR (i:=i) t ⇑e;exact⟨x,⇑h1,h2⟩
section
variable {X:Cx}
def AV{Â:List (Í×Obj)}{s:Å}{σ:St}{H:Hp}{a:Í}{xs:List V}{ĝ:List (List Int)}{Q:VK}(hc:X.calm=eN)(hu:X.A.units+1<Ī)(I:Inv X Â σ H s)(hl:fY X.K H a xs)(hr:ĝ.length=xs.length)
  (ht:∀i,i<ĝ.length->∃p,xs[i]?=eL (.ref p)/\fZ X.K H p ((ĝ.getD i []).map V.int))
  (q0:xs=[]->Q .non H) (q1:xs≠[]->∀x,xs[ĵ (btL λi=>ĝ.getD i [])<|xs.length - 1]?=eL x->Q x H) :
  wpAny (à X.prog X.w) X.A (call (.builtin "min") [.ref a] [(gC "default",.none)]) (EP X Â σ Q) X.xe s:=by
 have bh:(toString "min" ++ toString ".loop" : String) = "min.loop":=by decide
 let⟨ø,rv,pl,hz⟩:=I.list hl;have hlen:=rv.length;have dz:=pl.isList;let⟨ol,hol,_⟩:=id dz;have hll:a<s.heap.objs.size:=Ú hol;refine PyProof.Rows.kmk_tree PySem.F.kind_min PySem.F.plain_min PySem.F.entry_min (Ay _) ?_;show wpAny _ X.A.in1 (Builtin.Builtins.bindParams "min" ["key","default"] 0 ⟨[],[(gC "default",.none)]⟩ >>= _) _ _ s;refine À (bF (show Builtin.Builtins.bindParams "min" ["key","default"] 0 ⟨[],[(gC "default",.none)]⟩=pure [eM,eL .none] from rfl) ?_);refine À<|Æ ?_;refine À<|ϋ dz ?_;refine À<|dj ?_<|ĕ _;rw[bh];have hS:(s.heap.push {cls:=.type "list_iterator",data:=.fields #[.ref a,.int 0 0]}).objs.size=s.heap.objs.size+1:=size_push' ..;have hlI:a≠s.heap.objs.size:=æ hll;have hSI:(s.heap.push {cls:=.type "list_iterator",data:=.fields #[.ref a,.int 0 0]}).objs.size≠s.heap.objs.size:=by rw[hS];exact ť<|Ě _
 have hSl:(s.heap.push {cls:=.type "list_iterator",data:=.fields #[.ref a,.int 0 0]}).objs.size≠a:=by rw[hS];exact ť<|ĳ hll
 have kk:∀b o,s.heap.get? b=eL o->((s.heap.push {cls:=.type "list_iterator",data:=.fields #[.ref a,.int 0 0]}).push<|Ν "list" #[] 0).get? b=eL o:=λb o e=>Ä _<|Ä _ e;have gI:((s.heap.push {cls:=.type "list_iterator",data:=.fields #[.ref a,.int 0 0]}).push<|Ν "list" #[] 0).get? s.heap.objs.size=eL {cls:=.type "list_iterator",data:=.fields #[.ref a,.int 0 0]} :=
  Ä _ (Ô _ rfl)
 have gS:((s.heap.push {cls:=.type "list_iterator",data:=.fields #[.ref a,.int 0 0]}).push<|Ν "list" #[] 0).get? (s.heap.push {cls:=.type "list_iterator",data:=.fields #[.ref a,.int 0 0]}).objs.size=eL (Ν "list" #[] 0):=Ô _ rfl;have Ϛ:∀b o,s.heap.get? b=eL o->b≠s.heap.objs.size/\b≠(s.heap.push {cls:=.type "list_iterator",data:=.fields #[.ref a,.int 0 0]}).objs.size:=λb o e=>by have:=Ú e;rw[hS];exact⟨æ this,æ<|ĳ this⟩
 have Ž:Heap.IsListIter ((s.heap.push {cls:=.type "list_iterator",data:=.fields #[.ref a,.int 0 0]}).push<|Ν "list" #[] 0) s.heap.objs.size a 0/\Heap.IsList ((s.heap.push {cls:=.type "list_iterator",data:=.fields #[.ref a,.int 0 0]}).push<|Ν "list" #[] 0) a ø.toArray:=by refine⟨⟨_,gI,rfl,rfl⟩,?_⟩;let⟨o,e,r⟩:=dz;exact⟨o,kk _ _ e,r⟩
 refine Æ ⟨ŏ PySem.F.plain_min_loop _,?_⟩;by_cases h0:xs=[]
 .have hi:ø.toArray.size=0:=by rw[Ê,<-hlen,h0];rfl
  refine AC (I:=s.heap.objs.size) (A:=X.A) (l:=a) (items:=ø.toArray) (I.ok.hd hc) hlI _ hSI hi Ž gS λh' tk hk=>?_;exact⟨.non,H,I.kept (t':=tk) λb o e=>hk b o (Ϛ b o e).1<|kk b o e,rfl,q0 h0⟩
 .have hi:0<ø.toArray.size:=by
   rw[Ê,<-hlen];exact dk.mpr h0
  refine Ud (A:=X.A) (items:=ø.toArray) (val:=λi=>ĝ.getD i []) (Walks.list (A:=X.A.in1) (I.ok.hd hc) s.heap.objs.size a hlI ø.toArray) hu _ hSI (λz=>(È.mp z).elim hSI λz=>hSl<|Ó.mp z) hi Ž (λi v e=>?_) gS λv h' tk hv hk=>?_
  .have e:ø[i]?=eL v:=⇑e
   have hi':i<ĝ.length:=by rw[hr,hlen];exact(Î.mp e).1
   let⟨p,cY,hp2⟩:=ht i hi';let⟨x,hx,rx⟩:=MR rv e;rw[cY]at hx;cases hx;obtain rfl:v=Value.ref p:=rx;let⟨tt,r2,⟨o2,e2,rest⟩,_⟩:=I.tuple hp2;exact⟨p,tt.toArray,rfl,(Ϛ p o2 e2).1,(Ϛ p o2 e2).2,⟨o2,kk _ _ e2,rest⟩,ZD r2⟩
  .have hv:ø[ĵ (btL λi=>ĝ.getD i [])<|xs.length - 1]?=eL v:=by rw[hlen];simpa using hv
   let⟨x,hx,rx⟩:=MR rv hv;exact⟨x,H,I.kept (t':=tk) λb o e=>hk b o (Ϛ b o e).1 (Ϛ b o e).2<|kk b o e,rx,q1 h0 x hx⟩
abbrev Re(K:Frag)(ta:TA):TE:=λσ H Q=>ta σ H λvs H1=>∃a xs,∃ĝ:List<|List Int,vs=[.ref a]/\fY K H1 a xs/\ĝ.length=xs.length/\
 (∀i,i<ĝ.length->∃p,xs[i]?=eL (.ref p)/\fZ K H1 p ((ĝ.getD i []).map V.int))/\(xs=[]->Q .non H1)/\(xs≠[]->∀x,xs[ĵ (btL λi=>ĝ.getD i [])<|xs.length - 1]?=eL x->Q x H1)
def Fg{e:Expr}{ta:TA}{p ë kp kpos:Pos}{kk:Nat}(hc:X.calm=eN)(hu:X.A.units+1<Ī)(hg:Gl X "min")(hm:X.mg "min" = eM)(ha:PA X [e] ta)(hs:Ü [e] X.env=[(eP,eval e X.env)]) :
  PE X (.Call (.Name "min" p) [e] [⟨eL "default",.Constant .none kk kp,kpos⟩] ë) (Re X.K ta):=by
 intro Â s σ H Q I h;refine İ (YI (u:=.builtin "min") I hg hm (by kernel_rfl) ?_);refine PyProof.Rows.callWith_kw (e:=e) (rest:=[]) ?_ (by rw[hs];rfl) (by rw[hs];rfl) rfl rfl;refine thn (ha ë Â s σ H _ I h) λus s1 ⟨vs,H1,I1,r1,a,xs,ĝ,ev,hl,hr,ht,q0,q1⟩=>?_;subst ev;let⟨u,rfl,ru⟩:=Z2 r1;cases ru;refine PyProof.Rows.kws_cons<|thn (Cb Â s1 σ H1 (λv H2=>v=.non/\H2=H1) I1 ⟨rfl,rfl⟩) λv s2 ⟨x,H2,I2,r2,e1,e2⟩=>PyProof.Rows.kws_nil ?_;subst e1 e2;obtain rfl:v=Value.none:=r2;exact AV hc hu I2 hl hr ht q0 q1
def We{P:ã}{w:Ā}:∀{ns:List Int}{vs:List (Key×Ã)}{Į:List Ã},vs.map (·.1)=ns.map Sum.inl->Į.length=vs.length->(∀(j:Nat) (v:Ã),Į[j]?=eL v->∃(k:Key) (x:Ã),vs[j]?=eL (k,x)/\(Zh P w).is k v=eN)->ă Į ns
 |[],[],[],_,_,_=>.nil
 |[],_::_,_,h,_,_=>by cases h
 |_::_,[],_,h,_,_=>by cases h
 |[],[],_::_,_,h,_=>by cases h
 |_::_,_::_,[],_,h,_=>by cases h
 |n::ns,p::vs,u::Į,h1,h2,h3=>by rw[Ñ,Ñ]at h1;injection h1 with h1 h1';let⟨k,x,e1,e2⟩:=h3 0 u rfl;simp at e1;subst e1;have h1:k=Sum.inl n:=h1;subst h1;obtain⟨t,rfl⟩:∃t,u=Value.int n t:=BP (k:=Sum.inl n) (u:=u) e2;exact .cons n t (We (P:=P) (w:=w) h1' ⇑h2 λj v e=>by simpa using h3 (j+1) v ⇑e)
def Mr(hc:X.calm=eN):eY X (.builtin "sorted") (λxs H Q=>∃p kvs,∃ns:List Int,xs=[.ref p]/\Rd H p (.dK kvs)/\kvs.map (·.1)=ns.map Sum.inl/\ns.length<64/\∀l,H l=eM->Q (.ref l) (upd H l<|.lst<|(sortI ns).map V.int)):=by
 intro Â s σ H xs us Q I r h;let⟨p,kvs,ns,rfl,hp,hk,h64,q⟩:=h;let⟨u,rfl,rx⟩:=Z2 r;cases rx;let⟨z,hsm,vs,ű,dd⟩:=XA I.hok hp;let⟨ep,da⟩:=dd.dictAt;have hlen:vs.length=ns.length:=by have:=congrArg List.length hk;simpa[ű.length]using this
 refine Calls.call_function_entry kind_sorted plain_sorted entry_sorted (args_sorted1 _) ?_;unfold Builtin.«sorted»;refine À (m:=checkCount "sorted" 1 1 _)<|Æ ?_;refine À (PySem.W.kdu_collect (A:=X.A.in1) (PySem.W.kdl_dict (knd:=Zh X.prog X.w) (kvs:=vs) (ep:=ep) hsm) (I.ok.hd hc) da (by rw[<-ű.length];exact z) λh' tk Į hkeep hacc=>?_);have hl:Į.toList.length=vs.length:=by rw[õ];exact hacc.1
 refine À (dj ?_<|by rw[hl,<-ű.length];exact z);have hI:ă Į.toList ns:=We (P:=X.prog) (w:=X.w) (by rw[<-ű.keys];exact hk) hl λj v e=>hacc.2 j v (by rw[<-Ą];exact e);have hoL:(h'.push<|Ν "list" Į.toList.toArray 0).get? h'.objs.size=eL (Ν "list" Į.toList.toArray 0):=Ô _ rfl;have I1:Inv X Â σ H {s with heap:=h',toks:=tk}:=I.kept hkeep;refine À (ę<|Ğ slot_list_sort ⟨_,hoL,rfl⟩ entry_list_sort (list_sort_tree hoL hI (by rw[hl,hlen];exact h64) λout ce a1 a2 a3=>⟨_,rfl,?_⟩)<|args_list_sort _);have e:=YB a2 a3;subst e;let⟨n,he⟩:=sortedHeap_at (out:=out) hoL;refine Æ ⟨_,rfl,.ref h'.objs.size,_,I1.laid (a:=h'.objs.size) (o:=.lst<|(sortI ns).map V.int) (t':=tk) (λb o e=>?_) (Ì _) ?_,rfl,q _<|I1.hok.fresh<|Ì _⟩
 .have e:h'.get? b=eL o:=e;have hb:=Ú e;rw[sortedHeap_old (æ hb)<|by rw[size_push'];exact ĳ hb];exact Ä _ e
 .exact⟨by rw[Á,YK];unfold ß;lia,out.toList,n,YM a1,by simpa[Ν]using he⟩
end
end L2
namespace Srt
open PySem.W PyProof.Rows
abbrev ok(n:Nat)(lt:Nat->Nat->Bool){α:Type}:KasT α->(α->Prop)->Prop
 |.ret a,Q=>Q a
 |.ask i j k,Q=>i<n/\j<n/\ok n lt (k<|lt i j) Q
section
variable {n:Nat}{lt:Nat->Nat->Bool}
abbrev K(p:Array Nat)(k:Nat):Nat:=p.getD k 0
end
end Srt
namespace Snd
open PySem L2
variable {i:Inf}{X:Cx}{Φ:O.Fs}
def Nr{H:Hp}:∀{kvs:List (O.Val×O.Val)}{ps:List (Key×V)}{ns:List Int},RKs i.K H kvs ps->O.keysOf kvs=eL ns->ps.map (·.1)=ns.map Sum.inl
 |_,_,ns,.nil,e=>by have e:eL []=eL ns:=e;cases e;rfl
 |(k,v)::kvs,_,ns,.cons (c:=c) hk _ t,e=>by
  have e:O.eX (k::kvs.map (·.1))=eL ns:=e;cases k with
  |int j =>
   have e:(O.eX (kvs.map (·.1))).map (j :: ·)=eL ns:=e;let⟨ms,z,rfl⟩:=Ë.mp e;have ih:=Nr (ns:=ms) t z;cases c with
   |inl l =>have hk:j=l:=hk;subst hk;rw[Ñ,Ñ,ih]
   |inr _=>exact(show False from hk).elim
  |_=>cases e
def Kt:∀{ys:List O.Val}{ns:List Int},O.eX ys=eL ns->ys=ns.map .int
 |[],_,e=>by cases e;rfl
 |y::ys,ns,e=>by
  cases y with
  |int j =>let⟨ms,z,rfl⟩:=Ë.mp (show(O.eX ys).map (j :: ·)=eL ns from e);rw[Ñ,<-Kt z]
  |_=>cases e
def N8{H:Hp}:∀{xs:List O.Val}{us:List V}{ĝ:List (List Int)},RVs i.K H xs us->O.rowsOf xs=eL ĝ->ĝ.length=us.length/\(∀n,n<ĝ.length->∃p,us[n]?=eL (.ref p)/\fZ i.K H p ((ĝ.getD n []).map V.int))/\xs=ĝ.map λr=>.tup (r.map .int)
 |_,_,ĝ,.nil,e=>by have e:eL []=eL ĝ:=e;cases e;exact⟨rfl,λn h=>gA h<|aT _,rfl⟩
 |v::xs,_,ĝ,.cons r t,e=>by
  cases v with
  |tup ys =>
   let⟨ns,z1,e⟩:=ì.mp (show(O.eX ys).bind (λns=>(O.rowsOf xs).map (ns :: ·))=eL ĝ from e);let⟨rs,z2,rfl⟩:=Ë.mp e;let⟨h1,h2,h3⟩:=N8 t z2;cases r with
   |tup hp hr =>
    have:=ZU z1 hr;subst this;refine⟨by rw[Ï,Ï,h1],λn hn=>?_,?_⟩
    .cases n with
     |zero=>exact⟨_,rfl,Zl hp⟩
     |succ n=>exact h2 n ⇑hn
    .rw[Ñ,<-h3];have:ys=ns.map .int:=Kt z1;rw[this]
  |_=>cases e
def O7:MO i .sortedI (λxs H Q=>(∃p,∃ns:List Int,xs=[.ref p]/\fY i.K H p (ns.map V.int)/\ns.length<64/\∀l,H l=eM->Q (.ref l) (upd H l<|.lst<|(L2.sortI ns).map V.int))\/
    (∃p kvs,∃ns:List Int,xs=[.ref p]/\Rd H p (.dK kvs)/\kvs.map (·.1)=ns.map Sum.inl/\ns.length<64/\∀l,H l=eM->Q (.ref l) (upd H l<|.lst<|(L2.sortI ns).map V.int))):=by
 intro vs G H xs Q Qm g r w c;let⟨v,rfl,w⟩:=Wv w;let⟨x,rfl,rx⟩:=r.inv1;have key:∀(ns:List Int),(if ns.length<64 then O.Rs.new (.lst<|(O.sortI ns).map .int)else .no).wp G Qm->ns.length<64/\∀l,H l=eM->Q (.ref l) (upd H l<|.lst<|(L2.sortI ns).map V.int):=λns w=>by
  split at w
  .rename_i h64;exact⟨h64,Yg g (Ng w) c λp hp=>⟨_,eR,RVs.ints _⟩⟩
  .exact(Zi w).elim
 cases v with
 |ref a =>
  cases rx.ref_inv
  replace w:(O.biSortedI G<|.ref a).wp G Qm:=w
  unfold O.biSortedI O.sortAny at w;dsimp only at w;cases z:G a with
  |none=>rw[z]at w;exact(Zi w).elim
  |some o =>
   rw[z]at w;cases o with
   |lst ys =>
    cases z2:O.eX ys with
    |none=>simp only[z2]at w;exact(Zi w).elim
    |some ns =>simp only[z2]at w;let⟨us,h1,h2⟩:=g a _ z;have:=ZU z2 h2;subst this;exact .inl ⟨a,ns,rfl,fY.of h1,key ns w⟩
   |dct kvs =>
    cases z2:O.keysOf kvs with
    |none=>simp only[z2]at w;exact(Zi w).elim
    |some ns =>simp only[z2]at w;let⟨ps,h1,h2⟩:=g a _ z;exact .inr ⟨a,ps,ns,rfl,.inl h1,Nr h2 z2,key ns w⟩
   |_=>exact(Zi w).elim
 |scr ns =>
  cases rx with
  |scr h=>exact .inl ⟨_,ns,rfl,Z3 h,key ns w⟩
 |_=>exact(Zi w).elim
end Snd
namespace L2
open PySem PySem.Spec PyProof.Rows
section
variable {X:Cx}{e:Expr}{te:TE}{lo hi:Option Expr}{st:Expr}{tl th:TO}{ts:TE}{ë p2:Pos}
def Me{xs:List V}{us:List Ã}(r:f8 xs us):∀ix:List Nat,f8 (O.pickL ix xs) (O.pickL ix us)
 |[]=>.nil
 |k::ix=>by
  have h:(xs[k]?=eM/\us[k]?=eM)\/∃x u,xs[k]?=eL x/\us[k]?=eL u/\RelV x u:=by
   clear ix;induction r generalizing k with
   |nil=>exact .inl ⟨rfl,rfl⟩
   |cons r1 r2 ih =>
    cases k with
    |zero=>exact .inr ⟨_,_,rfl,rfl,r1⟩
    |succ k=>exact ih k
  have ih:=Me r ix;unfold O.pickL at ih ⊢;rcases h with⟨h1,h2⟩|⟨x,u,h1,h2,h3⟩
  .rw[ð,ð,h1,h2];exact ih
  .rw[ð,ð,h1,h2];exact .cons h3 ih
def CY{a b k:Int}{n:Nat}(hk:k≠0)(h1:0<k->0<=a/\b<=n)(h2:k<0->a<n/\-1<=b):(Ϥ a b k).Nodup/\(Ϥ a b k).length<=n:=by
 unfold Ϥ;dsimp only;rcases Int.lt_or_gt_of_ne hk with hk|hk
 .obtain⟨h3,h4⟩:=h2 hk;rw[gq<|by lia];by_cases hs:a > b
  .rw[gp hs];have hd:∀j:Nat,j<((a - b - k - 1) / -k).toNat->(j:Int) * -k<=a - b - 1:=λj hj=>by
    have h5:((j:Int)+1)<=(a - b - k - 1) / -k:=by lia
    have h6:=(cx (by lia:0 < -k)).mp h5;have h7:((j:Int)+1) * -k=(j:Int) * -k + -k:=by rw[dm,dn]
    lia
   refine⟨?_,?_⟩
   .rw[bd,Č];refine List.Pairwise.imp_of_mem ?_ ŷ;intro i j hi hj hij e;have d1:=hd i<|Ŵ.mp hi;have d2:=hd j<|Ŵ.mp hj;have e1:k*(i:Int)=-((i:Int) * -k):=by rw[Int.mul_neg,Int.neg_neg,Int.mul_comm]
    have e2:k*(j:Int)=-((j:Int) * -k):=by rw[Int.mul_neg,Int.neg_neg,Int.mul_comm]
    have e3:(i:Int) * -k<(j:Int) * -k:=Int.mul_lt_mul_of_pos_right (by lia) (by lia);rw[e1,e2]at e;lia
   .rw[Á,ı];have:(a - b - k - 1) / -k<=a - b:=by
     refine dq ((cB (by lia:0 < -k)).mpr ?_);have:(a - b+1) * -k=(a - b)*(-k - 1)+(a - b) + -k:=by rw[dm,Int.mul_sub,df,dn];lia
     have:0<=(a - b)*(-k - 1):=ϥ (by lia) (by lia);lia
    lia
  .rw[gq hs];exact⟨đ,ĕ _⟩
 .obtain⟨h3,h4⟩:=h1 hk;rw[gp hk];by_cases hs:a<b
  .rw[gp hs];refine⟨?_,?_⟩
   .rw[bd,Č];refine List.Pairwise.imp ?_ ŷ;intro i j hij e;have e3:k*(i:Int)<k*(j:Int):=Int.mul_lt_mul_of_pos_left (by lia) hk;have e4:0<=k*(i:Int):=ϥ (by lia) (by lia);lia
   .rw[Á,ı];have:(b - a+k - 1) / k<=b - a:=by
     refine dq<|(cB hk).mpr ?_;have:(b - a+1)*k=(b - a)*(k - 1)+(b - a)+k:=by rw[dm,Int.mul_sub,df,dn];lia
     have:0<=(b - a)*(k - 1):=ϥ (by lia) (by lia);lia
    lia
  .rw[gq hs];exact⟨đ,ĕ _⟩
def Gv{items:Array Ã}{lo hi:Option Int}{k:Int}(hk:k≠0):∃ix:List Nat,ix.Nodup/\ix.length<=items.size/\dD items lo hi (eL k)=(O.pickL ix items.toList).toArray:=by
 refine⟨Ϥ (ğ lo hi (eL k) items.size).fst (ğ lo hi (eL k) items.size).snd.fst (ğ lo hi (eL k) items.size).snd.snd,?_⟩;have hb:(ğ lo hi (eL k) items.size).snd.snd=k:=rfl;rw[hb,<-and_assoc];refine⟨CY hk (λh=>⟨?_,?_⟩) λh=>⟨?_,?_⟩,?_⟩
 .unfold ğ;dsimp only[Λ];rw[gp h];cases lo with
  |none=>exact Š _
  |some i=>dsimp only;rw[gp h];lia
 .unfold ğ;dsimp only[Λ];cases hi with
  |none=>dsimp only;rw[gp h];exact Š _
  |some i=>dsimp only;rw[gp h];lia
 .unfold ğ;dsimp only[Λ];cases lo with
  |none=>dsimp only;rw[gq<|by lia];lia
  |some i=>dsimp only;rw[gq<|by lia];lia
 .unfold ğ;dsimp only[Λ];cases hi with
  |none=>dsimp only;rw[gq<|by lia];exact Š _
  |some i=>dsimp only;rw[gq<|by lia];lia
 .unfold dD O.pickL;rw[hb];simp only[Ą]
abbrev Qb(K:Frag)(te:TE)(tl th:TO)(ts:TE):TE:=λσ H Q=>te σ H λx H1=>tl σ H1 λl H2=>th σ H2 λu H3=>ts σ H3 λk H4=>∃a xs j,x=.ref a/\k=.int j/\j≠0/\fY K H4 a xs/\∀ix:List Nat,ix.Nodup->ix.length<=xs.length->∀p,H4 p=eM->Q (.ref p) (upd H4 p<|.lst<|O.pickL ix xs)
def GK(he:PE X e te)(hl:PO X lo tl)(hu:PO X hi th)(hs:PE X st ts):PE X (.Subscript e (.Slice lo hi (eL st) p2) ë)<|Qb X.K te tl th ts:=by
 intro Â s σ H Q I h;refine Subscript_<|thn (he Â s σ H _ I h) λv s1 ⟨x,H1,I1,r1,q1⟩=>?_;refine wpAny_Slice (thn (hl Â s1 σ H1 _ I1 q1) λvl s2 ⟨l,H2,I2,pl,q2⟩=>thn (hu Â s2 σ H2 _ I2 q2) λvu s3 ⟨u,H3,I3,pu,q3⟩=>(by
 rw[evalPart_some]
 refine thn (hs Â s3 σ H3 _ I3 q3) λvk s4 ⟨k,H4,I4,rk,q4⟩=>?_
 let⟨a,xs,j,rfl,rfl,hj,hx,q⟩:=q4
 cases r1
 let⟨tk,rfl⟩:=rk
 have pk:ϑ (.int j tk)<|eL j:=.int j tk
 have I5:Inv X Â σ H4 {s4 with heap:=s4.heap.push {cls:=.type "slice",data:=.fields #[vl,vu,.int j tk]}}:=I4.kept (t':=s4.toks) λb ob q=>Ä _ q
 let⟨ø,r,ht,hz⟩:=I5.list hx
 have hlen:=r.length
 let⟨ix,n1,n2,n3⟩:=Gv (items:=ø.toArray) (lo:=l) (hi:=u) hj
 rw[Ê,<-hlen]at n2
 show wpAny (à X.prog X.w) X.A (aw e (.Slice lo hi (eL st) p2) (.ref a)<|.ref s4.heap.objs.size) (EP X Â σ Q) X.xe {s4 with heap:=s4.heap.push {cls:=.type "slice",data:=.fields #[vl,vu,.int j tk]}}
 refine tail_any (ops:=[.ref a,.ref s4.heap.objs.size]) ht.isList.typeIs aQ.lookup ?_ (by with_unfolding_all rfl)
 refine dh ht.isList (Heap.IsSliceOf.new ..) pl pu pk (λz=>hj<|è z) ?_ (by rw[Ê]<;>lia)
 rw[n3]
 refine⟨.ref _,_,I5.laid (a:=_) (t':=s4.toks) (o:=.lst<|O.pickL ix xs) (λb ob q=>Ä _ q) (Ì _) ?_,rfl,q ix n1 n2 _<|I5.hok.fresh<|Ì _⟩
 exact⟨Ý (Ý (Ũ _ _) n2) hz,O.pickL ix ø,0,Me r ix,Ô _ rfl⟩))
end
end L2
namespace Snd
open PySem L2
variable {i:Inf}{X:Cx}{Φ:O.Fs}
def On{K:Frag}{H:Hp}{xs:List O.Val}{us:List V}(r:RVs K H xs us):∀ix:List Nat,RVs K H (O.pickL ix xs) (O.pickL ix us)
 |[]=>.nil
 |k::ix=>by
  have ih:=On r ix;unfold O.pickL at ih ⊢;cases h1:xs[k]? with
  |none =>
   have h2:us[k]?=eM:=by rw[List.getElem?_eq_none_iff]at h1 ⊢;rw[<-r.length];exact h1
   rw[ð,ð,h1,h2];exact ih
  |some x =>let⟨u,h2,h3⟩:=r.get h1;rw[ð,ð,h1,h2];exact .cons h3 ih
def Fj{G:O.Hs}{H:Hp}(g:RH i G H){v:O.Val}{x:V}{xs:List O.Val}(e:O.lsA G v=eL xs)(r:RV i.K H v x):∃a vs,x=.ref a/\fY i.K H a vs/\RVs i.K H xs vs:=by
 cases v with
 |ref a =>cases r.ref_inv;let⟨vs,h1,h2⟩:=ZG g (show O.fe (G a)=eL xs from e);exact⟨a,vs,rfl,h1,h2⟩
 |scr ns =>
  cases e;cases r with
  |scr h=>exact⟨_,_,rfl,Z3 h,RVs.ints ns⟩
 |_=>cases e
def Lk{a:Expr}{lo hi:Option Expr}{st:Expr}{ma ms:O.E}{ml mh:O.Oe}{p2 ë:Pos}(hK:X.K=i.K)(ha:PE X a<|tE X i Φ ma)(hl:PO X lo<|tOx X i Φ ml)(hh:PO X hi<|tOx X i Φ mh)(hs:PE X st<|tE X i Φ ms):PE X (.Subscript a (.Slice lo hi (eL st) p2) ë) (tE X i Φ<|.pick ma ml mh ms) :=
 (GK ha hl hh hs).imp λσ H Q ⟨env,G,Qm,Em,p,w,c⟩=>by
  exact⟨env,G,_,Em,p,w,λv G1 H1 x k1 g1 r1 w1=>⟨env,G1,_,Em,p.go k1 g1,w1,λl G2 H2 k2 g2 w2=>⟨env,G2,_,Em,(p.go k1 g1).go k2 g2,w2,λu G3 H3 k3 g3 w3=>⟨env,G3,_,Em,((p.go k1 g1).go k2 g2).go k3 g3,w3,λk G4 H4 y k4 g4 ry w4=>by
    let⟨j,e1,w5⟩:=eU w4
    let⟨hj,w6⟩:=w5
    let⟨xs,e2,w7⟩:=eU w6
    let⟨b,us,hx,hsq,rr⟩:=Fj g4 e2<|((r1.keep k2).keep k3).keep k4
    exact⟨b,us,j,hx,(by cases ZB e1;exact ry.int_inv),hj,by rw[hK];exact hsq,λix n1 n2=>Yg g4 (w7 ix n1<|by rw[rr.length];exact n2) ((((c.go k1).go k2).go k3).go k4) λp hp=>⟨_,eR,(On rr ix).keep<|fo.new hp⟩⟩⟩⟩⟩⟩
end Snd
namespace Snd
open PySem L2 PyProof.Rows
variable {i:Inf}{X:Cx}{Φ:O.Fs}
def KO:∀(ns:List Int) (a:Int),a∈O.dedup ns↔a∈ns
 |[],a=>Iff.rfl
 |x::xs,a=>by
  have ih:=KO xs a;unfold O.dedup;simp only[È,û,ih];constructor
  .rintro(h|h)
   .exact .inl h
   .exact .inr h.1
  .rintro(h|h)
   .exact .inl h
   .by_cases e:a=x
    .exact .inl e
    .exact .inr ⟨h,⇑e⟩
def Wx:∀ns:List Int,(O.dedup ns).Nodup
 |[]=>đ
 |x::xs=>by unfold O.dedup;rw[þ];refine⟨λh=>?_,List.Nodup.sublist ĥ<|Wx xs⟩;have:=(û.mp h).2;simp at this
def J3:∀(ns Į:List Int),Į.Nodup->(ns.foldl Ŝ Į).Nodup/\∀a,a∈ns.foldl Ŝ Į↔a∈Į\/a∈ns
 |[],Į,h=>⟨h,λa=>by simp⟩
 |x::xs,Į,h=>by
  have h2:(Ŝ Į x).Nodup/\∀a,a∈Ŝ Į x↔a∈Į\/a=x:=by
   unfold Ŝ;split
   .rename_i hc;have hm:x∈Į:=⇑hc
    exact⟨h,λa=>⟨.inl,λz=>z.elim id λe=>e▸hm⟩⟩
   .rename_i hc;have hm:x∉Į:=⇑hc
    refine⟨?_,λa=>by simp⟩;rw[å];refine⟨h,by simp,λa ha b hb=>?_⟩;rw[Ó.mp hb];exact λe=>hm<|e▸ha
  let⟨h3,h4⟩:=J3 xs (Ŝ Į x) h2.1;refine⟨h3,λa=>?_⟩;rw[ŀ,h4,h2.2,È];constructor
  .rintro((z|z)|z)
   .exact .inl z
   .exact .inr<|.inl z
   .exact .inr<|.inr z
  .rintro(z|z|z)
   .exact .inl<|.inl z
   .exact .inl<|.inr z
   .exact .inr z
def Nu(ns:List Int):(θ (λi=>ns.getD i 0) ns.length).Perm<|O.dedup ns:=by
 have e:(List.range ns.length).map (λi=>ns.getD i 0)=ns:=by
  apply List.ext_getElem
  .simp
  .intro k h1 h2;simp at h1;simp[h1]
 unfold θ;rw[e];let⟨h1,h2⟩:=J3 ns [] đ;refine(ς h1<|Wx ns).mpr λa=>?_;rw[h2,KO];simp
def Gf(ns:List Int):(θ (λi=>ns.getD i 0) ns.length).length=(O.dedup ns).length:=(Nu ns).length_eq
def Nt{G:O.Hs}{H:Hp}{v:O.Val}{x:V}{ns:List Int}(g:RH i G H)(r:RV i.K H v x)(e:O.sortOf G v=eL ns):∃p,x=.ref p/\fY i.K H p (ns.map V.int):=by
 cases v with
 |ref a =>let⟨ys,z1,z2⟩:=ì.mp (show(O.fe<|G a).bind O.eX=eL ns from e);let⟨us,h1,h2⟩:=ZG g z1;have:=ZU z2 h2;subst this;exact⟨a,r.ref_inv,h1⟩
 |scr ms =>
  cases e;cases r with
  |scr h=>exact⟨_,rfl,Z3 h⟩
 |_=>cases e
def Ks:∀{xs:List O.Val}{k n:Nat}{v:O.Val},(O.enumL k xs)[n]?=eL v->∃x,xs[n]?=eL x/\v=.tup [.int ((k+n:Nat):Int),x]
 |[],k,n,v,h=>by simp[O.enumL]at h
 |x::xs,k,0,v,h=>by have h:eL (O.Val.tup [.int k,x])=eL v:=h;cases h;exact⟨x,rfl,rfl⟩
 |x::xs,k,n+1,v,h=>by let⟨y,h1,h2⟩:=Ks (xs:=xs) (k:=k+1) (n:=n) (v:=v) (by simpa[O.enumL]using h);refine⟨y,⇑h1,?_⟩;rw[h2,show k+1+n=k+(n+1) by lia]
def KD:∀(xs:List O.Val) (k:Nat),(O.enumL k xs).length=xs.length
 |[],_=>rfl
 |x::xs,k=>by show(O.enumL (k+1) xs).length+1=xs.length+1;rw[KD xs]
variable {xs:List O.Val}
def Df{H0:Hp}{a:Í}{us:List V}(ha:H0 a=eL (.tup us)\/KT i.K a us)(ra:RVs i.K H0 xs us):ItOk i H0 (Ite i.K a) (λ_=>True) (O.enumL 0 xs) where
 go:=λn G H v k g e hv=>by let⟨x,hx,rfl⟩:=Ks hv;have h1:fZ i.K H a us:=Zl<|ha.imp (k.t _ _) id;let⟨x',h5,h6⟩:=(ra.keep k).get hx;refine⟨⟨us,x',h1,h5⟩,λw H' ⟨p,e1,hp,e2⟩=>?_⟩;subst e1;have:=e2 us x' h1 h5;subst this;have k:=fo.new (o:=.tup [.int n,x']) hp;refine⟨k,WU g hp,.tup (.inl eR)<|.cons ?_<|.cons (h6.keep k) .nil⟩;rw[ϓ];exact .int _
 stop:=λn G H k g e hn=>by have h1:fZ i.K H a us:=Zl<|ha.imp (k.t _ _) id;exact⟨us,h1,by rw[<-ra.length,<-KD xs 0];exact hn⟩
def Ui{v:O.Val}(h:O.tupOf v=eL xs):v=.tup xs:=by
 cases v with
 |tup ys=>cases h;rfl
 |_=>cases h
variable {p:Pos} {ë:Pos} {e:Expr} {m:O.E}
def G7{es:List Expr}{kk:Nat}{tp:Pos}(hK:X.K=i.K)(hg:Gl X "enumerate")(hm:X.mg "enumerate" = eM)(he:PE X e<|tE X i Φ m)(hs:Ü [e] X.env=[(eP,eval e X.env)]) :
  PI X (.Tuple es kk tp) (.Call (.Name "enumerate" p) [e] [] ë) (tIt X i Φ<|.enum m) :=
 (CC hg hm (ZQ he fW hs) hs).imp λσ H R ⟨env,G,QI,Em,p,w,c⟩=>by
  change tE X i Φ m σ H _;refine one p w λv G1 H1 x k1 p1 rx q=>?_;let⟨xs,e1,q2⟩:=eU q;clear q;cases Ui e1;rw[hK];cases rx with
  |tup hp hr=>exact⟨_,rfl,⟨_,Zl hp⟩,c _ _ G1 H1 _ k1 p1.hp (Df hp hr) q2⟩
def CA{p2 cP:Pos}(hc:X.calm=eN)(hK:X.K=i.K)(he:PE X e<|tE X i Φ m)(hg:Gl X "len")(hm:X.mg "len" = eM)(hg2:Gl X "set")(hm2:X.mg "set" = eM)(Ž:Ü [e] X.env=[(eP,eval e X.env)]) :
  PE X (.Call (.Name "len" p) [.Call (.Name "set" p2) [e] [] cP] [] ë) (tE X i Φ<|.bi .lenSet<|.cons m .nil):=by
 refine(Z9 BA hg hm (by kernel_rfl)<|ZQ (Xo BR hg2 hm2 (by kernel_rfl) (ZQ he fW Ž) (he:=Ž)) fW).imp λσ H Q ⟨env,G,Qm,Em,p,w,c⟩=>?_;change tE X i Φ m σ H _;refine one p w λv G1 H1 x k1 p1 r q=>?_
 replace q:(O.biLenSet G1 v).wp G1 Qm:=q
 unfold O.biLenSet at q;cases z:O.sortOf G1 v with
 |none=>rw[z]at q;exact(Zi q).elim
 |some ns =>
  rw[z]at q;dsimp only at q;split at q
  .rename_i h4;let⟨a,rfl,hs⟩:=Nt p1.hp r z;refine⟨a,ns,rfl,by rw[hK];exact hs,h4,hc,λl S n hl hn=>?_⟩;have hn2:=hn.trans<|Gf ns;clear hn;subst hn2;have k2:fo H1<|upd H1 l<|.set S (O.dedup ns).length:=fo.new hl;refine⟨l,S,_,rfl,eR,?_⟩;exact c _ G1 _ _ (k1.trans k2) (WU p1.hp hl) (.int _)<|Zm q
  .exact(Zi q).elim
end Snd
namespace L2
open PySem
@[reducible] noncomputable def Ris(xs:Array Nat):Prop:=xs.toList.Pairwise (· < ·)
abbrev O9(xs:Array Nat)(j lo:Nat):Prop:=lo<=xs.size/\(∀k x,k<lo->xs[k]?=eL x->x<j)/\∀k x,lo<=k->xs[k]?=eL x->j<=x
variable {xs:Array Nat} {a:Nat} {b:Nat} {x:Nat}
def X4(h:Ris xs){y:Nat}(hab:a<b)(ha:xs[a]?=eL x)(hb:xs[b]?=eL y):x<y:=by rw[<-Ą]at ha hb;let⟨h1,rfl⟩:=Î.mp ha;let⟨h2,rfl⟩:=Î.mp hb;exact List.pairwise_iff_getElem.mp h a b h1 h2 hab
def Jn{xs:Array Nat}(h:Ris xs){j:Nat}:∀(f lo hi:Nat),hi - lo<=f->lo<=hi->hi<=xs.size->(∀k x,k<lo->xs[k]?=eL x->x<j)->(∀k x,hi<=k->xs[k]?=eL x->j<=x)->O9 xs j (aU xs j f lo hi)
 |0,lo,hi,h1,h2,h3,h4,h5=>by
  have e:lo=hi:=by lia
  subst e;exact⟨h3,h4,h5⟩
 |f+1,lo,hi,h1,h2,h3,h4,h5=>by
  unfold aU;by_cases hl:lo<hi
  .rw[gp hl];dsimp only;have hm:(lo+hi) / 2<xs.size:=by lia
   have hx:xs[(lo+hi) / 2]?=eL xs[(lo+hi) / 2]:=ÿ hm;have hg:xs.getD ((lo+hi) / 2) j=xs[(lo+hi) / 2]:=by simp[ϯ,hm]
   rw[hg];by_cases hc:xs[(lo+hi) / 2]<j
   .rw[gp hc];refine Jn h f _ _ (by lia) (by lia) h3 (λk x hk hkx=>?_) h5;by_cases hkm:k=(lo+hi) / 2
    .subst hkm;rw[hx]at hkx;cases hkx;exact hc
    .exact ź (X4 h (by lia) hkx hx) hc
   .rw[gq hc];refine Jn h f _ _ (by lia) (by lia) (by lia) h4 λk x hk hkx=>?_;by_cases hkm:k=(lo+hi) / 2
    .subst hkm;rw[hx]at hkx;cases hkx;lia
    .exact Ý (Nat.not_lt.mp hc) (π<|X4 h (by lia) hx hkx)
  .rw[gq hl];have e:lo=hi:=by lia
   subst e;exact⟨h3,h4,h5⟩
def NY(h:Ris xs)(j:Nat):O9 xs j<|Ķ xs j:=by unfold Ķ;refine Jn h xs.size 0 xs.size (by lia) (by lia) (by lia) (λk x hk=>by lia) λk x hk hkx=>?_;rw[Χ hk]at hkx;cases hkx
variable {j:Nat}
def EF(ha:O9 xs j a)(hb:O9 xs j b):a=b:=by
 let⟨a1,a2,a3⟩:=ha;let⟨b1,b2,b3⟩:=hb;rcases Nat.lt_trichotomy a b with h|h|h
 .have hx:=ÿ (xs:=xs) (i:=a) (by lia);have:=b2 a _ h hx;have:=a3 a _ (Ì _) hx;lia
 .exact h
 .have hx:=ÿ (xs:=xs) (i:=b) (by lia);have:=a2 b _ h hx;have:=b3 b _ (Ì _) hx;lia
def BE(h:Ris xs){i:Nat}(hx:xs[i]?=eL x):O9 xs (x+1)<|i+1:=by
 have hi:i<xs.size:=(ĸ.mp hx).1;refine⟨hi,λk y hk hky=>?_,λk y hk hky=>X4 h (by lia) hx hky⟩;by_cases e:k=i
 .subst e;rw[hx]at hky;cases hky;lia
 .have:=X4 h (show k<i by lia) hky hx;lia
def AS(xs:Array Nat):O9 xs 0 0:=⟨ĕ _,λk x hk=>by lia,λ_ _ _ _=>ĕ _⟩
def GF(h:Ris xs)(hn:xs[Ķ xs j]?≠eL j):Ris<|SetTable.insertAt xs (Ķ xs j) j:=by
 let⟨c1,c2,c3⟩:=NY h j;generalize Ķ xs j=p at c1 c2 c3 hn;unfold Ris;rw[SetTable.toList_insertAt];have hs:(xs.toList.take p++xs.toList.drop p).Pairwise (· < ·):=by rw[List.take_append_drop];exact h
 let⟨h1,h2,h3⟩:=ϝ.mp hs;have hlo:∀a∈xs.toList.take p,a<j:=λa ha=>by let⟨k,hk,rfl⟩:=List.mem_take_iff_getElem.mp ha;refine c2 k _ (by lia) ?_;rw[<-Ą];exact É _
 have hhi:∀a∈xs.toList.drop p,j<a:=λa ha=>by
  let⟨k,e⟩:=cA.mp ha;rw[List.getElem?_drop,Ą]at e;have:=c3 (p+k) _ (by lia) e;rcases cC j a with q|q
  .exact q
  .exfalso;have e2:a=j:=by lia
   subst e2;by_cases k0:k=0
   .subst k0;exact hn e
   .have hp:xs[p]?=eL (xs[p]'(by have:=(ĸ.mp e).1;lia)):=ÿ _;have:=X4 h (show p<p+k by lia) hp e;have:=c3 p _ (Ì _) hp;lia
 exact ϝ.mpr ⟨h1,dL.mpr ⟨hhi,h2⟩,λa ha b hb=>by
   rcases È.mp hb with rfl|hb
   . exact hlo a ha
   . exact ź (hlo a ha)<|hhi b hb⟩
structure Tb(b:Bool)(t:ų):Prop where
 led:b=eP->t.led=eN
 ris:Ris t.place
 dum:t.dummies=#[]
def Nj{t:ų}{f:Nat->Int}{h:Int}(hd:t.dummies=#[]):∀(n:Nat) (p:SetTable.Probe) (j:Nat) (d:Option Nat),p.dummy=eM->ό t f h n p=eL (.empty j d)->t.slot j=.empty/\d=eM
 |0,p,j,d,h0,e=>by unfold ό at e;cases e
 |n+1,p,j,d,h0,e=>by
  unfold ό at e;cases hs:t.slot p.j with
  |empty =>rw[hs]at e;dsimp only at e;injection e with e;injection e with e1 e2;subst e1;exact⟨hs,e2▸h0⟩
  |dummy =>
   exfalso;unfold ei at hs;dsimp only at hs;split at hs
   .cases hs
   .rw[hd]at hs;simp[be]at hs
  |live i =>
   rw[hs]at e;dsimp only at e;split at e
   .cases e
   .refine Nj hd n _ j d ?_ e;unfold SetTable.advance;split
    .exact h0
    .exact h0
def FH{t:ų}(hd:t.dummies=#[]){h:Int}{b:Bool}(e:t.freeSlot h=eL (j,b)):t.place[Ķ t.place j]?≠eL j:=by
 unfold SetTable.freeSlot at e;split at e
 .rename_i k d hp;let⟨h1,h2⟩:=Nj hd _ _ _ _ rfl hp;subst h2;injection e with e;injection e with e1 e2;have e1:k=j:=e1;subst e1;unfold ei at h1;dsimp only at h1;split at h1
  .cases h1
  .rename_i hq;exact λz=>hq (by rw[z];exact beq_self_eq_true _)
 .cases e
def Wj{b:Bool}{t:ų}(h:Tb b t)(n:Nat):Tb b (t.standIn n) :=
 ⟨h.led,by show(Array.range n).toList.Pairwise _;rw[Array.toList_range];exact ŷ,rfl⟩
def Ii{b:Bool}{t:ų}(h:Tb b t)(es:Array<|Int×Ã)(k:Int)(x:Ã):Tb b (layNew t es k x).2.1:=by
 unfold layNew;split
 .rename_i slot wd hf;show Tb b (b7 _ _);have hp:Tb b (t.put slot).1:=by
   refine⟨h.led,GF h.ris<|FH h.dum hf,?_⟩;show(if be t.dummies slot then _ else t.dummies)=#[];rw[h.dum];simp[be]
  unfold b7;split
  .exact hp
  .exact Wj hp _
 .exact Wj h _
def DH{b:Bool}{t:ų}(h:Tb b t)(es:Array<|Int×Ã)(n:Nat):Tb b (relayAll t es n).2.1:=by
 unfold relayAll;split
 .rename_i t' order hr;dsimp only;split
  .unfold SetTable.relaid SetTable.laid at hr;cases hl:SetTable.layClean (SetTable.sizeAbove n - 1) (es.map (·.1))with
   |none=>rw[hl]at hr;cases hr
   |some owner =>rw[hl]at hr;cases hr;refine⟨h.led,?_,rfl⟩;show List.Pairwise _ (List.toArray _).toList;refine Č.mpr<|List.pairwise_filterMap.mpr ?_;refine ŷ.imp λ{a c} hac x hx y hy=>?_;let⟨_,_,rfl⟩:=Ë.mp hx;let⟨_,_,rfl⟩:=Ë.mp hy;exact hac
  .exact Wj h _
 .exact Wj h _
end L2
namespace L2
open PySem PySem.Spec PyProof.Rows
section
variable (prog:ã) (w:Ā)
noncomputable abbrev byT:Bool:=w.params.followText "set-order"
abbrev SetI(h:ĉ)(a:Í)(l:List Int):Prop:=∃o es ep t es0,h.get? a=eL o/\o.ExactSet/\o.data=.set es ep t/\ElemsOf (ś prog w) es.toList/\es.size<ap/\t.fits es.size=eN/\
 Tb (byT w) t/\es.toList.Perm es0/\ă (es0.map (·.2)) l
end
def XH:∀{vs:List Ã}{ns:List Int},ă vs ns->vs.length=ns.length
 |_,_,.nil=>rfl
 |_,_,.cons _ _ r=>congrArg (· + 1)<|XH r
def UX:∀{vs:List Ã}{ns:List Int}(n:Int) (t:Tok),ă vs ns->ă (vs++[.int n t]) (ns++[n])
 |_,_,n,t,.nil=>.cons n t .nil
 |_,_,n,t,.cons m u r=>.cons m u<|UX n t r
def OW{P:ã}{w:Ā}{n:Int}:∀{vs:List Ã}{ns:List Int},ă vs ns->(n∈ns↔∃v∈vs,(ś P w).is n v=eN)
 |_,_,.nil=>by simp
 |_,_,.cons m u r=>by
  have h:=OW (P:=P) (w:=w) (n:=n) r;have hk:(ś P w).is n (.int m u)=gB (n=m):=KeyKind.is_eq_decide (intKind_is P w m u) n;rw[È,h];constructor
  .rintro(rfl|⟨v,hv,e⟩)
   .exact⟨_,ô,by rw[hk];simp⟩
   .exact⟨v,á _ hv,e⟩
  .rintro⟨v,hv,e⟩;rcases È.mp hv with rfl|hv
   .rw[hk]at e;exact .inl ⇑e
   .exact .inr ⟨v,hv,e⟩
variable {h:ĉ} {a:Í} {l:List Int}
def SetI.setOf{P:ã}{w:Ā}(x:SetI P w h a l):h.SetOf (ś P w) a (λk=>gB (k∈l)) l.length:=by
 let⟨o,es,ep,t,es0,h1,h2,h3,h4,h5,h6,h7,h8,h9⟩:=x;refine⟨o,es,ep,t,h1,h2,h3,h4,λk=>?_,h5,h6,?_⟩
 .rw[decide_eq_true_iff,OW (P:=P) (w:=w) h9];constructor
  .rintro⟨v,hv,e⟩;let⟨x,hx,rfl⟩:=Ò.mp hv;exact⟨x,h8.mem_iff.mpr hx,e⟩
  .rintro⟨x,hx,e⟩;exact⟨_,Ò.mpr ⟨x,h8.mem_iff.mp hx,rfl⟩,e⟩
 .rw[<-XH h9,Á,<-h8.length_eq,õ]
section
variable {prog:ã}{w:Ā}{A:Ċ}{E:Ã->Å->Prop}{s:Å}
def UH{o:Obj}{es es':Array (Int×Ã)}{ep:Nat}{t t':ų}(ho:h.get? a=eL o)(hd:o.data=.set es ep t) :
  (h.update a<|ej es' t').get? a=eL {o with data:=.set es' (ep+1) t'}:=by
 have z:=Ė (ej es' t') ho (by rw[putSet_of es' t' hd];rfl)
 rwa [putSet_of es' t' hd]at z
def add_int{n:Int}{tk:Tok}{Q:Bool->Å->Prop}(hS:SetI prog w s.heap a l)(hroom:l.length+1<ap)
  (k:∀h' b,ŵ a s.heap h'->SetI prog w h' a (Ŝ l n)->Q b {s with heap:=h'}):wpAny (à prog w) A (setAddHashed a (.int n tk)<|(ś prog w).hash n) Q E s:=by
 have hlen:=hS.setOf;let⟨o,es,ep,t,es0,ho,hex,hd,hel,hb,hf,ht,hp,hi⟩:=id hS;have hsz:es.size=l.length:=by rw[<-XH hi,Á,<-hp.length_eq,õ]
 have hkey:(ś prog w).is n (.int n tk)=eN:=intKind_is _ _ _ _;unfold setAddHashed setAddHashedIn;refine ę<|À<|ţ ho hd hf ?_;dsimp only;rw[byScan_of rfl hb hel];simp only[↓reduceIte];unfold setAddByScan;refine À<|À<|ϡ<|À<|wpAny_setScan_of hkey ho hd hf hel ?_;have hm:n∈l↔∃e∈es.toList,(ś prog w).is n e.2=eN:=by
  rw[OW (P:=prog) (w:=w) hi];constructor
  .rintro⟨v,hv,e⟩;let⟨x,hx,rfl⟩:=Ò.mp hv;exact⟨x,hp.mem_iff.mpr hx,e⟩
  .rintro⟨x,hx,e⟩;exact⟨_,Ò.mpr ⟨x,hp.mem_iff.mp hx,rfl⟩,e⟩
 cases hr:List.findIdx? (λe=>(ś prog w).is n e.2) es.toList with
 |some j =>
  let⟨hj,hpj,_⟩:=List.findIdx?_eq_some_iff_getElem.mp hr;have hn:n∈l:=hm.mpr ⟨_,Ŏ hj,hpj⟩;have e1:Ŝ l n=l:=by unfold Ŝ;rw[gp<|ax.mpr ⟨n,hn,by simp⟩]
  rw[e1]at k;exact Æ<|Æ<|k s.heap eP (Heap.SameBut.refl a s.heap) hS
 |none =>
  have hn:n∉l:=λz=>by let⟨e,he,q⟩:=hm.mp z;have:=List.findIdx?_eq_none_iff.mp hr e he;rw[q]at this;cases this
  have e1:Ŝ l n=l++[n]:=by
   unfold Ŝ;rw[gq];intro z;let⟨m,hm,q⟩:=ax.mp z;have q:m=n:=⇑q
   exact hn<|q▸hm
  rw[e1]at k;have l1:=layNew_perm t es ((ś prog w).hash n)<|.int n tk;have l2:=layNew_fits t es ((ś prog w).hash n)<|.int n tk;have l3:=Ii ht es ((ś prog w).hash n)<|.int n tk;dsimp only;generalize hL:layNew t es ((ś prog w).hash n) (.int n tk)=L at l1 l2 l3 ⊢;let⟨cf,t1,wd,gv⟩:=L;dsimp only at l1 l2 l3 ⊢;rw[dM]at l1;have i1:ă ((es0++[((ś prog w).hash n,Value.int n tk)]).map (·.2))<|l++[n]:=by rw[Û];exact UX n tk hi
  have p1:cf.toList.Perm<|es0++[((ś prog w).hash n,Value.int n tk)]:=l1.trans<|hp.append_right _;have hel1:ElemsOf (ś prog w) cf.toList:=(hel.push hkey rfl).perm l1;have hs1:cf.size=l.length+1:=by rw[<-õ,l1.length_eq,í,õ,hsz];rfl
  have fin:∀(h':ĉ) (o':Obj) (ep':Nat) (es':Array<|Int×Ã) (t':ų),ŵ a s.heap h'->h'.get? a=eL o'->o'.ExactSet->o'.data=.set es' ep' t'->es'.toList.Perm cf.toList->t'.fits es'.size=eN->Tb (byT w) t'->∀b,Q b {s with heap:=h'}:=λh' o' ep' es' t' sb g1 g2 g3 g4 g5 g6 b=>by refine k h' b sb ⟨o',es',ep',t',_,g1,g2,g3,hel1.perm g4,?_,g5,g6,g4.trans p1,i1⟩;rw[<-õ,g4.length_eq,õ,hs1];exact hroom
  have hz1:cf.size<=ß:=aV (by rw[hs1];exact hroom);have g0:∀(b:Bool){Ġ:Å}{Q':Unit->Å->Prop},Q' () Ġ->wpAny (à prog w) A (match b with|true=>rule "set.scan.the-table-gave-way" | false=>pure ()) Q' E Ġ :=
   λb Ġ Q' hq=>by cases b<;>first|exact Æ hq|exact ϡ hq
  refine À<|g0 _ ?_;have bv:hashByValue 8 (.int n tk)=(pure eN:Sem Bool):=hashByValue_scannable 8 rfl;rw[bv,ite_self];refine À<|Æ ?_;simp only[↓reduceIte];refine À<|wpAny_storeSet_of ho hd ?_ hz1;have ho1:=UH (es':=cf) (t':=t1) ho hd;have sb1:=ą s.heap a<|ej cf t1;split
  .have r1:=relayAll_perm t1 cf<|ύ cf.size;have r2:=relayAll_fits t1 cf<|ύ cf.size;have r3:=DH l3 cf<|ύ cf.size;generalize relayAll t1 cf (ύ cf.size)=R at r1 r2 r3 ⊢;let⟨es2,t2,gv2⟩:=R;dsimp only at r1 r2 r3 ⊢;refine À<|g0 _ ?_;refine À (wpAny_storeSet_of ho1 rfl ?_<|by rw[<-õ,r1.length_eq,õ];exact hz1);exact Æ<|Æ<|fin _ _ _ es2 t2 (sb1.trans<|ą _ a _) (UH ho1 rfl) hex rfl r1 r2 r3 _
  .exact Æ<|Æ<|fin _ _ _ cf t1 sb1 ho1 hex rfl .rfl l2 l3 _
end
def SetI.at{P:ã}{w:Ā}{h h':ĉ}{a:Í}{l:List Int}(x:SetI P w h a l)(k:∀o,h.get? a=eL o->h'.get? a=eL o):SetI P w h' a l:=by let⟨o,es,ep,t,es0,h1,h2⟩:=x;exact⟨o,es,ep,t,es0,k _ h1,h2⟩
section
variable {prog:ã}{w:Ā}{A:Ċ}{R:bp->Å->Prop}{I:Í}{fp wr:List Í}{G:Array cg->Array cg->Prop}{n:Nat}{P:Nat->Ã->Prop}{St:Nat->Å->Prop}
def EA(W:WalksS prog w A.in1 I fp wr G n P St)(S:Í)(hS:S∉fp)(val:Nat->Int)(hv:∀i v,P i v->∃t,v=.int (val i) t)(hb:n+1<ap) :
  ∀(k i:Nat) (s:Å),n - i=k->i<=n->St i s->SetI prog w s.heap S (θ val i)->(∀s',Moved (S::wr) G s s'->SetI prog w s'.heap S (θ val n)->R (.ok<|.ret .none) s')->
   codeAny (à prog w) A (.builtin "set.update.loop" ⟨[.ref S,.ref I],[]⟩) R s:=by
 have nw:S∉wr:=λz=>hS<|W.sub _ z;intro k;induction k with
 |zero =>
  intro i s h1 h2 st x r;obtain rfl:i=n:=by lia
  refine ĭ F.entry_set_update_loop ?_;rw[č F.plain_set_update_loop _];show wpAny _ A.in1 (ϐ (.ref I) >>= _) _ _ s;refine À<|W.done s _ _ st λs' m=>?_;exact Æ<|r s' (m.mono λb hb=>á _ hb)<|x.at λo e=>m.heap S _ nw e
 |succ k ih =>
  intro i s h1 h2 st x r;have hi:i<n:=by lia
  refine ĭ F.entry_set_update_loop ?_;rw[č F.plain_set_update_loop _];show wpAny _ A.in1 (ϐ (.ref I) >>= _) _ _ s;refine À<|W.item i s _ _ hi st λv s' p dR m=>?_;let⟨t,rfl⟩:=hv i v p;show wpAny _ A.in1 (ő [Value.int (val i) t] (setAdd S<|.int (val i) t) >>= _) _ _ s';refine À<|ę ?_;unfold setAdd;refine ę<|À<|(ś prog w).pyHash (k:=val i) (intKind_is _ _ _ _) ?_;refine add_int (s:={s' with toks:=s'.toks+1}) (x.at λo e=>m.heap S _ nw e) (by have:=aD val i;lia) λh' b sb x'=>?_;rw[<-firstMet_succ]at x';refine Æ ⟨ŏ F.plain_set_update_loop _,ih (i+1) _ (by lia) hi (W.frame _ s' _ _ dR (Ň _) λb hb o e=>?_) x' λs'' m'' x''=>r s'' ?_ x''⟩
  .rw[sb.2 b λz=>hS<|z▸hb];exact e
  .refine Moved.trans W.gtrans ((m.mono λb hb=>á _ hb).then_heap (Ň _) λb o hb e=>?_) m'';rw[sb.2 b λz=>hb<|z▸ô];exact e
end
section
variable {prog:ã}{w:Ā}{A:Ċ}{E:Ã->Å->Prop}{s:Å}
noncomputable abbrev Jw(b:Bool):Obj:={cls:=.type "set",dict:=eM,data:=.set #[] 0 (.fresh 0 0 !b)}
variable {Q:Ã->Å->Prop}
def GO(a:Ã)(h:Q (.ref s.heap.objs.size) {s with heap:=s.heap.push (Jw<|byT w)}) :
  codeAny (à prog w) A (.call (.builtin "set.__new__") ⟨[.type "set",a],[]⟩) (wants Q E) s:=by
 refine codeAny_of_tree ?_;show wpAny _ A.in1 (do checkBuiltinCall "set.__new__" ⟨[.type "set",a],[]⟩;again (.builtin "set.__new__" ⟨[.type "set",a],[]⟩)) _ _ s;refine À<|bF (F.newCall_set_1 a)<|Æ ⟨ŏ F.plain_set_new _,ĭ F.entry_set_new ?_⟩;rw[č F.plain_set_new _];unfold Builtin.«set.__new__» Builtin.Frozenset.newClass;have hsub:=sub_set_self;let⟨hp,g,d,tk,os⟩:=s;dsimp only
 wp_walk
 refine Ū<|Æ ?_;dsimp only;simp only[newObj];exact À<|wpAny_alloc<|Æ<|Æ h
def BV{l:Í}{items:Array Ã}{ns:List Int}(hh:A.handled=eM)(hl:s.heap.IsList l items)(hi:ă items.toList ns)(hb:items.size+1<ap)
  (h:∀(h':ĉ) (tk:Nat),SetI prog w h' s.heap.objs.size (θ (λi=>ns.getD i 0) items.size)->(∀b o,s.heap.get? b=eL o->h'.get? b=eL o)->Q (.ref s.heap.objs.size) {s with heap:=h',toks:=tk}) :
  wpAny (à prog w) A (call (.type "set") [.ref l]) Q E s:=by
 let⟨c,tl,hmro⟩:=F.called_set.mro;have hmade:=F.called_set.made;have hsub:=F.called_set.sub;have h1:=F.called_set.notType;have h2:=F.called_set.canCreate;have hct:=F.typeCall_set_1<|.ref l;refine wpAny_call<|codeAny_of_tree ?_;show wpAny _ _ (callAny (.type "set") _) _ _ _;refine Æ ⟨Code.quiet_builtin _ (by decide +kernel),ĭ F.entry_type_call ?_⟩;rw[Around.under_plain (weight_type_call_type "set" [.ref l] []) rfl]
 repeat (any_goals (first|assumption|wp_step))
 refine ζ (GO (.ref l) (E:=E) (Q:=λv s1=>v=.ref s.heap.objs.size/\s1={s with heap:=s.heap.push (Jw<|byT w)}) ⟨rfl,rfl⟩) λr s1 hr=>?_;cases r with
 |error e=>exact hr
 |ok fl =>
  cases fl with
  |ret obj =>
   let⟨rfl,rfl⟩:=hr;have hS:(s.heap.push<|Jw<|byT w).get? s.heap.objs.size=eL (Jw<|byT w):=Ô _ rfl;have hT:Shared.TypeIs {s with heap:=s.heap.push (Jw<|byT w)} (.ref s.heap.objs.size) "set":=⟨_,hS,rfl⟩
   have hli:=F.called_set.init.lookup;have hbi:=F.called_set.init.bind<|.ref s.heap.objs.size
   repeat (any_goals (first|assumption|wp_step))
   refine ζ (codeAny_call_builtin (R:=wants (λr s2=>r=.none/\∃h' tk,s2={ s with heap:=h',toks:=tk }/\SetI prog w h' s.heap.objs.size (θ (λi=>ns.getD i 0) items.size)/\∀b o,s.heap.get? b=eL o->h'.get? b=eL o) E)
     F.called_set.init.plain F.entry_set_init (check_set_init_1 hT ?_)) λr s2 hr=>?_
   .have hlS:l<s.heap.objs.size:=by let⟨_,e,_⟩:=hl;exact Ú e
    have hl1:(s.heap.push<|Jw<|byT w).IsList l items:=hl.push _;let⟨ol,hol,aM,nl,hdl⟩:=id hl1;let⟨ocls,odict,odata,oslots⟩:=ol;simp only at aM hdl;subst aM hdl;have hsls:=F.sub_list_set;have hslf:=F.sub_list_frozenset;have ž:(Value.type "list" == Value.type "dict")=eP:=by decide
    unfold Builtin.«set.__init__» noKeywords Builtin.Frozenset.updateFrom;generalize hPI:d5=PI
    wp_walk
    subst hPI;refine ϋ hl1<|À<|wpAny_runValue ?_;have hh3:A.in1.in1.in1.handled=eM:=by simp[hh]
    have zs:(s.heap.push<|Jw<|byT w).objs.size=s.heap.objs.size+1:=Ŷ ..;refine EA ((Walks.list hh3 _ l (by rw[zs];exact æ<|ĳ hlS) items).toS) s.heap.objs.size (by rw[zs];simp only[È,Ù,or_false,not_or];exact⟨æ<|Ě _,ť hlS⟩) (λi=>ns.getD i 0) (λi v hv=>IntsAre.int_at hi i v<|by rw[Ą];exact hv) hb (items.size - 0) 0 _ (by lia) (ĕ _)
     ⟨⟨_,Ô _ rfl,rfl,rfl⟩,hl1.push _⟩ ?_ ?_
    .refine⟨_,#[],0,_,[],Ä _ hS,⟨rfl,rfl,rfl⟩,rfl,λe he=>by simp at he,by show 0<ap;unfold ap;lia,rfl,⟨λz=>by show(!byT w)=eN;rw[z];rfl,.nil,rfl⟩,.nil,.nil⟩
    .intro s' m x;let⟨h',g',d',tk',os'⟩:=s';have eg:g'=s.gens:=m.gens;have ed:d'=s.drawn:=m.drawn;have eo:os'=s.os:=m.os;subst eg ed eo;refine Æ ?_;show wpAny _ _ (ret Value.none) _ _ _;refine Æ ⟨rfl,h',tk',rfl,x,λb o e=>?_⟩;have hb:=Ú e;exact m.heap b o (by rw[zs];simp only[È,Ù,or_false,not_or];exact⟨æ hb,æ<|ĳ hb⟩)<|Ä _<|Ä _ e
   .cases r with
    |error e=>exact hr
    |ok fl =>
     cases fl with
     |ret r =>
      let⟨rfl,h',tk,rfl,x,hk⟩:=hr
      repeat (any_goals (first|assumption|wp_step))
      exact h _ _ x hk
     |_=>exact hr.elim
  |_=>exact hr.elim
end
end L2
namespace L2
open PySem PySem.Spec PyProof.Rows
open PySem.Builtin
def BM:entryFor table "set.__iter__" = eL Builtin.«frozenset.__iter__»:=entryFor_alias (id':="frozenset.__iter__") (by kernel_rfl) rfl (by decide +kernel) (by kernel_rfl)
def Do:entryFor table "set_iterator.__next__" = eL Builtin.«set_iterator.__next__»:=entryFor_of_tree (by kernel_rfl)
def DQ(a:Ã):cz "set_iterator.__next__" ⟨[a],[]⟩:=by unfold cz;kernel_rfl
def slot_snext:Slot "set_iterator" "__next__" "set_iterator.__next__" :=
 .of (owner:="set_iterator") (n:="__next__") (by rw[typeLookup_type,builtinLookup_eq_fast];kernel_rfl) (by decide +kernel) (by decide +kernel) (by decide +kernel)
  (by first|exact .inl (by decide +kernel)|exact .inr<|by decide +kernel) (by rw[cD];kernel_rfl)
def JH:Slot "set_iterator" "__iter__" "set_iterator.__iter__" :=
 .of (owner:="set_iterator") (n:="__iter__") (by rw[typeLookup_type,builtinLookup_eq_fast];kernel_rfl) (by decide +kernel) (by decide +kernel) (by decide +kernel)
  (by first|exact .inl (by decide +kernel)|exact .inr<|by decide +kernel) (by rw[cD];kernel_rfl)
def Eg:entryFor table "set_iterator.__iter__" = eL Builtin.«dict_keyiterator.__iter__»:=entryFor_alias (id':="dict_keyiterator.__iter__") (by kernel_rfl) rfl (by decide +kernel) (by kernel_rfl)
def D4(a:Ã):cz "set_iterator.__iter__" ⟨[a],[]⟩:=by unfold cz;kernel_rfl
def XS{α:Type}:∀{l:List α}{i:Nat}(h:i<l.length),(l[i]::l.eraseIdx i).Perm l
 |a::l,0,h=>.rfl
 |a::l,i+1,h=>(List.Perm.swap a _ _).trans<|(XS (l:=l)<|Nat.lt_of_succ_lt_succ h).cons a
def Ai{α:Type}(f:Nat->Nat):∀(n k:Nat) (l:List α) (out:Array α),l.length=n->(aW f n k l out).toList.Perm (out.toList++l)
 |0,k,l,out,h=>by
  cases l with
  |nil=>unfold aW;simp
  |cons _ _=>cases h
 |n+1,k,l,out,h=>by unfold aW;have ϴ:f k % l.length<l.length:=Nat.mod_lt _ (by lia);rw[É ϴ];dsimp only;refine(Ai f n (k+1) _ _<|by rw[υ ϴ];lia).trans ?_;rw[dM,Ĕ];exact(XS ϴ).append_left _
def Ap{α:Type}(f:Nat->Nat)(xs:Array α):(pickOrder f xs).toList.Perm xs.toList:=by unfold pickOrder;simpa using Ai f xs.size 0 xs.toList #[] (by simp)
section
variable {prog:ã}{w:Ā}{A:Ċ}{E:Ã->Å->Prop}{s:Å}
variable {n:Nat}
def AT{src:Source}{Q:Nat->Å->Prop}(hn:0<n)(h:∀k d,k<n->Q k {s with drawn:=d}):wpAny (à prog w) A (choose src n) Q E s :=
 λ_ _ _=>⟨ť hn,h _ _<|Nat.mod_lt _ hn⟩
def Oo{α:Type}:∀(n:Nat) (xs:List α){s:Å}{Q:List α->Å->Prop},xs.length=n->(∀ys d,ys.Perm xs->Q ys {s with drawn:=d})->wpAny (à prog w) A (dN n xs) Q E s
 |0,[],s,Q,_,h=>by unfold dN;exact Æ<|h [] s.drawn .nil
 |0,_::_,_,_,h,_=>by cases h
 |n+1,[],_,_,h,_=>by cases h
 |n+1,x::xs,s,Q,hl,h=>by unfold dN;refine À (AT (by simp) λk d hk=>?_);rw[É hk];dsimp only;refine À (Oo n _ (by rw[υ hk];lia) λys d2 hp=>Æ<|h _ d2 ?_);exact(hp.cons _).trans<|XS hk
abbrev SetIt(h:ĉ)(it a:Í)(f:Ã)(i n ep:Nat):Prop:=∃o,h.get? it=eL o/\o.cls=.type "set_iterator"/\o.data=.fields #[f,.int i 0,.ref a,.int n 0,.int ep 0]
variable {it:Í} {a:Í} {f:Ã} {i:Nat} {ep:Nat}
def SetIt.typeIs(h:SetIt s.heap it a f i n ep):s.TypeIs (.ref it) "set_iterator":=by let⟨o,h1,h2,_⟩:=h;exact⟨o,h1,h2⟩
structure SetO(h:ĉ)(a:Í)(o:Obj)(es:Array<|Int×Ã)(ep:Nat)(t:ų):Prop where
 at_:h.get? a=eL o
 dat:o.data=.set es ep t
 fit:t.fits es.size=eN
def NV{Q:Ã->Å->Prop}(hit:SetIt s.heap it a f i n ep)(h:Q (.ref it) s):wpAny (à prog w) A (d5<|.ref it) Q E s:=by have hT:=hit.typeIs;refine wpAny_pyIter_slot hT JH<|Ğ JH hT Eg ?_<|D4 _;show wpAny _ _ (ret<|.ref it) _ _ s;exact Æ ⟨_,rfl,"set_iterator",_,hT,slot_snext.lookup,h⟩
variable {Q:Option Ã->Å->Prop}
def U3(hh:A.handled=eM)(hQ:∀h',(∀b o,s.heap.get? b=eL o->h'.get? b=eL o)->Q eM {s with heap:=h'}) :
  wpAny (à prog w) A (do raiseNew (<-newExc (.type "StopIteration") []):Sem Fin) (λ_ _=>False) (λe s'=>∃h',(∀b o,s.heap.get? b=eL o->h'.get? b=eL o)/\s'={s with heap:=h'}/\s'.TypeIs e "StopIteration") s:=by
 show wpAny _ _ (newExc (.type "StopIteration") [] >>= _) _ _ _;refine À ?_;simp only[newExc,newTuple];refine À (Ĉ ?_<|by size_fits);refine À (m:=ϸ _ _) (bF (a:=Value.none) (by first|rfl|(simp only[ϸ];rfl)) ?_);refine Ĉ ?_ (by size_fits);simp only[raiseNew];refine À<|wpAny_handled ?_;rw[hh];refine À<|Æ<|wpAny_throw ?_;exact⟨_,λb o e=>Ä _<|Ä _ e,rfl,_,Ô _ rfl,rfl⟩
def WM(hT:s.TypeIs (.ref it) "set_iterator")
  (h:wpAny (à prog w) A.in1 (Builtin.«set_iterator.__next__» ⟨[.ref it],[]⟩) (λfin s'=>∃v,fin=.done (.ret v)/\Q (eL v) s') (λe s'=>s'.TypeIs e "StopIteration"/\Q eM s') s):wpAny (à prog w) A (ϐ<|.ref it) Q E s:=by
 unfold ϐ;refine À<|wpAny_attempt<|Ĵ (name:=gC "__next__") hT slot_snext<|Ğ slot_snext hT Do ?_<|DQ _;refine į h (λfin s' ⟨v,e,q⟩=>⟨v,e,Æ q⟩) λe s' ⟨t,q⟩=>?_;refine À<|bw (T:="StopIteration") (b:=eN) t isSubtype_stop ?_;exact Æ q
abbrev NX(prog:ã)(w:Ā)(a:Í)(o:Obj)(ep:Nat)(f:Nat->Nat)(ord:List Ã):Prop :=
 ∀(A:Ċ) (s:Å) (Q:Option (Ã×Nat)->Å->Prop) (E:Ã->Å->Prop) (i:Nat),i<=ord.length->s.heap.get? a=eL o->Q (ord[i]?.map (·,f<|i+1)) s->wpAny (à prog w) A (setNext a (f i) i ep) Q E s
def ME{h:ĉ}{o:Obj}{vs:Array Ã}{k:Nat}{x:Ã}(ho:h.get? it=eL o)(hc:o.cls=.type "set_iterator")(hd:o.data=.fields vs) :
  ∃o',(h.update it (Ξ (·.setIfInBounds k x))).get? it=eL o'/\o'.cls=.type "set_iterator"/\o'.data=.fields (vs.setIfInBounds k x) :=
 ⟨_,Ė _ ho<|cQ<|Α hd _,(Obj.cls_mapFields ..).trans hc,Α hd _⟩
end
def Walks.setT{prog:ã}{w:Ā}{A:Ċ}(hh:A.handled=eM)(I a:Í)(ž:a≠I){o:Obj}{es:Array (Int×Ã)}{ep:Nat}{t:ų}{f:Nat->Nat}{ord:List Ã}(hl:ord.length=es.size)(nx:NX prog w a o ep f ord) :
  Walks prog w A I [I,a] [I] es.size (λi v=>ord[i]?=eL v) (λi h=>SetIt h I a (.int (f i) 0) i es.size ep/\SetO h a o es ep t) where
 sub:=λb hb=>by simp at hb;simp[hb]
 frame:=λ_ _ _ st hk=>⟨by let⟨o,h1,h2⟩:=st.1;exact⟨o,hk I (by simp) o h1,h2⟩,hk a (by simp) _ st.2.at_,st.2.dat,st.2.fit⟩
 item:=λi s Q E hi st hQ=>by let⟨st,so⟩:=st;refine WM st.typeIs ?_;let⟨oi,h1,h2,h3⟩:=st;show wpAny _ _ (fieldsOf (.ref I) >>= _) _ _ s;refine À<|Ϻ h1 h3 ?_;dsimp only;refine À<|Ů so.at_ so.dat so.fit ?_;refine ň (λz=>gA z<|by simp) λ_=>?_;rw[â,â,â];have hx:ord[i]?=eL ord[i]:=É (by lia);refine À (nx _ s _ _ i (by lia) so.at_ ?_);rw[hx];dsimp only[Option.map];refine À (Ł h1 h3 (by simp) ?_);let⟨o2,g1,g2,g3⟩:=ME (k:=0) (x:=ħ<|f<|i+1) h1 h2 h3;refine À (Ł g1 g3 (by simp) ?_);let⟨o4,g4,g5,g6⟩:=ME (k:=1) (x:=ħ<|(i:Int)+1) g1 g2 g3;have sb:=(ą s.heap I (Ξ (·.setIfInBounds 0 (ħ<|f<|i+1)))).trans (ą _ I (Ξ (·.setIfInBounds 1 (ħ<|(i:Int)+1))));refine Æ ⟨_,rfl,hQ _ _ s.toks hx ⟨⟨o4,g4,g5,by rw[g6];simp[ħ]⟩,?_,so.dat,so.fit⟩ λb ob hb e=>sb.extBut b ob (λz=>hb<|by simp[z]) e⟩;exact sb.extBut a _ ž so.at_
 done:=λs Q E st hQ=>by
  let⟨st,so⟩:=st;refine WM st.typeIs ?_;let⟨oi,h1,h2,h3⟩:=st;show wpAny _ _ (fieldsOf (.ref I) >>= _) _ _ s;refine À<|Ϻ h1 h3 ?_;dsimp only;refine À<|Ů so.at_ so.dat so.fit ?_;refine ň (λz=>gA z<|by simp) λ_=>?_;rw[â,â,â];refine À (nx _ s _ _ es.size (by lia) so.at_ ?_);rw[ļ<|by lia];dsimp only[Option.map];refine À (Ł h1 h3 (by simp) ?_);refine į (U3 (A:=A.in1) (Q:=Q) hh λh' hk=>?_) (λ_ _ z=>z.elim) λe s' ⟨h',hk,e2,tt⟩=>⟨tt,?_⟩
  .exact hQ h' s.toks λb ob hb e=>hk b ob ((ą s.heap I _).extBut b ob (λz=>hb<|by simp[z]) e)
  .subst e2;exact hQ h' s.toks λb ob hb e=>hk b ob ((ą s.heap I _).extBut b ob (λz=>hb<|by simp[z]) e)
 self:=λ_ _ _ _ st hQ=>NV st.1 hQ
def Walks.setD{prog:ã}{w:Ā}{A:Ċ}(hh:A.handled=eM)(I a T:Í)(ž:a≠I)(hnT:T≠I){o oT:Obj}{es:Array (Int×Ã)}{ep:Nat}{t:ų}{ks:List Nat}(hl:ks.length=es.size)(hk:∀k∈ks,k<es.size)
  (hT:oT.data=.seq (ks.map λ(k:Nat)=>ħ k).toArray) :
  Walks prog w A I [I,a,T] [I] es.size (λi v=>(ks.map λk=>(es.getD k (0,.none)).2)[i]?=eL v) (λi h=>SetIt h I a (.ref T) i es.size ep/\SetO h a o es ep t/\h.get? T=eL oT) where
 sub:=λb hb=>by simp at hb;simp[hb]
 frame:=λ_ _ _ st hk=>⟨by let⟨o,h1,h2⟩:=st.1;exact⟨o,hk I (by simp) o h1,h2⟩,⟨hk a (by simp) _ st.2.1.at_,st.2.1.dat,st.2.1.fit⟩,hk T (by simp) _ st.2.2⟩
 item:=λi s Q E hi st hQ=>by
  let⟨st,so,sT⟩:=st;refine WM st.typeIs ?_;let⟨oi,h1,h2,h3⟩:=st;show wpAny _ _ (fieldsOf (.ref I) >>= _) _ _ s;refine À<|Ϻ h1 h3 ?_;dsimp only;refine À<|Ů so.at_ so.dat so.fit ?_;refine ň (λz=>gA z<|by simp) λ_=>?_;refine À<|ŕ sT hT ?_;have hi':i<ks.length:=by lia
  have hx:ks[i]?=eL ks[i]:=É hi';have hki:=hk ks[i]<|Ŏ hi';have hp:((ks.map λ(k:Nat)=>ħ k).toArray)[(i:Int).toNat]?=eL (.int (ks[i]:Nat) 0):=by rw[â];simp[hx,ħ]
  dsimp only;rw[hp];dsimp only;rw[â,â];unfold setNextDrawn;refine À<|À<|ţ so.at_ so.dat so.fit ?_;dsimp only;refine ň (λz=>gA z<|by simp) λ_=>?_;have he:es[ks[i]]?=eL es[ks[i]]:=ÿ hki;rw[he];dsimp only;refine Æ ?_;refine À (Ł h1 h3 (by simp) ?_);let⟨o4,g4,g5,g6⟩:=ME (k:=1) (x:=ħ<|(i:Int)+1) h1 h2 h3;have sb:=ą s.heap I (Ξ (·.setIfInBounds 1 (ħ<|(i:Int)+1)));refine Æ ⟨_,rfl,hQ _ _ s.toks ?_ ⟨⟨o4,g4,g5,by rw[g6];simp[ħ]⟩,⟨sb.extBut a _ ž so.at_,so.dat,so.fit⟩,sb.extBut T _ hnT sT⟩ λb ob hb e=>sb.extBut b ob (λz=>hb<|by simp[z]) e⟩;rw[Ø,hx];simp[ϯ,hki]
 done:=λs Q E st hQ=>by
  let⟨st,so,sT⟩:=st;refine WM st.typeIs ?_;let⟨oi,h1,h2,h3⟩:=st;show wpAny _ _ (fieldsOf (.ref I) >>= _) _ _ s;refine À<|Ϻ h1 h3 ?_;dsimp only;refine À<|Ů so.at_ so.dat so.fit ?_;refine ň (λz=>gA z<|by simp) λ_=>?_;refine À<|ŕ sT hT ?_;have hp:((ks.map λ(k:Nat)=>ħ k).toArray)[(es.size:Int).toNat]?=eM:=by rw[â];simp[hl]
  dsimp only;rw[hp];dsimp only;refine À (Ł h1 h3 (by simp) ?_);let⟨o4,g4,g5,g6⟩:=ME (k:=0) (x:=ħ 0) h1 h2 h3;refine À (Ł g4 g6 (by simp) ?_);refine į (U3 (A:=A.in1) (Q:=λ_ _=>True) hh λ_ _=>trivial) (λ_ _ z=>z.elim) λe s' ⟨h',hk,e2,tt⟩=>⟨tt,?_⟩
  subst e2;exact hQ h' s.toks λb ob hb e=>hk b ob ((ą _ I _).extBut b ob (λz=>hb<|by simp[z])<|(ą s.heap I _).extBut b ob (λz=>hb<|by simp[z]) e)
 self:=λ_ _ _ _ st hQ=>NV st.1 hQ
section
variable {prog:ã}{w:Ā}{a:Í}{o:Obj}{es:Array (Int×Ã)}{ep:Nat}{t:ų}
def FA(hb:byT w=eN)(hd:o.data=.set es ep t)(hf:t.fits es.size=eN):NX prog w a o ep (λ_=>0) ((pickOrder (w.params.setOrder a ep) es).toList.map (·.2)):=λA s Q E i hil ho h=>by unfold setNext;refine À<|ţ ho hd hf ?_;dsimp only;unfold Ϧ;refine À<|À<|Ū<|Æ ?_;have bB:(à prog w).w.params.followText "set-order" = eN:=hb;dsimp only;rw[bB];simp only[↓reduceIte,bne_self_eq_false,ī];refine À ?_;unfold setWalk Ϧ;refine À<|ţ ho hd hf ?_;dsimp only;refine À<|À<|Ū<|Æ ?_;dsimp only;rw[bB];simp only[↓reduceIte];refine À<|Ū<|Æ<|Æ ?_;dsimp only;rw[Ø,Ą,Option.map_map]at h;exact h
def LK(hb:byT w=eP)(tb:Tb (byT w) t)(hpl:(!t.plain&&gB (es.size > 1))=eP)(hd:o.data=.set es ep t)(hf:t.fits es.size=eN) :
  NX prog w a o ep (λi=>match i with|0=>0|k+1=>t.place.getD k 0+1) (es.toList.map (·.2)):=λA s Q E i hil ho h=>by
 have e0:∀slot,setNext a slot i ep=(do
     let (es,epoch,t)<-setState a
     if<-Ϧ then
       if epoch != ep then aa "set_iterator.__next__:elements-changed"
       return ((<-setWalk a)[i]?).map λe=>(e.2,slot)
     if(!t.plain&&gB (es.size > 1))then aa "set_iterator.__next__:the-table-is-plain-no-more"
     (do if !t.led && !es.isEmpty then aa "set:maker-not-led")
     let i:=Ķ t.place slot
     return match es[i]?,t.place[i]? with
       |some (_,x),eL j=>eL (x,j+1)
       | _,_=>eM):=λ_=>rfl
 rw[e0];refine À<|ţ ho hd hf ?_;dsimp only;unfold Ϧ;refine À<|À<|Ū<|Æ ?_;have bB:(à prog w).w.params.followText "set-order" = eP:=hb;have hled:=tb.led hb;dsimp only;rw[bB,hpl,hled];simp only[ī,↓reduceIte,Bool.not_true,Bool.false_and];refine Æ ?_;have hsz:t.place.size=es.size:=by simp only[SetTable.fits,bAq,beq_iff_eq,gy]at hf;exact hf.1
 have fin:∀slot,i<=es.size->O9 t.place slot i->Q (match es[Ķ t.place slot]?,t.place[Ķ t.place slot]? with|some (_,x),eL j=>eL (x,j+1)|_,_=>eM) s:=λslot hi hc=>by
  rw[EF (NY tb.ris slot) hc];rw[Ø,Ą]at h;by_cases ϴ:i<es.size
  .have h1:es[i]?=eL es[i]:=ÿ ϴ;have h2:t.place[i]?=eL (t.place[i]'(by lia)):=ÿ _;rw[h1]at h ⊢;rw[h2];have h3:t.place.getD i 0=t.place[i]'(by lia):=by simp[ϯ,show i<t.place.size by lia]
   dsimp only[Option.map]at h ⊢;rw[h3]at h;exact h
  .have h1:es[i]?=eM:=Χ (by lia);rw[h1]at h ⊢;exact h
 cases i with
 |zero=>exact fin 0 (ĕ _)<|AS _
 |succ k =>
  have hk:k<t.place.size:=by simp at hil;lia
  refine fin _ (by lia)<|BE tb.ris ?_;rw[ÿ hk];simp[ϯ,hk]
end
structure Near(s s':Å):Prop where
 heap:∀b o,s.heap.get? b=eL o->s'.heap.get? b=eL o
 gens:s'.gens=s.gens
 os:s'.os=s.os
def Fd:∀{vs us:List Ã}{ns:List Int},vs.Perm us->ă us ns->∃ms,ms.Perm ns/\ă vs ms:=by
 intro vs us ns h;induction h generalizing ns with
 |nil=>exact λr=>by cases r;exact⟨[],.nil,.nil⟩
 |cons x _ ih =>
  intro r;cases r with
  |cons n t r=>let⟨ms,h1,h2⟩:=ih r;exact⟨n::ms,h1.cons n,.cons n t h2⟩
 |swap x y l =>
  intro r;cases r with
  |cons n t r=>cases r with
   |cons m u r=>exact⟨m::n::_,.swap _ _ _,.cons m u<|.cons n t r⟩
 |trans _ _ ih1 ih2 =>intro r;let⟨ms,h1,h2⟩:=ih2 r;let⟨ks,h3,h4⟩:=ih1 h2;exact⟨ks,h3.trans h1,h4⟩
section
variable {prog:ã}{w:Ā}{A:Ċ}{E:Ã->Å->Prop}{s:Å}
def Eo{r:Í}{Q:Bool->Å->Prop}(hT:s.TypeIs (.ref r) "set")(h:Q eP s):wpAny (à prog w) A (Builtin.List.listLengthHint<|.ref r) Q E s:=by
 unfold Builtin.List.listLengthHint;refine À<|wpAny_specialOf hT PySem.F.slot_set_len.lookup ?_;generalize hid:("set.__len__" : String)=id0
 wp_delta
 rw[show splitId id0=eL ("set","__len__") from by subst hid;decide +kernel];subst hid;refine À (bw (T:="set") (b:=eN) hT (by rw[cD];kernel_rfl) ?_);refine ň (λhab=>gA hab<|by decide) λ_=>?_;refine ň (λ_=>?_) (λhab=>gA (by decide +kernel) hab);exact À<|Ϡ hT<|Æ h
def C7{a:Í}{l:List Int}{Q:Ã->Å->Prop}(hh:A.handled=eM)(hS:SetI prog w s.heap a l)
  (h:∀s' I fp St vs ms,Near s s'->s.heap.objs.size<=I->(∀b∈fp,b=a\/s.heap.objs.size<=b)->ms.Perm l->ă vs ms->Walks prog w A I fp [I] l.length (λi v=>vs[i]?=eL v) St->St 0 s'.heap->Q (.ref I) s') :
  wpAny (à prog w) A (d5<|.ref a) Q E s:=by
 let⟨o,es,ep,t,es0,ho,hex,hd,hel,hb,hf,ht,hp,hi⟩:=id hS;have hsz:es.size=l.length:=by rw[<-XH hi,Á,<-hp.length_eq,õ]
 rw[<-hsz]at h;have hT:s.TypeIs (.ref a) "set":=⟨o,ho,hex.1⟩
 have ϴ:=Ú ho;refine wpAny_pyIter_slot hT F.slot_set_iter<|Ğ F.slot_set_iter hT BM ?_<|F.args_set_iter_1 _;have e0:Builtin.«frozenset.__iter__» ⟨[.ref a],[]⟩=(do
     let n<-cE a
     let d<-(do
       let (es,_,t)<-setState a
       let byText<-Ϧ
       return !byText&&(!t.plain&&gB (es.size > 1)))
     let first<-if d then newTuple ((<-dN n (List.range n)).map λ(i:Nat)=>ħ i)else pure (ħ 0)
     ret (<-newFields "set_iterator" [first,ħ 0,.ref a,ħ n,ħ (<-setEpoch a)])):=rfl
 rw[e0];unfold cE;refine À<|À<|Ů ho hd hf<|Æ ?_;refine À<|À<|ţ ho hd hf ?_;dsimp only;unfold Ϧ;refine À<|À<|Ū<|Æ<|Æ ?_;have ebt:(à prog w).w.params.followText "set-order" = byT w:=rfl;dsimp only;rw[ebt];have mapP:∀es':List<|Int×Ã,es'.Perm es.toList->∃ms,ms.Perm l/\ă (es'.map (·.2)) ms:=λes' q=>Fd ((q.trans hp).map _) hi;by_cases hdr:(!byT w&&(!t.plain&&gB (es.size > 1)))=eN
 .rw[gp hdr];refine À (Oo es.size (List.range es.size) (by simp) λks d hks=>À ?_);have hkl:ks.length=es.size:=by rw[hks.length_eq,ı]
  refine wpAny_newTuple ?_ (by rw[Á,hkl];exact aV hb);refine À<|wpAny_setEpoch_of (Ä _ ho) hd hf ?_;refine À<|Ĉ<|Æ ⟨_,rfl,"set_iterator",_,⟨_,Ô _ rfl,rfl⟩,slot_snext.lookup,?_⟩;have zs:(s.heap.push { cls:=.type "tuple",dict:=eM,data:=.seq (List.map (λ(i:Nat)=>ħ i) ks).toArray }).objs.size=s.heap.objs.size+1:=Ŷ ..;let⟨ms,m1,m2⟩:=mapP (ks.map λk=>es.getD k (0,.none)) (by
    refine(hks.map _).trans<|List.Perm.of_eq ?_
    refine List.ext_getElem (by simp) λi h1 h2=>?_
    have hi:i<es.size:=⇑h1
    simp[ϯ,hi])
  rw[ê]at m2;refine h _ _ [_,a,s.heap.objs.size] _ _ ms ⟨λb o e=>Ä _<|Ä _ e,rfl,rfl⟩ (by rw[zs];exact Ň _) (λb hb=>?_) m1 m2
   (Walks.setD (o:=o) (oT:={cls:=.type "tuple",dict:=eM,data:=.seq (List.map (λ(i:Nat)=>ħ i) ks).toArray}) (es:=es) (ep:=ep) (t:=t) (ks:=ks) hh _ a s.heap.objs.size (by rw[zs];exact æ<|ĳ ϴ) (by rw[zs];exact æ<|Ě _) hkl (λk hk=>Ŵ.mp<|hks.mem_iff.mp hk) rfl)
   ⟨⟨_,Ô _ rfl,rfl,rfl⟩,⟨Ä _<|Ä _ ho,hd,hf⟩,Ä _<|Ô _ rfl⟩
  simp only[È,Ù,or_false]at hb;rcases hb with rfl|rfl|rfl
  .exact .inr (by rw[zs];exact Ň _)
  .exact .inl rfl
  .exact .inr<|Ì _
 .rw[gq hdr];refine À<|Æ ?_;refine À<|wpAny_setEpoch_of ho hd hf ?_;refine À<|Ĉ<|Æ ⟨_,rfl,"set_iterator",_,⟨_,Ô _ rfl,rfl⟩,slot_snext.lookup,?_⟩;have go:∀(f:Nat->Nat) (es':List<|Int×Ã),f 0=0->es'.Perm es.toList->NX prog w a o ep f (es'.map (·.2))->Q (.ref s.heap.objs.size) {s with heap:=s.heap.push {cls:=.type "set_iterator",dict:=eM,data:=.fields [ħ 0,ħ 0,.ref a,ħ es.size,ħ ep].toArray}}:=λf es' f0 hes nx=>by
   let⟨ms,m1,m2⟩:=mapP es' hes;have hl:(es'.map (·.2)).length=es.size:=by rw[Á,hes.length_eq,õ]
   refine h _ _ [_,a] _ _ ms ⟨λb o e=>Ä _ e,rfl,rfl⟩ (Ì _) (λb hb=>?_) m1 m2 (Walks.setT (t:=t) hh _ a (æ ϴ) hl nx) ⟨⟨_,Ô _ rfl,rfl,by rw[f0];rfl⟩,Ä _ ho,hd,hf⟩;simp only[È,Ù,or_false]at hb;rcases hb with rfl|rfl
   .exact .inr<|Ì _
   .exact .inl rfl
  cases hbt:byT w with
  |true=>exact go _ _ rfl (Ap _ es)<|FA hbt hd hf
  |false =>rw[hbt]at hdr;exact go (λi=>match i with|0=>0|k+1=>t.place.getD k 0+1) _ rfl .rfl (LK hbt ht ⇑hdr hd hf)
end
end L2
namespace L2
open PySem PySem.Spec PyProof.Rows
def Cu{vs:List Ã}{Į:Array Ã}{n:Nat}(h:ItemsOf (λi v=>vs[i]?=eL v) Į n)(hn:vs.length=n):Į.toList=vs:=by
 refine List.ext_getElem? λi=>?_;rw[Ą];by_cases hi:i<Į.size
 .rw[ÿ hi];exact(h.2 i _<|ÿ hi).symm
 .rw[Χ (by lia),ļ (by have:=h.1;lia)]
section
variable {prog:ã}{w:Ā}{A:Ċ}{E:Ã->Å->Prop}{s:Å}
variable {a:Í} {l:List Int}
def Ge(hh:A.handled=eM)(hS:SetI prog w s.heap a l)(S:Í)(hSa:S≠a)(hs:s.heap.get? S=eL {cls:=.type "list",data:=.seq #[] 0}){R:bp->Å->Prop}
  (h:∀s' vs ms c,s'.gens=s.gens->s'.os=s.os->(∀b o,b≠S->s.heap.get? b=eL o->s'.heap.get? b=eL o)->ms.Perm l->ă vs ms->s'.heap.get? S=eL {cls:=.type "list",dict:=eM,data:=.seq vs.toArray c,slots:=#[]}->R (.ok<|.ret<|.ref S) s') :
  wpAny (à prog w) A.in1 (Builtin.List.listExtendWith (.ref S) (.ref a)<|.ref S) (λfin s'=>match fin with|.done f=>R (.ok f) s'|.again c'=>c'.quiet=eN/\codeAny (à prog w) A c' R s') (λe s'=>R (.error e) s') s:=by
 have hl:=hS.setOf;let⟨o,es,ep,t,es0,ho,hex,hd,hel,hb,hf,ht,hp,hi⟩:=id hS;have hsz:l.length<=ß:=aV (by rw[<-XH hi,Á,<-hp.length_eq,õ];exact hb);have hT:s.TypeIs (.ref a) "set":=⟨o,ho,hex.1⟩
 have hSs:S<s.heap.objs.size:=Ú hs;unfold Builtin.List.listExtendWith;refine À<|Ϡ (T:="set") hT ?_;have h1:Builtin.List.listSameRef (.ref S) (.ref a)=eP:=by simp[Builtin.List.listSameRef,hSa]
 have h2:(Value.type "set" == Value.type "list")=eP:=by decide
 have h3:(Value.type "set" == Value.type "tuple")=eP:=by decide
 simp only[h1,h2,h3,ϭ,ī,if_false];refine À<|C7 (A:=A.in1) hh hS λs1 I fp St vs ms ne hI hfp pm ia W st=>?_;have hsf:S∉fp:=λz=>by
  rcases hfp S z with q|q
  .exact hSa q
  .exact ġ _<|ä hSs q
 have hvl:vs.length=l.length:=(XH ia).trans pm.length_eq;have key:∀(h':ĉ) (c tk:Nat),St 0 h'->(∀b o,b≠S->s1.heap.get? b=eL o->h'.get? b=eL o)->h'.get? S=eL {cls:=.type "list",data:=.seq #[] c}->codeAny (à prog w) A (.builtin "list.extend.loop" ⟨[.ref S,.ref I,.ref S],[]⟩) R {s1 with heap:=h',toks:=tk}:=by
  intro h' c tk dR hk hS1;refine codeAny_extend_loopS W.toS hsz S hsf (.ref S) l.length 0 _ #[] c rfl (ĕ _) dR hS1 (ItemsOf.nil _) λs2 Į c2 hm hS2 hacc=>?_;have ev:Į.toList=vs:=Cu hacc hvl;refine h s2 vs ms c2 (hm.gens.trans ne.gens) (hm.os.trans ne.os) (λb o hb e=>?_) pm ia (by rw[<-ev];simpa using hS2);refine hm.heap b o (λz=>?_)<|hk b o hb<|ne.heap b o e;rcases È.mp z with q|z
  .exact hb q
  .have z:b=I:=⇑z
   subst z;exact ġ _<|ä (Ú e) hI
 have hS1:=ne.heap S _ hs;refine À<|ę<|Eo ⟨o,ne.heap a o ho,hex.1⟩ ?_;refine ň (λ_=>?_) λ_=>Æ ⟨ŏ PySem.F.plain_extend_loop _,key _ 0 _ st (λb o _ e=>e) hS1⟩;refine À<|ϡ ?_;refine À ?_;show wpAny _ _ (dJ S (·.push .none) >>= λ_=>dJ S (·.pop)) _ _ _;refine À<|Γ hS1 rfl ?_;have hS2:=Ė (ω (·.push Value.none)) hS1 rfl;refine Γ (hz:=by seq_fits) hS2 rfl ?_;have hS3:=Ė (ω (·.pop)) hS2 rfl;refine Æ ⟨ŏ PySem.F.plain_extend_loop _,key _ _ _ ?_ (λb o hb e=>?_) hS3⟩
 .refine W.frame 0 _ _ st λb hb o e=>?_;have dW:b≠S:=λz=>hsf<|z▸hb;exact(ñ _ _ dW.symm).trans<|(ñ _ _ dW.symm).trans e
 .exact(ñ _ _ hb.symm).trans<|(ñ _ _ hb.symm).trans e
def NF{Q:List Ã->Å->Prop}(hh:A.handled=eM)(hS:SetI prog w s.heap a l)(h:∀s' vs ms,Near s s'->ms.Perm l->ă vs ms->Q vs s'):wpAny (à prog w) A (collect<|.ref a) Q E s:=by
 have ϴ:a<s.heap.objs.size:=by let⟨_,_,_,_,_,e,_⟩:=hS;exact Ú e
 unfold collect;refine À<|wpAny_runValue<|ĭ F.entry_proto_collect ?_;rw[č F.plain_proto_collect _];show wpAny _ A.in1 (newList [] >>= λl=>again<|.builtin "list.__iadd__" ⟨[l,.ref a],[]⟩) _ _ s;refine À<|Ĉ ?_;refine Æ ⟨ŏ F.plain_list_iadd _,ĭ F.entry_list_iadd ?_⟩;rw[č F.plain_list_iadd _];show wpAny _ A.in1 (Builtin.List.listExtendWith (.ref s.heap.objs.size) (.ref a)<|.ref s.heap.objs.size) _ _ _;have fin:∀(q:bp) (s':Å),(∃vs ms c,q=.ok (.ret<|.ref s.heap.objs.size)/\Near s s'/\ms.Perm l/\ă vs ms/\s'.heap.get? s.heap.objs.size=eL {cls:=.type "list",dict:=eM,data:=.seq vs.toArray c,slots:=#[]})->
   wants (λ(a:Ã) s'=>wpAny (à prog w) A (match a with
     |.ref a=>do
       match (<-load a).data with
       |.seq xs _=>pure xs.toList
       |_=>aa "internal:collect"
     | _=>aa "internal:collect") Q E s') E q s':=λq s' ⟨vs,ms,c,e,ne,pm,ia,hg⟩=>by
  subst e;show wpAny _ A (load s.heap.objs.size >>= _) _ _ _;refine À<|wpAny_load hg<|Æ ?_;exact h s' _ ms ne pm ⇑ia
 refine į (Ge (A:=A) (s:={ s with heap:=s.heap.push { cls:=.type "list",data:=.seq ([]:List Ã).toArray } }) (R:=λq s'=>∃vs ms c,q=.ok (.ret<|.ref s.heap.objs.size)/\Near s s'/\ms.Perm l/\ă vs ms/\s'.heap.get? s.heap.objs.size=eL { cls:=.type "list",dict:=eM,data:=.seq vs.toArray c,slots:=#[] })
   hh (hS.at λo e=>Ä _ e) s.heap.objs.size (ť ϴ) (Ô _ rfl) λs' vs ms c g1 g2 g3 pm ia hg=>⟨vs,ms,c,rfl,⟨λb o e=>g3 b o (æ<|Ú e)<|Ä _ e,g1,g2⟩,pm,ia,hg⟩) (λf s' z=>?_) λe s' z=>?_
 .cases f with
  |done f=>exact fin _ _ z
  |again c=>exact⟨z.1,ζ z.2 λq s2 y=>fin q s2 y⟩
 .exact fin _ _ z
end
variable {X:Cx}
def Inv.near{Â:List (Í×Obj)}{σ:St}{H:Hp}{s s':Å}(I:Inv X Â σ H s)(ne:Near s s'):Inv X Â σ H s':=by have J:Inv X Â σ H {s with heap:=s'.heap,toks:=s'.toks}:=I.kept ne.heap;exact⟨J.ok,ne.os.trans J.os,by rw[ne.gens];exact J.bare,J.base,J.loc,J.cell,J.free,J.freeC,J.pin,J.hok,J.len⟩
abbrev tSS(K:Frag)(te:TE):TE:=λσ H Q=>Hl te GU σ H λvs H1=>∃p,∃ns:List Int,vs=[.ref p]/\fY K H1 p (ns.map V.int)/\ns.length<64/\∀l,H1 l=eM->Q (.ref l) (upd H1 l<|.lst<|(sortI<|θ (λi=>ns.getD i 0) ns.length).map V.int)
def Mo{e:Expr}{te:TE}{p p2 ë cP:Pos}(hc:X.calm=eN)(hg:Gl X "sorted")(hm:X.mg "sorted" = eM)(hg2:Gl X "set")(hm2:X.mg "set" = eM)(he:PE X e te)(hs:Ü [e] X.env=[(eP,eval e X.env)]) :
  PE X (.Call (.Name "sorted" p) [.Call (.Name "set" p2) [e] [] cP] [] ë) (tSS X.K te):=by
 intro Â s σ H Q I h;refine İ (YI (u:=.builtin "sorted") I hg hm (by kernel_rfl) ?_);refine PyProof.Rows.callWith_builtin1 ?_ rfl rfl;show wpAny _ _ (spliced<|(eP,eval (.Call (.Name "set" p2) [e] [] cP) X.env)::[]) _ _ _;refine Calls.spliced_cons ?_;refine İ (YI (u:=.type "set") I hg2 hm2 (by kernel_rfl) ?_ (by decide)<|by decide);refine callWith_type1 (thn ((ZQ he fW hs) cP Â s σ H _ I h) λus s1 ⟨vs,H1,I1,r1,q1⟩=>?_) hs rfl;let⟨a,ns,e1,hq,h64,q⟩:=q1;subst e1;let⟨u,rfl,ru⟩:=Z2 r1;cases ru;let⟨ø,rv,pl,hz⟩:=I1.list hq;have hlen:=rv.length;rw[Á]at hlen;refine BV (I1.ok.hd hc) pl.isList (by simpa using ZD rv) (by rw[Ê];show ø.length+1<4096;lia) λh' tk x hk=>Calls.spliced_nil ?_
 replace x:SetI X.prog X.w h' s1.heap.objs.size<|θ (λi=>ns.getD i 0) ns.length:=by rw[hlen];rw[show ø.toArray.size=ø.length from Ê]at x;exact x
 have I2:Inv X Â σ H1 {s1 with heap:=h',toks:=tk}:=I1.kept hk;refine Calls.call_function_entry kind_sorted plain_sorted entry_sorted (args_sorted1 _) ?_;unfold Builtin.«sorted»;refine À (m:=checkCount "sorted" 1 1 _)<|Æ ?_;refine À<|NF (A:=X.A.in1) (I1.ok.hd hc) x λs3 vs ms ne pm ia=>?_;have I3:=I2.near ne;have hvl:vs.length<64:=by rw[XH ia,pm.length_eq];exact Ö (aD _ _) (by lia)
 refine À (dj ?_<|by unfold ß;lia);have hoL:(s3.heap.push<|Ν "list" vs.toArray 0).get? s3.heap.objs.size=eL (Ν "list" vs.toArray 0):=Ô _ rfl;refine À<|ę<|Ğ slot_list_sort ⟨_,hoL,rfl⟩ entry_list_sort (list_sort_tree hoL ia hvl λout ce a1 a2 a3=>⟨_,rfl,?_⟩)<|args_list_sort _;have e:=YB (a2.trans pm) a3;subst e;let⟨n,hat⟩:=sortedHeap_at (out:=out) hoL;refine Æ ⟨_,rfl,.ref s3.heap.objs.size,_,I3.laid (a:=s3.heap.objs.size) (o:=.lst<|(sortI<|θ (λi=>ns.getD i 0) ns.length).map V.int) (t':=s3.toks) (λb o e=>?_) (Ì _) ?_,rfl,q _<|I3.hok.fresh<|Ì _⟩
 .have hb:=Ú e;rw[sortedHeap_old (æ hb)<|by rw[size_push'];exact ĳ hb];exact Ä _ e
 .exact⟨by rw[Á,YK];have:=aD (λi=>ns.getD i 0) ns.length;unfold ß;lia,out.toList,n,YM a1,by simpa[Ν]using hat⟩
end L2
namespace Snd
open PySem L2
variable {i:Inf}{X:Cx}{Φ:O.Fs}
def Ou{e:Expr}{m:O.E}{p p2 ë cP:Pos}(hc:X.calm=eN)(hK:X.K=i.K)(he:PE X e<|tE X i Φ m)(hg:Gl X "sorted")(hm:X.mg "sorted" = eM)(hg2:Gl X "set")(hm2:X.mg "set" = eM)(Ž:Ü [e] X.env=[(eP,eval e X.env)]) :
  PE X (.Call (.Name "sorted" p) [.Call (.Name "set" p2) [e] [] cP] [] ë) (tE X i Φ<|.bi .sortedSet<|.cons m .nil):=by
 refine(Mo hc hg hm hg2 hm2 he Ž).imp λσ H Q ⟨env,G,Qm,Em,p,w,c⟩=>?_;rw[O.q_e_bi,O.q_a_cons]at w;change tE X i Φ m σ H _;refine one p w λv G1 H1 x k1 p1 r q=>?_;rw[O.q_a_nil]at q
 replace q:(O.biSortedSet G1 v).wp G1 Qm:=q
 unfold O.biSortedSet at q;cases z:O.sortOf G1 v with
 |none=>rw[z]at q;exact(Zi q).elim
 |some ns =>
  rw[z]at q;dsimp only at q;split at q
  .rename_i h4;let⟨a,rfl,hs⟩:=Nt p1.hp r z;refine⟨a,ns,rfl,by rw[hK];exact hs,h4,?_⟩;rw[Kq<|Nu ns];exact Yg p1.hp (Ng q) (c.go k1) λp hp=>⟨_,eR,RVs.ints _⟩
  .exact(Zi q).elim
section
variable {K:Frag}{H H':Hp}
structure fV(H H':Hp):Prop where
 t:∀a xs,H a=eL (.tup xs)->H' a=eL (.tup xs)
 f:∀a o xs,H a=eL (.frz o<|.lst xs)->H' a=eL (.frz o<|.lst xs)
mutual
theorem RV.keepL(k:fV H H'):∀{v:O.Val}{x:V},RV K H v x->RV K H' v x
 |_,_,.non=>.non
 |_,_,.bl b=>.bl b
 |_,_,.int i=>.int i
 |_,_,.str s=>.str s
 |_,_,.tup (.inl e) r=>.tup (.inl<|k.t _ _ e)<|RVs.keepL k r
 |_,_,.tup (.inr e) r=>.tup (.inr e)<|RVs.keepL k r
 |_,_,.ref a=>.ref a
 |_,_,.scr (.inl ⟨o,e⟩)=>.scr<|.inl ⟨o,k.f _ _ _ e⟩
 |_,_,.scr (.inr e)=>.scr<|.inr e
 |_,_,.key e=>.key<|k.t _ _ e
theorem RVs.keepL(k:fV H H'):∀{vs:List O.Val}{xs:List V},RVs K H vs xs->RVs K H' vs xs
 |_,_,.nil=>.nil
 |_,_,.cons r t=>.cons (RV.keepL k r)<|RVs.keepL k t
end
def RKs.keepL(k:fV H H'):∀{kvs:List (O.Val×O.Val)}{ps:List (Key×V)},RKs K H kvs ps->RKs K H' kvs ps
 |_,_,.nil=>.nil
 |_,_,.cons a r t=>.cons a (r.keepL k)<|RKs.keepL k t
def RTs.keepL(k:fV H H'):∀{kvs:List (O.Val×O.Val)}{ps:List (List Key×V)},RTs K H kvs ps->RTs K H' kvs ps
 |_,_,.nil=>.nil
 |_,_,.cons r t=>.cons (r.keepL k)<|RTs.keepL k t
def RFs.keepL(k:fV H H'):∀{fs:List (String×O.Val)}{ps:List (Str×V)},RFs K H fs ps->RFs K H' fs ps
 |_,_,.nil=>.nil
 |_,_,.cons r t=>.cons (r.keepL k)<|RFs.keepL k t
def REn.keepL{env:O.Env}{σ:St}(r:REn K H env σ)(k:fV H H'):REn K H' env σ:=⟨r.len,λi v e=>by
  let⟨x,h1,h2⟩:=r.get i v e
  exact⟨x,h1,h2.keepL k⟩⟩
variable {a:Í}
def RO.moveL{o:O.Ob}(r:RO i H a o)(k:fV H H')(e:H' a=H a):RO i H' a o:=by
 cases o with
 |lst xs=>let⟨vs,q,r⟩:=r;exact⟨vs,e.trans q,r.keepL k⟩
 |dct kvs=>let⟨ps,q,r⟩:=r;exact⟨ps,e.trans q,r.keepL k⟩
 |ins C fs=>let⟨c,dx,ps,h0,h,q,r⟩:=r;exact⟨c,dx,ps,h0,h,e.trans q,r.keepL k⟩
 |exc C=>let⟨c,h,q⟩:=r;exact⟨c,h,e.trans q⟩
 |frz kvs=>let⟨o,ps,q,r⟩:=r;exact⟨o,ps,e.trans q,r.keepL k⟩
 |dtp kvs=>let⟨ps,q,r⟩:=r;exact⟨ps,e.trans q,r.keepL k⟩
variable {o:Obj} {ps:List (Key×V)}
def Xs(e:H a=eL (.frz o<|.dK ps)):fV H (upd H a<|.dK ps) :=
 ⟨λb xs q=>by rw[eQ<|by rintro rfl;rw[e]at q;cases q];exact q,λb p xs q=>by rw[eQ<|by rintro rfl;rw[e]at q;cases q];exact q⟩
def RH.thaw{G:O.Hs}{kvs:List (O.Val×O.Val)}(g:RH i G H)(e:H a=eL (.frz o<|.dK ps))(r:RKs i.K H kvs ps):RH i (O.upd G a<|.dct kvs)<|upd H a<|.dK ps:=λb p q=>by
 by_cases hb:b=a
 .subst hb;rw[O.eR]at q;cases q;exact⟨ps,eR,r.keepL<|Xs e⟩
 .rw[O.eQ hb]at q;exact(g b p q).moveL (Xs e)<|eQ hb
def RKs.len:∀{kvs:List (O.Val×O.Val)}{ps:List (Key×V)},RKs K H kvs ps->kvs.length=ps.length
 |_,_,.nil=>rfl
 |_,_,.cons _ _ t=>by rw[Ï,Ï,RKs.len t]
def RKs.at:∀{kvs:List (O.Val×O.Val)}{ps:List (Key×V)}{n:Nat}{c:Key}{x:V},RKs K H kvs ps->ps[n]?=eL (c,x)->∃k v,kvs[n]?=eL (k,v)/\WF k c/\RV K H v x
 |_,_,n,_,_,.nil,e=>by simp at e
 |_,_,0,_,_,.cons hk r _,e=>by simp at e;let⟨rfl,rfl⟩:=e;exact⟨_,_,rfl,hk,r⟩
 |_,_,n+1,_,_,.cons _ _ t,e=>by let⟨k,v,h1,h2⟩:=RKs.at (n:=n) t ⇑e;exact⟨k,v,⇑h1,h2⟩
def D3{k:O.Val}{c:Key}(h:WF k c):RV K H k<|kV c:=by
 cases k with
 |int j=>cases c with
  |inl l=>have h:j=l:=h;subst h;exact .int _
  |inr _=>exact(show False from h).elim
 |str s=>cases c with
  |inl _=>exact(show False from h).elim
  |inr t=>have h:t=gC s:=h;subst h;exact .str _
 |_=>exact(show False from h).elim
end
variable {H0:Hp} {a:Í} {o:Obj} {ps:List (Key×V)} {kvs:List (O.Val×O.Val)}
def Eu(e0:H0 a=eL (.frz o<|.dK ps))(r0:RKs i.K H0 kvs ps):ItOk i H0 (Iti a o ps) (λg=>g a=eL (.frz kvs)) (kvs.map<|O.itemOf eP) where
 go:=λn G H v k g e hv=>by
  have e1:=k.f _ _ _ e0;rw[Ø]at hv;let⟨p,hp,rfl⟩:=Ë.mp hv;have hn:n<ps.length:=by rw[<-r0.len];exact(Î.mp hp).1
  refine⟨⟨e1,hn⟩,λx H' ⟨q,c,y,ex,hq,hy,eH⟩=>?_⟩;subst ex eH;let⟨k2,v2,h1,h2,h3⟩:=(r0.keep k).at hy;rw[hp]at h1;cases h1;have kk:fo H<|upd H q<|.tup [kV c,y]:=fo.new hq;exact⟨kk,WU g hq,.tup (.inl eR)<|.cons (D3 h2)<|.cons (h3.keep kk) .nil⟩
 stop:=λn G H k g e hn=>⟨k.f _ _ _ e0,by rw[<-r0.len];simpa using hn⟩
def Am(e0:H0 a=eL (.frz o<|.dK ps))(r0:RKs i.K H0 kvs ps):ItOk i H0 (Itk a o ps) (λg=>g a=eL (.frz kvs)) (kvs.map<|O.itemOf eN) where
 go:=λn G H v k g e hv=>by
  have e1:=k.f _ _ _ e0;rw[Ø]at hv;let⟨p,hp,rfl⟩:=Ë.mp hv;have hn:n<ps.length:=by rw[<-r0.len];exact(Î.mp hp).1
  refine⟨⟨e1,hn⟩,λx H' ⟨eH,c,y,hy,ex⟩=>?_⟩;subst ex eH;let⟨k2,v2,h1,h2,h3⟩:=(r0.keep k).at hy;rw[hp]at h1;cases h1;exact⟨fo.refl _,g,D3 h2⟩
 stop:=λn G H k g e hn=>⟨k.f _ _ _ e0,by rw[<-r0.len];simpa using hn⟩
variable {tg:Expr} {ë:Pos} {body:List ľ} {q:O.Pt} {m:O.E} {mb:O.Ss}
def UE{Ų:Expr}{kb:Bool}{J:Í->Obj->List (Key×V)->It}(hp:Κ (à X.prog X.w) X.A X.env X.xe)(hc:X.calm=eN)(hi:PI X tg Ų<|Ir X J<|tE X i Φ m)(hg:PG X tg<|gPt i q)(hb:PSs X body<|tBl X i Φ mb)
  (hs:∀x,ė Ų X.env x=pure x) (hJ:∀(H0:Hp) (a:Í) (o:Obj) (ps:List<|Key×V) (kvs:List<|O.Val×O.Val),H0 a=eL (.frz o<|.dK ps)->RKs i.K H0 kvs ps->ItOk i H0 (J a o ps) (λg=>g a=eL (.frz kvs)) (kvs.map<|O.itemOf kb)) :
  PS X (.For tg Ų body [] ë) (tSt X i Φ<|.forI kb q m mb):=by
 intro Â s σ H D I ⟨env,G,N,R,B,C,Xe,p,w,c⟩;refine GV (B6 hp hc hi hg hb hs) Â s σ H D I ?_;refine one p.pre w λv G1 H1 x k1 p1 rx w'=>?_;let⟨a,e1,w''⟩:=eU w';let⟨kvs,e2,w1⟩:=eU w'';clear w' w'';have ev:v=.ref a:=by
  cases v with
  |ref b=>cases e1;rfl
  |_=>cases e1
 subst ev;cases rx.ref_inv;have eG:G1 a=eL (.dct kvs):=by
  cases z:G1 a with
  |none=>rw[z]at e2;cases e2
  |some o=>rw[z]at e2;cases o<;>first|(cases e2;rfl)|cases e2
 let⟨ps,ha,hr⟩:=p1.hp a _ eG;refine⟨a,ps,rfl,ha,λo h0=>?_⟩;have k2:fo H1<|upd H1 a<|.frz o<|.dK ps:=fo.put (λxs z=>by rw[ha]at z;cases z) λp u z=>by rw[ha]at z;cases z
 have g2:RH i (O.upd G1 a<|.frz kvs)<|upd H1 a<|.frz o<|.dK ps:=p1.hp.put k2 ⟨o,ps,eR,hr.keep k2⟩;have it:=hJ _ a o ps kvs eR<|hr.keep k2;have aK:∀{H':Hp}{G':O.Hs},fo (upd H1 a<|.frz o<|.dK ps) H'->RH i G' H'->H' a=eL (.frz o<|.dK ps)/\RKs i.K H' kvs ps/\fo H (upd H' a<|.dK ps):=λ{H' G'} k g=>by
  have e:=k.f a o _ eR;refine⟨e,(hr.keep k2).keep k,λb xs z=>?_,λb o' u z=>?_⟩
  .have z1:=k1.t b xs z;have hb:b≠a:=by rintro rfl;rw[ha]at z1;cases z1
   rw[eQ hb];exact k.t b xs (by rw[eQ hb];exact z1)
  .have z1:=k1.f b o' u z;have hb:b≠a:=by rintro rfl;rw[ha]at z1;cases z1
   rw[eQ hb];exact k.f b o' u (by rw[eQ hb];exact z1)
 have fin:∀Ń ř G' H',fo (upd H1 a<|.frz o<|.dK ps) H'->RH i G' H'->REn i.K H' Ń ř->(G' a=eL (.frz kvs)/\N Ń (O.upd G' a<|.dct kvs))->(D.thaw X).nx ř H':=λŃ ř G' H' k g en ⟨_,n⟩=>by let⟨b1,b2,b3⟩:=aK k g;exact⟨a,o,ps,b1,h0,c.nx Ń ř _ _ b3 (g.thaw b1 b2) (en.keepL<|Xs b1) n⟩
 have ret:∀v G' H' x,fo (upd H1 a<|.frz o<|.dK ps) H'->RH i G' H'->RV i.K H' v x->(G' a=eL (.frz kvs)/\R v (O.upd G' a<|.dct kvs))->(D.thaw X).rt x H':=λv G' H' x k g r ⟨_,n⟩=>by let⟨b1,b2,b3⟩:=aK k g;exact⟨a,o,ps,b1,h0,c.rt v _ _ x b3 (g.thaw b1 b2) (r.keepL<|Xs b1) n⟩
 have xo:∀Hq,XW X (XKS i Hq λ_ _ _=>False):=λHq=>λ_ _ _ _ _ _ _ _ _ _ ⟨_,_,_,_,_,_,_,_,z⟩=>z.elim;generalize hxs:kvs.map (O.itemOf kb)=xs at w1 it;generalize Ž:(λg:O.Hs=>g a=eL (.frz kvs))=st at w1 it;refine⟨λn m ř H'=>n+m=xs.length/\∃Ń G',fo (upd H1 a<|.frz o<|.dK ps) H'/\RH i G' H'/\REn i.K H' Ń ř/\O.wFor st (λv e g K M=>O.go (O.bind q g v e) λe2=>O.wSs Φ mb e2 g K (λu g2=>g2 a=eL (.frz kvs)/\R u (O.upd g2 a<|.dct kvs)) M K λ_ _ _=>False) (λe g=>g a=eL (.frz kvs)/\N e (O.upd g a<|.dct kvs)) (xs.drop n) Ń G',⟨xs.length,by lia,env,_,fo.refl _,g2,(p.en.keep k1).keep k2,⇑w1⟩,?_⟩;rintro n m ř H' ⟨hnm,Ń,G',k3,g3,e3,w3⟩;by_cases hn:n<xs.length
 .right;have hd:xs.drop n=xs[n]::xs.drop (n+1):=Θ hn;rw[hd]at w3;let⟨s2,w3⟩:=w3;have hv:xs[n]?=eL xs[n]:=É hn;let⟨a1,a2⟩:=it.go n G' H' xs[n] k3 g3 s2 hv;refine⟨a1,λσ4 H4=>∃cO G4,fo (upd H1 a<|.frz o<|.dK ps) H4/\RH i G4 H4/\REn i.K H4 cO σ4/\O.wFor st (λv e g K M=>O.go (O.bind q g v e) λe2=>O.wSs Φ mb e2 g K (λu g2=>g2 a=eL (.frz kvs)/\R u (O.upd g2 a<|.dct kvs)) M K λ_ _ _=>False) (λe g=>g a=eL (.frz kvs)/\N e (O.upd g a<|.dct kvs)) (xs.drop<|n+1) cO G4,λσ4 H4 h=>⟨m - 1,by lia,by lia,h⟩,λx H4 hy=>?_⟩;let⟨k4,g4,r4⟩:=a2 x H4 hy;let⟨bb,e5,w5⟩:=eU w3;refine⟨xs[n],Ń,G',bb,r4,g4,e3.keep k4,e5,λσ5 h5=>?_⟩;refine⟨bb,G',_,_,_,_,_,⟨h5,g4,xo _⟩,w5,⟨λenv6 σ6 G6 H6 k6 g6 e6 w6=>?_,λv6 G6 H6 x6 k6 g6 r6 w6=>?_,λenv6 σ6 G6 H6 k6 g6 e6 w6=>?_,λenv6 σ6 G6 H6 k6 g6 e6 w6=>?_⟩⟩
  .exact⟨env6,G6,(k3.trans k4).trans k6,g6,e6,w6⟩
  .exact ret v6 G6 H6 x6 ((k3.trans k4).trans k6) g6 r6 w6
  .exact fin env6 σ6 G6 H6 ((k3.trans k4).trans k6) g6 e6 w6
  .exact⟨env6,G6,(k3.trans k4).trans k6,g6,e6,w6⟩
 .left;have hd:xs.drop n=[]:=Ŕ (by lia);rw[hd]at w3;exact⟨it.stop n G' H' k3 g3 w3.1 (by lia),fin Ń ř G' H' k3 g3 e3 w3.2⟩
variable {kk:Nat} {d:Expr}
def EO{es:List Expr}{tp Ő š:Pos}(hp:Κ (à X.prog X.w) X.A X.env X.xe)(hc:X.calm=eN)(hd:PE X d<|tE X i Φ m)(hg:PG X (.Tuple es kk tp)<|gPt i q)(hb:PSs X body<|tBl X i Φ mb)
  (aH:Ħ d "items" X.env (eval d X.env)=eval d X.env) (aI:(Ő.endLine==š.line)=eN) (hs:∀x,ė (.Call (.Attribute d "items" Ő) [] [] š) X.env x=pure x) :
  PS X (.For (.Tuple es kk tp) (.Call (.Attribute d "items" Ő) [] [] š) body [] ë) (tSt X i Φ<|.forI eP q m mb) :=
 UE hp hc (BF hd aH aI) hg hb hs λ_ _ _ _ _ e r=>Eu e r
def Fo(hp:Κ (à X.prog X.w) X.A X.env X.xe)(hc:X.calm=eN)(hd:PE X d<|tE X i Φ m)(hg:PG X tg<|gPt i q)(hb:PSs X body<|tBl X i Φ mb)(hs:∀x,ė d X.env x=pure x) :
  PS X (.For tg d body [] ë) (tSt X i Φ<|.forI eN q m mb) :=
 UE hp hc (Go hd) hg hb hs λ_ _ _ _ _ e r=>Am e r
def Nv(ĝ:List<|List Int):∀(k:Nat) (x:List Int) (r:List<|List Int),ĝ.take (k+1)=x::r->k<ĝ.length->O.minR x r=ĝ.getD (ĵ (btL λn=>ĝ.getD n []) k) []
 |0,x,r,h,hk=>by
  cases ĝ with
  |nil=>cases h
  |cons y ys=>simp at h;let⟨rfl,rfl⟩:=h;rfl
 |k+1,x,r,h,hk=>by
  cases ĝ with
  |nil=>cases h
  |cons y ys =>
   rw[Ϫ]at h;injection h with h1 h2;subst h1 h2;have bN:k<ys.length:=⇑hk
   have ih:=Nv (y::ys) k y (ys.take k) (by rw[Ϫ]) (by simp;lia);have e:ys.take (k+1)=ys.take k++[ys[k]]:=by rw[Ÿ];simp[bN]
   have app:∀(b:List Int) (l:List<|List Int) (z:List Int),O.minR b (l++[z])=if O.fG z (O.minR b l)then z else O.minR b l:=by
    intro b l z;induction l generalizing b with
    |nil=>rfl
    |cons w l ih=>exact ih _
   rw[e,app,ih];have e2:(y::ys).getD (k+1) []=ys[k]:=by simp[bN]
   show _=(y::ys).getD (if btL (λn=>(y::ys).getD n []) (k+1) (ĵ (btL λn=>(y::ys).getD n []) k)=eN then k+1 else ĵ (btL λn=>(y::ys).getD n []) k) [];have eb:btL (λn=>(y::ys).getD n []) (k+1) (ĵ (btL λn=>(y::ys).getD n []) k)=O.fG ys[k] ((y::ys).getD (ĵ (btL λn=>(y::ys).getD n []) k) []):=by rw[ML,<-e2];rfl
   rw[eb];cases O.fG ys[k] ((y::ys).getD (ĵ (btL λn=>(y::ys).getD n []) k) [])with
   |true=>rw[gp rfl,gp rfl,e2]
   |false=>rw[gq (by decide),gq<|by decide]
def GW{G:O.Hs}{H:Hp}{xs:List O.Val}{us:List V}{w:List Int}{r:List (List Int)}{y:V}(h2:RVs i.K H xs us)(h3:(w::r).length=us.length)(h5:xs=(w::r).map λn=>.tup<|n.map .int)(hy:us[ĵ (btL λn=>(w::r).getD n [])<|us.length - 1]?=eL y):RV i.K H (.tup<|(O.minR w r).map .int) y:=by
 rw[Nv (w::r) ((w::r).length - 1) w r (by simp)<|by simp];rw[<-h3]at hy;have ϴ:ĵ (btL λn=>(w::r).getD n []) ((w::r).length - 1)<(w::r).length:=by have:=J0 (btL λn=>(w::r).getD n [])<|(w::r).length - 1;simp only[Ï]at this ⊢;lia
 generalize hj:ĵ (btL λn=>(w::r).getD n []) ((w::r).length - 1)=j at hy ϴ ⊢;have hxj:xs[j]?=eL (.tup<|((w::r).getD j []).map .int):=by rw[h5,Ø,É ϴ];simp[Đ,É ϴ]
 let⟨x2,hx2,rx2⟩:=h2.get hxj;rw[hy]at hx2;cases hx2;exact rx2
def Po{e:Expr}{p kp kpos:Pos}(hc:X.calm=eN)(hu:X.A.units+1<Ī)(hK:X.K=i.K)(hg:Gl X "min")(hm:X.mg "min" = eM)(he:PE X e<|tE X i Φ m)(hs:Ü [e] X.env=[(eP,eval e X.env)]) :
  PE X (.Call (.Name "min" p) [e] [⟨eL "default",.Constant .none kk kp,kpos⟩] ë) (tE X i Φ<|.bi .minD<|.cons m .nil):=by
 refine(Fg hc hu hg hm (ZQ he fW<|by rw[hs];rfl) hs).imp λσ H Q ⟨env,G,Qm,Em,p,w,c⟩=>?_;change tE X i Φ m σ H _;refine one p w λv G1 H1 x k1 p1 r q=>?_
 replace q:(O.fO G1 v).wp G1 Qm:=q
 cases v with
 |ref a =>
  cases r.ref_inv;unfold O.fO at q;dsimp only at q;cases z:(O.fe<|G1 a).bind O.rowsOf with
  |none=>rw[z]at q;exact(Zi q).elim
  |some ĝ =>
   let⟨xs,z1,z2⟩:=ì.mp z;let⟨us,h1,h2⟩:=ZG p1.hp z1;let⟨h3,h4,h5⟩:=N8 h2 z2;rw[z]at q;refine⟨a,us,ĝ,rfl,by rw[hK];exact h1,h3,by rw[hK];exact h4,λe0=>?_,λe0 y hy=>?_⟩
   .subst e0;cases ĝ with
    |nil=>exact c _ G1 H1 _ k1 p1.hp .non<|Zm q
    |cons _ _=>cases h3
   .cases ĝ with
    |nil=>exact gA (ŭ.mp h3.symm) e0
    |cons w r =>exact c _ G1 H1 _ k1 p1.hp (GW (G:=G1) h2 h3 h5 hy)<|Zm q
 |_=>exact(Zi q).elim
end Snd
namespace L2
open PySem PySem.Spec PyProof.Rows
variable {X:Cx}
abbrev R6(J:Í->Obj->List (Key×V)->It)(td:TE):TI:=λσ H R=>td σ H λx H1=>∃a o ps,x=.ref a/\H1 a=eL (.frz o<|.dK ps)/\R (J a o ps) H1
def DX{tg d:Expr}{td:TE}(hd:PE X d td):PI X tg d<|R6 Itk td:=by
 intro Â s σ H R I h;refine thn (hd Â s σ H _ I h) λv s1 ⟨x,H1,I1,r1,a,o,ps,ex,ea,q1⟩=>?_;subst ex;obtain rfl:v=Value.ref a:=r1;let⟨z,hsm,vs,ű,dd⟩:=XA I1.hok<|.inr ⟨_,ea⟩;let⟨ep,da⟩:=dd.dictAt;refine wpAny_pyIter_dict hsm da ?_;have I2:=I1.kept (t':=s1.toks) (h':=s1.heap.push {cls:=.type "dict_keyiterator",data:=.fields #[.ref a,.int 0 0,.int vs.length 0,.int ep 0]}) λb o e=>Ä _ e;let⟨ob,ds,ho,_,hdat,_⟩:=da;let⟨ab,_⟩:=(show eZ X.prog X.w H1 s1.heap a (.frz o<|.dK ps) from I1.hok a _ ea)
 rw[ho]at ab;cases ab;refine⟨_,[_],_,_,_,rfl,I2,K0 a _ hdat,⟨_,Ô _ rfl,rfl,by rw[ű.length];rfl⟩,λb hb=>?_,q1⟩;have e:b=s1.heap.objs.size:=⇑hb
 subst e;exact I1.fpOk (Ì _)<|I1.hok.fresh<|Ì _
end L2
namespace Snd
open PySem L2
variable {i:Inf}{X:Cx}{Φ:O.Fs}
def B8{tg d:Expr}{m:O.E}(hd:PE X d<|tE X i Φ m):PI X tg d<|tIt X i Φ<|.keysF m:=(DX hd).imp λσ H R ⟨env,G,QI,Em,p,w,c⟩=>by
 refine one p w λv G1 H1 x k1 p1 rx w'=>?_;let⟨a,e1,w''⟩:=eU w';let⟨kvs,e2,w1⟩:=eU w'';clear w' w'';have ev:v=.ref a:=by
  cases v with
  |ref b=>cases e1;rfl
  |_=>cases e1
 subst ev;cases rx.ref_inv;have eG:G1 a=eL (.frz kvs):=by
  cases z:G1 a with
  |none=>rw[z]at e2;cases e2
  |some o=>rw[z]at e2;cases o<;>first|(cases e2;rfl)|cases e2
 let⟨o,ps,ha,hr⟩:=p1.hp a _ eG;exact⟨a,o,ps,rfl,ha,c _ _ _ _ _ k1 p1.hp (Am ha hr) w1⟩
structure Md where
 N:List Str
 sc:ν
 cs:List<|String×O.Val
 fs:List String
 cm:Bool
 cl:List String
 ms:List<|String×String
 fl:List String
 xs:List String
abbrev Md.nmOf(c:Md)(j:Nat):Str:=c.N.getD j Str.empty
abbrev Md.vis(c:Md)(x:Str):Bool:=match c.sc.names.lookup x with
 |some .local=>eN
 |some .cell=>eN
 |some .free=>eN
 |_=>eP
abbrev Md.loc(c:Md)(x:Str):Bool:=c.sc.names.lookup x==eL .local||c.sc.names.lookup x==eL .cell
abbrev Md.gl(c:Md)(x:Str):Bool:=c.sc.names.lookup x==eL .globalImplicit
abbrev nm(x:Str):Bool:=!(x==("__debug__" : Str)) && !(x==("__classdict__" : Str)) && !(x==("__name__" : Str))
abbrev dE:Expr:=.Name Str.empty ⟨0,0,0,0⟩
abbrev mix:List (Option Expr)->List Expr->List Expr
 |k::ks,v::vs=>k.getD dE::v::mix ks vs
 |_,_=>[]
abbrev sub:Expr->List Expr
 |.BoolOp _ xs _=>xs
 |.BinOp a _ b _=>[a,b]
 |.UnaryOp _ a _=>[a]
 |.IfExp a b c _=>[a,b,c]
 |.Compare a _ bs _=>a::bs
 |.Call f as ks _=>f::(as++ks.map (·.value))
 |.FormattedValue a _ _ _=>[a]
 |.JoinedStr vs _=>vs
 |.Attribute a _ _=>[a]
 |.Subscript a b _=>[a,b]
 |.List es _=>es
 |.Tuple es _ _=>es
 |.Slice a b c _=>[a.getD dE,b.getD dE,c.getD dE]
 |.ListComp e gs _ _=>e::gs.flatMap λg=>g.target::g.iter::g.ifs
 |.Dict ks vs _=>mix ks vs
 |_=>[]
abbrev kid(x:Expr)(j:Nat):Expr:=(sub x).getD j dE
abbrev num:Expr->Nat
 |.Constant _ k _=>k
 |.Tuple _ k _=>k
 |_=>0
abbrev scp:Expr->ν
 |.ListComp _ _ s _=>s
 |_=>default
abbrev kwp:Expr->Pos
 |.Call _ _ (k::_) _=>k.pos
 |_=>⟨0,0,0,0⟩
abbrev Nn:O.Bop->ϗ
 |.add=>.Add
 |.sub=>.Sub
 |.mul=>.Mult
 |.fdiv=>.FloorDiv
 |.mod=>.Mod
 |.pow=>.Pow
abbrev WH:O.Cop->ck
 |.eq=>.Eq
 |.ne=>.NotEq
 |.lt=>.Lt
 |.le=>.LtE
 |.gt=>.Gt
 |.ge=>.GtE
 |.isin=>.In
 |.notin=>.NotIn
 |.is=>.Is
 |.isnot=>.IsNot
 |.eqE=>.Eq
 |.neE=>.NotEq
 |.ntT=>.IsNot
abbrev Qx:O.Val->Const
 |.non=>.none
 |.bl b=>.bool b
 |.int i=>.int i
 |.str s=>.str<|gC s
 |_=>.ellipsis
abbrev HG:O.Val->Bool
 |.non=>eN
 |.bl _=>eN
 |.int _=>eN
 |.str _=>eN
 |_=>eP
abbrev ZJ:O.E->Bool
 |.and _ _=>eN
 |_=>eP
abbrev YA:O.E->Bool
 |.or _ _=>eN
 |_=>eP
abbrev Zq:O.Tt->Bool
 |.and _ _=>eN
 |_=>eP
abbrev ZE:O.Tt->Bool
 |.or _ _=>eN
 |_=>eP
abbrev rest(b:Bool)(x:Expr):Expr:=match b,x with
 |true,.BoolOp op (_::xs) p=>.BoolOp op xs p
 |_,x=>kid x 1
abbrev flat(b:Bool)(x:Expr):List Expr:=match b with
 |true=>sub x
 |false=>[x]
abbrev Yp:O.Bi->Str
 |.len=>"len"
 |.int=>"int"
 |.str=>"str"
 |.bool=>"bool"
 |.abs=>"abs"
 |.min2=>"min"
 |.max2=>"max"
 |.minL=>"min"
 |.maxL=>"max"
 |.minP=>"min"
 |.maxP=>"max"
 |.minD=>"min"
 |.sum=>"sum"
 |.all=>"all"
 |.any=>"any"
 |.sorted=>"sorted"
 |.sortedI=>"sorted"
 |.sortedSet=>"sorted"
 |.lenSet=>"len"
 |.list=>"list"
 |.tuple=>"tuple"
 |.dict=>"dict"
 |.isi _=>"isinstance"
 |.isx _=>"isinstance"
 |.isc _=>"isinstance"
 |.repr=>"repr"
 |.listRev=>"list"
 |.listRange=>"list"
 |.tupRange=>"tuple"
 |.dictEnum=>"dict"
 |.listD=>"list"
abbrev Rq:O.Bi->Option Str
 |.sortedSet=>eL "set"
 |.lenSet=>eL "set"
 |.listRev=>eL "reversed"
 |.listRange=>eL "range"
 |.tupRange=>eL "range"
 |.dictEnum=>eL "enumerate"
 |_=>eM
abbrev ID(Ts:List String)(x:Expr):Expr:=match Ts with
 |[T]=>.Name (gC T) x.pos
 |Ts=>.Tuple (Ts.zipIdx.map λp=>.Name (gC p.1) (kid x p.2).pos) (num x) x.pos
abbrev Iy(f:O.Bi)(as:List Expr)(x:Expr):List Expr:=match Rq f with
 |some y=>[.Call (.Name y (kid (kid x 1) 0).pos) as [] (kid x 1).pos]
 |none=>match f with
  |.isi Ts=>as++[ID Ts<|kid x 2]
  |.isx Ts=>as++[ID Ts<|kid x 2]
  |.isc T=>as++[ID [T]<|kid x 2]
  |_=>as
abbrev U7(f:O.Bi)(x:Expr):List Expr:=match Rq f with
 |some _=>(sub<|kid x 1).tail
 |none=>(sub x).tail
abbrev RP(f:O.Bi)(x:Expr):List aR:=match f with
 |.minD=>[⟨eL "default",.Constant .none (num<|kid x 2) (kid x 2).pos,kwp x⟩]
 |_=>[]
abbrev IG:O.Bm->Str
 |.append=>"append"
 |.extend=>"extend"
 |.pop=>"pop"
 |.popAt=>"pop"
 |.insert=>"insert"
 |.remove=>"remove"
 |.clear=>"clear"
 |.reverse=>"reverse"
 |.index=>"index"
 |.count=>"count"
 |.dget=>"get"
 |.dgetD=>"get"
 |.dpop=>"pop"
 |.dpopD=>"pop"
 |.setdefault=>"setdefault"
 |.join=>"join"
 |.split=>"split"
 |.replace=>"replace"
 |.upper=>"upper"
 |.partition=>"partition"
 |.sidx=>"index"
abbrev Wl:List Expr->List (Option Expr)
 |k::_::r=>eL k::Wl r
 |_=>[]
abbrev Cr:List Expr->List Expr
 |_::v::r=>v::Cr r
 |_=>[]
abbrev toP(p:O.Pt)(c:Md)(x:Expr):Expr:=match p with
 |.one j=>.Name (c.nmOf j) x.pos
 |.many js=>.Tuple (js.zipIdx.map λp=>.Name (c.nmOf p.1) (kid x p.2).pos) (num x) x.pos
 |.nest j js=>.Tuple [.Name (c.nmOf j) (kid x 0).pos,.Tuple (js.zipIdx.map λp=>.Name (c.nmOf p.1) (kid (kid x 1) p.2).pos) (num<|kid x 1) (kid x 1).pos] (num x) x.pos
abbrev nmX:Expr->Str
 |.Name x _=>x
 |_=>Str.empty
abbrev YH:Expr->List Str
 |.Tuple es _ _=>es.map nmX
 |x=>[nmX x]
abbrev Md.blk(c:Md)(sc:ν)(x:List Str)(ü:List Nat):Md :=
 {N:=x++ü.map (λj=>c.N.getD j Str.empty),sc:={sc with names:=sc.names.map λ(n,k)=>if(k == .free&&c.sc.kind == .function&&c.sc.names.lookup n==eL .cell)then(n,.cell)else(n,k)},cs:=c.cs,fs:=c.fs,cm:=c.cm,cl:=c.cl,ms:=c.ms,fl:=c.fl,xs:=c.xs}
abbrev A3:O.E->Bool
 |.cst (.str _)=>eN
 |_=>eP
mutual
noncomputable def toX:O.E->Md->Expr->Expr
 |.cst v,_,x=>.Constant (Qx v) (num x) x.pos
 |.var j,c,x=>.Name (c.nmOf j) x.pos
 |.glob y _,_,x=>.Name (gC y) x.pos
 |.bin o a b,c,x=>.BinOp (toX a c<|kid x 0) (Nn o) (toX b c<|kid x 1) x.pos
 |.neg a,c,x=>.UnaryOp .USub (toX a c<|kid x 0) x.pos
 |.not a,c,x=>.UnaryOp .Not (toX a c<|kid x 0) x.pos
 |.and a b,c,x=>.BoolOp .And (toX a c (kid x 0)::flat (ZJ b) (toX b c<|rest (ZJ b) x)) x.pos
 |.or a b,c,x=>.BoolOp .Or (toX a c (kid x 0)::flat (YA b) (toX b c<|rest (YA b) x)) x.pos
 |.cmp o a b,c,x=>.Compare (toX a c<|kid x 0) [WH o] [toX b c<|kid x 1] x.pos
 |.chain o1 o2 a b d,c,x=>.Compare (toX a c<|kid x 0) [WH o1,WH o2] [toX b c<|kid x 1,toX d c<|kid x 2] x.pos
 |.call f as,c,x=>.Call (.Name (gC f) (kid x 0).pos) (toA as c (sub x).tail) [] x.pos
 |.make C as,c,x=>.Call (.Name (gC C) (kid x 0).pos) (toA as c (sub x).tail) [] x.pos
 |.meth _ m o as,c,x=>.Call (.Attribute (toX o c<|kid (kid x 0) 0) (gC m) (kid x 0).pos) (toA as c (sub x).tail) [] x.pos
 |.fld o f,c,x=>.Attribute (toX o c<|kid x 0) (gC f) x.pos
 |.bi f as,c,x=>.Call (.Name (Yp f) (kid x 0).pos) (Iy f (toA as c<|U7 f x) x) (RP f x) x.pos
 |.bm m o as,c,x=>.Call (.Attribute (toX o c<|kid (kid x 0) 0) (IG m) (kid x 0).pos) (toA as c (sub x).tail) [] x.pos
 |.idx a b,c,x=>.Subscript (toX a c<|kid x 0) (toX b c<|kid x 1) x.pos
 |.slc a lo hi,c,x=>.Subscript (toX a c<|kid x 0) (.Slice (toO lo c<|kid (kid x 1) 0) (toO hi c<|kid (kid x 1) 1) eM (kid x 1).pos) x.pos
 |.rev a,c,x=>.Subscript (toX a c<|kid x 0) (.Slice eM eM (eL<|.UnaryOp .USub (.Constant (.int 1) (num<|kid (kid (kid x 1) 2) 0) (kid (kid (kid x 1) 2) 0).pos) (kid (kid x 1) 2).pos) (kid x 1).pos) x.pos
 |.sortT a,c,x=>.Call (.Name "sorted" (kid x 0).pos) [toX a c<|kid x 1] [] x.pos
 |.pick a lo hi st,c,x=>.Subscript (toX a c<|kid x 0) (.Slice (toO lo c<|kid (kid x 1) 0) (toO hi c<|kid (kid x 1) 1) (eL<|toX st c<|kid (kid x 1) 2) (kid x 1).pos) x.pos
 |.tup es,c,x=>.Tuple (toA es c<|sub x) (num x) x.pos
 |.key es,c,x=>.Tuple (toA es c<|sub x) (num x) x.pos
 |.dctP,c,x=>.Dict [] [] x.pos
 |.lst es,c,x=>.List (toA es c<|sub x) x.pos
 |.dct es,c,x=>.Dict (Wl<|toA es c<|sub x) (Cr<|toA es c<|sub x) x.pos
 |.ife t a b,c,x=>.IfExp (toT t c<|kid x 0) (toX a c<|kid x 1) (toX b c<|kid x 2) x.pos
 |.comp ü _ p it t e,c,x=>.ListComp (toX e (c.blk (scp x) (YH<|kid x 1) ü)<|kid x 0) [⟨toP p (c.blk (scp x) (YH<|kid x 1) ü)<|kid x 1,toI it c<|kid x 2,toF t (c.blk (scp x) (YH<|kid x 1) ü)<|kid x 3,0⟩] (scp x) x.pos
 |.fstr es,c,x=>.JoinedStr (toJ es c<|sub x) x.pos
 |.split o a,c,x=>.Call (.Attribute (toX o c<|kid (kid x 0) 0) "split" (kid x 0).pos) [toX a c<|kid x 1] [] x.pos
 |.repl o y z,c,x=>.Call (.Attribute (toX o c<|kid (kid x 0) 0) "replace" (kid x 0).pos) [.Constant (.str<|gC y) (num<|kid x 1) (kid x 1).pos,.Constant (.str<|gC z) (num<|kid x 2) (kid x 2).pos] [] x.pos
noncomputable def toA:O.Es->Md->List Expr->List Expr
 |.nil,_,_=>[]
 |.cons e es,c,xs=>toX e c (xs.headD dE)::toA es c xs.tail
noncomputable def toJ:O.Es->Md->List Expr->List Expr
 |.nil,_,_=>[]
 |.cons e es,c,xs=>(if A3 e then toX e c (xs.headD dE)else .FormattedValue (toX e c<|kid (xs.headD dE) 0) (-1) eM (xs.headD dE).pos)::toJ es c xs.tail
noncomputable def toO:O.Oe->Md->Expr->Option Expr
 |.none,_,_=>eM
 |.some e,c,x=>eL<|toX e c x
noncomputable def toT:O.Tt->Md->Expr->Expr
 |.yes,_,x=>x
 |.val e,c,x=>toX e c x
 |.not t,c,x=>.UnaryOp .Not (toT t c<|kid x 0) x.pos
 |.and a b,c,x=>.BoolOp .And (toT a c (kid x 0)::flat (Zq b) (toT b c<|rest (Zq b) x)) x.pos
 |.or a b,c,x=>.BoolOp .Or (toT a c (kid x 0)::flat (ZE b) (toT b c<|rest (ZE b) x)) x.pos
noncomputable def toF:O.Tt->Md->Expr->List Expr
 |.yes,_,_=>[]
 |.val e,c,x=>[toX e c x]
 |.not t,c,x=>[.UnaryOp .Not (toT t c<|kid x 0) x.pos]
 |.and a b,c,x=>[.BoolOp .And (toT a c (kid x 0)::flat (Zq b) (toT b c<|rest (Zq b) x)) x.pos]
 |.or a b,c,x=>[.BoolOp .Or (toT a c (kid x 0)::flat (ZE b) (toT b c<|rest (ZE b) x)) x.pos]
noncomputable def toI:O.It->Md->Expr->Expr
 |.seq e,c,x=>toX e c x
 |.chars e,c,x=>toX e c x
 |.range a,c,x=>.Call (.Name "range" (kid x 0).pos) [toX a c<|kid x 1] [] x.pos
 |.range2 a b,c,x=>.Call (.Name "range" (kid x 0).pos) [toX a c<|kid x 1,toX b c<|kid x 2] [] x.pos
 |.enumL e,c,x=>.Call (.Name "enumerate" (kid x 0).pos) [toX e c<|kid x 1] [] x.pos
 |.enum e,c,x=>.Call (.Name "enumerate" (kid x 0).pos) [toX e c<|kid x 1] [] x.pos
 |.zip a b,c,x=>.Call (.Name "zip" (kid x 0).pos) [toX a c<|kid x 1,toX b c<|kid x 2] [] x.pos
 |.items e,c,x=>toX e c x
 |.keysF e,c,x=>toX e c x
 |.rev e,c,x=>.Call (.Name "reversed" (kid x 0).pos) [toX e c<|kid x 1] [] x.pos
end
abbrev blts:List Str:=["isinstance","int","bool","str","list","tuple","dict","max","min","range","len","sorted","set","all","any","sum","enumerate","zip","reversed","abs","repr","ValueError"]
structure Kls(X:Cx)(i:Inf)(P:O.Pg)(n:Nat)(c:Md):Prop where
 A:ClsA i
 F:∀f,c.fl.contains f=eN->FldOk i f
 mkc:∀C,c.cl.contains C=eN->∃a f,i.ins C=eN/\i.cl C a/\Mk i.K a f/\X.mg (gC C)=eL (.ref a)/\Dfm X.prog X.w X.mg X.base i P n (C ++ ".__init__") f
 mth:∀C m,c.ms.contains (C,m)=eN->∃a f,(∀b,i.cl C b->b=a)/\Cls i.K a/\Meth i.K a (gC m) f/\Dfm X.prog X.w X.mg X.base i P n (C ++ "." ++ m) f
structure Xls(X:Cx)(i:Inf)(c:Md):Prop where
 xc:∀C a,i.xc C a->XCls i.K a/\PySem.W.kitOne i.K (.ref a) (.type "ValueError")=eL eN
 rs:∀C,c.xs.contains C=eN->∃a,i.xc C a/\PyProof.Rows.OwnCls (gC C) a [.type "ValueError",.type "Exception",.type "BaseException",.type "object"] "ValueError.__new__" X.mg X.base
 kn:∀T,(c.xs.contains T||T == "ShutError")=eN->∃D,X.mg (gC T)=eL (.ref D)/\∀C a,i.xc C a->PySem.W.kitOne i.K (.ref a) (.ref D)=eL (O.fX C T)/\(O.fX C T=eN->PySem.W.exmOne i.K (.ref a) (.ref D)=eL eN)
structure Gd(X:Cx)(i:Inf)(P:O.Pg)(n:Nat)(c:Md):Prop where
 K:X.K=i.K
 N:X.N=c.N
 sc:X.env.scope=c.sc
 nd:c.N.Nodup
 un:X.A.units+200<Ī
 calm:c.cm=eN->X.calm=eN
 room:c.cm=eN->fy (2*n+1) X.A
 bl:∀x∈blts,X.mg x=eM
 dfs:∀f,c.fs.contains f=eN->Dfo X.prog X.w X.mg X.base i P n f
 cst:∀x v,c.cs.lookup x=eL v->∃u y,X.mg (gC x)=eL u/\RelV y u/\∀H,RV i.K H v y
 kl:Kls X i P n c
 xl:c.xs≠[]->Xls X i c
variable {X:Cx}{i:Inf}{P:O.Pg}{n:Nat}{c:Md}
variable {x:Str}
def Gd.gl(g:Gd X i P n c)(h:c.gl x=eN):Gl X x:=by show X.env.scope.names.lookup x=_;rw[g.sc];exact eq_of_beq h
def Gd.vis(g:Gd X i P n c)(h:c.vis x=eN):Vis X.env.scope x:=by
 unfold Vis;rw[g.sc];unfold Md.vis at h;split at h
 .exact .inl (by assumption)
 .exact .inr (.inl<|by assumption)
 .exact .inr (.inr<|by assumption)
 .cases h
def Gd.loc(g:Gd X i P n c)(h:c.loc x=eN):L2.Loc X.env.scope x:=by
 unfold L2.Loc;rw[g.sc];rcases (Bool.or_eq_true ..).mp h with h|h
 .exact .inl<|eq_of_beq h
 .exact .inr<|eq_of_beq h
def Gd.rm(g:Gd X i P n c)(h:c.cm=eN):fy (2*n) X.A:=(g.room h).mono (Ň _)
def U6(h:nm x=eN):(x==("__debug__" : Str))=eP/\(x==("__classdict__" : Str))=eP/\x≠"__name__":=by simp only[nm,bAq,Ņ]at h;exact⟨h.1.1,h.1.2,⇑h.2⟩
def Zv(e:O.E)(c:Md)(x:Expr)(es:List Expr)(env:Env):Ü (toX e c x::es) env=(eP,eval (toX e c x) env)::Ü es env:=by cases e<;>rfl
def Du(e:O.E)(c:Md)(x:Expr):M8<|toX e c x:=by intro o j;cases e<;>rfl
variable {op:ck}
def EJ(e:O.E)(c:Md)(x:Expr):Ľ op (toX e c x)=eP:=by cases e<;>rfl
def CP(e:O.E)(c:Md)(x:Expr)(env:Env):∀y,ė (toX e c x) env y=pure y:=by intro y;cases e<;>rfl
abbrev YE:Expr->Bool
 |.Call (.Name _ _) [] _ _=>eP
 |_=>eN
variable {e:Expr}
def Yv(h:YE e=eN)(f:Str)(env:Env):Ħ e f env (eval e env)=eval e env:=by
 cases e with
 |Call g as ks p =>
  cases as with
  |cons _ _=>cases g<;>rfl
  |nil=>cases g with
   |Name x q=>cases h
   |_=>rfl
 |_=>rfl
abbrev Zc:O.Es->Nat
 |.nil=>0
 |.cons _ es=>Zc es+1
def Wk:∀(es:O.Es) (c:Md) (xs:List Expr),(toA es c xs).length=Zc es
 |.nil,_,_=>rfl
 |.cons _ es,c,xs=>by show(toA es c xs.tail).length+1=_;rw[Wk es];rfl
def Yu(env:Env)(ë:Pos):∀(es:O.Es) (c:Md) (xs:List Expr),(ģ ë<|Ü (toA es c xs) env).any (·.1)=eP
 |.nil,_,_=>rfl
 |.cons e es,c,xs=>by show(ģ ë<|Ü (toX e c (xs.headD dE)::toA es c xs.tail) env).any (·.1)=eP;rw[Zv];show(eP||(ģ ë<|Ü (toA es c xs.tail) env).any (·.1))=eP;rw[Yu env ë es];rfl
def Jd(env:Env)(ë:Pos):∀(es:O.Es) (c:Md) (xs:List Expr),(ģ ë<|Ü (toA es c xs) env).all (λx=>!x.1)=eN
 |.nil,_,_=>rfl
 |.cons e es,c,xs=>by show(ģ ë<|Ü (toX e c (xs.headD dE)::toA es c xs.tail) env).all (λx=>!x.1)=eN;rw[Zv];show(eN&&(ģ ë<|Ü (toA es c xs.tail) env).all (λx=>!x.1))=eN;rw[Jd env ë es];rfl
abbrev ZC:O.Pt->Bool
 |.one _=>eN
 |_=>eP
def Mf(p:O.Pt)(x:Expr):((!ZC p)=eN->∃es k q,toP p c x=.Tuple es k q)/\((!ZC p)=eP->∃y q,toP p c x=.Name y q):=by
 cases p with
 |one j=>exact⟨λz=>(by cases z),λ_=>⟨_,_,rfl⟩⟩
 |many js=>exact⟨λ_=>⟨_,_,_,rfl⟩,λz=>(by cases z)⟩
 |nest j js=>exact⟨λ_=>⟨_,_,_,rfl⟩,λz=>(by cases z)⟩
abbrev CG(X:Cx)(c:Md)(j:Nat):Prop:=X.N[j]?=eL (c.nmOf j)/\L2.Loc X.env.scope (c.nmOf j)/\(X.fn (c.nmOf j)=eN\/X.env.scope.names.lookup (c.nmOf j)=eL .local)
abbrev Hx(q:Nat->Prop):O.Pt->Prop
 |.one j=>q j
 |.many js=>∀j∈js,q j
 |.nest j js=>q j/\∀k∈js,q k
def MW{X:Cx}{c:Md}(nd:X.N.Nodup)(f:Nat->Pos):∀(js:List Nat) (k:Nat),(∀j∈js,CG X c j)->
  PGs X ((js.zipIdx k).map λp=>.Name (c.nmOf p.1)<|f p.2) (BL i js)/\(Ĝ ((js.zipIdx k).map λp=>.Name (c.nmOf p.1)<|f p.2) X.env).length=js.length/\(Ĝ ((js.zipIdx k).map λp=>.Name (c.nmOf p.1)<|f p.2) X.env).findIdx? (·.1)=eM
 |[],_,_=>⟨EU,rfl,rfl⟩
 |j::js,k,h=>by
  let⟨h1,h2,h3⟩:=h j (by simp);let⟨a1,a2,a3⟩:=MW nd f js (k+1) λl hl=>h l (by simp[hl]);rw[List.zipIdx_cons,Ñ];refine⟨CL nd h1 h2 h3 a1 rfl,?_,?_⟩
  .show(Ĝ ((js.zipIdx<|k+1).map _) X.env).length+1=js.length+1;rw[a2]
  .show List.findIdx? (·.1) ((eP,ξ (.Name (c.nmOf j)<|f k) X.env)::Ĝ _ X.env)=eM;rw[List.findIdx?_cons];simp[a3]
def HR(hK:X.K=i.K)(nd:X.N.Nodup)(hc:X.calm=eN){p:O.Pt}{x:Expr}(h:Hx (CG X c) p):PG X (toP p c x)<|gPt i p:=by
 cases p with
 |one j=>exact Ov nd h.1 h.2.1 h.2.2
 |many js =>let⟨a1,a2,a3⟩:=MW nd (λk=>(kid x k).pos) js 0 h;exact UW hK hc a1 a2 a3
 |nest j js =>let⟨h0,h⟩:=h;let⟨a1,a2,a3⟩:=MW nd (λk=>(kid (kid x 1) k).pos) js 0 h;exact FY hK hc (Ov nd h0.1 h0.2.1 h0.2.2)<|UW hK hc a1 a2 a3
variable {Φ:O.Fs} {a:O.E} {b:O.E} {l:Expr} {ë:Pos}
def Q9(g:Gd X i P n c){o:O.Bop}{r:Expr}(ha:PE X l<|tE X i Φ a)(hb:PE X r<|tE X i Φ b):PE X (.BinOp l (Nn o) r ë)<|tE X i Φ<|.bin o a b:=by
 cases o with
 |add=>exact KK Q3 (by rw[g.K];exact b_add) ha hb
 |sub=>exact KK Lb b_sub ha hb
 |mul=>exact KK QF b_mul ha hb
 |fdiv=>exact KK EZ b_fdiv ha hb
 |mod=>exact KK HV b_mod ha hb
 |pow=>exact KK IM b_pow ha hb
abbrev XU:O.Cop->Bool
 |.is=>eN
 |.isnot=>eN
 |.ntT=>eN
 |_=>eP
variable {o:O.Cop}
def OT(g:Gd X i P n c)(h:XU o=eP):∃r,OpR X (î<|WH o) r/\Z1 i o r:=by
 have u65:X.A.units+65<Ī:=by have:=g.un;lia
 have u64:X.A.units+64<Ī:=by have:=g.un;lia
 have u0:X.A.units<Ī:=by have:=g.un;lia
 cases o with
 |eq=>exact⟨_,Px u64,by rw[g.K];exact SL⟩
 |ne=>exact⟨_,Le u64,by rw[g.K];exact Sv⟩
 |lt=>exact⟨_,SG u0,by rw[g.K];exact c_lt⟩
 |le=>exact⟨_,Qd,c_le⟩
 |gt=>exact⟨_,RT u0,by rw[g.K];exact c_gt⟩
 |ge=>exact⟨_,P6,c_ge⟩
 |isin=>exact⟨_,SF u65,by rw[g.K];exact Sr⟩
 |notin=>exact⟨_,SD u65,by rw[g.K];exact R0⟩
 |eqE=>exact⟨_,DG u64,by rw[g.K];exact c_eqE⟩
 |neE=>exact⟨_,BQ u64,by rw[g.K];exact c_neE⟩
 |_=>cases h
def Ix{v:O.Val}{j:Nat}(h:HG v=eN):PE X (.Constant (Qx v) j ë)<|tE X i Φ<|.cst v:=by
 cases v with
 |non=>exact WS Cb λ_=>.non
 |bl b=>exact WS QW λ_=>.bl _
 |int k=>exact WS OA λ_=>.int _
 |str s=>exact WS pe_str λ_=>.str _
 |_=>cases h
abbrev Op:O.E->Bool
 |.cst .non=>eN
 |_=>eP
def EW{e:O.E}(h:Op e=eN):e=.cst .non:=by
 cases e with
 |cst v=>cases v with
  |non=>rfl
  |_=>cases h
 |_=>cases h
variable {y:Expr}
def DY(hn:∀G v d,O.fi G o v .non≠eL d)(ha:PE X l<|tE X i Φ a)(hb:PE X y<|tE X i Φ<|.cst .non)(hm:Ľ op y=eP) :
  PE X (.Compare l [op] [y] ë) (tE X i Φ<|.cmp o a<|.cst .non)/\PT X (.Compare l [op] [y] ë) (tTt X i Φ<|.val<|.cmp o a<|.cst .non):=by
 have ho:OpR X (î op) λ_ _ _ _=>False:=λ_ _ _ _ _ _ _ _ _ _ _ _ h=>h.elim;refine⟨(UK ho ha hb hm).imp λσ H Q ⟨env,G,Qm,Em,p,w,c⟩=>?_,(Uy ho ha hb hm).imp λσ H Q ⟨env,G,Qm,Em,p,w,c⟩=>?_⟩
 .refine one p w λv G1 H1 x k1 p1 r q=>?_;let⟨d,e,_⟩:=eU q;exact gA e<|hn G1 v d
 .refine one p w λv G1 H1 x k1 p1 r q=>?_;let⟨d,e,_⟩:=eU q;exact gA e<|hn G1 v d
def Oh(g:Gd X i P n c){x:Expr}(h:(!XU o||Op b)=eN)(ha:PE X l<|tE X i Φ a)(hb:PE X (toX b c x)<|tE X i Φ b) :
  PE X (.Compare l [WH o] [toX b c x] ë) (tE X i Φ<|.cmp o a b)/\PT X (.Compare l [WH o] [toX b c x] ë) (tTt X i Φ<|.val<|.cmp o a b):=by
 cases z:XU o with
 |false =>let⟨r,h1,h2⟩:=OT g z;exact⟨Qh h1 h2 ha hb<|EJ _ _ _,LL h1 h2 ha hb<|EJ _ _ _⟩
 |true =>
  rw[z]at h;cases EW h;cases o with
  |is=>exact⟨Qg ha,Ig ha⟩
  |isnot=>exact⟨IV ha,GQ ha⟩
  |ntT=>exact DY (λG v d e=>by cases v<;>simp[O.fi,O.asLst]at e) ha hb<|EJ _ _ _
  |_=>cases z
def Jb(g:Gd X i P n c){o1 o2:O.Cop}{d:O.E}{x:Expr}(h1:XU o1=eP)(h2:XU o2=eP)(ha:PE X l<|tE X i Φ a)(hb:PE X y<|tE X i Φ b)(hd:PE X (toX d c x)<|tE X i Φ d) :
  PE X (.Compare l [WH o1,WH o2] [y,toX d c x] ë) (tE X i Φ<|.chain o1 o2 a b d)/\PT X (.Compare l [WH o1,WH o2] [y,toX d c x] ë) (tTt X i Φ<|.val<|.chain o1 o2 a b d):=by
 let⟨r1,a1,a2⟩:=OT g h1;let⟨r2,b1,b2⟩:=OT g h2;have hm:bj [WH o1,WH o2] [y,toX d c x]=eP:=EJ _ _ _;exact⟨F1 a1 a2 b1 b2 ha hb hd hm,Cm a1 a2 b1 b2 ha hb hd hm⟩
def Lo{m:O.E}(h:PE X e<|tE X i Φ m)(he:∀aF,cj e X.env aF=(do let v<-aF;ϊ e.pos;ő [v] (truthy v)))(hK:X.K=i.K):PT X e<|tTt X i Φ<|.val m:=by
 refine(Dc h he).imp λσ H Q ⟨env,G,Qm,Em,p,w,c⟩=>?_;refine one p w λv G1 H1 x k1 p1 r q=>?_;let⟨d,e1,q2⟩:=eU q;clear q;refine⟨d,?_,c d G1 H1 k1 p1.hp q2⟩;cases v with
 |non=>cases r;cases e1;rfl
 |bl b=>cases r;cases e1;rfl
 |int b =>
  cases r;cases e1;show gB (b≠0)=(b != 0)
  by_cases e:b=0<;>simp[e]
 |key _ _=>cases e1
 |str b =>
  cases r;let⟨hl,e1⟩:=Zn e1;cases e1;refine⟨by rw[Zx];exact Ý hl ZH,?_⟩;rw[Zx];by_cases e:b.length=0
  .rw[e];rfl
  .rw[gx e];symm;simpa using (by lia:¬ ((b.length:Int)=0))
 |tup xs =>
  cases e1;cases r with
  |tup hp hr =>refine .inr (.inl ⟨_,by rw[hK];exact Zl hp,?_⟩);cases hr<;>rfl
 |scr ns =>
  cases e1;cases r with
  |scr h =>refine .inl ⟨_,by rw[hK];exact Z3 h,?_⟩;cases ns<;>rfl
 |ref a =>
  cases r.ref_inv
  replace e1:(match G1 a with|some (.lst xs)=>eL (!xs.isEmpty)|some (.dct kvs)=>eL (!kvs.isEmpty)|_=>eM)=eL d:=e1
  cases z:G1 a with
  |none=>rw[z]at e1;cases e1
  |some o =>
   rw[z]at e1;cases o with
   |lst xs =>cases e1;let⟨vs,h1,h2⟩:=p1.hp a _ z;refine .inl ⟨vs,fY.of h1,?_⟩;cases h2<;>rfl
   |dct kvs =>cases e1;let⟨ps,h1,h2⟩:=p1.hp a _ z;refine .inr<|.inr ⟨ps,h1,?_⟩;cases h2<;>rfl
   |_=>cases e1
abbrev Md.gn(c:Md)(y:String):Bool:=c.gl (gC y)&&nm (gC y)
abbrev X9:O.Bi->Bool
 |.len=>eN
 |.int=>eN
 |.min2=>eN
 |.max2=>eN
 |.all=>eN
 |.list=>eN
 |.tuple=>eN
 |.sortedI=>eN
 |_=>eP
abbrev EH:O.Bi->Option String
 |.isi [T]=>eL T
 |_=>eM
abbrev E2:O.Bi->Option (List String)
 |_=>eM
abbrev X8:O.Bi->Bool
 |.lenSet=>eN
 |_=>eP
abbrev WT:O.Bi->Bool
 |.sortedSet=>eN
 |_=>eP
abbrev B9:O.Bi->Str
 |.listRev=>"reversed"
 |.sortedSet=>"set"
 |_=>"range"
abbrev Uw:O.Bi->Bool
 |_=>eP
abbrev U4:O.Bi->Bool
 |_=>eP
abbrev Nx:O.Bi->String
 |.isc T=>T
 |_=>""
abbrev Mz:O.Bi->Bool
 |.minD=>eN
 |_=>eP
abbrev Cd:O.Bi->Option (List String)
 |_=>eM
abbrev Md.xn(c:Md)(T:String):Bool:=(c.xs.contains T||T == "ShutError")&&c.gn T
abbrev Ws:O.Bi->Bool
 |.len=>eN
 |.int=>eN
 |.list=>eN
 |.tuple=>eN
 |_=>eP
abbrev LX(c:Md)(Ts:List String):Bool:=match Ts with
 |[T]=>c.xn T||(T == "ValueError" && c.gl (gC T))
 |Ts=>Ts.all c.xn&&gB (Ts.length<=20)
abbrev D9:O.Bm->Option Nat
 |.append=>eL 1
 |.extend=>eL 1
 |.popAt=>eL 1
 |.dget=>eL 1
 |.dpop=>eL 1
 |.dpopD=>eL 2
 |_=>eM
abbrev UO:O.Tt->Bool
 |.yes=>eN
 |_=>eP
abbrev Uh:O.E->Bool
 |.var _=>eN
 |.call _ _=>eN
 |.meth _ _ _ _=>eN
 |.bi _ _=>eN
 |.bm _ _ _=>eN
 |.idx _ _=>eN
 |.fld _ _=>eN
 |.glob _ _=>eN
 |_=>eP
abbrev PY:O.E->Bool
 |.cmp _ _ _=>eN
 |.chain _ _ _ _ _=>eN
 |_=>eP
mutual
noncomputable def okE:O.E->Md->Expr->Bool
 |.cst v,_,_=>HG v
 |.var j,c,_=>gB (j<c.N.length)&&c.vis (c.nmOf j)&&nm (c.nmOf j)
 |.glob y v,c,_=>c.gn y&&gB (c.cs.lookup y=eL v)
 |.bin _ a b,c,x=>okE a c (kid x 0)&&okE b c (kid x 1)
 |.neg a,c,x=>okE a c<|kid x 0
 |.not a,c,x=>okE a c<|kid x 0
 |.and a b,c,x=>okE a c (kid x 0)&&okE b c (rest (ZJ b) x)&&(!ZJ b||(rest (ZJ b) x).pos==x.pos)
 |.or a b,c,x=>okE a c (kid x 0)&&okE b c (rest (YA b) x)&&(!YA b||(rest (YA b) x).pos==x.pos)
 |.cmp o a b,c,x=>okE a c (kid x 0)&&okE b c (kid x 1)&&(!XU o||Op b)
 |.chain o1 o2 a b d,c,x=>okE a c (kid x 0)&&okE b c (kid x 1)&&okE d c (kid x 2) && !XU o1 && !XU o2
 |.call f as,c,x=>c.gn f&&c.fs.contains f&&c.cm&&okA as c (sub x).tail
 |.make C as,c,x=>c.gn C&&c.cl.contains C&&c.cm&&gB (Zc as≠0)&&okA as c (sub x).tail
 |.meth C m o as,c,x=>c.ms.contains (C,m)&&c.cm&&okE o c (kid (kid x 0) 0)&&YE (toX o c<|kid (kid x 0) 0)&&((kid x 0).pos.endLine==x.pos.line)&&gB (Zc as<20)&&okA as c (sub x).tail
 |.fld o f,c,x=>c.fl.contains f&&okE o c (kid x 0)&&YE (toX o c<|kid x 0)
 | .bi f as,c,x=>(match EH f with
   |some T=>gB (Zc as=1)&&kinds.contains T&&c.gl "isinstance" && c.gl (gC T)
   |none=>match E2 f with
     |some Ts=>gB (Zc as=1)&&c.gl "isinstance" && !c.xs.isEmpty&&LX c Ts
     |none=>match Cd f with
       |some Ts=>gB (Zc as=1)&&c.gl "isinstance" && Ts.all (λT=>kinds.contains T&&c.gl (gC T))&&gB (Ts.length<=20)
       | none=>if X8 f then gB (Zc as=1)&&c.gl "len" && c.gl "set" && c.cm else if WT f then gB (Zc as=1)&&c.gl (Yp f)&&c.gl (B9 f)&&c.cm else if Mz f then gB (Zc as=1)&&c.gl "min" && c.cm else if Uw f then gB (Zc as=1)&&c.gl "dict" && c.gl "enumerate" && c.cm else if U4 f then gB (Zc as=1)&&c.gl "isinstance" && c.gn (Nx f)&&c.cl.contains (Nx f)else X9 f&&c.gl (Yp f)&&gB (Zc as≠0)&&(c.cm||Ws f))&&okA as c (U7 f x)
 |.bm m o as,c,x=>gB (D9 m=eL (Zc as))&&okE o c (kid (kid x 0) 0)&&YE (toX o c<|kid (kid x 0) 0)&&((kid x 0).pos.endLine==x.pos.line)&&okA as c (sub x).tail
 |.idx a b,c,x=>okE a c (kid x 0)&&okE b c (kid x 1)
 |.slc a lo hi,c,x=>okE a c (kid x 0)&&okO lo c (kid (kid x 1) 0)&&okO hi c (kid (kid x 1) 1)
 |.tup es,c,x=>okA es c (sub x)&&gB (Zc es<=1000)
 |.lst es,c,x=>okA es c (sub x)&&gB (Zc es<=1000)
 |.pick a lo hi st,c,x=>okE a c (kid x 0)&&okO lo c (kid (kid x 1) 0)&&okO hi c (kid (kid x 1) 1)&&okE st c (kid (kid x 1) 2)
 |.dct es,c,x=>okA es c (sub x)&&JZ es&&gB (esL es<=30)
 |.ife t a b,c,x=>okT t c (kid x 0)&&okE a c (kid x 1)&&okE b c (kid x 2)
 |.comp ü m p it t e,c,x=>(OC m p&&(YH<|kid x 1).length==m)&&c.cm&&Ym (scp x) c.sc c.N (YH<|kid x 1) ü&&(scp x).kind == .function&&okI it c (kid x 2) (!ZC p)&&okE e (c.blk (scp x) (YH<|kid x 1) ü) (kid x 0)&&(UO t||okT t (c.blk (scp x) (YH<|kid x 1) ü) (kid x 3))
 |_,_,_=>eP
noncomputable def okA:O.Es->Md->List Expr->Bool
 |.nil,_,_=>eN
 |.cons e es,c,xs=>okE e c (xs.headD dE)&&okA es c xs.tail
noncomputable def okJ:O.Es->Md->List Expr->Bool
 |.nil,_,_=>eN
 |.cons e es,c,xs=>(A3 e||okE e c (kid (xs.headD dE) 0))&&okJ es c xs.tail
noncomputable def okO:O.Oe->Md->Expr->Bool
 |.none,_,_=>eN
 |.some e,c,x=>okE e c x
noncomputable def okT:O.Tt->Md->Expr->Bool
 |.yes,_,_=>eP
 |.val e,c,x=>okE e c x&&(Uh e||PY e)
 |.not t,c,x=>okT t c<|kid x 0
 |.and a b,c,x=>okT a c (kid x 0)&&okT b c (rest (Zq b) x)&&(!Zq b||(rest (Zq b) x).pos==x.pos)
 |.or a b,c,x=>okT a c (kid x 0)&&okT b c (rest (ZE b) x)&&(!ZE b||(rest (ZE b) x).pos==x.pos)
noncomputable def okI:O.It->Md->Expr->Bool->Bool
 |.seq e,c,x,_=>okE e c x
 |.range a,c,x,_=>c.gl "range" && okE a c (kid x 1)
 |.range2 a b,c,x,_=>c.gl "range" && okE a c (kid x 1)&&okE b c (kid x 2)
 |.enum e,c,x,t=>t&&c.gl "enumerate" && okE e c (kid x 1)
 |.keysF e,c,x,_=>okE e c x
 |_,_,_,_=>eP
end
variable {X:Cx}{i:Inf}{P:O.Pg}{n:Nat}{c:Md}
variable {f:O.Bi} {e:Expr} {es:List Expr} {q:Pos} {p:Pos} {l:Nat}
def Gp(g:Gd X i P n c)(hp:X9 f=eN)(dY:(c.cm||Ws f)=eN){as:O.Es}(hg:Gl X<|Yp f)(ha:PA X (e::es)<|tAr X i (O.wF P n) as l)
  (he:Ü (e::es) X.env=(eP,eval e X.env)::Ü es X.env) (hpl:(ģ p<|Ü es X.env).any (·.1)=eP):PE X (.Call (.Name (Yp f) q) (e::es) [] p)<|tE X i (O.wF P n)<|.bi f as:=by
 have hc:Ws f=eP->X.calm=eN:=λz=>g.calm (by rw[z,ϭ]at dY;exact dY);cases f with
 |len=>exact(Z9 ((call_len_seq.or MH).or Az) hg (g.bl _<|by simp[blts,Yp]) (by kernel_rfl) ha (he:=he) (hpl:=hpl)).imp (WD<|by rw[g.K];exact Ib)
 |int=>exact(Xo (call_int1.or Kc) hg (g.bl _<|by simp[blts,Yp]) (by kernel_rfl) ha (he:=he) (hpl:=hpl)).imp<|WD Pq
 |min2=>exact(Z9 (A7<|hc rfl) hg (g.bl _<|by simp[blts,Yp]) (by kernel_rfl) ha (he:=he) (hpl:=hpl)).imp<|WD Fy
 |max2=>exact(Z9 (AO<|hc rfl) hg (g.bl _<|by simp[blts,Yp]) (by kernel_rfl) ha (he:=he) (hpl:=hpl)).imp<|WD GM
 |all=>exact(Z9 (BX<|hc rfl) hg (g.bl _<|by simp[blts,Yp]) (by kernel_rfl) ha (he:=he) (hpl:=hpl)).imp (WD<|by rw[g.K];exact Pk)
 |list=>exact(Xo MG hg (g.bl _<|by simp[blts,Yp]) (by kernel_rfl) ha (he:=he) (hpl:=hpl)).imp (WD<|by rw[g.K];exact Fp)
 |sortedI=>exact(Z9 (call_sorted.or<|Mr<|hc rfl) hg (g.bl _<|by simp[blts,Yp]) (by kernel_rfl) ha (he:=he) (hpl:=hpl)).imp (WD<|by rw[g.K];exact O7)
 |tuple=>exact(Xo Kn hg (g.bl _<|by simp[blts,Yp]) (by kernel_rfl) ha (he:=he) (hpl:=hpl)).imp (WD<|by rw[g.K];exact CD)
 |_=>cases hp
variable {T:String}
def Pp(h:EH f=eL T):f=.isi [T]:=by
 cases f with
 |isi Ts =>
  cases Ts with
  |nil=>cases h
  |cons a r=>cases r with
   |nil=>cases h;rfl
   |cons _ _=>cases h
 |_=>cases h
def Da(g:Gd X i P n c){m:O.E}{p2 ë:Pos}(hT:T∈kinds)(h2:c.gl "isinstance" = eN)(h5:c.gl (gC T)=eN)(he:PE X e<|tE X i (O.wF P n) m)(Ž:Ü [e,.Name (gC T) p2] X.env=(eP,eval e X.env)::Ü [.Name (gC T) p2] X.env) :
  PE X (.Call (.Name "isinstance" p) [e,.Name (gC T) p2] [] ë) (tE X i (O.wF P n)<|.bi (.isi [T])<|.cons m .nil):=by
 have dX:=hT;simp only[kinds,È,Ù,or_false]at dX;refine Rr hT he g.K (g.gl h2) (g.bl _<|by simp[blts]) (g.gl h5) ?_ ?_ ?_ ?_ Ž
 .rcases dX with rfl|rfl|rfl|rfl|rfl|rfl<;>exact g.bl _ (by simp[blts])
 .rcases dX with rfl|rfl|rfl|rfl|rfl|rfl<;>kernel_rfl
 .rcases dX with rfl|rfl|rfl|rfl|rfl|rfl<;>decide
 .rcases dX with rfl|rfl|rfl|rfl|rfl|rfl<;>decide
variable {m:O.Bm} {o:Expr} {mo:O.E} {Ő:Pos} {š:Pos}
def Dm(g:Gd X i P n c)(h:D9 m=eL 0)(ho:PE X o<|tE X i (O.wF P n) mo)(hb:∀f,Ħ o f X.env (eval o X.env)=eval o X.env)(hl:(Ő.endLine==š.line)=eN) :
  PE X (.Call (.Attribute o (IG m) Ő) [] [] š) (tE X i (O.wF P n)<|.bm m mo .nil):=by
 cases m with
 |_=>cases h
def FT(g:Gd X i P n c){k:Nat}(h:D9 m=eL (k+1)){ms:O.Es}(ho:PE X o<|tE X i (O.wF P n) mo)(ha:PA X (e::es)<|tAr X i (O.wF P n) ms l)(hb:∀f,Ħ o f X.env (eval o X.env)=eval o X.env)(hl:(Ő.endLine==š.line)=eN)
  (av:((ģ š<|Ü (e::es) X.env).all (λx=>!x.1)&&(η š<|ŋ [] X.env).all (λx=>x.1.isSome)&&gB ((e::es).length+([]:List aR).length+(if([]:List aR).isEmpty then 0 else 1)<30))=eN)
  (hs:Ü (e::es) X.env=(eP,eval e X.env)::Ü es X.env) (hpl:(ģ š<|Ü es X.env).any (·.1)=eP) :
  PE X (.Call (.Attribute o (IG m) Ő) (e::es) [] š) (tE X i (O.wF P n)<|.bm m mo ms):=by
 have u1:X.A.units+1<Ī:=by have:=g.un;lia
 cases m with
 |append=>exact AY g.K PySem.F.plainAttrs_list PySem.F.slot_list_append PySem.F.type_list_append Be (HW rfl) Ia ho ha (hb _) av hl hs hpl
 |extend=>exact AY g.K PySem.F.plainAttrs_list PySem.F.slot_list_extend PySem.F.type_list_extend Ar (HW rfl) LA ho ha (hb _) av hl hs hpl
 |popAt=>exact AY g.K PySem.F.plainAttrs_list PySem.F.slot_list_pop PySem.F.type_list_pop Ec (HW rfl) GN ho ha (hb _) av hl hs hpl
 |dget=>exact AY g.K PySem.F.plainAttrs_dict PySem.F.slot_dict_get PySem.F.type_dict_get (CM u1) (IX rfl) Lj ho ha (hb _) av hl hs hpl
 |dpop=>exact AY g.K PySem.F.plainAttrs_dict PySem.F.slot_dict_pop PySem.F.type_dict_pop mt_dpop (IX rfl) Ip ho ha (hb _) av hl hs hpl
 |dpopD=>exact AY g.K PySem.F.plainAttrs_dict PySem.F.slot_dict_pop PySem.F.type_dict_pop (mt_dpop.or DJ) (IX rfl) GG ho ha (hb _) av hl hs hpl
 |_=>cases h
variable {sc:ν} {ü:List Nat}
def Gd.blk(g:Gd X i P n c){x:List Str}(hb:Ym sc c.sc c.N x ü=eN)(hk:sc.kind=.function)(cl:List<|Str×Í)(C:Í)(s:Å)(H:Hp)(ex:List Í) :
  Gd (Zw X sc (Z6 X x ü) cl C s H ex) i P n (c.blk sc x ü) where
 K:=g.K
 N:=by show Z6 X x ü=_;unfold Z6;rw[g.N];rfl
 sc:=by show bX sc X.env=_;unfold bX Env.kindOf;rw[g.sc];rfl
 nd:=by have B:=Oy g.sc g.N hk hb;have:=B.nd;unfold Z6 at this;rw[g.N]at this;exact this
 un:=g.un
 calm:=g.calm
 room:=g.room
 bl:=g.bl
 dfs:=g.dfs
 cst:=g.cst
 kl:=⟨g.kl.A,g.kl.F,g.kl.mkc,g.kl.mth⟩
 xl:=λh=>⟨(g.xl h).xc,(g.xl h).rs,(g.xl h).kn⟩
def Gd.pt(g:Gd X i P n c)(dY:c.cm=eN){xs:List Str}(hb:Ym sc c.sc c.N xs ü=eN)(hk:sc.kind=.function){p:O.Pt}(hp:OC xs.length p=eN)(x:Expr)(cl:List<|Str×Í)(C:Í)(s:Å)(H:Hp)(ex:List Í) :
  PG (Zw X sc (Z6 X xs ü) cl C s H ex) (toP p (c.blk sc xs ü) x) (gPt i p):=by
 have B:=Oy g.sc g.N hk hb;have G:=g.blk hb hk cl C s H ex;have key:∀j,j<xs.length->CG (Zw X sc (Z6 X xs ü) cl C s H ex) (c.blk sc xs ü) j:=λj hj=>by
  have e:(c.blk sc xs ü).nmOf j=xs[j]:=by unfold Md.nmOf Md.blk;show(xs++_).getD j _=_;rw[Đ,ó hj,É hj];rfl
  have lo:=lookup_relabel_local (env:=X.env)<|B.own xs[j]<|Ŏ hj;unfold CG;rw[e];refine⟨?_,.inl lo,.inr lo⟩;show(xs++_)[j]?=_;rw[ó hj,É hj]
 refine HR G.K (by rw[G.N];exact G.nd) (g.calm dY) ?_;cases p with
 |one j=>exact key j<|of_decide_eq_true hp
 |many js=>exact λj hj=>key j<|of_decide_eq_true<|ā.mp hp j hj
 |nest j js=>cases hp
variable {b:O.E}
def UQ(h:ZJ b=eN):∃a d,b=.and a d:=by
 cases b with
 |and a d=>exact⟨a,d,rfl⟩
 |_=>cases h
def Cf(h:YA b=eN):∃a d,b=.or a d:=by
 cases b with
 |or a d=>exact⟨a,d,rfl⟩
 |_=>cases h
def BJ{b:O.Tt}(h:Zq b=eN):∃a d,b=.and a d:=by
 cases b with
 |and a d=>exact⟨a,d,rfl⟩
 |_=>cases h
def Gb{b:O.Tt}(h:ZE b=eN):∃a d,b=.or a d:=by
 cases b with
 |or a d=>exact⟨a,d,rfl⟩
 |_=>cases h
def MB{b:Bool}(h:(!b||p==q)=eN)(hb:b=eN):p=q:=by rw[hb]at h;exact eq_of_beq h
variable {Φ:O.Fs} {x:Expr}
def Dn(hp:(!ZJ b||(rest (ZJ b) x).pos==x.pos)=eN)(h:PE X (toX b c<|rest (ZJ b) x)<|tE X i Φ b):PE X (.BoolOp .And (flat (ZJ b)<|toX b c<|rest (ZJ b) x) x.pos)<|tE X i Φ b:=by
 cases z:ZJ b with
 |false=>rw[z]at h;exact B4 h
 |true =>have e:=MB hp z;rw[z]at e h;let⟨a,d,rfl⟩:=UQ z;show PE X (.BoolOp .And (sub<|.BoolOp .And _ (rest eN x).pos) x.pos) _;rw[<-e];exact h
def F2(hp:(!YA b||(rest (YA b) x).pos==x.pos)=eN)(h:PE X (toX b c<|rest (YA b) x)<|tE X i Φ b):PE X (.BoolOp .Or (flat (YA b)<|toX b c<|rest (YA b) x) x.pos)<|tE X i Φ b:=by
 cases z:YA b with
 |false=>rw[z]at h;exact B4 h
 |true =>have e:=MB hp z;rw[z]at e h;let⟨a,d,rfl⟩:=Cf z;show PE X (.BoolOp .Or (sub<|.BoolOp .Or _ (rest eN x).pos) x.pos) _;rw[<-e];exact h
def KJ(b:Bool){e:O.E}(h:b=ZJ e\/b=YA e):∃y ys,flat b (toX e c x)=y::ys:=by
 cases b with
 |false=>exact⟨_,_,rfl⟩
 |true =>
  rcases h with h|h
  .obtain⟨a,d,rfl⟩:=UQ h.symm;exact⟨_,_,rfl⟩
  .obtain⟨a,d,rfl⟩:=Cf h.symm;exact⟨_,_,rfl⟩
variable {i:Inf}{P:O.Pg}{n:Nat}
variable {X:Cx} {c:Md} {Φ:O.Fs} {b:O.Tt} {x:Expr}
def Bl(hp:(!Zq b||(rest (Zq b) x).pos==x.pos)=eN)(h:PT X (toT b c<|rest (Zq b) x)<|tTt X i Φ b)(h2:(Zq b||ZE b)=eN->PW X (toT b c<|rest (Zq b) x) (tTt X i Φ b)) :
  ∃y ys,flat (Zq b) (toT b c<|rest (Zq b) x)=y::ys/\PW X (.BoolOp .And (y::ys) x.pos) (tTt X i Φ b):=by
 cases z:Zq b with
 |false=>rw[z]at h;exact⟨_,_,rfl,Gq h⟩
 |true =>have e:=MB hp z;rw[z]at e h2;let⟨a,d,rfl⟩:=BJ z;refine⟨_,_,rfl,?_⟩;rw[<-e];exact h2 rfl
def DL(hp:(!ZE b||(rest (ZE b) x).pos==x.pos)=eN)(h:PT X (toT b c<|rest (ZE b) x)<|tTt X i Φ b)(h2:(Zq b||ZE b)=eN->PW X (toT b c<|rest (ZE b) x) (tTt X i Φ b)) :
  ∃y ys,flat (ZE b) (toT b c<|rest (ZE b) x)=y::ys/\PW X (.BoolOp .Or (y::ys) x.pos) (tTt X i Φ b):=by
 cases z:ZE b with
 |false=>rw[z]at h;exact⟨_,_,rfl,II h⟩
 |true =>have e:=MB hp z;rw[z]at e h2;let⟨a,d,rfl⟩:=Gb z;refine⟨_,_,rfl,?_⟩;rw[<-e];exact h2 rfl
variable {e:O.E}
def Sy(h:A3 e=eN):∃s,e=.cst (.str s):=by
 cases e with
 |cst v=>cases v with
  |str s=>exact⟨s,rfl⟩
  |_=>cases h
 |_=>cases h
variable {ü:List Nat} {p:O.Pt} {it:O.It} {ë:Pos}
def Ky(g:Gd X i P n c){mt:O.Tt}{me:O.E}{bO Ų bC:Expr}{x:List Str}{bg:List Expr}{sc:ν}(dY:c.cm=eN)(h1:Ym sc c.sc c.N x ü=eN)(hk:sc.kind=.function)(hp:OC x.length p=eN)
  (hi:PI X bC Ų<|tIt X i (O.wF P n) it) (hs:∀y,ė Ų X.env y=pure y) (hG:∀cl C s H ex,PG (Zw X sc (Z6 X x ü) cl C s H ex) bC<|gPt i p)
  (hE:∀cl C s H ex,PE (Zw X sc (Z6 X x ü) cl C s H ex) bO<|tE0 i (O.wF P n) me) (hI:∀cl C s H ex,PIfs (Zw X sc (Z6 X x ü) cl C s H ex) bg<|tT0 i (O.wF P n) mt) :
  PE X (.ListComp bO [⟨bC,Ų,bg,0⟩] sc ë) (tE X i (O.wF P n)<|.comp ü x.length p it mt me)/\
   ∀(y:Str) (py Ϝ:Pos) (j:Nat),X.N[j]?=eL y->L2.Loc X.env.scope y->(X.fn y=eN\/X.env.scope.names.lookup y=eL .local)->ż (.ListComp bO [⟨bC,Ų,bg,0⟩] sc ë) (eL<|.Name y py) Ϝ.line X.env=pure eN->PS X (.Assign [.Name y py] (.ListComp bO [⟨bC,Ų,bg,0⟩] sc ë) Ϝ) (tSt X i (O.wF P n)<|.set (.one j)<|.comp ü x.length p it mt me):=by
 have B:=Oy g.sc g.N hk h1;have hc:=g.calm dY;refine⟨(Cj hc B hi hG hI hE hs).imp<|Aj hp,λy py Ϝ j hj hl hf hsw=>?_⟩;refine(CI (by rw[g.N];exact g.nd) hj hl hc B hi hG hI hE hs hsw hf).imp λD σ H ⟨env,G,N,R,Bk,Ct,Xe,p,w,e⟩=>?_;refine Aj hp σ H _ ⟨env,G,_,Xe env,p.pre,w,λv G1 H1 x k1 g1 r1 w1=>?_⟩;let⟨ŗ,e2,w2⟩:=eU w1;clear w1;cases e2;exact e.nx _ _ G1 H1 k1 g1 ((p.en.keep k1).set r1 j) w2
def ED{j:Nat}(hN:X.N=c.N)(h:j<c.N.length):X.N[j]?=eL (c.nmOf j):=by rw[hN];unfold Md.nmOf;rw[Đ,É h];rfl
def E6{o:Expr}{m:Str}{Ő:Pos}{args:List Expr}{env:Env}(hb:Ħ o m env (eval o env)=eval o env)(av:cF (args.length+0) (ģ ë<|Ü args env) (η ë<|ŋ [] env)=eN)(hl:(Ő.endLine==ë.line)=eN) :
  eval (.Call (.Attribute o m Ő) args [] ë) env=(do
    let ov<-eval o env
    ϊ Ő.atName
    let (f,first)<-ő [ov] (Ϙ ov m<|do return (<-importBound o env).getD eN)
    cp ë f first (ģ ë<|Ü args env) (η ë<|ŋ [] env)):=by
 show(do
   let ov<-Ħ o m env (eval o env)
   ϊ Ő.atName
   methodCall o m Ő ë env ov (args.length+0) (ģ ë<|Ü args env) (η ë<|ŋ [] env))=_
 rw[hb];unfold methodCall methodCallPos;rw[av,hl];rfl
def IN(env:Env)(ë:Pos){as:O.Es}{xs:List Expr}(h:Zc as<20):cF ((toA as c xs).length+0) (ģ ë<|Ü (toA as c xs) env) (η ë<|ŋ [] env)=eN:=by unfold cF;rw[bAq,bAq,gy,Wk];refine⟨⟨Jd env ë as c xs,rfl⟩,?_⟩;show Zc as+0+0<30;lia
def Ra{m:O.Tt}(h:UO m=eP->PT X (toT m c x) (tTt X i (O.wF P n) m)):PIfs X (toF m c x)<|tT0 i (O.wF P n) m:=by
 cases m with
 |yes=>exact Io
 |val e=>exact Wc<|pt0<|h rfl
 |not t=>exact Wc<|pt0<|h rfl
 |and a b=>exact Wc<|pt0<|h rfl
 |or a b=>exact Wc<|pt0<|h rfl
def NL(c:Md):∀(es:O.Es) (xs:List Expr),JZ es=eN->(Wl<|toA es c xs).all (·.isSome)=eN/\(Wl<|toA es c xs).length=(Cr<|toA es c xs).length/\2*(Wl<|toA es c xs).length=esL es
 |.nil,_,_=>⟨rfl,rfl,rfl⟩
 |.cons _ .nil,_,h=>by cases h
 |.cons k (.cons v r),xs,h=>by
  let⟨h1,h2,h3⟩:=NL c r xs.tail.tail h;refine⟨?_,?_,?_⟩
  .show(eN&&(Wl<|toA r c xs.tail.tail).all (·.isSome))=eN;rw[h1];rfl
  .show(Wl<|toA r c xs.tail.tail).length+1=(Cr<|toA r c xs.tail.tail).length+1;rw[h2]
  .show 2*((Wl<|toA r c xs.tail.tail).length+1)=esL r+1+1;lia
mutual
theorem eE:∀(m:O.E) (X:Cx) (c:Md) (x:Expr),Gd X i P n c->okE m c x=eN->PE X (toX m c x) (tE X i (O.wF P n) m)
 |.cst v,X,c,x,g,h=>Ix h
 |.var j,X,c,x,g,h=>by have h:(gB (j<c.N.length)&&c.vis (c.nmOf j)&&nm (c.nmOf j))=eN:=h;rw[bAq,bAq,gy]at h;let⟨q1,q2,_⟩:=U6 h.2;exact Ro (ED g.N h.1.1) (g.vis h.1.2) q1 q2
 |.glob y v,X,c,x,g,h=>by have h:((c.gl (gC y)&&nm (gC y))&&gB (c.cs.lookup y=eL v))=eN:=h;rw[bAq,bAq,gy]at h;let⟨q1,q2,_⟩:=U6 h.1.2;let⟨u,z,e1,e2,e3⟩:=g.cst _ _ h.2;exact Lu (EG (g.gl h.1.1) e1 e2 q1) e3
 |.bin o a b,X,c,x,g,h=>by have h:(okE a c (kid x 0)&&okE b c (kid x 1))=eN:=h;rw[bAq]at h;exact Q9 g (eE a X c _ g h.1)<|eE b X c _ g h.2
 |.neg a,X,c,x,g,h=>QK<|eE a X c _ g h
 |.not a,X,c,x,g,h=>Ry<|eE a X c _ g h
 |.and a b,X,c,x,g,h=>by have h:(okE a c (kid x 0)&&okE b c (rest (ZJ b) x)&&(!ZJ b||(rest (ZJ b) x).pos==x.pos))=eN:=h;rw[bAq,bAq]at h;have h2:=Dn h.2<|eE b X c _ g h.1.2;let⟨y,ys,e⟩:=KJ (c:=c) (ZJ b) (e:=b) (x:=rest (ZJ b) x)<|.inl rfl;show PE X (.BoolOp .And (toX a c (kid x 0)::flat (ZJ b) (toX b c<|rest (ZJ b) x)) x.pos) _;rw[e]at h2 ⊢;exact RE (eE a X c _ g h.1.1) h2
 |.or a b,X,c,x,g,h=>by have h:(okE a c (kid x 0)&&okE b c (rest (YA b) x)&&(!YA b||(rest (YA b) x).pos==x.pos))=eN:=h;rw[bAq,bAq]at h;have h2:=F2 h.2<|eE b X c _ g h.1.2;let⟨y,ys,e⟩:=KJ (c:=c) (YA b) (e:=b) (x:=rest (YA b) x)<|.inr rfl;show PE X (.BoolOp .Or (toX a c (kid x 0)::flat (YA b) (toX b c<|rest (YA b) x)) x.pos) _;rw[e]at h2 ⊢;exact SE (eE a X c _ g h.1.1) h2
 |.cmp o a b,X,c,x,g,h=>by have h:(okE a c (kid x 0)&&okE b c (kid x 1)&&(!XU o||Op b))=eN:=h;rw[bAq,bAq]at h;exact(Oh g h.2 (eE a X c _ g h.1.1)<|eE b X c _ g h.1.2).1
 |.chain o1 o2 a b d,X,c,x,g,h=>by have h:(okE a c (kid x 0)&&okE b c (kid x 1)&&okE d c (kid x 2) && !XU o1 && !XU o2)=eN:=h;rw[bAq,bAq,bAq,bAq,Ņ,Ņ]at h;let⟨⟨⟨⟨h1,h2⟩,h3⟩,h4⟩,h5⟩:=h;exact(Jb g h4 h5 (eE a X c _ g h1) (eE b X c _ g h2)<|eE d X c _ g h3).1
 |.call f as,X,c,x,g,h=>by
  have h:((c.gl (gC f)&&nm (gC f))&&c.fs.contains f&&c.cm&&okA as c (sub x).tail)=eN:=h;rw[bAq,bAq,bAq,bAq]at h;let⟨⟨⟨⟨h1,h2⟩,h3⟩,h4⟩,h5⟩:=h;let⟨q1,_,_⟩:=U6 h2;have ha:=eA as X c _ g h5;cases as with
  |nil=>exact Gi g.K (g.dfs _ h3) (g.rm h4) (g.gl h1) q1
  |cons a as=>exact Lv g.K (g.dfs _ h3) (g.rm h4) (g.gl h1) q1 ha (Zv ..)<|Yu ..
 |.make C as,X,c,x,g,h=>by
  have h:((c.gl (gC C)&&nm (gC C))&&c.cl.contains C&&c.cm&&gB (Zc as≠0)&&okA as c (sub x).tail)=eN:=h;rw[bAq,bAq,bAq,bAq,bAq,gy]at h;let⟨⟨⟨⟨⟨h1,h2⟩,h3⟩,h4⟩,h6⟩,h5⟩:=h;let⟨q1,_,_⟩:=U6 h2;have ha:=eA as X c _ g h5;let⟨a,f,i1,i2,M,hm,D⟩:=g.kl.mkc C h3;cases as with
  |nil=>exact gA rfl h6
  |cons b as=>exact Pj g.K i1 i2 M D (g.room h4) (g.gl h1) hm q1 ha (Zv ..)<|Yu ..
 |.meth C m o as,X,c,x,g,h=>by
  have h:(c.ms.contains (C,m)&&c.cm&&okE o c (kid (kid x 0) 0)&&YE (toX o c<|kid (kid x 0) 0)&&((kid x 0).pos.endLine==x.pos.line)&&gB (Zc as<20)&&okA as c (sub x).tail)=eN:=h;rw[bAq,bAq,bAq,bAq,bAq,bAq,gy]at h;let⟨⟨⟨⟨⟨⟨h1,h2⟩,h3⟩,h4⟩,h6⟩,h7⟩,h5⟩:=h;have ev:=E6 (m:=gC m) (Yv h4 _ X.env) (IN X.env x.pos (c:=c) (xs:=(sub x).tail) h7) h6;have ha:=eA as X c _ g h5;have ho:=eE o X c _ g h3;let⟨a,f,i1,A,M,D⟩:=g.kl.mth C m h1;cases as with
  |nil=>exact GI g.K i1 A M D (g.rm h2) ho ev
  |cons b as=>exact IR g.K i1 A M D (g.rm h2) ho ha (Zv ..) (Yu ..) ev
 |.fld o f,X,c,x,g,h=>by have h:(c.fl.contains f&&okE o c (kid x 0)&&YE (toX o c<|kid x 0))=eN:=h;rw[bAq,bAq]at h;exact P2 g.K g.kl.A (g.kl.F _ h.1.1) (eE o X c _ g h.1.2)<|Yv h.2 _ _
 |.bi f as,X,c,x,g,h=>by
  have h:((match EH f with
    |some T=>gB (Zc as=1)&&kinds.contains T&&c.gl "isinstance" && c.gl (gC T)
    |none=>match E2 f with
      |some Ts=>gB (Zc as=1)&&c.gl "isinstance" && !c.xs.isEmpty&&LX c Ts
      |none=>match Cd f with
        |some Ts=>gB (Zc as=1)&&c.gl "isinstance" && Ts.all (λT=>kinds.contains T&&c.gl (gC T))&&gB (Ts.length<=20)
        | none=>if X8 f then gB (Zc as=1)&&c.gl "len" && c.gl "set" && c.cm else if WT f then gB (Zc as=1)&&c.gl (Yp f)&&c.gl (B9 f)&&c.cm else if Mz f then gB (Zc as=1)&&c.gl "min" && c.cm else if Uw f then gB (Zc as=1)&&c.gl "dict" && c.gl "enumerate" && c.cm else if U4 f then gB (Zc as=1)&&c.gl "isinstance" && c.gn (Nx f)&&c.cl.contains (Nx f)else X9 f&&c.gl (Yp f)&&gB (Zc as≠0)&&(c.cm||Ws f))&&okA as c (U7 f x))=eN:=h
  rw[bAq]at h;cases z:EH f with
  |some T =>
   have h1:=h.1;rw[z]at h1;rw[bAq,bAq,bAq,gy]at h1;let⟨⟨⟨h1,h2⟩,h3⟩,h4⟩:=h1;cases Pp z;cases as with
   |nil=>cases h1
   |cons a as=>cases as with
    |nil =>have h5:(okE a c _&&eN)=eN:=h.2;rw[bAq]at h5;exact Da g (Ć.mp h2) h3 h4 (eE a X c _ g h5.1)<|Zv ..
    |cons b as=>exact gA h1 (by simp[Zc])
  |none =>
   have h1:=h.1;rw[z]at h1
   replace h1:(match E2 f with
     |some Ts=>gB (Zc as=1)&&c.gl "isinstance" && !c.xs.isEmpty&&LX c Ts
     |none=>match Cd f with
       |some Ts=>gB (Zc as=1)&&c.gl "isinstance" && Ts.all (λT=>kinds.contains T&&c.gl (gC T))&&gB (Ts.length<=20)
       | none=>if X8 f then gB (Zc as=1)&&c.gl "len" && c.gl "set" && c.cm else if WT f then gB (Zc as=1)&&c.gl (Yp f)&&c.gl (B9 f)&&c.cm else if Mz f then gB (Zc as=1)&&c.gl "min" && c.cm else if Uw f then gB (Zc as=1)&&c.gl "dict" && c.gl "enumerate" && c.cm else if U4 f then gB (Zc as=1)&&c.gl "isinstance" && c.gn (Nx f)&&c.cl.contains (Nx f)else X9 f&&c.gl (Yp f)&&gB (Zc as≠0)&&(c.cm||Ws f))=eN:=h1
   cases zx:E2 f with
   |some Ts=>cases zx
   |none =>
    rw[zx]at h1
    replace h1:(match Cd f with
      |some Ts=>gB (Zc as=1)&&c.gl "isinstance" && Ts.all (λT=>kinds.contains T&&c.gl (gC T))&&gB (Ts.length<=20)
      | none=>if X8 f then gB (Zc as=1)&&c.gl "len" && c.gl "set" && c.cm else if WT f then gB (Zc as=1)&&c.gl (Yp f)&&c.gl (B9 f)&&c.cm else if Mz f then gB (Zc as=1)&&c.gl "min" && c.cm else if Uw f then gB (Zc as=1)&&c.gl "dict" && c.gl "enumerate" && c.cm else if U4 f then gB (Zc as=1)&&c.gl "isinstance" && c.gn (Nx f)&&c.cl.contains (Nx f)else X9 f&&c.gl (Yp f)&&gB (Zc as≠0)&&(c.cm||Ws f))=eN:=h1
    cases zl:Cd f with
    |some Ts=>cases zl
    |none =>
     rw[zl]at h1;dsimp only at h1;split at h1
     .rename_i dz;have hf:f=.lenSet:=by cases f<;>first|rfl|cases dz
      subst hf;rw[bAq,bAq,bAq,gy]at h1;let⟨⟨⟨h1,h2⟩,h3⟩,h4⟩:=h1;cases as with
      |nil=>cases h1
      |cons a as=>cases as with
       |nil =>have h6:(okE a c _&&eN)=eN:=h.2;rw[bAq]at h6;exact CA (g.calm h4) g.K (eE a X c _ g h6.1) (g.gl h2) (g.bl _<|by simp[blts]) (g.gl h3) (g.bl _<|by simp[blts]) (by rw[Zv];rfl)
       |cons b as=>exact gA h1 (by simp[Zc])
     split at h1
     .rename_i _ dz;have hf:f=.sortedSet:=by cases f<;>first|rfl|cases dz
      rw[bAq,bAq,bAq,gy]at h1;let⟨⟨⟨h1,h2⟩,h3⟩,h4⟩:=h1;cases as with
      |nil=>cases h1
      |cons a as=>cases as with
       |nil =>
        rcases hf with rfl
        .have h6:(okE a c _&&eN)=eN:=h.2;rw[bAq]at h6;exact Ou (g.calm h4) g.K (eE a X c _ g h6.1) (g.gl h2) (g.bl _<|by simp[blts]) (g.gl h3) (g.bl _<|by simp[blts,B9]) (by rw[Zv];rfl)
       |cons b as=>exact gA h1 (by simp[Zc])
     split at h1
     .rename_i _ _ dz;have hf:f=.minD:=by cases f<;>first|rfl|cases dz
      subst hf;rw[bAq,bAq,gy]at h1;let⟨⟨h1,h2⟩,h4⟩:=h1;cases as with
      |nil=>cases h1
      |cons a as=>cases as with
       |nil =>have h6:(okE a c _&&eN)=eN:=h.2;rw[bAq]at h6;exact Po (g.calm h4) (by have:=g.un;lia) g.K (g.gl h2) (g.bl _<|by simp[blts]) (eE a X c _ g h6.1) (by rw[Zv];rfl)
       |cons b as=>exact gA h1 (by simp[Zc])
     split at h1
     .rename_i _ _ _ dz;exact gA (show eP=eN from dz) (by decide)
     split at h1
     .rename_i _ _ _ _ dz;exact gA (show eP=eN from dz) (by decide)
     rw[bAq,bAq,bAq,gy]at h1;let⟨⟨⟨h1,h2⟩,h3⟩,h4⟩:=h1;have ha:=eA as X c _ g h.2;cases as with
     |nil=>exact gA rfl h3
     |cons a as =>
      have e1:toX (.bi f<|.cons a as) c x=.Call (.Name (Yp f) (kid x 0).pos) (toA (.cons a as) c<|U7 f x) [] x.pos:=by cases f<;>first|(cases h1;done)|rfl
      rw[e1];exact Gp g h1 h4 (g.gl h2) ha (Zv ..)<|Yu ..
 |.bm m o as,X,c,x,g,h=>by
  have h:(gB (D9 m=eL (Zc as))&&okE o c (kid (kid x 0) 0)&&YE (toX o c<|kid (kid x 0) 0)&&((kid x 0).pos.endLine==x.pos.line)&&okA as c (sub x).tail)=eN:=h;rw[bAq,bAq,bAq,bAq,gy]at h;let⟨⟨⟨⟨h1,h2⟩,h3⟩,h4⟩,h5⟩:=h;have ha:=eA as X c _ g h5;have ho:=eE o X c _ g h2;cases as with
  |nil=>exact Dm g h1 ho (λf=>Yv h3 f _) h4
  |cons a as =>
   refine FT g h1 ho ha (λf=>Yv h3 f _) h4 ?_ (Zv ..)<|Yu ..;rw[bAq,bAq,gy];refine⟨⟨Jd X.env x.pos (.cons a as) c (sub x).tail,rfl⟩,?_⟩;have e2:(toA (.cons a as) c (sub x).tail).length=Zc (.cons a as):=Wk ..;have e3:Zc (.cons a as)<=2:=by
    have:∀m:O.Bm,∀k,D9 m=eL k->k<=2:=by intro m k;cases m<;>intro z<;>first|(cases z;done)|(cases z;decide)
    exact this m _ h1
   show(toA (.cons a as) c (sub x).tail).length+0+0<30;lia
 |.idx a b,X,c,x,g,h=>by have h:(okE a c (kid x 0)&&okE b c (kid x 1))=eN:=h;rw[bAq]at h;exact Rp (ix_seq.or<|FD (by have:=g.un;lia)) (by rw[g.K];exact QP) (eE a X c _ g h.1) (eE b X c _ g h.2)<|Du _ _ _
 |.slc a lo hi,X,c,x,g,h=>by have h:(okE a c (kid x 0)&&okO lo c (kid (kid x 1) 0)&&okO hi c (kid (kid x 1) 1))=eN:=h;rw[bAq,bAq]at h;exact QS R7 (by rw[g.K];exact P5) (eE a X c _ g h.1.1) (eO lo X c _ g h.1.2)<|eO hi X c _ g h.2
 |.tup es,X,c,x,g,h=>by have h:(okA es c (sub x)&&gB (Zc es<=1000))=eN:=h;rw[bAq,gy]at h;exact Q2 (by rw[Wk];exact h.2)<|eA es X c _ g h.1
 |.key es,X,c,x,g,h=>nomatch h
 |.dctP,X,c,x,g,h=>nomatch h
 |.lst es,X,c,x,g,h=>by have h:(okA es c (sub x)&&gB (Zc es<=1000))=eN:=h;rw[bAq,gy]at h;exact Ql (by rw[Wk];exact h.2)<|eA es X c _ g h.1
 |.dct es,X,c,x,g,h=>by
  have h:(okA es c (sub x)&&JZ es&&gB (esL es<=30))=eN:=h;rw[bAq,bAq,gy]at h;let⟨⟨h1,h2⟩,h3⟩:=h;have hp:=eD es X c (sub x) x.pos g h1 h2;cases es with
  |nil=>exact IZ
  |cons k r=>cases r with
   |nil=>cases h2
   |cons v r =>let⟨q1,q2,q3⟩:=NL c (.cons k<|.cons v r) (sub x) h2;refine Qq h2 h3 hp q1 q2 (by intro z;cases z) (by rw[<-q3]at h3;lia)
 |.ife t a b,X,c,x,g,h=>by have h:(okT t c (kid x 0)&&okE a c (kid x 1)&&okE b c (kid x 2))=eN:=h;rw[bAq,bAq]at h;exact Rt (eT t X c _ g h.1.1).1 (eE a X c _ g h.1.2)<|eE b X c _ g h.2
 |.comp ü m p it t e,X,c,x,g,h=>by
  have h:((OC m p&&(YH<|kid x 1).length == m)&&c.cm&&Ym (scp x) c.sc c.N (YH<|kid x 1) ü&&(scp x).kind == .function&&okI it c (kid x 2) (!ZC p)&&okE e (c.blk (scp x) (YH<|kid x 1) ü) (kid x 0)&&(UO t||okT t (c.blk (scp x) (YH<|kid x 1) ü) (kid x 3)))=eN:=h;rw[bAq,bAq,bAq,bAq,bAq,bAq]at h;let⟨⟨⟨⟨⟨⟨h1,h2⟩,h3⟩,h4⟩,h5⟩,h6⟩,h7⟩:=h;rw[bAq,beq_iff_eq]at h1;let⟨h1,rfl⟩:=h1;have hk:=eq_of_beq h4;let⟨t1,t2⟩:=Mf (c:=c.blk (scp x) (YH<|kid x 1) ü) p<|kid x 1;let⟨a1,a2⟩:=eI it X c (kid x 2) (toP p (c.blk (scp x) (YH<|kid x 1) ü)<|kid x 1) g (!ZC p) t1 t2 h5;exact(Ky g h2 h3 hk h1 a1 a2 (g.pt h2 h3 hk h1 _)
    (λcl C s H ex=>pe0<|eE e _ _ _ (g.blk h3 hk cl C s H ex) h6) (λcl C s H ex=>Ra λz=>(eT t _ _ _ (g.blk h3 hk cl C s H ex)<|by rw[z]at h7;exact h7).1)).1
 |.fstr es,X,c,x,g,h=>nomatch h
 |.repl _ _ _,X,c,x,g,h=>nomatch h
 |.split o a,X,c,x,g,h=>nomatch h
 |.rev a,X,c,x,g,h=>nomatch h
 |.sortT a,X,c,x,g,h=>nomatch h
 |.pick a lo hi st,X,c,x,g,h=>by have h:(okE a c (kid x 0)&&okO lo c (kid (kid x 1) 0)&&okO hi c (kid (kid x 1) 1)&&okE st c (kid (kid x 1) 2))=eN:=h;rw[bAq,bAq,bAq]at h;exact Lk g.K (eE a X c _ g h.1.1.1) (eO lo X c _ g h.1.1.2) (eO hi X c _ g h.1.2)<|eE st X c _ g h.2
theorem eD:∀(es:O.Es) (X:Cx) (c:Md) (xs:List Expr) (ë:Pos),Gd X i P n c->okA es c xs=eN->JZ es=eN->PPs X ë (Wl<|toA es c xs) (Cr<|toA es c xs) (Uq X i (O.wF P n) es)
 |.nil,X,c,xs,ë,g,h,he=>Gr
 |.cons k .nil,X,c,xs,ë,g,h,he=>by cases he
 |.cons k (.cons v r),X,c,xs,ë,g,h,he=>by have h:(okE k c (xs.headD dE)&&(okE v c (xs.tail.headD dE)&&okA r c xs.tail.tail))=eN:=h;rw[bAq,bAq]at h;exact DB (eE k X c _ g h.1) (eE v X c _ g h.2.1)<|eD r X c _ ë g h.2.2 he
theorem eA:∀(ms:O.Es) (X:Cx) (c:Md) (xs:List Expr),Gd X i P n c->okA ms c xs=eN->PA X (toA ms c xs) (tAr X i (O.wF P n) ms (toA ms c xs).length)
 |.nil,X,c,xs,g,h=>H9
 |.cons a as,X,c,xs,g,h=>by have h:(okE a c (xs.headD dE)&&okA as c xs.tail)=eN:=h;rw[bAq]at h;exact GT (eE a X c _ g h.1) (eA as X c _ g h.2)<|Zv ..
theorem eJ:∀(ms:O.Es) (X:Cx) (c:Md) (xs:List Expr),Gd X i P n c->okJ ms c xs=eN->PJ X (toJ ms c xs) (tJs X i (O.wF P n) ms)
 |.nil,X,c,xs,g,h=>IQ
 |.cons a as,X,c,xs,g,h=>by
  have h:((A3 a||okE a c (kid (xs.headD dE) 0))&&okJ as c xs.tail)=eN:=h;rw[bAq]at h;have hr:=eJ as X c _ g h.2;show PJ X ((if A3 a then toX a c (xs.headD dE)else .FormattedValue (toX a c<|kid (xs.headD dE) 0) (-1) eM (xs.headD dE).pos)::toJ as c xs.tail) _;cases z:A3 a with
  |true =>let⟨s,rfl⟩:=Sy z;exact Aa LF hr rfl
  |false =>rw[z]at h;exact Aa (Lw<|eE a X c _ g h.1) hr rfl
theorem eO:∀(m:O.Oe) (X:Cx) (c:Md) (x:Expr),Gd X i P n c->okO m c x=eN->PO X (toO m c x) (tOx X i (O.wF P n) m)
 |.none,X,c,x,g,h=>FS
 |.some e,X,c,x,g,h=>FL<|eE e X c _ g h
theorem eT:∀(m:O.Tt) (X:Cx) (c:Md) (x:Expr),Gd X i P n c->okT m c x=eN->PT X (toT m c x) (tTt X i (O.wF P n) m)/\((Zq m||ZE m)=eN->PW X (toT m c x) (tTt X i (O.wF P n) m))
 |.yes,X,c,x,g,h=>nomatch h
 |.val e,X,c,x,g,h=>by
  refine⟨?_,λz=>(by cases z)⟩;have h:(okE e c x&&(Uh e||PY e))=eN:=h;rw[bAq]at h;have he:=eE e X c x g h.1;cases z:Uh e with
  |true=>exact Lo he (by cases e<;>first|(cases z;done)|exact λ_=>rfl) g.K
  |false =>
   have h2:=h.2;rw[z]at h2;cases e with
   |cmp o a b =>have h:(okE a c (kid x 0)&&okE b c (kid x 1)&&(!XU o||Op b))=eN:=h.1;rw[bAq,bAq]at h;exact(Oh g h.2 (eE a X c _ g h.1.1)<|eE b X c _ g h.1.2).2
   |chain o1 o2 a b d =>have h:(okE a c (kid x 0)&&okE b c (kid x 1)&&okE d c (kid x 2) && !XU o1 && !XU o2)=eN:=h.1;rw[bAq,bAq,bAq,bAq,Ņ,Ņ]at h;let⟨⟨⟨⟨h1,h2⟩,h3⟩,h4⟩,h5⟩:=h;exact(Jb g h4 h5 (eE a X c _ g h1) (eE b X c _ g h2)<|eE d X c _ g h3).2
   |_=>cases h2
 |.not t,X,c,x,g,h=>⟨IJ (eT t X c _ g h).1,λz=>(by cases z)⟩
 |.and a b,X,c,x,g,h=>by
  have h:(okT a c (kid x 0)&&okT b c (rest (Zq b) x)&&(!Zq b||(rest (Zq b) x).pos==x.pos))=eN:=h;rw[bAq,bAq]at h;have h2:=eT b X c _ g h.1.2;let⟨y,ys,e,h3⟩:=Bl h.2 h2.1 h2.2;have h4:PW X (toT (.and a b) c x)<|tTt X i (O.wF P n)<|.and a b:=by show PW X (.BoolOp .And (toT a c (kid x 0)::flat (Zq b) (toT b c<|rest (Zq b) x)) x.pos) _;rw[e];exact Pc (eT a X c _ g h.1.1).1 h3
  exact⟨h4.pt,λ_=>h4⟩
 |.or a b,X,c,x,g,h=>by
  have h:(okT a c (kid x 0)&&okT b c (rest (ZE b) x)&&(!ZE b||(rest (ZE b) x).pos==x.pos))=eN:=h;rw[bAq,bAq]at h;have h2:=eT b X c _ g h.1.2;let⟨y,ys,e,h3⟩:=DL h.2 h2.1 h2.2;have h4:PW X (toT (.or a b) c x)<|tTt X i (O.wF P n)<|.or a b:=by show PW X (.BoolOp .Or (toT a c (kid x 0)::flat (ZE b) (toT b c<|rest (ZE b) x)) x.pos) _;rw[e];exact PR (eT a X c _ g h.1.1).1 h3
  exact⟨h4.pt,λ_=>h4⟩
theorem eI:∀(m:O.It) (X:Cx) (c:Md) (x tg:Expr),Gd X i P n c->∀(b:Bool),(b=eN->∃es k p,tg=.Tuple es k p)->(b=eP->∃y p,tg=.Name y p)->okI m c x b=eN->PI X tg (toI m c x) (tIt X i (O.wF P n) m)/\∀y,ė (toI m c x) X.env y=pure y
 |.seq e,X,c,x,tg,g,b,t1,t2,h=>⟨LD g.K<|eE e X c _ g h,CP _ _ _ _⟩
 |.chars e,X,c,x,tg,g,b,t1,t2,h=>nomatch h
 |.range a,X,c,x,tg,g,b,t1,t2,h=>by have h:(c.gl "range" && okE a c (kid x 1))=eN:=h;rw[bAq]at h;exact⟨Dq (g.gl h.1) (g.bl _<|by simp[blts]) (eE a X c _ g h.2)<|Zv ..,λ_=>rfl⟩
 |.range2 a d,X,c,x,tg,g,b,t1,t2,h=>by have h:(c.gl "range" && okE a c (kid x 1)&&okE d c (kid x 2))=eN:=h;rw[bAq,bAq]at h;exact⟨AU (g.gl h.1.1) (g.bl _<|by simp[blts]) (eE a X c _ g h.1.2) (eE d X c _ g h.2) (by rw[Zv,Zv];rfl)<|Zv ..,λ_=>rfl⟩
 |.zip a d,X,c,x,tg,g,b,t1,t2,h=>nomatch h
 |.enumL e,X,c,x,tg,g,b,t1,t2,h=>nomatch h
 |.enum e,X,c,x,tg,g,b,t1,t2,h=>by have h:(b&&c.gl "enumerate" && okE e c (kid x 1))=eN:=h;rw[bAq,bAq]at h;let⟨es,k,p,rfl⟩:=t1 h.1.1;exact⟨G7 g.K (g.gl h.1.2) (g.bl _<|by simp[blts]) (eE e X c _ g h.2) (by rw[Zv];rfl),λ_=>rfl⟩
 |.items e,X,c,x,tg,g,b,t1,t2,h=>nomatch h
 |.keysF e,X,c,x,tg,g,b,t1,t2,h=>⟨B8<|eE e X c _ g h,CP _ _ _ _⟩
 |.rev e,_,_,_,_,_,_,_,_,h=>nomatch h
end
def AB(g:Gd X i P n c){m:Nat}{t:O.Tt}(h:okE (.comp ü m p it t e) c x=eN) :
  PE X (toX (.comp ü m p it t e) c x) (tE X i (O.wF P n)<|.comp ü m p it t e)/\
   ∀(y:Str) (py Ϝ:Pos) (j:Nat),X.N[j]?=eL y->L2.Loc X.env.scope y->(X.fn y=eN\/X.env.scope.names.lookup y=eL .local)->ż (toX (.comp ü m p it t e) c x) (eL<|.Name y py) Ϝ.line X.env=pure eN->PS X (.Assign [.Name y py] (toX (.comp ü m p it t e) c x) Ϝ) (tSt X i (O.wF P n)<|.set (.one j)<|.comp ü m p it t e):=by
 have h:((OC m p&&(YH<|kid x 1).length==m)&&c.cm&&Ym (scp x) c.sc c.N (YH<|kid x 1) ü&&(scp x).kind == .function&&okI it c (kid x 2) (!ZC p)&&okE e (c.blk (scp x) (YH<|kid x 1) ü) (kid x 0)&&(UO t||okT t (c.blk (scp x) (YH<|kid x 1) ü) (kid x 3)))=eN:=h;rw[bAq,bAq,bAq,bAq,bAq,bAq]at h;let⟨⟨⟨⟨⟨⟨h1,h2⟩,h3⟩,h4⟩,h5⟩,h6⟩,h7⟩:=h;rw[bAq,beq_iff_eq]at h1;let⟨h1,rfl⟩:=h1;have hk:=eq_of_beq h4;let⟨t1,t2⟩:=Mf (c:=c.blk (scp x) (YH<|kid x 1) ü) p<|kid x 1;let⟨a1,a2⟩:=eI it X c (kid x 2) (toP p (c.blk (scp x) (YH<|kid x 1) ü)<|kid x 1) g (!ZC p) t1 t2 h5;exact Ky g h2 h3 hk h1 a1 a2 (g.pt h2 h3 hk h1 _)
  (λcl C s H ex=>pe0<|eE e _ _ _ (g.blk h3 hk cl C s H ex) h6) (λcl C s H ex=>Ra λz=>(eT t _ _ _ (g.blk h3 hk cl C s H ex)<|by rw[z]at h7;exact h7).1)
abbrev dS:ľ:=.Pass ⟨0,0,0,0⟩
abbrev stE:ľ->List Expr
 |.Assign ts v _=>v::ts
 |.AugAssign t _ v _=>[v,t]
 |.For t it _ _ _=>[t,it]
 |.While t _ _ _=>[t]
 |.If t _ _ _=>[t]
 |.Expr e _=>[e]
 |.Return (eL e) _=>[e]
 |.Raise (eL e) _ _=>[e]
 |_=>[]
abbrev ke(s:ľ)(j:Nat):Expr:=(stE s).getD j dE
abbrev stB:ľ->List ľ
 |.For _ _ b _ _=>b
 |.While _ b _ _=>b
 |.If _ b _ _=>b
 |.Try b _ _ _ _=>b
 |_=>[]
abbrev stO:ľ->List ľ
 |.If _ _ b _=>b
 |_=>[]
abbrev stH:ľ->List ExceptHandler
 |.Try _ hs _ _ _=>hs
 |_=>[]
abbrev dH:ExceptHandler:=.ExceptHandler eM eM [] ⟨0,0,0,0⟩
abbrev hT:ExceptHandler->Expr
 |.ExceptHandler (eL e) _ _ _=>e
 |_=>dE
abbrev hB:ExceptHandler->List ľ
 |.ExceptHandler _ _ b _=>b
abbrev hP:ExceptHandler->Pos
 |.ExceptHandler _ _ _ p=>p
abbrev Md.hot(c:Md):Md:={c with cm:=eP}
abbrev Sg(t:Option Nat)(e:O.E)(c:Md)(y:ľ):ľ:=match t with
 |none=>.Expr (toX e c<|ke y 0) y.pos
 |some j=>.Assign [.Name (c.nmOf j) (ke y 1).pos] (toX e c<|ke y 0) y.pos
mutual
noncomputable def toS:O.S->Md->ľ->ľ
 |.set p a,c,s=>.Assign [toP p c<|ke s 1] (toX a c<|ke s 0) s.pos
 |.setIdx a j e,c,s=>.Assign [.Subscript (toX a c<|kid (ke s 1) 0) (toX j c<|kid (ke s 1) 1) (ke s 1).pos] (toX e c<|ke s 0) s.pos
 |.setPair a i b j e,c,s=>.Assign [.Tuple [.Subscript (toX a c<|kid (kid (ke s 1) 0) 0) (toX i c<|kid (kid (ke s 1) 0) 1) (kid (ke s 1) 0).pos,.Subscript (toX b c<|kid (kid (ke s 1) 1) 0) (toX j c<|kid (kid (ke s 1) 1) 1) (kid (ke s 1) 1).pos] (num<|ke s 1) (ke s 1).pos] (toX e c<|ke s 0) s.pos
 |.setFld o f e,c,s=>.Assign [.Attribute (toX o c<|kid (ke s 1) 0) (gC f) (ke s 1).pos] (toX e c<|ke s 0) s.pos
 |.augVar j op e,c,s=>.AugAssign (.Name (c.nmOf j) (ke s 1).pos) (Nn op) (toX e c<|ke s 0) s.pos
 |.augFld o f op n,c,s=>.AugAssign (.Attribute (toX o c<|kid (ke s 1) 0) (gC f) (ke s 1).pos) (Nn op) (.Constant (.int n) (num<|ke s 0) (ke s 0).pos) s.pos
 |.augIdx a j op n,c,s=>.AugAssign (.Subscript (toX a c<|kid (ke s 1) 0) (toX j c<|kid (ke s 1) 1) (ke s 1).pos) (Nn op) (.Constant (.int n) (num<|ke s 0) (ke s 0).pos) s.pos
 |.expr e,c,s=>.Expr (toX e c<|ke s 0) s.pos
 |.ret e,c,s=>.Return (eL<|toX e c<|ke s 0) s.pos
 |.retN,_,s=>.Return eM s.pos
 |.ite t a b,c,s=>.If (toT t c<|ke s 0) (toSs a c<|stB s) (toSs b c<|stO s) s.pos
 |.whl t b,c,s=>.While (toT t c<|ke s 0) (toSs b c<|stB s) [] s.pos
 |.for p it b,c,s=>.For (toP p c<|ke s 0) (toI it c<|ke s 1) (toSs b c<|stB s) [] s.pos
 |.forI eN p e b,c,s=>.For (toP p c<|ke s 0) (toX e c<|ke s 1) (toSs b c<|stB s) [] s.pos
 |.forI eP p e b,c,s=>.For (toP p c<|ke s 0) (.Call (.Attribute (toX e c<|kid (kid (ke s 1) 0) 0) "items" (kid (ke s 1) 0).pos) [] [] (ke s 1).pos) (toSs b c<|stB s) [] s.pos
 |.brk,_,s=>.Break s.pos
 |.cnt,_,s=>.Continue s.pos
 |.pass,_,s=>.Pass s.pos
 |.raise C as,c,s=>.Raise (eL<|.Call (.Name (gC C) (kid (ke s 0) 0).pos) (toA as c (sub<|ke s 0).tail) [] (ke s 0).pos) eM s.pos
 |.try t e hs,c,s=>.Try [Sg t e c<|(stB s).headD dS] (toH hs c<|stH s) [] [] s.pos
 |_,_,s=>s
noncomputable def toH:O.Hn->Md->List ExceptHandler->List ExceptHandler
 |.nil,_,_=>[]
 |.cons K nm b r,c,xs=>.ExceptHandler (eL<|.Name (gC K) (hT<|xs.headD dH).pos) (nm.map c.nmOf) (toSs b c.hot<|hB<|xs.headD dH) (hP<|xs.headD dH)::toH r c xs.tail
noncomputable def toSs:O.Ss->Md->List ľ->List ľ
 |.nil,_,_=>[]
 |.cons m ms,c,xs=>toS m c (xs.headD dS)::toSs ms c xs.tail
end
abbrev HQ:O.E->Bool
 |.idx _ _=>eN
 |.var _=>eN
 |.fld _ _=>eN
 |_=>eP
abbrev Kp(c:Md)(j:Nat):Bool:=gB (j<c.N.length)&&c.loc (c.nmOf j)
abbrev okP(p:O.Pt)(c:Md):Bool:=match p with
 |.one j=>Kp c j
 |.many js=>js.all<|Kp c
 |.nest j js=>Kp c j&&js.all (Kp c)
abbrev DN:O.E->Bool
 |.tup _=>eN
 |.key _=>eN
 |_=>eP
abbrev Ub:O.E->Bool
 |.comp _ _ _ _ _ _=>eN
 |_=>eP
abbrev swT(c:Md)(tg v:Expr):Bool:=match v,tg with
 |.ListComp _ _ s ë,.Name t p=>(if c.sc.kind.isAnnotationScope then ScopeKind.function else c.sc.kind) == .function&&c.sc.names.lookup t==eL .local&&p.line==ë.line && !(s.names.any λ(n,k)=>n==t&&(k == .local||k == .cell))
 |_,_=>eP
abbrev MZ:O.Bop->Bool
 |.add=>eN
 |.sub=>eN
 |_=>eP
abbrev SN(c:Md)(j:Nat):Bool:=gB (j<c.N.length)&&c.sc.names.lookup (c.nmOf j)==eL .local
abbrev SM(c:Md):Option Nat->Bool
 |none=>eN
 |some j=>SN c j
abbrev Rl:O.Ss->Bool
 |.nil=>eP
 |_=>eN
abbrev Ru:O.Hn->Bool
 |.nil=>eN
 |_=>eP
mutual
noncomputable def okS:O.S->Md->ľ->Bool
 |.set p a,c,s=>okP p c&&okE a c (ke s 0)&&(ZC p || !DN a)&&(ZC p||c.cm)
 |.setIdx a j e,c,s=>okE e c (ke s 0)&&okE a c (kid (ke s 1) 0)&&okE j c (kid (ke s 1) 1)
 |.setFld o f e,c,s=>c.fl.contains f&&okE o c (kid (ke s 1) 0)&&okE e c (ke s 0)
 |.augVar j op e,c,s=>Kp c j&&okE e c (ke s 0)&&MZ op
 |.augFld o f op _,c,s=>c.fl.contains f&&okE o c (kid (ke s 1) 0)&&MZ op
 |.augIdx a j op _,c,s=>okE a c (kid (ke s 1) 0)&&okE j c (kid (ke s 1) 1)&&MZ op
 |.expr e,c,s=>okE e c (ke s 0) && !Ub e
 |.ret e,c,s=>okE e c<|ke s 0
 |.retN,_,_=>eN
 |.ite t a b,c,s=>okT t c (ke s 0)&&okSs a c (stB s)&&okSs b c (stO s)
 |.whl t b,c,s=>okT t c (ke s 0)&&okSs b c (stB s)&&c.cm
 |.for p it b,c,s=>okP p c&&okI it c (ke s 1) (!ZC p)&&okSs b c (stB s)&&c.cm
 |.forI eN p e b,c,s=>okP p c&&HQ e&&okE e c (ke s 1)&&okSs b c (stB s)&&c.cm
 |.forI eP p e b,c,s=>okP p c && !ZC p&&okE e c (kid (kid (ke s 1) 0) 0)&&YE (toX e c<|kid (kid (ke s 1) 0) 0)&&((kid (ke s 1) 0).pos.endLine==(ke s 1).pos.line)&&okSs b c (stB s)&&c.cm
 |.never,_,_=>eN
 |_,_,_=>eP
noncomputable def okH:O.Hn->Md->List ExceptHandler->Bool
 |.nil,_,_=>eP
 |.cons K nm b r,c,xs=>(c.xs.contains K||K == "ShutError")&&c.gn K && !c.xs.isEmpty&&SM c nm&&Rl b&&okSs b c.hot (hB<|xs.headD dH)&&Ru r
noncomputable def okSs:O.Ss->Md->List ľ->Bool
 |.nil,_,_=>eN
 |.cons m ms,c,xs=>okS m c (xs.headD dS)&&okSs ms c xs.tail
end
structure Gs(X:Cx)(i:Inf)(P:O.Pg)(n:Nat)(c:Md):Prop extends Gd X i P n c where
 fn:∀x,c.loc x=eN->X.fn x=eN\/X.env.scope.names.lookup x=eL .local
 own:c.cm=eN->Κ (à X.prog X.w) X.A X.env X.xe
 stk:c.cm=eN->X.stack=X.env::X.outer
variable {X:Cx}{i:Inf}{P:O.Pg}{n:Nat}{c:Md}
variable {j:Nat}
def Gs.nm1(g:Gs X i P n c)(h:Kp c j=eN):X.N[j]?=eL (c.nmOf j)/\L2.Loc X.env.scope (c.nmOf j)/\(X.fn (c.nmOf j)=eN\/X.env.scope.names.lookup (c.nmOf j)=eL .local):=by unfold Kp at h;rw[bAq,gy]at h;exact⟨ED g.N h.1,g.loc h.2,g.fn _ h.2⟩
variable {p:O.Pt}
def QZ(g:Gs X i P n c)(h:okP p c=eN):Hx (CG X c) p:=by
 cases p with
 |one j=>exact g.nm1 h
 |many js=>exact λj hj=>g.nm1<|ā.mp h j hj
 |nest j js =>have h:(Kp c j&&js.all (Kp c))=eN:=h;rw[bAq]at h;exact⟨g.nm1 h.1,λk hk=>g.nm1<|ā.mp h.2 k hk⟩
variable {x:Expr}
def UJ(g:Gs X i P n c)(dY:c.cm=eN)(h:okP p c=eN):PG X (toP p c x)<|gPt i p:=HR g.K (by rw[g.N];exact g.nd) (g.calm dY) (QZ g h)
variable {tg:Expr}
def WK{l:Nat}{env:Env}(a:O.E)(x:Expr)(hs:env.scope=c.sc):ż (toX a c x) (eL tg) l env=pure (swT c tg<|toX a c x):=by
 cases a with
 |comp ü m p it t e =>
  cases tg with
  |Name t q =>unfold ż swT Env.blockKind Env.kindOf;rw[hs];rfl
  |_=>rfl
 |_=>rfl
def Pw(p:O.Pt)(a:O.E)(x y:Expr)(env:Env)(h:(ZC p || !DN a)=eN):Ϗ [toP p c x] (toX a c y) env=pure eM:=by
 cases p with
 |one j=>cases a<;>rfl
 |many js=>cases a<;>first|rfl|cases h
 |nest j js=>cases a<;>first|rfl|cases h
def CW(p:O.Pt)(x:Expr)(env:Env):(Ĝ [toP p c x] env).map (·.2)=[ξ (toP p c x) env]:=by cases p<;>rfl
def HU{a:O.E}(h:swT c tg (toX a c x)=eN):∃ü m p it t e,a=.comp ü m p it t e:=by
 cases a with
 |comp ü m p it t e=>exact⟨_,_,_,_,_,_,rfl⟩
 |_=>cases h
variable {ë:Pos}
def GH(y:O.E){b:Expr}{env:Env}:∀v,ξ (.Subscript b (toX y c x) ë) env v=(do
    let ov<-ő [v] (eval b env)
    let iv<-ő [v,ov] (eval (toX y c x) env)
    ϊ ë
    ő [v,ov,iv] (aO ov iv v)
    d0 [v,ov,iv] []):=by
 intro v;cases y<;>rfl
variable {op:O.Bop}
def C5(h:MZ op=eN):Ch X (Nn op)<|rAS op:=by
 cases op with
 |add =>
  intro Â s σ H x y u v Q I rx ry q;let⟨a,b,rfl,rfl,q⟩:=q;rcases q with⟨_,q⟩|⟨z,_⟩
  .exact IS Â s σ H _ _ u v Q I rx ry ⟨a,b,rfl,rfl,q⟩
  .cases z
 |sub =>
  intro Â s σ H x y u v Q I rx ry q;let⟨a,b,rfl,rfl,q⟩:=q;rcases q with⟨z,_⟩|⟨_,q⟩
  .cases z
  .exact Lx Â s σ H _ _ u v Q I rx ry ⟨a,b,rfl,rfl,q⟩
 |_=>cases h
def AQ{Φ:O.Fs}{x:Str}{e:Expr}{m:O.E}{ac:Pos}(hN:X.N.Nodup)(hi:X.N[j]?=eL x)(hx:L2.Loc X.env.scope x)(hf:X.fn x=eN\/X.env.scope.names.lookup x=eL .local)(h:MZ op=eN)(he:PE X e<|tE X i Φ m) :
  PS X (.AugAssign (.Name x ac) (Nn op) e ë) (tSt X i Φ<|.augVar j op m) :=
 (Pb hN hi hx he (C5 h) hf).imp λD σ H ⟨env,G,N,R,B,C,Xe,p,w,c⟩=>by
  let⟨v,e1,w2⟩:=eU w;clear w;let⟨y,hy,ry⟩:=p.en.get j v<|KF e1;refine⟨y,hy,one p.pre w2 λu G1 H1 z k1 p1 rz q=>?_⟩;let⟨r,e2,q2⟩:=eU q;clear q;let⟨a,b,rfl,rfl,hz⟩:=JF e2;cases ry.int_inv;cases rz.int_inv;rcases hz with⟨ho,rfl⟩|⟨ho,rfl⟩
  .exact⟨a,b,rfl,rfl,.inl ⟨ho,c.nx _ _ G1 H1 k1 p1.hp ((p.en.keep k1).set (.int _) j) q2⟩⟩
  .exact⟨a,b,rfl,rfl,.inr ⟨ho,c.nx _ _ G1 H1 k1 p1.hp ((p.en.keep k1).set (.int _) j) q2⟩⟩
def Cz:PGet X<|Ey X.K:=λÂ s σ H x y v u Q I rx ry h=>by
 let⟨p,xs,i,z,rfl,rfl,hq,he,q⟩:=h;cases rx;let⟨t,rfl⟩:=ry;let⟨ø,r,pl,hz⟩:=I.list hq;let⟨j,h1,h2,h3,h4,h5⟩:=WP he;let⟨w,ew,aZ⟩:=r.get h2;have hl:=r.length;have hn:=Y4;have fin:EP X Â σ Q w s:=⟨z,H,I,aZ,q⟩
 by_cases h0:0<=i
 .have hj:i.toNat=j:=by
   rw[bE h0 h5]at h1;exact è h1
  exact wpAny_getItem_list pl.isList h0 (by lia) (by rw[hj];simpa using ew) fin
 .have hj:(i+(ø.toArray.size:Int)).toNat=j:=by
   rw[aP (by lia) h4]at h1;rw[Ê,<-hl];exact è h1
  exact d9 pl.isList (by lia) (by rw[Ê]<;>lia) (by lia) (by rw[hj];simpa using ew) fin
def C3(hu:X.A.units+1<Ī):PGet X BU:=λÂ s σ H x y v u Q I rx ry h=>by let⟨a,z,rfl,g,q⟩:=h;cases rx;exact KW hu I g ry λw s' I' r=>⟨z,H,I',r,q⟩
def PGet.or{r r':R2}(h:PGet X r)(h':PGet X r'):PGet X λx y H Q=>r x y H Q\/r' x y H Q:=λÂ s σ H o j ov jv Q I ro rj q=>by
 rcases q with q|q
 .exact h Â s σ H o j ov jv Q I ro rj q
 .exact h' Â s σ H o j ov jv Q I ro rj q
def IE{G:O.Hs}{H:Hp}{a:Í}{u w:O.Val}{y:V}{K:Frag}{Q:VK}(g:RH i G H)(ry:RV i.K H u y)(e:O.fI G (.ref a) u=eL w)(q:∀z,RV i.K H w z->Q z H):Ey K (.ref a) y H Q\/BU (.ref a) y H Q:=by
 replace e:(match G a with|some (.lst xs)=>(O.gg u).bind (O.atI xs)|some (.dct kvs)=>if O.fj u then O.fq kvs u else eM|some (.frz kvs)=>if O.fj u then O.fq kvs u else eM|some (.dtp kvs)=>if O.isKeyT u then O.fq kvs u else eM|_=>eM)=eL w:=e
 cases z:G a with
 |none=>rw[z]at e;cases e
 |some o =>
  rw[z]at e;cases o with
  |lst xs =>let⟨k,hk,e⟩:=ì.mp e;cases ZB hk;let⟨vs,h1,h2⟩:=g a _ z;let⟨t,h3,h4⟩:=WO h2 e;exact .inl ⟨a,vs,k,t,rfl,ry.int_inv,fY.of h1,h3,q t h4⟩
  |dct kvs =>let⟨hk,e⟩:=Zn (show(if O.fj u then O.fq kvs u else eM)=eL w from e);let⟨ps,h1,h2⟩:=g a _ z;let⟨d,kr,rfl⟩:=fg hk ry;let⟨t,hx,rv⟩:=(h2.look kr).1 w e;exact .inr ⟨a,t,rfl,by rw[<-hx];exact DGet.k h1,q t rv⟩
  |frz kvs =>let⟨hk,e⟩:=Zn (show(if O.fj u then O.fq kvs u else eM)=eL w from e);let⟨ob,ps,h1,h2⟩:=g a _ z;let⟨d,kr,rfl⟩:=fg hk ry;let⟨t,hx,rv⟩:=(h2.look kr).1 w e;exact .inr ⟨a,t,rfl,.inl ⟨ps,d,.inr ⟨ob,h1⟩,rfl,hx.symm⟩,q t rv⟩
  |dtp kvs =>let⟨hk,e⟩:=Zn (show(if O.isKeyT u then O.fq kvs u else eM)=eL w from e);let⟨ps,h1,h2⟩:=g a _ z;let⟨k1,k2,b,rfl,rfl,hb⟩:=WJ hk ry;let⟨t,hx,rv⟩:=(h2.look).1 w e;exact .inr ⟨a,t,rfl,by rw[<-hx];exact DGet.t h1 hb,q t rv⟩
  |_=>cases e
def Pd(e:O.E)(x:Expr):∀ov iv new,augStore (toX e c x) ov iv new=(do ő [new,ov,iv] (aO ov iv new);d0 [new,ov,iv] [];pure .next):=by intro ov iv new;cases e<;>rfl
def Ax{Φ:O.Fs}{a j:Expr}{ma mj:O.E}{op:O.Bop}{k:Int}{kk:Nat}{ë cH š:Pos}(hK:X.K=i.K)(hu:X.A.units+1<Ī)(h:MZ op=eN)(ha:PE X a<|tE X i Φ ma)(hj:PE X j<|tE X i Φ mj)
  (hs:∀ov iv new,augStore j ov iv new=(do ő [new,ov,iv] (aO ov iv new);d0 [new,ov,iv] [];pure .next)) :
  PS X (.AugAssign (.Subscript a j cH) (Nn op) (.Constant (.int k) kk š) ë) (tSt X i Φ<|.augIdx ma mj op k) :=
 (GB ha hj (PGet.or Cz<|C3 hu) OA (C5 h) (PSet.or NT<|N9 hu) hs).imp λD σ H ⟨env,G,N,R,B,C,Xe,p,w,c⟩=>by
  refine one p.pre w λv G1 H1 x k1 p1 rx q=>?_;refine one p1 q λu G2 H2 y k2 p2 ry q=>?_;let⟨t,e1,q2⟩:=eU q;clear q;let⟨z,e2,q3⟩:=eU q2;clear q2;let⟨G3,e3,q4⟩:=eU q3;clear q3;have hr:∃b,v=.ref b:=by
   cases v with
   |ref b=>exact⟨b,rfl⟩
   |_=>cases e3
  let⟨b,rfl⟩:=hr;cases rx.ref_inv;have ix2:∀Q:VK,(∀t',RV i.K H2 t t'->Q t' H2)->Ey X.K (.ref b) y H2 Q\/BU (.ref b) y H2 Q:=λQ hQ=>IE p2.hp ry e1 hQ;refine ix2 _ λt' rt=>?_;let⟨n1,n2,rfl,e0,hz⟩:=JF e2;cases e0;cases rt.int_inv;have fin:∀m:Int,z=.int m->CQ (.ref b) y (.int m) H2 λH6=>D.nx σ H6:=λm hm=>by subst hm;exact D5 p2.hp (.ref b) ry (.int m) e3 λH3 k3 g3=>c.nx env σ _ _ ((k1.trans k2).trans k3) g3 (p2.en.keep k3) q4
  rcases hz with⟨eo,hz⟩|⟨eo,hz⟩
  .exact⟨n1,k,rfl,rfl,.inl ⟨eo,fin _ hz⟩⟩
  .exact⟨n1,k,rfl,rfl,.inr ⟨eo,fin _ hz⟩⟩
def FM(t v:Expr)(p:Pos)(env:Env)(h:(∃a b q,t=.Subscript a b q)\/(∃a b q,t=.Attribute a b q)):Ϗ [t] v env=pure eM:=by rcases h with⟨a,b,q,rfl⟩|⟨a,b,q,rfl⟩<;>rfl
variable {a:O.E} {x:Expr}
def Fu{t:Option Expr}{l:Nat}{env:Env}(h:(!Ub a)=eN):ż (toX a c x) t l env=pure eP:=by
 cases a with
 |comp ü m p it tt e=>cases h
 |_=>rfl
def CZ{tg:Expr}(h:∀y q,tg≠.Name y q):swT c tg (toX a c x)=eP:=by
 cases a with
 |comp ü m p it tt e =>
  cases tg with
  |Name y q=>exact gA rfl<|h y q
  |_=>rfl
 |_=>rfl
def Lc(g:Gs X i P n c){p:O.Pt}(hc:(ZC p||c.cm)=eN)(h:okP p c=eN):PG X (toP p c x)<|gPt i p:=by
 by_cases dY:c.cm=eN
 .exact UJ g dY h
 .cases p with
  |one j =>let⟨h1,h2,h3⟩:=g.nm1 h;exact Ov (by rw[g.N];exact g.nd) h1 h2 h3
  |many js=>exact gA hc dY
  |nest j js=>exact gA hc dY
mutual
theorem sS:∀(m:O.S) (X:Cx) (c:Md) (s:ľ),Gs X i P n c->okS m c s=eN->PS X (toS m c s) (tSt X i (O.wF P n) m)
 |.set p a,X,c,s,g,h=>by
  have h:(okP p c&&okE a c (ke s 0)&&(ZC p || !DN a)&&(ZC p||c.cm))=eN:=h;rw[bAq,bAq,bAq]at h;let⟨⟨⟨h1,h2⟩,h3⟩,h4⟩:=h;by_cases hsw:swT c (toP p c<|ke s 1) (toX a c<|ke s 0)=eN
  .obtain⟨ü,k,pt,it,tt,e,rfl⟩:=HU hsw;cases p with
   |one j =>let⟨q1,q2,q3⟩:=g.nm1 h1;exact(AB g.toGd h2).2 _ _ _ j q1 q2 q3 (by rw[<-hsw];exact WK (c:=c) (.comp ü k pt it tt e) (ke s 0) g.sc)
   |many js=>cases hsw
   |nest j js=>cases hsw
  .have hp:PG X (toP p c<|ke s 1)<|gPt i p:=Lc g h4 h1;exact Pm (eE a X c _ g.toGd h2) hp (by rw[ώ,WK a _ g.sc,Bool.eq_false_iff.mpr hsw]) (Pw p a _ _ _ h3)<|CW p _ _
 |.setIdx a j e,X,c,s,g,h=>by have h:(okE e c (ke s 0)&&okE a c (kid (ke s 1) 0)&&okE j c (kid (ke s 1) 1))=eN:=h;rw[bAq,bAq]at h;have ha:=eE a X c _ g.toGd h.1.2;have hj:=eE j X c _ g.toGd h.2;exact Bn g.K (eE e X c _ g.toGd h.1.1) ha hj (L1 ha hj (PSet.or NT<|N9 (by have:=g.un;lia))<|GH j) (by rw[ώ,WK e _ g.sc,CZ λy q z=>(by cases z)]) (FM _ _ (ke s 1).pos _<|.inl ⟨_,_,_,rfl⟩) rfl
 |.setPair a j b k e,X,c,s,g,h=>nomatch h
 |.setFld o f e,X,c,s,g,h=>by have h:(c.fl.contains f&&okE o c (kid (ke s 1) 0)&&okE e c (ke s 0))=eN:=h;rw[bAq,bAq]at h;exact Bp g.K g.kl.A (g.kl.F _ h.1.1) (eE o X c _ g.toGd h.1.2) (eE e X c _ g.toGd h.2) (by rw[WK e _ g.sc,CZ λy q z=>(by cases z)])
 |.augVar j op e,X,c,s,g,h=>by have h:(Kp c j&&okE e c (ke s 0)&&MZ op)=eN:=h;rw[bAq,bAq]at h;let⟨q1,q2,q3⟩:=g.nm1 h.1.1;exact AQ (by rw[g.N];exact g.nd) q1 q2 q3 h.2<|eE e X c _ g.toGd h.1.2
 |.augFld o f op k,X,c,s,g,h=>by have h:(c.fl.contains f&&okE o c (kid (ke s 1) 0)&&MZ op)=eN:=h;rw[bAq,bAq]at h;exact Bx g.K g.kl.A (g.kl.F _ h.1.1) (C5 h.2)<|eE o X c _ g.toGd h.1.2
 |.expr e,X,c,s,g,h=>by have h:(okE e c (ke s 0) && !Ub e)=eN:=h;rw[bAq]at h;exact FZ (eE e X c _ g.toGd h.1)<|Fu h.2
 |.ret e,X,c,s,g,h=>LN<|eE e X c _ g.toGd h
 |.retN,X,c,s,g,h=>FK
 |.ite t a b,X,c,s,g,h=>by have h:(okT t c (ke s 0)&&okSs a c (stB s)&&okSs b c (stO s))=eN:=h;rw[bAq,bAq]at h;exact Ld (eT t X c _ g.toGd h.1.1).1 (sSs a X c _ g h.1.2)<|sSs b X c _ g h.2
 |.whl t b,X,c,s,g,h=>by have h:(okT t c (ke s 0)&&okSs b c (stB s)&&c.cm)=eN:=h;rw[bAq,bAq]at h;exact Lr (g.own h.2) (eT t X c _ g.toGd h.1.1).1<|sSs b X c _ g h.1.2
 |.for p it b,X,c,s,g,h=>by have h:(okP p c&&okI it c (ke s 1) (!ZC p)&&okSs b c (stB s)&&c.cm)=eN:=h;rw[bAq,bAq,bAq]at h;let⟨⟨⟨h1,h2⟩,h3⟩,h4⟩:=h;let⟨t1,t2⟩:=Mf (c:=c) p<|ke s 0;let⟨a1,a2⟩:=eI it X c (ke s 1) (toP p c<|ke s 0) g.toGd (!ZC p) t1 t2 h2;exact LV (g.own h4) (g.calm h4) a1 (UJ g h4 h1) (sSs b X c _ g h3) a2
 |.forI eN p e b,X,c,s,g,h=>by have h:(okP p c&&HQ e&&okE e c (ke s 1)&&okSs b c (stB s)&&c.cm)=eN:=h;rw[bAq,bAq,bAq,bAq]at h;let⟨⟨⟨⟨h1,h2⟩,h3⟩,h6⟩,h7⟩:=h;refine Fo (g.own h7) (g.calm h7) (eE e X c _ g.toGd h3) (UJ g h7 h1) (sSs b X c _ g h6) λ_=>?_;cases e<;>first|rfl|cases h2
 |.forI eP p e b,X,c,s,g,h=>by have h:(okP p c && !ZC p&&okE e c (kid (kid (ke s 1) 0) 0)&&YE (toX e c<|kid (kid (ke s 1) 0) 0)&&((kid (ke s 1) 0).pos.endLine==(ke s 1).pos.line)&&okSs b c (stB s)&&c.cm)=eN:=h;rw[bAq,bAq,bAq,bAq,bAq,bAq]at h;let⟨⟨⟨⟨⟨⟨h1,h2⟩,h3⟩,h4⟩,h5⟩,h6⟩,h7⟩:=h;let⟨es,k,q,et⟩:=(Mf (c:=c) p<|ke s 0).1 h2;have hg:=UJ (x:=ke s 0) g h7 h1;show PS X (.For (toP p c<|ke s 0) _ _ _ _) _;rw[et]at hg ⊢;exact EO (g.own h7) (g.calm h7) (eE e X c _ g.toGd h3) hg (sSs b X c _ g h6) (Yv h4 _ _) h5 λ_=>rfl
 |.never,X,c,s,g,h=>DA
 |.brk,X,c,s,g,h=>nomatch h
 |.cnt,X,c,s,g,h=>nomatch h
 |.pass,X,c,s,g,h=>nomatch h
 |.raise C as,X,c,s,g,h=>nomatch h
 |.try t e (.cons K nm b .nil),X,c,s,g,h=>nomatch h
 |.try t e (.cons K nm b<|.cons _ _ _ _),X,c,s,g,h=>nomatch h
 |.try t e .nil,X,c,s,g,h=>nomatch h
 |.augIdx a j op k,X,c,s,g,h=>by have h:(okE a c (kid (ke s 1) 0)&&okE j c (kid (ke s 1) 1)&&MZ op)=eN:=h;rw[bAq,bAq]at h;exact Ax g.K (by have:=g.un;lia) h.2 (eE a X c _ g.toGd h.1.1) (eE j X c _ g.toGd h.1.2)<|Pd j _
theorem sSs:∀(ms:O.Ss) (X:Cx) (c:Md) (xs:List ľ),Gs X i P n c->okSs ms c xs=eN->PSs X (toSs ms c xs) (tBl X i (O.wF P n) ms)
 |.nil,X,c,xs,g,h=>LJ
 |.cons m ms,X,c,xs,g,h=>by have h:(okS m c (xs.headD dS)&&okSs ms c xs.tail)=eN:=h;rw[bAq]at h;exact EY (sS m X c _ g h.1)<|sSs ms X c _ g h.2
end
abbrev OO(N ps:List Str)(sc:ν):Bool :=
 sc.kind == .function && !sc.isCoroutine && !sc.isGenerator&&decide N.Nodup&&(N.take ps.length==ps)&&ps.all (λx=>sc.names.lookup x==eL .local||sc.names.lookup x==eL .cell)&&sc.names.all λy=>y.2 != .free
variable {ps:List Str}
def Qz{N:List Str}{sc:ν}(h:OO N ps sc=eN):FnScope N ps sc:=by
 simp only[OO,bAq,Ņ,gy,ā]at h;let⟨⟨⟨⟨⟨⟨h1,h2⟩,h3⟩,h4⟩,h5⟩,h6⟩,h7⟩:=h;refine⟨eq_of_beq h1,h2,h3,h4,eq_of_beq h5,λx hx=>?_,λy hy=>?_⟩
 .simpa using h6 x hx
 .simpa using h7 y hy
structure Ds where
 st:ľ
 N:List Str
 ps:List Str
 d:O.Fn
structure Mt where
 C:String
 m:String
 qual:String
 x:Ds
structure Tb where
 fs:List<|String×Ds
 ms:List Mt
 cs:List<|String×O.Val
 cl:List String
 fl:List String
 xs:List String
abbrev Tb.md(T:Tb)(x:Ds):Md:={N:=x.N,sc:=Zu x.st,cs:=T.cs,fs:=T.fs.map (·.1),cm:=eN,cl:=T.cl,ms:=T.ms.map λy=>(y.C,y.m),fl:=T.fl,xs:=T.xs}
abbrev Ds.test(T:Tb)(x:Ds):Bool :=
 OO x.N x.ps (Zu x.st)&&okSs x.d.body (T.md x) (ZP x.st)&&x.ps.length==x.d.ar&&x.N.length==x.d.sz&&gB (x.d.ar<=x.d.sz)
structure Ds.Ok(T:Tb)(x:Ds):Prop where
 ok:x.test T=eN
 eq:toSs x.d.body (T.md x) (ZP x.st)=ZP x.st
variable {pr:ã}{wd:Ā}{mg:Str->Option Ã}{base:ĉ}{i:Inf}{P:O.Pg}{T:Tb}
abbrev Dst(K:Frag)(mg:Str->Option Ã)(f:String)(x:Ds):Prop:=∃fa fd qual,Fun K (gC f) qual x.st fa fd/\mg (gC f)=eL (.ref fa)/\Binds K fd x.ps []
structure Mst(i:Inf)(mg:Str->Option Ã)(y:Mt)(a fa:Í):Prop where
 cl:mg (gC y.C)=eL (.ref a)
 fn:∃fd,Fun i.K (gC y.m) (gC y.qual) y.x.st fa fd/\Binds i.K fd y.x.ps []
 at_:Meth i.K a (gC y.m) fa
variable {f:String} {fa:Í} {fd:Ŋ}
def Us:fz pr wd i.K mg base (CX1 pr wd) 0 fa fd ps<|spF i P 0 f:=by
 refine⟨λvs H Q E h=>?_,λA outer s H args us vs Q E hr he hb hv h=>?_⟩
 .obtain⟨_,_,_,_,_,_,w,_⟩:=h;rw[O.wF_eq]at w;exact w.elim
 .obtain⟨_,_,_,_,_,_,w,_⟩:=h;rw[O.wF_eq]at w;exact w.elim
variable {n:Nat}
def DZ{vs:List O.Val}{h:O.Hs}{Q:O.Q1}{E:O.XQ}(q:O.wF P (n+1) f vs h Q E):∃d,P f=eL d/\vs.length=d.ar/\O.wSs (O.wF P n) d.body (d.env vs) h (λ_ g=>Q .non g) Q (λ_ _=>False) (λ_ _=>False) λ_ c g=>E c g:=by rw[O.wF_eq]at q;let⟨d,e,q1,q2⟩:=eU q;exact⟨d,e,q1,by rw[O.wF_eq];exact q2⟩
structure Modu(mg:Str->Option Ã)(base:ĉ)(i:Inf)(T:Tb):Prop where
 bl:∀x∈blts,mg x=eM
 cst:∀x v,T.cs.lookup x=eL v->∃u y,mg (gC x)=eL u/\RelV y u/\∀H,RV i.K H v y
 A:ClsA i
 F:∀f,T.fl.contains f=eN->FldOk i f
 cl:∀C a,i.cl C a->mg (gC C)=eL (.ref a)
 mkc:∀C,T.cl.contains C=eN->∃a y f,i.ins C=eN/\i.cl C a/\Mk i.K a f/\y∈T.ms/\y.C=C/\y.m = "__init__"/\Mst i mg y a f
 fs:∀f x,(f,x)∈T.fs->Dst i.K mg f x
 ms:∀y,y∈T.ms->∃a f,Mst i mg y a f/\Cls i.K a
 xc:T.xs≠[]->∀C a,i.xc C a->XCls i.K a/\PySem.W.kitOne i.K (.ref a) (.type "ValueError")=eL eN
 rs:T.xs≠[]->∀C,T.xs.contains C=eN->∃a,i.xc C a/\PyProof.Rows.OwnCls (gC C) a [.type "ValueError",.type "Exception",.type "BaseException",.type "object"] "ValueError.__new__" mg base
 kn:T.xs≠[]->∀T',(T.xs.contains T'||T' == "ShutError")=eN->∃D,mg (gC T')=eL (.ref D)/\∀C a,i.xc C a->PySem.W.kitOne i.K (.ref a) (.ref D)=eL (O.fX C T')/\(O.fX C T'=eN->PySem.W.exmOne i.K (.ref a) (.ref D)=eL eN)
structure Held(pr:ã)(wd:Ā)(mg:Str->Option Ã)(base:ĉ)(i:Inf)(P:O.Pg)(T:Tb)(n:Nat):Prop where
 fs:∀f x,(f,x)∈T.fs->Dfo pr wd mg base i P n f
 ms:∀y a f,y∈T.ms->Mst i mg y a f->Dfm pr wd mg base i P n (y.C ++ "." ++ y.m) f
def fn_succ{x:Ds}{nm qual:Str}(M:Modu mg base i T)(hn:Held pr wd mg base i P T n)(F:Fun i.K nm qual x.st fa fd)(hP:P f=eL x.d)(ht:x.Ok T):fz pr wd i.K mg base (CX1 pr wd) (2*(n+1)) fa fd x.ps<|spF i P (n+1) f:=by
 let⟨ht,heq⟩:=ht;simp only[Ds.test,bAq,gy]at ht;let⟨⟨⟨⟨h1,h2⟩,h3⟩,h4⟩,h5⟩:=ht;have h3:=eq_of_beq h3;have h4:=eq_of_beq h4;have S:=Qz h1;refine F.ok1 (k:=2*n+1) S (λvs H Q E h=>?_) λϧ A outer s H vs Q E hr hsp hw=>?_
 .obtain⟨args,G,Qm,Em,r,g,w,_⟩:=h;let⟨d,e,q,_⟩:=DZ w;rw[hP]at e;cases e;rw[<-r.length,q,h3]
 .obtain⟨args,G,Qm,Em,r,g,w,cn,ex⟩:=hsp;let⟨d,e,q,w⟩:=DZ w;rw[hP]at e;cases e;have gd:Gs (Mh (CX1 pr wd) pr wd i.K mg base x.N qual (Zu x.st) fa ϧ A outer s H E) i P n (T.md x) :=
   { K:=rfl,N:=rfl,sc:=rfl,nd:=S.nd,un:=(by have:=hr.un;show(A.deeper _).units+200<Ī;lia),calm:=λ_=>rfl,room:=λ_=>hr,bl:=M.bl
     dfs:=λg hg=>(by
       let⟨p,hy,e⟩:=Ò.mp<|Ć.mp hg
       subst e
       exact hn.fs p.1 p.2 hy)
     cst:=M.cst
     kl:=⟨M.A,M.F,λC hC=>(by
       let⟨a,y,f,q1,q2,q3,q4,rfl,q6,q7⟩:=M.mkc C hC
       refine⟨a,f,q1,q2,q3,M.cl _ _ q2,?_⟩
       have:=hn.ms y a f q4 q7
       rw[q6]at this
       rwa [show y.C ++ ".__init__" = y.C ++ "." ++ "__init__" by rw[String.append_assoc];rfl]),λC m hC=>(by
       let⟨y,hy,e⟩:=Ò.mp<|Ć.mp hC
       cases e
       let⟨a,f,q1,q2⟩:=M.ms y hy
       refine⟨a,f,λb hb=>?_,q2,q1.at_,hn.ms y a f hy q1⟩
       have e1:=M.cl _ _ hb
       rw[q1.cl]at e1
       cases e1
       rfl)⟩
     xl:=λh=>⟨M.xc h,M.rs h,M.kn h⟩
     fn:=λ_ _=>.inl rfl
     own:=λ_=>PassesOwn.leaving
     stk:=λ_=>rfl }
  have hb:=sSs x.d.body _ _ _ gd h2;rw[heq]at hb;refine⟨_,hb,?_⟩;refine⟨x.d.env args,G,(λ_ g=>Qm .non g),Qm,(λ_ _=>False),(λ_ _=>False),(λ_ c g=>Em c g),?_,w,?_⟩
  .refine⟨?_,g,?_⟩
   .have:=REn.start (n:=x.d.sz - x.d.ar) r;unfold L2.start;have e1:x.N.length - vs.length=x.d.sz - x.d.ar:=by rw[h4,<-r.length,q]
    rw[e1];exact this
   .intro Â σ H0 s0 H' a cls s' I fl hx;let⟨e,c,G',ad,q1,q2,q3,q4,q5⟩:=hx;exact hw Â σ H0 s0 H' a cls s' I fl<|ex _ _ _ ⟨c,G',ad,q1,q2,q3,q4,q5⟩
  .refine⟨?_,?_,?_,?_⟩
   .intro Ń ř G' H' k g' e w';exact cn .non G' H' .non k g' .non w'
   .intro v G' H' y k g' rv w';exact cn v G' H' y k g' rv w'
   .intro _ _ _ _ _ _ _ z;exact z.elim
   .intro _ _ _ _ _ _ _ z;exact z.elim
def held_all(M:Modu mg base i T)(hP:∀f x,(f,x)∈T.fs->P f=eL x.d)(hPm:∀y,y∈T.ms->P (y.C ++ "." ++ y.m)=eL y.x.d)(ht:∀f x,(f,x)∈T.fs->x.Ok T)(htm:∀y,y∈T.ms->y.x.Ok T):∀n,Held pr wd mg base i P T n:=by
 intro n;induction n with
 |zero =>
  refine⟨λf x h=>?_,λy a f hy S=>?_⟩
  .obtain⟨fa,fd,qual,F,hm,hb⟩:=M.fs f x h;exact⟨fa,fd,x.ps,Us,hm,F.kp,hb⟩
  .obtain⟨fd,F,hb⟩:=S.fn;exact⟨fd,y.x.ps,Us,hb⟩
 |succ n ih =>
  refine⟨λf x h=>?_,λy a f hy S=>?_⟩
  .obtain⟨fa,fd,qual,F,hm,hb⟩:=M.fs f x h;exact⟨fa,fd,x.ps,fn_succ M ih F (hP f x h)<|ht f x h,hm,F.kp,hb⟩
  .obtain⟨fd,F,hb⟩:=S.fn;exact⟨fd,y.x.ps,fn_succ M ih F (hPm y hy)<|htm y hy,hb⟩
end Snd
namespace Hd
open PySem PySem.W PyProof.Rows
abbrev WQ(st:SharedT->Thread->Option (SharedT×Thread))(ok th:Thread->Bool):Nat->SharedT->Thread->Option SharedT
 |0,_,_=>eM
 |n+1,s,t=>match th t with
  |true=>eL s
  |false=>match ok t with
   |false=>eM
   |true=>match st s t with
    |some (s',t')=>WQ st ok th n s' t'
    |none=>eM
def JA{tb:String->Option Builtin}{p:Program}{w:World}{n₀:Nat}{ann:Option Value}:∀{n:Nat}{s s':SharedT}{t:Thread},WQ (stepT (denote tb) p w) (stepOk n₀ ann) through n s t=eL s'->topRun tb p w n₀ ann n s.abs t=eL s'.abs
 |0,_,_,_,h=>by cases h
 |n+1,s,s',t,h=>by
  unfold WQ at h;unfold topRun;cases ht:through t with
  |true=>rw[ht]at h;cases h;rfl
  |false =>
   rw[ht]at h;dsimp only at h ⊢;cases hk:stepOk n₀ ann t with
   |false=>rw[hk]at h;cases h
   |true =>
    rw[hk]at h;dsimp only at h ⊢;cases hs:stepT (denote tb) p w s t with
    |none=>rw[hs]at h;cases h
    |some r =>let⟨s2,t2⟩:=r;rw[hs]at h;rw[stepT_spec hs];exact JA h
abbrev JP(P:Params):BT :=
 .node (boot_o_0 P) (.node (boot_o_1 P) (.node (boot_o_3 P) (.node (boot_o_7 P) .nil .nil) .nil)<|.node (boot_o_5 P) (.node (boot_o_9 P) .nil .nil) .nil)
  (.node (boot_o_2 P) (.node (boot_o_4 P) (.node (boot_o_8 P) .nil .nil) .nil)<|.node (boot_o_6 P) (.node (boot_o_10 P) .nil .nil) .nil)
def BY(P:Params):absHeap (JP P) 11 {}=boot_heap P:=by kernel_rfl
def AL(P:Params):((boot_heap P).isNs mainGlobals&&(Array.mk []:Array GenState).size==0,(boot_heap P).objs.size,(boot_heap P).nsMap mainGlobals "__annotations__")=(eN,11,eL<|.ref 6):=by
 rw[show @Heap.nsMap=_ from Fast.te8920871248978507458]
 kernel_rfl
abbrev HH:=Fast.tw10156331382660048174
abbrev UL:=Fast.tw11892475500146522536
abbrev EB:=Fast.tw14364793385576792824
abbrev okY:=Fast.tw6613529449190102663
abbrev seenY:=Fast.tw4187177175401517315
abbrev modsY:=Fast.tw5923862056798008813
abbrev runY(p:Program)(N:Nat)(w:World)(os:OsState):Option SharedT:=WQ (HH (UL EB) p w) (okY 11<|eL<|.ref 6) through N ⟨JP w.params,11,{},Array.mk [],boot_drawn,boot_toks,os⟩<|topStub p
abbrev stY(p:Program)(w:World)(s:SharedT):Bool:=staticsOk (modsY p.main.body) (boot_heap w.params) s.abs.heap&&namesBound p s.abs.heap&&gensDone s.abs&&laidKept (boot_heap w.params) s.abs.heap
def left_of{p q:Program}{loose:List Str}{Xt:Shared->Bool}{α:Type}{Yf:Shared->α}{Ya:World->α}{N:Nat}(e:opening p=plainProg p.main.scope.names)(hN:Nat.ble 600 N=eN)(f:∀s,fenceModules? p s=eL s)
  (one:∀w os,(runY p N w os).map (stY p w)=eL eN) (two:∀w os,(runY p N w os).map (λs=>seenY q loose (modsY p.main.body) Xt eN s.abs)=eL (openGood q loose)) (three:∀w os,(runY p N w os).map (λs=>Yf s.abs)=eL (Ya w)) :
  LeftO p q loose Xt Yf Ya N:=by
 intro w;let⟨⟨h,gs,d,k,os⟩,e1,e2⟩:=Ë.mp<|boot_open e hN f w;obtain⟨rfl,rfl,rfl,rfl⟩:h=boot_heap w.params/\gs=Array.mk []/\d=boot_drawn/\k=boot_toks:=⇑e2
 let⟨s,r,l1⟩:=Ë.mp<|one w os;let⟨s',r',l2⟩:=Ë.mp<|two w os;cases r.symm.trans r';let⟨s',r',l3⟩:=Ë.mp<|three w os;cases r.symm.trans r';obtain⟨z1,z2,z3⟩:_/\_/\_:=by simpa only[Δ]using AL w.params
 unfold stY at l1;unfold runY HH UL EB okY at r;rw[<-Fast.te10156331382660048174,<-Fast.te11892475500146522536,<-Fast.te14364793385576792824,<-Fast.te6613529449190102663]at r;unfold modsY at l1 l2;unfold seenY at l2;rw[<-Fast.te5923862056798008813]at l1 l2;rw[<-Fast.te4187177175401517315]at l2;have r2:=JA r;have ea:(SharedT.mk (JP w.params) 11 {} (Array.mk []) boot_drawn boot_toks os).abs=⟨boot_heap w.params,Array.mk [],boot_drawn,boot_toks,os⟩:=by show Shared.mk (absHeap _ _ _) _ _ _ _=_;rw[BY]
 rw[ea]at r2;have t:topFrom treeTable p w N ⟨boot_heap w.params,Array.mk [],boot_drawn,boot_toks,os⟩=eL s.abs:=by unfold topFrom;dsimp only;rw[z1,z2,z3,r2];show(match staticsOk (importedModules p.main.body) (boot_heap w.params) s.abs.heap&&namesBound p s.abs.heap&&gensDone s.abs&&laidKept (boot_heap w.params) s.abs.heap with|true=>_|false=>_)=_;rw[l1]
 unfold openEnds;rw[e1];show(topFrom treeTable p w N _).map _=_;rw[t];exact congrArg eL<|Prod.ext l2 l3
end Hd
namespace Hd
open PySem PySem.W PyProof.Rows L2
abbrev KP:Nat->List Obj->Frag
 |_,[]=>[]
 |i,o::r=>match o with
  |⟨_,_,.freed,_⟩=>KP (i+1) r
  |o=>(i,o)::KP (i+1) r
abbrev ZA(g:Heap):Frag:=KP 0 g.objs.toList
def Nm:∀(l:List Obj) (i a:Nat) (o:Obj),(KP i l).lookup a=eL o->i<=a/\l[a - i]?=eL o/\(match eL o with|some ⟨_,_,.freed,_⟩=>eM|o=>o)=eL o
 |[],_,_,_,h=>by cases h
 |x::r,i,a,o,h=>by
  have rec1:(KP (i+1) r).lookup a=eL o->i<=a/\(x::r)[a - i]?=eL o/\(match eL o with|some ⟨_,_,.freed,_⟩=>eM|o=>o)=eL o:=λq=>by let⟨h1,h2,h3⟩:=Nm r (i+1) a o q;refine⟨by lia,?_,h3⟩;rw[show a - i=(a - (i+1))+1 by lia,List.getElem?_cons_succ];exact h2
  unfold KP at h;split at h
  .exact rec1 h
  .rename_i c ž;rw[ï]at h;split at h
   .rename_i e;cases h;have e:=eq_of_beq e;subst e;refine⟨Ì _,by rw[Nat.sub_self];rfl,?_⟩;split
    .rename_i d1 d2 d3 d4;cases d4;exact(ž _ _ _ rfl).elim
    .rfl
   .exact rec1 h
def OE{g:Heap}{a:Addr}{o:Obj}(h:(ZA g).lookup a=eL o):g.get? a=eL o:=by let⟨_,h2,h3⟩:=Nm _ _ _ _ h;unfold Heap.get?;rw[Nat.sub_zero,Ą]at h2;rw[h2];exact h3
abbrev Cg(K:Frag)(nm:Str):Option<|FuncData×Bool×Bool:=match nsIn K mainGlobals nm with
 |some (eL<|.ref f)=>match K.lookup f with
  |some ⟨_,_,.func fd,_⟩=>eL ({fd with kwdefaults:=.none,doc:=.none,pyModule:=.none,annotations:=eM,code:=.none,closureTuple:=.none},codeIn K fd.code fd.qualname,keepIn K<|.ref f)
  |_=>eM
 |_=>eM
abbrev DF(nm:Str)(st:Stmt):Option<|FuncData×Bool×Bool:=eL (fnOf nm nm (YN st) (ZP st) (Zu st) .none .none .none .none eM .none .none,eN,eN)
def HZ{K:Frag}{nm:Str}{st:Stmt}(e:Cg K nm=DF nm st):∃fa fd,Fun K nm nm st fa fd/\nsIn K mainGlobals nm=eL (eL<|.ref fa):=by
 unfold Cg at e;split at e
 .rename_i f hf;split at e
  .rename_i oc od fd sl hl;simp only[DF,Ĭ,Δ]at e;let⟨e1,e2,e3⟩:=e;let⟨n1,n2,n3,n4,n5,n6,n7,n8,n9,n10,n11,n12,n13,n14,n15⟩:=fd;simp only[fnOf,FuncData.mk.injEq]at e1;obtain⟨rfl,rfl,rfl,rfl,rfl,rfl,rfl,rfl,-,-,-,-,-,-,rfl⟩:=e1;exact⟨f,_,Db hl e2 e3,hf⟩
  .cases e
 .cases e
abbrev Hj(K:Frag)(y:Str):Bool:=match nsIn K mainGlobals y with
 |some eM=>eN
 |_=>eP
def FC{l:OpenLaw}{n k:Nat}{q:Program}{loose:List Str}{XP:(Str->Option Value)->Heap->Prop}{YP:World->Heap->Prop}{d:DefRec}{CX:World->CXT}{x:Str}
  (hn:l.most=eL n) (hn2:n<=sizeLine) (hdf:d.params.defaults=[]) (hr:fy k callerA)
  (F:∀(w:World) (mg:Str->Option Value) (fa:Addr) (h:Heap),YP w h->h.Ns mainGlobals mg->mg d.name=eL (.ref fa)->∃(K:Frag) (sp:Sp),K.In h/\
    (∃fd:FuncData,(∀(s:Shared) (u:Value),BindsTo s fd ⟨[u],[]⟩ [(x,u)])/\∀base:Heap,K.In base->base.Ns mainGlobals mg->fz l.prog w K mg base (CX w) k fa fd [x] sp)/\
    ∀(H:Hp) (a:Addr) (ns:List Int),ns.length<=n->L9 H->fY K H a (ns.map V.int)->sp [.ref a] H (λv _=>v=.bl eN) λ_ _ _=>False)
  (hCX:∀(w:World) (H:Hp) (s:Shared) (e:Value) (s':Shared),CX w [] H s (λ_ _ _=>False) e s'->False) :
  WalkO q loose XP YP l.row.toRowW d [] (λf vs=>PySem.call f vs):=by
 refine Att.attach_call hn hdf λw s₀ Ġ mg mb fa o pm cd doc a vs ns G Y ho hd bf hmg dy hints hlen hg=>?_;let⟨K,sp,KX,⟨fd,hb,hF⟩,hsp⟩:=F w mg fa _ Y G.T.g hmg;exact Ca KX G.T.g G.T.b G.T.builtins G.T.nolimit hg dy hints (Ý hlen hn2) hr hF hb (λH hO hS=>hsp H a ns hlen hO hS) λH e s'=>hCX w H Ġ e s'
abbrev G9(f:Value->O.Val->Bool):List Value->List O.Val->Bool
 |[],[]=>eN
 |u::us,x::xs=>f u x&&G9 f us xs
 |_,_=>eP
abbrev Hh(K:Frag):Value->Option (List Value)
 |.ref a=>match K.lookup a with
  |some ⟨.type n,_,.seq us _,_⟩=>if n == "tuple" && gB (us.size<=sizeLine)then eL us.toList else eM
  |_=>eM
 |_=>eM
abbrev F3(K:Frag):Nat->Value->O.Val->Bool
 |0,_,_=>eP
 |n+1,u,v=>match v with
  |.non=>(match u with|.none=>eN|_=>eP)
  |.bl b=>(match u with|.bool a=>a==b|_=>eP)
  |.int j=>(match u with|.int i _=>i==j|_=>eP)
  |.str t=>(match u with|.str s _=>Fast.sEq s (gC t)|_=>eP)
  |.tup xs=>(match Hh K u with|some us=>G9 (F3 K n) us xs|none=>eP)
  |_=>eP
def BN{K:Frag}{f:Value->O.Val->Bool}(hf:∀u v,f u v=eN->∃z,RelV z u/\∀H,Snd.RV K H v z):∀(us:List Value) (xs:List O.Val),G9 f us xs=eN->∃zs,f8 zs us/\∀H,Snd.RVs K H xs zs
 |[],[],_=>⟨[],.nil,λ_=>.nil⟩
 |u::us,x::xs,h=>by rw[G9,bAq]at h;let⟨z,r,q⟩:=hf u x h.1;let⟨zs,rs,qs⟩:=BN hf us xs h.2;exact⟨z::zs,.cons r rs,λH=>.cons (q H)<|qs H⟩
 |[],_::_,h=>by cases h
 |_::_,[],h=>by cases h
def DR{K:Frag}:∀(n:Nat) (u:Value) (v:O.Val),F3 K n u v=eN->∃z,RelV z u/\∀H,Snd.RV K H v z
 |0,_,_,h=>by cases h
 |n+1,u,v,h=>by
  unfold F3 at h;cases v with
  |non =>
   dsimp only at h;split at h
   .exact⟨.non,rfl,λ_=>.non⟩
   .cases h
  |bl b =>
   dsimp only at h;split at h
   .cases eq_of_beq h;exact⟨.bl b,rfl,λ_=>.bl b⟩
   .cases h
  |int j =>
   dsimp only at h;split at h
   .cases eq_of_beq h;exact⟨.int j,⟨_,rfl⟩,λ_=>.int j⟩
   .cases h
  |str t =>
   dsimp only at h;split at h
   .cases Fast.sEq_iff.mp h;exact⟨.str<|gC t,⟨_,rfl⟩,λ_=>.str t⟩
   .cases h
  |tup xs =>
   dsimp only at h;split at h
   .rename_i us hu;let⟨zs,rs,qs⟩:=BN (λu v=>DR n u v) us xs h;unfold Hh at hu;split at hu
    .rename_i a;split at hu
     .rename_i nm od ø k sl hl;split at hu
      .rename_i hc;rw[bAq,gy]at hc;cases eq_of_beq hc.1;cases hu;exact⟨.ref a,rfl,λH=>.tup (.inr ⟨_,ø,k,hl,rfl,rfl,hc.2,rs⟩)<|qs H⟩
      .cases hu
     .cases hu
    .cases hu
   .cases h
  |ref a=>cases h
  |scr ns=>cases h
  |key i j=>cases h
abbrev Dx(K:Frag)(p:String×O.Val):Bool:=match nsIn K mainGlobals (gC p.1)with
 |some (eL u)=>F3 K 4 u p.2
 |_=>eP
def JL{α β:Type}[BEq α][LawfulBEq α]{a:α}{b:β}:∀{l:List (α×β)},l.lookup a=eL b->(a,b)∈l
 |[],h=>by cases h
 |(x,y)::r,h=>by
  rw[ï]at h;split at h
  .rename_i e;cases h;cases eq_of_beq e;exact .head _
  .exact .tail _<|JL h
def L6{K:Frag}{mg:Str->Option Value}{h:Heap}{x:Str}{C:Addr}{bmB:List Value}{id:String}(X:K.In h)(hm:mg x=eL (.ref C))(q:excIn K C bmB id=eN):PyProof.Rows.OwnCls x C bmB id mg h:=by
 constructor
 .exact hm
 have z:=q;unfold excIn at z;split at z
 next dd cd sl ho =>
  split at z
  next C1 bm k0 k1 k2 k3 n k5 em es =>
   rw[bAq,bAq,bAq,bAq,bAq]at z;let⟨⟨⟨⟨⟨z1,z2⟩,z3⟩,z4⟩,z5⟩,z6⟩:=z;have z1:=eq_of_beq z1;have z2:=eq_of_beq z2;have z6:=eq_of_beq z6;subst z1 z2;have z3b:cd.hasDel=eP:=by
    cases e:cd.hasDel with
    |false=>rfl
    |true=>rw[e]at z3;cases z3
   have es':sl=#[k0,k1,k2,k3,eL<|.builtin n,k5]:=eh.mp es;have nN:=nsMap_none_of_in X z5 z6;have nI:=Heap.Ns.of_isNs<|isNs_of_in X z5;have tI:=tail_of_in X z4;cases cd;dsimp only at em z3b nN nI;subst em z3b es';exact⟨bm,_,_,_,_,_,_,_,_,_,dd,k0,k1,k2,k3,k5,_,X _ _ ho,nI,nN,tI⟩
  next=>cases z
 next=>cases z
abbrev IU(K:Frag)(f:Addr):Option<|FuncData×Bool×Bool:=match K.lookup f with
 |some ⟨_,_,.func fd,_⟩=>eL ({fd with kwdefaults:=.none,doc:=.none,pyModule:=.none,annotations:=eM,code:=.none,closureTuple:=.none},codeIn K fd.code fd.qualname,keepIn K<|.ref f)
 |_=>eM
abbrev OF(nm qual:Str)(st:Stmt):Option<|FuncData×Bool×Bool:=eL (fnOf nm qual (YN st) (ZP st) (Zu st) .none .none .none .none eM .none .none,eN,eN)
def Pv{K:Frag}{nm qual:Str}{st:Stmt}{f:Addr}(e:IU K f=OF nm qual st):∃fd,Fun K nm qual st f fd:=by
 unfold IU at e;split at e
 .rename_i oc od fd sl hl;simp only[OF,Ĭ,Δ]at e;let⟨e1,e2,e3⟩:=e;let⟨n1,n2,n3,n4,n5,n6,n7,n8,n9,n10,n11,n12,n13,n14,n15⟩:=fd;simp only[fnOf,FuncData.mk.injEq]at e1;obtain⟨rfl,rfl,rfl,rfl,rfl,rfl,rfl,rfl,-,-,-,-,-,-,rfl⟩:=e1;exact⟨_,Db hl e2 e3⟩
 .cases e
abbrev Jv(K:Frag)(C:String):Option Addr:=match nsIn K mainGlobals (gC C)with
 |some (eL<|.ref a)=>eL a
 |_=>eM
variable {C:String} {a:Addr}
def WW{K:Frag}(h:Jv K C=eL a):nsIn K mainGlobals (gC C)=eL (eL<|.ref a):=by
 unfold Jv at h;split at h
 .cases h;assumption
 .cases h
structure CV where
 pg:Bool
 hd:Bool
 po:Bool
 sa:Option<|Option Value
abbrev FV(K:Frag)(a:Addr):CV:=⟨plainGet K a Str.empty,hasDictIn K a,plainOver K a,findIn K (.ref a) "__setattr__"⟩
abbrev U5:CV:=⟨eN,eN,eN,eL<|eL<|.builtin "object.__setattr__"⟩
def C4{K:Frag}(h:FV K a=U5):Cls K a:=by simp only[FV,U5,CV.mk.injEq]at h;exact⟨h.1,h.2.1,h.2.2.1,h.2.2.2⟩
structure MV where
 fn:Option<|FuncData×Bool×Bool
 isf:Bool
 cv:CV
abbrev Eb(K:Frag)(y:Snd.Mt):Option MV:=match Jv K y.C with
 |some a=>match findIn K (.ref a) (gC y.m)with
  |some (eL<|.ref f)=>eL ⟨IU K f,isFn K<|.ref f,FV K a⟩
  |_=>eM
 |none=>eM
abbrev BH(y:Snd.Mt):Option MV:=eL ⟨OF (gC y.m) (gC y.qual) y.x.st,eN,U5⟩
def RD{K:Frag}{y:Snd.Mt}(e:Eb K y=BH y):∃a f fd,nsIn K mainGlobals (gC y.C)=eL (eL<|.ref a)/\Fun K (gC y.m) (gC y.qual) y.x.st f fd/\Meth K a (gC y.m) f/\Cls K a:=by
 unfold Eb at e;split at e
 .rename_i a ha;split at e
  .rename_i f hf;simp only[BH,Ĭ,MV.mk.injEq]at e;let⟨e1,e2,e3⟩:=e;let⟨fd,F⟩:=Pv e1;exact⟨a,f,fd,WW ha,F,⟨hf,e2,F.kp⟩,C4 e3⟩
  .cases e
 .cases e
structure QV where
 mks:Bool
 kp:Bool
 cv:CV
 fl:List<|Option<|Option Value
 ic:Option (Option Value)×Option (Option Value)×Option Bool×Option Bool
abbrev C8(K:Frag)(fl:List String)(C:String):Option QV:=match Jv K C with
 |some a=>eL ⟨makesIn K a,keepIn K<|.ref a,FV K a,fl.map λf=>findIn K (.ref a)<|gC f,(findIn K (.ref a) "__class__",specialIn K (.builtin "object.__class__") "__get__",takesIn K<|.builtin "object.__class__",mroIn K a<|.type "object")⟩
 |none=>eM
abbrev Di(fl:List String):Option QV:=eL ⟨eN,eN,U5,fl.map λ_=>eL eM,(eL<|eL<|.builtin "object.__class__",eL<|eL<|.builtin "getset_descriptor.__get__",eL eN,eL eN)⟩
def Hu{K:Frag}{fl:List String}(e:C8 K fl C=Di fl):∃a,nsIn K mainGlobals (gC C)=eL (eL<|.ref a)/\makesIn K a=eN/\keepIn K (.ref a)=eN/\Cls K a/\(∀f∈fl,NoAttr K a<|gC f)/\Snd.IC K a:=by
 unfold C8 at e;split at e
 .rename_i a ha;simp only[Di,Ĭ,QV.mk.injEq,Δ]at e;let⟨e1,e2,e3,e4,e5,e6,e7,e8⟩:=e;exact⟨a,WW ha,e1,e2,C4 e3,λf hf=>Ģ.mp e4 f hf,⟨e5,e6,e7,e8⟩⟩
 .cases e
structure XV where
 ex:Bool
 f1:Option<|Option Value
 f2:Option<|Option Value
 f3:Option<|Option Value
 m1:Option Bool
 m2:Option Bool
 ci:Bool
 ve:Option Bool
 ks:List<|Option<|Option Bool×Option Bool
abbrev El(K:Frag)(xs:List String)(C:String):Option XV:=match Jv K C with
 |some a=>eL ⟨excIn K a [.type "ValueError",.type "Exception",.type "BaseException",.type "object"] "ValueError.__new__",findIn K (.ref a) "__getattribute__",findIn K (.ref a) "__getattr__",findIn K (.ref a) "__class__",mroIn K a<|.type "object",mroIn K a<|.type "BaseException",(clsIn K a).isSome,kitOne K (.ref a)<|.type "ValueError",("ShutError" :: xs).map λT=>(Jv K T).map λD=>(kitOne K (.ref a)<|.ref D,exmOne K (.ref a)<|.ref D)⟩
 |none=>eM
abbrev Eh(xs:List String)(C:String):Option XV:=eL ⟨eN,eL<|eL<|.builtin "BaseException.__getattribute__",eL eM,eL<|eL<|.builtin "object.__class__",eL eN,eL eN,eN,eL eN,("ShutError" :: xs).map λT=>eL (eL<|O.fX C T,eL<|O.fX C T)⟩
def C9{K:Frag}{xs:List String}(e:El K xs C=Eh xs C):∃a,nsIn K mainGlobals (gC C)=eL (eL<|.ref a)/\excIn K a [.type "ValueError",.type "Exception",.type "BaseException",.type "object"] "ValueError.__new__" = eN/\XCls K a/\kitOne K (.ref a) (.type "ValueError")=eL eN/\
  ∀T∈"ShutError" :: xs,∃D,nsIn K mainGlobals (gC T)=eL (eL<|.ref D)/\kitOne K (.ref a) (.ref D)=eL (O.fX C T)/\exmOne K (.ref a) (.ref D)=eL (O.fX C T):=by
 unfold El at e;split at e
 .rename_i a ha;simp only[Eh,Ĭ,XV.mk.injEq]at e;let⟨e1,e2,e3,e4,e5,e6,e7,e8,e9⟩:=e;refine⟨a,WW ha,e1,⟨e2,e3,e4,e5,e6,e7⟩,e8,λT hT=>?_⟩;have:=Ģ.mp e9 T hT;cases z:Jv K T with
  |none=>rw[z]at this;cases this
  |some D =>rw[z]at this;simp only[œ,Ĭ,Δ]at this;exact⟨D,WW z,this.1,this.2⟩
 .cases e
structure View where
 fs:List<|Option<|FuncData×Bool×Bool
 ms:List<|Option MV
 cl:List<|Option QV
 xs:List<|Option XV
 ok:Bool
abbrev view(T:Snd.Tb)(K:Frag):View:=⟨T.fs.map λp=>Cg K<|gC p.1,T.ms.map<|Eb K,T.cl.map<|C8 K T.fl,T.xs.map<|El K T.xs,T.cs.all (Dx K)&&Snd.blts.all (Hj K)⟩
abbrev due(T:Snd.Tb):View:=⟨T.fs.map λp=>DF (gC p.1) p.2.st,T.ms.map BH,T.cl.map λ_=>Di T.fl,T.xs.map<|Eh T.xs,eN⟩
abbrev hook(T:Snd.Tb):Hook where
 α:=View
 obs:=λs=>view T<|ZA s.heap
 val:=λ_=>due T
 says:=λ_ h=>∃g:Heap,view T (ZA g)=due T/\∀b o,g.get? b=eL o->h.get? b=eL o
 of:=λ_ s e=>⟨s.heap,e,λ_ _ x=>x⟩
 keeps:=λ_ _ _ ⟨g,e,k⟩ k2=>⟨g,e,λb o x=>k2 b o<|k b o x⟩
abbrev Bd(nm qual:Str)(x:Snd.Ds):Prop:=∀(kV doc pm:Value) (an:Option Addr) (ϧ ct:Value) (us:List Value),us.length=x.ps.length->bindArgs (fnOf nm qual (YN x.st) (ZP x.st) (Zu x.st) .none kV doc pm an ϧ ct) ⟨us,[]⟩=pure (x.ps.zip us)
abbrev Fe(T:Snd.Tb):Bool:=T.cl.all λC=>T.ms.any λy=>y.C==C&&y.m == "__init__"
def law_walk{l:OpenLaw}{q:Program}{loose:List Str}{XP:(Str->Option Value)->Heap->Prop}{d:DefRec}{T:Snd.Tb}{pg:O.Pg}{k:Nat}{xl:Snd.Ds}
  (hn:l.most=eL 63) (hdf:d.params.defaults=[]) (hdn:d.name=gC "law") (hr:fy (2*(k+1)) callerA) (hlaw:("law",xl)∈T.fs) (hps:xl.ps=[gC "script"]) (hin:Fe T=eN)
  (tab_pg:∀f x,(f,x)∈T.fs->pg f=eL x.d) (tab_pm:∀y,y∈T.ms->pg (y.C ++ "." ++ y.m)=eL y.x.d) (tab_ok:∀f x,(f,x)∈T.fs->x.Ok T) (tab_om:∀y,y∈T.ms->y.x.Ok T)
  (tab_bd:∀f x,(f,x)∈T.fs->Bd (gC f) (gC f) x) (tab_bm:∀y,y∈T.ms->Bd (gC y.m) (gC y.qual) y.x)
  (ok:∀ns:List Int,ns.length<=63->O.wF pg (k+1) "law" [.scr ns] (λ_=>eM) (λv _=>v=.bl eN) λ_ _=>False) :
  WalkO q loose XP (hook T).says l.row.toRowW d [] (λf vs=>PySem.call f vs):=by
 refine FC (n:=63) (k:=2*(k+1)) (x:=gC "script") (CX:=λw=>CX1 l.prog w) hn (by decide) hdf hr (λw mg fa h Y G hmg=>?_) λ_ _ _ _ _ ⟨_,_,_,_,_,z⟩=>z;let⟨g,e,keep⟩:=Y;have X:(ZA g).In h:=λa o z=>keep a o<|OE z;simp only[view,due,View.mk.injEq]at e;let⟨e1,e3,e4,e5,e2⟩:=e;rw[bAq,ā,ā]at e2
 let i:Snd.Inf:=⟨ZA g,λC a=>T.cl.contains C=eN/\mg (gC C)=eL (.ref a),λC=>T.cl.contains C,λC a=>T.xs.contains C=eN/\mg (gC C)=eL (.ref a)⟩
 have hF:∀f x,(f,x)∈T.fs->∃fa fd,Fun (ZA g) (gC f) (gC f) x.st fa fd/\mg (gC f)=eL (.ref fa):=λf x hx=>by let⟨fa,fd,F,z⟩:=HZ<|Ģ.mp e1 (f,x) hx;exact⟨fa,fd,F,mg_of X G z⟩
 have aM:∀C a,i.cl C a->makesIn (ZA g) a=eN/\keepIn (ZA g) (.ref a)=eN/\Cls (ZA g) a/\(∀f∈T.fl,NoAttr (ZA g) a<|gC f)/\Snd.IC (ZA g) a:=λC a ⟨hc,hm⟩=>by let⟨b,z,q⟩:=Hu<|Ģ.mp e4 C<|Ć.mp hc;have:=mg_of X G z;rw[hm]at this;cases this;exact q
 have hms:∀y,y∈T.ms->∃a f,Snd.Mst i mg y a f/\Cls i.K a:=λy hy=>by let⟨a,f,fd,z,F,M,A⟩:=RD<|Ģ.mp e3 y hy;exact⟨a,f,⟨mg_of X G z,⟨fd,F,F.binds<|tab_bm y hy⟩,M⟩,A⟩
 have hxc:∀C a,i.xc C a->excIn (ZA g) a [.type "ValueError",.type "Exception",.type "BaseException",.type "object"] "ValueError.__new__" = eN/\XCls (ZA g) a/\kitOne (ZA g) (.ref a) (.type "ValueError")=eL eN/\
   ∀T'∈"ShutError" :: T.xs,∃D,nsIn (ZA g) mainGlobals (gC T')=eL (eL<|.ref D)/\kitOne (ZA g) (.ref a) (.ref D)=eL (O.fX C T')/\exmOne (ZA g) (.ref a) (.ref D)=eL (O.fX C T'):=λC a ⟨hc,hm⟩=>by
  let⟨b,z,q⟩:=C9<|Ģ.mp e5 C<|Ć.mp hc;have:=mg_of X G z;rw[hm]at this;cases this;exact q
 have mod:∀base:Heap,(ZA g).In base->Snd.Modu mg base i T:=λbase Xb =>
  { bl:=λy hy=>by
      have:=e2.2 y hy
      unfold Hj at this
      split at this
      . rename_i z;exact mg_none_of X G z
      . cases this
    cst:=λy v hv=>by
      have:=e2.1 _<|JL hv
      unfold Dx at this
      split at this
      . rename_i u z
        let⟨x,r,rv⟩:=DR 4 u v this
        exact⟨u,x,mg_of X G z,r,rv⟩
      . cases this
    A:=⟨λC a _ z=>(aM C a z).2.2.1,λC a z=>(aM C a z).2.2.2.2,λC a b z y=>by have:=z.2.symm.trans y.2;cases this;rfl⟩
    F:=λf hf=>⟨λC a z=>(aM C a z).2.2.2.1 f<|Ć.mp hf⟩
    cl:=λC a z=>z.2
    mkc:=λC hC=>by
      let⟨a,z,_⟩:=Hu<|Ģ.mp e4 C<|Ć.mp hC
      have hi:i.cl C a:=⟨hC,mg_of X G z⟩
      let⟨y,hy,e⟩:=ax.mp<|ā.mp hin C<|Ć.mp hC
      rw[bAq]at e
      let⟨b,f,S,A⟩:=hms y hy
      have h1:=eq_of_beq e.1
      have h2:=eq_of_beq e.2
      have hb:=S.cl
      rw[h1,hi.2]at hb
      cases hb
      refine⟨a,y,f,hC,hi,⟨(aM C a hi).1,?_,S.at_.fn,(aM C a hi).2.1⟩,hy,h1,h2,S⟩
      have:=S.at_.at_
      rw[h2]at this
      exact this
    fs:=λf x hx=>by
      let⟨fa,fd,F,m⟩:=hF f x hx
      exact⟨fa,fd,_,F,m,F.binds<|tab_bd f x hx⟩
    ms:=hms
    xc:=λ_ C a z=>⟨(hxc C a z).2.1,(hxc C a z).2.2.1⟩
    rs:=λ_ C hC=>by
      let⟨a,z,q1,_⟩:=C9<|Ģ.mp e5 C<|Ć.mp hC
      exact⟨a,⟨hC,mg_of X G z⟩,L6 Xb (mg_of X G z) q1⟩
    kn:=λž T' hT=>by
      have hT2:T'∈"ShutError" :: T.xs:=by
        rcases (Bool.or_eq_true ..).mp hT with z|z
        . exact .tail _<|Ć.mp z
        . cases eq_of_beq z;exact .head _
      let⟨C0,hC0⟩:=List.exists_mem_of_ne_nil _ ž
      let⟨a0,z0,_,_,_,q0⟩:=C9<|Ģ.mp e5 C0 hC0
      let⟨D,zD,_⟩:=q0 T' hT2
      refine⟨D,mg_of X G zD,λC a z=>?_⟩
      let⟨D2,z2,k1,k2⟩:=(hxc C a z).2.2.2 T' hT2
      rw[zD]at z2
      cases z2
      exact⟨k1,λe=>by rw[k2,e]⟩ }
 let⟨fl,fd,F,m⟩:=hF "law" xl hlaw;have ef:=hmg.symm.trans<|hdn▸m;cases ef;refine⟨ZA g,Snd.spF i pg (k+1) "law",X,⟨fd,λs u=>?_,λbase Xb _=>?_⟩,λH a ns hl hO hS=>?_⟩
 .have B:=F.ex;let⟨oc,od,kV,dc,pm,an,ϧ,ct,sl,rfl,lk,bf⟩:=B;have:=tab_bd "law" xl hlaw kV dc pm an ϧ ct [u] (by rw[hps];rfl);rw[hps]at this;exact .of_eq this
 .have M:=mod base Xb;have:=Snd.fn_succ (i:=i) (pr:=l.prog) (wd:=w) (base:=base) (mg:=mg) (P:=pg) (n:=k) M (Snd.held_all M tab_pg tab_pm tab_ok tab_om k) F (tab_pg "law" xl hlaw)<|tab_ok "law" xl hlaw;rw[hps]at this;exact this
 .refine⟨[.scr ns],λ_=>eM,λv _=>v=.bl eN,λ_ _=>False,.cons (.scr ?_) .nil,λ_ _ e=>(by cases e),ok ns hl,?_,?_⟩
  .rcases hS with(h|⟨o,h⟩)|h
   .rcases hO a with z|⟨o,xs,z⟩
    .rw[h]at z;cases z
    .rw[h]at z;cases z
   .exact .inl ⟨o,h⟩
   .exact .inr h
  .intro v G' H' x _ _ r e;subst e;exact r.bl_inv
  .rintro cls d H' ⟨_,_,_,_,_,_,_,z⟩;exact z
end Hd
set_option maxRecDepth 20000
set_option maxHeartbeats 2000000
namespace O
local macro_rules|`(#[$x])=>`(.cons $x .nil)|`(#[$x,$y,*])=>`(.cons $x #[$y,*])
@[reducible] noncomputable def B0(P:Pg)(n:Nat)(d:Fn)(e:Env)(h:Hs)(Q:Q1)(X:XQ):Prop:=wSs (wF P n) d.body e h (λ_ g=>Q .non g) Q (λ_ _=>False) (λ_ _=>False) λ_ c g=>X c g
variable {P:Pg}{n:Nat}{a0 a1 a2 a3 a4 a5 a6 a7:Val}{h:Hs}{Q:Q1}{X:XQ}
local macro_rules|`(↑$n:num)=>`(.cst (.int $n))
local macro_rules|`(⇑$n:num)=>`(.var $n)
instance To:Fn:={ar:=1,sz:=1,body:=#[.ret<|.and (.bi (.isi ["int"]) #[⇑0])<|.not<|.bi (.isi ["bool"]) #[⇑0]]}
instance Tu:Fn:={ar:=3,sz:=3,body:=#[.ret<|.and (.call "is_whole" #[⇑0])<|.chain .le .le ⇑1 ⇑0 ⇑2]}
instance T0:Fn:={ar:=2,sz:=2,body:=#[.ite (.or (.not<|.val<|.bi (.isi ["list"]) #[⇑0])<|.not<|.val<|.bi (.isi ["list"]) #[⇑1]) #[.never] .nil,.ite (.not<|.val<|.chain .le .le ↑1 (.bi .len #[⇑0])<|.glob "MOST_BRIDGES"<|.int 10) #[.never] .nil,.ite (.val<|.cmp .gt (.bi .len #[⇑1])<|.glob "MOST_TIES"<|.int 16) #[.never] .nil,.ite (.not<|.val<|.call "are_bridges" #[⇑0]) #[.never] .nil,.ite (.not<|.val<|.bi .all #[.comp [0] 1 (.one 0) (.seq ⇑1) .yes<|.call "is_tie" #[⇑0,⇑1]]) #[.never] .nil,.ret<|.tup #[.bi .tuple #[.bi .sortedI #[⇑0]],.bi .tuple #[.comp [] 1 (.one 0) (.seq ⇑1) .yes<|.call "lesser_end_first" #[⇑0]]]]}
instance Tx:Fn:={ar:=1,sz:=1,body:=#[.ite (.not<|.val<|.bi .all #[.comp [] 1 (.one 0) (.seq ⇑0) .yes<|.call "is_whole_between" #[⇑0,↑0,.glob "GREATEST_NUMBER"<|.int 999]]) #[.ret<|.cst<|.bl eP] .nil,.ret<|.cmp .eq (.bi .lenSet #[⇑0])<|.bi .len #[⇑0]]}
instance Tn:Fn:={ar:=2,sz:=2,body:=#[.ite (.or (.not<|.val<|.bi (.isi ["tuple"]) #[⇑0])<|.val<|.cmp .ne (.bi .len #[⇑0]) ↑3) #[.ret<|.cst<|.bl eP] .nil,.ite (.or (.not<|.val<|.call "is_whole" #[.idx ⇑0 ↑0])<|.not<|.val<|.call "is_whole" #[.idx ⇑0 ↑1]) #[.ret<|.cst<|.bl eP] .nil,.ite (.or (.val<|.cmp .notin (.idx ⇑0 ↑0) ⇑1)<|.val<|.cmp .notin (.idx ⇑0 ↑1) ⇑1) #[.ret<|.cst<|.bl eP] .nil,.ret<|.and (.cmp .ne (.idx ⇑0 ↑0)<|.idx ⇑0 ↑1)<|.call "is_whole_between" #[.idx ⇑0 ↑2,↑1,.glob "GREATEST_COST"<|.int 1000]]}
instance Tv:Fn:={ar:=1,sz:=1,body:=#[.ret<|.tup #[.bi .min2 #[.idx ⇑0 ↑0,.idx ⇑0 ↑1],.bi .max2 #[.idx ⇑0 ↑0,.idx ⇑0 ↑1],.idx ⇑0 ↑2]]}
instance T1:Fn:={ar:=2,sz:=5,body:=#[.set (.one 2)<|.lst .nil,.for (.many [3,4]) (.enum<|.idx ⇑0 ↑1) #[.ite (.val<|.cmp .isin ⇑1<|.slc ⇑4 .none<|.some ↑2) #[.expr<|.bm .append ⇑2 #[.tup #[⇑3,.call "far_end" #[⇑4,⇑1],.idx ⇑4 ↑2]]] .nil],.ret ⇑2]}
instance Tk:Fn:={ar:=2,sz:=2,body:=#[.ret<|.ife (.val<|.cmp .eq (.idx ⇑0 ↑0) ⇑1) (.idx ⇑0 ↑1)<|.idx ⇑0 ↑0]}
instance T4:Fn:={ar:=1,sz:=5,body:=#[.set (.one 1)<|.lst .nil,.for (.many [2,3]) (.enum<|.idx (.meth "Yard" "net" ⇑0 .nil) ↑1) #[.set (.one 4)<|.meth "Yard" "ends" ⇑0 #[⇑2],.ite (.val<|.cmp .eq ⇑4<|.tup #[.cst<|.str "child",.cst<|.str "parent"]) #[.expr<|.bm .append ⇑1 #[.tup #[⇑2,.idx ⇑3 ↑0,.idx ⇑3 ↑1]]] #[.ite (.val<|.cmp .eq ⇑4<|.tup #[.cst<|.str "parent",.cst<|.str "child"]) #[.expr<|.bm .append ⇑1 #[.tup #[⇑2,.idx ⇑3 ↑1,.idx ⇑3 ↑0]]] .nil]],.ret ⇑1]}
instance Tj:Fn:={ar:=2,sz:=5,body:=#[.ite (.not<|.val<|.call "is_standing" #[⇑0,⇑1]) #[.never] .nil,.set (.one 2)<|.call "open_ways" #[⇑0],.set (.one 3)<|.lst #[.tup #[⇑1,.cst .non]],.set (.one 4) ↑0,.whl (.val<|.cmp .lt ⇑4<|.bi .len #[⇑3]) #[.expr<|.bm .extend ⇑3 #[.call "sent_on" #[⇑2,.idx ⇑3 ⇑4]],.augVar 4 .add ↑1],.ret ⇑3]}
instance Tm:Fn:={ar:=2,sz:=2,body:=#[.ret<|.and (.call "is_whole" #[⇑1])<|.cmp .isnot (.meth "Yard" "bridge" ⇑0 #[⇑1])<|.cst .non]}
instance T7:Fn:={ar:=2,sz:=8,body:=#[.set (.many [2,3]) ⇑1,.set (.one 4)<|.lst .nil,.for (.many [5,6,7]) (.seq ⇑0) #[.ite (.and (.val<|.cmp .ne ⇑5 ⇑3)<|.val<|.cmp .isin ⇑2<|.tup #[⇑6,⇑7]) #[.expr<|.bm .append ⇑4 #[.tup #[.ife (.val<|.cmp .eq ⇑2 ⇑6) ⇑7 ⇑6,⇑5]]] .nil],.ret ⇑4]}
instance T5:Fn:={ar:=2,sz:=2,body:=#[.ret<|.bi .sortedI #[.comp [] 2 (.many [0,1]) (.seq<|.call "carried" #[⇑0,⇑1]) .yes ⇑0]]}
instance T3:Fn:={ar:=2,sz:=2,body:=#[.ret<|.cmp .gt (.idx ⇑0<|.glob "NUMBER"<|.int 0)<|.idx ⇑1<|.glob "NUMBER"<|.int 0]}
instance Tw:Fn:={ar:=2,sz:=3,body:=#[.set (.one 2)<|.comp [0] 1 (.one 0) (.seq ⇑1) (.val<|.cmp .lt (.idx ⇑0 ↑0) ⇑1) ⇑0,.ret<|.bi .minD #[⇑2]]}
instance SU:Fn:={ar:=5,sz:=8,body:=#[.setFld ⇑0 "number" ⇑1,.setFld ⇑0 "life" ⇑2,.setFld ⇑0 "age_let_go" ⇑4,.setFld ⇑0 "ties_by_place"<|.dct .nil,.for (.many [5,6,7]) (.seq ⇑3) #[.setIdx (.fld ⇑0 "ties_by_place") ⇑5<|.tup #[⇑6,⇑7]],.setFld ⇑0 "held_by_place"<|.dct .nil,.setFld ⇑0 "label_now"<|.tup #[⇑1,↑0,.cst .non,.cst .non],.setFld ⇑0 "version" ↑0,.setFld ⇑0 "ticks_had" ↑0]}
instance S1:Fn:={ar:=1,sz:=1,body:=#[.ret<|.fld ⇑0 "label_now"]}
instance S5:Fn:={ar:=1,sz:=1,body:=#[.ret<|.tup #[.fld ⇑0 "life",.fld ⇑0 "version"]]}
instance SW:Fn:={ar:=2,sz:=2,body:=#[.ret<|.bm .dget (.fld ⇑0 "held_by_place") #[⇑1]]}
instance S8:Fn:={ar:=4,sz:=4,body:=#[.ite (.val<|.cmp .notin ⇑1<|.fld ⇑0 "ties_by_place") #[.setIdx (.fld ⇑0 "ties_by_place") ⇑1<|.tup #[⇑2,⇑3]] .nil]}
instance SZ:Fn:={ar:=2,sz:=2,body:=#[.expr<|.bm .dpopD (.fld ⇑0 "ties_by_place") #[⇑1,.cst .non],.expr<|.bm .dpopD (.fld ⇑0 "held_by_place") #[⇑1,.cst .non]]}
instance SX:Fn:={ar:=3,sz:=4,body:=#[.ite (.val<|.cmp .notin ⇑1<|.fld ⇑0 "ties_by_place") #[.retN] .nil,.set (.one 3)<|.meth "Bridge" "held" ⇑0 #[⇑1],.ite (.or (.val<|.cmp .is ⇑3<|.cst .non)<|.val<|.call "newer" #[⇑2,.idx ⇑3 ↑0]) #[.setIdx (.fld ⇑0 "held_by_place") ⇑1<|.tup #[⇑2,.idx ⇑2<|.glob "AGE"<|.int 4]] .nil]}
instance S7:Fn:={ar:=1,sz:=2,body:=#[.expr<|.meth "Bridge" "let_grow_older" ⇑0 .nil,.expr<|.meth "Bridge" "take_label" ⇑0 #[.meth "Bridge" "reckon_label" ⇑0 .nil],.set (.one 1)<|.comp [0] 1 (.one 0) (.seq<|.bi .sortedI #[.fld ⇑0 "ties_by_place"]) .yes<|.tup #[⇑0,.meth "Bridge" "letter_over" ⇑1 #[⇑0]],.augFld ⇑0 "ticks_had" .add 1,.ret ⇑1]}
instance S2:Fn:={ar:=1,sz:=4,body:=#[.set (.one 1)<|.dct .nil,.forI eP (.many [2,3]) (.fld ⇑0 "held_by_place") #[.ite (.val<|.cmp .lt (.bin .add (.idx ⇑3 ↑1) ↑1)<|.fld ⇑0 "age_let_go") #[.setIdx ⇑1 ⇑2<|.tup #[.idx ⇑3 ↑0,.bin .add (.idx ⇑3 ↑1) ↑1]] .nil],.setFld ⇑0 "held_by_place" ⇑1]}
instance S4:Fn:={ar:=1,sz:=8,body:=#[.set (.one 1)<|.lst .nil,.forI eP (.many [2,3]) (.fld ⇑0 "held_by_place") #[.set (.many [4,5])<|.idx (.fld ⇑0 "ties_by_place") ⇑2,.expr<|.bm .append ⇑1 #[.tup #[.idx (.idx ⇑3 ↑0)<|.glob "ROOT"<|.int 2,.bin .add (.idx (.idx ⇑3 ↑0)<|.glob "COST"<|.int 3) ⇑5,⇑4,⇑2]]],.set (.one 6)<|.call "best_offer" #[.fld ⇑0 "number",⇑1],.ite (.val<|.cmp .is ⇑6<|.cst .non) #[.ret<|.tup #[.fld ⇑0 "number",↑0,.cst .non,.cst .non]] .nil,.set (.many [7,5,4,2]) ⇑6,.ret<|.tup #[⇑7,⇑5,⇑2,.idx (.idx (.idx (.fld ⇑0 "held_by_place") ⇑2) ↑0)<|.glob "STAMP"<|.int 1]]}
instance S6:Fn:={ar:=2,sz:=2,body:=#[.ite (.val<|.cmp .ne ⇑1<|.fld ⇑0 "label_now") #[.setFld ⇑0 "label_now" ⇑1,.augFld ⇑0 "version" .add 1] .nil]}
instance S3:Fn:={ar:=2,sz:=8,body:=#[.set (.many [2,3,4,5])<|.fld ⇑0 "label_now",.set (.one 6)<|.ife (.val<|.cmp .is ⇑4<|.cst .non) ↑0<|.bin .add (.idx (.idx (.fld ⇑0 "held_by_place") ⇑4) ↑1) ↑1,.set (.one 7)<|.tup #[.tup #[.fld ⇑0 "life",.fld ⇑0 "ticks_had"],.meth "Bridge" "stamp" ⇑0 .nil,⇑2,⇑3,⇑6],.ite (.val<|.cmp .eq ⇑1 ⇑4) #[.ret<|.bin .add ⇑7<|.tup #[⇑5,.cst .non]] .nil,.ite (.val<|.meth "Bridge" "is_rested_on" ⇑0 #[⇑1]) #[.ret<|.bin .add ⇑7<|.tup #[.cst .non,.idx (.idx (.idx (.fld ⇑0 "held_by_place") ⇑1) ↑0)<|.glob "STAMP"<|.int 1]] .nil,.ret<|.bin .add ⇑7<|.tup #[.cst .non,.cst .non]]}
instance S0:Fn:={ar:=2,sz:=3,body:=#[.set (.one 2)<|.meth "Bridge" "held" ⇑0 #[⇑1],.ret<|.and (.cmp .isnot ⇑2<|.cst .non)<|.cmp .eq (.idx (.idx ⇑2 ↑0)<|.glob "RESTS"<|.int 5)<|.meth "Bridge" "stamp" ⇑0 .nil]}
instance SV:Fn:={ar:=2,sz:=3,body:=#[.set (.one 2)<|.meth "Bridge" "held" ⇑0 #[⇑1],.ite (.or (.val<|.cmp .is ⇑2<|.cst .non)<|.val<|.cmp .ne (.idx (.idx ⇑2 ↑0)<|.glob "AGREES"<|.int 6)<|.meth "Bridge" "stamp" ⇑0 .nil) #[.ret<|.cst<|.bl eP] .nil,.ret<|.cmp .eq (.idx (.idx ⇑2 ↑0)<|.glob "STAMP"<|.int 1)<|.idx (.fld ⇑0 "label_now") ↑3]}
instance SY:Fn:={ar:=2,sz:=2,body:=#[.ite (.val<|.cmp .notin ⇑1<|.fld ⇑0 "ties_by_place") #[.ret<|.cst<|.str "down"] .nil,.ite (.val<|.cmp .eq ⇑1<|.idx (.fld ⇑0 "label_now") ↑2) #[.ret<|.ife (.val<|.meth "Bridge" "is_agreed_to" ⇑0 #[⇑1]) (.cst<|.str "child")<|.cst<|.str "shut"] .nil,.ret<|.ife (.val<|.meth "Bridge" "is_rested_on" ⇑0 #[⇑1]) (.cst<|.str "parent")<|.cst<|.str "shut"]}
instance TF:Fn:={ar:=3,sz:=4,body:=#[.setFld ⇑0 "net_made_of" ⇑1,.setFld ⇑0 "greatest_age" ⇑2,.setFld ⇑0 "lives"<|.dct .nil,.setFld ⇑0 "standing"<|.dct .nil,.setFld ⇑0 "ties_fallen"<|.dct .nil,.setFld ⇑0 "letters_on_road"<|.lst .nil,.for (.one 3) (.seq<|.idx ⇑1 ↑0) #[.setIdx (.fld ⇑0 "lives") ⇑3 ↑0,.setIdx (.fld ⇑0 "standing") ⇑3<|.make "Bridge" #[⇑3,↑0,.call "neighbours" #[⇑1,⇑3],⇑2]]]}
instance TH:Fn:={ar:=1,sz:=1,body:=#[.ret<|.fld ⇑0 "net_made_of"]}
instance TC:Fn:={ar:=1,sz:=1,body:=#[.ret<|.fld ⇑0 "greatest_age"]}
instance TL:Fn:={ar:=1,sz:=1,body:=#[.ret<|.bi .list #[.fld ⇑0 "letters_on_road"]]}
instance TK:Fn:={ar:=1,sz:=2,body:=#[.set (.one 1)<|.comp [0] 1 (.one 0) (.seq<|.idx (.fld ⇑0 "net_made_of") ↑0) (.val<|.cmp .notin ⇑0<|.fld ⇑1 "standing") ⇑0,.ret<|.tup #[.bi .tuple #[⇑1],.bi .tuple #[.bi .sortedI #[.fld ⇑0 "ties_fallen"]]]]}
instance TY:Fn:={ar:=2,sz:=2,body:=#[.ret<|.bm .dget (.fld ⇑0 "standing") #[⇑1]]}
instance TN:Fn:={ar:=2,sz:=5,body:=#[.ite (.not<|.val<|.meth "Yard" "has_tie" ⇑0 #[⇑1]) #[.ret<|.tup #[.cst<|.str "down",.cst<|.str "down"]] .nil,.set (.many [2,3,4])<|.idx (.idx (.fld ⇑0 "net_made_of") ↑1) ⇑1,.ret<|.tup #[.meth "Yard" "end_at" ⇑0 #[⇑2,⇑1],.meth "Yard" "end_at" ⇑0 #[⇑3,⇑1]]]}
instance TM:Fn:={ar:=3,sz:=3,body:=#[.ite (.val<|.cmp .notin ⇑1<|.fld ⇑0 "standing") #[.ret<|.cst<|.str "down"] .nil,.ret<|.meth "Bridge" "end" (.idx (.fld ⇑0 "standing") ⇑1) #[⇑2]]}
instance TD:Fn:={ar:=2,sz:=2,body:=#[.ret<|.chain .le .lt ↑0 ⇑1<|.bi .len #[.idx (.fld ⇑0 "net_made_of") ↑1]]}
instance TW:Fn:={ar:=2,sz:=4,body:=#[.set (.many [2,3])<|.call "read_deed" #[⇑1],.ite (.val<|.cmp .eq ⇑2<|.tup #[.cst<|.str "tick"]) #[.expr<|.meth "Yard" "tick_of" ⇑0 #[⇑3]] #[.ite (.val<|.cmp .eq ⇑2<|.tup #[.cst<|.str "come"]) #[.expr<|.meth "Yard" "come" ⇑0 #[⇑3]] #[.ite (.val<|.cmp .eq ⇑2<|.tup #[.cst<|.str "lost"]) #[.expr<|.meth "Yard" "take_off" ⇑0 #[⇑3]] #[.ite (.val<|.cmp .eq ⇑2<|.tup #[.cst<|.str "fall",.cst<|.str "bridge"]) #[.expr<|.meth "Yard" "fall_of_bridge" ⇑0 #[⇑3]] #[.ite (.val<|.cmp .eq ⇑2<|.tup #[.cst<|.str "fall",.cst<|.str "tie"]) #[.expr<|.meth "Yard" "fall_of_tie" ⇑0 #[⇑3]] #[.ite (.val<|.cmp .eq ⇑2<|.tup #[.cst<|.str "back",.cst<|.str "bridge"]) #[.expr<|.meth "Yard" "back_of_bridge" ⇑0 #[⇑3]] #[.expr<|.meth "Yard" "back_of_tie" ⇑0 #[⇑3]]]]]]]]}
instance Tz:Fn:={ar:=2,sz:=5,body:=#[.ite (.val<|.cmp .notin ⇑1<|.fld ⇑0 "standing") #[.never] .nil,.for (.many [2,3]) (.seq<|.meth "Bridge" "tick" (.idx (.fld ⇑0 "standing") ⇑1) .nil) #[.set (.one 4)<|.call "far_end" #[.idx (.idx (.fld ⇑0 "net_made_of") ↑1) ⇑2,⇑1],.expr<|.bm .append (.fld ⇑0 "letters_on_road") #[.tup #[⇑1,⇑4,⇑2,⇑3]]]]}
instance TX:Fn:={ar:=2,sz:=6,body:=#[.set (.many [2,3,4,5])<|.meth "Yard" "take_off" ⇑0 #[⇑1],.ite (.val<|.cmp .isin ⇑3<|.fld ⇑0 "standing") #[.expr<|.meth "Bridge" "hear" (.idx (.fld ⇑0 "standing") ⇑3) #[⇑4,⇑5]] .nil]}
instance TV:Fn:={ar:=2,sz:=2,body:=#[.ite (.not<|.val<|.chain .le .lt ↑0 ⇑1<|.bi .len #[.fld ⇑0 "letters_on_road"]) #[.never] .nil,.ret<|.bm .popAt (.fld ⇑0 "letters_on_road") #[⇑1]]}
instance TU:Fn:={ar:=2,sz:=2,body:=#[.ite (.val<|.cmp .notin ⇑1<|.fld ⇑0 "standing") #[.never] .nil,.expr<|.bm .dpop (.fld ⇑0 "standing") #[⇑1],.expr<|.meth "Yard" "set_ties_of" ⇑0 #[⇑1]]}
instance TB:Fn:={ar:=2,sz:=2,body:=#[.ite (.or (.not<|.val<|.meth "Yard" "has_tie" ⇑0 #[⇑1])<|.val<|.cmp .isin ⇑1<|.fld ⇑0 "ties_fallen") #[.never] .nil,.setIdx (.fld ⇑0 "ties_fallen") ⇑1<|.cst<|.bl eN,.expr<|.meth "Yard" "set_tie" ⇑0 #[⇑1]]}
instance S9:Fn:={ar:=2,sz:=2,body:=#[.ite (.or (.val<|.cmp .notin ⇑1<|.fld ⇑0 "lives")<|.val<|.cmp .isin ⇑1<|.fld ⇑0 "standing") #[.never] .nil,.augIdx (.fld ⇑0 "lives") ⇑1 .add 1,.setIdx (.fld ⇑0 "standing") ⇑1<|.make "Bridge" #[⇑1,.idx (.fld ⇑0 "lives") ⇑1,.lst .nil,.fld ⇑0 "greatest_age"],.expr<|.meth "Yard" "set_ties_of" ⇑0 #[⇑1]]}
instance TZ:Fn:={ar:=2,sz:=2,body:=#[.ite (.val<|.cmp .notin ⇑1<|.fld ⇑0 "ties_fallen") #[.never] .nil,.expr<|.bm .dpop (.fld ⇑0 "ties_fallen") #[⇑1],.expr<|.meth "Yard" "set_tie" ⇑0 #[⇑1]]}
instance TR:Fn:={ar:=2,sz:=5,body:=#[.for (.many [2,3,4]) (.seq<|.call "neighbours" #[.fld ⇑0 "net_made_of",⇑1]) #[.expr<|.meth "Yard" "set_tie" ⇑0 #[⇑2]]]}
instance TQ:Fn:={ar:=2,sz:=8,body:=#[.set (.many [2,3,4])<|.idx (.idx (.fld ⇑0 "net_made_of") ↑1) ⇑1,.set (.one 5)<|.and (.cmp .notin ⇑1<|.fld ⇑0 "ties_fallen")<|.and (.cmp .isin ⇑2<|.fld ⇑0 "standing")<|.cmp .isin ⇑3<|.fld ⇑0 "standing",.for (.many [6,7]) (.seq<|.tup #[.tup #[⇑2,⇑3],.tup #[⇑3,⇑2]]) #[.ite (.val ⇑5) #[.expr<|.meth "Bridge" "up" (.idx (.fld ⇑0 "standing") ⇑6) #[⇑1,⇑7,⇑4]] #[.ite (.val<|.cmp .isin ⇑6<|.fld ⇑0 "standing") #[.expr<|.meth "Bridge" "down" (.idx (.fld ⇑0 "standing") ⇑6) #[⇑1]] .nil]]]}
instance T6:Fn:={ar:=1,sz:=2,body:=#[.ite (.not<|.val<|.bi (.isi ["tuple"]) #[⇑0]) #[.never] .nil,.set (.one 1)<|.slc ⇑0 .none<|.some<|.neg ↑1,.ite (.or (.not<|.val<|.bi .all #[.comp [] 1 (.one 0) (.seq ⇑1) .yes<|.bi (.isi ["str"]) #[⇑0]])<|.val<|.cmp .notin ⇑1<|.glob "DEEDS"<|.tup [(.tup [(.str "tick")]),(.tup [(.str "come")]),(.tup [(.str "lost")]),(.tup [(.str "fall"),(.str "bridge")]),(.tup [(.str "fall"),(.str "tie")]),(.tup [(.str "back"),(.str "bridge")]),(.tup [(.str "back"),(.str "tie")])]) #[.never] .nil,.ite (.not<|.val<|.call "is_whole" #[.idx ⇑0<|.neg ↑1]) #[.never] .nil,.ret<|.tup #[⇑1,.idx ⇑0<|.neg ↑1]]}
instance Tc:Fn:={ar:=2,sz:=2,body:=#[.ite (.val<|.cmp .lt ⇑1<|.bi .len #[⇑0]) #[.ret<|.idx ⇑0 ⇑1] .nil,.ret ↑0]}
instance Tl:Fn:={ar:=1,sz:=1,body:=#[.ret<|.lst #[⇑0,.bin .mod ⇑0 ↑2147483587]]}
instance Tp:Fn:={ar:=2,sz:=3,body:=#[.ite (.val<|.cmp .gt (.idx ⇑0 ↑0)<|.bin .pow ↑10 ↑18) #[.set (.one 2)<|.bin .mod (.idx ⇑0 ↑0) ⇑1,.setIdx ⇑0 ↑0<|.bin .fdiv (.idx ⇑0 ↑0) ⇑1,.ret ⇑2] .nil,.setIdx ⇑0 ↑1<|.bin .mod (.bin .add (.bin .add (.bin .mul (.idx ⇑0 ↑1)<|.idx ⇑0 ↑1)<|.bin .mul ↑69621<|.idx ⇑0 ↑1) ↑12345) ↑2147483587,.ret<|.bin .mod (.bin .fdiv (.idx ⇑0 ↑1) ↑8) ⇑1]}
instance Tg:Fn:={ar:=1,sz:=9,body:=#[.set (.one 1)<|.bin .add ↑1<|.call "_law_take" #[⇑0,.idx (.lst #[↑6,↑10])<|.bi .int #[.cmp .eq (.call "_law_take" #[⇑0,↑4]) ↑0]],.set (.one 2)<|.idx (.lst #[↑1,↑3,↑10,↑90])<|.call "_law_take" #[⇑0,↑4],.set (.one 4)<|.comp [0,2] 1 (.one 0) (.range ⇑1) .yes<|.bin .fdiv (.bin .mul ⇑2<|.bin .add (.bin .mul ↑2 ⇑0)<|.call "_law_take" #[⇑1,↑2]) ↑2,.set (.one 4)<|.bi .sortedSet #[⇑4],.set (.one 5)<|.lst .nil,.for (.one 3) (.range2 ↑1<|.bi .len #[⇑4]) #[.ite (.val<|.cmp .gt (.call "_law_take" #[⇑0,↑6]) ↑0) #[.expr<|.bm .append ⇑5 #[.tup #[.idx ⇑4<|.call "_law_take" #[⇑0,⇑3],.idx ⇑4 ⇑3,.bin .add ↑1<|.call "_law_take" #[⇑0,↑3]]]] .nil],.for (.one 3) (.range<|.call "_law_take" #[⇑0,↑9]) #[.set (.one 6)<|.idx ⇑4<|.call "_law_take" #[⇑0,.bi .len #[⇑4]],.set (.one 7)<|.idx ⇑4<|.call "_law_take" #[⇑0,.bi .len #[⇑4]],.set (.one 8)<|.idx (.lst #[↑1,↑1,↑2,.bin .add ↑1<|.call "_law_take" #[⇑0,↑4],.bin .add ↑1<|.call "_law_take" #[⇑0,↑1000]])<|.call "_law_take" #[⇑0,↑5],.ite (.and (.val<|.cmp .ne ⇑6 ⇑7)<|.val<|.cmp .lt (.bi .len #[⇑5]) ↑16) #[.expr<|.bm .append ⇑5 #[.tup #[⇑6,⇑7,⇑8]]] .nil],.ret<|.call "make_net" #[⇑4,.pick ⇑5 .none .none<|.idx (.lst #[↑1,.neg ↑1])<|.call "_law_take" #[⇑0,↑2]]]}
instance Tq:Fn:={ar:=3,sz:=5,body:=#[.set (.one 3)<|.call "_law_take" #[⇑0,.bi .max2 #[↑1,.bi .len #[.idx ⇑1 ↑1]]],.set (.one 4)<|.idx (.idx ⇑1 ↑0)<|.call "_law_take" #[⇑0,.bi .len #[.idx ⇑1 ↑0]],.ite (.and (.val<|.cmp .eq (.call "_law_take" #[⇑0,↑2]) ↑0)<|.val<|.cmp .ne (.idx ⇑1 ↑1)<|.tup .nil) #[.ret<|.tup #[.idx (.lst #[.cst<|.str "fall",.cst<|.str "back"])<|.bi .int #[.cmp .isin ⇑3<|.idx ⇑2 ↑1],.cst<|.str "tie",⇑3]] .nil,.ret<|.tup #[.idx (.lst #[.cst<|.str "fall",.cst<|.str "back"])<|.bi .int #[.cmp .isin ⇑4<|.idx ⇑2 ↑0],.cst<|.str "bridge",⇑4]]}
instance Td:Fn:={ar:=3,sz:=8,body:=#[.set (.one 3)<|.bi .len #[.meth "Yard" "road" ⇑1 .nil],.set (.one 4)<|.meth "Yard" "down" ⇑1 .nil,.set (.one 5)<|.comp [4] 1 (.one 0) (.seq<|.idx ⇑2 ↑0) (.val<|.cmp .notin ⇑0<|.idx ⇑1 ↑0) ⇑0,.set (.one 6)<|.call "_law_take" #[⇑0,↑14],.ite (.or (.val<|.cmp .eq ⇑6 ↑13)<|.val<|.cmp .eqE ⇑5<|.lst .nil) #[.ret<|.call "_law_turned" #[⇑0,⇑2,⇑4]] .nil,.ite (.or (.val<|.cmp .lt ⇑6 ↑5)<|.val<|.cmp .eq ⇑3 ↑0) #[.ret<|.tup #[.cst<|.str "tick",.idx ⇑5<|.call "_law_take" #[⇑0,.bi .len #[⇑5]]]] .nil,.set (.one 7)<|.idx (.lst #[↑0,↑0,.bin .sub ⇑3 ↑1,.call "_law_take" #[⇑0,⇑3]])<|.call "_law_take" #[⇑0,↑4],.ret<|.idx (.lst #[.tup #[.cst<|.str "come",⇑7],.tup #[.cst<|.str "lost",⇑7]])<|.bi .int #[.cmp .eq ⇑6 ↑12]]}
instance Ti:Fn:={ar:=3,sz:=6,body:=#[.set (.one 3)<|.idx (.meth "Yard" "down" ⇑0 .nil) ↑0,.for (.one 4) (.seq<|.idx ⇑1 ↑0) #[.ite (.val<|.cmp .notin ⇑4 ⇑3) #[.expr<|.meth "Yard" "deed" ⇑2 #[.tup #[.cst<|.str "tick",⇑4]]] .nil],.for (.one 5) (.seq<|.meth "Yard" "road" ⇑0 .nil) #[.expr<|.meth "Yard" "deed" ⇑2 #[.tup #[.cst<|.str "come",↑0]]]]}
instance Tf:Fn:={ar:=4,sz:=5,body:=#[.ite (.val<|.cmp .eq (.call "_law_take" #[⇑0,↑3]) ↑0) #[.for (.one 4) (.range<|.bin .add ↑1<|.call "_law_take" #[⇑0,↑3]) #[.expr<|.call "_law_round" #[⇑1,⇑2,⇑3]],.retN] .nil,.for (.one 4) (.range<|.bin .add ↑1<|.call "_law_take" #[⇑0,↑4]) #[.expr<|.meth "Yard" "deed" ⇑3 #[.call "_law_drawn" #[⇑0,⇑1,⇑2]]]]}
instance Te:Fn:={ar:=1,sz:=3,body:=#[.set (.one 1)<|.call "_law_row" #[.call "_law_cell_at" #[⇑0,↑0]],.set (.one 2)<|.call "_law_net" #[⇑1],.ret<|.tup #[⇑1,⇑2,.make "Yard" #[⇑2,.bin .add ↑4<|.call "_law_take" #[⇑1,↑57]]]]}
instance Th:Fn:={ar:=2,sz:=10,body:=#[.set (.one 2)<|.dct .nil,.for (.one 3) (.seq<|.idx ⇑1 ↑0) #[.ite (.val<|.cmp .notin ⇑3<|.idx (.meth "Yard" "down" ⇑0 .nil) ↑0) #[.set (.one 4)<|.call "carried" #[⇑0,⇑3],.set (.one 5)<|.comp [] 1 (.one 0) (.seq ⇑4) .yes<|.idx ⇑0 ↑0,.ite (.or (.val<|.cmp .ne (.bi .lenSet #[⇑5])<|.bi .len #[⇑5])<|.or (.val<|.cmp .ne (.bi .sortedI #[⇑5])<|.call "part_of" #[⇑0,⇑3])<|.val<|.cmp .notin ⇑3 ⇑5) #[.ret<|.cst<|.bl eP] .nil,.setIdx ⇑2 ⇑3<|.tup #[.bi .sortedI #[⇑5],.bi .sortedI #[.comp [] 1 (.one 0) (.seq<|.slc ⇑4 (.some ↑1) .none) .yes<|.idx ⇑0 ↑1]]] .nil],.set (.one 6)<|.call "open_ways" #[⇑0],.forI eN (.one 3) ⇑2 #[.set (.many [5,7])<|.idx ⇑2 ⇑3,.ite (.or (.val<|.cmp .ne ⇑7<|.comp [5] 1 (.one 0) (.seq ⇑6) (.val<|.cmp .isin (.idx ⇑0 ↑1) ⇑1)<|.idx ⇑0 ↑0)<|.val<|.cmp .ne ⇑7<|.comp [5] 1 (.one 0) (.seq ⇑6) (.val<|.cmp .isin (.idx ⇑0 ↑2) ⇑1)<|.idx ⇑0 ↑0) #[.ret<|.cst<|.bl eP] .nil,.ite (.val<|.cmp .ne (.bi .len #[⇑7])<|.bin .sub (.bi .len #[⇑5]) ↑1) #[.ret<|.cst<|.bl eP] .nil,.for (.one 8) (.keysF ⇑2) #[.set (.one 9)<|.comp [2,8] 1 (.one 0) (.seq ⇑5) (.val<|.cmp .isin ⇑0<|.idx (.idx ⇑1 ⇑2) ↑0) ⇑0,.ite (.or (.and (.val<|.cmp .neE ⇑9<|.lst .nil)<|.val<|.cmp .ne (.idx ⇑2 ⇑8)<|.idx ⇑2 ⇑3)<|.val<|.cmp .ne (.cmp .isin ⇑8 ⇑5)<|.cmp .neE ⇑9<|.lst .nil) #[.ret<|.cst<|.bl eP] .nil]],.ret<|.cst<|.bl eN]}
instance Ta:Fn:={ar:=1,sz:=5,body:=#[.set (.many [1,2,3])<|.call "_law_made" #[⇑0],.for (.one 4) (.seq<|.slc ⇑0 (.some ↑1)<|.some ↑63) #[.expr<|.call "_law_moved" #[.call "_law_row" #[⇑4],⇑3,⇑2,⇑3],.ite (.not<|.val<|.call "_law_right" #[⇑3,⇑2]) #[.ret<|.cst<|.bl eP] .nil],.ret<|.call "_law_right" #[⇑3,⇑2]]}
class Al(P:Pg):Prop where
 c0:P "is_whole" = eL To
 c1:P "is_whole_between" = eL Tu
 c2:P "make_net" = eL T0
 c3:P "are_bridges" = eL Tx
 c4:P "is_tie" = eL Tn
 c5:P "lesser_end_first" = eL Tv
 c6:P "neighbours" = eL T1
 c7:P "far_end" = eL Tk
 c8:P "open_ways" = eL T4
 c9:P "carried" = eL Tj
 c10:P "is_standing" = eL Tm
 c11:P "sent_on" = eL T7
 c12:P "part_of" = eL T5
 c13:P "newer" = eL T3
 c14:P "best_offer" = eL Tw
 c15:P "Bridge.__init__" = eL SU
 c16:P "Bridge.label" = eL S1
 c17:P "Bridge.stamp" = eL S5
 c18:P "Bridge.held" = eL SW
 c19:P "Bridge.up" = eL S8
 c20:P "Bridge.down" = eL SZ
 c21:P "Bridge.hear" = eL SX
 c22:P "Bridge.tick" = eL S7
 c23:P "Bridge.let_grow_older" = eL S2
 c24:P "Bridge.reckon_label" = eL S4
 c25:P "Bridge.take_label" = eL S6
 c26:P "Bridge.letter_over" = eL S3
 c27:P "Bridge.is_rested_on" = eL S0
 c28:P "Bridge.is_agreed_to" = eL SV
 c29:P "Bridge.end" = eL SY
 c30:P "Yard.__init__" = eL TF
 c31:P "Yard.net" = eL TH
 c32:P "Yard.greatest" = eL TC
 c33:P "Yard.road" = eL TL
 c34:P "Yard.down" = eL TK
 c35:P "Yard.bridge" = eL TY
 c36:P "Yard.ends" = eL TN
 c37:P "Yard.end_at" = eL TM
 c38:P "Yard.has_tie" = eL TD
 c39:P "Yard.deed" = eL TW
 c40:P "Yard.tick_of" = eL Tz
 c41:P "Yard.come" = eL TX
 c42:P "Yard.take_off" = eL TV
 c43:P "Yard.fall_of_bridge" = eL TU
 c44:P "Yard.fall_of_tie" = eL TB
 c45:P "Yard.back_of_bridge" = eL S9
 c46:P "Yard.back_of_tie" = eL TZ
 c47:P "Yard.set_ties_of" = eL TR
 c48:P "Yard.set_tie" = eL TQ
 c49:P "read_deed" = eL T6
 c50:P "_law_cell_at" = eL Tc
 c51:P "_law_row" = eL Tl
 c52:P "_law_take" = eL Tp
 c53:P "_law_net" = eL Tg
 c54:P "_law_turned" = eL Tq
 c55:P "_law_drawn" = eL Td
 c56:P "_law_round" = eL Ti
 c57:P "_law_moved" = eL Tf
 c58:P "_law_made" = eL Te
 c59:P "_law_right" = eL Th
 c60:P "law" = eL Ta
set_option hygiene false in
local macro_rules|`(#check $r:ident $c:ident $d:ident $s:str $a:num $z:num)=>do
 let v:=(Array.range a.getNat).map λi=>Lean.mkIdent (.mkSimple s!"a{i}")
 let e<-(Array.range z.getNat).mapM λi=>if i<a.getNat then `(eL $(v[i]!))else`(eM)
 `(theorem $r [Al P](q:B0 P n $d [$e,*] h Q X):wF P (n+1) $s [$v,*] h Q X:=Zb $c rfl q)
#check XJ Al.c0 To "is_whole" 1 1
#check XF Al.c1 Tu "is_whole_between" 3 3
#check OM Al.c2 T0 "make_net" 2 2
#check Kb Al.c3 Tx "are_bridges" 1 1
#check Dh Al.c4 Tn "is_tie" 2 2
#check XO Al.c5 Tv "lesser_end_first" 1 1
#check Mq Al.c6 T1 "neighbours" 2 5
#check Aq Al.c7 Tk "far_end" 2 2
#check Oj Al.c8 T4 "open_ways" 1 5
#check At Al.c9 Tj "carried" 2 5
#check Kh Al.c10 Tm "is_standing" 2 2
#check A8 Al.c11 T7 "sent_on" 2 8
#check Bu Al.c12 T5 "part_of" 2 2
#check E1 Al.c13 T3 "newer" 2 2
#check Mp Al.c14 Tw "best_offer" 2 3
#check Km Al.c15 SU "Bridge.__init__" 5 8
#check JQ Al.c17 S5 "Bridge.stamp" 1 1
#check Ka Al.c18 SW "Bridge.held" 2 2
#check NI Al.c19 S8 "Bridge.up" 4 4
#check Ke Al.c20 SZ "Bridge.down" 2 2
#check J9 Al.c21 SX "Bridge.hear" 3 4
#check Kl Al.c22 S7 "Bridge.tick" 1 2
#check Yy Al.c23 S2 "Bridge.let_grow_older" 1 4
#check YS Al.c24 S4 "Bridge.reckon_label" 1 8
#check Xw Al.c25 S6 "Bridge.take_label" 2 2
#check Y5 Al.c26 S3 "Bridge.letter_over" 2 8
#check YU Al.c27 S0 "Bridge.is_rested_on" 2 3
#check YV Al.c28 SV "Bridge.is_agreed_to" 2 3
#check MT Al.c29 SY "Bridge.end" 2 2
#check Of Al.c30 TF "Yard.__init__" 3 4
#check O8 Al.c31 TH "Yard.net" 1 1
#check N2 Al.c33 TL "Yard.road" 1 1
#check NK Al.c34 TK "Yard.down" 1 2
#check Kg Al.c35 TY "Yard.bridge" 2 2
#check NB Al.c36 TN "Yard.ends" 2 5
#check Ki Al.c37 TM "Yard.end_at" 3 3
#check Xf Al.c38 TD "Yard.has_tie" 2 2
#check NG Al.c39 TW "Yard.deed" 2 4
#check J4 Al.c40 Tz "Yard.tick_of" 2 5
#check WB Al.c41 TX "Yard.come" 2 6
#check WG Al.c42 TV "Yard.take_off" 2 2
#check YW Al.c43 TU "Yard.fall_of_bridge" 2 2
#check XN Al.c44 TB "Yard.fall_of_tie" 2 2
#check YR Al.c45 S9 "Yard.back_of_bridge" 2 2
#check XT Al.c46 TZ "Yard.back_of_tie" 2 2
#check XG Al.c47 TR "Yard.set_ties_of" 2 5
#check Je Al.c48 TQ "Yard.set_tie" 2 8
#check NP Al.c49 T6 "read_deed" 1 2
#check J8 Al.c50 Tc "_law_cell_at" 2 2
#check AD Al.c51 Tl "_law_row" 1 1
#check Ug Al.c52 Tp "_law_take" 2 3
#check A0 Al.c53 Tg "_law_net" 1 9
#check MY Al.c54 Tq "_law_turned" 3 5
#check Oc Al.c55 Td "_law_drawn" 3 8
#check Os Al.c56 Ti "_law_round" 3 6
#check Ny Al.c57 Tf "_law_moved" 4 5
#check OP Al.c58 Te "_law_made" 1 3
#check N6 Al.c59 Th "_law_right" 2 10
#check Qk Al.c60 Ta "law" 1 5
local macro_rules|`(#[$x])=>`(.cons $x .nil)|`(#[$x,$y,*])=>`(.cons $x #[$y,*])
local macro_rules | `(tactic| walk_at "ne")=>`(tactic| first | assumption | (apply Ne.symm; assumption) | ((with_reducible apply ne_none'); (· assumption); (· walk_at "look")) | (apply Ne.symm; (with_reducible apply ne_none'); (· assumption); (· walk_at "look")))
local macro_rules | `(tactic| walk_at "look")=>`(tactic| first | assumption | with_reducible exact eR | ((with_reducible apply upd_ne'); (· walk_at "ne"); (· walk_at "look")) | ((with_reducible apply Ext.get); (· assumption); (· walk_at "look")) | ((with_reducible apply ExtB.get); (· assumption); (· walk_at "ne"); (· walk_at "look")))
local macro_rules | `(tactic| walk_at "ar")=>`(tactic| first | decide | lia | assumption | (simp only [Ï,Ĳ]; decide))
local macro_rules | `(tactic| walk_at "mul")=>`(tactic| first | exact .inl (.inr<|by lia) | exact .inl (.inl<|by lia) | exact .inr ⟨by decide,by decide⟩)
local macro_rules | `(tactic| walk_at "setl")=>`(tactic| first | (simp only [Œ,ρ,Ι,ŀ,List.foldl_nil,ϲ,ϳ]; done) | (simp only [Œ,ρ,Ι,ŀ,List.foldl_nil,ϲ,ϳ]; exact rfl) | exact rfl)
local macro_rules | `(tactic| walk_at "w")=>`(tactic| with_reducible conv=>whnf)
local macro_rules | `(tactic| walk_at "py1")=>do
 let a<-[`dw0,`b_add,`b_sub,`g_int,`g_bl,`g_ref,`g_tbl,`c_lt,`c_gt,`c_le,`c_eqI,`c_neI,`c_isN,`c_notN,`ag_add,`ln_scr,`ln_tup,`in_bl,`mn2,`mx2,`sl_scr,`it_tup].toArray.mapM λn=>`(tactic| refine $(Lean.mkIdent n) ?_)
 let c<-[`ln_lst,`tp_lst,`ls_lst,`sl_lst,`it_lst,`dc_of].toArray.mapM λn=>`(tactic| ((with_reducible apply $(Lean.mkIdent n)); (· walk_at "look")))
 `(tactic| first
 |(with_reducible first $[| $a:tactic]*)
 |((with_reducible apply Qu);(· exact rfl))
 |((with_reducible apply PM);(· walk_at "setl"))|((with_reducible apply LW);(· (simp only[bindL,ϲ,ϳ];exact rfl)))|((with_reducible apply b_mul);(· walk_at "mul"))|((with_reducible apply b_fdiv);(· walk_at "ar"))|((with_reducible apply b_mod);(· walk_at "ar"))|((with_reducible apply Iz);(· walk_at "ar");(· simp only[Int.reduceToNat,Int.reducePow];exact rfl))|((with_reducible apply Ps);(· walk_at "ar"))
 |((with_reducible apply eW);(· exact rfl))|((with_reducible apply Z4);(· walk_at "look");(· exact rfl))
 |((with_reducible apply Id);(· walk_at "look");(· exact rfl))|((with_reducible apply Yn);(· walk_at "look");(· walk_at "ar"))|((with_reducible apply IF);(· walk_at "look");(· exact rfl))|((with_reducible apply Pu);(· walk_at "look");(· exact rfl))
 |((with_reducible apply Rv);(· exact rfl))|((with_reducible apply fP);(· decide))
 | ((with_reducible apply HX);(· first | exact .inl rfl | exact .inr (.inl rfl) | simp);(· walk_at "look")) | ((with_reducible apply PF);(· first | exact rfl | simp);(· walk_at "look")) | ((with_reducible apply ZM);(· walk_at "look");(· walk_at "ar")) | (first $[| $c:tactic]*))
local macro_rules | `(tactic| fail)=>`(tactic| ((repeat walk_at "py1"); walk_at "w"))
local macro_rules | `(tactic| walk_at "p")=>`(tactic| ((repeat first | walk_at "py1" | refine fQ rfl ?_ | refine fR rfl ?_); walk_at "w"))
local macro_rules | `(tactic| exists $e)=>`(tactic| (fail; refine $e ?_))
local macro_rules | `(tactic| refine' $e)=>`(tactic| (fail; refine $e))
section
variable {α:Type}(val:α->Val)
abbrev Zg(kvs:List<|Int×α):List<|Val×Val:=kvs.map λp=>(.int p.1,val p.2)
abbrev Zo(kvs:List<|Int×α)(k:Int)(v:α):List<|Int×α:=if(kvs.lookup k).isSome then kvs.map (λp=>if p.1=k then(k,v)else p)else kvs++[(k,v)]
abbrev Zs(kvs:List<|Int×α)(k:Int):List<|Int×α:=kvs.filter λp=>gB (p.1≠k)
variable {val}
def W4(a b:Int):(Val.int a==Val.int b)=gB (a=b):=by
 by_cases e:a=b
 .subst e;simp
 .rw[gu e];exact beq_eq_false_iff_ne.mpr λz=>e (by injection z)
def Z5(kvs:List<|Int×α)(k:Int):fq (Zg val kvs) (.int k)=(kvs.lookup k).map val:=by
 induction kvs with
 |nil=>rfl
 |cons p r ih =>
  unfold fq Zg at ih ⊢;rw[Ñ,Ę,ï,W4];by_cases e:p.1=k
  .have:(k==p.1)=eN:=by simp[e]
   simp[e]
  .have h2:(k==p.1)=eP:=by simpa using λz=>e z.symm
   rw[gu e,h2];exact ih
def YT(kvs:List<|Int×α)(k:Int):fu (Zg val kvs) (.int k)=(kvs.lookup k).isSome:=by
 induction kvs with
 |nil=>rfl
 |cons p r ih =>
  unfold fu Zg at ih ⊢;rw[Ñ,ķ,ï,W4];by_cases e:p.1=k
  .simp[e]
  .have h2:(k==p.1)=eP:=by simpa using λz=>e z.symm
   rw[gu e,h2];exact ih
def ZZ(kvs:List<|Int×α)(k:Int)(v:α):fv (Zg val kvs) (.int k) (val v)=Zg val (Zo kvs k v):=by
 unfold fv Zo;rw[YT];split
 .unfold Zg;rw[ê,ê];refine Ĥ λp _=>?_;simp only[bT,W4];by_cases e:p.1=k
  .simp[e]
  .simp[e]
 .unfold Zg;rw[Û];rfl
def Wi(kvs:List<|Int×α)(k:Int):fw (Zg val kvs) (.int k)=Zg val (Zs kvs k):=by
 unfold fw Zs Zg;induction kvs with
 |nil=>rfl
 |cons p r ih =>rw[Ñ,ē,ē,W4,ih];by_cases e:p.1=k<;>simp[e]
def X6(ns:List Int):eX (ns.map Val.int)=eL ns:=by
 induction ns with
 |nil=>rfl
 |cons n ns ih=>show(eX<|ns.map Val.int).map _=_;rw[ih];rfl
def HB(kvs:List<|Int×α):keysOf (Zg val kvs)=eL (kvs.map (·.1)):=by unfold keysOf Zg;rw[ê];exact(congrArg eX (ê (f:=λp:Int×α=>p.1) (g:=Val.int) (l:=kvs)).symm).trans (X6 _)
def Jl(kvs:List<|Int×α):(Zg val kvs).length=kvs.length:=by unfold Zg;rw[Á]
variable {kvs:List (Int×α)}
def Zf{k:Int}{v:α}(h:kvs.lookup k=eL v):(k,v)∈kvs:=by
 induction kvs with
 |nil=>cases h
 |cons p r ih =>
  rw[ï]at h;by_cases e:k=p.1
  .have:(k==p.1)=eN:=by simp[e]
   rw[this]at h;cases h;rw[e];exact ô
  .have:(k==p.1)=eP:=⇑e
   rw[this]at h;exact á _<|ih h
def ZK{k:Int}(h:k∈kvs.map (·.1)):∃v,kvs.lookup k=eL v:=by
 induction kvs with
 |nil=>cases h
 |cons p r ih =>
  rw[ï];by_cases e:k=p.1
  .have:(k==p.1)=eN:=by simp[e]
   rw[this];exact⟨_,rfl⟩
  .have:(k==p.1)=eP:=⇑e
   rw[this];rw[Ñ,È]at h;exact ih<|h.resolve_left e
def Xq{k:Int}(h:kvs.lookup k=eM):k∉kvs.map (·.1):=λm=>by let⟨v,e⟩:=ZK m;rw[h]at e;cases e
def Yj(nd:(kvs.map (·.1)).Nodup){k:Int}{v:α}(h:(k,v)∈kvs):kvs.lookup k=eL v:=by
 induction kvs with
 |nil=>cases h
 |cons p r ih =>
  rw[Ñ,þ]at nd;rw[ï];rcases È.mp h with e|h
  .subst e;simp
  .have:k≠p.1:=λz=>nd.1 (z▸ò (f:=(·.1)) h);have:(k==p.1)=eP:=⇑this
   rw[this];exact ih nd.2 h
def JG(kvs:List<|Int×α)(k:Int)(v:α):(Zo kvs k v).map (·.1)=if(kvs.lookup k).isSome then kvs.map (·.1)else kvs.map (·.1)++[k]:=by
 unfold Zo;split
 .rw[ê];refine Ĥ λp _=>?_;simp only[bT];by_cases e:p.1=k<;>simp[e]
 .rw[Û];rfl
def Xv{k:Int}(v:α)(h:k∉kvs.map (·.1)):Zo kvs k v=kvs++[(k,v)]:=by
 unfold Zo;have:kvs.lookup k=eM:=by
  cases e:kvs.lookup k with
  |none=>rfl
  |some w=>exact gA (ò (f:=(·.1))<|Zf e) h
 rw[this];rfl
def Wt(nd:(kvs.map (·.1)).Nodup)(k:Int)(v:α):((Zo kvs k v).map (·.1)).Nodup:=by
 rw[JG];split
 .exact nd
 .rename_i h;have h:kvs.lookup k=eM:=au.mp h;rw[å];refine⟨nd,by simp,λa ha b hb=>?_⟩;rw[Ó.mp hb];exact λe=>Xq h<|e▸ha
variable {p:Int×α}
def Xn{k:Int}{v:α}(h:p∈Zo kvs k v):p=(k,v)\/p∈kvs:=by
 unfold Zo at h;split at h
 .obtain⟨q,hq,e⟩:=Ò.mp h;split at e
  .exact .inl e.symm
  .exact .inr<|e▸hq
 .rcases Õ.mp h with h|h
  .exact .inr h
  .exact .inl<|Ó.mp h
def N0(kvs:List<|Int×α)(k:Int):(Zs kvs k).Sublist kvs:=ĥ
def YQ(nd:(kvs.map (·.1)).Nodup)(k:Int):((Zs kvs k).map (·.1)).Nodup:=nd.sublist ((N0 kvs k).map _)
def F0{k:Int}(h:p∈Zs kvs k):p.1≠k:=by unfold Zs at h;have:=(û.mp h).2;simpa using this
end
def Z7:∀{m:Nat}{ns:List Int},ns.Nodup->(∀x∈ns,0<=x/\x<m)->ns.length<=m
 |0,ns,nd,h=>by
  cases ns with
  |nil=>exact Ì _
  |cons x xs=>have:=h x ô;lia
 |m+1,ns,nd,h=>by
  by_cases hm:(m:Int)∈ns
  .have:=Z7 (m:=m) (nd.erase (m:Int)) λx hx=>by
    have h1:=(nd.mem_erase_iff).mp hx;have h2:=h x h1.2;have:=h1.1;lia
   rw[bK hm]at this;lia
  .have:=Z7 (m:=m) nd λx hx=>by
    have h2:=h x hx;have:x≠(m:Int):=λe=>hm<|e▸hx;lia
   lia
noncomputable abbrev Pi:=Int×Int
noncomputable abbrev pV(p:Pi):Val:=.tup [.int p.1,.int p.2]
abbrev oV:Option Pi->Val
 |none=>.non
 |some p=>pV p
structure L where
 num:Pi
 st:Pi
 root:Int
 cost:Int
 age:Int
 rests:Option Pi
 agrees:Option Pi
noncomputable abbrev L.v(l:L):Val:=.tup [pV l.num,pV l.st,.int l.root,.int l.cost,.int l.age,oV l.rests,oV l.agrees]
noncomputable abbrev Bh(t:Int×Int):Val:=.tup [.int t.1,.int t.2]
noncomputable abbrev hdV(t:L×Int):Val:=.tup [t.1.v,.int t.2]
structure Lab where
 root:Int
 cost:Int
 up:Option<|Int×Pi
 deriving DecidableEq
abbrev upV:Option (Int×Pi)->Val
 |none=>.non
 |some p=>.int p.1
abbrev rsV:Option (Int×Pi)->Val
 |none=>.non
 |some p=>pV p.2
noncomputable abbrev Lab.v(l:Lab):Val:=.tup [.int l.root,.int l.cost,upV l.up,rsV l.up]
structure Br where
 number:Int
 life:Int
 most:Int
 ties:List<|Int×(Int×Int)
 held:List<|Int×(L×Int)
 label:Lab
 version:Int
 count:Int
structure fb(h:Hs)(b t d:Ad)(B:Br):Prop where
 ins:h b=eL (.ins "Bridge" [("number",.int B.number),("life",.int B.life),("age_let_go",.int B.most),("ties_by_place",.ref t),("held_by_place",.ref d),("label_now",B.label.v),("version",.int B.version),("ticks_had",.int B.count)])
 ties:h t=eL (.dct<|Zg Bh B.ties)
 held:h d=eL (.dct<|Zg hdV B.held)
 ne:t≠d
variable {h:Hs} {b:Ad} {o:Ob}
def Ek{a:Ad}{u:Ob}(ha:h a=eL o)(hb:h b=eL u)(ne:o≠u):a≠b:=λe=>by subst e;rw[ha]at hb;exact ne (è hb)
variable {d:Ad} {B:Br}
def fb.nbt{t:Ad}(x:fb h b t d B):b≠t:=Ek x.ins x.ties nofun
def fb.nbd{t:Ad}(x:fb h b t d B):b≠d:=Ek x.ins x.held nofun
structure Ex(S:List Ad)(h g:Hs):Prop where
 get:∀{a:Ad}{o:Ob},a∉S->h a=eL o->g a=eL o
def Ex.refl{S:List Ad}:Ex S h h:=⟨λ_ e=>e⟩
variable {g:Hs}
def Ex.trans{k:Hs}{S:List Ad}(e:Ex S h g)(f:Ex S g k):Ex S h k:=⟨λn x=>f.get n<|e.get n x⟩
def Ex.of{S:List Ad}(e:Ext h g):Ex S h g:=⟨λ_ x=>e.get x⟩
variable {w:Ad}
def Ex.upd{S:List Ad}(m:w∈S):Ex S h<|upd h w o:=⟨λ{a _} n x=>by rw[eQ λe:a=w=>n<|by rw[e];exact m];exact x⟩
def Ex.sub{S T:List Ad}(e:Ex S h g)(m:∀a∈S,a∈T):Ex T h g:=⟨λn x=>e.get (λz=>n<|m _ z) x⟩
variable {p:Ad}
def Ex.none(e:Ex [b] h g)(hb:g b≠eM)(hp:g p=eM):h p=eM:=by
 cases z:h p with
 |none=>rfl
 |some o =>
  by_cases hpb:p=b
  .subst hpb;exact gA hp hb
  .rw[e.get ⇑hpb z]at hp;cases hp
def Ex.ofB{S:List Ad}(e:ExtB w h g)(m:w∈S):Ex S h g:=⟨λn x=>e.get (λz=>n<|z▸m) x⟩
def fb.keep{t:Ad}{S:List Ad}(x:fb h b t d B)(e:Ex S h g)(hb:b∉S)(ht:t∉S)(hd:d∉S):fb g b t d B:=⟨e.get hb x.ins,e.get ht x.ties,e.get hd x.held,x.ne⟩
def fb.ext{t:Ad}(x:fb h b t d B)(e:Ext h g):fb g b t d B:=⟨e.get x.ins,e.get x.ties,e.get x.held,x.ne⟩
def nw{Q:Q1}(q:∀p,h p=eM->Q (.ref p) (upd h p o)):new h o Q:=Xh q
abbrev Yw(most:Int)(held:List<|Int×(L×Int)):List<|Int×(L×Int):=held.filterMap λp=>if p.2.2+1<most then eL (p.1,(p.2.1,p.2.2+1))else eM
variable {most:Int}
def K2{held:List (Int×(L×Int))}{p:Int×(L×Int)}(h:p∈Yw most held):∃a,(p.1,(p.2.1,a))∈held:=by
 let⟨q,hq,e⟩:=Ŭ.mp h;split at e
 .cases e;exact⟨_,hq⟩
 .cases e
def Jy(most:Int)(held:List<|Int×(L×Int)):((Yw most held).map (·.1)).Sublist (held.map (·.1)):=by
 unfold Yw;induction held with
 |nil=>exact ŧ _
 |cons p r ih =>
  rw[ð];split
  .exact ih.cons _
  .rename_i q e;split at e
   .cases e;exact ih.cons₂ _
   .cases e
def AE(most:Int)(held:List<|Int×(L×Int)):(Yw most held).length<=held.length:=Ũ _ _
def ZV{α β:Type}{f:α->β}:∀{xs:List α}{i:Nat}{q:α},(xs.map f).Nodup->xs[i]?=eL q->f q∉(xs.take i).map f
 |[],_,_,_,h=>by simp at h
 |x::xs,0,_,_,_=>by simp
 |x::xs,i+1,q,nd,h=>by
  rw[Ñ,þ]at nd;have h:xs[i]?=eL q:=⇑h
  rw[Ϫ,Ñ,È,not_or];exact⟨λe=>nd.1<|e▸ò (é h),ZV nd.2 h⟩
variable {α:Type} {xs:List α} {i:Nat} {x:α}
def Zt(h:xs[i]?=eL x):xs.take (i+1)=xs.take i++[x]:=by rw[Ÿ,h];rfl
def ZX{f:α->Val}{v:Val}(h:(xs.map f)[i]?=eL v):∃x,xs[i]?=eL x/\v=f x:=by rw[Ø]at h;let⟨x,h1,h2⟩:=Ë.mp h;exact⟨x,h1,h2.symm⟩
variable {kvs:List (Int×α)}
def N1{val:α->Val}{v:Val}(h:((Zg val kvs).map<|itemOf eP)[i]?=eL v):∃p,kvs[i]?=eL p/\v=.tup [.int p.1,val p.2]:=by let⟨q,h1,rfl⟩:=ZX h;unfold Zg at h1;rw[Ø]at h1;let⟨x,h2,rfl⟩:=Ë.mp h1;exact⟨x,h2,rfl⟩
def Hk{val:α->Val}(kvs:List<|Int×α):((Zg val kvs).map<|itemOf eP).length=kvs.length:=by rw[Á,Jl]
variable {P:Pg} [Al P] {n:Nat}{h:Hs}{w b t d st a f tt hh:Ad}{S B:Br}{c:Int}{all:List (Int×Int)}{ps:List Int}{Q:Q1}{X:XQ}
def X5(x:fb h b t d B)(k:Q (pV (B.life,B.version)) h):wF P (n+1) "Bridge.stamp" [.ref b] h Q X:=by let⟨hi,ht,hd,ž⟩:=x;refine JQ ?_;refine' k
abbrev hdO:Option (L×Int)->Val
 |none=>.non
 |some p=>hdV p
def Nb{p:Int}(x:fb h b t d B)(k:Q (hdO<|B.held.lookup p) h):wF P (n+1) "Bridge.held" [.ref b,.int p] h Q X:=by
 let⟨hi,ht,hd,ž⟩:=x;refine Ka ?_
 exists BO (v:=.int p) hd rfl
 rw[Z5];cases e:B.held.lookup p with
 |none=>rw[e]at k;exact k
 |some q=>rw[e]at k;exact k
def EV(x:fb h b t d B)(nd:(B.held.map (·.1)).Nodup)(hl:B.held.length<1000)(k:∀d' g,h d'=eM->fb g b t d' {B with held:=Yw B.most B.held}->Ex [b] h g->Q .non g):wF P (n+1) "Bridge.let_grow_older" [.ref b] h Q X:=by
 let⟨hi,ht,hd,ž⟩:=id x;refine Yy ?_;fail;intro p hp;have npd:=Za hd hp;have npb:=Za hi hp;have npt:=Za ht hp;have nbd:=x.nbd;refine' Zk (λi e g=>Sm2 λu v=>Cj4 (e=[eL<|.ref b,eL<|.ref p,u,v]) (g p=eL (.dct<|Zg hdV<|Yw B.most<|B.held.take i)) (g d=eL (.frz<|Zg hdV B.held))<|Ex [d] h g) ⟨eM,eM,rfl,by rw[eQ npd.symm];exact eR,eR,?_⟩ ?_ ?_ ?_
 .exact⟨λm e=>by rw[eQ λz=>m<|by simp[z],eQ<|Za e hp];exact e⟩
 .rintro i e g cZ ⟨u,v,rfl,h1,h2,h3⟩;exact h2
 .rintro i v e g hv ⟨u,w,rfl,h1,h2,h3⟩ K hK;let⟨q,hq,rfl⟩:=N1 hv;have hi1:=h3.get ⇑nbd hi;let⟨pl,l,a⟩:=q;have e1:Yw B.most (B.held.take<|i+1)=Yw B.most (B.held.take i)++Yw B.most [(pl,(l,a))]:=by
   unfold Yw;rw[Zt hq,List.filterMap_append]
  refine' fS (λhc=>?_) (λhc=>?_)
  .refine' Yo (k:=.int pl) h1 ⟨rfl,?_⟩ ?_
   .rw[Jl];have h5:=AE B.most<|B.held.take i;have h6:(B.held.take i).length<=B.held.length:=Ϟ _ _;exact Ö (Ý h5 h6) (ź hl<|by decide)
   fail;rw[show Val.tup [l.v,.int<|a+1]=hdV (l,a+1) from rfl,ZZ];refine hK _ _ ⟨_,_,rfl,?_,?_,?_⟩
   .rw[eR,e1,Xv]
    .unfold Yw;rw[ð,gp hc];rfl
    .exact λm=>ZV nd hq<|(Jy _ _).subset m
   .rw[eQ npd];exact h2
   .exact⟨λm e=>by rw[eQ<|Za e hp];exact h3.get m e⟩
  .refine' hK _ _ ⟨_,_,rfl,?_,h2,h3⟩;rw[h1,e1];unfold Yw;rw[ð,gq hc];simp
 .rintro e g ⟨u,v,rfl,h1,h2,h3⟩;have hi1:=h3.get ⇑nbd hi;rw[Hk,Ă]at h1;refine⟨h2,?_⟩;refine' k p _ hp ⟨eR,?_,?_,npt⟩ ?_
  .rw[eQ x.nbt.symm,eQ ž];exact h3.get ⇑ž ht
  .rw[eQ npb.symm,eQ npd.symm];exact h1
  .refine⟨λ{c o} m e=>?_⟩;rw[eQ<|by simpa using m];by_cases bf:c=d
   .subst bf;rw[eR,<-e];exact hd.symm
   .rw[eQ bf];exact h3.get ⇑bf e
def F9(x:α)(xs:List α):atI (x::xs) 0=eL x:=by unfold atI ixN;rw[gp (by decide),gp<|by simp];rfl
abbrev X7(r:List Int):Val:=.tup<|r.map .int
def EC(ĝ:List<|List Int):rowsOf (ĝ.map X7)=eL ĝ:=by
 induction ĝ with
 |nil=>rfl
 |cons r rs ih =>show(eX<|r.map .int).bind (λns=>(rowsOf<|rs.map X7).map (ns :: ·))=_;rw[X6,ih];rfl
abbrev YD(number:Int)(ĝ:List<|List Int):Option<|List Int:=match ĝ.filter (λr=>gB (r.headD 0<number))with
 |[]=>eM
 |x::r=>eL<|minR x r
abbrev Gc:Option (List Int)->Val
 |none=>.non
 |some r=>X7 r
def NZ:∀(r:List<|List Int) (x:List Int),minR x r∈x::r
 |[],x=>ô
 |y::r,x=>by
  show minR (if fG y x then y else x) r∈x::y::r;have h:=NZ r (if fG y x then y else x);rcases È.mp h with e|h
  .rw[e];split
   .simp
   .simp
  .simp[h]
variable {number:Int} {ĝ:List (List Int)} {m:List Int}
def JD(h:YD number ĝ=eL m):m∈ĝ:=by
 unfold YD at h;split at h
 .cases h
 .rename_i x r e;cases h;have:minR x r∈ĝ.filter (λr=>gB (r.headD 0<number)):=by rw[e];exact NZ r x
  exact(û.mp this).1
variable {l:Ad}
def Ft(hl:h l=eL (.lst<|ĝ.map X7))(h0:∀r∈ĝ,r≠[])(hn:ĝ.length<1000)(k:∀g,Ext h g->Q (Gc<|YD number ĝ) g):wF P (n+1) "best_offer" [.int number,.ref l] h Q X:=by
 refine Mp ?_;refine' ⟨by rw[Á];exact ź hn (by decide),?_⟩;refine Yq (λv=>match v with|.tup (.int i::xs)=>if i<number then eL v else eM|_=>eM) (lsE hl) ?_ ?_
 .intro v hv K hK;let⟨r,hr,rfl⟩:=Ò.mp hv;cases r with
  |nil=>exact gA rfl<|h0 _ hr
  |cons i xs =>
   have hK:K (if i<number then eL (X7<|i::xs)else eM) h:=hK;rw[show X7 (i::xs)=.tup (.int i::xs.map .int) from rfl]at hK ⊢
   exists eW (F9 _ _)
   refine' fS (λhc=>?_) (λhc=>?_)
   .rw[gp hc]at hK;refine' hK
   .rw[gq hc]at hK;exact hK
 .refine Xh λp hp=>?_;fail;have e1:(ĝ.map X7).filterMap (λv=>match v with|.tup (.int i::xs)=>if i<number then eL v else eM|_=>eM)=(ĝ.filter λr=>gB (r.headD 0<number)).map X7:=by
   clear hl k hn;induction ĝ with
   |nil=>rfl
   |cons r rs ih =>
    have ih:=ih λr hr=>h0 r<|á _ hr;cases r with
    |nil=>exact gA rfl<|h0 _ ô
    |cons i xs =>
     rw[Ñ,ð,ē];by_cases hc:i<number
     .simp only[X7,Ñ,gp hc,List.headD_cons,hc,decide_true,if_true]at ih ⊢;rw[ih]
     .simp only[X7,Ñ,gq hc,List.headD_cons,hc,decide_false,ī,if_false]at ih ⊢;rw[ih]
  rw[e1];have hx:Ext h<|upd h p<|.lst<|(ĝ.filter λr=>gB (r.headD 0<number)).map X7:=Ext.new hp;cases e2:ĝ.filter λr=>gB (r.headD 0<number)with
  |nil =>rw[e2]at hx;refine IK eR ?_;have:=k _ hx;unfold YD at this;rw[e2]at this;exact this
  |cons x r =>rw[e2]at hx;refine Fz eR (EC<|x::r) ?_;have:=k _ hx;unfold YD at this;rw[e2]at this;exact this
abbrev KS(ties:List<|Int×(Int×Int))(p:Int):Int×Int:=(ties.lookup p).getD (0,0)
abbrev Mj(ties:List<|Int×(Int×Int))(q:Int×(L×Int)):List Int:=[q.2.1.root,q.2.1.cost+(KS ties q.1).2,(KS ties q.1).1,q.1]
abbrev J7(ties:List<|Int×(Int×Int))(held:List<|Int×(L×Int)):List<|List Int:=held.map<|Mj ties
abbrev NJ(held:List<|Int×(L×Int))(p:Int):Pi:=((held.lookup p).map (·.1.st)).getD (0,0)
abbrev ZF(B:Br):Lab:=match YD B.number (J7 B.ties B.held)with
 |none=>⟨B.number,0,eM⟩
 |some m=>⟨m.getD 0 0,m.getD 1 0,eL (m.getD 3 0,NJ B.held<|m.getD 3 0)⟩
def Ck{ties:List (Int×(Int×Int))}{p:Int}(h:(ties.lookup p).isSome=eN):ties.lookup p=eL (KS ties p):=by
 unfold KS;cases e:ties.lookup p with
 |none=>rw[e]at h;cases h
 |some v=>rfl
def AM(x:fb h b t d B)(sub:∀q∈B.held,(B.ties.lookup q.1).isSome=eN)(hn:B.held.length<1000)(k:∀g,Ext h g->Q (ZF B).v g):wF P (n+2) "Bridge.reckon_label" [.ref b] h Q X:=by
 let⟨hi,ht,hd,ž⟩:=id x;refine YS ?_;refine' Xh λp hp=>?_;have npd:=Za hd hp;have npb:=Za hi hp;have npt:=Za ht hp;have nbd:=x.nbd;refine' Zk (λi e g=>Sm4 λu v w z=>Cj4 (e=[eL<|.ref b,eL<|.ref p,u,v,w,z,eM,eM]) (g p=eL (.lst<|(J7 B.ties<|B.held.take i).map X7)) (g d=eL (.frz<|Zg hdV B.held))<|Ex [d] h g) ⟨eM,eM,eM,eM,rfl,by rw[eQ npd.symm];exact eR,eR,?_⟩ ?_ ?_ ?_
 .exact⟨λm e=>by rw[eQ λz=>m<|by simp[z],eQ<|Za e hp];exact e⟩
 .rintro i e g cZ ⟨u,v,w,z,rfl,h1,h2,h3⟩;exact h2
 .rintro i v e g hv ⟨u,v,w,z,rfl,h1,h2,h3⟩ K hK;let⟨q,hq,rfl⟩:=N1 hv;have hi1:=h3.get ⇑nbd hi;have ht1:=h3.get ⇑ž ht;have hs:=Ck<|sub q<|é hq;let⟨pl,l,a⟩:=q;generalize htt:KS B.ties pl=tt at hs;let⟨nb,c⟩:=tt;refine' Yb ht1 rfl (by rw[Z5,hs];rfl) ?_;refine' ZM h1 ?_ ?_
  .rw[Á];unfold J7;rw[Á];exact Ö (Ϟ _ _) (ź hn<|by decide)
  dsimp only;refine' hK _ _ ⟨_,_,_,_,rfl,?_,?_,?_⟩
  .rw[eR,Zt hq];unfold J7 Mj;rw[Û,Û,Ñ,htt];rfl
  .rw[eQ npd];exact h2
  .exact⟨λm e=>by rw[eQ<|Za e hp];exact h3.get m e⟩
 .rintro e g ⟨u,v,w,z,rfl,h1,h2,h3⟩;have hi1:=h3.get ⇑nbd hi;have cZ:upd g d (.dct<|Zg hdV B.held) b=_:=upd_ne' nbd hi1;rw[Hk,Ă]at h1;have h1':upd g d (.dct<|Zg hdV B.held) p=_:=upd_ne' npd.symm h1;have hx:Ext h<|upd g d<|.dct<|Zg hdV B.held:=⟨λ{c o} e=>by
    by_cases bf:c=d
    . subst bf;rw[eR,<-e];exact hd.symm
    . rw[eQ bf];exact h3.get ⇑bf e⟩
  have bM:upd g d (.dct<|Zg hdV B.held) d=_:=eR;refine⟨h2,?_⟩;generalize upd g d (.dct<|Zg hdV B.held)=g2 at cZ h1' hx bM ⊢;refine' Ft h1' ?_ ?_ λg3 h3=>?_
  .intro r hr;unfold J7 at hr;let⟨q,_,rfl⟩:=Ò.mp hr;unfold Mj;simp
  .unfold J7;rw[Á];exact hn
  have hi3:=h3.get cZ;have hd3:=h3.get bM;have kk:=k g3<|hx.trans h3;unfold ZF at kk;fail;cases e:YD B.number (J7 B.ties B.held)with
  |none =>rw[e]at kk;simp only[Gc];refine fS (λhc=>?_) λhc=>gA trivial hc;refine' kk
  |some m =>rw[e]at kk;have hm:=JD e;unfold J7 at hm;let⟨q,hq,rfl⟩:=Ò.mp hm;refine fS (λhc=>(by simp[Gc,X7]at hc)) λhc=>?_;have hlk:∃y,B.held.lookup q.1=eL y:=ZK (ò (f:=(·.1)) hq);let⟨y,hy⟩:=hlk;unfold Mj at kk ⊢;simp only[Gc,X7,Ñ,Ţ];refine' Yb hd3 rfl (by rw[Z5,hy];rfl) ?_;fail;unfold NJ at kk;simp only[List.getD_cons_succ,List.getD_cons_zero]at kk;rw[hy]at kk;exact kk
abbrev Fc(l:Lab):D:=.tup [.int l.root,.int l.cost,(match l.up with|none=>.non|some p=>.int p.1),(match l.up with|none=>.non|some p=>.tup [.int p.2.1,.int p.2.2])]
def Up(h:Hs)(l:Lab):dat h deep l.v=eL (Fc l):=by let⟨r,c,u⟩:=l;cases u<;>rfl
def Im(h:Hs)(l m:Lab):eqV h l.v m.v=eL (gB (l=m)):=by
 unfold eqV;rw[Up,Up];show eL (D.eqv (Fc l)<|Fc m)=_;congr 1;let⟨r,c,u⟩:=l;let⟨r',c',u'⟩:=m;unfold Fc;cases u with
 |none=>cases u' with
  |none=>simp only[D.eqv,D.eqvs,Μ];by_cases h1:r=r'<;>by_cases h2:c=c'<;>simp[h1,h2]
  |some q=>simp[D.eqv,D.eqvs]
 |some p=>cases u' with
  |none=>simp[D.eqv,D.eqvs]
  |some q =>let⟨p1,p2,p3⟩:=p;let⟨q1,q2,q3⟩:=q;simp only[D.eqv,D.eqvs,Μ];by_cases h1:r=r'<;>by_cases h2:c=c'<;>by_cases h3:p1=q1<;>by_cases h4:p2=q2<;>by_cases h5:p3=q3<;>simp[h1,h2,h3,h4,h5]
abbrev taken(B:Br)(l:Lab):Br:=if l=B.label then B else {B with label:=l,version:=B.version+1}
variable {u:Val} {KB:Bool->Prop}
def XB{v:Val}{c:Bool}(e:eqV h v u=eL c)(q:KB (!c)):go (fi h .ne v u) KB:=eV (by show(eqV h v u).map _=_;rw[e];rfl) q
def K4{v:Val}{c:Bool}(e:eqV h v u=eL c)(q:KB c):go (fi h .eq v u) KB:=eV e q
def E0{l:Lab}(x:fb h b t d B)(k:∀g,fb g b t d (taken B l)->Ex [b] h g->Q .non g):wF P (n+1) "Bridge.take_label" [.ref b,l.v] h Q X:=by
 let⟨hi,ht,hd,ž⟩:=id x;refine Xw ?_
 exists XB (Im h l B.label)
 fail;unfold taken at k;refine Kk (λhc=>?_) λhc=>?_
 .rw[gq hc]at k;refine' Yn eR (show(8:Nat)<900 by decide) ?_;refine' k _ ⟨?_,?_,?_,ž⟩ ?_
  .rw[eS,eR];rfl
  .rw[eQ x.nbt.symm,eQ x.nbt.symm];exact ht
  .rw[eQ x.nbd.symm,eQ x.nbd.symm];exact hd
  .exact(Ex.upd<|by simp).trans (Ex.upd<|by simp)
 .rw[gp hc]at k;refine' k h x Ex.refl
def Qp(h:Hs)(r:Option Pi)(s:Pi):eqV h (oV r) (pV s)=eL (gB (r=eL s)):=by
 let⟨s1,s2⟩:=s;cases r with
 |none =>show eL (D.eqv .non<|.tup [.int s1,.int s2])=_;simp[D.eqv]
 |some p =>let⟨p1,p2⟩:=p;show eL (D.eqv (.tup [.int p1,.int p2])<|.tup [.int s1,.int s2])=_;congr 1;simp only[D.eqv,D.eqvs,Μ];by_cases h1:p1=s1<;>by_cases h2:p2=s2<;>simp[h1,h2]
abbrev Xg(B:Br)(p:Int):Bool:=match B.held.lookup p with
 |none=>eP
 |some q=>gB (q.1.rests=eL (B.life,B.version))
def K6{p:Int}(x:fb h b t d B)(k:Q (.bl<|Xg B p) h):wF P (n+2) "Bridge.is_rested_on" [.ref b,.int p] h Q X:=by
 let⟨hi,ht,hd,ž⟩:=id x;refine YU ?_
 exists Nb x
 unfold Xg at k;fail;cases e:B.held.lookup p with
 |none =>rw[e]at k;refine Kk (λhc=>gA rfl hc) λhc=>?_;exact k
 |some q =>
  rw[e]at k;let⟨l,a⟩:=q;refine Kk (λhc=>?_) (λhc=>by simp[hdO]at hc);simp only[hdO]
  exists X5 x
  refine K4 (Qp h _ _) ?_;exact k
abbrev Bj(u:Option<|Int×Pi)(p:Int):Bool:=match u with
 |none=>eP
 |some q=>gB (p=q.1)
abbrev Jk(B:Br):Int:=match B.label.up with
 |none=>0
 |some q=>((B.held.lookup q.1).map (·.2)).getD 0+1
abbrev Zy(B:Br)(p:Int):L where
 num:=(B.life,B.count)
 st:=(B.life,B.version)
 root:=B.label.root
 cost:=B.label.cost
 age:=Jk B
 rests:=if Bj B.label.up p then B.label.up.map (·.2)else eM
 agrees:=if Bj B.label.up p then eM else if Xg B p then eL (NJ B.held p)else eM
def Hw(h:Hs)(p:Int)(u:Option<|Int×Pi):eqV h (.int p) (upV u)=eL (Bj u p):=by
 cases u with
 |none=>rfl
 |some q =>show eL (D.eqv (.int p)<|.int q.1)=_;rw[Ni];rfl
def G8{p:Int}(x:fb h b t d B)(hu:∀q,B.label.up=eL q->(B.held.lookup q.1).isSome=eN)(k:Q (Zy B p).v h):wF P (n+3) "Bridge.letter_over" [.ref b,.int p] h Q X:=by
 let⟨hi,ht,hd,ž⟩:=id x;refine Y5 ?_;fail;have main:wSs (wF P<|n+2) #[.ite (.val<|.cmp .eq (.var 1)<|.var 4) #[.ret<|.bin .add (.var 7)<|.tup #[.var 5,.cst .non]] .nil,.ite (.val<|.meth "Bridge" "is_rested_on" (.var 0) #[.var 1]) #[.ret<|.bin .add (.var 7)<|.tup #[.cst .non,.idx (.idx (.idx (.fld (.var 0) "held_by_place")<|.var 1)<|.cst<|.int 0)<|.glob "STAMP"<|.int 1]] .nil,.ret<|.bin .add (.var 7)<|.tup #[.cst .non,.cst .non]]
   [eL<|.ref b,eL<|.int p,eL<|.int B.label.root,eL<|.int B.label.cost,eL<|upV B.label.up,eL<|rsV B.label.up,eL<|.int<|Jk B,eL<|.tup [pV (B.life,B.count),pV (B.life,B.version),.int B.label.root,.int B.label.cost,.int<|Jk B]] h (λ_ g=>Q .non g) Q (λ_ _=>False) (λ_ _=>False) λ_ c g=>X c g:=by
  exists K4 (Hw h p B.label.up)
  refine' fT (λhc=>?_) (λhc=>?_)
  .fail;unfold Zy at k;rw[hc]at k;cases e:B.label.up with
   |none=>rw[e]at hc;cases hc
   |some q=>rw[e]at k;exact k
  .exists K6 x
   fail;unfold Zy at k;rw[hc]at k;refine fT (λhr=>?_) λhr=>?_
   .rw[hr]at k;unfold Xg at hr;cases e:B.held.lookup p with
    |none=>rw[e]at hr;cases hr
    |some q =>let⟨l,a⟩:=q;refine' Yb hd rfl (by rw[Z5,e];rfl) ?_;fail;unfold NJ at k;rw[e]at k;exact k
   .rw[hr]at k;refine' k
 cases e:B.label.up with
 |none =>
  have ea:Jk B=0:=by unfold Jk;rw[e]
  rw[e,ea]at main;refine fS (λhc=>?_) λhc=>gA rfl hc
  exists X5 x
  walk_at "w"
  repeat (first|exact main|(walk_at "py1";walk_at "w"))
 |some q =>
  let⟨y,hy⟩:=ç.mp<|hu q e;have ea:Jk B=y.2+1:=by unfold Jk;rw[e];dsimp only;rw[hy];rfl
  rw[e,ea]at main;refine fS (λhc=>by cases hc) λhc=>?_;simp only[upV];refine' Yb hd rfl (by rw[Z5,hy];rfl) ?_
  exists X5 x
  walk_at "w"
  repeat (first|exact main|(walk_at "py1";walk_at "w"))
variable {q:Int×Pi}
def FN(hq:(ZF B).up=eL q):(B.held.lookup q.1).isSome=eN:=by
 unfold ZF at hq;split at hq
 .cases hq
 .rename_i m e;have hm:=JD e;unfold J7 at hm;let⟨y,hy,rfl⟩:=Ò.mp hm;cases hq;let⟨v,hv⟩:=ZK (ò (f:=(·.1)) hy);show(B.held.lookup y.1).isSome=eN;rw[hv];rfl
abbrev Br.grown(B:Br):Br:={B with held:=Yw B.most B.held}
abbrev Br.told(B:Br):Br:=taken B.grown<|ZF B.grown
abbrev Br.ticked(B:Br):Br:={B.told with count:=B.count+1}
abbrev ZY(B:Br):List Val:=(sortI (B.ties.map (·.1))).map λp=>.tup [.int p,(Zy B p).v]
def ZW(B:Br)(l:Lab):(taken B l).held=B.held/\(taken B l).ties=B.ties/\(taken B l).count=B.count/\(taken B l).label=l/\(taken B l).number=B.number/\(taken B l).life=B.life/\(taken B l).most=B.most:=by
 unfold taken;split
 .rename_i e;exact⟨rfl,rfl,rfl,e.symm,rfl,rfl,rfl⟩
 .exact⟨rfl,rfl,rfl,rfl,rfl,rfl,rfl⟩
structure Br.ok(B:Br):Prop where
 nd:(B.held.map (·.1)).Nodup
 sub:∀q∈B.held,(B.ties.lookup q.1).isSome=eN
 nt:(B.ties.map (·.1)).Nodup
 rg:∀q∈B.ties,0<=q.1/\q.1<16
def Br.ok.tlen(o:B.ok):B.ties.length<=16:=by
 have:=Z7 (m:=16) o.nt λx hx=>by let⟨q,hq,rfl⟩:=Ò.mp hx;exact o.rg q hq
 simpa using this
def Br.ok.hlen(o:B.ok):B.held.length<=16:=by
 have:=Z7 (m:=16) o.nd λx hx=>by let⟨q,hq,rfl⟩:=Ò.mp hx;let⟨v,hv⟩:=ç.mp<|o.sub q hq;exact o.rg _<|Zf hv
 simpa using this
def Br.ok.grown(o:B.ok):B.grown.ok where
 nd:=o.nd.sublist<|Jy _ _
 sub:=λq hq=>by let⟨a,ha⟩:=K2 hq;exact o.sub (q.1,(q.2.1,a)) ha
 nt:=o.nt
 rg:=o.rg
def Br.ok.told(o:B.ok):B.told.ok:=by
 let⟨h1,h2,_⟩:=ZW B.grown<|ZF B.grown;have g:=o.grown;refine⟨?_,?_,?_,?_⟩
 .show((taken B.grown<|ZF B.grown).held.map (·.1)).Nodup;rw[h1];exact g.nd
 .show ∀q∈(taken B.grown<|ZF B.grown).held,((taken B.grown<|ZF B.grown).ties.lookup q.1).isSome=eN;rw[h1,h2];exact g.sub
 .show((taken B.grown<|ZF B.grown).ties.map (·.1)).Nodup;rw[h2];exact g.nt
 .show ∀q∈(taken B.grown<|ZF B.grown).ties,_;rw[h2];exact g.rg
def Br.ok.ticked(o:B.ok):B.ticked.ok:=⟨o.told.nd,o.told.sub,o.told.nt,o.told.rg⟩
def Fi(x:fb h b t d B)(o:B.ok)(k:∀p d' g,h p=eM->h d'=eM->fb g b t d' B.ticked->g p=eL (.lst<|ZY B.told)->Ex [b] h g->p≠d'->Q (.ref p) g):wF P (n+4) "Bridge.tick" [.ref b] h Q X:=by
 let⟨hi,ht,hd,ž⟩:=id x;have hlen:=o.hlen;refine Kl ?_;refine' EV x o.nd (by lia) λd' g hd' x1 e1=>?_;let⟨hi1,ht1,hd1,hne1⟩:=id x1;have og:=o.grown;have x1':fb g b t d' B.grown:=x1;refine' AM x1' og.sub (by have:=og.hlen;lia) λg2 e2=>?_;have x2:=x1'.ext e2;refine' E0 x2 λg3 x3 e3=>?_;let⟨hi3,ht3,hd3,hne3⟩:=id x3;let⟨c1,c2,c3,c4,c5,c6,c7⟩:=ZW B.grown<|ZF B.grown;have hties:B.told.ties=B.ties:=c2;refine' BK ht3 (HB _) ?_ (Xh λp1 cY=>?_)
 .rw[Á];have:=o.tlen;show B.told.ties.length<64;rw[hties];lia
 refine' ⟨?_,?_⟩
 .rw[Á,sortI,Ř,Á];have:=o.tlen;show B.told.ties.length<lim;rw[hties];exact Ö this (by decide)
 have x4:=x3.ext (Ext.new (o:=.lst ((sortI ((taken B.grown<|ZF B.grown).ties.map (·.1))).map Val.int)) cY);have up:∀q,(taken B.grown<|ZF B.grown).label.up=eL q->((taken B.grown<|ZF B.grown).held.lookup q.1).isSome=eN:=λq hq=>by rw[c4]at hq;rw[c1];exact FN hq
 refine Yq (λv=>match v with|.int i=>eL (.tup [.int i,(Zy B.told i).v])|_=>eM) (lsE eR) ?_ ?_
 .intro v hv K hK;let⟨i,hi,rfl⟩:=Ò.mp hv;let⟨hi4,ht4,hd4,hne4⟩:=id x4;fail;rw[gp rfl];change wE _ _ [eL<|.int i,eL<|.ref b] _ _ _
  exists G8 x4 up
  refine' hK
 .refine Xh λp hp=>?_;have x5:=x4.ext<|Ext.new (o:=.lst<|ZY B.told) hp;have e0:((sortI ((taken B.grown<|ZF B.grown).ties.map (·.1))).map Val.int).filterMap (λv=>match v with|.int i=>eL (.tup [.int i,(Zy B.told i).v])|_=>eM)=ZY B.told:=by
   rw[ϰ];unfold ZY;exact congrFun (List.filterMap_eq_map (f:=λi:Int=>Val.tup [.int i,(Zy B.told i).v])) _
  rw[e0];let⟨hi5,ht5,hd5,hne5⟩:=id x5;fail;have c3':(taken B.grown<|ZF B.grown).count=B.count:=c3;rw[c3'];have eg:Ex [b] h (upd g3 p1 (.lst ((sortI ((taken B.grown<|ZF B.grown).ties.map (·.1))).map Val.int))):=((e1.trans<|.of e2).trans e3).trans<|.of<|Ext.new cY;have hpn:h p=eM:=eg.none (by rw[x4.ins];intro z;cases z) hp;have npb:b≠p:=Za x4.ins hp;refine k p d' _ hpn hd' ⟨eR,?_,?_,x5.ne⟩ ?_ ?_ (Za x4.held hp).symm
  .rw[eQ x5.nbt.symm];exact x5.ties
  .rw[eQ x5.nbd.symm];exact x5.held
  .rw[eQ npb.symm];exact eR
  .exact(eg.trans<|.of<|Ext.new hp).trans (Ex.upd<|by simp)
abbrev Jf(S:Br)(p:Int)(l:L):Bool:=match S.held.lookup p with
 |none=>eN
 |some q=>fG [q.1.num.1,q.1.num.2] [l.num.1,l.num.2]
abbrev ZS(S:Br)(p:Int)(l:L):Br:=if(S.ties.lookup p).isSome then(if Jf S p l then {S with held:=Zo S.held p (l,l.age)} else S)else S
abbrev Ce(S:Br)(p:Int):Br:={S with ties:=Zs S.ties p,held:=Zs S.held p}
abbrev upB(S:Br)(p:Int)(c:Int×Int):Br:=if(S.ties.lookup p).isSome then S else {S with ties:=Zo S.ties p c}
def Ei{k:Int}{v:α}{q:Int}:(kvs.lookup q).isSome=eN->((Zo kvs k v).lookup q).isSome=eN:=λh=>by
 let⟨x,hx⟩:=ç.mp h;have hm:q∈kvs.map (·.1):=ò (f:=(·.1))<|Zf hx;have:q∈(Zo kvs k v).map (·.1):=by
  rw[JG];split
  .exact hm
  .exact Ð _ hm
 let⟨y,hy⟩:=ZK this;rw[hy];rfl
def Br.ok.heard(o:S.ok){p:Int}{l:L}:(ZS S p l).ok:=by
 unfold ZS;split
 .rename_i h1;split
  .refine⟨Wt o.nd _ _,λq hq=>?_,o.nt,o.rg⟩;rcases Xn hq with e|hq
   .rw[e];exact h1
   .exact o.sub q hq
  .exact o
 .exact o
def ZL{k:Int}{q:Int×α}(h:q∈Zs kvs k):q∈kvs:=(N0 kvs k).subset h
def Bq{k q:Int}(h:(kvs.lookup q).isSome=eN)(n:q≠k):((Zs kvs k).lookup q).isSome=eN:=by
 let⟨x,hx⟩:=ç.mp h;have:q∈(Zs kvs k).map (·.1):=by refine Ò.mpr ⟨(q,x),?_,rfl⟩;unfold Zs;exact û.mpr ⟨Zf hx,⇑n⟩
 let⟨y,hy⟩:=ZK this;rw[hy];rfl
def Br.ok.down(o:S.ok)(p:Int):(Ce S p).ok :=
 ⟨YQ o.nd _,λq hq=>Bq (o.sub q<|ZL hq)<|F0 hq,YQ o.nt _,λq hq=>o.rg q<|ZL hq⟩
def Br.ok.up(o:S.ok){p:Int}{c:Int×Int}(h0:0<=p)(h1:p<16):(upB S p c).ok:=by
 unfold upB;split
 .exact o
 .refine⟨o.nd,λq hq=>Ei<|o.sub q hq,Wt o.nt _ _,λq hq=>?_⟩;rcases Xn hq with e|hq
  .rw[e];exact⟨h0,h1⟩
  .exact o.rg q hq
def FG{p:Int}{l:L}(x:fb h b t d B)(o:B.ok)(k:∀g,fb g b t d (ZS B p l)->Ex [d] h g->Q .non g):wF P (n+2) "Bridge.hear" [.ref b,.int p,l.v] h Q X:=by
 let⟨hi,ht,hd,ž⟩:=id x;have hlen:=o.hlen;refine J9 ?_
 exists Xz ht rfl
 rw[YT];fail;unfold ZS at k;cases e:(B.ties.lookup p).isSome with
 |false =>rw[e]at k;refine fQ rfl ?_;refine' k h x Ex.refl
 |true =>
  rw[e,gp rfl]at k;refine fR rfl ?_
  exists Nb x
  have put:(∀g,fb g b t d {B with held:=Zo B.held p (l,l.age)}->Ex [d] h g->Q .non g)->go (fK h (.ref d) (.int p)<|.tup [l.v,.int l.age]) λg=>Q .non g:=λk=>by refine Yo hd ⟨rfl,by rw[Jl];exact Ö hlen<|by decide⟩ ?_;rw[show Val.tup [l.v,.int l.age]=hdV (l,l.age) from rfl,ZZ];exact k _ ⟨by rw[eQ x.nbd];exact hi,by rw[eQ ž];exact ht,eR,ž⟩ (Ex.upd<|by simp)
  fail;cases e2:B.held.lookup p with
  |none =>
   have et:Jf B p l=eN:=by unfold Jf;rw[e2]
   rw[et,gp rfl]at k;refine fS (λhc=>?_) λhc=>gA rfl hc;refine fQ rfl ?_;refine' U8 (put k) λg q=>by fail;exact q
  |some q =>
   let⟨m,ag⟩:=q;have et:Jf B p l=fG [m.num.1,m.num.2] [l.num.1,l.num.2]:=by unfold Jf;rw[e2]
   rw[et]at k;refine fS (λhc=>by simp[hdO]at hc) λhc=>?_;simp only[hdO]
   exists E1
   exists PD (X6 [l.num.1,l.num.2]) (X6 [m.num.1,m.num.2])
   refine' fT (λhc=>?_) (λhc=>?_)
   .rw[gp hc]at k;refine' U8 (put k) λg q=>by fail;exact q
   .rw[gq<|by rw[hc];decide]at k;refine' k h x Ex.refl
def FX{p:Int}(x:fb h b t d B)(k:∀g,fb g b t d (Ce B p)->Ex [t,d] h g->Q .non g):wF P (n+1) "Bridge.down" [.ref b,.int p] h Q X:=by
 let⟨hi,ht,hd,ž⟩:=id x;refine Ke ?_
 exists UU ht rfl
 dsimp only;rw[Wi];have cZ:upd h t (.dct<|Zg Bh<|Zs B.ties p) b=_:=upd_ne' x.nbt hi;have bM:upd h t (.dct<|Zg Bh<|Zs B.ties p) d=_:=upd_ne' ž.symm hd
 exists UU bM rfl
 dsimp only;rw[Wi];refine' k _ ⟨by rw[eQ x.nbd];exact cZ,by rw[eQ ž];exact eR,eR,ž⟩ ((Ex.upd<|by simp).trans<|Ex.upd<|by simp)
def Qc{p nb:Int}(x:fb h b t d B)(o:B.ok)(k:∀g,fb g b t d (upB B p (nb,c))->Ex [t] h g->Q .non g):wF P (n+1) "Bridge.up" [.ref b,.int p,.int nb,.int c] h Q X:=by
 let⟨hi,ht,hd,ž⟩:=id x;have hlen:=o.tlen;refine NI ?_
 exists Xz ht rfl
 rw[YT];fail;unfold upB at k;cases e:(B.ties.lookup p).isSome with
 |true =>rw[e,gp rfl]at k;refine fR rfl ?_;refine' k h x Ex.refl
 |false =>rw[e,gq<|by decide]at k;refine fQ rfl ?_;refine' Yo ht ⟨rfl,by rw[Jl];exact Ö hlen<|by decide⟩ ?_;rw[show Val.tup [.int nb,.int c]=Bh (nb,c) from rfl,ZZ];refine' k _ ⟨by rw[eQ x.nbt];exact hi,eR,by rw[eQ ž.symm];exact hd,ž⟩ (Ex.upd<|by simp)
def Sk(h:Hs)(s:Pi)(u:Option<|Int×Pi):eqV h (pV s) (rsV u)=eL (gB (u.map (·.2)=eL s)):=by
 let⟨s1,s2⟩:=s;cases u with
 |none =>show eL (D.eqv (.tup [.int s1,.int s2]) .non)=_;simp[D.eqv]
 |some p =>
  let⟨p0,p1,p2⟩:=p;show eL (D.eqv (.tup [.int s1,.int s2])<|.tup [.int p1,.int p2])=_;congr 1;simp only[D.eqv,D.eqvs,Μ,œ];by_cases h1:s1=p1
  .subst h1;by_cases h2:s2=p2
   .subst h2;simp
   .have h3:¬ p2=s2:=λz=>h2 z.symm;simp[h2,h3]
  .have h3:¬ p1=s1:=λz=>h1 z.symm;simp[h1,h3]
abbrev MD(B:Br)(p:Int):Bool:=match B.held.lookup p with
 |none=>eP
 |some q=>if q.1.agrees=eL (B.life,B.version)then gB (B.label.up.map (·.2)=eL q.1.st)else eP
def Bf{p:Int}(x:fb h b t d B)(k:Q (.bl<|MD B p) h):wF P (n+2) "Bridge.is_agreed_to" [.ref b,.int p] h Q X:=by
 let⟨hi,ht,hd,ž⟩:=id x;refine YV ?_
 exists Nb x
 unfold MD at k;fail;cases e:B.held.lookup p with
 |none =>rw[e]at k;refine fS (λhc=>?_) λhc=>gA rfl hc;refine fQ rfl ?_;refine' k
 |some q =>
  rw[e]at k;let⟨l,a⟩:=q;refine fS (λhc=>by simp[hdO]at hc) λhc=>?_;simp only[hdO]
  exists X5 x
  refine XB (Qp h _ _) ?_;refine' Kk (λhc=>?_) (λhc=>?_)
  .fail;rw[show(match eL (l,a)with|none=>eP|some q=>if q.1.agrees=eL (B.life,B.version)then gB (B.label.up.map (·.2)=eL q.1.st)else eP)=eP from gq hc]at k;exact k
  .fail;rw[show(match eL (l,a)with|none=>eP|some q=>if q.1.agrees=eL (B.life,B.version)then gB (B.label.up.map (·.2)=eL q.1.st)else eP)=gB (B.label.up.map (·.2)=eL l.st) from gp hc]at k;refine K4 (Sk h _ _) ?_;exact k
abbrev U0(B:Br)(p:Int):String:=if(B.ties.lookup p).isSome then(if Bj B.label.up p then(if MD B p then "child" else "shut")else if Xg B p then "parent" else "shut")else "down"
def IL{p:Int}(x:fb h b t d B)(k:Q (.str<|U0 B p) h):wF P (n+3) "Bridge.end" [.ref b,.int p] h Q X:=by
 let⟨hi,ht,hd,ž⟩:=id x;refine MT ?_
 exists Xz ht rfl
 rw[YT];fail;unfold U0 at k;cases e:(B.ties.lookup p).isSome with
 |false =>rw[e]at k;refine fQ rfl ?_;refine' k
 |true =>
  rw[e,gp rfl]at k;refine fR rfl ?_
  exists K4 (Hw h p B.label.up)
  refine' fT (λhc=>?_) (λhc=>?_)
  .rw[hc,gp rfl]at k
   exists Bf x
   refine' fT (λhc=>?_) (λhc=>?_)
   .rw[hc]at k;refine' k
   .rw[hc]at k;refine' k
  .rw[hc,gq<|by decide]at k
   exists K6 x
   refine' fT (λhc=>?_) (λhc=>?_)
   .rw[hc]at k;refine' k
   .rw[hc]at k;refine' k
def Ze(q:∀p g,h p=eM->Ext h g->g p=eL o->Q (.ref p) g):new h o Q:=Xh λp hp=>q p _ hp (Ext.new hp) eR
variable {r:Int}
def YO(r0:0<=r)(e:xs[r.toNat]?=eL x):atI xs r=eL x:=by have:=(Î.mp e).1;unfold atI ixN;rw[gp r0,gp<|by lia];exact e
def DM(r0:0<=r)(r1:r<xs.length):∃x,xs[r.toNat]?=eL x/\x∈xs:=by
 have h:r.toNat<xs.length:=by lia
 exact⟨xs[r.toNat],É h,Ŏ h⟩
def YG(r0:0<=r)(r1:r<xs.length):∃x,atI xs r=eL x/\x∈xs:=by let⟨x,h1,h2⟩:=DM r0 r1;exact⟨x,YO r0 h1,h2⟩
def Zz:∀ns:List Int,eX (ns.map .int)=eL ns
 |[]=>rfl
 |n::ns=>by rw[Ñ,eX,Zz ns];rfl
def YF:∀bs:List Bool,blsOf (bs.map .bl)=eL bs
 |[]=>rfl
 |b::bs=>by rw[Ñ,blsOf,YF bs];rfl
def mem_dedup{x:Int}:∀{ns:List Int},x∈dedup ns↔x∈ns
 |[]=>by simp[dedup]
 |n::ns=>by rw[dedup,È,û,mem_dedup,È];by_cases h:x=n<;>simp[h]
def Jc:∀(ns:List Int),(dedup ns).length<=ns.length
 |[]=>by simp[dedup]
 |n::ns=>by have:=Jc ns;have:=Ļ (λy=>y != n)<|dedup ns;rw[dedup,Ï,Ï];lia
def Mw{v:Val}{m:Int}(h:(fA 0 m)[i]?=eL v):v=.int i/\(i:Int)<m:=by unfold fA at h;rw[Ø]at h;let⟨k,hk,rfl⟩:=Ë.mp h;let⟨ϴ,rfl⟩:=Î.mp hk;rw[ı]at ϴ;rw[dO];exact⟨by rw[Int.zero_add],by lia⟩
def M0{m:Int}:(fA 0 m).length=m.toNat:=by unfold fA;rw[Á,ı,Int.sub_zero]
abbrev Brs(ns:List Int):Prop:=∀i∈ns,0<=i/\i<1000
noncomputable abbrev Tie:=Int×Int×Int
abbrev trV(t:Tie):Val:=.tup [.int t.1,.int t.2.1,.int t.2.2]
abbrev LOk(ns:List Int)(t:Tie):Prop:=t.1∈ns/\t.2.1∈ns/\t.1<t.2.1/\1<=t.2.2/\t.2.2<=1000
structure fm(bs:List Int)(ts:List Tie):Prop where
 one:1<=bs.length
 ten:bs.length<=10
 rng:Brs bs
 up:bs.Pairwise (· < ·)
 sixteen:ts.length<=16
 tie:∀t∈ts,LOk bs t
abbrev ZI(bs:List Int)(ts:List Tie):Val:=.tup [.tup<|bs.map .int,.tup<|ts.map trV]
variable {ns:List Int}
def mem_sort{i:Int}:i∈sortI ns↔i∈ns:=(Ŧ ns _).mem_iff
def X3(nd:ns.Nodup):(sortI ns).Pairwise (· < ·):=by have p:=Ŧ ns λa b=>gB (a<=b);have s:(sortI ns).Pairwise λa b=>gB (a<=b)=eN:=bS (λa b c h1 h2=>by simp at *;lia) (λa b=>by simp;lia) ns;have d:(sortI ns).Nodup:=p.nodup_iff.mpr nd;exact(s.and d).imp λ⟨h1,h2⟩=>by simp at h1;lia
def RW(e:h a=eL (.lst<|ns.map .int))(m:ns.length<64)(q:new h (.lst<|(sortI<|dedup ns).map .int) Q):(biV h .sortedSet [.ref a]).wp h Q:=wp_new (by show biSortedSet h (.ref a)=_;unfold biSortedSet sortOf;simp only[e,fe,ý,Zz];rw[gp m]) q
def Oi:∀ns:List Int,(dedup ns).Nodup
 |[]=>đ
 |n::ns=>by rw[dedup,þ];refine⟨λz=>?_,(Oi ns).sublist ĥ⟩;have:=(û.mp z).2;simp at this
def Qw(ns:List Int):(sortI<|dedup ns).Pairwise (· < ·):=X3 (Oi ns)
def CB(ns:List Int):(sortI<|dedup ns).Nodup:=(Qw ns).imp λh=>by lia
def Ph(ns:List Int):(sortI<|dedup ns).length<=ns.length:=by rw[sortI,Ř];exact Jc ns
def Iw(h:1<=ns.length):1<=(sortI<|dedup ns).length:=by
 rw[sortI,Ř];cases ns with
 |nil=>exact gA h (by decide)
 |cons n ns=>rw[dedup,Ï];lia
def sd_mem{i:Int}:i∈sortI (dedup ns)↔i∈ns:=by rw[mem_sort,mem_dedup]
def DS(ns:List Int)(lo hi:Option Int):cut (ns.map Val.int) lo hi=(cut ns lo hi).map Val.int:=by unfold cut;rw[Á,List.map_take,Ϯ]
def LM{a b:Int}(h0:0<=a)(h1:a<=b):cut xs (eL a) (eL b)=(xs.drop a.toNat).take (b.toNat - a.toNat):=by
 unfold cut fE;dsimp only;rw[gp h0,gp<|by lia];by_cases h:a.toNat<=xs.length
 .rw[ϕ h];by_cases h2:b.toNat<=xs.length
  .rw[ϕ h2]
  .rw[Nat.min_eq_right<|by lia];rw[ca (by rw[ſ];lia),ca<|by rw[ſ];lia]
 .rw[Ŕ (by lia:xs.length<=min a.toNat xs.length),Ŕ (by lia:xs.length<=a.toNat)];simp
def Jz{h:Hs}{d:Nat}:∀ns:List Int,(ns.map Val.int).mapM (dat h d)=eL (ns.map D.int)
 |[]=>rfl
 |n::ns=>by rw[Ñ,ş,Jz ns,Ñ];cases d<;>rfl
def An{i:Int}:∀ns:List Int,((ns.map D.int).any λe=>D.eqv e<|.int i)=gB (i∈ns)
 |[]=>by simp
 |n::ns=>by
  rw[Ñ,ķ,An ns,Ni];by_cases h:n=i
  .simp[h]
  .simp[h,Ne.symm h]
def WY{i:Int}:inL h (.int i) (ns.map .int)=eL (gB (i∈ns)):=by unfold inL;rw[Jz];exact congrArg eL (An ns)
def Yk(x:Ext h g)(e:h p=eM):Ext h<|upd g p o:=⟨λ{a u} z=>by rw[eQ<|Za z e];exact x.get z⟩
abbrev far(t:Tie)(b:Int):Int:=if t.1=b then t.2.1 else t.1
abbrev f9(b:Int):Nat->List Tie->List Tie
 |_,[]=>[]
 |k,t::r=>if b=t.1\/b=t.2.1 then((k:Int),far t b,t.2.2)::f9 b (k+1) r else f9 b (k+1) r
def NE{b:Int}{t:Tie}:∀{l:List Tie}{k:Nat},f9 b k (l++[t])=f9 b k l++(if b=t.1\/b=t.2.1 then [(((k+l.length:Nat):Int),far t b,t.2.2)]else [])
 |[],k=>by show f9 b k [t]=_;unfold f9;split<;>rfl
 |u::l,k=>by
  rw[List.cons_append,f9,f9,NE,Ï,show k+1+l.length=k+(l.length+1) by lia];by_cases h:b=u.1\/b=u.2.1
  .rw[gp h,gp h,List.cons_append]
  .rw[gq h,gq h]
def Nf:∀{xs:List Val}{k i:Nat}{v:Val},(enumL k xs)[i]?=eL v->∃x,xs[i]?=eL x/\v=.tup [.int ((k+i:Nat):Int),x]
 |[],_,_,_,e=>by simp[enumL]at e
 |x::xs,k,0,v,e=>by have e:eL (Val.tup [.int k,x])=eL v:=e;cases e;exact⟨x,rfl,rfl⟩
 |x::xs,k,i+1,v,e=>by let⟨y,h1,h2⟩:=Nf (xs:=xs) (k:=k+1) (i:=i) (v:=v) (by simpa[enumL]using e);exact⟨y,⇑h1,by rw[h2,show k+1+i=k+(i+1) by lia]⟩
def Ja:∀(xs:List Val) (k:Nat),(enumL k xs).length=xs.length
 |[],_=>rfl
 |_::xs,k=>by simp[enumL,Ja xs<|k+1]
def M1{i:Int}(q:KB<|gB (i∈ns)):go (fi h .isin (.int i)<|.tup<|ns.map .int) KB:=eV (by show inV h (.int i) (.tup _)=_;unfold inV;exact WY) q
def Ow{i:Int}(q:KB (!gB (i∈ns))):go (fi h .notin (.int i)<|.tup<|ns.map .int) KB:=eV (by show(inV h (.int i)<|.tup _).map _=_;unfold inV;simp only[WY];rfl) q
section
variable {bs:List Int}{ts:List Tie}
def DW{t:Tie}{b:Int}(k:Q (.int<|far t b) h):wF P (n+1) "far_end" [trV t,.int b] h Q X:=by
 let⟨x,y,c⟩:=t;unfold trV;unfold far at k;dsimp only at k ⊢;refine Aq ?_;fail;by_cases e:x=b
 .refine fQ (gx e) ?_;rw[gp e]at k;refine' k
 .refine fR (gu e) ?_;rw[gq e]at k;refine' k
def Xy{b:Int}(l:ts.length<=16)(k:∀p g,h p=eM->Ext h g->g p=eL (.lst<|(f9 b 0 ts).map trV)->Q (.ref p) g):wF P (n+2) "neighbours" [ZI bs ts,.int b] h Q X:=by
 unfold ZI;refine Mq ?_;refine' Ze λp g0 hp x0 e0=>?_
 exists eV rfl
 have nl:∀l:List Tie,∀k,(f9 b k l).length<=l.length:=by
  intro l;induction l with
  |nil=>intro k;exact Ì _
  |cons t l ih =>intro k;have:=ih<|k+1;unfold f9;split<;>simp only[Ï]<;>lia
 refine Zk (λi en g=>Sm2 λv3 v4=>Cj3 (en=[eL<|.tup [.tup<|bs.map .int,.tup<|ts.map trV],eL<|.int b,eL<|.ref p,v3,v4]) (Ext h g)<|g p=eL (.lst<|(f9 b 0<|ts.take i).map trV)) ⟨_,_,rfl,x0,e0⟩ (λ_ _ _ _ _=>trivial) ?_ ?_
 .rintro i v en g hv ⟨v3,v4,rfl,x,ep⟩ K hK;let⟨y,hy,rfl⟩:=Nf hv;rw[Ø]at hy;let⟨t,ht,rfl⟩:=Ë.mp hy;have hi:i<ts.length:=(Î.mp ht).1;have hn:f9 b 0 (ts.take<|i+1)=f9 b 0 (ts.take i)++(if b=t.1\/b=t.2.1 then [((i:Int),far t b,t.2.2)]else []):=by
   rw[Ÿ,ht];have:=NE (b:=b) (t:=t) (l:=ts.take i) (k:=0);rw[Ē,ϕ (by lia),ϓ]at this;exact this
  rw[ϓ];have et:trV t=.tup [.int t.1,.int t.2.1,.int t.2.2]:=rfl;fail;rw[et];refine fP (by simp[fE]) ?_;refine M1 (ns:=[t.1,t.2.1]) ?_;refine' fS (λhc=>?_) (λhc=>?_)
  .exists DW (t:=t)
   fail;have hl:=nl (ts.take i) 0;rw[Ē]at hl;refine ZM ep (by rw[Á,lim];lia) ?_;refine' hK _ _ ⟨_,_,rfl,?_,?_⟩
   .exact Yk x hp
   .have hc:b=t.1\/b=t.2.1:=⇑hc
    rw[hn,gp hc,Û];exact eR
  .refine' hK _ _ ⟨_,_,rfl,x,?_⟩;have hc:¬ (b=t.1\/b=t.2.1):=⇑hc
   rw[hn,gq hc,ö];exact ep
 .rintro en g ⟨v3,v4,rfl,x,ep⟩;rw[Ja,Á,Ă]at ep;refine' k p g hp x ep
end
abbrev WA(rs:List Tie):List<|Int×(Int×Int):=rs.map λr=>(r.1,r.2)
def UV(rs:List Tie):(WA rs).map (·.1)=rs.map (·.1):=by unfold WA;rw[ê];rfl
abbrev ZO(own life most:Int)(rs:List Tie):Br:=⟨own,life,most,WA rs,[],⟨own,0,eM⟩,0,0⟩
variable {own:Int} {life:Int}
def US{rs:List Tie}(hb:h b=eL (.ins "Bridge" []))(hl:h l=eL (.lst<|rs.map trV))(nd:(rs.map (·.1)).Nodup)(h16:rs.length<=16)
  (k:∀t d g,h t=eM->h d=eM->fb g b t d (ZO own life most rs)->Ex [b] h g->Q .non g):wF P (n+1) "Bridge.__init__" [.ref b,.int own,.int life,.ref l,.int most] h Q X:=by
 have nlb:b≠l:=Ek hb hl nofun;refine Km ?_;refine' Yn eR (show(1:Nat)<900 by decide) ?_;refine' Yn eR (show(2:Nat)<900 by decide) ?_;fail;intro t ht;rw[eS,eS]at ht ⊢;have ntb:b≠t:=Za eR ht;have nht:h t=eM:=by rw[eQ ntb.symm]at ht;exact ht
 have ntl:l≠t:=Za hl nht;refine' Yn (upd_ne' ntb eR) (show(3:Nat)<900 by decide) ?_;fail;have hl1:∀{o1 o2 o3:Ob},upd (upd (upd h b o1) t o2) b o3 l=eL (.lst<|rs.map trV):=λ{_ _ _}=>by rw[eQ nlb.symm,eQ ntl,eQ nlb.symm];exact hl
 refine Zk (λi e g=>Sm3 λu v w=>Cj4 (e=[eL<|.ref b,eL<|.int own,eL<|.int life,eL<|.ref l,eL<|.int most,u,v,w]) (g b=eL (.ins "Bridge" [("number",.int own),("life",.int life),("age_let_go",.int most),("ties_by_place",.ref t)])) (g t=eL (.dct<|Zg Bh<|WA<|rs.take i))<|Ex [b] h g) ⟨eM,eM,eM,rfl,eR,by rw[eQ ntb.symm];exact eR,?_⟩ ?_ ?_ ?_
 .refine⟨λ{a o} na e=>?_⟩;have nab:a≠b:=⇑na
  rw[eQ nab,eQ<|Za e nht,eQ nab];exact e
 .rintro i e g _ ⟨u,v,w,rfl,h1,h2,h3⟩;exact lsE (h3.get (by simpa using nlb.symm) hl)
 .rintro i v e g hv ⟨u,v,w,rfl,h1,h2,h3⟩ K hK;let⟨r,hp,rfl⟩:=ZX hv;have nk:=ZV nd hp;let⟨p,nb,c⟩:=r;unfold trV;refine' Yo (k:=.int p) h2 ⟨rfl,?_⟩ ?_
  .rw[Jl];unfold WA;rw[Á];exact Ö (Ý (Ϟ _ _) h16) (by decide)
  rw[show Val.tup [.int nb,.int c]=Bh (nb,c) from rfl,ZZ];refine' hK _ _ ⟨_,_,_,rfl,by rw[eQ ntb];exact h1,?_,?_⟩
  .rw[eR,Xv,Zt hp]
   .unfold WA;rw[Û];rfl
   .rw[UV];exact nk
  .exact⟨λna e=>by rw[eQ<|Za e nht];exact h3.get na e⟩
 .rintro e g ⟨u,v,w,rfl,h1,h2,h3⟩;rw[Á,Ă]at h2;fail;intro d hd;have ndb:b≠d:=Za h1 hd;have ndt:t≠d:=Za h2 hd;have nhd:h d=eM:=h3.none (by rw[h1];intro z;cases z) hd;refine' Yn eR (show(5:Nat)<900 by decide) ?_;refine' Yn eR (show(6:Nat)<900 by decide) ?_;refine' Yn eR (show(7:Nat)<900 by decide) ?_;fail;rw[eS,eS,eS];refine k t d _ nht nhd ⟨eR,?_,?_,ndt⟩ ?_
  .rw[eQ ntb.symm,eQ ndt];exact h2
  .rw[eQ ndb.symm];exact eR
  .exact(h3.trans<|.of<|Ext.new hd).trans (Ex.upd<|by simp)
def JX{b:Int}:∀{l:List Tie}{k:Nat},((f9 b k l).map (·.1)).Pairwise (· < ·)/\∀r∈f9 b k l,(k:Int)<=r.1/\r.1<(k+l.length:Nat)
 |[],k=>⟨by simp[f9],λr hr=>gA hr<|by simp[f9]⟩
 |t::l,k=>by
  let⟨h1,h2⟩:=JX (b:=b) (l:=l) (k:=k+1);unfold f9;split
  .refine⟨?_,λr hr=>?_⟩
   .rw[Ñ,dL];refine⟨λx hx=>?_,h1⟩;let⟨r,hr,rfl⟩:=Ò.mp hx;have:=(h2 r hr).1;show(k:Int)<r.1;lia
   .rcases È.mp hr with rfl|hr
    .exact⟨Š _,by show(k:Int)<((k+(t::l).length:Nat):Int);rw[Ï];lia⟩
    .have:=h2 r hr;rw[Ï];lia
  .refine⟨h1,λr hr=>?_⟩;have:=h2 r hr;rw[Ï];lia
def Uu{b:Int}:∀{l:List Tie}{k:Nat},(f9 b k l).length<=l.length
 |[],k=>Ì _
 |t::l,k=>by have:=Uu (b:=b) (l:=l) (k:=k+1);unfold f9;split<;>simp only[Ï]<;>lia
structure En where
 num:Int
 b:Ad
 t:Ad
 d:Ad
 B:Br
structure Yd where
 y:Ad
 lv:Ad
 st:Ad
 fl:Ad
 rd:Ad
 bs:List Int
 ts:List Tie
 most:Int
 lives:List<|Int×Int
 es:List En
 fallen:List<|Int×Bool
 road:List<|Int×Int×Int×L
abbrev enA(es:List En):List Ad:=es.flatMap λe=>[e.b,e.t,e.d]
abbrev Yd.adr(Y:Yd):List Ad:=[Y.y,Y.lv,Y.st,Y.fl,Y.rd]++enA Y.es
noncomputable abbrev rfV(a:Ad):Val:=.ref a
noncomputable abbrev rdV(r:Int×Int×Int×L):Val:=.tup [.int r.1,.int r.2.1,.int r.2.2.1,r.2.2.2.v]
abbrev stands(es:List En):List<|Int×Ad:=es.map λe=>(e.num,e.b)
def ZN(es:List En):(stands es).map (·.1)=es.map (·.num):=by unfold stands;rw[ê];rfl
structure fc(h:Hs)(Y:Yd):Prop where
 ins:h Y.y=eL (.ins "Yard" [("net_made_of",ZI Y.bs Y.ts),("greatest_age",.int Y.most),("lives",.ref Y.lv),("standing",.ref Y.st),("ties_fallen",.ref Y.fl),("letters_on_road",.ref Y.rd)])
 lives:h Y.lv=eL (.dct<|Zg Val.int Y.lives)
 stand:h Y.st=eL (.dct<|Zg rfV<|stands Y.es)
 fallen:h Y.fl=eL (.dct<|Zg Val.bl Y.fallen)
 road:h Y.rd=eL (.lst<|Y.road.map rdV)
 brs:∀e∈Y.es,fb h e.b e.t e.d e.B
 nd:Y.adr.Nodup
 key:(Y.es.map (·.num)).Nodup
variable {es:List En} {e:En}
def Wq(h:e∈es):e.b∈enA es/\e.t∈enA es/\e.d∈enA es:=by refine⟨?_,?_,?_⟩<;>exact Ť.mpr ⟨e,h,by simp⟩
def Wb(es:List En)(e:En):enA (es++[e])=enA es++[e.b,e.t,e.d]:=by unfold enA;rw[ϫ];simp
variable {Y:Yd}
def fc.keep{S:List Ad}(x:fc h Y)(e:Ex S h g)(ds:∀a∈Y.adr,a∉S):fc g Y:=by have m:∀a∈[Y.y,Y.lv,Y.st,Y.fl,Y.rd],a∉S:=λa ha=>ds a<|Ð _ ha;refine⟨e.get (m _<|by simp) x.ins,e.get (m _<|by simp) x.lives,e.get (m _<|by simp) x.stand,e.get (m _<|by simp) x.fallen,e.get (m _<|by simp) x.road,λb hb=>?_,x.nd,x.key⟩;let⟨q1,q2,q3⟩:=Wq hb;exact(x.brs b hb).keep e (ds _<|Ç _ q1) (ds _<|Ç _ q2) (ds _<|Ç _ q3)
def fc.ext(x:fc h Y)(e:Ext h g):fc g Y:=x.keep (S:=[]) (.of e) λ_ _=>by simp
def fc.taken(x:fc h Y)(ha:a∈Y.adr):h a≠eM:=by
 rcases Õ.mp ha with ha|ha
 .simp only[È,Ù,or_false]at ha;rcases ha with rfl|rfl|rfl|rfl|rfl
  .rw[x.ins];simp
  .rw[x.lives];simp
  .rw[x.stand];simp
  .rw[x.fallen];simp
  .rw[x.road];simp
 .obtain⟨e,he,ha⟩:=Ť.mp ha;have:=x.brs e he;simp only[È,Ù,or_false]at ha;rcases ha with rfl|rfl|rfl
  .rw[this.ins];simp
  .rw[this.ties];simp
  .rw[this.held];simp
def Yd.sep(nd:Y.adr.Nodup)(ha:a∈[Y.y,Y.lv,Y.st,Y.fl,Y.rd])(hb:b∈enA Y.es):b≠a:=λz=>(å.mp nd).2.2 a ha b hb z.symm
def Yd.five(nd:Y.adr.Nodup):(Y.y≠Y.lv/\Y.y≠Y.st/\Y.y≠Y.fl/\Y.y≠Y.rd)/\(Y.lv≠Y.st/\Y.lv≠Y.fl/\Y.lv≠Y.rd)/\(Y.st≠Y.fl/\Y.st≠Y.rd)/\Y.fl≠Y.rd:=by have:=(å.mp nd).1;simp only[þ,È,Ù,or_false,not_or,not_false_eq_true,đ,and_true]at this;let⟨⟨a1,a2,a3,a4⟩,⟨b1,b2,b3⟩,⟨c1,c2⟩,d1⟩:=this;exact⟨⟨a1,a2,a3,a4⟩,⟨b1,b2,b3⟩,⟨c1,c2⟩,d1⟩
def fb.off(x:fb h e.b e.t e.d e.B)(he:e∈es)(n:∀b∈enA es,b≠a):fb (upd h a o) e.b e.t e.d e.B:=by let⟨q1,q2,q3⟩:=Wq he;exact⟨(eQ<|n _ q1).trans x.ins,(eQ<|n _ q2).trans x.ties,(eQ<|n _ q3).trans x.held,x.ne⟩
def fc.setLives(x:fc h Y)(l:List<|Int×Int):fc (upd h Y.lv<|.dct<|Zg Val.int l) {Y with lives:=l}:=by let⟨⟨a1,a2,a3,a4⟩,⟨b1,b2,b3⟩,_,_⟩:=Yd.five x.nd;exact⟨(eQ a1).trans x.ins,eR,(eQ b1.symm).trans x.stand,(eQ b2.symm).trans x.fallen,(eQ b3.symm).trans x.road,λe he=>(x.brs e he).off he λb hb=>Yd.sep x.nd (by simp) hb,x.nd,x.key⟩
def fc.setRoad(x:fc h Y)(l:List<|Int×Int×Int×L):fc (upd h Y.rd<|.lst<|l.map rdV) {Y with road:=l}:=by let⟨⟨a1,a2,a3,a4⟩,⟨b1,b2,b3⟩,⟨c1,c2⟩,d1⟩:=Yd.five x.nd;exact⟨(eQ a4).trans x.ins,(eQ b3).trans x.lives,(eQ c2).trans x.stand,(eQ d1).trans x.fallen,eR,λe he=>(x.brs e he).off he λb hb=>Yd.sep x.nd (by simp) hb,x.nd,x.key⟩
def fc.stands(x:fc h Y)(hb:fb h e.b e.t e.d e.B)(hn:e.num∉Y.es.map (·.num))(fr:∀a∈[e.b,e.t,e.d],a∉Y.adr):fc (upd h Y.st<|.dct<|Zg rfV<|stands<|Y.es++[e]) {Y with es:=Y.es++[e]}:=by
 let⟨⟨a1,a2,a3,a4⟩,⟨b1,b2,b3⟩,⟨c1,c2⟩,d1⟩:=Yd.five x.nd;have Ž:Y.st∈Y.adr:=Ð _ (by simp);have nb:∀a∈enA (Y.es++[e]),a≠Y.st:=λa ha=>by
  rw[Wb]at ha;rcases Õ.mp ha with ha|ha
  .exact Yd.sep x.nd (by simp) ha
  .exact λz=>fr a ha<|z▸Ž
 refine⟨(eQ a2).trans x.ins,(eQ b1).trans x.lives,eR,(eQ c1.symm).trans x.fallen,(eQ c2.symm).trans x.road,λq hq=>?_,?_,?_⟩
 .refine fb.off ?_ hq nb;rcases Õ.mp hq with hq|hq
  .exact x.brs q hq
  .rw[Ó.mp hq];exact hb
 .show([Y.y,Y.lv,Y.st,Y.fl,Y.rd]++enA (Y.es++[e])).Nodup;rw[Wb,<-Ĕ,å];refine⟨x.nd,?_,λa ha b hb z=>fr b hb<|z▸ha⟩;simp[hb.nbt,hb.nbd,hb.ne]
 .show((Y.es++[e]).map (·.num)).Nodup;rw[Û,å];refine⟨x.key,by simp,λa ha b hb=>?_⟩;have:b=e.num:=⇑hb
  rw[this];exact λz=>hn<|z▸ha
def W3{h0:Hs}{fs:List (String×Val)}{f:String}{K:Hs->Prop}(i:g p=eL (.ins "Yard" fs))(x:Ex [p] h0 g)(hp:h0 p=eM)(ha:g a=eM)(m:fs.length<900)(q:∀g',g' p=eL (.ins "Yard"<|fh fs f<|.ref a)->g' a=eL o->Ex [p] h0 g'->Ex [p] g g'->p≠a->h0 a=eM->K g'):go (fM (upd g a o) (.ref p) f<|.ref a) K:=by
 have n:=Za i ha;have y:Ex [p] g<|upd (upd g a o) p<|.ins "Yard"<|fh fs f<|.ref a:=⟨λ{b u} nb e=>by rw[eQ λz=>nb<|by simp[z],eQ<|Za e ha];exact e⟩
 refine Yn (upd_ne' n i) m<|q _ eR ((eQ n.symm).trans eR) (x.trans y) y n ?_;cases z:h0 a with
 |none=>rfl
 |some u=>rw[x.get (by simpa using n.symm) z]at ha;cases ha
structure YNew(bs:List Int)(ts:List Tie)(most:Int)(Y:Yd):Prop where
 hb:Y.bs=bs
 ht:Y.ts=ts
 hm:Y.most=most
 num:Y.es.map (·.num)=bs
 br:∀e∈Y.es,e.B=ZO e.num 0 most (f9 e.num 0 ts)
 fallen:Y.fallen=[]
 road:Y.road=[]
 lives:Y.lives=bs.map λb=>(b,0)
section
variable {bs:List Int}{ts:List Tie}
def CO(no:fm bs ts)(hp:h p=eM)(k:∀Y g,Y.y=p->fc g Y->YNew bs ts most Y->(∀a∈Y.adr,h a=eM)->Ext h g->Q .non g):wF P (n+3) "Yard.__init__" [.ref p,ZI bs ts,.int most] (upd h p<|.ins "Yard" []) Q X:=by
 have h10:=no.ten;have h16:=no.sixteen;have hbl:(bs.map Val.int).length=bs.length:=Á _;have ndb:bs.Nodup:=no.up.imp λh=>by lia
 refine Of ?_;refine' Yn eR (show(1:Nat)<900 by decide) ?_;rw[eS,eS];have i1:=eR (h:=h) (a:=p) (o:=Ob.ins "Yard"<|fh (fh [] "net_made_of"<|ZI bs ts) "greatest_age"<|.int most);have x1:Ex [p] h<|upd h p<|Ob.ins "Yard"<|fh (fh [] "net_made_of"<|ZI bs ts) "greatest_age"<|.int most:=Ex.upd (by simp);generalize upd h p (Ob.ins "Yard"<|fh (fh [] "net_made_of"<|ZI bs ts) "greatest_age"<|.int most)=g1 at i1 x1 ⊢;fail;intro lv hlv;refine' W3 i1 x1 hp hlv (show(2:Nat)<900 by decide) λg2 i2 lv2 x2 y2 nlv flv=>?_;fail;intro st Ž;refine' W3 i2 x2 hp Ž (show(3:Nat)<900 by decide) λg3 i3 st3 x3 y3 nst fst=>?_;fail;intro fl hfl;refine' W3 i3 x3 hp hfl (show(4:Nat)<900 by decide) λg4 i4 fl4 x4 y4 nfl ffl=>?_;refine' Xh λrd hrd=>?_;refine' W3 i4 x4 hp hrd (show(5:Nat)<900 by decide) λg5 i5 rd5 x5 y5 nrd frd=>?_;have q1:lv≠st:=Za lv2 Ž;have lv3:=y3.get (by simpa using nlv.symm) lv2;have q2:lv≠fl:=Za lv3 hfl;have q3:st≠fl:=Za st3 hfl;have lv4:=y4.get (by simpa using nlv.symm) lv3;have st4:=y4.get (by simpa using nst.symm) st3;have q4:lv≠rd:=Za lv4 hrd;have q5:st≠rd:=Za st4 hrd;have q6:fl≠rd:=Za fl4 hrd;have lv5:=y5.get (by simpa using nlv.symm) lv4;have st5:=y5.get (by simpa using nst.symm) st4;have fl5:=y5.get (by simpa using nfl.symm) fl4;have xe:Ext h g5:=⟨λ{a o} e=>x5.get (by simpa using Za e hp) e⟩
 have Y0:fc g5 ⟨p,lv,st,fl,rd,bs,ts,most,[],[],[],[]⟩:=⟨i5,lv5,st5,fl5,rd5,(λe he=>gA he Ù),by
   show([p,lv,st,fl,rd]++[]).Nodup
   simp[nlv,nst,nfl,nrd,q1,q2,q3,q4,q5,q6],đ⟩
 exists eW (xs:=[.tup<|bs.map .int,.tup<|ts.map trV]) (v:=.tup<|bs.map .int) rfl
 refine' Zk (λi en g=>Sm3 λv3 lvs es=>Cj7 (en=[eL<|.ref p,eL<|ZI bs ts,eL<|.int most,v3]) (fc g ⟨p,lv,st,fl,rd,bs,ts,most,lvs,es,[],[]⟩) (lvs=(bs.take i).map (λb=>(b,0))) (es.map (·.num)=bs.take i) ((∀e∈es,e.B=ZO e.num 0 most (f9 e.num 0 ts))) ((∀a∈[p,lv,st,fl,rd]++enA es,h a=eM))<|Ext h g) ⟨_,[],[],rfl,Y0,rfl,rfl,(λe he=>gA he Ù),?_,xe⟩ (λ_ _ _ _ _=>trivial) ?_ ?_
 .intro a ha;simp only[enA,List.flatMap_nil,ö,È,Ù,or_false]at ha;rcases ha with rfl|rfl|rfl|rfl|rfl<;>assumption
 .rintro i v en g hv ⟨v3,lvs,es,rfl,Y,hlv,hnum,hbr,bP,x⟩ K hK;let⟨b,hb,rfl⟩:=ZX hv;have hi:i<bs.length:=(Î.mp hb).1;have hnb:b∉es.map (·.num):=by
   rw[hnum];intro m;have:=ZV (f:=id) (by rw[ů];exact ndb) hb;rw[ů]at this;exact this m
  have hll:lvs.length<=10:=by rw[hlv,Á,Ē];lia
  have hkl:b∉lvs.map (·.1):=by rw[hlv,ê,show((λq:Int×Int=>q.1) ∘ λb:Int=>(b,(0:Int)))=id from rfl,ů,<-hnum];exact hnb
  have hesl:es.length<=10:=by rw[<-Á (f:=(·.num)) (as:=es),hnum,Ē];lia
  let⟨yi,yl,ys,yf,yr,yb,ynd,yk⟩:=id Y;dsimp only at yi yl ys yf yr yb;refine' Yo (k:=.int b) yl ⟨rfl,by rw[Jl];exact Ö hll<|by decide⟩ ?_;rw[ZZ (val:=Val.int)];have Y1:=Y.setLives<|Zo lvs b 0;have x1:Ext h<|upd g lv<|.dct<|Zg Val.int<|Zo lvs b 0:=⟨λe=>by rw[eQ<|Za e flv];exact x.get e⟩
  dsimp only at Y1;generalize upd g lv (.dct<|Zg Val.int<|Zo lvs b 0)=g6 at Y1 x1;let⟨zi,zl,zs,zf,zr,zb,znd,zk⟩:=id Y1;dsimp only at zi zl zs zf zr zb;refine' Xy h16 λpn g7 hpn x7 en=>?_;have Y7:=Y1.ext x7;fail;intro q hq;have nr:=JX (b:=b) (l:=ts) (k:=0);have nl:=Uu (b:=b) (l:=ts) (k:=0);have xq:Ext g7<|upd g7 q<|.ins "Bridge" []:=Ext.new hq;have eq:(upd g7 q<|.ins "Bridge" []) q=eL (.ins "Bridge" []):=eR;refine US (rs:=f9 b 0 ts) eq (xq.get en) (nr.1.imp λz=>by lia) (by lia) λt d g8 ht hd ba x8=>?_;have x78:Ext g7 g8:=⟨λ{a o} e=>x8.get (by simpa using Za e hq)<|xq.get e⟩
  have Y8:=Y7.ext x78;have ht7:g7 t=eM:=by cases z:g7 t with|none=>rfl|some o=>rw[xq.get z]at ht;cases ht
  have hd7:g7 d=eM:=by cases z:g7 d with|none=>rfl|some o=>rw[xq.get z]at hd;cases hd
  refine⟨rfl,?_⟩;let⟨wi,wl,ws,wf,wr,wb,wnd,wk⟩:=id Y8;dsimp only at wi wl ws wf wr wb;refine' Yo (k:=.int b) ws ⟨rfl,by rw[Jl];unfold stands;rw[Á];exact Ö hesl<|by decide⟩ ?_;rw[ZZ (val:=rfV),Xv _<|by rw[ZN];exact hnb];have Ž:stands es++[(b,q)]=stands (es++[⟨b,q,t,d,ZO b 0 most<|f9 b 0 ts⟩]):=by unfold stands;rw[Û];rfl
  rw[Ž];have fr:∀a∈[q,t,d],g7 a=eM:=λa ha=>by simp only[È,Ù,or_false]at ha;rcases ha with rfl|rfl|rfl<;>assumption
  have Y9:=Y8.stands (e:=⟨b,q,t,d,ZO b 0 most<|f9 b 0 ts⟩) ba hnb λa ha z=>Y7.taken z<|fr a ha;fail;have x9:Ext h g8:=(x1.trans x7).trans x78;refine hK _ _ ⟨_,_,_,rfl,Y9,?_,?_,?_,?_,⟨λe=>by rw[eQ<|Za e fst];exact x9.get e⟩⟩
  .show Zo lvs b 0=_;rw[Xv _ hkl,hlv,Zt hb,Û];rfl
  .rw[Û,hnum,Ÿ,hb];rfl
  .intro e he;rcases Õ.mp he with he|he
   .exact hbr e he
   .rw[Ó.mp he]
  .intro a ha;rw[Wb,<-Ĕ]at ha;rcases Õ.mp ha with ha|ha
   .exact bP a ha
   .cases z:h a with
    |none=>rfl
    |some o=>have:=fr a ha;rw[(x1.trans x7).get z]at this;cases this
 .rintro en g ⟨v3,lvs,es,rfl,Y,hlv,hnum,hbr,bP,x⟩;rw[hbl,Ă]at hnum hlv;refine' k _ g rfl Y ⟨rfl,rfl,rfl,hnum,hbr,rfl,rfl,hlv⟩ bP x
end
abbrev Z8(ts:List Tie)(p num:Int):Int:=far (ts[p.toNat]?.getD (0,0,0)) num
abbrev Yl(ts:List Tie)(num:Int)(B:Br):List<|Int×Int×Int×L:=(sortI (B.ties.map (·.1))).map λp=>(num,Z8 ts p num,p,Zy B p)
def YZ{num:Int}(h:(stands es).lookup num=eL b):∃e pre Ĺ,es=pre++e::Ĺ/\e.num=num/\e.b=b:=by have:=Zf h;unfold stands at this;let⟨e,he,z⟩:=Ò.mp this;let⟨pre,Ĺ,rfl⟩:=dP he;injection z with z1 z2;exact⟨e,pre,Ĺ,rfl,z1,z2⟩
def YC(pre Ĺ:List En)(e:En):enA (pre++e::Ĺ)=enA pre++([e.b,e.t,e.d]++enA Ĺ):=by unfold enA;rw[ϫ];rfl
variable {Ĺ:List En}
def fc.change{pre:List En}(x:fc h Y)(he:Y.es=pre++e::Ĺ)(ex:Ex [e.b] h g)(hb:fb g e.b t d B)(ft:t=e.t\/h t=eM)(fd:d=e.d\/h d=eM):fc g {Y with es:=pre++⟨e.num,e.b,t,d,B⟩::Ĺ}:=by
 let⟨y,lv,st,fl,rd,bs,ts,most,lives,es,fallen,road⟩:=Y;dsimp only at he;subst he;have hm:e∈pre++e::Ĺ:=by simp
 have heA:=Wq hm;have nb:∀a∈[y,lv,st,fl,rd],a∉[e.b]:=λa ha z=>Yd.sep x.nd ha heA.1 (Ó.mp z).symm;have nd0:([y,lv,st,fl,rd]++(enA pre++([e.b,e.t,e.d]++enA Ĺ))).Nodup:=by rw[<-YC];exact x.nd
 have key:∀q∈pre++Ĺ,fb g q.b q.t q.d q.B:=λq hq=>by
  have hq':q∈pre++e::Ĺ:=by
   rcases Õ.mp hq with z|z
   .exact Ð _ z
   .exact Ç _<|á _ z
  have nq:∀a∈[q.b,q.t,q.d],a≠e.b:=λa ha z=>by
   have n1:=(å.mp nd0).2.1;rcases Õ.mp hq with hq|hq
   .have ha':a∈enA pre:=Ť.mpr ⟨q,hq,ha⟩;exact(å.mp n1).2.2 a ha' e.b (by simp) z
   .have ha':a∈enA Ĺ:=Ť.mpr ⟨q,hq,ha⟩;have n2:=(å.mp n1).2.1;exact(å.mp n2).2.2 e.b (by simp) a ha' z.symm
  exact(x.brs q hq').keep ex (by simpa using nq _ (by simp)) (by simpa using nq _ (by simp)) (by simpa using nq _ (by simp))
 have tk:∀a∈[y,lv,st,fl,rd]++(enA pre++([e.b,e.t,e.d]++enA Ĺ)),h a≠eM:=λa ha=>x.taken (by show a∈[y,lv,st,fl,rd]++enA (pre++e::Ĺ);rw[YC];exact ha);have fr:∀{a c:Ad},(a=c\/h a=eM)->∀z,z∈[y,lv,st,fl,rd]++(enA pre++([e.b,e.t,e.d]++enA Ĺ))->z≠c->z≠a:=λf z hz nc e=>by
  subst e;rcases f with f|f
  .exact nc f
  .exact tk z hz f
 refine⟨ex.get (nb _<|by simp) x.ins,ex.get (nb _<|by simp) x.lives,?_,ex.get (nb _<|by simp) x.fallen,ex.get (nb _<|by simp) x.road,λq hq=>?_,?_,?_⟩
 .have:=ex.get (nb st<|by simp) x.stand;dsimp only at this ⊢;rw[this];unfold O.stands;simp
 .dsimp only at hq;rcases Õ.mp hq with z|z
  .exact key q<|Ð _ z
  .rcases È.mp z with rfl|z
   .exact hb
   .exact key q<|Ç _ z
 .show([y,lv,st,fl,rd]++enA (pre++⟨e.num,e.b,t,d,B⟩::Ĺ)).Nodup;rw[YC];dsimp only;have n1:=å.mp nd0;have n2:=å.mp n1.2.1;have n3:=å.mp n2.2.1;have e3:e.b≠e.t/\e.b≠e.d/\e.t≠e.d:=by
   have:=n3.1;simp only[þ,È,Ù,or_false,not_or,đ,and_true,not_false_eq_true]at this;exact⟨this.1.1,this.1.2,this.2⟩
  have out:∀z,z∈[y,lv,st,fl,rd]\/z∈enA pre\/z∈enA Ĺ->z∉[e.b,t,d]:=λz hz m=>by
   have hza:z∈[y,lv,st,fl,rd]++(enA pre++([e.b,e.t,e.d]++enA Ĺ)):=by
    rcases hz with q|q|q
    .exact Ð _ q
    .exact Ç _<|Ð _ q
    .exact Ç _<|Ç _<|Ç _ q
   have nz:∀c∈[e.b,e.t,e.d],z≠c:=λc hc w=>by
    rcases hz with q|q|q
    .exact n1.2.2 z q c (Ç _<|Ð _ hc) w
    .exact n2.2.2 z q c (Ð _ hc) w
    .exact n3.2.2 c hc z q w.symm
   simp only[È,Ù,or_false]at m;rcases m with m|m|m
   .exact nz e.b (by simp) m
   .exact fr ft z hza (nz e.t<|by simp) m
   .exact fr fd z hza (nz e.d<|by simp) m
  refine å.mpr ⟨n1.1,å.mpr ⟨n2.1,å.mpr ⟨?_,n3.2.1,λa ha b hb z=>out b (.inr<|.inr hb)<|z▸ha⟩,λa ha b hb z=>?_⟩,λa ha b hb z=>?_⟩
  .simp[hb.nbt,hb.nbd,hb.ne]
  .rcases Õ.mp hb with q|q
   .exact out a (.inr<|.inl ha)<|z▸q
   .exact n2.2.2 a ha b (Ç _ q) z
  .rcases Õ.mp hb with q|q
   .exact n1.2.2 a ha b (Ð _ q) z
   .rcases Õ.mp q with q|q
    .exact out a (.inl ha)<|z▸q
    .exact n1.2.2 a ha b (Ç _<|Ç _ q) z
 .have:=x.key;simpa using this
def fc.inner{pre:List En}(x:fc h Y)(he:Y.es=pre++e::Ĺ)(ex:Ex [e.b,e.t,e.d] h g)(hb:fb g e.b e.t e.d B):fc g {Y with es:=pre ++ {e with B:=B} :: Ĺ}:=by
 let⟨y,lv,st,fl,rd,bs,ts,most,lives,es,fallen,road⟩:=Y;dsimp only at he;subst he;have nd0:([y,lv,st,fl,rd]++(enA pre++([e.b,e.t,e.d]++enA Ĺ))).Nodup:=by rw[<-YC];exact x.nd
 have n1:=å.mp nd0;have n2:=å.mp n1.2.1;have n3:=å.mp n2.2.1;have nb:∀a∈[y,lv,st,fl,rd],a∉[e.b,e.t,e.d]:=λa ha z=>n1.2.2 a ha a (Ç _<|Ð _ z) rfl;have key:∀q,q∈pre\/q∈Ĺ->fb g q.b q.t q.d q.B:=λq hq=>by
  have hq':q∈pre++e::Ĺ:=by
   rcases hq with z|z
   .exact Ð _ z
   .exact Ç _<|á _ z
  have nq:∀a∈[q.b,q.t,q.d],a∉[e.b,e.t,e.d]:=λa ha z=>by
   rcases hq with hq|hq
   .exact n2.2.2 a (Ť.mpr ⟨q,hq,ha⟩) a (Ð _ z) rfl
   .exact n3.2.2 a z a (Ť.mpr ⟨q,hq,ha⟩) rfl
  exact(x.brs q hq').keep ex (nq _<|by simp) (nq _<|by simp) (nq _<|by simp)
 refine⟨ex.get (nb _<|by simp) x.ins,ex.get (nb _<|by simp) x.lives,?_,ex.get (nb _<|by simp) x.fallen,ex.get (nb _<|by simp) x.road,λq hq=>?_,?_,?_⟩
 .have:=ex.get (nb st<|by simp) x.stand;dsimp only at this ⊢;rw[this];unfold O.stands;simp
 .dsimp only at hq;rcases Õ.mp hq with z|z
  .exact key q<|.inl z
  .rcases È.mp z with rfl|z
   .exact hb
   .exact key q<|.inr z
 .show([y,lv,st,fl,rd]++enA (pre ++ {e with B:=B} :: Ĺ)).Nodup;rw[YC];exact nd0
 .have:=x.key;dsimp only at this ⊢;simpa using this
def Pa{xs:List Val}{v:Val}{p:Nat}{K:Val×Hs->Prop}(e1:h a=eL (.lst xs))(e:xs[p]?=eL v)(m:xs.length<=500000)(q:K (v,upd h a<|.lst<|xs.eraseIdx p)):go (bmV h .popAt (.ref a) [.int p]) K:=by
 have hp:p<xs.length:=(Î.mp e).1;have h1:-(2 ^ 62)<(p:Int)/\(p:Int)<2 ^ 62:=by
  have:(p:Int)<500000:=by lia
  exact⟨Int.lt_of_lt_of_le (by decide:(-(2 ^ 62):Int)<0)<|eF p,Int.lt_trans this<|by decide⟩
 have h2:ixN xs.length (p:Int)=eL p:=by unfold ixN;rw[gp<|eF p,gp (by lia),â]
 have h3:bmPopAt h [.int p] a xs=eL (v,upd h a<|.lst<|xs.eraseIdx p):=by unfold bmPopAt;dsimp only;rw[gp h1,h2];simp only[ý,e,œ]
 exact eV (by show(fe<|h a).bind (bmPopAt h [.int p] a)=_;rw[lsE e1,ý];exact h3) q
def Mb{α β:Type}(f:α->β):∀(l:List α) (i:Nat),(l.map f).eraseIdx i=(l.eraseIdx i).map f
 |[],_=>by simp
 |_::_,0=>by simp
 |x::l,i+1=>by simp[Mb f l i]
section
variable {Y:Yd}{p:Nat}
variable {r:Int×Int×Int×L}
def XI(x:fc h Y)(hr:Y.road[p]?=eL r)(hl:Y.road.length<=500000)(k:∀g,fc g {Y with road:=Y.road.eraseIdx p}->Ex [Y.rd] h g->Q (rdV r) g):wF P (n+1) "Yard.take_off" [.ref Y.y,.int p] h Q X:=by have xi:=x.ins;have xr:=x.road;have hp:p<Y.road.length:=(Î.mp hr).1;have hrl:(Y.road.map rdV).length=Y.road.length:=Á _;refine WG ?_;fail;refine fQ (by simp) ?_;fail;refine fR (by rw[hrl];simpa using hp) ?_;refine' Pa xr (by rw[Ø,hr];rfl) (by lia) ?_;rw[Mb];exact k _ (x.setRoad _) (Ex.upd<|by simp)
def FO{pre:List En}(x:fc h Y)(hr:Y.road[p]?=eL r)(hl:Y.road.length<=500000)(he:Y.es=pre++e::Ĺ)(hg:r.2.1=e.num)(o:e.B.ok)
  (k:∀g,fc g {Y with es:=pre ++ {e with B:=ZS e.B r.2.2.1 r.2.2.2} :: Ĺ,road:=Y.road.eraseIdx p}->Ex Y.adr h g->Q .non g):wF P (n+3) "Yard.come" [.ref Y.y,.int p] h Q X:=by
 have xi:=x.ins;have hm:e∈Y.es:=by rw[he];simp
 have lk:(stands Y.es).lookup r.2.1=eL e.b:=by rw[hg];exact Yj (by rw[ZN];exact x.key)<|Ò.mpr ⟨e,hm,rfl⟩
 refine WB ?_;refine' XI x hr hl λg1 y1 x1=>?_;have yi:=y1.ins;have ys:=y1.stand;have ba:=y1.brs e hm;have bi:=ba.ins;dsimp only at yi ys;let⟨rs,rg,rt,rl⟩:=r;dsimp only at lk hg k
 exists Ju ys rfl
 rw[YT,lk];walk_at "p";refine Yb ys rfl (by rw[Z5,lk];rfl) ?_;refine' FG ba o λg2 b2 x2=>?_;have y2:=y1.inner (e:=e) he (x2.sub<|by simp) b2;have mA:=Wq hm;refine' k g2 y2 ((x1.sub λa ha=>?_).trans<|x2.sub λa ha=>?_)
 .rw[Ó.mp ha];exact Ð _ (by simp)
 .rw[Ó.mp ha];exact Ç _ mA.2.2
def D7(x:fc h Y)(hr:Y.road[p]?=eL r)(hl:Y.road.length<=500000)(hg:r.2.1∉Y.es.map (·.num))
  (k:∀g,fc g {Y with road:=Y.road.eraseIdx p}->Ex Y.adr h g->Q .non g):wF P (n+3) "Yard.come" [.ref Y.y,.int p] h Q X:=by
 have xi:=x.ins;have lk:(stands Y.es).lookup r.2.1=eM:=by
  cases z:(stands Y.es).lookup r.2.1 with
  |none=>rfl
  |some q =>have:=ò (f:=(·.1))<|Zf z;rw[ZN]at this;exact gA this hg
 refine WB ?_;refine' XI x hr hl λg1 y1 x1=>?_;have yi:=y1.ins;have ys:=y1.stand;dsimp only at yi ys;let⟨rs,rg,rt,rl⟩:=r;dsimp only at lk hg k
 exists Ju ys rfl
 rw[YT,lk];walk_at "p";exact k g1 y1 (x1.sub λa ha=>by rw[Ó.mp ha];exact Ð _<|by simp)
end
abbrev Yh(k:Int)(F:Br->Br)(es:List En):List En:=es.map λe=>if e.num=k then {e with B:=F e.B} else e
def XX{k:Int}{F:Br->Br}:∀{es:List En},k∉es.map (·.num)->Yh k F es=es
 |[],_=>rfl
 |e::es,h=>by rw[Ñ,È,not_or]at h;unfold Yh;rw[Ñ,gq λz=>h.1 z.symm];exact congrArg (e :: ·)<|XX h.2
variable {F:Br->Br}
def NW{pre:List En}(nd:((pre++e::Ĺ).map (·.num)).Nodup):Yh e.num F (pre++e::Ĺ)=pre ++ {e with B:=F e.B} :: Ĺ:=by rw[Û,Ñ,å,þ]at nd;have h1:Yh e.num F pre=pre:=XX λz=>nd.2.2 _ z e.num (by simp) rfl;have h2:Yh e.num F Ĺ=Ĺ:=XX nd.2.1.1;unfold Yh at h1 h2 ⊢;rw[Û,Ñ,h1,h2,gp rfl]
def Od{k:Int}(es:List En):(Yh k F es).map (·.num)=es.map (·.num):=by unfold Yh;rw[ê];refine Ĥ λe _=>?_;show(if e.num=k then({e with B:=F e.B}:En)else e).num=e.num;split<;>rfl
def Np{k:Int}(es:List En):stands (Yh k F es)=stands es:=by unfold Yh stands;rw[ê];refine Ĥ λe _=>?_;show((if e.num=k then({e with B:=F e.B}:En)else e).num,(if e.num=k then({e with B:=F e.B}:En)else e).b)=_;split<;>rfl
def XZ{k:Int}{F:Br->Br}:∀es:List En,enA (Yh k F es)=enA es
 |[]=>rfl
 |e::es=>by have:=XZ (k:=k) (F:=F) es;unfold Yh enA at this ⊢;rw[Ñ,Ź,Ź,this];split<;>rfl
def Om{k:Int}{q:En}(h:q∈Yh k F es):(q∈es/\q.num≠k)\/∃e∈es,e.num=k/\q={e with B:=F e.B}:=by
 let⟨e,he,rfl⟩:=Ò.mp h;by_cases z:e.num=k
 .right;exact⟨e,he,z,by rw[gp z]⟩
 .left;rw[gq z];exact⟨he,z⟩
abbrev tieF(on:Bool)(p:Int)(far c:Int)(B:Br):Br:=if on then upB B p (far,c)else Ce B p
abbrev setT(on:Bool)(p:Int)(t:Tie)(es:List En):List En:=Yh t.2.1 (tieF on p t.1 t.2.2)<|Yh t.1 (tieF on p t.2.1 t.2.2) es
abbrev onT(Y:Yd)(p:Int)(t:Tie):Bool:=!(Y.fallen.lookup p).isSome&&(((stands Y.es).lookup t.1).isSome&&((stands Y.es).lookup t.2.1).isSome)
section
variable {Y:Yd}
def fc.one(x:fc h Y)(he:e∈Y.es)(ex:Ex [e.b,e.t,e.d] h g)(hb:fb g e.b e.t e.d<|F e.B):fc g {Y with es:=Yh e.num F Y.es}:=by let⟨pre,Ĺ,hs⟩:=dP he;have k:=x.key;rw[hs]at k;rw[hs,NW k];exact x.inner hs ex hb
end
noncomputable abbrev Gw:Ss:=#[.ite (.val<|.var 5) #[.expr<|.meth "Bridge" "up" (.idx (.fld (.var 0) "standing")<|.var 6) #[.var 1,.var 7,.var 4]] #[.ite (.val<|.cmp .isin (.var 6)<|.fld (.var 0) "standing") #[.expr<|.meth "Bridge" "down" (.idx (.fld (.var 0) "standing")<|.var 6) #[.var 1]] .nil]]
section
variable {Y:Yd}
def MJ{p:Nat}{t1 t2:Int}{on:Bool}{v6 v7:Option Val}{R:NQ}(x:fc h Y)(hn:t1≠t2)(gd:∀e∈Y.es,e.B.ok)(hon:∀near far:Int,(near=t1/\far=t2\/near=t2/\far=t1)->on=eN->∃b,(stands Y.es).lookup near=eL b)
  (k:∀g e,fc g {Y with es:=setT on p (t1,t2,c) Y.es}->Ex Y.adr h g->R e g) :
  wFor (λ_=>True) (λv e g K M=>go (bind (.many [6,7]) g v e) λe2=>wSs (wF P<|n+1) Gw e2 g K Q M K λ_ c g=>X c g) R [.tup [.int t1,.int t2],.tup [.int t2,.int t1]] [eL<|.ref Y.y,eL<|.int p,eL<|.int t1,eL<|.int t2,eL<|.int c,eL<|.bl on,v6,v7] h:=by
 refine Zk (λi e g=>∃v6 v7 es',e=[eL<|.ref Y.y,eL<|.int p,eL<|.int t1,eL<|.int t2,eL<|.int c,eL<|.bl on,v6,v7]/\fc g {Y with es:=es'}/\Ex Y.adr h g/\(i=0->es'=Y.es)/\(i=1->es'=Yh t1 (tieF on p t2 c) Y.es)/\(i=2->es'=setT on p (t1,t2,c) Y.es)) ⟨_,_,Y.es,rfl,x,Ex.refl,λ_=>rfl,λz=>(by cases z),λz=>(by cases z)⟩ (λ_ _ _ _ _=>trivial) ?_ ?_
 .rintro i v e g hv ⟨u6,u7,es',rfl,y,xg,q0,q1,q2⟩ K hK;obtain⟨near,far,rfl,hnf,Ž,heA,hgd,hnext⟩:∃near far,v=.tup [.int near,.int far]/\(near=t1/\far=t2\/near=t2/\far=t1)/\stands es'=stands Y.es/\enA es'=enA Y.es/\(∀e∈es',e.num=near->e.B.ok)/\∀dA,dA=Yh near (tieF on p far c) es'->(i+1=0->dA=Y.es)/\(i+1=1->dA=Yh t1 (tieF on p t2 c) Y.es)/\(i+1=2->dA=setT on p (t1,t2,c) Y.es):=by
   match i,hv with
   |0,hv =>cases hv;have:=q0 rfl;subst this;exact⟨t1,t2,rfl,.inl ⟨rfl,rfl⟩,rfl,rfl,λe he _=>gd e he,λdA z=>⟨λy=>(by cases y),λ_=>z,λy=>(by cases y)⟩⟩
   |1,hv =>
    cases hv;have:=q1 rfl;subst this;refine⟨t2,t1,rfl,.inr ⟨rfl,rfl⟩,Np _,XZ _,λe he hz=>?_,λdA z=>⟨λy=>(by cases y),λy=>(by cases y),λ_=>z⟩⟩;rcases Om he with⟨hm,_⟩|⟨q,hq,hq1,hq2⟩
    .exact gd e hm
    .exact gA (by rw[hq2]at hz;exact hq1.symm.trans hz) hn
   |i+2,hv=>simp at hv
  have yi:=y.ins;have ys:=y.stand;dsimp only at yi ys;have step:∀{e:En}{g':Hs},e∈es'->e.num=near->Ex [e.b,e.t,e.d] g g'->fb g' e.b e.t e.d (tieF on p far c e.B)->∀w6 w7,K [eL<|.ref Y.y,eL<|.int p,eL<|.int t1,eL<|.int t2,eL<|.int c,eL<|.bl on,w6,w7] g':=λ{e g'} he ž ex hb w6 w7=>by
   have y':=y.one (F:=tieF on p far c) he ex hb;rw[ž]at y';have mA:=Wq he;refine hK _ _ ⟨w6,w7,_,rfl,y',xg.trans<|ex.sub λa ha=>?_,hnext _ rfl⟩;refine Ç _ ?_;rw[<-heA];simp only[È,Ù,or_false]at ha;rcases ha with rfl|rfl|rfl
   .exact mA.1
   .exact mA.2.1
   .exact mA.2.2
  fail;cases hob:on with
  |true =>
   let⟨b,lk⟩:=hon near far hnf hob;rw[<-Ž]at lk;let⟨e,pre,Ĺ,hs,ž,hbb⟩:=YZ lk;have hm:e∈es':=by rw[hs];simp
   have ba:=y.brs e hm;have bi:=ba.ins;subst hbb;refine fQ rfl ?_;refine' Yb ys rfl (by rw[Z5,lk];rfl) ?_;refine' Qc ba (hgd e hm ž) λg' b' x'=>?_;fail;rw[<-hob];exact step hm ž (x'.sub<|by simp) (by unfold tieF;rw[hob];exact b') _ _
  |false =>
   refine fR rfl ?_
   exists Ju ys rfl
   rw[YT];cases hlk:(stands es').lookup near with
   |none =>
    walk_at "p";rw[<-hob];refine hK _ _ ⟨_,_,es',rfl,y,xg,hnext es' (XX ?_).symm⟩;have:=Xq hlk
    rwa [ZN]at this
   |some b =>
    let⟨e,pre,Ĺ,hs,ž,hbb⟩:=YZ hlk;have hm:e∈es':=by rw[hs];simp
    have ba:=y.brs e hm;have bi:=ba.ins;subst hbb;walk_at "p";refine Yb ys rfl (by rw[Z5,hlk];rfl) ?_;refine' FX ba λg' b' x'=>?_;fail;rw[<-hob];exact step hm ž (x'.sub<|by simp) (by unfold tieF;rw[hob];exact b') _ _
 .rintro e g ⟨u6,u7,es',rfl,y,xg,q0,q1,q2⟩;have:=q2 rfl;subst this;exact k _ _ y xg
def Wp{p:Nat}{t:Tie}(x:fc h Y)(et:Y.ts[p]?=eL t)(hn:t.1≠t.2.1)(gd:∀e∈Y.es,e.B.ok)(k:∀g,fc g {Y with es:=setT (onT Y p t) p t Y.es}->Ex Y.adr h g->Q .non g):wF P (n+2) "Yard.set_tie" [.ref Y.y,.int p] h Q X:=by
 have xi:=x.ins;have xs:=x.stand;have xf:=x.fallen;let⟨t1,t2,c⟩:=t;dsimp only at hn;have fin:onT Y p (t1,t2,c)=onT Y p (t1,t2,c)->∀near far:Int,(near=t1/\far=t2\/near=t2/\far=t1)->onT Y p (t1,t2,c)=eN->∃b,(stands Y.es).lookup near=eL b:=λ_ near far hv ho=>by
  simp only[onT,bAq]at ho;rcases hv with⟨rfl,_⟩|⟨rfl,_⟩
  .exact ç.mp ho.2.1
  .exact ç.mp ho.2.2
 refine Je ?_
 exists eW (xs:=[.tup<|Y.bs.map .int,.tup<|Y.ts.map trV]) (v:=.tup<|Y.ts.map trV) rfl
 refine' eW (v:=.tup [.int t1,.int t2,.int c]) (YO (by lia)<|by rw[Ø,â,et];rfl) ?_
 exists Xz xf rfl
 rw[YT];obtain⟨on,hon⟩:∃on:Bool,on=onT Y p (t1,t2,c):=⟨_,rfl⟩
 rw[<-hon]at k fin;have fin:=fin rfl;cases e1:(Y.fallen.lookup (p:Int)).isSome with
 |true =>
  have z:eP=on:=by rw[hon];unfold onT;rw[e1];rfl
  walk_at "p";rw[z];exact MJ x hn gd fin λg e y xg=>by fail;exact k g y xg
 |false =>
  walk_at "p";refine Ju xs rfl ?_;rw[YT];cases e2:((stands Y.es).lookup t1).isSome with
  |false =>
   have z:eP=on:=by rw[hon];unfold onT;rw[e1,e2];rfl
   walk_at "p";rw[z];exact MJ x hn gd fin λg e y xg=>by fail;exact k g y xg
  |true =>
   walk_at "p";refine Ju xs rfl ?_;rw[YT];have z:((stands Y.es).lookup t2).isSome=on:=by rw[hon];unfold onT;rw[e1,e2];rfl
   rw[z];refine' MJ x hn gd fin λg e y xg=>by fail;exact k g y xg
end
variable {on:Bool}
def Ml{p far:Int}(o:B.ok)(h0:0<=p)(h1:p<16):(tieF on p far c B).ok:=by
 unfold tieF;split
 .exact o.up h0 h1
 .exact o.down p
def Ae{k:Int}(gd:∀e∈es,e.B.ok)(hF:∀B,B.ok->(F B).ok):∀e∈Yh k F es,e.B.ok:=λq hq=>by
 rcases Om hq with⟨hm,_⟩|⟨e,he,_,rfl⟩
 .exact gd q hm
 .exact hF _<|gd e he
def F5{p:Int}{t:Tie}(gd:∀e∈es,e.B.ok)(h0:0<=p)(h1:p<16):∀e∈setT on p t es,e.B.ok :=
 Ae (Ae gd λ_ o=>Ml o h0 h1) λ_ o=>Ml o h0 h1
def Ef{p:Int}{t:Tie}(es:List En):(setT on p t es).map (·.num)=es.map (·.num):=by unfold setT;rw[Od,Od]
def JK{p:Int}{t:Tie}(es:List En):enA (setT on p t es)=enA es:=by unfold setT;rw[XZ,XZ]
abbrev ZR(Y:Yd)(l:List Tie):Yd:=l.foldl (λY r=>{Y with es:=setT (onT Y r.1<|Y.ts[r.1.toNat]?.getD (0,0,0)) r.1 (Y.ts[r.1.toNat]?.getD (0,0,0)) Y.es}) Y
def JY(Y:Yd)(l:List Tie)(r:Tie):ZR Y (l++[r])={ZR Y l with es:=setT (onT (ZR Y l) r.1<|(ZR Y l).ts[r.1.toNat]?.getD (0,0,0)) r.1 ((ZR Y l).ts[r.1.toNat]?.getD (0,0,0)) (ZR Y l).es}:=by unfold ZR;rw[eK];rfl
structure Same(Y Z:Yd):Prop where
 y:Z.y=Y.y
 lv:Z.lv=Y.lv
 st:Z.st=Y.st
 fl:Z.fl=Y.fl
 rd:Z.rd=Y.rd
 bs:Z.bs=Y.bs
 ts:Z.ts=Y.ts
 most:Z.most=Y.most
 lives:Z.lives=Y.lives
 fallen:Z.fallen=Y.fallen
 road:Z.road=Y.road
 num:Z.es.map (·.num)=Y.es.map (·.num)
 enA:enA Z.es=enA Y.es
variable {Z:Yd}
def Same.adr(s:Same Y Z):Z.adr=Y.adr:=by unfold Yd.adr;rw[s.y,s.lv,s.st,s.fl,s.rd,s.enA]
def Same.refl:Same Y Y:=⟨rfl,rfl,rfl,rfl,rfl,rfl,rfl,rfl,rfl,rfl,rfl,rfl,rfl⟩
variable {W:Yd}
def Same.trans(a:Same Y Z)(b:Same Z W):Same Y W:=⟨b.y.trans a.y,b.lv.trans a.lv,b.st.trans a.st,b.fl.trans a.fl,b.rd.trans a.rd,b.bs.trans a.bs,b.ts.trans a.ts,b.most.trans a.most,b.lives.trans a.lives,b.fallen.trans a.fallen,b.road.trans a.road,b.num.trans a.num,b.enA.trans a.enA⟩
def Same.setT{p:Int}{t:Tie}:Same Y {Y with es:=setT on p t Y.es}:=⟨rfl,rfl,rfl,rfl,rfl,rfl,rfl,rfl,rfl,rfl,rfl,Ef _,JK _⟩
def YJ:∀(l:List Tie) (Y:Yd),Same Y (ZR Y l)
 |[],_=>.refl
 |_::l,_=>Same.setT.trans<|YJ l _
section
variable {Y:Yd}
def J5{b:Int}(no:fm Y.bs Y.ts)(x:fc h Y)(gd:∀e∈Y.es,e.B.ok)(k:∀g,fc g (ZR Y<|f9 b 0 Y.ts)->(∀e∈(ZR Y<|f9 b 0 Y.ts).es,e.B.ok)->Ex Y.adr h g->Q .non g):wF P (n+3) "Yard.set_ties_of" [.ref Y.y,.int b] h Q X:=by
 have xi:=x.ins;have h16:=no.sixteen;refine XG ?_;refine' Xy no.sixteen λp g0 hp x0 e0=>?_;fail;have x':=x.ext x0;have npA:p∉Y.adr:=λz=>x.taken z hp;refine Zk (λi e g=>Sm3 λv2 v3 v4=>Cj4 (e=[eL<|.ref Y.y,eL<|.int b,v2,v3,v4]) (fc g<|ZR Y<|(f9 b 0 Y.ts).take i) ((∀e∈(ZR Y<|(f9 b 0 Y.ts).take i).es,e.B.ok))<|Ex Y.adr g0 g) ⟨_,_,_,rfl,x',gd,Ex.refl⟩ (λi e g _ ⟨_,_,_,_,_,_,z⟩=>lsE<|z.get npA e0) ?_ ?_
 .rintro i v e g hv ⟨v2,v3,v4,rfl,y,gi,xg⟩ K hK;let⟨r,hr,rfl⟩:=ZX hv;have sm:=YJ ((f9 b 0 Y.ts).take i) Y;have rg:=(JX (b:=b) (l:=Y.ts) (k:=0)).2 r<|é hr;obtain⟨q,hq⟩:∃q:Nat,r.1=q:=⟨r.1.toNat,by lia⟩
  have hql:q<Y.ts.length:=by lia
  have et:(ZR Y<|(f9 b 0 Y.ts).take i).ts[q]?=eL Y.ts[q]:=by rw[sm.ts];exact É hql
  have lo:=no.tie _<|Ŏ hql;have yi:=y.ins;rw[sm.y]at yi;let⟨r1,r2,r3⟩:=r;dsimp only at hq;subst hq;unfold trV;fail;rw[<-sm.y];refine Wp y et (by have:=lo.2.2.1;lia) gi λg1 y1 xg1=>?_;rw[sm.adr]at xg1;fail;rw[sm.y];refine hK _ _ ⟨_,_,_,rfl,?_,?_,xg.trans xg1⟩
  .rw[Zt hr,JY];dsimp only;rw[â,et];exact y1
  .rw[Zt hr,JY];dsimp only;rw[â,et];exact F5 gi (by lia) (by lia)
 .rintro e g ⟨v2,v3,v4,rfl,y,gi,xg⟩;rw[Á,Ă]at y gi;refine' k g y gi ((Ex.of x0).trans xg)
end
abbrev Ys(b:Int)(es:List En):List En:=es.filter λe=>gB (e.num≠b)
def Nc(b:Int)(es:List En):Zs (stands es) b=stands (Ys b es):=by unfold Zs stands Ys;rw[List.filter_map];rfl
def Xr(b:Int)(es:List En):(Ys b es).Sublist es:=ĥ
def WV{fs:List En}(h:es.Sublist fs):(enA es).Sublist<|enA fs:=by
 induction h with
 |slnil=>exact .slnil
 |cons a _ ih=>unfold enA at ih ⊢;rw[Ź];exact ih.trans<|List.sublist_append_right _ _
 |cons_cons a _ ih=>unfold enA at ih ⊢;rw[Ź,Ź];exact(ŧ _).append ih
def fc.drop(x:fc h Y)(b:Int):fc (upd h Y.st<|.dct<|Zg rfV<|O.stands<|Ys b Y.es) {Y with es:=Ys b Y.es}:=by
 let⟨⟨a1,a2,a3,a4⟩,⟨b1,b2,b3⟩,⟨c1,c2⟩,d1⟩:=Yd.five x.nd;have sb:=Xr b Y.es;have nb:∀a∈enA (Ys b Y.es),a≠Y.st:=λa ha=>Yd.sep x.nd (by simp)<|(WV sb).subset ha;refine⟨(eQ a2).trans x.ins,(eQ b1).trans x.lives,eR,(eQ c1.symm).trans x.fallen,(eQ c2.symm).trans x.road,λq hq=>(x.brs q<|sb.subset hq).off hq nb,?_,?_⟩
 .exact((ŧ _).append<|WV sb).nodup x.nd
 .exact(sb.map _).nodup x.key
def fc.setFallen(x:fc h Y)(l:List<|Int×Bool):fc (upd h Y.fl<|.dct<|Zg Val.bl l) {Y with fallen:=l}:=by let⟨⟨a1,a2,a3,a4⟩,⟨b1,b2,b3⟩,⟨c1,c2⟩,d1⟩:=Yd.five x.nd;exact⟨(eQ a3).trans x.ins,(eQ b2).trans x.lives,(eQ c1).trans x.stand,eR,(eQ d1.symm).trans x.road,λe he=>(x.brs e he).off he λb hb=>Yd.sep x.nd (by simp) hb,x.nd,x.key⟩
section
variable {Y:Yd}
def B3{b:Int}(no:fm Y.bs Y.ts)(x:fc h Y)(gd:∀e∈Y.es,e.B.ok)(hb:b∈Y.es.map (·.num))(k:∀g,fc g (ZR {Y with es:=Ys b Y.es}<|f9 b 0 Y.ts)->(∀e∈(ZR {Y with es:=Ys b Y.es}<|f9 b 0 Y.ts).es,e.B.ok)->Ex Y.adr h g->Q .non g):wF P (n+4) "Yard.fall_of_bridge" [.ref Y.y,.int b] h Q X:=by
 have xi:=x.ins;have xs:=x.stand;obtain⟨a,lk⟩:∃a,(stands Y.es).lookup b=eL a:=ZK (by rw[ZN];exact hb);refine YW ?_
 exists Xz xs rfl
 rw[YT,lk];walk_at "p";refine Cq xs rfl (by rw[Z5,lk];rfl) ?_;rw[Wi,Nc];dsimp only;have y1:=x.drop b;have x1:Ex Y.adr h<|upd h Y.st<|.dct<|Zg rfV<|stands<|Ys b Y.es:=Ex.upd (Ð _<|by simp);generalize upd h Y.st (.dct<|Zg rfV<|stands<|Ys b Y.es)=g1 at y1 x1;have yi:=y1.ins;dsimp only at yi;refine' J5 (Y:={Y with es:=Ys b Y.es}) no y1 (λe he=>gd e<|(Xr b Y.es).subset he) λg2 y2 gd2 x2=>?_;refine' k g2 y2 gd2 (x1.trans<|x2.sub λa ha=>?_);exact((ŧ _).append<|WV<|Xr b Y.es).subset ha
end
section
variable {Y:Yd}
def Co{p:Nat}{t:Tie}(no:fm Y.bs Y.ts)(x:fc h Y)(gd:∀e∈Y.es,e.B.ok)(et:Y.ts[p]?=eL t)(hf:Y.fallen.lookup (p:Int)=eM)(hl:Y.fallen.length<=100)(k:∀g,fc g {Y with fallen:=Zo Y.fallen p eN,es:=setT (onT {Y with fallen:=Zo Y.fallen p eN} p t) p t Y.es}->Ex Y.adr h g->Q .non g):wF P (n+3) "Yard.fall_of_tie" [.ref Y.y,.int p] h Q X:=by
 have xi:=x.ins;have xf:=x.fallen;have hp:p<Y.ts.length:=(Î.mp et).1;have htl:(Y.ts.map trV).length=Y.ts.length:=Á _;have lo:=no.tie _<|é et;refine XN ?_
 exists Xf
 fail;refine fQ (by simp) ?_
 exists eW (xs:=[.tup<|Y.bs.map .int,.tup<|Y.ts.map trV]) (v:=.tup<|Y.ts.map trV) rfl
 fail;refine fR (by rw[htl];simpa using hp) ?_
 exists Ju xf rfl
 rw[YT,hf];walk_at "p";refine Yo (k:=.int p) xf ⟨rfl,by rw[Jl];exact Ö hl<|by decide⟩ ?_;rw[ZZ (val:=Val.bl)];have y1:=x.setFallen<|Zo Y.fallen p eN;have x1:Ex Y.adr h<|upd h Y.fl<|.dct<|Zg Val.bl<|Zo Y.fallen p eN:=Ex.upd (Ð _<|by simp);generalize upd h Y.fl (.dct<|Zg Val.bl<|Zo Y.fallen p eN)=g1 at y1 x1;have yi:=y1.ins;dsimp only at yi;refine' Wp (Y:={Y with fallen:=Zo Y.fallen p eN}) y1 et (by have:=lo.2.2.1;lia) gd λg2 y2 x2=>?_;refine' k g2 y2 (x1.trans x2)
def Ej{p:Nat}{t:Tie}(no:fm Y.bs Y.ts)(x:fc h Y)(gd:∀e∈Y.es,e.B.ok)(et:Y.ts[p]?=eL t){v:Bool}(hf:Y.fallen.lookup (p:Int)=eL v)(k:∀g,fc g {Y with fallen:=Zs Y.fallen p,es:=setT (onT {Y with fallen:=Zs Y.fallen p} p t) p t Y.es}->Ex Y.adr h g->Q .non g):wF P (n+3) "Yard.back_of_tie" [.ref Y.y,.int p] h Q X:=by
 have xi:=x.ins;have xf:=x.fallen;have lo:=no.tie _<|é et;refine XT ?_
 exists Xz xf rfl
 rw[YT,hf];walk_at "p";refine Cq xf rfl (by rw[Z5,hf];rfl) ?_;rw[Wi];dsimp only;have y1:=x.setFallen<|Zs Y.fallen p;have x1:Ex Y.adr h<|upd h Y.fl<|.dct<|Zg Val.bl<|Zs Y.fallen p:=Ex.upd (Ð _<|by simp);generalize upd h Y.fl (.dct<|Zg Val.bl<|Zs Y.fallen p)=g1 at y1 x1;have yi:=y1.ins;dsimp only at yi;refine' Wp (Y:={Y with fallen:=Zs Y.fallen p}) y1 et (by have:=lo.2.2.1;lia) gd λg2 y2 x2=>?_;refine' k g2 y2 (x1.trans x2)
end
def Uv:(ZO own life most []).ok:=⟨đ,(λ_ m=>nomatch m),đ,(λ_ m=>nomatch m)⟩
def KM{k:Int}{v:α}:(Zo kvs k v).lookup k=eL v:=by
 unfold Zo;split
 .rename_i h;induction kvs with
  |nil=>cases h
  |cons p r ih =>
   rw[Ñ,ï];by_cases e:p.1=k
   .simp[e]
   .have e2:(k==p.1)=eP:=by simpa using λz=>e z.symm
    rw[ï,e2]at h;simp only[e,if_false,e2];exact ih h
 .rename_i h;have h:kvs.lookup k=eM:=au.mp h;rw[dQ,h];simp
section
variable {Y:Yd}
def Et{b:Int}(no:fm Y.bs Y.ts)(x:fc h Y)(gd:∀e∈Y.es,e.B.ok)(hlv:Y.lives.lookup b=eL life)(hb:b∉Y.es.map (·.num))(hl:Y.lives.length<=100)(hel:Y.es.length<=100)
  (k:∀q t d g,(∀a∈[q,t,d],h a=eM)->fc g (ZR {Y with lives:=Zo Y.lives b<|life+1,es:=Y.es++[⟨b,q,t,d,ZO b (life+1) Y.most []⟩]}<|f9 b 0 Y.ts)->(∀e∈(ZR {Y with lives:=Zo Y.lives b<|life+1,es:=Y.es++[⟨b,q,t,d,ZO b (life+1) Y.most []⟩]}<|f9 b 0 Y.ts).es,e.B.ok)->Ex Y.adr h g->Q .non g):wF P (n+4) "Yard.back_of_bridge" [.ref Y.y,.int b] h Q X:=by
 have xi:=x.ins;have xs:=x.stand;have xl:=x.lives;have lk:(stands Y.es).lookup b=eM:=by
  cases z:(stands Y.es).lookup b with
  |none=>rfl
  |some q =>have:=ò (f:=(·.1))<|Zf z;rw[ZN]at this;exact gA this hb
 refine YR ?_
 exists Xz xl rfl
 rw[YT,hlv];walk_at "p";refine Ju xs rfl ?_;rw[YT,lk];walk_at "p";refine Yb xl rfl (by rw[Z5,hlv];rfl) ?_;refine' Yo (k:=.int b) xl ⟨rfl,by rw[Jl];exact Ö hl<|by decide⟩ ?_;rw[ZZ (val:=Val.int)];have Y1:=x.setLives<|Zo Y.lives b<|life+1;have x1:Ex Y.adr h<|upd h Y.lv<|.dct<|Zg Val.int<|Zo Y.lives b<|life+1:=Ex.upd (Ð _<|by simp);have keepN:∀{a:Ad},upd h Y.lv (.dct<|Zg Val.int<|Zo Y.lives b<|life+1) a=eM->h a=eM:=λ{a} z=>by
  by_cases e:a=Y.lv
  .rw[e,eR]at z;cases z
  .rwa [eQ e]at z
 generalize upd h Y.lv (.dct<|Zg Val.int<|Zo Y.lives b<|life+1)=g1 at Y1 x1 keepN;have zi:=Y1.ins;have zl:=Y1.lives;dsimp only at zi zl;refine' Yb zl rfl (by rw[Z5,KM];rfl) ?_;refine' Ze λpn g7 hpn x7 en=>?_;have Y7:=Y1.ext x7;have yi7:=Y7.ins;dsimp only at yi7;fail;intro q hq;have xq:Ext g7<|upd g7 q<|.ins "Bridge" []:=Ext.new hq;have eq:(upd g7 q<|.ins "Bridge" []) q=eL (.ins "Bridge" []):=eR;refine US (rs:=[]) eq (xq.get en) (by simp) (by simp) λt d g8 ht hd ba x8=>?_;have x78:Ext g7 g8:=⟨λ{a o} e=>x8.get (by simpa using Za e hq)<|xq.get e⟩
 have Y8:=Y7.ext x78;have ht7:g7 t=eM:=by cases z:g7 t with|none=>rfl|some o=>rw[xq.get z]at ht;cases ht
 have hd7:g7 d=eM:=by cases z:g7 d with|none=>rfl|some o=>rw[xq.get z]at hd;cases hd
 refine⟨rfl,?_⟩;have wi:=Y8.ins;have ws:=Y8.stand;dsimp only at wi ws;refine' Yo (k:=.int b) ws ⟨rfl,by rw[Jl];unfold stands;rw[Á];exact Ö hel<|by decide⟩ ?_;rw[ZZ (val:=rfV),Xv _<|by rw[ZN];exact hb];have Ž:stands Y.es++[(b,q)]=stands (Y.es++[⟨b,q,t,d,ZO b (life+1) Y.most []⟩]):=by unfold stands;rw[Û];rfl
 rw[Ž];have fr:∀a∈[q,t,d],g7 a=eM:=λa ha=>by simp only[È,Ù,or_false]at ha;rcases ha with rfl|rfl|rfl<;>assumption
 have fr0:∀a∈[q,t,d],h a=eM:=λa ha=>keepN (by cases z:g1 a with|none=>rfl|some o=>have:=fr a ha;rw[x7.get z]at this;cases this);have Y9:=Y8.stands (e:=⟨b,q,t,d,ZO b (life+1) Y.most []⟩) ba hb λa ha z=>Y7.taken z<|fr a ha;have x9:Ex Y.adr h<|upd g8 Y.st<|.dct<|Zg rfV<|stands<|Y.es++[⟨b,q,t,d,ZO b (life+1) Y.most []⟩]:=(x1.trans<|.of<|x7.trans x78).trans (Ex.upd<|Ð _<|by simp);dsimp only at Y9;generalize upd g8 Y.st (.dct<|Zg rfV<|stands<|Y.es++[⟨b,q,t,d,ZO b (life+1) Y.most []⟩])=g9 at Y9 x9;have vi:=Y9.ins;dsimp only at vi;refine' J5 (Y:={Y with lives:=Zo Y.lives b<|life+1,es:=Y.es++[⟨b,q,t,d,ZO b (life+1) Y.most []⟩]}) no Y9 (λe he=>?_) λg2 y2 gd2 x2=>?_
 .rcases Õ.mp he with he|he
  .exact gd e he
  .rw[Ó.mp he];exact Uv
 refine' k q t d g2 fr0 y2 gd2 ⟨λ{a o} na ha=>x2.get (λz=>?_)<|x9.get na ha⟩;have z:a∈[Y.y,Y.lv,Y.st,Y.fl,Y.rd]++enA (Y.es++[⟨b,q,t,d,ZO b (life+1) Y.most []⟩]):=z;rw[Wb,<-Ĕ]at z;rcases Õ.mp z with z|z
 .exact na z
 .rw[fr0 a z]at ha;cases ha
end
abbrev wordsL:List<|List String:=[["tick"],["come"],["lost"],["fall","bridge"],["fall","tie"],["back","bridge"],["back","tie"]]
def G0{ws:List String}(hw:ws∈wordsL)(k:∀g,Ext h g->Q (.tup [.tup<|ws.map .str,.int c]) g):wF P (n+2) "read_deed" [.tup<|ws.map .str++[.int c]] h Q X:=by
 have hc:cut (ws.map Val.str++[.int c]) eM (eL (-1))=ws.map .str:=by simp only[wordsL,È,Ù,or_false]at hw;rcases hw with rfl|rfl|rfl|rfl|rfl|rfl|rfl<;>rfl
 have hlast:atI (ws.map Val.str++[.int c]) (-1)=eL (.int c):=by simp only[wordsL,È,Ù,or_false]at hw;rcases hw with rfl|rfl|rfl|rfl|rfl|rfl|rfl<;>rfl
 have hlen:ws.length<=2:=by simp only[wordsL,È,Ù,or_false]at hw;rcases hw with rfl|rfl|rfl|rfl|rfl|rfl|rfl<;>decide
 refine NP ?_;walk_at "p";refine fP (xs:=ws.map Val.str++[.int c]) (lo:=eM) (hi:=eL (-1)) (by rw[í,Á];intro z;have:=z.2;unfold fE at this;simp at this;lia) ?_;rw[hc];refine' ⟨Ö (by rw[Á];exact hlen) (by decide),Yq (λ_=>eL<|.bl eN) trivial (λv hv K hK=>?_) ?_⟩
 .obtain⟨u,_,rfl⟩:=Ò.mp hv;walk_at "p";exact hK
 rw[show(ws.map Val.str).filterMap (λ_=>eL<|Val.bl eN)=(ws.map λ_=>eN).map Val.bl by rw[ϰ,ê];exact congrFun (cb (f:=λ_:String=>Val.bl eN)) ws];refine Ze λp1 g1 cY x1 e1=>?_
 exists OG (bs:=ws.map λ_=>eN) e1 (YF _)
 have ha:(ws.map λ_=>eN).all id=eN:=by simp
 fail;refine fR (by simp) ?_;fail;have hin:∀{h:Hs},fi h .notin (.tup<|ws.map .str) (.tup<|wordsL.map λl=>.tup<|l.map .str)=eL eP:=λ{h}=>by simp only[wordsL,È,Ù,or_false]at hw;rcases hw with rfl|rfl|rfl|rfl|rfl|rfl|rfl<;>rfl
 refine eV (a:=eP) hin ?_;walk_at "p";refine eW hlast ?_
 exists XJ
 walk_at "p";refine eW hlast ?_;refine' k g1 x1
inductive Dd where
 |tick (b:Int)|come (b:Int)|lost (b:Int)|fallB (b:Int)|fallT (b:Int)|backB (b:Int)|backT (b:Int)
abbrev Dd.ws:Dd->List String
 |.tick _=>["tick"]|.come _=>["come"]|.lost _=>["lost"]|.fallB _=>["fall","bridge"]|.fallT _=>["fall","tie"]|.backB _=>["back","bridge"]|.backT _=>["back","tie"]
abbrev Dd.num:Dd->Int
 |.tick c=>c|.come c=>c|.lost c=>c|.fallB c=>c|.fallT c=>c|.backB c=>c|.backT c=>c
abbrev Dd.fn:Dd->String
 |.tick _=>"Yard.tick_of" | .come _=>"Yard.come" | .lost _=>"Yard.take_off" | .fallB _=>"Yard.fall_of_bridge" | .fallT _=>"Yard.fall_of_tie" | .backB _=>"Yard.back_of_bridge" | .backT _=>"Yard.back_of_tie"
noncomputable abbrev Dd.v(d:Dd):Val:=.tup<|d.ws.map .str++[.int d.num]
def Dd.words(d:Dd):d.ws∈wordsL:=by cases d<;>simp[Dd.ws,wordsL]
def W8(x:Ext h g)(hp:g p=eM):h p=eM:=by
 cases z:h p with
 |none=>rfl
 |some o=>rw[x.get z]at hp;cases hp
variable {ts:List Tie}
def GR{i:Int}(h0:0<=i)(h1:i<ts.length):atI (ts.map trV) i=eL (trV<|ts[i.toNat]?.getD (0,0,0)):=by
 have h2:i.toNat<ts.length:=by lia
 refine YO h0 ?_;rw[Ø,É h2];rfl
def AG{pre:List En}(x:fc h Y)(he:Y.es=pre++e::Ĺ)(o:e.B.ok)(hp:∀q∈e.B.ties,q.1<Y.ts.length)(hr:Y.road.length<=100000)
  (k:∀d g,fc g {Y with es:=pre++⟨e.num,e.b,e.t,d,e.B.ticked⟩::Ĺ,road:=Y.road++Yl Y.ts e.num e.B.told}->h d=eM->Ex Y.adr h g->Q .non g):wF P (n+5) "Yard.tick_of" [.ref Y.y,.int e.num] h Q X:=by
 have hm:e∈Y.es:=by rw[he];simp
 have lk:(stands Y.es).lookup e.num=eL e.b:=Yj (by rw[ZN];exact x.key)<|Ò.mpr ⟨e,hm,rfl⟩;let⟨xi,xl,xs,xf,xr,xb,xnd,xk⟩:=id x;refine J4 ?_
 exists Xz xs rfl
 rw[YT,lk];walk_at "p";refine Yb xs rfl (by rw[Z5,lk];rfl) ?_;have ba:=xb e hm;have bi:=ba.ins;refine' Fi ba o λp d g1 cY hd1 ba1 ep x1 npd=>?_;have Y1:=x.change he x1 ba1 (.inl rfl)<|.inr hd1;let⟨yi,yl,ys,yf,yr,yb,ynd,yk⟩:=id Y1;dsimp only at yi yl ys yf yr yb;have npa:∀a∈Y.adr,a≠p:=λa ha z=>x.taken ha<|z▸cY;have npr:Y.rd≠p:=npa _ (Ð _<|by simp);have hbm:e.b∈Y.adr:=Ç _ (Wq hm).1;have htl:(sortI (e.B.told.ties.map (·.1))).length<=16:=by rw[sortI,Ř,Á];exact o.told.tlen
 have htie:∀i∈sortI (e.B.told.ties.map (·.1)),0<=i/\i<Y.ts.length:=λi hi=>by let⟨q,hq,rfl⟩:=Ò.mp<|mem_sort.mp hi;rw[show e.B.told.ties=e.B.ties from (ZW e.B.grown<|ZF e.B.grown).2.1]at hq;exact⟨(o.rg q hq).1,hp q hq⟩
 refine' Zk (λi en g=>Sm3 λv2 v3 v4=>Cj4 (en=[eL<|.ref Y.y,eL<|.int e.num,v2,v3,v4]) (fc g {Y with es:=pre++⟨e.num,e.b,e.t,d,e.B.ticked⟩::Ĺ,road:=Y.road++(Yl Y.ts e.num e.B.told).take i}) (g p=eL (.lst<|ZY e.B.told))<|Ex Y.adr h g) ⟨_,_,_,rfl,by rw[List.take_zero,ö];exact Y1,ep,x1.sub λa ha=>by rw[Ó.mp ha];exact hbm⟩ (λi en g _ ⟨_,_,_,_,_,z,_⟩=>lsE z) ?_ ?_
 .rintro i v en g hv ⟨v2,v3,v4,rfl,Yi,ep,xi⟩ K hK;let⟨pl,hpl,rfl⟩:=ZX hv;have hplm:=é hpl;let⟨r0,r1⟩:=htie pl hplm;have et:=GR (ts:=Y.ts) r0 r1;let⟨zi,zl,zs,zf,zr,zb,znd,zk⟩:=id Yi;dsimp only at zi zl zs zf zr zb;have hil:=(Î.mp hpl).1
  exists eW (xs:=[.tup<|Y.bs.map .int,.tup<|Y.ts.map trV]) (v:=.tup<|Y.ts.map trV) rfl
  exists eW et
  exists DW
  refine' ZM zr ?_ ?_
  .rw[Á,í,Ē];exact Ö (by lia:_<=100016) (by decide)
  dsimp only;have es:(Yl Y.ts e.num e.B.told)[i]?=eL (e.num,Z8 Y.ts pl e.num,pl,Zy e.B.told pl):=by unfold Yl;rw[Ø,hpl];rfl
  have Y2:=Yi.setRoad<|Y.road++(Yl Y.ts e.num e.B.told).take (i+1);dsimp only at Y2;have er:(Y.road++(Yl Y.ts e.num e.B.told).take i).map rdV++[rdV (e.num,Z8 Y.ts pl e.num,pl,Zy e.B.told pl)]=(Y.road++(Yl Y.ts e.num e.B.told).take (i+1)).map rdV:=by rw[Zt es,<-Ĕ,Û (l₂:=[_])];rfl
  have er':(Y.road++(Yl Y.ts e.num e.B.told).take i).map rdV++[.tup [.int e.num,.int<|far (Y.ts[pl.toNat]?.getD (0,0,0)) e.num,.int pl,(Zy e.B.told pl).v]]=(Y.road++(Yl Y.ts e.num e.B.told).take (i+1)).map rdV:=er;rw[er'];refine' hK _ _ ⟨_,_,_,rfl,Y2,(eQ npr.symm).trans ep,xi.trans<|Ex.upd<|Ð _<|by simp⟩
 .rintro en g ⟨v2,v3,v4,rfl,Yi,ep,xi⟩;rw[show(ZY e.B.told).length=(Yl Y.ts e.num e.B.told).length by unfold ZY Yl;rw[Á,Á],Ă]at Yi;refine' k d g Yi hd1 xi
def GE{d:Dd}(x:fc h Y)(k:∀(g:Hs) (Q':Q1),Ext h g->fc g Y->(∀v g',Q .non g'->Q' v g')->wF P (n+5) d.fn [.ref Y.y,.int d.num] g Q' X):wF P (n+6) "Yard.deed" [.ref Y.y,d.v] h Q X:=by
 have xi0:=x.ins;refine NG ?_;refine' G0 d.words λg1 x1=>?_;have x':=x.ext x1;have xi:=x'.ins;cases d<;>(
   fail
   repeat (first
     |(refine eV (a:=eP) rfl ?_;fail;refine fR rfl ?_;fail)
     | (refine eV (a:=eN) rfl ?_;fail;refine fQ rfl ?_;fail))
   refine k g1 _ x1 x' λv g' q=>?_
   refine' q)
structure Yc where
 bs:List Int
 ts:List Tie
 most:Int
 lives:List<|Int×Int
 br:List<|Int×Br
 fallen:List<|Int×Bool
 road:List<|Int×Int×Int×L
abbrev enC(es:List En):List<|Int×Br:=es.map λe=>(e.num,e.B)
abbrev Yd.cc(Y:Yd):Yc:=⟨Y.bs,Y.ts,Y.most,Y.lives,enC Y.es,Y.fallen,Y.road⟩
abbrev upC(k:Int)(F:Br->Br)(l:List<|Int×Br):List<|Int×Br:=l.map λq=>if q.1=k then(q.1,F q.2)else q
abbrev LO(on:Bool)(p:Int)(t:Tie)(l:List<|Int×Br):List<|Int×Br:=upC t.2.1 (tieF on p t.1 t.2.2)<|upC t.1 (tieF on p t.2.1 t.2.2) l
abbrev Yc.tie(C:Yc)(p:Int):Tie:=C.ts[p.toNat]?.getD (0,0,0)
abbrev onC(C:Yc)(p:Int):Bool:=!(C.fallen.lookup p).isSome&&((C.br.lookup (C.tie p).1).isSome&&(C.br.lookup (C.tie p).2.1).isSome)
abbrev Yc.set1(C:Yc)(p:Int):Yc:={C with br:=LO (onC C p) p (C.tie p) C.br}
abbrev Yc.sets(C:Yc)(l:List Tie):Yc:=l.foldl (λC r=>C.set1 r.1) C
def JJ(es:List En):(enC es).map (·.1)=es.map (·.num):=by unfold enC;rw[ê];rfl
def look_iff{k:Int}:(kvs.lookup k).isSome=gB (k∈kvs.map (·.1)):=by
 cases z:kvs.lookup k with
 |none=>exact(gu<|Xq z).symm
 |some v=>exact(gx (ò (f:=(·.1))<|Zf z)).symm
def WI{k:Int}(es:List En):enC (Yh k F es)=upC k F (enC es):=by
 unfold enC Yh upC;rw[ê,ê];refine Ĥ λe _=>?_;show((if e.num=k then({e with B:=F e.B}:En)else e).num,(if e.num=k then({e with B:=F e.B}:En)else e).B)=if e.num=k then(e.num,F e.B)else(e.num,e.B)
 split<;>rfl
def CU{p:Int}{t:Tie}(es:List En):enC (setT on p t es)=LO on p t (enC es):=by unfold setT LO;rw[WI,WI]
def IH{k:Int}:((enC es).lookup k).isSome=((stands es).lookup k).isSome:=look_iff.trans ((decide_eq_decide.mpr<|by rw[JJ,ZN]).trans look_iff.symm)
def RB{p:Int}:onT Y p (Y.ts[p.toNat]?.getD (0,0,0))=onC Y.cc p:=by unfold onT onC;rw[<-IH,<-IH];rfl
def O2{p:Int}:({Y with es:=setT (onT Y p<|Y.ts[p.toNat]?.getD (0,0,0)) p (Y.ts[p.toNat]?.getD (0,0,0)) Y.es}:Yd).cc=Y.cc.set1 p:=by rw[RB];unfold Yd.cc Yc.set1;dsimp only;rw[CU];rfl
def OZ:∀(l:List Tie) (Y:Yd),(ZR Y l).cc=Y.cc.sets l
 |[],_=>rfl
 |r::l,Y=>(OZ l _).trans (congrArg (Yc.sets · l)<|O2 (Y:=Y) (p:=r.1))
abbrev step(C:Yc):Dd->Option Yc
 |.tick b=>(C.br.lookup b).map λB=>{C with br:=upC b Br.ticked C.br,road:=C.road++Yl C.ts b B.told}
 |.come p=>if p<0 then eM else(C.road[p.toNat]?).map λr=>{C with br:=upC r.2.1 (ZS · r.2.2.1 r.2.2.2) C.br,road:=C.road.eraseIdx p.toNat}
 |.lost p=>if p<0 then eM else(C.road[p.toNat]?).map λr=>{C with road:=C.road.eraseIdx p.toNat}
 |.fallB b=>if(C.br.lookup b).isSome then eL (Yc.sets {C with br:=Zs C.br b}<|f9 b 0 C.ts)else eM
 |.fallT p=>if(0<=p/\p<C.ts.length)/\(C.fallen.lookup p).isSome=eP then eL (Yc.set1 {C with fallen:=Zo C.fallen p eN} p)else eM
 |.backB b=>if(C.br.lookup b).isSome then eM else(C.lives.lookup b).map λl=>Yc.sets {C with lives:=Zo C.lives b<|l+1,br:=C.br++[(b,ZO b (l+1) C.most [])]}<|f9 b 0 C.ts
 |.backT p=>if(C.fallen.lookup p).isSome then eL (Yc.set1 {C with fallen:=Zs C.fallen p} p)else eM
structure Bok(m:Nat)(B:Br):Prop where
 ok:B.ok
 pl:∀t∈B.ties,t.1<m
def Bok.ticked{m:Nat}(o:Bok m B):Bok m B.ticked:=⟨o.ok.ticked,λt ht=>o.pl t<|by rwa [show B.ticked.ties=B.ties from (ZW B.grown<|ZF B.grown).2.1]at ht⟩
def Bok.heard{m:Nat}(o:Bok m B){p:Int}{l:L}:Bok m<|ZS B p l:=⟨o.ok.heard,λt ht=>o.pl t<|by revert ht;unfold ZS;split<;>(try split)<;>exact id⟩
def Bok.tieF{m:Nat}(o:Bok m B){p far:Int}(h0:0<=p)(h1:p<m)(hm:m<=16):Bok m<|O.tieF on p far c B:=⟨Ml o.ok h0 (by lia),λt ht=>by
  unfold O.tieF at ht
  split at ht
  . unfold upB at ht
    split at ht
    . exact o.pl t ht
    . rcases Xn ht with e|ht
      . rw[e];exact h1
      . exact o.pl t ht
  . exact o.pl t<|ZL ht⟩
structure Yc.gd(C:Yc)(N:Nat):Prop where
 no:fm C.bs C.ts
 nd:(C.br.map (·.1)).Nodup
 sub:∀q∈C.br,q.1∈C.bs
 ok:∀q∈C.br,Bok C.ts.length q.2
 lv:C.lives.map (·.1)=C.bs
 fn:(C.fallen.map (·.1)).Nodup
 fr:∀q∈C.fallen,0<=q.1/\q.1<C.ts.length
 len:C.road.length<=16*N
def JO{k:Int}(l:List<|Int×Br):(upC k F l).map (·.1)=l.map (·.1):=by unfold upC;rw[ê];refine Ĥ λe _=>?_;show(if e.1=k then(e.1,F e.2)else e).1=e.1;split<;>rfl
def Gx{k:Int}{l:List (Int×Br)}{R:Br->Prop}(h:∀q∈l,R q.2)(hF:∀B,R B->R (F B)):∀q∈upC k F l,R q.2:=λq hq=>by
 let⟨e,he,rfl⟩:=Ò.mp hq;split
 .exact hF _<|h e he
 .exact h e he
def keys_sub{l:List (Int×Br)}{bs:List Int}:(∀q∈l,q.1∈bs)↔∀x∈l.map (·.1),x∈bs:=⟨λh x hx=>by let⟨q,hq,rfl⟩:=Ò.mp hx;exact h q hq,λh q hq=>h _<|ò hq⟩
variable {C:Yc} {N:Nat} {M:Nat} {rd:List (Int×Int×Int×L)}
def Yc.gd.upC{k:Int}(g:C.gd N)(hF:∀B,Bok C.ts.length B->Bok C.ts.length (F B))(hr:rd.length<=16*M):({C with br:=O.upC k F C.br,road:=rd}:Yc).gd M :=
 ⟨g.no,by show((O.upC k F C.br).map (·.1)).Nodup;rw[JO];exact g.nd,keys_sub.mpr (by show ∀x∈(O.upC k F C.br).map (·.1),_;rw[JO];exact keys_sub.mp g.sub),Gx g.ok hF,g.lv,g.fn,g.fr,hr⟩
def Yc.gd.set1{p:Int}(g:C.gd N)(h0:0<=p)(h1:p<C.ts.length):(C.set1 p).gd N :=
 (g.upC (M:=N) (k:=(C.tie p).1) (F:=tieF (onC C p) p (C.tie p).2.1 (C.tie p).2.2) (λ_ o=>o.tieF h0 h1 g.no.sixteen) g.len).upC (λ_ o=>o.tieF h0 h1 g.no.sixteen) g.len
def Yc.gd.sets{N:Nat}:∀{l:List Tie}{C:Yc},C.gd N->(∀r∈l,0<=r.1/\r.1<C.ts.length)->(C.sets l).gd N
 |[],_,g,_=>g
 |r::l,C,g,h=>Yc.gd.sets (l:=l) (C:=C.set1 r.1) (g.set1 (h r<|by simp).1 (h r<|by simp).2) λq hq=>h q (by simp[hq])
def Yc.gd.more(g:C.gd N)(h:N<=M):C.gd M:=⟨g.no,g.nd,g.sub,g.ok,g.lv,g.fn,g.fr,Ý g.len<|dI _ h⟩
def Xd:∀(l:List Tie) (C:Yc),(C.sets l).bs=C.bs/\(C.sets l).ts=C.ts/\(C.sets l).most=C.most
 |[],_=>⟨rfl,rfl,rfl⟩
 |r::l,C=>Xd l<|C.set1 r.1
def Mu{b:Int}:∀r∈f9 b 0 ts,0<=r.1/\r.1<ts.length:=λr hr=>by have:=(JX (b:=b) (l:=ts) (k:=0)).2 r hr;lia
def keys_look{b:Int}:(C.br.lookup b).isSome=eN↔b∈C.br.map (·.1):=by rw[look_iff];simp
def BC{b:Int}(o:B.ok):(Yl ts b B.told).length<=16:=by unfold Yl;rw[Á,sortI,Ř,Á];exact o.told.tlen
def Mi{D:Yc}{d:Dd}(g:C.gd N)(s:step C d=eL D):D.gd (N+1)/\D.bs=C.bs/\D.ts=C.ts/\D.most=C.most:=by
 have hlen:=g.len;cases d with
 |tick b =>let⟨B,hB,rfl⟩:=Ë.mp s;have ok:B.ok:=(g.ok _<|Zf hB).ok;have:=BC (ts:=C.ts) (b:=b) ok;exact⟨g.upC (λ_ o=>o.ticked) (by rw[í];lia),rfl,rfl,rfl⟩
 |come p =>
  dsimp only[step]at s;split at s
  .cases s
  .obtain⟨r,hr,rfl⟩:=Ë.mp s;exact⟨g.upC (λ_ o=>o.heard)<|Ý (bU _ _)<|by lia,rfl,rfl,rfl⟩
 |lost p =>
  dsimp only[step]at s;split at s
  .cases s
  .obtain⟨r,hr,rfl⟩:=Ë.mp s;exact⟨⟨g.no,g.nd,g.sub,g.ok,g.lv,g.fn,g.fr,Ý (bU _ _)<|by lia⟩,rfl,rfl,rfl⟩
 |fallB b =>
  dsimp only[step]at s;split at s
  .cases s;refine⟨Yc.gd.more (Yc.gd.sets ⟨g.no,YQ g.nd b,λq hq=>g.sub q<|ZL hq,λq hq=>g.ok q<|ZL hq,g.lv,g.fn,g.fr,hlen⟩ Mu) (by lia),?_⟩;let⟨e1,e2,e3⟩:=Xd (f9 b 0 C.ts) {C with br:=Zs C.br b};exact⟨e1,e2,e3⟩
  .cases s
 |fallT p =>
  dsimp only[step]at s;split at s
  .rename_i h;cases s;refine⟨Yc.gd.more (Yc.gd.set1 ⟨g.no,g.nd,g.sub,g.ok,g.lv,Wt g.fn p eN,λq hq=>?_,hlen⟩ h.1.1 h.1.2) (by lia),rfl,rfl,rfl⟩;rcases Xn hq with e|hq
   .rw[e];exact h.1
   .exact g.fr q hq
  .cases s
 |backB b =>
  dsimp only[step]at s;split at s
  .cases s
  .rename_i h;let⟨l,hl,rfl⟩:=Ë.mp s;have hk:(C.lives.lookup b).isSome=eN:=by rw[hl];rfl
   have hb:b∈C.bs:=by rw[<-g.lv];rw[look_iff]at hk;exact of_decide_eq_true hk
   have hn:b∉C.br.map (·.1):=λz=>h<|keys_look.mpr z;refine⟨Yc.gd.more (Yc.gd.sets ⟨g.no,?_,λq hq=>?_,λq hq=>?_,?_,g.fn,g.fr,hlen⟩ Mu) (by lia),?_⟩
   .show((C.br++[(b,ZO b (l+1) C.most [])]).map (·.1)).Nodup;rw[Û,å];exact⟨g.nd,by simp,λa ha c hc=>by have hc:c=b:=Ó.mp hc;rw[hc];exact λz=>hn<|z▸ha⟩
   .rcases Õ.mp hq with hq|hq
    .exact g.sub q hq
    .rw[Ó.mp hq];exact hb
   .rcases Õ.mp hq with hq|hq
    .exact g.ok q hq
    .rw[Ó.mp hq];exact⟨Uv,λt ht=>nomatch ht⟩
   .show(Zo C.lives b<|l+1).map (·.1)=_;rw[JG,gp hk];exact g.lv
   .exact Xd (f9 b 0 C.ts) {C with lives:=Zo C.lives b<|l+1,br:=C.br++[(b,ZO b (l+1) C.most [])]}
 |backT p =>
  dsimp only[step]at s;split at s
  .rename_i h;cases s;let⟨v,hv⟩:=ç.mp h;have hp:=g.fr _<|Zf hv;exact⟨Yc.gd.more (Yc.gd.set1 ⟨g.no,g.nd,g.sub,g.ok,g.lv,YQ g.fn p,λq hq=>g.fr q<|ZL hq,hlen⟩ hp.1 hp.2) (by lia),rfl,rfl,rfl⟩
  .cases s
def Wn{b:Int}:(Y.cc.br.lookup b).isSome=((stands Y.es).lookup b).isSome:=IH
def UF{pre:List En}(he:Y.es=pre++e::Ĺ)(nd:(Y.es.map (·.num)).Nodup):enC (pre++⟨e.num,e.b,t,d,F e.B⟩::Ĺ)=upC e.num F (enC Y.es):=by rw[he]at nd ⊢;rw[<-WI,NW nd];unfold enC;rw[Û,Û];rfl
def Ab{pre:List En}(he:Y.es=pre++e::Ĺ)(ht:t=e.t)(hd:d=e.d\/h d=eM):∀a∈({Y with es:=pre++⟨e.num,e.b,t,d,B⟩::Ĺ,road:=rd}:Yd).adr,a∈Y.adr\/h a=eM:=λa ha=>by
 subst ht;unfold Yd.adr at ha ⊢;rw[he,YC];dsimp only at ha;rw[YC]at ha;simp only[Õ,È,Ù,or_false]at ha ⊢;rcases hd with rfl|hd
 .exact .inl ha
 .rcases ha with ha|ha|(rfl|rfl|rfl)|ha
  .exact .inl<|.inl ha
  .exact .inl<|.inr<|.inl ha
  .exact .inl<|.inr<|.inr<|.inl<|.inl rfl
  .exact .inl<|.inr<|.inr<|.inl<|.inr<|.inl rfl
  .exact .inr hd
  .exact .inl<|.inr<|.inr<|.inr ha
def Ms:∀{l bs:List Int},l.Nodup->(∀x∈l,x∈bs)->l.length<=bs.length
 |[],_,_,_=>ĕ _
 |a::l,bs,nd,h=>by have ha:=h a (by simp);have:=Ms (l:=l) (bs:=bs.erase a) (þ.mp nd).2 λx hx=>(List.mem_erase_of_ne λz:x=a=>(þ.mp nd).1<|z▸hx).mpr (h x<|by simp[hx]);rw[bK ha]at this;have:=List.length_pos_of_mem ha;rw[Ï];lia
variable {β:Type}
def UD{p:Int}{f:Int×Int×Int×L->β}(hp:¬(0<=p/\p<Y.road.length)):(if p<0 then eM else(Y.cc.road[p.toNat]?).map f)=eM:=by
 split
 .rfl
 .rw[show Y.cc.road[p.toNat]?=eM from ļ<|by show Y.road.length<=_;lia];rfl
structure Mv(h:Hs)(Y:Yd)(g:Hs)(Z:Yd):Prop where
 y:Z.y=Y.y
 at_:fc g Z
 nw:∀a∈Z.adr,a∈Y.adr\/h a=eM
 ex:Ex Y.adr h g
def Mv.refl(x:fc h Y):Mv h Y h Y:=⟨rfl,x,λ_=>.inl,Ex.refl⟩
def Mv.off(m:Mv h Y g Z)(na:a∉Y.adr)(e:h a=eL o):a∉Z.adr/\g a=eL o:=⟨λz=>(m.nw a z).elim na λy=>(by rw[e]at y;cases y),m.ex.get na e⟩
def Mv.trans{f:Hs}(m:Mv h Y g Z)(l:Mv g Z f W):Mv h Y f W:=by
 refine⟨l.y.trans m.y,l.at_,λa ha=>?_,⟨λna e=>let ⟨h1,h2⟩:=m.off na e;l.ex.get h1 h2⟩⟩;rcases l.nw a ha with z|z
 .exact m.nw a z
 .by_cases na:a∈Y.adr
  .exact .inl na
  .cases e:h a with
   |none=>exact .inr rfl
   |some o=>rw[m.ex.get na e]at z;cases z
def Mv.ext{f:Hs}(m:Mv h Y g Z)(x:Ext g f):Mv h Y f Z:=⟨m.y,m.at_.ext x,m.nw,m.ex.trans<|.of x⟩
def MC{b:Int}(h:(stands es).lookup b=eM):b∉es.map (·.num):=by rw[<-ZN];exact Xq h
section
variable {Y:Yd}
def MU{d:Dd}(x:fc h Y)(gd:Y.cc.gd N)(hN:N<=6000)(sd:(step Y.cc d).isSome=eN)(k:∀(Y':Yd) g',step Y.cc d=eL Y'.cc->Mv h Y g' Y'->Q .non g'):wF P (n+6) "Yard.deed" [.ref Y.y,d.v] h Q X:=by
 refine GE x λg Q' x1 x' hq=>?_;have no:fm Y.bs Y.ts:=gd.no;have ok:∀e∈Y.es,Bok Y.ts.length e.B:=λe he=>gd.ok (e.num,e.B)<|Ò.mpr ⟨e,he,rfl⟩;have oks:∀e∈Y.es,e.B.ok:=λe he=>(ok e he).ok;have hl:Y.road.length<=16*N:=gd.len;have key:=x.key;have xi:=x'.ins;have xs:=x'.stand;have xf:=x'.fallen;have xl:=x'.lives;have fin:∀{Y':Yd} {g'},fc g' Y'->step Y.cc d=eL Y'.cc->Y'.y=Y.y->(∀a∈Y'.adr,a∈Y.adr\/g a=eM)->Ex Y.adr g g'->∀v,Q' v g':=λ{Y' g'} y s e f ex v=>hq v g'<|k Y' g' s ⟨e,y,λa ha=>(f a ha).imp id λz=>W8 x1 z,(Ex.of x1).trans ex⟩;have bad:∀{p:Prop},step Y.cc d=eM->p:=λ{p} s=>by rw[s]at sd;cases sd
 have h10:Y.lives.length<=10:=by have e:=congrArg List.length gd.lv;rw[Á]at e;have:=no.ten;have:Y.cc.bs.length=Y.bs.length:=rfl;have:Y.cc.lives.length=Y.lives.length:=rfl;lia
 have e10:Y.es.length<=10:=by
  have:=Ms gd.nd<|keys_sub.mp gd.sub;have h2:(Y.cc.br.map (·.1)).length=Y.es.length:=by show((enC Y.es).map (·.1)).length=_;rw[JJ,Á]
  have:=no.ten;have:Y.cc.bs.length=Y.bs.length:=rfl;lia
 have f16:Y.fallen.length<=16:=by
  have:=Z7 (m:=16) gd.fn λx hx=>by let⟨q,hq,rfl⟩:=Ò.mp hx;have:=gd.fr q hq;have:=no.sixteen;have:Y.cc.ts.length=Y.ts.length:=rfl;lia
  rw[Á]at this;exact this
 clear sd;cases d with
 |tick b =>
  show wF P (n+5) "Yard.tick_of" [.ref Y.y,.int b] g Q' X;cases lk:(stands Y.es).lookup b with
  |none =>refine bad ?_;have:=Wn (Y:=Y) (b:=b);rw[lk]at this;show(Y.cc.br.lookup b).map _=eM;rw[Option.isSome_eq_false_iff.mp this |> aS.mp];rfl
  |some a =>
   let⟨e,pre,Ĺ,he,rfl,rfl⟩:=YZ lk;have hm:e∈Y.es:=by rw[he];simp
   refine AG x' he (oks e hm) (ok e hm).pl (by lia) λd' g2 y2 hd x2=>?_;refine fin y2 ?_ rfl (Ab he rfl<|.inr hd) x2 .non;show(Y.cc.br.lookup e.num).map _=_;rw[show Y.cc.br.lookup e.num=eL e.B from Yj gd.nd<|Ò.mpr ⟨e,hm,rfl⟩];unfold Yd.cc;dsimp only;rw[UF (F:=Br.ticked) he key];rfl
 |come p =>
  show wF P (n+5) "Yard.come" [.ref Y.y,.int p] g Q' X;by_cases hp:0<=p/\p<Y.road.length
  .obtain⟨q,rfl⟩:∃q:Nat,p=q:=⟨p.toNat,by lia⟩
   have hr:=É (l:=Y.road) (i:=q) (by lia);generalize Y.road[q]'(by lia)=r at hr;have st:step Y.cc (.come q)=eL {Y.cc with br:=upC r.2.1 (ZS · r.2.2.1 r.2.2.2) Y.cc.br,road:=Y.road.eraseIdx q}:=by show(if(q:Int)<0 then eM else(Y.road[(q:Int).toNat]?).map _)=_;rw[gq (by lia),â,hr];rfl
   cases lk:(stands Y.es).lookup r.2.1 with
   |none =>refine D7 x' hr (by lia) (MC lk) λg2 y2 x2=>fin y2 ?_ rfl (λa ha=>.inl ha) x2 .non;rw[st];unfold Yd.cc;dsimp only;rw[<-WI,XX<|MC lk]
   |some a =>
    let⟨e,pre,Ĺ,he,hn,rfl⟩:=YZ lk;have hm:e∈Y.es:=by rw[he];simp
    refine FO x' hr (by lia) he hn.symm (oks e hm) λg2 y2 x2=>fin y2 ?_ rfl (Ab he rfl<|.inl rfl) x2 .non;rw[st];unfold Yd.cc;dsimp only;rw[<-hn,UF (F:=(ZS · r.2.2.1 r.2.2.2)) he key]
  .exact bad<|UD hp
 |lost p =>
  show wF P (n+5) "Yard.take_off" [.ref Y.y,.int p] g Q' X;by_cases hp:0<=p/\p<Y.road.length
  .obtain⟨q,rfl⟩:∃q:Nat,p=q:=⟨p.toNat,by lia⟩
   have hr:=É (l:=Y.road) (i:=q) (by lia);refine XI x' hr (by lia) λg2 y2 x2=>fin y2 ?_ rfl (λa ha=>.inl ha) (x2.sub λa ha=>by rw[Ó.mp ha];exact Ð _<|by simp) _;show(if(q:Int)<0 then eM else(Y.road[(q:Int).toNat]?).map _)=_;rw[gq (by lia),â,hr];rfl
  .exact bad<|UD hp
 |fallB b =>
  show wF P (n+5) "Yard.fall_of_bridge" [.ref Y.y,.int b] g Q' X;have lc:=Wn (Y:=Y) (b:=b);cases lk:(stands Y.es).lookup b with
  |none =>rw[lk]at lc;exact bad (gq<|by rw[lc];decide)
  |some a =>
   rw[lk]at lc;refine B3 no x' oks (by rw[<-ZN];exact ò (f:=(·.1))<|Zf lk) λg2 y2 gd2 x2=>?_;have sm:=YJ (f9 b 0 Y.ts) {Y with es:=Ys b Y.es};refine fin y2 ?_ sm.y (λa ha=>.inl ?_) x2 .non
   .rw[OZ];refine(gp lc).trans ?_;congr 2;unfold Yd.cc;dsimp only;congr 1;unfold Zs enC Ys;rw[List.filter_map];rfl
   .rw[sm.adr]at ha;exact((ŧ _).append<|WV<|Xr b Y.es).subset ha
 |fallT p =>
  show wF P (n+5) "Yard.fall_of_tie" [.ref Y.y,.int p] g Q' X;have htl:(Y.ts.map trV).length=Y.ts.length:=Á _;by_cases hp:0<=p/\p<Y.ts.length
  .obtain⟨q,rfl⟩:∃q:Nat,p=q:=⟨p.toNat,by lia⟩
   have et:=É (l:=Y.ts) (i:=q) (by lia);have eg:Y.ts[(q:Int).toNat]?.getD (0,0,0)=Y.ts[q]'(by lia):=by rw[â,et];rfl
   cases lk:Y.fallen.lookup (q:Int)with
   |none =>
    refine Co no x' oks et lk (by lia) λg2 y2 x2=>fin y2 ?_ rfl (λa ha=>.inl ?_) x2 .non
    .refine(gp ⟨hp,by show(Y.fallen.lookup _).isSome=eP;rw[lk];rfl⟩).trans<|congrArg eL ?_;have:=O2 (Y:={Y with fallen:=Zo Y.fallen q eN}) (p:=q);dsimp only at this;rw[eg]at this;exact this.symm
    .unfold Yd.adr at ha ⊢;dsimp only at ha
     rwa [JK]at ha
   |some v =>exact bad (gq λz=>by have z:=z.2;have:(Y.fallen.lookup (q:Int)).isSome=eP:=z;rw[lk]at this;cases this)
  .exact bad<|gq λz=>hp z.1
 |backB b =>
  show wF P (n+5) "Yard.back_of_bridge" [.ref Y.y,.int b] g Q' X;have lc:=Wn (Y:=Y) (b:=b);cases ll:Y.lives.lookup b with
  |none =>
   refine bad ?_;dsimp only[step];split
   .rfl
   .show(Y.lives.lookup b).map _=eM;rw[ll];rfl
  |some life =>
   cases lk:(stands Y.es).lookup b with
   |some a =>rw[lk]at lc;exact bad<|gp lc
   |none =>
    rw[lk]at lc;refine Et no x' oks ll (MC lk) (by lia) (by lia) λq t d' g2 fr y2 gd2 x2=>?_;have sm:=YJ (f9 b 0 Y.ts) {Y with lives:=Zo Y.lives b<|life+1,es:=Y.es++[⟨b,q,t,d',ZO b (life+1) Y.most []⟩]};refine fin y2 ?_ sm.y (λa ha=>?_) x2 .non
    .rw[OZ];refine(gq<|by rw[lc];decide).trans ?_;show(Y.lives.lookup b).map _=_;rw[ll];congr 2;unfold Yd.cc;dsimp only;unfold enC;rw[Û];rfl
    .rw[sm.adr]at ha;have z:a∈[Y.y,Y.lv,Y.st,Y.fl,Y.rd]++enA (Y.es++[⟨b,q,t,d',ZO b (life+1) Y.most []⟩]):=ha;rw[Wb,<-Ĕ]at z;rcases Õ.mp z with z|z
     .exact .inl z
     .exact .inr<|fr a z
 |backT p =>
  show wF P (n+5) "Yard.back_of_tie" [.ref Y.y,.int p] g Q' X;cases lk:Y.fallen.lookup p with
  |none =>exact bad (gq<|by show ¬(Y.fallen.lookup p).isSome=eN;rw[lk];decide)
  |some v =>
   have hp:=gd.fr _<|Zf lk;have hp2:p<Y.ts.length:=hp.2;obtain⟨q,rfl⟩:∃q:Nat,p=q:=⟨p.toNat,by have:0<=p:=hp.1;lia⟩
   have et:=É (l:=Y.ts) (i:=q) (by lia);have eg:Y.ts[(q:Int).toNat]?.getD (0,0,0)=Y.ts[q]'(by lia):=by rw[â,et];rfl
   refine Ej no x' oks et lk λg2 y2 x2=>fin y2 ?_ rfl (λa ha=>.inl ?_) x2 .non
   .refine(gp<|by show(Y.fallen.lookup _).isSome=eN;rw[lk];rfl).trans<|congrArg eL ?_;have:=O2 (Y:={Y with fallen:=Zs Y.fallen q}) (p:=q);dsimp only at this;rw[eg]at this;exact this.symm
   .unfold Yd.adr at ha ⊢;dsimp only at ha
    rwa [JK]at ha
end
abbrev Yc.at_(C:Yc)(b:Int):Br:=(C.br.lookup b).getD<|ZO 0 0 0 []
abbrev Yc.keys(C:Yc):List Int:=sortI (C.br.map (·.1))
abbrev O6(C:Yc)(b p:Int):String:=if(C.br.lookup b).isSome then U0 (C.at_ b) p else "down"
abbrev Yc.ends(C:Yc)(p:Int):String×String:=(O6 C (C.tie p).1 p,O6 C (C.tie p).2.1 p)
abbrev Yc.downs(C:Yc):List Int:=C.bs.filter λb=>!(C.br.lookup b).isSome
abbrev Yc.cuts(C:Yc):List Int:=sortI (C.fallen.map (·.1))
def Yc.gd.ten(g:C.gd N):(C.br.map (·.1)).length<=10:=Ý (Ms g.nd<|keys_sub.mp g.sub) g.no.ten
def Yc.gd.f16(g:C.gd N):(C.fallen.map (·.1)).length<=16:=Z7 (m:=16) g.fn λx hx=>by let⟨q,hq,rfl⟩:=Ò.mp hx;have:=g.fr q hq;have:=g.no.sixteen;lia
def keys_mem{b:Int}:b∈C.keys↔(C.br.lookup b).isSome=eN:=by unfold Yc.keys;rw[mem_sort,keys_look]
def fc.at_(x:fc h Y){b:Int}(hb:(Y.cc.br.lookup b).isSome=eN):∃e∈Y.es,e.num=b/\(O.stands Y.es).lookup b=eL e.b/\Y.cc.at_ b=e.B/\fb h e.b e.t e.d e.B:=by
 rw[Wn]at hb;let⟨a,ha⟩:=ç.mp hb;let⟨e,pre,Ĺ,he,rfl,rfl⟩:=YZ ha;have hm:e∈Y.es:=by rw[he];simp
 refine⟨e,hm,rfl,ha,?_,x.brs e hm⟩;have:(enC Y.es).lookup e.num=eL e.B:=Yj (by rw[JJ];exact x.key)<|Ò.mpr ⟨e,hm,rfl⟩;show((enC Y.es).lookup e.num).getD _=_;rw[this];rfl
section
variable {Y:Yd}{N:Nat}
def Ul(x:fc h Y)(k:∀p g,h p=eM->Ext h g->g p=eL (.lst<|Y.road.map rdV)->Q (.ref p) g):wF P (n+1) "Yard.road" [.ref Y.y] h Q X:=by have xi:=x.ins;have xr:=x.road;refine N2 ?_;refine' Ze k
def ET(x:fc h Y)(k:Q (ZI Y.bs Y.ts) h):wF P (n+1) "Yard.net" [.ref Y.y] h Q X:=by have xi:=x.ins;refine O8 ?_;refine' k
def JB(x:fc h Y)(gd:Y.cc.gd N)(k:∀g,Ext h g->Q (.tup [.tup<|Y.cc.downs.map .int,.tup<|Y.cc.cuts.map .int]) g):wF P (n+1) "Yard.down" [.ref Y.y] h Q X:=by
 have xi:=x.ins;have xs:=x.stand;have hbl:(Y.bs.map Val.int).length<=10:=by rw[Á];exact gd.no.ten
 refine NK ?_
 exists eW (xs:=[.tup<|Y.bs.map .int,.tup<|Y.ts.map trV]) (v:=.tup<|Y.bs.map .int) rfl
 refine' ⟨Ö hbl (by decide),XY (λi ys g=>g=h/\ys=((Y.bs.take i).filter λb=>!(Y.cc.br.lookup b).isSome).map .int) ⟨rfl,rfl⟩ (λ_ _ _ _ _=>trivial) ?_ ?_⟩
 .rintro i v ys g hv ⟨rfl,rfl⟩ K hK;let⟨b,hb,rfl⟩:=ZX hv;rw[Zt hb,χ,ē,ϔ]at hK
  exists Xz xs rfl
  rw[YT,<-Wn];refine' fT (λhc=>?_) (λhc=>?_)
  .refine' hK _ _ ⟨rfl,by rw[hc,gp rfl,Û];rfl⟩
  .exact hK _ _ ⟨rfl,by rw[hc,gq (by decide),ö,cS,ö]⟩
 rintro ys g ⟨rfl,rfl⟩;rw[Á,Ă];refine Ze λp1 g1 cY x1 e1=>?_;have x':=x.ext x1;have xi:=x'.ins;have xf:=x'.fallen;refine' BK xf (HB _) (by have:=gd.f16;show(Y.cc.fallen.map (·.1)).length<_;lia) (Ze λp2 g2 hp2 x2 e2=>?_);refine' k _ (x1.trans x2)
def NS{b p:Int}(x:fc h Y)(k:Q (.str<|O6 Y.cc b p) h):wF P (n+4) "Yard.end_at" [.ref Y.y,.int b,.int p] h Q X:=by
 have xi:=x.ins;have xs:=x.stand;refine Ki ?_
 exists Xz xs rfl
 rw[YT,<-Wn];fail;unfold O6 at k;cases z:(Y.cc.br.lookup b).isSome with
 |false =>rw[z]at k;walk_at "p";exact k
 |true =>rw[z,gp rfl]at k;let⟨e,he,en,lk,ea,ba⟩:=x.at_ z;have bi:=ba.ins;walk_at "p";refine Yb xs rfl (by rw[Z5,lk];rfl) ?_;fail;rw[ea]at k;exact IL ba k
def Gu{p:Nat}(x:fc h Y)(hp:p<Y.ts.length)(k:Q (.tup [.str (Y.cc.ends p).1,.str (Y.cc.ends p).2]) h):wF P (n+5) "Yard.ends" [.ref Y.y,.int p] h Q X:=by
 have xi:=x.ins;have htl:(Y.ts.map trV).length=Y.ts.length:=Á _;have eg:Y.cc.tie p=Y.ts[p]:=by show Y.ts[(p:Int).toNat]?.getD _=_;rw[â,É hp];rfl
 refine NB ?_
 exists Xf
 fail;refine fQ (by simp) ?_
 exists eW (xs:=[.tup<|Y.bs.map .int,.tup<|Y.ts.map trV]) (v:=.tup<|Y.ts.map trV) rfl
 fail;refine fR (by rw[htl];simpa using hp) ?_
 exists eW (xs:=[.tup<|Y.bs.map .int,.tup<|Y.ts.map trV]) (v:=.tup<|Y.ts.map trV) rfl
 refine' eW (v:=trV Y.ts[p]) (YO (by lia)<|by rw[â,Ø,É hp];rfl) ?_;unfold Yc.ends at k;rw[eg]at k;unfold trV
 exists NS x
 exists NS x
 refine' k
end
abbrev Row(h:Hs)(w:Ad):Prop:=∃a b:Int,h w=eL (.lst [.int a,.int b])/\0<=b/\b<2147483587
def Row.ne(x:Row h w)(e:h p=eM):w≠p:=by let⟨_,_,x,_⟩:=x;exact Za x e
def Row.ext(x:Row h w)(e:Ext h g):Row g w:=by let⟨_,_,x,y⟩:=x;exact⟨_,_,e.get x,y⟩
def Ci{i:Int}(e:h a=eL (.lst<|ns.map .int))(q:KB (!gB (i∈ns))):go (fi h .notin (.int i)<|.ref a) KB:=eV (by show(inV h (.int i)<|.ref a).map _=_;unfold inV;simp only[e];rw[WY];rfl) q
def Nl{i:Int}(e:h a=eL (.lst<|ns.map .int))(q:KB<|gB (i∈ns)):go (fi h .isin (.int i)<|.ref a) KB:=eV (by show inV h (.int i) (.ref a)=_;unfold inV;simp only[e];rw[WY]) q
def lset(e:h a=eL (.lst<|ns.map .int))(m:ns.length<4000)(q:Q (.int (dedup ns).length) h):(biV h .lenSet [.ref a]).wp h Q:=wp_val (by show biLenSet h (.ref a)=_;unfold biLenSet sortOf;simp only[e,fe,ý,Zz];rw[gp m]) q
def Mc:∀(ns:List Int),(dedup ns).length=ns.length↔ns.Nodup
 |[]=>by simp[dedup]
 |n::ns=>by
  have h1:=Jc ns;have h2:=Ļ (λy=>y != n)<|dedup ns;have ih:=Mc ns;rw[dedup,Ï,Ï,þ];constructor
  .intro h;have h3:(List.filter (λy=>y != n)<|dedup ns).length=(dedup ns).length:=by lia
   have h4:=aq.mp h3;refine⟨λhm=>?_,ih.mp<|by lia⟩;have:=h4 n<|mem_dedup.mpr hm;simp at this
  .rintro⟨h3,h4⟩;have h5:=ih.mpr h4;have h6:(List.filter (λy=>y != n)<|dedup ns).length=(dedup ns).length:=aq.mpr λy hy=>by
    have:=mem_dedup.mp hy;simp only[bne_iff_ne,ne_eq];rintro rfl;exact h3 this
   lia
def Row.exb(x:Row h w)(n:p≠w):Row (upd h p o) w:=by let⟨_,_,x,y⟩:=x;exact⟨_,_,(eQ n.symm).trans x,y⟩
def Oa(x:ExtB w h g)(e:h p=eM):ExtB w h<|upd g p o:=⟨λ{a u} n z=>by rw[eQ<|Za z e];exact x.get n z⟩
def UZ(k:∀p g,h p=eM->Ext h g->Row g p->Q (.ref p) g):wF P (n+1) "_law_row" [.int c] h Q X:=by refine AD ?_;refine' Ze λp g hp x e=>k p g hp x ⟨_,_,e,ϖ _ (by decide),Ε _<|by decide⟩
def Zd{m:Int}(hw:Row h w)(h1:0<m)(h2:m<1073741824)(k:∀r g,0<=r->r<m->ExtB w h g->Row g w->Q (.int r) g):wF P (n+1) "_law_take" [.ref w,.int m] h Q X:=by
 let⟨a,b,e,b0,b1⟩:=hw;refine Ug ?_;refine' fS (λhc=>?_) (λhc=>?_)<;>fail
 .exact k _ _ (ϖ _<|by lia) (Ε _ h1) ExtB.upd ⟨_,_,eR,b0,b1⟩
 .exact k _ _ (ϖ _<|by lia) (Ε _ h1) ExtB.upd ⟨_,_,eR,ϖ _ (by decide),Ε _<|by decide⟩
abbrev TOk(ns:List Int)(t:Tie):Prop:=t.1∈ns/\t.2.1∈ns/\t.1≠t.2.1/\1<=t.2.2/\t.2.2<=1000
abbrev IsT(ns:List Int)(v:Val):Prop:=∃t:Tie,v=trV t/\TOk ns t
def P8(nd:ns.Nodup){i j:Int}{a b:Int}(i0:0<=i)(i1:i<ns.length)(j0:0<=j)(j1:j<ns.length)(hij:i≠j)(ea:atI (ns.map Val.int) i=eL (.int a))(eb:atI (ns.map Val.int) j=eL (.int b)):a≠b:=by
 have hi:i.toNat<ns.length:=by lia
 have hj:j.toNat<ns.length:=by lia
 have e1:=YO (xs:=ns.map Val.int) i0 (x:=.int ns[i.toNat]) (by rw[Ø,É hi];rfl);have e2:=YO (xs:=ns.map Val.int) j0 (x:=.int ns[j.toNat]) (by rw[Ø,É hj];rfl);rw[ea]at e1;rw[eb]at e2;simp only[Ĭ,Val.int.injEq]at e1 e2;rw[e1,e2];intro z;have:=(Τ nd).mp z;lia
abbrev less(t:Tie):Tie:=(if t.2.1<t.1 then t.2.1 else t.1,if t.2.1 > t.1 then t.2.1 else t.1,t.2.2)
def Gh{t:Tie}(h:TOk ns t):LOk ns<|less t:=by
 let⟨h1,h2,h3,h4,h5⟩:=h;unfold less LOk;by_cases z:t.2.1<t.1
 .rw[gp z,gq<|by lia];exact⟨h2,h1,z,h4,h5⟩
 .rw[gq z,gp<|by lia];exact⟨h1,h2,by show t.1<t.2.1;lia,h4,h5⟩
def Ut{ns:List Int}:∀{ys:List Val},(∀y∈ys,IsT ns y)->∃zs:List Tie,ys=zs.map trV/\∀z∈zs,TOk ns z
 |[],_=>⟨[],rfl,by simp⟩
 |y::ys,h=>by let⟨t,rfl,ht⟩:=h y (by simp);let⟨zs,rfl,hz⟩:=Ut (ys:=ys) λz hz=>h z<|á _ hz;exact⟨t::zs,rfl,λz hz'=>(È.mp hz').elim (λe=>e▸ht)<|hz z⟩
def isl{xs:List Val}(e:h a=eL (.lst xs))(q:Q (.bl eN) h):(biV h (.isi ["list"]) [.ref a]).wp h Q:=Rv (by unfold isiAny isiAny gk gj;simp only[e];rfl) q
variable {lo:Int}
def Ac{i hi:Int}(h1:lo<=i)(h2:i<=hi)(k:Q (.bl eN) h):wF P (n+2) "is_whole_between" [.int i,.int lo,.int hi] h Q X:=by
 refine XF ?_
 exists XJ
 walk_at "p";refine fQ ⇑h1 ?_;fail;rw[gx h2];exact k
def JM{i:Int}(k:Q (.bl eN) h):wF P (n+1) "is_whole" [.int i] h Q X:=by refine XJ ?_;walk_at "p";exact k
def Af{xs:List Val}:xs.filterMap (λ_=>eL<|Val.bl eN)=(xs.map λ_=>eN).map Val.bl:=by rw[ê];exact congrFun (cb (f:=Val.bl ∘ λ_=>eN)) xs
def Lf(e:h a=eL (.lst<|ns.map .int))(l2:ns.length<=10)(hb:Brs ns)(nd:ns.Nodup)(k:∀g,Ext h g->Q (.bl eN) g):wF P (n+3) "are_bridges" [.ref a] h Q X:=by
 refine Kb ?_;have hL:(ns.map Val.int).length=ns.length:=Á _;refine' ⟨Ö (by rw[hL];exact l2) (by decide),Yq (λ_=>eL<|.bl eN) (lsE e) (λv hv K hK=>?_) ?_⟩
 .obtain⟨i,hi,rfl⟩:=Ò.mp hv;walk_at "p";exact Ac (hb i hi).1 (by have:=(hb i hi).2;lia) hK
 rw[Af];refine Ze λp g hp x ep=>?_
 exists OG ep (YF _)
 fail;refine fR (by simp) ?_;have e':=x.get e;refine' lset e' (by lia) ?_;fail;have:gB (((dedup ns).length:Int)=((ns.map Val.int).length:Int))=eN:=gx (by rw[hL];have:=(Mc ns).mpr nd;lia);rw[this];exact k g x
def Lg{t:Tie}(ht:TOk ns t)(e:h b=eL (.lst<|ns.map .int))(k:Q (.bl eN) h):wF P (n+3) "is_tie" [trV t,.ref b] h Q X:=by
 let⟨i,j,c⟩:=t;let⟨h1,h2,h3,h4,h5⟩:=ht;unfold trV;dsimp only at h1 h2 h3 h4 h5 ⊢;refine Dh ?_;walk_at "p";refine JM ?_;walk_at "p";refine JM ?_;walk_at "p";refine Ci e ?_;fail;refine fR ⇑h1 ?_
 exists Ci e
 fail;refine fR ⇑h2 ?_;fail;refine fQ ⇑h3 ?_;refine' Ac h4 h5 k
def Gm{t:Tie}(k:Q (trV<|less t) h):wF P (n+1) "lesser_end_first" [trV t] h Q X:=by let⟨i,j,c⟩:=t;unfold trV;refine XO ?_;refine' k
def E7{zs:List Tie}(eb:h b=eL (.lst<|ns.map .int))(et:h t=eL (.lst<|zs.map trV))(l1:1<=ns.length)(l2:ns.length<=10)(hb:Brs ns)(nd:ns.Nodup)(lt:zs.length<=16)(hz:∀z∈zs,TOk ns z)
  (k:∀g,Ext h g->Q (ZI (sortI ns)<|zs.map less) g):wF P (n+4) "make_net" [.ref b,.ref t] h Q X:=by
 have hL:(ns.map Val.int).length=ns.length:=Á _;have hT:(zs.map trV).length=zs.length:=Á _;refine OM ?_;refine F4<|P3<|SK<|Ho<|Hy<|Qo<|Ew<|Hc rfl<|Dj<|isl eb<|g_tbl ?_;refine fR rfl ?_;refine Ho<|Hy<|Qo<|Ew<|Hc rfl<|Dj<|isl et<|g_tbl ?_;refine fR rfl ?_;fail;refine fQ (by simpa using (by lia:(1:Int)<=(ns.map Val.int).length)) ?_;fail;refine fR (by simpa using (by lia:(ns.length:Int)<=10)) ?_;fail;refine fR (by simpa using (by lia:(zs.length:Int)<=16)) ?_;refine' Lf eb l2 hb nd λg x=>?_;fail;refine fR rfl ?_;have eb':=x.get eb;have et':=x.get et;refine' ⟨Ö (by rw[hT];exact lt) (by decide),Yq (λ_=>eL<|.bl eN) (lsE et') (λv hv K hK=>?_) ?_⟩
 .obtain⟨z,hz',rfl⟩:=Ò.mp hv;walk_at "p";exact Lg (hz z hz') eb' hK
 rw[Af];refine Ze λp g2 hp x2 ep=>?_
 exists OG ep (YF _)
 fail;refine fR (by simp) ?_;have eb2:=x2.get eb';have et2:=x2.get et';refine' Js eb2 (Zz _) (by lia) ?_;refine Ze λp3 g3 hp3 x3 ep3=>?_;have et3:=x3.get et2;refine' ⟨Ö (by rw[hT];exact lt) (by decide),XY (λi ys g=>g=g3/\ys=(zs.take i).map λz=>trV<|less z) ⟨rfl,rfl⟩ (λ_ _ g _ z=>by rw[z.1];exact lsE et3) (λi v ys g hv hI K hK=>?_) λys g hI=>?_⟩
 .obtain⟨rfl,rfl⟩:=hI;rw[Ø]at hv;let⟨z,hz',rfl⟩:=Ë.mp hv;walk_at "p";refine Gm<|hK _ _ ⟨rfl,?_⟩;rw[Ÿ,hz',Û];rfl
 .obtain⟨rfl,rfl⟩:=hI;rw[hT,Ă];refine Ze λp4 g4 hp4 x4 ep4=>?_;fail;have e:ZI (sortI ns) (zs.map less)=.tup [.tup<|(sortI ns).map .int,.tup<|zs.map λz=>trV<|less z]:=by unfold ZI;rw[ê];rfl
  rw[e]at k;exact k _<|((x.trans x2).trans x3).trans x4
def BS{v:Val}{m:Int}(h:(fA lo m)[i]?=eL v):v=.int (lo+i)/\lo+(i:Int)<m:=by unfold fA at h;rw[Ø]at h;let⟨k,hk,rfl⟩:=Ë.mp h;let⟨ϴ,rfl⟩:=Î.mp hk;rw[ı]at ϴ;rw[dO];exact⟨rfl,by lia⟩
def Cv{m:Int}:(fA lo m).length=(m - lo).toNat:=by unfold fA;rw[Á,ı]
def Dr(f:α->β)(ix:List Nat)(xs:List α):pickL ix (xs.map f)=(pickL ix xs).map f:=by unfold pickL;rw[List.map_filterMap];exact congrArg (λf=>List.filterMap f ix) (funext λi=>Ø)
def D1{ix:List Nat}(h:x∈pickL ix xs):x∈xs:=by let⟨i,_,h⟩:=Ŭ.mp h;exact é h
def IT(hw:Row h w)(k:∀bs ts g,fm bs ts->ExtB w h g->Row g w->Q (ZI bs ts) g):wF P (n+5) "_law_net" [.ref w] h Q X:=by
 refine A0 ?_;refine' Ze λp0 f2 hp0 y2 e0=>?_;have n0:p0≠w:=λz=>hw.ne hp0 z.symm;refine' Zd (hw.ext y2) (by decide) (by decide) λr9 g0 a9 b9 y3 w0=>?_;have e0:=y3.get n0 e0;have x0:ExtB w h g0:=(ExtB.of y2).trans y3;walk_at "py1";walk_at "w";let⟨u0,eu0,hu0⟩:=YG (xs:=[Val.int 6,.int 10]) (r:=if gB (r9=0)=eN then 1 else 0) (by split<;>decide) (by show _<(2:Int);split<;>decide);obtain⟨mn,rfl,a0,b0⟩:∃mn:Int,u0=.int mn/\1<=mn/\mn<=10:=by simp only[È,Ù,or_false]at hu0;rcases hu0 with rfl|rfl<;>exact⟨_,rfl,by lia,by lia⟩
 refine in_bl ?_;refine Z4 e0 eu0 ?_;clear e0 eu0 hu0;refine' Zd w0 (by lia) (by lia) λr1 f1 a1 b1 y1 v1=>?_;have x0:=x0.trans y1;refine' Ze λp1 g1 cY x1 e1=>?_;have n1:p1≠w:=λz=>v1.ne cY z.symm;refine' Zd (v1.ext x1) (by decide) (by decide) λr2 g2 a2 b2 x2 w2=>?_;let⟨v,ev,hv⟩:=YG (xs:=[Val.int 1,.int 3,.int 10,.int 90]) (r:=r2) a2 b2;obtain⟨st,rfl,s1,s2⟩:∃st:Int,v=.int st/\1<=st/\st<=90:=by simp only[È,Ù,or_false]at hv;rcases hv with rfl|rfl|rfl|rfl<;>exact⟨_,rfl,by decide,by decide⟩
 refine Z4 (x2.get n1 e1) ev ?_;have xh:ExtB w h g2:=(x0.trans<|.of x1).trans x2;clear e1 ev hv;refine' ⟨⟨by lia,by lia⟩,by rw[M0];exact Ö (by lia:(1+r1).toNat<=10) (by decide),?_⟩;refine XY (λi ys g=>∃ns:List Int,ys=ns.map Val.int/\ns.length=i/\Brs ns/\ExtB w h g/\Row g w) ⟨[],rfl,rfl,(λi hi=>gA hi Ù),xh,w2⟩ (λ_ _ _ _ _=>trivial) ?_ ?_
 .rintro i v ys g hv ⟨ns,rfl,hl,hb,x,hr⟩ K hK;let⟨rfl,hi⟩:=Mw hv;walk_at "p";refine Zd hr (by decide) (by decide) λr3 g3 a3 b3 x3 w3=>?_;have m1:2*(i:Int)+r3<=19:=by lia
  have m2:st*(2*(i:Int)+r3)<=90*19:=Int.le_trans (Int.mul_le_mul_of_nonneg_right s2<|by lia) (Int.mul_le_mul_of_nonneg_left m1<|by decide);have m3:0<=st*(2*(i:Int)+r3):=ϥ (by lia) (by lia);refine' hK _ _ ⟨ns++[st*(2*(i:Int)+r3) / 2],by rw[Û];rfl,by rw[í,hl];rfl,λj hj=>?_,x.trans x3,w3⟩;rcases Õ.mp hj with hj|hj
  .exact hb j hj
  .rw[Ó.mp hj];lia
 .rintro ys g ⟨ns,rfl,hl,hb,x,hr⟩;rw[M0]at hl;have l1:1<=ns.length:=by lia
  have l2:ns.length<=10:=by lia
  refine Ze λp5 g5 hp5 x5 e5=>?_;refine' RW e5 (by lia) (Ze λb g6 hb6 x6 eb=>?_);have hrb:Brs<|sortI<|dedup ns:=λi hi=>hb i<|sd_mem.mp hi;have nd:=CB ns;have l3:=Iw l1;have l4:=Ph ns;generalize sortI (dedup ns)=bs at eb hrb nd l3 l4;have w6:=(hr.ext x5).ext x6;have nb:b≠w:=λz=>(hr.ext x5).ne hb6 z.symm;have xh6:ExtB w h g6:=x.trans<|.of<|x5.trans x6;clear e5 x6 x5 hp5 hr x hb;have hL:(bs.map Val.int).length=bs.length:=Á _;refine' Ze λt g7 ht7 x7 e7=>?_;have nt:t≠w:=λz=>w6.ne ht7 z.symm;have ntb:t≠b:=λz=>Za eb ht7 z.symm;have w8:=w6.ext x7;have xh8:ExtB w h g7:=xh6.trans<|.of x7;have eb8:=x7.get eb;have e8:=e7;clear e7 eb;have ht0:h t=eM:=by
   cases z:h t with
   |none=>rfl
   |some o=>rw[xh6.get nt z]at ht7;cases ht7
  refine' ⟨⟨by lia,by lia⟩,?_⟩;refine Zk (λi en g=>Sm5 λv3 v6 v7 v8 ts=>Cj7 (en=[eL<|.ref w,eL<|.int<|1+r1,eL<|.int st,v3,eL<|.ref b,eL<|.ref t,v6,v7,v8]) (g t=eL (.lst ts)) (ts.length<=i) ((∀t∈ts,IsT bs t)) (g b=eL (.lst<|bs.map .int)) (ExtB w h g)<|Row g w) ⟨_,_,_,_,[],rfl,e8,Ì _,(λi hi=>gA hi Ù),eb8,xh8,w8⟩ (λ_ _ _ _ _=>trivial) ?_ ?_
  .rintro i v en g hv ⟨v3,v6,v7,v8,ts,rfl,et,hl,ht,dZ,x,hr⟩ K hK;let⟨rfl,hi⟩:=BS hv;have hi:1+(i:Int)<bs.length:=by rw[hL]at hi;exact hi
   refine' Zd hr (by lia) (by lia) λq1 g1 a1 b1 x1 w1=>?_;refine' fS (λhc=>?_) (λhc=>?_)
   .refine' Zd w1 (by lia) (by lia) λq2 g2 a2 b2 x2 w2=>?_;have eb2:=x2.get nb<|x1.get nb dZ;let⟨u2,eu2,hu2⟩:=YG (xs:=bs.map Val.int) (r:=q2) a2 (by lia);let⟨i2,cZ,rfl⟩:=Ò.mp hu2;refine Z4 eb2 eu2 ?_;fail;let⟨u3,eu3,hu3⟩:=YG (xs:=bs.map Val.int) (r:=1+(i:Int)) (by lia) (by lia);let⟨i3,hi3,rfl⟩:=Ò.mp hu3;refine Z4 eb2 eu3 ?_;refine' Zd w2 (by lia) (by lia) λq4 g4 a4 b4 x4 w4=>?_;have xx:ExtB w g g4:=(x1.trans x2).trans x4;have et4:=xx.get nt et;refine' ZM et4 (Ö (by lia:ts.length<=20)<|by decide) ?_;dsimp only;refine' hK _ _ ⟨_,_,_,_,_,rfl,eR,by rw[í];simp;lia,λz hz=>?_,(eQ ntb.symm).trans<|xx.get nb dZ,Oa (x.trans xx) ht0,w4.exb nt⟩;rcases Õ.mp hz with hz|hz
    .exact ht z hz
    .rw[Ó.mp hz];exact⟨(i2,i3,1+q4),rfl,cZ,hi3,P8 nd a2 (by lia) (by lia) (by lia) (by lia) eu2 eu3,by show 1<=1+q4;lia,by show 1+q4<=1000;lia⟩
   .refine' hK _ _ ⟨_,_,_,_,_,rfl,x1.get nt et,by lia,ht,x1.get nb dZ,x.trans x1,w1⟩
  .rintro en g ⟨v3,v6,v7,v8,ts,rfl,et,hl,ht,dZ,x,hr⟩;have hl:ts.length<=16:=by rw[Cv,hL]at hl;lia
   refine' Zd hr (by decide) (by decide) λr8 g8 a8 b8 x8 w8=>?_;refine' ⟨⟨by lia,by lia⟩,?_⟩;refine Zk (λi en g=>Sm5 λv3 v6 v7 v8 ts=>Cj7 (en=[eL<|.ref w,eL<|.int<|1+r1,eL<|.int st,v3,eL<|.ref b,eL<|.ref t,v6,v7,v8]) (g t=eL (.lst ts)) (ts.length<=16) ((∀t∈ts,IsT bs t)) (g b=eL (.lst<|bs.map .int)) (ExtB w h g)<|Row g w) ⟨_,_,_,_,ts,rfl,x8.get nt et,hl,ht,x8.get nb dZ,x.trans x8,w8⟩ (λ_ _ _ _ _=>trivial) ?_ ?_
   .rintro i v en g hv ⟨v3,v6,v7,v8,ts,rfl,et,hl,ht,dZ,x,hr⟩ K hK;let⟨rfl,hi⟩:=Mw hv;refine' Zd hr (by lia) (by lia) λq1 g1 a1 b1 x1 w1=>?_;have eb1:=x1.get nb dZ;let⟨u1,eu1,hu1⟩:=YG (xs:=bs.map Val.int) (r:=q1) a1 b1;let⟨i1,hi1,rfl⟩:=Ò.mp hu1;refine Z4 eb1 eu1 ?_;refine' Zd w1 (by lia) (by lia) λq2 g2 a2 b2 x2 w2=>?_;have eb2:=x2.get nb eb1;let⟨u2,eu2,hu2⟩:=YG (xs:=bs.map Val.int) (r:=q2) a2 b2;let⟨i2,cZ,rfl⟩:=Ò.mp hu2;refine Z4 eb2 eu2 ?_;refine' Zd w2 (by lia) (by lia) λq3 g3 a3 b3 x3 w3=>?_;refine' Zd w3 (by lia) (by lia) λq4 g4 a4 b4 x4 w4=>?_;refine' Ze λp9 g9 hp9 x9 e9=>?_;have n9:p9≠w:=λz=>w4.ne hp9 z.symm;refine' Zd (w4.ext x9) (by lia) (by lia) λq5 g5 a5 b5 x5 w5=>?_;let⟨u3,eu3,hu3⟩:=YG (xs:=[Val.int 1,.int 1,.int 2,.int<|1+q3,.int<|1+q4]) (r:=q5) a5 b5;obtain⟨c,rfl,c0,c1⟩:∃c:Int,u3=.int c/\1<=c/\c<=1000:=by
     simp only[È,Ù,or_false]at hu3;rcases hu3 with rfl|rfl|rfl|rfl|rfl<;>exact⟨_,rfl,by lia,by lia⟩
    refine Z4 (x5.get n9 e9) eu3 ?_;have xx:ExtB w g g5:=((((x1.trans x2).trans x3).trans x4).trans<|.of x9).trans x5;have et5:=xx.get nt et;have eb5:=xx.get nb dZ;refine' Kk (λhc=>?_) (λhc=>?_)
    .refine' fS (λhd=>?_) (λhd=>?_)
     .refine' ZM et5 (Ö hl<|by decide) ?_;dsimp only;refine' hK _ _ ⟨_,_,_,_,_,rfl,eR,by rw[í];simp;lia,λz hz=>?_,(eQ ntb.symm).trans eb5,Oa (x.trans xx) ht0,w5.exb nt⟩;rcases Õ.mp hz with hz|hz
      .exact ht z hz
      .rw[Ó.mp hz];exact⟨(i1,i2,c),rfl,hi1,cZ,hc,c0,c1⟩
     .refine' hK _ _ ⟨_,_,_,_,_,rfl,et5,hl,ht,eb5,x.trans xx,w5⟩
    .walk_at "p";exact hK _ _ ⟨_,_,_,_,_,rfl,et5,hl,ht,eb5,x.trans xx,w5⟩
   .rintro en g ⟨v3,v6,v7,v8,ts,rfl,et,hl,ht,dZ,x,hr⟩;let⟨zs,rfl,hz⟩:=Ut ht;rw[Á]at hl;refine' Ze λp9 g9 hp9 x9 e9=>?_;have n9:p9≠w:=λz=>hr.ne hp9 z.symm;refine' Zd (hr.ext x9) (by decide) (by decide) λq5 g5 a5 b5 x5 w5=>?_;let⟨u3,eu3,hu3⟩:=YG (xs:=[Val.int 1,.int (-1)]) (r:=q5) a5 b5;obtain⟨c,rfl,c0⟩:∃c:Int,u3=.int c/\c≠0:=by
     simp only[È,Ù,or_false]at hu3;rcases hu3 with rfl|rfl<;>exact⟨_,rfl,by decide⟩
    refine Z4 (x5.get n9 e9) eu3 ?_;have xx:ExtB w h g5:=(x.trans<|.of x9).trans x5;have dZ:=x5.get nb<|x9.get dZ;refine' ⟨c0,Rj (x5.get nt<|x9.get et) λix _ il=>?_⟩;rw[Á]at il;rw[Dr];have hz:∀z∈pickL ix zs,TOk bs z:=λz h=>hz z<|D1 h;have pl:(pickL ix zs).length<=ix.length:=Ũ _ _;generalize pickL ix zs=zs at hz pl;refine Ze λpc gc hpc xc et=>?_;refine' E7 (xc.get dZ) et l3 (by lia) hrb nd (by lia) hz λg3 x3=>?_;have hl2:(sortI bs).length=bs.length:=(Ŧ bs _).length_eq;refine k _ _ _ ⟨by lia,by lia,λi hi=>hrb i<|mem_sort.mp hi,X3 nd,by rw[Á];lia,λt ht=>?_⟩ (xx.trans<|.of<|xc.trans x3)<|(w5.ext xc).ext x3;let⟨z,hz',rfl⟩:=Ò.mp ht;let⟨q1,q2,q3⟩:=Gh<|hz z hz';exact⟨mem_sort.mpr q1,mem_sort.mpr q2,q3⟩
abbrev AK(bs:List Int)(ts:List Tie)(most:Int):Yc:=⟨bs,ts,most,bs.map λb=>(b,0),bs.map λb=>(b,ZO b 0 most<|f9 b 0 ts),[],[]⟩
def Qe{bs:List Int}(nw:YNew bs ts most Y):Y.cc=AK bs ts most:=by
 have e:enC Y.es=bs.map λb=>(b,ZO b 0 most<|f9 b 0 ts):=by rw[<-nw.num,ê];exact Ĥ λe he=>by show(e.num,e.B)=(e.num,_);rw[nw.br e he]
 unfold Yd.cc AK;rw[nw.hb,nw.ht,nw.hm,nw.lives,nw.fallen,nw.road,e]
def Fr{b:Int}(h:ts.length<=16):Bok ts.length<|ZO b life most<|f9 b 0 ts:=by
 have r:=JX (b:=b) (l:=ts) (k:=0);have rg:∀q∈WA (f9 b 0 ts),0<=q.1/\q.1<ts.length:=λq hq=>by let⟨x,hx,rfl⟩:=Ò.mp hq;have:=r.2 x hx;dsimp only;lia
 refine⟨⟨đ,(λ_ m=>nomatch m),?_,λq hq=>?_⟩,λq hq=>(rg q hq).2⟩
 .show((WA _).map (·.1)).Nodup;rw[UV];exact r.1.imp λz=>by lia
 .have:=rg q hq;lia
def Fq{bs:List Int}(no:fm bs ts):(AK bs ts most).gd 0:=by
 have e1:(bs.map λb=>(b,ZO b 0 most<|f9 b 0 ts)).map (·.1)=bs:=by rw[ê];exact ů _
 refine⟨no,?_,keys_sub.mpr ?_,λq hq=>?_,?_,đ,(λ_ m=>nomatch m),Ì _⟩
 .show((bs.map λb=>(b,ZO b 0 most<|f9 b 0 ts)).map (·.1)).Nodup;rw[e1];exact no.up.imp λh=>by lia
 .show ∀x∈(bs.map λb=>(b,ZO b 0 most<|f9 b 0 ts)).map (·.1),_;rw[e1];exact λ_=>id
 .obtain⟨b,_,rfl⟩:=Ò.mp hq;exact Fr no.sixteen
 .show(bs.map λb=>(b,(0:Int))).map (·.1)=bs;rw[ê];exact ů _
def Ku{b:Int}(h:b∈C.br.map (·.1)):∃D,step C (.tick b)=eL D/\D.br.map (·.1)=C.br.map (·.1):=by let⟨B,hB⟩:=ZK h;refine⟨_,by show(C.br.lookup b).map _=_;rw[hB];rfl,JO _⟩
def fc.extb(x:fc h Y)(e:ExtB w h g)(nw:w∉Y.adr):fc g Y:=x.keep (S:=[w]) (Ex.ofB e<|by simp) λa ha z=>nw (Ó.mp z▸ha)
def Dv{b:Int}(h:b∈C.keys):(step C<|.fallB b).isSome=eN:=by dsimp only[step];rw[gp<|keys_mem.mp h];rfl
def FB{b:Int}(h:b∈C.keys):(step C<|.tick b).isSome=eN:=by let⟨D,hD,_⟩:=Ku<|keys_look.mp<|keys_mem.mp h;rw[hD];rfl
def cut_mem{p:Int}:p∈C.cuts↔(C.fallen.lookup p).isSome=eN:=by unfold Yc.cuts;rw[mem_sort,look_iff];simp
def Er{p:Int}(h0:0<=p)(h1:p<C.ts.length)(h:p∉C.cuts):(step C<|.fallT p).isSome=eN:=by dsimp only[step];rw[gp ⟨⟨h0,h1⟩,by cases z:(C.fallen.lookup p).isSome with|false=>rfl|true=>exact gA (cut_mem.mpr z) h⟩];rfl
def DT{p:Int}(h:p∈C.cuts):(step C<|.backT p).isSome=eN:=by dsimp only[step];rw[gp<|cut_mem.mp h];rfl
def downs_mem{b:Int}:b∈C.downs↔b∈C.bs/\(C.br.lookup b).isSome=eP:=by unfold Yc.downs;rw[û];simp
def Dy{b:Int}(g:C.gd N)(h:b∈C.downs):(step C<|.backB b).isSome=eN:=by let⟨h1,h2⟩:=downs_mem.mp h;dsimp only[step];rw[gq<|by rw[h2];decide];rw[<-g.lv]at h1;let⟨v,hv⟩:=ZK h1;rw[hv];rfl
def MK(h0:0<=r)(h1:r<C.road.length):(step C<|.lost r).isSome=eN/\(step C<|.come r).isSome=eN:=by have e:=É (l:=C.road) (i:=r.toNat) (by lia);dsimp only[step];rw[gq (by lia),e];exact⟨rfl,by rw[gq<|by lia];rfl⟩
def pick(r0:0<=r)(r1:r<ns.length):∃b∈ns,atI (ns.map Val.int) r=eL (.int b):=by let⟨b,hb,hm⟩:=DM r0 r1;exact⟨b,hm,YO r0<|by rw[Ø,hb];rfl⟩
abbrev flat:Nat->Val->Bool
 |_,.non=>eN
 |_,.bl _=>eN
 |_,.int _=>eN
 |_,.str _=>eN
 |n+1,.tup xs=>xs.all<|flat n
 |_,_=>eP
def WR{α β:Type}{f:α->Option β}:∀{xs:List α},(∀x∈xs,∃d,f x=eL d)->∃ds,xs.mapM f=eL ds
 |[],_=>⟨[],rfl⟩
 |x::xs,h=>by let⟨d,hd⟩:=h x (by simp);let⟨ds,hds⟩:=WR (xs:=xs) λy hy=>h y (by simp[hy]);exact⟨d::ds,by rw[ş,hd,hds];rfl⟩
def Nk{h:Hs}:∀{n:Nat}{v:Val},flat n v=eN->∃d,dat h n v=eL d
 |0,.non,_=>⟨_,rfl⟩
 |0,.bl _,_=>⟨_,rfl⟩
 |0,.int _,_=>⟨_,rfl⟩
 |0,.str _,_=>⟨_,rfl⟩
 |n+1,.non,_=>⟨_,rfl⟩
 |n+1,.bl _,_=>⟨_,rfl⟩
 |n+1,.int _,_=>⟨_,rfl⟩
 |n+1,.str _,_=>⟨_,rfl⟩
 |n+1,.tup xs,e=>by let⟨ds,hds⟩:=WR (f:=dat h n) (xs:=xs) λx hx=>Nk<|ā.mp e x hx;exact⟨_,by show(xs.mapM<|dat h n).map D.tup=_;rw[hds];rfl⟩
def O4{xs:List Val}(ea:h a=eL (.lst xs))(eb:h b=eL (.lst xs))(e:xs.all (flat 11)=eN):eqV h (.ref a) (.ref b)=eL eN:=by
 let⟨ds,hds⟩:=WR (f:=dat h 11) (xs:=xs) λx hx=>Nk<|ā.mp e x hx;have h1:∀{c:Ad},h c=eL (.lst xs)->dat h deep (.ref c)=eL (.lst ds):=λ{c} ec=>by show(fe<|h c).bind (λxs=>(xs.mapM<|dat h 11).map D.lst)=_;rw[ec,Yr,ý,hds];rfl
 unfold eqV;rw[h1 ea,h1 eb];show eL (D.eqv _ _)=_;rw[D.eqv_refl]
def all_map{α:Type}{f:α->Val}{n:Nat}{xs:List α}(h:∀x∈xs,flat n (f x)=eN):(xs.map f).all (flat n)=eN:=by rw[List.all_map];exact ā.mpr h
def JU{i:Int}:flat n (.int i)=eN:=by cases n<;>rfl
section
variable {Y:Yd}{N:Nat}
def D8{bs:List Int}(no:fm bs ts)(hp:h p=eM)(k:∀Y g,Y.y=p->fc g Y->Y.cc=AK bs ts most->(∀a∈Y.adr,h a=eM)->Ext h g->Q .non g):wF P (n+3) "Yard.__init__" [.ref p,ZI bs ts,.int most] (upd h p<|.ins "Yard" []) Q X:=CO no hp λY g e y nw f x=>k Y g e y (Qe nw) f x
def E9{k:Nat}(q:∀c,Q (.int c) h):wF P (n+1) "_law_cell_at" [.scr ns,.int k] h Q X:=by
 refine J8 ?_;refine' fS (λhc=>?_) (λhc=>?_)
 .fail;have hk:k<ns.length:=by lia
  refine LG (v:=.int ns[k]) ?_ ?_
  .refine YO (by lia) ?_;rw[Ø];simp[hk]
  .exact q _
 .refine' q _
end
def JS{st:Hs->Prop}{step:Val->Hs->(Option Val->Hs->Prop)->XQ->Prop}{Q:List Val->Hs->Prop}{f:α->Val}{l:List α}(p:α->Bool)(v:α->Val)(Ž:st h)(go:∀x∈l,∀K,(p x=eN->K (eL<|v x) h)->(p x=eP->K eM h)->step (f x) h K X)(fin:Q ((l.filter p).map v) h):wComp st step (l.map f) [] h Q X:=by
 refine XY (λi ys g=>g=h/\ys=((l.take i).filter p).map v) ⟨rfl,rfl⟩ (λ_ _ _ _ z=>z.1▸Ž) ?_ ?_
 .rintro i u ys g hv ⟨rfl,rfl⟩ K hK;let⟨x,hx,rfl⟩:=ZX hv;rw[Zt hx,χ,ē,ϔ]at hK;exact go x (é hx) K (λe=>hK _ _ ⟨rfl,by rw[e,gp rfl,Û];rfl⟩) λe=>hK _ _ ⟨rfl,by rw[e,gq (by decide),ö,cS,ö]⟩
 .rintro ys g ⟨rfl,rfl⟩;rw[Á,Ă];exact fin
def OH{st:Hs->Prop}{step:Val->Hs->(Option Val->Hs->Prop)->XQ->Prop}{Q:List Val->Hs->Prop}{f:α->Val}{l:List α}(v:α->Val)(Ž:st h)(go:∀x∈l,∀K,K (eL<|v x) h->step (f x) h K X)(fin:Q (l.map v) h):wComp st step (l.map f) [] h Q X:=JS (λ_=>eN) v Ž (λx hx K h1 _=>go x hx K<|h1 rfl) (by rw[ϩ.mpr λ_ _=>rfl];exact fin)
abbrev Yc.ups(C:Yc):List Int:=C.bs.filter λb=>(C.br.lookup b).isSome
def DO(g:C.gd N):C.keys=C.ups:=by
 have s1:C.keys.Pairwise (· < ·):=X3 g.nd;have s2:C.ups.Pairwise (· < ·):=g.no.up.sublist ĥ;have p:C.keys.Perm C.ups:=(ς (s1.imp λz=>by lia)<|s2.imp λz=>by lia).mpr λb=>by rw[keys_mem];unfold Yc.ups;rw[û];exact⟨λz=>⟨keys_sub.mp g.sub b<|keys_look.mp z,z⟩,λz=>z.2⟩
 exact p.eq_of_pairwise (λa b _ _ z1 z2=>by lia) s1 s2
def FQ:eqV h (.tup<|ts.map trV) (.tup [])=eL (gB (ts=[])):=by
 cases ts with
 |nil=>rfl
 |cons a l =>
  let⟨ds,hds⟩:=WR (f:=dat h 11) (xs:=(a::l).map trV) λx hx=>by let⟨t,_,rfl⟩:=Ò.mp hx;exact⟨_,rfl⟩
  show((((a::l).map trV).mapM<|dat h 11).map D.tup).bind _=_;have:∃d r,ds=d::r:=by
   rw[Ñ,ş]at hds;cases e:(l.map trV).mapM (dat h 11)with
   |none=>rw[e]at hds;cases hds
   |some r=>rw[e]at hds;exact⟨_,_,(è hds).symm⟩
  let⟨d,r,rfl⟩:=this;rw[hds];rfl
noncomputable abbrev dnV(C:Yc):Val:=.tup [.tup<|C.downs.map .int,.tup<|C.cuts.map .int]
section
variable {Y:Yd}{N:Nat}{C:Yc}
def Bt(hw:Row h w)(gd:C.gd N)(k:∀d g,(step C d).isSome=eN->ExtB w h g->Row g w->Q (Dd.v d) g):wF P (n+2) "_law_turned" [.ref w,ZI C.bs C.ts,dnV C] h Q X:=by
 have t16:=gd.no.sixteen;have b10:=gd.no.ten;have b1:=gd.no.one;have htl:(C.ts.map trV).length=C.ts.length:=Á _;have hbl:(C.bs.map Val.int).length=C.bs.length:=Á _;refine MY ?_
 exists eW (xs:=[.tup<|C.bs.map .int,.tup<|C.ts.map trV]) (v:=.tup<|C.ts.map trV) rfl
 fail;rw[htl];refine Zd hw (by split<;>lia) (by split<;>lia) λp g1 p0 p1 x1 w1=>?_
 exists eW (xs:=[.tup<|C.bs.map .int,.tup<|C.ts.map trV]) (v:=.tup<|C.bs.map .int) rfl
 exists eW (xs:=[.tup<|C.bs.map .int,.tup<|C.ts.map trV]) (v:=.tup<|C.bs.map .int) rfl
 fail;rw[hbl];refine Zd w1 (by lia) (by lia) λr g2 r0 r1 x2 w2=>?_;let⟨b,hb,eb⟩:=pick (ns:=C.bs) r0 r1;refine eW eb ?_;refine' Zd w2 (by decide) (by decide) λs g3 s0 s1 x3 w3=>?_;have xx:=(x1.trans x2).trans x3;have fin:∀{g:Hs},ExtB w h g->Row g w->wSs (wF P<|n+1) #[.ret<|.tup #[.idx (.lst #[.cst<|.str "fall",.cst<|.str "back"])<|.bi .int #[.cmp .isin (.var 4)<|.idx (.var 2)<|.cst<|.int 0],.cst<|.str "bridge",.var 4]] [eL<|.ref w,eL<|ZI C.bs C.ts,eL<|dnV C,eL<|.int p,eL<|.int b] g (λ_ g=>Q .non g) Q (λ_ _=>False) (λ_ _=>False) λ_ c g=>X c g:=λ{g} y wg=>by
  refine' Ze λq g4 hq x4 e4=>?_
  exists M1 (ns:=C.downs)
  have y4:=y.trans<|.of x4;by_cases z:b∈C.downs
  .rw[gx z];refine' k (.backB b) _ (Dy gd z) y4 (wg.ext x4)
  .rw[gu z];refine' k (.fallB b) _ (Dv<|keys_mem.mpr ?_) y4 (wg.ext x4);cases e:(C.br.lookup b).isSome with
   |true=>rfl
   |false=>exact gA (downs_mem.mpr ⟨hb,e⟩) z
 refine' fS (λc1=>?_) (λc1=>fR rfl<|B7<|fin xx w3)
 exists eW (xs:=[.tup<|C.bs.map .int,.tup<|C.ts.map trV]) (v:=.tup<|C.ts.map trV) rfl
 refine XB FQ ?_;refine' Kk (λc2=>?_) (λc2=>B7<|fin xx w3);have hl:=dk.mpr c2;have p1:p<C.ts.length:=by split at p1<;>lia
 refine' Ze λq g4 hq x4 e4=>?_
 exists M1 (ns:=C.cuts)
 have y4:=xx.trans<|.of x4;by_cases z:p∈C.cuts
 .rw[gx z];refine' k (.backT p) _ (DT z) y4 (w3.ext x4)
 .rw[gu z];refine' k (.fallT p) _ (Er p0 p1 z) y4 (w3.ext x4)
def Ee(hw:Row h w)(x:fc h Y)(gd:Y.cc.gd N)(hN:N<=6000)(nw:w∉Y.adr)(k:∀d g,(step Y.cc d).isSome=eN->ExtB w h g->Row g w->Q (Dd.v d) g):wF P (n+3) "_law_drawn" [.ref w,.ref Y.y,ZI Y.bs Y.ts] h Q X:=by
 have xi:=x.ins;have hl:Y.road.length<=16*N:=gd.len;have rl:(Y.road.map rdV).length=Y.road.length:=Á _;refine Oc ?_;refine' Ul x λp1 g1 cY x1 e1=>?_;have y1:=x.ext x1;have xi:=y1.ins;refine' JB y1 gd λg2 x2=>?_;have y2:=y1.ext x2
 exists eW (xs:=[.tup<|Y.bs.map .int,.tup<|Y.ts.map trV]) (v:=.tup<|Y.bs.map .int) rfl
 refine' ⟨Ö (by rw[Á];exact gd.no.ten) (by decide),?_⟩;refine JS (l:=Y.bs) (λb=>(Y.cc.br.lookup b).isSome) Val.int trivial (λb hm K k1 k2=>?_) ?_
 .have e:(!gB (b∈Y.cc.downs))=(Y.cc.br.lookup b).isSome:=by
   cases z:(Y.cc.br.lookup b).isSome with
   |false=>rw[gx<|downs_mem.mpr ⟨hm,z⟩];rfl
   |true=>rw[gu λy=>by have:=(downs_mem.mp y).2;rw[z]at this;cases this];rfl
  exists Ow (ns:=Y.cc.downs)
  rw[e];refine' fT (λhc=>?_) (λhc=>?_)
  .refine' k1 hc
  .exact k2 hc
 refine Ze λpu g3 hpu x3 eu=>?_
 replace eu:g3 pu=eL (.lst<|Y.cc.ups.map .int):=eu
 have w3:=((hw.ext x1).ext x2).ext x3;have nu:pu≠w:=λz=>((hw.ext x1).ext x2).ne hpu z.symm;fail;rw[rl];refine Zd w3 (by decide) (by decide) λkd g4 k0 k1 x4 w4=>?_;have xx:ExtB w h g4:=(ExtB.of<|(x1.trans x2).trans x3).trans x4;have eu4:=x4.get nu eu;have ul:(Y.cc.ups.map Val.int).length=Y.cc.ups.length:=Á _;have ul10:Y.cc.ups.length<=10:=Ý (Ļ _ _) gd.no.ten;have tn:∀{g:Hs},ExtB w h g->Row g w->wF P (n+2) "_law_turned" [.ref w,ZI Y.bs Y.ts,dnV Y.cc] g Q X:=λ{g} y wg=>Bt (C:=Y.cc) wg gd λd g' s x' w'=>k d g' s (y.trans x') w';refine' fS (λc1=>?_) (λc1=>?_)
 .refine fQ rfl ?_;refine' tn xx w4
 refine' Ze λpz g5 hz x5 e5=>?_;refine c_eqE (x5.get eu4) e5 ?_;have y5:ExtB w h g5:=xx.trans<|.of x5;have w5:=w4.ext x5;refine' fT (λc2=>?_) (λc2=>?_)
 .refine' tn y5 w5
 have eu5:=x5.get eu4;have hpos:0<Y.cc.ups.length:=by
  cases z:Y.cc.ups with
  |nil=>rw[z]at c2;cases c2
  |cons a l=>simp
 have tick:wSs (wF P<|n+2) #[.ret<|.tup #[.cst<|.str "tick",.idx (.var 5)<|.call "_law_take" #[.var 0,.bi .len #[.var 5]]]] [eL<|.ref w,eL<|.ref Y.y,eL<|ZI Y.bs Y.ts,eL<|.int (Y.road.length:Nat),eL<|dnV Y.cc,eL<|.ref pu,eL<|.int kd,eM] g5 (λe g=>True) Q (λ_ _=>False) (λ_ _=>False) λ_ c g=>X c g:=by fail;rw[ul];refine Zd w5 (by lia) (by lia) λr g6 r0 r1 x6 w6=>?_;let⟨b,hb,eb⟩:=pick (ns:=Y.cc.ups) r0 r1;refine Z4 (x6.get nu eu5) eb ?_;refine' k (.tick b) _ (FB<|by rw[DO gd];exact hb) (y5.trans x6) w6
 refine' fS (λc3=>?_) (λc3=>?_)
 .refine fQ rfl ?_;exact tick
 refine' fS (λc4=>?_) (λc4=>?_)
 .exact tick
 refine' Zd w5 (by lia) (by lia) λr g6 r0 r1 x6 w6=>?_;refine' Ze λq g7 hq x7 e7=>?_;have nq:q≠w:=λz=>w6.ne hq z.symm;refine' Zd (w6.ext x7) (by decide) (by decide) λs g8 s0 s1 x8 w8=>?_;let⟨v,hv,em⟩:=YG (xs:=[Val.int 0,.int 0,.int<|(Y.road.length:Nat) - 1,.int r]) (r:=s) s0 s1;refine Z4 (x8.get nq e7) hv ?_;have:∃q:Int,v=.int q/\0<=q/\q<Y.cc.road.length:=by
  have:Y.cc.road.length=Y.road.length:=rfl;simp only[È,Ù,or_false]at em;rcases em with rfl|rfl|rfl|rfl
  .exact⟨_,rfl,by lia,by lia⟩
  .exact⟨_,rfl,by lia,by lia⟩
  .exact⟨_,rfl,by lia,by lia⟩
  .exact⟨_,rfl,r0,r1⟩
 let⟨pl,rfl,q0,q1⟩:=this;refine' Ze λq2 g9 hq2 x9 e9=>?_;fail;have y9:ExtB w h g9:=(((y5.trans x6).trans<|.of x7).trans x8).trans<|.of x9;by_cases z:kd=12
 .rw[gx z];refine' k (.lost pl) _ (MK q0 q1).1 y9 (w8.ext x9)
 .rw[gu z];refine' k (.come pl) _ (MK q0 q1).2 y9 (w8.ext x9)
end
noncomputable abbrev Hst:=Int->Pi->Option Lab
abbrev leP(a b:Pi):Prop:=a.1<b.1\/(a.1=b.1/\a.2<=b.2)
def leP.anti{a b:Pi}(h:leP a b)(k:leP b a):a=b:=by unfold leP at h k;exact Prod.ext (by lia) (by lia)
def leP.refl(a:Pi):leP a a:=.inr ⟨rfl,Š _⟩
abbrev Inc(ts:List Tie)(p b:Int):Prop:=0<=p/\p<ts.length/\((ts[p.toNat]?.getD (0,0,0)).1=b\/(ts[p.toNat]?.getD (0,0,0)).2.1=b)
abbrev cst(ts:List Tie)(p:Int):Int:=(ts[p.toNat]?.getD (0,0,0)).2.2
def Nd{p:Int}(h0:0<=p)(h1:p<ts.length):ts[p.toNat]?.getD (0,0,0)∈ts:=by
 have h2:p.toNat<ts.length:=by lia
 rw[É h2];exact Ŏ h2
def Inc.far{bs:List Int}(no:fm bs ts){p b:Int}(h:Inc ts p b):Inc ts p (Z8 ts p b)/\Z8 ts p (Z8 ts p b)=b:=by
 let⟨h0,h1,h2⟩:=h;have lt:=(no.tie _<|Nd h0 h1).2.2.1;unfold Inc Z8 O.far;rcases h2 with h2|h2
 .rw[gp h2,gq<|by lia];exact⟨⟨h0,h1,.inr rfl⟩,h2⟩
 .rw[gq (by lia),gp rfl];exact⟨⟨h0,h1,.inl rfl⟩,h2⟩
structure LtOk(H:Hst)(ts:List Tie)(b p:Int)(l:L):Prop where
 inc:Inc ts p b
 lab:∃y,H b l.st=eL y/\l.root=y.root/\l.cost=y.cost/\∀t,l.rests=eL t->y.up=eL (p,t)
 agr:∀t,l.agrees=eL t->(H (Z8 ts p b) t).isSome=eN/\∀t1 y q,leP t1 t->H (Z8 ts p b) t1=eL y->y.up=eL (p,q)->leP q l.st
structure BrOk(H:Hst)(ts:List Tie)(lv:List<|Int×Int)(b:Int)(B:Br):Prop where
 now:H b (B.life,B.version)=eL B.label
 top:∀s,(H b s).isSome=eN->leP s (B.life,B.version)
 held:∀q∈B.held,LtOk H ts (Z8 ts q.1 b) q.1 q.2.1
 ties:∀q∈B.ties,Inc ts q.1 b/\q.2=(Z8 ts q.1 b,cst ts q.1)
 life:lv.lookup b=eL B.life
structure Safe(H:Hst)(C:Yc):Prop where
 br:∀q∈C.br,BrOk H C.ts C.lives q.1 q.2
 lv:∀b l s,C.lives.lookup b=eL l->(H b s).isSome=eN->s.1<=l
 rest:∀b s y p t,H b s=eL y->y.up=eL (p,t)->∃z,H (Z8 C.ts p b) t=eL z/\y.root=z.root/\y.cost=z.cost+cst C.ts p
 road:∀r∈C.road,r.2.1=Z8 C.ts r.2.2.1 r.1/\LtOk H C.ts r.1 r.2.2.1 r.2.2.2
abbrev Xx(H:Hst)(b:Int)(s:Pi)(y:Lab):Hst:=λc t=>if c=b/\t=s then eL y else H c t
abbrev A2(H:Hst)(b:Int)(s:Pi):Prop:=∀t,(H b t).isSome=eN->leP t s/\t≠s
section
variable {H:Hst}{ts:List Tie}{lv:List (Int×Int)}{b c p:Int}{s t:Pi}{y z:Lab}{l:L}{B:Br}{C D:Yc}
def Nw:Xx H b s y b s=eL y:=gp ⟨rfl,rfl⟩
def Xc(nw:A2 H b s)(h:H c t=eL z):Xx H b s y c t=eL z:=by
 unfold Xx;rw[gq]
 .exact h
 .rintro⟨rfl,rfl⟩;exact(nw t<|by rw[h];rfl).2 rfl
def W1(h:Xx H b s y c t=eL z):(c=b/\t=s/\z=y)\/H c t=eL z:=by
 unfold Xx at h;split at h
 .rename_i e;cases h;exact .inl ⟨e.1,e.2,rfl⟩
 .exact .inr h
def Cw(nw:A2 H b s)(h:(H c t).isSome=eN):(Xx H b s y c t).isSome=eN:=by let⟨z,hz⟩:=ç.mp h;rw[Xc nw hz];rfl
def Xu(h:(Xx H b s y c t).isSome=eN):(c=b/\t=s)\/(H c t).isSome=eN:=by
 let⟨z,hz⟩:=ç.mp h;rcases W1 hz with q|q
 .exact .inl ⟨q.1,q.2.1⟩
 .exact .inr (by rw[q];rfl)
def LtOk.add(o:LtOk H ts c p l)(nw:A2 H b s):LtOk (Xx H b s y) ts c p l:=by
 let⟨x,h1,h2⟩:=o.lab;refine⟨o.inc,⟨x,Xc nw h1,h2⟩,λt ht=>?_⟩;let⟨q1,q2⟩:=o.agr t ht;refine⟨Cw nw q1,λt1 z q hl hz hu=>?_⟩;rcases W1 hz with⟨e1,e2,_⟩|e
 .rw[e1]at q1;have:=nw t q1;rw[e2]at hl;exact gA (leP.anti this.1 hl) this.2
 .exact q2 t1 z q hl e hu
def BrOk.add(o:BrOk H ts lv c B)(nw:A2 H b s)(n:c≠b):BrOk (Xx H b s y) ts lv c B :=
 ⟨Xc nw o.now,λt ht=>(Xu ht).elim (λe=>gA e.1 n)<|o.top t,λq hq=>(o.held q hq).add nw,o.ties,o.life⟩
def BrOk.less(o:BrOk H ts lv b B){A:Br}(e1:A.life=B.life)(e2:A.version=B.version)(e3:A.label=B.label)(hh:∀q∈A.held,q∈B.held)(ht:∀q∈A.ties,Inc ts q.1 b/\q.2=(Z8 ts q.1 b,cst ts q.1)):BrOk H ts lv b A :=
 ⟨by rw[e1,e2,e3];exact o.now,by rw[e1,e2];exact o.top,λq hq=>o.held q<|hh q hq,ht,by rw[e1];exact o.life⟩
def BrOk.tieF(o:BrOk H ts lv b B){f k:Int}(hp:Inc ts p b)(hf:f=Z8 ts p b)(hk:k=cst ts p):BrOk H ts lv b<|O.tieF on p f k B:=by
 subst hf hk;unfold O.tieF;split
 .unfold upB;split
  .exact o
  .refine o.less rfl rfl rfl (λ_ h=>h) λq hq=>?_;rcases Xn hq with e|hq
   .rw[e];exact⟨hp,rfl⟩
   .exact o.ties q hq
 .exact o.less rfl rfl rfl (λ_ h=>ZL h) λq hq=>o.ties q<|ZL hq
def Ue{R:Int->Br->Prop}{k:Int}{m:List (Int×Br)}(h:∀q∈m,R q.1 q.2)(hF:∀A,R k A->R k (F A)):∀q∈upC k F m,R q.1 q.2:=λq hq=>by
 let⟨e,he,rfl⟩:=Ò.mp hq;split
 .rename_i z;have:=h e he;rw[z]at this;dsimp only;rw[z];exact hF _ this
 .exact h e he
def MP{bs:List Int}(no:fm bs C.ts)(h0:0<=p)(h1:p<C.ts.length)(h:∀q∈C.br,BrOk H C.ts C.lives q.1 q.2):∀q∈(C.set1 p).br,BrOk H C.ts C.lives q.1 q.2:=by have lt:=(no.tie _<|Nd h0 h1).2.2.1;have e1:Z8 C.ts p (C.tie p).1=(C.tie p).2.1:=gp rfl;have e2:Z8 C.ts p (C.tie p).2.1=(C.tie p).1:=gq (by show ¬ (C.ts[p.toNat]?.getD (0,0,0)).1=(C.ts[p.toNat]?.getD (0,0,0)).2.1;lia);exact Ue (R:=BrOk H C.ts C.lives) (Ue (R:=BrOk H C.ts C.lives) h λA o=>o.tieF ⟨h0,h1,.inl rfl⟩ e1.symm rfl) λA o=>o.tieF ⟨h0,h1,.inr rfl⟩ e2.symm rfl
def M2{bs:List Int}:∀{m:List Tie}{C:Yc},fm bs C.ts->(∀r∈m,0<=r.1/\r.1<C.ts.length)->(∀q∈C.br,BrOk H C.ts C.lives q.1 q.2)->(∀q∈(C.sets m).br,BrOk H C.ts C.lives q.1 q.2)/\(C.sets m).lives=C.lives/\(C.sets m).road=C.road
 |[],_,_,_,h=>⟨h,rfl,rfl⟩
 |r::m,C,no,hm,h=>M2 (m:=m) (C:=C.set1 r.1) no (λq hq=>hm q<|by simp[hq]) (MP no (hm r<|by simp).1 (hm r<|by simp).2 h)
def FR(o:B.ok)(h:(ZF B).up=eL q):∃l a,(q.1,(l,a))∈B.held/\q.2=l.st/\(ZF B).root=l.root/\(ZF B).cost=l.cost+(KS B.ties q.1).2:=by
 unfold ZF at h ⊢;split at h
 .cases h
 .rename_i m e;have hm:=JD e;unfold J7 at hm;let⟨y,hy,rfl⟩:=Ò.mp hm;cases h;refine⟨y.2.1,y.2.2,hy,?_,?_,?_⟩
  .show NJ B.held y.1=_;unfold NJ;rw[Yj o.nd hy];rfl
  .rfl
  .rfl
def BrOk.tick{bs:List Int}(sf:Safe H C)(no:fm bs C.ts)(o:BrOk H C.ts C.lives b B)(ok:B.ok):∃H',(∀c t z,H c t=eL z->H' c t=eL z)/\BrOk H' C.ts C.lives b B.ticked/\(∀c A,c≠b->BrOk H C.ts C.lives c A->BrOk H' C.ts C.lives c A)/\(∀c p l,LtOk H C.ts c p l->LtOk H' C.ts c p l)/\(∀k l s,C.lives.lookup k=eL l->(H' k s).isSome=eN->s.1<=l)/\(∀c s y p t,H' c s=eL y->y.up=eL (p,t)->∃z,H' (Z8 C.ts p c) t=eL z/\y.root=z.root/\y.cost=z.cost+cst C.ts p)/\(∀q∈B.ties,LtOk H' C.ts b q.1<|Zy B.told q.1):=by
 have og:=ok.grown;have hg:∀q∈B.grown.held,∃a,(q.1,(q.2.1,a))∈B.held:=λq hq=>K2 hq;let⟨f1,f2,f3,f4,f5,f6,f7⟩:=ZW B.grown<|ZF B.grown;have lets:∀H':Hst,(∀c t z,H c t=eL z->H' c t=eL z)->(∀c p l,LtOk H C.ts c p l->LtOk H' C.ts c p l)->BrOk H' C.ts C.lives b B.told->(∀c s y p t,H' c s=eL y->y.up=eL (p,t)->∃z,H' (Z8 C.ts p c) t=eL z/\y.root=z.root/\y.cost=z.cost+cst C.ts p)->∀q∈B.ties,LtOk H' C.ts b q.1 (Zy B.told q.1):=λH' hk hl o' rs q hq=>by
  have hi:=(o.ties q hq).1;have hf:=hi.far no;refine⟨hi,⟨B.told.label,o'.now,rfl,rfl,λt ht=>?_⟩,λt ht=>?_⟩
  .replace ht:(if Bj B.told.label.up q.1 then B.told.label.up.map (·.2)else eM)=eL t:=ht
   split at ht
   .rename_i hu;cases e:B.told.label.up with
    |none=>rw[e]at hu;cases hu
    |some v =>rw[e]at ht hu;have:q.1=v.1:=of_decide_eq_true hu;cases ht;rw[this]
   .cases ht
  .replace ht:(if Bj B.told.label.up q.1 then eM else if Xg B.told q.1 then eL (NJ B.told.held q.1)else eM)=eL t:=ht
   split at ht
   .cases ht
   .split at ht
    .rename_i hr;unfold Xg at hr;cases e:B.told.held.lookup q.1 with
     |none=>rw[e]at hr;cases hr
     |some v =>cases ht;unfold NJ;rw[e];have hm:=Zf e;have hm:=o'.held _ hm;let⟨x,g1,_⟩:=hm.lab;refine⟨by show(H' (Z8 C.ts q.1 b) v.1.st).isSome=eN;rw[g1];rfl,λt1 y' u _ hy hu=>?_⟩;let⟨z,hz,_⟩:=rs _ _ _ _ _ hy hu;rw[hf.2]at hz;exact o'.top u (by rw[hz];rfl)
    .cases ht
 by_cases e:ZF B.grown=B.label
 .have ht:B.told=B.grown:=gp e;have o1:BrOk H C.ts C.lives b B.grown:=⟨o.now,o.top,λq hq=>by let⟨a,ha⟩:=hg q hq;exact o.held (q.1,(q.2.1,a)) ha,o.ties,o.life⟩
  refine⟨H,(λ_ _ _ h=>h),?_,(λ_ _ _ h=>h),(λ_ _ _ h=>h),sf.lv,sf.rest,lets H (λ_ _ _ h=>h) (λ_ _ _ h=>h) (by rw[ht];exact o1) sf.rest⟩;unfold Br.ticked;rw[ht];exact⟨o1.now,o1.top,o1.held,o1.ties,o1.life⟩
 .have ht:B.told={B.grown with label:=ZF B.grown,version:=B.version+1}:=gq e;have nw:A2 H b (B.life,B.version+1):=λt h=>by
   have:=o.top t h;unfold leP at this ⊢;dsimp only at this ⊢;exact⟨by lia,λz=>by rw[z]at this;dsimp only at this;lia⟩
  have hk:∀c t z,H c t=eL z->Xx H b (B.life,B.version+1) (ZF B.grown) c t=eL z:=λc t z h=>Xc nw h;have o1:BrOk (Xx H b (B.life,B.version+1)<|ZF B.grown) C.ts C.lives b {B.grown with label:=ZF B.grown,version:=B.version+1}:=⟨Nw,λt h=>(Xu h).elim (λz=>by rw[z.2];exact leP.refl _) λh=>(nw t h).1,λq hq=>by let⟨a,ha⟩:=hg q hq;exact(o.held (q.1,(q.2.1,a)) ha).add nw,o.ties,o.life⟩
  have rs:∀c s y p t,Xx H b (B.life,B.version+1) (ZF B.grown) c s=eL y->y.up=eL (p,t)->∃z,Xx H b (B.life,B.version+1) (ZF B.grown) (Z8 C.ts p c) t=eL z/\y.root=z.root/\y.cost=z.cost+cst C.ts p:=λc s y p t h hu=>by
   rcases W1 h with⟨rfl,rfl,rfl⟩|h
   .obtain⟨l,a,h1,h2,h3,h4⟩:=FR og hu;let⟨a',ha'⟩:=hg _ h1;dsimp only at h2 h4 ha';have lo:=o.held _ ha';let⟨x,g1,g2,g3,_⟩:=lo.lab;refine⟨x,hk _ _ _ (by rw[h2];exact g1),h3.trans g2,?_⟩;have hs:=ok.sub _ ha';have:=o.ties _<|Zf<|Ck hs;have e2:=congrArg Prod.snd this.2;dsimp only at e2;rw[h4,show B.grown.ties=B.ties from rfl,e2,g3]
   .obtain⟨z,hz,q⟩:=sf.rest c s y p t h hu;exact⟨z,hk _ _ _ hz,q⟩
  refine⟨Xx H b (B.life,B.version+1)<|ZF B.grown,hk,?_,(λc A n h=>h.add nw n),(λc p l h=>h.add nw),(λk l s h1 h2=>(Xu h2).elim (λz=>?_)<|sf.lv k l s h1),rs,lets _ hk (λc p l h=>h.add nw) (by rw[ht];exact o1) rs⟩
  .unfold Br.ticked;rw[ht];exact⟨o1.now,o1.top,o1.held,o1.ties,o1.life⟩
  .rw[z.1,o.life]at h1;cases h1;rw[z.2];exact Š _
end
section
variable {H:Hst}{C D:Yc}{N:Nat}
def JE{p:Prop}[Decidable p]{a b:α}(h:(if p then eL a else eM)=eL b):p/\a=b:=by
 split at h
 .rename_i z;exact⟨z,è h⟩
 .cases h
def AF{k:Int}{v:α}(n:c≠k):(Zo kvs k v).lookup c=kvs.lookup c:=by
 have e1:(c==k)=eP:=⇑n
 unfold Zo;split
 .rename_i h;clear h;induction kvs with
  |nil=>rfl
  |cons p r ih =>
   rw[Ñ,ï,ï,ih];by_cases e:p.1=k
   .rw[gp e,e,show(c==(k,v).1)=eP from e1]
   .rw[gq e]
 .rw[dQ,ï,e1];exact Option.or_none
def Bb{d:Dd}(gd:C.gd N)(sf:Safe H C)(st:step C d=eL D):∃H',Safe H' D:=by
 have no:=gd.no;cases d with
 |tick b =>
  let⟨B,hB,rfl⟩:=Ë.mp st;have hm:=Zf hB;let⟨H',_,o1,o2,o3,o4,o5,o6⟩:=(sf.br _ hm).tick sf no (gd.ok _ hm).ok;refine⟨H',λq hq=>?_,o4,o5,λr hr=>?_⟩
  .obtain⟨e,he,rfl⟩:=Ò.mp hq;split
   .rename_i z;have:=Yj gd.nd he;rw[z,hB]at this;cases this;dsimp only;rw[z];exact o1
   .rename_i z;exact o2 _ _ z<|sf.br e he
  .rcases Õ.mp hr with hr|hr
   .exact⟨(sf.road r hr).1,o3 _ _ _ (sf.road r hr).2⟩
   .obtain⟨p,hp,rfl⟩:=Ò.mp hr;let⟨q,hq,rfl⟩:=Ò.mp<|mem_sort.mp hp;rw[show B.told.ties=B.ties from (ZW B.grown<|ZF B.grown).2.1]at hq;exact⟨rfl,o6 q hq⟩
 |come p =>
  replace st:(if p<0 then eM else(C.road[p.toNat]?).map λr=>({C with br:=upC r.2.1 (ZS · r.2.2.1 r.2.2.2) C.br,road:=C.road.eraseIdx p.toNat}:Yc))=eL D:=st
  split at st
  .cases st
  .obtain⟨r,hr,rfl⟩:=Ë.mp st;let⟨e,lo⟩:=sf.road r<|é hr;refine⟨H,Ue (R:=BrOk H C.ts C.lives) (F:=(ZS · r.2.2.1 r.2.2.2)) sf.br λA o=>?_,sf.lv,sf.rest,λq hq=>sf.road q<|bL hq⟩;unfold ZS;split
   .split
    .refine⟨o.now,o.top,λq hq=>?_,o.ties,o.life⟩;rcases Xn hq with z|hq
     .rw[z];show LtOk H C.ts (Z8 C.ts r.2.2.1 r.2.1) r.2.2.1 r.2.2.2;rw[e,(lo.inc.far no).2];exact lo
     .exact o.held q hq
    .exact o
   .exact o
 |lost p =>
  replace st:(if p<0 then eM else(C.road[p.toNat]?).map λr=>({C with road:=C.road.eraseIdx p.toNat}:Yc))=eL D:=st
  split at st
  .cases st
  .obtain⟨r,hr,rfl⟩:=Ë.mp st;exact⟨H,sf.br,sf.lv,sf.rest,λq hq=>sf.road q<|bL hq⟩
 |fallB b =>let⟨_,rfl⟩:=JE st;let⟨q1,q2,q3⟩:=M2 (H:=H) (C:={C with br:=Zs C.br b}) no (Mu (b:=b)) λq hq=>sf.br q<|ZL hq;let⟨e1,e2,e3⟩:=Xd (f9 b 0 C.ts) {C with br:=Zs C.br b};exact⟨H,by rw[e2,q2];exact q1,by rw[q2];exact sf.lv,by rw[e2];exact sf.rest,by rw[e2,q3];exact sf.road⟩
 |fallT p =>let⟨hp,rfl⟩:=JE st;exact⟨H,MP (C:={C with fallen:=Zo C.fallen p eN}) no hp.1.1 hp.1.2 sf.br,sf.lv,sf.rest,sf.road⟩
 |backB b =>
  replace st:(if(C.br.lookup b).isSome then eM else(C.lives.lookup b).map λl=>Yc.sets {C with lives:=Zo C.lives b<|l+1,br:=C.br++[(b,ZO b (l+1) C.most [])]}<|f9 b 0 C.ts)=eL D:=st
  split at st
  .cases st
  .rename_i hn;let⟨l,hl,rfl⟩:=Ë.mp st;have nw:A2 H b (l+1,0):=λt h=>by
    have:=sf.lv b l t hl h;unfold leP;dsimp only;exact⟨.inl (by lia),λz=>by rw[z]at this;dsimp only at this;lia⟩
   have lk:∀c,(Zo C.lives b<|l+1).lookup c=if c=b then eL (l+1)else C.lives.lookup c:=λc=>by
    split
    .rename_i z;rw[z];exact KM
    .rename_i z;exact AF z
   let⟨q1,q2,q3⟩:=M2 (H:=Xx H b (l+1,0) ⟨b,0,eM⟩) (C:={C with lives:=Zo C.lives b<|l+1,br:=C.br++[(b,ZO b (l+1) C.most [])]}) no (Mu (b:=b)) λq hq=>by
    rcases Õ.mp hq with hq|hq
    .have ž:q.1≠b:=λz=>hn (by rw[keys_look,<-z];exact ò hq);have o:=(sf.br q hq).add (y:=⟨b,0,eM⟩) nw ž;exact⟨o.now,o.top,o.held,o.ties,by show(Zo C.lives b<|l+1).lookup q.1=_;rw[lk,gq ž];exact o.life⟩
    .rw[Ó.mp hq];exact⟨Nw,λt h=>(Xu h).elim (λz=>by rw[z.2];exact leP.refl _) λh=>(nw t h).1,(λq hq=>gA hq Ù),(λq hq=>gA hq Ù),by show(Zo C.lives b<|l+1).lookup b=_;rw[lk,gp rfl];rfl⟩
   let⟨e1,e2,e3⟩:=Xd (f9 b 0 C.ts) {C with lives:=Zo C.lives b<|l+1,br:=C.br++[(b,ZO b (l+1) C.most [])]};refine⟨Xx H b (l+1,0) ⟨b,0,eM⟩,by rw[e2,q2];exact q1,?_,?_,?_⟩
   .rw[q2];intro c k s hc hs
    replace hc:(Zo C.lives b<|l+1).lookup c=eL k:=hc
    rw[lk]at hc;split at hc
    .rename_i z;cases hc;rcases Xu hs with w|w
     .rw[w.2];exact Š _
     .have:=sf.lv b l s hl (by rw[<-z];exact w);lia
    .rename_i z;rcases Xu hs with w|w
     .exact gA w.1 z
     .exact sf.lv c k s hc w
   .rw[e2];intro c s y p t hy hu;rcases W1 hy with⟨_,_,z⟩|hy
    .rw[z]at hu;cases hu
    .obtain⟨z,hz,w⟩:=sf.rest c s y p t hy hu;exact⟨z,Xc nw hz,w⟩
   .rw[e2,q3];exact λr hr=>⟨(sf.road r hr).1,(sf.road r hr).2.add nw⟩
 |backT p =>let⟨hp,rfl⟩:=JE st;let⟨v,hv⟩:=ç.mp hp;have:=gd.fr _<|Zf hv;exact⟨H,MP (C:={C with fallen:=Zs C.fallen p}) no this.1 this.2 sf.br,sf.lv,sf.rest,sf.road⟩
end
def UR{b:Int}:∀{l:List Tie}{k:Nat}{r:Tie},r∈f9 b k l->∃j t,l[j]?=eL t/\r=(((k+j:Nat):Int),far t b,t.2.2)/\(b=t.1\/b=t.2.1)
 |[],_,_,h=>by cases h
 |t::l,k,r,h=>by
  have go:r∈f9 b (k+1) l->∃j u,(t::l)[j]?=eL u/\r=(((k+j:Nat):Int),far u b,u.2.2)/\(b=u.1\/b=u.2.1):=λh=>by let⟨j,u,h1,h2,h3⟩:=UR h;exact⟨j+1,u,h1,by rw[h2];congr 1;lia,h3⟩
  unfold f9 at h;split at h
  .rename_i hb;rcases È.mp h with rfl|h
   .exact⟨0,t,rfl,rfl,hb⟩
   .exact go h
  .exact go h
def Bo{bs:List Int}(no:fm bs ts):∃H,Safe H (AK bs ts most):=by
 refine⟨λb s=>if b∈bs/\s=(0,0)then eL ⟨b,0,eM⟩else eM,λq hq=>?_,λb l s hl hs=>?_,λb s y p t hy hu=>?_,(λr hr=>gA hr Ù)⟩
 .obtain⟨b,hb,rfl⟩:=Ò.mp hq;refine⟨gp ⟨hb,rfl⟩,λs hs=>?_,(λq hq=>gA hq Ù),λq hq=>?_,?_⟩
  .split at hs
   .rename_i z;rw[z.2];exact leP.refl _
   .cases hs
  .obtain⟨r,hr,rfl⟩:=Ò.mp hq;let⟨j,t,h1,rfl,h3⟩:=UR hr;have hj:=(Î.mp h1).1;have e:ts[((0+j:Nat):Int).toNat]?.getD (0,0,0)=t:=by rw[ϓ,â,h1];rfl
   refine⟨⟨by lia,by show((0+j:Nat):Int)<(ts.length:Nat);lia,?_⟩,?_⟩
   .show(ts[((0+j:Nat):Int).toNat]?.getD (0,0,0)).1=b\/(ts[((0+j:Nat):Int).toNat]?.getD (0,0,0)).2.1=b;rw[e];exact h3.imp Eq.symm Eq.symm
   .show(far t b,t.2.2)=(far (ts[((0+j:Nat):Int).toNat]?.getD (0,0,0)) b,(ts[((0+j:Nat):Int).toNat]?.getD (0,0,0)).2.2)
    rw[e]
  .exact Yj (by rw[show((AK bs ts most).lives.map (·.1))=bs by show(bs.map λb=>(b,(0:Int))).map (·.1)=bs;rw[ê];exact ů _];exact no.up.imp λh=>by lia)<|Ò.mpr ⟨b,hb,rfl⟩
 .split at hs
  .rename_i z;rw[z.2];let⟨c,_,e⟩:=Ò.mp<|Zf hl;rw[<-(Prod.mk.inj e).2];exact Š _
  .cases hs
 .split at hy
  .cases hy;cases hu
  .cases hy
variable {H:Hst}
def Safe.way{bs:List Int}(sf:Safe H C)(no:fm bs C.ts){p q:Int}(hi:Inc C.ts p c)(hq:q=Z8 C.ts p c)(hc:O6 C c p = "child")(hp:O6 C q p = "parent"):(C.br.lookup c).isSome=eN/\(C.br.lookup q).isSome=eN/\(C.at_ c).label.root=(C.at_ q).label.root/\(C.at_ c).label.cost=(C.at_ q).label.cost+cst C.ts p/\(C.at_ c).label.up.map (·.1)=eL p:=by
 let⟨cZ,hg⟩:=hi.far no;rw[<-hq]at cZ hg;unfold O6 at hc hp;split at hc
 .split at hp
  .rename_i s1 s2;let⟨A,hA⟩:=ç.mp s1;let⟨B,hB⟩:=ç.mp s2;have oA:=sf.br _<|Zf hA;have oB:=sf.br _<|Zf hB;have eA:C.at_ c=A:=by unfold Yc.at_;rw[hA];rfl
   have eB:C.at_ q=B:=by unfold Yc.at_;rw[hB];rfl
   rw[eA]at hc ⊢;rw[eB]at hp ⊢;unfold U0 at hc hp;split at hc
   .split at hc
    .split at hc
     .rename_i hu ha;split at hp
      .split at hp
       .split at hp<;>exact gA hp (by decide)
       .split at hp
        .rename_i hr;unfold MD at ha;unfold Xg at hr;cases z1:A.held.lookup p with
         |none=>rw[z1]at ha;cases ha
         |some l =>
          rw[z1]at ha;cases z2:B.held.lookup p with
          |none=>rw[z2]at hr;cases hr
          |some m =>
           rw[z2]at hr
           replace hr:m.1.rests=eL (B.life,B.version):=of_decide_eq_true hr
           replace ha:(if l.1.agrees=eL (A.life,A.version)then gB (A.label.up.map (·.2)=eL l.1.st)else eP)=eN:=ha
           split at ha
           .rename_i hag;have Ž:=of_decide_eq_true ha;have lA:=oA.held _<|Zf z1;have lB:=oB.held _<|Zf z2;dsimp only at lA lB;rw[<-hq]at lA;rw[hg]at lB;let⟨x,x1,_,_,x4⟩:=lB.lab;have ag:=(lA.agr _ hag).2;rw[hg]at ag;let⟨y,y1,_⟩:=lA.lab;have e:(B.life,B.version)=l.1.st:=leP.anti (ag _ x _ (oA.top _<|by rw[x1];rfl) x1<|x4 _ hr) (oB.top _<|by rw[y1];rfl);cases hup:A.label.up with
            |none=>rw[hup]at hu;cases hu
            |some u =>
             rw[hup]at hu Ž;have hpu:p=u.1:=of_decide_eq_true hu;have hsu:u.2=l.1.st:=⇑Ž
             let⟨z,hz,r1,r2⟩:=sf.rest _ _ _ p u.2 oA.now (by rw[hup,hpu]);dsimp only at hz r1 r2;rw[<-hq,hsu,<-e,oB.now]at hz;cases hz;exact⟨s1,s2,r1,r2,by rw[hpu];rfl⟩
           .cases ha
        .exact gA hp (by decide)
      .exact gA hp (by decide)
     .exact gA hc (by decide)
    .split at hc<;>exact gA hc (by decide)
   .exact gA hc (by decide)
  .exact gA hp (by decide)
 .exact gA hc (by decide)
abbrev opn(C:Yc)(p:Nat):List Tie:=if C.ends p=("child","parent")then [((p:Int),(C.tie p).1,(C.tie p).2.1)]else if C.ends p=("parent","child")then [((p:Int),(C.tie p).2.1,(C.tie p).1)]else []
abbrev Zr(C:Yc)(m:Nat):List Tie:=(List.range m).flatMap<|opn C
def WX{m:Nat}:Zr C (m+1)=Zr C m++opn C m:=by unfold Zr;rw[List.range_succ,ϫ];simp
def Xm{C:Yc}:∀m:Nat,(Zr C m).length<=m
 |0=>Ì _
 |m+1=>by
  have:=Xm (C:=C) m;have:(opn C m).length<=1:=by
   unfold opn;split
   .exact Ì _
   .split
    .exact Ì _
    .exact ĕ _
  rw[WX,í];lia
def HF{a b c d:String}:eqV h (.tup [.str a,.str b]) (.tup [.str c,.str d])=eL (gB ((a,b)=(c,d))):=by
 show eL (D.eqv (.tup [.str a,.str b])<|.tup [.str c,.str d])=_;congr 1;simp only[D.eqv,D.eqvs,Μ];by_cases h1:a=c
 .by_cases h2:b=d
  .subst h1;subst h2;simp
  .simp[h2]
 .simp[h1]
section
variable {Y:Yd}{N:Nat}{C:Yc}
def Iu{t:Tie}(h:C.ts[i]?=eL t):C.tie i=t:=by show C.ts[(i:Int).toNat]?.getD _=_;rw[â,h];rfl
def UI(x:fc h Y)(gd:Y.cc.gd N)(k:∀p g,h p=eM->Ext h g->g p=eL (.lst<|(Zr Y.cc Y.ts.length).map trV)->Q (.ref p) g):wF P (n+6) "open_ways" [.ref Y.y] h Q X:=by
 have t16:Y.ts.length<=16:=gd.no.sixteen;refine Oj ?_;refine' Ze λp g1 hp x1 e1=>?_;have y1:=x.ext x1;have yi:=y1.ins
 exists ET y1
 exists eW (xs:=[.tup<|Y.bs.map .int,.tup<|Y.ts.map trV]) (v:=.tup<|Y.ts.map trV) rfl
 exists eV rfl
 refine Zk (λi en g=>Sm3 λv2 v3 v4=>Cj3 (en=[eL<|.ref Y.y,eL<|.ref p,v2,v3,v4]) (Ext h g)<|g p=eL (.lst<|(Zr Y.cc i).map trV)) ⟨_,_,_,rfl,x1,e1⟩ (λ_ _ _ _ _=>trivial) ?_ ?_
 .rintro i v en g hv ⟨v2,v3,v4,rfl,xg,ep⟩ K hK;let⟨z,hz,rfl⟩:=Nf hv;rw[Ø]at hz;let⟨t,ht,rfl⟩:=Ë.mp hz;have hi:i<Y.ts.length:=(Î.mp ht).1;rw[ϓ];have yg:=x.ext xg;have yi:=yg.ins;have ol:=Xm (C:=Y.cc) i;have et:Y.cc.tie i=t:=Iu (C:=Y.cc) ht;rw[WX]at hK;unfold opn at hK;rw[et]at hK
  exists Gu yg hi
  exists K4 HF
  fail;unfold trV;refine fS (λc1=>?_) λc1=>?_
  .rw[gp c1]at hK;refine' ZM ep (by rw[Á,lim];lia) ?_;refine' hK _ _ ⟨_,_,_,rfl,Yk xg hp,by rw[Û];exact eR⟩
  rw[gq c1]at hK
  exists K4 HF
  refine' fS (λc2=>?_) (λc2=>?_)
  .rw[gp c2]at hK;refine' ZM ep (by rw[Á,lim];lia) ?_;refine' hK _ _ ⟨_,_,_,rfl,Yk xg hp,by rw[Û];exact eR⟩
  .rw[gq c2,ö]at hK;refine' hK _ _ ⟨_,_,_,rfl,xg,ep⟩
 .rintro en g ⟨v2,v3,v4,rfl,xg,ep⟩;rw[Ja,Á]at ep;refine' k p g hp xg ep
end
abbrev grp(ws:List Tie):Int->Int:=ws.foldl (λR w x=>if R x=R w.2.1 then R w.2.2 else R x) id
def NU{ws:List Tie}{w:Tie}:grp (ws++[w])=λx=>if grp ws x=grp ws w.2.1 then grp ws w.2.2 else grp ws x:=by unfold grp;rw[eK];rfl
structure Frst(κ:Int->Int)(ws:List Tie):Prop where
 nd:(ws.map λw=>w.2.1).Nodup
 le:∀w∈ws,κ w.2.2<κ w.2.1
structure GrpOk(κ:Int->Int)(ws:List Tie):Prop where
 le:∀x,κ (grp ws x)<=κ x
 own:∀x,x∉ws.map (λw=>w.2.1)->grp ws x=x
 eq:∀w∈ws,grp ws w.2.1=grp ws w.2.2
variable {κ:Int->Int}
def Frst.step{ws:List Tie}{w:Tie}(f:Frst κ ws)(h:ws[i]?=eL w)(g:GrpOk κ<|ws.take i):grp (ws.take i) w.2.1=w.2.1/\grp (ws.take i) w.2.2≠w.2.1/\κ w.2.2<κ w.2.1:=by have n:w.2.1∉(ws.take i).map λw=>w.2.1:=ZV f.nd h;have l:=f.le w<|é h;refine⟨g.own _ n,λe=>?_,l⟩;have:=g.le w.2.2;rw[e]at this;lia
def Frst.ok{ws:List Tie}(f:Frst κ ws):∀i,i<=ws.length->GrpOk κ (ws.take i)
 |0,_=>⟨λx=>Š _,λx _=>rfl,(λw hw=>gA hw Ù)⟩
 |i+1,hi=>by
  have g:=f.ok i (by lia);have h:=É (l:=ws) (i:=i) (by lia);generalize ws[i]'(by lia)=w at h;let⟨e1,e2,e3⟩:=f.step h g;rw[Zt h];refine⟨λx=>?_,λx hx=>?_,λv hv=>?_⟩
  .rw[NU,e1];dsimp only;split
   .rename_i z;have h1:=g.le w.2.2;have h2:=g.le x;rw[z]at h2;lia
   .exact g.le x
  .rw[Û,Õ,not_or]at hx;rw[NU,e1];dsimp only;rw[g.own x hx.1,gq<|by simpa using hx.2]
  .rw[NU,e1];dsimp only;rcases Õ.mp hv with hv|hv
   .rw[g.eq v hv]
   .rw[Ó.mp hv,e1,gp rfl,gq e2]
def Wh{C:Yc}:∀(m:Nat),(∀w∈Zr C m,0<=w.1/\w.1<m)/\(Zr C m).Pairwise λa b=>a.1<b.1
 |0=>⟨(λw hw=>gA hw Ù),List.Pairwise.nil⟩
 |m+1=>by
  let⟨h1,h2⟩:=Wh (C:=C) m;have h3:∀w∈opn C m,w.1=m:=λw hw=>by
   unfold opn at hw;split at hw
   .rw[Ó.mp hw]
   .split at hw
    .rw[Ó.mp hw]
    .cases hw
  have h4:(opn C m).Pairwise λa b=>a.1<b.1:=by
   unfold opn;split
   .exact bV _ _
   .split
    .exact bV _ _
    .exact List.Pairwise.nil
  rw[WX];refine⟨λw hw=>?_,ϝ.mpr ⟨h2,h4,λa ha b hb=>by have:=h1 a ha;have:=h3 b hb;lia⟩⟩;rcases Õ.mp hw with hw|hw
  .have:=h1 w hw;lia
  .have:=h3 w hw;lia
def K1{C:Yc}{w:Tie}:∀{m:Nat},w∈Zr C m->∃p:Nat,p<m/\((w=((p:Int),(C.tie p).1,(C.tie p).2.1)/\C.ends p=("child","parent"))\/(w=((p:Int),(C.tie p).2.1,(C.tie p).1)/\C.ends p=("parent","child")))
 |0,h=>by cases h
 |m+1,h=>by
  rw[WX]at h;rcases Õ.mp h with h|h
  .obtain⟨p,h1,h2⟩:=K1 h;exact⟨p,by lia,h2⟩
  .refine⟨m,by lia,?_⟩;unfold opn at h;split at h
   .rename_i e;exact .inl ⟨Ó.mp h,e⟩
   .split at h
    .rename_i e;exact .inr ⟨Ó.mp h,e⟩
    .cases h
structure WayOk(C:Yc)(w:Tie):Prop where
 r0:0<=w.1
 r1:w.1<C.ts.length
 ends:(w.2.1=(C.tie w.1).1/\w.2.2=(C.tie w.1).2.1)\/(w.2.1=(C.tie w.1).2.1/\w.2.2=(C.tie w.1).1)
 sc:(C.br.lookup w.2.1).isSome=eN
 sp:(C.br.lookup w.2.2).isSome=eN
 root:(C.at_ w.2.1).label.root=(C.at_ w.2.2).label.root
 cost:(C.at_ w.2.1).label.cost=(C.at_ w.2.2).label.cost+(C.tie w.1).2.2
 up:(C.at_ w.2.1).label.up.map (·.1)=eL w.1
def Safe.ways(sf:Safe H C)(gd:C.gd N){w:Tie}(h:w∈Zr C C.ts.length):WayOk C w:=by
 let⟨p,hp,h⟩:=K1 h;have lt:=(gd.no.tie _<|Nd (ts:=C.ts) (p:=p) (by lia)<|by lia).2.2.1
 replace lt:(C.tie p).1<(C.tie p).2.1:=lt
 rcases h with⟨rfl,e⟩|⟨rfl,e⟩
 .obtain⟨q1,q2,q3,q4,q5⟩:=sf.way gd.no (p:=p) (c:=(C.tie p).1) (q:=(C.tie p).2.1) ⟨by lia,by lia,.inl rfl⟩ (gp rfl).symm (congrArg Prod.fst e)<|congrArg Prod.snd e;exact⟨by dsimp only;lia,by dsimp only;lia,.inl ⟨rfl,rfl⟩,q1,q2,q3,q4,q5⟩
 .obtain⟨q1,q2,q3,q4,q5⟩:=sf.way gd.no (p:=p) (c:=(C.tie p).2.1) (q:=(C.tie p).1) ⟨by lia,by lia,.inr rfl⟩ (gq<|by show ¬ (C.tie p).1=(C.tie p).2.1;lia).symm (congrArg Prod.snd e)<|congrArg Prod.fst e;exact⟨by dsimp only;lia,by dsimp only;lia,.inr ⟨rfl,rfl⟩,q1,q2,q3,q4,q5⟩
def Safe.frst(sf:Safe H C)(gd:C.gd N):Frst (λb=>(C.at_ b).label.cost)<|Zr C C.ts.length:=by
 refine⟨?_,λw hw=>?_⟩
 .refine Č.mpr ?_;refine(Wh C.ts.length).2.imp_of_mem λ{a b} ha hb lt e=>?_;have h1:=(sf.ways gd ha).up;have h2:=(sf.ways gd hb).up;rw[e,h2]at h1;have:=è h1;lia
 .have o:=sf.ways gd hw;have:=(gd.no.tie _<|Nd o.r0 o.r1).2.2.2.1
  replace this:1<=(C.tie w.1).2.2:=this
  have:=o.cost;lia
noncomputable abbrev Hv:=Int×Option Int
abbrev tch(b:Int)(w:Tie):Prop:=b=w.2.1\/b=w.2.2
instance (b:Int) (w:Tie):Decidable<|tch b w:=inferInstanceAs<|Decidable<|_\/_
abbrev Yz(b:Int)(w:Tie):Int:=if b=w.2.1 then w.2.2 else w.2.1
abbrev gw(ws:List Tie)(q:Hv):List Tie:=ws.filter λw=>!gB (eL w.1=q.2)&&gB (tch q.1 w)
abbrev gof(b:Int)(w:Tie):Hv:=(Yz b w,eL w.1)
abbrev Y6(ws:List Tie)(q:Hv):List Hv:=(gw ws q).map<|gof q.1
inductive Tr (ws:List Tie) (a:Int):List Hv->List Tie->Prop
 |one:Tr ws a [(a,eM)] []
 |add {H:List Hv}{U:List Tie}{b:Int}{w:Tie}:Tr ws a H U->w∈ws->w∉U->b∈H.map (·.1)->tch b w->Tr ws a (H++[gof b w]) (U++[w])
structure Wf(ws:List Tie):Prop where
 fr:∃κ,Frst κ ws
 pl:(ws.map (·.1)).Nodup
def ON{f:α->β}{l:List α}(n:(l.map f).Nodup){y:α}(hx:x∈l)(hy:y∈l)(e:f x=f y):x=y:=by let⟨i,hi,rfl⟩:=Ϭ hx;let⟨j,hj,rfl⟩:=Ϭ hy;have:=(Τ (i:=i) (j:=j) (h₀:=by simpa using hi) (h₁:=by simpa using hj) n).mp ⇑e;subst this;rfl
def QQ{f:α->β}{l:List α}(n:(l.map f).Nodup):l.Nodup:=(Č.mp n).imp λh e=>h (congrArg f e)
def LR{l:List (Int×α)}(n:(l.map (·.1)).Nodup){j:Nat}{p q:Int×α}(hi:l[i]?=eL p)(hj:l[j]?=eL q)(e:p.1=q.1):i=j:=by let⟨h1,rfl⟩:=Î.mp hi;let⟨h2,rfl⟩:=Î.mp hj;exact(Τ (h₀:=by simpa using h1) (h₁:=by simpa using h2) n).mp ⇑e
def F6{b:Int}{w:Tie}(h:tch b w):tch (Yz b w) w:=by unfold Yz;split;exact .inr rfl;exact .inl rfl
def Py{ws:List Tie}(f:Wf ws){b:Int}{w:Tie}(hw:w∈ws):Yz b w≠b:=by
 let⟨κ,f⟩:=f.fr;have:=f.le w hw;unfold Yz;split
 .rename_i e;intro z;rw[e]at z;rw[z]at this;lia
 .rename_i e;exact λz=>e z.symm
def W2{b x:Int}{w:Tie}(h:tch b w):tch x w↔x=b\/x=Yz b w:=by
 unfold tch Yz at *;by_cases e:b=w.2.1
 .rw[gp e,<-e]
 .rw[gq e,h.resolve_left e];exact or_comm
section
variable {ws:List Tie}{a:Int}{H:List Hv}{U:List Tie}
def Wf.pl_inj(f:Wf ws){v w:Tie}(hv:v∈ws)(hw:w∈ws)(e:v.1=w.1):v=w:=ON f.pl hv hw e
def Tr.sub(t:Tr ws a H U):U.Nodup/\∀w∈U,w∈ws:=by
 induction t with
 |one=>exact⟨đ,λw hw=>by cases hw⟩
 |add t hw hn hb ht ih =>
  refine⟨å.mpr ⟨ih.1,by simp,λx hx y hy e=>hn ?_⟩,λw h=>(Õ.mp h).elim (ih.2 w) λh=>?_⟩
  .rw[Ó.mp hy]at e;exact e▸hx
  .rw[Ó.mp h];exact hw
def Frst.part(f:Frst κ ws)(n:U.Nodup)(s:∀w∈U,w∈ws):Frst κ U:=by refine⟨?_,λw hw=>f.le w<|s w hw⟩;refine Č.mpr (n.imp_of_mem λ{x y} hx hy ne e=>ne<|ON f.nd (s x hx) (s y hy) e)
def Tr.ends(t:Tr ws a H U):(a∈H.map (·.1))/\∀w∈U,w.2.1∈H.map (·.1)/\w.2.2∈H.map (·.1):=by
 induction t with
 |one=>exact⟨by simp,λw hw=>by cases hw⟩
 |@add H U b w t hw hn hb ht ih =>rw[Û];refine⟨Ð _ ih.1,λv h=>(Õ.mp h).elim (λh=>⟨Ð _ (ih.2 v h).1,Ð _ (ih.2 v h).2⟩) λh=>?_⟩;rw[Ó.mp h];have key:∀x,tch x w->x∈H.map (·.1)++[gof b w].map (·.1):=λx hx=>((W2 ht).mp hx).elim (λe=>Ð _<|e▸hb) λe=>Ç _ (by rw[e];simp[gof]);exact⟨key _<|.inl rfl,key _<|.inr rfl⟩
def Tr.grp(f:Wf ws)(t:Tr ws a H U):(∀x∈H.map (·.1),grp U x=grp U a)/\(H.map (·.1)).Nodup/\∀x,x∉H.map (·.1)->grp U x=x:=by
 let⟨κ,fk⟩:=f.fr;induction t with
 |one=>exact⟨λx hx=>by rw[Ó.mp hx],by simp,λx _=>rfl⟩
 |@add H U b w t hw hn hb ht ih =>
  let⟨i1,i2,i3⟩:=ih;have t2:=Tr.add t hw hn hb ht;let⟨n2,s2⟩:=t2.sub;have f2:=fk.part n2 s2;have g1:=f2.ok U.length (by simp);have st:=f2.step (i:=U.length) (w:=w) (by simp) g1;have g2:=f2.ok (U++[w]).length<|Ì _;rw[List.take_left]at st;rw[Ă]at g2;have hy:Yz b w∉H.map (·.1):=λz=>by
   have e:=(i1 _ z).trans (i1 _ hb).symm;have:O.grp U w.2.1=O.grp U w.2.2:=by
    unfold Yz at e;split at e
    .rename_i q;rw[q]at e;exact e.symm
    .rename_i q;rw[ht.resolve_left q]at e;exact e
   rw[st.1]at this;exact st.2.1 this.symm
  have eb:O.grp (U++[w]) (Yz b w)=O.grp (U++[w]) b:=by
   have:=g2.eq w (by simp);unfold Yz;split
   .rename_i q;rw[q];exact this.symm
   .rename_i q;rw[ht.resolve_left q];exact this
  have Ϛ:∀x∈H.map (·.1),O.grp (U++[w]) x=O.grp (U++[w]) a:=λx hx=>by rw[NU];dsimp only;rw[i1 x hx]
  rw[Û];refine⟨λx hx=>?_,å.mpr ⟨i2,by simp,λx hx y h e=>hy ?_⟩,λx hx=>?_⟩
  .rcases Õ.mp hx with hx|hx
   .exact Ϛ x hx
   .rw[show x=Yz b w by simpa[gof]using hx,eb];exact Ϛ b hb
  .have h:y=Yz b w:=by simpa[gof]using h
   rw[<-h,<-e];exact hx
  .rw[Õ,not_or]at hx;have hc:w.2.1≠x:=λz=>by
    have t0:tch w.2.1 w:=.inl rfl;rcases (W2 ht).mp t0 with q|q
    .exact hx.1<|z▸q▸hb
    .exact hx.2 (by rw[<-z,q];simp[gof])
   rw[NU];dsimp only;rw[st.1,i3 x hx.1,gq λz=>hc z.symm]
def Tr.nd(f:Wf ws)(t:Tr ws a H U):(H.map (·.1)).Nodup:=(t.grp f).2.1
def Tr.came(t:Tr ws a H U):H.map (·.2)=eM::U.map λw=>eL w.1:=by
 induction t with
 |one=>rfl
 |add t hw hn hb ht ih=>rw[Û,ih,Û];rfl
def Tr.len(t:Tr ws a H U):H.length=U.length+1:=by have:=congrArg List.length t.came;simpa using this
abbrev Cl(ws:List Tie)(Z:Int->Prop):Prop:=∀w∈ws,Z w.2.1↔Z w.2.2
def Tr.cl{Z:Int->Prop}(c:Cl ws Z)(t:Tr ws a H U):∀x∈H.map (·.1),Z x↔Z a:=by
 induction t with
 |one=>exact λx hx=>by rw[Ó.mp hx]
 |@add H U b w t hw hn hb ht ih =>
  rw[Û];refine λx hx=>(Õ.mp hx).elim (ih x) λhx=>?_;rw[show x=Yz b w by simpa[gof]using hx,<-ih b hb];have:=c w hw;unfold Yz;split
  .rename_i q;rw[q];exact this.symm
  .rename_i q;rw[ht.resolve_left q];exact this
def Tr.evry{R:Int->Prop}(t:Tr ws a H U)(ha:R a)(hw:∀w∈ws,R w.2.1/\R w.2.2):∀x∈H.map (·.1),R x:=by
 induction t with
 |one=>exact λx hx=>by rw[Ó.mp hx];exact ha
 |@add H U b w t hm hn hb ht ih =>
  rw[Û];refine λx hx=>(Õ.mp hx).elim (ih x) λhx=>?_;rw[show x=Yz b w by simpa[gof]using hx];unfold Yz;split
  .exact(hw w hm).2
  .exact(hw w hm).1
def Tr.more{b:Int}:∀{l:List Tie}{H:List Hv}{U:List Tie},Tr ws a H U->b∈H.map (·.1)->(∀w∈l,w∈ws/\w∉U/\tch b w)->l.Nodup->Tr ws a (H++l.map (gof b)) (U++l)
 |[],H,U,t,_,_,_=>by rw[Ţ,ö,ö];exact t
 |w::l,H,U,t,hb,hl,n=>by
  have hw:=hl w (by simp);have:=Tr.more (l:=l) (Tr.add t hw.1 hw.2.1 hb hw.2.2) (by rw[Û];exact Ð _ hb) (λv hv=>?_) (þ.mp n).2
  .rwa [Ĕ,Ĕ]at this
  .have:=hl v (by simp[hv]);refine⟨this.1,λz=>(Õ.mp z).elim this.2.1 λz=>?_,this.2.2⟩;rw[Ó.mp z]at hv;exact(þ.mp n).1 hv
structure Pr(ws:List Tie)(a:Int)(H:List Hv)(U:List Tie)(m:Nat):Prop where
 tr:Tr ws a H U
 le:m<=H.length
 done:∀i,i<m->∀q,H[i]?=eL q->∀w∈ws,tch q.1 w->w∈U
 from_:∀w∈U,∃i q y,i<m/\H[i]?=eL q/\tch q.1 w/\(y,eL w.1)∈H/\tch y w/\y≠q.1
def Pr.zero:Pr ws a [(a,eM)] [] 0:=⟨.one,ĕ _,(λi hi=>gA hi<|aT i),(λw hw=>by cases hw)⟩
def Pr.step(f:Wf ws){m:Nat}{q:Hv}(p:Pr ws a H U m)(hq:H[m]?=eL q):Pr ws a (H++Y6 ws q) (U++gw ws q)<|m+1:=by
 have hm:=(Î.mp hq).1;have nd:=p.tr.nd f;have hqm:=é hq;have hb:q.1∈H.map (·.1):=ò hqm;have key:∀w∈gw ws q,w∈ws/\w∉U/\tch q.1 w:=λw hw=>by
  have h:=û.mp hw;simp only[bAq,Ņ,decide_eq_false_iff_not,gy]at h;refine⟨h.1,λz=>?_,h.2.2⟩;let⟨i,r,y,hi,hr,t1,hy,t2,ny⟩:=p.from_ w z;rcases (W2 t1).mp h.2.2 with e|e
  .have:=LR nd hq hr e;lia
  .have ey:=((W2 t1).mp t2).resolve_left ny;have:(y,eL w.1)=q:=ON nd hy hqm<|ey.trans e.symm;exact h.2.1 (by rw[<-this])
 have ng:(gw ws q).Nodup:=(QQ f.pl).sublist ĥ;have t2:=p.tr.more hb key ng;refine⟨t2,by rw[í];lia,λi hi r hr w hw ht=>?_,λw hw=>?_⟩
 .rcases cC i m with h|h
  .rw[ó<|by lia]at hr;exact Ð _<|p.done i h r hr w hw ht
  .obtain rfl:i=m:=by lia
   rw[ó hm,hq]at hr;cases hr;by_cases e:eL w.1=q.2
   .refine Ð _ ?_;have hc:q.2∈H.map (·.2):=ò hqm;rw[p.tr.came,<-e]at hc;rcases È.mp hc with h|h
    .cases h
    .obtain⟨v,hv,ev⟩:=Ò.mp h
     rwa [<-f.pl_inj (p.tr.sub.2 v hv) hw (è ev)]
   .exact Ç _ (û.mpr ⟨hw,by simp[e,ht]⟩)
 .rcases Õ.mp hw with hw|hw
  .obtain⟨i,r,y,hi,hr,t1,hy,t2⟩:=p.from_ w hw;exact⟨i,r,y,by lia,by rw[ó<|by lia];exact hr,t1,Ð _ hy,t2⟩
  .have h:=key w hw;exact⟨m,q,Yz q.1 w,by lia,by rw[ó hm];exact hq,h.2.2,Ç _<|ò hw,F6 h.2.2,Py f h.1⟩
structure Part(ws:List Tie)(a:Int)(H:List Hv)(U:List Tie):Prop where
 tr:Tr ws a H U
 cl:∀w∈ws,(w.2.1∈H.map (·.1)\/w.2.2∈H.map (·.1))->w∈U
def Pr.part(p:Pr ws a H U H.length):Part ws a H U:=by
 refine⟨p.tr,λw hw h=>?_⟩;have key:∀x∈H.map (·.1),tch x w->w∈U:=λx hx t=>by let⟨q,hq,rfl⟩:=Ò.mp hx;let⟨i,hi,e⟩:=Ϭ hq;exact p.done i hi q (by rw[É hi,e]) w hw t
 exact h.elim (λh=>key _ h<|.inl rfl) λh=>key _ h<|.inr rfl
def Part.sides(p:Part ws a H U){w:Tie}(hw:w∈ws):(w∈U↔w.2.1∈H.map (·.1))/\(w∈U↔w.2.2∈H.map (·.1)):=⟨⟨λh=>(p.tr.ends.2 w h).1,λh=>p.cl w hw<|.inl h⟩,⟨λh=>(p.tr.ends.2 w h).2,λh=>p.cl w hw<|.inr h⟩⟩
def Part.closed(p:Part ws a H U):Cl ws (·∈H.map (·.1)):=λw hw=>(p.sides hw).1.symm.trans (p.sides hw).2
def Part.same{b:Int}{G:List Hv}{V:List Tie}(p:Part ws a H U)(q:Part ws b G V){x:Int}(h1:x∈H.map (·.1))(h2:x∈G.map (·.1))(y:Int):y∈H.map (·.1)↔y∈G.map (·.1):=by have e1:=p.tr.cl q.closed;have e2:=q.tr.cl p.closed;exact⟨λh=>(e1 y h).mpr<|(e1 x h1).mp h2,λh=>(e2 y h).mpr<|(e2 x h2).mp h1⟩
end
abbrev hoV:Option Int->Val
 |none=>.non
 |some p=>.int p
abbrev hvV(q:Hv):Val:=.tup [.int q.1,hoV q.2]
abbrev Kf(ws:List Tie)(a:Int):Nat->List Hv
 |0=>[(a,eM)]
 |m+1=>Kf ws a m++(((Kf ws a m)[m]?).map<|Y6 ws).getD []
def Ga{ws:List Tie}{w:Tie}{q:Hv}:Y6 (ws++[w]) q=Y6 ws q++if(!gB (eL w.1=q.2)&&gB (tch q.1 w))=eN then [gof q.1 w]else []:=by unfold Y6 gw;rw[χ,Û,ē,ϔ];split<;>rfl
def KI{ws:List Tie}{q:Hv}:(Y6 ws q).length<=ws.length:=by unfold Y6 gw;rw[Á];exact Ļ _ _
def Lp{i:Int}{o:Option Int}:eqV h (.int i) (hoV o)=eL (gB (eL i=o)):=by
 cases o with
 |none=>rfl
 |some p =>show eL (D.eqv (.int i)<|.int p)=_;rw[Ni];exact congrArg eL<|decide_eq_decide.mpr ⟨congrArg eL,è⟩
def Cy{xs ys:List Val}{K:Val×Hs->Prop}(e1:h a=eL (.lst xs))(e2:h b=eL (.lst ys))(m:xs.length+ys.length<=lim)(q:K (.non,upd h a<|.lst<|xs++ys)):go (bmV h .extend (.ref a) [.ref b]) K:=eV (by show(fe<|h a).bind _=_;rw[lsE e1];show(fe<|h b).bind _=_;rw[lsE e2];exact gp m) q
def Safe.wf(sf:Safe H C)(gd:C.gd N):Wf<|Zr C C.ts.length:=⟨⟨_,sf.frst gd⟩,Č.mpr<|(Wh C.ts.length).2.imp λz=>by lia⟩
variable {I:Hst} {U:List Tie}
def Tr.ten{b:Int}{H:List Hv}(sf:Safe I C)(gd:C.gd N)(hb:(C.br.lookup b).isSome=eN)(t:Tr (Zr C C.ts.length) b H U):(∀x∈H.map (·.1),(C.br.lookup x).isSome=eN)/\H.length<=10:=by
 have h1:=t.evry (R:=λx=>(C.br.lookup x).isSome=eN) hb λw hw=>⟨(sf.ways gd hw).sc,(sf.ways gd hw).sp⟩
 refine⟨h1,?_⟩;have:=Ms (t.nd<|sf.wf gd) λx hx=>keys_look.mp<|h1 x hx;rw[Á]at this;exact Ý this gd.ten
section
variable {Y:Yd}{N:Nat}{C:Yc}
def AA{pw:Ad}{ws:List Tie}{q:Hv}(hl:ws.length<=16)(ew:h pw=eL (.lst<|ws.map trV))(k:∀p g,h p=eM->Ext h g->g p=eL (.lst<|(Y6 ws q).map hvV)->Q (.ref p) g):wF P (n+1) "sent_on" [.ref pw,hvV q] h Q X:=by
 let⟨b,c⟩:=q;unfold hvV at k ⊢;refine A8 ?_;refine' Ze λp g1 hp x1 e1=>?_;refine' Zk (λi en g=>Sm3 λv5 v6 v7=>Cj3 (en=[eL<|.ref pw,eL<|.tup [.int b,hoV c],eL<|.int b,eL<|hoV c,eL<|.ref p,v5,v6,v7]) (Ext h g)<|g p=eL (.lst<|(Y6 (ws.take i) (b,c)).map hvV)) ⟨_,_,_,rfl,x1,e1⟩ (λ_ _ _ _ ⟨_,_,_,_,x,_⟩=>lsE<|x.get ew) ?_ ?_
 .rintro i v en g hv ⟨v5,v6,v7,rfl,x,ep⟩ K hK;let⟨t,ht,rfl⟩:=ZX hv;have gl:=KI (ws:=ws.take i) (q:=(b,c));rw[Ē]at gl;rw[Zt ht,Ga]at hK;let⟨p',c',q'⟩:=t;unfold trV
  exists XB Lp
  refine' Kk (λc1=>?_) (λc1=>?_)
  .exists M1 (ns:=[c',q'])
   refine' fS (λc2=>?_) (λc2=>?_)
   .have c2:tch b (p',c',q'):=by simpa[tch]using c2
    rw[show(!gB (eL (p',c',q').1=(b,c).2)&&gB (tch (b,c).1 (p',c',q')))=eN by simp[c1,c2],gp rfl]at hK;refine' fS (λc3=>?_) (λc3=>?_)<;>fail<;>refine ZM ep (by rw[Á,lim];lia) ?_<;>fail<;>refine hK _ _ ⟨_,_,_,rfl,Yk x hp,?_⟩<;>rw[Û]<;>refine eR.trans ?_
    .simp only[Ñ,Ţ,gof,Yz,hvV,hoV];rw[gp c3]
    .simp only[Ñ,Ţ,gof,Yz,hvV,hoV];rw[gq c3]
   .have c2:¬ tch b (p',c',q'):=by simpa[tch]using c2
    rw[gq (by simp[c2]),ö]at hK;refine' hK _ _ ⟨_,_,_,rfl,x,ep⟩
  .rw[gq (by simp[c1]),ö]at hK;walk_at "p";exact hK _ _ ⟨_,_,_,rfl,x,ep⟩
 .rintro en g ⟨v5,v6,v7,rfl,x,ep⟩;rw[Á,Ă]at ep;refine' k p g hp x ep
variable {b:Int}
def N4(x:fc h Y)(hs:(Y.cc.br.lookup b).isSome=eN)(k:Q (.bl eN) h):wF P (n+2) "is_standing" [.ref Y.y,.int b] h Q X:=by
 have xi:=x.ins;have xs:=x.stand;refine Kh ?_
 exists JM
 walk_at "p";refine Kg ?_
 exists BO xs rfl
 let⟨e,he,en,lk,ea,ba⟩:=x.at_ hs;rw[Z5,lk];refine' k
def Jg(x:fc h Y)(gd:Y.cc.gd N)(sf:Safe I Y.cc)(hs:(Y.cc.br.lookup b).isSome=eN)(k:∀p g H U,h p=eM->Ext h g->g p=eL (.lst<|H.map hvV)->Part (Zr Y.cc Y.ts.length) b H U->Kf (Zr Y.cc Y.ts.length) b H.length=H->(∀i,i<H.length->i<(Kf (Zr Y.cc Y.ts.length) b i).length)->Q (.ref p) g):wF P (n+7) "carried" [.ref Y.y,.int b] h Q X:=by
 have ol:=Ý (Xm (C:=Y.cc) Y.ts.length) gd.no.sixteen;have wf:Wf<|Zr Y.cc Y.ts.length:=sf.wf gd;have ten:=λ{H U}(t:Tr (Zr Y.cc Y.ts.length) b H U)=>(t.ten (C:=Y.cc) sf gd hs).2;refine At ?_
 exists N4 x hs
 walk_at "p";refine UI x gd λp1 g1 cY x1 e1=>?_;generalize Zr Y.cc Y.ts.length=ws at ol wf ten k e1;refine' Ze λp g2 hp x2 e2=>?_;have hph:=W8 x1 hp;have n1:p1≠p:=Za e1 hp;refine' AJ (λm en g=>Sm3 λH U s=>Cj8 (en=[eL<|.ref Y.y,eL<|.int b,eL<|.ref p1,eL<|.ref p,eL<|.int (s:Nat)]) (m+s=10) (Ext h g) (g p1=eL (.lst<|ws.map trV)) (g p=eL (.lst<|H.map hvV)) (Pr ws b H U s) (Kf ws b s=H)<|∀i,i<s->i<(Kf ws b i).length) (m:=10) ⟨[(b,eM)],[],0,rfl,rfl,x1.trans x2,x2.get e1,e2,.zero,rfl,(λi hi=>gA hi<|aT i)⟩ λm en g ⟨H,U,s,een,em,xg,ew,ep,pr,ewk,gos⟩ K hK=>?_;subst een;have l10:=ten pr.tr;fail;rw[Á];refine fS (λc1=>?_) λc1=>?_
 .have hs:s<H.length:=by lia
  have hq:=É hs;generalize H[s]=q at hq;refine' Z4 ep (YO (by lia) (x:=hvV q)<|by rw[Ø,â,hq];rfl) ?_;refine' AA ol ew λp3 g3 hp3 x3 e3=>?_;have gl:=KI (ws:=ws) (q:=q);have ep3:=x3.get ep;refine' Cy ep3 e3 (by rw[Á,Á,lim];lia) ?_;fail;rw[<-Û];have pr2:=pr.step wf hq;have l2:=ten pr2.tr;have l3:=pr2.le;refine hK (m - 1) _ _ (by lia) ⟨H++Y6 ws q,_,s+1,rfl,by lia,Yk (xg.trans x3) hph,(eQ n1).trans<|x3.get ew,eR,pr2,?_,λi hi=>?_⟩
  .show Kf ws b s++(((Kf ws b s)[s]?).map<|Y6 ws).getD []=_;rw[ewk,hq];rfl
  .rcases cC i s with z|z
   .exact gos i z
   .obtain rfl:i=s:=by lia
    rw[ewk];exact hs
 .obtain rfl:s=H.length:=by have:=pr.le;lia
  refine' k p g H U hph xg ep pr.part ewk gos
def Aw(x:fc h Y)(gd:Y.cc.gd N)(sf:Safe I Y.cc)(hs:(Y.cc.br.lookup b).isSome=eN)(k:∀p g H U,h p=eM->Ext h g->g p=eL (.lst ((sortI (H.map (·.1))).map .int))->Part (Zr Y.cc Y.ts.length) b H U->Kf (Zr Y.cc Y.ts.length) b H.length=H->(∀i,i<H.length->i<(Kf (Zr Y.cc Y.ts.length) b i).length)->Q (.ref p) g):wF P (n+8) "part_of" [.ref Y.y,.int b] h Q X:=by
 refine Bu ?_;refine' Jg x gd sf hs λp g H U hp x1 e1 pt e2 e3=>?_;have l10:=(pt.tr.ten (C:=Y.cc) sf gd hs).2;refine' ⟨Ö (by rw[Á];exact l10) (by decide),OH (l:=H) (λq=>.int q.1) (lsE e1) (λq hq K k1=>?_)<|Ze λp2 g2 hp2 x2 ep2=>?_⟩
 .unfold hvV;walk_at "p";exact k1
 rw[show H.map (λq=>Val.int q.1)=(H.map (·.1)).map Val.int by rw[ê];rfl]at ep2;refine' Js ep2 (Zz _) (by rw[Á];lia) (Ze λp3 g3 hp3 x3 e=>?_);exact k p3 g3 H U (W8 (x1.trans x2) hp3) ((x1.trans x2).trans x3) e pt e2 e3
end
def UP:∀{l:List Int},l.Nodup->dedup l=l
 |[],_=>rfl
 |x::l,h=>by let⟨h1,h2⟩:=þ.mp h;rw[dedup,UP h2,ϩ.mpr];intro y hy;simp only[bne_iff_ne,ne_eq];rintro rfl;exact h1 hy
def DP{l:List Int}(nl:l.Nodup)(hm:m.Pairwise (· < ·))(e:∀x,x∈l↔x∈m):sortI l=m:=by have s1:=X3 nl;have p:(sortI l).Perm m:=(ς (s1.imp λz=>by lia)<|hm.imp λz=>by lia).mpr λb=>mem_sort.trans<|e b;exact p.eq_of_pairwise (λa b _ _ z1 z2=>by lia) s1 hm
def DD{l:List Int}(nl:l.Nodup)(nm:m.Nodup)(e:∀x,x∈l↔x∈m):sortI l=sortI m:=DP nl (X3 nm) λx=>(e x).trans mem_sort.symm
def MA(l:List Int):(sortI l).length=l.length:=(Ŧ _ _).length_eq
def RK{kvs:List (Val×Val)}{K:List (Val×Val)->Prop}(e:h a=eL (.frz kvs))(q:K kvs):go (Q7<|h a) K:=eV (by rw[e];rfl) q
def PL(xs:List Val):cut xs (eL 1) eM=xs.drop 1:=by
 cases xs with
 |nil=>rfl
 |cons x xs =>show((x::xs).drop<|min 1<|xs.length+1).take (xs.length+1 - min 1 (xs.length+1))=xs;rw[ϕ (by lia),List.drop_one,List.tail_cons,Nat.add_sub_cancel,Ă]
structure PtAt(ws:List Tie)(g:Hs)(b:Int)(H:List Hv)(U:List Tie)(a1 a2:Ad):Prop where
 pt:Part ws b H U
 e1:g a1=eL (.lst ((sortI (H.map (·.1))).map .int))
 e2:g a2=eL (.lst ((sortI (U.map (·.1))).map .int))
 le:H.length<=10
def PtAt.ext{ws:List Tie}{f:Hs}{b:Int}{H:List Hv}{a1 a2:Ad}(p:PtAt ws g b H U a1 a2)(x:Ext g f):PtAt ws f b H U a1 a2:=⟨p.pt,x.get p.e1,x.get p.e2,p.le⟩
abbrev PtV(ws:List Tie)(g:Hs)(q:Int×Val):Prop:=∃H U a1 a2,q.2=.tup [.ref a1,.ref a2]/\PtAt ws g q.1 H U a1 a2
def PtV.ext{ws:List Tie}{f:Hs}{q:Int×Val}(p:PtV ws g q)(x:Ext g f):PtV ws f q:=by let⟨H,U,a1,a2,e,p⟩:=p;exact⟨H,U,a1,a2,e,p.ext x⟩
section
variable {ws:List Tie}{a b:Int}{H G:List Hv}{U V:List Tie}
def Part.und(p:Part ws a H U)(f:Wf ws):(U.map (·.1)).Nodup:=Č.mpr (p.tr.sub.1.imp_of_mem λ{x y} hx hy n e=>n<|f.pl_inj (p.tr.sub.2 x hx) (p.tr.sub.2 y hy) e)
def Part.ways(p:Part ws a H U)(f:Wf ws)(up:(ws.map (·.1)).Pairwise (· < ·))(s:Tie->Int)(hs:(∀w,s w=w.2.1)\/∀w,s w=w.2.2):sortI (U.map (·.1))=(ws.filter λw=>gB (s w∈sortI (H.map (·.1)))).map (·.1):=by
 refine DP (p.und f) (Č.mpr<|(Č.mp up).sublist ĥ) λx=>?_;have key:∀w∈ws,(w∈U↔s w∈H.map (·.1)):=λw hw=>by
  have:=p.sides hw;rcases hs with e|e<;>rw[e]
  .exact this.1
  .exact this.2
 refine⟨λh=>?_,λh=>?_⟩
 .obtain⟨w,hw,rfl⟩:=Ò.mp h;have m:=p.tr.sub.2 w hw;exact Ò.mpr ⟨w,û.mpr ⟨m,gx<|mem_sort.mpr<|(key w m).mp hw⟩,rfl⟩
 .obtain⟨w,hw,rfl⟩:=Ò.mp h;let⟨m,d⟩:=û.mp hw;exact Ò.mpr ⟨w,(key w m).mpr<|mem_sort.mp<|of_decide_eq_true d,rfl⟩
def Part.alike(p:Part ws a H U)(q:Part ws b G V)(f:Wf ws)(up:(ws.map (·.1)).Pairwise (· < ·)){x:Int}(h1:x∈H.map (·.1))(h2:x∈G.map (·.1)):sortI (H.map (·.1))=sortI (G.map (·.1))/\sortI (U.map (·.1))=sortI (V.map (·.1)):=by have e:=DD (p.tr.nd f) (q.tr.nd f)<|p.same q h1 h2;refine⟨e,?_⟩;rw[p.ways f up (λw=>w.2.1)<|.inl λ_=>rfl,q.ways f up (λw=>w.2.1)<|.inl λ_=>rfl,e]
end
def Oq(e:h a=eL (.lst<|ns.map .int)):dat h 11 (.ref a)=eL (.lst<|ns.map .int):=by show(fe<|h a).bind (λxs=>(xs.mapM<|dat h 10).map D.lst)=_;rw[e,Yr,ý,Jz];rfl
def GD{c:Ad}{xs ys:List Int}(ea:h a=eL (.lst<|xs.map .int))(eb:h b=eL (.lst<|ys.map .int))(ec:h c=eL (.lst<|xs.map .int))(ed:h d=eL (.lst<|ys.map .int)):eqV h (.tup [.ref a,.ref b]) (.tup [.ref c,.ref d])=eL eN:=by
 have k:∀{a b:Ad},h a=eL (.lst<|xs.map .int)->h b=eL (.lst<|ys.map .int)->dat h deep (.tup [.ref a,.ref b])=eL (.tup [.lst<|xs.map .int,.lst<|ys.map .int]):=λ{a b} e1 e2=>by show([Val.ref a,.ref b].mapM<|dat h 11).map D.tup=_;rw[ş,ş,List.mapM_nil,Oq e1,Oq e2];rfl
 unfold eqV;rw[k ea eb,k ec ed];show eL (D.eqv _ _)=_;rw[D.eqv_refl]
def Hr{a b:Bool}:eqV h (.bl a) (.bl b)=eL (a==b):=by show eL (D.eqv (.bl a)<|.bl b)=_;rw[D.eqv]
section
variable {Y:Yd}{N:Nat}{C:Yc}
def NO(x:fc h Y)(gd:Y.cc.gd N)(sf:Safe I Y.cc)(k:∀g,Ext h g->Q (.bl eN) g):wF P (n+9) "_law_right" [.ref Y.y,ZI Y.bs Y.ts] h Q X:=by
 have ol:=Ý (Xm (C:=Y.cc) Y.ts.length) gd.no.sixteen;have wf:Wf<|Zr Y.cc Y.ts.length:=sf.wf gd;have up:((Zr Y.cc Y.ts.length).map (·.1)).Pairwise (· < ·):=Č.mpr (Wh (C:=Y.cc) Y.ts.length).2;have ten:=λ{b H U} (hs) (t:Tr (Zr Y.cc Y.ts.length) b H U)=>(t.ten (C:=Y.cc) sf gd hs).2;have b10:Y.bs.length<=10:=gd.no.ten;have ndb:Y.bs.Nodup:=gd.no.up.imp λz=>by lia
 refine N6 ?_;fail;intro pd hpd;have npd:∀{a:Ad}{o:Ob},h a=eL o->a≠pd:=λe=>Za e hpd;have x1:Ext h<|upd h pd<|.dct []:=Ext.new hpd
 exists eW (xs:=[.tup<|Y.bs.map .int,.tup<|Y.ts.map trV]) (v:=.tup<|Y.bs.map .int) rfl
 refine' Zk (λi en g=>Sm4 λv3 v4 v5 kvs=>Cj5 (en=[eL<|.ref Y.y,eL<|ZI Y.bs Y.ts,eL<|.ref pd,v3,v4,v5,eM,eM,eM,eM]) (Ext h g) (g pd=eL (.dct<|Zg id kvs)) (kvs.map (·.1)=(Y.bs.take i).filter (λb=>(Y.cc.br.lookup b).isSome))<|∀q∈kvs,PtV (Zr Y.cc Y.ts.length) g q) ⟨_,_,_,[],rfl,x1,eR,rfl,(λq hq=>by cases hq)⟩ (λ_ _ _ _ _=>trivial) ?_ ?_
 .rintro i v en g hv ⟨v3,v4,v5,kvs,rfl,xg,ed,ek,hp⟩ K hK;let⟨b,hb,rfl⟩:=ZX hv;have hm:=é hb;have yg:=x.ext xg;have yi:=yg.ins;rw[Zt hb,χ,ē,ϔ]at hK;have e:(!gB (b∈Y.cc.downs))=(Y.cc.br.lookup b).isSome:=by
   cases z:(Y.cc.br.lookup b).isSome with
   |false=>rw[gx<|downs_mem.mpr ⟨hm,z⟩];rfl
   |true=>rw[gu λy=>by have:=(downs_mem.mp y).2;rw[z]at this;cases this];rfl
  refine' JB yg gd λg2 x2=>?_;have y2:=yg.ext x2;have ed2:=x2.get ed
  exists Ow (ns:=Y.cc.downs)
  rw[e];refine' fT (λhs=>?_) (λhs=>?_)
  .refine' Jg y2 gd sf hs λp3 g3 H U hp3 x3 e3 pt _ _=>?_;have l10:=ten hs pt.tr;have nd:=pt.tr.nd wf;refine' ⟨Ö (by rw[Á];exact l10) (by decide),OH (l:=H) (λq=>.int q.1) (lsE e3) (λq hq K k1=>?_)<|Ze λp4 g4 hp4 x4 e4=>?_⟩
   .unfold hvV;walk_at "p";exact k1
   rw[show H.map (λq=>Val.int q.1)=(H.map (·.1)).map Val.int by rw[ê];rfl]at e4;have l10':(H.map (·.1)).length<=10:=by rw[Á];exact l10
   refine' lset e4 (by lia) ?_;rw[UP nd];refine' Kk (λz=>gA (by simp) z) (λ_=>?_);refine' Js e4 (Zz _) (by lia) (Ze λp5 g5 hp5 x5 e5=>?_);refine' Aw (((y2.ext x3).ext x4).ext x5) gd sf hs λp6 g6 H' U' hp6 x6 e6 pt' _ _=>?_;rw[DD (pt'.tr.nd wf) nd λy=>pt'.same pt pt'.tr.ends.1 pt.tr.ends.1 y]at e6
   exists XB (O4 (x6.get e5) e6<|all_map λ_ _=>JU)
   walk_at "p";refine Ci ((x5.trans x6).get e4) ?_;rw[gx pt.tr.ends.1];walk_at "p";refine Js ((x5.trans x6).get e4) (Zz _) (by lia)<|Ze λp7 g7 hp7 x7 e7=>?_;have e3':=(((x4.trans x5).trans x6).trans x7).get e3;fail;rw[PL,<-Ϯ];refine Ze λp8 g8 hp8 x8 e8=>?_;refine' ⟨Ö (by rw[Á,ſ];lia:_<=10) (by decide),OH (l:=H.drop 1) (λq=>hoV q.2) (lsE e8) (λq hq K k1=>?_)<|Ze λp9 g9 hp9 x9 e9=>?_⟩
   .unfold hvV;walk_at "p";exact k1
   rw[show(H.drop 1).map (λq=>hoV q.2)=(U.map (·.1)).map Val.int by
     rw[show(λq:Hv=>hoV q.2)=hoV ∘ (·.2) from rfl,<-ê,Ϯ,pt.tr.came,List.drop_one,List.tail_cons,ê,ê];rfl]at e9
   have lu:=pt.tr.len;refine' Js e9 (Zz _) (by rw[Á];lia) (Ze λp10 g10 hp10 x10 e10=>?_);have xx:Ext g2 g10:=((((((x3.trans x4).trans x5).trans x6).trans x7).trans x8).trans x9).trans x10;have bn:b∉kvs.map (·.1):=by rw[ek];intro z;have:=(û.mp z).1;exact ZV (f:=id) (by rw[ů];exact ndb) hb (by rw[ů];exact this)
   have kl:kvs.length<=10:=by have h1:=congrArg List.length ek;have h2:=Ļ (λb=>(Y.cc.br.lookup b).isSome)<|Y.bs.take i;rw[Á]at h1;rw[Ē]at h2;lia
   refine' Yo (xx.get ed2) ⟨rfl,by rw[Jl];exact Ö kl<|by decide⟩ ?_;rw[show fv (Zg id kvs) (.int b) (.tup [.ref p7,.ref p10])=Zg id (kvs++[(b,.tup [.ref p7,.ref p10])]) from (ZZ (val:=id) kvs b _).trans<|by rw[Xv _ bn]];rw[hs,gp rfl]at hK;have xn:Ext h<|upd g10 pd<|.dct<|Zg id<|kvs++[(b,Val.tup [.ref p7,.ref p10])]:=Yk ((xg.trans x2).trans xx) hpd;have keep:∀{a:Ad}{o:Ob},a≠pd->g10 a=eL o->upd g10 pd (.dct<|Zg id<|kvs++[(b,Val.tup [.ref p7,.ref p10])]) a=eL o:=λz e=>(eQ z).trans e;have n7:p7≠pd:=(Za (((x3.trans x4).trans x5).trans x6 |>.get ed2) hp7).symm;have n10:p10≠pd:=(Za ((((((x3.trans x4).trans x5).trans x6).trans x7).trans x8).trans x9 |>.get ed2) hp10).symm;refine' hK _ _ ⟨_,_,_,_,rfl,xn,eR,by rw[Û,ek];rfl,λq hq=>?_⟩;rcases Õ.mp hq with hq|hq
   .obtain⟨H1,U1,a1,a2,ev,pa⟩:=(hp q hq).ext<|x2.trans xx;refine⟨H1,U1,a1,a2,ev,pa.pt,keep ?_ pa.e1,keep ?_ pa.e2,pa.le⟩
    .rintro rfl;have:=(x2.trans xx).get ed;rw[pa.e1]at this;cases this
    .rintro rfl;have:=(x2.trans xx).get ed;rw[pa.e2]at this;cases this
   .rw[Ó.mp hq];exact⟨H,U,p7,p10,rfl,pt,keep n7<|((x8.trans x9).trans x10).get e7,keep n10 e10,l10⟩
  .rw[hs,gq (by decide),ö]at hK;exact hK _ _ ⟨_,_,_,kvs,rfl,xg.trans x2,ed2,ek,λq hq=>(hp q hq).ext x2⟩
 rintro en g ⟨v3,v4,v5,kvs,rfl,xg,ed,ek,hp⟩;have yg:=x.ext xg;have ndk:(kvs.map (·.1)).Nodup:=by rw[ek,Á,Ă];exact ndb.sublist ĥ
 refine' UI yg gd λp6 g6 hp6 x6 e6=>?_;have n6:p6≠pd:=(Za ed hp6).symm
 replace hp:∀q∈kvs,PtV (Zr Y.cc Y.ts.length) g6 q:=λq hq=>(hp q hq).ext x6
 have ed6:=x6.get ed;have xg6:=xg.trans x6;clear ed x6 hp6 yg xg;fail;have ekk:(Zg id kvs).map (itemOf eN)=(kvs.map (·.1)).map Val.int:=by unfold Zg;rw[ê,ê];rfl
 rw[ekk];have ef:upd g6 pd (.frz<|Zg id kvs) pd=eL (.frz<|Zg id kvs):=eR;have xf:Ext h<|upd g6 pd<|.frz<|Zg id kvs:=Yk xg6 hpd;have e6f:upd g6 pd (.frz<|Zg id kvs) p6=eL (.lst<|(Zr Y.cc Y.ts.length).map trV):=(eQ n6).trans e6
 replace hp:∀q∈kvs,PtV (Zr Y.cc Y.ts.length) (upd g6 pd<|.frz<|Zg id kvs) q:=λq hq=>by
  let⟨H1,U1,a1,a2,ev,pa⟩:=hp q hq;refine⟨H1,U1,a1,a2,ev,pa.pt,(eQ ?_).trans pa.e1,(eQ ?_).trans pa.e2,pa.le⟩
  .rintro rfl;rw[pa.e1]at ed6;cases ed6
  .rintro rfl;rw[pa.e2]at ed6;cases ed6
 generalize upd g6 pd (.frz<|Zg id kvs)=gf at ef xf e6f hp;clear e6 ed6 xg6 n6;generalize Zr Y.cc Y.ts.length=ws at ol wf up ten e6f hp;have look:∀{g:Hs}{b:Int},Ext gf g->b∈kvs.map (·.1)->∃H U a1 a2,fq (Zg id kvs) (.int b)=eL (.tup [.ref a1,.ref a2])/\PtAt ws g b H U a1 a2:=λ{g b} xx hb=>by let⟨q,hq,rfl⟩:=Ò.mp hb;let⟨H1,U1,a1,a2,ev,pa⟩:=(hp q hq).ext xx;exact⟨H1,U1,a1,a2,by rw[Z5,Yj ndk (v:=q.2) hq,<-ev];rfl,pa⟩
 refine Zk (λi en g=>Sm5 λv3 v5 v7 v8 v9=>Cj2 (en=[eL<|.ref Y.y,eL<|ZI Y.bs Y.ts,eL<|.ref pd,v3,v4,v5,eL<|.ref p6,v7,v8,v9])<|Ext gf g) ⟨_,_,_,_,_,rfl,Ext.refl⟩ (λ_ _ _ _ ⟨_,_,_,_,_,_,xx⟩=>xx.get ef) ?_ ?_
 .rintro i v en g hv ⟨v3,v5,v7,v8,v9,rfl,xx⟩ K hK;let⟨b,hb,rfl⟩:=ZX hv;have hb:=é hb;let⟨H,U,a1,a2,el,pa⟩:=look xx hb;have pt:=pa.pt
  exists MM (xx.get ef) rfl el
  fail;refine⟨Ö (by rw[Á];exact ol) (by decide),?_⟩;refine JS (l:=ws) (λw=>gB (w.2.1∈sortI (H.map (·.1)))) (λw=>.int w.1) (lsE<|xx.get e6f) (λw hw K k1 k2=>?_)<|Ze λp7 g7 hp7 x7 e7=>?_
  .unfold trV
   exists Nl pa.e1
   refine' fT (λhc=>?_) (λhc=>?_)
   .refine' k1 hc
   .exact k2 hc
  rw[show(ws.filter λw=>gB (w.2.1∈sortI (H.map (·.1)))).map (λw=>Val.int w.1)=((ws.filter λw=>gB (w.2.1∈sortI (H.map (·.1)))).map (·.1)).map Val.int by rw[ê];rfl,<-pt.ways wf up (λw=>w.2.1) (.inl λ_=>rfl)]at e7
  replace pa:=pa.ext x7
  exists XB (O4 pa.e2 e7<|all_map λ_ _=>JU)
  walk_at "p";refine⟨Ö (by rw[Á];exact ol) (by decide),?_⟩;refine JS (l:=ws) (λw=>gB (w.2.2∈sortI (H.map (·.1)))) (λw=>.int w.1) (lsE<|(xx.trans x7).get e6f) (λw hw K k1 k2=>?_)<|Ze λp8 g8 hp8 x8 e8=>?_
  .unfold trV
   exists Nl pa.e1
   refine' fT (λhc=>?_) (λhc=>?_)
   .refine' k1 hc
   .exact k2 hc
  rw[show(ws.filter λw=>gB (w.2.2∈sortI (H.map (·.1)))).map (λw=>Val.int w.1)=((ws.filter λw=>gB (w.2.2∈sortI (H.map (·.1)))).map (·.1)).map Val.int by rw[ê];rfl,<-pt.ways wf up (λw=>w.2.2) (.inr λ_=>rfl)]at e8
  replace pa:=pa.ext x8
  have pe1:=pa.e1;have pe2:=pa.e2
  exists XB (O4 pe2 e8<|all_map λ_ _=>JU)
  walk_at "p";have lu:=pt.tr.len;refine Kk (λz=>gA (by rw[Á,Á,MA,MA,Á,Á];lia) z) λ_=>?_;have xx8:=(xx.trans x7).trans x8
  exists RK (xx8.get ef)
  rw[ekk];refine Zk (λi en g=>Sm2 λv8 v9=>Cj2 (en=[eL<|.ref Y.y,eL<|ZI Y.bs Y.ts,eL<|.ref pd,eL<|.int b,v4,eL<|.ref a1,eL<|.ref p6,eL<|.ref a2,v8,v9])<|Ext g8 g) ⟨_,_,rfl,Ext.refl⟩ (λ_ _ _ _ ⟨_,_,_,xx⟩=>xx.get<|xx8.get ef) ?_ ?_
  .rintro j v en g hv ⟨v8,v9,rfl,xj⟩ K hK;let⟨c,hc,rfl⟩:=ZX hv;have hc:=é hc;have xxj:=xx8.trans xj;let⟨G,V,b1,b2,el2,pb⟩:=look xxj hc;have pa:=pa.ext xj;have sl:(sortI (H.map (·.1))).length<=10:=by rw[MA,Á];exact pa.le
   exists it_lst pa.e1
   refine⟨Ö (by rw[Á];exact sl) (by decide),?_⟩;dsimp only;refine JS (f:=Val.int) (λx=>gB (x∈sortI (G.map (·.1)))) Val.int (lsE pa.e1) (λx hx K k1 k2=>?_) ?_
   .exists MM (xxj.get ef) rfl el2
    exists Nl pb.e1
    refine' fT (λhc=>?_) (λhc=>?_)
    .refine' k1 hc
    .exact k2 hc
   refine Ze λp9 g9 hp9 x9 e9=>?_;have hcG:c∈sortI (G.map (·.1)):=mem_sort.mpr pb.pt.tr.ends.1;have al:∀{x:Int},x∈sortI (H.map (·.1))->x∈sortI (G.map (·.1))->sortI (H.map (·.1))=sortI (G.map (·.1))/\sortI (U.map (·.1))=sortI (V.map (·.1)):=λh1 h2=>pa.pt.alike pb.pt wf up (mem_sort.mp h1)<|mem_sort.mp h2;have bo:∀{x:Int},x∈(sortI (H.map (·.1))).filter (λx=>gB (x∈sortI (G.map (·.1))))->sortI (H.map (·.1))=sortI (G.map (·.1))/\sortI (U.map (·.1))=sortI (V.map (·.1)):=λhx=>by let⟨h1,h2⟩:=û.mp hx;exact al h1<|of_decide_eq_true h2
   have hno:(sortI (H.map (·.1))).filter (λx=>gB (x∈sortI (G.map (·.1))))=[]->c∉sortI (H.map (·.1)):=λz h=>by have:c∈(sortI (H.map (·.1))).filter (λx=>gB (x∈sortI (G.map (·.1)))):=û.mpr ⟨h,gx hcG⟩;rw[z]at this;cases this
   generalize (sortI (H.map (·.1))).filter (λx=>gB (x∈sortI (G.map (·.1))))=both at e9 bo hno;have pa:=pa.ext x9;have pb:=pb.ext x9;have pae:=pa.e1;have xxj:=xxj.trans x9;refine' Ze λp10 g10 hp10 x10 e10=>?_;refine c_neE (x10.get e9) e10 ?_;cases both with
   |nil =>walk_at "p";refine Nl (x10.get pae) ?_;rw[gu<|hno rfl];refine' Ze λp11 g11 hp11 x11 e11=>?_;refine c_neE ((x10.trans x11).get e9) e11 ?_;refine XB Hr ?_;walk_at "p";exact hK _ _ ⟨_,_,rfl,xj.trans<|x9.trans<|x10.trans x11⟩
   |cons y l =>
    let⟨s1,s2⟩:=bo (x:=y) (by simp);have pb1:=x10.get pb.e1;have pb2:=x10.get pb.e2;rw[<-s1]at pb1;rw[<-s2]at pb2;walk_at "p";refine MM ((xxj.trans x10).get ef) rfl el2 ?_
    exists MM ((xxj.trans x10).get ef) rfl el
    refine XB (GD pb1 pb2 (x10.get pa.e1)<|x10.get pa.e2) ?_;walk_at "p";refine Nl (x10.get pae) ?_;rw[gx<|s1▸hcG];refine' Ze λp11 g11 hp11 x11 e11=>?_;refine c_neE ((x10.trans x11).get e9) e11 ?_;refine XB Hr ?_;walk_at "p";exact hK _ _ ⟨_,_,rfl,xj.trans<|x9.trans<|x10.trans x11⟩
  .rintro en g ⟨v8,v9,rfl,xj⟩;exact hK _ _ ⟨_,_,_,_,_,rfl,xx8.trans xj⟩
 .rintro en g ⟨v3,v5,v7,v8,v9,rfl,xx⟩;refine⟨xx.get ef,?_⟩;refine' k _ (Yk (xf.trans xx) hpd)
end
section
variable {Y:Yd}{N:Nat}{C:Yc}
def Cs(I:Yc->Prop)(hI:∀C D d N,C.gd N->I C->step C d=eL D->I D)(x:fc h Y)(gd:Y.cc.gd N)(iy:I Y.cc)(hN:N<=5000)(k:∀Z g,Mv h Y g Z->Z.cc.gd 0->I Z.cc->Z.bs=Y.bs->Z.ts=Y.ts->Q .non g):wF P (n+7) "_law_round" [.ref Y.y,ZI Y.bs Y.ts,.ref Y.y] h Q X:=by
 have xi:=x.ins;have h10:Y.bs.length<=10:=gd.no.ten;refine Os ?_;refine' JB x gd λg1 x1=>?_
 exists eW (xs:=[.tup<|Y.bs.map .int,.tup<|Y.ts.map trV]) (v:=.tup<|Y.bs.map .int) rfl
 refine' Zk (λi en g=>Sm2 λv4 Z=>Cj7 (en=[eL<|.ref Y.y,eL<|ZI Y.bs Y.ts,eL<|.ref Y.y,eL<|.tup<|Y.cc.downs.map .int,v4,eM]) (Mv h Y g Z) (Z.cc.br.map (·.1)=Y.cc.br.map (·.1)) (Z.cc.gd<|N+i) (I Z.cc) (Z.bs=Y.bs)<|Z.ts=Y.ts) ⟨_,Y,rfl,(Mv.refl x).ext x1,rfl,gd,iy,rfl,rfl⟩ (λ_ _ _ _ _=>trivial) ?_ ?_
 .rintro i v en g hv ⟨v4,Z,rfl,m,hk,gz,iz,eb,et⟩ K hK;let⟨b,hb,rfl⟩:=ZX hv;have hi:=(Î.mp hb).1
  exists Ow (ns:=Y.cc.downs)
  refine' Kk (λc1=>?_) (λc1=>?_)
  .have hs:(Y.cc.br.lookup b).isSome=eN:=by
    cases z:(Y.cc.br.lookup b).isSome with
    |true=>rfl
    |false=>exact gA (downs_mem.mpr ⟨é hb,z⟩) c1
   let⟨D,hD,hDk⟩:=Ku (C:=Z.cc) (b:=b) (by rw[hk];exact keys_look.mp hs);have zi:=m.at_.ins;rw[m.y]at zi;fail;rw[<-m.y];refine MU (d:=.tick b) m.at_ gz (by lia) (by rw[hD];rfl) λW g3 s mv=>?_;let⟨gw,q1,q2,_⟩:=Mi gz s;have iw:=hI _ _ _ _ gz iz s;rw[hD]at s;cases s;fail;rw[m.y];exact hK _ _ ⟨_,W,rfl,m.trans mv,hDk.trans hk,gw,iw,q1.trans eb,q2.trans et⟩
  .exact hK _ _ ⟨_,Z,rfl,m,hk,gz.more (by lia),iz,eb,et⟩
 rintro en g ⟨v4,Z,rfl,m,hk,gz,iz,eb,et⟩;rw[Á]at gz;have gl:=gz.len;have rl:Z.road.length=Z.cc.road.length:=rfl;have zi:=m.at_.ins;rw[m.y]at zi;fail;rw[<-m.y];refine Ul m.at_ λp2 g2 hp2 x2 e2=>?_;have nZ:p2∉Z.adr:=λz=>m.at_.taken z hp2;fail;rw[m.y];refine Zk (λi en g=>Sm3 λv4 v5 W=>Cj9 (en=[eL<|.ref Y.y,eL<|ZI Y.bs Y.ts,eL<|.ref Y.y,eL<|.tup<|Y.cc.downs.map .int,v4,v5]) (Mv h Y g W) (p2∉W.adr) (g p2=eL (.lst<|Z.road.map rdV)) (W.cc.road.length+i=Z.road.length) ((∃M,W.cc.gd M)) (I W.cc) (W.bs=Y.bs)<|W.ts=Y.ts) ⟨_,_,Z,rfl,m.ext x2,nZ,e2,rfl,⟨_,gz⟩,iz,eb,et⟩ (λ_ _ _ _ ⟨_,_,_,_,_,_,e,_,_,_,_,_⟩=>lsE e) ?_ ?_
 .rintro i v en g hv ⟨v4,v5,W,rfl,m2,np,ep,hl,⟨M,gw⟩,iw,eb,et⟩ K hK;have hi:=(Î.mp hv).1;rw[Á]at hi;have gw:W.cc.gd<|N+10:=⟨gw.no,gw.nd,gw.sub,gw.ok,gw.lv,gw.fn,gw.fr,by lia⟩
  have hs:=MK (C:=W.cc) (r:=0) (by lia) (by lia);have zi:=m2.at_.ins;rw[m2.y]at zi;fail;rw[<-m2.y];refine MU (d:=.come 0) m2.at_ gw (by lia) hs.2 λV g3 s mv=>?_;let⟨gv,q1,q2,_⟩:=Mi gw s;have iv:=hI _ _ _ _ gw iw s;have o:=mv.off np ep;have hv:V.cc.road.length+1=W.cc.road.length:=by
   replace s:(if(0:Int)<0 then eM else(W.cc.road[(0:Int).toNat]?).map _)=eL V.cc:=s
   rw[gq<|by decide]at s;let⟨r,_,e⟩:=Ë.mp s;rw[<-e];show(W.cc.road.eraseIdx 0).length+1=_;rw[υ<|by lia];lia
  fail;rw[m2.y];exact hK _ _ ⟨_,_,V,rfl,m2.trans mv,o.1,o.2,by lia,⟨_,gv⟩,iv,q1.trans eb,q2.trans et⟩
 rintro en g ⟨v4,v5,W,rfl,m2,np,ep,hl,⟨M,gw⟩,iw,eb,et⟩;rw[Á]at hl;refine' k W g m2 ⟨gw.no,gw.nd,gw.sub,gw.ok,gw.lv,gw.fn,gw.fr,by lia⟩ iw eb et
structure Mx(w:Ad)(h:Hs)(Y:Yd)(g:Hs)(Z:Yd):Prop where
 y:Z.y=Y.y
 at_:fc g Z
 row:Row g w
 nw:w∉Z.adr
 bs:Z.bs=Y.bs
 ts:Z.ts=Y.ts
 off:∀{a:Ad}{o:Ob},a≠w->a∉Y.adr->h a=eL o->a∉Z.adr/\g a=eL o
def Mx.take{f:Hs}(m:Mx w h Y g Z)(x:ExtB w g f)(r:Row f w):Mx w h Y f Z:=⟨m.y,m.at_.extb x m.nw,r,m.nw,m.bs,m.ts,λn1 n2 e=>⟨(m.off n1 n2 e).1,x.get n1 (m.off n1 n2 e).2⟩⟩
def Mx.mv{f:Hs}(m:Mx w h Y g Z)(v:Mv g Z f W)(eb:W.bs=Z.bs)(et:W.ts=Z.ts):Mx w h Y f W:=by let⟨a,b,e,r⟩:=m.row;have o:=v.off m.nw e;exact⟨v.y.trans m.y,v.at_,⟨a,b,o.2,r⟩,o.1,eb.trans m.bs,et.trans m.ts,λn1 n2 e=>let z:=m.off n1 n2 e;v.off z.1 z.2⟩
def CK(I:Yc->Prop)(hI:∀C D d N,C.gd N->I C->step C d=eL D->I D)(hw:Row h w)(x:fc h Y)(gd:Y.cc.gd N)(iy:I Y.cc)(hN:N<=4000)(nw:w∉Y.adr)(k:∀Z g,Mx w h Y g Z->Z.cc.gd (N+4)->I Z.cc->Q .non g):wF P (n+8) "_law_moved" [.ref w,.ref Y.y,ZI Y.bs Y.ts,.ref Y.y] h Q X:=by
 refine Ny ?_;refine' Zd hw (by decide) (by decide) λr g1 r0 r1 x1 w1=>?_;have m1:Mx w h Y g1 Y:=⟨rfl,x.extb x1 nw,w1,nw,rfl,rfl,λn1 n2 e=>⟨n2,x1.get n1 e⟩⟩
 refine' fS (λc1=>?_) (λc1=>?_)
 .refine' Zd w1 (by decide) (by decide) λr2 g2 r0 r1 x2 w2=>?_;refine' ⟨⟨by lia,by lia⟩,?_⟩;refine Zk (λi en g=>Sm2 λv4 Z=>Cj4 (en=[eL<|.ref w,eL<|.ref Y.y,eL<|ZI Y.bs Y.ts,eL<|.ref Y.y,v4]) (Mx w h Y g Z) (Z.cc.gd N)<|I Z.cc) ⟨_,Y,rfl,m1.take x2 w2,gd,iy⟩ (λ_ _ _ _ _=>trivial) ?_ ?_
  .rintro i v en g hv ⟨v4,Z,rfl,m,gz,iz⟩ K hK;have zi:=m.at_.ins;fail;rw[<-m.y,<-m.bs,<-m.ts];refine Cs I hI m.at_ gz iz (by lia) λW g3 mv gw iw eb et=>?_;fail;rw[m.y,m.bs,m.ts];exact hK _ _ ⟨_,W,rfl,m.mv mv eb et,gw.more (by lia),iw⟩
  .rintro en g ⟨v4,Z,rfl,m,gz,iz⟩;refine' k Z g m (gz.more<|by lia) iz
 .refine' Zd w1 (by decide) (by decide) λr2 g2 r0 r1 x2 w2=>?_;refine' ⟨⟨by lia,by lia⟩,?_⟩;refine Zk (λi en g=>Sm2 λv4 Z=>Cj4 (en=[eL<|.ref w,eL<|.ref Y.y,eL<|ZI Y.bs Y.ts,eL<|.ref Y.y,v4]) (Mx w h Y g Z) (Z.cc.gd<|N+i)<|I Z.cc) ⟨_,Y,rfl,m1.take x2 w2,gd,iy⟩ (λ_ _ _ _ _=>trivial) ?_ ?_
  .rintro i v en g hv ⟨v4,Z,rfl,m,gz,iz⟩ K hK;let⟨rfl,hi⟩:=Mw hv;have zi:=m.at_.ins;rw[m.y]at zi;fail;rw[<-m.y,<-m.bs,<-m.ts];refine Ee m.row m.at_ gz (by lia) m.nw λd g3 sd x3 w3=>?_;have m3:=m.take x3 w3;refine' MU m3.at_ gz (by lia) sd λV g4 s mv=>?_;let⟨gv,q1,q2,_⟩:=Mi gz s;have iv:=hI _ _ _ _ gz iz s;fail;rw[m.y,m.bs,m.ts];exact hK _ _ ⟨_,V,rfl,m3.mv mv q1 q2,gv,iv⟩
  .rintro en g ⟨v4,Z,rfl,m,gz,iz⟩;rw[M0]at gz;refine' k Z g m (gz.more<|by lia) iz
end
section
variable {Y:Yd}{N:Nat}{C:Yc}
abbrev Sf(C:Yc):Prop:=∃H,Safe H C
def Fh(C D:Yc)(d:Dd)(N:Nat)(g:C.gd N)(s:Sf C)(e:step C d=eL D):Sf D:=by let⟨H,s⟩:=s;exact Bb g s e
def Fm(k:∀w Y g,Row g w->fc g Y->w∉Y.adr->Y.cc.gd 0->Sf Y.cc->Q (.tup [.ref w,ZI Y.bs Y.ts,.ref Y.y]) g):wF P (n+6) "_law_made" [.scr ns] h Q X:=by refine OP ?_;refine' E9 (k:=0) λc0=>?_;refine' UZ λw g1 hw x1 w1=>?_;refine' IT w1 λbs ts g2 no x2 w2=>?_;refine' Zd w2 (by decide) (by decide) λr g3 r0 r1 x3 w3=>?_;fail;intro py hpy;refine D8 no hpy λY g4 e4 y4 cc fr x4=>?_;subst e4;have eb:Y.bs=bs:=congrArg Yc.bs cc;have et:Y.ts=ts:=congrArg Yc.ts cc;refine⟨rfl,?_⟩;fail;rw[<-eb,<-et];refine k w Y g4 (w3.ext x4) y4 (λz=>?_) (by rw[cc];exact Fq no) (by rw[cc];exact Bo no);let⟨a,b,e,_⟩:=w3;rw[fr w z]at e;cases e
def law_ok(h63:ns.length<=63)(k:∀g,Q (.bl eN) g):wF P (n+10) "law" [.scr ns] h Q X:=by
 refine Qk ?_;refine' Fm λw Y g1 w1 y1 nw gd0 sf0=>?_;refine' Ze λps g5 hps x5 e5=>?_;have y5:=y1.ext x5;have np:ps∉Y.adr:=λz=>y1.taken z hps;have cl:(cut (ns.map Val.int) (eL 1)<|eL 63).length<=62:=by rw[LM (by decide) (by decide),Ē];exact Nat.min_le_left _ _
 rw[DS]at e5 cl;rw[Á]at cl;generalize cut ns (eL 1) (eL 63)=cs at e5 cl;refine' Zk (λi en g=>Sm2 λv4 Z=>Cj9 (en=[eL<|.scr ns,eL<|.ref w,eL<|ZI Y.bs Y.ts,eL<|.ref Y.y,v4]) (Z.y=Y.y) (fc g Z) (Z.cc.gd<|4*i) (Sf Z.cc) (Z.bs=Y.bs) (Z.ts=Y.ts) (ps∉Z.adr)<|g ps=eL (.lst<|cs.map .int)) ⟨_,Y,rfl,rfl,y5,gd0,sf0,rfl,rfl,np,e5⟩ (λ_ _ _ _ ⟨_,_,_,_,_,_,_,_,_,_,e⟩=>lsE e) ?_ ?_
 .rintro i v en g hv ⟨v4,Z,rfl,ey,yz,gz,sz,eb,et,np,ep⟩ K hK;let⟨c,hc,rfl⟩:=ZX hv;have hi:=(Î.mp hc).1;refine' UZ λu g6 hu x6 w6=>?_;have nu:u∉Z.adr:=λz=>yz.taken z hu;have nps:ps≠u:=Za ep hu;fail;rw[<-ey,<-eb,<-et];refine CK Sf Fh w6 (yz.ext x6) gz sz (by lia) nu λV g7 m gv sv=>?_;have o:=m.off nps np<|x6.get ep;let⟨I,sv'⟩:=sv;fail;rw[<-m.y,<-m.bs,<-m.ts];refine NO m.at_ gv sv' λg8 x8=>?_;walk_at "p";rw[m.y,m.bs,m.ts,ey,eb,et];exact hK _ _ ⟨_,V,rfl,m.y.trans ey,m.at_.ext x8,gv.more (by lia),⟨I,sv'⟩,m.bs.trans eb,m.ts.trans et,o.1,x8.get o.2⟩
 .rintro en g ⟨v4,Z,rfl,ey,yz,gz,⟨I,sz⟩,eb,et,np,ep⟩;fail;rw[<-ey,<-eb,<-et];exact NO yz gz sz λg7 x7=>k _
end
end O
set_option maxRecDepth 1000000
set_option maxHeartbeats 0
namespace My
open PySem L2 Snd PySem.W
abbrev top(i:Nat):Stmt:=PySem.Challenge.pw_shutways_k52_whole_parts.main.body.getD i<|.Pass ⟨0,0,0,0⟩
abbrev inC:Stmt->Nat->Stmt
 |.ClassDef _ _ _ b _ _ _ _ _ _ _,j=>b.getD j<|.Pass ⟨0,0,0,0⟩
 |s,_=>s
abbrev x0:Ds:=⟨top 7,["thing"],["thing"],O.To⟩
abbrev x1:Ds:=⟨top 8,["thing","least","greatest"],["thing","least","greatest"],O.Tu⟩
abbrev x2:Ds:=⟨top 14,["bridges","ties"],["bridges","ties"],O.T0⟩
abbrev x3:Ds:=⟨top 15,["things"],["things"],O.Tx⟩
abbrev x4:Ds:=⟨top 16,["thing","bridges"],["thing","bridges"],O.Tn⟩
abbrev x5:Ds:=⟨top 17,["tie"],["tie"],O.Tv⟩
abbrev x6:Ds:=⟨top 18,["net","bridge","found","place","tie"],["net","bridge"],O.T1⟩
abbrev x7:Ds:=⟨top 19,["tie","bridge"],["tie","bridge"],O.Tk⟩
abbrev x8:Ds:=⟨top 21,["yard","ways","place","tie","ends"],["yard"],O.T4⟩
abbrev x9:Ds:=⟨top 23,["yard","bridge","ways","having","sent"],["yard","bridge"],O.Tj⟩
abbrev x10:Ds:=⟨top 24,["yard","thing"],["yard","thing"],O.Tm⟩
abbrev x11:Ds:=⟨top 25,["ways","had","bridge","came","goals","place","child","parent"],["ways","had"],O.T7⟩
abbrev x12:Ds:=⟨top 26,["yard","bridge"],["yard","bridge"],O.T5⟩
abbrev x13:Ds:=⟨top 35,["one","other"],["one","other"],O.T3⟩
abbrev x14:Ds:=⟨top 37,["bridge","offers","better"],["bridge","offers"],O.Tw⟩
abbrev x15:Ds:=⟨top 43,["some","words"],["some"],O.T6⟩
abbrev x16:Ds:=⟨top 45,["script","k"],["script","k"],O.Tc⟩
abbrev x17:Ds:=⟨top 46,["cell"],["cell"],O.Tl⟩
abbrev x18:Ds:=⟨top 47,["row","many","told"],["row","many"],O.Tp⟩
abbrev x19:Ds:=⟨top 48,["row","many","step","k","bridges","ties","one","other","cost"],["row"],O.Tg⟩
abbrev x20:Ds:=⟨top 49,["row","net","downs","place","bridge"],["row","net","downs"],O.Tq⟩
abbrev x21:Ds:=⟨top 50,["row","yard","net","road","downs","ups","kind","place"],["row","yard","net"],O.Td⟩
abbrev x22:Ds:=⟨top 51,["yard","net","doer","downs","bridge","letter"],["yard","net","doer"],O.Ti⟩
abbrev x23:Ds:=⟨top 52,["row","yard","net","doer","k"],["row","yard","net","doer"],O.Tf⟩
abbrev x24:Ds:=⟨top 53,["script","row","net"],["script"],O.Te⟩
abbrev x25:Ds:=⟨top 54,["yard","net","parts","bridge","told","some","ways","ties","other","both"],["yard","net"],O.Th⟩
abbrev x26:Ds:=⟨top 55,["script","row","net","yard","cell"],["script"],O.Ta⟩
abbrev z0:Ds:=⟨inC (top 39) 0,["self","number","life","ties","greatest","place","neighbour","cost"],["self","number","life","ties","greatest"],O.SU⟩
abbrev z1:Ds:=⟨inC (top 39) 2,["self"],["self"],O.S1⟩
abbrev z2:Ds:=⟨inC (top 39) 3,["self"],["self"],O.S5⟩
abbrev z3:Ds:=⟨inC (top 39) 4,["self","place"],["self","place"],O.SW⟩
abbrev z4:Ds:=⟨inC (top 39) 5,["self","place","neighbour","cost"],["self","place","neighbour","cost"],O.S8⟩
abbrev z5:Ds:=⟨inC (top 39) 6,["self","place"],["self","place"],O.SZ⟩
abbrev z6:Ds:=⟨inC (top 39) 7,["self","place","letter","held"],["self","place","letter"],O.SX⟩
abbrev z7:Ds:=⟨inC (top 39) 8,["self","letters"],["self"],O.S7⟩
abbrev z8:Ds:=⟨inC (top 39) 9,["self","older","place","held"],["self"],O.S2⟩
abbrev z9:Ds:=⟨inC (top 39) 10,["self","offers","place","held","neighbour","cost","best","root"],["self"],O.S4⟩
abbrev z10:Ds:=⟨inC (top 39) 11,["self","label"],["self","label"],O.S6⟩
abbrev z11:Ds:=⟨inC (top 39) 12,["self","place","root","cost","over","rests","age","ahead"],["self","place"],O.S3⟩
abbrev z12:Ds:=⟨inC (top 39) 13,["self","place","held"],["self","place"],O.S0⟩
abbrev z13:Ds:=⟨inC (top 39) 14,["self","place","held"],["self","place"],O.SV⟩
abbrev z14:Ds:=⟨inC (top 39) 15,["self","place"],["self","place"],O.SY⟩
abbrev z15:Ds:=⟨inC (top 42) 0,["self","net","greatest","number"],["self","net","greatest"],O.TF⟩
abbrev z16:Ds:=⟨inC (top 42) 2,["self"],["self"],O.TH⟩
abbrev z17:Ds:=⟨inC (top 42) 3,["self"],["self"],O.TC⟩
abbrev z18:Ds:=⟨inC (top 42) 4,["self"],["self"],O.TL⟩
abbrev z19:Ds:=⟨inC (top 42) 5,["self","fallen"],["self"],O.TK⟩
abbrev z20:Ds:=⟨inC (top 42) 8,["self","number"],["self","number"],O.TY⟩
abbrev z21:Ds:=⟨inC (top 42) 9,["self","place","one","other","cost"],["self","place"],O.TN⟩
abbrev z22:Ds:=⟨inC (top 42) 10,["self","number","place"],["self","number","place"],O.TM⟩
abbrev z23:Ds:=⟨inC (top 42) 11,["self","place"],["self","place"],O.TD⟩
abbrev z24:Ds:=⟨inC (top 42) 12,["self","some","words","number"],["self","some"],O.TW⟩
abbrev z25:Ds:=⟨inC (top 42) 13,["self","number","place","letter","goal"],["self","number"],O.Tz⟩
abbrev z26:Ds:=⟨inC (top 42) 14,["self","place","start","goal","tie","letter"],["self","place"],O.TX⟩
abbrev z27:Ds:=⟨inC (top 42) 15,["self","place"],["self","place"],O.TV⟩
abbrev z28:Ds:=⟨inC (top 42) 16,["self","number"],["self","number"],O.TU⟩
abbrev z29:Ds:=⟨inC (top 42) 17,["self","place"],["self","place"],O.TB⟩
abbrev z30:Ds:=⟨inC (top 42) 18,["self","number"],["self","number"],O.S9⟩
abbrev z31:Ds:=⟨inC (top 42) 19,["self","place"],["self","place"],O.TZ⟩
abbrev z32:Ds:=⟨inC (top 42) 20,["self","number","place","neighbour","cost"],["self","number"],O.TR⟩
abbrev z33:Ds:=⟨inC (top 42) 21,["self","place","one","other","cost","stands","near","far"],["self","place"],O.TQ⟩
abbrev tb:Tb where
 fs:=[("is_whole",x0),("is_whole_between",x1),("make_net",x2),("are_bridges",x3),("is_tie",x4),("lesser_end_first",x5),("neighbours",x6),("far_end",x7),("open_ways",x8),("carried",x9),("is_standing",x10),("sent_on",x11),("part_of",x12),("newer",x13),("best_offer",x14),("read_deed",x15),("_law_cell_at",x16),("_law_row",x17),("_law_take",x18),("_law_net",x19),("_law_turned",x20),("_law_drawn",x21),("_law_round",x22),("_law_moved",x23),("_law_made",x24),("_law_right",x25),("law",x26)]
 ms:=[⟨"Bridge","__init__","Bridge.__init__",z0⟩,⟨"Bridge","label","Bridge.label",z1⟩,⟨"Bridge","stamp","Bridge.stamp",z2⟩,⟨"Bridge","held","Bridge.held",z3⟩,⟨"Bridge","up","Bridge.up",z4⟩,⟨"Bridge","down","Bridge.down",z5⟩,⟨"Bridge","hear","Bridge.hear",z6⟩,⟨"Bridge","tick","Bridge.tick",z7⟩,⟨"Bridge","let_grow_older","Bridge.let_grow_older",z8⟩,⟨"Bridge","reckon_label","Bridge.reckon_label",z9⟩,⟨"Bridge","take_label","Bridge.take_label",z10⟩,⟨"Bridge","letter_over","Bridge.letter_over",z11⟩,⟨"Bridge","is_rested_on","Bridge.is_rested_on",z12⟩,⟨"Bridge","is_agreed_to","Bridge.is_agreed_to",z13⟩,⟨"Bridge","end","Bridge.end",z14⟩,⟨"Yard","__init__","Yard.__init__",z15⟩,⟨"Yard","net","Yard.net",z16⟩,⟨"Yard","greatest","Yard.greatest",z17⟩,⟨"Yard","road","Yard.road",z18⟩,⟨"Yard","down","Yard.down",z19⟩,⟨"Yard","bridge","Yard.bridge",z20⟩,⟨"Yard","ends","Yard.ends",z21⟩,⟨"Yard","end_at","Yard.end_at",z22⟩,⟨"Yard","has_tie","Yard.has_tie",z23⟩,⟨"Yard","deed","Yard.deed",z24⟩,⟨"Yard","tick_of","Yard.tick_of",z25⟩,⟨"Yard","come","Yard.come",z26⟩,⟨"Yard","take_off","Yard.take_off",z27⟩,⟨"Yard","fall_of_bridge","Yard.fall_of_bridge",z28⟩,⟨"Yard","fall_of_tie","Yard.fall_of_tie",z29⟩,⟨"Yard","back_of_bridge","Yard.back_of_bridge",z30⟩,⟨"Yard","back_of_tie","Yard.back_of_tie",z31⟩,⟨"Yard","set_ties_of","Yard.set_ties_of",z32⟩,⟨"Yard","set_tie","Yard.set_tie",z33⟩]
 cs:=[("MOST_BRIDGES",(.int 10)),("MOST_TIES",(.int 16)),("GREATEST_NUMBER",(.int 999)),("GREATEST_COST",(.int 1000)),("NUMBER",(.int 0)),("STAMP",(.int 1)),("ROOT",(.int 2)),("COST",(.int 3)),("AGE",(.int 4)),("RESTS",(.int 5)),("AGREES",(.int 6)),("DEEDS",(.tup [(.tup [(.str "tick")]),(.tup [(.str "come")]),(.tup [(.str "lost")]),(.tup [(.str "fall"),(.str "bridge")]),(.tup [(.str "fall"),(.str "tie")]),(.tup [(.str "back"),(.str "bridge")]),(.tup [(.str "back"),(.str "tie")])]))]
 cl:=["Bridge","Yard"]
 fl:=["age_let_go","greatest_age","held_by_place","label_now","letters_on_road","life","lives","net_made_of","number","standing","ticks_had","ties_by_place","ties_fallen","version"]
 xs:=[]
abbrev pg:O.Pg:=λf=>(([("is_whole",O.To),("is_whole_between",O.Tu),("make_net",O.T0),("are_bridges",O.Tx),("is_tie",O.Tn),("lesser_end_first",O.Tv),("neighbours",O.T1),("far_end",O.Tk),("open_ways",O.T4),("carried",O.Tj),("is_standing",O.Tm),("sent_on",O.T7),("part_of",O.T5),("newer",O.T3),("best_offer",O.Tw),("read_deed",O.T6),("_law_cell_at",O.Tc),("_law_row",O.Tl),("_law_take",O.Tp),("_law_net",O.Tg),("_law_turned",O.Tq),("_law_drawn",O.Td),("_law_round",O.Ti),("_law_moved",O.Tf),("_law_made",O.Te),("_law_right",O.Th),("law",O.Ta),("Bridge.__init__",O.SU),("Bridge.label",O.S1),("Bridge.stamp",O.S5),("Bridge.held",O.SW),("Bridge.up",O.S8),("Bridge.down",O.SZ),("Bridge.hear",O.SX),("Bridge.tick",O.S7),("Bridge.let_grow_older",O.S2),("Bridge.reckon_label",O.S4),("Bridge.take_label",O.S6),("Bridge.letter_over",O.S3),("Bridge.is_rested_on",O.S0),("Bridge.is_agreed_to",O.SV),("Bridge.end",O.SY),("Yard.__init__",O.TF),("Yard.net",O.TH),("Yard.greatest",O.TC),("Yard.road",O.TL),("Yard.down",O.TK),("Yard.bridge",O.TY),("Yard.ends",O.TN),("Yard.end_at",O.TM),("Yard.has_tie",O.TD),("Yard.deed",O.TW),("Yard.tick_of",O.Tz),("Yard.come",O.TX),("Yard.take_off",O.TV),("Yard.fall_of_bridge",O.TU),("Yard.fall_of_tie",O.TB),("Yard.back_of_bridge",O.S9),("Yard.back_of_tie",O.TZ),("Yard.set_ties_of",O.TR),("Yard.set_tie",O.TQ)]:List<|String×O.Fn).lookup f)
instance:O.Al pg:=by constructor<;>rfl
variable {α:Type} {p:List α->Prop}
def ar1(h:∀a0,p [a0])(us:List α)(e:us.length=1):p us:=match us,e with|[a0],_=>h a0
def ar2(h:∀a0 a1,p [a0,a1])(us:List α)(e:us.length=2):p us:=match us,e with|[a0,a1],_=>h a0 a1
def ar3(h:∀a0 a1 a2,p [a0,a1,a2])(us:List α)(e:us.length=3):p us:=match us,e with|[a0,a1,a2],_=>h a0 a1 a2
def ar4(h:∀a0 a1 a2 a3,p [a0,a1,a2,a3])(us:List α)(e:us.length=4):p us:=match us,e with|[a0,a1,a2,a3],_=>h a0 a1 a2 a3
def ar5(h:∀a0 a1 a2 a3 a4,p [a0,a1,a2,a3,a4])(us:List α)(e:us.length=5):p us:=match us,e with|[a0,a1,a2,a3,a4],_=>h a0 a1 a2 a3 a4
variable {P:String->Ds->Prop}
def mc{f:String}{x:Ds}{l:List (String×Ds)}(h:P f x)(k:∀g y,(g,y)∈l->P g y):∀g y,(g,y)∈(f,x)::l->P g y:=λg y m=>by
 rcases È.mp m with e|m
 .cases e;exact h
 .exact k g y m
def mn:∀g y,(g,y)∈([]:List<|String×Ds)->P g y:=λ_ _ m=>nomatch m
def GL:∀f x,(f,x)∈tb.fs.drop 24->x.Ok tb:=by
 iterate 3 refine mc ⟨by kernel_rfl,by kernel_rfl⟩ ?_
 exact mn
def Gz:∀f x,(f,x)∈tb.fs.drop 12->x.Ok tb:=by
 iterate 12 refine mc ⟨by kernel_rfl,by kernel_rfl⟩ ?_
 exact GL
def tab_ok:∀f x,(f,x)∈tb.fs->x.Ok tb:=by
 iterate 12 refine mc ⟨by kernel_rfl,by kernel_rfl⟩ ?_
 exact Gz
def tab_pg:∀f x,(f,x)∈tb.fs->pg f=eL x.d:=by repeat first|exact mn|refine mc rfl ?_
def tab_bd:∀f x,(f,x)∈tb.fs->Hd.Bd (gC f) (gC f) x:=by repeat first|exact mn|refine mc (λ_ _ _ _ _ _=>(by first|exact ar1 λ_=>rfl|exact ar2 λ_ _=>rfl|exact ar3 λ_ _ _=>rfl|exact ar4 λ_ _ _ _=>rfl|exact ar5 λ_ _ _ _ _=>rfl)) ?_
def md{P:α->Prop}{x:α}{l:List α}(h:P x)(k:∀y,y∈l->P y):∀y,y∈x::l->P y:=λy m=>by
 rcases È.mp m with e|m
 .cases e;exact h
 .exact k y m
def me{P:α->Prop}:∀y,y∈([]:List α)->P y:=λ_ m=>nomatch m
def EI:∀y,y∈tb.ms.drop 24->y.x.Ok tb:=by
 iterate 10 refine md ⟨by kernel_rfl,by kernel_rfl⟩ ?_
 exact me
def F8:∀y,y∈tb.ms.drop 12->y.x.Ok tb:=by
 iterate 12 refine md ⟨by kernel_rfl,by kernel_rfl⟩ ?_
 exact EI
def tab_om:∀y,y∈tb.ms->y.x.Ok tb:=by
 iterate 12 refine md ⟨by kernel_rfl,by kernel_rfl⟩ ?_
 exact F8
def tab_pm:∀y,y∈tb.ms->pg (y.C ++ "." ++ y.m)=eL y.x.d:=by repeat first|exact me|refine md rfl ?_
def tab_bm:∀y,y∈tb.ms->Hd.Bd (gC y.m) (gC y.qual) y.x:=by repeat first|exact me|refine md (λ_ _ _ _ _ _=>(by first|exact ar1 λ_=>rfl|exact ar2 λ_ _=>rfl|exact ar3 λ_ _ _=>rfl|exact ar4 λ_ _ _ _=>rfl|exact ar5 λ_ _ _ _ _=>rfl)) ?_
def law_in:("law",x26)∈tb.fs:=é (i:=26) rfl
noncomputable abbrev pr:Program:=PySem.Challenge.rw_shutways_k52_whole_parts.row.prog
noncomputable abbrev vw:Program:=PySem.W.view pr [0,2,3,4,5,7,8,10,11,12,13,14,15,16,17,18,19,21,23,24,25,26,28,29,30,31,32,33,34,35,37,39,41,42,43,45,46,47,48,49,50,51,52,53,54,55]
noncomputable abbrev xt(s:Shared):Bool:=xlAt vw [] s&&recOk (RowW.records PySem.Challenge.rw_shutways_k52_whole_parts.row.toRowW) s
def said:PySem.Challenge.rw_shutways_k52_whole_parts.wellSaid=eN:=by rw[Fast.te9446332074065402090];kernel_rfl
def l1:∀w os,(Hd.runY pr 12000 w os).map (Hd.stY pr w)=eL eN:=λw os=>by kernel_rfl
def l2:∀w os,(Hd.runY pr 12000 w os).map (λs=>Hd.seenY vw [] (Hd.modsY pr.main.body) xt eN s.abs)=eL (openGood vw []):=λw os=>by kernel_rfl
def l3:∀w os,(Hd.runY pr 12000 w os).map (λs=>(Hd.hook tb).obs s.abs)=eL ((Hd.hook tb).val w):=λw os=>by kernel_rfl
def left:LeftO pr vw [] xt (Hd.hook tb).obs (Hd.hook tb).val 12000:=Hd.left_of (by kernel_rfl) rfl (λs=>by kernel_rfl) l1 l2 l3
end My
open PySem PySem.W PyProof.Rows
theorem PySem.Challenge.cw_shutways_k52_whole_parts_holds : PySem.Challenge.rw_shutways_k52_whole_parts.Holds := by
 refine holds_law My.said λsaid=>?_;refine holds_open (q:=My.vw) (loose:=[]) (Xt:=My.xt) (XP:=XL My.vw []) (YP:=(Hd.hook My.tb).says) My.left (Hook.of _) (Hook.keeps _) (λs e=>xl_of s (cT.mp e).1) XL.keeps (by rfl) (by rfl) (by rfl) (λs e=>recFacts_of (cT.mp e).2) (by rfl) said (by decide +kernel) ⟨rfl,rfl,rfl,rfl,rfl,by decide +kernel⟩ ?hw ?hc
 case hw=>w_on;w_witness2
 case hc=>exact Hd.law_walk (k:=9) rfl rfl rfl ⟨rfl,by decide,by decide⟩ My.law_in rfl rfl My.tab_pg My.tab_pm My.tab_ok My.tab_om My.tab_bd My.tab_bm λns hl=>O.law_ok (n:=0) hl λ_=>rfl
